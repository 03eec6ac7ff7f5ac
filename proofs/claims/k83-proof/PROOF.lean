import PyProof.Rows.All
import Wide.All
import OpenK.AllK
import Wide.FinOn
import Lean
import PyProof.EqAt
import PyProof.EqKinds
import PyProof.TupleCall
import PyProof.DictCompW
import PySem.SetOps
import PyProof.SetScanFacts
import PyProof.SetKind
import PyProof.TupleKey
import PyProof.DictRoadsH
import PyProof.IsRules
import PyProof.Rows.SetFrom
import PyProof.WalksMore
import PyProof.NeKinds
import KE.KSortTup
import KE.KDictOf
import PyProof.DictFindH
import PyProof.AttrMissSeq
import KE.KDictList
import PyProof.CollectWalk
import PyProof.StrBlock2
import PyProof.SeqI3
import PyProof.EnumMake
import PyProof.WalksEnum
import PyProof.DictValues
import PyProof.DictWalks
import KE.KRevSl
import PyProof.ListMulAny
import PyProof.Rows.ListMul
import PyProof.Draws
import PyProof.Rows.IntBool
import KE.KRevIter
import PyProof.Rows.FStr
import PyProof.Rows.StrNews
import PyProof.Rows.StrSplitAre
import PyProof.CallStr
import KE.KIntText
import PyProof.AutoListH
import KE.KPairComp
import PyProof.ExcClass
import PyProof.ExcClass2
import PyProof.ExcClass3
import PyProof.ExcInit
import PyProof.InstStore
import PyProof.InstStoreFacts
import OpenK.KRaise
import PyProof.ExcArgsOwn
import PyProof.ExcAttrAll.ValueError
import PyProof.IsiBase
import PyProof.NsDelKeeps
import KE.KIsAll
import PySem.Challenge.RW_holdword_k83_no_claims
noncomputable section
set_option hygiene false
local macro_rules
|`(1e0)=>`((by rfl))
|`(1e1)=>`(⟨rfl,rfl,rfl,by decide +kernel,rfl,by decide +kernel,by decide +kernel⟩)
|`(1e2)=>`(Yi 4e6 X.env=(false,eval e X.env)::Yi es X.env)
|`(1e3)=>`((hr.mono 2e6))
|`(1e4)=>`(Value->Shared->Prop)
|`(1e5)=>`(Str->Option Value)
|`(1e6)=>`((Zaf G_qau 1e3 1e0 m_qau k_qau b_qau (@Zaa _ _ _ _ _ (Zab 0) 5e9 1e0)))
|`(1e7)=>`((CompCx X (vs++fs) scope C s₀ H₀ ex pn))
|`(1e8)=>`(List (Addr×Obj))
|`(1e9)=>`((@Zaa _ _ _ _ _ (Zab 0) Zac 1e0))
|`(2e0)=>`((mVar 0))
|`(2e1)=>`(Inv X pins σ H s)
|`(2e2)=>`((model X.prog X.w))
|`(2e3)=>`(PSt->M (List SV))
|`(2e4)=>`((Zaj (Zaq hr) (Zab 0) Zad))
|`(2e5)=>`((mOp 5e6 2e0 6e6))
|`(2e6)=>`((by decide))
|`(2e7)=>`(PSt->M SV)
|`(2e8)=>`((x==("__debug__":Str))=false)
|`(2e9)=>`(List Addr)
|`(3e0)=>`((backTo pos (Yi es X.env)).any (·.1)=false)
|`(3e1)=>`(List Str)
|`(3e2)=>`((by simp))
|`(3e3)=>`((aCons 2e0 aNil))
|`(3e4)=>`(List Value)
local macro_rules
|`(3e5)=>`((by decide +kernel))
|`(3e6)=>`((Or.inl rfl))
|`(3e7)=>`((.ListComp elt [⟨tg,iter,ifs,0⟩] scope pos))
|`(3e8)=>`((mC (.int 1)))
|`(3e9)=>`(A.units < cLine)
|`(4e0)=>`((by lia))
|`(4e1)=>`((model prog w))
|`(4e2)=>`(⟨h,g,d,t,os⟩)
|`(4e3)=>`((s.heap.objs.size,{ cls:=.type "list",data:=.seq its.toArray k }))
|`(4e4)=>`(some (.c C.length))
|`(4e5)=>`(List Expr)
|`(4e6)=>`((e::es))
|`(4e7)=>`((by exact ⟨rfl,rfl,rfl,rfl,rfl,rfl,rfl⟩))
|`(4e8)=>`(PSt->M Bool)
|`(4e9)=>`(PV->PSt->Option PSt)
|`(5e0)=>`((mVar 1))
|`(5e1)=>`(X.fn x=true\/X.env.scope.names.lookup x=some .local)
|`(5e2)=>`(⟨(List.toArray [c])⟩)
|`(5e3)=>`((@Zaa _ _ _ _ _ (Zab 1) Zac 1e0))
|`(5e4)=>`((mC (.int 2)))
|`(5e5)=>`(#[.lst (ws.map .str)])
|`(5e6)=>`((g2 ixQ))
|`(5e7)=>`(["_law_left_here","_law_many"])
|`(5e8)=>`((mVar 2))
|`(5e9)=>`((@Zaa _ _ _ _ _ Zad Zac 1e0))
local macro_rules
|`(6e0)=>`((mCB (g1 lenH) 3e3))
|`(6e1)=>`((List PV))
|`(6e2)=>`(["READ_FORMS","MARK_FORMS","HoldError","NoTown","NoPile","NoLetter","NoRow"])
|`(6e3)=>`(PSt->Cs->Prop)
|`(6e4)=>`(FnOk P w K mg base CX0 3 f_qbv fd_qbv ["holds"] (liftSp K F_qbv))
|`(6e5)=>`((nomark _))
|`(6e6)=>`((mC (.int 0)))
|`(6e7)=>`((@Zaa _ _ _ _ _ Zae (@Zaa _ _ _ _ _ Zae (@Zaa _ _ _ _ _ Zae (@Zaa _ _ _ _ _ Zae (@Zaa _ _ _ _ _ Zae 14e4 1e0) 1e0) 1e0) 1e0) 1e0))
|`(6e8)=>`((cxOf (CXr P w) P w K mg base N qual scope f cd A outer s H E))
|`(6e9)=>`(["_law_left_here"])
|`(7e0)=>`((mFn F_qau (aCons 2e0 (aCons (mC (.int 4)) aNil))))
|`(7e1)=>`((aCons 5e0 aNil))
|`(7e2)=>`((k'==Xb&&env.scope.kind==.function&&env.kindOf n==some .cell))
|`(7e3)=>`(some (.c k))
|`(7e4)=>`((Zat 1e0 T.b_len 1e9))
|`(7e5)=>`(#[.str "abcdefghijklmnopqrstuvwxyz"])
|`(7e6)=>`((backTo cpos (Yi es X.env)).any (·.1)=false)
|`(7e7)=>`((.str "abcdefghijklmnopqrstuvwxyz"))
|`(7e8)=>`((@Zaa _ _ _ _ _ 2e4 Zac 1e0))
|`(7e9)=>`(X.N[i]? = some x)
|`(8e0)=>`(["_law_script","_law_k"])
|`(8e1)=>`((defScope st))
|`(8e2)=>`(HRep s.heap (.tup ps) u)
|`(8e3)=>`(HRep s.heap 13e6 u)
|`(8e4)=>`(CSc X scope vs fs fr)
local macro_rules
|`(8e5)=>`(sr.step f1 c1)
|`(8e6)=>`((ι++ι2))
|`(8e7)=>`(["word"])
|`(8e8)=>`(⟨_,rfl⟩)
|`(8e9)=>`((∀b∈fp,H' b=none))
|`(9e0)=>`((mC (.int 3)))
|`(9e1)=>`(["_law_word_here","_law_least","_law_most"])
|`(9e2)=>`(List Nat)
|`(9e3)=>`(PSt->M PF)
|`(9e4)=>`(∀x,Y1 iter X.env x=pure x)
|`(9e5)=>`([.Subscript o1 i1 p1,.Subscript o2 i2 p2])
|`(9e6)=>`((mTest (mOp (g2 inP) (mC (.str ".")) 2e0)))
|`(9e7)=>`((clFrom X.env.cells scope.names []))
|`(9e8)=>`(Cs->SV->SV->Option SV)
|`(9e9)=>`((A.deeper (envOfC qual 8e1 s.heap.objs.size f cdv)))
|`(10e0)=>`((.Call (.Name x p) 4e6 [] pos))
|`(10e1)=>`((apos.endLine==cpos.line)=true)
|`(10e2)=>`(X.calm=true)
|`(10e3)=>`((ZaA I q 3e2))
|`(10e4)=>`(List (Str×Addr))
|`(10e5)=>`((ha pins s σ H _ I h))
|`(10e6)=>`(FnOk P w K mg base CX0 1 f_qau fd_qau 5e7 (liftSp K F_qau))
|`(10e7)=>`((.bl false))
|`(10e8)=>`(CR K ι H C)
|`(10e9)=>`(Nat->Nat->Bool)
local macro_rules
|`(11e0)=>`((.ref s.heap.objs.size))
|`(11e1)=>`(Xg e (some (.Name x pos')) pos.line X.env=pure false)
|`(11e2)=>`(["thing"])
|`(11e3)=>`(⟨(List.toArray [32])⟩)
|`(11e4)=>`(X.env.scope.names.lookup x=some .local)
|`(11e5)=>`(PSt->M 6e1)
|`(11e6)=>`((XO nm q C N Ab bs sn sub ab col dd k0 k1 k2 k3 k5))
|`(11e7)=>`(Result->Shared->Prop)
|`(11e8)=>`((@Zaa _ _ _ _ _ (Zab 2) Zac 1e0))
|`(11e9)=>`((assign (.Name x px) X.env))
|`(12e0)=>`(V->List V->Hp->VK->Prop)
|`(12e1)=>`(#[.str z])
|`(12e2)=>`((EP X pins σ Q))
|`(12e3)=>`(List V->Hp->VK->Prop)
|`(12e4)=>`((k==Xb&&env.scope.kind==.function&&env.kindOf n==some .cell))
|`(12e5)=>`((mVar 4))
|`(12e6)=>`(["_law_found","_law_due"])
|`(12e7)=>`((@Zaa _ _ _ _ _ (ZaV 1e0 T.b_tuple 1e0) Zac 1e0))
|`(12e8)=>`(∀C s₀ H₀ ex pn,PTs 1e7 ifs tt)
|`(12e9)=>`((Option Value))
|`(13e0)=>`((by simp[ZS.us]))
|`(13e1)=>`((.ListComp elt gens scope pos))
|`(13e2)=>`(L2.Binds K fd_qbv ["holds"] [])
|`(13e3)=>`(QAM X 4e6 fs)
|`(13e4)=>`((fun _ _ _ _ _=>Za2))
local macro_rules
|`(13e5)=>`((@Zaa _ _ _ _ _ (ZaV 1e0 T.b_str 1e0) Zac 1e0))
|`(13e6)=>`((.lst ps))
|`(13e7)=>`((aCons (mC (.ty "str")) aNil))
|`(13e8)=>`(mg "need"=some (.ref f_qbv))
|`(13e9)=>`((.bl true))
|`(14e0)=>`((g2 addP))
|`(14e1)=>`((hName 0))
|`(14e2)=>`((mVar 3))
|`(14e3)=>`((sst k cl n d a SL))
|`(14e4)=>`((@Zaa _ _ _ _ _ Zae Zac 1e0))
|`(14e5)=>`(∀C s₀ H₀ ex pn,PG 1e7 tg g)
|`(14e6)=>`(∀σ H Q,t' σ H Q->t σ H Q)
local macro_rules
|`(tactic|sleep 1)=>`(tactic|(obtain ⟨ι,ρ,C,z,C',sr,e,q⟩:=h;obtain ⟨x,C1,e1,e⟩:=Zag e))
|`(tactic|sleep 2)=>`(tactic|(intro X hP hw hK hc i pins s σ H E I hf st hg;subst hP hw hK))
|`(tactic|sleep 3)=>`(tactic|intro pins s σ H x y v u Q I rx ry h)
|`(tactic|sleep 4)=>`(tactic|(have a0:=a;have b0:=b;unfold HRep at a b;obtain ⟨l,us,rfl,h1,r1⟩:=a;obtain ⟨l',vs,rfl,h2,r2⟩:=b;unfold dep at hu))
|`(tactic|sleep 5)=>`(tactic|obtain ⟨ι,ρ,C,fl,C',sr,e,d⟩:=h_)
|`(tactic|sleep 6)=>`(tactic|intro ι H C p q vx vy z Q cr lx ly e k)
|`(tactic|sleep 7)=>`(tactic|obtain ⟨ι,ρ,C,z,C',sr,e,q⟩:=h_)
|`(tactic|sleep 8)=>`(tactic|obtain ⟨t,rfl⟩:=rx)
|`(tactic|sleep 9)=>`(tactic|intro pins s σ H Q I h)
|`(tactic|sleep 10)=>`(tactic|generalize ws.map PV.str=WS at *)
|`(tactic|sleep 11)=>`(tactic|generalize ps.map Pq.P=PS at *)
|`(tactic|sleep 12)=>`(tactic|((refine Za5 h4 fun _ s5 h_=>?_);obtain ⟨x,H5,J5,r5,y5,st5,fr5⟩:=h_;have J5':=J5.pinned (stat fr5) (T.obj _ _ st5);have go1:=hG _ s5 σ3 H5 x u _ J5' r5 (step x H5 y5)))
|`(tactic|sleep 13)=>`(tactic|obtain ⟨f0,f1,f2,f3,f4,f5⟩:=hf it 3e2)
|`(tactic|sleep 14)=>`(tactic|(unfold HRep at a;obtain ⟨_,rfl⟩:=a;cases q<;>unfold HRep at b))
|`(tactic|sleep 15)=>`(tactic|exact b.elim)
set_option hygiene true
open Array renaming length_toList → YY, toList_append → Xj, getElem?_eq_some_iff → Xv, append_assoc → Vs
open Bool renaming false_ne_true → Yh, and_eq_true → YG, eq_iff_iff → WD, false_eq_true → WK, eq_false_iff → W0, and_eq_true_iff → Ve, and_self → Vh, not_eq_true' → VG, or_eq_true → V5
open False renaming elim → Xl
open ForInStep renaming yield → Wn
open Int renaming emod_lt_of_pos → XN, emod_nonneg → X3, toNat_natCast → VF
open List renaming mem_append_right → Yd, getElem?_eq_getElem → Ye, mem_cons → Yg, size_toArray → Yn, append_nil → Yq, not_mem_nil → Yr, mem_cons_of_mem → Yw, getElem?_append_left → Yx, lookup_cons → YA, getElem?_eq_some_iff → YC, length_cons → YD, mem_append → YE, getElem?_eq_none_iff → YF, mem_append_left → YH, append_assoc → YI, replicate → YJ, map_cons → YM, getElem?_append_right → YR, mem_cons_self → YT, all_eq_true → YV, length_map → YX, getElem?_set_self → Y0, length_append → Y3, eq_nil_of_length_eq_zero → Y6, getElem?_map → Y7, getElem?_set_ne → Y8, mem_of_getElem? → Y9, mem_singleton → Xc, filterMap_cons → Xh, length_take → Xr, take_of_length_le → Xw, getElem?_take_of_lt → Xy, any_cons → XA, range → XD, drop_eq_getElem_cons → XU, find?_cons → X0, nil_append → X2, mem_map → X4, map_nil → X5, replicate_succ → Wb, getElem_mem → We, getD_eq_getElem?_getD → Wr, mem_of_mem_drop → Wt, mem_of_mem_take → Wu, getElem_of_mem → Wy, nodup_cons → WH, length_set → WJ, length_eq_one_iff → WW, map_map → W6, contains_iff_mem → W7, getElem_inj → W9, mem_of_mem_tail → Vf, all_cons → Vg, length_nil → Vn, mem_filterMap → Vt, zip_cons_cons → Vw, push_toArray → VC, nodup_append → VE, drop_length → VR, filter_cons → VT, mem_filter → VU, of_mem_zip → VX, forIn_cons → V2, zipWith → V3, drop → V8
open Nat renaming lt_of_lt_of_le → Ym, le_refl → Yo, le_trans → Yv, ne_of_lt → YB, lt_or_ge → Y4, lt_irrefl → Xo, ne_of_gt → XI, zero_le → Wm, le_succ → VN, lt_succ_self → VQ, le_of_lt → VV, not_lt → Uc
open Ne renaming symm → Xd
open Option renaming map_some → Xq, map_eq_some_iff → WR, map_none → V9
open Option.some renaming inj → Yz
open Prod.mk renaming inj → Vk
open PyProof.Rows renaming slot_tuple_getitem → Y2, callWith_type1 → XF, AllBare → VJ, SortKind → Ug
open PySem renaming wpAny_bind → Yb, starEach → Yi, FuncData → Yj, wpAny_pure → Yk, Program → Yl, sizeLine → Yu, Spec → Yy, wpAny_mono → YK, wpAny_loadPart_at → YO, sizeLine_eq → YU, compareOp → YW, bootBuiltins → YZ, foldedSetIterable → Y1, mainGlobals → Y5, wpAny_field → Xa, assignEach → Xf, swapsWith → Xg, wpAny_truthy_bool → Xk, wpAny_newObj_type → Xm, wpAny_callSpecial?_slot → Xp, wpAny_standAt → Xx, letOwnedTupleGo → XE, codeAny → XG, attributeBase → XJ, wpAny_setField_rec → XM, wpAny_seqItems → XV, treeTable → XY, wpAny_comprehension_free → X1, wpAny_holding → X6, binaryOp → X7, mem_of_lookup → X9, wpAny_call_entry → Wd, sysModules → Wf, wpAny_Call_Name_kw → Wg, wpAny_execs_nil → Wh, keywordEach → Wk, Keyword → Wl, typeLookup → Wq, wpAny_execs_cons → Wx, wpAny_isSubtype_exc → Wz, wpAny_passesOwn → WC, behindInMarks → WE, NameKind → WG, Comprehension → WO, wpAny_assign_Name → WX, holding → WY, sliceBounds → WZ, importedModules → W2, codeAny_mono → W4, exec_Assign_Name_used → W5, lookupAlong_cons → Va, wpAny_newFunctionEnv → Vb, wpAny_updateSeq_pair → Vc, codeAny_call_builtin → Vd, excClassObj → Vj, Builtin → Vm, lookupAlong → Vo, backToKw → Vu, compEnvC → Vv, wpAny_setField → Vy, intText? → Vz, DictEntry → VA, wpAny_Assign_Name → VB, wpAny_pyIter_list → VD, swapsWithSole → VL, swappedStores → VM, wpAny_onRaise → VO, noFill_tuple_add → VP, checkBuiltinCall → VS, standAt → VW, concat_meets → VY, getItem → VZ, wpAny_typeOf → V0, valueAt → V1, wpAny_loadPart' → V4, wpAny_mroOf_exc → V6, wpAny_rule → Ub, Arguments → Ue, seqIndex? → Uf, isSubtype → Uh, noteFrame → Ui, setFlight → Uj, callerA → Ul
open PySem.Around renaming in1_units → Xs
open PySem.Builtin.Slice renaming slicePlaces → XR, sliceAdjust → Wv, sliceApplied → Vq
open PySem.Builtin.SmallTypes renaming nextOf → YN, ownedTupleIsFree → Xi, ownedTupleHandOut → Ww
open PySem.Builtin.Str renaming occurrences → X8
open PySem.Builtin.Tuple renaming tupleExact → XZ, tupleItemsOf → Vr
open PySem.Calls renaming Name_function_global → Vp
open PySem.Code renaming quiet_builtin → Vx
open PySem.F renaming slot_tuple_iterator_next → Xu, slot_zip_next → Wo, args_tuple_add_2 → WA, args_tuple_iterator_next_1 → WB, entry_tuple_add → WI, entry_tuple_iterator_next → WL, plainAttrs_list → WP, slot_tuple_add → WU, attr_ValueError → VH
open PySem.Heap renaming get?_push_of_some → Yc, lt_size → Ys, get?_push_size → Yt, size_push → XB, get?_none_of_le → XW, get?_update_self → Wj, get?_update_other → WV, SameBut → W3
open PySem.NameKind renaming free → Xb, cell → Wa
open PySem.Obj renaming data_mapFields → WN, mapSeq → Ua
open PySem.PassesOwn renaming never → WQ
open PySem.PyData renaming keyHash → YQ
open PySem.Str renaming ofString → Wi, length_append → VI
open PySem.Value renaming ref → YL, ref → YS, int → Xn, isStrOf → Xz, none → XH, str → XX, none → W8, bool → Vi
open PySem.W renaming keepIn → Yp, kia_one → Wc, fencedOpening → Vl, hideAll → Ud
open PySem.W.KIN renaming signs_num → V7
open Sum renaming inr → Ws, inl → Uk
open True renaming intro → Wp
set_option backward.eqns.nonrecursive false
set_option genSizeOf false
set_option compiler.extract_closed false
set_option bootstrap.genMatcherCode false
set_option Elab.async false
set_option linter.all false
set_option maxRecDepth 100000
namespace L2
open PySem
noncomputable def defArgs (s:Stmt):Arguments:=match s with
 | .FunctionDef _ a _ _ _ _ _ _ _ _=>a
 | _=>{ posonlyargs:=[],args:=[],vararg:=none,kwonlyargs:=[],kw_defaults:=[],kwarg:=none,defaults:=[] }
noncomputable def defBody (s:Stmt):List Stmt:=match s with
 | .FunctionDef _ _ b _ _ _ _ _ _ _=>b
 | _=>[]
noncomputable def defScope (s:Stmt):Scope:=match s with
 | .FunctionDef _ _ _ _ _ _ sc _ _ _=>sc
 | _=>{ kind:=.function,names:=[],isGenerator:=false,isCoroutine:=false }
end L2
namespace Ex
open PySem PySem.Spec
noncomputable abbrev veM:List Value:=[.type "ValueError",.type "Exception",.type "BaseException",.type "object"]
noncomputable def excO (nm:Str)(C N:Addr)(bs bm sub:3e4)(k0:Addr)(t2 t3:Tok):Obj:=Vj nm nm C N bs bm true [] sub false none none (some (.ref k0)) none (some (.str nm t2)) (some (.str nm t3)) (some (.bool true)) "ValueError.__new__"
end Ex
namespace Hd
open PySem PySem.W
noncomputable def seenTab (names:3e1)(tas:2e9)(h:Heap):Option (List (Option 12e9))×List (Option Obj):=
 ((h.get? Y5).map fun om=>names.map (nsIn [(Y5,om)] Y5),tas.map h.get?)
def tabHook (names:3e1)(vals:List (Option 12e9))(tas:2e9)(tos:Params->List Obj):Hook where
 α:=Option (List (Option 12e9))×List (Option Obj)
 obs:=fun s=>seenTab names tas s.heap
 val:=fun w=>(some vals,(tos w.params).map some)
 says:=fun w h=>(∃om,h.get? Y5=some om/\names.map (nsIn [(Y5,om)] Y5)=vals)/\tas.map h.get? = (tos w.params).map some
 of:=fun w s e=>by
  obtain ⟨e1,e2⟩:=Vk e
  obtain ⟨om,g,e⟩:=WR.mp e1
  exact ⟨⟨om,g,e⟩,e2⟩
 keeps:=fun w h h' ⟨⟨om,g,e⟩,e2⟩ k=>by
  refine ⟨⟨om,k _ _ g,e⟩,?_⟩
  rw[←e2]
  refine List.map_congr_left fun a m=>?_
  have:∃o,h.get? a=some o:=by
   have m2:h.get? a∈tas.map h.get?:=List.mem_map_of_mem m
   rw[e2] at m2
   obtain ⟨o,_,q⟩:=X4.mp m2
   exact ⟨o,q.symm⟩
  obtain ⟨o,q⟩:=this
  rw[q,k _ _ q]
end Hd
namespace K83
open PySem
set_option maxHeartbeats 4000000
noncomputable def top (i:Nat):Stmt:=PySem.Challenge.pw_holdword_k83_no_claims.main.body.getD i (.Pass ⟨0,0,0,0⟩)
noncomputable def qv:Program:=W.view PySem.Challenge.pw_holdword_k83_no_claims [1,2,3,4,5,6,7,9,10,12,13,14,15,18,26,27,28,30,31,32,33,34,36,37,38,39,40,41,42,43,44,45,46,47,48,49,50,51,52,53]
def initS:Stmt:=match top 20 with | .ClassDef _ _ _ b _ _ _ _ _ _ _=>b.getD 0 (.Pass ⟨0,0,0,0⟩) | s=>s
noncomputable def ns_NoLetter (P:Params):Obj:=⟨.type "dict",none,.dict #[⟨YQ P "__module__",.str "__module__" 368,XX { cps:=#[104,111,108,100,119,111,114,100,46,101,114,114,111,114,115] } 300⟩,⟨YQ P "__firstlineno__",.str "__firstlineno__" 372,Xn 50 371⟩,⟨YQ P "__static_attributes__",.str "__static_attributes__" 373,YS 144⟩,⟨YQ P "__doc__",.str "__doc__" 374,W8⟩] 2,#[]⟩
noncomputable def ns_HoldError (P:Params):Obj:=⟨.type "dict",none,.dict #[⟨YQ P "__module__",.str "__module__" 309,XX { cps:=#[104,111,108,100,119,111,114,100,46,101,114,114,111,114,115] } 300⟩,⟨YQ P "__firstlineno__",.str "__firstlineno__" 313,Xn 42 312⟩,⟨YQ P "__init__",.str "__init__" 321,YS 106⟩,⟨YQ P "__static_attributes__",.str "__static_attributes__" 323,YS 107⟩,⟨YQ P "__weakref__",.str "__weakref__" 325,YS 110⟩,⟨YQ P "__doc__",.str "__doc__" 326,W8⟩] 3,#[]⟩
def initO:Obj:=⟨.type "function",none,.func (W.fnOf "__init__" "HoldError.__init__" (L2.defArgs initS) (L2.defBody initS) (L2.defScope initS) (.ref 99) .none .none (XX { cps:=#[104,111,108,100,119,111,114,100,46,101,114,114,111,114,115] } 300) none (.ref 105) .none),#[]⟩
noncomputable def codeO:Obj:=⟨.type "code",none,.fields #[XX { cps:=#[95,95,105,110,105,116,95,95] } 314,  XX { cps:=#[72,111,108,100,69,114,114,111,114,46,95,95,105,110,105,116,95,95] } 315,  XX { cps:=#[47,99,108,97,105,109,47,99,117,116,46,112,121] } 316,Xn 44 0,  Xn 2 0,Xn 0 0,Xn 0 0,Xn 3 0,YS 100,  PySem.Value.bool true,Xn 181 0,YS 101,W8,YS 102,  YS 103,YS 104,Xn 319 0,Xn 44 0,  XX { cps:=#[47,99,108,97,105,109,47,99,117,116,46,112,121] } 320],#[]⟩
noncomputable def tnames:List Str:=["NoLetter","HoldError","NoTown","NoPile","NoRow","READ_FORMS","is_of_due","is_of_clause","is_of_name","MARK_FORMS","is_of_two_names"]
noncomputable def tvals:List (Option 12e9):=[some (some (.ref 146)),some (some (.ref 109)),some (some (.ref 122)),some (some (.ref 134)),some (some (.ref 158)),some (some (.ref 83)),some (some (.ref 61)),some (some (.ref 68)),some (some (.ref 75)),some (some (.ref 84)),some (some (.ref 82))]
noncomputable def ZbZ (P:Params):List DictEntry:=[⟨YQ P "held",.str "held" 272,.ref 61⟩,⟨YQ P "kept",.str "kept" 273,.ref 68⟩,⟨YQ P "late",.str "late" 274,.ref 68⟩,⟨YQ P "ill",.str "ill" 275,.ref 75⟩]
noncomputable def Zb0 (P:Params):List DictEntry:=[⟨YQ P "back",.str "back" 281,.ref 75⟩,⟨YQ P "twin",.str "twin" 282,.ref 82⟩,⟨YQ P "loose",.str "loose" 283,.ref 75⟩,⟨YQ P "behind",.str "behind" 284,.ref 75⟩,⟨YQ P "ahead",.str "ahead" 285,.ref 75⟩]
def tobjs (P:Params):List Obj:=[⟨.type "dict",none,.dict (ZbZ P).toArray 4,#[]⟩,⟨.type "dict",none,.dict (Zb0 P).toArray 5,#[]⟩,Ex.excO "NoLetter" 146 145 [YS 109] (.ref 109::Ex.veM) [] 137 361 369,Ex.excO "HoldError" 109 108 [PySem.Value.type "ValueError"] Ex.veM [YS 122,YS 134,YS 146,YS 158] 92 302 310,Ex.excO "NoTown" 122 121 [YS 109] (.ref 109::Ex.veM) [] 113 329 337,Ex.excO "NoPile" 134 133 [YS 109] (.ref 109::Ex.veM) [] 125 345 353,Ex.excO "NoRow" 158 157 [YS 109] (.ref 109::Ex.veM) [] 149 377 385,ns_NoLetter P,ns_HoldError P,initO,codeO,⟨.type "tuple",none,.seq #[W8] 0,#[]⟩]
def hk:W.Hook:=Hd.tabHook tnames tvals [83,84,146,109,122,134,158,145,108,106,105,99] tobjs
theorem of_split2 {p q:Yl}{loose:3e1}{Xt:Shared->Bool}{α:Type}{Yf:Shared->α}{Ya:World->α}{N:Nat}{g0:Bool}(row:String)(h:∀(b:Bool) (w:World),(Vl XY p w N).bind (fun s₀=>(W.topFrom XY p (w.withFollow row b) N s₀).map (fun s=>(W.openSeen q loose (W2 p.main.body) Xt g0 s,Yf s)))=some (W.openGood q loose,Ya (w.withFollow row b))):W.LeftO p q loose Xt Yf Ya N g0:=fun w=>by
 have k:=h (w.params.followText row) w
 rw[World.withFollow_self w row] at k
 unfold W.openEnds
 cases a:Vl XY p w N with
 | none=>rw[a] at k;cases k
 | some s₀=>rw[a] at k;exact k
theorem hlF (w:World):(Vl XY PySem.Challenge.pw_holdword_k83_no_claims w 4894).bind (fun s₀=>(W.topFrom XY PySem.Challenge.pw_holdword_k83_no_claims (w.withFollow "special-get-raises" false) 4894 s₀).map (fun s=>(W.openSeen qv 6e2 (W2 (PySem.Challenge.pw_holdword_k83_no_claims).main.body) (fun s=>W.xlAt qv [] s&&W.recOk [] s) true s,hk.obs s)))=some (W.openGood qv 6e2,hk.val (w.withFollow "special-get-raises" false)):=by kernel_rfl
theorem hlT (w:World):(Vl XY PySem.Challenge.pw_holdword_k83_no_claims w 4894).bind (fun s₀=>(W.topFrom XY PySem.Challenge.pw_holdword_k83_no_claims (w.withFollow "special-get-raises" true) 4894 s₀).map (fun s=>(W.openSeen qv 6e2 (W2 (PySem.Challenge.pw_holdword_k83_no_claims).main.body) (fun s=>W.xlAt qv [] s&&W.recOk [] s) true s,hk.obs s)))=some (W.openGood qv 6e2,hk.val (w.withFollow "special-get-raises" true)):=by kernel_rfl
theorem hl:W.LeftO PySem.Challenge.pw_holdword_k83_no_claims qv 6e2 (fun s=>W.xlAt qv [] s&&W.recOk [] s) hk.obs hk.val 4894:=
 of_split2 "special-get-raises" fun b w=>match b with
  | false=>hlF w
  | true=>hlT w
end K83
namespace L2
open PySem PySem.Spec PyProof.Rows
abbrev Key:=Sum Int Str
noncomputable def keyIs:Key->Value->Bool
 | .inl k,v=>Value.isInt k v
 | .inr x,v=>Xz x v
noncomputable def keyH (w:World):Key->Int
 | .inl k=>hashInt k
 | .inr x=>hashStr w x
theorem ZaM:∀{k:Key} {v:Value},keyIs k v=true->(∃i t,k=Uk i/\v=Value.int i t)\/(∃x t,k=Ws x/\v=Value.str x t)
 | .inl i,v,h=>by
  obtain ⟨t,e⟩:=Value.isInt_shape (k:=i) (v:=v) h
  exact .inl ⟨i,t,rfl,e⟩
 | .inr x,v,h=>by
  obtain ⟨t,e⟩:=Value.isStrOf_shape (x:=x) (v:=v) h
  exact .inr ⟨x,t,rfl,e⟩
theorem keyIs_int (i:Int)(t:Tok):keyIs (.inl i) (.int i t)=true:=by simp[keyIs,Value.isInt]
theorem keyIs_str (x:Str)(t:Tok):keyIs (.inr x) (.str x t)=true:=by simp[keyIs,Xz]
theorem key_ll (a b:Int):decide ((Uk a:Key)=Uk b)=(a==b):=by
 by_cases e:a=b
 ·subst e;simp
 ·have h:¬(Uk a:Key)=Uk b:=fun q=>e (Sum.inl.inj q)
  rw[decide_eq_false h]
  exact (beq_eq_false_iff_ne.mpr e).symm
theorem key_rr (a b:Str):decide ((Ws a:Key)=Ws b)=decide (a=b):=by
 by_cases e:a=b
 ·subst e;simp
 ·have h:¬(Ws a:Key)=Ws b:=fun q=>e (Sum.inr.inj q)
  rw[decide_eq_false h,decide_eq_false e]
theorem key_lr (a:Int)(b:Str):decide ((Uk a:Key)=Ws b)=false:=decide_eq_false (fun q=>nomatch q)
theorem key_rl (a:Str)(b:Int):decide ((Ws a:Key)=Uk b)=false:=decide_eq_false (fun q=>nomatch q)
def mixKind (prog:Yl)(w:World):PySem.KeyKind prog w Key where
 is:=keyIs
 hash:=keyH w
 inj:=fun v a b ha hb=>by
  rcases ZaM ha with ⟨i,t,rfl,rfl⟩ | ⟨x,t,rfl,rfl⟩
  ·rcases ZaM hb with ⟨j,u,rfl,e⟩ | ⟨y,u,rfl,e⟩
   ·injection e with e1 _;rw[e1]
   ·exact nomatch e
  ·rcases ZaM hb with ⟨j,u,rfl,e⟩ | ⟨y,u,rfl,e⟩
   ·exact nomatch e
   ·injection e with e1 _;rw[e1]
 byValue:=fun k v h=>by
  rcases ZaM h with ⟨i,t,rfl,rfl⟩ | ⟨x,t,rfl,rfl⟩<;>rfl
 pyHash:=fun hv h=>by
  rcases ZaM hv with ⟨i,t,rfl,rfl⟩ | ⟨x,t,rfl,rfl⟩
  ·exact wpAny_pyHash_int h
  ·exact wpAny_pyHash_str h
 eqBool:=fun hu hv h=>by
  rcases ZaM hu with ⟨i,t,rfl,rfl⟩ | ⟨x,t,rfl,rfl⟩
  ·rcases ZaM hv with ⟨j,u,rfl,rfl⟩ | ⟨y,u,rfl,rfl⟩
   ·rw[key_ll] at h;exact wpAny_eqBool_int h
   ·rw[key_lr] at h;exact SeqAt.EqAt.int_str i t y u _ _ _ _ h
  ·rcases ZaM hv with ⟨j,u,rfl,rfl⟩ | ⟨y,u,rfl,rfl⟩
   ·rw[key_rl] at h;exact SeqAt.EqAt.str_int x t j u _ _ _ _ h
   ·rw[key_rr] at h;exact wpAny_eqBool_str h
 «strs»:=fun k x t v h=>by
  rcases ZaM h with ⟨i,u,rfl,e⟩ | ⟨y,u,rfl,e⟩
  ·exact nomatch e
  ·injection e with e1 _
   subst e1
   cases v<;>rfl
theorem mixKind_int (prog:Yl)(w:World)(i:Int)(t:Tok):(mixKind prog w).is (.inl i) (.int i t)=true:=keyIs_int i t
theorem mixKind_str (prog:Yl)(w:World)(x:Str)(t:Tok):(mixKind prog w).is (.inr x) (.str x t)=true:=keyIs_str x t
inductive V where
 | non | bl (b:Bool) | int (i:Int) | str (x:Str) | byt (b:Array UInt8) | flt (b:UInt64) | ref (a:Addr) | ty (n:String)
 deriving DecidableEq
def RelV:V->Value->Prop
 | .non,u=>u=XH
 | .bl b,u=>u=Vi b
 | .int i,u=>∃t,u=Value.int i t
 | .str x,u=>∃t,u=Value.str x t
 | .byt b,u=>∃t,u=Value.bytes b t
 | .flt b,u=>∃t,u=Value.float b t
 | .ref a,u=>u=YL a
 | .ty n,u=>u=Value.type n
abbrev Vals:List V->List Value->Prop:=Paired RelV
theorem Vals.length {xs:List V}{us:3e4}(r:Vals xs us):xs.length=us.length:=Paired.length r
theorem Vals.get:∀{xs:List V} {us:3e4} {i:Nat} {x:V},Vals xs us->xs[i]? = some x->∃u,us[i]? = some u/\RelV x u
 | _,_,_,_,.nil,e=>by simp at e
 | _,_,0,_,.cons r _,e=>by simp at e;subst e;exact ⟨_,rfl,r⟩
 | _,_,i + 1,x,.cons _ t,e=>by
  obtain ⟨u,h1,h2⟩:=Vals.get (i:=i) (x:=x) t (by simpa using e)
  exact ⟨u,by simpa using h1,h2⟩
theorem Vals.set {x:V}{u:Value}(r:RelV x u):∀{xs:List V} {us:3e4} (i:Nat),Vals xs us->Vals (xs.set i x) (us.set i u)
 | _,_,_,.nil=>.nil
 | _,_,0,.cons _ t=>.cons r t
 | _,_,i + 1,.cons q t=>.cons q (Vals.set r i t)
theorem Vals.append:∀{xs ys:List V} {us ws:3e4},Vals xs us->Vals ys ws->Vals (xs++ys) (us++ws)
 | _,_,_,_,.nil,s=>s
 | _,_,_,_,.cons r t,s=>.cons r (Vals.append t s)
theorem Vals.take:∀{xs:List V} {us:3e4} (n:Nat),Vals xs us->Vals (xs.take n) (us.take n)
 | _,_,0,_=>.nil
 | _,_,_ + 1,.nil=>.nil
 | _,_,n + 1,.cons r t=>.cons r (Vals.take n t)
theorem Vals.drop:∀{xs:List V} {us:3e4} (n:Nat),Vals xs us->Vals (xs.drop n) (us.drop n)
 | _,_,0,r=>r
 | _,_,_ + 1,.nil=>.nil
 | _,_,n + 1,.cons _ t=>Vals.drop n t
def RelO:Option V->Option Value->Prop
 | some v,some u=>RelV v u
 | none,none=>True
 | _,_=>False
def KV {κ:Type}:List (κ×V)->List (κ×Value)->Prop:=Paired fun (p:κ×V) (q:κ×Value)=>p.1=q.1/\RelV p.2 q.2
noncomputable def kV:Key->V
 | .inl i=>.int i
 | .inr x=>.str x
inductive HO where
  | lst (xs:List V)
  | tup (xs:List V)
  | dK (kvs:List (Key×V)) | dT (kvs:List (List Key×V))
  | set (S:Int->Bool) (n:Nat)
  | ins (C dx:Addr) (fs:List (Str×V))
  | own (x:Addr)
  | xd (fs:List (Str×V))
  | met (f x:Addr)
  | rng (lo hi:Int)
  | frz (o:Obj) (u:HO)
  | tbl (ps:Array Value)
  | ext (φ:Heap->Prop)
abbrev Hp:=Addr->Option HO
noncomputable def upd (H:Hp)(a:Addr)(o:HO):Hp:=fun b=>if b=a then some o else H b
theorem Zau {H:Hp}{a:Addr}{o:HO}:upd H a o a=some o:=by unfold upd;rw[if_pos rfl]
theorem Zao {H:Hp}{a b:Addr}{o:HO}(h:b≠a):upd H a o b=H b:=by unfold upd;rw[if_neg h]
theorem upd_upd {H:Hp}{a:Addr}{o u:HO}:upd (upd H a o) a u=upd H a u:=by
 funext b;unfold upd;split<;>rfl
theorem Zal {H:Hp}{a b:Addr}{o:HO}(h:H a=some o)(h':H b=none):a≠b:=by
 intro e;subst e;rw[h] at h';cases h'
section
variable (P:Yl)(w:World)
def ObjOk (H:Hp)(h:Heap)(a:Addr):HO->Prop
 | .lst xs=>xs.length<=Yu/\∃(its:3e4) (n:Nat),Vals xs its/\h.get? a=some { cls:=.type "list",data:=.seq its.toArray n }
 | .tup xs=>xs.length<=Yu/\∃its:List Value,Vals xs its/\IsTup h a its.toArray
 | .dK kvs=>kvs.length<=Yu/\(a==Wf)=false/\∃vs,KV kvs vs/\h.DictOf (mixKind P w) a vs
 | .dT kvs=>kvs.length<=Yu/\(a==Wf)=false/\∃xs:List (List Key×Addr×Value),
   Paired (fun (p:List Key×V) (q:List Key×Addr×Value)=>p.1=q.1/\H q.2.1=some (.tup (p.1.map kV))/\RelV p.2 q.2.2) kvs xs/\
   ∃o es ep,h.get? a=some o/\o.ExactDict/\o.data=.dict es ep/\es.toList=xs.map (entryOfKey (tupleKind (mixKind P w)))/\(xs.map (·.1)).Nodup
 | .set S n=>h.SetOf (intKind P w) a S n
 | .ins C dx fs=>H dx=some (.own a)/\fs.length<=1000/\dx≠a/\h.get? a=some (W.instObj C dx)/\
   ∃mA,h.Ns1 dx mA/\(∀f,RelO (fs.lookup f) (mA f))/\PySem.Within mA (fs.map (·.1))
 | .own _=>∃o,h.get? a=some o
 | .xd fs=>∃mA,h.Ns1 a mA/\∀f,RelO (fs.lookup f) (mA f)
 | .rng lo hi=>∃t u v,h.get? a=some { cls:=.type "range",data:=.fields #[.int lo t,.int hi u,.int 1 v] }
 | .frz o u=>h.get? a=some o/\ObjOk H h a u
 | .tbl ps=>h.get? a=some { cls:=.none,data:=.fields ps }
 | .met f x=>h.get? a=some (W.methodObj (.ref f) (.ref x))
 | .ext φ=>φ h/\(∃o,h.get? a=some o)/\∀h1 h2:Heap,φ h1->(∀o,h1.get? a=some o->h2.get? a=some o)->φ h2
def HOk (H:Hp)(h:Heap):Prop:=∀a o,H a=some o->ObjOk P w H h a o
end
section
variable {P:Yl}{w:World}{H H':Hp}{h h':Heap}{a:Addr}{o:HO}
theorem ObjOk.lt (x:ObjOk P w H h a o):a < h.objs.size:=by
 cases o with
 | lst xs=>obtain ⟨_,_,_,_,e⟩:=x;exact Ys e
 | tup xs=>obtain ⟨_,_,_,p⟩:=x;exact p.lt
 | dK kvs=>obtain ⟨_,_,_,_,o,_,_,e,_⟩:=x;exact Ys e
 | dT kvs=>obtain ⟨_,_,_,_,o,_,_,e,_⟩:=x;exact Ys e
 | set S n=>obtain ⟨o,_,_,_,e,_⟩:=x;exact Ys e
 | ins C dx fs=>obtain ⟨_,_,_,e,_⟩:=x;exact Ys e
 | own y=>obtain ⟨_,e⟩:=x;exact Ys e
 | xd fs=>obtain ⟨_,⟨_,_,_,e,_⟩,_⟩:=x;exact Ys e
 | rng lo hi=>obtain ⟨_,_,_,e⟩:=x;exact Ys e
 | frz ob u=>obtain ⟨e,_⟩:=x;exact Ys e
 | tbl ps=>exact Ys (show h.get? a=some _ from x)
 | met f y=>exact Ys (show h.get? a=some _ from x)
 | ext φ=>obtain ⟨_,⟨_,e⟩,_⟩:=x;exact Ys e
theorem Paired.mapP {α β:Type}{F G:α->β->Prop}:∀{l₁:List α} {l₂:List β},Paired F l₁ l₂->(∀a b,F a b->G a b)->Paired G l₁ l₂
 | _,_,.nil,_=>.nil
 | _,_,.cons r t,f=>.cons (f _ _ r) (Paired.mapP t f)
theorem ObjOk.stay (x:ObjOk P w H h a o)(k:∀b u,(b=a\/H b=some (.own a))->h.get? b=some u->h'.get? b=some u)
  (ho:∀b,H b=some (.own a)->H' b=some (.own a)) (ht:∀b xs,H b=some (.tup xs)->H' b=some (.tup xs)):ObjOk P w H' h' a o:=by
 induction o with
 | lst xs=>obtain ⟨z,its,n,r,e⟩:=x;exact ⟨z,its,n,r,k _ _ (.inl rfl) e⟩
 | tup xs=>obtain ⟨z,its,r,ob,e,c⟩:=x;exact ⟨z,its,r,ob,k _ _ (.inl rfl) e,c⟩
 | dK kvs=>obtain ⟨z,y,vs,r,ob,es,ep,e,c⟩:=x;exact ⟨z,y,vs,r,ob,es,ep,k _ _ (.inl rfl) e,c⟩
 | dT kvs=>
  obtain ⟨z,y,xs,r,ob,es,ep,e,c⟩:=x
  exact ⟨z,y,xs,Paired.mapP r fun p q z=>⟨z.1,ht _ _ z.2.1,z.2.2⟩,ob,es,ep,k _ _ (.inl rfl) e,c⟩
 | set S n=>obtain ⟨ob,es,ep,t,e,c⟩:=x;exact ⟨ob,es,ep,t,k _ _ (.inl rfl) e,c⟩
 | ins C dx fs=>
  obtain ⟨d,z,ne,e,mA,⟨od,es,ep,e2,c⟩,r⟩:=x
  exact ⟨ho _ d,z,ne,k _ _ (.inl rfl) e,mA,⟨od,es,ep,k _ _ (.inr d) e2,c⟩,r⟩
 | own y=>obtain ⟨ob,e⟩:=x;exact ⟨ob,k _ _ (.inl rfl) e⟩
 | xd fs=>obtain ⟨mA,⟨od,es,ep,e,c⟩,r⟩:=x;exact ⟨mA,⟨od,es,ep,k _ _ (.inl rfl) e,c⟩,r⟩
 | rng lo hi=>obtain ⟨t,u,v,e⟩:=x;exact ⟨t,u,v,k _ _ (.inl rfl) e⟩
 | frz ob u ih=>obtain ⟨e,q⟩:=x;exact ⟨k _ _ (.inl rfl) e,ih q⟩
 | tbl ps=>
  have e:h.get? a=some { cls:=.none,data:=.fields ps }:=x
  show h'.get? a=some { cls:=.none,data:=.fields ps }
  exact k a _ (.inl rfl) e
 | met f y=>
  have e:h.get? a=some (W.methodObj (.ref f) (.ref y)):=x
  show h'.get? a=some (W.methodObj (.ref f) (.ref y))
  exact k a _ (.inl rfl) e
 | ext φ=>obtain ⟨p,⟨o,e⟩,st⟩:=x;exact ⟨st _ _ p fun o q=>k _ _ (.inl rfl) q,⟨o,k _ _ (.inl rfl) e⟩,st⟩
theorem HOk.lt (x:HOk P w H h)(e:H a=some o):a < h.objs.size:=(x a o e).lt
theorem HOk.fresh (x:HOk P w H h)(e:h.objs.size<=a):H a=none:=by
 cases q:H a with
 | none=>rfl
 | some u=>exact absurd (Ym (x.lt q) e) (Xo _)
theorem HOk.kept (x:HOk P w H h)(k:∀b u,h.get? b=some u->h'.get? b=some u):HOk P w H h':=fun a o e=>
 (x a o e).stay (fun b u _ q=>k b u q) (fun _ q=>q) fun _ _ q=>q
theorem HOk.laid (x:HOk P w H h)(k:∀b u,h.get? b=some u->h'.get? b=some u)(hp:h.objs.size<=a)(new:ObjOk P w (upd H a o) h' a o):HOk P w (upd H a o) h':=fun b u e=>by
 have hn:=x.fresh hp
 by_cases hb:b=a
 ·subst hb;rw[Zau] at e;cases e;exact new
 ·rw[Zao hb] at e
  exact (x b u e).stay (fun c v _ q=>k c v q) (fun c q=>by rw[Zao (Zal q hn)];exact q) fun c xs q=>by rw[Zao (Zal q hn)];exact q
end
def Rd (H:Hp)(a:Addr)(u:HO):Prop:=H a=some u\/∃o,H a=some (.frz o u)
theorem Rd.ok {P:Yl}{w:World}{H:Hp}{h:Heap}{a:Addr}{u:HO}(r:Rd H a u)(x:HOk P w H h):ObjOk P w H h a u:=by
 rcases r with r | ⟨o,r⟩
 ·exact x a u r
 ·obtain ⟨_,q⟩:=x a _ r
  exact q
def Mut:Option HO->Prop
 | some (.lst _)=>True
 | some (.dK _)=>True
 | some (.dT _)=>True
 | some (.set _ _)=>True
 | some (.ins _ _ _)=>True
 | some (.ext _)=>True
 | _=>False
section
variable {P:Yl}{w:World}{H:Hp}{h h':Heap}{x e:Addr}{o':HO}
theorem HOk.write (ok:HOk P w H h)(mu:Mut (H x))(he:e=x\/H e=some (.own x))(k:∀b u,b≠e->h.get? b=some u->h'.get? b=some u)(heo:∃u,h'.get? e=some u)
  (new:ObjOk P w (upd H x o') h' x o'):HOk P w (upd H x o') h':=fun b u q=>by
 have nown:∀c y,H c=some (.own y)->c≠x:=fun c y r z=>by subst z;rw[r] at mu;exact mu
 have ntup:∀c xs,H c=some (.tup xs)->c≠x:=fun c xs r z=>by subst z;rw[r] at mu;exact mu
 by_cases hb:b=x
 ·subst hb;rw[Zau] at q;cases q;exact new
 ·rw[Zao hb] at q
  by_cases hbe:b=e
  ·have q':H b=some (.own x):=by
    rcases he with z | z
    ·exact absurd (hbe.trans z) hb
    ·rw[hbe];exact z
   rw[q] at q';cases q'
   obtain ⟨v,hv⟩:=heo
   exact ⟨v,by rw[hbe];exact hv⟩
  ·refine (ok b u q).stay (fun c v hc r=>k c v ?_ r) (fun c r=>by rw[Zao (nown c b r)];exact r) fun c xs r=>by rw[Zao (ntup c xs r)];exact r
   rcases hc with rfl | hc
   ·exact hbe
   ·rintro rfl
    rcases he with z | z
    ·exact nown c b hc z
    ·rw[hc] at z;cases z;exact hb rfl
end
structure Un (fs ex:List Addr)(H H':Hp)(h h':Heap):Prop where
 keep:∀b o,h.get? b=some o->H b=none->b∉fs->b∉ex->h'.get? b=some o
 slot:∀b o,h.get? b=some o->H b=none->b∈fs->b∉ex->∃sl,h'.get? b=some { o with slots:=sl }
 free:∀b o,h.get? b=some o->H b=none->b∉ex->H' b=none
 there:∀b o,h.get? b=some o->b∉ex->∃o',h'.get? b=some o'
 tups:∀b xs,H b=some (.tup xs)->H' b=some (.tup xs)
 frzs:∀b o u,H b=some (.frz o u)->H' b=some (.frz o u)
 tbls:∀b ps,H b=some (.tbl ps)->∃more,H' b=some (.tbl (ps++more))
section
variable {fs fs' ex ex':2e9}{H H1 H2:Hp}{h h1 h2 h':Heap}{a x e:Addr}{o:HO}
theorem Un.any (u:Un fs ex H H1 h h1){b:Addr}{ob:Obj}(q:h.get? b=some ob)(n:H b=none)(hx:b∉ex):∃sl,h1.get? b=some { ob with slots:=sl }:=by
 by_cases hb:b∈fs
 ·exact u.slot b ob q n hb hx
 ·exact ⟨ob.slots,u.keep b ob q n hb hx⟩
theorem Un.trans (a:Un fs ex H H1 h h1)(b:Un fs ex H1 H2 h1 h2):Un fs ex H H2 h h2 where
 keep:=fun c ob q n hc hx=>b.keep c ob (a.keep c ob q n hc hx) (a.free c ob q n hx) hc hx
 slot:=fun c ob q n hc hx=>by
  obtain ⟨sl,e1⟩:=a.slot c ob q n hc hx
  obtain ⟨sl',e2⟩:=b.slot c _ e1 (a.free c ob q n hx) hc hx
  exact ⟨sl',e2⟩
 free:=fun c ob q n hx=>by
  obtain ⟨o',e1⟩:=a.there c ob q hx
  exact b.free c o' e1 (a.free c ob q n hx) hx
 there:=fun c ob q hx=>by
  obtain ⟨o',e1⟩:=a.there c ob q hx
  exact b.there c o' e1 hx
 tups:=fun c xs q=>b.tups c xs (a.tups c xs q)
 frzs:=fun c ob xs q=>b.frzs c ob xs (a.frzs c ob xs q)
 tbls:=fun c ps q=>by
  obtain ⟨m1,e1⟩:=a.tbls c ps q
  obtain ⟨m2,e2⟩:=b.tbls c _ e1
  exact ⟨m1++m2,by rw[e2,Vs]⟩
theorem Un.kept (k:∀b u,h.get? b=some u->h'.get? b=some u):Un fs ex H H h h':=
 ⟨fun b ob q _ _ _=>k b ob q,fun b ob q _ _ _=>⟨ob.slots,k b ob q⟩,fun _ _ _ n _=>n,fun b ob q _=>⟨ob,k b ob q⟩,fun _ _ q=>q,fun _ _ _ q=>q,fun _ ps q=>⟨#[],by rw[q];simp⟩⟩
theorem Un.refl:Un fs ex H H h h:=Un.kept fun _ _ q=>q
theorem Un.laid (k:∀b u,h.get? b=some u->h'.get? b=some u)(hp:h.objs.size<=a)(hn:H a=none):Un fs ex H (upd H a o) h h' where
 keep:=fun b u q _ _ _=>k b u q
 slot:=fun b u q _ _ _=>⟨u.slots,k b u q⟩
 free:=fun b u q n _=>by rw[Zao (YB (Ym (Ys q) hp))];exact n
 there:=fun b u q _=>⟨u,k b u q⟩
 tups:=fun b xs q=>by rw[Zao (Zal q hn)];exact q
 frzs:=fun b u xs q=>by rw[Zao (Zal q hn)];exact q
 tbls:=fun b ps q=>⟨#[],by rw[Zao (Zal q hn),q];simp⟩
theorem Un.write (mu:Mut (H x))(he:e=x\/H e=some (.own x))(k:∀b u,b≠e->h.get? b=some u->h'.get? b=some u)(heo:∃u,h'.get? e=some u):Un fs ex H (upd H x o) h h':=by
 have hx:∀b,H b=none->b≠x:=fun b n z=>by subst z;rw[n] at mu;exact mu
 have hb:∀b,H b=none->b≠e:=fun b n z=>by
  subst z
  rcases he with r | r
  ·exact hx b n r
  ·rw[n] at r;cases r
 have hm:∀b u,H b=some u->¬Mut (some u)->b≠x:=fun b u q nm z=>by subst z;rw[q] at mu;exact nm mu
 refine ⟨fun b u q n _ _=>k b u (hb b n) q,fun b u q n _ _=>⟨u.slots,k b u (hb b n) q⟩,fun b u q n _=>by rw[Zao (hx b n)];exact n,fun b u q _=>?_,
  fun b xs q=>by rw[Zao (hm b _ q fun z=>z)];exact q,fun b u xs q=>by rw[Zao (hm b _ q fun z=>z)];exact q,fun b ps q=>⟨#[],by rw[Zao (hm b _ q fun z=>z),q];simp⟩⟩
 by_cases hbe:b=e
 ·subst hbe;exact heo
 ·exact ⟨u,k b u hbe q⟩
theorem Un.mono (u:Un fs ex H H1 h h1)(hs:∀b∈fs,b∈fs')(hx:∀b∈ex,b∈ex'):Un fs' ex' H H1 h h1:=
 ⟨fun b ob q n hb he=>u.keep b ob q n (fun z=>hb (hs b z)) fun z=>he (hx b z),fun _ _ q n _ he=>u.any q n fun z=>he (hx _ z),fun b ob q n he=>u.free b ob q n fun z=>he (hx b z),fun b ob q he=>u.there b ob q fun z=>he (hx b z),u.tups,u.frzs,u.tbls⟩
end
noncomputable def trk (h:Heap)(H:Hp):List Addr:=(XD h.objs.size).filter fun a=>(H a).isSome
def hidT (h:Heap)(H:Hp):Heap:=W.hideAll h (trk h H)
theorem hidT_size (h:Heap)(H:Hp):(hidT h H).objs.size=h.objs.size:=W.hideAll_size _ _
theorem hidT_get {h:Heap}{H:Hp}{b:Addr}{o:Obj}(e:h.get? b=some o)(n:H b=none):(hidT h H).get? b=some o:=
 W.hideAll_get _ e fun hm=>by
  have q:(H b).isSome=true:=(VU.mp hm).2
  rw[n] at q;simp at q
theorem of_hidT {h:Heap}{H:Hp}{b:Addr}{o:Obj}(e:(hidT h H).get? b=some o):h.get? b=some o/\H b=none:=by
 have e':h.get? b=some o:=W.of_hideAll (trk h H) e
 refine ⟨e',?_⟩
 cases q:H b with
 | none=>rfl
 | some x=>
  have hm:b∈trk h H:=VU.mpr ⟨List.mem_range.mpr (Ys e'),by simp[q]⟩
  have z:(hidT h H).get? b=none:=W.hideAll_none (trk h H) hm
  rw[z] at e;cases e
noncomputable def allNews (g h:Heap)(L:Addr):List (Addr×Obj):=(XD h.objs.size).filterMap fun a=>if a=L\/(g.get? a).isSome=true then none else (h.get? a).map fun o=>(a,o)
def rest (g h:Heap)(L d:Addr):List (Addr×Obj):=(allNews g h L).filter fun p=>decide (p.1≠d)
structure Mod (K:W.Frag)(mg:Str->Option Value)(base:Heap):Prop where
 kin:K.In base
 glob:base.Ns Y5 mg
 blt:∃mb,base.Ns builtinsNs mb/\∀x:Str,x≠"__name__"->mb x=YZ x
 nolimit:base.NoLimit
structure Cx where
 prog:Yl
 w:World
 K:W.Frag
 mg:Str->Option Value
 base:Heap
 A:Around
 N:List Str
 s₀:Shared
 H₀:Hp
 env:Env
 outer:List Env
 stack:List Env
 ex:List Addr
 fn:Str->Bool
 calm:Bool
 pn:List (Addr×Obj)
 xe:Value->Shared->Prop
noncomputable def frs (l:List Env):List Addr:=l.filterMap (·.frame)
abbrev Cx.fs (X:Cx):List Addr:=frs X.outer
def Vis (sc:Scope)(x:Str):Prop:=sc.names.lookup x=some .local\/sc.names.lookup x=some .cell\/sc.names.lookup x=some .free
def Loc (sc:Scope)(x:Str):Prop:=sc.names.lookup x=some .local\/sc.names.lookup x=some .cell
def Look (env:Env)(h:Heap)(m:1e5)(x:Str)(u:Value):Prop:=
 (env.kindOf x=some .local/\m x=some u)\/((env.kindOf x=some .cell\/env.kindOf x=some .free)/\∃c,env.cells.lookup x=some c/\h.IsCell c (some u))
structure Cx.Ok (X:Cx):Prop where
 mod:Mod X.K X.mg X.base
 kind:X.env.scope.kind=.function
 glob:X.env.globals=Y5
 blt:X.env.builtins=builtinsNs
 above:X.s₀.heap.objs.size<=X.env.locals
 inj:∀x y c,X.env.cells.lookup x=some c->X.env.cells.lookup y=some c->x=y
 has:∀x,(X.env.kindOf x=some .cell\/X.env.kindOf x=some .free)->∃c,X.env.cells.lookup x=some c
 cab:∀x c,X.fn x=true->X.env.cells.lookup x=some c->X.s₀.heap.objs.size<=c
 hd:X.calm=true->X.A.handled=none
 frames:X.A.frames=some X.stack
 stk:X.stack=X.outer\/(X.stack=X.env::X.outer/\X.env.frame=some X.env.locals)
 exf:∀b∈X.ex,b≠X.env.locals/\∀x c,X.env.cells.lookup x=some c->c≠b
 bs:∀b o,X.base.get? b=some o->X.s₀.heap.get? b=some o/\X.H₀ b=none
 bsz:X.base.objs.size<=X.s₀.heap.objs.size
 noex:∀b o,X.base.get? b=some o->b∉X.ex
 exfs:∀b∈X.ex,b∉X.fs
 funs:X.s₀.heap.FunFrames X.base X.outer
 frf:∀b∈X.fs,X.H₀ b=none
structure Inv (X:Cx)(pins:List (Addr×Obj))(σ:List (Option V))(H:Hp)(s:Shared):Prop where
 ok:X.Ok
 os:s.os=X.s₀.os
 bare:VJ s.gens
 base:Un X.fs X.ex X.H₀ H X.s₀.heap s.heap
 loc:∃m,s.heap.Ns X.env.locals m/\∀(i:Nat) (x:Str) (v:V),X.N[i]? = some x->σ[i]? = some (some v)->Vis X.env.scope x->∃u,RelV v u/\Look X.env s.heap m x u
 cell:∀x c,X.env.cells.lookup x=some c->∃v,s.heap.IsCell c v
 free:H X.env.locals=none
 freeC:∀x c,X.env.cells.lookup x=some c->H c=none
 pin:∀p∈X.pn++pins,s.heap.get? p.1=some p.2/\H p.1=none/\p.1≠X.env.locals/\p.1∉X.fs/\∀v,p.2.data≠.cell v
 hok:HOk X.prog X.w H s.heap
 len:σ.length=X.N.length
section
variable {X:Cx}{pins:1e8}{σ:List (Option V)}{H H':Hp}{s:Shared}{h':Heap}
theorem Cx.Ok.nofr (ok:X.Ok){b:Addr}{o:Obj}(e:X.base.get? b=some o):b∉X.fs:=fun hb=>by
 have:=(ok.funs.mem hb).1
 rw[e] at this;cases this
theorem Inv.bs (I:2e1):∀b o,X.base.get? b=some o->s.heap.get? b=some o/\H b=none:=fun b o e=>
 ⟨I.base.keep b o (I.ok.bs b o e).1 (I.ok.bs b o e).2 (I.ok.nofr e) (I.ok.noex b o e),I.base.free b o (I.ok.bs b o e).1 (I.ok.bs b o e).2 (I.ok.noex b o e)⟩
theorem Inv.bk (I:2e1):∀b o,X.base.get? b=some o->s.heap.get? b=some o:=fun b o e=>(I.bs b o e).1
theorem Inv.mod (I:2e1):Mod X.K X.mg X.base:=I.ok.mod
theorem Inv.kIn (I:2e1):X.K.In s.heap:=I.ok.mod.kin.keeps I.bk
theorem Inv.nolimit (I:2e1):s.heap.NoLimit:=I.ok.mod.nolimit.keeps I.bk
theorem Inv.lt (I:2e1):X.env.locals < s.heap.objs.size:=let ⟨_,hn,_⟩:=I.loc;hn.lt
theorem Inv.sz (I:2e1):X.s₀.heap.objs.size<=s.heap.objs.size:=Yv I.ok.above (VV I.lt)
theorem Inv.nofs (I:2e1){a:Addr}(h:s.heap.objs.size<=a):a∉X.fs:=fun hb=>by
 obtain ⟨_,o,ho,_⟩:=I.ok.funs.mem hb
 exact absurd (Ym (Ys ho) (Yv I.sz h)) (Xo _)
theorem Inv.cne (I:2e1):∀x c,X.env.cells.lookup x=some c->c≠X.env.locals:=fun x c e z=>by
 obtain ⟨v,o,ho,hd⟩:=I.cell x c e
 obtain ⟨m,⟨o',es,ep,ho',hd',_⟩,_⟩:=I.loc
 rw[z,ho'] at ho;cases ho;rw[hd'] at hd;cases hd
theorem Inv.funs (I:2e1):s.heap.FunFrames X.base X.outer:=by
 have all:∀(l:List Env),(∀b∈frs l,b∈X.fs)->X.s₀.heap.FunFrames X.base l->s.heap.FunFrames X.base l:=by
  intro l
  induction l with
  | nil=>intro _ _;trivial
  | cons env r ih=>
   intro hs hl
   obtain ⟨hk,⟨L,o,hf,hn,ho,hd⟩,hr⟩:=hl
   have hL:L∈X.fs:=hs L (by unfold frs;rw[Xh,hf];exact YT)
   obtain ⟨sl,e⟩:=I.base.slot L o ho (I.ok.frf L hL) hL fun z=>I.ok.exfs L z hL
   exact ⟨hk,⟨L,_,hf,hn,e,hd⟩,ih (fun b hb=>hs b (by unfold frs;rw[Xh,hf];exact Yw _ hb)) hr⟩
 exact all X.outer (fun _ hb=>hb) I.ok.funs
theorem Inv.stack (I:2e1):s.heap.FunFrames X.base X.stack:=by
 rcases I.ok.stk with e | ⟨e,hf⟩
 ·rw[e];exact I.funs
 ·rw[e]
  obtain ⟨m,hn,_⟩:=I.loc
  refine .cons (by rw[I.ok.kind];decide) hf hn ?_ I.funs
  exact XW (Yv I.ok.bsz I.ok.above)
theorem Inv.stkSub (I:2e1):∀b∈frs X.stack,b∈X.env.locals::X.fs:=fun b hb=>by
 rcases I.ok.stk with e | ⟨e,hf⟩
 ·rw[e] at hb;exact Yw _ hb
 ·rw[e] at hb
  unfold frs at hb
  rw[Xh,hf] at hb
  exact hb
theorem Inv.stkFree (I:2e1):∀b∈frs X.stack,H b=none:=fun b hb=>by
 rcases Yg.mp (I.stkSub b hb) with e | hb
 ·rw[e];exact I.free
 ·obtain ⟨_,o,ho,_⟩:=I.ok.funs.mem hb
  exact I.base.free b o ho (I.ok.frf b hb) fun z=>I.ok.exfs b z hb
theorem Inv.step {g':Array GenState}{t':Nat}{d':Drawn}{ch:2e9}(I:2e1)
  (hch:∀b∈ch,(b∈X.ex\/X.s₀.heap.objs.size<=b)/\b≠X.env.locals/\(∀x c,X.env.cells.lookup x=some c->c≠b)/\∀p∈X.pn++pins,p.1≠b)
  (keep:∀b o,b≠X.env.locals->b∉X.fs->b∉ch->s.heap.get? b=some o->H b=none->h'.get? b=some o)
  (slot:∀b o,b≠X.env.locals->b∈X.fs->b∉ch->s.heap.get? b=some o->H b=none->∃sl,h'.get? b=some { o with slots:=sl }) (free:∀b o,b∉ch->s.heap.get? b=some o->H b=none->H' b=none)
  (there:∀b o,b∉ch->s.heap.get? b=some o->∃o',h'.get? b=some o')
  (tups:∀b xs,H b=some (.tup xs)->H' b=some (.tup xs)) (frzs:∀b o u,H b=some (.frz o u)->H' b=some (.frz o u)) (tbls:∀b ps,H b=some (.tbl ps)->∃more,H' b=some (.tbl (ps++more)))
  (ns:∀m,s.heap.Ns X.env.locals m->h'.Ns X.env.locals m) (hok:HOk X.prog X.w H' h') (hg:VJ g'):
  Inv X pins σ H' { s with heap:=h',gens:=g',drawn:=d',toks:=t' }:=by
 have neL:∀b o,X.s₀.heap.get? b=some o->b≠X.env.locals:=fun b o e=>YB (Ym (Ys e) I.ok.above)
 have neC:∀b o,X.s₀.heap.get? b=some o->b∉X.ex->b∉ch:=fun b o e hx hb=>by
  rcases (hch b hb).1 with z | z
  ·exact hx z
  ·exact absurd (Ym (Ys e) z) (Xo _)
 have cellK:∀x c,X.env.cells.lookup x=some c->∀v,s.heap.IsCell c v->h'.IsCell c v:=fun x c e v h_=>by
  obtain ⟨o,ho,hd⟩:=h_
  have nch:c∉ch:=fun z=>(hch c z).2.2.1 x c e rfl
  by_cases hc:c∈X.fs
  ·obtain ⟨sl,q⟩:=slot c o (I.cne x c e) hc nch ho (I.freeC x c e)
   exact ⟨_,q,hd⟩
  ·exact ⟨o,keep c o (I.cne x c e) hc nch ho (I.freeC x c e),hd⟩
 refine ⟨I.ok,I.os,hg,⟨fun b o e n hb hx=>?_,fun b o e n hb hx=>?_,fun b o e n hx=>?_,fun b o e hx=>?_,fun b xs e=>tups b xs (I.base.tups b xs e),fun b o xs e=>frzs b o xs (I.base.frzs b o xs e),fun b ps e=>?_⟩,?_,fun x c e=>?_,?_,fun x c e=>?_,fun p hp=>?_,hok,I.len⟩
 ·exact keep b o (neL b o e) hb (neC b o e hx) (I.base.keep b o e n hb hx) (I.base.free b o e n hx)
 ·obtain ⟨sl,e1⟩:=I.base.slot b o e n hb hx
  obtain ⟨sl',e2⟩:=slot b _ (neL b o e) hb (neC b o e hx) e1 (I.base.free b o e n hx)
  exact ⟨sl',e2⟩
 ·obtain ⟨o',e1⟩:=I.base.there b o e hx
  exact free b o' (neC b o e hx) e1 (I.base.free b o e n hx)
 ·obtain ⟨o',e1⟩:=I.base.there b o e hx
  exact there b o' (neC b o e hx) e1
 ·obtain ⟨m1,e1⟩:=I.base.tbls b ps e
  obtain ⟨m2,e2⟩:=tbls b _ e1
  exact ⟨m1++m2,by rw[e2,Vs]⟩
 ·obtain ⟨m,hn,hl⟩:=I.loc
  refine ⟨m,ns m hn,fun i x v e1 e2 e3=>?_⟩
  obtain ⟨u,r,l⟩:=hl i x v e1 e2 e3
  refine ⟨u,r,?_⟩
  rcases l with l | ⟨k,c,e,z⟩
  ·exact .inl l
  ·exact .inr ⟨k,c,e,cellK x c e _ z⟩
 ·obtain ⟨v,z⟩:=I.cell x c e
  exact ⟨v,cellK x c e v z⟩
 ·obtain ⟨m,⟨o,_,_,ho,_⟩,_⟩:=I.loc
  exact free _ o (fun z=>(hch _ z).2.1 rfl) ho I.free
 ·obtain ⟨v,o,ho,hd⟩:=I.cell x c e
  exact free c o (fun z=>(hch c z).2.2.1 x c e rfl) ho (I.freeC x c e)
 ·obtain ⟨e,n,ne,nf,d⟩:=I.pin p hp
  have nch:p.1∉ch:=fun z=>(hch p.1 z).2.2.2 p hp rfl
  exact ⟨keep p.1 p.2 ne nf nch e n,free p.1 p.2 nch e n,ne,nf,d⟩
theorem Inv.un {t':Nat}(I:2e1)(u:Un X.fs [] H H' s.heap h')(hok:HOk X.prog X.w H' h'):Inv X pins σ H' { s with heap:=h',toks:=t' }:=by
 obtain ⟨m,⟨o,es,ep,ho,r⟩,_⟩:=id I.loc
 obtain ⟨sl,hL⟩:=u.any ho I.free 3e2
 exact I.step (g':=s.gens) (d':=s.drawn) (ch:=[]) (fun _ z=>nomatch z) (fun b o _ hb _ e n=>u.keep b o e n hb 3e2) (fun b o _ hb _ e n=>u.slot b o e n hb 3e2) (fun b o _ e n=>u.free b o e n 3e2) (fun b o _ e=>u.there b o e 3e2) u.tups u.frzs u.tbls (fun m' hm=>by
  obtain ⟨o',es',ep',ho',r'⟩:=hm
  rw[ho] at ho';cases ho'
  exact ⟨_,es',ep',hL,r'⟩) hok I.bare
theorem Inv.call {g':Array GenState}{t':Nat}{d':Drawn}{ch:2e9}(I:2e1)(u:Un (frs X.stack) ch H H' s.heap h')(hok:HOk X.prog X.w H' h')(hg:VJ g')
  (hch:∀b∈ch,(b∈X.ex\/X.s₀.heap.objs.size<=b)/\b≠X.env.locals/\(∀x c,X.env.cells.lookup x=some c->c≠b)/\∀p∈X.pn++pins,p.1≠b):
  Inv X pins σ H' { s with heap:=h',gens:=g',drawn:=d',toks:=t' }:=by
 obtain ⟨m,⟨o,es,ep,ho,r⟩,_⟩:=id I.loc
 obtain ⟨sl,hL⟩:=u.any ho I.free fun z=>(hch _ z).2.1 rfl
 exact I.step (ch:=ch) hch (fun b o hL hb hc e n=>u.keep b o e n (fun z=>(Yg.mp (I.stkSub b z)).elim hL hb) hc) (fun b o _ _ hc e n=>u.any e n hc) (fun b o hc e n=>u.free b o e n hc) (fun b o hc e=>u.there b o e hc) u.tups u.frzs u.tbls (fun m' hm=>by
  obtain ⟨o',es',ep',ho',r'⟩:=hm
  rw[ho] at ho';cases ho'
  exact ⟨_,es',ep',hL,r'⟩) hok hg
theorem Inv.turned {t':Nat}{it:Addr}(I:2e1)(k:∀b o,b≠it->s.heap.get? b=some o->h'.get? b=some o)(hn:H it=none)(hL:it≠X.env.locals)
  (h1:it∈X.ex\/X.s₀.heap.objs.size<=it) (h2:∀x c,X.env.cells.lookup x=some c->c≠it) (h3:∀p∈X.pn++pins,p.1≠it):Inv X pins σ H { s with heap:=h',toks:=t' }:=by
 have nit:∀b u,H b=some u->b≠it:=fun b u e z=>by rw[z,hn] at e;cases e
 refine I.step (g':=s.gens) (d':=s.drawn) (ch:=[it]) (fun b hb=>?_) (fun b o _ _ hc e _=>k b o (fun z=>hc (by simp[z])) e) (fun b o _ _ hc e _=>⟨o.slots,k b o (fun z=>hc (by simp[z])) e⟩) (fun _ _ _ _ n=>n)
  (fun b o hc e=>⟨o,k b o (fun z=>hc (by simp[z])) e⟩) (fun _ _ e=>e) (fun _ _ _ e=>e) (fun b ps e=>⟨#[],by rw[e];simp⟩) (fun m hm=>?_) (fun b u e=>?_) I.bare
 ·have e:b=it:=by simpa using hb
  subst e
  exact ⟨h1,hL,h2,h3⟩
 ·obtain ⟨o,es,ep,ho,r⟩:=hm
  exact ⟨o,es,ep,k _ o (Xd hL) ho,r⟩
 ·refine (I.hok b u e).stay (fun c v hc q=>k c v ?_ q) (fun _ q=>q) fun _ _ q=>q
  rcases hc with z | z
  ·rw[z];exact nit b u e
  ·exact nit c _ z
theorem Inv.tok (I:2e1)(t:Nat):Inv X pins σ H { s with toks:=t }:=I.un (h':=s.heap) (t':=t) Un.refl I.hok
theorem Inv.kept {t':Nat}(I:2e1)(k:∀b u,s.heap.get? b=some u->h'.get? b=some u):Inv X pins σ H { s with heap:=h',toks:=t' }:=I.un (Un.kept k) (I.hok.kept k)
theorem Inv.laid {a:Addr}{o:HO}{t':Nat}(I:2e1)(k:∀b u,s.heap.get? b=some u->h'.get? b=some u)(hp:s.heap.objs.size<=a)(new:ObjOk X.prog X.w (upd H a o) h' a o):
  Inv X pins σ (upd H a o) { s with heap:=h',toks:=t' }:=I.un (Un.laid k hp (I.hok.fresh hp)) (I.hok.laid k hp new)
theorem Inv.write {x e:Addr}{o:HO}{t':Nat}(I:2e1)(mu:Mut (H x))(he:e=x\/H e=some (.own x))(k:∀b u,b≠e->s.heap.get? b=some u->h'.get? b=some u)(heo:∃u,h'.get? e=some u)
  (new:ObjOk X.prog X.w (upd H x o) h' x o):Inv X pins σ (upd H x o) { s with heap:=h',toks:=t' }:=I.un (Un.write mu he k heo) (I.hok.write mu he k heo new)
theorem Inv.pins_of {pins':1e8}(I:2e1)(h:∀p∈pins',s.heap.get? p.1=some p.2/\H p.1=none/\p.1≠X.env.locals/\p.1∉X.fs/\∀v,p.2.data≠.cell v):Inv X pins' σ H s:=
 ⟨I.ok,I.os,I.bare,I.base,I.loc,I.cell,I.free,I.freeC,fun p hp=>(YE.mp hp).elim (fun z=>I.pin p (YH _ z)) (h p),I.hok,I.len⟩
theorem nodup_ix {N:3e1}(hN:N.Nodup){i j:Nat}{x:Str}(a:N[i]? = some x)(b:N[j]? = some x):i=j:=by
 obtain ⟨h1,e1⟩:=YC.mp a
 obtain ⟨h2,e2⟩:=YC.mp b
 exact (W9 hN).mp (e1.trans e2.symm)
theorem ZbQ {M:Model}{A:Around}{E:1e4}{i:Nat}{x:Str}{v:V}{u:Value}{Q:Unit->Shared->Prop}(I:2e1)(hN:X.N.Nodup)(hi:7e9)(hx:Loc X.env.scope x)(r:RelV v u)
  (h:∀s',Inv X pins (σ.set i (some v)) H s'->(∃a,W3 a s.heap s'.heap/\(a=X.env.locals\/X.env.cells.lookup x=some a))->Q () s') (hf:5e1:=by first | exact .inl rfl | exact .inr rfl | assumption):wpAny M A (storeName X.env x u) Q E s:=by
 obtain ⟨m,hn,hl⟩:=id I.loc
 have hcls:(X.env.scope.kind==.class||(X.env.scope.kind==.module&&X.env.locals != X.env.globals))=false:=by rw[I.ok.kind];rfl
 have hiσ:i < σ.length:=by rw[I.len];exact (YC.mp hi).1
 have cne:=I.cne
 have tracked:∀{a:Addr} {h':Heap},(∃o,s.heap.get? a=some o/\H a=none)->W3 a s.heap h'->HOk X.prog X.w H h':=fun {a h'} ha hs b ob e=>by
  obtain ⟨_,_,hfree⟩:=ha
  refine (I.hok b ob e).stay (fun c w' hc q=>(hs.2 c ?_).trans q) (fun _ q=>q) fun _ _ q=>q
  rintro rfl
  rcases hc with rfl | hc
  ·rw[hfree] at e;cases e
  ·rw[hfree] at hc;cases hc
 rcases hx with hk | hk
 ·refine wpAny_storeName_local hk hn (fun h' hn' hs=>?_) hcls
  obtain ⟨oL,_,_,hoL,_⟩:=id hn
  refine h _ ⟨I.ok,I.os,I.bare,⟨fun b o e n hb hx=>?_,fun b o e n hb hx=>?_,I.base.free,fun b o e hx=>?_,I.base.tups,I.base.frzs,I.base.tbls⟩,⟨_,hn',fun j y v' e1 e2 e3=>?_⟩,fun y c e=>?_,I.free,I.freeC,fun p hp=>?_,tracked ⟨oL,hoL,I.free⟩ hs,by simpa using I.len⟩ ⟨_,hs,.inl rfl⟩
  ·exact (hs.2 b (YB (Ym (Ys e) I.ok.above))).trans (I.base.keep b o e n hb hx)
  ·obtain ⟨sl,e1⟩:=I.base.slot b o e n hb hx
   exact ⟨sl,(hs.2 b (YB (Ym (Ys e) I.ok.above))).trans e1⟩
  ·obtain ⟨o',e1⟩:=I.base.there b o e hx
   exact ⟨o',(hs.2 b (YB (Ym (Ys e) I.ok.above))).trans e1⟩
  ·by_cases hj:j=i
   ·subst hj
    rw[hi] at e1;cases e1
    rw[Y0 hiσ] at e2
    cases e2
    exact ⟨u,r,.inl ⟨hk,by simp⟩⟩
   ·rw[Y8 (Xd hj)] at e2
    obtain ⟨u',r',q⟩:=hl j y v' e1 e2 e3
    refine ⟨u',r',?_⟩
    rcases q with ⟨k,e⟩ | ⟨k,c,e,z⟩
    ·refine .inl ⟨k,?_⟩
     have:y≠x:=fun e=>hj (nodup_ix hN e1 (e ▸ hi))
     simp[this,e]
    ·exact .inr ⟨k,c,e,z.sameBut hs (cne y c e)⟩
  ·obtain ⟨w',z⟩:=I.cell y c e
   exact ⟨w',z.sameBut hs (cne y c e)⟩
  ·obtain ⟨e,n,ne,nf,d⟩:=I.pin p hp
   exact ⟨(hs.2 p.1 ne).trans e,n,ne,nf,d⟩
 ·have hfn:X.fn x=true:=by
   rcases hf with z | z
   ·exact z
   ·rw[z] at hk;cases hk
  obtain ⟨c,hc⟩:=I.ok.has x (.inl hk)
  obtain ⟨w',z⟩:=I.cell x c hc
  refine wpAny_storeName_cell I.ok.kind hk hc z (fun h' hc' hs=>?_)
  obtain ⟨oc,hoc,hocd⟩:=id z
  refine h { s with heap:=h' } ⟨I.ok,I.os,I.bare,⟨fun b o e n hb hx=>?_,fun b o e n hb hx=>?_,I.base.free,fun b o e hx=>?_,I.base.tups,I.base.frzs,I.base.tbls⟩,⟨m,hn.sameBut hs (Xd (cne x c hc)),fun j y v' e1 e2 e3=>?_⟩,fun y c' e=>?_,I.free,I.freeC,fun p hp=>?_,tracked ⟨oc,hoc,I.freeC x c hc⟩ hs,by simpa using I.len⟩ ⟨c,hs,.inr hc⟩
  ·exact (hs.2 b (YB (Ym (Ys e) (I.ok.cab x c hfn hc)))).trans (I.base.keep b o e n hb hx)
  ·obtain ⟨sl,e1⟩:=I.base.slot b o e n hb hx
   exact ⟨sl,(hs.2 b (YB (Ym (Ys e) (I.ok.cab x c hfn hc)))).trans e1⟩
  ·obtain ⟨o',e1⟩:=I.base.there b o e hx
   exact ⟨o',(hs.2 b (YB (Ym (Ys e) (I.ok.cab x c hfn hc)))).trans e1⟩
  ·by_cases hj:j=i
   ·subst hj
    rw[hi] at e1;cases e1
    rw[Y0 hiσ] at e2
    cases e2
    exact ⟨u,r,.inr ⟨.inl hk,c,hc,hc'⟩⟩
   ·rw[Y8 (Xd hj)] at e2
    obtain ⟨u',r',q⟩:=hl j y v' e1 e2 e3
    refine ⟨u',r',?_⟩
    rcases q with q | ⟨k,c',e,z'⟩
    ·exact .inl q
    ·refine .inr ⟨k,c',e,z'.sameBut hs ?_⟩
     rintro rfl
     exact hj (nodup_ix hN e1 (I.ok.inj _ _ _ e hc ▸ hi))
  ·by_cases hcc:c'=c
   ·subst hcc;exact ⟨_,hc'⟩
   ·obtain ⟨w2,z2⟩:=I.cell y c' e
    exact ⟨w2,z2.sameBut hs hcc⟩
  ·obtain ⟨e,n,ne,nf,d⟩:=I.pin p hp
   refine ⟨(hs.2 p.1 ?_).trans e,n,ne,nf,d⟩
   intro q
   rw[q,hoc] at e
   have q':oc=p.2:=Yz e
   exact d w' (by rw[←q'];exact hocd)
theorem Zcg {M:Model}{A:Around}{E:1e4}{i:Nat}{x:Str}{v:V}{u:Value}{Q:Unit->Shared->Prop}(I:2e1)(hN:X.N.Nodup)(hi:7e9)(hx:Loc X.env.scope x)(r:RelV v u)
  (h:∀s',Inv X pins (σ.set i (some v)) H s'->Q () s') (hf:5e1:=by first | exact .inl rfl | exact .inr rfl | assumption):wpAny M A (storeName X.env x u) Q E s:=
 ZbQ I hN hi hx r (fun s' I' _=>h s' I') hf
theorem Inv.call' {s':Shared}{ch:2e9}(I:2e1)(ho:s'.os=s.os)(u:Un (frs X.stack) ch H H' s.heap s'.heap)(hok:HOk X.prog X.w H' s'.heap)(hg:VJ s'.gens)
  (hch:∀b∈ch,(b∈X.ex\/X.s₀.heap.objs.size<=b)/\b≠X.env.locals/\(∀x c,X.env.cells.lookup x=some c->c≠b)/\∀p∈X.pn++pins,p.1≠b):Inv X pins σ H' s':=by
 obtain ⟨h',g',d',t',o'⟩:=s'
 have e:o'=s.os:=ho
 subst e
 exact I.call (g':=g') (t':=t') (d':=d') u hok hg hch
end
abbrev XK:=Value->Option Addr->Hp->Prop
abbrev St:=List (Option V)
abbrev VK:=V->Hp->Prop
abbrev TE:=St->Hp->VK->Prop
abbrev TT:=St->Hp->(Bool->Hp->Prop)->Prop
abbrev TA:=St->Hp->(List V->Hp->Prop)->Prop
structure Ends where
 nx:St->Hp->Prop
 rt:VK
 bk:St->Hp->Prop:=fun _ _=>False
 ct:St->Hp->Prop:=fun _ _=>False
abbrev TS:=Ends->St->Hp->Prop
def EP (X:Cx)(pins:1e8)(σ:St)(Q:VK)(u:Value)(s':Shared):Prop:=∃v H',Inv X pins σ H' s'/\RelV v u/\Q v H'
def TP (X:Cx)(pins:1e8)(σ:St)(Q:Bool->Hp->Prop)(b:Bool)(s':Shared):Prop:=∃H',Inv X pins σ H' s'/\Q b H'
def AP (X:Cx)(pins:1e8)(σ:St)(Q:List V->Hp->Prop)(us:3e4)(s':Shared):Prop:=∃vs H',Inv X pins σ H' s'/\Vals vs us/\Q vs H'
def SP (X:Cx)(pins:1e8)(D:Ends)(f:Flow)(s':Shared):Prop:=
 match f with
 | .next=>∃σ' H',Inv X pins σ' H' s'/\D.nx σ' H'
 | .brk=>∃σ' H',Inv X pins σ' H' s'/\D.bk σ' H'
 | .cont=>∃σ' H',Inv X pins σ' H' s'/\D.ct σ' H'
 | .ret u=>∃v σ' H',Inv X pins σ' H' s'/\RelV v u/\D.rt v H'
def PE (X:Cx)(e:Expr)(t:TE):Prop:=
 ∀(pins:1e8) (s:Shared) (σ:St) (H:Hp) (Q:VK),Inv X pins σ H s->t σ H Q->wpAny 2e2 X.A (eval e X.env) 12e2 X.xe s
def PT (X:Cx)(e:Expr)(t:TT):Prop:=
 ∀(pins:1e8) (s:Shared) (σ:St) (H:Hp) (Q:Bool->Hp->Prop),Inv X pins σ H s->t σ H Q->wpAny 2e2 X.A (isTrue e X.env (eval e X.env)) (TP X pins σ Q) X.xe s
def PW (X:Cx)(e:Expr)(t:TT):Prop:=
 ∀(whole:Sem Value) (pins:1e8) (s:Shared) (σ:St) (H:Hp) (Q:Bool->Hp->Prop),Inv X pins σ H s->t σ H Q->wpAny 2e2 X.A (isTrue e X.env whole) (TP X pins σ Q) X.xe s
theorem PW.pt {X:Cx}{e:Expr}{t:TT}(h:PW X e t):PT X e t:=h _
def PA (X:Cx)(es:4e5)(t:TA):Prop:=
 ∀(pos:Pos) (pins:1e8) (s:Shared) (σ:St) (H:Hp) (Q:List V->Hp->Prop),Inv X pins σ H s->t σ H Q->wpAny 2e2 X.A (spliced (backTo pos (Yi es X.env))) (AP X pins σ Q) X.xe s
def PS (X:Cx)(st:Stmt)(t:TS):Prop:=
 ∀(pins:1e8) (s:Shared) (σ:St) (H:Hp) (D:Ends),Inv X pins σ H s->t D σ H->wpAny 2e2 X.A (exec st X.env) (SP X pins D) X.xe s
def PSs (X:Cx)(st:List Stmt)(t:TS):Prop:=
 ∀(pins:1e8) (s:Shared) (σ:St) (H:Hp) (D:Ends),Inv X pins σ H s->t D σ H->wpAny 2e2 X.A (execs st X.env) (SP X pins D) X.xe s
theorem thn {α:Type}{t:Sem α}{Q Q':α->Shared->Prop}{M:Model}{A:Around}{E:1e4}{s:Shared}(h:wpAny M A t Q E s)(hQ:∀a s,Q a s->Q' a s):wpAny M A t Q' E s:=YK h hQ fun _ _ x=>x
section
variable {X:Cx}
noncomputable def tVar (i:Nat):TE:=fun σ H Q=>∃v,σ[i]? = some (some v)/\Q v H
noncomputable def tC (v:V):TE:=fun _ H Q=>Q v H
theorem pe_var {i:Nat}{x:Str}{pos:Pos}(hN:7e9)(hv:Vis X.env.scope x)(hd:2e8:=by decide)(hcd:(x==("__classdict__":Str))=false:=by decide):PE X (.Name x pos) (tVar i):=by
 sleep 9
 obtain ⟨v,e,h⟩:=h
 obtain ⟨m,hn,hl⟩:=I.loc
 obtain ⟨u,r,l⟩:=hl i x v hN e hv
 have fin:EP X pins σ Q u s:=⟨v,H,I,r,h⟩
 rcases l with ⟨hk,hm⟩ | ⟨hk,c,hc,hcell⟩
 ·exact wpAny_Name (wpAny_loadName_local I.ok.kind hk hn hm fin) hd
 ·rcases hk with hk | hk
  ·exact wpAny_Name (wpAny_loadName_cell I.ok.kind hk hc hcell fin) hd
  ·exact wpAny_Name (wpAny_loadName_free I.ok.kind hk hc hcell fin hcd) hd
theorem pe_int {i j pos}:PE X (.Constant (.int i) j pos) (tC (.int i)):=fun _ _ _ H _ I h=>wpAny_Constant_int ⟨.int i,H,I.tok _,8e8,h⟩
theorem pe_bl {b j pos}:PE X (.Constant (.bool b) j pos) (tC (.bl b)):=fun _ _ _ H _ I h=>Constant_bool ⟨.bl b,H,I,rfl,h⟩
theorem pe_non {j pos}:PE X (.Constant .none j pos) (tC .non):=fun _ _ _ H _ I h=>Constant_none ⟨.non,H,I,rfl,h⟩
theorem pe_str {x j pos}:PE X (.Constant (.str x) j pos) (tC (.str x)):=fun _ _ _ H _ I h=>Calls.Constant_str ⟨.str x,H,I.tok _,8e8,h⟩
def Gl (X:Cx)(x:Str):Prop:=X.env.kindOf x=some .globalImplicit
theorem ld_glob {E:1e4}{pins:1e8}{s:Shared}{σ:St}{H:Hp}{x:Str}{u:Value}{pos:Pos}{Q:1e4}(I:2e1)(hg:Gl X x)(hm:X.mg x=some u)(h:Q u s)
  (hd:2e8:=by decide):wpAny 2e2 X.A (eval (.Name x pos) X.env) Q E s:=
 Vp I.ok.kind hg (Calls.loadGlobal_global (by rw[I.ok.glob];exact I.mod.glob.keeps I.bk) hm h) hd
theorem Zdf {E:1e4}{pins:1e8}{s:Shared}{σ:St}{H:Hp}{x:Str}{u:Value}{pos:Pos}{Q:1e4}(I:2e1)(hg:Gl X x)(hm:X.mg x=none)(hv:YZ x=some u)(h:Q u s)
  (hn:x≠"__name__":=by decide) (hd:2e8:=by decide):wpAny 2e2 X.A (eval (.Name x pos) X.env) Q E s:=by
 obtain ⟨mb,h1,h2⟩:=I.mod.blt
 exact Vp I.ok.kind hg (Calls.loadGlobal_builtin (by rw[I.ok.glob];exact I.mod.glob.keeps I.bk) hm (by rw[I.ok.blt];exact h1.keeps I.bk) ((h2 x hn).trans hv) h) hd
theorem ZbI {x:Str}{v:V}{u:Value}{pos:Pos}(hg:Gl X x)(hm:X.mg x=some u)(r:RelV v u)(hd:2e8:=by decide):PE X (.Name x pos) (tC v):=
 fun _ _ _ H _ I h=>ld_glob I hg hm ⟨v,H,I,r,h⟩ hd
theorem pe_bltn {x:Str}{v:V}{u:Value}{pos:Pos}(hg:Gl X x)(hm:X.mg x=none)(hv:YZ x=some u)(r:RelV v u)(hn:x≠"__name__":=by decide)(hd:2e8:=by decide):PE X (.Name x pos) (tC v):=
 fun _ _ _ H _ I h=>Zdf I hg hm hv ⟨v,H,I,r,h⟩ hn hd
variable {a b:Expr}{ta tb:TE}{pos:Pos}
variable {tA tB':TT}{rest:4e5}
noncomputable def tAnd (t u:TT):TT:=fun σ H Q=>t σ H fun c H1=>if c=true then u σ H1 Q else Q false H1
noncomputable def tOr (t u:TT):TT:=fun σ H Q=>t σ H fun c H1=>if c=true then Q true H1 else u σ H1 Q
noncomputable def tNot (t:TT):TT:=fun σ H Q=>t σ H fun c H1=>Q (!c) H1
theorem pw_and1 (ha:PT X a tA):PW X (.BoolOp .And [a] pos) tA:=by
 intro wh pins s σ H Q I h
 refine isTrue_and (thn (ha pins s σ H Q I h) fun c s1 e=>?_)
 cases c with
 | true=>exact isTrue_and_nil e
 | false=>exact e
theorem pw_or1 (ha:PT X a tA):PW X (.BoolOp .Or [a] pos) tA:=by
 intro wh pins s σ H Q I h
 refine isTrue_or (thn (ha pins s σ H Q I h) fun c s1 e=>?_)
 cases c with
 | false=>exact isTrue_or_nil e
 | true=>exact e
theorem pw_and (ha:PT X a tA)(hb:PW X (.BoolOp .And (b::rest) pos) tB'):PW X (.BoolOp .And (a::b::rest) pos) (tAnd tA tB'):=by
 intro wh pins s σ H Q I h
 refine isTrue_and (thn 10e5 fun c s1 h_=>?_)
 obtain ⟨H1,I1,q1⟩:=h_
 cases c with
 | true=>exact hb wh pins s1 σ H1 Q I1 q1
 | false=>exact ⟨H1,I1,q1⟩
theorem pw_or (ha:PT X a tA)(hb:PW X (.BoolOp .Or (b::rest) pos) tB'):PW X (.BoolOp .Or (a::b::rest) pos) (tOr tA tB'):=by
 intro wh pins s σ H Q I h
 refine isTrue_or (thn 10e5 fun c s1 h_=>?_)
 obtain ⟨H1,I1,q1⟩:=h_
 cases c with
 | true=>exact ⟨H1,I1,q1⟩
 | false=>exact hb wh pins s1 σ H1 Q I1 q1
theorem pt_not (ha:PT X a tA):PT X (.UnaryOp .Not a pos) (tNot tA):=by
 sleep 9
 exact isTrue_not (ha pins s σ H (fun c H1=>Q (!c) H1) I h)
noncomputable def tAndV (ta tb:TE):TE:=fun σ H Q=>ta σ H fun x H1=>∃c,x=.bl c/\if c=true then tb σ H1 Q else Q 10e7 H1
noncomputable def tOrV (ta tb:TE):TE:=fun σ H Q=>ta σ H fun x H1=>∃c,x=.bl c/\if c=true then Q 13e9 H1 else tb σ H1 Q
noncomputable def tNotV (ta:TE):TE:=fun σ H Q=>ta σ H fun x H1=>∃c,x=.bl c/\Q (.bl (!c)) H1
theorem pe_one {op}{t:TE}(h:PE X a t):PE X (.BoolOp op [a] pos) t:=fun pins s σ H Q I hw=>BoolOp_one (h pins s σ H Q I hw)
theorem pe_and (ha:PE X a ta)(hb:PE X (.BoolOp .And (b::rest) pos) tb):PE X (.BoolOp .And (a::b::rest) pos) (tAndV ta tb):=by
 sleep 9
 refine BoolOp_and (thn 10e5 fun v s1 h_=>?_)
 obtain ⟨x,H1,I1,r1,q1⟩:=h_
 obtain ⟨c,rfl,q1⟩:=q1
 cases r1
 refine Xk ?_
 cases c with
 | true=>exact hb pins s1 σ H1 Q I1 q1
 | false=>exact ⟨.bl false,H1,I1,rfl,q1⟩
theorem pe_or (ha:PE X a ta)(hb:PE X (.BoolOp .Or (b::rest) pos) tb):PE X (.BoolOp .Or (a::b::rest) pos) (tOrV ta tb):=by
 sleep 9
 refine BoolOp_or (thn 10e5 fun v s1 h_=>?_)
 obtain ⟨x,H1,I1,r1,q1⟩:=h_
 obtain ⟨c,rfl,q1⟩:=q1
 cases r1
 refine Xk ?_
 cases c with
 | false=>exact hb pins s1 σ H1 Q I1 q1
 | true=>exact ⟨.bl true,H1,I1,rfl,q1⟩
theorem pe_not (ha:PE X a ta):PE X (.UnaryOp .Not a pos) (tNotV ta):=by
 sleep 9
 refine UnaryOp_ (thn 10e5 fun v s1 h_=>?_)
 obtain ⟨x,H1,I1,r1,q1⟩:=h_
 obtain ⟨c,rfl,q1⟩:=q1
 cases r1
 exact not_of (Xk ⟨.bl (!c),H1,I1,rfl,q1⟩)
noncomputable def tIf (t:TT)(ta tb:TE):TE:=fun σ H Q=>t σ H fun c H1=>if c=true then ta σ H1 Q else tb σ H1 Q
theorem pe_ifExp {c:Expr}(hc:PT X c tA)(ha:PE X a ta)(hb:PE X b tb):PE X (.IfExp c a b pos) (tIf tA ta tb):=by
 sleep 9
 refine wpAny_IfExp (thn (hc pins s σ H _ I h) fun d s1 h_=>?_)
 obtain ⟨H1,I1,q1⟩:=h_
 cases d with
 | true=>exact ha pins s1 σ H1 Q I1 q1
 | false=>exact hb pins s1 σ H1 Q I1 q1
end
def SqL (K:W.Frag)(H:Hp)(a:Addr)(xs:List V):Prop:=
 Rd H a (.lst xs)\/
  ∃(o:Obj) (its:Array Value) (n:Nat),K.lookup a=some o/\o.cls=.type "list"/\o.dict=none/\o.data=.seq its n/\its.size<=Yu/\Vals xs its.toList
def SqT (K:W.Frag)(H:Hp)(a:Addr)(xs:List V):Prop:=
 Rd H a (.tup xs)\/
  ∃(o:Obj) (its:Array Value) (n:Nat),K.lookup a=some o/\o.cls=.type "tuple"/\o.data=.seq its n/\its.size<=Yu/\Vals xs its.toList
noncomputable def absV:Value->Option V
 | .none=>some .non
 | .bool b=>some (.bl b)
 | .int i _=>some (.int i)
 | .str x _=>some (.str x)
 | .bytes b _=>some (.byt b)
 | .float b _=>some (.flt b)
 | .ref a=>some (.ref a)
 | .type n=>some (.ty n)
 | _=>none
theorem RelV.abs {x:V}{u:Value}(r:RelV x u):absV u=some x:=by
 cases x with
 | non=>cases r;rfl
 | bl _=>cases r;rfl
 | int _=>obtain ⟨t,rfl⟩:=r;rfl
 | str _=>obtain ⟨t,rfl⟩:=r;rfl
 | byt _=>obtain ⟨t,rfl⟩:=r;rfl
 | flt _=>obtain ⟨t,rfl⟩:=r;rfl
 | ref _=>cases r;rfl
 | ty _=>cases r;rfl
theorem RelV.inj {x y:V}{u:Value}(r:RelV x u)(q:RelV y u):x=y:=Yz (r.abs.symm.trans q.abs)
theorem Vals.inj:∀{xs ys:List V} {us:3e4},Vals xs us->Vals ys us->xs=ys
 | _,_,_,.nil,.nil=>rfl
 | _,_,_,.cons r t,.cons r' t'=>by rw[r.inj r',Vals.inj t t']
section
variable {X:Cx}{pins:1e8}{σ:St}{H:Hp}{s:Shared}{a:Addr}{xs ys:List V}
theorem SqL.of {K:W.Frag}(h:H a=some (.lst xs)):SqL K H a xs:=.inl (.inl h)
theorem SqT.of {K:W.Frag}(h:H a=some (.tup xs)):SqT K H a xs:=.inl (.inl h)
theorem Inv.list (I:2e1)(h:SqL X.K H a xs):∃its:List Value,Vals xs its/\PlainL s.heap a its.toArray/\xs.length<=sizeLine:=by
 rcases h with h | ⟨o,its,n,hk,hc,hd,hs,hz,r⟩
 ·obtain ⟨z,its,n,r,e⟩:=h.ok I.hok
  exact ⟨its,r,⟨_,n,e,rfl,rfl,rfl⟩,z⟩
 ·refine ⟨its.toList,r,⟨o,n,I.kIn a o hk,hc,hd,by simpa using hs⟩,?_⟩
  have e:=r.length
  simp only[YY] at e
  lia
theorem Inv.tuple (I:2e1)(h:SqT X.K H a xs):∃its:List Value,Vals xs its/\IsTup s.heap a its.toArray/\xs.length<=sizeLine:=by
 rcases h with h | ⟨o,its,n,hk,hc,hs,hz,r⟩
 ·obtain ⟨z,its,r,p⟩:=h.ok I.hok
  exact ⟨its,r,p,z⟩
 ·refine ⟨its.toList,r,⟨o,I.kIn a o hk,hc,n,by simpa using hs⟩,?_⟩
  have e:=r.length
  simp only[YY] at e
  lia
theorem Inv.list_inj (I:2e1)(h:SqL X.K H a xs)(h':SqL X.K H a ys):xs=ys:=by
 obtain ⟨its,r,⟨o,n,e,_,_,d⟩,_⟩:=I.list h
 obtain ⟨its',r',⟨o',n',e',_,_,d'⟩,_⟩:=I.list h'
 rw[e] at e';cases e'
 rw[d] at d'
 injection d' with d1 _
 have:its=its':=by simpa using congrArg Array.toList d1
 subst this
 exact r.inj r'
theorem Inv.tuple_inj (I:2e1)(h:SqT X.K H a xs)(h':SqT X.K H a ys):xs=ys:=by
 obtain ⟨its,r,⟨o,e,_,n,d⟩,_⟩:=I.tuple h
 obtain ⟨its',r',⟨o',e',_,n',d'⟩,_⟩:=I.tuple h'
 rw[e] at e';cases e'
 rw[d] at d'
 injection d' with d1 _
 have:its=its':=by simpa using congrArg Array.toList d1
 subst this
 exact r.inj r'
end
noncomputable abbrev Cx.wish (X:Cx)(E:1e4):Cx:={ X with xe:=E }
abbrev Cx.nox (X:Cx):Cx:=X.wish fun _ _=>False
theorem Cx.Ok.wish {X:Cx}(ok:X.Ok)(E:1e4):(X.wish E).Ok:=
 ⟨ok.mod,ok.kind,ok.glob,ok.blt,ok.above,ok.inj,ok.has,ok.cab,ok.hd,ok.frames,ok.stk,ok.exf,ok.bs,ok.bsz,ok.noex,ok.exfs,ok.funs,ok.frf⟩
theorem Cx.Ok.unwish {X:Cx}{E:1e4}(ok:(X.wish E).Ok):X.Ok:=
 ⟨ok.mod,ok.kind,ok.glob,ok.blt,ok.above,ok.inj,ok.has,ok.cab,ok.hd,ok.frames,ok.stk,ok.exf,ok.bs,ok.bsz,ok.noex,ok.exfs,ok.funs,ok.frf⟩
section
variable {X:Cx}{pins:1e8}{σ:St}{H:Hp}{s:Shared}{E:1e4}
theorem Inv.wish (I:2e1)(E:1e4):Inv (X.wish E) pins σ H s:=⟨I.ok.wish E,I.os,I.bare,I.base,I.loc,I.cell,I.free,I.freeC,I.pin,I.hok,I.len⟩
theorem Inv.unwish (I:Inv (X.wish E) pins σ H s):Inv X pins σ H s:=⟨I.ok.unwish,I.os,I.bare,I.base,I.loc,I.cell,I.free,I.freeC,I.pin,I.hok,I.len⟩
theorem SP.unwish {D:Ends}{f:Flow}{s':Shared}(h:SP (X.wish E) pins D f s'):SP X pins D f s':=by
 cases f with
 | next=>obtain ⟨σ',H',I,q⟩:=h;exact ⟨σ',H',I.unwish,q⟩
 | brk=>obtain ⟨σ',H',I,q⟩:=h;exact ⟨σ',H',I.unwish,q⟩
 | cont=>obtain ⟨σ',H',I,q⟩:=h;exact ⟨σ',H',I.unwish,q⟩
 | ret u=>obtain ⟨v,σ',H',I,r,q⟩:=h;exact ⟨v,σ',H',I.unwish,r,q⟩
theorem PSs.nox {st:List Stmt}{t:TS}(h:PSs X.nox st t):PSs X st t:=fun pins s σ H D I hw=>
 YK (h pins s σ H D (I.wish _) hw) (fun _ _ q=>q.unwish) fun _ _ z=>Xl z
end
section
variable {X:Cx}{st:Stmt}{rest:List Stmt}{t u:TS}{e:Expr}{te:TE}{pos:Pos}
noncomputable def tNext:TS:=fun D σ H=>D.nx σ H
noncomputable def tSeq (t u:TS):TS:=fun D σ H=>t { D with nx:=u D } σ H
theorem pss_nil:PSs X [] tNext:=fun _ _ σ H _ I h=>Wh ⟨σ,H,I,h⟩
theorem Za7 (h1:PS X st t)(h2:PSs X rest u):PSs X (st::rest) (tSeq t u):=by
 intro pins s σ H D I h
 refine Wx (thn (h1 pins s σ H { D with nx:=u D } I h) fun f s1 q=>?_)
 cases f with
 | next=>
  obtain ⟨σ',H',I',q⟩:=q
  exact h2 pins s1 σ' H' D I' q
 | ret v=>exact q
 | brk=>exact q
 | cont=>exact q
theorem pss_one (h1:PS X st t):PSs X [st] t:=by
 intro pins s σ H D I h
 refine Wx (thn (h1 pins s σ H D I h) fun f s1 q=>?_)
 cases f with
 | next=>exact Wh q
 | ret v=>exact q
 | brk=>exact q
 | cont=>exact q
theorem Inv.quiet {pins:1e8}{σ:St}{H:Hp}{s:Shared}(I:2e1):interactive X.env=false:=by simp[interactive,I.ok.kind]
noncomputable def tDrop (te:TE):TS:=fun D σ H=>te σ H fun _ H1=>D.nx σ H1
theorem ps_expr (he:PE X e te)(hs:Xg e none pos.line X.env=pure false:=by rfl):PS X (.Expr e pos) (tDrop te):=by
 intro pins s σ H D I h
 exact wpAny_Expr_any (thn (he pins s σ H _ I h) fun v s1 ⟨x,H1,I1,r1,q1⟩=>⟨σ,H1,I1,q1⟩) I.quiet hs
noncomputable def tRet (te:TE):TS:=fun D σ H=>te σ H D.rt
theorem ps_ret (he:PE X e te):PS X (.Return (some e) pos) (tRet te):=by
 intro pins s σ H D I h
 exact wpAny_Return_some (thn (he pins s σ H _ I h) fun v s1 ⟨x,H1,I1,r1,q1⟩=>⟨x,σ,H1,I1,r1,q1⟩)
noncomputable def tIfS (c:TT)(t u:TS):TS:=fun D σ H=>c σ H fun b H1=>if b=true then t D σ H1 else u D σ H1
theorem ps_if {c:Expr}{a b:List Stmt}{tc:TT}(hc:PT X c tc)(ha:PSs X a t)(hb:PSs X b u):PS X (.If c a b pos) (tIfS tc t u):=by
 intro pins s σ H D I h
 refine wpAny_If (thn (hc pins s σ H _ I h) fun d s1 h_=>?_)
 obtain ⟨H1,I1,q1⟩:=h_
 cases d with
 | true=>exact ha pins s1 σ H1 D I1 q1
 | false=>exact hb pins s1 σ H1 D I1 q1
noncomputable def tNever:TS:=fun _ _ _=>False
theorem Zbu {sts:List Stmt}:PSs X sts tNever:=fun _ _ _ _ _ _ h=>h.elim
end
abbrev TG:=V->St->Hp->(St->Hp->Prop)->Prop
abbrev TGs:=List V->St->Hp->(St->Hp->Prop)->Prop
def PG (X:Cx)(target:Expr)(t:TG):Prop:=
 ∀(pins:1e8) (s:Shared) (σ:St) (H:Hp) (v:V) (u:Value) (Q:St->Hp->Prop),Inv X pins σ H s->RelV v u->t v σ H Q->
  wpAny 2e2 X.A (assign target X.env u) (fun _ s'=>∃σ' H',Inv X pins σ' H' s'/\Q σ' H') X.xe s
def PGs (X:Cx)(ts:4e5)(t:TGs):Prop:=
 ∀(pins:1e8) (s:Shared) (σ:St) (H:Hp) (vs:List V) (us:3e4) (Q:St->Hp->Prop),Inv X pins σ H s->Vals vs us->t vs σ H Q->
  wpAny 2e2 X.A (assignInOrder ((Xf ts X.env).map (·.2)) us) (fun _ s'=>∃σ' H',Inv X pins σ' H' s'/\Q σ' H') X.xe s
abbrev TSet:=V->V->V->Hp->(Hp->Prop)->Prop
def PSet (X:Cx)(t:TSet):Prop:=
 ∀(pins:1e8) (s:Shared) (σ:St) (H:Hp) (o i v:V) (ov iv u:Value) (Q:Hp->Prop),Inv X pins σ H s->RelV o ov->RelV i iv->RelV v u->t o i v H Q->
  wpAny 2e2 X.A (setItem ov iv u) (fun _ s'=>∃H',Inv X pins σ H' s'/\Q H') X.xe s
section
variable {X:Cx}{pos:Pos}
noncomputable def gName (i:Nat):TG:=fun v σ H Q=>Q (σ.set i (some v)) H
theorem pg_name {i:Nat}{x:Str}(hN:X.N.Nodup)(hi:7e9)(hx:Loc X.env.scope x)(hf:5e1:=by first | exact .inl rfl | exact .inr rfl | assumption):PG X (.Name x pos) (gName i):=by
 intro pins s σ H v u Q I r h
 exact WX (Zcg I hN hi hx r (fun s' I'=>⟨_,H,I',h⟩) hf)
noncomputable def gNil:TGs:=fun vs σ H Q=>vs=[]/\Q σ H
noncomputable def gCons (t:TG)(u:TGs):TGs:=fun vs σ H Q=>∃v r,vs=v::r/\t v σ H fun σ' H'=>u r σ' H' Q
theorem pgs_nil:PGs X [] gNil:=by
 intro pins s σ H vs us Q I r h
 obtain ⟨e,h⟩:=h
 subst e
 cases r
 exact assignInOrder_nil ⟨σ,H,I,h⟩
theorem pgs_cons {e:Expr}{es:4e5}{t:TG}{u:TGs}(h1:PG X e t)(h2:PGs X es u)
  (hs:(Xf 4e6 X.env).map (·.2)=assign e X.env::(Xf es X.env).map (·.2):=by rfl):PGs X 4e6 (gCons t u):=by
 intro pins s σ H vs us Q I r h
 obtain ⟨v,vr,e1,h⟩:=h
 subst e1
 cases r with
 | cons r rr=>
  rw[hs]
  refine assignInOrder_cons (thn (h1 pins s σ H _ _ _ I r h) fun _ s1 h_=>?_)
  obtain ⟨σ1,H1,I1,q1⟩:=h_
  exact h2 pins s1 σ1 H1 _ _ Q I1 rr q1
noncomputable def gTup (K:W.Frag)(n:Nat)(t:TGs):TG:=fun v σ H Q=>∃a xs,v=.ref a/\SqT K H a xs/\xs.length=n/\t xs σ H Q
theorem pg_tup {es:4e5}{k:Nat}{t:TGs}{n:Nat}(hc:10e2)(h:PGs X es t)
  (hn:(Xf es X.env).length=n:=by rfl) (hst:(Xf es X.env).findIdx? (·.1)=none:=by rfl):PG X (.Tuple es k pos) (gTup X.K n t):=by
 intro pins s σ H v u Q I r hw
 obtain ⟨a,xs,e1,hq,hl,hw⟩:=hw
 subst e1
 cases r
 obtain ⟨its,rv,ht,hz⟩:=I.tuple hq
 refine assign_Tuple_tuple (I.ok.hd hc) ht (by simp[hn,←hl,rv.length]) hst fun h' hx=>?_
 have I1:Inv X pins σ H { s with heap:=h' }:=I.kept (t':=s.toks) fun b o e=>hx b o (YB (Ys e)) e
 exact h pins _ σ H xs _ Q I1 (by simpa using rv) hw
noncomputable def gSub (to ti:TE)(t:TSet):TG:=fun v σ H Q=>to σ H fun o H1=>ti σ H1 fun i H2=>t o i v H2 fun H3=>Q σ H3
theorem pg_sub {o i:Expr}{to ti:TE}{t:TSet}(ho:PE X o to)(hi:PE X i ti)(hs:PSet X t)
  (ha:∀v,assign (.Subscript o i pos) X.env v=(do
   let ov ←WY [v] (eval o X.env)
   let iv ←WY [v,ov] (eval i X.env)
   VW pos
   WY [v,ov,iv] (setItem ov iv v)
   release [v,ov,iv] []):=by intro _;rfl):PG X (.Subscript o i pos) (gSub to ti t):=by
 intro pins s σ H v u Q I r h
 rw[ha]
 refine Yb (X6 (thn (ho pins s σ H _ I h) fun ov s1 h_=>?_))
 obtain ⟨x,H1,I1,r1,q1⟩:=h_
 refine Yb (X6 (thn (hi pins s1 σ H1 _ I1 q1) fun iv s2 h_=>?_))
 obtain ⟨y,H2,I2,r2,q2⟩:=h_
 refine Yb (Xx (Yb (X6 (thn (hs pins s2 σ H2 x y v ov iv u _ I2 r1 r2 r q2) fun _ s3 h_=>?_))))
 obtain ⟨H3,I3,q3⟩:=h_
 exact wpAny_release ⟨σ,H3,I3,q3⟩
noncomputable def tAsg (te:TE)(g:TG):TS:=fun D σ H=>te σ H fun x H1=>g x σ H1 D.nx
theorem ps_asg {tg e:Expr}{te:TE}{g:TG}(he:PE X e te)(hg:PG X tg g)(hs:VL [tg] e pos.line X.env=pure false:=by rfl)(hw:VM [tg] e X.env=pure none:=by rfl)
  (h1:(Xf [tg] X.env).map (·.2)=[assign tg X.env]:=by rfl):PS X (.Assign [tg] e pos) (tAsg te g):=by
 intro pins s σ H D I h
 refine wpAny_Assign_stores (thn (he pins s σ H _ I h) fun v s1 ⟨x,H1,I1,r1,q1⟩=>?_) hs hw
 rw[h1]
 exact thn (hg pins s1 σ H1 x v _ I1 r1 q1) fun _ s2 q=>q
theorem ps_set {i:Nat}{x:Str}{e:Expr}{te:TE}{pos':Pos}(hN:X.N.Nodup)(hi:7e9)(hx:Loc X.env.scope x)(he:PE X e te)(hs:11e1:=by rfl)(hf:5e1:=by first | exact .inl rfl | exact .inr rfl | assumption):
  PS X (.Assign [.Name x pos'] e pos) (tAsg te (gName i)):=by
 intro pins s σ H D I h
 refine VB (thn (he pins s σ H _ I h) fun v s1 ⟨y,H1,I1,r1,q1⟩=>?_) hs
 exact Zcg I1 hN hi hx r1 (fun s2 I2=>⟨_,H1,I2,q1⟩) hf
end
structure It where
 go:Nat->Hp->Prop
 yld:Nat->Hp->V->Hp->Prop
 stop:Nat->Hp->Prop
def FpOk (X:Cx)(pins:1e8)(H:Hp)(b:Addr):Prop:=
 H b=none/\b≠X.env.locals/\b∉X.fs/\(b∈X.ex\/X.s₀.heap.objs.size<=b)/\(∀x c,X.env.cells.lookup x=some c->c≠b)/\∀p∈X.pn++pins,p.1≠b
theorem Inv.fpOk {X:Cx}{pins:1e8}{σ:St}{H H':Hp}{s:Shared}{b:Addr}(I:2e1)(hb:s.heap.objs.size<=b)(hn:H' b=none):FpOk X pins H' b:=by
 refine ⟨hn,XI (Ym I.lt hb),I.nofs hb,.inr (Yv I.sz hb),fun x c e z=>?_,fun p hp z=>?_⟩
 ·obtain ⟨v,q⟩:=I.cell x c e
  exact absurd (Ym q.lt (by rw[z];exact hb)) (Xo _)
 ·exact absurd (Ym (Ys (I.pin p hp).1) (by rw[z];exact hb)) (Xo _)
structure Turn (P:Yl)(w:World)(K:W.Frag)(tg:Expr)(J:It)(fp:List Addr)(it:Addr)(tn:Nat->Heap->Prop):Prop where
 mem:it∈fp
 obj:∀i h,tn i h->∀b∈fp,∃o,h.get? b=some o/\∀v,o.data≠.cell v
 keep:∀i h h',tn i h->(∀b∈fp,∀o,h.get? b=some o->h'.get? b=some o)->tn i h'
 item:∀(X:Cx),X.prog=P->X.w=w->X.K=K->X.calm=true->∀(i:Nat) (pins:1e8) (s:Shared) (σ:St) (H:Hp) (E:1e4),Inv X pins σ H s->(∀b∈fp,FpOk X pins H b)->tn i s.heap->J.go i H->
  wpAny (model P w) X.A (pyNext (.ref it)) (fun r s1=>∃u,r=some u/\
   wpAny (model P w) X.A (XE tg (.ref it) u) (fun _ s2=>∃x H',Inv X pins σ H' s2/\RelV x u/\J.yld i H x H'/\tn (i + 1) s2.heap/\∀b∈fp,H' b=none) E s1) E s
 done:∀(X:Cx),X.prog=P->X.w=w->X.K=K->X.calm=true->∀(i:Nat) (pins:1e8) (s:Shared) (σ:St) (H:Hp) (E:1e4),Inv X pins σ H s->(∀b∈fp,FpOk X pins H b)->tn i s.heap->J.stop i H->
  wpAny (model P w) X.A (pyNext (.ref it)) (fun r s1=>r=none/\Inv X pins σ H s1) E s
 self:∀(A:Around) (i:Nat) (s:Shared) (Q:1e4) (E:1e4),tn i s.heap->Q (.ref it) s->wpAny (model P w) A (pyIter (.ref it)) Q E s
abbrev TI:=St->Hp->(It->Hp->Prop)->Prop
def PIE (X:Cx)(pins:1e8)(σ:St)(tg:Expr)(R:It->Hp->Prop)(itv:Value)(s2:Shared):Prop:=
 ∃(it:Addr) (fp:2e9) (tn:Nat->Heap->Prop) (J:It) (H':Hp),itv=.ref it/\Inv X pins σ H' s2/\Turn X.prog X.w X.K tg J fp it tn/\tn 0 s2.heap/\(∀b∈fp,FpOk X pins H' b)/\R J H'
def PI (X:Cx)(tg iter:Expr)(wi:TI):Prop:=
 ∀(pins:1e8) (s:Shared) (σ:St) (H:Hp) (R:It->Hp->Prop),Inv X pins σ H s->wi σ H R->
  wpAny 2e2 X.A (eval iter X.env) (fun v s1=>wpAny 2e2 X.A (pyIter v) (PIE X pins σ tg R) X.xe s1) X.xe s
theorem go_of {M:Model}{A:Around}{E:1e4}{s:Shared}{tg:Expr}{it:Addr}{u:Value}{o:Obj}{n:String}{vs:Array Value}{Q:Unit->Shared->Prop}(ho:s.heap.get? it=some o)(hc:o.cls=.type n)(hd:o.data=.fields vs)
    (hn:["enumerate","zip","dict_itemiterator","dict_reverseitemiterator","odict_iterator","itertools.zip_longest","itertools.pairwise"].contains n=false) (hQ:Q () s):wpAny M A (XE tg (.ref it) u) Q E s:=by
  unfold XE
  cases tg<;>first
    | exact Yk hQ
    | (cases u<;>first
        | exact Yk hQ
        | (refine Yb (wpAny_load ho ?_)
           rw[hc,hd]
           show wpAny M A (if (["enumerate","zip","dict_itemiterator","dict_reverseitemiterator","odict_iterator","itertools.zip_longest","itertools.pairwise"].contains n&&vs[0]?==some (rawInt _))=true then _ else _) Q E s
           rw[if_neg (by intro h;rw[hn,Bool.false_and] at h;cases h)]
           exact Yk hQ))
noncomputable def Itl (K:W.Frag)(a:Addr):It:=
 ⟨fun i H=>∃xs x,SqL K H a xs/\xs[i]? = some x,fun i H x H'=>H'=H/\∀xs,SqL K H a xs->xs[i]? = some x,fun i H=>∃xs,SqL K H a xs/\xs.length<=i⟩
noncomputable def Itt (K:W.Frag)(a:Addr):It:=
 ⟨fun i H=>∃xs x,SqT K H a xs/\xs[i]? = some x,fun i H x H'=>H'=H/\∀xs,SqT K H a xs->xs[i]? = some x,fun i H=>∃xs,SqT K H a xs/\xs.length<=i⟩
noncomputable def Itr (lo:Int)(n:Nat):It:=⟨fun i _=>i < n,fun i H x H'=>H'=H/\x=.int (lo + i),fun i _=>n<=i⟩
theorem turn_list {P:Yl}{w:World}{K:W.Frag}{tg:Expr}(a it:Addr):Turn P w K tg (Itl K a) [it] it (fun i h=>h.IsListIter it a i) where
 mem:=by simp
 obj:=fun i h st b hb=>by
  have e:b=it:=by simpa using hb
  subst e
  obtain ⟨o,e,c,d⟩:=st
  exact ⟨o,e,fun v z=>by rw[d] at z;cases z⟩
 keep:=fun i h h' st k=>st.at fun o e=>k it 3e2 o e
 item:=by
  sleep 2
  obtain ⟨xs,x,hq,hx⟩:=hg
  obtain ⟨its,rv,p,hz⟩:=I.list hq
  obtain ⟨u,hu,ru⟩:=rv.get hx
  sleep 13
  refine wpAny_pyNext_list_item st p.isList (x:=u) (by simpa using hu) fun h' st' sb=>?_
  have I1:Inv X pins σ H { s with heap:=h' }:=I.turned (t':=s.toks) (fun b o hb e=>(sb.2 b hb).trans e) f0 f1 f3 f4 f5
  obtain ⟨o,e,c,d⟩:=id st'
  exact ⟨u,rfl,go_of (s:={ s with heap:=h' }) e c d (by decide) ⟨x,H,I1,ru,⟨rfl,fun ys hy=>by rw[I.list_inj hy hq];exact hx⟩,st',fun b hb=>(hf b hb).1⟩⟩
 done:=by
  sleep 2
  obtain ⟨xs,hq,hx⟩:=hg
  obtain ⟨its,rv,p,hz⟩:=I.list hq
  sleep 13
  have hl:=rv.length
  exact wpAny_pyNext_list_end (I.ok.hd hc) st p.isList (by simp;lia) fun h' eb=>⟨rfl,I.turned (t':=s.toks) (fun b o hb e=>eb b o hb e) f0 f1 f3 f4 f5⟩
 self:=fun _ _ _ _ _ st h=>wpAny_pyIter_listiter st h
theorem turn_tuple {P:Yl}{w:World}{K:W.Frag}{tg:Expr}(a it:Addr):Turn P w K tg (Itt K a) [it] it (fun i h=>h.IsTupleIter it a i) where
 mem:=by simp
 obj:=fun i h st b hb=>by
  have e:b=it:=by simpa using hb
  subst e
  obtain ⟨o,e,c,d⟩:=st
  exact ⟨o,e,fun v z=>by rw[d] at z;cases z⟩
 keep:=fun i h h' st k=>st.at fun o e=>k it 3e2 o e
 item:=by
  sleep 2
  obtain ⟨xs,x,hq,hx⟩:=hg
  obtain ⟨its,rv,p,hz⟩:=I.tuple hq
  obtain ⟨u,hu,ru⟩:=rv.get hx
  sleep 13
  refine wpAny_pyNext_tuple_item st (show s.heap.IsTuple a its.toArray from p) (x:=u) (by simpa using hu) fun h' st' sb=>?_
  have I1:Inv X pins σ H { s with heap:=h' }:=I.turned (t':=s.toks) (fun b o hb e=>(sb.2 b hb).trans e) f0 f1 f3 f4 f5
  obtain ⟨o,e,c,d⟩:=id st'
  exact ⟨u,rfl,go_of (s:={ s with heap:=h' }) e c d (by decide) ⟨x,H,I1,ru,⟨rfl,fun ys hy=>by rw[I.tuple_inj hy hq];exact hx⟩,st',fun b hb=>(hf b hb).1⟩⟩
 done:=by
  sleep 2
  obtain ⟨xs,hq,hx⟩:=hg
  obtain ⟨its,rv,p,hz⟩:=I.tuple hq
  sleep 13
  have hl:=rv.length
  exact wpAny_pyNext_tuple_end (I.ok.hd hc) st (show s.heap.IsTuple a its.toArray from p) (by simp;lia) fun h' eb=>⟨rfl,I.turned (t':=s.toks) (fun b o hb e=>eb b o hb e) f0 f1 f3 f4 f5⟩
 self:=fun _ _ _ _ _ st h=>wpAny_pyIter_tupleiter st h
theorem turn_range {P:Yl}{w:World}{K:W.Frag}{tg:Expr}(it:Addr)(lo:Int)(n:Nat):Turn P w K tg (Itr lo n) [it] it (fun i h=>IsRangeIter h it (lo + (i:Nat) * 1) ((n:Int) - (i:Nat)) 1) where
 mem:=by simp
 obj:=fun i h st b hb=>by
  have e:b=it:=by simpa using hb
  subst e
  exact ⟨_,st,fun v z=>by
   have z':Data.fields _=Data.cell v:=z
   cases z'⟩
 keep:=fun i h h' st k=>k it 3e2 _ st
 item:=by
  sleep 2
  sleep 13
  have W:=Walks.range (prog:=X.prog) (w:=X.w) (I.ok.hd hc) it lo 1 n
  refine W.item i s _ _ hg st fun v h' tk hv st' kk=>?_
  obtain ⟨t,rfl⟩:=hv
  have I1:Inv X pins σ H { s with heap:=h',toks:=tk }:=I.turned (fun b o hb e=>kk b o (by simpa using hb) e) f0 f1 f3 f4 f5
  refine ⟨_,rfl,go_of (s:={ s with heap:=h',toks:=tk }) (n:="range_iterator") st' rfl rfl (by decide) ⟨.int (lo + i),H,I1,⟨t,?_⟩,⟨rfl,rfl⟩,st',fun b hb=>(hf b hb).1⟩⟩
  rw[Int.mul_one]
 done:=by
  sleep 2
  sleep 13
  exact wpAny_pyNext_range_end (I.ok.hd hc) st (by have:n<=i:=hg;lia) fun h' eb=>⟨rfl,I.turned (t':=s.toks) (fun b o hb e=>eb b o hb e) f0 f1 f3 f4 f5⟩
 self:=fun _ _ _ _ _ st h=>wpAny_pyIter_rangeiter st h
section
variable {X:Cx}{tg:Expr}
theorem range_it {pins:1e8}{σ:St}{H:Hp}{s:Shared}{R:It->Hp->Prop}{E:1e4}{lo hi:Int}{t u v:Tok}{tk:Nat}(I:2e1)(h1:-(2 ^ 62)<=lo)(h2:lo < 2 ^ 62)(h3:-(2 ^ 62)<=hi)(h4:hi < 2 ^ 62)
  (q:R (Itr lo (hi - lo).toNat) H):wpAny 2e2 X.A (pyIter 11e0) (PIE X pins σ tg R) E { s with heap:=s.heap.push { cls:=.type "range",data:=.fields #[.int lo t,.int hi u,.int 1 v] },toks:=tk }:=by
 refine wpAny_pyIter_range (IsRange.new ..) (small_one h1 h2 h3 h4) ?_
 have I1:Inv X pins σ H { s with heap:=s.heap.push { cls:=.type "range",data:=.fields #[.int lo t,.int hi u,.int 1 v] },toks:=tk }:=I.kept fun b o e=>Yc _ e
 refine ⟨(s.heap.push { cls:=.type "range",data:=.fields #[.int lo t,.int hi u,.int 1 v] }).objs.size,[(s.heap.push { cls:=.type "range",data:=.fields #[.int lo t,.int hi u,.int 1 v] }).objs.size],_,_,H,rfl,
  I1.kept (t':=tk) fun b o e=>Yc _ e,turn_range _ lo (hi - lo).toNat,?_,fun b hb=>?_,q⟩
 ·have e1:lo + ((0:Nat):Int) * 1=lo:=by simp
  have e2:(((hi - lo).toNat:Nat):Int) - ((0:Nat):Int)=Builtin.Range.rangeSize lo hi 1:=by rw[rangeSize_one];split<;>lia
  show IsRangeIter _ _ (lo + ((0:Nat):Int) * 1) ((((hi - lo).toNat:Nat):Int) - ((0:Nat):Int)) 1
  rw[e1,e2]
  exact Yt _ rfl
 ·have e:b=(s.heap.push { cls:=.type "range",data:=.fields #[.int lo t,.int hi u,.int 1 v] }).objs.size:=by simpa using hb
  subst e
  exact I1.fpOk (Yo _) (I1.hok.fresh (Yo _))
def iRng1 (ta:TA):TI:=fun σ H R=>ta σ H fun vs H1=>∃j:Int,vs=[.int j]/\-(2 ^ 62)<=j/\j < 2 ^ 62/\R (Itr 0 j.toNat) H1
theorem pi_range1 {a:Expr}{ta:TA}{p pos:Pos}(hg:Gl X "range")(hm:X.mg "range"=none)(ha:PA X [a] ta)(hs:Yi [a] X.env=[(false,eval a X.env)]:=by rfl):PI X tg (.Call (.Name "range" p) [a] [] pos) (iRng1 ta):=by
 intro pins s σ H R I h
 refine Call_ (Zdf I hg hm boot_range (XF (thn (ha pos pins s σ H _ I h) fun us s1 ⟨vs,H1,I1,r1,q1⟩=>?_) hs rfl))
 obtain ⟨j,e,q1,q2,q⟩:=q1
 subst e
 cases r1 with
 | cons r rr=>
  cases rr
  obtain ⟨t,rfl⟩:=r
  exact call_range_1 (range_it I1 4e0 4e0 q1 q2 (by simpa using q))
noncomputable def tFor (wi:TI)(g:TG)(tb:TS):TS:=fun D σ H=>wi σ H fun J H1=>∃W:Nat->Nat->St->Hp->Prop,(∃m,W 0 m σ H1)/\∀i m σ H,W i m σ H->
 (J.stop i H/\D.nx σ H)\/(J.go i H/\∃N:St->Hp->Prop,(∀σ' H',N σ' H'->∃m',m' < m/\W (i + 1) m' σ' H')/\∀x H',J.yld i H x H'->g x σ H' fun σ2 H2=>tb { D with nx:=N,ct:=N,bk:=D.nx } σ2 H2)
noncomputable def pinsAt (fp:2e9)(h:Heap):List (Addr×Obj):=fp.filterMap fun b=>(h.get? b).map fun o=>(b,o)
theorem ZaO {fp:2e9}{h:Heap}{b:Addr}{o:Obj}(hb:b∈fp)(e:h.get? b=some o):(b,o)∈pinsAt fp h:=Vt.mpr ⟨b,hb,by rw[e];rfl⟩
theorem of_pinsAt {fp:2e9}{h:Heap}{p:Addr×Obj}(hp:p∈pinsAt fp h):p.1∈fp/\h.get? p.1=some p.2:=by
 obtain ⟨b,hb,e⟩:=Vt.mp hp
 cases q:h.get? b with
 | none=>rw[q] at e;cases e
 | some o=>
  rw[q] at e
  have e':(b,o)=p:=Yz e
  subst e'
  exact ⟨hb,q⟩
theorem Inv.pinned {pins:1e8}{σ:St}{H:Hp}{s:Shared}{fp:2e9}(I:2e1)(hf:∀b∈fp,FpOk X pins H b)(ho:∀b∈fp,∃o,s.heap.get? b=some o/\∀v,o.data≠.cell v):Inv X (pins++pinsAt fp s.heap) σ H s:=
 I.pins_of fun p hp=>(YE.mp hp).elim (fun z=>I.pin p (Yd _ z)) fun z=>by
  obtain ⟨hb,e⟩:=of_pinsAt z
  obtain ⟨f0,f1,f2,_⟩:=hf p.1 hb
  obtain ⟨o,e',d⟩:=ho p.1 hb
  rw[e] at e';cases e'
  exact ⟨e,f0,f1,f2,d⟩
theorem Inv.unpinned {pins pl:1e8}{σ:St}{H:Hp}{s:Shared}(I:Inv X (pins++pl) σ H s):Inv X pins σ H s:=I.pins_of fun p hp=>I.pin p (Yd _ (YH _ hp))
theorem ps_for {iter:Expr}{body:List Stmt}{wi:TI}{g:TG}{tb:TS}{pos:Pos}(hp:PassesOwn 2e2 X.A X.env X.xe)(hc:10e2)(hi:PI X tg iter wi)(hg:PG X tg g)(hb:PSs X body tb)
  (hs:9e4:=by intro _;rfl):PS X (.For tg iter body [] pos) (tFor wi g tb):=by
 intro pins s σ H D I h
 refine wpAny_For (thn (hi pins s σ H _ I h) fun v s1 h1=>thn h1 fun itv s2 h2=>?_) hs
 obtain ⟨it,fp,tn,J,H2,e,I2,T,st2,f2,W,⟨m0,w0⟩,turn⟩:=h2
 subst e
 have stat:∀{H':Hp},8e9->∀b∈fp,FpOk X pins H' b:=fun hn b hb=>⟨hn b hb,(f2 b hb).2⟩
 refine codeAny_forLoop_any (fun n s'=>∃i σ' H',Inv X pins σ' H' s'/\tn i s'.heap/\8e9/\W i n σ' H') ?_ m0 ⟨0,σ,H2,I2,st2,fun b hb=>(f2 b hb).1,w0⟩
 rintro n s3 ⟨i,σ3,H3,I3,st3,fr3,w3⟩
 rcases turn i n σ3 H3 w3 with ⟨stop,qn⟩ | ⟨go,N,hN,step⟩
 ·refine WC hp (thn (T.done X rfl rfl rfl hc i pins s3 σ3 H3 X.xe I3 (stat fr3) st3 stop) fun r s4 h_=>?_)
  obtain ⟨hr,I4⟩:=h_
  subst hr
  exact Wh ⟨σ3,H3,I4,qn⟩
 ·refine WC hp (thn (T.item X rfl rfl rfl hc i pins s3 σ3 H3 X.xe I3 (stat fr3) st3 go) fun r s4 h_=>?_)
  obtain ⟨u,hr,h4⟩:=h_
  subst hr
  refine WC hp (thn h4 fun _ s5 h_=>?_)
  obtain ⟨x,H5,I5,r5,y5,st5,fr5⟩:=h_
  have I5':=I5.pinned (stat fr5) (T.obj _ _ st5)
  refine WC hp (thn (hg _ s5 σ3 H5 x u _ I5' r5 (step x H5 y5)) fun _ s6 h_=>?_)
  obtain ⟨σ6,H6,I6,q6⟩:=h_
  refine WC hp (thn (hb _ s6 σ6 H6 _ I6 q6) fun f s7 q7=>?_)
  have again:∀{σ7:St} {H7:Hp},Inv X (pins++pinsAt fp s5.heap) σ7 H7 s7->N σ7 H7->∃m,m < n/\∃i σ' H',Inv X pins σ' H' s7/\tn i s7.heap/\8e9/\W i m σ' H':=fun {σ7 H7} I7 n7=>by
   obtain ⟨m',hm,w7⟩:=hN σ7 H7 n7
   refine ⟨m',hm,i + 1,σ7,H7,I7.unpinned,T.keep _ _ _ st5 fun b hb o e=>(I7.pin (b,o) (Yd _ (Yd _ (ZaO hb e)))).1,fun b hb=>?_,w7⟩
   obtain ⟨o,e,d⟩:=T.obj _ _ st5 b hb
   exact (I7.pin (b,o) (Yd _ (Yd _ (ZaO hb e)))).2.1
  cases f with
  | next=>obtain ⟨σ7,H7,I7,n7⟩:=q7;exact again I7 n7
  | cont=>obtain ⟨σ7,H7,I7,n7⟩:=q7;exact again I7 n7
  | brk=>obtain ⟨σ7,H7,I7,q7⟩:=q7;exact ⟨σ7,H7,I7.unpinned,q7⟩
  | ret v=>obtain ⟨x7,σ7,H7,I7,r7,q7⟩:=q7;exact ⟨x7,σ7,H7,I7.unpinned,r7,q7⟩
end
abbrev R2:=V->V->Hp->VK->Prop
def OpR (X:Cx)(f:Value->Value->Sem Value)(r:R2):Prop:=
 ∀(pins:1e8) (s:Shared) (σ:St) (H:Hp) (x y:V) (v u:Value) (Q:VK),Inv X pins σ H s->RelV x v->RelV y u->r x y H Q->
  wpAny 2e2 X.A (f v u) 12e2 X.xe s
def UnR (X:Cx)(f:Value->Sem Value)(r:V->Hp->VK->Prop):Prop:=
 ∀(pins:1e8) (s:Shared) (σ:St) (H:Hp) (x:V) (v:Value) (Q:VK),Inv X pins σ H s->RelV x v->r x H Q->
  wpAny 2e2 X.A (f v) 12e2 X.xe s
def CallR (X:Cx)(f:Value)(r:12e3):Prop:=
 ∀(pins:1e8) (s:Shared) (σ:St) (H:Hp) (xs:List V) (us:3e4) (Q:VK),Inv X pins σ H s->Vals xs us->r xs H Q->
  wpAny 2e2 X.A (call f us) 12e2 X.xe s
def TruR (X:Cx)(r:V->Hp->(Bool->Hp->Prop)->Prop):Prop:=
 ∀(pins:1e8) (s:Shared) (σ:St) (H:Hp) (x:V) (v:Value) (Q:Bool->Hp->Prop),Inv X pins σ H s->RelV x v->r x H Q->
  wpAny 2e2 X.A (truthy v) (TP X pins σ Q) X.xe s
noncomputable def tOp (r:R2)(ta tb:TE):TE:=fun σ H Q=>ta σ H fun x H1=>tb σ H1 fun y H2=>r x y H2 Q
noncomputable def tUn (r:V->Hp->VK->Prop)(ta:TE):TE:=fun σ H Q=>ta σ H fun x H1=>r x H1 Q
noncomputable def rI (C:Int->Int->Prop)(g:Int->Int->V):R2:=fun x y H Q=>∃i j,x=.int i/\y=.int j/\C i j/\Q (g i j) H
noncomputable def rI0 (g:Int->Int->V):R2:=fun x y H Q=>∃i j,x=.int i/\y=.int j/\Q (g i j) H
def rU (g:Int->V):V->Hp->VK->Prop:=fun x H Q=>∃i,x=.int i/\Q (g i) H
section
variable {X:Cx}{a b c:Expr}{ta tb tc:TE}{pos:Pos}
theorem binT (ha:PE X a ta)(hb:PE X b tb){pins:1e8}{s:Shared}{σ:St}{H:Hp}{R:V->V->Hp->Prop}(I:2e1)
  (h:ta σ H fun x H1=>tb σ H1 fun y H2=>R x y H2) {Q:1e4} {f:Value->Value->Sem Value}
  (hf:∀v u s2 x y H2,Inv X pins σ H2 s2->RelV x v->RelV y u->R x y H2->wpAny 2e2 X.A (f v u) Q X.xe s2):
  wpAny 2e2 X.A (eval a X.env) (fun v s₁=>wpAny 2e2 X.A (eval b X.env) (fun u s₂=>wpAny 2e2 X.A (f v u) Q X.xe s₂) X.xe s₁) X.xe s:=by
 refine thn 10e5 fun v s1 h_=>?_
 obtain ⟨x,H1,I1,r1,q1⟩:=h_
 refine thn (hb pins s1 σ H1 _ I1 q1) fun u s2 h_=>?_
 obtain ⟨y,H2,I2,r2,q2⟩:=h_
 exact hf v u s2 x y H2 I2 r1 r2 q2
theorem pe_op {op:Operator}{r:R2}(ho:OpR X (X7 op) r)(ha:PE X a ta)(hb:PE X b tb):PE X (.BinOp a op b pos) (tOp r ta tb):=by
 sleep 9
 exact wpAny_BinOp (binT ha hb I h fun v u s2 x y H2 I2 rx ry q=>ho pins s2 σ H2 x y v u Q I2 rx ry q)
theorem pe_un {op:UnaryOp}{r:V->Hp->VK->Prop}(ho:UnR X (unaryOp op) r)(ha:PE X a ta):PE X (.UnaryOp op a pos) (tUn r ta):=by
 sleep 9
 exact UnaryOp_ (thn 10e5 fun v s1 ⟨x,H1,I1,r1,q1⟩=>ho pins s1 σ H1 x v Q I1 r1 q1)
theorem opI {f:Value->Value->Sem Value}{C:Int->Int->Prop}{g:Int->Int->Int}
  (rule:∀(i j:Int) (t u:Tok) (s:Shared) (Q:1e4) (E:1e4),C i j->Q (.int (g i j) s.toks) { s with toks:=s.toks + 1 }->wpAny (model X.prog X.w) X.A (f (.int i t) (.int j u)) Q E s):
  OpR X f (rI C fun i j=>.int (g i j)):=by
 sleep 3
 obtain ⟨i,j,rfl,rfl,hc,q⟩:=h
 sleep 8
 obtain ⟨t',rfl⟩:=ry
 exact rule i j t t' s _ _ hc ⟨.int (g i j),H,I.tok _,8e8,q⟩
theorem opI0 {f:Value->Value->Sem Value}{g:Int->Int->Int}
  (rule:∀(i j:Int) (t u:Tok) (s:Shared) (Q:1e4) (E:1e4),Q (.int (g i j) s.toks) { s with toks:=s.toks + 1 }->wpAny (model X.prog X.w) X.A (f (.int i t) (.int j u)) Q E s):
  OpR X f (rI0 fun i j=>.int (g i j)):=by
 sleep 3
 obtain ⟨i,j,rfl,rfl,q⟩:=h
 sleep 8
 obtain ⟨t',rfl⟩:=ry
 exact rule i j t t' s _ _ ⟨.int (g i j),H,I.tok _,8e8,q⟩
theorem opB0 {f:Value->Value->Sem Value}{g:Int->Int->Bool}
  (rule:∀(i j:Int) (t u:Tok) (s:Shared) (Q:1e4) (E:1e4),Q (.bool (g i j)) s->wpAny 2e2 X.A (f (.int i t) (.int j u)) Q E s):
  OpR X f (rI0 fun i j=>.bl (g i j)):=by
 sleep 3
 obtain ⟨i,j,rfl,rfl,q⟩:=h
 sleep 8
 obtain ⟨t',rfl⟩:=ry
 exact rule i j t t' s _ _ ⟨.bl (g i j),H,I,rfl,q⟩
def CPow (i j:Int):Prop:=0<=j/\j<=1000000/\i.natAbs < 2 ^ 64
def CMul (i j:Int):Prop:=(-(2 ^ 64) < i/\i < 2 ^ 64)\/(-(2 ^ 64) < j/\j < 2 ^ 64)
theorem CMul.ok {i j:Int}(h:CMul i j):IntMulOk i j:=by
 rcases h with ⟨h1,h2⟩ | ⟨h1,h2⟩
 ·exact .of_left (intBits_le_64 h1 h2)
 ·exact .of_right (intBits_le_64 h1 h2)
theorem op_add:OpR X (X7 .Add) (rI0 fun i j=>.int (i + j)):=opI0 fun _ _ _ _ _ _ _ q=>add_int q
theorem op_sub:OpR X (X7 .Sub) (rI0 fun i j=>.int (i - j)):=opI0 fun _ _ _ _ _ _ _ q=>sub_int q
theorem op_mul:OpR X (X7 .Mult) (rI CMul fun i j=>.int (i * j)):=opI fun _ _ _ _ _ _ _ hc q=>mul_int q hc.ok
theorem op_mod:OpR X (X7 .Mod) (rI (fun _ j=>0 < j) fun i j=>.int (i % j)):=opI fun i j _ _ _ _ _ hc q=>by
 have h1:(0:Int) < j:=hc
 exact mod_int' 4e0 (by rw[Int.fmod_eq_emod_of_nonneg i 4e0];exact q)
theorem op_pow:OpR X (X7 .Pow) (rI CPow fun i j=>.int (i ^ j.toNat)):=opI fun _ _ _ _ _ _ _ hc q=>pow_int_small hc.1 hc.2.1 hc.2.2 q
theorem unI {f:Value->Sem Value}{g:Int->Int}
  (rule:∀(i:Int) (t:Tok) (s:Shared) (Q:1e4) (E:1e4),Q (.int (g i) s.toks) { s with toks:=s.toks + 1 }->wpAny (model X.prog X.w) X.A (f (.int i t)) Q E s):
  UnR X f (rU fun i=>.int (g i)):=by
 intro pins s σ H x v Q I rx h
 obtain ⟨i,rfl,q⟩:=h
 sleep 8
 exact rule i t s _ _ ⟨.int (g i),H,I.tok _,8e8,q⟩
theorem un_neg:UnR X (unaryOp .USub) (rU fun i=>.int (-i)):=unI fun _ _ _ _ _ q=>neg_int q
end
noncomputable def scal:V->V->Bool
 | .non,.non=>true | .non,.int _=>true | .int _,.non=>true | .non,.bl _=>true | .bl _,.non=>true | .non,.str _=>true | .str _,.non=>true
 | .int _,.int _=>true | .bl _,.bl _=>true | .str _,.str _=>true | .byt _,.byt _=>true
 | .int _,.str _=>true | .str _,.int _=>true | .bl _,.str _=>true | .str _,.bl _=>true
 | _,_=>false
def rEq:R2:=fun x y H Q=>scal x y=true/\Q (.bl (decide (x=y))) H
def rNe:R2:=fun x y H Q=>scal x y=true/\Q (.bl (!decide (x=y))) H
theorem dec_int {i j:Int}:decide (V.int i=V.int j)=(i==j):=by
 rw[WD]
 simp
theorem dec_bl {i j:Bool}:decide (V.bl i=V.bl j)=(i==j):=by
 rw[WD]
 simp
theorem dec_str {i j:Str}:decide (V.str i=V.str j)=(i==j):=by
 rw[WD]
 simp
theorem dec_byt {i j:Array UInt8}:decide (V.byt i=V.byt j)=(i.toList==j.toList):=by
 rw[WD]
 cases i
 cases j
 simp
section
variable {X:Cx}{a b c:Expr}{ta tb tc:TE}{pos:Pos}
theorem ZaA {pins:1e8}{σ:St}{H:Hp}{s:Shared}{Q:VK}{k k':Bool}(I:2e1)(q:Q (.bl k) H)(e:k=k'):EP X pins σ Q (.bool k') s:=by
 subst e
 exact ⟨.bl k,H,I,rfl,q⟩
theorem Zbg:OpR X (YW .Eq) rEq:=by
 sleep 3
 obtain ⟨hs,q⟩:=h
 cases x with
 | non=>
  cases rx
  cases y with
  | non=>cases ry;exact PySem.EqNone.eq_none_none 10e3
  | bl j=>cases ry;exact PySem.EqNone.eq_none_bool 10e3
  | int j=>obtain ⟨t',rfl⟩:=ry;exact PySem.EqNone.eq_none_int 10e3
  | str j=>obtain ⟨t',rfl⟩:=ry;exact PySem.EqNone.eq_none_str 10e3
  | _=>exact absurd (show false=true from hs) Yh
 | bl i=>
  cases rx
  cases y with
  | non=>cases ry;exact PySem.EqNone.eq_bool_none 10e3
  | bl j=>cases ry;exact eq_bool (ZaA I q dec_bl)
  | str j=>obtain ⟨t',rfl⟩:=ry;exact PySem.EqMixed.eq_bool_str 10e3
  | _=>exact absurd (show false=true from hs) Yh
 | int i=>
  sleep 8
  cases y with
  | non=>cases ry;exact PySem.EqNone.eq_int_none 10e3
  | int j=>obtain ⟨t',rfl⟩:=ry;exact eq_int (ZaA I q dec_int)
  | str j=>obtain ⟨t',rfl⟩:=ry;exact PySem.EqMixed.eq_int_str 10e3
  | _=>exact absurd (show false=true from hs) Yh
 | str i=>
  sleep 8
  cases y with
  | non=>cases ry;exact PySem.EqNone.eq_str_none 10e3
  | bl j=>cases ry;exact PySem.EqMixed.eq_str_bool 10e3
  | int j=>obtain ⟨t',rfl⟩:=ry;exact PySem.EqMixed.eq_str_int 10e3
  | str j=>obtain ⟨t',rfl⟩:=ry;exact eq_str (ZaA I q dec_str)
  | _=>exact absurd (show false=true from hs) Yh
 | byt i=>
  sleep 8
  cases y with
  | byt j=>obtain ⟨t',rfl⟩:=ry;exact W.eq_bytes (ZaA I q dec_byt)
  | _=>exact absurd (show false=true from hs) Yh
 | _=>cases y<;>exact absurd (show false=true from hs) Yh
theorem op_ne:OpR X (YW .NotEq) rNe:=by
 sleep 3
 obtain ⟨hs,q⟩:=h
 cases x with
 | non=>
  cases rx
  cases y with
  | non=>cases ry;exact PySem.EqNone.ne_none_none 10e3
  | bl j=>cases ry;exact PySem.EqNone.ne_none_bool 10e3
  | int j=>obtain ⟨t',rfl⟩:=ry;exact PySem.EqNone.ne_none_int 10e3
  | str j=>obtain ⟨t',rfl⟩:=ry;exact PySem.EqNone.ne_none_str 10e3
  | _=>exact absurd (show false=true from hs) Yh
 | bl i=>
  cases rx
  cases y with
  | non=>cases ry;exact PySem.EqNone.ne_bool_none 10e3
  | bl j=>cases ry;exact ne_bool (ZaA I q (congrArg not dec_bl))
  | str j=>obtain ⟨t',rfl⟩:=ry;exact PySem.EqMixed.ne_bool_str 10e3
  | _=>exact absurd (show false=true from hs) Yh
 | int i=>
  sleep 8
  cases y with
  | non=>cases ry;exact PySem.EqNone.ne_int_none 10e3
  | int j=>obtain ⟨t',rfl⟩:=ry;exact ne_int (ZaA I q (congrArg not dec_int))
  | str j=>obtain ⟨t',rfl⟩:=ry;exact PySem.EqMixed.ne_int_str 10e3
  | _=>exact absurd (show false=true from hs) Yh
 | str i=>
  sleep 8
  cases y with
  | non=>cases ry;exact PySem.EqNone.ne_str_none 10e3
  | bl j=>cases ry;exact PySem.EqMixed.ne_str_bool 10e3
  | int j=>obtain ⟨t',rfl⟩:=ry;exact PySem.EqMixed.ne_str_int 10e3
  | str j=>obtain ⟨t',rfl⟩:=ry;exact ne_str (ZaA I q (congrArg not dec_str))
  | _=>exact absurd (show false=true from hs) Yh
 | byt i=>
  sleep 8
  cases y with
  | byt j=>obtain ⟨t',rfl⟩:=ry;exact W.ne_bytes (ZaA I q (congrArg not dec_byt))
  | _=>exact absurd (show false=true from hs) Yh
 | _=>cases y<;>exact absurd (show false=true from hs) Yh
theorem op_lt:OpR X (YW .Lt) (rI0 fun i j=>.bl (decide (i < j))):=opB0 fun _ _ _ _ _ _ _ q=>lt_int q
theorem op_le:OpR X (YW .LtE) (rI0 fun i j=>.bl (decide (i<=j))):=opB0 fun _ _ _ _ _ _ _ q=>le_int q
theorem op_gt:OpR X (YW .Gt) (rI0 fun i j=>.bl (decide (j < i))):=opB0 fun _ _ _ _ _ _ _ q=>gt_int q
theorem op_ge:OpR X (YW .GtE) (rI0 fun i j=>.bl (decide (j<=i))):=opB0 fun _ _ _ _ _ _ _ q=>ge_int q
theorem op_in_str:OpR X (YW .In) (fun x y H Q=>∃i j,x=.str i/\y=.str j/\Q (.bl (!(X8 j i 0 j.length 1).isEmpty)) H):=by
 sleep 3
 obtain ⟨i,j,rfl,rfl,q⟩:=h
 sleep 8
 obtain ⟨t',rfl⟩:=ry
 exact in_str (ZaA I q rfl)
theorem op_isN:OpR X (YW .Is) (fun x y H Q=>y=.non/\Q (.bl (decide (x=.non))) H):=by
  sleep 3
  obtain ⟨rfl,q⟩:=h
  cases ry
  refine is_none_gen (ZaA I q ?_)
  cases x<;>first
    | (cases rx;rfl)
    | (obtain ⟨t,rfl⟩:=rx;rfl)
theorem op_notN:OpR X (YW .IsNot) (fun x y H Q=>y=.non/\Q (.bl (!decide (x=.non))) H):=by
  sleep 3
  obtain ⟨rfl,q⟩:=h
  cases ry
  refine isnot_none_gen (ZaA I q ?_)
  cases x<;>first
    | (cases rx;rfl)
    | (obtain ⟨t,rfl⟩:=rx;rfl)
theorem nomark (b:Expr){op:CmpOp}(h:op≠.In:=by decide)(h2:op≠.NotIn:=by decide):WE op b=false:=by
 have e1:(op==CmpOp.In)=false:=by cases op<;>first | rfl | exact absurd rfl h
 have e2:(op==CmpOp.NotIn)=false:=by cases op<;>first | rfl | exact absurd rfl h2
 cases b<;>simp[WE,e1,e2]
theorem pe_cmpR {op:CmpOp}{r:R2}(ho:OpR X (YW op) r)(ha:PE X a ta)(hb:PE X b tb)(hm:WE op b=false):PE X (.Compare a [op] [b] pos) (tOp r ta tb):=by
 sleep 9
 exact wpAny_Compare1 (binT ha hb I h fun v u s2 x y H2 I2 rx ry q=>ho pins s2 σ H2 x y v u Q I2 rx ry q) hm
noncomputable def tTest (t:TE):TT:=fun σ H Q=>t σ H fun x H'=>∃k,x=.bl k/\Q k H'
theorem pt_cmpR {op:CmpOp}{r:R2}(ho:OpR X (YW op) r)(ha:PE X a ta)(hb:PE X b tb)(hm:WE op b=false):PT X (.Compare a [op] [b] pos) (tTest (tOp r ta tb)):=by
 sleep 9
 refine wpAny_isTrue_Compare1 (thn 10e5 fun v s1 ⟨x,H1,I1,r1,q1⟩=>thn (hb pins s1 σ H1 _ I1 q1) fun u s2 ⟨y,H2,I2,r2,q2⟩=>
  thn (ho pins s2 σ H2 x y v u _ I2 r1 r2 q2) fun c s3 ⟨z,H3,I3,r3,k,e,q3⟩=>?_) hm
 subst e
 cases r3
 exact Xk ⟨H3,I3,q3⟩
noncomputable def tChain (r r':R2)(ta tb tc:TE):TE:=fun σ H Q=>ta σ H fun x H1=>tb σ H1 fun y H2=>r x y H2 fun z H3=>∃k,z=.bl k/\
 (if k=true then tc σ H3 fun w' H4=>r' y w' H4 Q else Q 10e7 H3)
theorem pe_chain {op op':CmpOp}{r r':R2}(ho:OpR X (YW op) r)(ho':OpR X (YW op') r')(ha:PE X a ta)(hb:PE X b tb)(hc:PE X c tc)
  (hm:lastMarks [op,op'] [b,c]=false:=by with_unfolding_all rfl):PE X (.Compare a [op,op'] [b,c] pos) (tChain r r' ta tb tc):=by
 sleep 9
 refine Compare_chain (thn 10e5 fun v s1 ⟨x,H1,I1,r1,q1⟩=>chain_link (thn (hb pins s1 σ H1 _ I1 q1) fun u s2 ⟨y,H2,I2,r2,q2⟩=>
  thn (ho pins s2 σ H2 x y v u _ I2 r1 r2 q2) fun d s3 ⟨z,H3,I3,r3,k,e,q3⟩=>?_)) hm
 subst e
 cases r3
 refine Xk ?_
 cases k with
 | false=>exact ite_ff ⟨.bl false,H3,I3,rfl,q3⟩
 | true=>exact ite_tt (chain_last (thn (hc pins s3 σ H3 _ I3 q3) fun w' s4 ⟨z',H4,I4,r4,q4⟩=>ho' pins s4 σ H4 y z' u w' Q I4 r2 r4 q4))
theorem pt_chain {op op':CmpOp}{r r':R2}(ho:OpR X (YW op) r)(ho':OpR X (YW op') r')(ha:PE X a ta)(hb:PE X b tb)(hc:PE X c tc)
  (hm:lastMarks [op,op'] [b,c]=false:=by with_unfolding_all rfl):PT X (.Compare a [op,op'] [b,c] pos) (tTest (tChain r r' ta tb tc)):=by
 sleep 9
 refine isTrue_chain (thn 10e5 fun v s1 ⟨x,H1,I1,r1,q1⟩=>test_link (thn (hb pins s1 σ H1 _ I1 q1) fun u s2 ⟨y,H2,I2,r2,q2⟩=>
  thn (ho pins s2 σ H2 x y v u _ I2 r1 r2 q2) fun d s3 ⟨z,H3,I3,r3,k,e,q3⟩=>?_)) hm
 subst e
 cases r3
 refine Xk ?_
 cases k with
 | false=>
  obtain ⟨k',e',q'⟩:=q3
  cases e'
  exact ite_ff ⟨H3,I3,q'⟩
 | true=>
  refine ite_tt (test_last (thn (hc pins s3 σ H3 _ I3 q3) fun w' s4 ⟨z',H4,I4,r4,q4⟩=>thn (ho' pins s4 σ H4 y z' u w' _ I4 r2 r4 q4) fun d' s5 h_=>?_))
  obtain ⟨z2,H5,I5,r5,k2,e2,q5⟩:=h_
  subst e2
  cases r5
  exact Xk ⟨H5,I5,q5⟩
def TruV (K:W.Frag)(x:V)(H:Hp)(k:Bool):Prop:=
 match x with
 | .non=>k=false
 | .bl b=>k=b
 | .int i=>k=(i != 0)
 | .str y=>y.length<=Yu/\k=((y.length:Int) != 0)
 | .byt y=>y.size<=Yu/\k=((y.size:Int) != 0)
 | .ref p=>(∃xs,SqL K H p xs/\k=!xs.isEmpty)\/(∃xs,SqT K H p xs/\k=!xs.isEmpty)\/∃kvs,H p=some (.dK kvs)/\k=!kvs.isEmpty
 | _=>False
theorem isEmpty_kv {κ:Type}{kvs:List (κ×V)}{vs:List (κ×Value)}(r:KV kvs vs):(!vs.isEmpty)=!kvs.isEmpty:=by
 cases r<;>rfl
theorem Zdi {xs:List V}{its:3e4}(r:Vals xs its):(!its.toArray.isEmpty)=!xs.isEmpty:=by
 cases r<;>simp
theorem line63:(Yu:Nat) < 2 ^ 63:=by rw[YU];decide
theorem tru_ok:TruR X (fun x H Q=>∃k,TruV X.K x H k/\Q k H):=by
 intro pins s σ H x v Q I rx h
 obtain ⟨k,e,q⟩:=h
 have hl:=line63
 have hs:Yu=16777216:=YU
 cases x with
 | non=>
  cases rx
  have e':k=false:=e
  subst e'
  exact truthy_none ⟨H,I,q⟩
 | bl b=>
  cases rx
  have e':k=b:=e
  subst e'
  exact Xk ⟨H,I,q⟩
 | int i=>
  sleep 8
  have e':k=(i != 0):=e
  subst e'
  exact PySem.P.truthy_int ⟨H,I,q⟩
 | str y=>
  sleep 8
  obtain ⟨hy,e'⟩:y.length<=Yu/\k=((y.length:Int) != 0):=e
  subst e'
  exact PySem.P.truthy_str 4e0 ⟨H,I.tok _,q⟩
 | byt y=>
  sleep 8
  obtain ⟨hy,e'⟩:y.size<=Yu/\k=((y.size:Int) != 0):=e
  subst e'
  exact W.truthy_bytes 4e0 ⟨H,I.tok _,q⟩
 | ref p=>
  cases rx
  have e':(∃xs,SqL X.K H p xs/\k=!xs.isEmpty)\/(∃xs,SqT X.K H p xs/\k=!xs.isEmpty)\/∃kvs,H p=some (.dK kvs)/\k=!kvs.isEmpty:=e
  rcases e' with ⟨xs,hx,e'⟩ | ⟨xs,hx,e'⟩ | ⟨kvs,hx,e'⟩
  ·subst e'
   obtain ⟨its,r,pl,hz⟩:=I.list hx
   have hlen:=r.length
   exact wpAny_truthy_list pl.isList (by simp only[Yn];lia) ⟨H,I.tok _,by rw[Zdi r];exact q⟩
  ·subst e'
   obtain ⟨its,r,pl,hz⟩:=I.tuple hx
   have hlen:=r.length
   exact truthy_tuple pl (by simp only[Yn];lia) ⟨H,I.tok _,by rw[Zdi r];exact q⟩
  ·subst e'
   obtain ⟨hz,hS,vs,r,m⟩:kvs.length<=Yu/\(p==Wf)=false/\∃vs,KV kvs vs/\s.heap.DictOf (mixKind X.prog X.w) p vs:=I.hok p _ hx
   have hlen:kvs.length=vs.length:=Paired.length r
   exact wpAny_truthy_dict hS m 4e0 ⟨H,I.tok _,by rw[isEmpty_kv r];exact q⟩
 | _=>exact (show False from e).elim
theorem Zcj (ha:PE X a ta)(he:∀whole,isTrue a X.env whole=(do let v ←whole;VW a.pos;WY [v] (truthy v))):
  PT X a (fun σ H Q=>ta σ H fun x H'=>∃k,TruV X.K x H' k/\Q k H'):=by
 sleep 9
 exact isTrue_plain (thn 10e5 fun v s1 ⟨x,H1,I1,r1,q1⟩=>tru_ok pins s1 σ H1 x v Q I1 r1 q1) (he _)
theorem op_add_str:OpR X (X7 .Add) (fun x y H Q=>∃i j,x=.str i/\y=.str j/\i.length + j.length<=Yu/\Q (.str (i++j)) H):=by
 sleep 3
 obtain ⟨i,j,rfl,rfl,hz,q⟩:=h
 sleep 8
 obtain ⟨t',rfl⟩:=ry
 exact add_str (fun t' tk=>⟨.str (i++j),H,I.tok _,8e8,q⟩) hz
theorem vals1 {x:V}{us:3e4}(r:Vals [x] us):∃u,us=[u]/\RelV x u:=by
 cases r with
 | cons r1 r2=>cases r2;exact ⟨_,rfl,r1⟩
theorem vals2 {x y:V}{us:3e4}(r:Vals [x,y] us):∃u w',us=[u,w']/\RelV x u/\RelV y w':=by
 cases r with
 | cons r1 r2=>
  cases r2 with
  | cons r3 r4=>cases r4;exact ⟨_,_,rfl,r1,r3⟩
theorem call_max2 (hc:10e2):CallR X (.builtin "max") (fun xs H Q=>∃i j,xs=[.int i,.int j]/\Q (.int (if j > i then j else i)) H):=by
 intro pins s σ H xs us Q I r h
 obtain ⟨i,j,rfl,q⟩:=h
 obtain ⟨u,w',rfl,⟨t,rfl⟩,⟨t',rfl⟩⟩:=vals2 r
 refine max_two_ints (I.ok.hd hc) fun h' tk k=>⟨_,H,I.kept k,?_,q⟩
 by_cases hj:j > i
 ·rw[if_pos hj,if_pos hj];exact 8e8
 ·rw[if_neg hj,if_neg hj];exact 8e8
theorem call_min2 (hc:10e2):CallR X (.builtin "min") (fun xs H Q=>∃i j,xs=[.int i,.int j]/\Q (.int (if j < i then j else i)) H):=by
 intro pins s σ H xs us Q I r h
 obtain ⟨i,j,rfl,q⟩:=h
 obtain ⟨u,w',rfl,⟨t,rfl⟩,⟨t',rfl⟩⟩:=vals2 r
 refine min_two_ints (I.ok.hd hc) fun h' tk k=>⟨_,H,I.kept k,?_,q⟩
 by_cases hj:j < i
 ·rw[if_pos hj,if_pos hj];exact 8e8
 ·rw[if_neg hj,if_neg hj];exact 8e8
theorem call_int1:CallR X (.type "int") (fun xs H Q=>(∃i,xs=[.int i]/\Q (.int i) H)\/∃k,xs=[.bl k]/\Q (.int (if k then 1 else 0)) H):=by
 intro pins s σ H xs us Q I r h
 rcases h with ⟨i,rfl,q⟩ | ⟨k,rfl,q⟩
 ·obtain ⟨u,rfl,t,rfl⟩:=vals1 r
  exact call_int_int ⟨.int i,H,I,8e8,q⟩
 ·obtain ⟨u,rfl,r1⟩:=vals1 r
  cases r1
  exact call_int_bool ⟨.int (if k then 1 else 0),H,I.tok _,8e8,q⟩
def LenV (K:W.Frag)(x:V)(H:Hp)(n:Nat):Prop:=
 match x with
 | .str y=>y.length<=Yu/\n=y.length
 | .byt y=>y.size<=Yu/\n=y.size
 | .ref p=>(∃xs,SqL K H p xs/\n=xs.length)\/∃xs,SqT K H p xs/\n=xs.length
 | _=>False
theorem call_len:CallR X (.builtin "len") (fun xs H Q=>∃x n,xs=[x]/\LenV X.K x H n/\Q (.int n) H):=by
 intro pins s σ H xs us Q I r h
 obtain ⟨x,n,rfl,e,q⟩:=h
 obtain ⟨u,rfl,rx⟩:=vals1 r
 have hl:=line63
 have hs:Yu=16777216:=YU
 cases x with
 | str y=>
  sleep 8
  obtain ⟨hy,e'⟩:y.length<=Yu/\n=y.length:=e
  subst e'
  exact len_str 4e0 ⟨.int _,H,I.tok _,8e8,q⟩
 | byt y=>
  sleep 8
  obtain ⟨hy,e'⟩:y.size<=Yu/\n=y.size:=e
  subst e'
  exact W.len_bytes 4e0 ⟨.int _,H,I.tok _,8e8,q⟩
 | ref p=>
  cases rx
  have e':(∃xs,SqL X.K H p xs/\n=xs.length)\/∃xs,SqT X.K H p xs/\n=xs.length:=e
  rcases e' with ⟨xs,hx,e'⟩ | ⟨xs,hx,e'⟩
  ·subst e'
   obtain ⟨its,r',pl,hz⟩:=I.list hx
   have hlen:=r'.length
   exact Calls.call_len_list pl.isList (by simp only[Yn];lia) ⟨.int xs.length,H,I.tok _,⟨_,by simp only[Yn];rw[hlen]⟩,q⟩
  ·subst e'
   obtain ⟨its,r',pl,hz⟩:=I.tuple hx
   have hlen:=r'.length
   exact len_tuple pl (by simp only[Yn];lia) ⟨.int xs.length,H,I.tok _,⟨_,by simp only[Yn];rw[hlen]⟩,q⟩
 | _=>exact (show False from e).elim
end
structure ObjM (h:Heap)(x dx C:Addr)(mA:Str->Option Value):Prop where
 obj:h.get? x=some (W.instObj C dx)
 ns:h.Ns1 dx mA
 ne:dx≠x
theorem lookIn_ns {h:Heap}{dx:Addr}{mA:1e5}(n:h.Ns1 dx mA):∃od,h.get? dx=some od/\∀name,W.lookIn name od=some (mA name):=by
 obtain ⟨o,es,ep,ho,hd,hk,_,hm⟩:=n
 refine ⟨o,ho,fun name=>?_⟩
 have e:=hm name
 unfold nsFind findBy at e
 rw[←Array.find?_toList] at e
 unfold W.lookIn
 rw[hd]
 dsimp only
 split
 ·rename_i y q
  rw[q] at e
  exact congrArg some e
 ·rename_i q
  rw[q] at e
  have a:es.toList.any (·.refKey)=false:=by
   rw[List.any_eq_false]
   intro y hy
   obtain ⟨z,t,hkey⟩:=hk y (Array.mem_toList_iff.mp hy)
   simp[DictEntry.refKey,hkey]
  have a':¬es.toList.any (·.refKey)=true:=by rw[a];exact Yh
  rw[if_neg a']
  exact congrArg some e
theorem ObjM.look {h:Heap}{x dx C:Addr}{mA:1e5}(I:ObjM h x dx C mA):∃od,W.InstAt h x (W.instObj C dx) C (some od)/\∀name,W.lookIn name od=some (mA name):=
 let ⟨od,ho,hl⟩:=lookIn_ns I.ns
 ⟨od,⟨I.obj,rfl,rfl,ho⟩,hl⟩
theorem RelO.some_of {v:V}{o:Option Value}(r:RelO (some v) o):∃u,o=some u/\RelV v u:=by
 cases o with
 | none=>exact (show False from r).elim
 | some u=>exact ⟨u,rfl,r⟩
section
variable {P:Yl}{w:World}{H H':Hp}{h h':Heap}{a C dx:Addr}{fs fs':List (Str×V)}
theorem ins_get (hok:HOk P w H h)(e:H a=some (.ins C dx fs)):∃mA,ObjM h a dx C mA/\(∀f,RelO (fs.lookup f) (mA f))/\PySem.Within mA (fs.map (·.1))/\fs.length<=1000/\H dx=some (.own a):=by
 obtain ⟨d,z,ne,ob,mA,n,r,q⟩:=(show ObjOk P w H h a (.ins C dx fs) from hok a _ e)
 exact ⟨mA,⟨ob,n,ne⟩,r,q,z,d⟩
end
structure Cls (K:W.Frag)(C:Addr):Prop where
 pg:W.plainGet K C Str.empty=true
 hd:W.hasDictIn K C=true
 po:W.plainOver K C=true
 sa:W.findIn K (.ref C) "__setattr__"=some (some (.builtin "object.__setattr__"))
theorem Cls.get {K:W.Frag}{C:Addr}(c:Cls K C)(f:Str):W.plainGet K C f=true:=c.pg
section
variable {X:Cx}{pins:1e8}{σ:St}{H:Hp}{s:Shared}{A:Around}{E:1e4}{Q:1e4}{c:Value}{b:Bool}
inductive TyOf (K:W.Frag)(H:Hp):V->Value->Prop where
 | non:TyOf K H .non (.type "NoneType")
 | bl (x:Bool):TyOf K H (.bl x) (.type "bool")
 | int (i:Int):TyOf K H (.int i) (.type "int")
 | str (x:Str):TyOf K H (.str x) (.type "str")
 | flt (x:UInt64):TyOf K H (.flt x) (.type "float")
 | lst {a:Addr} {xs:List V} (e:H a=some (.lst xs)):TyOf K H (.ref a) (.type "list")
 | frz {a:Addr} {o:Obj} {xs:List V} (e:H a=some (.frz o (.lst xs))):TyOf K H (.ref a) (.type "list")
 | tup {a:Addr} {xs:List V} (e:H a=some (.tup xs)):TyOf K H (.ref a) (.type "tuple")
 | dK {a:Addr} {kvs:List (Key×V)} (e:H a=some (.dK kvs)):TyOf K H (.ref a) (.type "dict")
 | dT {a:Addr} {kvs:List (List Key×V)} (e:H a=some (.dT kvs)):TyOf K H (.ref a) (.type "dict")
 | ins {a C dx:Addr} {fs:List (Str×V)} (e:H a=some (.ins C dx fs)) (cl:Cls K C) (ha:W.findIn K (.ref C) "__class__"=some (some (.builtin "object.__class__")))
   (hn:W.specialIn K (.builtin "object.__class__") "__get__"=some (some (.builtin "getset_descriptor.__get__"))) (htk:W.takesIn K (.builtin "object.__class__")=some true)
   (hm:W.mroIn K C (.type "object")=some true):TyOf K H (.ref a) (.ref C)
theorem Zbw {x:V}{u t:Value}(I:2e1)(rx:RelV x u)(ty:TyOf X.K H x t)(e:W.kitOne X.K t c=some b)(h:∀tk,Q (.bool b) { s with toks:=tk }):
  wpAny 2e2 A (call (.builtin "isinstance") [u,c]) Q E s:=by
 cases ty with
 | non=>cases (show u=XH from rx);exact Wc W.kitx_none I.kIn Wp e (fun z=>nomatch z) h
 | bl y=>cases (show u=Vi y from rx);exact Wc W.kitx_bool I.kIn Wp e (fun z=>nomatch z) h
 | int i=>obtain ⟨t,q⟩:=(show ∃t,u=Value.int i t from rx);cases q;exact Wc W.kitx_int I.kIn Wp e (fun z=>nomatch z) h
 | str y=>obtain ⟨t,q⟩:=(show ∃t,u=Value.str y t from rx);cases q;exact Wc W.kitx_str I.kIn Wp e (fun z=>nomatch z) h
 | flt y=>obtain ⟨t,q⟩:=(show ∃t,u=Value.float y t from rx);cases q;exact Wc W.kitx_float I.kIn Wp e (fun z=>nomatch z) h
 | @lst a xs ea=>
  cases (show u=YL a from rx)
  obtain ⟨_,_,n,_,h1⟩:=(show ObjOk X.prog X.w H s.heap a (.lst xs) from I.hok a _ ea)
  exact Wc W.kitx_list I.kIn ⟨_,h1,rfl⟩ e (fun z=>nomatch z) h
 | @frz a ob xs ea=>
  cases (show u=YL a from rx)
  obtain ⟨_,_,_,n,_,h1⟩:=(show ObjOk X.prog X.w H s.heap a (.frz ob (.lst xs)) from I.hok a _ ea)
  exact Wc W.kitx_list I.kIn ⟨_,h1,rfl⟩ e (fun z=>nomatch z) h
 | @tup a xs ea=>
  cases (show u=YL a from rx)
  obtain ⟨_,_,_,p⟩:=(show ObjOk X.prog X.w H s.heap a (.tup xs) from I.hok a _ ea)
  obtain ⟨o,h1,h2,_⟩:=p
  exact Wc W.kitx_tuple I.kIn ⟨o,h1,h2⟩ e (fun z=>nomatch z) h
 | @dK a kvs ea=>
  cases (show u=YL a from rx)
  obtain ⟨_,_,vs,_,p⟩:=(show ObjOk X.prog X.w H s.heap a (.dK kvs) from I.hok a _ ea)
  obtain ⟨o,es,ep,h1,h2,_⟩:=p
  exact Wc W.kitx_dict I.kIn ⟨o,h1,h2.1⟩ e (fun z=>nomatch z) h
 | @dT a kvs ea=>
  cases (show u=YL a from rx)
  obtain ⟨_,_,xs,_,o,es,ep,h1,h2,_⟩:=(show ObjOk X.prog X.w H s.heap a (.dT kvs) from I.hok a _ ea)
  exact Wc W.kitx_dict I.kIn ⟨o,h1,h2.1⟩ e (fun z=>nomatch z) h
 | @ins a C dx fs ea cl ha hn htk hm=>
  cases (show u=YL a from rx)
  obtain ⟨mA,O,_⟩:=ins_get I.hok ea
  obtain ⟨od,J,_⟩:=O.look
  exact Wc (W.kitx_own (cl.get _) cl.hd ha hn htk hm) I.kIn J e (fun z=>nomatch z) h
end
structure Room (k:Nat)(A:Around):Prop where
 hd:A.handled=none
 dp:A.depth + 3 * k + 5 < recursionLimit
 un:A.units + 16 * k + 200 < cLine
theorem Room.mono {j k:Nat}{A:Around}(r:Room k A)(h:j<=k):Room j A:=⟨r.hd,by have:=r.dp;lia,by have:=r.un;lia⟩
theorem Room.deeper {k:Nat}{A:Around}(r:Room (k + 1) A)(env:Env):Room k (A.deeper env):=
 ⟨r.hd,by have:=r.dp;show A.depth + 1 + 3 * k + 5 < _;lia,by have:=r.un;show A.units + 3 + 16 * k + 200 < _;lia⟩
theorem make_depth {A:Around}{C:Addr}{us:3e4}{kw:List (Str×Value)}:(A.under (.builtin "type.__call__" ⟨.ref C::us,kw⟩)).depth=A.depth + 1:=by
 first | rfl | simp[Around.under,Code.weight,Code.isCreation,Code.isGuard,Code.isCaller,Code.frames,Code.isFrame,guardIds]
theorem make_units {A:Around}{C:Addr}{us:3e4}{kw:List (Str×Value)}:(A.under (.builtin "type.__call__" ⟨.ref C::us,kw⟩)).units=A.units + 1:=by
 first | rfl | simp[Around.under,Code.cUnits,Code.frames,Code.isFrame]
theorem Room.make {k:Nat}{A:Around}(r:Room (k + 1) A)(C:Addr)(us:3e4)(kw:List (Str×Value)):Room k (A.under (.builtin "type.__call__" ⟨.ref C::us,kw⟩)):=
 ⟨r.hd,by have:=r.dp;rw[make_depth];lia,by have:=r.un;rw[make_units];lia⟩
theorem Room.depth {k:Nat}{A:Around}(r:Room k A):A.depth < recursionLimit:=by have:=r.dp;lia
theorem Room.units {k:Nat}{A:Around}(r:Room k A):A.units + 64 < cLine:=by have:=r.un;lia
noncomputable def tNil:TA:=fun _ H Q=>Q [] H
noncomputable def tCons (ta:TE)(tr:TA):TA:=fun σ H Q=>ta σ H fun x H1=>tr σ H1 fun xs H2=>Q (x::xs) H2
section
variable {X:Cx}{e:Expr}{es:4e5}{te:TE}{t:TA}{pos:Pos}
theorem Zc9:PA X [] tNil:=fun _ _ _ _ H Q I h=>Calls.spliced_nil ⟨[],H,I,.nil,h⟩
theorem Za1 (ha:PE X e te)(hr:PA X es t)(hs:1e2:=by rfl):PA X 4e6 (tCons te t):=by
 intro pos pins s σ H Q I h
 rw[hs]
 show wpAny _ _ (spliced ((false,eval e X.env)::backTo pos (Yi es X.env))) _ _ s
 refine Calls.spliced_cons (thn 10e5 fun u s1 h_=>?_)
 obtain ⟨x,H1,I1,r1,q1⟩:=h_
 exact thn (hr pos pins s1 σ H1 _ I1 q1) fun us s2 ⟨xs,H2,I2,r2,q2⟩=>⟨x::xs,H2,I2,.cons r1 r2,q2⟩
def tTup (t:TA):TE:=fun σ H Q=>t σ H fun xs H1=>xs.length<=Yu/\∀p,H1 p=none->Q (.ref p) (upd H1 p (.tup xs))
def tLst (t:TA):TE:=fun σ H Q=>t σ H fun xs H1=>xs.length<=Yu/\∀p,H1 p=none->Q (.ref p) (upd H1 p (.lst xs))
theorem pe_tup {x1}(h:PA X es t):PE X (.Tuple es x1 pos) (tTup t):=by
 intro pins s σ H Q I hq
 refine wpAny_Tuple_spliced (thn (h pos pins s σ H _ I hq) fun us s1 ⟨xs,H1,I1,r,z,q⟩=>⟨by rw[←r.length];exact z,?_⟩)
 have hf:H1 s1.heap.objs.size=none:=I1.hok.fresh (Yo _)
 refine ⟨.ref s1.heap.objs.size,upd H1 s1.heap.objs.size (.tup xs),I1.laid (t':=s1.toks) (fun b u e=>Yc _ e) (Yo _) ?_,rfl,q _ hf⟩
 exact ⟨z,us,r,⟨_,Yt _ rfl,rfl,_,rfl⟩⟩
theorem pe_lst (h:PA X es t):PE X (.List es pos) (tLst t):=by
 intro pins s σ H Q I hq
 refine wpAny_List_spliced (thn (h pos pins s σ H _ I hq) fun us s1 ⟨xs,H1,I1,r,z,q⟩=>⟨by rw[←r.length];exact z,?_⟩)
 have hf:H1 s1.heap.objs.size=none:=I1.hok.fresh (Yo _)
 refine ⟨.ref s1.heap.objs.size,upd H1 s1.heap.objs.size (.lst xs),I1.laid (t':=s1.toks) (fun b u e=>Yc _ e) (Yo _) ?_,rfl,q _ hf⟩
 exact ⟨z,us,0,r,Yt _ rfl⟩
end
abbrev Sp:=List V->Hp->VK->XK->Prop
abbrev CXT:=List Env->Hp->Shared->XK->Value->Shared->Prop
structure Env0 (P:Yl)(w:World)(K:W.Frag)(mg:Str->Option Value)(base:Heap)(A:Around)(outer:List Env)(s:Shared)(H:Hp):Prop where
 frames:A.frames=some outer
 mod:Mod K mg base
 bs:∀b o,base.get? b=some o->s.heap.get? b=some o/\H b=none
 bsz:base.objs.size<=s.heap.objs.size
 funs:s.heap.FunFrames base outer
 frf:∀b∈frs outer,H b=none
 hok:HOk P w H s.heap
 bare:VJ s.gens
def CE (outer:List Env)(P:Yl)(w:World)(H:Hp)(s:Shared)(Q:VK)(u:Value)(s':Shared):Prop:=
 ∃v H',s'.os=s.os/\VJ s'.gens/\Un (frs outer) [] H H' s.heap s'.heap/\HOk P w H' s'.heap/\RelV v u/\Q v H'
def CR (CX:CXT)(outer:List Env)(P:Yl)(w:World)(H:Hp)(s:Shared)(Q:VK)(E:XK)(r:Result)(s':Shared):Prop:=
 match r with
 | .ok (.ret u)=>CE outer P w H s Q u s'
 | .ok _=>False
 | .error e=>CX outer H s E e s'
structure FnOk (P:Yl)(w:World)(K:W.Frag)(mg:Str->Option Value)(base:Heap)(CX:CXT)(k:Nat)(f:Addr)(fd:Yj)(ps:List Str)(sp:Sp):Prop where
 len:∀vs H Q E,sp vs H Q E->vs.length=ps.length
 run:∀(A:Around) (outer:List Env) (s:Shared) (H:Hp) (args:Args) (us:3e4) (vs:List V) (Q:VK) (E:XK),Room k A->Env0 P w K mg base A outer s H->BindsTo s fd args (ps.zip us)->Vals vs us->sp vs H Q E->
  XG (model P w) A (.call (.ref f) args) (CR CX outer P w H s Q E) s
theorem FnOk.mono {P:Yl}{w:World}{K:W.Frag}{mg:1e5}{base:Heap}{CX:CXT}{j k:Nat}{f:Addr}{fd:Yj}{ps:3e1}{sp:Sp}(F:FnOk P w K mg base CX j f fd ps sp)(h:j<=k):
  FnOk P w K mg base CX k f fd ps sp:=⟨F.len,fun A outer s H args us vs Q E hr=>F.run A outer s H args us vs Q E (hr.mono h)⟩
theorem FnOk.imp {P:Yl}{w:World}{K:W.Frag}{mg:1e5}{base:Heap}{CX:CXT}{k:Nat}{f:Addr}{fd:Yj}{ps:3e1}{sp sp':Sp}(F:FnOk P w K mg base CX k f fd ps sp)
  (h:∀vs H Q E,sp' vs H Q E->sp vs H Q E):FnOk P w K mg base CX k f fd ps sp':=
 ⟨fun vs H Q E q=>F.len vs H Q E (h _ _ _ _ q),fun A outer s H args us vs Q E hr he hb hv hs=>F.run A outer s H args us vs Q E hr he hb hv (h _ _ _ _ hs)⟩
theorem Env0.make {P:Yl}{w:World}{K:W.Frag}{mg:1e5}{base:Heap}{A:Around}{outer:List Env}{s:Shared}{H:Hp}(e:Env0 P w K mg base A outer s H)(C:Addr)(us:3e4)(kw:List (Str×Value)):
  Env0 P w K mg base (A.under (.builtin "type.__call__" ⟨.ref C::us,kw⟩)) outer s H:=⟨by first | exact e.frames | (simpa[Around.under,Code.envs,Code.isFrame,pushEnvs] using e.frames),e.mod,e.bs,e.bsz,e.funs,e.frf,e.hok,e.bare⟩
section
variable {X:Cx}{pins:1e8}{σ:St}{H:Hp}{s s':Shared}
theorem Inv.env0 (I:2e1):Env0 X.prog X.w X.K X.mg X.base X.A X.stack s H:=
 ⟨I.ok.frames,I.ok.mod,I.bs,Yv I.ok.bsz I.sz,I.stack,I.stkFree,I.hok,I.bare⟩
theorem Inv.after {Q:VK}{u:Value}(I:2e1)(h:CE X.stack X.prog X.w H s Q u s'):EP X pins σ Q u s':=by
 obtain ⟨v,H',os,bare,un,hok,r,q⟩:=h
 obtain ⟨hh,g,d,t,os'⟩:=s'
 obtain rfl:os'=s.os:=os
 exact ⟨v,H',I.call (h':=hh) (g':=g) (d':=d) (t':=t) (ch:=[]) un hok bare (fun b z=>absurd z 3e2),r,q⟩
end
noncomputable def tCall (sp:Sp)(dvs:List V)(E:XK)(t:TA):TE:=fun σ H Q=>t σ H fun vs H1=>sp (vs++dvs) H1 Q E
def Binds (K:W.Frag)(fd:Yj)(ps:3e1)(ds:3e4):Prop:=
 ∀(s:Shared) (us:3e4),K.In s.heap->(us++ds).length=ps.length->BindsTo s fd ⟨us,[]⟩ (ps.zip (us++ds))
theorem Binds.all {K:W.Frag}{fd:Yj}{ps:3e1}(h:∀us:List Value,us.length=ps.length->bindArgs fd ⟨us,[]⟩=pure (ps.zip us)):Binds K fd ps []:=fun s us _ hl=>by
 rw[Yq] at hl ⊢
 exact .of_eq (h us hl)
def Passes (CX:CXT)(X:Cx)(E:XK):Prop:=∀(pins:1e8) (σ:St) (H:Hp) (s:Shared) (e:Value) (s':Shared),Inv X pins σ H s->CX X.stack H s E e s'->X.xe e s'
section
variable {X:Cx}{CX:CXT}{k:Nat}{f C:Addr}{fd:Yj}{ps:3e1}{sp:Sp}{dvs:List V}{ds:3e4}{E:XK}{x m:Str}{p pos apos:Pos}{e o:Expr}{es:4e5}{ta:TE}{t:TA}
theorem run_fn {pins:1e8}{σ:St}{H:Hp}{s:Shared}{Q:VK}{us:3e4}{vs:List V}(F:FnOk X.prog X.w X.K X.mg X.base CX k f fd ps sp)(hr:Room k X.A)(hb:Binds X.K fd ps ds)(hd:Vals dvs ds)(hx:Passes CX X E)
  (I:2e1) (r:Vals vs us) (h:sp (vs++dvs) H Q E):wpAny 2e2 X.A (call (.ref f) us) 12e2 X.xe s:=by
 have r2:Vals (vs++dvs) (us++ds):=r.append hd
 have hl:(us++ds).length=ps.length:=by rw[←r2.length];exact F.len _ _ _ _ h
 refine wpAny_call (W4 (F.run X.A X.stack s H ⟨us,[]⟩ (us++ds) (vs++dvs) Q E hr I.env0 (hb s us I.kIn hl) r2 h) fun r s' hq=>?_)
 cases r with
 | error e=>exact hx pins σ H s e s' I hq
 | ok fl=>
  cases fl with
  | ret u=>exact I.after hq
  | next=>exact Xl hq
  | brk=>exact Xl hq
  | cont=>exact Xl hq
theorem pe_call (F:FnOk X.prog X.w X.K X.mg X.base CX k f fd ps sp)(hr:Room k X.A)(hg:Gl X x)(hm:X.mg x=some (.ref f))(hk:Yp X.K (.ref f)=true)(hb:Binds X.K fd ps ds)(hd:Vals dvs ds)(hx:Passes CX X E)
  (ha:PA X 4e6 t) (hdb:2e8:=by decide) (he:1e2:=by rfl) (hpl:3e0:=by rfl):
  PE X 10e0 (tCall sp dvs E t):=by
 sleep 9
 refine Wg (ld_glob I hg hm ?_ hdb)
 refine W.callWith_K (h₀:=X.base) I.ok.mod.kin hk (thn (ha pos pins s σ H _ I h) fun us s1 ⟨vs,H1,I1,r,q⟩=>⟨I1.kIn,?_⟩) he hpl
 exact run_fn F hr hb hd hx I1 r q
structure Mk (K:W.Frag)(C f:Addr):Prop where
 makes:W.makesIn K C=true
 init:W.findIn K (.ref C) "__init__"=some (some (.ref f))
 fn:W.isFn K (.ref f)=true
 kp:Yp K (.ref C)=true
end
structure FnScope (N P:List Str)(sc:Scope):Prop where
 kind:sc.kind=.function
 co:sc.isCoroutine=false
 gen:sc.isGenerator=false
 nd:N.Nodup
 pre:N.take P.length=P
 par:∀x∈P,sc.names.lookup x=some .local\/sc.names.lookup x=some .cell
 nofree:∀y∈sc.names,y.2≠.free
theorem bindL_out {kindOf:Str->Option WG}{x:Str}:∀{binds:List (Str×Value)} {m:1e5},(∀v,(x,v)∉binds)->bindL kindOf binds m x=m x
  | [],_,_=>rfl
  | (n,v)::r,m,h=>by
    unfold bindL
    rw[bindL_out fun w hw=>h w (Yw _ hw)]
    split
    · have:x≠n:=by rintro rfl;exact h v YT
      simp[this]
    · rfl
theorem bindC_out {kindOf:Str->Option WG}{x:Str}:∀{binds:List (Str×Value)} {m:1e5},(∀v,(x,v)∉binds)->bindC kindOf binds m x=m x
  | [],_,_=>rfl
  | (n,v)::r,m,h=>by
    unfold bindC
    rw[bindC_out fun w hw=>h w (Yw _ hw)]
    split
    · rfl
    · have:x≠n:=by rintro rfl;exact h v YT
      simp[this]
theorem bindL_get {kindOf:Str->Option WG}{x:Str}{v:Value}:∀{P:3e1} {vs:3e4} {i:Nat} {m:1e5},P.Nodup->P[i]? = some x->vs[i]? = some v->kindOf x=some .local->
  bindL kindOf (P.zip vs) m x=some v
 | [],_,_,_,_,h,_,_=>by simp at h
 | _::_,[],_,_,_,_,h,_=>by simp at h
 | p::P,w::vs,0,m,nd,h1,h2,hk=>by
  simp at h1 h2;subst h1;subst h2
  show bindL kindOf ((p,w)::P.zip vs) m p=_
  unfold bindL
  rw[bindL_out fun v hv=>(WH.mp nd).1 (VX hv).1,if_pos hk]
  simp
 | p::P,w::vs,i + 1,m,nd,h1,h2,hk=>by
  show bindL kindOf ((p,w)::P.zip vs) m x=_
  unfold bindL
  exact bindL_get (i:=i) (WH.mp nd).2 (by simpa using h1) (by simpa using h2) hk
theorem bindC_get {kindOf:Str->Option WG}{x:Str}{v:Value}:∀{P:3e1} {vs:3e4} {i:Nat} {m:1e5},P.Nodup->P[i]? = some x->vs[i]? = some v->kindOf x≠some .local->
  bindC kindOf (P.zip vs) m x=some v
 | [],_,_,_,_,h,_,_=>by simp at h
 | _::_,[],_,_,_,_,h,_=>by simp at h
 | p::P,w::vs,0,m,nd,h1,h2,hk=>by
  simp at h1 h2;subst h1;subst h2
  show bindC kindOf ((p,w)::P.zip vs) m p=_
  unfold bindC
  rw[bindC_out fun v hv=>(WH.mp nd).1 (VX hv).1,if_neg hk]
  simp
 | p::P,w::vs,i + 1,m,nd,h1,h2,hk=>by
  show bindC kindOf ((p,w)::P.zip vs) m x=_
  unfold bindC
  exact bindC_get (i:=i) (WH.mp nd).2 (by simpa using h1) (by simpa using h2) hk
noncomputable def start (N:3e1)(vs:List V):St:=vs.map some++YJ (N.length - vs.length) none
noncomputable def cxOf (CX:CXT)(P:Yl)(w:World)(K:W.Frag)(mg:1e5)(base:Heap)(N:3e1)(qual:Str)(scope:Scope)(f:Addr)(cd:Value)(A:Around)(outer:List Env)(s:Shared)(H:Hp)(E:XK):Cx where
 prog:=P
 w:=w
 K:=K
 mg:=mg
 base:=base
 A:=A.deeper (envOfC qual scope s.heap.objs.size f cd)
 N:=N
 s₀:=s
 H₀:=H
 env:=envOfC qual scope s.heap.objs.size f cd
 outer:=outer
 stack:=envOfC qual scope s.heap.objs.size f cd::outer
 ex:=[]
 calm:=true
 fn:=fun _=>true
 pn:=[]
 xe:=fun e s'=>wpAny (model P w) (A.deeper (envOfC qual scope s.heap.objs.size f cd)) (leaving (envOfC qual scope s.heap.objs.size f cd) e) (fun _ s''=>CX outer H s E e s'') (fun e' s''=>CX outer H s E e' s'') s'
theorem cell_has {sc:Scope}{n:Nat}{x:Str}(h:sc.names.lookup x=some .cell):∃c,(cellsFrom n sc.names []).lookup x=some c:=by
 have q:=W.cellsFrom_some sc.names n [] (.inl h)
 exact Option.isSome_iff_exists.mp q
theorem inv_start {CX:CXT}{P:Yl}{w:World}{K:W.Frag}{mg:1e5}{base:Heap}{N ps:3e1}{qual:Str}{scope:Scope}{f:Addr}{cd:Value}{A:Around}{outer:List Env}{s s1:Shared}{H:Hp}{E:XK}{us:3e4}{vs:List V}
  (S:FnScope N ps scope) (hd:A.handled=none) (e0:Env0 P w K mg base A outer s H) (hl:vs.length=ps.length) (r:Vals vs us)
  (x:InCallC s s.heap.objs.size (bindL (envOfC qual scope s.heap.objs.size f cd).kindOf (ps.zip us) fun _=>none) (cellsFrom (s.heap.objs.size + 1) scope.names []) (bindC (envOfC qual scope s.heap.objs.size f cd).kindOf (ps.zip us) fun _=>none) s1):
  Inv (cxOf CX P w K mg base N qual scope f cd A outer s H E) [] (start N vs) H s1:=by
 have hpl:ps.length<=N.length:=by have:=congrArg List.length S.pre;rw[Xr] at this;lia
 obtain ⟨h1,tk,rfl,hk⟩:=x.done
 have noA:∀b:Addr,b∉(cxOf CX P w K mg base N qual scope f cd A outer s H E).ex:=fun b z=>absurd (show b∈([]:List Addr) from z) 3e2
 refine ⟨⟨e0.mod,S.kind,rfl,rfl,Yo _,fun y z c h1 h2=>?_,fun y hy=>?_,fun y c _ h=>?_,fun _=>hd,Around.frames_deeper e0.frames,.inr ⟨rfl,rfl⟩,fun b z=>absurd z (noA b),e0.bs,e0.bsz,fun b _ _=>noA b,fun b z=>absurd z (noA b),e0.funs,e0.frf⟩,
  rfl,e0.bare,Un.kept hk,⟨_,x.toInCall.ns,fun i y v h1 h2 h3=>?_⟩,fun y c h=>⟨_,x.cell y c h⟩,e0.hok.fresh (Yo _),fun y c h=>?_,fun p hp=>absurd (show p∈([]:List (Addr×Obj)) from hp) (by simp),e0.hok.kept hk,?_⟩
 ·exact name_of_addr x.apart (X9 h1) (X9 h2)
 ·have hy:scope.names.lookup y=some .cell\/scope.names.lookup y=some .free:=hy
  rcases hy with hy | hy
  ·exact cell_has hy
  ·exact absurd rfl (S.nofree _ (X9 hy))
 ·exact VV (x.above y c (X9 h))
 ·have hi:i < vs.length:=by
   unfold start at h2
   by_cases hi:i < vs.length
   ·exact hi
   ·rw[YR (by simpa using hi)] at h2
    rw[List.getElem?_replicate] at h2
    split at h2<;>cases h2
  have ha:vs[i]? = some v:=by
   unfold start at h2
   rw[Yx (by simpa using hi),Y7] at h2
   cases e:vs[i]? with
   | none=>rw[e] at h2;cases h2
   | some a=>rw[e] at h2;cases h2;rfl
  obtain ⟨u,hu,rv⟩:=r.get ha
  have hp:ps[i]? = some y:=by
   rw[←S.pre,Xy 4e0];exact h1
  have ndP:ps.Nodup:=by rw[←S.pre];exact S.nd.sublist (List.take_sublist _ _)
  refine ⟨u,rv,?_⟩
  rcases S.par y (Y9 hp) with k | k
  ·exact .inl ⟨k,bindL_get ndP hp hu k⟩
  ·obtain ⟨c,e⟩:=cell_has (n:=s.heap.objs.size + 1) k
   refine .inr ⟨.inl k,c,e,?_⟩
   have q:=x.cell y c e
   rw[bindC_get ndP hp hu (by show scope.names.lookup y≠_;rw[k];decide)] at q
   exact q
 ·exact e0.hok.fresh (VV (x.above y c (X9 h)))
 ·unfold start
  show _=N.length
  rw[Y3,YX,List.length_replicate]
  lia
theorem fn_of {CX:CXT}{P:Yl}{w:World}{K:W.Frag}{mg:1e5}{base:Heap}{k:Nat}{f:Addr}{name qual:Str}{params:Ue}{body:List Stmt}{scope:Scope}{dV kV doc pm cdv ct oc:Value}{an od:Option Addr}
  {osl:Array 12e9} {N ps:3e1} {sp:Sp} (lk:K.lookup f=some ⟨oc,od,.func (W.fnOf name qual params body scope dV kV doc pm an cdv ct),osl⟩) (hcd:W.codeIn K cdv qual=true) (S:FnScope N ps scope)
  (len:∀vs H Q E,sp vs H Q E->vs.length=ps.length)
  (hbody:∀(A:Around) (outer:List Env) (s:Shared) (H:Hp) (vs:List V) (Q:VK) (E:XK),Room k (A.deeper (envOfC qual scope s.heap.objs.size f cdv))->sp vs H Q E->
   ∃t,PSs (cxOf CX P w K mg base N qual scope f cdv A outer s H E) body t/\t { nx:=fun _ H'=>Q .non H',rt:=Q } (start N vs) H):
  FnOk P w K mg base CX (k + 1) f (W.fnOf name qual params body scope dV kV doc pm an cdv ct) ps sp:=by
 refine ⟨len,fun A outer s H args us vs Q E hr e0 hb r hsp=>?_⟩
 have hl:=len _ _ _ _ hsp
 have KX:K.In s.heap:=e0.mod.kin.keeps fun b o e=>(e0.bs b o e).1
 have lim:s.heap.NoLimit:=e0.mod.nolimit.keeps fun b o e=>(e0.bs b o e).1
 have hkind:∀y∈ps.zip us,scope.names.lookup y.1=some .local\/(scope.names.lookup y.1=some .cell/\((cellsFrom (s.heap.objs.size + 1) scope.names []).lookup y.1).isSome=true):=fun ⟨n,v⟩ hy=>by
  rcases S.par n (VX hy).1 with q | q
  ·exact .inl q
  ·exact .inr ⟨q,W.cellsFrom_some _ _ _ (.inl q)⟩
 refine codeAny_call_function hr.depth (KX _ _ lk) rfl S.co S.gen rfl (W.codeRec_of KX hcd) (hb _ _ _ _ ?_)
 refine wpAny_newFunctionEnv_cells S.kind hkind fun env he s1 x=>?_
 subst he
 refine ⟨lim.keeps x.toInCall.keep,codeAny_func ?_⟩
 obtain ⟨t,ht,hq⟩:=hbody A outer s H vs Q E (hr.deeper _) hsp
 have I:Inv (cxOf CX P w K mg base N qual scope f cdv A outer s H E) [] (start N vs) H s1:=inv_start S hr.hd e0 hl r x
 refine YK (ht [] s1 (start N vs) H _ I hq) (fun fl s' hs=>?_) fun e s' hs=>hs
 have fin:∀{σ':St} {H':Hp} {v:V} {u:Value},Inv (cxOf CX P w K mg base N qual scope f cdv A outer s H E) [] σ' H' s'->RelV v u->Q v H'->CE outer P w H s Q u s':=
  fun {σ' H' v u} J rv q=>⟨v,H',J.os,J.bare,J.base,J.hok,rv,q⟩
 cases fl with
 | ret u=>
  obtain ⟨v,σ',H',J,rv,q⟩:=hs
  exact fin J rv q
 | next=>
  obtain ⟨σ',H',J,q⟩:=hs
  exact fin (v:=V.non) (u:=XH) J rfl q
 | brk=>
  obtain ⟨_,_,_,q⟩:=hs
  exact Xl q
 | cont=>
  obtain ⟨_,_,_,q⟩:=hs
  exact Xl q
section
variable {X:Cx}{x:Str}{p pos:Pos}{e:Expr}{es:4e5}{t:TA}{id T:String}{r:12e3}
noncomputable def tCB (r:12e3)(t:TA):TE:=fun σ H Q=>t σ H fun vs H1=>r vs H1 Q
theorem Zck (hc:CallR X (.builtin id) r)(hg:Gl X x)(hm:X.mg x=none)(hv:YZ x=some (.builtin id))(ha:PA X 4e6 t)(hn:x≠"__name__":=by decide)(hdb:2e8:=by decide)
  (he:1e2:=by rfl) (hpl:3e0:=by rfl):PE X 10e0 (tCB r t):=by
 sleep 9
 refine Wg (Zdf I hg hm hv ?_ hn hdb)
 exact PyProof.Rows.callWith_builtin1 (thn (ha pos pins s σ H _ I h) fun us s1 ⟨vs,H1,I1,r1,q1⟩=>hc pins s1 σ H1 vs us Q I1 r1 q1) he hpl
theorem pe_callTy (hc:CallR X (.type T) r)(hg:Gl X x)(hm:X.mg x=none)(hv:YZ x=some (.type T))(ha:PA X 4e6 t)(hn:x≠"__name__":=by decide)(hdb:2e8:=by decide)
  (he:1e2:=by rfl) (hpl:3e0:=by rfl):PE X 10e0 (tCB r t):=by
 sleep 9
 refine Wg (Zdf I hg hm hv ?_ hn hdb)
 exact XF (thn (ha pos pins s σ H _ I h) fun us s1 ⟨vs,H1,I1,r1,q1⟩=>hc pins s1 σ H1 vs us Q I1 r1 q1) he hpl
end
end L2
namespace HT
open PySem PyProof.Rows
section
variable {prog:Yl}{w:World}{A:Around}{E:1e4}{s:Shared}
theorem cat_tup {t b:Addr}{vs ws:3e4}{Q:1e4}(ht:IsTup s.heap t vs.toArray)(hb:IsTup s.heap b ws.toArray)(hv:vs≠[])
  (h1:ws=[]->Q (.ref t) s) (h2:ws≠[]->Q 11e0 { s with heap:=s.heap.push { cls:=.type "tuple",data:=.seq (vs++ws).toArray } })
  (hsz:vs.length + ws.length<=Yu):wpAny 4e1 A (X7 .Add (.ref t) (.ref b)) Q E s:=by
 obtain ⟨⟨cls,dd,data,sl⟩,ho,hc,n,hd⟩:=id ht
 obtain ⟨⟨cls2,dd2,data2,sl2⟩,ho2,hc2,n2,hd2⟩:=id hb
 simp only at hc hd hc2 hd2
 subst hc hd hc2 hd2
 have e:vs.toArray++ws.toArray=(vs++ws).toArray:=by simp
 by_cases hw:ws=[]
 ·exact VY ⟨_,ho,rfl⟩ ⟨_,ho2,rfl⟩ VP seq_tuple_add WU WI (WA _ _)
   (tuple_addW1 t b vs.toArray ws.toArray n n2 dd dd2 sl sl2 (by simpa using hv) (by simp[hw])) ⟨ho,ho2,h1 hw⟩
 ·refine VY ⟨_,ho,rfl⟩ ⟨_,ho2,rfl⟩ VP seq_tuple_add WU WI (WA _ _)
   (tuple_addW2 t b vs.toArray ws.toArray n n2 dd dd2 sl sl2 (by simpa using hv) (by simpa using hw) (by rw[Yn,Yn];exact hsz)) ⟨ho,ho2,?_⟩
  rw[e]
  exact h2 hw
noncomputable def sIx (n d:Nat):Option Int->Nat
 | none=>d
 | some v=>if v < 0 then (v + (n:Int)).toNat else min v.toNat n
theorem sIx_le (n d:Nat)(hd:d<=n)(o:Option Int):sIx n d o<=n:=by
 cases o with
 | none=>exact hd
 | some v=>
  show (if v < 0 then (v + (n:Int)).toNat else min v.toNat n)<=n
  by_cases hv:v < 0
  ·rw[if_pos hv];lia
  ·rw[if_neg hv];exact Nat.min_le_right _ _
theorem clip_eq (v:Int)(n d:Nat):(if v < 0 then max (v + (n:Int)) 0 else min v (n:Int))=((sIx n d (some v):Nat):Int):=by
 show (if v < 0 then max (v + (n:Int)) 0 else min v (n:Int))=(((if v < 0 then (v + (n:Int)).toNat else min v.toNat n):Nat):Int)
 by_cases hv:v < 0
 ·simp only[if_pos hv];lia
 ·simp only[if_neg hv];lia
theorem adjust_gen (lo hi:Option Int)(n:Nat):Wv lo hi 1 (n:Int)=(((sIx n 0 lo:Nat):Int),((sIx n n hi:Nat):Int)):=by
 have h1:¬((1:Int) < 0):=by lia
 unfold Wv
 simp only[h1,if_false]
 refine Prod.ext ?_ ?_
 ·cases lo with
  | none=>rfl
  | some v=>exact clip_eq v n 0
 ·cases hi with
  | none=>rfl
  | some v=>exact clip_eq v n n
theorem places_gen (i j:Nat):XR (i:Int) (j:Int) 1=j - i:=by
 unfold XR
 have h1:(1:Int) > 0:=by lia
 simp only[h1,if_true,Int.ediv_one]
 split<;>lia
theorem slicePart_ {v:Value}{o:Option Int}{Q:Option Int->Shared->Prop}(p:IsPart v o)(h:Q o s):wpAny 4e1 A (Builtin.Slice.slicePartIndex v) Q E s:=by
 cases p with
 | none=>exact slicePart_none h
 | int i t=>exact slicePart_int h
theorem sliceApplied_gen {sl:Addr}{vl vu:Value}{lo hi:Option Int}{n:Nat}{Q:Int×Int×Nat->Shared->Prop}(hs:s.heap.IsSliceOf sl vl vu .none)(pl:IsPart vl lo)(pu:IsPart vu hi)
  (h:Q (((sIx n 0 lo:Nat):Int),1,sIx n n hi - sIx n 0 lo) s):wpAny 4e1 A (Vq (.ref sl) (pure (n:Int))) Q E s:=by
 obtain ⟨os,hos,hcs,hds⟩:=id hs
 unfold Vq Builtin.Slice.sliceFields
 refine Yb (Yb (Xa hos hds (x:=vl) rfl (Yb (Xa hos hds (x:=vu) rfl (Yb (Xa hos hds (x:=.none) rfl (Yk ?_)))))))
 refine Yb (slicePart_none ?_)
 show wpAny _ _ (if ((1:Int)==0)=true then _ else _) _ _ s
 rw[if_neg 2e6]
 refine Yb (slicePart_ pl (Yb (slicePart_ pu (Yb (Yk ?_)))))
 show wpAny _ _ (match Wv lo hi 1 (n:Int) with | (lo,hi)=>pure (lo,(1:Int),XR lo hi 1)) _ _ s
 rw[adjust_gen lo hi n]
 show wpAny _ _ (pure (((sIx n 0 lo:Nat):Int),(1:Int),XR ((sIx n 0 lo:Nat):Int) ((sIx n n hi:Nat):Int) 1)) _ _ s
 rw[places_gen]
 exact Yk h
theorem pick_gen (xs:Array Value)(i k:Nat):((XD k).filterMap fun (m:Nat)=>xs[((i:Int) + (m:Int) * 1).toNat]?).toArray=((xs.toList.drop i).take k).toArray:=by
 have e:(fun (m:Nat)=>xs[((i:Int) + (m:Int) * 1).toNat]?)=fun m=>xs[i + m]?:=by
  funext m
  have:((i:Int) + (m:Int) * 1).toNat=i + m:=by lia
  rw[this]
 rw[e]
 have:=pick_run xs i k
 rw[List.filterMap_map] at this
 have e2:((fun x=>xs[x]?) ∘ fun x=>i + x)=fun m=>xs[i + m]?:=rfl
 rw[e2] at this
 rw[this]
theorem getItem_tuple_cut {t sl:Addr}{items:Array Value}{vl vu:Value}{lo hi:Option Int}{Q:1e4}(ht:IsTup s.heap t items)(hs:s.heap.IsSliceOf sl vl vu .none)(pl:IsPart vl lo)(pu:IsPart vu hi)
  (hw:¬(sIx items.size 0 lo=0/\sIx items.size items.size hi=items.size))
  (h:Q 11e0 { s with heap:=s.heap.push { cls:=.type "tuple",data:=.seq ((items.toList.drop (sIx items.size 0 lo)).take (sIx items.size items.size hi - sIx items.size 0 lo)).toArray } })
  (hsz:items.size<=Yu):wpAny 4e1 A (VZ (.ref t) (.ref sl)) Q E s:=by
 have htake:sizeOk (.seq ((items.toList.drop (sIx items.size 0 lo)).take (sIx items.size items.size hi - sIx items.size 0 lo)).toArray):=by
  show ((items.toList.drop (sIx items.size 0 lo)).take (sIx items.size items.size hi - sIx items.size 0 lo)).toArray.size<=Yu
  rw[Yn,Xr,List.length_drop,YY]
  lia
 have hj:sIx items.size items.size hi<=items.size:=sIx_le _ _ (Yo _) hi
 obtain ⟨os,hos,hcs,hds⟩:=id hs
 have hTs:s.TypeIs (.ref sl) "slice":=⟨os,hos,hcs⟩
 unfold VZ
 try with_reducible refine X6 ?_
 first | refine Yb (Yk ?_) | skip
 refine Yb (wpAny_sequenceKey ht.typeIs 2e6 ?_)
 refine Yb (Xp (name:=Wi "__getitem__") ht.typeIs Y2
  (Wd Y2 ht.typeIs entry_tuple_getitem ?_ (args_tuple_getitem _ _)))
 show wpAny _ _ (Vr (.ref t) >>= _) _ _ s
 refine Yb (tupleItemsOf_ ht ?_)
 refine Yb (V0 hTs ?_)
 rw[if_pos 2e6]
 refine Yb (sliceApplied_gen hs pl pu ?_)
 have hno:¬((((sIx items.size 0 lo:Nat):Int)==0&&(1:Int)==1&&(sIx items.size items.size hi - sIx items.size 0 lo)==items.size)=true):=by
  intro q
  rw[YG,YG] at q
  have q1:((sIx items.size 0 lo:Nat):Int)=0:=eq_of_beq q.1.1
  have q2:sIx items.size items.size hi - sIx items.size 0 lo=items.size:=eq_of_beq q.2
  exact hw ⟨by lia,by lia⟩
 show wpAny _ _ (if (((sIx items.size 0 lo:Nat):Int)==0&&(1:Int)==1&&(sIx items.size items.size hi - sIx items.size 0 lo)==items.size)=true then _ else _) _ _ s
 rw[if_neg hno,pick_gen]
 first
  | exact Yb (m:=XZ _) (Xm (Yk ⟨_,rfl,Yk h⟩) htake)
  | exact Yb (m:=XZ _) (Xm (Yb (Yk (Yk ⟨_,rfl,Yk h⟩))) htake)
  | exact Yb (Yb (m:=XZ _) (Xm (Yk (Yk ⟨_,rfl,Yk h⟩)) htake))
  | exact Yb (Yb (m:=XZ _) (Xm (Yk ⟨_,rfl,Yk h⟩) htake))
end
end HT
namespace L2
open PySem PySem.Spec PyProof.Rows
abbrev TO:=St->Hp->(Option Int->Hp->Prop)->Prop
def PO (X:Cx)(e:Option Expr)(t:TO):Prop:=
 ∀(pins:1e8) (s:Shared) (σ:St) (H:Hp) (Q:Option Int->Hp->Prop),Inv X pins σ H s->t σ H Q->
  wpAny 2e2 X.A (evalPart e X.env) (fun u s'=>∃o H',Inv X pins σ H' s'/\IsPart u o/\Q o H') X.xe s
noncomputable def tNoPart:TO:=fun _ H Q=>Q none H
noncomputable def tPart (t:TE):TO:=fun σ H Q=>t σ H fun x H1=>∃i,x=.int i/\Q (some i) H1
section
variable {X:Cx}{e:Expr}{te:TE}{lo hi:Option Expr}{tl th:TO}{pos p2:Pos}
theorem po_none:PO X none tNoPart:=by
 sleep 9
 rw[evalPart_none]
 exact Yk ⟨none,H,I,.none,h⟩
theorem po_some (h:PE X e te):PO X (some e) (tPart te):=by
 intro pins s σ H Q I hw
 rw[evalPart_some]
 refine thn (h pins s σ H _ I hw) fun u s1 h_=>?_
 obtain ⟨x,H1,I1,r1,q1⟩:=h_
 obtain ⟨i,rfl,q⟩:=q1
 obtain ⟨t,rfl⟩:=r1
 exact ⟨some i,H1,I1,.int i t,q⟩
def SlR (X:Cx)(r:V->Option Int->Option Int->Hp->VK->Prop):Prop:=
 ∀(pins:1e8) (s:Shared) (σ:St) (H:Hp) (x:V) (v vl vu:Value) (lo hi:Option Int) (sl:Addr) (Q:VK),Inv X pins σ H s->RelV x v->s.heap.IsSliceOf sl vl vu .none->IsPart vl lo->IsPart vu hi->r x lo hi H Q->
  ∃T id,Wq (.type T) "__getitem__"=pure (some (.builtin id))/\s.TypeIs v T/\wpAny 2e2 X.A (VZ v (.ref sl)) 12e2 X.xe s
theorem SlR.or {r r':V->Option Int->Option Int->Hp->VK->Prop}(h:SlR X r)(h':SlR X r'):SlR X (fun x lo hi H Q=>r x lo hi H Q\/r' x lo hi H Q):=by
 intro pins s σ H x v vl vu lo hi sl Q I rx hs pl pu q
 rcases q with q | q
 ·exact h pins s σ H x v vl vu lo hi sl Q I rx hs pl pu q
 ·exact h' pins s σ H x v vl vu lo hi sl Q I rx hs pl pu q
noncomputable def tSl (r:V->Option Int->Option Int->Hp->VK->Prop)(te:TE)(tl th:TO):TE:=fun σ H Q=>te σ H fun x H1=>tl σ H1 fun l H2=>th σ H2 fun u H3=>r x l u H3 Q
theorem pe_slice {r:V->Option Int->Option Int->Hp->VK->Prop}(hr:SlR X r)(he:PE X e te)(hl:PO X lo tl)(hu:PO X hi th):PE X (.Subscript e (.Slice lo hi none p2) pos) (tSl r te tl th):=by
 sleep 9
 refine Subscript_ (thn (he pins s σ H _ I h) fun v s1 h_=>?_)
 obtain ⟨x,H1,I1,r1,q1⟩:=h_
 refine wpAny_Slice (thn (hl pins s1 σ H1 _ I1 q1) fun vl s2 ⟨l,H2,I2,pl,q2⟩=>thn (hu pins s2 σ H2 _ I2 q2) fun vu s3 h_=>?_)
 obtain ⟨u,H3,I3,pu,q3⟩:=h_
 rw[evalPart_none]
 refine Yk ?_
 have I4:Inv X pins σ H3 { s3 with heap:=s3.heap.push { cls:=.type "slice",data:=.fields #[vl,vu,.none] } }:=I3.kept (t':=s3.toks) fun b ob q=>Yc _ q
 obtain ⟨T,id,hT,ht,hg⟩:=hr pins { s3 with heap:=s3.heap.push { cls:=.type "slice",data:=.fields #[vl,vu,.none] } } σ H3 x v vl vu l u s3.heap.objs.size Q I4 r1 (Heap.IsSliceOf.new ..) pl pu q3
 show wpAny 2e2 X.A (subscriptTail e (.Slice lo hi none p2) v (.ref s3.heap.objs.size)) 12e2 X.xe { s3 with heap:=s3.heap.push { cls:=.type "slice",data:=.fields #[vl,vu,.none] } }
 exact tail_any (ops:=[.ref s3.heap.objs.size,v]) ht hT hg (by with_unfolding_all rfl)
def cutV (xs:List V)(lo hi:Option Int):List V:=(xs.drop (HT.sIx xs.length 0 lo)).take (HT.sIx xs.length xs.length hi - HT.sIx xs.length 0 lo)
theorem ZcQ (xs:List V)(lo hi:Option Int):(cutV xs lo hi).length<=xs.length:=by
 unfold cutV
 rw[Xr,List.length_drop]
 lia
def rSlT (K:W.Frag):V->Option Int->Option Int->Hp->VK->Prop:=fun x lo hi H Q=>∃a xs,x=.ref a/\SqT K H a xs/\
 ¬(HT.sIx xs.length 0 lo=0/\HT.sIx xs.length xs.length hi=xs.length)/\∀p,H p=none->Q (.ref p) (upd H p (.tup (cutV xs lo hi)))
theorem sl_tup:SlR X (rSlT X.K):=by
 intro pins s σ H x v vl vu lo hi sl Q I rx hs pl pu h
 obtain ⟨a,xs,rfl,hx,hw,q⟩:=h
 cases rx
 obtain ⟨its,r,ht,hz⟩:=I.tuple hx
 have hlen:its.toArray.size=xs.length:=by rw[Yn];exact r.length.symm
 refine ⟨"tuple",_,Y2.lookup,ht.typeIs,?_⟩
 refine HT.getItem_tuple_cut ht hs pl pu (by rw[hlen];exact hw) ?_ (by rw[hlen];exact hz)
 rw[hlen]
 refine ⟨.ref s.heap.objs.size,_,I.laid (t':=s.toks) (o:=.tup (cutV xs lo hi)) (fun b ob q=>Yc _ q) (Yo _) ?_,rfl,q _ (I.hok.fresh (Yo _))⟩
 exact ⟨Yv (ZcQ xs lo hi) hz,_,(r.drop (HT.sIx xs.length 0 lo)).take (HT.sIx xs.length xs.length hi - HT.sIx xs.length 0 lo),IsTup.new _ _⟩
def rCatT (K:W.Frag):R2:=fun x y H Q=>∃a b xs ys,x=.ref a/\y=.ref b/\SqT K H a xs/\SqT K H b ys/\xs≠[]/\xs.length + ys.length<=Yu/\
 (ys=[]->Q (.ref a) H)/\(ys≠[]->∀p,H p=none->Q (.ref p) (upd H p (.tup (xs++ys))))
theorem Vals.nil_iff {xs:List V}{us:3e4}(r:Vals xs us):us=[]↔xs=[]:=by
 cases r with
 | nil=>simp
 | cons _ _=>simp
theorem op_catT:OpR X (X7 .Add) (rCatT X.K):=by
 sleep 3
 obtain ⟨a,b,xs,ys,rfl,rfl,ha,hb,hx,hz,q1,q2⟩:=h
 cases rx
 cases ry
 obtain ⟨its,r1,p1,_⟩:=I.tuple ha
 obtain ⟨its2,r2,p2,_⟩:=I.tuple hb
 refine HT.cat_tup p1 p2 (fun z=>hx (r1.nil_iff.mp z)) (fun z=>⟨.ref a,H,I,rfl,q1 (r2.nil_iff.mp z)⟩) (fun z=>?_) (by rw[←r1.length,←r2.length];exact hz)
 refine ⟨.ref s.heap.objs.size,_,I.laid (t':=s.toks) (o:=.tup (xs++ys)) (fun b ob q=>Yc _ q) (Yo _) ?_,rfl,q2 (fun w=>z (r2.nil_iff.mpr w)) _ (I.hok.fresh (Yo _))⟩
 exact ⟨by rw[Y3];exact hz,_,r1.append r2,IsTup.new _ _⟩
end
noncomputable def ixN (n:Nat)(i:Int):Option Nat:=if 0<=i then (if i < n then some i.toNat else none) else if -(n:Int)<=i then some (i + n).toNat else none
def atI {α:Type}(xs:List α)(i:Int):Option α:=(ixN xs.length i).bind fun j=>xs[j]?
theorem ixN_seq {n:Nat}{i:Int}{j:Nat}(h:ixN n i=some j):Uf i n=some j/\j < n/\-(n:Int)<=i/\i < n:=by
 unfold ixN at h
 by_cases h0:0<=i
 ·rw[if_pos h0] at h
  by_cases h1:i < n
  ·rw[if_pos h1] at h
   have e:i.toNat=j:=Yz h
   exact ⟨by rw[seqIndex_of h0 h1,e],by lia,by lia,h1⟩
  ·rw[if_neg h1] at h;cases h
 ·rw[if_neg h0] at h
  by_cases h1:-(n:Int)<=i
  ·rw[if_pos h1] at h
   have e:(i + n).toNat=j:=Yz h
   exact ⟨by rw[seqIndex_neg 4e0 h1,e],by lia,h1,by lia⟩
  ·rw[if_neg h1] at h;cases h
theorem atI_get {α:Type}{xs:List α}{i:Int}{v:α}(h:atI xs i=some v):∃j,Uf i xs.length=some j/\xs[j]? = some v/\j < xs.length/\-(xs.length:Int)<=i/\i < xs.length:=by
 unfold atI at h
 cases e:ixN xs.length i with
 | none=>rw[e] at h;cases h
 | some j=>
  rw[e] at h
  obtain ⟨h1,h2,h3,h4⟩:=ixN_seq e
  exact ⟨j,h1,h,h2,h3,h4⟩
def PlainIx (b:Expr):Prop:=∀o i,subscripted b false o i=operate [o,i] (VZ o i)
def IxR (X:Cx)(r:R2):Prop:=
 ∀(value slice:Expr) (pins:1e8) (s:Shared) (σ:St) (H:Hp) (x y:V) (v u:Value) (Q:VK),Inv X pins σ H s->RelV x v->RelV y u->r x y H Q->
  subscripted slice false v u=operate [v,u] (VZ v u)->wpAny 2e2 X.A (subscriptTail value slice v u) 12e2 X.xe s
def MtR (X:Cx)(id:String)(r:12e0):Prop:=
 ∀(pins:1e8) (s:Shared) (σ:St) (H:Hp) (x:V) (xs:List V) (v:Value) (us:3e4) (Q:VK),Inv X pins σ H s->RelV x v->Vals xs us->r x xs H Q->
  wpAny 2e2 X.A (call (.builtin id) (v::us)) 12e2 X.xe s
section
variable {X:Cx}{a b:Expr}{ta tb:TE}{pos:Pos}
theorem IxR.or {r r':R2}(h:IxR X r)(h':IxR X r'):IxR X (fun x y H Q=>r x y H Q\/r' x y H Q):=by
 intro value slice pins s σ H x y v u Q I rx ry q hs
 rcases q with q | q
 ·exact h value slice pins s σ H x y v u Q I rx ry q hs
 ·exact h' value slice pins s σ H x y v u Q I rx ry q hs
theorem pe_ix {r:R2}(hr:IxR X r)(ha:PE X a ta)(hb:PE X b tb)(hs:PlainIx b):PE X (.Subscript a b pos) (tOp r ta tb):=by
 sleep 9
 exact Subscript_ (binT ha hb I h fun v u s2 x y H2 I2 rx ry q=>hr a b pins s2 σ H2 x y v u Q I2 rx ry q (hs _ _))
def rIxL (K:W.Frag):R2:=fun x y H Q=>∃p xs i v,x=.ref p/\y=.int i/\SqL K H p xs/\atI xs i=some v/\Q v H
def rIxT (K:W.Frag):R2:=fun x y H Q=>∃p xs i v,x=.ref p/\y=.int i/\SqT K H p xs/\atI xs i=some v/\Q v H
def rIxS:R2:=fun x y H Q=>∃z i c,x=.str z/\y=.int i/\z.length<=Yu/\atI z.cps.toList i=some c/\Q (.str ⟨#[c]⟩) H
theorem ix_list:IxR X (rIxL X.K):=by
 intro value slice pins s σ H x y v u Q I rx ry h hs
 obtain ⟨p,xs,i,z,rfl,rfl,hq,he,q⟩:=h
 cases rx
 obtain ⟨t,rfl⟩:=ry
 obtain ⟨its,r,pl,hz⟩:=I.list hq
 obtain ⟨j,h1,h2,h3,h4,h5⟩:=atI_get he
 obtain ⟨w,ew,rw'⟩:=r.get h2
 have hl:=r.length
 have hn:=line63
 have fin:EP X pins σ Q w s:=⟨z,H,I,rw',q⟩
 by_cases h0:0<=i
 ·have hj:i.toNat=j:=by
   rw[seqIndex_of h0 h5] at h1
   exact Yz h1
  exact item_listR pl.isList h0 4e0 (by rw[hj];simpa using ew) fin hs
 ·have hj:(i + (its.toArray.size:Int)).toNat=j:=by
   rw[seqIndex_neg 4e0 h4] at h1
   rw[Yn,←hl]
   exact Yz h1
  exact subscriptTail_builtinR (x:=w) pl.isList.typeIs slot_list_getitem.lookup
   (wpAny_getItem_list_neg (Q:=fun r s'=>r=w/\EP X pins σ Q r s') pl.isList 4e0 (by rw[Yn]<;>lia) 4e0 (by rw[hj];simpa using ew) ⟨rfl,fin⟩) hs
theorem ix_tup:IxR X (rIxT X.K):=by
 intro value slice pins s σ H x y v u Q I rx ry h hs
 obtain ⟨p,xs,i,z,rfl,rfl,hq,he,q⟩:=h
 cases rx
 obtain ⟨t,rfl⟩:=ry
 obtain ⟨its,r,pl,hz⟩:=I.tuple hq
 obtain ⟨j,h1,h2,h3,h4,h5⟩:=atI_get he
 obtain ⟨w,ew,rw'⟩:=r.get h2
 have hl:=r.length
 have hn:=line63
 have fin:EP X pins σ Q w s:=⟨z,H,I,rw',q⟩
 exact subscriptTail_builtinR (x:=w) pl.typeIs slot_tuple_getitem.lookup
  (getItem_tuple (j:=j) (Q:=fun r s'=>r=w/\EP X pins σ Q r s') pl 4e0 4e0 (by rw[Yn,←hl];exact h1) (by simpa using ew) ⟨rfl,fin⟩) hs
theorem ix_str:IxR X rIxS:=by
 intro value slice pins s σ H x y v u Q I rx ry h hs
 obtain ⟨z,i,c,rfl,rfl,hz,he,q⟩:=h
 sleep 8
 obtain ⟨t',rfl⟩:=ry
 obtain ⟨j,h1,h2,h3,h4,h5⟩:=atI_get he
 have hl:z.cps.toList.length=z.length:=by simp[Str.length]
 rw[hl] at h1 h4 h5
 have hn:=line63
 exact tail_any (typeIs_str s z t) slot_str_getitem.lookup (getItem_str (c:=c) (by
  have e1:decide (i < -(2 ^ 63:Int))=false:=decide_eq_false 4e0
  have e2:decide (i ≥ 2 ^ 63)=false:=decide_eq_false 4e0
  rw[e1,e2,Bool.or_false]) (by rw[h1];simpa using h2) ⟨.str ⟨#[c]⟩,H,I.tok _,⟨_,rfl⟩,q⟩) hs
def rIx (K:W.Frag):R2:=fun x y H Q=>rIxL K x y H Q\/rIxT K x y H Q\/rIxS x y H Q
theorem ix_seq:IxR X (rIx X.K):=ix_list.or (ix_tup.or ix_str)
theorem mapSeq_set (its:3e4)(n j:Nat)(u:Value):Ua (·.setIfInBounds j u) { cls:=.type "list",data:=.seq its.toArray n }={ cls:=.type "list",data:=.seq (its.set j u).toArray n }:=by
 simp[Ua]
theorem Inv.lst {pins:1e8}{σ:St}{H:Hp}{s:Shared}{p:Addr}{xs:List V}(I:2e1)(h:H p=some (.lst xs)):
  ∃(its:3e4) (n:Nat),Vals xs its/\s.heap.get? p=some { cls:=.type "list",data:=.seq its.toArray n }/\xs.length<=sizeLine:=by
 obtain ⟨z,its,n,r,e⟩:=I.hok p _ h
 exact ⟨its,n,r,e,z⟩
theorem Inv.lstUpd {pins:1e8}{σ:St}{H:Hp}{s:Shared}{p:Addr}{xs ys:List V}{its its':3e4}{n n':Nat}{f:Obj->Obj}(I:2e1)(h:H p=some (.lst xs))
  (ho:s.heap.get? p=some { cls:=.type "list",data:=.seq its.toArray n }) (hf:f { cls:=.type "list",data:=.seq its.toArray n }={ cls:=.type "list",data:=.seq its'.toArray n' }) (r:Vals ys its') (hz:ys.length<=Yu) (t:Nat):
  Inv X pins σ (upd H p (.lst ys)) { s with heap:=s.heap.update p f,toks:=t }:=by
 have e:(s.heap.update p f).get? p=some { cls:=.type "list",data:=.seq its'.toArray n' }:=by
  rw[Wj f ho (by rw[hf]<;>rfl),hf]
 refine I.write (x:=p) (e:=p) (by rw[h];trivial) (.inl rfl) (fun b u hb q=>(WV _ _ (Xd hb)).trans q) ⟨_,e⟩ ?_
 exact ⟨hz,its',n',r,e⟩
def rSetL:V->V->V->Hp->(Hp->Prop)->Prop:=fun o i v H Q=>∃p xs k j,o=.ref p/\i=.int k/\H p=some (.lst xs)/\ixN xs.length k=some j/\Q (upd H p (.lst (xs.set j v)))
theorem set_list:PSet X rSetL:=by
 intro pins s σ H o i v ov iv u Q I ro ri rv h
 obtain ⟨p,xs,k,j,rfl,rfl,hp,hj,q⟩:=h
 cases ro
 obtain ⟨t,rfl⟩:=ri
 obtain ⟨its,n,r,ho,hz⟩:=I.lst hp
 obtain ⟨h1,h2,h3,h4⟩:=ixN_seq hj
 have hl:=r.length
 have hn:=line63
 have I':Inv X pins σ (upd H p (.lst (xs.set j v))) { s with heap:=s.heap.update p (Ua (·.setIfInBounds j u)) }:=
  I.lstUpd hp ho (mapSeq_set its n j u) (r.set rv j) (by rw[WJ];exact hz) s.toks
 by_cases h0:0<=k
 ·have hk:k.toNat=j:=by
   rw[seqIndex_of h0 h4] at h1
   exact Yz h1
  exact W.ki_setAt ho h0 4e0 (by rw[Yn,←hl];exact h4) (by rw[hk];exact ⟨_,I',q⟩)
 ·have hk:(k + (its.toArray.size:Int)).toNat=j:=by
   rw[seqIndex_neg 4e0 h3] at h1
   rw[Yn,←hl]
   exact Yz h1
  exact W.ki_setBack ho 4e0 (by rw[Yn,←hl];exact h3) 4e0 (by rw[hk];exact ⟨_,I',q⟩)
theorem slice_bounds (lo hi:Option Int)(n:Nat):(WZ lo hi none n).1=((HT.sIx n 0 lo:Nat):Int)/\(WZ lo hi none n).2.1=((HT.sIx n n hi:Nat):Int)/\(WZ lo hi none n).2.2=1:=by
 refine ⟨?_,?_,rfl⟩
 ·cases lo with
  | none=>simp[WZ,HT.sIx]
  | some i=>
   simp only[WZ,HT.sIx,Option.getD_none,show (1:Int) > 0 by decide,if_true]
   by_cases h:i < 0
   ·simp only[h,if_true]<;>lia
   ·simp only[h,if_false]<;>lia
 ·cases hi with
  | none=>simp[WZ,HT.sIx]
  | some i=>
   simp only[WZ,HT.sIx,Option.getD_none,show (1:Int) > 0 by decide,if_true]
   by_cases h:i < 0
   ·simp only[h,if_true]<;>lia
   ·simp only[h,if_false]<;>lia
theorem slicePick_cut (its:3e4)(lo hi:Option Int):slicePick its.toArray lo hi none=((its.drop (HT.sIx its.length 0 lo)).take (HT.sIx its.length its.length hi - HT.sIx its.length 0 lo)).toArray:=by
 obtain ⟨h1,h2,h3⟩:=slice_bounds lo hi its.toArray.size
 unfold slicePick
 rw[h1,h2,h3]
 simp only[sliceRange_one,pick_run,Yn]<;>rfl
def rSlL (K:W.Frag):V->Option Int->Option Int->Hp->VK->Prop:=fun x lo hi H Q=>∃a xs,x=.ref a/\SqL K H a xs/\∀p,H p=none->Q (.ref p) (upd H p (.lst (cutV xs lo hi)))
theorem sl_list:SlR X (rSlL X.K):=by
 intro pins s σ H x v vl vu lo hi sl Q I rx hs pl pu h
 obtain ⟨a,xs,rfl,hx,q⟩:=h
 cases rx
 obtain ⟨its,r,ht,hz⟩:=I.list hx
 have hlen:=r.length
 refine ⟨"list",_,slot_list_getitem.lookup,ht.isList.typeIs,?_⟩
 refine wpAny_getItem_list_slice ht.isList hs pl pu .none 3e2 ?_ (by rw[Yn]<;>lia)
 rw[slicePick_cut,←hlen]
 refine ⟨.ref s.heap.objs.size,_,I.laid (t':=s.toks) (o:=.lst (cutV xs lo hi)) (fun b ob q=>Yc _ q) (Yo _) ?_,rfl,q _ (I.hok.fresh (Yo _))⟩
 exact ⟨Yv (ZcQ xs lo hi) hz,_,0,(r.drop (HT.sIx xs.length 0 lo)).take (HT.sIx xs.length xs.length hi - HT.sIx xs.length 0 lo),Yt _ rfl⟩
noncomputable def flatV:V->Bool
 | .non=>true
 | .bl _=>true
 | .int _=>true
 | .str _=>true
 | _=>false
noncomputable def eqV:V->V->Bool
 | .non,.non=>true
 | .bl a,.bl b=>a==b
 | .bl a,.int b=>(if a then 1 else 0)==b
 | .int a,.bl b=>a==(if b then 1 else 0)
 | .int a,.int b=>a==b
 | .str a,.str b=>a==b
 | _,_=>false
theorem eqAt_V {A:Around}{s:Shared}{y x:V}{u v:Value}(ry:RelV y u)(rx:RelV x v)(fy:flatV y=true)(fx:flatV x=true):SeqAt.EqAt A s u v (eqV y x):=by
 cases y with
 | non=>
  cases ry
  cases x with
  | non=>cases rx;exact SeqAt.EqAt.same _
  | bl b=>cases rx;exact SeqAt.EqAt.none_bool b
  | int b=>obtain ⟨t,rfl⟩:=rx;exact SeqAt.EqAt.none_int b t
  | str b=>obtain ⟨t,rfl⟩:=rx;exact SeqAt.EqAt.none_str b t
  | _=>exact absurd (show false=true from fx) Yh
 | bl a=>
  cases ry
  cases x with
  | non=>cases rx;exact SeqAt.EqAt.bool_none a
  | bl b=>cases rx;exact SeqAt.EqAt.bool_bool a b
  | int b=>obtain ⟨t,rfl⟩:=rx;exact SeqAt.EqAt.bool_int a b t
  | str b=>obtain ⟨t,rfl⟩:=rx;exact SeqAt.EqAt.bool_str a b t
  | _=>exact absurd (show false=true from fx) Yh
 | int a=>
  obtain ⟨t',rfl⟩:=ry
  cases x with
  | non=>cases rx;exact SeqAt.EqAt.int_none a t'
  | bl b=>cases rx;exact SeqAt.EqAt.int_bool a t' b
  | int b=>obtain ⟨t,rfl⟩:=rx;exact SeqAt.EqAt.int_int a t' b t
  | str b=>obtain ⟨t,rfl⟩:=rx;exact SeqAt.EqAt.int_str a t' b t
  | _=>exact absurd (show false=true from fx) Yh
 | str a=>
  obtain ⟨t',rfl⟩:=ry
  cases x with
  | non=>cases rx;exact SeqAt.EqAt.str_none a t'
  | bl b=>cases rx;exact SeqAt.EqAt.str_bool a t' b
  | int b=>obtain ⟨t,rfl⟩:=rx;exact SeqAt.EqAt.str_int a t' b t
  | str b=>obtain ⟨t,rfl⟩:=rx;exact SeqAt.EqAt.str_str a t' b t
  | _=>exact absurd (show false=true from fx) Yh
 | _=>exact absurd (show false=true from fy) Yh
def eqU (x:V)(u:Value):Bool:=match u with
 | .none=>eqV .non x
 | .bool b=>eqV (.bl b) x
 | .int i _=>eqV (.int i) x
 | .str z _=>eqV (.str z) x
 | _=>false
theorem eqU_of {x y:V}{u:Value}(r:RelV y u)(f:flatV y=true):eqU x u=eqV y x:=by
 cases y with
 | non=>cases r;rfl
 | bl b=>cases r;rfl
 | int i=>obtain ⟨t,rfl⟩:=r;rfl
 | str z=>obtain ⟨t,rfl⟩:=r;rfl
 | _=>exact absurd (show false=true from f) Yh
theorem any_eqU {x:V}:∀{xs:List V} {us:3e4},Vals xs us->xs.all flatV=true->us.any (eqU x)=xs.any fun y=>eqV y x
 | _,_,.nil,_=>rfl
 | y::xs,u::us,.cons r t,f=>by
  rw[Vg,YG] at f
  rw[XA,XA,eqU_of r f.1,any_eqU t f.2]
theorem mem_eqAt {A:Around}{s:Shared}{x:V}{v:Value}(rx:RelV x v)(fx:flatV x=true):∀{xs:List V} {us:3e4},Vals xs us->xs.all flatV=true->∀u∈us,SeqAt.EqAt A s u v (eqU x u)
 | _,_,.nil,_=>fun u hu=>by cases hu
 | y::xs,u::us,.cons r t,f=>fun u' hu=>by
  rw[Vg,YG] at f
  rcases Yg.mp hu with rfl | hu
  ·rw[eqU_of r f.1];exact eqAt_V r rx f.1 fx
  ·exact mem_eqAt rx fx t f.2 u' hu
def inV (x:V)(xs:List V):Bool:=xs.any fun y=>eqV y x
def rIn (K:W.Frag)(neg:Bool):R2:=fun x y H Q=>∃p xs,y=.ref p/\(SqL K H p xs\/SqT K H p xs)/\flatV x=true/\xs.all flatV=true/\Q (.bl (if neg then !inV x xs else inV x xs)) H
theorem op_in_seq:OpR X (YW .In) (rIn X.K false):=by
 sleep 3
 obtain ⟨p,xs,rfl,hq,fx,fs,q⟩:=h
 cases ry
 rcases hq with hq | hq
 ·obtain ⟨its,r,pl,hz⟩:=I.list hq
  refine SeqAt.in_listAt (eqU x) pl.isList (fun w hw=>mem_eqAt rx fx r fs w (by simpa using hw)) ⟨.bl _,H,I,rfl,?_⟩
  rw[show its.toArray.any (eqU x)=its.any (eqU x) by simp,any_eqU r fs]
  exact q
 ·obtain ⟨its,r,pl,hz⟩:=I.tuple hq
  refine SeqAt.in_tupleAt (eqU x) pl (fun w hw=>mem_eqAt rx fx r fs w (by simpa using hw)) ⟨.bl _,H,I,rfl,?_⟩
  rw[show its.toArray.any (eqU x)=its.any (eqU x) by simp,any_eqU r fs]
  exact q
theorem call_tuple_of:CallR X (.type "tuple") (fun xs H Q=>∃p ys,xs=[.ref p]/\((SqL X.K H p ys/\∀l,H l=none->Q (.ref l) (upd H l (.tup ys)))\/(SqT X.K H p ys/\Q (.ref p) H))):=by
 intro pins s σ H xs us Q I r h
 obtain ⟨p,ys,rfl,h⟩:=h
 obtain ⟨u,rfl,rx⟩:=vals1 r
 cases rx
 rcases h with ⟨hq,q⟩ | ⟨hq,q⟩
 ·obtain ⟨its,r',pl,hz⟩:=I.list hq
  have hlen:=r'.length
  refine call_tuple_list pl.isList (fun h' kp=>?_) (by simp only[Yn]<;>lia)
  have I1:Inv X pins σ H { s with heap:=h' }:=I.kept (t':=s.toks) kp
  have I2:Inv X pins σ (upd H h'.objs.size (.tup ys)) { s with heap:=h'.push { cls:=.type "tuple",data:=.seq its.toArray } }:=
   I1.laid (t':=s.toks) (fun b o e=>Yc _ e) (Yo _) (show ObjOk X.prog X.w _ _ _ (.tup ys) from ⟨hz,its,r',IsTup.new _ _⟩)
  exact ⟨.ref h'.objs.size,_,I2,rfl,q _ (I1.hok.fresh (Yo _))⟩
 ·obtain ⟨its,r',pl,hz⟩:=I.tuple hq
  exact call_tuple_same pl ⟨.ref p,H,I,rfl,q⟩
def tyV (K:W.Frag)(T:String)(x:V)(H:Hp):Prop:=match x with
 | .str _=>T="str"
 | .int _=>T="int"
 | .ref p=>(T="list"/\∃xs,SqL K H p xs)\/(T="tuple"/\∃o,K.lookup p=some o/\o.cls=.type "tuple"/\o.dict=none)\/
   (T="dict"/\((∃kvs,H p=some (.dK kvs))\/∃kvs,H p=some (.dT kvs)))\/(T="set"/\∃S n,H p=some (.set S n))
 | _=>False
theorem tyV_is {pins:1e8}{σ:St}{H:Hp}{s:Shared}{T:String}{x:V}{v:Value}(I:2e1)(r:RelV x v)(ty:tyV X.K T x H):
  s.TypeIs v T/\∀a,v=.ref a->∃ob,s.heap.get? a=some ob/\ob.dict=none:=by
 cases x with
 | str z=>
  obtain ⟨t,rfl⟩:=r
  cases (show T="str" from ty)
  exact ⟨typeIs_str s z t,fun _ e=>nomatch e⟩
 | int i=>
  obtain ⟨t,rfl⟩:=r
  cases (show T="int" from ty)
  exact ⟨typeIs_int s i t,fun _ e=>nomatch e⟩
 | ref p=>
  cases r
  rcases ty with ⟨rfl,xs,hq⟩ | ⟨rfl,o,hk,hc,hd⟩ | ⟨rfl,hk⟩ | ⟨rfl,S,n,hk⟩
  ·obtain ⟨its,_,pl,_⟩:=I.list hq
   refine ⟨pl.isList.typeIs,fun a e=>?_⟩
   cases e
   obtain ⟨o,n,e,c,hd,_⟩:=pl
   exact ⟨o,e,hd⟩
  ·refine ⟨⟨o,I.kIn p o hk,hc⟩,fun a e=>?_⟩
   cases e
   exact ⟨o,I.kIn _ o hk,hd⟩
  ·have z:∃o,s.heap.get? p=some o/\o.ExactDict:=by
    rcases hk with ⟨kvs,hk⟩ | ⟨kvs,hk⟩
    ·obtain ⟨_,_,_,_,o,_,_,e,ex,_⟩:=I.hok p _ hk
     exact ⟨o,e,ex⟩
    ·obtain ⟨_,_,_,_,o,_,_,e,ex,_⟩:=I.hok p _ hk
     exact ⟨o,e,ex⟩
   obtain ⟨o,e,ex⟩:=z
   refine ⟨⟨o,e,ex.1⟩,fun a e2=>?_⟩
   cases e2
   exact ⟨o,e,ex.2.1⟩
  ·obtain ⟨o,_,_,_,e,ex,_⟩:=I.hok p _ hk
   refine ⟨⟨o,e,ex.1⟩,fun a e2=>?_⟩
   cases e2
   exact ⟨o,e,ex.2.1⟩
 | _=>exact Xl ty
noncomputable def tBM (K:W.Frag)(T:String)(r:12e0)(to:TE)(t:TA):TE:=fun σ H Q=>to σ H fun x H1=>tyV K T x H1/\t σ H1 fun xs H2=>r x xs H2 Q
variable {o e:Expr}{es:4e5}{to:TE}{t:TA}{name:Str}{apos cpos:Pos}{T id:String}{r:12e0}
theorem pe_bm (pa:PlainAttrs T)(slot:Slot T name id)(hty:typeOf (.builtin id)=pure (.type "method_descriptor"))(hm:MtR X id r)(ho:PE X o to)(ha:PA X 4e6 t)
  (hbase:XJ o name X.env (eval o X.env)=eval o X.env:=by rfl)
  (hfew:((backTo cpos (Yi 4e6 X.env)).all (fun x=>!x.1)&&(Vu cpos (Wk [] X.env)).all (fun x=>x.1.isSome)
   &&decide ((e::es).length + ([]:List Wl).length + (if ([]:List Wl).isEmpty then 0 else 1) < 30))=true:=by rfl)
  (hline:10e1:=by rfl) (hs:1e2:=by rfl) (hplain:7e6:=by rfl):
  PE X (.Call (.Attribute o name apos) 4e6 [] cpos) (tBM X.K T r to t):=by
 sleep 9
 refine wpAny_Call_method_late hbase hfew hline rfl (thn (ho pins s σ H _ I h) fun v s1 h_=>?_)
 obtain ⟨x,H1,I1,r1,ty,q1⟩:=h_
 obtain ⟨h1,h2⟩:=tyV_is I1 r1 ty
 refine ⟨T,id,pa,slot,hty,h1,h2,?_⟩
 have hA:=ha cpos pins s1 σ H1 _ I1 q1
 rw[hs] at hA ⊢
 refine Calls.callWith_builtin (by show (false||(backTo cpos (Yi es X.env)).any (·.1))=false;rw[hplain]<;>rfl) (Calls.evalArgs_plain ?_)
 exact thn hA fun us s2 ⟨vs,H2,I2,r2,q2⟩=>hm pins s2 σ H2 x vs v us Q I2 r1 r2 q2
end
def MtM (X:Cx)(id:String)(r:12e0):Prop:=
 ∀(pins:1e8) (s:Shared) (σ:St) (H:Hp) (x:V) (xs:List V) (v:Value) (us:3e4) (Q:VK),Inv X pins σ H s->RelV x v->Vals xs us->r x xs H Q->
  wpAny 2e2 X.A (call (.builtin id) (v::us)) 12e2 X.xe s
theorem Vals.one:∀{x:V} {us:3e4},Vals [x] us->∃u,us=[u]/\RelV x u:=by
 intro x us r
 cases r with
 | cons r t=>cases t;exact ⟨_,rfl,r⟩
theorem Vals.two:∀{x y:V} {us:3e4},Vals [x,y] us->∃u v,us=[u,v]/\RelV x u/\RelV y v:=by
 intro x y us r
 cases r with
 | cons r t=>cases t with
  | cons q t=>cases t;exact ⟨_,_,rfl,r,q⟩
theorem Vals.eraseIdx:∀{xs:List V} {us:3e4} (i:Nat),Vals xs us->Vals (xs.eraseIdx i) (us.eraseIdx i)
 | _,_,_,.nil=>.nil
 | _,_,0,.cons _ t=>t
 | _,_,i + 1,.cons r t=>.cons r (Vals.eraseIdx i t)
theorem len_erase {α:Type}:∀(l:List α) (i:Nat),(l.eraseIdx i).length<=l.length
 | [],_=>Yo _
 | _::_,0=>VN _
 | _::r,i + 1=>Nat.succ_le_succ (len_erase r i)
section
variable {X:Cx}{pins:1e8}{σ:St}{H:Hp}{s:Shared}{l b:Addr}{xs ys zs:List V}
theorem Inv.lset {its its':3e4}{n:Nat}{f:Array Value->Array Value}{t':Nat}(I:2e1)(hH:H l=some (.lst xs))
  (e:s.heap.get? l=some { cls:=.type "list",data:=.seq its.toArray n }) (hf:f its.toArray=its'.toArray) (hv:Vals ys its') (hz:ys.length<=Yu):
  Inv X pins σ (upd H l (.lst ys)) { s with heap:=s.heap.update l (Ua f),toks:=t' }:=by
 have q:=PySem.IsL.update e f
 rw[hf] at q
 refine I.write (x:=l) (e:=l) (by rw[hH];exact trivial) (.inl rfl) (fun b' u hb hu=>(WV s.heap (Ua f) (Xd hb)).trans hu) ⟨_,q⟩ ?_
 exact ⟨hz,its',_,hv,q⟩
theorem Inv.lnew {its:3e4}{t':Nat}(I:2e1)(hv:Vals ys its)(hz:ys.length<=Yu):
  Inv X pins σ (upd H s.heap.objs.size (.lst ys)) { s with heap:=s.heap.push { cls:=.type "list",data:=.seq its.toArray },toks:=t' }:=
 I.laid (fun _ _ q=>Yc _ q) (Yo _) ⟨hz,its,0,hv,Yt _ rfl⟩
theorem Inv.fresh (I:2e1):H s.heap.objs.size=none:=I.hok.fresh (Yo _)
theorem Inv.lstM (I:2e1)(hH:H l=some (.lst xs)):xs.length<=Yu/\∃(its:3e4) (n:Nat),Vals xs its/\xs.length=its.length/\s.heap.get? l=some { cls:=.type "list",data:=.seq its.toArray n }:=by
 obtain ⟨z,its,n,r,e⟩:=I.hok l _ hH
 exact ⟨z,its,n,r,r.length,e⟩
end
section
variable {X:Cx}
def rAppend:V->List V->Hp->VK->Prop:=fun x vs H Q=>∃l xs y,x=.ref l/\vs=[y]/\H l=some (.lst xs)/\xs.length < Yu/\Q .non (upd H l (.lst (xs++[y])))
theorem mt_append:MtM X "list.append" rAppend:=by
 intro pins s σ H x vs v us Q I rx rv h
 obtain ⟨l,xs,y,rfl,rfl,hH,hz,q⟩:=h
 cases rx
 obtain ⟨u,rfl,ru⟩:=rv.one
 obtain ⟨z,its,n,r,hl,e⟩:=I.lstM hH
 refine call_meets F.slot_list_append ⟨_,e,rfl⟩ F.entry_list_append (F.args_list_append_2 _ _) (PySem.list_append l its.toArray n u (by rw[Yn];lia)) ⟨e,?_⟩
 refine ⟨.non,_,I.lset (its':=its++[u]) hH e 3e2 (r.append (.cons ru .nil)) ?_,rfl,q⟩
 rw[Y3,List.length_singleton]
 lia
def rPopAt:V->List V->Hp->VK->Prop:=fun x vs H Q=>∃l xs i k y,x=.ref l/\vs=[.int i]/\H l=some (.lst xs)/\-(2 ^ 63)<=i/\i < 2 ^ 63/\Uf i xs.length=some k/\xs[k]? = some y/\Q y (upd H l (.lst (xs.eraseIdx k)))
theorem mt_popAt:MtM X "list.pop" rPopAt:=by
 intro pins s σ H x vs v us Q I rx rv h
 obtain ⟨l,xs,i,k,y,rfl,rfl,hH,h1,h2,hk,hy,q⟩:=h
 cases rx
 obtain ⟨u,rfl,ru⟩:=rv.one
 obtain ⟨t,rfl⟩:=ru
 obtain ⟨z,its,n,r,hl,e⟩:=I.lstM hH
 obtain ⟨w,hw,rw'⟩:=r.get hy
 refine call_meets F.slot_list_pop ⟨_,e,rfl⟩ F.entry_list_pop (F.args_list_pop_2 _ _)
  (MeetsSeq.list_pop_at l its.toArray n i t k w (fitsIndex_both h1 h2) (by rw[Yn,←hl];exact hk) (by rw[←Array.getElem?_toList];exact hw) (by rw[Yn];lia)) ⟨e,?_⟩
 refine ⟨y,_,I.lset (its':=its.eraseIdx k) hH e ?_ (r.eraseIdx k) ?_,rw',q⟩
 ·show its.toArray.eraseIdxIfInBounds k=(its.eraseIdx k).toArray
  rw[List.eraseIdxIfInBounds_toArray]
 ·have:=len_erase xs k
  lia
end
end L2
namespace Att
open PySem PySem.W PySem.Calls PyProof.Rows
theorem ZcI {P:Params}{h:Heap}:∀(ns:List Int) (vs:3e4),WellAll P h vs (ns.map WData.int)->IntsAre vs ns:=by
 intro ns
 induction ns with
 | nil=>
  intro vs w
  rw[X5] at w
  cases w
  exact .nil
 | cons n ns ih=>
  intro vs w
  rw[YM] at w
  cases w with
  | cons a b=>
   cases a
   exact .cons _ _ (ih _ b)
theorem script_of {l:OpenLaw}{n:Nat}(hn:l.most=some n){P:Params}{h:Heap}{args:List WData}{vals:3e4}
    (hpre:l.row.toRowW.claim.pre args=true) (hwl:WellAll P h vals args):
    ∃a vs ns,vals=[YL a]/\args=[WData.list (ns.map WData.int)]/\h.get? a=some { cls:=.type "list",data:=.seq vs.toArray }/\IntsAre vs ns/\ns.length<=n:=by
  have hsh:WShape.hasAll [] args [.list .int]=true:=(pre_splitW hpre).1
  have hc:l.pre.holds [] { args:=args }=true:=(pre_splitW hpre).2
  obtain ⟨d,r,rfl,h1,h2⟩:=hasAllW_cons hsh
  obtain rfl:=hasAllW_nil h2
  obtain ⟨xs,rfl,h3⟩:=hasW_list h1
  obtain ⟨ns,rfl⟩:=items_int h3
  have hlen:ns.length<=n:=by
    unfold OpenLaw.pre at hc
    have h4:(WTm.not (.lt (.lit (.int (n:Int))) (.len (.arg 0)))).holds [] { args:=[.list (ns.map .int)] }=true:=by
      have h4:=(holds_andW hc).1
      rw[hn] at h4
      exact h4
    have h5:=condW_of h4 (w_not (w_lt w_lit (w_len_list (w_arg rfl))))
    rw[YX] at h5
    refine Nat.le_of_not_lt fun q=>?_
    have q':(n:Int) < ((ns.length:Nat):Int):=by lia
    first
      | (rw[decide_eq_true q'] at h5;exact absurd h5 (by decide))
      | (simp at h5;lia)
  cases hwl with
  | cons w1 w2=>
    cases w2
    cases w1 with
    | list ho hall=>exact ⟨_,_,ns,rfl,rfl,ho,ZcI ns _ hall,hlen⟩
theorem post_true (l:OpenLaw)(args:List WData):l.row.toRowW.claim.post args (.bool true) args=true:=
 postW_of (r:=l.row.toRowW) (X:=(true==true))
  (show WShape.has [] (.bool true) .bool=true by first | rfl | decide | simp[WShape.has,WShape.arms,WShape.armsAll])
  (show (WTm.eq .res (.lit (.bool true))).value [] { args:=args,res:=some (.bool true),after:=args }=some (.bool (true==true)) from w_eq_bool (w_res rfl) w_lit) rfl
theorem attach_call {l:OpenLaw}{n:Nat}{q:Yl}{loose:3e1}{XP:(Str->Option Value)->Heap->Prop}{YP:World->Heap->Prop}{d:DefRec}
  (hn:l.most=some n) (hdf:d.params.defaults=[])
  (call:∀(w:World) (s₀ s₁:Shared) (mg mb:1e5) (fa:Addr) (o:Obj) (pm cd doc:Value) (a:Addr) (vs:3e4) (ns:List Int),
   Ground q loose [] XP w s₀ mg mb s₁.heap->YP w s₁.heap->
   s₁.heap.get? fa=some o->o.data=.func (docDef d.name d.params d.body d.scope pm cd doc)->s₁.heap.CodeRec cd d.name->mg d.name=some (.ref fa)->
   s₁.heap.get? a=some { cls:=.type "list",data:=.seq vs.toArray }->IntsAre vs ns->ns.length<=n->s₁.gens=#[]->
   XG (model l.prog w) Ul (.call (.ref fa) ⟨[.ref a],[]⟩) (fun r s'=>r=.ok (.ret (.bool true))/\OldK s₁.heap s'.heap/\s'.os=s₁.os/\VJ s'.gens) s₁):
  WalkO q loose XP YP l.row.toRowW d [] (fun f vs=>PySem.call f vs):=by
 intro w s₀ s₁ mg mb G Y fa o pm cd doc dV kV ho hd hcd hD hmg hg args vals as hpre hlay hrd hwl hlo
 obtain rfl:dV=.none:=Dflts.none hD hdf
 obtain rfl:kV=.none:=Dflts.noKw hD
 obtain ⟨a,vs,ns,rfl,rfl,hobj,hints,hlen⟩:=script_of hn hpre hwl
 refine enter_call (W4 (call w s₀ s₁ mg mb fa o pm cd doc a vs ns G Y ho (fd_plain hd) hcd hmg hobj hints hlen hg) fun r s' hq=>?_)
 obtain ⟨rfl,h2,h3,h4⟩:=hq
 exact ⟨.inl ⟨.bool true,.bool true,[],rfl,fun _=>rfl,.bool true,post_true l _,fun _=>⟨List.Pairwise.nil,fun _ hm=>(nomatch hm)⟩⟩,h2,h3,h4⟩
end Att
namespace L2
open PySem PySem.Spec PyProof.Rows
theorem vals_ints:∀{vs:3e4} {ns:List Int},IntsAre vs ns->Vals (ns.map V.int) vs
 | _,_,.nil=>.nil
 | _,_,.cons n t h=>.cons ⟨t,rfl⟩ (vals_ints h)
def Only (H:Hp):Prop:=∀b,H b=none\/∃o xs,H b=some (.frz o (.lst xs))
theorem law_call {P:Yl}{w:World}{K:W.Frag}{mg mb:1e5}{CX:CXT}{k:Nat}{fa a:Addr}{fd:Yj}{x:Str}{sp:Sp}{s₁:Shared}{vs:3e4}{ns:List Int}
  (KX:K.In s₁.heap) (hns:s₁.heap.Ns Y5 mg) (hb:s₁.heap.Ns builtinsNs mb) (hbb:∀x:Str,x≠"__name__"->mb x=YZ x) (hlim:s₁.heap.NoLimit) (hg:s₁.gens=#[])
  (ha:s₁.heap.get? a=some { cls:=.type "list",data:=.seq vs.toArray }) (hi:IntsAre vs ns) (hl:ns.length<=Yu) (hr:Room k Ul)
  (F:∀base:Heap,K.In base->base.Ns Y5 mg->FnOk P w K mg base CX k fa fd [x] sp) (hbind:∀(s:Shared) (u:Value),BindsTo s fd ⟨[u],[]⟩ [(x,u)])
  (hsp:∀H:Hp,Only H->SqL K H a (ns.map V.int)->sp [.ref a] H (fun v _=>v=.bl true) fun _ _ _=>False)
  (hCX:∀H e s',CX [] H s₁ (fun _ _ _=>False) e s'->False):
  XG (model P w) Ul (.call (.ref fa) ⟨[.ref a],[]⟩) (fun r s'=>r=.ok (.ret (.bool true))/\OldK s₁.heap s'.heap/\s'.os=s₁.os/\VJ s'.gens) s₁:=by
 have rv:=vals_ints hi
 have lenV:=hi.length
 have core:∀H:Hp,Only H->SqL K H a (ns.map V.int)->HOk P w H s₁.heap->(∀b,H b≠none->b=a)->(H a≠none->K.lookup a=none)->
   XG (model P w) Ul (.call (.ref fa) ⟨[.ref a],[]⟩) (fun r s'=>r=.ok (.ret (.bool true))/\OldK s₁.heap s'.heap/\s'.os=s₁.os/\VJ s'.gens) s₁:=by
  intro H hO hS hok hA hK
  have base_of:∀{b:Addr} {o:Obj},s₁.heap.get? b=some o->H b=none->(hidT s₁.heap H).get? b=some o:=fun e n=>hidT_get e n
  have noA:∀{b:Addr} {o:Obj} {es:Array VA} {ep:Nat},s₁.heap.get? b=some o->o.data=.dict es ep->H b=none:=fun {b o es ep} e d=>by
   cases q:H b with
   | none=>rfl
   | some u=>
    have e':b=a:=hA b (by rw[q];simp)
    subst e'
    rw[ha] at e;cases e
    have d':Data.seq vs.toArray _=Data.dict es ep:=d
    cases d'
  have nsK:∀{b:Addr} {m:1e5},s₁.heap.Ns b m->(hidT s₁.heap H).Ns b m:=fun {b m} ⟨o,es,ep,e,d,r⟩=>⟨o,es,ep,base_of e (noA e d),d,r⟩
  have hKb:K.In (hidT s₁.heap H):=fun b o e=>base_of (KX b o e) (by
   cases q:H b with
   | none=>rfl
   | some u=>
    have e':b=a:=hA b (by rw[q];simp)
    subst e'
    rw[hK (by rw[q];simp)] at e;cases e)
  have hM:Mod K mg (hidT s₁.heap H):=⟨hKb,nsK hns,⟨mb,nsK hb,hbb⟩,let ⟨mc,h1,h2⟩:=hlim;⟨mc,nsK h1,h2⟩⟩
  have e0:Env0 P w K mg (hidT s₁.heap H) Ul [] s₁ H:=⟨rfl,hM,fun b o e=>of_hidT e,Nat.le_of_eq (hidT_size _ _),trivial,fun b hb=>absurd (show b∈([]:List Addr) from hb) 3e2,hok,.of_eq hg⟩
  refine W4 ((F _ hKb (nsK hns)).run Ul [] s₁ H ⟨[.ref a],[]⟩ [.ref a] [.ref a] _ _ hr e0 (hbind s₁ (.ref a)) (.cons rfl .nil) (hsp H hO hS)) fun r s' h=>?_
  cases r with
  | error e=>exact (hCX H e s' h).elim
  | ok fl=>
   cases fl with
   | next=>exact Xl h
   | brk=>exact Xl h
   | cont=>exact Xl h
   | ret u=>
    obtain ⟨v,H',os,bare,un,hok',r',q⟩:=h
    have q':v=.bl true:=q
    subst q'
    obtain rfl:u=Vi true:=r'
    refine ⟨rfl,OldK.of_keep fun b o e=>?_,os,bare⟩
    cases q:H b with
    | none=>exact un.keep b o e q (by intro z;exact absurd (show b∈([]:List Addr) from z) 3e2) 3e2
    | some u=>
     rcases hO b with z | ⟨ob,xs,z⟩
     ·rw[q] at z;cases z
     ·have z2:=un.frzs b ob _ z
      obtain ⟨e1,_⟩:=hok b _ z
      obtain ⟨e2,_⟩:=hok' b _ z2
      rw[e] at e1;cases e1
      exact e2
 cases hk:K.lookup a with
 | some o=>
  have e:=KX a o hk
  rw[ha] at e
  cases e
  refine core (fun _=>none) (fun _=>.inl rfl) (.inr ⟨_,vs.toArray,_,hk,rfl,rfl,rfl,by rw[Yn,lenV];exact hl,by simpa using rv⟩) (fun b u z=>by have z':(none:Option HO)=some u:=z;cases z') (fun b z=>absurd rfl z) fun z=>absurd rfl z
 | none=>
  refine core (fun b=>if b=a then some (.frz { cls:=.type "list",data:=.seq vs.toArray } (.lst (ns.map V.int))) else none) (fun b=>?_) (.inl (.inr ⟨{ cls:=.type "list",data:=.seq vs.toArray },if_pos rfl⟩)) (fun b u z=>?_) (fun b z=>?_) fun _=>hk
  ·by_cases hb:b=a
   ·exact .inr ⟨_,_,if_pos hb⟩
   ·exact .inl (if_neg hb)
  ·by_cases hb:b=a
   ·have z':=(if_pos hb).symm.trans z
    cases z'
    subst hb
    exact ⟨ha,by rw[YX];exact hl,vs,_,rv,ha⟩
   ·have z':=(if_neg hb).symm.trans z
    cases z'
  ·by_cases hb:b=a
   ·exact hb
   ·exact absurd (if_neg hb) z
noncomputable abbrev CX0:CXT:=fun _ _ _ _ _ _=>False
noncomputable abbrev E0:XK:=fun _ _ _=>False
theorem pass0 {X:Cx}:Passes CX0 X E0:=fun _ _ _ _ _ _ _ h=>h.elim
structure Fun (K:W.Frag)(x qual:Str)(st:Stmt)(f:Addr)(fd:Yj):Prop where
 ex:∃(oc:Value) (od:Option Addr) (kV doc pm:Value) (an:Option Addr) (cdv ct:Value) (osl:Array 12e9),
  fd=W.fnOf x qual (defArgs st) (defBody st) 8e1 .none kV doc pm an cdv ct/\K.lookup f=some ⟨oc,od,.func fd,osl⟩/\W.codeIn K cdv qual=true
 kp:Yp K (.ref f)=true
section
variable {P:Yl}{w:World}{K:W.Frag}{mg:1e5}{base:Heap}
theorem Fun.ok {x qual:Str}{st:Stmt}{f:Addr}{fd:Yj}{N ps:3e1}{k:Nat}{sp:Sp}(F:Fun K x qual st f fd)(S:FnScope N ps 8e1)(len:∀vs H Q E,sp vs H Q E->vs.length=ps.length)
  (hbody:∀(cdv:Value) (A:Around) (outer:List Env) (s:Shared) (H:Hp) (vs:List V) (Q:VK) (E:XK),Room k 9e9->sp vs H Q E->
   ∃t,PSs (cxOf CX0 P w K mg base N qual (defScope st) f cdv A outer s H E).nox (defBody st) t/\t { nx:=fun _ H'=>Q .non H',rt:=Q } (start N vs) H):FnOk P w K mg base CX0 (k + 1) f fd ps sp:=by
 obtain ⟨oc,od,kV,doc,pm,an,cdv,ct,osl,rfl,lk,hcd⟩:=F.ex
 refine fn_of lk hcd S len fun A outer s H vs Q E hr hsp=>?_
 obtain ⟨t,h,q⟩:=hbody cdv A outer s H vs Q E hr hsp
 exact ⟨t,h.nox,q⟩
theorem Fun.binds {x qual:Str}{st:Stmt}{f:Addr}{fd:Yj}{ps:3e1}(F:Fun K x qual st f fd)
  (h:∀(kV doc pm:Value) (an:Option Addr) (cdv ct:Value) (us:3e4),us.length=ps.length->bindArgs (W.fnOf x qual (defArgs st) (defBody st) 8e1 .none kV doc pm an cdv ct) ⟨us,[]⟩=pure (ps.zip us)):Binds K fd ps []:=by
 obtain ⟨oc,od,kV,doc,pm,an,cdv,ct,osl,rfl,lk,hcd⟩:=F.ex
 exact .all (h kV doc pm an cdv ct)
theorem fun_mk {x qual:Str}{st:Stmt}{f:Addr}{oc:Value}{od an:Option Addr}{osl:Array 12e9}{kV doc pm cdv ct:Value}(l:K.lookup f=some ⟨oc,od,.func (W.fnOf x qual (defArgs st) (defBody st) 8e1 .none kV doc pm an cdv ct),osl⟩)
  (c:W.codeIn K cdv qual=true) (k:Yp K (.ref f)=true):Fun K x qual st f (W.fnOf x qual (defArgs st) (defBody st) 8e1 .none kV doc pm an cdv ct):=⟨⟨oc,od,kV,doc,pm,an,cdv,ct,osl,rfl,l,c⟩,k⟩
end
theorem Zaq {A:Around}{k:Nat}(hr:Room k A):A.units + 1 < cLine:=Nat.lt_of_le_of_lt (Nat.add_le_add_left (by decide:1<=64) _) hr.units
section
variable {X:Cx}
theorem pv (i:Nat){x:Str}{pos:Pos}(hN:7e9:=by rfl)(hv:Vis X.env.scope x:=by first | exact Or.inl rfl | exact Or.inr 3e6 | exact Or.inr (Or.inr rfl))(hd:2e8:=by decide)
  (hcd:(x==("__classdict__":Str))=false:=by decide):PE X (.Name x pos) (tVar i):=pe_var hN hv hd hcd
end
theorem iteF {A B:Prop}(h:B):if false=true then A else B:=by
 rw[if_neg Yh]
 exact h
theorem iteT {A B:Prop}(h:A):if true=true then A else B:=by
 rw[if_pos rfl]
 exact h
end L2
set_option maxHeartbeats 4000000
namespace L2
open PySem PySem.Spec PyProof.Rows
section
variable {κ:Type} [DecidableEq κ]
noncomputable def valV (kvs:List (κ×V))(k:κ):Option V:=(kvs.find? fun kv=>decide (kv.1=k)).map (·.2)
theorem valV_pos {p:κ×V}{r:List (κ×V)}{k:κ}(e:p.1=k):valV (p::r) k=some p.2:=by simp[valV,X0,e]
theorem valV_neg {p:κ×V}{r:List (κ×V)}{k:κ}(e:¬p.1=k):valV (p::r) k=valV r k:=by simp[valV,X0,e]
theorem KV.val {kvs:List (κ×V)}{vs:List (κ×Value)}(r:KV kvs vs)(k:κ):RelO (valV kvs k) (V1 vs k):=by
 unfold KV at r
 induction r with
 | nil=>exact Wp
 | @cons p q ps qs h t ih=>
  obtain ⟨h1,h2⟩:=h
  by_cases e:p.1=k
  ·have e':q.1=k:=h1.symm.trans e
   have b:V1 (q::qs) k=some q.2:=by simp[V1,X0,e']
   rw[valV_pos e,b];exact h2
  ·have e':¬q.1=k:=fun z=>e (h1.trans z)
   have b:V1 (q::qs) k=V1 qs k:=by simp[V1,X0,e']
   rw[valV_neg e,b];exact ih
end
theorem kV_is {P:Yl}{w:World}{k:Key}{u:Value}(r:RelV (kV k) u):(mixKind P w).is k u=true:=by
 cases k with
 | inl i=>obtain ⟨t,e⟩:=(show ∃t,u=Value.int i t from r);subst e;exact mixKind_int P w i t
 | inr x=>obtain ⟨t,e⟩:=(show ∃t,u=Value.str x t from r);subst e;exact mixKind_str P w x t
theorem items_are {P:Yl}{w:World}:∀{ks:List Key} {us:3e4},Vals (ks.map kV) us->ItemsAre (mixKind P w) ks us
 | [],_,r=>by rw[X5] at r;cases r;exact .nil
 | k::ks,_,r=>by
  rw[YM] at r
  cases r with
  | cons h t=>exact .cons (kV_is h) (items_are t)
abbrev KT (H:Hp):List (List Key×V)->List (List Key×Addr×Value)->Prop:=Paired fun p q=>p.1=q.1/\H q.2.1=some (.tup (p.1.map kV))/\RelV p.2 q.2.2
theorem KT.val {H:Hp}{kvs:List (List Key×V)}{xs:List (List Key×Addr×Value)}(r:KT H kvs xs)(k:List Key):RelO (valV kvs k) ((atKey xs k).map (·.2)):=by
 induction r with
 | nil=>exact Wp
 | @cons p q ps qs h t ih=>
  obtain ⟨h1,_,h2⟩:=h
  by_cases e:p.1=k
  ·have e':q.1=k:=h1.symm.trans e
   have b:atKey (q::qs) k=some q.2:=by simp[atKey,X0,e']
   rw[valV_pos e,b];exact h2
  ·have e':¬q.1=k:=fun z=>e (h1.trans z)
   have b:atKey (q::qs) k=atKey qs k:=by simp[atKey,X0,e']
   rw[valV_neg e,b];exact ih
section
variable {P:Yl}{w:World}{H:Hp}{h:Heap}{a:Addr}
theorem rd_of {u:HO}(ok:HOk P w H h)(e:Rd H a u):ObjOk P w H h a u:=e.ok ok
theorem dk_rd {kvs:List (Key×V)}(ok:HOk P w H h)(e:Rd H a (.dK kvs)):kvs.length<=Yu/\(a==Wf)=false/\∃vs,KV kvs vs/\h.DictOf (mixKind P w) a vs:=
 show ObjOk P w H h a (.dK kvs) from rd_of ok e
theorem dk_of {kvs:List (Key×V)}(ok:HOk P w H h)(e:H a=some (.dK kvs)):kvs.length<=Yu/\(a==Wf)=false/\∃vs,KV kvs vs/\h.DictOf (mixKind P w) a vs:=dk_rd ok (.inl e)
theorem key_of {ks:List Key}(ok:HOk P w H h)(e:H a=some (.tup (ks.map kV))):(tupleKind (mixKind P w)).is h ks a:=by
 obtain ⟨_,its,r,o,h1,h2,n,h3⟩:=(show ObjOk P w H h a (.tup (ks.map kV)) from ok a _ e)
 exact ⟨o,its.toArray,n,h1,h2,h3,by simpa using items_are r⟩
theorem dt_rd {kvs:List (List Key×V)}(ok:HOk P w H h)(e:Rd H a (.dT kvs)):kvs.length<=Yu/\(a==Wf)=false/\
  ∃xs,KT H kvs xs/\h.DictOfH (tupleKind (mixKind P w)) a xs:=by
 obtain ⟨z,y,xs,r,o,es,ep,h1,h2,h3,h4,h5⟩:=(show ObjOk P w H h a (.dT kvs) from rd_of ok e)
 refine ⟨z,y,xs,r,o,es,ep,h1,h2,h3,h4,fun x hx=>?_,h5⟩
 have all:∀{l:List (List Key×V)} {m:List (List Key×Addr×Value)},KT H l m->∀x∈m,(tupleKind (mixKind P w)).is h x.1 x.2.1:=by
  intro l m q
  induction q with
  | nil=>intro x hx;exact nomatch hx
  | @cons p q ps qs hq t ih=>
   intro x hx
   rcases Yg.mp hx with e | hx
   ·subst e
    exact key_of ok (by rw[←hq.1];exact hq.2.1)
   ·exact ih x hx
 exact all r x hx
end
def DGet (H:Hp)(a:Addr)(y:V)(r:Option V):Prop:=
 (∃kvs k,Rd H a (.dK kvs)/\y=kV k/\r=valV kvs k)\/∃kvs k b,Rd H a (.dT kvs)/\y=.ref b/\H b=some (.tup (k.map kV))/\r=valV kvs k
theorem DGet.k {H:Hp}{a:Addr}{kvs:List (Key×V)}{k:Key}(e:H a=some (.dK kvs)):DGet H a (kV k) (valV kvs k):=.inl ⟨kvs,k,.inl e,rfl,rfl⟩
section
variable {X:Cx}{pins:1e8}{σ:St}{H:Hp}{s:Shared}{a:Addr}{y v:V}{u r:Value}{o:Option V}{A:Around}{E:1e4}
theorem Inv.big (I:2e1):Wf < s.heap.objs.size:=by
 have h:Y5 < s.heap.objs.size:=(I.mod.glob.keeps I.bk).lt
 exact Nat.lt_trans 2e6 h
theorem d_getItem {Q:1e4}(hu:A.units + 1 < cLine)(I:2e1)(g:DGet H a y (some v))(ry:RelV y u)(h:∀w' s',Inv X pins σ H s'->RelV v w'->Q w' s'):
  wpAny 2e2 A (VZ (.ref a) u) Q E s:=by
 rcases g with ⟨kvs,k,e,ey,l⟩ | ⟨kvs,k,b,e,ey,eb,l⟩
 ·subst ey
  obtain ⟨z,hd,vs,rel,dd⟩:=dk_rd I.hok e
  obtain ⟨w',hw,rw'⟩:=RelO.some_of (v:=v) (o:=V1 vs k) (by rw[l];exact rel.val k)
  exact wpAny_getItem_of (kV_is ry) dd.mapOf hw (h w' _ (I.tok _) rw')
 ·subst ey
  cases (show u=YL b from ry)
  obtain ⟨z,hd,xs,rel,dd⟩:=dt_rd I.hok e
  obtain ⟨w',hw,rw'⟩:=RelO.some_of (v:=v) (o:=(atKey xs k).map (·.2)) (by rw[l];exact rel.val k)
  obtain ⟨p,hp,hp2⟩:=WR.mp hw
  refine wpAny_getItem_heap (tupleKind_room_in1 hu) (key_of I.hok eb) dd hp ?_
  rw[hp2]
  exact h w' _ (I.tok _) rw'
end
theorem dict_typeIs {X:Cx}{pins:1e8}{σ:St}{H:Hp}{s:Shared}{a:Addr}{y:V}{o:Option V}(I:2e1)(g:DGet H a y o):s.TypeIs (.ref a) "dict":=by
 rcases g with ⟨kvs,k,e,_,_⟩ | ⟨kvs,k,b,e,_,_,_⟩
 ·obtain ⟨_,_,vs,_,dd⟩:=dk_rd I.hok e
  exact dd.typeIs
 ·obtain ⟨_,_,xs,_,dd⟩:=dt_rd I.hok e
  exact dd.typeIs
theorem dk_empty {P:Yl}{w:World}{H:Hp}(h:Heap)(hb:Wf < h.objs.size):ObjOk P w H (h.push { cls:=.type "dict",data:=.dict #[] }) h.objs.size (.dK []):=
 ⟨Wm _,beq_eq_false_iff_ne.mpr (Xd (YB hb)),[],.nil,Heap.DictOf.new h⟩
def tDNewK:TE:=fun _ H Q=>∀p,H p=none->Q (.ref p) (upd H p (.dK []))
section
variable {X:Cx}{pos:Pos}
theorem pe_dnewK:PE X (.Dict [] [] pos) tDNewK:=fun pins s σ H Q I h=>
 wpAny_Dict_empty ⟨.ref s.heap.objs.size,_,I.laid (a:=s.heap.objs.size) (o:=.dK []) (t':=s.toks) (fun _ _ q=>Yc _ q) (Yo _) (dk_empty s.heap I.big),rfl,h _ (I.hok.fresh (Yo _))⟩
end
def IsD (H:Hp)(a:Addr):Prop:=(∃kvs,Rd H a (.dK kvs))\/∃kvs,Rd H a (.dT kvs)
theorem isD_at {X:Cx}{pins:1e8}{σ:St}{H:Hp}{s:Shared}{a:Addr}(I:2e1)(d:IsD H a):
  s.TypeIs (.ref a) "dict"/\(∀b,YL a=.ref b->∃ob,s.heap.get? b=some ob/\ob.dict=none)/\(a==Wf)=false:=by
 rcases d with ⟨kvs,e⟩ | ⟨kvs,e⟩
 ·obtain ⟨_,hd,vs,_,dd⟩:=dk_rd I.hok e
  refine ⟨dd.typeIs,fun b q=>?_,hd⟩
  cases q
  obtain ⟨ob,_,_,h1,h2,_⟩:=dd
  exact ⟨ob,h1,h2.2.1⟩
 ·obtain ⟨_,hd,xs,_,dd⟩:=dt_rd I.hok e
  refine ⟨dd.typeIs,fun b q=>?_,hd⟩
  cases q
  obtain ⟨ob,_,_,h1,h2,_⟩:=dd
  exact ⟨ob,h1,h2.2.1⟩
noncomputable def clFrom (cells:10e4):List (Str×WG)->List (Str×Addr)->List (Str×Addr)
  | [],cs=>cs
  | (n,k)::r,cs=>clFrom cells r (if k=.free then (n,(cells.lookup n).getD 0)::cs else cs)
theorem ZcU {cells:10e4}:∀{names:List (Str×WG)} {cs:10e4},(∀y∈names,y.2=.free->∃c,cells.lookup y.1=some c)->(∀x c,cs.lookup x=some c->cells.lookup x=some c)->
    ∀x c,(clFrom cells names cs).lookup x=some c->cells.lookup x=some c
  | [],_,_,h,x,c,e=>h x c e
  | (n,k)::r,cs,hn,h,x,c,e=>by
    unfold clFrom at e
    refine ZcU (fun y hy=>hn y (Yw _ hy)) (fun y d q=>?_) x c e
    by_cases hk:k=.free
    · rw[if_pos hk] at q
      obtain ⟨c',hc'⟩:=hn (n,k) YT hk
      rw[YA] at q
      by_cases hy:y==n
      · rw[hy] at q
        have:y=n:=by simpa using hy
        subst this
        rw[show cells.lookup y=some c' from hc'] at q ⊢
        simpa using q
      · have hy':(y==n)=false:=by simpa using hy
        rw[hy'] at q
        exact h y d q
    · rw[if_neg hk] at q
      exact h y d q
theorem Zce {cells:10e4}{x:Str}:∀{names:List (Str×WG)} {cs:10e4},(∃c,cs.lookup x=some c)->∃c,(clFrom cells names cs).lookup x=some c
  | [],_,h=>h
  | (n,k)::r,cs,h=>by
    unfold clFrom
    refine Zce ?_
    by_cases hk:k=.free
    · rw[if_pos hk,YA]
      by_cases hy:x==n
      · rw[hy];exact 8e8
      · have hy':(x==n)=false:=by simpa using hy
        rw[hy'];exact h
    · rw[if_neg hk];exact h
theorem Zb8 {cells:10e4}{x:Str}:∀{names:List (Str×WG)} {cs:10e4},(x,Xb)∈names->∃c,(clFrom cells names cs).lookup x=some c
  | [],_,h=>nomatch h
  | (n,k)::r,cs,h=>by
    unfold clFrom
    rcases Yg.mp h with e | h
    · cases e
      refine Zce ?_
      rw[if_pos rfl,YA]
      simp
    · exact Zb8 h
theorem ZbD {env:Env}{scope:Scope}(h:∀y∈scope.names,y.2=.free->∃c,env.cells.lookup y.1=some c):closureFor scope env=pure (clFrom env.cells scope.names []):=by
 simp only[closureFor]
 have key:∀(names:List (Str×WG)) (cs:10e4),(∀y∈names,y.2=.free->∃c,env.cells.lookup y.1=some c)->
   (forIn names cs fun x r=>if (x.2==Xb)=true then do let a ←cellOf env x.1;pure (Wn ((x.1,a)::r)) else pure (Wn r):Sem (List (Str×Addr)))=pure (clFrom env.cells names cs):=by
  intro names
  induction names with
  | nil=>intro cs _;rfl
  | cons y r ih=>
   intro cs hn
   obtain ⟨n,k⟩:=y
   rw[V2]
   by_cases hk:k=.free
   ·obtain ⟨c,hc⟩:=hn (n,k) YT hk
    have hc':env.cells.lookup n=some c:=hc
    subst hk
    have e1:cellOf env n=pure c:=by unfold cellOf;rw[hc']
    show (_ >>= _)=_
    simp only[beq_self_eq_true,if_true,e1]
    unfold clFrom
    rw[if_pos rfl,hc']
    exact ih _ fun y hy=>hn y (Yw _ hy)
   ·have e2:(k==Xb)=false:=by simpa using hk
    show (_ >>= _)=_
    simp only[e2,WK,if_false]
    unfold clFrom
    rw[if_neg hk]
    exact ih _ fun y hy=>hn y (Yw _ hy)
 rw[key scope.names [] h]
 rfl
section
variable {prog:Yl}{w:World}{A:Around}{R:11e7}{s:Shared}
abbrev Out (prog:Yl)(w:World)(A:Around)(env:Env)(R:11e7):Value->Shared->Prop:=notedBy 4e1 A env fun e s'=>R (.error e) s'
noncomputable abbrev testsOf (env:Env)(ifs:4e5):Sem Bool:=forIn ifs true fun c r=>if r=true then do let ok ←isTrue c env (eval c env);pure (Wn ok) else pure (Wn r)
theorem Zcd {elt target iter:Expr}{ifs:4e5}{scope:Scope}{pos:Pos}{it acc:Value}{env:Env}(I:Nat->Shared->Prop)
  (turn:∀k z,I k z->wpAny 4e1 A (pyNext it) (fun r z1=>match r with
   | none=>R (.ok .next) z1
   | some v=>wpAny 4e1 A (XE target it v) (fun _ z2=>wpAny 4e1 A (assign target env v) (fun _ z3=>wpAny 4e1 A (testsOf env ifs) (fun yes z4=>
     if yes=true then wpAny 4e1 A (eval elt env) (fun x z5=>wpAny 4e1 A (call (.builtin "list.append") [acc,x]) (fun _ z6=>∃m,m < k/\I m z6) (Out prog w A env R) z5) (Out prog w A env R) z4
     else ∃m,m < k/\I m z4) (Out prog w A env R) z3) (Out prog w A env R) z2) (Out prog w A env R) z1) (Out prog w A env R) z)
  (n:Nat) (h:I n s):XG 4e1 A (.compLoop (.ListComp elt [⟨target,iter,ifs,0⟩] scope pos) 0 it acc env) R s:=by
 refine codeAny_loop rfl I ?_ n h
 intro k z hz
 refine wpAny_noted ?_
 rw[compTurn_list]
 apply Yb
 apply Xx
 apply Yb
 refine YK (turn k z hz) ?_ fun _ _ e=>e
 rintro (_ | v) z1 y1
 ·exact Yk y1
 apply Yb
 refine YK y1 (fun _ z2 y2=>?_) fun _ _ e=>e
 apply Yb
 refine YK y2 (fun _ z3 y3=>?_) fun _ _ e=>e
 apply Yb
 refine YK y3 (fun yes z4 y4=>?_) fun _ _ e=>e
 by_cases b:yes=true
 ·subst b
  apply Yb
  apply Yb
  refine YK y4 (fun x z5 y5=>?_) fun _ _ e=>e
  apply Yb
  exact YK y5 (fun _ z6 y6=>Yk (Yk ⟨rfl,y6⟩)) fun _ _ e=>e
 ·have nb:yes=false:=by simpa using b
  subst nb
  exact Yk ⟨rfl,y4⟩
end
def CompCx (X:Cx)(N':3e1)(scope:Scope)(C:Addr)(s₀:Shared)(H₀:Hp)(ex:2e9)(pn:1e8):Cx:=
 { X with N:=N',s₀:=s₀,H₀:=H₀,env:=Vv scope (clFrom X.env.cells scope.names []) C X.env,outer:=X.stack,ex:=ex,fn:=fun _=>false,pn:=pn,xe:=fun _ _=>False }
structure CSc (X:Cx)(scope:Scope)(vs fs:List Str)(fr:List Nat):Prop where
 kind:scope.kind=.function
 cell:(scope.names.all fun y=>y.2 != .cell)=true
 free:(scope.names.all fun y=>y.2 != .free||(X.env.kindOf y.1==some .cell||X.env.kindOf y.1==some .free))=true
 loc:(scope.names.all fun y=>y.2 != .local||scope.names.lookup y.1==some .local)=true
 fre:(scope.names.all fun y=>y.2 != .free||scope.names.lookup y.1==some .free)=true
 fsf:(fs.all fun x=>scope.names.lookup x==some .free)=true
 at':fr.map (fun i=>X.N[i]?)=fs.map some
def PTs (X:Cx)(ifs:4e5)(t:TT):Prop:=
 ∀(pins:1e8) (s:Shared) (σ:St) (H:Hp) (Q:Bool->Hp->Prop),Inv X pins σ H s->t σ H Q->
  wpAny 2e2 X.A (forIn ifs true fun c r=>if r=true then do let ok ←isTrue c X.env (eval c X.env);pure (Wn ok) else pure (Wn r)) (TP X pins σ Q) X.xe s
noncomputable def tYes:TT:=fun _ H Q=>Q true H
theorem pts_nil {X:Cx}:PTs X [] tYes:=fun _ _ _ H _ I h=>wpAny_tests_nil ⟨H,I,h⟩
theorem pts_one {X:Cx}{c:Expr}{t:TT}(h:PT X c t):PTs X [c] t:=fun pins s σ H Q I q=>wpAny_tests_one (h pins s σ H Q I q)
noncomputable def stIn (vs:3e1)(fr:9e2)(σ:St):St:=vs.map (fun _=>none)++fr.map fun i=>(σ[i]?).join
def CompW (J:It)(vs:3e1)(fr:9e2)(g:TG)(tt:TT)(te:TE)(σ:St)(H1:Hp)(Q:VK):Prop:=
 ∃W:Nat->Nat->St->List V->Hp->Prop,(∃m,W 0 m (stIn vs fr σ) [] H1)/\∀i m σ' ys H,W i m σ' ys H->
  (J.stop i H/\ys.length<=Yu/\∀D,H D=none->Q (.ref D) (upd H D (.lst ys)))\/
  (J.go i H/\ys.length<=Yu/\∃N:St->List V->Hp->Prop,(∀σ2 ys2 H2,N σ2 ys2 H2->∃m',m' < m/\W (i + 1) m' σ2 ys2 H2)/\∀x H',J.yld i H x H'->g x σ' H' fun σ2 H2=>tt σ2 H2 fun b H3=>
   if b=true then te σ2 H3 fun y H4=>N σ2 (ys++[y]) H4 else N σ2 ys H3)
noncomputable def tComp (wi:TI)(vs:3e1)(fr:9e2)(g:TG)(tt:TT)(te:TE):TE:=fun σ H Q=>wi σ H fun J H1=>CompW J vs fr g tt te σ H1 Q
section
variable {X:Cx}{tg elt iter:Expr}{ifs:4e5}{scope:Scope}{pos:Pos}{vs fs:3e1}{fr:9e2}
theorem mem_all {α:Type}{p:α->Bool}{l:List α}(h:l.all p=true){x:α}(hx:x∈l):p x=true:=YV.mp h x hx
theorem CSc.cell' (S:8e4):∀y∈scope.names,y.2≠.cell:=fun y hy e=>by have:=mem_all S.cell hy;rw[e] at this;simp at this
theorem CSc.free' (S:8e4):∀y∈scope.names,y.2=.free->X.env.kindOf y.1=some .cell\/X.env.kindOf y.1=some .free:=fun y hy e=>by
 have:=mem_all S.free hy;rw[e] at this;simpa using this
theorem CSc.loc' (S:8e4):∀y∈scope.names,y.2=.local->scope.names.lookup y.1=some .local:=fun y hy e=>by
 have:=mem_all S.loc hy;rw[e] at this;simpa using this
theorem lookup_mem {α β:Type} [BEq α] [LawfulBEq α]:∀{l:List (α×β)} {x:α} {k:β},l.lookup x=some k->(x,k)∈l
  | [],_,_,h=>by simp at h
  | (n,k')::r,x,k,h=>by
    rw[YA] at h
    cases e:x==n with
    | true=>rw[e] at h;cases h;rw[eq_of_beq e];exact YT
    | false=>rw[e] at h;exact Yw _ (lookup_mem h)
theorem Zbq {env:Env}{x:Str}:∀{names:List (Str×WG)} {k:WG},
    (names.map fun (n,k)=>if 12e4 then (n,Wa) else (n,k)).lookup x=some k->
    names.lookup x=some k\/(k=.cell/\names.lookup x=some .free)
  | [],_,h=>by simp at h
  | (n,k')::r,k,h=>by
    have ih:=@Zbq env x r k
    have h':List.lookup x ((if 7e2=true then (n,Wa) else (n,k'))::(r.map fun (n,k)=>if 12e4 then (n,Wa) else (n,k)))=some k:=h
    cases hx:x==n with
    | true=>
      by_cases hc:7e2=true
      · rw[if_pos hc] at h'
        simp only[YA,hx] at h' ⊢
        cases h'
        have:k'=.free:=by simp at hc;exact hc.1.1
        exact .inr ⟨rfl,by rw[this]⟩
      · rw[if_neg hc] at h'
        simp only[YA,hx] at h' ⊢
        exact .inl h'
    | false=>
      by_cases hc:7e2=true
      · rw[if_pos hc] at h'
        simp only[YA,hx] at h' ⊢
        exact ih h'
      · rw[if_neg hc] at h'
        simp only[YA,hx] at h' ⊢
        exact ih h'
theorem Zca {env:Env}{x:Str}:∀{names:List (Str×WG)},names.lookup x=some .free->
    let l:=(names.map fun (n,k)=>if 12e4 then (n,Wa) else (n,k)).lookup x
    l=some .cell\/l=some .free
  | [],h=>by simp at h
  | (n,k')::r,h=>by
    have ih:=@Zca env x r
    show List.lookup x ((if 7e2=true then (n,Wa) else (n,k'))::(r.map fun (n,k)=>if 12e4 then (n,Wa) else (n,k)))=some .cell\/
      List.lookup x ((if 7e2=true then (n,Wa) else (n,k'))::(r.map fun (n,k)=>if 12e4 then (n,Wa) else (n,k)))=some .free
    cases hx:x==n with
    | true=>
      simp only[YA,hx] at h
      have h:k'=.free:=Yz h
      by_cases hc:7e2=true
      · rw[if_pos hc,YA,hx];exact .inl rfl
      · rw[if_neg hc,YA,hx,h];exact .inr rfl
    | false=>
      simp only[YA,hx] at h
      by_cases hc:7e2=true
      · rw[if_pos hc];simp only[YA,hx];exact ih h
      · rw[if_neg hc];simp only[YA,hx];exact ih h
end
section
variable {X:Cx}{tg elt iter:Expr}{ifs:4e5}{scope:Scope}{pos:Pos}{vs fs:3e1}{fr:9e2}
theorem CSc.clos (S:8e4)(ok:X.Ok):∀y∈scope.names,y.2=.free->∃c,X.env.cells.lookup y.1=some c:=fun y hy e=>ok.has y.1 (S.free' y hy e)
theorem CSc.cl (S:8e4)(ok:X.Ok){x:Str}{c:Addr}(e:(clFrom X.env.cells scope.names []).lookup x=some c):X.env.cells.lookup x=some c:=
 ZcU (S.clos ok) (fun _ _ q=>by simp at q) x c e
theorem ZaC {h:Heap}{b:Addr}{o:Obj}{n:Nat}(e:h.get? b=some o)(hn:h.objs.size<=n):b≠n:=YB (Ym (Ys e) hn)
theorem Zb7 {pins:1e8}{σ:St}{H:Hp}{s:Shared}{fp:2e9}{C:Addr}{h1:Heap}{tk:Nat}{m1:1e5}(S:8e4)(I:2e1)
  (hf:∀b∈fp,FpOk X pins H b) (hfo:∀b∈fp,∃o,s.heap.get? b=some o) (hC:s.heap.objs.size<=C) (hn:h1.Ns C m1) (old:∀b o,s.heap.get? b=some o->h1.get? b=some o):
  Inv (CompCx X (vs++fs) scope C s H fp (X.pn++pins)) [] (stIn vs fr σ) H { s with heap:=h1,toks:=tk }:=by
 have cl:=fun x c e=>S.cl I.ok (x:=x) (c:=c) e
 have hsub:=I.stkSub
 have cellLt:∀x c,X.env.cells.lookup x=some c->c < s.heap.objs.size:=fun x c e=>by obtain ⟨v,q⟩:=I.cell x c e;exact q.lt
 refine ⟨⟨I.ok.mod,S.kind,I.ok.glob,I.ok.blt,hC,fun x y c e1 e2=>I.ok.inj x y c (cl x c e1) (cl y c e2),fun x hx=>?_,fun _ _ z _=>(nomatch z),I.ok.hd,I.ok.frames,.inl rfl,fun b hb=>?_,I.bs,Yv I.ok.bsz I.sz,fun b o e hb=>?_,fun b hb z=>?_,I.stack,I.stkFree⟩,
  rfl,I.bare,Un.kept old,⟨m1,hn,fun i x v e1 e2 e3=>?_⟩,fun x c e=>?_,I.hok.fresh hC,fun x c e=>I.freeC x c (cl x c e),fun p hp=>?_,I.hok.kept old,?_⟩
 ·-- has
  have hx':(relabel scope X.env).names.lookup x=some .cell\/(relabel scope X.env).names.lookup x=some .free:=hx
  have:scope.names.lookup x=some .free:=by
   rcases hx' with q | q
   ·rcases Zbq q with q | ⟨_,q⟩
    ·exact absurd rfl (S.cell' _ (lookup_mem q))
    ·exact q
   ·rcases Zbq q with q | ⟨q,_⟩
    ·exact q
    ·cases q
  exact Zb8 (lookup_mem this)
 ·-- exf
  obtain ⟨o,ho⟩:=hfo b hb
  obtain ⟨f0,f1,f2,f3,f4,f5⟩:=hf b hb
  exact ⟨ZaC ho hC,fun x c e=>f4 x c (cl x c e)⟩
 ·-- noex
  have e':=(I.ok.bs b o e).1
  obtain ⟨_,_,_,f3,_,_⟩:=hf b hb
  rcases f3 with z | z
  ·exact I.ok.noex b o e z
  ·exact absurd (Ym (Ys e') z) (Xo _)
 ·-- exfs
  obtain ⟨_,f1,f2,_⟩:=hf b hb
  rcases Yg.mp (hsub b z) with q | q
  ·exact f1 q
  ·exact f2 q
 ·-- loc
  have e1:(vs++fs)[i]? = some x:=e1
  unfold stIn at e2
  by_cases hi:i < vs.length
  ·rw[Yx (by simpa using hi)] at e2
   simp[hi] at e2
  ·rw[YR (by simpa using hi),YX,Y7] at e2
   rw[YR (by simpa using hi)] at e1
   obtain ⟨j,hj⟩:∃j,fr[i - vs.length]? = some j:=by
    cases q:fr[i - vs.length]? with
    | none=>rw[q] at e2;cases e2
    | some j=>exact ⟨j,rfl⟩
   rw[hj] at e2
   have e2':(σ[j]?).join=some v:=Yz e2
   have hσ:σ[j]? = some (some v):=by
    cases q:σ[j]? with
    | none=>rw[q] at e2';cases e2'
    | some r=>rw[q] at e2';exact congrArg some e2'
   have hN:X.N[j]? = some x:=by
    have:=congrArg (fun l=>l[i - vs.length]?) S.at'
    simp only[Y7,hj,e1,Xq] at this
    exact Yz this
   have hxf:scope.names.lookup x=some .free:=by
    have:=mem_all S.fsf (Y9 e1)
    simpa using this
   have hk:=S.free' _ (lookup_mem hxf) rfl
   obtain ⟨m,hm,hl⟩:=I.loc
   have hvis:Vis X.env.scope x:=by
    rcases hk with k | k
    ·exact .inr (.inl k)
    ·exact .inr (.inr k)
   obtain ⟨u,ru,lk⟩:=hl j x v hN hσ hvis
   refine ⟨u,ru,?_⟩
   rcases lk with ⟨k,_⟩ | ⟨_,c,hc,hv⟩
   ·have k':X.env.kindOf x=some .local:=k
    rcases hk with z | z
    ·have z':X.env.kindOf x=some .cell:=z
     rw[k'] at z';cases z'
    ·have z':X.env.kindOf x=some .free:=z
     rw[k'] at z';cases z'
   ·obtain ⟨c',hc'⟩:=Zb8 (cells:=X.env.cells) (cs:=[]) (lookup_mem hxf)
    have:=cl x c' hc'
    rw[hc] at this
    cases this
    refine .inr ⟨Zca hxf,c,hc',?_⟩
    obtain ⟨o,ho,hd⟩:=hv
    exact ⟨o,old c o ho,hd⟩
 ·-- cell
  obtain ⟨v,o,ho,hd⟩:=I.cell x c (cl x c e)
  exact ⟨v,o,old c o ho,hd⟩
 ·-- pin
  have hp':p∈X.pn++pins:=by simpa[CompCx] using hp
  obtain ⟨e,n,ne,nf,d⟩:=I.pin p hp'
  refine ⟨old _ _ e,n,ZaC e hC,fun z=>?_,d⟩
  rcases Yg.mp (hsub _ z) with q | q
  ·exact ne q
  ·exact nf q
 ·show (stIn vs fr σ).length=(vs++fs).length
  have:=congrArg List.length S.at'
  simp only[YX] at this
  unfold stIn
  simp[this]
theorem ZcS {pins:1e8}{σ σ':St}{H H':Hp}{s s':Shared}{fp:2e9}{C D:Addr}{ys:List V}{its:3e4}{n:Nat}{pl:1e8}(I:2e1)
  (hf:∀b∈fp,FpOk X pins H b) (J:Inv (CompCx X (vs++fs) scope C s H fp (X.pn++pins)) pl σ' H' s')
  (hD:s.heap.objs.size<=D) (hDn:H' D=none) (hl:ys.length<=Yu) (r:Vals ys its) (ho:s'.heap.get? D=some { cls:=.type "list",data:=.seq its.toArray n }):Inv X pins σ (upd H' D (.lst ys)) s':=by
 have ne:∀b o,s.heap.get? b=some o->b≠D:=fun b o e=>ZaC e hD
 have u:Un (frs X.stack) fp H H' s.heap s'.heap:=J.base
 refine I.call' (ch:=fp) J.os ⟨u.keep,u.slot,fun b o e q hx=>?_,u.there,fun b xs e=>?_,fun b o xs e=>?_,fun b ps e=>?_⟩ (fun b o e=>?_) J.bare fun b hb=>?_
 ·rw[Zao (ne b o e)];exact u.free b o e q hx
 ·rw[Zao (Zal (u.tups b xs e) hDn)];exact u.tups b xs e
 ·rw[Zao (Zal (u.frzs b o xs e) hDn)];exact u.frzs b o xs e
 ·obtain ⟨more,q⟩:=u.tbls b ps e
  exact ⟨more,by rw[Zao (Zal q hDn)];exact q⟩
 ·by_cases hb:b=D
  ·subst hb
   rw[Zau] at e;cases e
   exact ⟨hl,its,n,r,ho⟩
  ·rw[Zao hb] at e
   exact (J.hok b o e).stay (fun _ _ _ q=>q) (fun c q=>by rw[Zao (Zal q hDn)];exact q) fun c xs q=>by rw[Zao (Zal q hDn)];exact q
 ·obtain ⟨f0,f1,f2,f3,f4,f5⟩:=hf b hb
  exact ⟨f3,f1,f4,f5⟩
end
section
variable {X:Cx}{tg elt iter:Expr}{ifs:4e5}{scope:Scope}{pos:Pos}{vs fs:3e1}{fr:9e2}{g:TG}{tt:TT}{te:TE}
theorem Za5 {α:Type}{M:Model}{A:Around}{t:Sem α}{Q Q':α->Shared->Prop}{E:1e4}{s:Shared}(h:wpAny M A t Q (fun _ _=>False) s)(hQ:∀a s,Q a s->Q' a s):wpAny M A t Q' E s:=
 YK h hQ fun _ _ f=>Xl f
theorem comp_block {pins:1e8}{σ:St}{H:Hp}{s:Shared}{Q:VK}{it:Addr}{fp:2e9}{tn:Nat->Heap->Prop}{J:It}{RR:Value->Addr->Result->Shared->Prop}
  (S:8e4) (hc:10e2)
  (bG:14e5) (bT:12e8) (bE:∀C s₀ H₀ ex pn,PE 1e7 elt te)
  (I:2e1) (T:Turn X.prog X.w X.K tg J fp it tn) (st:tn 0 s.heap) (hf:∀b∈fp,FpOk X pins H b)
  (q:CompW J vs fr g tt te σ H Q)
  (hRR:∀D C H' s' m',Inv X pins σ H' s'->Q (.ref D) H'->s'.heap.Ns C m'->H' C=none->s.heap.objs.size<=C->RR (.ref D) C (.ok .next) s'):
  wpAny 2e2 X.A (newList []) (fun acc s₃=>wpAny 2e2 X.A (newFunctionEnv scope X.env.globals 9e7 [] X.env.qual none .none (some X.env)) (fun cenv s₄=>
   XG (model X.prog X.w) X.A (.compStart (.ListComp elt [⟨tg,iter,ifs,0⟩] scope pos) 0 (.ref it) acc { cenv with scope:=relabel scope X.env }) (RR acc cenv.locals) s₄) X.xe s₃) X.xe s:=by
 obtain ⟨W,⟨m0,w0⟩,turn⟩:=q
 refine Xm (Vb S.cell' (by intro y hy;simp at hy) (fun h₁ hns₁ hsb₁=>?_) S.kind)
 dsimp only at hns₁ hsb₁ ⊢
 generalize hH2:s.heap.push { cls:=.type "list",dict:=none,data:=.seq ([]:List Value).toArray }=H2 at hns₁ hsb₁ ⊢
 have hCs:H2.objs.size=s.heap.objs.size + 1:=by rw[←hH2,XB]
 have hDC:s.heap.objs.size≠H2.objs.size:=by rw[hCs];exact YB (VQ _)
 have hCle:s.heap.objs.size<=H2.objs.size:=by rw[hCs];exact VN _
 have old:∀b o,s.heap.get? b=some o->h₁.get? b=some o:=fun b o e=>hsb₁.extBut b o (ZaC e hCle) (Yc _ (hH2 ▸ Yc _ e))
 have hacc:h₁.get? s.heap.objs.size=some { cls:=.type "list",data:=.seq ([]:List Value).toArray 0 }:=hsb₁.extBut _ _ hDC (Yc _ (hH2 ▸ Yt _ rfl))
 have hfo:∀b∈fp,∃o,s.heap.get? b=some o:=fun b hb=>by obtain ⟨o,e,_⟩:=T.obj 0 _ st b hb;exact ⟨o,e⟩
 generalize hY:CompCx X (vs++fs) scope H2.objs.size s H fp (X.pn++pins)=Y
 have J0:Inv Y [] (stIn vs fr σ) H { s with heap:=h₁,toks:=s.toks + ([]:List (Str×Value)).length }:=by
  rw[←hY];exact Zb7 S I hf hfo hCle hns₁ old
 have hG:PG Y tg g:=by rw[←hY];exact bG _ _ _ _ _
 have hT:PTs Y ifs tt:=by rw[←hY];exact bT _ _ _ _ _
 have hE:PE Y elt te:=by rw[←hY];exact bE _ _ _ _ _
 have ePr:Y.prog=X.prog:=by rw[←hY];rfl
 have eW:Y.w=X.w:=by rw[←hY];rfl
 have eK:Y.K=X.K:=by rw[←hY];rfl
 have eA:Y.A=X.A:=by rw[←hY];rfl
 have eC:Y.calm=true:=by rw[←hY];exact hc
 have eEnv:Y.env=Vv scope 9e7 H2.objs.size X.env:=by rw[←hY];rfl
 have eL:Y.env.locals=H2.objs.size:=by rw[eEnv];rfl
 have eX:Y.xe=fun _ _=>False:=by rw[←hY];rfl
 have eS:Y.s₀=s:=by rw[←hY];rfl
 have eEx:Y.ex=fp:=by rw[←hY];rfl
 have eFs:Y.fs=frs X.stack:=by rw[←hY];rfl
 have ePn:Y.pn=X.pn++pins:=by rw[←hY];rfl
 have eCl:∀x c,Y.env.cells.lookup x=some c->X.env.cells.lookup x=some c:=fun x c e=>by
  rw[eEnv] at e;exact S.cl I.ok e
 have cellLt:∀x c,Y.env.cells.lookup x=some c->c≠s.heap.objs.size:=fun x c e=>by
  obtain ⟨v,z⟩:=I.cell x c (eCl x c e);exact YB z.lt
 have pnLt:∀p∈Y.pn,p.1≠s.heap.objs.size:=fun p hp=>by
  rw[ePn] at hp;exact ZaC (I.pin p hp).1 (Yo _)
 have fpD:∀b∈fp,b≠s.heap.objs.size:=fun b hb=>by obtain ⟨o,e⟩:=hfo b hb;exact ZaC e (Yo _)
 have hDfs:s.heap.objs.size∉Y.fs:=fun z=>by
  rw[eFs] at z
  rcases Yg.mp (I.stkSub _ z) with z | z
  ·exact absurd I.lt (by rw[←z];exact Xo _)
  ·exact I.nofs (Yo _) z
 have stat:∀{H':Hp} {o:Obj},8e9->∀b∈fp,FpOk Y [(s.heap.objs.size,o)] H' b:=fun {H' o} hn b hb=>by
  obtain ⟨f0,f1,f2,f3,f4,f5⟩:=hf b hb
  obtain ⟨ob,e⟩:=hfo b hb
  refine ⟨hn b hb,by rw[eL];exact ZaC e hCle,fun z=>?_,.inl (by rw[eEx];exact hb),fun x c e=>f4 x c (eCl x c e),fun p hp=>?_⟩
  ·rw[eFs] at z
   rcases Yg.mp (I.stkSub _ z) with z | z
   ·exact f1 z
   ·exact f2 z
  ·rcases YE.mp hp with hp | hp
   ·rw[ePn] at hp;exact f5 p hp
   ·have:p=(s.heap.objs.size,o):=by simpa using hp
    rw[this];exact Xd (fpD b hb)
 have pinD:∀{σ':St} {H':Hp} {s':Shared} {its:3e4} {k:Nat},Inv Y [] σ' H' s'->H' s.heap.objs.size=none->s'.heap.get? s.heap.objs.size=some { cls:=.type "list",data:=.seq its.toArray k }->
   Inv Y [4e3] σ' H' s':=fun {σ' H' s' its k} i hn e=>i.pins_of fun p hp=>by
  have:p=4e3:=by simpa using hp
  subst this
  exact ⟨e,hn,by rw[eL];exact hDC,hDfs,fun v z=>by cases z⟩
 have loop:∀s₃:Shared,s₃={ s with heap:=h₁,toks:=s.toks + ([]:List (Str×Value)).length }->
   XG 2e2 X.A (.compLoop 3e7 0 (.ref it) 11e0 (Vv scope 9e7 H2.objs.size X.env))
    (RR 11e0 H2.objs.size) s₃:=by
  rintro s₃ rfl
  rw[←eEnv,←ePr,←eW,←eA]
  refine Zcd (fun n s'=>∃i σ' ys its k H',Inv Y [4e3] σ' H' s'/\Vals ys its/\tn i s'.heap/\8e9/\W i n σ' ys H') ?_ m0
   ⟨0,_,[],[],0,H,pinD J0 (I.hok.fresh (Yo _)) hacc,.nil,T.keep _ _ _ st fun b _ o e=>old b o e,fun b hb=>(hf b hb).1,w0⟩
  rintro n s3 ⟨i,σ3,ys,its,k,H3,J3,rv,st3,fr3,w3⟩
  have pD:=J3.pin (s.heap.objs.size,_) (Yd _ (Xc.mpr rfl))
  have eI:=rv.length
  rcases turn i n σ3 ys H3 w3 with ⟨stop,hlen,qn⟩ | ⟨go,hlen,N,hN,step⟩
  ·have dn:=T.done Y ePr eW eK eC i _ s3 σ3 H3 (fun _ _=>False) J3 (stat fr3) st3 stop
   rw[←ePr,←eW] at dn
   refine Za5 dn fun r s4 h_=>?_
   obtain ⟨hr,J4⟩:=h_
   subst hr
   have pD4:=J4.pin (s.heap.objs.size,_) (Yd _ (Xc.mpr rfl))
   obtain ⟨m4,hm4,_⟩:=id J4.loc
   rw[eL] at hm4
   have nC:H3 H2.objs.size=none:=by rw[←eL];exact J4.free
   refine hRR _ _ _ s4 m4 (ZcS I hf (by rw[hY];exact J4) (Yo _) pD4.2.1 hlen rv pD4.1) (qn _ pD4.2.1) hm4 ?_ hCle
   rw[Zao (Xd hDC)];exact nC
  ·have im:=T.item Y ePr eW eK eC i _ s3 σ3 H3 (fun _ _=>False) J3 (stat fr3) st3 go
   rw[←ePr,←eW] at im
   refine Za5 im fun r s4 h_=>?_
   obtain ⟨u,hr,h4⟩:=h_
   subst hr
   sleep 12
   rw[eX] at go1
   refine Za5 go1 fun _ s6 h_=>?_
   obtain ⟨σ6,H6,J6,q6⟩:=h_
   have go2:=hT _ s6 σ6 H6 _ J6 q6
   rw[eX] at go2
   refine Za5 go2 fun ok s7 h_=>?_
   obtain ⟨H7,J7,q7⟩:=h_
   have fin:∀{σ8:St} {H8:Hp} {s8:Shared},Inv Y ([4e3]++pinsAt fp s5.heap) σ8 H8 s8->
     tn (i + 1) s8.heap/\(∀b∈fp,H8 b=none):=fun {σ8 H8 s8} J8=>by
    refine ⟨T.keep _ _ _ st5 fun b hb o e=>(J8.pin (b,o) (Yd _ (Yd _ (ZaO hb e)))).1,fun b hb=>?_⟩
    obtain ⟨o,e,d⟩:=T.obj _ _ st5 b hb
    exact (J8.pin (b,o) (Yd _ (Yd _ (ZaO hb e)))).2.1
   cases ok with
   | false=>
    rw[if_neg Yh] at q7 ⊢
    obtain ⟨m',hm,w7⟩:=hN _ _ _ q7
    exact ⟨m',hm,i + 1,σ6,ys,its,k,H7,J7.unpinned,rv,(fin J7).1,(fin J7).2,w7⟩
   | true=>
    rw[if_pos rfl] at q7 ⊢
    have go3:=hE _ s7 σ6 H7 _ J7 q7
    rw[eX] at go3
    refine Za5 go3 fun yv s8 h_=>?_
    obtain ⟨y,H8,J8,r8,n8⟩:=h_
    obtain ⟨m',hm,w8⟩:=hN _ _ _ n8
    have pD8:=J8.pin (s.heap.objs.size,_) (Yd _ (YH _ (Xc.mpr rfl)))
    refine append_at (hsz:=by rw[Yn,←eI];exact hlen) pD8.1 fun h9 hs9 hD9=>?_
    have J9:Inv Y [] σ6 H8 { s8 with heap:=h9 }:=(J8.pins_of (pins':=[]) fun p hp=>absurd hp (by simp)).turned (t':=s8.toks) (fun b o hb e=>(hs9.2 b hb).trans e) pD8.2.1 (by rw[eL];exact hDC)
     (.inr (by rw[eS];exact Yo _)) cellLt fun p hp=>pnLt p (by simpa using hp)
    refine ⟨m',hm,i + 1,σ6,ys++[y],its++[yv],k + 1,H8,pinD J9 pD8.2.1 (by rw[hD9,VC]),Vals.append rv (.cons r8 .nil),?_,(fin J8).2,w8⟩
    exact T.keep _ _ _ (fin J8).1 fun b hb o e=>(hs9.2 b (fpD b hb)).trans e
 exact codeAny_compStart_list (loop _ rfl) (T.self _ 0 _ _ _ (T.keep _ _ _ st fun b _ o e=>old b o e) (loop _ rfl))
theorem ps_comp {wi:TI}{i:Nat}{x:Str}{px spos:Pos}(hN:X.N.Nodup)(hx:7e9)(hl:11e4)
  (S:8e4) (hc:10e2) (hi:PI X tg iter wi)
  (bG:14e5) (bT:12e8) (bE:∀C s₀ H₀ ex pn,PE 1e7 elt te)
  (hsw:Xg 3e7 (some (.Name x px)) spos.line X.env=pure true:=by rfl)
  (hs:9e4:=by intro _;rfl):
  PS X (.Assign [.Name x px] 3e7 spos) (fun D σ H=>tComp wi vs fr g tt te σ H fun v H1=>D.nx (σ.set i (some v)) H1):=by
 intro pins s σ H D I h
 rw[W5 _ _ _ _ hsw]
 refine Yb (Xx (Yb ?_))
 show wpAny _ X.A (do let _ ←comprehension 3e7 scope X.env _ (newList []) false (eval iter X.env) (some 11e9)) _ _ s
 refine Yb (YK (X1 (use:=some 11e9) (Q:=fun _ s'=>SP X pins D .next s') rfl hs (ZbD (S.clos I.ok)) S.kind S.loc'
  (thn (hi pins s σ H _ I h) fun v s1 h1=>thn h1 fun itv s2 h2=>?_)) (fun _ s' hq=>Yk (Yk hq)) fun _ _ e=>e)
 obtain ⟨it,fp,tn,J,H2,e,I2,T,st2,f2,q2⟩:=h2
 subst e
 refine comp_block (RR:=fun acc C=>compPost 2e2 X.A X.xe (some 11e9) (fun _ s'=>SP X pins D .next s') acc C) (Q:=fun v H1=>D.nx (σ.set i (some v)) H1) S hc bG bT bE I2 T st2 f2 q2 ?_
 intro Dd C H' s' m' I' hq hn hC hle
 show wpAny _ X.A (assign (.Name x px) X.env (.ref Dd)) _ _ _
 have hCL:C≠X.env.locals:=XI (Ym I2.lt hle)
 have hCc:∀x c,X.env.cells.lookup x=some c->c≠C:=fun x c e=>by
  obtain ⟨v,z⟩:=I2.cell x c e
  exact YB (Ym z.lt hle)
 refine WX (ZbQ I' hN hx (.inl hl) (v:=.ref Dd) rfl (fun s'' I'' hch=>?_) (.inr hl))
 obtain ⟨a,hs'',ha⟩:=hch
 have hCa:C≠a:=by
  rcases ha with rfl | ha
  ·exact hCL
  ·exact Xd (hCc x a ha)
 refine ⟨m',hn.sameBut hs'' hCa,fun h' hs'=>⟨σ.set i (some (.ref Dd)),H',?_,hq⟩⟩
 refine I''.turned (t':=s''.toks) (fun b o hb e=>(hs'.2 b hb).trans e) hC hCL (.inr (Yv I2.sz hle)) hCc ?_
 intro p hp
 exact ZaC (I2.pin p hp).1 hle
end
section
variable {X:Cx}
noncomputable def Its (z:Str):It:=⟨fun i _=>i < z.cps.size,fun i H x H'=>H'=H/\∃c,z.cps[i]? = some c/\x=.str ⟨#[c]⟩,fun i _=>i=z.cps.size⟩
theorem turn_str {P:Yl}{w:World}{K:W.Frag}{tg:Expr}{it:Addr}{z:Str}{t:Tok}{ty:String}(hty:ty="str_ascii_iterator"\/ty="str_iterator"):Turn P w K tg (Its z) [it] it (fun i h=>h.IsStrIter it ty z t i) where
 mem:=by simp
 obj:=fun i h st b hb=>by
  have e:b=it:=by simpa using hb
  subst e
  obtain ⟨o,e,c,d⟩:=st
  exact ⟨o,e,fun v z=>by rw[d] at z;cases z⟩
 keep:=fun i h h' st k=>by
  obtain ⟨o,e,c,d⟩:=st
  exact ⟨o,k it 3e2 o e,c,d⟩
 item:=by
  sleep 2
  sleep 13
  have fin:∀v h' tk,SignAt z i v->h'.IsStrIter it ty z t (i + 1)->(∀b o,b∉[it]->s.heap.get? b=some o->h'.get? b=some o)->
    ∃u,some v=some u/\wpAny 2e2 X.A (XE tg (.ref it) u) (fun _ s2=>∃x H',Inv X pins σ H' s2/\RelV x u/\(Its z).yld i H x H'/\s2.heap.IsStrIter it ty z t (i + 1)/\∀b∈[it],H' b=none) E { s with heap:=h',toks:=tk }:=fun v h' tk hv st' kk=>by
   obtain ⟨c,u,hcx,rfl⟩:=hv
   have I1:Inv X pins σ H { s with heap:=h',toks:=tk }:=I.turned (fun b o hb e=>kk b o (by simpa using hb) e) f0 f1 f3 f4 f5
   obtain ⟨o,e,oc,d⟩:=id st'
   refine ⟨_,rfl,go_of (s:={ s with heap:=h',toks:=tk }) e oc d (by rcases hty with rfl | rfl<;>decide) ⟨.str ⟨#[c]⟩,H,I1,⟨u,rfl⟩,⟨rfl,c,hcx,rfl⟩,st',fun b hb=>(hf b hb).1⟩⟩
  rcases hty with rfl | rfl
  ·exact (Walks.strAscii (prog:=X.prog) (w:=X.w) (I.ok.hd hc) it z t).item i s _ _ hg st fin
  ·exact (Walks.strWide (prog:=X.prog) (w:=X.w) (I.ok.hd hc) it z t).item i s _ _ hg st fin
 done:=by
  sleep 2
  sleep 13
  have hg:i=z.cps.size:=hg
  subst hg
  have fin:∀h' tk,(∀b o,b∉[it]->s.heap.get? b=some o->h'.get? b=some o)->(none:Option Value)=none/\Inv X pins σ H { s with heap:=h',toks:=tk }:=fun h' tk kk=>
   ⟨rfl,I.turned (fun b o hb e=>kk b o (by simpa using hb) e) f0 f1 f3 f4 f5⟩
  rcases hty with rfl | rfl
  ·exact (Walks.strAscii (prog:=X.prog) (w:=X.w) (I.ok.hd hc) it z t).done s _ _ st fin
  ·exact (Walks.strWide (prog:=X.prog) (w:=X.w) (I.ok.hd hc) it z t).done s _ _ st fin
 self:=fun _ _ _ _ _ st h=>by
  rcases hty with rfl | rfl
  ·exact wpAny_pyIter_striter_ascii st h
  ·exact wpAny_pyIter_striter_wide st h
theorem range_all (bs:List Bool):((XD bs.length).all fun i=>bs.getD i false)=bs.all id:=by
 rw[WD]
 simp only[YV,List.mem_range]
 constructor
 ·intro h b hb
  obtain ⟨i,hi,e⟩:=Wy hb
  have:=h i hi
  rw[Wr,Ye hi] at this
  subst e
  simpa using this
 ·intro h i hi
  rw[Wr,Ye hi]
  simpa using h _ (We hi)
theorem call_all_bl (hc:10e2):CallR X (.builtin "all") (fun xs H Q=>∃(a:Addr) (bs:List Bool),xs=[.ref a]/\SqL X.K H a (bs.map V.bl)/\Q (.bl (bs.all id)) H):=by
 intro pins s σ H xs us Q I r h
 obtain ⟨a,bs,rfl,hq,q⟩:=h
 obtain ⟨u,rfl,ru⟩:=Vals.one r
 cases (show u=YL a from ru)
 obtain ⟨its,rv,p,hz⟩:=I.list hq
 have hlt:a < s.heap.objs.size:=by obtain ⟨o,e,_⟩:=p.isList;exact Ys e
 refine call_all_walk (VD p.isList ?_)
 have hlen:its.toArray.size=bs.length:=by have:=rv.length;simp at this;simp[this]
 refine ⟨s.heap.objs.size,_,_,its.toArray.size,_,_,fun i=>bs.getD i false,rfl,Walks.list (by exact I.ok.hd hc) s.heap.objs.size a (YB hlt) its.toArray,⟨⟨_,Yt _ rfl,rfl,rfl⟩,p.isList.push _⟩,?_,?_⟩
 ·intro i v s' Q' E' hv hQ'
  have hi:i < bs.length:=by
   rw[←hlen]
   exact (Xv.mp hv).1
  obtain ⟨u,e1,r1⟩:=rv.get (i:=i) (x:=V.bl bs[i]) (by simp[hi])
  have e2:its[i]? = some v:=by simpa using hv
  rw[e1] at e2
  have e3:u=v:=Yz e2
  have e4:u=Vi bs[i]:=r1
  rw[←e3,e4]
  refine Xk ?_
  have:bs.getD i false=bs[i]:=by rw[Wr,Ye hi];rfl
  have hQ2:Q' (bs.getD i false) s':=hQ'
  rw[this] at hQ2
  exact hQ2
 ·intro h' tk kk
  refine ⟨.bl _,H,I.kept fun b o e=>kk b o (fun z=>?_) (Yc _ e),?_,q⟩
  ·have:b=s.heap.objs.size:=by simpa using z
   exact absurd this (YB (Ys e))
  ·show Vi _=Vi _
   rw[hlen,range_all]
theorem Zc1:∀{ys:3e1} {us:3e4},Vals (ys.map V.str) us->StrsAre us ys
 | [],_,.nil=>.nil
 | _::_,_,.cons r t=>by
  obtain ⟨k,rfl⟩:=r
  exact .cons _ _ (Zc1 t)
theorem mt_join:MtR X "str.join" (fun x xs H Q=>∃(z:Str) (p:Addr) (ys:3e1),x=.str z/\xs=[.ref p]/\SqL X.K H p (ys.map V.str)/\(ys.map (·.length)).sum + ys.length * z.length<=16777216/\Q (.str (Txt.join z ys)) H):=by
 intro pins s σ H x xs v us Q I rx rs h
 obtain ⟨z,p,ys,rfl,rfl,hq,hw,q⟩:=h
 sleep 8
 obtain ⟨u,rfl,ru⟩:=Vals.one rs
 cases (show u=YL p from ru)
 obtain ⟨its,rv,pl,hz⟩:=I.list hq
 exact join_list pl.isList (Zc1 (by simpa using rv)) hw fun t' k=>⟨.str _,H,I.tok k,⟨t',rfl⟩,q⟩
end
end L2
namespace Se
open PySem PySem.SetTable
noncomputable def adv (mask:Nat)(p:Probe):Probe:=
 if p.more > 0 then { p with j:=p.j + 1,more:=p.more - 1 } else
 { p with j:=(leap mask p.i p.perturb).1,more:=runEnd mask (leap mask p.i p.perturb).1 - (leap mask p.i p.perturb).1,i:=(leap mask p.i p.perturb).1,perturb:=(leap mask p.i p.perturb).2 }
def it (mask:Nat):Nat->Probe->Probe
 | 0,p=>p
 | n + 1,p=>it mask n (adv mask p)
noncomputable def inRun (mask i d pt:Nat):Probe:={ j:=i + d,more:=runEnd mask i - i - d,i:=i,perturb:=pt,dummy:=none }
noncomputable def len (mask i:Nat):Nat:=runEnd mask i - i
noncomputable def lp (mask:Nat):Nat->Nat×Nat->Nat×Nat
 | 0,p=>p
 | n + 1,p=>lp mask n (leap mask p.1 p.2)
noncomputable def f (mask i:Nat):Nat:=(i * 5 + 1) % (mask + 1)
def fk (mask:Nat):Nat->Nat->Nat
 | 0,i=>i
 | n + 1,i=>fk mask n (f mask i)
def Mk (mask:Nat):Prop:=mask=7\/mask=31\/mask=127\/mask=511
def Rising (xs:Array Nat):Prop:=∀(a b:Nat) (x y:Nat),a < b->xs[a]? = some x->xs[b]? = some y->x < y
def start (mask:Nat)(h:Int):Probe:=inRun mask (bits h % (mask + 1)) 0 (bits h)
structure T0 (t:SetTable)(es:Array (Int×Value)):Prop where
 mm:Mk t.mask
 dm:t.dummies=#[]
 rs:Rising t.place
 sz:t.place.size=es.size
 lt:∀i j:Nat,t.place[i]? = some j->j < t.mask + 1
 rc:∀(i j:Nat) (e:Int×Value),t.place[i]? = some j->es[i]? = some e->∃n,(it t.mask n (start t.mask e.1)).j=j/\∀m,m < n->∃i':Nat,t.place[i']? = some (it t.mask m (start t.mask e.1)).j
structure TI (t:SetTable)(es:Array (Int×Value)):Prop extends T0 t es where
 fl:es.size * 5 < t.mask * 3
noncomputable def own (owner:Array (Option Nat))(j:Nat):Option Nat:=owner.getD j (some 0)
end Se
namespace Pu
open PySem PySem.Spec PyProof.Rows L2
inductive PV where
 | non | bl (b:Bool) | int (i:Int) | str (x:Str) | tup (xs:List PV) | lst (xs:List PV) | dct (ks vs:List PV) | dtt (ks:List (List Key)) (vs:List PV) | fn (a:Addr) | ty (n:String)
noncomputable def kP:Key->PV
 | .inl i=>.int i
 | .inr x=>.str x
def LsR (K:W.Frag)(ι:2e9)(H:Hp)(a:Addr)(vs:List V):Prop:=
 (a∉ι/\Rd H a (.lst vs))\/
  ∃(o:Obj) (its:Array Value) (n:Nat),K.lookup a=some o/\o.cls=.type "list"/\o.dict=none/\o.data=.seq its n/\its.size<=Yu/\Vals vs its.toList
theorem LsR.sq {K:W.Frag}{ι:2e9}{H:Hp}{a:Addr}{vs:List V}(h:LsR K ι H a vs):SqL K H a vs:=by
 rcases h with ⟨_,h⟩ | h
 ·exact .inl h
 ·exact .inr h
def TpR (H:Hp)(a:Addr)(vs:List V):Prop:=H a=some (.tup vs)
theorem TpR.sq {K:W.Frag}{H:Hp}{a:Addr}{vs:List V}(h:TpR H a vs):SqT K H a vs:=.inl (.inl h)
mutual
noncomputable def Rep (K:W.Frag)(ι:2e9)(H:Hp):PV->V->Prop
 | .non,v=>v=.non
 | .bl b,v=>v=.bl b
 | .int i,v=>v=.int i
 | .str x,v=>v=.str x/\x.length<=Yu
 | .tup ps,v=>∃a vs,v=.ref a/\TpR H a vs/\Reps K ι H ps vs
 | .lst ps,v=>∃a vs,v=.ref a/\LsR K ι H a vs/\Reps K ι H ps vs
 | .dct ks ps,v=>∃(a:Addr) (qs:List Key) (vs:List V),v=.ref a/\a∉ι/\H a=some (.dK (qs.zip vs))/\qs.length=vs.length/\ks=qs.map kP/\Reps K ι H ps vs
 | .dtt ks ps,v=>∃(a:Addr) (vs:List V),v=.ref a/\a∉ι/\Rd H a (.dT (ks.zip vs))/\ks.length=vs.length/\Reps K ι H ps vs
 | .fn a,v=>v=.ref a
 | .ty n,v=>v=.ty n
noncomputable def Reps (K:W.Frag)(ι:2e9)(H:Hp):List PV->List V->Prop
 | [],vs=>vs=[]
 | p::ps,vs=>∃v r,vs=v::r/\Rep K ι H p v/\Reps K ι H ps r
end
inductive SV where
 | v (p:PV) | c (k:Nat)
abbrev Cs:=List PV
def RepS (K:W.Frag)(ι:2e9)(H:Hp):SV->V->Prop
 | .v p,x=>Rep K ι H p x
 | .c k,x=>∃a,x=.ref a/\ι[k]? = some a
def RepSs (K:W.Frag)(ι:2e9)(H:Hp):List SV->List V->Prop
 | [],vs=>vs=[]
 | p::ps,vs=>∃v r,vs=v::r/\RepS K ι H p v/\RepSs K ι H ps r
def CellOk (K:W.Frag)(ι:2e9)(H:Hp)(a:Addr):PV->Prop
 | .lst ps=>∃vs,H a=some (.lst vs)/\Reps K ι H ps vs
 | .dct ks ps=>∃(qs:List Key) (vs:List V),H a=some (.dK (qs.zip vs))/\qs.length=vs.length/\ks=qs.map kP/\Reps K ι H ps vs
 | .dtt ks ps=>∃(vs:List V),H a=some (.dT (ks.zip vs))/\ks.length=vs.length/\Reps K ι H ps vs
 | _=>False
structure CR (K:W.Frag)(ι:List Addr)(H:Hp)(C:Cs):Prop where
 len:ι.length=C.length
 nd:ι.Nodup
 ok:∀(k:Nat) (a:Addr) (c:PV),ι[k]? = some a->C[k]? = some c->CellOk K ι H a c
def Fr (ι:2e9)(H H':Hp):Prop:=∀b o,b∉ι->H b=some o->H' b=some o
theorem Fr.refl {ι:2e9}{H:Hp}:Fr ι H H:=fun _ _ _ h=>h
theorem Fr.trans {ι:2e9}{H H1 H2:Hp}(a:Fr ι H H1)(b:Fr ι H1 H2):Fr ι H H2:=fun c o n h=>b c o n (a c o n h)
theorem Fr.new {ι:2e9}{H:Hp}{p:Addr}{o:HO}(h:H p=none):Fr ι H (upd H p o):=fun b u _ e=>by rw[Zao (Zal e h)];exact e
section
variable {K:W.Frag}{ι:2e9}{H H':Hp}{C:Cs}
theorem CR.at' (cr:10e8){a:Addr}(h:a∈ι):∃(k:Nat) (c:PV),ι[k]? = some a/\C[k]? = some c/\CellOk K ι H a c:=by
 obtain ⟨k,hk,e⟩:=Wy h
 have h1:ι[k]? = some a:=by rw[Ye hk,e]
 have hk2:k < C.length:=by rw[←cr.len];exact hk
 exact ⟨k,C[k],h1,Ye hk2,cr.ok k a _ h1 (Ye hk2)⟩
theorem CR.mut (cr:10e8){a:Addr}(h:a∈ι):(∃vs,H a=some (.lst vs))\/(∃kvs,H a=some (.dK kvs))\/∃kvs,H a=some (.dT kvs):=by
 obtain ⟨k,c,_,_,ok⟩:=cr.at' h
 cases c with
 | lst ps=>obtain ⟨vs,e,_⟩:=ok;exact .inl ⟨vs,e⟩
 | dct ks ps=>obtain ⟨qs,vs,e,_⟩:=ok;exact .inr (.inl ⟨_,e⟩)
 | dtt ks ps=>obtain ⟨vs,e,_⟩:=ok;exact .inr (.inr ⟨_,e⟩)
 | _=>exact ok.elim
theorem CR.notup (cr:10e8){a:Addr}{o:HO}(e:H a=some o)(h1:∀vs,o≠.lst vs)(h2:∀kvs,o≠.dK kvs)(h3:∀kvs,o≠.dT kvs:=by intro kvs z;cases z):a∉ι:=fun h=>by
 rcases cr.mut h with ⟨vs,z⟩ | ⟨kvs,z⟩ | ⟨kvs,z⟩
 ·rw[e] at z;exact h1 vs (Yz z)
 ·rw[e] at z;exact h2 kvs (Yz z)
 ·rw[e] at z;exact h3 kvs (Yz z)
theorem tpR_mono (cr:10e8)(fr:Fr ι H H'){a:Addr}{vs:List V}(h:TpR H a vs):TpR H' a vs:=
 fr _ _ (cr.notup h (fun _ e=>nomatch e) fun _ e=>nomatch e) h
theorem LsR.mono (fr:Fr ι H H'){a:Addr}{vs:List V}(h:LsR K ι H a vs):LsR K ι H' a vs:=by
 rcases h with ⟨n,h | ⟨o,h⟩⟩ | h
 ·exact .inl ⟨n,.inl (fr _ _ n h)⟩
 ·exact .inl ⟨n,.inr ⟨o,fr _ _ n h⟩⟩
 ·exact .inr h
theorem rd_mono {a:Addr}{u:HO}(k:∀o,H a=some o->H' a=some o)(h:Rd H a u):Rd H' a u:=by
 rcases h with h | ⟨o,h⟩
 ·exact .inl (k _ h)
 ·exact .inr ⟨o,k _ h⟩
mutual
theorem Rep.mono (cr:10e8)(fr:Fr ι H H'):∀(p:PV) (v:V),Rep K ι H p v->Rep K ι H' p v
 | .non,v,h=>by unfold Rep at h ⊢;exact h
 | .bl b,v,h=>by unfold Rep at h ⊢;exact h
 | .int i,v,h=>by unfold Rep at h ⊢;exact h
 | .str x,v,h=>by unfold Rep at h ⊢;exact h
 | .tup ps,v,h=>by
  unfold Rep at h ⊢
  obtain ⟨a,vs,e,sq,r⟩:=h
  exact ⟨a,vs,e,tpR_mono cr fr sq,Reps.mono cr fr ps vs r⟩
 | .lst ps,v,h=>by
  unfold Rep at h ⊢
  obtain ⟨a,vs,e,sq,r⟩:=h
  exact ⟨a,vs,e,sq.mono fr,Reps.mono cr fr ps vs r⟩
 | .dct ks ps,v,h=>by
  unfold Rep at h ⊢
  obtain ⟨a,qs,vs,e,n,hd,hl,hk,r⟩:=h
  exact ⟨a,qs,vs,e,n,fr _ _ n hd,hl,hk,Reps.mono cr fr ps vs r⟩
 | .dtt ks ps,v,h=>by
  unfold Rep at h ⊢
  obtain ⟨a,vs,e,n,hd,hl,r⟩:=h
  exact ⟨a,vs,e,n,rd_mono (fun o e=>fr _ o n e) hd,hl,Reps.mono cr fr ps vs r⟩
 | .fn a,v,h=>by unfold Rep at h ⊢;exact h
 | .ty n,v,h=>by unfold Rep at h ⊢;exact h
theorem Reps.mono (cr:10e8)(fr:Fr ι H H'):∀(ps:List PV) (vs:List V),Reps K ι H ps vs->Reps K ι H' ps vs
 | [],vs,h=>by unfold Reps at h ⊢;exact h
 | p::ps,vs,h=>by
  unfold Reps at h ⊢
  obtain ⟨v,r,e,h1,h2⟩:=h
  exact ⟨v,r,e,Rep.mono cr fr p v h1,Reps.mono cr fr ps r h2⟩
end
theorem RepS.mono (cr:10e8)(fr:Fr ι H H'){s:SV}{v:V}(h:RepS K ι H s v):RepS K ι H' s v:=by
 cases s with
 | v p=>exact Rep.mono cr fr p v h
 | c k=>exact h
mutual
theorem Rep.stay (sm:∀b o,H b=some o->H' b=some o):∀(p:PV) (v:V),Rep K ι H p v->Rep K ι H' p v
 | .non,v,h=>by unfold Rep at h ⊢;exact h
 | .bl b,v,h=>by unfold Rep at h ⊢;exact h
 | .int i,v,h=>by unfold Rep at h ⊢;exact h
 | .str x,v,h=>by unfold Rep at h ⊢;exact h
 | .tup ps,v,h=>by
  unfold Rep at h ⊢
  obtain ⟨a,vs,e,sq,r⟩:=h
  exact ⟨a,vs,e,sm _ _ sq,Reps.stay sm ps vs r⟩
 | .lst ps,v,h=>by
  unfold Rep at h ⊢
  obtain ⟨a,vs,e,sq,r⟩:=h
  exact ⟨a,vs,e,sq.mono (fun b o _ e=>sm b o e),Reps.stay sm ps vs r⟩
 | .dct ks ps,v,h=>by
  unfold Rep at h ⊢
  obtain ⟨a,qs,vs,e,n,hd,hl,hk,r⟩:=h
  exact ⟨a,qs,vs,e,n,sm _ _ hd,hl,hk,Reps.stay sm ps vs r⟩
 | .dtt ks ps,v,h=>by
  unfold Rep at h ⊢
  obtain ⟨a,vs,e,n,hd,hl,r⟩:=h
  exact ⟨a,vs,e,n,rd_mono (fun o e=>sm _ o e) hd,hl,Reps.stay sm ps vs r⟩
 | .fn a,v,h=>by unfold Rep at h ⊢;exact h
 | .ty n,v,h=>by unfold Rep at h ⊢;exact h
theorem Reps.stay (sm:∀b o,H b=some o->H' b=some o):∀(ps:List PV) (vs:List V),Reps K ι H ps vs->Reps K ι H' ps vs
 | [],vs,h=>by unfold Reps at h ⊢;exact h
 | p::ps,vs,h=>by
  unfold Reps at h ⊢
  obtain ⟨v,r,e,h1,h2⟩:=h
  exact ⟨v,r,e,Rep.stay sm p v h1,Reps.stay sm ps r h2⟩
end
mutual
theorem Rep.cells {ι':2e9}(hs:∀b o,H b=some o->b∉ι->b∉ι'):∀(p:PV) (v:V),Rep K ι H p v->Rep K ι' H p v
 | .non,v,h=>by unfold Rep at h ⊢;exact h
 | .bl b,v,h=>by unfold Rep at h ⊢;exact h
 | .int i,v,h=>by unfold Rep at h ⊢;exact h
 | .str x,v,h=>by unfold Rep at h ⊢;exact h
 | .tup ps,v,h=>by
  unfold Rep at h ⊢
  obtain ⟨a,vs,e,sq,r⟩:=h
  exact ⟨a,vs,e,sq,Reps.cells hs ps vs r⟩
 | .lst ps,v,h=>by
  unfold Rep at h ⊢
  obtain ⟨a,vs,e,sq,r⟩:=h
  refine ⟨a,vs,e,?_,Reps.cells hs ps vs r⟩
  rcases sq with ⟨n,q | ⟨o,q⟩⟩ | q
  ·exact .inl ⟨hs _ _ q n,.inl q⟩
  ·exact .inl ⟨hs _ _ q n,.inr ⟨o,q⟩⟩
  ·exact .inr q
 | .dct ks ps,v,h=>by
  unfold Rep at h ⊢
  obtain ⟨a,qs,vs,e,n,hd,hl,hk,r⟩:=h
  exact ⟨a,qs,vs,e,hs _ _ hd n,hd,hl,hk,Reps.cells hs ps vs r⟩
 | .dtt ks ps,v,h=>by
  unfold Rep at h ⊢
  obtain ⟨a,vs,e,n,hd,hl,r⟩:=h
  exact ⟨a,vs,e,by rcases id hd with q | ⟨o,q⟩<;>exact hs _ _ q n,hd,hl,Reps.cells hs ps vs r⟩
 | .fn a,v,h=>by unfold Rep at h ⊢;exact h
 | .ty n,v,h=>by unfold Rep at h ⊢;exact h
theorem Reps.cells {ι':2e9}(hs:∀b o,H b=some o->b∉ι->b∉ι'):∀(ps:List PV) (vs:List V),Reps K ι H ps vs->Reps K ι' H ps vs
 | [],vs,h=>by unfold Reps at h ⊢;exact h
 | p::ps,vs,h=>by
  unfold Reps at h ⊢
  obtain ⟨v,r,e,h1,h2⟩:=h
  exact ⟨v,r,e,Rep.cells hs p v h1,Reps.cells hs ps r h2⟩
end
theorem Reps.nil:Reps K ι H [] []:=by unfold Reps;rfl
theorem Reps.cons {p:PV}{v:V}{ps:List PV}{vs:List V}(h:Rep K ι H p v)(t:Reps K ι H ps vs):Reps K ι H (p::ps) (v::vs):=by unfold Reps;exact ⟨v,vs,rfl,h,t⟩
theorem Reps.inv {p:PV}{ps:List PV}{vs:List V}(h:Reps K ι H (p::ps) vs):∃v r,vs=v::r/\Rep K ι H p v/\Reps K ι H ps r:=by unfold Reps at h;exact h
theorem Reps.inv0 {vs:List V}(h:Reps K ι H [] vs):vs=[]:=by unfold Reps at h;exact h
theorem Reps.length:∀{ps:List PV} {vs:List V},Reps K ι H ps vs->ps.length=vs.length
 | [],vs,h=>by rw[h.inv0];rfl
 | p::ps,vs,h=>by obtain ⟨v,r,rfl,_,t⟩:=h.inv;rw[YD,YD,t.length]
theorem Reps.append:∀{ps qs:List PV} {vs ws:List V},Reps K ι H ps vs->Reps K ι H qs ws->Reps K ι H (ps++qs) (vs++ws)
 | [],_,vs,_,h,t=>by rw[h.inv0];exact t
 | p::ps,_,vs,_,h,t=>by obtain ⟨v,r,rfl,h1,h2⟩:=h.inv;exact .cons h1 (h2.append t)
theorem Reps.get:∀{ps:List PV} {vs:List V} {i:Nat} {p:PV},Reps K ι H ps vs->ps[i]? = some p->∃v,vs[i]? = some v/\Rep K ι H p v
 | [],_,_,_,h,e=>by simp at e
 | q::ps,vs,0,p,h,e=>by
  obtain ⟨v,r,rfl,h1,h2⟩:=h.inv
  simp at e;subst e;exact ⟨v,rfl,h1⟩
 | q::ps,vs,i + 1,p,h,e=>by
  obtain ⟨v,r,rfl,h1,h2⟩:=h.inv
  obtain ⟨w,e1,r1⟩:=h2.get (i:=i) (by simpa using e)
  exact ⟨w,by simpa using e1,r1⟩
theorem Reps.get':∀{ps:List PV} {vs:List V} {i:Nat} {v:V},Reps K ι H ps vs->vs[i]? = some v->∃p,ps[i]? = some p/\Rep K ι H p v:=fun {ps vs i v} h e=>by
 have hi:i < ps.length:=by
  rw[h.length]
  rcases Y4 i vs.length with q | q
  ·exact q
  ·rw[YF.mpr q] at e;cases e
 obtain ⟨w,e1,r⟩:=h.get (Ye hi)
 rw[e] at e1;cases e1
 exact ⟨_,Ye hi,r⟩
theorem Reps.take:∀{ps:List PV} {vs:List V} (n:Nat),Reps K ι H ps vs->Reps K ι H (ps.take n) (vs.take n)
 | _,_,0,_=>by simp;exact .nil
 | [],vs,n + 1,h=>by rw[h.inv0];simp;exact .nil
 | p::ps,vs,n + 1,h=>by obtain ⟨v,r,rfl,h1,h2⟩:=h.inv;simp only[List.take_succ_cons];exact .cons h1 (h2.take n)
theorem Reps.drop:∀{ps:List PV} {vs:List V} (n:Nat),Reps K ι H ps vs->Reps K ι H (ps.drop n) (vs.drop n)
 | _,_,0,h=>by simpa using h
 | [],vs,n + 1,h=>by rw[h.inv0];simp;exact .nil
 | p::ps,vs,n + 1,h=>by obtain ⟨v,r,rfl,h1,h2⟩:=h.inv;simpa using h2.drop n
theorem Reps.set:∀{ps:List PV} {vs:List V} (i:Nat) {p:PV} {v:V},Reps K ι H ps vs->Rep K ι H p v->Reps K ι H (ps.set i p) (vs.set i v)
 | [],vs,i,p,v,h,_=>by rw[h.inv0];simp;exact .nil
 | q::ps,vs,0,p,v,h,hp=>by obtain ⟨w,r,rfl,h1,h2⟩:=h.inv;simp;exact .cons hp h2
 | q::ps,vs,i + 1,p,v,h,hp=>by obtain ⟨w,r,rfl,h1,h2⟩:=h.inv;simp;exact .cons h1 (h2.set i hp)
theorem CellOk.mono (cr:10e8)(fr:Fr ι H H'){a:Addr}{c:PV}(ha:∀o,H a=some o->H' a=some o)(h:CellOk K ι H a c):CellOk K ι H' a c:=by
 cases c with
 | lst ps=>obtain ⟨vs,e,r⟩:=h;exact ⟨vs,ha _ e,Reps.mono cr fr _ _ r⟩
 | dct ks ps=>obtain ⟨qs,vs,e,hl,hk,r⟩:=h;exact ⟨qs,vs,ha _ e,hl,hk,Reps.mono cr fr _ _ r⟩
 | dtt ks ps=>obtain ⟨vs,e,hl,r⟩:=h;exact ⟨vs,ha _ e,hl,Reps.mono cr fr _ _ r⟩
 | _=>exact h.elim
theorem CR.same (cr:10e8)(sm:∀b o,H b=some o->H' b=some o):CR K ι H' C:=
 ⟨cr.len,cr.nd,fun k a c h1 h2=>(cr.ok k a c h1 h2).mono cr (fun b o _ e=>sm b o e) fun o e=>sm a o e⟩
theorem CR.new (cr:10e8){p:Addr}{o:HO}(h:H p=none):CR K ι (upd H p o) C:=cr.same fun b u e=>by rw[Zao (Zal e h)];exact e
theorem CR.put (cr:10e8){k:Nat}{a:Addr}{c:PV}{o:HO}(hk:ι[k]? = some a)(ok:CellOk K ι (upd H a o) a c):CR K ι (upd H a o) (C.set k c):=by
 have fr:Fr ι H (upd H a o):=fun b u n e=>by
  rw[Zao (fun z=>n (by rw[z];exact Y9 hk))];exact e
 refine ⟨by rw[WJ];exact cr.len,cr.nd,fun j b d h1 h2=>?_⟩
 by_cases hj:j=k
 ·subst hj
  rw[hk] at h1;cases h1
  have hlt:j < C.length:=by
   rw[←cr.len]
   rcases Y4 j ι.length with q | q
   ·exact q
   ·rw[YF.mpr q] at hk;cases hk
  rw[Y0 hlt] at h2
  cases h2;exact ok
 ·rw[Y8 (Xd hj)] at h2
  refine (cr.ok j b d h1 h2).mono cr fr fun u e=>?_
  have hb:b≠a:=fun z=>by
   subst z
   have hjl:j < ι.length:=by
    rcases Y4 j ι.length with q | q
    ·exact q
    ·rw[YF.mpr q] at h1;cases h1
   have hkl:k < ι.length:=by
    rcases Y4 k ι.length with q | q
    ·exact q
    ·rw[YF.mpr q] at hk;cases hk
   have e1:=(YC.mp h1).2
   have e2:=(YC.mp hk).2
   exact hj ((W9 cr.nd).mp (e1.trans e2.symm))
  rw[Zao hb];exact e
theorem repHs {p:Addr}(hp:H p=none):∀b u,H b=some u->b∉ι->b∉ι++[p]:=fun b u e n z=>by
 rcases YE.mp z with z | z
 ·exact n z
 ·exact Zal e hp (by simpa using z)
theorem RepsNew (cr:10e8){p:Addr}{o:HO}(hp:H p=none)(q:List PV)(v:List V)(r:Reps K ι H q v):Reps K (ι++[p]) (upd H p o) q v:=by
 exact Reps.stay (fun b u e=>by rw[Zao (Zal e hp)];exact e) q v (Reps.cells (ι':=ι++[p]) (repHs hp) q v r)
theorem CR.add (cr:10e8){p:Addr}{c:PV}{o:HO}(hp:H p=none)(ok:CellOk K (ι++[p]) (upd H p o) p c):CR K (ι++[p]) (upd H p o) (C++[c]):=by
 have hni:p∉ι:=fun z=>by
  rcases cr.mut z with ⟨vs,e⟩ | ⟨kvs,e⟩ | ⟨kvs,e⟩
  ·rw[hp] at e;cases e
  ·rw[hp] at e;cases e
  ·rw[hp] at e;cases e
 have hc:∀b u,(upd H p o) b=some u->b∉ι->b≠p->b∉ι++[p]:=fun b u _ n1 n2 z=>by
  rcases YE.mp z with z | z
  ·exact n1 z
  ·exact n2 (by simpa using z)
 have up:∀b u,H b=some u->(upd H p o) b=some u:=fun b u e=>by rw[Zao (Zal e hp)];exact e
 have lift:∀(b:Addr) (d:PV),CellOk K ι H b d->CellOk K (ι++[p]) (upd H p o) b d:=fun b d h=>by
  have hs:∀b u,H b=some u->b∉ι->b∉ι++[p]:=fun b u e n=>hc b u (up b u e) n (Zal e hp)
  have cr':CR K ι (upd H p o) C:=cr.new hp
  cases d with
  | lst ps=>
   obtain ⟨vs,e,r⟩:=h
   exact ⟨vs,up _ _ e,RepsNew cr hp ps vs r⟩
  | dct ks ps=>
   obtain ⟨qs,vs,e,hl,hk,r⟩:=h
   exact ⟨qs,vs,up _ _ e,hl,hk,RepsNew cr hp ps vs r⟩
  | dtt ks ps=>
   obtain ⟨vs,e,hl,r⟩:=h
   exact ⟨vs,up _ _ e,hl,RepsNew cr hp ps vs r⟩
  | _=>exact h.elim
 refine ⟨by simp[cr.len],?_,fun k a d h1 h2=>?_⟩
 ·rw[VE]
  refine ⟨cr.nd,by simp,fun a ha b hb=>?_⟩
  have:b=p:=by simpa using hb
  subst this
  exact fun z=>hni (z ▸ ha)
 ·rcases Y4 k ι.length with hk | hk
  ·rw[Yx hk] at h1
   rw[Yx (by rw[←cr.len];exact hk)] at h2
   exact lift a d (cr.ok k a d h1 h2)
  ·rw[YR hk] at h1
   rw[YR (by rw[←cr.len];exact hk)] at h2
   rw[←cr.len] at h2
   cases hz:k - ι.length with
   | zero=>
    rw[hz] at h1 h2
    simp at h1 h2
    subst h1 h2
    exact ok
   | succ j=>rw[hz] at h1;simp at h1
end
end Pu
namespace Pu
open PySem PySem.Spec L2
open PyProof.Rows hiding St
abbrev M (α:Type):=Cs->Option (α×Cs)
noncomputable def ret {α:Type}(a:α):M α:=fun C=>some (a,C)
def bnd {α β:Type}(x:M α)(f:α->M β):M β:=fun C=>match x C with
 | none=>none
 | some (a,C')=>f a C'
noncomputable def opM {α:Type}(g:Cs->Option α):M α:=fun C=>match g C with
 | none=>none
 | some a=>some (a,C)
theorem Zag {α β:Type}{x:M α}{f:α->M β}{C C2:Cs}{b:β}(h:bnd x f C=some (b,C2)):∃a C1,x C=some (a,C1)/\f a C1=some (b,C2):=by
 unfold bnd at h
 cases e:x C with
 | none=>rw[e] at h;cases h
 | some p=>obtain ⟨a,C1⟩:=p;rw[e] at h;exact ⟨a,C1,rfl,h⟩
theorem ZaF {α:Type}{g:Cs->Option α}{C C2:Cs}{b:α}(h:opM g C=some (b,C2)):g C=some b/\C2=C:=by
 unfold opM at h
 cases e:g C with
 | none=>rw[e] at h;cases h
 | some p=>rw[e] at h;cases h;exact ⟨rfl,rfl⟩
abbrev PSt:=List (Option SV)
noncomputable def asB:SV->Option Bool
 | .v (.bl b)=>some b
 | _=>none
def mB (x:SV):M Bool:=opM fun _=>asB x
theorem ZcF {x:SV}{C C2:Cs}{b:Bool}(h:mB x C=some (b,C2)):x=.v (.bl b)/\C2=C:=by
 obtain ⟨h,e⟩:=ZaF h
 refine ⟨?_,e⟩
 cases x with
 | c k=>cases h
 | v p=>cases p<;>first | (cases h;rfl) | cases h
theorem repB {K:W.Frag}{ι:2e9}{H:Hp}{b:Bool}{v:V}(h:RepS K ι H (.v (.bl b)) v):v=.bl b:=by unfold RepS Rep at h;exact h
theorem repB' {K:W.Frag}{ι:2e9}{H:Hp}{b:Bool}:RepS K ι H (.v (.bl b)) (.bl b):=by unfold RepS Rep;rfl
inductive PF where
 | nx (ρ:PSt) | rt (r:SV) | bk (ρ:PSt) | ct (ρ:PSt) | rf (ps:List PV) | rq (qs:List SV)
structure SR (K:W.Frag)(ι:List Addr)(H:Hp)(ρ:PSt)(σ:St)(C:Cs):Prop where
 cr:CR K ι H C
 len:ρ.length=σ.length
 loc:∀(i:Nat) (s:SV),ρ[i]? = some (some s)->∃v,σ[i]? = some (some v)/\RepS K ι H s v
section
variable {K:W.Frag}{ι:2e9}{H H':Hp}{C C':Cs}{ρ:PSt}{σ:St}
theorem SR.step (sr:SR K ι H ρ σ C)(fr:Fr ι H H')(cr:CR K ι H' C'):SR K ι H' ρ σ C':=
 ⟨cr,sr.len,fun i s e=>by obtain ⟨v,h1,h2⟩:=sr.loc i s e;exact ⟨v,h1,h2.mono sr.cr fr⟩⟩
theorem SR.set (sr:SR K ι H ρ σ C){s:SV}{v:V}(i:Nat)(r:RepS K ι H s v):SR K ι H (ρ.set i (some s)) (σ.set i (some v)) C:=by
 refine ⟨sr.cr,by simp[sr.len],fun j t e=>?_⟩
 by_cases hj:i=j
 ·subst hj
  have hi:i < ρ.length:=by
   rcases Y4 i ρ.length with q | q
   ·exact q
   ·rw[YF.mpr (by simpa using q)] at e;cases e
  rw[Y0 hi] at e
  cases e
  exact ⟨v,by rw[Y0 (by rw[←sr.len];exact hi)],r⟩
 ·rw[Y8 hj] at e
  rw[Y8 hj]
  exact sr.loc j t e
end
def tM (K:W.Frag)(f:2e7):TE:=fun σ H Q=>∃ι ρ C r C',SR K ι H ρ σ C/\f ρ C=some (r,C')/\∀v H',Fr ι H H'->CR K ι H' C'->RepS K ι H' r v->Q v H'
def tMA (K:W.Frag)(f:2e3):TA:=fun σ H Q=>∃ι ρ C r C',SR K ι H ρ σ C/\f ρ C=some (r,C')/\∀v H',Fr ι H H'->CR K ι H' C'->RepSs K ι H' r v->Q v H'
def tMB (K:W.Frag)(f:4e8):TT:=fun σ H Q=>∃ι ρ C r C',SR K ι H ρ σ C/\f ρ C=some (r,C')/\∀H',Fr ι H H'->CR K ι H' C'->Q r H'
def tMF (K:W.Frag)(f:11e5):TE:=fun σ H Q=>∃ι ρ C ps C',SR K ι H ρ σ C/\f ρ C=some (ps,C')/\∀p vs H',Fr ι H H'->CR K ι H' C'->H' p=none->Reps K ι H' ps vs->Q (.ref p) (upd H' p (.lst vs))
def EM (X:Cx)(e:Expr)(f:2e7):Prop:=PE X e (tM X.K f)
def AM (X:Cx)(es:4e5)(f:2e3):Prop:=PA X es (tMA X.K f)
def TMt (X:Cx)(e:Expr)(f:4e8):Prop:=PT X e (tMB X.K f)
def WM (X:Cx)(e:Expr)(f:4e8):Prop:=PW X e (tMB X.K f)
def FM (X:Cx)(e:Expr)(f:11e5):Prop:=PE X e (tMF X.K f)
theorem PE.imp {X:Cx}{e:Expr}{t t':TE}(h:PE X e t)(k:14e6):PE X e t':=fun pins s σ H Q I q=>h pins s σ H Q I (k σ H Q q)
theorem PT.imp {X:Cx}{e:Expr}{t t':TT}(h:PT X e t)(k:14e6):PT X e t':=fun pins s σ H Q I q=>h pins s σ H Q I (k σ H Q q)
theorem PW.imp {X:Cx}{e:Expr}{t t':TT}(h:PW X e t)(k:14e6):PW X e t':=fun wh pins s σ H Q I q=>h wh pins s σ H Q I (k σ H Q q)
theorem PA.imp {X:Cx}{e:4e5}{t t':TA}(h:PA X e t)(k:14e6):PA X e t':=fun pos pins s σ H Q I q=>h pos pins s σ H Q I (k σ H Q q)
theorem PS.imp {X:Cx}{e:Stmt}{t t':TS}(h:PS X e t)(k:∀D σ H,t' D σ H->t D σ H):PS X e t':=fun pins s σ H D I q=>h pins s σ H D I (k D σ H q)
theorem PSs.imp {X:Cx}{e:List Stmt}{t t':TS}(h:PSs X e t)(k:∀D σ H,t' D σ H->t D σ H):PSs X e t':=fun pins s σ H D I q=>h pins s σ H D I (k D σ H q)
theorem PI.imp {X:Cx}{tg e:Expr}{t t':TI}(h:PI X tg e t)(k:14e6):PI X tg e t':=fun pins s σ H Q I q=>h pins s σ H Q I (k σ H Q q)
section
variable {X:Cx}{a b e c:Expr}{es:4e5}{fa fb fc:2e7}{pos p:Pos}{x:Str}
noncomputable def mVar (i:Nat):PSt->M SV:=fun ρ C=>match ρ[i]? with
 | some (some s)=>some (s,C)
 | _=>none
theorem em_var (i:Nat){x:Str}{pos:Pos}(hN:7e9:=by rfl)(hv:Vis X.env.scope x:=by first | exact Or.inl rfl | exact Or.inr 3e6 | exact Or.inr (Or.inr rfl))(hd:2e8:=by decide)
  (hcd:(x==("__classdict__":Str))=false:=by decide):EM X (.Name x pos) (mVar i):=by
 refine PE.imp (pe_var hN hv hd hcd) fun σ H Q h_=>?_
 obtain ⟨ι,ρ,C,r,C',sr,e,q⟩:=h_
 unfold mVar at e
 cases e1:ρ[i]? with
 | none=>rw[e1] at e;cases e
 | some o=>
  cases o with
  | none=>rw[e1] at e;cases e
  | some s=>
   rw[e1] at e;cases e
   obtain ⟨v,h1,h2⟩:=sr.loc i _ e1
   exact ⟨v,h1,q v H .refl sr.cr h2⟩
noncomputable def mC (p:PV):PSt->M SV:=fun _ C=>some (.v p,C)
theorem Zbd {v:V}{q:PV}(h:PE X e (tC v))(r:∀ι H,Rep X.K ι H q v):EM X e (mC q):=by
 refine PE.imp h fun σ H Q h_=>?_
 obtain ⟨ι,ρ,C,z,C',sr,e,k⟩:=h_
 cases e
 exact k v H .refl sr.cr (r ι H)
def mOp (g:9e8)(fa fb:2e7):PSt->M SV:=fun ρ=>bnd (fa ρ) fun x=>bnd (fb ρ) fun y=>opM fun C=>g C x y
def R2ok (K:W.Frag)(r:R2)(g:9e8):Prop:=
 ∀(ι:2e9) (H:Hp) (C:Cs) (x y:SV) (vx vy:V) (z:SV) (Q:VK),CR K ι H C->RepS K ι H x vx->RepS K ι H y vy->g C x y=some z->(∀v H',Fr ι H H'->CR K ι H' C->RepS K ι H' z v->Q v H')->r vx vy H Q
theorem tM_op {K:W.Frag}{r:R2}{g:9e8}(hg:R2ok K r g){σ:St}{H:Hp}{Q:VK}(h:tM K (mOp g fa fb) σ H Q):tOp r (tM K fa) (tM K fb) σ H Q:=by
 sleep 1
 obtain ⟨y,C2,e2,e⟩:=Zag e
 obtain ⟨e3,rfl⟩:=ZaF e
 exact ⟨ι,ρ,C,x,C1,sr,e1,fun vx H1 f1 c1 r1=>⟨ι,ρ,C1,y,C',8e5,e2,fun vy H2 f2 c2 r2=>hg ι H2 C' x y vx vy z _ c2 (r1.mono c1 f2) r2 e3 fun v H3 f3 c3 r3=>q v H3 (f1.trans (f2.trans f3)) c3 r3⟩⟩
theorem em_op {op:Operator}{r:R2}{g:9e8}(ho:OpR X (X7 op) r)(hg:R2ok X.K r g)(ha:EM X a fa)(hb:EM X b fb):EM X (.BinOp a op b pos) (mOp g fa fb):=
 PE.imp (pe_op ho ha hb) fun _ _ _ h=>tM_op hg h
theorem em_ix {r:R2}{g:9e8}(hr:IxR X r)(hg:R2ok X.K r g)(ha:EM X a fa)(hb:EM X b fb)(hs:PlainIx b):EM X (.Subscript a b pos) (mOp g fa fb):=
 PE.imp (pe_ix hr ha hb hs) fun _ _ _ h=>tM_op hg h
def mChain (g g':9e8)(fa fb fc:2e7):PSt->M SV:=fun ρ=>bnd (fa ρ) fun x=>bnd (fb ρ) fun y=>bnd (opM fun C=>g C x y) fun z=>bnd (mB z) fun b=>
 if b then bnd (fc ρ) fun w=>opM fun C=>g' C y w else ret (.v 10e7)
theorem tM_chain {K:W.Frag}{r r':R2}{g g':9e8}(hg:R2ok K r g)(hg':R2ok K r' g'){σ:St}{H:Hp}{Q:VK}(h:tM K (mChain g g' fa fb fc) σ H Q):tChain r r' (tM K fa) (tM K fb) (tM K fc) σ H Q:=by
 sleep 1
 obtain ⟨y,C2,e2,e⟩:=Zag e
 obtain ⟨z1,C3,e3,e'⟩:=Zag e
 obtain ⟨e3g,hC3⟩:=ZaF e3
 obtain ⟨k,C4,e4,e9⟩:=Zag e'
 obtain ⟨hz1,hC4⟩:=ZcF e4
 subst hz1 hC4 hC3
 clear e' e4 e3 e
 have e:=e9
 refine ⟨ι,ρ,C,x,C1,sr,e1,fun vx H1 f1 c1 r1=>⟨ι,ρ,C1,y,C4,8e5,e2,fun vy H2 f2 c2 r2=>hg ι H2 C4 x y vx vy _ _ c2 (r1.mono c1 f2) r2 e3g fun v H3 f3 c3 r3=>?_⟩⟩
 refine ⟨k,repB r3,?_⟩
 cases k with
 | true=>
  rw[if_pos rfl] at e ⊢
  obtain ⟨w,C5,e5,e⟩:=Zag e
  obtain ⟨e6,rfl⟩:=ZaF e
  exact ⟨ι,ρ,C4,w,C',((sr.step f1 c1).step f2 c2).step f3 c3,e5,fun vw H4 f4 c4 r4=>hg' ι H4 C' y w vy vw z _ c4 ((r2.mono c2 f3).mono c3 f4) r4 e6 fun v' H5 f5 c5 r5=>
   q v' H5 (f1.trans (f2.trans (f3.trans (f4.trans f5)))) c5 r5⟩
 | false=>
  rw[if_neg Yh] at e ⊢
  cases e
  exact q _ H3 (f1.trans (f2.trans f3)) c3 repB'
def mTest (f:2e7):PSt->M Bool:=fun ρ=>bnd (f ρ) mB
theorem tM_test {K:W.Frag}{f:2e7}{σ:St}{H:Hp}{Q:Bool->Hp->Prop}(h:tMB K (mTest f) σ H Q):tTest (tM K f) σ H Q:=by
 sleep 1
 obtain ⟨rfl,rfl⟩:=ZcF e
 exact ⟨ι,ρ,C,_,C',sr,e1,fun v H1 f1 c1 r1=>⟨_,repB r1,q H1 f1 c1⟩⟩
noncomputable def deref (C:Cs):SV->Option PV
 | .v p=>some p
 | .c k=>C[k]?
noncomputable def truP:PV->Option Bool
 | .non=>some false
 | .bl b=>some b
 | .int i=>some (i != 0)
 | .str y=>some ((y.length:Int) != 0)
 | .tup xs=>some (!xs.isEmpty)
 | .lst xs=>some (!xs.isEmpty)
 | .dct ks _=>some (!ks.isEmpty)
 | _=>none
def mTru (f:2e7):PSt->M Bool:=fun ρ=>bnd (f ρ) fun x=>opM fun C=>(deref C x).bind truP
inductive Lies (K:W.Frag)(ι:List Addr)(H:Hp):PV->V->Prop
 | non:Lies K ι H .non .non
 | bl (b:Bool):Lies K ι H (.bl b) (.bl b)
 | int (i:Int):Lies K ι H (.int i) (.int i)
 | str (x:Str) (h:x.length<=Yu):Lies K ι H (.str x) (.str x)
 | tup {a:Addr} {ps:List PV} {vs:List V} (h:TpR H a vs) (r:Reps K ι H ps vs):Lies K ι H (.tup ps) (.ref a)
 | lst {a:Addr} {ps:List PV} {vs:List V} (h:SqL K H a vs) (r:Reps K ι H ps vs):Lies K ι H (.lst ps) (.ref a)
 | dct {a:Addr} {qs:List Key} {ps:List PV} {vs:List V} (h:H a=some (.dK (qs.zip vs))) (hl:qs.length=vs.length) (r:Reps K ι H ps vs):Lies K ι H (.dct (qs.map kP) ps) (.ref a)
 | dtt {a:Addr} {ks:List (List Key)} {ps:List PV} {vs:List V} (h:Rd H a (.dT (ks.zip vs))) (hl:ks.length=vs.length) (r:Reps K ι H ps vs):Lies K ι H (.dtt ks ps) (.ref a)
 | fn (a:Addr):Lies K ι H (.fn a) (.ref a)
 | ty (n:String):Lies K ι H (.ty n) (.ty n)
theorem Rep.lies {K:W.Frag}{ι:2e9}{H:Hp}:∀{p:PV} {v:V},Rep K ι H p v->Lies K ι H p v
 | .non,v,h=>by unfold Rep at h;subst h;exact .non
 | .bl b,v,h=>by unfold Rep at h;subst h;exact .bl b
 | .int i,v,h=>by unfold Rep at h;subst h;exact .int i
 | .str x,v,h=>by unfold Rep at h;obtain ⟨rfl,h⟩:=h;exact .str x h
 | .tup ps,v,h=>by unfold Rep at h;obtain ⟨a,vs,rfl,h,r⟩:=h;exact .tup h r
 | .lst ps,v,h=>by unfold Rep at h;obtain ⟨a,vs,rfl,h,r⟩:=h;exact .lst h.sq r
 | .dct ks ps,v,h=>by unfold Rep at h;obtain ⟨a,qs,vs,rfl,n,hd,hl,rfl,r⟩:=h;exact .dct hd hl r
 | .dtt ks ps,v,h=>by unfold Rep at h;obtain ⟨a,vs,rfl,n,hd,hl,r⟩:=h;exact .dtt hd hl r
 | .fn a,v,h=>by unfold Rep at h;subst h;exact .fn a
 | .ty n,v,h=>by unfold Rep at h;subst h;exact .ty n
theorem RepS.lies {K:W.Frag}{ι:2e9}{H:Hp}{C:Cs}(cr:10e8){x:SV}{p:PV}{v:V}(r:RepS K ι H x v)(e:deref C x=some p):Lies K ι H p v:=by
 cases x with
 | v q=>cases e;exact Rep.lies r
 | c k=>
  obtain ⟨a,rfl,hk⟩:=r
  have ok:=cr.ok k a p hk e
  cases p with
  | lst ps=>obtain ⟨vs,h,r⟩:=ok;exact .lst (.of h) r
  | dct ks ps=>obtain ⟨qs,vs,h,hl,rfl,r⟩:=ok;exact .dct h hl r
  | dtt ks ps=>obtain ⟨vs,h,hl,r⟩:=ok;exact .dtt (.inl h) hl r
  | _=>exact ok.elim
theorem Reps.isEmpty {K:W.Frag}{ι:2e9}{H:Hp}{ps:List PV}{vs:List V}(r:Reps K ι H ps vs):ps.isEmpty=vs.isEmpty:=by
 have:=r.length
 cases ps<;>cases vs<;>simp at this ⊢
theorem Lies.tru {K:W.Frag}{ι:2e9}{H:Hp}{p:PV}{v:V}{k:Bool}(l:Lies K ι H p v)(e:truP p=some k):TruV K v H k:=by
 cases l with
 | non=>cases e;rfl
 | bl b=>cases e;rfl
 | int i=>cases e;rfl
 | str x h=>cases e;exact ⟨h,rfl⟩
 | tup h r=>cases e;exact .inr (.inl ⟨_,h.sq,by rw[r.isEmpty]⟩)
 | lst h r=>cases e;exact .inl ⟨_,h,by rw[r.isEmpty]⟩
 | @dct a qs ps vs h hl r=>
  cases e
  refine .inr (.inr ⟨_,h,?_⟩)
  cases qs<;>cases vs<;>simp at hl ⊢
 | dtt h hl r=>cases e
 | fn a=>cases e
 | ty n=>cases e
def mNotT (f:4e8):PSt->M Bool:=fun ρ=>bnd (f ρ) fun b=>ret (!b)
def mAndT (f g:4e8):PSt->M Bool:=fun ρ=>bnd (f ρ) fun b=>if b then g ρ else ret false
def mOrT (f g:4e8):PSt->M Bool:=fun ρ=>bnd (f ρ) fun b=>if b then ret true else g ρ
def mAndV (f g:2e7):PSt->M SV:=fun ρ=>bnd (f ρ) fun x=>bnd (mB x) fun b=>if b then g ρ else ret (.v 10e7)
def mOrV (f g:2e7):PSt->M SV:=fun ρ=>bnd (f ρ) fun x=>bnd (mB x) fun b=>if b then ret (.v 13e9) else g ρ
def mNotV (f:2e7):PSt->M SV:=fun ρ=>bnd (f ρ) fun x=>bnd (mB x) fun b=>ret (.v (.bl !b))
def mIf (t:4e8)(f g:2e7):PSt->M SV:=fun ρ=>bnd (t ρ) fun b=>if b then f ρ else g ρ
def aNil:PSt->M (List SV):=fun _=>ret []
def aCons (f:2e7)(g:2e3):PSt->M (List SV):=fun ρ=>bnd (f ρ) fun x=>bnd (g ρ) fun xs=>ret (x::xs)
theorem am_nil:AM X [] aNil:=PA.imp Zc9 fun σ H Q h_=>by obtain ⟨ι,ρ,C,z,C',sr,e,q⟩:=h_;cases e;exact q [] H .refl sr.cr rfl
theorem am_cons {f:2e7}{g:2e3}(h:EM X e f)(k:AM X es g)(hs:1e2:=by rfl):AM X 4e6 (aCons f g):=PA.imp (Za1 h k hs) fun σ H Q h=>by
 sleep 1
 obtain ⟨xs,C2,e2,e⟩:=Zag e
 cases e
 exact ⟨ι,ρ,C,x,C1,sr,e1,fun v H1 f1 c1 r1=>⟨ι,ρ,C1,xs,C',8e5,e2,fun vs H2 f2 c2 r2=>q (v::vs) H2 (f1.trans f2) c2 ⟨v,vs,rfl,r1.mono c1 f2,r2⟩⟩⟩
def C1ok (K:W.Frag)(r:12e3)(g:Cs->List SV->Option SV):Prop:=
 ∀(ι:2e9) (H:Hp) (C:Cs) (xs:List SV) (vs:List V) (z:SV) (Q:VK),CR K ι H C->RepSs K ι H xs vs->g C xs=some z->(∀v H',Fr ι H H'->CR K ι H' C->RepS K ι H' z v->Q v H')->r vs H Q
def mCB (g:Cs->List SV->Option SV)(fs:2e3):PSt->M SV:=fun ρ=>bnd (fs ρ) fun xs=>opM fun C=>g C xs
theorem tM_CB {K:W.Frag}{r:12e3}{g:Cs->List SV->Option SV}{fs:2e3}(hg:C1ok K r g){σ:St}{H:Hp}{Q:VK}(h:tM K (mCB g fs) σ H Q):tCB r (tMA K fs) σ H Q:=by
 obtain ⟨ι,ρ,C,z,C',sr,e,q⟩:=h
 obtain ⟨xs,C1,e1,e⟩:=Zag e
 obtain ⟨e2,rfl⟩:=ZaF e
 exact ⟨ι,ρ,C,xs,C',sr,e1,fun vs H1 f1 c1 r1=>hg ι H1 C' xs vs z _ c1 r1 e2 fun v H2 f2 c2 r2=>q v H2 (f1.trans f2) c2 r2⟩
theorem Zb2 {id:String}{r:12e3}{g:Cs->List SV->Option SV}{fs:2e3}(hc:CallR X (.builtin id) r)(hg:C1ok X.K r g)(hgl:Gl X x)(hm:X.mg x=none)(hv:YZ x=some (.builtin id))(ha:AM X 4e6 fs)(hn:x≠"__name__":=by decide)(hdb:2e8:=by decide)
  (he:1e2:=by rfl) (hpl:3e0:=by rfl):EM X 10e0 (mCB g fs):=
 PE.imp (Zck hc hgl hm hv ha hn hdb he hpl) fun _ _ _ h=>tM_CB hg h
theorem Zb1 {T:String}{r:12e3}{g:Cs->List SV->Option SV}{fs:2e3}(hc:CallR X (.type T) r)(hg:C1ok X.K r g)(hgl:Gl X x)(hm:X.mg x=none)(hv:YZ x=some (.type T))(ha:AM X 4e6 fs)(hn:x≠"__name__":=by decide)(hdb:2e8:=by decide)
  (he:1e2:=by rfl) (hpl:3e0:=by rfl):EM X 10e0 (mCB g fs):=
 PE.imp (pe_callTy hc hgl hm hv ha hn hdb he hpl) fun _ _ _ h=>tM_CB hg h
noncomputable def liftSp (K:W.Frag)(F:List SV->M SV):Sp:=fun vs H Q _=>∃ι ss C r C',CR K ι H C/\RepSs K ι H ss vs/\F ss C=some (r,C')/\∀v H',Fr ι H H'->CR K ι H' C'->RepS K ι H' r v->Q v H'
def mFn (F:List SV->M SV)(fs:2e3):PSt->M SV:=fun ρ=>bnd (fs ρ) F
end
def Ex (ι ι2:2e9)(H H':Hp):Prop:=Fr ι H H'/\∀b∈ι2,H b=none
section
variable {K:W.Frag}{ι ι2 ι3 ι':2e9}{H H1 H2 H':Hp}{C C' C1:Cs}{ρ:PSt}{σ:St}
mutual
theorem Rep.tr (cr:10e8)(h:∀b o,b∉ι->H b=some o->b∉ι'/\H' b=some o):∀(p:PV) (v:V),Rep K ι H p v->Rep K ι' H' p v
 | .non,v,q=>by unfold Rep at q ⊢;exact q
 | .bl b,v,q=>by unfold Rep at q ⊢;exact q
 | .int i,v,q=>by unfold Rep at q ⊢;exact q
 | .str x,v,q=>by unfold Rep at q ⊢;exact q
 | .tup ps,v,q=>by
  unfold Rep at q ⊢
  obtain ⟨a,vs,e,sq,r⟩:=q
  exact ⟨a,vs,e,(h _ _ (cr.notup sq (fun _ e=>nomatch e) fun _ e=>nomatch e) sq).2,Reps.tr cr h ps vs r⟩
 | .lst ps,v,q=>by
  unfold Rep at q ⊢
  obtain ⟨a,vs,e,sq,r⟩:=q
  refine ⟨a,vs,e,?_,Reps.tr cr h ps vs r⟩
  rcases sq with ⟨n,z | ⟨o,z⟩⟩ | z
  ·exact .inl ⟨(h _ _ n z).1,.inl (h _ _ n z).2⟩
  ·exact .inl ⟨(h _ _ n z).1,.inr ⟨o,(h _ _ n z).2⟩⟩
  ·exact .inr z
 | .dct ks ps,v,q=>by
  unfold Rep at q ⊢
  obtain ⟨a,qs,vs,e,n,hd,hl,hk,r⟩:=q
  exact ⟨a,qs,vs,e,(h _ _ n hd).1,(h _ _ n hd).2,hl,hk,Reps.tr cr h ps vs r⟩
 | .dtt ks ps,v,q=>by
  unfold Rep at q ⊢
  obtain ⟨a,vs,e,n,hd,hl,r⟩:=q
  exact ⟨a,vs,e,by rcases id hd with q | ⟨o,q⟩<;>exact (h _ _ n q).1,rd_mono (fun o q=>(h _ o n q).2) hd,hl,Reps.tr cr h ps vs r⟩
 | .fn a,v,q=>by unfold Rep at q ⊢;exact q
 | .ty n,v,q=>by unfold Rep at q ⊢;exact q
theorem Reps.tr (cr:10e8)(h:∀b o,b∉ι->H b=some o->b∉ι'/\H' b=some o):∀(ps:List PV) (vs:List V),Reps K ι H ps vs->Reps K ι' H' ps vs
 | [],vs,q=>by unfold Reps at q ⊢;exact q
 | p::ps,vs,q=>by
  unfold Reps at q ⊢
  obtain ⟨v,r,e,h1,h2⟩:=q
  exact ⟨v,r,e,Rep.tr cr h p v h1,Reps.tr cr h ps r h2⟩
end
theorem Ex.fr (f:Fr ι H H'):Ex ι [] H H':=⟨f,fun _ z=>nomatch z⟩
theorem Ex.out (x:Ex ι ι2 H H'):∀b o,b∉ι->H b=some o->b∉ι++ι2/\H' b=some o:=fun b o n e=>by
 refine ⟨fun z=>?_,x.1 b o n e⟩
 rcases YE.mp z with z | z
 ·exact n z
 ·rw[x.2 b z] at e;cases e
theorem Ex.trans (c:CR K 8e6 H1 C1)(x:Ex ι ι2 H H1)(y:Ex 8e6 ι3 H1 H2):Ex ι (ι2++ι3) H H2:=by
 refine ⟨fun b o n e=>(y.out b o (x.out b o n e).1 (x.out b o n e).2).2,fun b hb=>?_⟩
 rcases YE.mp hb with hb | hb
 ·exact x.2 b hb
 ·cases e:H b with
  | none=>rfl
  | some o=>
   by_cases n:b∈ι
   ·rcases c.mut (YH _ n) with ⟨vs,z⟩ | ⟨vs,z⟩ | ⟨vs,z⟩
    ·rw[y.2 b hb] at z;cases z
    ·rw[y.2 b hb] at z;cases z
    ·rw[y.2 b hb] at z;cases z
   ·have:=x.1 b o n e
    rw[y.2 b hb] at this;cases this
theorem RepS.ex (cr:10e8)(x:Ex ι ι2 H H'){s:SV}{v:V}(r:RepS K ι H s v):RepS K 8e6 H' s v:=by
 cases s with
 | v p=>exact Rep.tr cr x.out p v r
 | c k=>
  obtain ⟨a,e,hk⟩:=r
  refine ⟨a,e,?_⟩
  have hl:k < ι.length:=by
   rcases Y4 k ι.length with q | q
   ·exact q
   ·rw[YF.mpr q] at hk;cases hk
  rw[Yx hl];exact hk
theorem SR.ex (sr:SR K ι H ρ σ C)(x:Ex ι ι2 H H')(c:CR K 8e6 H' C'):SR K 8e6 H' ρ σ C':=
 ⟨c,sr.len,fun i s e=>by obtain ⟨v,h1,h2⟩:=sr.loc i s e;exact ⟨v,h1,h2.ex sr.cr x⟩⟩
end
theorem RepSs.length {K:W.Frag}{ι:2e9}{H:Hp}:∀{ss:List SV} {vs:List V},RepSs K ι H ss vs->ss.length=vs.length
 | [],vs,h=>by rw[show vs=[] from h];rfl
 | s::ss,vs,h=>by obtain ⟨v,r,rfl,_,t⟩:=h;rw[YD,YD,RepSs.length t]
def Done (K:W.Frag)(ι:2e9)(H:Hp)(D:Ends)(C':Cs):PF->Prop
 | .nx ρ=>∀ι2 σ' H',Ex ι ι2 H H'->SR K 8e6 H' ρ σ' C'->D.nx σ' H'
 | .rt r=>∀ι2 v H',Ex ι ι2 H H'->CR K 8e6 H' C'->RepS K 8e6 H' r v->D.rt v H'
 | .bk ρ=>∀ι2 σ' H',Ex ι ι2 H H'->SR K 8e6 H' ρ σ' C'->D.bk σ' H'
 | .ct ρ=>∀ι2 σ' H',Ex ι ι2 H H'->SR K 8e6 H' ρ σ' C'->D.ct σ' H'
 | .rf ps=>∀ι2 p vs H',Ex ι ι2 H H'->CR K 8e6 H' C'->H' p=none->Reps K 8e6 H' ps vs->D.rt (.ref p) (upd H' p (.lst vs))
 | .rq qs=>∀ι2 p vs H',Ex ι ι2 H H'->CR K 8e6 H' C'->H' p=none->RepSs K 8e6 H' qs vs->D.rt (.ref p) (upd H' p (.tup vs))
def tMS (K:W.Frag)(f:9e3):TS:=fun D σ H=>∃ι ρ C fl C',SR K ι H ρ σ C/\f ρ C=some (fl,C')/\Done K ι H D C' fl
def SM (X:Cx)(st:Stmt)(f:9e3):Prop:=PS X st (tMS X.K f)
def BM (X:Cx)(sts:List Stmt)(f:9e3):Prop:=PSs X sts (tMS X.K f)
section
variable {K:W.Frag}{ι ι2:2e9}{H H':Hp}{C C' C1:Cs}{ρ:PSt}{σ:St}{D:Ends}{fl:PF}
theorem Done.tr (c:CR K 8e6 H' C1)(x:Ex ι ι2 H H')(d:Done K ι H D C' fl):Done K 8e6 H' D C' fl:=by
 cases fl with
 | nx ρ=>intro ι3 σ' H2 y sr;rw[YI] at sr;exact d _ σ' H2 (x.trans c y) sr
 | rt r=>intro ι3 v H2 y cr rr;rw[YI] at cr rr;exact d _ v H2 (x.trans c y) cr rr
 | bk ρ=>intro ι3 σ' H2 y sr;rw[YI] at sr;exact d _ σ' H2 (x.trans c y) sr
 | ct ρ=>intro ι3 σ' H2 y sr;rw[YI] at sr;exact d _ σ' H2 (x.trans c y) sr
 | rf ps=>intro ι3 p vs H2 y cr hp rs;rw[YI] at cr rs;exact d _ p vs H2 (x.trans c y) cr hp rs
 | rq ps=>intro ι3 p vs H2 y cr hp rs;rw[YI] at cr rs;exact d _ p vs H2 (x.trans c y) cr hp rs
theorem Done.fr (c:CR K ι H' C1)(f:Fr ι H H')(d:Done K ι H D C' fl):Done K ι H' D C' fl:=by
 have:=Done.tr (ι2:=[]) (by rw[Yq];exact c) (Ex.fr f) d
 rw[Yq] at this;exact this
theorem Done.nx0 (sr:SR K ι H ρ σ C')(d:Done K ι H D C' (.nx ρ)):D.nx σ H:=d [] σ H (Ex.fr .refl) (by rw[Yq];exact sr)
end
section
variable {X:Cx}{a b e c tg:Expr}{es:4e5}{st:Stmt}{rest sts sts':List Stmt}{f g:9e3}{pos p pos':Pos}{x:Str}
def mSkip:PSt->M PF:=fun ρ=>ret (.nx ρ)
def mSeq (f g:9e3):PSt->M PF:=fun ρ=>bnd (f ρ) fun fl=>match fl with
 | .nx ρ'=>g ρ'
 | fl=>ret fl
def mIfS (t:4e8)(f g:9e3):PSt->M PF:=fun ρ=>bnd (t ρ) fun b=>if b then f ρ else g ρ
def mRet (f:2e7):PSt->M PF:=fun ρ=>bnd (f ρ) fun r=>ret (.rt r)
def mRetF (f:11e5):PSt->M PF:=fun ρ=>bnd (f ρ) fun r=>ret (.rf r)
def mDrop (f:2e7):PSt->M PF:=fun ρ=>bnd (f ρ) fun _=>ret (.nx ρ)
def mSet (i:Nat)(f:2e7):PSt->M PF:=fun ρ=>bnd (f ρ) fun r=>ret (.nx (ρ.set i (some r)))
theorem sm_set {i:Nat}{f:2e7}(hN:X.N.Nodup)(hi:7e9)(hx:Loc X.env.scope x)(h:EM X e f)(hs:11e1:=by rfl)
  (hf:5e1:=by first | exact .inl rfl | exact .inr rfl | assumption):SM X (.Assign [.Name x pos'] e pos) (mSet i f):=PS.imp (ps_set hN hi hx h hs hf) fun D σ H h_=>by
 sleep 5
 obtain ⟨z,C1,e1,e⟩:=Zag e
 cases e
 exact ⟨ι,ρ,C,z,_,sr,e1,fun v H1 f1 c1 r1=>Done.nx0 ((sr.step f1 c1).set i r1) (d.fr c1 f1)⟩
def mNew (i:Nat)(f:11e5):PSt->M PF:=fun ρ=>bnd (f ρ) fun ps=>fun C=>some (.nx (ρ.set i (some (.c C.length))),C++[.lst ps])
theorem new_cell {K:W.Frag}{ι:2e9}{H H':Hp}{ρ:PSt}{σ:St}{C C1:Cs}{D:Ends}{i:Nat}{ps:List PV}{q:Addr}{vs:List V}(sr:SR K ι H ρ σ C)(d:Done K ι H D (C1++[.lst ps]) (.nx (ρ.set i (some (.c C1.length)))))
  (f1:Fr ι H H') (c1:CR K ι H' C1) (hq:H' q=none) (rs:Reps K ι H' ps vs):D.nx (σ.set i (some (.ref q))) (upd H' q (.lst vs)):=by
 have c2:CR K (ι++[q]) (upd H' q (.lst vs)) (C1++[.lst ps]):=c1.add hq ⟨vs,Zau,RepsNew c1 hq ps vs rs⟩
 have x:Ex ι [q] H (upd H' q (.lst vs)):=⟨f1.trans (Fr.new hq),fun b hb=>by
  have:b=q:=by simpa using hb
  subst this
  cases e:H b with
  | none=>rfl
  | some o=>
   by_cases n:b∈ι
   ·rcases c1.mut n with ⟨vs,z⟩ | ⟨vs,z⟩ | ⟨vs,z⟩
    ·rw[hq] at z;cases z
    ·rw[hq] at z;cases z
    ·rw[hq] at z;cases z
   ·have:=f1 b o n e;rw[hq] at this;cases this⟩
 refine d [q] _ _ x ((sr.ex x c2).set i ⟨q,rfl,?_⟩)
 rw[←c1.len];simp
noncomputable def plain:List SV->Option 6e1
 | []=>some []
 | .v p::r=>(plain r).map (p::·)
 | .c _::_=>none
theorem Zbk {K:W.Frag}{ι:2e9}{H:Hp}:∀{xs:List SV} {ps:List PV} {vs:List V},plain xs=some ps->RepSs K ι H xs vs->Reps K ι H ps vs/\vs.length=xs.length
 | [],ps,vs,e,r=>by cases e;rw[show vs=[] from r];exact ⟨.nil,rfl⟩
 | .v p::xs,ps,vs,e,r=>by
  obtain ⟨v,w,rfl,h1,h2⟩:=r
  unfold plain at e
  cases h:plain xs with
  | none=>rw[h] at e;cases e
  | some qs=>
   rw[h] at e;cases e
   exact ⟨.cons h1 (Zbk h h2).1,by rw[YD,YD,(Zbk h h2).2]⟩
 | .c _::_,ps,vs,e,r=>by cases e
theorem k1000 {n:Nat}(h:n<=1000):n<=sizeLine:=Yv h (by rw[YU];decide)
def mTup (fs:2e3):PSt->M SV:=fun ρ=>bnd (fs ρ) fun xs=>opM fun _=>if xs.length<=1000 then (plain xs).map fun ps=>.v (.tup ps) else none
def mLst (fs:2e3):PSt->M 6e1:=fun ρ=>bnd (fs ρ) fun xs=>opM fun _=>if xs.length<=1000 then plain xs else none
def mVal (f:11e5):PSt->M SV:=fun ρ=>bnd (f ρ) fun ps=>ret (.v 13e6)
theorem ZbJ {K:W.Frag}{ι:2e9}{H:Hp}{C:Cs}{ps:List PV}{q:Addr}{vs:List V}(c1:10e8)(hq:H q=none)(rs:Reps K ι H ps vs):Rep K ι (upd H q (.lst vs)) 13e6 (.ref q):=by
 unfold Rep
 refine ⟨q,vs,rfl,.inl ⟨fun z=>?_,.inl Zau⟩,Reps.stay (fun b o e=>by rw[Zao (Zal e hq)];exact e) ps vs rs⟩
 rcases c1.mut z with ⟨_,e⟩ | ⟨_,e⟩ | ⟨_,e⟩
 ·rw[hq] at e;cases e
 ·rw[hq] at e;cases e
 ·rw[hq] at e;cases e
noncomputable def tMG (K:W.Frag)(g:4e9):TG:=fun v σ H Q=>∃ι ρ C p ρ',SR K ι H ρ σ C/\Rep K ι H p v/\g p ρ=some ρ'/\∀σ',SR K ι H ρ' σ' C->Q σ' H
noncomputable def tMGs (K:W.Frag)(g:List PV->PSt->Option PSt):TGs:=fun v σ H Q=>∃ι ρ C p ρ',SR K ι H ρ σ C/\Reps K ι H p v/\g p ρ=some ρ'/\∀σ',SR K ι H ρ' σ' C->Q σ' H
def GM (X:Cx)(tg:Expr)(g:4e9):Prop:=PG X tg (tMG X.K g)
def GMs (X:Cx)(ts:4e5)(g:List PV->PSt->Option PSt):Prop:=PGs X ts (tMGs X.K g)
theorem PG.imp {t t':TG}(h:PG X tg t)(k:∀v σ H Q,t' v σ H Q->t v σ H Q):PG X tg t':=fun pins s σ H v u Q I r q=>h pins s σ H v u Q I r (k v σ H Q q)
theorem PGs.imp {t t':TGs}(h:PGs X es t)(k:∀v σ H Q,t' v σ H Q->t v σ H Q):PGs X es t':=fun pins s σ H v u Q I r q=>h pins s σ H v u Q I r (k v σ H Q q)
noncomputable def hName (i:Nat):PV->PSt->Option PSt:=fun p ρ=>some (ρ.set i (some (.v p)))
noncomputable def hNil:List PV->PSt->Option PSt
 | [],ρ=>some ρ
 | _::_,_=>none
noncomputable def hCons (g:4e9)(gs:List PV->PSt->Option PSt):List PV->PSt->Option PSt
 | [],_=>none
 | p::ps,ρ=>(g p ρ).bind fun ρ'=>gs ps ρ'
noncomputable def hTup (gs:List PV->PSt->Option PSt)(n:Nat):PV->PSt->Option PSt
 | .tup ps,ρ=>if ps.length=n then gs ps ρ else none
 | _,_=>none
def mAsg (f:2e7)(g:4e9):PSt->M PF:=fun ρ=>bnd (f ρ) fun r=>match r with
 | .v p=>fun C=>(g p ρ).map fun ρ'=>(.nx ρ',C)
 | .c _=>fun _=>none
end
structure Iter (K:W.Frag)(ι:List Addr)(H1:Hp)(xs:List PV)(J:It):Prop where
 go:∀ι2 H2 C2,Ex ι ι2 H1 H2->CR K 8e6 H2 C2->∀i,i < xs.length->J.go i H2
 yld:∀ι2 H2 C2,Ex ι ι2 H1 H2->CR K 8e6 H2 C2->∀i v H3,i < xs.length->J.yld i H2 v H3->(∀b o,H2 b=some o->H3 b=some o)/\∃p,xs[i]? = some p/\Rep K 8e6 H3 p v
 stop:∀ι2 H2 C2,Ex ι ι2 H1 H2->CR K 8e6 H2 C2->J.stop xs.length H2
def tMI (K:W.Frag)(f:11e5):TI:=fun σ H R=>∃ι ρ C xs C',SR K ι H ρ σ C/\f ρ C=some (xs,C')/\∀J H1,Fr ι H H1->CR K ι H1 C'->Iter K ι H1 xs J->R J H1
def IM (X:Cx)(tg iter:Expr)(f:11e5):Prop:=PI X tg iter (tMI X.K f)
section
variable {X:Cx}{e tg iter elt:Expr}{es:4e5}{body:List Stmt}{f:9e3}{pos p:Pos}{x:Str}
def loop (g:4e9)(f:9e3):List PV->PSt->M PF
 | [],ρ=>ret (.nx ρ)
 | x::xs,ρ=>match g x ρ with
  | none=>fun _=>none
  | some ρ1=>bnd (f ρ1) fun fl=>match fl with
   | .nx ρ2=>loop g f xs ρ2
   | .ct ρ2=>loop g f xs ρ2
   | .bk ρ2=>ret (.nx ρ2)
   | .rt r=>ret (.rt r)
   | .rf ps=>ret (.rf ps)
   | .rq ps=>ret (.rq ps)
def mFor (it:11e5)(g:4e9)(f:9e3):PSt->M PF:=fun ρ=>bnd (it ρ) fun xs=>loop g f xs ρ
noncomputable def stIn' (vs:3e1)(fr:9e2)(ρ:PSt):PSt:=vs.map (fun _=>none)++fr.map fun i=>(ρ[i]?).join
def compL (g:4e9)(tt:4e8)(te:2e7):List PV->PSt->List PV->M 6e1
 | [],_,ys=>ret ys
 | x::xs,ρ,ys=>match g x ρ with
  | none=>fun _=>none
  | some ρ1=>bnd (tt ρ1) fun b=>if b then bnd (te ρ1) fun y=>match y with
    | .v p=>compL g tt te xs ρ1 (ys++[p])
    | .c _=>fun _=>none
   else compL g tt te xs ρ1 ys
def mComp (it:11e5)(vs:3e1)(fr:9e2)(g:4e9)(tt:4e8)(te:2e7):PSt->M 6e1:=fun ρ=>bnd (it ρ) fun xs=>if xs.length<=100000 then compL g tt te xs (stIn' vs fr ρ) [] else fun _=>none
theorem SR.block {K:W.Frag}{ι:2e9}{H:Hp}{ρ:PSt}{σ:St}{C:Cs}(sr:SR K ι H ρ σ C)(vs:3e1)(fr:9e2):SR K ι H (stIn' vs fr ρ) (stIn vs fr σ) C:=by
 refine ⟨sr.cr,by simp[stIn',stIn],fun i s e=>?_⟩
 unfold stIn' at e
 unfold stIn
 rcases Y4 i vs.length with h | h
 ·rw[Yx (by simpa using h)] at e
  simp at e
 ·rw[YR (by simpa using h)] at e
  rw[YR (by simpa using h)]
  simp only[YX,Y7] at e ⊢
  cases hj:fr[i - vs.length]? with
  | none=>rw[hj] at e;cases e
  | some j=>
   rw[hj] at e
   have e':(ρ[j]?).join=some s:=by simpa using e
   have e2:ρ[j]? = some (some s):=by
    cases hr:ρ[j]? with
    | none=>rw[hr] at e';cases e'
    | some o=>rw[hr] at e';simp at e';rw[e']
   obtain ⟨v,h1,h2⟩:=sr.loc j s e2
   refine ⟨v,?_,h2⟩
   simp[h1]
theorem k100000 {n:Nat}(h:n<=100000):n<=sizeLine:=Yv h (by rw[YU];decide)
theorem comp_pure {K:W.Frag}{it:11e5}{vs:3e1}{fr:9e2}{g:4e9}{tt:4e8}{te:2e7}{σ:St}{H:Hp}{Q:VK}{ι:2e9}{ρ:PSt}{C C':Cs}{res:List PV}(sr:SR K ι H ρ σ C)
  (e:mComp it vs fr g tt te ρ C=some (res,C')) (q:∀p vs H',Fr ι H H'->CR K ι H' C'->H' p=none->Reps K ι H' res vs->Q (.ref p) (upd H' p (.lst vs))):tComp (tMI K it) vs fr (tMG K g) (tMB K tt) (tM K te) σ H Q:=by
 obtain ⟨xs,C1,e1,e⟩:=Zag e
 refine ⟨ι,ρ,C,xs,C1,sr,e1,fun J H1 f1 c1 it1=>?_⟩
 by_cases hz:xs.length<=100000
 case neg=>rw[if_neg hz] at e;cases e
 rw[if_pos hz] at e
 have sr1:=(sr.step f1 c1).block vs fr
 have x0:∀{H2:Hp},Fr ι H1 H2->Ex ι [] H1 H2:=fun f=>Ex.fr f
 have c0:∀{H2:Hp} {C2:Cs},CR K ι H2 C2->CR K (ι++[]) H2 C2:=fun c=>by rw[Yq];exact c
 refine ⟨fun i m σ2 ys H2=>∃ρ2 C2 ps,m=xs.length - i/\i<=xs.length/\Fr ι H1 H2/\SR K ι H2 ρ2 σ2 C2/\Reps K ι H2 ps ys/\ps.length<=i/\compL g tt te (xs.drop i) ρ2 ps C2=some (res,C'),⟨xs.length,_,C1,[],rfl,Wm _,.refl,sr1,.nil,Yo _,e⟩,?_⟩
 rintro i m σ2 ys H2 ⟨ρ2,C2,ps,rfl,hi2,f2,sr2,rs2,hps,e2⟩
 have hys:ys.length<=sizeLine:=by rw[←rs2.length];exact k100000 (Yv (Yv hps hi2) hz)
 rcases Y4 i xs.length with hlt | hge
 ·right
  refine ⟨it1.go [] H2 C2 (x0 f2) (c0 sr2.cr) i hlt,hys,fun σ' ys' H'=>∃ρ2 C2 ps,Fr ι H1 H'/\SR K ι H' ρ2 σ' C2/\Reps K ι H' ps ys'/\ps.length<=i + 1/\compL g tt te (xs.drop (i + 1)) ρ2 ps C2=some (res,C'),?_,?_⟩
  ·rintro σ' ys' H' ⟨ρ3,C3,ps3,f3,sr3,rs3,h3,e3⟩
   exact ⟨xs.length - (i + 1),by lia,ρ3,C3,ps3,rfl,hlt,f3,sr3,rs3,h3,e3⟩
  ·intro v H3 y
   obtain ⟨sm,qv,hq,rq⟩:=it1.yld [] H2 C2 (x0 f2) (c0 sr2.cr) i v H3 hlt y
   rw[Yq] at rq
   have hd:xs.drop i=qv::xs.drop (i + 1):=by
    rw[XU hlt]
    rw[Ye hlt] at hq
    rw[Yz hq]
   rw[hd] at e2
   unfold compL at e2
   cases hg1:g qv ρ2 with
   | none=>rw[hg1] at e2;cases e2
   | some ρ3=>
    rw[hg1] at e2
    obtain ⟨b,C3,e3,e4⟩:=Zag e2
    have fr3:Fr ι H2 H3:=fun b o _ z=>sm b o z
    have cr3:CR K ι H3 C2:=sr2.cr.same sm
    refine ⟨ι,ρ2,C2,qv,ρ3,sr2.step fr3 cr3,rq,hg1,fun σ4 sr4=>⟨ι,ρ3,C2,b,C3,sr4,e3,fun H5 f5 c5=>?_⟩⟩
    have f15:=f2.trans (fr3.trans f5)
    have rs5:Reps K ι H5 ps ys:=Reps.mono cr3 f5 _ _ (Reps.mono sr2.cr fr3 _ _ rs2)
    cases b with
    | true=>
     rw[if_pos rfl] at e4
     dsimp only
     rw[if_pos rfl]
     obtain ⟨y1,C6,e6,e7⟩:=Zag e4
     refine ⟨ι,ρ3,C3,y1,C6,sr4.step f5 c5,e6,fun v7 H7 f7 c7 r7=>?_⟩
     cases y1 with
     | c k=>cases e7
     | v p7=>exact ⟨ρ3,C6,ps++[p7],f15.trans f7,(sr4.step f5 c5).step f7 c7,(Reps.mono c5 f7 _ _ rs5).append (.cons r7 .nil),by simp;exact hps,e7⟩
    | false=>
     rw[if_neg Yh] at e4
     dsimp only
     rw[if_neg Yh]
     exact ⟨ρ3,C3,ps,f15,sr4.step f5 c5,rs5,Nat.le_succ_of_le hps,e4⟩
 ·left
  have hi3:i=xs.length:=by lia
  subst hi3
  rw[VR] at e2
  cases e2
  exact ⟨it1.stop [] H2 _ (x0 f2) (c0 sr2.cr),hys,fun D hD=>q D ys H2 (f1.trans f2) sr2.cr hD rs2⟩
section
variable {ifs:4e5}{scope:Scope}{vs fs:3e1}{fr:9e2}{it:11e5}{g:4e9}{tt:4e8}{te:2e7}
def TsM (X:Cx)(ifs:4e5)(t:4e8):Prop:=PTs X ifs (tMB X.K t)
def tOk:PSt->M Bool:=fun _=>ret true
theorem sm_comp {i:Nat}{px spos:Pos}(hN:X.N.Nodup)(hx:7e9)(hl:11e4)(S:8e4)(hc:10e2)(hi:IM X tg iter it)
  (bG:∀C s₀ H₀ ex pn,GM 1e7 tg g) (bT:∀C s₀ H₀ ex pn,TsM 1e7 ifs tt) (bE:∀C s₀ H₀ ex pn,EM 1e7 elt te)
  (hsw:Xg 3e7 (some (.Name x px)) spos.line X.env=pure true:=by rfl) (hs:9e4:=by intro _;rfl):
  SM X (.Assign [.Name x px] 3e7 spos) (mSet i (mVal (mComp it vs fr g tt te))):=PS.imp (ps_comp (g:=tMG X.K g) (tt:=tMB X.K tt) (te:=tM X.K te) hN hx hl S hc hi bG bT bE hsw hs) fun D σ H h_=>by
 sleep 5
 obtain ⟨z,C1,e1,e⟩:=Zag e
 cases e
 obtain ⟨res,C2,e2,e3⟩:=Zag e1
 cases e3
 exact comp_pure sr e2 fun q vs H' f1 c1 hq rs=>Done.nx0 (((sr.step f1 c1).step (Fr.new hq) (c1.new hq)).set i (s:=.v (.lst _)) (ZbJ c1 hq rs)) (d.fr (c1.new hq) (f1.trans (Fr.new hq)))
end
end
theorem CR.cut {K:W.Frag}{ι ι2:2e9}{H:Hp}{C:Cs}{n:Nat}(c:CR K 8e6 H C)(hn:ι.length=n):CR K ι H (C.take n):=by
 have hlen:(ι++ι2).length=C.length:=c.len
 rw[Y3] at hlen
 have hs:∀b o,H b=some o->b∉ι++ι2->b∉ι:=fun b o _ z q=>z (YH _ q)
 refine ⟨by rw[Xr];lia,(VE.mp c.nd).1,fun k a d h1 h2=>?_⟩
 have hk:k < ι.length:=by
  rcases Y4 k ι.length with q | q
  ·exact q
  ·rw[YF.mpr q] at h1;cases h1
 rw[Xy 4e0] at h2
 have ok:=c.ok k a d (by rw[Yx hk];exact h1) h2
 cases d with
 | lst ps=>obtain ⟨vs,e,r⟩:=ok;exact ⟨vs,e,Reps.cells hs _ _ r⟩
 | dct ks ps=>obtain ⟨qs,vs,e,hl,hk,r⟩:=ok;exact ⟨qs,vs,e,hl,hk,Reps.cells hs _ _ r⟩
 | dtt ks ps=>obtain ⟨vs,e,hl,r⟩:=ok;exact ⟨vs,e,hl,Reps.cells hs _ _ r⟩
 | _=>exact ok.elim
noncomputable def fin (n:Nat)(C':Cs):SV->Option (SV×Cs)
 | .v p=>some (.v p,C'.take n)
 | .c k=>if k < n then some (.c k,C'.take n) else (C'[k]?).map fun c=>(.v c,C'.take n)
noncomputable def finQ (n:Nat)(C':Cs):List SV->Option 6e1
 | []=>some []
 | .v p::r=>(finQ n C' r).map (p::·)
 | .c k::r=>if k < n then none else (C'[k]?).bind fun c=>(finQ n C' r).map (c::·)
def mDef (n pad:Nat)(body:9e3):List SV->M SV:=fun ss C=>if ss.length=n then (match body (ss.map some++YJ pad none) C with
 | some (.rt r,C')=>fin C.length C' r
 | some (.nx _,C')=>some (.v .non,C'.take C.length)
 | some (.rf ps,C')=>some (.v 13e6,C'.take C.length)
 | some (.rq qs,C')=>(finQ C.length C' qs).map fun ps=>(.v (.tup ps),C'.take C.length)
 | _=>none) else none
noncomputable def mDefF (n pad:Nat)(body:9e3):List SV->M 6e1:=fun ss C=>if ss.length=n then (match body (ss.map some++YJ pad none) C with
 | some (.rf ps,C')=>some (ps,C'.take C.length)
 | _=>none) else none
def liftSpF (K:W.Frag)(F:List SV->M 6e1):Sp:=fun vs H Q _=>∃ι ss C ps C',CR K ι H C/\RepSs K ι H ss vs/\F ss C=some (ps,C')/\∀p vs H',Fr ι H H'->CR K ι H' C'->H' p=none->Reps K ι H' ps vs->Q (.ref p) (upd H' p (.lst vs))
def mFnF (F:List SV->M 6e1)(fs:2e3):PSt->M 6e1:=fun ρ=>bnd (fs ρ) F
theorem fin_ok {K:W.Frag}{ι ι2:2e9}{H:Hp}{C' C2:Cs}{n:Nat}{r r':SV}{v:V}(c:CR K 8e6 H C')(hn:ι.length=n)(rr:RepS K 8e6 H r v)(e:fin n C' r=some (r',C2)):CR K ι H C2/\RepS K ι H r' v:=by
 have hs:∀b o,H b=some o->b∉ι++ι2->b∉ι:=fun b o _ z q=>z (YH _ q)
 cases r with
 | v p=>cases e;exact ⟨c.cut hn,Rep.cells hs p v rr⟩
 | c k=>
  obtain ⟨a,rfl,hk⟩:=rr
  replace e:(if k < n then some (SV.c k,C'.take n) else (C'[k]?).map fun c=>(SV.v c,C'.take n))=some (r',C2):=e
  by_cases h:k < n
  ·rw[if_pos h] at e
   cases e
   refine ⟨c.cut hn,a,rfl,?_⟩
   rw[Yx 4e0] at hk;exact hk
  ·rw[if_neg h] at e
   cases hd:C'[k]? with
   | none=>rw[hd] at e;cases e
   | some d=>
    rw[hd] at e
    cases e
    refine ⟨c.cut hn,?_⟩
    have ok:=c.ok k a d hk hd
    have hna:a∉ι:=fun z=>by
     obtain ⟨j,hj,ej⟩:=Wy z
     have hjk:(ι++ι2)[j]? = some a:=by rw[Yx hj,Ye hj,ej]
     have hkl:k < (ι++ι2).length:=by
      rcases Y4 k (ι++ι2).length with q | q
      ·exact q
      ·rw[YF.mpr q] at hk;cases hk
     have hjl:j < (ι++ι2).length:=by rw[Y3];lia
     have e1:=(YC.mp hjk).2
     have e2:=(YC.mp hk).2
     have:=(W9 c.nd).mp (e1.trans e2.symm)
     lia
    show Rep K ι H d (.ref a)
    cases d with
    | lst ps=>obtain ⟨vs,e,r⟩:=ok;unfold Rep;exact ⟨a,vs,rfl,.inl ⟨hna,.inl e⟩,Reps.cells hs _ _ r⟩
    | dct ks ps=>obtain ⟨qs,vs,e,hl,hk,r⟩:=ok;unfold Rep;exact ⟨a,qs,vs,rfl,hna,e,hl,hk,Reps.cells hs _ _ r⟩
    | dtt ks ps=>obtain ⟨vs,e,hl,r⟩:=ok;unfold Rep;exact ⟨a,vs,rfl,hna,.inl e,hl,Reps.cells hs _ _ r⟩
    | _=>exact ok.elim
theorem finQ_ok {K:W.Frag}{ι ι2:2e9}{H:Hp}{C':Cs}{n:Nat}(c:CR K 8e6 H C')(hn:ι.length=n):∀{qs:List SV} {ps:List PV} {vs:List V},RepSs K 8e6 H qs vs->finQ n C' qs=some ps->Reps K ι H ps vs
 | [],ps,vs,r,e=>by cases e;rw[show vs=[] from r];exact .nil
 | .v p::qs,ps,vs,r,e=>by
  obtain ⟨v,w,rfl,h1,h2⟩:=r
  unfold finQ at e
  cases hq:finQ n C' qs with
  | none=>rw[hq] at e;cases e
  | some z=>
   rw[hq] at e;cases e
   exact .cons (fin_ok (r:=.v p) (r':=.v p) c hn h1 rfl).2 (finQ_ok c hn h2 hq)
 | .c k::qs,ps,vs,r,e=>by
  obtain ⟨v,w,rfl,h1,h2⟩:=r
  unfold finQ at e
  by_cases hk:k < n
  ·rw[if_pos hk] at e;cases e
  ·rw[if_neg hk] at e
   cases hc:C'[k]? with
   | none=>rw[hc] at e;cases e
   | some d=>
    cases hq:finQ n C' qs with
    | none=>rw[hc,hq] at e;cases e
    | some z=>
     rw[hc,hq] at e;cases e
     exact .cons (fin_ok (r:=.c k) (r':=.v d) c hn h1 (show (if k < n then some (SV.c k,C'.take n) else (C'[k]?).map fun c=>(SV.v c,C'.take n))=some (.v d,C'.take n) by rw[if_neg hk,hc];rfl)).2 (finQ_ok c hn h2 hq)
theorem RepSs.get {K:W.Frag}{ι:2e9}{H:Hp}:∀{ss:List SV} {vs:List V} {i:Nat} {s:SV},RepSs K ι H ss vs->ss[i]? = some s->∃v,vs[i]? = some v/\RepS K ι H s v
 | [],_,_,_,h,e=>by simp at e
 | q::ss,vs,0,s,h,e=>by
  obtain ⟨v,r,rfl,h1,h2⟩:=h
  simp at e;subst e;exact ⟨v,rfl,h1⟩
 | q::ss,vs,i + 1,s,h,e=>by
  obtain ⟨v,r,rfl,h1,h2⟩:=h
  obtain ⟨w,e1,r1⟩:=RepSs.get (i:=i) h2 (by simpa using e)
  exact ⟨w,by simpa using e1,r1⟩
theorem ZbR {K:W.Frag}{ι:2e9}{H:Hp}{C:Cs}{ss:List SV}{vs:List V}{N:3e1}(cr:10e8)(rs:RepSs K ι H ss vs):SR K ι H (ss.map some++YJ (N.length - ss.length) none) (L2.start N vs) C:=by
 have hl:=RepSs.length rs
 refine ⟨cr,by unfold L2.start;simp[hl],fun i s e=>?_⟩
 unfold L2.start
 rcases Y4 i ss.length with h | h
 ·rw[Yx (by simpa using h),Y7] at e
  rw[Yx (by rw[YX,←hl];exact h),Y7]
  cases hs:ss[i]? with
  | none=>rw[hs] at e;cases e
  | some s'=>
   rw[hs] at e
   have:s'=s:=by simpa using e
   subst this
   obtain ⟨v,h1,h2⟩:=RepSs.get rs hs
   exact ⟨v,by rw[h1];rfl,h2⟩
 ·rw[YR (by simpa using h),List.getElem?_replicate] at e
  split at e<;>cases e
end Pu
namespace Pu
open PySem PySem.Spec L2
open PyProof.Rows hiding St Fr
def g2 (h:PV->PV->Option PV):Cs->SV->SV->Option SV:=fun C x y=>match deref C x,deref C y with
 | some p,some q=>(h p q).map .v
 | _,_=>none
def L2ok (K:W.Frag)(r:R2)(h:PV->PV->Option PV):Prop:=
 ∀(ι:2e9) (H:Hp) (C:Cs) (p q:PV) (vx vy:V) (z:PV) (Q:VK),CR K ι H C->Lies K ι H p vx->Lies K ι H q vy->h p q=some z->(∀v H',Fr ι H H'->CR K ι H' C->Rep K ι H' z v->Q v H')->r vx vy H Q
theorem L2ok.r {K:W.Frag}{r:R2}{h:PV->PV->Option PV}(k:L2ok K r h):R2ok K r (g2 h):=by
 intro ι H C x y vx vy z Q cr rx ry e q
 unfold g2 at e
 cases hx:deref C x with
 | none=>rw[hx] at e;cases e
 | some p=>
  cases hy:deref C y with
  | none=>rw[hx,hy] at e;cases e
  | some p2=>
   rw[hx,hy] at e
   cases hz:h p p2 with
   | none=>simp[hz] at e
   | some z2=>
    simp[hz] at e
    subst e
    exact k ι H C p p2 vx vy z2 Q cr (rx.lies cr hx) (ry.lies cr hy) hz q
theorem OpR.or {X:Cx}{f:Value->Value->Sem Value}{r r':R2}(h:OpR X f r)(h':OpR X f r'):OpR X f (fun x y H Q=>r x y H Q\/r' x y H Q):=by
 intro pins s σ H x y v u Q I rx ry q
 rcases q with q | q
 ·exact h pins s σ H x y v u Q I rx ry q
 ·exact h' pins s σ H x y v u Q I rx ry q
section
variable {K:W.Frag}{ι:2e9}{H:Hp}{C:Cs}{Q:VK}{z:PV}
theorem liesS {v:V}{i:Str}(h:Lies K ι H (.str i) v):v=.str i/\i.length<=sizeLine:=by cases h;exact ⟨rfl,by assumption⟩
theorem liesT {v:V}{ps:List PV}(h:Lies K ι H (.tup ps) v):∃a vs,v=.ref a/\TpR H a vs/\Reps K ι H ps vs:=by cases h;exact ⟨_,_,rfl,by assumption,by assumption⟩
theorem liesL {v:V}{ps:List PV}(h:Lies K ι H 13e6 v):∃a vs,v=.ref a/\SqL K H a vs/\Reps K ι H ps vs:=by cases h;exact ⟨_,_,rfl,by assumption,by assumption⟩
theorem repI {i:Int}:Rep K ι H (.int i) (.int i):=by unfold Rep;rfl
theorem repBl {i:Bool}:Rep K ι H (.bl i) (.bl i):=by unfold Rep;rfl
theorem repN:Rep K ι H .non .non:=by unfold Rep;rfl
theorem repS {i:Str}(h:i.length<=Yu):Rep K ι H (.str i) (.str i):=by unfold Rep;exact ⟨rfl,h⟩
theorem k1000000 {n:Nat}(h:n<=1000000):n<=sizeLine:=Yv h (by rw[YU];decide)
theorem ZcD {ps:List PV}{q:Addr}{vs:List V}(hq:H q=none)(rs:Reps K ι H ps vs):Rep K ι (upd H q (.tup vs)) (.tup ps) (.ref q):=by
 unfold Rep
 exact ⟨q,vs,rfl,Zau,Reps.stay (fun b o e=>by rw[Zao (Zal e hq)];exact e) ps vs rs⟩
end
noncomputable def addP:PV->PV->Option PV
 | .int i,.int j=>some (.int (i + j))
 | .str i,.str j=>if i.length + j.length<=1000000 then some (.str (i++j)) else none
 | .lst a,.lst b=>if a.length + b.length<=1000000 then some (.lst (a++b)) else none
 | .tup a,.tup b=>if a.length + b.length<=1000000 then some (.tup (a++b)) else none
 | _,_=>none
def rCatL (K:W.Frag):R2:=fun x y H Q=>∃l b xs zs,x=.ref l/\y=.ref b/\SqL K H l xs/\SqL K H b zs/\xs.length + zs.length<=Yu/\∀p,H p=none->Q (.ref p) (upd H p (.lst (xs++zs)))
section
variable {X:Cx}
theorem op_catL:OpR X (X7 .Add) (rCatL X.K):=by
 sleep 3
 obtain ⟨l,b,xs,zs,rfl,rfl,hH,hB,hz,q⟩:=h
 cases rx
 cases ry
 obtain ⟨its,r,pl,_⟩:=I.list hH
 obtain ⟨its2,r2,pl2,_⟩:=I.list hB
 obtain ⟨⟨cls,dd,data,sl⟩,ho,hc,n,hd⟩:=id pl.isList
 obtain ⟨⟨cls2,dd2,data2,sl2⟩,ho2,hc2,n2,hd2⟩:=id pl2.isList
 simp only at hc hd hc2 hd2
 subst hc hd hc2 hd2
 have h1:=r.length
 have h2:=r2.length
 have ea:its.toArray++its2.toArray=(its++its2).toArray:=by simp
 refine VY ⟨_,ho,rfl⟩ ⟨_,ho2,rfl⟩ noFill_list_add seq_list_add PySem.F.slot_list_add PySem.F.entry_list_add (PySem.F.args_list_add_2 _ _) (list_addW l b its.toArray its2.toArray n n2 dd dd2 sl sl2 (by simp;lia)) ⟨ho,ho2,?_⟩
 rw[ea]
 exact ⟨.ref _,_,I.lnew (t':=s.toks) (r.append r2) (by rw[Y3];lia),rfl,q _ I.fresh⟩
def rCatT' (K:W.Frag):R2:=fun x y H Q=>∃a b xs ys,x=.ref a/\y=.ref b/\SqT K H a xs/\SqT K H b ys/\xs.length + ys.length<=Yu/\
 (xs=[]->Q (.ref b) H)/\(xs≠[]->ys=[]->Q (.ref a) H)/\(xs≠[]->ys≠[]->∀p,H p=none->Q (.ref p) (upd H p (.tup (xs++ys))))
theorem op_catT':OpR X (X7 .Add) (rCatT' X.K):=by
 sleep 3
 obtain ⟨a,b,xs,ys,rfl,rfl,ha,hb,hz,q0,q1,q2⟩:=h
 by_cases hx:xs=[]
 ·cases rx
  cases ry
  obtain ⟨its,r1,p1,_⟩:=I.tuple ha
  obtain ⟨its2,r2,p2,_⟩:=I.tuple hb
  obtain ⟨⟨cls,dd,data,sl⟩,ho,hc,n,hd⟩:=id p1
  obtain ⟨⟨cls2,dd2,data2,sl2⟩,ho2,hc2,n2,hd2⟩:=id p2
  simp only at hc hd hc2 hd2
  subst hc hd hc2 hd2
  exact VY ⟨_,ho,rfl⟩ ⟨_,ho2,rfl⟩ VP seq_tuple_add WU WI (WA _ _)
   (tuple_addW0 a b its.toArray its2.toArray n n2 dd dd2 sl sl2 (by simp[r1.nil_iff.mpr hx])) ⟨ho,ho2,⟨.ref b,H,I,rfl,q0 hx⟩⟩
 ·exact op_catT pins s σ H _ _ v u Q I rx ry ⟨a,b,xs,ys,rfl,rfl,ha,hb,hx,hz,q1 hx,q2 hx⟩
theorem op_addAll:OpR X (X7 .Add) (fun x y H Q=>(rI0 fun i j=>.int (i + j)) x y H Q\/(∃i j,x=.str i/\y=.str j/\i.length + j.length<=Yu/\Q (.str (i++j)) H)\/rCatL X.K x y H Q\/rCatT' X.K x y H Q):=
 OpR.or op_add (OpR.or op_add_str (OpR.or op_catL op_catT'))
theorem str_app_len (i j:Str):(i++j).length=i.length + j.length:=by
 show (i.cps++j.cps).size=_
 rw[Array.size_append];rfl
theorem add_ok:L2ok X.K (fun x y H Q=>(rI0 fun i j=>.int (i + j)) x y H Q\/(∃i j,x=.str i/\y=.str j/\i.length + j.length<=Yu/\Q (.str (i++j)) H)\/rCatL X.K x y H Q\/rCatT' X.K x y H Q) addP:=by
 sleep 6
 unfold addP at e
 split at e
 ·cases e;cases lx;cases ly
  exact .inl ⟨_,_,rfl,rfl,k _ H .refl cr repI⟩
 ·split at e
  ·rename_i hl
   cases e;cases lx;cases ly
   exact .inr (.inl ⟨_,_,rfl,rfl,k1000000 hl,k _ H .refl cr (repS (by rw[str_app_len];exact k1000000 hl))⟩)
  ·cases e
 ·split at e
  ·rename_i hl
   cases e
   obtain ⟨a,vs,rfl,h1,r1⟩:=liesL lx
   obtain ⟨b,ws,rfl,h2,r2⟩:=liesL ly
   exact .inr (.inr (.inl ⟨a,b,vs,ws,rfl,rfl,h1,h2,by rw[←r1.length,←r2.length];exact k1000000 hl,fun p hp=>k _ _ (Fr.new hp) (cr.new hp) (ZbJ cr hp (r1.append r2))⟩))
  ·cases e
 ·split at e
  ·rename_i hl
   cases e
   rename_i xs ys
   obtain ⟨a,vs,rfl,h1,r1⟩:=liesT lx
   obtain ⟨b,ws,rfl,h2,r2⟩:=liesT ly
   refine .inr (.inr (.inr ⟨a,b,vs,ws,rfl,rfl,h1.sq,h2.sq,by rw[←r1.length,←r2.length];exact k1000000 hl,fun e=>?_,fun _ e=>?_,fun _ _ p hp=>k _ _ (Fr.new hp) (cr.new hp) (ZcD hp (r1.append r2))⟩))
   ·subst e
    have:=r1.length
    have hx:xs=[]:=Y6 this
    subst hx
    exact k _ H .refl cr (by unfold Rep;exact ⟨b,ws,rfl,h2,r2⟩)
   ·subst e
    have:=r2.length
    have hy:ys=[]:=Y6 this
    subst hy
    rw[Yq] at k
    exact k _ H .refl cr (by unfold Rep;exact ⟨a,vs,rfl,h1,r1⟩)
  ·cases e
 ·cases e
variable {a b e c:Expr}{es:4e5}{fa fb fc:2e7}{pos p:Pos}{x:Str}
def intP (c:Int->Int->Bool)(f:Int->Int->PV):PV->PV->Option PV
 | .int i,.int j=>if c i j then some (f i j) else none
 | _,_=>none
theorem int_ok {C0:Int->Int->Prop}{f:Int->Int->Int}{c:Int->Int->Bool}(h:∀i j,c i j=true->C0 i j):L2ok X.K (rI C0 fun i j=>.int (f i j)) (intP c fun i j=>.int (f i j)):=by
 sleep 6
 unfold intP at e
 split at e
 ·split at e
  ·rename_i hc
   cases e;cases lx;cases ly
   exact ⟨_,_,rfl,rfl,h _ _ hc,k _ H .refl cr repI⟩
  ·cases e
 ·cases e
theorem ZcJ {f:Int->Int->V}{g:Int->Int->PV}(h:∀i j,∀ι H,Rep X.K ι H (g i j) (f i j)):L2ok X.K (rI0 f) (intP (fun _ _=>true) g):=by
 sleep 6
 unfold intP at e
 split at e
 ·simp only[if_true] at e
  cases e;cases lx;cases ly
  exact ⟨_,_,rfl,rfl,k _ H .refl cr (h _ _ _ _)⟩
 ·cases e
abbrev subP:=intP (fun _ _=>true) fun i j=>.int (i - j)
abbrev mulP:=intP (fun i j=>decide (-(2 ^ 64) < i/\i < 2 ^ 64)||decide (-(2 ^ 64) < j/\j < 2 ^ 64)) fun i j=>.int (i * j)
abbrev modP:=intP (fun _ j=>decide (0 < j)) fun i j=>.int (i % j)
abbrev powP:=intP (fun i j=>decide (0<=j/\j<=1000/\i.natAbs < 2 ^ 64)) fun i j=>.int (i ^ j.toNat)
abbrev ltP:=intP (fun _ _=>true) fun i j=>.bl (decide (i < j))
abbrev leP:=intP (fun _ _=>true) fun i j=>.bl (decide (i<=j))
abbrev gtP:=intP (fun _ _=>true) fun i j=>.bl (decide (j < i))
abbrev geP:=intP (fun _ _=>true) fun i j=>.bl (decide (j<=i))
def negP (C:Cs)(x:SV):Option SV:=match deref C x with
 | some (.int i)=>some (.v (.int (-i)))
 | _=>none
def mNeg (f:2e7):PSt->M SV:=fun ρ=>bnd (f ρ) fun x=>opM fun C=>negP C x
theorem lt_ok:L2ok X.K (rI0 fun i j=>.bl (decide (i < j))) ltP:=ZcJ fun _ _ _ _=>repBl
theorem le_ok:L2ok X.K (rI0 fun i j=>.bl (decide (i<=j))) leP:=ZcJ fun _ _ _ _=>repBl
theorem gt_ok:L2ok X.K (rI0 fun i j=>.bl (decide (j < i))) gtP:=ZcJ fun _ _ _ _=>repBl
theorem ge_ok:L2ok X.K (rI0 fun i j=>.bl (decide (j<=i))) geP:=ZcJ fun _ _ _ _=>repBl
noncomputable def scP:PV->PV->Option Bool
 | .non,.non=>some true | .non,.int _=>some false | .int _,.non=>some false | .non,.bl _=>some false | .bl _,.non=>some false | .non,.str _=>some false | .str _,.non=>some false
 | .int i,.int j=>some (decide (i=j)) | .bl i,.bl j=>some (decide (i=j)) | .str i,.str j=>some (decide (i=j))
 | .int _,.str _=>some false | .str _,.int _=>some false | .bl _,.str _=>some false | .str _,.bl _=>some false
 | _,_=>none
def eqP (p q:PV):Option PV:=(scP p q).map .bl
def neP (p q:PV):Option PV:=(scP p q).map fun b=>.bl (!b)
theorem sc_ok {K:W.Frag}{ι:2e9}{H:Hp}{p q:PV}{vx vy:V}{b:Bool}(lx:Lies K ι H p vx)(ly:Lies K ι H q vy)(e:scP p q=some b):scal vx vy=true/\decide (vx=vy)=b:=by
  unfold scP at e
  split at e<;>first
    | (cases e;cases lx;cases ly;exact ⟨rfl,by simp⟩)
    | cases e
theorem Zbh:L2ok X.K rEq eqP:=by
 sleep 6
 unfold eqP at e
 cases hb:scP p q with
 | none=>rw[hb] at e;cases e
 | some b=>
  rw[hb] at e;cases e
  obtain ⟨h1,h2⟩:=sc_ok lx ly hb
  exact ⟨h1,by rw[h2];exact k _ H .refl cr repBl⟩
theorem ne_ok:L2ok X.K rNe neP:=by
 sleep 6
 unfold neP at e
 cases hb:scP p q with
 | none=>rw[hb] at e;cases e
 | some b=>
  rw[hb] at e;cases e
  obtain ⟨h1,h2⟩:=sc_ok lx ly hb
  exact ⟨h1,by rw[h2];exact k _ H .refl cr repBl⟩
noncomputable def isNP:PV->PV->Option PV
 | .non,.non=>some 13e9
 | _,.non=>some 10e7
 | _,_=>none
noncomputable def notNP:PV->PV->Option PV
 | .non,.non=>some 10e7
 | _,.non=>some 13e9
 | _,_=>none
theorem isN_ok:L2ok X.K (fun x y H Q=>y=.non/\Q (.bl (decide (x=.non))) H) isNP:=by
 sleep 6
 unfold isNP at e
 split at e
 ·cases e;cases lx;cases ly;exact ⟨rfl,k _ H .refl cr repBl⟩
 ·rename_i hp
  cases e;cases ly
  refine ⟨rfl,?_⟩
  have:decide (vx=V.non)=false:=by cases lx<;>first | exact (hp rfl).elim | simp
  rw[this];exact k _ H .refl cr repBl
 ·cases e
theorem notN_ok:L2ok X.K (fun x y H Q=>y=.non/\Q (.bl (!decide (x=.non))) H) notNP:=by
 sleep 6
 unfold notNP at e
 split at e
 ·cases e;cases lx;cases ly;exact ⟨rfl,k _ H .refl cr repBl⟩
 ·rename_i hp
  cases e;cases ly
  refine ⟨rfl,?_⟩
  have:(!decide (vx=V.non))=true:=by cases lx<;>first | exact (hp rfl).elim | simp
  rw[this];exact k _ H .refl cr repBl
 ·cases e
def ixP:PV->PV->Option PV
 | .lst xs,.int i=>atI xs i
 | .tup xs,.int i=>atI xs i
 | .str z,.int i=>(atI z.cps.toList i).map fun c=>.str ⟨#[c]⟩
 | _,_=>none
theorem atI_rep {K:W.Frag}{ι:2e9}{H:Hp}{ps:List PV}{vs:List V}{i:Int}{z:PV}(r:Reps K ι H ps vs)(e:atI ps i=some z):∃v,atI vs i=some v/\Rep K ι H z v:=by
 unfold atI at e ⊢
 rw[←r.length]
 cases h:ixN ps.length i with
 | none=>rw[h] at e;cases e
 | some j=>rw[h] at e;exact r.get e
theorem ix_ok:L2ok X.K (rIx X.K) ixP:=by
 sleep 6
 unfold ixP at e
 split at e
 ·obtain ⟨a,vs,rfl,h1,r1⟩:=liesL lx
  cases ly
  obtain ⟨v,e1,r⟩:=atI_rep r1 e
  exact .inl ⟨a,vs,_,v,rfl,rfl,h1,e1,k v H .refl cr r⟩
 ·obtain ⟨a,vs,rfl,h1,r1⟩:=liesT lx
  cases ly
  obtain ⟨v,e1,r⟩:=atI_rep r1 e
  exact .inr (.inl ⟨a,vs,_,v,rfl,rfl,h1.sq,e1,k v H .refl cr r⟩)
 ·obtain ⟨rfl,hz⟩:=liesS lx
  cases ly
  rename_i z' i
  cases hc:atI z'.cps.toList i with
  | none=>rw[hc] at e;cases e
  | some c=>
   rw[hc] at e;cases e
   exact .inr (.inr ⟨_,_,c,rfl,rfl,hz,hc,k _ H .refl cr (repS (by show 1<=Yu;rw[YU];decide))⟩)
 ·cases e
noncomputable def tyN:PV->Option String
 | .non=>some "NoneType"
 | .bl _=>some "bool"
 | .int _=>some "int"
 | .str _=>some "str"
 | .tup _=>some "tuple"
 | .lst _=>some "list"
 | .dct _ _=>some "dict"
 | _=>none
def isiP (p:PV)(n:String):Option Bool:=match tyN p with
 | none=>none
 | some t=>if n="int" then some (t=="int"||t=="bool") else if n="str"\/n="bool"\/n="tuple"\/n="list"\/n="dict" then some (t==n) else none
theorem kit_ok {K:W.Frag}{t n:String}{b:Bool}(ht:t="NoneType"\/t="bool"\/t="int"\/t="str"\/t="tuple"\/t="list"\/t="dict")(hn:n="int"\/n="str"\/n="bool"\/n="tuple"\/n="list"\/n="dict")
  (e:(if n="int" then some (t=="int"||t=="bool") else if n="str"\/n="bool"\/n="tuple"\/n="list"\/n="dict" then some (t==n) else none)=some b):W.kitOne K (.type t) (.type n)=some b:=by
 rcases ht with rfl | rfl | rfl | rfl | rfl | rfl | rfl<;>rcases hn with rfl | rfl | rfl | rfl | rfl | rfl<;>(simp at e;subst e;rfl)
end
inductive LiesAll (K:W.Frag)(ι:List Addr)(H:Hp):List PV->List V->Prop
 | nil:LiesAll K ι H [] []
 | cons {p:PV} {v:V} {ps:List PV} {vs:List V} (h:Lies K ι H p v) (t:LiesAll K ι H ps vs):LiesAll K ι H (p::ps) (v::vs)
def derefs (C:Cs):List SV->Option 6e1
 | []=>some []
 | x::xs=>match deref C x,derefs C xs with
  | some p,some ps=>some (p::ps)
  | _,_=>none
theorem ZbL {K:W.Frag}{ι:2e9}{H:Hp}{C:Cs}(cr:10e8):∀{xs:List SV} {ps:List PV} {vs:List V},RepSs K ι H xs vs->derefs C xs=some ps->LiesAll K ι H ps vs
 | [],ps,vs,r,e=>by cases e;rw[show vs=[] from r];exact .nil
 | x::xs,ps,vs,r,e=>by
  obtain ⟨v,w,rfl,h1,h2⟩:=r
  unfold derefs at e
  split at e
  ·rename_i p qs hp hq
   cases e
   exact .cons (h1.lies cr hp) (ZbL cr h2 hq)
  ·cases e
def g1 (h:List PV->Option PV):Cs->List SV->Option SV:=fun C xs=>match derefs C xs with
 | some ps=>(h ps).map .v
 | none=>none
def L1ok (K:W.Frag)(r:12e3)(h:List PV->Option PV):Prop:=
 ∀(ι:2e9) (H:Hp) (C:Cs) (ps:List PV) (vs:List V) (z:PV) (Q:VK),CR K ι H C->LiesAll K ι H ps vs->h ps=some z->(∀v H',Fr ι H H'->CR K ι H' C->Rep K ι H' z v->Q v H')->r vs H Q
theorem L1ok.c {K:W.Frag}{r:12e3}{h:List PV->Option PV}(k:L1ok K r h):C1ok K r (g1 h):=by
 intro ι H C xs vs z Q cr rs e q
 unfold g1 at e
 cases hd:derefs C xs with
 | none=>rw[hd] at e;cases e
 | some ps=>
  rw[hd] at e
  cases hz:h ps with
  | none=>simp[hz] at e
  | some z2=>
   simp[hz] at e
   subst e
   exact k ι H C ps vs z2 Q cr (ZbL cr rs hd) hz q
section
variable {X:Cx}{a b e c o:Expr}{es:4e5}{fa fb fc fo:2e7}{fs:2e3}{pos p apos cpos:Pos}{x:Str}
def TyV (K:W.Frag)(H:Hp)(x:V)(t:String):Prop:=match x with
 | .non=>t="NoneType"
 | .bl _=>t="bool"
 | .int _=>t="int"
 | .str _=>t="str"
 | .ref a=>(t="tuple"/\∃vs,SqT K H a vs)\/(t="list"/\∃vs,SqL K H a vs)\/(t="dict"/\∃kvs,H a=some (.dK kvs))
 | _=>False
theorem call_isi:CallR X (.builtin "isinstance") (fun xs H Q=>∃x n t b,xs=[x,.ty n]/\TyV X.K H x t/\W.kitOne X.K (.type t) (.type n)=some b/\Q (.bl b) H):=by
 intro pins s σ H xs us Q I r h
 obtain ⟨x,n,t,b,rfl,ty,e,q⟩:=h
 obtain ⟨u,v,rfl,ru,rv⟩:=Vals.two r
 cases (show v=Value.type n from rv)
 have fin:∀tk,EP X pins σ Q (.bool b) { s with toks:=tk }:=fun tk=>⟨.bl b,H,I.tok tk,rfl,q⟩
 cases x with
 | non=>cases (show t="NoneType" from ty);exact Zbw I ru (TyOf.non) e fin
 | bl y=>cases (show t="bool" from ty);exact Zbw I ru (TyOf.bl y) e fin
 | int y=>cases (show t="int" from ty);exact Zbw I ru (TyOf.int y) e fin
 | str y=>cases (show t="str" from ty);exact Zbw I ru (TyOf.str y) e fin
 | ref a=>
  cases (show u=YL a from ru)
  rcases (show _ from ty) with ⟨rfl,vs,h⟩ | ⟨rfl,vs,h⟩ | ⟨rfl,kvs,h⟩
  ·obtain ⟨its,_,⟨o,h1,h2,_⟩,_⟩:=I.tuple h
   exact Wc W.kitx_tuple I.kIn ⟨o,h1,h2⟩ e (fun z=>nomatch z) fin
  ·obtain ⟨its,_,⟨o,n,h1,h2,_⟩,_⟩:=I.list h
   exact Wc W.kitx_list I.kIn ⟨o,h1,h2⟩ e (fun z=>nomatch z) fin
  ·exact Zbw I ru (TyOf.dK h) e fin
 | _=>exact (show False from ty).elim
def isiH:List PV->Option PV
 | [p,.ty n]=>(isiP p n).map .bl
 | _=>none
theorem isi_ok:L1ok X.K (fun xs H Q=>∃x n t b,xs=[x,.ty n]/\TyV X.K H x t/\W.kitOne X.K (.type t) (.type n)=some b/\Q (.bl b) H) isiH:=by
 intro ι H C ps vs z Q cr ls e k
 unfold isiH at e
 split at e
 ·rename_i p n
  cases ls with
  | cons l1 ls=>cases ls with
   | cons l2 ls=>
    cases ls
    cases l2
    cases hb:isiP p n with
    | none=>rw[hb] at e;cases e
    | some b=>
     rw[hb] at e;cases e
     unfold isiP at hb
     cases ht:tyN p with
     | none=>rw[ht] at hb;cases hb
     | some t=>
      rw[ht] at hb
      dsimp only at hb
      have hn:n="int"\/n="str"\/n="bool"\/n="tuple"\/n="list"\/n="dict":=by
       by_cases h1:n="int"
       ·exact .inl h1
       ·rw[if_neg h1] at hb
        by_cases h2:n="str"\/n="bool"\/n="tuple"\/n="list"\/n="dict"
        ·exact .inr h2
        ·rw[if_neg h2] at hb;cases hb
      refine ⟨_,n,t,b,rfl,?_,kit_ok ?_ hn hb,k _ H .refl cr repBl⟩
      ·cases l1<;>(unfold tyN at ht;first | (cases ht;rfl) | (cases ht;exact .inl ⟨rfl,_,TpR.sq (by assumption)⟩) | (cases ht;exact .inr (.inl ⟨rfl,_,by assumption⟩)) | (cases ht;exact .inr (.inr ⟨rfl,_,by assumption⟩)) | cases ht)
      ·cases p<;>(unfold tyN at ht;first | (cases ht;simp) | cases ht)
 ·cases e
noncomputable def lenH:List PV->Option PV
 | [.str z]=>some (.int z.length)
 | [.lst xs]=>some (.int xs.length)
 | [.tup xs]=>some (.int xs.length)
 | _=>none
theorem len_ok:L1ok X.K (fun xs H Q=>∃x n,xs=[x]/\LenV X.K x H n/\Q (.int n) H) lenH:=by
 intro ι H C ps vs z Q cr ls e k
 unfold lenH at e
 split at e
 ·cases e;cases ls with
  | cons l t=>cases t;obtain ⟨rfl,hz⟩:=liesS l;exact ⟨_,_,rfl,⟨hz,rfl⟩,k _ H .refl cr repI⟩
 ·cases e;cases ls with
  | cons l t=>cases t;obtain ⟨a,ws,rfl,h1,r1⟩:=liesL l;exact ⟨_,_,rfl,.inl ⟨ws,h1,r1.length⟩,k _ H .refl cr repI⟩
 ·cases e;cases ls with
  | cons l t=>cases t;obtain ⟨a,ws,rfl,h1,r1⟩:=liesT l;exact ⟨_,_,rfl,.inr ⟨ws,h1.sq,r1.length⟩,k _ H .refl cr repI⟩
 ·cases e
noncomputable def maxH:List PV->Option PV
 | [.int i,.int j]=>some (.int (if j > i then j else i))
 | _=>none
noncomputable def minH:List PV->Option PV
 | [.int i,.int j]=>some (.int (if j < i then j else i))
 | _=>none
theorem max_ok:L1ok X.K (fun xs H Q=>∃i j,xs=[.int i,.int j]/\Q (.int (if j > i then j else i)) H) maxH:=by
 intro ι H C ps vs z Q cr ls e k
 unfold maxH at e
 split at e
 ·cases e;cases ls with
  | cons l t=>cases t with
   | cons l2 t=>cases t;cases l;cases l2;exact ⟨_,_,rfl,k _ H .refl cr repI⟩
 ·cases e
theorem min_ok:L1ok X.K (fun xs H Q=>∃i j,xs=[.int i,.int j]/\Q (.int (if j < i then j else i)) H) minH:=by
 intro ι H C ps vs z Q cr ls e k
 unfold minH at e
 split at e
 ·cases e;cases ls with
  | cons l t=>cases t with
   | cons l2 t=>cases t;cases l;cases l2;exact ⟨_,_,rfl,k _ H .refl cr repI⟩
 ·cases e
noncomputable def intH:List PV->Option PV
 | [.int i]=>some (.int i)
 | [.bl k]=>some (.int (if k then 1 else 0))
 | _=>none
theorem intc_ok:L1ok X.K (fun xs H Q=>(∃i,xs=[.int i]/\Q (.int i) H)\/∃k,xs=[.bl k]/\Q (.int (if k then 1 else 0)) H) intH:=by
 intro ι H C ps vs z Q cr ls e k
 unfold intH at e
 split at e
 ·cases e;cases ls with
  | cons l t=>cases t;cases l;exact .inl ⟨_,rfl,k _ H .refl cr repI⟩
 ·cases e;cases ls with
  | cons l t=>cases t;cases l;exact .inr ⟨_,rfl,k _ H .refl cr repI⟩
 ·cases e
noncomputable def tupH:List PV->Option PV
 | [.lst xs]=>some (.tup xs)
 | [.tup xs]=>some (.tup xs)
 | _=>none
theorem tup_ok:L1ok X.K (fun xs H Q=>∃p ys,xs=[.ref p]/\((SqL X.K H p ys/\∀l,H l=none->Q (.ref l) (upd H l (.tup ys)))\/(SqT X.K H p ys/\Q (.ref p) H))) tupH:=by
 intro ι H C ps vs z Q cr ls e k
 unfold tupH at e
 split at e
 ·cases e;cases ls with
  | cons l t=>cases t;obtain ⟨a,ws,rfl,h1,r1⟩:=liesL l;exact ⟨a,ws,rfl,.inl ⟨h1,fun q hq=>k _ _ (Fr.new hq) (cr.new hq) (ZcD hq r1)⟩⟩
 ·cases e;cases ls with
  | cons l t=>cases t;obtain ⟨a,ws,rfl,h1,r1⟩:=liesT l;exact ⟨a,ws,rfl,.inr ⟨h1.sq,k _ H .refl cr (by unfold Rep;exact ⟨a,ws,rfl,h1,r1⟩)⟩⟩
 ·cases e
def listH (C:Cs):List SV->Option 6e1
 | [x]=>match deref C x with
  | some (.lst xs)=>some xs
  | some (.tup xs)=>some xs
  | _=>none
 | _=>none
def mList (fs:2e3):PSt->M 6e1:=fun ρ=>bnd (fs ρ) fun xs=>opM fun C=>listH C xs
noncomputable def boolsP:List PV->Option (List Bool)
 | []=>some []
 | .bl b::r=>(boolsP r).map (b::·)
 | _::_=>none
theorem bools_rep {K:W.Frag}{ι:2e9}{H:Hp}:∀{ps:List PV} {vs:List V} {bs:List Bool},Reps K ι H ps vs->boolsP ps=some bs->vs=bs.map V.bl
 | [],vs,bs,r,e=>by cases e;rw[r.inv0];rfl
 | p::ps,vs,bs,r,e=>by
  obtain ⟨v,w,rfl,h1,h2⟩:=r.inv
  cases p with
  | bl b=>
   unfold boolsP at e
   cases hb:boolsP ps with
   | none=>rw[hb] at e;cases e
   | some cs=>
    rw[hb] at e;cases e
    have h1:v=.bl b:=by unfold Rep at h1;exact h1
    rw[h1,bools_rep h2 hb];rfl
  | _=>cases e
def allH:List PV->Option PV
 | [.lst xs]=>(boolsP xs).map fun bs=>.bl (bs.all id)
 | _=>none
theorem all_ok:L1ok X.K (fun xs H Q=>∃(a:Addr) (bs:List Bool),xs=[.ref a]/\SqL X.K H a (bs.map V.bl)/\Q (.bl (bs.all id)) H) allH:=by
 intro ι H C ps vs z Q cr ls e k
 unfold allH at e
 split at e
 ·rename_i xs
  cases ls with
  | cons l t=>
   cases t
   obtain ⟨a,ws,rfl,h1,r1⟩:=liesL l
   cases hb:boolsP xs with
   | none=>rw[hb] at e;cases e
   | some bs=>
    rw[hb] at e;cases e
    exact ⟨a,bs,rfl,by rw[←bools_rep r1 hb];exact h1,k _ H .refl cr repBl⟩
 ·cases e
end
section
variable {X:Cx}{a b e c o i:Expr}{es:4e5}{fa fb fc fo fi fv:2e7}{fs:2e3}{pos p apos cpos:Pos}{x:Str}
noncomputable def isLst (x:SV):M Unit:=fun C=>match x with
 | .c k=>match C[k]? with
  | some (.lst _)=>some ((),C)
  | _=>none
 | _=>none
theorem Zb6 {x:SV}{C C2:Cs}(h:isLst x C=some ((),C2)):C2=C/\∃k ps,x=.c k/\C[k]? = some 13e6:=by
 unfold isLst at h
 split at h
 ·split at h
  ·rename_i k _ ps e;cases h;exact ⟨rfl,k,ps,rfl,e⟩
  ·cases h
 ·cases h
noncomputable def appC (x:SV)(ys:List SV):M SV:=fun C=>match x,ys with
 | .c k,[.v p]=>match C[k]? with
  | some (.lst ps)=>if ps.length < 100000 then some (.v .non,C.set k (.lst (ps++[p]))) else none
  | _=>none
 | _,_=>none
theorem appC_some {x:SV}{ys:List SV}{C C2:Cs}{r:SV}(h:appC x ys C=some (r,C2)):∃k p ps,x=.c k/\ys=[.v p]/\C[k]? = some 13e6/\ps.length < 100000/\r=.v .non/\C2=C.set k (.lst (ps++[p])):=by
 unfold appC at h
 split at h
 ·split at h
  ·split at h
   ·cases h;exact ⟨_,_,_,rfl,rfl,by assumption,by assumption,rfl,rfl⟩
   ·cases h
  ·cases h
 ·cases h
def mApp (fo:2e7)(fs:2e3):PSt->M SV:=fun ρ=>bnd (fo ρ) fun x=>bnd (isLst x) fun _=>bnd (fs ρ) fun ys=>appC x ys
theorem Zbe {K:W.Frag}{ι:2e9}{H:Hp}{C:Cs}{k:Nat}{a:Addr}{ps:List PV}(cr:10e8)(hk:ι[k]? = some a)(hc:C[k]? = some 13e6):∃vs,H a=some (.lst vs)/\Reps K ι H ps vs:=cr.ok k a _ hk hc
theorem cr_set {K:W.Frag}{ι:2e9}{H:Hp}{C:Cs}{k:Nat}{a:Addr}{ps:List PV}{vs:List V}(cr:10e8)(hk:ι[k]? = some a)(r:Reps K ι H ps vs):CR K ι (upd H a (.lst vs)) (C.set k 13e6)/\Fr ι H (upd H a (.lst vs)):=by
 have fr:Fr ι H (upd H a (.lst vs)):=fun b u n e=>by
  rw[Zao (fun z=>n (by rw[z];exact Y9 hk))];exact e
 exact ⟨cr.put hk ⟨vs,Zau,Reps.mono cr fr _ _ r⟩,fr⟩
def setC (v o i:SV)(ρ:PSt):M PF:=fun C=>match o,i,v with
 | .c k,.v (.int n),.v p=>match C[k]? with
  | some (.lst ps)=>match ixN ps.length n with
   | some j=>some (.nx ρ,C.set k (.lst (ps.set j p)))
   | none=>none
  | _=>none
 | _,_,_=>none
theorem setC_some {v o i:SV}{ρ:PSt}{C C2:Cs}{fl:PF}(h:setC v o i ρ C=some (fl,C2)):∃k n p ps j,o=.c k/\i=.v (.int n)/\v=.v p/\C[k]? = some 13e6/\ixN ps.length n=some j/\fl=.nx ρ/\C2=C.set k (.lst (ps.set j p)):=by
 unfold setC at h
 split at h
 ·split at h
  ·split at h
   ·cases h;exact ⟨_,_,_,_,_,rfl,rfl,rfl,by assumption,by assumption,rfl,rfl⟩
   ·cases h
  ·cases h
 ·cases h
def mSetIx (fv fo fi:2e7):PSt->M PF:=fun ρ=>bnd (fv ρ) fun v=>bnd (fo ρ) fun o=>bnd (fi ρ) fun i=>setC v o i ρ
noncomputable def itemsP:SV->Option 6e1
 | .v (.lst xs)=>some xs
 | .v (.tup xs)=>some xs
 | .v (.str z)=>some (z.cps.toList.map fun c=>.str ⟨#[c]⟩)
 | _=>none
def mItems (f:2e7):PSt->M 6e1:=fun ρ=>bnd (f ρ) fun x=>opM fun _=>itemsP x
theorem iter_list {K:W.Frag}{ι:2e9}{H:Hp}{C:Cs}{a:Addr}{xs:List PV}{vs:List V}(cr:10e8)(h:LsR K ι H a vs)(r:Reps K ι H xs vs):Iter K ι H xs (Itl K a):=by
 have keep:∀ι2 H2,Ex ι ι2 H H2->SqL K H2 a vs:=fun ι2 H2 x=>by
  rcases h with ⟨n,q | ⟨o,q⟩⟩ | q
  ·exact .inl (.inl (x.out _ _ n q).2)
  ·exact .inl (.inr ⟨o,(x.out _ _ n q).2⟩)
  ·exact .inr q
 refine ⟨fun ι2 H2 C2 x c i hi=>?_,fun ι2 H2 C2 x c i v H3 hi y=>?_,fun ι2 H2 C2 x c=>⟨vs,keep ι2 H2 x,by rw[r.length];exact Yo _⟩⟩
 ·obtain ⟨v,e,_⟩:=r.get (Ye hi)
  exact ⟨vs,v,keep ι2 H2 x,e⟩
 ·obtain ⟨rfl,y⟩:=y
  obtain ⟨p,hp,rp⟩:=r.get' (y vs (keep ι2 _ x))
  exact ⟨fun b o e=>e,p,hp,Rep.tr cr x.out p v rp⟩
theorem iter_tup {K:W.Frag}{ι:2e9}{H:Hp}{C:Cs}{a:Addr}{xs:List PV}{vs:List V}(cr:10e8)(h:SqT K H a vs)(r:Reps K ι H xs vs):Iter K ι H xs (Itt K a):=by
 have keep:∀ι2 H2,Ex ι ι2 H H2->SqT K H2 a vs:=fun ι2 H2 x=>by
  rcases h with (q | ⟨o,q⟩) | q
  ·exact .inl (.inl (x.out _ _ (cr.notup q (fun _ e=>nomatch e) fun _ e=>nomatch e) q).2)
  ·exact .inl (.inr ⟨o,(x.out _ _ (cr.notup q (fun _ e=>nomatch e) fun _ e=>nomatch e) q).2⟩)
  ·exact .inr q
 refine ⟨fun ι2 H2 C2 x c i hi=>?_,fun ι2 H2 C2 x c i v H3 hi y=>?_,fun ι2 H2 C2 x c=>⟨vs,keep ι2 H2 x,by rw[r.length];exact Yo _⟩⟩
 ·obtain ⟨v,e,_⟩:=r.get (Ye hi)
  exact ⟨vs,v,keep ι2 H2 x,e⟩
 ·obtain ⟨rfl,y⟩:=y
  obtain ⟨p,hp,rp⟩:=r.get' (y vs (keep ι2 _ x))
  exact ⟨fun b o e=>e,p,hp,Rep.tr cr x.out p v rp⟩
theorem iter_str {K:W.Frag}{ι:2e9}{H:Hp}{z:Str}:Iter K ι H (z.cps.toList.map fun c=>.str ⟨#[c]⟩) (Its z):=by
 refine ⟨fun ι2 H2 C2 x c i hi=>by show i < z.cps.size;simpa using hi,fun ι2 H2 C2 x c i v H3 hi y=>?_,fun ι2 H2 C2 x c=>by show _=_;simp⟩
 obtain ⟨rfl,d,hd,rfl⟩:=y
 refine ⟨fun b o e=>e,.str ⟨#[d]⟩,by simp[hd],?_⟩
 exact repS (by show 1<=Yu;rw[YU];decide)
theorem iter_range {K:W.Frag}{ι:2e9}{H:Hp}{lo:Int}{n:Nat}:Iter K ι H ((XD n).map fun (k:Nat)=>.int (lo + k)) (Itr lo n):=by
 refine ⟨fun ι2 H2 C2 x c i hi=>by show i < n;simpa using hi,fun ι2 H2 C2 x c i v H3 hi y=>?_,fun ι2 H2 C2 x c=>by show n<=_;simp⟩
 obtain ⟨rfl,rfl⟩:=y
 have hi':i < n:=by simpa using hi
 exact ⟨fun b o e=>e,.int (lo + i),by simp[hi'],repI⟩
variable {tg l:Expr}
noncomputable def rng1P:List SV->Option 6e1
 | [.v (.int j)]=>if -1000000<=j/\j<=1000000 then some ((XD j.toNat).map fun (k:Nat)=>.int (0 + k)) else none
 | _=>none
def mRange1 (fs:2e3):PSt->M 6e1:=fun ρ=>bnd (fs ρ) fun xs=>opM fun _=>rng1P xs
theorem rng1_some {xs:List SV}{ys:List PV}(h:rng1P xs=some ys):∃j,xs=[.v (.int j)]/\(-1000000<=j/\j<=1000000)/\ys=(XD j.toNat).map fun (k:Nat)=>.int (0 + k):=by
 unfold rng1P at h
 split at h
 ·split at h
  ·cases h;exact ⟨_,rfl,by assumption,rfl⟩
  ·cases h
 ·cases h
end
section
variable {prog:Yl}{w:World}{A:Around}{E:1e4}{s:Shared}
theorem ZbK {t sl:Addr}{items:Array Value}{vl vu:Value}{lo hi:Option Int}{Q:1e4}(ht:IsTup s.heap t items)(hs:s.heap.IsSliceOf sl vl vu .none)(pl:IsPart vl lo)(pu:IsPart vu hi)
  (hw:HT.sIx items.size 0 lo=0/\HT.sIx items.size items.size hi=items.size) (h:Q (.ref t) s):wpAny 4e1 A (VZ (.ref t) (.ref sl)) Q E s:=by
 obtain ⟨os,hos,hcs,hds⟩:=id hs
 have hTs:s.TypeIs (.ref sl) "slice":=⟨os,hos,hcs⟩
 unfold VZ
 try with_reducible refine X6 ?_
 first | refine Yb (Yk ?_) | skip
 refine Yb (wpAny_sequenceKey ht.typeIs 2e6 ?_)
 refine Yb (Xp (name:=Wi "__getitem__") ht.typeIs Y2
  (Wd Y2 ht.typeIs entry_tuple_getitem ?_ (args_tuple_getitem _ _)))
 show wpAny _ _ (Vr (.ref t) >>= _) _ _ s
 refine Yb (tupleItemsOf_ ht ?_)
 refine Yb (V0 hTs ?_)
 rw[if_pos 2e6]
 refine Yb (HT.sliceApplied_gen hs pl pu ?_)
 have hyes:(((HT.sIx items.size 0 lo:Nat):Int)==0&&(1:Int)==1&&(HT.sIx items.size items.size hi - HT.sIx items.size 0 lo)==items.size)=true:=by
  rw[hw.1,hw.2];simp
 show wpAny _ _ (if (((HT.sIx items.size 0 lo:Nat):Int)==0&&(1:Int)==1&&(HT.sIx items.size items.size hi - HT.sIx items.size 0 lo)==items.size)=true then _ else _) _ _ s
 rw[if_pos hyes]
 unfold Builtin.Tuple.tupleIsExact
 refine Yb (Yb (V0 ht.typeIs (Yk ?_)))
 rw[if_pos 2e6]
 refine Yb (Ub ?_)
 exact Yb (Yk (Yk ⟨_,rfl,Yk h⟩))
end
def rSlTW (K:W.Frag):V->Option Int->Option Int->Hp->VK->Prop:=fun x lo hi H Q=>∃a xs,x=.ref a/\SqT K H a xs/\(HT.sIx xs.length 0 lo=0/\HT.sIx xs.length xs.length hi=xs.length)/\Q (.ref a) H
def tMO (K:W.Frag)(f:PSt->M (Option Int)):TO:=fun σ H Q=>∃ι ρ C r C',SR K ι H ρ σ C/\f ρ C=some (r,C')/\∀H',Fr ι H H'->CR K ι H' C'->Q r H'
def OM (X:Cx)(e:Option Expr)(f:PSt->M (Option Int)):Prop:=PO X e (tMO X.K f)
def oNo:PSt->M (Option Int):=fun _=>ret none
def intD (C:Cs)(x:SV):Option (Option Int):=match deref C x with
 | some (.int i)=>some (some i)
 | _=>none
def oPart (f:2e7):PSt->M (Option Int):=fun ρ=>bnd (f ρ) fun x=>opM fun C=>intD C x
def cutP (xs:List PV)(lo hi:Option Int):List PV:=(xs.drop (HT.sIx xs.length 0 lo)).take (HT.sIx xs.length xs.length hi - HT.sIx xs.length 0 lo)
def sliceP (lo hi:Option Int):PV->Option PV
 | .lst xs=>some (.lst (cutP xs lo hi))
 | .tup xs=>some (.tup (cutP xs lo hi))
 | _=>none
def sliceD (C:Cs)(x:SV)(lo hi:Option Int):Option SV:=match deref C x with
 | some p=>(sliceP lo hi p).map .v
 | none=>none
def mSlice (f:2e7)(l h:PSt->M (Option Int)):PSt->M SV:=fun ρ=>bnd (f ρ) fun x=>bnd (l ρ) fun lo=>bnd (h ρ) fun hi=>opM fun C=>sliceD C x lo hi
theorem reps_cut {K:W.Frag}{ι:2e9}{H:Hp}{ps:List PV}{vs:List V}(r:Reps K ι H ps vs)(lo hi:Option Int):Reps K ι H (cutP ps lo hi) (cutV vs lo hi):=by
 unfold cutP cutV
 rw[r.length]
 exact (r.drop _).take _
theorem sliceD_some {C:Cs}{x z:SV}{lo hi:Option Int}(h:sliceD C x lo hi=some z):(∃xs,deref C x=some (.lst xs)/\z=.v (.lst (cutP xs lo hi)))\/∃xs,deref C x=some (.tup xs)/\z=.v (.tup (cutP xs lo hi)):=by
 unfold sliceD at h
 split at h
 ·rename_i p hd
  cases p with
  | lst xs=>cases h;exact .inl ⟨xs,hd,rfl⟩
  | tup xs=>cases h;exact .inr ⟨xs,hd,rfl⟩
  | _=>cases h
 ·cases h
section
variable {X:Cx}{a b e c o i:Expr}{es:4e5}{fa fb fc fo fi fv:2e7}{fs:2e3}{pos p apos cpos p2:Pos}{x:Str}{lo hi:Option Expr}{l h:PSt->M (Option Int)}
theorem PO.imp {e:Option Expr}{t t':TO}(h:PO X e t)(k:14e6):PO X e t':=fun pins s σ H Q I q=>h pins s σ H Q I (k σ H Q q)
theorem sl_tupW:SlR X (rSlTW X.K):=by
 intro pins s σ H x v vl vu lo hi sl Q I rx hs pl pu h
 obtain ⟨a,xs,rfl,hx,hw,q⟩:=h
 cases rx
 obtain ⟨its,r,ht,hz⟩:=I.tuple hx
 have hlen:its.toArray.size=xs.length:=by rw[Yn];exact r.length.symm
 exact ⟨"tuple",_,Y2.lookup,ht.typeIs,ZbK ht hs pl pu (by rw[hlen];exact hw) ⟨.ref a,H,I,rfl,q⟩⟩
theorem cut_whole {xs:List PV}{lo hi:Option Int}(h:HT.sIx xs.length 0 lo=0/\HT.sIx xs.length xs.length hi=xs.length):cutP xs lo hi=xs:=by
 unfold cutP;rw[h.1,h.2];simp
noncomputable def flatP:PV->Bool
 | .non=>true
 | .bl _=>true
 | .int _=>true
 | .str _=>true
 | _=>false
noncomputable def eqF:PV->PV->Bool
 | .non,.non=>true
 | .bl a,.bl b=>a==b
 | .bl a,.int b=>(if a then 1 else 0)==b
 | .int a,.bl b=>a==(if b then 1 else 0)
 | .int a,.int b=>a==b
 | .str a,.str b=>a==b
 | _,_=>false
noncomputable def strIn (i j:Str):Bool:=!(X8 j i 0 j.length 1).isEmpty
def inB (x:PV):PV->Option Bool
 | .str j=>match x with
  | .str i=>some (strIn i j)
  | _=>none
 | .lst xs=>if flatP x&&xs.all flatP then some (xs.any fun y=>eqF y x) else none
 | .tup xs=>if flatP x&&xs.all flatP then some (xs.any fun y=>eqF y x) else none
 | _=>none
def inP (x y:PV):Option PV:=(inB x y).map .bl
theorem flat_rep {K:W.Frag}{ι:2e9}{H:Hp}{q:PV}{v:V}(r:Lies K ι H q v)(h:flatP q=true):flatV v=true:=by cases r<;>first | rfl | cases h
theorem eqF_rep {K:W.Frag}{ι:2e9}{H:Hp}{q r:PV}{v w:V}(h1:Lies K ι H q v)(h2:Lies K ι H r w)(f1:flatP q=true)(f2:flatP r=true):eqV v w=eqF q r:=by
 cases h1<;>cases h2<;>first | rfl | cases f1 | cases f2
theorem ZcL {K:W.Frag}{ι:2e9}{H:Hp}{x:PV}{vx:V}(lx:Lies K ι H x vx)(fx:flatP x=true):∀{ps:List PV} {vs:List V},Reps K ι H ps vs->ps.all flatP=true->vs.all flatV=true/\inV vx vs=ps.any fun y=>eqF y x
 | [],vs,r,h=>by rw[r.inv0];exact ⟨rfl,rfl⟩
 | q::ps,vs,r,h=>by
  obtain ⟨v,w,rfl,h1,h2⟩:=r.inv
  rw[Vg,YG] at h
  obtain ⟨k1,k2⟩:=ZcL lx fx h2 h.2
  refine ⟨by rw[Vg,flat_rep (Rep.lies h1) h.1,k1];rfl,?_⟩
  unfold inV at k2 ⊢
  rw[XA,XA,k2,eqF_rep (Rep.lies h1) lx h.1 fx]
theorem in_ok:L2ok X.K (fun x y H Q=>(∃i j,x=.str i/\y=.str j/\Q (.bl (!(X8 j i 0 j.length 1).isEmpty)) H)\/rIn X.K false x y H Q) inP:=by
 sleep 6
 unfold inP at e
 cases hb:inB p q with
 | none=>rw[hb] at e;cases e
 | some b=>
  rw[hb] at e;cases e
  unfold inB at hb
  split at hb
  ·split at hb
   ·cases hb;cases lx;cases ly;exact .inl ⟨_,_,rfl,rfl,k _ H .refl cr repBl⟩
   ·cases hb
  ·split at hb
   ·rename_i xs hf
    cases hb
    rw[YG] at hf
    obtain ⟨a,vs,rfl,h1,rv⟩:=liesL ly
    obtain ⟨k1,k2⟩:=ZcL lx hf.1 rv hf.2
    exact .inr ⟨a,vs,rfl,.inl h1,flat_rep lx hf.1,k1,by rw[if_neg Yh,k2];exact k _ H .refl cr repBl⟩
   ·cases hb
  ·split at hb
   ·rename_i xs hf
    cases hb
    rw[YG] at hf
    obtain ⟨a,vs,rfl,h1,rv⟩:=liesT ly
    obtain ⟨k1,k2⟩:=ZcL lx hf.1 rv hf.2
    exact .inr ⟨a,vs,rfl,.inr h1.sq,flat_rep lx hf.1,k1,by rw[if_neg Yh,k2];exact k _ H .refl cr repBl⟩
   ·cases hb
  ·cases hb
theorem Za8:OpR X (YW .In) (fun x y H Q=>(∃i j,x=.str i/\y=.str j/\Q (.bl (!(X8 j i 0 j.length 1).isEmpty)) H)\/rIn X.K false x y H Q):=OpR.or op_in_str op_in_seq
def Mtok (K:W.Frag)(r:12e0)(h:PV->List PV->Option PV):Prop:=
 ∀(ι:2e9) (H:Hp) (C:Cs) (q:PV) (v:V) (ps:List PV) (vs:List V) (z:PV) (Q:VK),CR K ι H C->Lies K ι H q v->LiesAll K ι H ps vs->h q ps=some z->(∀v H',Fr ι H H'->CR K ι H' C->Rep K ι H' z v->Q v H')->r v vs H Q
noncomputable def tyP (T:String):PV->Bool
 | .str _=>T=="str"
 | .int _=>T=="int"
 | .lst _=>T=="list"
 | .dct _ _=>T=="dict"
 | .dtt _ _=>T=="dict"
 | _=>false
def isTy (T:String)(x:SV):M Unit:=fun C=>match deref C x with
 | some q=>if tyP T q then some ((),C) else none
 | none=>none
def mtD (h:PV->List PV->Option PV)(C:Cs)(x:SV)(xs:List SV):Option SV:=match deref C x,derefs C xs with
 | some q,some ps=>(h q ps).map .v
 | _,_=>none
def mMt (T:String)(h:PV->List PV->Option PV)(fo:2e7)(fs:2e3):PSt->M SV:=fun ρ=>bnd (fo ρ) fun x=>bnd (isTy T x) fun _=>bnd (fs ρ) fun xs=>opM fun C=>mtD h C x xs
def tyW (K:W.Frag)(T:String)(x:V)(H:Hp):Prop:=tyV K T x H\/(T="dict"/\∃a,x=.ref a/\∃kvs,Rd H a (.dT kvs))
noncomputable def tBW (K:W.Frag)(T:String)(r:12e0)(to:TE)(t:TA):TE:=fun σ H Q=>to σ H fun x H1=>tyW K T x H1/\t σ H1 fun xs H2=>r x xs H2 Q
theorem pe_bw {to:TE}{t:TA}{name:Str}{T id:String}{r:12e0}(pa:PlainAttrs T)(slot:Slot T name id)(hty:typeOf (.builtin id)=pure (.type "method_descriptor"))(hm:MtR X id r)(ho:PE X o to)(ha:PA X 4e6 t)
  (hbase:XJ o name X.env (eval o X.env)=eval o X.env:=by rfl)
  (hfew:((backTo cpos (Yi 4e6 X.env)).all (fun x=>!x.1)&&(Vu cpos (Wk [] X.env)).all (fun x=>x.1.isSome)
   &&decide ((e::es).length + ([]:List Wl).length + (if ([]:List Wl).isEmpty then 0 else 1) < 30))=true:=by rfl)
  (hline:10e1:=by rfl) (hs:1e2:=by rfl) (hplain:7e6:=by rfl):
  PE X (.Call (.Attribute o name apos) 4e6 [] cpos) (tBW X.K T r to t):=by
 sleep 9
 refine wpAny_Call_method_late hbase hfew hline rfl (thn (ho pins s σ H _ I h) fun v s1 h_=>?_)
 obtain ⟨x,H1,I1,r1,ty,q1⟩:=h_
 obtain ⟨h1,h2⟩:s1.TypeIs v T/\∀a,v=.ref a->∃ob,s1.heap.get? a=some ob/\ob.dict=none:=by
  rcases ty with ty | ⟨rfl,a,rfl,kvs,hd⟩
  ·exact tyV_is I1 r1 ty
  ·cases r1
   obtain ⟨z1,z2,_⟩:=isD_at I1 (.inr ⟨kvs,hd⟩)
   exact ⟨z1,z2⟩
 refine ⟨T,id,pa,slot,hty,h1,h2,?_⟩
 have hA:=ha cpos pins s1 σ H1 _ I1 q1
 rw[hs] at hA ⊢
 refine Calls.callWith_builtin (by show (false||(backTo cpos (Yi es X.env)).any (·.1))=false;rw[hplain]<;>rfl) (Calls.evalArgs_plain ?_)
 exact thn hA fun us s2 ⟨vs,H2,I2,r2,q2⟩=>hm pins s2 σ H2 x vs v us Q I2 r1 r2 q2
theorem lies_ty {K:W.Frag}{ι:2e9}{H:Hp}{T:String}{q:PV}{v:V}(l:Lies K ι H q v)(h:tyP T q=true):tyW K T v H:=by
 cases l with
 | str y hy=>exact .inl (eq_of_beq (by simpa[tyP] using h))
 | int y=>exact .inl (eq_of_beq (by simpa[tyP] using h))
 | lst h1 r=>exact .inl (.inl ⟨eq_of_beq (by simpa[tyP] using h),_,h1⟩)
 | dct h1 hl r=>exact .inl (.inr (.inr (.inl ⟨eq_of_beq (by simpa[tyP] using h),.inl ⟨_,h1⟩⟩)))
 | dtt h1 hl r=>exact .inr ⟨eq_of_beq (by simpa[tyP] using h),_,rfl,_,h1⟩
 | _=>cases h
theorem em_mt {T id:String}{name:Str}{r:12e0}{h:PV->List PV->Option PV}(pa:PlainAttrs T)(slot:Slot T name id)(hty:typeOf (.builtin id)=pure (.type "method_descriptor"))(hm:MtR X id r)(hk:Mtok X.K r h)
  (ho:EM X o fo) (ha:AM X 4e6 fs) (hbase:XJ o name X.env (eval o X.env)=eval o X.env:=by rfl)
  (hfew:((backTo cpos (Yi 4e6 X.env)).all (fun x=>!x.1)&&(Vu cpos (Wk [] X.env)).all (fun x=>x.1.isSome)
   &&decide ((e::es).length + ([]:List Wl).length + (if ([]:List Wl).isEmpty then 0 else 1) < 30))=true:=by rfl)
  (hline:10e1:=by rfl) (hs:1e2:=by rfl) (hplain:7e6:=by rfl):
  EM X (.Call (.Attribute o name apos) 4e6 [] cpos) (mMt T h fo fs):=
 PE.imp (pe_bw pa slot hty hm ho ha hbase hfew hline hs hplain) fun σ H Q h_=>by
  sleep 7
  obtain ⟨x,C1,e1,g1⟩:=Zag e
  obtain ⟨u,C2,e2,g2⟩:=Zag g1
  obtain ⟨xs,C3,e3,g3⟩:=Zag g2
  obtain ⟨e4,hC⟩:=ZaF g3
  subst hC
  clear e g1 g2 g3
  refine ⟨ι,ρ,C,x,C1,sr,e1,fun v H1 f1 c1 r1=>?_⟩
  unfold isTy at e2
  split at e2
  ·rename_i q0 hd0
   split at e2
   ·rename_i ht
    cases e2
    refine ⟨lies_ty (r1.lies c1 hd0) ht,ι,ρ,_,xs,_,8e5,e3,fun vs H2 f2 c2 r2=>?_⟩
    unfold mtD at e4
    split at e4
    ·rename_i q1 ps hd1 hds
     cases hz:h q1 ps with
     | none=>rw[hz] at e4;cases e4
     | some z1=>
      rw[hz] at e4;cases e4
      exact hk ι H2 _ q1 v ps vs z1 Q c2 ((r1.mono c1 f2).lies c2 hd1) (ZbL c2 r2 hds) hz fun v' H3 f3 c3 r3=>q v' H3 (f1.trans (f2.trans f3)) c3 r3
    ·cases e4
   ·cases e2
  ·cases e2
end
section
variable {X:Cx}{a b e c o i:Expr}{es:4e5}{fa fb fc fo fi fv:2e7}{fs:2e3}{pos p apos cpos p2:Pos}{x:Str}
noncomputable def strsP:List PV->Option (List Str)
 | []=>some []
 | .str b::r=>(strsP r).map (b::·)
 | _::_=>none
theorem strs_rep {K:W.Frag}{ι:2e9}{H:Hp}:∀{ps:List PV} {vs:List V} {bs:3e1},Reps K ι H ps vs->strsP ps=some bs->vs=bs.map V.str
 | [],vs,bs,r,e=>by cases e;rw[r.inv0];rfl
 | p::ps,vs,bs,r,e=>by
  obtain ⟨v,w,rfl,h1,h2⟩:=r.inv
  cases p with
  | str b=>
   unfold strsP at e
   cases hb:strsP ps with
   | none=>rw[hb] at e;cases e
   | some cs=>
    rw[hb] at e;cases e
    have h1:v=.str b:=by unfold Rep at h1;exact h1.1
    rw[h1,strs_rep h2 hb];rfl
  | _=>cases e
def joinH:PV->List PV->Option PV
 | .str z,[.lst xs]=>match strsP xs with
  | some ys=>if (ys.map (·.length)).sum + ys.length * z.length<=1000000 then some (.str (Txt.join z ys)) else none
  | none=>none
 | _,_=>none
theorem join_len (z:Str)(ys:3e1):(Txt.join z ys).length<=(ys.map (·.length)).sum + ys.length * z.length:=by
 have e:(Txt.join z ys).length=(ys.map (·.length)).sum + (ys.length - 1) * z.length:=size_glued z ys
 rw[e]
 exact Nat.add_le_add_left (Nat.mul_le_mul_right _ (Nat.sub_le _ _)) _
theorem join_ok:Mtok X.K (fun x xs H Q=>∃(z:Str) (p:Addr) (ys:3e1),x=.str z/\xs=[.ref p]/\SqL X.K H p (ys.map V.str)/\(ys.map (·.length)).sum + ys.length * z.length<=16777216/\Q (.str (Txt.join z ys)) H) joinH:=by
 intro ι H C q v ps vs z Q cr lq ls e k
 unfold joinH at e
 split at e
 ·rename_i z0 xs
  split at e
  ·rename_i ys hy
   split at e
   ·rename_i hl
    cases e
    cases ls with
    | cons l t=>
     cases t
     obtain ⟨rfl,hz⟩:=liesS lq
     obtain ⟨a,ws,rfl,h1,r1⟩:=liesL l
     exact ⟨_,a,ys,rfl,rfl,by rw[←strs_rep r1 hy];exact h1,Yv hl 2e6,k _ H .refl cr (repS (Yv (join_len _ _) (k1000000 hl)))⟩
   ·cases e
  ·cases e
 ·cases e
noncomputable def keyP:PV->Option Key
 | .int i=>some (.inl i)
 | .str z=>some (.inr z)
 | _=>none
theorem keyP_kP (k:Key):keyP (kP k)=some k:=by cases k<;>rfl
def lookP:List PV->List PV->Key->Option PV
 | k::ks,v::vs,q=>if keyP k=some q then some v else lookP ks vs q
 | _,_,_=>none
theorem Zcm {K:W.Frag}{ι:2e9}{H:Hp}{q:Key}:∀{qs:List Key} {ps:List PV} {vs:List V},qs.length=vs.length->Reps K ι H ps vs->
  (∀z,lookP (qs.map kP) ps q=some z->∃v,valV (qs.zip vs) q=some v/\Rep K ι H z v)/\(lookP (qs.map kP) ps q=none->valV (qs.zip vs) q=none)
 | [],ps,vs,hl,r=>by
  refine ⟨fun z h=>?_,fun _=>rfl⟩
  cases ps<;>cases h
 | k::qs,[],vs,hl,r=>by rw[r.inv0] at hl;cases hl
 | k::qs,p::ps,vs,hl,r=>by
  obtain ⟨v,w,rfl,h1,h2⟩:=r.inv
  have ih:=Zcm (q:=q) (qs:=qs) (ps:=ps) (vs:=w) (by simpa using hl) h2
  rw[YM,Vw]
  unfold lookP
  rw[keyP_kP]
  by_cases h:k=q
  ·subst h
   rw[if_pos rfl,valV_pos (p:=(k,v)) rfl]
   exact ⟨fun z e=>by cases e;exact ⟨v,rfl,h1⟩,fun e=>nomatch e⟩
  ·rw[if_neg (fun e=>h (Yz e)),valV_neg (p:=(k,v)) h]
   exact ih
theorem lies_key {K:W.Frag}{ι:2e9}{H:Hp}{x:PV}{v:V}{q:Key}(l:Lies K ι H x v)(h:keyP x=some q):v=kV q:=by
 cases l<;>first | (cases h;rfl) | cases h
theorem liesD {K:W.Frag}{ι:2e9}{H:Hp}{ks ps:List PV}{v:V}(l:Lies K ι H (.dct ks ps) v):∃(a:Addr) (qs:List Key) (vs:List V),v=.ref a/\ks=qs.map kP/\H a=some (.dK (qs.zip vs))/\qs.length=vs.length/\Reps K ι H ps vs:=by
 cases l;exact ⟨_,_,_,rfl,rfl,by assumption,by assumption,by assumption⟩
noncomputable def rDGet:R2:=fun x y H Q=>∃a v,x=.ref a/\DGet H a y (some v)/\Q v H
theorem ix_dict (hu:X.A.units + 1 < cLine):IxR X rDGet:=by
 intro value slice pins s σ H x y v u Q I rx ry h hs
 obtain ⟨a,w,rfl,g,q⟩:=h
 cases rx
 exact tail_any (dict_typeIs I g) PySem.F.slot_dict_getitem.lookup (d_getItem hu I g ry fun w' s' I' r'=>⟨w,H,I',r',q⟩) hs
def ixQ (x y:PV):Option PV:=match x with
 | .dct ks vs=>match keyP y with
  | some q=>lookP ks vs q
  | none=>none
 | x=>ixP x y
theorem ixQ_ok:L2ok X.K (fun x y H Q=>rIx X.K x y H Q\/rDGet x y H Q) ixQ:=by
 sleep 6
 unfold ixQ at e
 split at e
 ·rename_i ks vs
  split at e
  ·rename_i key hk
   obtain ⟨a,qs,ws,rfl,rfl,hd,hl,r⟩:=liesD lx
   obtain ⟨v,hv,rv⟩:=(Zcm hl r).1 z e
   rw[lies_key ly hk]
   exact .inr ⟨a,v,rfl,by rw[←hv];exact DGet.k hd,k v H .refl cr rv⟩
  ·cases e
 ·exact .inl (ix_ok ι H C p q vx vy z Q cr lx ly e k)
theorem track {pins:1e8}{σ:St}{H:Hp}{s:Shared}{d:Addr}{ob:HO}(I:2e1)(hn:H d=none)(hd:X.s₀.heap.objs.size<=d)(hL:d≠X.env.locals)(hc:∀x c,X.env.cells.lookup x=some c->c≠d)
  (hp:∀p∈X.pn++pins,p.1≠d) (new:ObjOk X.prog X.w (upd H d ob) s.heap d ob):Inv X pins σ (upd H d ob) s:=by
 have u:=I.base
 refine ⟨I.ok,I.os,I.bare,⟨u.keep,u.slot,fun b o e q hx=>?_,u.there,fun b xs e=>?_,fun b o xs e=>?_,fun b ps e=>?_⟩,I.loc,I.cell,?_,fun x c e=>?_,fun p hp'=>?_,fun b o e=>?_,I.len⟩
 ·rw[Zao (YB (Ym (Ys e) hd))];exact u.free b o e q hx
 ·rw[Zao (Zal (u.tups b xs e) hn)];exact u.tups b xs e
 ·rw[Zao (Zal (u.frzs b o xs e) hn)];exact u.frzs b o xs e
 ·obtain ⟨more,q⟩:=u.tbls b ps e
  exact ⟨more,by rw[Zao (Zal q hn)];exact q⟩
 ·rw[Zao (Xd hL)];exact I.free
 ·rw[Zao (hc x c e)];exact I.freeC x c e
 ·obtain ⟨h1,h2,h3⟩:=I.pin p hp'
  exact ⟨h1,by rw[Zao (hp p hp')];exact h2,h3⟩
 ·by_cases hb:b=d
  ·subst hb
   rw[Zau] at e;cases e;exact new
  ·rw[Zao hb] at e
   exact (I.hok b o e).stay (fun _ _ _ q=>q) (fun c q=>by rw[Zao (Zal q hn)];exact q) fun c xs q=>by rw[Zao (Zal q hn)];exact q
theorem DictOf_empty {P:Yl}{w:World}{h:Heap}{d:Addr}(e:h.get? d=some { cls:=.type "dict",data:=.dict #[] }):h.DictOf (mixKind P w) d []:=by
 have hn:=Heap.DictOf.new (knd:=mixKind P w) { h with objs:=#[] }
 obtain ⟨o,es,ep,h1,h2,h3,h4⟩:=hn
 rw[Yt _ rfl] at h1
 cases h1
 exact ⟨_,es,ep,e,h2,h3,h4⟩
def PRel:List Str->List V->List (Value×Value)->Prop
 | [],[],[]=>True
 | k::ks,v::vs,(u,w)::r=>keyIs (.inr k) u=true/\RelV v w/\PRel ks vs r
 | _,_,_=>False
def DP (X:Cx)(ks:List (Option Expr))(es:4e5)(keys:3e1)(t:TA):Prop:=
 ∀(pos:Pos) (pins:1e8) (s:Shared) (σ:St) (H:Hp) (Q:List V->Hp->Prop),Inv X pins σ H s->t σ H Q->
  wpAny 2e2 X.A (evalPairs (pairTrees ks es X.env pos)) (fun us s'=>∃vs H',Inv X pins σ H' s'/\PRel keys vs us/\Q vs H') X.xe s
def DM (X:Cx)(ks:List (Option Expr))(es:4e5)(keys:3e1)(f:2e3):Prop:=DP X ks es keys (tMA X.K f)
def mDict (keys:3e1)(fs:2e3):PSt->M SV:=fun ρ=>bnd (fs ρ) fun xs=>opM fun _=>(plain xs).map fun ps=>.v (.dct (keys.map PV.str) ps)
theorem prel_carries {P:Yl}{w:World}:∀{keys:3e1} {vs:List V} {us:List (Value×Value)},PRel keys vs us->keys.length=vs.length/\us.length=keys.length/\∃kvs:List (Key×Value),Carries (mixKind P w) us kvs/\KV ((keys.map Ws).zip vs) kvs/\kvs.map (·.1)=keys.map Sum.inr:=by
 intro keys
 induction keys with
 | nil=>
  intro vs us h
  cases vs with
  | nil=>cases us with
   | nil=>exact ⟨rfl,rfl,[],trivial,.nil,rfl⟩
   | cons _ _=>exact h.elim
  | cons _ _=>exact h.elim
 | cons k ks ih=>
  intro vs us h
  cases vs with
  | nil=>exact h.elim
  | cons v vs=>cases us with
   | nil=>exact h.elim
   | cons y r=>
    obtain ⟨h1,h2,h3⟩:=h
    obtain ⟨a1,a2,kvs,a3,a4,a5⟩:=ih h3
    exact ⟨by simp[a1],by simp[a2],(Ws k,y.2)::kvs,⟨h1,rfl,a3⟩,.cons ⟨rfl,h2⟩ a4,by simp[a5]⟩
end
structure TopD (K:W.Frag)(w:World)(d:Addr)(tab:List (Str×Addr)):Prop where
 ex:∃(es:Array VA) (n:Nat),K.lookup d=some ⟨.type "dict",none,.dict es n,#[]⟩/\W.KeysLit w.params es.toList/\Paired (fun (p:Str×Addr) (e:VA)=>Xz p.1 e.key=true/\e.val=.ref p.2) tab es.toList
 lo:(d==Wf)=false
theorem isStrOf_iff {x y:Str}{v:Value}(h:Xz y v=true):Xz x v=decide (x=y):=by
 obtain ⟨t,rfl⟩:=Value.isStrOf_shape h
 by_cases e:x=y
 ·subst e;simp[Xz]
 ·have:¬(y=x):=fun z=>e z.symm
  simp[Xz,e,this]
theorem tab_find {x:Str}:∀{tab:10e4} {es:List VA},Paired (fun (p:Str×Addr) (e:VA)=>Xz p.1 e.key=true/\e.val=.ref p.2) tab es->
    (es.find? fun d=>Xz x d.key).map (·.val)=(tab.lookup x).map YL
  | _,_,.nil=>rfl
  | (k,f)::tab,e::es,.cons h t=>by
    have ih:=tab_find (x:=x) t
    rw[X0,YA,isStrOf_iff h.1]
    by_cases hx:x=k
    · subst hx
      rw[decide_eq_true rfl,beq_self_eq_true]
      simp[h.2]
    · rw[decide_eq_false hx,beq_eq_false_iff_ne.mpr hx]
      exact ih
theorem TopD.map {K:W.Frag}{w:World}{d:Addr}{tab:10e4}(T:TopD K w d tab)(prog:Yl){h:Heap}(X:K.In h):h.MapOf (strKind prog w) d (fun k=>(tab.lookup k).map YL):=by
 obtain ⟨es,n,hl,hk,hp⟩:=T.ex
 have m:=W.mapOf_K (prog:=prog) X hl hk
 have e:(fun k=>findBy Xz es k)=fun k=>(tab.lookup k).map Value.ref:=by
  funext k
  rw[←tab_find hp]
  obtain ⟨l⟩:=es
  unfold findBy
  rw[List.find?_toArray]
 rw[←e];exact m
section
variable {X:Cx}{a b e c o i:Expr}{es:4e5}{fa fb fc fo fi fv:2e7}{fs:2e3}{pos p apos cpos p2:Pos}{x:Str}{d:Addr}{tab:10e4}
def topG (d:Addr)(tab:10e4)(C:Cs)(x y:SV):Option SV:=match x,deref C y with
 | .v (.fn d'),some (.str k)=>if d'=d then (tab.lookup k).map fun f=>.v (.fn f) else none
 | _,_=>none
def topI (d:Addr)(tab:10e4)(neg:Bool)(C:Cs)(x y:SV):Option SV:=match y,deref C x with
 | .v (.fn d'),some (.str k)=>if d'=d then some (.v (.bl (if neg then !(tab.lookup k).isSome else (tab.lookup k).isSome))) else none
 | _,_=>none
theorem ix_top (T:TopD X.K X.w d tab):IxR X (fun x y H Q=>∃k f,x=.ref d/\y=.str k/\tab.lookup k=some f/\Q (.ref f) H):=by
 intro value slice pins s σ H x y v u Q I rx ry h hs
 obtain ⟨k,f,rfl,rfl,hk,q⟩:=h
 cases rx
 obtain ⟨t,rfl⟩:=ry
 have m:=T.map X.prog I.kIn
 exact tail_any m.typeIs slot_dict_getitem.lookup (wpAny_getItem_of (strKind_is X.prog X.w k t) m (by rw[hk];rfl) ⟨.ref f,H,I.tok _,rfl,q⟩) hs
theorem topG_ok {K:W.Frag}:R2ok K (fun x y H Q=>∃k f,x=.ref d/\y=.str k/\tab.lookup k=some f/\Q (.ref f) H) (topG d tab):=by
 intro ι H C x y vx vy z Q cr rx ry e k
 unfold topG at e
 split at e
 ·rename_i d' key hy
  split at e
  ·rename_i hd
   subst hd
   cases hf:tab.lookup key with
   | none=>rw[hf] at e;cases e
   | some f=>
    rw[hf] at e
    cases e
    have rx:vx=.ref d':=by unfold RepS Rep at rx;exact rx
    obtain ⟨rfl,_⟩:=liesS (ry.lies cr hy)
    exact ⟨key,f,rx,rfl,hf,k _ H .refl cr (by unfold RepS Rep;rfl)⟩
  ·cases e
 ·cases e
theorem op_topin (T:TopD X.K X.w d tab):OpR X (YW .In) (fun x y H Q=>∃k,y=.ref d/\x=.str k/\Q (.bl (tab.lookup k).isSome) H):=by
 sleep 3
 obtain ⟨k,rfl,rfl,q⟩:=h
 cases ry
 sleep 8
 refine wpAny_in_of (strKind_is X.prog X.w k t) T.lo (T.map X.prog I.kIn) ?_
 rw[Option.isSome_map]
 exact ⟨.bl _,H,I.tok _,rfl,q⟩
theorem topI_ok {K:W.Frag}:R2ok K (fun x y H Q=>∃k,y=.ref d/\x=.str k/\Q (.bl (tab.lookup k).isSome) H) (topI d tab false):=by
 intro ι H C x y vx vy z Q cr rx ry e k
 unfold topI at e
 split at e
 ·rename_i d' key hy
  split at e
  ·rename_i hd
   subst hd
   cases e
   have ry:vy=.ref d':=by unfold RepS Rep at ry;exact ry
   obtain ⟨rfl,_⟩:=liesS (rx.lies cr hy)
   exact ⟨key,ry,rfl,k _ H .refl cr repB'⟩
  ·cases e
 ·cases e
def callF (T:List (Addr×(List SV->M SV)))(f:SV)(xs:List SV):M SV:=fun C=>match f with
 | .v (.fn a)=>match T.lookup a with
  | some F=>F xs C
  | none=>none
 | _=>none
def mCallV (i:Nat)(T:List (Addr×(List SV->M SV)))(fs:2e3):PSt->M SV:=fun ρ=>bnd (mVar i ρ) fun f=>bnd (fs ρ) fun xs=>callF T f xs
theorem callV_some {T:List (Addr×(List SV->M SV))}{f:SV}{xs:List SV}{C C2:Cs}{r:SV}(h:callF T f xs C=some (r,C2)):∃a F,f=.v (.fn a)/\T.lookup a=some F/\F xs C=some (r,C2):=by
 unfold callF at h
 split at h
 ·split at h
  ·exact ⟨_,_,rfl,by assumption,h⟩
  ·cases h
 ·cases h
theorem hv_of {T:List (Addr×(List SV->M SV))}{Pd:Addr->(List SV->M SV)->Prop}(h:∀q∈T,Pd q.1 q.2):∀a F,T.lookup a=some F->Pd a F:=fun a F e=>h (a,F) (lookup_mem e)
def mDict0:PSt->M SV:=fun _=>ret (.v (.dct [] []))
theorem Zdj {K:W.Frag}{x1 x2 q1 q2:Str}{s1 s2:Stmt}{f1 f2:Addr}{d1 d2:Yj}(F1:Fun K x1 q1 s1 f1 d1)(F2:Fun K x2 q2 s2 f2 d2)(h:x1≠x2):f1≠f2:=by
 obtain ⟨oc,od,kV,doc,pm,an,cdv,ct,osl,e1,l1,_⟩:=F1.ex
 obtain ⟨oc2,od2,kV2,doc2,pm2,an2,cdv2,ct2,osl2,e2,l2,_⟩:=F2.ex
 intro e
 subst e
 rw[l1] at l2
 injection l2 with l2
 injection l2 with _ _ l3 _
 injection l3 with l4
 rw[e1,e2] at l4
 exact h (congrArg FuncData.name l4)
end
structure NextAt (P:Yl)(w:World)(it:Addr)(us:List Addr)(R:Value->Prop)(st st':Heap->Prop):Prop where
 item:∀(A:Around) (E:1e4) (s:Shared) (Q:1e4),st s.heap->(∀u h' tk,R u->st' h'->W3 it s.heap h'->Q u { s with heap:=h',toks:=tk })->wpAny (model P w) A (YN (.ref it)) Q E s
 keep:∀h h':Heap,st h->(∀b∈us,∀o,h.get? b=some o->h'.get? b=some o)->st h'
 keep':∀h h':Heap,st' h->(∀b∈us,∀o,h.get? b=some o->h'.get? b=some o)->st' h'
structure EndAt (P:Yl)(w:World)(it:Addr)(us:List Addr)(st:Heap->Prop):Prop where
 done:∀(A:Around) (E:1e4) (s:Shared) (Q:1e4),A.handled=none->st s.heap->(∀h' e,Heap.ExtBut it s.heap h'->(∃o,h'.get? e=some o/\o.cls=.type "StopIteration")->E (.ref e) { s with heap:=h' })->wpAny (model P w) A (YN (.ref it)) Q E s
 keep:∀h h':Heap,st h->(∀b∈us,∀o,h.get? b=some o->h'.get? b=some o)->st h'
structure ZApart (z TI TO i1 i2:Addr)(us1 us2:List Addr):Prop where
 a1:TI≠z
 a2:TO≠z
 a3:i1≠z
 a4:i2≠z
 a5:TI≠TO
 a6:TI≠i1
 a7:TI≠i2
 a8:TO≠i1
 a9:TO≠i2
 b1:z∉us1
 b2:TO∉us1
 b3:i2∉us1
 c1:z∉us2
 c2:TO∉us2
 c3:i1∉us2
section
variable {P:Yl}{w:World}{A:Around}{E:1e4}{s:Shared}{z TI TO i1 i2:Addr}{us1 us2:2e9}{R1 R2:Value->Prop}{st1 st1' st2 st2':Heap->Prop}
theorem zip_item {a b:Value}{Q:1e4}(D:ZApart z TI TO i1 i2 us1 us2)(N1:NextAt P w i1 us1 R1 st1 st1')(N2:NextAt P w i2 us2 R2 st2 st2')
  (hz:IsZip s.heap z TI TO .none) (hTI:IsPair s.heap TI (.ref i1) (.ref i2)) (hTO:IsPair s.heap TO a b) (h1:st1 s.heap) (h2:st2 s.heap)
  (hQ:∀x y h' tk,R1 x->R2 y->IsZip h' z TI TO (rawInt s.heap.objs.size)->IsPair h' TO x y->st1' h'->st2' h'->IsPair h' s.heap.objs.size x y->h'.objs.size=s.heap.objs.size + 1->
   (∀c o,c≠z->c≠TO->c≠i1->c≠i2->s.heap.get? c=some o->h'.get? c=some o)->Q (.ref s.heap.objs.size) { s with heap:=h',toks:=tk }):
  wpAny (model P w) A (Vm.«zip.__next__» ⟨[.ref z],[]⟩) (fun fin s'=>∃v,fin=.done (.ret v)/\Q v s') E s:=by
 show wpAny _ _ (field (.ref z) 2 >>= _) _ _ _;refine Yb (Xa hz rfl (x:=.bool false) rfl ?_)
 show wpAny _ _ (field (.ref z) 3 >>= _) _ _ _;refine Yb (Xa hz rfl (x:=.ref TI) rfl ?_)
 refine Yb (XV hTI rfl ?_);show wpAny _ _ (Xi (.ref z) >>= _) _ _ _
 refine Yb ?_;unfold Xi
 refine Yb (Xa hz rfl (x:=.none) rfl (Yk ?_));simp only[if_true]
 refine Yb (Ub ?_);refine Yb (Xa hz rfl (x:=.ref TO) rfl ?_)
 refine Yb (XM hz 3e2 fun g1 hz1 hs1=>?_);replace hz1:IsZip g1 z TI TO .ellipsis:=hz1
 refine Yb ?_;simp only[List.zipIdx_cons,List.zipIdx_nil,V2,List.forIn_nil]
 refine Yb (Yb (VO ?_));show wpAny _ _ (YN (.ref i1) >>= _) _ _ _
 have k1:∀c o,c≠z->s.heap.get? c=some o->g1.get? c=some o:=fun c o n e=>hs1.extBut _ _ n e
 refine Yb (N1.item _ _ _ _ (N1.keep _ _ h1 fun b hb o e=>k1 b o (fun q=>D.b1 (q ▸ hb)) e) fun x g2 tk2 rx h1' hs2=>Yk ?_)
 have k2:∀c o,c≠z->c≠i1->s.heap.get? c=some o->g2.get? c=some o:=fun c o n1 n2 e=>hs2.extBut _ _ n2 (k1 c o n1 e)
 have hTO2:IsPair g2 TO a b:=k2 _ _ D.a2 D.a8 hTO
 refine Yb (XV hTO2 rfl ?_);refine Yb (Vc hTO2 fun g3 hTO3 hs3=>?_);replace hTO3:IsPair g3 TO x b:=hTO3
 have k3:∀c o,c≠z->c≠i1->c≠TO->s.heap.get? c=some o->g3.get? c=some o:=fun c o n1 n2 n3 e=>hs3.extBut _ _ n3 (k2 c o n1 n2 e)
 refine Yb (wpAny_letGo (Yk ?_));refine Yb (Yb (VO ?_));show wpAny _ _ (YN (.ref i2) >>= _) _ _ _
 refine Yb (N2.item _ _ _ _ (N2.keep _ _ h2 fun b hb o e=>k3 b o (fun q=>D.c1 (q ▸ hb)) (fun q=>D.c3 (q ▸ hb)) (fun q=>D.c2 (q ▸ hb)) e) fun y g4 tk4 ry h2' hs4=>Yk ?_)
 have hTO4:IsPair g4 TO x b:=hs4.extBut _ _ D.a9 hTO3
 refine Yb (XV hTO4 rfl ?_);refine Yb (Vc hTO4 fun g5 hTO5 hs5=>?_);replace hTO5:IsPair g5 TO x y:=hTO5
 refine Yb (wpAny_letGo (Yk (Yk ?_)));refine Yb (XV hTO5 rfl ?_);refine Yb (wpAny_newTuple ?_)
 have e1:=hs1.1;have e2:=hs2.1;have e3:=hs3.1;have e4:=hs4.1;have e5:=hs5.1
 have hsz:g5.objs.size=s.heap.objs.size:=by simp only at e2 e4;rw[e5,e4,e3,e2,e1]
 have k5:∀c o,c≠z->c≠TO->c≠i1->c≠i2->s.heap.get? c=some o->g5.get? c=some o:=fun c o n1 n2 n3 n4 e=>hs5.extBut _ _ n2 (hs4.extBut _ _ n4 (k3 c o n1 n3 n2 e))
 have hz5:IsZip g5 z TI TO .ellipsis:=hs5.extBut _ _ D.a2.symm (hs4.extBut _ _ D.a4.symm (hs3.extBut _ _ D.a2.symm (hs2.extBut _ _ D.a3.symm hz1)))
 have q1:st1' g5:=N1.keep' _ _ h1' fun b hb o e=>hs5.extBut _ _ (fun q=>D.b2 (q ▸ hb)) (hs4.extBut _ _ (fun q=>D.b3 (q ▸ hb)) (hs3.extBut _ _ (fun q=>D.b2 (q ▸ hb)) e))
 have q2:st2' g5:=N2.keep' _ _ h2' fun b hb o e=>hs5.extBut _ _ (fun q=>D.c2 (q ▸ hb)) e
 have ltz:z < g5.objs.size:=Ys hz5
 show wpAny _ _ (Ww (.ref z) (.ref g5.objs.size) >>= _) _ _ _
 refine Yb ?_;unfold Ww
 have hz6:IsZip (g5.push { cls:=.type "tuple",data:=.seq #[x,y] }) z TI TO .ellipsis:=Yc _ hz5
 refine Yb (XM hz6 3e2 fun g7 hz7 hs7=>?_);replace hz7:IsZip g7 z TI TO (rawInt g5.objs.size):=hz7
 refine XM hz7 3e2 fun g8 hz8 hs8=>?_;replace hz8:IsZip g8 z TI TO (rawInt g5.objs.size):=hz8
 have up:∀c o,c≠z->g5.get? c=some o->g8.get? c=some o:=fun c o n e=>hs8.extBut _ _ n (hs7.extBut _ _ n (Yc _ e))
 have hT8:IsPair g8 g5.objs.size x y:=hs8.extBut _ _ (XI ltz) (hs7.extBut _ _ (XI ltz) (Yt _ rfl))
 have sz8:g8.objs.size=g5.objs.size + 1:=by rw[hs8.1,hs7.1,XB]
 rw[hsz] at hz8 hT8 sz8;refine Yk ⟨_,rfl,?_⟩;show Q (.ref g5.objs.size) _;rw[hsz]
 exact hQ x y g8 _ rx ry hz8 (up _ _ D.a2 hTO5) (N1.keep' _ _ q1 fun b hb o e=>up b o (fun q=>D.b1 (q ▸ hb)) e) (N2.keep' _ _ q2 fun b hb o e=>up b o (fun q=>D.c1 (q ▸ hb)) e) hT8 sz8 fun c o n1 n2 n3 n4 e=>up c o n1 (k5 c o n1 n2 n3 n4 e)
theorem zip_end {a b:Value}{Q:Fin->Shared->Prop}(hh:A.handled=none)(D:ZApart z TI TO i1 i2 us1 us2)
  (N:EndAt P w i1 us1 st1\/∃R1 st1',NextAt P w i1 us1 R1 st1 st1'/\EndAt P w i2 us2 st2)
  (hz:IsZip s.heap z TI TO .none) (hTI:IsPair s.heap TI (.ref i1) (.ref i2)) (hTO:IsPair s.heap TO a b) (h1:st1 s.heap) (h2:st2 s.heap)
  (hE:∀h' e tk,(∀c o,c≠z->c≠TO->c≠i1->c≠i2->s.heap.get? c=some o->h'.get? c=some o)->(∃o,h'.get? e=some o/\o.cls=.type "StopIteration")->E (.ref e) { s with heap:=h',toks:=tk }):
  wpAny (model P w) A (Vm.«zip.__next__» ⟨[.ref z],[]⟩) Q E s:=by
 show wpAny _ _ (field (.ref z) 2 >>= _) _ _ _;refine Yb (Xa hz rfl (x:=.bool false) rfl ?_)
 show wpAny _ _ (field (.ref z) 3 >>= _) _ _ _;refine Yb (Xa hz rfl (x:=.ref TI) rfl ?_)
 refine Yb (XV hTI rfl ?_);show wpAny _ _ (Xi (.ref z) >>= _) _ _ _
 refine Yb ?_;unfold Xi
 refine Yb (Xa hz rfl (x:=.none) rfl (Yk ?_));simp only[if_true]
 refine Yb (Ub ?_);refine Yb (Xa hz rfl (x:=.ref TO) rfl ?_)
 refine Yb (XM hz 3e2 fun g1 hz1 hs1=>?_);replace hz1:IsZip g1 z TI TO .ellipsis:=hz1
 refine Yb ?_;simp only[List.zipIdx_cons,List.zipIdx_nil,V2,List.forIn_nil]
 refine Yb (Yb (VO ?_));show wpAny _ _ (YN (.ref i1) >>= _) _ _ _
 have k1:∀c o,c≠z->s.heap.get? c=some o->g1.get? c=some o:=fun c o n e=>hs1.extBut _ _ n e
 rcases N with N1 | ⟨R1,st1',N1,N2⟩
 ·refine Yb (N1.done _ _ _ _ hh (N1.keep _ _ h1 fun b hb o e=>k1 b o (fun q=>D.b1 (q ▸ hb)) e) fun g2 e hs2 he=>?_)
  obtain ⟨oe,hoe,hce⟩:=he
  have hz2:IsZip g2 z TI TO .ellipsis:=hs2 _ _ D.a3.symm hz1
  have hez:e≠z:=fun x=>by subst x;rw[hz2] at hoe;cases hoe;simp at hce
  refine XM hz2 3e2 fun g3 _ hs3=>hE g3 e s.toks (fun c o n1 _ n3 _ x=>hs3.extBut _ _ n1 (hs2 _ _ n3 (k1 c o n1 x))) ⟨oe,hs3.extBut _ _ hez hoe,hce⟩
 ·refine Yb (N1.item _ _ _ _ (N1.keep _ _ h1 fun b hb o e=>k1 b o (fun q=>D.b1 (q ▸ hb)) e) fun x g2 tk2 rx h1' hs2=>Yk ?_)
  have k2:∀c o,c≠z->c≠i1->s.heap.get? c=some o->g2.get? c=some o:=fun c o n1 n2 e=>hs2.extBut _ _ n2 (k1 c o n1 e)
  have hTO2:IsPair g2 TO a b:=k2 _ _ D.a2 D.a8 hTO
  refine Yb (XV hTO2 rfl ?_);refine Yb (Vc hTO2 fun g3 hTO3 hs3=>?_);replace hTO3:IsPair g3 TO x b:=hTO3
  have k3:∀c o,c≠z->c≠i1->c≠TO->s.heap.get? c=some o->g3.get? c=some o:=fun c o n1 n2 n3 e=>hs3.extBut _ _ n3 (k2 c o n1 n2 e)
  refine Yb (wpAny_letGo (Yk ?_));refine Yb (Yb (VO ?_));show wpAny _ _ (YN (.ref i2) >>= _) _ _ _
  refine Yb (N2.done _ _ _ _ hh (N2.keep _ _ h2 fun b hb o e=>k3 b o (fun q=>D.c1 (q ▸ hb)) (fun q=>D.c3 (q ▸ hb)) (fun q=>D.c2 (q ▸ hb)) e) fun g4 e hs4 he=>?_)
  obtain ⟨oe,hoe,hce⟩:=he
  have hz4:IsZip g4 z TI TO .ellipsis:=hs4 _ _ D.a4.symm (hs3.extBut _ _ D.a2.symm (hs2.extBut _ _ D.a3.symm hz1))
  have hez:e≠z:=fun x=>by subst x;rw[hz4] at hoe;cases hoe;simp at hce
  refine XM hz4 3e2 fun g5 _ hs5=>hE g5 e tk2 (fun c o n1 n2 n3 n4 x=>hs5.extBut _ _ n1 (hs4 _ _ n4 (k3 c o n1 n3 n2 x))) ⟨oe,hs5.extBut _ _ hez hoe,hce⟩
theorem zip_next {a b:Value}{Q:Option Value->Shared->Prop}(D:ZApart z TI TO i1 i2 us1 us2)(N1:NextAt P w i1 us1 R1 st1 st1')(N2:NextAt P w i2 us2 R2 st2 st2')
  (hz:IsZip s.heap z TI TO .none) (hTI:IsPair s.heap TI (.ref i1) (.ref i2)) (hTO:IsPair s.heap TO a b) (h1:st1 s.heap) (h2:st2 s.heap)
  (hQ:∀x y h' tk,R1 x->R2 y->IsZip h' z TI TO (rawInt s.heap.objs.size)->IsPair h' TO x y->st1' h'->st2' h'->IsPair h' s.heap.objs.size x y->h'.objs.size=s.heap.objs.size + 1->
   (∀c o,c≠z->c≠TO->c≠i1->c≠i2->s.heap.get? c=some o->h'.get? c=some o)->Q (some (.ref s.heap.objs.size)) { s with heap:=h',toks:=tk }):
  wpAny (model P w) A (pyNext (.ref z)) Q E s:=by
 have hT:s.TypeIs (.ref z) "zip":=⟨_,hz,rfl⟩
 unfold pyNext
 exact Yb (wpAny_attempt (Xp (name:=Wi "__next__") hT Wo (Wd Wo hT PySem.F.entry_zip_next
   (zip_item D N1 N2 hz hTI hTO h1 h2 fun x y h' tk a1 a2 a3 a4 a5 a6 a7 a8 a9=>Yk (hQ x y h' tk a1 a2 a3 a4 a5 a6 a7 a8 a9)) (PySem.F.args_zip_next_1 _))))
theorem zip_done {a b:Value}{Q:Option Value->Shared->Prop}(hh:A.handled=none)(D:ZApart z TI TO i1 i2 us1 us2)
  (N:EndAt P w i1 us1 st1\/∃R1 st1',NextAt P w i1 us1 R1 st1 st1'/\EndAt P w i2 us2 st2)
  (hz:IsZip s.heap z TI TO .none) (hTI:IsPair s.heap TI (.ref i1) (.ref i2)) (hTO:IsPair s.heap TO a b) (h1:st1 s.heap) (h2:st2 s.heap)
  (hQ:∀h' tk,(∀c o,c≠z->c≠TO->c≠i1->c≠i2->s.heap.get? c=some o->h'.get? c=some o)->Q none { s with heap:=h',toks:=tk }):wpAny (model P w) A (pyNext (.ref z)) Q E s:=by
 have hT:s.TypeIs (.ref z) "zip":=⟨_,hz,rfl⟩
 unfold pyNext
 refine Yb (wpAny_attempt (Xp (name:=Wi "__next__") hT Wo (Wd Wo hT PySem.F.entry_zip_next (zip_end hh D N hz hTI hTO h1 h2 fun h' e tk hk he=>?_) (PySem.F.args_zip_next_1 _))))
 obtain ⟨o,ho,hc⟩:=he
 exact Yb (wpAny_isInstance (T:="StopIteration") (b:=true) ⟨o,ho,hc⟩ isSubtype_stop (Yk (hQ _ _ hk)))
theorem tup_nextOf {it t:Addr}{i:Nat}{items:Array Value}{x:Value}{Q:1e4}(hit:s.heap.IsTupleIter it t i)(ht:s.heap.IsTuple t items)(hx:items[i]? = some x)
  (hQ:∀h',h'.IsTupleIter it t (i + 1)->W3 it s.heap h'->Q x { s with heap:=h' }):wpAny (model P w) A (YN (.ref it)) Q E s:=by
 obtain ⟨o,ho,hc,hd⟩:=id hit;obtain ⟨ol,hol,_,nl,hdl⟩:=ht
 unfold YN
 refine Yb (Xp (name:=Wi "__next__") hit.typeIs Xu (Wd Xu hit.typeIs WL ?_ (WB _)))
 show wpAny _ _ (field (.ref it) 0 >>= _) _ _ s;refine Yb (Xa ho hd (x:=.ref t) rfl ?_)
 show wpAny _ _ (if (YL t==XH)=true then _ else _) _ _ s;rw[if_neg (show ¬((YL t==XH)=true) from Yh)]
 show wpAny _ _ (field (.ref it) 1 >>= _) _ _ s;refine Yb (Xa ho hd (x:=.int i 0) rfl ?_)
 show wpAny _ _ (seqItems? (.ref t) >>= _) _ _ s;refine Yb (XV hol hdl ?_);simp only[VF,hx]
 refine Yb (Vy ho hd 3e2 (Yk ⟨x,rfl,Yk (hQ _ ?_ (Heap.SameBut.update ..))⟩));exact ⟨_,Wj _ ho (Obj.isFreed_of_fields (WN hd _)),(Obj.cls_mapFields ..).trans hc,by rw[WN hd];simp[rawInt]⟩
theorem tup_nextEnd {it t:Addr}{i:Nat}{items:Array Value}{Q:1e4}(hh:A.handled=none)(hit:s.heap.IsTupleIter it t i)(ht:s.heap.IsTuple t items)(hx:items[i]? = none)
  (hE:∀h' e,Heap.ExtBut it s.heap h'->(∃o,h'.get? e=some o/\o.cls=.type "StopIteration")->E (.ref e) { s with heap:=h' }):wpAny (model P w) A (YN (.ref it)) Q E s:=by
 obtain ⟨o,ho,hc,hd⟩:=id hit;obtain ⟨ol,hol,_,nl,hdl⟩:=ht
 unfold YN
 refine Yb (Xp (name:=Wi "__next__") hit.typeIs Xu (Wd Xu hit.typeIs WL ?_ (WB _)))
 show wpAny _ _ (field (.ref it) 0 >>= _) _ _ s;refine Yb (Xa ho hd (x:=.ref t) rfl ?_)
 show wpAny _ _ (if (YL t==XH)=true then _ else _) _ _ s;rw[if_neg (show ¬((YL t==XH)=true) from Yh)]
 show wpAny _ _ (field (.ref it) 1 >>= _) _ _ s;refine Yb (Xa ho hd (x:=.int i 0) rfl ?_)
 show wpAny _ _ (seqItems? (.ref t) >>= _) _ _ s;refine Yb (XV hol hdl ?_);simp only[VF,hx]
 refine Yb (Ub (Yb (Vy ho hd 3e2 ?_)));show wpAny _ _ (newExc (.type "StopIteration") [] >>= _) _ _ _
 refine Yb ?_;simp only[newExc,newTuple];refine Yb (Xm ?_ (by size_fits))
 refine Yb (m:=firstArgMember _ _) (wpAny_of_eq (a:=XH) (by first | rfl | (simp only[firstArgMember];rfl)) ?_);refine Xm ?_ (by size_fits)
 simp only[raiseNew];refine Yb (wpAny_handled ?_);first | rw[show A.in1.handled=none from hh] | rw[hh]
 refine Yb (Yk (wpAny_throw ?_));exact hE _ _ (((Heap.SameBut.update ..).extBut.push _).push _) ⟨_,Yt _ rfl,rfl⟩
end
inductive ZS where
 | l (a:Addr) | t (a:Addr) | s (z:Str) (tk:Tok) (wd:Bool)
def ZS.at' (S:ZS)(it:Addr)(i:Nat)(h:Heap):Prop:=match S with
 | .l a=>h.IsListIter it a i
 | .t a=>h.IsTupleIter it a i
 | .s z tk wd=>h.IsStrIter it (if wd then "str_iterator" else "str_ascii_iterator") z tk i
def ZS.has (K:W.Frag)(H:Hp)(S:ZS)(i:Nat)(v:V):Prop:=match S with
 | .l a=>∃xs,SqL K H a xs/\xs[i]? = some v
 | .t a=>∃xs,SqT K H a xs/\xs[i]? = some v
 | .s z _ _=>∃c,z.cps[i]? = some c/\v=.str ⟨#[c]⟩
def ZS.ends (K:W.Frag)(H:Hp)(S:ZS)(i:Nat):Prop:=match S with
 | .l a=>∃xs,SqL K H a xs/\xs.length<=i
 | .t a=>∃xs,SqT K H a xs/\xs.length<=i
 | .s z _ _=>z.cps.size<=i
def ZS.us (S:ZS)(it:Addr):List Addr:=match S with
 | .l a=>[it,a]
 | .t a=>[it,a]
 | .s _ _ _=>[it]
theorem ZS.keepAt {S:ZS}{it:Addr}{i:Nat}{h h':Heap}(x:S.at' it i h)(k:∀o,h.get? it=some o->h'.get? it=some o):S.at' it i h':=by
 cases S with
 | l a=>exact Heap.IsListIter.at x k
 | t a=>exact Heap.IsTupleIter.at x k
 | s z tk wd=>obtain ⟨o,e,r⟩:=x;exact ⟨o,k o e,r⟩
section
variable {X:Cx}{pins:1e8}{σ:St}{H:Hp}{s:Shared}
theorem next_of {S:ZS}{it:Addr}{i:Nat}{v:V}(I:2e1)(hs:S.has X.K H i v)(ne:∀b∈S.us it,b=it\/b≠it)(hne:∀a,(S=.l a\/S=.t a)->a≠it):
  ∃st:Heap->Prop,(S.at' it i s.heap->st s.heap)/\NextAt X.prog X.w it (S.us it) (fun u=>RelV v u) st (fun h=>S.at' it (i + 1) h):=by
 cases S with
 | l a=>
  obtain ⟨xs,hq,hx⟩:=hs
  obtain ⟨its,rv,p,hz⟩:=I.list hq
  obtain ⟨u,hu,ru⟩:=rv.get hx
  refine ⟨fun h=>h.IsListIter it a i/\h.IsList a its.toArray,fun x=>⟨x,p.isList⟩,⟨fun A E s Q st hQ=>?_,fun h h' st k=>⟨st.1.at fun o e=>k it 13e0 o e,st.2.at fun o e=>k a 13e0 o e⟩,fun h h' st k=>Heap.IsListIter.at st fun o e=>k it 13e0 o e⟩⟩
  exact wpAny_nextOf_list_item st.1 st.2 (x:=u) (by simpa using hu) fun h' a1 a2=>hQ u h' s.toks ru a1 a2
 | t a=>
  obtain ⟨xs,hq,hx⟩:=hs
  obtain ⟨its,rv,p,hz⟩:=I.tuple hq
  obtain ⟨u,hu,ru⟩:=rv.get hx
  refine ⟨fun h=>h.IsTupleIter it a i/\h.IsTuple a its.toArray,fun x=>⟨x,p⟩,⟨fun A E s Q st hQ=>?_,fun h h' st k=>⟨st.1.at fun o e=>k it 13e0 o e,st.2.at fun o e=>k a 13e0 o e⟩,fun h h' st k=>Heap.IsTupleIter.at st fun o e=>k it 13e0 o e⟩⟩
  exact tup_nextOf st.1 st.2 (x:=u) (by simpa using hu) fun h' a1 a2=>hQ u h' s.toks ru a1 a2
 | s z tk wd=>
  obtain ⟨c,hc,rfl⟩:=hs
  refine ⟨fun h=>ZS.at' (.s z tk wd) it i h,fun x=>x,⟨fun A E s Q st hQ=>?_,fun h h' st k=>ZS.keepAt st fun o e=>k it 13e0 o e,fun h h' st k=>ZS.keepAt (S:=.s z tk wd) st fun o e=>k it 13e0 o e⟩⟩
  cases wd with
  | true=>exact wpAny_nextOf_wide_item st hc fun h' a1 a2=>hQ _ h' _ 8e8 a1 a2
  | false=>exact wpAny_nextOf_ascii_item st hc fun h' a1 a2=>hQ _ h' _ 8e8 a1 a2
theorem end_of {S:ZS}{it:Addr}{i:Nat}(I:2e1)(hs:S.ends X.K H i):∃st:Heap->Prop,(S.at' it i s.heap->st s.heap)/\EndAt X.prog X.w it (S.us it) st:=by
 cases S with
 | l a=>
  obtain ⟨xs,hq,hx⟩:=hs
  obtain ⟨its,rv,p,hz⟩:=I.list hq
  have hl:=rv.length
  exact ⟨fun h=>h.IsListIter it a i/\h.IsList a its.toArray,fun x=>⟨x,p.isList⟩,⟨fun A E s Q hh st hE=>wpAny_nextOf_list_end hh st.1 st.2 (by simp;lia) hE,fun h h' st k=>⟨st.1.at fun o e=>k it 13e0 o e,st.2.at fun o e=>k a 13e0 o e⟩⟩⟩
 | t a=>
  obtain ⟨xs,hq,hx⟩:=hs
  obtain ⟨its,rv,p,hz⟩:=I.tuple hq
  have hl:=rv.length
  exact ⟨fun h=>h.IsTupleIter it a i/\h.IsTuple a its.toArray,fun x=>⟨x,p⟩,⟨fun A E s Q hh st hE=>tup_nextEnd hh st.1 st.2 (by simp;lia) hE,fun h h' st k=>⟨st.1.at fun o e=>k it 13e0 o e,st.2.at fun o e=>k a 13e0 o e⟩⟩⟩
 | s z tk wd=>
  refine ⟨fun h=>ZS.at' (.s z tk wd) it i h,fun x=>x,⟨fun A E s Q hh st hE=>?_,fun h h' st k=>ZS.keepAt st fun o e=>k it 13e0 o e⟩⟩
  have hx:z.cps[i]? = none:=Array.getElem?_eq_none hs
  cases wd with
  | true=>exact wpAny_nextOf_wide_end hh st hx hE
  | false=>exact wpAny_nextOf_ascii_end hh st hx hE
end
noncomputable def ZS.val:ZS->Value
 | .l a=>.ref a
 | .t a=>.ref a
 | .s z tk _=>.str z tk
noncomputable def ZS.obj:ZS->Obj
 | .l a=>{ cls:=.type "list_iterator",data:=.fields #[.ref a,.int 0 0] }
 | .t a=>{ cls:=.type "tuple_iterator",data:=.fields #[.ref a,.int 0 0] }
 | .s z tk wd=>{ cls:=.type (if wd then "str_iterator" else "str_ascii_iterator"),data:=.fields #[.str z tk,.int 0 0] }
def ZS.src (S:ZS)(h:Heap):Prop:=match S with
 | .l a=>∃its,h.IsList a its
 | .t a=>∃its,h.IsTuple a its
 | .s z _ wd=>wd=!(z.cps.all (· < 128))
theorem ZS.src_push {S:ZS}{h:Heap}(x:S.src h)(o:Obj):S.src (h.push o):=by
 cases S with
 | l a=>obtain ⟨its,e⟩:=x;exact ⟨its,Heap.IsList.push e _⟩
 | t a=>obtain ⟨its,e⟩:=x;exact ⟨its,Heap.IsTuple.at e fun o e=>Yc _ e⟩
 | s z tk wd=>exact x
theorem ZS.iter {S:ZS}{P:Yl}{w:World}{A:Around}{E:1e4}{s:Shared}{Q:1e4}(x:S.src s.heap)(hQ:Q 11e0 { s with heap:=s.heap.push S.obj }):
  wpAny (model P w) A (pyIter S.val) Q E s:=by
 cases S with
 | l a=>obtain ⟨its,e⟩:=x;exact VD e hQ
 | t a=>obtain ⟨its,e⟩:=x;exact wpAny_pyIter_tuple e hQ
 | s z tk wd=>
  cases ha:z.cps.all (· < 128) with
  | true=>
   have:wd=false:=by rw[show wd=!(z.cps.all (· < 128)) from x,ha];rfl
   subst this
   exact wpAny_pyIter_ascii ha hQ
  | false=>
   have:wd=true:=by rw[show wd=!(z.cps.all (· < 128)) from x,ha];rfl
   subst this
   exact wpAny_pyIter_wide ha hQ
abbrev zH3 (h:Heap)(S1 S2:ZS):Heap:=((h.push S1.obj).push S2.obj).push { cls:=.type "tuple",data:=.seq #[.ref h.objs.size,.ref (h.push S1.obj).objs.size] }
abbrev zH4 (h:Heap)(S1 S2:ZS):Heap:=(zH3 h S1 S2).push { cls:=.type "tuple",data:=.seq #[.none,.none] }
abbrev zH5 (h:Heap)(S1 S2:ZS):Heap:=(zH4 h S1 S2).push { cls:=.type "zip",data:=.fields #[.none,.bool false,.bool false,.ref ((h.push S1.obj).push S2.obj).objs.size,.ref (zH3 h S1 S2).objs.size] }
theorem zip_new (S1 S2:ZS):Meets (Vm.«zip.__new__» ⟨[.type "zip",S1.val,S2.val],[]⟩) (fun _ R s=>S1.src s.heap/\S2.src s.heap/\R (.ok (.ret (.ref (zH4 s.heap S1 S2).objs.size))) { s with heap:=zH5 s.heap S1 S2 }):=
 .of_wp fun prog w A R ⟨hp,g,d,tk,os⟩ ⟨hl1,hl2,h⟩=>by
  have below:=sub_zip
  have hL1:S1.src (Shared.heap ⟨hp,g,d,tk,os⟩):=hl1
  have hL2:S2.src (Shared.heap ⟨hp.push S1.obj,g,d,tk,os⟩):=ZS.src_push hl2 _
  wp_walk using ZS.iter hL1,ZS.iter hL2
  exact ⟨_,rfl,h⟩
section
variable {X:Cx}{pins:1e8}{σ:St}{H:Hp}{s:Shared}
theorem turnedL {t':Nat}{h':Heap}{ch:2e9}(I:2e1)(k:∀b o,b∉ch->s.heap.get? b=some o->h'.get? b=some o)(hf:∀b∈ch,FpOk X pins H b):Inv X pins σ H { s with heap:=h',toks:=t' }:=by
 have nit:∀b u,H b=some u->b∉ch:=fun b u e z=>by rw[(hf b z).1] at e;cases e
 refine I.step (g':=s.gens) (d':=s.drawn) (ch:=ch) (fun b hb=>⟨(hf b hb).2.2.2.1,(hf b hb).2.1,(hf b hb).2.2.2.2.1,(hf b hb).2.2.2.2.2⟩) (fun b o _ _ hc e _=>k b o hc e) (fun b o _ _ hc e _=>⟨o.slots,k b o hc e⟩) (fun _ _ _ _ n=>n)
  (fun b o hc e=>⟨o,k b o hc e⟩) (fun _ _ e=>e) (fun _ _ _ e=>e) (fun b ps e=>⟨#[],by rw[e];simp⟩) (fun m hm=>?_) (fun b u e=>?_) I.bare
 ·obtain ⟨o,es,ep,ho,r⟩:=hm
  exact ⟨o,es,ep,k _ o (fun z=>(hf _ z).2.1 rfl) ho,r⟩
 ·refine (I.hok b u e).stay (fun c v hc q=>k c v ?_ q) (fun _ q=>q) fun _ _ q=>q
  rcases hc with z | z
  ·rw[z];exact nit b u e
  ·exact nit c _ z
theorem Zci {a b:Addr}{xs:List V}(I:2e1)(h:SqL X.K H a xs)(f:FpOk X pins H b):a≠b:=by
 rintro rfl
 rcases h with (h | ⟨o,h⟩) | ⟨o,its,n,hk,_⟩
 ·rw[f.1] at h;cases h
 ·rw[f.1] at h;cases h
 ·have hb:=I.ok.mod.kin _ _ hk
  rcases f.2.2.2.1 with z | z
  ·exact I.ok.noex _ _ hb z
  ·exact absurd (Ym (Ys hb) (Yv I.ok.bsz z)) (Xo _)
theorem Zch {a b:Addr}{xs:List V}(I:2e1)(h:SqT X.K H a xs)(f:FpOk X pins H b):a≠b:=by
 rintro rfl
 rcases h with (h | ⟨o,h⟩) | ⟨o,its,n,hk,_⟩
 ·rw[f.1] at h;cases h
 ·rw[f.1] at h;cases h
 ·have hb:=I.ok.mod.kin _ _ hk
  rcases f.2.2.2.1 with z | z
  ·exact I.ok.noex _ _ hb z
  ·exact absurd (Ym (Ys hb) (Yv I.ok.bsz z)) (Xo _)
def ZS.rd (S:ZS)(K:W.Frag)(H:Hp):Prop:=match S with
 | .l a=>∃xs,SqL K H a xs
 | .t a=>∃xs,SqT K H a xs
 | .s _ _ _=>True
theorem Zcf {S:ZS}{it b:Addr}(I:2e1)(r:S.rd X.K H)(f:FpOk X pins H b)(hb:it≠b):b∉S.us it:=by
 cases S with
 | l a=>
  obtain ⟨xs,h⟩:=r
  intro z
  rcases Yg.mp z with z | z
  ·exact hb z.symm
  ·exact Zci I h f (Xc.mp z).symm
 | t a=>
  obtain ⟨xs,h⟩:=r
  intro z
  rcases Yg.mp z with z | z
  ·exact hb z.symm
  ·exact Zch I h f (Xc.mp z).symm
 | s z tk wd=>
  intro q
  exact hb (Xc.mp q).symm
theorem has_inj {S:ZS}{i:Nat}{u v:V}(I:2e1)(h:S.has X.K H i u)(h':S.has X.K H i v):u=v:=by
 cases S with
 | l a=>
  obtain ⟨xs,h1,h2⟩:=h
  obtain ⟨ys,h3,h4⟩:=h'
  rw[I.list_inj h1 h3,h4] at h2
  exact (Yz h2).symm
 | t a=>
  obtain ⟨xs,h1,h2⟩:=h
  obtain ⟨ys,h3,h4⟩:=h'
  rw[I.tuple_inj h1 h3,h4] at h2
  exact (Yz h2).symm
 | s z tk wd=>
  obtain ⟨c,h1,rfl⟩:=h
  obtain ⟨d,h2,rfl⟩:=h'
  rw[h1] at h2
  cases h2;rfl
theorem ZS.has_rd {S:ZS}{K:W.Frag}{i:Nat}{v:V}(h:S.has K H i v):S.rd K H:=by
 cases S with
 | l a=>obtain ⟨xs,h,_⟩:=h;exact ⟨xs,h⟩
 | t a=>obtain ⟨xs,h,_⟩:=h;exact ⟨xs,h⟩
 | s z tk wd=>trivial
end
structure ZNe (z TI TO i1 i2:Addr):Prop where
 a1:TI≠z
 a2:TO≠z
 a3:i1≠z
 a4:i2≠z
 a5:TI≠TO
 a6:TI≠i1
 a7:TI≠i2
 a8:TO≠i1
 a9:TO≠i2
 a10:i1≠i2
theorem zne (n:Nat):ZNe (n + 4) (n + 2) (n + 3) n (n + 1):=by
 have h:∀a b:Nat,a≠b->n + a≠n + b:=fun a b h e=>h (Nat.add_left_cancel e)
 exact ⟨h 2 4 2e6,h 3 4 2e6,h 0 4 2e6,h 1 4 2e6,h 2 3 2e6,h 2 0 2e6,h 2 1 2e6,h 3 0 2e6,h 3 1 2e6,h 0 1 2e6⟩
def Jz (K:W.Frag)(S1 S2:ZS):It:=⟨fun i H=>(∃v,S1.has K H i v)/\∃v,S2.has K H i v,fun i H x H'=>∃a u v,H a=none/\x=.ref a/\H'=upd H a (.tup [u,v])/\(∀u',S1.has K H i u'->u'=u)/\∀v',S2.has K H i v'->v'=v,
 fun i H=>S1.rd K H/\S2.rd K H/\(S1.ends K H i\/((∃v,S1.has K H i v)/\S2.ends K H i))⟩
theorem turn_zip {P:Yl}{w:World}{K:W.Frag}{elts:4e5}{x1:Nat}{pos:Pos}{S1 S2:ZS}{z TI TO i1 i2:Addr}(N:ZNe z TI TO i1 i2):Turn P w K (.Tuple elts x1 pos) (Jz K S1 S2) [z,TI,TO,i1,i2] z
  (fun i h=>IsZip h z TI TO .none/\IsPair h TI (.ref i1) (.ref i2)/\(∃a b,IsPair h TO a b)/\S1.at' i1 i h/\S2.at' i2 i h) where
 mem:=by simp
 obj:=fun i h st b hb=>by
  obtain ⟨hz,hTI,⟨a,c,hTO⟩,h1,h2⟩:=st
  have it:∀{S:ZS} {it:Addr},S.at' it i h->∃o,h.get? it=some o/\∀v,o.data≠.cell v:=fun {S it} x=>by
   cases S with
   | l a=>obtain ⟨o,e,_,d⟩:=x;exact ⟨o,e,fun v q=>by rw[d] at q;cases q⟩
   | t a=>obtain ⟨o,e,_,d⟩:=x;exact ⟨o,e,fun v q=>by rw[d] at q;cases q⟩
   | s z tk wd=>obtain ⟨o,e,_,d⟩:=x;exact ⟨o,e,fun v q=>by rw[d] at q;cases q⟩
  simp only[Yg,Yr,or_false] at hb
  rcases hb with rfl | rfl | rfl | rfl | rfl
  ·exact ⟨_,hz,fun v q=>by cases q⟩
  ·exact ⟨_,hTI,fun v q=>by cases q⟩
  ·exact ⟨_,hTO,fun v q=>by cases q⟩
  ·exact it h1
  ·exact it h2
 keep:=fun i h h' st k=>by
  obtain ⟨hz,hTI,⟨a,c,hTO⟩,h1,h2⟩:=st
  exact ⟨k z 3e2 _ hz,k TI 3e2 _ hTI,⟨a,c,k TO 3e2 _ hTO⟩,ZS.keepAt h1 fun o e=>k i1 3e2 o e,ZS.keepAt h2 fun o e=>k i2 3e2 o e⟩
 item:=by
  sleep 2
  obtain ⟨hz,hTI,⟨a,c,hTO⟩,h1,h2⟩:=st
  obtain ⟨⟨v1,g1⟩,⟨v2,g2⟩⟩:=hg
  have f:=fun b hb=>hf b hb
  obtain ⟨st1,e1,N1⟩:=next_of (it:=i1) I g1 (fun b _=>Classical.em _) (fun a ha=>by rcases ha with rfl | rfl;exact Zci I g1.choose_spec.1 (f i1 (by simp));exact Zch I g1.choose_spec.1 (f i1 (by simp)))
  obtain ⟨st2,e2,N2⟩:=next_of (it:=i2) I g2 (fun b _=>Classical.em _) (fun a ha=>by rcases ha with rfl | rfl;exact Zci I g2.choose_spec.1 (f i2 (by simp));exact Zch I g2.choose_spec.1 (f i2 (by simp)))
  have D:ZApart z TI TO i1 i2 (S1.us i1) (S2.us i2):=⟨N.a1,N.a2,N.a3,N.a4,N.a5,N.a6,N.a7,N.a8,N.a9,Zcf I (ZS.has_rd g1) (f z 3e2) N.a3,Zcf I (ZS.has_rd g1) (f TO 3e2) N.a8.symm,Zcf I (ZS.has_rd g1) (f i2 3e2) N.a10,
   Zcf I (ZS.has_rd g2) (f z (by simp)) N.a4,Zcf I (ZS.has_rd g2) (f TO (by simp)) N.a9.symm,Zcf I (ZS.has_rd g2) (f i1 (by simp)) N.a10.symm⟩
  refine zip_next D N1 N2 hz hTI hTO (e1 h1) (e2 h2) fun x y h' tk rx ry a1 a2 a3 a4 a5 a6 a7=>⟨_,rfl,?_⟩
  refine wpAny_letOwnedTupleGo_zip (s:={ s with heap:=h',toks:=tk }) a1 fun h3 hz3 sb=>?_
  have hlt:∀{b o},s.heap.get? b=some o->b≠s.heap.objs.size:=fun e=>YB (Ys e)
  have J1:Inv X pins σ H { s with heap:=h3,toks:=tk }:=turnedL (ch:=[z,TI,TO,i1,i2]) I (fun b o hb e=>by
   simp only[Yg,Yr,or_false,not_or] at hb
   exact sb.extBut _ _ hb.1 (a7 b o hb.1 hb.2.2.1 hb.2.2.2.1 hb.2.2.2.2 e)) hf
  have hn:H s.heap.objs.size=none:=I.hok.fresh (Yo _)
  have ltz:=hlt hz
  have hT:IsPair h3 s.heap.objs.size x y:=sb.extBut _ _ ltz.symm a5
  have J2:=track (ob:=.tup [v1,v2]) J1 hn I.sz (XI I.lt) (fun x c e=>by obtain ⟨v,q⟩:=I.cell x c e;exact YB q.lt) (fun p hp=>hlt (I.pin p hp).1)
   ⟨by show 2<=Yu;rw[YU];decide,[x,y],.cons rx (.cons ry .nil),⟨_,hT,rfl,_,rfl⟩⟩
  refine ⟨.ref s.heap.objs.size,_,J2,rfl,⟨_,v1,v2,hn,rfl,rfl,fun u' q=>has_inj I q g1,fun u' q=>has_inj I q g2⟩,⟨hz3,sb.extBut _ _ N.a1 (a7 TI _ N.a1 N.a5 N.a6 N.a7 hTI),⟨_,_,sb.extBut _ _ N.a2 a2⟩,ZS.keepAt a3 fun o e=>sb.extBut _ _ N.a3 e,ZS.keepAt a4 fun o e=>sb.extBut _ _ N.a4 e⟩,fun b hb=>?_⟩
  have hb':b≠s.heap.objs.size:=by
   simp only[Yg,Yr,or_false] at hb
   have it:∀{S:ZS} {it:Addr},S.at' it i s.heap->it≠s.heap.objs.size:=fun {S it} x=>by
    cases S with
    | l a=>obtain ⟨o,e,_⟩:=x;exact hlt e
    | t a=>obtain ⟨o,e,_⟩:=x;exact hlt e
    | s z tk wd=>obtain ⟨o,e,_⟩:=x;exact hlt e
   rcases hb with rfl | rfl | rfl | rfl | rfl
   ·exact hlt hz
   ·exact hlt hTI
   ·exact hlt hTO
   ·exact it h1
   ·exact it h2
  rw[Zao hb'];exact (hf b hb).1
 done:=by
  sleep 2
  obtain ⟨hz,hTI,⟨a,c,hTO⟩,h1,h2⟩:=st
  obtain ⟨r1,r2,hg⟩:=hg
  have f:=fun b hb=>hf b hb
  have D:ZApart z TI TO i1 i2 (S1.us i1) (S2.us i2):=⟨N.a1,N.a2,N.a3,N.a4,N.a5,N.a6,N.a7,N.a8,N.a9,Zcf I r1 (f z 3e2) N.a3,Zcf I r1 (f TO 3e2) N.a8.symm,Zcf I r1 (f i2 3e2) N.a10,
   Zcf I r2 (f z (by simp)) N.a4,Zcf I r2 (f TO (by simp)) N.a9.symm,Zcf I r2 (f i1 (by simp)) N.a10.symm⟩
  have fin:∀h' tk,(∀c o,c≠z->c≠TO->c≠i1->c≠i2->s.heap.get? c=some o->h'.get? c=some o)->(none:Option Value)=none/\Inv X pins σ H { s with heap:=h',toks:=tk }:=fun h' tk k=>⟨rfl,turnedL (ch:=[z,TI,TO,i1,i2]) I (fun b o hb e=>by
   simp only[Yg,Yr,or_false,not_or] at hb
   exact k b o hb.1 hb.2.2.1 hb.2.2.2.1 hb.2.2.2.2 e) hf⟩
  rcases hg with g1 | ⟨⟨v1,g1⟩,g2⟩
  ·obtain ⟨st1,e1,N1⟩:=end_of (it:=i1) I g1
   exact zip_done (st2:=fun _=>True) (I.ok.hd hc) D (.inl N1) hz hTI hTO (e1 h1) trivial fin
  ·obtain ⟨st1,e1,N1⟩:=next_of (it:=i1) I g1 (fun b _=>Classical.em _) (fun a ha=>by rcases ha with rfl | rfl;exact Zci I g1.choose_spec.1 (f i1 (by simp));exact Zch I g1.choose_spec.1 (f i1 (by simp)))
   obtain ⟨st2,e2,N2⟩:=end_of (it:=i2) I g2
   exact zip_done (I.ok.hd hc) D (.inr ⟨_,_,N1,N2⟩) hz hTI hTO (e1 h1) (e2 h2) fin
 self:=fun _ _ _ _ _ st h=>wpAny_pyIter_zip st.1 h
structure ZSrc (K:W.Frag)(ι:List Addr)(H:Hp)(S:ZS)(ps:List PV):Prop where
 rd:∀ι2 H2,Ex ι ι2 H H2->S.rd K H2
 has:∀ι2 H2,Ex ι ι2 H H2->∀i p,ps[i]? = some p->∃v,S.has K H2 i v/\Rep K 8e6 H2 p v
 ends:∀ι2 H2,Ex ι ι2 H H2->∀i,ps.length<=i->S.ends K H2 i
section
variable {X:Cx}{pins:1e8}{σ:St}{H:Hp}{s:Shared}
theorem src_of {ι:2e9}{C:Cs}{x:SV}{ps:List PV}{v:V}{u:Value}(I:2e1)(cr:CR X.K ι H C)(r:RepS X.K ι H x v)(e:itemsP x=some ps)(ru:RelV v u):∃S:ZS,u=S.val/\S.src s.heap/\ZSrc X.K ι H S ps:=by
 unfold itemsP at e
 split at e
 ·cases e
  replace r:Rep X.K ι H (.lst _) v:=r
  unfold Rep at r
  obtain ⟨a,vs,rfl,hq,rv⟩:=r
  obtain ⟨its,_,p,_⟩:=I.list hq.sq
  have keep:∀ι2 H2,Ex ι ι2 H H2->SqL X.K H2 a vs:=fun ι2 H2 x=>by
   rcases hq with ⟨n,q | ⟨o,q⟩⟩ | q
   ·exact .inl (.inl (x.out _ _ n q).2)
   ·exact .inl (.inr ⟨o,(x.out _ _ n q).2⟩)
   ·exact .inr q
  refine ⟨.l a,ru,⟨_,p.isList⟩,fun ι2 H2 x=>⟨vs,keep ι2 H2 x⟩,fun ι2 H2 x i p hp=>?_,fun ι2 H2 x i hi=>⟨vs,keep ι2 H2 x,by rw[←rv.length];exact hi⟩⟩
  obtain ⟨w,e1,r1⟩:=rv.get hp
  exact ⟨w,⟨vs,keep ι2 H2 x,e1⟩,Rep.tr cr x.out p w r1⟩
 ·cases e
  replace r:Rep X.K ι H (.tup _) v:=r
  unfold Rep at r
  obtain ⟨a,vs,rfl,hq,rv⟩:=r
  obtain ⟨its,_,p,_⟩:=I.tuple hq.sq
  have keep:∀ι2 H2,Ex ι ι2 H H2->SqT X.K H2 a vs:=fun ι2 H2 x=>by
   rcases hq.sq (K:=X.K) with (q | ⟨o,q⟩) | q
   ·exact .inl (.inl (x.out _ _ (cr.notup q (fun _ e=>nomatch e) fun _ e=>nomatch e) q).2)
   ·exact .inl (.inr ⟨o,(x.out _ _ (cr.notup q (fun _ e=>nomatch e) fun _ e=>nomatch e) q).2⟩)
   ·exact .inr q
  refine ⟨.t a,ru,⟨_,p⟩,fun ι2 H2 x=>⟨vs,keep ι2 H2 x⟩,fun ι2 H2 x i p hp=>?_,fun ι2 H2 x i hi=>⟨vs,keep ι2 H2 x,by rw[←rv.length];exact hi⟩⟩
  obtain ⟨w,e1,r1⟩:=rv.get hp
  exact ⟨w,⟨vs,keep ι2 H2 x,e1⟩,Rep.tr cr x.out p w r1⟩
 ·cases e
  rename Str=>z
  replace r:Rep X.K ι H (.str z) v:=r
  unfold Rep at r
  obtain ⟨rfl,hz⟩:=r
  obtain ⟨t,rfl⟩:=ru
  refine ⟨.s z t (!(z.cps.all (· < 128))),rfl,rfl,fun _ _ _=>trivial,fun ι2 H2 x i p hp=>?_,fun ι2 H2 x i hi=>by show z.cps.size<=i;simpa using hi⟩
  rw[Y7] at hp
  cases hc:z.cps.toList[i]? with
  | none=>rw[hc] at hp;cases hp
  | some d=>
   rw[hc] at hp;cases hp
   exact ⟨.str ⟨#[d]⟩,⟨d,by simpa using hc,rfl⟩,repS (by show 1<=Yu;rw[YU];decide)⟩
 ·cases e
theorem iter_zip {K:W.Frag}{ι:2e9}{S1 S2:ZS}{ps qs:List PV}(Z1:ZSrc K ι H S1 ps)(Z2:ZSrc K ι H S2 qs):Iter K ι H (V3 (fun a b=>.tup [a,b]) ps qs) (Jz K S1 S2):=by
 have hl:(V3 (fun a b=>PV.tup [a,b]) ps qs).length=min ps.length qs.length:=by simp
 refine ⟨fun ι2 H2 C2 x c i hi=>?_,fun ι2 H2 C2 x c i v H3 hi y=>?_,fun ι2 H2 C2 x c=>?_⟩
 ·rw[hl] at hi
  have h1:i < ps.length:=by lia
  have h2:i < qs.length:=by lia
  obtain ⟨v,g1,_⟩:=Z1.has ι2 H2 x i _ (Ye h1)
  obtain ⟨u,g2,_⟩:=Z2.has ι2 H2 x i _ (Ye h2)
  exact ⟨⟨v,g1⟩,⟨u,g2⟩⟩
 ·rw[hl] at hi
  have h1:i < ps.length:=by lia
  have h2:i < qs.length:=by lia
  obtain ⟨v1,g1,r1⟩:=Z1.has ι2 H2 x i _ (Ye h1)
  obtain ⟨v2,g2,r2⟩:=Z2.has ι2 H2 x i _ (Ye h2)
  obtain ⟨a,u,w,hn,rfl,rfl,e1,e2⟩:=y
  rw[←e1 v1 g1,←e2 v2 g2]
  refine ⟨fun b o e=>by rw[Zao (Zal e hn)];exact e,.tup [ps[i],qs[i]],?_,ZcD hn (.cons r1 (.cons r2 .nil))⟩
  rw[List.getElem?_zipWith,Ye h1,Ye h2]
 ·refine ⟨Z1.rd ι2 H2 x,Z2.rd ι2 H2 x,?_⟩
  rw[hl]
  rcases Nat.le_total ps.length qs.length with h | h
  ·exact .inl (Z1.ends ι2 H2 x _ 4e0)
  ·by_cases he:ps.length<=qs.length
   ·exact .inl (Z1.ends ι2 H2 x _ 4e0)
   ·right
    have h1:min ps.length qs.length < ps.length:=by lia
    obtain ⟨v,g1,_⟩:=Z1.has ι2 H2 x _ _ (Ye h1)
    exact ⟨⟨v,g1⟩,Z2.ends ι2 H2 x _ 4e0⟩
end
def zipP:List SV->Option 6e1
 | [x,y]=>match itemsP x,itemsP y with
  | some ps,some qs=>some (V3 (fun a b=>.tup [a,b]) ps qs)
  | _,_=>none
 | _=>none
theorem zipP_some {xs:List SV}{ys:List PV}(h:zipP xs=some ys):∃x y ps qs,xs=[x,y]/\itemsP x=some ps/\itemsP y=some qs/\ys=V3 (fun a b=>.tup [a,b]) ps qs:=by
 unfold zipP at h
 split at h
 ·split at h
  ·cases h;exact ⟨_,_,_,_,rfl,by assumption,by assumption,rfl⟩
  ·cases h
 ·cases h
def mZip (fs:2e3):PSt->M 6e1:=fun ρ=>bnd (fs ρ) fun xs=>opM fun _=>zipP xs
mutual
noncomputable def HRep (h:Heap):PV->Value->Prop
 | .non,u=>u=.none
 | .bl b,u=>u=.bool b
 | .int i,u=>∃t,u=.int i t
 | .str x,u=>∃t,u=.str x t
 | .tup ps,u=>∃(a:Addr) (us:3e4),u=.ref a/\h.IsTuple a us.toArray/\HReps h ps us
 | .lst ps,u=>∃(a:Addr) (us:3e4),u=.ref a/\h.IsList a us.toArray/\HReps h ps us
 | _,_=>False
noncomputable def HReps (h:Heap):List PV->List Value->Prop
 | [],us=>us=[]
 | p::ps,us=>∃v r,us=v::r/\HRep h p v/\HReps h ps r
end
mutual
noncomputable def dat:PV->Bool
 | .tup ps=>dats ps
 | .lst ps=>dats ps
 | .dct _ _=>false
 | .dtt _ _=>false
 | .fn _=>false
 | .ty _=>false
 | _=>true
noncomputable def dats:List PV->Bool
 | []=>true
 | p::ps=>dat p&&dats ps
end
mutual
noncomputable def dep:PV->Nat
 | .tup ps=>deps ps + 1
 | .lst ps=>deps ps + 1
 | _=>0
noncomputable def deps:List PV->Nat
 | []=>0
 | p::ps=>max (dep p) (deps ps)
end
mutual
theorem Rep.heap {X:Cx}{pins:1e8}{σ:St}{H:Hp}{s:Shared}{ι:2e9}(I:2e1):∀(p:PV) {v:V} {u:Value},Rep X.K ι H p v->RelV v u->dat p=true->HRep s.heap p u
 | .non,v,u,h,r,_=>by unfold Rep at h;subst h;unfold HRep;exact r
 | .bl b,v,u,h,r,_=>by unfold Rep at h;subst h;unfold HRep;exact r
 | .int i,v,u,h,r,_=>by unfold Rep at h;subst h;unfold HRep;exact r
 | .str x,v,u,h,r,_=>by unfold Rep at h;obtain ⟨rfl,h⟩:=h;unfold HRep;exact r
 | .tup ps,v,u,h,r,d=>by
  unfold Rep at h;obtain ⟨a,vs,rfl,h,rs⟩:=h
  cases r
  obtain ⟨its,r',pl,hz⟩:=I.tuple h.sq
  unfold HRep
  unfold dat at d
  exact ⟨a,its,rfl,pl,Reps.heap I ps rs r' d⟩
 | .lst ps,v,u,h,r,d=>by
  unfold Rep at h;obtain ⟨a,vs,rfl,h,rs⟩:=h
  cases r
  obtain ⟨its,r',pl,hz⟩:=I.list h.sq
  unfold HRep
  unfold dat at d
  exact ⟨a,its,rfl,pl.isList,Reps.heap I ps rs r' d⟩
 | .dct ks ps,v,u,h,r,d=>by unfold dat at d;cases d
 | .dtt ks ps,v,u,h,r,d=>by unfold dat at d;cases d
 | .fn a,v,u,h,r,d=>by unfold dat at d;cases d
 | .ty n,v,u,h,r,d=>by unfold dat at d;cases d
theorem Reps.heap {X:Cx}{pins:1e8}{σ:St}{H:Hp}{s:Shared}{ι:2e9}(I:2e1):∀(ps:List PV) {vs:List V} {us:3e4},Reps X.K ι H ps vs->Vals vs us->dats ps=true->HReps s.heap ps us
 | [],vs,us,h,r,_=>by unfold Reps at h;subst h;cases r;unfold HReps;rfl
 | p::ps,vs,us,h,r,d=>by
  unfold Reps at h;obtain ⟨v,w,rfl,h1,h2⟩:=h
  cases r with
  | cons r1 r2=>
   unfold dats at d
   rw[YG] at d
   unfold HReps
   exact ⟨_,_,rfl,Rep.heap I p h1 r1 d.1,Reps.heap I ps h2 r2 d.2⟩
end
theorem Lies.heap {X:Cx}{pins:1e8}{σ:St}{H:Hp}{s:Shared}{ι:2e9}(I:2e1){p:PV}{v:V}{u:Value}(l:Lies X.K ι H p v)(r:RelV v u)(d:dat p=true):HRep s.heap p u:=by
 cases l with
 | non=>unfold HRep;exact r
 | bl b=>unfold HRep;exact r
 | int i=>unfold HRep;exact r
 | str x h=>unfold HRep;exact r
 | tup h rs=>
  cases r
  obtain ⟨its,r',pl,hz⟩:=I.tuple h.sq
  unfold HRep
  unfold dat at d
  exact ⟨_,its,rfl,pl,Reps.heap I _ rs r' d⟩
 | lst h rs=>
  cases r
  obtain ⟨its,r',pl,hz⟩:=I.list h
  unfold HRep
  unfold dat at d
  exact ⟨_,its,rfl,pl.isList,Reps.heap I _ rs r' d⟩
 | dct h hl rs=>unfold dat at d;cases d
 | dtt h hl rs=>unfold dat at d;cases d
 | fn a=>unfold dat at d;cases d
 | ty n=>unfold dat at d;cases d
mutual
noncomputable def eqD:PV->PV->Bool
 | .non,.non=>true
 | .bl a,.bl b=>a==b
 | .bl a,.int b=>(if a then 1 else 0)==b
 | .int a,.bl b=>a==(if b then 1 else 0)
 | .int a,.int b=>a==b
 | .str a,.str b=>a==b
 | .tup xs,.tup ys=>eqDs xs ys
 | .lst xs,.lst ys=>eqDs xs ys
 | _,_=>false
noncomputable def eqDs:List PV->List PV->Bool
 | [],[]=>true
 | x::xs,y::ys=>eqD x y&&eqDs xs ys
 | _,_=>false
end
theorem ZcH {h:Heap}{a:Addr}{us vs:3e4}(h1:h.IsTuple a us.toArray)(h2:h.IsTuple a vs.toArray):us=vs:=by
 obtain ⟨o,e,_,n,d⟩:=h1
 obtain ⟨o',e',_,n',d'⟩:=h2
 rw[e] at e';cases e'
 rw[d] at d';injection d' with d1 _
 simpa using d1
theorem Zdh {h:Heap}{a:Addr}{us vs:3e4}(h1:h.IsList a us.toArray)(h2:h.IsList a vs.toArray):us=vs:=by
 obtain ⟨o,e,_,n,d⟩:=h1
 obtain ⟨o',e',_,n',d'⟩:=h2
 rw[e] at e';cases e'
 rw[d] at d';injection d' with d1 _
 simpa using d1
theorem Zcl {h:Heap}{a:Addr}{us vs:3e4}(h1:h.IsTuple a us.toArray)(h2:h.IsList a vs.toArray):False:=by
 obtain ⟨o,e,c,_⟩:=h1
 obtain ⟨o',e',c',_⟩:=h2
 rw[e] at e';cases e'
 rw[c] at c';injection c' with c';exact absurd c' (by decide)
mutual
theorem HRep.same {h:Heap}:∀(p:PV) {q:PV} {u:Value},HRep h p u->HRep h q u->eqD p q=true
 | .non,q,u,a,b=>by
  unfold HRep at a;subst a
  cases q<;>unfold HRep at b<;>first | rfl | (cases b;done) | (obtain ⟨_,e⟩:=b;cases e;done) | (obtain ⟨_,_,e,_⟩:=b;cases e;done) | exact b.elim
 | .bl x,q,u,a,b=>by
  unfold HRep at a;subst a
  cases q<;>unfold HRep at b<;>first | (cases b;done) | (cases b;unfold eqD;exact beq_self_eq_true _) | (obtain ⟨_,e⟩:=b;cases e;done) | (obtain ⟨_,_,e,_⟩:=b;cases e;done) | exact b.elim
 | .int x,q,u,a,b=>by
  unfold HRep at a;obtain ⟨t,rfl⟩:=a
  cases q<;>unfold HRep at b<;>first | (cases b;done) | (obtain ⟨_,e⟩:=b;cases e;done) | (obtain ⟨_,e⟩:=b;cases e;unfold eqD;exact beq_self_eq_true _) | (obtain ⟨_,_,e,_⟩:=b;cases e;done) | exact b.elim
 | .str x,q,u,a,b=>by
  unfold HRep at a;obtain ⟨t,rfl⟩:=a
  cases q<;>unfold HRep at b<;>first | (cases b;done) | (obtain ⟨_,e⟩:=b;cases e;done) | (obtain ⟨_,e⟩:=b;cases e;unfold eqD;exact beq_self_eq_true _) | (obtain ⟨_,_,e,_⟩:=b;cases e;done) | exact b.elim
 | .tup ps,q,u,a,b=>by
  unfold HRep at a;obtain ⟨l,us,rfl,h1,r1⟩:=a
  cases q with
  | tup qs=>
   unfold HRep at b;obtain ⟨l',vs,e,h2,r2⟩:=b
   cases e
   cases ZcH h1 h2
   unfold eqD
   exact HReps.same ps r1 r2
  | lst qs=>unfold HRep at b;obtain ⟨l',vs,e,h2,r2⟩:=b;cases e;exact (Zcl h1 h2).elim
  | _=>unfold HRep at b;first | (cases b;done) | (obtain ⟨_,e⟩:=b;cases e;done) | exact b.elim
 | .lst ps,q,u,a,b=>by
  unfold HRep at a;obtain ⟨l,us,rfl,h1,r1⟩:=a
  cases q with
  | lst qs=>
   unfold HRep at b;obtain ⟨l',vs,e,h2,r2⟩:=b
   cases e
   cases Zdh h1 h2
   unfold eqD
   exact HReps.same ps r1 r2
  | tup qs=>unfold HRep at b;obtain ⟨l',vs,e,h2,r2⟩:=b;cases e;exact (Zcl h2 h1).elim
  | _=>unfold HRep at b;first | (cases b;done) | (obtain ⟨_,e⟩:=b;cases e;done) | exact b.elim
 | .dct _ _,q,u,a,b=>by unfold HRep at a;exact a.elim
 | .dtt _ _,q,u,a,b=>by unfold HRep at a;exact a.elim
 | .fn _,q,u,a,b=>by unfold HRep at a;exact a.elim
 | .ty _,q,u,a,b=>by unfold HRep at a;exact a.elim
theorem HReps.same {h:Heap}:∀(ps:List PV) {qs:List PV} {us:3e4},HReps h ps us->HReps h qs us->eqDs ps qs=true
 | [],qs,us,a,b=>by
  unfold HReps at a;subst a
  cases qs with
  | nil=>rfl
  | cons q qs=>unfold HReps at b;obtain ⟨_,_,e,_⟩:=b;cases e
 | p::ps,qs,us,a,b=>by
  unfold HReps at a;obtain ⟨v,r,rfl,a1,a2⟩:=a
  cases qs with
  | nil=>unfold HReps at b;cases b
  | cons q qs=>
   unfold HReps at b;obtain ⟨v',r',e,b1,b2⟩:=b
   cases e
   unfold eqDs
   rw[HRep.same p a1 b1,HReps.same ps a2 b2];rfl
end
end Pu
namespace Pu
open PySem PySem.Spec L2 PySem.SeqAt
open PyProof.Rows hiding St Fr
theorem HReps.length {h:Heap}:∀{ps:List PV} {us:3e4},HReps h ps us->ps.length=us.length
 | [],us,a=>by unfold HReps at a;subst a;rfl
 | p::ps,us,a=>by unfold HReps at a;obtain ⟨v,r,rfl,_,b⟩:=a;rw[YD,YD,b.length]
theorem ZbC:∀(ps qs:List PV),(((XD (min ps.length qs.length)).all fun j=>eqD (ps.getD j .non) (qs.getD j .non))&&ps.length==qs.length)=eqDs ps qs
 | [],[]=>rfl
 | [],_::_=>by unfold eqDs;simp
 | _::_,[]=>by unfold eqDs;simp
 | p::ps,q::qs=>by
  rw[eqDs,←ZbC ps qs,YD,YD,Nat.succ_min_succ,List.range_succ_eq_map,Vg,List.all_map]
  rw[show (ps.length + 1==qs.length + 1)=(ps.length==qs.length) by simp[BEq.beq]]
  rw[Bool.and_assoc]
  rfl
theorem ZcO {ps qs:List PV}(e:ps.length=qs.length):((XD ps.length).all fun j=>eqD (ps.getD j .non) (qs.getD j .non))=eqDs ps qs:=by
 have:=ZbC ps qs
 rw[←e,Nat.min_self,beq_self_eq_true,Bool.and_true] at this
 exact this
theorem eqDs_len:∀{ps qs:List PV},ps.length≠qs.length->eqDs ps qs=false
 | [],[],h=>absurd rfl h
 | [],_::_,_=>by unfold eqDs;rfl
 | _::_,[],_=>by unfold eqDs;rfl
 | p::ps,q::qs,h=>by unfold eqDs;rw[eqDs_len fun z=>h (by rw[YD,YD,z]),Bool.and_false]
section
variable {s:Shared}
theorem RcAt.tupD {A:Around}{a b:Addr}{us vs:3e4}{ps qs:List PV}(h1:s.heap.IsTuple a us.toArray)(h2:s.heap.IsTuple b vs.toArray)(l1:ps.length=us.length)(l2:qs.length=vs.length)(hu:3e9)
  (he:∀j (h1:j < us.length) (h2:j < vs.length),EqAt A.in1 s us[j] vs[j] (eqD (ps.getD j .non) (qs.getD j .non))):RcAt A s (.ref a) (.ref b) (eqDs ps qs):=by
 have:=RcAt.tuples h1 h2 hu (e:=fun j=>eqD (ps.getD j .non) (qs.getD j .non)) (fun j z1 z2=>by simpa using he j (by simpa using z1) (by simpa using z2))
 simp only[Yn,←l1,←l2] at this
 rw[ZbC] at this;exact this
theorem RcAt.lstD {A:Around}{a b:Addr}{us vs:3e4}{ps qs:List PV}(h1:s.heap.IsList a us.toArray)(h2:s.heap.IsList b vs.toArray)(l1:ps.length=us.length)(l2:qs.length=vs.length)(hu:3e9)
  (he:∀j (h1:j < us.length) (h2:j < vs.length),EqAt A.in1 s us[j] vs[j] (eqD (ps.getD j .non) (qs.getD j .non))):RcAt A s (.ref a) (.ref b) (eqDs ps qs):=by
 by_cases e:us.length=vs.length
 ·have:=RcAt.lists h1 h2 (by simpa using e) hu (e:=fun j=>eqD (ps.getD j .non) (qs.getD j .non)) (fun j z1 z2=>by simpa using he j (by simpa using z1) (by simpa using z2))
  simp only[Yn,←l1] at this
  rw[ZcO 4e0] at this;exact this
 ·have:=RcAt.lists_lengths h1 h2 (by simpa using e) hu
  rw[eqDs_len 4e0];exact this
theorem RcNeAt.tupD {A:Around}{a b:Addr}{us vs:3e4}{ps qs:List PV}(h1:s.heap.IsTuple a us.toArray)(h2:s.heap.IsTuple b vs.toArray)(l1:ps.length=us.length)(l2:qs.length=vs.length)(hu:3e9)
  (he:∀j (h1:j < us.length) (h2:j < vs.length),EqAt A.in1 s us[j] vs[j] (eqD (ps.getD j .non) (qs.getD j .non))):RcNeAt A s (.ref a) (.ref b) (!eqDs ps qs):=by
 have:=RcNeAt.tuples h1 h2 hu (e:=fun j=>eqD (ps.getD j .non) (qs.getD j .non)) (fun j z1 z2=>by simpa using he j (by simpa using z1) (by simpa using z2))
 simp only[Yn,←l1,←l2] at this
 rw[ZbC] at this;exact this
theorem RcNeAt.lstD {A:Around}{a b:Addr}{us vs:3e4}{ps qs:List PV}(h1:s.heap.IsList a us.toArray)(h2:s.heap.IsList b vs.toArray)(l1:ps.length=us.length)(l2:qs.length=vs.length)(hu:3e9)
  (he:∀j (h1:j < us.length) (h2:j < vs.length),EqAt A.in1 s us[j] vs[j] (eqD (ps.getD j .non) (qs.getD j .non))):RcNeAt A s (.ref a) (.ref b) (!eqDs ps qs):=by
 by_cases e:us.length=vs.length
 ·have:=RcNeAt.lists h1 h2 (by simpa using e) hu (e:=fun j=>eqD (ps.getD j .non) (qs.getD j .non)) (fun j z1 z2=>by simpa using he j (by simpa using z1) (by simpa using z2))
  simp only[Yn,←l1] at this
  rw[ZcO 4e0] at this;exact this
 ·have:=RcNeAt.lists_lengths h1 h2 (by simpa using e) hu
  rw[eqDs_len 4e0];exact this
end
section
variable {s:Shared}
theorem EqAt.x_non {q:PV}{u v:Value}{A:Around}(a:HRep s.heap .non u)(b:HRep s.heap q v)(hu':3e9):EqAt A s u v (eqD .non q):=by
 unfold HRep at a;subst a
 cases q<;>unfold HRep at b
 ·unfold eqD;subst b;exact EqAt.same _
 ·unfold eqD;subst b;exact EqAt.none_bool _
 ·unfold eqD;obtain ⟨_,rfl⟩:=b;exact EqAt.none_int _ _
 ·unfold eqD;obtain ⟨_,rfl⟩:=b;exact EqAt.none_str _ _
 ·unfold eqD;obtain ⟨_,_,rfl,h_b,_⟩:=b;exact EqAt.none_tuple h_b hu'
 ·unfold eqD;obtain ⟨_,_,rfl,h_b,_⟩:=b;exact EqAt.none_list h_b hu'
 ·sleep 15
 ·sleep 15
 ·sleep 15
 ·sleep 15
theorem EqAt.x_bl {x:Bool}{q:PV}{u v:Value}{A:Around}(a:HRep s.heap (.bl x) u)(b:HRep s.heap q v)(hu':3e9):EqAt A s u v (eqD (.bl x) q):=by
 unfold HRep at a;subst a
 cases q<;>unfold HRep at b
 ·unfold eqD;subst b;exact EqAt.bool_none _
 ·unfold eqD;subst b;exact EqAt.bool_bool _ _
 ·unfold eqD;obtain ⟨_,rfl⟩:=b;exact EqAt.bool_int _ _ _
 ·unfold eqD;obtain ⟨_,rfl⟩:=b;exact EqAt.bool_str _ _ _
 ·unfold eqD;obtain ⟨_,_,rfl,h_b,_⟩:=b;exact EqAt.bool_tuple _ h_b hu'
 ·unfold eqD;obtain ⟨_,_,rfl,h_b,_⟩:=b;exact EqAt.bool_list _ h_b hu'
 ·sleep 15
 ·sleep 15
 ·sleep 15
 ·sleep 15
theorem EqAt.x_int {x:Int}{q:PV}{u v:Value}{A:Around}(a:HRep s.heap (.int x) u)(b:HRep s.heap q v)(hu':3e9):EqAt A s u v (eqD (.int x) q):=by
 sleep 14
 ·unfold eqD;subst b;exact EqAt.int_none _ _
 ·unfold eqD;subst b;exact EqAt.int_bool _ _ _
 ·unfold eqD;obtain ⟨_,rfl⟩:=b;exact EqAt.int_int _ _ _ _
 ·unfold eqD;obtain ⟨_,rfl⟩:=b;exact EqAt.int_str _ _ _ _
 ·unfold eqD;obtain ⟨_,_,rfl,h_b,_⟩:=b;exact EqAt.int_tuple _ _ h_b hu'
 ·unfold eqD;obtain ⟨_,_,rfl,h_b,_⟩:=b;exact EqAt.int_list _ _ h_b hu'
 ·sleep 15
 ·sleep 15
 ·sleep 15
 ·sleep 15
theorem EqAt.x_str {x:Str}{q:PV}{u v:Value}{A:Around}(a:HRep s.heap (.str x) u)(b:HRep s.heap q v)(hu':3e9):EqAt A s u v (eqD (.str x) q):=by
 sleep 14
 ·unfold eqD;subst b;exact EqAt.str_none _ _
 ·unfold eqD;subst b;exact EqAt.str_bool _ _ _
 ·unfold eqD;obtain ⟨_,rfl⟩:=b;exact EqAt.str_int _ _ _ _
 ·unfold eqD;obtain ⟨_,rfl⟩:=b;exact EqAt.str_str _ _ _ _
 ·unfold eqD;obtain ⟨_,_,rfl,h_b,_⟩:=b;exact EqAt.str_tuple _ _ h_b hu'
 ·unfold eqD;obtain ⟨_,_,rfl,h_b,_⟩:=b;exact EqAt.str_list _ _ h_b hu'
 ·sleep 15
 ·sleep 15
 ·sleep 15
 ·sleep 15
theorem EqAt.x_tup_non {ps:List PV}{u v:Value}{A:Around}(a:8e2)(b:HRep s.heap .non v)(hu':3e9):EqAt A s u v (eqD (.tup ps) .non):=by
 unfold HRep at a b;unfold eqD;obtain ⟨_,_,rfl,h_a,_⟩:=a;subst b;exact EqAt.tuple_none h_a hu'
theorem EqAt.x_tup_bl {x:Bool}{ps:List PV}{u v:Value}{A:Around}(a:8e2)(b:HRep s.heap (.bl x) v)(hu':3e9):EqAt A s u v (eqD (.tup ps) (.bl x)):=by
 unfold HRep at a b;unfold eqD;obtain ⟨_,_,rfl,h_a,_⟩:=a;subst b;exact EqAt.tuple_bool _ h_a hu'
theorem EqAt.x_tup_int {x:Int}{ps:List PV}{u v:Value}{A:Around}(a:8e2)(b:HRep s.heap (.int x) v)(hu':3e9):EqAt A s u v (eqD (.tup ps) (.int x)):=by
 unfold HRep at a b;unfold eqD;obtain ⟨_,_,rfl,h_a,_⟩:=a;obtain ⟨_,rfl⟩:=b;exact EqAt.tuple_int _ _ h_a hu'
theorem EqAt.x_tup_str {x:Str}{ps:List PV}{u v:Value}{A:Around}(a:8e2)(b:HRep s.heap (.str x) v)(hu':3e9):EqAt A s u v (eqD (.tup ps) (.str x)):=by
 unfold HRep at a b;unfold eqD;obtain ⟨_,_,rfl,h_a,_⟩:=a;obtain ⟨_,rfl⟩:=b;exact EqAt.tuple_str _ _ h_a hu'
theorem EqAt.x_tup_lst {x:List PV}{ps:List PV}{u v:Value}{A:Around}(a:8e2)(b:HRep s.heap (.lst x) v)(hu':3e9):EqAt A s u v (eqD (.tup ps) (.lst x)):=by
 unfold HRep at a b;unfold eqD;obtain ⟨_,_,rfl,h_a,_⟩:=a;obtain ⟨_,_,rfl,h_b,_⟩:=b;exact EqAt.tuple_list h_a h_b hu'
theorem EqAt.x_lst_non {ps:List PV}{u v:Value}{A:Around}(a:8e3)(b:HRep s.heap .non v)(hu':3e9):EqAt A s u v (eqD 13e6 .non):=by
 unfold HRep at a b;unfold eqD;obtain ⟨_,_,rfl,h_a,_⟩:=a;subst b;exact EqAt.list_none h_a hu'
theorem EqAt.x_lst_bl {x:Bool}{ps:List PV}{u v:Value}{A:Around}(a:8e3)(b:HRep s.heap (.bl x) v)(hu':3e9):EqAt A s u v (eqD 13e6 (.bl x)):=by
 unfold HRep at a b;unfold eqD;obtain ⟨_,_,rfl,h_a,_⟩:=a;subst b;exact EqAt.list_bool _ h_a hu'
theorem EqAt.x_lst_int {x:Int}{ps:List PV}{u v:Value}{A:Around}(a:8e3)(b:HRep s.heap (.int x) v)(hu':3e9):EqAt A s u v (eqD 13e6 (.int x)):=by
 unfold HRep at a b;unfold eqD;obtain ⟨_,_,rfl,h_a,_⟩:=a;obtain ⟨_,rfl⟩:=b;exact EqAt.list_int _ _ h_a hu'
theorem EqAt.x_lst_str {x:Str}{ps:List PV}{u v:Value}{A:Around}(a:8e3)(b:HRep s.heap (.str x) v)(hu':3e9):EqAt A s u v (eqD 13e6 (.str x)):=by
 unfold HRep at a b;unfold eqD;obtain ⟨_,_,rfl,h_a,_⟩:=a;obtain ⟨_,rfl⟩:=b;exact EqAt.list_str _ _ h_a hu'
theorem EqAt.x_lst_tup {x:List PV}{ps:List PV}{u v:Value}{A:Around}(a:8e3)(b:HRep s.heap (.tup x) v)(hu':3e9):EqAt A s u v (eqD 13e6 (.tup x)):=by
 unfold HRep at a b;unfold eqD;obtain ⟨_,_,rfl,h_a,_⟩:=a;obtain ⟨_,_,rfl,h_b,_⟩:=b;exact EqAt.list_tuple h_a h_b hu'
theorem RcAt.x_non {q:PV}{u v:Value}{A:Around}(a:HRep s.heap .non u)(b:HRep s.heap q v)(hu':3e9):RcAt A s u v (eqD .non q):=by
 unfold HRep at a;subst a
 cases q<;>unfold HRep at b
 ·unfold eqD;subst b;exact RcAt.none_none
 ·unfold eqD;subst b;exact RcAt.none_bool _
 ·unfold eqD;obtain ⟨_,rfl⟩:=b;exact RcAt.none_int _ _
 ·unfold eqD;obtain ⟨_,rfl⟩:=b;exact RcAt.none_str _ _
 ·unfold eqD;obtain ⟨_,_,rfl,h_b,_⟩:=b;exact RcAt.none_tuple h_b hu'
 ·unfold eqD;obtain ⟨_,_,rfl,h_b,_⟩:=b;exact RcAt.none_list h_b hu'
 ·sleep 15
 ·sleep 15
 ·sleep 15
 ·sleep 15
theorem RcAt.x_bl {x:Bool}{q:PV}{u v:Value}{A:Around}(a:HRep s.heap (.bl x) u)(b:HRep s.heap q v)(hu':3e9):RcAt A s u v (eqD (.bl x) q):=by
 unfold HRep at a;subst a
 cases q<;>unfold HRep at b
 ·unfold eqD;subst b;exact RcAt.bool_none _
 ·unfold eqD;subst b;exact RcAt.bool_bool _ _
 ·unfold eqD;obtain ⟨_,rfl⟩:=b;exact RcAt.bool_int _ _ _
 ·unfold eqD;obtain ⟨_,rfl⟩:=b;exact RcAt.bool_str _ _ _
 ·unfold eqD;obtain ⟨_,_,rfl,h_b,_⟩:=b;exact RcAt.bool_tuple _ h_b hu'
 ·unfold eqD;obtain ⟨_,_,rfl,h_b,_⟩:=b;exact RcAt.bool_list _ h_b hu'
 ·sleep 15
 ·sleep 15
 ·sleep 15
 ·sleep 15
theorem RcAt.x_int {x:Int}{q:PV}{u v:Value}{A:Around}(a:HRep s.heap (.int x) u)(b:HRep s.heap q v)(hu':3e9):RcAt A s u v (eqD (.int x) q):=by
 sleep 14
 ·unfold eqD;subst b;exact RcAt.int_none _ _
 ·unfold eqD;subst b;exact RcAt.int_bool _ _ _
 ·unfold eqD;obtain ⟨_,rfl⟩:=b;exact RcAt.int_int _ _ _ _
 ·unfold eqD;obtain ⟨_,rfl⟩:=b;exact RcAt.int_str _ _ _ _
 ·unfold eqD;obtain ⟨_,_,rfl,h_b,_⟩:=b;exact RcAt.int_tuple _ _ h_b hu'
 ·unfold eqD;obtain ⟨_,_,rfl,h_b,_⟩:=b;exact RcAt.int_list _ _ h_b hu'
 ·sleep 15
 ·sleep 15
 ·sleep 15
 ·sleep 15
theorem RcAt.x_str {x:Str}{q:PV}{u v:Value}{A:Around}(a:HRep s.heap (.str x) u)(b:HRep s.heap q v)(hu':3e9):RcAt A s u v (eqD (.str x) q):=by
 sleep 14
 ·unfold eqD;subst b;exact RcAt.str_none _ _
 ·unfold eqD;subst b;exact RcAt.str_bool _ _ _
 ·unfold eqD;obtain ⟨_,rfl⟩:=b;exact RcAt.str_int _ _ _ _
 ·unfold eqD;obtain ⟨_,rfl⟩:=b;exact RcAt.str_str _ _ _ _
 ·unfold eqD;obtain ⟨_,_,rfl,h_b,_⟩:=b;exact RcAt.str_tuple _ _ h_b hu'
 ·unfold eqD;obtain ⟨_,_,rfl,h_b,_⟩:=b;exact RcAt.str_list _ _ h_b hu'
 ·sleep 15
 ·sleep 15
 ·sleep 15
 ·sleep 15
theorem RcAt.x_tup_non {ps:List PV}{u v:Value}{A:Around}(a:8e2)(b:HRep s.heap .non v)(hu':3e9):RcAt A s u v (eqD (.tup ps) .non):=by
 unfold HRep at a b;unfold eqD;obtain ⟨_,_,rfl,h_a,_⟩:=a;subst b;exact RcAt.tuple_none h_a hu'
theorem RcAt.x_tup_bl {x:Bool}{ps:List PV}{u v:Value}{A:Around}(a:8e2)(b:HRep s.heap (.bl x) v)(hu':3e9):RcAt A s u v (eqD (.tup ps) (.bl x)):=by
 unfold HRep at a b;unfold eqD;obtain ⟨_,_,rfl,h_a,_⟩:=a;subst b;exact RcAt.tuple_bool _ h_a hu'
theorem RcAt.x_tup_int {x:Int}{ps:List PV}{u v:Value}{A:Around}(a:8e2)(b:HRep s.heap (.int x) v)(hu':3e9):RcAt A s u v (eqD (.tup ps) (.int x)):=by
 unfold HRep at a b;unfold eqD;obtain ⟨_,_,rfl,h_a,_⟩:=a;obtain ⟨_,rfl⟩:=b;exact RcAt.tuple_int _ _ h_a hu'
theorem RcAt.x_tup_str {x:Str}{ps:List PV}{u v:Value}{A:Around}(a:8e2)(b:HRep s.heap (.str x) v)(hu':3e9):RcAt A s u v (eqD (.tup ps) (.str x)):=by
 unfold HRep at a b;unfold eqD;obtain ⟨_,_,rfl,h_a,_⟩:=a;obtain ⟨_,rfl⟩:=b;exact RcAt.tuple_str _ _ h_a hu'
theorem RcAt.x_tup_lst {x:List PV}{ps:List PV}{u v:Value}{A:Around}(a:8e2)(b:HRep s.heap (.lst x) v)(hu':3e9):RcAt A s u v (eqD (.tup ps) (.lst x)):=by
 unfold HRep at a b;unfold eqD;obtain ⟨_,_,rfl,h_a,_⟩:=a;obtain ⟨_,_,rfl,h_b,_⟩:=b;exact RcAt.tuple_list h_a h_b hu'
theorem RcAt.x_lst_non {ps:List PV}{u v:Value}{A:Around}(a:8e3)(b:HRep s.heap .non v)(hu':3e9):RcAt A s u v (eqD 13e6 .non):=by
 unfold HRep at a b;unfold eqD;obtain ⟨_,_,rfl,h_a,_⟩:=a;subst b;exact RcAt.list_none h_a hu'
theorem RcAt.x_lst_bl {x:Bool}{ps:List PV}{u v:Value}{A:Around}(a:8e3)(b:HRep s.heap (.bl x) v)(hu':3e9):RcAt A s u v (eqD 13e6 (.bl x)):=by
 unfold HRep at a b;unfold eqD;obtain ⟨_,_,rfl,h_a,_⟩:=a;subst b;exact RcAt.list_bool _ h_a hu'
theorem RcAt.x_lst_int {x:Int}{ps:List PV}{u v:Value}{A:Around}(a:8e3)(b:HRep s.heap (.int x) v)(hu':3e9):RcAt A s u v (eqD 13e6 (.int x)):=by
 unfold HRep at a b;unfold eqD;obtain ⟨_,_,rfl,h_a,_⟩:=a;obtain ⟨_,rfl⟩:=b;exact RcAt.list_int _ _ h_a hu'
theorem RcAt.x_lst_str {x:Str}{ps:List PV}{u v:Value}{A:Around}(a:8e3)(b:HRep s.heap (.str x) v)(hu':3e9):RcAt A s u v (eqD 13e6 (.str x)):=by
 unfold HRep at a b;unfold eqD;obtain ⟨_,_,rfl,h_a,_⟩:=a;obtain ⟨_,rfl⟩:=b;exact RcAt.list_str _ _ h_a hu'
theorem RcAt.x_lst_tup {x:List PV}{ps:List PV}{u v:Value}{A:Around}(a:8e3)(b:HRep s.heap (.tup x) v)(hu':3e9):RcAt A s u v (eqD 13e6 (.tup x)):=by
 unfold HRep at a b;unfold eqD;obtain ⟨_,_,rfl,h_a,_⟩:=a;obtain ⟨_,_,rfl,h_b,_⟩:=b;exact RcAt.list_tuple h_a h_b hu'
theorem RcNeAt.x_non {q:PV}{u v:Value}{A:Around}(a:HRep s.heap .non u)(b:HRep s.heap q v)(hu':3e9):RcNeAt A s u v (!eqD .non q):=by
 unfold HRep at a;subst a
 cases q<;>unfold HRep at b
 ·unfold eqD;subst b;exact RcNeAt.none_none
 ·unfold eqD;subst b;exact RcNeAt.none_bool _
 ·unfold eqD;obtain ⟨_,rfl⟩:=b;exact RcNeAt.none_int _ _
 ·unfold eqD;obtain ⟨_,rfl⟩:=b;exact RcNeAt.none_str _ _
 ·unfold eqD;obtain ⟨_,_,rfl,h_b,_⟩:=b;exact RcNeAt.none_tuple h_b hu'
 ·unfold eqD;obtain ⟨_,_,rfl,h_b,_⟩:=b;exact RcNeAt.none_list h_b hu'
 ·sleep 15
 ·sleep 15
 ·sleep 15
 ·sleep 15
theorem RcNeAt.x_bl {x:Bool}{q:PV}{u v:Value}{A:Around}(a:HRep s.heap (.bl x) u)(b:HRep s.heap q v)(hu':3e9):RcNeAt A s u v (!eqD (.bl x) q):=by
 unfold HRep at a;subst a
 cases q<;>unfold HRep at b
 ·unfold eqD;subst b;exact RcNeAt.bool_none _
 ·unfold eqD;subst b;exact RcNeAt.bool_bool _ _
 ·unfold eqD;obtain ⟨_,rfl⟩:=b;exact RcNeAt.bool_int _ _ _
 ·unfold eqD;obtain ⟨_,rfl⟩:=b;exact RcNeAt.bool_str _ _ _
 ·unfold eqD;obtain ⟨_,_,rfl,h_b,_⟩:=b;exact RcNeAt.bool_tuple _ h_b hu'
 ·unfold eqD;obtain ⟨_,_,rfl,h_b,_⟩:=b;exact RcNeAt.bool_list _ h_b hu'
 ·sleep 15
 ·sleep 15
 ·sleep 15
 ·sleep 15
theorem RcNeAt.x_int {x:Int}{q:PV}{u v:Value}{A:Around}(a:HRep s.heap (.int x) u)(b:HRep s.heap q v)(hu':3e9):RcNeAt A s u v (!eqD (.int x) q):=by
 sleep 14
 ·unfold eqD;subst b;exact RcNeAt.int_none _ _
 ·unfold eqD;subst b;exact RcNeAt.int_bool _ _ _
 ·unfold eqD;obtain ⟨_,rfl⟩:=b;exact RcNeAt.int_int _ _ _ _
 ·unfold eqD;obtain ⟨_,rfl⟩:=b;exact RcNeAt.int_str _ _ _ _
 ·unfold eqD;obtain ⟨_,_,rfl,h_b,_⟩:=b;exact RcNeAt.int_tuple _ _ h_b hu'
 ·unfold eqD;obtain ⟨_,_,rfl,h_b,_⟩:=b;exact RcNeAt.int_list _ _ h_b hu'
 ·sleep 15
 ·sleep 15
 ·sleep 15
 ·sleep 15
theorem RcNeAt.x_str {x:Str}{q:PV}{u v:Value}{A:Around}(a:HRep s.heap (.str x) u)(b:HRep s.heap q v)(hu':3e9):RcNeAt A s u v (!eqD (.str x) q):=by
 sleep 14
 ·unfold eqD;subst b;exact RcNeAt.str_none _ _
 ·unfold eqD;subst b;exact RcNeAt.str_bool _ _ _
 ·unfold eqD;obtain ⟨_,rfl⟩:=b;exact RcNeAt.str_int _ _ _ _
 ·unfold eqD;obtain ⟨_,rfl⟩:=b;exact RcNeAt.str_str _ _ _ _
 ·unfold eqD;obtain ⟨_,_,rfl,h_b,_⟩:=b;exact RcNeAt.str_tuple _ _ h_b hu'
 ·unfold eqD;obtain ⟨_,_,rfl,h_b,_⟩:=b;exact RcNeAt.str_list _ _ h_b hu'
 ·sleep 15
 ·sleep 15
 ·sleep 15
 ·sleep 15
theorem RcNeAt.x_tup_non {ps:List PV}{u v:Value}{A:Around}(a:8e2)(b:HRep s.heap .non v)(hu':3e9):RcNeAt A s u v (!eqD (.tup ps) .non):=by
 unfold HRep at a b;unfold eqD;obtain ⟨_,_,rfl,h_a,_⟩:=a;subst b;exact RcNeAt.tuple_none h_a hu'
theorem RcNeAt.x_tup_bl {x:Bool}{ps:List PV}{u v:Value}{A:Around}(a:8e2)(b:HRep s.heap (.bl x) v)(hu':3e9):RcNeAt A s u v (!eqD (.tup ps) (.bl x)):=by
 unfold HRep at a b;unfold eqD;obtain ⟨_,_,rfl,h_a,_⟩:=a;subst b;exact RcNeAt.tuple_bool _ h_a hu'
theorem RcNeAt.x_tup_int {x:Int}{ps:List PV}{u v:Value}{A:Around}(a:8e2)(b:HRep s.heap (.int x) v)(hu':3e9):RcNeAt A s u v (!eqD (.tup ps) (.int x)):=by
 unfold HRep at a b;unfold eqD;obtain ⟨_,_,rfl,h_a,_⟩:=a;obtain ⟨_,rfl⟩:=b;exact RcNeAt.tuple_int _ _ h_a hu'
theorem RcNeAt.x_tup_str {x:Str}{ps:List PV}{u v:Value}{A:Around}(a:8e2)(b:HRep s.heap (.str x) v)(hu':3e9):RcNeAt A s u v (!eqD (.tup ps) (.str x)):=by
 unfold HRep at a b;unfold eqD;obtain ⟨_,_,rfl,h_a,_⟩:=a;obtain ⟨_,rfl⟩:=b;exact RcNeAt.tuple_str _ _ h_a hu'
theorem RcNeAt.x_tup_lst {x:List PV}{ps:List PV}{u v:Value}{A:Around}(a:8e2)(b:HRep s.heap (.lst x) v)(hu':3e9):RcNeAt A s u v (!eqD (.tup ps) (.lst x)):=by
 unfold HRep at a b;unfold eqD;obtain ⟨_,_,rfl,h_a,_⟩:=a;obtain ⟨_,_,rfl,h_b,_⟩:=b;exact RcNeAt.tuple_list h_a h_b hu'
theorem RcNeAt.x_lst_non {ps:List PV}{u v:Value}{A:Around}(a:8e3)(b:HRep s.heap .non v)(hu':3e9):RcNeAt A s u v (!eqD 13e6 .non):=by
 unfold HRep at a b;unfold eqD;obtain ⟨_,_,rfl,h_a,_⟩:=a;subst b;exact RcNeAt.list_none h_a hu'
theorem RcNeAt.x_lst_bl {x:Bool}{ps:List PV}{u v:Value}{A:Around}(a:8e3)(b:HRep s.heap (.bl x) v)(hu':3e9):RcNeAt A s u v (!eqD 13e6 (.bl x)):=by
 unfold HRep at a b;unfold eqD;obtain ⟨_,_,rfl,h_a,_⟩:=a;subst b;exact RcNeAt.list_bool _ h_a hu'
theorem RcNeAt.x_lst_int {x:Int}{ps:List PV}{u v:Value}{A:Around}(a:8e3)(b:HRep s.heap (.int x) v)(hu':3e9):RcNeAt A s u v (!eqD 13e6 (.int x)):=by
 unfold HRep at a b;unfold eqD;obtain ⟨_,_,rfl,h_a,_⟩:=a;obtain ⟨_,rfl⟩:=b;exact RcNeAt.list_int _ _ h_a hu'
theorem RcNeAt.x_lst_str {x:Str}{ps:List PV}{u v:Value}{A:Around}(a:8e3)(b:HRep s.heap (.str x) v)(hu':3e9):RcNeAt A s u v (!eqD 13e6 (.str x)):=by
 unfold HRep at a b;unfold eqD;obtain ⟨_,_,rfl,h_a,_⟩:=a;obtain ⟨_,rfl⟩:=b;exact RcNeAt.list_str _ _ h_a hu'
theorem RcNeAt.x_lst_tup {x:List PV}{ps:List PV}{u v:Value}{A:Around}(a:8e3)(b:HRep s.heap (.tup x) v)(hu':3e9):RcNeAt A s u v (!eqD 13e6 (.tup x)):=by
 unfold HRep at a b;unfold eqD;obtain ⟨_,_,rfl,h_a,_⟩:=a;obtain ⟨_,_,rfl,h_b,_⟩:=b;exact RcNeAt.list_tuple h_a h_b hu'
mutual
theorem HRep.eqAt:∀(p:PV) {q:PV} {u v:Value} {A:Around},HRep s.heap p u->HRep s.heap q v->A.units + dep p < cLine->EqAt A s u v (eqD p q)
 | .non,q,u,v,A,a,b,hu=>EqAt.x_non a b 4e0
 | .bl x,q,u,v,A,a,b,hu=>EqAt.x_bl a b 4e0
 | .int x,q,u,v,A,a,b,hu=>EqAt.x_int a b 4e0
 | .str x,q,u,v,A,a,b,hu=>EqAt.x_str a b 4e0
 | .tup ps,q,u,v,A,a,b,hu=>by
  have hu':A.units < cLine:=by lia
  cases q with
  | non=>exact EqAt.x_tup_non a b hu'
  | bl x=>exact EqAt.x_tup_bl a b hu'
  | int x=>exact EqAt.x_tup_int a b hu'
  | str x=>exact EqAt.x_tup_str a b hu'
  | lst x=>exact EqAt.x_tup_lst a b hu'
  | tup qs=>
   sleep 4
   by_cases e:l=l'
   ·subst e
    rw[HRep.same _ a0 b0]
    exact EqAt.same _
   ·unfold eqD
    exact .of_refs e (RcAt.tupD h1 h2 r1.length r2.length hu' (HReps.eqAt ps r1 r2 (by rw[Xs];lia)))
  | dct _ _=>unfold HRep at b;exact b.elim
  | dtt _ _=>unfold HRep at b;exact b.elim
  | fn _=>unfold HRep at b;exact b.elim
  | ty _=>unfold HRep at b;exact b.elim
 | .lst ps,q,u,v,A,a,b,hu=>by
  have hu':A.units < cLine:=by lia
  cases q with
  | non=>exact EqAt.x_lst_non a b hu'
  | bl x=>exact EqAt.x_lst_bl a b hu'
  | int x=>exact EqAt.x_lst_int a b hu'
  | str x=>exact EqAt.x_lst_str a b hu'
  | tup x=>exact EqAt.x_lst_tup a b hu'
  | lst qs=>
   sleep 4
   by_cases e:l=l'
   ·subst e
    rw[HRep.same _ a0 b0]
    exact EqAt.same _
   ·unfold eqD
    exact .of_refs e (RcAt.lstD h1 h2 r1.length r2.length hu' (HReps.eqAt ps r1 r2 (by rw[Xs];lia)))
  | dct _ _=>unfold HRep at b;exact b.elim
  | dtt _ _=>unfold HRep at b;exact b.elim
  | fn _=>unfold HRep at b;exact b.elim
  | ty _=>unfold HRep at b;exact b.elim
 | .dct _ _,q,u,v,A,a,b,hu=>by unfold HRep at a;exact a.elim
 | .dtt _ _,q,u,v,A,a,b,hu=>by unfold HRep at a;exact a.elim
 | .fn _,q,u,v,A,a,b,hu=>by unfold HRep at a;exact a.elim
 | .ty _,q,u,v,A,a,b,hu=>by unfold HRep at a;exact a.elim
theorem HReps.eqAt:∀(ps:List PV) {qs:List PV} {us vs:3e4} {A:Around},HReps s.heap ps us->HReps s.heap qs vs->A.units + deps ps < cLine->
  ∀j (h1:j < us.length) (h2:j < vs.length),EqAt A s us[j] vs[j] (eqD (ps.getD j .non) (qs.getD j .non))
 | [],qs,us,vs,A,a,b,hu=>fun j h1 _=>by unfold HReps at a;subst a;cases h1
 | p::ps,qs,us,vs,A,a,b,hu=>fun j h1 h2=>by
  unfold HReps at a;obtain ⟨v,r,rfl,a1,a2⟩:=a
  unfold deps at hu
  cases qs with
  | nil=>unfold HReps at b;subst b;cases h2
  | cons q qs=>
   unfold HReps at b;obtain ⟨v',r',rfl,b1,b2⟩:=b
   cases j with
   | zero=>exact HRep.eqAt p a1 b1 4e0
   | succ j=>simpa using HReps.eqAt ps a2 b2 4e0 j (by simpa using h1) (by simpa using h2)
end
theorem HRep.rcAt:∀(p:PV) {q:PV} {u v:Value} {A:Around},HRep s.heap p u->HRep s.heap q v->A.units + dep p < cLine->RcAt A s u v (eqD p q)
 | .non,q,u,v,A,a,b,hu=>RcAt.x_non a b 4e0
 | .bl x,q,u,v,A,a,b,hu=>RcAt.x_bl a b 4e0
 | .int x,q,u,v,A,a,b,hu=>RcAt.x_int a b 4e0
 | .str x,q,u,v,A,a,b,hu=>RcAt.x_str a b 4e0
 | .tup ps,q,u,v,A,a,b,hu=>by
  have hu':A.units < cLine:=by lia
  cases q with
  | non=>exact RcAt.x_tup_non a b hu'
  | bl x=>exact RcAt.x_tup_bl a b hu'
  | int x=>exact RcAt.x_tup_int a b hu'
  | str x=>exact RcAt.x_tup_str a b hu'
  | lst x=>exact RcAt.x_tup_lst a b hu'
  | tup qs=>
   sleep 4
   unfold eqD
   exact RcAt.tupD h1 h2 r1.length r2.length hu' (HReps.eqAt ps r1 r2 (by rw[Xs];lia))
  | dct _ _=>unfold HRep at b;exact b.elim
  | dtt _ _=>unfold HRep at b;exact b.elim
  | fn _=>unfold HRep at b;exact b.elim
  | ty _=>unfold HRep at b;exact b.elim
 | .lst ps,q,u,v,A,a,b,hu=>by
  have hu':A.units < cLine:=by lia
  cases q with
  | non=>exact RcAt.x_lst_non a b hu'
  | bl x=>exact RcAt.x_lst_bl a b hu'
  | int x=>exact RcAt.x_lst_int a b hu'
  | str x=>exact RcAt.x_lst_str a b hu'
  | tup x=>exact RcAt.x_lst_tup a b hu'
  | lst qs=>
   sleep 4
   unfold eqD
   exact RcAt.lstD h1 h2 r1.length r2.length hu' (HReps.eqAt ps r1 r2 (by rw[Xs];lia))
  | dct _ _=>unfold HRep at b;exact b.elim
  | dtt _ _=>unfold HRep at b;exact b.elim
  | fn _=>unfold HRep at b;exact b.elim
  | ty _=>unfold HRep at b;exact b.elim
 | .dct _ _,q,u,v,A,a,b,hu=>by unfold HRep at a;exact a.elim
 | .dtt _ _,q,u,v,A,a,b,hu=>by unfold HRep at a;exact a.elim
 | .fn _,q,u,v,A,a,b,hu=>by unfold HRep at a;exact a.elim
 | .ty _,q,u,v,A,a,b,hu=>by unfold HRep at a;exact a.elim
theorem HRep.rcNeAt:∀(p:PV) {q:PV} {u v:Value} {A:Around},HRep s.heap p u->HRep s.heap q v->A.units + dep p < cLine->RcNeAt A s u v (!eqD p q)
 | .non,q,u,v,A,a,b,hu=>RcNeAt.x_non a b 4e0
 | .bl x,q,u,v,A,a,b,hu=>RcNeAt.x_bl a b 4e0
 | .int x,q,u,v,A,a,b,hu=>RcNeAt.x_int a b 4e0
 | .str x,q,u,v,A,a,b,hu=>RcNeAt.x_str a b 4e0
 | .tup ps,q,u,v,A,a,b,hu=>by
  have hu':A.units < cLine:=by lia
  cases q with
  | non=>exact RcNeAt.x_tup_non a b hu'
  | bl x=>exact RcNeAt.x_tup_bl a b hu'
  | int x=>exact RcNeAt.x_tup_int a b hu'
  | str x=>exact RcNeAt.x_tup_str a b hu'
  | lst x=>exact RcNeAt.x_tup_lst a b hu'
  | tup qs=>
   sleep 4
   unfold eqD
   exact RcNeAt.tupD h1 h2 r1.length r2.length hu' (HReps.eqAt ps r1 r2 (by rw[Xs];lia))
  | dct _ _=>unfold HRep at b;exact b.elim
  | dtt _ _=>unfold HRep at b;exact b.elim
  | fn _=>unfold HRep at b;exact b.elim
  | ty _=>unfold HRep at b;exact b.elim
 | .lst ps,q,u,v,A,a,b,hu=>by
  have hu':A.units < cLine:=by lia
  cases q with
  | non=>exact RcNeAt.x_lst_non a b hu'
  | bl x=>exact RcNeAt.x_lst_bl a b hu'
  | int x=>exact RcNeAt.x_lst_int a b hu'
  | str x=>exact RcNeAt.x_lst_str a b hu'
  | tup x=>exact RcNeAt.x_lst_tup a b hu'
  | lst qs=>
   sleep 4
   unfold eqD
   exact RcNeAt.lstD h1 h2 r1.length r2.length hu' (HReps.eqAt ps r1 r2 (by rw[Xs];lia))
  | dct _ _=>unfold HRep at b;exact b.elim
  | dtt _ _=>unfold HRep at b;exact b.elim
  | fn _=>unfold HRep at b;exact b.elim
  | ty _=>unfold HRep at b;exact b.elim
 | .dct _ _,q,u,v,A,a,b,hu=>by unfold HRep at a;exact a.elim
 | .dtt _ _,q,u,v,A,a,b,hu=>by unfold HRep at a;exact a.elim
 | .fn _,q,u,v,A,a,b,hu=>by unfold HRep at a;exact a.elim
 | .ty _,q,u,v,A,a,b,hu=>by unfold HRep at a;exact a.elim
end
section
variable {X:Cx}
abbrev rDeep (K:W.Frag)(g:PV->PV->Bool):R2:=fun x y H Q=>∃ι p q,Lies K ι H p x/\Lies K ι H q y/\dat p=true/\dat q=true/\dep p<=60/\Q (.bl (g p q)) H
theorem op_eqD (hu:X.A.units + 64 < cLine):OpR X (YW .Eq) (rDeep X.K eqD):=by
 sleep 3
 obtain ⟨ι,p,q,lx,ly,dp,dq,de,k⟩:=h
 exact HRep.rcAt p (lx.heap I rx dp) (ly.heap I ry dq) 4e0 X.prog X.w X.xe _ ⟨.bl _,H,I,rfl,k⟩
theorem op_neD (hu:X.A.units + 64 < cLine):OpR X (YW .NotEq) (rDeep X.K fun p q=>!eqD p q):=by
 sleep 3
 obtain ⟨ι,p,q,lx,ly,dp,dq,de,k⟩:=h
 exact HRep.rcNeAt p (lx.heap I rx dp) (ly.heap I ry dq) 4e0 X.prog X.w X.xe _ ⟨.bl _,H,I,rfl,k⟩
def deepP (g:PV->PV->Bool)(p q:PV):Option PV:=if dat p&&dat q&&decide (dep p<=60) then some (.bl (g p q)) else none
theorem deep_ok {g:PV->PV->Bool}:L2ok X.K (rDeep X.K g) (deepP g):=by
 sleep 6
 unfold deepP at e
 split at e
 ·rename_i h
  cases e
  simp only[YG,decide_eq_true_eq] at h
  exact ⟨ι,p,q,lx,ly,h.1.1,h.1.2,h.2,k _ H .refl cr repBl⟩
 ·cases e
theorem hu64 {A:Around}{k:Nat}(hr:Room k A):A.units + 64 < cLine:=hr.units
end
mutual
theorem HRep.inj {h:Heap}:∀(p:PV) {q:PV} {u:Value},HRep h p u->HRep h q u->p=q
 | .non,q,u,a,b=>by
  unfold HRep at a;subst a
  cases q<;>unfold HRep at b<;>first | rfl | (cases b;done) | (obtain ⟨_,e⟩:=b;cases e;done) | (obtain ⟨_,_,e,_⟩:=b;cases e;done) | exact b.elim
 | .bl x,q,u,a,b=>by
  unfold HRep at a;subst a
  cases q<;>unfold HRep at b<;>first | (cases b;done) | (cases b;rfl) | (obtain ⟨_,e⟩:=b;cases e;done) | (obtain ⟨_,_,e,_⟩:=b;cases e;done) | exact b.elim
 | .int x,q,u,a,b=>by
  unfold HRep at a;obtain ⟨t,rfl⟩:=a
  cases q<;>unfold HRep at b<;>first | (cases b;done) | (obtain ⟨_,e⟩:=b;cases e;done) | (obtain ⟨_,e⟩:=b;cases e;rfl) | (obtain ⟨_,_,e,_⟩:=b;cases e;done) | exact b.elim
 | .str x,q,u,a,b=>by
  unfold HRep at a;obtain ⟨t,rfl⟩:=a
  cases q<;>unfold HRep at b<;>first | (cases b;done) | (obtain ⟨_,e⟩:=b;cases e;done) | (obtain ⟨_,e⟩:=b;cases e;rfl) | (obtain ⟨_,_,e,_⟩:=b;cases e;done) | exact b.elim
 | .tup ps,q,u,a,b=>by
  unfold HRep at a;obtain ⟨l,us,rfl,h1,r1⟩:=a
  cases q with
  | tup qs=>
   unfold HRep at b;obtain ⟨l',vs,e,h2,r2⟩:=b
   cases e
   cases ZcH h1 h2
   rw[HReps.inj ps r1 r2]
  | lst qs=>unfold HRep at b;obtain ⟨l',vs,e,h2,r2⟩:=b;cases e;exact (Zcl h1 h2).elim
  | _=>unfold HRep at b;first | (cases b;done) | (obtain ⟨_,e⟩:=b;cases e;done) | exact b.elim
 | .lst ps,q,u,a,b=>by
  unfold HRep at a;obtain ⟨l,us,rfl,h1,r1⟩:=a
  cases q with
  | lst qs=>
   unfold HRep at b;obtain ⟨l',vs,e,h2,r2⟩:=b
   cases e
   cases Zdh h1 h2
   rw[HReps.inj ps r1 r2]
  | tup qs=>unfold HRep at b;obtain ⟨l',vs,e,h2,r2⟩:=b;cases e;exact (Zcl h2 h1).elim
  | _=>unfold HRep at b;first | (cases b;done) | (obtain ⟨_,e⟩:=b;cases e;done) | exact b.elim
 | .dct _ _,q,u,a,b=>by unfold HRep at a;exact a.elim
 | .dtt _ _,q,u,a,b=>by unfold HRep at a;exact a.elim
 | .fn _,q,u,a,b=>by unfold HRep at a;exact a.elim
 | .ty _,q,u,a,b=>by unfold HRep at a;exact a.elim
theorem HReps.inj {h:Heap}:∀(ps:List PV) {qs:List PV} {us:3e4},HReps h ps us->HReps h qs us->ps=qs
 | [],qs,us,a,b=>by
  unfold HReps at a;subst a
  cases qs with
  | nil=>rfl
  | cons q qs=>unfold HReps at b;obtain ⟨_,_,e,_⟩:=b;cases e
 | p::ps,qs,us,a,b=>by
  unfold HReps at a;obtain ⟨v,r,rfl,a1,a2⟩:=a
  cases qs with
  | nil=>unfold HReps at b;cases b
  | cons q qs=>
   unfold HReps at b;obtain ⟨v',r',e,b1,b2⟩:=b
   cases e
   rw[HRep.inj p a1 b1,HReps.inj ps a2 b2]
end
open Classical in
def eqH (h:Heap)(q:PV)(u:Value):Bool:=decide (∃p,HRep h p u/\eqD p q=true)
open Classical in
theorem eqH_of {h:Heap}{p q:PV}{u:Value}(a:HRep h p u):eqH h q u=eqD p q:=by
 unfold eqH
 cases e:eqD p q with
 | true=>exact decide_eq_true ⟨p,a,e⟩
 | false=>exact decide_eq_false fun h_=>by obtain ⟨p',a',e'⟩:=h_;rw[HRep.inj p a a',e'] at e;cases e
theorem any_eqH {h:Heap}{q:PV}:∀{ps:List PV} {us:3e4},HReps h ps us->us.any (eqH h q)=ps.any fun p=>eqD p q
 | [],us,a=>by unfold HReps at a;subst a;rfl
 | p::ps,us,a=>by
  unfold HReps at a;obtain ⟨v,r,rfl,a1,a2⟩:=a
  rw[XA,XA,eqH_of a1,any_eqH a2]
theorem mem_eqH {A:Around}{s:Shared}{q:PV}{v:Value}(b:HRep s.heap q v):∀{ps:List PV} {us:3e4},HReps s.heap ps us->A.units + deps ps < cLine->∀u∈us,EqAt A s u v (eqH s.heap q u)
 | [],us,a,_,u,hu=>by unfold HReps at a;subst a;cases hu
 | p::ps,us,a,hz,u,hu=>by
  unfold HReps at a;obtain ⟨w,r,rfl,a1,a2⟩:=a
  unfold deps at hz
  rcases Yg.mp hu with rfl | hu
  ·rw[eqH_of a1];exact HRep.eqAt p a1 b 4e0
  ·exact mem_eqH b a2 4e0 u hu
def inDP (neg:Bool)(x y:PV):Option PV:=match y with
 | .tup ps=>if dats ps&&dat x&&decide (deps ps<=50) then some (.bl (if neg then !ps.any (fun p=>eqD p x) else ps.any fun p=>eqD p x)) else none
 | .lst ps=>if dats ps&&dat x&&decide (deps ps<=50) then some (.bl (if neg then !ps.any (fun p=>eqD p x) else ps.any fun p=>eqD p x)) else none
 | _=>none
section
variable {X:Cx}
def rInD (K:W.Frag)(neg:Bool):R2:=fun x y H Q=>∃ι q ps p vs,Lies K ι H q x/\dat q=true/\y=.ref p/\(SqL K H p vs\/SqT K H p vs)/\Reps K ι H ps vs/\dats ps=true/\deps ps<=50/\Q (.bl (if neg then !ps.any (fun p=>eqD p q) else ps.any fun p=>eqD p q)) H
theorem op_inD (hu:X.A.units + 64 < cLine):OpR X (YW .In) (rInD X.K false):=by
 sleep 3
 obtain ⟨ι,q,ps,p,vs,lx,dq,rfl,hq,rs,ds,de,k⟩:=h
 cases ry
 have hx:=lx.heap I rx dq
 rcases hq with hq | hq
 ·obtain ⟨its,r,pl,hz⟩:=I.list hq
  have hr:=Reps.heap I ps rs r ds
  refine SeqAt.in_listAt (eqH s.heap q) pl.isList (fun w hw=>mem_eqH hx hr (by rw[Xs];lia) w (by simpa using hw)) ⟨.bl _,H,I,rfl,?_⟩
  rw[show its.toArray.any (eqH s.heap q)=its.any (eqH s.heap q) by simp,any_eqH hr]
  exact k
 ·obtain ⟨its,r,pl,hz⟩:=I.tuple hq
  have hr:=Reps.heap I ps rs r ds
  refine SeqAt.in_tupleAt (eqH s.heap q) pl (fun w hw=>mem_eqH hx hr (by rw[Xs];lia) w (by simpa using hw)) ⟨.bl _,H,I,rfl,?_⟩
  rw[show its.toArray.any (eqH s.heap q)=its.any (eqH s.heap q) by simp,any_eqH hr]
  exact k
theorem inD_ok {neg:Bool}:L2ok X.K (rInD X.K neg) (inDP neg):=by
 sleep 6
 unfold inDP at e
 split at e
 ·split at e
  ·rename_i h
   cases e
   simp only[YG,decide_eq_true_eq] at h
   cases ly with
   | tup hs rs=>exact ⟨ι,p,_,_,_,lx,h.1.2,rfl,.inr hs.sq,rs,h.1.1,h.2,k _ H .refl cr repBl⟩
  ·cases e
 ·split at e
  ·rename_i h
   cases e
   simp only[YG,decide_eq_true_eq] at h
   cases ly with
   | lst hs rs=>exact ⟨ι,p,_,_,_,lx,h.1.2,rfl,.inl hs,rs,h.1.1,h.2,k _ H .refl cr repBl⟩
  ·cases e
 ·cases e
end
mutual
noncomputable def ltD:PV->PV->Option Bool
 | .int a,.int b=>some (decide (a < b))
 | .str a,.str b=>some (decide (a.cps.toList < b.cps.toList))
 | .tup xs,.tup ys=>lexD xs ys
 | _,_=>none
noncomputable def lexD:List PV->List PV->Option Bool
 | [],[]=>some false
 | [],_::_=>some true
 | _::_,[]=>some false
 | x::xs,y::ys=>if eqD x y then lexD xs ys else ltD x y
end
def RcLtAt (A:Around)(s:Shared)(y x:Value)(b:Bool):Prop:=
 ∀(prog:Yl) (w:World) (E:1e4) (Q:1e4),Q (.bool b) s->wpAny 4e1 A (richCompare .Lt y x) Q E s
inductive PairsOk (A:Around)(s:Shared):List PV->List PV->List Value->List Value->Prop
 | nil1 {qs:List PV} {vs:List Value} (h:qs.length=vs.length):PairsOk A s [] qs [] vs
 | nil2 {ps:List PV} {us:List Value} (h:ps.length=us.length):PairsOk A s ps [] us []
 | cons {p q:PV} {u v:Value} {ps qs:List PV} {us vs:List Value} (e:EqAt A s u v (eqD p q)) (l:∀c,ltD p q=some c->RcLtAt A s u v c) (t:PairsOk A s ps qs us vs):PairsOk A s (p::ps) (q::qs) (u::us) (v::vs)
section
open PySem.AutoSeq1 (wpAny_loadPart')
open PySem.MeetsSeq PySem.MeetsSeq2 PySem.MeetsSeq3
theorem lexD_cons (x y:PV)(xs ys:List PV):lexD (x::xs) (y::ys)=if eqD x y then lexD xs ys else ltD x y:=by rw[lexD]
theorem Zcc:lexD [] []=some false:=by rw[lexD]
theorem lexD_nil_cons (y:PV)(ys:List PV):lexD [] (y::ys)=some true:=by rw[lexD]
theorem lexD_cons_nil (x:PV)(xs:List PV):lexD (x::xs) []=some false:=by rw[lexD]
theorem tuple_ltD (l b:Addr)(items items2:Array Value)(n n2:Nat)(dd dd2:Option Addr)(sl sl2:Array 12e9)(ps qs:List PV)(c:Bool)(hc:lexD ps qs=some c):
  Meets (Vm.«tuple.__lt__» ⟨[.ref l,.ref b],[]⟩)
   (fun A R s=>s.heap.get? l=some { cls:=.type "tuple",dict:=dd,data:=.seq items n,slots:=sl }/\s.heap.get? b=some { cls:=.type "tuple",dict:=dd2,data:=.seq items2 n2,slots:=sl2 }/\
    PairsOk A.in1 s ps qs items.toList items2.toList/\R (.ok (.ret (.bool c))) s):=
 .of_wp fun prog w A R s h=>by
  obtain ⟨hp,g,d,tk,os⟩:=s;obtain ⟨hl,hb,hpr,h⟩:=h
  have f2:=AutoSeq1.sub_tuple_tuple
  wp_walk using V4 hl,V4 hb,wpAny_forIn_list _ (fun rest b s'=>b.1=none/\s'=⟨hp,g,d,tk,os⟩/\∃(vs ws:3e4) (ps' qs':List PV),rest=vs.zip ws/\
   PairsOk A.in1 ⟨hp,g,d,tk,os⟩ ps' qs' vs ws/\vs.length + items2.size=ws.length + items.size/\lexD ps' qs'=some c) _
  case turn=>
   rintro ⟨y,x⟩ rest b s' ⟨hb',rfl,vs,ws,ps',qs',hz,hpr',hlen,hR⟩
   cases hpr' with
   | nil1 hh=>rw[List.zip_nil_left] at hz;cases hz
   | nil2 hh=>rw[List.zip_nil_right] at hz;cases hz
   | @cons p q u v ps2 qs2 us2 vs2 e lt t=>
    rw[Vw] at hz
    injection hz with hyx hrest
    injection hyx with hy hx
    subst hy hx
    rw[lexD_cons] at hR
    simp only[YD] at hlen
    refine Yb (e prog w _ _ ?_)
    cases ee:eqD p q with
    | true=>
     rw[ee,if_pos rfl] at hR
     wp_walk
     exact ⟨rfl,rfl,_,_,_,_,hrest,t,by lia,hR⟩
    | false=>
     rw[ee,if_neg Yh] at hR
     have hri:=lt c hR prog w
     wp_walk using hri
     exact ⟨_,rfl,by simpa using h⟩
  case fin=>
   rintro ⟨b1,b2⟩ s' ⟨hb',rfl,vs,ws,ps',qs',hz,hpr',hlen,hR⟩
   simp only at hb'
   subst hb'
   have hv:c=decide (items.size < items2.size):=by
    cases hpr' with
    | nil1 hh=>
     cases qs' with
     | nil=>
      rw[Zcc] at hR;cases hR
      simp only[Vn] at hlen hh
      exact (decide_eq_false 4e0).symm
     | cons q qs2=>
      rw[lexD_nil_cons] at hR;cases hR
      simp only[Vn,YD] at hlen hh
      exact (decide_eq_true 4e0).symm
    | nil2 hh=>
     cases ps' with
     | nil=>
      rw[Zcc] at hR;cases hR
      simp only[Vn] at hlen hh
      exact (decide_eq_false 4e0).symm
     | cons q qs2=>
      rw[lexD_cons_nil] at hR;cases hR
      simp only[Vn,YD] at hlen hh
      exact (decide_eq_false 4e0).symm
    | cons e lt t=>rw[Vw] at hz;cases hz
   rw[hv] at h
   wp_walk
   exact ⟨_,rfl,by simpa[Builtin.Tuple.tupleCompareSizes] using h⟩
  case h=>
   exact ⟨rfl,rfl,items.toList,items2.toList,ps,qs,rfl,hpr,by simp;lia,hc⟩
end
section
variable {s:Shared}
theorem RcLtAt.int (a:Int)(t:Tok)(c:Int)(u:Tok)(A:Around):RcLtAt A s (.int a t) (.int c u) (decide (a < c)):=fun prog w E Q h=>
 (PyProof.Rows.lt_int h:wpAny 4e1 A (YW .Lt (.int a t) (.int c u)) Q E s)
theorem RcLtAt.str (a:Str)(t:Tok)(c:Str)(u:Tok)(A:Around):RcLtAt A s (.str a t) (.str c u) (decide (a.cps.toList < c.cps.toList)):=fun prog w E Q h=>
 (PyProof.Rows.lt_str h:wpAny 4e1 A (YW .Lt (.str a t) (.str c u)) Q E s)
theorem RcLtAt.tup {A:Around}{l b:Addr}{us vs:3e4}{ps qs:List PV}{c:Bool}(hl:s.heap.IsTuple l us.toArray)(hb:s.heap.IsTuple b vs.toArray)(hu:3e9)(hp:PairsOk A.in1 s ps qs us vs)(hc:lexD ps qs=some c):
  RcLtAt A s (.ref l) (.ref b) c:=fun prog w E Q h=>by
 obtain ⟨⟨cls,dd,data,sl⟩,ho,hcl,n,hd⟩:=id hl
 obtain ⟨⟨cls2,dd2,data2,sl2⟩,ho2,hcl2,n2,hd2⟩:=id hb
 simp only at hcl hd hcl2 hd2
 subst hcl hd hcl2 hd2
 exact richCompare_meets_room (op:=.Lt) ⟨_,ho,rfl⟩ ⟨_,ho2,rfl⟩ PySem.F.slot_tuple_lt PySem.F.entry_tuple_lt (PySem.F.args_tuple_lt_2 _ _) (tuple_ltD l b us.toArray vs.toArray n n2 dd dd2 sl sl2 ps qs c hc)
  ⟨ho,ho2,hp,show Vi c≠Value.notImplemented/\Q (.bool c) s from ⟨(fun x=>nomatch x),h⟩⟩ hu
mutual
theorem HRep.rcLt:∀(p:PV) {q:PV} {u v:Value} {A:Around} {c:Bool},HRep s.heap p u->HRep s.heap q v->A.units + dep p < cLine->ltD p q=some c->RcLtAt A s u v c
 | .int x,q,u,v,A,c,a,b,hu,e=>by
  cases q with
  | int y=>
   unfold HRep at a b;obtain ⟨t,rfl⟩:=a;obtain ⟨t',rfl⟩:=b
   unfold ltD at e;cases e;exact .int _ _ _ _ _
  | _=>unfold ltD at e;cases e
 | .str x,q,u,v,A,c,a,b,hu,e=>by
  cases q with
  | str y=>
   unfold HRep at a b;obtain ⟨t,rfl⟩:=a;obtain ⟨t',rfl⟩:=b
   unfold ltD at e;cases e;exact .str _ _ _ _ _
  | _=>unfold ltD at e;cases e
 | .tup ps,q,u,v,A,c,a,b,hu,e=>by
  cases q with
  | tup qs=>
   unfold HRep at a b;obtain ⟨l,us,rfl,h1,r1⟩:=a;obtain ⟨l',vs,rfl,h2,r2⟩:=b
   unfold ltD at e
   unfold dep at hu
   exact .tup h1 h2 4e0 (HReps.pairs ps r1 r2 (by rw[Xs];lia)) e
  | _=>unfold ltD at e;cases e
 | .non,q,u,v,A,c,a,b,hu,e=>by unfold ltD at e;cases e
 | .bl _,q,u,v,A,c,a,b,hu,e=>by unfold ltD at e;cases e
 | .lst _,q,u,v,A,c,a,b,hu,e=>by unfold ltD at e;cases e
 | .dct _ _,q,u,v,A,c,a,b,hu,e=>by unfold ltD at e;cases e
 | .dtt _ _,q,u,v,A,c,a,b,hu,e=>by unfold ltD at e;cases e
 | .fn _,q,u,v,A,c,a,b,hu,e=>by unfold ltD at e;cases e
 | .ty _,q,u,v,A,c,a,b,hu,e=>by unfold ltD at e;cases e
theorem HReps.pairs:∀(ps:List PV) {qs:List PV} {us vs:3e4} {A:Around},HReps s.heap ps us->HReps s.heap qs vs->A.units + deps ps < cLine->PairsOk A s ps qs us vs
 | [],qs,us,vs,A,a,b,hu=>by
  have:=b.length
  unfold HReps at a;subst a
  exact .nil1 this
 | p::ps,qs,us,vs,A,a,b,hu=>by
  cases qs with
  | nil=>
   have:=a.length
   unfold HReps at b;subst b
   exact .nil2 this
  | cons q qs=>
   unfold HReps at a b;obtain ⟨x,r,rfl,a1,a2⟩:=a;obtain ⟨y,r',rfl,b1,b2⟩:=b
   unfold deps at hu
   exact .cons (HRep.eqAt p a1 b1 4e0) (fun c e=>HRep.rcLt p a1 b1 4e0 e) (HReps.pairs ps a2 b2 4e0)
end
end
section
variable {X:Cx}
def rLtD (K:W.Frag):R2:=fun x y H Q=>∃ι p q c,Lies K ι H p x/\Lies K ι H q y/\dat p=true/\dat q=true/\dep p<=60/\ltD p q=some c/\Q (.bl c) H
theorem op_ltD (hu:X.A.units + 64 < cLine):OpR X (YW .Lt) (rLtD X.K):=by
 sleep 3
 obtain ⟨ι,p,q,c,lx,ly,dp,dq,de,e,k⟩:=h
 exact HRep.rcLt p (lx.heap I rx dp) (ly.heap I ry dq) 4e0 e X.prog X.w X.xe _ ⟨.bl _,H,I,rfl,k⟩
def ltDP (p q:PV):Option PV:=if dat p&&dat q&&decide (dep p<=60) then (ltD p q).map .bl else none
theorem ltD_ok:L2ok X.K (rLtD X.K) ltDP:=by
 sleep 6
 unfold ltDP at e
 split at e
 ·rename_i h
  simp only[YG,decide_eq_true_eq] at h
  cases hc:ltD p q with
  | none=>rw[hc] at e;cases e
  | some c=>rw[hc] at e;cases e;exact ⟨ι,p,q,c,lx,ly,h.1.1,h.1.2,h.2,hc,k _ H .refl cr repBl⟩
 ·cases e
end
end Pu
namespace Ts
open PySem PySem.W
open PyProof.Rows hiding St Fr tail3 descPart
noncomputable def gallop':Bool->Keyed->Array Keyed->Nat->Nat->Nat->StateT SortSt Sem (Option Nat):=sortPriv% PySem.Builtin.gallop
noncomputable def galE (be:Nat->StateT SortSt Sem (Option Bool))(n a b:Nat):StateT SortSt Sem (Option Nat):=do
 let mut lo:=a
 let mut hi:=b
 for _ in [0:n] do
  if lo ≥ hi then break
  let m:=lo + (hi - lo) / 2
  let some more ←be m | return none
  if more then lo:=m + 1 else hi:=m
 return some hi
abbrev Ky:=Array Keyed
noncomputable def setG (g:Nat):StateT SortSt Sem Unit:=modify fun s=>SortSt.mk' (kindOf s) (arrOf s) (pendingOf s) g (failedOf s)
section
variable {o:10e9}
def le (o:10e9)(a b:Nat):Prop:=o b a=false
structure J (o:Nat->Nat->Bool)(x y z:List Nat)(i j:Nat):Prop where
 p1:(z++x.drop i).Pairwise (le o)
 p2:(z++y.drop j).Pairwise (le o)
 pm:z.Perm (x.take i++y.take j)
variable {x y z:9e2}{i j k:Nat}
end
section
variable {prog:Yl}{w:World}{A:Around}{E:1e4}{s:Shared}{κ:Ug}{it:Array Keyed}{o:10e9}
def Ans (prog:Yl)(w:World)(A:Around)(s:Shared)(κ:Ug)(it:Ky)(o:10e9):Prop:=
 ∀i j,i < it.size->j < it.size->∀C:Bool->Shared->Prop,C (o i j) s->kas_cmp prog w A κ it i j C s
theorem lt_ok {i j:Nat}{st:SortSt}{Q:Option Bool->SortSt->Prop}(hA:Ans prog w A s κ it o)(hk:kindOf st=κ)(hi:i < it.size)(hj:j < it.size)(h:Q (some (o i j)) st):wpS 4e1 A E s (lt' (kas_item it i) (kas_item it j)) Q st:=by
 rw[lt'_eq]
 refine wpS_bind (wpS_get ?_)
 rw[hk]
 refine wpS_bind (wpS_lift (wpAny_attempt (YK (hA i j hi hj (fun b s'=>s'=s/\b=o i j) ⟨rfl,rfl⟩) (fun b s' e=>?_) fun _ _ e=>e.elim)))
 obtain ⟨rfl,rfl⟩:=e
 exact ⟨rfl,wpS_pure h⟩
def ar (it:Ky)(x:9e2):Ky:=(x.map (kas_item it)).toArray
end
abbrev SM:=StateT SortSt Sem
abbrev C1:=Option Ky×Ky×Nat×Nat×Nat×Nat
abbrev C2:=Option Ky×Ky×Nat×Nat×Nat×Nat×Nat
noncomputable def fn (a b r:Ky)(i j:Nat):Ky:=r++a.extract i a.size++b.extract j b.size
def u1 (a b:Ky)(mg:Nat)(c:C1):SM (ForInStep C1):=
 elem' b c.2.2.2.1 >>= fun e=>elem' a c.2.2.1 >>= fun f=>lt' e f >>= fun q=>match q with
 | some bw=>if bw=true then elem' b c.2.2.2.1 >>= fun e=>
   if (c.2.2.2.1 + 1==b.size)=true then pure (.done (some (fn a b (c.2.1.push e) c.2.2.1 (c.2.2.2.1 + 1)),c.2.1.push e,c.2.2.1,c.2.2.2.1 + 1,0,c.2.2.2.2.2 + 1))
   else if c.2.2.2.2.2 + 1 ≥ mg then pure (.done (none,c.2.1.push e,c.2.2.1,c.2.2.2.1 + 1,0,c.2.2.2.2.2 + 1))
   else pure (.yield (none,c.2.1.push e,c.2.2.1,c.2.2.2.1 + 1,0,c.2.2.2.2.2 + 1))
  else elem' a c.2.2.1 >>= fun e=>
   if (c.2.2.1 + 1 + 1==a.size)=true then pure (.done (some (fn b a (c.2.1.push e) c.2.2.2.1 (c.2.2.1 + 1)),c.2.1.push e,c.2.2.1 + 1,c.2.2.2.1,c.2.2.2.2.1 + 1,0))
   else if c.2.2.2.2.1 + 1 ≥ mg then pure (.done (none,c.2.1.push e,c.2.2.1 + 1,c.2.2.2.1,c.2.2.2.2.1 + 1,0))
   else pure (.yield (none,c.2.1.push e,c.2.2.1 + 1,c.2.2.2.1,c.2.2.2.2.1 + 1,0))
 | _=>pure (.done (some (fn a b c.2.1 c.2.2.1 c.2.2.2.1),c.2.1,c.2.2.1,c.2.2.2.1,c.2.2.2.2.1,c.2.2.2.2.2))
def t3 (a b r:Ky)(i j mg ac bc:Nat):SM (ForInStep C2):=
 elem' a i >>= fun e=>
 if (i + 1 + 1==a.size)=true then pure (.done (some (fn b a (r.push e) j (i + 1)),r.push e,i + 1,j,mg,ac,bc))
 else if (decide (ac < 7)&&decide (bc < 7))=true then pure (.done (none,r.push e,i + 1,j,mg,ac,bc))
 else pure (.yield (none,r.push e,i + 1,j,mg,ac,bc))
def t1 (a b r:Ky)(i j mg ac bc:Nat):SM (ForInStep C2):=
 elem' b j >>= fun e=>
 if (j + 1==b.size)=true then pure (.done (some (fn a b (r.push e) i (j + 1)),r.push e,i,j + 1,mg,ac,bc)) else
  elem' a i >>= fun f=>gallop' true f b (j + 1) (b.size - (j + 1)) 0 >>= fun q=>match q with
  | some k=>if k > 0 then
    if (j + 1 + k==b.size)=true then pure (.done (some (fn a b (r.push e++b.extract (j + 1) (j + 1 + k)) i (j + 1 + k)),r.push e++b.extract (j + 1) (j + 1 + k),i,j + 1 + k,mg,ac,k))
    else t3 a b (r.push e++b.extract (j + 1) (j + 1 + k)) i (j + 1 + k) mg ac k
   else t3 a b (r.push e) i (j + 1) mg ac k
  | _=>pure (.done (some (fn a b (r.push e) i (j + 1)),r.push e,i,j + 1,mg,ac,bc))
def t0 (a b r:Ky)(i j mg ac bc:Nat):SM (ForInStep C2):=
 setG mg >>= fun _=>elem' b j >>= fun e=>gallop' false e a i (a.size - i) 0 >>= fun q=>match q with
 | some k=>if k > 0 then
   if (i + k + 1==a.size)=true then pure (.done (some (fn b a (r++a.extract i (i + k)) j (i + k)),r++a.extract i (i + k),i + k,j,mg,k,bc))
   else if (i + k==a.size)=true then pure (.done (some (fn a b (r++a.extract i (i + k)) (i + k) j),r++a.extract i (i + k),i + k,j,mg,k,bc))
   else t1 a b (r++a.extract i (i + k)) (i + k) j mg k bc
  else t1 a b r i j mg k bc
 | _=>pure (.done (some (fn a b r i j),r,i,j,mg,ac,bc))
def u2 (a b:Ky)(c:C2):SM (ForInStep C2):=
 if c.2.2.2.2.1 > 1 then t0 a b c.2.1 c.2.2.1 c.2.2.2.1 (c.2.2.2.2.1 - 1) c.2.2.2.2.2.1 c.2.2.2.2.2.2 else t0 a b c.2.1 c.2.2.1 c.2.2.2.1 c.2.2.2.2.1 c.2.2.2.2.2.1 c.2.2.2.2.2.2
abbrev C0:=Option Ky×Ky×Nat×Nat×Nat
def u0 (a b:Ky)(c:C0):SM (ForInStep C0):=
 (forIn [0:a.size + b.size] ((none,c.2.1,c.2.2.1,c.2.2.2.1,0,0):C1) fun _ c1=>u1 a b c.2.2.2.2 c1) >>= fun d=>match d.1 with
 | some r=>pure (.done (some r,d.2.1,d.2.2.1,d.2.2.2.1,c.2.2.2.2))
 | none=>(liftM (rule "list.sort.gallop"):SM Unit) >>= fun _=>
  (forIn [0:a.size + b.size] ((none,d.2.1,d.2.2.1,d.2.2.2.1,c.2.2.2.2 + 1,d.2.2.2.2.1,d.2.2.2.2.2):C2) fun _ c2=>u2 a b c2) >>= fun e=>match e.1 with
  | some r=>pure (.done (some r,e.2.1,e.2.2.1,e.2.2.2.1,e.2.2.2.2.1))
  | none=>setG (e.2.2.2.2.1 + 1) >>= fun _=>pure (.yield (none,e.2.1,e.2.2.1,e.2.2.2.1,e.2.2.2.2.1 + 1))
section
variable {prog:Yl}{w:World}{A:Around}{E:1e4}{s:Shared}{κ:Ug}{it a:Ky}{o:10e9}{x y z:9e2}{p:Array (Nat×Nat×Nat)}{st:SortSt}{i j k mg ac bc base:Nat}
def Fin (it:Ky)(o:10e9)(x y:9e2)(r:Ky):Prop:=∃z,r=ar it z/\z.Pairwise (le o)/\z.Perm (x++y)
def G (it:Ky)(o:10e9)(x y:9e2)(base:Nat)(q:Option Ky)(r:Ky)(i j:Nat):Prop:=
 match q with
 | some r=>Fin it o x y r
 | none=>∃z,r=ar it z/\J o x y z i j/\i + 1 < x.length/\j < y.length/\base<=i + j
def N2 (it:Ky)(o:10e9)(x y:9e2)(base:Nat):ForInStep C2->Prop
 | .done c=>G it o x y base c.1 c.2.1 c.2.2.1 c.2.2.2.1
 | .yield c=>c.1=none/\G it o x y base c.1 c.2.1 c.2.2.1 c.2.2.2.1
def N1 (it:Ky)(o:10e9)(x y:9e2)(base:Nat):ForInStep C1->Prop
 | .done c=>G it o x y base c.1 c.2.1 c.2.2.1 c.2.2.2.1
 | .yield c=>c.1=none/\G it o x y base c.1 c.2.1 c.2.2.1 c.2.2.2.1
end
abbrev D1:=Option Ky×Nat×Nat×Ky×Nat×Nat
abbrev D2:=Option Ky×Nat×Nat×Ky×Nat×Nat×Nat
abbrev D0:=Option Ky×Nat×Nat×Ky×Nat
noncomputable def fh (a b r:Ky)(i j:Nat):Ky:=a.extract 0 i++b.extract 0 j++r.reverse
def v1 (a b:Ky)(mg:Nat)(c:D1):SM (ForInStep D1):=
 elem' b (c.2.2.1 - 1) >>= fun e=>elem' a (c.2.1 - 1) >>= fun f=>lt' e f >>= fun q=>match q with
 | some bw=>if bw=true then elem' a (c.2.1 - 1) >>= fun e=>
   if (c.2.1 - 1==0)=true then pure (.done (some (fh a b (c.2.2.2.1.push e) (c.2.1 - 1) c.2.2.1),c.2.1 - 1,c.2.2.1,c.2.2.2.1.push e,c.2.2.2.2.1 + 1,0))
   else if c.2.2.2.2.1 + 1 ≥ mg then pure (.done (none,c.2.1 - 1,c.2.2.1,c.2.2.2.1.push e,c.2.2.2.2.1 + 1,0))
   else pure (.yield (none,c.2.1 - 1,c.2.2.1,c.2.2.2.1.push e,c.2.2.2.2.1 + 1,0))
  else elem' b (c.2.2.1 - 1) >>= fun e=>
   if (c.2.2.1 - 1==1)=true then pure (.done (some (fh b a (c.2.2.2.1.push e) (c.2.2.1 - 1) c.2.1),c.2.1,c.2.2.1 - 1,c.2.2.2.1.push e,0,c.2.2.2.2.2 + 1))
   else if c.2.2.2.2.2 + 1 ≥ mg then pure (.done (none,c.2.1,c.2.2.1 - 1,c.2.2.2.1.push e,0,c.2.2.2.2.2 + 1))
   else pure (.yield (none,c.2.1,c.2.2.1 - 1,c.2.2.2.1.push e,0,c.2.2.2.2.2 + 1))
 | _=>pure (.done (some (fh a b c.2.2.2.1 c.2.1 c.2.2.1),c.2.1,c.2.2.1,c.2.2.2.1,c.2.2.2.2.1,c.2.2.2.2.2))
def w3 (a b r:Ky)(i j mg ac bc:Nat):SM (ForInStep D2):=
 elem' a (i - 1) >>= fun e=>
 if (i - 1==0)=true then pure (.done (some (fh a b (r.push e) (i - 1) j),i - 1,j,r.push e,mg,ac,bc))
 else if (decide (ac < 7)&&decide (bc < 7))=true then pure (.done (none,i - 1,j,r.push e,mg,ac,bc))
 else pure (.yield (none,i - 1,j,r.push e,mg,ac,bc))
def w1 (a b r:Ky)(i j mg ac bc:Nat):SM (ForInStep D2):=
 elem' b (j - 1) >>= fun e=>
 if (j - 1==1)=true then pure (.done (some (fh b a (r.push e) (j - 1) i),i,j - 1,r.push e,mg,ac,bc)) else
  elem' a (i - 1) >>= fun f=>gallop' true f b 0 (j - 1) (j - 1 - 1) >>= fun q=>match q with
  | some k=>if j - 1 - k > 0 then
    if (k==1)=true then pure (.done (some (fh b a (r.push e++(b.extract k (j - 1)).reverse) k i),i,k,r.push e++(b.extract k (j - 1)).reverse,mg,ac,j - 1 - k))
    else if (k==0)=true then pure (.done (some (fh a b (r.push e++(b.extract k (j - 1)).reverse) i k),i,k,r.push e++(b.extract k (j - 1)).reverse,mg,ac,j - 1 - k))
    else w3 a b (r.push e++(b.extract k (j - 1)).reverse) i k mg ac (j - 1 - k)
   else w3 a b (r.push e) i (j - 1) mg ac (j - 1 - k)
  | _=>pure (.done (some (fh a b (r.push e) i (j - 1)),i,j - 1,r.push e,mg,ac,bc))
def w0 (a b r:Ky)(i j mg ac bc:Nat):SM (ForInStep D2):=
 setG mg >>= fun _=>elem' b (j - 1) >>= fun e=>gallop' false e a 0 i (i - 1) >>= fun q=>match q with
 | some k=>if i - k > 0 then
   if (k==0)=true then pure (.done (some (fh a b (r++(a.extract k i).reverse) k j),k,j,r++(a.extract k i).reverse,mg,i - k,bc))
   else w1 a b (r++(a.extract k i).reverse) k j mg (i - k) bc
  else w1 a b r i j mg (i - k) bc
 | _=>pure (.done (some (fh a b r i j),i,j,r,mg,ac,bc))
def v2 (a b:Ky)(c:D2):SM (ForInStep D2):=
 if c.2.2.2.2.1 > 1 then w0 a b c.2.2.2.1 c.2.1 c.2.2.1 (c.2.2.2.2.1 - 1) c.2.2.2.2.2.1 c.2.2.2.2.2.2 else w0 a b c.2.2.2.1 c.2.1 c.2.2.1 c.2.2.2.2.1 c.2.2.2.2.2.1 c.2.2.2.2.2.2
def v0 (a b:Ky)(c:D0):SM (ForInStep D0):=
 (forIn [0:a.size + b.size] ((none,c.2.1,c.2.2.1,c.2.2.2.1,0,0):D1) fun _ c1=>v1 a b c.2.2.2.2 c1) >>= fun d=>match d.1 with
 | some r=>pure (.done (some r,d.2.1,d.2.2.1,d.2.2.2.1,c.2.2.2.2))
 | none=>(liftM (rule "list.sort.gallop"):SM Unit) >>= fun _=>
  (forIn [0:a.size + b.size] ((none,d.2.1,d.2.2.1,d.2.2.2.1,c.2.2.2.2 + 1,d.2.2.2.2.1,d.2.2.2.2.2):D2) fun _ c2=>v2 a b c2) >>= fun e=>match e.1 with
  | some r=>pure (.done (some r,e.2.1,e.2.2.1,e.2.2.2.1,e.2.2.2.2.1))
  | none=>setG (e.2.2.2.2.1 + 1) >>= fun _=>pure (.yield (none,e.2.1,e.2.2.1,e.2.2.2.1,e.2.2.2.2.1 + 1))
structure JH (o:Nat->Nat->Bool)(x y z:List Nat)(i j:Nat):Prop where
 p1:(x.take i++z).Pairwise (le o)
 p2:(y.take j++z).Pairwise (le o)
 pm:z.Perm (x.drop i++y.drop j)
section
variable {prog:Yl}{w:World}{A:Around}{E:1e4}{s:Shared}{κ:Ug}{it a:Ky}{o:10e9}{x y z:9e2}{p:Array (Nat×Nat×Nat)}{st:SortSt}{i j k mg ac bc base:Nat}
def GH (it:Ky)(o:10e9)(x y:9e2)(base:Nat)(q:Option Ky)(i j:Nat)(r:Ky):Prop:=
 match q with
 | some r=>Fin it o x y r
 | none=>∃z,r=ar it z.reverse/\JH o x y z i j/\1<=i/\i<=x.length/\2<=j/\j<=y.length/\base + i + j<=x.length + y.length
def L2 (it:Ky)(o:10e9)(x y:9e2)(base:Nat):ForInStep D2->Prop
 | .done c=>GH it o x y base c.1 c.2.1 c.2.2.1 c.2.2.2.1
 | .yield c=>c.1=none/\GH it o x y base c.1 c.2.1 c.2.2.1 c.2.2.2.1
def L1 (it:Ky)(o:10e9)(x y:9e2)(base:Nat):ForInStep D1->Prop
 | .done c=>GH it o x y base c.1 c.2.1 c.2.2.1 c.2.2.2.1
 | .yield c=>c.1=none/\GH it o x y base c.1 c.2.1 c.2.2.1 c.2.2.2.1
end
abbrev Pn:=Array (Nat×Nat×Nat)
noncomputable def wr (c m:Ky)(n:Nat):Ky:=m.toList.zipIdx.foldl (fun a p=>a.setIfInBounds (n + p.2) p.1) c
section
variable {prog:Yl}{w:World}{A:Around}{E:1e4}{s:Shared}{κ:Ug}{it:Ky}{o:10e9}{L:9e2}{p:Array Nat}{pd:Pn}{m i j N n k:Nat}
structure PI (κ:Ug)(it:Ky)(o:Nat->Nat->Bool)(st:SortSt)(S:List (List Nat))(R:List Nat):Prop where
 st:∃pd m,st=SortSt.mk' κ (ar it (S.flatten++R)) pd m none/\pd.size=S.length/\∀(i:Nat) X,S[i]? = some X->∃v,pd[i]? = some ((S.take i).flatten.length,X.length,v)
 ok:∀X∈S,X.Pairwise (le o)/\0 < X.length
 pm:(S.flatten++R).Perm (XD it.size)
end
end Ts
namespace Pu
open PySem PySem.Spec PySem.W PySem.Calls L2 PySem.SeqAt
open PyProof.Rows hiding St Fr
theorem ZbO:∀(xs:List (List Key×Addr×Value)),Vals (xs.map fun x=>V.ref x.2.1) (xs.map fun x=>YL x.2.1)
 | []=>.nil
 | x::xs=>.cons rfl (ZbO xs)
end Pu
namespace Se
open PySem PySem.Spec L2
noncomputable def ins {α:Type} [DecidableEq α](acc:List α)(x:α):List α:=if x∈acc then acc else acc++[x]
end Se
namespace Se
open PySem PySem.SetTable PySem.W
open PyProof.Rows hiding St Fr
section
variable {prog:Yl}{w:World}{A:Around}{E:1e4}{s:Shared}{I a T:Addr}{es:Array (Int×Value)}{ep i:Nat}{t:SetTable}
abbrev PA (arr:Array (Int×Value)):Nat->Value->Prop:=fun i v=>∃e,arr[i]? = some e/\v=e.2
end
end Se
namespace L2
open PySem PySem.Spec PyProof.Rows Se
section
variable {prog:Yl}{w:World}{A:Around}{R:11e7}{s:Shared}{elt t0 i0 t1 i1:Expr}{ifs:4e5}{scope:Scope}{pos:Pos}
abbrev noted (prog:Yl)(w:World)(A:Around)(env:Env)(R:11e7):Value->Shared->Prop:=Out prog w A env R
end
end L2
namespace Pu
open PySem PySem.Spec PySem.W PySem.Calls L2
open PyProof.Rows hiding St Fr
noncomputable def mulSP (x y:PV):Option PV:=match x,y with
 | .str z,.int n=>if z.length=1/\n < 1000/\-1000 < n then some (.str (Txt.mul z n)) else none
 | _,_=>none
theorem ZcK (c:Array Nat):∀(k:Nat) (acc:Array Nat),((YJ k c).foldl (·++·) acc).toList=acc.toList++(YJ k c.toList).flatten
 | 0,acc=>by simp
 | k + 1,acc=>by
  rw[Wb,List.foldl_cons,ZcK c k,Wb,List.flatten_cons,Xj,YI]
theorem mulS_list {z:Str}{c:Nat}(hz:z.cps.toList=[c])(n:Int):(Txt.mul z n).cps.toList=YJ n.toNat c:=by
 unfold Txt.mul
 by_cases h:n < 1
 ·rw[if_pos h,show n.toNat=0 by lia];rfl
 ·rw[if_neg h]
  have hl:z.length=1:=by show z.cps.size=1;rw[←YY,hz];rfl
  by_cases h1:n=1
  ·subst h1;simp[hz]
  ·rw[if_neg (by simp[h1,hl])]
   show ((YJ n.toNat z.cps).foldl (·++·) #[]).toList=_
   rw[ZcK,hz]
   simp[List.flatten_replicate_singleton]
theorem mulS_len {z:Str}(hz:z.length=1)(n:Int):(Txt.mul z n).length=n.toNat:=by
 have:z.cps.toList.length=1:=by rw[YY];exact hz
 obtain ⟨c,e⟩:∃c,z.cps.toList=[c]:=by
  match z.cps.toList,this with
  | [c],_=>exact ⟨c,rfl⟩
 show (Txt.mul z n).cps.size=_
 rw[←YY,mulS_list e];simp
section
variable {X:Cx}{a b e:Expr}{fa fb:2e7}{pos p:Pos}{es:4e5}{fs:2e3}
noncomputable def rMulS:R2:=fun x y H Q=>∃z n,x=.str z/\y=.int n/\z.length=1/\n < 1000/\-1000 < n/\Q (.str (Txt.mul z n)) H
theorem op_mulS:OpR X (X7 .Mult) rMulS:=by
 sleep 3
 obtain ⟨z,n,rfl,rfl,hz,h1,h2,q⟩:=h
 obtain ⟨t,rfl⟩:=(show ∃t,v=.str z t from rx)
 obtain ⟨t',rfl⟩:=(show ∃t,u=.int n t from ry)
 refine SB.mul ⟨?_,fun g _=>?_,fun g _=>?_⟩ fun t2 k=>⟨.str (Txt.mul z n),H,I.tok _,8e8,q⟩
 ·simp;lia
 ·rw[hz]
  have:(1:Int)<=(2 ^ 63 - 1) / n:=by
   rw[Int.le_ediv_iff_mul_le 4e0];lia
  lia
 ·have:z.length * n.toNat<=sizeLine:=by rw[hz,YU];lia
  exact decide_eq_false (Uc.mpr this)
theorem mulS_ok:L2ok X.K rMulS mulSP:=by
 sleep 6
 unfold mulSP at e
 split at e
 ·split at e
  ·rename_i s n hc
   cases e
   obtain ⟨rfl,hs⟩:=liesS lx
   cases ly
   refine ⟨_,_,rfl,rfl,hc.1,hc.2.1,hc.2.2,k _ H .refl cr ?_⟩
   unfold Rep
   exact ⟨rfl,by rw[mulS_len hc.1,YU];lia⟩
  ·cases e
 ·cases e
end
end Pu
namespace Pu
open PySem PySem.Spec L2
open PyProof.Rows hiding St Fr
def Je (K:W.Frag)(a:Addr):It:=⟨fun i H=>∃xs v,SqL K H a xs/\xs[i]? = some v,fun i H x H'=>∃b v,H b=none/\x=.ref b/\H'=upd H b (.tup [.int i,v])/\∀xs,SqL K H a xs->xs[i]? = some v,
 fun i H=>∃xs,SqL K H a xs/\xs.length<=i⟩
theorem turn_enum {P:Yl}{w:World}{K:W.Frag}{elts:4e5}{x1:Nat}{pos:Pos}{a e it:Addr}(hne:e≠it):Turn P w K (.Tuple elts x1 pos) (Je K a) [e,it] e
  (fun i h=>(∃old,IsEnum h e it i old)/\h.IsListIter it a i) where
 mem:=by simp
 obj:=fun i h st b hb=>by
  obtain ⟨⟨old,he⟩,o,hi,hc,hd⟩:=st
  simp only[Yg,Yr,or_false] at hb
  rcases hb with rfl | rfl
  ·exact ⟨_,he,fun v q=>by cases q⟩
  ·exact ⟨o,hi,fun v q=>by rw[hd] at q;cases q⟩
 keep:=fun i h h' st k=>by
  obtain ⟨⟨old,he⟩,hi⟩:=st
  exact ⟨⟨old,k e 3e2 _ he⟩,hi.at fun o z=>k it 3e2 o z⟩
 item:=by
  sleep 2
  obtain ⟨⟨old,he⟩,hi⟩:=st
  obtain ⟨xs,v,hq,hx⟩:=hg
  obtain ⟨its,rv,p,hz⟩:=I.list hq
  obtain ⟨u,hu,ru⟩:=rv.get hx
  refine wpAny_pyNext_enum_item he hi p.isList (x:=u) (by simpa using hu) hne fun h' ho hi' hT hsz hk=>⟨_,rfl,?_⟩
  refine wpAny_letOwnedTupleGo_enum (s:={ s with heap:=h',toks:=s.toks + 1 }) ho fun h3 he3 sb=>?_
  have J1:Inv X pins σ H { s with heap:=h3,toks:=s.toks + 1 }:=turnedL (ch:=[e,it]) I (fun b o hb z=>by
   simp only[Yg,Yr,or_false,not_or] at hb
   exact sb.extBut _ _ hb.1 (hk b o hb.1 hb.2 z)) hf
  have hlt:∀{b o},s.heap.get? b=some o->b≠s.heap.objs.size:=fun e=>YB (Ys e)
  have hn:H s.heap.objs.size=none:=I.hok.fresh (Yo _)
  have hT3:=sb.extBut _ _ (hlt he).symm hT
  have J2:=track (ob:=.tup [.int i,v]) J1 hn I.sz (XI I.lt) (fun x c e=>by obtain ⟨v,q⟩:=I.cell x c e;exact YB q.lt) (fun p hp=>hlt (I.pin p hp).1)
   ⟨by show 2<=Yu;rw[YU];decide,[.int i s.toks,u],.cons 8e8 (.cons ru .nil),⟨_,hT3,rfl,_,rfl⟩⟩
  refine ⟨.ref s.heap.objs.size,_,J2,rfl,⟨_,v,hn,rfl,rfl,fun ys hy=>by rw[I.list_inj hy hq];exact hx⟩,⟨⟨_,he3⟩,hi'.at fun o z=>sb.extBut _ _ hne.symm z⟩,fun b hb=>?_⟩
  have hb':b≠s.heap.objs.size:=by
   simp only[Yg,Yr,or_false] at hb
   rcases hb with rfl | rfl
   ·exact hlt he
   ·obtain ⟨o,z,_⟩:=hi;exact hlt z
  rw[Zao hb'];exact (hf b hb).1
 done:=by
  sleep 2
  obtain ⟨⟨old,he⟩,hi⟩:=st
  obtain ⟨xs,hq,hx⟩:=hg
  obtain ⟨its,rv,p,hz⟩:=I.list hq
  have hl:=rv.length
  refine wpAny_pyNext_enum_end (I.ok.hd hc) he hi p.isList (by simp;lia) fun h' eb=>⟨rfl,turnedL (t':=s.toks) (ch:=[e,it]) I (fun b o hb z=>?_) hf⟩
  simp only[Yg,Yr,or_false,not_or] at hb
  exact eb b o hb.2 z
 self:=fun _ _ _ _ _ st h=>by obtain ⟨⟨old,he⟩,_⟩:=st;exact wpAny_pyIter_enum he h
section
variable {X:Cx}{l:Expr}{elts:4e5}{x1:Nat}{tpos p pos:Pos}
def iEnum (K:W.Frag)(tl:TA):TI:=fun σ H R=>tl σ H fun xs H1=>∃a,xs=[.ref a]/\(∃vs,SqL K H1 a vs)/\R (Je K a) H1
theorem pi_enum {tl:TA}(hg:Gl X "enumerate")(hm:X.mg "enumerate"=none)(ha:PA X [l] tl)(hs:Yi [l] X.env=[(false,eval l X.env)]:=by rfl):PI X (.Tuple elts x1 tpos) (.Call (.Name "enumerate" p) [l] [] pos) (iEnum X.K tl):=by
 intro pins s σ H R I h
 refine Call_ (Zdf I hg hm 1e0 (XF (thn (ha pos pins s σ H _ I h) fun us s1 ⟨vs,H1,I1,r1,q1⟩=>?_) hs rfl))
 obtain ⟨a,rfl,⟨ws,hq⟩,q⟩:=q1
 obtain ⟨u,rfl,ru⟩:=vals1 r1
 cases ru
 obtain ⟨its,rv,pl,hz⟩:=I1.list hq
 refine call_enumerate_list pl.isList fun h' he hi hsz k=>?_
 have J:Inv X pins σ H1 { s1 with heap:=h' }:=I1.kept (t':=s1.toks) k
 refine wpAny_pyIter_enum (s:={ s1 with heap:=h' }) he ⟨s1.heap.objs.size + 1,[s1.heap.objs.size + 1,s1.heap.objs.size],_,_,H1,rfl,J,turn_enum (Nat.succ_ne_self _),⟨⟨_,he⟩,hi⟩,fun b hb=>?_,q⟩
 have hb':s1.heap.objs.size<=b:=by
  simp only[Yg,Yr,or_false] at hb
  rcases hb with rfl | rfl<;>lia
 exact I1.fpOk hb' (I1.hok.fresh hb')
noncomputable def enumL (xs:List PV):List PV:=(XD xs.length).map fun i=>.tup [.int (i:Nat),xs.getD i .non]
def enumP:List SV->Option 6e1
 | [.v (.lst xs)]=>some (enumL xs)
 | _=>none
def mEnum (fs:2e3):PSt->M 6e1:=fun ρ=>bnd (fs ρ) fun xs=>opM fun _=>enumP xs
theorem ZcP (xs:List PV):(enumL xs).length=xs.length:=by unfold enumL;simp
theorem iter_enum {K:W.Frag}{ι:2e9}{H:Hp}{C:Cs}{a:Addr}{xs:List PV}{vs:List V}(cr:10e8)(h:LsR K ι H a vs)(r:Reps K ι H xs vs):Iter K ι H (enumL xs) (Je K a):=by
 have keep:∀ι2 H2,Ex ι ι2 H H2->SqL K H2 a vs:=fun ι2 H2 x=>by
  rcases h with ⟨n,q | ⟨o,q⟩⟩ | q
  ·exact .inl (.inl (x.out _ _ n q).2)
  ·exact .inl (.inr ⟨o,(x.out _ _ n q).2⟩)
  ·exact .inr q
 refine ⟨fun ι2 H2 C2 x c i hi=>?_,fun ι2 H2 C2 x c i v H3 hi y=>?_,fun ι2 H2 C2 x c=>⟨vs,keep ι2 H2 x,by rw[ZcP,r.length];exact Yo _⟩⟩
 ·rw[ZcP] at hi
  obtain ⟨v,e,_⟩:=r.get (Ye hi)
  exact ⟨vs,v,keep ι2 H2 x,e⟩
 ·rw[ZcP] at hi
  obtain ⟨b,w,hn,rfl,rfl,y⟩:=y
  obtain ⟨p,hp,rp⟩:=r.get' (y vs (keep ι2 _ x))
  refine ⟨fun c o e=>by rw[Zao (Zal e hn)];exact e,.tup [.int (i:Nat),p],?_,ZcD hn (.cons repI (.cons (Rep.tr cr x.out p w rp) .nil))⟩
  unfold enumL
  simp[hi]
  rw[Ye hi] at hp
  exact Yz hp
end
end Pu
namespace Pu
open PySem PySem.Spec L2
open PyProof.Rows hiding St Fr
section
variable {X:Cx}{e o:Expr}{es:4e5}{fo:2e7}{fs:2e3}{apos cpos:Pos}
def getH2:PV->List PV->Option PV
 | .dct ks vs,[p,.int i]=>match keyP p with
  | some q=>some ((lookP ks vs q).getD (.int i))
  | none=>none
 | _,_=>none
def rGet2:V->List V->Hp->VK->Prop:=fun x vs H Q=>∃a y o d,x=.ref a/\vs=[y,d]/\(∃kvs k,H a=some (.dK kvs)/\y=kV k/\o=valV kvs k)/\Q (o.getD d) H
theorem mt_get2:MtR X "dict.get" rGet2:=by
 intro pins s σ H x vs v us Q I rx rv h
 obtain ⟨a,y,o,d,rfl,rfl,⟨kvs,k,e,rfl,rfl⟩,q⟩:=h
 cases rx
 obtain ⟨u,u2,rfl,ru,ru2⟩:=vals2 rv
 obtain ⟨z,hd,ws,rel,dd⟩:=dk_of I.hok e
 refine call_meetsIn PySem.F.slot_dict_get dd.typeIs PySem.F.entry_dict_get (PySem.F.args_dict_get_3 _ _ _) (meets_dict_get_default (mixKind X.prog X.w) a (kV_is ru) hd u2) ⟨_,dd.mapOf,?_⟩
 have rr:=rel.val k
 refine ⟨(valV kvs k).getD d,H,I.tok _,?_,q⟩
 cases h1:valV kvs k with
 | none=>
  rw[h1] at rr
  cases h2:V1 ws k with
  | none=>exact ru2
  | some w=>rw[h2] at rr;exact rr.elim
 | some w=>
  rw[h1] at rr
  cases h2:V1 ws k with
  | none=>rw[h2] at rr;exact rr.elim
  | some w'=>rw[h2] at rr;exact rr
theorem get2_ok:Mtok X.K rGet2 getH2:=by
 intro ι H C q v ps vs z Q cr lq ls e k
 unfold getH2 at e
 split at e
 ·rename_i ks ws p i
  split at e
  ·rename_i key hk
   cases e
   cases ls with
   | cons l t=>cases t with
    | cons l2 t=>cases t with
     | nil=>
      cases l2
      obtain ⟨a,qs,us,rfl,rfl,hd,hl,r⟩:=liesD lq
      refine ⟨a,_,_,_,rfl,rfl,⟨_,key,hd,lies_key l hk,rfl⟩,?_⟩
      cases h1:lookP (qs.map kP) ws key with
      | none=>rw[(Zcm hl r).2 h1];rw[h1] at k;exact k _ H .refl cr repI
      | some w=>
       obtain ⟨v',hv',rv'⟩:=(Zcm hl r).1 w h1
       rw[hv'];rw[h1] at k;exact k _ H .refl cr rv'
  ·cases e
 ·cases e
variable {a b:Expr}{fa fb:2e7}{pos:Pos}
theorem fn_none {P:Yl}{w:World}{K:W.Frag}{mg:1e5}{base:Heap}{k:Nat}{f:Addr}{fd:Yj}{ps:3e1}:FnOk P w K mg base CX0 k f fd ps (liftSp K fun _ _=>none):=
 ⟨fun vs H Q E h=>(by obtain ⟨_,_,_,_,_,_,_,e,_⟩:=h;cases e),fun A outer s H args us vs Q E _ _ _ _ h=>by obtain ⟨_,_,_,_,_,_,_,e,_⟩:=h;cases e⟩
end
end Pu
namespace Hd
open PySem PySem.W PySem.Spec PySem.Calls L2 Pu
open PyProof.Rows hiding St Fr
noncomputable def kf (h:Heap)(as:2e9):Frag:=as.filterMap fun a=>(h.get? a).map fun o=>(a,o)
theorem kf_get {h:Heap}:∀{as:2e9} {a:Addr} {o:Obj},(kf h as).lookup a=some o->h.get? a=some o
 | [],_,_,e=>by cases e
 | b::as,a,o,e=>by
  unfold kf at e
  rw[Xh] at e
  cases g:h.get? b with
  | none=>rw[g] at e;exact kf_get e
  | some p=>
   rw[g] at e
   simp only[Xq,YA] at e
   by_cases q:a=b
   ·subst q;rw[beq_self_eq_true] at e;cases e;exact g
   ·rw[beq_eq_false_iff_ne.mpr q] at e;exact kf_get e
theorem kf_in (h:Heap)(as:2e9):(kf h as).In h:=fun _ _ e=>kf_get e
theorem kf_at {h:Heap}{a:Addr}{o:Obj}(g:h.get? a=some o):∀{as:2e9},a∈as->(kf h as).lookup a=some o
 | [],m=>by cases m
 | b::as,m=>by
  unfold kf
  rw[Xh]
  by_cases q:a=b
  ·subst q;rw[g];simp
  ·have m':a∈as:=(Yg.mp m).resolve_left q
   cases g':h.get? b with
   | none=>exact kf_at g m'
   | some p=>
    simp only[Xq,YA]
    rw[beq_eq_false_iff_ne.mpr q]
    exact kf_at g m'
def At (mg:1e5)(h:Heap)(as:2e9)(d:DefRec):Prop:=∃(a c:Addr) (o:Obj) (pm doc:Value),mg d.name=some (.ref a)/\h.get? a=some o/\o.data=.func (docDef d.name d.params d.body d.scope pm (.ref c) doc)/\h.CodeRec (.ref c) d.name/\a∈as/\c∈as
theorem at_all {mg:1e5}{h:Heap}(as0:2e9):∀ds:List DefRec,(∀d∈ds,∃a o pm code doc,mg d.name=some (.ref a)/\h.get? a=some o/\o.data=.func (docDef d.name d.params d.body d.scope pm code doc)/\h.CodeRec code d.name)->
  ∃as:List Addr,(∀a∈as0,a∈as)/\∀d∈ds,At mg h as d
 | [],_=>⟨as0,fun _ m=>m,fun _ m=>nomatch m⟩
 | d::ds,T=>by
  obtain ⟨as,h0,ih⟩:=at_all as0 ds fun e m=>T e (.tail _ m)
  obtain ⟨a,o,pm,cd,doc,h1,h2,h3,h4⟩:=T d (.head _)
  obtain ⟨c,oc,vs,t,rfl,r⟩:=h4
  refine ⟨a::c::as,fun b m=>.tail _ (.tail _ (h0 b m)),fun e m=>?_⟩
  rcases Yg.mp m with rfl | m
  ·exact ⟨a,c,o,pm,doc,h1,h2,h3,⟨c,oc,vs,t,rfl,r⟩,.head _,.tail _ (.head _)⟩
  ·obtain ⟨a',c',o',pm',doc',q1,q2,q3,q4,q5,q6⟩:=ih e m
   exact ⟨a',c',o',pm',doc',q1,q2,q3,q4,.tail _ (.tail _ q5),.tail _ (.tail _ q6)⟩
def FnAt (K:Frag)(mg:1e5)(x:Str)(st:Stmt):Prop:=∃f fd,mg x=some (.ref f)/\Fun K x x st f fd
noncomputable def four (d:DefRec):Str×Ue×List Stmt×Scope:=(d.name,d.params,d.body,d.scope)
def fourS (p:Str×Stmt):Str×Ue×List Stmt×Scope:=(p.1,defArgs p.2,defBody p.2,defScope p.2)
theorem fn_at {mg:1e5}{h:Heap}{as:2e9}{ds:List DefRec}{sts:List (Str×Stmt)}(A:∀d∈ds,At mg h as d)(es:ds.map four=sts.map fourS)(i:Nat){x:Str}{st:Stmt}(e:sts[i]? = some (x,st)):FnAt (kf h as) mg x st:=by
 have q:(ds.map four)[i]? = some (fourS (x,st)):=by rw[es,Y7,e];rfl
 obtain ⟨d,e',q⟩:=WR.mp ((Y7 ..).symm.trans q)
 obtain ⟨n,ps,b,sc,p⟩:=d
 obtain ⟨rfl,q⟩:=Vk q
 obtain ⟨q1,q⟩:=Vk q
 obtain ⟨q2,q3⟩:=Vk q
 dsimp only at q1 q2 q3
 subst q1 q2 q3
 obtain ⟨a,c,o,pm,doc,h1,h2,h3,h4,h5,h6⟩:=A _ (Y9 e')
 obtain ⟨c',oc,vs,t,e1,g,hd,hv⟩:=h4
 cases e1
 obtain ⟨cl,dd,dt,sl⟩:=o
 cases (show dt=_ from h3)
 have k1:=kf_at h2 h5
 have k2:=kf_at g h6
 refine ⟨a,_,h1,fun_mk (oc:=cl) (od:=dd) (osl:=sl) (kV:=.none) (doc:=doc) (pm:=pm) (an:=none) (ct:=.none) (cdv:=.ref c) k1 ?_ ?_⟩
 ·obtain ⟨ocl,odd,odt,osl⟩:=oc
  cases (show odt=_ from hd)
  unfold codeIn
  dsimp only
  rw[k2]
  obtain ⟨l⟩:=vs
  match l,hv with
  | _::v::r,hv=>
   cases (show v=_ by simpa using hv)
   simp
 ·unfold keepIn
  dsimp only
  rw[k1]
theorem int_of {mg:1e5}{x:Str}{i:Int}(h:∃v,mg x=some v/\∀h':Heap,Reads h' v (.int i) []):∃t,mg x=some (.int i t):=by
 obtain ⟨v,e,r⟩:=h
 cases r default
 exact ⟨_,e⟩
theorem str_of {mg:1e5}{x y:Str}(h:∃v,mg x=some v/\∀h':Heap,Reads h' v (.str y) []):∃t,mg x=some (.str y t):=by
 obtain ⟨v,e,r⟩:=h
 cases r default
 exact ⟨_,e⟩
theorem tab_mg {h:Heap}{mg:1e5}(G:h.Ns Y5 mg){names:3e1}{vals:List (Option 12e9)}(Y:∃om,h.get? Y5=some om/\names.map (nsIn [(Y5,om)] Y5)=vals)(i:Nat){x:Str}{v:Value}
  (e1:names[i]? = some x) (e2:vals[i]? = some (some (some v))):mg x=some v:=by
 obtain ⟨om,g,e⟩:=Y
 refine mg_of (K:=[(Y5,om)]) (fun a o q=>?_) G ?_
 ·rw[YA] at q
  by_cases z:a=Y5
  ·subst z;rw[beq_self_eq_true] at q;cases q;exact g
  ·rw[beq_eq_false_iff_ne.mpr z] at q;cases q
 ·rw[←e,Y7,e1] at e2
  simpa using e2
theorem tab_at {h:Heap}{tas:2e9}{tos:List Obj}(e:tas.map h.get? = tos.map some)(i:Nat){a:Addr}{o:Obj}(e1:tas[i]? = some a)(e2:tos[i]? = some o):h.get? a=some o:=by
 have q:=congrArg (fun l:List (Option Obj)=>l[i]?) e
 simp only[Y7,e1,e2,Xq] at q
 exact Yz q
noncomputable def defPos (s:Stmt):Pos:=match s with
 | .FunctionDef _ _ _ _ _ _ _ _ _ p=>p
 | _=>⟨0,0,0,0⟩
noncomputable def isHere (p:Yl)(loose:3e1)(x:Str):Bool:=startupNames.contains x||loose.contains x||((recsOf p).map (·.name)).contains x||((litsOf p).map (·.1)).contains x||((clssOf p loose).map (·.name)).contains x
theorem nones {p:Yl}{loose:3e1}{mean:ExcName->Option Value}{mg mb:1e5}{h:Heap}(T:Top p loose mean mg mb h){xs:3e1}(e:xs.all (fun x=>!isHere p loose x)=true)(i:Nat){x:Str}(hx:xs[i]? = some x):mg x=none:=by
 have q:=YV.mp e x (Y9 hx)
 unfold isHere at q
 simp only[Bool.not_or,YG,VG,List.contains_eq_mem,decide_eq_false_iff_not] at q
 exact T.free x q.1.1.1.1 q.1.1.1.2 q.1.1.2 q.1.2 q.2
noncomputable def spLaw (K:Frag):Sp:=fun vs H Q _=>∃(a:Addr) (ns:List Int),vs=[.ref a]/\SqL K H a (ns.map V.int)/\ns.length<=63/\∀H',Q 13e9 H'
theorem reps_ints {K:Frag}{ι:2e9}{H:Hp}:∀ns:List Int,Reps K ι H (ns.map PV.int) (ns.map V.int)
 | []=>by unfold Reps;rfl
 | n::ns=>by
  rw[YM,YM];unfold Reps
  exact ⟨_,_,rfl,by unfold Rep;rfl,reps_ints ns⟩
theorem spLaw_lift {K:Frag}{F:List SV->M SV}(hF:∀ns:List Int,ns.length<=63->F [.v (.lst (ns.map .int))] []=some (.v 13e9,[]))(vs:List V)(H:Hp)(Q:VK)(E:XK)(h:spLaw K vs H Q E):liftSp K F vs H Q E:=by
 obtain ⟨a,ns,rfl,hS,hl,hQ⟩:=h
 refine ⟨[],[.v (.lst (ns.map .int))],[],.v 13e9,[],⟨rfl,List.nodup_nil,fun k a c e=>by cases e⟩,?_,hF ns hl,fun v H' _ _ r=>?_⟩
 ·unfold RepSs
  refine ⟨_,_,rfl,?_,by unfold RepSs;rfl⟩
  unfold RepS Rep
  refine ⟨a,_,rfl,?_,reps_ints ns⟩
  rcases hS with h | h
  ·exact .inl ⟨Yr,h⟩
  ·exact .inr h
 ·have e:v=.bl true:=by unfold RepS Rep at r;exact r
  subst e;exact hQ H'
theorem walk {l:OpenLaw}{k:Nat}{q:Yl}{loose:3e1}{XP:(Str->Option Value)->Heap->Prop}{YP:World->Heap->Prop}{d:DefRec}(hn:l.most=some 63)(hdf:d.params.defaults=[])(hr:Room k Ul)(as0:2e9)
  (F:∀(w:World) (s₀:Shared) (mg mb:1e5) (h:Heap) (as:2e9),Ground q loose [] XP w s₀ mg mb h->YP w h->(∀a∈as0,a∈as)->(∀d∈recsOf q,At mg h as d)->∀fa:Addr,mg d.name=some (.ref fa)->
   ∃fd:Yj,(∀(s:Shared) (u:Value),BindsTo s fd ⟨[u],[]⟩ [("_law_script",u)])/\∀base:Heap,FnOk l.prog w (kf h as) mg base CX0 k fa fd ["_law_script"] (spLaw (kf h as))):
  WalkO q loose XP YP l.row.toRowW d [] (fun f vs=>PySem.call f vs):=by
 refine Att.attach_call hn hdf fun w s₀ s₁ mg mb fa o pm cd doc a vs ns G Y ho hd hcd hmg hobj hints hlen hg=>?_
 obtain ⟨as,h0,A⟩:=at_all as0 (recsOf q) G.T.fn
 obtain ⟨fd,hb,hF⟩:=F w s₀ mg mb _ as G Y h0 A fa hmg
 exact law_call (kf_in s₁.heap as) G.T.g G.T.b G.T.builtins G.T.nolimit hg hobj hints (Yv hlen 2e6) hr (fun base _ _=>hF base) hb (fun H hO hS=>⟨a,ns,rfl,hS,hlen,fun _=>rfl⟩) fun H e s' z=>z
end Hd
namespace L2
open PySem PySem.Spec PyProof.Rows
abbrev GT:=TI×TG×TT
noncomputable abbrev lobj (its:3e4)(k:Nat):Obj:={ cls:=.type "list",data:=.seq its.toArray k }
def CBody (te:TE):List GT->List V->St->Hp->(St->List V->Hp->Prop)->Prop
  | [],ys,σ,H,N=>te σ H fun y H4=>ys.length<=Yu/\N σ (ys++[y]) H4
  | (wi,g,tt)::rest,ys0,σ0,H0,N=>wi σ0 H0 fun J H1=>
    ∃W:Nat->Nat->St->List V->Hp->Prop,(∃m,W 0 m σ0 ys0 H1)/\∀i m σ ys H,W i m σ ys H->
      (J.stop i H/\N σ ys H)\/
      (J.go i H/\∃N1:St->List V->Hp->Prop,(∀σ2 ys2 H2,N1 σ2 ys2 H2->∃m',m' < m/\W (i + 1) m' σ2 ys2 H2)/\∀x H',J.yld i H x H'->g x σ H' fun σ2 H2=>tt σ2 H2 fun b H3=>
        if b=true then CBody te rest ys σ2 H3 N1 else N1 σ2 ys H3)
def CLoop (J:It)(g:TG)(tt:TT)(rest:List GT)(te:TE)(ys0:List V)(σ0:St)(H1:Hp)(N:St->List V->Hp->Prop):Prop:=
  ∃W:Nat->Nat->St->List V->Hp->Prop,(∃m,W 0 m σ0 ys0 H1)/\∀i m σ ys H,W i m σ ys H->
   (J.stop i H/\N σ ys H)\/
   (J.go i H/\∃N1:St->List V->Hp->Prop,(∀σ2 ys2 H2,N1 σ2 ys2 H2->∃m',m' < m/\W (i + 1) m' σ2 ys2 H2)/\∀x H',J.yld i H x H'->g x σ H' fun σ2 H2=>tt σ2 H2 fun b H3=>
    if b=true then CBody te rest ys σ2 H3 N1 else N1 σ2 ys H3)
inductive GensOk (Y:Cx):List WO->List GT->Prop
 | nil:GensOk Y [] []
 | cons {t i:Expr} {ifs:List Expr} {gs:List WO} {wi:TI} {g:TG} {tt:TT} {rs:List GT} (hI:PI Y t i wi) (hG:PG Y t g) (hT:PTs Y ifs tt) (hs:∀x,Y1 i Y.env x=pure x) (r:GensOk Y gs rs):GensOk Y (⟨t,i,ifs,0⟩::gs) ((wi,g,tt)::rs)
section
variable {prog:Yl}{w:World}{A:Around}{R:11e7}{s:Shared}{elt t i:Expr}{ifs:4e5}{gens:List WO}{scope:Scope}{pos:Pos}{d:Nat}
theorem turn_head {it:Value}{env:Env}{α:Type}{P Q:Shared->Prop}{z:Shared}{fin:Sem α}{tl:Bool->Sem α}{G:α->Shared->Prop}(h0:∀z1,P z1->wpAny 4e1 A fin G (noted prog w A env R) z1)
  (h:wpAny 4e1 A (pyNext it) (fun r z1=>match r with
   | none=>P z1
   | some v=>wpAny (model prog w) A (XE t it v) (fun _ z2=>wpAny (model prog w) A (assign t env v) (fun _ z3=>wpAny (model prog w) A (testsOf env ifs) (fun yes z4=>wpAny (model prog w) A (tl yes) G (noted prog w A env R) z4) (noted prog w A env R) z3) (noted prog w A env R) z2) (noted prog w A env R) z1) (noted prog w A env R) z):
  wpAny 4e1 A (do VW i.pos;match ←pyNext it with | none=>fin | some v=>do XE t it v;assign t env v;let yes ←testsOf env ifs;tl yes) G (noted prog w A env R) z:=by
 apply Yb
 apply Xx
 apply Yb
 refine YK h ?_ fun _ _ e=>e
 rintro (_ | v) z1 y1
 ·exact h0 z1 y1
 apply Yb
 refine YK y1 (fun _ z2 y2=>?_) fun _ _ e=>e
 apply Yb
 refine YK y2 (fun _ z3 y3=>?_) fun _ _ e=>e
 apply Yb
 exact y3
theorem Zb3 {it acc:Value}{env:Env}(hg:gens[d]? = some ⟨t,i,ifs,0⟩)(step:(Shared->Prop)->Shared->Prop)
  (hstep:(gens[d + 1]? = none/\∀P s,step P s->wpAny 4e1 A (eval elt env) (fun x s₄=>wpAny 4e1 A (call (.builtin "list.append") [acc,x]) (fun _ s₅=>P s₅) (noted prog w A env R) s₄) (noted prog w A env R) s)\/
   ∃t1 i1 ifs1,gens[d + 1]? = some ⟨t1,i1,ifs1,0⟩/\(∀x,Y1 i1 env x=pure x)/\∀P s,step P s->wpAny 4e1 A (eval i1 env) (fun x s₃=>wpAny 4e1 A (pyIter x) (fun it' s₄=>
      XG (model prog w) A (.compStart (.ListComp elt gens scope pos) (d + 1) it' acc env) (fun r s₅=>match r with | .ok _=>P s₅ | .error _=>False) s₄)
      (noted prog w A env R) s₃) (noted prog w A env R) s)
  (I:Nat->Shared->Prop)
  (turn:∀k z,I k z->wpAny 4e1 A (pyNext it) (fun r z1=>match r with
   | none=>R (.ok .next) z1
   | some v=>wpAny 4e1 A (XE t it v) (fun _ z2=>wpAny 4e1 A (assign t env v) (fun _ z3=>wpAny 4e1 A (testsOf env ifs) (fun yes z4=>
     if yes=true then step (fun z5=>∃m,m < k/\I m z5) z4 else ∃m,m < k/\I m z4) (noted prog w A env R) z3) (noted prog w A env R) z2) (noted prog w A env R) z1) (noted prog w A env R) z)
  (n:Nat) (h:I n s):XG 4e1 A (.compLoop 13e1 d it acc env) R s:=by
 refine codeAny_loop rfl I ?_ n h
 intro k z hz
 apply wpAny_noted
 delta compTurn
 rcases hstep with ⟨hn,hst⟩ | ⟨t1,i1,ifs1,hn,hs1,hst⟩
 all_goals
  simp only[hg,hn]
  refine turn_head (P:=fun z1=>R (.ok .next) z1) (Q:=fun _=>True) (fun z1 y=>Yk y) (YK (turn k z hz) ?_ fun _ _ e=>e)
  rintro (_ | v) z1 y1
  ·exact y1
  refine YK y1 (fun _ z2 y2=>YK y2 (fun _ z3 y3=>YK y3 (fun yes z4 y4=>?_) fun _ _ e=>e) fun _ _ e=>e) fun _ _ e=>e
  by_cases b:yes=true
  case neg=>
   have nb:yes=false:=by simpa using b
   subst nb
   exact Yk ⟨rfl,y4⟩
  subst b
  have y5:=hst _ _ (show step _ z4 from y4)
 ·apply Yb
  apply Yb
  refine YK y5 (fun x z5 y6=>?_) fun _ _ e=>e
  apply Yb
  exact YK y6 (fun _ z6 y7=>Yk (Yk ⟨rfl,y7⟩)) fun _ _ e=>e
 ·apply Yb
  refine YK y5 (fun x z5 y6=>?_) fun _ _ e=>e
  apply Yb
  apply Xx
  rw[hs1]
  apply Yb
  apply Yk
  apply Yb
  apply X6
  refine YK y6 (fun j z6 y7=>?_) fun _ _ e=>e
  apply Yb
  refine wpAny_runOwn (W4 y7 ?_)
  rintro (e | f) z7 y8
  ·exact y8.elim
  ·exact Yk ⟨rfl,y8⟩
theorem ZcT {it acc:Value}{env:Env}(hg:gens[d]? = some ⟨t,i,ifs,0⟩)
  (h0:XG 4e1 A (.compLoop 13e1 d it acc env) R s)
  (h:wpAny 4e1 A (pyIter it) (fun j z=>XG 4e1 A (.compLoop 13e1 d j acc env) R z) (noted prog w A env R) s):
  XG 4e1 A (.compStart 13e1 d it acc env) R s:=by
 have cl:(clausesOf 13e1)[d]? = some ⟨t,i,ifs,0⟩:=hg
 refine codeAny_of_tree (wpAny_notedAt ?_)
 delta compStart
 simp only[cl]
 refine Yb (m:=ask) (wpAny_askSetting (wpAny_ite ?_))
 split
 ·first
   | exact Yk ⟨rfl,h0⟩
   | exact Yb (Yk (Yk ⟨rfl,h0⟩))
 ·refine Yb (Ub ?_)
  refine Yb (m:=VW _) (Xx (Yb (YK h ?_ fun _ _ e=>e)))
  exact fun j z y=>Yk ⟨rfl,y⟩
end
section
variable {Y:Cx}{elt:Expr}{gens:List WO}{scope:Scope}{pos:Pos}{te:TE}{D:Addr}
theorem runN (eC:Y.calm=true)(eX:Y.xe=fun _ _=>False)(hE:PE Y elt te)(hDl:D≠Y.env.locals)(hDf:D∉Y.fs)(hDe:D∈Y.ex\/Y.s₀.heap.objs.size<=D)(hDc:∀x c,Y.env.cells.lookup x=some c->c≠D)(hDp:∀p∈Y.pn,p.1≠D):
  ∀(rest:List GT) (d:Nat) (t i:Expr) (ifs:4e5) (g:TG) (tt:TT),gens[d]? = some ⟨t,i,ifs,0⟩->PG Y t g->PTs Y ifs tt->GensOk Y (gens.drop (d + 1)) rest->
  ∀(pl:1e8) (J:It) (it:Addr) (fp:2e9) (tn:Nat->Heap->Prop) (ys:List V) (its:3e4) (k:Nat) (σ:St) (H:Hp) (s:Shared) (N:St->List V->Hp->Prop) (R:11e7),
   (∀p∈pl,p.1≠D)->Turn Y.prog Y.w Y.K t J fp it tn->CLoop J g tt rest te ys σ H N->Inv Y ((D,lobj its k)::pl) σ H s->Vals ys its->tn 0 s.heap->(∀b∈fp,FpOk Y ((D,lobj its k)::pl) H b)->
   (∀σ' ys' its' k' H' s',Inv Y ((D,lobj its' k')::pl) σ' H' s'->Vals ys' its'->N σ' ys' H'->R (.ok .next) s')->
   XG (model Y.prog Y.w) Y.A (.compStart 13e1 d (.ref it) (.ref D) Y.env) R s:=by
 intro rest
 induction rest with
 | nil=>
  intro d t i ifs g tt hg hG hT hgs pl J it fp tn ys its k σ H s N R hpl T q I rv st f1 hR
  have hn:gens[d + 1]? = none:=by
   generalize hz:gens.drop (d + 1)=z at hgs
   cases hgs
   have:gens.length<=d + 1:=by simpa using hz
   exact YF.mpr this
  obtain ⟨W,⟨m0,w0⟩,turn⟩:=q
  have fpD:∀b∈fp,b≠D:=fun b hb=>Xd ((f1 b hb).2.2.2.2.2 (D,lobj its k) (Yd _ YT))
  have stat:∀{H':Hp} {its':3e4} {k':Nat},8e9->∀b∈fp,FpOk Y ((D,lobj its' k')::pl) H' b:=fun {H' its' k'} hn b hb=>by
   obtain ⟨a0,a1,a2,a3,a4,a5⟩:=f1 b hb
   refine ⟨hn b hb,a1,a2,a3,a4,fun p hp=>?_⟩
   rcases YE.mp hp with hp | hp
   ·exact a5 p (YH _ hp)
   ·rcases Yg.mp hp with rfl | hp
    ·exact Xd (fpD b hb)
    ·exact a5 p (Yd _ (Yw _ hp))
  have loop:XG (model Y.prog Y.w) Y.A (.compLoop 13e1 d (.ref it) (.ref D) Y.env) R s:=by
   refine Zb3 hg (fun P s=>wpAny (model Y.prog Y.w) Y.A (eval elt Y.env) (fun x s₄=>wpAny (model Y.prog Y.w) Y.A (call (.builtin "list.append") [.ref D,x]) (fun _ s₅=>P s₅) (noted Y.prog Y.w Y.A Y.env R) s₄) (noted Y.prog Y.w Y.A Y.env R) s) (.inl ⟨hn,fun P s h=>h⟩)
    (fun n s'=>∃i σ' ys' its' k' H',Inv Y ((D,lobj its' k')::pl) σ' H' s'/\Vals ys' its'/\tn i s'.heap/\8e9/\W i n σ' ys' H') ?_ m0
    ⟨0,σ,ys,its,k,H,I,rv,st,fun b hb=>(f1 b hb).1,w0⟩
   rintro n s3 ⟨i,σ3,ys3,its3,k3,H3,J3,rv3,st3,fr3,w3⟩
   rcases turn i n σ3 ys3 H3 w3 with ⟨stop,qn⟩ | ⟨go,N1,hN,step⟩
   ·refine Za5 (T.done Y rfl rfl rfl eC i _ s3 σ3 H3 (fun _ _=>False) J3 (stat fr3) st3 stop) fun r s4 h_=>?_
    obtain ⟨hr,J4⟩:=h_
    subst hr
    exact hR σ3 ys3 its3 k3 H3 s4 J4 rv3 qn
   ·refine Za5 (T.item Y rfl rfl rfl eC i _ s3 σ3 H3 (fun _ _=>False) J3 (stat fr3) st3 go) fun r s4 h_=>?_
    obtain ⟨u,hr,h4⟩:=h_
    subst hr
    sleep 12
    rw[eX] at go1
    refine Za5 go1 fun _ s6 h_=>?_
    obtain ⟨σ6,H6,J6,q6⟩:=h_
    have go2:=hT _ s6 σ6 H6 _ J6 q6
    rw[eX] at go2
    refine Za5 go2 fun ok s7 h_=>?_
    obtain ⟨H7,J7,q7⟩:=h_
    have fin:∀{σ8:St} {H8:Hp} {s8:Shared},Inv Y (((D,lobj its3 k3)::pl)++pinsAt fp s5.heap) σ8 H8 s8->
      tn (i + 1) s8.heap/\(∀b∈fp,H8 b=none):=fun {σ8 H8 s8} J8=>by
     refine ⟨T.keep _ _ _ st5 fun b hb o e=>(J8.pin (b,o) (Yd _ (Yd _ (ZaO hb e)))).1,fun b hb=>?_⟩
     obtain ⟨o,e,d⟩:=T.obj _ _ st5 b hb
     exact (J8.pin (b,o) (Yd _ (Yd _ (ZaO hb e)))).2.1
    cases ok with
    | false=>
     rw[if_neg Yh] at q7 ⊢
     obtain ⟨m',hm,w7⟩:=hN _ _ _ q7
     exact ⟨m',hm,i + 1,σ6,ys3,its3,k3,H7,J7.unpinned,rv3,(fin J7).1,(fin J7).2,w7⟩
    | true=>
     rw[if_pos rfl] at q7 ⊢
     have go3:=hE _ s7 σ6 H7 _ J7 q7
     rw[eX] at go3
     refine Za5 go3 fun yv s8 h_=>?_
     obtain ⟨y,H8,J8,r8,hlen,n8⟩:=h_
     obtain ⟨m',hm,w8⟩:=hN _ _ _ n8
     have pD8:=J8.pin (D,lobj its3 k3) (Yd _ (YH _ YT))
     refine append_at (hsz:=by rw[Yn,←rv3.length];exact hlen) pD8.1 fun h9 hs9 hD9=>?_
     have Jp:Inv Y pl σ6 H8 s8:=J8.pins_of fun p hp=>J8.pin p (Yd _ (YH _ (Yw _ hp)))
     have J9:Inv Y pl σ6 H8 { s8 with heap:=h9 }:=Jp.turned (t':=s8.toks) (fun b o hb e=>(hs9.2 b hb).trans e) pD8.2.1 hDl hDe hDc fun p hp=>by
      rcases YE.mp hp with hp | hp
      ·exact hDp p hp
      ·exact hpl p hp
     refine ⟨m',hm,i + 1,σ6,ys3++[y],its3++[yv],k3 + 1,H8,J9.pins_of fun p hp=>?_,Vals.append rv3 (.cons r8 .nil),?_,(fin J8).2,w8⟩
     ·rcases Yg.mp hp with rfl | hp
      ·exact ⟨by show h9.get? D=_;rw[hD9,VC],pD8.2.1,hDl,hDf,fun v z=>by cases z⟩
      ·exact J9.pin p (Yd _ hp)
     ·exact T.keep _ _ _ (fin J8).1 fun b hb o e=>(hs9.2 b (fpD b hb)).trans e
  exact ZcT hg loop (T.self _ 0 _ _ _ st loop)
 | cons r rest ih=>
  intro d t i ifs g tt hg hG hT hgs pl J it fp tn ys its k σ H s N R hpl T q I rv st f1 hR
  generalize hz:gens.drop (d + 1)=z at hgs
  cases hgs with
  | @cons t1 i1 ifs1 gs1 wi1 g1 tt1 _ hI1 hG1 hT1 hs1 r1=>
  have hn:gens[d + 1]? = some ⟨t1,i1,ifs1,0⟩:=by
   have:=congrArg (fun l=>l[0]?) hz
   simpa using this
  have hgs2:gens.drop (d + 1 + 1)=gs1:=by
   have:=congrArg (fun l=>l.drop 1) hz
   simpa[List.drop_drop,Nat.add_comm] using this
  obtain ⟨W,⟨m0,w0⟩,turn⟩:=q
  have fpD:∀b∈fp,b≠D:=fun b hb=>Xd ((f1 b hb).2.2.2.2.2 (D,lobj its k) (Yd _ YT))
  have stat:∀{H':Hp} {its':3e4} {k':Nat},8e9->∀b∈fp,FpOk Y ((D,lobj its' k')::pl) H' b:=fun {H' its' k'} hn b hb=>by
   obtain ⟨a0,a1,a2,a3,a4,a5⟩:=f1 b hb
   refine ⟨hn b hb,a1,a2,a3,a4,fun p hp=>?_⟩
   rcases YE.mp hp with hp | hp
   ·exact a5 p (YH _ hp)
   ·rcases Yg.mp hp with rfl | hp
    ·exact Xd (fpD b hb)
    ·exact a5 p (Yd _ (Yw _ hp))
  have loop:XG (model Y.prog Y.w) Y.A (.compLoop 13e1 d (.ref it) (.ref D) Y.env) R s:=by
   refine Zb3 hg (fun P s=>wpAny (model Y.prog Y.w) Y.A (eval i1 Y.env) (fun x s₃=>wpAny (model Y.prog Y.w) Y.A (pyIter x) (fun it' s₄=>
      XG (model Y.prog Y.w) Y.A (.compStart (.ListComp elt gens scope pos) (d + 1) it' (.ref D) Y.env) (fun r s₅=>match r with | .ok _=>P s₅ | .error _=>False) s₄)
      (noted Y.prog Y.w Y.A Y.env R) s₃) (noted Y.prog Y.w Y.A Y.env R) s) (.inr ⟨t1,i1,ifs1,hn,hs1,fun P s h=>h⟩)
    (fun n s'=>∃i σ' ys' its' k' H',Inv Y ((D,lobj its' k')::pl) σ' H' s'/\Vals ys' its'/\tn i s'.heap/\8e9/\W i n σ' ys' H') ?_ m0
    ⟨0,σ,ys,its,k,H,I,rv,st,fun b hb=>(f1 b hb).1,w0⟩
   rintro n s3 ⟨i,σ3,ys3,its3,k3,H3,J3,rv3,st3,fr3,w3⟩
   rcases turn i n σ3 ys3 H3 w3 with ⟨stop,qn⟩ | ⟨go,N1,hN,step⟩
   ·refine Za5 (T.done Y rfl rfl rfl eC i _ s3 σ3 H3 (fun _ _=>False) J3 (stat fr3) st3 stop) fun r s4 h_=>?_
    obtain ⟨hr,J4⟩:=h_
    subst hr
    exact hR σ3 ys3 its3 k3 H3 s4 J4 rv3 qn
   ·refine Za5 (T.item Y rfl rfl rfl eC i _ s3 σ3 H3 (fun _ _=>False) J3 (stat fr3) st3 go) fun r s4 h_=>?_
    obtain ⟨u,hr,h4⟩:=h_
    subst hr
    sleep 12
    rw[eX] at go1
    refine Za5 go1 fun _ s6 h_=>?_
    obtain ⟨σ6,H6,J6,q6⟩:=h_
    have go2:=hT _ s6 σ6 H6 _ J6 q6
    rw[eX] at go2
    refine Za5 go2 fun ok s7 h_=>?_
    obtain ⟨H7,J7,q7⟩:=h_
    have fin:∀{its':3e4} {k':Nat} {σ8:St} {H8:Hp} {s8:Shared},Inv Y ((D,lobj its' k')::(pl++pinsAt fp s5.heap)) σ8 H8 s8->
      tn (i + 1) s8.heap/\(∀b∈fp,H8 b=none):=fun {its' k' σ8 H8 s8} J8=>by
     refine ⟨T.keep _ _ _ st5 fun b hb o e=>(J8.pin (b,o) (Yd _ (Yw _ (Yd _ (ZaO hb e))))).1,fun b hb=>?_⟩
     obtain ⟨o,e,d⟩:=T.obj _ _ st5 b hb
     exact (J8.pin (b,o) (Yd _ (Yw _ (Yd _ (ZaO hb e))))).2.1
    have un:∀{its':3e4} {k':Nat} {σ8:St} {H8:Hp} {s8:Shared},Inv Y ((D,lobj its' k')::(pl++pinsAt fp s5.heap)) σ8 H8 s8->Inv Y ((D,lobj its' k')::pl) σ8 H8 s8:=fun {its' k' σ8 H8 s8} J8=>J8.pins_of fun p hp=>J8.pin p (Yd _ (by
     rcases Yg.mp hp with rfl | hp
     ·exact YT
     ·exact Yw _ (YH _ hp)))
    cases ok with
    | false=>
     rw[if_neg Yh] at q7 ⊢
     obtain ⟨m',hm,w7⟩:=hN _ _ _ q7
     exact ⟨m',hm,i + 1,σ6,ys3,its3,k3,H7,un J7,rv3,(fin J7).1,(fin J7).2,w7⟩
    | true=>
     rw[if_pos rfl] at q7 ⊢
     have go3:=hI1 _ s7 σ6 H7 _ J7 q7
     rw[eX] at go3
     refine Za5 go3 fun xv s8 h8=>Za5 h8 fun itv s9 h9=>?_
     obtain ⟨it1,fp1,tn1,J1,H9,e9,J9,T1,st9,f9,q9⟩:=h9
     subst e9
     refine ih (d + 1) t1 i1 ifs1 g1 tt1 hn hG1 hT1 (by rw[hgs2];exact r1) (pl++pinsAt fp s5.heap) J1 it1 fp1 tn1 ys3 its3 k3 σ6 H9 s9 N1 _ (fun p hp=>?_) T1 q9 J9 rv3 st9 f9 fun σ' ys' its' k' H' s' J' rv' n'=>?_
     ·rcases YE.mp hp with hp | hp
      ·exact hpl p hp
      ·exact fpD _ (of_pinsAt hp).1
     ·obtain ⟨m',hm,w'⟩:=hN _ _ _ n'
      exact ⟨m',hm,i + 1,σ',ys',its',k',H',un J',rv',(fin J').1,(fin J').2,w'⟩
  exact ZcT hg loop (T.self _ 0 _ _ _ st loop)
end
section
variable {X:Cx}{tg elt iter:Expr}{ifs:4e5}{gs:List WO}{scope:Scope}{pos:Pos}{vs fs:3e1}{fr:9e2}{g:TG}{tt:TT}{te:TE}{rest:List GT}
def CompWN (J:It)(vs:3e1)(fr:9e2)(g:TG)(tt:TT)(rest:List GT)(te:TE)(σ:St)(H1:Hp)(Q:VK):Prop:=
 CLoop J g tt rest te [] (stIn vs fr σ) H1 fun _ ys H=>ys.length<=Yu/\∀D,H D=none->Q (.ref D) (upd H D (.lst ys))
theorem ZcR {pins:1e8}{σ:St}{H:Hp}{s:Shared}{Q:VK}{it:Addr}{fp:2e9}{tn:Nat->Heap->Prop}{J:It}{RR:Value->Addr->Result->Shared->Prop}
  (S:8e4) (hc:10e2)
  (bG:14e5) (bT:12e8) (bR:∀C s₀ H₀ ex pn,GensOk 1e7 gs rest) (bE:∀C s₀ H₀ ex pn,PE 1e7 elt te)
  (I:2e1) (T:Turn X.prog X.w X.K tg J fp it tn) (st:tn 0 s.heap) (hf:∀b∈fp,FpOk X pins H b)
  (q:CompWN J vs fr g tt rest te σ H Q)
  (hRR:∀D C H' s' m',Inv X pins σ H' s'->Q (.ref D) H'->s'.heap.Ns C m'->H' C=none->s.heap.objs.size<=C->RR (.ref D) C (.ok .next) s'):
  wpAny 2e2 X.A (newList []) (fun acc s₃=>wpAny 2e2 X.A (newFunctionEnv scope X.env.globals 9e7 [] X.env.qual none .none (some X.env)) (fun cenv s₄=>
   XG (model X.prog X.w) X.A (.compStart (.ListComp elt (⟨tg,iter,ifs,0⟩::gs) scope pos) 0 (.ref it) acc { cenv with scope:=relabel scope X.env }) (RR acc cenv.locals) s₄) X.xe s₃) X.xe s:=by
 refine Xm (Vb S.cell' (by intro y hy;simp at hy) (fun h₁ hns₁ hsb₁=>?_) S.kind)
 dsimp only at hns₁ hsb₁ ⊢
 generalize hH2:s.heap.push { cls:=.type "list",dict:=none,data:=.seq ([]:List Value).toArray }=H2 at hns₁ hsb₁ ⊢
 have hCs:H2.objs.size=s.heap.objs.size + 1:=by rw[←hH2,XB]
 have hDC:s.heap.objs.size≠H2.objs.size:=by rw[hCs];exact YB (VQ _)
 have hCle:s.heap.objs.size<=H2.objs.size:=by rw[hCs];exact VN _
 have old:∀b o,s.heap.get? b=some o->h₁.get? b=some o:=fun b o e=>hsb₁.extBut b o (ZaC e hCle) (Yc _ (hH2 ▸ Yc _ e))
 have hacc:h₁.get? s.heap.objs.size=some { cls:=.type "list",data:=.seq ([]:List Value).toArray 0 }:=hsb₁.extBut _ _ hDC (Yc _ (hH2 ▸ Yt _ rfl))
 have hfo:∀b∈fp,∃o,s.heap.get? b=some o:=fun b hb=>by obtain ⟨o,e,_⟩:=T.obj 0 _ st b hb;exact ⟨o,e⟩
 generalize hY:CompCx X (vs++fs) scope H2.objs.size s H fp (X.pn++pins)=Y
 have J0:Inv Y [] (stIn vs fr σ) H { s with heap:=h₁,toks:=s.toks + ([]:List (Str×Value)).length }:=by
  rw[←hY];exact Zb7 S I hf hfo hCle hns₁ old
 have hG:PG Y tg g:=by rw[←hY];exact bG _ _ _ _ _
 have hGs:GensOk Y gs rest:=by rw[←hY];exact bR _ _ _ _ _
 have hT:PTs Y ifs tt:=by rw[←hY];exact bT _ _ _ _ _
 have hE:PE Y elt te:=by rw[←hY];exact bE _ _ _ _ _
 have ePr:Y.prog=X.prog:=by rw[←hY];rfl
 have eW:Y.w=X.w:=by rw[←hY];rfl
 have eK:Y.K=X.K:=by rw[←hY];rfl
 have eA:Y.A=X.A:=by rw[←hY];rfl
 have eC:Y.calm=true:=by rw[←hY];exact hc
 have eEnv:Y.env=Vv scope 9e7 H2.objs.size X.env:=by rw[←hY];rfl
 have eL:Y.env.locals=H2.objs.size:=by rw[eEnv];rfl
 have eX:Y.xe=fun _ _=>False:=by rw[←hY];rfl
 have eS:Y.s₀=s:=by rw[←hY];rfl
 have eEx:Y.ex=fp:=by rw[←hY];rfl
 have eFs:Y.fs=frs X.stack:=by rw[←hY];rfl
 have ePn:Y.pn=X.pn++pins:=by rw[←hY];rfl
 have eCl:∀x c,Y.env.cells.lookup x=some c->X.env.cells.lookup x=some c:=fun x c e=>by
  rw[eEnv] at e;exact S.cl I.ok e
 have cellLt:∀x c,Y.env.cells.lookup x=some c->c≠s.heap.objs.size:=fun x c e=>by
  obtain ⟨v,z⟩:=I.cell x c (eCl x c e);exact YB z.lt
 have pnLt:∀p∈Y.pn,p.1≠s.heap.objs.size:=fun p hp=>by
  rw[ePn] at hp;exact ZaC (I.pin p hp).1 (Yo _)
 have fpD:∀b∈fp,b≠s.heap.objs.size:=fun b hb=>by obtain ⟨o,e⟩:=hfo b hb;exact ZaC e (Yo _)
 have hDfs:s.heap.objs.size∉Y.fs:=fun z=>by
  rw[eFs] at z
  rcases Yg.mp (I.stkSub _ z) with z | z
  ·exact absurd I.lt (by rw[←z];exact Xo _)
  ·exact I.nofs (Yo _) z
 have stat:∀{H':Hp} {o:Obj},8e9->∀b∈fp,FpOk Y [(s.heap.objs.size,o)] H' b:=fun {H' o} hn b hb=>by
  obtain ⟨f0,f1,f2,f3,f4,f5⟩:=hf b hb
  obtain ⟨ob,e⟩:=hfo b hb
  refine ⟨hn b hb,by rw[eL];exact ZaC e hCle,fun z=>?_,.inl (by rw[eEx];exact hb),fun x c e=>f4 x c (eCl x c e),fun p hp=>?_⟩
  ·rw[eFs] at z
   rcases Yg.mp (I.stkSub _ z) with z | z
   ·exact f1 z
   ·exact f2 z
  ·rcases YE.mp hp with hp | hp
   ·rw[ePn] at hp;exact f5 p hp
   ·have:p=(s.heap.objs.size,o):=by simpa using hp
    rw[this];exact Xd (fpD b hb)
 have pinD:∀{σ':St} {H':Hp} {s':Shared} {its:3e4} {k:Nat},Inv Y [] σ' H' s'->H' s.heap.objs.size=none->s'.heap.get? s.heap.objs.size=some { cls:=.type "list",data:=.seq its.toArray k }->
   Inv Y [4e3] σ' H' s':=fun {σ' H' s' its k} i hn e=>i.pins_of fun p hp=>by
  have:p=4e3:=by simpa using hp
  subst this
  exact ⟨e,hn,by rw[eL];exact hDC,hDfs,fun v z=>by cases z⟩
 have T':Turn Y.prog Y.w Y.K tg J fp it tn:=by rw[ePr,eW,eK];exact T
 have run:∀s₃:Shared,s₃={ s with heap:=h₁,toks:=s.toks + ([]:List (Str×Value)).length }->
   XG 2e2 X.A (.compStart (.ListComp elt (⟨tg,iter,ifs,0⟩::gs) scope pos) 0 (.ref it) 11e0 (Vv scope 9e7 H2.objs.size X.env))
    (RR 11e0 H2.objs.size) s₃:=by
  rintro s₃ rfl
  rw[←eEnv,←ePr,←eW,←eA]
  refine runN (gens:=⟨tg,iter,ifs,0⟩::gs) (D:=s.heap.objs.size) eC eX hE (by rw[eL];exact hDC) hDfs (.inr (by rw[eS];exact Yo _)) cellLt pnLt rest 0 tg iter ifs g tt rfl hG hT hGs [] J it fp tn [] [] 0 (stIn vs fr σ) H _ _ _ (fun p hp=>(nomatch hp)) T' q (pinD J0 (I.hok.fresh (Yo _)) hacc) .nil (T.keep _ _ _ st fun b _ o e=>old b o e) (stat fun b hb=>(hf b hb).1) fun σ' ys its k H3 s4 J4 rv qn=>?_
  have pD4:=J4.pin (s.heap.objs.size,_) (Yd _ (Xc.mpr rfl))
  obtain ⟨m4,hm4,_⟩:=id J4.loc
  rw[eL] at hm4
  have nC:H3 H2.objs.size=none:=by rw[←eL];exact J4.free
  refine hRR _ _ _ s4 m4 (ZcS I hf (by rw[hY];exact J4) (Yo _) pD4.2.1 qn.1 rv pD4.1) (qn.2 _ pD4.2.1) hm4 ?_ hCle
  rw[Zao (Xd hDC)];exact nC
 exact run _ rfl
def tCompN (wi:TI)(vs:3e1)(fr:9e2)(g:TG)(tt:TT)(rest:List GT)(te:TE):TE:=fun σ H Q=>wi σ H fun J H1=>CompWN J vs fr g tt rest te σ H1 Q
theorem pe_compN {wi:TI}(S:8e4)(hc:10e2)(hi:PI X tg iter wi)
  (bG:14e5) (bT:12e8) (bR:∀C s₀ H₀ ex pn,GensOk 1e7 gs rest) (bE:∀C s₀ H₀ ex pn,PE 1e7 elt te)
  (hs:9e4:=by intro _;rfl):
  PE X (.ListComp elt (⟨tg,iter,ifs,0⟩::gs) scope pos) (tCompN wi vs fr g tt rest te):=by
 sleep 9
 rw[eval_ListComp]
 refine X1 (use:=none) rfl hs (ZbD (S.clos I.ok)) S.kind S.loc' (thn (hi pins s σ H _ I h) fun v s1 h1=>thn h1 fun itv s2 h2=>?_)
 obtain ⟨it,fp,tn,J,H2,e,I2,T,st2,f2,q2⟩:=h2
 subst e
 refine ZcR (RR:=fun acc C=>compPost 2e2 X.A X.xe none 12e2 acc C) S hc bG bT bR bE I2 T st2 f2 q2 ?_
 intro D C H' s' m' I' hq hn hC hle
 refine ⟨m',hn,fun h' hs'=>⟨.ref D,H',?_,rfl,hq⟩⟩
 refine I'.turned (t':=s'.toks) (fun b o hb e=>(hs'.2 b hb).trans e) hC ?_ (.inr (Yv I2.sz hle)) ?_ ?_
 ·exact XI (Ym I2.lt hle)
 ·intro x c e
  obtain ⟨v,z⟩:=I2.cell x c e
  exact YB (Ym z.lt hle)
 ·intro p hp
  exact ZaC (I2.pin p hp).1 hle
end
end L2
namespace Pu
open PySem PySem.Spec PySem.W PySem.Calls L2
open PyProof.Rows hiding St Fr strKind
open PySem.Builtin.Str (partsBetween occurrences strKind)
noncomputable def mNo:PSt->M PF:=fun _ _=>none
noncomputable def numS (i:Int):Str:=Wi (toString i)
theorem num_fits {i:Int}(h:i.natAbs.log2 < 1920):(numS i).length<=sizeLine:=int_text_fits h
section
variable {X:Cx}{e:Expr}{es:4e5}{f:2e7}{fs:2e3}{p pos:Pos}
def strH:List PV->Option PV
 | [.int i]=>if i.natAbs.log2 < 1920 then some (.str (numS i)) else none
 | [.str y]=>some (.str y)
 | _=>none
theorem call_strR:CallR X (.type "str") (fun xs H Q=>(∃i:Int,xs=[.int i]/\i.natAbs.log2 < 1920/\Q (.str (numS i)) H)\/∃y,xs=[.str y]/\Q (.str y) H):=by
 intro pins s σ H xs us Q I r h
 rcases h with ⟨i,rfl,hi,q⟩ | ⟨y,rfl,q⟩
 ·obtain ⟨u,rfl,t,rfl⟩:=Vals.one r
  exact P.str_of_int hi ⟨.str _,H,I.tok _,8e8,q⟩
 ·obtain ⟨u,rfl,t,rfl⟩:=Vals.one r
  exact P.str_of_str ⟨.str _,H,I,8e8,q⟩
theorem strc_ok:L1ok X.K (fun xs H Q=>(∃i:Int,xs=[.int i]/\i.natAbs.log2 < 1920/\Q (.str (numS i)) H)\/∃y,xs=[.str y]/\Q (.str y) H) strH:=by
 intro ι H C ps vs z Q cr ls e k
 unfold strH at e
 split at e
 ·split at e
  ·rename_i i hi
   cases e
   cases ls with
   | cons l t=>cases t;cases l;exact .inl ⟨_,rfl,hi,k _ H .refl cr (repS (num_fits hi))⟩
  ·cases e
 ·cases e
  cases ls with
  | cons l t=>cases t;cases l;exact .inr ⟨_,rfl,k _ H .refl cr (repS (by assumption))⟩
 ·cases e
noncomputable def intTH:List PV->Option PV
 | [.str x]=>if x.length<=640 then (Vz x).map .int else none
 | _=>none
theorem call_intR:CallR X (.type "int") (fun xs H Q=>∃x n,xs=[.str x]/\Vz x=some n/\x.length<=640/\Q (.int n) H):=by
 intro pins s σ H xs us Q I r h
 obtain ⟨x,n,rfl,hn,hl,q⟩:=h
 obtain ⟨u,rfl,t,rfl⟩:=Vals.one r
 exact KIN.call_text hn hl ⟨.int _,H,I.tok _,8e8,q⟩
theorem intT_ok:L1ok X.K (fun xs H Q=>∃x n,xs=[.str x]/\Vz x=some n/\x.length<=640/\Q (.int n) H) intTH:=by
 intro ι H C ps vs z Q cr ls e k
 unfold intTH at e
 split at e
 ·split at e
  ·rename_i x hx
   cases hn:Vz x with
   | none=>rw[hn] at e;cases e
   | some n=>
    rw[hn] at e;cases e
    cases ls with
    | cons l t=>cases t;cases l;exact ⟨_,_,rfl,hn,hx,k _ H .refl cr repI⟩
  ·cases e
 ·cases e
theorem split_at {prog:Yl}{w:World}{A:Around}{E:1e4}{s:Shared}{x y:Str}{t u:Tok}{Q:1e4}(hy:(y.length==0)=false)
  (h:∀l k,l.map (·.1)=Txt.split x y->Q 11e0 { s with heap:=s.heap.push { cls:=.type "list",data:=.seq (strValues l).toArray },toks:=k })
  (hsz:x.length + 2<=Yu):wpAny 4e1 A (call (.builtin "str.split") [.str x t,.str y u]) Q E s:=by
 have go:∀{S:Yy},Meets (Vm.«str.split» ⟨[.str x t,.str y u],[]⟩) S->S A (wants Q E) s->wpAny 4e1 A (call (.builtin "str.split") [.str x t,.str y u]) Q E s:=call_meets F.slot_str_split (typeIs_str _ _ _) F.entry_str_split (F.args_str_split_2 _ _)
 have itself:Txt.split x y=[x]->listOfItself x t A (wants Q E) s:=fun z=>h [(x,t)] s.toks z.symm
 by_cases far:(decide (x.length < y.length)||decide (strKind x < strKind y))=true
 ·exact go (meets_str_split_cannot_occur x y t u far) (itself (if_pos far))
 have near:(decide (x.length < y.length)||decide (strKind x < strKind y))=false:=W0.mpr far
 by_cases no:(occurrences x y 0 x.length (x.length + 1)).isEmpty=true
 ·exact go (meets_str_split_not_found x y t u near hy no) (itself ((if_neg far).trans (if_pos no)))
 have parts:Txt.split x y=partsBetween x (occurrences x y 0 x.length (x.length + 1)) y.length:=(if_neg far).trans (if_neg no)
 have few:(partsBetween x (occurrences x y 0 x.length (x.length + 1)) y.length).length<=sizeLine:=by
  rw[length_partsBetween]
  exact Yv (Nat.add_le_add_right (StrLaws.occ_length_le x y 0 x.length (x.length + 1)) 1) 4e0
 refine go (meets_str_split_sep x y t u near hy (W0.mpr no) 4e0 few) ?_
 have z:=h (numbered s.toks (partsBetween x (occurrences x y 0 x.length (x.length + 1)) y.length)) (s.toks + (partsBetween x (occurrences x y 0 x.length (x.length + 1)) y.length).length) ((numbered_texts _ _).trans parts.symm)
 rw[←strsFrom_eq] at z
 exact z
theorem vals_strs:∀l:List (Str×Tok),Vals ((l.map (·.1)).map V.str) (strValues l)
 | []=>.nil
 | p::r=>.cons 8e8 (vals_strs r)
theorem reps_strs {K:W.Frag}{ι:2e9}{H:Hp}:∀l:List Str,(∀a∈l,a.length<=Yu)->Reps K ι H (l.map PV.str) (l.map V.str)
 | [],_=>by unfold Reps;rfl
 | a::r,h=>by unfold Reps;exact ⟨_,_,rfl,repS (h a (.head _)),reps_strs r fun b hb=>h b (.tail _ hb)⟩
theorem split_few (x y:Str):(Txt.split x y).length<=x.length + 2:=by
 unfold Txt.split
 split
 ·simp
 ·split
  ·simp
  ·rw[length_partsBetween]
   have:=StrLaws.occ_length_le x y 0 x.length (x.length + 1)
   lia
def rSplit:V->List V->Hp->VK->Prop:=fun x xs H Q=>∃z y:Str,x=.str z/\xs=[.str y]/\(y.length==0)=false/\z.length<=100000/\∀p,H p=none->Q (.ref p) (upd H p (.lst ((Txt.split z y).map V.str)))
theorem mt_split:MtR X "str.split" rSplit:=by
 intro pins s σ H x xs v us Q I rx r h
 obtain ⟨z,y,rfl,rfl,hy,hz,q⟩:=h
 sleep 8
 obtain ⟨u,rfl,t',rfl⟩:=Vals.one r
 refine split_at hy (fun l k hl=>?_) (by rw[YU];lia)
 have e:=vals_strs l
 rw[hl] at e
 refine ⟨.ref _,_,I.laid (t':=k) (o:=.lst ((Txt.split z y).map V.str)) (fun b ob q=>Yc _ q) (Yo _) ⟨?_,_,0,e,Yt _ rfl⟩,rfl,q _ (I.hok.fresh (Yo _))⟩
 have:=split_few z y
 rw[YX,YU];lia
noncomputable def splitH:PV->List PV->Option PV
 | .str z,[.str y]=>if 1<=y.length/\z.length<=100000 then some (.lst ((Txt.split z y).map .str)) else none
 | _,_=>none
theorem split_ok:Mtok X.K rSplit splitH:=by
 intro ι H C q v ps vs z Q cr lq ls e k
 unfold splitH at e
 split at e
 ·split at e
  ·rename_i x y hy
   cases e
   cases ls with
   | cons l t=>
    cases t
    obtain ⟨rfl,hz⟩:=liesS lq
    obtain ⟨rfl,hy'⟩:=liesS l
    exact ⟨_,_,rfl,rfl,by have:=hy.1;simp;lia,hy.2,fun p hp=>k _ _ (.new hp) (cr.new hp) (ZbJ cr hp (reps_strs _ fun a ha=>Yv (part_short ha) hz))⟩
  ·cases e
 ·cases e
variable {o:Expr}{fo:2e7}{apos cpos:Pos}
def fmtH (C:Cs)(x:SV):Option SV:=match deref C x with
 | some (.int i)=>if i.natAbs.log2 < 1920 then some (.v (.str (numS i))) else none
 | some (.str y)=>some (.v (.str y))
 | _=>none
noncomputable def catS:Str->List SV->Option Str
 | out,[]=>some out
 | out,.v (.str y)::r=>if (out++y).length<=1000000 then catS (out++y) r else none
 | _,_=>none
def JM (X:Cx)(es:4e5)(fs:2e3):Prop:=∀(pins:1e8) (s:Shared) (σ:St) (H:Hp) (Q:VK) (out:Str),L2.Inv X pins σ H s->
 (∃ι ρ C xs C' z,SR X.K ι H ρ σ C/\fs ρ C=some (xs,C')/\catS out xs=some z/\out.length<=1000000/\∀H',Pu.Fr ι H H'->CR X.K ι H' C'->Rep X.K ι H' (.str z) (.str z)->Q (.str z) H')->
 wpAny 2e2 X.A (joinParts out (evalEach es X.env)) 12e2 X.xe s
noncomputable def mulTP (x y:PV):Option PV:=match x,y with
 | .str z,.int n=>if z.length<=1000/\n < 1000/\-1000 < n then some (.str (Txt.mul z n)) else none
 | _,_=>none
theorem mulT_list (z:Str)(n:Int):(Txt.mul z n).cps.toList=(YJ n.toNat z.cps.toList).flatten:=by
 unfold Txt.mul
 by_cases h:n < 1
 ·rw[if_pos h,show n.toNat=0 by lia];rfl
 ·rw[if_neg h]
  split
  ·rename_i h1
   rcases (V5 _ _).mp h1 with h1 | h1
   ·have:n=1:=by simpa using h1
    subst this;simp
   ·have h2:z.cps.toList=[]:=by
     have:z.cps.size=0:=by have:=of_decide_eq_true h1;exact this
     simpa[←YY] using this
    simp[h2]
  ·show ((YJ n.toNat z.cps).foldl (·++·) #[]).toList=_
   rw[ZcK];simp
theorem mulT_len (z:Str)(n:Int):(Txt.mul z n).length=n.toNat * z.length:=by
 show (Txt.mul z n).cps.size=_
 rw[←YY,mulT_list]
 simp[List.length_flatten]
 rfl
noncomputable def rMulT:R2:=fun x y H Q=>∃z n,x=.str z/\y=.int n/\z.length<=1000/\n < 1000/\-1000 < n/\Q (.str (Txt.mul z n)) H
theorem op_mulT:OpR X (X7 .Mult) rMulT:=by
 sleep 3
 obtain ⟨z,n,rfl,rfl,hz,h1,h2,q⟩:=h
 obtain ⟨t,rfl⟩:=(show ∃t,v=.str z t from rx)
 obtain ⟨t',rfl⟩:=(show ∃t,u=.int n t from ry)
 refine SB.mul ⟨?_,fun g _=>?_,fun g _=>?_⟩ fun t2 k=>⟨.str (Txt.mul z n),H,I.tok _,8e8,q⟩
 ·simp;lia
 ·have:(1000:Int)<=(2 ^ 63 - 1) / n:=by
   rw[Int.le_ediv_iff_mul_le 4e0];lia
  lia
 ·have:z.length * n.toNat<=1000 * 1000:=Nat.mul_le_mul hz 4e0
  exact decide_eq_false (Uc.mpr (Yv this (by rw[YU];lia)))
theorem mulT_ok:L2ok X.K rMulT mulTP:=by
 sleep 6
 unfold mulTP at e
 split at e
 ·split at e
  ·rename_i s n hc
   cases e
   obtain ⟨rfl,hs⟩:=liesS lx
   cases ly
   refine ⟨_,_,rfl,rfl,hc.1,hc.2.1,hc.2.2,k _ H .refl cr ?_⟩
   unfold Rep
   refine ⟨rfl,?_⟩
   have:n.toNat * s.length<=1000 * 1000:=Nat.mul_le_mul 4e0 hc.1
   rw[mulT_len,YU];lia
  ·cases e
 ·cases e
def rSlS:V->Option Int->Option Int->Hp->VK->Prop:=fun x lo hi H Q=>∃z:Str,x=.str z/\z.length<=Yu/\Q (.str (Txt.slice z lo hi)) H
theorem sl_str:SlR X rSlS:=by
 intro pins s σ H x v vl vu lo hi sl Q I rx hs pl pu h
 obtain ⟨z,rfl,hz,q⟩:=h
 obtain ⟨t,rfl⟩:=(show ∃t,v=.str z t from rx)
 refine ⟨"str",_,PySem.F.slot_str_getitem.lookup,typeIs_str _ _ _,?_⟩
 have k:∀(l u:Option (Int×Tok)),vl=partValue l->vu=partValue u->l.map (·.1)=lo->u.map (·.1)=hi->wpAny 2e2 X.A (VZ (.str z t) (.ref sl)) 12e2 X.xe s:=by
  rintro l u rfl rfl rfl rfl
  exact wpAny_getItem_str_slice (l:=l) (u:=u) (st:=none) hs rfl (post_val_or_str ⟨Yv (Txt.slice_le z _ _) hz,fun t' k=>⟨.str _,H,I.tok _,8e8,q⟩⟩)
 cases pl<;>cases pu
 ·exact k none none rfl rfl rfl rfl
 ·exact k none (some (_,_)) rfl rfl rfl rfl
 ·exact k (some (_,_)) none rfl rfl rfl rfl
 ·exact k (some (_,_)) (some (_,_)) rfl rfl rfl rfl
def sliceSD (C:Cs)(x:SV)(lo hi:Option Int):Option SV:=match deref C x with
 | some (.str z)=>some (.v (.str (Txt.slice z lo hi)))
 | _=>none
def mSliceS (f:2e7)(l h:PSt->M (Option Int)):PSt->M SV:=fun ρ=>bnd (f ρ) fun x=>bnd (l ρ) fun lo=>bnd (h ρ) fun hi=>opM fun C=>sliceSD C x lo hi
abbrev fdivWP:=intP (fun _ j=>decide (0 < j/\j < 2 ^ 200)) fun i j=>.int (i / j)
theorem op_fdivW:OpR X (X7 .FloorDiv) (rI (fun _ j=>0 < j/\j < 2 ^ 200) fun i j=>.int (i / j)):=opI fun i j _ _ _ _ _ hc q=>by
 have h1:(0:Int) < j:=hc.1
 have h2:j < 2 ^ 200:=hc.2
 refine floordiv_int 4e0 (by rw[Int.fdiv_eq_ediv_of_nonneg i 4e0];exact q) (.inl (PyProof.noPylong_of_log2 ?_))
 have:j.natAbs < 2 ^ 200:=by lia
 have h0:j.natAbs≠0:=by lia
 exact Nat.lt_trans ((Nat.log2_lt h0).mpr this) 2e6
end
end Pu
namespace Pu
open PySem PySem.Spec PySem.W PySem.Calls L2
open PyProof.Rows hiding St Fr
section
variable {X:Cx}{e o:Expr}{es:4e5}{f fo fa:2e7}{fs:2e3}{p pos apos cpos:Pos}
noncomputable def endsH:PV->List PV->Option PV
 | .str z,[.str y]=>some (.bl (Txt.endswith z y))
 | _,_=>none
def augS (C:Cs)(x y:SV):Option SV:=match x,deref C y with
 | .v (.str a),some (.str b)=>if a.length + b.length<=1000000 then some (.v (.str (a++b))) else none
 | _,_=>none
def rIns:V->List V->Hp->VK->Prop:=fun x vs H Q=>∃l xs n y,x=.ref l/\vs=[.int n,y]/\H l=some (.lst xs)/\0<=n/\n<=xs.length/\xs.length < 1000000/\Q .non (upd H l (.lst (xs.take n.toNat++y::xs.drop n.toNat)))
theorem mt_ins:MtM X "list.insert" rIns:=by
 intro pins s σ H x vs v us Q I rx rv h
 obtain ⟨l,xs,n,y,rfl,rfl,hH,h0,h1,hz,q⟩:=h
 cases rx
 cases rv with
 | cons ra rr=>
  cases rr with
  | cons rb rn=>
   cases rn
   obtain ⟨t,rfl⟩:=ra
   obtain ⟨z,its,m,r,hl,e⟩:=I.lstM hH
   refine call_meets PySem.F.slot_list_insert ⟨_,e,rfl⟩ PySem.F.entry_list_insert (PySem.F.args_list_insert_3 _ _ _) (PySem.AutoListH.list_insert_list_int_val_1 l its.toArray m n t _ ?_ (by rw[Yn];lia)) ⟨e,?_⟩
   ·unfold Builtin.List.listFitsIndex
    simp
    lia
   ·refine ⟨.non,_,I.lset (its':=its.take n.toNat++_::its.drop n.toNat) hH e ?_ ((r.take _).append (.cons rb (r.drop _))) ?_,rfl,q⟩
    ·have hk:min n.toNat its.length=n.toNat:=by lia
     simp only[if_neg (show ¬n < 0 by lia),Yn,hk]
     apply Array.toList_inj.mp
     simp
     exact Xw 3e2
    ·rw[YU];simp;lia
noncomputable def insC (x:SV)(ys:List SV):M SV:=fun C=>match x,ys with
 | .c k,[.v (.int n),.v p]=>match C[k]? with
  | some (.lst ps)=>if 0<=n/\n<=ps.length/\ps.length < 100000 then some (.v .non,C.set k (.lst (ps.take n.toNat++p::ps.drop n.toNat))) else none
  | _=>none
 | _,_=>none
theorem insC_some {x:SV}{ys:List SV}{C C2:Cs}{r:SV}(h:insC x ys C=some (r,C2)):∃k n p ps,x=.c k/\ys=[.v (.int n),.v p]/\C[k]? = some 13e6/\(0<=n/\n<=ps.length/\ps.length < 100000)/\r=.v .non/\C2=C.set k (.lst (ps.take n.toNat++p::ps.drop n.toNat)):=by
 unfold insC at h
 split at h
 ·split at h
  ·split at h
   ·cases h
    exact ⟨_,_,_,_,rfl,rfl,by assumption,by assumption,rfl,rfl⟩
   ·cases h
  ·cases h
 ·cases h
def mIns (fo:2e7)(fs:2e3):PSt->M SV:=fun ρ=>bnd (fo ρ) fun x=>bnd (isLst x) fun _=>bnd (fs ρ) fun ys=>insC x ys
end
end Pu
namespace Pu
open PySem PySem.Spec PySem.W PySem.Calls L2
open PyProof.Rows hiding St Fr
abbrev MG:=(PSt->M 6e1)×(PV->PSt->Option PSt)×(PSt->M Bool)
def cLoop (g:4e9)(tt:4e8)(f:PSt->List PV->M (PSt×List PV)):List PV->PSt->List PV->M (PSt×List PV)
 | [],ρ,ys=>ret (ρ,ys)
 | x::xs,ρ,ys=>match g x ρ with
  | none=>fun _=>none
  | some ρ1=>bnd (tt ρ1) fun b=>if b then bnd (f ρ1 ys) fun r=>cLoop g tt f xs r.1 r.2 else cLoop g tt f xs ρ1 ys
def cBody (te:2e7):List MG->PSt->List PV->M (PSt×List PV)
  | [],ρ,ys=>bnd (te ρ) fun y=>match y with
    | .v p=>if ys.length < 100000 then ret (ρ,ys++[p]) else fun _=>none
    | .c _=>fun _=>none
  | (it,g,tt)::rest,ρ,ys=>bnd (it ρ) fun xs=>cLoop g tt (cBody te rest) xs ρ ys
def gtOf (K:W.Frag)(m:MG):GT:=(tMI K m.1,tMG K m.2.1,tMB K m.2.2)
section
variable {K:W.Frag}{ι:2e9}
def NOk (K:W.Frag)(ι:2e9)(H0:Hp)(ρ:PSt)(ps:List PV)(C:Cs)(σ:St)(ys:List V)(H:Hp):Prop:=Fr ι H0 H/\SR K ι H ρ σ C/\Reps K ι H ps ys/\ps.length<=100000
theorem Zdl {g:4e9}{tt:4e8}{te:TE}{rest:List GT}{f:PSt->List PV->M (PSt×List PV)}
  (hf:∀(ρ:PSt) (ps:List PV) (C:Cs) (ρ':PSt) (ps':List PV) (C':Cs) (σ:St) (ys:List V) (H:Hp) (N:St->List V->Hp->Prop),f ρ ps C=some ((ρ',ps'),C')->SR K ι H ρ σ C->Reps K ι H ps ys->ps.length<=100000->(∀σ' ys' H',NOk K ι H ρ' ps' C' σ' ys' H'->N σ' ys' H')->CBody te rest ys σ H N)
  {J:It} {xs:List PV} {H1:Hp} {C C':Cs} {ρ ρ':PSt} {ps ps':List PV} {σ:St} {ys:List V} {N:St->List V->Hp->Prop} (it1:Iter K ι H1 xs J) (sr:SR K ι H1 ρ σ C) (rs:Reps K ι H1 ps ys) (hl:ps.length<=100000)
  (e:cLoop g tt f xs ρ ps C=some ((ρ',ps'),C')) (hN:∀σ' ys' H',NOk K ι H1 ρ' ps' C' σ' ys' H'->N σ' ys' H'):CLoop J (tMG K g) (tMB K tt) rest te ys σ H1 N:=by
 have x0:∀{H2:Hp},Fr ι H1 H2->Ex ι [] H1 H2:=fun f=>Ex.fr f
 have c0:∀{H2:Hp} {C2:Cs},CR K ι H2 C2->CR K (ι++[]) H2 C2:=fun c=>by rw[Yq];exact c
 refine ⟨fun i m σ2 ys2 H2=>∃ρ2 C2 ps2,m=xs.length - i/\i<=xs.length/\NOk K ι H1 ρ2 ps2 C2 σ2 ys2 H2/\cLoop g tt f (xs.drop i) ρ2 ps2 C2=some ((ρ',ps'),C'),⟨xs.length,ρ,C,ps,rfl,Wm _,⟨.refl,sr,rs,hl⟩,e⟩,?_⟩
 rintro i m σ2 ys2 H2 ⟨ρ2,C2,ps2,rfl,hi2,⟨f2,sr2,rs2,hps⟩,e2⟩
 rcases Y4 i xs.length with hlt | hge
 ·right
  refine ⟨it1.go [] H2 C2 (x0 f2) (c0 sr2.cr) i hlt,fun σ' ys' H'=>∃ρ2 C2 ps2,NOk K ι H1 ρ2 ps2 C2 σ' ys' H'/\cLoop g tt f (xs.drop (i + 1)) ρ2 ps2 C2=some ((ρ',ps'),C'),?_,?_⟩
  ·rintro σ' ys' H' ⟨ρ3,C3,ps3,n3,e3⟩
   exact ⟨xs.length - (i + 1),by lia,ρ3,C3,ps3,rfl,hlt,n3,e3⟩
  ·intro v H3 y
   obtain ⟨sm,qv,hq,rq⟩:=it1.yld [] H2 C2 (x0 f2) (c0 sr2.cr) i v H3 hlt y
   rw[Yq] at rq
   have hd:xs.drop i=qv::xs.drop (i + 1):=by
    rw[XU hlt]
    rw[Ye hlt] at hq
    rw[Yz hq]
   rw[hd] at e2
   unfold cLoop at e2
   cases hg1:g qv ρ2 with
   | none=>rw[hg1] at e2;cases e2
   | some ρ3=>
    rw[hg1] at e2
    obtain ⟨b,C3,e3,e4⟩:=Zag e2
    have fr3:Fr ι H2 H3:=fun b o _ z=>sm b o z
    have cr3:CR K ι H3 C2:=sr2.cr.same sm
    refine ⟨ι,ρ2,C2,qv,ρ3,sr2.step fr3 cr3,rq,hg1,fun σ4 sr4=>⟨ι,ρ3,C2,b,C3,sr4,e3,fun H5 f5 c5=>?_⟩⟩
    have f15:=f2.trans (fr3.trans f5)
    have rs5:Reps K ι H5 ps2 ys2:=Reps.mono cr3 f5 _ _ (Reps.mono sr2.cr fr3 _ _ rs2)
    have sr5:=sr4.step f5 c5
    cases b with
    | true=>
     rw[if_pos rfl] at e4
     dsimp only
     rw[if_pos rfl]
     obtain ⟨⟨ρ6,ps6⟩,C6,e6,e7⟩:=Zag e4
     exact hf _ _ _ _ _ _ _ _ _ _ e6 sr5 rs5 hps fun σ' ys' H' n'=>⟨ρ6,C6,ps6,⟨f15.trans n'.1,n'.2⟩,e7⟩
    | false=>
     rw[if_neg Yh] at e4
     dsimp only
     rw[if_neg Yh]
     exact ⟨ρ3,C3,ps2,⟨f15,sr5,rs5,hps⟩,e4⟩
 ·left
  have hi3:i=xs.length:=by lia
  subst hi3
  rw[VR] at e2
  unfold cLoop at e2
  have e2':some ((ρ2,ps2),C2)=some ((ρ',ps'),C'):=e2
  simp only[Option.some.injEq,Prod.mk.injEq] at e2'
  obtain ⟨⟨rfl,rfl⟩,rfl⟩:=e2'
  exact ⟨it1.stop [] H2 _ (x0 f2) (c0 sr2.cr),hN σ2 ys2 H2 ⟨f2,sr2,rs2,hps⟩⟩
theorem Zdn {te:2e7}:∀(rest:List MG) (ρ:PSt) (ps:List PV) (C:Cs) (ρ':PSt) (ps':List PV) (C':Cs) (σ:St) (ys:List V) (H:Hp) (N:St->List V->Hp->Prop),cBody te rest ρ ps C=some ((ρ',ps'),C')->SR K ι H ρ σ C->Reps K ι H ps ys->ps.length<=100000->(∀σ' ys' H',NOk K ι H ρ' ps' C' σ' ys' H'->N σ' ys' H')->CBody (tM K te) (rest.map (gtOf K)) ys σ H N
  | [],ρ,ps,C,ρ',ps',C',σ,ys,H,N,e,sr,rs,hl,hN=>by
    unfold cBody at e
    obtain ⟨y,C1,e1,e2⟩:=Zag e
    refine ⟨ι,ρ,C,y,C1,sr,e1,fun v H1 f1 c1 r1=>?_⟩
    cases y with
    | c k=>cases e2
    | v p=>
      by_cases hz:ps.length < 100000
      · replace e2:(if ps.length < 100000 then ret (ρ,ps++[p]) else fun _=>none) C1=some ((ρ',ps'),C'):=e2
        rw[if_pos hz] at e2
        cases e2
        exact ⟨by rw[←rs.length];exact k100000 hl,hN _ _ _ ⟨f1,8e5,(Reps.mono sr.cr f1 _ _ rs).append (.cons r1 .nil),by rw[Y3];simp;lia⟩⟩
      · replace e2:(if ps.length < 100000 then ret (ρ,ps++[p]) else fun _=>none) C1=some ((ρ',ps'),C'):=e2
        rw[if_neg hz] at e2;cases e2
  | (it,g,tt)::rest,ρ,ps,C,ρ',ps',C',σ,ys,H,N,e,sr,rs,hl,hN=>by
    unfold cBody at e
    obtain ⟨xs,C1,e1,e2⟩:=Zag e
    refine ⟨ι,ρ,C,xs,C1,sr,e1,fun J H1 f1 c1 it1=>?_⟩
    exact Zdl (Zdn rest) it1 (sr.step f1 c1) (Reps.mono sr.cr f1 _ _ rs) hl e2 fun σ' ys' H' n'=>hN σ' ys' H' ⟨f1.trans n'.1,n'.2⟩
end
end Pu
namespace Pu
open PySem PySem.Spec PySem.W PySem.Calls L2
open PyProof.Rows hiding St Fr
noncomputable def popC (x:SV)(ys:List SV):M SV:=fun C=>match x,ys with
 | .c k,[.v (.int n)]=>match C[k]? with
  | some (.lst ps)=>match ps[n.toNat]? with
   | some p=>if 0<=n/\ps.length < 100000 then some (.v p,C.set k (.lst (ps.take n.toNat++ps.drop (n.toNat + 1)))) else none
   | none=>none
  | _=>none
 | _,_=>none
theorem popC_some {x:SV}{ys:List SV}{C C2:Cs}{r:SV}(h:popC x ys C=some (r,C2)):∃k n p ps,x=.c k/\ys=[.v (.int n)]/\C[k]? = some 13e6/\ps[n.toNat]? = some p/\(0<=n/\ps.length < 100000)/\r=.v p/\C2=C.set k (.lst (ps.take n.toNat++ps.drop (n.toNat + 1))):=by
 unfold popC at h
 split at h
 ·split at h
  ·split at h
   ·split at h
    ·cases h
     exact ⟨_,_,_,_,rfl,rfl,by assumption,by assumption,by assumption,rfl,rfl⟩
    ·cases h
   ·cases h
  ·cases h
 ·cases h
def mPop (fo:2e7)(fs:2e3):PSt->M SV:=fun ρ=>bnd (fo ρ) fun x=>bnd (isLst x) fun _=>bnd (fs ρ) fun ys=>popC x ys
end Pu
namespace L2
open PySem PySem.Spec PySem.W PySem.Calls
open PyProof.Rows hiding St Fr
section
variable {X:Cx}{tg elt iter:Expr}{ifs:4e5}{gs:List WO}{scope:Scope}{pos:Pos}{vs fs:3e1}{fr:9e2}{g:TG}{tt:TT}{te:TE}{rest:List GT}
theorem ps_compN {wi:TI}{i:Nat}{x:Str}{px spos:Pos}(hN:X.N.Nodup)(hx:7e9)(hl:11e4)
  (S:8e4) (hc:10e2) (hi:PI X tg iter wi)
  (bG:14e5) (bT:12e8) (bR:∀C s₀ H₀ ex pn,GensOk 1e7 gs rest) (bE:∀C s₀ H₀ ex pn,PE 1e7 elt te)
  (hsw:Xg (.ListComp elt (⟨tg,iter,ifs,0⟩::gs) scope pos) (some (.Name x px)) spos.line X.env=pure true:=by rfl)
  (hs:9e4:=by intro _;rfl):
  PS X (.Assign [.Name x px] (.ListComp elt (⟨tg,iter,ifs,0⟩::gs) scope pos) spos) (fun D σ H=>tCompN wi vs fr g tt rest te σ H fun v H1=>D.nx (σ.set i (some v)) H1):=by
 intro pins s σ H D I h
 rw[W5 _ _ _ _ hsw]
 refine Yb (Xx (Yb ?_))
 show wpAny _ X.A (do let _ ←comprehension (.ListComp elt (⟨tg,iter,ifs,0⟩::gs) scope pos) scope X.env _ (newList []) false (eval iter X.env) (some 11e9)) _ _ s
 refine Yb (YK (X1 (use:=some 11e9) (Q:=fun _ s'=>SP X pins D .next s') rfl hs (ZbD (S.clos I.ok)) S.kind S.loc'
  (thn (hi pins s σ H _ I h) fun v s1 h1=>thn h1 fun itv s2 h2=>?_)) (fun _ s' hq=>Yk (Yk hq)) fun _ _ e=>e)
 obtain ⟨it,fp,tn,J,H2,e,I2,T,st2,f2,q2⟩:=h2
 subst e
 refine ZcR (RR:=fun acc C=>compPost 2e2 X.A X.xe (some 11e9) (fun _ s'=>SP X pins D .next s') acc C) (Q:=fun v H1=>D.nx (σ.set i (some v)) H1) S hc bG bT bR bE I2 T st2 f2 q2 ?_
 intro Dd C H' s' m' I' hq hn hC hle
 show wpAny _ X.A (assign (.Name x px) X.env (.ref Dd)) _ _ _
 have hCL:C≠X.env.locals:=XI (Ym I2.lt hle)
 have hCc:∀x c,X.env.cells.lookup x=some c->c≠C:=fun x c e=>by
  obtain ⟨v,z⟩:=I2.cell x c e
  exact YB (Ym z.lt hle)
 refine WX (ZbQ I' hN hx (.inl hl) (v:=.ref Dd) rfl (fun s'' I'' hch=>?_) (.inr hl))
 obtain ⟨a,hs'',ha⟩:=hch
 have hCa:C≠a:=by
  rcases ha with rfl | ha
  ·exact hCL
  ·exact Xd (hCc x a ha)
 refine ⟨m',hn.sameBut hs'' hCa,fun h' hs'=>⟨σ.set i (some (.ref Dd)),H',?_,hq⟩⟩
 refine I''.turned (t':=s''.toks) (fun b o hb e=>(hs'.2 b hb).trans e) hC hCL (.inr (Yv I2.sz hle)) hCc ?_
 intro p hp
 exact ZaC (I2.pin p hp).1 hle
end
end L2
namespace Pu
open PySem PySem.Spec PySem.W PySem.Calls L2
open PyProof.Rows hiding St Fr
theorem compL_N {g:4e9}{tt:4e8}{te:2e7}:∀(xs:List PV) (ρ:PSt) (ys:List PV) (C:Cs) (r:List PV×Cs),ys.length + xs.length<=100000->compL g tt te xs ρ ys C=some r->bnd (cLoop g tt (cBody te []) xs ρ ys) (fun r=>ret r.2) C=some r
 | [],ρ,ys,C,r,_,e=>e
 | x::xs,ρ,ys,C,r,h,e=>by
  unfold compL at e
  unfold cLoop
  rw[YD] at h
  cases hg:g x ρ with
  | none=>rw[hg] at e;cases e
  | some ρ1=>
   rw[hg] at e
   obtain ⟨b,C1,e1,e2⟩:=Zag e
   cases b with
   | false=>
    have:=compL_N xs ρ1 ys C1 r 4e0 e2
    simp only[bnd,e1] at this ⊢
    exact this
   | true=>
    obtain ⟨y,C2,e3,e4⟩:=Zag e2
    cases y with
    | c k=>cases e4
    | v p=>
     have:=compL_N xs ρ1 (ys++[p]) C2 r (by simp;lia) e4
     have hy:ys.length < 100000:=by lia
     simp only[bnd,e1,e3,cBody,hy,ret,if_true] at this ⊢
     exact this
section
variable {X:Cx}{tg elt iter:Expr}{ifs:4e5}{x:Str}{scope:Scope}{pos:Pos}{vs fs:3e1}{fr:9e2}{it:11e5}{g:4e9}{tt:4e8}{te:2e7}
theorem Zdk {K:W.Frag}{σ:St}{H:Hp}{Q:VK}{ι:2e9}{ρ:PSt}{C C':Cs}{res:List PV}(sr:SR K ι H ρ σ C)
  (e:mComp it vs fr g tt te ρ C=some (res,C')) (q:∀p vs H',Fr ι H H'->CR K ι H' C'->H' p=none->Reps K ι H' res vs->Q (.ref p) (upd H' p (.lst vs))):tCompN (tMI K it) vs fr (tMG K g) (tMB K tt) [] (tM K te) σ H Q:=by
 obtain ⟨xs,C1,e1,e2⟩:=Zag e
 by_cases hl:xs.length<=100000
 ·rw[if_pos hl] at e2
  obtain ⟨⟨ρ',ps'⟩,C2,e3,e4⟩:=Zag (compL_N xs _ [] C1 _ (by simpa using hl) e2)
  cases e4
  refine ⟨ι,ρ,C,xs,C1,sr,e1,fun J H1 f1 c1 it1=>?_⟩
  exact Zdl (Zdn []) it1 ((sr.step f1 c1).block vs fr) .nil 3e2 e3 fun σ' ys' H' n'=>⟨by rw[←n'.2.2.1.length];exact k100000 n'.2.2.2,fun D hD=>q D ys' H' (f1.trans n'.1) n'.2.1.cr hD n'.2.2.1⟩
 ·rw[if_neg hl] at e2;cases e2
end
end Pu
namespace Pu
open PySem PySem.Spec L2
open PyProof.Rows hiding St
section
variable {X:Cx}{o1 i1 o2 i2 a b:Expr}{f1 g1 f2 g2:2e7}{fs:2e3}{pos p1 p2 pt pt2:Pos}{kt k2}
def mSetV (v:SV)(fo fi:2e7):PSt->M PF:=fun ρ=>bnd (fo ρ) fun o=>bnd (fi ρ) fun i=>setC v o i ρ
theorem Zcr {K:W.Frag}{fo fi:2e7}{v:SV}{x:V}{ι:2e9}{H:Hp}{ρ:PSt}{σ:St}{C C':Cs}{fl:PF}{Q:St->Hp->Prop}(sr:SR K ι H ρ σ C)(r:RepS K ι H v x)(e:mSetV v fo fi ρ C=some (fl,C'))
  (q:∀H',Fr ι H H'->CR K ι H' C'->Q σ H'):fl=.nx ρ/\gSub (tM K fo) (tM K fi) rSetL x σ H Q:=by
 obtain ⟨o,C2,e2,h2⟩:=Zag e
 obtain ⟨i,C3,e3,h3⟩:=Zag h2
 obtain ⟨k,n,p',ps,j,ho,hi,hv,hc,hj,hf,hC⟩:=setC_some h3
 clear e h2 h3
 subst ho hi hv hf hC
 refine ⟨rfl,ι,ρ,C,_,C2,sr,e2,fun y H2 f2 c2 r2=>⟨ι,ρ,C2,_,C3,sr.step f2 c2,e3,fun w H3 f3 c3 r3=>?_⟩⟩
 obtain ⟨a,rfl,hk⟩:=r2
 have r3:w=.int n:=by unfold RepS Rep at r3;exact r3
 obtain ⟨vs,h1,rv⟩:=Zbe c3 hk hc
 have r1':Rep K ι H3 p' x:=Rep.mono c2 f3 _ _ (Rep.mono sr.cr f2 _ _ r)
 obtain ⟨c4,f4⟩:=cr_set c3 hk (rv.set j r1')
 exact ⟨a,vs,n,j,rfl,r3,h1,by rw[←rv.length];exact hj,q _ (f2.trans (f3.trans f4)) c4⟩
def mSwap (fs:2e3)(f1 g1 f2 g2:2e7):PSt->M PF:=fun ρ=>bnd (fs ρ) fun xs=>match xs with
 | [x,y]=>bnd (mSetV x f1 g1 ρ) fun _=>mSetV y f2 g2 ρ
 | _=>fun _=>none
end
noncomputable def mDefG (n pad:Nat)(body:9e3):List SV->M 6e1:=fun ss C=>if ss.length=n then (match body (ss.map some++YJ pad none) C with
 | some (.rt (.c k),C')=>if k < C.length then none else match C'[k]? with
  | some (.lst ps)=>some (ps,C'.take C.length)
  | _=>none
 | _=>none) else none
theorem lose_cell {K:W.Frag}{ι ι2:2e9}{H:Hp}{C:Cs}{k:Nat}{a:Addr}{ps:List PV}(c:CR K 8e6 H C)(hk:(ι++ι2)[k]? = some a)(hC:C[k]? = some 13e6)(hn:ι.length<=k):
  ∃vs Hx,H=upd Hx a (.lst vs)/\Hx a=none/\CR K ι Hx (C.take ι.length)/\Reps K ι Hx ps vs/\∀b o,b≠a->H b=some o->Hx b=some o:=by
 obtain ⟨vs,h1,rv⟩:=c.ok k a _ hk hC
 have nd:=c.nd
 have hai:a∉ι:=fun z=>by
  obtain ⟨j,hj,ej⟩:=Wy z
  have hjk:(ι++ι2)[j]? = some a:=by rw[Yx hj,Ye hj,ej]
  have e1:=(YC.mp hjk)
  have e2:=(YC.mp hk)
  have:=(W9 nd).mp (e1.2.trans e2.2.symm)
  lia
 have sm:∀b o,b≠a->H b=some o->(fun b=>if b=a then none else H b) b=some o:=fun b o hb z=>by
  show (if b=a then none else H b)=some o
  rw[if_neg hb];exact z
 have tr:∀b o,b∉ι++ι2->H b=some o->b∉ι/\(fun b=>if b=a then none else H b) b=some o:=fun b o hb z=>⟨fun q=>hb (YH _ q),sm b o (fun q=>hb (by rw[q];exact Y9 hk)) z⟩
 refine ⟨vs,fun b=>if b=a then none else H b,?_,by simp,?_,Reps.tr c tr _ _ rv,sm⟩
 ·funext b
  unfold upd
  by_cases hb:b=a
  ·rw[if_pos hb,hb,h1]
  ·rw[if_neg hb];dsimp only;rw[if_neg hb]
 ·have hlen:(ι++ι2).length=C.length:=c.len
  rw[Y3] at hlen
  refine ⟨by rw[Xr];lia,(VE.mp nd).1,fun j b d e1 e2=>?_⟩
  have hj:j < ι.length:=by
   rcases Y4 j ι.length with q | q
   ·exact q
   ·rw[YF.mpr q] at e1;cases e1
  rw[Xy hj] at e2
  have hb:b≠a:=fun z=>hai (z ▸ Y9 e1)
  have ok:=c.ok j b d (by rw[Yx hj];exact e1) e2
  cases d with
  | lst ps=>obtain ⟨vs,e,r⟩:=ok;exact ⟨vs,sm _ _ hb e,Reps.tr c tr _ _ r⟩
  | dct ks ps=>obtain ⟨qs,vs,e,hl,hk,r⟩:=ok;exact ⟨qs,vs,sm _ _ hb e,hl,hk,Reps.tr c tr _ _ r⟩
  | dtt ks ps=>obtain ⟨vs,e,hl,r⟩:=ok;exact ⟨vs,sm _ _ hb e,hl,Reps.tr c tr _ _ r⟩
  | _=>exact ok.elim
end Pu
namespace Pu
open PySem PySem.Spec L2
open PyProof.Rows hiding St Fr
@[irreducible] def QEM (X:Cx) (e:Expr) (f:2e7):Prop:=EM X e f
theorem QEM_eq:@QEM=@EM:=by unfold QEM;rfl
@[irreducible] def QAM (X:Cx) (es:4e5) (f:2e3):Prop:=AM X es f
theorem QAM_eq:@QAM=@AM:=by unfold QAM;rfl
@[irreducible] def QTMt (X:Cx) (e:Expr) (f:4e8):Prop:=TMt X e f
theorem QTMt_eq:@QTMt=@TMt:=by unfold QTMt;rfl
@[irreducible] def QWM (X:Cx) (e:Expr) (f:4e8):Prop:=WM X e f
theorem QWM_eq:@QWM=@WM:=by unfold QWM;rfl
@[irreducible] def QFM (X:Cx) (e:Expr) (f:11e5):Prop:=FM X e f
theorem QFM_eq:@QFM=@FM:=by unfold QFM;rfl
@[irreducible] def QSM (X:Cx) (st:Stmt) (f:9e3):Prop:=SM X st f
theorem QSM_eq:@QSM=@SM:=by unfold QSM;rfl
@[irreducible] def QBM (X:Cx) (sts:List Stmt) (f:9e3):Prop:=BM X sts f
theorem QBM_eq:@QBM=@BM:=by unfold QBM;rfl
@[irreducible] def QGM (X:Cx) (tg:Expr) (g:4e9):Prop:=GM X tg g
theorem QGM_eq:@QGM=@GM:=by unfold QGM;rfl
@[irreducible] def QGMs (X:Cx) (ts:4e5) (g:List PV->PSt->Option PSt):Prop:=GMs X ts g
theorem QGMs_eq:@QGMs=@GMs:=by unfold QGMs;rfl
@[irreducible] def QIM (X:Cx) (tg iter:Expr) (f:11e5):Prop:=IM X tg iter f
theorem QIM_eq:@QIM=@IM:=by unfold QIM;rfl
@[irreducible] def QTsM (X:Cx) (ifs:4e5) (t:4e8):Prop:=TsM X ifs t
theorem QTsM_eq:@QTsM=@TsM:=by unfold QTsM;rfl
@[irreducible] def QOM (X:Cx) (e:Option Expr) (f:PSt->M (Option Int)):Prop:=OM X e f
theorem QOM_eq:@QOM=@OM:=by unfold QOM;rfl
@[irreducible] def QDM (X:Cx) (ks:List (Option Expr)) (es:4e5) (keys:3e1) (f:2e3):Prop:=DM X ks es keys f
theorem QDM_eq:@QDM=@DM:=by unfold QDM;rfl
@[irreducible] def QJM (X:Cx) (es:4e5) (fs:2e3):Prop:=JM X es fs
theorem QJM_eq:@QJM=@JM:=by unfold QJM;rfl
end Pu
local macro_rules
 | `(tactic| subst_eqs)=>`(tactic| simp only[Pu.QEM_eq,Pu.QAM_eq,Pu.QTMt_eq,Pu.QWM_eq,Pu.QFM_eq,Pu.QSM_eq,Pu.QBM_eq,Pu.QGM_eq,Pu.QGMs_eq,Pu.QIM_eq,Pu.QTsM_eq,Pu.QOM_eq,Pu.QDM_eq,Pu.QJM_eq] at *)
namespace Pu
open PySem PySem.Spec L2
open PyProof.Rows hiding St
theorem Zbp {X:Cx}{e:Expr}{f:4e8}(h:QWM X e f):QTMt X e f:=by
 subst_eqs
 exact h _
section
variable {X:Cx}{a b e c:Expr}{es:4e5}{fa fb fc:2e7}{pos p:Pos}{x:Str}
theorem Zab (i:Nat){x:Str}{pos:Pos}(hN:7e9:=by rfl)(hv:Vis X.env.scope x:=by first | exact Or.inl rfl | exact Or.inr 3e6 | exact Or.inr (Or.inr rfl))(hd:2e8:=by decide)
  (hcd:(x==("__classdict__":Str))=false:=by decide):QEM X (.Name x pos) (mVar i):=by
 subst_eqs;apply @em_var<;>assumption
theorem Zad {i j pos}:QEM X (.Constant (.int i) j pos) (mC (.int i)):=by
 subst_eqs
 exact Zbd pe_int fun ι H=>by unfold Rep;rfl
theorem Zbt {i j pos}:QEM X (.Constant (.bool i) j pos) (mC (.bl i)):=by
 subst_eqs
 exact Zbd pe_bl fun ι H=>by unfold Rep;rfl
theorem ZaQ {j pos}:QEM X (.Constant .none j pos) (mC .non):=by
 subst_eqs
 exact Zbd pe_non fun ι H=>by unfold Rep;rfl
theorem Zae {i j pos}(h:i.length<=sizeLine:=by decide +kernel):QEM X (.Constant (.str i) j pos) (mC (.str i)):=by
 subst_eqs
 exact Zbd pe_str fun ι H=>by unfold Rep;exact ⟨rfl,h⟩
theorem Zc7 {i:Int}(hg:Gl X x)(hm:∃t,X.mg x=some (.int i t))(hd:2e8:=by decide):QEM X (.Name x pos) (mC (.int i)):=by
 subst_eqs
 obtain ⟨t,hm⟩:=hm
 exact Zbd (ZbI (v:=.int i) hg hm 8e8 hd) fun ι H=>by unfold Rep;rfl
theorem Zc6 {i:Str}(hg:Gl X x)(hm:∃t,X.mg x=some (.str i t))(h:i.length<=sizeLine:=by decide +kernel)(hd:2e8:=by decide):QEM X (.Name x pos) (mC (.str i)):=by
 subst_eqs
 obtain ⟨t,hm⟩:=hm
 exact Zbd (ZbI (v:=.str i) hg hm 8e8 hd) fun ι H=>by unfold Rep;exact ⟨rfl,h⟩
theorem ZaV {n:String}(hg:Gl X x)(hm:X.mg x=none)(hv:YZ x=some (.type n))(hn:x≠"__name__":=by decide)(hd:2e8:=by decide):QEM X (.Name x pos) (mC (.ty n)):=by
 subst_eqs
 exact Zbd (pe_bltn (v:=.ty n) hg hm hv rfl hn hd) fun ι H=>by unfold Rep;rfl
theorem Zax {op:CmpOp}{r:R2}{g:9e8}(ho:OpR X (YW op) r)(hg:R2ok X.K r g)(ha:QEM X a fa)(hb:QEM X b fb)(hm:WE op b=false):QEM X (.Compare a [op] [b] pos) (mOp g fa fb):=by
 subst_eqs
 exact PE.imp (pe_cmpR ho ha hb hm) fun _ _ _ h=>tM_op hg h
theorem Zc8 {op op':CmpOp}{r r':R2}{g g':9e8}(ho:OpR X (YW op) r)(ho':OpR X (YW op') r')(hg:R2ok X.K r g)(hg':R2ok X.K r' g')(ha:QEM X a fa)(hb:QEM X b fb)(hc:QEM X c fc)
  (hm:lastMarks [op,op'] [b,c]=false:=by with_unfolding_all rfl):QEM X (.Compare a [op,op'] [b,c] pos) (mChain g g' fa fb fc):=by
 subst_eqs
 exact PE.imp (pe_chain ho ho' ha hb hc hm) fun _ _ _ h=>tM_chain hg hg' h
theorem Zan {op:CmpOp}{r:R2}{g:9e8}(ho:OpR X (YW op) r)(hg:R2ok X.K r g)(ha:QEM X a fa)(hb:QEM X b fb)(hm:WE op b=false):QTMt X (.Compare a [op] [b] pos) (mTest (mOp g fa fb)):=by
 subst_eqs
 exact PT.imp (pt_cmpR ho ha hb hm) fun σ H Q h=>by
    obtain ⟨ι,ρ,C,x,C',sr,e,q⟩:=tM_test h
    exact tM_op hg ⟨ι,ρ,C,x,C',sr,e,q⟩
theorem Zc4 {op op':CmpOp}{r r':R2}{g g':9e8}(ho:OpR X (YW op) r)(ho':OpR X (YW op') r')(hg:R2ok X.K r g)(hg':R2ok X.K r' g')(ha:QEM X a fa)(hb:QEM X b fb)(hc:QEM X c fc)
  (hm:lastMarks [op,op'] [b,c]=false:=by with_unfolding_all rfl):QTMt X (.Compare a [op,op'] [b,c] pos) (mTest (mChain g g' fa fb fc)):=by
 subst_eqs
 exact PT.imp (pt_chain ho ho' ha hb hc hm) fun σ H Q h=>by
    obtain ⟨ι,ρ,C,x,C',sr,e,q⟩:=tM_test h
    exact tM_chain hg hg' ⟨ι,ρ,C,x,C',sr,e,q⟩
theorem ZaI (ha:QEM X a fa)(he:∀whole,isTrue a X.env whole=(do let v ←whole;VW a.pos;WY [v] (truthy v)):=by intro _;rfl):QTMt X a (mTru fa):=by
 subst_eqs
 exact PT.imp (Zcj ha he) fun σ H Q h=>by
    sleep 1
    obtain ⟨e2,rfl⟩:=ZaF e
    refine ⟨ι,ρ,C,x,C',sr,e1,fun v H1 f1 c1 r1=>⟨z,?_,q H1 f1 c1⟩⟩
    cases hd:deref C' x with
    | none=>rw[hd] at e2;cases e2
    | some p=>rw[hd] at e2;exact (r1.lies c1 hd).tru e2
theorem ZaW {f:4e8}(h:QTMt X a f):QTMt X (.UnaryOp .Not a pos) (mNotT f):=by
 subst_eqs
 exact PT.imp (pt_not h) fun σ H Q h=>by
   sleep 1
   cases e
   exact ⟨ι,ρ,C,x,_,sr,e1,fun H1 f1 c1=>q H1 f1 c1⟩
theorem Zbs {f:4e8}(h:QTMt X a f):QWM X (.BoolOp .And [a] pos) f:=by
 subst_eqs
 exact pw_and1 h
theorem Zbn {f:4e8}(h:QTMt X a f):QWM X (.BoolOp .Or [a] pos) f:=by
 subst_eqs
 exact pw_or1 h
theorem ZbU {rest:4e5}{f g:4e8}(h:QTMt X a f)(k:QWM X (.BoolOp .And (b::rest) pos) g):QWM X (.BoolOp .And (a::b::rest) pos) (mAndT f g):=by
 subst_eqs
 exact PW.imp (pw_and h k) fun σ H Q h=>by
   sleep 1
   refine ⟨ι,ρ,C,x,C1,sr,e1,fun H1 f1 c1=>?_⟩
   cases x with
   | true=>rw[if_pos rfl] at e ⊢;exact ⟨ι,ρ,C1,z,C',8e5,e,fun H2 f2 c2=>q H2 (f1.trans f2) c2⟩
   | false=>rw[if_neg Yh] at e ⊢;cases e;exact q H1 f1 c1
theorem Zbf {rest:4e5}{f g:4e8}(h:QTMt X a f)(k:QWM X (.BoolOp .Or (b::rest) pos) g):QWM X (.BoolOp .Or (a::b::rest) pos) (mOrT f g):=by
 subst_eqs
 exact PW.imp (pw_or h k) fun σ H Q h=>by
   sleep 1
   refine ⟨ι,ρ,C,x,C1,sr,e1,fun H1 f1 c1=>?_⟩
   cases x with
   | true=>rw[if_pos rfl] at e ⊢;cases e;exact q H1 f1 c1
   | false=>rw[if_neg Yh] at e ⊢;exact ⟨ι,ρ,C1,z,C',8e5,e,fun H2 f2 c2=>q H2 (f1.trans f2) c2⟩
theorem ZaU {op}{f:2e7}(h:QEM X a f):QEM X (.BoolOp op [a] pos) f:=by
 subst_eqs
 exact pe_one h
theorem Zay {rest:4e5}{f g:2e7}(h:QEM X a f)(k:QEM X (.BoolOp .And (b::rest) pos) g):QEM X (.BoolOp .And (a::b::rest) pos) (mAndV f g):=by
 subst_eqs
 exact PE.imp (pe_and h k) fun σ H Q h=>by
   sleep 1
   obtain ⟨k,C2,e2,e3⟩:=Zag e
   obtain ⟨hx,hC⟩:=ZcF e2
   subst hx hC
   clear e e2
   have e:=e3
   refine ⟨ι,ρ,C,_,C2,sr,e1,fun v H1 f1 c1 r1=>⟨k,repB r1,?_⟩⟩
   cases k with
   | true=>rw[if_pos rfl] at e ⊢;exact ⟨ι,ρ,C2,z,C',8e5,e,fun v' H2 f2 c2 r2=>q v' H2 (f1.trans f2) c2 r2⟩
   | false=>rw[if_neg Yh] at e ⊢;cases e;exact q _ H1 f1 c1 repB'
theorem q_em_or {rest:4e5}{f g:2e7}(h:QEM X a f)(k:QEM X (.BoolOp .Or (b::rest) pos) g):QEM X (.BoolOp .Or (a::b::rest) pos) (mOrV f g):=by
 subst_eqs
 exact PE.imp (pe_or h k) fun σ H Q h=>by
   sleep 1
   obtain ⟨k,C2,e2,e3⟩:=Zag e
   obtain ⟨hx,hC⟩:=ZcF e2
   subst hx hC
   clear e e2
   have e:=e3
   refine ⟨ι,ρ,C,_,C2,sr,e1,fun v H1 f1 c1 r1=>⟨k,repB r1,?_⟩⟩
   cases k with
   | false=>rw[if_neg Yh] at e ⊢;exact ⟨ι,ρ,C2,z,C',8e5,e,fun v' H2 f2 c2 r2=>q v' H2 (f1.trans f2) c2 r2⟩
   | true=>rw[if_pos rfl] at e ⊢;cases e;exact q _ H1 f1 c1 repB'
theorem q_em_not {f:2e7}(h:QEM X a f):QEM X (.UnaryOp .Not a pos) (mNotV f):=by
 subst_eqs
 exact PE.imp (pe_not h) fun σ H Q h=>by
   sleep 1
   obtain ⟨k,C2,e2,e3⟩:=Zag e
   obtain ⟨hx,hC⟩:=ZcF e2
   subst hx hC
   clear e e2
   have e:=e3
   refine ⟨ι,ρ,C,_,C2,sr,e1,fun v H1 f1 c1 r1=>⟨k,repB r1,?_⟩⟩
   cases e
   exact q _ H1 f1 c1 repB'
theorem ZcA {t:4e8}{f g:2e7}(hc:QTMt X c t)(h:QEM X a f)(k:QEM X b g):QEM X (.IfExp c a b pos) (mIf t f g):=by
 subst_eqs
 exact PE.imp (pe_ifExp hc h k) fun σ H Q h=>by
   sleep 1
   refine ⟨ι,ρ,C,x,C1,sr,e1,fun H1 f1 c1=>?_⟩
   cases x with
   | true=>rw[if_pos rfl] at e ⊢;exact ⟨ι,ρ,C1,z,C',8e5,e,fun v H2 f2 c2 r2=>q v H2 (f1.trans f2) c2 r2⟩
   | false=>rw[if_neg Yh] at e ⊢;exact ⟨ι,ρ,C1,z,C',8e5,e,fun v H2 f2 c2 r2=>q v H2 (f1.trans f2) c2 r2⟩
theorem Zac:QAM X [] aNil:=by
 subst_eqs;apply @am_nil<;>assumption
theorem Zaa {f:2e7}{g:2e3}(h:QEM X e f)(k:QAM X es g)(hs:1e2:=by rfl):QAM X 4e6 (aCons f g):=by
 subst_eqs;apply @am_cons<;>assumption
theorem Zaf {k:Nat}{f:Addr}{fd:Yj}{ps:3e1}{F:List SV->M SV}{fs:2e3}(G:FnOk X.prog X.w X.K X.mg X.base CX0 k f fd ps (liftSp X.K F))(hr:Room k X.A)(hg:Gl X x)(hm:X.mg x=some (.ref f))(hk:Yp X.K (.ref f)=true)(hb:Binds X.K fd ps [])
  (ha:13e3) (hdb:2e8:=by decide) (he:1e2:=by rfl) (hpl:3e0:=by rfl):
  QEM X 10e0 (mFn F fs):=by
 subst_eqs
 exact PE.imp (pe_call G hr hg hm hk hb .nil pass0 ha hdb he hpl) fun σ H Q h=>by
   obtain ⟨ι,ρ,C,z,C',sr,e,q⟩:=h
   obtain ⟨xs,C1,e1,e⟩:=Zag e
   refine ⟨ι,ρ,C,xs,C1,sr,e1,fun vs H1 f1 c1 r1=>?_⟩
   show liftSp X.K F (vs++[]) H1 Q E0
   rw[Yq]
   exact ⟨ι,xs,C1,z,C',c1,r1,e,fun v H2 f2 c2 r2=>q v H2 (f1.trans f2) c2 r2⟩
end
section
variable {X:Cx}{a b e c tg:Expr}{es:4e5}{st:Stmt}{rest sts sts':List Stmt}{f g:9e3}{pos p pos':Pos}{x:Str}
theorem Zaw:QBM X [] mSkip:=by
 subst_eqs
 exact PSs.imp pss_nil fun D σ H h_=>by obtain ⟨ι,ρ,C,fl,C',sr,e,d⟩:=h_;cases e;exact d.nx0 sr
theorem Zai (h:QSM X st f):QBM X [st] f:=by
 subst_eqs
 exact pss_one h
theorem Zah (h:QSM X st f)(k:QBM X rest g):QBM X (st::rest) (mSeq f g):=by
 subst_eqs
 exact PSs.imp (Za7 h k) fun D σ H h_=>by
   sleep 5
   obtain ⟨fl1,C1,e1,e⟩:=Zag e
   refine ⟨ι,ρ,C,fl1,C1,sr,e1,?_⟩
   cases fl1 with
   | nx ρ1=>exact fun ι2 σ' H' x sr'=>⟨ι++ι2,ρ1,C1,fl,C',sr',e,d.tr sr'.cr x⟩
   | rt r=>cases e;exact d
   | bk ρ1=>cases e;exact d
   | ct ρ1=>cases e;exact d
   | rf ps=>cases e;exact d
   | rq ps=>cases e;exact d
theorem Zas {t:4e8}(hc:QTMt X c t)(h:QBM X sts f)(k:QBM X sts' g):QSM X (.If c sts sts' pos) (mIfS t f g):=by
 subst_eqs
 exact PS.imp (ps_if hc h k) fun D σ H h_=>by
   sleep 5
   obtain ⟨z,C1,e1,e⟩:=Zag e
   refine ⟨ι,ρ,C,z,C1,sr,e1,fun H1 f1 c1=>?_⟩
   cases z with
   | true=>rw[if_pos rfl] at e ⊢;exact ⟨ι,ρ,C1,fl,C',8e5,e,d.fr c1 f1⟩
   | false=>rw[if_neg Yh] at e ⊢;exact ⟨ι,ρ,C1,fl,C',8e5,e,d.fr c1 f1⟩
theorem Zak {f:2e7}(h:QEM X e f):QSM X (.Return (some e) pos) (mRet f):=by
 subst_eqs
 exact PS.imp (ps_ret h) fun D σ H h_=>by
   sleep 5
   obtain ⟨z,C1,e1,e⟩:=Zag e
   cases e
   exact ⟨ι,ρ,C,z,_,sr,e1,fun v H1 f1 c1 r1=>d [] v H1 (Ex.fr f1) (by rw[Yq];exact c1) (by rw[Yq];exact r1)⟩
theorem Zct {f:11e5}(h:QFM X e f):QSM X (.Return (some e) pos) (mRetF f):=by
 subst_eqs
 exact PS.imp (ps_ret h) fun D σ H h_=>by
   sleep 5
   obtain ⟨ps,C1,e1,g1⟩:=Zag e
   cases g1
   exact ⟨ι,ρ,C,ps,_,sr,e1,fun q vs H1 f1 c1 hq rs=>d [] q vs H1 (Ex.fr f1) (by rw[Yq];exact c1) hq (by rw[Yq];exact rs)⟩
theorem ZaD {f:2e7}(h:QEM X e f)(hs:Xg e none pos.line X.env=pure false:=by rfl):QSM X (.Expr e pos) (mDrop f):=by
 subst_eqs
 exact PS.imp (ps_expr h hs) fun D σ H h_=>by
   sleep 5
   obtain ⟨z,C1,e1,e⟩:=Zag e
   cases e
   exact ⟨ι,ρ,C,z,_,sr,e1,fun v H1 f1 c1 r1=>Done.nx0 (sr.step f1 c1) (d.fr c1 f1)⟩
theorem Zam {i:Nat}{f:2e7}(hN:X.N.Nodup)(hi:7e9)(hx:Loc X.env.scope x)(h:QEM X e f)(hs:11e1:=by rfl)
  (hf:5e1:=by first | exact .inl rfl | exact .inr rfl | assumption):QSM X (.Assign [.Name x pos'] e pos) (mSet i f):=by
 subst_eqs;apply @sm_set<;>assumption
theorem Zby {i:Nat}{f:11e5}(hN:X.N.Nodup)(hi:7e9)(hx:Loc X.env.scope x)(h:QFM X e f)(hs:11e1:=by rfl)
  (hf:5e1:=by first | exact .inl rfl | exact .inr rfl | assumption):QSM X (.Assign [.Name x pos'] e pos) (mNew i f):=by
 subst_eqs
 exact PS.imp (ps_set hN hi hx h hs hf) fun D σ H h_=>by
   sleep 5
   obtain ⟨ps,C1,e1,e⟩:=Zag e
   cases e
   exact ⟨ι,ρ,C,ps,C1,sr,e1,fun q vs H' f1 c1 hq rs=>new_cell sr d f1 c1 hq rs⟩
theorem ZaP {x1}{fs:2e3}(h:QAM X es fs):QEM X (.Tuple es x1 pos) (mTup fs):=by
 subst_eqs
 exact PE.imp (pe_tup h) fun σ H Q h_=>by
   sleep 7
   obtain ⟨xs,C1,e1,e⟩:=Zag e
   obtain ⟨e2,rfl⟩:=ZaF e
   refine ⟨ι,ρ,C,xs,_,sr,e1,fun vs H1 f1 c1 r1=>?_⟩
   by_cases hl:xs.length<=1000
   ·rw[if_pos hl] at e2
    cases hp:plain xs with
    | none=>rw[hp] at e2;cases e2
    | some ps=>
     rw[hp] at e2;cases e2
     obtain ⟨rs,hv⟩:=Zbk hp r1
     refine ⟨by rw[hv];exact k1000 hl,fun q' hq=>q _ _ (f1.trans (Fr.new hq)) (c1.new hq) ?_⟩
     show Rep _ _ _ (.tup ps) _
     unfold Rep
     exact ⟨q',vs,rfl,Zau,Reps.stay (fun b o e=>by rw[Zao (Zal e hq)];exact e) ps vs rs⟩
   ·rw[if_neg hl] at e2;cases e2
theorem Zav {fs:2e3}(h:QAM X es fs):QFM X (.List es pos) (mLst fs):=by
 subst_eqs
 exact PE.imp (pe_lst h) fun σ H Q h_=>by
   sleep 7
   obtain ⟨xs,C1,e1,e⟩:=Zag e
   obtain ⟨e2,rfl⟩:=ZaF e
   refine ⟨ι,ρ,C,xs,_,sr,e1,fun vs H1 f1 c1 r1=>?_⟩
   by_cases hl:xs.length<=1000
   ·rw[if_pos hl] at e2
    obtain ⟨rs,hv⟩:=Zbk e2 r1
    exact ⟨by rw[hv];exact k1000 hl,fun q' hq=>q q' vs H1 f1 c1 hq rs⟩
   ·rw[if_neg hl] at e2;cases e2
theorem ZaB {f:11e5}(h:QFM X e f):QEM X e (mVal f):=by
 subst_eqs
 exact PE.imp h fun σ H Q h_=>by
   sleep 7
   obtain ⟨ps,C1,e1,e⟩:=Zag e
   cases e
   exact ⟨ι,ρ,C,ps,_,sr,e1,fun q' vs H1 f1 c1 hq rs=>q _ _ (f1.trans (Fr.new hq)) (c1.new hq) (ZbJ c1 hq rs)⟩
theorem Zar {i:Nat}(hN:X.N.Nodup)(hi:7e9)(hx:Loc X.env.scope x)(hf:5e1:=by first | exact .inl rfl | exact .inr rfl | assumption):QGM X (.Name x pos) (hName i):=by
 subst_eqs
 exact PG.imp (pg_name hN hi hx hf) fun v σ H Q h_=>by obtain ⟨ι,ρ,C,p,ρ',sr,r,e,q⟩:=h_;cases e;exact q _ (sr.set i r)
theorem Zcu:QGMs X [] hNil:=by
 subst_eqs
 exact PGs.imp pgs_nil fun v σ H Q h_=>by
   obtain ⟨ι,ρ,C,p,ρ',sr,r,e,q⟩:=h_
   cases p with
   | nil=>cases e;exact ⟨r.inv0,q σ sr⟩
   | cons _ _=>cases e
theorem Zba {g:4e9}{gs:List PV->PSt->Option PSt}(h:QGM X e g)(k:QGMs X es gs)(hs:(Xf 4e6 X.env).map (·.2)=assign e X.env::(Xf es X.env).map (·.2):=by rfl):QGMs X 4e6 (hCons g gs):=by
 subst_eqs
 exact PGs.imp (pgs_cons h k hs) fun v σ H Q h_=>by
    obtain ⟨ι,ρ,C,p,ρ',sr,r,e,q⟩:=h_
    cases p with
    | nil=>cases e
    | cons p ps=>
     obtain ⟨w,ws,rfl,r1,r2⟩:=r.inv
     replace e:(g p ρ).bind (fun ρ'=>gs ps ρ')=some ρ':=e
     cases h1:g p ρ with
     | none=>rw[h1] at e;cases e
     | some ρ1=>
      rw[h1] at e
      exact ⟨w,ws,rfl,ι,ρ,C,p,ρ1,sr,r1,h1,fun σ1 sr1=>⟨ι,ρ1,C,ps,ρ',sr1,r2,e,q⟩⟩
theorem q_gm_tup {gs:List PV->PSt->Option PSt}{k n:Nat}(hc:10e2)(h:QGMs X es gs)(hn:(Xf es X.env).length=n:=by rfl)(hst:(Xf es X.env).findIdx? (·.1)=none:=by rfl):QGM X (.Tuple es k pos) (hTup gs n):=by
 subst_eqs
 exact PG.imp (pg_tup hc h hn hst) fun v σ H Q h_=>by
    obtain ⟨ι,ρ,C,p,ρ',sr,r,e,q⟩:=h_
    cases p with
    | tup ps=>
     unfold Rep at r
     obtain ⟨a,vs,rfl,sq,rs⟩:=r
     replace e:(if ps.length=n then gs ps ρ else none)=some ρ':=e
     by_cases hl:ps.length=n
     ·rw[if_pos hl] at e
      exact ⟨a,vs,rfl,sq.sq,by rw[←rs.length];exact hl,ι,ρ,C,ps,ρ',sr,rs,e,q⟩
     ·rw[if_neg hl] at e;cases e
    | _=>cases e
theorem q_sm_asg {f:2e7}{g:4e9}(h:QEM X e f)(k:QGM X tg g)(hs:VL [tg] e pos.line X.env=pure false:=by rfl)(hw:VM [tg] e X.env=pure none:=by rfl)
  (h1:(Xf [tg] X.env).map (·.2)=[assign tg X.env]:=by rfl):QSM X (.Assign [tg] e pos) (mAsg f g):=by
 subst_eqs
 exact PS.imp (ps_asg h k hs hw h1) fun D σ H h_=>by
   sleep 5
   obtain ⟨z,C1,e1,e⟩:=Zag e
   refine ⟨ι,ρ,C,z,C1,sr,e1,fun v H1 f1 c1 r1=>?_⟩
   cases z with
   | c k=>cases e
   | v p=>
    have e:(g p ρ).map (fun ρ'=>(PF.nx ρ',C1))=some (fl,C'):=e
    cases hg:g p ρ with
    | none=>rw[hg] at e;cases e
    | some ρ1=>
     rw[hg] at e
     cases e
     exact ⟨ι,ρ,_,p,ρ1,8e5,r1,hg,fun σ' sr'=>Done.nx0 sr' (d.fr c1 f1)⟩
end
section
variable {X:Cx}{e tg iter elt:Expr}{es:4e5}{body:List Stmt}{f:9e3}{pos p:Pos}{x:Str}
theorem ZbV {it:11e5}{g:4e9}(hp:PassesOwn 2e2 X.A X.env X.xe)(hc:10e2)(hi:QIM X tg iter it)(hg:QGM X tg g)(hb:QBM X body f)
  (hs:9e4:=by intro _;rfl):QSM X (.For tg iter body [] pos) (mFor it g f):=by
 subst_eqs
 exact PS.imp (ps_for hp hc hi hg hb hs) fun D σ H h_=>by
   sleep 5
   obtain ⟨xs,C1,e1,e⟩:=Zag e
   refine ⟨ι,ρ,C,xs,C1,sr,e1,fun J H1 f1 c1 it1=>?_⟩
   have d1:=d.fr c1 f1
   have sr1:=sr.step f1 c1
   refine ⟨fun i m σ2 H2=>∃ι2 ρ2 C2,m=xs.length - i/\i<=xs.length/\Ex ι ι2 H1 H2/\SR X.K 8e6 H2 ρ2 σ2 C2/\loop g f (xs.drop i) ρ2 C2=some (fl,C'),⟨xs.length,[],ρ,C1,rfl,Wm _,Ex.fr .refl,by rw[Yq];exact sr1,e⟩,?_⟩
   rintro i m σ2 H2 ⟨ι2,ρ2,C2,rfl,hi2,x2,sr2,e2⟩
   rcases Y4 i xs.length with hlt | hge
   ·right
    refine ⟨it1.go ι2 H2 C2 x2 sr2.cr i hlt,fun σ' H'=>∃ι2 ρ2 C2,Ex ι ι2 H1 H'/\SR X.K 8e6 H' ρ2 σ' C2/\loop g f (xs.drop (i + 1)) ρ2 C2=some (fl,C'),?_,?_⟩
    ·rintro σ' H' ⟨ι3,ρ3,C3,x3,sr3,e3⟩
     exact ⟨xs.length - (i + 1),by lia,ι3,ρ3,C3,rfl,hlt,x3,sr3,e3⟩
    ·intro v H3 y
     obtain ⟨sm,q,hq,rq⟩:=it1.yld ι2 H2 C2 x2 sr2.cr i v H3 hlt y
     have hd:xs.drop i=q::xs.drop (i + 1):=by
      rw[XU hlt]
      rw[Ye hlt] at hq
      rw[Yz hq]
     rw[hd] at e2
     unfold loop at e2
     cases hg1:g q ρ2 with
     | none=>rw[hg1] at e2;cases e2
     | some ρ3=>
      rw[hg1] at e2
      obtain ⟨fl1,C3,e3,e4⟩:=Zag e2
      have fr3:Fr 8e6 H2 H3:=fun b o _ z=>sm b o z
      have cr3:CR X.K 8e6 H3 C2:=sr2.cr.same sm
      have x3:Ex ι ι2 H1 H3:=⟨fun b o n z=>sm b o (x2.1 b o n z),x2.2⟩
      refine ⟨ι++ι2,ρ2,C2,q,ρ3,sr2.step fr3 cr3,rq,hg1,fun σ4 sr4=>⟨ι++ι2,ρ3,C2,fl1,C3,sr4,e3,?_⟩⟩
      cases fl1 with
      | nx ρ5=>exact fun ι5 σ5 H5 x5 sr5=>⟨ι2++ι5,ρ5,C3,x3.trans cr3 x5,by rw[←YI];exact sr5,e4⟩
      | ct ρ5=>exact fun ι5 σ5 H5 x5 sr5=>⟨ι2++ι5,ρ5,C3,x3.trans cr3 x5,by rw[←YI];exact sr5,e4⟩
      | bk ρ5=>cases e4;exact fun ι5 σ5 H5 x5 sr5=>d1 (ι2++ι5) σ5 H5 (x3.trans cr3 x5) (by rw[←YI];exact sr5)
      | rf ps=>cases e4;exact fun ι5 q5 vs5 H5 x5 c5 h5 r5=>d1 (ι2++ι5) q5 vs5 H5 (x3.trans cr3 x5) (by rw[←YI];exact c5) h5 (by rw[←YI];exact r5)
      | rq ps=>cases e4;exact fun ι5 q5 vs5 H5 x5 c5 h5 r5=>d1 (ι2++ι5) q5 vs5 H5 (x3.trans cr3 x5) (by rw[←YI];exact c5) h5 (by rw[←YI];exact r5)
      | rt r=>cases e4;exact fun ι5 v5 H5 x5 c5 r5=>d1 (ι2++ι5) v5 H5 (x3.trans cr3 x5) (by rw[←YI];exact c5) (by rw[←YI];exact r5)
   ·left
    have hi3:i=xs.length:=by lia
    subst hi3
    rw[VR] at e2
    cases e2
    exact ⟨it1.stop ι2 H2 _ x2 sr2.cr,d1 ι2 σ2 H2 x2 sr2⟩
section
variable {ifs:4e5}{scope:Scope}{vs fs:3e1}{fr:9e2}{it:11e5}{g:4e9}{tt:4e8}{te:2e7}
theorem Za2:QTsM X [] tOk:=by
 subst_eqs
 exact fun pins s σ H Q I h_=>by
   obtain ⟨ι,ρ,C,b,C',sr,e,q⟩:=h_
   cases e
   exact pts_nil pins s σ H Q I (q H .refl sr.cr)
theorem q_ts_one {c:Expr}{t:4e8}(h:QTMt X c t):QTsM X [c] t:=by
 subst_eqs
 exact pts_one h
theorem ZaZ (S:8e4)(hc:10e2)(hi:QIM X tg iter it)
  (bG:∀C s₀ H₀ ex pn,QGM 1e7 tg g) (bT:∀C s₀ H₀ ex pn,QTsM 1e7 ifs tt) (bE:∀C s₀ H₀ ex pn,QEM 1e7 elt te)
  (hs:9e4:=by intro _;rfl):QFM X 3e7 (mComp it vs fr g tt te):=by
 subst_eqs
 exact PE.imp (pe_compN (wi:=tMI X.K it) (g:=tMG X.K g) (tt:=tMB X.K tt) (te:=tM X.K te) S hc hi bG bT (fun _ _ _ _ _=>.nil) bE hs) fun σ H Q ⟨ι,ρ,C,res,C',sr,e,q⟩=>Zdk sr e q
theorem q_sm_comp {i:Nat}{px spos:Pos}(hN:X.N.Nodup)(hx:7e9)(hl:11e4)(S:8e4)(hc:10e2)(hi:QIM X tg iter it)
  (bG:∀C s₀ H₀ ex pn,QGM 1e7 tg g) (bT:∀C s₀ H₀ ex pn,QTsM 1e7 ifs tt) (bE:∀C s₀ H₀ ex pn,QEM 1e7 elt te)
  (hsw:Xg 3e7 (some (.Name x px)) spos.line X.env=pure true:=by rfl) (hs:9e4:=by intro _;rfl):
  QSM X (.Assign [.Name x px] 3e7 spos) (mSet i (mVal (mComp it vs fr g tt te))):=by
 subst_eqs
 exact PS.imp (ps_compN (gs:=[]) (rest:=[]) (g:=tMG X.K g) (tt:=tMB X.K tt) (te:=tM X.K te) hN hx hl S hc hi bG bT (fun _ _ _ _ _=>.nil) bE hsw hs) fun D σ H h_=>by
   sleep 5
   obtain ⟨z,C1,e1,e⟩:=Zag e
   cases e
   obtain ⟨res,C2,e2,e3⟩:=Zag e1
   cases e3
   exact Zdk sr e2 fun q vs H' f1 c1 hq rs=>Done.nx0 (((sr.step f1 c1).step (Fr.new hq) (c1.new hq)).set i (s:=.v (.lst _)) (ZbJ c1 hq rs)) (d.fr (c1.new hq) (f1.trans (Fr.new hq)))
end
end
theorem q_fm_call {X:Cx}{e:Expr}{es:4e5}{p pos:Pos}{x:Str}{k:Nat}{f:Addr}{fd:Yj}{ps:3e1}{F:List SV->M 6e1}{fs:2e3}(G:FnOk X.prog X.w X.K X.mg X.base CX0 k f fd ps (liftSpF X.K F))(hr:Room k X.A)(hg:Gl X x)(hm:X.mg x=some (.ref f))(hk:Yp X.K (.ref f)=true)(hb:L2.Binds X.K fd ps [])
  (ha:13e3) (hdb:2e8:=by decide) (he:1e2:=by rfl) (hpl:3e0:=by rfl):
  QFM X 10e0 (mFnF F fs):=by
 subst_eqs
 exact PE.imp (pe_call G hr hg hm hk hb .nil pass0 ha hdb he hpl) fun σ H Q h_=>by
   sleep 7
   obtain ⟨xs,C1,e1,g1⟩:=Zag e
   refine ⟨ι,ρ,C,xs,C1,sr,e1,fun vs H1 f1 c1 r1=>?_⟩
   show liftSpF X.K F (vs++[]) H1 Q E0
   rw[Yq]
   exact ⟨ι,xs,C1,z,C',c1,r1,g1,fun q' ws H2 f2 c2 h2 r2=>q q' ws H2 (f1.trans f2) c2 h2 r2⟩
section
variable {P:Yl}{w:World}{K:W.Frag}{mg:1e5}{base:Heap}
theorem Zap {x qual:Str}{st:Stmt}{f:Addr}{fd:Yj}{N ps:3e1}{k:Nat}{body:9e3}(F:Fun K x qual st f fd)(S:FnScope N ps 8e1)
  (hbody:∀(cdv:Value) (A:Around) (outer:List Env) (s:Shared) (H:Hp) (E:XK),Room k 9e9->
   QBM (cxOf CX0 P w K mg base N qual (defScope st) f cdv A outer s H E).nox (defBody st) body):FnOk P w K mg base CX0 (k + 1) f fd ps (liftSp K (mDef ps.length (N.length - ps.length) body)):=by
 subst_eqs
 refine F.ok S (fun vs H Q E h_=>?_) (fun cdv A outer s H vs Q E hr h_=>?_)<;>obtain ⟨ι,ss,C,r,C',cr,rs,e,q⟩:=h_
 ·unfold mDef at e
  by_cases h:ss.length=ps.length
  ·rw[←RepSs.length rs];exact h
  ·rw[if_neg h] at e;cases e
 ·refine ⟨_,hbody cdv A outer s H E hr,?_⟩
  unfold mDef at e
  by_cases h:ss.length=ps.length
  case neg=>rw[if_neg h] at e;cases e
  rw[if_pos h] at e
  have sr:=ZbR (N:=N) cr rs
  rw[h] at sr
  cases hb:body (ss.map some++YJ (N.length - ps.length) none) C with
  | none=>rw[hb] at e;cases e
  | some z=>
   obtain ⟨fl,C2⟩:=z
   rw[hb] at e
   refine ⟨ι,_,C,fl,C2,sr,hb,?_⟩
   cases fl with
   | rt r2=>
    intro ι2 v H' x c r3
    obtain ⟨c4,r4⟩:=fin_ok c cr.len r3 e
    exact q v H' x.1 c4 r4
   | nx ρ2=>
    intro ι2 σ' H' x sr'
    cases e
    refine q .non H' x.1 (sr'.cr.cut cr.len) ?_
    show Rep K ι H' .non .non
    unfold Rep;rfl
   | rf ps'=>
    intro ι2 p' vs' H' x c hp rs'
    cases e
    have hs:∀b o,H' b=some o->b∉ι++ι2->b∉ι:=fun b o _ z q=>z (YH _ q)
    have c4:=c.cut cr.len
    exact q _ _ (x.1.trans (Fr.new hp)) (c4.new hp) (show Rep _ _ _ _ _ from ZbJ c4 hp (Reps.cells hs _ _ rs'))
   | rq qs'=>
    intro ι2 p' vs' H' x c hp rs'
    replace e:(finQ C.length C2 qs').map (fun ps=>(SV.v (.tup ps),C2.take C.length))=some (r,C'):=e
    cases hq:finQ C.length C2 qs' with
    | none=>rw[hq] at e;cases e
    | some ps'=>
     rw[hq] at e;cases e
     have c4:=c.cut cr.len
     refine q _ _ (x.1.trans (Fr.new hp)) (c4.new hp) ?_
     show Rep _ _ _ (.tup ps') _
     unfold Rep
     exact ⟨p',vs',rfl,Zau,Reps.stay (fun b o e=>by rw[Zao (Zal e hp)];exact e) _ _ (finQ_ok c cr.len rs' hq)⟩
   | bk _=>cases e
   | ct _=>cases e
theorem q_fn_mkF {x qual:Str}{st:Stmt}{f:Addr}{fd:Yj}{N ps:3e1}{k:Nat}{body:9e3}(F:Fun K x qual st f fd)(S:FnScope N ps 8e1)
  (hbody:∀(cdv:Value) (A:Around) (outer:List Env) (s:Shared) (H:Hp) (E:XK),Room k 9e9->
   QBM (cxOf CX0 P w K mg base N qual (defScope st) f cdv A outer s H E).nox (defBody st) body):FnOk P w K mg base CX0 (k + 1) f fd ps (liftSpF K (mDefF ps.length (N.length - ps.length) body)):=by
 subst_eqs
 refine F.ok S (fun vs H Q E h_=>?_) (fun cdv A outer s H vs Q E hr h_=>?_)<;>obtain ⟨ι,ss,C,r,C',cr,rs,e,q⟩:=h_
 ·unfold mDefF at e
  by_cases h:ss.length=ps.length
  ·rw[←RepSs.length rs];exact h
  ·rw[if_neg h] at e;cases e
 ·refine ⟨_,hbody cdv A outer s H E hr,?_⟩
  unfold mDefF at e
  by_cases h:ss.length=ps.length
  case neg=>rw[if_neg h] at e;cases e
  rw[if_pos h] at e
  have sr:=ZbR (N:=N) cr rs
  rw[h] at sr
  cases hb:body (ss.map some++YJ (N.length - ps.length) none) C with
  | none=>rw[hb] at e;cases e
  | some z=>
   obtain ⟨fl,C2⟩:=z
   rw[hb] at e
   refine ⟨ι,_,C,fl,C2,sr,hb,?_⟩
   cases fl with
   | rf ps'=>
    intro ι2 p' vs' H' x c hp rs'
    cases e
    have hs:∀b o,H' b=some o->b∉ι++ι2->b∉ι:=fun b o _ z q=>z (YH _ q)
    exact q p' vs' H' x.1 (c.cut cr.len) hp (Reps.cells hs _ _ rs')
   | _=>cases e
end
end Pu
namespace Pu
open PySem PySem.Spec L2
open PyProof.Rows hiding St Fr
section
variable {X:Cx}
variable {a b e c:Expr}{es:4e5}{fa fb fc:2e7}{pos p:Pos}{x:Str}
theorem ZaE (ha:QEM X a fa)(hb:QEM X b fb):QEM X (.BinOp a .Add b pos) (mOp 14e0 fa fb):=by
 subst_eqs
 exact em_op op_addAll add_ok.r ha hb
theorem ZbX (ha:QEM X a fa)(hb:QEM X b fb):QEM X (.BinOp a .Sub b pos) (mOp (g2 subP) fa fb):=by
 subst_eqs
 exact em_op op_sub (ZcJ fun _ _ _ _=>repI).r ha hb
theorem Za6 (ha:QEM X a fa)(hb:QEM X b fb):QEM X (.BinOp a .Mult b pos) (mOp (g2 mulP) fa fb):=by
 subst_eqs
 exact em_op op_mul (int_ok fun i j h=>by
   rw[V5] at h
   rcases h with h | h
   ·exact .inl (of_decide_eq_true h)
   ·exact .inr (of_decide_eq_true h)).r ha hb
theorem ZaL (ha:QEM X a fa)(hb:QEM X b fb):QEM X (.BinOp a .Mod b pos) (mOp (g2 modP) fa fb):=by
 subst_eqs
 exact em_op op_mod (int_ok fun i j h=>of_decide_eq_true h).r ha hb
theorem Zbo (ha:QEM X a fa)(hb:QEM X b fb):QEM X (.BinOp a .Pow b pos) (mOp (g2 powP) fa fb):=by
 subst_eqs
 exact em_op op_pow (int_ok fun i j h=>by
   have h:=of_decide_eq_true h
   exact ⟨h.1,Int.le_trans h.2.1 (by decide),h.2.2⟩).r ha hb
theorem q_em_neg (ha:QEM X a fa):QEM X (.UnaryOp .USub a pos) (mNeg fa):=by
 subst_eqs
 refine PE.imp (pe_un un_neg ha) fun σ H Q h_=>?_
 obtain ⟨ι,ρ,C,z,C',sr,e,k⟩:=h_
 obtain ⟨x,C1,e1,e⟩:=Zag e
 obtain ⟨e2,rfl⟩:=ZaF e
 refine ⟨ι,ρ,C,x,_,sr,e1,fun v H1 f1 c1 r1=>?_⟩
 unfold negP at e2
 split at e2
 ·rename_i i hd
  cases e2
  have l:=r1.lies c1 hd
  cases l
  exact ⟨i,rfl,k _ H1 f1 c1 (show Rep _ _ _ _ _ from repI)⟩
 ·cases e2
end
section
variable {X:Cx}{a b e c o:Expr}{es:4e5}{fa fb fc fo:2e7}{fs:2e3}{pos p apos cpos:Pos}{x:Str}
theorem ZaJ (hgl:Gl X "isinstance")(hm:X.mg "isinstance"=none)(hv:YZ "isinstance"=some (.builtin "isinstance"))(ha:13e3)
  (he:1e2:=by rfl) (hpl:3e0:=by rfl):QEM X (.Call (.Name "isinstance" p) 4e6 [] pos) (mCB (g1 isiH) fs):=by
 subst_eqs
 exact Zb2 call_isi isi_ok.c hgl hm hv ha 2e6 2e6 he hpl
theorem Zat (hgl:Gl X "len")(hm:X.mg "len"=none)(ha:13e3)
  (he:1e2:=by rfl) (hpl:3e0:=by rfl):QEM X (.Call (.Name "len" p) 4e6 [] pos) (mCB (g1 lenH) fs):=by
 subst_eqs
 exact Zb2 call_len len_ok.c hgl hm PySem.boot_len ha 2e6 2e6 he hpl
theorem q_em_max (hc:10e2)(hgl:Gl X "max")(hm:X.mg "max"=none)(hv:YZ "max"=some (.builtin "max"))(ha:13e3)
  (he:1e2:=by rfl) (hpl:3e0:=by rfl):QEM X (.Call (.Name "max" p) 4e6 [] pos) (mCB (g1 maxH) fs):=by
 subst_eqs
 exact Zb2 (call_max2 hc) max_ok.c hgl hm hv ha 2e6 2e6 he hpl
theorem q_em_min (hc:10e2)(hgl:Gl X "min")(hm:X.mg "min"=none)(hv:YZ "min"=some (.builtin "min"))(ha:13e3)
  (he:1e2:=by rfl) (hpl:3e0:=by rfl):QEM X (.Call (.Name "min" p) 4e6 [] pos) (mCB (g1 minH) fs):=by
 subst_eqs
 exact Zb2 (call_min2 hc) min_ok.c hgl hm hv ha 2e6 2e6 he hpl
theorem Zcx (hgl:Gl X "int")(hm:X.mg "int"=none)(hv:YZ "int"=some (.type "int"))(ha:13e3)
  (he:1e2:=by rfl) (hpl:3e0:=by rfl):QEM X (.Call (.Name "int" p) 4e6 [] pos) (mCB (g1 intH) fs):=by
 subst_eqs
 exact Zb1 call_int1 intc_ok.c hgl hm hv ha 2e6 2e6 he hpl
theorem ZbW (hgl:Gl X "tuple")(hm:X.mg "tuple"=none)(hv:YZ "tuple"=some (.type "tuple"))(ha:13e3)
  (he:1e2:=by rfl) (hpl:3e0:=by rfl):QEM X (.Call (.Name "tuple" p) 4e6 [] pos) (mCB (g1 tupH) fs):=by
 subst_eqs
 exact Zb1 call_tuple_of tup_ok.c hgl hm hv ha 2e6 2e6 he hpl
theorem ZbY (hc:10e2)(hgl:Gl X "all")(hm:X.mg "all"=none)(hv:YZ "all"=some (.builtin "all"))(ha:13e3)
  (he:1e2:=by rfl) (hpl:3e0:=by rfl):QEM X (.Call (.Name "all" p) 4e6 [] pos) (mCB (g1 allH) fs):=by
 subst_eqs
 exact Zb2 (call_all_bl hc) all_ok.c hgl hm hv ha 2e6 2e6 he hpl
end
section
variable {X:Cx}{a b e c o i:Expr}{es:4e5}{fa fb fc fo fi fv:2e7}{fs:2e3}{pos p apos cpos:Pos}{x:Str}
theorem ZaY (ho:QEM X o fo)(ha:13e3)(hbase:XJ o "append" X.env (eval o X.env)=eval o X.env:=by rfl)
  (hfew:((backTo cpos (Yi 4e6 X.env)).all (fun x=>!x.1)&&(Vu cpos (Wk [] X.env)).all (fun x=>x.1.isSome)
   &&decide ((e::es).length + ([]:List Wl).length + (if ([]:List Wl).isEmpty then 0 else 1) < 30))=true:=by rfl)
  (hline:10e1:=by rfl) (hs:1e2:=by rfl) (hplain:7e6:=by rfl):
  QEM X (.Call (.Attribute o "append" apos) 4e6 [] cpos) (mApp fo fs):=by
 subst_eqs
 exact PE.imp (pe_bm WP PySem.F.slot_list_append PySem.F.type_list_append mt_append ho ha hbase hfew hline hs hplain) fun σ H Q h_=>by
    sleep 7
    obtain ⟨x,C1,e1,g1⟩:=Zag e
    obtain ⟨u,C2,e2,g2⟩:=Zag g1
    obtain ⟨ys,C3,e3,g3⟩:=Zag g2
    obtain ⟨hC,k,ps0,hx,hc0⟩:=Zb6 e2
    obtain ⟨k',p',ps,hx',hy,hc,hl,hr,hC'⟩:=appC_some g3
    clear e g1 g2 g3 e2
    subst hC hx hr hC' hy
    cases hx'
    refine ⟨ι,ρ,C,_,_,sr,e1,fun v H1 f1 c1 r1=>?_⟩
    obtain ⟨a,rfl,hk⟩:=r1
    obtain ⟨vs0,h0,_⟩:=Zbe c1 hk hc0
    refine ⟨.inl ⟨rfl,_,.of h0⟩,ι,ρ,_,_,C3,8e5,e3,fun ws H2 f2 c2 r2=>?_⟩
    obtain ⟨w,wr,rfl,rw1,hw⟩:=r2
    cases (show wr=[] from hw)
    obtain ⟨vs,h1,rv⟩:=Zbe c2 hk hc
    obtain ⟨c4,f4⟩:=cr_set c2 hk (rv.append (.cons rw1 .nil))
    exact ⟨a,vs,w,rfl,rfl,h1,by rw[←rv.length];exact Ym hl (k100000 (Yo _)),q _ _ (f1.trans (f2.trans f4)) c4 (show Rep _ _ _ _ _ from repN)⟩
theorem Zbi {spos:Pos}(hv:QEM X e fv)(ho:QEM X o fo)(hi:QEM X i fi)
  (ha:∀v,assign (.Subscript o i spos) X.env v=(do
   let ov ←WY [v] (eval o X.env)
   let iv ←WY [v,ov] (eval i X.env)
   VW spos
   WY [v,ov,iv] (setItem ov iv v)
   release [v,ov,iv] []):=by intro _;rfl)
  (hs:VL [.Subscript o i spos] e pos.line X.env=pure false:=by rfl) (hw:VM [.Subscript o i spos] e X.env=pure none:=by rfl)
  (h1:(Xf [.Subscript o i spos] X.env).map (·.2)=[assign (.Subscript o i spos) X.env]:=by rfl):QSM X (.Assign [.Subscript o i spos] e pos) (mSetIx fv fo fi):=by
 subst_eqs
 exact PS.imp (ps_asg hv (pg_sub ho hi set_list ha) hs hw h1) fun D σ H h_=>by
    sleep 5
    obtain ⟨v,C1,e1,g1⟩:=Zag e
    obtain ⟨o,C2,e2,g2⟩:=Zag g1
    obtain ⟨i,C3,e3,g3⟩:=Zag g2
    obtain ⟨k,n,p',ps,j,ho,hi,hv,hc,hj,hf,hC⟩:=setC_some g3
    clear e g1 g2 g3
    subst ho hi hv hf hC
    refine ⟨ι,ρ,C,_,C1,sr,e1,fun x H1 f1 c1 r1=>⟨ι,ρ,C1,_,C2,8e5,e2,fun y H2 f2 c2 r2=>⟨ι,ρ,C2,_,C3,(sr.step f1 c1).step f2 c2,e3,fun w H3 f3 c3 r3=>?_⟩⟩⟩
    obtain ⟨a,rfl,hk⟩:=r2
    have r3:w=.int n:=by unfold RepS Rep at r3;exact r3
    obtain ⟨vs,h1,rv⟩:=Zbe c3 hk hc
    have r1':Rep X.K ι H3 p' x:=Rep.mono c2 f3 _ _ (Rep.mono c1 f2 _ _ r1)
    obtain ⟨c4,f4⟩:=cr_set c3 hk (rv.set j r1')
    refine ⟨a,vs,n,j,rfl,r3,h1,by rw[←rv.length];exact hj,?_⟩
    exact Done.nx0 ((((sr.step f1 c1).step f2 c2).step f3 c3).step f4 c4) (d.fr c4 (f1.trans (f2.trans (f3.trans f4))))
variable {tg l:Expr}
theorem ZaX (hl:QEM X l fa):QIM X tg l (mItems fa):=by
 subst_eqs
 intro pins s σ H R I h
 obtain ⟨ι,ρ,C,xs,C',sr,e,q⟩:=h
 obtain ⟨x,C1,e1,e⟩:=Zag e
 obtain ⟨e2,rfl⟩:=ZaF e
 refine thn (hl pins s σ H (fun v H1=>Fr ι H H1/\CR X.K ι H1 C'/\RepS X.K ι H1 x v) I ⟨ι,ρ,C,x,C',sr,e1,fun v H1 f1 c1 r1=>⟨f1,c1,r1⟩⟩) fun v s1 h_=>?_
 obtain ⟨y,H1,I1,r1,f1,c1,rx⟩:=h_
 have fp:∀b∈[s1.heap.objs.size],FpOk X pins H1 b:=fun b hb=>by
  have e:b=s1.heap.objs.size:=by simpa using hb
  subst e
  exact I1.fpOk (Yo _) (I1.hok.fresh (Yo _))
 unfold itemsP at e2
 split at e2
 ·cases e2
  have rx:Rep X.K ι H1 (.lst _) y:=rx
  unfold Rep at rx
  obtain ⟨a,vs,rfl,hq,rv⟩:=rx
  cases r1
  obtain ⟨its,_,p,hz⟩:=I1.list hq.sq
  refine VD p.isList ?_
  exact ⟨s1.heap.objs.size,[s1.heap.objs.size],_,_,H1,rfl,I1.kept (t':=s1.toks) fun b o e=>Yc _ e,turn_list a _,⟨_,Yt _ rfl,rfl,rfl⟩,fp,q _ H1 f1 c1 (iter_list c1 hq rv)⟩
 ·cases e2
  have rx:Rep X.K ι H1 (.tup _) y:=rx
  unfold Rep at rx
  obtain ⟨a,vs,rfl,hq,rv⟩:=rx
  cases r1
  obtain ⟨its,_,p,hz⟩:=I1.tuple hq.sq
  refine wpAny_pyIter_tuple (show s1.heap.IsTuple a its.toArray from p) ?_
  exact ⟨s1.heap.objs.size,[s1.heap.objs.size],_,_,H1,rfl,I1.kept (t':=s1.toks) fun b o e=>Yc _ e,turn_tuple a _,⟨_,Yt _ rfl,rfl,rfl⟩,fp,q _ H1 f1 c1 (iter_tup c1 hq.sq rv)⟩
 ·cases e2
  have rx:Rep X.K ι H1 (.str _) y:=rx
  rename Str=>z
  unfold Rep at rx
  obtain ⟨rfl,hz⟩:=rx
  obtain ⟨t,rfl⟩:=r1
  cases ha:z.cps.all (· < 128)
  ·exact wpAny_pyIter_wide ha ⟨s1.heap.objs.size,[s1.heap.objs.size],_,_,H1,rfl,I1.kept (t':=s1.toks) fun b o e=>Yc _ e,turn_str (t:=t) (.inr rfl),⟨_,Yt _ rfl,rfl,rfl⟩,fp,q _ H1 f1 c1 iter_str⟩
  ·exact wpAny_pyIter_ascii ha ⟨s1.heap.objs.size,[s1.heap.objs.size],_,_,H1,rfl,I1.kept (t':=s1.toks) fun b o e=>Yc _ e,turn_str (t:=t) (.inl rfl),⟨_,Yt _ rfl,rfl,rfl⟩,fp,q _ H1 f1 c1 iter_str⟩
 ·cases e2
theorem ZbH (hg:Gl X "range")(hm:X.mg "range"=none)(ha:QAM X [a] fs)(hs:Yi [a] X.env=[(false,eval a X.env)]:=by rfl):QIM X tg (.Call (.Name "range" p) [a] [] pos) (mRange1 fs):=by
 subst_eqs
 exact PI.imp (pi_range1 hg hm ha hs) fun σ H R h_=>by
    obtain ⟨ι,ρ,C,xs,C',sr,e,q⟩:=h_
    obtain ⟨zs,C1,e1,g1⟩:=Zag e
    obtain ⟨e2,hC⟩:=ZaF g1
    subst hC
    refine ⟨ι,ρ,C,zs,_,sr,e1,fun vs H1 f1 c1 r1=>?_⟩
    obtain ⟨j,rfl,h,rfl⟩:=rng1_some e2
    obtain ⟨v,w,rfl,r1,hw⟩:=r1
    cases (show w=[] from hw)
    have r1:v=.int j:=by unfold RepS Rep at r1;exact r1
    subst r1
    exact ⟨j,rfl,by lia,by lia,q _ H1 f1 c1 iter_range⟩
end
section
variable {X:Cx}{a b e c o i:Expr}{es:4e5}{fa fb fc fo fi fv:2e7}{fs:2e3}{pos p apos cpos p2:Pos}{x:Str}{lo hi:Option Expr}{l h:PSt->M (Option Int)}
theorem ZaS:QOM X none oNo:=by
 subst_eqs
 exact PO.imp po_none fun σ H Q h_=>by obtain ⟨ι,ρ,C,r,C',sr,e,q⟩:=h_;cases e;exact q H .refl sr.cr
theorem ZaR (he:QEM X e fa):QOM X (some e) (oPart fa):=by
 subst_eqs
 exact PO.imp (po_some he) fun σ H Q h_=>by
   obtain ⟨ι,ρ,C,r,C',sr,e,q⟩:=h_
   obtain ⟨z,C1,e1,g1⟩:=Zag e
   obtain ⟨e2,hC⟩:=ZaF g1
   subst hC
   refine ⟨ι,ρ,C,z,_,sr,e1,fun v H1 f1 c1 r1=>?_⟩
   unfold intD at e2
   split at e2
   ·rename_i j hd
    cases e2
    have l:=r1.lies c1 hd
    cases l
    exact ⟨j,rfl,q H1 f1 c1⟩
   ·cases e2
theorem ZaN (he:QEM X e fa)(hl:QOM X lo l)(hh:QOM X hi h):QEM X (.Subscript e (.Slice lo hi none p2) pos) (mSlice fa l h):=by
 subst_eqs
 exact PE.imp (pe_slice (SlR.or sl_list (SlR.or sl_tup sl_tupW)) he hl hh) fun σ H Q h_=>by
    sleep 7
    obtain ⟨x,C1,e1,g1⟩:=Zag e
    obtain ⟨i,C2,e2,g2⟩:=Zag g1
    obtain ⟨j,C3,e3,g3⟩:=Zag g2
    obtain ⟨e4,hC⟩:=ZaF g3
    subst hC
    clear e g1 g2 g3
    refine ⟨ι,ρ,C,x,C1,sr,e1,fun v H1 f1 c1 r1=>⟨ι,ρ,C1,i,C2,8e5,e2,fun H2 f2 c2=>⟨ι,ρ,C2,j,_,(sr.step f1 c1).step f2 c2,e3,fun H3 f3 c3=>?_⟩⟩⟩
    have fr:=f1.trans (f2.trans f3)
    have r3:=(r1.mono c1 f2).mono c2 f3
    rcases sliceD_some e4 with ⟨xs,hd,rfl⟩ | ⟨xs,hd,rfl⟩
    ·obtain ⟨a,vs,rfl,h1,rv⟩:=liesL (r3.lies c3 hd)
     exact .inl ⟨a,vs,rfl,h1,fun p hp=>q _ _ (fr.trans (Fr.new hp)) (c3.new hp) (show Rep _ _ _ _ _ from ZbJ c3 hp (reps_cut rv i j))⟩
    ·obtain ⟨a,vs,rfl,h1,rv⟩:=liesT (r3.lies c3 hd)
     by_cases hw:HT.sIx vs.length 0 i=0/\HT.sIx vs.length vs.length j=vs.length
     ·refine .inr (.inr ⟨a,vs,rfl,h1.sq,hw,?_⟩)
      rw[←rv.length] at hw
      rw[cut_whole hw] at q
      exact q _ H3 fr c3 (show Rep _ _ _ _ _ by unfold Rep;exact ⟨a,vs,rfl,h1,rv⟩)
     ·exact .inr (.inl ⟨a,vs,rfl,h1.sq,hw,fun p hp=>q _ _ (fr.trans (Fr.new hp)) (c3.new hp) (show Rep _ _ _ _ _ from ZcD hp (reps_cut rv i j))⟩)
end
section
variable {X:Cx}{a b e c o i:Expr}{es:4e5}{fa fb fc fo fi fv:2e7}{fs:2e3}{pos p apos cpos p2:Pos}{x:Str}
theorem q_em_join (ho:QEM X o fo)(ha:13e3)(hbase:XJ o "join" X.env (eval o X.env)=eval o X.env:=by rfl)
  (hfew:((backTo cpos (Yi 4e6 X.env)).all (fun x=>!x.1)&&(Vu cpos (Wk [] X.env)).all (fun x=>x.1.isSome)
   &&decide ((e::es).length + ([]:List Wl).length + (if ([]:List Wl).isEmpty then 0 else 1) < 30))=true:=by rfl)
  (hline:10e1:=by rfl) (hs:1e2:=by rfl) (hplain:7e6:=by rfl):
  QEM X (.Call (.Attribute o "join" apos) 4e6 [] cpos) (mMt "str" joinH fo fs):=by
 subst_eqs
 exact em_mt PySem.F.plainAttrs_str PySem.F.slot_str_join PySem.F.type_str_join mt_join join_ok ho ha hbase hfew hline hs hplain
theorem Zaj (hu:X.A.units + 1 < cLine)(ha:QEM X a fa)(hb:QEM X b fb)(hs:PlainIx b:=by exact fun _ _=>rfl):QEM X (.Subscript a b pos) (mOp 5e6 fa fb):=by
 subst_eqs
 exact em_ix (IxR.or ix_seq (ix_dict hu)) ixQ_ok.r ha hb hs
theorem q_dm_nil:QDM X [] [] [] aNil:=by
 subst_eqs
 exact fun pos pins s σ H Q I h_=>by
   obtain ⟨ι,ρ,C,r,C',sr,e,q⟩:=h_
   cases e
   exact PySem.pairTrees_nil_walk ⟨[],H,I,trivial,q [] H .refl sr.cr rfl⟩
theorem Za0 {k:Str}{j1:Nat}{p1:Pos}{ks:List (Option Expr)}{keys:3e1}(h:QEM X e fa)(t:QDM X ks es keys fs):QDM X (some (.Constant (.str k) j1 p1)::ks) 4e6 (k::keys) (aCons fa fs):=by
 subst_eqs
 intro pos pins s σ H Q I h_
 obtain ⟨ι,ρ,C,r,C',sr,e,q⟩:=h_
 obtain ⟨x,C1,e1,g1⟩:=Zag e
 obtain ⟨xs,C2,e2,g2⟩:=Zag g1
 cases g2
 refine PySem.pairTrees_cons_walk (Calls.Constant_str ?_)
 refine thn (h pins _ σ H (fun v H1=>Fr ι H H1/\CR X.K ι H1 C1/\RepS X.K ι H1 x v) (I.tok _) ⟨ι,ρ,C,x,C1,sr,e1,fun v H1 f1 c1 r1=>⟨f1,c1,r1⟩⟩) fun u s1 h_=>?_
 obtain ⟨v,H1,I1,r1,f1,c1,rx⟩:=h_
 refine thn (t pos pins s1 σ H1 (fun vs H2=>Fr ι H1 H2/\CR X.K ι H2 C'/\RepSs X.K ι H2 xs vs) I1 ⟨ι,ρ,C1,xs,C',8e5,e2,fun vs H2 f2 c2 r2=>⟨f2,c2,r2⟩⟩) fun us s2 h_=>?_
 obtain ⟨vs,H2,I2,pr,f2,c2,rs⟩:=h_
 exact ⟨v::vs,H2,I2,⟨keyIs_str k _,r1,pr⟩,q (v::vs) H2 (f1.trans f2) c2 ⟨v,vs,rfl,rx.mono c1 f2,rs⟩⟩
theorem q_em_dict {ks:List (Option Expr)}{keys:3e1}(h:QDM X ks es keys fs)(nd:(keys.map (Ws:Str->Key)).Nodup)(hall:ks.all (·.isSome)=true)(hl:ks.length=es.length)(h0:ks≠[])(hlen:ks.length<=15)(hk:keys.length=ks.length):
  QEM X (.Dict ks es pos) (mDict keys fs):=by
 subst_eqs
 intro pins s σ H Q I h_
 sleep 7
 obtain ⟨xs,C1,e1,g1⟩:=Zag e
 obtain ⟨e2,hC⟩:=ZaF g1
 subst hC
 have hbig:Wf < s.heap.objs.size:=modules_low I.nolimit
 have hf:H s.heap.objs.size=none:=I.hok.fresh (Yo _)
 have I0:Inv X pins σ H { s with heap:=s.heap.push { cls:=.type "dict",data:=.dict #[] } }:=I.kept (t':=s.toks) fun b o e=>Yc _ e
 have I1:Inv X ((s.heap.objs.size,{ cls:=.type "dict",data:=.dict #[] })::pins) σ H { s with heap:=s.heap.push { cls:=.type "dict",data:=.dict #[] } }:=I0.pins_of fun p hp=>by
  rcases Yg.mp hp with rfl | hp
  ·exact ⟨Yt _ rfl,hf,XI I.lt,I.nofs (Yo _),fun v z=>by cases z⟩
  ·exact I0.pin p (Yd _ hp)
 refine PySem.wpAny_Dict_walk (knd:=mixKind X.prog X.w) hall hl h0 hlen ?_
 refine thn (h pos _ _ σ H (fun vs H2=>Fr ι H H2/\CR X.K ι H2 C'/\RepSs X.K ι H2 xs vs) I1 ⟨ι,ρ,C,xs,C',sr,e1,fun vs H2 f2 c2 r2=>⟨f2,c2,r2⟩⟩) fun us s1 h_=>?_
 obtain ⟨vs,H1,J1,pr,f1,c1,rs⟩:=h_
 obtain ⟨a1,a2,kvs,a3,a4,a5⟩:=prel_carries (P:=X.prog) (w:=X.w) pr
 have pd:=J1.pin (s.heap.objs.size,_) (Yd _ YT)
 refine ⟨kvs,a3,DictOf_empty pd.1,fun h' hd hs=>?_⟩
 rw[merged_nil_of_nodup kvs (by rw[a5];exact nd)] at hd
 have J2:Inv X pins σ H1 s1:=J1.pins_of fun p hp=>J1.pin p (Yd _ (Yw _ hp))
 have hcl:∀x c,X.env.cells.lookup x=some c->c≠s.heap.objs.size:=fun x c e=>by
  obtain ⟨v,z⟩:=I.cell x c e
  exact YB z.lt
 have hpn:∀p∈X.pn++pins,p.1≠s.heap.objs.size:=fun p hp=>YB (Ys (I.pin p hp).1)
 have J3:Inv X pins σ H1 { s1 with heap:=h',toks:=s1.toks + us.length }:=J2.turned (t':=s1.toks + us.length) (fun b o hb e=>(hs.2 b hb).trans e) pd.2.1 pd.2.2.1 (.inr I.sz) hcl hpn
 have hkl:keys.length<=15:=by rw[hk];exact hlen
 have J4:=track (ob:=.dK ((keys.map Ws).zip vs)) J3 pd.2.1 I.sz pd.2.2.1 hcl hpn ⟨Yv (by rw[List.length_zip];exact Yv (Nat.min_le_left _ _) (by rw[YX];exact hkl)) (by rw[YU];decide),beq_eq_false_iff_ne.mpr (Xd (YB hbig)),kvs,a4,hd⟩
 cases hp:plain xs with
 | none=>rw[hp] at e2;cases e2
 | some ps=>
  rw[hp] at e2
  cases e2
  obtain ⟨rr,hv⟩:=Zbk hp rs
  refine ⟨.ref s.heap.objs.size,_,J4,rfl,q _ _ (f1.trans (Fr.new pd.2.1)) (c1.new pd.2.1) ?_⟩
  show Rep _ _ _ (.dct _ _) _
  unfold Rep
  refine ⟨s.heap.objs.size,keys.map Ws,vs,rfl,fun z=>?_,Zau,by rw[YX];exact a1,by rw[W6];rfl,Reps.stay (fun b o e=>by rw[Zao (Zal e pd.2.1)];exact e) ps vs rr⟩
  rcases c1.mut z with ⟨_,e⟩ | ⟨_,e⟩ | ⟨_,e⟩
  ·rw[pd.2.1] at e;cases e
  ·rw[pd.2.1] at e;cases e
  ·rw[pd.2.1] at e;cases e
end
section
variable {X:Cx}{a b e c o i:Expr}{es:4e5}{fa fb fc fo fi fv:2e7}{fs:2e3}{pos p apos cpos p2:Pos}{x:Str}{d:Addr}{tab:10e4}
theorem Zbz (hg:Gl X x)(hm:X.mg x=some (.ref d))(hd:2e8:=by decide):QEM X (.Name x pos) (mC (.fn d)):=by
 subst_eqs
 exact Zbd (ZbI (v:=.ref d) hg hm rfl hd) fun ι H=>by unfold Rep;rfl
theorem Zc5 (T:TopD X.K X.w d tab)(ha:QEM X a fa)(hb:QEM X b fb)(hs:PlainIx b:=by exact fun _ _=>rfl):QEM X (.Subscript a b pos) (mOp (topG d tab) fa fb):=by
 subst_eqs
 exact em_ix (ix_top T) topG_ok ha hb hs
theorem Zb5 {k:Nat}{T:List (Addr×(List SV->M SV))}(i:Nat)(hok:∀a F,T.lookup a=some F->∃fd ps,FnOk X.prog X.w X.K X.mg X.base CX0 k a fd ps (liftSp X.K F)/\Yp X.K (.ref a)=true/\L2.Binds X.K fd ps [])(hr:Room k X.A)(ha:13e3)
  (hN:7e9:=by rfl) (hv:Vis X.env.scope x:=by first | exact Or.inl rfl | exact Or.inr 3e6 | exact Or.inr (Or.inr rfl)) (hdb:2e8:=by decide) (hcd:(x==("__classdict__":Str))=false:=by decide)
  (he:1e2:=by rfl) (hpl:3e0:=by rfl):
  QEM X 10e0 (mCallV i T fs):=by
 subst_eqs
 intro pins s σ H Q I h_
 sleep 7
 obtain ⟨f,C1,e1,g1⟩:=Zag e
 obtain ⟨xs,C2,e2,g2⟩:=Zag g1
 obtain ⟨a,F,rfl,hT,e3⟩:=callV_some g2
 obtain ⟨fd,ps,G,hk,hb⟩:=hok a F hT
 refine Wg (thn (em_var i hN hv hdb hcd pins s σ H (fun v H1=>Fr ι H H1/\CR X.K ι H1 C1/\v=.ref a) I ⟨ι,ρ,C,_,C1,sr,e1,fun v H1 f1 c1 r1=>⟨f1,c1,by unfold RepS Rep at r1;exact r1⟩⟩) fun u s1 h_=>?_)
 obtain ⟨v,H1,I1,r1,f1,c1,hv⟩:=h_
 subst hv
 cases r1
 refine W.callWith_K (h₀:=X.base) I.ok.mod.kin hk (thn (ha pos pins s1 σ H1 (fun vs H2=>Fr ι H1 H2/\CR X.K ι H2 C2/\RepSs X.K ι H2 xs vs) I1 ⟨ι,ρ,C1,xs,C2,8e5,e2,fun vs H2 f2 c2 r2=>⟨f2,c2,r2⟩⟩) fun us s2 ⟨vs,H2,I2,r2,f2,c2,rs⟩=>⟨I2.kIn,?_⟩) he hpl
 refine run_fn (dvs:=[]) (ds:=[]) G hr hb .nil pass0 I2 r2 ?_
 rw[Yq]
 exact ⟨ι,xs,C2,z,C',c2,rs,e3,fun v H3 f3 c3 r3=>q v H3 (f1.trans (f2.trans f3)) c3 r3⟩
theorem q_em_dict0:QEM X (.Dict [] [] pos) mDict0:=by
 subst_eqs
 exact PE.imp pe_dnewK fun σ H Q h_=>by
   sleep 7
   cases e
   intro p hp
   refine q _ _ (Fr.new hp) (sr.cr.new hp) ?_
   show Rep _ _ _ (.dct [] []) _
   unfold Rep
   refine ⟨p,[],[],rfl,fun z=>?_,Zau,rfl,rfl,.nil⟩
   rcases sr.cr.mut z with ⟨_,e⟩ | ⟨_,e⟩ | ⟨_,e⟩
   ·rw[hp] at e;cases e
   ·rw[hp] at e;cases e
   ·rw[hp] at e;cases e
end
theorem q_im_zip {X:Cx}{a b:Expr}{fs:2e3}{elts:4e5}{x1:Nat}{tpos p pos:Pos}(hg:Gl X "zip")(hm:X.mg "zip"=none)(ha:QAM X [a,b] fs)
  (hs:Yi [a,b] X.env=[(false,eval a X.env),(false,eval b X.env)]:=by rfl) (hs2:Yi [b] X.env=[(false,eval b X.env)]:=by rfl):QIM X (.Tuple elts x1 tpos) (.Call (.Name "zip" p) [a,b] [] pos) (mZip fs):=by
 subst_eqs
 intro pins s σ H R I h_
 obtain ⟨ι,ρ,C,xs,C',sr,e,q⟩:=h_
 obtain ⟨zs,C1,e1,g1⟩:=Zag e
 obtain ⟨e2,hC⟩:=ZaF g1
 subst hC
 obtain ⟨x,y,ps,qs,rfl,hx,hy,rfl⟩:=zipP_some e2
 refine Call_ (Zdf I hg hm 1e0 (XF (thn (ha pos pins s σ H (fun vs H1=>Fr ι H H1/\CR X.K ι H1 C'/\RepSs X.K ι H1 [x,y] vs) I ⟨ι,ρ,C,_,C',sr,e1,fun vs H1 f1 c1 r1=>⟨f1,c1,r1⟩⟩) fun us s1 ⟨vs,H1,I1,r1,f1,c1,rs⟩=>?_) (by rw[hs,hs2]) (by rw[hs2];rfl)))
 obtain ⟨v1,w,rfl,rx,hw⟩:=rs
 obtain ⟨v2,w2,rfl,ry,hw⟩:=hw
 cases (show w2=[] from hw)
 obtain ⟨u1,u2,rfl,ru1,ru2⟩:=Vals.two r1
 obtain ⟨S1,rfl,hS1,Z1⟩:=src_of I1 c1 rx hx ru1
 obtain ⟨S2,rfl,hS2,Z2⟩:=src_of I1 c1 ry hy ru2
 refine callType_new PySem.F.called_zip 2e6 (PySem.F.typeCall_zip_2 _ _) (PySem.F.newCall_zip_2 _ _) (fun obj=>PySem.F.args_object_init_3 obj _ _) PySem.F.entry_zip_new (zip_new S1 S2) ⟨hS1,hS2,?_⟩
 have z1:(s1.heap.push S1.obj).objs.size=s1.heap.objs.size + 1:=XB ..
 have z2:((s1.heap.push S1.obj).push S2.obj).objs.size=s1.heap.objs.size + 2:=by rw[XB,z1]
 have z3:(zH3 s1.heap S1 S2).objs.size=s1.heap.objs.size + 3:=by rw[XB,z2]
 have z4:(zH4 s1.heap S1 S2).objs.size=s1.heap.objs.size + 4:=by rw[XB,z3]
 have up:∀c o,s1.heap.get? c=some o->(zH5 s1.heap S1 S2).get? c=some o:=fun c o x=>Yc _ (Yc _ (Yc _ (Yc _ (Yc _ x))))
 have g5:(zH5 s1.heap S1 S2).get? (zH4 s1.heap S1 S2).objs.size=some _:=Yt _ rfl
 have g4:(zH5 s1.heap S1 S2).get? (zH3 s1.heap S1 S2).objs.size=some _:=Yc _ (Yt _ rfl)
 have g3:(zH5 s1.heap S1 S2).get? ((s1.heap.push S1.obj).push S2.obj).objs.size=some _:=Yc _ (Yc _ (Yt _ rfl))
 have g2:(zH5 s1.heap S1 S2).get? (s1.heap.push S1.obj).objs.size=some _:=Yc _ (Yc _ (Yc _ (Yt _ (by cases S2<;>rfl))))
 have g1:(zH5 s1.heap S1 S2).get? s1.heap.objs.size=some _:=Yc _ (Yc _ (Yc _ (Yc _ (Yt _ (by cases S1<;>rfl)))))
 show _/\_
 rw[z2,z3,z4] at g5
 rw[z1,z2] at g3
 rw[z3] at g4
 rw[z1] at g2
 rw[z4]
 have at0:∀{S:ZS} {it:Addr} {h:Heap},h.get? it=some S.obj->S.at' it 0 h:=fun {S it h} e=>by
  cases S with
  | l a=>exact ⟨_,e,rfl,rfl⟩
  | t a=>exact ⟨_,e,rfl,rfl⟩
  | s z tk wd=>exact ⟨_,e,rfl,rfl⟩
 have J:Inv X pins σ H1 { s1 with heap:=zH5 s1.heap S1 S2 }:=I1.kept (t':=s1.toks) up
 refine ⟨⟨_,g5,rfl⟩,wpAny_pyIter_zip g5 ⟨s1.heap.objs.size + 4,[s1.heap.objs.size + 4,s1.heap.objs.size + 2,s1.heap.objs.size + 3,s1.heap.objs.size,s1.heap.objs.size + 1],_,_,H1,rfl,J,
  turn_zip (S1:=S1) (S2:=S2) (zne s1.heap.objs.size),⟨g5,g3,⟨_,_,g4⟩,at0 g1,at0 g2⟩,fun b hb=>?_,q _ H1 f1 c1 (iter_zip Z1 Z2)⟩⟩
 have hb':s1.heap.objs.size<=b:=by
  simp only[Yg,Yr,or_false] at hb
  rcases hb with rfl | rfl | rfl | rfl | rfl<;>lia
 exact I1.fpOk hb' (I1.hok.fresh hb')
end Pu
namespace Pu
open PySem PySem.Spec PySem.W PySem.Calls L2
open PyProof.Rows hiding St Fr
section
variable {X:Cx}{a b e:Expr}{fa fb:2e7}{pos p:Pos}{es:4e5}{fs:2e3}
theorem Zcw (ha:QEM X a fa)(hb:QEM X b fb):QEM X (.BinOp a .Mult b pos) (mOp (g2 mulSP) fa fb):=by
 subst_eqs
 exact em_op op_mulS mulS_ok.r ha hb
end
end Pu
namespace Pu
open PySem PySem.Spec L2
open PyProof.Rows hiding St Fr
section
variable {X:Cx}{l:Expr}{elts:4e5}{x1:Nat}{tpos p pos:Pos}
theorem q_im_enum {fs:2e3}(hg:Gl X "enumerate")(hm:X.mg "enumerate"=none)(ha:QAM X [l] fs)(hs:Yi [l] X.env=[(false,eval l X.env)]:=by rfl):QIM X (.Tuple elts x1 tpos) (.Call (.Name "enumerate" p) [l] [] pos) (mEnum fs):=by
 subst_eqs
 exact PI.imp (pi_enum hg hm ha hs) fun σ H R h_=>by
    obtain ⟨ι,ρ,C,xs,C',sr,e,q⟩:=h_
    obtain ⟨zs,C1,e1,g1⟩:=Zag e
    obtain ⟨e2,hC⟩:=ZaF g1
    subst hC
    refine ⟨ι,ρ,C,zs,_,sr,e1,fun vs H1 f1 c1 r1=>?_⟩
    unfold enumP at e2
    split at e2
    ·cases e2
     obtain ⟨v,w,rfl,r1,hw⟩:=r1
     cases (show w=[] from hw)
     replace r1:Rep X.K ι H1 (.lst _) v:=r1
     unfold Rep at r1
     obtain ⟨a,vs,rfl,hq,rv⟩:=r1
     exact ⟨a,rfl,⟨vs,hq.sq⟩,q _ H1 f1 c1 (iter_enum c1 hq rv)⟩
    ·cases e2
end
end Pu
namespace Pu
open PySem PySem.Spec L2
open PyProof.Rows hiding St Fr
section
variable {X:Cx}{e o:Expr}{es:4e5}{fo:2e7}{fs:2e3}{apos cpos:Pos}
theorem q_em_get2 (ho:QEM X o fo)(ha:13e3)(hbase:XJ o "get" X.env (eval o X.env)=eval o X.env:=by rfl)
  (hfew:((backTo cpos (Yi 4e6 X.env)).all (fun x=>!x.1)&&(Vu cpos (Wk [] X.env)).all (fun x=>x.1.isSome)
   &&decide ((e::es).length + ([]:List Wl).length + (if ([]:List Wl).isEmpty then 0 else 1) < 30))=true:=by rfl)
  (hline:10e1:=by rfl) (hs:1e2:=by rfl) (hplain:7e6:=by rfl):
  QEM X (.Call (.Attribute o "get" apos) 4e6 [] cpos) (mMt "dict" getH2 fo fs):=by
 subst_eqs
 exact em_mt PySem.F.plainAttrs_dict PySem.F.slot_dict_get PySem.F.type_dict_get mt_get2 get2_ok ho ha hbase hfew hline hs hplain
variable {a b:Expr}{fa fb:2e7}{pos:Pos}
end
end Pu
namespace Pu
open PySem PySem.Spec PySem.W PySem.Calls L2
open PyProof.Rows hiding St Fr strKind
open PySem.Builtin.Str (partsBetween occurrences strKind)
section
variable {X:Cx}{e:Expr}{es:4e5}{f:2e7}{fs:2e3}{p pos:Pos}
theorem q_sm_raise {a b:Option Expr}:QSM X (.Raise a b pos) mNo:=by
 subst_eqs
 exact fun pins s σ H D I h_=>by obtain ⟨ι,ρ,C,fl,C',sr,e,d⟩:=h_;cases e
theorem Zcv (hgl:Gl X "str")(hm:X.mg "str"=none)(hv:YZ "str"=some (.type "str"))(ha:13e3)
  (he:1e2:=by rfl) (hpl:3e0:=by rfl):QEM X (.Call (.Name "str" p) 4e6 [] pos) (mCB (g1 strH) fs):=by
 subst_eqs
 exact Zb1 call_strR strc_ok.c hgl hm hv ha 2e6 2e6 he hpl
theorem Zcy (hgl:Gl X "int")(hm:X.mg "int"=none)(hv:YZ "int"=some (.type "int"))(ha:13e3)
  (he:1e2:=by rfl) (hpl:3e0:=by rfl):QEM X (.Call (.Name "int" p) 4e6 [] pos) (mCB (g1 intTH) fs):=by
 subst_eqs
 exact Zb1 call_intR intT_ok.c hgl hm hv ha 2e6 2e6 he hpl
variable {o:Expr}{fo:2e7}{apos cpos:Pos}
theorem Zbj (ho:QEM X o fo)(ha:13e3)(hbase:XJ o "split" X.env (eval o X.env)=eval o X.env:=by rfl)
  (hfew:((backTo cpos (Yi 4e6 X.env)).all (fun x=>!x.1)&&(Vu cpos (Wk [] X.env)).all (fun x=>x.1.isSome)
   &&decide ((e::es).length + ([]:List Wl).length + (if ([]:List Wl).isEmpty then 0 else 1) < 30))=true:=by rfl)
  (hline:10e1:=by rfl) (hs:1e2:=by rfl) (hplain:7e6:=by rfl):
  QEM X (.Call (.Attribute o "split" apos) 4e6 [] cpos) (mMt "str" splitH fo fs):=by
 subst_eqs
 exact em_mt PySem.F.plainAttrs_str PySem.F.slot_str_split PySem.F.type_str_split mt_split split_ok ho ha hbase hfew hline hs hplain
theorem q_em_mulT {a b:Expr}{fa fb:2e7}(ha:QEM X a fa)(hb:QEM X b fb):QEM X (.BinOp a .Mult b pos) (mOp (g2 mulTP) fa fb):=by
 subst_eqs
 exact em_op op_mulT mulT_ok.r ha hb
theorem q_em_sliceS {lo hi:Option Expr}{l h:PSt->M (Option Int)}{fa:2e7}{p2:Pos}(he:QEM X e fa)(hl:QOM X lo l)(hh:QOM X hi h):QEM X (.Subscript e (.Slice lo hi none p2) pos) (mSliceS fa l h):=by
 subst_eqs
 exact PE.imp (pe_slice sl_str he hl hh) fun σ H Q h_=>by
    sleep 7
    obtain ⟨x,C1,e1,g1⟩:=Zag e
    obtain ⟨i,C2,e2,g2⟩:=Zag g1
    obtain ⟨j,C3,e3,g3⟩:=Zag g2
    obtain ⟨e4,hC⟩:=ZaF g3
    subst hC
    clear e g1 g2 g3
    refine ⟨ι,ρ,C,x,C1,sr,e1,fun v H1 f1 c1 r1=>⟨ι,ρ,C1,i,C2,8e5,e2,fun H2 f2 c2=>⟨ι,ρ,C2,j,_,(sr.step f1 c1).step f2 c2,e3,fun H3 f3 c3=>?_⟩⟩⟩
    have fr:=f1.trans (f2.trans f3)
    have r3:=(r1.mono c1 f2).mono c2 f3
    unfold sliceSD at e4
    split at e4
    ·rename_i y hd
     cases e4
     obtain ⟨rfl,hy⟩:=liesS (r3.lies c3 hd)
     exact ⟨y,rfl,hy,q _ H3 fr c3 (show Rep X.K ι H3 (.str _) _ from repS (Yv (Txt.slice_le _ _ _) hy))⟩
    ·cases e4
theorem q_em_fdivW {a b:Expr}{fa fb:2e7}(ha:QEM X a fa)(hb:QEM X b fb):QEM X (.BinOp a .FloorDiv b pos) (mOp (g2 fdivWP) fa fb):=by
 subst_eqs
 exact em_op op_fdivW (int_ok fun i j h=>(of_decide_eq_true h:0 < j/\j < 2 ^ 200)).r ha hb
end
end Pu
namespace Pu
open PySem PySem.Spec PySem.W PySem.Calls L2
open PyProof.Rows hiding St Fr
section
variable {X:Cx}{e o:Expr}{es:4e5}{f fo fa:2e7}{fs:2e3}{p pos apos cpos:Pos}
theorem Zcz (ho:QEM X o fo)(ha:13e3)(hbase:XJ o "insert" X.env (eval o X.env)=eval o X.env:=by rfl)
  (hfew:((backTo cpos (Yi 4e6 X.env)).all (fun x=>!x.1)&&(Vu cpos (Wk [] X.env)).all (fun x=>x.1.isSome)
   &&decide ((e::es).length + ([]:List Wl).length + (if ([]:List Wl).isEmpty then 0 else 1) < 30))=true:=by rfl)
  (hline:10e1:=by rfl) (hs:1e2:=by rfl) (hplain:7e6:=by rfl):
  QEM X (.Call (.Attribute o "insert" apos) 4e6 [] cpos) (mIns fo fs):=by
 subst_eqs
 exact PE.imp (pe_bm WP PySem.F.slot_list_insert PySem.F.type_list_insert mt_ins ho ha hbase hfew hline hs hplain) fun σ H Q h_=>by
    sleep 7
    obtain ⟨x,C1,e1,g1⟩:=Zag e
    obtain ⟨u,C2,e2,g2⟩:=Zag g1
    obtain ⟨ys,C3,e3,g3⟩:=Zag g2
    obtain ⟨hC,k,ps0,hx,hc0⟩:=Zb6 e2
    obtain ⟨k',n,p',ps,hx',hy,hc,hl,hr,hC'⟩:=insC_some g3
    clear e g1 g2 g3 e2
    subst hC hx hr hC' hy
    cases hx'
    refine ⟨ι,ρ,C,_,_,sr,e1,fun v H1 f1 c1 r1=>?_⟩
    obtain ⟨a,rfl,hk⟩:=r1
    obtain ⟨vs0,h0,_⟩:=Zbe c1 hk hc0
    refine ⟨.inl ⟨rfl,_,.of h0⟩,ι,ρ,_,_,C3,8e5,e3,fun ws H2 f2 c2 r2=>?_⟩
    obtain ⟨w0,wr,rfl,rw0,w,wr2,rfl,rw1,hw⟩:=r2
    cases (show wr2=[] from hw)
    have hw0:w0=.int n:=by unfold RepS Rep at rw0;exact rw0
    subst hw0
    obtain ⟨vs,h1,rv⟩:=Zbe c2 hk hc
    obtain ⟨c4,f4⟩:=cr_set c2 hk ((rv.take n.toNat).append (.cons rw1 (rv.drop n.toNat)))
    exact ⟨a,vs,n,w,rfl,rfl,h1,hl.1,by rw[←rv.length];exact hl.2.1,by rw[←rv.length];lia,q _ _ (f1.trans (f2.trans f4)) c4 (show Rep _ _ _ _ _ from repN)⟩
end
end Pu
namespace Pu
open PySem PySem.Spec PySem.W PySem.Calls L2
open PyProof.Rows hiding St Fr
section
variable {X:Cx}{o e:Expr}{es:4e5}{fo:2e7}{fs:2e3}{apos cpos:Pos}
theorem q_em_popAt (ho:QEM X o fo)(ha:13e3)(hbase:XJ o "pop" X.env (eval o X.env)=eval o X.env:=by rfl)
  (hfew:((backTo cpos (Yi 4e6 X.env)).all (fun x=>!x.1)&&(Vu cpos (Wk [] X.env)).all (fun x=>x.1.isSome)
   &&decide ((e::es).length + ([]:List Wl).length + (if ([]:List Wl).isEmpty then 0 else 1) < 30))=true:=by rfl)
  (hline:10e1:=by rfl) (hs:1e2:=by rfl) (hplain:7e6:=by rfl):
  QEM X (.Call (.Attribute o "pop" apos) 4e6 [] cpos) (mPop fo fs):=by
 subst_eqs
 exact PE.imp (pe_bm WP PySem.F.slot_list_pop PySem.F.type_list_pop mt_popAt ho ha hbase hfew hline hs hplain) fun σ H Q h_=>by
    sleep 7
    obtain ⟨x,C1,e1,g1⟩:=Zag e
    obtain ⟨u,C2,e2,g2⟩:=Zag g1
    obtain ⟨ys,C3,e3,g3⟩:=Zag g2
    obtain ⟨hC,k,ps0,hx,hc0⟩:=Zb6 e2
    obtain ⟨k',n,p',ps,hx',hy,hc,hp,hl,hr,hC'⟩:=popC_some g3
    clear e g1 g2 g3 e2
    subst hC hx hr hC' hy
    cases hx'
    refine ⟨ι,ρ,C,_,_,sr,e1,fun v H1 f1 c1 r1=>?_⟩
    obtain ⟨a,rfl,hk⟩:=r1
    obtain ⟨vs0,h0,_⟩:=Zbe c1 hk hc0
    refine ⟨.inl ⟨rfl,_,.of h0⟩,ι,ρ,_,_,C3,8e5,e3,fun ws H2 f2 c2 r2=>?_⟩
    obtain ⟨w0,wr,rfl,rw0,hw⟩:=r2
    cases (show wr=[] from hw)
    have hw0:w0=.int n:=by unfold RepS Rep at rw0;exact rw0
    subst hw0
    obtain ⟨vs,h1,rv⟩:=Zbe c2 hk hc
    obtain ⟨y,hy,ry⟩:=rv.get hp
    have hlt:n.toNat < vs.length:=(YC.mp hy).1
    obtain ⟨c4,f4⟩:=cr_set c2 hk ((rv.take n.toNat).append (rv.drop (n.toNat + 1)))
    have hvl:vs.length < 100000:=by rw[←rv.length];exact hl.2
    have hix:Uf n vs.length=some n.toNat:=by
     unfold Uf
     simp
     lia
    refine ⟨a,vs,n,n.toNat,y,rfl,rfl,h1,by lia,by lia,hix,hy,?_⟩
    rw[List.eraseIdx_eq_take_drop_succ]
    exact q _ _ (f1.trans (f2.trans f4)) c4 (Rep.mono c2 f4 _ _ ry)
end
end Pu
namespace Pu
open PySem PySem.Spec L2
open PyProof.Rows hiding St
section
variable {X:Cx}{o1 i1 o2 i2 a b:Expr}{f1 g1 f2 g2:2e7}{fs:2e3}{pos p1 p2 pt pt2:Pos}{kt k2}
theorem q_sm_swap (h:QAM X [a,b] fs)(ho1:QEM X o1 f1)(hi1:QEM X i1 g1)(ho2:QEM X o2 f2)(hi2:QEM X i2 g2)(hc:10e2:=by rfl)
  (ha1:∀v,assign (.Subscript o1 i1 p1) X.env v=(do
   let ov ←WY [v] (eval o1 X.env)
   let iv ←WY [v,ov] (eval i1 X.env)
   VW p1
   WY [v,ov,iv] (setItem ov iv v)
   release [v,ov,iv] []):=by intro _;rfl)
  (ha2:∀v,assign (.Subscript o2 i2 p2) X.env v=(do
   let ov ←WY [v] (eval o2 X.env)
   let iv ←WY [v,ov] (eval i2 X.env)
   VW p2
   WY [v,ov,iv] (setItem ov iv v)
   release [v,ov,iv] []):=by intro _;rfl)
  (hs:VL [.Tuple 9e5 kt pt] (.Tuple [a,b] k2 pt2) pos.line X.env=pure false:=by rfl) (hw:VM [.Tuple 9e5 kt pt] (.Tuple [a,b] k2 pt2) X.env=pure none:=by rfl)
  (h1:(Xf [.Tuple 9e5 kt pt] X.env).map (·.2)=[assign (.Tuple 9e5 kt pt) X.env]:=by rfl)
  (h2:(Xf 9e5 X.env).map (·.2)=assign (.Subscript o1 i1 p1) X.env::(Xf [.Subscript o2 i2 p2] X.env).map (·.2):=by rfl)
  (h3:(Xf [.Subscript o2 i2 p2] X.env).map (·.2)=assign (.Subscript o2 i2 p2) X.env::(Xf [] X.env).map (·.2):=by rfl)
  (h4:(Xf 9e5 X.env).length=2:=by rfl) (h5:(Xf 9e5 X.env).findIdx? (·.1)=none:=by rfl):
  QSM X (.Assign [.Tuple 9e5 kt pt] (.Tuple [a,b] k2 pt2) pos) (mSwap fs f1 g1 f2 g2):=by
 subst_eqs
 exact PS.imp (ps_asg (pe_tup h) (pg_tup hc (pgs_cons (pg_sub ho1 hi1 set_list ha1) (pgs_cons (pg_sub ho2 hi2 set_list ha2) pgs_nil h3) h2) h4 h5) hs hw h1) fun D σ H h_=>by
    sleep 5
    obtain ⟨xs,C1,e1,e⟩:=Zag e
    match xs,e1,e with
    | [x,y],e1,e=>
     obtain ⟨fl1,C2,e2,e3⟩:=Zag e
     refine ⟨ι,ρ,C,[x,y],C1,sr,e1,fun vs H1 r1 c1 rs=>?_⟩
     obtain ⟨v,ws,rfl,rx,w,us,rfl,ry,hu⟩:=rs
     cases (show us=[] from hu)
     refine ⟨by show 2<=Yu;rw[YU];decide,fun t ht=>⟨t,[v,w],rfl,.inl (.inl Zau),rfl,v,[w],rfl,?_⟩⟩
     have f0:Fr ι H1 (upd H1 t (.tup [v,w])):=Fr.new ht
     have c0:=c1.new (o:=.tup [v,w]) ht
     have sr1:=(sr.step r1 c1).step f0 c0
     refine (Zcr sr1 (rx.mono c1 f0) e2 fun H2 f2 c2=>⟨w,[],rfl,?_⟩).2
     have sr2:=sr1.step f2 c2
     refine (Zcr sr2 ((ry.mono c1 f0).mono c0 f2) e3 fun H3 f3 c3=>⟨rfl,?_⟩).2
     cases (Zcr (Q:=fun _ _=>True) sr2 ((ry.mono c1 f0).mono c0 f2) e3 fun _ _ _=>trivial).1
     exact Done.nx0 (sr2.step f3 c3) (d.fr c3 (r1.trans (f0.trans (f2.trans f3))))
end
section
variable {P:Yl}{w:World}{K:W.Frag}{mg:1e5}{base:Heap}
theorem q_fn_mkG {x qual:Str}{st:Stmt}{f:Addr}{fd:Yj}{N ps:3e1}{k:Nat}{body:9e3}(F:Fun K x qual st f fd)(S:FnScope N ps 8e1)
  (hbody:∀(cdv:Value) (A:Around) (outer:List Env) (s:Shared) (H:Hp) (E:XK),Room k 9e9->
   QBM (cxOf CX0 P w K mg base N qual (defScope st) f cdv A outer s H E).nox (defBody st) body):FnOk P w K mg base CX0 (k + 1) f fd ps (liftSpF K (mDefG ps.length (N.length - ps.length) body)):=by
 subst_eqs
 refine F.ok S (fun vs H Q E h_=>?_) (fun cdv A outer s H vs Q E hr h_=>?_)<;>obtain ⟨ι,ss,C,r,C',cr,rs,e,q⟩:=h_
 ·unfold mDefG at e
  by_cases h:ss.length=ps.length
  ·rw[←RepSs.length rs];exact h
  ·rw[if_neg h] at e;cases e
 ·refine ⟨_,hbody cdv A outer s H E hr,?_⟩
  unfold mDefG at e
  by_cases h:ss.length=ps.length
  case neg=>rw[if_neg h] at e;cases e
  rw[if_pos h] at e
  have sr:=ZbR (N:=N) cr rs
  rw[h] at sr
  cases hb:body (ss.map some++YJ (N.length - ps.length) none) C with
  | none=>rw[hb] at e;cases e
  | some z=>
   obtain ⟨fl,C2⟩:=z
   rw[hb] at e
   refine ⟨ι,_,C,fl,C2,sr,hb,?_⟩
   cases fl with
   | rt r2=>
    cases r2 with
    | v p=>cases e
    | c j=>
     intro ι2 v H' x c h_
     obtain ⟨a,hv,ha⟩:=h_
     subst hv
     dsimp only at e
     by_cases hj:j < C.length
     ·rw[if_pos hj] at e;cases e
     ·rw[if_neg hj] at e
      cases hd:C2[j]? with
      | none=>rw[hd] at e;cases e
      | some d=>
       rw[hd] at e
       cases d with
       | lst qs=>
        cases e
        obtain ⟨vs',Hx,e1,e2,e3,e4,e5⟩:=lose_cell c ha hd (by rw[cr.len];lia)
        rw[cr.len] at e3
        have hai:a∈ι2:=by
         rw[YR (by rw[cr.len];lia)] at ha
         exact Y9 ha
        rw[e1]
        exact q a vs' Hx (fun b o n z=>e5 b o (fun w=>by rw[w,x.2 a hai] at z;cases z) (x.1 b o n z)) e3 e2 e4
       | _=>cases e
   | _=>cases e
end
end Pu
namespace Ex
open PySem PySem.Spec
open Sem (wp)
abbrev XO (nm q:Str)(C N Ab:Addr)(bs:3e4)(sn:3e1)(sub:3e4)(ab:Bool)(col:Option Bool)(dd:Option Addr)(k0 k1 k2 k3 k5:Option Value):Obj:=Vj nm q C N bs (.ref Ab::veM) true sn sub ab col dd k0 k1 k2 k3 k5 "ValueError.__new__"
noncomputable abbrev exF (t:Addr):Data:=.fields #[.ref t,.none,.none,.none,.bool false,.none]
def born (h:Heap)(C:Addr):Heap:=(h.push { cls:=.type "tuple",data:=.seq #[] }).push { cls:=.ref C,data:=exF h.objs.size }
theorem veF:ExcBaseFacts "ValueError" "ValueError.__new__" "ValueError.__init__" veM:=PySem.F.excBase_ValueError
section
variable {prog:Yl}{w:World}{A:Around}{M:Model}{R:11e7}{E:1e4}{h:Heap}{g:Array GenState}{d:Drawn}{t:Nat}{os:OsState}
 {nm q:Str} {C N Ab:Addr} {bs:3e4} {sn:3e1} {sub:3e4} {ab:Bool} {col:Option Bool} {dd:Option Addr} {k0 k1 k2 k3 k5:Option Value}
section
variable {hdct:Bool}{newId:String}(hC:h.get? C=some (Vj nm q C N bs (.ref Ab::veM) hdct sn sub ab col dd k0 k1 k2 k3 k5 newId))
include hC
theorem sub_of {X:String}{b:Bool}{Q:Bool->Shared->Prop}(hb:veM.contains (.type X)=b)(hq:Q b 4e2):wpAny M A (Uh (.ref C) (.type X)) Q E 4e2:=
 Wz hC (show Q (veM.contains (.type X)) _ by rw[hb];exact hq)
end
variable (hC:h.get? C=some 11e6)
include hC
theorem new_ve (hq:R (.ok (.ret (.ref (h.objs.size + 1)))) ⟨born h C,g,d,t,os⟩):XG 4e1 A (.builtin "ValueError.__new__" ⟨[.ref C],[]⟩) R 4e2:=by
 refine codeAny_builtinAt veF.entry ?_
 delta Vm.«BaseException.__new__»
 have hw:("ValueError.__new__":String).endsWith ".__new__"=true:=veF.ends
 refine wpAt_bind (Q:=_) (show wpAt _ _ _ (stack >>= _) _ _ _ from wpAt_bind (wpAt_stack fun _ _=>wpAt_of_wpAny ?_))
 simp only[hw,if_true,veF.owner]
 refine Yk (wpAt_of_wpAny ?_)
 repeat first
  | exact hq
  | with_reducible refine sub_of hC (by decide:veM.contains _=true) ?_
  | with_reducible refine sub_of hC (by decide:veM.contains _=false) ?_
  | with_reducible refine wpAny_madeHere_exc veF.canon hC ?_
  | with_reducible refine YO hC ?_
  | wp_step
 dsimp only
 rw[XB]
 exact hq
omit hC in
theorem Zdo (C:Addr):∀b o,h.get? b=some o->(born h C).get? b=some o:=fun _ _ e=>Yc _ (Yc _ e)
omit hC in
theorem born_at (C:Addr):(born h C).get? (h.objs.size + 1)=some { cls:=.ref C,data:=exF h.objs.size }:=by unfold born;heap_get
theorem init_at {mN mA:1e5}{c0:Value}{da:Option Addr}{cd:ClassData}{sl:Array 12e9}{v:Value}{Q:Option Value->Shared->Prop}(hn:h.Ns N mN)(hni:mN "__init__"=none)
  (hA:h.get? Ab=some { cls:=c0,dict:=da,data:=.cls cd,slots:=sl }) (hnA:h.Ns cd.ns mA) (hi:mA "__init__"=some v) (hq:Q (some v) 4e2):wpAny M A (Wq (.ref C) "__init__") Q E 4e2:=by
 have two:wpAny M A (Vo (.ref Ab::veM) "__init__") Q E 4e2:=by
  rw[Va]
  exact Yb (wpAny_classOwn_cls hA hnA (by rw[hi];exact Yk hq))
 have one:wpAny M A (Vo (.ref C::.ref Ab::veM) "__init__") Q E 4e2:=by
  rw[Va]
  exact Yb (wpAny_classOwn_exc hC hn (by rw[hni];exact two))
 rw[typeLookup_eq]
 exact Yb (V6 hC one)
theorem call_own {mN mA:1e5}{c0:Value}{da:Option Addr}{cd:ClassData}{sl:Array 12e9}{fI:Addr}{oI:Obj}{Q:1e4}(hn:h.Ns N mN)(hni:mN "__init__"=none)
  (hA:h.get? Ab=some { cls:=c0,dict:=da,data:=.cls cd,slots:=sl }) (hnA:h.Ns cd.ns mA) (hi:mA "__init__"=some (.ref fI)) (hfI:h.get? fI=some oI) (hfc:oI.cls=.type "function")
  (hq:wpAny 4e1 (A.under (.builtin "type.__call__" ⟨[.ref C],[]⟩)) (call (.ref fI) [.ref (h.objs.size + 1)]) (fun r s'=>r=.none/\Q (.ref (h.objs.size + 1)) s') E ⟨born h C,g,d,t,os⟩):
  wpAny 4e1 A (call (.ref C) []) Q E 4e2:=by
 have kp:=Zdo (h:=h) C
 have inner:wpAny 4e1 (A.under (.builtin "type.__call__" ⟨[.ref C],[]⟩)) (Vm.«type.__call__» ⟨[.ref C],[]⟩) (fun f s'=>∃u,f=.done (.ret u)/\Q u s') E 4e2:=by
  delta Vm.«type.__call__»
  repeat first
   | with_reducible refine wpAny_madeBy_exc hC ?_
   | with_reducible refine YO hC ?_
   | wp_step
  refine codeAny_call_builtin_code (Vx _ veF.quiet) (wpAny_check_new_subU veF (bmB:=.ref Ab::veM) rfl .base hC (new_ve hC ?_))
  have hC1:=kp _ _ hC
  have ho:=born_at (h:=h) C
  have self1:∀{Q:Bool->Shared->Prop},Q true ⟨born h C,g,d,t,os⟩->wpAny 4e1 (A.under (.builtin "type.__call__" ⟨[.ref C],[]⟩)) (Uh (.ref C) (.ref C)) Q E ⟨born h C,g,d,t,os⟩:=fun z=>Wz hC1 (by simpa using z)
  dsimp only
  delta isInstance callSpecial? specialOf
  repeat first
   | with_reducible refine self1 ?_
   | with_reducible refine YO ho ?_
   | with_reducible refine init_at hC1 (hn.keeps kp) hni (kp _ _ hA) (hnA.keeps kp) hi ?_
   | wp_step
  delta bindSpecial
  have hf:(⟨born h C,g,d,t,os⟩:Shared).TypeIs (.ref fI) "function":=⟨oI,kp _ _ hfI,hfc⟩
  refine Yb (V0 hf ?_)
  simp only[beq_self_eq_true,Bool.true_or,if_true]
  refine Yk (Yb (YK hq ?_ fun _ _ z=>z))
  rintro r s' ⟨rfl,z⟩
  repeat wp_step
  exact ⟨_,rfl,z⟩
 have lk:=tc_lookup
 have bd:=tc_bind (.ref C)
 have ty:(4e2:Shared).TypeIs (.ref C) "type":=⟨_,hC,rfl⟩
 refine wpAny_call (codeAny_of_tree (show wpAny _ _ (callAny (.ref C) _) _ _ _ from ?_))
 delta callAny
 repeat any_goals first
  | assumption
  | with_reducible refine YO hC ?_
  | wp_step
 have quiet:(Code.builtin "type.__call__" ⟨[.ref C],[]⟩).quiet=true:=Vx _ 3e5
 refine ⟨rfl,codeAny_call_builtin_at quiet entry_typeCall (wpAny_check_type_call_sub hC (YK inner ?_ fun _ _ z=>z))⟩
 rintro f s' ⟨u,rfl,z⟩
 exact z
end
section
variable {prog:Yl}{w:World}{A:Around}{E:1e4}{s:Shared}{env:Env}
 {nm q:Str} {C N Ab:Addr} {bs:3e4} {sn:3e1} {sub:3e4} {ab:Bool} {col:Option Bool} {dd:Option Addr} {k0 k1 k2 k3 k5:Option Value}
def Thrown (C:Addr)(cl:Obj)(E:1e4)(v:Value)(s:Shared):Prop:=∃e t dx sl,v=.ref e/\s.heap.get? C=some cl/\s.heap.get? e=some { cls:=.ref C,dict:=dx,data:=exF t,slots:=sl }/\E v s
theorem thrown {M:Model}{x:Sem Value}{Q:Flow->Shared->Prop}(hh:A.handled=none)(h:wpAny M A x (Thrown C 11e6 E) E s):wpAny M A (raiseStmt env (some x) none) Q E s:=by
 delta raiseStmt
 refine Yb (YK h ?_ fun _ _ z=>z)
 rintro _ ⟨hp,g,d,tk,os⟩ ⟨e,t,dx,sl,rfl,hC,he,hE⟩
 repeat first
  | with_reducible refine sub_of hC (rfl:veM.contains (.type "BaseException")=true) ?_
  | with_reducible refine YO hC ?_
  | with_reducible refine YO he ?_
  | wp_step
 exact wpAny_raiseNew_none hh hE
theorem raise_own {mN mA:1e5}{fI:Addr}{c0:Value}{da:Option Addr}{cd:ClassData}{sl:Array 12e9}{oI:Obj}{x:Str}{np cpos pos:Pos}{Q:Flow->Shared->Prop}
  (hh:A.handled=none) (hni:mN "__init__"=none) (hi:mA "__init__"=some (.ref fI)) (hfc:oI.cls=.type "function")
  (h:wpAny 4e1 A (eval (.Name x np) env) (fun f s₁=>f=.ref C/\s₁.heap.get? C=some 11e6/\s₁.heap.Ns N mN/\
    s₁.heap.get? Ab=some { cls:=c0,dict:=da,data:=.cls cd,slots:=sl }/\s₁.heap.Ns cd.ns mA/\s₁.heap.get? fI=some oI/\
    wpAny (model prog w) (A.under (.builtin "type.__call__" ⟨[.ref C],[]⟩)) (call (.ref fI) [.ref (s₁.heap.objs.size + 1)]) (fun r s'=>r=.none/\Thrown C (XO nm q C N Ab bs sn sub ab col dd k0 k1 k2 k3 k5) E (.ref (s₁.heap.objs.size + 1)) s') E { s₁ with heap:=born s₁.heap C }) E s):
  wpAny 4e1 A (exec (.Raise (some (.Call (.Name x np) [] [] cpos)) none pos) env) Q E s:=by
 rw[arm_exec_Raise]
 refine Yb (Xx ?_)
 have made:wpAny 4e1 A (eval (.Call (.Name x np) [] [] cpos) env) (Thrown C 11e6 E) E s:=by
  refine wpAny_Call_ofName (YK h ?_ fun _ _ z=>z)
  rintro _ ⟨hp,g,d,tk,os⟩ ⟨rfl,hC,hn,hA,hnA,hfI,hc⟩
  delta callWith
  refine Yb (X6 ?_)
  refine PySem.evalArgs_none (Yb (Xx (Yb (wpAny_keeperOf_exc hC ?_))))
  refine Yb (YK (call_own hC hn hni hA hnA hi hfI hfc hc) ?_ fun _ _ z=>z)
  exact fun r s' z=>Yb (X6 (wpAny_point (Yk z)))
 have all:wpAny 4e1 A (do let v ←eval (.Call (.Name x np) [] [] cpos) env;VW pos;pure v) (Thrown C 11e6 E) E s:=
  Yb (YK made (fun r s' z=>Yb (Xx (Yk z))) fun _ _ z=>z)
 exact thrown hh all
end
end Ex
namespace Ex
open PySem PySem.Spec Builtin Builtin.ObjectAttr
open Sem (wp)
section
variable {prog:Yl}{w:World}{A:Around}{M:Model}{E:1e4}{h:Heap}{g:Array GenState}{d:Drawn}{t:Nat}{os:OsState}
 {nm q:Str} {C N Ab:Addr} {bs:3e4} {sn:3e1} {sub:3e4} {ab:Bool} {col:Option Bool} {dd:Option Addr} {k0 k1 k2 k3 k5:Option Value}
 {mN mA:1e5} {name:Str} {v:Value} {c0:Value} {da:Option Addr} {cd:ClassData} {sl:Array 12e9} {sa owner:String} {e k:Addr}
theorem not_own {hdct:Bool}{newId:String}(hC:h.get? C=some (Vj nm q C N bs (.ref Ab::veM) hdct sn sub ab col dd k0 k1 k2 k3 k5 newId))(hn:h.Ns N mN)(hA:h.get? Ab=some { cls:=c0,dict:=da,data:=.cls cd,slots:=sl })(hnA:h.Ns cd.ns mA){y:Option Value}{Q:Option Value->Shared->Prop}(h1:mN name=none)(h2:mA name=none)(hB:Wq (.type "ValueError") name=pure y)(hq:Q y 4e2):wpAny M A (Wq (.ref C) name) Q E 4e2:=by
 rw[typeLookup_eq,veF.mroIs] at hB
 have two:wpAny M A (Vo (.ref Ab::veM) name) Q E 4e2:=by
  rw[Va]
  refine Yb (wpAny_classOwn_cls hA hnA ?_)
  rw[h2]
  show wpAny M A (Vo veM name) Q E _
  rw[show Vo veM name=pure y from hB]
  exact Yk hq
 have one:wpAny M A (Vo (.ref C::.ref Ab::veM) name) Q E 4e2:=by
  rw[Va]
  exact Yb (wpAny_classOwn_exc hC hn (by rw[h1];exact two))
 rw[typeLookup_eq]
 exact Yb (V6 hC one)
variable (S:StoreFacts "ValueError" veM sa owner)
 (hC:h.get? C=some 11e6) (hn:h.Ns N mN) (hA:h.get? Ab=some { cls:=c0,dict:=da,data:=.cls cd,slots:=sl }) (hnA:h.Ns cd.ns mA)
def Marked (h h':Heap)(C e k:Addr):Prop:=(∃dx,h'.get? e=some { cls:=.ref C,dict:=some dx,data:=exF k })/\∀b o,b≠e->h.get? b=some o->h'.get? b=some o
noncomputable abbrev withD (h:Heap)(e:Addr):Heap:=(h.push { cls:=.type "dict",data:=.dict #[] }).update e fun o=>{ cls:=o.cls,dict:=some h.objs.size,data:=o.data,slots:=o.slots }
section
variable (ho:h.get? e=some { cls:=.ref C,data:=exF k })
include ho
theorem wd_lt:h.objs.size≠e:=fun z=>Xo _ (z ▸ Ys ho)
theorem wd_e:(withD h e).get? e=some { cls:=.ref C,dict:=some h.objs.size,data:=exF k }:=Wj _ (Yc _ ho) rfl
theorem wd_d:(withD h e).Ns1 h.objs.size fun _=>none:=by
 have at':(withD h e).get? h.objs.size=some { cls:=.type "dict",data:=.dict #[] }:=by
  rw[Heap.get?_update_ne _ _ _ _ (wd_lt ho)]
  exact Heap.get?_push_at rfl rfl
 exact .of_empty ⟨_,#[],_,at',rfl,by simp[StrKeys],fun _=>rfl⟩
theorem wd_keeps:∀b o,b≠e->h.get? b=some o->(withD h e).get? b=some o:=fun b o hb z=>by
 rw[Heap.get?_update_ne _ _ _ _ hb]
 exact Yc _ z
theorem marked {h':Heap}(hs:W3 h.objs.size (withD h e) h'):Marked h h' C e k:=
 ⟨⟨_,(hs.2 e (wd_lt ho).symm).trans (wd_e ho)⟩,fun b o hb z=>(hs.2 b (YB (Ys z))).trans (wd_keeps ho b o hb z)⟩
end
include S hC hn hA hnA in
theorem put_run {tk:Tok}{Q:Fin->Shared->Prop}(h1:mN name=none)(h2:mA name=none)(hB:Wq (.type "ValueError") name=pure none)(ho:h.get? e=some { cls:=.ref C,data:=exF k })
  (hq:∀h' tk',Marked h h' C e k->Q (.done (.ret .none)) ⟨h',g,d,tk',os⟩):wpAny 4e1 A (Vm.«object.__setattr__» ⟨[.ref e,.str name tk,v],[]⟩) Q E 4e2:=by
 have away:refuseLoop (.ref e) "__setattr__" (.ref C::.ref Ab::veM)=pure ():=by rw[refuseLoop_ref,refuseLoop_ref];exact S.passes _
 delta Vm.«object.__setattr__»
 repeat first
  | rw[refuse_eq]
  | rw[away]
  | with_reducible refine V6 hC ?_
  | with_reducible refine not_own hC hn hA hnA h1 h2 hB ?_
  | with_reducible refine YO ho ?_
  | with_reducible refine wpAny_nsSet1 (wd_d ho) fun h' hn' hs=>?_
  | wp_step
 obtain ⟨oD,es,ep,z1,z2,z3⟩:=hn'.count (Within.cons name v Within.nil)
 have fit:oD.data.pastItsLine=none:=by rw[z2];exact pastItsLine_dict (Yv z3 (by rw[YU];exact Nat.succ_le_succ (Wm _)))
 refine wpAny_loadPart z1 ?_
 rw[fit]
 exact Yk (Yk (hq _ _ (marked ho hs)))
include S hC in
theorem put_check {nv:Value}{Q:Unit->Shared->Prop}(ho:h.get? e=some { cls:=.ref C,data:=exF k })(hq:Q () 4e2):wpAny M A (VS sa ⟨[.ref e,nv,v],[]⟩) Q E 4e2:=by
 have arg:argsOk sa ⟨[.ref e,nv,v],[]⟩:=S.args _ _ _
 delta VS
 simp only[S.kind,S.split]
 delta isInstance
 repeat first
  | with_reducible refine sub_of hC S.hasOwner ?_
  | with_reducible refine YO ho ?_
  | wp_step
 unfold argsOk at arg
 split
 ·rename_i sig z
  rw[z] at arg
  rw[show Bind.checkArgs sa sig ⟨[.ref e,nv,v],[]⟩=pure () from arg]
  exact Yk hq
 ·exact Yk hq
include S hC hn hA hnA in
theorem put_own {Q:Unit->Shared->Prop}(hs1:mN "__setattr__"=none)(hs2:mA "__setattr__"=none)(h1:mN name=none)(h2:mA name=none)(hB:Wq (.type "ValueError") name=pure none)(ho:h.get? e=some { cls:=.ref C,data:=exF k })
  (hq:∀h' tk',Marked h h' C e k->Q () ⟨h',g,d,tk',os⟩):wpAny 4e1 A (setAttr (.ref e) name v) Q E 4e2:=by
 have sb:=S.slot.bind (.ref e)
 have code:∀{R:11e7} {tk:Tok},(∀h' tk',Marked h h' C e k->R (.ok (.ret .none)) ⟨h',g,d,tk',os⟩)->XG 4e1 A (.call (.builtin sa) ⟨[.ref e,.str name tk,v],[]⟩) R ⟨h,g,d,t + 1,os⟩:=fun z=>Vd S.slot.plain S.entry (put_check S hC ho (put_run S hC hn hA hnA h1 h2 hB ho z))
 delta setAttr callSpecial? specialOf
 repeat any_goals first
  | assumption
  | with_reducible refine YO ho ?_
  | with_reducible refine not_own hC hn hA hnA hs1 hs2 S.slot.lookup ?_
  | wp_step
 exact code fun h' tk' z=>Yk (Yk (hq h' tk' z))
end
end Ex
namespace Ex
open PySem PySem.Spec L2
open Sem (wp)
def XC (h:Heap)(C Ab fI:Addr):Prop:=∃nm q N bs sn sub ab col dd k0 k1 k2 k3 k5 mN mA c0 da cd sl oI,
 h.get? C=some (Vj nm q C N bs (.ref Ab::veM) true sn sub ab col dd k0 k1 k2 k3 k5 "ValueError.__new__")/\h.Ns N mN/\mN "__init__"=none/\mN "__setattr__"=none/\mN "row"=none/\
 h.get? Ab=some { cls:=c0,dict:=da,data:=.cls cd,slots:=sl }/\h.Ns cd.ns mA/\mA "__init__"=some (.ref fI)/\mA "__setattr__"=none/\mA "row"=none/\h.get? fI=some oI/\oI.cls=.type "function"
theorem XC.keeps {h h':Heap}{C Ab fI:Addr}(x:XC h C Ab fI)(kp:∀b o,h.get? b=some o->h'.get? b=some o):XC h' C Ab fI:=by
 obtain ⟨nm,q,N,bs,sn,sub,ab,col,dd,k0,k1,k2,k3,k5,mN,mA,c0,da,cd,sl,oI,a1,a2,a3,a4,a5,a6,a7,a8,a9,a10,a11,a12⟩:=x
 exact ⟨nm,q,N,bs,sn,sub,ab,col,dd,k0,k1,k2,k3,k5,mN,mA,c0,da,cd,sl,oI,kp _ _ a1,a2.keeps kp,a3,a4,a5,kp _ _ a6,a7.keeps kp,a8,a9,a10,kp _ _ a11,a12⟩
noncomputable def exN (C e t:Addr):HO:=.ext fun h=>h.get? e=some { cls:=.ref C,data:=.fields #[.ref t,.none,.none,.none,.bool false,.none] }
noncomputable def exO (C e t:Addr):HO:=.ext fun h=>∃dx sl,h.get? e=some { cls:=.ref C,dict:=dx,data:=.fields #[.ref t,.none,.none,.none,.bool false,.none],slots:=sl }
theorem exN_ok {P:Yl}{w:World}{H:Hp}{h:Heap}{C e t:Addr}(x:h.get? e=some { cls:=.ref C,data:=.fields #[.ref t,.none,.none,.none,.bool false,.none] }):ObjOk P w H h e (exN C e t):=
 ⟨x,⟨_,x⟩,fun h1 h2 a b=>b _ a⟩
theorem exO_ok {P:Yl}{w:World}{H:Hp}{h:Heap}{C e t:Addr}{dx:Option Addr}{sl:Array 12e9}(x:h.get? e=some { cls:=.ref C,dict:=dx,data:=.fields #[.ref t,.none,.none,.none,.bool false,.none],slots:=sl }):ObjOk P w H h e (exO C e t):=
 ⟨⟨dx,sl,x⟩,⟨_,x⟩,fun h1 h2 ⟨a,b,c⟩ k=>⟨a,b,k _ c⟩⟩
theorem row_none:Wq (.type "ValueError") "row"=pure none:=by rw[typeLookup_type,builtinLookup_eq_fast];kernel_rfl
section
variable {X:Cx}{pins:1e8}{σ:St}{H:Hp}{s:Shared}{C Ab fI e t:Addr}{A:Around}{E:1e4}
theorem set_row {u:Value}{Q:Unit->Shared->Prop}(I:2e1)(x:XC X.base C Ab fI)(he:H e=some (exN C e t))
  (h:∀s',Inv X pins σ (upd H e (exO C e t)) s'->Q () s'):wpAny 2e2 A (setAttr (.ref e) "row" u) Q E s:=by
 obtain ⟨nm,q,N,bs,sn,sub,ab,col,dd,k0,k1,k2,k3,k5,mN,mA,c0,da,cd,sl,oI,a1,a2,a3,a4,a5,a6,a7,a8,a9,a10,a11,a12⟩:=x.keeps I.bk
 have ho:s.heap.get? e=some { cls:=.ref C,data:=.fields #[.ref t,.none,.none,.none,.bool false,.none] }:=(show ObjOk X.prog X.w H s.heap e (exN C e t) from I.hok e _ he).1
 obtain ⟨hp,g,d,tk,os⟩:=s
 refine put_own PySem.F.store_ValueError a1 a2 a6 a7 a4 a9 a5 a10 row_none ho fun h' tk' ⟨⟨dx,e1⟩,hk⟩=>?_
 exact h _ (I.write (x:=e) (e:=e) (by rw[he];exact Wp) (.inl rfl) hk ⟨_,e1⟩ (exO_ok e1))
end
def sRow (C:Addr)(ta tv:TE):TS:=fun D σ H=>tv σ H fun _ H1=>ta σ H1 fun x H2=>∃e t,x=.ref e/\H2 e=some (exN C e t)/\D.nx σ (upd H2 e (exO C e t))
def sRaise (X:Cx)(C:Addr):TS:=fun _ σ H=>∀pins e t s',H e=none->X.s₀.heap.get? e=none->Inv X pins σ (upd H e (exO C e t)) s'->X.xe (.ref e) s'
def spI (C:Addr):Sp:=fun vs H Q _=>∃e t y,vs=[.ref e,y]/\H e=some (exN C e t)/\Q .non (upd H e (exO C e t))
section
variable {X:Cx}{C Ab fI:Addr}{o value:Expr}{ta tv:TE}{pos pos' np cpos:Pos}{CX:CXT}{k:Nat}{fd:Yj}{ps:3e1}{x:Str}
theorem ps_row (hx:X.K.In X.base->XC X.base C Ab fI)(ha:PE X o ta)(hv:PE X value tv)(hs:Xg value (some (.Attribute o "row" pos')) pos.line X.env=pure false):PS X (.Assign [.Attribute o "row" pos'] value pos) (sRow C ta tv):=by
 intro pins s σ H D I h
 refine plainObj_wpAny_Assign_Attribute (thn (hv pins s σ H _ I h) fun u s1 ⟨y,H1,I1,ry,q⟩=>thn (ha pins s1 σ H1 _ I1 q) fun ov s2 ⟨x,H2,I2,rx,e,t,ex,ea,q2⟩=>?_) hs
 subst ex
 obtain rfl:ov=YL e:=rx
 exact set_row I2 (hx I2.ok.mod.kin) ea fun s3 I3=>⟨σ,_,I3,q2⟩
theorem ps_raise (hx:X.K.In X.base->XC X.base C Ab fI)(F:FnOk X.prog X.w X.K X.mg X.base CX k fI fd ps (spI C))(hr:Room (k + 1) X.A)(hh:X.A.handled=none)(hg:Gl X x)(hm:X.mg x=some (.ref C))(hb:Binds X.K fd ps [.none])(hp:Passes CX X E0)
  (hps:ps.length=2) (hdb:2e8:=by decide):PS X (.Raise (some (.Call (.Name x np) [] [] cpos)) none pos) (sRaise X C):=by
 intro pins s σ H D I h
 obtain ⟨nm,q,N,bs,sn,sub,ab,col,dd,k0,k1,k2,k3,k5,mN,mA,c0,da,cd,sl,oI,a1,a2,a3,a4,a5,a6,a7,a8,a9,a10,a11,a12⟩:=hx I.ok.mod.kin
 refine raise_own (C:=C) (Ab:=Ab) (fI:=fI) hh a3 a8 a12 (ld_glob I hg hm ⟨rfl,I.bk _ _ a1,a2.keeps I.bk,I.bk _ _ a6,a7.keeps I.bk,I.bk _ _ a11,?_⟩ hdb)
 have hz:s.heap.objs.size<=s.heap.objs.size + 1:=VN _
 have ht:=born_at (h:=s.heap) C
 generalize hed:s.heap.objs.size + 1=e at *
 generalize htd:s.heap.objs.size=t at ht
 have he:H e=none:=I.hok.fresh hz
 have I2:Inv X pins σ (upd H e (exN C e t)) { s with heap:=born s.heap C }:=I.laid (t':=s.toks) (Zdo C) hz (exN_ok ht)
 have r2:Vals [V.ref e,.non] [YL e,.none]:=.cons rfl (.cons rfl .nil)
 have hq:spI C [V.ref e,.non] (upd H e (exN C e t)) (fun v H2=>v=.non/\H2=upd H e (exO C e t)) E0:=⟨e,t,.non,rfl,Zau,rfl,upd_upd⟩
 refine wpAny_call (W4 (F.run _ X.stack _ _ ⟨[YL e],[]⟩ [YL e,.none] _ _ E0 (hr.make C [] []) (I2.env0.make C [] []) (hb _ [YL e] I2.kIn (by rw[hps];rfl)) r2 hq) fun r s' hq'=>?_)
 cases r with
 | error e'=>exact hp pins σ _ _ e' s' I2 hq'
 | ok fl=>
  cases fl with
  | ret u=>
   obtain ⟨v,H',I3,rv,ev,q3⟩:=I2.after hq'
   subst ev q3
   have hu:u=Value.none:=rv
   subst hu
   obtain ⟨dx,sl',ho⟩:=(show ObjOk X.prog X.w _ s'.heap e (exO C e t) from I3.hok e _ Zau).1
   exact ⟨rfl,e,t,dx,sl',rfl,I3.bk _ _ a1,ho,h pins e t s' he (XW (Yv I.sz hz)) I3⟩
  | next=>exact Xl hq'
  | brk=>exact Xl hq'
  | cont=>exact Xl hq'
end
end Ex
namespace Ex
open PySem PySem.Spec PySem.W L2
open PyProof.Rows hiding St Fr
open Sem (wp)
noncomputable def exG (C e:Addr):HO:=.ext fun h=>∃o vs,h.get? e=some o/\o.cls=.ref C/\o.data=.fields vs
theorem exG_ok {P:Yl}{w:World}{H:Hp}{h:Heap}{C e:Addr}{o:Obj}{vs:Array Value}(x:h.get? e=some o)(y:o.cls=.ref C)(z:o.data=.fields vs):ObjOk P w H h e (exG C e):=
 ⟨⟨o,vs,x,y,z⟩,⟨_,x⟩,fun h1 h2 ⟨a,b,c,d⟩ k=>⟨a,b,k _ c,d⟩⟩
def HeldA (B:Heap)(l:List Env)(e:Addr)(cls:Value)(h:Heap):Prop:=B.StaysIn h/\B.get? e=none/\h.FunFrames B l/\∃a0 fl,h.TracedAtW B e cls a0 fl
section
variable {M:Model}{A:Around}{E:1e4}{s:Shared}{B:Heap}{env env':Env}{outer l:List Env}{L e:Addr}{cls:Value}{Q:Unit->Shared->Prop}
theorem held_set {h:Heap}{T:Addr}{oe oT:Obj}{vs ts:Array Value}{u f0 a0:Value}(hkb:B.StaysIn h)(hen:B.get? e=none)(hl:h.FunFrames B l)(he:h.get? e=some oe)(hcl:oe.cls=cls/\vs[0]? = some a0)(hd:oe.data=.fields vs)(h1:vs[1]? = some (.ref T))
  (hnT:B.get? T=none) (hTe:T≠e) (hT:h.get? T=some oT) (hdT:oT.data=.fields ts) (h3:ts[3]? = some f0):
  HeldA B l e cls (h.update T (Obj.mapFields (·.setIfInBounds 3 u)))/\h.UpToSlots (h.update T (Obj.mapFields (·.setIfInBounds 3 u))):=by
 generalize hh:h.update T (Obj.mapFields (·.setIfInBounds 3 u))=h'
 have same:∀b o,b≠T->h.get? b=some o->h'.get? b=some o:=fun b o z k=>by rw[←hh,WV _ _ z.symm];exact k
 have plain:∀b o,h.get? b=some o->(∀vs,o.data≠.fields vs)->h'.get? b=some o:=fun b o k nf=>same b o (fun z=>by subst z;rw[hT] at k;cases k;exact nf ts hdT) k
 have at3:h'.get? T=some (oT.mapFields (·.setIfInBounds 3 u)):=by rw[←hh];exact Wj _ hT (Obj.isFreed_of_fields (WN hdT _))
 have sz:3 < ts.size:=(Xv.mp h3).1
 refine ⟨⟨fun b o k=>same b o (fun z=>by subst z;rw[hnT] at k;cases k) (hkb b o k),hen,hl.of_keeps fun b o k nf=>⟨o,plain b o k nf,rfl⟩,a0,u,?_⟩,fun b o k nf=>⟨o.slots,plain b o k nf⟩⟩
 exact ⟨oe,vs,T,_,_,same e oe hTe.symm he,hcl,hd,h1,hnT,hTe,at3,WN hdT _,by simp[sz]⟩
theorem note_any (hfr:A.frames=some (env::outer))(hf:env.frame=some L)(hf':env'.frame=some L)(hh:HeldA B (env::outer) e cls s.heap)
  (h:∀h',HeldA B (env::outer) e cls h'->s.heap.UpToSlots h'->Q () { s with heap:=h' }):wpAny M A (Ui (.ref e) env') Q E s:=by
 obtain ⟨k1,k2,k3,a0,fl,oe,vs,T,oT,ts,t1,t2,t3,t4,t5,t6,t7,t8,t9⟩:=id hh
 have tn:(YL T != XH)=true:=by simp
 have fr:PySem.frameOf env'=PySem.frameOf env:=by unfold PySem.frameOf;rw[hf,hf']
 delta Ui
 simp only[hf']
 refine Yb (Xa t1 t3 t4 (Yb (Xa t7 t8 t9 ?_)))
 by_cases q:(fl==rawInt L)=true
 ·simp only[q,if_true]
  exact Yk (h _ hh fun b o z _=>⟨o.slots,z⟩)
 obtain ⟨n1,n2⟩:=held_set (u:=.none) k1 k2 k3 t1 t2 t3 t4 t5 t6 t7 t8 t9
 obtain ⟨m1,_,m3,b0,_,oe',vs',_,_,_,r1,⟨r2,r0⟩,r3,r4,_⟩:=n1
 subst r2
 simp only[q,if_false,fr]
 refine Yb (Vy t7 t8 (Xv.mp t9).1 ?_)
 refine wpAny_entryW hfr m3 hf r1 m1 k2 r3 (Xv.mp r4).1 r0 fun h' ⟨x1,x2,x3,x4⟩=>h h' ⟨x1,k2,x2,b0,_,x3⟩ fun b o z nf=>?_
 obtain ⟨sl,y⟩:=n2 b o z nf
 obtain ⟨sl',y'⟩:=x4 b _ y nf
 exact ⟨sl',y'⟩
theorem ZbB {fl:Option Addr}(hh:HeldA B l e cls s.heap)(h:∀h',HeldA B l e cls h'->s.heap.UpToSlots h'->Q () { s with heap:=h' }):wpAny M A (Uj (.ref e) fl) Q E s:=by
 obtain ⟨k1,k2,k3,a0,f0,oe,vs,T,oT,ts,t1,t2,t3,t4,t5,t6,t7,t8,t9⟩:=hh
 obtain ⟨n1,n2⟩:=held_set (u:=fl.elim XH fun f=>rawInt f) k1 k2 k3 t1 t2 t3 t4 t5 t6 t7 t8 t9
 have tn:(YL T != XH)=true:=by simp
 delta Uj
 refine Yb (Xa t1 t3 t4 ?_)
 simp only[tn,if_true]
 exact Vy t7 t8 (Xv.mp t9).1 (h _ n1 n2)
theorem pass_any {α:Type}{Q:α->Shared->Prop}{what:String}(hh:HeldA B l e cls s.heap)(h:∀h',HeldA B l e cls h'->s.heap.UpToSlots h'->E (.ref e) { s with heap:=h' }):wpAny M A (PySem.passOn what (.ref e) env':Sem α) Q E s:=by
 obtain ⟨_,_,_,a0,f0,oe,vs,T,oT,ts,he,hcls,hd,h1,_⟩:=id hh
 unfold PySem.passOn
 refine Yb (Xa he hd h1 ?_)
 rw[if_neg (show ¬((YL T==XH)=true) from by simp)]
 exact Yb (ZbB hh fun h' a b=>wpAny_throw (h h' a b))
end
theorem obj_has {P:Yl}{w:World}{H:Hp}{h:Heap}{a:Addr}{o:HO}(x:ObjOk P w H h a o):∃ob,h.get? a=some ob:=by
 cases o with
 | lst xs=>obtain ⟨_,_,_,_,e⟩:=x;exact ⟨_,e⟩
 | tup xs=>obtain ⟨_,_,_,o,e,_⟩:=x;exact ⟨o,e⟩
 | dK kvs=>obtain ⟨_,_,_,_,o,_,_,e,_⟩:=x;exact ⟨_,e⟩
 | dT kvs=>obtain ⟨_,_,_,_,o,_,_,e,_⟩:=x;exact ⟨_,e⟩
 | set S n=>obtain ⟨o,_,_,_,e,_⟩:=x;exact ⟨_,e⟩
 | ins C dx fs=>obtain ⟨_,_,_,e,_⟩:=x;exact ⟨_,e⟩
 | own y=>exact x
 | xd fs=>obtain ⟨_,⟨_,_,_,e,_⟩,_⟩:=x;exact ⟨_,e⟩
 | rng lo hi=>obtain ⟨_,_,_,e⟩:=x;exact ⟨_,e⟩
 | frz ob u=>obtain ⟨e,_⟩:=x;exact ⟨_,e⟩
 | tbl ps=>exact ⟨_,(show h.get? a=some _ from x)⟩
 | met f y=>exact ⟨_,(show h.get? a=some _ from x)⟩
 | ext φ=>obtain ⟨_,⟨_,e⟩,_⟩:=x;exact ⟨_,e⟩
structure Fly (P:Yl)(w:World)(l:List Env)(H:Hp)(h:Heap)(B:Heap)(e C:Addr)(H':Hp)(h':Heap):Prop where
 un:Un (frs l) [] H H' h h'
 ok:HOk P w H' h'
 at':H' e=some (exG C e)
 new:h.get? e=none
 held:HeldA B l e (.ref C) h'
 fr:∀b∈frs l,H' b=none
 cov:∀b o,h'.get? b=some o->b≠e->b∉frs l->(H' b≠none\/h.get? b≠none)->B.get? b=some o
section
variable {P:Yl}{w:World}{l:List Env}{H H0 H':Hp}{h h0 h' h2:Heap}{B:Heap}{e C:Addr}
theorem Zcq {α:Type}{x:Option α}{y:α}(h:x=some y):x≠none:=by rw[h];simp
theorem Fly.ne (F:Fly P w l H h B e C H' h'){b:Addr}{o:Obj}(q:h.get? b=some o):b≠e:=fun z=>by rw[z,F.new] at q;cases q
theorem Fly.turn (F:Fly P w l H h B e C H' h')(hd:HeldA B l e (.ref C) h2)(up:h'.UpToSlots h2):Fly P w l H h B e C H' h2:=by
 have nn:∀b:Addr,b∉([]:List Addr):=fun b z=>by cases z
 have frm:∀b o,h'.get? b=some o->b∈frs l->∃sl,h2.get? b=some { o with slots:=sl }:=fun b o q hb=>by
  obtain ⟨_,o',ho',hd'⟩:=F.held.2.2.1.mem hb
  rw[q] at ho';cases ho'
  exact up b o q hd'
 have kp:∀b o,h'.get? b=some o->b≠e->b∉frs l->(H' b≠none\/h.get? b≠none)->h2.get? b=some o:=fun b o q h1 h2 h3=>hd.1 b o (F.cov b o q h1 h2 h3)
 have u:=F.un
 refine ⟨⟨fun b o q n hb _=>kp b o (u.keep b o q n hb (nn b)) (F.ne q) hb (.inr (Zcq q)),fun b o q n hb _=>?_,u.free,fun b o q _=>?_,u.tups,u.frzs,u.tbls⟩,fun b o q=>?_,F.at',F.new,hd,F.fr,fun b o q hb hn hr=>?_⟩
 ·obtain ⟨sl,k1⟩:=u.slot b o q n hb (nn b)
  obtain ⟨sl',k2⟩:=frm b _ k1 hb
  exact ⟨sl',k2⟩
 ·obtain ⟨o',k1⟩:=u.there b o q (nn b)
  by_cases hb:b∈frs l
  ·obtain ⟨sl,k2⟩:=frm b o' k1 hb;exact ⟨_,k2⟩
  ·exact ⟨o',kp b o' k1 (F.ne q) hb (.inr (Zcq q))⟩
 ·by_cases hb:b=e
  ·subst hb
   rw[F.at'] at q;cases q
   obtain ⟨_,_,_,_,_,oe,vs,T,oT,ts,y1,⟨y2,_⟩,y3,_⟩:=hd
   exact exG_ok y1 y2 y3
  ·refine (F.ok b o q).stay (fun c v hc g=>kp c v g ?_ (fun z=>?_) (.inl ?_)) (fun c hc=>hc) fun c xs hc=>hc
   ·rcases hc with rfl | hc
    ·exact hb
    ·intro z;rw[z,F.at'] at hc;cases hc
   ·have:=F.fr c z
    rcases hc with rfl | hc
    ·rw[q] at this;cases this
    ·rw[hc] at this;cases this
   ·rcases hc with rfl | hc
    ·exact Zcq q
    ·exact Zcq hc
 ·have hh:∃o',h'.get? b=some o':=by
   rcases hr with hr | hr
   ·cases hH:H' b with
    | none=>exact absurd hH hr
    | some v=>exact obj_has (F.ok b v hH)
   ·cases hq:h.get? b with
    | none=>exact absurd hq hr
    | some o'=>exact u.there b o' hq (nn b)
  obtain ⟨o',q'⟩:=hh
  have k1:=F.cov b o' q' hb hn hr
  have k2:=hd.1 b o' k1
  rw[q] at k2
  cases k2
  exact k1
theorem Fly.back {ex:2e9}(F:Fly P w l H h B e C H' h')(u:Un (frs l) ex H0 H h0 h)(d:∀b o,h0.get? b=some o->b∉ex):Fly P w l H0 h0 B e C H' h':=by
 have nn:∀b:Addr,b∉([]:List Addr):=fun b z=>by cases z
 have t0:∀b o,h0.get? b=some o->∃o',h.get? b=some o':=fun b o q=>u.there b o q (d b o q)
 refine ⟨⟨fun b o q n hb _=>F.un.keep b o (u.keep b o q n hb (d b o q)) (u.free b o q n (d b o q)) hb (nn b),fun b o q n hb _=>?_,fun b o q n _=>?_,fun b o q _=>?_,fun b xs q=>F.un.tups b xs (u.tups b xs q),fun b o v q=>F.un.frzs b o v (u.frzs b o v q),fun b ps q=>?_⟩,
  F.ok,F.at',?_,F.held,F.fr,fun b o q hb hn hr=>F.cov b o q hb hn (hr.imp id fun hr=>?_)⟩
 ·obtain ⟨sl,k1⟩:=u.slot b o q n hb (d b o q)
  obtain ⟨sl',k2⟩:=F.un.slot b _ k1 (u.free b o q n (d b o q)) hb (nn b)
  exact ⟨sl',k2⟩
 ·obtain ⟨o',k1⟩:=t0 b o q
  exact F.un.free b o' k1 (u.free b o q n (d b o q)) (nn b)
 ·obtain ⟨o',k1⟩:=t0 b o q
  exact F.un.there b o' k1 (nn b)
 ·obtain ⟨m1,k1⟩:=u.tbls b ps q
  obtain ⟨m2,k2⟩:=F.un.tbls b _ k1
  exact ⟨m1++m2,by rw[k2,Vs]⟩
 ·cases q:h0.get? e with
  | none=>rfl
  | some o=>obtain ⟨o',k1⟩:=t0 e o q;exact absurd rfl (F.ne k1)
 ·cases hq:h0.get? b with
  | none=>exact absurd hq hr
  | some o'=>obtain ⟨o1,k1⟩:=t0 b o' hq;exact Zcq k1
theorem Fly.pop {env:Env}{L:Addr}(F:Fly P w (env::l) H h B e C H' h')(hf:env.frame=some L)(hL:h.get? L=none):Fly P w l H h B e C H' h':=by
 have nn:∀b:Addr,b∉([]:List Addr):=fun b z=>by cases z
 have hfs:frs (env::l)=L::frs l:=by unfold frs;rw[Xh,hf]
 have no:∀b o,h.get? b=some o->b∉frs l->b∉frs (env::l):=fun b o q n z=>by
  rw[hfs] at z
  rcases Yg.mp z with z | z
  ·rw[z,hL] at q;cases q
  ·exact n z
 have sub:∀b∈frs l,b∈frs (env::l):=fun b hb=>by rw[hfs];exact Yw _ hb
 refine ⟨⟨fun b o q n hb _=>F.un.keep b o q n (no b o q hb) (nn b),fun b o q n hb _=>F.un.slot b o q n (sub b hb) (nn b),F.un.free,F.un.there,F.un.tups,F.un.frzs,F.un.tbls⟩,F.ok,F.at',F.new,⟨F.held.1,F.held.2.1,F.held.2.2.1.2.2,F.held.2.2.2⟩,fun b hb=>F.fr b (sub b hb),fun b o q hb hn hr=>F.cov b o q hb (fun z=>?_) hr⟩
 rw[hfs] at z
 rcases Yg.mp z with z | z
 ·rcases hr with hr | hr
  ·exact hr (F.fr b (by rw[hfs,z];exact YT))
  ·rw[z] at hr;exact hr hL
 ·exact hn z
end
noncomputable def CXr (P:Yl)(w:World):CXT:=fun l H s E ev s'=>∃e C B H',ev=.ref e/\s'.os=s.os/\VJ s'.gens/\Fly P w l H s.heap B e C H' s'.heap/\E (.ref C) (some e) H'
def XP (X:Cx)(E:XK):Prop:=∀ev s',CXr X.prog X.w X.stack X.H₀ X.s₀ E ev s'->X.xe ev s'
section
variable {X:Cx}{pins:1e8}{σ:St}{H:Hp}{s s':Shared}{E:XK}{ev:Value}
theorem ZcB (I:2e1):∀b∈X.fs,b∈frs X.stack:=fun b hb=>by
 rcases I.ok.stk with q | ⟨q,hf⟩
 ·rw[q];exact hb
 ·rw[q];unfold frs;rw[Xh,hf];exact Yw _ hb
theorem cxr_back (I:2e1)(hd:∀b∈X.ex,X.s₀.heap.get? b=none)(h:CXr X.prog X.w X.stack H s E ev s'):CXr X.prog X.w X.stack X.H₀ X.s₀ E ev s':=by
 obtain ⟨e,C,B,H',rfl,hos,hb,F,hE⟩:=h
 exact ⟨e,C,B,H',rfl,hos.trans I.os,hb,F.back (I.base.mono (ZcB I) fun b hb=>hb) fun b o q z=>(by rw[hd b z] at q;cases q),hE⟩
theorem XP.passes (h:XP X E)(hd:∀b∈X.ex,X.s₀.heap.get? b=none):Passes (CXr X.prog X.w) X E:=fun pins σ H s e s' I hx=>h e s' (cxr_back I hd hx)
end
section
variable {X:Cx}{pins:1e8}{σ:St}{H:Hp}{s:Shared}{C e t:Addr}{Q:Unit->Shared->Prop}{E:1e4}
theorem leave_first (I:Inv X pins σ (upd H e (exO C e t)) s)(hex:X.ex=[])(hst:X.stack=X.env::X.outer)(hf:X.env.frame=some X.env.locals)(hs0:X.s₀.heap.get? e=none)
  (h:∀h' B,Fly X.prog X.w X.outer X.H₀ X.s₀.heap B e C (upd H e (exG C e)) h'->Q () { s with heap:=h' }):
  wpAny 2e2 X.A (leaving X.env (.ref e)) Q E s:=by
 obtain ⟨dx,sl,ho⟩:=(show ObjOk X.prog X.w _ s.heap e (exO C e t) from I.hok e _ Zau).1
 have he:upd H e (exO C e t) e=some (exO C e t):=Zau
 have hmem:∀env∈X.env::X.outer,∀b,env.frame=some b->b∈e::frs X.stack:=fun env hm b hb=>Yw _ (by rw[hst];exact Vt.mpr ⟨env,hm,hb⟩)
 have hl:s.heap.FunFrames (Ud s.heap (e::frs X.stack)) (X.env::X.outer):=funFrames_hide (by rw[←hst];exact I.stack) hmem
 refine wpAny_leaving_firstW (base:=Ud s.heap (e::frs X.stack)) (oe:=_) (a0:=.ref t) (by rw[I.ok.frames,hst]) hl hf ho (fun b o q=>of_hideAll _ q) (hideAll_none _ (.head _)) rfl rfl rfl fun h' hL=>?_
 obtain ⟨x1,x2,x3,x4⟩:=hL
 obtain ⟨oe,vs,T,oT,ts,y1,⟨y2,_⟩,y3,_⟩:=id x3
 have nx:∀b:Addr,b∉X.ex:=fun b z=>by rw[hex] at z;cases z
 have ka:∀b o,s.heap.get? b=some o->b≠e->b∉frs X.stack->h'.get? b=some o:=fun b o q hb hn=>x1 b o (hideAll_get _ q fun z=>(Yg.mp z).elim hb hn)
 have kb:∀b o,s.heap.get? b=some o->b∈frs X.stack->∃sl,h'.get? b=some { o with slots:=sl }:=fun b o q hb=>by
  obtain ⟨_,o',ho',hd'⟩:=(I.stack).mem hb
  rw[q] at ho';cases ho'
  exact x4 b o q hd'
 have upH:∀b,b≠e->upd H e (exG C e) b=upd H e (exO C e t) b:=fun b hb=>by rw[Zao hb,Zao hb]
 have sfr:∀b∈frs X.stack,b≠e:=fun b hb z=>by have:=I.stkFree b hb;rw[z,he] at this;cases this
 have nst:∀b o,X.s₀.heap.get? b=some o->b∉X.fs->b∉frs X.stack:=fun b o q hb z=>by
  rcases Yg.mp (I.stkSub b z) with r | r
  ·have h1:=Ys q;rw[r] at h1;exact absurd h1 (Uc.mpr I.ok.above)
  ·exact hb r
 have ne0:∀b o,X.s₀.heap.get? b=some o->b≠e:=fun b o q z=>by rw[z,hs0] at q;cases q
 have u:=I.base
 have x2':h'.FunFrames (Ud s.heap (e::frs X.stack)) X.stack:=by
  generalize Ud s.heap (e::frs X.stack)=B at x2
  rw[hst];exact x2
 have fl:Fly X.prog X.w (X.env::X.outer) X.H₀ X.s₀.heap (Ud s.heap (e::frs X.stack)) e C (upd H e (exG C e)) h':=by
  rw[←hst]
  refine ⟨⟨fun b o q n hb _=>?_,fun b o q n hb _=>?_,fun b o q n _=>?_,fun b o q _=>?_,fun b xs q=>?_,fun b o v q=>?_,fun b qs q=>?_⟩,fun b o q=>?_,Zau,hs0,⟨x1,hideAll_none _ (.head _),x2',_,_,x3⟩,fun b hb=>by rw[upH b (sfr b hb)];exact I.stkFree b hb,fun b o q hb hn hr=>?_⟩
  ·exact ka b o (u.keep b o q n (fun z=>hb (ZcB I b z)) (nx b)) (ne0 b o q) hb
  ·obtain ⟨sl,k1⟩:=u.any q n (nx b)
   obtain ⟨sl',k2⟩:=kb b _ k1 hb
   exact ⟨sl',k2⟩
  ·rw[upH b (ne0 b o q)];exact u.free b o q n (nx b)
  ·obtain ⟨o',k1⟩:=u.there b o q (nx b)
   by_cases hb:b∈frs X.stack
   ·obtain ⟨sl,k2⟩:=kb b o' k1 hb;exact ⟨_,k2⟩
   ·exact ⟨o',ka b o' k1 (ne0 b o q) hb⟩
  ·have:=u.tups b xs q
   rw[upH b (fun z=>by rw[z,he] at this;cases this)];exact this
  ·have:=u.frzs b o v q
   rw[upH b (fun z=>by rw[z,he] at this;cases this)];exact this
  ·obtain ⟨more,this⟩:=u.tbls b qs q
   exact ⟨more,by rw[upH b (fun z=>by rw[z,he] at this;cases this)];exact this⟩
  ·by_cases hb:b=e
   ·subst hb;rw[Zau] at q;cases q;exact exG_ok y1 y2 y3
   ·rw[upH b hb] at q
    refine (I.hok b o q).stay (fun c v hc g=>ka c v g ?_ (fun z=>?_)) (fun c hc=>?_) fun c xs hc=>?_
    ·rcases hc with rfl | hc
     ·exact hb
     ·intro z;rw[z,he] at hc;cases hc
    ·have:=I.stkFree c z
     rcases hc with rfl | hc
     ·rw[q] at this;cases this
     ·rw[hc] at this;cases this
    ·rw[upH c (fun z=>by rw[z,he] at hc;cases hc)];exact hc
    ·rw[upH c (fun z=>by rw[z,he] at hc;cases hc)];exact hc
  ·have hold:∃o',s.heap.get? b=some o':=by
    rcases hr with hr | hr
    ·rw[upH b hb] at hr
     cases hH:upd H e (exO C e t) b with
     | none=>exact absurd hH hr
     | some v=>exact obj_has (I.hok b v hH)
    ·cases hq:X.s₀.heap.get? b with
     | none=>exact absurd hq hr
     | some o'=>exact u.there b o' hq (nx b)
   obtain ⟨o',q'⟩:=hold
   have:=ka b o' q' hb hn
   rw[q] at this
   cases this
   exact hideAll_get _ q' fun z=>(Yg.mp z).elim hb hn
 exact h h' _ (fl.pop hf (XW I.ok.above))
end
section
variable {P:Yl}{w:World}{K:W.Frag}{mg:1e5}{base:Heap}{N:3e1}{qual:Str}{scope:Scope}{f:Addr}{cd:Value}{A:Around}{outer:List Env}{s:Shared}{H:Hp}{E:XK}{C:Addr}
theorem xp_def {pins:1e8}{σ:St}{H1:Hp}{s1:Shared}(I:Inv 6e8 pins σ H1 s1):XP 6e8 E:=by
 rintro ev s' ⟨e,C,B,H',rfl,hos,hb,F,hE⟩
 unfold cxOf
 dsimp only
 unfold leaving
 refine Yb (note_any I.ok.frames rfl rfl F.held fun h1 d1 u1=>?_)
 refine ZbB d1 fun h2 d2 u2=>?_
 exact ⟨e,C,B,H',rfl,hos,hb,((F.turn d1 u1).turn d2 u2).pop (L:=s.heap.objs.size) rfl (XW (Yo _)),hE⟩
theorem passes_r:Passes (CXr P w) 6e8 E:=fun pins σ H1 s1 e s' I hx=>
 XP.passes (xp_def I) (fun b z=>by cases z) pins σ H1 s1 e s' I hx
theorem wish_r {D:Ends}{σ:St}{H1:Hp}(h:∀e,H1 e=none->E (.ref C) (some e) (upd H1 e (exG C e))):sRaise 6e8 C D σ H1:=by
 intro pins e t s' he hs0 I
 refine leave_first (X:=cxOf (CXr P w) P w K mg base N qual scope f cd A outer s H E) I rfl rfl rfl hs0 fun h' B fl=>?_
 exact ⟨e,C,B,upd H1 e (exG C e),rfl,I.os,I.bare,fl,h e he⟩
end
end Ex
namespace Ex
open PySem PySem.Spec PySem.W L2
open PyProof.Rows hiding St Fr
section
variable {P:Yl}{w:World}{K:W.Frag}{mg:1e5}{base:Heap}
theorem fun_okR {x qual:Str}{st:Stmt}{f:Addr}{fd:Yj}{N ps:3e1}{k:Nat}{sp:Sp}(F:Fun K x qual st f fd)(S:FnScope N ps 8e1)(len:∀vs H Q E,sp vs H Q E->vs.length=ps.length)
  (hbody:∀(cdv:Value) (A:Around) (outer:List Env) (s:Shared) (H:Hp) (vs:List V) (Q:VK) (E:XK),Room k 9e9->sp vs H Q E->
   ∃t,PSs (cxOf (CXr P w) P w K mg base N qual (defScope st) f cdv A outer s H E) (defBody st) t/\t { nx:=fun _ H'=>Q .non H',rt:=Q } (start N vs) H):FnOk P w K mg base (CXr P w) (k + 1) f fd ps sp:=by
 obtain ⟨oc,od,kV,doc,pm,an,cdv,ct,osl,rfl,lk,hcd⟩:=F.ex
 exact fn_of lk hcd S len fun A outer s H vs Q E hr hsp=>hbody cdv A outer s H vs Q E hr hsp
end
section
variable {P:Yl}{w:World}{K:W.Frag}{mg:1e5}{base:Heap}{CX:CXT}
theorem init_fn {k:Nat}{f C Ab:Addr}{name qual:Str}{params:Ue}{scope:Scope}{dV kV doc pm cdv ct oc:Value}{an od:Option Addr}{osl:Array 12e9}{p1 p2 p3 p4:Pos}
  (lk:K.lookup f=some ⟨oc,od,.func (W.fnOf name qual params [.Assign [.Attribute (.Name "self" p1) "row" p2] (.Name "row" p3) p4] scope dV kV doc pm an cdv ct),osl⟩) (hcd:W.codeIn K cdv qual=true)
  (S:FnScope ["self","row"] ["self","row"] scope) (hx:K.In base->XC base C Ab f) (v0:Vis scope "self") (v1:Vis scope "row")
  (hs:∀env:Env,Xg (.Name "row" p3) (some (.Attribute (.Name "self" p1) "row" p2)) p4.line env=pure false):
  FnOk P w K mg base CX (k + 1) f (W.fnOf name qual params [.Assign [.Attribute (.Name "self" p1) "row" p2] (.Name "row" p3) p4] scope dV kV doc pm an cdv ct) ["self","row"] (spI C):=by
 refine fn_of lk hcd S (fun vs H Q E h_=>by obtain ⟨e,t,y,q,_⟩:=h_;rw[q];rfl) fun A outer s H vs Q E hr hsp=>?_
 obtain ⟨e,t,y,rfl,he,q⟩:=hsp
 refine ⟨_,pss_one (ps_row (X:=cxOf CX P w K mg base ["self","row"] qual scope f cdv A outer s H E) hx (pv 0 rfl v0) (pv 1 rfl v1) (hs _)),?_⟩
 exact ⟨y,rfl,.ref e,rfl,e,t,rfl,he,q⟩
end
end Ex
namespace Ex
open PySem PySem.Spec PySem.W L2 Pu
open PyProof.Rows hiding St Fr
def Wish (K:W.Frag)(E:XK)(c:Addr)(ι:2e9)(H:Hp)(C:Cs):Prop:=∀e H',Pu.Fr ι H H'->Pu.CR K ι H' C->H' e=some (exG c e)->E (.ref c) (some e) H'
noncomputable def tR (K:W.Frag)(E:XK)(c:Addr)(r:6e3):TE:=fun σ H _=>∃ι ρ C,SR K ι H ρ σ C/\r ρ C/\Wish K E c ι H C
noncomputable def tRS (K:W.Frag)(E:XK)(c:Addr)(r:6e3):TS:=fun _ σ H=>∃ι ρ C,SR K ι H ρ σ C/\r ρ C/\Wish K E c ι H C
noncomputable def liftR (K:W.Frag)(c:Addr)(R:List SV->Cs->Prop):Sp:=fun vs H _ E=>∃ι ss C,Pu.CR K ι H C/\RepSs K ι H ss vs/\R ss C/\Wish K E c ι H C
theorem Wish.mono {K:W.Frag}{E:XK}{c:Addr}{ι:2e9}{H H1:Hp}{C:Cs}(w:Wish K E c ι H C)(f:Pu.Fr ι H H1):Wish K E c ι H1 C:=fun e H' f' c' h=>w e H' (f.trans f') c' h
section
variable {P:Yl}{w:World}{K:W.Frag}{mg:1e5}{base:Heap}{N:3e1}{qual:Str}{scope:Scope}{f:Addr}{cd:Value}{A:Around}{outer:List Env}{s:Shared}{H:Hp}{E:XK}{C Ab fI:Addr}
theorem r_raise {k:Nat}{fd:Yj}{ps:3e1}{x:Str}{np cpos pos:Pos}(hx:K.In base->XC base C Ab fI)(F:FnOk P w K mg base CX0 k fI fd ps (spI C))(hr:Room (k + 1) (cxOf (CXr P w) P w K mg base N qual scope f cd A outer s H E).A)(hh:(cxOf (CXr P w) P w K mg base N qual scope f cd A outer s H E).A.handled=none)
  (hg:Gl 6e8 x) (hm:mg x=some (.ref C)) (hb:Binds K fd ps [.none]) (hps:ps.length=2) (hdb:2e8:=by decide):
  PS 6e8 (.Raise (some (.Call (.Name x np) [] [] cpos)) none pos) (tRS K E C fun _ _=>True):=
 PS.imp (ps_raise (X:=cxOf (CXr P w) P w K mg base N qual scope f cd A outer s H E) hx F hr hh hg hm hb pass0 hps hdb) fun D σ H1 ⟨ι,ρ,C1,sr,_,wi⟩=>wish_r fun e he=>wi e _ (Fr.new he) (sr.cr.new he) Zau
end
section
variable {X:Cx}{E:XK}{c:Addr}{e:Expr}{es:4e5}{x:Str}{p pos:Pos}
theorem r_call {k:Nat}{f:Addr}{fd:Yj}{ps:3e1}{R:List SV->Cs->Prop}{fs:2e3}(G:FnOk X.prog X.w X.K X.mg X.base (CXr X.prog X.w) k f fd ps (liftR X.K c R))(hp:Passes (CXr X.prog X.w) X E)(hr:Room k X.A)(hg:Gl X x)(hm:X.mg x=some (.ref f))(hk:Yp X.K (.ref f)=true)(hb:Binds X.K fd ps [])
  (ha:AM X 4e6 fs) (hdb:2e8:=by decide) (he:1e2:=by rfl) (hpl:3e0:=by rfl):
  PE X 10e0 (tR X.K E c fun ρ C=>∃xs,fs ρ C=some (xs,C)/\R xs C):=PE.imp (pe_call G hr hg hm hk hb .nil hp ha hdb he hpl) fun σ H Q ⟨ι,ρ,C,sr,⟨xs,e1,hR⟩,wi⟩=>
 ⟨ι,ρ,C,xs,C,sr,e1,fun vs H1 f1 c1 r1=>by
  show liftR X.K c R (vs++[]) H1 Q E
  rw[Yq]
  exact ⟨ι,xs,C,c1,r1,hR,wi.mono f1⟩⟩
theorem r_expr {r:6e3}(h:PE X e (tR X.K E c r))(hs:Xg e none pos.line X.env=pure false:=by rfl):PS X (.Expr e pos) (tRS X.K E c r):=PS.imp (ps_expr h hs) fun D σ H q=>q
theorem r_here {st:Stmt}{rest:List Stmt}{r:6e3}(h:PS X st (tRS X.K E c r)):PSs X (st::rest) (tRS X.K E c r):=fun pins s σ H D I q=>Za7 (PS.imp (t':=fun D σ H=>tRS X.K E c r D σ H) h fun _ _ _ z=>z) Zbu pins s σ H D I q
end
section
variable {X:Cx}{E:XK}{c:Addr}{e:Expr}{es:4e5}{x:Str}{p pos pos':Pos}{r:6e3}
theorem r_set {i:Nat}(hN:X.N.Nodup)(hi:7e9)(hx:Loc X.env.scope x)(h:PE X e (tR X.K E c r))(hs:11e1:=by rfl)
  (hf:5e1:=by first | exact .inl rfl | exact .inr rfl | assumption):PS X (.Assign [.Name x pos'] e pos) (tRS X.K E c r):=PS.imp (ps_set hN hi hx h hs hf) fun D σ H q=>q
theorem r_ret (h:PE X e (tR X.K E c r)):PS X (.Return (some e) pos) (tRS X.K E c r):=PS.imp (ps_ret h) fun D σ H q=>q
theorem r_if {t:Expr}{a b:List Stmt}{ft:4e8}(ht:TMt X t ft)(ha:PSs X a (tRS X.K E c r)):PS X (.If t a b pos) (tRS X.K E c fun ρ C=>ft ρ C=some (true,C)/\r ρ C):=
 PS.imp (ps_if ht ha Zbu) fun D σ H ⟨ι,ρ,C,sr,⟨e1,hr⟩,wi⟩=>⟨ι,ρ,C,true,C,sr,e1,fun H1 f1 c1=>iteT ⟨ι,ρ,C,8e5,hr,wi.mono f1⟩⟩
theorem r_then {st:Stmt}{rest:List Stmt}{f:9e3}(h:SM X st f)(h2:PSs X rest (tRS X.K E c r)):PSs X (st::rest) (tRS X.K E c fun ρ C=>∃ρ1,f ρ C=some (.nx ρ1,C)/\r ρ1 C):=fun pins s σ H D I ⟨ι,ρ,C,sr,⟨ρ1,e1,hr⟩,wi⟩=>
 Za7 h h2 pins s σ H D I ⟨ι,ρ,C,.nx ρ1,C,sr,e1,fun ι3 σ' H2 x2 sr2=>by
  have h3:ι3=[]:=by
   have a1:=sr2.cr.len
   have a2:=sr.cr.len
   rw[Y3] at a1
   exact Y6 4e0
  subst h3
  rw[Yq] at sr2
  exact ⟨ι,ρ1,C,sr2,hr,wi.mono x2.1⟩⟩
end
section
variable {P:Yl}{w:World}{K:W.Frag}{mg:1e5}{base:Heap}{c:Addr}
theorem fn_mkR {x qual:Str}{st:Stmt}{f:Addr}{fd:Yj}{N ps:3e1}{k:Nat}{r:6e3}(F:Fun K x qual st f fd)(S:FnScope N ps 8e1)
  (hbody:∀(cdv:Value) (A:Around) (outer:List Env) (s:Shared) (H:Hp) (E:XK),Room k 9e9->
   PSs (cxOf (CXr P w) P w K mg base N qual (defScope st) f cdv A outer s H E) (defBody st) (tRS K E c r)):
  FnOk P w K mg base (CXr P w) (k + 1) f fd ps (liftR K c fun ss C=>ss.length=ps.length/\r (ss.map some++YJ (N.length - ps.length) none) C):=by
 refine fun_okR F S (fun vs H Q E ⟨ι,ss,C,cr,rs,⟨hl,_⟩,_⟩=>?_) (fun cdv A outer s H vs Q E hr ⟨ι,ss,C,cr,rs,⟨hl,hR⟩,wi⟩=>⟨_,hbody cdv A outer s H E hr,?_⟩)
 ·rw[←RepSs.length rs];exact hl
 ·have sr:=ZbR (N:=N) cr rs
  rw[hl] at sr
  exact ⟨ι,_,C,sr,hR,wi⟩
end
noncomputable def tRA (K:W.Frag)(E:XK)(c:Addr)(r:6e3):TA:=fun σ H _=>∃ι ρ C,SR K ι H ρ σ C/\r ρ C/\Wish K E c ι H C
section
variable {X:Cx}{E:XK}{c:Addr}{e a b:Expr}{es:4e5}{x:Str}{p pos:Pos}{r:6e3}
theorem PA.imp' {t t':TA}(h:PA X es t)(k:14e6):PA X es t':=fun pos pins s σ H Q I q=>h pos pins s σ H Q I (k σ H Q q)
theorem ra_here (h:PE X e (tR X.K E c r))(hr:∃t,PA X es t)(hs:1e2:=by rfl):PA X 4e6 (tRA X.K E c r):=by
 obtain ⟨t,hr⟩:=hr
 exact PA.imp' (Za1 h hr hs) fun σ H Q q=>q
theorem ra_then {f:2e7}(h:EM X e f)(hr:PA X es (tRA X.K E c r))(hs:1e2:=by rfl):PA X 4e6 (tRA X.K E c fun ρ C=>∃z,f ρ C=some (z,C)/\r ρ C):=
 PA.imp' (Za1 h hr hs) fun σ H Q ⟨ι,ρ,C,sr,⟨z,e1,hR⟩,wi⟩=>⟨ι,ρ,C,z,C,sr,e1,fun v H1 f1 c1 r1=>⟨ι,ρ,C,8e5,hR,wi.mono f1⟩⟩
theorem r_tup {x1}(h:PA X es (tRA X.K E c r)):PE X (.Tuple es x1 pos) (tR X.K E c r):=PE.imp (pe_tup h) fun σ H Q q=>q
theorem pe_never:PE X e fun _ _ _=>False:=fun _ _ _ _ _ _ h=>h.elim
theorem r_ifE {t:Expr}{ft:4e8}(ht:TMt X t ft)(ha:PE X a (tR X.K E c r)):PE X (.IfExp t a b pos) (tR X.K E c fun ρ C=>ft ρ C=some (true,C)/\r ρ C):=
 PE.imp (pe_ifExp ht ha pe_never) fun σ H Q ⟨ι,ρ,C,sr,⟨e1,hr⟩,wi⟩=>⟨ι,ρ,C,true,C,sr,e1,fun H1 f1 c1=>iteT ⟨ι,ρ,C,8e5,hr,wi.mono f1⟩⟩
theorem r_elseE {t:Expr}{ft:4e8}(ht:TMt X t ft)(hb:PE X b (tR X.K E c r)):PE X (.IfExp t a b pos) (tR X.K E c fun ρ C=>ft ρ C=some (false,C)/\r ρ C):=
 PE.imp (pe_ifExp ht pe_never hb) fun σ H Q ⟨ι,ρ,C,sr,⟨e1,hr⟩,wi⟩=>⟨ι,ρ,C,false,C,sr,e1,fun H1 f1 c1=>iteF ⟨ι,ρ,C,8e5,hr,wi.mono f1⟩⟩
theorem PE.or' {r':6e3}(h:PE X e (tR X.K E c r))(k:PE X e (tR X.K E c r')):PE X e (tR X.K E c fun ρ C=>r ρ C\/r' ρ C):=fun pins s σ H Q I ⟨ι,ρ,C,sr,q,wi⟩=>
 q.elim (fun q=>h pins s σ H Q I ⟨ι,ρ,C,sr,q,wi⟩) fun q=>k pins s σ H Q I ⟨ι,ρ,C,sr,q,wi⟩
theorem PSs.or' {st:List Stmt}{r':6e3}(h:PSs X st (tRS X.K E c r))(k:PSs X st (tRS X.K E c r')):PSs X st (tRS X.K E c fun ρ C=>r ρ C\/r' ρ C):=fun pins s σ H D I ⟨ι,ρ,C,sr,q,wi⟩=>
 q.elim (fun q=>h pins s σ H D I ⟨ι,ρ,C,sr,q,wi⟩) fun q=>k pins s σ H D I ⟨ι,ρ,C,sr,q,wi⟩
end
end Ex
namespace Ex
open PySem PySem.Spec PySem.W L2
open PyProof.Rows hiding St Fr
abbrev CompX (X:Cx)(N:3e1)(scope:Scope)(E:XK)(C:Addr)(s₀:Shared)(H₀:Hp)(ex:2e9)(pn:1e8):Cx:=
 (CompCx X N scope C s₀ H₀ ex pn).wish fun ev s'=>∃pl σ8 H8 s8,Inv (CompCx X N scope C s₀ H₀ ex pn) pl σ8 H8 s8/\CXr X.prog X.w X.stack H8 s8 E ev s'
theorem compX_passes {X:Cx}{N:3e1}{scope:Scope}{E:XK}{C:Addr}{s₀:Shared}{H₀:Hp}{ex:2e9}{pn:1e8}:Passes (CXr X.prog X.w) (CompX X N scope E C s₀ H₀ ex pn) E:=
 fun pl σ8 H8 s8 ev s' I hx=>⟨pl,σ8,H8,s8,I.unwish,hx⟩
theorem ff_mono {h h' B B':Heap}:∀{l:List Env},h.FunFrames B l->(∀b∈frs l,∀o,h.get? b=some o->h'.get? b=some o)->(∀b,B.get? b=none->B'.get? b=none)->h'.FunFrames B' l
 | [],_,_,_=>trivial
 | env::l,hl,hs,hb=>by
  obtain ⟨hk,⟨L,o,hf,hn,ho,hd⟩,hr⟩:=hl
  have hfs:frs (env::l)=L::frs l:=by unfold frs;rw[Xh,hf]
  exact ⟨hk,⟨L,o,hf,hb L hn,hs L (by rw[hfs];exact YT) o ho,hd⟩,ff_mono hr (fun b hm=>hs b (by rw[hfs];exact Yw _ hm)) hb⟩
section
variable {P:Yl}{w:World}{l:List Env}{H H':Hp}{h h1 h':Heap}{B:Heap}{e C c:Addr}
theorem Fly.lose (F:Fly P w l H h B e C H' h1)(hc:h.get? c=none)(hn:H' c=none)(hl:c∉frs l)(sm:∀b,b≠c->h'.get? b=h1.get? b)(hd:∃o es n,h1.get? c=some o/\o.data=.dict es n):Fly P w l H h (Ud B [c]) e C H' h':=by
 have nc:∀b o,h.get? b=some o->b≠c:=fun b o q z=>by rw[z,hc] at q;cases q
 have nH:∀b o,H' b=some o->b≠c:=fun b o q z=>by rw[z,hn] at q;cases q
 have nf:∀b o vs,h1.get? b=some o->o.data=.fields vs->b≠c:=fun b o vs q z y=>by
  obtain ⟨o',es,n,q',z'⟩:=hd
  rw[y,q'] at q;cases q;rw[z'] at z;cases z
 have hB:∀b,B.get? b=none->(Ud B [c]).get? b=none:=fun b z=>by
  cases q:(Ud B [c]).get? b with
  | none=>rfl
  | some o=>rw[of_hideAll _ q] at z;cases z
 have u:=F.un
 obtain ⟨d1,d2,d3,a0,fl,oe,vs,T,oT,ts,y1,y2,y3,y4,y5,y6,y7,y8,y9⟩:=F.held
 have nn:∀b:Addr,b∉([]:List Addr):=fun b z=>by cases z
 refine ⟨⟨fun b o q n hb hx=>(sm b (nc b o q)).trans (u.keep b o q n hb hx),fun b o q n hb hx=>?_,u.free,fun b o q hx=>?_,u.tups,u.frzs,u.tbls⟩,fun b o q=>?_,F.at',F.new,⟨fun b o q=>?_,hB e d2,ff_mono d3 (fun b hb o q=>(sm b fun z=>hl (z ▸ hb)).trans q) hB,a0,fl,oe,vs,T,oT,ts,(sm e (nH e _ F.at')).trans y1,y2,y3,y4,hB T y5,y6,(sm T (nf T oT ts y7 y8)).trans y7,y8,y9⟩,F.fr,fun b o q hb hm hr=>?_⟩
 ·obtain ⟨sl,k⟩:=u.slot b o q n hb hx
  exact ⟨sl,(sm b (nc b o q)).trans k⟩
 ·obtain ⟨o',k⟩:=u.there b o q hx
  exact ⟨o',(sm b (nc b o q)).trans k⟩
 ·refine (F.ok b o q).stay (fun x v hx g=>(sm x ?_).trans g) (fun _ z=>z) fun _ _ z=>z
  rcases hx with rfl | hx
  ·exact nH _ _ q
  ·exact nH _ _ hx
 ·have hb:b≠c:=fun z=>by rw[z,hideAll_none _ (.head _)] at q;cases q
  exact (sm b hb).trans (d1 b o (of_hideAll _ q))
 ·have hbc:b≠c:=fun z=>by
   rcases hr with hr | hr
   ·rw[z] at hr;exact hr hn
   ·rw[z] at hr;exact hr hc
  rw[sm b hbc] at q
  exact hideAll_get _ (F.cov b o q hb hm hr) fun z=>hbc (by simpa using z)
end
section
variable {X:Cx}{tg elt iter:Expr}{ifs:4e5}{scope:Scope}{pos:Pos}{vs fs:3e1}{fr:9e2}{g:TG}{tt:TT}{te:TE}
theorem comp_out {E:XK}{pins:1e8}{σ:St}{H:Hp}{s:Shared}{fp:2e9}{N:3e1}{C:Addr}{pn pl:1e8}{σ8:St}{H8:Hp}{s8 s9:Shared}{ev acc:Value}{cl:10e4}{use:Option (Value->Sem Unit)}{Q:1e4}(I:2e1)
  (hex:X.ex=[]) (hst:X.stack=X.env::X.outer) (hfr:X.env.frame=some X.env.locals) (xp:XP X E) (hf:∀b∈fp,FpOk X pins H b) (J:Inv (CompCx X N scope C s H fp pn) pl σ8 H8 s8) (hx:CXr X.prog X.w X.stack H8 s8 E ev s9) (hC:s.heap.objs.size<=C):
  notedBy 2e2 X.A (Vv scope cl C X.env) (fun e s'=>compPost 2e2 X.A X.xe use Q acc C (.error e) s') ev s9:=by
 obtain ⟨e,C1,B,H',rfl,hos,hb,F,hE⟩:=hx
 unfold notedBy
 refine note_any (env:=X.env) (outer:=X.outer) (L:=X.env.locals) (by rw[I.ok.frames,hst]) hfr hfr (by rw[←hst];exact F.held) fun h1 d1 u1=>?_
 have F1:=F.turn (by rw[hst];exact d1) u1
 obtain ⟨m,hm,_⟩:=id J.loc
 have hm:s8.heap.Ns C m:=hm
 obtain ⟨oC,es,ep,hoC,hdC,hrC⟩:=id hm
 have hCs:C∉frs X.stack:=fun z=>by
  rcases Yg.mp (I.stkSub C z) with q | q
  ·exact absurd I.lt (by rw[←q];exact Uc.mpr hC)
  ·exact I.nofs hC q
 have hH8:H8 C=none:=J.free
 have k1:h1.get? C=some oC:=F1.un.keep C oC hoC hH8 hCs 3e2
 have hn1:h1.Ns C m:=⟨oC,es,ep,k1,hdC,hrC⟩
 have u8:Un (frs X.stack) fp X.H₀ H8 X.s₀.heap s8.heap:=(I.base.mono (ZcB I) (fun b hb=>by rw[hex] at hb;cases hb)).trans J.base
 have F2:=F1.back u8 fun b o q z=>by
  obtain ⟨_,_,_,f3,_⟩:=hf b z
  rcases f3 with z | z
  ·rw[hex] at z;cases z
  ·exact absurd (Ys q) (Uc.mpr z)
 have key:∃m,h1.Ns C m/\∀h',W3 C h1 h'->∀cenv:Env,cenv.locals=C->wpAny 2e2 X.A (PySem.passOn "comprehension.variables-let-go" (.ref e) cenv:Sem Value) (fun _ _=>False) X.xe { s9 with heap:=h' }:=by
  refine ⟨m,hn1,fun h' hs cenv _=>?_⟩
  have F3:=F2.lose (c:=C) (h':=h') (XW (Yv I.sz hC)) (F1.un.free C oC hoC hH8 3e2) hCs (fun b hb=>hs.2 b hb) ⟨oC,es,ep,k1,hdC⟩
  exact pass_any F3.held fun h2 d2 u2=>xp _ _ ⟨e,C1,_,H',rfl,hos.trans (J.os.trans I.os),hb,F3.turn d2 u2,hE⟩
 cases use<;>exact key
theorem Za5 {α:Type}{M:Model}{A:Around}{t:Sem α}{Q Q':α->Shared->Prop}{E:1e4}{s:Shared}(h:wpAny M A t Q (fun _ _=>False) s)(hQ:∀a s,Q a s->Q' a s):wpAny M A t Q' E s:=
 YK h hQ fun _ _ f=>Xl f
theorem comp_blockX {E:XK}{pins:1e8}{σ:St}{H:Hp}{s:Shared}{Q:VK}{it:Addr}{fp:2e9}{tn:Nat->Heap->Prop}{J:It}{RR:Value->Addr->Result->Shared->Prop}
  (S:8e4) (hc:10e2)
  (bG:14e5) (bT:12e8) (bE:∀C s₀ H₀ ex pn,PE (CompX X (vs++fs) scope E C s₀ H₀ ex pn) elt te)
  (I:2e1) (T:Turn X.prog X.w X.K tg J fp it tn) (st:tn 0 s.heap) (hf:∀b∈fp,FpOk X pins H b)
  (q:CompW J vs fr g tt te σ H Q)
  (hRX:∀(C:Addr) (pl:1e8) (σ8:St) (H8:Hp) (s8:Shared) (ev:Value) (s9:Shared),Inv (CompCx X (vs++fs) scope C s H fp (X.pn++pins)) pl σ8 H8 s8->CXr X.prog X.w X.stack H8 s8 E ev s9->s.heap.objs.size<=C->
   notedBy (model X.prog X.w) X.A (Vv scope (clFrom X.env.cells scope.names []) C X.env) (fun e s'=>RR (.ref s.heap.objs.size) C (.error e) s') ev s9)
  (hRR:∀D C H' s' m',Inv X pins σ H' s'->Q (.ref D) H'->s'.heap.Ns C m'->H' C=none->s.heap.objs.size<=C->RR (.ref D) C (.ok .next) s'):
  wpAny 2e2 X.A (newList []) (fun acc s₃=>wpAny 2e2 X.A (newFunctionEnv scope X.env.globals 9e7 [] X.env.qual none .none (some X.env)) (fun cenv s₄=>
   XG (model X.prog X.w) X.A (.compStart (.ListComp elt [⟨tg,iter,ifs,0⟩] scope pos) 0 (.ref it) acc { cenv with scope:=relabel scope X.env }) (RR acc cenv.locals) s₄) X.xe s₃) X.xe s:=by
 obtain ⟨W,⟨m0,w0⟩,turn⟩:=q
 refine Xm (Vb S.cell' (by intro y hy;simp at hy) (fun h₁ hns₁ hsb₁=>?_) S.kind)
 dsimp only at hns₁ hsb₁ ⊢
 generalize hH2:s.heap.push { cls:=.type "list",dict:=none,data:=.seq ([]:List Value).toArray }=H2 at hns₁ hsb₁ ⊢
 have hCs:H2.objs.size=s.heap.objs.size + 1:=by rw[←hH2,XB]
 have hDC:s.heap.objs.size≠H2.objs.size:=by rw[hCs];exact YB (VQ _)
 have hCle:s.heap.objs.size<=H2.objs.size:=by rw[hCs];exact VN _
 have old:∀b o,s.heap.get? b=some o->h₁.get? b=some o:=fun b o e=>hsb₁.extBut b o (ZaC e hCle) (Yc _ (hH2 ▸ Yc _ e))
 have hacc:h₁.get? s.heap.objs.size=some { cls:=.type "list",data:=.seq ([]:List Value).toArray 0 }:=hsb₁.extBut _ _ hDC (Yc _ (hH2 ▸ Yt _ rfl))
 have hfo:∀b∈fp,∃o,s.heap.get? b=some o:=fun b hb=>by obtain ⟨o,e,_⟩:=T.obj 0 _ st b hb;exact ⟨o,e⟩
 generalize hY:CompCx X (vs++fs) scope H2.objs.size s H fp (X.pn++pins)=Y
 have J0:Inv Y [] (stIn vs fr σ) H { s with heap:=h₁,toks:=s.toks + ([]:List (Str×Value)).length }:=by
  rw[←hY];exact Zb7 S I hf hfo hCle hns₁ old
 have hG:PG Y tg g:=by rw[←hY];exact bG _ _ _ _ _
 have hT:PTs Y ifs tt:=by rw[←hY];exact bT _ _ _ _ _
 have hE:PE (Y.wish fun ev s9=>∃pl σ8 H8 s8,Inv Y pl σ8 H8 s8/\CXr X.prog X.w X.stack H8 s8 E ev s9) elt te:=by rw[←hY];exact bE _ _ _ _ _
 have ePr:Y.prog=X.prog:=by rw[←hY];rfl
 have eW:Y.w=X.w:=by rw[←hY];rfl
 have eK:Y.K=X.K:=by rw[←hY];rfl
 have eA:Y.A=X.A:=by rw[←hY];rfl
 have eC:Y.calm=true:=by rw[←hY];exact hc
 have eEnv:Y.env=Vv scope 9e7 H2.objs.size X.env:=by rw[←hY];rfl
 have eL:Y.env.locals=H2.objs.size:=by rw[eEnv];rfl
 have eX:Y.xe=fun _ _=>False:=by rw[←hY];rfl
 have eS:Y.s₀=s:=by rw[←hY];rfl
 have eEx:Y.ex=fp:=by rw[←hY];rfl
 have eFs:Y.fs=frs X.stack:=by rw[←hY];rfl
 have ePn:Y.pn=X.pn++pins:=by rw[←hY];rfl
 have eCl:∀x c,Y.env.cells.lookup x=some c->X.env.cells.lookup x=some c:=fun x c e=>by
  rw[eEnv] at e;exact S.cl I.ok e
 have cellLt:∀x c,Y.env.cells.lookup x=some c->c≠s.heap.objs.size:=fun x c e=>by
  obtain ⟨v,z⟩:=I.cell x c (eCl x c e);exact YB z.lt
 have pnLt:∀p∈Y.pn,p.1≠s.heap.objs.size:=fun p hp=>by
  rw[ePn] at hp;exact ZaC (I.pin p hp).1 (Yo _)
 have fpD:∀b∈fp,b≠s.heap.objs.size:=fun b hb=>by obtain ⟨o,e⟩:=hfo b hb;exact ZaC e (Yo _)
 have hDfs:s.heap.objs.size∉Y.fs:=fun z=>by
  rw[eFs] at z
  rcases Yg.mp (I.stkSub _ z) with z | z
  ·exact absurd I.lt (by rw[←z];exact Xo _)
  ·exact I.nofs (Yo _) z
 have stat:∀{H':Hp} {o:Obj},8e9->∀b∈fp,FpOk Y [(s.heap.objs.size,o)] H' b:=fun {H' o} hn b hb=>by
  obtain ⟨f0,f1,f2,f3,f4,f5⟩:=hf b hb
  obtain ⟨ob,e⟩:=hfo b hb
  refine ⟨hn b hb,by rw[eL];exact ZaC e hCle,fun z=>?_,.inl (by rw[eEx];exact hb),fun x c e=>f4 x c (eCl x c e),fun p hp=>?_⟩
  ·rw[eFs] at z
   rcases Yg.mp (I.stkSub _ z) with z | z
   ·exact f1 z
   ·exact f2 z
  ·rcases YE.mp hp with hp | hp
   ·rw[ePn] at hp;exact f5 p hp
   ·have:p=(s.heap.objs.size,o):=by simpa using hp
    rw[this];exact Xd (fpD b hb)
 have pinD:∀{σ':St} {H':Hp} {s':Shared} {its:3e4} {k:Nat},Inv Y [] σ' H' s'->H' s.heap.objs.size=none->s'.heap.get? s.heap.objs.size=some { cls:=.type "list",data:=.seq its.toArray k }->
   Inv Y [4e3] σ' H' s':=fun {σ' H' s' its k} i hn e=>i.pins_of fun p hp=>by
  have:p=4e3:=by simpa using hp
  subst this
  exact ⟨e,hn,by rw[eL];exact hDC,hDfs,fun v z=>by cases z⟩
 have loop:∀s₃:Shared,s₃={ s with heap:=h₁,toks:=s.toks + ([]:List (Str×Value)).length }->
   XG 2e2 X.A (.compLoop 3e7 0 (.ref it) 11e0 (Vv scope 9e7 H2.objs.size X.env))
    (RR 11e0 H2.objs.size) s₃:=by
  rintro s₃ rfl
  rw[←eEnv,←ePr,←eW,←eA]
  refine Zcd (fun n s'=>∃i σ' ys its k H',Inv Y [4e3] σ' H' s'/\Vals ys its/\tn i s'.heap/\8e9/\W i n σ' ys H') ?_ m0
   ⟨0,_,[],[],0,H,pinD J0 (I.hok.fresh (Yo _)) hacc,.nil,T.keep _ _ _ st fun b _ o e=>old b o e,fun b hb=>(hf b hb).1,w0⟩
  rintro n s3 ⟨i,σ3,ys,its,k,H3,J3,rv,st3,fr3,w3⟩
  have pD:=J3.pin (s.heap.objs.size,_) (Yd _ (Xc.mpr rfl))
  have eI:=rv.length
  rcases turn i n σ3 ys H3 w3 with ⟨stop,hlen,qn⟩ | ⟨go,hlen,N,hN,step⟩
  ·have dn:=T.done Y ePr eW eK eC i _ s3 σ3 H3 (fun _ _=>False) J3 (stat fr3) st3 stop
   rw[←ePr,←eW] at dn
   refine Za5 dn fun r s4 h_=>?_
   obtain ⟨hr,J4⟩:=h_
   subst hr
   have pD4:=J4.pin (s.heap.objs.size,_) (Yd _ (Xc.mpr rfl))
   obtain ⟨m4,hm4,_⟩:=id J4.loc
   rw[eL] at hm4
   have nC:H3 H2.objs.size=none:=by rw[←eL];exact J4.free
   refine hRR _ _ _ s4 m4 (ZcS I hf (by rw[hY];exact J4) (Yo _) pD4.2.1 hlen rv pD4.1) (qn _ pD4.2.1) hm4 ?_ hCle
   rw[Zao (Xd hDC)];exact nC
  ·have im:=T.item Y ePr eW eK eC i _ s3 σ3 H3 (fun _ _=>False) J3 (stat fr3) st3 go
   rw[←ePr,←eW] at im
   refine Za5 im fun r s4 h_=>?_
   obtain ⟨u,hr,h4⟩:=h_
   subst hr
   sleep 12
   rw[eX] at go1
   refine Za5 go1 fun _ s6 h_=>?_
   obtain ⟨σ6,H6,J6,q6⟩:=h_
   have go2:=hT _ s6 σ6 H6 _ J6 q6
   rw[eX] at go2
   refine Za5 go2 fun ok s7 h_=>?_
   obtain ⟨H7,J7,q7⟩:=h_
   have fin:∀{σ8:St} {H8:Hp} {s8:Shared},Inv Y ([4e3]++pinsAt fp s5.heap) σ8 H8 s8->
     tn (i + 1) s8.heap/\(∀b∈fp,H8 b=none):=fun {σ8 H8 s8} J8=>by
    refine ⟨T.keep _ _ _ st5 fun b hb o e=>(J8.pin (b,o) (Yd _ (Yd _ (ZaO hb e)))).1,fun b hb=>?_⟩
    obtain ⟨o,e,d⟩:=T.obj _ _ st5 b hb
    exact (J8.pin (b,o) (Yd _ (Yd _ (ZaO hb e)))).2.1
   cases ok with
   | false=>
    rw[if_neg Yh] at q7 ⊢
    obtain ⟨m',hm,w7⟩:=hN _ _ _ q7
    exact ⟨m',hm,i + 1,σ6,ys,its,k,H7,J7.unpinned,rv,(fin J7).1,(fin J7).2,w7⟩
   | true=>
    rw[if_pos rfl] at q7 ⊢
    refine YK (hE _ s7 σ6 H7 _ (J7.wish _) q7) (fun yv s8 ⟨y,H8,J8,r8,n8⟩=>?_) fun ev s9 ⟨pl,σ8,H8,s8,J8,hx⟩=>?_
    case refine_2=>
     have:=hRX H2.objs.size pl σ8 H8 s8 ev s9 (by rw[hY];exact J8) hx hCle
     rw[←eEnv,←ePr,←eW,←eA] at this
     exact this
    replace J8:=J8.unwish
    obtain ⟨m',hm,w8⟩:=hN _ _ _ n8
    have pD8:=J8.pin (s.heap.objs.size,_) (Yd _ (YH _ (Xc.mpr rfl)))
    refine append_at (hsz:=by rw[Yn,←eI];exact hlen) pD8.1 fun h9 hs9 hD9=>?_
    have J9:Inv Y [] σ6 H8 { s8 with heap:=h9 }:=(J8.pins_of (pins':=[]) fun p hp=>absurd hp (by simp)).turned (t':=s8.toks) (fun b o hb e=>(hs9.2 b hb).trans e) pD8.2.1 (by rw[eL];exact hDC)
     (.inr (by rw[eS];exact Yo _)) cellLt fun p hp=>pnLt p (by simpa using hp)
    refine ⟨m',hm,i + 1,σ6,ys++[y],its++[yv],k + 1,H8,pinD J9 pD8.2.1 (by rw[hD9,VC]),Vals.append rv (.cons r8 .nil),?_,(fin J8).2,w8⟩
    exact T.keep _ _ _ (fin J8).1 fun b hb o e=>(hs9.2 b (fpD b hb)).trans e
 exact codeAny_compStart_list (loop _ rfl) (T.self _ 0 _ _ _ (T.keep _ _ _ st fun b _ o e=>old b o e) (loop _ rfl))
theorem ps_compX {E:XK}{wi:TI}{i:Nat}{x:Str}{px spos:Pos}(hN:X.N.Nodup)(hx:7e9)(hl:11e4)
  (S:8e4) (hc:10e2) (hi:PI X tg iter wi)
  (bG:14e5) (bT:12e8) (bE:∀C s₀ H₀ ex pn,PE (CompX X (vs++fs) scope E C s₀ H₀ ex pn) elt te) (hex:X.ex=[]) (hst:X.stack=X.env::X.outer) (hfr:X.env.frame=some X.env.locals) (xp:∀{pins σ H s},Inv X pins σ H s->XP X E)
  (hsw:Xg 3e7 (some (.Name x px)) spos.line X.env=pure true:=by rfl)
  (hs:9e4:=by intro _;rfl):
  PS X (.Assign [.Name x px] 3e7 spos) (fun D σ H=>tComp wi vs fr g tt te σ H fun v H1=>D.nx (σ.set i (some v)) H1):=by
 intro pins s σ H D I h
 rw[W5 _ _ _ _ hsw]
 refine Yb (Xx (Yb ?_))
 show wpAny _ X.A (do let _ ←comprehension 3e7 scope X.env _ (newList []) false (eval iter X.env) (some 11e9)) _ _ s
 refine Yb (YK (X1 (use:=some 11e9) (Q:=fun _ s'=>SP X pins D .next s') rfl hs (ZbD (S.clos I.ok)) S.kind S.loc'
  (thn (hi pins s σ H _ I h) fun v s1 h1=>thn h1 fun itv s2 h2=>?_)) (fun _ s' hq=>Yk (Yk hq)) fun _ _ e=>e)
 obtain ⟨it,fp,tn,J,H2,e,I2,T,st2,f2,q2⟩:=h2
 subst e
 refine comp_blockX (RR:=fun acc C=>compPost 2e2 X.A X.xe (some 11e9) (fun _ s'=>SP X pins D .next s') acc C) (Q:=fun v H1=>D.nx (σ.set i (some v)) H1) S hc bG bT bE I2 T st2 f2 q2 (fun C pl σ8 H8 s8 ev s9 J8 hx hC=>comp_out I2 hex hst hfr (xp I2) f2 J8 hx hC) ?_
 intro Dd C H' s' m' I' hq hn hC hle
 show wpAny _ X.A (assign (.Name x px) X.env (.ref Dd)) _ _ _
 have hCL:C≠X.env.locals:=XI (Ym I2.lt hle)
 have hCc:∀x c,X.env.cells.lookup x=some c->c≠C:=fun x c e=>by
  obtain ⟨v,z⟩:=I2.cell x c e
  exact YB (Ym z.lt hle)
 refine WX (ZbQ I' hN hx (.inl hl) (v:=.ref Dd) rfl (fun s'' I'' hch=>?_) (.inr hl))
 obtain ⟨a,hs'',ha⟩:=hch
 have hCa:C≠a:=by
  rcases ha with rfl | ha
  ·exact hCL
  ·exact Xd (hCc x a ha)
 refine ⟨m',hn.sameBut hs'' hCa,fun h' hs'=>⟨σ.set i (some (.ref Dd)),H',?_,hq⟩⟩
 refine I''.turned (t':=s''.toks) (fun b o hb e=>(hs'.2 b hb).trans e) hC hCL (.inr (Yv I2.sz hle)) hCc ?_
 intro p hp
 exact ZaC (I2.pin p hp).1 hle
end
end Ex
namespace Ex
open PySem PySem.Spec PySem.W L2 Pu
open PyProof.Rows hiding St Fr
def rOr (r r':6e3):PSt->Cs->Prop:=fun ρ C=>r ρ C\/r' ρ C
def rThen (f:9e3)(r:6e3):PSt->Cs->Prop:=fun ρ C=>∃ρ1,f ρ C=some (.nx ρ1,C)/\r ρ1 C
def rIf (ft:4e8)(b:Bool)(r:6e3):PSt->Cs->Prop:=fun ρ C=>ft ρ C=some (b,C)/\r ρ C
def rCall (fs:2e3)(R:List SV->Cs->Prop):PSt->Cs->Prop:=fun ρ C=>∃xs,fs ρ C=some (xs,C)/\R xs C
def rYes:PSt->Cs->Prop:=fun _ _=>True
def rArg (f:2e7)(r:6e3):PSt->Cs->Prop:=fun ρ C=>∃z,f ρ C=some (z,C)/\r ρ C
def compR (g:4e9)(tt:4e8)(te:2e7)(re:6e3):List PV->PSt->Cs->Prop
 | [],_,_=>False
 | x::r,ρ,C=>∃ρ1,g x ρ=some ρ1/\((tt ρ1 C=some (true,C)/\(re ρ1 C\/∃p,te ρ1 C=some (.v p,C)/\compR g tt te re r ρ1 C))\/(tt ρ1 C=some (false,C)/\compR g tt te re r ρ1 C))
def rComp (it:11e5)(vs:3e1)(fr:9e2)(g:4e9)(tt:4e8)(te:2e7)(re:6e3):PSt->Cs->Prop:=
 fun ρ C=>∃xs,it ρ C=some (xs,C)/\xs.length<=100000/\compR g tt te re xs (stIn' vs fr ρ) C
def mDefR (n pad:Nat)(r:6e3):List SV->Cs->Prop:=fun ss C=>ss.length=n/\r (ss.map some++YJ pad none) C
@[irreducible] def QRE (X:Cx) (E:XK) (c:Addr) (e:Expr) (r:6e3):Prop:=PE X e (tR X.K E c r)
@[irreducible] def QRA (X:Cx) (E:XK) (c:Addr) (es:4e5) (r:6e3):Prop:=PA X es (tRA X.K E c r)
@[irreducible] def QRS (X:Cx) (E:XK) (c:Addr) (st:Stmt) (r:6e3):Prop:=PS X st (tRS X.K E c r)
@[irreducible] def QRB (X:Cx) (E:XK) (c:Addr) (sts:List Stmt) (r:6e3):Prop:=PSs X sts (tRS X.K E c r)
theorem ZbG:@QRE=fun X E c e r=>PE X e (tR X.K E c r):=by unfold QRE;rfl
theorem QRA_eq:@QRA=fun X E c e r=>PA X e (tRA X.K E c r):=by unfold QRA;rfl
theorem ZcX:@QRS=fun X E c e r=>PS X e (tRS X.K E c r):=by unfold QRS;rfl
theorem QRB_eq:@QRB=fun X E c e r=>PSs X e (tRS X.K E c r):=by unfold QRB;rfl
def CalX (P:Yl)(w:World)(K:W.Frag)(mg:1e5)(base:Heap)(k:Nat)(x:Str)(c:Addr):Prop:=
 ∃(Ab fI:Addr) (fd:Yj),(K.In base->XC base c Ab fI)/\FnOk P w K mg base CX0 k fI fd ["self","row"] (spI c)/\mg x=some (.ref c)/\Binds K fd ["self","row"] [.none]
section
variable {X:Cx}{E:XK}{c:Addr}{e a b t:Expr}{es:4e5}{x:Str}{p pos pos':Pos}{r r':6e3}{st:Stmt}{sts sts' rest:List Stmt}
theorem rq_callG {k:Nat}{f:Addr}{fd:Yj}{ps:3e1}{R:List SV->Cs->Prop}{fs:2e3}(G:FnOk X.prog X.w X.K X.mg X.base (CXr X.prog X.w) k f fd ps (liftR X.K c R))(hp:Passes (CXr X.prog X.w) X E)(hr:Room k X.A)(hg:Gl X x)(hm:X.mg x=some (.ref f))(hk:Yp X.K (.ref f)=true)(hb:L2.Binds X.K fd ps [])
  (ha:13e3) (hdb:2e8:=by decide) (he:1e2:=by rfl) (hpl:3e0:=by rfl):
  QRE X E c 10e0 (rCall fs R):=by
 rw[QAM_eq] at ha
 rw[ZbG]
 exact r_call G hp hr hg hm hk hb ha hdb he hpl
theorem rq_expr (h:QRE X E c e r)(hs:Xg e none pos.line X.env=pure false:=by rfl):QRS X E c (.Expr e pos) r:=by
 rw[ZbG] at h;rw[ZcX];exact r_expr h hs
theorem rq_set {i:Nat}(hN:X.N.Nodup)(hi:7e9)(hx:Loc X.env.scope x)(h:QRE X E c e r)(hs:11e1:=by rfl)
  (hf:5e1:=by first | exact .inl rfl | exact .inr rfl | assumption):QRS X E c (.Assign [.Name x pos'] e pos) r:=by
 rw[ZbG] at h;rw[ZcX];exact r_set hN hi hx h hs hf
theorem rq_ret (h:QRE X E c e r):QRS X E c (.Return (some e) pos) r:=by
 rw[ZbG] at h;rw[ZcX];exact r_ret h
theorem rq_if {ft:4e8}(ht:QTMt X t ft)(ha:QRB X E c sts r):QRS X E c (.If t sts sts' pos) (rIf ft true r):=by
 rw[QTMt_eq] at ht;rw[QRB_eq] at ha;rw[ZcX];exact r_if ht ha
theorem rq_ifE {ft:4e8}(ht:QTMt X t ft)(ha:QRE X E c a r):QRE X E c (.IfExp t a b pos) (rIf ft true r):=by
 rw[QTMt_eq] at ht;rw[ZbG] at ha ⊢;exact r_ifE ht ha
theorem rq_elseE {ft:4e8}(ht:QTMt X t ft)(hb:QRE X E c b r):QRE X E c (.IfExp t a b pos) (rIf ft false r):=by
 rw[QTMt_eq] at ht;rw[ZbG] at hb ⊢;exact r_elseE ht hb
theorem rq_orE (h:QRE X E c e r)(k:QRE X E c e r'):QRE X E c e (rOr r r'):=by
 rw[ZbG] at h k ⊢;exact PE.or' h k
theorem rq_or (h:QRB X E c sts r)(k:QRB X E c sts r'):QRB X E c sts (rOr r r'):=by
 rw[QRB_eq] at h k ⊢;exact PSs.or' h k
theorem rq_here (h:QRS X E c st r):QRB X E c (st::rest) r:=by
 rw[ZcX] at h;rw[QRB_eq];exact r_here h
theorem rq_then {f:9e3}(h:QSM X st f)(h2:QRB X E c rest r):QRB X E c (st::rest) (rThen f r):=by
 rw[QSM_eq] at h;rw[QRB_eq] at h2 ⊢;exact r_then h h2
theorem rq_tup {x1}(h:QRA X E c es r):QRE X E c (.Tuple es x1 pos) r:=by
 rw[QRA_eq] at h;rw[ZbG];exact r_tup h
theorem pa_any:∀es:List Expr,∃t,PA X es t:=fun es=>⟨fun _ _ _=>False,fun _ _ _ _ _ _ _ h=>h.elim⟩
theorem rq_ahere (h:QRE X E c e r)(hs:1e2:=by rfl):QRA X E c 4e6 r:=by
 rw[ZbG] at h;rw[QRA_eq];exact ra_here h (pa_any es) hs
theorem rq_athen {f:2e7}(h:QEM X e f)(hr:QRA X E c es r)(hs:1e2:=by rfl):QRA X E c 4e6 (rArg f r):=by
 rw[QEM_eq] at h;rw[QRA_eq] at hr ⊢;exact ra_then h hr hs
end
section
variable {P:Yl}{w:World}{K:W.Frag}{mg:1e5}{base:Heap}{c:Addr}
theorem rq_raise {N:3e1}{qual:Str}{scope:Scope}{f:Addr}{cd:Value}{A:Around}{outer:List Env}{s:Shared}{H:Hp}{E:XK}{k:Nat}{x:Str}{np cpos pos:Pos}(G:CalX P w K mg base k x c)(hr:Room (k + 1) (cxOf (CXr P w) P w K mg base N qual scope f cd A outer s H E).A)(hh:(cxOf (CXr P w) P w K mg base N qual scope f cd A outer s H E).A.handled=none)
  (hg:Gl 6e8 x) (hdb:2e8:=by decide):
  QRS 6e8 E c (.Raise (some (.Call (.Name x np) [] [] cpos)) none pos) rYes:=by
 rw[ZcX]
 obtain ⟨Ab,fI,fd,hx,F,m,bd⟩:=G
 exact r_raise hx F hr hh hg m bd rfl hdb
end
section
variable {X:Cx}{E:XK}{c:Addr}{tg elt iter:Expr}{ifs:4e5}{scope:Scope}{vs fs:3e1}{fr:9e2}{x:Str}{it:11e5}{g:4e9}{tt:4e8}{te:2e7}{re:6e3}{pos px spos:Pos}
theorem comp_r {K:W.Frag}{σ:St}{H:Hp}{Q:VK}{ι:2e9}{ρ:PSt}{C:Cs}(sr:SR K ι H ρ σ C)(h:rComp it vs fr g tt te re ρ C)(wi:Wish K E c ι H C):
  tComp (tMI K it) vs fr (tMG K g) (tMB K tt) (fun σ H Q=>tM K te σ H Q\/tR K E c re σ H Q) σ H Q:=by
 obtain ⟨xs,e1,hz,hc⟩:=h
 refine ⟨ι,ρ,C,xs,C,sr,e1,fun J H1 f1 c1 it1=>?_⟩
 have sr1:=(sr.step f1 c1).block vs fr
 refine ⟨fun i m σ2 ys H2=>∃ρ2 ps,m=xs.length - i/\Pu.Fr ι H1 H2/\SR K ι H2 ρ2 σ2 C/\Reps K ι H2 ps ys/\ps.length<=i/\compR g tt te re (xs.drop i) ρ2 C,⟨xs.length,_,[],rfl,.refl,sr1,.nil,Yo _,hc⟩,?_⟩
 rintro i m σ2 ys H2 ⟨ρ2,ps,rfl,f2,sr2,rs2,hps,e2⟩
 have hlt:i < xs.length:=by
  rcases Y4 i xs.length with q | q
  ·exact q
  ·rw[List.drop_eq_nil_of_le q] at e2;exact e2.elim
 have hys:ys.length<=sizeLine:=by rw[←rs2.length];exact k100000 (Yv hps (Yv (VV hlt) hz))
 have x0:∀{H3:Hp},Pu.Fr ι H1 H3->Pu.Ex ι [] H1 H3:=fun f=>Pu.Ex.fr f
 have c0:∀{H3:Hp} {C2:Cs},Pu.CR K ι H3 C2->Pu.CR K (ι++[]) H3 C2:=fun c=>by rw[Yq];exact c
 refine .inr ⟨it1.go [] H2 C (x0 f2) (c0 sr2.cr) i hlt,hys,fun σ' ys' H'=>∃ρ2 ps,Pu.Fr ι H1 H'/\SR K ι H' ρ2 σ' C/\Reps K ι H' ps ys'/\ps.length<=i + 1/\compR g tt te re (xs.drop (i + 1)) ρ2 C,?_,?_⟩
 ·rintro σ' ys' H' ⟨ρ3,ps3,f3,sr3,rs3,h3,e3⟩
  exact ⟨xs.length - (i + 1),by lia,ρ3,ps3,rfl,f3,sr3,rs3,h3,e3⟩
 intro v H3 y
 obtain ⟨sm,qv,hq,rq⟩:=it1.yld [] H2 C (x0 f2) (c0 sr2.cr) i v H3 hlt y
 rw[Yq] at rq
 have hd:xs.drop i=qv::xs.drop (i + 1):=by
  rw[XU hlt]
  rw[Ye hlt] at hq
  rw[Yz hq]
 rw[hd] at e2
 obtain ⟨ρ3,hg1,e2⟩:=e2
 have fr3:Pu.Fr ι H2 H3:=fun b o _ z=>sm b o z
 have cr3:Pu.CR K ι H3 C:=sr2.cr.same sm
 rcases e2 with ⟨e3,e4⟩ | ⟨e3,e4⟩
 ·refine ⟨ι,ρ2,C,qv,ρ3,sr2.step fr3 cr3,rq,hg1,fun σ4 sr4=>⟨ι,ρ3,C,true,C,sr4,e3,fun H5 f5 c5=>?_⟩⟩
  have f15:=f2.trans (fr3.trans f5)
  dsimp only
  rw[if_pos rfl]
  rcases e4 with e4 | ⟨p,e6,e7⟩
  ·exact .inr ⟨ι,ρ3,C,sr4.step f5 c5,e4,wi.mono (f1.trans f15)⟩
  ·refine .inl ⟨ι,ρ3,C,.v p,C,sr4.step f5 c5,e6,fun v7 H7 f7 c7 r7=>?_⟩
   exact ⟨ρ3,ps++[p],f15.trans f7,(sr4.step f5 c5).step f7 c7,(Reps.mono c5 f7 _ _ (Reps.mono cr3 f5 _ _ (Reps.mono sr2.cr fr3 _ _ rs2))).append (.cons r7 .nil),by simp;exact hps,e7⟩
 ·refine ⟨ι,ρ2,C,qv,ρ3,sr2.step fr3 cr3,rq,hg1,fun σ4 sr4=>⟨ι,ρ3,C,false,C,sr4,e3,fun H5 f5 c5=>?_⟩⟩
  dsimp only
  rw[if_neg Yh]
  exact ⟨ρ3,ps,f2.trans (fr3.trans f5),sr4.step f5 c5,Reps.mono cr3 f5 _ _ (Reps.mono sr2.cr fr3 _ _ rs2),Nat.le_succ_of_le hps,e4⟩
theorem rq_comp {i:Nat}(hN:X.N.Nodup)(hx:7e9)(hl:11e4)(S:8e4)(hc:10e2)(hi:QIM X tg iter it)
  (bG:∀C s₀ H₀ ex pn,QGM 1e7 tg g) (bT:∀C s₀ H₀ ex pn,QTsM 1e7 ifs tt) (bE:∀C s₀ H₀ ex pn,QEM (CompX X (vs++fs) scope E C s₀ H₀ ex pn) elt te) (bR:∀C s₀ H₀ ex pn,QRE (CompX X (vs++fs) scope E C s₀ H₀ ex pn) E c elt re)
  (hex:X.ex=[]) (hst:X.stack=X.env::X.outer) (hfr:X.env.frame=some X.env.locals) (xp:∀{pins σ H s},Inv X pins σ H s->XP X E)
  (hsw:Xg 3e7 (some (.Name x px)) spos.line X.env=pure true:=by rfl) (hs:9e4:=by intro _;rfl):
  QRS X E c (.Assign [.Name x px] 3e7 spos) (rComp it vs fr g tt te re):=by
 simp only[QIM_eq,QGM_eq,QTsM_eq,QEM_eq,ZbG] at hi bG bT bE bR
 rw[ZcX]
 exact fun pins s σ H D I ⟨ι,ρ,C,sr,h,wi⟩=>ps_compX (g:=tMG X.K g) (tt:=tMB X.K tt) (te:=fun σ H Q=>tM X.K te σ H Q\/tR X.K E c re σ H Q) hN hx hl S hc hi bG bT (fun C s₀ H₀ ex pn pins s σ H Q I h=>h.elim (bE C s₀ H₀ ex pn pins s σ H Q I) (bR C s₀ H₀ ex pn pins s σ H Q I)) hex hst hfr xp hsw hs pins s σ H D I (comp_r sr h wi)
end
section
variable {P:Yl}{w:World}{K:W.Frag}{mg:1e5}{base:Heap}{c:Addr}
theorem rq_def {x qual:Str}{st:Stmt}{f:Addr}{fd:Yj}{N ps:3e1}{k:Nat}{r:6e3}(F:Fun K x qual st f fd)(S:FnScope N ps 8e1)
  (hbody:∀(cdv:Value) (A:Around) (outer:List Env) (s:Shared) (H:Hp) (E:XK),Room k 9e9->
   QRB (cxOf (CXr P w) P w K mg base N qual (defScope st) f cdv A outer s H E) E c (defBody st) r):
  FnOk P w K mg base (CXr P w) (k + 1) f fd ps (liftR K c (mDefR ps.length (N.length - ps.length) r)):=by
 rw[QRB_eq] at hbody
 exact fn_mkR F S hbody
end
end Ex
namespace Ex
open PySem PySem.Spec PySem.W L2
open PyProof.Rows hiding St Fr
open Sem (wp)
def IsExc (h:Heap)(C N:Addr)(bm:3e4):Prop:=∃nm q bs hdct sn sub ab col dd k0 k1 k2 k3 k5 i,h.get? C=some (Vj nm q C N bs bm hdct sn sub ab col dd k0 k1 k2 k3 k5 i)
noncomputable def quiet3:List Str:=["__getattribute__","__getattr__","__class__"]
def XQ (h:Heap)(C Ab:Addr):Prop:=∃N NA mN mA,IsExc h C N (.ref Ab::veM)/\IsExc h Ab NA veM/\h.Ns N mN/\h.Ns NA mA/\∀n∈quiet3,mN n=none/\mA n=none
theorem lk_ve_class:Wq (.type "ValueError") "__class__"=pure (some (.builtin "object.__class__")):=by rw[typeLookup_type,builtinLookup_eq_fast];kernel_rfl
theorem q3c:("__class__":Str)∈quiet3:=.tail _ (.tail _ (.head _))
theorem q3a:("__getattribute__":Str)∈quiet3:=.head _
theorem q3b:("__getattr__":Str)∈quiet3:=.tail _ (.head _)
section
variable {prog:Yl}{w:World}{M:Model}{A:Around}{E:1e4}{h:Heap}{g:Array GenState}{d:Drawn}{t:Nat}{os:OsState}{e C Ab N NA:Addr}{o:Obj}{vs:Array Value}{mN mA:1e5}
theorem xq_look {n:Str}{y:Option Value}{Q:Option Value->Shared->Prop}(x:XQ h C Ab)(hn:n∈quiet3)(hB:Wq (.type "ValueError") n=pure y)(hq:Q y 4e2):wpAny M A (Wq (.ref C) n) Q E 4e2:=by
 obtain ⟨N,NA,mN,mA,⟨nm,q,bs,hd,sn,sub,ab,col,dd,k0,k1,k2,k3,k5,i,hC⟩,⟨nm',q',bs',hd',sn',sub',ab',col',dd',j0,j1,j2,j3,j5,i',hA⟩,hN,hNA,qt⟩:=x
 exact not_own hC hN (mA:=mA) (cd:={ name:=nm',bases:=bs',mro:=.ref Ab::veM,ns:=NA,qualname:=q',hasDict:=hd',slotNames:=sn',subclasses:=sub',abstract:=ab',collection:=col',hasDel:=false }) hA hNA (qt n hn).1 (qt n hn).2 hB hq
theorem xq_sub {T:String}{Q:Bool->Shared->Prop}(x:XQ h C Ab)(ht:veM.contains (.type T)=true)(hq:Q true 4e2):wpAny M A (Uh (.ref C) (.type T)) Q E 4e2:=by
 obtain ⟨N,NA,mN,mA,⟨nm,q,bs,hd,sn,sub,ab,col,dd,k0,k1,k2,k3,k5,i,hC⟩,_⟩:=x
 exact sub_of hC ht hq
theorem cls_get {R:11e7}(x:XQ h C Ab)(hx:h.get? e=some o)(hc:o.cls=.ref C)(hq:R (.ok (.ret (.ref C))) 4e2):
    XG 4e1 A (.call (.builtin "getset_descriptor.__get__") ⟨[.builtin "object.__class__",.ref e,.ref C],[]⟩) R 4e2:=by
  have own:=F.owner_object_class
  obtain ⟨oc,od,odt,osl⟩:=o
  obtain rfl:oc=.ref C:=hc
  refine Vd F.slot_gs_get.plain F.entry_gs_get (F.slot_gs_get.check _ _ _ _ _ _ _ _ F.typeOf_object_class (F.args_gs_get _ _ _) ?_)
  repeat any_goals first
    | assumption
    | with_reducible refine YO hx ?_
    | (rw[own];with_reducible refine xq_sub x rfl ?_)
    | wp_step
  have still:(Code.builtin "object.__class__" ⟨[.ref e],[]⟩).quiet=true:=Vx _ 3e5
  refine ⟨still,codeAny_builtin F.entry_object_class ?_⟩
  repeat any_goals first
    | assumption
    | with_reducible refine YO hx ?_
    | wp_step
theorem cls_run {tk:Tok}{R:11e7}(x:XQ h C Ab)(hx:h.get? e=some o)(hc:o.cls=.ref C)(hq:R (.ok (.ret (.ref C))) 4e2):
    XG 4e1 A (.call (.builtin "BaseException.__getattribute__") ⟨[.ref e,.str "__class__" tk],[]⟩) R 4e2:=by
  have arg:=F.args_bexc_ga (.ref e) (.str "__class__" tk)
  have a1:=F.typeOf_object_class
  have a2:=F.slot_gs_get.lookup
  have a3:=F.slot_gs_set.lookup
  obtain ⟨oc,od,odt,osl⟩:=o
  obtain rfl:oc=.ref C:=hc
  refine Vd VH.ga.plain F.entry_bexc_ga ?_
  have kd:(builtinKind "BaseException.__getattribute__",splitId "BaseException.__getattribute__")=(some .slot,some ("BaseException","__getattribute__")):=by decide +kernel
  delta VS
  simp only[(Vk kd).1,(Vk kd).2]
  delta isInstance
  repeat any_goals first
    | assumption
    | with_reducible refine xq_sub x rfl ?_
    | (with_reducible refine YO hx ?_;dsimp only)
    | with_reducible refine xq_look x q3c lk_ve_class ?_
    | wp_step
  refine cls_get x hx rfl ?_
  repeat any_goals first
    | assumption
    | wp_step
theorem cls_attr {Q:Option Value->Shared->Prop}(x:XQ h C Ab)(hx:h.get? e=some o)(hc:o.cls=.ref C)(hq:Q (some (.ref C)) ⟨h,g,d,t + 1,os⟩):wpAny 4e1 A (getAttr? (.ref e) "__class__") Q E 4e2:=by
  have bd:=VH.ga.bind (.ref e)
  have ne:(Value.builtin "BaseException.__getattribute__"==.builtin "object.__getattribute__")=false:=by decide +kernel
  have ne2:(onTheHeap (.ref C)&&Value.builtin "BaseException.__getattribute__"==.builtin "object.__getattribute__")=false:=by rw[ne,Bool.and_false]
  obtain ⟨oc,od,odt,osl⟩:=o
  obtain rfl:oc=.ref C:=hc
  delta getAttr? getAttrBy?
  repeat any_goals first
    | assumption
    | (with_reducible refine YO hx ?_;dsimp only)
    | with_reducible refine xq_look x q3a VH.ga.lookup ?_
    | with_reducible refine xq_look x q3b F.attrBase_ValueError.noGetattr ?_
    | wp_step
  refine cls_run x hx rfl ?_
  repeat any_goals first
    | assumption
    | wp_step
theorem ex_match {Q:Bool->Shared->Prop}(x:XQ h C Ab)(hx:h.get? e=some o)(hc:o.cls=.ref C)(hq:Q true 4e2):wpAny M A (excMatches (.ref e) (.ref Ab)) Q E 4e2:=by
 obtain ⟨N,NA,mN,mA,⟨nm,q,bs,hd,sn,sub,ab,col,dd,k0,k1,k2,k3,k5,i,hC⟩,⟨nm',q',bs',hd',sn',sub',ab',col',dd',j0,j1,j2,j3,j5,i',hA⟩,_⟩:=x
 have no:=tc_notTuple
 have up:∀{Q:Bool->Shared->Prop},Q true 4e2->wpAny M A (Uh (.ref C) (.ref Ab)) Q E 4e2:=fun z=>Wz hC (by simpa using z)
 have ex:∀{Q:Bool->Shared->Prop},Q true 4e2->wpAny M A (Uh (.ref Ab) (.type "BaseException")) Q E 4e2:=fun z=>Wz hA z
 obtain ⟨oc,od,odt,osl⟩:=o
 obtain rfl:oc=.ref C:=hc
 delta excMatches
 repeat first
  | exact hq
  | with_reducible refine up ?_
  | with_reducible refine ex ?_
  | with_reducible refine YO hA ?_
  | with_reducible refine YO hx ?_
  | wp_step
end
def ExAt (C e:Addr)(h:Heap):Prop:=∃o,h.get? e=some o/\o.cls=.ref C
theorem kitx_exc {K:W.Frag}{e C Ab:Addr}(hx:∀h:Heap,K.In h->XQ h C Ab):KitX K (.ref e) (.ref C) (ExAt C e) where
 ty:=fun M h _ ⟨o,h1,h2⟩=>h2 ▸ (Looks.ld h1).andThen .now
 it:=fun M h X _=>by
  obtain ⟨N,NA,mN,mA,⟨nm,q,bs,hd,sn,sub,ab,col,dd,k0,k1,k2,k3,k5,i,hC⟩,_⟩:=hx h X
  intro A' Q' E' s' k q
  unfold isType loadHead
  exact Yb (wpAny_loadPart (k _ _ hC) (Yk q))
 ne:=fun h tp dd its n sl X htp=>by
  obtain ⟨N,NA,mN,mA,⟨nm,q,bs,hd,sn,sub,ab,col,dd,k0,k1,k2,k3,k5,i,hC⟩,_⟩:=hx h X
  refine W0.mpr fun q=>?_
  have e:C=tp:=Value.ref.inj (beq_iff_eq.mp q)
  subst e
  have z:=congrArg Obj.data (Yz (hC.symm.trans htp))
  cases z
 ca:=fun {_ _ _ _ _ s} X ⟨o,h1,h2⟩ k=>by obtain ⟨h,g,d,t,os⟩:=s;exact cls_attr (hx h X) h1 h2 k
end Ex
namespace Ex
open PySem PySem.Spec PySem.W L2 Pu
open PyProof.Rows hiding St Fr
noncomputable abbrev inX (X:Cx)(e:Addr):Cx:={ X with A:=X.A.mark (some (.ref e)),calm:=false }
section
variable {X:Cx}{pins:1e8}{σ:St}{H:Hp}{s s':Shared}{n y cl:Str}{jn jy:Nat}{c Ab:Addr}
theorem inv_in {e:Addr}(I:2e1):Inv (inX X e) pins σ H s:=
 ⟨⟨I.ok.mod,I.ok.kind,I.ok.glob,I.ok.blt,I.ok.above,I.ok.inj,I.ok.has,I.ok.cab,fun z=>(nomatch z),I.ok.frames,I.ok.stk,I.ok.exf,I.ok.bs,I.ok.bsz,I.ok.noex,I.ok.exfs,I.ok.funs,I.ok.frf⟩,I.os,I.bare,I.base,I.loc,I.cell,I.free,I.freeC,I.pin,I.hok,I.len⟩
theorem name_gone {M:Model}{A:Around}{E:1e4}{pos:Pos}{Q:Unit->Shared->Prop}(I:2e1)(hN:X.N.Nodup)(hj:X.N[jn]? = some n)(hl:X.env.scope.names.lookup n=some .local)
  (h:∀s',Inv X pins (σ.set jn none) H s'->Q () s'):wpAny M A (do bindName X.env n .none;unbindBehindTheSuite X.env n pos) Q E s:=by
 obtain ⟨m,hn,hlk⟩:=id I.loc
 obtain ⟨oL,_,_,hoL,_⟩:=id hn
 refine wpAny_nameGoes_keeps hl hn (by rw[I.ok.kind];rfl) fun h' v hn' hs=>h _ ?_
 have nL:∀b o,X.s₀.heap.get? b=some o->b≠X.env.locals:=fun b o e=>YB (Ym (Ys e) I.ok.above)
 have u:=I.base
 refine ⟨I.ok,I.os,I.bare,⟨fun b o e n hb hx=>(hs.2 b (nL b o e)).trans (u.keep b o e n hb hx),fun b o e n hb hx=>?_,u.free,fun b o e hx=>?_,u.tups,u.frzs,u.tbls⟩,⟨_,hn',fun i x v' e1 e2 e3=>?_⟩,fun y c e=>?_,I.free,I.freeC,fun p hp=>?_,fun b ob e=>?_,by rw[WJ];exact I.len⟩
 ·obtain ⟨sl,e1⟩:=u.slot b o e n hb hx
  exact ⟨sl,(hs.2 b (nL b o e)).trans e1⟩
 ·obtain ⟨o',e1⟩:=u.there b o e hx
  exact ⟨o',(hs.2 b (nL b o e)).trans e1⟩
 ·have hij:jn≠i:=fun z=>by
   subst z
   by_cases hi:jn < σ.length
   ·rw[Y0 hi] at e2;cases e2
   ·rw[YF.mpr (by rw[WJ];lia)] at e2;cases e2
  rw[Y8 hij] at e2
  obtain ⟨u',r',q⟩:=hlk i x v' e1 e2 e3
  refine ⟨u',r',?_⟩
  rcases q with ⟨k,e⟩ | ⟨k,c,e,z⟩
  ·refine .inl ⟨k,?_⟩
   have:x≠n:=fun e=>hij (nodup_ix hN hj (e ▸ e1))
   simp[this,e]
  ·exact .inr ⟨k,c,e,z.sameBut hs (I.cne x c e)⟩
 ·obtain ⟨w',z⟩:=I.cell y c e
  exact ⟨w',z.sameBut hs (I.cne y c e)⟩
 ·obtain ⟨e,n,ne,nf,d⟩:=I.pin p hp
  exact ⟨(hs.2 p.1 ne).trans e,n,ne,nf,d⟩
 ·refine (I.hok b ob e).stay (fun c w' hc q=>(hs.2 c ?_).trans q) (fun _ q=>q) fun _ _ q=>q
  rintro rfl
  have:=I.free
  rcases hc with rfl | hc
  ·rw[e] at this;cases this
  ·rw[hc] at this;cases this
theorem eval_local {M:Model}{A:Around}{E:1e4}{pos:Pos}{v:V}{Q:1e4}(I:2e1)(hj:X.N[jn]? = some n)(hl:X.env.scope.names.lookup n=some .local)(hv:σ[jn]? = some (some v))(h:∀u,RelV v u->Q u s)
  (hd:(n==("__debug__":Str))=false:=by decide):wpAny M A (eval (.Name n pos) X.env) Q E s:=by
 obtain ⟨m,hn,hlk⟩:=I.loc
 obtain ⟨u,r,l⟩:=hlk jn n v hj hv (.inl hl)
 rcases l with ⟨hk,hm⟩ | ⟨hk,_⟩
 ·exact wpAny_Name (wpAny_loadName_local I.ok.kind hk hn hm (h u r)) hd
 ·have hl':X.env.kindOf n=some .local:=hl
  rw[hl'] at hk
  rcases hk with hk | hk<;>cases hk
theorem caught {W:Addr->Hp->Prop}{ev:Value}{Q:Flow->Shared->Prop}{Xe:1e4}{p5 p6 p7 p8 p9:Pos}(I:2e1)(hst:X.stack=X.env::X.outer)(hfr:X.env.frame=some X.env.locals)(hN:X.N.Nodup)(hjn:X.N[jn]? = some n)(hln:X.env.scope.names.lookup n=some .local)
  (hjy:X.N[jy]? = some y) (hly:X.env.scope.names.lookup y=some .local) (hg:Gl X cl) (hmg:X.mg cl=some (.ref Ab)) (hxq:∀h:Heap,X.K.In h->XQ h c Ab)
  (hx:CXr X.prog X.w X.stack H s (fun cv ea H'=>∃e,cv=.ref c/\ea=some e/\W e H') ev s')
  (k:∀e H' s2,W e H'->Inv X pins (((σ.set jn (some (.ref e))).set jy (some (.ref e))).set jn none) H' s2->Q .next s2)
  (hs:Xg (.Name n p7) (some (.Name y p6)) p8.line X.env=pure false:=by rfl) (hd:(n==("__debug__":Str))=false:=by decide) (hdc:(cl==("__debug__":Str))=false:=by decide):
  wpAny 2e2 X.A (Ui ev X.env) (fun _ s₂=>wpAny 2e2 X.A (Uj ev none) (fun _ s₃=>wpAny 2e2 X.A (handleBy ev X.env [.ExceptHandler (some (.Name cl p5)) (some n) [.Assign [.Name y p6] (.Name n p7) p8] p9]) Q Xe s₃) Xe s₂) Xe s':=by
 obtain ⟨e,C1,B,H',rfl,hos,hb,F,e',h1,h2,hW⟩:=hx
 cases h1
 cases h2
 refine note_any (env:=X.env) (outer:=X.outer) (L:=X.env.locals) (by rw[I.ok.frames,hst]) hfr hfr (by rw[←hst];exact F.held) fun g1 d1 u1=>?_
 have F1:=F.turn (by rw[hst];exact d1) u1
 refine ZbB d1 fun g2 d2 u2=>?_
 have F2:=F1.turn (by rw[hst];exact d2) u2
 have I2:Inv X pins σ H' { s' with heap:=g2 }:=I.call' (ch:=[]) hos F2.un F2.ok hb (fun b z=>absurd z (by simp))
 obtain ⟨o,ws,ho,hoc,hod⟩:=(show ObjOk X.prog X.w H' g2 e (exG c e) from I2.hok e _ F2.at').1
 refine wpAny_handleBy_cons (codeAny_handlers_test (ld_glob (X:=inX X e) (inv_in I2) hg hmg ?_ hdc)) (by intro q;cases q)
 refine ex_match (hxq _ I2.kIn) ho hoc (codeAny_handlers_suite_as ?_)
 refine ZbB d2 fun g3 d3 u3=>?_
 have F3:=F2.turn (by rw[hst];exact d3) u3
 have I3:Inv X pins σ H' { s' with heap:=g3 }:=I.call' (ch:=[]) hos F3.un F3.ok hb (fun b z=>absurd z (by simp))
 refine Zcg I3 hN hjn (.inl hln) (v:=.ref e) rfl (fun s4 I4=>?_) (.inr hln)
 have hlen:jn < σ.length:=by rw[I.len];exact (YC.mp hjn).1
 refine Wx (VB (eval_local I4 hjn hln (v:=.ref e) (Y0 hlen) (fun u r=>?_) hd) hs)
 obtain rfl:u=YL e:=r
 refine Zcg I4 hN hjy (.inl hly) (v:=.ref e) rfl (fun s5 I5=>?_) (.inr hly)
 refine Wh ?_
 exact name_gone I5 hN hjn hln fun s6 I6=>k e H' s6 hW I6
end
theorem run_here {X:Cx}{CX:CXT}{k:Nat}{f:Addr}{fd:Yj}{ps:3e1}{sp:Sp}{E:XK}{pins:1e8}{σ:St}{H:Hp}{s:Shared}{Q:VK}{us:3e4}{vs:List V}{Xe:1e4}(F:FnOk X.prog X.w X.K X.mg X.base CX k f fd ps sp)(hr:Room k X.A)(hb:Binds X.K fd ps [])
  (I:2e1) (r:Vals vs us) (h:sp vs H Q E) (hx:∀e s',CX X.stack H s E e s'->Xe e s'):wpAny 2e2 X.A (call (.ref f) us) 12e2 Xe s:=by
 have hl:(us++[]).length=ps.length:=by rw[Yq,←r.length];exact F.len _ _ _ _ h
 have hb':=hb s us I.kIn hl
 rw[Yq] at hb'
 refine wpAny_call (W4 (F.run X.A X.stack s H ⟨us,[]⟩ us vs Q E hr I.env0 hb' r h) fun r s' hq=>?_)
 cases r with
 | error e=>exact hx e s' hq
 | ok fl=>
  cases fl with
  | ret u=>exact I.after hq
  | next=>exact Xl hq
  | brk=>exact Xl hq
  | cont=>exact Xl hq
section
variable {X:Cx}{n y cl x g:Str}{jn jy i:Nat}{c Ab:Addr}{a:Expr}{as:4e5}{fs:2e3}{p1 p2 p3 p4 p5 p6 p7 p8 p9 p10:Pos}{k:Nat}{T:List (Addr×(List SV->Cs->Prop))}
theorem ps_tryR (hok:∀f R,T.lookup f=some R->∃fd ps,FnOk X.prog X.w X.K X.mg X.base (CXr X.prog X.w) k f fd ps (liftR X.K c R)/\Yp X.K (.ref f)=true/\L2.Binds X.K fd ps [])(hr:Room k X.A)(ha:∀Xe,QAM (X.wish Xe) (a::as) fs)(hi:X.N[i]? = some g)
  (hst:X.stack=X.env::X.outer) (hfr:X.env.frame=some X.env.locals) (hN:X.N.Nodup) (hjn:X.N[jn]? = some n) (hln:X.env.scope.names.lookup n=some .local)
  (hjy:X.N[jy]? = some y) (hly:X.env.scope.names.lookup y=some .local) (hg:Gl X cl) (hmg:X.mg cl=some (.ref Ab)) (hxq:∀h:Heap,X.K.In h->XQ h c Ab)
  (hv:Vis X.env.scope g:=by first | exact Or.inl rfl | exact Or.inr 3e6 | exact Or.inr (Or.inr rfl)) (hsw:∀env:Env,Xg (.Call (.Name g p2) (a::as) [] p3) (some (.Name x p1)) p4.line env=pure false:=by intro _;rfl) (hs:∀env:Env,Xg (.Name n p7) (some (.Name y p6)) p8.line env=pure false:=by intro _;rfl)
  (hd:(n==("__debug__":Str))=false:=by decide) (hdc:(cl==("__debug__":Str))=false:=by decide) (hdg:(g==("__debug__":Str))=false:=by decide) (hcd:(g==("__classdict__":Str))=false:=by decide)
  (he:Yi (a::as) X.env=(false,eval a X.env)::Yi as X.env:=by rfl) (hpl:(backTo p3 (Yi as X.env)).any (·.1)=false:=by rfl):
  PS X (.Try [.Assign [.Name x p1] (.Call (.Name g p2) (a::as) [] p3) p4] [.ExceptHandler (some (.Name cl p5)) (some n) [.Assign [.Name y p6] (.Name n p7) p8] p9] [] [] p10)
   (fun D σ H=>∃ι ρ C f xs R,SR X.K ι H ρ σ C/\ρ[i]? = some (some (.v (.fn f)))/\T.lookup f=some R/\fs ρ C=some (xs,C)/\R xs C/\
    ∀e H',Pu.Fr ι H H'->Pu.CR X.K ι H' C->H' e=some (exG c e)->D.nx (((σ.set jn (some (.ref e))).set jy (some (.ref e))).set jn none) H'):=by
 intro pins s σ H D I h_
 obtain ⟨ι,ρ,C,f,xs,R,sr,e1,hT,e2,hR,q⟩:=h_
 obtain ⟨fd,ps,G,hk,hb⟩:=hok f R hT
 obtain ⟨v,hv1,rv⟩:=sr.loc i _ e1
 have hvf:v=.ref f:=by unfold RepS Rep at rv;exact rv
 subst hvf
 refine wpAny_Try_except ?_
 generalize hXe:(fun (e:Value) (s₁:Shared)=>wpAny 2e2 X.A (Ui e X.env) (fun _ s₂=>wpAny 2e2 X.A (Uj e none) (fun _ s₃=>wpAny 2e2 X.A (handleBy e X.env [.ExceptHandler (some (.Name cl p5)) (some n) [.Assign [.Name y p6] (.Name n p7) p8] p9]) (SP X pins D) X.xe s₃) X.xe s₂) X.xe s₁)=Xe
 have hA:=ha Xe
 rw[QAM_eq] at hA
 refine Wx (VB ?_ (hsw _))
 refine Wg ?_
 have ev:=pe_var (X:=X.wish Xe) (pos:=p2) hi hv hdg hcd pins s σ H (fun v H1=>v=.ref f/\H1=H) (I.wish Xe) ⟨.ref f,hv1,rfl,rfl⟩
 refine thn ev fun u s1 h_=>?_
 obtain ⟨v,H1,I1,r1,hv,hH⟩:=h_
 subst hv hH
 cases r1
 refine W.callWith_K (h₀:=X.base) I.ok.mod.kin hk (thn (hA p3 pins s1 σ H1 (fun vs H2=>Pu.Fr ι H1 H2/\Pu.CR X.K ι H2 C/\RepSs X.K ι H2 xs vs) I1 ⟨ι,ρ,C,xs,C,sr,e2,fun vs H2 f2 c2 r2=>⟨f2,c2,r2⟩⟩) fun us s2 ⟨vs,H2,I2,r2,f2,c2,rs⟩=>⟨I2.kIn,?_⟩) he hpl
 have I2':=I2.unwish
 refine thn (run_here (Q:=fun _ _=>False) (E:=fun cv ea H'=>∃e,cv=.ref c/\ea=some e/\(Pu.Fr ι H2 H'/\Pu.CR X.K ι H' C/\H' e=some (exG c e))) G hr hb I2' r2 ⟨ι,xs,C,c2,rs,hR,fun e H' f3 c3 h3=>⟨e,rfl,rfl,f3,c3,h3⟩⟩ fun ev s' hx=>?_) fun u s3 ⟨_,_,_,_,z⟩=>z.elim
 rw[←hXe]
 exact caught (Q:=SP X pins D) I2' hst hfr hN hjn hln hjy hly hg hmg hxq hx (fun e H' s3 ⟨f3,c3,h3⟩ I3=>⟨_,H',I3,q e H' (f2.trans f3) c3 h3⟩) (hs _) hd hdc
theorem sm_tryN {f:2e7}{e:Expr}{hds:ExceptHandler}(h:∀Xe,QEM (X.wish Xe) e f)(hN:X.N.Nodup)(hj:7e9)(hl:11e4)(hsw:∀env:Env,Xg e (some (.Name x p1)) p4.line env=pure false:=by intro _;rfl):
  QSM X (.Try [.Assign [.Name x p1] e p4] [hds] [] [] p10) (mSet i f):=by
 rw[QSM_eq]
 intro pins s σ H D I hq
 have hq':=hq
 refine wpAny_Try_except ?_
 generalize hXe:(fun (e:Value) (s₁:Shared)=>wpAny 2e2 X.A (Ui e X.env) (fun _ s₂=>wpAny 2e2 X.A (Uj e none) (fun _ s₃=>wpAny 2e2 X.A (handleBy e X.env [hds]) (SP X pins D) X.xe s₃) X.xe s₂) X.xe s₁)=Xe
 have hA:=h Xe
 rw[QEM_eq] at hA
 have st:SM (X.wish Xe) (.Assign [.Name x p1] e p4) (mSet i f):=sm_set hN hj (.inl hl) hA (hsw _) (.inr hl)
 refine Wx (thn (st pins s σ H D (I.wish Xe) hq) fun fl s1 q=>?_)
 cases fl with
 | next=>exact Wh (Wh (SP.unwish q))
 | ret u=>exact SP.unwish q
 | brk=>exact SP.unwish q
 | cont=>exact SP.unwish q
end
section
variable {X:Cx}{c Ab:Addr}
theorem ZbO:∀{ds:2e9} {us:3e4},Vals (ds.map V.ref) us->us=ds.map YL
 | [],_,h=>by cases h;rfl
 | a::ds,_,h=>by
  cases h with
  | cons r t=>
   rw[ZbO t]
   obtain rfl:_=YL a:=r
   rfl
def isiE (K:W.Frag)(c:Addr):List V->Hp->VK->Prop:=fun xs H Q=>∃e cv b,xs=[.ref e,cv]/\H e=some (exG c e)/\
 ((∃D,cv=.ref D/\kitOne K (.ref c) (.ref D)=some b)\/(∃n,cv=.ty n/\kitOne K (.ref c) (.type n)=some b)\/∃(tp:Addr) (ds:2e9),cv=.ref tp/\H tp=some (.tup (ds.map V.ref))/\kitAny K (.ref c) (ds.map YL)=some b)/\Q (.bl b) H
theorem call_isiE (hxq:∀h:Heap,X.K.In h->XQ h c Ab):CallR X (.builtin "isinstance") (isiE X.K c):=by
 rintro pins s σ H xs us Q I r ⟨e,cv,b,rfl,he,hc,q⟩
 obtain ⟨u,v,rfl,ru,rv⟩:=Vals.two r
 cases (show u=YL e from ru)
 have fin:∀tk,EP X pins σ Q (.bool b) { s with toks:=tk }:=fun tk=>⟨.bl b,H,I.tok tk,rfl,q⟩
 obtain ⟨o,ws,ho,hoc,hod⟩:=(show ObjOk X.prog X.w H s.heap e (exG c e) from I.hok e _ he).1
 rcases hc with ⟨D,rfl,hk⟩ | ⟨n,rfl,hk⟩ | ⟨tp,ds,rfl,ht,hk⟩
 ·cases (show v=YL D from rv)
  exact kia_one (kitx_exc hxq) I.kIn ⟨o,ho,hoc⟩ hk (fun z=>nomatch z) fin
 ·cases (show v=Value.type n from rv)
  exact kia_one (kitx_exc hxq) I.kIn ⟨o,ho,hoc⟩ hk (fun z=>nomatch z) fin
 ·cases (show v=YL tp from rv)
  obtain ⟨its,ri,⟨ot,h1,h2,n,h3⟩,_⟩:=I.tuple (SqT.of ht)
  rw[ZbO ri] at h3
  obtain ⟨cl,dd,dt,sl⟩:=ot
  cases (show cl=_ from h2)
  cases (show dt=_ from h3)
  exact kia_tup (kitx_exc hxq) I.kIn ⟨o,ho,hoc⟩ h1 hk (fun z=>nomatch z) fin
end
noncomputable def orM (F G:List SV->M SV):List SV->M SV:=fun ss C=>match F ss C with
 | some r=>some r
 | none=>G ss C
theorem orM_fn {P:Yl}{w:World}{K:W.Frag}{mg:1e5}{base:Heap}{k:Nat}{f:Addr}{fd:Yj}{ps:3e1}{F G:List SV->M SV}(a:FnOk P w K mg base CX0 k f fd ps (liftSp K F))(b:FnOk P w K mg base CX0 k f fd ps (liftSp K G)):FnOk P w K mg base CX0 k f fd ps (liftSp K (orM F G)):=by
 have key:∀vs H Q E,liftSp K (orM F G) vs H Q E->liftSp K F vs H Q E\/liftSp K G vs H Q E:=fun vs H Q E h_=>by
  obtain ⟨ι,ss,C,r,C',cr,rs,e,q⟩:=h_
  unfold orM at e
  cases hF:F ss C with
  | some z=>rw[hF] at e;cases e;exact .inl ⟨ι,ss,C,r,C',cr,rs,hF,q⟩
  | none=>rw[hF] at e;exact .inr ⟨ι,ss,C,r,C',cr,rs,e,q⟩
 exact ⟨fun vs H Q E h=>(key vs H Q E h).elim (a.len vs H Q E) (b.len vs H Q E),fun A outer s H args us vs Q E hr e0 hb r h=>(key vs H Q E h).elim (a.run A outer s H args us vs Q E hr e0 hb r) (b.run A outer s H args us vs Q E hr e0 hb r)⟩
open Classical in
def mTold (T:List (Addr×(List SV->Cs->Prop))):List SV->M SV:=fun ss C=>match ss with
 | [.v (.fn f),x]=>if ∃R,T.lookup f=some R/\R [x] C then some (.v (.tup [.str "none",.non]),C) else none
 | _=>none
theorem Zde {T:List (Addr×(List SV->Cs->Prop))}{ss:List SV}{C C':Cs}{r:SV}(h:mTold T ss C=some (r,C')):∃f x R,ss=[.v (.fn f),x]/\T.lookup f=some R/\R [x] C/\r=.v (.tup [.str "none",.non])/\C'=C:=by
 unfold mTold at h
 split at h
 ·split at h
  ·rename_i hc
   obtain ⟨R,h1,h2⟩:=hc
   cases h
   exact ⟨_,_,R,rfl,h1,h2,rfl,rfl⟩
  ·cases h
 ·cases h
noncomputable def toldN:List Str:=["_law_gone","_law_text_here","_law_found","_law_caught","e"]
section
variable {X:Cx}{c Ab a1 a2 a3:Addr}{k:Nat}{T:List (Addr×(List SV->Cs->Prop))}{n1 n2 n3 n4:Str}{b1 b2 b3:List Stmt}
 {q1 q2 q3 q4 q5 q6 p1 p2 p3 p4 p5 p6 p7 p8 p9 p10 r1 r2 r3 r4 r5 t1 t2 t3 t4 t5 t6 t7 t8 t9 t10 t11 t12 u1 u2 u3 u4 u5 u6 u7 u8 v1 v2 v3 v4 pt:Pos} {j1 j2 j3 j4 j5 u0 v0}
theorem told_raise (hok:∀f R,T.lookup f=some R->∃fd ps,FnOk X.prog X.w X.K X.mg X.base (CXr X.prog X.w) k f fd ps (liftR X.K c R)/\Yp X.K (.ref f)=true/\L2.Binds X.K fd ps [])(hr:Room k X.A)
  (hst:X.stack=X.env::X.outer) (hfr:X.env.frame=some X.env.locals) (hNN:X.N=toldN) (hN:X.N.Nodup) (hl:∀x∈X.N,X.env.scope.names.lookup x=some .local)
  (hg:Gl X "HoldError") (hmg:X.mg "HoldError"=some (.ref Ab)) (hxq:∀h:Heap,X.K.In h->XQ h c Ab) (hgi:Gl X "isinstance") (hmi:X.mg "isinstance"=none) (hgv:Gl X "ValueError") (hmv:X.mg "ValueError"=none)
  (hg1:Gl X n1) (hm1:X.mg n1=some (.ref c)) (hk1:kitOne X.K (.ref c) (.ref c)=some true) (hkv:kitOne X.K (.ref c) (.type "ValueError")=some true)
  (hg2:Gl X n2) (hm2:X.mg n2=some (.ref a1)) (hg3:Gl X n3) (hm3:X.mg n3=some (.ref a2)) (hg4:Gl X n4) (hm4:X.mg n4=some (.ref a3)) (hka:kitAny X.K (.ref c) [.ref a1,.ref a2,.ref a3]=some false)
  (d1:(n1==("__debug__":Str))=false:=by decide) (d2:(n2==("__debug__":Str))=false:=by decide) (d3:(n3==("__debug__":Str))=false:=by decide) (d4:(n4==("__debug__":Str))=false:=by decide):
  PSs X [.Assign [.Name "_law_found" q1] (.Constant .none j1 q2) q3,.Assign [.Name "_law_caught" q4] (.Constant .none j2 q5) q6,
   .Try [.Assign [.Name "_law_found" p1] (.Call (.Name "_law_gone" p2) [.Name "_law_text_here" pt] [] p3) p4] [.ExceptHandler (some (.Name "HoldError" p5)) (some "e") [.Assign [.Name "_law_caught" p6] (.Name "e" p7) p8] p9] [] [] p10,
   .If (.Compare (.Name "_law_caught" r1) [.Is] [.Constant .none j3 r2] r3) b1 [] r4,
   .If (.BoolOp .Or [.UnaryOp .Not (.Call (.Name "isinstance" t1) [.Name "_law_caught" t2,.Name n1 t3] [] t4) t5,.UnaryOp .Not (.Call (.Name "isinstance" t6) [.Name "_law_caught" t7,.Name "ValueError" t8] [] t9) t10] t11) b2 [] t12,
   .If (.Call (.Name "isinstance" u1) [.Name "_law_caught" u2,.Tuple [.Name n2 u3,.Name n3 u4,.Name n4 u5] u0 u6] [] u7) b3 [] u8,
   .Return (some (.Tuple [.Constant (.str "none") j4 v1,.Constant .none j5 v2] v0 v3)) v4]
   (fun D σ H=>∃ι C f x R,SR X.K ι H [some (.v (.fn f)),some x,none,none,none] σ C/\T.lookup f=some R/\R [x] C/\
    ∀v H',Pu.Fr ι H H'->Pu.CR X.K ι H' C->RepS X.K ι H' (.v (.tup [.str "none",.non])) v->D.rt v H'):=by
 have hi:∀(i:Nat) (x:Str),toldN[i]? = some x->X.N[i]? = some x:=fun i x z=>by rw[hNN];exact z
 have hlo:∀x,x∈toldN->X.env.scope.names.lookup x=some .local:=fun x z=>hl x (by rw[hNN];exact z)
 have vs:∀x,x∈toldN->Vis X.env.scope x:=fun x z=>.inl (hlo x z)
 have vc:∀{p:Pos},PE X (.Name "_law_caught" p) (tVar 3):=fun {p}=>pe_var (hi 3 _ rfl) (vs _ 3e5)
 have ci:=call_isiE (X:=X) hxq
 have hbi:YZ "isinstance"=some (.builtin "isinstance"):=by rfl
 have hbv:YZ "ValueError"=some (.type "ValueError"):=by rfl
 have am:∀Xe,QAM (X.wish Xe) [.Name "_law_text_here" pt] 7e1:=fun Xe=>by
  rw[QAM_eq]
  exact am_cons (em_var (X:=X.wish Xe) 1 (hi 1 _ rfl) (vs _ 3e5)) am_nil
 refine fun pins s σ H D I h=>Za7 (ps_set (i:=2) hN (hi 2 _ rfl) (.inl (hlo _ 3e5)) pe_non rfl (.inr (hlo _ 3e5)))
  (Za7 (ps_set (i:=3) hN (hi 3 _ rfl) (.inl (hlo _ 3e5)) pe_non rfl (.inr (hlo _ 3e5)))
  (Za7 (ps_tryR (i:=0) (jn:=4) (jy:=3) hok hr am (hi 0 _ rfl) hst hfr hN (hi 4 _ rfl) (hlo _ 3e5) (hi 3 _ rfl) (hlo _ 3e5) hg hmg hxq (vs _ 3e5))
  (Za7 (ps_if (pt_cmpR op_isN vc pe_non 6e5) Zbu pss_nil)
  (Za7 (ps_if (PW.pt (pw_or (pt_not (Zcj (Zck ci hgi hmi hbi (Za1 vc (Za1 (ZbI (v:=.ref c) hg1 hm1 rfl d1) Zc9))) (by intro _;rfl))) (pw_or1 (pt_not (Zcj (Zck ci hgi hmi hbi (Za1 vc (Za1 (pe_bltn (v:=.ty "ValueError") hgv hmv hbv rfl) Zc9))) (by intro _;rfl)))))) Zbu pss_nil)
  (Za7 (ps_if (Zcj (Zck ci hgi hmi hbi (Za1 vc (Za1 (pe_tup (Za1 (ZbI (v:=.ref a1) hg2 hm2 rfl d2) (Za1 (ZbI (v:=.ref a2) hg3 hm3 rfl d3) (Za1 (ZbI (v:=.ref a3) hg4 hm4 rfl d4) Zc9)))) Zc9))) (by intro _;rfl)) Zbu pss_nil)
  (pss_one (ps_ret (pe_tup (Za1 pe_str (Za1 pe_non Zc9))))))))))
  pins s σ H D I ?_
 obtain ⟨ι,C,f,x,R,sr,hT,hR,q⟩:=h
 obtain ⟨v0,w0,hv0⟩:=sr.loc 0 _ rfl
 obtain ⟨v1,w1,hv1⟩:=sr.loc 1 _ rfl
 have hlen:σ.length=5:=sr.len.symm
 have rn:RepS X.K ι H (.v .non) .non:=by unfold RepS Rep;rfl
 refine ⟨ι,_,C,f,[x],R,(sr.set 2 (s:=.v .non) (v:=.non) rn).set 3 (s:=.v .non) (v:=.non) rn,rfl,hT,rfl,hR,fun e H' f1 c1 he=>?_⟩
 have h3:((((((σ.set 2 (some V.non)).set 3 (some V.non)).set 4 (some (.ref e))).set 3 (some (.ref e))).set 4 none))[3]? = some (some (.ref e)):=by
  rw[Y8 2e6,Y0 (by simp[hlen])]
 refine ⟨_,h3,rfl,_,rfl,?_⟩
 refine iteF ?_
 refine ⟨_,h3,?_⟩
 refine ⟨e,_,true,rfl,he,.inl ⟨c,rfl,hk1⟩,true,rfl,?_⟩
 show if (!true)=true then _ else _
 rw[if_neg 2e6]
 refine ⟨_,h3,e,_,true,rfl,he,.inr (.inl ⟨_,rfl,hkv⟩),true,rfl,?_⟩
 refine iteF ?_
 refine ⟨_,h3,(by show 3<=Yu;rw[YU];decide),fun tp htp=>?_⟩
 refine ⟨e,_,false,rfl,by rw[Zao (Zal he htp)];exact he,.inr (.inr ⟨tp,[a1,a2,a3],rfl,Zau,hka⟩),false,rfl,?_⟩
 refine iteF ?_
 refine ⟨(by show 2<=Yu;rw[YU];decide),fun tq htq=>?_⟩
 have up:∀b o,H' b=some o->upd H' tp (.tup ([a1,a2,a3].map V.ref)) b=some o:=fun b o z=>by rw[Zao (Zal z htp)];exact z
 refine q _ _ (f1.trans (Pu.Fr.trans (Fr.new htp) (Fr.new htq))) ((c1.new htp).new htq) ?_
 unfold RepS Rep
 refine ⟨tq,_,rfl,Zau,.cons ?_ (.cons ?_ .nil)⟩
 ·unfold Rep;exact ⟨rfl,by decide +kernel⟩
 ·unfold Rep;rfl
end
noncomputable def nsQ (o:Obj)(names:3e1):Bool:=match o.data with
 | .dict es _=>es.all (fun e=>match e.key with | .str _ _=>true | _=>false)&&names.all fun n=>(nsFind es n).isNone
 | _=>false
noncomputable def nsI (o:Obj)(n:Str):Option Value:=match o.data with
 | .dict es _=>nsFind es n
 | _=>none
theorem nsQ_ok {h:Heap}{N:Addr}{o:Obj}{names:3e1}(g:h.get? N=some o)(q:nsQ o names=true):∃m,h.Ns N m/\(∀n∈names,m n=none)/\∀n,m n=nsI o n:=by
 unfold nsQ at q
 cases hd:o.data with
 | dict es k=>
  rw[hd] at q
  obtain ⟨q1,q2⟩:=Ve.mp q
  have e:∀n,h.nsMap N n=nsI o n:=fun n=>by unfold Heap.nsMap nsI;rw[g];dsimp only;rw[hd]
  refine ⟨h.nsMap N,.of_isNs (by unfold Heap.isNs;rw[g];dsimp only;rw[hd];exact q1),fun n hn=>?_,e⟩
  rw[e]
  unfold nsI
  rw[hd]
  exact Option.isNone_iff_eq_none.mp (YV.mp q2 n hn)
 | _=>rw[hd] at q;cases q
noncomputable def quiet6:List Str:=["__init__","__setattr__","row","__getattribute__","__getattr__","__class__"]
noncomputable def quiet5:List Str:=["__setattr__","row","__getattribute__","__getattr__","__class__"]
structure ExcT (P:Yl)(w:World)(K:W.Frag)(mg:Str->Option Value)(base:Heap)(x:Str)(y1 y2 y3:Str)(c:Addr):Prop where
 cx:CalX P w K mg base 1 x c
 ct:∃Ab a1 a2 a3,mg "HoldError"=some (.ref Ab)/\(∀h:Heap,K.In h->XQ h c Ab)/\mg y1=some (.ref a1)/\mg y2=some (.ref a2)/\mg y3=some (.ref a3)/\kitOne K (.ref c) (.type "ValueError")=some true/\kitAny K (.ref c) [.ref a1,.ref a2,.ref a3]=some false
section
variable {P:Yl}{w:World}{K:W.Frag}{mg:1e5}{base:Heap}{c N Ab NA fI a1 a2 a3 N1 N2 N3 k0 k1 k2 k3 k4 df cdA:Addr}{n0 n1 n2 n3 n4 x y1 y2 y3:Str}{b0 b1 b2 b3 b4 s0 s1 s2 s3 s4 m2 m3 m4:3e4}{t0 t1 t2 t3 t4 u0 u1 u2 u3 u4:Tok}{oN oNA odf:Obj}{st:Stmt}{kV doc pm ct:Value}{an od:Option Addr}{osl:Array 12e9}{p1 p2 p3 p4:Pos}{kn:Nat}
theorem xc_mk (hC:K.lookup c=some (excO n0 c N b0 (.ref Ab::veM) s0 k0 t0 u0))(hA:K.lookup Ab=some (excO n1 Ab NA b1 veM s1 k1 t1 u1))(hN:K.lookup N=some oN)(hNA:K.lookup NA=some oNA)(qN:nsQ oN quiet6=true)(qA:nsQ oNA quiet5=true)(qi:nsI oNA "__init__"=some (.ref fI))
  {oI:Obj} (hI:K.lookup fI=some oI) (hIc:oI.cls=.type "function") (h:Heap) (X:K.In h):XC h c Ab fI/\XQ h c Ab:=by
 obtain ⟨mN,e1,e2,_⟩:=nsQ_ok (X _ _ hN) qN
 obtain ⟨mA,e3,e4,e5⟩:=nsQ_ok (X _ _ hNA) qA
 refine ⟨⟨_,_,_,_,_,_,_,_,_,_,_,_,_,_,mN,mA,_,_,_,_,oI,X _ _ hC,e1,e2 _ 3e5,e2 _ 3e5,e2 _ 3e5,X _ _ hA,e3,(e5 _).trans qi,e4 _ 3e5,e4 _ 3e5,X _ _ hI,hIc⟩,
  N,NA,mN,mA,⟨_,_,_,_,_,_,_,_,_,_,_,_,_,_,_,X _ _ hC⟩,⟨_,_,_,_,_,_,_,_,_,_,_,_,_,_,_,X _ _ hA⟩,e1,e3,fun n hn=>⟨e2 n ?_,e4 n ?_⟩⟩
 ·exact .tail _ (.tail _ (.tail _ hn))
 ·exact .tail _ (.tail _ hn)
theorem excT_mk (hC:K.lookup c=some (excO n0 c N b0 (.ref Ab::veM) s0 k0 t0 u0))(hA:K.lookup Ab=some (excO n1 Ab NA b1 veM s1 k1 t1 u1))(h1:K.lookup a1=some (excO n2 a1 N1 b2 m2 s2 k2 t2 u2))(h2:K.lookup a2=some (excO n3 a2 N2 b3 m3 s3 k3 t3 u3))(h3:K.lookup a3=some (excO n4 a3 N3 b4 m4 s4 k4 t4 u4))
  (hN:K.lookup N=some oN) (hNA:K.lookup NA=some oNA) (qN:nsQ oN quiet6=true) (qA:nsQ oNA quiet5=true) (qi:nsI oNA "__init__"=some (.ref fI))
  (hI:K.lookup fI=some ⟨.type "function",od,.func (fnOf "__init__" "HoldError.__init__" (defArgs st) (defBody st) 8e1 (.ref df) kV doc pm an (.ref cdA) ct),osl⟩) (hcd:codeIn K (.ref cdA) "HoldError.__init__"=true)
  (hdf:K.lookup df=some odf) (hds:odf.data=.seq #[.none] kn) (S:FnScope ["self","row"] ["self","row"] 8e1) (v0:Vis 8e1 "self") (v1:Vis 8e1 "row") (hbd:defBody st=[.Assign [.Attribute (.Name "self" p1) "row" p2] (.Name "row" p3) p4])
  (hb:∀u:Value,∃kk:Option (Array Value)->Sem (List (Str×Value)),bindArgs (fnOf "__init__" "HoldError.__init__" (defArgs st) (defBody st) 8e1 (.ref df) kV doc pm an (.ref cdA) ct) ⟨[u],[]⟩=seqItems? (.ref df) >>= kk/\kk (some #[.none])=pure (List.zip (["self","row"]:List Str) [u,.none]))
  (e0:mg x=some (.ref c)) (eA:mg "HoldError"=some (.ref Ab)) (e1:mg y1=some (.ref a1)) (e2:mg y2=some (.ref a2)) (e3:mg y3=some (.ref a3)) (d:[c,Ab,a1,a2,a3].Nodup):ExcT P w K mg base x y1 y2 y3 c:=by
 have key:=xc_mk hC hA hN hNA qN qA qi hI rfl
 have cl:∀{a N':Addr} {n':Str} {b' m' s':3e4} {k':Addr} {t' u':Tok},K.lookup a=some (excO n' a N' b' m' s' k' t' u')->((clsIn K a).isSome&&typeIn K (.ref a)==some (.type "type"))=true:=fun {a _ _ _ _ _ _ _ _} h=>by
  have z1:(clsIn K a).isSome=true:=by unfold clsIn;rw[h];rfl
  have z2:typeIn K (.ref a)=some (.type "type"):=by show (K.lookup a).map (·.cls)=_;rw[h];rfl
  rw[z1,z2];rfl
 have mro:∀v,subIn K (.ref c) v=some ((YL c::.ref Ab::veM).contains v):=fun v=>by
  show mroIn K c v=_
  unfold mroIn clsIn;rw[hC];rfl
 have no:∀a,c≠a->Ab≠a->(YL c::YL Ab::veM).contains (.ref a)=false:=fun a z1 z2=>by simp[veM,Xd z1,Xd z2]
 have one:∀{a N':Addr} {n':Str} {b' m' s':3e4} {k':Addr} {t' u':Tok},K.lookup a=some (excO n' a N' b' m' s' k' t' u')->c≠a->Ab≠a->kitOne K (.ref c) (.ref a)=some false:=fun {a _ _ _ _ _ _ _ _} h z1 z2=>by
  unfold kitOne
  rw[if_neg (by simpa using z1)]
  unfold kitCls
  dsimp only
  rw[if_pos (cl h),mro,no a z1 z2]
 simp only[WH,Yg,Yr,or_false,not_or] at d
 obtain ⟨⟨d1,d2,d3,d4⟩,⟨d5,d6,d7⟩,_⟩:=d
 refine ⟨⟨Ab,fI,fnOf "__init__" "HoldError.__init__" (defArgs st) (defBody st) 8e1 (.ref df) kV doc pm an (.ref cdA) ct,fun X=>(key base X).1,?_,e0,?_⟩,Ab,a1,a2,a3,eA,fun h X=>(key h X).2,e1,e2,e3,?_,?_⟩
 ·have hI':=hI
  rw[hbd] at hI'
  have:=init_fn (P:=P) (w:=w) (mg:=mg) (base:=base) (CX:=CX0) (k:=0) (C:=c) (Ab:=Ab) hI' hcd S (fun X=>(key base X).1) v0 v1 fun _=>rfl
  rw[←hbd] at this
  exact this
 ·intro s us X hl
  obtain ⟨u,rfl⟩:∃u,us=[u]:=by
   rw[Y3] at hl
   exact WW.mp (Nat.add_right_cancel (m:=1) hl)
  obtain ⟨kk,hk1,hk2⟩:=hb u
  exact BindsTo.of_defaults rfl (X _ _ hdf) hds hk1 hk2
 ·unfold kitOne
  rw[if_neg 3e2]
  unfold kitCls
  dsimp only
  rw[if_pos 1e0,mro]
  rfl
 ·unfold kitAny kitAny kitAny kitAny
  rw[one h1 d2 d5,one h2 d3 d6,one h3 d4 d7]
end
theorem told_fn {P:Yl}{w:World}{K:W.Frag}{mg:1e5}{base:Heap}{st:Stmt}{f:Addr}{fd:Yj}{k:Nat}{T:List (Addr×(List SV->Cs->Prop))}(F:Fun K "_law_told" "_law_told" st f fd)(S:FnScope toldN ["_law_gone","_law_text_here"] 8e1)
  (hbody:∀(cdv:Value) (A:Around) (outer:List Env) (s:Shared) (H:Hp) (E:XK),Room k (A.deeper (envOfC "_law_told" 8e1 s.heap.objs.size f cdv))->
   PSs (cxOf CX0 P w K mg base toldN "_law_told" 8e1 f cdv A outer s H E).nox (defBody st) (fun D σ H=>∃ι C f x R,SR K ι H [some (.v (.fn f)),some x,none,none,none] σ C/\T.lookup f=some R/\R [x] C/\
    ∀v H',Pu.Fr ι H H'->Pu.CR K ι H' C->RepS K ι H' (.v (.tup [.str "none",.non])) v->D.rt v H')):
  FnOk P w K mg base CX0 (k + 1) f fd ["_law_gone","_law_text_here"] (liftSp K (mTold T)):=by
 refine F.ok S (fun vs H Q E ⟨ι,ss,C,r,C',cr,rs,e,q⟩=>?_) (fun cdv A outer s H vs Q E hr ⟨ι,ss,C,r,C',cr,rs,e,q⟩=>?_)
 ·obtain ⟨g,x,R,rfl,_⟩:=Zde e
  rw[←RepSs.length rs];rfl
 ·obtain ⟨g,x,R,rfl,hT,hR,rfl,rfl⟩:=Zde e
  have sr:=ZbR (N:=toldN) cr rs
  exact ⟨_,hbody cdv A outer s H E hr,ι,C',g,x,R,sr,hT,hR,q⟩
end Ex
namespace Ex
open PySem
theorem hvR_of {α:Type}{T:List (Addr×α)}{Pd:Addr->α->Prop}(h:∀q∈T,Pd q.1 q.2):∀a F,T.lookup a=some F->Pd a F:=fun a F e=>h (a,F) (L2.lookup_mem e)
end Ex
namespace Ex
open PySem L2 Pu
theorem bm_no {X:Cx}{sts:List Stmt}:QBM X sts mNo:=by
 rw[QBM_eq]
 exact fun pins s σ H D I h_=>by obtain ⟨ι,ρ,C,fl,C',sr,e,d⟩:=h_;cases e
end Ex
namespace K83
open PySem PySem.Spec L2 Pu
open PyProof.Rows hiding St Fr
noncomputable section
noncomputable def ZaG (f_qbp f_qbo f_qbq:Addr):List (Str×Addr):=[("held",f_qbp),("kept",f_qbo),("late",f_qbo),("ill",f_qbq)]
noncomputable def ZaH (f_qbq f_qbr:Addr):List (Str×Addr):=[("back",f_qbq),("twin",f_qbr),("loose",f_qbq),("behind",f_qbq),("ahead",f_qbq)]
abbrev B_qbm:PSt->M PF:=(mRet (mAndV (mCB (g1 isiH) (aCons 2e0 (aCons (mC (.ty "int")) aNil))) (mAndV (mNotV (mCB (g1 isiH) (aCons 2e0 (aCons (mC (.ty "bool")) aNil)))) (mOp (g2 geP) 2e0 5e0))))
def F_qbm:List SV->M SV:=mDef 2 0 (B_qbm)
abbrev B_qbn:PSt->M PF:=(mRet (mAndV (mFn F_qbm (aCons 2e0 (aCons 6e6 aNil))) (mOp (g2 ltP) 2e0 5e0)))
def F_qbn:List SV->M SV:=mDef 2 0 (B_qbn)
abbrev B_qbs:PSt->M PF:=(mRet (mAndV (mCB (g1 isiH) (aCons 2e0 (aCons (mC (.ty "tuple")) aNil))) (mChain (g2 leP) (g2 leP) 5e0 6e0 5e8)))
def F_qbs:List SV->M SV:=mDef 3 0 (B_qbs)
abbrev B_qbt:PSt->M PF:=(mSeq (mIfS (mOrT (mNotT (mTru (mCB (g1 isiH) (aCons 2e0 13e7)))) (mNotT (mTest (mChain (g2 leP) (g2 leP) 3e8 6e0 (mC (.int 12)))))) (mRet (mC 10e7)) mSkip) (mRet (mCB (g1 allH) (aCons (mVal (mComp (mItems 2e0) ["sign"] [] 14e1 tOk (mOp (g2 inP) 2e0 (mC 7e7)))) aNil))))
def F_qbt:List SV->M SV:=mDef 1 0 (B_qbt)
abbrev B_qbj:PSt->M PF:=(mRet (mFn F_qbn (aCons 2e0 (aCons (mC (.int 12)) aNil))))
def F_qbj:List SV->M SV:=mDef 1 0 (B_qbj)
abbrev B_qbl:PSt->M PF:=(mRet (mAndV (mFn F_qbs (aCons 2e0 (aCons 9e0 (aCons 9e0 aNil)))) (mAndV (mFn F_qbt (aCons 2e5 aNil)) (mAndV (mFn F_qbt (aCons (mOp 5e6 2e0 3e8) aNil)) (mFn F_qbm (aCons (mOp 5e6 2e0 5e4) (aCons 3e8 aNil)))))))
def F_qbl:List SV->M SV:=mDef 1 0 (B_qbl)
abbrev B_qbp:PSt->M PF:=(mRet (mAndV (mOp (g2 eqP) 6e0 9e0) (mAndV (mFn F_qbl (aCons 2e5 aNil)) (mAndV (mFn F_qbj (aCons (mOp 5e6 2e0 3e8) aNil)) (mFn F_qbm (aCons (mOp 5e6 2e0 5e4) (aCons 6e6 aNil)))))))
def F_qbp:List SV->M SV:=mDef 1 0 (B_qbp)
abbrev B_qbo:PSt->M PF:=(mRet (mAndV (mOp (g2 eqP) 6e0 5e4) (mAndV (mFn F_qbl (aCons 2e5 aNil)) (mFn F_qbj (aCons (mOp 5e6 2e0 3e8) aNil)))))
def F_qbo:List SV->M SV:=mDef 1 0 (B_qbo)
abbrev B_qbq:PSt->M PF:=(mRet (mAndV (mOp (g2 eqP) 6e0 3e8) (mFn F_qbl (aCons 2e5 aNil))))
def F_qbq:List SV->M SV:=mDef 1 0 (B_qbq)
abbrev B_qbr:PSt->M PF:=(mRet (mAndV (mOp (g2 eqP) 6e0 5e4) (mAndV (mFn F_qbl (aCons 2e5 aNil)) (mFn F_qbl (aCons (mOp 5e6 2e0 3e8) aNil)))))
def F_qbr:List SV->M SV:=mDef 1 0 (B_qbr)
def Za9 (f_qbp f_qbo f_qbq f_qbr:Addr):List (Addr×(List SV->M SV)):=[(f_qbp,F_qbp),(f_qbo,F_qbo),(f_qbq,F_qbq),(f_qbr,F_qbr)]
abbrev B_qbi (d_READ_FORMS f_qbp f_qbo f_qbq d_MARK_FORMS f_qbr:Addr):PSt->M PF:=(mSeq (mIfS (mOrT (mNotT (mTru (mCB (g1 isiH) (aCons 2e0 (aCons (mC (.ty "tuple")) aNil))))) (mOrT (mNotT (mTru 2e0)) (mNotT (mTru (mCB (g1 isiH) (aCons 2e5 13e7)))))) (mRet (mC 10e7)) mSkip) (mSeq (mIfS (mTest (mOp (topI d_READ_FORMS (ZaG f_qbp f_qbo f_qbq) false) 2e5 (mC (.fn d_READ_FORMS)))) (mSeq (mSet 1 (mOp (topG d_READ_FORMS (ZaG f_qbp f_qbo f_qbq)) (mC (.fn d_READ_FORMS)) 2e5)) (mRet (mCallV 1 (Za9 f_qbp f_qbo f_qbq f_qbr) (aCons (mSlice 2e0 (oPart 3e8) oNo) aNil)))) mSkip) (mSeq (mIfS (mTest (mOp (topI d_MARK_FORMS (ZaH f_qbq f_qbr) false) 2e5 (mC (.fn d_MARK_FORMS)))) (mSeq (mSet 1 (mOp (topG d_MARK_FORMS (ZaH f_qbq f_qbr)) (mC (.fn d_MARK_FORMS)) 2e5)) (mRet (mCallV 1 (Za9 f_qbp f_qbo f_qbq f_qbr) (aCons (mSlice 2e0 (oPart 3e8) oNo) aNil)))) mSkip) (mRet (mC 10e7)))))
def F_qbi (d_READ_FORMS f_qbp f_qbo f_qbq d_MARK_FORMS f_qbr:Addr):List SV->M SV:=mDef 1 1 (B_qbi d_READ_FORMS f_qbp f_qbo f_qbq d_MARK_FORMS f_qbr)
abbrev B_qbz:PSt->M PF:=(mRetF (mComp (mItems (mMt "str" splitH 2e0 (aCons (mC (.str " ")) aNil))) 8e7 [] 14e1 (mTru 2e0) 2e0))
def F_qbz:List SV->M SV:=mDef 1 0 (B_qbz)
abbrev B_qbk:PSt->M PF:=(mRet (mOrV (mOp (g2 eqP) 2e0 (mC (.str "0"))) (mAndV (mOp (g2 neP) 2e0 (mC (.str ""))) (mAndV (mOp (g2 neP) 2e5 (mC (.str "0"))) (mCB (g1 allH) (aCons (mVal (mComp (mItems 2e0) ["sign"] [] 14e1 tOk (mOp (g2 inP) 2e0 (mC (.str "0123456789"))))) aNil))))))
def F_qbk:List SV->M SV:=mDef 1 0 (B_qbk)
abbrev B_qbv:PSt->M PF:=(mIfS (mNotT (mTru 2e0)) mNo mSkip)
def R_need:List SV->Cs->Prop:=Ex.mDefR 1 0 (Ex.rIf (mNotT (mTru 2e0)) true Ex.rYes)
def F_qbv:List SV->M SV:=mDef 1 0 (B_qbv)
abbrev B_qca:PSt->M PF:=(mSeq (mDrop (mFn F_qbv (aCons (mCB (g1 isiH) (aCons 2e0 13e7)) aNil))) (mRet (mFn F_qbz 3e3)))
def R_words_of:List SV->Cs->Prop:=Ex.mDefR 1 0 (Ex.rCall (aCons (mCB (g1 isiH) (aCons 2e0 13e7)) aNil) R_need)
def F_qca:List SV->M SV:=mDef 1 0 (B_qca)
abbrev B_qby:PSt->M PF:=(mSeq (mDrop (mFn F_qbv (aCons (mFn F_qbk 3e3) aNil))) (mRet (mCB (g1 intTH) 3e3)))
def R_read_number:List SV->Cs->Prop:=Ex.mDefR 1 0 (Ex.rCall (aCons (mFn F_qbk 3e3) aNil) R_need)
def F_qby:List SV->M SV:=mDef 1 0 (B_qby)
abbrev B_qbx:PSt->M PF:=(mSeq (mSet 1 (mMt "str" splitH 2e0 (aCons (mC (.str ".")) aNil))) (mSeq (mDrop (mFn F_qbv (aCons (mOp (g2 eqP) (mCB (g1 lenH) 7e1) 9e0) aNil))) (mRet (mTup (aCons (mOp 5e6 5e0 6e6) (aCons (mOp 5e6 5e0 3e8) (aCons (mFn F_qby (aCons (mOp 5e6 5e0 5e4) aNil)) aNil)))))))
def R_read_name:List SV->Cs->Prop:=Ex.mDefR 1 1 (Ex.rThen (mSet 1 (mMt "str" splitH 2e0 (aCons (mC (.str ".")) aNil))) (Ex.rOr (Ex.rCall (aCons (mOp (g2 eqP) (mCB (g1 lenH) 7e1) 9e0) aNil) R_need) (Ex.rThen (mDrop (mFn F_qbv (aCons (mOp (g2 eqP) (mCB (g1 lenH) 7e1) 9e0) aNil))) (Ex.rArg (mOp 5e6 5e0 6e6) (Ex.rArg (mOp 5e6 5e0 3e8) (Ex.rCall (aCons (mOp 5e6 5e0 5e4) aNil) R_read_number))))))
def F_qbx:List SV->M SV:=mDef 1 1 (B_qbx)
abbrev B_qbw (d_READ_FORMS f_qbp f_qbo f_qbq d_MARK_FORMS f_qbr:Addr):PSt->M PF:=(mSeq (mSet 1 (mFn F_qca 3e3)) (mSeq (mSet 2 (mVal (mComp (mItems (mSlice 5e0 (oPart 3e8) oNo)) 8e7 [] 14e1 tOk (mIf 9e6 (mFn F_qbx 3e3) (mFn F_qby 3e3))))) (mSeq (mSet 3 (mCB (g1 tupH) (aCons (mOp 14e0 (mSlice 5e0 oNo (oPart 3e8)) 5e8) aNil))) (mSeq (mDrop (mFn F_qbv (aCons (mFn (F_qbi d_READ_FORMS f_qbp f_qbo f_qbq d_MARK_FORMS f_qbr) (aCons 14e2 aNil)) aNil))) (mRet 14e2)))))
def R_read_claim (d_READ_FORMS f_qbp f_qbo f_qbq d_MARK_FORMS f_qbr:Addr):List SV->Cs->Prop:=Ex.mDefR 1 3 (Ex.rOr (Ex.rCall 3e3 R_words_of) (Ex.rThen (mSet 1 (mFn F_qca 3e3)) (Ex.rOr (Ex.rComp (mItems (mSlice 5e0 (oPart 3e8) oNo)) 8e7 [] 14e1 tOk (mIf 9e6 (mFn F_qbx 3e3) (mFn F_qby 3e3)) (Ex.rOr (Ex.rIf 9e6 true (Ex.rCall 3e3 R_read_name)) (Ex.rIf 9e6 false (Ex.rCall 3e3 R_read_number)))) (Ex.rThen (mSet 2 (mVal (mComp (mItems (mSlice 5e0 (oPart 3e8) oNo)) 8e7 [] 14e1 tOk (mIf 9e6 (mFn F_qbx 3e3) (mFn F_qby 3e3))))) (Ex.rThen (mSet 3 (mCB (g1 tupH) (aCons (mOp 14e0 (mSlice 5e0 oNo (oPart 3e8)) 5e8) aNil))) (Ex.rCall (aCons (mFn (F_qbi d_READ_FORMS f_qbp f_qbo f_qbq d_MARK_FORMS f_qbr) (aCons 14e2 aNil)) aNil) R_need))))))
def F_qbw (d_READ_FORMS f_qbp f_qbo f_qbq d_MARK_FORMS f_qbr:Addr):List SV->M SV:=mDef 1 3 (B_qbw d_READ_FORMS f_qbp f_qbo f_qbq d_MARK_FORMS f_qbr)
abbrev B_qac:PSt->M PF:=(mSeq (mIfS (mTest (mOp (g2 ltP) 5e0 6e0)) (mRet (mOp 5e6 2e0 5e0)) mSkip) (mRet 6e6))
def F_qac:List SV->M SV:=mDef 2 0 (B_qac)
abbrev B_qak:PSt->M PF:=(mSeq (mSet 2 (mFn F_qac (aCons 2e0 (aCons (mOp (g2 modP) 5e0 (mCB (g1 maxH) (aCons 3e8 (aCons 6e0 aNil)))) aNil)))) (mSeq (mSet 3 (mOp (g2 modP) (mOp (g2 mulP) (mOp 14e0 (mOp 14e0 (mOp (g2 modP) 5e8 (mC (.int 2147483629))) (mOp (g2 mulP) (mOp (g2 mulP) (mC (.int 7919)) 5e0) 5e0)) (mC (.int 11))) (mC (.int 48271))) (mC (.int 2147483647)))) (mSeq (mIfS (mTest (mOp (g2 eqP) (mOp (g2 modP) (mFn F_qac (aCons 2e0 (aCons 6e6 aNil))) 5e4) 6e6)) (mSet 2 6e6) mSkip) (mRetF (mLst (aCons (mOp (g2 modP) 5e8 (mOp (g2 powP) (mC (.int 10)) (mC (.int 40)))) (aCons 14e2 aNil)))))))
def F_qak:List SV->M SV:=mDef 2 2 (B_qak)
def FF_qak:List SV->M 6e1:=mDefF 2 2 (B_qak)
abbrev B_qau:PSt->M PF:=(mSeq (mIfS (mTest (mOp (g2 gtP) 2e5 6e6)) (mSeq (mSet 2 (mOp (g2 modP) 2e5 5e0)) (mSeq (mSetIx (mOp (g2 fdivWP) 2e5 5e0) 2e0 6e6) (mRet 5e8))) mSkip) (mSeq (mSetIx (mOp (g2 modP) (mOp 14e0 (mOp (g2 mulP) (mOp 5e6 2e0 3e8) (mC (.int 48271))) (mC (.int 12345))) (mC (.int 2147483647))) 2e0 3e8) (mRet (mOp (g2 modP) (mOp (g2 modP) (mOp (g2 mulP) (mOp 5e6 2e0 3e8) (mOp 5e6 2e0 3e8)) (mC (.int 1999999973))) 5e0))))
def F_qau:List SV->M SV:=mDef 2 1 (B_qau)
abbrev B_qas:PSt->M PF:=(mSeq (mSet 1 (mOp 5e6 (mVal (mLst (aCons (mC (.int 9)) (aCons (mC (.int 100)) (aCons (mOp (g2 powP) (mC (.int 10)) (mC (.int 27))) (aCons (mOp (g2 powP) (mC (.int 10)) (mC (.int 28))) aNil)))))) 7e0)) (mRet (mOp 5e6 (mVal (mLst (aCons (mFn F_qau (aCons 2e0 7e1)) (aCons (mOp (g2 subP) (mOp (g2 subP) 5e0 3e8) (mFn F_qau (aCons 2e0 (aCons 9e0 aNil)))) aNil)))) (mFn F_qau (aCons 2e0 (aCons 5e4 aNil))))))
def F_qas:List SV->M SV:=mDef 1 1 (B_qas)
abbrev B_qbg:PSt->M PF:=(mSeq (mSet 1 (mC 7e7)) (mSeq (mSet 2 (mVal (mLst (aCons (mC (.str "bell")) (aCons (mC (.str "at")) (aCons (mC (.str "got")) (aCons (mC (.str "after")) (aCons (mC (.str "to")) (aCons (mC (.str "join")) (aCons (mC (.str "say")) (aCons (mC (.str "do")) (aCons (mC (.str "free")) (aCons (mC (.str "hand")) (aCons (mC (.str "note")) (aCons (mC (.str "held")) (aCons (mC (.str "twin")) (aCons (mC (.str "a")) aNil))))))))))))))))) (mSeq (mSet 3 (mOp 5e6 (mVal (mLst (aCons 3e8 (aCons 5e4 (aCons 9e0 (aCons (mC (.int 12)) (aCons (mOp 14e0 3e8 (mFn F_qau (aCons 2e0 (aCons (mC (.int 12)) aNil)))) aNil))))))) (mFn F_qau (aCons 2e0 (aCons (mC (.int 5)) aNil))))) (mSeq (mSet 4 (mMt "str" joinH (mC (.str "")) (aCons (mVal (mComp (mRange1 (aCons (mC (.int 4)) aNil)) ["_law_k"] [1,0] 14e1 tOk (mOp 5e6 5e0 (mFn F_qau (aCons 5e8 (aCons (mC (.int 26)) aNil)))))) aNil))) (mRet (mOp 5e6 (mVal (mLst (aCons (mSliceS (mOp (g2 mulTP) 12e5 9e0) oNo (oPart 14e2)) (aCons (mOp 5e6 5e8 (mFn F_qau (aCons 2e0 (aCons (mC (.int 14)) aNil)))) aNil)))) (mCB (g1 intH) (aCons (mOp (g2 eqP) 7e0 6e6) aNil))))))))
def F_qbg:List SV->M SV:=mDef 1 4 (B_qbg)
abbrev B_qam:PSt->M PF:=(mSeq (mSet 1 (mFn F_qbg 3e3)) (mSeq (mSet 2 (mFn F_qbg 3e3)) (mRet (mTup (aCons 5e0 (aCons 5e8 (aCons (mOp 14e0 3e8 (mOp (g2 modP) (mFn F_qas 3e3) (mOp (g2 subP) (mOp (g2 powP) (mC (.int 10)) (mC (.int 30))) 3e8))) aNil)))))))
def F_qam:List SV->M SV:=mDef 1 2 (B_qam)
abbrev B_qao:PSt->M PF:=(mRet (mMt "str" joinH (mC (.str ".")) (aCons (mVal (mComp (mItems 2e0) ["_law_part"] [] 14e1 tOk (mCB (g1 strH) 3e3))) aNil)))
def F_qao:List SV->M SV:=mDef 1 0 (B_qao)
abbrev B_qae:PSt->M PF:=(mSeq (mSet 1 (mFn F_qam 3e3)) (mSeq (mSet 2 (mFn F_qau (aCons 2e0 (aCons (mC (.int 12)) aNil)))) (mSeq (mSet 3 (mVal (mLst (aCons (mTup (aCons (mC (.str "held")) (aCons 5e0 (aCons 5e8 (aCons (mFn F_qas 3e3) aNil))))) (aCons (mTup (aCons (mC (.str "kept")) (aCons 5e0 (aCons 5e8 aNil)))) (aCons (mTup (aCons (mC (.str "late")) (aCons 5e0 (aCons 5e8 aNil)))) (aCons (mTup (aCons (mC (.str "ill")) 7e1)) aNil))))))) (mSeq (mSet 3 (mOp 14e0 14e2 (mVal (mLst (aCons (mTup (aCons (mC (.str "back")) 7e1)) (aCons (mTup (aCons (mC (.str "twin")) (aCons 5e0 (aCons (mFn F_qam 3e3) aNil)))) (aCons (mTup (aCons (mC (.str "loose")) 7e1)) (aCons (mTup (aCons (mC (.str "behind")) 7e1)) (aCons (mTup (aCons (mC (.str "ahead")) 7e1)) aNil))))))))) (mRet (mOp 5e6 14e2 (mFn F_qau (aCons 2e0 (aCons (mC (.int 9)) aNil)))))))))
def F_qae:List SV->M SV:=mDef 1 3 (B_qae)
abbrev B_qai:PSt->M PF:=(mSeq (mNew 1 (mLst (aCons 2e5 aNil))) (mSeq (mFor (mItems (mSlice 2e0 (oPart 3e8) oNo)) (hName 2) (mIfS (mTru (mCB (g1 isiH) (aCons 5e8 (aCons (mC (.ty "tuple")) aNil)))) (mDrop (mApp 5e0 (aCons (mFn F_qao (aCons 5e8 aNil)) aNil))) (mDrop (mApp 5e0 (aCons (mCB (g1 strH) (aCons 5e8 aNil)) aNil))))) (mRet 5e0)))
def F_qai:List SV->M SV:=mDef 1 2 (B_qai)
def FF_qai:List SV->M 6e1:=mDefG 1 2 (B_qai)
abbrev B_qba:PSt->M PF:=(mSeq (mSet 2 (mOp (g2 mulSP) (mC (.str " ")) (mOp 5e6 (mVal (mLst (aCons 6e6 (aCons 3e8 (aCons 6e6 (aCons 9e0 aNil)))))) 7e0))) (mSeq (mFor (mEnum 7e1) (hTup (hCons (hName 3) (hCons (hName 4) hNil)) 2) (mSet 2 (mOp 14e0 (mOp 14e0 5e8 (mOp (g2 mulSP) (mC (.str " ")) (mOp (g2 mulP) (mCB (g1 intH) (aCons (mOp (g2 gtP) 14e2 6e6) aNil)) (mOp 5e6 (mVal (mLst (aCons 3e8 (aCons 3e8 (aCons 5e4 (aCons (mC (.int 4)) aNil)))))) 7e0)))) 12e5))) (mRet (mOp 14e0 5e8 (mOp (g2 mulSP) (mC (.str " ")) (mOp 5e6 (mVal (mLst (aCons 6e6 (aCons 6e6 (aCons 3e8 (aCons 5e4 aNil)))))) 7e0))))))
def F_qba:List SV->M SV:=mDef 2 3 (B_qba)
def Za4 (d_READ_FORMS f_qbp f_qbo f_qbq d_MARK_FORMS f_qbr f_qbw:Addr):List (Addr×(List SV->M SV)):=[(f_qbw,(F_qbw d_READ_FORMS f_qbp f_qbo f_qbq d_MARK_FORMS f_qbr))]
noncomputable def ZbT (d_READ_FORMS f_qbp f_qbo f_qbq d_MARK_FORMS f_qbr f_qbw:Addr):List (Addr×(List SV->Cs->Prop)):=[(f_qbw,(R_read_claim d_READ_FORMS f_qbp f_qbo f_qbq d_MARK_FORMS f_qbr))]
abbrev B_qbc (d_READ_FORMS f_qbp f_qbo f_qbq d_MARK_FORMS f_qbr f_qbw:Addr):PSt->M PF:=(mSeq (mSet 2 (mC .non)) (mSeq (mSet 3 (mC .non)) (mSeq (mSet 2 (mCallV 0 (Za4 d_READ_FORMS f_qbp f_qbo f_qbq d_MARK_FORMS f_qbr f_qbw) 7e1)) (mSeq (mIfS (mTest (mOp (g2 isNP) 14e2 (mC .non))) (mRet (mTup (aCons (mC (.str "read")) (aCons 5e8 aNil)))) mSkip) mNo))))
def F_qbc (d_READ_FORMS f_qbp f_qbo f_qbq d_MARK_FORMS f_qbr f_qbw:Addr):List SV->M SV:=Ex.orM (mDef 2 3 (B_qbc d_READ_FORMS f_qbp f_qbo f_qbq d_MARK_FORMS f_qbr f_qbw)) (Ex.mTold (ZbT d_READ_FORMS f_qbp f_qbo f_qbq d_MARK_FORMS f_qbr f_qbw))
abbrev B_qaw (Z:List SV->M SV):PSt->M PF:=(mSeq (mIfS (mTru (mCB (g1 isiH) (aCons 5e0 (aCons (mC (.ty "tuple")) aNil)))) (mSeq (mIfS (mOrT (mNotT (mTru (mCB (g1 isiH) (aCons 2e0 (aCons (mC (.ty "tuple")) aNil))))) (mTest (mOp (g2 neP) 6e0 (mCB (g1 lenH) 7e1)))) (mRet (mC 10e7)) mSkip) (mRet (mCB (g1 allH) (aCons (mVal (mComp (mZip (aCons 2e0 7e1)) ["_law_one","_law_other"] [] (hTup (hCons 14e1 (hCons (hName 1) hNil)) 2) tOk (mFn Z (aCons 2e0 7e1)))) aNil)))) mSkip) (mSeq (mIfS (mTru (mCB (g1 isiH) (aCons 5e0 13e7))) (mRet (mAndV (mCB (g1 isiH) (aCons 2e0 13e7)) (mOp (g2 eqP) 2e0 5e0))) mSkip) (mRet (mAndV (mCB (g1 isiH) (aCons 2e0 (aCons (mC (.ty "int")) aNil))) (mAndV (mNotV (mCB (g1 isiH) (aCons 2e0 (aCons (mC (.ty "bool")) aNil)))) (mOp (g2 eqP) 2e0 5e0))))))
def F_qaw:Nat->List SV->M SV
 | 0=>fun _ _=>none
 | n + 1=>mDef 2 0 (B_qaw (F_qaw n))
abbrev B_qaa:PSt->M PF:=(mRet (mAndV (mChain (g2 ltP) (g2 ltP) 6e6 6e0 (mC (.int 13))) (mCB (g1 allH) (aCons (mVal (mComp (mItems 2e0) ["_law_sign"] [] 14e1 tOk (mOp (g2 inP) 2e0 (mC 7e7)))) aNil))))
def F_qaa:List SV->M SV:=mDef 1 0 (B_qaa)
abbrev B_qbe:PSt->M PF:=(mSeq (mIfS (mOrT (mTest (mOp (g2 eqP) 2e0 (mC (.str "")))) (mOrT (mNotT (mTru (mCB (g1 allH) (aCons (mVal (mComp (mItems 2e0) ["_law_sign"] [] 14e1 tOk (mOp (g2 inP) 2e0 (mC (.str "0123456789"))))) aNil)))) (mAndT (mTest (mOp (g2 neP) 2e0 (mC (.str "0")))) (mTest (mOp (g2 eqP) 2e5 (mC (.str "0"))))))) (mRet (mC .non)) mSkip) (mRet (mIf (mTest (mChain (g2 leP) (g2 leP) 5e0 (mCB (g1 intTH) 3e3) 5e8)) (mCB (g1 intTH) 3e3) (mC .non))))
def F_qbe:List SV->M SV:=mDef 3 0 (B_qbe)
abbrev B_qaq:PSt->M PF:=(mSeq (mIfS (mOrT (mTest (mOp (g2 neP) 6e0 9e0)) (mOrT (mNotT (mTru (mFn F_qaa (aCons 2e5 aNil)))) (mNotT (mTru (mFn F_qaa (aCons (mOp 5e6 2e0 3e8) aNil)))))) (mRet (mC .non)) mSkip) (mSeq (mSet 1 (mFn F_qbe (aCons (mOp 5e6 2e0 5e4) (aCons 3e8 (aCons (mOp (g2 powP) (mC (.int 10)) (mC (.int 60))) aNil))))) (mRet (mIf (mTest (mOp (g2 isNP) 5e0 (mC .non))) (mC .non) (mTup (aCons 2e5 (aCons (mOp 5e6 2e0 3e8) 7e1)))))))
def F_qaq:List SV->M SV:=mDef 1 1 (B_qaq)
abbrev B_qag:PSt->M PF:=(mSeq (mIfS (mTest (mOp (g2 ltDP) 6e0 5e4)) (mRet (mC .non)) mSkip) (mSeq (mNew 1 (mLst (aCons (mFn F_qaq (aCons (mMt "str" splitH (mOp 5e6 2e0 3e8) (aCons (mC (.str ".")) aNil)) aNil)) aNil))) (mSeq (mIfS (mAndT (mTest (mOp (g2 (inDP false)) 2e5 (mTup (aCons (mC (.str "held")) (aCons (mC (.str "kept")) (aCons (mC (.str "late")) aNil)))))) (mTest (mOp (g2 gtP) 6e0 5e4))) (mDrop (mApp 5e0 (aCons (mFn F_qbe (aCons (mOp 5e6 2e0 5e4) (aCons 6e6 (aCons (mC (.int 11)) aNil)))) aNil))) mSkip) (mSeq (mIfS (mAndT (mTest (mOp (g2 (deepP eqD)) 2e5 (mC (.str "held")))) (mTest (mOp (g2 gtP) 6e0 9e0))) (mDrop (mApp 5e0 (aCons (mFn F_qbe (aCons (mOp 5e6 2e0 9e0) (aCons 6e6 (aCons (mOp (g2 powP) (mC (.int 10)) (mC (.int 60))) aNil)))) aNil))) mSkip) (mSeq (mIfS (mAndT (mTest (mOp (g2 (deepP eqD)) 2e5 (mC (.str "twin")))) (mTest (mOp (g2 gtP) 6e0 5e4))) (mDrop (mApp 5e0 (aCons (mFn F_qaq (aCons (mMt "str" splitH (mOp 5e6 2e0 5e4) (aCons (mC (.str ".")) aNil)) aNil)) aNil))) mSkip) (mSeq (mSet 2 (mDict ["held","kept","late","twin","ill","back","loose","behind","ahead"] (aCons (mC (.int 4)) (aCons 9e0 (aCons 9e0 (aCons 9e0 (aCons 5e4 (aCons 5e4 (aCons 5e4 (aCons 5e4 (aCons 5e4 aNil))))))))))) (mSeq (mIfS (mOrT (mTest (mOp (g2 (deepP fun p q=>!eqD p q)) (mMt "dict" getH2 5e8 (aCons 2e5 (aCons 6e6 aNil))) 6e0)) (mTest (mOp (g2 (inDP false)) (mC .non) 5e0))) (mRet (mC .non)) mSkip) (mRet (mCB (g1 tupH) (aCons (mOp 14e0 (mSlice 2e0 oNo (oPart 3e8)) 5e0) aNil))))))))))
def F_qag:List SV->M SV:=mDef 1 2 (B_qag)
abbrev B_qay:PSt->M PF:=(mSeq (mNew 2 (mFnF FF_qai 7e1)) (mSeq (mSet 3 (mFn F_qau (aCons 2e0 (aCons (mC (.int 9)) aNil)))) (mSeq (mSet 4 (mFn F_qau (aCons 2e0 (aCons (mCB (g1 lenH) (aCons 5e8 aNil)) aNil)))) (mSeq (mSet 5 (mVal (mLst (aCons (mC (.str "0")) (aCons (mC (.str "01")) (aCons (mC (.str "-1")) (aCons (mC (.str "12")) (aCons (mC (.str "11")) (aCons (mC (.str "")) (aCons (mC (.str "x")) (aCons (mC (.str "Held")) (aCons (mC (.str "held")) (aCons (mC (.str "kept")) (aCons (mC (.str "late")) (aCons (mC (.str "ill")) (aCons (mC (.str "twin")) (aCons (mC (.str "ahead")) (aCons (mC (.str "told")) (aCons (mC (.str "a.b")) aNil))))))))))))))))))) (mSeq (mSet 5 (mOp 14e0 (mVar 5) (mVal (mLst (aCons (mC (.str "a.b.0")) (aCons (mC (.str "a.b.c")) (aCons (mC (.str "a.b.1.2")) (aCons (mC (.str "A.b.1")) (aCons (mC (.str "a..1")) (aCons (mC (.str "a.b.01")) (aCons (mC (.str "a.abcdefghijklm.1")) (aCons (mC (.str "a.b.1")) (aCons (mOp 5e6 5e8 (mNeg 3e8)) aNil))))))))))))) (mSeq (mIfS (mTest (mOp (g2 eqP) 14e2 6e6)) (mDrop (mPop 5e8 (aCons 12e5 aNil))) (mIfS (mTest (mOp (g2 eqP) 14e2 3e8)) (mDrop (mIns 5e8 (aCons 12e5 (aCons (mOp 5e6 5e8 12e5) aNil)))) (mIfS (mTest (mOp (g2 eqP) 14e2 5e4)) (mSwap (aCons (mOp 5e6 5e8 (mOp (g2 subP) 12e5 3e8)) (aCons (mOp 5e6 5e8 12e5) aNil)) 5e8 12e5 5e8 (mOp (g2 subP) 12e5 3e8)) (mIfS (mTest (mOp (g2 ltP) 14e2 (mC (.int 5)))) (mSetIx (mOp 5e6 (mVar 5) (mFn F_qau (aCons 2e0 (aCons (mC (.int 25)) aNil)))) 5e8 12e5) (mIfS (mTest (mOp (g2 eqP) 14e2 (mC (.int 5)))) (mDrop (mIns 5e8 (aCons 12e5 (aCons (mOp 5e6 (mVar 5) (mFn F_qau (aCons 2e0 (aCons (mC (.int 25)) aNil)))) aNil)))) (mIfS (mTest (mOp (g2 eqP) 14e2 (mC (.int 6)))) (mSetIx (mOp 14e0 (mOp 5e6 5e8 12e5) (mOp 5e6 (mVal (mLst (aCons (mC (.str "0")) (aCons (mC (.str ":")) (aCons (mC (.str ".")) (aCons (mC (.str "a")) (aCons (mC (.str "\n")) (aCons (mC (.str "-")) aNil)))))))) (mFn F_qau (aCons 2e0 (aCons (mC (.int 6)) aNil))))) 5e8 12e5) (mIfS (mTest (mOp (g2 eqP) 14e2 (mC (.int 7)))) (mSetIx (mOp 14e0 (mOp 5e6 (mVal (mLst (aCons (mC (.str "0")) (aCons (mC (.str ":")) (aCons (mC (.str ".")) (aCons (mC (.str "A")) (aCons (mC (.str "\n")) (aCons (mC (.str "-")) aNil)))))))) (mFn F_qau (aCons 2e0 (aCons (mC (.int 6)) aNil)))) (mOp 5e6 5e8 12e5)) 5e8 12e5) (mNew 2 (mLst (aCons (mC (.str "a")) (aCons (mC (.str "b")) (aCons (mC (.str "1")) (aCons (mC (.str "at")) (aCons (mC (.str "5:")) (aCons (mC (.str "note")) aNil))))))))))))))) (mRet 5e8)))))))
def F_qay:List SV->M SV:=mDef 2 4 (B_qay)
abbrev B_law (d_READ_FORMS f_qbp f_qbo f_qbq d_MARK_FORMS f_qbr f_qbw:Addr):PSt->M PF:=(mSeq (mFor (mRange1 (aCons (mOp 14e0 3e8 (mCB (g1 minH) (aCons (mC (.int 30)) (aCons 6e0 aNil)))) aNil)) (hName 1) (mSeq (mNew 2 (mFnF FF_qak (aCons 2e0 7e1))) (mSeq (mSet 3 (mFn F_qay (aCons 5e8 (aCons (mFn F_qae (aCons 5e8 aNil)) aNil)))) (mSeq (mSet 4 (mFn F_qag (aCons (mVal (mComp (mItems 14e2) ["_law_word_here"] [] 14e1 (mTest (mOp (g2 neP) 2e0 (mC (.str "")))) 2e0)) aNil))) (mSeq (mSet 5 (mFn F_qba (aCons 5e8 (aCons 14e2 aNil)))) (mSeq (mFor (mRange1 (aCons 5e4 aNil)) (hName 6) (mSeq (mAsg (mFn (F_qbc d_READ_FORMS f_qbp f_qbo f_qbq d_MARK_FORMS f_qbr f_qbw) (aCons (mC (.fn f_qbw)) (aCons (mVar 5) aNil))) (hTup (hCons (hName 7) (hCons (hName 8) hNil)) 2)) (mIfS (mOrT (mTest (mOp (g2 neP) (mVar 7) (mOp 5e6 (mVal (mLst (aCons (mC (.str "read")) (aCons (mC (.str "none")) aNil)))) (mCB (g1 intH) (aCons (mOp (g2 isNP) 12e5 (mC .non)) aNil))))) (mAndT (mTest (mOp (g2 notNP) 12e5 (mC .non))) (mNotT (mTru (mFn (F_qaw 12) (aCons (mVar 8) (aCons 12e5 aNil))))))) (mRet (mC 10e7)) mSkip))) (mSeq (mSet 9 (mVal (mLst (aCons (mC (.str "")) (aCons (mC (.str " ")) (aCons (mC (.str "\n")) (aCons (mC .non) (aCons (mC (.int 5)) (aCons (mC 13e9) (aCons 14e2 (aCons (mCB (g1 tupH) (aCons 14e2 aNil)) (aCons mDict0 aNil)))))))))))) (mIfS (mTest (mOp (g2 neP) (mOp 5e6 (mFn (F_qbc d_READ_FORMS f_qbp f_qbo f_qbq d_MARK_FORMS f_qbr f_qbw) (aCons (mC (.fn f_qbw)) (aCons (mOp 5e6 (mVar 9) (mFn F_qau (aCons 5e8 (aCons (mC (.int 9)) aNil)))) aNil))) 6e6) (mC (.str "none")))) (mRet (mC 10e7)) mSkip)))))))) (mRet (mC 13e9)))
def F_law (d_READ_FORMS f_qbp f_qbo f_qbq d_MARK_FORMS f_qbr f_qbw:Addr):List SV->M SV:=mDef 1 9 (B_law d_READ_FORMS f_qbp f_qbo f_qbq d_MARK_FORMS f_qbr f_qbw)
end
structure Txt (mg:Str->Option Value):Prop where
 c_FIGURES:∃t,mg "FIGURES"=some (.str "0123456789" t)
 c_LONGEST_WORD:∃t,mg "LONGEST_WORD"=some (.int 12 t)
 c_MOST_CLAUSES:∃t,mg "MOST_CLAUSES"=some (.int 12 t)
 c_SMALL_LETTERS:∃t,mg "SMALL_LETTERS"=some (.str "abcdefghijklmnopqrstuvwxyz" t)
 b_ValueError:mg "ValueError"=none
 b_all:mg "all"=none
 b_bool:mg "bool"=none
 b_enumerate:mg "enumerate"=none
 b_int:mg "int"=none
 b_isinstance:mg "isinstance"=none
 b_len:mg "len"=none
 b_max:mg "max"=none
 b_min:mg "min"=none
 b_range:mg "range"=none
 b_str:mg "str"=none
 b_tuple:mg "tuple"=none
 b_zip:mg "zip"=none
section
variable {P:Yl}{w:World}{K:W.Frag}{mg:1e5}{base:Heap}
abbrev s_qbm:Stmt:=top 4
theorem sc_qbm:FnScope ["thing","least"] ["thing","least"] (defScope s_qbm):=1e1
theorem ok_qbm {f_me:Addr}{fd_me:Yj}(Fn:Fun K "is_number" "is_number" s_qbm f_me fd_me)(T:Txt mg):FnOk P w K mg base CX0 1 f_me fd_me ["thing","least"] (liftSp K (F_qbm)):=
 Zap Fn sc_qbm fun cdv A outer s H E hr=>(@Zai _ _ _ (@Zak _ _ _ _ (Zay (ZaJ 1e0 T.b_isinstance 1e0 (@Zaa _ _ _ _ _ (Zab 0) (@Zaa _ _ _ _ _ (ZaV 1e0 T.b_int 1e0) Zac 1e0) 1e0)) (Zay (q_em_not (ZaJ 1e0 T.b_isinstance 1e0 (@Zaa _ _ _ _ _ (Zab 0) (@Zaa _ _ _ _ _ (ZaV 1e0 T.b_bool 1e0) Zac 1e0) 1e0))) (ZaU (Zax op_ge ge_ok.r (Zab 0) (Zab 1) 6e5))))))
end
section
variable {P:Yl}{w:World}{K:W.Frag}{mg:1e5}{base:Heap}
abbrev s_qbn:Stmt:=top 5
theorem sc_qbn:FnScope ["thing","bound"] ["thing","bound"] (defScope s_qbn):=1e1
theorem ok_qbn {f_me:Addr}{fd_me:Yj}{f_qbm:Addr}{fd_qbm:Yj}(Fn:Fun K "is_number_below" "is_number_below" s_qbn f_me fd_me)(T:Txt mg)(G_qbm:FnOk P w K mg base CX0 1 f_qbm fd_qbm ["thing","least"] (liftSp K F_qbm))(m_qbm:mg "is_number"=some (.ref f_qbm))(k_qbm:Yp K (.ref f_qbm)=true)(b_qbm:L2.Binds K fd_qbm ["thing","least"] []):FnOk P w K mg base CX0 2 f_me fd_me ["thing","bound"] (liftSp K (F_qbn)):=
 Zap Fn sc_qbn fun cdv A outer s H E hr=>(@Zai _ _ _ (@Zak _ _ _ _ (Zay (Zaf G_qbm 1e3 1e0 m_qbm k_qbm b_qbm (@Zaa _ _ _ _ _ (Zab 0) 5e9 1e0)) (ZaU (Zax op_lt lt_ok.r (Zab 0) (Zab 1) 6e5)))))
end
section
variable {P:Yl}{w:World}{K:W.Frag}{mg:1e5}{base:Heap}
abbrev s_qbs:Stmt:=top 6
theorem sc_qbs:FnScope ["thing","least","most"] ["thing","least","most"] (defScope s_qbs):=1e1
theorem ok_qbs {f_me:Addr}{fd_me:Yj}(Fn:Fun K "is_row_of" "is_row_of" s_qbs f_me fd_me)(T:Txt mg):FnOk P w K mg base CX0 1 f_me fd_me ["thing","least","most"] (liftSp K (F_qbs)):=
 Zap Fn sc_qbs fun cdv A outer s H E hr=>(@Zai _ _ _ (@Zak _ _ _ _ (Zay (ZaJ 1e0 T.b_isinstance 1e0 (@Zaa _ _ _ _ _ (Zab 0) 12e7 1e0)) (ZaU (Zc8 op_le op_le le_ok.r le_ok.r (Zab 1) 7e4 (Zab 2))))))
end
section
variable {P:Yl}{w:World}{K:W.Frag}{mg:1e5}{base:Heap}
abbrev s_qbt:Stmt:=top 7
theorem sc_qbt:FnScope 11e2 11e2 (defScope s_qbt):=1e1
theorem ok_qbt {f_me:Addr}{fd_me:Yj}(Fn:Fun K "is_word" "is_word" s_qbt f_me fd_me)(T:Txt mg):FnOk P w K mg base CX0 1 f_me fd_me 11e2 (liftSp K (F_qbt)):=
 Zap Fn sc_qbt fun cdv A outer s H E hr=>(@Zah _ _ _ _ _ (@Zas _ _ _ _ _ _ _ _ (Zbp (Zbf (ZaW (ZaI (ZaJ 1e0 T.b_isinstance 1e0 (@Zaa _ _ _ _ _ (Zab 0) 13e5 1e0)))) (Zbn (ZaW (Zc4 op_le op_le le_ok.r le_ok.r Zad 7e4 (Zc7 1e0 T.c_LONGEST_WORD)))))) (@Zai _ _ _ (@Zak _ _ _ _ Zbt)) Zaw) (@Zai _ _ _ (@Zak _ _ _ _ (ZbY rfl 1e0 T.b_all 1e0 (@Zaa _ _ _ _ _ (ZaB (ZaZ (vs:=["sign"]) (fs:=[]) (fr:=[]) 4e7 rfl (ZaX (Zab 0)) (fun _ _ _ _ _=>(Zar (i:=0) (show ((["sign"]:List Str)++([]:List Str)).Nodup by decide +kernel) rfl 3e6)) 13e4 (fun _ _ _ _ _=>(Zax Za8 in_ok.r (Zab 0) (Zc6 1e0 T.c_SMALL_LETTERS) rfl)))) Zac 1e0)))))
end
section
variable {P:Yl}{w:World}{K:W.Frag}{mg:1e5}{base:Heap}
abbrev s_qbj:Stmt:=top 9
theorem sc_qbj:FnScope 11e2 11e2 (defScope s_qbj):=1e1
theorem ok_qbj {f_me:Addr}{fd_me:Yj}{f_qbn:Addr}{fd_qbn:Yj}(Fn:Fun K "is_clause_number" "is_clause_number" s_qbj f_me fd_me)(T:Txt mg)(G_qbn:FnOk P w K mg base CX0 2 f_qbn fd_qbn ["thing","bound"] (liftSp K F_qbn))(m_qbn:mg "is_number_below"=some (.ref f_qbn))(k_qbn:Yp K (.ref f_qbn)=true)(b_qbn:L2.Binds K fd_qbn ["thing","bound"] []):FnOk P w K mg base CX0 3 f_me fd_me 11e2 (liftSp K (F_qbj)):=
 Zap Fn sc_qbj fun cdv A outer s H E hr=>(@Zai _ _ _ (@Zak _ _ _ _ (Zaf G_qbn 1e3 1e0 m_qbn k_qbn b_qbn (@Zaa _ _ _ _ _ (Zab 0) (@Zaa _ _ _ _ _ (Zc7 1e0 T.c_MOST_CLAUSES) Zac 1e0) 1e0))))
end
section
variable {P:Yl}{w:World}{K:W.Frag}{mg:1e5}{base:Heap}
abbrev s_qbl:Stmt:=top 10
theorem sc_qbl:FnScope 11e2 11e2 (defScope s_qbl):=1e1
theorem ok_qbl {f_me:Addr}{fd_me:Yj}{f_qbs f_qbt f_qbm:Addr}{fd_qbs fd_qbt fd_qbm:Yj}(Fn:Fun K "is_letter_name" "is_letter_name" s_qbl f_me fd_me)(T:Txt mg)(G_qbs:FnOk P w K mg base CX0 1 f_qbs fd_qbs ["thing","least","most"] (liftSp K F_qbs))(m_qbs:mg "is_row_of"=some (.ref f_qbs))(k_qbs:Yp K (.ref f_qbs)=true)(b_qbs:L2.Binds K fd_qbs ["thing","least","most"] [])(G_qbt:FnOk P w K mg base CX0 1 f_qbt fd_qbt 11e2 (liftSp K F_qbt))(m_qbt:mg "is_word"=some (.ref f_qbt))(k_qbt:Yp K (.ref f_qbt)=true)(b_qbt:L2.Binds K fd_qbt 11e2 [])(G_qbm:FnOk P w K mg base CX0 1 f_qbm fd_qbm ["thing","least"] (liftSp K F_qbm))(m_qbm:mg "is_number"=some (.ref f_qbm))(k_qbm:Yp K (.ref f_qbm)=true)(b_qbm:L2.Binds K fd_qbm ["thing","least"] []):FnOk P w K mg base CX0 2 f_me fd_me 11e2 (liftSp K (F_qbl)):=
 Zap Fn sc_qbl fun cdv A outer s H E hr=>(@Zai _ _ _ (@Zak _ _ _ _ (Zay (Zaf G_qbs 1e3 1e0 m_qbs k_qbs b_qbs (@Zaa _ _ _ _ _ (Zab 0) (@Zaa _ _ _ _ _ Zad 5e9 1e0) 1e0)) (Zay (Zaf G_qbt 1e3 1e0 m_qbt k_qbt b_qbt 7e8) (Zay (Zaf G_qbt 1e3 1e0 m_qbt k_qbt b_qbt 7e8) (ZaU (Zaf G_qbm 1e3 1e0 m_qbm k_qbm b_qbm (@Zaa _ _ _ _ _ 2e4 5e9 1e0))))))))
end
section
variable {P:Yl}{w:World}{K:W.Frag}{mg:1e5}{base:Heap}
abbrev s_qbp:Stmt:=top 12
theorem sc_qbp:FnScope ["parts"] ["parts"] (defScope s_qbp):=1e1
theorem ok_qbp {f_me:Addr}{fd_me:Yj}{f_qbl f_qbj f_qbm:Addr}{fd_qbl fd_qbj fd_qbm:Yj}(Fn:Fun K "is_of_due" "is_of_due" s_qbp f_me fd_me)(T:Txt mg)(G_qbl:FnOk P w K mg base CX0 2 f_qbl fd_qbl 11e2 (liftSp K F_qbl))(m_qbl:mg "is_letter_name"=some (.ref f_qbl))(k_qbl:Yp K (.ref f_qbl)=true)(b_qbl:L2.Binds K fd_qbl 11e2 [])(G_qbj:FnOk P w K mg base CX0 3 f_qbj fd_qbj 11e2 (liftSp K F_qbj))(m_qbj:mg "is_clause_number"=some (.ref f_qbj))(k_qbj:Yp K (.ref f_qbj)=true)(b_qbj:L2.Binds K fd_qbj 11e2 [])(G_qbm:FnOk P w K mg base CX0 1 f_qbm fd_qbm ["thing","least"] (liftSp K F_qbm))(m_qbm:mg "is_number"=some (.ref f_qbm))(k_qbm:Yp K (.ref f_qbm)=true)(b_qbm:L2.Binds K fd_qbm ["thing","least"] []):FnOk P w K mg base CX0 4 f_me fd_me ["parts"] (liftSp K (F_qbp)):=
 Zap Fn sc_qbp fun cdv A outer s H E hr=>(@Zai _ _ _ (@Zak _ _ _ _ (Zay (Zax Zbg Zbh.r 7e4 Zad 6e5) (Zay (Zaf G_qbl 1e3 1e0 m_qbl k_qbl b_qbl 7e8) (Zay (Zaf G_qbj 1e3 1e0 m_qbj k_qbj b_qbj 7e8) (ZaU (Zaf G_qbm 1e3 1e0 m_qbm k_qbm b_qbm (@Zaa _ _ _ _ _ 2e4 5e9 1e0))))))))
end
section
variable {P:Yl}{w:World}{K:W.Frag}{mg:1e5}{base:Heap}
abbrev s_qbo:Stmt:=top 13
theorem sc_qbo:FnScope ["parts"] ["parts"] (defScope s_qbo):=1e1
theorem ok_qbo {f_me:Addr}{fd_me:Yj}{f_qbl f_qbj:Addr}{fd_qbl fd_qbj:Yj}(Fn:Fun K "is_of_clause" "is_of_clause" s_qbo f_me fd_me)(T:Txt mg)(G_qbl:FnOk P w K mg base CX0 2 f_qbl fd_qbl 11e2 (liftSp K F_qbl))(m_qbl:mg "is_letter_name"=some (.ref f_qbl))(k_qbl:Yp K (.ref f_qbl)=true)(b_qbl:L2.Binds K fd_qbl 11e2 [])(G_qbj:FnOk P w K mg base CX0 3 f_qbj fd_qbj 11e2 (liftSp K F_qbj))(m_qbj:mg "is_clause_number"=some (.ref f_qbj))(k_qbj:Yp K (.ref f_qbj)=true)(b_qbj:L2.Binds K fd_qbj 11e2 []):FnOk P w K mg base CX0 4 f_me fd_me ["parts"] (liftSp K (F_qbo)):=
 Zap Fn sc_qbo fun cdv A outer s H E hr=>(@Zai _ _ _ (@Zak _ _ _ _ (Zay (Zax Zbg Zbh.r 7e4 Zad 6e5) (Zay (Zaf G_qbl 1e3 1e0 m_qbl k_qbl b_qbl 7e8) (ZaU (Zaf G_qbj 1e3 1e0 m_qbj k_qbj b_qbj 7e8))))))
end
section
variable {P:Yl}{w:World}{K:W.Frag}{mg:1e5}{base:Heap}
abbrev s_qbq:Stmt:=top 14
theorem sc_qbq:FnScope ["parts"] ["parts"] (defScope s_qbq):=1e1
theorem ok_qbq {f_me:Addr}{fd_me:Yj}{f_qbl:Addr}{fd_qbl:Yj}(Fn:Fun K "is_of_name" "is_of_name" s_qbq f_me fd_me)(T:Txt mg)(G_qbl:FnOk P w K mg base CX0 2 f_qbl fd_qbl 11e2 (liftSp K F_qbl))(m_qbl:mg "is_letter_name"=some (.ref f_qbl))(k_qbl:Yp K (.ref f_qbl)=true)(b_qbl:L2.Binds K fd_qbl 11e2 []):FnOk P w K mg base CX0 3 f_me fd_me ["parts"] (liftSp K (F_qbq)):=
 Zap Fn sc_qbq fun cdv A outer s H E hr=>(@Zai _ _ _ (@Zak _ _ _ _ (Zay (Zax Zbg Zbh.r 7e4 Zad 6e5) (ZaU (Zaf G_qbl 1e3 1e0 m_qbl k_qbl b_qbl 7e8)))))
end
section
variable {P:Yl}{w:World}{K:W.Frag}{mg:1e5}{base:Heap}
abbrev s_qbr:Stmt:=top 15
theorem sc_qbr:FnScope ["parts"] ["parts"] (defScope s_qbr):=1e1
theorem ok_qbr {f_me:Addr}{fd_me:Yj}{f_qbl:Addr}{fd_qbl:Yj}(Fn:Fun K "is_of_two_names" "is_of_two_names" s_qbr f_me fd_me)(T:Txt mg)(G_qbl:FnOk P w K mg base CX0 2 f_qbl fd_qbl 11e2 (liftSp K F_qbl))(m_qbl:mg "is_letter_name"=some (.ref f_qbl))(k_qbl:Yp K (.ref f_qbl)=true)(b_qbl:L2.Binds K fd_qbl 11e2 []):FnOk P w K mg base CX0 3 f_me fd_me ["parts"] (liftSp K (F_qbr)):=
 Zap Fn sc_qbr fun cdv A outer s H E hr=>(@Zai _ _ _ (@Zak _ _ _ _ (Zay (Zax Zbg Zbh.r 7e4 Zad 6e5) (Zay (Zaf G_qbl 1e3 1e0 m_qbl k_qbl b_qbl 7e8) (ZaU (Zaf G_qbl 1e3 1e0 m_qbl k_qbl b_qbl 7e8))))))
end
section
variable {P:Yl}{w:World}{K:W.Frag}{mg:1e5}{base:Heap}
abbrev s_qbi:Stmt:=top 18
theorem sc_qbi:FnScope ["thing","fits"] 11e2 (defScope s_qbi):=1e1
theorem ok_qbi {f_me:Addr}{fd_me:Yj}{f_qbp f_qbo f_qbq f_qbr d_READ_FORMS d_MARK_FORMS:Addr}{fd_qbp fd_qbo fd_qbq fd_qbr:Yj}(Fn:Fun K "is_claim" "is_claim" s_qbi f_me fd_me)(T:Txt mg)(Tm_READ_FORMS:mg "READ_FORMS"=some (.ref d_READ_FORMS))(TD_READ_FORMS:TopD K w d_READ_FORMS (ZaG f_qbp f_qbo f_qbq))(Tm_MARK_FORMS:mg "MARK_FORMS"=some (.ref d_MARK_FORMS))(TD_MARK_FORMS:TopD K w d_MARK_FORMS (ZaH f_qbq f_qbr))(G_qbp:FnOk P w K mg base CX0 4 f_qbp fd_qbp ["parts"] (liftSp K F_qbp))(m_qbp:mg "is_of_due"=some (.ref f_qbp))(k_qbp:Yp K (.ref f_qbp)=true)(b_qbp:L2.Binds K fd_qbp ["parts"] [])(G_qbo:FnOk P w K mg base CX0 4 f_qbo fd_qbo ["parts"] (liftSp K F_qbo))(m_qbo:mg "is_of_clause"=some (.ref f_qbo))(k_qbo:Yp K (.ref f_qbo)=true)(b_qbo:L2.Binds K fd_qbo ["parts"] [])(G_qbq:FnOk P w K mg base CX0 3 f_qbq fd_qbq ["parts"] (liftSp K F_qbq))(m_qbq:mg "is_of_name"=some (.ref f_qbq))(k_qbq:Yp K (.ref f_qbq)=true)(b_qbq:L2.Binds K fd_qbq ["parts"] [])(G_qbr:FnOk P w K mg base CX0 3 f_qbr fd_qbr ["parts"] (liftSp K F_qbr))(m_qbr:mg "is_of_two_names"=some (.ref f_qbr))(k_qbr:Yp K (.ref f_qbr)=true)(b_qbr:L2.Binds K fd_qbr ["parts"] []):FnOk P w K mg base CX0 5 f_me fd_me 11e2 (liftSp K (F_qbi d_READ_FORMS f_qbp f_qbo f_qbq d_MARK_FORMS f_qbr)):=
 Zap Fn sc_qbi fun cdv A outer s H E hr=>(@Zah _ _ _ _ _ (@Zas _ _ _ _ _ _ _ _ (Zbp (Zbf (ZaW (ZaI (ZaJ 1e0 T.b_isinstance 1e0 (@Zaa _ _ _ _ _ (Zab 0) 12e7 1e0)))) (Zbf (ZaW (ZaI (Zab 0))) (Zbn (ZaW (ZaI (ZaJ 1e0 T.b_isinstance 1e0 (@Zaa _ _ _ _ _ 2e4 13e5 1e0)))))))) (@Zai _ _ _ (@Zak _ _ _ _ Zbt)) Zaw) (@Zah _ _ _ _ _ (@Zas _ _ _ _ _ _ _ _ (Zan (op_topin TD_READ_FORMS) topI_ok 2e4 (Zbz 1e0 Tm_READ_FORMS) rfl) (@Zah _ _ _ _ _ (Zam (i:=1) sc_qbi.nd rfl 3e6 (Zc5 TD_READ_FORMS (Zbz 1e0 Tm_READ_FORMS) 2e4)) (@Zai _ _ _ (@Zak _ _ _ _ (Zb5 (k:=4) 1 (hv_of (fun q hq=>by
  simp only[Za9,Yg,Yr,or_false] at hq
  rcases hq with rfl | rfl | rfl | rfl
  ·exact ⟨_,_,G_qbp.mono 2e6,k_qbp,b_qbp⟩
  ·exact ⟨_,_,G_qbo.mono 2e6,k_qbo,b_qbo⟩
  ·exact ⟨_,_,G_qbq.mono 2e6,k_qbq,b_qbq⟩
  ·exact ⟨_,_,G_qbr.mono (by decide),k_qbr,b_qbr⟩)) (hr.mono (by decide)) (@Zaa _ _ _ _ _ (ZaN (Zab 0) (ZaR Zad) ZaS) Zac (by rfl)))))) Zaw) (@Zah _ _ _ _ _ (@Zas _ _ _ _ _ _ _ _ (Zan (op_topin TD_MARK_FORMS) topI_ok (Zaj (Zaq hr) (Zab 0) Zad) (Zbz (by rfl) Tm_MARK_FORMS) rfl) (@Zah _ _ _ _ _ (Zam (i:=1) sc_qbi.nd rfl (Or.inl rfl) (Zc5 TD_MARK_FORMS (Zbz (by rfl) Tm_MARK_FORMS) (Zaj (Zaq hr) (Zab 0) Zad))) (@Zai _ _ _ (@Zak _ _ _ _ (Zb5 (k:=4) 1 (hv_of (fun q hq=>by
  simp only[Za9,Yg,Yr,or_false] at hq
  rcases hq with rfl | rfl | rfl | rfl
  ·exact ⟨_,_,G_qbp.mono 2e6,k_qbp,b_qbp⟩
  ·exact ⟨_,_,G_qbo.mono 2e6,k_qbo,b_qbo⟩
  ·exact ⟨_,_,G_qbq.mono 2e6,k_qbq,b_qbq⟩
  ·exact ⟨_,_,G_qbr.mono (by decide),k_qbr,b_qbr⟩)) (hr.mono (by decide)) (@Zaa _ _ _ _ _ (ZaN (Zab 0) (ZaR Zad) ZaS) Zac (by rfl)))))) Zaw) (@Zai _ _ _ (@Zak _ _ _ _ Zbt)))))
end
section
variable {P:Yl}{w:World}{K:W.Frag}{mg:1e5}{base:Heap}
abbrev s_qbz:Stmt:=top 27
theorem sc_qbz:FnScope ["line"] ["line"] (defScope s_qbz):=1e1
theorem ok_qbz {f_me:Addr}{fd_me:Yj}(Fn:Fun K "words_in" "words_in" s_qbz f_me fd_me)(T:Txt mg):FnOk P w K mg base CX0 1 f_me fd_me ["line"] (liftSp K (F_qbz)):=
 Zap Fn sc_qbz fun cdv A outer s H E hr=>(@Zai _ _ _ (Zct (ZaZ (vs:=8e7) (fs:=[]) (fr:=[]) 4e7 rfl (ZaX (Zbj (Zab 0) 14e4)) (fun _ _ _ _ _=>(Zar (i:=0) (show ((8e7:List Str)++([]:List Str)).Nodup by decide +kernel) rfl 3e6)) (fun _ _ _ _ _=>(q_ts_one (ZaI (Zab 0)))) (fun _ _ _ _ _=>(Zab 0)))))
end
section
variable {P:Yl}{w:World}{K:W.Frag}{mg:1e5}{base:Heap}
abbrev s_qbk:Stmt:=top 28
theorem sc_qbk:FnScope 8e7 8e7 (defScope s_qbk):=1e1
theorem ok_qbk {f_me:Addr}{fd_me:Yj}(Fn:Fun K "is_figures" "is_figures" s_qbk f_me fd_me)(T:Txt mg):FnOk P w K mg base CX0 1 f_me fd_me 8e7 (liftSp K (F_qbk)):=
 Zap Fn sc_qbk fun cdv A outer s H E hr=>(@Zai _ _ _ (@Zak _ _ _ _ (q_em_or (Zax Zbg Zbh.r (Zab 0) Zae 6e5) (ZaU (Zay (Zax op_ne ne_ok.r (Zab 0) Zae 6e5) (Zay (Zax op_ne ne_ok.r 2e4 Zae 6e5) (ZaU (ZbY rfl 1e0 T.b_all 1e0 (@Zaa _ _ _ _ _ (ZaB (ZaZ (vs:=["sign"]) (fs:=[]) (fr:=[]) 4e7 rfl (ZaX (Zab 0)) (fun _ _ _ _ _=>(Zar (i:=0) (show ((["sign"]:List Str)++([]:List Str)).Nodup by decide +kernel) rfl 3e6)) 13e4 (fun _ _ _ _ _=>(Zax Za8 in_ok.r (Zab 0) (Zc6 1e0 T.c_FIGURES) rfl)))) Zac 1e0)))))))))
end
section
variable {P:Yl}{w:World}{K:W.Frag}{mg:1e5}{base:Heap}
abbrev s_qbv:Stmt:=top 30
theorem sc_qbv:FnScope ["holds"] ["holds"] (defScope s_qbv):=1e1
theorem okR_need {cX:Addr}{f_me:Addr}{fd_me:Yj}(Fn:Fun K "need" "need" s_qbv f_me fd_me)(T:Txt mg)(XT:Ex.ExcT P w K mg base "NoLetter" "NoTown" "NoPile" "NoRow" cX):FnOk P w K mg base (Ex.CXr P w) 3 f_me fd_me ["holds"] (Ex.liftR K cX (R_need)):=
 Ex.rq_def Fn sc_qbv fun cdv A outer s H E hr=>(Ex.rq_here (Ex.rq_if (ZaW (ZaI (Zab 0))) (Ex.rq_here (Ex.rq_raise XT.cx 1e3 hr.hd 1e0))))
theorem ok_qbv {f_me:Addr}{fd_me:Yj}(Fn:Fun K "need" "need" s_qbv f_me fd_me)(T:Txt mg):FnOk P w K mg base CX0 3 f_me fd_me ["holds"] (liftSp K (F_qbv)):=
 Zap Fn sc_qbv fun cdv A outer s H E hr=>(@Zai _ _ _ (@Zas _ _ _ _ _ _ _ _ (ZaW (ZaI (Zab 0))) (@Zai _ _ _ q_sm_raise) Zaw))
end
section
variable {P:Yl}{w:World}{K:W.Frag}{mg:1e5}{base:Heap}
abbrev s_qca:Stmt:=top 31
theorem sc_qca:FnScope ["text"] ["text"] (defScope s_qca):=1e1
theorem okR_words_of {cX:Addr}{f_me:Addr}{fd_me:Yj}{f_qbv f_qbz:Addr}{fd_qbv fd_qbz:Yj}(Fn:Fun K "words_of" "words_of" s_qca f_me fd_me)(T:Txt mg)(G_qbv:6e4)(m_qbv:13e8)(k_qbv:Yp K (.ref f_qbv)=true)(b_qbv:13e2)(G_qbz:FnOk P w K mg base CX0 1 f_qbz fd_qbz ["line"] (liftSp K F_qbz))(m_qbz:mg "words_in"=some (.ref f_qbz))(k_qbz:Yp K (.ref f_qbz)=true)(b_qbz:L2.Binds K fd_qbz ["line"] [])(GR_need:FnOk P w K mg base (Ex.CXr P w) 3 f_qbv fd_qbv ["holds"] (Ex.liftR K cX R_need)):FnOk P w K mg base (Ex.CXr P w) 4 f_me fd_me ["text"] (Ex.liftR K cX (R_words_of)):=
 Ex.rq_def Fn sc_qca fun cdv A outer s H E hr=>(Ex.rq_here (Ex.rq_expr (Ex.rq_callG GR_need Ex.passes_r 1e3 1e0 m_qbv k_qbv b_qbv (@Zaa _ _ _ _ _ (ZaJ 1e0 T.b_isinstance 1e0 (@Zaa _ _ _ _ _ (Zab 0) 13e5 1e0)) Zac 1e0))))
theorem ok_qca {f_me:Addr}{fd_me:Yj}{f_qbv f_qbz:Addr}{fd_qbv fd_qbz:Yj}(Fn:Fun K "words_of" "words_of" s_qca f_me fd_me)(T:Txt mg)(G_qbv:6e4)(m_qbv:13e8)(k_qbv:Yp K (.ref f_qbv)=true)(b_qbv:13e2)(G_qbz:FnOk P w K mg base CX0 1 f_qbz fd_qbz ["line"] (liftSp K F_qbz))(m_qbz:mg "words_in"=some (.ref f_qbz))(k_qbz:Yp K (.ref f_qbz)=true)(b_qbz:L2.Binds K fd_qbz ["line"] []):FnOk P w K mg base CX0 4 f_me fd_me ["text"] (liftSp K (F_qca)):=
 Zap Fn sc_qca fun cdv A outer s H E hr=>(@Zah _ _ _ _ _ (ZaD (Zaf G_qbv 1e3 1e0 m_qbv k_qbv b_qbv (@Zaa _ _ _ _ _ (ZaJ 1e0 T.b_isinstance 1e0 (@Zaa _ _ _ _ _ (Zab 0) 13e5 1e0)) Zac 1e0))) (@Zai _ _ _ (@Zak _ _ _ _ (Zaf G_qbz 1e3 1e0 m_qbz k_qbz b_qbz 1e9))))
end
section
variable {P:Yl}{w:World}{K:W.Frag}{mg:1e5}{base:Heap}
abbrev s_qby:Stmt:=top 32
theorem sc_qby:FnScope 8e7 8e7 (defScope s_qby):=1e1
theorem ZcC {cX:Addr}{f_me:Addr}{fd_me:Yj}{f_qbk f_qbv:Addr}{fd_qbk fd_qbv:Yj}(Fn:Fun K "read_number" "read_number" s_qby f_me fd_me)(T:Txt mg)(G_qbk:FnOk P w K mg base CX0 1 f_qbk fd_qbk 8e7 (liftSp K F_qbk))(m_qbk:mg "is_figures"=some (.ref f_qbk))(k_qbk:Yp K (.ref f_qbk)=true)(b_qbk:L2.Binds K fd_qbk 8e7 [])(G_qbv:6e4)(m_qbv:13e8)(k_qbv:Yp K (.ref f_qbv)=true)(b_qbv:13e2)(GR_need:FnOk P w K mg base (Ex.CXr P w) 3 f_qbv fd_qbv ["holds"] (Ex.liftR K cX R_need)):FnOk P w K mg base (Ex.CXr P w) 4 f_me fd_me 8e7 (Ex.liftR K cX (R_read_number)):=
 Ex.rq_def Fn sc_qby fun cdv A outer s H E hr=>(Ex.rq_here (Ex.rq_expr (Ex.rq_callG GR_need Ex.passes_r 1e3 1e0 m_qbv k_qbv b_qbv (@Zaa _ _ _ _ _ (Zaf G_qbk 1e3 1e0 m_qbk k_qbk b_qbk 1e9) Zac 1e0))))
theorem ok_qby {f_me:Addr}{fd_me:Yj}{f_qbk f_qbv:Addr}{fd_qbk fd_qbv:Yj}(Fn:Fun K "read_number" "read_number" s_qby f_me fd_me)(T:Txt mg)(G_qbk:FnOk P w K mg base CX0 1 f_qbk fd_qbk 8e7 (liftSp K F_qbk))(m_qbk:mg "is_figures"=some (.ref f_qbk))(k_qbk:Yp K (.ref f_qbk)=true)(b_qbk:L2.Binds K fd_qbk 8e7 [])(G_qbv:6e4)(m_qbv:13e8)(k_qbv:Yp K (.ref f_qbv)=true)(b_qbv:13e2):FnOk P w K mg base CX0 4 f_me fd_me 8e7 (liftSp K (F_qby)):=
 Zap Fn sc_qby fun cdv A outer s H E hr=>(@Zah _ _ _ _ _ (ZaD (Zaf G_qbv 1e3 1e0 m_qbv k_qbv b_qbv (@Zaa _ _ _ _ _ (Zaf G_qbk 1e3 1e0 m_qbk k_qbk b_qbk 1e9) Zac 1e0))) (@Zai _ _ _ (@Zak _ _ _ _ (Zcy 1e0 T.b_int 1e0 1e9))))
end
section
variable {P:Yl}{w:World}{K:W.Frag}{mg:1e5}{base:Heap}
abbrev s_qbx:Stmt:=top 33
theorem sc_qbx:FnScope ["word","parts"] 8e7 (defScope s_qbx):=1e1
theorem okR_read_name {cX:Addr}{f_me:Addr}{fd_me:Yj}{f_qbv f_qby:Addr}{fd_qbv fd_qby:Yj}(Fn:Fun K "read_name" "read_name" s_qbx f_me fd_me)(T:Txt mg)(G_qbv:6e4)(m_qbv:13e8)(k_qbv:Yp K (.ref f_qbv)=true)(b_qbv:13e2)(G_qby:FnOk P w K mg base CX0 4 f_qby fd_qby 8e7 (liftSp K F_qby))(m_qby:mg "read_number"=some (.ref f_qby))(k_qby:Yp K (.ref f_qby)=true)(b_qby:L2.Binds K fd_qby 8e7 [])(GR_need:FnOk P w K mg base (Ex.CXr P w) 3 f_qbv fd_qbv ["holds"] (Ex.liftR K cX R_need))(GR_read_number:FnOk P w K mg base (Ex.CXr P w) 4 f_qby fd_qby 8e7 (Ex.liftR K cX R_read_number)):FnOk P w K mg base (Ex.CXr P w) 5 f_me fd_me 8e7 (Ex.liftR K cX (R_read_name)):=
 Ex.rq_def Fn sc_qbx fun cdv A outer s H E hr=>(Ex.rq_then (Zam (i:=1) sc_qbx.nd rfl 3e6 (Zbj (Zab 0) 14e4)) (Ex.rq_or (Ex.rq_here (Ex.rq_expr (Ex.rq_callG GR_need Ex.passes_r 1e3 1e0 m_qbv k_qbv b_qbv (@Zaa _ _ _ _ _ (Zax Zbg Zbh.r (Zat 1e0 T.b_len 5e3) Zad 6e5) Zac 1e0)))) (Ex.rq_then (ZaD (Zaf G_qbv 1e3 1e0 m_qbv k_qbv b_qbv (@Zaa _ _ _ _ _ (Zax Zbg Zbh.r (Zat 1e0 T.b_len 5e3) Zad 6e5) Zac 1e0))) (Ex.rq_here (Ex.rq_ret (Ex.rq_tup (Ex.rq_athen (Zaj (Zaq hr) (Zab 1) Zad) (Ex.rq_athen (Zaj (Zaq hr) (Zab 1) Zad) (Ex.rq_ahere (Ex.rq_callG GR_read_number Ex.passes_r 1e3 1e0 m_qby k_qby b_qby (@Zaa _ _ _ _ _ (Zaj (Zaq hr) (Zab 1) Zad) Zac 1e0)))))))))))
theorem ok_qbx {f_me:Addr}{fd_me:Yj}{f_qbv f_qby:Addr}{fd_qbv fd_qby:Yj}(Fn:Fun K "read_name" "read_name" s_qbx f_me fd_me)(T:Txt mg)(G_qbv:6e4)(m_qbv:13e8)(k_qbv:Yp K (.ref f_qbv)=true)(b_qbv:13e2)(G_qby:FnOk P w K mg base CX0 4 f_qby fd_qby 8e7 (liftSp K F_qby))(m_qby:mg "read_number"=some (.ref f_qby))(k_qby:Yp K (.ref f_qby)=true)(b_qby:L2.Binds K fd_qby 8e7 []):FnOk P w K mg base CX0 5 f_me fd_me 8e7 (liftSp K (F_qbx)):=
 Zap Fn sc_qbx fun cdv A outer s H E hr=>(@Zah _ _ _ _ _ (Zam (i:=1) sc_qbx.nd rfl 3e6 (Zbj (Zab 0) 14e4)) (@Zah _ _ _ _ _ (ZaD (Zaf G_qbv 1e3 1e0 m_qbv k_qbv b_qbv (@Zaa _ _ _ _ _ (Zax Zbg Zbh.r (Zat 1e0 T.b_len 5e3) Zad 6e5) Zac 1e0))) (@Zai _ _ _ (@Zak _ _ _ _ (ZaP (@Zaa _ _ _ _ _ (Zaj (Zaq hr) (Zab 1) Zad) (@Zaa _ _ _ _ _ (Zaj (Zaq hr) (Zab 1) Zad) (@Zaa _ _ _ _ _ (Zaf G_qby 1e3 1e0 m_qby k_qby b_qby (@Zaa _ _ _ _ _ (Zaj (Zaq hr) (Zab 1) Zad) Zac 1e0)) Zac 1e0) 1e0) 1e0))))))
end
section
variable {P:Yl}{w:World}{K:W.Frag}{mg:1e5}{base:Heap}
abbrev s_qbw:Stmt:=top 34
theorem ZbE:FnScope ["text","words","parts","claim"] ["text"] (defScope s_qbw):=1e1
theorem ZcZ {cX:Addr}{f_me:Addr}{fd_me:Yj}{f_qca f_qbx f_qby f_qbi f_qbv d_READ_FORMS f_qbp f_qbo f_qbq d_MARK_FORMS f_qbr:Addr}{fd_qca fd_qbx fd_qby fd_qbi fd_qbv:Yj}(Fn:Fun K "read_claim" "read_claim" s_qbw f_me fd_me)(T:Txt mg)(G_qca:FnOk P w K mg base CX0 4 f_qca fd_qca ["text"] (liftSp K F_qca))(m_qca:mg "words_of"=some (.ref f_qca))(k_qca:Yp K (.ref f_qca)=true)(b_qca:L2.Binds K fd_qca ["text"] [])(G_qbx:FnOk P w K mg base CX0 5 f_qbx fd_qbx 8e7 (liftSp K F_qbx))(m_qbx:mg "read_name"=some (.ref f_qbx))(k_qbx:Yp K (.ref f_qbx)=true)(b_qbx:L2.Binds K fd_qbx 8e7 [])(G_qby:FnOk P w K mg base CX0 4 f_qby fd_qby 8e7 (liftSp K F_qby))(m_qby:mg "read_number"=some (.ref f_qby))(k_qby:Yp K (.ref f_qby)=true)(b_qby:L2.Binds K fd_qby 8e7 [])(G_qbi:FnOk P w K mg base CX0 5 f_qbi fd_qbi 11e2 (liftSp K (F_qbi d_READ_FORMS f_qbp f_qbo f_qbq d_MARK_FORMS f_qbr)))(m_qbi:mg "is_claim"=some (.ref f_qbi))(k_qbi:Yp K (.ref f_qbi)=true)(b_qbi:L2.Binds K fd_qbi 11e2 [])(G_qbv:6e4)(m_qbv:13e8)(k_qbv:Yp K (.ref f_qbv)=true)(b_qbv:13e2)(GR_words_of:FnOk P w K mg base (Ex.CXr P w) 4 f_qca fd_qca ["text"] (Ex.liftR K cX R_words_of))(GR_read_name:FnOk P w K mg base (Ex.CXr P w) 5 f_qbx fd_qbx 8e7 (Ex.liftR K cX R_read_name))(GR_read_number:FnOk P w K mg base (Ex.CXr P w) 4 f_qby fd_qby 8e7 (Ex.liftR K cX R_read_number))(GR_need:FnOk P w K mg base (Ex.CXr P w) 3 f_qbv fd_qbv ["holds"] (Ex.liftR K cX R_need)):FnOk P w K mg base (Ex.CXr P w) 6 f_me fd_me ["text"] (Ex.liftR K cX (R_read_claim d_READ_FORMS f_qbp f_qbo f_qbq d_MARK_FORMS f_qbr)):=
 Ex.rq_def Fn ZbE fun cdv A outer s H E hr=>(Ex.rq_or (Ex.rq_here (Ex.rq_set (i:=1) ZbE.nd rfl 3e6 (Ex.rq_callG GR_words_of Ex.passes_r 1e3 1e0 m_qca k_qca b_qca 1e9))) (Ex.rq_then (Zam (i:=1) ZbE.nd rfl 3e6 (Zaf G_qca 1e3 1e0 m_qca k_qca b_qca 1e9)) (Ex.rq_or (Ex.rq_here (Ex.rq_comp (i:=2) ZbE.nd rfl rfl (vs:=8e7) (fs:=[]) (fr:=[]) 4e7 rfl (ZaX (ZaN (Zab 1) (ZaR Zad) ZaS)) (fun _ _ _ _ _=>(Zar (i:=0) (show ((8e7:List Str)++([]:List Str)).Nodup by decide +kernel) rfl 3e6)) 13e4 (fun _ _ _ _ _=>(ZcA (Zan Za8 in_ok.r Zae (Zab 0) rfl) (Zaf G_qbx 1e3 1e0 m_qbx k_qbx b_qbx 1e9) (Zaf G_qby 1e3 1e0 m_qby k_qby b_qby 1e9))) (fun _ _ _ _ _=>(Ex.rq_orE (Ex.rq_ifE (Zan Za8 in_ok.r Zae (Zab 0) rfl) (Ex.rq_callG GR_read_name Ex.compX_passes 1e3 1e0 m_qbx k_qbx b_qbx 1e9)) (Ex.rq_elseE (Zan Za8 in_ok.r Zae (Zab 0) rfl) (Ex.rq_callG GR_read_number Ex.compX_passes 1e3 1e0 m_qby k_qby b_qby 1e9)))) rfl rfl rfl (fun {_ _ _ _} I=>Ex.xp_def I))) (Ex.rq_then (q_sm_comp (i:=2) ZbE.nd rfl rfl (vs:=8e7) (fs:=[]) (fr:=[]) 4e7 rfl (ZaX (ZaN (Zab 1) (ZaR Zad) ZaS)) (fun _ _ _ _ _=>(Zar (i:=0) (show ((8e7:List Str)++([]:List Str)).Nodup by decide +kernel) rfl 3e6)) 13e4 (fun _ _ _ _ _=>(ZcA (Zan Za8 in_ok.r Zae (Zab 0) rfl) (Zaf G_qbx 1e3 1e0 m_qbx k_qbx b_qbx 1e9) (Zaf G_qby 1e3 1e0 m_qby k_qby b_qby 1e9)))) (Ex.rq_then (Zam (i:=3) ZbE.nd rfl 3e6 (ZbW 1e0 T.b_tuple 1e0 (@Zaa _ _ _ _ _ (ZaE (ZaN (Zab 1) ZaS (ZaR Zad)) (Zab 2)) Zac 1e0))) (Ex.rq_here (Ex.rq_expr (Ex.rq_callG GR_need Ex.passes_r 1e3 1e0 m_qbv k_qbv b_qbv (@Zaa _ _ _ _ _ (Zaf G_qbi 1e3 1e0 m_qbi k_qbi b_qbi (@Zaa _ _ _ _ _ (Zab 3) Zac 1e0)) Zac 1e0)))))))))
theorem ok_qbw {f_me:Addr}{fd_me:Yj}{f_qca f_qbx f_qby f_qbi f_qbv d_READ_FORMS f_qbp f_qbo f_qbq d_MARK_FORMS f_qbr:Addr}{fd_qca fd_qbx fd_qby fd_qbi fd_qbv:Yj}(Fn:Fun K "read_claim" "read_claim" s_qbw f_me fd_me)(T:Txt mg)(G_qca:FnOk P w K mg base CX0 4 f_qca fd_qca ["text"] (liftSp K F_qca))(m_qca:mg "words_of"=some (.ref f_qca))(k_qca:Yp K (.ref f_qca)=true)(b_qca:L2.Binds K fd_qca ["text"] [])(G_qbx:FnOk P w K mg base CX0 5 f_qbx fd_qbx 8e7 (liftSp K F_qbx))(m_qbx:mg "read_name"=some (.ref f_qbx))(k_qbx:Yp K (.ref f_qbx)=true)(b_qbx:L2.Binds K fd_qbx 8e7 [])(G_qby:FnOk P w K mg base CX0 4 f_qby fd_qby 8e7 (liftSp K F_qby))(m_qby:mg "read_number"=some (.ref f_qby))(k_qby:Yp K (.ref f_qby)=true)(b_qby:L2.Binds K fd_qby 8e7 [])(G_qbi:FnOk P w K mg base CX0 5 f_qbi fd_qbi 11e2 (liftSp K (F_qbi d_READ_FORMS f_qbp f_qbo f_qbq d_MARK_FORMS f_qbr)))(m_qbi:mg "is_claim"=some (.ref f_qbi))(k_qbi:Yp K (.ref f_qbi)=true)(b_qbi:L2.Binds K fd_qbi 11e2 [])(G_qbv:6e4)(m_qbv:13e8)(k_qbv:Yp K (.ref f_qbv)=true)(b_qbv:13e2):FnOk P w K mg base CX0 6 f_me fd_me ["text"] (liftSp K (F_qbw d_READ_FORMS f_qbp f_qbo f_qbq d_MARK_FORMS f_qbr)):=
 Zap Fn ZbE fun cdv A outer s H E hr=>(@Zah _ _ _ _ _ (Zam (i:=1) ZbE.nd rfl 3e6 (Zaf G_qca 1e3 1e0 m_qca k_qca b_qca 1e9)) (@Zah _ _ _ _ _ (q_sm_comp (i:=2) ZbE.nd rfl rfl (vs:=8e7) (fs:=[]) (fr:=[]) 4e7 rfl (ZaX (ZaN (Zab 1) (ZaR Zad) ZaS)) (fun _ _ _ _ _=>(Zar (i:=0) (show ((8e7:List Str)++([]:List Str)).Nodup by decide +kernel) rfl 3e6)) 13e4 (fun _ _ _ _ _=>(ZcA (Zan Za8 in_ok.r Zae (Zab 0) rfl) (Zaf G_qbx 1e3 1e0 m_qbx k_qbx b_qbx 1e9) (Zaf G_qby 1e3 1e0 m_qby k_qby b_qby 1e9)))) (@Zah _ _ _ _ _ (Zam (i:=3) ZbE.nd rfl 3e6 (ZbW 1e0 T.b_tuple 1e0 (@Zaa _ _ _ _ _ (ZaE (ZaN (Zab 1) ZaS (ZaR Zad)) (Zab 2)) Zac 1e0))) (@Zah _ _ _ _ _ (ZaD (Zaf G_qbv 1e3 1e0 m_qbv k_qbv b_qbv (@Zaa _ _ _ _ _ (Zaf G_qbi 1e3 1e0 m_qbi k_qbi b_qbi (@Zaa _ _ _ _ _ (Zab 3) Zac 1e0)) Zac 1e0))) (@Zai _ _ _ (@Zak _ _ _ _ (Zab 3)))))))
end
section
variable {P:Yl}{w:World}{K:W.Frag}{mg:1e5}{base:Heap}
abbrev s_qac:Stmt:=top 36
theorem sc_qac:FnScope 8e0 8e0 (defScope s_qac):=1e1
theorem ok_qac {f_me:Addr}{fd_me:Yj}(Fn:Fun K "_law_cell_at" "_law_cell_at" s_qac f_me fd_me)(T:Txt mg):FnOk P w K mg base CX0 1 f_me fd_me 8e0 (liftSp K (F_qac)):=
 Zap Fn sc_qac fun cdv A outer s H E hr=>(@Zah _ _ _ _ _ (@Zas _ _ _ _ _ _ _ _ (Zan op_lt lt_ok.r (Zab 1) 7e4 6e5) (@Zai _ _ _ (@Zak _ _ _ _ (Zaj (Zaq hr) (Zab 0) (Zab 1)))) Zaw) (@Zai _ _ _ (@Zak _ _ _ _ Zad)))
end
section
variable {P:Yl}{w:World}{K:W.Frag}{mg:1e5}{base:Heap}
abbrev s_qak:Stmt:=top 37
theorem Zb9:FnScope ["_law_script","_law_k","_law_cell","_law_seed"] 8e0 (defScope s_qak):=1e1
theorem ok_qak {f_me:Addr}{fd_me:Yj}{f_qac:Addr}{fd_qac:Yj}(Fn:Fun K "_law_left" "_law_left" s_qak f_me fd_me)(T:Txt mg)(G_qac:FnOk P w K mg base CX0 1 f_qac fd_qac 8e0 (liftSp K F_qac))(m_qac:mg "_law_cell_at"=some (.ref f_qac))(k_qac:Yp K (.ref f_qac)=true)(b_qac:L2.Binds K fd_qac 8e0 []):FnOk P w K mg base CX0 2 f_me fd_me 8e0 (liftSp K (F_qak)):=
 Zap Fn Zb9 fun cdv A outer s H E hr=>(@Zah _ _ _ _ _ (Zam (i:=2) Zb9.nd rfl 3e6 (Zaf G_qac 1e3 1e0 m_qac k_qac b_qac (@Zaa _ _ _ _ _ (Zab 0) (@Zaa _ _ _ _ _ (ZaL (Zab 1) (q_em_max rfl 1e0 T.b_max 1e0 (@Zaa _ _ _ _ _ Zad (@Zaa _ _ _ _ _ 7e4 Zac 1e0) 1e0))) Zac 1e0) 1e0))) (@Zah _ _ _ _ _ (Zam (i:=3) Zb9.nd rfl 3e6 (ZaL (Za6 (ZaE (ZaE (ZaL (Zab 2) Zad) (Za6 (Za6 Zad (Zab 1)) (Zab 1))) Zad) Zad) Zad)) (@Zah _ _ _ _ _ (@Zas _ _ _ _ _ _ _ _ (Zan Zbg Zbh.r (ZaL (Zaf G_qac 1e3 1e0 m_qac k_qac b_qac (@Zaa _ _ _ _ _ (Zab 0) 5e9 1e0)) Zad) Zad 6e5) (@Zai _ _ _ (Zam (i:=2) Zb9.nd rfl 3e6 Zad)) Zaw) (@Zai _ _ _ (Zct (Zav (@Zaa _ _ _ _ _ (ZaL (Zab 2) (Zbo Zad Zad)) (@Zaa _ _ _ _ _ (Zab 3) Zac 1e0) 1e0)))))))
theorem okF_qak {f_me:Addr}{fd_me:Yj}{f_qac:Addr}{fd_qac:Yj}(Fn:Fun K "_law_left" "_law_left" s_qak f_me fd_me)(T:Txt mg)(G_qac:FnOk P w K mg base CX0 1 f_qac fd_qac 8e0 (liftSp K F_qac))(m_qac:mg "_law_cell_at"=some (.ref f_qac))(k_qac:Yp K (.ref f_qac)=true)(b_qac:L2.Binds K fd_qac 8e0 []):FnOk P w K mg base CX0 2 f_me fd_me 8e0 (liftSpF K (FF_qak)):=
 q_fn_mkF Fn Zb9 fun cdv A outer s H E hr=>(@Zah _ _ _ _ _ (Zam (i:=2) Zb9.nd rfl 3e6 (Zaf G_qac 1e3 1e0 m_qac k_qac b_qac (@Zaa _ _ _ _ _ (Zab 0) (@Zaa _ _ _ _ _ (ZaL (Zab 1) (q_em_max rfl 1e0 T.b_max 1e0 (@Zaa _ _ _ _ _ Zad (@Zaa _ _ _ _ _ 7e4 Zac 1e0) 1e0))) Zac 1e0) 1e0))) (@Zah _ _ _ _ _ (Zam (i:=3) Zb9.nd rfl 3e6 (ZaL (Za6 (ZaE (ZaE (ZaL (Zab 2) Zad) (Za6 (Za6 Zad (Zab 1)) (Zab 1))) Zad) Zad) Zad)) (@Zah _ _ _ _ _ (@Zas _ _ _ _ _ _ _ _ (Zan Zbg Zbh.r (ZaL (Zaf G_qac 1e3 1e0 m_qac k_qac b_qac (@Zaa _ _ _ _ _ (Zab 0) 5e9 1e0)) Zad) Zad 6e5) (@Zai _ _ _ (Zam (i:=2) Zb9.nd rfl 3e6 Zad)) Zaw) (@Zai _ _ _ (Zct (Zav (@Zaa _ _ _ _ _ (ZaL (Zab 2) (Zbo Zad Zad)) (@Zaa _ _ _ _ _ (Zab 3) Zac 1e0) 1e0)))))))
end
section
variable {P:Yl}{w:World}{K:W.Frag}{mg:1e5}{base:Heap}
abbrev s_qau:Stmt:=top 38
theorem sc_qau:FnScope ["_law_left_here","_law_many","_law_digit"] 5e7 (defScope s_qau):=1e1
theorem ok_qau {f_me:Addr}{fd_me:Yj}(Fn:Fun K "_law_pick" "_law_pick" s_qau f_me fd_me)(T:Txt mg):FnOk P w K mg base CX0 1 f_me fd_me 5e7 (liftSp K (F_qau)):=
 Zap Fn sc_qau fun cdv A outer s H E hr=>(@Zah _ _ _ _ _ (@Zas _ _ _ _ _ _ _ _ (Zan op_gt gt_ok.r 2e4 Zad 6e5) (@Zah _ _ _ _ _ (Zam (i:=2) sc_qau.nd rfl 3e6 (ZaL 2e4 (Zab 1))) (@Zah _ _ _ _ _ (Zbi (q_em_fdivW 2e4 (Zab 1)) (Zab 0) Zad) (@Zai _ _ _ (@Zak _ _ _ _ (Zab 2))))) Zaw) (@Zah _ _ _ _ _ (Zbi (ZaL (ZaE (Za6 2e4 Zad) Zad) Zad) (Zab 0) Zad) (@Zai _ _ _ (@Zak _ _ _ _ (ZaL (ZaL (Za6 2e4 2e4) Zad) (Zab 1))))))
end
section
variable {P:Yl}{w:World}{K:W.Frag}{mg:1e5}{base:Heap}
abbrev s_qas:Stmt:=top 39
theorem sc_qas:FnScope ["_law_left_here","_law_most"] 6e9 (defScope s_qas):=1e1
theorem ok_qas {f_me:Addr}{fd_me:Yj}{f_qau:Addr}{fd_qau:Yj}(Fn:Fun K "_law_number" "_law_number" s_qas f_me fd_me)(T:Txt mg)(G_qau:10e6)(m_qau:mg "_law_pick"=some (.ref f_qau))(k_qau:Yp K (.ref f_qau)=true)(b_qau:L2.Binds K fd_qau 5e7 []):FnOk P w K mg base CX0 2 f_me fd_me 6e9 (liftSp K (F_qas)):=
 Zap Fn sc_qas fun cdv A outer s H E hr=>(@Zah _ _ _ _ _ (Zam (i:=1) sc_qas.nd rfl 3e6 (Zaj (Zaq hr) (ZaB (Zav (@Zaa _ _ _ _ _ Zad (@Zaa _ _ _ _ _ Zad (@Zaa _ _ _ _ _ (Zbo Zad Zad) (@Zaa _ _ _ _ _ (Zbo Zad Zad) Zac 1e0) 1e0) 1e0) 1e0))) 1e6)) (@Zai _ _ _ (@Zak _ _ _ _ (Zaj (Zaq hr) (ZaB (Zav (@Zaa _ _ _ _ _ (Zaf G_qau 1e3 1e0 m_qau k_qau b_qau (@Zaa _ _ _ _ _ (Zab 0) 5e3 1e0)) (@Zaa _ _ _ _ _ (ZbX (ZbX (Zab 1) Zad) 1e6) Zac 1e0) 1e0))) 1e6))))
end
section
variable {P:Yl}{w:World}{K:W.Frag}{mg:1e5}{base:Heap}
abbrev s_qbg:Stmt:=top 40
theorem sc_qbg:FnScope ["_law_left_here","_law_letters","_law_kept","_law_size","_law_stem"] 6e9 (defScope s_qbg):=1e1
theorem ok_qbg {f_me:Addr}{fd_me:Yj}{f_qau:Addr}{fd_qau:Yj}(Fn:Fun K "_law_word" "_law_word" s_qbg f_me fd_me)(T:Txt mg)(G_qau:10e6)(m_qau:mg "_law_pick"=some (.ref f_qau))(k_qau:Yp K (.ref f_qau)=true)(b_qau:L2.Binds K fd_qau 5e7 []):FnOk P w K mg base CX0 2 f_me fd_me 6e9 (liftSp K (F_qbg)):=
 Zap Fn sc_qbg fun cdv A outer s H E hr=>(@Zah _ _ _ _ _ (Zam (i:=1) sc_qbg.nd rfl (Or.inr rfl) Zae) (@Zah _ _ _ _ _ (Zam (i:=2) sc_qbg.nd rfl 3e6 (ZaB (Zav (@Zaa _ _ _ _ _ Zae (@Zaa _ _ _ _ _ Zae (@Zaa _ _ _ _ _ Zae (@Zaa _ _ _ _ _ Zae (@Zaa _ _ _ _ _ Zae (@Zaa _ _ _ _ _ Zae (@Zaa _ _ _ _ _ Zae (@Zaa _ _ _ _ _ Zae 6e7 1e0) 1e0) 1e0) 1e0) 1e0) 1e0) 1e0) 1e0)))) (@Zah _ _ _ _ _ (Zam (i:=3) sc_qbg.nd rfl 3e6 (Zaj (Zaq hr) (ZaB (Zav (@Zaa _ _ _ _ _ Zad (@Zaa _ _ _ _ _ Zad (@Zaa _ _ _ _ _ Zad (@Zaa _ _ _ _ _ Zad (@Zaa _ _ _ _ _ (ZaE Zad 1e6) Zac 1e0) 1e0) 1e0) 1e0) 1e0))) 1e6)) (@Zah _ _ _ _ _ (Zam (i:=4) sc_qbg.nd rfl 3e6 (q_em_join Zae (@Zaa _ _ _ _ _ (ZaB (ZaZ (vs:=["_law_k"]) (fs:=["_law_letters","_law_left_here"]) (fr:=[1,0]) 4e7 rfl (ZbH 1e0 T.b_range 5e9) (fun _ _ _ _ _=>(Zar (i:=0) (show ((["_law_k"]:List Str)++(["_law_letters","_law_left_here"]:List Str)).Nodup by decide +kernel) rfl 3e6)) 13e4 (fun _ _ _ _ _=>(Zaj (Zaq hr) (Zab 1) (Zaf G_qau 1e3 1e0 m_qau k_qau b_qau (@Zaa _ _ _ _ _ (Zab 2) 5e9 1e0)))))) Zac 1e0))) (@Zai _ _ _ (@Zak _ _ _ _ (Zaj (Zaq hr) (ZaB (Zav (@Zaa _ _ _ _ _ (q_em_sliceS (q_em_mulT (Zab 4) Zad) ZaS (ZaR (Zab 3))) (@Zaa _ _ _ _ _ (Zaj (Zaq hr) (Zab 2) 1e6) Zac 1e0) 1e0))) (Zcx 1e0 T.b_int 1e0 (@Zaa _ _ _ _ _ (Zax Zbg Zbh.r 1e6 Zad 6e5) Zac 1e0)))))))))
end
section
variable {P:Yl}{w:World}{K:W.Frag}{mg:1e5}{base:Heap}
abbrev s_qam:Stmt:=top 41
theorem sc_qam:FnScope ["_law_left_here","_law_house","_law_deal"] 6e9 (defScope s_qam):=1e1
theorem ok_qam {f_me:Addr}{fd_me:Yj}{f_qbg f_qas:Addr}{fd_qbg fd_qas:Yj}(Fn:Fun K "_law_name" "_law_name" s_qam f_me fd_me)(T:Txt mg)(G_qbg:FnOk P w K mg base CX0 2 f_qbg fd_qbg 6e9 (liftSp K F_qbg))(m_qbg:mg "_law_word"=some (.ref f_qbg))(k_qbg:Yp K (.ref f_qbg)=true)(b_qbg:L2.Binds K fd_qbg 6e9 [])(G_qas:FnOk P w K mg base CX0 2 f_qas fd_qas 6e9 (liftSp K F_qas))(m_qas:mg "_law_number"=some (.ref f_qas))(k_qas:Yp K (.ref f_qas)=true)(b_qas:L2.Binds K fd_qas 6e9 []):FnOk P w K mg base CX0 3 f_me fd_me 6e9 (liftSp K (F_qam)):=
 Zap Fn sc_qam fun cdv A outer s H E hr=>(@Zah _ _ _ _ _ (Zam (i:=1) sc_qam.nd rfl 3e6 (Zaf G_qbg 1e3 1e0 m_qbg k_qbg b_qbg 1e9)) (@Zah _ _ _ _ _ (Zam (i:=2) sc_qam.nd rfl 3e6 (Zaf G_qbg 1e3 1e0 m_qbg k_qbg b_qbg 1e9)) (@Zai _ _ _ (@Zak _ _ _ _ (ZaP (@Zaa _ _ _ _ _ (Zab 1) (@Zaa _ _ _ _ _ (Zab 2) (@Zaa _ _ _ _ _ (ZaE Zad (ZaL (Zaf G_qas 1e3 1e0 m_qas k_qas b_qas 1e9) (ZbX (Zbo Zad Zad) Zad))) Zac 1e0) 1e0) 1e0))))))
end
section
variable {P:Yl}{w:World}{K:W.Frag}{mg:1e5}{base:Heap}
abbrev s_qao:Stmt:=top 42
theorem sc_qao:FnScope ["_law_name_here"] ["_law_name_here"] (defScope s_qao):=1e1
theorem ok_qao {f_me:Addr}{fd_me:Yj}(Fn:Fun K "_law_name_text" "_law_name_text" s_qao f_me fd_me)(T:Txt mg):FnOk P w K mg base CX0 1 f_me fd_me ["_law_name_here"] (liftSp K (F_qao)):=
 Zap Fn sc_qao fun cdv A outer s H E hr=>(@Zai _ _ _ (@Zak _ _ _ _ (q_em_join Zae (@Zaa _ _ _ _ _ (ZaB (ZaZ (vs:=["_law_part"]) (fs:=[]) (fr:=[]) 4e7 rfl (ZaX (Zab 0)) (fun _ _ _ _ _=>(Zar (i:=0) (show ((["_law_part"]:List Str)++([]:List Str)).Nodup by decide +kernel) rfl 3e6)) 13e4 (fun _ _ _ _ _=>(Zcv 1e0 T.b_str 1e0 1e9)))) Zac 1e0))))
end
section
variable {P:Yl}{w:World}{K:W.Frag}{mg:1e5}{base:Heap}
abbrev s_qae:Stmt:=top 43
theorem sc_qae:FnScope ["_law_left_here","_law_name_here","_law_c","_law_some"] 6e9 (defScope s_qae):=1e1
theorem ok_qae {f_me:Addr}{fd_me:Yj}{f_qam f_qau f_qas:Addr}{fd_qam fd_qau fd_qas:Yj}(Fn:Fun K "_law_claim" "_law_claim" s_qae f_me fd_me)(T:Txt mg)(G_qam:FnOk P w K mg base CX0 3 f_qam fd_qam 6e9 (liftSp K F_qam))(m_qam:mg "_law_name"=some (.ref f_qam))(k_qam:Yp K (.ref f_qam)=true)(b_qam:L2.Binds K fd_qam 6e9 [])(G_qau:10e6)(m_qau:mg "_law_pick"=some (.ref f_qau))(k_qau:Yp K (.ref f_qau)=true)(b_qau:L2.Binds K fd_qau 5e7 [])(G_qas:FnOk P w K mg base CX0 2 f_qas fd_qas 6e9 (liftSp K F_qas))(m_qas:mg "_law_number"=some (.ref f_qas))(k_qas:Yp K (.ref f_qas)=true)(b_qas:L2.Binds K fd_qas 6e9 []):FnOk P w K mg base CX0 4 f_me fd_me 6e9 (liftSp K (F_qae)):=
 Zap Fn sc_qae fun cdv A outer s H E hr=>(@Zah _ _ _ _ _ (Zam (i:=1) sc_qae.nd rfl 3e6 (Zaf G_qam 1e3 1e0 m_qam k_qam b_qam 1e9)) (@Zah _ _ _ _ _ (Zam (i:=2) sc_qae.nd rfl 3e6 1e6) (@Zah _ _ _ _ _ (Zam (i:=3) sc_qae.nd rfl 3e6 (ZaB (Zav (@Zaa _ _ _ _ _ (ZaP (@Zaa _ _ _ _ _ Zae (@Zaa _ _ _ _ _ (Zab 1) (@Zaa _ _ _ _ _ (Zab 2) (@Zaa _ _ _ _ _ (Zaf G_qas 1e3 1e0 m_qas k_qas b_qas 1e9) Zac 1e0) 1e0) 1e0) 1e0)) (@Zaa _ _ _ _ _ (ZaP (@Zaa _ _ _ _ _ Zae (@Zaa _ _ _ _ _ (Zab 1) 11e8 1e0) 1e0)) (@Zaa _ _ _ _ _ (ZaP (@Zaa _ _ _ _ _ Zae (@Zaa _ _ _ _ _ (Zab 1) 11e8 1e0) 1e0)) (@Zaa _ _ _ _ _ (ZaP (@Zaa _ _ _ _ _ Zae 5e3 1e0)) Zac 1e0) 1e0) 1e0) 1e0)))) (@Zah _ _ _ _ _ (Zam (i:=3) sc_qae.nd rfl 3e6 (ZaE (Zab 3) (ZaB (Zav (@Zaa _ _ _ _ _ (ZaP (@Zaa _ _ _ _ _ Zae 5e3 1e0)) (@Zaa _ _ _ _ _ (ZaP (@Zaa _ _ _ _ _ Zae (@Zaa _ _ _ _ _ (Zab 1) (@Zaa _ _ _ _ _ (Zaf G_qam 1e3 1e0 m_qam k_qam b_qam 1e9) Zac 1e0) 1e0) 1e0)) (@Zaa _ _ _ _ _ (ZaP (@Zaa _ _ _ _ _ Zae 5e3 1e0)) (@Zaa _ _ _ _ _ (ZaP (@Zaa _ _ _ _ _ Zae 5e3 1e0)) (@Zaa _ _ _ _ _ (ZaP (@Zaa _ _ _ _ _ Zae 5e3 1e0)) Zac 1e0) 1e0) 1e0) 1e0) 1e0))))) (@Zai _ _ _ (@Zak _ _ _ _ (Zaj (Zaq hr) (Zab 3) 1e6)))))))
end
section
variable {P:Yl}{w:World}{K:W.Frag}{mg:1e5}{base:Heap}
abbrev s_qai:Stmt:=top 44
theorem Zc3:FnScope ["_law_claim_here","_law_words","_law_part"] ["_law_claim_here"] (defScope s_qai):=1e1
theorem ok_qai {f_me:Addr}{fd_me:Yj}{f_qao:Addr}{fd_qao:Yj}(Fn:Fun K "_law_claim_words" "_law_claim_words" s_qai f_me fd_me)(T:Txt mg)(G_qao:FnOk P w K mg base CX0 1 f_qao fd_qao ["_law_name_here"] (liftSp K F_qao))(m_qao:mg "_law_name_text"=some (.ref f_qao))(k_qao:Yp K (.ref f_qao)=true)(b_qao:L2.Binds K fd_qao ["_law_name_here"] []):FnOk P w K mg base CX0 2 f_me fd_me ["_law_claim_here"] (liftSp K (F_qai)):=
 Zap Fn Zc3 fun cdv A outer s H E hr=>(@Zah _ _ _ _ _ (Zby (i:=1) Zc3.nd rfl 3e6 (Zav 7e8)) (@Zah _ _ _ _ _ (ZbV WQ rfl (ZaX (ZaN (Zab 0) (ZaR Zad) ZaS)) (Zar (i:=2) Zc3.nd rfl 3e6) (@Zai _ _ _ (@Zas _ _ _ _ _ _ _ _ (ZaI (ZaJ 1e0 T.b_isinstance 1e0 (@Zaa _ _ _ _ _ (Zab 2) 12e7 1e0))) (@Zai _ _ _ (ZaD (ZaY (Zab 1) (@Zaa _ _ _ _ _ (Zaf G_qao 1e3 1e0 m_qao k_qao b_qao 11e8) Zac 1e0)))) (@Zai _ _ _ (ZaD (ZaY (Zab 1) (@Zaa _ _ _ _ _ (Zcv 1e0 T.b_str 1e0 11e8) Zac 1e0))))))) (@Zai _ _ _ (@Zak _ _ _ _ (Zab 1)))))
theorem okF_qai {f_me:Addr}{fd_me:Yj}{f_qao:Addr}{fd_qao:Yj}(Fn:Fun K "_law_claim_words" "_law_claim_words" s_qai f_me fd_me)(T:Txt mg)(G_qao:FnOk P w K mg base CX0 1 f_qao fd_qao ["_law_name_here"] (liftSp K F_qao))(m_qao:mg "_law_name_text"=some (.ref f_qao))(k_qao:Yp K (.ref f_qao)=true)(b_qao:L2.Binds K fd_qao ["_law_name_here"] []):FnOk P w K mg base CX0 2 f_me fd_me ["_law_claim_here"] (liftSpF K (FF_qai)):=
 q_fn_mkG Fn Zc3 fun cdv A outer s H E hr=>(@Zah _ _ _ _ _ (Zby (i:=1) Zc3.nd rfl 3e6 (Zav 7e8)) (@Zah _ _ _ _ _ (ZbV WQ rfl (ZaX (ZaN (Zab 0) (ZaR Zad) ZaS)) (Zar (i:=2) Zc3.nd rfl 3e6) (@Zai _ _ _ (@Zas _ _ _ _ _ _ _ _ (ZaI (ZaJ 1e0 T.b_isinstance 1e0 (@Zaa _ _ _ _ _ (Zab 2) 12e7 1e0))) (@Zai _ _ _ (ZaD (ZaY (Zab 1) (@Zaa _ _ _ _ _ (Zaf G_qao 1e3 1e0 m_qao k_qao b_qao 11e8) Zac 1e0)))) (@Zai _ _ _ (ZaD (ZaY (Zab 1) (@Zaa _ _ _ _ _ (Zcv 1e0 T.b_str 1e0 11e8) Zac 1e0))))))) (@Zai _ _ _ (@Zak _ _ _ _ (Zab 1)))))
end
section
variable {P:Yl}{w:World}{K:W.Frag}{mg:1e5}{base:Heap}
abbrev s_qba:Stmt:=top 45
theorem sc_qba:FnScope ["_law_left_here","_law_words","_law_text_here","_law_k","_law_word_here"] ["_law_left_here","_law_words"] (defScope s_qba):=1e1
theorem ok_qba {f_me:Addr}{fd_me:Yj}{f_qau:Addr}{fd_qau:Yj}(Fn:Fun K "_law_text" "_law_text" s_qba f_me fd_me)(T:Txt mg)(G_qau:10e6)(m_qau:mg "_law_pick"=some (.ref f_qau))(k_qau:Yp K (.ref f_qau)=true)(b_qau:L2.Binds K fd_qau 5e7 []):FnOk P w K mg base CX0 2 f_me fd_me ["_law_left_here","_law_words"] (liftSp K (F_qba)):=
 Zap Fn sc_qba fun cdv A outer s H E hr=>(@Zah _ _ _ _ _ (Zam (i:=2) sc_qba.nd rfl 3e6 (Zcw Zae (Zaj (Zaq hr) (ZaB (Zav (@Zaa _ _ _ _ _ Zad (@Zaa _ _ _ _ _ Zad (@Zaa _ _ _ _ _ Zad 5e9 1e0) 1e0) 1e0))) 1e6))) (@Zah _ _ _ _ _ (ZbV WQ rfl (q_im_enum 1e0 T.b_enumerate 5e3) (q_gm_tup rfl (Zba (Zar (i:=3) sc_qba.nd rfl 3e6) (Zba (Zar (i:=4) sc_qba.nd rfl 3e6) Zcu))) (@Zai _ _ _ (Zam (i:=2) sc_qba.nd rfl 3e6 (ZaE (ZaE (Zab 2) (Zcw Zae (Za6 (Zcx 1e0 T.b_int 1e0 (@Zaa _ _ _ _ _ (Zax op_gt gt_ok.r (Zab 3) Zad 6e5) Zac 1e0)) (Zaj (Zaq hr) (ZaB (Zav (@Zaa _ _ _ _ _ Zad (@Zaa _ _ _ _ _ Zad (@Zaa _ _ _ _ _ Zad 5e9 1e0) 1e0) 1e0))) 1e6)))) (Zab 4))))) (@Zai _ _ _ (@Zak _ _ _ _ (ZaE (Zab 2) (Zcw Zae (Zaj (Zaq hr) (ZaB (Zav (@Zaa _ _ _ _ _ Zad (@Zaa _ _ _ _ _ Zad (@Zaa _ _ _ _ _ Zad 5e9 1e0) 1e0) 1e0))) 1e6)))))))
end
section
variable {P:Yl}{w:World}{K:W.Frag}{mg:1e5}{base:Heap}
abbrev s_qbc:Stmt:=top 46
theorem Zc2:FnScope Ex.toldN ["_law_gone","_law_text_here"] (defScope s_qbc):=1e1
theorem ok_qbc {cX:Addr}{f_me:Addr}{fd_me:Yj}{f_qbw d_READ_FORMS f_qbp f_qbo f_qbq d_MARK_FORMS f_qbr:Addr}{fd_qbw:Yj}(Fn:Fun K "_law_told" "_law_told" s_qbc f_me fd_me)(T:Txt mg)(G_qbw:FnOk P w K mg base CX0 6 f_qbw fd_qbw ["text"] (liftSp K (F_qbw d_READ_FORMS f_qbp f_qbo f_qbq d_MARK_FORMS f_qbr)))(m_qbw:mg "read_claim"=some (.ref f_qbw))(k_qbw:Yp K (.ref f_qbw)=true)(b_qbw:L2.Binds K fd_qbw ["text"] [])(GR_read_claim:FnOk P w K mg base (Ex.CXr P w) 6 f_qbw fd_qbw ["text"] (Ex.liftR K cX (R_read_claim d_READ_FORMS f_qbp f_qbo f_qbq d_MARK_FORMS f_qbr)))(XT:Ex.ExcT P w K mg base "NoLetter" "NoTown" "NoPile" "NoRow" cX):FnOk P w K mg base CX0 7 f_me fd_me ["_law_gone","_law_text_here"] (liftSp K (F_qbc d_READ_FORMS f_qbp f_qbo f_qbq d_MARK_FORMS f_qbr f_qbw)):=
 Ex.orM_fn (Zap Fn Zc2 fun cdv A outer s H E hr=>(@Zah _ _ _ _ _ (Zam (i:=2) Zc2.nd rfl 3e6 ZaQ) (@Zah _ _ _ _ _ (Zam (i:=3) Zc2.nd rfl 3e6 ZaQ) (@Zah _ _ _ _ _ (Ex.sm_tryN (i:=2) (fun _=>(Zb5 (k:=6) 0 (hv_of (fun q hq=>by
  simp only[Za4,Yg,Yr,or_false] at hq
  rcases hq with rfl
  ·exact ⟨_,_,G_qbw.mono (by decide),k_qbw,b_qbw⟩)) (hr.mono (by decide)) (@Zaa _ _ _ _ _ (Zab 1) Zac (by rfl)))) Zc2.nd rfl rfl) (@Zah _ _ _ _ _ (@Zas _ _ _ _ _ _ _ _ (Zan op_isN isN_ok.r (Zab 3) ZaQ (nomark _)) (@Zai _ _ _ (@Zak _ _ _ _ (ZaP (@Zaa _ _ _ _ _ Zae (@Zaa _ _ _ _ _ (Zab 2) Zac (by rfl)) (by rfl))))) Zaw) Ex.bm_no))))) (Ex.told_fn Fn Zc2 fun cdv A outer s H E hr=>by
  obtain ⟨Ab,a1,a2,a3,z1,z2,z3,z4,z5,z6,z7⟩:=XT.ct
  obtain ⟨_,_,_,_,_,z0,_⟩:=XT.cx
  exact Ex.told_raise (k:=6) (Ex.hvR_of (fun q hq=>by
  simp only[ZbT,Yg,Yr,or_false] at hq
  rcases hq with rfl
  ·exact ⟨_,_,GR_read_claim.mono (by decide),k_qbw,b_qbw⟩)) (hr.mono (by decide)) rfl rfl rfl Zc2.nd (show ∀x∈Ex.toldN,(defScope s_qbc).names.lookup x=some .local by decide +kernel) (by rfl) z1 z2 (by rfl) T.b_isinstance (by rfl) T.b_ValueError (by rfl) z0 (by unfold W.kitOne;rw[if_pos (by simp)]) z6 (by rfl) z3 (by rfl) z4 (by rfl) z5 z7)
end
section
variable {P:Yl}{w:World}{K:W.Frag}{mg:1e5}{base:Heap}
abbrev s_qaw:Stmt:=top 47
theorem sc_qaw:FnScope 12e6 12e6 (defScope s_qaw):=1e1
theorem Zda {f_me:Addr}{fd_me:Yj}(Fn:Fun K "_law_same" "_law_same" s_qaw f_me fd_me)(T:Txt mg)(m_qaw:mg "_law_same"=some (.ref f_me))(k_qaw:Yp K (.ref f_me)=true)(b_qaw:L2.Binds K fd_me 12e6 []):∀n:Nat,FnOk P w K mg base CX0 (1 + n) f_me fd_me 12e6 (liftSp K (F_qaw n))
 | 0=>fn_none
 | n + 1=>by
  have G_qaw:=Zda Fn T m_qaw k_qaw b_qaw n
  exact Zap Fn sc_qaw fun cdv A outer s H E hr=>(@Zah _ _ _ _ _ (@Zas _ _ _ _ _ _ _ _ (ZaI (ZaJ 1e0 T.b_isinstance 1e0 (@Zaa _ _ _ _ _ (Zab 1) 12e7 1e0))) (@Zah _ _ _ _ _ (@Zas _ _ _ _ _ _ _ _ (Zbp (Zbf (ZaW (ZaI (ZaJ 1e0 T.b_isinstance 1e0 (@Zaa _ _ _ _ _ (Zab 0) 12e7 1e0)))) (Zbn (Zan op_ne ne_ok.r 7e4 (Zat 1e0 T.b_len 5e3) 6e5)))) (@Zai _ _ _ (@Zak _ _ _ _ Zbt)) Zaw) (@Zai _ _ _ (@Zak _ _ _ _ (ZbY rfl 1e0 T.b_all 1e0 (@Zaa _ _ _ _ _ (ZaB (ZaZ (vs:=["_law_one","_law_other"]) (fs:=[]) (fr:=[]) 4e7 rfl (q_im_zip 1e0 T.b_zip (@Zaa _ _ _ _ _ (Zab 0) 5e3 1e0)) (fun _ _ _ _ _=>(q_gm_tup rfl (Zba (Zar (i:=0) (show ((["_law_one","_law_other"]:List Str)++([]:List Str)).Nodup by decide +kernel) rfl 3e6) (Zba (Zar (i:=1) (show ((["_law_one","_law_other"]:List Str)++([]:List Str)).Nodup by decide +kernel) rfl 3e6) Zcu)))) 13e4 (fun _ _ _ _ _=>(Zaf G_qaw (hr.mono (by show _<=1 + n;lia)) 1e0 m_qaw k_qaw b_qaw (@Zaa _ _ _ _ _ (Zab 0) 5e3 1e0))))) Zac 1e0))))) Zaw) (@Zah _ _ _ _ _ (@Zas _ _ _ _ _ _ _ _ (ZaI (ZaJ 1e0 T.b_isinstance 1e0 (@Zaa _ _ _ _ _ (Zab 1) 13e5 1e0))) (@Zai _ _ _ (@Zak _ _ _ _ (Zay (ZaJ 1e0 T.b_isinstance 1e0 (@Zaa _ _ _ _ _ (Zab 0) 13e5 1e0)) (ZaU (Zax Zbg Zbh.r (Zab 0) (Zab 1) 6e5))))) Zaw) (@Zai _ _ _ (@Zak _ _ _ _ (Zay (ZaJ 1e0 T.b_isinstance 1e0 (@Zaa _ _ _ _ _ (Zab 0) (@Zaa _ _ _ _ _ (ZaV 1e0 T.b_int 1e0) Zac 1e0) 1e0)) (Zay (q_em_not (ZaJ 1e0 T.b_isinstance 1e0 (@Zaa _ _ _ _ _ (Zab 0) (@Zaa _ _ _ _ _ (ZaV 1e0 T.b_bool 1e0) Zac 1e0) 1e0))) (ZaU (Zax Zbg Zbh.r (Zab 0) (Zab 1) 6e5))))))))
theorem ok_qaw {f_me:Addr}{fd_me:Yj}(Fn:Fun K "_law_same" "_law_same" s_qaw f_me fd_me)(T:Txt mg)(m_qaw:mg "_law_same"=some (.ref f_me))(k_qaw:Yp K (.ref f_me)=true)(b_qaw:L2.Binds K fd_me 12e6 []):FnOk P w K mg base CX0 13 f_me fd_me 12e6 (liftSp K (F_qaw 12)):=
 Zda Fn T m_qaw k_qaw b_qaw 12
end
section
variable {P:Yl}{w:World}{K:W.Frag}{mg:1e5}{base:Heap}
abbrev s_qaa:Stmt:=top 48
theorem sc_qaa:FnScope ["_law_word_here"] ["_law_word_here"] (defScope s_qaa):=1e1
theorem ok_qaa {f_me:Addr}{fd_me:Yj}(Fn:Fun K "_law_called" "_law_called" s_qaa f_me fd_me)(T:Txt mg):FnOk P w K mg base CX0 1 f_me fd_me ["_law_word_here"] (liftSp K (F_qaa)):=
 Zap Fn sc_qaa fun cdv A outer s H E hr=>(@Zai _ _ _ (@Zak _ _ _ _ (Zay (Zc8 op_lt op_lt lt_ok.r lt_ok.r Zad 7e4 Zad) (ZaU (ZbY rfl 1e0 T.b_all 1e0 (@Zaa _ _ _ _ _ (ZaB (ZaZ (vs:=["_law_sign"]) (fs:=[]) (fr:=[]) 4e7 rfl (ZaX (Zab 0)) (fun _ _ _ _ _=>(Zar (i:=0) (show ((["_law_sign"]:List Str)++([]:List Str)).Nodup by decide +kernel) rfl 3e6)) 13e4 (fun _ _ _ _ _=>(Zax Za8 in_ok.r (Zab 0) Zae rfl)))) Zac 1e0))))))
end
section
variable {P:Yl}{w:World}{K:W.Frag}{mg:1e5}{base:Heap}
abbrev s_qbe:Stmt:=top 49
theorem sc_qbe:FnScope 9e1 9e1 (defScope s_qbe):=1e1
theorem ok_qbe {f_me:Addr}{fd_me:Yj}(Fn:Fun K "_law_whole" "_law_whole" s_qbe f_me fd_me)(T:Txt mg):FnOk P w K mg base CX0 1 f_me fd_me 9e1 (liftSp K (F_qbe)):=
 Zap Fn sc_qbe fun cdv A outer s H E hr=>(@Zah _ _ _ _ _ (@Zas _ _ _ _ _ _ _ _ (Zbp (Zbf (Zan Zbg Zbh.r (Zab 0) Zae 6e5) (Zbf (ZaW (ZaI (ZbY rfl 1e0 T.b_all 1e0 (@Zaa _ _ _ _ _ (ZaB (ZaZ (vs:=["_law_sign"]) (fs:=[]) (fr:=[]) 4e7 rfl (ZaX (Zab 0)) (fun _ _ _ _ _=>(Zar (i:=0) (show ((["_law_sign"]:List Str)++([]:List Str)).Nodup by decide +kernel) rfl 3e6)) 13e4 (fun _ _ _ _ _=>(Zax Za8 in_ok.r (Zab 0) Zae rfl)))) Zac 1e0)))) (Zbn (Zbp (ZbU (Zan op_ne ne_ok.r (Zab 0) Zae 6e5) (Zbs (Zan Zbg Zbh.r 2e4 Zae 6e5)))))))) (@Zai _ _ _ (@Zak _ _ _ _ ZaQ)) Zaw) (@Zai _ _ _ (@Zak _ _ _ _ (ZcA (Zc4 op_le op_le le_ok.r le_ok.r (Zab 1) (Zcy 1e0 T.b_int 1e0 1e9) (Zab 2)) (Zcy 1e0 T.b_int 1e0 1e9) ZaQ))))
end
section
variable {P:Yl}{w:World}{K:W.Frag}{mg:1e5}{base:Heap}
abbrev s_qaq:Stmt:=top 50
theorem sc_qaq:FnScope ["_law_parts","_law_number_here"] ["_law_parts"] (defScope s_qaq):=1e1
theorem ok_qaq {f_me:Addr}{fd_me:Yj}{f_qaa f_qbe:Addr}{fd_qaa fd_qbe:Yj}(Fn:Fun K "_law_named" "_law_named" s_qaq f_me fd_me)(T:Txt mg)(G_qaa:FnOk P w K mg base CX0 1 f_qaa fd_qaa ["_law_word_here"] (liftSp K F_qaa))(m_qaa:mg "_law_called"=some (.ref f_qaa))(k_qaa:Yp K (.ref f_qaa)=true)(b_qaa:L2.Binds K fd_qaa ["_law_word_here"] [])(G_qbe:FnOk P w K mg base CX0 1 f_qbe fd_qbe 9e1 (liftSp K F_qbe))(m_qbe:mg "_law_whole"=some (.ref f_qbe))(k_qbe:Yp K (.ref f_qbe)=true)(b_qbe:L2.Binds K fd_qbe 9e1 []):FnOk P w K mg base CX0 2 f_me fd_me ["_law_parts"] (liftSp K (F_qaq)):=
 Zap Fn sc_qaq fun cdv A outer s H E hr=>(@Zah _ _ _ _ _ (@Zas _ _ _ _ _ _ _ _ (Zbp (Zbf (Zan op_ne ne_ok.r 7e4 Zad 6e5) (Zbf (ZaW (ZaI (Zaf G_qaa 1e3 1e0 m_qaa k_qaa b_qaa 7e8))) (Zbn (ZaW (ZaI (Zaf G_qaa 1e3 1e0 m_qaa k_qaa b_qaa 7e8))))))) (@Zai _ _ _ (@Zak _ _ _ _ ZaQ)) Zaw) (@Zah _ _ _ _ _ (Zam (i:=1) sc_qaq.nd rfl 3e6 (Zaf G_qbe 1e3 1e0 m_qbe k_qbe b_qbe (@Zaa _ _ _ _ _ 2e4 (@Zaa _ _ _ _ _ Zad (@Zaa _ _ _ _ _ (Zbo Zad Zad) Zac 1e0) 1e0) 1e0))) (@Zai _ _ _ (@Zak _ _ _ _ (ZcA (Zan op_isN isN_ok.r (Zab 1) ZaQ 6e5) ZaQ (ZaP (@Zaa _ _ _ _ _ 2e4 (@Zaa _ _ _ _ _ 2e4 5e3 1e0) 1e0)))))))
end
section
variable {P:Yl}{w:World}{K:W.Frag}{mg:1e5}{base:Heap}
abbrev s_qag:Stmt:=top 51
theorem sc_qag:FnScope ["_law_words","_law_parts","_law_many"] ["_law_words"] (defScope s_qag):=1e1
theorem ok_qag {f_me:Addr}{fd_me:Yj}{f_qaq f_qbe:Addr}{fd_qaq fd_qbe:Yj}(Fn:Fun K "_law_claim_due" "_law_claim_due" s_qag f_me fd_me)(T:Txt mg)(G_qaq:FnOk P w K mg base CX0 2 f_qaq fd_qaq ["_law_parts"] (liftSp K F_qaq))(m_qaq:mg "_law_named"=some (.ref f_qaq))(k_qaq:Yp K (.ref f_qaq)=true)(b_qaq:L2.Binds K fd_qaq ["_law_parts"] [])(G_qbe:FnOk P w K mg base CX0 1 f_qbe fd_qbe 9e1 (liftSp K F_qbe))(m_qbe:mg "_law_whole"=some (.ref f_qbe))(k_qbe:Yp K (.ref f_qbe)=true)(b_qbe:L2.Binds K fd_qbe 9e1 []):FnOk P w K mg base CX0 3 f_me fd_me ["_law_words"] (liftSp K (F_qag)):=
 Zap Fn sc_qag fun cdv A outer s H E hr=>(@Zah _ _ _ _ _ (@Zas _ _ _ _ _ _ _ _ (Zan (op_ltD (hu64 hr)) ltD_ok.r 7e4 Zad 6e5) (@Zai _ _ _ (@Zak _ _ _ _ ZaQ)) Zaw) (@Zah _ _ _ _ _ (Zby (i:=1) sc_qag.nd rfl 3e6 (Zav (@Zaa _ _ _ _ _ (Zaf G_qaq 1e3 1e0 m_qaq k_qaq b_qaq (@Zaa _ _ _ _ _ (Zbj 2e4 14e4) Zac 1e0)) Zac 1e0))) (@Zah _ _ _ _ _ (@Zas _ _ _ _ _ _ _ _ (Zbp (ZbU (Zan (op_inD (hu64 hr)) inD_ok.r 2e4 (ZaP (@Zaa _ _ _ _ _ Zae (@Zaa _ _ _ _ _ Zae 14e4 1e0) 1e0)) rfl) (Zbs (Zan op_gt gt_ok.r 7e4 Zad 6e5)))) (@Zai _ _ _ (ZaD (ZaY (Zab 1) (@Zaa _ _ _ _ _ (Zaf G_qbe 1e3 1e0 m_qbe k_qbe b_qbe (@Zaa _ _ _ _ _ 2e4 (@Zaa _ _ _ _ _ Zad 5e9 1e0) 1e0)) Zac 1e0)))) Zaw) (@Zah _ _ _ _ _ (@Zas _ _ _ _ _ _ _ _ (Zbp (ZbU (Zan (op_eqD (hu64 hr)) deep_ok.r 2e4 Zae 6e5) (Zbs (Zan op_gt gt_ok.r 7e4 Zad 6e5)))) (@Zai _ _ _ (ZaD (ZaY (Zab 1) (@Zaa _ _ _ _ _ (Zaf G_qbe 1e3 1e0 m_qbe k_qbe b_qbe (@Zaa _ _ _ _ _ 2e4 (@Zaa _ _ _ _ _ Zad (@Zaa _ _ _ _ _ (Zbo Zad Zad) Zac 1e0) 1e0) 1e0)) Zac 1e0)))) Zaw) (@Zah _ _ _ _ _ (@Zas _ _ _ _ _ _ _ _ (Zbp (ZbU (Zan (op_eqD (hu64 hr)) deep_ok.r 2e4 Zae 6e5) (Zbs (Zan op_gt gt_ok.r 7e4 Zad 6e5)))) (@Zai _ _ _ (ZaD (ZaY (Zab 1) (@Zaa _ _ _ _ _ (Zaf G_qaq 1e3 1e0 m_qaq k_qaq b_qaq (@Zaa _ _ _ _ _ (Zbj 2e4 14e4) Zac 1e0)) Zac 1e0)))) Zaw) (@Zah _ _ _ _ _ (Zam (i:=2) sc_qag.nd rfl 3e6 (q_em_dict (@Za0 _ _ _ _ _ _ _ _ _ _ Zad (@Za0 _ _ _ _ _ _ _ _ _ _ Zad (@Za0 _ _ _ _ _ _ _ _ _ _ Zad (@Za0 _ _ _ _ _ _ _ _ _ _ Zad (@Za0 _ _ _ _ _ _ _ _ _ _ Zad (@Za0 _ _ _ _ _ _ _ _ _ _ Zad (@Za0 _ _ _ _ _ _ _ _ _ _ Zad (@Za0 _ _ _ _ _ _ _ _ _ _ Zad (@Za0 _ _ _ _ _ _ _ _ _ _ Zad q_dm_nil))))))))) 3e5 rfl rfl 3e2 2e6 rfl)) (@Zah _ _ _ _ _ (@Zas _ _ _ _ _ _ _ _ (Zbp (Zbf (Zan (op_neD (hu64 hr)) deep_ok.r (q_em_get2 (Zab 2) (@Zaa _ _ _ _ _ 2e4 5e9 1e0)) 7e4 6e5) (Zbn (Zan (op_inD (hu64 hr)) inD_ok.r ZaQ (Zab 1) rfl)))) (@Zai _ _ _ (@Zak _ _ _ _ ZaQ)) Zaw) (@Zai _ _ _ (@Zak _ _ _ _ (ZbW 1e0 T.b_tuple 1e0 (@Zaa _ _ _ _ _ (ZaE (ZaN (Zab 0) ZaS (ZaR Zad)) (Zab 1)) Zac 1e0)))))))))))
end
section
variable {P:Yl}{w:World}{K:W.Frag}{mg:1e5}{base:Heap}
abbrev s_qay:Stmt:=top 52
theorem Zcs:FnScope ["_law_left_here","_law_claim_here","_law_words","_law_way","_law_at","_law_some"] ["_law_left_here","_law_claim_here"] (defScope s_qay):=1e1
theorem ok_qay {f_me:Addr}{fd_me:Yj}{f_qai f_qau:Addr}{fd_qai fd_qau:Yj}(Fn:Fun K "_law_spoilt" "_law_spoilt" s_qay f_me fd_me)(T:Txt mg)(GF_qai:FnOk P w K mg base CX0 2 f_qai fd_qai ["_law_claim_here"] (liftSpF K FF_qai))(m_qai:mg "_law_claim_words"=some (.ref f_qai))(k_qai:Yp K (.ref f_qai)=true)(b_qai:L2.Binds K fd_qai ["_law_claim_here"] [])(G_qau:10e6)(m_qau:mg "_law_pick"=some (.ref f_qau))(k_qau:Yp K (.ref f_qau)=true)(b_qau:L2.Binds K fd_qau 5e7 []):FnOk P w K mg base CX0 3 f_me fd_me ["_law_left_here","_law_claim_here"] (liftSp K (F_qay)):=
 Zap Fn Zcs fun cdv A outer s H E hr=>(@Zah _ _ _ _ _ (Zby (i:=2) Zcs.nd rfl 3e6 (q_fm_call GF_qai 1e3 1e0 m_qai k_qai b_qai 5e3)) (@Zah _ _ _ _ _ (Zam (i:=3) Zcs.nd rfl 3e6 1e6) (@Zah _ _ _ _ _ (Zam (i:=4) Zcs.nd rfl 3e6 (Zaf G_qau 1e3 1e0 m_qau k_qau b_qau (@Zaa _ _ _ _ _ (Zab 0) (@Zaa _ _ _ _ _ (Zat 1e0 T.b_len 11e8) Zac 1e0) 1e0))) (@Zah _ _ _ _ _ (Zam (i:=5) Zcs.nd rfl 3e6 (ZaB (Zav (@Zaa _ _ _ _ _ Zae (@Zaa _ _ _ _ _ Zae (@Zaa _ _ _ _ _ Zae (@Zaa _ _ _ _ _ Zae (@Zaa _ _ _ _ _ Zae (@Zaa _ _ _ _ _ Zae (@Zaa _ _ _ _ _ Zae (@Zaa _ _ _ _ _ Zae (@Zaa _ _ _ _ _ Zae (@Zaa _ _ _ _ _ Zae 6e7 1e0) 1e0) 1e0) 1e0) 1e0) 1e0) 1e0) 1e0) 1e0) 1e0)))) (@Zah _ _ _ _ _ (Zam (i:=5) Zcs.nd rfl 3e6 (ZaE (Zab 5) (ZaB (Zav (@Zaa _ _ _ _ _ Zae (@Zaa _ _ _ _ _ Zae (@Zaa _ _ _ _ _ Zae (@Zaa _ _ _ _ _ Zae (@Zaa _ _ _ _ _ Zae (@Zaa _ _ _ _ _ Zae (@Zaa _ _ _ _ _ Zae (@Zaa _ _ _ _ _ Zae (@Zaa _ _ _ _ _ (Zaj (Zaq hr) (Zab 2) (q_em_neg Zad)) Zac 1e0) 1e0) 1e0) 1e0) 1e0) 1e0) 1e0) 1e0) 1e0))))) (@Zah _ _ _ _ _ (@Zas _ _ _ _ _ _ _ _ (Zan Zbg Zbh.r (Zab 3) Zad 6e5) (@Zai _ _ _ (ZaD (q_em_popAt (Zab 2) (@Zaa _ _ _ _ _ (Zab 4) Zac 1e0)))) (@Zai _ _ _ (@Zas _ _ _ _ _ _ _ _ (Zan Zbg Zbh.r (Zab 3) Zad 6e5) (@Zai _ _ _ (ZaD (Zcz (Zab 2) (@Zaa _ _ _ _ _ (Zab 4) (@Zaa _ _ _ _ _ (Zaj (Zaq hr) (Zab 2) (Zab 4)) Zac 1e0) 1e0)))) (@Zai _ _ _ (@Zas _ _ _ _ _ _ _ _ (Zan Zbg Zbh.r (Zab 3) Zad 6e5) (@Zai _ _ _ (q_sm_swap (@Zaa _ _ _ _ _ (Zaj (Zaq hr) (Zab 2) (ZbX (Zab 4) Zad)) (@Zaa _ _ _ _ _ (Zaj (Zaq hr) (Zab 2) (Zab 4)) Zac 1e0) 1e0) (Zab 2) (Zab 4) (Zab 2) (ZbX (Zab 4) Zad))) (@Zai _ _ _ (@Zas _ _ _ _ _ _ _ _ (Zan op_lt lt_ok.r (Zab 3) Zad 6e5) (@Zai _ _ _ (Zbi (Zaj (Zaq hr) (Zab 5) 1e6) (Zab 2) (Zab 4))) (@Zai _ _ _ (@Zas _ _ _ _ _ _ _ _ (Zan Zbg Zbh.r (Zab 3) Zad 6e5) (@Zai _ _ _ (ZaD (Zcz (Zab 2) (@Zaa _ _ _ _ _ (Zab 4) (@Zaa _ _ _ _ _ (Zaj (Zaq hr) (Zab 5) 1e6) Zac 1e0) 1e0)))) (@Zai _ _ _ (@Zas _ _ _ _ _ _ _ _ (Zan Zbg Zbh.r (Zab 3) Zad 6e5) (@Zai _ _ _ (Zbi (ZaE (Zaj (Zaq hr) (Zab 2) (Zab 4)) (Zaj (Zaq hr) (ZaB (Zav 6e7)) 1e6)) (Zab 2) (Zab 4))) (@Zai _ _ _ (@Zas _ _ _ _ _ _ _ _ (Zan Zbg Zbh.r (Zab 3) Zad 6e5) (@Zai _ _ _ (Zbi (ZaE (Zaj (Zaq hr) (ZaB (Zav 6e7)) 1e6) (Zaj (Zaq hr) (Zab 2) (Zab 4))) (Zab 2) (Zab 4))) (@Zai _ _ _ (Zby (i:=2) Zcs.nd rfl 3e6 (Zav 6e7)))))))))))))))) (@Zai _ _ _ (@Zak _ _ _ _ (Zab 2)))))))))
end
section
variable {P:Yl}{w:World}{K:W.Frag}{mg:1e5}{base:Heap}
abbrev s_law:Stmt:=top 53
theorem ZbF:FnScope ["_law_script","_law_k","_law_left_here","_law_words","_law_due","_law_text_here","_law_turn","_law_word_here","_law_found","_law_some"] ["_law_script"] (defScope s_law):=1e1
theorem ok_law {f_me:Addr}{fd_me:Yj}{f_qak f_qae f_qay f_qag f_qba f_qbw f_qbc f_qaw f_qau d_READ_FORMS f_qbp f_qbo f_qbq d_MARK_FORMS f_qbr:Addr}{fd_qak fd_qae fd_qay fd_qag fd_qba fd_qbw fd_qbc fd_qaw fd_qau:Yj}(Fn:Fun K "law" "law" s_law f_me fd_me)(T:Txt mg)(GF_qak:FnOk P w K mg base CX0 2 f_qak fd_qak 8e0 (liftSpF K FF_qak))(m_qak:mg "_law_left"=some (.ref f_qak))(k_qak:Yp K (.ref f_qak)=true)(b_qak:L2.Binds K fd_qak 8e0 [])(G_qae:FnOk P w K mg base CX0 4 f_qae fd_qae 6e9 (liftSp K F_qae))(m_qae:mg "_law_claim"=some (.ref f_qae))(k_qae:Yp K (.ref f_qae)=true)(b_qae:L2.Binds K fd_qae 6e9 [])(G_qay:FnOk P w K mg base CX0 3 f_qay fd_qay ["_law_left_here","_law_claim_here"] (liftSp K F_qay))(m_qay:mg "_law_spoilt"=some (.ref f_qay))(k_qay:Yp K (.ref f_qay)=true)(b_qay:L2.Binds K fd_qay ["_law_left_here","_law_claim_here"] [])(G_qag:FnOk P w K mg base CX0 3 f_qag fd_qag ["_law_words"] (liftSp K F_qag))(m_qag:mg "_law_claim_due"=some (.ref f_qag))(k_qag:Yp K (.ref f_qag)=true)(b_qag:L2.Binds K fd_qag ["_law_words"] [])(G_qba:FnOk P w K mg base CX0 2 f_qba fd_qba ["_law_left_here","_law_words"] (liftSp K F_qba))(m_qba:mg "_law_text"=some (.ref f_qba))(k_qba:Yp K (.ref f_qba)=true)(b_qba:L2.Binds K fd_qba ["_law_left_here","_law_words"] [])(G_qbw:FnOk P w K mg base CX0 6 f_qbw fd_qbw ["text"] (liftSp K (F_qbw d_READ_FORMS f_qbp f_qbo f_qbq d_MARK_FORMS f_qbr)))(m_qbw:mg "read_claim"=some (.ref f_qbw))(k_qbw:Yp K (.ref f_qbw)=true)(b_qbw:L2.Binds K fd_qbw ["text"] [])(G_qbc:FnOk P w K mg base CX0 7 f_qbc fd_qbc ["_law_gone","_law_text_here"] (liftSp K (F_qbc d_READ_FORMS f_qbp f_qbo f_qbq d_MARK_FORMS f_qbr f_qbw)))(m_qbc:mg "_law_told"=some (.ref f_qbc))(k_qbc:Yp K (.ref f_qbc)=true)(b_qbc:L2.Binds K fd_qbc ["_law_gone","_law_text_here"] [])(G_qaw:FnOk P w K mg base CX0 13 f_qaw fd_qaw 12e6 (liftSp K (F_qaw 12)))(m_qaw:mg "_law_same"=some (.ref f_qaw))(k_qaw:Yp K (.ref f_qaw)=true)(b_qaw:L2.Binds K fd_qaw 12e6 [])(G_qau:10e6)(m_qau:mg "_law_pick"=some (.ref f_qau))(k_qau:Yp K (.ref f_qau)=true)(b_qau:L2.Binds K fd_qau 5e7 []):FnOk P w K mg base CX0 14 f_me fd_me ["_law_script"] (liftSp K (F_law d_READ_FORMS f_qbp f_qbo f_qbq d_MARK_FORMS f_qbr f_qbw)):=
 Zap Fn ZbF fun cdv A outer s H E hr=>(@Zah _ _ _ _ _ (ZbV WQ rfl (ZbH 1e0 T.b_range (@Zaa _ _ _ _ _ (ZaE Zad (q_em_min rfl 1e0 T.b_min 1e0 (@Zaa _ _ _ _ _ Zad (@Zaa _ _ _ _ _ 7e4 Zac 1e0) 1e0))) Zac 1e0)) (Zar (i:=1) ZbF.nd rfl 3e6) (@Zah _ _ _ _ _ (Zby (i:=2) ZbF.nd rfl 3e6 (q_fm_call GF_qak 1e3 1e0 m_qak k_qak b_qak (@Zaa _ _ _ _ _ (Zab 0) 5e3 1e0))) (@Zah _ _ _ _ _ (Zam (i:=3) ZbF.nd rfl 3e6 (Zaf G_qay 1e3 1e0 m_qay k_qay b_qay (@Zaa _ _ _ _ _ (Zab 2) (@Zaa _ _ _ _ _ (Zaf G_qae 1e3 1e0 m_qae k_qae b_qae 11e8) Zac 1e0) 1e0))) (@Zah _ _ _ _ _ (Zam (i:=4) ZbF.nd rfl 3e6 (Zaf G_qag 1e3 1e0 m_qag k_qag b_qag (@Zaa _ _ _ _ _ (ZaB (ZaZ (vs:=["_law_word_here"]) (fs:=[]) (fr:=[]) 4e7 rfl (ZaX (Zab 3)) (fun _ _ _ _ _=>(Zar (i:=0) (show ((["_law_word_here"]:List Str)++([]:List Str)).Nodup by decide +kernel) rfl 3e6)) (fun _ _ _ _ _=>(q_ts_one (Zan op_ne ne_ok.r (Zab 0) Zae 6e5))) (fun _ _ _ _ _=>(Zab 0)))) Zac 1e0))) (@Zah _ _ _ _ _ (Zam (i:=5) ZbF.nd rfl 3e6 (Zaf G_qba 1e3 1e0 m_qba k_qba b_qba (@Zaa _ _ _ _ _ (Zab 2) (@Zaa _ _ _ _ _ (Zab 3) Zac 1e0) 1e0))) (@Zah _ _ _ _ _ (ZbV WQ rfl (ZbH 1e0 T.b_range 5e9) (Zar (i:=6) ZbF.nd rfl 3e6) (@Zah _ _ _ _ _ (q_sm_asg (Zaf G_qbc 1e3 1e0 m_qbc k_qbc b_qbc (@Zaa _ _ _ _ _ (Zbz 1e0 m_qbw) (@Zaa _ _ _ _ _ (Zab 5) Zac 1e0) 1e0)) (q_gm_tup rfl (Zba (Zar (i:=7) ZbF.nd rfl 3e6) (Zba (Zar (i:=8) ZbF.nd rfl 3e6) Zcu)))) (@Zai _ _ _ (@Zas _ _ _ _ _ _ _ _ (Zbp (Zbf (Zan op_ne ne_ok.r (Zab 7) (Zaj (Zaq hr) (ZaB (Zav (@Zaa _ _ _ _ _ Zae 14e4 1e0))) (Zcx 1e0 T.b_int 1e0 (@Zaa _ _ _ _ _ (Zax op_isN isN_ok.r (Zab 4) ZaQ 6e5) Zac 1e0))) 6e5) (Zbn (Zbp (ZbU (Zan op_notN notN_ok.r (Zab 4) ZaQ 6e5) (Zbs (ZaW (ZaI (Zaf G_qaw 1e3 1e0 m_qaw k_qaw b_qaw (@Zaa _ _ _ _ _ (Zab 8) (@Zaa _ _ _ _ _ (Zab 4) Zac 1e0) 1e0)))))))))) (@Zai _ _ _ (@Zak _ _ _ _ Zbt)) Zaw)))) (@Zah _ _ _ _ _ (Zam (i:=9) ZbF.nd rfl 3e6 (ZaB (Zav (@Zaa _ _ _ _ _ Zae (@Zaa _ _ _ _ _ Zae (@Zaa _ _ _ _ _ Zae (@Zaa _ _ _ _ _ ZaQ (@Zaa _ _ _ _ _ Zad (@Zaa _ _ _ _ _ Zbt (@Zaa _ _ _ _ _ (Zab 3) (@Zaa _ _ _ _ _ (ZbW 1e0 T.b_tuple 1e0 (@Zaa _ _ _ _ _ (Zab 3) Zac 1e0)) (@Zaa _ _ _ _ _ q_em_dict0 Zac 1e0) 1e0) 1e0) 1e0) 1e0) 1e0) 1e0) 1e0) 1e0)))) (@Zai _ _ _ (@Zas _ _ _ _ _ _ _ _ (Zan op_ne ne_ok.r (Zaj (Zaq hr) (Zaf G_qbc 1e3 1e0 m_qbc k_qbc b_qbc (@Zaa _ _ _ _ _ (Zbz 1e0 m_qbw) (@Zaa _ _ _ _ _ (Zaj (Zaq hr) (Zab 9) (Zaf G_qau 1e3 1e0 m_qau k_qau b_qau (@Zaa _ _ _ _ _ (Zab 2) 5e9 1e0))) Zac 1e0) 1e0)) Zad) Zae 6e5) (@Zai _ _ _ (@Zak _ _ _ _ Zbt)) Zaw))))))))) (@Zai _ _ _ (@Zak _ _ _ _ Zbt)))
end
local macro_rules
 | `(tactic| simp![$args,*])=>`(tactic| simp[mDef,mRet,mRetF,mAndV,mOrV,mNotV,mCB,mOp,mChain,mTest,mTru,mNotT,mAndT,mOrT,mIf,mIfS,mSeq,mSkip,mSet,mDrop,mTup,mLst,mVal,mFn,mFnF,mSlice,mMt,mDict,mDict0,mList,listH,bnd,opM,aCons,aNil,mVar,mC,Pu.ret,g1,g2,derefs,deref,isiH,isiP,tyN,mB,asB,intP,fin,truP,lenH,Pu.plain,oNo,oPart,Pu.intD,sliceD,sliceP,isTy,tyP,mtD,eqP,neP,scP,$args,*])
local macro_rules
 |`(#[$x])=>`(some (.v $x))
def okv:PV->Bool
 | .dtt _ _=>false
 | .fn _=>false
 | .ty _=>false
 | _=>true
noncomputable def AZ:Str:="abcdefghijklmnopqrstuvwxyz"
def wordB (z:Str):Bool:=decide (1<=(z.length:Int))&&decide ((z.length:Int)<=12)&&z.cps.toList.all AZ.cps.contains
def wordP:PV->Bool
 | .str z=>wordB z
 | _=>false
noncomputable def numB (x:PV)(m:Int):Bool:=match x with
 | .int i=>decide (m<=i)
 | _=>false
noncomputable def belB (x:PV)(b:Int):Bool:=match x with
 | .int i=>decide (0<=i)&&decide (i < b)
 | _=>false
theorem Za3 (x:PV)(m:Int)(C:Cs)(h:okv x=true):F_qbm [.v x,.v (.int m)] C=some (.v (.bl (numB x m)),C):=by
  cases x<;>first
    | (cases h;done)
    | (simp![F_qbm,numB])
theorem Zbc (x:PV)(b:Int)(C:Cs)(h:okv x=true):F_qbn [.v x,.v (.int b)] C=some (.v (.bl (belB x b)),C):=by
 cases x with
 | int i=>by_cases hi:(0:Int)<=i<;>simp![F_qbn,Za3 _ _ _ h,numB,belB,hi]
 | dtt a b=>cases h
 | fn a=>cases h
 | ty a=>cases h
 | _=>simp![F_qbn,Za3 _ _ _ h,numB,belB]
theorem Zco {te:2e7}{f:PV->PV}:∀(xs:List PV) (ρ:PSt) (ys:List PV) (C:Cs),(∀x∈xs,te (ρ.set 0 #[x]) C=some (.v (f x),C))->compL 14e1 tOk te xs ρ ys C=some (ys++xs.map f,C)
 | [],ρ,ys,C,_=>by simp[compL,Pu.ret]
 | x::xs,ρ,ys,C,h=>by
  have h1:=h x 3e2
  have h2:=Zco xs (ρ.set 0 #[x]) (ys++[f x]) C fun y hy=>by rw[List.set_set];exact h y (by simp[hy])
  simp[compL,hName,bnd,tOk,Pu.ret,h1,h2]
theorem ZcV {α:Type}(g:α->Bool):∀l:List α,boolsP (l.map fun c=>PV.bl (g c))=some (l.map g)
 | []=>rfl
 | a::l=>by simp[boolsP,ZcV g l]
theorem ZbP (c:Nat)(z:Str):strIn 5e2 z=z.cps.toList.contains c:=by
 unfold strIn
 rw[PySem.StrLaws.found_one]
 simp
theorem AZ_contains:AZ.cps.toList.contains=AZ.cps.contains:=by
 funext c;simp
theorem Zdg (x:PV)(C:Cs)(h:okv x=true):F_qbt [.v x] C=some (.v (.bl (wordP x)),C):=by
 cases x with
 | str z=>
  by_cases h1:1<=(z.length:Int)
  ·by_cases h2:(z.length:Int)<=12
   ·have hl:z.cps.size<=100000:=by
     have:z.cps.size=z.length:=rfl
     lia
    unfold F_qbt B_qbt
    generalize hte:mOp (g2 inP) 2e0 (mC 7e7)=te
    have key:compL 14e1 tOk te (z.cps.toList.map fun c=>.str 5e2) [none] [] C=some (z.cps.toList.map fun c=>PV.bl (AZ.cps.contains c),C):=by
     subst hte
     have:=Zco (te:=mOp (g2 inP) 2e0 (mC 7e7)) (f:=fun p=>match p with | .str y=>.bl (strIn y AZ) | _=>.non) (z.cps.toList.map fun c=>.str ⟨(List.toArray [c])⟩) [none] [] C (fun x hx=>by
      obtain ⟨c,_,rfl⟩:=X4.mp hx
      simp[mOp,bnd,mVar,mC,opM,g2,deref,inP,inB,AZ])
     rw[this,X2,W6]
     congr 3
     funext c
     simp only[Function.comp,ZbP]
     rw[AZ_contains]
    simp![h1,h2,mComp,mItems,itemsP,stIn',hl,key,allH,ZcV,wordP,wordB,List.all_map]
   ·simp![F_qbt,h1,h2,wordP,wordB]
  ·simp![F_qbt,h1,wordP,wordB]
 | dtt a b=>cases h
 | fn a=>cases h
 | ty a=>cases h
 | _=>simp![F_qbt,wordP]
theorem row_tup (ps:List PV)(a b:Int)(C:Cs):F_qbs [.v (.tup ps),.v (.int a),.v (.int b)] C=some (.v (.bl (decide (a<=ps.length)&&decide ((ps.length:Int)<=b))),C):=by
 by_cases h:a<=ps.length
 ·by_cases h2:(ps.length:Int)<=b<;>simp![F_qbs,h,h2]
 ·simp![F_qbs,h]
noncomputable def isT:PV->Bool
 | .tup _=>true
 | _=>false
theorem row_not (x:PV)(a b:Int)(C:Cs)(h:okv x=true)(ht:isT x=false):F_qbs [.v x,.v (.int a),.v (.int b)] C=some (.v 10e7,C):=by
 cases x<;>first | (cases ht;done) | (cases h;done) | simp![F_qbs]
theorem tk (C:Cs)(k:Nat)(v:PV):(C.set k v).take C.length=C.set k v:=Xw 3e2
theorem setAt {C:Cs}{k:Nat}{v w:PV}(h:C[k]? = some w):(C.set k v)[k]? = some v:=by
 have:k < C.length:=by
  rcases Y4 k C.length with q | q
  ·exact q
  ·rw[YF.mpr q] at h;cases h
 rw[Y0 this]
theorem pick_spec (k:Nat)(x y m:Int)(C:Cs)(hC:C[k]? = some (.lst [.int x,.int y]))(hy:0<=y/\y < 2147483647)(hm:0 < m/\m < 1606938044258990275541962092341162602522202993782792835301376):
  ∃d x' y',F_qau [.c k,.v (.int m)] C=some (.v (.int d),C.set k (.lst [.int x',.int y']))/\0<=d/\d < m/\0<=y'/\y' < 2147483647:=by
 by_cases hx:0 < x
 ·refine ⟨x % m,x / m,y,?_,X3 _ 4e0,XN _ hm.1,hy.1,hy.2⟩
  simp![F_qau,ixQ,ixP,atI,ixN,hC,hx,hm.1,hm.2,mSetIx,setC,tk]
 ·have h1:0<=(y * 48271 + 12345) % 2147483647:=X3 _ 2e6
  have h2:(y * 48271 + 12345) % 2147483647 < 2147483647:=XN _ 2e6
  refine ⟨(y * 48271 + 12345) % 2147483647 * ((y * 48271 + 12345) % 2147483647) % 1999999973 % m,x,(y * 48271 + 12345) % 2147483647,?_,X3 _ 4e0,XN _ hm.1,h1,h2⟩
  generalize hz:(y * 48271 + 12345) % 2147483647=z at h1 h2
  have c1:(-18446744073709551616 < z/\z < 18446744073709551616):=by lia
  simp![F_qau,ixQ,ixP,atI,ixN,hC,hx,hm.1,hm.2,mSetIx,setC,tk,addP,setAt hC,hz,c1]
def GS (C:Cs)(k:Nat):Prop:=∃x y:Int,C[k]? = some (.lst [.int x,.int y])/\0<=y/\y < 2147483647
structure Adv (k:Nat)(C C':Cs):Prop where
 len:C'.length=C.length
 gs:GS C' k
 oth:∀j,j≠k->C'[j]? = C[j]?
theorem Adv.refl {k:Nat}{C:Cs}(h:GS C k):Adv k C C:=⟨rfl,h,fun _ _=>rfl⟩
theorem Adv.trans {k:Nat}{C C1 C2:Cs}(a:Adv k C C1)(b:Adv k C1 C2):Adv k C C2:=⟨b.len.trans a.len,b.gs,fun j h=>(b.oth j h).trans (a.oth j h)⟩
theorem Adv.take {k:Nat}{C C':Cs}(a:Adv k C C'):C'.take C.length=C':=Xw (by rw[a.len];exact Yo _)
theorem ZaK (k:Nat)(m:Int)(C:Cs)(h:GS C k)(hm:0 < m/\m < 1606938044258990275541962092341162602522202993782792835301376):∃d C',F_qau [.c k,.v (.int m)] C=some (.v (.int d),C')/\0<=d/\d < m/\Adv k C C':=by
 obtain ⟨x,y,hC,h1,h2⟩:=h
 obtain ⟨d,x',y',e,a1,a2,a3,a4⟩:=pick_spec k x y m C hC ⟨h1,h2⟩ hm
 exact ⟨d,_,e,a1,a2,by simp,⟨x',y',setAt hC,a3,a4⟩,fun j hj=>by rw[Y8 (Xd hj)]⟩
theorem comp_adv {te:2e7}{k:Nat}{Pp:PV->Prop}:∀(xs:List PV) (ρ:PSt) (ys:List PV) (C:Cs),GS C k->(∀x C,GS C k->∃p C',te (ρ.set 0 #[x]) C=some (.v p,C')/\Pp p/\Adv k C C')->
  ∃zs C',compL 14e1 tOk te xs ρ ys C=some (ys++zs,C')/\zs.length=xs.length/\(∀p∈zs,Pp p)/\Adv k C C'
 | [],ρ,ys,C,g,h=>⟨[],C,by simp[compL,Pu.ret],rfl,by simp,Adv.refl g⟩
 | x::xs,ρ,ys,C,g,h=>by
  obtain ⟨p,C1,e1,hp,a1⟩:=h x C g
  obtain ⟨zs,C2,e2,hl,hz,a2⟩:=comp_adv (te:=te) (Pp:=Pp) xs (ρ.set 0 #[x]) (ys++[p]) C1 a1.gs fun y C' g'=>by rw[List.set_set];exact h y C' g'
  refine ⟨p::zs,C2,?_,by simp[hl],fun q hq=>?_,a1.trans a2⟩
  ·simp![compL,hName,tOk,e1,e2]
  ·rcases Yg.mp hq with rfl | hq
   ·exact hp
   ·exact hz q hq
theorem Zdm (ns:List Int)(i:Int)(C:Cs)(hi:0<=i):∃v:Int,F_qac [.v (.lst (ns.map .int)),.v (.int i)] C=some (.v (.int v),C):=by
 by_cases h:i < ns.length
 ·have hd:i.toNat < ns.length:=by lia
  refine ⟨ns[i.toNat],?_⟩
  simp![F_qac,ixQ,ixP,atI,ixN,hi,h,Ye hd]
 ·exact ⟨0,by simp![F_qac,h]⟩
theorem left_eq (ns:List Int)(k:Int)(C:Cs)(h1:0<=k)(h2:k<=1000):∃x y:Int,FF_qak [.v (.lst (ns.map .int)),.v (.int k)] C=some ([.int x,.int y],C)/\0<=y/\y < 2147483647:=by
 have hm:0 < (if (ns.length:Int) > 1 then (ns.length:Int) else 1):=by split<;>lia
 obtain ⟨v,ev⟩:=Zdm ns (k % (if (ns.length:Int) > 1 then (ns.length:Int) else 1)) C (X3 _ 4e0)
 obtain ⟨u,eu⟩:=Zdm ns 0 C 2e6
 have c1:-18446744073709551616 < k/\k < 18446744073709551616:=by lia
 have hm':0 < (if 1 < (ns.length:Int) then (ns.length:Int) else 1):=hm
 have ev':F_qac [.v (.lst (ns.map .int)),.v (.int (k % (if 1 < (ns.length:Int) then (ns.length:Int) else 1)))] C=some (.v (.int v),C):=ev
 have hcast:(if 1 < (ns.length:Int) then (ns.length:Int) else 1)=if 1 < ns.length then (ns.length:Int) else 1:=by
  by_cases q:1 < ns.length
  ·rw[if_pos q,if_pos 4e0]
  ·rw[if_neg q,if_neg 4e0]
 have p40:(0:Int) < 10 ^ 40:=by decide
 by_cases hu:u % 2=0
 ·refine ⟨0,(v % 2147483629 + 7919 * k * k + 11) * 48271 % 2147483647,?_,X3 _ 2e6,XN _ 2e6⟩
  simp![FF_qak,mDefF,maxH,ev',eu,hm',c1,addP,hu]
 ·refine ⟨v % 10 ^ 40,(v % 2147483629 + 7919 * k * k + 11) * 48271 % 2147483647,?_,X3 _ 2e6,XN _ 2e6⟩
  simp![FF_qak,mDefF,maxH,ev',eu,hm',c1,addP,hu]
theorem loop_inv {g:4e9}{f:9e3}(Pi:6e3):∀(xs:List PV),(∀x∈xs,∀ρ C,Pi ρ C->∃ρ1 ρ2 C2,g x ρ=some ρ1/\f ρ1 C=some (.nx ρ2,C2)/\Pi ρ2 C2)->∀ρ C,Pi ρ C->∃ρ' C',loop g f xs ρ C=some (.nx ρ',C')/\Pi ρ' C'
 | [],_,ρ,C,h=>⟨ρ,C,rfl,h⟩
 | x::xs,hs,ρ,C,h=>by
  obtain ⟨ρ1,ρ2,C2,e1,e2,h2⟩:=hs x 3e2 ρ C h
  obtain ⟨ρ',C',e3,h3⟩:=loop_inv Pi xs (fun y hy=>hs y (by simp[hy])) ρ2 C2 h2
  refine ⟨ρ',C',?_,h3⟩
  unfold loop
  simp only[e1,bnd,e2,e3]
noncomputable def spl (c:Nat):List Nat->List (List Nat)
 | []=>[[]]
 | x::r=>if x=c then []::spl c r else (x::(spl c r).headD [])::(spl c r).tail
theorem spl_ne (c:Nat):∀l,spl c l≠[]
 | []=>by simp[spl]
 | x::r=>by unfold spl;split<;>simp
theorem ht {l:List (List Nat)}(h:l≠[]):l.headD []::l.tail=l:=by cases l<;>simp_all
theorem ZbS {c:Nat}:∀{w:9e2},c∉w->spl c w=[w]
 | [],_=>rfl
 | x::r,h=>by
  simp only[Yg,not_or] at h
  unfold spl
  rw[if_neg (Xd h.1),ZbS h.2];rfl
theorem spl_app (c:Nat)(b:9e2):∀a,spl c (a++c::b)=spl c a++spl c b
 | []=>by simp[spl]
 | x::r=>by
  have e:=spl_app c b r
  have:=spl_ne c r
  show (if x=c then []::spl c (r++c::b) else (x::(spl c (r++c::b)).headD [])::(spl c (r++c::b)).tail)=(if x=c then []::spl c r else (x::(spl c r).headD [])::(spl c r).tail)++spl c b
  split
  ·rw[e];rfl
  ·rw[e]
   cases h:spl c r with
   | nil=>exact absurd h this
   | cons p q=>rfl
noncomputable def glue (c:Nat):List (List Nat)->List Nat
 | []=>[]
 | [p]=>p
 | p::q=>p++c::glue c q
theorem spl_glue {c:Nat}:∀{ps:List (List Nat)},ps≠[]->(∀p∈ps,c∉p)->spl c (glue c ps)=ps
 | [],h,_=>absurd rfl h
 | [p],_,h=>ZbS (h p 3e2)
 | p::q::r,_,h=>by
  show spl c (p++c::glue c (q::r))=_
  rw[spl_app,ZbS (h p 3e2),spl_glue 3e2 fun z hz=>h z (by simp[hz])];rfl
theorem ZbM (a b:Str):(a++b).cps=a.cps++b.cps:=rfl
theorem ZcG (c:Nat):∀ps:List Str,(Str.join 5e2 ps).cps.toList=glue c (ps.map (·.cps.toList))
 | []=>rfl
 | [p]=>rfl
 | p::q::r=>by
  rw[join_cons_cons,ZbM,ZbM,Xj,Xj,ZcG c (q::r)]
  show p.cps.toList++[c]++_=p.cps.toList++c::glue c ((q::r).map _)
  simp
theorem Zcp (c:Nat)(x:Str):(Txt.split x 5e2).map (·.cps.toList)=spl c x.cps.toList:=by
 have h1:=StrLaws.join_split x 5e2
 have h2:=StrLaws.split_free x c
 have h3:=split_pos x 5e2
 generalize Txt.split x 5e2=P at *
 rw[←h1,ZcG,spl_glue]
 ·intro e
  rw[List.map_eq_nil_iff] at e
  subst e;simp at h3
 ·intro p hp
  obtain ⟨q,hq,rfl⟩:=X4.mp hp
  exact h2 q hq
theorem str_ext {a b:Str}(h:a.cps.toList=b.cps.toList):a=b:=by
 cases a;cases b
 congr 1
 exact Array.toList_inj.mp h
theorem map_inj:∀{P R:3e1},P.map (·.cps.toList)=R.map (·.cps.toList)->P=R
 | [],[],_=>rfl
 | [],_::_,h=>by simp at h
 | _::_,[],h=>by simp at h
 | a::P,b::R,h=>by
  simp only[YM,List.cons.injEq] at h
  rw[str_ext h.1,map_inj h.2]
noncomputable def ne0 (x:Str):Bool:=decide (x.length≠0)
def wds (c:Nat)(l:9e2):List (List Nat):=(spl c l).filter fun p=>!p.isEmpty
theorem wds_app (c:Nat)(a b:9e2):wds c (a++c::b)=wds c a++wds c b:=by unfold wds;rw[spl_app,List.filter_append]
theorem wds_nil (c:Nat):wds c []=[]:=rfl
theorem wds_one {c:Nat}{w:9e2}(h:c∉w)(hw:w≠[]):wds c w=[w]:=by
 unfold wds;rw[ZbS h];simp[hw]
theorem Zb4 (c:Nat)(l:9e2):∀k,wds c (YJ k c++l)=wds c l
 | 0=>rfl
 | k + 1=>by
  have:=wds_app c [] (YJ k c++l)
  rw[Wb,List.cons_append]
  rw[X2,wds_nil,X2] at this
  rw[this,Zb4 c l k]
theorem wds_end (c:Nat)(l:9e2):∀k,wds c (l++YJ k c)=wds c l
 | 0=>by simp
 | k + 1=>by
  rw[Wb,wds_app]
  have:=Zb4 c [] k
  rw[Yq] at this
  rw[this,wds_nil,Yq]
theorem filter_words (x:Str)(c:Nat)(ps:3e1)(h:wds c x.cps.toList=ps.map (·.cps.toList)):(Txt.split x 5e2).filter ne0=ps:=by
 apply map_inj
 rw[←h]
 unfold wds
 rw[←Zcp,List.filter_map]
 congr 1
 apply List.filter_congr
 intro p hp
 unfold ne0
 show decide (p.cps.size≠0)=!p.cps.toList.isEmpty
 rw[←YY]
 cases p.cps.toList<;>simp
theorem dig_head (m:Nat)(h0:m≠0):∃c r,Nat.toDigits 10 m=c::r/\c≠'0':=by
 rcases Y4 m 10 with h | h
 ·have first:∀k:Fin 10,k.1≠0->Nat.digitChar k.1≠'0':=by decide
  exact ⟨_,[],Nat.toDigits_of_lt_base h,first ⟨m,h⟩ h0⟩
 ·obtain ⟨c,r,e,hc⟩:=dig_head (m / 10) 4e0
  have last:=Nat.toDigits_append_toDigits (b:=10) (n:=m / 10) (d:=m % 10) 2e6 4e0 4e0
  rw[Nat.div_add_mod,e] at last
  exact ⟨c,_,last.symm,hc⟩
termination_by m
decreasing_by lia
def figs (z:Str):Prop:=∀c∈z.cps.toList,48<=c/\c<=57
theorem num_figs {n:Int}(h0:0<=n):figs (numS n):=by
 obtain ⟨m,rfl⟩:∃m:Nat,n=m:=⟨n.toNat,by lia⟩
 intro c hc
 rw[numS,V7,X4] at hc
 obtain ⟨ch,hch,rfl⟩:=hc
 exact digit_range (Nat.isDigit_of_mem_toDigits 2e6 2e6 hch)
theorem num_len {n:Int}(h0:0<=n)(h1:n < 10 ^ 30):(numS n).length<=30:=by
 obtain ⟨m,rfl⟩:=Int.eq_ofNat_of_zero_le h0
 show (numS (m:Int)).cps.size<=30
 unfold numS
 rw[←YY,V7,YX]
 exact toDigits_len_pow 2e6 2e6 4e0
theorem num_ne {n:Int}(h0:0<=n):(numS n).cps.toList≠[]:=by
 obtain ⟨m,rfl⟩:∃m:Nat,n=m:=⟨n.toNat,by lia⟩
 rw[numS,V7]
 by_cases z:m=0
 ·subst z;decide
 ·obtain ⟨c,r,q,_⟩:=dig_head m z
  rw[q];exact fun e=>nomatch e
noncomputable def FG:Str:="0123456789"
theorem Zdc (C:Cs):F_qbv [.v 13e9] C=some (.v .non,C):=by simp![F_qbv]
theorem Zbl (L:List PV)(d:Int)(h1:0<=d)(h2:d < L.length):∃p∈L,ixQ (.lst L) (.int d)=some p:=by
 have hd:d.toNat < L.length:=by lia
 refine ⟨L[d.toNat],We hd,?_⟩
 simp[ixQ,ixP,atI,ixN,h1,h2,Ye hd]
theorem Zdb (k:Nat)(C:Cs)(g:GS C k):∃n C',F_qas [.c k] C=some (.v (.int n),C')/\0<=n/\n < 10 ^ 30/\Adv k C C':=by
 obtain ⟨d,C1,e1,h1,h2,a1⟩:=ZaK k 4 C g 2e6
 obtain ⟨p,hp,e2⟩:=Zbl [.int 9,.int 100,.int 1000000000000000000000000000,.int 10000000000000000000000000000] d h1 (by simpa using h2)
 obtain ⟨m,rfl,hm1,hm2⟩:∃m:Int,p=.int m/\9<=m/\m<=1000000000000000000000000000000:=by
  simp only[Yg,Yr,or_false] at hp
  rcases hp with rfl | rfl | rfl | rfl<;>exact ⟨_,rfl,by decide,by decide⟩
 obtain ⟨a,C2,e3,h3,h4,a2⟩:=ZaK k m C1 a1.gs 4e0
 obtain ⟨b,C3,e4,h5,h6,a3⟩:=ZaK k 3 C2 a2.gs 2e6
 obtain ⟨c,C4,e5,h7,h8,a4⟩:=ZaK k 2 C3 a3.gs 2e6
 obtain ⟨q,hq,e6⟩:=Zbl [.int a,.int (m - 1 - b)] c h7 (by simpa using h8)
 have a5:=((a1.trans a2).trans a3).trans a4
 obtain ⟨n,rfl,hn⟩:∃n:Int,q=.int n/\0<=n/\n < 10 ^ 30:=by
  simp only[Yg,Yr,or_false] at hq
  rcases hq with rfl | rfl
  ·exact ⟨_,rfl,by lia,by lia⟩
  ·exact ⟨_,rfl,by lia,by lia⟩
 refine ⟨n,C4,?_,hn.1,hn.2,a5⟩
 simp![F_qas,e1,e2,e3,e4,e5,e6,a5.take]
theorem az_in (d:Int)(h1:0<=d)(h2:d < 26):∃c,ixQ 7e7 (.int d)=some (.str 5e2)/\AZ.cps.contains c=true:=by
 have hl:("abcdefghijklmnopqrstuvwxyz":Str).cps.toList.length=26:=by rfl
 have hd:d.toNat < ("abcdefghijklmnopqrstuvwxyz":Str).cps.toList.length:=by lia
 have h3:d < (("abcdefghijklmnopqrstuvwxyz":Str).cps.toList.length:Int):=by lia
 refine ⟨("abcdefghijklmnopqrstuvwxyz":Str).cps.toList[d.toNat],?_,?_⟩
 ·show (atI ("abcdefghijklmnopqrstuvwxyz":Str).cps.toList d).map _=_
  unfold atI ixN
  rw[if_pos h1,if_pos h3]
  show ((("abcdefghijklmnopqrstuvwxyz":Str).cps.toList[d.toNat]?).map _)=_
  rw[Ye hd]
  rfl
 ·rw[←AZ_contains]
  exact W7.mpr (We hd)
noncomputable def one (c:Nat):Str:=5e2
theorem ones:∀{zs:List PV},(∀p∈zs,∃c,p=.str 5e2/\AZ.cps.contains c=true)->∃cs:List Nat,zs=cs.map (fun c=>.str (one c))/\∀c∈cs,AZ.cps.contains c=true
 | [],_=>⟨[],rfl,by simp⟩
 | p::zs,h=>by
  obtain ⟨c,rfl,hc⟩:=h p 3e2
  obtain ⟨cs,rfl,hs⟩:=ones (zs:=zs) fun q hq=>h q (Yw _ hq)
  exact ⟨c::cs,rfl,fun z hz=>(Yg.mp hz).elim (fun e=>e ▸ hc) (hs z)⟩
noncomputable def stem (a b c d:Nat):Str:=⟨[a,b,c,d].toArray⟩
def wdIx:PSt->M SV:=mOp 5e6 5e0 (mFn F_qau (aCons 5e8 (aCons (mC (.int 26)) aNil)))
def wdRg:PSt->M 6e1:=mRange1 (aCons (mC (.int 4)) aNil)
def wdCo:PSt->M 6e1:=mComp wdRg ["_law_k"] [1,0] 14e1 tOk wdIx
theorem stem_adv (k:Nat)(C:Cs)(g:GS C k)(x2 x3 x4:Option SV):∃a b c d C',wdCo [7e3,7e5,x2,x3,x4] C=some ([.str (one a),.str (one b),.str (one c),.str (one d)],C')/\(∀z∈[a,b,c,d],AZ.cps.contains z=true)/\Adv k C C':=by
 obtain ⟨zs,C',e,hl,hz,a⟩:=comp_adv (te:=wdIx) (Pp:=fun p=>∃c,p=.str 5e2/\AZ.cps.contains c=true) [.int 0,.int 1,.int 2,.int 3] [none,7e5,7e3] [] C g (fun x C g=>by
  obtain ⟨d,C1,e1,h1,h2,a1⟩:=ZaK k 26 C g 2e6
  obtain ⟨c,e2,hc⟩:=az_in d h1 h2
  refine ⟨_,C1,?_,⟨c,rfl,hc⟩,a1⟩
  simp![wdIx,e1,e2,a1.take])
 obtain ⟨cs,rfl,hcs⟩:=ones hz
 have hr:wdRg [7e3,7e5,x2,x3,x4] C=some ([.int 0,.int 1,.int 2,.int 3],C):=by rfl
 match cs,hl with
 | [a1,a2,a3,a4],_=>
  refine ⟨a1,a2,a3,a4,C',?_,hcs,a⟩
  simp at e
  simp[wdCo,mComp,bnd,hr,stIn',Pu.ret,e]
theorem strs_ones (a b c d:Nat):joinH (.str "") [.lst [.str (one a),.str (one b),.str (one c),.str (one d)]]=some (.str (stem a b c d)):=by
 rfl
theorem stem_mul (a b c d:Nat):mulTP (.str (stem a b c d)) (.int 3)=some (.str ⟨[a,b,c,d,a,b,c,d,a,b,c,d].toArray⟩):=by
 rfl
theorem cut_word (a b c d:Nat)(s:Int)(h1:1<=s)(h2:s<=12)(h:∀z∈[a,b,c,d],AZ.cps.contains z=true):∃w,Txt.slice ⟨[a,b,c,d,a,b,c,d,a,b,c,d].toArray⟩ none (some s)=w/\wordB w=true:=by
 refine ⟨_,rfl,?_⟩
 have e:=slice_closes_toL (x:=⟨[a,b,c,d,a,b,c,d,a,b,c,d].toArray⟩) (j:=s) 4e0 (show s<=((12:Nat):Int) by lia)
 rw[eq_of_beq e]
 simp only[Yg,Yr,or_false,forall_eq_or_imp,forall_eq] at h
 unfold wordB
 have hl:(⟨((V8 (0:Int).toNat [a,b,c,d,a,b,c,d,a,b,c,d]).take (s - 0).toNat).toArray⟩:Str).length=s.toNat:=by
  show Array.size (List.toArray _)=_
  simp;lia
 have ha:(((V8 (0:Int).toNat [a,b,c,d,a,b,c,d,a,b,c,d]).take (s - 0).toNat)).all AZ.cps.contains=true:=by
  rw[YV]
  intro x hx
  have:=Wt (Wu hx)
  simp only[Yg,Yr,or_false] at this
  obtain ⟨p,q,r,t⟩:=h
  rcases this with rfl | rfl | rfl | rfl | rfl | rfl | rfl | rfl | rfl | rfl | rfl | rfl<;>assumption
 show (decide (1<=(((⟨((V8 (0:Int).toNat [a,b,c,d,a,b,c,d,a,b,c,d]).take (s - 0).toNat).toArray⟩:Str).length:Nat):Int))&&decide ((((⟨((V8 (0:Int).toNat [a,b,c,d,a,b,c,d,a,b,c,d]).take (s - 0).toNat).toArray⟩:Str).length:Nat):Int)<=12)&&_)=true
 rw[hl,show (⟨((V8 (0:Int).toNat [a,b,c,d,a,b,c,d,a,b,c,d]).take (s - 0).toNat).toArray⟩:Str).cps.toList=(V8 (0:Int).toNat [a,b,c,d,a,b,c,d,a,b,c,d]).take (s - 0).toNat from rfl,ha]
 simp;lia
theorem Zaz {f g:9e3}{ρ ρ1:PSt}{C C1:Cs}(h:f ρ C=some (.nx ρ1,C1)):mSeq f g ρ C=g ρ1 C1:=by
 unfold mSeq bnd;rw[h]
noncomputable def KPT:List PV:=[.str "bell",.str "at",.str "got",.str "after",.str "to",.str "join",.str "say",.str "do",.str "free",.str "hand",.str "note",.str "held",.str "twin",.str "a"]
def w1:PSt->M PF:=mSet 1 (mC 7e7)
def w2:PSt->M PF:=mSet 2 (mVal (mLst (aCons (mC (.str "bell")) (aCons (mC (.str "at")) (aCons (mC (.str "got")) (aCons (mC (.str "after")) (aCons (mC (.str "to")) (aCons (mC (.str "join")) (aCons (mC (.str "say")) (aCons (mC (.str "do")) (aCons (mC (.str "free")) (aCons (mC (.str "hand")) (aCons (mC (.str "note")) (aCons (mC (.str "held")) (aCons (mC (.str "twin")) (aCons (mC (.str "a")) aNil))))))))))))))))
def w3:PSt->M PF:=mSet 3 (mOp 5e6 (mVal (mLst (aCons 3e8 (aCons 5e4 (aCons 9e0 (aCons (mC (.int 12)) (aCons (mOp 14e0 3e8 (mFn F_qau (aCons 2e0 (aCons (mC (.int 12)) aNil)))) aNil))))))) (mFn F_qau (aCons 2e0 (aCons (mC (.int 5)) aNil))))
def w4:PSt->M PF:=mSet 4 (mMt "str" joinH (mC (.str "")) (aCons (mVal wdCo) aNil))
def w5:PSt->M PF:=mRet (mOp 5e6 (mVal (mLst (aCons (mSliceS (mOp (g2 mulTP) 12e5 9e0) oNo (oPart 14e2)) (aCons (mOp 5e6 5e8 (mFn F_qau (aCons 2e0 (aCons (mC (.int 14)) aNil)))) aNil)))) (mCB (g1 intH) (aCons (mOp (g2 eqP) 7e0 6e6) aNil)))
theorem word_is:B_qbg=mSeq w1 (mSeq w2 (mSeq w3 (mSeq w4 w5))):=rfl
theorem kpt_ok:∀p∈KPT,∃w,p=.str w/\wordB w=true:=by
 have:KPT.all wordP=true:=by decide +kernel
 intro p hp
 have h:=YV.mp this p hp
 cases p<;>first | exact ⟨_,rfl,h⟩ | cases h
theorem word_adv (k:Nat)(C:Cs)(g:GS C k):∃w C',F_qbg [.c k] C=some (.v (.str w),C')/\wordB w=true/\Adv k C C':=by
 obtain ⟨d1,C1,e1,h1,h2,a1⟩:=ZaK k 12 C g 2e6
 obtain ⟨d2,C2,e2,h3,h4,a2⟩:=ZaK k 5 C1 a1.gs 2e6
 obtain ⟨p,hp,e3⟩:=Zbl [.int 1,.int 2,.int 3,.int 12,.int (1 + d1)] d2 h3 (by simpa using h4)
 obtain ⟨s,rfl,hs1,hs2⟩:∃s:Int,p=.int s/\1<=s/\s<=12:=by
  simp only[Yg,Yr,or_false] at hp
  rcases hp with rfl | rfl | rfl | rfl | rfl<;>exact ⟨_,rfl,by lia,by lia⟩
 obtain ⟨a,b,c,d,C3,e4,hz,a3⟩:=stem_adv k C2 a2.gs #[.lst KPT] #[.int s] none
 obtain ⟨d4,C4,e5,h5,h6,a4⟩:=ZaK k 14 C3 a3.gs 2e6
 obtain ⟨q,hq,e6⟩:=Zbl KPT d4 h5 (by simpa[KPT] using h6)
 obtain ⟨v,rfl,hv⟩:=kpt_ok q hq
 obtain ⟨d5,C5,e7,h7,h8,a5⟩:=ZaK k 4 C4 a4.gs 2e6
 obtain ⟨u,e8,hu⟩:=cut_word a b c d s hs1 hs2 hz
 have at1:=((((a1.trans a2).trans a3).trans a4).trans a5)
 have s2:w2 [7e3,7e5,none,none,none] C=some (.nx [7e3,7e5,#[.lst KPT],none,none],C):=by rfl
 have s3:w3 [7e3,7e5,#[.lst KPT],none,none] C=some (.nx [7e3,7e5,#[.lst KPT],#[.int s],none],C2):=by
  generalize KPT=KK at *
  simp![w3,addP,e1,e2,e3,a1.take,a2.take]
 have hj:=strs_ones a b c d
 have s4:w4 [7e3,7e5,#[.lst KPT],#[.int s],none] C2=some (.nx [7e3,7e5,#[.lst KPT],#[.int s],#[.str (stem a b c d)]],C3):=by
  generalize KPT=KK at *
  generalize stem a b c d=ST at *
  simp![w4,e4,hj]
 have hm:=stem_mul a b c d
 obtain ⟨z,hz1,hz2⟩:∃z,ixQ (.lst [.str u,.str v]) (.int (if d5=0 then 1 else 0))=some (.str z)/\wordB z=true:=by
  split
  ·exact ⟨v,rfl,hv⟩
  ·exact ⟨u,rfl,hu⟩
 refine ⟨z,C5,?_,hz2,at1⟩
 have s5:w5 [7e3,7e5,#[.lst KPT],#[.int s],#[.str (stem a b c d)]] C3=some (.rt (.v (.str z)),C5):=by
  generalize KPT=KK at *
  generalize stem a b c d=ST at *
  generalize (⟨[a,b,c,d,a,b,c,d,a,b,c,d].toArray⟩:Str)=SM at *
  simp![w5,mSliceS,sliceSD,hm,e8,e5,e6,e7,a4.take,a5.take,intH,hz1]
 unfold F_qbg
 rw[word_is]
 have run:mSeq w1 (mSeq w2 (mSeq w3 (mSeq w4 w5))) [7e3,none,none,none,none] C=some (.rt (.v (.str z)),C5):=by
  rw[Zaz (show w1 [7e3,none,none,none,none] C=some (.nx [7e3,7e5,none,none,none],C) from rfl),Zaz s2,Zaz s3,Zaz s4,s5]
 generalize mSeq w1 (mSeq w2 (mSeq w3 (mSeq w4 w5)))=bl at *
 simp![run,at1.take]
structure Nm where
 h:Str
 d:Str
 n:Int
noncomputable def Nm.P (x:Nm):PV:=.tup [.str x.h,.str x.d,.int x.n]
structure Nm.Ok (x:Nm):Prop where
 h:wordB x.h=true
 d:wordB x.d=true
 n0:1<=x.n
 n1:x.n < 10 ^ 30
theorem name_adv (k:Nat)(C:Cs)(g:GS C k):∃(x:Nm) (C':Cs),F_qam [.c k] C=some (.v x.P,C')/\x.Ok/\Adv k C C':=by
 obtain ⟨h,C1,e1,h1,a1⟩:=word_adv k C g
 obtain ⟨d,C2,e2,h2,a2⟩:=word_adv k C1 a1.gs
 obtain ⟨n,C3,e3,h3,h4,a3⟩:=Zdb k C2 a2.gs
 have at1:=(a1.trans a2).trans a3
 refine ⟨⟨h,d,1 + n % 999999999999999999999999999999⟩,C3,?_,⟨h1,h2,?_,?_⟩,at1⟩
 ·simp![F_qam,addP,e1,e2,e3,a1.take,a2.take,a3.take,at1.take,Nm.P]
 ·have:=X3 n (show (999999999999999999999999999999:Int)≠0 by decide)
  show 1<=1 + n % _
  lia
 ·have:=XN n (show (0:Int) < 999999999999999999999999999999 by decide)
  show 1 + n % _ < _
  lia
inductive Pt where
 | st (k:Str) | nm (x:Nm) | num (n:Int)
def Nm.T (x:Nm):Str:=Str.join ⟨(List.toArray [46])⟩ [x.h,x.d,numS x.n]
def Pt.P:Pt->PV
 | .st k=>.str k
 | .nm x=>x.P
 | .num n=>.int n
def Pt.T:Pt->Str
 | .st k=>k
 | .nm x=>x.T
 | .num n=>numS n
def Pt.Ok:Pt->Prop
 | .st k=>wordB k=true
 | .nm x=>x.Ok
 | .num n=>0<=n/\n < 10 ^ 30
theorem log_ok {n:Int}(h0:0<=n)(h1:n < 10 ^ 30):n.natAbs.log2 < 1920:=by
 by_cases h:n.natAbs=0
 ·rw[h];decide
 ·refine Ym ((Nat.log2_lt h).mpr (show n.natAbs < 2 ^ 100 by lia)) 2e6
theorem join_eq (z:Str)(ys:3e1):Txt.join z ys=Str.join z ys:=by
 cases ys with
 | nil=>rfl
 | cons a r=>exact StrLaws.glued_cons z r a
theorem strs_map:∀ys:List Str,strsP (ys.map .str)=some ys
 | []=>rfl
 | a::r=>by simp[strsP,strs_map r]
theorem joinH_eq (z:Str)(ys:3e1)(h:(ys.map (·.length)).sum + ys.length * z.length<=1000000):joinH (.str z) [.lst (ys.map .str)]=some (.str (Str.join z ys)):=by
 unfold joinH
 simp only[strs_map,if_pos h,join_eq]
theorem az_range {c:Nat}(h:AZ.cps.contains c=true):97<=c/\c<=122:=by
 have:AZ.cps.all (fun c=>decide (97<=c/\c<=122))=true:=by decide +kernel
 rw[Array.all_eq_true_iff_forall_mem] at this
 have:=this c (by simpa using h)
 simpa using this
theorem word_az {w:Str}(h:wordB w=true):∀c∈w.cps.toList,97<=c/\c<=122:=by
 unfold wordB at h
 simp only[YG] at h
 intro c hc
 exact az_range (YV.mp h.2 c hc)
theorem ZbN {w:Str}(h:wordB w=true):1<=w.length/\w.length<=12:=by
 unfold wordB at h
 simp only[YG,decide_eq_true_eq] at h
 lia
theorem name_parts {x:Nm}(h:x.Ok):∀p∈[x.h,x.d,numS x.n],(∀c∈p.cps.toList,c≠46/\c≠32):=by
 intro p hp
 simp only[Yg,Yr,or_false] at hp
 intro c hc
 rcases hp with rfl | rfl | rfl
 ·have:=word_az h.h c hc;lia
 ·have:=word_az h.d c hc;lia
 ·have:=num_figs (n:=x.n) (by have:=h.n0;lia) c hc;lia
theorem name_list {x:Nm}:x.T.cps.toList=x.h.cps.toList++46::(x.d.cps.toList++46::(numS x.n).cps.toList):=by
 unfold Nm.T
 rw[ZcG];rfl
theorem Zbb (w:Str):w.length=w.cps.toList.length:=by rw[YY];rfl
theorem pt_len {p:Pt}(h:p.Ok):1<=p.T.length/\p.T.length<=56:=by
 cases p with
 | st k=>have:=ZbN h;exact ⟨this.1,by show k.length<=56;lia⟩
 | nm x=>
  have h1:=ZbN h.h
  have h2:=ZbN h.d
  have h3:=num_len (n:=x.n) (by have:=h.n0;lia) h.n1
  show 1<=x.T.length/\x.T.length<=56
  rw[Zbb] at h1 h2 h3 ⊢
  rw[name_list]
  simp only[Y3,YD]
  lia
 | num n=>
  have h1:=num_len h.1 h.2
  have h2:=num_ne h.1
  show 1<=(numS n).length/\(numS n).length<=56
  rw[Zbb] at h1 ⊢
  cases e:(numS n).cps.toList with
  | nil=>exact absurd e h2
  | cons a r=>rw[e] at h1;simp at h1 ⊢;lia
theorem pt_free {p:Pt}(h:p.Ok):32∉p.T.cps.toList:=by
 intro hc
 cases p with
 | st k=>have:=word_az h 32 hc;lia
 | nm x=>
  change 32∈x.T.cps.toList at hc
  rw[name_list] at hc
  simp only[YE,Yg] at hc
  have k:=name_parts h
  rcases hc with hc | hc | hc | hc | hc
  ·exact (k x.h 3e2 32 hc).2 rfl
  ·cases hc
  ·exact (k x.d 3e2 32 hc).2 rfl
  ·cases hc
  ·exact (k (numS x.n) 3e2 32 hc).2 rfl
 | num n=>have:=num_figs h.1 32 hc;lia
theorem name_text_eq {x:Nm}(h:x.Ok)(C:Cs):F_qao [.v x.P] C=some (.v (.str x.T),C):=by
 have hl:=log_ok (n:=x.n) (by have:=h.n0;lia) h.n1
 have h1:=ZbN h.h
 have h2:=ZbN h.d
 have h3:=num_len (n:=x.n) (by have:=h.n0;lia) h.n1
 have e:=joinH_eq ⟨(List.toArray [46])⟩ [x.h,x.d,numS x.n] (by simp[Str.length] at *;lia)
 simp only[YM,X5] at e
 have e':joinH (.str ".") [.lst [.str x.h,.str x.d,.str (numS x.n)]]=some (.str x.T):=e
 simp![F_qao,Nm.P,mComp,mItems,itemsP,stIn',compL,hName,tOk,strH,hl,e']
structure Its (l:List Pt):Prop where
 ok:∀p∈l,p.Ok
 n:l.length<=4
 ne:l≠[]
def wordsOf (l:List Pt):List Str:=l.map Pt.T
def claimP (l:List Pt):PV:=.tup (l.map Pt.P)
def cwB:PSt->M PF:=mIfS (mTru (mCB (g1 isiH) (aCons 5e8 (aCons (mC (.ty "tuple")) aNil)))) (mDrop (mApp 5e0 (aCons (mFn F_qao (aCons 5e8 aNil)) aNil))) (mDrop (mApp 5e0 (aCons (mCB (g1 strH) (aCons 5e8 aNil)) aNil)))
def cwI:PSt->M 6e1:=mItems (mSlice 2e0 (oPart 3e8) oNo)
theorem cw_is:B_qai=mSeq (mNew 1 (mLst (aCons 2e5 aNil))) (mSeq (mFor cwI (hName 2) cwB) (mRet 5e0)):=rfl
theorem cw_step {p:Pt}(h:p.Ok)(c:PV)(C:Cs)(ys:List PV)(hy:ys.length<=100):cwB [#[c],4e4,#[p.P]] (C++[.lst ys])=some (.nx [#[c],4e4,#[p.P]],C++[.lst (ys++[.str p.T])]):=by
 have hy2:ys.length < 100000:=by lia
 cases p with
 | st k=>simp![cwB,Pt.P,Pt.T,strH,mApp,isLst,appC,hy2]
 | num n=>
  have hl:=log_ok h.1 h.2
  simp![cwB,Pt.P,Pt.T,strH,mApp,isLst,appC,hy2,hl]
 | nm x=>
  have e:=name_text_eq h (C++[.lst ys])
  unfold Nm.P at e
  simp![cwB,Pt.P,Pt.T,Nm.P,strH,mApp,isLst,appC,hy2,e]
theorem cw_loop (c:PV)(C:Cs):∀(ps:List Pt) (ys:List PV) (x2:Option SV),(∀p∈ps,p.Ok)->ys.length + ps.length<=100->∃x2',loop (hName 2) cwB (ps.map Pt.P) [#[c],4e4,x2] (C++[.lst ys])=some (.nx [#[c],4e4,x2'],C++[.lst (ys++(wordsOf ps).map .str)])
 | [],ys,x2,_,_=>⟨x2,by simp[loop,wordsOf,Pu.ret]⟩
 | p::ps,ys,x2,h,hl=>by
  simp only[YD] at hl
  have e:=cw_step (h p 3e2) c C ys 4e0
  obtain ⟨x2',e2⟩:=cw_loop c C ps (ys++[.str p.T]) #[p.P] (fun q hq=>h q (by simp[hq])) (by simp;lia)
  refine ⟨x2',?_⟩
  simp[loop,hName,bnd,e,e2,wordsOf]
theorem Zc0 {k:Str}{ps:List Pt}(h:Its (.st k::ps))(C:Cs):FF_qai [.v (claimP (.st k::ps))] C=some ((wordsOf (.st k::ps)).map .str,C):=by
 have hn:=h.n
 simp only[YD] at hn
 obtain ⟨x2',e⟩:=cw_loop (claimP (.st k::ps)) C ps [.str k] none (fun q hq=>h.ok q (by simp[hq])) (by simp;lia)
 have hc:cutP (.str k::ps.map Pt.P) (some 1) none=ps.map Pt.P:=by
  simp[cutP,HT.sIx]
  exact Xw 3e2
 have hI:cwI [#[claimP (.st k::ps)],4e4,none] (C++[.lst [.str k]])=some (ps.map Pt.P,C++[.lst [.str k]]):=by
  simp![cwI,mItems,claimP,mSlice,itemsP,hc,Pt.P]
 have s1:mNew 1 (mLst (aCons 2e5 aNil)) [#[claimP (.st k::ps)],none,none] C=some (.nx [#[claimP (.st k::ps)],4e4,none],C++[.lst [.str k]]):=by
  simp![mNew,claimP,ixQ,ixP,atI,ixN,Pt.P]
 have s2:mFor cwI (hName 2) cwB [#[claimP (.st k::ps)],4e4,none] (C++[.lst [.str k]])=some (.nx [#[claimP (.st k::ps)],4e4,x2'],C++[.lst ((wordsOf (.st k::ps)).map .str)]):=by
  unfold mFor bnd
  rw[hI];exact e
 have run:B_qai [#[claimP (.st k::ps)],none,none] C=some (.rt (.c C.length),C++[.lst ((wordsOf (.st k::ps)).map .str)]):=by
  rw[cw_is,Zaz s1,Zaz s2];rfl
 unfold FF_qai
 generalize B_qai=bl at *
 generalize claimP (.st k::ps)=cl at *
 generalize (wordsOf (.st k::ps)).map PV.str=ws at *
 simp[mDefG,run]
def digB (z:Str):Bool:=z.cps.toList.all FG.cps.toList.contains
def figB (z:Str):Bool:=decide (z="0")||(decide (z≠"")&&decide (z.cps.toList.head?≠some 48)&&digB z)
theorem fg_dig {z:Str}(h:digB z=true):PySem.NumText.AllDigits z.cps.toList:=by
 intro c hc
 have h1:=YV.mp h c hc
 have h2:FG.cps.toList.all (fun c=>decide (48<=c/\c<=57))=true:=by decide +kernel
 have:=YV.mp h2 c (by simpa using h1)
 simpa using this
noncomputable def numV (z:Str):Int:=((PySem.NumText.digitsVal z.cps.toList:Nat):Int)
theorem dv_lt:∀(cs:9e2) (a:Nat),PySem.NumText.AllDigits cs->cs.foldl (fun acc c=>acc * 10 + (c - 48)) a < (a + 1) * 10 ^ cs.length
 | [],a,_=>by simp
 | c::cs,a,h=>by
  have h1:=h.head
  have:=dv_lt cs (a * 10 + (c - 48)) h.tail
  simp only[List.foldl_cons,YD,Nat.pow_succ]
  refine Ym this ?_
  have:a * 10 + (c - 48) + 1<=(a + 1) * 10:=by lia
  calc _<=(a + 1) * 10 * 10 ^ cs.length:=Nat.mul_le_mul_right _ this
   _=_:=by rw[Nat.mul_assoc,Nat.mul_comm 10]
theorem num_lt {z:Str}(h:digB z=true)(hl:z.length<=60):0<=numV z/\numV z < 10 ^ 60:=by
 have h1:=dv_lt z.cps.toList 0 (fg_dig h)
 rw[←Zbb] at h1
 have h2:10 ^ z.length<=10 ^ 60:=Nat.pow_le_pow_right 2e6 hl
 unfold numV PySem.NumText.digitsVal
 refine ⟨Int.natCast_nonneg _,?_⟩
 have h3:(z.cps.toList.foldl (fun acc c=>acc * 10 + (c - 48)) 0) < 10 ^ 60:=by lia
 exact_mod_cast h3
theorem ZcN {z:Str}(h:figB z=true):digB z=true/\z.cps.toList≠[]:=by
 unfold figB at h
 simp only[V5,YG,decide_eq_true_eq] at h
 rcases h with rfl | ⟨⟨h1,_⟩,h2⟩
 ·decide +kernel
 ·refine ⟨h2,fun e=>h1 ?_⟩
  exact str_ext (by rw[e];rfl)
theorem int_of {z:Str}(h:figB z=true)(hl:z.length<=60):intTH [.str z]=some (.int (numV z)):=by
 obtain ⟨h1,h2⟩:=ZcN h
 unfold intTH
 dsimp only
 have l1:z.length<=640:=Yv hl 2e6
 have l2:z.length<=4300:=Yv hl 2e6
 rw[if_pos l1,intText_digits (fg_dig h1) h2 l2]
 rfl
theorem dig_key (z:Str)(C:Cs):compL 14e1 tOk (mOp (g2 inP) 2e0 (mC (.str "0123456789"))) (z.cps.toList.map fun c=>.str 5e2) [none] [] C=some (z.cps.toList.map fun c=>PV.bl (FG.cps.toList.contains c),C):=by
 have:=Zco (te:=mOp (g2 inP) 2e0 (mC (.str "0123456789"))) (f:=fun p=>match p with | .str y=>.bl (strIn y FG) | _=>.non) (z.cps.toList.map fun c=>.str ⟨(List.toArray [c])⟩) [none] [] C (fun x hx=>by
  obtain ⟨c,_,rfl⟩:=X4.mp hx
  simp[mOp,bnd,mVar,mC,opM,g2,deref,inP,inB,FG])
 rw[this,X2,W6]
 congr 3
 funext c
 simp only[Function.comp,ZbP]
theorem az_key (z:Str)(C:Cs):compL 14e1 tOk (mOp (g2 inP) 2e0 (mC 7e7)) (z.cps.toList.map fun c=>.str 5e2) [none] [] C=some (z.cps.toList.map fun c=>PV.bl (AZ.cps.contains c),C):=by
 have:=Zco (te:=mOp (g2 inP) 2e0 (mC 7e7)) (f:=fun p=>match p with | .str y=>.bl (strIn y AZ) | _=>.non) (z.cps.toList.map fun c=>.str ⟨(List.toArray [c])⟩) [none] [] C (fun x hx=>by
  obtain ⟨c,_,rfl⟩:=X4.mp hx
  simp[mOp,bnd,mVar,mC,opM,g2,deref,inP,inB,AZ])
 rw[this,X2,W6]
 congr 3
 funext c
 simp only[Function.comp,ZbP]
 rw[AZ_contains]
theorem head_ix {z:Str}(h:z≠""):∃c,ixQ (.str z) (.int 0)=some (.str 5e2)/\(z.cps.toList.head? = some 48↔(5e2:Str)="0"):=by
 cases e:z.cps.toList with
 | nil=>exact absurd (str_ext (by rw[e];rfl)) h
 | cons c r=>
  refine ⟨c,?_,?_⟩
  case refine_2=>
   have h48:("0":Str)=⟨(List.toArray [48])⟩:=by decide +kernel
   rw[h48]
   simp
  have hp:(0:Int) < (z.cps.toList.length:Int):=by rw[e];simp
  show (atI z.cps.toList 0).map _=_
  unfold atI ixN
  rw[if_pos 2e6,if_pos hp,e]
  rfl
theorem ZcW {α:Type}(l:List α)(g:α->Bool):allH [.lst (l.map fun c=>PV.bl (g c))]=some (.bl (l.all g)):=by
 unfold allH
 simp[ZcV,List.all_map]
theorem ZcM (z:Str)(hl:z.length<=1000)(C:Cs):F_qbk [.v (.str z)] C=some (.v (.bl (figB z)),C):=by
 by_cases hz0:z="0"
 ·subst hz0
  simp![F_qbk,figB]
 ·by_cases h1:z=""
  ·subst h1
   simp![F_qbk,figB,hz0]
  ·obtain ⟨c,h2,hh⟩:=head_ix h1
   have hs:z.cps.size<=100000:=by
    have:z.cps.size=z.length:=rfl
    lia
   have key:=dig_key z C
   have ha:=ZcW z.cps.toList FG.cps.toList.contains
   have hf:figB z=(!decide ((5e2:Str)="0")&&digB z):=by simp[figB,hz0,h1,hh]
   rw[hf]
   unfold F_qbk B_qbk digB
   generalize mOp (g2 inP) 2e0 (mC (.str "0123456789"))=te at *
   generalize z.cps.toList.all FG.cps.toList.contains=bb at *
   generalize (z.cps.toList.map fun c=>PV.bl (FG.cps.toList.contains c))=BL at *
   by_cases h3:(5e2:Str)="0"
   ·simp![hz0,h1,h2,h3]
   ·simp![hz0,h1,h2,h3,mComp,mItems,itemsP,stIn',hs,key,ha]
theorem need_f (C:Cs):F_qbv [.v 10e7] C=none:=by simp![F_qbv,mNo]
theorem needR (C:Cs):R_need [.v 10e7] C:=by
 refine ⟨rfl,?_,trivial⟩
 simp![]
theorem Zbr (z:Str)(hl:z.length<=60)(C:Cs):F_qby [.v (.str z)] C=if figB z=true then some (.v (.int (numV z)),C) else none:=by
 have e:=ZcM z 4e0 C
 by_cases h:figB z=true
 ·have e2:=int_of h hl
  rw[if_pos h]
  rw[h] at e
  simp![F_qby,e,Zdc,e2]
 ·have h':figB z=false:=by simpa using h
  rw[if_neg h]
  rw[h'] at e
  simp![F_qby,e,need_f]
theorem Zcb {z:Str}(hl:z.length<=60)(h:figB z=false)(C:Cs):R_read_number [.v (.str z)] C:=by
 have e:=ZcM z 4e0 C
 rw[h] at e
 refine ⟨rfl,[.v 10e7],?_,needR C⟩
 simp![e]
theorem called_eq (z:Str)(hl:z.length<=1000)(C:Cs):F_qaa [.v (.str z)] C=some (.v (.bl (wordB z)),C):=by
 have hs:z.cps.size<=100000:=by
  have:z.cps.size=z.length:=rfl
  lia
 have key:=az_key z C
 have ha:=ZcW z.cps.toList AZ.cps.contains
 have hw:wordB z=(decide (0 < (z.length:Int))&&decide ((z.length:Int) < 13)&&z.cps.toList.all AZ.cps.contains):=by
  unfold wordB
  have e1:decide (1<=(z.length:Int))=decide (0 < (z.length:Int)):=by simp only[decide_eq_decide];lia
  have e2:decide ((z.length:Int)<=12)=decide ((z.length:Int) < 13):=by simp only[decide_eq_decide];lia
  rw[e1,e2]
 rw[hw]
 unfold F_qaa B_qaa
 generalize mOp (g2 inP) 2e0 (mC 7e7)=te at *
 generalize z.cps.toList.all AZ.cps.contains=bb at *
 generalize (z.cps.toList.map fun c=>PV.bl (AZ.cps.contains c))=BL at *
 by_cases h1:0 < z.length
 ·by_cases h2:(z.length:Int) < 13
  ·simp![ltP,h1,h2,mComp,mItems,itemsP,stIn',hs,key,ha]
  ·simp![ltP,h1,h2]
 ·simp![ltP,h1]
def wholeV (z:Str)(lo hi:Int):PV:=if figB z=true/\lo<=numV z/\numV z<=hi then .int (numV z) else .non
theorem whole_eq (z:Str)(hl:z.length<=60)(lo hi:Int)(C:Cs):F_qbe [.v (.str z),.v (.int lo),.v (.int hi)] C=some (.v (wholeV z lo hi),C):=by
 have hs:z.cps.size<=100000:=by
  have:z.cps.size=z.length:=rfl
  lia
 by_cases h1:z=""
 ·subst h1
  have:figB ""=false:=by decide +kernel
  simp![F_qbe,wholeV,this]
 ·have key:=dig_key z C
  have ha:=ZcW z.cps.toList FG.cps.toList.contains
  obtain ⟨c,h2,hh⟩:=head_ix h1
  by_cases hd:digB z=true
  ·by_cases hb:z≠"0"/\(5e2:Str)="0"
   ·have hf:figB z=false:=by simp[figB,hb.1,hh,hb.2]
    have hv:wholeV z lo hi=.non:=by simp[wholeV,hf]
    rw[hv]
    obtain ⟨hb1,hb2⟩:=hb
    unfold digB at hd
    rw[hd] at ha
    unfold F_qbe B_qbe
    generalize mOp (g2 inP) 2e0 (mC (.str "0123456789"))=te at *
    generalize (z.cps.toList.map fun c=>PV.bl (FG.cps.toList.contains c))=BL at *
    simp![h1,h2,hb1,hb2,mComp,mItems,itemsP,stIn',hs,key,ha]
   ·have hf:figB z=true:=by
     by_cases q:z="0"
     ·simp[figB,q]
     ·have:(5e2:Str)≠"0":=fun w=>hb ⟨q,w⟩
      simp[figB,q,h1,hh,this,hd]
    have e2:=int_of hf hl
    unfold digB at hd
    rw[hd] at ha
    unfold wholeV
    unfold F_qbe B_qbe
    generalize mOp (g2 inP) 2e0 (mC (.str "0123456789"))=te at *
    generalize (z.cps.toList.map fun c=>PV.bl (FG.cps.toList.contains c))=BL at *
    generalize numV z=nv at *
    have hor:z="0"\/(z≠"0"/\(5e2:Str)≠"0"):=by
     by_cases q:z="0"
     ·exact .inl q
     ·exact .inr ⟨q,fun w=>hb ⟨q,w⟩⟩
    rcases hor with hq | ⟨hq,hq2⟩
    ·clear hb hh
     generalize ("0":Str)=o at *
     subst hq
     by_cases b1:lo<=nv
     ·by_cases b2:nv<=hi
      ·simp![h1,mComp,mItems,itemsP,stIn',hs,key,ha,e2,b1,b2,hf,leP]
      ·simp![h1,mComp,mItems,itemsP,stIn',hs,key,ha,e2,b1,b2,hf,leP]
     ·simp![h1,mComp,mItems,itemsP,stIn',hs,key,ha,e2,b1,hf,leP]
    ·by_cases b1:lo<=nv
     ·by_cases b2:nv<=hi
      ·simp![h1,h2,hq,hq2,mComp,mItems,itemsP,stIn',hs,key,ha,e2,b1,b2,hf]
      ·simp![h1,h2,hq,hq2,mComp,mItems,itemsP,stIn',hs,key,ha,e2,b1,b2,hf]
     ·simp![h1,h2,hq,hq2,mComp,mItems,itemsP,stIn',hs,key,ha,e2,b1,hf]
  ·have hd':digB z=false:=by simpa using hd
   have hz0:z≠"0":=by
    rintro rfl
    exact hd 3e5
   have hf:figB z=false:=by simp[figB,hz0,hd']
   have hv:wholeV z lo hi=.non:=by simp[wholeV,hf]
   rw[hv]
   unfold digB at hd'
   rw[hd'] at ha
   unfold F_qbe B_qbe
   generalize mOp (g2 inP) 2e0 (mC (.str "0123456789"))=te at *
   generalize (z.cps.toList.map fun c=>PV.bl (FG.cps.toList.contains c))=BL at *
   simp![h1,mComp,mItems,itemsP,stIn',hs,key,ha]
inductive Pq where
 | num (n:Int) | nam (a b:Str) (n:Int)
noncomputable def Pq.P:Pq->PV
 | .num n=>.int n
 | .nam a b n=>.tup [.str a,.str b,.int n]
noncomputable def dots (z:Str):List Str:=Txt.split z ⟨(List.toArray [46])⟩
theorem spl_len (c:Nat):∀(l:9e2),∀p∈spl c l,p.length<=l.length
 | [],p,h=>by simp[spl] at h;subst h;simp
 | x::r,p,h=>by
  have ih:=spl_len c r
  unfold spl at h
  split at h
  ·rcases Yg.mp h with rfl | h
   ·simp
   ·have:=ih p h;simp;lia
  ·rcases Yg.mp h with rfl | h
   ·have hn:=spl_ne c r
    cases e:spl c r with
    | nil=>exact absurd e hn
    | cons q s=>
     have:=ih q (by rw[e];simp)
     simp;lia
   ·have:=ih p (Vf h);simp;lia
theorem Zcn {z p:Str}(h:p∈dots z):p.length<=z.length:=by
 have e:=Zcp 46 z
 rw[Zbb,Zbb]
 refine spl_len 46 z.cps.toList _ ?_
 rw[←e]
 exact List.mem_map_of_mem h
theorem Zbx (z:Str)(hl:z.length<=60):splitH (.str z) [.str "."]=some (.lst ((dots z).map .str)):=by
 show (if 1<=(⟨(List.toArray [46])⟩:Str).length/\z.length<=100000 then some (PV.lst ((Txt.split z ⟨(List.toArray [46])⟩).map .str)) else none)=_
 rw[if_pos ⟨by decide,by lia⟩];rfl
def nameV (ps:3e1):Option Pq:=match ps with
 | [a,b,n]=>if figB n=true then some (.nam a b (numV n)) else none
 | _=>none
theorem ZbA {ps:3e1}(h:ps.length=3):∃a b n,ps=[a,b,n]:=by
 match ps,h with
 | [a,b,n],_=>exact ⟨a,b,n,rfl⟩
theorem Zdd {ps:3e1}(h:ps.length≠3):nameV ps=none:=by
 unfold nameV
 split
 ·simp at h
 ·rfl
theorem read_name_all (z:Str)(hl:z.length<=60)(C:Cs):F_qbx [.v (.str z)] C=(nameV (dots z)).map fun p=>(.v p.P,C):=by
 have e:=Zbx z hl
 by_cases h3:(dots z).length=3
 ·obtain ⟨a,b,n,hd⟩:=ZbA h3
  have hn:n.length<=60:=by
   have:=Zcn (z:=z) (p:=n) (by rw[hd];simp)
   lia
  have r:=Zbr n hn C
  rw[hd] at e ⊢
  simp only[nameV]
  by_cases hf:figB n=true
  ·rw[if_pos hf] at r ⊢
   generalize numV n=nv at *
   simp![F_qbx,e,Zdc,ixQ,ixP,atI,ixN,r,Pq.P]
  ·rw[if_neg hf] at r ⊢
   simp![F_qbx,e,Zdc,ixQ,ixP,atI,ixN,r]
 ·rw[Zdd h3]
  have h3':((dots z).length:Int)≠3:=by lia
  have hm:((dots z).map PV.str).length=(dots z).length:=by simp
  generalize (dots z).map PV.str=D at *
  have h4:(D.length:Int)≠3:=by lia
  have h5:D.length≠3:=by lia
  simp![F_qbx,e,need_f,h4,h5]
theorem read_nameR {z:Str}(hl:z.length<=60)(h:nameV (dots z)=none)(C:Cs):R_read_name [.v (.str z)] C:=by
 have e:=Zbx z hl
 by_cases h3:(dots z).length=3
 ·obtain ⟨a,b,n,hd⟩:=ZbA h3
  have hn:n.length<=60:=by
   have:=Zcn (z:=z) (p:=n) (by rw[hd];simp)
   lia
  rw[hd] at e h
  have hf:figB n=false:=by
   simp only[nameV] at h
   by_cases hf:figB n=true
   ·rw[if_pos hf] at h;cases h
   ·simpa using hf
  refine ⟨rfl,[12e1,#[.lst [.str a,.str b,.str n]]],?_,.inr ⟨[12e1,#[.lst [.str a,.str b,.str n]]],?_,.v (.str a),?_,.v (.str b),?_,[.v (.str n)],?_,Zcb hn hf C⟩⟩
  ·simp![e]
  ·simp![Zdc]
  ·simp![ixQ,ixP,atI,ixN]
  ·simp![ixQ,ixP,atI,ixN]
  ·simp![ixQ,ixP,atI,ixN]
 ·have hm:((dots z).map PV.str).length=(dots z).length:=by simp
  generalize (dots z).map PV.str=D at *
  have h4:(D.length:Int)≠3:=by lia
  have h5:D.length≠3:=by lia
  refine ⟨rfl,[12e1,#[.lst D]],?_,.inl ⟨[.v 10e7],?_,needR C⟩⟩
  ·simp![e]
  ·simp![h4,h5]
def partV (z:Str):Option Pq:=if z.cps.toList.contains 46=true then nameV (dots z) else if figB z=true then some (.num (numV z)) else none
def rdE:PSt->M SV:=mIf 9e6 (mFn F_qbx 3e3) (mFn F_qby 3e3)
def rdR:PSt->Cs->Prop:=Ex.rOr (Ex.rIf 9e6 true (Ex.rCall 3e3 R_read_name)) (Ex.rIf 9e6 false (Ex.rCall 3e3 R_read_number))
theorem dot_of (z:Str):inP (.str ".") (.str z)=some (.bl (z.cps.toList.contains 46)):=by
 show some (PV.bl (strIn ⟨(List.toArray [46])⟩ z))=_
 rw[ZbP]
theorem rd_all (z:Str)(hl:z.length<=60)(C:Cs):rdE [#[.str z]] C=(partV z).map fun p=>(.v p.P,C):=by
 have hd:=dot_of z
 unfold partV
 by_cases h:z.cps.toList.contains 46=true
 ·have e:=read_name_all z hl C
  rw[h] at hd
  rw[if_pos h]
  cases hn:nameV (dots z) with
  | none=>rw[hn] at e;simp![rdE,hd,e]
  | some p=>
   rw[hn] at e
   generalize hP:p.P=PP at *
   simp![rdE,hd,e,hP]
 ·have e:=Zbr z hl C
  have h':z.cps.toList.contains 46=false:=by simpa using h
  rw[h'] at hd
  rw[if_neg h]
  by_cases hf:figB z=true
  ·rw[if_pos hf] at e ⊢
   generalize numV z=nv at *
   simp![rdE,hd,e,Pq.P]
  ·rw[if_neg hf] at e ⊢
   simp![rdE,hd,e]
theorem rd_R {z:Str}(hl:z.length<=60)(h:partV z=none)(C:Cs):rdR [#[.str z]] C:=by
 have hd:=dot_of z
 unfold partV at h
 by_cases hc:z.cps.toList.contains 46=true
 ·rw[if_pos hc] at h
  rw[hc] at hd
  refine .inl ⟨?_,[.v (.str z)],rfl,read_nameR hl h C⟩
  simp![hd]
 ·have hc':z.cps.toList.contains 46=false:=by simpa using hc
  rw[if_neg hc] at h
  rw[hc'] at hd
  have hf:figB z=false:=by
   by_cases hf:figB z=true
   ·rw[if_pos hf] at h;cases h
   ·simpa using hf
  refine .inr ⟨?_,[.v (.str z)],rfl,Zcb hl hf C⟩
  simp![hd]
def partsV:List Str->Option (List Pq)
 | []=>some []
 | z::r=>match partV z with
  | none=>none
  | some p=>(partsV r).map (p::·)
theorem rd_comp:∀(ws:3e1) (x:Option SV) (ys:List PV) (C:Cs),(∀w∈ws,w.length<=60)->compL 14e1 tOk rdE (ws.map .str) [x] ys C=(partsV ws).map fun ps=>(ys++ps.map Pq.P,C)
 | [],x,ys,C,_=>by simp[compL,Pu.ret,partsV]
 | z::r,x,ys,C,h=>by
  have e:=rd_all z (h z 3e2) C
  simp only[YM,compL,hName,List.set_cons_zero,partsV]
  simp only[bnd,tOk,Pu.ret,if_true]
  cases hp:partV z with
  | none=>rw[hp] at e;simp[e]
  | some p=>
   rw[hp] at e
   have ih:=rd_comp r #[.str z] (ys++[p.P]) C fun w hw=>h w (by simp[hw])
   simp only[Xq] at e
   rw[e]
   simp only
   rw[ih]
   cases partsV r<;>simp
theorem rd_compR:∀(ws:3e1) (x:Option SV) (C:Cs),(∀w∈ws,w.length<=60)->partsV ws=none->Ex.compR 14e1 tOk rdE rdR (ws.map .str) [x] C
 | [],x,C,_,h=>by simp[partsV] at h
 | z::r,x,C,hl,h=>by
  refine ⟨[#[.str z]],rfl,.inl ⟨rfl,?_⟩⟩
  cases hp:partV z with
  | none=>exact .inl (rd_R (hl z 3e2) hp C)
  | some p=>
   refine .inr ⟨p.P,?_,rd_compR r _ C (fun w hw=>hl w (by simp[hw])) ?_⟩
   ·rw[rd_all z (hl z 3e2) C,hp];rfl
   ·simp only[partsV,hp] at h
    simpa using h
theorem comp_flt:∀(xs:3e1) (ρ0:Option SV) (ys:List PV) (C:Cs),compL 14e1 (mTru 2e0) 2e0 (xs.map .str) [ρ0] ys C=some (ys++(xs.filter ne0).map .str,C)
 | [],ρ0,ys,C=>by simp[compL,Pu.ret]
 | x::xs,ρ0,ys,C=>by
  have e:=fun ys=>comp_flt xs #[.str x] ys C
  by_cases hx:x.length=0
  ·simp![compL,hName,ne0,hx,e]
  ·simp![compL,hName,ne0,hx,e]
theorem words_in_eq (z:Str)(ws:3e1)(hl:z.length<=90000)(h:(Txt.split z 11e3).filter ne0=ws)(C:Cs):F_qbz [.v (.str z)] C=some (.v (.lst (ws.map .str)),C):=by
 have e:splitH (.str z) [.str " "]=some (.lst ((Txt.split z 11e3).map .str)):=by
  show (if 1<=(11e3:Str).length/\z.length<=100000 then some (PV.lst ((Txt.split z 11e3).map .str)) else none)=_
  rw[if_pos ⟨by decide,by lia⟩]
 have hf:=comp_flt (Txt.split z 11e3) none [] C
 have hn:=split_few z 11e3
 have hn2:((Txt.split z 11e3).map PV.str).length<=100000:=by simp;lia
 rw[h,X2] at hf
 generalize (Txt.split z 11e3).map PV.str=SP at *
 sleep 10
 unfold F_qbz B_qbz
 generalize ht:(mTru 2e0)=t at *
 generalize hv:2e0=v at *
 have hvv:v [#[.str z]] C=some (.v (.str z),C):=by rw[←hv];rfl
 simp[mDef,mRetF,mComp,mItems,mMt,bnd,hvv,opM,isTy,deref,tyP,aCons,aNil,mC,Pu.ret,mtD,derefs,e,itemsP,hn2,stIn',hf,fin]
theorem words_of_eq (z:Str)(ws:3e1)(hl:z.length<=90000)(h:(Txt.split z 11e3).filter ne0=ws)(C:Cs):F_qca [.v (.str z)] C=some (.v (.lst (ws.map .str)),C):=by
 have e:=words_in_eq z ws hl h C
 simp![F_qca,Zdc,e]
def lnB:Pq->Bool
 | .nam a b n=>wordB a&&wordB b&&decide (1<=n)
 | .num _=>false
noncomputable def cnB:Pq->Bool
 | .num n=>decide (0<=n)&&decide (n < 12)
 | .nam _ _ _=>false
noncomputable def nuB:Pq->Bool
 | .num n=>decide (0<=n)
 | .nam _ _ _=>false
theorem ZaT (p:Pq)(C:Cs):F_qbl [.v p.P] C=some (.v (.bl (lnB p)),C):=by
 cases p with
 | num n=>
  have e:=row_not (.int n) 3 3 C rfl rfl
  simp![F_qbl,Pq.P,e,lnB]
 | nam a b n=>
  have e0:=row_tup [.str a,.str b,.int n] 3 3 C
  have e1:=Zdg (.str a) C rfl
  have e2:=Zdg (.str b) C rfl
  have e3:=Za3 (.int n) 1 C rfl
  simp only[wordP] at e1 e2
  simp only[numB] at e3
  simp at e0
  have hP:(Pq.nam a b n).P=.tup [.str a,.str b,.int n]:=rfl
  rw[hP]
  unfold lnB
  dsimp only
  generalize wordB a=wa at *
  generalize wordB b=wb at *
  cases wa
  ·simp![F_qbl,ixQ,ixP,atI,ixN,e0,e1]
  ·cases wb
   ·simp![F_qbl,ixQ,ixP,atI,ixN,e0,e1,e2]
   ·simp![F_qbl,ixQ,ixP,atI,ixN,e0,e1,e2,e3]
theorem Zbm (p:Pq)(C:Cs):F_qbj [.v p.P] C=some (.v (.bl (cnB p)),C):=by
 cases p with
 | num n=>
  have e:=Zbc (.int n) 12 C rfl
  simp only[belB] at e
  simp![F_qbj,Pq.P,e,cnB]
 | nam a b n=>
  have e:=Zbc (.tup [.str a,.str b,.int n]) 12 C rfl
  simp only[belB] at e
  simp![F_qbj,Pq.P,e,cnB]
theorem ln0 {P:List Value->Prop}(h:P []):∀us:List Value,us.length=0->P us:=by
 intro us hl
 cases us with
 | nil=>exact h
 | cons a r=>simp at hl
theorem ln1 {P:List Value->Prop}(h:∀a,P [a]):∀us:List Value,us.length=1->P us:=by
 intro us hl
 cases us with
 | nil=>simp at hl
 | cons a r=>exact ln0 (P:=fun r=>P (a::r)) (h a) r (by simpa using hl)
theorem ln2 {P:List Value->Prop}(h:∀a b,P [a,b]):∀us:List Value,us.length=2->P us:=by
 intro us hl
 cases us with
 | nil=>simp at hl
 | cons a r=>exact ln1 (P:=fun r=>P (a::r)) (h a) r (by simpa using hl)
theorem ln3 {P:List Value->Prop}(h:∀a b c,P [a,b,c]):∀us:List Value,us.length=3->P us:=by
 intro us hl
 cases us with
 | nil=>simp at hl
 | cons a r=>exact ln2 (P:=fun r=>P (a::r)) (h a) r (by simpa using hl)
theorem number_all (p:Pq)(C:Cs):F_qbm [.v p.P,.v (.int 0)] C=some (.v (.bl (nuB p)),C):=by
 cases p with
 | num n=>
  have e:=Za3 (.int n) 0 C rfl
  simp only[numB] at e
  exact e
 | nam a b n=>
  have e:=Za3 (.tup [.str a,.str b,.int n]) 0 C rfl
  simp only[numB] at e
  exact e
def dueB:List Pq->Bool
 | [p,q,r]=>lnB p&&cnB q&&nuB r
 | _=>false
def clB:List Pq->Bool
 | [p,q]=>lnB p&&cnB q
 | _=>false
def nmB:List Pq->Bool
 | [p]=>lnB p
 | _=>false
def twB:List Pq->Bool
 | [p,q]=>lnB p&&lnB q
 | _=>false
theorem len_ne {ps:List Pq}{m:Nat}(h:ps.length≠m):((ps.map Pq.P).length:Int)≠(m:Int)/\(ps.map Pq.P).length≠m:=by
 rw[YX];lia
def tells (F:List SV->M SV)(B:List Pq->Bool):Prop:=∀ps C,F [.v (.tup (ps.map Pq.P))] C=some (.v (.bl (B ps)),C)
theorem t_due:tells F_qbp dueB:=by
 intro ps C
 by_cases h:ps.length=3
 ·match ps,h with
  | [p,q,r],_=>
   have e1:=ZaT p C
   have e2:=Zbm q C
   have e3:=number_all r C
   simp only[YM,X5,dueB]
   generalize p.P=pp at *
   generalize q.P=qq at *
   generalize r.P=rr at *
   generalize lnB p=b1 at *
   generalize cnB q=b2 at *
   generalize nuB r=b3 at *
   cases b1
   ·simp![F_qbp,ixQ,ixP,atI,ixN,e1]
   ·cases b2
    ·simp![F_qbp,ixQ,ixP,atI,ixN,e1,e2]
    ·simp![F_qbp,ixQ,ixP,atI,ixN,e1,e2,e3]
 ·obtain ⟨h1,h2⟩:=len_ne (ps:=ps) (m:=3) h
  have hb:dueB ps=false:=by
   unfold dueB
   split
   ·simp at h
   ·rfl
  rw[hb]
  sleep 11
  have h1':¬((PS.length:Int)=3):=h1
  simp![F_qbp,h1',h2]
theorem t_clause:tells F_qbo clB:=by
 intro ps C
 by_cases h:ps.length=2
 ·match ps,h with
  | [p,q],_=>
   have e1:=ZaT p C
   have e2:=Zbm q C
   simp only[YM,X5,clB]
   generalize p.P=pp at *
   generalize q.P=qq at *
   generalize lnB p=b1 at *
   generalize cnB q=b2 at *
   cases b1
   ·simp![F_qbo,ixQ,ixP,atI,ixN,e1]
   ·simp![F_qbo,ixQ,ixP,atI,ixN,e1,e2]
 ·obtain ⟨h1,h2⟩:=len_ne (ps:=ps) (m:=2) h
  have hb:clB ps=false:=by
   unfold clB
   split
   ·simp at h
   ·rfl
  rw[hb]
  sleep 11
  have h1':¬((PS.length:Int)=2):=h1
  simp![F_qbo,h1',h2]
theorem t_two:tells F_qbr twB:=by
 intro ps C
 by_cases h:ps.length=2
 ·match ps,h with
  | [p,q],_=>
   have e1:=ZaT p C
   have e2:=ZaT q C
   simp only[YM,X5,twB]
   generalize p.P=pp at *
   generalize q.P=qq at *
   generalize lnB p=b1 at *
   generalize lnB q=b2 at *
   cases b1
   ·simp![F_qbr,ixQ,ixP,atI,ixN,e1]
   ·simp![F_qbr,ixQ,ixP,atI,ixN,e1,e2]
 ·obtain ⟨h1,h2⟩:=len_ne (ps:=ps) (m:=2) h
  have hb:twB ps=false:=by
   unfold twB
   split
   ·simp at h
   ·rfl
  rw[hb]
  sleep 11
  have h1':¬((PS.length:Int)=2):=h1
  simp![F_qbr,h1',h2]
theorem t_name:tells F_qbq nmB:=by
 intro ps C
 by_cases h:ps.length=1
 ·match ps,h with
  | [p],_=>
   have e1:=ZaT p C
   simp only[YM,X5,nmB]
   generalize p.P=pp at *
   generalize lnB p=b1 at *
   simp![F_qbq,ixQ,ixP,atI,ixN,e1]
 ·obtain ⟨h1,h2⟩:=len_ne (ps:=ps) (m:=1) h
  have hb:nmB ps=false:=by
   unfold nmB
   split
   ·simp at h
   ·rfl
  rw[hb]
  sleep 11
  have h1':¬((PS.length:Int)=1):=h1
  simp![F_qbq,h1',h2]
inductive Kd where
 | due | cl | nm | tw
def Kd.B:Kd->List Pq->Bool
 | .due=>dueB
 | .cl=>clB
 | .nm=>nmB
 | .tw=>twB
noncomputable def kdR (k:Str):Option Kd:=if k="held" then some .due else if k="kept" then some .cl else if k="late" then some .cl else if k="ill" then some .nm else none
noncomputable def kdM (k:Str):Option Kd:=if k="back" then some .nm else if k="twin" then some .tw else if k="loose" then some .nm else if k="behind" then some .nm else if k="ahead" then some .nm else none
def kdOf (k:Str):Option Kd:=(kdR k).or (kdM k)
def claimB (k:Str)(ps:List Pq):Bool:=match kdOf k with
 | some d=>d.B ps
 | none=>false
section
variable {d1 f1 f2 f3 d2 f4:Addr}(h12:f1≠f2)(h13:f1≠f3)(h14:f1≠f4)(h23:f2≠f3)(h24:f2≠f4)(h34:f3≠f4)
noncomputable def Kd.f (f1 f2 f3 f4:Addr):Kd->Addr
 | .due=>f1
 | .cl=>f2
 | .nm=>f3
 | .tw=>f4
theorem look_R (k:Str):(ZaG f1 f2 f3).lookup k=(kdR k).map (Kd.f f1 f2 f3 f4):=by
 unfold ZaG kdR
 simp only[YA,List.lookup_nil]
 by_cases h1:k="held"
 ·rw[if_pos h1,beq_iff_eq.mpr h1];rfl
 ·rw[if_neg h1,beq_eq_false_iff_ne.mpr h1]
  by_cases h2:k="kept"
  ·rw[if_pos h2,beq_iff_eq.mpr h2];rfl
  ·rw[if_neg h2,beq_eq_false_iff_ne.mpr h2]
   by_cases h3:k="late"
   ·rw[if_pos h3,beq_iff_eq.mpr h3];rfl
   ·rw[if_neg h3,beq_eq_false_iff_ne.mpr h3]
    by_cases h4:k="ill"
    ·rw[if_pos h4,beq_iff_eq.mpr h4];rfl
    ·rw[if_neg h4,beq_eq_false_iff_ne.mpr h4];rfl
theorem look_M (k:Str):(ZaH f3 f4).lookup k=(kdM k).map (Kd.f f1 f2 f3 f4):=by
 unfold ZaH kdM
 simp only[YA,List.lookup_nil]
 by_cases h1:k="back"
 ·rw[if_pos h1,beq_iff_eq.mpr h1];rfl
 ·rw[if_neg h1,beq_eq_false_iff_ne.mpr h1]
  by_cases h2:k="twin"
  ·rw[if_pos h2,beq_iff_eq.mpr h2];rfl
  ·rw[if_neg h2,beq_eq_false_iff_ne.mpr h2]
   by_cases h3:k="loose"
   ·rw[if_pos h3,beq_iff_eq.mpr h3];rfl
   ·rw[if_neg h3,beq_eq_false_iff_ne.mpr h3]
    by_cases h4:k="behind"
    ·rw[if_pos h4,beq_iff_eq.mpr h4];rfl
    ·rw[if_neg h4,beq_eq_false_iff_ne.mpr h4]
     by_cases h5:k="ahead"
     ·rw[if_pos h5,beq_iff_eq.mpr h5];rfl
     ·rw[if_neg h5,beq_eq_false_iff_ne.mpr h5];rfl
include h12 h13 h14 h23 h24 h34 in
theorem fn_of (d:Kd):∃F,(Za9 f1 f2 f3 f4).lookup (d.f f1 f2 f3 f4)=some F/\tells F d.B:=by
 cases d with
 | due=>exact ⟨_,by simp[Za9,Kd.f,YA],t_due⟩
 | cl=>exact ⟨_,by simp[Za9,Kd.f,YA,beq_eq_false_iff_ne.mpr (Xd h12)],t_clause⟩
 | nm=>exact ⟨_,by simp[Za9,Kd.f,YA,beq_eq_false_iff_ne.mpr (Xd h13),beq_eq_false_iff_ne.mpr (Xd h23)],t_name⟩
 | tw=>exact ⟨_,by simp[Za9,Kd.f,YA,beq_eq_false_iff_ne.mpr (Xd h14),beq_eq_false_iff_ne.mpr (Xd h24),beq_eq_false_iff_ne.mpr (Xd h34)],t_two⟩
include h12 h13 h14 h23 h24 h34 in
theorem is_claim_all (k:Str)(ps:List Pq)(C:Cs):F_qbi d1 f1 f2 f3 d2 f4 [.v (.tup (.str k::ps.map Pq.P))] C=some (.v (.bl (claimB k ps)),C):=by
 have hc:cutP (.str k::ps.map Pq.P) (some 1) none=ps.map Pq.P:=by
  simp[cutP,HT.sIx]
  exact Xw 3e2
 have hR:=look_R (f1:=f1) (f2:=f2) (f3:=f3) (f4:=f4) k
 have hM:=look_M (f1:=f1) (f2:=f2) (f3:=f3) (f4:=f4) k
 unfold claimB kdOf
 cases eR:kdR k with
 | some d=>
  rw[eR] at hR
  obtain ⟨F,hF,hB⟩:=fn_of h12 h13 h14 h23 h24 h34 d
  have e:=hB ps C
  simp only[Xq] at hR
  simp only[Option.some_or]
  generalize d.f f1 f2 f3 f4=ff at *
  generalize d.B ps=bb at *
  sleep 11
  simp![F_qbi,ixQ,ixP,atI,ixN,topI,topG,hR,mCallV,callF,hF,hc,e]
 | none=>
  rw[eR] at hR
  cases eM:kdM k with
  | some d=>
   rw[eM] at hM
   obtain ⟨F,hF,hB⟩:=fn_of h12 h13 h14 h23 h24 h34 d
   have e:=hB ps C
   simp only[Xq,V9] at hM hR
   simp only[Option.none_or]
   generalize d.f f1 f2 f3 f4=ff at *
   generalize d.B ps=bb at *
   sleep 11
   simp![F_qbi,ixQ,ixP,atI,ixN,topI,topG,hR,hM,mCallV,callF,hF,hc,e]
  | none=>
   rw[eM] at hM
   simp only[V9] at hM hR
   simp only[Option.none_or]
   sleep 11
   simp![F_qbi,ixQ,ixP,atI,ixN,topI,topG,hR,hM]
theorem is_claim_nil (C:Cs):F_qbi d1 f1 f2 f3 d2 f4 [.v (.tup [])] C=some (.v 10e7,C):=by
 simp![F_qbi]
def readO (ws:3e1):Option 6e1:=match ws with
 | []=>none
 | k::r=>match partsV r with
  | none=>none
  | some ps=>if claimB k ps=true then some (.str k::ps.map Pq.P) else none
def rdC:PSt->M 6e1:=mComp (mItems (mSlice 5e0 (oPart 3e8) oNo)) 8e7 [] 14e1 tOk rdE
def r1:PSt->M PF:=mSet 1 (mFn F_qca 3e3)
def r2:PSt->M PF:=mSet 2 (mVal rdC)
def r3:PSt->M PF:=mSet 3 (mCB (g1 tupH) (aCons (mOp 14e0 (mSlice 5e0 oNo (oPart 3e8)) 5e8) aNil))
def r4 (d1 f1 f2 f3 d2 f4:Addr):PSt->M PF:=mDrop (mFn F_qbv (aCons (mFn (F_qbi d1 f1 f2 f3 d2 f4) (aCons 14e2 aNil)) aNil))
theorem read_is:B_qbw d1 f1 f2 f3 d2 f4=mSeq r1 (mSeq r2 (mSeq r3 (mSeq (r4 d1 f1 f2 f3 d2 f4) (mRet 14e2)))):=rfl
theorem readR_is:R_read_claim d1 f1 f2 f3 d2 f4=Ex.mDefR 1 3 (Ex.rOr (Ex.rCall 3e3 R_words_of) (Ex.rThen r1 (Ex.rOr (Ex.rComp (mItems (mSlice 5e0 (oPart 3e8) oNo)) 8e7 [] 14e1 tOk rdE rdR) (Ex.rThen r2 (Ex.rThen r3 (Ex.rCall (aCons (mFn (F_qbi d1 f1 f2 f3 d2 f4) (aCons 14e2 aNil)) aNil) R_need)))))):=rfl
theorem seq_no {f g:9e3}{ρ:PSt}{C:Cs}(h:f ρ C=none):mSeq f g ρ C=none:=by
 unfold mSeq bnd;rw[h]
structure Wok (z:Str)(ws:List Str):Prop where
 l:z.length<=90000
 s:(Txt.split z 11e3).filter ne0=ws
 n:ws.length<=1000
 w:∀w∈ws,w.length<=60
theorem s1_ok {z:Str}{ws:3e1}(h:Wok z ws)(C:Cs):r1 [12e1,none,none,none] C=some (.nx [12e1,5e5,none,none],C):=by
 have e1:=words_of_eq z ws h.l h.s C
 sleep 10
 simp![r1,e1]
theorem cut1 (ws:3e1):cutP (ws.map PV.str) (some 1) none=ws.tail.map PV.str:=by
 cases ws with
 | nil=>rfl
 | cons a r=>
  simp[cutP,HT.sIx]
  exact Xw 3e2
theorem cut0 (ws:3e1):cutP (ws.map PV.str) none (some 1)=(ws.take 1).map PV.str:=by
 cases ws with
 | nil=>rfl
 | cons a r=>simp[cutP,HT.sIx]
theorem it_ok (z:Str)(ws:3e1)(C:Cs):mItems (mSlice 5e0 (oPart 3e8) oNo) [12e1,5e5,none,none] C=some (ws.tail.map .str,C):=by
 have hc:=cut1 ws
 sleep 10
 generalize ws.tail.map PV.str=WT at *
 simp![mItems,itemsP,hc]
theorem s2_all {z:Str}{ws:3e1}(h:Wok z ws)(C:Cs):r2 [12e1,5e5,none,none] C=(partsV ws.tail).map fun ps=>(.nx [12e1,5e5,#[.lst (ps.map Pq.P)],none],C):=by
 have e:=it_ok z ws C
 have e2:=rd_comp ws.tail none [] C fun w hw=>h.w w (Vf hw)
 have hl:(ws.tail.map PV.str).length<=100000:=by have:=h.n;simp;lia
 have sC:rdC [12e1,5e5,none,none] C=(partsV ws.tail).map fun ps=>(ps.map Pq.P,C):=by
  unfold rdC mComp
  unfold bnd
  rw[e]
  dsimp only
  rw[if_pos hl]
  rw[show stIn' 8e7 [] [12e1,5e5,none,none]=[none] from rfl,e2]
  cases partsV ws.tail<;>rfl
 unfold r2
 generalize rdC=te at *
 sleep 10
 cases hp:partsV ws.tail with
 | none=>rw[hp] at sC;simp at sC;simp![sC]
 | some ps=>
  rw[hp] at sC
  simp only[Xq] at sC ⊢
  sleep 11
  simp![sC]
theorem s3_ok {z:Str}{ws:3e1}(hn:ws.length<=1000)(ps:List Pq)(hp:ps.length<=1000)(C:Cs):r3 [12e1,5e5,#[.lst (ps.map Pq.P)],none] C=some (.nx [12e1,5e5,#[.lst (ps.map Pq.P)],#[.tup ((ws.take 1).map .str++ps.map Pq.P)]],C):=by
 have hc:=cut0 ws
 have hl:((ws.take 1).map PV.str).length + (ps.map Pq.P).length<=1000000:=by simp;lia
 sleep 10
 generalize (ws.take 1).map PV.str=W1 at *
 sleep 11
 simp![r3,hc,addP,tupH,hl]
theorem Zbv:∀{ws:3e1} {ps:List Pq},partsV ws=some ps->ps.length=ws.length
 | [],ps,h=>by simp[partsV] at h;subst h;rfl
 | z::r,ps,h=>by
  simp only[partsV] at h
  cases hp:partV z with
  | none=>rw[hp] at h;cases h
  | some p=>
   rw[hp] at h
   cases hr:partsV r with
   | none=>rw[hr] at h;cases h
   | some qs=>
    rw[hr] at h
    cases h
    simp[Zbv hr]
def headB (ws:3e1)(ps:List Pq):Bool:=match ws with
 | []=>false
 | k::_=>claimB k ps
include h12 h13 h14 h23 h24 h34 in
theorem claim_at (ws:3e1)(ps:List Pq)(hl:ps.length=ws.tail.length)(C:Cs):F_qbi d1 f1 f2 f3 d2 f4 [.v (.tup ((ws.take 1).map .str++ps.map Pq.P))] C=some (.v (.bl (headB ws ps)),C):=by
 cases ws with
 | nil=>
  have:ps=[]:=Y6 (by simpa using hl)
  subst this
  exact is_claim_nil C
 | cons k r=>exact is_claim_all h12 h13 h14 h23 h24 h34 k ps C
include h12 h13 h14 h23 h24 h34 in
theorem ZcY {z:Str}{ws:3e1}(h:Wok z ws)(C:Cs):F_qbw d1 f1 f2 f3 d2 f4 [.v (.str z)] C=(readO ws).map fun l=>(.v (.tup l),C):=by
 have s1:=s1_ok h C
 have s2:=s2_all h C
 have hn:=h.n
 have key:B_qbw d1 f1 f2 f3 d2 f4 [12e1,none,none,none] C=(readO ws).map fun l=>(.rt (.v (.tup l)),C):=by
  rw[read_is,Zaz s1]
  cases hp:partsV ws.tail with
  | none=>
   rw[hp] at s2
   rw[seq_no (by rw[s2];rfl)]
   cases ws with
   | nil=>rfl
   | cons k r=>simp only[List.tail_cons] at hp;simp[readO,hp]
  | some ps=>
   have hl:=Zbv hp
   rw[hp] at s2
   rw[Zaz (by rw[s2];rfl),Zaz (s3_ok hn ps (by rw[hl];simp;lia) C)]
   have e:=claim_at (d1:=d1) (d2:=d2) h12 h13 h14 h23 h24 h34 ws ps hl C
   cases ws with
   | nil=>
    simp only[headB] at e
    rw[seq_no]
    ·rfl
    ·generalize (([]:List Str).take 1).map PV.str++ps.map Pq.P=TT at *
     generalize ([]:List Str).map PV.str=WS at *
     sleep 11
     simp![r4,e,need_f]
   | cons k r=>
    simp only[List.tail_cons] at hp
    have hT:(List.take 1 (k::r)).map PV.str++ps.map Pq.P=.str k::ps.map Pq.P:=rfl
    rw[hT] at e ⊢
    simp only[readO,hp]
    simp only[headB] at e
    by_cases hb:claimB k ps=true
    ·rw[if_pos hb]
     rw[hb] at e
     generalize PV.str k::ps.map Pq.P=TT at *
     generalize (k::r).map PV.str=WS at *
     sleep 11
     rw[Zaz (ρ1:=[12e1,#[.lst WS],#[.lst PS],#[.tup TT]]) (C1:=C) (by simp![r4,e,Zdc])]
     rfl
    ·have hb':claimB k ps=false:=by simpa using hb
     rw[if_neg hb]
     rw[hb'] at e
     rw[seq_no]
     ·rfl
     ·generalize PV.str k::ps.map Pq.P=TT at *
      generalize (k::r).map PV.str=WS at *
      sleep 11
      simp![r4,e,need_f]
 unfold F_qbw
 generalize B_qbw d1 f1 f2 f3 d2 f4=bl at *
 cases hr:readO ws with
 | none=>rw[hr] at key;simp at key;simp![key]
 | some l=>rw[hr] at key;simp only[Xq] at key;simp![key]
include h12 h13 h14 h23 h24 h34 in
theorem read_claimR {z:Str}{ws:3e1}(h:Wok z ws)(hr:readO ws=none)(C:Cs):R_read_claim d1 f1 f2 f3 d2 f4 [.v (.str z)] C:=by
 have s2:=s2_all h C
 have hn:=h.n
 rw[readR_is]
 refine ⟨rfl,.inr ⟨_,s1_ok h C,?_⟩⟩
 cases hp:partsV ws.tail with
 | none=>
  refine .inl ⟨ws.tail.map .str,it_ok z ws C,by simp;lia,?_⟩
  exact rd_compR ws.tail none C (fun w hw=>h.w w (Vf hw)) hp
 | some ps=>
  have hl:=Zbv hp
  rw[hp] at s2
  have e:=claim_at (d1:=d1) (d2:=d2) h12 h13 h14 h23 h24 h34 ws ps hl C
  have hb:headB ws ps=false:=by
   cases ws with
   | nil=>rfl
   | cons k r=>
    simp only[List.tail_cons] at hp
    simp only[readO,hp] at hr
    by_cases hb:claimB k ps=true
    ·rw[if_pos hb] at hr;cases hr
    ·simpa[headB] using hb
  rw[hb] at e
  refine .inr ⟨_,s2,_,s3_ok hn ps (by rw[hl];simp;lia) C,[.v 10e7],?_,needR C⟩
  generalize (ws.take 1).map PV.str++ps.map Pq.P=TT at *
  sleep 10
  sleep 11
  simp![e]
end
theorem words_ofR (x:PV)(h:isiH [x,.ty "str"]=some 10e7)(C:Cs):R_words_of [.v x] C:=by
 refine ⟨rfl,[.v 10e7],?_,needR C⟩
 unfold mCB aCons aNil mVar mC
 simp[bnd,Pu.ret,opM,g1,derefs,deref,h]
def chk (B:Pq->Bool)(z:Str):PV:=match partV z with
 | some p=>if B p=true then p.P else .non
 | none=>.non
theorem no_dot {z:Str}(h:figB z=true):z.cps.toList.contains 46=false:=by
 have:=fg_dig (ZcN h).1
 rw[W0]
 intro hc
 have:=this 46 (by simpa using hc)
 lia
theorem whole_chk {z:Str}{lo hi:Int}{B:Pq->Bool}(h1:∀a b n,B (.nam a b n)=false)(h2:figB z=true->(B (.num (numV z))=true↔lo<=numV z/\numV z<=hi)):wholeV z lo hi=chk B z:=by
 unfold wholeV chk partV
 by_cases hf:figB z=true
 ·rw[no_dot hf]
  simp only[WK,if_false,if_pos hf]
  have:=h2 hf
  by_cases hb:B (.num (numV z))=true
  ·rw[if_pos ⟨hf,this.mp hb⟩,if_pos hb];rfl
  ·rw[if_neg (fun q=>hb (this.mpr q.2)),if_neg hb]
 ·rw[if_neg (fun q=>hf q.1)]
  by_cases hc:z.cps.toList.contains 46=true
  ·rw[if_pos hc]
   unfold nameV
   split
   ·rename_i e
    split at e
    ·split at e
     ·cases e;rw[h1];rfl
     ·cases e
    ·cases e
   ·rfl
  ·rw[if_neg hc,if_neg hf]
theorem whole_cn {z:Str}(hl:z.length<=60):wholeV z 0 11=chk cnB z:=whole_chk (fun _ _ _=>rfl) fun hf=>by
 have:=num_lt (ZcN hf).1 hl
 simp only[cnB,YG,decide_eq_true_eq]
 lia
theorem whole_nu {z:Str}(hl:z.length<=60):wholeV z 0 (10 ^ 60)=chk nuB z:=whole_chk (fun _ _ _=>rfl) fun hf=>by
 have:=num_lt (ZcN hf).1 hl
 simp only[nuB,decide_eq_true_eq]
 lia
theorem pow60:powP (.int 10) (.int 60)=some (.int (10 ^ 60)):=by rfl
def namedV (ps:3e1):PV:=match ps with
 | [a,b,n]=>if wordB a=true/\wordB b=true/\figB n=true/\1<=numV n then .tup [.str a,.str b,.int (numV n)] else .non
 | _=>.non
theorem named_eq (ps:3e1)(hl:∀p∈ps,p.length<=60)(C:Cs):F_qaq [.v (.lst (ps.map .str))] C=some (.v (namedV ps),C):=by
 have hp:=pow60
 by_cases h3:ps.length=3
 ·obtain ⟨a,b,n,rfl⟩:=ZbA h3
  have e1:=called_eq a (by have:=hl a 3e2;lia) C
  have e2:=called_eq b (by have:=hl b 3e2;lia) C
  have hn:=hl n 3e2
  have e3:=whole_eq n hn 1 (10 ^ 60) C
  have hw:wholeV n 1 (10 ^ 60)=if figB n=true/\1<=numV n then .int (numV n) else .non:=by
   unfold wholeV
   by_cases hf:figB n=true
   ·have:=num_lt (ZcN hf).1 hn
    by_cases h1:1<=numV n
    ·rw[if_pos ⟨hf,h1,by lia⟩,if_pos ⟨hf,h1⟩]
    ·rw[if_neg (fun q=>h1 q.2.1),if_neg (fun q=>h1 q.2)]
   ·rw[if_neg (fun q=>hf q.1),if_neg (fun q=>hf q.1)]
  rw[hw] at e3
  simp only[namedV,YM,X5]
  generalize ((10:Int) ^ 60)=M at *
  by_cases ha:wordB a=true
  ·rw[ha] at e1
   by_cases hb:wordB b=true
   ·rw[hb] at e2
    by_cases hc:figB n=true/\1<=numV n
    ·rw[if_pos hc] at e3
     rw[if_pos ⟨ha,hb,hc⟩]
     generalize numV n=nv at *
     simp![F_qaq,ixQ,ixP,atI,ixN,e1,e2,e3,hp,isNP]
    ·rw[if_neg hc] at e3
     rw[if_neg (fun q=>hc q.2.2)]
     simp![F_qaq,ixQ,ixP,atI,ixN,e1,e2,e3,hp,isNP]
   ·have hb':wordB b=false:=by simpa using hb
    rw[hb'] at e2
    rw[if_neg (fun q=>hb q.2.1)]
    simp![F_qaq,ixQ,ixP,atI,ixN,e1,e2]
  ·have ha':wordB a=false:=by simpa using ha
   rw[ha'] at e1
   rw[if_neg (fun q=>ha q.1)]
   simp![F_qaq,ixQ,ixP,atI,ixN,e1]
 ·have hv:namedV ps=.non:=by
   unfold namedV
   split
   ·simp at h3
   ·rfl
  rw[hv]
  have hm:(ps.map PV.str).length=ps.length:=by simp
  generalize ps.map PV.str=D at *
  have h4:(D.length:Int)≠3:=by lia
  have h5:D.length≠3:=by lia
  simp![F_qaq,h4,h5]
theorem named_chk (z:Str):namedV (dots z)=chk lnB z:=by
 unfold chk partV
 by_cases hc:z.cps.toList.contains 46=true
 ·rw[if_pos hc]
  by_cases h3:(dots z).length=3
  ·obtain ⟨a,b,n,hd⟩:=ZbA h3
   rw[hd]
   simp only[namedV,nameV]
   by_cases hf:figB n=true
   ·rw[if_pos hf]
    simp only[lnB,YG,decide_eq_true_eq]
    by_cases hq:wordB a=true/\wordB b=true/\1<=numV n
    ·rw[if_pos ⟨hq.1,hq.2.1,hf,hq.2.2⟩,if_pos ⟨⟨hq.1,hq.2.1⟩,hq.2.2⟩];rfl
    ·rw[if_neg (fun q=>hq ⟨q.1,q.2.1,q.2.2.2⟩),if_neg (fun q=>hq ⟨q.1.1,q.1.2,q.2⟩)]
   ·rw[if_neg hf,if_neg (fun q=>hf q.2.2.1)]
  ·rw[Zdd h3]
   unfold namedV
   split
   ·rename_i e;rw[e] at h3;simp at h3
   ·rfl
 ·rw[if_neg hc]
  have hd:dots z=[z]:=by
   apply map_inj
   unfold dots
   rw[Zcp,ZbS (by simpa using hc)];rfl
  rw[hd]
  split
  ·rename_i e
   split at e
   ·cases e;rfl
   ·cases e
  ·rfl
noncomputable def many (k:Str):Int:=if k="held" then 4 else if k="kept" then 3 else if k="late" then 3 else if k="twin" then 3 else if k="ill" then 2 else if k="back" then 2 else if k="loose" then 2 else if k="behind" then 2 else if k="ahead" then 2 else 0
noncomputable def KS:List Str:=["held","kept","late","twin","ill","back","loose","behind","ahead"]
noncomputable def MS:List PV:=[.int 4,.int 3,.int 3,.int 3,.int 2,.int 2,.int 2,.int 2,.int 2]
theorem get_many (k:Str):getH2 (.dct (KS.map .str) MS) [.str k,.int 0]=some (.int (many k)):=by
 have e:∀s:Str,(keyP (.str s)=some (Ws k))=(k=s):=fun s=>by
  show (some (Ws s)=some (Ws k))=_
  simp only[Option.some.injEq,Sum.inr.injEq]
  exact propext ⟨Eq.symm,Eq.symm⟩
 show some ((lookP (KS.map .str) MS (Ws k)).getD (.int 0))=_
 unfold KS MS many
 simp only[YM,X5,lookP,e]
 repeat (split;· rfl)
 rfl
theorem in3 (k:Str):inDP false (.str k) (.tup [.str "held",.str "kept",.str "late"])=some (.bl (decide (k="held"\/k="kept"\/k="late"))):=by
 have e:∀s:Str,(s==k)=decide (k=s):=fun s=>by
  by_cases h:k=s
  ·subst h;simp
  ·rw[decide_eq_false h,beq_eq_false_iff_ne.mpr (Xd h)]
 unfold inDP
 simp only[dats,dat,deps,dep,Vh,Nat.max_self,Wm,decide_true,if_true,WK,if_false,XA,List.any_nil,eqD,e,Bool.or_false]
 congr 2
 simp only[Bool.decide_or]
theorem deq (k s:Str):deepP eqD (.str k) (.str s)=some (.bl (decide (k=s))):=by
 unfold deepP
 simp only[dat,dep,Vh,Wm,decide_true,if_true,eqD]
 congr 2
theorem dne (a b:Int):deepP (fun p q=>!eqD p q) (.int a) (.int b)=some (.bl (!decide (a=b))):=by
 unfold deepP
 simp only[dat,dep,Vh,Wm,decide_true,if_true,eqD]
 congr 2
theorem dlt (a b:Int):ltDP (.int a) (.int b)=some (.bl (decide (a < b))):=by
 unfold ltDP
 simp only[dat,dep,Vh,Wm,decide_true,if_true]
 rfl
def pl (x:PV):Prop:=dat x=true/\dep x<=3
theorem chk_pl (B:Pq->Bool)(z:Str):pl (chk B z):=by
 unfold chk
 split
 ·rename_i p _
  split
  ·cases p<;>simp[pl,Pq.P,dat,dats,dep,deps]
  ·simp[pl,dat,dep]
 ·simp[pl,dat,dep]
theorem pls:∀{L:List PV},(∀x∈L,pl x)->dats L=true/\deps L<=3
 | [],_=>⟨rfl,by simp[deps]⟩
 | x::L,h=>by
  obtain ⟨a,b⟩:=h x 3e2
  obtain ⟨c,d⟩:=pls (L:=L) fun y hy=>h y (by simp[hy])
  refine ⟨by simp[dats,a,c],?_⟩
  simp only[deps]
  lia
noncomputable def isNon:PV->Bool
 | .non=>true
 | _=>false
theorem in_non {L:List PV}(h:∀x∈L,pl x):inDP false .non (.lst L)=some (.bl (L.any isNon)):=by
 obtain ⟨a,b⟩:=pls h
 have e:(fun p=>eqD p .non)=isNon:=by
  funext p
  cases p<;>rfl
 unfold inDP
 simp only[a,dat,Vh,Bool.true_and,WK,if_false,e]
 rw[if_pos (by simp;lia)]
def e2 (k:Str):List Str->List PV
 | w::_=>if k="held"\/k="kept"\/k="late" then [chk cnB w] else []
 | []=>[]
def e3 (k:Str):List Str->List PV
 | _::w::_=>if k="held" then [chk nuB w] else []
 | _=>[]
def e4 (k:Str):List Str->List PV
 | w::_=>if k="twin" then [chk lnB w] else []
 | []=>[]
def dueL (k w:Str)(r:3e1):List PV:=chk lnB w::(e2 k r++e3 k r++e4 k r)
def dueV (ws:3e1):PV:=match ws with
 | k::w::r=>if many k=(ws.length:Int)/\(dueL k w r).any isNon=false then .tup (.str k::dueL k w r) else .non
 | _=>.non
def c1:PSt->M PF:=mIfS (mTest (mOp (g2 ltDP) 6e0 5e4)) (mRet (mC .non)) mSkip
def c2:PSt->M PF:=mNew 1 (mLst (aCons (mFn F_qaq (aCons (mMt "str" splitH (mOp 5e6 2e0 3e8) (aCons (mC (.str ".")) aNil)) aNil)) aNil))
def c3:PSt->M PF:=mIfS (mAndT (mTest (mOp (g2 (inDP false)) 2e5 (mTup (aCons (mC (.str "held")) (aCons (mC (.str "kept")) (aCons (mC (.str "late")) aNil)))))) (mTest (mOp (g2 gtP) 6e0 5e4))) (mDrop (mApp 5e0 (aCons (mFn F_qbe (aCons (mOp 5e6 2e0 5e4) (aCons 6e6 (aCons (mC (.int 11)) aNil)))) aNil))) mSkip
def c4:PSt->M PF:=mIfS (mAndT (mTest (mOp (g2 (deepP eqD)) 2e5 (mC (.str "held")))) (mTest (mOp (g2 gtP) 6e0 9e0))) (mDrop (mApp 5e0 (aCons (mFn F_qbe (aCons (mOp 5e6 2e0 9e0) (aCons 6e6 (aCons (mOp (g2 powP) (mC (.int 10)) (mC (.int 60))) aNil)))) aNil))) mSkip
def c5:PSt->M PF:=mIfS (mAndT (mTest (mOp (g2 (deepP eqD)) 2e5 (mC (.str "twin")))) (mTest (mOp (g2 gtP) 6e0 5e4))) (mDrop (mApp 5e0 (aCons (mFn F_qaq (aCons (mMt "str" splitH (mOp 5e6 2e0 5e4) (aCons (mC (.str ".")) aNil)) aNil)) aNil))) mSkip
def c6:PSt->M PF:=mSet 2 (mDict ["held","kept","late","twin","ill","back","loose","behind","ahead"] (aCons (mC (.int 4)) (aCons 9e0 (aCons 9e0 (aCons 9e0 (aCons 5e4 (aCons 5e4 (aCons 5e4 (aCons 5e4 (aCons 5e4 aNil))))))))))
def c7:PSt->M PF:=mIfS (mOrT (mTest (mOp (g2 (deepP fun p q=>!eqD p q)) (mMt "dict" getH2 5e8 (aCons 2e5 (aCons 6e6 aNil))) 6e0)) (mTest (mOp (g2 (inDP false)) (mC .non) 5e0))) (mRet (mC .non)) mSkip
def c8:PSt->M PF:=mRet (mCB (g1 tupH) (aCons (mOp 14e0 (mSlice 2e0 oNo (oPart 3e8)) 5e0) aNil))
theorem due_is:B_qag=mSeq c1 (mSeq c2 (mSeq c3 (mSeq c4 (mSeq c5 (mSeq c6 (mSeq c7 c8)))))):=rfl
noncomputable def dst (ws:3e1)(C:Cs)(x:Option SV):PSt:=[5e5,4e4,x]
theorem ixl (L:List PV)(i:Nat)(p:PV)(h:L[i]? = some p):ixQ (.lst L) (.int (i:Int))=some p:=by
 have hi:i < L.length:=(YC.mp h).1
 show (atI L (i:Int))=_
 unfold atI ixN
 rw[if_pos 4e0,if_pos 4e0]
 show L[(i:Int).toNat]? = _
 rw[VF];exact h
theorem ix0 (a:PV)(R:List PV):ixQ (.lst (a::R)) (.int 0)=some a:=ixl _ 0 _ rfl
theorem ix1 (a b:PV)(R:List PV):ixQ (.lst (a::b::R)) (.int 1)=some b:=ixl _ 1 _ rfl
theorem ix2 (a b c:PV)(R:List PV):ixQ (.lst (a::b::c::R)) (.int 2)=some c:=ixl _ 2 _ rfl
theorem ix3 (a b c d:PV)(R:List PV):ixQ (.lst (a::b::c::d::R)) (.int 3)=some d:=ixl _ 3 _ rfl
section
variable {k w:Str}{r:3e1}(hl:∀z∈k::w::r,z.length<=60)(C:Cs)
include hl
theorem d2:c2 [#[.lst ((k::w::r).map .str)],none,none] C=some (.nx (dst (k::w::r) C none),C++[.lst [chk lnB w]]):=by
 have hw:w.length<=60:=hl w 3e2
 have e1:=Zbx w hw
 have e3:=named_eq (dots w) (fun p hp=>Yv (Zcn hp) hw) C
 rw[named_chk] at e3
 simp only[dst,YM]
 generalize (dots w).map PV.str=D at *
 generalize chk lnB w=cw at *
 generalize r.map PV.str=R at *
 simp![c2,mNew,ix0,ix1,ix2,ix3,e1,e3]
theorem d3 (L:List PV)(hL:L.length<=10):c3 (dst (k::w::r) C none) (C++[.lst L])=some (.nx (dst (k::w::r) C none),C++[.lst (L++e2 k r)]):=by
 have hi:=in3 k
 by_cases hk:k="held"\/k="kept"\/k="late"
 ·rw[decide_eq_true hk] at hi
  cases r with
  | nil=>simp![c3,dst,e2,ix0,ix1,ix2,ix3,hi,gtP]
  | cons y r=>
   have hy:y.length<=60:=hl y 3e2
   have ew:=whole_eq y hy 0 11 (C++[.lst L])
   rw[whole_cn hy] at ew
   simp only[e2,if_pos hk,dst,YM]
   generalize chk cnB y=cy at *
   have hg:(2:Int) < (r.length:Int) + 1 + 1 + 1:=by lia
   have hL2:L.length < 100000:=by lia
   generalize hR:r.map PV.str=R at *
   have hg2:(2:Int) < (R.length:Int) + 1 + 1 + 1:=by rw[←hR,YX];exact hg
   simp![c3,ix0,ix1,ix2,ix3,hi,gtP,hg2,ew,mApp,isLst,appC,hL2]
 ·rw[decide_eq_false hk] at hi
  have:e2 k r=[]:=by
   unfold e2
   split
   ·rw[if_neg hk]
   ·rfl
  rw[this,Yq]
  simp![c3,dst,ix0,ix1,ix2,ix3,hi]
theorem d4 (L:List PV)(hL:L.length<=10):c4 (dst (k::w::r) C none) (C++[.lst L])=some (.nx (dst (k::w::r) C none),C++[.lst (L++e3 k r)]):=by
 have hi:=deq k "held"
 by_cases hk:k="held"
 ·rw[decide_eq_true hk] at hi
  match r,hl with
  | [],hl=>simp![c4,dst,e3,ix0,ix1,ix2,ix3,hi,gtP]
  | [y],hl=>simp![c4,dst,e3,ix0,ix1,ix2,ix3,hi,gtP]
  | x::y::r,hl=>
   have hy:y.length<=60:=hl y 3e2
   have ew:=whole_eq y hy 0 (10 ^ 60) (C++[.lst L])
   rw[whole_nu hy] at ew
   have hp:=pow60
   simp only[e3,if_pos hk,dst,YM]
   generalize chk nuB y=cy at *
   generalize ((10:Int) ^ 60)=M at *
   have hL2:L.length < 100000:=by lia
   generalize hR:r.map PV.str=R at *
   have hg2:(3:Int) < (R.length:Int) + 1 + 1 + 1 + 1:=by lia
   simp![c4,ix0,ix1,ix2,ix3,hi,gtP,hg2,ew,hp,mApp,isLst,appC,hL2]
 ·rw[decide_eq_false hk] at hi
  have:e3 k r=[]:=by
   unfold e3
   split
   ·rw[if_neg hk]
   ·rfl
  rw[this,Yq]
  simp![c4,dst,ix0,ix1,ix2,ix3,hi]
theorem d5 (L:List PV)(hL:L.length<=10):c5 (dst (k::w::r) C none) (C++[.lst L])=some (.nx (dst (k::w::r) C none),C++[.lst (L++e4 k r)]):=by
 have hi:=deq k "twin"
 by_cases hk:k="twin"
 ·rw[decide_eq_true hk] at hi
  cases r with
  | nil=>simp![c5,dst,e4,ix0,ix1,ix2,ix3,hi,gtP]
  | cons y r=>
   have hy:y.length<=60:=hl y 3e2
   have e1:=Zbx y hy
   have e3:=named_eq (dots y) (fun p hp=>Yv (Zcn hp) hy) (C++[.lst L])
   rw[named_chk] at e3
   simp only[e4,if_pos hk,dst,YM]
   generalize (dots y).map PV.str=D at *
   generalize chk lnB y=cy at *
   have hL2:L.length < 100000:=by lia
   generalize hR:r.map PV.str=R at *
   have hg2:(2:Int) < (R.length:Int) + 1 + 1 + 1:=by lia
   simp![c5,ix0,ix1,ix2,ix3,hi,gtP,hg2,e1,e3,mApp,isLst,appC,hL2]
 ·rw[decide_eq_false hk] at hi
  have:e4 k r=[]:=by
   unfold e4
   split
   ·rw[if_neg hk]
   ·rfl
  rw[this,Yq]
  simp![c5,dst,ix0,ix1,ix2,ix3,hi]
omit hl in
theorem due_pl (k w:Str)(r:3e1):(∀x∈dueL k w r,pl x)/\(dueL k w r).length<=4:=by
 have h2:(∀x∈e2 k r,pl x)/\(e2 k r).length<=1:=by
  unfold e2
  split
  ·split
   ·simp[chk_pl]
   ·simp
  ·simp
 have h3:(∀x∈e3 k r,pl x)/\(e3 k r).length<=1:=by
  unfold e3
  split
  ·split
   ·simp[chk_pl]
   ·simp
  ·simp
 have h4:(∀x∈e4 k r,pl x)/\(e4 k r).length<=1:=by
  unfold e4
  split
  ·split
   ·simp[chk_pl]
   ·simp
  ·simp
 unfold dueL
 refine ⟨fun x hx=>?_,by simp;lia⟩
 simp only[Yg,YE] at hx
 rcases hx with rfl | (hx | hx) | hx
 ·exact chk_pl _ _
 ·exact h2.1 x hx
 ·exact h3.1 x hx
 ·exact h4.1 x hx
theorem claim_due_two:F_qag [.v (.lst ((k::w::r).map .str))] C=some (.v (dueV (k::w::r)),C):=by
 obtain ⟨hp,hn⟩:=due_pl k w r
 have n2:(e2 k r).length<=1:=by unfold e2;split<;>(try split)<;>simp
 have n3:(e3 k r).length<=1:=by unfold e3;split<;>(try split)<;>simp
 have s1:c1 [#[.lst ((k::w::r).map .str)],none,none] C=some (.nx [#[.lst ((k::w::r).map .str)],none,none],C):=by
  have hd:=dlt (((k::w::r).map PV.str).length:Int) 2
  have hg:¬((((k::w::r).map PV.str).length:Int) < 2):=by simp;lia
  rw[decide_eq_false hg] at hd
  generalize (k::w::r).map PV.str=WS at *
  simp![c1,hd]
 have s2:=d2 hl C
 have s3:=d3 hl C [chk lnB w] 3e2
 have s4:=d4 hl C ([chk lnB w]++e2 k r) (by simp;lia)
 have s5:=d5 hl C ([chk lnB w]++e2 k r++e3 k r) (by simp;lia)
 have hL:[chk lnB w]++e2 k r++e3 k r++e4 k r=dueL k w r:=by simp[dueL]
 rw[hL] at s5
 have s6:c6 (dst (k::w::r) C none) (C++[.lst (dueL k w r)])=some (.nx (dst (k::w::r) C #[.dct (KS.map .str) MS]),C++[.lst (dueL k w r)]):=by rfl
 have hm:=get_many k
 have hi:=in_non hp
 have hd:=dne (many k) (((k::w::r).length:Nat):Int)
 have run:B_qag [#[.lst ((k::w::r).map .str)],none,none] C=some (.rt (.v (dueV (k::w::r))),C++[.lst (dueL k w r)]):=by
  rw[due_is,Zaz s1,Zaz s2,Zaz s3,Zaz s4,Zaz s5,Zaz s6]
  generalize KS.map PV.str=KK at *
  generalize MS=MM at *
  have hlen:((k::w::r).map PV.str).length=(k::w::r).length:=by simp
  unfold dueV
  dsimp only
  have hc0:=cut0 (k::w::r)
  have ht:(List.take 1 (k::w::r)).map PV.str=[.str k]:=rfl
  rw[ht] at hc0
  have h0:ixQ (.lst ((k::w::r).map PV.str)) (.int 0)=some (.str k):=ix0 _ _
  generalize (k::w::r).length=n at *
  unfold dst
  generalize (k::w::r).map PV.str=WS at *
  generalize dueL k w r=DL at *
  by_cases q1:many k=(n:Int)
  ·rw[decide_eq_true q1] at hd
   by_cases q2:DL.any isNon=false
   ·rw[if_pos ⟨q1,q2⟩]
    rw[q2] at hi
    rw[Zaz (ρ1:=[#[.lst WS],4e4,#[.dct KK MM]]) (C1:=C++[.lst DL]) (by simp![c7,h0,hm,hlen,hd,hi])]
    have hz:1 + DL.length<=1000000:=by lia
    have hz2:DL.length + 1<=1000000:=by lia
    simp![c8,hc0,addP,tupH,hz,hz2]
   ·have q2':DL.any isNon=true:=by simpa using q2
    rw[if_neg (fun q=>q2 q.2)]
    rw[q2'] at hi
    simp![mSeq,c7,h0,hm,hlen,hd,hi]
  ·rw[decide_eq_false q1] at hd
   rw[if_neg (fun q=>q1 q.1)]
   simp![mSeq,c7,h0,hm,hlen,hd]
 unfold F_qag
 generalize B_qag=bl at *
 generalize (k::w::r).map PV.str=WS at *
 generalize dueV (k::w::r)=dv at *
 simp![run]
end
theorem claim_due_eq (ws:3e1)(hl:∀z∈ws,z.length<=60)(C:Cs):F_qag [.v (.lst (ws.map .str))] C=some (.v (dueV ws),C):=by
 match ws,hl with
 | [],_=>
  have hd:=dlt 0 2
  simp at hd
  simp![F_qag,dueV,hd]
 | [k],_=>
  have hd:=dlt 1 2
  simp at hd
  simp![F_qag,dueV,hd]
 | k::w::r,hl=>exact claim_due_two hl C
def Kd.Bs:Kd->List (Pq->Bool)
 | .due=>[lnB,cnB,nuB]
 | .cl=>[lnB,cnB]
 | .nm=>[lnB]
 | .tw=>[lnB,lnB]
def all2:List (Pq->Bool)->List Pq->Bool
 | B::Bs,p::ps=>B p&&all2 Bs ps
 | _,_=>true
theorem kd_all (d:Kd)(ps:List Pq)(h:ps.length=d.Bs.length):d.B ps=all2 d.Bs ps:=by
 cases d with
 | due=>
  match ps,h with
  | [p,q,r],_=>simp[Kd.B,Kd.Bs,dueB,all2,Bool.and_assoc]
 | cl=>
  match ps,h with
  | [p,q],_=>simp[Kd.B,Kd.Bs,clB,all2]
 | nm=>
  match ps,h with
  | [p],_=>simp[Kd.B,Kd.Bs,nmB,all2]
 | tw=>
  match ps,h with
  | [p,q],_=>simp[Kd.B,Kd.Bs,twB,all2]
theorem kd_not (d:Kd)(ps:List Pq)(h:ps.length≠d.Bs.length):d.B ps=false:=by
 cases d with
 | due=>unfold Kd.B dueB;dsimp only;split<;>first | rfl | (simp[Kd.Bs] at h)
 | cl=>unfold Kd.B clB;dsimp only;split<;>first | rfl | (simp[Kd.Bs] at h)
 | nm=>unfold Kd.B nmB;dsimp only;split<;>first | rfl | (simp[Kd.Bs] at h)
 | tw=>unfold Kd.B twB;dsimp only;split<;>first | rfl | (simp[Kd.Bs] at h)
def chks:List (Pq->Bool)->List Str->List PV
 | B::Bs,w::ws=>chk B w::chks Bs ws
 | _,_=>[]
theorem p_not (p:Pq):isNon p.P=false:=by cases p<;>rfl
theorem chks_ok:∀(Bs:List (Pq->Bool)) (ws:3e1),Bs.length=ws.length->match partsV ws with
  | some ps=>if all2 Bs ps=true then chks Bs ws=ps.map Pq.P/\(chks Bs ws).any isNon=false else (chks Bs ws).any isNon=true
  | none=>(chks Bs ws).any isNon=true
 | [],[],_=>by simp[partsV,all2,chks]
 | B::Bs,w::ws,h=>by
  have ih:=chks_ok Bs ws (by simpa using h)
  simp only[partsV,chks]
  cases hp:partV w with
  | none=>
   have:chk B w=.non:=by unfold chk;rw[hp]
   simp[this,isNon]
  | some p=>
   have hc:chk B w=if B p=true then p.P else .non:=by unfold chk;rw[hp]
   cases hq:partsV ws with
   | none=>
    rw[hq] at ih
    simp only[V9,XA]
    rw[ih];simp
   | some ps=>
    rw[hq] at ih
    simp only[Xq]
    by_cases hB:B p=true
    ·rw[if_pos hB] at hc
     by_cases ha:all2 Bs ps=true
     ·have hA:all2 (B::Bs) (p::ps)=true:=by simp[all2,hB,ha]
      dsimp only at ih
      rw[if_pos ha] at ih
      rw[if_pos hA,hc,ih.1]
      have hn:=p_not p
      refine ⟨by simp,?_⟩
      rw[XA,hn,←ih.1,ih.2];rfl
     ·have hA:¬all2 (B::Bs) (p::ps)=true:=by simp[all2,hB,ha]
      dsimp only at ih
      rw[if_neg ha] at ih
      rw[if_neg hA,XA,ih];simp
    ·rw[if_neg hB] at hc
     have hA:¬all2 (B::Bs) (p::ps)=true:=by simp[all2,hB]
     rw[if_neg hA,hc]
     simp[isNon]
inductive KT:Str->Option Kd->Int->Prop
 | held:KT "held" (some .due) 4
 | kept:KT "kept" (some .cl) 3
 | late:KT "late" (some .cl) 3
 | ill:KT "ill" (some .nm) 2
 | back:KT "back" (some .nm) 2
 | twin:KT "twin" (some .tw) 3
 | loose:KT "loose" (some .nm) 2
 | behind:KT "behind" (some .nm) 2
 | ahead:KT "ahead" (some .nm) 2
 | no {k:Str} (h:∀x∈KS,k≠x):KT k none 0
theorem kt_of (k:Str):KT k (kdOf k) (many k):=by
 by_cases h_held:k="held"
 ·subst h_held
  rw[show kdOf "held"=some .due by kernel_rfl,show many "held"=4 by kernel_rfl]
  exact .held
 by_cases h_kept:k="kept"
 ·subst h_kept
  rw[show kdOf "kept"=some .cl by kernel_rfl,show many "kept"=3 by kernel_rfl]
  exact .kept
 by_cases h_late:k="late"
 ·subst h_late
  rw[show kdOf "late"=some .cl by kernel_rfl,show many "late"=3 by kernel_rfl]
  exact .late
 by_cases h_ill:k="ill"
 ·subst h_ill
  rw[show kdOf "ill"=some .nm by kernel_rfl,show many "ill"=2 by kernel_rfl]
  exact .ill
 by_cases h_back:k="back"
 ·subst h_back
  rw[show kdOf "back"=some .nm by kernel_rfl,show many "back"=2 by kernel_rfl]
  exact .back
 by_cases h_twin:k="twin"
 ·subst h_twin
  rw[show kdOf "twin"=some .tw by kernel_rfl,show many "twin"=3 by kernel_rfl]
  exact .twin
 by_cases h_loose:k="loose"
 ·subst h_loose
  rw[show kdOf "loose"=some .nm by kernel_rfl,show many "loose"=2 by kernel_rfl]
  exact .loose
 by_cases h_behind:k="behind"
 ·subst h_behind
  rw[show kdOf "behind"=some .nm by kernel_rfl,show many "behind"=2 by kernel_rfl]
  exact .behind
 by_cases h_ahead:k="ahead"
 ·subst h_ahead
  rw[show kdOf "ahead"=some .nm by kernel_rfl,show many "ahead"=2 by kernel_rfl]
  exact .ahead
 have e1:kdOf k=none:=by
  unfold kdOf kdR kdM
  simp only[h_held,h_kept,h_late,h_ill,h_back,h_twin,h_loose,h_behind,h_ahead,if_false,Option.none_or]
 have e2:many k=0:=by
  unfold many
  simp only[h_held,h_kept,h_late,h_ill,h_back,h_twin,h_loose,h_behind,h_ahead,if_false]
 rw[e1,e2]
 refine .no fun x hx=>?_
 unfold KS at hx
 simp only[Yg,Yr,or_false] at hx
 rcases hx with rfl | rfl | rfl | rfl | rfl | rfl | rfl | rfl | rfl<;>assumption
theorem many_none {k:Str}(h:kdOf k=none):many k=0:=by
 have:=kt_of k
 rw[h] at this
 generalize many k=m at *
 cases this
 rfl
theorem two_of {r:3e1}(h:r.length=2):∃x y,r=[x,y]:=by
 match r,h with
 | [x,y],_=>exact ⟨x,y,rfl⟩
theorem many_kd {k:Str}{d:Kd}(h:kdOf k=some d):many k=((d.Bs.length + 1:Nat):Int)/\∀(w:Str) (r:3e1),(w::r).length=d.Bs.length->dueL k w r=chks d.Bs (w::r):=by
 have ht:=kt_of k
 rw[h] at ht
 generalize many k=m at *
 have one:∀{k:Str},k≠"held"->k≠"kept"->k≠"late"->k≠"twin"->∀(w:Str) (r:3e1),(w::r).length=Kd.nm.Bs.length->dueL k w r=chks Kd.nm.Bs (w::r):=fun n1 n2 n3 n4 w r hr=>by
  have:r=[]:=Y6 (by simpa[Kd.Bs] using hr)
  subst this
  simp[dueL,e2,e3,e4,chks,Kd.Bs]
 have cl:∀{k:Str},k≠"held"->(k="kept"\/k="late")->k≠"twin"->∀(w:Str) (r:3e1),(w::r).length=Kd.cl.Bs.length->dueL k w r=chks Kd.cl.Bs (w::r):=fun {k} n1 n2 n4 w r hr=>by
  obtain ⟨x,rfl⟩:=WW.mp (show r.length=1 by simpa[Kd.Bs] using hr)
  have n5:k="held"\/k="kept"\/k="late":=.inr n2
  simp only[dueL,e2,e3,e4,chks,Kd.Bs,if_pos n5,if_neg n4]
  rfl
 cases ht with
 | held=>
  refine ⟨rfl,fun w r hr=>?_⟩
  obtain ⟨x,y,rfl⟩:=two_of (show r.length=2 by simpa[Kd.Bs] using hr)
  have n1:¬(("held":Str)="twin"):=by decide +kernel
  simp only[dueL,e2,e3,e4,chks,Kd.Bs,if_neg n1,true_or,if_true]
  rfl
 | kept=>exact ⟨rfl,cl 3e5 (.inl rfl) 3e5⟩
 | late=>exact ⟨rfl,cl 3e5 (.inr rfl) 3e5⟩
 | twin=>
  refine ⟨rfl,fun w r hr=>?_⟩
  obtain ⟨x,rfl⟩:=WW.mp (show r.length=1 by simpa[Kd.Bs] using hr)
  have n1:¬(("twin":Str)="held"\/("twin":Str)="kept"\/("twin":Str)="late"):=by decide +kernel
  simp only[dueL,e2,e3,e4,chks,Kd.Bs,if_neg n1,if_true]
  rfl
 | ill=>exact ⟨rfl,one 3e5 3e5 3e5 3e5⟩
 | back=>exact ⟨rfl,one 3e5 3e5 3e5 3e5⟩
 | loose=>exact ⟨rfl,one 3e5 3e5 3e5 3e5⟩
 | behind=>exact ⟨rfl,one 3e5 3e5 3e5 3e5⟩
 | ahead=>exact ⟨rfl,one 3e5 3e5 3e5 3e5⟩
theorem due_read (ws:3e1):dueV ws=match readO ws with | some l=>.tup l | none=>.non:=by
 match ws with
 | []=>rfl
 | [k]=>
  have:readO [k]=none:=by
   simp only[readO,partsV]
   have:claimB k []=false:=by
    unfold claimB
    split
    ·rename_i d _;cases d<;>rfl
    ·rfl
   rw[this];rfl
  rw[this];rfl
 | k::w::r=>
  unfold dueV readO
  dsimp only
  cases hk:kdOf k with
  | none=>
   have hm:=many_none hk
   have hc:∀ps,claimB k ps=false:=fun ps=>by unfold claimB;rw[hk]
   rw[if_neg (fun q=>by have:=q.1;rw[hm] at this;simp at this;lia)]
   cases partsV (w::r) with
   | none=>rfl
   | some ps=>simp[hc]
  | some d=>
   obtain ⟨hm,hL⟩:=many_kd hk
   have hc:∀ps,claimB k ps=d.B ps:=fun ps=>by unfold claimB;rw[hk]
   by_cases hlen:(w::r).length=d.Bs.length
   ·have hk1:=chks_ok d.Bs (w::r) hlen.symm
    rw[hL w r hlen]
    have hmm:many k=((k::w::r).length:Int):=by rw[hm,←hlen];rfl
    cases hp:partsV (w::r) with
    | none=>
     rw[hp] at hk1
     rw[if_neg (fun q=>by rw[hk1] at q;simp at q)]
    | some ps=>
     rw[hp] at hk1
     have hB:claimB k ps=all2 d.Bs ps:=by rw[hc,kd_all d ps (by rw[Zbv hp];exact hlen)]
     dsimp only at hk1 ⊢
     rw[hB]
     by_cases ha:all2 d.Bs ps=true
     ·rw[if_pos ha] at hk1 ⊢
      rw[if_pos ⟨hmm,hk1.2⟩,hk1.1]
     ·rw[if_neg ha] at hk1 ⊢
      rw[if_neg (fun q=>by rw[hk1] at q;simp at q)]
   ·have hmm:many k≠((k::w::r).length:Int):=by
     rw[hm]
     simp only[YD] at hlen ⊢
     lia
    rw[if_neg (fun q=>hmm q.1)]
    cases hp:partsV (w::r) with
    | none=>rfl
    | some ps=>
     have hB:claimB k ps=false:=by rw[hc,kd_not d ps (by rw[Zbv hp];exact hlen)]
     simp[hB]
def gdS (w:Str):Prop:=32∉w.cps.toList/\w.length<=57
def gd:PV->Prop
 | .str w=>gdS w
 | _=>False
structure SI (k:Nat)(C Cx:Cs)(n:Nat)(L:List PV):Prop where
 adv:Adv k C (Cx.take C.length)
 at':Cx[n]? = some (.lst L)
 n:C.length<=n
 gs:GS Cx k
 kl:k < C.length
theorem SI.len {k n:Nat}{C Cx:Cs}{L:List PV}(s:SI k C Cx n L):C.length<=Cx.length:=by
 have:=s.adv.len
 rw[Xr] at this
 lia
theorem SI.go {k n:Nat}{C Cx C2:Cs}{L:List PV}(s:SI k C Cx n L)(a:Adv k Cx C2):SI k C C2 n L:=by
 have h1:=s.len
 have h2:=a.len
 have h3:=s.adv
 have hn:=s.n
 have hk:=s.kl
 refine ⟨⟨by rw[Xr];lia,?_,fun j hj=>?_⟩,by rw[a.oth n 4e0];exact s.at',s.n,a.gs,s.kl⟩
 ·obtain ⟨x,y,e,q⟩:=a.gs
  exact ⟨x,y,by rw[Xy hk];exact e,q⟩
 ·by_cases hj2:j < C.length
  ·have:=h3.oth j hj
   rw[Xy hj2] at this ⊢
   rw[a.oth j hj];exact this
  ·rw[List.getElem?_eq_none (by rw[Xr];lia),List.getElem?_eq_none 4e0]
theorem SI.set {k n:Nat}{C Cx:Cs}{L L':List PV}(s:SI k C Cx n L):SI k C (Cx.set n (.lst L')) n L':=by
 have hn:=s.n
 have hk:=s.kl
 have ht:(Cx.set n (.lst L')).take C.length=Cx.take C.length:=by
  rw[List.take_set,List.set_eq_of_length_le (by rw[Xr];lia)]
 refine ⟨by rw[ht];exact s.adv,setAt s.at',s.n,?_,s.kl⟩
 obtain ⟨x,y,e,q⟩:=s.gs
 exact ⟨x,y,by rw[Y8 4e0];exact e,q⟩
theorem SI.pick {k n:Nat}{C Cx:Cs}{L:List PV}(s:SI k C Cx n L)(m:Int)(hm:0 < m/\m < 1000):∃d C',F_qau [.c k,.v (.int m)] Cx=some (.v (.int d),C')/\0<=d/\d < m/\C'.length=Cx.length/\SI k C C' n L:=by
 obtain ⟨d,C',e,h1,h2,a⟩:=ZaK k m Cx s.gs ⟨hm.1,by lia⟩
 exact ⟨d,C',e,h1,h2,a.len,s.go a⟩
def sp0:PSt->M PF:=mDrop (mPop 5e8 (aCons 12e5 aNil))
def sp1:PSt->M PF:=mDrop (mIns 5e8 (aCons 12e5 (aCons (mOp 5e6 5e8 12e5) aNil)))
def sp2:PSt->M PF:=mSwap (aCons (mOp 5e6 5e8 (mOp (g2 subP) 12e5 3e8)) (aCons (mOp 5e6 5e8 12e5) aNil)) 5e8 12e5 5e8 (mOp (g2 subP) 12e5 3e8)
def sp3:PSt->M PF:=mSetIx (mOp 5e6 (mVar 5) (mFn F_qau (aCons 2e0 (aCons (mC (.int 25)) aNil)))) 5e8 12e5
def sp5:PSt->M PF:=mDrop (mIns 5e8 (aCons 12e5 (aCons (mOp 5e6 (mVar 5) (mFn F_qau (aCons 2e0 (aCons (mC (.int 25)) aNil)))) aNil)))
def sp6:PSt->M PF:=mSetIx (mOp 14e0 (mOp 5e6 5e8 12e5) (mOp 5e6 (mVal (mLst (aCons (mC (.str "0")) (aCons (mC (.str ":")) (aCons (mC (.str ".")) (aCons (mC (.str "a")) (aCons (mC (.str "\n")) (aCons (mC (.str "-")) aNil)))))))) (mFn F_qau (aCons 2e0 (aCons (mC (.int 6)) aNil))))) 5e8 12e5
def sp7:PSt->M PF:=mSetIx (mOp 14e0 (mOp 5e6 (mVal (mLst (aCons (mC (.str "0")) (aCons (mC (.str ":")) (aCons (mC (.str ".")) (aCons (mC (.str "A")) (aCons (mC (.str "\n")) (aCons (mC (.str "-")) aNil)))))))) (mFn F_qau (aCons 2e0 (aCons (mC (.int 6)) aNil)))) (mOp 5e6 5e8 12e5)) 5e8 12e5
def sp8:PSt->M PF:=mNew 2 (mLst (aCons (mC (.str "a")) (aCons (mC (.str "b")) (aCons (mC (.str "1")) (aCons (mC (.str "at")) (aCons (mC (.str "5:")) (aCons (mC (.str "note")) aNil)))))))
noncomputable def sst (k:Nat)(cl:PV)(n:Nat)(d a:Int)(SL:List PV):PSt:=[7e3,#[cl],some (.c n),#[.int d],#[.int a],#[.lst SL]]
def Spd (k:Nat)(C:Cs)(cl:PV)(d a:Int)(SL:List PV)(r:Option (PF×Cs)):Prop:=∃n' Cx' L',r=some (.nx (sst k cl n' d a SL),Cx')/\SI k C Cx' n' L'/\L'.length<=6/\∀p∈L',gd p
section
variable {k n:Nat}{C Cx:Cs}{cl:PV}{d a:Int}{SL L:List PV}(s:SI k C Cx n L)(h0:0<=a)(h1:a < L.length)(hL:L.length<=4)(hg:∀p∈L,∃w,p=.str w/\32∉w.cps.toList/\w.length<=56)(hS:SL.length=25)(hSg:∀p∈SL,gd p)
include hg in
theorem gdL:∀p∈L,gd p:=fun p hp=>by
 obtain ⟨w,rfl,h⟩:=hg p hp
 exact ⟨h.1,by lia⟩
include s h0 h1 in
theorem ix_at:∃p,p∈L/\ixQ (.lst L) (.int a)=some p/\L[a.toNat]? = some p:=by
 have hd:a.toNat < L.length:=by lia
 refine ⟨L[a.toNat],We hd,?_,Ye hd⟩
 simp[ixQ,ixP,atI,ixN,h0,h1,Ye hd]
include s h0 h1 hL hg in
theorem vw0:Spd k C cl d a SL (sp0 14e3 Cx):=by
 obtain ⟨p,hp,_,e⟩:=ix_at s h0 h1
 have hat:=s.at'
 have hl2:L.length < 100000:=by lia
 refine ⟨n,_,L.take a.toNat++L.drop (a.toNat + 1),?_,s.set,by simp;lia,fun q hq=>?_⟩
 ·simp![sp0,sst,mPop,isLst,hat,popC,e,h0,hl2]
 ·rcases YE.mp hq with hq | hq
  ·exact gdL hg q (Wu hq)
  ·exact gdL hg q (Wt hq)
include s h0 h1 hL hg in
theorem vw1:Spd k C cl d a SL (sp1 14e3 Cx):=by
 obtain ⟨p,hp,e2,e⟩:=ix_at s h0 h1
 have hat:=s.at'
 have hl2:L.length < 100000:=by lia
 have hl3:a<=L.length:=by lia
 refine ⟨n,_,L.take a.toNat++p::L.drop a.toNat,?_,s.set,by simp;lia,fun q hq=>?_⟩
 ·simp![sp1,sst,mIns,isLst,hat,insC,e2,h0,hl2,hl3]
 ·rcases YE.mp hq with hq | hq
  ·exact gdL hg q (Wu hq)
  ·rcases Yg.mp hq with rfl | hq
   ·exact gdL hg _ hp
   ·exact gdL hg q (Wt hq)
theorem ix_neg {L:List PV}(hp:0 < L.length):ixN L.length (-1)=some (L.length - 1):=by
 unfold ixN
 rw[if_neg 2e6,if_pos 4e0]
 congr 1
 lia
theorem ZcE {L:List PV}{i:Nat}{x q:PV}(h:q∈L.set i x):q=x\/q∈L:=by
 have:=List.mem_or_eq_of_mem_set h
 exact this.symm
include s h0 h1 hL hg in
theorem vw2:Spd k C cl d a SL (sp2 14e3 Cx):=by
 obtain ⟨p,hp,e2,e⟩:=ix_at s h0 h1
 have hat:=s.at'
 obtain ⟨j,hj,hjl⟩:∃j,ixN L.length (a - 1)=some j/\j < L.length:=by
  by_cases h:a=0
  ·subst h
   exact ⟨L.length - 1,ix_neg 4e0,by lia⟩
  ·refine ⟨(a - 1).toNat,?_,by lia⟩
   unfold ixN
   rw[if_pos 4e0,if_pos 4e0]
 have e3:ixQ (.lst L) (.int (a - 1))=some L[j]:=by
  show atI L (a - 1)=_
  unfold atI
  rw[hj]
  show L[j]? = _
  rw[Ye hjl]
 have hi:ixN L.length a=some a.toNat:=by
  unfold ixN
  rw[if_pos h0,if_pos h1]
 have s1:SI k C (Cx.set n (.lst (L.set a.toNat L[j]))) n (L.set a.toNat L[j]):=s.set
 have hat1:=s1.at'
 have hj2:ixN (L.set a.toNat L[j]).length (a - 1)=some j:=by rw[WJ];exact hj
 refine ⟨n,_,(L.set a.toNat L[j]).set j p,?_,s1.set,by simp;lia,fun q hq=>?_⟩
 ·generalize hq:L[j]=q at *
  generalize hL1:L.set a.toNat q=L1 at *
  generalize hC1:Cx.set n (.lst L1)=C1 at *
  simp![sp2,sst,mSwap,mSetV,subP,hat,e2,e3,setC,hi,hL1,hC1,hat1,hj2]
 ·rcases ZcE hq with rfl | hq
  ·exact gdL hg _ hp
  ·rcases ZcE hq with rfl | hq
   ·exact gdL hg _ (We hjl)
   ·exact gdL hg _ hq
include s h0 h1 hL hg hS hSg in
theorem vw3:Spd k C cl d a SL (sp3 14e3 Cx):=by
 obtain ⟨c,C1,e1,b1,b2,hl,s1⟩:=s.pick 25 2e6
 obtain ⟨p,hp,e2⟩:=Zbl SL c b1 4e0
 have hat:=s1.at'
 have hi:ixN L.length a=some a.toNat:=by
  unfold ixN
  rw[if_pos h0,if_pos h1]
 refine ⟨n,_,L.set a.toNat p,?_,s1.set,by simp;lia,fun q hq=>?_⟩
 ·simp![sp3,sst,mSetIx,e1,e2,setC,hat,hi]
 ·rcases ZcE hq with rfl | hq
  ·exact hSg _ hp
  ·exact gdL hg _ hq
include s h0 h1 hL hg hS hSg in
theorem vw5:Spd k C cl d a SL (sp5 14e3 Cx):=by
 obtain ⟨c,C1,e1,b1,b2,hl,s1⟩:=s.pick 25 2e6
 obtain ⟨p,hp,e2⟩:=Zbl SL c b1 4e0
 have hat0:=s.at'
 have hat:=s1.at'
 have hl2:L.length < 100000:=by lia
 have hl3:a<=L.length:=by lia
 refine ⟨n,_,L.take a.toNat++p::L.drop a.toNat,?_,s1.set,by simp;lia,fun q hq=>?_⟩
 ·simp![sp5,sst,mIns,isLst,hat0,hat,insC,e1,e2,h0,hl2,hl3]
 ·rcases YE.mp hq with hq | hq
  ·exact gdL hg q (Wu hq)
  ·rcases Yg.mp hq with rfl | hq
   ·exact hSg _ hp
   ·exact gdL hg q (Wt hq)
theorem gd_cat {w c:Str}(h1:32∉w.cps.toList/\w.length<=56)(h2:32∉c.cps.toList)(h3:c.length<=1):gdS (w++c)/\gdS (c++w):=by
 have ll:∀a b:Str,(a++b).length=a.length + b.length:=fun a b=>VI a b
 refine ⟨⟨?_,by rw[ll];lia⟩,⟨?_,by rw[ll];lia⟩⟩
 ·rw[ZbM,Xj]
  simp only[YE,not_or]
  exact ⟨h1.1,h2⟩
 ·rw[ZbM,Xj]
  simp only[YE,not_or]
  exact ⟨h2,h1.1⟩
noncomputable def oneB:PV->Bool
 | .str c=>decide (c.length<=1)&&!c.cps.toList.contains 32
 | _=>false
theorem one_ok {p:PV}(h:oneB p=true):∃c,p=.str c/\32∉c.cps.toList/\c.length<=1:=by
 cases p with
 | str c=>
  simp only[oneB,YG,decide_eq_true_eq,VG] at h
  exact ⟨c,rfl,fun q=>by rw[W7.mpr q] at h;simp at h,h.1⟩
 | _=>cases h
include s h0 h1 hL hg in
theorem vw6:Spd k C cl d a SL (sp6 14e3 Cx):=by
 obtain ⟨p,hp,e2,e⟩:=ix_at s h0 h1
 obtain ⟨w,rfl,hw⟩:=hg p hp
 have hat0:=s.at'
 obtain ⟨c,C1,e1,b1,b2,hl,s1⟩:=s.pick 6 2e6
 obtain ⟨q,hq,e3⟩:=Zbl [.str "0",.str ":",.str ".",.str "a",.str "\n",.str "-"] c b1 (by simpa using b2)
 have hq2:oneB q=true:=YV.mp (show [PV.str "0",.str ":",.str ".",.str "a",.str "\n",.str "-"].all oneB=true by decide +kernel) q hq
 obtain ⟨y,rfl,hy1,hy2⟩:=one_ok hq2
 have hat:=s1.at'
 have hi:ixN L.length a=some a.toNat:=by
  unfold ixN
  rw[if_pos h0,if_pos h1]
 have hc:w.length + y.length<=1000000:=by lia
 refine ⟨n,_,L.set a.toNat (.str (w++y)),?_,s1.set,by simp;lia,fun q hq=>?_⟩
 ·simp![sp6,sst,mSetIx,hat0,e1,e2,e3,addP,hc,setC,hat,hi]
 ·rcases ZcE hq with rfl | hq
  ·exact (gd_cat hw hy1 hy2).1
  ·exact gdL hg _ hq
include s h0 h1 hL hg in
theorem vw7:Spd k C cl d a SL (sp7 14e3 Cx):=by
 obtain ⟨p,hp,e2,e⟩:=ix_at s h0 h1
 obtain ⟨w,rfl,hw⟩:=hg p hp
 have hat0:=s.at'
 obtain ⟨c,C1,e1,b1,b2,hl,s1⟩:=s.pick 6 2e6
 obtain ⟨q,hq,e3⟩:=Zbl [.str "0",.str ":",.str ".",.str "A",.str "\n",.str "-"] c b1 (by simpa using b2)
 have hq2:oneB q=true:=YV.mp (show [PV.str "0",.str ":",.str ".",.str "A",.str "\n",.str "-"].all oneB=true by decide +kernel) q hq
 obtain ⟨y,rfl,hy1,hy2⟩:=one_ok hq2
 have hat:=s1.at'
 have hi:ixN L.length a=some a.toNat:=by
  unfold ixN
  rw[if_pos h0,if_pos h1]
 have hc:y.length + w.length<=1000000:=by lia
 refine ⟨n,_,L.set a.toNat (.str (y++w)),?_,s1.set,by simp;lia,fun q hq=>?_⟩
 ·simp![sp7,sst,mSetIx,hat0,e1,e2,e3,addP,hc,setC,hat,hi]
 ·rcases ZcE hq with rfl | hq
  ·exact (gd_cat hw hy1 hy2).2
  ·exact gdL hg _ hq
noncomputable def A6:List PV:=[.str "a",.str "b",.str "1",.str "at",.str "5:",.str "note"]
noncomputable def gdB:PV->Bool
 | .str c=>decide (c.length<=57)&&!c.cps.toList.contains 32
 | _=>false
theorem gd_of {p:PV}(h:gdB p=true):gd p:=by
 cases p with
 | str c=>
  simp only[gdB,YG,decide_eq_true_eq,VG] at h
  exact ⟨fun q=>by rw[W7.mpr q] at h;simp at h,h.1⟩
 | _=>cases h
include s in
theorem vw8:Spd k C cl d a SL (sp8 14e3 Cx):=by
 have hlen:=s.len
 have hk:=s.kl
 refine ⟨Cx.length,Cx++[.lst A6],A6,rfl,⟨?_,by simp,hlen,?_,hk⟩,by simp[A6],fun p hp=>gd_of (YV.mp (show A6.all gdB=true by decide +kernel) p hp)⟩
 ·rw[List.take_append_of_le_length hlen];exact s.adv
 ·obtain ⟨x,y,e,q⟩:=s.gs
  exact ⟨x,y,by rw[Yx 4e0];exact e,q⟩
end
def q1:PSt->M PF:=mNew 2 (mFnF FF_qai 7e1)
def q2:PSt->M PF:=mSet 3 (mFn F_qau (aCons 2e0 (aCons (mC (.int 9)) aNil)))
def q3:PSt->M PF:=mSet 4 (mFn F_qau (aCons 2e0 (aCons (mCB (g1 lenH) (aCons 5e8 aNil)) aNil)))
def q4:PSt->M PF:=mSet 5 (mVal (mLst (aCons (mC (.str "0")) (aCons (mC (.str "01")) (aCons (mC (.str "-1")) (aCons (mC (.str "12")) (aCons (mC (.str "11")) (aCons (mC (.str "")) (aCons (mC (.str "x")) (aCons (mC (.str "Held")) (aCons (mC (.str "held")) (aCons (mC (.str "kept")) (aCons (mC (.str "late")) (aCons (mC (.str "ill")) (aCons (mC (.str "twin")) (aCons (mC (.str "ahead")) (aCons (mC (.str "told")) (aCons (mC (.str "a.b")) aNil))))))))))))))))))
def q5:PSt->M PF:=mSet 5 (mOp 14e0 (mVar 5) (mVal (mLst (aCons (mC (.str "a.b.0")) (aCons (mC (.str "a.b.c")) (aCons (mC (.str "a.b.1.2")) (aCons (mC (.str "A.b.1")) (aCons (mC (.str "a..1")) (aCons (mC (.str "a.b.01")) (aCons (mC (.str "a.abcdefghijklm.1")) (aCons (mC (.str "a.b.1")) (aCons (mOp 5e6 5e8 (mNeg 3e8)) aNil))))))))))))
def is3 (i:Int):PSt->M Bool:=mTest (mOp (g2 eqP) 14e2 (mC (.int i)))
def q6:PSt->M PF:=mIfS (is3 0) sp0 (mIfS (is3 1) sp1 (mIfS (is3 2) sp2 (mIfS (mTest (mOp (g2 ltP) 14e2 (mC (.int 5)))) sp3 (mIfS (is3 5) sp5 (mIfS (is3 6) sp6 (mIfS (is3 7) sp7 sp8))))))
theorem spoilt_is:B_qay=mSeq q1 (mSeq q2 (mSeq q3 (mSeq q4 (mSeq q5 (mSeq q6 (mRet 5e8)))))):=rfl
theorem is3_eq (k:Nat)(cl:PV)(n:Nat)(d a:Int)(SL:List PV)(i:Int)(C:Cs):is3 i 14e3 C=some (decide (d=i),C):=by
 simp![is3,sst]
theorem lt3_eq (k:Nat)(cl:PV)(n:Nat)(d a:Int)(SL:List PV)(C:Cs):mTest (mOp (g2 ltP) 14e2 (mC (.int 5))) 14e3 C=some (decide (d < 5),C):=by
 simp![sst,ltP]
theorem ifS_t {c:4e8}{f g:9e3}{ρ:PSt}{C:Cs}(h:c ρ C=some (true,C)):mIfS c f g ρ C=f ρ C:=by
 unfold mIfS bnd;rw[h];rfl
theorem ifS_f {c:4e8}{f g:9e3}{ρ:PSt}{C:Cs}(h:c ρ C=some (false,C)):mIfS c f g ρ C=g ρ C:=by
 unfold mIfS bnd;rw[h];rfl
section
variable {k n:Nat}{C Cx:Cs}{cl:PV}{d a:Int}{SL L:List PV}(s:SI k C Cx n L)(h0:0<=a)(h1:a < L.length)(hL:L.length<=4)(hg:∀p∈L,∃w,p=.str w/\32∉w.cps.toList/\w.length<=56)(hS:SL.length=25)(hSg:∀p∈SL,gd p)
include s h0 h1 hL hg hS hSg in
theorem q6_ok:Spd k C cl d a SL (q6 14e3 Cx):=by
 have e:=fun i=>is3_eq k cl n d a SL i Cx
 have el:=lt3_eq k cl n d a SL Cx
 unfold q6
 by_cases c0:d=0
 ·rw[ifS_t (by rw[e,decide_eq_true c0])];exact vw0 s h0 h1 hL hg
 rw[ifS_f (by rw[e,decide_eq_false c0])]
 by_cases c1:d=1
 ·rw[ifS_t (by rw[e,decide_eq_true c1])];exact vw1 s h0 h1 hL hg
 rw[ifS_f (by rw[e,decide_eq_false c1])]
 by_cases c2:d=2
 ·rw[ifS_t (by rw[e,decide_eq_true c2])];exact vw2 s h0 h1 hL hg
 rw[ifS_f (by rw[e,decide_eq_false c2])]
 by_cases c3:d < 5
 ·rw[ifS_t (by rw[el,decide_eq_true c3])];exact vw3 s h0 h1 hL hg hS hSg
 rw[ifS_f (by rw[el,decide_eq_false c3])]
 by_cases c5:d=5
 ·rw[ifS_t (by rw[e,decide_eq_true c5])];exact vw5 s h0 h1 hL hg hS hSg
 rw[ifS_f (by rw[e,decide_eq_false c5])]
 by_cases c6:d=6
 ·rw[ifS_t (by rw[e,decide_eq_true c6])];exact vw6 s h0 h1 hL hg
 rw[ifS_f (by rw[e,decide_eq_false c6])]
 by_cases c7:d=7
 ·rw[ifS_t (by rw[e,decide_eq_true c7])];exact vw7 s h0 h1 hL hg
 rw[ifS_f (by rw[e,decide_eq_false c7])]
 exact vw8 s
end
noncomputable def S16:List PV:=[.str "0",.str "01",.str "-1",.str "12",.str "11",.str "",.str "x",.str "Held",.str "held",.str "kept",.str "late",.str "ill",.str "twin",.str "ahead",.str "told",.str "a.b"]
noncomputable def S8:List PV:=[.str "a.b.0",.str "a.b.c",.str "a.b.1.2",.str "A.b.1",.str "a..1",.str "a.b.01",.str "a.abcdefghijklm.1",.str "a.b.1"]
theorem strs_of:∀{L:List PV},(∀p∈L,gd p)->∃ws:List Str,L=ws.map .str/\∀w∈ws,gdS w
 | [],_=>⟨[],rfl,by simp⟩
 | p::L,h=>by
  obtain ⟨ws,rfl,hw⟩:=strs_of (L:=L) fun q hq=>h q (by simp[hq])
  have:=h p 3e2
  cases p with
  | str w=>exact ⟨w::ws,rfl,fun z hz=>(Yg.mp hz).elim (fun e=>e ▸ this) (hw z)⟩
  | _=>exact this.elim
theorem words_facts {l:List Pt}(h:Its l):∀w∈wordsOf l,32∉w.cps.toList/\w.cps.toList≠[]/\w.length<=56:=by
 intro w hw
 obtain ⟨p,hp,rfl⟩:=X4.mp hw
 have h1:=pt_len (h.ok p hp)
 refine ⟨pt_free (h.ok p hp),fun e=>?_,h1.2⟩
 have:=h1.1
 rw[Zbb,e] at this
 simp at this
theorem spoilt_adv (k:Nat)(C:Cs)(g:GS C k){kd:Str}{ps:List Pt}(h:Its (.st kd::ps)):
  ∃(ws:3e1) (C':Cs),F_qay [.c k,.v (claimP (.st kd::ps))] C=some (.v (.lst (ws.map .str)),C')/\ws.length<=6/\(∀w∈ws,gdS w)/\Adv k C C':=by
 have hk:k < C.length:=by
  obtain ⟨x,y,e,_⟩:=g
  exact (YC.mp e).1
 have e1:=Zc0 h C
 have hn:=h.n
 have hlen:(wordsOf (.st kd::ps)).length=(Pt.st kd::ps).length:=by simp[wordsOf]
 have hL:((wordsOf (.st kd::ps)).map PV.str).length<=4:=by rw[YX,hlen];exact hn
 have hL1:1<=((wordsOf (.st kd::ps)).map PV.str).length:=by rw[YX,hlen];simp
 have hg:∀p∈(wordsOf (.st kd::ps)).map PV.str,∃w,p=.str w/\32∉w.cps.toList/\w.length<=56:=fun p hp=>by
  obtain ⟨w,hw,rfl⟩:=X4.mp hp
  have:=words_facts h w hw
  exact ⟨w,rfl,this.1,this.2.2⟩
 generalize (wordsOf (.st kd::ps)).map PV.str=L at *
 generalize claimP (.st kd::ps)=cl at *
 have s0:SI k C (C++[.lst L]) C.length L:=⟨by rw[List.take_left];exact Adv.refl g,by simp,Yo _,by
  obtain ⟨x,y,e,q⟩:=g
  exact ⟨x,y,by rw[Yx hk];exact e,q⟩,hk⟩
 obtain ⟨d,C1,e2,b1,b2,l1,s1⟩:=s0.pick 9 2e6
 obtain ⟨a,C2,e3,b3,b4,l2,s2⟩:=s1.pick (L.length:Int) 4e0
 have hlast:0 < L.length:=by lia
 have hix:ixQ (.lst L) (.int (-1))=some L[L.length - 1]:=by
  show atI L (-1)=_
  unfold atI
  rw[ix_neg hlast]
  show L[L.length - 1]? = _
  rw[Ye]
 have hgl:=gdL hg _ (We (show L.length - 1 < L.length by lia))
 generalize L[L.length - 1]=la at *
 have hS:(S16++(S8++[la])).length=25:=rfl
 have hSg:∀p∈S16++(S8++[la]),gd p:=fun p hp=>by
  rcases YE.mp hp with hp | hp
  ·exact gd_of (YV.mp (show S16.all gdB=true by decide +kernel) p hp)
  ·rcases YE.mp hp with hp | hp
   ·exact gd_of (YV.mp (show S8.all gdB=true by decide +kernel) p hp)
   ·have:p=la:=by simpa using hp
    rw[this];exact hgl
 have hat1:=s1.at'
 have hat2:=s2.at'
 have t1:q1 [7e3,#[cl],none,none,none,none] C=some (.nx [7e3,#[cl],4e4,none,none,none],C++[.lst L]):=by
  simp![q1,mNew,e1]
 have t2:q2 [7e3,#[cl],4e4,none,none,none] (C++[.lst L])=some (.nx [7e3,#[cl],4e4,#[.int d],none,none],C1):=by
  simp![q2,e2]
 have t3:q3 [7e3,#[cl],4e4,#[.int d],none,none] C1=some (.nx [7e3,#[cl],4e4,#[.int d],#[.int a],none],C2):=by
  simp![q3,hat1,e3]
 have t4:q4 [7e3,#[cl],4e4,#[.int d],#[.int a],none] C2=some (.nx [7e3,#[cl],4e4,#[.int d],#[.int a],#[.lst S16]],C2):=by rfl
 have t5:q5 [7e3,#[cl],4e4,#[.int d],#[.int a],#[.lst S16]] C2=some (.nx (sst k cl C.length d a (S16++(S8++[la]))),C2):=by
  have hl16:S16.length=16:=rfl
  unfold sst S8
  generalize S16=SS at *
  simp![q5,mNeg,negP,hat2,hix,addP,hl16]
 obtain ⟨n',C3,L',t6,s3,hl6,hg6⟩:=q6_ok (cl:=cl) (d:=d) (SL:=S16++(S8++[la])) s2 b3 b4 hL hg hS hSg
 obtain ⟨ws,rfl,hws⟩:=strs_of hg6
 have run:B_qay [7e3,#[cl],none,none,none,none] C=some (.rt (.c n'),C3):=by
  rw[spoilt_is,Zaz t1,Zaz t2,Zaz t3,Zaz t4,Zaz t5,Zaz t6];rfl
 refine ⟨ws,C3.take C.length,?_,by simpa using hl6,hws,s3.adv⟩
 have hat3:=s3.at'
 have hn3:=s3.n
 have hn4:¬n' < C.length:=by lia
 unfold F_qay
 generalize B_qay=bl at *
 sleep 10
 simp![run,hn4,hat3]
inductive Cl:Str->List Pt->Prop
 | held (x:Nm) (c n:Int) (hx:x.Ok) (h0:0<=c) (h1:c < 12) (h2:0<=n) (h3:n < 10 ^ 30):Cl "held" [.nm x,.num c,.num n]
 | kept (x:Nm) (c:Int) (hx:x.Ok) (h0:0<=c) (h1:c < 12):Cl "kept" [.nm x,.num c]
 | late (x:Nm) (c:Int) (hx:x.Ok) (h0:0<=c) (h1:c < 12):Cl "late" [.nm x,.num c]
 | ill (x:Nm) (hx:x.Ok):Cl "ill" [.nm x]
 | back (x:Nm) (hx:x.Ok):Cl "back" [.nm x]
 | twin (x y:Nm) (hx:x.Ok) (hy:y.Ok):Cl "twin" [.nm x,.nm y]
 | loose (x:Nm) (hx:x.Ok):Cl "loose" [.nm x]
 | behind (x:Nm) (hx:x.Ok):Cl "behind" [.nm x]
 | ahead (x:Nm) (hx:x.Ok):Cl "ahead" [.nm x]
theorem cl_its {k:Str}{ps:List Pt}(h:Cl k ps):Its (.st k::ps):=by
 cases h with
 | held x c n hx h0 h1 h2 h3=>exact ⟨by simp[Pt.Ok,hx,h0,h1,h2];exact ⟨by decide +kernel,by lia,by lia⟩,by simp,by simp⟩
 | kept x c hx h0 h1=>exact ⟨by simp[Pt.Ok,hx,h0];exact ⟨by decide +kernel,by lia⟩,by simp,by simp⟩
 | late x c hx h0 h1=>exact ⟨by simp[Pt.Ok,hx,h0];exact ⟨by decide +kernel,by lia⟩,by simp,by simp⟩
 | ill x hx=>exact ⟨by simp[Pt.Ok,hx];decide +kernel,by simp,by simp⟩
 | back x hx=>exact ⟨by simp[Pt.Ok,hx];decide +kernel,by simp,by simp⟩
 | twin x y hx hy=>exact ⟨by simp[Pt.Ok,hx,hy];decide +kernel,by simp,by simp⟩
 | loose x hx=>exact ⟨by simp[Pt.Ok,hx];decide +kernel,by simp,by simp⟩
 | behind x hx=>exact ⟨by simp[Pt.Ok,hx];decide +kernel,by simp,by simp⟩
 | ahead x hx=>exact ⟨by simp[Pt.Ok,hx];decide +kernel,by simp,by simp⟩
theorem claim_adv (k:Nat)(C:Cs)(g:GS C k):∃(kd:Str) (ps:List Pt) (C':Cs),F_qae [.c k] C=some (.v (claimP (.st kd::ps)),C')/\Cl kd ps/\Adv k C C':=by
 obtain ⟨x,C1,e1,hx,a1⟩:=name_adv k C g
 obtain ⟨c,C2,e2,hc0,hc1,a2⟩:=ZaK k 12 C1 a1.gs 2e6
 obtain ⟨n,C3,e3,hn0,hn1,a3⟩:=Zdb k C2 a2.gs
 obtain ⟨y,C4,e4,hy,a4⟩:=name_adv k C3 a3.gs
 obtain ⟨d,C5,e5,hd0,hd1,a5⟩:=ZaK k 9 C4 a4.gs 2e6
 have at1:=(((a1.trans a2).trans a3).trans a4).trans a5
 obtain ⟨p,hp,e6⟩:=Zbl [.tup [.str "held",x.P,.int c,.int n],.tup [.str "kept",x.P,.int c],.tup [.str "late",x.P,.int c],.tup [.str "ill",x.P],.tup [.str "back",x.P],.tup [.str "twin",x.P,y.P],.tup [.str "loose",x.P],.tup [.str "behind",x.P],.tup [.str "ahead",x.P]] d hd0 (by simpa using hd1)
 have run:F_qae [.c k] C=some (.v p,C5):=by
  generalize x.P=XP at *
  generalize y.P=YP at *
  simp![F_qae,addP,e1,e2,e3,e4,e5,e6,a1.take,a2.take,a3.take,a4.take,a5.take,at1.take]
 rw[run]
 simp only[Yg,Yr,or_false] at hp
 rcases hp with rfl | rfl | rfl | rfl | rfl | rfl | rfl | rfl | rfl
 ·exact ⟨"held",[.nm x,.num c,.num n],C5,rfl,.held x c n hx hc0 hc1 hn0 hn1,at1⟩
 ·exact ⟨"kept",[.nm x,.num c],C5,rfl,.kept x c hx hc0 hc1,at1⟩
 ·exact ⟨"late",[.nm x,.num c],C5,rfl,.late x c hx hc0 hc1,at1⟩
 ·exact ⟨"ill",[.nm x],C5,rfl,.ill x hx,at1⟩
 ·exact ⟨"back",[.nm x],C5,rfl,.back x hx,at1⟩
 ·exact ⟨"twin",[.nm x,.nm y],C5,rfl,.twin x y hx hy,at1⟩
 ·exact ⟨"loose",[.nm x],C5,rfl,.loose x hx,at1⟩
 ·exact ⟨"behind",[.nm x],C5,rfl,.behind x hx,at1⟩
 ·exact ⟨"ahead",[.nm x],C5,rfl,.ahead x hx,at1⟩
theorem blanks (m:Int)(h0:0<=m)(h1:m<=10):∃b,mulSP (.str " ") (.int m)=some (.str b)/\b.cps.toList=YJ m.toNat 32/\b.length<=10:=by
 refine ⟨Txt.mul " " m,?_,mulS_list (c:=32) rfl m,?_⟩
 ·unfold mulSP
  dsimp only
  rw[if_pos ⟨rfl,by lia,by lia⟩]
 ·rw[mulS_len rfl];lia
def txB:PSt->M PF:=mSet 2 (mOp 14e0 (mOp 14e0 5e8 (mOp (g2 mulSP) (mC (.str " ")) (mOp (g2 mulP) (mCB (g1 intH) (aCons (mOp (g2 gtP) 14e2 6e6) aNil)) (mOp 5e6 (mVal (mLst (aCons 3e8 (aCons 3e8 (aCons 5e4 (aCons (mC (.int 4)) aNil)))))) 7e0)))) 12e5)
structure TI (i:Nat)(done:List (List Nat))(t:Str):Prop where
 w:wds 32 t.cps.toList=done
 z:i=0->∃j,t.cps.toList=YJ j 32
 l:t.length<=10 + 100 * i
noncomputable def nz (l:9e2):Bool:=!l.isEmpty
theorem nz_ne {l:9e2}(h:nz l=true):l≠[]:=fun e=>by subst e;cases h
theorem nz_nil {l:9e2}(h:¬nz l=true):l=[]:=by cases l with | nil=>rfl | cons=>exact absurd rfl h
theorem tx_step (k:Nat)(C:Cs)(g:GS C k)(W:Option SV)(i:Nat)(hi:i<=10)(t w:Str)(done:List (List Nat))(I:TI i done t)(hw:32∉w.cps.toList)(hl:w.length<=57):
  ∃t' C',txB [7e3,W,#[.str t],#[(.int (i:Int))],#[.str w]] C=some (.nx [7e3,W,#[.str t'],#[(.int (i:Int))],#[.str w]],C')/\TI (i + 1) (done++[w.cps.toList].filter nz) t'/\Adv k C C':=by
 obtain ⟨d,C1,e1,h1,h2,a1⟩:=ZaK k 4 C g 2e6
 obtain ⟨p,hp,e2⟩:=Zbl [.int 1,.int 1,.int 2,.int 4] d h1 (by simpa using h2)
 obtain ⟨b,rfl,hb0,hb1⟩:∃b:Int,p=.int b/\1<=b/\b<=4:=by
  simp only[Yg,Yr,or_false] at hp
  rcases hp with rfl | rfl | rfl | rfl<;>exact ⟨_,rfl,by decide,by decide⟩
 obtain ⟨m,hm,hm0,hm1⟩:∃m:Int,(if 0 < (i:Int) then (1:Int) else 0) * b=m/\(i=0->m=0)/\(0 < i->1<=m/\m<=4)/\0<=m/\m<=10:=by
  refine ⟨_,rfl,?_⟩
  by_cases h:i=0
  ·subst h;simp
  ·rw[if_pos 4e0];lia
 obtain ⟨bl,e3,hbl,hbn⟩:=blanks m 4e0 4e0
 have hlt:=I.l
 have ll:∀a b:Str,(a++b).length=a.length + b.length:=fun a b=>VI a b
 refine ⟨t++bl++w,C1,?_,⟨?_,fun h=>absurd h 4e0,?_⟩,a1⟩
 ·have c1:t.length + bl.length<=1000000:=by lia
  have c2:(t++bl).length + w.length<=1000000:=by rw[ll];lia
  have hb:-18446744073709551616 < b/\b < 18446744073709551616:=by lia
  by_cases h:i=0
  ·subst h
   have hm':=hm0 rfl
   subst hm'
   simp![txB,intH,addP,e1,e2,hb,e3,c1,c2,a1.take]
  ·have h':0 < i:=by lia
   have hm':b=m:=by rw[←hm,if_pos 4e0];lia
   subst hm'
   simp![txB,intH,addP,e1,e2,hb,e3,c1,c2,a1.take,h']
 ·rw[ZbM,ZbM,Xj,Xj,hbl]
  by_cases hz:nz w.cps.toList=true
  ·have hn:=nz_ne hz
   rw[show [w.cps.toList].filter nz=[w.cps.toList] by simp[hz]]
   by_cases h:i=0
   ·obtain ⟨j,hj⟩:=I.z h
    have hd:done=[]:=by
     rw[←I.w,hj]
     have:=Zb4 32 [] j
     rw[Yq] at this
     exact this
    rw[hm0 h,hj,hd]
    show wds 32 (YJ j 32++[]++w.cps.toList)=_
    rw[Yq,Zb4,wds_one hw hn];rfl
   ·obtain ⟨q,hq⟩:∃q,m.toNat=q + 1:=⟨m.toNat - 1,by lia⟩
    rw[hq,Wb,YI,List.cons_append,wds_app,I.w,Zb4,wds_one hw hn]
  ·rw[nz_nil hz,Yq,wds_end,I.w]
   simp[nz]
 ·rw[ll,ll];lia
noncomputable def numd:Nat->List Str->List PV
 | _,[]=>[]
 | i,w::r=>.tup [.int (i:Nat),.str w]::numd (i + 1) r
theorem numd_get:∀(ws:3e1) (i j:Nat),(numd i ws)[j]? = ws[j]?.map fun w=>.tup [.int ((i + j:Nat):Int),.str w]
 | [],i,j=>by simp[numd]
 | w::r,i,0=>by simp[numd]
 | w::r,i,j + 1=>by
  simp only[numd,List.getElem?_cons_succ,numd_get r (i + 1) j]
  congr 2
  funext w
  rw[show i + 1 + j=i + (j + 1) by lia]
theorem enum_numd (ws:3e1):enumL (ws.map .str)=numd 0 ws:=by
 apply List.ext_getElem?
 intro j
 rw[numd_get]
 unfold enumL
 by_cases h:j < ws.length
 ·simp[h,List.getD]
 ·simp[h]
def hE:PV->PSt->Option PSt:=hTup (hCons (hName 3) (hCons (hName 4) hNil)) 2
theorem tx_loop (k:Nat)(W:Option SV):∀(rest:3e1) (i:Nat) (done:List (List Nat)) (t:Str) (x3 x4:Option SV) (C:Cs),i + rest.length<=10->(∀w∈rest,gdS w)->TI i done t->GS C k->
  ∃t' x3' x4' C',loop hE txB (numd i rest) [7e3,W,#[.str t],x3,x4] C=some (.nx [7e3,W,#[.str t'],x3',x4'],C')/\TI (i + rest.length) (done++(rest.map (·.cps.toList)).filter nz) t'/\Adv k C C'
 | [],i,done,t,x3,x4,C,_,_,I,g=>⟨t,x3,x4,C,rfl,by simpa using I,Adv.refl g⟩
 | w::r,i,done,t,x3,x4,C,hi,hw,I,g=>by
  simp only[YD] at hi
  obtain ⟨a,c⟩:=hw w 3e2
  obtain ⟨t1,C1,e1,I1,a1⟩:=tx_step k C g W i 4e0 t w done I a c
  obtain ⟨t2,y3,y4,C2,e2,I2,a2⟩:=tx_loop k W r (i + 1) _ t1 #[(.int (i:Nat))] #[.str w] C1 4e0 (fun z hz=>hw z (by simp[hz])) I1 a1.gs
  refine ⟨t2,y3,y4,C2,?_,?_,a1.trans a2⟩
  ·simp only[numd,loop]
   rw[show hE (.tup [.int (i:Nat),.str w]) [7e3,W,#[.str t],x3,x4]=some [7e3,W,#[.str t],#[(.int (i:Nat))],#[.str w]] from rfl]
   simp only[bnd,e1,e2]
  ·rw[show i + (w::r).length=i + 1 + r.length by simp;lia]
   have:(done++[w.cps.toList].filter nz)++(r.map (·.cps.toList)).filter nz=done++((w::r).map (·.cps.toList)).filter nz:=by
    rw[YI,←List.filter_append];rfl
   rw[←this];exact I2
def u1:PSt->M PF:=mSet 2 (mOp (g2 mulSP) (mC (.str " ")) (mOp 5e6 (mVal (mLst (aCons 6e6 (aCons 3e8 (aCons 6e6 (aCons 9e0 aNil)))))) 7e0))
def u2:PSt->M PF:=mFor (mEnum 7e1) hE txB
def u3:PSt->M PF:=mRet (mOp 14e0 5e8 (mOp (g2 mulSP) (mC (.str " ")) (mOp 5e6 (mVal (mLst (aCons 6e6 (aCons 6e6 (aCons 3e8 (aCons 5e4 aNil)))))) 7e0)))
theorem text_is:B_qba=mSeq u1 (mSeq u2 u3):=rfl
theorem text_adv (k:Nat)(C:Cs)(g:GS C k)(ws:3e1)(hn:ws.length<=6)(hw:∀w∈ws,gdS w):
  ∃z C',F_qba [.c k,.v (.lst (ws.map .str))] C=some (.v (.str z),C')/\wds 32 z.cps.toList=(ws.map (·.cps.toList)).filter nz/\z.length<=90000/\Adv k C C':=by
 obtain ⟨d,C1,e1,h1,h2,a1⟩:=ZaK k 4 C g 2e6
 obtain ⟨p,hp,e2⟩:=Zbl [.int 0,.int 1,.int 0,.int 3] d h1 (by simpa using h2)
 obtain ⟨m,rfl,hm0,hm1⟩:∃b:Int,p=.int b/\0<=b/\b<=10:=by
  simp only[Yg,Yr,or_false] at hp
  rcases hp with rfl | rfl | rfl | rfl<;>exact ⟨_,rfl,by decide,by decide⟩
 obtain ⟨bl,e3,hbl,hbn⟩:=blanks m hm0 hm1
 have I0:TI 0 [] bl:=⟨by
  rw[hbl]
  have:=Zb4 32 [] m.toNat
  rw[Yq] at this
  exact this,fun _=>⟨_,hbl⟩,by lia⟩
 obtain ⟨t',x3,x4,C2,e4,I2,a2⟩:=tx_loop k #[.lst (ws.map .str)] ws 0 [] bl none none C1 4e0 hw I0 a1.gs
 obtain ⟨d',C3,e5,h3,h4,a3⟩:=ZaK k 4 C2 a2.gs 2e6
 obtain ⟨q,hq,e6⟩:=Zbl [.int 0,.int 0,.int 1,.int 2] d' h3 (by simpa using h4)
 obtain ⟨m',rfl,hm0',hm1'⟩:∃b:Int,q=.int b/\0<=b/\b<=10:=by
  simp only[Yg,Yr,or_false] at hq
  rcases hq with rfl | rfl | rfl | rfl<;>exact ⟨_,rfl,by decide,by decide⟩
 obtain ⟨bl',e7,hbl',hbn'⟩:=blanks m' hm0' hm1'
 have at1:=(a1.trans a2).trans a3
 have ll:∀a b:Str,(a++b).length=a.length + b.length:=fun a b=>VI a b
 have hl:=I2.l
 have hl2:t'.length<=1000:=by lia
 refine ⟨t'++bl',C3,?_,?_,by rw[ll];lia,at1⟩
 ·have hen:=enum_numd ws
  sleep 10
  have s1:u1 [7e3,#[.lst WS],none,none,none] C=some (.nx [7e3,#[.lst WS],#[.str bl],none,none],C1):=by
   simp![u1,e1,e2,e3,a1.take]
  have s2:u2 [7e3,#[.lst WS],#[.str bl],none,none] C1=some (.nx [7e3,#[.lst WS],#[.str t'],x3,x4],C2):=by
   have:mEnum 7e1 [7e3,#[.lst WS],#[.str bl],none,none] C1=some (numd 0 ws,C1):=by rw[←hen];rfl
   unfold u2 mFor bnd
   rw[this]
   exact e4
  have c1:t'.length + bl'.length<=1000000:=by lia
  have s3:u3 [7e3,#[.lst WS],#[.str t'],x3,x4] C2=some (.rt (.v (.str (t'++bl'))),C3):=by
   simp![u3,addP,e5,e6,e7,c1,a3.take]
  have run:B_qba [7e3,#[.lst WS],none,none,none] C=some (.rt (.v (.str (t'++bl'))),C3):=by
   rw[text_is,Zaz s1,Zaz s2,s3]
  unfold F_qba
  generalize B_qba=bb at *
  simp![run,at1.take]
 ·rw[ZbM,Xj,hbl',wds_end,I2.w]
  rfl
def smE (Z:List SV->M SV):PSt->M SV:=mFn Z (aCons 2e0 7e1)
theorem same_st (n:Nat)(k:Str)(C:Cs):F_qaw (n + 1) [.v (.str k),.v (.str k)] C=some (.v 13e9,C):=by
 simp![F_qaw]
theorem same_num (n:Nat)(k:Int)(C:Cs):F_qaw (n + 1) [.v (.int k),.v (.int k)] C=some (.v 13e9,C):=by
 simp![F_qaw]
theorem same_nm (n:Nat)(x:Nm)(C:Cs):F_qaw (n + 2) [.v x.P,.v x.P] C=some (.v 13e9,C):=by
 have e1:=same_st n x.h C
 have e2:=same_st n x.d C
 have e3:=same_num n x.n C
 unfold Nm.P
 rw[F_qaw]
 generalize F_qaw (n + 1)=Z at *
 simp![mComp,mZip,zipP,itemsP,stIn',compL,hTup,hCons,hName,hNil,tOk,e1,e2,e3,allH,boolsP]
theorem same_pt (n:Nat)(p:Pt)(C:Cs):F_qaw (n + 2) [.v p.P,.v p.P] C=some (.v 13e9,C):=by
 cases p with
 | st k=>exact same_st (n + 1) k C
 | num k=>exact same_num (n + 1) k C
 | nm x=>exact same_nm n x C
theorem sm_comp {Z:List SV->M SV}(C:Cs)(hZ:∀p:Pt,Z [.v p.P,.v p.P] C=some (.v 13e9,C)):∀(l:List Pt) (a b:Option SV) (ys:List PV),compL (hTup (hCons 14e1 (hCons (hName 1) hNil)) 2) tOk (smE Z) (l.map fun p=>.tup [p.P,p.P]) [a,b] ys C=some (ys++l.map fun _=>.bl true,C)
 | [],a,b,ys=>by simp[compL,Pu.ret]
 | p::l,a,b,ys=>by
  have e:=sm_comp C hZ l #[p.P] #[p.P] (ys++[.bl true])
  have h:=hZ p
  rw[YM]
  have k:smE Z [#[p.P],#[p.P]] C=some (.v 13e9,C):=by simp![smE,h]
  generalize smE Z=te at *
  simp[compL,hTup,hCons,hName,hNil,tOk,bnd,Pu.ret,k,e]
theorem zip_self (l:List Pt):(l.map Pt.P).map (fun a=>PV.tup [a,a])=l.map fun p=>.tup [p.P,p.P]:=by
 rw[W6];rfl
theorem trues:∀l:List Pt,boolsP (l.map fun _=>PV.bl true)=some (l.map fun _=>true)
 | []=>rfl
 | p::l=>by simp[boolsP,trues l]
theorem same_claim {l:List Pt}(hl:l.length<=4)(C:Cs):F_qaw 12 [.v (claimP l),.v (claimP l)] C=some (.v 13e9,C):=by
 have e:=sm_comp (Z:=F_qaw 11) C (fun p=>same_pt 9 p C) l none none []
 have hz:=zip_self l
 have hb:=trues l
 have h1:(l.map fun p=>PV.tup [p.P,p.P]).length<=100000:=by simp;lia
 have ha:(l.map fun _=>true).all id=true:=by simp
 unfold claimP
 rw[F_qaw]
 unfold smE at e
 unfold B_qaw
 generalize F_qaw 11=Z at *
 generalize mFn Z (aCons 2e0 7e1)=te at *
 generalize (l.map fun _=>true)=BT at *
 generalize (l.map fun _=>PV.bl true)=BP at *
 generalize (l.map fun p=>PV.tup [p.P,p.P])=ZP at *
 generalize l.map Pt.P=PS at *
 generalize hTup (hCons 14e1 (hCons (hName 1) hNil)) 2=hh at *
 simp![mComp,mZip,zipP,itemsP,stIn',hz,h1,e,allH,hb]
 simpa using ha
noncomputable def Pq.T:Pq->Pt
 | .num n=>.num n
 | .nam a b n=>.nm ⟨a,b,n⟩
theorem pq_t (p:Pq):p.T.P=p.P:=by cases p<;>rfl
theorem claim_none (k:Str):claimB k []=false:=by
 unfold claimB
 split
 ·rename_i d _;cases d<;>rfl
 ·rfl
theorem claim_len {k:Str}{ps:List Pq}(h:claimB k ps=true):ps.length<=3:=by
 unfold claimB at h
 split at h
 ·rename_i d _
  by_cases hl:ps.length=d.Bs.length
  ·rw[hl];cases d<;>simp[Kd.Bs]
  ·rw[kd_not d ps hl] at h;cases h
 ·cases h
theorem same_read {ws:3e1}{l:List PV}(h:readO ws=some l)(C:Cs):F_qaw 12 [.v (.tup l),.v (.tup l)] C=some (.v 13e9,C):=by
 unfold readO at h
 split at h
 ·cases h
 ·split at h
  ·cases h
  ·rename_i k r _ ps _
   split at h
   ·rename_i hc
    cases h
    have e:PV.tup (.str k::ps.map Pq.P)=claimP (.st k::ps.map Pq.T):=by
     unfold claimP
     rw[YM,W6]
     congr 2
     exact List.map_congr_left fun p _=>(pq_t p).symm
    rw[e]
    exact same_claim (by have:=claim_len hc;simp;lia) C
   ·cases h
section
variable {d1 f1 f2 f3 d2 f4 f5:Addr}(h12:f1≠f2)(h13:f1≠f3)(h14:f1≠f4)(h23:f2≠f3)(h24:f2≠f4)(h34:f3≠f4)
theorem told_t {x:PV}{C:Cs}{l:List PV}(h:F_qbw d1 f1 f2 f3 d2 f4 [.v x] C=some (.v (.tup l),C)):F_qbc d1 f1 f2 f3 d2 f4 f5 [.v (.fn f5),.v x] C=some (.v (.tup [.str "read",.tup l]),C):=by
 have hl:(Za4 d1 f1 f2 f3 d2 f4 f5).lookup f5=some (F_qbw d1 f1 f2 f3 d2 f4):=by simp[Za4]
 unfold F_qbc Ex.orM B_qbc
 generalize Za4 d1 f1 f2 f3 d2 f4 f5=FT at *
 generalize F_qbw d1 f1 f2 f3 d2 f4=FR at *
 simp![mCallV,callF,hl,h,isNP]
theorem told_n {x:PV}{C:Cs}(h:F_qbw d1 f1 f2 f3 d2 f4 [.v x] C=none)(hr:R_read_claim d1 f1 f2 f3 d2 f4 [.v x] C):F_qbc d1 f1 f2 f3 d2 f4 f5 [.v (.fn f5),.v x] C=some (.v (.tup [.str "none",.non]),C):=by
 have hl:(Za4 d1 f1 f2 f3 d2 f4 f5).lookup f5=some (F_qbw d1 f1 f2 f3 d2 f4):=by simp[Za4]
 have h2:mDef 2 3 (B_qbc d1 f1 f2 f3 d2 f4 f5) [.v (.fn f5),.v x] C=none:=by
  unfold B_qbc
  generalize Za4 d1 f1 f2 f3 d2 f4 f5=FT at *
  generalize F_qbw d1 f1 f2 f3 d2 f4=FR at *
  simp![mCallV,callF,hl,h]
 have h3:Ex.mTold (ZbT d1 f1 f2 f3 d2 f4 f5) [.v (.fn f5),.v x] C=some (.v (.tup [.str "none",.non]),C):=by
  unfold Ex.mTold
  dsimp only
  rw[if_pos ⟨_,by simp[ZbT],hr⟩]
 unfold F_qbc Ex.orM
 rw[h2]
 exact h3
def toldV (ws:3e1):PV:=match readO ws with
 | some l=>.tup [.str "read",.tup l]
 | none=>.tup [.str "none",.non]
include h12 h13 h14 h23 h24 h34 in
theorem told_w {z:Str}{ws:3e1}(h:Wok z ws)(C:Cs):F_qbc d1 f1 f2 f3 d2 f4 f5 [.v (.fn f5),.v (.str z)] C=some (.v (toldV ws),C):=by
 have e:=ZcY (d1:=d1) (d2:=d2) h12 h13 h14 h23 h24 h34 h C
 unfold toldV
 cases hr:readO ws with
 | some l=>rw[hr] at e;exact told_t e
 | none=>rw[hr] at e;exact told_n e (read_claimR h12 h13 h14 h23 h24 h34 h hr C)
theorem told_x {x:PV}(hx:isiP x "str"=some false)(C:Cs):F_qbc d1 f1 f2 f3 d2 f4 f5 [.v (.fn f5),.v x] C=some (.v (.tup [.str "none",.non]),C):=by
 have hi:isiH [x,.ty "str"]=some 10e7:=by unfold isiH;simp[hx]
 have hw:F_qca [.v x] C=none:=by
  have hd:mCB (g1 isiH) (aCons 2e0 13e7) [#[x]] C=some (.v 10e7,C):=by
   unfold mCB aCons aNil mVar mC
   simp[bnd,Pu.ret,opM,g1,derefs,deref,hi]
  unfold F_qca B_qca
  generalize mCB (g1 isiH) (aCons 2e0 13e7)=te at *
  simp![hd,need_f]
 refine told_n ?_ ?_
 ·unfold F_qbw B_qbw
  simp![hw]
 ·exact ⟨rfl,.inl ⟨[.v x],rfl,words_ofR x hi C⟩⟩
noncomputable def badL (ws:3e1):List PV:=[.str "",.str " ",.str "\n",.non,.int 5,.bl true,.lst (ws.map .str),.tup (ws.map .str),.dct [] []]
theorem wok_0:Wok "" []:=⟨by decide +kernel,by decide +kernel,by decide,by simp⟩
theorem wok_1:Wok " " []:=⟨by decide +kernel,by decide +kernel,by decide,by simp⟩
theorem wok_n:Wok "\n" ["\n"]:=⟨by decide +kernel,by decide +kernel,by decide,by simp;decide +kernel⟩
include h12 h13 h14 h23 h24 h34 in
theorem told_bad {ws:3e1}{p:PV}(hp:p∈badL ws)(C:Cs):F_qbc d1 f1 f2 f3 d2 f4 f5 [.v (.fn f5),.v p] C=some (.v (.tup [.str "none",.non]),C):=by
 unfold badL at hp
 simp only[Yg,Yr,or_false] at hp
 rcases hp with rfl | rfl | rfl | rfl | rfl | rfl | rfl | rfl | rfl
 ·exact told_w h12 h13 h14 h23 h24 h34 wok_0 C
 ·exact told_w h12 h13 h14 h23 h24 h34 wok_1 C
 ·rw[told_w h12 h13 h14 h23 h24 h34 wok_n C]
  have:readO ["\n"]=none:=by simp[readO,partsV,claim_none]
  unfold toldV;rw[this]
 all_goals exact told_x 1e0 C
end
theorem flt_key:∀(xs:3e1) (ρ0:Option SV) (ys:List PV) (C:Cs),compL 14e1 (mTest (mOp (g2 neP) 2e0 (mC (.str "")))) 2e0 (xs.map .str) [ρ0] ys C=some (ys++(xs.filter ne0).map .str,C)
 | [],ρ0,ys,C=>by simp[compL,Pu.ret]
 | x::xs,ρ0,ys,C=>by
  by_cases hx:x=""
  ·subst hx
   have e:=flt_key xs #[.str ""] ys C
   have hn:ne0 ""=false:=rfl
   generalize hs:xs.map PV.str=XS at *
   have step:mTest (mOp (g2 neP) 2e0 (mC (.str ""))) [#[.str ""]] C=some (false,C):=by simp![]
   rw[VT,hn,YM,hs]
   generalize mTest (mOp (g2 neP) 2e0 (mC (.str "")))=te at *
   simp[compL,hName,bnd,Pu.ret,step,e]
  ·have e:=flt_key xs #[.str x] (ys++[.str x]) C
   have hn:ne0 x=true:=by
    unfold ne0
    simp only[decide_eq_true_eq]
    intro q
    exact hx (str_ext (by rw[Zbb] at q;rw[Y6 q];rfl))
   generalize hs:xs.map PV.str=XS at *
   simp![compL,hName,hn,hx,hs,e]
theorem nz_words (ws:3e1):(ws.map (·.cps.toList)).filter nz=(ws.filter ne0).map (·.cps.toList):=by
 induction ws with
 | nil=>rfl
 | cons w r ih=>
  have:ne0 w=nz w.cps.toList:=by
   unfold ne0 nz
   rw[Zbb]
   cases w.cps.toList<;>simp
  rw[YM,VT,VT,this]
  split
  ·rw[ih];rfl
  ·exact ih
theorem wok_of {z:Str}{ws:3e1}(hz:wds 32 z.cps.toList=(ws.map (·.cps.toList)).filter nz)(hl:z.length<=90000)(hn:ws.length<=6)(hw:∀w∈ws,gdS w):Wok z (ws.filter ne0):=by
 refine ⟨hl,filter_words z 32 _ (by rw[hz,nz_words]),?_,fun w hq=>?_⟩
 ·have:=List.length_filter_le ne0 ws
  lia
 ·have:=(hw w (VU.mp hq).1).2
  lia
section
variable {d1 f1 f2 f3 d2 f4 f5:Addr}(h12:f1≠f2)(h13:f1≠f3)(h14:f1≠f4)(h23:f2≠f3)(h24:f2≠f4)(h34:f3≠f4)
def fC:PSt->M 6e1:=mComp (mItems 14e2) ["_law_word_here"] [] 14e1 (mTest (mOp (g2 neP) 2e0 (mC (.str "")))) 2e0
def b1:PSt->M PF:=mNew 2 (mFnF FF_qak (aCons 2e0 7e1))
def b2:PSt->M PF:=mSet 3 (mFn F_qay (aCons 5e8 (aCons (mFn F_qae (aCons 5e8 aNil)) aNil)))
def b3:PSt->M PF:=mSet 4 (mFn F_qag (aCons (mVal fC) aNil))
def b4:PSt->M PF:=mSet 5 (mFn F_qba (aCons 5e8 (aCons 14e2 aNil)))
def t5 (d1 f1 f2 f3 d2 f4 f5:Addr):PSt->M PF:=mAsg (mFn (F_qbc d1 f1 f2 f3 d2 f4 f5) (aCons (mC (.fn f5)) (aCons (mVar 5) aNil))) (hTup (hCons (hName 7) (hCons (hName 8) hNil)) 2)
def c5a:PSt->M Bool:=mTest (mOp (g2 neP) (mVar 7) (mOp 5e6 (mVal (mLst (aCons (mC (.str "read")) (aCons (mC (.str "none")) aNil)))) (mCB (g1 intH) (aCons (mOp (g2 isNP) 12e5 (mC .non)) aNil))))
def c5b:PSt->M Bool:=mAndT (mTest (mOp (g2 notNP) 12e5 (mC .non))) (mNotT (mTru (mFn (F_qaw 12) (aCons (mVar 8) (aCons 12e5 aNil)))))
def i5:PSt->M PF:=mIfS (mOrT c5a c5b) (mRet (mC 10e7)) mSkip
def b5 (d1 f1 f2 f3 d2 f4 f5:Addr):PSt->M PF:=mFor (mRange1 (aCons 5e4 aNil)) (hName 6) (mSeq (t5 d1 f1 f2 f3 d2 f4 f5) i5)
def b6:PSt->M PF:=mSet 9 (mVal (mLst (aCons (mC (.str "")) (aCons (mC (.str " ")) (aCons (mC (.str "\n")) (aCons (mC .non) (aCons (mC (.int 5)) (aCons (mC 13e9) (aCons 14e2 (aCons (mCB (g1 tupH) (aCons 14e2 aNil)) (aCons mDict0 aNil)))))))))))
def c7c (d1 f1 f2 f3 d2 f4 f5:Addr):PSt->M Bool:=mTest (mOp (g2 neP) (mOp 5e6 (mFn (F_qbc d1 f1 f2 f3 d2 f4 f5) (aCons (mC (.fn f5)) (aCons (mOp 5e6 (mVar 9) (mFn F_qau (aCons 5e8 (aCons (mC (.int 9)) aNil)))) aNil))) 6e6) (mC (.str "none")))
def bb (d1 f1 f2 f3 d2 f4 f5:Addr):PSt->M PF:=mSeq b1 (mSeq b2 (mSeq b3 (mSeq b4 (mSeq (b5 d1 f1 f2 f3 d2 f4 f5) (mSeq b6 (mIfS (c7c d1 f1 f2 f3 d2 f4 f5) (mRet (mC 10e7)) mSkip))))))
def lR:PSt->M 6e1:=mRange1 (aCons (mOp 14e0 3e8 (mCB (g1 minH) (aCons (mC (.int 30)) (aCons 6e0 aNil)))) aNil)
theorem law_is:B_law d1 f1 f2 f3 d2 f4 f5=mSeq (mFor lR (hName 1) (bb d1 f1 f2 f3 d2 f4 f5)) (mRet (mC 13e9)):=rfl
theorem skip_if {c:4e8}{a:9e3}{ρ:PSt}{C C1:Cs}(h:c ρ C=some (false,C1)):mIfS c a mSkip ρ C=some (.nx ρ,C1):=by
 unfold mIfS bnd
 rw[h];rfl
noncomputable def tO (o:Option 6e1):PV:=match o with
 | some l=>.tup [.str "read",.tup l]
 | none=>.tup [.str "none",.non]
noncomputable def dO (o:Option 6e1):PV:=match o with
 | some l=>.tup l
 | none=>.non
theorem turn_ok (o:Option 6e1)(hs:∀l,o=some l->∀C,F_qaw 12 [.v (.tup l),.v (.tup l)] C=some (.v 13e9,C))(T:PV)(hT:T=tO o)(D:PV)(hD:D=dO o)(z:Str)(ht:∀C,F_qbc d1 f1 f2 f3 d2 f4 f5 [.v (.fn f5),.v (.str z)] C=some (.v T,C))(y0 y1 y2 y3 y6 y7 y8 y9:Option SV)(C:Cs):
  ∃w7 w8,mSeq (t5 d1 f1 f2 f3 d2 f4 f5) i5 [y0,y1,y2,y3,#[D],12e1,y6,y7,y8,y9] C=some (.nx [y0,y1,y2,y3,#[D],12e1,y6,w7,w8,y9],C):=by
 have e:=ht C
 cases o with
 | some l=>
  simp only[tO,dO] at hT hD
  subst hT hD
  have e2:=hs l rfl C
  refine ⟨#[.str "read"],#[.tup l],?_⟩
  rw[Zaz (ρ1:=[y0,y1,y2,y3,#[.tup l],12e1,y6,#[.str "read"],#[.tup l],y9]) (C1:=C) (by
   unfold t5
   generalize F_qbc d1 f1 f2 f3 d2 f4 f5=FT at *
   simp![mAsg,e,hTup,hCons,hName,hNil])]
  refine skip_if ?_
  have a1:c5a [y0,y1,y2,y3,#[.tup l],12e1,y6,#[.str "read"],#[.tup l],y9] C=some (false,C):=by
   simp![c5a,isNP,intH,ixQ,ixP,atI,ixN]
  have a2:c5b [y0,y1,y2,y3,#[.tup l],12e1,y6,#[.str "read"],#[.tup l],y9] C=some (false,C):=by
   unfold c5b
   generalize F_qaw 12=FS at *
   simp![notNP,e2]
  unfold mOrT bnd
  rw[a1];exact a2
 | none=>
  simp only[tO,dO] at hT hD
  subst hT hD
  refine ⟨#[.str "none"],#[.non],?_⟩
  rw[Zaz (ρ1:=[y0,y1,y2,y3,#[.non],12e1,y6,#[.str "none"],#[.non],y9]) (C1:=C) (by
   unfold t5
   generalize F_qbc d1 f1 f2 f3 d2 f4 f5=FT at *
   simp![mAsg,e,hTup,hCons,hName,hNil])]
  refine skip_if ?_
  have a1:c5a [y0,y1,y2,y3,#[.non],12e1,y6,#[.str "none"],#[.non],y9] C=some (false,C):=by
   simp![c5a,isNP,intH,ixQ,ixP,atI,ixN]
  have a2:c5b [y0,y1,y2,y3,#[.non],12e1,y6,#[.str "none"],#[.non],y9] C=some (false,C):=by
   simp![c5b,notNP]
  unfold mOrT bnd
  rw[a1];exact a2
include h12 h13 h14 h23 h24 h34 in
theorem bb_ok (ns:List Int)(i:Int)(h1:0<=i)(h2:i<=1000)(x2 x3 x4 x5 x6 x7 x8 x9:Option SV)(C:Cs):∃y2 y3 y4 y5 y6 y7 y8 y9 C',bb d1 f1 f2 f3 d2 f4 f5 [#[.lst (ns.map .int)],#[.int i],x2,x3,x4,x5,x6,x7,x8,x9] C=some (.nx [#[.lst (ns.map .int)],#[.int i],y2,y3,y4,y5,y6,y7,y8,y9],C'):=by
 obtain ⟨x,y,e1,hy⟩:=left_eq ns i C h1 h2
 have g0:GS (C++[.lst [.int x,.int y]]) C.length:=⟨x,y,by simp,hy⟩
 obtain ⟨kd,ps,C1,e2,hc,a1⟩:=claim_adv C.length (C++[.lst [.int x,.int y]]) g0
 obtain ⟨ws,C2,e3,hn,hw,a2⟩:=spoilt_adv C.length C1 a1.gs (cl_its hc)
 obtain ⟨z,C3,e5,hz,hzl,a3⟩:=text_adv C.length C2 a2.gs ws hn hw
 have wk:=wok_of hz hzl hn hw
 have e4:=claim_due_eq (ws.filter ne0) wk.w C2
 have ht:=told_w (d1:=d1) (d2:=d2) (f5:=f5) h12 h13 h14 h23 h24 h34 wk
 obtain ⟨d,C4,e6,hd0,hd1,a4⟩:=ZaK C.length 9 C3 a3.gs 2e6
 obtain ⟨p,hp,e7⟩:=Zbl (badL ws) d hd0 (by simpa[badL] using hd1)
 have e8:=told_bad (d1:=d1) (d2:=d2) (f5:=f5) h12 h13 h14 h23 h24 h34 hp C4
 have tn:=turn_ok (d1:=d1) (d2:=d2) (f1:=f1) (f2:=f2) (f3:=f3) (f4:=f4) (f5:=f5) (readO (ws.filter ne0)) (fun l hl C=>same_read hl C) (toldV (ws.filter ne0)) (by unfold toldV tO;cases readO (ws.filter ne0)<;>rfl) (dueV (ws.filter ne0)) (by rw[due_read];unfold dO;cases readO (ws.filter ne0)<;>rfl) z ht
 have k3:=flt_key ws none [] C2
 have hWl:(ws.map PV.str).length<=100000:=by simp;lia
 have hWl2:(ws.map PV.str).length<=1000000:=by lia
 rw[X2] at k3
 generalize ns.map PV.int=NS at *
 generalize claimP (.st kd::ps)=CL at *
 generalize hDV:dueV (ws.filter ne0)=DV at *
 have s1:b1 [#[.lst NS],#[.int i],x2,x3,x4,x5,x6,x7,x8,x9] C=some (.nx [#[.lst NS],#[.int i],4e4,x3,x4,x5,x6,x7,x8,x9],C++[.lst [.int x,.int y]]):=by
  simp![b1,mNew,e1]
 have s2:b2 [#[.lst NS],#[.int i],4e4,x3,x4,x5,x6,x7,x8,x9] (C++[.lst [.int x,.int y]])=some (.nx [#[.lst NS],#[.int i],4e4,5e5,x4,x5,x6,x7,x8,x9],C2):=by
  sleep 10
  simp![b2,e2,e3]
 have sC:fC [#[.lst NS],#[.int i],4e4,5e5,x4,x5,x6,x7,x8,x9] C2=some ((ws.filter ne0).map .str,C2):=by
  have hi:mItems 14e2 [#[.lst NS],#[.int i],4e4,5e5,x4,x5,x6,x7,x8,x9] C2=some (ws.map .str,C2):=rfl
  unfold fC mComp
  unfold bnd
  rw[hi]
  dsimp only
  rw[if_pos hWl]
  exact k3
 have s3:b3 [#[.lst NS],#[.int i],4e4,5e5,x4,x5,x6,x7,x8,x9] C2=some (.nx [#[.lst NS],#[.int i],4e4,5e5,#[DV],x5,x6,x7,x8,x9],C2):=by
  unfold b3
  generalize fC=te at *
  generalize (ws.filter ne0).map PV.str=WF at *
  sleep 10
  simp![sC,e4]
 have s4:b4 [#[.lst NS],#[.int i],4e4,5e5,#[DV],x5,x6,x7,x8,x9] C2=some (.nx [#[.lst NS],#[.int i],4e4,5e5,#[DV],12e1,x6,x7,x8,x9],C3):=by
  sleep 10
  simp![b4,e5]
 obtain ⟨w7,w8,q1⟩:=tn #[.lst NS] #[.int i] (some (.c C.length)) #[.lst (ws.map .str)] #[.int 0] x7 x8 x9 C3
 obtain ⟨v7,v8,q2⟩:=tn #[.lst NS] #[.int i] (some (.c C.length)) #[.lst (ws.map .str)] #[.int 1] w7 w8 x9 C3
 have s5:b5 d1 f1 f2 f3 d2 f4 f5 [#[.lst NS],#[.int i],4e4,5e5,#[DV],12e1,x6,x7,x8,x9] C3=some (.nx [#[.lst NS],#[.int i],4e4,5e5,#[DV],12e1,#[.int 1],v7,v8,x9],C3):=by
  unfold b5
  generalize mSeq (t5 d1 f1 f2 f3 d2 f4 f5) i5=te at *
  have hr:mRange1 (aCons 5e4 aNil) [#[.lst NS],#[.int i],4e4,5e5,#[DV],12e1,x6,x7,x8,x9] C3=some ([.int 0,.int 1],C3):=by rfl
  unfold mFor
  rw[bnd,hr]
  dsimp only
  simp only[loop,hName,List.set,bnd,q1,q2]
  rfl
 have s6:b6 [#[.lst NS],#[.int i],4e4,5e5,#[DV],12e1,#[.int 1],v7,v8,x9] C3=some (.nx [#[.lst NS],#[.int i],4e4,5e5,#[DV],12e1,#[.int 1],v7,v8,#[.lst (badL ws)]],C3):=by
  unfold badL
  sleep 10
  simp![b6,tupH,mDict0]
 have s7:c7c d1 f1 f2 f3 d2 f4 f5 [#[.lst NS],#[.int i],4e4,5e5,#[DV],12e1,#[.int 1],v7,v8,#[.lst (badL ws)]] C3=some (false,C4):=by
  unfold c7c
  generalize F_qbc d1 f1 f2 f3 d2 f4 f5=FT at *
  generalize badL ws=BL at *
  sleep 10
  have hx:ixQ (.tup [.str "none",.non]) (.int 0)=some (.str "none"):=rfl
  simp![e6,e7,e8,hx]
 refine ⟨4e4,5e5,#[DV],12e1,#[.int 1],v7,v8,#[.lst (badL ws)],C4,?_⟩
 unfold bb
 rw[Zaz s1,Zaz s2,Zaz s3,Zaz s4,Zaz s5,Zaz s6,skip_if s7]
include h12 h13 h14 h23 h24 h34 in
theorem law_pure (ns:List Int)(hn:ns.length<=63):F_law d1 f1 f2 f3 d2 f4 f5 [.v (.lst (ns.map .int))] []=some (.v 13e9,[]):=by
 obtain ⟨n,hr,hn2⟩:∃n:Nat,lR [#[.lst (ns.map .int)],none,none,none,none,none,none,none,none,none] []=some ((XD n).map fun (q:Nat)=>PV.int (0 + q),[])/\n<=100:=by
  have hlen:lenH [.lst (ns.map .int)]=some (.int (ns.length:Int)):=by simp[lenH]
  generalize ns.length=m at *
  generalize ns.map PV.int=NS at *
  have hm:minH [.int 30,.int (m:Int)]=some (.int (if (m:Int) < 30 then (m:Int) else 30)):=rfl
  obtain ⟨q,hq,hq2⟩:∃q:Nat,(if (m:Int) < 30 then (m:Int) else 30)=(q:Int)/\q<=30:=by
   split
   ·exact ⟨m,rfl,by lia⟩
   ·exact ⟨30,rfl,by lia⟩
  rw[hq] at hm
  have hrg:rng1P [.v (.int (1 + (q:Int)))]=some ((XD (1 + q)).map fun (q:Nat)=>PV.int (0 + q)):=by
   unfold rng1P
   dsimp only
   rw[if_pos 4e0,show (1 + (q:Int)).toNat=1 + q by lia]
  refine ⟨1 + q,?_,by lia⟩
  simp[lR,mRange1,aCons,aNil,mC,mOp,mCB,mVar,bnd,opM,Pu.ret,g1,g2,derefs,deref,addP,hlen,hm,hrg]
 obtain ⟨ρ',D,e,hpi⟩:=loop_inv (g:=hName 1) (f:=bb d1 f1 f2 f3 d2 f4 f5) (fun ρ D=>∃x1 x2 x3 x4 x5 x6 x7 x8 x9,ρ=[#[.lst (ns.map .int)],x1,x2,x3,x4,x5,x6,x7,x8,x9]) ((XD n).map fun (q:Nat)=>PV.int (0 + q)) (fun z hz ρ D hh=>by
   obtain ⟨q,hq,rfl⟩:=X4.mp hz
   have hq:=List.mem_range.mp hq
   obtain ⟨x1,x2,x3,x4,x5,x6,x7,x8,x9,rfl⟩:=hh
   obtain ⟨y2,y3,y4,y5,y6,y7,y8,y9,D',e⟩:=bb_ok (d1:=d1) (d2:=d2) (f5:=f5) h12 h13 h14 h23 h24 h34 ns (0 + (q:Int)) 4e0 4e0 x2 x3 x4 x5 x6 x7 x8 x9 D
   exact ⟨_,_,D',rfl,e,_,_,_,_,_,_,_,_,_,rfl⟩) [#[.lst (ns.map .int)],none,none,none,none,none,none,none,none,none] [] ⟨none,none,none,none,none,none,none,none,none,rfl⟩
 have s6:mFor lR (hName 1) (bb d1 f1 f2 f3 d2 f4 f5) [#[.lst (ns.map .int)],none,none,none,none,none,none,none,none,none] []=some (.nx ρ',D):=by
  unfold mFor
  rw[bnd,hr];exact e
 have run:B_law d1 f1 f2 f3 d2 f4 f5 [#[.lst (ns.map .int)],none,none,none,none,none,none,none,none,none] []=some (.rt (.v 13e9),D):=by
  rw[law_is,Zaz s6];rfl
 unfold F_law
 generalize B_law d1 f1 f2 f3 d2 f4 f5=bl at *
 generalize ns.map PV.int=NS at *
 simp![run]
end
noncomputable def fnames:List Str:=List.map Wi ["is_number","is_number_below","is_row_of","is_word","is_clause_number","is_letter_name","is_of_due","is_of_clause","is_of_name","is_of_two_names","is_claim","words_in","is_figures","need","words_of","read_number","read_name","read_claim","_law_cell_at","_law_left","_law_pick","_law_number","_law_word","_law_name","_law_name_text","_law_claim","_law_claim_words","_law_text","_law_told","_law_same","_law_called","_law_whole","_law_named","_law_claim_due","_law_spoilt","law"]
def sts:List (Str×Stmt):=fnames.zip (List.map top [4,5,6,7,9,10,12,13,14,15,18,27,28,30,31,32,33,34,36,37,38,39,40,41,42,43,44,45,46,47,48,49,50,51,52,53])
theorem sts_ok:(recsOf qv).map Hd.four=sts.map Hd.fourS:=by kernel_rfl
theorem xt {P:Yl}{w:World}{h:Heap}{mg:1e5}{as:2e9}(G:h.Ns Y5 mg)(Y:hk.says w h)(m:∀a∈[146,109,122,134,158,145,108,106,105,99],a∈as)(base:Heap):Ex.ExcT P w (Hd.kf h as) mg base "NoLetter" "NoTown" "NoPile" "NoRow" 146:=
 Ex.excT_mk (st:=initS) (Hd.kf_at (Hd.tab_at Y.2 2 rfl rfl) (m _ 3e2)) (Hd.kf_at (Hd.tab_at Y.2 3 rfl rfl) (m _ 3e2)) (Hd.kf_at (Hd.tab_at Y.2 4 rfl rfl) (m _ 3e2)) (Hd.kf_at (Hd.tab_at Y.2 5 rfl rfl) (m _ 3e2)) (Hd.kf_at (Hd.tab_at Y.2 6 rfl rfl) (m _ 3e2)) (Hd.kf_at (Hd.tab_at Y.2 7 rfl rfl) (m _ 3e2)) (Hd.kf_at (Hd.tab_at Y.2 8 rfl rfl) (m _ 3e2)) (by kernel_rfl) (by kernel_rfl) (by kernel_rfl) (Hd.kf_at (Hd.tab_at Y.2 9 rfl rfl) (m _ 3e2)) (by unfold W.codeIn;dsimp only;rw[Hd.kf_at (Hd.tab_at Y.2 10 rfl rfl) (m _ 3e2)];rfl) (Hd.kf_at (Hd.tab_at Y.2 11 rfl rfl) (m _ 3e2)) rfl 1e1 (.inl rfl) (.inl rfl) rfl (fun u=>⟨_,rfl,rfl⟩) (Hd.tab_mg G Y.1 0 rfl rfl) (Hd.tab_mg G Y.1 1 rfl rfl) (Hd.tab_mg G Y.1 2 rfl rfl) (Hd.tab_mg G Y.1 3 rfl rfl) (Hd.tab_mg G Y.1 4 rfl rfl) 2e6
theorem td_READ_FORMS {w:World}{h:Heap}{mg:1e5}{as:2e9}(G:h.Ns Y5 mg)(Y:hk.says w h)(m:83∈as){f_qbp:Addr}{f_qbo:Addr}{f_qbq:Addr}(e0:mg "is_of_due"=some (.ref f_qbp))(e1:mg "is_of_clause"=some (.ref f_qbo))(e2:mg "is_of_name"=some (.ref f_qbq)):mg "READ_FORMS"=some (.ref 83)/\TopD (Hd.kf h as) w 83 (ZaG f_qbp f_qbo f_qbq):=by
 refine ⟨Hd.tab_mg G Y.1 5 rfl rfl,⟨(ZbZ w.params).toArray,4,Hd.kf_at (Hd.tab_at Y.2 0 rfl rfl) m,?_,?_⟩,by decide⟩
 ·repeat (first | exact Wp | refine And.intro ⟨_,_,rfl,rfl⟩ ?_)
 ·have q0:=(Hd.tab_mg G Y.1 6 rfl rfl).symm.trans e0
  cases q0
  have q1:=(Hd.tab_mg G Y.1 7 rfl rfl).symm.trans e1
  cases q1
  have q2:=(Hd.tab_mg G Y.1 8 rfl rfl).symm.trans e2
  cases q2
  repeat (first | exact Paired.nil | refine Paired.cons ⟨rfl,rfl⟩ ?_)
theorem td_MARK_FORMS {w:World}{h:Heap}{mg:1e5}{as:2e9}(G:h.Ns Y5 mg)(Y:hk.says w h)(m:84∈as){f_qbq:Addr}{f_qbr:Addr}(e0:mg "is_of_name"=some (.ref f_qbq))(e1:mg "is_of_two_names"=some (.ref f_qbr)):mg "MARK_FORMS"=some (.ref 84)/\TopD (Hd.kf h as) w 84 (ZaH f_qbq f_qbr):=by
 refine ⟨Hd.tab_mg G Y.1 9 rfl rfl,⟨(Zb0 w.params).toArray,5,Hd.kf_at (Hd.tab_at Y.2 1 rfl rfl) m,?_,?_⟩,by decide⟩
 ·repeat (first | exact Wp | refine And.intro ⟨_,_,rfl,rfl⟩ ?_)
 ·have q0:=(Hd.tab_mg G Y.1 8 rfl rfl).symm.trans e0
  cases q0
  have q1:=(Hd.tab_mg G Y.1 10 rfl rfl).symm.trans e1
  cases q1
  repeat (first | exact Paired.nil | refine Paired.cons ⟨rfl,rfl⟩ ?_)
theorem all_mk {P:Yl}{w:World}{K:W.Frag}{mg:1e5}{fa:Addr}(hfa:mg "law"=some (.ref fa))(T:Txt mg)
  (e_is_number:Hd.FnAt K mg "is_number" s_qbm)
  (e_is_number_below:Hd.FnAt K mg "is_number_below" s_qbn)
  (e_is_row_of:Hd.FnAt K mg "is_row_of" s_qbs)
  (e_is_word:Hd.FnAt K mg "is_word" s_qbt)
  (e_is_clause_number:Hd.FnAt K mg "is_clause_number" s_qbj)
  (e_is_letter_name:Hd.FnAt K mg "is_letter_name" s_qbl)
  (e_is_of_due:Hd.FnAt K mg "is_of_due" s_qbp)
  (e_is_of_clause:Hd.FnAt K mg "is_of_clause" s_qbo)
  (e_is_of_name:Hd.FnAt K mg "is_of_name" s_qbq)
  (e_is_of_two_names:Hd.FnAt K mg "is_of_two_names" s_qbr)
  (e_is_claim:Hd.FnAt K mg "is_claim" s_qbi)
  (e_words_in:Hd.FnAt K mg "words_in" s_qbz)
  (e_is_figures:Hd.FnAt K mg "is_figures" s_qbk)
  (e_need:Hd.FnAt K mg "need" s_qbv)
  (e_words_of:Hd.FnAt K mg "words_of" s_qca)
  (e_read_number:Hd.FnAt K mg "read_number" s_qby)
  (e_read_name:Hd.FnAt K mg "read_name" s_qbx)
  (e_read_claim:Hd.FnAt K mg "read_claim" s_qbw)
  (e__law_cell_at:Hd.FnAt K mg "_law_cell_at" s_qac)
  (e__law_left:Hd.FnAt K mg "_law_left" s_qak)
  (e__law_pick:Hd.FnAt K mg "_law_pick" s_qau)
  (e__law_number:Hd.FnAt K mg "_law_number" s_qas)
  (e__law_word:Hd.FnAt K mg "_law_word" s_qbg)
  (e__law_name:Hd.FnAt K mg "_law_name" s_qam)
  (e__law_name_text:Hd.FnAt K mg "_law_name_text" s_qao)
  (e__law_claim:Hd.FnAt K mg "_law_claim" s_qae)
  (e__law_claim_words:Hd.FnAt K mg "_law_claim_words" s_qai)
  (e__law_text:Hd.FnAt K mg "_law_text" s_qba)
  (e__law_told:Hd.FnAt K mg "_law_told" s_qbc)
  (e__law_same:Hd.FnAt K mg "_law_same" s_qaw)
  (e__law_called:Hd.FnAt K mg "_law_called" s_qaa)
  (e__law_whole:Hd.FnAt K mg "_law_whole" s_qbe)
  (e__law_named:Hd.FnAt K mg "_law_named" s_qaq)
  (e__law_claim_due:Hd.FnAt K mg "_law_claim_due" s_qag)
  (e__law_spoilt:Hd.FnAt K mg "_law_spoilt" s_qay)
  (e_law:Hd.FnAt K mg "law" s_law)
  {d_READ_FORMS:Addr} (tb_READ_FORMS:∀{f_qbp f_qbo f_qbq:Addr},mg "is_of_due"=some (.ref f_qbp)->mg "is_of_clause"=some (.ref f_qbo)->mg "is_of_name"=some (.ref f_qbq)->mg "READ_FORMS"=some (.ref d_READ_FORMS)/\TopD K w d_READ_FORMS (ZaG f_qbp f_qbo f_qbq))
  {d_MARK_FORMS:Addr} (tb_MARK_FORMS:∀{f_qbq f_qbr:Addr},mg "is_of_name"=some (.ref f_qbq)->mg "is_of_two_names"=some (.ref f_qbr)->mg "MARK_FORMS"=some (.ref d_MARK_FORMS)/\TopD K w d_MARK_FORMS (ZaH f_qbq f_qbr))
  {cX:Addr} (XT:∀base:Heap,Ex.ExcT P w K mg base "NoLetter" "NoTown" "NoPile" "NoRow" cX)
  :∃fd:Yj,(∀(s:Shared) (v:Value),BindsTo s fd ⟨[v],[]⟩ [("_law_script",v)])/\∀base:Heap,FnOk P w K mg base CX0 14 fa fd ["_law_script"] (Hd.spLaw K):=by
 obtain ⟨f_qbm,fd_qbm,m_qbm,N_qbm⟩:=e_is_number
 have bd_qbm:=N_qbm.binds (ps:=["thing","least"]) fun _ _ _ _ _ _=>ln2 fun _ _=>rfl
 obtain ⟨f_qbn,fd_qbn,m_qbn,N_qbn⟩:=e_is_number_below
 have bd_qbn:=N_qbn.binds (ps:=["thing","bound"]) fun _ _ _ _ _ _=>ln2 fun _ _=>rfl
 obtain ⟨f_qbs,fd_qbs,m_qbs,N_qbs⟩:=e_is_row_of
 have bd_qbs:=N_qbs.binds (ps:=["thing","least","most"]) fun _ _ _ _ _ _=>ln3 fun _ _ _=>rfl
 obtain ⟨f_qbt,fd_qbt,m_qbt,N_qbt⟩:=e_is_word
 have bd_qbt:=N_qbt.binds (ps:=11e2) fun _ _ _ _ _ _=>ln1 fun _=>rfl
 obtain ⟨f_qbj,fd_qbj,m_qbj,N_qbj⟩:=e_is_clause_number
 have bd_qbj:=N_qbj.binds (ps:=11e2) fun _ _ _ _ _ _=>ln1 fun _=>rfl
 obtain ⟨f_qbl,fd_qbl,m_qbl,N_qbl⟩:=e_is_letter_name
 have bd_qbl:=N_qbl.binds (ps:=11e2) fun _ _ _ _ _ _=>ln1 fun _=>rfl
 obtain ⟨f_qbp,fd_qbp,m_qbp,N_qbp⟩:=e_is_of_due
 have bd_qbp:=N_qbp.binds (ps:=["parts"]) fun _ _ _ _ _ _=>ln1 fun _=>rfl
 obtain ⟨f_qbo,fd_qbo,m_qbo,N_qbo⟩:=e_is_of_clause
 have bd_qbo:=N_qbo.binds (ps:=["parts"]) fun _ _ _ _ _ _=>ln1 fun _=>rfl
 obtain ⟨f_qbq,fd_qbq,m_qbq,N_qbq⟩:=e_is_of_name
 have bd_qbq:=N_qbq.binds (ps:=["parts"]) fun _ _ _ _ _ _=>ln1 fun _=>rfl
 obtain ⟨f_qbr,fd_qbr,m_qbr,N_qbr⟩:=e_is_of_two_names
 have bd_qbr:=N_qbr.binds (ps:=["parts"]) fun _ _ _ _ _ _=>ln1 fun _=>rfl
 obtain ⟨f_qbi,fd_qbi,m_qbi,N_qbi⟩:=e_is_claim
 have bd_qbi:=N_qbi.binds (ps:=11e2) fun _ _ _ _ _ _=>ln1 fun _=>rfl
 obtain ⟨f_qbz,fd_qbz,m_qbz,N_qbz⟩:=e_words_in
 have bd_qbz:=N_qbz.binds (ps:=["line"]) fun _ _ _ _ _ _=>ln1 fun _=>rfl
 obtain ⟨f_qbk,fd_qbk,m_qbk,N_qbk⟩:=e_is_figures
 have bd_qbk:=N_qbk.binds (ps:=8e7) fun _ _ _ _ _ _=>ln1 fun _=>rfl
 obtain ⟨f_qbv,fd_qbv,m_qbv,N_qbv⟩:=e_need
 have bd_qbv:=N_qbv.binds (ps:=["holds"]) fun _ _ _ _ _ _=>ln1 fun _=>rfl
 obtain ⟨f_qca,fd_qca,m_qca,N_qca⟩:=e_words_of
 have bd_qca:=N_qca.binds (ps:=["text"]) fun _ _ _ _ _ _=>ln1 fun _=>rfl
 obtain ⟨f_qby,fd_qby,m_qby,N_qby⟩:=e_read_number
 have bd_qby:=N_qby.binds (ps:=8e7) fun _ _ _ _ _ _=>ln1 fun _=>rfl
 obtain ⟨f_qbx,fd_qbx,m_qbx,N_qbx⟩:=e_read_name
 have bd_qbx:=N_qbx.binds (ps:=8e7) fun _ _ _ _ _ _=>ln1 fun _=>rfl
 obtain ⟨f_qbw,fd_qbw,m_qbw,N_qbw⟩:=e_read_claim
 have bd_qbw:=N_qbw.binds (ps:=["text"]) fun _ _ _ _ _ _=>ln1 fun _=>rfl
 obtain ⟨f_qac,fd_qac,m_qac,N_qac⟩:=e__law_cell_at
 have bd_qac:=N_qac.binds (ps:=8e0) fun _ _ _ _ _ _=>ln2 fun _ _=>rfl
 obtain ⟨f_qak,fd_qak,m_qak,N_qak⟩:=e__law_left
 have bd_qak:=N_qak.binds (ps:=8e0) fun _ _ _ _ _ _=>ln2 fun _ _=>rfl
 obtain ⟨f_qau,fd_qau,m_qau,N_qau⟩:=e__law_pick
 have bd_qau:=N_qau.binds (ps:=5e7) fun _ _ _ _ _ _=>ln2 fun _ _=>rfl
 obtain ⟨f_qas,fd_qas,m_qas,N_qas⟩:=e__law_number
 have bd_qas:=N_qas.binds (ps:=6e9) fun _ _ _ _ _ _=>ln1 fun _=>rfl
 obtain ⟨f_qbg,fd_qbg,m_qbg,N_qbg⟩:=e__law_word
 have bd_qbg:=N_qbg.binds (ps:=6e9) fun _ _ _ _ _ _=>ln1 fun _=>rfl
 obtain ⟨f_qam,fd_qam,m_qam,N_qam⟩:=e__law_name
 have bd_qam:=N_qam.binds (ps:=6e9) fun _ _ _ _ _ _=>ln1 fun _=>rfl
 obtain ⟨f_qao,fd_qao,m_qao,N_qao⟩:=e__law_name_text
 have bd_qao:=N_qao.binds (ps:=["_law_name_here"]) fun _ _ _ _ _ _=>ln1 fun _=>rfl
 obtain ⟨f_qae,fd_qae,m_qae,N_qae⟩:=e__law_claim
 have bd_qae:=N_qae.binds (ps:=6e9) fun _ _ _ _ _ _=>ln1 fun _=>rfl
 obtain ⟨f_qai,fd_qai,m_qai,N_qai⟩:=e__law_claim_words
 have bd_qai:=N_qai.binds (ps:=["_law_claim_here"]) fun _ _ _ _ _ _=>ln1 fun _=>rfl
 obtain ⟨f_qba,fd_qba,m_qba,N_qba⟩:=e__law_text
 have bd_qba:=N_qba.binds (ps:=["_law_left_here","_law_words"]) fun _ _ _ _ _ _=>ln2 fun _ _=>rfl
 obtain ⟨f_qbc,fd_qbc,m_qbc,N_qbc⟩:=e__law_told
 have bd_qbc:=N_qbc.binds (ps:=["_law_gone","_law_text_here"]) fun _ _ _ _ _ _=>ln2 fun _ _=>rfl
 obtain ⟨f_qaw,fd_qaw,m_qaw,N_qaw⟩:=e__law_same
 have bd_qaw:=N_qaw.binds (ps:=12e6) fun _ _ _ _ _ _=>ln2 fun _ _=>rfl
 obtain ⟨f_qaa,fd_qaa,m_qaa,N_qaa⟩:=e__law_called
 have bd_qaa:=N_qaa.binds (ps:=["_law_word_here"]) fun _ _ _ _ _ _=>ln1 fun _=>rfl
 obtain ⟨f_qbe,fd_qbe,m_qbe,N_qbe⟩:=e__law_whole
 have bd_qbe:=N_qbe.binds (ps:=9e1) fun _ _ _ _ _ _=>ln3 fun _ _ _=>rfl
 obtain ⟨f_qaq,fd_qaq,m_qaq,N_qaq⟩:=e__law_named
 have bd_qaq:=N_qaq.binds (ps:=["_law_parts"]) fun _ _ _ _ _ _=>ln1 fun _=>rfl
 obtain ⟨f_qag,fd_qag,m_qag,N_qag⟩:=e__law_claim_due
 have bd_qag:=N_qag.binds (ps:=["_law_words"]) fun _ _ _ _ _ _=>ln1 fun _=>rfl
 obtain ⟨f_qay,fd_qay,m_qay,N_qay⟩:=e__law_spoilt
 have bd_qay:=N_qay.binds (ps:=["_law_left_here","_law_claim_here"]) fun _ _ _ _ _ _=>ln2 fun _ _=>rfl
 obtain ⟨f_law,fd_law,m_law,N_law⟩:=e_law
 obtain ⟨m_READ_FORMS,TD_READ_FORMS⟩:=tb_READ_FORMS m_qbp m_qbo m_qbq
 obtain ⟨m_MARK_FORMS,TD_MARK_FORMS⟩:=tb_MARK_FORMS m_qbq m_qbr
 have e:=hfa.symm.trans m_law;cases e
 have hb:∀(s:Shared) (v:Value),BindsTo s fd_law ⟨[v],[]⟩ [("_law_script",v)]:=by
  obtain ⟨oc,od,kV,doc,pm,an,cdv,ct,osl,rfl,lk,hcd⟩:=N_law.ex
  exact fun s v=>.of_eq rfl
 refine ⟨fd_law,hb,fun base=>?_⟩
 have E_qbm:=ok_qbm (P:=P) (w:=w) (base:=base) N_qbm T
 have E_qbn:=ok_qbn (P:=P) (w:=w) (base:=base) N_qbn T E_qbm m_qbm N_qbm.kp bd_qbm
 have E_qbs:=ok_qbs (P:=P) (w:=w) (base:=base) N_qbs T
 have E_qbt:=ok_qbt (P:=P) (w:=w) (base:=base) N_qbt T
 have E_qbj:=ok_qbj (P:=P) (w:=w) (base:=base) N_qbj T E_qbn m_qbn N_qbn.kp bd_qbn
 have E_qbl:=ok_qbl (P:=P) (w:=w) (base:=base) N_qbl T E_qbs m_qbs N_qbs.kp bd_qbs E_qbt m_qbt N_qbt.kp bd_qbt E_qbm m_qbm N_qbm.kp bd_qbm
 have E_qbp:=ok_qbp (P:=P) (w:=w) (base:=base) N_qbp T E_qbl m_qbl N_qbl.kp bd_qbl E_qbj m_qbj N_qbj.kp bd_qbj E_qbm m_qbm N_qbm.kp bd_qbm
 have E_qbo:=ok_qbo (P:=P) (w:=w) (base:=base) N_qbo T E_qbl m_qbl N_qbl.kp bd_qbl E_qbj m_qbj N_qbj.kp bd_qbj
 have E_qbq:=ok_qbq (P:=P) (w:=w) (base:=base) N_qbq T E_qbl m_qbl N_qbl.kp bd_qbl
 have E_qbr:=ok_qbr (P:=P) (w:=w) (base:=base) N_qbr T E_qbl m_qbl N_qbl.kp bd_qbl
 have E_qbi:=ok_qbi (P:=P) (w:=w) (base:=base) N_qbi T m_READ_FORMS TD_READ_FORMS m_MARK_FORMS TD_MARK_FORMS E_qbp m_qbp N_qbp.kp bd_qbp E_qbo m_qbo N_qbo.kp bd_qbo E_qbq m_qbq N_qbq.kp bd_qbq E_qbr m_qbr N_qbr.kp bd_qbr
 have E_qbz:=ok_qbz (P:=P) (w:=w) (base:=base) N_qbz T
 have E_qbk:=ok_qbk (P:=P) (w:=w) (base:=base) N_qbk T
 have ER_need:=okR_need (P:=P) (w:=w) (base:=base) N_qbv T (XT base)
 have E_qbv:=ok_qbv (P:=P) (w:=w) (base:=base) N_qbv T
 have ER_words_of:=okR_words_of (P:=P) (w:=w) (base:=base) N_qca T E_qbv m_qbv N_qbv.kp bd_qbv E_qbz m_qbz N_qbz.kp bd_qbz ER_need
 have E_qca:=ok_qca (P:=P) (w:=w) (base:=base) N_qca T E_qbv m_qbv N_qbv.kp bd_qbv E_qbz m_qbz N_qbz.kp bd_qbz
 have ER_read_number:=ZcC (P:=P) (w:=w) (base:=base) N_qby T E_qbk m_qbk N_qbk.kp bd_qbk E_qbv m_qbv N_qbv.kp bd_qbv ER_need
 have E_qby:=ok_qby (P:=P) (w:=w) (base:=base) N_qby T E_qbk m_qbk N_qbk.kp bd_qbk E_qbv m_qbv N_qbv.kp bd_qbv
 have ER_read_name:=okR_read_name (P:=P) (w:=w) (base:=base) N_qbx T E_qbv m_qbv N_qbv.kp bd_qbv E_qby m_qby N_qby.kp bd_qby ER_need ER_read_number
 have E_qbx:=ok_qbx (P:=P) (w:=w) (base:=base) N_qbx T E_qbv m_qbv N_qbv.kp bd_qbv E_qby m_qby N_qby.kp bd_qby
 have ER_read_claim:=ZcZ (P:=P) (w:=w) (base:=base) N_qbw T E_qca m_qca N_qca.kp bd_qca E_qbx m_qbx N_qbx.kp bd_qbx E_qby m_qby N_qby.kp bd_qby E_qbi m_qbi N_qbi.kp bd_qbi E_qbv m_qbv N_qbv.kp bd_qbv ER_words_of ER_read_name ER_read_number ER_need
 have E_qbw:=ok_qbw (P:=P) (w:=w) (base:=base) N_qbw T E_qca m_qca N_qca.kp bd_qca E_qbx m_qbx N_qbx.kp bd_qbx E_qby m_qby N_qby.kp bd_qby E_qbi m_qbi N_qbi.kp bd_qbi E_qbv m_qbv N_qbv.kp bd_qbv
 have E_qac:=ok_qac (P:=P) (w:=w) (base:=base) N_qac T
 have E_qak:=ok_qak (P:=P) (w:=w) (base:=base) N_qak T E_qac m_qac N_qac.kp bd_qac
 have EF_qak:=okF_qak (P:=P) (w:=w) (base:=base) N_qak T E_qac m_qac N_qac.kp bd_qac
 have E_qau:=ok_qau (P:=P) (w:=w) (base:=base) N_qau T
 have E_qas:=ok_qas (P:=P) (w:=w) (base:=base) N_qas T E_qau m_qau N_qau.kp bd_qau
 have E_qbg:=ok_qbg (P:=P) (w:=w) (base:=base) N_qbg T E_qau m_qau N_qau.kp bd_qau
 have E_qam:=ok_qam (P:=P) (w:=w) (base:=base) N_qam T E_qbg m_qbg N_qbg.kp bd_qbg E_qas m_qas N_qas.kp bd_qas
 have E_qao:=ok_qao (P:=P) (w:=w) (base:=base) N_qao T
 have E_qae:=ok_qae (P:=P) (w:=w) (base:=base) N_qae T E_qam m_qam N_qam.kp bd_qam E_qau m_qau N_qau.kp bd_qau E_qas m_qas N_qas.kp bd_qas
 have E_qai:=ok_qai (P:=P) (w:=w) (base:=base) N_qai T E_qao m_qao N_qao.kp bd_qao
 have EF_qai:=okF_qai (P:=P) (w:=w) (base:=base) N_qai T E_qao m_qao N_qao.kp bd_qao
 have E_qba:=ok_qba (P:=P) (w:=w) (base:=base) N_qba T E_qau m_qau N_qau.kp bd_qau
 have E_qbc:=ok_qbc (P:=P) (w:=w) (base:=base) N_qbc T E_qbw m_qbw N_qbw.kp bd_qbw ER_read_claim (XT base)
 have E_qaw:=ok_qaw (P:=P) (w:=w) (base:=base) N_qaw T m_qaw N_qaw.kp bd_qaw
 have E_qaa:=ok_qaa (P:=P) (w:=w) (base:=base) N_qaa T
 have E_qbe:=ok_qbe (P:=P) (w:=w) (base:=base) N_qbe T
 have E_qaq:=ok_qaq (P:=P) (w:=w) (base:=base) N_qaq T E_qaa m_qaa N_qaa.kp bd_qaa E_qbe m_qbe N_qbe.kp bd_qbe
 have E_qag:=ok_qag (P:=P) (w:=w) (base:=base) N_qag T E_qaq m_qaq N_qaq.kp bd_qaq E_qbe m_qbe N_qbe.kp bd_qbe
 have E_qay:=ok_qay (P:=P) (w:=w) (base:=base) N_qay T EF_qai m_qai N_qai.kp bd_qai E_qau m_qau N_qau.kp bd_qau
 have E_law:=ok_law (P:=P) (w:=w) (base:=base) N_law T EF_qak m_qak N_qak.kp bd_qak E_qae m_qae N_qae.kp bd_qae E_qay m_qay N_qay.kp bd_qay E_qag m_qag N_qag.kp bd_qag E_qba m_qba N_qba.kp bd_qba E_qbw m_qbw N_qbw.kp bd_qbw E_qbc m_qbc N_qbc.kp bd_qbc E_qaw m_qaw N_qaw.kp bd_qaw E_qau m_qau N_qau.kp bd_qau
 exact E_law.imp (Hd.spLaw_lift fun ns hl=>law_pure (Zdj N_qbp N_qbo 2e6) (Zdj N_qbp N_qbq 2e6) (Zdj N_qbp N_qbr 2e6) (Zdj N_qbo N_qbq 2e6) (Zdj N_qbo N_qbr 2e6) (Zdj N_qbq N_qbr 2e6) ns hl)
noncomputable def bl:List Str:=["ValueError","all","bool","enumerate","int","isinstance","len","max","min","range","str","tuple","zip"]
theorem hbl:bl.all (fun x=>!Hd.isHere qv (W.looseW qv 6e2) x)=true:=by kernel_rfl
theorem said:PySem.Challenge.rw_holdword_k83_no_claims.wellSaid=true:=by kernel_rfl
end K83
open PySem PySem.W PyProof.Rows
set_option maxRecDepth 100000 in
set_option maxHeartbeats 0 in
theorem PySem.Challenge.cw_holdword_k83_no_claims_holds : PySem.Challenge.rw_holdword_k83_no_claims.Holds := by
 refine holds_law K83.said fun said=>?_
 refine holds_open (q:=K83.qv) (loose:=6e2) (Xt:=fun s=>xlAt K83.qv [] s&&recOk [] s) (XP:=XL K83.qv []) (YP:=K83.hk.says) K83.hl (Hook.of K83.hk) (Hook.keeps K83.hk) (fun s e=>xl_of s (Ve.mp e).1) XL.keeps (d:=⟨"law",L2.defArgs K83.s_law,L2.defBody K83.s_law,L2.defScope K83.s_law,Hd.defPos K83.s_law⟩) (kwd:=[]) (by kernel_rfl) (by kernel_rfl) (by kernel_rfl) (fun s e=>recFacts_of (Ve.mp e).2) 1e0 said (by kernel_rfl) ⟨rfl,rfl,rfl,rfl,rfl,by decide +kernel⟩ ⟨[.list []],by decide +kernel,by decide +kernel⟩ ?_
 refine Hd.walk (k:=14) rfl rfl ⟨rfl,by decide,by decide⟩ [83,84,146,109,122,134,158,145,108,106,105,99] fun w s₀ mg mb h as G Y h0 A fa hmg=>?_
 refine K83.all_mk hmg ⟨Hd.str_of (G.T.const "FIGURES" (.str "0123456789") (by kernel_rfl)),Hd.int_of (G.T.const "LONGEST_WORD" (.int 12) (by kernel_rfl)),Hd.int_of (G.T.const "MOST_CLAUSES" (.int 12) (by kernel_rfl)),Hd.str_of (G.T.const "SMALL_LETTERS" 7e7 (by kernel_rfl)),Hd.nones G.T K83.hbl 0 rfl,Hd.nones G.T K83.hbl 1 rfl,Hd.nones G.T K83.hbl 2 rfl,Hd.nones G.T K83.hbl 3 rfl,Hd.nones G.T K83.hbl 4 rfl,Hd.nones G.T K83.hbl 5 rfl,Hd.nones G.T K83.hbl 6 rfl,Hd.nones G.T K83.hbl 7 rfl,Hd.nones G.T K83.hbl 8 rfl,Hd.nones G.T K83.hbl 9 rfl,Hd.nones G.T K83.hbl 10 rfl,Hd.nones G.T K83.hbl 11 rfl,Hd.nones G.T K83.hbl 12 rfl⟩ (Hd.fn_at A K83.sts_ok 0 rfl) (Hd.fn_at A K83.sts_ok 1 rfl) (Hd.fn_at A K83.sts_ok 2 rfl) (Hd.fn_at A K83.sts_ok 3 rfl) (Hd.fn_at A K83.sts_ok 4 rfl) (Hd.fn_at A K83.sts_ok 5 rfl) (Hd.fn_at A K83.sts_ok 6 rfl) (Hd.fn_at A K83.sts_ok 7 rfl) (Hd.fn_at A K83.sts_ok 8 rfl) (Hd.fn_at A K83.sts_ok 9 rfl) (Hd.fn_at A K83.sts_ok 10 rfl) (Hd.fn_at A K83.sts_ok 11 rfl) (Hd.fn_at A K83.sts_ok 12 rfl) (Hd.fn_at A K83.sts_ok 13 rfl) (Hd.fn_at A K83.sts_ok 14 rfl) (Hd.fn_at A K83.sts_ok 15 rfl) (Hd.fn_at A K83.sts_ok 16 rfl) (Hd.fn_at A K83.sts_ok 17 rfl) (Hd.fn_at A K83.sts_ok 18 rfl) (Hd.fn_at A K83.sts_ok 19 rfl) (Hd.fn_at A K83.sts_ok 20 rfl) (Hd.fn_at A K83.sts_ok 21 rfl) (Hd.fn_at A K83.sts_ok 22 rfl) (Hd.fn_at A K83.sts_ok 23 rfl) (Hd.fn_at A K83.sts_ok 24 rfl) (Hd.fn_at A K83.sts_ok 25 rfl) (Hd.fn_at A K83.sts_ok 26 rfl) (Hd.fn_at A K83.sts_ok 27 rfl) (Hd.fn_at A K83.sts_ok 28 rfl) (Hd.fn_at A K83.sts_ok 29 rfl) (Hd.fn_at A K83.sts_ok 30 rfl) (Hd.fn_at A K83.sts_ok 31 rfl) (Hd.fn_at A K83.sts_ok 32 rfl) (Hd.fn_at A K83.sts_ok 33 rfl) (Hd.fn_at A K83.sts_ok 34 rfl) (Hd.fn_at A K83.sts_ok 35 rfl) (K83.td_READ_FORMS G.T.g Y (h0 _ 3e2)) (K83.td_MARK_FORMS G.T.g Y (h0 _ 3e2)) (fun base=>K83.xt G.T.g Y (fun a ha=>h0 a (by simp only[Yg,Yr,or_false] at ha ⊢;simp[ha])) base)