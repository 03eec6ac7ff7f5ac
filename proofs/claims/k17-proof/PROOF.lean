import PyProof.Rows.All
import Wide.All
import OpenK.AllK
import Wide.FinOn
import Lean
import PyProof.EqAt
import PyProof.EqKinds
import PyProof.TupleCall
import PyProof.DictCompW
import PySem.SetOps
import PyProof.SetScanFacts
import PyProof.SetKind
import PyProof.TupleKey
import PyProof.DictRoadsH
import PyProof.IsRules
import PyProof.Rows.SetFrom
import PyProof.WalksMore
import PyProof.NeKinds
import KE.KSortTup
import KE.KDictOf
import PyProof.DictFindH
import PyProof.AttrMissSeq
import KE.KDictList
import PyProof.CollectWalk
import PyProof.StrBlock2
import PyProof.SeqI3
import PyProof.EnumMake
import PyProof.WalksEnum
import PyProof.DictValues
import PyProof.DictWalks
import KE.KRevSl
import PyProof.ListMulAny
import PyProof.Rows.ListMul
import PyProof.Draws
import PyProof.Rows.IntBool
import KE.KRevIter
import PyProof.Rows.FStr
import PyProof.Rows.StrNews
import PyProof.Rows.StrSplitAre
import PyProof.CallStr
import KE.KIntText
import PyProof.AutoListH
import KE.KPairComp
import PySem.Challenge.RW_holdword_k17_gaps
noncomputable section
set_option hygiene false
local macro_rules
|`(1e0)=>`((by rfl))
|`(1e1)=>`((Zaf c__law_pick 3e7 1e0 (@Zaa _ _ _ _ _ (Zab 0) 5e0 1e0)))
|`(1e2)=>`((by lia))
|`(1e3)=>`(⟨rfl,rfl,rfl,by decide +kernel,rfl,by decide +kernel,by decide +kernel⟩)
|`(1e4)=>`((CompCx X (vs++fs) scope C s₀ H₀ ex pn))
|`(1e5)=>`(#[.lst (ns.map .int)])
|`(1e6)=>`((by decide))
|`(1e7)=>`(Value->Shared->Prop)
|`(1e8)=>`(Yo 9e1 X.env=(false,eval e X.env)::Yo es X.env)
|`(1e9)=>`((mC (.int 1)))
|`(2e0)=>`(List (Addr×Obj))
|`(2e1)=>`((mVar 0))
|`(2e2)=>`([3e9,#[d.P],#[.tup (d.hs.map .str)],#[.tup (d.ow.map .str)],#[.int d.cl],#[.tup (d.cs.map Cl.P)],#[.int w],14e0,#[.int cl.a],#[.int cl.b],#[.int cl.p],#[.int cl.w],#[.tup (cl.cs.map tupK)],#[lvP cl.lv],none])
|`(2e3)=>`(Inv X pins σ H s)
|`(2e4)=>`(#[.lst (ls.map Lt.P)])
|`(2e5)=>`((Or.inl rfl))
|`(2e6)=>`((Zat (Zas (@Zaa _ _ _ _ _ Zac (@Zaa _ _ _ _ _ Zac (@Zaa _ _ _ _ _ Zac (@Zaa _ _ _ _ _ Zac (@Zaa _ _ _ _ _ Zac (@Zaa _ _ _ _ _ Zac (@Zaa _ _ _ _ _ Zac 5e0 1e0) 1e0) 1e0) 1e0) 1e0) 1e0) 1e0))))
|`(2e7)=>`((model X.prog X.w))
|`(2e8)=>`(PSt->M (List SV))
|`(2e9)=>`((mC (.int 2)))
|`(3e0)=>`((by exact ⟨rfl,rfl,rfl,rfl,rfl,rfl,rfl⟩))
|`(3e1)=>`((backTo pos (Yo es X.env)).any (·.1)=false)
|`(3e2)=>`((model prog w))
|`(3e3)=>`(Str->Option Value)
|`(3e4)=>`((mC (.int 0)))
local macro_rules
|`(3e5)=>`(Cal P w K mg base 1 "_law_pick" ["_law_left_here","_law_many"] (liftSp K F_l_pick))
|`(3e6)=>`((g2 ixQ))
|`(3e7)=>`((hr.mono 1e6))
|`(3e8)=>`(some (.c D.length))
|`(3e9)=>`(some (.c k))
|`(4e0)=>`(#[townP sp nms ds])
|`(4e1)=>`(#[.lst (vs.map Lt.P)])
|`(4e2)=>`((g2 (deepP fun p q=>!eqD p q)))
|`(4e3)=>`(List Addr)
|`(4e4)=>`((mVar 1))
|`(4e5)=>`(#[.lst (ws.map .str)])
|`(4e6)=>`((by simp))
|`(4e7)=>`(PSt->M SV)
|`(4e8)=>`((g2 addP))
|`(4e9)=>`(List Value)
|`(5e0)=>`((@Zaa _ _ _ _ _ Zac Zad 1e0))
|`(5e1)=>`((.int (sh.length:Int)))
|`(5e2)=>`(PV->PSt->Option PSt)
|`(5e3)=>`((mFn F_l_pick (aCons 4e4 10e5)))
|`(5e4)=>`(A.units < cLine)
|`(5e5)=>`((x==("__debug__":Str))=false)
|`(5e6)=>`(List (List Key))
|`(5e7)=>`((aCons 8e1 aNil))
|`(5e8)=>`(["_law_letter_here"])
|`(5e9)=>`(List Str)
local macro_rules
|`(6e0)=>`(some (.c C2.length))
|`(6e1)=>`(List Expr)
|`(6e2)=>`((Zaf c__law_pick 3e7 1e0 (@Zaa _ _ _ _ _ (Zab 1) 5e0 1e0)))
|`(6e3)=>`(PSt->M 14e9)
|`(6e4)=>`(some (.c C.length))
|`(6e5)=>`((hName 0))
|`(6e6)=>`((mC (.int 3)))
|`(6e7)=>`(PSt->M Bool)
|`(6e8)=>`(some (.c a))
|`(6e9)=>`((Zay hr))
|`(7e0)=>`((.Call (.Name x p) 9e1 [] pos))
|`(7e1)=>`(X.fn x=true\/X.env.scope.names.lookup x=some .local)
|`(7e2)=>`((mFn F_l_pick (aCons 2e1 (aCons 2e9 aNil))))
|`(7e3)=>`((aCons (mVar 5) aNil))
|`(7e4)=>`((ts.map nmV))
|`(7e5)=>`((@Zaa _ _ _ _ _ (Zab 2) Zad 1e0))
|`(7e6)=>`((∀b u,s.heap.get? b=some u->h'.get? b=some u))
|`(7e7)=>`((mVar 3))
|`(7e8)=>`((nomark _))
|`(7e9)=>`(Array (Int×Value))
|`(8e0)=>`((us.map Lt.P))
|`(8e1)=>`((mVar 2))
|`(8e2)=>`((mVal (mLst aNil)))
|`(8e3)=>`((k'==Xq&&env.scope.kind==.function&&env.kindOf n==some .cell))
|`(8e4)=>`((aCons (mC (.int 9)) aNil))
local macro_rules
|`(8e5)=>`((.lst ps))
|`(8e6)=>`(Option SV)
|`(8e7)=>`((p.getD (n - 1) 0))
|`(8e8)=>`(X.A.units + 64 < cLine)
|`(8e9)=>`([1e5,T,2e4,#[.int i],3e8,4e1,4e1,#[.lst (ts'.map nmV)],6e0])
|`(9e0)=>`((start t.mask (Ys knd k)))
|`(9e1)=>`((e::es))
|`(9e2)=>`((.lst (ls.map Lt.P)))
|`(9e3)=>`((0 + (q:Int)))
|`(9e4)=>`((.tup ps))
|`(9e5)=>`((g1 lenH))
|`(9e6)=>`(Bool->Shared->Prop)
|`(9e7)=>`(⟨_,rfl⟩)
|`(9e8)=>`((fun _ _ _ _ _ _=>ln1 fun _=>rfl))
|`(9e9)=>`((.ListComp elt [⟨tg,iter,ifs,0⟩] scope pos))
|`(10e0)=>`((mTest (mOp (g2 (inDP true)) (mVar 12) 18e2)))
|`(10e1)=>`((.ref s.heap.objs.size))
|`(10e2)=>`((@Zaa _ _ _ _ _ (Zab 0) Zad 1e0))
|`(10e3)=>`((by decide +kernel))
|`(10e4)=>`(CSc X scope vs fs fr)
|`(10e5)=>`((aCons (mC (.int 8)) aNil))
|`(10e6)=>`(#[.lst (so.map Lt.P)])
|`(10e7)=>`(#[.lst (sn.map .str)])
|`(10e8)=>`((seqObj "list" vs.toArray 0))
|`(10e9)=>`([.lst [.int x,.int y]])
local macro_rules
|`(11e0)=>`((by simp;lia))
|`(11e1)=>`((ι++ι2))
|`(11e2)=>`((mTup (aCons (mC (.str "join")) aNil)))
|`(11e3)=>`((aCons 18e3 aNil))
|`(11e4)=>`((@Zaa _ _ _ _ _ (Zab 5) Zad 1e0))
|`(11e5)=>`(X.calm=true)
|`(11e6)=>`(["_law_script","_law_k"])
|`(11e7)=>`((clFrom X.env.cells scope.names []))
|`(11e8)=>`((sc2 elt t0 i0 t1 i1 ifs scope pos))
|`(11e9)=>`(List Key)
|`(12e0)=>`((∀b∈fp,H' b=none))
|`(12e1)=>`((by simpa using h))
|`(12e2)=>`(#[.tup (dl.hs.map .str)])
|`(12e3)=>`(CR K ι H C)
|`(12e4)=>`((fun _ _ _ _ _ _=>ln2 fun _ _=>rfl))
|`(12e5)=>`(List Nat)
|`(12e6)=>`(#[.lst ((us.map Lt.nm).map tupK)])
|`(12e7)=>`((mTup (aCons (mC (.str "note")) aNil)))
|`(12e8)=>`((@Zaa _ _ _ _ _ (Zaq (@Zaa _ _ _ _ _ Zav Zad 1e0)) Zad 1e0))
|`(12e9)=>`((aCons (mVar 7) aNil))
|`(13e0)=>`((Zah 6e9 (Zab 0) Zac))
|`(13e1)=>`((mC (.int 5)))
|`(13e2)=>`((ZaL I q 4e6))
|`(13e3)=>`((.int (i:Nat)))
|`(13e4)=>`(Array Nat)
local macro_rules
|`(13e5)=>`((hu64 hr))
|`(13e6)=>`((List Key×Addr×Value))
|`(13e7)=>`((.v .non,C'.take C.length))
|`(13e8)=>`(PSt->M PF)
|`(13e9)=>`(#[.lst ((L.take s.q.toNat).map fI)])
|`(14e0)=>`(#[.int c])
|`(14e1)=>`(HRep s.heap 8e5 u)
|`(14e2)=>`(HRep s.heap 9e4 u)
|`(14e3)=>`(List V->Hp->VK->Prop)
|`(14e4)=>`((g2 (deepP eqD)))
|`(14e5)=>`((aCons 7e7 aNil))
|`(14e6)=>`((.v 8e5,C'.take C.length))
|`(14e7)=>`((.v 9e4,C'.take C.length))
|`(14e8)=>`((.bl true))
|`(14e9)=>`((List PV))
|`(15e0)=>`((aCons 2e9 (aCons 6e6 (aCons 1e9 (aCons 2e9 (aCons (mC (.int 7)) aNil))))))
|`(15e1)=>`([3e9,4e1,#[.lst 7e4],#[.lst (ts.map Lt.P)],none])
|`(15e2)=>`((Or.inr rfl))
|`(15e3)=>`(#[.int many])
|`(15e4)=>`(#[.int now])
|`(15e5)=>`((fun _ _ _ _ _=>Za2))
|`(15e6)=>`((.lst (ns.map .int)))
|`(15e7)=>`(((u::us).map Lt.P))
|`(15e8)=>`((mC (.int 4)))
|`(15e9)=>`((@Zaa _ _ _ _ _ (Zab 4) Zad 1e0))
local macro_rules
|`(16e0)=>`((k==Xq&&env.scope.kind==.function&&env.kindOf n==some .cell))
|`(16e1)=>`((hTup (hCons (hName 8) (hCons (hName 9) (hCons (hName 10) (hCons (hName 11) (hCons (hName 12) (hCons (hName 13) hNil)))))) 6))
|`(16e2)=>`(Result->Shared->Prop)
|`(16e3)=>`(Nat->Nat->Bool)
|`(16e4)=>`(∀b u,h.get? b=some u->h'.get? b=some u)
|`(16e5)=>`((mVal (mSorted3 (aCons (mOp 3e6 4e4 1e9) aNil))))
|`(16e6)=>`(∀x,Y5 iter X.env x=pure x)
|`(16e7)=>`(RawS s.heap a es ep t)
|`(16e8)=>`(∀C s₀ H₀ ex pn,PTs 1e4 ifs tt)
|`(16e9)=>`(Reps.cells hs _ _ r)
|`(17e0)=>`((defScope st))
|`(17e1)=>`((mFn F_l_pick (aCons 2e1 8e4)))
|`(17e2)=>`((mOp 3e6 (mOp 3e6 4e4 1e9) (mVar 5)))
|`(17e3)=>`(HRep s.heap q v)
|`(17e4)=>`((.inl rfl))
|`(17e5)=>`((mVar 6))
|`(17e6)=>`((XC ps.length))
|`(17e7)=>`(∀j (h1:j < us.length) (h2:j < vs.length),EqAt A.in1 s us[j] vs[j] (eqD (ps.getD j .non) (qs.getD j .non)))
|`(17e8)=>`((st + (0 + (j:Int))))
|`(17e9)=>`(#[.tup (hs'.map .str)])
|`(18e0)=>`((fun _ _=>False))
|`(18e1)=>`(some (.c n))
|`(18e2)=>`((mVar 10))
|`(18e3)=>`((mVar 4))
|`(18e4)=>`((.builtin "sorted"))
local macro_rules
|`(18e5)=>`((EP X pins σ Q))
|`(18e6)=>`(A.handled=none)
|`(18e7)=>`((p.getD n 0))
|`(18e8)=>`([.lst (ts'.map nmV++[.tup [.str "a",.str "a",.int 1]])])
|`(18e9)=>`(Cs->SV->SV->Option SV)
|`(19e0)=>`((@Zaa _ _ _ _ _ (Zab 3) Zad 1e0))
|`(19e1)=>`(#[.str h])
|`(19e2)=>`(List (List Key×V))
|`(19e3)=>`((fun _ _ _ _ _=>(Zab 0)))
|`(19e4)=>`((Zao Zc7 Zdb.r (Zab 6) Zac 7e8))
|`(19e5)=>`((mVar 8))
|`(19e6)=>`((ps.length - 1))
|`(19e7)=>`((ρ.set 0 #[x]))
|`(19e8)=>`((HReps.eqAt ps r1 r2 (by rw[YU];lia)))
|`(19e9)=>`(((ps.map fl).map Lt.P))
local macro_rules
|`(tactic|sleep 1)=>`(tactic|generalize ls.map Lt.P=LS at *)
|`(tactic|sleep 2)=>`(tactic|obtain ⟨ι,ρ,C,fl,C',sr,e,d⟩:=h_)
|`(tactic|sleep 3)=>`(tactic|(have a0:=a;have b0:=b;unfold HRep at a b;obtain ⟨l,us,rfl,h1,r1⟩:=a;obtain ⟨l',vs,rfl,h2,r2⟩:=b;unfold dep at hu))
|`(tactic|sleep 4)=>`(tactic|intro pins s σ H x y v u Q I rx ry h)
|`(tactic|sleep 5)=>`(tactic|(intro X hP hw hK hc i pins s σ H E I hf st hg;subst hP hw hK))
|`(tactic|sleep 6)=>`(tactic|(obtain ⟨ι,ρ,C,z,C',sr,e,q⟩:=h;obtain ⟨x,C1,e1,e⟩:=Zag e))
|`(tactic|sleep 7)=>`(tactic|generalize vs.map Lt.P=VS at *)
|`(tactic|sleep 8)=>`(tactic|intro ι H C p q vx vy z Q cr lx ly e k)
|`(tactic|sleep 9)=>`(tactic|obtain ⟨ι,ρ,C,z,C',sr,e,q⟩:=h_)
|`(tactic|sleep 10)=>`(tactic|obtain ⟨xs,C1,e1,e⟩:=Zag e)
|`(tactic|sleep 11)=>`(tactic|obtain ⟨t,rfl⟩:=rx)
|`(tactic|sleep 12)=>`(tactic|(generalize townP sp nms ds=TP at *;generalize nms.map PV.str=NM at *;generalize ds.map Dl.P=DS at *))
|`(tactic|sleep 13)=>`(tactic|generalize mi.map Lt.P=MI at *)
|`(tactic|sleep 14)=>`(tactic|intro pins s σ H Q I h)
|`(tactic|sleep 15)=>`(tactic|obtain ⟨f0,f1,f2,f3,f4,f5⟩:=hf it 4e6)
|`(tactic|sleep 16)=>`(tactic|(unfold HRep at a;obtain ⟨_,rfl⟩:=a;cases q<;>unfold HRep at b))
|`(tactic|sleep 17)=>`(tactic|(unfold Rep at h ⊢;obtain ⟨a,vs,e,sq,r⟩:=h))
|`(tactic|sleep 18)=>`(tactic|(obtain ⟨o,ho,hc,hd⟩:=hit;obtain ⟨od,hod,hcd,hdd⟩:=hm;unfold pyNext;refine Ya (VH (Xz (name:=WQ "__next__") Ty Zap (Xc Zap Ty ZaJ ?body (ZaH _))))))
|`(tactic|sleep 19)=>`(tactic|(unfold HReps at a;obtain ⟨v,r,rfl,a1,a2⟩:=a))
|`(tactic|sleep 20)=>`(tactic|(subst hr;(refine Zbc h4 fun _ s5 h_=>?_);obtain ⟨x,H5,J5,r5,y5,st5,fr5⟩:=h_;have J5':=J5.pinned (stat fr5) (T.obj _ _ st5)))
|`(tactic|sleep 21)=>`(tactic|intro pins s σ H xs us Q I r h)
|`(tactic|sleep 22)=>`(tactic|exact b.elim)
set_option hygiene true
open Array renaming getElem?_eq_getElem → Yj, length_toList → YH, getD_eq_getD_getElem? → YI, getElem?_eq_none → YN, getElem?_toList → Xg, mem_toList_iff → XY, perm_iff_toList_perm → W1, mem_of_getElem? → Vy, getElem?_append_left → VV, replicate → Uw
open Array.Perm renaming refl → VJ
open Bool renaming and_eq_true → Yt, false_ne_true → Yv, false_eq_true → YO, eq_iff_iff → Vh, and_false → V6, not_true → Uf, or_eq_true → UA
open False renaming elim → WH
open ForInStep renaming yield → WU
open Int renaming emod_lt_of_pos → Y6, emod_nonneg → Xf, toNat_natCast → Xy
open List renaming getElem?_eq_getElem → Yb, mem_append_right → Ye, getElem?_append_left → Yf, getElem?_eq_none_iff → Yg, range → Yi, mem_singleton → Yk, size_toArray → Yl, mem_cons → Ym, map_cons → Yq, mem_append → Yw, append_assoc → Yx, getElem?_set_ne → Yy, length_map → YA, mem_map → YB, mem_append_left → YF, append_nil → YJ, mem_of_getElem? → YK, getElem?_map → YL, mem_cons_self → YM, mem_cons_of_mem → YR, getElem?_eq_some_iff → YT, all_eq_true → YW, length_cons → YX, nodup_iff_pairwise_ne → Y0, getElem_mem → Y2, mem_range → Y3, map_append → Y4, lookup_cons → Y7, getElem?_append_right → Y8, replicate → Y9, length_append → Xa, getElem?_take_of_lt → Xb, not_mem_nil → Xd, ext_getElem? → Xe, zip_cons_cons → Xh, map_map → Xi, length_take → Xl, nodup_cons → Xm, nil_append → Xp, mem_filter → Xu, getElem?_eq_none → Xw, nodup_append → XB, getElem?_set_self → XD, drop_eq_getElem_cons → XE, mem_map_of_mem → XF, pairwise_map → XH, set_set → XI, length_set → XM, any_cons → XN, getD_eq_getElem?_getD → XT, mem_of_mem_take → XZ, length_range → X5, replicate_succ → Wb, length_filter_le → Wl, map_nil → Ww, filterMap_cons → Wx, getElem_of_mem → WA, length_pos_iff → WC, getElem_inj → WD, find?_cons → WR, length_nil → WT, getElem?_toArray → WW, toArray → WX, flatten_cons → W0, mem_of_mem_drop → W3, nodup_nil → W5, drop_length → W8, map_fst_zip → W9, all_cons → Vn, take_of_length_le → Vr, length_drop → Vz, nodup_range → VB, eq_nil_of_length_eq_zero → VC, getElem?_range → VL, length_zip → VN, filter_map → VP, length_eraseIdx_of_lt → VU, mem_filterMap → VW, all_map → V0, of_mem_zip → Ur, zipWith → UD
open List.Pairwise renaming imp_of_mem → Ws, imp → Ub
open List.cons renaming injEq → Wu, inj → Vp
open Nat renaming le_refl → Yh, lt_of_lt_of_le → Yn, ne_of_lt → Yr, lt_or_ge → YC, le_trans → YQ, zero_le → YV, le_of_lt → Xv, lt_irrefl → X0, not_lt_zero → X8, ne_of_gt → Wv, zero_add → WV, min_eq_left → WY, lt_trichotomy → Vt, lt_succ_self → VA, mod_lt → VI, lt_of_le_of_lt → VY, succ_pos → VZ, le_of_not_lt → Uk, lt_trans → Ut, le_succ → UM
open Ne renaming symm → Xx
open Option renaming map_eq_some_iff → XV, isSome_iff_exists → Vb, isSome_map → V8, map_some → Uv
open Option.some renaming inj → YG
open Prod renaming fst → UF
open PyProof.Rows renaming slot_tuple_getitem → Xn, callWith_type1 → X7, get?_update_seq → Wt, callWith_builtin1 → Vx, entry_proto_collect' → VE, SortKind → VF, listUpdate_at → VG, mirror_perm → Ug, entry_list_iadd' → Ul, AllBare → Um, listItems_at → Uy, mirror_size → UN, seqEpoch_at → UO
open PySem renaming wpAny_bind → Ya, wpAny_pure → Yd, starEach → Yo, tupleKeyHash → Ys, sizeLine → Yu, Program → YD, sizeLine_eq → YS, wpAny_setState_of → YY, Spec → YZ, wpAny_mono → Y1, foldedSetIterable → Y5, wpAny_call_entry → Xc, wpAny_holding → Xk, bootBuiltins → Xo, wpAny_callSpecial?_slot → Xz, wpAny_newObj_type → XA, SetTable → XJ, compareOp → XU, wpAny_standAt → X1, FuncData → X2, codeAny → X3, IsTupleKey → X4, letOwnedTupleGo → X6, wpAny_ite_split → Wa, sysModules → Wd, wpAny_askSetting → We, setSearchFrom → Wh, wpAny_setField → Wn, assignEach → Wp, wpAny_comprehension_free → Wr, mem_of_lookup → Wy, wpAny_newList → WB, wpAny_typeNameOfWhole_keyiter → WG, binaryOp → WK, tupleKind → WO, swapsWith → WP, codeAny_builtin → WZ, Builtin → W2, carriedByValue → W6, wpAny_typeOf → Vd, wpAny_passesOwn → Vg, behindInMarks → Vi, wpAny_Call_Name_kw → Vj, NameKind → Vk, tupleKind_room_in1 → Vm, wpAny_loadPart' → Vo, sliceBounds → Vs, wpAny_fieldsOf → Vv, wpAny_newFunctionEnv → VD, wpAny_attempt → VH, wpAny_raiseNew_none → VM, wpAny_seqItems → V4, DictEntry → V7, ofAClassStatement → V9, wpAny_pyIter_slot → Ua, mainGlobals → Uc, attributeBase → Ud, noFill_tuple_add → Uj, wpAny_execs_nil → Uo, holding → Up, codeAny_mono → Uq, concat_meets → Us, codeAny_loop → Uu, collect → Uz, pickOrder → UB, wpAny_updateSeq → UC, compEnvC → UE, setEntries → UG, setsByText → UH, getItem → UI, keywordEach → UJ, Keyword → UK, wpAny_noted → UL, standAt → UT, callerA → UU, valueAt → UV
open PySem.Around renaming in1_units → YU
open PySem.Builtin.List renaming listTooLong → XX, listExtendWith → X9, listSameRef → Ve, listLengthHint → VO
open PySem.Builtin.Slice renaming slicePlaces → Wm, sliceAdjust → W4, sliceApplied → VR
open PySem.Builtin.Tuple renaming tupleExact → Wq, tupleItemsOf → VT
open PySem.Calls renaming call_function_entry → W7, Name_function_global → VQ
open PySem.Code renaming quiet_builtin → V1
open PySem.F renaming slot_dict_keyiterator_next → WL, args_tuple_add_2 → Vc, entry_tuple_add → Vl, slot_tuple_add → Vq
open PySem.Heap renaming get?_push_of_some → Yc, get?_push_size → Yp, lt_size → Yz, get?_update_self → XG, get?_update_ne → XW, SameBut → Wg, size_push → V3, ExtBut → UQ
open PySem.Heap.SameBut renaming update → Xj
open PySem.NameKind renaming free → Xq, cell → Wz
open PySem.Obj renaming data_mapFields → Xr, mapSeq → XR, mapFields → Wi, isFreed_of_fields → Wj, cls_mapFields → Vu
open PySem.Paired renaming length → Vf
open PySem.PassesOwn renaming never → XO
open PySem.SetFound renaming there → V5
open PySem.SetTable renaming grown → Vw, sizeAbove → V2, slot → Ue
open PySem.Str renaming ofString → WQ
open PySem.Value renaming ref → YE, none → XQ, type → Wo
open PySem.W renaming kas_sort → XC, kas_desc → Wc, kia_one → WE, kas_place → WF, kas_rev → WJ, kas_asc → Va, keepIn → VX, kas_descPart → Ux
open PySem.W.KasT renaming ret → UR
open PySem.W.Looks renaming of_pure → Uh
open Sum renaming inr → Xs, inl → WN
open Sum.inr renaming injEq → Ui
open True renaming intro → WI
set_option backward.eqns.nonrecursive false
set_option genSizeOf false
set_option compiler.extract_closed false
set_option bootstrap.genMatcherCode false
set_option Elab.async false
set_option linter.all false
set_option maxRecDepth 100000
namespace L2
open PySem PySem.Spec PyProof.Rows
abbrev Key:=Sum Int Str
def keyIs:Key->Value->Bool
 | .inl k,v=>Value.isInt k v
 | .inr x,v=>Value.isStrOf x v
def keyH (w:World):Key->Int
 | .inl k=>hashInt k
 | .inr x=>hashStr w x
theorem ZaS:∀{k:Key} {v:Value},keyIs k v=true->(∃i t,k=WN i/\v=Value.int i t)\/(∃x t,k=Xs x/\v=Value.str x t)
 | .inl i,v,h=>by
  obtain ⟨t,e⟩:=Value.isInt_shape (k:=i) (v:=v) h
  exact .inl ⟨i,t,rfl,e⟩
 | .inr x,v,h=>by
  obtain ⟨t,e⟩:=Value.isStrOf_shape (x:=x) (v:=v) h
  exact .inr ⟨x,t,rfl,e⟩
theorem keyIs_int (i:Int)(t:Tok):keyIs (.inl i) (.int i t)=true:=by simp[keyIs,Value.isInt]
theorem keyIs_str (x:Str)(t:Tok):keyIs (.inr x) (.str x t)=true:=by simp[keyIs,Value.isStrOf]
theorem key_ll (a b:Int):decide ((WN a:Key)=WN b)=(a==b):=by
 by_cases e:a=b
 ·subst e;simp
 ·have h:¬(WN a:Key)=WN b:=fun q=>e (Sum.inl.inj q)
  rw[decide_eq_false h]
  exact (beq_eq_false_iff_ne.mpr e).symm
theorem key_rr (a b:Str):decide ((Xs a:Key)=Xs b)=decide (a=b):=by
 by_cases e:a=b
 ·subst e;simp
 ·have h:¬(Xs a:Key)=Xs b:=fun q=>e (Sum.inr.inj q)
  rw[decide_eq_false h,decide_eq_false e]
theorem key_lr (a:Int)(b:Str):decide ((WN a:Key)=Xs b)=false:=decide_eq_false (fun q=>nomatch q)
theorem key_rl (a:Str)(b:Int):decide ((Xs a:Key)=WN b)=false:=decide_eq_false (fun q=>nomatch q)
def mixKind (prog:YD)(w:World):PySem.KeyKind prog w Key where
 is:=keyIs
 hash:=keyH w
 inj:=fun v a b ha hb=>by
  rcases ZaS ha with ⟨i,t,rfl,rfl⟩ | ⟨x,t,rfl,rfl⟩
  ·rcases ZaS hb with ⟨j,u,rfl,e⟩ | ⟨y,u,rfl,e⟩
   ·injection e with e1 _;rw[e1]
   ·exact nomatch e
  ·rcases ZaS hb with ⟨j,u,rfl,e⟩ | ⟨y,u,rfl,e⟩
   ·exact nomatch e
   ·injection e with e1 _;rw[e1]
 byValue:=fun k v h=>by
  rcases ZaS h with ⟨i,t,rfl,rfl⟩ | ⟨x,t,rfl,rfl⟩<;>rfl
 pyHash:=fun hv h=>by
  rcases ZaS hv with ⟨i,t,rfl,rfl⟩ | ⟨x,t,rfl,rfl⟩
  ·exact wpAny_pyHash_int h
  ·exact wpAny_pyHash_str h
 eqBool:=fun hu hv h=>by
  rcases ZaS hu with ⟨i,t,rfl,rfl⟩ | ⟨x,t,rfl,rfl⟩
  ·rcases ZaS hv with ⟨j,u,rfl,rfl⟩ | ⟨y,u,rfl,rfl⟩
   ·rw[key_ll] at h;exact wpAny_eqBool_int h
   ·rw[key_lr] at h;exact SeqAt.EqAt.int_str i t y u _ _ _ _ h
  ·rcases ZaS hv with ⟨j,u,rfl,rfl⟩ | ⟨y,u,rfl,rfl⟩
   ·rw[key_rl] at h;exact SeqAt.EqAt.str_int x t j u _ _ _ _ h
   ·rw[key_rr] at h;exact wpAny_eqBool_str h
 «strs»:=fun k x t v h=>by
  rcases ZaS h with ⟨i,u,rfl,e⟩ | ⟨y,u,rfl,e⟩
  ·exact nomatch e
  ·injection e with e1 _
   subst e1
   cases v<;>rfl
theorem mixKind_int (prog:YD)(w:World)(i:Int)(t:Tok):(mixKind prog w).is (.inl i) (.int i t)=true:=keyIs_int i t
theorem mixKind_str (prog:YD)(w:World)(x:Str)(t:Tok):(mixKind prog w).is (.inr x) (.str x t)=true:=keyIs_str x t
inductive V where
 | non | bl (b:Bool) | int (i:Int) | str (x:Str) | byt (b:Array UInt8) | flt (b:UInt64) | ref (a:Addr) | ty (n:String)
 deriving DecidableEq
def RelV:V->Value->Prop
 | .non,u=>u=XQ
 | .bl b,u=>u=Value.bool b
 | .int i,u=>∃t,u=Value.int i t
 | .str x,u=>∃t,u=Value.str x t
 | .byt b,u=>∃t,u=Value.bytes b t
 | .flt b,u=>∃t,u=Value.float b t
 | .ref a,u=>u=YE a
 | .ty n,u=>u=Wo n
abbrev Vals:List V->List Value->Prop:=Paired RelV
theorem Vals.length {xs:List V}{us:4e9}(r:Vals xs us):xs.length=us.length:=Vf r
theorem Vals.get:∀{xs:List V} {us:4e9} {i:Nat} {x:V},Vals xs us->xs[i]? = some x->∃u,us[i]? = some u/\RelV x u
 | _,_,_,_,.nil,e=>by simp at e
 | _,_,0,_,.cons r _,e=>by simp at e;subst e;exact ⟨_,rfl,r⟩
 | _,_,i + 1,x,.cons _ t,e=>by
  obtain ⟨u,h1,h2⟩:=Vals.get (i:=i) (x:=x) t (by simpa using e)
  exact ⟨u,by simpa using h1,h2⟩
theorem Vals.set {x:V}{u:Value}(r:RelV x u):∀{xs:List V} {us:4e9} (i:Nat),Vals xs us->Vals (xs.set i x) (us.set i u)
 | _,_,_,.nil=>.nil
 | _,_,0,.cons _ t=>.cons r t
 | _,_,i + 1,.cons q t=>.cons q (Vals.set r i t)
theorem Vals.append:∀{xs ys:List V} {us ws:4e9},Vals xs us->Vals ys ws->Vals (xs++ys) (us++ws)
 | _,_,_,_,.nil,s=>s
 | _,_,_,_,.cons r t,s=>.cons r (Vals.append t s)
theorem Vals.take:∀{xs:List V} {us:4e9} (n:Nat),Vals xs us->Vals (xs.take n) (us.take n)
 | _,_,0,_=>.nil
 | _,_,_ + 1,.nil=>.nil
 | _,_,n + 1,.cons r t=>.cons r (Vals.take n t)
theorem Vals.drop:∀{xs:List V} {us:4e9} (n:Nat),Vals xs us->Vals (xs.drop n) (us.drop n)
 | _,_,0,r=>r
 | _,_,_ + 1,.nil=>.nil
 | _,_,n + 1,.cons _ t=>Vals.drop n t
def RelO:Option V->Option Value->Prop
 | some v,some u=>RelV v u
 | none,none=>True
 | _,_=>False
def KV {κ:Type}:List (κ×V)->List (κ×Value)->Prop:=Paired fun (p:κ×V) (q:κ×Value)=>p.1=q.1/\RelV p.2 q.2
def kV:Key->V
 | .inl i=>.int i
 | .inr x=>.str x
inductive HO where
  | lst (xs:List V)
  | tup (xs:List V)
  | dK (kvs:List (Key×V)) | dT (kvs:List (List Key×V))
  | set (S:Int->Bool) (n:Nat)
  | ins (C dx:Addr) (fs:List (Str×V))
  | own (x:Addr)
  | xd (fs:List (Str×V))
  | met (f x:Addr)
  | rng (lo hi:Int)
  | frz (o:Obj) (u:HO)
  | tbl (ps:Array Value)
  | ext (φ:Heap->Prop)
abbrev Hp:=Addr->Option HO
def upd (H:Hp)(a:Addr)(o:HO):Hp:=fun b=>if b=a then some o else H b
theorem ZaO {H:Hp}{a:Addr}{o:HO}:upd H a o a=some o:=by unfold upd;rw[if_pos rfl]
theorem Zaw {H:Hp}{a b:Addr}{o:HO}(h:b≠a):upd H a o b=H b:=by unfold upd;rw[if_neg h]
theorem ne_of {H:Hp}{a b:Addr}{o u:HO}(h:H a=some o)(h':H b=some u)(d:o≠u):a≠b:=by
 intro e;subst e;rw[h] at h';exact d (YG h')
theorem Zar {H:Hp}{a b:Addr}{o:HO}(h:H a=some o)(h':H b=none):a≠b:=by
 intro e;subst e;rw[h] at h';cases h'
section
variable (P:YD)(w:World)
def ObjOk (H:Hp)(h:Heap)(a:Addr):HO->Prop
 | .lst xs=>xs.length<=Yu/\∃(its:4e9) (n:Nat),Vals xs its/\h.get? a=some { cls:=.type "list",data:=.seq its.toArray n }
 | .tup xs=>xs.length<=Yu/\∃its:List Value,Vals xs its/\IsTup h a its.toArray
 | .dK kvs=>kvs.length<=Yu/\(a==Wd)=false/\∃vs,KV kvs vs/\h.DictOf (mixKind P w) a vs
 | .dT kvs=>kvs.length<=Yu/\(a==Wd)=false/\∃xs:List 13e6,
   Paired (fun (p:List Key×V) (q:List Key×Addr×Value)=>p.1=q.1/\H q.2.1=some (.tup (p.1.map kV))/\RelV p.2 q.2.2) kvs xs/\
   ∃o es ep,h.get? a=some o/\o.ExactDict/\o.data=.dict es ep/\es.toList=xs.map (entryOfKey (WO (mixKind P w)))/\(xs.map (·.1)).Nodup
 | .set S n=>h.SetOf (intKind P w) a S n
 | .ins C dx fs=>H dx=some (.own a)/\fs.length<=1000/\dx≠a/\h.get? a=some (W.instObj C dx)/\
   ∃mA,h.Ns1 dx mA/\(∀f,RelO (fs.lookup f) (mA f))/\PySem.Within mA (fs.map (·.1))
 | .own _=>∃o,h.get? a=some o
 | .xd fs=>∃mA,h.Ns1 a mA/\∀f,RelO (fs.lookup f) (mA f)
 | .rng lo hi=>∃t u v,h.get? a=some { cls:=.type "range",data:=.fields #[.int lo t,.int hi u,.int 1 v] }
 | .frz o u=>h.get? a=some o/\ObjOk H h a u
 | .tbl ps=>h.get? a=some { cls:=.none,data:=.fields ps }
 | .met f x=>h.get? a=some (W.methodObj (.ref f) (.ref x))
 | .ext φ=>φ h/\(∃o,h.get? a=some o)/\∀h1 h2:Heap,φ h1->(∀o,h1.get? a=some o->h2.get? a=some o)->φ h2
def HOk (H:Hp)(h:Heap):Prop:=∀a o,H a=some o->ObjOk P w H h a o
end
section
variable {P:YD}{w:World}{H H':Hp}{h h':Heap}{a:Addr}{o:HO}
theorem ObjOk.lt (x:ObjOk P w H h a o):a < h.objs.size:=by
 cases o with
 | lst xs=>obtain ⟨_,_,_,_,e⟩:=x;exact Yz e
 | tup xs=>obtain ⟨_,_,_,p⟩:=x;exact p.lt
 | dK kvs=>obtain ⟨_,_,_,_,o,_,_,e,_⟩:=x;exact Yz e
 | dT kvs=>obtain ⟨_,_,_,_,o,_,_,e,_⟩:=x;exact Yz e
 | set S n=>obtain ⟨o,_,_,_,e,_⟩:=x;exact Yz e
 | ins C dx fs=>obtain ⟨_,_,_,e,_⟩:=x;exact Yz e
 | own y=>obtain ⟨_,e⟩:=x;exact Yz e
 | xd fs=>obtain ⟨_,⟨_,_,_,e,_⟩,_⟩:=x;exact Yz e
 | rng lo hi=>obtain ⟨_,_,_,e⟩:=x;exact Yz e
 | frz ob u=>obtain ⟨e,_⟩:=x;exact Yz e
 | tbl ps=>exact Yz (show h.get? a=some _ from x)
 | met f y=>exact Yz (show h.get? a=some _ from x)
 | ext φ=>obtain ⟨_,⟨_,e⟩,_⟩:=x;exact Yz e
theorem Paired.mapP {α β:Type}{F G:α->β->Prop}:∀{l₁:List α} {l₂:List β},Paired F l₁ l₂->(∀a b,F a b->G a b)->Paired G l₁ l₂
 | _,_,.nil,_=>.nil
 | _,_,.cons r t,f=>.cons (f _ _ r) (Paired.mapP t f)
theorem ObjOk.stay (x:ObjOk P w H h a o)(k:∀b u,(b=a\/H b=some (.own a))->h.get? b=some u->h'.get? b=some u)
  (ho:∀b,H b=some (.own a)->H' b=some (.own a)) (ht:∀b xs,H b=some (.tup xs)->H' b=some (.tup xs)):ObjOk P w H' h' a o:=by
 induction o with
 | lst xs=>obtain ⟨z,its,n,r,e⟩:=x;exact ⟨z,its,n,r,k _ _ 17e4 e⟩
 | tup xs=>obtain ⟨z,its,r,ob,e,c⟩:=x;exact ⟨z,its,r,ob,k _ _ 17e4 e,c⟩
 | dK kvs=>obtain ⟨z,y,vs,r,ob,es,ep,e,c⟩:=x;exact ⟨z,y,vs,r,ob,es,ep,k _ _ 17e4 e,c⟩
 | dT kvs=>
  obtain ⟨z,y,xs,r,ob,es,ep,e,c⟩:=x
  exact ⟨z,y,xs,Paired.mapP r fun p q z=>⟨z.1,ht _ _ z.2.1,z.2.2⟩,ob,es,ep,k _ _ 17e4 e,c⟩
 | set S n=>obtain ⟨ob,es,ep,t,e,c⟩:=x;exact ⟨ob,es,ep,t,k _ _ 17e4 e,c⟩
 | ins C dx fs=>
  obtain ⟨d,z,ne,e,mA,⟨od,es,ep,e2,c⟩,r⟩:=x
  exact ⟨ho _ d,z,ne,k _ _ 17e4 e,mA,⟨od,es,ep,k _ _ (.inr d) e2,c⟩,r⟩
 | own y=>obtain ⟨ob,e⟩:=x;exact ⟨ob,k _ _ 17e4 e⟩
 | xd fs=>obtain ⟨mA,⟨od,es,ep,e,c⟩,r⟩:=x;exact ⟨mA,⟨od,es,ep,k _ _ 17e4 e,c⟩,r⟩
 | rng lo hi=>obtain ⟨t,u,v,e⟩:=x;exact ⟨t,u,v,k _ _ 17e4 e⟩
 | frz ob u ih=>obtain ⟨e,q⟩:=x;exact ⟨k _ _ 17e4 e,ih q⟩
 | tbl ps=>
  have e:h.get? a=some { cls:=.none,data:=.fields ps }:=x
  show h'.get? a=some { cls:=.none,data:=.fields ps }
  exact k a _ 17e4 e
 | met f y=>
  have e:h.get? a=some (W.methodObj (.ref f) (.ref y)):=x
  show h'.get? a=some (W.methodObj (.ref f) (.ref y))
  exact k a _ 17e4 e
 | ext φ=>obtain ⟨p,⟨o,e⟩,st⟩:=x;exact ⟨st _ _ p fun o q=>k _ _ 17e4 q,⟨o,k _ _ 17e4 e⟩,st⟩
theorem HOk.lt (x:HOk P w H h)(e:H a=some o):a < h.objs.size:=(x a o e).lt
theorem HOk.fresh (x:HOk P w H h)(e:h.objs.size<=a):H a=none:=by
 cases q:H a with
 | none=>rfl
 | some u=>exact absurd (Yn (x.lt q) e) (X0 _)
theorem HOk.kept (x:HOk P w H h)(k:16e4):HOk P w H h':=fun a o e=>
 (x a o e).stay (fun b u _ q=>k b u q) (fun _ q=>q) fun _ _ q=>q
theorem HOk.laid (x:HOk P w H h)(k:16e4)(hp:h.objs.size<=a)(new:ObjOk P w (upd H a o) h' a o):HOk P w (upd H a o) h':=fun b u e=>by
 have hn:=x.fresh hp
 by_cases hb:b=a
 ·subst hb;rw[ZaO] at e;cases e;exact new
 ·rw[Zaw hb] at e
  exact (x b u e).stay (fun c v _ q=>k c v q) (fun c q=>by rw[Zaw (Zar q hn)];exact q) fun c xs q=>by rw[Zaw (Zar q hn)];exact q
end
def Rd (H:Hp)(a:Addr)(u:HO):Prop:=H a=some u\/∃o,H a=some (.frz o u)
theorem Rd.ok {P:YD}{w:World}{H:Hp}{h:Heap}{a:Addr}{u:HO}(r:Rd H a u)(x:HOk P w H h):ObjOk P w H h a u:=by
 rcases r with r | ⟨o,r⟩
 ·exact x a u r
 ·obtain ⟨_,q⟩:=x a _ r
  exact q
def Mut:Option HO->Prop
 | some (.lst _)=>True
 | some (.dK _)=>True
 | some (.dT _)=>True
 | some (.set _ _)=>True
 | some (.ins _ _ _)=>True
 | some (.ext _)=>True
 | _=>False
section
variable {P:YD}{w:World}{H:Hp}{h h':Heap}{x e:Addr}{o':HO}
theorem HOk.write (ok:HOk P w H h)(mu:Mut (H x))(he:e=x\/H e=some (.own x))(k:∀b u,b≠e->h.get? b=some u->h'.get? b=some u)(heo:∃u,h'.get? e=some u)
  (new:ObjOk P w (upd H x o') h' x o'):HOk P w (upd H x o') h':=fun b u q=>by
 have nown:∀c y,H c=some (.own y)->c≠x:=fun c y r z=>by subst z;rw[r] at mu;exact mu
 have ntup:∀c xs,H c=some (.tup xs)->c≠x:=fun c xs r z=>by subst z;rw[r] at mu;exact mu
 by_cases hb:b=x
 ·subst hb;rw[ZaO] at q;cases q;exact new
 ·rw[Zaw hb] at q
  by_cases hbe:b=e
  ·have q':H b=some (.own x):=by
    rcases he with z | z
    ·exact absurd (hbe.trans z) hb
    ·rw[hbe];exact z
   rw[q] at q';cases q'
   obtain ⟨v,hv⟩:=heo
   exact ⟨v,by rw[hbe];exact hv⟩
  ·refine (ok b u q).stay (fun c v hc r=>k c v ?_ r) (fun c r=>by rw[Zaw (nown c b r)];exact r) fun c xs r=>by rw[Zaw (ntup c xs r)];exact r
   rcases hc with rfl | hc
   ·exact hbe
   ·rintro rfl
    rcases he with z | z
    ·exact nown c b hc z
    ·rw[hc] at z;cases z;exact hb rfl
end
structure Un (fs ex:List Addr)(H H':Hp)(h h':Heap):Prop where
 keep:∀b o,h.get? b=some o->H b=none->b∉fs->b∉ex->h'.get? b=some o
 slot:∀b o,h.get? b=some o->H b=none->b∈fs->b∉ex->∃sl,h'.get? b=some { o with slots:=sl }
 free:∀b o,h.get? b=some o->H b=none->b∉ex->H' b=none
 there:∀b o,h.get? b=some o->b∉ex->∃o',h'.get? b=some o'
 tups:∀b xs,H b=some (.tup xs)->H' b=some (.tup xs)
 frzs:∀b o u,H b=some (.frz o u)->H' b=some (.frz o u)
 tbls:∀b ps,H b=some (.tbl ps)->∃more,H' b=some (.tbl (ps++more))
section
variable {fs fs' ex ex':4e3}{H H1 H2:Hp}{h h1 h2 h':Heap}{a x e:Addr}{o:HO}
theorem Un.any (u:Un fs ex H H1 h h1){b:Addr}{ob:Obj}(q:h.get? b=some ob)(n:H b=none)(hx:b∉ex):∃sl,h1.get? b=some { ob with slots:=sl }:=by
 by_cases hb:b∈fs
 ·exact u.slot b ob q n hb hx
 ·exact ⟨ob.slots,u.keep b ob q n hb hx⟩
theorem Un.kept (k:16e4):Un fs ex H H h h':=
 ⟨fun b ob q _ _ _=>k b ob q,fun b ob q _ _ _=>⟨ob.slots,k b ob q⟩,fun _ _ _ n _=>n,fun b ob q _=>⟨ob,k b ob q⟩,fun _ _ q=>q,fun _ _ _ q=>q,fun _ ps q=>⟨#[],by rw[q];simp⟩⟩
theorem Un.refl:Un fs ex H H h h:=Un.kept fun _ _ q=>q
theorem Un.laid (k:16e4)(hp:h.objs.size<=a)(hn:H a=none):Un fs ex H (upd H a o) h h' where
 keep:=fun b u q _ _ _=>k b u q
 slot:=fun b u q _ _ _=>⟨u.slots,k b u q⟩
 free:=fun b u q n _=>by rw[Zaw (Yr (Yn (Yz q) hp))];exact n
 there:=fun b u q _=>⟨u,k b u q⟩
 tups:=fun b xs q=>by rw[Zaw (Zar q hn)];exact q
 frzs:=fun b u xs q=>by rw[Zaw (Zar q hn)];exact q
 tbls:=fun b ps q=>⟨#[],by rw[Zaw (Zar q hn),q];simp⟩
theorem Un.write (mu:Mut (H x))(he:e=x\/H e=some (.own x))(k:∀b u,b≠e->h.get? b=some u->h'.get? b=some u)(heo:∃u,h'.get? e=some u):Un fs ex H (upd H x o) h h':=by
 have hx:∀b,H b=none->b≠x:=fun b n z=>by subst z;rw[n] at mu;exact mu
 have hb:∀b,H b=none->b≠e:=fun b n z=>by
  subst z
  rcases he with r | r
  ·exact hx b n r
  ·rw[n] at r;cases r
 have hm:∀b u,H b=some u->¬Mut (some u)->b≠x:=fun b u q nm z=>by subst z;rw[q] at mu;exact nm mu
 refine ⟨fun b u q n _ _=>k b u (hb b n) q,fun b u q n _ _=>⟨u.slots,k b u (hb b n) q⟩,fun b u q n _=>by rw[Zaw (hx b n)];exact n,fun b u q _=>?_,
  fun b xs q=>by rw[Zaw (hm b _ q fun z=>z)];exact q,fun b u xs q=>by rw[Zaw (hm b _ q fun z=>z)];exact q,fun b ps q=>⟨#[],by rw[Zaw (hm b _ q fun z=>z),q];simp⟩⟩
 by_cases hbe:b=e
 ·subst hbe;exact heo
 ·exact ⟨u,k b u hbe q⟩
end
def trk (h:Heap)(H:Hp):List Addr:=(Yi h.objs.size).filter fun a=>(H a).isSome
def hidT (h:Heap)(H:Hp):Heap:=W.hideAll h (trk h H)
theorem hidT_size (h:Heap)(H:Hp):(hidT h H).objs.size=h.objs.size:=W.hideAll_size _ _
theorem hidT_get {h:Heap}{H:Hp}{b:Addr}{o:Obj}(e:h.get? b=some o)(n:H b=none):(hidT h H).get? b=some o:=
 W.hideAll_get _ e fun hm=>by
  have q:(H b).isSome=true:=(Xu.mp hm).2
  rw[n] at q;simp at q
theorem of_hidT {h:Heap}{H:Hp}{b:Addr}{o:Obj}(e:(hidT h H).get? b=some o):h.get? b=some o/\H b=none:=by
 have e':h.get? b=some o:=W.of_hideAll (trk h H) e
 refine ⟨e',?_⟩
 cases q:H b with
 | none=>rfl
 | some x=>
  have hm:b∈trk h H:=Xu.mpr ⟨Y3.mpr (Yz e'),by simp[q]⟩
  have z:(hidT h H).get? b=none:=W.hideAll_none (trk h H) hm
  rw[z] at e;cases e
def allNews (g h:Heap)(L:Addr):List (Addr×Obj):=(Yi h.objs.size).filterMap fun a=>if a=L\/(g.get? a).isSome=true then none else (h.get? a).map fun o=>(a,o)
def rest (g h:Heap)(L d:Addr):List (Addr×Obj):=(allNews g h L).filter fun p=>decide (p.1≠d)
structure Mod (K:W.Frag)(mg:Str->Option Value)(base:Heap):Prop where
 kin:K.In base
 glob:base.Ns Uc mg
 blt:∃mb,base.Ns builtinsNs mb/\∀x:Str,x≠"__name__"->mb x=Xo x
 nolimit:base.NoLimit
structure Cx where
 prog:YD
 w:World
 K:W.Frag
 mg:Str->Option Value
 base:Heap
 A:Around
 N:List Str
 s₀:Shared
 H₀:Hp
 env:Env
 outer:List Env
 stack:List Env
 ex:List Addr
 fn:Str->Bool
 calm:Bool
 pn:List (Addr×Obj)
 xe:Value->Shared->Prop
def frs (l:List Env):List Addr:=l.filterMap (·.frame)
abbrev Cx.fs (X:Cx):List Addr:=frs X.outer
def Vis (sc:Scope)(x:Str):Prop:=sc.names.lookup x=some .local\/sc.names.lookup x=some .cell\/sc.names.lookup x=some .free
def Loc (sc:Scope)(x:Str):Prop:=sc.names.lookup x=some .local\/sc.names.lookup x=some .cell
def Look (env:Env)(h:Heap)(m:3e3)(x:Str)(u:Value):Prop:=
 (env.kindOf x=some .local/\m x=some u)\/((env.kindOf x=some .cell\/env.kindOf x=some .free)/\∃c,env.cells.lookup x=some c/\h.IsCell c (some u))
structure Cx.Ok (X:Cx):Prop where
 mod:Mod X.K X.mg X.base
 kind:X.env.scope.kind=.function
 glob:X.env.globals=Uc
 blt:X.env.builtins=builtinsNs
 above:X.s₀.heap.objs.size<=X.env.locals
 inj:∀x y c,X.env.cells.lookup x=some c->X.env.cells.lookup y=some c->x=y
 has:∀x,(X.env.kindOf x=some .cell\/X.env.kindOf x=some .free)->∃c,X.env.cells.lookup x=some c
 cab:∀x c,X.fn x=true->X.env.cells.lookup x=some c->X.s₀.heap.objs.size<=c
 hd:X.calm=true->X.A.handled=none
 frames:X.A.frames=some X.stack
 stk:X.stack=X.outer\/(X.stack=X.env::X.outer/\X.env.frame=some X.env.locals)
 exf:∀b∈X.ex,b≠X.env.locals/\∀x c,X.env.cells.lookup x=some c->c≠b
 bs:∀b o,X.base.get? b=some o->X.s₀.heap.get? b=some o/\X.H₀ b=none
 bsz:X.base.objs.size<=X.s₀.heap.objs.size
 noex:∀b o,X.base.get? b=some o->b∉X.ex
 exfs:∀b∈X.ex,b∉X.fs
 funs:X.s₀.heap.FunFrames X.base X.outer
 frf:∀b∈X.fs,X.H₀ b=none
structure Inv (X:Cx)(pins:List (Addr×Obj))(σ:List (Option V))(H:Hp)(s:Shared):Prop where
 ok:X.Ok
 os:s.os=X.s₀.os
 bare:Um s.gens
 base:Un X.fs X.ex X.H₀ H X.s₀.heap s.heap
 loc:∃m,s.heap.Ns X.env.locals m/\∀(i:Nat) (x:Str) (v:V),X.N[i]? = some x->σ[i]? = some (some v)->Vis X.env.scope x->∃u,RelV v u/\Look X.env s.heap m x u
 cell:∀x c,X.env.cells.lookup x=some c->∃v,s.heap.IsCell c v
 free:H X.env.locals=none
 freeC:∀x c,X.env.cells.lookup x=some c->H c=none
 pin:∀p∈X.pn++pins,s.heap.get? p.1=some p.2/\H p.1=none/\p.1≠X.env.locals/\p.1∉X.fs/\∀v,p.2.data≠.cell v
 hok:HOk X.prog X.w H s.heap
 len:σ.length=X.N.length
section
variable {X:Cx}{pins:2e0}{σ:List (Option V)}{H H':Hp}{s:Shared}{h':Heap}
theorem Cx.Ok.nofr (ok:X.Ok){b:Addr}{o:Obj}(e:X.base.get? b=some o):b∉X.fs:=fun hb=>by
 have:=(ok.funs.mem hb).1
 rw[e] at this;cases this
theorem Inv.bs (I:2e3):∀b o,X.base.get? b=some o->s.heap.get? b=some o/\H b=none:=fun b o e=>
 ⟨I.base.keep b o (I.ok.bs b o e).1 (I.ok.bs b o e).2 (I.ok.nofr e) (I.ok.noex b o e),I.base.free b o (I.ok.bs b o e).1 (I.ok.bs b o e).2 (I.ok.noex b o e)⟩
theorem Inv.bk (I:2e3):∀b o,X.base.get? b=some o->s.heap.get? b=some o:=fun b o e=>(I.bs b o e).1
theorem Inv.mod (I:2e3):Mod X.K X.mg X.base:=I.ok.mod
theorem Inv.kIn (I:2e3):X.K.In s.heap:=I.ok.mod.kin.keeps I.bk
theorem Inv.lt (I:2e3):X.env.locals < s.heap.objs.size:=let ⟨_,hn,_⟩:=I.loc;hn.lt
theorem Inv.sz (I:2e3):X.s₀.heap.objs.size<=s.heap.objs.size:=YQ I.ok.above (Xv I.lt)
theorem Inv.nofs (I:2e3){a:Addr}(h:s.heap.objs.size<=a):a∉X.fs:=fun hb=>by
 obtain ⟨_,o,ho,_⟩:=I.ok.funs.mem hb
 exact absurd (Yn (Yz ho) (YQ I.sz h)) (X0 _)
theorem Inv.cne (I:2e3):∀x c,X.env.cells.lookup x=some c->c≠X.env.locals:=fun x c e z=>by
 obtain ⟨v,o,ho,hd⟩:=I.cell x c e
 obtain ⟨m,⟨o',es,ep,ho',hd',_⟩,_⟩:=I.loc
 rw[z,ho'] at ho;cases ho;rw[hd'] at hd;cases hd
theorem Inv.funs (I:2e3):s.heap.FunFrames X.base X.outer:=by
 have all:∀(l:List Env),(∀b∈frs l,b∈X.fs)->X.s₀.heap.FunFrames X.base l->s.heap.FunFrames X.base l:=by
  intro l
  induction l with
  | nil=>intro _ _;trivial
  | cons env r ih=>
   intro hs hl
   obtain ⟨hk,⟨L,o,hf,hn,ho,hd⟩,hr⟩:=hl
   have hL:L∈X.fs:=hs L (by unfold frs;rw[Wx,hf];exact YM)
   obtain ⟨sl,e⟩:=I.base.slot L o ho (I.ok.frf L hL) hL fun z=>I.ok.exfs L z hL
   exact ⟨hk,⟨L,_,hf,hn,e,hd⟩,ih (fun b hb=>hs b (by unfold frs;rw[Wx,hf];exact YR _ hb)) hr⟩
 exact all X.outer (fun _ hb=>hb) I.ok.funs
theorem Inv.stack (I:2e3):s.heap.FunFrames X.base X.stack:=by
 rcases I.ok.stk with e | ⟨e,hf⟩
 ·rw[e];exact I.funs
 ·rw[e]
  obtain ⟨m,hn,_⟩:=I.loc
  refine .cons (by rw[I.ok.kind];decide) hf hn ?_ I.funs
  exact Heap.get?_none_of_le (YQ I.ok.bsz I.ok.above)
theorem Inv.stkSub (I:2e3):∀b∈frs X.stack,b∈X.env.locals::X.fs:=fun b hb=>by
 rcases I.ok.stk with e | ⟨e,hf⟩
 ·rw[e] at hb;exact YR _ hb
 ·rw[e] at hb
  unfold frs at hb
  rw[Wx,hf] at hb
  exact hb
theorem Inv.stkFree (I:2e3):∀b∈frs X.stack,H b=none:=fun b hb=>by
 rcases Ym.mp (I.stkSub b hb) with e | hb
 ·rw[e];exact I.free
 ·obtain ⟨_,o,ho,_⟩:=I.ok.funs.mem hb
  exact I.base.free b o ho (I.ok.frf b hb) fun z=>I.ok.exfs b z hb
theorem Inv.step {g':Array GenState}{t':Nat}{d':Drawn}{ch:4e3}(I:2e3)
  (hch:∀b∈ch,(b∈X.ex\/X.s₀.heap.objs.size<=b)/\b≠X.env.locals/\(∀x c,X.env.cells.lookup x=some c->c≠b)/\∀p∈X.pn++pins,p.1≠b)
  (keep:∀b o,b≠X.env.locals->b∉X.fs->b∉ch->s.heap.get? b=some o->H b=none->h'.get? b=some o)
  (slot:∀b o,b≠X.env.locals->b∈X.fs->b∉ch->s.heap.get? b=some o->H b=none->∃sl,h'.get? b=some { o with slots:=sl }) (free:∀b o,b∉ch->s.heap.get? b=some o->H b=none->H' b=none)
  (there:∀b o,b∉ch->s.heap.get? b=some o->∃o',h'.get? b=some o')
  (tups:∀b xs,H b=some (.tup xs)->H' b=some (.tup xs)) (frzs:∀b o u,H b=some (.frz o u)->H' b=some (.frz o u)) (tbls:∀b ps,H b=some (.tbl ps)->∃more,H' b=some (.tbl (ps++more)))
  (ns:∀m,s.heap.Ns X.env.locals m->h'.Ns X.env.locals m) (hok:HOk X.prog X.w H' h') (hg:Um g'):
  Inv X pins σ H' { s with heap:=h',gens:=g',drawn:=d',toks:=t' }:=by
 have neL:∀b o,X.s₀.heap.get? b=some o->b≠X.env.locals:=fun b o e=>Yr (Yn (Yz e) I.ok.above)
 have neC:∀b o,X.s₀.heap.get? b=some o->b∉X.ex->b∉ch:=fun b o e hx hb=>by
  rcases (hch b hb).1 with z | z
  ·exact hx z
  ·exact absurd (Yn (Yz e) z) (X0 _)
 have cellK:∀x c,X.env.cells.lookup x=some c->∀v,s.heap.IsCell c v->h'.IsCell c v:=fun x c e v h_=>by
  obtain ⟨o,ho,hd⟩:=h_
  have nch:c∉ch:=fun z=>(hch c z).2.2.1 x c e rfl
  by_cases hc:c∈X.fs
  ·obtain ⟨sl,q⟩:=slot c o (I.cne x c e) hc nch ho (I.freeC x c e)
   exact ⟨_,q,hd⟩
  ·exact ⟨o,keep c o (I.cne x c e) hc nch ho (I.freeC x c e),hd⟩
 refine ⟨I.ok,I.os,hg,⟨fun b o e n hb hx=>?_,fun b o e n hb hx=>?_,fun b o e n hx=>?_,fun b o e hx=>?_,fun b xs e=>tups b xs (I.base.tups b xs e),fun b o xs e=>frzs b o xs (I.base.frzs b o xs e),fun b ps e=>?_⟩,?_,fun x c e=>?_,?_,fun x c e=>?_,fun p hp=>?_,hok,I.len⟩
 ·exact keep b o (neL b o e) hb (neC b o e hx) (I.base.keep b o e n hb hx) (I.base.free b o e n hx)
 ·obtain ⟨sl,e1⟩:=I.base.slot b o e n hb hx
  obtain ⟨sl',e2⟩:=slot b _ (neL b o e) hb (neC b o e hx) e1 (I.base.free b o e n hx)
  exact ⟨sl',e2⟩
 ·obtain ⟨o',e1⟩:=I.base.there b o e hx
  exact free b o' (neC b o e hx) e1 (I.base.free b o e n hx)
 ·obtain ⟨o',e1⟩:=I.base.there b o e hx
  exact there b o' (neC b o e hx) e1
 ·obtain ⟨m1,e1⟩:=I.base.tbls b ps e
  obtain ⟨m2,e2⟩:=tbls b _ e1
  exact ⟨m1++m2,by rw[e2,Array.append_assoc]⟩
 ·obtain ⟨m,hn,hl⟩:=I.loc
  refine ⟨m,ns m hn,fun i x v e1 e2 e3=>?_⟩
  obtain ⟨u,r,l⟩:=hl i x v e1 e2 e3
  refine ⟨u,r,?_⟩
  rcases l with l | ⟨k,c,e,z⟩
  ·exact .inl l
  ·exact .inr ⟨k,c,e,cellK x c e _ z⟩
 ·obtain ⟨v,z⟩:=I.cell x c e
  exact ⟨v,cellK x c e v z⟩
 ·obtain ⟨m,⟨o,_,_,ho,_⟩,_⟩:=I.loc
  exact free _ o (fun z=>(hch _ z).2.1 rfl) ho I.free
 ·obtain ⟨v,o,ho,hd⟩:=I.cell x c e
  exact free c o (fun z=>(hch c z).2.2.1 x c e rfl) ho (I.freeC x c e)
 ·obtain ⟨e,n,ne,nf,d⟩:=I.pin p hp
  have nch:p.1∉ch:=fun z=>(hch p.1 z).2.2.2 p hp rfl
  exact ⟨keep p.1 p.2 ne nf nch e n,free p.1 p.2 nch e n,ne,nf,d⟩
theorem Inv.un {t':Nat}(I:2e3)(u:Un X.fs [] H H' s.heap h')(hok:HOk X.prog X.w H' h'):Inv X pins σ H' { s with heap:=h',toks:=t' }:=by
 obtain ⟨m,⟨o,es,ep,ho,r⟩,_⟩:=id I.loc
 obtain ⟨sl,hL⟩:=u.any ho I.free 4e6
 exact I.step (g':=s.gens) (d':=s.drawn) (ch:=[]) (fun _ z=>nomatch z) (fun b o _ hb _ e n=>u.keep b o e n hb 4e6) (fun b o _ hb _ e n=>u.slot b o e n hb 4e6) (fun b o _ e n=>u.free b o e n 4e6) (fun b o _ e=>u.there b o e 4e6) u.tups u.frzs u.tbls (fun m' hm=>by
  obtain ⟨o',es',ep',ho',r'⟩:=hm
  rw[ho] at ho';cases ho'
  exact ⟨_,es',ep',hL,r'⟩) hok I.bare
theorem Inv.call {g':Array GenState}{t':Nat}{d':Drawn}{ch:4e3}(I:2e3)(u:Un (frs X.stack) ch H H' s.heap h')(hok:HOk X.prog X.w H' h')(hg:Um g')
  (hch:∀b∈ch,(b∈X.ex\/X.s₀.heap.objs.size<=b)/\b≠X.env.locals/\(∀x c,X.env.cells.lookup x=some c->c≠b)/\∀p∈X.pn++pins,p.1≠b):
  Inv X pins σ H' { s with heap:=h',gens:=g',drawn:=d',toks:=t' }:=by
 obtain ⟨m,⟨o,es,ep,ho,r⟩,_⟩:=id I.loc
 obtain ⟨sl,hL⟩:=u.any ho I.free fun z=>(hch _ z).2.1 rfl
 exact I.step (ch:=ch) hch (fun b o hL hb hc e n=>u.keep b o e n (fun z=>(Ym.mp (I.stkSub b z)).elim hL hb) hc) (fun b o _ _ hc e n=>u.any e n hc) (fun b o hc e n=>u.free b o e n hc) (fun b o hc e=>u.there b o e hc) u.tups u.frzs u.tbls (fun m' hm=>by
  obtain ⟨o',es',ep',ho',r'⟩:=hm
  rw[ho] at ho';cases ho'
  exact ⟨_,es',ep',hL,r'⟩) hok hg
theorem Inv.turned {t':Nat}{it:Addr}(I:2e3)(k:∀b o,b≠it->s.heap.get? b=some o->h'.get? b=some o)(hn:H it=none)(hL:it≠X.env.locals)
  (h1:it∈X.ex\/X.s₀.heap.objs.size<=it) (h2:∀x c,X.env.cells.lookup x=some c->c≠it) (h3:∀p∈X.pn++pins,p.1≠it):Inv X pins σ H { s with heap:=h',toks:=t' }:=by
 have nit:∀b u,H b=some u->b≠it:=fun b u e z=>by rw[z,hn] at e;cases e
 refine I.step (g':=s.gens) (d':=s.drawn) (ch:=[it]) (fun b hb=>?_) (fun b o _ _ hc e _=>k b o (fun z=>hc (by simp[z])) e) (fun b o _ _ hc e _=>⟨o.slots,k b o (fun z=>hc (by simp[z])) e⟩) (fun _ _ _ _ n=>n)
  (fun b o hc e=>⟨o,k b o (fun z=>hc (by simp[z])) e⟩) (fun _ _ e=>e) (fun _ _ _ e=>e) (fun b ps e=>⟨#[],by rw[e];simp⟩) (fun m hm=>?_) (fun b u e=>?_) I.bare
 ·have e:b=it:=by simpa using hb
  subst e
  exact ⟨h1,hL,h2,h3⟩
 ·obtain ⟨o,es,ep,ho,r⟩:=hm
  exact ⟨o,es,ep,k _ o (Xx hL) ho,r⟩
 ·refine (I.hok b u e).stay (fun c v hc q=>k c v ?_ q) (fun _ q=>q) fun _ _ q=>q
  rcases hc with z | z
  ·rw[z];exact nit b u e
  ·exact nit c _ z
theorem Inv.tok (I:2e3)(t:Nat):Inv X pins σ H { s with toks:=t }:=I.un (h':=s.heap) (t':=t) Un.refl I.hok
theorem Inv.kept {t':Nat}(I:2e3)(k:∀b u,s.heap.get? b=some u->h'.get? b=some u):Inv X pins σ H { s with heap:=h',toks:=t' }:=I.un (Un.kept k) (I.hok.kept k)
theorem Inv.laid {a:Addr}{o:HO}{t':Nat}(I:2e3)(k:∀b u,s.heap.get? b=some u->h'.get? b=some u)(hp:s.heap.objs.size<=a)(new:ObjOk X.prog X.w (upd H a o) h' a o):
  Inv X pins σ (upd H a o) { s with heap:=h',toks:=t' }:=I.un (Un.laid k hp (I.hok.fresh hp)) (I.hok.laid k hp new)
theorem Inv.write {x e:Addr}{o:HO}{t':Nat}(I:2e3)(mu:Mut (H x))(he:e=x\/H e=some (.own x))(k:∀b u,b≠e->s.heap.get? b=some u->h'.get? b=some u)(heo:∃u,h'.get? e=some u)
  (new:ObjOk X.prog X.w (upd H x o) h' x o):Inv X pins σ (upd H x o) { s with heap:=h',toks:=t' }:=I.un (Un.write mu he k heo) (I.hok.write mu he k heo new)
theorem Inv.pins_of {pins':2e0}(I:2e3)(h:∀p∈pins',s.heap.get? p.1=some p.2/\H p.1=none/\p.1≠X.env.locals/\p.1∉X.fs/\∀v,p.2.data≠.cell v):Inv X pins' σ H s:=
 ⟨I.ok,I.os,I.bare,I.base,I.loc,I.cell,I.free,I.freeC,fun p hp=>(Yw.mp hp).elim (fun z=>I.pin p (YF _ z)) (h p),I.hok,I.len⟩
theorem nodup_ix {N:5e9}(hN:N.Nodup){i j:Nat}{x:Str}(a:N[i]? = some x)(b:N[j]? = some x):i=j:=by
 obtain ⟨h1,e1⟩:=YT.mp a
 obtain ⟨h2,e2⟩:=YT.mp b
 exact (WD hN).mp (e1.trans e2.symm)
theorem store_ok2 {M:Model}{A:Around}{E:1e7}{i:Nat}{x:Str}{v:V}{u:Value}{Q:Unit->Shared->Prop}(I:2e3)(hN:X.N.Nodup)(hi:X.N[i]? = some x)(hx:Loc X.env.scope x)(r:RelV v u)
  (h:∀s',Inv X pins (σ.set i (some v)) H s'->(∃a,Wg a s.heap s'.heap/\(a=X.env.locals\/X.env.cells.lookup x=some a))->Q () s') (hf:7e1:=by first | exact .inl rfl | exact .inr rfl | assumption):wpAny M A (storeName X.env x u) Q E s:=by
 obtain ⟨m,hn,hl⟩:=id I.loc
 have hcls:(X.env.scope.kind==.class||(X.env.scope.kind==.module&&X.env.locals != X.env.globals))=false:=by rw[I.ok.kind];rfl
 have hiσ:i < σ.length:=by rw[I.len];exact (YT.mp hi).1
 have cne:=I.cne
 have tracked:∀{a:Addr} {h':Heap},(∃o,s.heap.get? a=some o/\H a=none)->Wg a s.heap h'->HOk X.prog X.w H h':=fun {a h'} ha hs b ob e=>by
  obtain ⟨_,_,hfree⟩:=ha
  refine (I.hok b ob e).stay (fun c w' hc q=>(hs.2 c ?_).trans q) (fun _ q=>q) fun _ _ q=>q
  rintro rfl
  rcases hc with rfl | hc
  ·rw[hfree] at e;cases e
  ·rw[hfree] at hc;cases hc
 rcases hx with hk | hk
 ·refine wpAny_storeName_local hk hn (fun h' hn' hs=>?_) hcls
  obtain ⟨oL,_,_,hoL,_⟩:=id hn
  refine h _ ⟨I.ok,I.os,I.bare,⟨fun b o e n hb hx=>?_,fun b o e n hb hx=>?_,I.base.free,fun b o e hx=>?_,I.base.tups,I.base.frzs,I.base.tbls⟩,⟨_,hn',fun j y v' e1 e2 e3=>?_⟩,fun y c e=>?_,I.free,I.freeC,fun p hp=>?_,tracked ⟨oL,hoL,I.free⟩ hs,by simpa using I.len⟩ ⟨_,hs,.inl rfl⟩
  ·exact (hs.2 b (Yr (Yn (Yz e) I.ok.above))).trans (I.base.keep b o e n hb hx)
  ·obtain ⟨sl,e1⟩:=I.base.slot b o e n hb hx
   exact ⟨sl,(hs.2 b (Yr (Yn (Yz e) I.ok.above))).trans e1⟩
  ·obtain ⟨o',e1⟩:=I.base.there b o e hx
   exact ⟨o',(hs.2 b (Yr (Yn (Yz e) I.ok.above))).trans e1⟩
  ·by_cases hj:j=i
   ·subst hj
    rw[hi] at e1;cases e1
    rw[XD hiσ] at e2
    cases e2
    exact ⟨u,r,.inl ⟨hk,by simp⟩⟩
   ·rw[Yy (Xx hj)] at e2
    obtain ⟨u',r',q⟩:=hl j y v' e1 e2 e3
    refine ⟨u',r',?_⟩
    rcases q with ⟨k,e⟩ | ⟨k,c,e,z⟩
    ·refine .inl ⟨k,?_⟩
     have:y≠x:=fun e=>hj (nodup_ix hN e1 (e ▸ hi))
     simp[this,e]
    ·exact .inr ⟨k,c,e,z.sameBut hs (cne y c e)⟩
  ·obtain ⟨w',z⟩:=I.cell y c e
   exact ⟨w',z.sameBut hs (cne y c e)⟩
  ·obtain ⟨e,n,ne,nf,d⟩:=I.pin p hp
   exact ⟨(hs.2 p.1 ne).trans e,n,ne,nf,d⟩
 ·have hfn:X.fn x=true:=by
   rcases hf with z | z
   ·exact z
   ·rw[z] at hk;cases hk
  obtain ⟨c,hc⟩:=I.ok.has x (.inl hk)
  obtain ⟨w',z⟩:=I.cell x c hc
  refine wpAny_storeName_cell I.ok.kind hk hc z (fun h' hc' hs=>?_)
  obtain ⟨oc,hoc,hocd⟩:=id z
  refine h { s with heap:=h' } ⟨I.ok,I.os,I.bare,⟨fun b o e n hb hx=>?_,fun b o e n hb hx=>?_,I.base.free,fun b o e hx=>?_,I.base.tups,I.base.frzs,I.base.tbls⟩,⟨m,hn.sameBut hs (Xx (cne x c hc)),fun j y v' e1 e2 e3=>?_⟩,fun y c' e=>?_,I.free,I.freeC,fun p hp=>?_,tracked ⟨oc,hoc,I.freeC x c hc⟩ hs,by simpa using I.len⟩ ⟨c,hs,.inr hc⟩
  ·exact (hs.2 b (Yr (Yn (Yz e) (I.ok.cab x c hfn hc)))).trans (I.base.keep b o e n hb hx)
  ·obtain ⟨sl,e1⟩:=I.base.slot b o e n hb hx
   exact ⟨sl,(hs.2 b (Yr (Yn (Yz e) (I.ok.cab x c hfn hc)))).trans e1⟩
  ·obtain ⟨o',e1⟩:=I.base.there b o e hx
   exact ⟨o',(hs.2 b (Yr (Yn (Yz e) (I.ok.cab x c hfn hc)))).trans e1⟩
  ·by_cases hj:j=i
   ·subst hj
    rw[hi] at e1;cases e1
    rw[XD hiσ] at e2
    cases e2
    exact ⟨u,r,.inr ⟨.inl hk,c,hc,hc'⟩⟩
   ·rw[Yy (Xx hj)] at e2
    obtain ⟨u',r',q⟩:=hl j y v' e1 e2 e3
    refine ⟨u',r',?_⟩
    rcases q with q | ⟨k,c',e,z'⟩
    ·exact .inl q
    ·refine .inr ⟨k,c',e,z'.sameBut hs ?_⟩
     rintro rfl
     exact hj (nodup_ix hN e1 (I.ok.inj _ _ _ e hc ▸ hi))
  ·by_cases hcc:c'=c
   ·subst hcc;exact ⟨_,hc'⟩
   ·obtain ⟨w2,z2⟩:=I.cell y c' e
    exact ⟨w2,z2.sameBut hs hcc⟩
  ·obtain ⟨e,n,ne,nf,d⟩:=I.pin p hp
   refine ⟨(hs.2 p.1 ?_).trans e,n,ne,nf,d⟩
   intro q
   rw[q,hoc] at e
   have q':oc=p.2:=YG e
   exact d w' (by rw[←q'];exact hocd)
theorem store_ok {M:Model}{A:Around}{E:1e7}{i:Nat}{x:Str}{v:V}{u:Value}{Q:Unit->Shared->Prop}(I:2e3)(hN:X.N.Nodup)(hi:X.N[i]? = some x)(hx:Loc X.env.scope x)(r:RelV v u)
  (h:∀s',Inv X pins (σ.set i (some v)) H s'->Q () s') (hf:7e1:=by first | exact .inl rfl | exact .inr rfl | assumption):wpAny M A (storeName X.env x u) Q E s:=
 store_ok2 I hN hi hx r (fun s' I' _=>h s' I') hf
theorem Inv.call' {s':Shared}{ch:4e3}(I:2e3)(ho:s'.os=s.os)(u:Un (frs X.stack) ch H H' s.heap s'.heap)(hok:HOk X.prog X.w H' s'.heap)(hg:Um s'.gens)
  (hch:∀b∈ch,(b∈X.ex\/X.s₀.heap.objs.size<=b)/\b≠X.env.locals/\(∀x c,X.env.cells.lookup x=some c->c≠b)/\∀p∈X.pn++pins,p.1≠b):Inv X pins σ H' s':=by
 obtain ⟨h',g',d',t',o'⟩:=s'
 have e:o'=s.os:=ho
 subst e
 exact I.call (g':=g') (t':=t') (d':=d') u hok hg hch
end
abbrev XK:=Value->Option Addr->Hp->Prop
abbrev St:=List (Option V)
abbrev VK:=V->Hp->Prop
abbrev TE:=St->Hp->VK->Prop
abbrev TT:=St->Hp->(Bool->Hp->Prop)->Prop
abbrev TA:=St->Hp->(List V->Hp->Prop)->Prop
structure Ends where
 nx:St->Hp->Prop
 rt:VK
 bk:St->Hp->Prop:=fun _ _=>False
 ct:St->Hp->Prop:=fun _ _=>False
abbrev TS:=Ends->St->Hp->Prop
def EP (X:Cx)(pins:2e0)(σ:St)(Q:VK)(u:Value)(s':Shared):Prop:=∃v H',Inv X pins σ H' s'/\RelV v u/\Q v H'
def TP (X:Cx)(pins:2e0)(σ:St)(Q:Bool->Hp->Prop)(b:Bool)(s':Shared):Prop:=∃H',Inv X pins σ H' s'/\Q b H'
def AP (X:Cx)(pins:2e0)(σ:St)(Q:List V->Hp->Prop)(us:4e9)(s':Shared):Prop:=∃vs H',Inv X pins σ H' s'/\Vals vs us/\Q vs H'
def SP (X:Cx)(pins:2e0)(D:Ends)(f:Flow)(s':Shared):Prop:=
 match f with
 | .next=>∃σ' H',Inv X pins σ' H' s'/\D.nx σ' H'
 | .brk=>∃σ' H',Inv X pins σ' H' s'/\D.bk σ' H'
 | .cont=>∃σ' H',Inv X pins σ' H' s'/\D.ct σ' H'
 | .ret u=>∃v σ' H',Inv X pins σ' H' s'/\RelV v u/\D.rt v H'
def PE (X:Cx)(e:Expr)(t:TE):Prop:=
 ∀(pins:2e0) (s:Shared) (σ:St) (H:Hp) (Q:VK),Inv X pins σ H s->t σ H Q->wpAny 2e7 X.A (eval e X.env) 18e5 X.xe s
def PT (X:Cx)(e:Expr)(t:TT):Prop:=
 ∀(pins:2e0) (s:Shared) (σ:St) (H:Hp) (Q:Bool->Hp->Prop),Inv X pins σ H s->t σ H Q->wpAny 2e7 X.A (isTrue e X.env (eval e X.env)) (TP X pins σ Q) X.xe s
def PW (X:Cx)(e:Expr)(t:TT):Prop:=
 ∀(whole:Sem Value) (pins:2e0) (s:Shared) (σ:St) (H:Hp) (Q:Bool->Hp->Prop),Inv X pins σ H s->t σ H Q->wpAny 2e7 X.A (isTrue e X.env whole) (TP X pins σ Q) X.xe s
def PA (X:Cx)(es:6e1)(t:TA):Prop:=
 ∀(pos:Pos) (pins:2e0) (s:Shared) (σ:St) (H:Hp) (Q:List V->Hp->Prop),Inv X pins σ H s->t σ H Q->wpAny 2e7 X.A (spliced (backTo pos (Yo es X.env))) (AP X pins σ Q) X.xe s
def PS (X:Cx)(st:Stmt)(t:TS):Prop:=
 ∀(pins:2e0) (s:Shared) (σ:St) (H:Hp) (D:Ends),Inv X pins σ H s->t D σ H->wpAny 2e7 X.A (exec st X.env) (SP X pins D) X.xe s
def PSs (X:Cx)(st:List Stmt)(t:TS):Prop:=
 ∀(pins:2e0) (s:Shared) (σ:St) (H:Hp) (D:Ends),Inv X pins σ H s->t D σ H->wpAny 2e7 X.A (execs st X.env) (SP X pins D) X.xe s
theorem thn {α:Type}{t:Sem α}{Q Q':α->Shared->Prop}{M:Model}{A:Around}{E:1e7}{s:Shared}(h:wpAny M A t Q E s)(hQ:∀a s,Q a s->Q' a s):wpAny M A t Q' E s:=Y1 h hQ fun _ _ x=>x
section
variable {X:Cx}
theorem bin {a b:Expr}{ta tb:TE}(ha:PE X a ta)(hb:PE X b tb){pins:2e0}{s:Shared}{σ:St}{H:Hp}{R:V->V->Hp->Prop}(I:2e3)(h:ta σ H fun x H1=>tb σ H1 fun y H2=>R x y H2)
  {α:Type} {Q:α->Shared->Prop} {f:Value->Value->Sem α}
  (hf:∀v u s2 x y H2,Inv X pins σ H2 s2->RelV x v->RelV y u->R x y H2->wpAny 2e7 X.A (f v u) Q X.xe s2):
  wpAny 2e7 X.A (eval a X.env) (fun v s₁=>wpAny 2e7 X.A (eval b X.env) (fun u s₂=>wpAny 2e7 X.A (f v u) Q X.xe s₂) X.xe s₁) X.xe s:=by
 refine thn (ha pins s σ H _ I h) fun v s1 h_=>?_
 obtain ⟨x,H1,I1,r1,q1⟩:=h_
 refine thn (hb pins s1 σ H1 _ I1 q1) fun u s2 h_=>?_
 obtain ⟨y,H2,I2,r2,q2⟩:=h_
 exact hf v u s2 x y H2 I2 r1 r2 q2
def tVar (i:Nat):TE:=fun σ H Q=>∃v,σ[i]? = some (some v)/\Q v H
def tC (v:V):TE:=fun _ H Q=>Q v H
theorem pe_var {i:Nat}{x:Str}{pos:Pos}(hN:X.N[i]? = some x)(hv:Vis X.env.scope x)(hd:5e5:=by decide)(hcd:(x==("__classdict__":Str))=false:=by decide):PE X (.Name x pos) (tVar i):=by
 sleep 14
 obtain ⟨v,e,h⟩:=h
 obtain ⟨m,hn,hl⟩:=I.loc
 obtain ⟨u,r,l⟩:=hl i x v hN e hv
 have fin:EP X pins σ Q u s:=⟨v,H,I,r,h⟩
 rcases l with ⟨hk,hm⟩ | ⟨hk,c,hc,hcell⟩
 ·exact wpAny_Name (wpAny_loadName_local I.ok.kind hk hn hm fin) hd
 ·rcases hk with hk | hk
  ·exact wpAny_Name (wpAny_loadName_cell I.ok.kind hk hc hcell fin) hd
  ·exact wpAny_Name (wpAny_loadName_free I.ok.kind hk hc hcell fin hcd) hd
theorem pe_int {i j pos}:PE X (.Constant (.int i) j pos) (tC (.int i)):=fun _ _ _ H _ I h=>wpAny_Constant_int ⟨.int i,H,I.tok _,9e7,h⟩
theorem pe_bl {b j pos}:PE X (.Constant (.bool b) j pos) (tC (.bl b)):=fun _ _ _ H _ I h=>Constant_bool ⟨.bl b,H,I,rfl,h⟩
theorem pe_str {x j pos}:PE X (.Constant (.str x) j pos) (tC (.str x)):=fun _ _ _ H _ I h=>Calls.Constant_str ⟨.str x,H,I.tok _,9e7,h⟩
def Gl (X:Cx)(x:Str):Prop:=X.env.kindOf x=some .globalImplicit
theorem ld_glob {E:1e7}{pins:2e0}{s:Shared}{σ:St}{H:Hp}{x:Str}{u:Value}{pos:Pos}{Q:1e7}(I:2e3)(hg:Gl X x)(hm:X.mg x=some u)(h:Q u s)
  (hd:5e5:=by decide):wpAny 2e7 X.A (eval (.Name x pos) X.env) Q E s:=
 VQ I.ok.kind hg (Calls.loadGlobal_global (by rw[I.ok.glob];exact I.mod.glob.keeps I.bk) hm h) hd
theorem Zdf {E:1e7}{pins:2e0}{s:Shared}{σ:St}{H:Hp}{x:Str}{u:Value}{pos:Pos}{Q:1e7}(I:2e3)(hg:Gl X x)(hm:X.mg x=none)(hv:Xo x=some u)(h:Q u s)
  (hn:x≠"__name__":=by decide) (hd:5e5:=by decide):wpAny 2e7 X.A (eval (.Name x pos) X.env) Q E s:=by
 obtain ⟨mb,h1,h2⟩:=I.mod.blt
 exact VQ I.ok.kind hg (Calls.loadGlobal_builtin (by rw[I.ok.glob];exact I.mod.glob.keeps I.bk) hm (by rw[I.ok.blt];exact h1.keeps I.bk) ((h2 x hn).trans hv) h) hd
theorem pe_bltn {x:Str}{v:V}{u:Value}{pos:Pos}(hg:Gl X x)(hm:X.mg x=none)(hv:Xo x=some u)(r:RelV v u)(hn:x≠"__name__":=by decide)(hd:5e5:=by decide):PE X (.Name x pos) (tC v):=
 fun _ _ _ H _ I h=>Zdf I hg hm hv ⟨v,H,I,r,h⟩ hn hd
variable {a b:Expr}{ta tb:TE}{pos:Pos}
variable {tA tB':TT}{rest:6e1}
def tAnd (t u:TT):TT:=fun σ H Q=>t σ H fun c H1=>if c=true then u σ H1 Q else Q false H1
def tOr (t u:TT):TT:=fun σ H Q=>t σ H fun c H1=>if c=true then Q true H1 else u σ H1 Q
def tNot (t:TT):TT:=fun σ H Q=>t σ H fun c H1=>Q (!c) H1
theorem pw_and1 (ha:PT X a tA):PW X (.BoolOp .And [a] pos) tA:=by
 intro wh pins s σ H Q I h
 refine isTrue_and (thn (ha pins s σ H Q I h) fun c s1 e=>?_)
 cases c with
 | true=>exact isTrue_and_nil e
 | false=>exact e
theorem pw_or1 (ha:PT X a tA):PW X (.BoolOp .Or [a] pos) tA:=by
 intro wh pins s σ H Q I h
 refine isTrue_or (thn (ha pins s σ H Q I h) fun c s1 e=>?_)
 cases c with
 | false=>exact isTrue_or_nil e
 | true=>exact e
theorem pw_and (ha:PT X a tA)(hb:PW X (.BoolOp .And (b::rest) pos) tB'):PW X (.BoolOp .And (a::b::rest) pos) (tAnd tA tB'):=by
 intro wh pins s σ H Q I h
 refine isTrue_and (thn (ha pins s σ H _ I h) fun c s1 h_=>?_)
 obtain ⟨H1,I1,q1⟩:=h_
 cases c with
 | true=>exact hb wh pins s1 σ H1 Q I1 q1
 | false=>exact ⟨H1,I1,q1⟩
theorem pw_or (ha:PT X a tA)(hb:PW X (.BoolOp .Or (b::rest) pos) tB'):PW X (.BoolOp .Or (a::b::rest) pos) (tOr tA tB'):=by
 intro wh pins s σ H Q I h
 refine isTrue_or (thn (ha pins s σ H _ I h) fun c s1 h_=>?_)
 obtain ⟨H1,I1,q1⟩:=h_
 cases c with
 | true=>exact ⟨H1,I1,q1⟩
 | false=>exact hb wh pins s1 σ H1 Q I1 q1
theorem pt_not (ha:PT X a tA):PT X (.UnaryOp .Not a pos) (tNot tA):=by
 sleep 14
 exact isTrue_not (ha pins s σ H (fun c H1=>Q (!c) H1) I h)
def tIf (t:TT)(ta tb:TE):TE:=fun σ H Q=>t σ H fun c H1=>if c=true then ta σ H1 Q else tb σ H1 Q
theorem pe_ifExp {c:Expr}(hc:PT X c tA)(ha:PE X a ta)(hb:PE X b tb):PE X (.IfExp c a b pos) (tIf tA ta tb):=by
 sleep 14
 refine wpAny_IfExp (thn (hc pins s σ H _ I h) fun d s1 h_=>?_)
 obtain ⟨H1,I1,q1⟩:=h_
 cases d with
 | true=>exact ha pins s1 σ H1 Q I1 q1
 | false=>exact hb pins s1 σ H1 Q I1 q1
end
def SqL (K:W.Frag)(H:Hp)(a:Addr)(xs:List V):Prop:=
 Rd H a (.lst xs)\/
  ∃(o:Obj) (its:Array Value) (n:Nat),K.lookup a=some o/\o.cls=.type "list"/\o.dict=none/\o.data=.seq its n/\its.size<=Yu/\Vals xs its.toList
def SqT (K:W.Frag)(H:Hp)(a:Addr)(xs:List V):Prop:=
 Rd H a (.tup xs)\/
  ∃(o:Obj) (its:Array Value) (n:Nat),K.lookup a=some o/\o.cls=.type "tuple"/\o.data=.seq its n/\its.size<=Yu/\Vals xs its.toList
def absV:Value->Option V
 | .none=>some .non
 | .bool b=>some (.bl b)
 | .int i _=>some (.int i)
 | .str x _=>some (.str x)
 | .bytes b _=>some (.byt b)
 | .float b _=>some (.flt b)
 | .ref a=>some (.ref a)
 | .type n=>some (.ty n)
 | _=>none
theorem RelV.abs {x:V}{u:Value}(r:RelV x u):absV u=some x:=by
 cases x with
 | non=>cases r;rfl
 | bl _=>cases r;rfl
 | int _=>obtain ⟨t,rfl⟩:=r;rfl
 | str _=>obtain ⟨t,rfl⟩:=r;rfl
 | byt _=>obtain ⟨t,rfl⟩:=r;rfl
 | flt _=>obtain ⟨t,rfl⟩:=r;rfl
 | ref _=>cases r;rfl
 | ty _=>cases r;rfl
theorem RelV.inj {x y:V}{u:Value}(r:RelV x u)(q:RelV y u):x=y:=YG (r.abs.symm.trans q.abs)
theorem Vals.inj:∀{xs ys:List V} {us:4e9},Vals xs us->Vals ys us->xs=ys
 | _,_,_,.nil,.nil=>rfl
 | _,_,_,.cons r t,.cons r' t'=>by rw[r.inj r',Vals.inj t t']
section
variable {X:Cx}{pins:2e0}{σ:St}{H:Hp}{s:Shared}{a:Addr}{xs ys:List V}
theorem SqL.of {K:W.Frag}(h:H a=some (.lst xs)):SqL K H a xs:=.inl (.inl h)
theorem Inv.list (I:2e3)(h:SqL X.K H a xs):∃its:List Value,Vals xs its/\PlainL s.heap a its.toArray/\xs.length<=sizeLine:=by
 rcases h with h | ⟨o,its,n,hk,hc,hd,hs,hz,r⟩
 ·obtain ⟨z,its,n,r,e⟩:=h.ok I.hok
  exact ⟨its,r,⟨_,n,e,rfl,rfl,rfl⟩,z⟩
 ·refine ⟨its.toList,r,⟨o,n,I.kIn a o hk,hc,hd,by simpa using hs⟩,?_⟩
  have e:=r.length
  simp only[YH] at e
  lia
theorem Inv.tuple (I:2e3)(h:SqT X.K H a xs):∃its:List Value,Vals xs its/\IsTup s.heap a its.toArray/\xs.length<=sizeLine:=by
 rcases h with h | ⟨o,its,n,hk,hc,hs,hz,r⟩
 ·obtain ⟨z,its,r,p⟩:=h.ok I.hok
  exact ⟨its,r,p,z⟩
 ·refine ⟨its.toList,r,⟨o,I.kIn a o hk,hc,n,by simpa using hs⟩,?_⟩
  have e:=r.length
  simp only[YH] at e
  lia
theorem Inv.list_inj (I:2e3)(h:SqL X.K H a xs)(h':SqL X.K H a ys):xs=ys:=by
 obtain ⟨its,r,⟨o,n,e,_,_,d⟩,_⟩:=I.list h
 obtain ⟨its',r',⟨o',n',e',_,_,d'⟩,_⟩:=I.list h'
 rw[e] at e';cases e'
 rw[d] at d'
 injection d' with d1 _
 have:its=its':=by simpa using congrArg Array.toList d1
 subst this
 exact r.inj r'
theorem Inv.tuple_inj (I:2e3)(h:SqT X.K H a xs)(h':SqT X.K H a ys):xs=ys:=by
 obtain ⟨its,r,⟨o,e,_,n,d⟩,_⟩:=I.tuple h
 obtain ⟨its',r',⟨o',e',_,n',d'⟩,_⟩:=I.tuple h'
 rw[e] at e';cases e'
 rw[d] at d'
 injection d' with d1 _
 have:its=its':=by simpa using congrArg Array.toList d1
 subst this
 exact r.inj r'
end
abbrev Cx.wish (X:Cx)(E:1e7):Cx:={ X with xe:=E }
abbrev Cx.nox (X:Cx):Cx:=X.wish fun _ _=>False
theorem Cx.Ok.wish {X:Cx}(ok:X.Ok)(E:1e7):(X.wish E).Ok:=
 ⟨ok.mod,ok.kind,ok.glob,ok.blt,ok.above,ok.inj,ok.has,ok.cab,ok.hd,ok.frames,ok.stk,ok.exf,ok.bs,ok.bsz,ok.noex,ok.exfs,ok.funs,ok.frf⟩
theorem Cx.Ok.unwish {X:Cx}{E:1e7}(ok:(X.wish E).Ok):X.Ok:=
 ⟨ok.mod,ok.kind,ok.glob,ok.blt,ok.above,ok.inj,ok.has,ok.cab,ok.hd,ok.frames,ok.stk,ok.exf,ok.bs,ok.bsz,ok.noex,ok.exfs,ok.funs,ok.frf⟩
section
variable {X:Cx}{pins:2e0}{σ:St}{H:Hp}{s:Shared}{E:1e7}
theorem Inv.wish (I:2e3)(E:1e7):Inv (X.wish E) pins σ H s:=⟨I.ok.wish E,I.os,I.bare,I.base,I.loc,I.cell,I.free,I.freeC,I.pin,I.hok,I.len⟩
theorem Inv.unwish (I:Inv (X.wish E) pins σ H s):Inv X pins σ H s:=⟨I.ok.unwish,I.os,I.bare,I.base,I.loc,I.cell,I.free,I.freeC,I.pin,I.hok,I.len⟩
theorem SP.unwish {D:Ends}{f:Flow}{s':Shared}(h:SP (X.wish E) pins D f s'):SP X pins D f s':=by
 cases f with
 | next=>obtain ⟨σ',H',I,q⟩:=h;exact ⟨σ',H',I.unwish,q⟩
 | brk=>obtain ⟨σ',H',I,q⟩:=h;exact ⟨σ',H',I.unwish,q⟩
 | cont=>obtain ⟨σ',H',I,q⟩:=h;exact ⟨σ',H',I.unwish,q⟩
 | ret u=>obtain ⟨v,σ',H',I,r,q⟩:=h;exact ⟨v,σ',H',I.unwish,r,q⟩
theorem PSs.nox {st:List Stmt}{t:TS}(h:PSs X.nox st t):PSs X st t:=fun pins s σ H D I hw=>
 Y1 (h pins s σ H D (I.wish _) hw) (fun _ _ q=>q.unwish) fun _ _ z=>WH z
end
section
variable {X:Cx}{st:Stmt}{rest:List Stmt}{t u:TS}{e:Expr}{te:TE}{pos:Pos}
def tNext:TS:=fun D σ H=>D.nx σ H
def tSeq (t u:TS):TS:=fun D σ H=>t { D with nx:=u D } σ H
theorem pss_nil:PSs X [] tNext:=fun _ _ σ H _ I h=>Uo ⟨σ,H,I,h⟩
theorem pss_cons (h1:PS X st t)(h2:PSs X rest u):PSs X (st::rest) (tSeq t u):=by
 intro pins s σ H D I h
 refine wpAny_execs_cons (thn (h1 pins s σ H { D with nx:=u D } I h) fun f s1 q=>?_)
 cases f with
 | next=>
  obtain ⟨σ',H',I',q⟩:=q
  exact h2 pins s1 σ' H' D I' q
 | ret v=>exact q
 | brk=>exact q
 | cont=>exact q
theorem pss_one (h1:PS X st t):PSs X [st] t:=by
 intro pins s σ H D I h
 refine wpAny_execs_cons (thn (h1 pins s σ H D I h) fun f s1 q=>?_)
 cases f with
 | next=>exact Uo q
 | ret v=>exact q
 | brk=>exact q
 | cont=>exact q
theorem Inv.quiet {pins:2e0}{σ:St}{H:Hp}{s:Shared}(I:2e3):interactive X.env=false:=by simp[interactive,I.ok.kind]
def tDrop (te:TE):TS:=fun D σ H=>te σ H fun _ H1=>D.nx σ H1
theorem ps_expr (he:PE X e te)(hs:WP e none pos.line X.env=pure false:=by rfl):PS X (.Expr e pos) (tDrop te):=by
 intro pins s σ H D I h
 exact wpAny_Expr_any (thn (he pins s σ H _ I h) fun v s1 ⟨x,H1,I1,r1,q1⟩=>⟨σ,H1,I1,q1⟩) I.quiet hs
def tRet (te:TE):TS:=fun D σ H=>te σ H D.rt
theorem ps_ret (he:PE X e te):PS X (.Return (some e) pos) (tRet te):=by
 intro pins s σ H D I h
 exact wpAny_Return_some (thn (he pins s σ H _ I h) fun v s1 ⟨x,H1,I1,r1,q1⟩=>⟨x,σ,H1,I1,r1,q1⟩)
def tIfS (c:TT)(t u:TS):TS:=fun D σ H=>c σ H fun b H1=>if b=true then t D σ H1 else u D σ H1
theorem ps_if {c:Expr}{a b:List Stmt}{tc:TT}(hc:PT X c tc)(ha:PSs X a t)(hb:PSs X b u):PS X (.If c a b pos) (tIfS tc t u):=by
 intro pins s σ H D I h
 refine wpAny_If (thn (hc pins s σ H _ I h) fun d s1 h_=>?_)
 obtain ⟨H1,I1,q1⟩:=h_
 cases d with
 | true=>exact ha pins s1 σ H1 D I1 q1
 | false=>exact hb pins s1 σ H1 D I1 q1
end
abbrev TG:=V->St->Hp->(St->Hp->Prop)->Prop
abbrev TGs:=List V->St->Hp->(St->Hp->Prop)->Prop
def PG (X:Cx)(target:Expr)(t:TG):Prop:=
 ∀(pins:2e0) (s:Shared) (σ:St) (H:Hp) (v:V) (u:Value) (Q:St->Hp->Prop),Inv X pins σ H s->RelV v u->t v σ H Q->
  wpAny 2e7 X.A (assign target X.env u) (fun _ s'=>∃σ' H',Inv X pins σ' H' s'/\Q σ' H') X.xe s
def PGs (X:Cx)(ts:6e1)(t:TGs):Prop:=
 ∀(pins:2e0) (s:Shared) (σ:St) (H:Hp) (vs:List V) (us:4e9) (Q:St->Hp->Prop),Inv X pins σ H s->Vals vs us->t vs σ H Q->
  wpAny 2e7 X.A (assignInOrder ((Wp ts X.env).map (·.2)) us) (fun _ s'=>∃σ' H',Inv X pins σ' H' s'/\Q σ' H') X.xe s
abbrev TSet:=V->V->V->Hp->(Hp->Prop)->Prop
def PSet (X:Cx)(t:TSet):Prop:=
 ∀(pins:2e0) (s:Shared) (σ:St) (H:Hp) (o i v:V) (ov iv u:Value) (Q:Hp->Prop),Inv X pins σ H s->RelV o ov->RelV i iv->RelV v u->t o i v H Q->
  wpAny 2e7 X.A (setItem ov iv u) (fun _ s'=>∃H',Inv X pins σ H' s'/\Q H') X.xe s
section
variable {X:Cx}{pos:Pos}
def gName (i:Nat):TG:=fun v σ H Q=>Q (σ.set i (some v)) H
theorem pg_name {i:Nat}{x:Str}(hN:X.N.Nodup)(hi:X.N[i]? = some x)(hx:Loc X.env.scope x)(hf:7e1:=by first | exact .inl rfl | exact .inr rfl | assumption):PG X (.Name x pos) (gName i):=by
 intro pins s σ H v u Q I r h
 exact wpAny_assign_Name (store_ok I hN hi hx r (fun s' I'=>⟨_,H,I',h⟩) hf)
def gNil:TGs:=fun vs σ H Q=>vs=[]/\Q σ H
def gCons (t:TG)(u:TGs):TGs:=fun vs σ H Q=>∃v r,vs=v::r/\t v σ H fun σ' H'=>u r σ' H' Q
theorem pgs_nil:PGs X [] gNil:=by
 intro pins s σ H vs us Q I r h
 obtain ⟨e,h⟩:=h
 subst e
 cases r
 exact assignInOrder_nil ⟨σ,H,I,h⟩
theorem pgs_cons {e:Expr}{es:6e1}{t:TG}{u:TGs}(h1:PG X e t)(h2:PGs X es u)
  (hs:(Wp 9e1 X.env).map (·.2)=assign e X.env::(Wp es X.env).map (·.2):=by rfl):PGs X 9e1 (gCons t u):=by
 intro pins s σ H vs us Q I r h
 obtain ⟨v,vr,e1,h⟩:=h
 subst e1
 cases r with
 | cons r rr=>
  rw[hs]
  refine assignInOrder_cons (thn (h1 pins s σ H _ _ _ I r h) fun _ s1 h_=>?_)
  obtain ⟨σ1,H1,I1,q1⟩:=h_
  exact h2 pins s1 σ1 H1 _ _ Q I1 rr q1
def gTup (K:W.Frag)(n:Nat)(t:TGs):TG:=fun v σ H Q=>∃a xs,v=.ref a/\SqT K H a xs/\xs.length=n/\t xs σ H Q
theorem pg_tup {es:6e1}{k:Nat}{t:TGs}{n:Nat}(hc:11e5)(h:PGs X es t)
  (hn:(Wp es X.env).length=n:=by rfl) (hst:(Wp es X.env).findIdx? (·.1)=none:=by rfl):PG X (.Tuple es k pos) (gTup X.K n t):=by
 intro pins s σ H v u Q I r hw
 obtain ⟨a,xs,e1,hq,hl,hw⟩:=hw
 subst e1
 cases r
 obtain ⟨its,rv,ht,hz⟩:=I.tuple hq
 refine assign_Tuple_tuple (I.ok.hd hc) ht (by simp[hn,←hl,rv.length]) hst fun h' hx=>?_
 have I1:Inv X pins σ H { s with heap:=h' }:=I.kept (t':=s.toks) fun b o e=>hx b o (Yr (Yz e)) e
 exact h pins _ σ H xs _ Q I1 (by simpa using rv) hw
def gSub (to ti:TE)(t:TSet):TG:=fun v σ H Q=>to σ H fun o H1=>ti σ H1 fun i H2=>t o i v H2 fun H3=>Q σ H3
theorem pg_sub {o i:Expr}{to ti:TE}{t:TSet}(ho:PE X o to)(hi:PE X i ti)(hs:PSet X t)
  (ha:∀v,assign (.Subscript o i pos) X.env v=(do
   let ov ←Up [v] (eval o X.env)
   let iv ←Up [v,ov] (eval i X.env)
   UT pos
   Up [v,ov,iv] (setItem ov iv v)
   release [v,ov,iv] []):=by intro _;rfl):PG X (.Subscript o i pos) (gSub to ti t):=by
 intro pins s σ H v u Q I r h
 rw[ha]
 refine Ya (Xk (thn (ho pins s σ H _ I h) fun ov s1 h_=>?_))
 obtain ⟨x,H1,I1,r1,q1⟩:=h_
 refine Ya (Xk (thn (hi pins s1 σ H1 _ I1 q1) fun iv s2 h_=>?_))
 obtain ⟨y,H2,I2,r2,q2⟩:=h_
 refine Ya (X1 (Ya (Xk (thn (hs pins s2 σ H2 x y v ov iv u _ I2 r1 r2 r q2) fun _ s3 h_=>?_))))
 obtain ⟨H3,I3,q3⟩:=h_
 exact wpAny_release ⟨σ,H3,I3,q3⟩
def tAsg (te:TE)(g:TG):TS:=fun D σ H=>te σ H fun x H1=>g x σ H1 D.nx
theorem ps_asg {tg e:Expr}{te:TE}{g:TG}(he:PE X e te)(hg:PG X tg g)(hs:swapsWithSole [tg] e pos.line X.env=pure false:=by rfl)(hw:swappedStores [tg] e X.env=pure none:=by rfl)
  (h1:(Wp [tg] X.env).map (·.2)=[assign tg X.env]:=by rfl):PS X (.Assign [tg] e pos) (tAsg te g):=by
 intro pins s σ H D I h
 refine wpAny_Assign_stores (thn (he pins s σ H _ I h) fun v s1 ⟨x,H1,I1,r1,q1⟩=>?_) hs hw
 rw[h1]
 exact thn (hg pins s1 σ H1 x v _ I1 r1 q1) fun _ s2 q=>q
theorem ps_set {i:Nat}{x:Str}{e:Expr}{te:TE}{pos':Pos}(hN:X.N.Nodup)(hi:X.N[i]? = some x)(hx:Loc X.env.scope x)(he:PE X e te)(hs:WP e (some (.Name x pos')) pos.line X.env=pure false:=by rfl)(hf:7e1:=by first | exact .inl rfl | exact .inr rfl | assumption):
  PS X (.Assign [.Name x pos'] e pos) (tAsg te (gName i)):=by
 intro pins s σ H D I h
 refine wpAny_Assign_Name (thn (he pins s σ H _ I h) fun v s1 ⟨y,H1,I1,r1,q1⟩=>?_) hs
 exact store_ok I1 hN hi hx r1 (fun s2 I2=>⟨_,H1,I2,q1⟩) hf
end
structure It where
 go:Nat->Hp->Prop
 yld:Nat->Hp->V->Hp->Prop
 stop:Nat->Hp->Prop
def FpOk (X:Cx)(pins:2e0)(H:Hp)(b:Addr):Prop:=
 H b=none/\b≠X.env.locals/\b∉X.fs/\(b∈X.ex\/X.s₀.heap.objs.size<=b)/\(∀x c,X.env.cells.lookup x=some c->c≠b)/\∀p∈X.pn++pins,p.1≠b
theorem Inv.fpOk {X:Cx}{pins:2e0}{σ:St}{H H':Hp}{s:Shared}{b:Addr}(I:2e3)(hb:s.heap.objs.size<=b)(hn:H' b=none):FpOk X pins H' b:=by
 refine ⟨hn,Wv (Yn I.lt hb),I.nofs hb,.inr (YQ I.sz hb),fun x c e z=>?_,fun p hp z=>?_⟩
 ·obtain ⟨v,q⟩:=I.cell x c e
  exact absurd (Yn q.lt (by rw[z];exact hb)) (X0 _)
 ·exact absurd (Yn (Yz (I.pin p hp).1) (by rw[z];exact hb)) (X0 _)
structure Turn (P:YD)(w:World)(K:W.Frag)(tg:Expr)(J:It)(fp:List Addr)(it:Addr)(tn:Nat->Heap->Prop):Prop where
 mem:it∈fp
 obj:∀i h,tn i h->∀b∈fp,∃o,h.get? b=some o/\∀v,o.data≠.cell v
 keep:∀i h h',tn i h->(∀b∈fp,∀o,h.get? b=some o->h'.get? b=some o)->tn i h'
 item:∀(X:Cx),X.prog=P->X.w=w->X.K=K->X.calm=true->∀(i:Nat) (pins:2e0) (s:Shared) (σ:St) (H:Hp) (E:1e7),Inv X pins σ H s->(∀b∈fp,FpOk X pins H b)->tn i s.heap->J.go i H->
  wpAny (model P w) X.A (pyNext (.ref it)) (fun r s1=>∃u,r=some u/\
   wpAny (model P w) X.A (X6 tg (.ref it) u) (fun _ s2=>∃x H',Inv X pins σ H' s2/\RelV x u/\J.yld i H x H'/\tn (i + 1) s2.heap/\∀b∈fp,H' b=none) E s1) E s
 done:∀(X:Cx),X.prog=P->X.w=w->X.K=K->X.calm=true->∀(i:Nat) (pins:2e0) (s:Shared) (σ:St) (H:Hp) (E:1e7),Inv X pins σ H s->(∀b∈fp,FpOk X pins H b)->tn i s.heap->J.stop i H->
  wpAny (model P w) X.A (pyNext (.ref it)) (fun r s1=>r=none/\Inv X pins σ H s1) E s
 self:∀(A:Around) (i:Nat) (s:Shared) (Q:1e7) (E:1e7),tn i s.heap->Q (.ref it) s->wpAny (model P w) A (pyIter (.ref it)) Q E s
abbrev TI:=St->Hp->(It->Hp->Prop)->Prop
def PIE (X:Cx)(pins:2e0)(σ:St)(tg:Expr)(R:It->Hp->Prop)(itv:Value)(s2:Shared):Prop:=
 ∃(it:Addr) (fp:4e3) (tn:Nat->Heap->Prop) (J:It) (H':Hp),itv=.ref it/\Inv X pins σ H' s2/\Turn X.prog X.w X.K tg J fp it tn/\tn 0 s2.heap/\(∀b∈fp,FpOk X pins H' b)/\R J H'
def PI (X:Cx)(tg iter:Expr)(wi:TI):Prop:=
 ∀(pins:2e0) (s:Shared) (σ:St) (H:Hp) (R:It->Hp->Prop),Inv X pins σ H s->wi σ H R->
  wpAny 2e7 X.A (eval iter X.env) (fun v s1=>wpAny 2e7 X.A (pyIter v) (PIE X pins σ tg R) X.xe s1) X.xe s
theorem go_of {M:Model}{A:Around}{E:1e7}{s:Shared}{tg:Expr}{it:Addr}{u:Value}{o:Obj}{n:String}{vs:Array Value}{Q:Unit->Shared->Prop}(ho:s.heap.get? it=some o)(hc:o.cls=.type n)(hd:o.data=.fields vs)
    (hn:["enumerate","zip","dict_itemiterator","dict_reverseitemiterator","odict_iterator","itertools.zip_longest","itertools.pairwise"].contains n=false) (hQ:Q () s):wpAny M A (X6 tg (.ref it) u) Q E s:=by
  unfold X6
  cases tg<;>first
    | exact Yd hQ
    | (cases u<;>first
        | exact Yd hQ
        | (refine Ya (wpAny_load ho ?_)
           rw[hc,hd]
           show wpAny M A (if (["enumerate","zip","dict_itemiterator","dict_reverseitemiterator","odict_iterator","itertools.zip_longest","itertools.pairwise"].contains n&&vs[0]?==some (rawInt _))=true then _ else _) Q E s
           rw[if_neg (by intro h;rw[hn,Bool.false_and] at h;cases h)]
           exact Yd hQ))
def Itl (K:W.Frag)(a:Addr):It:=
 ⟨fun i H=>∃xs x,SqL K H a xs/\xs[i]? = some x,fun i H x H'=>H'=H/\∀xs,SqL K H a xs->xs[i]? = some x,fun i H=>∃xs,SqL K H a xs/\xs.length<=i⟩
def Itt (K:W.Frag)(a:Addr):It:=
 ⟨fun i H=>∃xs x,SqT K H a xs/\xs[i]? = some x,fun i H x H'=>H'=H/\∀xs,SqT K H a xs->xs[i]? = some x,fun i H=>∃xs,SqT K H a xs/\xs.length<=i⟩
def Itr (lo:Int)(n:Nat):It:=⟨fun i _=>i < n,fun i H x H'=>H'=H/\x=.int (lo + i),fun i _=>n<=i⟩
theorem turn_list {P:YD}{w:World}{K:W.Frag}{tg:Expr}(a it:Addr):Turn P w K tg (Itl K a) [it] it (fun i h=>h.IsListIter it a i) where
 mem:=by simp
 obj:=fun i h st b hb=>by
  have e:b=it:=by simpa using hb
  subst e
  obtain ⟨o,e,c,d⟩:=st
  exact ⟨o,e,fun v z=>by rw[d] at z;cases z⟩
 keep:=fun i h h' st k=>st.at fun o e=>k it 4e6 o e
 item:=by
  sleep 5
  obtain ⟨xs,x,hq,hx⟩:=hg
  obtain ⟨its,rv,p,hz⟩:=I.list hq
  obtain ⟨u,hu,ru⟩:=rv.get hx
  sleep 15
  refine wpAny_pyNext_list_item st p.isList (x:=u) (by simpa using hu) fun h' st' sb=>?_
  have I1:Inv X pins σ H { s with heap:=h' }:=I.turned (t':=s.toks) (fun b o hb e=>(sb.2 b hb).trans e) f0 f1 f3 f4 f5
  obtain ⟨o,e,c,d⟩:=id st'
  exact ⟨u,rfl,go_of (s:={ s with heap:=h' }) e c d (by decide) ⟨x,H,I1,ru,⟨rfl,fun ys hy=>by rw[I.list_inj hy hq];exact hx⟩,st',fun b hb=>(hf b hb).1⟩⟩
 done:=by
  sleep 5
  obtain ⟨xs,hq,hx⟩:=hg
  obtain ⟨its,rv,p,hz⟩:=I.list hq
  sleep 15
  have hl:=rv.length
  exact wpAny_pyNext_list_end (I.ok.hd hc) st p.isList 11e0 fun h' eb=>⟨rfl,I.turned (t':=s.toks) (fun b o hb e=>eb b o hb e) f0 f1 f3 f4 f5⟩
 self:=fun _ _ _ _ _ st h=>wpAny_pyIter_listiter st h
theorem turn_tuple {P:YD}{w:World}{K:W.Frag}{tg:Expr}(a it:Addr):Turn P w K tg (Itt K a) [it] it (fun i h=>h.IsTupleIter it a i) where
 mem:=by simp
 obj:=fun i h st b hb=>by
  have e:b=it:=by simpa using hb
  subst e
  obtain ⟨o,e,c,d⟩:=st
  exact ⟨o,e,fun v z=>by rw[d] at z;cases z⟩
 keep:=fun i h h' st k=>st.at fun o e=>k it 4e6 o e
 item:=by
  sleep 5
  obtain ⟨xs,x,hq,hx⟩:=hg
  obtain ⟨its,rv,p,hz⟩:=I.tuple hq
  obtain ⟨u,hu,ru⟩:=rv.get hx
  sleep 15
  refine wpAny_pyNext_tuple_item st (show s.heap.IsTuple a its.toArray from p) (x:=u) (by simpa using hu) fun h' st' sb=>?_
  have I1:Inv X pins σ H { s with heap:=h' }:=I.turned (t':=s.toks) (fun b o hb e=>(sb.2 b hb).trans e) f0 f1 f3 f4 f5
  obtain ⟨o,e,c,d⟩:=id st'
  exact ⟨u,rfl,go_of (s:={ s with heap:=h' }) e c d (by decide) ⟨x,H,I1,ru,⟨rfl,fun ys hy=>by rw[I.tuple_inj hy hq];exact hx⟩,st',fun b hb=>(hf b hb).1⟩⟩
 done:=by
  sleep 5
  obtain ⟨xs,hq,hx⟩:=hg
  obtain ⟨its,rv,p,hz⟩:=I.tuple hq
  sleep 15
  have hl:=rv.length
  exact wpAny_pyNext_tuple_end (I.ok.hd hc) st (show s.heap.IsTuple a its.toArray from p) 11e0 fun h' eb=>⟨rfl,I.turned (t':=s.toks) (fun b o hb e=>eb b o hb e) f0 f1 f3 f4 f5⟩
 self:=fun _ _ _ _ _ st h=>wpAny_pyIter_tupleiter st h
theorem turn_range {P:YD}{w:World}{K:W.Frag}{tg:Expr}(it:Addr)(lo:Int)(n:Nat):Turn P w K tg (Itr lo n) [it] it (fun i h=>IsRangeIter h it (lo + (i:Nat) * 1) ((n:Int) - (i:Nat)) 1) where
 mem:=by simp
 obj:=fun i h st b hb=>by
  have e:b=it:=by simpa using hb
  subst e
  exact ⟨_,st,fun v z=>by
   have z':Data.fields _=Data.cell v:=z
   cases z'⟩
 keep:=fun i h h' st k=>k it 4e6 _ st
 item:=by
  sleep 5
  sleep 15
  have W:=Walks.range (prog:=X.prog) (w:=X.w) (I.ok.hd hc) it lo 1 n
  refine W.item i s _ _ hg st fun v h' tk hv st' kk=>?_
  obtain ⟨t,rfl⟩:=hv
  have I1:Inv X pins σ H { s with heap:=h',toks:=tk }:=I.turned (fun b o hb e=>kk b o (by simpa using hb) e) f0 f1 f3 f4 f5
  refine ⟨_,rfl,go_of (s:={ s with heap:=h',toks:=tk }) (n:="range_iterator") st' rfl rfl (by decide) ⟨.int (lo + i),H,I1,⟨t,?_⟩,⟨rfl,rfl⟩,st',fun b hb=>(hf b hb).1⟩⟩
  rw[Int.mul_one]
 done:=by
  sleep 5
  sleep 15
  exact wpAny_pyNext_range_end (I.ok.hd hc) st (by have:n<=i:=hg;lia) fun h' eb=>⟨rfl,I.turned (t':=s.toks) (fun b o hb e=>eb b o hb e) f0 f1 f3 f4 f5⟩
 self:=fun _ _ _ _ _ st h=>wpAny_pyIter_rangeiter st h
section
variable {X:Cx}{tg:Expr}
theorem range_it {pins:2e0}{σ:St}{H:Hp}{s:Shared}{R:It->Hp->Prop}{E:1e7}{lo hi:Int}{t u v:Tok}{tk:Nat}(I:2e3)(h1:-(2 ^ 62)<=lo)(h2:lo < 2 ^ 62)(h3:-(2 ^ 62)<=hi)(h4:hi < 2 ^ 62)
  (q:R (Itr lo (hi - lo).toNat) H):wpAny 2e7 X.A (pyIter 10e1) (PIE X pins σ tg R) E { s with heap:=s.heap.push { cls:=.type "range",data:=.fields #[.int lo t,.int hi u,.int 1 v] },toks:=tk }:=by
 refine wpAny_pyIter_range (IsRange.new ..) (small_one h1 h2 h3 h4) ?_
 have I1:Inv X pins σ H { s with heap:=s.heap.push { cls:=.type "range",data:=.fields #[.int lo t,.int hi u,.int 1 v] },toks:=tk }:=I.kept fun b o e=>Yc _ e
 refine ⟨(s.heap.push { cls:=.type "range",data:=.fields #[.int lo t,.int hi u,.int 1 v] }).objs.size,[(s.heap.push { cls:=.type "range",data:=.fields #[.int lo t,.int hi u,.int 1 v] }).objs.size],_,_,H,rfl,
  I1.kept (t':=tk) fun b o e=>Yc _ e,turn_range _ lo (hi - lo).toNat,?_,fun b hb=>?_,q⟩
 ·have e1:lo + ((0:Nat):Int) * 1=lo:=by simp
  have e2:(((hi - lo).toNat:Nat):Int) - ((0:Nat):Int)=Builtin.Range.rangeSize lo hi 1:=by rw[rangeSize_one];split<;>lia
  show IsRangeIter _ _ (lo + ((0:Nat):Int) * 1) ((((hi - lo).toNat:Nat):Int) - ((0:Nat):Int)) 1
  rw[e1,e2]
  exact Yp _ rfl
 ·have e:b=(s.heap.push { cls:=.type "range",data:=.fields #[.int lo t,.int hi u,.int 1 v] }).objs.size:=by simpa using hb
  subst e
  exact I1.fpOk (Yh _) (I1.hok.fresh (Yh _))
def iRng1 (ta:TA):TI:=fun σ H R=>ta σ H fun vs H1=>∃j:Int,vs=[.int j]/\-(2 ^ 62)<=j/\j < 2 ^ 62/\R (Itr 0 j.toNat) H1
def iRng2 (ta:TA):TI:=fun σ H R=>ta σ H fun vs H1=>∃i j:Int,vs=[.int i,.int j]/\(-(2 ^ 62)<=i/\i < 2 ^ 62/\-(2 ^ 62)<=j/\j < 2 ^ 62)/\R (Itr i (j - i).toNat) H1
theorem pi_range1 {a:Expr}{ta:TA}{p pos:Pos}(hg:Gl X "range")(hm:X.mg "range"=none)(ha:PA X [a] ta)(hs:Yo [a] X.env=[(false,eval a X.env)]:=by rfl):PI X tg (.Call (.Name "range" p) [a] [] pos) (iRng1 ta):=by
 intro pins s σ H R I h
 refine Call_ (Zdf I hg hm boot_range (X7 (thn (ha pos pins s σ H _ I h) fun us s1 ⟨vs,H1,I1,r1,q1⟩=>?_) hs rfl))
 obtain ⟨j,e,q1,q2,q⟩:=q1
 subst e
 cases r1 with
 | cons r rr=>
  cases rr
  obtain ⟨t,rfl⟩:=r
  exact call_range_1 (range_it I1 1e2 1e2 q1 q2 (by simpa using q))
theorem pi_range2 {a b:Expr}{ta:TA}{p pos:Pos}(hg:Gl X "range")(hm:X.mg "range"=none)(ha:PA X [a,b] ta)(hs:Yo [a,b] X.env=[(false,eval a X.env),(false,eval b X.env)]:=by rfl)(hs2:Yo [b] X.env=[(false,eval b X.env)]:=by rfl):
  PI X tg (.Call (.Name "range" p) [a,b] [] pos) (iRng2 ta):=by
 intro pins s σ H R I h
 refine Call_ (Zdf I hg hm boot_range (X7 (thn (ha pos pins s σ H _ I h) fun us s1 ⟨vs,H1,I1,r1,q1⟩=>?_) (by rw[hs,hs2]) (by rw[hs2];rfl)))
 obtain ⟨i,j,e,⟨q1,q2,q3,q4⟩,q⟩:=q1
 subst e
 cases r1 with
 | cons r rr=>
  cases rr with
  | cons r' rr=>
   cases rr
   obtain ⟨t,rfl⟩:=r
   obtain ⟨t',rfl⟩:=r'
   exact call_range_2 (range_it I1 q1 q2 q3 q4 q)
def tFor (wi:TI)(g:TG)(tb:TS):TS:=fun D σ H=>wi σ H fun J H1=>∃W:Nat->Nat->St->Hp->Prop,(∃m,W 0 m σ H1)/\∀i m σ H,W i m σ H->
 (J.stop i H/\D.nx σ H)\/(J.go i H/\∃N:St->Hp->Prop,(∀σ' H',N σ' H'->∃m',m' < m/\W (i + 1) m' σ' H')/\∀x H',J.yld i H x H'->g x σ H' fun σ2 H2=>tb { D with nx:=N,ct:=N,bk:=D.nx } σ2 H2)
def pinsAt (fp:4e3)(h:Heap):List (Addr×Obj):=fp.filterMap fun b=>(h.get? b).map fun o=>(b,o)
theorem ZaW {fp:4e3}{h:Heap}{b:Addr}{o:Obj}(hb:b∈fp)(e:h.get? b=some o):(b,o)∈pinsAt fp h:=VW.mpr ⟨b,hb,by rw[e];rfl⟩
theorem of_pinsAt {fp:4e3}{h:Heap}{p:Addr×Obj}(hp:p∈pinsAt fp h):p.1∈fp/\h.get? p.1=some p.2:=by
 obtain ⟨b,hb,e⟩:=VW.mp hp
 cases q:h.get? b with
 | none=>rw[q] at e;cases e
 | some o=>
  rw[q] at e
  have e':(b,o)=p:=YG e
  subst e'
  exact ⟨hb,q⟩
theorem Inv.pinned {pins:2e0}{σ:St}{H:Hp}{s:Shared}{fp:4e3}(I:2e3)(hf:∀b∈fp,FpOk X pins H b)(ho:∀b∈fp,∃o,s.heap.get? b=some o/\∀v,o.data≠.cell v):Inv X (pins++pinsAt fp s.heap) σ H s:=
 I.pins_of fun p hp=>(Yw.mp hp).elim (fun z=>I.pin p (Ye _ z)) fun z=>by
  obtain ⟨hb,e⟩:=of_pinsAt z
  obtain ⟨f0,f1,f2,_⟩:=hf p.1 hb
  obtain ⟨o,e',d⟩:=ho p.1 hb
  rw[e] at e';cases e'
  exact ⟨e,f0,f1,f2,d⟩
theorem Inv.unpinned {pins pl:2e0}{σ:St}{H:Hp}{s:Shared}(I:Inv X (pins++pl) σ H s):Inv X pins σ H s:=I.pins_of fun p hp=>I.pin p (Ye _ (YF _ hp))
theorem ps_for {iter:Expr}{body:List Stmt}{wi:TI}{g:TG}{tb:TS}{pos:Pos}(hp:PassesOwn 2e7 X.A X.env X.xe)(hc:11e5)(hi:PI X tg iter wi)(hg:PG X tg g)(hb:PSs X body tb)
  (hs:16e6:=by intro _;rfl):PS X (.For tg iter body [] pos) (tFor wi g tb):=by
 intro pins s σ H D I h
 refine wpAny_For (thn (hi pins s σ H _ I h) fun v s1 h1=>thn h1 fun itv s2 h2=>?_) hs
 obtain ⟨it,fp,tn,J,H2,e,I2,T,st2,f2,W,⟨m0,w0⟩,turn⟩:=h2
 subst e
 have stat:∀{H':Hp},12e0->∀b∈fp,FpOk X pins H' b:=fun hn b hb=>⟨hn b hb,(f2 b hb).2⟩
 refine codeAny_forLoop_any (fun n s'=>∃i σ' H',Inv X pins σ' H' s'/\tn i s'.heap/\12e0/\W i n σ' H') ?_ m0 ⟨0,σ,H2,I2,st2,fun b hb=>(f2 b hb).1,w0⟩
 rintro n s3 ⟨i,σ3,H3,I3,st3,fr3,w3⟩
 rcases turn i n σ3 H3 w3 with ⟨stop,qn⟩ | ⟨go,N,hN,step⟩
 ·refine Vg hp (thn (T.done X rfl rfl rfl hc i pins s3 σ3 H3 X.xe I3 (stat fr3) st3 stop) fun r s4 h_=>?_)
  obtain ⟨hr,I4⟩:=h_
  subst hr
  exact Uo ⟨σ3,H3,I4,qn⟩
 ·refine Vg hp (thn (T.item X rfl rfl rfl hc i pins s3 σ3 H3 X.xe I3 (stat fr3) st3 go) fun r s4 h_=>?_)
  obtain ⟨u,hr,h4⟩:=h_
  subst hr
  refine Vg hp (thn h4 fun _ s5 h_=>?_)
  obtain ⟨x,H5,I5,r5,y5,st5,fr5⟩:=h_
  have I5':=I5.pinned (stat fr5) (T.obj _ _ st5)
  refine Vg hp (thn (hg _ s5 σ3 H5 x u _ I5' r5 (step x H5 y5)) fun _ s6 h_=>?_)
  obtain ⟨σ6,H6,I6,q6⟩:=h_
  refine Vg hp (thn (hb _ s6 σ6 H6 _ I6 q6) fun f s7 q7=>?_)
  have again:∀{σ7:St} {H7:Hp},Inv X (pins++pinsAt fp s5.heap) σ7 H7 s7->N σ7 H7->∃m,m < n/\∃i σ' H',Inv X pins σ' H' s7/\tn i s7.heap/\12e0/\W i m σ' H':=fun {σ7 H7} I7 n7=>by
   obtain ⟨m',hm,w7⟩:=hN σ7 H7 n7
   refine ⟨m',hm,i + 1,σ7,H7,I7.unpinned,T.keep _ _ _ st5 fun b hb o e=>(I7.pin (b,o) (Ye _ (Ye _ (ZaW hb e)))).1,fun b hb=>?_,w7⟩
   obtain ⟨o,e,d⟩:=T.obj _ _ st5 b hb
   exact (I7.pin (b,o) (Ye _ (Ye _ (ZaW hb e)))).2.1
  cases f with
  | next=>obtain ⟨σ7,H7,I7,n7⟩:=q7;exact again I7 n7
  | cont=>obtain ⟨σ7,H7,I7,n7⟩:=q7;exact again I7 n7
  | brk=>obtain ⟨σ7,H7,I7,q7⟩:=q7;exact ⟨σ7,H7,I7.unpinned,q7⟩
  | ret v=>obtain ⟨x7,σ7,H7,I7,r7,q7⟩:=q7;exact ⟨x7,σ7,H7,I7.unpinned,r7,q7⟩
end
abbrev R2:=V->V->Hp->VK->Prop
def OpR (X:Cx)(f:Value->Value->Sem Value)(r:R2):Prop:=
 ∀(pins:2e0) (s:Shared) (σ:St) (H:Hp) (x y:V) (v u:Value) (Q:VK),Inv X pins σ H s->RelV x v->RelV y u->r x y H Q->
  wpAny 2e7 X.A (f v u) 18e5 X.xe s
def UnR (X:Cx)(f:Value->Sem Value)(r:V->Hp->VK->Prop):Prop:=
 ∀(pins:2e0) (s:Shared) (σ:St) (H:Hp) (x:V) (v:Value) (Q:VK),Inv X pins σ H s->RelV x v->r x H Q->
  wpAny 2e7 X.A (f v) 18e5 X.xe s
def CallR (X:Cx)(f:Value)(r:14e3):Prop:=
 ∀(pins:2e0) (s:Shared) (σ:St) (H:Hp) (xs:List V) (us:4e9) (Q:VK),Inv X pins σ H s->Vals xs us->r xs H Q->
  wpAny 2e7 X.A (call f us) 18e5 X.xe s
def TruR (X:Cx)(r:V->Hp->(Bool->Hp->Prop)->Prop):Prop:=
 ∀(pins:2e0) (s:Shared) (σ:St) (H:Hp) (x:V) (v:Value) (Q:Bool->Hp->Prop),Inv X pins σ H s->RelV x v->r x H Q->
  wpAny 2e7 X.A (truthy v) (TP X pins σ Q) X.xe s
def tOp (r:R2)(ta tb:TE):TE:=fun σ H Q=>ta σ H fun x H1=>tb σ H1 fun y H2=>r x y H2 Q
def tUn (r:V->Hp->VK->Prop)(ta:TE):TE:=fun σ H Q=>ta σ H fun x H1=>r x H1 Q
def rI (C:Int->Int->Prop)(g:Int->Int->V):R2:=fun x y H Q=>∃i j,x=.int i/\y=.int j/\C i j/\Q (g i j) H
def rI0 (g:Int->Int->V):R2:=fun x y H Q=>∃i j,x=.int i/\y=.int j/\Q (g i j) H
def rU (g:Int->V):V->Hp->VK->Prop:=fun x H Q=>∃i,x=.int i/\Q (g i) H
section
variable {X:Cx}{a b c:Expr}{ta tb tc:TE}{pos:Pos}
theorem binT (ha:PE X a ta)(hb:PE X b tb){pins:2e0}{s:Shared}{σ:St}{H:Hp}{R:V->V->Hp->Prop}(I:2e3)
  (h:ta σ H fun x H1=>tb σ H1 fun y H2=>R x y H2) {Q:1e7} {f:Value->Value->Sem Value}
  (hf:∀v u s2 x y H2,Inv X pins σ H2 s2->RelV x v->RelV y u->R x y H2->wpAny 2e7 X.A (f v u) Q X.xe s2):
  wpAny 2e7 X.A (eval a X.env) (fun v s₁=>wpAny 2e7 X.A (eval b X.env) (fun u s₂=>wpAny 2e7 X.A (f v u) Q X.xe s₂) X.xe s₁) X.xe s:=by
 refine thn (ha pins s σ H _ I h) fun v s1 h_=>?_
 obtain ⟨x,H1,I1,r1,q1⟩:=h_
 refine thn (hb pins s1 σ H1 _ I1 q1) fun u s2 h_=>?_
 obtain ⟨y,H2,I2,r2,q2⟩:=h_
 exact hf v u s2 x y H2 I2 r1 r2 q2
theorem pe_op {op:Operator}{r:R2}(ho:OpR X (WK op) r)(ha:PE X a ta)(hb:PE X b tb):PE X (.BinOp a op b pos) (tOp r ta tb):=by
 sleep 14
 exact wpAny_BinOp (binT ha hb I h fun v u s2 x y H2 I2 rx ry q=>ho pins s2 σ H2 x y v u Q I2 rx ry q)
theorem pe_un {op:UnaryOp}{r:V->Hp->VK->Prop}(ho:UnR X (unaryOp op) r)(ha:PE X a ta):PE X (.UnaryOp op a pos) (tUn r ta):=by
 sleep 14
 exact UnaryOp_ (thn (ha pins s σ H _ I h) fun v s1 ⟨x,H1,I1,r1,q1⟩=>ho pins s1 σ H1 x v Q I1 r1 q1)
theorem opI {f:Value->Value->Sem Value}{C:Int->Int->Prop}{g:Int->Int->Int}
  (rule:∀(i j:Int) (t u:Tok) (s:Shared) (Q:1e7) (E:1e7),C i j->Q (.int (g i j) s.toks) { s with toks:=s.toks + 1 }->wpAny (model X.prog X.w) X.A (f (.int i t) (.int j u)) Q E s):
  OpR X f (rI C fun i j=>.int (g i j)):=by
 sleep 4
 obtain ⟨i,j,rfl,rfl,hc,q⟩:=h
 sleep 11
 obtain ⟨t',rfl⟩:=ry
 exact rule i j t t' s _ _ hc ⟨.int (g i j),H,I.tok _,9e7,q⟩
theorem opI0 {f:Value->Value->Sem Value}{g:Int->Int->Int}
  (rule:∀(i j:Int) (t u:Tok) (s:Shared) (Q:1e7) (E:1e7),Q (.int (g i j) s.toks) { s with toks:=s.toks + 1 }->wpAny (model X.prog X.w) X.A (f (.int i t) (.int j u)) Q E s):
  OpR X f (rI0 fun i j=>.int (g i j)):=by
 sleep 4
 obtain ⟨i,j,rfl,rfl,q⟩:=h
 sleep 11
 obtain ⟨t',rfl⟩:=ry
 exact rule i j t t' s _ _ ⟨.int (g i j),H,I.tok _,9e7,q⟩
theorem opB0 {f:Value->Value->Sem Value}{g:Int->Int->Bool}
  (rule:∀(i j:Int) (t u:Tok) (s:Shared) (Q:1e7) (E:1e7),Q (.bool (g i j)) s->wpAny 2e7 X.A (f (.int i t) (.int j u)) Q E s):
  OpR X f (rI0 fun i j=>.bl (g i j)):=by
 sleep 4
 obtain ⟨i,j,rfl,rfl,q⟩:=h
 sleep 11
 obtain ⟨t',rfl⟩:=ry
 exact rule i j t t' s _ _ ⟨.bl (g i j),H,I,rfl,q⟩
def CDiv (i j:Int):Prop:=0 < j/\j < 1073741824
def CPow (i j:Int):Prop:=0<=j/\j<=1000000/\i.natAbs < 2 ^ 64
def CMul (i j:Int):Prop:=(-(2 ^ 64) < i/\i < 2 ^ 64)\/(-(2 ^ 64) < j/\j < 2 ^ 64)
theorem CMul.ok {i j:Int}(h:CMul i j):IntMulOk i j:=by
 rcases h with ⟨h1,h2⟩ | ⟨h1,h2⟩
 ·exact .of_left (intBits_le_64 h1 h2)
 ·exact .of_right (intBits_le_64 h1 h2)
theorem op_add:OpR X (WK .Add) (rI0 fun i j=>.int (i + j)):=opI0 fun _ _ _ _ _ _ _ q=>add_int q
theorem op_sub:OpR X (WK .Sub) (rI0 fun i j=>.int (i - j)):=opI0 fun _ _ _ _ _ _ _ q=>sub_int q
theorem op_mul:OpR X (WK .Mult) (rI CMul fun i j=>.int (i * j)):=opI fun _ _ _ _ _ _ _ hc q=>mul_int q hc.ok
theorem op_fdiv:OpR X (WK .FloorDiv) (rI CDiv fun i j=>.int (i / j)):=opI fun i j _ _ _ _ _ hc q=>by
 have h1:(0:Int) < j:=hc.1
 have h2:j < 1073741824:=hc.2
 exact floordiv_int 1e2 (by rw[Int.fdiv_eq_ediv_of_nonneg i 1e2];exact q) (.inl (PyProof.noPylong_small 1e2))
theorem op_mod:OpR X (WK .Mod) (rI (fun _ j=>0 < j) fun i j=>.int (i % j)):=opI fun i j _ _ _ _ _ hc q=>by
 have h1:(0:Int) < j:=hc
 exact mod_int' 1e2 (by rw[Int.fmod_eq_emod_of_nonneg i 1e2];exact q)
theorem op_pow:OpR X (WK .Pow) (rI CPow fun i j=>.int (i ^ j.toNat)):=opI fun _ _ _ _ _ _ _ hc q=>pow_int_small hc.1 hc.2.1 hc.2.2 q
theorem unI {f:Value->Sem Value}{g:Int->Int}
  (rule:∀(i:Int) (t:Tok) (s:Shared) (Q:1e7) (E:1e7),Q (.int (g i) s.toks) { s with toks:=s.toks + 1 }->wpAny (model X.prog X.w) X.A (f (.int i t)) Q E s):
  UnR X f (rU fun i=>.int (g i)):=by
 intro pins s σ H x v Q I rx h
 obtain ⟨i,rfl,q⟩:=h
 sleep 11
 exact rule i t s _ _ ⟨.int (g i),H,I.tok _,9e7,q⟩
theorem un_neg:UnR X (unaryOp .USub) (rU fun i=>.int (-i)):=unI fun _ _ _ _ _ q=>neg_int q
end
def scal:V->V->Bool
 | .non,.non=>true | .non,.int _=>true | .int _,.non=>true | .non,.bl _=>true | .bl _,.non=>true | .non,.str _=>true | .str _,.non=>true
 | .int _,.int _=>true | .bl _,.bl _=>true | .str _,.str _=>true | .byt _,.byt _=>true
 | .int _,.str _=>true | .str _,.int _=>true | .bl _,.str _=>true | .str _,.bl _=>true
 | _,_=>false
def rEq:R2:=fun x y H Q=>scal x y=true/\Q (.bl (decide (x=y))) H
def rNe:R2:=fun x y H Q=>scal x y=true/\Q (.bl (!decide (x=y))) H
theorem dec_int {i j:Int}:decide (V.int i=V.int j)=(i==j):=by
 rw[Vh]
 simp
theorem dec_bl {i j:Bool}:decide (V.bl i=V.bl j)=(i==j):=by
 rw[Vh]
 simp
theorem dec_str {i j:Str}:decide (V.str i=V.str j)=(i==j):=by
 rw[Vh]
 simp
theorem dec_byt {i j:Array UInt8}:decide (V.byt i=V.byt j)=(i.toList==j.toList):=by
 rw[Vh]
 cases i
 cases j
 simp
section
variable {X:Cx}{a b c:Expr}{ta tb tc:TE}{pos:Pos}
theorem ZaL {pins:2e0}{σ:St}{H:Hp}{s:Shared}{Q:VK}{k k':Bool}(I:2e3)(q:Q (.bl k) H)(e:k=k'):EP X pins σ Q (.bool k') s:=by
 subst e
 exact ⟨.bl k,H,I,rfl,q⟩
theorem Zdz:OpR X (XU .Eq) rEq:=by
 sleep 4
 obtain ⟨hs,q⟩:=h
 cases x with
 | non=>
  cases rx
  cases y with
  | non=>cases ry;exact PySem.EqNone.eq_none_none 13e2
  | bl j=>cases ry;exact PySem.EqNone.eq_none_bool 13e2
  | int j=>obtain ⟨t',rfl⟩:=ry;exact PySem.EqNone.eq_none_int 13e2
  | str j=>obtain ⟨t',rfl⟩:=ry;exact PySem.EqNone.eq_none_str 13e2
  | _=>exact absurd (show false=true from hs) Yv
 | bl i=>
  cases rx
  cases y with
  | non=>cases ry;exact PySem.EqNone.eq_bool_none 13e2
  | bl j=>cases ry;exact eq_bool (ZaL I q dec_bl)
  | str j=>obtain ⟨t',rfl⟩:=ry;exact PySem.EqMixed.eq_bool_str 13e2
  | _=>exact absurd (show false=true from hs) Yv
 | int i=>
  sleep 11
  cases y with
  | non=>cases ry;exact PySem.EqNone.eq_int_none 13e2
  | int j=>obtain ⟨t',rfl⟩:=ry;exact eq_int (ZaL I q dec_int)
  | str j=>obtain ⟨t',rfl⟩:=ry;exact PySem.EqMixed.eq_int_str 13e2
  | _=>exact absurd (show false=true from hs) Yv
 | str i=>
  sleep 11
  cases y with
  | non=>cases ry;exact PySem.EqNone.eq_str_none 13e2
  | bl j=>cases ry;exact PySem.EqMixed.eq_str_bool 13e2
  | int j=>obtain ⟨t',rfl⟩:=ry;exact PySem.EqMixed.eq_str_int 13e2
  | str j=>obtain ⟨t',rfl⟩:=ry;exact eq_str (ZaL I q dec_str)
  | _=>exact absurd (show false=true from hs) Yv
 | byt i=>
  sleep 11
  cases y with
  | byt j=>obtain ⟨t',rfl⟩:=ry;exact W.eq_bytes (ZaL I q dec_byt)
  | _=>exact absurd (show false=true from hs) Yv
 | _=>cases y<;>exact absurd (show false=true from hs) Yv
theorem op_ne:OpR X (XU .NotEq) rNe:=by
 sleep 4
 obtain ⟨hs,q⟩:=h
 cases x with
 | non=>
  cases rx
  cases y with
  | non=>cases ry;exact PySem.EqNone.ne_none_none 13e2
  | bl j=>cases ry;exact PySem.EqNone.ne_none_bool 13e2
  | int j=>obtain ⟨t',rfl⟩:=ry;exact PySem.EqNone.ne_none_int 13e2
  | str j=>obtain ⟨t',rfl⟩:=ry;exact PySem.EqNone.ne_none_str 13e2
  | _=>exact absurd (show false=true from hs) Yv
 | bl i=>
  cases rx
  cases y with
  | non=>cases ry;exact PySem.EqNone.ne_bool_none 13e2
  | bl j=>cases ry;exact ne_bool (ZaL I q (congrArg not dec_bl))
  | str j=>obtain ⟨t',rfl⟩:=ry;exact PySem.EqMixed.ne_bool_str 13e2
  | _=>exact absurd (show false=true from hs) Yv
 | int i=>
  sleep 11
  cases y with
  | non=>cases ry;exact PySem.EqNone.ne_int_none 13e2
  | int j=>obtain ⟨t',rfl⟩:=ry;exact ne_int (ZaL I q (congrArg not dec_int))
  | str j=>obtain ⟨t',rfl⟩:=ry;exact PySem.EqMixed.ne_int_str 13e2
  | _=>exact absurd (show false=true from hs) Yv
 | str i=>
  sleep 11
  cases y with
  | non=>cases ry;exact PySem.EqNone.ne_str_none 13e2
  | bl j=>cases ry;exact PySem.EqMixed.ne_str_bool 13e2
  | int j=>obtain ⟨t',rfl⟩:=ry;exact PySem.EqMixed.ne_str_int 13e2
  | str j=>obtain ⟨t',rfl⟩:=ry;exact ne_str (ZaL I q (congrArg not dec_str))
  | _=>exact absurd (show false=true from hs) Yv
 | byt i=>
  sleep 11
  cases y with
  | byt j=>obtain ⟨t',rfl⟩:=ry;exact W.ne_bytes (ZaL I q (congrArg not dec_byt))
  | _=>exact absurd (show false=true from hs) Yv
 | _=>cases y<;>exact absurd (show false=true from hs) Yv
theorem Zc7:OpR X (XU .Lt) (rI0 fun i j=>.bl (decide (i < j))):=opB0 fun _ _ _ _ _ _ _ q=>lt_int q
theorem op_gt:OpR X (XU .Gt) (rI0 fun i j=>.bl (decide (j < i))):=opB0 fun _ _ _ _ _ _ _ q=>gt_int q
theorem nomark (b:Expr){op:CmpOp}(h:op≠.In:=by decide)(h2:op≠.NotIn:=by decide):Vi op b=false:=by
 have e1:(op==CmpOp.In)=false:=by cases op<;>first | rfl | exact absurd rfl h
 have e2:(op==CmpOp.NotIn)=false:=by cases op<;>first | rfl | exact absurd rfl h2
 cases b<;>simp[Vi,e1,e2]
theorem pe_cmpR {op:CmpOp}{r:R2}(ho:OpR X (XU op) r)(ha:PE X a ta)(hb:PE X b tb)(hm:Vi op b=false):PE X (.Compare a [op] [b] pos) (tOp r ta tb):=by
 sleep 14
 exact wpAny_Compare1 (binT ha hb I h fun v u s2 x y H2 I2 rx ry q=>ho pins s2 σ H2 x y v u Q I2 rx ry q) hm
def tTest (t:TE):TT:=fun σ H Q=>t σ H fun x H'=>∃k,x=.bl k/\Q k H'
theorem pt_cmpR {op:CmpOp}{r:R2}(ho:OpR X (XU op) r)(ha:PE X a ta)(hb:PE X b tb)(hm:Vi op b=false):PT X (.Compare a [op] [b] pos) (tTest (tOp r ta tb)):=by
 sleep 14
 refine wpAny_isTrue_Compare1 (thn (ha pins s σ H _ I h) fun v s1 ⟨x,H1,I1,r1,q1⟩=>thn (hb pins s1 σ H1 _ I1 q1) fun u s2 ⟨y,H2,I2,r2,q2⟩=>
  thn (ho pins s2 σ H2 x y v u _ I2 r1 r2 q2) fun c s3 ⟨z,H3,I3,r3,k,e,q3⟩=>?_) hm
 subst e
 cases r3
 exact wpAny_truthy_bool ⟨H3,I3,q3⟩
def TruV (K:W.Frag)(x:V)(H:Hp)(k:Bool):Prop:=
 match x with
 | .non=>k=false
 | .bl b=>k=b
 | .int i=>k=(i != 0)
 | .str y=>y.length<=Yu/\k=((y.length:Int) != 0)
 | .byt y=>y.size<=Yu/\k=((y.size:Int) != 0)
 | .ref p=>(∃xs,SqL K H p xs/\k=!xs.isEmpty)\/(∃xs,SqT K H p xs/\k=!xs.isEmpty)\/∃kvs,H p=some (.dK kvs)/\k=!kvs.isEmpty
 | _=>False
theorem isEmpty_kv {κ:Type}{kvs:List (κ×V)}{vs:List (κ×Value)}(r:KV kvs vs):(!vs.isEmpty)=!kvs.isEmpty:=by
 cases r<;>rfl
theorem ZdM {xs:List V}{its:4e9}(r:Vals xs its):(!its.toArray.isEmpty)=!xs.isEmpty:=by
 cases r<;>simp
theorem line63:(Yu:Nat) < 2 ^ 63:=by rw[YS];decide
theorem tru_ok:TruR X (fun x H Q=>∃k,TruV X.K x H k/\Q k H):=by
 intro pins s σ H x v Q I rx h
 obtain ⟨k,e,q⟩:=h
 have hl:=line63
 have hs:Yu=16777216:=YS
 cases x with
 | non=>
  cases rx
  have e':k=false:=e
  subst e'
  exact truthy_none ⟨H,I,q⟩
 | bl b=>
  cases rx
  have e':k=b:=e
  subst e'
  exact wpAny_truthy_bool ⟨H,I,q⟩
 | int i=>
  sleep 11
  have e':k=(i != 0):=e
  subst e'
  exact PySem.P.truthy_int ⟨H,I,q⟩
 | str y=>
  sleep 11
  obtain ⟨hy,e'⟩:y.length<=Yu/\k=((y.length:Int) != 0):=e
  subst e'
  exact PySem.P.truthy_str 1e2 ⟨H,I.tok _,q⟩
 | byt y=>
  sleep 11
  obtain ⟨hy,e'⟩:y.size<=Yu/\k=((y.size:Int) != 0):=e
  subst e'
  exact W.truthy_bytes 1e2 ⟨H,I.tok _,q⟩
 | ref p=>
  cases rx
  have e':(∃xs,SqL X.K H p xs/\k=!xs.isEmpty)\/(∃xs,SqT X.K H p xs/\k=!xs.isEmpty)\/∃kvs,H p=some (.dK kvs)/\k=!kvs.isEmpty:=e
  rcases e' with ⟨xs,hx,e'⟩ | ⟨xs,hx,e'⟩ | ⟨kvs,hx,e'⟩
  ·subst e'
   obtain ⟨its,r,pl,hz⟩:=I.list hx
   have hlen:=r.length
   exact wpAny_truthy_list pl.isList (by simp only[Yl];lia) ⟨H,I.tok _,by rw[ZdM r];exact q⟩
  ·subst e'
   obtain ⟨its,r,pl,hz⟩:=I.tuple hx
   have hlen:=r.length
   exact truthy_tuple pl (by simp only[Yl];lia) ⟨H,I.tok _,by rw[ZdM r];exact q⟩
  ·subst e'
   obtain ⟨hz,hS,vs,r,m⟩:kvs.length<=Yu/\(p==Wd)=false/\∃vs,KV kvs vs/\s.heap.DictOf (mixKind X.prog X.w) p vs:=I.hok p _ hx
   have hlen:kvs.length=vs.length:=Vf r
   exact wpAny_truthy_dict hS m 1e2 ⟨H,I.tok _,by rw[isEmpty_kv r];exact q⟩
 | _=>exact (show False from e).elim
theorem pt_truth (ha:PE X a ta)(he:∀whole,isTrue a X.env whole=(do let v ←whole;UT a.pos;Up [v] (truthy v))):
  PT X a (fun σ H Q=>ta σ H fun x H'=>∃k,TruV X.K x H' k/\Q k H'):=by
 sleep 14
 exact isTrue_plain (thn (ha pins s σ H _ I h) fun v s1 ⟨x,H1,I1,r1,q1⟩=>tru_ok pins s1 σ H1 x v Q I1 r1 q1) (he _)
theorem op_add_str:OpR X (WK .Add) (fun x y H Q=>∃i j,x=.str i/\y=.str j/\i.length + j.length<=Yu/\Q (.str (i++j)) H):=by
 sleep 4
 obtain ⟨i,j,rfl,rfl,hz,q⟩:=h
 sleep 11
 obtain ⟨t',rfl⟩:=ry
 exact add_str (fun t' tk=>⟨.str (i++j),H,I.tok _,9e7,q⟩) hz
theorem vals1 {x:V}{us:4e9}(r:Vals [x] us):∃u,us=[u]/\RelV x u:=by
 cases r with
 | cons r1 r2=>cases r2;exact ⟨_,rfl,r1⟩
theorem vals2 {x y:V}{us:4e9}(r:Vals [x,y] us):∃u w',us=[u,w']/\RelV x u/\RelV y w':=by
 cases r with
 | cons r1 r2=>
  cases r2 with
  | cons r3 r4=>cases r4;exact ⟨_,_,rfl,r1,r3⟩
theorem call_max2 (hc:11e5):CallR X (.builtin "max") (fun xs H Q=>∃i j,xs=[.int i,.int j]/\Q (.int (if j > i then j else i)) H):=by
 sleep 21
 obtain ⟨i,j,rfl,q⟩:=h
 obtain ⟨u,w',rfl,⟨t,rfl⟩,⟨t',rfl⟩⟩:=vals2 r
 refine max_two_ints (I.ok.hd hc) fun h' tk k=>⟨_,H,I.kept k,?_,q⟩
 by_cases hj:j > i
 ·rw[if_pos hj,if_pos hj];exact 9e7
 ·rw[if_neg hj,if_neg hj];exact 9e7
theorem call_min2 (hc:11e5):CallR X (.builtin "min") (fun xs H Q=>∃i j,xs=[.int i,.int j]/\Q (.int (if j < i then j else i)) H):=by
 sleep 21
 obtain ⟨i,j,rfl,q⟩:=h
 obtain ⟨u,w',rfl,⟨t,rfl⟩,⟨t',rfl⟩⟩:=vals2 r
 refine min_two_ints (I.ok.hd hc) fun h' tk k=>⟨_,H,I.kept k,?_,q⟩
 by_cases hj:j < i
 ·rw[if_pos hj,if_pos hj];exact 9e7
 ·rw[if_neg hj,if_neg hj];exact 9e7
theorem call_int1:CallR X (.type "int") (fun xs H Q=>(∃i,xs=[.int i]/\Q (.int i) H)\/∃k,xs=[.bl k]/\Q (.int (if k then 1 else 0)) H):=by
 sleep 21
 rcases h with ⟨i,rfl,q⟩ | ⟨k,rfl,q⟩
 ·obtain ⟨u,rfl,t,rfl⟩:=vals1 r
  exact call_int_int ⟨.int i,H,I,9e7,q⟩
 ·obtain ⟨u,rfl,r1⟩:=vals1 r
  cases r1
  exact call_int_bool ⟨.int (if k then 1 else 0),H,I.tok _,9e7,q⟩
def LenV (K:W.Frag)(x:V)(H:Hp)(n:Nat):Prop:=
 match x with
 | .str y=>y.length<=Yu/\n=y.length
 | .byt y=>y.size<=Yu/\n=y.size
 | .ref p=>(∃xs,SqL K H p xs/\n=xs.length)\/∃xs,SqT K H p xs/\n=xs.length
 | _=>False
theorem call_len:CallR X (.builtin "len") (fun xs H Q=>∃x n,xs=[x]/\LenV X.K x H n/\Q (.int n) H):=by
 sleep 21
 obtain ⟨x,n,rfl,e,q⟩:=h
 obtain ⟨u,rfl,rx⟩:=vals1 r
 have hl:=line63
 have hs:Yu=16777216:=YS
 cases x with
 | str y=>
  sleep 11
  obtain ⟨hy,e'⟩:y.length<=Yu/\n=y.length:=e
  subst e'
  exact len_str 1e2 ⟨.int _,H,I.tok _,9e7,q⟩
 | byt y=>
  sleep 11
  obtain ⟨hy,e'⟩:y.size<=Yu/\n=y.size:=e
  subst e'
  exact W.len_bytes 1e2 ⟨.int _,H,I.tok _,9e7,q⟩
 | ref p=>
  cases rx
  have e':(∃xs,SqL X.K H p xs/\n=xs.length)\/∃xs,SqT X.K H p xs/\n=xs.length:=e
  rcases e' with ⟨xs,hx,e'⟩ | ⟨xs,hx,e'⟩
  ·subst e'
   obtain ⟨its,r',pl,hz⟩:=I.list hx
   have hlen:=r'.length
   exact Calls.call_len_list pl.isList (by simp only[Yl];lia) ⟨.int xs.length,H,I.tok _,⟨_,by simp only[Yl];rw[hlen]⟩,q⟩
  ·subst e'
   obtain ⟨its,r',pl,hz⟩:=I.tuple hx
   have hlen:=r'.length
   exact len_tuple pl (by simp only[Yl];lia) ⟨.int xs.length,H,I.tok _,⟨_,by simp only[Yl];rw[hlen]⟩,q⟩
 | _=>exact (show False from e).elim
end
structure ObjM (h:Heap)(x dx C:Addr)(mA:Str->Option Value):Prop where
 obj:h.get? x=some (W.instObj C dx)
 ns:h.Ns1 dx mA
 ne:dx≠x
theorem lookIn_ns {h:Heap}{dx:Addr}{mA:3e3}(n:h.Ns1 dx mA):∃od,h.get? dx=some od/\∀name,W.lookIn name od=some (mA name):=by
 obtain ⟨o,es,ep,ho,hd,hk,_,hm⟩:=n
 refine ⟨o,ho,fun name=>?_⟩
 have e:=hm name
 unfold nsFind findBy at e
 rw[←Array.find?_toList] at e
 unfold W.lookIn
 rw[hd]
 dsimp only
 split
 ·rename_i y q
  rw[q] at e
  exact congrArg some e
 ·rename_i q
  rw[q] at e
  have a:es.toList.any (·.refKey)=false:=by
   rw[List.any_eq_false]
   intro y hy
   obtain ⟨z,t,hkey⟩:=hk y (XY.mp hy)
   simp[DictEntry.refKey,hkey]
  have a':¬es.toList.any (·.refKey)=true:=by rw[a];exact Yv
  rw[if_neg a']
  exact congrArg some e
theorem ObjM.look {h:Heap}{x dx C:Addr}{mA:3e3}(I:ObjM h x dx C mA):∃od,W.InstAt h x (W.instObj C dx) C (some od)/\∀name,W.lookIn name od=some (mA name):=
 let ⟨od,ho,hl⟩:=lookIn_ns I.ns
 ⟨od,⟨I.obj,rfl,rfl,ho⟩,hl⟩
theorem RelO.some_of {v:V}{o:Option Value}(r:RelO (some v) o):∃u,o=some u/\RelV v u:=by
 cases o with
 | none=>exact (show False from r).elim
 | some u=>exact ⟨u,rfl,r⟩
section
variable {P:YD}{w:World}{H H':Hp}{h h':Heap}{a C dx:Addr}{fs fs':List (Str×V)}
theorem ins_get (hok:HOk P w H h)(e:H a=some (.ins C dx fs)):∃mA,ObjM h a dx C mA/\(∀f,RelO (fs.lookup f) (mA f))/\PySem.Within mA (fs.map (·.1))/\fs.length<=1000/\H dx=some (.own a):=by
 obtain ⟨d,z,ne,ob,mA,n,r,q⟩:=(show ObjOk P w H h a (.ins C dx fs) from hok a _ e)
 exact ⟨mA,⟨ob,n,ne⟩,r,q,z,d⟩
end
structure Cls (K:W.Frag)(C:Addr):Prop where
 pg:W.plainGet K C Str.empty=true
 hd:W.hasDictIn K C=true
 po:W.plainOver K C=true
 sa:W.findIn K (.ref C) "__setattr__"=some (some (.builtin "object.__setattr__"))
theorem Cls.get {K:W.Frag}{C:Addr}(c:Cls K C)(f:Str):W.plainGet K C f=true:=c.pg
section
variable {X:Cx}{pins:2e0}{σ:St}{H:Hp}{s:Shared}{A:Around}{E:1e7}{Q:1e7}{c:Value}{b:Bool}
inductive TyOf (K:W.Frag)(H:Hp):V->Value->Prop where
 | non:TyOf K H .non (.type "NoneType")
 | bl (x:Bool):TyOf K H (.bl x) (.type "bool")
 | int (i:Int):TyOf K H (.int i) (.type "int")
 | str (x:Str):TyOf K H (.str x) (.type "str")
 | flt (x:UInt64):TyOf K H (.flt x) (.type "float")
 | lst {a:Addr} {xs:List V} (e:H a=some (.lst xs)):TyOf K H (.ref a) (.type "list")
 | frz {a:Addr} {o:Obj} {xs:List V} (e:H a=some (.frz o (.lst xs))):TyOf K H (.ref a) (.type "list")
 | tup {a:Addr} {xs:List V} (e:H a=some (.tup xs)):TyOf K H (.ref a) (.type "tuple")
 | dK {a:Addr} {kvs:List (Key×V)} (e:H a=some (.dK kvs)):TyOf K H (.ref a) (.type "dict")
 | dT {a:Addr} {kvs:List (List Key×V)} (e:H a=some (.dT kvs)):TyOf K H (.ref a) (.type "dict")
 | ins {a C dx:Addr} {fs:List (Str×V)} (e:H a=some (.ins C dx fs)) (cl:Cls K C) (ha:W.findIn K (.ref C) "__class__"=some (some (.builtin "object.__class__")))
   (hn:W.specialIn K (.builtin "object.__class__") "__get__"=some (some (.builtin "getset_descriptor.__get__"))) (htk:W.takesIn K (.builtin "object.__class__")=some true)
   (hm:W.mroIn K C (.type "object")=some true):TyOf K H (.ref a) (.ref C)
theorem ZbM {x:V}{u t:Value}(I:2e3)(rx:RelV x u)(ty:TyOf X.K H x t)(e:W.kitOne X.K t c=some b)(h:∀tk,Q (.bool b) { s with toks:=tk }):
  wpAny 2e7 A (call (.builtin "isinstance") [u,c]) Q E s:=by
 cases ty with
 | non=>cases (show u=XQ from rx);exact WE W.kitx_none I.kIn WI e (fun z=>nomatch z) h
 | bl y=>cases (show u=Value.bool y from rx);exact WE W.kitx_bool I.kIn WI e (fun z=>nomatch z) h
 | int i=>obtain ⟨t,q⟩:=(show ∃t,u=Value.int i t from rx);cases q;exact WE W.kitx_int I.kIn WI e (fun z=>nomatch z) h
 | str y=>obtain ⟨t,q⟩:=(show ∃t,u=Value.str y t from rx);cases q;exact WE W.kitx_str I.kIn WI e (fun z=>nomatch z) h
 | flt y=>obtain ⟨t,q⟩:=(show ∃t,u=Value.float y t from rx);cases q;exact WE W.kitx_float I.kIn WI e (fun z=>nomatch z) h
 | @lst a xs ea=>
  cases (show u=YE a from rx)
  obtain ⟨_,_,n,_,h1⟩:=(show ObjOk X.prog X.w H s.heap a (.lst xs) from I.hok a _ ea)
  exact WE W.kitx_list I.kIn ⟨_,h1,rfl⟩ e (fun z=>nomatch z) h
 | @frz a ob xs ea=>
  cases (show u=YE a from rx)
  obtain ⟨_,_,_,n,_,h1⟩:=(show ObjOk X.prog X.w H s.heap a (.frz ob (.lst xs)) from I.hok a _ ea)
  exact WE W.kitx_list I.kIn ⟨_,h1,rfl⟩ e (fun z=>nomatch z) h
 | @tup a xs ea=>
  cases (show u=YE a from rx)
  obtain ⟨_,_,_,p⟩:=(show ObjOk X.prog X.w H s.heap a (.tup xs) from I.hok a _ ea)
  obtain ⟨o,h1,h2,_⟩:=p
  exact WE W.kitx_tuple I.kIn ⟨o,h1,h2⟩ e (fun z=>nomatch z) h
 | @dK a kvs ea=>
  cases (show u=YE a from rx)
  obtain ⟨_,_,vs,_,p⟩:=(show ObjOk X.prog X.w H s.heap a (.dK kvs) from I.hok a _ ea)
  obtain ⟨o,es,ep,h1,h2,_⟩:=p
  exact WE W.kitx_dict I.kIn ⟨o,h1,h2.1⟩ e (fun z=>nomatch z) h
 | @dT a kvs ea=>
  cases (show u=YE a from rx)
  obtain ⟨_,_,xs,_,o,es,ep,h1,h2,_⟩:=(show ObjOk X.prog X.w H s.heap a (.dT kvs) from I.hok a _ ea)
  exact WE W.kitx_dict I.kIn ⟨o,h1,h2.1⟩ e (fun z=>nomatch z) h
 | @ins a C dx fs ea cl ha hn htk hm=>
  cases (show u=YE a from rx)
  obtain ⟨mA,O,_⟩:=ins_get I.hok ea
  obtain ⟨od,J,_⟩:=O.look
  exact WE (W.kitx_own (cl.get _) cl.hd ha hn htk hm) I.kIn J e (fun z=>nomatch z) h
end
structure Room (k:Nat)(A:Around):Prop where
 hd:A.handled=none
 dp:A.depth + 3 * k + 5 < recursionLimit
 un:A.units + 16 * k + 200 < cLine
theorem Room.mono {j k:Nat}{A:Around}(r:Room k A)(h:j<=k):Room j A:=⟨r.hd,by have:=r.dp;lia,by have:=r.un;lia⟩
theorem Room.deeper {k:Nat}{A:Around}(r:Room (k + 1) A)(env:Env):Room k (A.deeper env):=
 ⟨r.hd,by have:=r.dp;show A.depth + 1 + 3 * k + 5 < _;lia,by have:=r.un;show A.units + 3 + 16 * k + 200 < _;lia⟩
theorem Room.depth {k:Nat}{A:Around}(r:Room k A):A.depth < recursionLimit:=by have:=r.dp;lia
theorem Room.units {k:Nat}{A:Around}(r:Room k A):A.units + 64 < cLine:=by have:=r.un;lia
def tNil:TA:=fun _ H Q=>Q [] H
def tCons (ta:TE)(tr:TA):TA:=fun σ H Q=>ta σ H fun x H1=>tr σ H1 fun xs H2=>Q (x::xs) H2
section
variable {X:Cx}{e:Expr}{es:6e1}{te:TE}{t:TA}{pos:Pos}
theorem pa_nil:PA X [] tNil:=fun _ _ _ _ H Q I h=>Calls.spliced_nil ⟨[],H,I,.nil,h⟩
theorem pa_cons (ha:PE X e te)(hr:PA X es t)(hs:1e8:=by rfl):PA X 9e1 (tCons te t):=by
 intro pos pins s σ H Q I h
 rw[hs]
 show wpAny _ _ (spliced ((false,eval e X.env)::backTo pos (Yo es X.env))) _ _ s
 refine Calls.spliced_cons (thn (ha pins s σ H _ I h) fun u s1 h_=>?_)
 obtain ⟨x,H1,I1,r1,q1⟩:=h_
 exact thn (hr pos pins s1 σ H1 _ I1 q1) fun us s2 ⟨xs,H2,I2,r2,q2⟩=>⟨x::xs,H2,I2,.cons r1 r2,q2⟩
def tTup (t:TA):TE:=fun σ H Q=>t σ H fun xs H1=>xs.length<=Yu/\∀p,H1 p=none->Q (.ref p) (upd H1 p (.tup xs))
def tLst (t:TA):TE:=fun σ H Q=>t σ H fun xs H1=>xs.length<=Yu/\∀p,H1 p=none->Q (.ref p) (upd H1 p (.lst xs))
theorem pe_tup {x1}(h:PA X es t):PE X (.Tuple es x1 pos) (tTup t):=by
 intro pins s σ H Q I hq
 refine wpAny_Tuple_spliced (thn (h pos pins s σ H _ I hq) fun us s1 ⟨xs,H1,I1,r,z,q⟩=>⟨by rw[←r.length];exact z,?_⟩)
 have hf:H1 s1.heap.objs.size=none:=I1.hok.fresh (Yh _)
 refine ⟨.ref s1.heap.objs.size,upd H1 s1.heap.objs.size (.tup xs),I1.laid (t':=s1.toks) (fun b u e=>Yc _ e) (Yh _) ?_,rfl,q _ hf⟩
 exact ⟨z,us,r,⟨_,Yp _ rfl,rfl,_,rfl⟩⟩
theorem pe_lst (h:PA X es t):PE X (.List es pos) (tLst t):=by
 intro pins s σ H Q I hq
 refine wpAny_List_spliced (thn (h pos pins s σ H _ I hq) fun us s1 ⟨xs,H1,I1,r,z,q⟩=>⟨by rw[←r.length];exact z,?_⟩)
 have hf:H1 s1.heap.objs.size=none:=I1.hok.fresh (Yh _)
 refine ⟨.ref s1.heap.objs.size,upd H1 s1.heap.objs.size (.lst xs),I1.laid (t':=s1.toks) (fun b u e=>Yc _ e) (Yh _) ?_,rfl,q _ hf⟩
 exact ⟨z,us,0,r,Yp _ rfl⟩
end
abbrev Sp:=List V->Hp->VK->XK->Prop
abbrev CXT:=List Env->Hp->Shared->XK->Value->Shared->Prop
structure Env0 (P:YD)(w:World)(K:W.Frag)(mg:Str->Option Value)(base:Heap)(A:Around)(outer:List Env)(s:Shared)(H:Hp):Prop where
 frames:A.frames=some outer
 mod:Mod K mg base
 bs:∀b o,base.get? b=some o->s.heap.get? b=some o/\H b=none
 bsz:base.objs.size<=s.heap.objs.size
 funs:s.heap.FunFrames base outer
 frf:∀b∈frs outer,H b=none
 hok:HOk P w H s.heap
 bare:Um s.gens
def CE (outer:List Env)(P:YD)(w:World)(H:Hp)(s:Shared)(Q:VK)(u:Value)(s':Shared):Prop:=
 ∃v H',s'.os=s.os/\Um s'.gens/\Un (frs outer) [] H H' s.heap s'.heap/\HOk P w H' s'.heap/\RelV v u/\Q v H'
def CR (CX:CXT)(outer:List Env)(P:YD)(w:World)(H:Hp)(s:Shared)(Q:VK)(E:XK)(r:Result)(s':Shared):Prop:=
 match r with
 | .ok (.ret u)=>CE outer P w H s Q u s'
 | .ok _=>False
 | .error e=>CX outer H s E e s'
structure FnOk (P:YD)(w:World)(K:W.Frag)(mg:Str->Option Value)(base:Heap)(CX:CXT)(k:Nat)(f:Addr)(fd:X2)(ps:List Str)(sp:Sp):Prop where
 len:∀vs H Q E,sp vs H Q E->vs.length=ps.length
 run:∀(A:Around) (outer:List Env) (s:Shared) (H:Hp) (args:Args) (us:4e9) (vs:List V) (Q:VK) (E:XK),Room k A->Env0 P w K mg base A outer s H->BindsTo s fd args (ps.zip us)->Vals vs us->sp vs H Q E->
  X3 (model P w) A (.call (.ref f) args) (CR CX outer P w H s Q E) s
theorem FnOk.imp {P:YD}{w:World}{K:W.Frag}{mg:3e3}{base:Heap}{CX:CXT}{k:Nat}{f:Addr}{fd:X2}{ps:5e9}{sp sp':Sp}(F:FnOk P w K mg base CX k f fd ps sp)
  (h:∀vs H Q E,sp' vs H Q E->sp vs H Q E):FnOk P w K mg base CX k f fd ps sp':=
 ⟨fun vs H Q E q=>F.len vs H Q E (h _ _ _ _ q),fun A outer s H args us vs Q E hr he hb hv hs=>F.run A outer s H args us vs Q E hr he hb hv (h _ _ _ _ hs)⟩
section
variable {X:Cx}{pins:2e0}{σ:St}{H:Hp}{s s':Shared}
theorem Inv.env0 (I:2e3):Env0 X.prog X.w X.K X.mg X.base X.A X.stack s H:=
 ⟨I.ok.frames,I.ok.mod,I.bs,YQ I.ok.bsz I.sz,I.stack,I.stkFree,I.hok,I.bare⟩
theorem Inv.after {Q:VK}{u:Value}(I:2e3)(h:CE X.stack X.prog X.w H s Q u s'):EP X pins σ Q u s':=by
 obtain ⟨v,H',os,bare,un,hok,r,q⟩:=h
 obtain ⟨hh,g,d,t,os'⟩:=s'
 obtain rfl:os'=s.os:=os
 exact ⟨v,H',I.call (h':=hh) (g':=g) (d':=d) (t':=t) (ch:=[]) un hok bare (fun b z=>absurd z 4e6),r,q⟩
end
def tCall (sp:Sp)(dvs:List V)(E:XK)(t:TA):TE:=fun σ H Q=>t σ H fun vs H1=>sp (vs++dvs) H1 Q E
def Binds (K:W.Frag)(fd:X2)(ps:5e9)(ds:4e9):Prop:=
 ∀(s:Shared) (us:4e9),K.In s.heap->(us++ds).length=ps.length->BindsTo s fd ⟨us,[]⟩ (ps.zip (us++ds))
theorem Binds.all {K:W.Frag}{fd:X2}{ps:5e9}(h:∀us:List Value,us.length=ps.length->bindArgs fd ⟨us,[]⟩=pure (ps.zip us)):Binds K fd ps []:=fun s us _ hl=>by
 rw[YJ] at hl ⊢
 exact .of_eq (h us hl)
def Passes (CX:CXT)(X:Cx)(E:XK):Prop:=∀(pins:2e0) (σ:St) (H:Hp) (s:Shared) (e:Value) (s':Shared),Inv X pins σ H s->CX X.stack H s E e s'->X.xe e s'
section
variable {X:Cx}{CX:CXT}{k:Nat}{f C:Addr}{fd:X2}{ps:5e9}{sp:Sp}{dvs:List V}{ds:4e9}{E:XK}{x m:Str}{p pos apos:Pos}{e o:Expr}{es:6e1}{ta:TE}{t:TA}
theorem run_fn {pins:2e0}{σ:St}{H:Hp}{s:Shared}{Q:VK}{us:4e9}{vs:List V}(F:FnOk X.prog X.w X.K X.mg X.base CX k f fd ps sp)(hr:Room k X.A)(hb:Binds X.K fd ps ds)(hd:Vals dvs ds)(hx:Passes CX X E)
  (I:2e3) (r:Vals vs us) (h:sp (vs++dvs) H Q E):wpAny 2e7 X.A (call (.ref f) us) 18e5 X.xe s:=by
 have r2:Vals (vs++dvs) (us++ds):=r.append hd
 have hl:(us++ds).length=ps.length:=by rw[←r2.length];exact F.len _ _ _ _ h
 refine wpAny_call (Uq (F.run X.A X.stack s H ⟨us,[]⟩ (us++ds) (vs++dvs) Q E hr I.env0 (hb s us I.kIn hl) r2 h) fun r s' hq=>?_)
 cases r with
 | error e=>exact hx pins σ H s e s' I hq
 | ok fl=>
  cases fl with
  | ret u=>exact I.after hq
  | next=>exact WH hq
  | brk=>exact WH hq
  | cont=>exact WH hq
theorem pe_call (F:FnOk X.prog X.w X.K X.mg X.base CX k f fd ps sp)(hr:Room k X.A)(hg:Gl X x)(hm:X.mg x=some (.ref f))(hk:VX X.K (.ref f)=true)(hb:Binds X.K fd ps ds)(hd:Vals dvs ds)(hx:Passes CX X E)
  (ha:PA X 9e1 t) (hdb:5e5:=by decide) (he:1e8:=by rfl) (hpl:3e1:=by rfl):
  PE X 7e0 (tCall sp dvs E t):=by
 sleep 14
 refine Vj (ld_glob I hg hm ?_ hdb)
 refine W.callWith_K (h₀:=X.base) I.ok.mod.kin hk (thn (ha pos pins s σ H _ I h) fun us s1 ⟨vs,H1,I1,r,q⟩=>⟨I1.kIn,?_⟩) he hpl
 exact run_fn F hr hb hd hx I1 r q
structure Mk (K:W.Frag)(C f:Addr):Prop where
 makes:W.makesIn K C=true
 init:W.findIn K (.ref C) "__init__"=some (some (.ref f))
 fn:W.isFn K (.ref f)=true
 kp:VX K (.ref C)=true
end
structure FnScope (N P:List Str)(sc:Scope):Prop where
 kind:sc.kind=.function
 co:sc.isCoroutine=false
 gen:sc.isGenerator=false
 nd:N.Nodup
 pre:N.take P.length=P
 par:∀x∈P,sc.names.lookup x=some .local\/sc.names.lookup x=some .cell
 nofree:∀y∈sc.names,y.2≠.free
theorem bindL_out {kindOf:Str->Option Vk}{x:Str}:∀{binds:List (Str×Value)} {m:3e3},(∀v,(x,v)∉binds)->bindL kindOf binds m x=m x
  | [],_,_=>rfl
  | (n,v)::r,m,h=>by
    unfold bindL
    rw[bindL_out fun w hw=>h w (YR _ hw)]
    split
    · have:x≠n:=by rintro rfl;exact h v YM
      simp[this]
    · rfl
theorem bindC_out {kindOf:Str->Option Vk}{x:Str}:∀{binds:List (Str×Value)} {m:3e3},(∀v,(x,v)∉binds)->bindC kindOf binds m x=m x
  | [],_,_=>rfl
  | (n,v)::r,m,h=>by
    unfold bindC
    rw[bindC_out fun w hw=>h w (YR _ hw)]
    split
    · rfl
    · have:x≠n:=by rintro rfl;exact h v YM
      simp[this]
theorem bindL_get {kindOf:Str->Option Vk}{x:Str}{v:Value}:∀{P:5e9} {vs:4e9} {i:Nat} {m:3e3},P.Nodup->P[i]? = some x->vs[i]? = some v->kindOf x=some .local->
  bindL kindOf (P.zip vs) m x=some v
 | [],_,_,_,_,h,_,_=>by simp at h
 | _::_,[],_,_,_,_,h,_=>by simp at h
 | p::P,w::vs,0,m,nd,h1,h2,hk=>by
  simp at h1 h2;subst h1;subst h2
  show bindL kindOf ((p,w)::P.zip vs) m p=_
  unfold bindL
  rw[bindL_out fun v hv=>(Xm.mp nd).1 (Ur hv).1,if_pos hk]
  simp
 | p::P,w::vs,i + 1,m,nd,h1,h2,hk=>by
  show bindL kindOf ((p,w)::P.zip vs) m x=_
  unfold bindL
  exact bindL_get (i:=i) (Xm.mp nd).2 (by simpa using h1) (by simpa using h2) hk
theorem bindC_get {kindOf:Str->Option Vk}{x:Str}{v:Value}:∀{P:5e9} {vs:4e9} {i:Nat} {m:3e3},P.Nodup->P[i]? = some x->vs[i]? = some v->kindOf x≠some .local->
  bindC kindOf (P.zip vs) m x=some v
 | [],_,_,_,_,h,_,_=>by simp at h
 | _::_,[],_,_,_,_,h,_=>by simp at h
 | p::P,w::vs,0,m,nd,h1,h2,hk=>by
  simp at h1 h2;subst h1;subst h2
  show bindC kindOf ((p,w)::P.zip vs) m p=_
  unfold bindC
  rw[bindC_out fun v hv=>(Xm.mp nd).1 (Ur hv).1,if_neg hk]
  simp
 | p::P,w::vs,i + 1,m,nd,h1,h2,hk=>by
  show bindC kindOf ((p,w)::P.zip vs) m x=_
  unfold bindC
  exact bindC_get (i:=i) (Xm.mp nd).2 (by simpa using h1) (by simpa using h2) hk
def start (N:5e9)(vs:List V):St:=vs.map some++Y9 (N.length - vs.length) none
def cxOf (CX:CXT)(P:YD)(w:World)(K:W.Frag)(mg:3e3)(base:Heap)(N:5e9)(qual:Str)(scope:Scope)(f:Addr)(cd:Value)(A:Around)(outer:List Env)(s:Shared)(H:Hp)(E:XK):Cx where
 prog:=P
 w:=w
 K:=K
 mg:=mg
 base:=base
 A:=A.deeper (envOfC qual scope s.heap.objs.size f cd)
 N:=N
 s₀:=s
 H₀:=H
 env:=envOfC qual scope s.heap.objs.size f cd
 outer:=outer
 stack:=envOfC qual scope s.heap.objs.size f cd::outer
 ex:=[]
 calm:=true
 fn:=fun _=>true
 pn:=[]
 xe:=fun e s'=>wpAny (model P w) (A.deeper (envOfC qual scope s.heap.objs.size f cd)) (leaving (envOfC qual scope s.heap.objs.size f cd) e) (fun _ s''=>CX outer H s E e s'') (fun e' s''=>CX outer H s E e' s'') s'
theorem cell_has {sc:Scope}{n:Nat}{x:Str}(h:sc.names.lookup x=some .cell):∃c,(cellsFrom n sc.names []).lookup x=some c:=by
 have q:=W.cellsFrom_some sc.names n [] (.inl h)
 exact Vb.mp q
theorem inv_start {CX:CXT}{P:YD}{w:World}{K:W.Frag}{mg:3e3}{base:Heap}{N ps:5e9}{qual:Str}{scope:Scope}{f:Addr}{cd:Value}{A:Around}{outer:List Env}{s s1:Shared}{H:Hp}{E:XK}{us:4e9}{vs:List V}
  (S:FnScope N ps scope) (hd:18e6) (e0:Env0 P w K mg base A outer s H) (hl:vs.length=ps.length) (r:Vals vs us)
  (x:InCallC s s.heap.objs.size (bindL (envOfC qual scope s.heap.objs.size f cd).kindOf (ps.zip us) fun _=>none) (cellsFrom (s.heap.objs.size + 1) scope.names []) (bindC (envOfC qual scope s.heap.objs.size f cd).kindOf (ps.zip us) fun _=>none) s1):
  Inv (cxOf CX P w K mg base N qual scope f cd A outer s H E) [] (start N vs) H s1:=by
 have hpl:ps.length<=N.length:=by have:=congrArg List.length S.pre;rw[Xl] at this;lia
 obtain ⟨h1,tk,rfl,hk⟩:=x.done
 have noA:∀b:Addr,b∉(cxOf CX P w K mg base N qual scope f cd A outer s H E).ex:=fun b z=>absurd (show b∈([]:List Addr) from z) 4e6
 refine ⟨⟨e0.mod,S.kind,rfl,rfl,Yh _,fun y z c h1 h2=>?_,fun y hy=>?_,fun y c _ h=>?_,fun _=>hd,Around.frames_deeper e0.frames,.inr ⟨rfl,rfl⟩,fun b z=>absurd z (noA b),e0.bs,e0.bsz,fun b _ _=>noA b,fun b z=>absurd z (noA b),e0.funs,e0.frf⟩,
  rfl,e0.bare,Un.kept hk,⟨_,x.toInCall.ns,fun i y v h1 h2 h3=>?_⟩,fun y c h=>⟨_,x.cell y c h⟩,e0.hok.fresh (Yh _),fun y c h=>?_,fun p hp=>absurd (show p∈([]:List (Addr×Obj)) from hp) (by simp),e0.hok.kept hk,?_⟩
 ·exact name_of_addr x.apart (Wy h1) (Wy h2)
 ·have hy:scope.names.lookup y=some .cell\/scope.names.lookup y=some .free:=hy
  rcases hy with hy | hy
  ·exact cell_has hy
  ·exact absurd rfl (S.nofree _ (Wy hy))
 ·exact Xv (x.above y c (Wy h))
 ·have hi:i < vs.length:=by
   unfold start at h2
   by_cases hi:i < vs.length
   ·exact hi
   ·rw[Y8 (by simpa using hi)] at h2
    rw[List.getElem?_replicate] at h2
    split at h2<;>cases h2
  have ha:vs[i]? = some v:=by
   unfold start at h2
   rw[Yf (by simpa using hi),YL] at h2
   cases e:vs[i]? with
   | none=>rw[e] at h2;cases h2
   | some a=>rw[e] at h2;cases h2;rfl
  obtain ⟨u,hu,rv⟩:=r.get ha
  have hp:ps[i]? = some y:=by
   rw[←S.pre,Xb 1e2];exact h1
  have ndP:ps.Nodup:=by rw[←S.pre];exact S.nd.sublist (List.take_sublist _ _)
  refine ⟨u,rv,?_⟩
  rcases S.par y (YK hp) with k | k
  ·exact .inl ⟨k,bindL_get ndP hp hu k⟩
  ·obtain ⟨c,e⟩:=cell_has (n:=s.heap.objs.size + 1) k
   refine .inr ⟨.inl k,c,e,?_⟩
   have q:=x.cell y c e
   rw[bindC_get ndP hp hu (by show scope.names.lookup y≠_;rw[k];decide)] at q
   exact q
 ·exact e0.hok.fresh (Xv (x.above y c (Wy h)))
 ·unfold start
  show _=N.length
  rw[Xa,YA,List.length_replicate]
  lia
theorem fn_of {CX:CXT}{P:YD}{w:World}{K:W.Frag}{mg:3e3}{base:Heap}{k:Nat}{f:Addr}{name qual:Str}{params:Arguments}{body:List Stmt}{scope:Scope}{dV kV doc pm cdv ct oc:Value}{an od:Option Addr}
  {osl:Array (Option Value)} {N ps:5e9} {sp:Sp} (lk:K.lookup f=some ⟨oc,od,.func (W.fnOf name qual params body scope dV kV doc pm an cdv ct),osl⟩) (hcd:W.codeIn K cdv qual=true) (S:FnScope N ps scope)
  (len:∀vs H Q E,sp vs H Q E->vs.length=ps.length)
  (hbody:∀(A:Around) (outer:List Env) (s:Shared) (H:Hp) (vs:List V) (Q:VK) (E:XK),Room k (A.deeper (envOfC qual scope s.heap.objs.size f cdv))->sp vs H Q E->
   ∃t,PSs (cxOf CX P w K mg base N qual scope f cdv A outer s H E) body t/\t { nx:=fun _ H'=>Q .non H',rt:=Q } (start N vs) H):
  FnOk P w K mg base CX (k + 1) f (W.fnOf name qual params body scope dV kV doc pm an cdv ct) ps sp:=by
 refine ⟨len,fun A outer s H args us vs Q E hr e0 hb r hsp=>?_⟩
 have hl:=len _ _ _ _ hsp
 have KX:K.In s.heap:=e0.mod.kin.keeps fun b o e=>(e0.bs b o e).1
 have lim:s.heap.NoLimit:=e0.mod.nolimit.keeps fun b o e=>(e0.bs b o e).1
 have hkind:∀y∈ps.zip us,scope.names.lookup y.1=some .local\/(scope.names.lookup y.1=some .cell/\((cellsFrom (s.heap.objs.size + 1) scope.names []).lookup y.1).isSome=true):=fun ⟨n,v⟩ hy=>by
  rcases S.par n (Ur hy).1 with q | q
  ·exact .inl q
  ·exact .inr ⟨q,W.cellsFrom_some _ _ _ (.inl q)⟩
 refine codeAny_call_function hr.depth (KX _ _ lk) rfl S.co S.gen rfl (W.codeRec_of KX hcd) (hb _ _ _ _ ?_)
 refine wpAny_newFunctionEnv_cells S.kind hkind fun env he s1 x=>?_
 subst he
 refine ⟨lim.keeps x.toInCall.keep,codeAny_func ?_⟩
 obtain ⟨t,ht,hq⟩:=hbody A outer s H vs Q E (hr.deeper _) hsp
 have I:Inv (cxOf CX P w K mg base N qual scope f cdv A outer s H E) [] (start N vs) H s1:=inv_start S hr.hd e0 hl r x
 refine Y1 (ht [] s1 (start N vs) H _ I hq) (fun fl s' hs=>?_) fun e s' hs=>hs
 have fin:∀{σ':St} {H':Hp} {v:V} {u:Value},Inv (cxOf CX P w K mg base N qual scope f cdv A outer s H E) [] σ' H' s'->RelV v u->Q v H'->CE outer P w H s Q u s':=
  fun {σ' H' v u} J rv q=>⟨v,H',J.os,J.bare,J.base,J.hok,rv,q⟩
 cases fl with
 | ret u=>
  obtain ⟨v,σ',H',J,rv,q⟩:=hs
  exact fin J rv q
 | next=>
  obtain ⟨σ',H',J,q⟩:=hs
  exact fin (v:=V.non) (u:=XQ) J rfl q
 | brk=>
  obtain ⟨_,_,_,q⟩:=hs
  exact WH q
 | cont=>
  obtain ⟨_,_,_,q⟩:=hs
  exact WH q
section
variable {X:Cx}{x:Str}{p pos:Pos}{e:Expr}{es:6e1}{t:TA}{id T:String}{r:14e3}
def tCB (r:14e3)(t:TA):TE:=fun σ H Q=>t σ H fun vs H1=>r vs H1 Q
theorem pe_callB (hc:CallR X (.builtin id) r)(hg:Gl X x)(hm:X.mg x=none)(hv:Xo x=some (.builtin id))(ha:PA X 9e1 t)(hn:x≠"__name__":=by decide)(hdb:5e5:=by decide)
  (he:1e8:=by rfl) (hpl:3e1:=by rfl):PE X 7e0 (tCB r t):=by
 sleep 14
 refine Vj (Zdf I hg hm hv ?_ hn hdb)
 exact Vx (thn (ha pos pins s σ H _ I h) fun us s1 ⟨vs,H1,I1,r1,q1⟩=>hc pins s1 σ H1 vs us Q I1 r1 q1) he hpl
theorem pe_callTy (hc:CallR X (.type T) r)(hg:Gl X x)(hm:X.mg x=none)(hv:Xo x=some (.type T))(ha:PA X 9e1 t)(hn:x≠"__name__":=by decide)(hdb:5e5:=by decide)
  (he:1e8:=by rfl) (hpl:3e1:=by rfl):PE X 7e0 (tCB r t):=by
 sleep 14
 refine Vj (Zdf I hg hm hv ?_ hn hdb)
 exact X7 (thn (ha pos pins s σ H _ I h) fun us s1 ⟨vs,H1,I1,r1,q1⟩=>hc pins s1 σ H1 vs us Q I1 r1 q1) he hpl
end
end L2
namespace HT
open PySem PyProof.Rows
section
variable {prog:YD}{w:World}{A:Around}{E:1e7}{s:Shared}
theorem cat_tup {t b:Addr}{vs ws:4e9}{Q:1e7}(ht:IsTup s.heap t vs.toArray)(hb:IsTup s.heap b ws.toArray)(hv:vs≠[])
  (h1:ws=[]->Q (.ref t) s) (h2:ws≠[]->Q 10e1 { s with heap:=s.heap.push { cls:=.type "tuple",data:=.seq (vs++ws).toArray } })
  (hsz:vs.length + ws.length<=Yu):wpAny 3e2 A (WK .Add (.ref t) (.ref b)) Q E s:=by
 obtain ⟨⟨cls,dd,data,sl⟩,ho,hc,n,hd⟩:=id ht
 obtain ⟨⟨cls2,dd2,data2,sl2⟩,ho2,hc2,n2,hd2⟩:=id hb
 simp only at hc hd hc2 hd2
 subst hc hd hc2 hd2
 have e:vs.toArray++ws.toArray=(vs++ws).toArray:=by simp
 by_cases hw:ws=[]
 ·exact Us ⟨_,ho,rfl⟩ ⟨_,ho2,rfl⟩ Uj seq_tuple_add Vq Vl (Vc _ _)
   (tuple_addW1 t b vs.toArray ws.toArray n n2 dd dd2 sl sl2 (by simpa using hv) (by simp[hw])) ⟨ho,ho2,h1 hw⟩
 ·refine Us ⟨_,ho,rfl⟩ ⟨_,ho2,rfl⟩ Uj seq_tuple_add Vq Vl (Vc _ _)
   (tuple_addW2 t b vs.toArray ws.toArray n n2 dd dd2 sl sl2 (by simpa using hv) (by simpa using hw) (by rw[Yl,Yl];exact hsz)) ⟨ho,ho2,?_⟩
  rw[e]
  exact h2 hw
def sIx (n d:Nat):Option Int->Nat
 | none=>d
 | some v=>if v < 0 then (v + (n:Int)).toNat else min v.toNat n
theorem sIx_none (n d:Nat):sIx n d none=d:=rfl
theorem sIx_nat (n d k:Nat):sIx n d (some (k:Int))=min k n:=by
 show (if (k:Int) < 0 then ((k:Int) + (n:Int)).toNat else min (k:Int).toNat n)=min k n
 rw[if_neg 1e2,Xy]
theorem sIx_le (n d:Nat)(hd:d<=n)(o:Option Int):sIx n d o<=n:=by
 cases o with
 | none=>exact hd
 | some v=>
  show (if v < 0 then (v + (n:Int)).toNat else min v.toNat n)<=n
  by_cases hv:v < 0
  ·rw[if_pos hv];lia
  ·rw[if_neg hv];exact Nat.min_le_right _ _
theorem clip_eq (v:Int)(n d:Nat):(if v < 0 then max (v + (n:Int)) 0 else min v (n:Int))=((sIx n d (some v):Nat):Int):=by
 show (if v < 0 then max (v + (n:Int)) 0 else min v (n:Int))=(((if v < 0 then (v + (n:Int)).toNat else min v.toNat n):Nat):Int)
 by_cases hv:v < 0
 ·simp only[if_pos hv];lia
 ·simp only[if_neg hv];lia
theorem adjust_gen (lo hi:Option Int)(n:Nat):W4 lo hi 1 (n:Int)=(((sIx n 0 lo:Nat):Int),((sIx n n hi:Nat):Int)):=by
 have h1:¬((1:Int) < 0):=by lia
 unfold W4
 simp only[h1,if_false]
 refine Prod.ext ?_ ?_
 ·cases lo with
  | none=>rfl
  | some v=>exact clip_eq v n 0
 ·cases hi with
  | none=>rfl
  | some v=>exact clip_eq v n n
theorem places_gen (i j:Nat):Wm (i:Int) (j:Int) 1=j - i:=by
 unfold Wm
 have h1:(1:Int) > 0:=by lia
 simp only[h1,if_true,Int.ediv_one]
 split<;>lia
theorem slicePart_ {v:Value}{o:Option Int}{Q:Option Int->Shared->Prop}(p:IsPart v o)(h:Q o s):wpAny 3e2 A (Builtin.Slice.slicePartIndex v) Q E s:=by
 cases p with
 | none=>exact slicePart_none h
 | int i t=>exact slicePart_int h
theorem sliceApplied_gen {sl:Addr}{vl vu:Value}{lo hi:Option Int}{n:Nat}{Q:Int×Int×Nat->Shared->Prop}(hs:s.heap.IsSliceOf sl vl vu .none)(pl:IsPart vl lo)(pu:IsPart vu hi)
  (h:Q (((sIx n 0 lo:Nat):Int),1,sIx n n hi - sIx n 0 lo) s):wpAny 3e2 A (VR (.ref sl) (pure (n:Int))) Q E s:=by
 obtain ⟨os,hos,hcs,hds⟩:=id hs
 unfold VR Builtin.Slice.sliceFields
 refine Ya (Ya (wpAny_field hos hds (x:=vl) rfl (Ya (wpAny_field hos hds (x:=vu) rfl (Ya (wpAny_field hos hds (x:=.none) rfl (Yd ?_)))))))
 refine Ya (slicePart_none ?_)
 show wpAny _ _ (if ((1:Int)==0)=true then _ else _) _ _ s
 rw[if_neg 1e6]
 refine Ya (slicePart_ pl (Ya (slicePart_ pu (Ya (Yd ?_)))))
 show wpAny _ _ (match W4 lo hi 1 (n:Int) with | (lo,hi)=>pure (lo,(1:Int),Wm lo hi 1)) _ _ s
 rw[adjust_gen lo hi n]
 show wpAny _ _ (pure (((sIx n 0 lo:Nat):Int),(1:Int),Wm ((sIx n 0 lo:Nat):Int) ((sIx n n hi:Nat):Int) 1)) _ _ s
 rw[places_gen]
 exact Yd h
theorem pick_gen (xs:Array Value)(i k:Nat):((Yi k).filterMap fun (m:Nat)=>xs[((i:Int) + (m:Int) * 1).toNat]?).toArray=((xs.toList.drop i).take k).toArray:=by
 have e:(fun (m:Nat)=>xs[((i:Int) + (m:Int) * 1).toNat]?)=fun m=>xs[i + m]?:=by
  funext m
  have:((i:Int) + (m:Int) * 1).toNat=i + m:=by lia
  rw[this]
 rw[e]
 have:=pick_run xs i k
 rw[List.filterMap_map] at this
 have e2:((fun x=>xs[x]?) ∘ fun x=>i + x)=fun m=>xs[i + m]?:=rfl
 rw[e2] at this
 rw[this]
theorem getItem_tuple_cut {t sl:Addr}{items:Array Value}{vl vu:Value}{lo hi:Option Int}{Q:1e7}(ht:IsTup s.heap t items)(hs:s.heap.IsSliceOf sl vl vu .none)(pl:IsPart vl lo)(pu:IsPart vu hi)
  (hw:¬(sIx items.size 0 lo=0/\sIx items.size items.size hi=items.size))
  (h:Q 10e1 { s with heap:=s.heap.push { cls:=.type "tuple",data:=.seq ((items.toList.drop (sIx items.size 0 lo)).take (sIx items.size items.size hi - sIx items.size 0 lo)).toArray } })
  (hsz:items.size<=Yu):wpAny 3e2 A (UI (.ref t) (.ref sl)) Q E s:=by
 have htake:sizeOk (.seq ((items.toList.drop (sIx items.size 0 lo)).take (sIx items.size items.size hi - sIx items.size 0 lo)).toArray):=by
  show ((items.toList.drop (sIx items.size 0 lo)).take (sIx items.size items.size hi - sIx items.size 0 lo)).toArray.size<=Yu
  rw[Yl,Xl,Vz,YH]
  lia
 have hj:sIx items.size items.size hi<=items.size:=sIx_le _ _ (Yh _) hi
 obtain ⟨os,hos,hcs,hds⟩:=id hs
 have hTs:s.TypeIs (.ref sl) "slice":=⟨os,hos,hcs⟩
 unfold UI
 try with_reducible refine Xk ?_
 first | refine Ya (Yd ?_) | skip
 refine Ya (wpAny_sequenceKey ht.typeIs 1e6 ?_)
 refine Ya (Xz (name:=WQ "__getitem__") ht.typeIs Xn
  (Xc Xn ht.typeIs entry_tuple_getitem ?_ (args_tuple_getitem _ _)))
 show wpAny _ _ (VT (.ref t) >>= _) _ _ s
 refine Ya (tupleItemsOf_ ht ?_)
 refine Ya (Vd hTs ?_)
 rw[if_pos 1e6]
 refine Ya (sliceApplied_gen hs pl pu ?_)
 have hno:¬((((sIx items.size 0 lo:Nat):Int)==0&&(1:Int)==1&&(sIx items.size items.size hi - sIx items.size 0 lo)==items.size)=true):=by
  intro q
  rw[Yt,Yt] at q
  have q1:((sIx items.size 0 lo:Nat):Int)=0:=eq_of_beq q.1.1
  have q2:sIx items.size items.size hi - sIx items.size 0 lo=items.size:=eq_of_beq q.2
  exact hw ⟨by lia,by lia⟩
 show wpAny _ _ (if (((sIx items.size 0 lo:Nat):Int)==0&&(1:Int)==1&&(sIx items.size items.size hi - sIx items.size 0 lo)==items.size)=true then _ else _) _ _ s
 rw[if_neg hno,pick_gen]
 first
  | exact Ya (m:=Wq _) (XA (Yd ⟨_,rfl,Yd h⟩) htake)
  | exact Ya (m:=Wq _) (XA (Ya (Yd (Yd ⟨_,rfl,Yd h⟩))) htake)
  | exact Ya (Ya (m:=Wq _) (XA (Yd (Yd ⟨_,rfl,Yd h⟩)) htake))
  | exact Ya (Ya (m:=Wq _) (XA (Yd ⟨_,rfl,Yd h⟩) htake))
end
end HT
namespace L2
open PySem PySem.Spec PyProof.Rows
abbrev TO:=St->Hp->(Option Int->Hp->Prop)->Prop
def PO (X:Cx)(e:Option Expr)(t:TO):Prop:=
 ∀(pins:2e0) (s:Shared) (σ:St) (H:Hp) (Q:Option Int->Hp->Prop),Inv X pins σ H s->t σ H Q->
  wpAny 2e7 X.A (evalPart e X.env) (fun u s'=>∃o H',Inv X pins σ H' s'/\IsPart u o/\Q o H') X.xe s
def tNoPart:TO:=fun _ H Q=>Q none H
def tPart (t:TE):TO:=fun σ H Q=>t σ H fun x H1=>∃i,x=.int i/\Q (some i) H1
section
variable {X:Cx}{e:Expr}{te:TE}{lo hi:Option Expr}{tl th:TO}{pos p2:Pos}
theorem po_none:PO X none tNoPart:=by
 sleep 14
 rw[evalPart_none]
 exact Yd ⟨none,H,I,.none,h⟩
theorem po_some (h:PE X e te):PO X (some e) (tPart te):=by
 intro pins s σ H Q I hw
 rw[evalPart_some]
 refine thn (h pins s σ H _ I hw) fun u s1 h_=>?_
 obtain ⟨x,H1,I1,r1,q1⟩:=h_
 obtain ⟨i,rfl,q⟩:=q1
 obtain ⟨t,rfl⟩:=r1
 exact ⟨some i,H1,I1,.int i t,q⟩
def SlR (X:Cx)(r:V->Option Int->Option Int->Hp->VK->Prop):Prop:=
 ∀(pins:2e0) (s:Shared) (σ:St) (H:Hp) (x:V) (v vl vu:Value) (lo hi:Option Int) (sl:Addr) (Q:VK),Inv X pins σ H s->RelV x v->s.heap.IsSliceOf sl vl vu .none->IsPart vl lo->IsPart vu hi->r x lo hi H Q->
  ∃T id,typeLookup (.type T) "__getitem__"=pure (some (.builtin id))/\s.TypeIs v T/\wpAny 2e7 X.A (UI v (.ref sl)) 18e5 X.xe s
theorem SlR.or {r r':V->Option Int->Option Int->Hp->VK->Prop}(h:SlR X r)(h':SlR X r'):SlR X (fun x lo hi H Q=>r x lo hi H Q\/r' x lo hi H Q):=by
 intro pins s σ H x v vl vu lo hi sl Q I rx hs pl pu q
 rcases q with q | q
 ·exact h pins s σ H x v vl vu lo hi sl Q I rx hs pl pu q
 ·exact h' pins s σ H x v vl vu lo hi sl Q I rx hs pl pu q
def tSl (r:V->Option Int->Option Int->Hp->VK->Prop)(te:TE)(tl th:TO):TE:=fun σ H Q=>te σ H fun x H1=>tl σ H1 fun l H2=>th σ H2 fun u H3=>r x l u H3 Q
theorem pe_slice {r:V->Option Int->Option Int->Hp->VK->Prop}(hr:SlR X r)(he:PE X e te)(hl:PO X lo tl)(hu:PO X hi th):PE X (.Subscript e (.Slice lo hi none p2) pos) (tSl r te tl th):=by
 sleep 14
 refine Subscript_ (thn (he pins s σ H _ I h) fun v s1 h_=>?_)
 obtain ⟨x,H1,I1,r1,q1⟩:=h_
 refine wpAny_Slice (thn (hl pins s1 σ H1 _ I1 q1) fun vl s2 ⟨l,H2,I2,pl,q2⟩=>thn (hu pins s2 σ H2 _ I2 q2) fun vu s3 h_=>?_)
 obtain ⟨u,H3,I3,pu,q3⟩:=h_
 rw[evalPart_none]
 refine Yd ?_
 have I4:Inv X pins σ H3 { s3 with heap:=s3.heap.push { cls:=.type "slice",data:=.fields #[vl,vu,.none] } }:=I3.kept (t':=s3.toks) fun b ob q=>Yc _ q
 obtain ⟨T,id,hT,ht,hg⟩:=hr pins { s3 with heap:=s3.heap.push { cls:=.type "slice",data:=.fields #[vl,vu,.none] } } σ H3 x v vl vu l u s3.heap.objs.size Q I4 r1 (Heap.IsSliceOf.new ..) pl pu q3
 show wpAny 2e7 X.A (subscriptTail e (.Slice lo hi none p2) v (.ref s3.heap.objs.size)) 18e5 X.xe { s3 with heap:=s3.heap.push { cls:=.type "slice",data:=.fields #[vl,vu,.none] } }
 exact tail_any (ops:=[.ref s3.heap.objs.size,v]) ht hT hg (by with_unfolding_all rfl)
def cutV (xs:List V)(lo hi:Option Int):List V:=(xs.drop (HT.sIx xs.length 0 lo)).take (HT.sIx xs.length xs.length hi - HT.sIx xs.length 0 lo)
theorem Zdq (xs:List V)(lo hi:Option Int):(cutV xs lo hi).length<=xs.length:=by
 unfold cutV
 rw[Xl,Vz]
 lia
def rSlT (K:W.Frag):V->Option Int->Option Int->Hp->VK->Prop:=fun x lo hi H Q=>∃a xs,x=.ref a/\SqT K H a xs/\
 ¬(HT.sIx xs.length 0 lo=0/\HT.sIx xs.length xs.length hi=xs.length)/\∀p,H p=none->Q (.ref p) (upd H p (.tup (cutV xs lo hi)))
theorem sl_tup:SlR X (rSlT X.K):=by
 intro pins s σ H x v vl vu lo hi sl Q I rx hs pl pu h
 obtain ⟨a,xs,rfl,hx,hw,q⟩:=h
 cases rx
 obtain ⟨its,r,ht,hz⟩:=I.tuple hx
 have hlen:its.toArray.size=xs.length:=by rw[Yl];exact r.length.symm
 refine ⟨"tuple",_,Xn.lookup,ht.typeIs,?_⟩
 refine HT.getItem_tuple_cut ht hs pl pu (by rw[hlen];exact hw) ?_ (by rw[hlen];exact hz)
 rw[hlen]
 refine ⟨.ref s.heap.objs.size,_,I.laid (t':=s.toks) (o:=.tup (cutV xs lo hi)) (fun b ob q=>Yc _ q) (Yh _) ?_,rfl,q _ (I.hok.fresh (Yh _))⟩
 exact ⟨YQ (Zdq xs lo hi) hz,_,(r.drop (HT.sIx xs.length 0 lo)).take (HT.sIx xs.length xs.length hi - HT.sIx xs.length 0 lo),IsTup.new _ _⟩
def rCatT (K:W.Frag):R2:=fun x y H Q=>∃a b xs ys,x=.ref a/\y=.ref b/\SqT K H a xs/\SqT K H b ys/\xs≠[]/\xs.length + ys.length<=Yu/\
 (ys=[]->Q (.ref a) H)/\(ys≠[]->∀p,H p=none->Q (.ref p) (upd H p (.tup (xs++ys))))
theorem Vals.nil_iff {xs:List V}{us:4e9}(r:Vals xs us):us=[]↔xs=[]:=by
 cases r with
 | nil=>simp
 | cons _ _=>simp
theorem op_catT:OpR X (WK .Add) (rCatT X.K):=by
 sleep 4
 obtain ⟨a,b,xs,ys,rfl,rfl,ha,hb,hx,hz,q1,q2⟩:=h
 cases rx
 cases ry
 obtain ⟨its,r1,p1,_⟩:=I.tuple ha
 obtain ⟨its2,r2,p2,_⟩:=I.tuple hb
 refine HT.cat_tup p1 p2 (fun z=>hx (r1.nil_iff.mp z)) (fun z=>⟨.ref a,H,I,rfl,q1 (r2.nil_iff.mp z)⟩) (fun z=>?_) (by rw[←r1.length,←r2.length];exact hz)
 refine ⟨.ref s.heap.objs.size,_,I.laid (t':=s.toks) (o:=.tup (xs++ys)) (fun b ob q=>Yc _ q) (Yh _) ?_,rfl,q2 (fun w=>z (r2.nil_iff.mpr w)) _ (I.hok.fresh (Yh _))⟩
 exact ⟨by rw[Xa];exact hz,_,r1.append r2,IsTup.new _ _⟩
end
def ixN (n:Nat)(i:Int):Option Nat:=if 0<=i then (if i < n then some i.toNat else none) else if -(n:Int)<=i then some (i + n).toNat else none
def atI {α:Type}(xs:List α)(i:Int):Option α:=(ixN xs.length i).bind fun j=>xs[j]?
theorem ixN_seq {n:Nat}{i:Int}{j:Nat}(h:ixN n i=some j):seqIndex? i n=some j/\j < n/\-(n:Int)<=i/\i < n:=by
 unfold ixN at h
 by_cases h0:0<=i
 ·rw[if_pos h0] at h
  by_cases h1:i < n
  ·rw[if_pos h1] at h
   have e:i.toNat=j:=YG h
   exact ⟨by rw[seqIndex_of h0 h1,e],by lia,by lia,h1⟩
  ·rw[if_neg h1] at h;cases h
 ·rw[if_neg h0] at h
  by_cases h1:-(n:Int)<=i
  ·rw[if_pos h1] at h
   have e:(i + n).toNat=j:=YG h
   exact ⟨by rw[seqIndex_neg 1e2 h1,e],by lia,h1,by lia⟩
  ·rw[if_neg h1] at h;cases h
theorem atI_get {α:Type}{xs:List α}{i:Int}{v:α}(h:atI xs i=some v):∃j,seqIndex? i xs.length=some j/\xs[j]? = some v/\j < xs.length/\-(xs.length:Int)<=i/\i < xs.length:=by
 unfold atI at h
 cases e:ixN xs.length i with
 | none=>rw[e] at h;cases h
 | some j=>
  rw[e] at h
  obtain ⟨h1,h2,h3,h4⟩:=ixN_seq e
  exact ⟨j,h1,h,h2,h3,h4⟩
def PlainIx (b:Expr):Prop:=∀o i,subscripted b false o i=operate [o,i] (UI o i)
def IxR (X:Cx)(r:R2):Prop:=
 ∀(value slice:Expr) (pins:2e0) (s:Shared) (σ:St) (H:Hp) (x y:V) (v u:Value) (Q:VK),Inv X pins σ H s->RelV x v->RelV y u->r x y H Q->
  subscripted slice false v u=operate [v,u] (UI v u)->wpAny 2e7 X.A (subscriptTail value slice v u) 18e5 X.xe s
def MtR (X:Cx)(id:String)(r:V->List V->Hp->VK->Prop):Prop:=
 ∀(pins:2e0) (s:Shared) (σ:St) (H:Hp) (x:V) (xs:List V) (v:Value) (us:4e9) (Q:VK),Inv X pins σ H s->RelV x v->Vals xs us->r x xs H Q->
  wpAny 2e7 X.A (call (.builtin id) (v::us)) 18e5 X.xe s
section
variable {X:Cx}{a b:Expr}{ta tb:TE}{pos:Pos}
theorem IxR.or {r r':R2}(h:IxR X r)(h':IxR X r'):IxR X (fun x y H Q=>r x y H Q\/r' x y H Q):=by
 intro value slice pins s σ H x y v u Q I rx ry q hs
 rcases q with q | q
 ·exact h value slice pins s σ H x y v u Q I rx ry q hs
 ·exact h' value slice pins s σ H x y v u Q I rx ry q hs
theorem pe_ix {r:R2}(hr:IxR X r)(ha:PE X a ta)(hb:PE X b tb)(hs:PlainIx b):PE X (.Subscript a b pos) (tOp r ta tb):=by
 sleep 14
 exact Subscript_ (binT ha hb I h fun v u s2 x y H2 I2 rx ry q=>hr a b pins s2 σ H2 x y v u Q I2 rx ry q (hs _ _))
def rIxL (K:W.Frag):R2:=fun x y H Q=>∃p xs i v,x=.ref p/\y=.int i/\SqL K H p xs/\atI xs i=some v/\Q v H
def rIxT (K:W.Frag):R2:=fun x y H Q=>∃p xs i v,x=.ref p/\y=.int i/\SqT K H p xs/\atI xs i=some v/\Q v H
def rIxS:R2:=fun x y H Q=>∃z i c,x=.str z/\y=.int i/\z.length<=Yu/\atI z.cps.toList i=some c/\Q (.str ⟨#[c]⟩) H
theorem ix_list:IxR X (rIxL X.K):=by
 intro value slice pins s σ H x y v u Q I rx ry h hs
 obtain ⟨p,xs,i,z,rfl,rfl,hq,he,q⟩:=h
 cases rx
 obtain ⟨t,rfl⟩:=ry
 obtain ⟨its,r,pl,hz⟩:=I.list hq
 obtain ⟨j,h1,h2,h3,h4,h5⟩:=atI_get he
 obtain ⟨w,ew,rw'⟩:=r.get h2
 have hl:=r.length
 have hn:=line63
 have fin:EP X pins σ Q w s:=⟨z,H,I,rw',q⟩
 by_cases h0:0<=i
 ·have hj:i.toNat=j:=by
   rw[seqIndex_of h0 h5] at h1
   exact YG h1
  exact item_listR pl.isList h0 1e2 (by rw[hj];simpa using ew) fin hs
 ·have hj:(i + (its.toArray.size:Int)).toNat=j:=by
   rw[seqIndex_neg 1e2 h4] at h1
   rw[Yl,←hl]
   exact YG h1
  exact subscriptTail_builtinR (x:=w) pl.isList.typeIs slot_list_getitem.lookup
   (wpAny_getItem_list_neg (Q:=fun r s'=>r=w/\EP X pins σ Q r s') pl.isList 1e2 (by rw[Yl]<;>lia) 1e2 (by rw[hj];simpa using ew) ⟨rfl,fin⟩) hs
theorem ix_tup:IxR X (rIxT X.K):=by
 intro value slice pins s σ H x y v u Q I rx ry h hs
 obtain ⟨p,xs,i,z,rfl,rfl,hq,he,q⟩:=h
 cases rx
 obtain ⟨t,rfl⟩:=ry
 obtain ⟨its,r,pl,hz⟩:=I.tuple hq
 obtain ⟨j,h1,h2,h3,h4,h5⟩:=atI_get he
 obtain ⟨w,ew,rw'⟩:=r.get h2
 have hl:=r.length
 have hn:=line63
 have fin:EP X pins σ Q w s:=⟨z,H,I,rw',q⟩
 exact subscriptTail_builtinR (x:=w) pl.typeIs slot_tuple_getitem.lookup
  (getItem_tuple (j:=j) (Q:=fun r s'=>r=w/\EP X pins σ Q r s') pl 1e2 1e2 (by rw[Yl,←hl];exact h1) (by simpa using ew) ⟨rfl,fin⟩) hs
theorem ix_str:IxR X rIxS:=by
 intro value slice pins s σ H x y v u Q I rx ry h hs
 obtain ⟨z,i,c,rfl,rfl,hz,he,q⟩:=h
 sleep 11
 obtain ⟨t',rfl⟩:=ry
 obtain ⟨j,h1,h2,h3,h4,h5⟩:=atI_get he
 have hl:z.cps.toList.length=z.length:=by simp[Str.length]
 rw[hl] at h1 h4 h5
 have hn:=line63
 exact tail_any (typeIs_str s z t) slot_str_getitem.lookup (getItem_str (c:=c) (by
  have e1:decide (i < -(2 ^ 63:Int))=false:=decide_eq_false 1e2
  have e2:decide (i ≥ 2 ^ 63)=false:=decide_eq_false 1e2
  rw[e1,e2,Bool.or_false]) (by rw[h1];simpa using h2) ⟨.str ⟨#[c]⟩,H,I.tok _,⟨_,rfl⟩,q⟩) hs
def rIx (K:W.Frag):R2:=fun x y H Q=>rIxL K x y H Q\/rIxT K x y H Q\/rIxS x y H Q
theorem ix_seq:IxR X (rIx X.K):=ix_list.or (ix_tup.or ix_str)
theorem mapSeq_set (its:4e9)(n j:Nat)(u:Value):XR (·.setIfInBounds j u) { cls:=.type "list",data:=.seq its.toArray n }={ cls:=.type "list",data:=.seq (its.set j u).toArray n }:=by
 simp[XR]
theorem Inv.lst {pins:2e0}{σ:St}{H:Hp}{s:Shared}{p:Addr}{xs:List V}(I:2e3)(h:H p=some (.lst xs)):
  ∃(its:4e9) (n:Nat),Vals xs its/\s.heap.get? p=some { cls:=.type "list",data:=.seq its.toArray n }/\xs.length<=sizeLine:=by
 obtain ⟨z,its,n,r,e⟩:=I.hok p _ h
 exact ⟨its,n,r,e,z⟩
theorem Inv.lstUpd {pins:2e0}{σ:St}{H:Hp}{s:Shared}{p:Addr}{xs ys:List V}{its its':4e9}{n n':Nat}{f:Obj->Obj}(I:2e3)(h:H p=some (.lst xs))
  (ho:s.heap.get? p=some { cls:=.type "list",data:=.seq its.toArray n }) (hf:f { cls:=.type "list",data:=.seq its.toArray n }={ cls:=.type "list",data:=.seq its'.toArray n' }) (r:Vals ys its') (hz:ys.length<=Yu) (t:Nat):
  Inv X pins σ (upd H p (.lst ys)) { s with heap:=s.heap.update p f,toks:=t }:=by
 have e:(s.heap.update p f).get? p=some { cls:=.type "list",data:=.seq its'.toArray n' }:=by
  rw[XG f ho (by rw[hf]<;>rfl),hf]
 refine I.write (x:=p) (e:=p) (by rw[h];trivial) 17e4 (fun b u hb q=>(Heap.get?_update_other _ _ (Xx hb)).trans q) ⟨_,e⟩ ?_
 exact ⟨hz,its',n',r,e⟩
def rSetL:V->V->V->Hp->(Hp->Prop)->Prop:=fun o i v H Q=>∃p xs k j,o=.ref p/\i=.int k/\H p=some (.lst xs)/\ixN xs.length k=some j/\Q (upd H p (.lst (xs.set j v)))
theorem set_list:PSet X rSetL:=by
 intro pins s σ H o i v ov iv u Q I ro ri rv h
 obtain ⟨p,xs,k,j,rfl,rfl,hp,hj,q⟩:=h
 cases ro
 obtain ⟨t,rfl⟩:=ri
 obtain ⟨its,n,r,ho,hz⟩:=I.lst hp
 obtain ⟨h1,h2,h3,h4⟩:=ixN_seq hj
 have hl:=r.length
 have hn:=line63
 have I':Inv X pins σ (upd H p (.lst (xs.set j v))) { s with heap:=s.heap.update p (XR (·.setIfInBounds j u)) }:=
  I.lstUpd hp ho (mapSeq_set its n j u) (r.set rv j) (by rw[XM];exact hz) s.toks
 by_cases h0:0<=k
 ·have hk:k.toNat=j:=by
   rw[seqIndex_of h0 h4] at h1
   exact YG h1
  exact W.ki_setAt ho h0 1e2 (by rw[Yl,←hl];exact h4) (by rw[hk];exact ⟨_,I',q⟩)
 ·have hk:(k + (its.toArray.size:Int)).toNat=j:=by
   rw[seqIndex_neg 1e2 h3] at h1
   rw[Yl,←hl]
   exact YG h1
  exact W.ki_setBack ho 1e2 (by rw[Yl,←hl];exact h3) 1e2 (by rw[hk];exact ⟨_,I',q⟩)
theorem slice_bounds (lo hi:Option Int)(n:Nat):(Vs lo hi none n).1=((HT.sIx n 0 lo:Nat):Int)/\(Vs lo hi none n).2.1=((HT.sIx n n hi:Nat):Int)/\(Vs lo hi none n).2.2=1:=by
 refine ⟨?_,?_,rfl⟩
 ·cases lo with
  | none=>simp[Vs,HT.sIx]
  | some i=>
   simp only[Vs,HT.sIx,Option.getD_none,show (1:Int) > 0 by decide,if_true]
   by_cases h:i < 0
   ·simp only[h,if_true]<;>lia
   ·simp only[h,if_false]<;>lia
 ·cases hi with
  | none=>simp[Vs,HT.sIx]
  | some i=>
   simp only[Vs,HT.sIx,Option.getD_none,show (1:Int) > 0 by decide,if_true]
   by_cases h:i < 0
   ·simp only[h,if_true]<;>lia
   ·simp only[h,if_false]<;>lia
theorem slicePick_cut (its:4e9)(lo hi:Option Int):slicePick its.toArray lo hi none=((its.drop (HT.sIx its.length 0 lo)).take (HT.sIx its.length its.length hi - HT.sIx its.length 0 lo)).toArray:=by
 obtain ⟨h1,h2,h3⟩:=slice_bounds lo hi its.toArray.size
 unfold slicePick
 rw[h1,h2,h3]
 simp only[sliceRange_one,pick_run,Yl]<;>rfl
def rSlL (K:W.Frag):V->Option Int->Option Int->Hp->VK->Prop:=fun x lo hi H Q=>∃a xs,x=.ref a/\SqL K H a xs/\∀p,H p=none->Q (.ref p) (upd H p (.lst (cutV xs lo hi)))
theorem sl_list:SlR X (rSlL X.K):=by
 intro pins s σ H x v vl vu lo hi sl Q I rx hs pl pu h
 obtain ⟨a,xs,rfl,hx,q⟩:=h
 cases rx
 obtain ⟨its,r,ht,hz⟩:=I.list hx
 have hlen:=r.length
 refine ⟨"list",_,slot_list_getitem.lookup,ht.isList.typeIs,?_⟩
 refine wpAny_getItem_list_slice ht.isList hs pl pu .none 4e6 ?_ (by rw[Yl]<;>lia)
 rw[slicePick_cut,←hlen]
 refine ⟨.ref s.heap.objs.size,_,I.laid (t':=s.toks) (o:=.lst (cutV xs lo hi)) (fun b ob q=>Yc _ q) (Yh _) ?_,rfl,q _ (I.hok.fresh (Yh _))⟩
 exact ⟨YQ (Zdq xs lo hi) hz,_,0,(r.drop (HT.sIx xs.length 0 lo)).take (HT.sIx xs.length xs.length hi - HT.sIx xs.length 0 lo),Yp _ rfl⟩
theorem CallR.or {f:Value}{r r':14e3}(h:CallR X f r)(h':CallR X f r'):CallR X f (fun xs H Q=>r xs H Q\/r' xs H Q):=by
 intro pins s σ H xs us Q I rs q
 rcases q with q | q
 ·exact h pins s σ H xs us Q I rs q
 ·exact h' pins s σ H xs us Q I rs q
theorem call_list_of:CallR X (.type "list") (fun xs H Q=>∃p ys,xs=[.ref p]/\(SqL X.K H p ys\/SqT X.K H p ys)/\∀l,H l=none->Q (.ref l) (upd H l (.lst ys))):=by
 sleep 21
 obtain ⟨p,ys,rfl,hq,q⟩:=h
 obtain ⟨u,rfl,rx⟩:=vals1 r
 cases rx
 have fin:∀(its:4e9),Vals ys its->ys.length<=Yu->∀(h':Heap) (c':Nat),(∀b o',s.heap.get? b=some o'->h'.get? b=some o')->
   h'.get? s.heap.objs.size=some { cls:=.type "list",dict:=none,data:=.seq its.toArray c',slots:=#[] }->EP X pins σ Q 10e1 { s with heap:=h' }:=fun its r' hz h' c' kp e=>
  ⟨.ref s.heap.objs.size,_,I.laid (t':=s.toks) kp (Yh _) (show ObjOk X.prog X.w _ h' _ (.lst ys) from ⟨hz,its,c',r',e⟩),rfl,q _ (I.hok.fresh (Yh _))⟩
 rcases hq with hq | hq
 ·obtain ⟨its,r',pl,hz⟩:=I.list hq
  have hlen:=r'.length
  obtain ⟨o,ho,hc,n,hd⟩:=pl.isList
  exact call_list_seq p 17e4 ho hc hd (fun h' c' kp e=>fin its r' hz h' c' kp e) (by simp only[Yl]<;>lia)
 ·obtain ⟨its,r',pl,hz⟩:=I.tuple hq
  have hlen:=r'.length
  obtain ⟨o,ho,hc,n,hd⟩:=pl
  exact call_list_seq p (.inr rfl) ho hc hd (fun h' c' kp e=>fin its r' hz h' c' kp e) (by simp only[Yl]<;>lia)
theorem call_tuple_of:CallR X (.type "tuple") (fun xs H Q=>∃p ys,xs=[.ref p]/\((SqL X.K H p ys/\∀l,H l=none->Q (.ref l) (upd H l (.tup ys)))\/(SqT X.K H p ys/\Q (.ref p) H))):=by
 sleep 21
 obtain ⟨p,ys,rfl,h⟩:=h
 obtain ⟨u,rfl,rx⟩:=vals1 r
 cases rx
 rcases h with ⟨hq,q⟩ | ⟨hq,q⟩
 ·obtain ⟨its,r',pl,hz⟩:=I.list hq
  have hlen:=r'.length
  refine call_tuple_list pl.isList (fun h' kp=>?_) (by simp only[Yl]<;>lia)
  have I1:Inv X pins σ H { s with heap:=h' }:=I.kept (t':=s.toks) kp
  have I2:Inv X pins σ (upd H h'.objs.size (.tup ys)) { s with heap:=h'.push { cls:=.type "tuple",data:=.seq its.toArray } }:=
   I1.laid (t':=s.toks) (fun b o e=>Yc _ e) (Yh _) (show ObjOk X.prog X.w _ _ _ (.tup ys) from ⟨hz,its,r',IsTup.new _ _⟩)
  exact ⟨.ref h'.objs.size,_,I2,rfl,q _ (I1.hok.fresh (Yh _))⟩
 ·obtain ⟨its,r',pl,hz⟩:=I.tuple hq
  exact call_tuple_same pl ⟨.ref p,H,I,rfl,q⟩
def tyV (K:W.Frag)(T:String)(x:V)(H:Hp):Prop:=match x with
 | .str _=>T="str"
 | .int _=>T="int"
 | .ref p=>(T="list"/\∃xs,SqL K H p xs)\/(T="tuple"/\∃o,K.lookup p=some o/\o.cls=.type "tuple"/\o.dict=none)\/
   (T="dict"/\((∃kvs,H p=some (.dK kvs))\/∃kvs,H p=some (.dT kvs)))\/(T="set"/\∃S n,H p=some (.set S n))
 | _=>False
theorem tyV_is {pins:2e0}{σ:St}{H:Hp}{s:Shared}{T:String}{x:V}{v:Value}(I:2e3)(r:RelV x v)(ty:tyV X.K T x H):
  s.TypeIs v T/\∀a,v=.ref a->∃ob,s.heap.get? a=some ob/\ob.dict=none:=by
 cases x with
 | str z=>
  obtain ⟨t,rfl⟩:=r
  cases (show T="str" from ty)
  exact ⟨typeIs_str s z t,fun _ e=>nomatch e⟩
 | int i=>
  obtain ⟨t,rfl⟩:=r
  cases (show T="int" from ty)
  exact ⟨typeIs_int s i t,fun _ e=>nomatch e⟩
 | ref p=>
  cases r
  rcases ty with ⟨rfl,xs,hq⟩ | ⟨rfl,o,hk,hc,hd⟩ | ⟨rfl,hk⟩ | ⟨rfl,S,n,hk⟩
  ·obtain ⟨its,_,pl,_⟩:=I.list hq
   refine ⟨pl.isList.typeIs,fun a e=>?_⟩
   cases e
   obtain ⟨o,n,e,c,hd,_⟩:=pl
   exact ⟨o,e,hd⟩
  ·refine ⟨⟨o,I.kIn p o hk,hc⟩,fun a e=>?_⟩
   cases e
   exact ⟨o,I.kIn _ o hk,hd⟩
  ·have z:∃o,s.heap.get? p=some o/\o.ExactDict:=by
    rcases hk with ⟨kvs,hk⟩ | ⟨kvs,hk⟩
    ·obtain ⟨_,_,_,_,o,_,_,e,ex,_⟩:=I.hok p _ hk
     exact ⟨o,e,ex⟩
    ·obtain ⟨_,_,_,_,o,_,_,e,ex,_⟩:=I.hok p _ hk
     exact ⟨o,e,ex⟩
   obtain ⟨o,e,ex⟩:=z
   refine ⟨⟨o,e,ex.1⟩,fun a e2=>?_⟩
   cases e2
   exact ⟨o,e,ex.2.1⟩
  ·obtain ⟨o,_,_,_,e,ex,_⟩:=I.hok p _ hk
   refine ⟨⟨o,e,ex.1⟩,fun a e2=>?_⟩
   cases e2
   exact ⟨o,e,ex.2.1⟩
 | _=>exact WH ty
def tBM (K:W.Frag)(T:String)(r:V->List V->Hp->VK->Prop)(to:TE)(t:TA):TE:=fun σ H Q=>to σ H fun x H1=>tyV K T x H1/\t σ H1 fun xs H2=>r x xs H2 Q
variable {o e:Expr}{es:6e1}{to:TE}{t:TA}{name:Str}{apos cpos:Pos}{T id:String}{r:V->List V->Hp->VK->Prop}
theorem pe_bm (pa:PlainAttrs T)(slot:Slot T name id)(hty:typeOf (.builtin id)=pure (.type "method_descriptor"))(hm:MtR X id r)(ho:PE X o to)(ha:PA X 9e1 t)
  (hbase:Ud o name X.env (eval o X.env)=eval o X.env:=by rfl)
  (hfew:((backTo cpos (Yo 9e1 X.env)).all (fun x=>!x.1)&&(backToKw cpos (UJ [] X.env)).all (fun x=>x.1.isSome)
   &&decide ((e::es).length + ([]:List UK).length + (if ([]:List UK).isEmpty then 0 else 1) < 30))=true:=by rfl)
  (hline:(apos.endLine==cpos.line)=true:=by rfl) (hs:1e8:=by rfl) (hplain:(backTo cpos (Yo es X.env)).any (·.1)=false:=by rfl):
  PE X (.Call (.Attribute o name apos) 9e1 [] cpos) (tBM X.K T r to t):=by
 sleep 14
 refine wpAny_Call_method_late hbase hfew hline rfl (thn (ho pins s σ H _ I h) fun v s1 h_=>?_)
 obtain ⟨x,H1,I1,r1,ty,q1⟩:=h_
 obtain ⟨h1,h2⟩:=tyV_is I1 r1 ty
 refine ⟨T,id,pa,slot,hty,h1,h2,?_⟩
 have hA:=ha cpos pins s1 σ H1 _ I1 q1
 rw[hs] at hA ⊢
 refine Calls.callWith_builtin (by show (false||(backTo cpos (Yo es X.env)).any (·.1))=false;rw[hplain]<;>rfl) (Calls.evalArgs_plain ?_)
 exact thn hA fun us s2 ⟨vs,H2,I2,r2,q2⟩=>hm pins s2 σ H2 x vs v us Q I2 r1 r2 q2
end
def MtM (X:Cx)(id:String)(r:V->List V->Hp->VK->Prop):Prop:=
 ∀(pins:2e0) (s:Shared) (σ:St) (H:Hp) (x:V) (xs:List V) (v:Value) (us:4e9) (Q:VK),Inv X pins σ H s->RelV x v->Vals xs us->r x xs H Q->
  wpAny 2e7 X.A (call (.builtin id) (v::us)) 18e5 X.xe s
theorem Vals.one:∀{x:V} {us:4e9},Vals [x] us->∃u,us=[u]/\RelV x u:=by
 intro x us r
 cases r with
 | cons r t=>cases t;exact ⟨_,rfl,r⟩
theorem Vals.two:∀{x y:V} {us:4e9},Vals [x,y] us->∃u v,us=[u,v]/\RelV x u/\RelV y v:=by
 intro x y us r
 cases r with
 | cons r t=>cases t with
  | cons q t=>cases t;exact ⟨_,_,rfl,r,q⟩
section
variable {X:Cx}{pins:2e0}{σ:St}{H:Hp}{s:Shared}{l b:Addr}{xs ys zs:List V}
theorem Inv.lset {its its':4e9}{n:Nat}{f:Array Value->Array Value}{t':Nat}(I:2e3)(hH:H l=some (.lst xs))
  (e:s.heap.get? l=some { cls:=.type "list",data:=.seq its.toArray n }) (hf:f its.toArray=its'.toArray) (hv:Vals ys its') (hz:ys.length<=Yu):
  Inv X pins σ (upd H l (.lst ys)) { s with heap:=s.heap.update l (XR f),toks:=t' }:=by
 have q:=PySem.IsL.update e f
 rw[hf] at q
 refine I.write (x:=l) (e:=l) (by rw[hH];exact trivial) 17e4 (fun b' u hb hu=>(Heap.get?_update_other s.heap (XR f) (Xx hb)).trans hu) ⟨_,q⟩ ?_
 exact ⟨hz,its',_,hv,q⟩
theorem Inv.lnew {its:4e9}{t':Nat}(I:2e3)(hv:Vals ys its)(hz:ys.length<=Yu):
  Inv X pins σ (upd H s.heap.objs.size (.lst ys)) { s with heap:=s.heap.push { cls:=.type "list",data:=.seq its.toArray },toks:=t' }:=
 I.laid (fun _ _ q=>Yc _ q) (Yh _) ⟨hz,its,0,hv,Yp _ rfl⟩
theorem Inv.fresh (I:2e3):H s.heap.objs.size=none:=I.hok.fresh (Yh _)
theorem Inv.lstM (I:2e3)(hH:H l=some (.lst xs)):xs.length<=Yu/\∃(its:4e9) (n:Nat),Vals xs its/\xs.length=its.length/\s.heap.get? l=some { cls:=.type "list",data:=.seq its.toArray n }:=by
 obtain ⟨z,its,n,r,e⟩:=I.hok l _ hH
 exact ⟨z,its,n,r,r.length,e⟩
theorem notLongL {n:Nat}(h:n<=Yu):XX n=false:=by
 unfold XX
 exact decide_eq_false 1e2
end
section
variable {X:Cx}
def rAppend:V->List V->Hp->VK->Prop:=fun x vs H Q=>∃l xs y,x=.ref l/\vs=[y]/\H l=some (.lst xs)/\xs.length < Yu/\Q .non (upd H l (.lst (xs++[y])))
theorem mt_append:MtM X "list.append" rAppend:=by
 intro pins s σ H x vs v us Q I rx rv h
 obtain ⟨l,xs,y,rfl,rfl,hH,hz,q⟩:=h
 cases rx
 obtain ⟨u,rfl,ru⟩:=rv.one
 obtain ⟨z,its,n,r,hl,e⟩:=I.lstM hH
 refine call_meets F.slot_list_append ⟨_,e,rfl⟩ F.entry_list_append (F.args_list_append_2 _ _) (PySem.list_append l its.toArray n u (by rw[Yl];lia)) ⟨e,?_⟩
 refine ⟨.non,_,I.lset (its':=its++[u]) hH e 4e6 (r.append (.cons ru .nil)) ?_,rfl,q⟩
 rw[Xa,List.length_singleton]
 lia
end
end L2
namespace Att
open PySem PySem.W PySem.Calls PyProof.Rows
theorem Zdi {P:Params}{h:Heap}:∀(ns:List Int) (vs:4e9),WellAll P h vs (ns.map WData.int)->IntsAre vs ns:=by
 intro ns
 induction ns with
 | nil=>
  intro vs w
  rw[Ww] at w
  cases w
  exact .nil
 | cons n ns ih=>
  intro vs w
  rw[Yq] at w
  cases w with
  | cons a b=>
   cases a
   exact .cons _ _ (ih _ b)
theorem script_of {l:OpenLaw}{n:Nat}(hn:l.most=some n){P:Params}{h:Heap}{args:List WData}{vals:4e9}
    (hpre:l.row.toRowW.claim.pre args=true) (hwl:WellAll P h vals args):
    ∃a vs ns,vals=[YE a]/\args=[WData.list (ns.map WData.int)]/\h.get? a=some { cls:=.type "list",data:=.seq vs.toArray }/\IntsAre vs ns/\ns.length<=n:=by
  have hsh:WShape.hasAll [] args [.list .int]=true:=(pre_splitW hpre).1
  have hc:l.pre.holds [] { args:=args }=true:=(pre_splitW hpre).2
  obtain ⟨d,r,rfl,h1,h2⟩:=hasAllW_cons hsh
  obtain rfl:=hasAllW_nil h2
  obtain ⟨xs,rfl,h3⟩:=hasW_list h1
  obtain ⟨ns,rfl⟩:=items_int h3
  have hlen:ns.length<=n:=by
    unfold OpenLaw.pre at hc
    have h4:(WTm.not (.lt (.lit (.int (n:Int))) (.len (.arg 0)))).holds [] { args:=[.list (ns.map .int)] }=true:=by
      have h4:=(holds_andW hc).1
      rw[hn] at h4
      exact h4
    have h5:=condW_of h4 (w_not (w_lt w_lit (w_len_list (w_arg rfl))))
    rw[YA] at h5
    refine Uk fun q=>?_
    have q':(n:Int) < ((ns.length:Nat):Int):=by lia
    first
      | (rw[decide_eq_true q'] at h5;exact absurd h5 (by decide))
      | (simp at h5;lia)
  cases hwl with
  | cons w1 w2=>
    cases w2
    cases w1 with
    | list ho hall=>exact ⟨_,_,ns,rfl,rfl,ho,Zdi ns _ hall,hlen⟩
theorem post_true (l:OpenLaw)(args:List WData):l.row.toRowW.claim.post args (.bool true) args=true:=
 postW_of (r:=l.row.toRowW) (X:=(true==true))
  (show WShape.has [] (.bool true) .bool=true by first | rfl | decide | simp[WShape.has,WShape.arms,WShape.armsAll])
  (show (WTm.eq .res (.lit (.bool true))).value [] { args:=args,res:=some (.bool true),after:=args }=some (.bool (true==true)) from w_eq_bool (w_res rfl) w_lit) rfl
theorem attach_call {l:OpenLaw}{n:Nat}{q:YD}{loose:5e9}{XP:(Str->Option Value)->Heap->Prop}{YP:World->Heap->Prop}{d:DefRec}
  (hn:l.most=some n) (hdf:d.params.defaults=[])
  (call:∀(w:World) (s₀ s₁:Shared) (mg mb:3e3) (fa:Addr) (o:Obj) (pm cd doc:Value) (a:Addr) (vs:4e9) (ns:List Int),
   Ground q loose [] XP w s₀ mg mb s₁.heap->YP w s₁.heap->
   s₁.heap.get? fa=some o->o.data=.func (docDef d.name d.params d.body d.scope pm cd doc)->s₁.heap.CodeRec cd d.name->mg d.name=some (.ref fa)->
   s₁.heap.get? a=some { cls:=.type "list",data:=.seq vs.toArray }->IntsAre vs ns->ns.length<=n->s₁.gens=#[]->
   X3 (model l.prog w) UU (.call (.ref fa) ⟨[.ref a],[]⟩) (fun r s'=>r=.ok (.ret (.bool true))/\OldK s₁.heap s'.heap/\s'.os=s₁.os/\Um s'.gens) s₁):
  WalkO q loose XP YP l.row.toRowW d [] (fun f vs=>PySem.call f vs):=by
 intro w s₀ s₁ mg mb G Y fa o pm cd doc dV kV ho hd hcd hD hmg hg args vals as hpre hlay hrd hwl hlo
 obtain rfl:dV=.none:=Dflts.none hD hdf
 obtain rfl:kV=.none:=Dflts.noKw hD
 obtain ⟨a,vs,ns,rfl,rfl,hobj,hints,hlen⟩:=script_of hn hpre hwl
 refine enter_call (Uq (call w s₀ s₁ mg mb fa o pm cd doc a vs ns G Y ho (fd_plain hd) hcd hmg hobj hints hlen hg) fun r s' hq=>?_)
 obtain ⟨rfl,h2,h3,h4⟩:=hq
 exact ⟨.inl ⟨.bool true,.bool true,[],rfl,fun _=>rfl,.bool true,post_true l _,fun _=>⟨List.Pairwise.nil,fun _ hm=>(nomatch hm)⟩⟩,h2,h3,h4⟩
end Att
namespace L2
open PySem PySem.Spec PyProof.Rows
theorem vals_ints:∀{vs:4e9} {ns:List Int},IntsAre vs ns->Vals (ns.map V.int) vs
 | _,_,.nil=>.nil
 | _,_,.cons n t h=>.cons ⟨t,rfl⟩ (vals_ints h)
def Only (H:Hp):Prop:=∀b,H b=none\/∃o xs,H b=some (.frz o (.lst xs))
theorem law_call {P:YD}{w:World}{K:W.Frag}{mg mb:3e3}{CX:CXT}{k:Nat}{fa a:Addr}{fd:X2}{x:Str}{sp:Sp}{s₁:Shared}{vs:4e9}{ns:List Int}
  (KX:K.In s₁.heap) (hns:s₁.heap.Ns Uc mg) (hb:s₁.heap.Ns builtinsNs mb) (hbb:∀x:Str,x≠"__name__"->mb x=Xo x) (hlim:s₁.heap.NoLimit) (hg:s₁.gens=#[])
  (ha:s₁.heap.get? a=some { cls:=.type "list",data:=.seq vs.toArray }) (hi:IntsAre vs ns) (hl:ns.length<=Yu) (hr:Room k UU)
  (F:∀base:Heap,K.In base->base.Ns Uc mg->FnOk P w K mg base CX k fa fd [x] sp) (hbind:∀(s:Shared) (u:Value),BindsTo s fd ⟨[u],[]⟩ [(x,u)])
  (hsp:∀H:Hp,Only H->SqL K H a (ns.map V.int)->sp [.ref a] H (fun v _=>v=.bl true) fun _ _ _=>False)
  (hCX:∀H e s',CX [] H s₁ (fun _ _ _=>False) e s'->False):
  X3 (model P w) UU (.call (.ref fa) ⟨[.ref a],[]⟩) (fun r s'=>r=.ok (.ret (.bool true))/\OldK s₁.heap s'.heap/\s'.os=s₁.os/\Um s'.gens) s₁:=by
 have rv:=vals_ints hi
 have lenV:=hi.length
 have core:∀H:Hp,Only H->SqL K H a (ns.map V.int)->HOk P w H s₁.heap->(∀b,H b≠none->b=a)->(H a≠none->K.lookup a=none)->
   X3 (model P w) UU (.call (.ref fa) ⟨[.ref a],[]⟩) (fun r s'=>r=.ok (.ret (.bool true))/\OldK s₁.heap s'.heap/\s'.os=s₁.os/\Um s'.gens) s₁:=by
  intro H hO hS hok hA hK
  have base_of:∀{b:Addr} {o:Obj},s₁.heap.get? b=some o->H b=none->(hidT s₁.heap H).get? b=some o:=fun e n=>hidT_get e n
  have noA:∀{b:Addr} {o:Obj} {es:Array V7} {ep:Nat},s₁.heap.get? b=some o->o.data=.dict es ep->H b=none:=fun {b o es ep} e d=>by
   cases q:H b with
   | none=>rfl
   | some u=>
    have e':b=a:=hA b (by rw[q];simp)
    subst e'
    rw[ha] at e;cases e
    have d':Data.seq vs.toArray _=Data.dict es ep:=d
    cases d'
  have nsK:∀{b:Addr} {m:3e3},s₁.heap.Ns b m->(hidT s₁.heap H).Ns b m:=fun {b m} ⟨o,es,ep,e,d,r⟩=>⟨o,es,ep,base_of e (noA e d),d,r⟩
  have hKb:K.In (hidT s₁.heap H):=fun b o e=>base_of (KX b o e) (by
   cases q:H b with
   | none=>rfl
   | some u=>
    have e':b=a:=hA b (by rw[q];simp)
    subst e'
    rw[hK (by rw[q];simp)] at e;cases e)
  have hM:Mod K mg (hidT s₁.heap H):=⟨hKb,nsK hns,⟨mb,nsK hb,hbb⟩,let ⟨mc,h1,h2⟩:=hlim;⟨mc,nsK h1,h2⟩⟩
  have e0:Env0 P w K mg (hidT s₁.heap H) UU [] s₁ H:=⟨rfl,hM,fun b o e=>of_hidT e,Nat.le_of_eq (hidT_size _ _),trivial,fun b hb=>absurd (show b∈([]:List Addr) from hb) 4e6,hok,.of_eq hg⟩
  refine Uq ((F _ hKb (nsK hns)).run UU [] s₁ H ⟨[.ref a],[]⟩ [.ref a] [.ref a] _ _ hr e0 (hbind s₁ (.ref a)) (.cons rfl .nil) (hsp H hO hS)) fun r s' h=>?_
  cases r with
  | error e=>exact (hCX H e s' h).elim
  | ok fl=>
   cases fl with
   | next=>exact WH h
   | brk=>exact WH h
   | cont=>exact WH h
   | ret u=>
    obtain ⟨v,H',os,bare,un,hok',r',q⟩:=h
    have q':v=.bl true:=q
    subst q'
    obtain rfl:u=Value.bool true:=r'
    refine ⟨rfl,OldK.of_keep fun b o e=>?_,os,bare⟩
    cases q:H b with
    | none=>exact un.keep b o e q (by intro z;exact absurd (show b∈([]:List Addr) from z) 4e6) 4e6
    | some u=>
     rcases hO b with z | ⟨ob,xs,z⟩
     ·rw[q] at z;cases z
     ·have z2:=un.frzs b ob _ z
      obtain ⟨e1,_⟩:=hok b _ z
      obtain ⟨e2,_⟩:=hok' b _ z2
      rw[e] at e1;cases e1
      exact e2
 cases hk:K.lookup a with
 | some o=>
  have e:=KX a o hk
  rw[ha] at e
  cases e
  refine core (fun _=>none) (fun _=>.inl rfl) (.inr ⟨_,vs.toArray,_,hk,rfl,rfl,rfl,by rw[Yl,lenV];exact hl,by simpa using rv⟩) (fun b u z=>by have z':(none:Option HO)=some u:=z;cases z') (fun b z=>absurd rfl z) fun z=>absurd rfl z
 | none=>
  refine core (fun b=>if b=a then some (.frz { cls:=.type "list",data:=.seq vs.toArray } (.lst (ns.map V.int))) else none) (fun b=>?_) (.inl (.inr ⟨{ cls:=.type "list",data:=.seq vs.toArray },if_pos rfl⟩)) (fun b u z=>?_) (fun b z=>?_) fun _=>hk
  ·by_cases hb:b=a
   ·exact .inr ⟨_,_,if_pos hb⟩
   ·exact .inl (if_neg hb)
  ·by_cases hb:b=a
   ·have z':=(if_pos hb).symm.trans z
    cases z'
    subst hb
    exact ⟨ha,by rw[YA];exact hl,vs,_,rv,ha⟩
   ·have z':=(if_neg hb).symm.trans z
    cases z'
  ·by_cases hb:b=a
   ·exact hb
   ·exact absurd (if_neg hb) z
def defArgs (s:Stmt):Arguments:=match s with
 | .FunctionDef _ a _ _ _ _ _ _ _ _=>a
 | _=>{ posonlyargs:=[],args:=[],vararg:=none,kwonlyargs:=[],kw_defaults:=[],kwarg:=none,defaults:=[] }
def defBody (s:Stmt):List Stmt:=match s with
 | .FunctionDef _ _ b _ _ _ _ _ _ _=>b
 | _=>[]
def defScope (s:Stmt):Scope:=match s with
 | .FunctionDef _ _ _ _ _ _ sc _ _ _=>sc
 | _=>{ kind:=.function,names:=[],isGenerator:=false,isCoroutine:=false }
abbrev CX0:CXT:=fun _ _ _ _ _ _=>False
abbrev E0:XK:=fun _ _ _=>False
theorem pass0 {X:Cx}:Passes CX0 X E0:=fun _ _ _ _ _ _ _ h=>h.elim
structure Fun (K:W.Frag)(x qual:Str)(st:Stmt)(f:Addr)(fd:X2):Prop where
 ex:∃(oc:Value) (od:Option Addr) (kV doc pm:Value) (an:Option Addr) (cdv ct:Value) (osl:Array (Option Value)),
  fd=W.fnOf x qual (defArgs st) (defBody st) 17e0 .none kV doc pm an cdv ct/\K.lookup f=some ⟨oc,od,.func fd,osl⟩/\W.codeIn K cdv qual=true
 kp:VX K (.ref f)=true
section
variable {P:YD}{w:World}{K:W.Frag}{mg:3e3}{base:Heap}
theorem Fun.ok {x qual:Str}{st:Stmt}{f:Addr}{fd:X2}{N ps:5e9}{k:Nat}{sp:Sp}(F:Fun K x qual st f fd)(S:FnScope N ps 17e0)(len:∀vs H Q E,sp vs H Q E->vs.length=ps.length)
  (hbody:∀(cdv:Value) (A:Around) (outer:List Env) (s:Shared) (H:Hp) (vs:List V) (Q:VK) (E:XK),Room k (A.deeper (envOfC qual 17e0 s.heap.objs.size f cdv))->sp vs H Q E->
   ∃t,PSs (cxOf CX0 P w K mg base N qual (defScope st) f cdv A outer s H E).nox (defBody st) t/\t { nx:=fun _ H'=>Q .non H',rt:=Q } (start N vs) H):FnOk P w K mg base CX0 (k + 1) f fd ps sp:=by
 obtain ⟨oc,od,kV,doc,pm,an,cdv,ct,osl,rfl,lk,hcd⟩:=F.ex
 refine fn_of lk hcd S len fun A outer s H vs Q E hr hsp=>?_
 obtain ⟨t,h,q⟩:=hbody cdv A outer s H vs Q E hr hsp
 exact ⟨t,h.nox,q⟩
theorem Fun.binds {x qual:Str}{st:Stmt}{f:Addr}{fd:X2}{ps:5e9}(F:Fun K x qual st f fd)
  (h:∀(kV doc pm:Value) (an:Option Addr) (cdv ct:Value) (us:4e9),us.length=ps.length->bindArgs (W.fnOf x qual (defArgs st) (defBody st) 17e0 .none kV doc pm an cdv ct) ⟨us,[]⟩=pure (ps.zip us)):Binds K fd ps []:=by
 obtain ⟨oc,od,kV,doc,pm,an,cdv,ct,osl,rfl,lk,hcd⟩:=F.ex
 exact .all (h kV doc pm an cdv ct)
theorem fun_mk {x qual:Str}{st:Stmt}{f:Addr}{oc:Value}{od an:Option Addr}{osl:Array (Option Value)}{kV doc pm cdv ct:Value}(l:K.lookup f=some ⟨oc,od,.func (W.fnOf x qual (defArgs st) (defBody st) 17e0 .none kV doc pm an cdv ct),osl⟩)
  (c:W.codeIn K cdv qual=true) (k:VX K (.ref f)=true):Fun K x qual st f (W.fnOf x qual (defArgs st) (defBody st) 17e0 .none kV doc pm an cdv ct):=⟨⟨oc,od,kV,doc,pm,an,cdv,ct,osl,rfl,l,c⟩,k⟩
end
theorem Zay {A:Around}{k:Nat}(hr:Room k A):A.units + 1 < cLine:=VY (Nat.add_le_add_left (by decide:1<=64) _) hr.units
section
variable {X:Cx}
theorem pv (i:Nat){x:Str}{pos:Pos}(hN:X.N[i]? = some x:=by rfl)(hv:Vis X.env.scope x:=by first | exact Or.inl rfl | exact Or.inr 2e5 | exact Or.inr 15e2)(hd:5e5:=by decide)
  (hcd:(x==("__classdict__":Str))=false:=by decide):PE X (.Name x pos) (tVar i):=pe_var hN hv hd hcd
end
end L2
set_option maxHeartbeats 4000000
namespace L2
open PySem PySem.Spec PyProof.Rows
section
variable {κ:Type} [DecidableEq κ]
def valV (kvs:List (κ×V))(k:κ):Option V:=(kvs.find? fun kv=>decide (kv.1=k)).map (·.2)
def putK (kvs:List (κ×V))(k:κ)(v:V):List (κ×V):=
 if (kvs.any fun kv=>decide (kv.1=k))=true then kvs.map (fun kv=>if kv.1=k then (kv.1,v) else kv) else kvs++[(k,v)]
theorem Zb2 {p:κ×V}{r:List (κ×V)}{k:κ}(e:p.1=k):valV (p::r) k=some p.2:=by simp[valV,WR,e]
theorem Zb3 {p:κ×V}{r:List (κ×V)}{k:κ}(e:¬p.1=k):valV (p::r) k=valV r k:=by simp[valV,WR,e]
theorem valV_any (k:κ):∀kvs:List (κ×V),(kvs.any fun kv=>decide (kv.1=k))=(valV kvs k).isSome
 | []=>rfl
 | p::r=>by
  rw[XN]
  by_cases e:p.1=k
  ·simp only[Zb2 e,decide_eq_true e,Bool.true_or,Option.isSome_some]
  ·rw[Zb3 e,decide_eq_false e,Bool.false_or];exact valV_any k r
theorem ZbC (kvs:List (κ×V))(k:κ)(v:V):(putK kvs k v).length<=kvs.length + 1:=by
 unfold putK
 split
 ·rw[YA];lia
 ·rw[Xa,YX,WT];lia
theorem RelO.isSome_eq {o:Option V}{u:Option Value}(r:RelO o u):o.isSome=u.isSome:=by
 cases o with
 | none=>cases u with
  | none=>rfl
  | some _=>exact (show False from r).elim
 | some _=>cases u with
  | none=>exact (show False from r).elim
  | some _=>rfl
theorem KV.val {kvs:List (κ×V)}{vs:List (κ×Value)}(r:KV kvs vs)(k:κ):RelO (valV kvs k) (UV vs k):=by
 unfold KV at r
 induction r with
 | nil=>exact WI
 | @cons p q ps qs h t ih=>
  obtain ⟨h1,h2⟩:=h
  by_cases e:p.1=k
  ·have e':q.1=k:=h1.symm.trans e
   have b:UV (q::qs) k=some q.2:=by simp[UV,WR,e']
   rw[Zb2 e,b];exact h2
  ·have e':¬q.1=k:=fun z=>e (h1.trans z)
   have b:UV (q::qs) k=UV qs k:=by simp[UV,WR,e']
   rw[Zb3 e,b];exact ih
theorem KV.any {kvs:List (κ×V)}{vs:List (κ×Value)}(r:KV kvs vs)(k:κ):(kvs.any fun kv=>decide (kv.1=k))=vs.any fun kv=>decide (kv.1=k):=by
 unfold KV at r
 induction r with
 | nil=>rfl
 | cons h t ih=>rw[XN,XN,ih,h.1]
theorem KV.repl {kvs:List (κ×V)}{vs:List (κ×Value)}(r:KV kvs vs)(k:κ){y:V}{u:Value}(ry:RelV y u):
  KV (kvs.map fun kv=>if kv.1=k then (kv.1,y) else kv) (vs.map fun kv=>if kv.1=k then (kv.1,u) else kv):=by
 unfold KV at r ⊢
 induction r with
 | nil=>exact .nil
 | @cons p q ps qs h t ih=>
  rw[Yq,Yq]
  refine .cons ?_ ih
  obtain ⟨h1,h2⟩:=h
  by_cases e:p.1=k
  ·rw[if_pos e,if_pos (h1.symm.trans e)];exact ⟨h1,ry⟩
  ·rw[if_neg e,if_neg (fun z=>e (h1.trans z))];exact ⟨h1,h2⟩
theorem KV.put {kvs:List (κ×V)}{vs:List (κ×Value)}(r:KV kvs vs)(k:κ){y:V}{u:Value}(ry:RelV y u):KV (putK kvs k y) (stored vs k u):=by
 unfold putK stored
 rw[r.any k]
 by_cases e:(vs.any fun kv=>decide (kv.1=k))=true
 ·rw[if_pos e,if_pos e];exact r.repl k ry
 ·rw[if_neg e,if_neg e];exact Paired.snoc r ⟨rfl,ry⟩
theorem KV.keys {kvs:List (κ×V)}{vs:List (κ×Value)}(r:KV kvs vs):kvs.map (·.1)=vs.map (·.1):=by
 unfold KV at r
 induction r with
 | nil=>rfl
 | cons h t ih=>rw[Yq,Yq,ih,h.1]
theorem KV.length {kvs:List (κ×V)}{vs:List (κ×Value)}(r:KV kvs vs):kvs.length=vs.length:=Vf r
end
theorem kV_is {P:YD}{w:World}{k:Key}{u:Value}(r:RelV (kV k) u):(mixKind P w).is k u=true:=by
 cases k with
 | inl i=>obtain ⟨t,e⟩:=(show ∃t,u=Value.int i t from r);subst e;exact mixKind_int P w i t
 | inr x=>obtain ⟨t,e⟩:=(show ∃t,u=Value.str x t from r);subst e;exact mixKind_str P w x t
theorem items_are {P:YD}{w:World}:∀{ks:11e9} {us:4e9},Vals (ks.map kV) us->ItemsAre (mixKind P w) ks us
 | [],_,r=>by rw[Ww] at r;cases r;exact .nil
 | k::ks,_,r=>by
  rw[Yq] at r
  cases r with
  | cons h t=>exact .cons (kV_is h) (items_are t)
abbrev KT (H:Hp):List (List Key×V)->List 13e6->Prop:=Paired fun p q=>p.1=q.1/\H q.2.1=some (.tup (p.1.map kV))/\RelV p.2 q.2.2
theorem KT.val {H:Hp}{kvs:19e2}{xs:List 13e6}(r:KT H kvs xs)(k:11e9):RelO (valV kvs k) ((atKey xs k).map (·.2)):=by
 induction r with
 | nil=>exact WI
 | @cons p q ps qs h t ih=>
  obtain ⟨h1,_,h2⟩:=h
  by_cases e:p.1=k
  ·have e':q.1=k:=h1.symm.trans e
   have b:atKey (q::qs) k=some q.2:=by simp[atKey,WR,e']
   rw[Zb2 e,b];exact h2
  ·have e':¬q.1=k:=fun z=>e (h1.trans z)
   have b:atKey (q::qs) k=atKey qs k:=by simp[atKey,WR,e']
   rw[Zb3 e,b];exact ih
theorem KT.repl {H:Hp}{kvs:19e2}{xs:List 13e6}(r:KT H kvs xs)(k:11e9){y:V}{u:Value}(ry:RelV y u):
  KT H (kvs.map fun kv=>if kv.1=k then (kv.1,y) else kv) (xs.map (putAt k u)):=by
 induction r with
 | nil=>exact .nil
 | @cons p q ps qs h t ih=>
  rw[Yq,Yq]
  refine .cons ?_ ih
  obtain ⟨h1,h2,h3⟩:=h
  unfold putAt
  by_cases e:p.1=k
  ·rw[if_pos e,if_pos (h1.symm.trans e)];exact ⟨h1,h2,ry⟩
  ·rw[if_neg e,if_neg (fun z=>e (h1.trans z))];exact ⟨h1,h2,h3⟩
theorem KT.put {H:Hp}{kvs:19e2}{xs:List 13e6}(r:KT H kvs xs)(k:11e9){b:Addr}{y:V}{u:Value}(hb:H b=some (.tup (k.map kV)))(ry:RelV y u):
  KT H (putK kvs k y) (storedH xs k b u):=by
 have e:(kvs.any fun kv=>decide (kv.1=k))=(atKey xs k).isSome:=by
  rw[valV_any,(r.val k).isSome_eq,V8]
 unfold putK storedH
 rw[e]
 by_cases q:(atKey xs k).isSome=true
 ·rw[if_pos q,if_pos q];exact r.repl k ry
 ·rw[if_neg q,if_neg q];exact Paired.snoc r ⟨rfl,hb,ry⟩
theorem KT.keeps {H H':Hp}{kvs:19e2}{xs:List 13e6}(r:KT H kvs xs)(ht:∀b ys,H b=some (.tup ys)->H' b=some (.tup ys)):KT H' kvs xs:=
 Paired.mapP r fun _ _ z=>⟨z.1,ht _ _ z.2.1,z.2.2⟩
section
variable {P:YD}{w:World}{H:Hp}{h:Heap}{a:Addr}
theorem rd_of {u:HO}(ok:HOk P w H h)(e:Rd H a u):ObjOk P w H h a u:=e.ok ok
theorem dk_rd {kvs:List (Key×V)}(ok:HOk P w H h)(e:Rd H a (.dK kvs)):kvs.length<=Yu/\(a==Wd)=false/\∃vs,KV kvs vs/\h.DictOf (mixKind P w) a vs:=
 show ObjOk P w H h a (.dK kvs) from rd_of ok e
theorem dk_of {kvs:List (Key×V)}(ok:HOk P w H h)(e:H a=some (.dK kvs)):kvs.length<=Yu/\(a==Wd)=false/\∃vs,KV kvs vs/\h.DictOf (mixKind P w) a vs:=dk_rd ok (.inl e)
theorem ZcF {ks:11e9}(ok:HOk P w H h)(e:H a=some (.tup (ks.map kV))):(WO (mixKind P w)).is h ks a:=by
 obtain ⟨_,its,r,o,h1,h2,n,h3⟩:=(show ObjOk P w H h a (.tup (ks.map kV)) from ok a _ e)
 exact ⟨o,its.toArray,n,h1,h2,h3,by simpa using items_are r⟩
theorem dt_rd {kvs:19e2}(ok:HOk P w H h)(e:Rd H a (.dT kvs)):kvs.length<=Yu/\(a==Wd)=false/\
  ∃xs,KT H kvs xs/\h.DictOfH (WO (mixKind P w)) a xs:=by
 obtain ⟨z,y,xs,r,o,es,ep,h1,h2,h3,h4,h5⟩:=(show ObjOk P w H h a (.dT kvs) from rd_of ok e)
 refine ⟨z,y,xs,r,o,es,ep,h1,h2,h3,h4,fun x hx=>?_,h5⟩
 have all:∀{l:19e2} {m:List 13e6},KT H l m->∀x∈m,(WO (mixKind P w)).is h x.1 x.2.1:=by
  intro l m q
  induction q with
  | nil=>intro x hx;exact nomatch hx
  | @cons p q ps qs hq t ih=>
   intro x hx
   rcases Ym.mp hx with e | hx
   ·subst e
    exact ZcF ok (by rw[←hq.1];exact hq.2.1)
   ·exact ih x hx
 exact all r x hx
theorem dt_of {kvs:19e2}(ok:HOk P w H h)(e:H a=some (.dT kvs)):kvs.length<=Yu/\(a==Wd)=false/\
  ∃xs,KT H kvs xs/\h.DictOfH (WO (mixKind P w)) a xs:=dt_rd ok (.inl e)
end
def DGet (H:Hp)(a:Addr)(y:V)(r:Option V):Prop:=
 (∃kvs k,Rd H a (.dK kvs)/\y=kV k/\r=valV kvs k)\/∃kvs k b,Rd H a (.dT kvs)/\y=.ref b/\H b=some (.tup (k.map kV))/\r=valV kvs k
def DPut (H:Hp)(a:Addr)(y v:V)(H':Hp):Prop:=
 (∃kvs k,H a=some (.dK kvs)/\y=kV k/\kvs.length < Yu/\H'=upd H a (.dK (putK kvs k v)))\/
 ∃kvs k b,H a=some (.dT kvs)/\y=.ref b/\H b=some (.tup (k.map kV))/\kvs.length < Yu/\H'=upd H a (.dT (putK kvs k v))
theorem DGet.k {H:Hp}{a:Addr}{kvs:List (Key×V)}{k:Key}(e:H a=some (.dK kvs)):DGet H a (kV k) (valV kvs k):=.inl ⟨kvs,k,.inl e,rfl,rfl⟩
theorem DPut.k {H:Hp}{a:Addr}{kvs:List (Key×V)}{k:Key}{v:V}(e:H a=some (.dK kvs))(hl:kvs.length < Yu):DPut H a (kV k) v (upd H a (.dK (putK kvs k v))):=.inl ⟨kvs,k,e,rfl,hl,rfl⟩
theorem DPut.t {H:Hp}{a b:Addr}{kvs:19e2}{k:11e9}{v:V}(e:H a=some (.dT kvs))(eb:H b=some (.tup (k.map kV)))(hl:kvs.length < Yu):
  DPut H a (.ref b) v (upd H a (.dT (putK kvs k v))):=.inr ⟨kvs,k,b,e,rfl,eb,hl,rfl⟩
section
variable {X:Cx}{pins:2e0}{σ:St}{H:Hp}{s:Shared}{a:Addr}{y v:V}{u r:Value}{o:Option V}{A:Around}{E:1e7}
theorem Inv.big (I:2e3):Wd < s.heap.objs.size:=by
 have h:Uc < s.heap.objs.size:=(I.mod.glob.keeps I.bk).lt
 exact Ut 1e6 h
theorem d_getItem {Q:1e7}(hu:A.units + 1 < cLine)(I:2e3)(g:DGet H a y (some v))(ry:RelV y u)(h:∀w' s',Inv X pins σ H s'->RelV v w'->Q w' s'):
  wpAny 2e7 A (UI (.ref a) u) Q E s:=by
 rcases g with ⟨kvs,k,e,ey,l⟩ | ⟨kvs,k,b,e,ey,eb,l⟩
 ·subst ey
  obtain ⟨z,hd,vs,rel,dd⟩:=dk_rd I.hok e
  obtain ⟨w',hw,rw'⟩:=RelO.some_of (v:=v) (o:=UV vs k) (by rw[l];exact rel.val k)
  exact wpAny_getItem_of (kV_is ry) dd.mapOf hw (h w' _ (I.tok _) rw')
 ·subst ey
  cases (show u=YE b from ry)
  obtain ⟨z,hd,xs,rel,dd⟩:=dt_rd I.hok e
  obtain ⟨w',hw,rw'⟩:=RelO.some_of (v:=v) (o:=(atKey xs k).map (·.2)) (by rw[l];exact rel.val k)
  obtain ⟨p,hp,hp2⟩:=XV.mp hw
  refine wpAny_getItem_heap (Vm hu) (ZcF I.hok eb) dd hp ?_
  rw[hp2]
  exact h w' _ (I.tok _) rw'
theorem d_in {Q:1e7}(hu:A.units + 1 < cLine)(I:2e3)(g:DGet H a y o)(ry:RelV y u)(h:∀s',Inv X pins σ H s'->Q (.bool o.isSome) s'):
  wpAny 2e7 A (XU .In u (.ref a)) Q E s:=by
 rcases g with ⟨kvs,k,e,ey,l⟩ | ⟨kvs,k,b,e,ey,eb,l⟩
 ·subst ey
  obtain ⟨z,hd,vs,rel,dd⟩:=dk_rd I.hok e
  refine wpAny_in_of (kV_is ry) hd dd.mapOf ?_
  rw[←(rel.val k).isSome_eq,←l]
  exact h _ (I.tok _)
 ·subst ey
  cases (show u=YE b from ry)
  obtain ⟨z,hd,xs,rel,dd⟩:=dt_rd I.hok e
  refine wpAny_in_heap (Vm hu) (ZcF I.hok eb) hd dd ?_
  have q:=(rel.val k).isSome_eq
  rw[V8] at q
  rw[←q,←l]
  exact h _ (I.tok _)
theorem d_notIn {Q:1e7}(hu:A.units + 1 < cLine)(I:2e3)(g:DGet H a y o)(ry:RelV y u)(h:∀s',Inv X pins σ H s'->Q (.bool (!o.isSome)) s'):
  wpAny 2e7 A (XU .NotIn u (.ref a)) Q E s:=by
 rcases g with ⟨kvs,k,e,ey,l⟩ | ⟨kvs,k,b,e,ey,eb,l⟩
 ·subst ey
  obtain ⟨z,hd,vs,rel,dd⟩:=dk_rd I.hok e
  refine wpAny_notIn_of (kV_is ry) hd dd.mapOf ?_
  rw[←(rel.val k).isSome_eq,←l]
  exact h _ (I.tok _)
 ·subst ey
  cases (show u=YE b from ry)
  obtain ⟨z,hd,xs,rel,dd⟩:=dt_rd I.hok e
  refine wpAny_notIn_heap (Vm hu) (ZcF I.hok eb) hd dd ?_
  have q:=(rel.val k).isSome_eq
  rw[V8] at q
  rw[←q,←l]
  exact h _ (I.tok _)
theorem d_write {h':Heap}{t':Nat}{ob:HO}(I:2e3)(mu:Mut (H a))(hs:Wg a s.heap h')(he:∃q,h'.get? a=some q)(new:ObjOk X.prog X.w (upd H a ob) h' a ob):
  Inv X pins σ (upd H a ob) { s with heap:=h',toks:=t' }:=
 I.write (x:=a) (e:=a) mu 17e4 (fun b q hb z=>(hs.2 b hb).trans z) he new
theorem dk_new {P:YD}{w:World}{H':Hp}{h':Heap}{kvs:List (Key×V)}{vs:List (Key×Value)}(z:kvs.length<=Yu)(hd:(a==Wd)=false)(rel:KV kvs vs)(dd:h'.DictOf (mixKind P w) a vs):
  ObjOk P w H' h' a (.dK kvs):=⟨z,hd,vs,rel,dd⟩
theorem d_setItem {H':Hp}{Q:Unit->Shared->Prop}(hu:A.units + 1 < cLine)(I:2e3)(g:DPut H a y v H')(ry:RelV y u)(rv:RelV v r)(h:∀s',Inv X pins σ H' s'->Q () s'):
  wpAny 2e7 A (setItem (.ref a) u r) Q E s:=by
 rcases g with ⟨kvs,k,e,ey,l,eH⟩ | ⟨kvs,k,b,e,ey,eb,l,eH⟩
 ·subst ey eH
  obtain ⟨z,hd,vs,rel,dd⟩:=dk_of I.hok e
  have hz:vs.length<=sizeLine:=by rw[←rel.length];exact z
  have hl:(putK kvs k v).length<=sizeLine:=by have:=ZbC kvs k v;lia
  refine wpAny_setItem_pairs (hsz:=hz) (kV_is ry) dd fun h' dd' hs=>h _ ?_
  have he:∃q,h'.get? a=some q:=let ⟨q,_,_,hq,_⟩:=dd';⟨q,hq⟩
  exact d_write I (by rw[e];exact WI) hs he (dk_new hl hd (rel.put k rv) dd')
 ·subst ey eH
  cases (show u=YE b from ry)
  obtain ⟨z,hd,xs,rel,dd⟩:=dt_of I.hok e
  have hz:xs.length<=sizeLine:=by rw[←Vf rel];exact z
  have hl:(putK kvs k v).length<=sizeLine:=by have:=ZbC kvs k v;lia
  refine wpAny_setItem_heap (hsz:=hz) (Vm hu) (ZcF I.hok eb) dd fun h' dd' hs=>h _ ?_
  obtain ⟨q,es,ep,hq,h2,h3,h4,_,h5⟩:=dd'
  refine d_write I (by rw[e];exact WI) hs ⟨q,hq⟩ ⟨hl,hd,_,(rel.put k eb rv).keeps fun c ys ec=>?_,q,es,ep,hq,h2,h3,h4,h5⟩
  rw[Zaw (ne_of ec e (fun z=>nomatch z))]
  exact ec
end
theorem dict_typeIs {X:Cx}{pins:2e0}{σ:St}{H:Hp}{s:Shared}{a:Addr}{y:V}{o:Option V}(I:2e3)(g:DGet H a y o):s.TypeIs (.ref a) "dict":=by
 rcases g with ⟨kvs,k,e,_,_⟩ | ⟨kvs,k,b,e,_,_,_⟩
 ·obtain ⟨_,_,vs,_,dd⟩:=dk_rd I.hok e
  exact dd.typeIs
 ·obtain ⟨_,_,xs,_,dd⟩:=dt_rd I.hok e
  exact dd.typeIs
def sDPut (td ty tv:TE):TS:=fun D σ H=>tv σ H fun v H1=>td σ H1 fun x H2=>ty σ H2 fun y H3=>∃a H4,x=.ref a/\DPut H3 a y v H4/\D.nx σ H4
section
variable {X:Cx}{o i e value:Expr}{pos pos' tpos:Pos}{td ty tv:TE}
theorem ps_dput (hu:X.A.units + 1 < cLine)(ho:PE X o td)(hi:PE X i ty)(hv:PE X value tv)(hs:WP value (some (.Subscript o i pos')) pos.line X.env=pure false):
  PS X (.Assign [.Subscript o i pos'] value pos) (sDPut td ty tv):=by
 intro pins s σ H D I h
 refine wpAny_Assign_Subscript (thn (hv pins s σ H _ I h) fun r s1 ⟨v,H1,I1,rv,q1⟩=>thn (ho pins s1 σ H1 _ I1 q1) fun u s2 ⟨x,H2,I2,rx,q2⟩=>thn (hi pins s2 σ H2 _ I2 q2) fun iv s3 ⟨y,H3,I3,ry,a,H4,ex,g,q3⟩=>?_) hs
 subst ex
 obtain rfl:u=YE a:=rx
 exact d_setItem hu I3 g ry rv fun s4 I4=>⟨σ,H4,I4,q3⟩
end
theorem dk_empty {P:YD}{w:World}{H:Hp}(h:Heap)(hb:Wd < h.objs.size):ObjOk P w H (h.push { cls:=.type "dict",data:=.dict #[] }) h.objs.size (.dK []):=
 ⟨YV _,beq_eq_false_iff_ne.mpr (Xx (Yr hb)),[],.nil,Heap.DictOf.new h⟩
theorem dt_empty {P:YD}{w:World}{H:Hp}(h:Heap)(hb:Wd < h.objs.size):ObjOk P w H (h.push { cls:=.type "dict",data:=.dict #[] }) h.objs.size (.dT []):=
 ⟨YV _,beq_eq_false_iff_ne.mpr (Xx (Yr hb)),[],.nil,_,#[],0,Yp _ rfl,⟨rfl,rfl,rfl⟩,rfl,rfl,W5⟩
def tDNewK:TE:=fun _ H Q=>∀p,H p=none->Q (.ref p) (upd H p (.dK []))
def tDNewT:TE:=fun _ H Q=>∀p,H p=none->Q (.ref p) (upd H p (.dT []))
section
variable {X:Cx}{pos:Pos}
theorem pe_dnewK:PE X (.Dict [] [] pos) tDNewK:=fun pins s σ H Q I h=>
 wpAny_Dict_empty ⟨.ref s.heap.objs.size,_,I.laid (a:=s.heap.objs.size) (o:=.dK []) (t':=s.toks) (fun _ _ q=>Yc _ q) (Yh _) (dk_empty s.heap I.big),rfl,h _ (I.hok.fresh (Yh _))⟩
theorem pe_dnewT:PE X (.Dict [] [] pos) tDNewT:=fun pins s σ H Q I h=>
 wpAny_Dict_empty ⟨.ref s.heap.objs.size,_,I.laid (a:=s.heap.objs.size) (o:=.dT []) (t':=s.toks) (fun _ _ q=>Yc _ q) (Yh _) (dt_empty s.heap I.big),rfl,h _ (I.hok.fresh (Yh _))⟩
end
structure M1 (X:Cx)(o:Expr)(m:Str)(apos:Pos)(e:Expr)(cpos:Pos):Prop where
 base:Ud o m X.env (eval o X.env)=eval o X.env
 few:((backTo cpos (Yo [e] X.env)).all (fun x=>!x.1)&&(backToKw cpos (UJ [] X.env)).all (fun x=>x.1.isSome)
  &&decide (([e]:List Expr).length + ([]:List UK).length + (if ([]:List UK).isEmpty then 0 else 1) < 30))=true
 line:(apos.endLine==cpos.line)=true
 trees:backTo cpos (Yo [e] X.env)=[(false,eval e X.env)]
def clFrom (cells:List (Str×Addr)):List (Str×Vk)->List (Str×Addr)->List (Str×Addr)
  | [],cs=>cs
  | (n,k)::r,cs=>clFrom cells r (if k=.free then (n,(cells.lookup n).getD 0)::cs else cs)
theorem Zdv {cells:List (Str×Addr)}:∀{names:List (Str×Vk)} {cs:List (Str×Addr)},(∀y∈names,y.2=.free->∃c,cells.lookup y.1=some c)->(∀x c,cs.lookup x=some c->cells.lookup x=some c)->
    ∀x c,(clFrom cells names cs).lookup x=some c->cells.lookup x=some c
  | [],_,_,h,x,c,e=>h x c e
  | (n,k)::r,cs,hn,h,x,c,e=>by
    unfold clFrom at e
    refine Zdv (fun y hy=>hn y (YR _ hy)) (fun y d q=>?_) x c e
    by_cases hk:k=.free
    · rw[if_pos hk] at q
      obtain ⟨c',hc'⟩:=hn (n,k) YM hk
      rw[Y7] at q
      by_cases hy:y==n
      · rw[hy] at q
        have:y=n:=by simpa using hy
        subst this
        rw[show cells.lookup y=some c' from hc'] at q ⊢
        simpa using q
      · have hy':(y==n)=false:=by simpa using hy
        rw[hy'] at q
        exact h y d q
    · rw[if_neg hk] at q
      exact h y d q
theorem ZcH {cells:List (Str×Addr)}{x:Str}:∀{names:List (Str×Vk)} {cs:List (Str×Addr)},(∃c,cs.lookup x=some c)->∃c,(clFrom cells names cs).lookup x=some c
  | [],_,h=>h
  | (n,k)::r,cs,h=>by
    unfold clFrom
    refine ZcH ?_
    by_cases hk:k=.free
    · rw[if_pos hk,Y7]
      by_cases hy:x==n
      · rw[hy];exact 9e7
      · have hy':(x==n)=false:=by simpa using hy
        rw[hy'];exact h
    · rw[if_neg hk];exact h
theorem Zcz {cells:List (Str×Addr)}{x:Str}:∀{names:List (Str×Vk)} {cs:List (Str×Addr)},(x,Xq)∈names->∃c,(clFrom cells names cs).lookup x=some c
  | [],_,h=>nomatch h
  | (n,k)::r,cs,h=>by
    unfold clFrom
    rcases Ym.mp h with e | h
    · cases e
      refine ZcH ?_
      rw[if_pos rfl,Y7]
      simp
    · exact Zcz h
theorem ZbV {env:Env}{scope:Scope}(h:∀y∈scope.names,y.2=.free->∃c,env.cells.lookup y.1=some c):closureFor scope env=pure (clFrom env.cells scope.names []):=by
 simp only[closureFor]
 have key:∀(names:List (Str×Vk)) (cs:List (Str×Addr)),(∀y∈names,y.2=.free->∃c,env.cells.lookup y.1=some c)->
   (forIn names cs fun x r=>if (x.2==Xq)=true then do let a ←cellOf env x.1;pure (WU ((x.1,a)::r)) else pure (WU r):Sem (List (Str×Addr)))=pure (clFrom env.cells names cs):=by
  intro names
  induction names with
  | nil=>intro cs _;rfl
  | cons y r ih=>
   intro cs hn
   obtain ⟨n,k⟩:=y
   rw[List.forIn_cons]
   by_cases hk:k=.free
   ·obtain ⟨c,hc⟩:=hn (n,k) YM hk
    have hc':env.cells.lookup n=some c:=hc
    subst hk
    have e1:cellOf env n=pure c:=by unfold cellOf;rw[hc']
    show (_ >>= _)=_
    simp only[beq_self_eq_true,if_true,e1]
    unfold clFrom
    rw[if_pos rfl,hc']
    exact ih _ fun y hy=>hn y (YR _ hy)
   ·have e2:(k==Xq)=false:=by simpa using hk
    show (_ >>= _)=_
    simp only[e2,YO,if_false]
    unfold clFrom
    rw[if_neg hk]
    exact ih _ fun y hy=>hn y (YR _ hy)
 rw[key scope.names [] h]
 rfl
section
variable {prog:YD}{w:World}{A:Around}{R:16e2}{s:Shared}
abbrev Out (prog:YD)(w:World)(A:Around)(env:Env)(R:16e2):Value->Shared->Prop:=notedBy 3e2 A env fun e s'=>R (.error e) s'
abbrev testsOf (env:Env)(ifs:6e1):Sem Bool:=forIn ifs true fun c r=>if r=true then do let ok ←isTrue c env (eval c env);pure (WU ok) else pure (WU r)
theorem compLoop_any {elt target iter:Expr}{ifs:6e1}{scope:Scope}{pos:Pos}{it acc:Value}{env:Env}(I:Nat->Shared->Prop)
  (turn:∀k z,I k z->wpAny 3e2 A (pyNext it) (fun r z1=>match r with
   | none=>R (.ok .next) z1
   | some v=>wpAny 3e2 A (X6 target it v) (fun _ z2=>wpAny 3e2 A (assign target env v) (fun _ z3=>wpAny 3e2 A (testsOf env ifs) (fun yes z4=>
     if yes=true then wpAny 3e2 A (eval elt env) (fun x z5=>wpAny 3e2 A (call (.builtin "list.append") [acc,x]) (fun _ z6=>∃m,m < k/\I m z6) (Out prog w A env R) z5) (Out prog w A env R) z4
     else ∃m,m < k/\I m z4) (Out prog w A env R) z3) (Out prog w A env R) z2) (Out prog w A env R) z1) (Out prog w A env R) z)
  (n:Nat) (h:I n s):X3 3e2 A (.compLoop (.ListComp elt [⟨target,iter,ifs,0⟩] scope pos) 0 it acc env) R s:=by
 refine Uu rfl I ?_ n h
 intro k z hz
 refine UL ?_
 rw[compTurn_list]
 apply Ya
 apply X1
 apply Ya
 refine Y1 (turn k z hz) ?_ fun _ _ e=>e
 rintro (_ | v) z1 y1
 ·exact Yd y1
 apply Ya
 refine Y1 y1 (fun _ z2 y2=>?_) fun _ _ e=>e
 apply Ya
 refine Y1 y2 (fun _ z3 y3=>?_) fun _ _ e=>e
 apply Ya
 refine Y1 y3 (fun yes z4 y4=>?_) fun _ _ e=>e
 by_cases b:yes=true
 ·subst b
  apply Ya
  apply Ya
  refine Y1 y4 (fun x z5 y5=>?_) fun _ _ e=>e
  apply Ya
  exact Y1 y5 (fun _ z6 y6=>Yd (Yd ⟨rfl,y6⟩)) fun _ _ e=>e
 ·have nb:yes=false:=by simpa using b
  subst nb
  exact Yd ⟨rfl,y4⟩
end
def CompCx (X:Cx)(N':5e9)(scope:Scope)(C:Addr)(s₀:Shared)(H₀:Hp)(ex:4e3)(pn:2e0):Cx:=
 { X with N:=N',s₀:=s₀,H₀:=H₀,env:=UE scope (clFrom X.env.cells scope.names []) C X.env,outer:=X.stack,ex:=ex,fn:=fun _=>false,pn:=pn,xe:=fun _ _=>False }
structure CSc (X:Cx)(scope:Scope)(vs fs:List Str)(fr:List Nat):Prop where
 kind:scope.kind=.function
 cell:(scope.names.all fun y=>y.2 != .cell)=true
 free:(scope.names.all fun y=>y.2 != .free||(X.env.kindOf y.1==some .cell||X.env.kindOf y.1==some .free))=true
 loc:(scope.names.all fun y=>y.2 != .local||scope.names.lookup y.1==some .local)=true
 fre:(scope.names.all fun y=>y.2 != .free||scope.names.lookup y.1==some .free)=true
 fsf:(fs.all fun x=>scope.names.lookup x==some .free)=true
 at':fr.map (fun i=>X.N[i]?)=fs.map some
def PTs (X:Cx)(ifs:6e1)(t:TT):Prop:=
 ∀(pins:2e0) (s:Shared) (σ:St) (H:Hp) (Q:Bool->Hp->Prop),Inv X pins σ H s->t σ H Q->
  wpAny 2e7 X.A (forIn ifs true fun c r=>if r=true then do let ok ←isTrue c X.env (eval c X.env);pure (WU ok) else pure (WU r)) (TP X pins σ Q) X.xe s
def tYes:TT:=fun _ H Q=>Q true H
theorem pts_nil {X:Cx}:PTs X [] tYes:=fun _ _ _ H _ I h=>wpAny_tests_nil ⟨H,I,h⟩
theorem pts_one {X:Cx}{c:Expr}{t:TT}(h:PT X c t):PTs X [c] t:=fun pins s σ H Q I q=>wpAny_tests_one (h pins s σ H Q I q)
def stIn (vs:5e9)(fr:12e5)(σ:St):St:=vs.map (fun _=>none)++fr.map fun i=>(σ[i]?).join
def CompW (J:It)(vs:5e9)(fr:12e5)(g:TG)(tt:TT)(te:TE)(σ:St)(H1:Hp)(Q:VK):Prop:=
 ∃W:Nat->Nat->St->List V->Hp->Prop,(∃m,W 0 m (stIn vs fr σ) [] H1)/\∀i m σ' ys H,W i m σ' ys H->
  (J.stop i H/\ys.length<=Yu/\∀D,H D=none->Q (.ref D) (upd H D (.lst ys)))\/
  (J.go i H/\ys.length<=Yu/\∃N:St->List V->Hp->Prop,(∀σ2 ys2 H2,N σ2 ys2 H2->∃m',m' < m/\W (i + 1) m' σ2 ys2 H2)/\∀x H',J.yld i H x H'->g x σ' H' fun σ2 H2=>tt σ2 H2 fun b H3=>
   if b=true then te σ2 H3 fun y H4=>N σ2 (ys++[y]) H4 else N σ2 ys H3)
def tComp (wi:TI)(vs:5e9)(fr:12e5)(g:TG)(tt:TT)(te:TE):TE:=fun σ H Q=>wi σ H fun J H1=>CompW J vs fr g tt te σ H1 Q
section
variable {X:Cx}{tg elt iter:Expr}{ifs:6e1}{scope:Scope}{pos:Pos}{vs fs:5e9}{fr:12e5}
theorem mem_all {α:Type}{p:α->Bool}{l:List α}(h:l.all p=true){x:α}(hx:x∈l):p x=true:=YW.mp h x hx
theorem CSc.cell' (S:10e4):∀y∈scope.names,y.2≠.cell:=fun y hy e=>by have:=mem_all S.cell hy;rw[e] at this;simp at this
theorem CSc.free' (S:10e4):∀y∈scope.names,y.2=.free->X.env.kindOf y.1=some .cell\/X.env.kindOf y.1=some .free:=fun y hy e=>by
 have:=mem_all S.free hy;rw[e] at this;simpa using this
theorem CSc.loc' (S:10e4):∀y∈scope.names,y.2=.local->scope.names.lookup y.1=some .local:=fun y hy e=>by
 have:=mem_all S.loc hy;rw[e] at this;simpa using this
theorem Zbw {α β:Type} [BEq α] [LawfulBEq α]:∀{l:List (α×β)} {x:α} {k:β},l.lookup x=some k->(x,k)∈l
  | [],_,_,h=>by simp at h
  | (n,k')::r,x,k,h=>by
    rw[Y7] at h
    cases e:x==n with
    | true=>rw[e] at h;cases h;rw[eq_of_beq e];exact YM
    | false=>rw[e] at h;exact YR _ (Zbw h)
theorem ZbI {env:Env}{x:Str}:∀{names:List (Str×Vk)} {k:Vk},
    (names.map fun (n,k)=>if 16e0 then (n,Wz) else (n,k)).lookup x=some k->
    names.lookup x=some k\/(k=.cell/\names.lookup x=some .free)
  | [],_,h=>by simp at h
  | (n,k')::r,k,h=>by
    have ih:=@ZbI env x r k
    have h':List.lookup x ((if 8e3=true then (n,Wz) else (n,k'))::(r.map fun (n,k)=>if 16e0 then (n,Wz) else (n,k)))=some k:=h
    cases hx:x==n with
    | true=>
      by_cases hc:8e3=true
      · rw[if_pos hc] at h'
        simp only[Y7,hx] at h' ⊢
        cases h'
        have:k'=.free:=by simp at hc;exact hc.1.1
        exact .inr ⟨rfl,by rw[this]⟩
      · rw[if_neg hc] at h'
        simp only[Y7,hx] at h' ⊢
        exact .inl h'
    | false=>
      by_cases hc:8e3=true
      · rw[if_pos hc] at h'
        simp only[Y7,hx] at h' ⊢
        exact ih h'
      · rw[if_neg hc] at h'
        simp only[Y7,hx] at h' ⊢
        exact ih h'
theorem ZcC {env:Env}{x:Str}:∀{names:List (Str×Vk)},names.lookup x=some .free->
    let l:=(names.map fun (n,k)=>if 16e0 then (n,Wz) else (n,k)).lookup x
    l=some .cell\/l=some .free
  | [],h=>by simp at h
  | (n,k')::r,h=>by
    have ih:=@ZcC env x r
    show List.lookup x ((if 8e3=true then (n,Wz) else (n,k'))::(r.map fun (n,k)=>if 16e0 then (n,Wz) else (n,k)))=some .cell\/
      List.lookup x ((if 8e3=true then (n,Wz) else (n,k'))::(r.map fun (n,k)=>if 16e0 then (n,Wz) else (n,k)))=some .free
    cases hx:x==n with
    | true=>
      simp only[Y7,hx] at h
      have h:k'=.free:=YG h
      by_cases hc:8e3=true
      · rw[if_pos hc,Y7,hx];exact .inl rfl
      · rw[if_neg hc,Y7,hx,h];exact .inr rfl
    | false=>
      simp only[Y7,hx] at h
      by_cases hc:8e3=true
      · rw[if_pos hc];simp only[Y7,hx];exact ih h
      · rw[if_neg hc];simp only[Y7,hx];exact ih h
end
section
variable {X:Cx}{tg elt iter:Expr}{ifs:6e1}{scope:Scope}{pos:Pos}{vs fs:5e9}{fr:12e5}
theorem CSc.clos (S:10e4)(ok:X.Ok):∀y∈scope.names,y.2=.free->∃c,X.env.cells.lookup y.1=some c:=fun y hy e=>ok.has y.1 (S.free' y hy e)
theorem CSc.cl (S:10e4)(ok:X.Ok){x:Str}{c:Addr}(e:(clFrom X.env.cells scope.names []).lookup x=some c):X.env.cells.lookup x=some c:=
 Zdv (S.clos ok) (fun _ _ q=>by simp at q) x c e
theorem ZaN {h:Heap}{b:Addr}{o:Obj}{n:Nat}(e:h.get? b=some o)(hn:h.objs.size<=n):b≠n:=Yr (Yn (Yz e) hn)
theorem Zcy {pins:2e0}{σ:St}{H:Hp}{s:Shared}{fp:4e3}{C:Addr}{h1:Heap}{tk:Nat}{m1:3e3}(S:10e4)(I:2e3)
  (hf:∀b∈fp,FpOk X pins H b) (hfo:∀b∈fp,∃o,s.heap.get? b=some o) (hC:s.heap.objs.size<=C) (hn:h1.Ns C m1) (old:∀b o,s.heap.get? b=some o->h1.get? b=some o):
  Inv (CompCx X (vs++fs) scope C s H fp (X.pn++pins)) [] (stIn vs fr σ) H { s with heap:=h1,toks:=tk }:=by
 have cl:=fun x c e=>S.cl I.ok (x:=x) (c:=c) e
 have hsub:=I.stkSub
 have cellLt:∀x c,X.env.cells.lookup x=some c->c < s.heap.objs.size:=fun x c e=>by obtain ⟨v,q⟩:=I.cell x c e;exact q.lt
 refine ⟨⟨I.ok.mod,S.kind,I.ok.glob,I.ok.blt,hC,fun x y c e1 e2=>I.ok.inj x y c (cl x c e1) (cl y c e2),fun x hx=>?_,fun _ _ z _=>(nomatch z),I.ok.hd,I.ok.frames,.inl rfl,fun b hb=>?_,I.bs,YQ I.ok.bsz I.sz,fun b o e hb=>?_,fun b hb z=>?_,I.stack,I.stkFree⟩,
  rfl,I.bare,Un.kept old,⟨m1,hn,fun i x v e1 e2 e3=>?_⟩,fun x c e=>?_,I.hok.fresh hC,fun x c e=>I.freeC x c (cl x c e),fun p hp=>?_,I.hok.kept old,?_⟩
 ·-- has
  have hx':(relabel scope X.env).names.lookup x=some .cell\/(relabel scope X.env).names.lookup x=some .free:=hx
  have:scope.names.lookup x=some .free:=by
   rcases hx' with q | q
   ·rcases ZbI q with q | ⟨_,q⟩
    ·exact absurd rfl (S.cell' _ (Zbw q))
    ·exact q
   ·rcases ZbI q with q | ⟨q,_⟩
    ·exact q
    ·cases q
  exact Zcz (Zbw this)
 ·-- exf
  obtain ⟨o,ho⟩:=hfo b hb
  obtain ⟨f0,f1,f2,f3,f4,f5⟩:=hf b hb
  exact ⟨ZaN ho hC,fun x c e=>f4 x c (cl x c e)⟩
 ·-- noex
  have e':=(I.ok.bs b o e).1
  obtain ⟨_,_,_,f3,_,_⟩:=hf b hb
  rcases f3 with z | z
  ·exact I.ok.noex b o e z
  ·exact absurd (Yn (Yz e') z) (X0 _)
 ·-- exfs
  obtain ⟨_,f1,f2,_⟩:=hf b hb
  rcases Ym.mp (hsub b z) with q | q
  ·exact f1 q
  ·exact f2 q
 ·-- loc
  have e1:(vs++fs)[i]? = some x:=e1
  unfold stIn at e2
  by_cases hi:i < vs.length
  ·rw[Yf (by simpa using hi)] at e2
   simp[hi] at e2
  ·rw[Y8 (by simpa using hi),YA,YL] at e2
   rw[Y8 (by simpa using hi)] at e1
   obtain ⟨j,hj⟩:∃j,fr[i - vs.length]? = some j:=by
    cases q:fr[i - vs.length]? with
    | none=>rw[q] at e2;cases e2
    | some j=>exact ⟨j,rfl⟩
   rw[hj] at e2
   have e2':(σ[j]?).join=some v:=YG e2
   have hσ:σ[j]? = some (some v):=by
    cases q:σ[j]? with
    | none=>rw[q] at e2';cases e2'
    | some r=>rw[q] at e2';exact congrArg some e2'
   have hN:X.N[j]? = some x:=by
    have:=congrArg (fun l=>l[i - vs.length]?) S.at'
    simp only[YL,hj,e1,Uv] at this
    exact YG this
   have hxf:scope.names.lookup x=some .free:=by
    have:=mem_all S.fsf (YK e1)
    simpa using this
   have hk:=S.free' _ (Zbw hxf) rfl
   obtain ⟨m,hm,hl⟩:=I.loc
   have hvis:Vis X.env.scope x:=by
    rcases hk with k | k
    ·exact .inr (.inl k)
    ·exact .inr (.inr k)
   obtain ⟨u,ru,lk⟩:=hl j x v hN hσ hvis
   refine ⟨u,ru,?_⟩
   rcases lk with ⟨k,_⟩ | ⟨_,c,hc,hv⟩
   ·have k':X.env.kindOf x=some .local:=k
    rcases hk with z | z
    ·have z':X.env.kindOf x=some .cell:=z
     rw[k'] at z';cases z'
    ·have z':X.env.kindOf x=some .free:=z
     rw[k'] at z';cases z'
   ·obtain ⟨c',hc'⟩:=Zcz (cells:=X.env.cells) (cs:=[]) (Zbw hxf)
    have:=cl x c' hc'
    rw[hc] at this
    cases this
    refine .inr ⟨ZcC hxf,c,hc',?_⟩
    obtain ⟨o,ho,hd⟩:=hv
    exact ⟨o,old c o ho,hd⟩
 ·-- cell
  obtain ⟨v,o,ho,hd⟩:=I.cell x c (cl x c e)
  exact ⟨v,o,old c o ho,hd⟩
 ·-- pin
  have hp':p∈X.pn++pins:=by simpa[CompCx] using hp
  obtain ⟨e,n,ne,nf,d⟩:=I.pin p hp'
  refine ⟨old _ _ e,n,ZaN e hC,fun z=>?_,d⟩
  rcases Ym.mp (hsub _ z) with q | q
  ·exact ne q
  ·exact nf q
 ·show (stIn vs fr σ).length=(vs++fs).length
  have:=congrArg List.length S.at'
  simp only[YA] at this
  unfold stIn
  simp[this]
theorem comp_back {pins:2e0}{σ σ':St}{H H':Hp}{s s':Shared}{fp:4e3}{C D:Addr}{ys:List V}{its:4e9}{n:Nat}{pl:2e0}(I:2e3)
  (hf:∀b∈fp,FpOk X pins H b) (J:Inv (CompCx X (vs++fs) scope C s H fp (X.pn++pins)) pl σ' H' s')
  (hD:s.heap.objs.size<=D) (hDn:H' D=none) (hl:ys.length<=Yu) (r:Vals ys its) (ho:s'.heap.get? D=some { cls:=.type "list",data:=.seq its.toArray n }):Inv X pins σ (upd H' D (.lst ys)) s':=by
 have ne:∀b o,s.heap.get? b=some o->b≠D:=fun b o e=>ZaN e hD
 have u:Un (frs X.stack) fp H H' s.heap s'.heap:=J.base
 refine I.call' (ch:=fp) J.os ⟨u.keep,u.slot,fun b o e q hx=>?_,u.there,fun b xs e=>?_,fun b o xs e=>?_,fun b ps e=>?_⟩ (fun b o e=>?_) J.bare fun b hb=>?_
 ·rw[Zaw (ne b o e)];exact u.free b o e q hx
 ·rw[Zaw (Zar (u.tups b xs e) hDn)];exact u.tups b xs e
 ·rw[Zaw (Zar (u.frzs b o xs e) hDn)];exact u.frzs b o xs e
 ·obtain ⟨more,q⟩:=u.tbls b ps e
  exact ⟨more,by rw[Zaw (Zar q hDn)];exact q⟩
 ·by_cases hb:b=D
  ·subst hb
   rw[ZaO] at e;cases e
   exact ⟨hl,its,n,r,ho⟩
  ·rw[Zaw hb] at e
   exact (J.hok b o e).stay (fun _ _ _ q=>q) (fun c q=>by rw[Zaw (Zar q hDn)];exact q) fun c xs q=>by rw[Zaw (Zar q hDn)];exact q
 ·obtain ⟨f0,f1,f2,f3,f4,f5⟩:=hf b hb
  exact ⟨f3,f1,f4,f5⟩
end
section
variable {X:Cx}{tg elt iter:Expr}{ifs:6e1}{scope:Scope}{pos:Pos}{vs fs:5e9}{fr:12e5}{g:TG}{tt:TT}{te:TE}
theorem Zbc {α:Type}{M:Model}{A:Around}{t:Sem α}{Q Q':α->Shared->Prop}{E:1e7}{s:Shared}(h:wpAny M A t Q 18e0 s)(hQ:∀a s,Q a s->Q' a s):wpAny M A t Q' E s:=
 Y1 h hQ fun _ _ f=>WH f
theorem ZdO {pins:2e0}{σ:St}{H:Hp}{s:Shared}{Q:VK}{it:Addr}{fp:4e3}{tn:Nat->Heap->Prop}{J:It}{RR:Value->Addr->Result->Shared->Prop}
  (S:10e4) (hc:11e5)
  (bG:∀C s₀ H₀ ex pn,PG 1e4 tg g) (bT:16e8) (bE:∀C s₀ H₀ ex pn,PE 1e4 elt te)
  (I:2e3) (T:Turn X.prog X.w X.K tg J fp it tn) (st:tn 0 s.heap) (hf:∀b∈fp,FpOk X pins H b)
  (q:CompW J vs fr g tt te σ H Q)
  (hRR:∀D C H' s' m',Inv X pins σ H' s'->Q (.ref D) H'->s'.heap.Ns C m'->H' C=none->s.heap.objs.size<=C->RR (.ref D) C (.ok .next) s'):
  wpAny 2e7 X.A (newList []) (fun acc s₃=>wpAny 2e7 X.A (newFunctionEnv scope X.env.globals 11e7 [] X.env.qual none .none (some X.env)) (fun cenv s₄=>
   X3 (model X.prog X.w) X.A (.compStart (.ListComp elt [⟨tg,iter,ifs,0⟩] scope pos) 0 (.ref it) acc { cenv with scope:=relabel scope X.env }) (RR acc cenv.locals) s₄) X.xe s₃) X.xe s:=by
 obtain ⟨W,⟨m0,w0⟩,turn⟩:=q
 refine XA (VD S.cell' (by intro y hy;simp at hy) (fun h₁ hns₁ hsb₁=>?_) S.kind)
 dsimp only at hns₁ hsb₁ ⊢
 generalize hH2:s.heap.push { cls:=.type "list",dict:=none,data:=.seq ([]:List Value).toArray }=H2 at hns₁ hsb₁ ⊢
 have hCs:H2.objs.size=s.heap.objs.size + 1:=by rw[←hH2,V3]
 have hDC:s.heap.objs.size≠H2.objs.size:=by rw[hCs];exact Yr (VA _)
 have hCle:s.heap.objs.size<=H2.objs.size:=by rw[hCs];exact UM _
 have old:∀b o,s.heap.get? b=some o->h₁.get? b=some o:=fun b o e=>hsb₁.extBut b o (ZaN e hCle) (Yc _ (hH2 ▸ Yc _ e))
 have hacc:h₁.get? s.heap.objs.size=some { cls:=.type "list",data:=.seq ([]:List Value).toArray 0 }:=hsb₁.extBut _ _ hDC (Yc _ (hH2 ▸ Yp _ rfl))
 have hfo:∀b∈fp,∃o,s.heap.get? b=some o:=fun b hb=>by obtain ⟨o,e,_⟩:=T.obj 0 _ st b hb;exact ⟨o,e⟩
 generalize hY:CompCx X (vs++fs) scope H2.objs.size s H fp (X.pn++pins)=Y
 have J0:Inv Y [] (stIn vs fr σ) H { s with heap:=h₁,toks:=s.toks + ([]:List (Str×Value)).length }:=by
  rw[←hY];exact Zcy S I hf hfo hCle hns₁ old
 have hG:PG Y tg g:=by rw[←hY];exact bG _ _ _ _ _
 have hT:PTs Y ifs tt:=by rw[←hY];exact bT _ _ _ _ _
 have hE:PE Y elt te:=by rw[←hY];exact bE _ _ _ _ _
 have ePr:Y.prog=X.prog:=by rw[←hY];rfl
 have eW:Y.w=X.w:=by rw[←hY];rfl
 have eK:Y.K=X.K:=by rw[←hY];rfl
 have eA:Y.A=X.A:=by rw[←hY];rfl
 have eC:Y.calm=true:=by rw[←hY];exact hc
 have eEnv:Y.env=UE scope 11e7 H2.objs.size X.env:=by rw[←hY];rfl
 have eL:Y.env.locals=H2.objs.size:=by rw[eEnv];rfl
 have eX:Y.xe=fun _ _=>False:=by rw[←hY];rfl
 have eS:Y.s₀=s:=by rw[←hY];rfl
 have eEx:Y.ex=fp:=by rw[←hY];rfl
 have eFs:Y.fs=frs X.stack:=by rw[←hY];rfl
 have ePn:Y.pn=X.pn++pins:=by rw[←hY];rfl
 have eCl:∀x c,Y.env.cells.lookup x=some c->X.env.cells.lookup x=some c:=fun x c e=>by
  rw[eEnv] at e;exact S.cl I.ok e
 have cellLt:∀x c,Y.env.cells.lookup x=some c->c≠s.heap.objs.size:=fun x c e=>by
  obtain ⟨v,z⟩:=I.cell x c (eCl x c e);exact Yr z.lt
 have pnLt:∀p∈Y.pn,p.1≠s.heap.objs.size:=fun p hp=>by
  rw[ePn] at hp;exact ZaN (I.pin p hp).1 (Yh _)
 have fpD:∀b∈fp,b≠s.heap.objs.size:=fun b hb=>by obtain ⟨o,e⟩:=hfo b hb;exact ZaN e (Yh _)
 have hDfs:s.heap.objs.size∉Y.fs:=fun z=>by
  rw[eFs] at z
  rcases Ym.mp (I.stkSub _ z) with z | z
  ·exact absurd I.lt (by rw[←z];exact X0 _)
  ·exact I.nofs (Yh _) z
 have stat:∀{H':Hp} {o:Obj},12e0->∀b∈fp,FpOk Y [(s.heap.objs.size,o)] H' b:=fun {H' o} hn b hb=>by
  obtain ⟨f0,f1,f2,f3,f4,f5⟩:=hf b hb
  obtain ⟨ob,e⟩:=hfo b hb
  refine ⟨hn b hb,by rw[eL];exact ZaN e hCle,fun z=>?_,.inl (by rw[eEx];exact hb),fun x c e=>f4 x c (eCl x c e),fun p hp=>?_⟩
  ·rw[eFs] at z
   rcases Ym.mp (I.stkSub _ z) with z | z
   ·exact f1 z
   ·exact f2 z
  ·rcases Yw.mp hp with hp | hp
   ·rw[ePn] at hp;exact f5 p hp
   ·have:p=(s.heap.objs.size,o):=by simpa using hp
    rw[this];exact Xx (fpD b hb)
 have pinD:∀{σ':St} {H':Hp} {s':Shared} {its:4e9} {k:Nat},Inv Y [] σ' H' s'->H' s.heap.objs.size=none->s'.heap.get? s.heap.objs.size=some { cls:=.type "list",data:=.seq its.toArray k }->
   Inv Y [(s.heap.objs.size,{ cls:=.type "list",data:=.seq its.toArray k })] σ' H' s':=fun {σ' H' s' its k} i hn e=>i.pins_of fun p hp=>by
  have:p=(s.heap.objs.size,{ cls:=.type "list",data:=.seq its.toArray k }):=by simpa using hp
  subst this
  exact ⟨e,hn,by rw[eL];exact hDC,hDfs,fun v z=>by cases z⟩
 have loop:∀s₃:Shared,s₃={ s with heap:=h₁,toks:=s.toks + ([]:List (Str×Value)).length }->
   X3 2e7 X.A (.compLoop 9e9 0 (.ref it) 10e1 (UE scope 11e7 H2.objs.size X.env))
    (RR 10e1 H2.objs.size) s₃:=by
  rintro s₃ rfl
  rw[←eEnv,←ePr,←eW,←eA]
  refine compLoop_any (fun n s'=>∃i σ' ys its k H',Inv Y [(s.heap.objs.size,{ cls:=.type "list",data:=.seq its.toArray k })] σ' H' s'/\Vals ys its/\tn i s'.heap/\12e0/\W i n σ' ys H') ?_ m0
   ⟨0,_,[],[],0,H,pinD J0 (I.hok.fresh (Yh _)) hacc,.nil,T.keep _ _ _ st fun b _ o e=>old b o e,fun b hb=>(hf b hb).1,w0⟩
  rintro n s3 ⟨i,σ3,ys,its,k,H3,J3,rv,st3,fr3,w3⟩
  have pD:=J3.pin (s.heap.objs.size,_) (Ye _ (Yk.mpr rfl))
  have eI:=rv.length
  rcases turn i n σ3 ys H3 w3 with ⟨stop,hlen,qn⟩ | ⟨go,hlen,N,hN,step⟩
  ·have dn:=T.done Y ePr eW eK eC i _ s3 σ3 H3 18e0 J3 (stat fr3) st3 stop
   rw[←ePr,←eW] at dn
   refine Zbc dn fun r s4 h_=>?_
   obtain ⟨hr,J4⟩:=h_
   subst hr
   have pD4:=J4.pin (s.heap.objs.size,_) (Ye _ (Yk.mpr rfl))
   obtain ⟨m4,hm4,_⟩:=id J4.loc
   rw[eL] at hm4
   have nC:H3 H2.objs.size=none:=by rw[←eL];exact J4.free
   refine hRR _ _ _ s4 m4 (comp_back I hf (by rw[hY];exact J4) (Yh _) pD4.2.1 hlen rv pD4.1) (qn _ pD4.2.1) hm4 ?_ hCle
   rw[Zaw (Xx hDC)];exact nC
  ·have im:=T.item Y ePr eW eK eC i _ s3 σ3 H3 18e0 J3 (stat fr3) st3 go
   rw[←ePr,←eW] at im
   refine Zbc im fun r s4 h_=>?_
   obtain ⟨u,hr,h4⟩:=h_
   sleep 20
   have go1:=hG _ s5 σ3 H5 x u _ J5' r5 (step x H5 y5)
   rw[eX] at go1
   refine Zbc go1 fun _ s6 h_=>?_
   obtain ⟨σ6,H6,J6,q6⟩:=h_
   have go2:=hT _ s6 σ6 H6 _ J6 q6
   rw[eX] at go2
   refine Zbc go2 fun ok s7 h_=>?_
   obtain ⟨H7,J7,q7⟩:=h_
   have fin:∀{σ8:St} {H8:Hp} {s8:Shared},Inv Y ([(s.heap.objs.size,{ cls:=.type "list",data:=.seq its.toArray k })]++pinsAt fp s5.heap) σ8 H8 s8->
     tn (i + 1) s8.heap/\(∀b∈fp,H8 b=none):=fun {σ8 H8 s8} J8=>by
    refine ⟨T.keep _ _ _ st5 fun b hb o e=>(J8.pin (b,o) (Ye _ (Ye _ (ZaW hb e)))).1,fun b hb=>?_⟩
    obtain ⟨o,e,d⟩:=T.obj _ _ st5 b hb
    exact (J8.pin (b,o) (Ye _ (Ye _ (ZaW hb e)))).2.1
   cases ok with
   | false=>
    rw[if_neg Yv] at q7 ⊢
    obtain ⟨m',hm,w7⟩:=hN _ _ _ q7
    exact ⟨m',hm,i + 1,σ6,ys,its,k,H7,J7.unpinned,rv,(fin J7).1,(fin J7).2,w7⟩
   | true=>
    rw[if_pos rfl] at q7 ⊢
    have go3:=hE _ s7 σ6 H7 _ J7 q7
    rw[eX] at go3
    refine Zbc go3 fun yv s8 h_=>?_
    obtain ⟨y,H8,J8,r8,n8⟩:=h_
    obtain ⟨m',hm,w8⟩:=hN _ _ _ n8
    have pD8:=J8.pin (s.heap.objs.size,_) (Ye _ (YF _ (Yk.mpr rfl)))
    refine append_at (hsz:=by rw[Yl,←eI];exact hlen) pD8.1 fun h9 hs9 hD9=>?_
    have J9:Inv Y [] σ6 H8 { s8 with heap:=h9 }:=(J8.pins_of (pins':=[]) fun p hp=>absurd hp (by simp)).turned (t':=s8.toks) (fun b o hb e=>(hs9.2 b hb).trans e) pD8.2.1 (by rw[eL];exact hDC)
     (.inr (by rw[eS];exact Yh _)) cellLt fun p hp=>pnLt p (by simpa using hp)
    refine ⟨m',hm,i + 1,σ6,ys++[y],its++[yv],k + 1,H8,pinD J9 pD8.2.1 (by rw[hD9,List.push_toArray]),Vals.append rv (.cons r8 .nil),?_,(fin J8).2,w8⟩
    exact T.keep _ _ _ (fin J8).1 fun b hb o e=>(hs9.2 b (fpD b hb)).trans e
 exact codeAny_compStart_list (loop _ rfl) (T.self _ 0 _ _ _ (T.keep _ _ _ st fun b _ o e=>old b o e) (loop _ rfl))
theorem pe_comp {wi:TI}(S:10e4)(hc:11e5)(hi:PI X tg iter wi)
  (bG:∀C s₀ H₀ ex pn,PG 1e4 tg g) (bT:16e8) (bE:∀C s₀ H₀ ex pn,PE 1e4 elt te)
  (hs:16e6:=by intro _;rfl):
  PE X 9e9 (tComp wi vs fr g tt te):=by
 sleep 14
 rw[eval_ListComp]
 refine Wr (use:=none) rfl hs (ZbV (S.clos I.ok)) S.kind S.loc' (thn (hi pins s σ H _ I h) fun v s1 h1=>thn h1 fun itv s2 h2=>?_)
 obtain ⟨it,fp,tn,J,H2,e,I2,T,st2,f2,q2⟩:=h2
 subst e
 refine ZdO (RR:=fun acc C=>compPost 2e7 X.A X.xe none 18e5 acc C) S hc bG bT bE I2 T st2 f2 q2 ?_
 intro D C H' s' m' I' hq hn hC hle
 refine ⟨m',hn,fun h' hs'=>⟨.ref D,H',?_,rfl,hq⟩⟩
 refine I'.turned (t':=s'.toks) (fun b o hb e=>(hs'.2 b hb).trans e) hC ?_ (.inr (YQ I2.sz hle)) ?_ ?_
 ·exact Wv (Yn I2.lt hle)
 ·intro x c e
  obtain ⟨v,z⟩:=I2.cell x c e
  exact Yr (Yn z.lt hle)
 ·intro p hp
  exact ZaN (I2.pin p hp).1 hle
theorem ps_comp {wi:TI}{i:Nat}{x:Str}{px spos:Pos}(hN:X.N.Nodup)(hx:X.N[i]? = some x)(hl:X.env.scope.names.lookup x=some .local)
  (S:10e4) (hc:11e5) (hi:PI X tg iter wi)
  (bG:∀C s₀ H₀ ex pn,PG 1e4 tg g) (bT:16e8) (bE:∀C s₀ H₀ ex pn,PE 1e4 elt te)
  (hsw:WP 9e9 (some (.Name x px)) spos.line X.env=pure true:=by rfl)
  (hs:16e6:=by intro _;rfl):
  PS X (.Assign [.Name x px] 9e9 spos) (fun D σ H=>tComp wi vs fr g tt te σ H fun v H1=>D.nx (σ.set i (some v)) H1):=by
 intro pins s σ H D I h
 rw[exec_Assign_Name_used _ _ _ _ hsw]
 refine Ya (X1 (Ya ?_))
 show wpAny _ X.A (do let _ ←comprehension 9e9 scope X.env _ (newList []) false (eval iter X.env) (some (assign (.Name x px) X.env))) _ _ s
 refine Ya (Y1 (Wr (use:=some (assign (.Name x px) X.env)) (Q:=fun _ s'=>SP X pins D .next s') rfl hs (ZbV (S.clos I.ok)) S.kind S.loc'
  (thn (hi pins s σ H _ I h) fun v s1 h1=>thn h1 fun itv s2 h2=>?_)) (fun _ s' hq=>Yd (Yd hq)) fun _ _ e=>e)
 obtain ⟨it,fp,tn,J,H2,e,I2,T,st2,f2,q2⟩:=h2
 subst e
 refine ZdO (RR:=fun acc C=>compPost 2e7 X.A X.xe (some (assign (.Name x px) X.env)) (fun _ s'=>SP X pins D .next s') acc C) (Q:=fun v H1=>D.nx (σ.set i (some v)) H1) S hc bG bT bE I2 T st2 f2 q2 ?_
 intro Dd C H' s' m' I' hq hn hC hle
 show wpAny _ X.A (assign (.Name x px) X.env (.ref Dd)) _ _ _
 have hCL:C≠X.env.locals:=Wv (Yn I2.lt hle)
 have hCc:∀x c,X.env.cells.lookup x=some c->c≠C:=fun x c e=>by
  obtain ⟨v,z⟩:=I2.cell x c e
  exact Yr (Yn z.lt hle)
 refine wpAny_assign_Name (store_ok2 I' hN hx (.inl hl) (v:=.ref Dd) rfl (fun s'' I'' hch=>?_) (.inr hl))
 obtain ⟨a,hs'',ha⟩:=hch
 have hCa:C≠a:=by
  rcases ha with rfl | ha
  ·exact hCL
  ·exact Xx (hCc x a ha)
 refine ⟨m',hn.sameBut hs'' hCa,fun h' hs'=>⟨σ.set i (some (.ref Dd)),H',?_,hq⟩⟩
 refine I''.turned (t':=s''.toks) (fun b o hb e=>(hs'.2 b hb).trans e) hC hCL (.inr (YQ I2.sz hle)) hCc ?_
 intro p hp
 exact ZaN (I2.pin p hp).1 hle
end
section
variable {prog:YD}{w:World}{A:Around}{R:16e2}{s:Shared}
theorem compLoop_anyD {kx vx target iter:Expr}{ifs:6e1}{scope:Scope}{pos:Pos}{it:Value}{D:Addr}{env:Env}(I:Nat->Shared->Prop)
  (turn:∀k z,I k z->wpAny 3e2 A (pyNext it) (fun r z1=>match r with
   | none=>R (.ok .next) z1
   | some v=>wpAny 3e2 A (X6 target it v) (fun _ z2=>wpAny 3e2 A (assign target env v) (fun _ z3=>wpAny 3e2 A (testsOf env ifs) (fun yes z4=>
     if yes=true then wpAny 3e2 A (eval kx env) (fun x z5=>wpAny 3e2 A (eval vx env) (fun y z6=>wpAny 3e2 A (dictSet D x y) (fun _ z7=>∃m,m < k/\I m z7) (Out prog w A env R) z6) (Out prog w A env R) z5) (Out prog w A env R) z4
     else ∃m,m < k/\I m z4) (Out prog w A env R) z3) (Out prog w A env R) z2) (Out prog w A env R) z1) (Out prog w A env R) z)
  (n:Nat) (h:I n s):X3 3e2 A (.compLoop (.DictComp kx vx [⟨target,iter,ifs,0⟩] scope pos) 0 it (.ref D) env) R s:=by
 refine Uu rfl I ?_ n h
 intro k z hz
 refine UL ?_
 rw[compTurn_dict]
 apply Ya
 apply X1
 apply Ya
 refine Y1 (turn k z hz) ?_ fun _ _ e=>e
 rintro (_ | v) z1 y1
 ·exact Yd y1
 apply Ya
 refine Y1 y1 (fun _ z2 y2=>?_) fun _ _ e=>e
 apply Ya
 refine Y1 y2 (fun _ z3 y3=>?_) fun _ _ e=>e
 apply Ya
 refine Y1 y3 (fun yes z4 y4=>?_) fun _ _ e=>e
 by_cases b:yes=true
 ·subst b
  apply Ya
  apply Ya
  refine Y1 y4 (fun x z5 y5=>?_) fun _ _ e=>e
  apply Ya
  apply Xk
  refine Y1 y5 (fun y z6 y6=>?_) fun _ _ e=>e
  apply Ya
  apply X1
  apply Xk
  exact Y1 y6 (fun _ z7 y7=>Yd ⟨rfl,y7⟩) fun _ _ e=>e
 ·have nb:yes=false:=by simpa using b
  subst nb
  exact Yd ⟨rfl,y4⟩
end
section
variable {X:Cx}{pins:2e0}{σ:St}{H:Hp}{s:Shared}{a:Addr}{y v:V}{u r:Value}{A:Around}{E:1e7}
theorem d_dictSet {H':Hp}{Q:Unit->Shared->Prop}(hu:A.units + 1 < cLine)(I:2e3)(g:DPut H a y v H')(ry:RelV y u)(rv:RelV v r)(h:∀s',Inv X pins σ H' s'->Q () s'):
  wpAny 2e7 A (dictSet a u r) Q E s:=by
 rcases g with ⟨kvs,k,e,ey,l,eH⟩ | ⟨kvs,k,b,e,ey,eb,l,eH⟩
 ·subst ey eH
  obtain ⟨z,hd,vs,rel,dd⟩:=dk_of I.hok e
  have hz:vs.length<=sizeLine:=by rw[←rel.length];exact z
  have hl:(putK kvs k v).length<=sizeLine:=by have:=ZbC kvs k v;lia
  refine wpAny_dictSet_pairs (hsz:=hz) (kV_is ry) dd fun h' dd' hs=>h _ ?_
  have he:∃q,h'.get? a=some q:=let ⟨q,_,_,hq,_⟩:=dd';⟨q,hq⟩
  exact d_write I (by rw[e];exact WI) hs he (dk_new hl hd (rel.put k rv) dd')
 ·subst ey eH
  cases (show u=YE b from ry)
  obtain ⟨z,hd,xs,rel,dd⟩:=dt_of I.hok e
  have hz:xs.length<=sizeLine:=by rw[←Vf rel];exact z
  have hl:(putK kvs k v).length<=sizeLine:=by have:=ZbC kvs k v;lia
  refine wpAny_dictSet_heap (hsz:=hz) (show (WO (mixKind X.prog X.w)).room A from by show A.units < cLine;lia) (ZcF I.hok eb) dd fun h' dd' hs=>h _ ?_
  obtain ⟨q,es,ep,hq,h2,h3,h4,_,h5⟩:=dd'
  refine d_write I (by rw[e];exact WI) hs ⟨q,hq⟩ ⟨hl,hd,_,(rel.put k eb rv).keeps fun c ys ec=>?_,q,es,ep,hq,h2,h3,h4,h5⟩
  rw[Zaw (ne_of ec e (fun z=>nomatch z))]
  exact ec
end
def CompWD (J:It)(vs:5e9)(fr:12e5)(g:TG)(tt:TT)(tk te:TE)(σ:St)(H1:Hp)(Q:VK):Prop:=
 ∀D,H1 D=none->∃W:Nat->Nat->St->Hp->Prop,(∃m,W 0 m (stIn vs fr σ) (upd H1 D (.dT [])))/\∀i m σ' H,W i m σ' H->
  (J.stop i H/\Q (.ref D) H)\/
  (J.go i H/\∃N:St->Hp->Prop,(∀σ2 H2,N σ2 H2->∃m',m' < m/\W (i + 1) m' σ2 H2)/\∀x H',J.yld i H x H'->g x σ' H' fun σ2 H2=>tt σ2 H2 fun b H3=>
   if b=true then tk σ2 H3 fun y H4=>te σ2 H4 fun v H5=>∃H6,DPut H5 D y v H6/\N σ2 H6 else N σ2 H3)
def tCompD (wi:TI)(vs:5e9)(fr:12e5)(g:TG)(tt:TT)(tk te:TE):TE:=fun σ H Q=>wi σ H fun J H1=>CompWD J vs fr g tt tk te σ H1 Q
section
variable {X:Cx}{tg kx vx iter:Expr}{ifs:6e1}{scope:Scope}{pos:Pos}{vs fs:5e9}{fr:12e5}{g:TG}{tt:TT}{tk te:TE}
theorem ZdP {pins:2e0}{σ σ':St}{H H':Hp}{s s':Shared}{fp:4e3}{C:Addr}{pl:2e0}(I:2e3)
  (hf:∀b∈fp,FpOk X pins H b) (J:Inv (CompCx X (vs++fs) scope C s H fp (X.pn++pins)) pl σ' H' s'):Inv X pins σ H' s':=by
 have u:Un (frs X.stack) fp H H' s.heap s'.heap:=J.base
 refine I.call' (ch:=fp) J.os u J.hok J.bare fun b hb=>?_
 obtain ⟨f0,f1,f2,f3,f4,f5⟩:=hf b hb
 exact ⟨f3,f1,f4,f5⟩
theorem comp_blockD {pins:2e0}{σ:St}{H:Hp}{s:Shared}{Q:VK}{it:Addr}{fp:4e3}{tn:Nat->Heap->Prop}{J:It}{RR:Value->Addr->Result->Shared->Prop}
  (S:10e4) (hc:11e5) (hu:X.A.units + 1 < cLine)
  (bG:∀C s₀ H₀ ex pn,PG 1e4 tg g) (bT:16e8) (bK:∀C s₀ H₀ ex pn,PE 1e4 kx tk) (bE:∀C s₀ H₀ ex pn,PE 1e4 vx te)
  (I:2e3) (T:Turn X.prog X.w X.K tg J fp it tn) (st:tn 0 s.heap) (hf:∀b∈fp,FpOk X pins H b)
  (q:CompWD J vs fr g tt tk te σ H Q)
  (hRR:∀D C H' s' m',Inv X pins σ H' s'->Q (.ref D) H'->s'.heap.Ns C m'->H' C=none->s.heap.objs.size<=C->RR (.ref D) C (.ok .next) s'):
  wpAny 2e7 X.A newDict (fun acc s₃=>wpAny 2e7 X.A (newFunctionEnv scope X.env.globals 11e7 [] X.env.qual none .none (some X.env)) (fun cenv s₄=>
   X3 (model X.prog X.w) X.A (.compStart (.DictComp kx vx [⟨tg,iter,ifs,0⟩] scope pos) 0 (.ref it) acc { cenv with scope:=relabel scope X.env }) (RR acc cenv.locals) s₄) X.xe s₃) X.xe s:=by
 have hDn:H s.heap.objs.size=none:=I.hok.fresh (Yh _)
 obtain ⟨W,⟨m0,w0⟩,turn⟩:=q s.heap.objs.size hDn
 have I':=I.laid (a:=s.heap.objs.size) (o:=.dT []) (t':=s.toks) (fun _ _ q=>Yc _ q) (Yh _) (dt_empty s.heap I.big)
 have hfo0:∀b∈fp,∃o,s.heap.get? b=some o:=fun b hb=>by obtain ⟨o,e,_⟩:=T.obj 0 _ st b hb;exact ⟨o,e⟩
 have fpD:∀b∈fp,b≠s.heap.objs.size:=fun b hb=>by obtain ⟨o,e⟩:=hfo0 b hb;exact ZaN e (Yh _)
 have hf':∀b∈fp,FpOk X pins (upd H s.heap.objs.size (.dT [])) b:=fun b hb=>by
  obtain ⟨f0,f1,f2,f3,f4,f5⟩:=hf b hb
  exact ⟨by rw[Zaw (fpD b hb)];exact f0,f1,f2,f3,f4,f5⟩
 refine XA (VD S.cell' (by intro y hy;simp at hy) (fun h₁ hns₁ hsb₁=>?_) S.kind)
 dsimp only at hns₁ hsb₁ ⊢
 generalize hH2:s.heap.push { cls:=.type "dict",data:=.dict #[] }=H2 at hns₁ hsb₁ I' ⊢
 have hCs:H2.objs.size=s.heap.objs.size + 1:=by rw[←hH2,V3]
 have old:∀b o,H2.get? b=some o->h₁.get? b=some o:=fun b o e=>hsb₁.extBut b o (ZaN e (Yh _)) (Yc _ e)
 have old0:∀b o,s.heap.get? b=some o->H2.get? b=some o:=fun b o e=>by rw[←hH2];exact Yc _ e
 have hfo:∀b∈fp,∃o,H2.get? b=some o:=fun b hb=>by obtain ⟨o,e⟩:=hfo0 b hb;exact ⟨o,old0 b o e⟩
 generalize hs2:({ s with heap:=H2,toks:=s.toks }:Shared)=s2 at I'
 have es2:s2.heap=H2:=by rw[←hs2]
 generalize hY:CompCx X (vs++fs) scope H2.objs.size s2 (upd H s.heap.objs.size (.dT [])) fp (X.pn++pins)=Y
 have J0:Inv Y [] (stIn vs fr σ) (upd H s.heap.objs.size (.dT [])) { s with heap:=h₁,toks:=s.toks + ([]:List (Str×Value)).length }:=by
  rw[←hY]
  have:=Zcy (tk:=s.toks + ([]:List (Str×Value)).length) S I' hf' (by rw[es2];exact hfo) (by rw[es2];exact Yh _) hns₁ (by rw[es2];exact old)
  rw[←hs2] at this ⊢;exact this
 have hG:PG Y tg g:=by rw[←hY];exact bG _ _ _ _ _
 have hT:PTs Y ifs tt:=by rw[←hY];exact bT _ _ _ _ _
 have hK:PE Y kx tk:=by rw[←hY];exact bK _ _ _ _ _
 have hE:PE Y vx te:=by rw[←hY];exact bE _ _ _ _ _
 have ePr:Y.prog=X.prog:=by rw[←hY];rfl
 have eW:Y.w=X.w:=by rw[←hY];rfl
 have eK:Y.K=X.K:=by rw[←hY];rfl
 have eA:Y.A=X.A:=by rw[←hY];rfl
 have eC:Y.calm=true:=by rw[←hY];exact hc
 have eEnv:Y.env=UE scope 11e7 H2.objs.size X.env:=by rw[←hY];rfl
 have eL:Y.env.locals=H2.objs.size:=by rw[eEnv];rfl
 have eX:Y.xe=fun _ _=>False:=by rw[←hY];rfl
 have eEx:Y.ex=fp:=by rw[←hY];rfl
 have eFs:Y.fs=frs X.stack:=by rw[←hY];rfl
 have ePn:Y.pn=X.pn++pins:=by rw[←hY];rfl
 have eCl:∀x c,Y.env.cells.lookup x=some c->X.env.cells.lookup x=some c:=fun x c e=>by
  rw[eEnv] at e;exact S.cl I.ok e
 have stat:∀{H':Hp},12e0->∀b∈fp,FpOk Y [] H' b:=fun {H'} hn b hb=>by
  obtain ⟨f0,f1,f2,f3,f4,f5⟩:=hf b hb
  obtain ⟨ob,e⟩:=hfo b hb
  refine ⟨hn b hb,by rw[eL];exact ZaN e (Yh _),fun z=>?_,.inl (by rw[eEx];exact hb),fun x c e=>f4 x c (eCl x c e),fun p hp=>?_⟩
  ·rw[eFs] at z
   rcases Ym.mp (I.stkSub _ z) with z | z
   ·exact f1 z
   ·exact f2 z
  ·rw[YJ,ePn] at hp;exact f5 p hp
 have loop:∀s₃:Shared,s₃={ s with heap:=h₁,toks:=s.toks + ([]:List (Str×Value)).length }->
   X3 2e7 X.A (.compLoop (.DictComp kx vx [⟨tg,iter,ifs,0⟩] scope pos) 0 (.ref it) 10e1 (UE scope 11e7 H2.objs.size X.env))
    (RR 10e1 H2.objs.size) s₃:=by
  rintro s₃ rfl
  rw[←eEnv,←ePr,←eW,←eA]
  refine compLoop_anyD (fun n s'=>∃i σ' H',Inv Y [] σ' H' s'/\tn i s'.heap/\12e0/\W i n σ' H') ?_ m0
   ⟨0,_,_,J0,T.keep _ _ _ st fun b _ o e=>old b o (old0 b o e),fun b hb=>(hf' b hb).1,w0⟩
  rintro n s3 ⟨i,σ3,H3,J3,st3,fr3,w3⟩
  rcases turn i n σ3 H3 w3 with ⟨stop,qn⟩ | ⟨go,N,hN,step⟩
  ·have dn:=T.done Y ePr eW eK eC i _ s3 σ3 H3 18e0 J3 (stat fr3) st3 stop
   rw[←ePr,←eW] at dn
   refine Zbc dn fun r s4 h_=>?_
   obtain ⟨hr,J4⟩:=h_
   subst hr
   obtain ⟨m4,hm4,_⟩:=id J4.loc
   rw[eL] at hm4
   have nC:H3 H2.objs.size=none:=by rw[←eL];exact J4.free
   exact hRR _ _ _ s4 m4 (ZdP I' hf' (by rw[hY];exact J4)) qn hm4 nC (by rw[hCs];exact UM _)
  ·have im:=T.item Y ePr eW eK eC i _ s3 σ3 H3 18e0 J3 (stat fr3) st3 go
   rw[←ePr,←eW] at im
   refine Zbc im fun r s4 h_=>?_
   obtain ⟨u,hr,h4⟩:=h_
   sleep 20
   have go1:=hG _ s5 σ3 H5 x u _ J5' r5 (step x H5 y5)
   rw[eX] at go1
   refine Zbc go1 fun _ s6 h_=>?_
   obtain ⟨σ6,H6,J6,q6⟩:=h_
   have go2:=hT _ s6 σ6 H6 _ J6 q6
   rw[eX] at go2
   refine Zbc go2 fun ok s7 h_=>?_
   obtain ⟨H7,J7,q7⟩:=h_
   have fin:∀{σ8:St} {H8:Hp} {s8:Shared},Inv Y ([]++pinsAt fp s5.heap) σ8 H8 s8->
     tn (i + 1) s8.heap/\(∀b∈fp,H8 b=none):=fun {σ8 H8 s8} J8=>by
    refine ⟨T.keep _ _ _ st5 fun b hb o e=>(J8.pin (b,o) (Ye _ (Ye _ (ZaW hb e)))).1,fun b hb=>?_⟩
    obtain ⟨o,e,d⟩:=T.obj _ _ st5 b hb
    exact (J8.pin (b,o) (Ye _ (Ye _ (ZaW hb e)))).2.1
   cases ok with
   | false=>
    rw[if_neg Yv] at q7 ⊢
    obtain ⟨m',hm,w7⟩:=hN _ _ q7
    exact ⟨m',hm,i + 1,σ6,H7,J7.unpinned,(fin J7).1,(fin J7).2,w7⟩
   | true=>
    rw[if_pos rfl] at q7 ⊢
    have go3:=hK _ s7 σ6 H7 _ J7 q7
    rw[eX] at go3
    refine Zbc go3 fun kv s8 h_=>?_
    obtain ⟨y,H8,J8,r8,q8⟩:=h_
    have go4:=hE _ s8 σ6 H8 _ J8 q8
    rw[eX] at go4
    refine Zbc go4 fun vv s9 h_=>?_
    obtain ⟨v,H9,J9,r9,H10,pt,n10⟩:=h_
    obtain ⟨m',hm,w10⟩:=hN _ _ n10
    exact d_dictSet (by rw[eA];exact hu) J9 pt r8 r9 fun s10 J10=>⟨m',hm,i + 1,σ6,H10,J10.unpinned,(fin J10).1,(fin J10).2,w10⟩
 exact codeAny_compStart_dict (loop _ rfl) (T.self _ 0 _ _ _ (T.keep _ _ _ st fun b _ o e=>old b o (old0 b o e)) (loop _ rfl))
end
section
variable {X:Cx}{tg kx vx iter:Expr}{ifs:6e1}{scope:Scope}{pos:Pos}{vs fs:5e9}{fr:12e5}{g:TG}{tt:TT}{tk te:TE}
theorem pe_compD {wi:TI}(S:10e4)(hc:11e5)(hu:X.A.units + 1 < cLine)(hi:PI X tg iter wi)
  (bG:∀C s₀ H₀ ex pn,PG 1e4 tg g) (bT:16e8) (bK:∀C s₀ H₀ ex pn,PE 1e4 kx tk) (bE:∀C s₀ H₀ ex pn,PE 1e4 vx te)
  (hs:16e6:=by intro _;rfl):
  PE X (.DictComp kx vx [⟨tg,iter,ifs,0⟩] scope pos) (tCompD wi vs fr g tt tk te):=by
 sleep 14
 rw[arm_eval_DictComp]
 refine Wr (use:=none) rfl hs (ZbV (S.clos I.ok)) S.kind S.loc' (thn (hi pins s σ H _ I h) fun v s1 h1=>thn h1 fun itv s2 h2=>?_)
 obtain ⟨it,fp,tn,J,H2,e,I2,T,st2,f2,q2⟩:=h2
 subst e
 refine comp_blockD (RR:=fun acc C=>compPost 2e7 X.A X.xe none 18e5 acc C) S hc hu bG bT bK bE I2 T st2 f2 q2 ?_
 intro D C H' s' m' I' hq hn hC hle
 refine ⟨m',hn,fun h' hs'=>⟨.ref D,H',?_,rfl,hq⟩⟩
 refine I'.turned (t':=s'.toks) (fun b o hb e=>(hs'.2 b hb).trans e) hC ?_ (.inr (YQ I2.sz hle)) ?_ ?_
 ·exact Wv (Yn I2.lt hle)
 ·intro x c e
  obtain ⟨v,z⟩:=I2.cell x c e
  exact Yr (Yn z.lt hle)
 ·intro p hp
  exact ZaN (I2.pin p hp).1 hle
end
section
variable {X:Cx}
def Its (z:Str):It:=⟨fun i _=>i < z.cps.size,fun i H x H'=>H'=H/\∃c,z.cps[i]? = some c/\x=.str ⟨#[c]⟩,fun i _=>i=z.cps.size⟩
theorem turn_str {P:YD}{w:World}{K:W.Frag}{tg:Expr}{it:Addr}{z:Str}{t:Tok}{ty:String}(hty:ty="str_ascii_iterator"\/ty="str_iterator"):Turn P w K tg (Its z) [it] it (fun i h=>h.IsStrIter it ty z t i) where
 mem:=by simp
 obj:=fun i h st b hb=>by
  have e:b=it:=by simpa using hb
  subst e
  obtain ⟨o,e,c,d⟩:=st
  exact ⟨o,e,fun v z=>by rw[d] at z;cases z⟩
 keep:=fun i h h' st k=>by
  obtain ⟨o,e,c,d⟩:=st
  exact ⟨o,k it 4e6 o e,c,d⟩
 item:=by
  sleep 5
  sleep 15
  have fin:∀v h' tk,SignAt z i v->h'.IsStrIter it ty z t (i + 1)->(∀b o,b∉[it]->s.heap.get? b=some o->h'.get? b=some o)->
    ∃u,some v=some u/\wpAny 2e7 X.A (X6 tg (.ref it) u) (fun _ s2=>∃x H',Inv X pins σ H' s2/\RelV x u/\(Its z).yld i H x H'/\s2.heap.IsStrIter it ty z t (i + 1)/\∀b∈[it],H' b=none) E { s with heap:=h',toks:=tk }:=fun v h' tk hv st' kk=>by
   obtain ⟨c,u,hcx,rfl⟩:=hv
   have I1:Inv X pins σ H { s with heap:=h',toks:=tk }:=I.turned (fun b o hb e=>kk b o (by simpa using hb) e) f0 f1 f3 f4 f5
   obtain ⟨o,e,oc,d⟩:=id st'
   refine ⟨_,rfl,go_of (s:={ s with heap:=h',toks:=tk }) e oc d (by rcases hty with rfl | rfl<;>decide) ⟨.str ⟨#[c]⟩,H,I1,⟨u,rfl⟩,⟨rfl,c,hcx,rfl⟩,st',fun b hb=>(hf b hb).1⟩⟩
  rcases hty with rfl | rfl
  ·exact (Walks.strAscii (prog:=X.prog) (w:=X.w) (I.ok.hd hc) it z t).item i s _ _ hg st fin
  ·exact (Walks.strWide (prog:=X.prog) (w:=X.w) (I.ok.hd hc) it z t).item i s _ _ hg st fin
 done:=by
  sleep 5
  sleep 15
  have hg:i=z.cps.size:=hg
  subst hg
  have fin:∀h' tk,(∀b o,b∉[it]->s.heap.get? b=some o->h'.get? b=some o)->(none:Option Value)=none/\Inv X pins σ H { s with heap:=h',toks:=tk }:=fun h' tk kk=>
   ⟨rfl,I.turned (fun b o hb e=>kk b o (by simpa using hb) e) f0 f1 f3 f4 f5⟩
  rcases hty with rfl | rfl
  ·exact (Walks.strAscii (prog:=X.prog) (w:=X.w) (I.ok.hd hc) it z t).done s _ _ st fin
  ·exact (Walks.strWide (prog:=X.prog) (w:=X.w) (I.ok.hd hc) it z t).done s _ _ st fin
 self:=fun _ _ _ _ _ st h=>by
  rcases hty with rfl | rfl
  ·exact wpAny_pyIter_striter_ascii st h
  ·exact wpAny_pyIter_striter_wide st h
end
end L2
namespace Se
open PySem PySem.SetTable
def adv (mask:Nat)(p:Probe):Probe:=
 if p.more > 0 then { p with j:=p.j + 1,more:=p.more - 1 } else
 { p with j:=(leap mask p.i p.perturb).1,more:=runEnd mask (leap mask p.i p.perturb).1 - (leap mask p.i p.perturb).1,i:=(leap mask p.i p.perturb).1,perturb:=(leap mask p.i p.perturb).2 }
theorem adv_eq (t:XJ)(p:Probe):t.advance p=adv t.mask p:=by unfold SetTable.advance adv;rfl
def it (mask:Nat):Nat->Probe->Probe
 | 0,p=>p
 | n + 1,p=>it mask n (adv mask p)
theorem it_succ (mask n:Nat):∀p,it mask (n + 1) p=adv mask (it mask n p):=by
 induction n with
 | zero=>intro p;rfl
 | succ n ih=>intro p;exact ih (adv mask p)
theorem ZcG (mask a:Nat):∀(b:Nat) (p:Probe),it mask (a + b) p=it mask b (it mask a p):=by
 induction a with
 | zero=>intro b p;rw[WV];rfl
 | succ a ih=>intro b p;rw[Nat.succ_add];exact ih b (adv mask p)
def inRun (mask i d pt:Nat):Probe:={ j:=i + d,more:=runEnd mask i - i - d,i:=i,perturb:=pt,dummy:=none }
def len (mask i:Nat):Nat:=runEnd mask i - i
theorem len_le (mask i:Nat):len mask i<=9:=by unfold len runEnd;split<;>lia
theorem adv_in {mask i d pt:Nat}(h:d < len mask i):adv mask (inRun mask i d pt)=inRun mask i (d + 1) pt:=by
 unfold len at h
 unfold adv inRun
 dsimp only
 rw[if_pos 1e2]
 have e1:i + d + 1=i + (d + 1):=by lia
 have e2:runEnd mask i - i - d - 1=runEnd mask i - i - (d + 1):=by lia
 rw[e1,e2]
theorem adv_out {mask i d pt:Nat}(h:d=len mask i):adv mask (inRun mask i d pt)=inRun mask (leap mask i pt).1 0 (leap mask i pt).2:=by
 unfold len at h
 unfold adv inRun
 dsimp only
 rw[if_neg 1e2]
 rfl
theorem it_in {mask i pt:Nat}:∀(k d:Nat),d + k<=len mask i->it mask k (inRun mask i d pt)=inRun mask i (d + k) pt
 | 0,d,_=>rfl
 | k + 1,d,h=>by
  show it mask k (adv mask (inRun mask i d pt))=_
  rw[adv_in 1e2,it_in k (d + 1) 1e2]
  have e:d + 1 + k=d + (k + 1):=by lia
  rw[e]
theorem it_next {mask i d pt:Nat}(h:d<=len mask i):it mask (len mask i - d + 1) (inRun mask i d pt)=inRun mask (leap mask i pt).1 0 (leap mask i pt).2:=by
 rw[it_succ,it_in _ _ 1e2,adv_out 1e2]
def lp (mask:Nat):Nat->Nat×Nat->Nat×Nat
 | 0,p=>p
 | n + 1,p=>lp mask n (leap mask p.1 p.2)
theorem it_lp (mask:Nat):∀(k i pt:Nat),∃c,c<=10 * k/\it mask c (inRun mask i 0 pt)=inRun mask (lp mask k (i,pt)).1 0 (lp mask k (i,pt)).2
 | 0,i,pt=>⟨0,YV _,rfl⟩
 | k + 1,i,pt=>by
  obtain ⟨c,hc,e⟩:=it_lp mask k (leap mask i pt).1 (leap mask i pt).2
  refine ⟨(len mask i - 0 + 1) + c,?_,?_⟩
  ·have:=len_le mask i;lia
  ·rw[ZcG,it_next (YV _),e];rfl
theorem lp_add (mask a:Nat):∀(b:Nat) (p:Nat×Nat),lp mask (a + b) p=lp mask b (lp mask a p):=by
 induction a with
 | zero=>intro b p;rw[WV];rfl
 | succ a ih=>intro b p;rw[Nat.succ_add];exact ih b _
theorem lp_pt (mask:Nat):∀(k i pt:Nat),(lp mask k (i,pt)).2=pt / 32 ^ k
 | 0,i,pt=>by simp[lp]
 | k + 1,i,pt=>by
  show (lp mask k (leap mask i pt)).2=_
  have:leap mask i pt=((i * 5 + 1 + pt / 32) % (mask + 1),pt / 32):=rfl
  rw[this,lp_pt mask k,Nat.div_div_eq_div_mul,Nat.pow_succ,Nat.mul_comm]
theorem lp_lt (mask:Nat):∀(k i pt:Nat),i < mask + 1->(lp mask k (i,pt)).1 < mask + 1
 | 0,i,pt,h=>h
 | k + 1,i,pt,h=>lp_lt mask k _ _ (VI _ (VZ _))
def f (mask i:Nat):Nat:=(i * 5 + 1) % (mask + 1)
def fk (mask:Nat):Nat->Nat->Nat
 | 0,i=>i
 | n + 1,i=>fk mask n (f mask i)
theorem lp_zero (mask:Nat):∀(k i:Nat),lp mask k (i,0)=(fk mask k i,0)
 | 0,i=>rfl
 | k + 1,i=>by
  show lp mask k (leap mask i 0)=_
  have:leap mask i 0=(f mask i,0):=by simp[leap,f]
  rw[this,lp_zero mask k];rfl
theorem fk_add (mask a:Nat):∀(b i:Nat),fk mask (a + b) i=fk mask b (fk mask a i):=by
 induction a with
 | zero=>intro b i;rw[WV];rfl
 | succ a ih=>intro b i;rw[Nat.succ_add];exact ih b _
def Mk (mask:Nat):Prop:=mask=7\/mask=31\/mask=127
def orb (mask:Nat):Nat->Nat->List Nat
 | 0,_=>[]
 | n + 1,i=>i::orb mask n (f mask i)
theorem orb_get (mask:Nat):∀(n i j:Nat),j∈orb mask n i->∃k,k < n/\fk mask k i=j
 | 0,i,j,h=>by cases h
 | n + 1,i,j,h=>by
  rcases Ym.mp h with rfl | h
  ·exact ⟨0,by lia,rfl⟩
  ·obtain ⟨k,hk,e⟩:=orb_get mask n _ _ h
   exact ⟨k + 1,by lia,e⟩
theorem orb_all {mask:Nat}(h:Mk mask):(Yi (mask + 1)).all (fun j=>(orb mask (mask + 1) 0).elem j)=true/\fk mask (mask + 1) 0=0:=by
 rcases h with rfl | rfl | rfl<;>exact ⟨by decide +kernel,by decide +kernel⟩
theorem from0 {mask j:Nat}(h:Mk mask)(hj:j < mask + 1):∃k,k < mask + 1/\fk mask k 0=j:=by
 have:=YW.mp (orb_all h).1 j (Y3.mpr hj)
 exact orb_get mask _ _ _ (List.elem_iff.mp this)
theorem goes {mask i j:Nat}(h:Mk mask)(hi:i < mask + 1)(hj:j < mask + 1):∃k,k < mask + 1/\fk mask k i=j:=by
 obtain ⟨a,ha,ea⟩:=from0 h hi
 obtain ⟨b,hb,eb⟩:=from0 h hj
 by_cases hab:a<=b
 ·refine ⟨b - a,by lia,?_⟩
  rw[←ea,←fk_add,show a + (b - a)=b by lia,eb]
 ·refine ⟨b + (mask + 1) - a,by lia,?_⟩
  rw[←ea,←fk_add,show a + (b + (mask + 1) - a)=(mask + 1) + b by lia,fk_add,(orb_all h).2,eb]
theorem meets {mask i d pt j:Nat}(h:Mk mask)(hd:d<=len mask i)(hpt:pt < 2 ^ 64)(hj:j < mask + 1):∃k,k < 10 * turns mask/\(it mask k (inRun mask i d pt)).j=j:=by
 have e1:=it_next (pt:=pt) hd
 obtain ⟨c,hc,e2⟩:=it_lp mask 13 (leap mask i pt).1 (leap mask i pt).2
 have hz:(lp mask 13 ((leap mask i pt).1,(leap mask i pt).2)).2=0:=by
  rw[lp_pt]
  have:(leap mask i pt).2=pt / 32:=rfl
  rw[this,Nat.div_div_eq_div_mul]
  exact Nat.div_eq_of_lt (Ut hpt 1e6)
 have hl:(lp mask 13 ((leap mask i pt).1,(leap mask i pt).2)).1 < mask + 1:=lp_lt mask 13 _ _ (VI _ (VZ _))
 generalize lp mask 13 ((leap mask i pt).1,(leap mask i pt).2)=q at hz hl e2
 obtain ⟨i2,pt2⟩:=q
 dsimp only at hz hl e2
 subst hz
 obtain ⟨k,hk,ek⟩:=goes h hl hj
 obtain ⟨c2,hc2,e3⟩:=it_lp mask k i2 0
 rw[lp_zero,ek] at e3
 refine ⟨(len mask i - d + 1) + (c + c2),?_,?_⟩
 ·have:=len_le mask i;unfold turns;lia
 ·rw[ZcG,e1,ZcG,e2,e3];rfl
theorem bits_lt (h:Int):bits h < 2 ^ 64:=by
 unfold bits
 have h1:0<=h % (2 ^ 64:Int):=Xf _ 1e6
 have h2:h % (2 ^ 64:Int) < 2 ^ 64:=Y6 _ 1e6
 lia
def Wf (mask:Nat)(p:Probe):Prop:=∃i d pt,p=inRun mask i d pt/\d<=len mask i/\pt < 2 ^ 64
theorem Wf.adv {mask:Nat}{p:Probe}(h:Wf mask p):Wf mask (adv mask p):=by
 obtain ⟨i,d,pt,rfl,hd,hp⟩:=h
 by_cases e:d=len mask i
 ·rw[adv_out e];exact ⟨_,0,_,rfl,YV _,VY (Nat.div_le_self _ _) hp⟩
 ·rw[adv_in 1e2];exact ⟨i,d + 1,pt,rfl,by lia,hp⟩
theorem Wf.it {mask:Nat}:∀(n:Nat) {p:Probe},Wf mask p->Wf mask (it mask n p)
 | 0,p,h=>h
 | n + 1,p,h=>Wf.it n h.adv
theorem Wf.start (mask:Nat)(h:Int):Wf mask (inRun mask (bits h % (mask + 1)) 0 (bits h)):=⟨_,0,_,rfl,YV _,bits_lt h⟩
theorem Wf.meets {mask j:Nat}{p:Probe}(w:Wf mask p)(h:Mk mask)(hj:j < mask + 1):∃k,k < 10 * turns mask/\(Se.it mask k p).j=j:=by
 obtain ⟨i,d,pt,rfl,hd,hp⟩:=w
 exact Se.meets h hd hp hj
theorem Wf.dummy {mask:Nat}{p:Probe}(w:Wf mask p):p.dummy=none:=by obtain ⟨i,d,pt,rfl,_⟩:=w;rfl
def Rising (xs:13e4):Prop:=∀(a b:Nat) (x y:Nat),a < b->xs[a]? = some x->xs[b]? = some y->x < y
theorem below_go {xs:13e4}{j:Nat}(hr:Rising xs):∀(fuel lo hi:Nat),lo<=hi->hi<=xs.size->hi - lo<=fuel->(∀k x,k < lo->xs[k]? = some x->x < j)->(∀k x,hi<=k->xs[k]? = some x->j<=x)->
  (∀k x,k < below.go xs j fuel lo hi->xs[k]? = some x->x < j)/\(∀k x,below.go xs j fuel lo hi<=k->xs[k]? = some x->j<=x)/\below.go xs j fuel lo hi<=xs.size
 | 0,lo,hi,h1,h2,h3,ha,hb=>by
  have:hi=lo:=by lia
  subst this
  exact ⟨ha,hb,h2⟩
 | fuel + 1,lo,hi,h1,h2,h3,ha,hb=>by
  unfold below.go
  by_cases hlt:lo < hi
  ·rw[if_pos hlt]
   have hm:(lo + hi) / 2 < xs.size:=by lia
   obtain ⟨v,hv⟩:∃v,xs[(lo + hi) / 2]? = some v:=⟨_,Yj hm⟩
   have hd:xs.getD ((lo + hi) / 2) j=v:=by rw[YI,hv];rfl
   dsimp only
   rw[hd]
   by_cases hj:v < j
   ·rw[if_pos hj]
    refine below_go hr fuel _ hi 1e2 h2 1e2 (fun k x hk hx=>?_) hb
    rcases YC k ((lo + hi) / 2) with q | q
    ·exact Ut (hr k _ x v q hx hv) hj
    ·have:k=(lo + hi) / 2:=by lia
     subst this;rw[hv] at hx;cases hx;exact hj
   ·rw[if_neg hj]
    refine below_go hr fuel lo _ 1e2 1e2 1e2 ha (fun k x hk hx=>?_)
    rcases YC ((lo + hi) / 2) k with q | q
    ·exact Xv (VY (Uk hj) (hr _ k v x q hv hx))
    ·have:k=(lo + hi) / 2:=by lia
     subst this;rw[hv] at hx;cases hx;exact Uk hj
  ·rw[if_neg hlt]
   have:hi=lo:=by lia
   subst this
   exact ⟨ha,hb,h2⟩
theorem ZcT {xs:13e4}(hr:Rising xs)(j:Nat):(∀k x,k < below xs j->xs[k]? = some x->x < j)/\(∀k x,below xs j<=k->xs[k]? = some x->j<=x)/\below xs j<=xs.size:=
 below_go hr _ 0 _ (YV _) (Yh _) 1e2 (fun k x h=>absurd h (X8 _)) (fun k x h e=>by rw[YN h] at e;cases e)
theorem below_at {xs:13e4}(hr:Rising xs){i j:Nat}(e:xs[i]? = some j):below xs j=i:=by
 obtain ⟨h1,h2,h3⟩:=ZcT hr j
 rcases Vt (below xs j) i with q | q | q
 ·obtain ⟨v,hv⟩:∃v,xs[below xs j]? = some v:=by
   have hi:i < xs.size:=by rcases YC i xs.size with z | z;exact z;rw[YN z] at e;cases e
   exact ⟨_,Yj 1e2⟩
  have a:=h2 _ _ (Yh _) hv
  have b:=hr _ _ _ _ q hv e
  lia
 ·exact q
 ·have:=h1 i j q e;lia
theorem Zb4 {t:XJ}{i j:Nat}(hr:Rising t.place)(e:t.place[i]? = some j):t.slot j=.live i:=by
 unfold Ue
 rw[below_at hr e]
 dsimp only
 rw[e]
 simp
theorem live_slot {t:XJ}{i j:Nat}(e:t.slot j=.live i):t.place[i]? = some j:=by
 unfold Ue at e
 dsimp only at e
 split at e
 ·rename_i h;cases e;exact eq_of_beq h
 ·split at e<;>cases e
theorem has_none (j:Nat):has #[] j=false:=by unfold has;simp
theorem slot_free {t:XJ}{j:Nat}(hd:t.dummies=#[])(hn:∀i:Nat,t.place[i]?≠some j):t.slot j=.empty:=by
 unfold Ue
 dsimp only
 rw[if_neg (by simpa using hn _),hd,has_none]
 simp
theorem free_slot {t:XJ}{j:Nat}(hr:Rising t.place)(e:t.slot j=.empty):∀i:Nat,t.place[i]?≠some j:=by
 intro i q
 rw[Zb4 hr q] at e
 cases e
theorem slot_kind {t:XJ}(hd:t.dummies=#[])(j:Nat):t.slot j≠.dummy:=by
 unfold Ue
 dsimp only
 rw[hd,has_none]
 split<;>simp
def Sees (t:XJ)(hashAt:Nat->Int)(h:Int)(p:Probe)(m:Met):Prop:=
 ∃n,(∀k,k < n->∃i,t.slot (it t.mask k p).j=.live i/\hashAt i≠h)/\
  ((m=.empty (it t.mask n p).j none/\t.slot (it t.mask n p).j=.empty)\/∃i,m=.candidate (it t.mask n p).j i (it t.mask (n + 1) p)/\t.slot (it t.mask n p).j=.live i/\hashAt i=h)
theorem go_sees {t:XJ}{hashAt:Nat->Int}{h:Int}(hd:t.dummies=#[]):∀(fuel:Nat) (p:Probe),Wf t.mask p->(∃k,k < fuel/\t.slot (it t.mask k p).j=.empty)->∃m,probe.go t hashAt h fuel p=some m/\Sees t hashAt h p m
 | 0,p,_,hk=>by obtain ⟨k,hk,_⟩:=hk;exact absurd hk (X8 _)
 | fuel + 1,p,w,hk=>by
  unfold probe.go
  cases e:t.slot p.j with
  | empty=>exact ⟨_,rfl,0,fun k hk=>absurd hk (X8 _),.inl ⟨by rw[w.dummy];rfl,e⟩⟩
  | dummy=>exact absurd e (slot_kind hd _)
  | live i=>
   dsimp only
   by_cases q:(hashAt i==h)=true
   ·rw[if_pos q]
    refine ⟨_,rfl,0,fun k hk=>absurd hk (X8 _),.inr ⟨i,?_,e,eq_of_beq q⟩⟩
    rw[adv_eq];rfl
   ·rw[if_neg q,adv_eq]
    obtain ⟨k,hk,ek⟩:=hk
    have k0:k≠0:=by rintro rfl;rw[show (it t.mask 0 p).j=p.j from rfl,e] at ek;cases ek
    obtain ⟨k,rfl⟩:∃k',k=k' + 1:=⟨k - 1,by lia⟩
    obtain ⟨m,em,n,h1,h2⟩:=go_sees hd fuel (adv t.mask p) w.adv ⟨k,by lia,ek⟩
    refine ⟨m,em,n + 1,fun k hk=>?_,h2⟩
    cases k with
    | zero=>exact ⟨i,e,by simpa using q⟩
    | succ k=>exact h1 k 1e2
theorem nd_sub {α:Type} [BEq α] [LawfulBEq α]:∀(l l':List α),l.Nodup->(∀x∈l,x∈l')->l.length<=l'.length
 | [],_,_,_=>YV _
 | x::l,l',hn,hs=>by
  obtain ⟨h1,h2⟩:=Xm.mp hn
  have hx:x∈l':=hs x (.head _)
  have:=nd_sub l (l'.erase x) h2 fun y hy=>(List.mem_erase_of_ne (by rintro rfl;exact h1 hy)).mpr (hs y (.tail _ hy))
  rw[List.length_erase_of_mem hx] at this
  have:=List.length_pos_of_mem hx
  simp only[YX];lia
def start (mask:Nat)(h:Int):Probe:=inRun mask (bits h % (mask + 1)) 0 (bits h)
structure T0 (t:XJ)(es:Array (Int×Value)):Prop where
 mm:Mk t.mask
 dm:t.dummies=#[]
 rs:Rising t.place
 sz:t.place.size=es.size
 lt:∀i j:Nat,t.place[i]? = some j->j < t.mask + 1
 rc:∀(i j:Nat) (e:Int×Value),t.place[i]? = some j->es[i]? = some e->∃n,(it t.mask n (start t.mask e.1)).j=j/\∀m,m < n->∃i':Nat,t.place[i']? = some (it t.mask m (start t.mask e.1)).j
structure TI (t:XJ)(es:Array (Int×Value)):Prop extends T0 t es where
 fl:es.size * 5 < t.mask * 3
theorem Zc3 {xs:13e4}(hr:Rising xs){M:Nat}(h:∀j,j < M->∃i:Nat,xs[i]? = some j):∀j,j < M->∃i:Nat,j<=i/\xs[i]? = some j
 | 0,hj=>by obtain ⟨i,e⟩:=h 0 hj;exact ⟨i,YV _,e⟩
 | j + 1,hj=>by
  obtain ⟨i,hi,e⟩:=Zc3 hr h j 1e2
  obtain ⟨i',e'⟩:=h (j + 1) hj
  refine ⟨i',?_,e'⟩
  rcases Vt i i' with q | q | q
  ·lia
  ·subst q;rw[e] at e';exact absurd (YG e') 1e2
  ·have:=hr _ _ _ _ q e' e;lia
theorem Mk.pos {mask:Nat}(h:Mk mask):7<=mask/\mask<=127/\mask % 2=1:=by rcases h with rfl | rfl | rfl<;>decide
theorem T0.room {t:XJ}{es:7e9}(T:T0 t es)(hs:es.size < t.mask + 1):∃j,j < t.mask + 1/\t.slot j=.empty:=by
 by_cases h:∃j,j < t.mask + 1/\∀i:Nat,t.place[i]?≠some j
 ·obtain ⟨j,hj,hn⟩:=h;exact ⟨j,hj,slot_free T.dm hn⟩
 ·exfalso
  have h':∀j,j < t.mask + 1->∃i:Nat,t.place[i]? = some j:=fun j hj=>by
   apply Classical.byContradiction;intro q
   exact h ⟨j,hj,fun i e=>q ⟨i,e⟩⟩
  obtain ⟨i,hi,e⟩:=Zc3 T.rs h' t.mask 1e2
  have:i < t.place.size:=by
   rcases YC i t.place.size with z | z
   ·exact z
   ·rw[YN z] at e;cases e
  have:=T.sz;lia
theorem TI.few {t:XJ}{es:7e9}(T:TI t es):es.size < t.mask:=by have:=T.fl;lia
theorem T0.fits {t:XJ}{es:7e9}(T:T0 t es)(h:es.size<=t.mask):t.fits es.size=true:=by
 unfold SetTable.fits SetTable.fill
 rw[T.dm,T.sz]
 simpa using h
theorem ins_get {α:Type}(xs:Array α)(p:Nat)(x:α)(hp:p<=xs.size)(i:Nat):(insertAt xs p x)[i]? = if i < p then xs[i]? else if i=p then some x else xs[i - 1]?:=by
 rw[←Xg,SetTable.toList_insertAt]
 have hl:(xs.toList.take p).length=p:=by simp;lia
 by_cases h:i < p
 ·rw[if_pos h,Yf 1e2,Xb h,Xg]
 ·rw[if_neg h,Y8 1e2,hl]
  by_cases e:i=p
  ·subst e;simp
  ·rw[if_neg e]
   obtain ⟨k,hk⟩:∃k,i - p=k + 1:=⟨i - p - 1,by lia⟩
   rw[hk,List.getElem?_cons_succ,List.getElem?_drop,Xg]
   congr 1;lia
theorem ins_size {α:Type}(xs:Array α)(p:Nat)(x:α):(insertAt xs p x).size=xs.size + 1:=by
 rw[←YH,SetTable.toList_insertAt]
 simp only[Xa,YX,Xl,Vz,YH];lia
theorem T0.put {t:XJ}{es:7e9}(T:T0 t es){h:Int}{x:Value}{n:Nat}(hn:(it t.mask n (start t.mask h)).j < t.mask + 1)(hf:t.slot (it t.mask n (start t.mask h)).j=.empty)(hm:∀m,m < n->∃i:Nat,t.place[i]? = some (it t.mask m (start t.mask h)).j):
  ∀t1 p,t.put (it t.mask n (start t.mask h)).j=(t1,p)->p<=es.size/\t1.mask=t.mask/\t1.led=t.led/\T0 t1 (insertAt es p (h,x)):=by
 intro t1 p e
 unfold SetTable.put at e
 dsimp only at e
 rw[T.dm,has_none] at e
 cases e
 have fr:=free_slot T.rs hf
 obtain ⟨b1,b2,b3⟩:=ZcT T.rs (it t.mask n (start t.mask h)).j
 generalize hj:(it t.mask n (start t.mask h)).j=j at *
 generalize hp:below t.place j=p at *
 have hpe:p<=es.size:=by rw[←T.sz];exact b3
 have pg:=ins_get t.place p j b3
 have eg:=ins_get es p (h,x) hpe
 have old:∀i v:Nat,t.place[i]? = some v->(insertAt t.place p j)[if i < p then i else i + 1]? = some v:=fun i v e=>by
  rw[pg]
  by_cases q:i < p
  ·rw[if_pos q,if_pos q];exact e
  ·rw[if_neg q,if_neg 1e2,if_neg 1e2];exact e
 refine ⟨hpe,rfl,rfl,⟨T.mm,rfl,?_,?_,?_,?_⟩⟩
 ·intro a b u v hab hu hv
  have hu:(insertAt t.place p j)[a]? = some u:=hu
  have hv:(insertAt t.place p j)[b]? = some v:=hv
  rw[pg] at hu hv
  split at hu
  ·rename_i ha
   split at hv
   ·exact T.rs _ _ _ _ hab hu hv
   ·split at hv
    ·cases hv;exact b1 _ _ ha hu
    ·have z:=b2 _ _ (show p<=b - 1 by lia) hv
     exact Yn (b1 _ _ ha hu) z
  ·split at hu
   ·cases hu
    rw[if_neg 1e2,if_neg 1e2] at hv
    have z:=b2 _ _ (show p<=b - 1 by lia) hv
    rcases Nat.lt_or_eq_of_le z with q | q
    ·exact q
    ·exact absurd (q ▸ hv) (fr _)
   ·rw[if_neg 1e2,if_neg 1e2] at hv
    exact T.rs _ _ _ _ 1e2 hu hv
 ·show (insertAt t.place p j).size=_
  rw[ins_size,ins_size,T.sz]
 ·intro i v e
  have e:(insertAt t.place p j)[i]? = some v:=e
  rw[pg] at e
  split at e
  ·exact T.lt _ _ e
  ·split at e
   ·cases e;exact hn
   ·exact T.lt _ _ e
 ·intro i v e hv he
  have hv:(insertAt t.place p j)[i]? = some v:=hv
  rw[pg] at hv
  rw[eg] at he
  have keep:(∃n,(it t.mask n (start t.mask e.1)).j=v/\∀m,m < n->∃i':Nat,t.place[i']? = some (it t.mask m (start t.mask e.1)).j)->
    ∃n,(it t.mask n (start t.mask e.1)).j=v/\∀m,m < n->∃i':Nat,(insertAt t.place p j)[i']? = some (it t.mask m (start t.mask e.1)).j:=
   fun ⟨n,h1,h2⟩=>⟨n,h1,fun m hm=>let ⟨i',q⟩:=h2 m hm;⟨_,old _ _ q⟩⟩
  split at hv
  ·rename_i q
   rw[if_pos q] at he
   exact keep (T.rc _ _ _ hv he)
  ·rename_i q
   rw[if_neg q] at he
   split at hv
   ·rename_i q2
    rw[if_pos q2] at he
    cases hv;cases he
    exact ⟨n,hj,fun m hm'=>let ⟨i',q⟩:=hm m hm';⟨_,old _ _ q⟩⟩
   ·rename_i q2
    rw[if_neg q2] at he
    exact keep (T.rc _ _ _ hv he)
theorem cover_lp {mask i pt j:Nat}(h:Mk mask)(hi:i < mask + 1)(hpt:pt < 2 ^ 64)(hj:j < mask + 1):∃k,k < turns mask/\(lp mask k (i,pt)).1=j:=by
 have hz:(lp mask 13 (i,pt)).2=0:=by
  rw[lp_pt];exact Nat.div_eq_of_lt (Ut hpt 1e6)
 have hl:=lp_lt mask 13 i pt hi
 generalize e:lp mask 13 (i,pt)=q at hz hl
 obtain ⟨i2,pt2⟩:=q
 dsimp only at hz hl
 subst hz
 obtain ⟨k,hk,ek⟩:=goes h hl hj
 refine ⟨13 + k,by unfold turns;lia,?_⟩
 rw[lp_add,e,lp_zero];exact ek
def own (owner:Array (Option Nat))(j:Nat):Option Nat:=owner.getD j (some 0)
theorem free_ok {mask:Nat}{owner:Array (Option Nat)}:∀(fuel i pt:Nat),(∃k,k < fuel/\own owner (lp mask k (i,pt)).1=none)->
  ∃j n,layClean.free mask owner fuel i pt=some j/\(it mask n (inRun mask i 0 pt)).j=j/\own owner j=none/\∀m,m < n->own owner (it mask m (inRun mask i 0 pt)).j≠none
 | 0,i,pt,h=>by obtain ⟨k,hk,_⟩:=h;exact absurd hk (X8 _)
 | fuel + 1,i,pt,h=>by
  unfold layClean.free
  have hle:i<=runEnd mask i:=by unfold runEnd;split<;>lia
  cases e:(Yi (runEnd mask i + 1 - i)).find? (fun k=>(owner.getD (i + k) (some 0)).isNone) with
  | some k=>
   obtain ⟨h1,h2,h3⟩:=List.find?_range_eq_some.mp e
   have hk:=Y3.mp h2
   have hi:=it_in (mask:=mask) (i:=i) (pt:=pt) k 0 (by unfold len;lia)
   refine ⟨i + k,k,rfl,?_,?_,fun m hm q=>?_⟩
   ·rw[hi,WV];rfl
   ·exact Option.isNone_iff_eq_none.mp h1
   ·have:=h3 m hm
    rw[it_in m 0 (by unfold len;lia),WV] at q
    have q:owner.getD (i + m) (some 0)=none:=q
    rw[q] at this
    simp at this
  | none=>
   have hn:=List.find?_range_eq_none.mp e
   obtain ⟨k,hk,ek⟩:=h
   have k0:k≠0:=by
    rintro rfl
    have ek:owner.getD i (some 0)=none:=ek
    have:=hn 0 1e2
    rw[Nat.add_zero,ek] at this
    simp at this
   obtain ⟨k,rfl⟩:∃k',k=k' + 1:=⟨k - 1,by lia⟩
   obtain ⟨j,n,h1,h2,h3,h4⟩:=free_ok fuel (leap mask i pt).1 (leap mask i pt).2 ⟨k,by lia,ek⟩
   refine ⟨j,(len mask i - 0 + 1) + n,h1,?_,h3,fun m hm=>?_⟩
   ·rw[ZcG,it_next (YV _)];exact h2
   ·by_cases q:m<=len mask i
    ·rw[it_in m 0 1e2,WV]
     have:=hn m (by unfold len at q;lia)
     intro z
     have z:owner.getD (i + m) (some 0)=none:=z
     rw[z] at this
     simp at this
    ·obtain ⟨m',rfl⟩:∃m',m=(len mask i - 0 + 1) + m':=⟨m - (len mask i + 1),by lia⟩
     rw[ZcG,it_next (YV _)]
     exact h4 m' 1e2
structure OI (mask:Nat)(hs:List Int)(owner:Array (Option Nat)):Prop where
 sz:owner.size=mask + 1
 lt:∀j i:Nat,owner[j]? = some (some i)->i < hs.length
 on:∀i,i < hs.length->∃j:Nat,owner[j]? = some (some i)
 inj:∀j j' i:Nat,owner[j]? = some (some i)->owner[j']? = some (some i)->j=j'
 rc:∀(j i:Nat) (h:Int),owner[j]? = some (some i)->hs[i]? = some h->∃n,(it mask n (start mask h)).j=j/\∀m,m < n->∃i':Nat,owner[(it mask m (start mask h)).j]? = some (some i')
theorem own_some {owner:Array (Option Nat)}{j:Nat}(hj:j < owner.size)(h:own owner j≠none):∃i:Nat,owner[j]? = some (some i):=by
 unfold own at h
 rw[YI,Yj hj] at h
 rw[Yj hj]
 cases e:owner[j] with
 | none=>rw[e] at h;exact absurd rfl h
 | some i=>exact ⟨i,rfl⟩
theorem own_none {owner:Array (Option Nat)}{j:Nat}(h:own owner j=none):j < owner.size/\owner[j]? = some none:=by
 unfold own at h
 rw[YI] at h
 rcases YC j owner.size with q | q
 ·rw[Yj q] at h
  have h:owner[j]=none:=h
  exact ⟨q,by rw[Yj q,h]⟩
 ·rw[YN q] at h;cases h
theorem OI.room {mask:Nat}{hs:List Int}{owner:Array (Option Nat)}(O:OI mask hs owner)(h:hs.length < mask + 1):∃j,j < mask + 1/\own owner j=none:=by
 apply Classical.byContradiction
 intro q
 have al:∀j,j < mask + 1->∃i:Nat,owner[j]? = some (some i):=fun j hj=>own_some (by rw[O.sz];exact hj) fun z=>q ⟨j,hj,z⟩
 have g:∀j,j < mask + 1->owner[j]? = some (some ((owner.getD j none).getD 0)):=fun j hj=>by
  obtain ⟨i,e⟩:=al j hj
  rw[YI,e];rfl
 have:=nd_sub ((Yi (mask + 1)).map fun j=>(owner.getD j none).getD 0) (Yi hs.length) ?_ ?_
 ·simp at this;lia
 ·refine XH.mpr (Ws (fun {a b} ha hb hab e=>?_) VB)
  have h1:=g a (Y3.mp ha)
  have h2:=g b (Y3.mp hb)
  rw[e] at h1
  exact hab (O.inj _ _ _ h1 h2)
 ·intro x hx
  obtain ⟨j,hj,rfl⟩:=YB.mp hx
  exact Y3.mpr (O.lt _ _ (g j (Y3.mp hj)))
theorem it_lt {mask:Nat}{h:Int}(hM:Mk mask)(n:Nat):(it mask n (start mask h)).j < mask + 1:=by
 have key:∀n,∃i d pt,it mask n (start mask h)=inRun mask i d pt/\d<=len mask i/\i < mask + 1:=by
  intro n
  induction n with
  | zero=>exact ⟨_,0,_,rfl,YV _,VI _ (VZ _)⟩
  | succ n ih=>
   obtain ⟨i,d,pt,e,hd,hi⟩:=ih
   rw[it_succ,e]
   by_cases q:d=len mask i
   ·rw[adv_out q];exact ⟨_,0,_,rfl,YV _,VI _ (VZ _)⟩
   ·rw[adv_in 1e2];exact ⟨i,d + 1,pt,rfl,by lia,hi⟩
 obtain ⟨i,d,pt,e,hd,hi⟩:=key n
 rw[e]
 show i + d < mask + 1
 unfold len runEnd at hd
 split at hd<;>lia
theorem OI.step {mask:Nat}{hs:List Int}{owner:Array (Option Nat)}(O:OI mask hs owner)(hM:Mk mask)(h:hs.length < mask + 1)(hh:Int):
  ∃j,layClean.free mask owner (turns mask) (bits hh % (mask + 1)) (bits hh)=some j/\OI mask (hs++[hh]) (owner.setIfInBounds j (some hs.length)):=by
 obtain ⟨j0,hj0,e0⟩:=O.room h
 obtain ⟨k,hk,ek⟩:=cover_lp hM (VI (bits hh) (VZ mask)) (bits_lt hh) hj0
 obtain ⟨j,n,h1,h2,h3,h4⟩:=free_ok (mask:=mask) (owner:=owner) (turns mask) (bits hh % (mask + 1)) (bits hh) ⟨k,hk,by rw[ek];exact e0⟩
 have h2:(it mask n (start mask hh)).j=j:=h2
 obtain ⟨hj,hjn⟩:=own_none h3
 have gs:∀a:Nat,(owner.setIfInBounds j (some hs.length))[a]? = if j=a then some (some hs.length) else owner[a]?:=fun a=>by
  rw[Array.getElem?_setIfInBounds]
  by_cases q:j=a
  ·rw[if_pos q,if_pos q,if_pos hj]
  ·rw[if_neg q,if_neg q]
 have old:∀a i:Nat,owner[a]? = some (some i)->(owner.setIfInBounds j (some hs.length))[a]? = some (some i):=fun a i e=>by
  rw[gs,if_neg];exact e
  rintro rfl;rw[hjn] at e;cases e
 refine ⟨j,h1,⟨by simpa using O.sz,fun a i e=>?_,fun i hi=>?_,fun a b i ea eb=>?_,fun a i x ea ex=>?_⟩⟩
 ·rw[gs] at e
  split at e
  ·cases e;simp
  ·have:=O.lt _ _ e;simp;lia
 ·by_cases q:i < hs.length
  ·obtain ⟨a,e⟩:=O.on i q;exact ⟨a,old _ _ e⟩
  ·have:i=hs.length:=by simp at hi;lia
   subst this
   exact ⟨j,by rw[gs,if_pos rfl]⟩
 ·rw[gs] at ea eb
  split at ea
  ·rename_i qa
   cases ea
   split at eb
   ·rename_i qb;lia
   ·have:=O.lt _ _ eb;lia
  ·split at eb
   ·cases eb;have:=O.lt _ _ ea;lia
   ·exact O.inj _ _ _ ea eb
 ·rw[gs] at ea
  split at ea
  ·rename_i qa
   subst qa
   cases ea
   have:x=hh:=by simpa using ex.symm
   subst this
   refine ⟨n,h2,fun m hm=>?_⟩
   obtain ⟨i',e'⟩:=own_some (by rw[O.sz];exact it_lt hM m) (h4 m hm)
   exact ⟨i',old _ _ e'⟩
  ·have hl:=O.lt _ _ ea
   rw[Yf hl] at ex
   obtain ⟨n',q1,q2⟩:=O.rc _ _ _ ea ex
   exact ⟨n',q1,fun m hm=>let ⟨i',e'⟩:=q2 m hm;⟨i',old _ _ e'⟩⟩
def stepO (mask:Nat)(acc:Option (Array (Option Nat)×Nat))(h:Int):Option (Array (Option Nat)×Nat):=do
 let (owner,k) ←acc
 let j ←layClean.free mask owner (turns mask) (bits h % (mask + 1)) (bits h)
 pure (owner.setIfInBounds j (some k),k + 1)
theorem layClean_ok {mask:Nat}(hM:Mk mask)(hashes:Array Int)(h:hashes.size < mask + 1):∃owner,layClean mask hashes=some owner/\OI mask hashes.toList owner:=by
 have key:∀(rest pre:List Int) (owner:Array (Option Nat)),OI mask pre owner->pre.length + rest.length < mask + 1->∃o',rest.foldl (stepO mask) (some (owner,pre.length))=some (o',pre.length + rest.length)/\OI mask (pre++rest) o':=by
  intro rest
  induction rest with
  | nil=>intro pre owner O _;exact ⟨owner,rfl,by rw[YJ];exact O⟩
  | cons x rest ih=>
   intro pre owner O hl
   simp only[YX] at hl
   obtain ⟨j,e,O'⟩:=O.step hM 1e2 x
   obtain ⟨o',e',O2⟩:=ih (pre++[x]) _ O' 11e0
   refine ⟨o',?_,by rw[List.append_cons];exact O2⟩
   rw[List.foldl_cons]
   have:stepO mask (some (owner,pre.length)) x=some (owner.setIfInBounds j (some pre.length),(pre++[x]).length):=by
    unfold stepO
    show (layClean.free mask owner (turns mask) (bits x % (mask + 1)) (bits x)).bind _=_
    rw[e];simp
   rw[this,e']
   congr 2
   simp;lia
 have O0:OI mask [] (Uw (mask + 1) none):=by
  have z:∀j i:Nat,(Uw (mask + 1) (none:Option Nat))[j]?≠some (some i):=fun j i e=>by
   rw[Array.getElem?_replicate] at e
   split at e<;>cases e
  exact ⟨by simp,fun j i e=>absurd e (z _ _),fun i hi=>absurd hi (X8 _),fun j j' i e=>absurd e (z _ _),fun j i x e=>absurd e (z _ _)⟩
 obtain ⟨o',e',O'⟩:=key hashes.toList [] _ O0 12e1
 refine ⟨o',?_,by simpa using O'⟩
 unfold layClean
 rw[←Array.foldl_toList]
 show (hashes.toList.foldl (stepO mask) (some (Uw (mask + 1) none,0))).map (·.1)=_
 have:([]:List Int).length=0:=rfl
 rw[this] at e'
 rw[e'];rfl
theorem nd_perm:∀(l l':12e5),l.Nodup->l'.Nodup->(∀x,x∈l↔x∈l')->l.Perm l'
 | [],l',_,_,h=>by
  cases l' with
  | nil=>exact .nil
  | cons y r=>exact absurd ((h y).mpr (.head _)) Xd
 | x::l,l',hn,hn',h=>by
  obtain ⟨h1,h2⟩:=Xm.mp hn
  have hx:x∈l':=(h x).mp (.head _)
  refine (List.Perm.cons x (nd_perm l (l'.erase x) h2 (hn'.erase x) fun y=>?_)).trans (List.perm_cons_erase hx).symm
  rw[hn'.mem_erase_iff]
  constructor
  ·intro hy;exact ⟨by rintro rfl;exact h1 hy,(h y).mp (.tail _ hy)⟩
  ·rintro ⟨q,hy⟩
   exact (Ym.mp ((h y).mpr hy)).resolve_left q
theorem fmap_get {α β:Type}(g:α->Option β):∀(l:List α),(∀x∈l,∃y,g x=some y)->∀i:Nat,(l.filterMap g)[i]? = (l[i]?).bind g
 | [],_,i=>by simp
 | x::l,h,i=>by
  obtain ⟨y,e⟩:=h x (.head _)
  rw[List.filterMap_cons_some e]
  cases i with
  | zero=>simp[e]
  | succ i=>simpa using fmap_get g l (fun z hz=>h z (.tail _ hz)) i
def live (mask:Nat)(owner:Array (Option Nat)):List (Nat×Nat):=(Yi (mask + 1)).filterMap fun j=>(owner.getD j none).map (j,·)
theorem live_mem {mask:Nat}{owner:Array (Option Nat)}(hs:owner.size=mask + 1){j i:Nat}:(j,i)∈live mask owner↔owner[j]? = some (some i):=by
 unfold live
 rw[VW]
 constructor
 ·rintro ⟨a,ha,e⟩
  obtain ⟨b,e1,e2⟩:=XV.mp e
  cases e2
  rw[YI] at e1
  cases q:owner[j]? with
  | none=>rw[q] at e1;cases e1
  | some v=>rw[q] at e1;have e1:v=some i:=e1;rw[e1]
 ·intro e
  have hj:j < mask + 1:=by
   rw[←hs]
   rcases YC j owner.size with z | z
   ·exact z
   ·rw[YN z] at e;cases e
  exact ⟨j,Y3.mpr hj,by rw[YI,e];rfl⟩
theorem live_rise (mask:Nat)(owner:Array (Option Nat)):(live mask owner).Pairwise fun a b=>a.1 < b.1:=by
 unfold live
 refine List.Pairwise.filterMap _ (fun a a' h b hb b' hb'=>?_) List.pairwise_lt_range
 obtain ⟨_,_,rfl⟩:=XV.mp hb
 obtain ⟨_,_,rfl⟩:=XV.mp hb'
 exact h
theorem pw_get {α:Type}{R:α->α->Prop}{l:List α}(h:l.Pairwise R){a b:Nat}{x y:α}(hab:a < b)(hx:l[a]? = some x)(hy:l[b]? = some y):R x y:=by
 obtain ⟨ha,rfl⟩:=YT.mp hx
 obtain ⟨hb,rfl⟩:=YT.mp hy
 exact List.pairwise_iff_getElem.mp h a b ha hb hab
theorem laid_ok {mask finger moves:Nat}{led plain:Bool}(hM:Mk mask)(es:7e9)(hs:es.size * 5 < mask * 3):
  ∃t' order,laid mask finger moves led plain (es.map (·.1))=some (t',order)/\(order.filterMap (es[·]?)).size=es.size/\(order.filterMap (es[·]?)).toList.Perm es.toList/\TI t' (order.filterMap (es[·]?))/\t'.mask=mask/\t'.led=led:=by
 obtain ⟨owner,e,O⟩:=layClean_ok hM (es.map (·.1)) 11e0
 have hlen:(es.map (·.1)).toList.length=es.size:=by simp
 have lm:=@live_mem mask owner O.sz
 have lr:=live_rise mask owner
 generalize hL:live mask owner=L at lm lr
 refine ⟨_,_,by unfold laid;rw[e];rfl,?_⟩
 show (((live mask owner).map (·.2)).toArray.filterMap (es[·]?)).size=es.size/\_
 have hpl:(((Yi (mask + 1)).filterMap fun j=>(owner.getD j none).map (j,·)).map (·.1))=L.map (·.1):=by rw[←hL];rfl
 have hor:(((Yi (mask + 1)).filterMap fun j=>(owner.getD j none).map (j,·)).map (·.2))=L.map (·.2):=by rw[←hL];rfl
 rw[hpl,hor,hL]
 have ordPerm:(L.map (·.2)).Perm (Yi es.size):=by
  refine nd_perm _ _ ?_ VB fun x=>?_
  ·refine XH.mpr (Ws (fun {a b} ha hb hab q=>?_) lr)
   obtain ⟨a1,a2⟩:=a
   obtain ⟨b1,b2⟩:=b
   have q:a2=b2:=q
   subst q
   have:=O.inj _ _ _ (lm.mp ha) (lm.mp hb)
   have hab:a1 < b1:=hab
   lia
  ·rw[YB,Y3]
   constructor
   ·rintro ⟨⟨a,b⟩,h1,rfl⟩
    have:=O.lt _ _ (lm.mp h1)
    rw[hlen] at this;exact this
   ·intro hx
    obtain ⟨j,q⟩:=O.on x (by rw[hlen];exact hx)
    exact ⟨(j,x),lm.mpr q,rfl⟩
 have hperm:((L.map (·.2)).toArray.filterMap (es[·]?)).toList.Perm es.toList:=by
  rw[Array.toList_filterMap]
  exact (ordPerm.filterMap _).trans (by rw[filterMap_getElem?_range])
 have hsz:((L.map (·.2)).toArray.filterMap (es[·]?)).size=es.size:=by rw[←YH,hperm.length_eq,YH]
 have hll:L.length=es.size:=by have:=ordPerm.length_eq;simpa using this
 have eg:∀i:Nat,((L.map (·.2)).toArray.filterMap (es[·]?))[i]? = (L[i]?).bind fun p=>es[p.2]?:=fun i=>by
  rw[←Xg,Array.toList_filterMap]
  show ((L.map (·.2)).filterMap (es[·]?))[i]? = _
  rw[fmap_get]
  ·rw[YL];cases L[i]?<;>rfl
  ·intro x hx
   have hx:=Y3.mp (ordPerm.mem_iff.mp hx)
   exact ⟨_,Yj hx⟩
 have pg:∀i j:Nat,(L.map (·.1)).toArray[i]? = some j->∃k,L[i]? = some (j,k):=fun i j q=>by
  rw[WW,YL] at q
  obtain ⟨⟨a,k⟩,h1,h2⟩:=XV.mp q
  exact ⟨k,by rw[h1];exact congrArg (fun z=>some (z,k)) h2⟩
 refine ⟨hsz,hperm,⟨⟨hM,rfl,?_,?_,?_,?_⟩,?_⟩,rfl,rfl⟩
 ·intro a b x y hab hx hy
  obtain ⟨k1,q1⟩:=pg _ _ hx
  obtain ⟨k2,q2⟩:=pg _ _ hy
  exact pw_get lr hab q1 q2
 ·show (L.map (·.1)).toArray.size=_
  rw[hsz];simpa using hll
 ·intro i j q
  obtain ⟨k,q⟩:=pg _ _ q
  have:=lm.mp (YK q)
  show j < mask + 1
  rw[←O.sz]
  rcases YC j owner.size with z | z
  ·exact z
  ·rw[YN z] at this;cases this
 ·intro i j x q qx
  obtain ⟨k,q⟩:=pg _ _ q
  rw[eg,q] at qx
  have qx:es[k]? = some x:=qx
  have ho:=lm.mp (YK q)
  obtain ⟨n,h1,h2⟩:=O.rc j k x.1 ho (by rw[Xg,Array.getElem?_map,qx];rfl)
  refine ⟨n,h1,fun m hm=>?_⟩
  obtain ⟨i',q'⟩:=h2 m hm
  obtain ⟨a,ha,hb⟩:=WA (lm.mpr q')
  refine ⟨a,?_⟩
  show (L.map (·.1)).toArray[a]? = _
  rw[WW,YL,Yb ha,hb];rfl
 ·show _ * 5 < mask * 3
  rw[hsz];exact hs
theorem grown_ok {mask n:Nat}(h:Mk mask)(h1:n * 5 < mask * 3)(h2:¬(n + 1) * 5 < mask * 3)(h3:n + 1 < 77):Mk (sizeAbove (grown (n + 1)) - 1)/\(n + 1) * 5 < (sizeAbove (grown (n + 1)) - 1) * 3:=by
 rcases h with rfl | rfl | rfl
 ·have:n=4:=by lia
  subst this;exact ⟨.inr (.inl 1e6),by decide⟩
 ·have:n=18:=by lia
  subst this;exact ⟨.inr (.inr 1e6),by decide⟩
 ·lia
section
variable {prog:YD}{w:World}{K:Type} [DecidableEq K]{knd:KeyKind prog w K}{A:Around}{E:1e7}{s:Shared}
theorem oacs_scalar {v:Value}(n:Nat)(h:W6 v=true):V9 n v=pure false:=by
 cases v<;>first | (cases n<;>rfl) | (exfalso;revert h;simp[W6])
theorem Zcf {M:Model}{β:Type}{J:β->Prop}{ok:Value->Prop}{f:Value->β->Sem (ForInStep β)}
  (step:∀v b (Q:ForInStep β->Shared->Prop),ok v->J b->(∀b',J b'->Q (.yield b') s)->(∀b',J b'->Q (.done b') s)->wpAny M A (f v b) Q E s):
  ∀(xs:4e9) (b:β) (Q:β->Shared->Prop),(∀v∈xs,ok v)->J b->(∀b',J b'->Q b' s)->wpAny M A (forIn xs b f) Q E s
 | [],b,Q,_,j,q=>by rw[List.forIn_nil];exact Yd (q b j)
 | v::xs,b,Q,hx,j,q=>by
  rw[List.forIn_cons]
  exact Ya (step v b _ (hx v (.head _)) j (fun b' j'=>Zcf step xs b' Q (fun u z=>hx u (.tail _ z)) j' q) fun b' j'=>Yd (q b' j'))
theorem ZdH {ks:List K}{a:Addr}{Q:9e6}(hk:X4 knd s.heap ks a)(h:Q false s):wpAny 3e2 A (V9 8 (.ref a)) Q E s:=by
 obtain ⟨o,items,n,b1,b2,b3,b4⟩:=id hk
 have same:("tuple"=="tuple")=true:=by decide
 rw[V9]
 apply Ya
 refine Vd hk.typeIs ?_
 simp only[same,if_true]
 repeat first
  | refine V4 b1 b3 ?_
  | simp only[Uf,YO,if_false]
  | apply Yd
  | apply Ya
 rw[←Array.forIn_toList]
 refine Zcf (J:=fun r=>r.1=none) (ok:=fun v=>W6 v=true) (fun v r Q z j q _=>?_) _ _ _ b4.byValue rfl ?_
 ·rw[oacs_scalar _ z]
  apply Ya
  apply Yd
  exact Yd (q _ rfl)
 ·rintro ⟨r,u⟩ j
  cases (show r=none from j)
  exact Yd h
theorem hbv_scalar {v:Value}(n:Nat)(h:W6 v=true):∃b,hashByValue n v=pure b:=by
 cases v<;>cases n<;>first | exact 9e7 | (exfalso;revert h;simp[W6])
theorem hbv_tuple {ks:List K}{a:Addr}{Q:9e6}(hk:X4 knd s.heap ks a)(h:∀b,Q b s):wpAny 3e2 A (hashByValue 8 (.ref a)) Q E s:=by
 obtain ⟨o,items,n,b1,b2,b3,b4⟩:=id hk
 rw[hashByValue]
 apply Ya
 refine wpAny_specialOf hk.typeIs F.slot_tuple_hash.lookup ?_
 apply Ya
 refine V4 b1 b3 ?_
 apply Ya
 rw[←Array.forIn_toList]
 refine Zcf (J:=fun _=>True) (ok:=fun v=>W6 v=true) (fun v r Q z _ q1 q2=>?_) _ _ _ b4.byValue trivial ?_
 ·obtain ⟨b,e⟩:=hbv_scalar 7 z
  rw[e]
  apply Ya
  apply Yd
  cases b
  ·exact Yd (q2 _ trivial)
  ·exact Yd (q1 _ trivial)
 ·rintro ⟨_ | r,u⟩ _
  ·exact Yd (h _)
  ·exact Yd (h _)
theorem seen_quiet {ks:List K}{a:Addr}{stored:4e9}{Q:9e6}(hk:X4 knd s.heap ks a)(hst:∀v∈stored,∃ks' b,v=.ref b/\X4 knd s.heap ks' b)(h:Q false s):
  wpAny 3e2 A (searchCouldBeSeen (.ref a) stored) Q E s:=by
 delta searchCouldBeSeen
 apply Ya
 refine Zcf (J:=fun r=>r.1=none) (ok:=fun v=>∃ks' b,v=.ref b/\X4 knd s.heap ks' b) (fun v r Q z j q1 _=>?_) _ _ _ hst rfl ?_
 ·obtain ⟨ks',b,rfl,hb⟩:=z
  dsimp only
  split
  ·exact Yd (q1 _ rfl)
  ·repeat first
    | exact Yd (q1 _ rfl)
    | refine (WO knd).quiet hk ?_
    | refine (WO knd).quiet hb ?_
    | refine ZdH hk ?_
    | refine ZdH hb ?_
    | simp only[Uf,YO,if_false]
    | apply Ya
 ·rintro ⟨r,u⟩ j
  cases (show r=none from j)
  exact Yd h
end
section
variable {prog:YD}{w:World}{K:Type} [DecidableEq K]{knd:KeyKind prog w K}{A:Around}{E:1e7}{s:Shared}
def Els (knd:KeyKind prog w K)(h:Heap)(es:7e9):Prop:=∀(i:Nat) (e:Int×Value),es[i]? = some e->∃k b,e=(Ys knd k,YE b)/\X4 knd h k b
def Unmet (knd:KeyKind prog w K)(h:Heap)(es:7e9)(t:XJ)(k:List K)(n:Nat):Prop:=∀m,m < n->∃i,t.slot (it t.mask m 9e0).j=.live i/\∀(u:Int) (b:Addr),es[i]? = some (u,.ref b)->¬X4 knd h k b
theorem search {a x:Addr}{o:Obj}{es:7e9}{ep:Nat}{t:XJ}{k:List K}{Q:SetFound->Shared->Prop}(hu:5e4)(ho:s.heap.get? a=some o)(hd:o.data=.set es ep t)(T:TI t es)(he:Els knd s.heap es)(hk:X4 knd s.heap k x)
  (hmet:∀(i:Nat) (u:Int) (b:Addr),es[i]? = some (u,.ref b)->X4 knd s.heap k b->Q (.there none) s)
  (hfree:∀n,t.slot (it t.mask n 9e0).j=.empty->Unmet knd s.heap es t k n->Q (.free (it t.mask n 9e0).j false) s):
  ∀(fuel n:Nat) (stand:Option Probe),stand.getD (t.probeStart (Ys knd k))=it t.mask n 9e0->(∃N,n<=N/\N < n + fuel/\t.slot (it t.mask N 9e0).j=.empty)->Unmet knd s.heap es t k n->
   wpAny 3e2 A (Wh a (.ref x) (Ys knd k) true fuel stand) Q E s:=by
 have hf:t.fits es.size=true:=T.fits (Xv T.few)
 intro fuel
 induction fuel with
 | zero=>rintro n stand _ ⟨N,h1,h2,_⟩ _;lia
 | succ fuel ih=>
  intro n stand hs hN hun
  unfold Wh
  refine Ya (YY ho hd hf ?_)
  dsimp only
  have hg:t.gaveWay=false:=by
   unfold SetTable.gaveWay
   rw[T.mm.pos.2.2];rfl
  rw[hg]
  simp only[YO,↓reduceIte]
  rw[hs]
  have w0:Wf t.mask 9e0:=Wf.start _ _
  have wn:=w0.it n
  obtain ⟨j0,hj0,e0⟩:=T.room (Nat.lt_succ_of_lt T.few)
  obtain ⟨c,hc,ec⟩:=wn.meets T.mm hj0
  obtain ⟨m,em,n1,sk,hm⟩:=go_sees (hashAt:=fun i=>(es[i]?.map (·.1)).getD 0) (h:=Ys knd k) T.dm (10 * turns t.mask) _ wn ⟨c,hc,by rw[ec];exact e0⟩
  have em:t.probe (fun i=>(es[i]?.map (·.1)).getD 0) (Ys knd k) (it t.mask n 9e0)=some m:=em
  have un1:Unmet knd s.heap es t k (n + n1):=by
   intro q hq
   by_cases z:q < n
   ·exact hun q z
   ·obtain ⟨i,h1,h2⟩:=sk (q - n) 1e2
    rw[←ZcG,show n + (q - n)=q by lia] at h1
    refine ⟨i,h1,fun u b eb hb=>h2 ?_⟩
    obtain ⟨k',b',e',hb'⟩:=he i _ eb
    cases e'
    dsimp only
    rw[eb]
    show Ys knd k'=_
    rw[hb'.inj hb]
  rw[←ZcG] at hm
  generalize hP:t.probe _ (Ys knd k) (it t.mask n 9e0)=r
  have hr:r=some m:=hP.symm.trans em
  subst hr
  clear hP
  dsimp only
  rcases hm with ⟨rfl,hm⟩ | ⟨i,rfl,hl,hh⟩
  ·exact Yd (hfree _ hm un1)
  ·dsimp only
   have hpi:=live_slot hl
   have hi:i < es.size:=by
    rw[←T.sz]
    rcases YC i t.place.size with z | z
    ·exact z
    ·rw[YN z] at hpi;cases hpi
   obtain ⟨k',b,ee,hb⟩:=he i _ (Yj hi)
   have ei:es[i]? = some (Ys knd k',YE b):=by rw[Yj hi,ee]
   have onward:¬X4 knd s.heap k b->wpAny 3e2 A (Wh a (.ref x) (Ys knd k) true fuel (some (it t.mask (n1 + 1) (it t.mask n 9e0)))) Q E s:=by
    intro hne
    obtain ⟨N,h1,h2,h3⟩:=hN
    refine ih (n + n1 + 1) _ ?_ ⟨N,?_,by lia,h3⟩ ?_
    ·show it t.mask (n1 + 1) (it t.mask n 9e0)=_
     rw[←ZcG];rfl
    ·rcases YC (n + n1) N with z | z
     ·exact z
     ·exfalso
      rcases Nat.lt_or_eq_of_le z with z | z
      ·obtain ⟨i',q,_⟩:=un1 N z
       rw[q] at h3;cases h3
      ·subst z;rw[hl] at h3;cases h3
    ·intro q hq
     by_cases z:q < n + n1
     ·exact un1 q z
     ·have:q=n + n1:=by lia
      subst this
      refine ⟨i,hl,fun u b' eb=>?_⟩
      rw[ei] at eb;cases eb;exact hne
   have main:wpAny 3e2 A (match es[i]? with
     | some (fst,y)=>do
      let equal ←Up [y] (eqBool y (YE x))
      let __x ←setState a
      if (true&&equal)=true then pure (V5 none)
       else
        match __x.2.snd.sameMemory t.moves t.mask with
        | some same=>
         match if same=true then __x.2.snd.slot (it t.mask (n + n1) 9e0).j else Slot.empty with
         | Slot.live i'=>
          match __x.fst[i']? with
          | some (fst,y')=>do
           let __do_lift ←isSame y' y
           let still ←pure (if __do_lift=true then some i' else none)
           match still with
            | none=>do
             rule "set.search.anew"
             Wh a (YE x) (Ys knd k) true fuel none
            | some i'=>
             if equal=true then pure (V5 (some i'))
             else Wh a (YE x) (Ys knd k) true fuel (some (it t.mask (n1 + 1) (it t.mask n 9e0)))
          | none=>do
           let still ←pure none
           match still with
            | none=>do
             rule "set.search.anew"
             Wh a (YE x) (Ys knd k) true fuel none
            | some i'=>
             if equal=true then pure (V5 (some i'))
             else Wh a (YE x) (Ys knd k) true fuel (some (it t.mask (n1 + 1) (it t.mask n 9e0)))
         | x_1=>do
          let still ←pure none
          match still with
           | none=>do
            rule "set.search.anew"
            Wh a (YE x) (Ys knd k) true fuel none
           | some i'=>
            if equal=true then pure (V5 (some i'))
            else Wh a (YE x) (Ys knd k) true fuel (some (it t.mask (n1 + 1) (it t.mask n 9e0)))
        | _=>unsupported "set.changed-during-lookup:is-the-new-block-at-the-old-address"
     | _=>unsupported "internal:set-entry") Q E s:=by
    rw[ei]
    dsimp only
    refine Ya (Xk ((WO knd).eqBool hu hb hk ?_))
    refine Ya (YY ho hd hf ?_)
    dsimp only
    by_cases hq:k'=k
    ·rw[decide_eq_true hq]
     exact Yd (hmet i _ b ei (hq ▸ hb))
    ·rw[decide_eq_false hq]
     have hsm:t.sameMemory t.moves t.mask=some true:=by unfold SetTable.sameMemory;simp
     rw[hsm]
     simp only[V6,YO,↓reduceIte]
     rw[hl]
     dsimp only
     rw[ei]
     dsimp only
     refine Ya (wpAny_isSame_ref_self ?_)
     refine Ya (Yd ?_)
     simp only[↓reduceIte]
     exact onward fun z=>hq (hb.inj z)
   split
   ·refine Ya (seen_quiet hk (fun v hv=>?_) ?_)
    ·obtain ⟨⟨u,v'⟩,hm1,rfl⟩:=YB.mp hv
     have hm1:=XY.mp hm1
     obtain ⟨j,hj,q⟩:=Array.getElem_of_mem (Array.mem_filter.mp hm1).1
     obtain ⟨k2,b2,e2,h2⟩:=he j _ (Yj hj)
     rw[q] at e2;cases e2
     exact ⟨k2,b2,rfl,h2⟩
    ·simp only[YO,↓reduceIte]
     exact main
   ·exact main
end
section
variable {prog:YD}{w:World}{K:Type} [DecidableEq K]{knd:KeyKind prog w K}{A:Around}{E:1e7}{s:Shared}
theorem T0.plainOff {t:XJ}{es:7e9}(T:T0 t es)(b:Bool):T0 (if b then t else { t with plain:=false }) es:=by
 cases b
 ·exact ⟨T.mm,T.dm,T.rs,T.sz,T.lt,T.rc⟩
 ·exact T
theorem get_store {h:Heap}{a:Addr}{o:Obj}{es:7e9}{ep:Nat}{t:XJ}(ho:h.get? a=some o)(hd:o.data=.set es ep t)(es':7e9)(t':XJ):
  (h.update a (Obj.putSet es' t')).get? a=some { o with data:=.set es' (ep + 1) t' }:=by
 have q:=XG (Obj.putSet es' t') ho (by rw[putSet_of es' t' hd];rfl)
 rw[putSet_of es' t' hd] at q;exact q
theorem perm_ins {α:Type}(xs:Array α)(p:Nat)(x:α):(insertAt xs p x).toList.Perm (xs.toList++[x]):=by
 have q:=SetTable.insertAt_perm xs p x
 rwa[Array.toList_push] at q
theorem mask_off (t:XJ)(b:Bool):(if b then t else { t with plain:=false }).mask=t.mask/\(if b then t else { t with plain:=false }).place=t.place/\(if b then t else { t with plain:=false }).dummies=t.dummies:=by
 cases b<;>exact ⟨rfl,rfl,rfl⟩
end
end Se
namespace Se
open PySem PySem.Spec
abbrev newSetObj (led:Bool):Obj:={ cls:=.type "set",dict:=none,data:=.set #[] 0 (.fresh 0 0 led) }
end Se
namespace Pu
open PySem PySem.Spec PyProof.Rows L2
inductive PV where
 | non | bl (b:Bool) | int (i:Int) | str (x:Str) | tup (xs:List PV) | lst (xs:List PV) | dct (ks vs:List PV) | dtt (ks:List (List Key)) (vs:List PV) | fn (a:Addr) | ty (n:String)
def kP:Key->PV
 | .inl i=>.int i
 | .inr x=>.str x
def LsR (K:W.Frag)(ι:4e3)(H:Hp)(a:Addr)(vs:List V):Prop:=
 (a∉ι/\Rd H a (.lst vs))\/
  ∃(o:Obj) (its:Array Value) (n:Nat),K.lookup a=some o/\o.cls=.type "list"/\o.dict=none/\o.data=.seq its n/\its.size<=Yu/\Vals vs its.toList
theorem LsR.sq {K:W.Frag}{ι:4e3}{H:Hp}{a:Addr}{vs:List V}(h:LsR K ι H a vs):SqL K H a vs:=by
 rcases h with ⟨_,h⟩ | h
 ·exact .inl h
 ·exact .inr h
def TpR (H:Hp)(a:Addr)(vs:List V):Prop:=H a=some (.tup vs)
theorem TpR.sq {K:W.Frag}{H:Hp}{a:Addr}{vs:List V}(h:TpR H a vs):SqT K H a vs:=.inl (.inl h)
mutual
def Rep (K:W.Frag)(ι:4e3)(H:Hp):PV->V->Prop
 | .non,v=>v=.non
 | .bl b,v=>v=.bl b
 | .int i,v=>v=.int i
 | .str x,v=>v=.str x/\x.length<=Yu
 | .tup ps,v=>∃a vs,v=.ref a/\TpR H a vs/\Reps K ι H ps vs
 | .lst ps,v=>∃a vs,v=.ref a/\LsR K ι H a vs/\Reps K ι H ps vs
 | .dct ks ps,v=>∃(a:Addr) (qs:11e9) (vs:List V),v=.ref a/\a∉ι/\H a=some (.dK (qs.zip vs))/\qs.length=vs.length/\ks=qs.map kP/\Reps K ι H ps vs
 | .dtt ks ps,v=>∃(a:Addr) (vs:List V),v=.ref a/\a∉ι/\Rd H a (.dT (ks.zip vs))/\ks.length=vs.length/\Reps K ι H ps vs
 | .fn a,v=>v=.ref a
 | .ty n,v=>v=.ty n
def Reps (K:W.Frag)(ι:4e3)(H:Hp):List PV->List V->Prop
 | [],vs=>vs=[]
 | p::ps,vs=>∃v r,vs=v::r/\Rep K ι H p v/\Reps K ι H ps r
end
inductive SV where
 | v (p:PV) | c (k:Nat)
abbrev Cs:=List PV
def RepS (K:W.Frag)(ι:4e3)(H:Hp):SV->V->Prop
 | .v p,x=>Rep K ι H p x
 | .c k,x=>∃a,x=.ref a/\ι[k]? = some a
def RepSs (K:W.Frag)(ι:4e3)(H:Hp):List SV->List V->Prop
 | [],vs=>vs=[]
 | p::ps,vs=>∃v r,vs=v::r/\RepS K ι H p v/\RepSs K ι H ps r
def CellOk (K:W.Frag)(ι:4e3)(H:Hp)(a:Addr):PV->Prop
 | .lst ps=>∃vs,H a=some (.lst vs)/\Reps K ι H ps vs
 | .dct ks ps=>∃(qs:11e9) (vs:List V),H a=some (.dK (qs.zip vs))/\qs.length=vs.length/\ks=qs.map kP/\Reps K ι H ps vs
 | .dtt ks ps=>∃(vs:List V),H a=some (.dT (ks.zip vs))/\ks.length=vs.length/\Reps K ι H ps vs
 | _=>False
structure CR (K:W.Frag)(ι:List Addr)(H:Hp)(C:Cs):Prop where
 len:ι.length=C.length
 nd:ι.Nodup
 ok:∀(k:Nat) (a:Addr) (c:PV),ι[k]? = some a->C[k]? = some c->CellOk K ι H a c
def Fr (ι:4e3)(H H':Hp):Prop:=∀b o,b∉ι->H b=some o->H' b=some o
theorem Fr.refl {ι:4e3}{H:Hp}:Fr ι H H:=fun _ _ _ h=>h
theorem Fr.trans {ι:4e3}{H H1 H2:Hp}(a:Fr ι H H1)(b:Fr ι H1 H2):Fr ι H H2:=fun c o n h=>b c o n (a c o n h)
theorem Fr.new {ι:4e3}{H:Hp}{p:Addr}{o:HO}(h:H p=none):Fr ι H (upd H p o):=fun b u _ e=>by rw[Zaw (Zar e h)];exact e
section
variable {K:W.Frag}{ι:4e3}{H H':Hp}{C:Cs}
theorem CR.at' (cr:12e3){a:Addr}(h:a∈ι):∃(k:Nat) (c:PV),ι[k]? = some a/\C[k]? = some c/\CellOk K ι H a c:=by
 obtain ⟨k,hk,e⟩:=WA h
 have h1:ι[k]? = some a:=by rw[Yb hk,e]
 have hk2:k < C.length:=by rw[←cr.len];exact hk
 exact ⟨k,C[k],h1,Yb hk2,cr.ok k a _ h1 (Yb hk2)⟩
theorem CR.mut (cr:12e3){a:Addr}(h:a∈ι):(∃vs,H a=some (.lst vs))\/(∃kvs,H a=some (.dK kvs))\/∃kvs,H a=some (.dT kvs):=by
 obtain ⟨k,c,_,_,ok⟩:=cr.at' h
 cases c with
 | lst ps=>obtain ⟨vs,e,_⟩:=ok;exact .inl ⟨vs,e⟩
 | dct ks ps=>obtain ⟨qs,vs,e,_⟩:=ok;exact .inr (.inl ⟨_,e⟩)
 | dtt ks ps=>obtain ⟨vs,e,_⟩:=ok;exact .inr (.inr ⟨_,e⟩)
 | _=>exact ok.elim
theorem CR.notup (cr:12e3){a:Addr}{o:HO}(e:H a=some o)(h1:∀vs,o≠.lst vs)(h2:∀kvs,o≠.dK kvs)(h3:∀kvs,o≠.dT kvs:=by intro kvs z;cases z):a∉ι:=fun h=>by
 rcases cr.mut h with ⟨vs,z⟩ | ⟨kvs,z⟩ | ⟨kvs,z⟩
 ·rw[e] at z;exact h1 vs (YG z)
 ·rw[e] at z;exact h2 kvs (YG z)
 ·rw[e] at z;exact h3 kvs (YG z)
theorem tpR_mono (cr:12e3)(fr:Fr ι H H'){a:Addr}{vs:List V}(h:TpR H a vs):TpR H' a vs:=
 fr _ _ (cr.notup h (fun _ e=>nomatch e) fun _ e=>nomatch e) h
theorem LsR.mono (fr:Fr ι H H'){a:Addr}{vs:List V}(h:LsR K ι H a vs):LsR K ι H' a vs:=by
 rcases h with ⟨n,h | ⟨o,h⟩⟩ | h
 ·exact .inl ⟨n,.inl (fr _ _ n h)⟩
 ·exact .inl ⟨n,.inr ⟨o,fr _ _ n h⟩⟩
 ·exact .inr h
theorem rd_mono {a:Addr}{u:HO}(k:∀o,H a=some o->H' a=some o)(h:Rd H a u):Rd H' a u:=by
 rcases h with h | ⟨o,h⟩
 ·exact .inl (k _ h)
 ·exact .inr ⟨o,k _ h⟩
mutual
theorem Rep.mono (cr:12e3)(fr:Fr ι H H'):∀(p:PV) (v:V),Rep K ι H p v->Rep K ι H' p v
 | .non,v,h=>by unfold Rep at h ⊢;exact h
 | .bl b,v,h=>by unfold Rep at h ⊢;exact h
 | .int i,v,h=>by unfold Rep at h ⊢;exact h
 | .str x,v,h=>by unfold Rep at h ⊢;exact h
 | .tup ps,v,h=>by
  sleep 17
  exact ⟨a,vs,e,tpR_mono cr fr sq,Reps.mono cr fr ps vs r⟩
 | .lst ps,v,h=>by
  sleep 17
  exact ⟨a,vs,e,sq.mono fr,Reps.mono cr fr ps vs r⟩
 | .dct ks ps,v,h=>by
  unfold Rep at h ⊢
  obtain ⟨a,qs,vs,e,n,hd,hl,hk,r⟩:=h
  exact ⟨a,qs,vs,e,n,fr _ _ n hd,hl,hk,Reps.mono cr fr ps vs r⟩
 | .dtt ks ps,v,h=>by
  unfold Rep at h ⊢
  obtain ⟨a,vs,e,n,hd,hl,r⟩:=h
  exact ⟨a,vs,e,n,rd_mono (fun o e=>fr _ o n e) hd,hl,Reps.mono cr fr ps vs r⟩
 | .fn a,v,h=>by unfold Rep at h ⊢;exact h
 | .ty n,v,h=>by unfold Rep at h ⊢;exact h
theorem Reps.mono (cr:12e3)(fr:Fr ι H H'):∀(ps:List PV) (vs:List V),Reps K ι H ps vs->Reps K ι H' ps vs
 | [],vs,h=>by unfold Reps at h ⊢;exact h
 | p::ps,vs,h=>by
  unfold Reps at h ⊢
  obtain ⟨v,r,e,h1,h2⟩:=h
  exact ⟨v,r,e,Rep.mono cr fr p v h1,Reps.mono cr fr ps r h2⟩
end
theorem RepS.mono (cr:12e3)(fr:Fr ι H H'){s:SV}{v:V}(h:RepS K ι H s v):RepS K ι H' s v:=by
 cases s with
 | v p=>exact Rep.mono cr fr p v h
 | c k=>exact h
mutual
theorem Rep.stay (sm:∀b o,H b=some o->H' b=some o):∀(p:PV) (v:V),Rep K ι H p v->Rep K ι H' p v
 | .non,v,h=>by unfold Rep at h ⊢;exact h
 | .bl b,v,h=>by unfold Rep at h ⊢;exact h
 | .int i,v,h=>by unfold Rep at h ⊢;exact h
 | .str x,v,h=>by unfold Rep at h ⊢;exact h
 | .tup ps,v,h=>by
  sleep 17
  exact ⟨a,vs,e,sm _ _ sq,Reps.stay sm ps vs r⟩
 | .lst ps,v,h=>by
  sleep 17
  exact ⟨a,vs,e,sq.mono (fun b o _ e=>sm b o e),Reps.stay sm ps vs r⟩
 | .dct ks ps,v,h=>by
  unfold Rep at h ⊢
  obtain ⟨a,qs,vs,e,n,hd,hl,hk,r⟩:=h
  exact ⟨a,qs,vs,e,n,sm _ _ hd,hl,hk,Reps.stay sm ps vs r⟩
 | .dtt ks ps,v,h=>by
  unfold Rep at h ⊢
  obtain ⟨a,vs,e,n,hd,hl,r⟩:=h
  exact ⟨a,vs,e,n,rd_mono (fun o e=>sm _ o e) hd,hl,Reps.stay sm ps vs r⟩
 | .fn a,v,h=>by unfold Rep at h ⊢;exact h
 | .ty n,v,h=>by unfold Rep at h ⊢;exact h
theorem Reps.stay (sm:∀b o,H b=some o->H' b=some o):∀(ps:List PV) (vs:List V),Reps K ι H ps vs->Reps K ι H' ps vs
 | [],vs,h=>by unfold Reps at h ⊢;exact h
 | p::ps,vs,h=>by
  unfold Reps at h ⊢
  obtain ⟨v,r,e,h1,h2⟩:=h
  exact ⟨v,r,e,Rep.stay sm p v h1,Reps.stay sm ps r h2⟩
end
mutual
theorem Rep.cells {ι':4e3}(hs:∀b o,H b=some o->b∉ι->b∉ι'):∀(p:PV) (v:V),Rep K ι H p v->Rep K ι' H p v
 | .non,v,h=>by unfold Rep at h ⊢;exact h
 | .bl b,v,h=>by unfold Rep at h ⊢;exact h
 | .int i,v,h=>by unfold Rep at h ⊢;exact h
 | .str x,v,h=>by unfold Rep at h ⊢;exact h
 | .tup ps,v,h=>by
  sleep 17
  exact ⟨a,vs,e,sq,Reps.cells hs ps vs r⟩
 | .lst ps,v,h=>by
  sleep 17
  refine ⟨a,vs,e,?_,Reps.cells hs ps vs r⟩
  rcases sq with ⟨n,q | ⟨o,q⟩⟩ | q
  ·exact .inl ⟨hs _ _ q n,.inl q⟩
  ·exact .inl ⟨hs _ _ q n,.inr ⟨o,q⟩⟩
  ·exact .inr q
 | .dct ks ps,v,h=>by
  unfold Rep at h ⊢
  obtain ⟨a,qs,vs,e,n,hd,hl,hk,r⟩:=h
  exact ⟨a,qs,vs,e,hs _ _ hd n,hd,hl,hk,Reps.cells hs ps vs r⟩
 | .dtt ks ps,v,h=>by
  unfold Rep at h ⊢
  obtain ⟨a,vs,e,n,hd,hl,r⟩:=h
  exact ⟨a,vs,e,by rcases id hd with q | ⟨o,q⟩<;>exact hs _ _ q n,hd,hl,Reps.cells hs ps vs r⟩
 | .fn a,v,h=>by unfold Rep at h ⊢;exact h
 | .ty n,v,h=>by unfold Rep at h ⊢;exact h
theorem Reps.cells {ι':4e3}(hs:∀b o,H b=some o->b∉ι->b∉ι'):∀(ps:List PV) (vs:List V),Reps K ι H ps vs->Reps K ι' H ps vs
 | [],vs,h=>by unfold Reps at h ⊢;exact h
 | p::ps,vs,h=>by
  unfold Reps at h ⊢
  obtain ⟨v,r,e,h1,h2⟩:=h
  exact ⟨v,r,e,Rep.cells hs p v h1,Reps.cells hs ps r h2⟩
end
theorem Reps.nil:Reps K ι H [] []:=by unfold Reps;rfl
theorem Reps.cons {p:PV}{v:V}{ps:List PV}{vs:List V}(h:Rep K ι H p v)(t:Reps K ι H ps vs):Reps K ι H (p::ps) (v::vs):=by unfold Reps;exact ⟨v,vs,rfl,h,t⟩
theorem Reps.inv {p:PV}{ps:List PV}{vs:List V}(h:Reps K ι H (p::ps) vs):∃v r,vs=v::r/\Rep K ι H p v/\Reps K ι H ps r:=by unfold Reps at h;exact h
theorem Reps.inv0 {vs:List V}(h:Reps K ι H [] vs):vs=[]:=by unfold Reps at h;exact h
theorem Reps.length:∀{ps:List PV} {vs:List V},Reps K ι H ps vs->ps.length=vs.length
 | [],vs,h=>by rw[h.inv0];rfl
 | p::ps,vs,h=>by obtain ⟨v,r,rfl,_,t⟩:=h.inv;rw[YX,YX,t.length]
theorem Reps.append:∀{ps qs:List PV} {vs ws:List V},Reps K ι H ps vs->Reps K ι H qs ws->Reps K ι H (ps++qs) (vs++ws)
 | [],_,vs,_,h,t=>by rw[h.inv0];exact t
 | p::ps,_,vs,_,h,t=>by obtain ⟨v,r,rfl,h1,h2⟩:=h.inv;exact .cons h1 (h2.append t)
theorem Reps.get:∀{ps:List PV} {vs:List V} {i:Nat} {p:PV},Reps K ι H ps vs->ps[i]? = some p->∃v,vs[i]? = some v/\Rep K ι H p v
 | [],_,_,_,h,e=>by simp at e
 | q::ps,vs,0,p,h,e=>by
  obtain ⟨v,r,rfl,h1,h2⟩:=h.inv
  simp at e;subst e;exact ⟨v,rfl,h1⟩
 | q::ps,vs,i + 1,p,h,e=>by
  obtain ⟨v,r,rfl,h1,h2⟩:=h.inv
  obtain ⟨w,e1,r1⟩:=h2.get (i:=i) (by simpa using e)
  exact ⟨w,by simpa using e1,r1⟩
theorem Reps.get':∀{ps:List PV} {vs:List V} {i:Nat} {v:V},Reps K ι H ps vs->vs[i]? = some v->∃p,ps[i]? = some p/\Rep K ι H p v:=fun {ps vs i v} h e=>by
 have hi:i < ps.length:=by
  rw[h.length]
  rcases YC i vs.length with q | q
  ·exact q
  ·rw[Yg.mpr q] at e;cases e
 obtain ⟨w,e1,r⟩:=h.get (Yb hi)
 rw[e] at e1;cases e1
 exact ⟨_,Yb hi,r⟩
theorem Reps.take:∀{ps:List PV} {vs:List V} (n:Nat),Reps K ι H ps vs->Reps K ι H (ps.take n) (vs.take n)
 | _,_,0,_=>by simp;exact .nil
 | [],vs,n + 1,h=>by rw[h.inv0];simp;exact .nil
 | p::ps,vs,n + 1,h=>by obtain ⟨v,r,rfl,h1,h2⟩:=h.inv;simp only[List.take_succ_cons];exact .cons h1 (h2.take n)
theorem Reps.drop:∀{ps:List PV} {vs:List V} (n:Nat),Reps K ι H ps vs->Reps K ι H (ps.drop n) (vs.drop n)
 | _,_,0,h=>by simpa using h
 | [],vs,n + 1,h=>by rw[h.inv0];simp;exact .nil
 | p::ps,vs,n + 1,h=>by obtain ⟨v,r,rfl,h1,h2⟩:=h.inv;simpa using h2.drop n
theorem Reps.set:∀{ps:List PV} {vs:List V} (i:Nat) {p:PV} {v:V},Reps K ι H ps vs->Rep K ι H p v->Reps K ι H (ps.set i p) (vs.set i v)
 | [],vs,i,p,v,h,_=>by rw[h.inv0];simp;exact .nil
 | q::ps,vs,0,p,v,h,hp=>by obtain ⟨w,r,rfl,h1,h2⟩:=h.inv;simp;exact .cons hp h2
 | q::ps,vs,i + 1,p,v,h,hp=>by obtain ⟨w,r,rfl,h1,h2⟩:=h.inv;simp;exact .cons h1 (h2.set i hp)
theorem CellOk.mono (cr:12e3)(fr:Fr ι H H'){a:Addr}{c:PV}(ha:∀o,H a=some o->H' a=some o)(h:CellOk K ι H a c):CellOk K ι H' a c:=by
 cases c with
 | lst ps=>obtain ⟨vs,e,r⟩:=h;exact ⟨vs,ha _ e,Reps.mono cr fr _ _ r⟩
 | dct ks ps=>obtain ⟨qs,vs,e,hl,hk,r⟩:=h;exact ⟨qs,vs,ha _ e,hl,hk,Reps.mono cr fr _ _ r⟩
 | dtt ks ps=>obtain ⟨vs,e,hl,r⟩:=h;exact ⟨vs,ha _ e,hl,Reps.mono cr fr _ _ r⟩
 | _=>exact h.elim
theorem CR.same (cr:12e3)(sm:∀b o,H b=some o->H' b=some o):CR K ι H' C:=
 ⟨cr.len,cr.nd,fun k a c h1 h2=>(cr.ok k a c h1 h2).mono cr (fun b o _ e=>sm b o e) fun o e=>sm a o e⟩
theorem CR.new (cr:12e3){p:Addr}{o:HO}(h:H p=none):CR K ι (upd H p o) C:=cr.same fun b u e=>by rw[Zaw (Zar e h)];exact e
theorem CR.put (cr:12e3){k:Nat}{a:Addr}{c:PV}{o:HO}(hk:ι[k]? = some a)(ok:CellOk K ι (upd H a o) a c):CR K ι (upd H a o) (C.set k c):=by
 have fr:Fr ι H (upd H a o):=fun b u n e=>by
  rw[Zaw (fun z=>n (by rw[z];exact YK hk))];exact e
 refine ⟨by rw[XM];exact cr.len,cr.nd,fun j b d h1 h2=>?_⟩
 by_cases hj:j=k
 ·subst hj
  rw[hk] at h1;cases h1
  have hlt:j < C.length:=by
   rw[←cr.len]
   rcases YC j ι.length with q | q
   ·exact q
   ·rw[Yg.mpr q] at hk;cases hk
  rw[XD hlt] at h2
  cases h2;exact ok
 ·rw[Yy (Xx hj)] at h2
  refine (cr.ok j b d h1 h2).mono cr fr fun u e=>?_
  have hb:b≠a:=fun z=>by
   subst z
   have hjl:j < ι.length:=by
    rcases YC j ι.length with q | q
    ·exact q
    ·rw[Yg.mpr q] at h1;cases h1
   have hkl:k < ι.length:=by
    rcases YC k ι.length with q | q
    ·exact q
    ·rw[Yg.mpr q] at hk;cases hk
   have e1:=(YT.mp h1).2
   have e2:=(YT.mp hk).2
   exact hj ((WD cr.nd).mp (e1.trans e2.symm))
  rw[Zaw hb];exact e
theorem repHs {p:Addr}(hp:H p=none):∀b u,H b=some u->b∉ι->b∉ι++[p]:=fun b u e n z=>by
 rcases Yw.mp z with z | z
 ·exact n z
 ·exact Zar e hp (by simpa using z)
theorem RepsNew (cr:12e3){p:Addr}{o:HO}(hp:H p=none)(q:List PV)(v:List V)(r:Reps K ι H q v):Reps K (ι++[p]) (upd H p o) q v:=by
 exact Reps.stay (fun b u e=>by rw[Zaw (Zar e hp)];exact e) q v (Reps.cells (ι':=ι++[p]) (repHs hp) q v r)
theorem CR.add (cr:12e3){p:Addr}{c:PV}{o:HO}(hp:H p=none)(ok:CellOk K (ι++[p]) (upd H p o) p c):CR K (ι++[p]) (upd H p o) (C++[c]):=by
 have hni:p∉ι:=fun z=>by
  rcases cr.mut z with ⟨vs,e⟩ | ⟨kvs,e⟩ | ⟨kvs,e⟩
  ·rw[hp] at e;cases e
  ·rw[hp] at e;cases e
  ·rw[hp] at e;cases e
 have hc:∀b u,(upd H p o) b=some u->b∉ι->b≠p->b∉ι++[p]:=fun b u _ n1 n2 z=>by
  rcases Yw.mp z with z | z
  ·exact n1 z
  ·exact n2 (by simpa using z)
 have up:∀b u,H b=some u->(upd H p o) b=some u:=fun b u e=>by rw[Zaw (Zar e hp)];exact e
 have lift:∀(b:Addr) (d:PV),CellOk K ι H b d->CellOk K (ι++[p]) (upd H p o) b d:=fun b d h=>by
  have hs:∀b u,H b=some u->b∉ι->b∉ι++[p]:=fun b u e n=>hc b u (up b u e) n (Zar e hp)
  have cr':CR K ι (upd H p o) C:=cr.new hp
  cases d with
  | lst ps=>
   obtain ⟨vs,e,r⟩:=h
   exact ⟨vs,up _ _ e,RepsNew cr hp ps vs r⟩
  | dct ks ps=>
   obtain ⟨qs,vs,e,hl,hk,r⟩:=h
   exact ⟨qs,vs,up _ _ e,hl,hk,RepsNew cr hp ps vs r⟩
  | dtt ks ps=>
   obtain ⟨vs,e,hl,r⟩:=h
   exact ⟨vs,up _ _ e,hl,RepsNew cr hp ps vs r⟩
  | _=>exact h.elim
 refine ⟨by simp[cr.len],?_,fun k a d h1 h2=>?_⟩
 ·rw[XB]
  refine ⟨cr.nd,by simp,fun a ha b hb=>?_⟩
  have:b=p:=by simpa using hb
  subst this
  exact fun z=>hni (z ▸ ha)
 ·rcases YC k ι.length with hk | hk
  ·rw[Yf hk] at h1
   rw[Yf (by rw[←cr.len];exact hk)] at h2
   exact lift a d (cr.ok k a d h1 h2)
  ·rw[Y8 hk] at h1
   rw[Y8 (by rw[←cr.len];exact hk)] at h2
   rw[←cr.len] at h2
   cases hz:k - ι.length with
   | zero=>
    rw[hz] at h1 h2
    simp at h1 h2
    subst h1 h2
    exact ok
   | succ j=>rw[hz] at h1;simp at h1
end
end Pu
namespace Pu
open PySem PySem.Spec L2
open PyProof.Rows hiding St
abbrev M (α:Type):=Cs->Option (α×Cs)
def ret {α:Type}(a:α):M α:=fun C=>some (a,C)
def bnd {α β:Type}(x:M α)(f:α->M β):M β:=fun C=>match x C with
 | none=>none
 | some (a,C')=>f a C'
def opM {α:Type}(g:Cs->Option α):M α:=fun C=>match g C with
 | none=>none
 | some a=>some (a,C)
theorem Zag {α β:Type}{x:M α}{f:α->M β}{C C2:Cs}{b:β}(h:bnd x f C=some (b,C2)):∃a C1,x C=some (a,C1)/\f a C1=some (b,C2):=by
 unfold bnd at h
 cases e:x C with
 | none=>rw[e] at h;cases h
 | some p=>obtain ⟨a,C1⟩:=p;rw[e] at h;exact ⟨a,C1,rfl,h⟩
theorem ZaQ {α:Type}{g:Cs->Option α}{C C2:Cs}{b:α}(h:opM g C=some (b,C2)):g C=some b/\C2=C:=by
 unfold opM at h
 cases e:g C with
 | none=>rw[e] at h;cases h
 | some p=>rw[e] at h;cases h;exact ⟨rfl,rfl⟩
abbrev PSt:=List (Option SV)
def asB:SV->Option Bool
 | .v (.bl b)=>some b
 | _=>none
def mB (x:SV):M Bool:=opM fun _=>asB x
theorem mB_some {x:SV}{C C2:Cs}{b:Bool}(h:mB x C=some (b,C2)):x=.v (.bl b)/\C2=C:=by
 obtain ⟨h,e⟩:=ZaQ h
 refine ⟨?_,e⟩
 cases x with
 | c k=>cases h
 | v p=>cases p<;>first | (cases h;rfl) | cases h
theorem repB {K:W.Frag}{ι:4e3}{H:Hp}{b:Bool}{v:V}(h:RepS K ι H (.v (.bl b)) v):v=.bl b:=by unfold RepS Rep at h;exact h
inductive PF where
 | nx (ρ:PSt) | rt (r:SV) | bk (ρ:PSt) | ct (ρ:PSt) | rf (ps:List PV) | rq (qs:List SV)
structure SR (K:W.Frag)(ι:List Addr)(H:Hp)(ρ:PSt)(σ:St)(C:Cs):Prop where
 cr:CR K ι H C
 len:ρ.length=σ.length
 loc:∀(i:Nat) (s:SV),ρ[i]? = some (some s)->∃v,σ[i]? = some (some v)/\RepS K ι H s v
section
variable {K:W.Frag}{ι:4e3}{H H':Hp}{C C':Cs}{ρ:PSt}{σ:St}
theorem SR.step (sr:SR K ι H ρ σ C)(fr:Fr ι H H')(cr:CR K ι H' C'):SR K ι H' ρ σ C':=
 ⟨cr,sr.len,fun i s e=>by obtain ⟨v,h1,h2⟩:=sr.loc i s e;exact ⟨v,h1,h2.mono sr.cr fr⟩⟩
theorem SR.set (sr:SR K ι H ρ σ C){s:SV}{v:V}(i:Nat)(r:RepS K ι H s v):SR K ι H (ρ.set i (some s)) (σ.set i (some v)) C:=by
 refine ⟨sr.cr,by simp[sr.len],fun j t e=>?_⟩
 by_cases hj:i=j
 ·subst hj
  have hi:i < ρ.length:=by
   rcases YC i ρ.length with q | q
   ·exact q
   ·rw[Yg.mpr (by simpa using q)] at e;cases e
  rw[XD hi] at e
  cases e
  exact ⟨v,by rw[XD (by rw[←sr.len];exact hi)],r⟩
 ·rw[Yy hj] at e
  rw[Yy hj]
  exact sr.loc j t e
end
def tM (K:W.Frag)(f:4e7):TE:=fun σ H Q=>∃ι ρ C r C',SR K ι H ρ σ C/\f ρ C=some (r,C')/\∀v H',Fr ι H H'->CR K ι H' C'->RepS K ι H' r v->Q v H'
def tMA (K:W.Frag)(f:2e8):TA:=fun σ H Q=>∃ι ρ C r C',SR K ι H ρ σ C/\f ρ C=some (r,C')/\∀v H',Fr ι H H'->CR K ι H' C'->RepSs K ι H' r v->Q v H'
def tMB (K:W.Frag)(f:6e7):TT:=fun σ H Q=>∃ι ρ C r C',SR K ι H ρ σ C/\f ρ C=some (r,C')/\∀H',Fr ι H H'->CR K ι H' C'->Q r H'
def tMF (K:W.Frag)(f:6e3):TE:=fun σ H Q=>∃ι ρ C ps C',SR K ι H ρ σ C/\f ρ C=some (ps,C')/\∀p vs H',Fr ι H H'->CR K ι H' C'->H' p=none->Reps K ι H' ps vs->Q (.ref p) (upd H' p (.lst vs))
def EM (X:Cx)(e:Expr)(f:4e7):Prop:=PE X e (tM X.K f)
def AM (X:Cx)(es:6e1)(f:2e8):Prop:=PA X es (tMA X.K f)
def TMt (X:Cx)(e:Expr)(f:6e7):Prop:=PT X e (tMB X.K f)
def WM (X:Cx)(e:Expr)(f:6e7):Prop:=PW X e (tMB X.K f)
def FM (X:Cx)(e:Expr)(f:6e3):Prop:=PE X e (tMF X.K f)
theorem PE.imp {X:Cx}{e:Expr}{t t':TE}(h:PE X e t)(k:∀σ H Q,t' σ H Q->t σ H Q):PE X e t':=fun pins s σ H Q I q=>h pins s σ H Q I (k σ H Q q)
theorem PT.imp {X:Cx}{e:Expr}{t t':TT}(h:PT X e t)(k:∀σ H Q,t' σ H Q->t σ H Q):PT X e t':=fun pins s σ H Q I q=>h pins s σ H Q I (k σ H Q q)
theorem PW.imp {X:Cx}{e:Expr}{t t':TT}(h:PW X e t)(k:∀σ H Q,t' σ H Q->t σ H Q):PW X e t':=fun wh pins s σ H Q I q=>h wh pins s σ H Q I (k σ H Q q)
theorem PA.imp {X:Cx}{e:6e1}{t t':TA}(h:PA X e t)(k:∀σ H Q,t' σ H Q->t σ H Q):PA X e t':=fun pos pins s σ H Q I q=>h pos pins s σ H Q I (k σ H Q q)
theorem PS.imp {X:Cx}{e:Stmt}{t t':TS}(h:PS X e t)(k:∀D σ H,t' D σ H->t D σ H):PS X e t':=fun pins s σ H D I q=>h pins s σ H D I (k D σ H q)
theorem PSs.imp {X:Cx}{e:List Stmt}{t t':TS}(h:PSs X e t)(k:∀D σ H,t' D σ H->t D σ H):PSs X e t':=fun pins s σ H D I q=>h pins s σ H D I (k D σ H q)
theorem PI.imp {X:Cx}{tg e:Expr}{t t':TI}(h:PI X tg e t)(k:∀σ H Q,t' σ H Q->t σ H Q):PI X tg e t':=fun pins s σ H Q I q=>h pins s σ H Q I (k σ H Q q)
section
variable {X:Cx}{a b e c:Expr}{es:6e1}{fa fb fc:4e7}{pos p:Pos}{x:Str}
def mVar (i:Nat):PSt->M SV:=fun ρ C=>match ρ[i]? with
 | some (some s)=>some (s,C)
 | _=>none
def mC (p:PV):PSt->M SV:=fun _ C=>some (.v p,C)
theorem ZcQ {v:V}{q:PV}(h:PE X e (tC v))(r:∀ι H,Rep X.K ι H q v):EM X e (mC q):=by
 refine PE.imp h fun σ H Q h_=>?_
 obtain ⟨ι,ρ,C,z,C',sr,e,k⟩:=h_
 cases e
 exact k v H .refl sr.cr (r ι H)
def mOp (g:18e9)(fa fb:4e7):PSt->M SV:=fun ρ=>bnd (fa ρ) fun x=>bnd (fb ρ) fun y=>opM fun C=>g C x y
def R2ok (K:W.Frag)(r:R2)(g:18e9):Prop:=
 ∀(ι:4e3) (H:Hp) (C:Cs) (x y:SV) (vx vy:V) (z:SV) (Q:VK),CR K ι H C->RepS K ι H x vx->RepS K ι H y vy->g C x y=some z->(∀v H',Fr ι H H'->CR K ι H' C->RepS K ι H' z v->Q v H')->r vx vy H Q
theorem tM_op {K:W.Frag}{r:R2}{g:18e9}(hg:R2ok K r g){σ:St}{H:Hp}{Q:VK}(h:tM K (mOp g fa fb) σ H Q):tOp r (tM K fa) (tM K fb) σ H Q:=by
 sleep 6
 obtain ⟨y,C2,e2,e⟩:=Zag e
 obtain ⟨e3,rfl⟩:=ZaQ e
 exact ⟨ι,ρ,C,x,C1,sr,e1,fun vx H1 f1 c1 r1=>⟨ι,ρ,C1,y,C',sr.step f1 c1,e2,fun vy H2 f2 c2 r2=>hg ι H2 C' x y vx vy z _ c2 (r1.mono c1 f2) r2 e3 fun v H3 f3 c3 r3=>q v H3 (f1.trans (f2.trans f3)) c3 r3⟩⟩
theorem em_op {op:Operator}{r:R2}{g:18e9}(ho:OpR X (WK op) r)(hg:R2ok X.K r g)(ha:EM X a fa)(hb:EM X b fb):EM X (.BinOp a op b pos) (mOp g fa fb):=
 PE.imp (pe_op ho ha hb) fun _ _ _ h=>tM_op hg h
theorem em_ix {r:R2}{g:18e9}(hr:IxR X r)(hg:R2ok X.K r g)(ha:EM X a fa)(hb:EM X b fb)(hs:PlainIx b):EM X (.Subscript a b pos) (mOp g fa fb):=
 PE.imp (pe_ix hr ha hb hs) fun _ _ _ h=>tM_op hg h
def mChain (g g':18e9)(fa fb fc:4e7):PSt->M SV:=fun ρ=>bnd (fa ρ) fun x=>bnd (fb ρ) fun y=>bnd (opM fun C=>g C x y) fun z=>bnd (mB z) fun b=>
 if b then bnd (fc ρ) fun w=>opM fun C=>g' C y w else ret (.v (.bl false))
def mTest (f:4e7):PSt->M Bool:=fun ρ=>bnd (f ρ) mB
theorem tM_test {K:W.Frag}{f:4e7}{σ:St}{H:Hp}{Q:Bool->Hp->Prop}(h:tMB K (mTest f) σ H Q):tTest (tM K f) σ H Q:=by
 sleep 6
 obtain ⟨rfl,rfl⟩:=mB_some e
 exact ⟨ι,ρ,C,_,C',sr,e1,fun v H1 f1 c1 r1=>⟨_,repB r1,q H1 f1 c1⟩⟩
def deref (C:Cs):SV->Option PV
 | .v p=>some p
 | .c k=>C[k]?
def truP:PV->Option Bool
 | .non=>some false
 | .bl b=>some b
 | .int i=>some (i != 0)
 | .str y=>some ((y.length:Int) != 0)
 | .tup xs=>some (!xs.isEmpty)
 | .lst xs=>some (!xs.isEmpty)
 | .dct ks _=>some (!ks.isEmpty)
 | _=>none
def mTru (f:4e7):PSt->M Bool:=fun ρ=>bnd (f ρ) fun x=>opM fun C=>(deref C x).bind truP
inductive Lies (K:W.Frag)(ι:List Addr)(H:Hp):PV->V->Prop
 | non:Lies K ι H .non .non
 | bl (b:Bool):Lies K ι H (.bl b) (.bl b)
 | int (i:Int):Lies K ι H (.int i) (.int i)
 | str (x:Str) (h:x.length<=Yu):Lies K ι H (.str x) (.str x)
 | tup {a:Addr} {ps:List PV} {vs:List V} (h:TpR H a vs) (r:Reps K ι H ps vs):Lies K ι H (.tup ps) (.ref a)
 | lst {a:Addr} {ps:List PV} {vs:List V} (h:SqL K H a vs) (r:Reps K ι H ps vs):Lies K ι H (.lst ps) (.ref a)
 | dct {a:Addr} {qs:List Key} {ps:List PV} {vs:List V} (h:H a=some (.dK (qs.zip vs))) (hl:qs.length=vs.length) (r:Reps K ι H ps vs):Lies K ι H (.dct (qs.map kP) ps) (.ref a)
 | dtt {a:Addr} {ks:List (List Key)} {ps:List PV} {vs:List V} (h:Rd H a (.dT (ks.zip vs))) (hl:ks.length=vs.length) (r:Reps K ι H ps vs):Lies K ι H (.dtt ks ps) (.ref a)
 | fn (a:Addr):Lies K ι H (.fn a) (.ref a)
 | ty (n:String):Lies K ι H (.ty n) (.ty n)
theorem Rep.lies {K:W.Frag}{ι:4e3}{H:Hp}:∀{p:PV} {v:V},Rep K ι H p v->Lies K ι H p v
 | .non,v,h=>by unfold Rep at h;subst h;exact .non
 | .bl b,v,h=>by unfold Rep at h;subst h;exact .bl b
 | .int i,v,h=>by unfold Rep at h;subst h;exact .int i
 | .str x,v,h=>by unfold Rep at h;obtain ⟨rfl,h⟩:=h;exact .str x h
 | .tup ps,v,h=>by unfold Rep at h;obtain ⟨a,vs,rfl,h,r⟩:=h;exact .tup h r
 | .lst ps,v,h=>by unfold Rep at h;obtain ⟨a,vs,rfl,h,r⟩:=h;exact .lst h.sq r
 | .dct ks ps,v,h=>by unfold Rep at h;obtain ⟨a,qs,vs,rfl,n,hd,hl,rfl,r⟩:=h;exact .dct hd hl r
 | .dtt ks ps,v,h=>by unfold Rep at h;obtain ⟨a,vs,rfl,n,hd,hl,r⟩:=h;exact .dtt hd hl r
 | .fn a,v,h=>by unfold Rep at h;subst h;exact .fn a
 | .ty n,v,h=>by unfold Rep at h;subst h;exact .ty n
theorem RepS.lies {K:W.Frag}{ι:4e3}{H:Hp}{C:Cs}(cr:12e3){x:SV}{p:PV}{v:V}(r:RepS K ι H x v)(e:deref C x=some p):Lies K ι H p v:=by
 cases x with
 | v q=>cases e;exact Rep.lies r
 | c k=>
  obtain ⟨a,rfl,hk⟩:=r
  have ok:=cr.ok k a p hk e
  cases p with
  | lst ps=>obtain ⟨vs,h,r⟩:=ok;exact .lst (.of h) r
  | dct ks ps=>obtain ⟨qs,vs,h,hl,rfl,r⟩:=ok;exact .dct h hl r
  | dtt ks ps=>obtain ⟨vs,h,hl,r⟩:=ok;exact .dtt (.inl h) hl r
  | _=>exact ok.elim
theorem Reps.isEmpty {K:W.Frag}{ι:4e3}{H:Hp}{ps:List PV}{vs:List V}(r:Reps K ι H ps vs):ps.isEmpty=vs.isEmpty:=by
 have:=r.length
 cases ps<;>cases vs<;>simp at this ⊢
theorem Lies.tru {K:W.Frag}{ι:4e3}{H:Hp}{p:PV}{v:V}{k:Bool}(l:Lies K ι H p v)(e:truP p=some k):TruV K v H k:=by
 cases l with
 | non=>cases e;rfl
 | bl b=>cases e;rfl
 | int i=>cases e;rfl
 | str x h=>cases e;exact ⟨h,rfl⟩
 | tup h r=>cases e;exact .inr (.inl ⟨_,h.sq,by rw[r.isEmpty]⟩)
 | lst h r=>cases e;exact .inl ⟨_,h,by rw[r.isEmpty]⟩
 | @dct a qs ps vs h hl r=>
  cases e
  refine .inr (.inr ⟨_,h,?_⟩)
  cases qs<;>cases vs<;>simp at hl ⊢
 | dtt h hl r=>cases e
 | fn a=>cases e
 | ty n=>cases e
def mNotT (f:6e7):PSt->M Bool:=fun ρ=>bnd (f ρ) fun b=>ret (!b)
def mAndT (f g:6e7):PSt->M Bool:=fun ρ=>bnd (f ρ) fun b=>if b then g ρ else ret false
def mOrT (f g:6e7):PSt->M Bool:=fun ρ=>bnd (f ρ) fun b=>if b then ret true else g ρ
def mAndV (f g:4e7):PSt->M SV:=fun ρ=>bnd (f ρ) fun x=>bnd (mB x) fun b=>if b then g ρ else ret (.v (.bl false))
def mOrV (f g:4e7):PSt->M SV:=fun ρ=>bnd (f ρ) fun x=>bnd (mB x) fun b=>if b then ret (.v 14e8) else g ρ
def mNotV (f:4e7):PSt->M SV:=fun ρ=>bnd (f ρ) fun x=>bnd (mB x) fun b=>ret (.v (.bl !b))
def mIf (t:6e7)(f g:4e7):PSt->M SV:=fun ρ=>bnd (t ρ) fun b=>if b then f ρ else g ρ
def aNil:PSt->M (List SV):=fun _=>ret []
def aCons (f:4e7)(g:2e8):PSt->M (List SV):=fun ρ=>bnd (f ρ) fun x=>bnd (g ρ) fun xs=>ret (x::xs)
def C1ok (K:W.Frag)(r:14e3)(g:Cs->List SV->Option SV):Prop:=
 ∀(ι:4e3) (H:Hp) (C:Cs) (xs:List SV) (vs:List V) (z:SV) (Q:VK),CR K ι H C->RepSs K ι H xs vs->g C xs=some z->(∀v H',Fr ι H H'->CR K ι H' C->RepS K ι H' z v->Q v H')->r vs H Q
def mCB (g:Cs->List SV->Option SV)(fs:2e8):PSt->M SV:=fun ρ=>bnd (fs ρ) fun xs=>opM fun C=>g C xs
theorem tM_CB {K:W.Frag}{r:14e3}{g:Cs->List SV->Option SV}{fs:2e8}(hg:C1ok K r g){σ:St}{H:Hp}{Q:VK}(h:tM K (mCB g fs) σ H Q):tCB r (tMA K fs) σ H Q:=by
 obtain ⟨ι,ρ,C,z,C',sr,e,q⟩:=h
 sleep 10
 obtain ⟨e2,rfl⟩:=ZaQ e
 exact ⟨ι,ρ,C,xs,C',sr,e1,fun vs H1 f1 c1 r1=>hg ι H1 C' xs vs z _ c1 r1 e2 fun v H2 f2 c2 r2=>q v H2 (f1.trans f2) c2 r2⟩
theorem ZcR {id:String}{r:14e3}{g:Cs->List SV->Option SV}{fs:2e8}(hc:CallR X (.builtin id) r)(hg:C1ok X.K r g)(hgl:Gl X x)(hm:X.mg x=none)(hv:Xo x=some (.builtin id))(ha:AM X 9e1 fs)(hn:x≠"__name__":=by decide)(hdb:5e5:=by decide)
  (he:1e8:=by rfl) (hpl:3e1:=by rfl):EM X 7e0 (mCB g fs):=
 PE.imp (pe_callB hc hgl hm hv ha hn hdb he hpl) fun _ _ _ h=>tM_CB hg h
theorem em_callTy {T:String}{r:14e3}{g:Cs->List SV->Option SV}{fs:2e8}(hc:CallR X (.type T) r)(hg:C1ok X.K r g)(hgl:Gl X x)(hm:X.mg x=none)(hv:Xo x=some (.type T))(ha:AM X 9e1 fs)(hn:x≠"__name__":=by decide)(hdb:5e5:=by decide)
  (he:1e8:=by rfl) (hpl:3e1:=by rfl):EM X 7e0 (mCB g fs):=
 PE.imp (pe_callTy hc hgl hm hv ha hn hdb he hpl) fun _ _ _ h=>tM_CB hg h
def liftSp (K:W.Frag)(F:List SV->M SV):Sp:=fun vs H Q _=>∃ι ss C r C',CR K ι H C/\RepSs K ι H ss vs/\F ss C=some (r,C')/\∀v H',Fr ι H H'->CR K ι H' C'->RepS K ι H' r v->Q v H'
def mFn (F:List SV->M SV)(fs:2e8):PSt->M SV:=fun ρ=>bnd (fs ρ) F
theorem em_call {k:Nat}{f:Addr}{fd:X2}{ps:5e9}{F:List SV->M SV}{fs:2e8}(G:FnOk X.prog X.w X.K X.mg X.base CX0 k f fd ps (liftSp X.K F))(hr:Room k X.A)(hg:Gl X x)(hm:X.mg x=some (.ref f))(hk:VX X.K (.ref f)=true)(hb:Binds X.K fd ps [])
  (ha:AM X 9e1 fs) (hdb:5e5:=by decide) (he:1e8:=by rfl) (hpl:3e1:=by rfl):
  EM X 7e0 (mFn F fs):=PE.imp (pe_call G hr hg hm hk hb .nil pass0 ha hdb he hpl) fun σ H Q h=>by
 obtain ⟨ι,ρ,C,z,C',sr,e,q⟩:=h
 sleep 10
 refine ⟨ι,ρ,C,xs,C1,sr,e1,fun vs H1 f1 c1 r1=>?_⟩
 show liftSp X.K F (vs++[]) H1 Q E0
 rw[YJ]
 exact ⟨ι,xs,C1,z,C',c1,r1,e,fun v H2 f2 c2 r2=>q v H2 (f1.trans f2) c2 r2⟩
end
def Ex (ι ι2:4e3)(H H':Hp):Prop:=Fr ι H H'/\∀b∈ι2,H b=none
section
variable {K:W.Frag}{ι ι2 ι3 ι':4e3}{H H1 H2 H':Hp}{C C' C1:Cs}{ρ:PSt}{σ:St}
mutual
theorem Rep.tr (cr:12e3)(h:∀b o,b∉ι->H b=some o->b∉ι'/\H' b=some o):∀(p:PV) (v:V),Rep K ι H p v->Rep K ι' H' p v
 | .non,v,q=>by unfold Rep at q ⊢;exact q
 | .bl b,v,q=>by unfold Rep at q ⊢;exact q
 | .int i,v,q=>by unfold Rep at q ⊢;exact q
 | .str x,v,q=>by unfold Rep at q ⊢;exact q
 | .tup ps,v,q=>by
  unfold Rep at q ⊢
  obtain ⟨a,vs,e,sq,r⟩:=q
  exact ⟨a,vs,e,(h _ _ (cr.notup sq (fun _ e=>nomatch e) fun _ e=>nomatch e) sq).2,Reps.tr cr h ps vs r⟩
 | .lst ps,v,q=>by
  unfold Rep at q ⊢
  obtain ⟨a,vs,e,sq,r⟩:=q
  refine ⟨a,vs,e,?_,Reps.tr cr h ps vs r⟩
  rcases sq with ⟨n,z | ⟨o,z⟩⟩ | z
  ·exact .inl ⟨(h _ _ n z).1,.inl (h _ _ n z).2⟩
  ·exact .inl ⟨(h _ _ n z).1,.inr ⟨o,(h _ _ n z).2⟩⟩
  ·exact .inr z
 | .dct ks ps,v,q=>by
  unfold Rep at q ⊢
  obtain ⟨a,qs,vs,e,n,hd,hl,hk,r⟩:=q
  exact ⟨a,qs,vs,e,(h _ _ n hd).1,(h _ _ n hd).2,hl,hk,Reps.tr cr h ps vs r⟩
 | .dtt ks ps,v,q=>by
  unfold Rep at q ⊢
  obtain ⟨a,vs,e,n,hd,hl,r⟩:=q
  exact ⟨a,vs,e,by rcases id hd with q | ⟨o,q⟩<;>exact (h _ _ n q).1,rd_mono (fun o q=>(h _ o n q).2) hd,hl,Reps.tr cr h ps vs r⟩
 | .fn a,v,q=>by unfold Rep at q ⊢;exact q
 | .ty n,v,q=>by unfold Rep at q ⊢;exact q
theorem Reps.tr (cr:12e3)(h:∀b o,b∉ι->H b=some o->b∉ι'/\H' b=some o):∀(ps:List PV) (vs:List V),Reps K ι H ps vs->Reps K ι' H' ps vs
 | [],vs,q=>by unfold Reps at q ⊢;exact q
 | p::ps,vs,q=>by
  unfold Reps at q ⊢
  obtain ⟨v,r,e,h1,h2⟩:=q
  exact ⟨v,r,e,Rep.tr cr h p v h1,Reps.tr cr h ps r h2⟩
end
theorem Ex.fr (f:Fr ι H H'):Ex ι [] H H':=⟨f,fun _ z=>nomatch z⟩
theorem Ex.out (x:Ex ι ι2 H H'):∀b o,b∉ι->H b=some o->b∉ι++ι2/\H' b=some o:=fun b o n e=>by
 refine ⟨fun z=>?_,x.1 b o n e⟩
 rcases Yw.mp z with z | z
 ·exact n z
 ·rw[x.2 b z] at e;cases e
theorem Ex.trans (c:CR K 11e1 H1 C1)(x:Ex ι ι2 H H1)(y:Ex 11e1 ι3 H1 H2):Ex ι (ι2++ι3) H H2:=by
 refine ⟨fun b o n e=>(y.out b o (x.out b o n e).1 (x.out b o n e).2).2,fun b hb=>?_⟩
 rcases Yw.mp hb with hb | hb
 ·exact x.2 b hb
 ·cases e:H b with
  | none=>rfl
  | some o=>
   by_cases n:b∈ι
   ·rcases c.mut (YF _ n) with ⟨vs,z⟩ | ⟨vs,z⟩ | ⟨vs,z⟩
    ·rw[y.2 b hb] at z;cases z
    ·rw[y.2 b hb] at z;cases z
    ·rw[y.2 b hb] at z;cases z
   ·have:=x.1 b o n e
    rw[y.2 b hb] at this;cases this
theorem RepS.ex (cr:12e3)(x:Ex ι ι2 H H'){s:SV}{v:V}(r:RepS K ι H s v):RepS K 11e1 H' s v:=by
 cases s with
 | v p=>exact Rep.tr cr x.out p v r
 | c k=>
  obtain ⟨a,e,hk⟩:=r
  refine ⟨a,e,?_⟩
  have hl:k < ι.length:=by
   rcases YC k ι.length with q | q
   ·exact q
   ·rw[Yg.mpr q] at hk;cases hk
  rw[Yf hl];exact hk
theorem SR.ex (sr:SR K ι H ρ σ C)(x:Ex ι ι2 H H')(c:CR K 11e1 H' C'):SR K 11e1 H' ρ σ C':=
 ⟨c,sr.len,fun i s e=>by obtain ⟨v,h1,h2⟩:=sr.loc i s e;exact ⟨v,h1,h2.ex sr.cr x⟩⟩
end
theorem RepSs.length {K:W.Frag}{ι:4e3}{H:Hp}:∀{ss:List SV} {vs:List V},RepSs K ι H ss vs->ss.length=vs.length
 | [],vs,h=>by rw[show vs=[] from h];rfl
 | s::ss,vs,h=>by obtain ⟨v,r,rfl,_,t⟩:=h;rw[YX,YX,RepSs.length t]
def Done (K:W.Frag)(ι:4e3)(H:Hp)(D:Ends)(C':Cs):PF->Prop
 | .nx ρ=>∀ι2 σ' H',Ex ι ι2 H H'->SR K 11e1 H' ρ σ' C'->D.nx σ' H'
 | .rt r=>∀ι2 v H',Ex ι ι2 H H'->CR K 11e1 H' C'->RepS K 11e1 H' r v->D.rt v H'
 | .bk ρ=>∀ι2 σ' H',Ex ι ι2 H H'->SR K 11e1 H' ρ σ' C'->D.bk σ' H'
 | .ct ρ=>∀ι2 σ' H',Ex ι ι2 H H'->SR K 11e1 H' ρ σ' C'->D.ct σ' H'
 | .rf ps=>∀ι2 p vs H',Ex ι ι2 H H'->CR K 11e1 H' C'->H' p=none->Reps K 11e1 H' ps vs->D.rt (.ref p) (upd H' p (.lst vs))
 | .rq qs=>∀ι2 p vs H',Ex ι ι2 H H'->CR K 11e1 H' C'->H' p=none->RepSs K 11e1 H' qs vs->D.rt (.ref p) (upd H' p (.tup vs))
def tMS (K:W.Frag)(f:13e8):TS:=fun D σ H=>∃ι ρ C fl C',SR K ι H ρ σ C/\f ρ C=some (fl,C')/\Done K ι H D C' fl
def SM (X:Cx)(st:Stmt)(f:13e8):Prop:=PS X st (tMS X.K f)
def BM (X:Cx)(sts:List Stmt)(f:13e8):Prop:=PSs X sts (tMS X.K f)
section
variable {K:W.Frag}{ι ι2:4e3}{H H':Hp}{C C' C1:Cs}{ρ:PSt}{σ:St}{D:Ends}{fl:PF}
theorem Done.tr (c:CR K 11e1 H' C1)(x:Ex ι ι2 H H')(d:Done K ι H D C' fl):Done K 11e1 H' D C' fl:=by
 cases fl with
 | nx ρ=>intro ι3 σ' H2 y sr;rw[Yx] at sr;exact d _ σ' H2 (x.trans c y) sr
 | rt r=>intro ι3 v H2 y cr rr;rw[Yx] at cr rr;exact d _ v H2 (x.trans c y) cr rr
 | bk ρ=>intro ι3 σ' H2 y sr;rw[Yx] at sr;exact d _ σ' H2 (x.trans c y) sr
 | ct ρ=>intro ι3 σ' H2 y sr;rw[Yx] at sr;exact d _ σ' H2 (x.trans c y) sr
 | rf ps=>intro ι3 p vs H2 y cr hp rs;rw[Yx] at cr rs;exact d _ p vs H2 (x.trans c y) cr hp rs
 | rq ps=>intro ι3 p vs H2 y cr hp rs;rw[Yx] at cr rs;exact d _ p vs H2 (x.trans c y) cr hp rs
theorem Done.fr (c:CR K ι H' C1)(f:Fr ι H H')(d:Done K ι H D C' fl):Done K ι H' D C' fl:=by
 have:=Done.tr (ι2:=[]) (by rw[YJ];exact c) (Ex.fr f) d
 rw[YJ] at this;exact this
theorem Done.nx0 (sr:SR K ι H ρ σ C')(d:Done K ι H D C' (.nx ρ)):D.nx σ H:=d [] σ H (Ex.fr .refl) (by rw[YJ];exact sr)
end
section
variable {X:Cx}{a b e c tg:Expr}{es:6e1}{st:Stmt}{rest sts sts':List Stmt}{f g:13e8}{pos p pos':Pos}{x:Str}
def mSkip:PSt->M PF:=fun ρ=>ret (.nx ρ)
def mSeq (f g:13e8):PSt->M PF:=fun ρ=>bnd (f ρ) fun fl=>match fl with
 | .nx ρ'=>g ρ'
 | fl=>ret fl
def mIfS (t:6e7)(f g:13e8):PSt->M PF:=fun ρ=>bnd (t ρ) fun b=>if b then f ρ else g ρ
def mRet (f:4e7):PSt->M PF:=fun ρ=>bnd (f ρ) fun r=>ret (.rt r)
def mRetF (f:6e3):PSt->M PF:=fun ρ=>bnd (f ρ) fun r=>ret (.rf r)
def mRetQ (fs:2e8):PSt->M PF:=fun ρ=>bnd (fs ρ) fun xs=>if xs.length<=1000 then ret (.rq xs) else fun _=>none
def mDrop (f:4e7):PSt->M PF:=fun ρ=>bnd (f ρ) fun _=>ret (.nx ρ)
def mSet (i:Nat)(f:4e7):PSt->M PF:=fun ρ=>bnd (f ρ) fun r=>ret (.nx (ρ.set i (some r)))
def mNew (i:Nat)(f:6e3):PSt->M PF:=fun ρ=>bnd (f ρ) fun ps=>fun C=>some (.nx (ρ.set i (some (.c C.length))),C++[.lst ps])
theorem new_cell {K:W.Frag}{ι:4e3}{H H':Hp}{ρ:PSt}{σ:St}{C C1:Cs}{D:Ends}{i:Nat}{ps:List PV}{q:Addr}{vs:List V}(sr:SR K ι H ρ σ C)(d:Done K ι H D (C1++[.lst ps]) (.nx (ρ.set i (some (.c C1.length)))))
  (f1:Fr ι H H') (c1:CR K ι H' C1) (hq:H' q=none) (rs:Reps K ι H' ps vs):D.nx (σ.set i (some (.ref q))) (upd H' q (.lst vs)):=by
 have c2:CR K (ι++[q]) (upd H' q (.lst vs)) (C1++[.lst ps]):=c1.add hq ⟨vs,ZaO,RepsNew c1 hq ps vs rs⟩
 have x:Ex ι [q] H (upd H' q (.lst vs)):=⟨f1.trans (Fr.new hq),fun b hb=>by
  have:b=q:=by simpa using hb
  subst this
  cases e:H b with
  | none=>rfl
  | some o=>
   by_cases n:b∈ι
   ·rcases c1.mut n with ⟨vs,z⟩ | ⟨vs,z⟩ | ⟨vs,z⟩
    ·rw[hq] at z;cases z
    ·rw[hq] at z;cases z
    ·rw[hq] at z;cases z
   ·have:=f1 b o n e;rw[hq] at this;cases this⟩
 refine d [q] _ _ x ((sr.ex x c2).set i ⟨q,rfl,?_⟩)
 rw[←c1.len];simp
def plain:List SV->Option 14e9
 | []=>some []
 | .v p::r=>(plain r).map (p::·)
 | .c _::_=>none
theorem ZbT {K:W.Frag}{ι:4e3}{H:Hp}:∀{xs:List SV} {ps:List PV} {vs:List V},plain xs=some ps->RepSs K ι H xs vs->Reps K ι H ps vs/\vs.length=xs.length
 | [],ps,vs,e,r=>by cases e;rw[show vs=[] from r];exact ⟨.nil,rfl⟩
 | .v p::xs,ps,vs,e,r=>by
  obtain ⟨v,w,rfl,h1,h2⟩:=r
  unfold plain at e
  cases h:plain xs with
  | none=>rw[h] at e;cases e
  | some qs=>
   rw[h] at e;cases e
   exact ⟨.cons h1 (ZbT h h2).1,by rw[YX,YX,(ZbT h h2).2]⟩
 | .c _::_,ps,vs,e,r=>by cases e
theorem k1000 {n:Nat}(h:n<=1000):n<=sizeLine:=YQ h (by rw[YS];decide)
def mTup (fs:2e8):PSt->M SV:=fun ρ=>bnd (fs ρ) fun xs=>opM fun _=>if xs.length<=1000 then (plain xs).map fun ps=>.v 9e4 else none
def mLst (fs:2e8):PSt->M 14e9:=fun ρ=>bnd (fs ρ) fun xs=>opM fun _=>if xs.length<=1000 then plain xs else none
def mVal (f:6e3):PSt->M SV:=fun ρ=>bnd (f ρ) fun ps=>ret (.v 8e5)
theorem Zcw {K:W.Frag}{ι:4e3}{H:Hp}{C:Cs}{ps:List PV}{q:Addr}{vs:List V}(c1:12e3)(hq:H q=none)(rs:Reps K ι H ps vs):Rep K ι (upd H q (.lst vs)) 8e5 (.ref q):=by
 unfold Rep
 refine ⟨q,vs,rfl,.inl ⟨fun z=>?_,.inl ZaO⟩,Reps.stay (fun b o e=>by rw[Zaw (Zar e hq)];exact e) ps vs rs⟩
 rcases c1.mut z with ⟨_,e⟩ | ⟨_,e⟩ | ⟨_,e⟩
 ·rw[hq] at e;cases e
 ·rw[hq] at e;cases e
 ·rw[hq] at e;cases e
def tMG (K:W.Frag)(g:5e2):TG:=fun v σ H Q=>∃ι ρ C p ρ',SR K ι H ρ σ C/\Rep K ι H p v/\g p ρ=some ρ'/\∀σ',SR K ι H ρ' σ' C->Q σ' H
def tMGs (K:W.Frag)(g:List PV->PSt->Option PSt):TGs:=fun v σ H Q=>∃ι ρ C p ρ',SR K ι H ρ σ C/\Reps K ι H p v/\g p ρ=some ρ'/\∀σ',SR K ι H ρ' σ' C->Q σ' H
def GM (X:Cx)(tg:Expr)(g:5e2):Prop:=PG X tg (tMG X.K g)
def GMs (X:Cx)(ts:6e1)(g:List PV->PSt->Option PSt):Prop:=PGs X ts (tMGs X.K g)
theorem PG.imp {t t':TG}(h:PG X tg t)(k:∀v σ H Q,t' v σ H Q->t v σ H Q):PG X tg t':=fun pins s σ H v u Q I r q=>h pins s σ H v u Q I r (k v σ H Q q)
theorem PGs.imp {t t':TGs}(h:PGs X es t)(k:∀v σ H Q,t' v σ H Q->t v σ H Q):PGs X es t':=fun pins s σ H v u Q I r q=>h pins s σ H v u Q I r (k v σ H Q q)
def hName (i:Nat):PV->PSt->Option PSt:=fun p ρ=>some (ρ.set i (some (.v p)))
def hNil:List PV->PSt->Option PSt
 | [],ρ=>some ρ
 | _::_,_=>none
def hCons (g:5e2)(gs:List PV->PSt->Option PSt):List PV->PSt->Option PSt
 | [],_=>none
 | p::ps,ρ=>(g p ρ).bind fun ρ'=>gs ps ρ'
def hTup (gs:List PV->PSt->Option PSt)(n:Nat):PV->PSt->Option PSt
 | .tup ps,ρ=>if ps.length=n then gs ps ρ else none
 | _,_=>none
def mAsg (f:4e7)(g:5e2):PSt->M PF:=fun ρ=>bnd (f ρ) fun r=>match r with
 | .v p=>fun C=>(g p ρ).map fun ρ'=>(.nx ρ',C)
 | .c _=>fun _=>none
end
structure Iter (K:W.Frag)(ι:List Addr)(H1:Hp)(xs:List PV)(J:It):Prop where
 go:∀ι2 H2 C2,Ex ι ι2 H1 H2->CR K 11e1 H2 C2->∀i,i < xs.length->J.go i H2
 yld:∀ι2 H2 C2,Ex ι ι2 H1 H2->CR K 11e1 H2 C2->∀i v H3,i < xs.length->J.yld i H2 v H3->(∀b o,H2 b=some o->H3 b=some o)/\∃p,xs[i]? = some p/\Rep K 11e1 H3 p v
 stop:∀ι2 H2 C2,Ex ι ι2 H1 H2->CR K 11e1 H2 C2->J.stop xs.length H2
def tMI (K:W.Frag)(f:6e3):TI:=fun σ H R=>∃ι ρ C xs C',SR K ι H ρ σ C/\f ρ C=some (xs,C')/\∀J H1,Fr ι H H1->CR K ι H1 C'->Iter K ι H1 xs J->R J H1
def IM (X:Cx)(tg iter:Expr)(f:6e3):Prop:=PI X tg iter (tMI X.K f)
section
variable {X:Cx}{e tg iter elt:Expr}{es:6e1}{body:List Stmt}{f:13e8}{pos p:Pos}{x:Str}
def loop (g:5e2)(f:13e8):List PV->PSt->M PF
 | [],ρ=>ret (.nx ρ)
 | x::xs,ρ=>match g x ρ with
  | none=>fun _=>none
  | some ρ1=>bnd (f ρ1) fun fl=>match fl with
   | .nx ρ2=>loop g f xs ρ2
   | .ct ρ2=>loop g f xs ρ2
   | .bk ρ2=>ret (.nx ρ2)
   | .rt r=>ret (.rt r)
   | .rf ps=>ret (.rf ps)
   | .rq ps=>ret (.rq ps)
def mFor (it:6e3)(g:5e2)(f:13e8):PSt->M PF:=fun ρ=>bnd (it ρ) fun xs=>loop g f xs ρ
def stIn' (vs:5e9)(fr:12e5)(ρ:PSt):PSt:=vs.map (fun _=>none)++fr.map fun i=>(ρ[i]?).join
def compL (g:5e2)(tt:6e7)(te:4e7):List PV->PSt->List PV->M 14e9
 | [],_,ys=>ret ys
 | x::xs,ρ,ys=>match g x ρ with
  | none=>fun _=>none
  | some ρ1=>bnd (tt ρ1) fun b=>if b then bnd (te ρ1) fun y=>match y with
    | .v p=>compL g tt te xs ρ1 (ys++[p])
    | .c _=>fun _=>none
   else compL g tt te xs ρ1 ys
def mComp (it:6e3)(vs:5e9)(fr:12e5)(g:5e2)(tt:6e7)(te:4e7):PSt->M 14e9:=fun ρ=>bnd (it ρ) fun xs=>if xs.length<=100000 then compL g tt te xs (stIn' vs fr ρ) [] else fun _=>none
theorem SR.block {K:W.Frag}{ι:4e3}{H:Hp}{ρ:PSt}{σ:St}{C:Cs}(sr:SR K ι H ρ σ C)(vs:5e9)(fr:12e5):SR K ι H (stIn' vs fr ρ) (stIn vs fr σ) C:=by
 refine ⟨sr.cr,by simp[stIn',stIn],fun i s e=>?_⟩
 unfold stIn' at e
 unfold stIn
 rcases YC i vs.length with h | h
 ·rw[Yf 12e1] at e
  simp at e
 ·rw[Y8 12e1] at e
  rw[Y8 12e1]
  simp only[YA,YL] at e ⊢
  cases hj:fr[i - vs.length]? with
  | none=>rw[hj] at e;cases e
  | some j=>
   rw[hj] at e
   have e':(ρ[j]?).join=some s:=by simpa using e
   have e2:ρ[j]? = some (some s):=by
    cases hr:ρ[j]? with
    | none=>rw[hr] at e';cases e'
    | some o=>rw[hr] at e';simp at e';rw[e']
   obtain ⟨v,h1,h2⟩:=sr.loc j s e2
   refine ⟨v,?_,h2⟩
   simp[h1]
theorem k100000 {n:Nat}(h:n<=100000):n<=sizeLine:=YQ h (by rw[YS];decide)
theorem comp_pure {K:W.Frag}{it:6e3}{vs:5e9}{fr:12e5}{g:5e2}{tt:6e7}{te:4e7}{σ:St}{H:Hp}{Q:VK}{ι:4e3}{ρ:PSt}{C C':Cs}{res:List PV}(sr:SR K ι H ρ σ C)
  (e:mComp it vs fr g tt te ρ C=some (res,C')) (q:∀p vs H',Fr ι H H'->CR K ι H' C'->H' p=none->Reps K ι H' res vs->Q (.ref p) (upd H' p (.lst vs))):tComp (tMI K it) vs fr (tMG K g) (tMB K tt) (tM K te) σ H Q:=by
 sleep 10
 refine ⟨ι,ρ,C,xs,C1,sr,e1,fun J H1 f1 c1 it1=>?_⟩
 by_cases hz:xs.length<=100000
 case neg=>rw[if_neg hz] at e;cases e
 rw[if_pos hz] at e
 have sr1:=(sr.step f1 c1).block vs fr
 have x0:∀{H2:Hp},Fr ι H1 H2->Ex ι [] H1 H2:=fun f=>Ex.fr f
 have c0:∀{H2:Hp} {C2:Cs},CR K ι H2 C2->CR K (ι++[]) H2 C2:=fun c=>by rw[YJ];exact c
 refine ⟨fun i m σ2 ys H2=>∃ρ2 C2 ps,m=xs.length - i/\i<=xs.length/\Fr ι H1 H2/\SR K ι H2 ρ2 σ2 C2/\Reps K ι H2 ps ys/\ps.length<=i/\compL g tt te (xs.drop i) ρ2 ps C2=some (res,C'),⟨xs.length,_,C1,[],rfl,YV _,.refl,sr1,.nil,Yh _,e⟩,?_⟩
 rintro i m σ2 ys H2 ⟨ρ2,C2,ps,rfl,hi2,f2,sr2,rs2,hps,e2⟩
 have hys:ys.length<=sizeLine:=by rw[←rs2.length];exact k100000 (YQ (YQ hps hi2) hz)
 rcases YC i xs.length with hlt | hge
 ·right
  refine ⟨it1.go [] H2 C2 (x0 f2) (c0 sr2.cr) i hlt,hys,fun σ' ys' H'=>∃ρ2 C2 ps,Fr ι H1 H'/\SR K ι H' ρ2 σ' C2/\Reps K ι H' ps ys'/\ps.length<=i + 1/\compL g tt te (xs.drop (i + 1)) ρ2 ps C2=some (res,C'),?_,?_⟩
  ·rintro σ' ys' H' ⟨ρ3,C3,ps3,f3,sr3,rs3,h3,e3⟩
   exact ⟨xs.length - (i + 1),by lia,ρ3,C3,ps3,rfl,hlt,f3,sr3,rs3,h3,e3⟩
  ·intro v H3 y
   obtain ⟨sm,qv,hq,rq⟩:=it1.yld [] H2 C2 (x0 f2) (c0 sr2.cr) i v H3 hlt y
   rw[YJ] at rq
   have hd:xs.drop i=qv::xs.drop (i + 1):=by
    rw[XE hlt]
    rw[Yb hlt] at hq
    rw[YG hq]
   rw[hd] at e2
   unfold compL at e2
   cases hg1:g qv ρ2 with
   | none=>rw[hg1] at e2;cases e2
   | some ρ3=>
    rw[hg1] at e2
    obtain ⟨b,C3,e3,e4⟩:=Zag e2
    have fr3:Fr ι H2 H3:=fun b o _ z=>sm b o z
    have cr3:CR K ι H3 C2:=sr2.cr.same sm
    refine ⟨ι,ρ2,C2,qv,ρ3,sr2.step fr3 cr3,rq,hg1,fun σ4 sr4=>⟨ι,ρ3,C2,b,C3,sr4,e3,fun H5 f5 c5=>?_⟩⟩
    have f15:=f2.trans (fr3.trans f5)
    have rs5:Reps K ι H5 ps ys:=Reps.mono cr3 f5 _ _ (Reps.mono sr2.cr fr3 _ _ rs2)
    cases b with
    | true=>
     rw[if_pos rfl] at e4
     dsimp only
     rw[if_pos rfl]
     obtain ⟨y1,C6,e6,e7⟩:=Zag e4
     refine ⟨ι,ρ3,C3,y1,C6,sr4.step f5 c5,e6,fun v7 H7 f7 c7 r7=>?_⟩
     cases y1 with
     | c k=>cases e7
     | v p7=>exact ⟨ρ3,C6,ps++[p7],f15.trans f7,(sr4.step f5 c5).step f7 c7,(Reps.mono c5 f7 _ _ rs5).append (.cons r7 .nil),by simp;exact hps,e7⟩
    | false=>
     rw[if_neg Yv] at e4
     dsimp only
     rw[if_neg Yv]
     exact ⟨ρ3,C3,ps,f15,sr4.step f5 c5,rs5,Nat.le_succ_of_le hps,e4⟩
 ·left
  have hi3:i=xs.length:=by lia
  subst hi3
  rw[W8] at e2
  cases e2
  exact ⟨it1.stop [] H2 _ (x0 f2) (c0 sr2.cr),hys,fun D hD=>q D ys H2 (f1.trans f2) sr2.cr hD rs2⟩
section
variable {ifs:6e1}{scope:Scope}{vs fs:5e9}{fr:12e5}{it:6e3}{g:5e2}{tt:6e7}{te:4e7}
def TsM (X:Cx)(ifs:6e1)(t:6e7):Prop:=PTs X ifs (tMB X.K t)
def tOk:PSt->M Bool:=fun _=>ret true
end
end
theorem CR.cut {K:W.Frag}{ι ι2:4e3}{H:Hp}{C:Cs}{n:Nat}(c:CR K 11e1 H C)(hn:ι.length=n):CR K ι H (C.take n):=by
 have hlen:(ι++ι2).length=C.length:=c.len
 rw[Xa] at hlen
 have hs:∀b o,H b=some o->b∉ι++ι2->b∉ι:=fun b o _ z q=>z (YF _ q)
 refine ⟨by rw[Xl];lia,(XB.mp c.nd).1,fun k a d h1 h2=>?_⟩
 have hk:k < ι.length:=by
  rcases YC k ι.length with q | q
  ·exact q
  ·rw[Yg.mpr q] at h1;cases h1
 rw[Xb 1e2] at h2
 have ok:=c.ok k a d (by rw[Yf hk];exact h1) h2
 cases d with
 | lst ps=>obtain ⟨vs,e,r⟩:=ok;exact ⟨vs,e,16e9⟩
 | dct ks ps=>obtain ⟨qs,vs,e,hl,hk,r⟩:=ok;exact ⟨qs,vs,e,hl,hk,16e9⟩
 | dtt ks ps=>obtain ⟨vs,e,hl,r⟩:=ok;exact ⟨vs,e,hl,16e9⟩
 | _=>exact ok.elim
def fin (n:Nat)(C':Cs):SV->Option (SV×Cs)
 | .v p=>some (.v p,C'.take n)
 | .c k=>if k < n then some (.c k,C'.take n) else (C'[k]?).map fun c=>(.v c,C'.take n)
def finQ (n:Nat)(C':Cs):List SV->Option 14e9
 | []=>some []
 | .v p::r=>(finQ n C' r).map (p::·)
 | .c k::r=>if k < n then none else (C'[k]?).bind fun c=>(finQ n C' r).map (c::·)
def mDef (n pad:Nat)(body:13e8):List SV->M SV:=fun ss C=>if ss.length=n then (match body (ss.map some++Y9 pad none) C with
 | some (.rt r,C')=>fin C.length C' r
 | some (.nx _,C')=>some 13e7
 | some (.rf ps,C')=>some 14e6
 | some (.rq qs,C')=>(finQ C.length C' qs).map fun ps=>14e7
 | _=>none) else none
def mDefF (n pad:Nat)(body:13e8):List SV->M 14e9:=fun ss C=>if ss.length=n then (match body (ss.map some++Y9 pad none) C with
 | some (.rf ps,C')=>some (ps,C'.take C.length)
 | _=>none) else none
def liftSpF (K:W.Frag)(F:List SV->M 14e9):Sp:=fun vs H Q _=>∃ι ss C ps C',CR K ι H C/\RepSs K ι H ss vs/\F ss C=some (ps,C')/\∀p vs H',Fr ι H H'->CR K ι H' C'->H' p=none->Reps K ι H' ps vs->Q (.ref p) (upd H' p (.lst vs))
def mFnF (F:List SV->M 14e9)(fs:2e8):PSt->M 14e9:=fun ρ=>bnd (fs ρ) F
theorem fm_call {X:Cx}{e:Expr}{es:6e1}{p pos:Pos}{x:Str}{k:Nat}{f:Addr}{fd:X2}{ps:5e9}{F:List SV->M 14e9}{fs:2e8}(G:FnOk X.prog X.w X.K X.mg X.base CX0 k f fd ps (liftSpF X.K F))(hr:Room k X.A)(hg:Gl X x)(hm:X.mg x=some (.ref f))(hk:VX X.K (.ref f)=true)(hb:L2.Binds X.K fd ps [])
  (ha:AM X 9e1 fs) (hdb:5e5:=by decide) (he:1e8:=by rfl) (hpl:3e1:=by rfl):
  FM X 7e0 (mFnF F fs):=PE.imp (pe_call G hr hg hm hk hb .nil pass0 ha hdb he hpl) fun σ H Q h_=>by
 sleep 9
 obtain ⟨xs,C1,e1,g1⟩:=Zag e
 refine ⟨ι,ρ,C,xs,C1,sr,e1,fun vs H1 f1 c1 r1=>?_⟩
 show liftSpF X.K F (vs++[]) H1 Q E0
 rw[YJ]
 exact ⟨ι,xs,C1,z,C',c1,r1,g1,fun q' ws H2 f2 c2 h2 r2=>q q' ws H2 (f1.trans f2) c2 h2 r2⟩
theorem fin_ok {K:W.Frag}{ι ι2:4e3}{H:Hp}{C' C2:Cs}{n:Nat}{r r':SV}{v:V}(c:CR K 11e1 H C')(hn:ι.length=n)(rr:RepS K 11e1 H r v)(e:fin n C' r=some (r',C2)):CR K ι H C2/\RepS K ι H r' v:=by
 have hs:∀b o,H b=some o->b∉ι++ι2->b∉ι:=fun b o _ z q=>z (YF _ q)
 cases r with
 | v p=>cases e;exact ⟨c.cut hn,Rep.cells hs p v rr⟩
 | c k=>
  obtain ⟨a,rfl,hk⟩:=rr
  replace e:(if k < n then some (SV.c k,C'.take n) else (C'[k]?).map fun c=>(SV.v c,C'.take n))=some (r',C2):=e
  by_cases h:k < n
  ·rw[if_pos h] at e
   cases e
   refine ⟨c.cut hn,a,rfl,?_⟩
   rw[Yf 1e2] at hk;exact hk
  ·rw[if_neg h] at e
   cases hd:C'[k]? with
   | none=>rw[hd] at e;cases e
   | some d=>
    rw[hd] at e
    cases e
    refine ⟨c.cut hn,?_⟩
    have ok:=c.ok k a d hk hd
    have hna:a∉ι:=fun z=>by
     obtain ⟨j,hj,ej⟩:=WA z
     have hjk:(ι++ι2)[j]? = some a:=by rw[Yf hj,Yb hj,ej]
     have hkl:k < (ι++ι2).length:=by
      rcases YC k (ι++ι2).length with q | q
      ·exact q
      ·rw[Yg.mpr q] at hk;cases hk
     have hjl:j < (ι++ι2).length:=by rw[Xa];lia
     have e1:=(YT.mp hjk).2
     have e2:=(YT.mp hk).2
     have:=(WD c.nd).mp (e1.trans e2.symm)
     lia
    show Rep K ι H d (.ref a)
    cases d with
    | lst ps=>obtain ⟨vs,e,r⟩:=ok;unfold Rep;exact ⟨a,vs,rfl,.inl ⟨hna,.inl e⟩,16e9⟩
    | dct ks ps=>obtain ⟨qs,vs,e,hl,hk,r⟩:=ok;unfold Rep;exact ⟨a,qs,vs,rfl,hna,e,hl,hk,16e9⟩
    | dtt ks ps=>obtain ⟨vs,e,hl,r⟩:=ok;unfold Rep;exact ⟨a,vs,rfl,hna,.inl e,hl,16e9⟩
    | _=>exact ok.elim
theorem finQ_ok {K:W.Frag}{ι ι2:4e3}{H:Hp}{C':Cs}{n:Nat}(c:CR K 11e1 H C')(hn:ι.length=n):∀{qs:List SV} {ps:List PV} {vs:List V},RepSs K 11e1 H qs vs->finQ n C' qs=some ps->Reps K ι H ps vs
 | [],ps,vs,r,e=>by cases e;rw[show vs=[] from r];exact .nil
 | .v p::qs,ps,vs,r,e=>by
  obtain ⟨v,w,rfl,h1,h2⟩:=r
  unfold finQ at e
  cases hq:finQ n C' qs with
  | none=>rw[hq] at e;cases e
  | some z=>
   rw[hq] at e;cases e
   exact .cons (fin_ok (r:=.v p) (r':=.v p) c hn h1 rfl).2 (finQ_ok c hn h2 hq)
 | .c k::qs,ps,vs,r,e=>by
  obtain ⟨v,w,rfl,h1,h2⟩:=r
  unfold finQ at e
  by_cases hk:k < n
  ·rw[if_pos hk] at e;cases e
  ·rw[if_neg hk] at e
   cases hc:C'[k]? with
   | none=>rw[hc] at e;cases e
   | some d=>
    cases hq:finQ n C' qs with
    | none=>rw[hc,hq] at e;cases e
    | some z=>
     rw[hc,hq] at e;cases e
     exact .cons (fin_ok (r:=.c k) (r':=.v d) c hn h1 (show (if k < n then some (SV.c k,C'.take n) else (C'[k]?).map fun c=>(SV.v c,C'.take n))=some (.v d,C'.take n) by rw[if_neg hk,hc];rfl)).2 (finQ_ok c hn h2 hq)
theorem RepSs.get {K:W.Frag}{ι:4e3}{H:Hp}:∀{ss:List SV} {vs:List V} {i:Nat} {s:SV},RepSs K ι H ss vs->ss[i]? = some s->∃v,vs[i]? = some v/\RepS K ι H s v
 | [],_,_,_,h,e=>by simp at e
 | q::ss,vs,0,s,h,e=>by
  obtain ⟨v,r,rfl,h1,h2⟩:=h
  simp at e;subst e;exact ⟨v,rfl,h1⟩
 | q::ss,vs,i + 1,s,h,e=>by
  obtain ⟨v,r,rfl,h1,h2⟩:=h
  obtain ⟨w,e1,r1⟩:=RepSs.get (i:=i) h2 (by simpa using e)
  exact ⟨w,by simpa using e1,r1⟩
theorem sr_start {K:W.Frag}{ι:4e3}{H:Hp}{C:Cs}{ss:List SV}{vs:List V}{N:5e9}(cr:12e3)(rs:RepSs K ι H ss vs):SR K ι H (ss.map some++Y9 (N.length - ss.length) none) (L2.start N vs) C:=by
 have hl:=RepSs.length rs
 refine ⟨cr,by unfold L2.start;simp[hl],fun i s e=>?_⟩
 unfold L2.start
 rcases YC i ss.length with h | h
 ·rw[Yf 12e1,YL] at e
  rw[Yf (by rw[YA,←hl];exact h),YL]
  cases hs:ss[i]? with
  | none=>rw[hs] at e;cases e
  | some s'=>
   rw[hs] at e
   have:s'=s:=by simpa using e
   subst this
   obtain ⟨v,h1,h2⟩:=RepSs.get rs hs
   exact ⟨v,by rw[h1];rfl,h2⟩
 ·rw[Y8 12e1,List.getElem?_replicate] at e
  split at e<;>cases e
section
variable {P:YD}{w:World}{K:W.Frag}{mg:3e3}{base:Heap}
theorem fn_mk {x qual:Str}{st:Stmt}{f:Addr}{fd:X2}{N ps:5e9}{k:Nat}{body:13e8}(F:Fun K x qual st f fd)(S:FnScope N ps 17e0)
  (hbody:∀(cdv:Value) (A:Around) (outer:List Env) (s:Shared) (H:Hp) (E:XK),Room k (A.deeper (envOfC qual 17e0 s.heap.objs.size f cdv))->
   BM (cxOf CX0 P w K mg base N qual (defScope st) f cdv A outer s H E).nox (defBody st) body):FnOk P w K mg base CX0 (k + 1) f fd ps (liftSp K (mDef ps.length (N.length - ps.length) body)):=by
 refine F.ok S (fun vs H Q E h_=>?_) (fun cdv A outer s H vs Q E hr h_=>?_)<;>obtain ⟨ι,ss,C,r,C',cr,rs,e,q⟩:=h_
 ·unfold mDef at e
  by_cases h:ss.length=ps.length
  ·rw[←RepSs.length rs];exact h
  ·rw[if_neg h] at e;cases e
 ·refine ⟨_,hbody cdv A outer s H E hr,?_⟩
  unfold mDef at e
  by_cases h:ss.length=ps.length
  case neg=>rw[if_neg h] at e;cases e
  rw[if_pos h] at e
  have sr:=sr_start (N:=N) cr rs
  rw[h] at sr
  cases hb:body (ss.map some++Y9 (N.length - ps.length) none) C with
  | none=>rw[hb] at e;cases e
  | some z=>
   obtain ⟨fl,C2⟩:=z
   rw[hb] at e
   refine ⟨ι,_,C,fl,C2,sr,hb,?_⟩
   cases fl with
   | rt r2=>
    intro ι2 v H' x c r3
    obtain ⟨c4,r4⟩:=fin_ok c cr.len r3 e
    exact q v H' x.1 c4 r4
   | nx ρ2=>
    intro ι2 σ' H' x sr'
    cases e
    refine q .non H' x.1 (sr'.cr.cut cr.len) ?_
    show Rep K ι H' .non .non
    unfold Rep;rfl
   | rf ps'=>
    intro ι2 p' vs' H' x c hp rs'
    cases e
    have hs:∀b o,H' b=some o->b∉ι++ι2->b∉ι:=fun b o _ z q=>z (YF _ q)
    have c4:=c.cut cr.len
    exact q _ _ (x.1.trans (Fr.new hp)) (c4.new hp) (show Rep _ _ _ _ _ from Zcw c4 hp (Reps.cells hs _ _ rs'))
   | rq qs'=>
    intro ι2 p' vs' H' x c hp rs'
    replace e:(finQ C.length C2 qs').map (fun ps=>(SV.v 9e4,C2.take C.length))=some (r,C'):=e
    cases hq:finQ C.length C2 qs' with
    | none=>rw[hq] at e;cases e
    | some ps'=>
     rw[hq] at e;cases e
     have c4:=c.cut cr.len
     refine q _ _ (x.1.trans (Fr.new hp)) (c4.new hp) ?_
     show Rep _ _ _ (.tup ps') _
     unfold Rep
     exact ⟨p',vs',rfl,ZaO,Reps.stay (fun b o e=>by rw[Zaw (Zar e hp)];exact e) _ _ (finQ_ok c cr.len rs' hq)⟩
   | bk _=>cases e
   | ct _=>cases e
theorem fn_mkF {x qual:Str}{st:Stmt}{f:Addr}{fd:X2}{N ps:5e9}{k:Nat}{body:13e8}(F:Fun K x qual st f fd)(S:FnScope N ps 17e0)
  (hbody:∀(cdv:Value) (A:Around) (outer:List Env) (s:Shared) (H:Hp) (E:XK),Room k (A.deeper (envOfC qual 17e0 s.heap.objs.size f cdv))->
   BM (cxOf CX0 P w K mg base N qual (defScope st) f cdv A outer s H E).nox (defBody st) body):FnOk P w K mg base CX0 (k + 1) f fd ps (liftSpF K (mDefF ps.length (N.length - ps.length) body)):=by
 refine F.ok S (fun vs H Q E h_=>?_) (fun cdv A outer s H vs Q E hr h_=>?_)<;>obtain ⟨ι,ss,C,r,C',cr,rs,e,q⟩:=h_
 ·unfold mDefF at e
  by_cases h:ss.length=ps.length
  ·rw[←RepSs.length rs];exact h
  ·rw[if_neg h] at e;cases e
 ·refine ⟨_,hbody cdv A outer s H E hr,?_⟩
  unfold mDefF at e
  by_cases h:ss.length=ps.length
  case neg=>rw[if_neg h] at e;cases e
  rw[if_pos h] at e
  have sr:=sr_start (N:=N) cr rs
  rw[h] at sr
  cases hb:body (ss.map some++Y9 (N.length - ps.length) none) C with
  | none=>rw[hb] at e;cases e
  | some z=>
   obtain ⟨fl,C2⟩:=z
   rw[hb] at e
   refine ⟨ι,_,C,fl,C2,sr,hb,?_⟩
   cases fl with
   | rf ps'=>
    intro ι2 p' vs' H' x c hp rs'
    cases e
    have hs:∀b o,H' b=some o->b∉ι++ι2->b∉ι:=fun b o _ z q=>z (YF _ q)
    exact q p' vs' H' x.1 (c.cut cr.len) hp (Reps.cells hs _ _ rs')
   | _=>cases e
end
end Pu
namespace Pu
open PySem PySem.Spec L2
open PyProof.Rows hiding St Fr
def g2 (h:PV->PV->Option PV):Cs->SV->SV->Option SV:=fun C x y=>match deref C x,deref C y with
 | some p,some q=>(h p q).map .v
 | _,_=>none
def L2ok (K:W.Frag)(r:R2)(h:PV->PV->Option PV):Prop:=
 ∀(ι:4e3) (H:Hp) (C:Cs) (p q:PV) (vx vy:V) (z:PV) (Q:VK),CR K ι H C->Lies K ι H p vx->Lies K ι H q vy->h p q=some z->(∀v H',Fr ι H H'->CR K ι H' C->Rep K ι H' z v->Q v H')->r vx vy H Q
theorem L2ok.r {K:W.Frag}{r:R2}{h:PV->PV->Option PV}(k:L2ok K r h):R2ok K r (g2 h):=by
 intro ι H C x y vx vy z Q cr rx ry e q
 unfold g2 at e
 cases hx:deref C x with
 | none=>rw[hx] at e;cases e
 | some p=>
  cases hy:deref C y with
  | none=>rw[hx,hy] at e;cases e
  | some p2=>
   rw[hx,hy] at e
   cases hz:h p p2 with
   | none=>simp[hz] at e
   | some z2=>
    simp[hz] at e
    subst e
    exact k ι H C p p2 vx vy z2 Q cr (rx.lies cr hx) (ry.lies cr hy) hz q
theorem OpR.or {X:Cx}{f:Value->Value->Sem Value}{r r':R2}(h:OpR X f r)(h':OpR X f r'):OpR X f (fun x y H Q=>r x y H Q\/r' x y H Q):=by
 intro pins s σ H x y v u Q I rx ry q
 rcases q with q | q
 ·exact h pins s σ H x y v u Q I rx ry q
 ·exact h' pins s σ H x y v u Q I rx ry q
section
variable {K:W.Frag}{ι:4e3}{H:Hp}{C:Cs}{Q:VK}{z:PV}
theorem liesS {v:V}{i:Str}(h:Lies K ι H (.str i) v):v=.str i/\i.length<=sizeLine:=by cases h;exact ⟨rfl,by assumption⟩
theorem liesT {v:V}{ps:List PV}(h:Lies K ι H 9e4 v):∃a vs,v=.ref a/\TpR H a vs/\Reps K ι H ps vs:=by cases h;exact ⟨_,_,rfl,by assumption,by assumption⟩
theorem liesL {v:V}{ps:List PV}(h:Lies K ι H 8e5 v):∃a vs,v=.ref a/\SqL K H a vs/\Reps K ι H ps vs:=by cases h;exact ⟨_,_,rfl,by assumption,by assumption⟩
theorem repI {i:Int}:Rep K ι H (.int i) (.int i):=by unfold Rep;rfl
theorem repBl {i:Bool}:Rep K ι H (.bl i) (.bl i):=by unfold Rep;rfl
theorem repN:Rep K ι H .non .non:=by unfold Rep;rfl
theorem repS {i:Str}(h:i.length<=Yu):Rep K ι H (.str i) (.str i):=by unfold Rep;exact ⟨rfl,h⟩
theorem k1000000 {n:Nat}(h:n<=1000000):n<=sizeLine:=YQ h (by rw[YS];decide)
theorem Zc9 {ps:List PV}{q:Addr}{vs:List V}(hq:H q=none)(rs:Reps K ι H ps vs):Rep K ι (upd H q (.tup vs)) 9e4 (.ref q):=by
 unfold Rep
 exact ⟨q,vs,rfl,ZaO,Reps.stay (fun b o e=>by rw[Zaw (Zar e hq)];exact e) ps vs rs⟩
end
def addP:PV->PV->Option PV
 | .int i,.int j=>some (.int (i + j))
 | .str i,.str j=>if i.length + j.length<=1000000 then some (.str (i++j)) else none
 | .lst a,.lst b=>if a.length + b.length<=1000000 then some (.lst (a++b)) else none
 | .tup a,.tup b=>if a.length + b.length<=1000000 then some (.tup (a++b)) else none
 | _,_=>none
def rCatL (K:W.Frag):R2:=fun x y H Q=>∃l b xs zs,x=.ref l/\y=.ref b/\SqL K H l xs/\SqL K H b zs/\xs.length + zs.length<=Yu/\∀p,H p=none->Q (.ref p) (upd H p (.lst (xs++zs)))
section
variable {X:Cx}
theorem op_catL:OpR X (WK .Add) (rCatL X.K):=by
 sleep 4
 obtain ⟨l,b,xs,zs,rfl,rfl,hH,hB,hz,q⟩:=h
 cases rx
 cases ry
 obtain ⟨its,r,pl,_⟩:=I.list hH
 obtain ⟨its2,r2,pl2,_⟩:=I.list hB
 obtain ⟨⟨cls,dd,data,sl⟩,ho,hc,n,hd⟩:=id pl.isList
 obtain ⟨⟨cls2,dd2,data2,sl2⟩,ho2,hc2,n2,hd2⟩:=id pl2.isList
 simp only at hc hd hc2 hd2
 subst hc hd hc2 hd2
 have h1:=r.length
 have h2:=r2.length
 have ea:its.toArray++its2.toArray=(its++its2).toArray:=by simp
 refine Us ⟨_,ho,rfl⟩ ⟨_,ho2,rfl⟩ noFill_list_add seq_list_add PySem.F.slot_list_add PySem.F.entry_list_add (PySem.F.args_list_add_2 _ _) (list_addW l b its.toArray its2.toArray n n2 dd dd2 sl sl2 11e0) ⟨ho,ho2,?_⟩
 rw[ea]
 exact ⟨.ref _,_,I.lnew (t':=s.toks) (r.append r2) (by rw[Xa];lia),rfl,q _ I.fresh⟩
def rCatT' (K:W.Frag):R2:=fun x y H Q=>∃a b xs ys,x=.ref a/\y=.ref b/\SqT K H a xs/\SqT K H b ys/\xs.length + ys.length<=Yu/\
 (xs=[]->Q (.ref b) H)/\(xs≠[]->ys=[]->Q (.ref a) H)/\(xs≠[]->ys≠[]->∀p,H p=none->Q (.ref p) (upd H p (.tup (xs++ys))))
theorem op_catT':OpR X (WK .Add) (rCatT' X.K):=by
 sleep 4
 obtain ⟨a,b,xs,ys,rfl,rfl,ha,hb,hz,q0,q1,q2⟩:=h
 by_cases hx:xs=[]
 ·cases rx
  cases ry
  obtain ⟨its,r1,p1,_⟩:=I.tuple ha
  obtain ⟨its2,r2,p2,_⟩:=I.tuple hb
  obtain ⟨⟨cls,dd,data,sl⟩,ho,hc,n,hd⟩:=id p1
  obtain ⟨⟨cls2,dd2,data2,sl2⟩,ho2,hc2,n2,hd2⟩:=id p2
  simp only at hc hd hc2 hd2
  subst hc hd hc2 hd2
  exact Us ⟨_,ho,rfl⟩ ⟨_,ho2,rfl⟩ Uj seq_tuple_add Vq Vl (Vc _ _)
   (tuple_addW0 a b its.toArray its2.toArray n n2 dd dd2 sl sl2 (by simp[r1.nil_iff.mpr hx])) ⟨ho,ho2,⟨.ref b,H,I,rfl,q0 hx⟩⟩
 ·exact op_catT pins s σ H _ _ v u Q I rx ry ⟨a,b,xs,ys,rfl,rfl,ha,hb,hx,hz,q1 hx,q2 hx⟩
theorem op_addAll:OpR X (WK .Add) (fun x y H Q=>(rI0 fun i j=>.int (i + j)) x y H Q\/(∃i j,x=.str i/\y=.str j/\i.length + j.length<=Yu/\Q (.str (i++j)) H)\/rCatL X.K x y H Q\/rCatT' X.K x y H Q):=
 OpR.or op_add (OpR.or op_add_str (OpR.or op_catL op_catT'))
theorem str_app_len (i j:Str):(i++j).length=i.length + j.length:=by
 show (i.cps++j.cps).size=_
 rw[Array.size_append];rfl
theorem add_ok:L2ok X.K (fun x y H Q=>(rI0 fun i j=>.int (i + j)) x y H Q\/(∃i j,x=.str i/\y=.str j/\i.length + j.length<=Yu/\Q (.str (i++j)) H)\/rCatL X.K x y H Q\/rCatT' X.K x y H Q) addP:=by
 sleep 8
 unfold addP at e
 split at e
 ·cases e;cases lx;cases ly
  exact .inl ⟨_,_,rfl,rfl,k _ H .refl cr repI⟩
 ·split at e
  ·rename_i hl
   cases e;cases lx;cases ly
   exact .inr (.inl ⟨_,_,rfl,rfl,k1000000 hl,k _ H .refl cr (repS (by rw[str_app_len];exact k1000000 hl))⟩)
  ·cases e
 ·split at e
  ·rename_i hl
   cases e
   obtain ⟨a,vs,rfl,h1,r1⟩:=liesL lx
   obtain ⟨b,ws,rfl,h2,r2⟩:=liesL ly
   exact .inr (.inr (.inl ⟨a,b,vs,ws,rfl,rfl,h1,h2,by rw[←r1.length,←r2.length];exact k1000000 hl,fun p hp=>k _ _ (Fr.new hp) (cr.new hp) (Zcw cr hp (r1.append r2))⟩))
  ·cases e
 ·split at e
  ·rename_i hl
   cases e
   rename_i xs ys
   obtain ⟨a,vs,rfl,h1,r1⟩:=liesT lx
   obtain ⟨b,ws,rfl,h2,r2⟩:=liesT ly
   refine .inr (.inr (.inr ⟨a,b,vs,ws,rfl,rfl,h1.sq,h2.sq,by rw[←r1.length,←r2.length];exact k1000000 hl,fun e=>?_,fun _ e=>?_,fun _ _ p hp=>k _ _ (Fr.new hp) (cr.new hp) (Zc9 hp (r1.append r2))⟩))
   ·subst e
    have:=r1.length
    have hx:xs=[]:=VC this
    subst hx
    exact k _ H .refl cr (by unfold Rep;exact ⟨b,ws,rfl,h2,r2⟩)
   ·subst e
    have:=r2.length
    have hy:ys=[]:=VC this
    subst hy
    rw[YJ] at k
    exact k _ H .refl cr (by unfold Rep;exact ⟨a,vs,rfl,h1,r1⟩)
  ·cases e
 ·cases e
variable {a b e c:Expr}{es:6e1}{fa fb fc:4e7}{pos p:Pos}{x:Str}
def intP (c:Int->Int->Bool)(f:Int->Int->PV):PV->PV->Option PV
 | .int i,.int j=>if c i j then some (f i j) else none
 | _,_=>none
theorem int_ok {C0:Int->Int->Prop}{f:Int->Int->Int}{c:Int->Int->Bool}(h:∀i j,c i j=true->C0 i j):L2ok X.K (rI C0 fun i j=>.int (f i j)) (intP c fun i j=>.int (f i j)):=by
 sleep 8
 unfold intP at e
 split at e
 ·split at e
  ·rename_i hc
   cases e;cases lx;cases ly
   exact ⟨_,_,rfl,rfl,h _ _ hc,k _ H .refl cr repI⟩
  ·cases e
 ·cases e
theorem int_ok0 {f:Int->Int->V}{g:Int->Int->PV}(h:∀i j,∀ι H,Rep X.K ι H (g i j) (f i j)):L2ok X.K (rI0 f) (intP (fun _ _=>true) g):=by
 sleep 8
 unfold intP at e
 split at e
 ·simp only[if_true] at e
  cases e;cases lx;cases ly
  exact ⟨_,_,rfl,rfl,k _ H .refl cr (h _ _ _ _)⟩
 ·cases e
abbrev subP:=intP (fun _ _=>true) fun i j=>.int (i - j)
abbrev mulP:=intP (fun i j=>decide (-(2 ^ 64) < i/\i < 2 ^ 64)||decide (-(2 ^ 64) < j/\j < 2 ^ 64)) fun i j=>.int (i * j)
abbrev modP:=intP (fun _ j=>decide (0 < j)) fun i j=>.int (i % j)
abbrev fdivP:=intP (fun _ j=>decide (0 < j/\j < 1073741824)) fun i j=>.int (i / j)
abbrev powP:=intP (fun i j=>decide (0<=j/\j<=1000/\i.natAbs < 2 ^ 64)) fun i j=>.int (i ^ j.toNat)
abbrev ltP:=intP (fun _ _=>true) fun i j=>.bl (decide (i < j))
abbrev gtP:=intP (fun _ _=>true) fun i j=>.bl (decide (j < i))
def negP (C:Cs)(x:SV):Option SV:=match deref C x with
 | some (.int i)=>some (.v (.int (-i)))
 | _=>none
def mNeg (f:4e7):PSt->M SV:=fun ρ=>bnd (f ρ) fun x=>opM fun C=>negP C x
theorem Zdb:L2ok X.K (rI0 fun i j=>.bl (decide (i < j))) ltP:=int_ok0 fun _ _ _ _=>repBl
theorem gt_ok:L2ok X.K (rI0 fun i j=>.bl (decide (j < i))) gtP:=int_ok0 fun _ _ _ _=>repBl
def scP:PV->PV->Option Bool
 | .non,.non=>some true | .non,.int _=>some false | .int _,.non=>some false | .non,.bl _=>some false | .bl _,.non=>some false | .non,.str _=>some false | .str _,.non=>some false
 | .int i,.int j=>some (decide (i=j)) | .bl i,.bl j=>some (decide (i=j)) | .str i,.str j=>some (decide (i=j))
 | .int _,.str _=>some false | .str _,.int _=>some false | .bl _,.str _=>some false | .str _,.bl _=>some false
 | _,_=>none
def eqP (p q:PV):Option PV:=(scP p q).map .bl
def neP (p q:PV):Option PV:=(scP p q).map fun b=>.bl (!b)
theorem sc_ok {K:W.Frag}{ι:4e3}{H:Hp}{p q:PV}{vx vy:V}{b:Bool}(lx:Lies K ι H p vx)(ly:Lies K ι H q vy)(e:scP p q=some b):scal vx vy=true/\decide (vx=vy)=b:=by
  unfold scP at e
  split at e<;>first
    | (cases e;cases lx;cases ly;exact ⟨rfl,by simp⟩)
    | cases e
theorem ZdA:L2ok X.K rEq eqP:=by
 sleep 8
 unfold eqP at e
 cases hb:scP p q with
 | none=>rw[hb] at e;cases e
 | some b=>
  rw[hb] at e;cases e
  obtain ⟨h1,h2⟩:=sc_ok lx ly hb
  exact ⟨h1,by rw[h2];exact k _ H .refl cr repBl⟩
theorem ne_ok:L2ok X.K rNe neP:=by
 sleep 8
 unfold neP at e
 cases hb:scP p q with
 | none=>rw[hb] at e;cases e
 | some b=>
  rw[hb] at e;cases e
  obtain ⟨h1,h2⟩:=sc_ok lx ly hb
  exact ⟨h1,by rw[h2];exact k _ H .refl cr repBl⟩
def ixP:PV->PV->Option PV
 | .lst xs,.int i=>atI xs i
 | .tup xs,.int i=>atI xs i
 | .str z,.int i=>(atI z.cps.toList i).map fun c=>.str ⟨#[c]⟩
 | _,_=>none
theorem atI_rep {K:W.Frag}{ι:4e3}{H:Hp}{ps:List PV}{vs:List V}{i:Int}{z:PV}(r:Reps K ι H ps vs)(e:atI ps i=some z):∃v,atI vs i=some v/\Rep K ι H z v:=by
 unfold atI at e ⊢
 rw[←r.length]
 cases h:ixN ps.length i with
 | none=>rw[h] at e;cases e
 | some j=>rw[h] at e;exact r.get e
theorem ix_ok:L2ok X.K (rIx X.K) ixP:=by
 sleep 8
 unfold ixP at e
 split at e
 ·obtain ⟨a,vs,rfl,h1,r1⟩:=liesL lx
  cases ly
  obtain ⟨v,e1,r⟩:=atI_rep r1 e
  exact .inl ⟨a,vs,_,v,rfl,rfl,h1,e1,k v H .refl cr r⟩
 ·obtain ⟨a,vs,rfl,h1,r1⟩:=liesT lx
  cases ly
  obtain ⟨v,e1,r⟩:=atI_rep r1 e
  exact .inr (.inl ⟨a,vs,_,v,rfl,rfl,h1.sq,e1,k v H .refl cr r⟩)
 ·obtain ⟨rfl,hz⟩:=liesS lx
  cases ly
  rename_i z' i
  cases hc:atI z'.cps.toList i with
  | none=>rw[hc] at e;cases e
  | some c=>
   rw[hc] at e;cases e
   exact .inr (.inr ⟨_,_,c,rfl,rfl,hz,hc,k _ H .refl cr (repS (by show 1<=Yu;rw[YS];decide))⟩)
 ·cases e
def tyN:PV->Option String
 | .non=>some "NoneType"
 | .bl _=>some "bool"
 | .int _=>some "int"
 | .str _=>some "str"
 | .tup _=>some "tuple"
 | .lst _=>some "list"
 | .dct _ _=>some "dict"
 | _=>none
def isiP (p:PV)(n:String):Option Bool:=match tyN p with
 | none=>none
 | some t=>if n="int" then some (t=="int"||t=="bool") else if n="str"\/n="bool"\/n="tuple"\/n="list"\/n="dict" then some (t==n) else none
theorem kit_ok {K:W.Frag}{t n:String}{b:Bool}(ht:t="NoneType"\/t="bool"\/t="int"\/t="str"\/t="tuple"\/t="list"\/t="dict")(hn:n="int"\/n="str"\/n="bool"\/n="tuple"\/n="list"\/n="dict")
  (e:(if n="int" then some (t=="int"||t=="bool") else if n="str"\/n="bool"\/n="tuple"\/n="list"\/n="dict" then some (t==n) else none)=some b):W.kitOne K (.type t) (.type n)=some b:=by
 rcases ht with rfl | rfl | rfl | rfl | rfl | rfl | rfl<;>rcases hn with rfl | rfl | rfl | rfl | rfl | rfl<;>(simp at e;subst e;rfl)
end
inductive LiesAll (K:W.Frag)(ι:List Addr)(H:Hp):List PV->List V->Prop
 | nil:LiesAll K ι H [] []
 | cons {p:PV} {v:V} {ps:List PV} {vs:List V} (h:Lies K ι H p v) (t:LiesAll K ι H ps vs):LiesAll K ι H (p::ps) (v::vs)
def derefs (C:Cs):List SV->Option 14e9
 | []=>some []
 | x::xs=>match deref C x,derefs C xs with
  | some p,some ps=>some (p::ps)
  | _,_=>none
theorem Zdp {K:W.Frag}{ι:4e3}{H:Hp}{C:Cs}(cr:12e3):∀{xs:List SV} {ps:List PV} {vs:List V},RepSs K ι H xs vs->derefs C xs=some ps->LiesAll K ι H ps vs
 | [],ps,vs,r,e=>by cases e;rw[show vs=[] from r];exact .nil
 | x::xs,ps,vs,r,e=>by
  obtain ⟨v,w,rfl,h1,h2⟩:=r
  unfold derefs at e
  split at e
  ·rename_i p qs hp hq
   cases e
   exact .cons (h1.lies cr hp) (Zdp cr h2 hq)
  ·cases e
def g1 (h:List PV->Option PV):Cs->List SV->Option SV:=fun C xs=>match derefs C xs with
 | some ps=>(h ps).map .v
 | none=>none
def L1ok (K:W.Frag)(r:14e3)(h:List PV->Option PV):Prop:=
 ∀(ι:4e3) (H:Hp) (C:Cs) (ps:List PV) (vs:List V) (z:PV) (Q:VK),CR K ι H C->LiesAll K ι H ps vs->h ps=some z->(∀v H',Fr ι H H'->CR K ι H' C->Rep K ι H' z v->Q v H')->r vs H Q
theorem L1ok.c {K:W.Frag}{r:14e3}{h:List PV->Option PV}(k:L1ok K r h):C1ok K r (g1 h):=by
 intro ι H C xs vs z Q cr rs e q
 unfold g1 at e
 cases hd:derefs C xs with
 | none=>rw[hd] at e;cases e
 | some ps=>
  rw[hd] at e
  cases hz:h ps with
  | none=>simp[hz] at e
  | some z2=>
   simp[hz] at e
   subst e
   exact k ι H C ps vs z2 Q cr (Zdp cr rs hd) hz q
section
variable {X:Cx}{a b e c o:Expr}{es:6e1}{fa fb fc fo:4e7}{fs:2e8}{pos p apos cpos:Pos}{x:Str}
def TyV (K:W.Frag)(H:Hp)(x:V)(t:String):Prop:=match x with
 | .non=>t="NoneType"
 | .bl _=>t="bool"
 | .int _=>t="int"
 | .str _=>t="str"
 | .ref a=>(t="tuple"/\∃vs,SqT K H a vs)\/(t="list"/\∃vs,SqL K H a vs)\/(t="dict"/\∃kvs,H a=some (.dK kvs))
 | _=>False
theorem call_isi:CallR X (.builtin "isinstance") (fun xs H Q=>∃x n t b,xs=[x,.ty n]/\TyV X.K H x t/\W.kitOne X.K (.type t) (.type n)=some b/\Q (.bl b) H):=by
 sleep 21
 obtain ⟨x,n,t,b,rfl,ty,e,q⟩:=h
 obtain ⟨u,v,rfl,ru,rv⟩:=Vals.two r
 cases (show v=Wo n from rv)
 have fin:∀tk,EP X pins σ Q (.bool b) { s with toks:=tk }:=fun tk=>⟨.bl b,H,I.tok tk,rfl,q⟩
 cases x with
 | non=>cases (show t="NoneType" from ty);exact ZbM I ru (TyOf.non) e fin
 | bl y=>cases (show t="bool" from ty);exact ZbM I ru (TyOf.bl y) e fin
 | int y=>cases (show t="int" from ty);exact ZbM I ru (TyOf.int y) e fin
 | str y=>cases (show t="str" from ty);exact ZbM I ru (TyOf.str y) e fin
 | ref a=>
  cases (show u=YE a from ru)
  rcases (show _ from ty) with ⟨rfl,vs,h⟩ | ⟨rfl,vs,h⟩ | ⟨rfl,kvs,h⟩
  ·obtain ⟨its,_,⟨o,h1,h2,_⟩,_⟩:=I.tuple h
   exact WE W.kitx_tuple I.kIn ⟨o,h1,h2⟩ e (fun z=>nomatch z) fin
  ·obtain ⟨its,_,⟨o,n,h1,h2,_⟩,_⟩:=I.list h
   exact WE W.kitx_list I.kIn ⟨o,h1,h2⟩ e (fun z=>nomatch z) fin
  ·exact ZbM I ru (TyOf.dK h) e fin
 | _=>exact (show False from ty).elim
def isiH:List PV->Option PV
 | [p,.ty n]=>(isiP p n).map .bl
 | _=>none
theorem isi_ok:L1ok X.K (fun xs H Q=>∃x n t b,xs=[x,.ty n]/\TyV X.K H x t/\W.kitOne X.K (.type t) (.type n)=some b/\Q (.bl b) H) isiH:=by
 intro ι H C ps vs z Q cr ls e k
 unfold isiH at e
 split at e
 ·rename_i p n
  cases ls with
  | cons l1 ls=>cases ls with
   | cons l2 ls=>
    cases ls
    cases l2
    cases hb:isiP p n with
    | none=>rw[hb] at e;cases e
    | some b=>
     rw[hb] at e;cases e
     unfold isiP at hb
     cases ht:tyN p with
     | none=>rw[ht] at hb;cases hb
     | some t=>
      rw[ht] at hb
      dsimp only at hb
      have hn:n="int"\/n="str"\/n="bool"\/n="tuple"\/n="list"\/n="dict":=by
       by_cases h1:n="int"
       ·exact .inl h1
       ·rw[if_neg h1] at hb
        by_cases h2:n="str"\/n="bool"\/n="tuple"\/n="list"\/n="dict"
        ·exact .inr h2
        ·rw[if_neg h2] at hb;cases hb
      refine ⟨_,n,t,b,rfl,?_,kit_ok ?_ hn hb,k _ H .refl cr repBl⟩
      ·cases l1<;>(unfold tyN at ht;first | (cases ht;rfl) | (cases ht;exact .inl ⟨rfl,_,TpR.sq (by assumption)⟩) | (cases ht;exact .inr (.inl ⟨rfl,_,by assumption⟩)) | (cases ht;exact .inr (.inr ⟨rfl,_,by assumption⟩)) | cases ht)
      ·cases p<;>(unfold tyN at ht;first | (cases ht;simp) | cases ht)
 ·cases e
def lenH:List PV->Option PV
 | [.str z]=>some (.int z.length)
 | [.lst xs]=>some (.int xs.length)
 | [.tup xs]=>some (.int xs.length)
 | _=>none
theorem len_ok:L1ok X.K (fun xs H Q=>∃x n,xs=[x]/\LenV X.K x H n/\Q (.int n) H) lenH:=by
 intro ι H C ps vs z Q cr ls e k
 unfold lenH at e
 split at e
 ·cases e;cases ls with
  | cons l t=>cases t;obtain ⟨rfl,hz⟩:=liesS l;exact ⟨_,_,rfl,⟨hz,rfl⟩,k _ H .refl cr repI⟩
 ·cases e;cases ls with
  | cons l t=>cases t;obtain ⟨a,ws,rfl,h1,r1⟩:=liesL l;exact ⟨_,_,rfl,.inl ⟨ws,h1,r1.length⟩,k _ H .refl cr repI⟩
 ·cases e;cases ls with
  | cons l t=>cases t;obtain ⟨a,ws,rfl,h1,r1⟩:=liesT l;exact ⟨_,_,rfl,.inr ⟨ws,h1.sq,r1.length⟩,k _ H .refl cr repI⟩
 ·cases e
def maxH:List PV->Option PV
 | [.int i,.int j]=>some (.int (if j > i then j else i))
 | _=>none
def minH:List PV->Option PV
 | [.int i,.int j]=>some (.int (if j < i then j else i))
 | _=>none
theorem max_ok:L1ok X.K (fun xs H Q=>∃i j,xs=[.int i,.int j]/\Q (.int (if j > i then j else i)) H) maxH:=by
 intro ι H C ps vs z Q cr ls e k
 unfold maxH at e
 split at e
 ·cases e;cases ls with
  | cons l t=>cases t with
   | cons l2 t=>cases t;cases l;cases l2;exact ⟨_,_,rfl,k _ H .refl cr repI⟩
 ·cases e
theorem min_ok:L1ok X.K (fun xs H Q=>∃i j,xs=[.int i,.int j]/\Q (.int (if j < i then j else i)) H) minH:=by
 intro ι H C ps vs z Q cr ls e k
 unfold minH at e
 split at e
 ·cases e;cases ls with
  | cons l t=>cases t with
   | cons l2 t=>cases t;cases l;cases l2;exact ⟨_,_,rfl,k _ H .refl cr repI⟩
 ·cases e
def intH:List PV->Option PV
 | [.int i]=>some (.int i)
 | [.bl k]=>some (.int (if k then 1 else 0))
 | _=>none
theorem intc_ok:L1ok X.K (fun xs H Q=>(∃i,xs=[.int i]/\Q (.int i) H)\/∃k,xs=[.bl k]/\Q (.int (if k then 1 else 0)) H) intH:=by
 intro ι H C ps vs z Q cr ls e k
 unfold intH at e
 split at e
 ·cases e;cases ls with
  | cons l t=>cases t;cases l;exact .inl ⟨_,rfl,k _ H .refl cr repI⟩
 ·cases e;cases ls with
  | cons l t=>cases t;cases l;exact .inr ⟨_,rfl,k _ H .refl cr repI⟩
 ·cases e
def tupH:List PV->Option PV
 | [.lst xs]=>some (.tup xs)
 | [.tup xs]=>some (.tup xs)
 | _=>none
theorem tup_ok:L1ok X.K (fun xs H Q=>∃p ys,xs=[.ref p]/\((SqL X.K H p ys/\∀l,H l=none->Q (.ref l) (upd H l (.tup ys)))\/(SqT X.K H p ys/\Q (.ref p) H))) tupH:=by
 intro ι H C ps vs z Q cr ls e k
 unfold tupH at e
 split at e
 ·cases e;cases ls with
  | cons l t=>cases t;obtain ⟨a,ws,rfl,h1,r1⟩:=liesL l;exact ⟨a,ws,rfl,.inl ⟨h1,fun q hq=>k _ _ (Fr.new hq) (cr.new hq) (Zc9 hq r1)⟩⟩
 ·cases e;cases ls with
  | cons l t=>cases t;obtain ⟨a,ws,rfl,h1,r1⟩:=liesT l;exact ⟨a,ws,rfl,.inr ⟨h1.sq,k _ H .refl cr (by unfold Rep;exact ⟨a,ws,rfl,h1,r1⟩)⟩⟩
 ·cases e
def listH (C:Cs):List SV->Option 14e9
 | [x]=>match deref C x with
  | some (.lst xs)=>some xs
  | some (.tup xs)=>some xs
  | _=>none
 | _=>none
def mList (fs:2e8):PSt->M 14e9:=fun ρ=>bnd (fs ρ) fun xs=>opM fun C=>listH C xs
end
section
variable {X:Cx}{a b e c o i:Expr}{es:6e1}{fa fb fc fo fi fv:4e7}{fs:2e8}{pos p apos cpos:Pos}{x:Str}
def isLst (x:SV):M Unit:=fun C=>match x with
 | .c k=>match C[k]? with
  | some (.lst _)=>some ((),C)
  | _=>none
 | _=>none
theorem ZdK {x:SV}{C C2:Cs}(h:isLst x C=some ((),C2)):C2=C/\∃k ps,x=.c k/\C[k]? = some 8e5:=by
 unfold isLst at h
 split at h
 ·split at h
  ·rename_i k _ ps e;cases h;exact ⟨rfl,k,ps,rfl,e⟩
  ·cases h
 ·cases h
def appC (x:SV)(ys:List SV):M SV:=fun C=>match x,ys with
 | .c k,[.v p]=>match C[k]? with
  | some (.lst ps)=>if ps.length < 100000 then some (.v .non,C.set k (.lst (ps++[p]))) else none
  | _=>none
 | _,_=>none
theorem appC_some {x:SV}{ys:List SV}{C C2:Cs}{r:SV}(h:appC x ys C=some (r,C2)):∃k p ps,x=.c k/\ys=[.v p]/\C[k]? = some 8e5/\ps.length < 100000/\r=.v .non/\C2=C.set k (.lst (ps++[p])):=by
 unfold appC at h
 split at h
 ·split at h
  ·split at h
   ·cases h;exact ⟨_,_,_,rfl,rfl,by assumption,by assumption,rfl,rfl⟩
   ·cases h
  ·cases h
 ·cases h
def mApp (fo:4e7)(fs:2e8):PSt->M SV:=fun ρ=>bnd (fo ρ) fun x=>bnd (isLst x) fun _=>bnd (fs ρ) fun ys=>appC x ys
theorem Zcn {K:W.Frag}{ι:4e3}{H:Hp}{C:Cs}{k:Nat}{a:Addr}{ps:List PV}(cr:12e3)(hk:ι[k]? = some a)(hc:C[k]? = some 8e5):∃vs,H a=some (.lst vs)/\Reps K ι H ps vs:=cr.ok k a _ hk hc
theorem cr_set {K:W.Frag}{ι:4e3}{H:Hp}{C:Cs}{k:Nat}{a:Addr}{ps:List PV}{vs:List V}(cr:12e3)(hk:ι[k]? = some a)(r:Reps K ι H ps vs):CR K ι (upd H a (.lst vs)) (C.set k 8e5)/\Fr ι H (upd H a (.lst vs)):=by
 have fr:Fr ι H (upd H a (.lst vs)):=fun b u n e=>by
  rw[Zaw (fun z=>n (by rw[z];exact YK hk))];exact e
 exact ⟨cr.put hk ⟨vs,ZaO,Reps.mono cr fr _ _ r⟩,fr⟩
def setC (v o i:SV)(ρ:PSt):M PF:=fun C=>match o,i,v with
 | .c k,.v (.int n),.v p=>match C[k]? with
  | some (.lst ps)=>match ixN ps.length n with
   | some j=>some (.nx ρ,C.set k (.lst (ps.set j p)))
   | none=>none
  | _=>none
 | _,_,_=>none
theorem setC_some {v o i:SV}{ρ:PSt}{C C2:Cs}{fl:PF}(h:setC v o i ρ C=some (fl,C2)):∃k n p ps j,o=.c k/\i=.v (.int n)/\v=.v p/\C[k]? = some 8e5/\ixN ps.length n=some j/\fl=.nx ρ/\C2=C.set k (.lst (ps.set j p)):=by
 unfold setC at h
 split at h
 ·split at h
  ·split at h
   ·cases h;exact ⟨_,_,_,_,_,rfl,rfl,rfl,by assumption,by assumption,rfl,rfl⟩
   ·cases h
  ·cases h
 ·cases h
def mSetIx (fv fo fi:4e7):PSt->M PF:=fun ρ=>bnd (fv ρ) fun v=>bnd (fo ρ) fun o=>bnd (fi ρ) fun i=>setC v o i ρ
def itemsP:SV->Option 14e9
 | .v (.lst xs)=>some xs
 | .v (.tup xs)=>some xs
 | .v (.str z)=>some (z.cps.toList.map fun c=>.str ⟨#[c]⟩)
 | _=>none
def mItems (f:4e7):PSt->M 14e9:=fun ρ=>bnd (f ρ) fun x=>opM fun _=>itemsP x
theorem iter_list {K:W.Frag}{ι:4e3}{H:Hp}{C:Cs}{a:Addr}{xs:List PV}{vs:List V}(cr:12e3)(h:LsR K ι H a vs)(r:Reps K ι H xs vs):Iter K ι H xs (Itl K a):=by
 have keep:∀ι2 H2,Ex ι ι2 H H2->SqL K H2 a vs:=fun ι2 H2 x=>by
  rcases h with ⟨n,q | ⟨o,q⟩⟩ | q
  ·exact .inl (.inl (x.out _ _ n q).2)
  ·exact .inl (.inr ⟨o,(x.out _ _ n q).2⟩)
  ·exact .inr q
 refine ⟨fun ι2 H2 C2 x c i hi=>?_,fun ι2 H2 C2 x c i v H3 hi y=>?_,fun ι2 H2 C2 x c=>⟨vs,keep ι2 H2 x,by rw[r.length];exact Yh _⟩⟩
 ·obtain ⟨v,e,_⟩:=r.get (Yb hi)
  exact ⟨vs,v,keep ι2 H2 x,e⟩
 ·obtain ⟨rfl,y⟩:=y
  obtain ⟨p,hp,rp⟩:=r.get' (y vs (keep ι2 _ x))
  exact ⟨fun b o e=>e,p,hp,Rep.tr cr x.out p v rp⟩
theorem iter_tup {K:W.Frag}{ι:4e3}{H:Hp}{C:Cs}{a:Addr}{xs:List PV}{vs:List V}(cr:12e3)(h:SqT K H a vs)(r:Reps K ι H xs vs):Iter K ι H xs (Itt K a):=by
 have keep:∀ι2 H2,Ex ι ι2 H H2->SqT K H2 a vs:=fun ι2 H2 x=>by
  rcases h with (q | ⟨o,q⟩) | q
  ·exact .inl (.inl (x.out _ _ (cr.notup q (fun _ e=>nomatch e) fun _ e=>nomatch e) q).2)
  ·exact .inl (.inr ⟨o,(x.out _ _ (cr.notup q (fun _ e=>nomatch e) fun _ e=>nomatch e) q).2⟩)
  ·exact .inr q
 refine ⟨fun ι2 H2 C2 x c i hi=>?_,fun ι2 H2 C2 x c i v H3 hi y=>?_,fun ι2 H2 C2 x c=>⟨vs,keep ι2 H2 x,by rw[r.length];exact Yh _⟩⟩
 ·obtain ⟨v,e,_⟩:=r.get (Yb hi)
  exact ⟨vs,v,keep ι2 H2 x,e⟩
 ·obtain ⟨rfl,y⟩:=y
  obtain ⟨p,hp,rp⟩:=r.get' (y vs (keep ι2 _ x))
  exact ⟨fun b o e=>e,p,hp,Rep.tr cr x.out p v rp⟩
theorem iter_str {K:W.Frag}{ι:4e3}{H:Hp}{z:Str}:Iter K ι H (z.cps.toList.map fun c=>.str ⟨#[c]⟩) (Its z):=by
 refine ⟨fun ι2 H2 C2 x c i hi=>by show i < z.cps.size;simpa using hi,fun ι2 H2 C2 x c i v H3 hi y=>?_,fun ι2 H2 C2 x c=>by show _=_;simp⟩
 obtain ⟨rfl,d,hd,rfl⟩:=y
 refine ⟨fun b o e=>e,.str ⟨#[d]⟩,by simp[hd],?_⟩
 exact repS (by show 1<=Yu;rw[YS];decide)
theorem ZdJ {K:W.Frag}{ι:4e3}{H:Hp}{lo:Int}{n:Nat}:Iter K ι H ((Yi n).map fun (k:Nat)=>.int (lo + k)) (Itr lo n):=by
 refine ⟨fun ι2 H2 C2 x c i hi=>by show i < n;simpa using hi,fun ι2 H2 C2 x c i v H3 hi y=>?_,fun ι2 H2 C2 x c=>by show n<=_;simp⟩
 obtain ⟨rfl,rfl⟩:=y
 have hi':i < n:=by simpa using hi
 exact ⟨fun b o e=>e,.int (lo + i),by simp[hi'],repI⟩
variable {tg l:Expr}
def rng1P:List SV->Option 14e9
 | [.v (.int j)]=>if -1000000<=j/\j<=1000000 then some ((Yi j.toNat).map fun (k:Nat)=>.int (0 + k)) else none
 | _=>none
def rng2P:List SV->Option 14e9
 | [.v (.int i),.v (.int j)]=>if (-1000000<=i/\i<=1000000)/\(-1000000<=j/\j<=1000000) then some ((Yi (j - i).toNat).map fun (k:Nat)=>.int (i + k)) else none
 | _=>none
def mRange1 (fs:2e8):PSt->M 14e9:=fun ρ=>bnd (fs ρ) fun xs=>opM fun _=>rng1P xs
def mRange2 (fs:2e8):PSt->M 14e9:=fun ρ=>bnd (fs ρ) fun xs=>opM fun _=>rng2P xs
theorem rng1_some {xs:List SV}{ys:List PV}(h:rng1P xs=some ys):∃j,xs=[.v (.int j)]/\(-1000000<=j/\j<=1000000)/\ys=(Yi j.toNat).map fun (k:Nat)=>.int (0 + k):=by
 unfold rng1P at h
 split at h
 ·split at h
  ·cases h;exact ⟨_,rfl,by assumption,rfl⟩
  ·cases h
 ·cases h
theorem rng2_some {xs:List SV}{ys:List PV}(h:rng2P xs=some ys):∃i j,xs=[.v (.int i),.v (.int j)]/\((-1000000<=i/\i<=1000000)/\(-1000000<=j/\j<=1000000))/\ys=(Yi (j - i).toNat).map fun (k:Nat)=>.int (i + k):=by
 unfold rng2P at h
 split at h
 ·split at h
  ·cases h;exact ⟨_,_,rfl,by assumption,rfl⟩
  ·cases h
 ·cases h
end
section
variable {prog:YD}{w:World}{A:Around}{E:1e7}{s:Shared}
theorem Zb1 {t sl:Addr}{items:Array Value}{vl vu:Value}{lo hi:Option Int}{Q:1e7}(ht:IsTup s.heap t items)(hs:s.heap.IsSliceOf sl vl vu .none)(pl:IsPart vl lo)(pu:IsPart vu hi)
  (hw:HT.sIx items.size 0 lo=0/\HT.sIx items.size items.size hi=items.size) (h:Q (.ref t) s):wpAny 3e2 A (UI (.ref t) (.ref sl)) Q E s:=by
 obtain ⟨os,hos,hcs,hds⟩:=id hs
 have hTs:s.TypeIs (.ref sl) "slice":=⟨os,hos,hcs⟩
 unfold UI
 try with_reducible refine Xk ?_
 first | refine Ya (Yd ?_) | skip
 refine Ya (wpAny_sequenceKey ht.typeIs 1e6 ?_)
 refine Ya (Xz (name:=WQ "__getitem__") ht.typeIs Xn
  (Xc Xn ht.typeIs entry_tuple_getitem ?_ (args_tuple_getitem _ _)))
 show wpAny _ _ (VT (.ref t) >>= _) _ _ s
 refine Ya (tupleItemsOf_ ht ?_)
 refine Ya (Vd hTs ?_)
 rw[if_pos 1e6]
 refine Ya (HT.sliceApplied_gen hs pl pu ?_)
 have hyes:(((HT.sIx items.size 0 lo:Nat):Int)==0&&(1:Int)==1&&(HT.sIx items.size items.size hi - HT.sIx items.size 0 lo)==items.size)=true:=by
  rw[hw.1,hw.2];simp
 show wpAny _ _ (if (((HT.sIx items.size 0 lo:Nat):Int)==0&&(1:Int)==1&&(HT.sIx items.size items.size hi - HT.sIx items.size 0 lo)==items.size)=true then _ else _) _ _ s
 rw[if_pos hyes]
 unfold Builtin.Tuple.tupleIsExact
 refine Ya (Ya (Vd ht.typeIs (Yd ?_)))
 rw[if_pos 1e6]
 refine Ya (wpAny_rule ?_)
 exact Ya (Yd (Yd ⟨_,rfl,Yd h⟩))
end
def rSlTW (K:W.Frag):V->Option Int->Option Int->Hp->VK->Prop:=fun x lo hi H Q=>∃a xs,x=.ref a/\SqT K H a xs/\(HT.sIx xs.length 0 lo=0/\HT.sIx xs.length xs.length hi=xs.length)/\Q (.ref a) H
def tMO (K:W.Frag)(f:PSt->M (Option Int)):TO:=fun σ H Q=>∃ι ρ C r C',SR K ι H ρ σ C/\f ρ C=some (r,C')/\∀H',Fr ι H H'->CR K ι H' C'->Q r H'
def OM (X:Cx)(e:Option Expr)(f:PSt->M (Option Int)):Prop:=PO X e (tMO X.K f)
def oNo:PSt->M (Option Int):=fun _=>ret none
def intD (C:Cs)(x:SV):Option (Option Int):=match deref C x with
 | some (.int i)=>some (some i)
 | _=>none
def oPart (f:4e7):PSt->M (Option Int):=fun ρ=>bnd (f ρ) fun x=>opM fun C=>intD C x
def cutP (xs:List PV)(lo hi:Option Int):List PV:=(xs.drop (HT.sIx xs.length 0 lo)).take (HT.sIx xs.length xs.length hi - HT.sIx xs.length 0 lo)
def sliceP (lo hi:Option Int):PV->Option PV
 | .lst xs=>some (.lst (cutP xs lo hi))
 | .tup xs=>some (.tup (cutP xs lo hi))
 | _=>none
def sliceD (C:Cs)(x:SV)(lo hi:Option Int):Option SV:=match deref C x with
 | some p=>(sliceP lo hi p).map .v
 | none=>none
def mSlice (f:4e7)(l h:PSt->M (Option Int)):PSt->M SV:=fun ρ=>bnd (f ρ) fun x=>bnd (l ρ) fun lo=>bnd (h ρ) fun hi=>opM fun C=>sliceD C x lo hi
theorem reps_cut {K:W.Frag}{ι:4e3}{H:Hp}{ps:List PV}{vs:List V}(r:Reps K ι H ps vs)(lo hi:Option Int):Reps K ι H (cutP ps lo hi) (cutV vs lo hi):=by
 unfold cutP cutV
 rw[r.length]
 exact (r.drop _).take _
theorem sliceD_some {C:Cs}{x z:SV}{lo hi:Option Int}(h:sliceD C x lo hi=some z):(∃xs,deref C x=some (.lst xs)/\z=.v (.lst (cutP xs lo hi)))\/∃xs,deref C x=some (.tup xs)/\z=.v (.tup (cutP xs lo hi)):=by
 unfold sliceD at h
 split at h
 ·rename_i p hd
  cases p with
  | lst xs=>cases h;exact .inl ⟨xs,hd,rfl⟩
  | tup xs=>cases h;exact .inr ⟨xs,hd,rfl⟩
  | _=>cases h
 ·cases h
section
variable {X:Cx}{a b e c o i:Expr}{es:6e1}{fa fb fc fo fi fv:4e7}{fs:2e8}{pos p apos cpos p2:Pos}{x:Str}{lo hi:Option Expr}{l h:PSt->M (Option Int)}
theorem PO.imp {e:Option Expr}{t t':TO}(h:PO X e t)(k:∀σ H Q,t' σ H Q->t σ H Q):PO X e t':=fun pins s σ H Q I q=>h pins s σ H Q I (k σ H Q q)
theorem sl_tupW:SlR X (rSlTW X.K):=by
 intro pins s σ H x v vl vu lo hi sl Q I rx hs pl pu h
 obtain ⟨a,xs,rfl,hx,hw,q⟩:=h
 cases rx
 obtain ⟨its,r,ht,hz⟩:=I.tuple hx
 have hlen:its.toArray.size=xs.length:=by rw[Yl];exact r.length.symm
 exact ⟨"tuple",_,Xn.lookup,ht.typeIs,Zb1 ht hs pl pu (by rw[hlen];exact hw) ⟨.ref a,H,I,rfl,q⟩⟩
theorem cut_whole {xs:List PV}{lo hi:Option Int}(h:HT.sIx xs.length 0 lo=0/\HT.sIx xs.length xs.length hi=xs.length):cutP xs lo hi=xs:=by
 unfold cutP;rw[h.1,h.2];simp
def tyP (T:String):PV->Bool
 | .str _=>T=="str"
 | .int _=>T=="int"
 | .lst _=>T=="list"
 | .dct _ _=>T=="dict"
 | .dtt _ _=>T=="dict"
 | _=>false
def isTy (T:String)(x:SV):M Unit:=fun C=>match deref C x with
 | some q=>if tyP T q then some ((),C) else none
 | none=>none
def mtD (h:PV->List PV->Option PV)(C:Cs)(x:SV)(xs:List SV):Option SV:=match deref C x,derefs C xs with
 | some q,some ps=>(h q ps).map .v
 | _,_=>none
def mMt (T:String)(h:PV->List PV->Option PV)(fo:4e7)(fs:2e8):PSt->M SV:=fun ρ=>bnd (fo ρ) fun x=>bnd (isTy T x) fun _=>bnd (fs ρ) fun xs=>opM fun C=>mtD h C x xs
end
section
variable {X:Cx}{a b e c o i:Expr}{es:6e1}{fa fb fc fo fi fv:4e7}{fs:2e8}{pos p apos cpos p2:Pos}{x:Str}
def strsP:List PV->Option (List Str)
 | []=>some []
 | .str b::r=>(strsP r).map (b::·)
 | _::_=>none
def joinH:PV->List PV->Option PV
 | .str z,[.lst xs]=>match strsP xs with
  | some ys=>if (ys.map (·.length)).sum + ys.length * z.length<=1000000 then some (.str (Txt.join z ys)) else none
  | none=>none
 | _,_=>none
def keyP:PV->Option Key
 | .int i=>some (.inl i)
 | .str z=>some (.inr z)
 | _=>none
theorem keyP_kP (k:Key):keyP (kP k)=some k:=by cases k<;>rfl
def lookP:List PV->List PV->Key->Option PV
 | k::ks,v::vs,q=>if keyP k=some q then some v else lookP ks vs q
 | _,_,_=>none
theorem look_rep {K:W.Frag}{ι:4e3}{H:Hp}{q:Key}:∀{qs:11e9} {ps:List PV} {vs:List V},qs.length=vs.length->Reps K ι H ps vs->
  (∀z,lookP (qs.map kP) ps q=some z->∃v,valV (qs.zip vs) q=some v/\Rep K ι H z v)/\(lookP (qs.map kP) ps q=none->valV (qs.zip vs) q=none)
 | [],ps,vs,hl,r=>by
  refine ⟨fun z h=>?_,fun _=>rfl⟩
  cases ps<;>cases h
 | k::qs,[],vs,hl,r=>by rw[r.inv0] at hl;cases hl
 | k::qs,p::ps,vs,hl,r=>by
  obtain ⟨v,w,rfl,h1,h2⟩:=r.inv
  have ih:=look_rep (q:=q) (qs:=qs) (ps:=ps) (vs:=w) (by simpa using hl) h2
  rw[Yq,Xh]
  unfold lookP
  rw[keyP_kP]
  by_cases h:k=q
  ·subst h
   rw[if_pos rfl,Zb2 (p:=(k,v)) rfl]
   exact ⟨fun z e=>by cases e;exact ⟨v,rfl,h1⟩,fun e=>nomatch e⟩
  ·rw[if_neg (fun e=>h (YG e)),Zb3 (p:=(k,v)) h]
   exact ih
theorem lies_key {K:W.Frag}{ι:4e3}{H:Hp}{x:PV}{v:V}{q:Key}(l:Lies K ι H x v)(h:keyP x=some q):v=kV q:=by
 cases l<;>first | (cases h;rfl) | cases h
theorem liesD {K:W.Frag}{ι:4e3}{H:Hp}{ks ps:List PV}{v:V}(l:Lies K ι H (.dct ks ps) v):∃(a:Addr) (qs:11e9) (vs:List V),v=.ref a/\ks=qs.map kP/\H a=some (.dK (qs.zip vs))/\qs.length=vs.length/\Reps K ι H ps vs:=by
 cases l;exact ⟨_,_,_,rfl,rfl,by assumption,by assumption,by assumption⟩
def rDGet:R2:=fun x y H Q=>∃a v,x=.ref a/\DGet H a y (some v)/\Q v H
theorem ix_dict (hu:X.A.units + 1 < cLine):IxR X rDGet:=by
 intro value slice pins s σ H x y v u Q I rx ry h hs
 obtain ⟨a,w,rfl,g,q⟩:=h
 cases rx
 exact tail_any (dict_typeIs I g) PySem.F.slot_dict_getitem.lookup (d_getItem hu I g ry fun w' s' I' r'=>⟨w,H,I',r',q⟩) hs
def ixQ (x y:PV):Option PV:=match x with
 | .dct ks vs=>match keyP y with
  | some q=>lookP ks vs q
  | none=>none
 | x=>ixP x y
theorem ixQ_ok:L2ok X.K (fun x y H Q=>rIx X.K x y H Q\/rDGet x y H Q) ixQ:=by
 sleep 8
 unfold ixQ at e
 split at e
 ·rename_i ks vs
  split at e
  ·rename_i key hk
   obtain ⟨a,qs,ws,rfl,rfl,hd,hl,r⟩:=liesD lx
   obtain ⟨v,hv,rv⟩:=(look_rep hl r).1 z e
   rw[lies_key ly hk]
   exact .inr ⟨a,v,rfl,by rw[←hv];exact DGet.k hd,k v H .refl cr rv⟩
  ·cases e
 ·exact .inl (ix_ok ι H C p q vx vy z Q cr lx ly e k)
theorem track {pins:2e0}{σ:St}{H:Hp}{s:Shared}{d:Addr}{ob:HO}(I:2e3)(hn:H d=none)(hd:X.s₀.heap.objs.size<=d)(hL:d≠X.env.locals)(hc:∀x c,X.env.cells.lookup x=some c->c≠d)
  (hp:∀p∈X.pn++pins,p.1≠d) (new:ObjOk X.prog X.w (upd H d ob) s.heap d ob):Inv X pins σ (upd H d ob) s:=by
 have u:=I.base
 refine ⟨I.ok,I.os,I.bare,⟨u.keep,u.slot,fun b o e q hx=>?_,u.there,fun b xs e=>?_,fun b o xs e=>?_,fun b ps e=>?_⟩,I.loc,I.cell,?_,fun x c e=>?_,fun p hp'=>?_,fun b o e=>?_,I.len⟩
 ·rw[Zaw (Yr (Yn (Yz e) hd))];exact u.free b o e q hx
 ·rw[Zaw (Zar (u.tups b xs e) hn)];exact u.tups b xs e
 ·rw[Zaw (Zar (u.frzs b o xs e) hn)];exact u.frzs b o xs e
 ·obtain ⟨more,q⟩:=u.tbls b ps e
  exact ⟨more,by rw[Zaw (Zar q hn)];exact q⟩
 ·rw[Zaw (Xx hL)];exact I.free
 ·rw[Zaw (hc x c e)];exact I.freeC x c e
 ·obtain ⟨h1,h2,h3⟩:=I.pin p hp'
  exact ⟨h1,by rw[Zaw (hp p hp')];exact h2,h3⟩
 ·by_cases hb:b=d
  ·subst hb
   rw[ZaO] at e;cases e;exact new
  ·rw[Zaw hb] at e
   exact (I.hok b o e).stay (fun _ _ _ q=>q) (fun c q=>by rw[Zaw (Zar q hn)];exact q) fun c xs q=>by rw[Zaw (Zar q hn)];exact q
def PRel:List Str->List V->List (Value×Value)->Prop
 | [],[],[]=>True
 | k::ks,v::vs,(u,w)::r=>keyIs (.inr k) u=true/\RelV v w/\PRel ks vs r
 | _,_,_=>False
def DP (X:Cx)(ks:List (Option Expr))(es:6e1)(keys:5e9)(t:TA):Prop:=
 ∀(pos:Pos) (pins:2e0) (s:Shared) (σ:St) (H:Hp) (Q:List V->Hp->Prop),Inv X pins σ H s->t σ H Q->
  wpAny 2e7 X.A (evalPairs (pairTrees ks es X.env pos)) (fun us s'=>∃vs H',Inv X pins σ H' s'/\PRel keys vs us/\Q vs H') X.xe s
def DM (X:Cx)(ks:List (Option Expr))(es:6e1)(keys:5e9)(f:2e8):Prop:=DP X ks es keys (tMA X.K f)
def mDict (keys:5e9)(fs:2e8):PSt->M SV:=fun ρ=>bnd (fs ρ) fun xs=>opM fun _=>(plain xs).map fun ps=>.v (.dct (keys.map PV.str) ps)
end
section
variable {X:Cx}{a b e c o i:Expr}{es:6e1}{fa fb fc fo fi fv:4e7}{fs:2e8}{pos p apos cpos p2:Pos}{x:Str}{d:Addr}{tab:List (Str×Addr)}
def mDict0:PSt->M SV:=fun _=>ret (.v (.dct [] []))
end
inductive ZS where
 | l (a:Addr) | t (a:Addr) | s (z:Str) (tk:Tok) (wd:Bool)
section
variable {X:Cx}{pins:2e0}{σ:St}{H:Hp}{s:Shared}
theorem turnedL {t':Nat}{h':Heap}{ch:4e3}(I:2e3)(k:∀b o,b∉ch->s.heap.get? b=some o->h'.get? b=some o)(hf:∀b∈ch,FpOk X pins H b):Inv X pins σ H { s with heap:=h',toks:=t' }:=by
 have nit:∀b u,H b=some u->b∉ch:=fun b u e z=>by rw[(hf b z).1] at e;cases e
 refine I.step (g':=s.gens) (d':=s.drawn) (ch:=ch) (fun b hb=>⟨(hf b hb).2.2.2.1,(hf b hb).2.1,(hf b hb).2.2.2.2.1,(hf b hb).2.2.2.2.2⟩) (fun b o _ _ hc e _=>k b o hc e) (fun b o _ _ hc e _=>⟨o.slots,k b o hc e⟩) (fun _ _ _ _ n=>n)
  (fun b o hc e=>⟨o,k b o hc e⟩) (fun _ _ e=>e) (fun _ _ _ e=>e) (fun b ps e=>⟨#[],by rw[e];simp⟩) (fun m hm=>?_) (fun b u e=>?_) I.bare
 ·obtain ⟨o,es,ep,ho,r⟩:=hm
  exact ⟨o,es,ep,k _ o (fun z=>(hf _ z).2.1 rfl) ho,r⟩
 ·refine (I.hok b u e).stay (fun c v hc q=>k c v ?_ q) (fun _ q=>q) fun _ _ q=>q
  rcases hc with z | z
  ·rw[z];exact nit b u e
  ·exact nit c _ z
end
mutual
def HRep (h:Heap):PV->Value->Prop
 | .non,u=>u=.none
 | .bl b,u=>u=.bool b
 | .int i,u=>∃t,u=.int i t
 | .str x,u=>∃t,u=.str x t
 | .tup ps,u=>∃(a:Addr) (us:4e9),u=.ref a/\h.IsTuple a us.toArray/\HReps h ps us
 | .lst ps,u=>∃(a:Addr) (us:4e9),u=.ref a/\h.IsList a us.toArray/\HReps h ps us
 | _,_=>False
def HReps (h:Heap):List PV->List Value->Prop
 | [],us=>us=[]
 | p::ps,us=>∃v r,us=v::r/\HRep h p v/\HReps h ps r
end
mutual
def dat:PV->Bool
 | .tup ps=>dats ps
 | .lst ps=>dats ps
 | .dct _ _=>false
 | .dtt _ _=>false
 | .fn _=>false
 | .ty _=>false
 | _=>true
def dats:List PV->Bool
 | []=>true
 | p::ps=>dat p&&dats ps
end
mutual
def dep:PV->Nat
 | .tup ps=>deps ps + 1
 | .lst ps=>deps ps + 1
 | _=>0
def deps:List PV->Nat
 | []=>0
 | p::ps=>max (dep p) (deps ps)
end
mutual
theorem Rep.heap {X:Cx}{pins:2e0}{σ:St}{H:Hp}{s:Shared}{ι:4e3}(I:2e3):∀(p:PV) {v:V} {u:Value},Rep X.K ι H p v->RelV v u->dat p=true->HRep s.heap p u
 | .non,v,u,h,r,_=>by unfold Rep at h;subst h;unfold HRep;exact r
 | .bl b,v,u,h,r,_=>by unfold Rep at h;subst h;unfold HRep;exact r
 | .int i,v,u,h,r,_=>by unfold Rep at h;subst h;unfold HRep;exact r
 | .str x,v,u,h,r,_=>by unfold Rep at h;obtain ⟨rfl,h⟩:=h;unfold HRep;exact r
 | .tup ps,v,u,h,r,d=>by
  unfold Rep at h;obtain ⟨a,vs,rfl,h,rs⟩:=h
  cases r
  obtain ⟨its,r',pl,hz⟩:=I.tuple h.sq
  unfold HRep
  unfold dat at d
  exact ⟨a,its,rfl,pl,Reps.heap I ps rs r' d⟩
 | .lst ps,v,u,h,r,d=>by
  unfold Rep at h;obtain ⟨a,vs,rfl,h,rs⟩:=h
  cases r
  obtain ⟨its,r',pl,hz⟩:=I.list h.sq
  unfold HRep
  unfold dat at d
  exact ⟨a,its,rfl,pl.isList,Reps.heap I ps rs r' d⟩
 | .dct ks ps,v,u,h,r,d=>by unfold dat at d;cases d
 | .dtt ks ps,v,u,h,r,d=>by unfold dat at d;cases d
 | .fn a,v,u,h,r,d=>by unfold dat at d;cases d
 | .ty n,v,u,h,r,d=>by unfold dat at d;cases d
theorem Reps.heap {X:Cx}{pins:2e0}{σ:St}{H:Hp}{s:Shared}{ι:4e3}(I:2e3):∀(ps:List PV) {vs:List V} {us:4e9},Reps X.K ι H ps vs->Vals vs us->dats ps=true->HReps s.heap ps us
 | [],vs,us,h,r,_=>by unfold Reps at h;subst h;cases r;unfold HReps;rfl
 | p::ps,vs,us,h,r,d=>by
  unfold Reps at h;obtain ⟨v,w,rfl,h1,h2⟩:=h
  cases r with
  | cons r1 r2=>
   unfold dats at d
   rw[Yt] at d
   unfold HReps
   exact ⟨_,_,rfl,Rep.heap I p h1 r1 d.1,Reps.heap I ps h2 r2 d.2⟩
end
theorem Lies.heap {X:Cx}{pins:2e0}{σ:St}{H:Hp}{s:Shared}{ι:4e3}(I:2e3){p:PV}{v:V}{u:Value}(l:Lies X.K ι H p v)(r:RelV v u)(d:dat p=true):HRep s.heap p u:=by
 cases l with
 | non=>unfold HRep;exact r
 | bl b=>unfold HRep;exact r
 | int i=>unfold HRep;exact r
 | str x h=>unfold HRep;exact r
 | tup h rs=>
  cases r
  obtain ⟨its,r',pl,hz⟩:=I.tuple h.sq
  unfold HRep
  unfold dat at d
  exact ⟨_,its,rfl,pl,Reps.heap I _ rs r' d⟩
 | lst h rs=>
  cases r
  obtain ⟨its,r',pl,hz⟩:=I.list h
  unfold HRep
  unfold dat at d
  exact ⟨_,its,rfl,pl.isList,Reps.heap I _ rs r' d⟩
 | dct h hl rs=>unfold dat at d;cases d
 | dtt h hl rs=>unfold dat at d;cases d
 | fn a=>unfold dat at d;cases d
 | ty n=>unfold dat at d;cases d
mutual
def eqD:PV->PV->Bool
 | .non,.non=>true
 | .bl a,.bl b=>a==b
 | .bl a,.int b=>(if a then 1 else 0)==b
 | .int a,.bl b=>a==(if b then 1 else 0)
 | .int a,.int b=>a==b
 | .str a,.str b=>a==b
 | .tup xs,.tup ys=>eqDs xs ys
 | .lst xs,.lst ys=>eqDs xs ys
 | _,_=>false
def eqDs:List PV->List PV->Bool
 | [],[]=>true
 | x::xs,y::ys=>eqD x y&&eqDs xs ys
 | _,_=>false
end
theorem Zdh {h:Heap}{a:Addr}{us vs:4e9}(h1:h.IsTuple a us.toArray)(h2:h.IsTuple a vs.toArray):us=vs:=by
 obtain ⟨o,e,_,n,d⟩:=h1
 obtain ⟨o',e',_,n',d'⟩:=h2
 rw[e] at e';cases e'
 rw[d] at d';injection d' with d1 _
 simpa using d1
theorem ZdL {h:Heap}{a:Addr}{us vs:4e9}(h1:h.IsList a us.toArray)(h2:h.IsList a vs.toArray):us=vs:=by
 obtain ⟨o,e,_,n,d⟩:=h1
 obtain ⟨o',e',_,n',d'⟩:=h2
 rw[e] at e';cases e'
 rw[d] at d';injection d' with d1 _
 simpa using d1
theorem ZcN {h:Heap}{a:Addr}{us vs:4e9}(h1:h.IsTuple a us.toArray)(h2:h.IsList a vs.toArray):False:=by
 obtain ⟨o,e,c,_⟩:=h1
 obtain ⟨o',e',c',_⟩:=h2
 rw[e] at e';cases e'
 rw[c] at c';injection c' with c';exact absurd c' (by decide)
mutual
theorem HRep.same {h:Heap}:∀(p:PV) {q:PV} {u:Value},HRep h p u->HRep h q u->eqD p q=true
 | .non,q,u,a,b=>by
  unfold HRep at a;subst a
  cases q<;>unfold HRep at b<;>first | rfl | (cases b;done) | (obtain ⟨_,e⟩:=b;cases e;done) | (obtain ⟨_,_,e,_⟩:=b;cases e;done) | exact b.elim
 | .bl x,q,u,a,b=>by
  unfold HRep at a;subst a
  cases q<;>unfold HRep at b<;>first | (cases b;done) | (cases b;unfold eqD;exact beq_self_eq_true _) | (obtain ⟨_,e⟩:=b;cases e;done) | (obtain ⟨_,_,e,_⟩:=b;cases e;done) | exact b.elim
 | .int x,q,u,a,b=>by
  unfold HRep at a;obtain ⟨t,rfl⟩:=a
  cases q<;>unfold HRep at b<;>first | (cases b;done) | (obtain ⟨_,e⟩:=b;cases e;done) | (obtain ⟨_,e⟩:=b;cases e;unfold eqD;exact beq_self_eq_true _) | (obtain ⟨_,_,e,_⟩:=b;cases e;done) | exact b.elim
 | .str x,q,u,a,b=>by
  unfold HRep at a;obtain ⟨t,rfl⟩:=a
  cases q<;>unfold HRep at b<;>first | (cases b;done) | (obtain ⟨_,e⟩:=b;cases e;done) | (obtain ⟨_,e⟩:=b;cases e;unfold eqD;exact beq_self_eq_true _) | (obtain ⟨_,_,e,_⟩:=b;cases e;done) | exact b.elim
 | .tup ps,q,u,a,b=>by
  unfold HRep at a;obtain ⟨l,us,rfl,h1,r1⟩:=a
  cases q with
  | tup qs=>
   unfold HRep at b;obtain ⟨l',vs,e,h2,r2⟩:=b
   cases e
   cases Zdh h1 h2
   unfold eqD
   exact HReps.same ps r1 r2
  | lst qs=>unfold HRep at b;obtain ⟨l',vs,e,h2,r2⟩:=b;cases e;exact (ZcN h1 h2).elim
  | _=>unfold HRep at b;first | (cases b;done) | (obtain ⟨_,e⟩:=b;cases e;done) | exact b.elim
 | .lst ps,q,u,a,b=>by
  unfold HRep at a;obtain ⟨l,us,rfl,h1,r1⟩:=a
  cases q with
  | lst qs=>
   unfold HRep at b;obtain ⟨l',vs,e,h2,r2⟩:=b
   cases e
   cases ZdL h1 h2
   unfold eqD
   exact HReps.same ps r1 r2
  | tup qs=>unfold HRep at b;obtain ⟨l',vs,e,h2,r2⟩:=b;cases e;exact (ZcN h2 h1).elim
  | _=>unfold HRep at b;first | (cases b;done) | (obtain ⟨_,e⟩:=b;cases e;done) | exact b.elim
 | .dct _ _,q,u,a,b=>by unfold HRep at a;exact a.elim
 | .dtt _ _,q,u,a,b=>by unfold HRep at a;exact a.elim
 | .fn _,q,u,a,b=>by unfold HRep at a;exact a.elim
 | .ty _,q,u,a,b=>by unfold HRep at a;exact a.elim
theorem HReps.same {h:Heap}:∀(ps:List PV) {qs:List PV} {us:4e9},HReps h ps us->HReps h qs us->eqDs ps qs=true
 | [],qs,us,a,b=>by
  unfold HReps at a;subst a
  cases qs with
  | nil=>rfl
  | cons q qs=>unfold HReps at b;obtain ⟨_,_,e,_⟩:=b;cases e
 | p::ps,qs,us,a,b=>by
  sleep 19
  cases qs with
  | nil=>unfold HReps at b;cases b
  | cons q qs=>
   unfold HReps at b;obtain ⟨v',r',e,b1,b2⟩:=b
   cases e
   unfold eqDs
   rw[HRep.same p a1 b1,HReps.same ps a2 b2];rfl
end
end Pu
namespace Pu
open PySem PySem.Spec L2 PySem.SeqAt
open PyProof.Rows hiding St Fr
theorem HReps.length {h:Heap}:∀{ps:List PV} {us:4e9},HReps h ps us->ps.length=us.length
 | [],us,a=>by unfold HReps at a;subst a;rfl
 | p::ps,us,a=>by unfold HReps at a;obtain ⟨v,r,rfl,_,b⟩:=a;rw[YX,YX,b.length]
theorem ZbU:∀(ps qs:List PV),(((Yi (min ps.length qs.length)).all fun j=>eqD (ps.getD j .non) (qs.getD j .non))&&ps.length==qs.length)=eqDs ps qs
 | [],[]=>rfl
 | [],_::_=>by unfold eqDs;simp
 | _::_,[]=>by unfold eqDs;simp
 | p::ps,q::qs=>by
  rw[eqDs,←ZbU ps qs,YX,YX,Nat.succ_min_succ,List.range_succ_eq_map,Vn,V0]
  rw[show (ps.length + 1==qs.length + 1)=(ps.length==qs.length) by simp[BEq.beq]]
  rw[Bool.and_assoc]
  rfl
theorem Zdm {ps qs:List PV}(e:ps.length=qs.length):((Yi ps.length).all fun j=>eqD (ps.getD j .non) (qs.getD j .non))=eqDs ps qs:=by
 have:=ZbU ps qs
 rw[←e,Nat.min_self,beq_self_eq_true,Bool.and_true] at this
 exact this
theorem eqDs_len:∀{ps qs:List PV},ps.length≠qs.length->eqDs ps qs=false
 | [],[],h=>absurd rfl h
 | [],_::_,_=>by unfold eqDs;rfl
 | _::_,[],_=>by unfold eqDs;rfl
 | p::ps,q::qs,h=>by unfold eqDs;rw[eqDs_len fun z=>h (by rw[YX,YX,z]),V6]
section
variable {s:Shared}
theorem RcAt.tupD {A:Around}{a b:Addr}{us vs:4e9}{ps qs:List PV}(h1:s.heap.IsTuple a us.toArray)(h2:s.heap.IsTuple b vs.toArray)(l1:ps.length=us.length)(l2:qs.length=vs.length)(hu:5e4)
  (he:17e7):RcAt A s (.ref a) (.ref b) (eqDs ps qs):=by
 have:=RcAt.tuples h1 h2 hu (e:=fun j=>eqD (ps.getD j .non) (qs.getD j .non)) (fun j z1 z2=>by simpa using he j (by simpa using z1) (by simpa using z2))
 simp only[Yl,←l1,←l2] at this
 rw[ZbU] at this;exact this
theorem RcAt.lstD {A:Around}{a b:Addr}{us vs:4e9}{ps qs:List PV}(h1:s.heap.IsList a us.toArray)(h2:s.heap.IsList b vs.toArray)(l1:ps.length=us.length)(l2:qs.length=vs.length)(hu:5e4)
  (he:17e7):RcAt A s (.ref a) (.ref b) (eqDs ps qs):=by
 by_cases e:us.length=vs.length
 ·have:=RcAt.lists h1 h2 (by simpa using e) hu (e:=fun j=>eqD (ps.getD j .non) (qs.getD j .non)) (fun j z1 z2=>by simpa using he j (by simpa using z1) (by simpa using z2))
  simp only[Yl,←l1] at this
  rw[Zdm 1e2] at this;exact this
 ·have:=RcAt.lists_lengths h1 h2 (by simpa using e) hu
  rw[eqDs_len 1e2];exact this
theorem RcNeAt.tupD {A:Around}{a b:Addr}{us vs:4e9}{ps qs:List PV}(h1:s.heap.IsTuple a us.toArray)(h2:s.heap.IsTuple b vs.toArray)(l1:ps.length=us.length)(l2:qs.length=vs.length)(hu:5e4)
  (he:17e7):RcNeAt A s (.ref a) (.ref b) (!eqDs ps qs):=by
 have:=RcNeAt.tuples h1 h2 hu (e:=fun j=>eqD (ps.getD j .non) (qs.getD j .non)) (fun j z1 z2=>by simpa using he j (by simpa using z1) (by simpa using z2))
 simp only[Yl,←l1,←l2] at this
 rw[ZbU] at this;exact this
theorem RcNeAt.lstD {A:Around}{a b:Addr}{us vs:4e9}{ps qs:List PV}(h1:s.heap.IsList a us.toArray)(h2:s.heap.IsList b vs.toArray)(l1:ps.length=us.length)(l2:qs.length=vs.length)(hu:5e4)
  (he:17e7):RcNeAt A s (.ref a) (.ref b) (!eqDs ps qs):=by
 by_cases e:us.length=vs.length
 ·have:=RcNeAt.lists h1 h2 (by simpa using e) hu (e:=fun j=>eqD (ps.getD j .non) (qs.getD j .non)) (fun j z1 z2=>by simpa using he j (by simpa using z1) (by simpa using z2))
  simp only[Yl,←l1] at this
  rw[Zdm 1e2] at this;exact this
 ·have:=RcNeAt.lists_lengths h1 h2 (by simpa using e) hu
  rw[eqDs_len 1e2];exact this
end
section
variable {s:Shared}
theorem EqAt.x_non {q:PV}{u v:Value}{A:Around}(a:HRep s.heap .non u)(b:17e3)(hu':5e4):EqAt A s u v (eqD .non q):=by
 unfold HRep at a;subst a
 cases q<;>unfold HRep at b
 ·unfold eqD;subst b;exact EqAt.same _
 ·unfold eqD;subst b;exact EqAt.none_bool _
 ·unfold eqD;obtain ⟨_,rfl⟩:=b;exact EqAt.none_int _ _
 ·unfold eqD;obtain ⟨_,rfl⟩:=b;exact EqAt.none_str _ _
 ·unfold eqD;obtain ⟨_,_,rfl,h_b,_⟩:=b;exact EqAt.none_tuple h_b hu'
 ·unfold eqD;obtain ⟨_,_,rfl,h_b,_⟩:=b;exact EqAt.none_list h_b hu'
 ·sleep 22
 ·sleep 22
 ·sleep 22
 ·sleep 22
theorem EqAt.x_bl {x:Bool}{q:PV}{u v:Value}{A:Around}(a:HRep s.heap (.bl x) u)(b:17e3)(hu':5e4):EqAt A s u v (eqD (.bl x) q):=by
 unfold HRep at a;subst a
 cases q<;>unfold HRep at b
 ·unfold eqD;subst b;exact EqAt.bool_none _
 ·unfold eqD;subst b;exact EqAt.bool_bool _ _
 ·unfold eqD;obtain ⟨_,rfl⟩:=b;exact EqAt.bool_int _ _ _
 ·unfold eqD;obtain ⟨_,rfl⟩:=b;exact EqAt.bool_str _ _ _
 ·unfold eqD;obtain ⟨_,_,rfl,h_b,_⟩:=b;exact EqAt.bool_tuple _ h_b hu'
 ·unfold eqD;obtain ⟨_,_,rfl,h_b,_⟩:=b;exact EqAt.bool_list _ h_b hu'
 ·sleep 22
 ·sleep 22
 ·sleep 22
 ·sleep 22
theorem EqAt.x_int {x:Int}{q:PV}{u v:Value}{A:Around}(a:HRep s.heap (.int x) u)(b:17e3)(hu':5e4):EqAt A s u v (eqD (.int x) q):=by
 sleep 16
 ·unfold eqD;subst b;exact EqAt.int_none _ _
 ·unfold eqD;subst b;exact EqAt.int_bool _ _ _
 ·unfold eqD;obtain ⟨_,rfl⟩:=b;exact EqAt.int_int _ _ _ _
 ·unfold eqD;obtain ⟨_,rfl⟩:=b;exact EqAt.int_str _ _ _ _
 ·unfold eqD;obtain ⟨_,_,rfl,h_b,_⟩:=b;exact EqAt.int_tuple _ _ h_b hu'
 ·unfold eqD;obtain ⟨_,_,rfl,h_b,_⟩:=b;exact EqAt.int_list _ _ h_b hu'
 ·sleep 22
 ·sleep 22
 ·sleep 22
 ·sleep 22
theorem EqAt.x_str {x:Str}{q:PV}{u v:Value}{A:Around}(a:HRep s.heap (.str x) u)(b:17e3)(hu':5e4):EqAt A s u v (eqD (.str x) q):=by
 sleep 16
 ·unfold eqD;subst b;exact EqAt.str_none _ _
 ·unfold eqD;subst b;exact EqAt.str_bool _ _ _
 ·unfold eqD;obtain ⟨_,rfl⟩:=b;exact EqAt.str_int _ _ _ _
 ·unfold eqD;obtain ⟨_,rfl⟩:=b;exact EqAt.str_str _ _ _ _
 ·unfold eqD;obtain ⟨_,_,rfl,h_b,_⟩:=b;exact EqAt.str_tuple _ _ h_b hu'
 ·unfold eqD;obtain ⟨_,_,rfl,h_b,_⟩:=b;exact EqAt.str_list _ _ h_b hu'
 ·sleep 22
 ·sleep 22
 ·sleep 22
 ·sleep 22
theorem EqAt.x_tup_non {ps:List PV}{u v:Value}{A:Around}(a:14e2)(b:HRep s.heap .non v)(hu':5e4):EqAt A s u v (eqD 9e4 .non):=by
 unfold HRep at a b;unfold eqD;obtain ⟨_,_,rfl,h_a,_⟩:=a;subst b;exact EqAt.tuple_none h_a hu'
theorem EqAt.x_tup_bl {x:Bool}{ps:List PV}{u v:Value}{A:Around}(a:14e2)(b:HRep s.heap (.bl x) v)(hu':5e4):EqAt A s u v (eqD 9e4 (.bl x)):=by
 unfold HRep at a b;unfold eqD;obtain ⟨_,_,rfl,h_a,_⟩:=a;subst b;exact EqAt.tuple_bool _ h_a hu'
theorem EqAt.x_tup_int {x:Int}{ps:List PV}{u v:Value}{A:Around}(a:14e2)(b:HRep s.heap (.int x) v)(hu':5e4):EqAt A s u v (eqD 9e4 (.int x)):=by
 unfold HRep at a b;unfold eqD;obtain ⟨_,_,rfl,h_a,_⟩:=a;obtain ⟨_,rfl⟩:=b;exact EqAt.tuple_int _ _ h_a hu'
theorem EqAt.x_tup_str {x:Str}{ps:List PV}{u v:Value}{A:Around}(a:14e2)(b:HRep s.heap (.str x) v)(hu':5e4):EqAt A s u v (eqD 9e4 (.str x)):=by
 unfold HRep at a b;unfold eqD;obtain ⟨_,_,rfl,h_a,_⟩:=a;obtain ⟨_,rfl⟩:=b;exact EqAt.tuple_str _ _ h_a hu'
theorem EqAt.x_tup_lst {x:List PV}{ps:List PV}{u v:Value}{A:Around}(a:14e2)(b:HRep s.heap (.lst x) v)(hu':5e4):EqAt A s u v (eqD 9e4 (.lst x)):=by
 unfold HRep at a b;unfold eqD;obtain ⟨_,_,rfl,h_a,_⟩:=a;obtain ⟨_,_,rfl,h_b,_⟩:=b;exact EqAt.tuple_list h_a h_b hu'
theorem EqAt.x_lst_non {ps:List PV}{u v:Value}{A:Around}(a:14e1)(b:HRep s.heap .non v)(hu':5e4):EqAt A s u v (eqD 8e5 .non):=by
 unfold HRep at a b;unfold eqD;obtain ⟨_,_,rfl,h_a,_⟩:=a;subst b;exact EqAt.list_none h_a hu'
theorem EqAt.x_lst_bl {x:Bool}{ps:List PV}{u v:Value}{A:Around}(a:14e1)(b:HRep s.heap (.bl x) v)(hu':5e4):EqAt A s u v (eqD 8e5 (.bl x)):=by
 unfold HRep at a b;unfold eqD;obtain ⟨_,_,rfl,h_a,_⟩:=a;subst b;exact EqAt.list_bool _ h_a hu'
theorem EqAt.x_lst_int {x:Int}{ps:List PV}{u v:Value}{A:Around}(a:14e1)(b:HRep s.heap (.int x) v)(hu':5e4):EqAt A s u v (eqD 8e5 (.int x)):=by
 unfold HRep at a b;unfold eqD;obtain ⟨_,_,rfl,h_a,_⟩:=a;obtain ⟨_,rfl⟩:=b;exact EqAt.list_int _ _ h_a hu'
theorem EqAt.x_lst_str {x:Str}{ps:List PV}{u v:Value}{A:Around}(a:14e1)(b:HRep s.heap (.str x) v)(hu':5e4):EqAt A s u v (eqD 8e5 (.str x)):=by
 unfold HRep at a b;unfold eqD;obtain ⟨_,_,rfl,h_a,_⟩:=a;obtain ⟨_,rfl⟩:=b;exact EqAt.list_str _ _ h_a hu'
theorem EqAt.x_lst_tup {x:List PV}{ps:List PV}{u v:Value}{A:Around}(a:14e1)(b:HRep s.heap (.tup x) v)(hu':5e4):EqAt A s u v (eqD 8e5 (.tup x)):=by
 unfold HRep at a b;unfold eqD;obtain ⟨_,_,rfl,h_a,_⟩:=a;obtain ⟨_,_,rfl,h_b,_⟩:=b;exact EqAt.list_tuple h_a h_b hu'
theorem RcAt.x_non {q:PV}{u v:Value}{A:Around}(a:HRep s.heap .non u)(b:17e3)(hu':5e4):RcAt A s u v (eqD .non q):=by
 unfold HRep at a;subst a
 cases q<;>unfold HRep at b
 ·unfold eqD;subst b;exact RcAt.none_none
 ·unfold eqD;subst b;exact RcAt.none_bool _
 ·unfold eqD;obtain ⟨_,rfl⟩:=b;exact RcAt.none_int _ _
 ·unfold eqD;obtain ⟨_,rfl⟩:=b;exact RcAt.none_str _ _
 ·unfold eqD;obtain ⟨_,_,rfl,h_b,_⟩:=b;exact RcAt.none_tuple h_b hu'
 ·unfold eqD;obtain ⟨_,_,rfl,h_b,_⟩:=b;exact RcAt.none_list h_b hu'
 ·sleep 22
 ·sleep 22
 ·sleep 22
 ·sleep 22
theorem RcAt.x_bl {x:Bool}{q:PV}{u v:Value}{A:Around}(a:HRep s.heap (.bl x) u)(b:17e3)(hu':5e4):RcAt A s u v (eqD (.bl x) q):=by
 unfold HRep at a;subst a
 cases q<;>unfold HRep at b
 ·unfold eqD;subst b;exact RcAt.bool_none _
 ·unfold eqD;subst b;exact RcAt.bool_bool _ _
 ·unfold eqD;obtain ⟨_,rfl⟩:=b;exact RcAt.bool_int _ _ _
 ·unfold eqD;obtain ⟨_,rfl⟩:=b;exact RcAt.bool_str _ _ _
 ·unfold eqD;obtain ⟨_,_,rfl,h_b,_⟩:=b;exact RcAt.bool_tuple _ h_b hu'
 ·unfold eqD;obtain ⟨_,_,rfl,h_b,_⟩:=b;exact RcAt.bool_list _ h_b hu'
 ·sleep 22
 ·sleep 22
 ·sleep 22
 ·sleep 22
theorem RcAt.x_int {x:Int}{q:PV}{u v:Value}{A:Around}(a:HRep s.heap (.int x) u)(b:17e3)(hu':5e4):RcAt A s u v (eqD (.int x) q):=by
 sleep 16
 ·unfold eqD;subst b;exact RcAt.int_none _ _
 ·unfold eqD;subst b;exact RcAt.int_bool _ _ _
 ·unfold eqD;obtain ⟨_,rfl⟩:=b;exact RcAt.int_int _ _ _ _
 ·unfold eqD;obtain ⟨_,rfl⟩:=b;exact RcAt.int_str _ _ _ _
 ·unfold eqD;obtain ⟨_,_,rfl,h_b,_⟩:=b;exact RcAt.int_tuple _ _ h_b hu'
 ·unfold eqD;obtain ⟨_,_,rfl,h_b,_⟩:=b;exact RcAt.int_list _ _ h_b hu'
 ·sleep 22
 ·sleep 22
 ·sleep 22
 ·sleep 22
theorem RcAt.x_str {x:Str}{q:PV}{u v:Value}{A:Around}(a:HRep s.heap (.str x) u)(b:17e3)(hu':5e4):RcAt A s u v (eqD (.str x) q):=by
 sleep 16
 ·unfold eqD;subst b;exact RcAt.str_none _ _
 ·unfold eqD;subst b;exact RcAt.str_bool _ _ _
 ·unfold eqD;obtain ⟨_,rfl⟩:=b;exact RcAt.str_int _ _ _ _
 ·unfold eqD;obtain ⟨_,rfl⟩:=b;exact RcAt.str_str _ _ _ _
 ·unfold eqD;obtain ⟨_,_,rfl,h_b,_⟩:=b;exact RcAt.str_tuple _ _ h_b hu'
 ·unfold eqD;obtain ⟨_,_,rfl,h_b,_⟩:=b;exact RcAt.str_list _ _ h_b hu'
 ·sleep 22
 ·sleep 22
 ·sleep 22
 ·sleep 22
theorem RcAt.x_tup_non {ps:List PV}{u v:Value}{A:Around}(a:14e2)(b:HRep s.heap .non v)(hu':5e4):RcAt A s u v (eqD 9e4 .non):=by
 unfold HRep at a b;unfold eqD;obtain ⟨_,_,rfl,h_a,_⟩:=a;subst b;exact RcAt.tuple_none h_a hu'
theorem RcAt.x_tup_bl {x:Bool}{ps:List PV}{u v:Value}{A:Around}(a:14e2)(b:HRep s.heap (.bl x) v)(hu':5e4):RcAt A s u v (eqD 9e4 (.bl x)):=by
 unfold HRep at a b;unfold eqD;obtain ⟨_,_,rfl,h_a,_⟩:=a;subst b;exact RcAt.tuple_bool _ h_a hu'
theorem RcAt.x_tup_int {x:Int}{ps:List PV}{u v:Value}{A:Around}(a:14e2)(b:HRep s.heap (.int x) v)(hu':5e4):RcAt A s u v (eqD 9e4 (.int x)):=by
 unfold HRep at a b;unfold eqD;obtain ⟨_,_,rfl,h_a,_⟩:=a;obtain ⟨_,rfl⟩:=b;exact RcAt.tuple_int _ _ h_a hu'
theorem RcAt.x_tup_str {x:Str}{ps:List PV}{u v:Value}{A:Around}(a:14e2)(b:HRep s.heap (.str x) v)(hu':5e4):RcAt A s u v (eqD 9e4 (.str x)):=by
 unfold HRep at a b;unfold eqD;obtain ⟨_,_,rfl,h_a,_⟩:=a;obtain ⟨_,rfl⟩:=b;exact RcAt.tuple_str _ _ h_a hu'
theorem RcAt.x_tup_lst {x:List PV}{ps:List PV}{u v:Value}{A:Around}(a:14e2)(b:HRep s.heap (.lst x) v)(hu':5e4):RcAt A s u v (eqD 9e4 (.lst x)):=by
 unfold HRep at a b;unfold eqD;obtain ⟨_,_,rfl,h_a,_⟩:=a;obtain ⟨_,_,rfl,h_b,_⟩:=b;exact RcAt.tuple_list h_a h_b hu'
theorem RcAt.x_lst_non {ps:List PV}{u v:Value}{A:Around}(a:14e1)(b:HRep s.heap .non v)(hu':5e4):RcAt A s u v (eqD 8e5 .non):=by
 unfold HRep at a b;unfold eqD;obtain ⟨_,_,rfl,h_a,_⟩:=a;subst b;exact RcAt.list_none h_a hu'
theorem RcAt.x_lst_bl {x:Bool}{ps:List PV}{u v:Value}{A:Around}(a:14e1)(b:HRep s.heap (.bl x) v)(hu':5e4):RcAt A s u v (eqD 8e5 (.bl x)):=by
 unfold HRep at a b;unfold eqD;obtain ⟨_,_,rfl,h_a,_⟩:=a;subst b;exact RcAt.list_bool _ h_a hu'
theorem RcAt.x_lst_int {x:Int}{ps:List PV}{u v:Value}{A:Around}(a:14e1)(b:HRep s.heap (.int x) v)(hu':5e4):RcAt A s u v (eqD 8e5 (.int x)):=by
 unfold HRep at a b;unfold eqD;obtain ⟨_,_,rfl,h_a,_⟩:=a;obtain ⟨_,rfl⟩:=b;exact RcAt.list_int _ _ h_a hu'
theorem RcAt.x_lst_str {x:Str}{ps:List PV}{u v:Value}{A:Around}(a:14e1)(b:HRep s.heap (.str x) v)(hu':5e4):RcAt A s u v (eqD 8e5 (.str x)):=by
 unfold HRep at a b;unfold eqD;obtain ⟨_,_,rfl,h_a,_⟩:=a;obtain ⟨_,rfl⟩:=b;exact RcAt.list_str _ _ h_a hu'
theorem RcAt.x_lst_tup {x:List PV}{ps:List PV}{u v:Value}{A:Around}(a:14e1)(b:HRep s.heap (.tup x) v)(hu':5e4):RcAt A s u v (eqD 8e5 (.tup x)):=by
 unfold HRep at a b;unfold eqD;obtain ⟨_,_,rfl,h_a,_⟩:=a;obtain ⟨_,_,rfl,h_b,_⟩:=b;exact RcAt.list_tuple h_a h_b hu'
theorem RcNeAt.x_non {q:PV}{u v:Value}{A:Around}(a:HRep s.heap .non u)(b:17e3)(hu':5e4):RcNeAt A s u v (!eqD .non q):=by
 unfold HRep at a;subst a
 cases q<;>unfold HRep at b
 ·unfold eqD;subst b;exact RcNeAt.none_none
 ·unfold eqD;subst b;exact RcNeAt.none_bool _
 ·unfold eqD;obtain ⟨_,rfl⟩:=b;exact RcNeAt.none_int _ _
 ·unfold eqD;obtain ⟨_,rfl⟩:=b;exact RcNeAt.none_str _ _
 ·unfold eqD;obtain ⟨_,_,rfl,h_b,_⟩:=b;exact RcNeAt.none_tuple h_b hu'
 ·unfold eqD;obtain ⟨_,_,rfl,h_b,_⟩:=b;exact RcNeAt.none_list h_b hu'
 ·sleep 22
 ·sleep 22
 ·sleep 22
 ·sleep 22
theorem RcNeAt.x_bl {x:Bool}{q:PV}{u v:Value}{A:Around}(a:HRep s.heap (.bl x) u)(b:17e3)(hu':5e4):RcNeAt A s u v (!eqD (.bl x) q):=by
 unfold HRep at a;subst a
 cases q<;>unfold HRep at b
 ·unfold eqD;subst b;exact RcNeAt.bool_none _
 ·unfold eqD;subst b;exact RcNeAt.bool_bool _ _
 ·unfold eqD;obtain ⟨_,rfl⟩:=b;exact RcNeAt.bool_int _ _ _
 ·unfold eqD;obtain ⟨_,rfl⟩:=b;exact RcNeAt.bool_str _ _ _
 ·unfold eqD;obtain ⟨_,_,rfl,h_b,_⟩:=b;exact RcNeAt.bool_tuple _ h_b hu'
 ·unfold eqD;obtain ⟨_,_,rfl,h_b,_⟩:=b;exact RcNeAt.bool_list _ h_b hu'
 ·sleep 22
 ·sleep 22
 ·sleep 22
 ·sleep 22
theorem RcNeAt.x_int {x:Int}{q:PV}{u v:Value}{A:Around}(a:HRep s.heap (.int x) u)(b:17e3)(hu':5e4):RcNeAt A s u v (!eqD (.int x) q):=by
 sleep 16
 ·unfold eqD;subst b;exact RcNeAt.int_none _ _
 ·unfold eqD;subst b;exact RcNeAt.int_bool _ _ _
 ·unfold eqD;obtain ⟨_,rfl⟩:=b;exact RcNeAt.int_int _ _ _ _
 ·unfold eqD;obtain ⟨_,rfl⟩:=b;exact RcNeAt.int_str _ _ _ _
 ·unfold eqD;obtain ⟨_,_,rfl,h_b,_⟩:=b;exact RcNeAt.int_tuple _ _ h_b hu'
 ·unfold eqD;obtain ⟨_,_,rfl,h_b,_⟩:=b;exact RcNeAt.int_list _ _ h_b hu'
 ·sleep 22
 ·sleep 22
 ·sleep 22
 ·sleep 22
theorem RcNeAt.x_str {x:Str}{q:PV}{u v:Value}{A:Around}(a:HRep s.heap (.str x) u)(b:17e3)(hu':5e4):RcNeAt A s u v (!eqD (.str x) q):=by
 sleep 16
 ·unfold eqD;subst b;exact RcNeAt.str_none _ _
 ·unfold eqD;subst b;exact RcNeAt.str_bool _ _ _
 ·unfold eqD;obtain ⟨_,rfl⟩:=b;exact RcNeAt.str_int _ _ _ _
 ·unfold eqD;obtain ⟨_,rfl⟩:=b;exact RcNeAt.str_str _ _ _ _
 ·unfold eqD;obtain ⟨_,_,rfl,h_b,_⟩:=b;exact RcNeAt.str_tuple _ _ h_b hu'
 ·unfold eqD;obtain ⟨_,_,rfl,h_b,_⟩:=b;exact RcNeAt.str_list _ _ h_b hu'
 ·sleep 22
 ·sleep 22
 ·sleep 22
 ·sleep 22
theorem RcNeAt.x_tup_non {ps:List PV}{u v:Value}{A:Around}(a:14e2)(b:HRep s.heap .non v)(hu':5e4):RcNeAt A s u v (!eqD 9e4 .non):=by
 unfold HRep at a b;unfold eqD;obtain ⟨_,_,rfl,h_a,_⟩:=a;subst b;exact RcNeAt.tuple_none h_a hu'
theorem RcNeAt.x_tup_bl {x:Bool}{ps:List PV}{u v:Value}{A:Around}(a:14e2)(b:HRep s.heap (.bl x) v)(hu':5e4):RcNeAt A s u v (!eqD 9e4 (.bl x)):=by
 unfold HRep at a b;unfold eqD;obtain ⟨_,_,rfl,h_a,_⟩:=a;subst b;exact RcNeAt.tuple_bool _ h_a hu'
theorem RcNeAt.x_tup_int {x:Int}{ps:List PV}{u v:Value}{A:Around}(a:14e2)(b:HRep s.heap (.int x) v)(hu':5e4):RcNeAt A s u v (!eqD 9e4 (.int x)):=by
 unfold HRep at a b;unfold eqD;obtain ⟨_,_,rfl,h_a,_⟩:=a;obtain ⟨_,rfl⟩:=b;exact RcNeAt.tuple_int _ _ h_a hu'
theorem RcNeAt.x_tup_str {x:Str}{ps:List PV}{u v:Value}{A:Around}(a:14e2)(b:HRep s.heap (.str x) v)(hu':5e4):RcNeAt A s u v (!eqD 9e4 (.str x)):=by
 unfold HRep at a b;unfold eqD;obtain ⟨_,_,rfl,h_a,_⟩:=a;obtain ⟨_,rfl⟩:=b;exact RcNeAt.tuple_str _ _ h_a hu'
theorem RcNeAt.x_tup_lst {x:List PV}{ps:List PV}{u v:Value}{A:Around}(a:14e2)(b:HRep s.heap (.lst x) v)(hu':5e4):RcNeAt A s u v (!eqD 9e4 (.lst x)):=by
 unfold HRep at a b;unfold eqD;obtain ⟨_,_,rfl,h_a,_⟩:=a;obtain ⟨_,_,rfl,h_b,_⟩:=b;exact RcNeAt.tuple_list h_a h_b hu'
theorem RcNeAt.x_lst_non {ps:List PV}{u v:Value}{A:Around}(a:14e1)(b:HRep s.heap .non v)(hu':5e4):RcNeAt A s u v (!eqD 8e5 .non):=by
 unfold HRep at a b;unfold eqD;obtain ⟨_,_,rfl,h_a,_⟩:=a;subst b;exact RcNeAt.list_none h_a hu'
theorem RcNeAt.x_lst_bl {x:Bool}{ps:List PV}{u v:Value}{A:Around}(a:14e1)(b:HRep s.heap (.bl x) v)(hu':5e4):RcNeAt A s u v (!eqD 8e5 (.bl x)):=by
 unfold HRep at a b;unfold eqD;obtain ⟨_,_,rfl,h_a,_⟩:=a;subst b;exact RcNeAt.list_bool _ h_a hu'
theorem RcNeAt.x_lst_int {x:Int}{ps:List PV}{u v:Value}{A:Around}(a:14e1)(b:HRep s.heap (.int x) v)(hu':5e4):RcNeAt A s u v (!eqD 8e5 (.int x)):=by
 unfold HRep at a b;unfold eqD;obtain ⟨_,_,rfl,h_a,_⟩:=a;obtain ⟨_,rfl⟩:=b;exact RcNeAt.list_int _ _ h_a hu'
theorem RcNeAt.x_lst_str {x:Str}{ps:List PV}{u v:Value}{A:Around}(a:14e1)(b:HRep s.heap (.str x) v)(hu':5e4):RcNeAt A s u v (!eqD 8e5 (.str x)):=by
 unfold HRep at a b;unfold eqD;obtain ⟨_,_,rfl,h_a,_⟩:=a;obtain ⟨_,rfl⟩:=b;exact RcNeAt.list_str _ _ h_a hu'
theorem RcNeAt.x_lst_tup {x:List PV}{ps:List PV}{u v:Value}{A:Around}(a:14e1)(b:HRep s.heap (.tup x) v)(hu':5e4):RcNeAt A s u v (!eqD 8e5 (.tup x)):=by
 unfold HRep at a b;unfold eqD;obtain ⟨_,_,rfl,h_a,_⟩:=a;obtain ⟨_,_,rfl,h_b,_⟩:=b;exact RcNeAt.list_tuple h_a h_b hu'
mutual
theorem HRep.eqAt:∀(p:PV) {q:PV} {u v:Value} {A:Around},HRep s.heap p u->HRep s.heap q v->A.units + dep p < cLine->EqAt A s u v (eqD p q)
 | .non,q,u,v,A,a,b,hu=>EqAt.x_non a b 1e2
 | .bl x,q,u,v,A,a,b,hu=>EqAt.x_bl a b 1e2
 | .int x,q,u,v,A,a,b,hu=>EqAt.x_int a b 1e2
 | .str x,q,u,v,A,a,b,hu=>EqAt.x_str a b 1e2
 | .tup ps,q,u,v,A,a,b,hu=>by
  have hu':A.units < cLine:=by lia
  cases q with
  | non=>exact EqAt.x_tup_non a b hu'
  | bl x=>exact EqAt.x_tup_bl a b hu'
  | int x=>exact EqAt.x_tup_int a b hu'
  | str x=>exact EqAt.x_tup_str a b hu'
  | lst x=>exact EqAt.x_tup_lst a b hu'
  | tup qs=>
   sleep 3
   by_cases e:l=l'
   ·subst e
    rw[HRep.same _ a0 b0]
    exact EqAt.same _
   ·unfold eqD
    exact .of_refs e (RcAt.tupD h1 h2 r1.length r2.length hu' 19e8)
  | dct _ _=>unfold HRep at b;exact b.elim
  | dtt _ _=>unfold HRep at b;exact b.elim
  | fn _=>unfold HRep at b;exact b.elim
  | ty _=>unfold HRep at b;exact b.elim
 | .lst ps,q,u,v,A,a,b,hu=>by
  have hu':A.units < cLine:=by lia
  cases q with
  | non=>exact EqAt.x_lst_non a b hu'
  | bl x=>exact EqAt.x_lst_bl a b hu'
  | int x=>exact EqAt.x_lst_int a b hu'
  | str x=>exact EqAt.x_lst_str a b hu'
  | tup x=>exact EqAt.x_lst_tup a b hu'
  | lst qs=>
   sleep 3
   by_cases e:l=l'
   ·subst e
    rw[HRep.same _ a0 b0]
    exact EqAt.same _
   ·unfold eqD
    exact .of_refs e (RcAt.lstD h1 h2 r1.length r2.length hu' 19e8)
  | dct _ _=>unfold HRep at b;exact b.elim
  | dtt _ _=>unfold HRep at b;exact b.elim
  | fn _=>unfold HRep at b;exact b.elim
  | ty _=>unfold HRep at b;exact b.elim
 | .dct _ _,q,u,v,A,a,b,hu=>by unfold HRep at a;exact a.elim
 | .dtt _ _,q,u,v,A,a,b,hu=>by unfold HRep at a;exact a.elim
 | .fn _,q,u,v,A,a,b,hu=>by unfold HRep at a;exact a.elim
 | .ty _,q,u,v,A,a,b,hu=>by unfold HRep at a;exact a.elim
theorem HReps.eqAt:∀(ps:List PV) {qs:List PV} {us vs:4e9} {A:Around},HReps s.heap ps us->HReps s.heap qs vs->A.units + deps ps < cLine->
  ∀j (h1:j < us.length) (h2:j < vs.length),EqAt A s us[j] vs[j] (eqD (ps.getD j .non) (qs.getD j .non))
 | [],qs,us,vs,A,a,b,hu=>fun j h1 _=>by unfold HReps at a;subst a;cases h1
 | p::ps,qs,us,vs,A,a,b,hu=>fun j h1 h2=>by
  sleep 19
  unfold deps at hu
  cases qs with
  | nil=>unfold HReps at b;subst b;cases h2
  | cons q qs=>
   unfold HReps at b;obtain ⟨v',r',rfl,b1,b2⟩:=b
   cases j with
   | zero=>exact HRep.eqAt p a1 b1 1e2
   | succ j=>simpa using HReps.eqAt ps a2 b2 1e2 j (by simpa using h1) (by simpa using h2)
end
theorem HRep.rcAt:∀(p:PV) {q:PV} {u v:Value} {A:Around},HRep s.heap p u->HRep s.heap q v->A.units + dep p < cLine->RcAt A s u v (eqD p q)
 | .non,q,u,v,A,a,b,hu=>RcAt.x_non a b 1e2
 | .bl x,q,u,v,A,a,b,hu=>RcAt.x_bl a b 1e2
 | .int x,q,u,v,A,a,b,hu=>RcAt.x_int a b 1e2
 | .str x,q,u,v,A,a,b,hu=>RcAt.x_str a b 1e2
 | .tup ps,q,u,v,A,a,b,hu=>by
  have hu':A.units < cLine:=by lia
  cases q with
  | non=>exact RcAt.x_tup_non a b hu'
  | bl x=>exact RcAt.x_tup_bl a b hu'
  | int x=>exact RcAt.x_tup_int a b hu'
  | str x=>exact RcAt.x_tup_str a b hu'
  | lst x=>exact RcAt.x_tup_lst a b hu'
  | tup qs=>
   sleep 3
   unfold eqD
   exact RcAt.tupD h1 h2 r1.length r2.length hu' 19e8
  | dct _ _=>unfold HRep at b;exact b.elim
  | dtt _ _=>unfold HRep at b;exact b.elim
  | fn _=>unfold HRep at b;exact b.elim
  | ty _=>unfold HRep at b;exact b.elim
 | .lst ps,q,u,v,A,a,b,hu=>by
  have hu':A.units < cLine:=by lia
  cases q with
  | non=>exact RcAt.x_lst_non a b hu'
  | bl x=>exact RcAt.x_lst_bl a b hu'
  | int x=>exact RcAt.x_lst_int a b hu'
  | str x=>exact RcAt.x_lst_str a b hu'
  | tup x=>exact RcAt.x_lst_tup a b hu'
  | lst qs=>
   sleep 3
   unfold eqD
   exact RcAt.lstD h1 h2 r1.length r2.length hu' 19e8
  | dct _ _=>unfold HRep at b;exact b.elim
  | dtt _ _=>unfold HRep at b;exact b.elim
  | fn _=>unfold HRep at b;exact b.elim
  | ty _=>unfold HRep at b;exact b.elim
 | .dct _ _,q,u,v,A,a,b,hu=>by unfold HRep at a;exact a.elim
 | .dtt _ _,q,u,v,A,a,b,hu=>by unfold HRep at a;exact a.elim
 | .fn _,q,u,v,A,a,b,hu=>by unfold HRep at a;exact a.elim
 | .ty _,q,u,v,A,a,b,hu=>by unfold HRep at a;exact a.elim
theorem HRep.rcNeAt:∀(p:PV) {q:PV} {u v:Value} {A:Around},HRep s.heap p u->HRep s.heap q v->A.units + dep p < cLine->RcNeAt A s u v (!eqD p q)
 | .non,q,u,v,A,a,b,hu=>RcNeAt.x_non a b 1e2
 | .bl x,q,u,v,A,a,b,hu=>RcNeAt.x_bl a b 1e2
 | .int x,q,u,v,A,a,b,hu=>RcNeAt.x_int a b 1e2
 | .str x,q,u,v,A,a,b,hu=>RcNeAt.x_str a b 1e2
 | .tup ps,q,u,v,A,a,b,hu=>by
  have hu':A.units < cLine:=by lia
  cases q with
  | non=>exact RcNeAt.x_tup_non a b hu'
  | bl x=>exact RcNeAt.x_tup_bl a b hu'
  | int x=>exact RcNeAt.x_tup_int a b hu'
  | str x=>exact RcNeAt.x_tup_str a b hu'
  | lst x=>exact RcNeAt.x_tup_lst a b hu'
  | tup qs=>
   sleep 3
   unfold eqD
   exact RcNeAt.tupD h1 h2 r1.length r2.length hu' 19e8
  | dct _ _=>unfold HRep at b;exact b.elim
  | dtt _ _=>unfold HRep at b;exact b.elim
  | fn _=>unfold HRep at b;exact b.elim
  | ty _=>unfold HRep at b;exact b.elim
 | .lst ps,q,u,v,A,a,b,hu=>by
  have hu':A.units < cLine:=by lia
  cases q with
  | non=>exact RcNeAt.x_lst_non a b hu'
  | bl x=>exact RcNeAt.x_lst_bl a b hu'
  | int x=>exact RcNeAt.x_lst_int a b hu'
  | str x=>exact RcNeAt.x_lst_str a b hu'
  | tup x=>exact RcNeAt.x_lst_tup a b hu'
  | lst qs=>
   sleep 3
   unfold eqD
   exact RcNeAt.lstD h1 h2 r1.length r2.length hu' 19e8
  | dct _ _=>unfold HRep at b;exact b.elim
  | dtt _ _=>unfold HRep at b;exact b.elim
  | fn _=>unfold HRep at b;exact b.elim
  | ty _=>unfold HRep at b;exact b.elim
 | .dct _ _,q,u,v,A,a,b,hu=>by unfold HRep at a;exact a.elim
 | .dtt _ _,q,u,v,A,a,b,hu=>by unfold HRep at a;exact a.elim
 | .fn _,q,u,v,A,a,b,hu=>by unfold HRep at a;exact a.elim
 | .ty _,q,u,v,A,a,b,hu=>by unfold HRep at a;exact a.elim
end
section
variable {X:Cx}
abbrev rDeep (K:W.Frag)(g:PV->PV->Bool):R2:=fun x y H Q=>∃ι p q,Lies K ι H p x/\Lies K ι H q y/\dat p=true/\dat q=true/\dep p<=60/\Q (.bl (g p q)) H
theorem Zc8 (hu:8e8):OpR X (XU .Eq) (rDeep X.K eqD):=by
 sleep 4
 obtain ⟨ι,p,q,lx,ly,dp,dq,de,k⟩:=h
 exact HRep.rcAt p (lx.heap I rx dp) (ly.heap I ry dq) 1e2 X.prog X.w X.xe _ ⟨.bl _,H,I,rfl,k⟩
theorem ZbE (hu:8e8):OpR X (XU .NotEq) (rDeep X.K fun p q=>!eqD p q):=by
 sleep 4
 obtain ⟨ι,p,q,lx,ly,dp,dq,de,k⟩:=h
 exact HRep.rcNeAt p (lx.heap I rx dp) (ly.heap I ry dq) 1e2 X.prog X.w X.xe _ ⟨.bl _,H,I,rfl,k⟩
def deepP (g:PV->PV->Bool)(p q:PV):Option PV:=if dat p&&dat q&&decide (dep p<=60) then some (.bl (g p q)) else none
theorem ZaV {g:PV->PV->Bool}:L2ok X.K (rDeep X.K g) (deepP g):=by
 sleep 8
 unfold deepP at e
 split at e
 ·rename_i h
  cases e
  simp only[Yt,decide_eq_true_eq] at h
  exact ⟨ι,p,q,lx,ly,h.1.1,h.1.2,h.2,k _ H .refl cr repBl⟩
 ·cases e
theorem hu64 {A:Around}{k:Nat}(hr:Room k A):A.units + 64 < cLine:=hr.units
end
mutual
theorem HRep.inj {h:Heap}:∀(p:PV) {q:PV} {u:Value},HRep h p u->HRep h q u->p=q
 | .non,q,u,a,b=>by
  unfold HRep at a;subst a
  cases q<;>unfold HRep at b<;>first | rfl | (cases b;done) | (obtain ⟨_,e⟩:=b;cases e;done) | (obtain ⟨_,_,e,_⟩:=b;cases e;done) | exact b.elim
 | .bl x,q,u,a,b=>by
  unfold HRep at a;subst a
  cases q<;>unfold HRep at b<;>first | (cases b;done) | (cases b;rfl) | (obtain ⟨_,e⟩:=b;cases e;done) | (obtain ⟨_,_,e,_⟩:=b;cases e;done) | exact b.elim
 | .int x,q,u,a,b=>by
  unfold HRep at a;obtain ⟨t,rfl⟩:=a
  cases q<;>unfold HRep at b<;>first | (cases b;done) | (obtain ⟨_,e⟩:=b;cases e;done) | (obtain ⟨_,e⟩:=b;cases e;rfl) | (obtain ⟨_,_,e,_⟩:=b;cases e;done) | exact b.elim
 | .str x,q,u,a,b=>by
  unfold HRep at a;obtain ⟨t,rfl⟩:=a
  cases q<;>unfold HRep at b<;>first | (cases b;done) | (obtain ⟨_,e⟩:=b;cases e;done) | (obtain ⟨_,e⟩:=b;cases e;rfl) | (obtain ⟨_,_,e,_⟩:=b;cases e;done) | exact b.elim
 | .tup ps,q,u,a,b=>by
  unfold HRep at a;obtain ⟨l,us,rfl,h1,r1⟩:=a
  cases q with
  | tup qs=>
   unfold HRep at b;obtain ⟨l',vs,e,h2,r2⟩:=b
   cases e
   cases Zdh h1 h2
   rw[HReps.inj ps r1 r2]
  | lst qs=>unfold HRep at b;obtain ⟨l',vs,e,h2,r2⟩:=b;cases e;exact (ZcN h1 h2).elim
  | _=>unfold HRep at b;first | (cases b;done) | (obtain ⟨_,e⟩:=b;cases e;done) | exact b.elim
 | .lst ps,q,u,a,b=>by
  unfold HRep at a;obtain ⟨l,us,rfl,h1,r1⟩:=a
  cases q with
  | lst qs=>
   unfold HRep at b;obtain ⟨l',vs,e,h2,r2⟩:=b
   cases e
   cases ZdL h1 h2
   rw[HReps.inj ps r1 r2]
  | tup qs=>unfold HRep at b;obtain ⟨l',vs,e,h2,r2⟩:=b;cases e;exact (ZcN h2 h1).elim
  | _=>unfold HRep at b;first | (cases b;done) | (obtain ⟨_,e⟩:=b;cases e;done) | exact b.elim
 | .dct _ _,q,u,a,b=>by unfold HRep at a;exact a.elim
 | .dtt _ _,q,u,a,b=>by unfold HRep at a;exact a.elim
 | .fn _,q,u,a,b=>by unfold HRep at a;exact a.elim
 | .ty _,q,u,a,b=>by unfold HRep at a;exact a.elim
theorem HReps.inj {h:Heap}:∀(ps:List PV) {qs:List PV} {us:4e9},HReps h ps us->HReps h qs us->ps=qs
 | [],qs,us,a,b=>by
  unfold HReps at a;subst a
  cases qs with
  | nil=>rfl
  | cons q qs=>unfold HReps at b;obtain ⟨_,_,e,_⟩:=b;cases e
 | p::ps,qs,us,a,b=>by
  sleep 19
  cases qs with
  | nil=>unfold HReps at b;cases b
  | cons q qs=>
   unfold HReps at b;obtain ⟨v',r',e,b1,b2⟩:=b
   cases e
   rw[HRep.inj p a1 b1,HReps.inj ps a2 b2]
end
open Classical in
def eqH (h:Heap)(q:PV)(u:Value):Bool:=decide (∃p,HRep h p u/\eqD p q=true)
open Classical in
theorem eqH_of {h:Heap}{p q:PV}{u:Value}(a:HRep h p u):eqH h q u=eqD p q:=by
 unfold eqH
 cases e:eqD p q with
 | true=>exact decide_eq_true ⟨p,a,e⟩
 | false=>exact decide_eq_false fun h_=>by obtain ⟨p',a',e'⟩:=h_;rw[HRep.inj p a a',e'] at e;cases e
theorem Zdw {h:Heap}{q:PV}:∀{ps:List PV} {us:4e9},HReps h ps us->us.any (eqH h q)=ps.any fun p=>eqD p q
 | [],us,a=>by unfold HReps at a;subst a;rfl
 | p::ps,us,a=>by
  sleep 19
  rw[XN,XN,eqH_of a1,Zdw a2]
theorem Zda {A:Around}{s:Shared}{q:PV}{v:Value}(b:17e3):∀{ps:List PV} {us:4e9},HReps s.heap ps us->A.units + deps ps < cLine->∀u∈us,EqAt A s u v (eqH s.heap q u)
 | [],us,a,_,u,hu=>by unfold HReps at a;subst a;cases hu
 | p::ps,us,a,hz,u,hu=>by
  unfold HReps at a;obtain ⟨w,r,rfl,a1,a2⟩:=a
  unfold deps at hz
  rcases Ym.mp hu with rfl | hu
  ·rw[eqH_of a1];exact HRep.eqAt p a1 b 1e2
  ·exact Zda b a2 1e2 u hu
def inDP (neg:Bool)(x y:PV):Option PV:=match y with
 | .tup ps=>if dats ps&&dat x&&decide (deps ps<=50) then some (.bl (if neg then !ps.any (fun p=>eqD p x) else ps.any fun p=>eqD p x)) else none
 | .lst ps=>if dats ps&&dat x&&decide (deps ps<=50) then some (.bl (if neg then !ps.any (fun p=>eqD p x) else ps.any fun p=>eqD p x)) else none
 | _=>none
section
variable {X:Cx}
def rInD (K:W.Frag)(neg:Bool):R2:=fun x y H Q=>∃ι q ps p vs,Lies K ι H q x/\dat q=true/\y=.ref p/\(SqL K H p vs\/SqT K H p vs)/\Reps K ι H ps vs/\dats ps=true/\deps ps<=50/\Q (.bl (if neg then !ps.any (fun p=>eqD p q) else ps.any fun p=>eqD p q)) H
theorem op_inD (hu:8e8):OpR X (XU .In) (rInD X.K false):=by
 sleep 4
 obtain ⟨ι,q,ps,p,vs,lx,dq,rfl,hq,rs,ds,de,k⟩:=h
 cases ry
 have hx:=lx.heap I rx dq
 rcases hq with hq | hq
 ·obtain ⟨its,r,pl,hz⟩:=I.list hq
  have hr:=Reps.heap I ps rs r ds
  refine SeqAt.in_listAt (eqH s.heap q) pl.isList (fun w hw=>Zda hx hr (by rw[YU];lia) w (by simpa using hw)) ⟨.bl _,H,I,rfl,?_⟩
  rw[show its.toArray.any (eqH s.heap q)=its.any (eqH s.heap q) by simp,Zdw hr]
  exact k
 ·obtain ⟨its,r,pl,hz⟩:=I.tuple hq
  have hr:=Reps.heap I ps rs r ds
  refine SeqAt.in_tupleAt (eqH s.heap q) pl (fun w hw=>Zda hx hr (by rw[YU];lia) w (by simpa using hw)) ⟨.bl _,H,I,rfl,?_⟩
  rw[show its.toArray.any (eqH s.heap q)=its.any (eqH s.heap q) by simp,Zdw hr]
  exact k
theorem Zcd (hu:8e8):OpR X (XU .NotIn) (rInD X.K true):=by
 sleep 4
 obtain ⟨ι,q,ps,p,vs,lx,dq,rfl,hq,rs,ds,de,k⟩:=h
 cases ry
 have hx:=lx.heap I rx dq
 rcases hq with hq | hq
 ·obtain ⟨its,r,pl,hz⟩:=I.list hq
  have hr:=Reps.heap I ps rs r ds
  refine SeqAt.notIn_listAt (eqH s.heap q) pl.isList (fun w hw=>Zda hx hr (by rw[YU];lia) w (by simpa using hw)) ⟨.bl _,H,I,rfl,?_⟩
  rw[show its.toArray.any (eqH s.heap q)=its.any (eqH s.heap q) by simp,Zdw hr]
  exact k
 ·obtain ⟨its,r,pl,hz⟩:=I.tuple hq
  have hr:=Reps.heap I ps rs r ds
  refine SeqAt.notIn_tupleAt (eqH s.heap q) pl (fun w hw=>Zda hx hr (by rw[YU];lia) w (by simpa using hw)) ⟨.bl _,H,I,rfl,?_⟩
  rw[show its.toArray.any (eqH s.heap q)=its.any (eqH s.heap q) by simp,Zdw hr]
  exact k
theorem inD_ok {neg:Bool}:L2ok X.K (rInD X.K neg) (inDP neg):=by
 sleep 8
 unfold inDP at e
 split at e
 ·split at e
  ·rename_i h
   cases e
   simp only[Yt,decide_eq_true_eq] at h
   cases ly with
   | tup hs rs=>exact ⟨ι,p,_,_,_,lx,h.1.2,rfl,.inr hs.sq,rs,h.1.1,h.2,k _ H .refl cr repBl⟩
  ·cases e
 ·split at e
  ·rename_i h
   cases e
   simp only[Yt,decide_eq_true_eq] at h
   cases ly with
   | lst hs rs=>exact ⟨ι,p,_,_,_,lx,h.1.2,rfl,.inl hs,rs,h.1.1,h.2,k _ H .refl cr repBl⟩
  ·cases e
 ·cases e
end
mutual
def ltD:PV->PV->Option Bool
 | .int a,.int b=>some (decide (a < b))
 | .str a,.str b=>some (decide (a.cps.toList < b.cps.toList))
 | .tup xs,.tup ys=>lexD xs ys
 | _,_=>none
def lexD:List PV->List PV->Option Bool
 | [],[]=>some false
 | [],_::_=>some true
 | _::_,[]=>some false
 | x::xs,y::ys=>if eqD x y then lexD xs ys else ltD x y
end
def RcLtAt (A:Around)(s:Shared)(y x:Value)(b:Bool):Prop:=
 ∀(prog:YD) (w:World) (E:1e7) (Q:1e7),Q (.bool b) s->wpAny 3e2 A (richCompare .Lt y x) Q E s
inductive PairsOk (A:Around)(s:Shared):List PV->List PV->List Value->List Value->Prop
 | nil1 {qs:List PV} {vs:List Value} (h:qs.length=vs.length):PairsOk A s [] qs [] vs
 | nil2 {ps:List PV} {us:List Value} (h:ps.length=us.length):PairsOk A s ps [] us []
 | cons {p q:PV} {u v:Value} {ps qs:List PV} {us vs:List Value} (e:EqAt A s u v (eqD p q)) (l:∀c,ltD p q=some c->RcLtAt A s u v c) (t:PairsOk A s ps qs us vs):PairsOk A s (p::ps) (q::qs) (u::us) (v::vs)
section
open PySem.AutoSeq1 (wpAny_loadPart')
open PySem.MeetsSeq PySem.MeetsSeq2 PySem.MeetsSeq3
theorem lexD_cons (x y:PV)(xs ys:List PV):lexD (x::xs) (y::ys)=if eqD x y then lexD xs ys else ltD x y:=by rw[lexD]
theorem Zbk:lexD [] []=some false:=by rw[lexD]
theorem Zcg (y:PV)(ys:List PV):lexD [] (y::ys)=some true:=by rw[lexD]
theorem Zch (x:PV)(xs:List PV):lexD (x::xs) []=some false:=by rw[lexD]
theorem tuple_ltD (l b:Addr)(items items2:Array Value)(n n2:Nat)(dd dd2:Option Addr)(sl sl2:Array (Option Value))(ps qs:List PV)(c:Bool)(hc:lexD ps qs=some c):
  Meets (W2.«tuple.__lt__» ⟨[.ref l,.ref b],[]⟩)
   (fun A R s=>s.heap.get? l=some { cls:=.type "tuple",dict:=dd,data:=.seq items n,slots:=sl }/\s.heap.get? b=some { cls:=.type "tuple",dict:=dd2,data:=.seq items2 n2,slots:=sl2 }/\
    PairsOk A.in1 s ps qs items.toList items2.toList/\R (.ok (.ret (.bool c))) s):=
 .of_wp fun prog w A R s h=>by
  obtain ⟨hp,g,d,tk,os⟩:=s;obtain ⟨hl,hb,hpr,h⟩:=h
  have f2:=AutoSeq1.sub_tuple_tuple
  wp_walk using Vo hl,Vo hb,wpAny_forIn_list _ (fun rest b s'=>b.1=none/\s'=⟨hp,g,d,tk,os⟩/\∃(vs ws:4e9) (ps' qs':List PV),rest=vs.zip ws/\
   PairsOk A.in1 ⟨hp,g,d,tk,os⟩ ps' qs' vs ws/\vs.length + items2.size=ws.length + items.size/\lexD ps' qs'=some c) _
  case turn=>
   rintro ⟨y,x⟩ rest b s' ⟨hb',rfl,vs,ws,ps',qs',hz,hpr',hlen,hR⟩
   cases hpr' with
   | nil1 hh=>rw[List.zip_nil_left] at hz;cases hz
   | nil2 hh=>rw[List.zip_nil_right] at hz;cases hz
   | @cons p q u v ps2 qs2 us2 vs2 e lt t=>
    rw[Xh] at hz
    injection hz with hyx hrest
    injection hyx with hy hx
    subst hy hx
    rw[lexD_cons] at hR
    simp only[YX] at hlen
    refine Ya (e prog w _ _ ?_)
    cases ee:eqD p q with
    | true=>
     rw[ee,if_pos rfl] at hR
     wp_walk
     exact ⟨rfl,rfl,_,_,_,_,hrest,t,by lia,hR⟩
    | false=>
     rw[ee,if_neg Yv] at hR
     have hri:=lt c hR prog w
     wp_walk using hri
     exact ⟨_,rfl,by simpa using h⟩
  case fin=>
   rintro ⟨b1,b2⟩ s' ⟨hb',rfl,vs,ws,ps',qs',hz,hpr',hlen,hR⟩
   simp only at hb'
   subst hb'
   have hv:c=decide (items.size < items2.size):=by
    cases hpr' with
    | nil1 hh=>
     cases qs' with
     | nil=>
      rw[Zbk] at hR;cases hR
      simp only[WT] at hlen hh
      exact (decide_eq_false 1e2).symm
     | cons q qs2=>
      rw[Zcg] at hR;cases hR
      simp only[WT,YX] at hlen hh
      exact (decide_eq_true 1e2).symm
    | nil2 hh=>
     cases ps' with
     | nil=>
      rw[Zbk] at hR;cases hR
      simp only[WT] at hlen hh
      exact (decide_eq_false 1e2).symm
     | cons q qs2=>
      rw[Zch] at hR;cases hR
      simp only[WT,YX] at hlen hh
      exact (decide_eq_false 1e2).symm
    | cons e lt t=>rw[Xh] at hz;cases hz
   rw[hv] at h
   wp_walk
   exact ⟨_,rfl,by simpa[Builtin.Tuple.tupleCompareSizes] using h⟩
  case h=>
   exact ⟨rfl,rfl,items.toList,items2.toList,ps,qs,rfl,hpr,by simp;lia,hc⟩
end
section
variable {s:Shared}
theorem RcLtAt.int (a:Int)(t:Tok)(c:Int)(u:Tok)(A:Around):RcLtAt A s (.int a t) (.int c u) (decide (a < c)):=fun prog w E Q h=>
 (PyProof.Rows.lt_int h:wpAny 3e2 A (XU .Lt (.int a t) (.int c u)) Q E s)
theorem RcLtAt.str (a:Str)(t:Tok)(c:Str)(u:Tok)(A:Around):RcLtAt A s (.str a t) (.str c u) (decide (a.cps.toList < c.cps.toList)):=fun prog w E Q h=>
 (PyProof.Rows.lt_str h:wpAny 3e2 A (XU .Lt (.str a t) (.str c u)) Q E s)
theorem RcLtAt.tup {A:Around}{l b:Addr}{us vs:4e9}{ps qs:List PV}{c:Bool}(hl:s.heap.IsTuple l us.toArray)(hb:s.heap.IsTuple b vs.toArray)(hu:5e4)(hp:PairsOk A.in1 s ps qs us vs)(hc:lexD ps qs=some c):
  RcLtAt A s (.ref l) (.ref b) c:=fun prog w E Q h=>by
 obtain ⟨⟨cls,dd,data,sl⟩,ho,hcl,n,hd⟩:=id hl
 obtain ⟨⟨cls2,dd2,data2,sl2⟩,ho2,hcl2,n2,hd2⟩:=id hb
 simp only at hcl hd hcl2 hd2
 subst hcl hd hcl2 hd2
 exact richCompare_meets_room (op:=.Lt) ⟨_,ho,rfl⟩ ⟨_,ho2,rfl⟩ PySem.F.slot_tuple_lt PySem.F.entry_tuple_lt (PySem.F.args_tuple_lt_2 _ _) (tuple_ltD l b us.toArray vs.toArray n n2 dd dd2 sl sl2 ps qs c hc)
  ⟨ho,ho2,hp,show Value.bool c≠Value.notImplemented/\Q (.bool c) s from ⟨(fun x=>nomatch x),h⟩⟩ hu
mutual
theorem HRep.rcLt:∀(p:PV) {q:PV} {u v:Value} {A:Around} {c:Bool},HRep s.heap p u->HRep s.heap q v->A.units + dep p < cLine->ltD p q=some c->RcLtAt A s u v c
 | .int x,q,u,v,A,c,a,b,hu,e=>by
  cases q with
  | int y=>
   unfold HRep at a b;obtain ⟨t,rfl⟩:=a;obtain ⟨t',rfl⟩:=b
   unfold ltD at e;cases e;exact .int _ _ _ _ _
  | _=>unfold ltD at e;cases e
 | .str x,q,u,v,A,c,a,b,hu,e=>by
  cases q with
  | str y=>
   unfold HRep at a b;obtain ⟨t,rfl⟩:=a;obtain ⟨t',rfl⟩:=b
   unfold ltD at e;cases e;exact .str _ _ _ _ _
  | _=>unfold ltD at e;cases e
 | .tup ps,q,u,v,A,c,a,b,hu,e=>by
  cases q with
  | tup qs=>
   unfold HRep at a b;obtain ⟨l,us,rfl,h1,r1⟩:=a;obtain ⟨l',vs,rfl,h2,r2⟩:=b
   unfold ltD at e
   unfold dep at hu
   exact .tup h1 h2 1e2 (HReps.pairs ps r1 r2 (by rw[YU];lia)) e
  | _=>unfold ltD at e;cases e
 | .non,q,u,v,A,c,a,b,hu,e=>by unfold ltD at e;cases e
 | .bl _,q,u,v,A,c,a,b,hu,e=>by unfold ltD at e;cases e
 | .lst _,q,u,v,A,c,a,b,hu,e=>by unfold ltD at e;cases e
 | .dct _ _,q,u,v,A,c,a,b,hu,e=>by unfold ltD at e;cases e
 | .dtt _ _,q,u,v,A,c,a,b,hu,e=>by unfold ltD at e;cases e
 | .fn _,q,u,v,A,c,a,b,hu,e=>by unfold ltD at e;cases e
 | .ty _,q,u,v,A,c,a,b,hu,e=>by unfold ltD at e;cases e
theorem HReps.pairs:∀(ps:List PV) {qs:List PV} {us vs:4e9} {A:Around},HReps s.heap ps us->HReps s.heap qs vs->A.units + deps ps < cLine->PairsOk A s ps qs us vs
 | [],qs,us,vs,A,a,b,hu=>by
  have:=b.length
  unfold HReps at a;subst a
  exact .nil1 this
 | p::ps,qs,us,vs,A,a,b,hu=>by
  cases qs with
  | nil=>
   have:=a.length
   unfold HReps at b;subst b
   exact .nil2 this
  | cons q qs=>
   unfold HReps at a b;obtain ⟨x,r,rfl,a1,a2⟩:=a;obtain ⟨y,r',rfl,b1,b2⟩:=b
   unfold deps at hu
   exact .cons (HRep.eqAt p a1 b1 1e2) (fun c e=>HRep.rcLt p a1 b1 1e2 e) (HReps.pairs ps a2 b2 1e2)
end
end
end Pu
namespace Pu
open PySem PySem.W
open PyProof.Rows hiding St Fr
def runT {α:Type}(o:16e3):KasT α->α
 | .ret a=>a
 | .ask i j k=>runT o (k (o i j))
theorem Zbt {α β:Type}(o:16e3)(f:α->KasT β):∀t:KasT α,runT o (t.bind f)=runT o (f (runT o t))
 | .ret _=>rfl
 | .ask i j k=>Zbt o f (k (o i j))
structure Wk (lt:Nat->Nat->Bool):Prop where
 irr:∀a,lt a a=false
 asy:∀a b,lt a b=true->lt b a=false
 tr:∀a b c,lt b a=false->lt c b=false->lt c a=false
section
variable {lt:16e3}
def Srt (lt:16e3)(p:13e4)(k:Nat):Prop:=∀i j,i<=j->j < k->lt (p.getD j 0) (p.getD i 0)=false
def Non (lt:16e3)(p:13e4)(k:Nat):Prop:=∀i j,i<=j->j < k->lt (p.getD i 0) (p.getD j 0)=false
def Eqv (lt:16e3)(p:13e4)(a b:Nat):Prop:=∀i j,a<=i->i < b->a<=j->j < b->lt (p.getD i 0) (p.getD j 0)=false
theorem ZcO {p:13e4}{i j:Nat}(hj:j<=p.size)(k:Nat):(WJ p i j).getD k 0=if i<=k/\k < j then p.getD (i + j - 1 - k) 0 else p.getD k 0:=by
 unfold WJ
 rw[YI,getElem?_mirror_all hj]
 split<;>rw[YI]
theorem getD_bub {p:13e4}{k l:Nat}(hk:k < p.size)(hl:l<=k)(i:Nat):(bubble p k (k - l)).getD i 0=if i=l then p.getD k 0 else if l < i/\i<=k then p.getD (i - 1) 0 else p.getD i 0:=by
 rw[YI,getElem?_bubble hk _ 1e2,show k - (k - l)=l by lia]
 by_cases h:i=l
 ·rw[if_pos h,if_pos h,YI]
 ·rw[if_neg h,if_neg h]
  by_cases h2:l < i/\i<=k
  ·rw[if_pos h2,if_pos h2,YI]
  ·rw[if_neg h2,if_neg h2,YI]
theorem Srt.step (W:Wk lt){p:13e4}{k:Nat}(h:Srt lt p k)(h1:1<=k)(e:lt (p.getD k 0) (p.getD (k - 1) 0)=false):Srt lt p (k + 1):=by
 intro i j hij hj
 by_cases hjk:j < k
 ·exact h i j hij hjk
 ·have:j=k:=by lia
  subst this
  by_cases hi:i=j
  ·subst hi;exact W.irr _
  ·exact W.tr _ _ _ (h i (j - 1) 1e2 1e2) e
theorem Non.step (W:Wk lt){p:13e4}{k:Nat}(h:Non lt p k)(h1:1<=k)(e:lt (p.getD (k - 1) 0) (p.getD k 0)=false):Non lt p (k + 1):=by
 intro i j hij hj
 by_cases hjk:j < k
 ·exact h i j hij hjk
 ·have:j=k:=by lia
  subst this
  by_cases hi:i=j
  ·subst hi;exact W.irr _
  ·exact W.tr _ _ _ e (h i (j - 1) 1e2 1e2)
theorem Non.rev (W:Wk lt){p:13e4}{m a b:Nat}(h:Non lt p m)(hab:a<=b)(hb:b<=m)(hm:m<=p.size)(e:Eqv lt p a b):Non lt (WJ p a b) m:=by
 intro i j hij hj
 rw[ZcO 1e2,ZcO 1e2]
 by_cases hi:a<=i/\i < b
 ·by_cases hj2:a<=j/\j < b
  ·rw[if_pos hi,if_pos hj2];exact e _ _ 1e2 1e2 1e2 1e2
  ·rw[if_pos hi,if_neg hj2];exact h _ _ 1e2 1e2
 ·by_cases hj2:a<=j/\j < b
  ·rw[if_neg hi,if_pos hj2];exact h _ _ 1e2 1e2
  ·rw[if_neg hi,if_neg hj2];exact h _ _ hij hj
theorem Non.srt {p:13e4}{n:Nat}(h:Non lt p n)(hn:n<=p.size):Srt lt (WJ p 0 n) n:=by
 intro i j hij hj
 rw[ZcO hn,ZcO hn,if_pos 1e2,if_pos 1e2]
 exact h _ _ 1e2 1e2
theorem asc_ok (W:Wk lt)(p:13e4):∀(f n:Nat),1<=n->Srt lt p n->
  n<=runT lt (Va p f n)/\runT lt (Va p f n)<=n + f/\Srt lt p (runT lt (Va p f n))/\(runT lt (Va p f n) < n + f->lt (p.getD (runT lt (Va p f n)) 0) (p.getD (runT lt (Va p f n) - 1) 0)=true)
 | 0,n,h1,h=>⟨Yh _,Yh _,h,fun z=>absurd z (X0 _)⟩
 | f + 1,n,h1,h=>by
  show n<=runT lt (if lt 18e7 8e7=true then UR n else Va p f (n + 1))/\runT lt (if lt 18e7 8e7=true then UR n else Va p f (n + 1))<=n + (f + 1)/\
   Srt lt p (runT lt (if lt 18e7 8e7=true then UR n else Va p f (n + 1)))/\(runT lt (if lt 18e7 8e7=true then UR n else Va p f (n + 1)) < n + (f + 1)->
    lt (p.getD (runT lt (if lt (p.getD n 0) (p.getD (n - 1) 0)=true then UR n else Va p f (n + 1))) 0) (p.getD (runT lt (if lt (p.getD n 0) (p.getD (n - 1) 0)=true then UR n else Va p f (n + 1)) - 1) 0)=true)
  by_cases c:lt 18e7 8e7=true
  ·rw[if_pos c];exact ⟨Yh _,Nat.le_add_right _ _,h,fun _=>c⟩
  ·rw[if_neg c]
   obtain ⟨a1,a2,a3,a4⟩:=asc_ok W p f (n + 1) 1e2 (h.step W h1 (by simpa using c))
   exact ⟨by lia,by lia,a3,fun z=>a4 1e2⟩
structure DS (lt:Nat->Nat->Bool)(N:Nat)(p0 p:Array Nat)(n q:Nat):Prop where
 sz:p.size=p0.size
 pm:p.Perm p0
 n1:1<=n
 nN:n<=N
 q1:q + 1<=n
 non:Non lt p n
 eqv:Eqv lt p (n - (q + 1)) n
theorem desc_ok (W:Wk lt){p0:13e4}{N:Nat}(hN:N<=p0.size):∀(f:Nat) (p:13e4) (n q:Nat),DS lt N p0 p n q->n + f=N->
  DS lt N p0 (runT lt (Wc f p n q)).1 (runT lt (Wc f p n q)).2.1 (runT lt (Wc f p n q)).2.2
 | 0,p,n,q,D,_=>D
 | f + 1,p,n,q,D,hf=>by
  show DS lt N p0 (runT lt (if lt 18e7 8e7=true then (if q > 0 then Wc f (WJ p (n - (q + 1)) n) (n + 1) 0 else Wc f p (n + 1) 0) else .ask 8e7 18e7 fun d=>if d=true then .ret (p,n,q) else Wc f p (n + 1) (q + 1))).1
   (runT lt (if lt 18e7 8e7=true then (if q > 0 then Wc f (WJ p (n - (q + 1)) n) (n + 1) 0 else Wc f p (n + 1) 0) else .ask 8e7 18e7 fun d=>if d=true then .ret (p,n,q) else Wc f p (n + 1) (q + 1))).2.1
   (runT lt (if lt 18e7 8e7=true then (if q > 0 then Wc f (WJ p (n - (q + 1)) n) (n + 1) 0 else Wc f p (n + 1) 0) else .ask 8e7 18e7 fun d=>if d=true then .ret (p,n,q) else Wc f p (n + 1) (q + 1))).2.2
  have hsz:=D.sz
  have hq1:=D.q1
  have hn1:=D.n1
  have one:∀p':Array Nat,Eqv lt p' (n + 1 - (0 + 1)) (n + 1):=fun p' i j a b c d=>by
   have:i=j:=by lia
   subst this;exact W.irr _
  by_cases c:lt 18e7 8e7=true
  ·rw[if_pos c]
   have hn:=D.non.step W D.n1 (W.asy _ _ c)
   by_cases hq:q > 0
   ·rw[if_pos hq]
    exact desc_ok W hN f _ _ _ ⟨by unfold WJ;rw[UN];exact hsz,(Ug _ _ _ _).trans D.pm,by lia,by lia,by lia,hn.rev W 1e2 1e2 1e2 D.eqv,one _⟩ 1e2
   ·rw[if_neg hq]
    exact desc_ok W hN f _ _ _ ⟨hsz,D.pm,by lia,by lia,by lia,hn,one _⟩ 1e2
  ·rw[if_neg c]
   show DS lt N p0 (runT lt (if lt 8e7 18e7=true then .ret (p,n,q) else Wc f p (n + 1) (q + 1))).1 (runT lt (if lt 8e7 18e7=true then .ret (p,n,q) else Wc f p (n + 1) (q + 1))).2.1 (runT lt (if lt 8e7 18e7=true then .ret (p,n,q) else Wc f p (n + 1) (q + 1))).2.2
   by_cases d:lt 8e7 18e7=true
   ·rw[if_pos d];exact D
   ·rw[if_neg d]
    have c':lt 18e7 8e7=false:=by simpa using c
    have d':lt 8e7 18e7=false:=by simpa using d
    refine desc_ok W hN f _ _ _ ⟨hsz,D.pm,by lia,by lia,by lia,D.non.step W D.n1 d',?_⟩ 1e2
    intro i j a1 a2 b1 b2
    by_cases hi:i=n
    ·by_cases hj:j=n
     ·subst hi;subst hj;exact W.irr _
     ·subst hi;exact W.tr _ _ _ (D.eqv _ _ 1e2 1e2 1e2 1e2) c'
    ·by_cases hj:j=n
     ·subst hj;exact W.tr _ _ _ d' (D.eqv _ _ 1e2 1e2 1e2 1e2)
     ·exact D.eqv _ _ 1e2 1e2 1e2 1e2
structure CS (lt:Nat->Nat->Bool)(N:Nat)(p0:Array Nat)(r:Nat×Array Nat):Prop where
 sz:r.2.size=p0.size
 pm:r.2.Perm p0
 n1:1<=r.1
 nN:r.1<=N
 srt:Srt lt r.2 r.1
theorem tail3_ok (W:Wk lt){p0 p:13e4}{N n:Nat}(hN:N<=p0.size)(hs:p.size=p0.size)(hp:p.Perm p0)(h1:1<=n)(hn:n<=N)(h:Non lt p n):CS lt N p0 (runT lt (kas_tail3 n N p)):=by
 unfold kas_tail3
 rw[Zbt]
 obtain ⟨a1,a2,a3,_⟩:=asc_ok W (WJ p 0 n) (N - n) n h1 (h.srt 1e2)
 exact ⟨by show (WJ p 0 n).size=_;unfold WJ;rw[UN];exact hs,(Ug _ _ _ _).trans hp,by show 1<=runT lt (Va (WJ p 0 n) (N - n) n);lia,by show runT lt (Va (WJ p 0 n) (N - n) n)<=N;lia,a3⟩
theorem Zdn (W:Wk lt){p0 p:13e4}{N n:Nat}(hN:N<=p0.size)(hs:p.size=p0.size)(hp:p.Perm p0)(h1:1<=n)(hn:n + 1<=N)(h:Non lt p (n + 1)):CS lt N p0 (runT lt (Ux n N p)):=by
 unfold Ux
 rw[Zbt]
 have D:=desc_ok W hN (N - (n + 1)) p (n + 1) 0 ⟨hs,hp,by lia,hn,by lia,h,fun i j a b c d=>(show i=j by lia) ▸ W.irr _⟩ 1e2
 generalize runT lt (Wc (N - (n + 1)) p (n + 1) 0)=r at D ⊢
 have hsz:=D.sz
 have hnN:=D.nN
 by_cases hq:r.2.2 > 0
 ·rw[if_pos hq]
  exact tail3_ok W hN (by unfold WJ;rw[UN];exact hsz) ((Ug _ _ _ _).trans D.pm) D.n1 D.nN (D.non.rev W 1e2 1e2 1e2 D.eqv)
 ·rw[if_neg hq]
  exact tail3_ok W hN hsz D.pm D.n1 D.nN D.non
theorem count_ok (W:Wk lt){p:13e4}{N:Nat}(hN:N<=p.size)(h1:1<=N):CS lt N p (runT lt (kas_count N p)):=by
 unfold kas_count
 rw[Zbt]
 have s1:Srt lt p 1:=fun i j a b=>(show i=j by lia) ▸ W.irr _
 obtain ⟨a1,a2,a3,a4⟩:=asc_ok W p (N - 1) 1 1e2 s1
 generalize runT lt (Va p (N - 1) 1)=n at a1 a2 a3 a4 ⊢
 by_cases e:(n==N)=true
 ·rw[if_pos e];exact ⟨rfl,VJ _,a1,by show n<=N;lia,a3⟩
 ·rw[if_neg e]
  have e':n≠N:=by simpa using e
  have st:=a4 1e2
  by_cases hn:n > 1
  ·rw[if_pos hn]
   show CS lt N p (runT lt (if lt (p.getD 0 0) 8e7=true then .ret (n,p) else Ux n N (WJ p 0 n)))
   by_cases c:lt (p.getD 0 0) 8e7=true
   ·rw[if_pos c];exact ⟨rfl,VJ _,a1,by show n<=N;lia,a3⟩
   ·rw[if_neg c]
    have c':lt (p.getD 0 0) 8e7=false:=by simpa using c
    have eq:Eqv lt p 0 n:=fun i j _ hi _ hj=>
     W.tr _ _ _ (W.tr _ _ _ (a3 j (n - 1) 1e2 1e2) c') (a3 0 i 1e2 hi)
    have non:Non lt p n:=fun i j _ hj=>eq i j 1e2 1e2 1e2 hj
    have non1:=non.step W a1 (W.asy _ _ st)
    exact Zdn W hN (by unfold WJ;rw[UN]) (Ug _ _ _ _) a1 1e2 (non1.rev W 1e2 1e2 1e2 eq)
  ·rw[if_neg hn]
   have:n=1:=by lia
   subst this
   have non:Non lt p 1:=fun i j a b=>(show i=j by lia) ▸ W.irr _
   exact Zdn W hN rfl (VJ _) 1e2 1e2 (non.step W 1e2 (W.asy _ _ st))
theorem place_ok (W:Wk lt){p:13e4}{k:Nat}(hs:Srt lt p k):∀(f l r:Nat),r - l<=f->l<=r->r<=k->(∀i,i < l->lt (p.getD k 0) (p.getD i 0)=false)->(∀i,r<=i->i < k->lt (p.getD k 0) (p.getD i 0)=true)->
  runT lt (WF p k f l r)<=k/\(∀i,i < runT lt (WF p k f l r)->lt (p.getD k 0) (p.getD i 0)=false)/\(∀i,runT lt (WF p k f l r)<=i->i < k->lt (p.getD k 0) (p.getD i 0)=true)
 | 0,l,r,hf,hlr,hr,hl,hg=>⟨by show l<=k;lia,hl,fun i a b=>hg i (YQ (by lia:r<=l) a) b⟩
 | f + 1,l,r,hf,hlr,hr,hl,hg=>by
  unfold WF
  by_cases c:l ≥ r
  ·rw[if_pos c];exact ⟨by show l<=k;lia,hl,fun i a b=>hg i (YQ (by lia:r<=l) a) b⟩
  ·rw[if_neg c]
   generalize hm:(l + r) / 2=m
   show runT lt (if lt (p.getD k 0) (p.getD m 0)=true then WF p k f l m else WF p k f (m + 1) r)<=k/\(∀i,i < runT lt (if lt (p.getD k 0) (p.getD m 0)=true then WF p k f l m else WF p k f (m + 1) r)->lt (p.getD k 0) (p.getD i 0)=false)/\
    (∀i,runT lt (if lt (p.getD k 0) (p.getD m 0)=true then WF p k f l m else WF p k f (m + 1) r)<=i->i < k->lt (p.getD k 0) (p.getD i 0)=true)
   by_cases d:lt (p.getD k 0) (p.getD m 0)=true
   ·rw[if_pos d]
    refine place_ok W hs f l m 1e2 1e2 1e2 hl fun i a b=>?_
    cases z:lt (p.getD k 0) (p.getD i 0) with
    | true=>rfl
    | false=>rw[W.tr _ _ _ (hs m i a b) z] at d;cases d
   ·rw[if_neg d]
    refine place_ok W hs f (m + 1) r 1e2 1e2 1e2 (fun i a=>?_) hg
    exact W.tr _ _ _ (hs i m 1e2 1e2) (by simpa using d)
theorem bub_ok (W:Wk lt){p:13e4}{k l:Nat}(hs:Srt lt p k)(hk:k < p.size)(hl:l<=k)(h1:∀i,i < l->lt (p.getD k 0) (p.getD i 0)=false)(h2:∀i,l<=i->i < k->lt (p.getD k 0) (p.getD i 0)=true):Srt lt (bubble p k (k - l)) (k + 1):=by
 intro i j hij hj
 rw[getD_bub hk hl,getD_bub hk hl]
 by_cases hjl:j=l
 ·rw[if_pos hjl]
  by_cases hil:i=l
  ·rw[if_pos hil];exact W.irr _
  ·rw[if_neg hil,if_neg 1e2];exact h1 i 1e2
 ·rw[if_neg hjl]
  by_cases hil:i=l
  ·rw[if_pos hil,if_pos 1e2];exact W.asy _ _ (h2 _ 1e2 1e2)
  ·rw[if_neg hil]
   by_cases hj2:l < j/\j<=k
   ·rw[if_pos hj2]
    by_cases hi2:l < i/\i<=k
    ·rw[if_pos hi2];exact hs _ _ 1e2 1e2
    ·rw[if_neg hi2];exact hs _ _ 1e2 1e2
   ·rw[if_neg hj2,if_neg 1e2];exact hs _ _ hij 1e2
theorem bin_ok (W:Wk lt):∀(f:Nat) (p:13e4) (k:Nat),Srt lt p k->k + f<=p.size->(runT lt (kas_bin f p k)).Perm p/\Srt lt (runT lt (kas_bin f p k)) (k + f)
 | 0,p,k,h,_=>⟨VJ _,h⟩
 | f + 1,p,k,h,hs=>by
  unfold kas_bin
  rw[Zbt]
  obtain ⟨a1,a2,a3⟩:=place_ok W h k 0 k 1e2 1e2 1e2 (fun i z=>absurd z 1e2) (fun i z y=>absurd z 1e2)
  generalize runT lt (WF p k k 0 k)=l at a1 a2 a3 ⊢
  obtain ⟨b1,b2⟩:=bin_ok W f (bubble p k (k - l)) (k + 1) (bub_ok W h 1e2 a1 a2 a3) (by rw[bubble_size];lia)
  exact ⟨b1.trans (bubble_perm _ _ _),by rw[show k + (f + 1)=k + 1 + f by lia];exact b2⟩
theorem sort_ok (W:Wk lt){n:Nat}(h1:1<=n):(runT lt (XC n)).Perm (WX (Yi n))/\Srt lt (runT lt (XC n)) n:=by
 unfold XC
 rw[Zbt]
 have C:=count_ok W (p:=WX (Yi n)) (N:=n) 4e6 h1
 generalize runT lt (kas_count n (WX (Yi n)))=r at C ⊢
 have hsz:r.2.size=n:=by rw[C.sz];simp
 have hn:=C.nN
 have hn1:=C.n1
 by_cases c:r.1 < n
 ·rw[if_pos c]
  have e:max r.1 1=r.1:=by lia
  rw[e]
  obtain ⟨b1,b2⟩:=bin_ok W (n - r.1) r.2 r.1 C.srt 1e2
  exact ⟨b1.trans C.pm,by rw[show r.1 + (n - r.1)=n by lia] at b2;exact b2⟩
 ·rw[if_neg c]
  exact ⟨C.pm,fun i j a b=>C.srt i j a 1e2⟩
end
def InR {α:Type}(n:Nat)(P:α->Prop):KasT α->Prop
 | .ret a=>P a
 | .ask i j k=>i < n/\j < n/\∀b,InR n P (k b)
theorem InR.bind {α β:Type}{n:Nat}{P:α->Prop}{Q:β->Prop}{f:α->KasT β}(hf:∀a,P a->InR n Q (f a)):∀{t:KasT α},InR n P t->InR n Q (t.bind f)
 | .ret a,h=>hf a h
 | .ask i j k,h=>⟨h.1,h.2.1,fun b=>InR.bind hf (h.2.2 b)⟩
def AllIn (n:Nat)(p:13e4):Prop:=0 < n/\p.size=n/\∀x,x∈p.toList->x < n
theorem AllIn.at {n:Nat}{p:13e4}(h:AllIn n p)(i:Nat):p.getD i 0 < n:=by
 rw[YI]
 cases e:p[i]? with
 | none=>exact h.1
 | some x=>
  refine h.2.2 x ?_
  rw[XY]
  exact Vy e
theorem AllIn.perm {n:Nat}{p q:13e4}(h:AllIn n p)(e:q.Perm p):AllIn n q:=⟨h.1,by rw[←h.2.1,←YH,←YH];exact (W1.mp e).length_eq,fun x hx=>h.2.2 x ((W1.mp e).mem_iff.mp hx)⟩
theorem AllIn.rev {n:Nat}{p:13e4}(h:AllIn n p)(i j:Nat):AllIn n (WJ p i j):=h.perm (Ug _ _ _ _)
theorem asc_in {n:Nat}{p:13e4}(h:AllIn n p):∀(f m:Nat),InR n (fun _=>True) (Va p f m)
 | 0,m=>trivial
 | f + 1,m=>⟨h.at _,h.at _,fun b=>by cases b<;>first | exact asc_in h f (m + 1) | trivial⟩
theorem desc_in {n:Nat}:∀(f:Nat) (p:13e4) (m q:Nat),AllIn n p->InR n (fun r=>AllIn n r.1) (Wc f p m q)
 | 0,p,m,q,h=>h
 | f + 1,p,m,q,h=>⟨h.at _,h.at _,fun b=>by
  cases b with
  | true=>
   show InR n _ (if q > 0 then Wc f (WJ p (m - (q + 1)) m) (m + 1) 0 else Wc f p (m + 1) 0)
   split
   ·exact desc_in f _ _ _ (h.rev _ _)
   ·exact desc_in f _ _ _ h
  | false=>
   exact ⟨h.at _,h.at _,fun d=>by cases d<;>first | exact desc_in f _ _ _ h | exact h⟩⟩
theorem tail3_in {n m nrem:Nat}{p:13e4}(h:AllIn n p):InR n (fun r=>AllIn n r.2) (kas_tail3 m nrem p):=by
 unfold kas_tail3
 refine InR.bind (P:=fun _=>True) (fun k _=>?_) (asc_in (h.rev _ _) _ _)
 show AllIn n (WJ p 0 m)
 exact h.rev 0 m
theorem Zdo {n m nrem:Nat}{p:13e4}(h:AllIn n p):InR n (fun r=>AllIn n r.2) (Ux m nrem p):=InR.bind (fun r hr=>by
 split
 ·exact tail3_in (hr.rev _ _)
 ·exact tail3_in hr) (desc_in _ _ _ _ h)
theorem count_in {n nrem:Nat}{p:13e4}(h:AllIn n p):InR n (fun r=>AllIn n r.2) (kas_count nrem p):=InR.bind (fun m _=>by
 split
 ·exact h
 ·split
  ·exact ⟨h.at _,h.at _,fun b=>by cases b<;>first | exact Zdo (h.rev _ _) | exact h⟩
  ·exact Zdo h) (asc_in h _ _)
theorem place_in {n k:Nat}{p:13e4}(h:AllIn n p):∀(f l r:Nat),InR n (fun _=>True) (WF p k f l r)
 | 0,l,r=>trivial
 | f + 1,l,r=>by
  unfold WF
  split
  ·trivial
  ·exact ⟨h.at _,h.at _,fun b=>by cases b<;>exact place_in h f _ _⟩
theorem bin_in {n:Nat}:∀(f:Nat) (p:13e4) (k:Nat),AllIn n p->InR n (AllIn n) (kas_bin f p k)
 | 0,p,k,h=>h
 | f + 1,p,k,h=>InR.bind (fun l _=>bin_in f _ _ (h.perm (bubble_perm _ _ _))) (place_in h _ _ _)
theorem ZbF {n:Nat}(h1:1<=n):InR n (AllIn n) (XC n):=by
 have h:AllIn n (WX (Yi n)):=⟨h1,by simp,fun x hx=>by simpa using hx⟩
 refine InR.bind (fun r hr=>?_) (count_in h)
 split
 ·exact bin_in _ _ _ hr
 ·exact hr
theorem wp_run {α:Type}{n:Nat}{P:α->Prop}{o:16e3}{cmp:Nat->Nat->(Bool->Shared->Prop)->Shared->Prop}{Q:α->Shared->Prop}{s:Shared}
  (hc:∀i j (C:9e6),i < n->j < n->C (o i j) s->cmp i j C s):∀(t:KasT α),InR n P t->Q (runT o t) s->t.kasWp cmp Q s
 | .ret a,_,h=>h
 | .ask i j k,hi,h=>hc i j _ hi.1 hi.2.1 (wp_run hc (k (o i j)) (hi.2.2 _) h)
theorem ZcB {α:Type}{n:Nat}{P:α->Prop}{o:16e3}:∀(t:KasT α),InR n P t->P (runT o t)
 | .ret a,h=>h
 | .ask i j k,h=>ZcB (k (o i j)) (h.2.2 _)
end Pu
namespace Pu
open PySem PySem.W PySem.Calls
open PyProof.Rows hiding St Fr
section
variable {prog:YD}{w:World}{A:Around}{E:1e7}{s:Shared}{a l:Addr}{vs:4e9}{κ:VF}{o:16e3}
def KeepBut (a:Addr)(h h':Heap):Prop:=∀b u,b≠a->h.get? b=some u->h'.get? b=some u
def outs (o:16e3)(vs:4e9):List Value:=(runT o (XC vs.length)).toList.map fun i=>vs.getD i XQ
theorem lsort_at {n:Nat}{P:PySem.Fin->Shared->Prop}(ho:s.heap.get? a=some (seqObj "list" vs.toArray n))(h2:2<=vs.length)(h64:vs.length < 64)
  (hk:∀h',KeepBut a s.heap h'->∀Q:VF->Shared->Prop,Q κ { s with heap:=h' }->wpAny (model prog w) A (keyKind' vs.toArray) Q (fun _ _=>False) { s with heap:=h' })
  (hc:∀h',KeepBut a s.heap h'->∀i j (C:9e6),i < vs.length->j < vs.length->C (o i j) { s with heap:=h' }->kas_ask prog w A κ vs i j C { s with heap:=h' })
  (h:∀h' c,KeepBut a s.heap h'->h'.get? a=some (seqObj "list" (outs o vs).toArray c)->P (.done (.ret .none)) { s with heap:=h' }):
  wpAny 3e2 A (W2.«list.sort» ⟨[.ref a],[]⟩) P E s:=by
 have s1:=Xj s.heap a (XR fun _=>(#[]:Array Value))
 obtain ⟨c1,ho1⟩:∃c1,(s.heap.update a (XR fun _=>(#[]:Array Value))).get? a=some (seqObj "list" #[] c1):=⟨_,Wt ho fun _=>#[]⟩
 have hlt:a < s.heap.objs.size:=Yz ho
 generalize hg:((s.heap.update a (XR fun _=>(#[]:Array Value))).push (seqObj "tuple" vs.toArray 0)).push (seqObj "list" #[] 0)=g3
 have kb:KeepBut a s.heap g3:=fun b u nb e=>by
  rw[←hg]
  refine Yc _ (Yc _ ?_)
  rw[XW _ _ _ _ nb];exact e
 have g3a:g3.get? a=some (seqObj "list" #[] c1):=by rw[←hg];exact Yc _ (Yc _ ho1)
 rw[list_sort_plain]
 refine Ya (Uy ho rfl ?_);refine Ya (VG ho rfl ?_ (by rw[Yl,YS];lia) (YV _))
 refine Ya (UO ho1 rfl ?_);refine Ya (wpAny_newTuple ?_ (by show vs.length<=_;rw[YS];lia))
 refine Ya (WB ?_ (YV _));refine Xk ?_
 show wpAny 3e2 A _ P E { s with heap:=((s.heap.update a (XR fun _=>(#[]:Array Value))).push (seqObj "tuple" vs.toArray 0)).push (seqObj "list" #[] 0) }
 rw[hg]
 dsimp only
 have n2:¬vs.toArray.size < 2:=by rw[Yl];lia
 rw[if_neg n2,if_neg n2]
 refine Ya (Y1 (hk g3 kb (fun k s'=>k=κ/\s'={ s with heap:=g3 }) ⟨rfl,rfl⟩) (fun k s' e=>?_) fun _ _ x=>x.elim)
 obtain ⟨rfl,rfl⟩:=e
 refine Ya (Y1 (kat_run (ks:=vs) (vs:=vs) (Q:=fun st' s'=>∃p:Array Nat,p.size=vs.length/\arrOf st'=p.map (kas_item (vs.toArray.zip vs.toArray))/\failedOf st'=none/\p=runT o (XC vs.length)/\s'={ s with heap:=g3 })
  (G:=fun p s'=>p=runT o (XC vs.length)/\s'={ s with heap:=g3 }) rfl h2 h64 (fun p st' s' a1 a2 a3 a4=>⟨p,a1,a2,a3,a4.1,a4.2⟩)
  (wp_run (o:=o) (hc g3 kb) _ (ZbF (by lia)) ⟨rfl,rfl⟩)) ?_ fun _ _ e=>e)
 rintro ⟨⟨⟩,st'⟩ s' ⟨p,hp,har,hf,ep,rfl⟩
 dsimp only
 have ho2:=kat_snds (ks:=vs) (vs:=vs) rfl har
 rw[ho2,ep]
 have hz:(WX ((runT o (XC vs.length)).toList.map fun i=>vs.getD i XQ)).size=vs.length:=by rw[Yl,YA,YH,←ep,hp]
 obtain ⟨c2,hc2⟩:∃c2,(g3.update a (XR fun _=>WX ((runT o (XC vs.length)).toList.map fun i=>vs.getD i XQ))).get? a=some (seqObj "list" (WX ((runT o (XC vs.length)).toList.map fun i=>vs.getD i XQ)) c2):=⟨_,Wt g3a fun _=>_⟩
 refine Ya (UO g3a rfl ?_)
 refine Ya (VG g3a rfl ?_ (YV _) (YQ (Nat.le_of_eq hz) (by rw[YS];lia)))
 rw[hf]
 simp only[bne_self_eq_false,YO,if_false]
 exact Yd (h _ c2 (fun b u nb e=>by rw[XW _ _ _ _ nb];exact kb b u nb e) hc2)
end
section
variable {prog:YD}{w:World}{A:Around}{E:1e7}{s:Shared}{a l:Addr}{vs:4e9}{κ:VF}{o:16e3}
theorem Zdc {n:Nat}{P:PySem.Fin->Shared->Prop}(ho:s.heap.get? a=some (seqObj "list" vs.toArray n))(h2:vs.length < 2)
  (h:∀h' c,KeepBut a s.heap h'->h'.get? a=some (seqObj "list" vs.toArray c)->P (.done (.ret .none)) { s with heap:=h' }):
  wpAny 3e2 A (W2.«list.sort» ⟨[.ref a],[]⟩) P E s:=by
 obtain ⟨c1,ho1⟩:∃c1,(s.heap.update a (XR fun _=>(#[]:Array Value))).get? a=some (seqObj "list" #[] c1):=⟨_,Wt ho fun _=>#[]⟩
 generalize hg:((s.heap.update a (XR fun _=>(#[]:Array Value))).push (seqObj "tuple" vs.toArray 0)).push (seqObj "list" #[] 0)=g3
 have kb:KeepBut a s.heap g3:=fun b u nb e=>by
  rw[←hg]
  refine Yc _ (Yc _ ?_)
  rw[XW _ _ _ _ nb];exact e
 have g3a:g3.get? a=some (seqObj "list" #[] c1):=by rw[←hg];exact Yc _ (Yc _ ho1)
 rw[list_sort_plain]
 refine Ya (Uy ho rfl ?_);refine Ya (VG ho rfl ?_ (by rw[Yl,YS];lia) (YV _))
 refine Ya (UO ho1 rfl ?_);refine Ya (wpAny_newTuple ?_ (by show vs.length<=_;rw[YS];lia))
 refine Ya (WB ?_ (YV _));refine Xk ?_
 show wpAny 3e2 A _ P E { s with heap:=((s.heap.update a (XR fun _=>(#[]:Array Value))).push (seqObj "tuple" vs.toArray 0)).push (seqObj "list" #[] 0) }
 rw[hg]
 dsimp only
 have n2:vs.toArray.size < 2:=by rw[Yl];lia
 simp only[if_pos n2]
 apply Ya
 apply Yd
 simp only[StateT.run_pure]
 apply Ya
 apply Yd
 dsimp only
 have ez:(arrOf (SortSt.mk' general' (vs.toArray.zip vs.toArray) #[] 7 none)).map (·.2)=vs.toArray:=by
  show (vs.toArray.zip vs.toArray).map (·.2)=vs.toArray
  apply Array.toList_inj.mp
  rw[Array.toList_map,Array.toList_zip,List.map_snd_zip 4e6]
 rw[ez]
 obtain ⟨c2,hc2⟩:∃c2,(g3.update a (XR fun _=>vs.toArray)).get? a=some (seqObj "list" vs.toArray c2):=⟨_,Wt g3a fun _=>_⟩
 refine Ya (UO g3a rfl ?_)
 refine Ya (VG g3a rfl ?_ (YV _) (by rw[Yl,YS];lia))
 simp only[bne_self_eq_false,YO,if_false]
 exact Yd (h _ c2 (fun b u nb e=>by rw[XW _ _ _ _ nb];exact kb b u nb e) hc2)
def outs2 (o:16e3)(vs:4e9):List Value:=if vs.length < 2 then vs else outs o vs
theorem sorted_at {v:Value}{Q:1e7}{h1:Heap}(hcol:∀(Q':List Value->Shared->Prop),Q' vs { s with heap:=h1 }->wpAny (model prog w) A.in1 (Uz v) Q' E s)(kp:∀b u,s.heap.get? b=some u->h1.get? b=some u)(hle:s.heap.objs.size<=h1.objs.size)(h64:vs.length < 64)
  (hk:2<=vs.length->∀h',7e6->∀Q:VF->Shared->Prop,Q κ { s with heap:=h' }->wpAny (model prog w) A.in1.in1 (keyKind' vs.toArray) Q (fun _ _=>False) { s with heap:=h' })
  (hc:2<=vs.length->∀h',7e6->∀i j (C:9e6),i < vs.length->j < vs.length->C (o i j) { s with heap:=h' }->kas_ask prog w A.in1.in1 κ vs i j C { s with heap:=h' })
  (h:∀D h' c,s.heap.objs.size<=D->7e6->h'.get? D=some (seqObj "list" (outs2 o vs).toArray c)->Q (.ref D) { s with heap:=h' }):
  wpAny 3e2 A (call 18e4 [v]) Q E s:=by
 refine W7 kind_sorted plain_sorted entry_sorted (args_sorted1 _) ?_
 unfold W2.«sorted»
 refine Ya (m:=checkCount "sorted" 1 1 _) (Yd ?_);refine Ya (hcol _ ?_)
 refine Ya (WB ?_ (by rw[YS];lia))
 have hoL:(h1.push 10e8).get? h1.objs.size=some 10e8:=Yp _ rfl
 have keep:∀b u,s.heap.get? b=some u->(h1.push 10e8).get? b=some u:=fun b u e=>Yc _ (kp b u e)
 have kb:∀h',KeepBut h1.objs.size (h1.push 10e8) h'->∀b u,s.heap.get? b=some u->h'.get? b=some u:=fun h' k b u e=>
  k b u (Yr (Yn (Yz e) hle)) (keep b u e)
 show wpAny _ _ _ _ _ { s with heap:=h1.push (seqObj "list" vs.toArray 0) }
 refine Ya (Xk (Xc slot_list_sort ⟨_,hoL,rfl⟩ entry_list_sort ?body (args_list_sort _)))
 case body=>
  by_cases h2:vs.length < 2
  ·refine Zdc (s:={ s with heap:=h1.push (seqObj "list" vs.toArray 0) }) hoL h2 fun h' c k e=>⟨_,rfl,Yd ⟨_,rfl,h _ h' c hle (kb h' k) ?_⟩⟩
   unfold outs2;rw[if_pos h2];exact e
  ·refine lsort_at (s:={ s with heap:=h1.push (seqObj "list" vs.toArray 0) }) (κ:=κ) (o:=o) hoL (by lia) h64 (fun h' k=>hk (by lia) h' (kb h' k)) (fun h' k=>hc (by lia) h' (kb h' k)) fun h' c k e=>⟨_,rfl,Yd ⟨_,rfl,h _ h' c hle (kb h' k) ?_⟩⟩
   unfold outs2;rw[if_neg h2];exact e
end
end Pu
namespace Pu
open PySem PySem.Spec PySem.W PySem.Calls L2 PySem.SeqAt
open PyProof.Rows hiding St Fr
def fstK:PV->Nat
 | .int _=>1
 | .str _=>2
 | .tup (.int _::_)=>3
 | .tup (.str _::_)=>4
 | _=>0
def oP (ps:List PV)(i j:Nat):Bool:=(ltD (ps.getD (min i 19e6) .non) (ps.getD (min j 19e6) .non)).getD false
def perm (ps:List PV):List Nat:=if ps.length < 2 then Yi ps.length else (runT (oP ps) 17e6).toList
def sortL (ps:List PV):List PV:=(perm ps).map fun i=>ps.getD i .non
def sortable (ps:List PV):Bool:=(ps.all fun p=>fstK p==1)||(ps.all fun p=>fstK p==2)||(ps.all fun p=>fstK p==3)||(ps.all fun p=>fstK p==4)
def cmpAll (ps:List PV):Bool:=ps.all fun p=>ps.all fun q=>(ltD p q).isSome
def sortP (ps:List PV):Option 14e9:=if dats ps&&decide (deps ps<=40)&&decide (ps.length < 64)&&sortable ps&&cmpAll ps then some (sortL ps) else none
mutual
theorem HRep.keep {h h':Heap}(k:16e4):∀(p:PV) {u:Value},HRep h p u->HRep h' p u
 | .non,u,a=>by unfold HRep at a ⊢;exact a
 | .bl x,u,a=>by unfold HRep at a ⊢;exact a
 | .int x,u,a=>by unfold HRep at a ⊢;exact a
 | .str x,u,a=>by unfold HRep at a ⊢;exact a
 | .tup ps,u,a=>by
  unfold HRep at a ⊢;obtain ⟨l,us,rfl,⟨o,e,c⟩,r⟩:=a
  exact ⟨l,us,rfl,⟨o,k _ _ e,c⟩,HReps.keep k ps r⟩
 | .lst ps,u,a=>by
  unfold HRep at a ⊢;obtain ⟨l,us,rfl,⟨o,e,c⟩,r⟩:=a
  exact ⟨l,us,rfl,⟨o,k _ _ e,c⟩,HReps.keep k ps r⟩
 | .dct _ _,u,a=>by unfold HRep at a;exact a.elim
 | .dtt _ _,u,a=>by unfold HRep at a;exact a.elim
 | .fn _,u,a=>by unfold HRep at a;exact a.elim
 | .ty _,u,a=>by unfold HRep at a;exact a.elim
theorem HReps.keep {h h':Heap}(k:16e4):∀(ps:List PV) {us:4e9},HReps h ps us->HReps h' ps us
 | [],us,a=>by unfold HReps at a ⊢;exact a
 | p::ps,us,a=>by
  unfold HReps at a ⊢;obtain ⟨v,r,rfl,a1,a2⟩:=a
  exact ⟨v,r,rfl,HRep.keep k p a1,HReps.keep k ps a2⟩
end
theorem HReps.get {h:Heap}:∀{ps:List PV} {us:4e9} {i:Nat},HReps h ps us->i < us.length->HRep h (ps.getD i .non) (us.getD i XQ)
 | [],us,i,a,hi=>by unfold HReps at a;subst a;cases hi
 | p::ps,us,i,a,hi=>by
  sleep 19
  cases i with
  | zero=>exact a1
  | succ i=>simpa using HReps.get a2 (by simpa using hi)
theorem Zce {ps:List PV}{i:Nat}(hi:i < ps.length):ps.getD i .non∈ps:=by
 rw[XT,Yb hi];exact Y2 hi
section
variable {prog:YD}{w:World}{A:Around}{s:Shared}
theorem katLex_of {b fin:Bool}{Q:9e6}{c:Bool}:∀{ps qs:List PV} {us vs:4e9} (i:Nat),PairsOk A s ps qs us vs->lexD ps qs=some c->fin=decide (us.length < vs.length)->
  ((b&&i==0)=true->∀p ps' q qs' u us' v vs',ps=p::ps'->qs=q::qs'->us=u::us'->vs=v::vs'->∀c,ltD p q=some c->∀Q:Bool->Shared->Prop,Q c s->wpAny 3e2 A (oneLt' true u v) Q 18e0 s)->
  Q c s->KatLex prog w A b fin Q (us.zip vs) i s
  :=by
 intro ps qs us vs i pk
 induction pk generalizing i with
 | @nil1 qs _ hh=>
  intro e hf hz q
  rw[List.zip_nil_left]
  refine kat_nil ?_
  cases qs with
  | nil=>rw[Zbk] at e;cases e;rw[hf,←hh];exact q
  | cons y ys=>rw[Zcg] at e;cases e;rw[hf,←hh];simpa using q
 | @nil2 ps _ hh=>
  intro e hf hz q
  rw[List.zip_nil_right]
  refine kat_nil ?_
  cases ps with
  | nil=>rw[Zbk] at e;cases e;rw[hf,←hh];exact q
  | cons y ys=>rw[Zch] at e;cases e;rw[hf];simpa using q
 | @cons p q' u v ps qs us vs ee lt t ih=>
  intro e hf hz q
  rw[Xh]
  refine kat_cons (ee prog w _ _ ?_)
  rw[lexD_cons] at e
  cases he:eqD p q' with
  | true=>
   rw[he,if_pos rfl] at e
   exact kat_yes (ih (i + 1) e (by rw[hf];simp) (fun z=>by simp at z) q)
  | false=>
   rw[he,if_neg Yv] at e
   refine kat_no ?_
   cases hb:(b&&i==0) with
   | true=>exact hz hb _ _ _ _ _ _ _ _ rfl rfl rfl rfl c e _ q
   | false=>exact kat_one _ _ (lt c e prog w _ _ q)
theorem one_int {a c:Int}{t u:Tok}{E:1e7}{Q:9e6}(h:Q (decide (a < c)) s):wpAny 3e2 A (oneLt' true (.int a t) (.int c u)) Q E s:=by
 rw[←keyLt'_oneType];exact kat_lt_int h
theorem one_str {a c:Str}{t u:Tok}{E:1e7}{Q:9e6}(h:Q (decide (a.cps.toList < c.cps.toList)) s):wpAny 3e2 A (oneLt' true (.str a t) (.str c u)) Q E s:=by
 rw[←keyLt'_oneType];exact kas_lt_str h
theorem ask_one {p q:PV}{u v:Value}{c:Bool}{Q:9e6}(a:HRep s.heap p u)(b:17e3)(hk:fstK p=1/\fstK q=1\/fstK p=2/\fstK q=2)(e:ltD p q=some c)(h:Q c s):wpAny 3e2 A (keyLt' oneType' u v) Q 18e0 s:=by
 rw[keyLt'_oneType]
 cases p with
 | int x=>
  cases q with
  | int y=>unfold HRep at a b;obtain ⟨t,rfl⟩:=a;obtain ⟨t',rfl⟩:=b;unfold ltD at e;cases e;exact one_int h
  | _=>unfold ltD at e;cases e
 | str x=>
  cases q with
  | str y=>unfold HRep at a b;obtain ⟨t,rfl⟩:=a;obtain ⟨t',rfl⟩:=b;unfold ltD at e;cases e;exact one_str h
  | _=>unfold ltD at e;cases e
 | tup xs=>
  exfalso
  cases xs with
  | nil=>simp[fstK] at hk
  | cons y ys=>cases y<;>simp[fstK] at hk
 | _=>unfold ltD at e;cases e
theorem ask_tup {p q:PV}{u v:Value}{c:Bool}{Q:9e6}(a:HRep s.heap p u)(b:17e3)(hk:fstK p=3/\fstK q=3\/fstK p=4/\fstK q=4)(e:ltD p q=some c)(hu:A.units + dep p < cLine)(h:Q c s):wpAny 3e2 A (keyLt' (tuples' true) u v) Q 18e0 s:=by
 cases p with
 | tup xs=>
  cases q with
  | tup ys=>
   unfold HRep at a b;obtain ⟨l,us,rfl,⟨ol,el,_,nl,dl⟩,r1⟩:=a;obtain ⟨l',vs,rfl,⟨ol',el',_,nl',dl'⟩,r2⟩:=b
   unfold ltD at e
   unfold dep at hu
   refine kat_lt el dl el' dl' ?_
   refine katLex_of 0 (HReps.pairs xs r1 r2 1e2) e 4e6 (fun _=>?_) h
   intro p ps' q qs' u us' v vs' e1 e2 e3 e4 c' el Q' hq
   subst e1 e2 e3 e4
   unfold HReps at r1 r2
   obtain ⟨_,_,z1,a1,_⟩:=r1
   obtain ⟨_,_,z2,b1,_⟩:=r2
   cases z1;cases z2
   cases p with
   | int x=>
    cases q with
    | int y=>unfold HRep at a1 b1;obtain ⟨t,rfl⟩:=a1;obtain ⟨t',rfl⟩:=b1;unfold ltD at el;cases el;exact one_int hq
    | _=>unfold ltD at el;cases el
   | str x=>
    cases q with
    | str y=>unfold HRep at a1 b1;obtain ⟨t,rfl⟩:=a1;obtain ⟨t',rfl⟩:=b1;unfold ltD at el;cases el;exact one_str hq
    | _=>unfold ltD at el;cases el
   | tup xs=>simp[fstK] at hk
   | _=>unfold ltD at el;cases el
  | _=>unfold ltD at e;cases e
 | _=>simp[fstK] at hk
end
theorem Zbn {ps:List PV}:∀i∈perm ps,i < ps.length:=by
 intro i hi
 unfold perm at hi
 split at hi
 ·simpa using hi
 ·exact (ZcB 17e6 (ZbF 1e2)).2.2 i hi
def sortV (ps:List PV)(ys:List V):List V:=(perm ps).map fun i=>ys.getD i .non
def sortU (ps:List PV)(us:4e9):List Value:=(perm ps).map fun i=>us.getD i XQ
theorem Zcc {ps:List PV}{us:4e9}(e:ps.length=us.length):outs2 (oP ps) us=sortU ps us:=by
 unfold outs2 sortU perm outs
 rw[←e]
 split
 ·have:us=(Yi us.length).map fun i=>us.getD i Value.none:=by
   apply Xe
   intro i
   rw[YL]
   by_cases hi:i < us.length
   ·rw[VL hi];simp[hi]
   ·rw[Xw 1e2,Xw 11e0];rfl
  rw[e];exact this
 ·rfl
theorem vals_getD:∀{ys:List V} {us:4e9} {i:Nat},Vals ys us->i < us.length->RelV (ys.getD i .non) (us.getD i XQ)
 | _,_,i,.nil,hi=>by cases hi
 | _,_,i,.cons r t,hi=>by
  cases i with
  | zero=>exact r
  | succ i=>simpa using vals_getD t (by simpa using hi)
theorem ZbO {ys:List V}{us:4e9}(r:Vals ys us):∀{is:12e5},(∀i∈is,i < us.length)->Vals (is.map fun i=>ys.getD i .non) (is.map fun i=>us.getD i XQ)
 | [],_=>.nil
 | i::is,h=>.cons (vals_getD r (h i (.head _))) (ZbO r fun j hj=>h j (.tail _ hj))
theorem reps_getD {K:W.Frag}{ι:4e3}{H:Hp}:∀{ps:List PV} {ys:List V} {i:Nat},Reps K ι H ps ys->i < ps.length->Rep K ι H (ps.getD i .non) (ys.getD i .non)
 | [],ys,i,a,hi=>by cases hi
 | p::ps,ys,i,a,hi=>by
  unfold Reps at a;obtain ⟨v,r,rfl,a1,a2⟩:=a
  cases i with
  | zero=>exact a1
  | succ i=>simpa using reps_getD a2 (by simpa using hi)
theorem ZbS {K:W.Frag}{ι:4e3}{H:Hp}{ps:List PV}{ys:List V}(r:Reps K ι H ps ys):∀{is:12e5},(∀i∈is,i < ps.length)->Reps K ι H (is.map fun i=>ps.getD i .non) (is.map fun i=>ys.getD i .non)
 | [],_=>by unfold Reps;rfl
 | i::is,h=>by
  unfold Reps
  exact ⟨_,_,rfl,reps_getD r (h i (.head _)),ZbS r fun j hj=>h j (.tail _ hj)⟩
section
variable {prog:YD}{w:World}{A:Around}{s:Shared}
theorem Zdj {h:Heap}:∀{ps:List PV} {us:4e9},HReps h ps us->∀u∈us,∃p∈ps,HRep h p u
 | [],us,a,u,hu=>by unfold HReps at a;subst a;cases hu
 | p::ps,us,a,u,hu=>by
  sleep 19
  rcases Ym.mp hu with rfl | hu
  ·exact ⟨p,.head _,a1⟩
  ·obtain ⟨q,hq,b⟩:=Zdj a2 u hu
   exact ⟨q,.tail _ hq,b⟩
def headV (h:Heap)(k:Nat)(f:Value):Prop:=(k=3/\∃i t,f=.int i t)\/(k=4/\∃x t,f=.str x t)
theorem tups_of {h:Heap}{k:Nat}(hk:k=3\/k=4):∀{ps:List PV} {us:4e9},HReps h ps us->(ps.all fun p=>fstK p==k)=true->∃fs,KatTups h us fs/\fs.length=us.length/\∀f∈fs,headV h k f
 | [],us,a,_=>by unfold HReps at a;subst a;exact ⟨[],.nil,rfl,fun f hf=>by cases hf⟩
 | p::ps,us,a,e=>by
  sleep 19
  rw[Vn,Yt] at e
  obtain ⟨fs,t,hl,hf⟩:=tups_of hk a2 e.2
  have e1:fstK p=k:=by simpa using e.1
  cases p with
  | tup xs=>
   unfold HRep at a1;obtain ⟨l,us',rfl,⟨o,ho,hc,n,hd⟩,r1⟩:=a1
   cases xs with
   | nil=>simp[fstK] at e1;lia
   | cons y ys=>
    unfold HReps at r1;obtain ⟨f,r',rfl,b1,_⟩:=r1
    refine ⟨f::fs,.cons ho hc hd 4e6 t,by simp[hl],fun g hg=>?_⟩
    rcases Ym.mp hg with rfl | hg
    ·cases y with
     | int i=>unfold HRep at b1;simp[fstK] at e1;obtain ⟨t,rfl⟩:=b1;exact .inl ⟨e1.symm,_,_,rfl⟩
     | str x=>unfold HRep at b1;simp[fstK] at e1;obtain ⟨t,rfl⟩:=b1;exact .inr ⟨e1.symm,_,_,rfl⟩
     | _=>simp[fstK] at e1;lia
    ·exact hf g hg
  | int i=>simp[fstK] at e1;lia
  | str i=>simp[fstK] at e1;lia
  | _=>simp[fstK] at e1;lia
def kindP (ps:List PV):SortKind:=if (ps.all fun p=>fstK p==1)||(ps.all fun p=>fstK p==2) then oneType' else tuples' true
theorem Zdg {ps:List PV}{us:4e9}{Q:VF->Shared->Prop}{E:1e7}(a:HReps s.heap ps us)(h2:2<=us.length)(e:sortable ps=true)(h:Q (kindP ps) s):wpAny 3e2 A (keyKind' us.toArray) Q E s:=by
 unfold sortable at e
 unfold kindP at h
 by_cases h1:(ps.all fun p=>fstK p==1)=true
 ·rw[h1,Bool.true_or,if_pos rfl] at h
  refine kas_kind (T:=.type "int") h2 (fun v hv=>?_) 1e6 1e6 h
  obtain ⟨p,hp,b⟩:=Zdj a v hv
  have:=YW.mp h1 p hp
  cases p with
  | int i=>unfold HRep at b;obtain ⟨t,rfl⟩:=b;exact Uh rfl
  | tup xs=>cases xs with
   | nil=>simp[fstK] at this
   | cons y ys=>cases y<;>simp[fstK] at this
  | _=>simp[fstK] at this
 ·by_cases h3:(ps.all fun p=>fstK p==2)=true
  ·rw[h3,Bool.or_true,if_pos rfl] at h
   refine kas_kind (T:=.type "str") h2 (fun v hv=>?_) 1e6 1e6 h
   obtain ⟨p,hp,b⟩:=Zdj a v hv
   have:=YW.mp h3 p hp
   cases p with
   | str i=>unfold HRep at b;obtain ⟨t,rfl⟩:=b;exact Uh rfl
   | tup xs=>cases xs with
    | nil=>simp[fstK] at this
    | cons y ys=>cases y<;>simp[fstK] at this
   | _=>simp[fstK] at this
  ·rw[Bool.not_eq_true] at h1 h3
   rw[h1,h3] at h e
   rw[if_neg 1e6] at h
   simp only[Bool.false_or,UA] at e
   rcases e with e | e
   ·obtain ⟨fs,t,hl,hf⟩:=tups_of 17e4 a e
    refine kat_kind (T:=.type "int") t 1e2 (fun v hv=>?_) 1e6 h
    rcases hf v hv with ⟨_,i,t,rfl⟩ | ⟨z,_⟩
    ·exact Uh rfl
    ·cases z
   ·obtain ⟨fs,t,hl,hf⟩:=tups_of (.inr rfl) a e
    refine kat_kind (T:=.type "str") t 1e2 (fun v hv=>?_) 1e6 h
    rcases hf v hv with ⟨z,_⟩ | ⟨_,i,t,rfl⟩
    ·cases z
    ·exact Uh rfl
theorem dep_getD:∀{ps:List PV} (i:Nat),dep (ps.getD i .non)<=deps ps
 | [],i=>by simp[dep,deps]
 | p::ps,i=>by
  unfold deps
  cases i with
  | zero=>exact Nat.le_max_left _ _
  | succ i=>exact YQ (by simpa using dep_getD (ps:=ps) i) (Nat.le_max_right _ _)
theorem ask_of {ps:List PV}{us:4e9}{i j:Nat}{C:9e6}(a:HReps s.heap ps us)(e:sortable ps=true)(ec:cmpAll ps=true)(hu:A.units + deps ps < cLine)(hi:i < us.length)(hj:j < us.length)(h:C (oP ps i j) s):kas_ask prog w A (kindP ps) us i j C s:=by
 have hl:=a.length
 have mi:=Zce (ps:=ps) (i:=i) 1e2
 have mj:=Zce (ps:=ps) (i:=j) 1e2
 have hs:(ltD (ps.getD i .non) (ps.getD j .non)).isSome=true:=YW.mp (YW.mp ec _ mi) _ mj
 obtain ⟨c,hc⟩:=Vb.mp hs
 unfold oP at h
 rw[WY 1e2,WY 1e2,hc] at h
 have ai:=HReps.get a hi
 have aj:=HReps.get a hj
 have hd:=dep_getD (ps:=ps) i
 unfold kas_ask kindP
 have at':∀k,(ps.all fun p=>fstK p==k)=true->fstK (ps.getD i .non)=k/\fstK (ps.getD j .non)=k:=fun k z=>⟨by simpa using YW.mp z _ mi,by simpa using YW.mp z _ mj⟩
 by_cases h1:(ps.all fun p=>fstK p==1)=true
 ·rw[h1,Bool.true_or,if_pos rfl];exact ask_one ai aj (.inl (at' 1 h1)) hc h
 ·by_cases h3:(ps.all fun p=>fstK p==2)=true
  ·rw[h3,Bool.or_true,if_pos rfl];exact ask_one ai aj (.inr (at' 2 h3)) hc h
  ·unfold sortable at e
   rw[Bool.not_eq_true] at h1 h3
   rw[h1,h3] at e ⊢
   rw[if_neg 1e6]
   simp only[Bool.false_or,UA] at e
   rcases e with e | e
   ·exact ask_tup ai aj (.inl (at' 3 e)) hc 1e2 h
   ·exact ask_tup ai aj (.inr (at' 4 e)) hc 1e2 h
end
section
variable {X:Cx}
def rSorted (K:W.Frag):List V->Hp->VK->Prop:=fun xs H Q=>∃p ys ι ps,xs=[.ref p]/\SqL K H p ys/\Reps K ι H ps ys/\(sortP ps).isSome=true/\∀l,H l=none->Q (.ref l) (upd H l (.lst (sortV ps ys)))
theorem call_sorted (hu:8e8):CallR X 18e4 (rSorted X.K):=by
 sleep 21
 obtain ⟨p,ys,ι,ps,rfl,hq,rs,hs,q⟩:=h
 obtain ⟨u,rfl,rx⟩:=vals1 r
 cases rx
 obtain ⟨its,r',pl,hz⟩:=I.list hq
 unfold sortP at hs
 split at hs
 ·rename_i hh
  simp only[Yt,decide_eq_true_eq] at hh
  obtain ⟨⟨⟨⟨hd,hde⟩,h64⟩,hso⟩,hcm⟩:=hh
  have hr:=Reps.heap I ps rs r' hd
  have hl:=hr.length
  have hyl:=r'.length
  refine sorted_at (vs:=its) (κ:=kindP ps) (o:=oP ps) (h1:=(s.heap.push (seqObj "list" #[] 0)).update s.heap.objs.size (XR (·++its.toArray))) (fun Q' q'=>collect_list pl.isList q' 1e2) (fun b u e=>?_) ?_ 1e2 (fun h2 h' k Q' q'=>?_) (fun h2 h' k i j C hi hj hC=>?_) (fun D h' c hD k e=>?_)
  ·rw[XW _ _ _ _ (Yr (Yz e))];exact Yc _ e
  ·rw[Heap.size_update,size_push'];lia
  ·exact Zdg (s:={ s with heap:=h' }) (hr.keep k) h2 hso q'
  ·exact ask_of (s:={ s with heap:=h' }) (hr.keep k) hso hcm (by rw[YU,YU];lia) hi hj hC
  ·rw[Zcc hl] at e
   refine ⟨.ref D,_,I.laid (t':=s.toks) k hD (show ObjOk X.prog X.w _ h' _ (.lst (sortV ps ys)) from ⟨?_,sortU ps its,c,?_,e⟩),rfl,q _ (I.hok.fresh hD)⟩
   ·unfold sortV
    rw[YA]
    have:(perm ps).length<=64:=by
     unfold perm
     split
     ·rw[X5];lia
     ·rename_i h2
      rw[YH]
      rw[(ZcB (o:=oP ps) 17e6 (ZbF 1e2)).2.1];lia
    exact YQ this (by rw[YS];decide)
   ·exact ZbO r' fun i hi=>by have:=Zbn i hi;lia
 ·cases hs
end
section
variable {X:Cx}{e:Expr}{es:6e1}{fs:2e8}{p pos:Pos}
theorem ZbP {ps qs:List PV}(e:sortP ps=some qs):qs=sortL ps:=by
 unfold sortP at e;split at e
 ·cases e;rfl
 ·cases e
end
end Pu
namespace Pu
open PySem PySem.Spec PySem.W
mutual
def pur:PV->Bool
 | .int _=>true
 | .str _=>true
 | .tup ps=>purs ps
 | _=>false
def purs:List PV->Bool
 | []=>true
 | p::ps=>pur p&&purs ps
end
mutual
def lT:PV->PV->Bool
 | .int a,.int b=>decide (a < b)
 | .int _,.str _=>true
 | .int _,.tup _=>true
 | .str a,.str b=>decide (a.cps.toList < b.cps.toList)
 | .str _,.tup _=>true
 | .tup xs,.tup ys=>lTs xs ys
 | _,_=>false
def lTs:List PV->List PV->Bool
 | [],[]=>false
 | [],_::_=>true
 | _::_,[]=>false
 | x::xs,y::ys=>if eqD x y then lTs xs ys else lT x y
end
mutual
theorem Zbq:∀(p:PV) {q:PV},pur p=true->pur q=true->(eqD p q=true↔p=q)
 | .int a,q,_,hq=>by cases q<;>simp[eqD]<;>simp[pur] at hq
 | .str a,q,_,_=>by cases q<;>simp[eqD]
 | .tup ps,q,h,hq=>by
  unfold pur at h
  cases q with
  | tup qs=>unfold pur at hq;unfold eqD;rw[ZcP ps h hq];simp
  | _=>simp[eqD]
 | .non,q,h,_=>by simp[pur] at h
 | .bl _,q,h,_=>by simp[pur] at h
 | .lst _,q,h,_=>by simp[pur] at h
 | .dct _ _,q,h,_=>by simp[pur] at h
 | .dtt _ _,q,h,_=>by simp[pur] at h
 | .fn _,q,h,_=>by simp[pur] at h
 | .ty _,q,h,_=>by simp[pur] at h
theorem ZcP:∀(ps:List PV) {qs:List PV},purs ps=true->purs qs=true->(eqDs ps qs=true↔ps=qs)
 | [],qs,_,_=>by cases qs<;>simp[eqDs]
 | p::ps,qs,h,hq=>by
  unfold purs at h
  rw[Yt] at h
  cases qs with
  | nil=>simp[eqDs]
  | cons q qs=>
   unfold purs at hq
   rw[Yt] at hq
   unfold eqDs;rw[Yt,Zbq p h.1 hq.1,ZcP ps h.2 hq.2,Wu]
end
theorem Zcj {p:PV}(h:pur p=true):eqD p p=true:=(Zbq p h h).mpr rfl
theorem str_tri {a b:Str}(h1:¬a.cps.toList < b.cps.toList)(h2:¬b.cps.toList < a.cps.toList):a=b:=by
 obtain ⟨⟨x⟩⟩:=a
 obtain ⟨⟨y⟩⟩:=b
 have:x=y:=List.le_antisymm (List.not_lt.mp h2) (List.not_lt.mp h1)
 rw[this]
mutual
theorem lT_irr:∀(p:PV),pur p=true->lT p p=false
 | .int a,_=>by simp[lT]
 | .str a,_=>by simp[lT,List.lt_irrefl]
 | .tup ps,h=>by unfold pur at h;unfold lT;exact lTs_irr ps h
 | .non,_=>by simp[lT]
 | .bl _,_=>by simp[lT]
 | .lst _,_=>by simp[lT]
 | .dct _ _,_=>by simp[lT]
 | .dtt _ _,_=>by simp[lT]
 | .fn _,_=>by simp[lT]
 | .ty _,_=>by simp[lT]
theorem lTs_irr:∀(ps:List PV),purs ps=true->lTs ps ps=false
 | [],_=>by simp[lTs]
 | p::ps,h=>by
  unfold purs at h;rw[Yt] at h
  unfold lTs;rw[Zcj h.1,if_pos rfl];exact lTs_irr ps h.2
end
mutual
theorem lT_tri:∀(p:PV) {q:PV},pur p=true->pur q=true->lT p q=false->lT q p=false->p=q
 | .int a,q,_,hq,h1,h2=>by
  cases q<;>simp[lT,pur] at h1 h2 hq ⊢
  lia
 | .str a,q,_,hq,h1,h2=>by
  cases q with
  | str b=>
   unfold lT at h1 h2
   have:a=b:=str_tri (of_decide_eq_false h1) (of_decide_eq_false h2)
   rw[this]
  | int _=>simp[lT] at h2
  | tup _=>simp[lT] at h1
  | _=>simp[pur] at hq
 | .tup ps,q,h,hq,h1,h2=>by
  unfold pur at h
  cases q with
  | tup qs=>unfold pur at hq;unfold lT at h1 h2;rw[lTs_tri ps h hq h1 h2]
  | int _=>simp[lT] at h2
  | str _=>simp[lT] at h2
  | _=>simp[pur] at hq
 | .non,q,h,_,_,_=>by simp[pur] at h
 | .bl _,q,h,_,_,_=>by simp[pur] at h
 | .lst _,q,h,_,_,_=>by simp[pur] at h
 | .dct _ _,q,h,_,_,_=>by simp[pur] at h
 | .dtt _ _,q,h,_,_,_=>by simp[pur] at h
 | .fn _,q,h,_,_,_=>by simp[pur] at h
 | .ty _,q,h,_,_,_=>by simp[pur] at h
theorem lTs_tri:∀(ps:List PV) {qs:List PV},purs ps=true->purs qs=true->lTs ps qs=false->lTs qs ps=false->ps=qs
 | [],qs,_,_,h1,h2=>by cases qs<;>simp[lTs] at h1 h2 ⊢
 | p::ps,qs,h,hq,h1,h2=>by
  unfold purs at h;rw[Yt] at h
  cases qs with
  | nil=>simp[lTs] at h2
  | cons q qs=>
   unfold purs at hq;rw[Yt] at hq
   unfold lTs at h1 h2
   by_cases e:p=q
   ·subst e
    rw[Zcj h.1,if_pos rfl] at h1 h2
    rw[lTs_tri ps h.2 hq.2 h1 h2]
   ·rw[if_neg (fun z=>e ((Zbq p h.1 hq.1).mp z))] at h1
    rw[if_neg (fun z=>e ((Zbq q hq.1 h.1).mp z).symm)] at h2
    exact absurd (lT_tri p h.1 hq.1 h1 h2) e
end
mutual
theorem lT_tr:∀(p:PV) {q r:PV},pur p=true->pur q=true->pur r=true->lT p q=true->lT q r=true->lT p r=true
 | .int a,q,r,_,hq,hr,h1,h2=>by
  cases q<;>cases r<;>simp[lT,pur] at h1 h2 hq hr ⊢
  lia
 | .str a,q,r,_,hq,hr,h1,h2=>by
  cases q<;>cases r<;>simp[lT,pur] at h1 h2 hq hr ⊢
  exact List.lt_trans h1 h2
 | .tup ps,q,r,h,hq,hr,h1,h2=>by
  unfold pur at h
  cases q with
  | tup qs=>
   cases r with
   | tup rs=>unfold pur at hq hr;unfold lT at h1 h2 ⊢;exact lTs_tr ps h hq hr h1 h2
   | _=>simp[lT] at h2
  | _=>simp[lT] at h1
 | .non,q,r,h,_,_,_,_=>by simp[pur] at h
 | .bl _,q,r,h,_,_,_,_=>by simp[pur] at h
 | .lst _,q,r,h,_,_,_,_=>by simp[pur] at h
 | .dct _ _,q,r,h,_,_,_,_=>by simp[pur] at h
 | .dtt _ _,q,r,h,_,_,_,_=>by simp[pur] at h
 | .fn _,q,r,h,_,_,_,_=>by simp[pur] at h
 | .ty _,q,r,h,_,_,_,_=>by simp[pur] at h
theorem lTs_tr:∀(ps:List PV) {qs rs:List PV},purs ps=true->purs qs=true->purs rs=true->lTs ps qs=true->lTs qs rs=true->lTs ps rs=true
 | [],qs,rs,_,_,_,h1,h2=>by cases qs<;>cases rs<;>simp[lTs] at h1 h2 ⊢
 | p::ps,qs,rs,h,hq,hr,h1,h2=>by
  unfold purs at h;rw[Yt] at h
  cases qs with
  | nil=>simp[lTs] at h1
  | cons q qs=>
   cases rs with
   | nil=>simp[lTs] at h2
   | cons r rs=>
    unfold purs at hq hr;rw[Yt] at hq hr
    unfold lTs at h1 h2 ⊢
    by_cases e:p=q
    ·subst e
     rw[Zcj h.1,if_pos rfl] at h1
     by_cases e2:p=r
     ·subst e2
      rw[Zcj h.1,if_pos rfl] at h2 ⊢
      exact lTs_tr ps h.2 hq.2 hr.2 h1 h2
     ·have ne:=fun z=>e2 ((Zbq p h.1 hr.1).mp z)
      rw[if_neg ne] at h2 ⊢;exact h2
    ·rw[if_neg (fun z=>e ((Zbq p h.1 hq.1).mp z))] at h1
     by_cases e2:q=r
     ·subst e2
      rw[if_neg (fun z=>e ((Zbq p h.1 hq.1).mp z))];exact h1
     ·rw[if_neg (fun z=>e2 ((Zbq q hq.1 hr.1).mp z))] at h2
      have t:=lT_tr p h.1 hq.1 hr.1 h1 h2
      by_cases e3:p=r
      ·subst e3;rw[lT_irr p h.1] at t;cases t
      ·rw[if_neg (fun z=>e3 ((Zbq p h.1 hr.1).mp z))];exact t
end
mutual
theorem ltD_lT:∀(p:PV) {q:PV} {c:Bool},ltD p q=some c->c=lT p q
 | .int a,q,c,e=>by cases q<;>simp[ltD,lT] at e ⊢<;>exact e.symm
 | .str a,q,c,e=>by cases q<;>simp[ltD,lT] at e ⊢<;>exact e.symm
 | .tup ps,q,c,e=>by
  cases q with
  | tup qs=>unfold ltD at e;unfold lT;exact lexD_lT ps e
  | _=>simp[ltD] at e
 | .non,q,c,e=>by simp[ltD] at e
 | .bl _,q,c,e=>by simp[ltD] at e
 | .lst _,q,c,e=>by simp[ltD] at e
 | .dct _ _,q,c,e=>by simp[ltD] at e
 | .dtt _ _,q,c,e=>by simp[ltD] at e
 | .fn _,q,c,e=>by simp[ltD] at e
 | .ty _,q,c,e=>by simp[ltD] at e
theorem lexD_lT:∀(ps:List PV) {qs:List PV} {c:Bool},lexD ps qs=some c->c=lTs ps qs
 | [],qs,c,e=>by cases qs<;>simp[lexD,lTs] at e ⊢<;>simp[e]
 | p::ps,qs,c,e=>by
  cases qs with
  | nil=>simp[lexD,lTs] at e ⊢;simp[e]
  | cons q qs=>
   unfold lexD at e;unfold lTs
   split at e
   ·rename_i z;rw[if_pos z];exact lexD_lT ps e
   ·rename_i z;rw[if_neg z];exact ltD_lT p e
end
theorem ZcM:∀{ps:List PV},purs ps=true->∀p∈ps,pur p=true
 | [],_,p,hp=>by cases hp
 | q::ps,h,p,hp=>by
  unfold purs at h;rw[Yt] at h
  rcases Ym.mp hp with rfl | hp
  ·exact h.1
  ·exact ZcM h.2 p hp
theorem oP_eq {ps:List PV}(h1:1<=ps.length)(hc:cmpAll ps=true)(i j:Nat):oP ps i j=lT (ps.getD (min i 19e6) .non) (ps.getD (min j 19e6) .non):=by
 have mi:=Zce (ps:=ps) (i:=min i 19e6) 1e2
 have mj:=Zce (ps:=ps) (i:=min j 19e6) 1e2
 obtain ⟨c,e⟩:=Vb.mp (YW.mp (YW.mp hc _ mi) _ mj)
 unfold oP;rw[e];exact ltD_lT _ e
theorem wk_of {ps:List PV}(h1:1<=ps.length)(hc:cmpAll ps=true)(hp:purs ps=true):Wk (oP ps):=by
 have P:∀i,pur (ps.getD (min i 19e6) .non)=true:=fun i=>ZcM hp _ (Zce 1e2)
 have irr:∀a,oP ps a a=false:=fun a=>by rw[oP_eq h1 hc];exact lT_irr _ (P a)
 have asy:∀a b,oP ps a b=true->oP ps b a=false:=fun a b h=>by
  rw[oP_eq h1 hc] at h ⊢
  cases e:lT (ps.getD (min b 19e6) .non) (ps.getD (min a 19e6) .non) with
  | false=>rfl
  | true=>
   have t:=lT_tr _ (P a) (P b) (P a) h e
   rw[lT_irr _ (P a)] at t;cases t
 refine ⟨irr,asy,fun a b c h2 h3=>?_⟩
 rw[oP_eq h1 hc] at h2 h3 ⊢
 cases e:lT (ps.getD (min c 19e6) .non) (ps.getD (min a 19e6) .non) with
 | false=>rfl
 | true=>
  cases e2:lT (ps.getD (min a 19e6) .non) (ps.getD (min b 19e6) .non) with
  | true=>rw[lT_tr _ (P c) (P a) (P b) e e2] at h3;cases h3
  | false=>rw[lT_tri _ (P a) (P b) e2 h2] at e;rw[e] at h3;cases h3
theorem Zbo (ps:List PV):(Yi ps.length).map (fun i=>ps.getD i .non)=ps:=by
 apply Xe
 intro i
 rw[YL]
 by_cases hi:i < ps.length
 ·rw[VL hi];simp[hi]
 ·rw[Xw 11e0,Xw 1e2];rfl
theorem Zbr {ps:List PV}(hc:cmpAll ps=true)(hp:purs ps=true):(sortL ps).Perm ps:=by
 unfold sortL perm
 split
 ·rw[Zbo]
 ·rename_i h2
  have S:=(sort_ok (wk_of 1e2 hc hp) (n:=ps.length) 1e2).1
  have:=(W1.mp S).map fun i=>ps.getD i .non
  rw[show (WX (Yi ps.length)).toList=Yi ps.length by simp,Zbo] at this
  exact this
def Rising (qs:List PV):Prop:=qs.Pairwise fun a b=>lT b a=false
theorem ZbG {ps:List PV}(hc:cmpAll ps=true)(hp:purs ps=true):Rising (sortL ps):=by
 unfold Rising sortL perm
 split
 ·rename_i h2
  rw[Zbo]
  match ps,h2 with
  | [],_=>exact .nil
  | [p],_=>exact List.pairwise_singleton _ _
 ·rename_i h2
  have W:=wk_of 1e2 hc hp
  have S:=(sort_ok W (n:=ps.length) 1e2).2
  have B:=ZcB (o:=oP ps) 17e6 (ZbF 1e2)
  rw[XH,List.pairwise_iff_getElem]
  intro i j hi hj hij
  have hz:(runT (oP ps) 17e6).size=ps.length:=B.2.1
  rw[YH] at hi hj
  have s:=S i j 1e2 1e2
  have g:∀k,k < (runT (oP ps) 17e6).size->(runT (oP ps) 17e6).getD k 0=(runT (oP ps) 17e6).toList[k]!:=fun k hk=>by
   rw[YI];simp[hk]
  rw[g i hi,g j hj] at s
  have b:∀k,(hk:k < (runT (oP ps) 17e6).toList.length)->(runT (oP ps) 17e6).toList[k]! = (runT (oP ps) 17e6).toList[k]:=fun k hk=>by
   rw[List.getElem!_eq_getElem?_getD,Yb hk];rfl
  rw[b i (by simpa using hi),b j (by simpa using hj)] at s
  have l:∀k,(hk:k < (runT (oP ps) 17e6).toList.length)->(runT (oP ps) 17e6).toList[k] < ps.length:=fun k hk=>B.2.2 _ (Y2 hk)
  have l1:=l i (by simpa using hi)
  have l2:=l j (by simpa using hj)
  rw[oP_eq 1e2 hc,WY 1e2,WY 1e2] at s
  exact s
theorem Zbz:∀{xs ys:List PV},purs xs=true->xs.Perm ys->Rising xs->Rising ys->xs=ys
 | [],ys,_,hp,_,_=>by rw[hp.symm.eq_nil]
 | x::xs,ys,h,hp,h1,h2=>by
  cases ys with
  | nil=>exact absurd hp.length_eq 4e6
  | cons y ys=>
   have hm:∀z∈x::xs,pur z=true:=ZcM h
   have my:pur y=true:=hm y (hp.mem_iff.mpr (.head _))
   have mx:pur x=true:=hm x (.head _)
   unfold Rising at h1 h2
   rw[List.pairwise_cons] at h1 h2
   have e:x=y:=by
    have a:lT y x=false:=by
     rcases Ym.mp (hp.mem_iff.mpr (YM (a:=y) (l:=ys))) with e | e
     ·rw[e];exact lT_irr _ mx
     ·exact h1.1 y e
    have b:lT x y=false:=by
     rcases Ym.mp (hp.mem_iff.mp (YM (a:=x) (l:=xs))) with e | e
     ·rw[e];exact lT_irr _ my
     ·exact h2.1 x e
    exact lT_tri x mx my b a
   subst e
   unfold purs at h;rw[Yt] at h
   rw[Zbz h.2 (List.perm_cons _ |>.mp hp) h1.2 h2.2]
theorem sortL_eq {ps ys:List PV}(hc:cmpAll ps=true)(hp:purs ps=true)(e:ps.Perm ys)(r:Rising ys):sortL ps=ys:=by
 have pl:=Zbr hc hp
 refine Zbz ?_ (pl.trans e) (ZbG hc hp) r
 have m:=ZcM hp
 have:∀{l:List PV},(∀p∈l,pur p=true)->purs l=true:=fun {l}=>by
  intro h
  induction l with
  | nil=>rfl
  | cons q l ih=>unfold purs;rw[h q (.head _),ih fun p hp=>h p (.tail _ hp)];rfl
 exact this fun p h=>m p (pl.mem_iff.mp h)
end Pu
namespace Pu
open PySem PySem.W PySem.Calls
open PyProof.Rows hiding St Fr
def RawD (h:Heap)(d:Addr)(es:Array V7)(ep:Nat):Prop:=∃o,h.get? d=some o/\o.ExactDict/\o.data=.dict es ep
section
variable {prog:YD}{w:World}{A:Around}{E:1e7}{s:Shared}{d it:Addr}{es:Array V7}{ep i:Nat}
theorem RawD.at {h h':Heap}(x:RawD h d es ep)(e:∀o,h.get? d=some o->h'.get? d=some o):RawD h' d es ep:=let ⟨o,ho,r⟩:=x;⟨o,e _ ho,r⟩
theorem RawD.ty (x:RawD s.heap d es ep):s.TypeIs (.ref d) "dict":=let ⟨o,ho,hc,_⟩:=x;⟨o,ho,hc.1⟩
theorem RawD.lt {h:Heap}(x:RawD h d es ep):d < h.objs.size:=let ⟨_,ho,_⟩:=x;Yz ho
theorem raw_iter {Q:1e7}(lo:(d==Wd)=false)(hm:RawD s.heap d es ep)
  (q:Q 10e1 { s with heap:=s.heap.push { cls:=.type "dict_keyiterator",data:=.fields #[.ref d,.int 0 0,.int es.size 0,.int ep 0] } }):wpAny (model prog w) A (pyIter (.ref d)) Q E s:=by
 obtain ⟨o1,b1,b2,b3⟩:=id hm
 have shows:Builtin.Dict.showsAll d=pure ():=by delta Builtin.Dict.showsAll;simp only[lo];rfl
 have own:∀{P:1e7} {B:1e7} {A':Around},P (.ref d) s->wpAny 3e2 A' (Builtin.Dict.dictSlotNone "__iter__" ⟨[.ref d],[]⟩) P B s:=fun z=>by
  delta Builtin.Dict.dictSlotNone
  exact Ya (wpAny_notOrdered_dict hm.ty (Yd z))
 apply Ua hm.ty F.slot_dict_iter
 apply Xc F.slot_dict_iter hm.ty F.entry_dict_iter _ (F.args_dict_iter_1 _)
 delta W2.«dict.__iter__»
 apply Ya
 apply own
 repeat first
  | refine wpAny_of_eq shows ?_
  | refine wpAny_dictEntries b1 b3 ?_
  | refine wpAny_dictEpoch b1 b3 ?_
  | refine XA ?_
  | apply Ya
  | apply Yd
 exact ⟨_,rfl,"dict_keyiterator",_,⟨_,Yp _ rfl,rfl⟩,WL.lookup,by simpa[rawInt] using q⟩
theorem raw_next {Q:Option Value->Shared->Prop}(hh:es[i]? = none->A.handled=none)(hit:s.heap.IsKeyIter it d i es.size ep)(hm:RawD s.heap d es ep)
  (q1:∀e,es[i]? = some e->∀h',h'.IsKeyIter it d (i + 1) es.size ep->Wg it s.heap h'->Q (some e.key) { s with heap:=h' })
  (q2:es[i]? = none->∀h',UQ it s.heap h'->Q none { s with heap:=h' }):wpAny (model prog w) A (pyNext (.ref it)) Q E s:=by
 obtain ⟨o1,a1,a2,a3⟩:=id hit
 obtain ⟨o2,b1,b2,b3⟩:=hm
 have one:Builtin.Dict_items.ownsTuple "dict_keyiterator"=false:=by decide
 have there:(YE d==XQ)=false:=rfl
 delta pyNext
 apply Ya
 apply VH
 apply Xz (name:=WQ "__next__") hit.typeIs WL
 apply Xc WL hit.typeIs F.entry_dict_keyiterator_next _ (F.args_dict_keyiterator_next_1 _)
 repeat first
  | refine WG hit.typeIs ?_
  | refine Vv a1 a3 ?_
  | refine wpAny_dictEntries b1 b3 ?_
  | refine wpAny_dictEpoch b1 b3 ?_
  | simp only[one,there,bne_self_eq_false,YO,if_false]
  | apply Ya
  | apply Yd
 have up:¬(i:Int) < 0:=by lia
 simp only[up,if_false,Xy]
 cases hx:es[i]? with
 | some e=>
  have on:(s.heap.update it (Wi (·.setIfInBounds 1 (rawInt ((i:Int) + 1))))).IsKeyIter it d (i + 1) es.size ep:=⟨_,XG _ a1 (Wj (Xr a3 _)),(Vu ..).trans a2,by rw[Xr a3];simp[rawInt]⟩
  have ty:({ s with heap:=s.heap.update it (Wi (·.setIfInBounds 1 (rawInt ((i:Int) + 1)))) }:Shared).TypeIs (.ref it) "dict_keyiterator":=Heap.IsKeyIter.typeIs on
  dsimp only
  repeat first
   | refine WG hit.typeIs ?_
   | refine wpAny_isOneOf_keyiter hit.typeIs ?_
   | refine wpAny_isOneOf_keyiter ty ?_
   | simp only[one,YO,if_false,WV]
   | refine Wn a1 a3 (by simp) ?_
   | apply Xk
   | apply Ya
   | apply Yd
  exact ⟨_,rfl,Yd (q1 e hx _ on (Xj ..))⟩
 | none=>
  have calm:A.in1.handled=none:=hh hx
  dsimp only
  repeat first
   | refine WG hit.typeIs ?_
   | simp only[one,YO,if_false,WV]
   | refine Wn a1 a3 (by simp) ?_
   | refine wpAny_alloc' ?_
   | refine VM calm ?_
   | apply Ya
   | apply Yd
  refine wpAny_loadPart (Yp _ rfl) (Yd ?_)
  have stop:isSubtype (.type "StopIteration") (.type "StopIteration")=pure true:=isSubtype_stop
  dsimp only
  rw[stop]
  exact Yd (Yd (q2 hx _ (((Xj ..).extBut.push _).push _)))
theorem raw_item {e:V7}{Q:Option Value->Shared->Prop}(hit:s.heap.IsKeyIter it d i es.size ep)(hm:RawD s.heap d es ep)(hx:es[i]? = some e)
  (q:∀h',h'.IsKeyIter it d (i + 1) es.size ep->Wg it s.heap h'->Q (some e.key) { s with heap:=h' }):wpAny (model prog w) A (pyNext (.ref it)) Q E s:=
 raw_next (fun z=>by rw[hx] at z;cases z) hit hm (fun e' z=>by rw[hx] at z;cases z;exact q) fun z=>by rw[hx] at z;cases z
theorem raw_end {Q:Option Value->Shared->Prop}(hh:18e6)(hit:s.heap.IsKeyIter it d i es.size ep)(hm:RawD s.heap d es ep)(hx:es.size<=i)
  (q:∀h',UQ it s.heap h'->Q none { s with heap:=h' }):wpAny (model prog w) A (pyNext (.ref it)) Q E s:=
 raw_next (fun _=>hh) hit hm (fun e' z=>by rw[YN hx] at z;cases z) fun _=>q
theorem raw_walks (hh:18e6)(I:Addr)(hne:d≠I):
  Walks prog w A I [I,d] [I] es.size (fun i v=>∃e,es[i]? = some e/\v=e.key) (fun i h=>h.IsKeyIter I d i es.size ep/\RawD h d es ep) where
 sub:=fun b hb=>by rw[Yk.mp hb];exact YM
 frame:=fun _ _ _ st hk=>⟨st.1.at (hk I (.head _)),st.2.at (hk d (.tail _ (.head _)))⟩
 item:=fun i s Q E hi st hQ=>by
  have hx:es[i]? = some es[i]:=Yj hi
  exact raw_item st.1 st.2 hx fun h' k2 sb=>hQ _ h' s.toks ⟨_,hx,rfl⟩ ⟨k2,st.2.at fun o e=>sb.extBut d o hne e⟩ fun b o hb e=>sb.extBut b o (fun z=>hb (Yk.mpr z)) e
 done:=fun s Q E st hQ=>raw_end hh st.1 st.2 (Yh _) fun h' x=>hQ h' s.toks fun b o hb e=>x b o (fun z=>hb (Yk.mpr z)) e
 self:=fun _ _ _ _ st hQ=>wpAny_pyIter_keyiter st.1 hQ
theorem raw_src (lo:(d==Wd)=false):KdlSrc prog w "dict" d d es.size (fun i v=>∃e,es[i]? = some e/\v=e.key) (fun h=>RawD h d es ep) where
 type:=fun _ hm=>hm.ty
 there:=fun _ hm=>⟨hm.lt,hm.lt⟩
 keep:=fun _ _ hm hk=>hm.at (hk d 17e4)
 notList:=by decide
 notTuple:=by decide
 hint:=fun _ _ _ _ hm hq=>kdl_hint_dict hm.ty hq
 iter:=fun _ _ hh hm=>⟨_,_,fun _ _ hq=>raw_iter lo hm hq,raw_walks hh _ (Yr hm.lt),⟨_,Yp _ rfl,rfl,rfl⟩,hm.at fun o e=>Yc _ e⟩
end
section
variable {prog:YD}{w:World}{A:Around}{E:1e7}{s:Shared}{T:String}{r d:Addr}{n:Nat}{P:Nat->Value->Prop}{OK:Heap->Prop}
theorem ext_src {R:16e2}(K:KdlSrc prog w T r d n P OK)(hh:18e6)(hok:OK s.heap)(S:Addr)(hSr:S≠r)(hSd:S≠d)(c₀:Nat)(hS:s.heap.get? S=some { cls:=.type "list",data:=.seq #[] c₀ })(hn:n<=Yu)
  (hR:∀h' tk acc c,(∀b o,b≠S->s.heap.get? b=some o->h'.get? b=some o)->h'.get? S=some { cls:=.type "list",dict:=none,data:=.seq acc c,slots:=#[] }->ItemsOf P acc n->R (.ok (.ret (.ref S))) { s with heap:=h',toks:=tk }):
  X3 3e2 A (.builtin "list.__iadd__" ⟨[.ref S,.ref r],[]⟩) R s:=by
 refine WZ Ul ?_
 rw[Around.under_plainId (show plainId "list.__iadd__"=true by decide +kernel) _]
 exact kdl_extend K hh hok S hSr hSd (.ref S) c₀ hS hR hn
theorem Zdt {Q:List Value->Shared->Prop}(K:KdlSrc prog w T r d n P OK)(hh:18e6)(hok:OK s.heap)(hn:n<=Yu)
  (h:∀h' tk acc,(∀b o,s.heap.get? b=some o->h'.get? b=some o)->s.heap.objs.size<=h'.objs.size->ItemsOf P acc n->Q acc.toList { s with heap:=h',toks:=tk }):wpAny (model prog w) A (Uz (.ref r)) Q E s:=by
 unfold Uz
 refine Ya (wpAny_runValue (WZ VE ?_))
 refine Ya (WB (Yd ⟨V1 _ 10e3,?_⟩))
 have hS:(s.heap.push (seqObj "list" #[] 0)).get? s.heap.objs.size=some { cls:=.type "list",data:=.seq #[] 0 }:=Yp _ rfl
 have hlt:=K.there _ hok
 refine ext_src (s:={ s with heap:=s.heap.push (seqObj "list" #[] 0) }) K hh (K.keep _ _ hok fun b _ o e=>Yc _ e) s.heap.objs.size (Wv hlt.1) (Wv hlt.2) 0 hS hn fun h' tk acc c k e ai=>?_
 refine Ya (wpAny_load e ?_)
 exact Yd (h h' tk acc (fun b o z=>k b o (Yr (Yz z)) (Yc _ z)) (Xv (Yz e)) ai)
end
section
variable {prog:YD}{w:World}{A:Around}{E:1e7}{s:Shared}{vs:4e9}{κ:VF}{o:16e3}
theorem Zco {v:Value}{Q:1e7}(hcol:∀(Q':List Value->Shared->Prop),(∀h1 tk,(∀b u,s.heap.get? b=some u->h1.get? b=some u)->s.heap.objs.size<=h1.objs.size->Q' vs { s with heap:=h1,toks:=tk })->wpAny (model prog w) A.in1 (Uz v) Q' E s)(h64:vs.length < 64)
  (hk:2<=vs.length->∀h' tk,7e6->∀Q:VF->Shared->Prop,Q κ { s with heap:=h',toks:=tk }->wpAny (model prog w) A.in1.in1 (keyKind' vs.toArray) Q (fun _ _=>False) { s with heap:=h',toks:=tk })
  (hc:2<=vs.length->∀h' tk,7e6->∀i j (C:9e6),i < vs.length->j < vs.length->C (o i j) { s with heap:=h',toks:=tk }->kas_ask prog w A.in1.in1 κ vs i j C { s with heap:=h',toks:=tk })
  (h:∀D h' tk c,s.heap.objs.size<=D->7e6->h'.get? D=some (seqObj "list" (outs2 o vs).toArray c)->Q (.ref D) { s with heap:=h',toks:=tk }):
  wpAny 3e2 A (call 18e4 [v]) Q E s:=by
 refine W7 kind_sorted plain_sorted entry_sorted (args_sorted1 _) ?_
 unfold W2.«sorted»
 refine Ya (m:=checkCount "sorted" 1 1 _) (Yd ?_);refine Ya (hcol _ fun h1 tk kp hle=>?_)
 refine Ya (WB ?_ (by rw[YS];lia))
 have hoL:(h1.push 10e8).get? h1.objs.size=some 10e8:=Yp _ rfl
 have keep:∀b u,s.heap.get? b=some u->(h1.push 10e8).get? b=some u:=fun b u e=>Yc _ (kp b u e)
 have kb:∀h',KeepBut h1.objs.size (h1.push 10e8) h'->∀b u,s.heap.get? b=some u->h'.get? b=some u:=fun h' k b u e=>
  k b u (Yr (Yn (Yz e) hle)) (keep b u e)
 show wpAny _ _ _ _ _ { s with heap:=h1.push (seqObj "list" vs.toArray 0),toks:=tk }
 refine Ya (Xk (Xc slot_list_sort ⟨_,hoL,rfl⟩ entry_list_sort ?body (args_list_sort _)))
 case body=>
  by_cases h2:vs.length < 2
  ·refine Zdc (s:={ s with heap:=h1.push (seqObj "list" vs.toArray 0),toks:=tk }) hoL h2 fun h' c k e=>⟨_,rfl,Yd ⟨_,rfl,h _ h' tk c hle (kb h' k) ?_⟩⟩
   unfold outs2;rw[if_pos h2];exact e
  ·refine lsort_at (s:={ s with heap:=h1.push (seqObj "list" vs.toArray 0),toks:=tk }) (κ:=κ) (o:=o) hoL (by lia) h64 (fun h' k=>hk (by lia) h' tk (kb h' k)) (fun h' k=>hc (by lia) h' tk (kb h' k)) fun h' c k e=>⟨_,rfl,Yd ⟨_,rfl,h _ h' tk c hle (kb h' k) ?_⟩⟩
   unfold outs2;rw[if_neg h2];exact e
end
end Pu
namespace Pu
open PySem PySem.Spec PySem.W PySem.Calls L2 PySem.SeqAt
open PyProof.Rows hiding St Fr
def tupK (k:11e9):PV:=.tup (k.map kP)
def keyOk:Key->Bool
 | .inl _=>true
 | .inr x=>decide (x.length<=1000)
def keysOk (ks:5e6):Bool:=ks.all fun k=>k.all keyOk
theorem rep_kP {K:W.Frag}{ι:4e3}{H:Hp}:∀{k:Key},keyOk k=true->Rep K ι H (kP k) (kV k)
 | .inl i,_=>repI
 | .inr x,h=>repS (k1000 (of_decide_eq_true h))
theorem reps_kP {K:W.Frag}{ι:4e3}{H:Hp}:∀{k:11e9},k.all keyOk=true->Reps K ι H (k.map kP) (k.map kV)
 | [],_=>.nil
 | x::k,h=>by
  rw[Vn,Yt] at h
  exact .cons (rep_kP h.1) (reps_kP h.2)
theorem rep_tupK {K:W.Frag}{ι:4e3}{H:Hp}{k:11e9}{b:Addr}(h:k.all keyOk=true)(e:H b=some (.tup (k.map kV))):Rep K ι H (tupK k) (.ref b):=by
 unfold tupK Rep;exact ⟨b,_,rfl,e,reps_kP h⟩
theorem kt_reps {K:W.Frag}{ι:4e3}{H:Hp}{kvs:19e2}{xs:List 13e6}(r:KT H kvs xs)(h:keysOk (kvs.map (·.1))=true):Reps K ι H (kvs.map fun q=>tupK q.1) (xs.map fun x=>V.ref x.2.1):=by
 induction r with
 | nil=>exact .nil
 | @cons p q ps qs a t ih=>
  rw[Yq] at h
  unfold keysOk at h
  rw[Vn,Yt] at h
  exact .cons (rep_tupK h.1 a.2.1) (ih h.2)
theorem ZcV:∀(xs:List 13e6),Vals (xs.map fun x=>V.ref x.2.1) (xs.map fun x=>YE x.2.1)
 | []=>.nil
 | x::xs=>.cons rfl (ZcV xs)
theorem items_raw {xs:List 13e6}{es:Array V7}{prog:YD}{w:World}{acc:Array Value}(he:es.toList=xs.map (entryOfKey (WO (mixKind prog w))))(h:ItemsOf (fun i v=>∃e,es[i]? = some e/\v=e.key) acc es.size):acc.toList=xs.map fun x=>YE x.2.1:=by
 have hl:es.size=xs.length:=size_of_entries he
 apply Xe
 intro i
 rw[Xg,YL]
 by_cases hi:i < acc.size
 ·obtain ⟨e,e1,e2⟩:=h.2 i _ (Yj hi)
  rw[Yj hi,e2]
  rw[entry_at he] at e1
  cases hx:xs[i]? with
  | none=>rw[hx] at e1;cases e1
  | some x=>rw[hx] at e1;cases e1;rfl
 ·rw[YN 1e2,Xw (by have:=h.1;lia)];rfl
section
variable {X:Cx}
def rSortedD (K:W.Frag):List V->Hp->VK->Prop:=fun xs H Q=>∃p kvs,xs=[.ref p]/\Rd H p (.dT kvs)/\keysOk (kvs.map (·.1))=true/\(sortP (kvs.map fun q=>tupK q.1)).isSome=true/\
 ∀ys:List V,(∀ι,Reps K ι H (kvs.map fun q=>tupK q.1) ys)->∀l,H l=none->Q (.ref l) (upd H l (.lst (sortV (kvs.map fun q=>tupK q.1) ys)))
theorem call_sortedD (hcm:11e5)(hu:8e8):CallR X 18e4 (rSortedD X.K):=by
 sleep 21
 obtain ⟨p,kvs,rfl,hq,hko,hs,q⟩:=h
 obtain ⟨u,rfl,rx⟩:=vals1 r
 cases rx
 obtain ⟨hz,lo,xs,kt,o,es,ep,ho,hex,hda,he,his,hnd⟩:=dt_rd I.hok hq
 have hl:es.size=xs.length:=size_of_entries he
 have hkl:kvs.length=xs.length:=Vf kt
 generalize hps:(kvs.map fun q=>tupK q.1)=ps at hs q
 have hpl:ps.length=kvs.length:=by rw[←hps,YA]
 have rs:∀ι,Reps X.K ι H ps (xs.map fun x=>V.ref x.2.1):=fun ι=>by rw[←hps];exact kt_reps kt hko
 unfold sortP at hs
 split at hs
 ·rename_i hh
  simp only[Yt,decide_eq_true_eq] at hh
  obtain ⟨⟨⟨⟨hd,hde⟩,h64⟩,hso⟩,hcm'⟩:=hh
  have hr:=Reps.heap I ps (rs []) (ZcV xs) hd
  have hvl:(xs.map fun x=>YE x.2.1).length=ps.length:=by rw[YA];lia
  refine Zco (vs:=xs.map fun x=>YE x.2.1) (κ:=kindP ps) (o:=oP ps) (fun Q' q'=>?_) 1e2 (fun h2 h' tk k Q' q'=>?_) (fun h2 h' tk k i j C hi hj hC=>?_) (fun D h' tk c hD k e=>?_)
  ·refine Zdt (raw_src (es:=es) (ep:=ep) lo) (I.ok.hd hcm) ⟨o,ho,hex,hda⟩ (by rw[YS];lia) fun h' tk acc k hle ai=>?_
   rw[items_raw he ai]
   exact q' h' tk k hle
  ·exact Zdg (s:={ s with heap:=h',toks:=tk }) (hr.keep k) h2 hso q'
  ·exact ask_of (s:={ s with heap:=h',toks:=tk }) (hr.keep k) hso hcm' (by rw[YU,YU];lia) hi hj hC
  ·rw[Zcc hvl.symm] at e
   refine ⟨.ref D,_,I.laid (t':=tk) k hD (show ObjOk X.prog X.w _ h' _ (.lst (sortV ps (xs.map fun x=>V.ref x.2.1))) from ⟨?_,sortU ps (xs.map fun x=>YE x.2.1),c,?_,e⟩),rfl,q _ rs _ (I.hok.fresh hD)⟩
   ·unfold sortV
    rw[YA]
    have:(perm ps).length<=64:=by
     unfold perm
     split
     ·rw[X5];lia
     ·rw[YH,(ZcB (o:=oP ps) 17e6 (ZbF 1e2)).2.1];lia
    exact YQ this (by rw[YS];decide)
   ·exact ZbO (ZcV xs) fun i hi=>by have:=Zbn i hi;lia
 ·cases hs
theorem collect_tup {prog:YD}{w:World}{A:Around}{E:1e7}{s:Shared}{l:Addr}{vs:4e9}{Q:List Value->Shared->Prop}(ht:s.heap.IsTuple l vs.toArray)(hsz:vs.length<=Yu)
  (h:∀h',(∀b o,s.heap.get? b=some o->h'.get? b=some o)->s.heap.objs.size<=h'.objs.size->Q vs { s with heap:=h' }):wpAny (model prog w) A (Uz (.ref l)) Q E s:=by
 obtain ⟨o,ho,hc,n,hd⟩:=ht
 have new:(s.heap.push (seqObj "list" #[] 0)).get? s.heap.objs.size=some (seqObj "list" #[] 0):=Yp _ rfl
 have hk:=Yc (seqObj "list" #[] 0) ho
 unfold Uz
 refine Ya (wpAny_runValue (WZ VE (Ya (WB (Yd ⟨V1 _ 10e3,WZ Ul ?_⟩)))))
 show wpAny _ _ (X9 10e1 (.ref l) 10e1) _ _ { s with heap:=s.heap.push (seqObj "list" #[] 0) }
 unfold X9
 refine Ya (Vd (T:="tuple") ⟨o,hk,hc⟩ ?_)
 have yes:(Ve 10e1 (.ref l)||Wo "tuple"==Wo "list"||Wo "tuple"==Wo "tuple")=true:=by rw[show (Wo "tuple"==Wo "tuple")=true by rfl,Bool.or_true]
 rw[if_pos yes]
 refine Ya (Uy hk hd (Ya (Uy new rfl ?_)))
 rw[if_neg 4e6];refine Ya (VG new rfl ?_ (YV _) (by show (#[]++vs.toArray).size<=Yu + 1;simp;lia))
 have e2:=Wt new (fun a=>a++vs.toArray)
 refine Yd (Ya (wpAny_load e2 ?_))
 show wpAny _ _ (pure ((#[]:Array Value)++vs.toArray).toList) Q E _
 rw[show ((#[]:Array Value)++vs.toArray).toList=vs by simp]
 refine Yd (h _ (fun b u e=>?_) ?_)
 ·rw[XW _ _ _ _ (Yr (Yz e))];exact Yc _ e
 ·rw[Heap.size_update,size_push'];lia
def rSortedT (K:W.Frag):List V->Hp->VK->Prop:=fun xs H Q=>∃p ys ι ps,xs=[.ref p]/\SqT K H p ys/\Reps K ι H ps ys/\(sortP ps).isSome=true/\∀l,H l=none->Q (.ref l) (upd H l (.lst (sortV ps ys)))
theorem call_sortedT (hu:8e8):CallR X 18e4 (rSortedT X.K):=by
 sleep 21
 obtain ⟨p,ys,ι,ps,rfl,hq,rs,hs,q⟩:=h
 obtain ⟨u,rfl,rx⟩:=vals1 r
 cases rx
 obtain ⟨its,r',pl,hz⟩:=I.tuple hq
 unfold sortP at hs
 split at hs
 ·rename_i hh
  simp only[Yt,decide_eq_true_eq] at hh
  obtain ⟨⟨⟨⟨hd,hde⟩,h64⟩,hso⟩,hcm⟩:=hh
  have hr:=Reps.heap I ps rs r' hd
  have hl:=hr.length
  have hyl:=r'.length
  refine Zco (vs:=its) (κ:=kindP ps) (o:=oP ps) (fun Q' q'=>collect_tup pl (by rw[YS];lia) fun h' k hle=>q' h' s.toks k hle) 1e2 (fun h2 h' tk k Q' q'=>?_) (fun h2 h' tk k i j C hi hj hC=>?_) (fun D h' tk c hD k e=>?_)
  ·exact Zdg (s:={ s with heap:=h',toks:=tk }) (hr.keep k) h2 hso q'
  ·exact ask_of (s:={ s with heap:=h',toks:=tk }) (hr.keep k) hso hcm (by rw[YU,YU];lia) hi hj hC
  ·rw[Zcc hl] at e
   refine ⟨.ref D,_,I.laid (t':=tk) k hD (show ObjOk X.prog X.w _ h' _ (.lst (sortV ps ys)) from ⟨?_,sortU ps its,c,?_,e⟩),rfl,q _ (I.hok.fresh hD)⟩
   ·unfold sortV
    rw[YA]
    have:(perm ps).length<=64:=by
     unfold perm
     split
     ·rw[X5];lia
     ·rw[YH,(ZcB (o:=oP ps) 17e6 (ZbF 1e2)).2.1];lia
    exact YQ this (by rw[YS];decide)
   ·exact ZbO r' fun i hi=>by have:=Zbn i hi;lia
 ·cases hs
def sortedH2 (C:Cs):List SV->Option 14e9
 | [x]=>match deref C x with
  | some (.lst xs)=>sortP xs
  | some (.tup xs)=>sortP xs
  | some (.dtt ks _)=>if keysOk ks then sortP (ks.map tupK) else none
  | _=>none
 | _=>none
def mSorted2 (fs:2e8):PSt->M 14e9:=fun ρ=>bnd (fs ρ) fun xs=>opM fun C=>sortedH2 C xs
theorem fm_sorted2 {e:Expr}{es:6e1}{fs:2e8}{p pos:Pos}(hcm:11e5)(hu:8e8)(hgl:Gl X "sorted")(hm:X.mg "sorted"=none)(hv:Xo "sorted"=some 18e4)(ha:AM X 9e1 fs)
  (he:1e8:=by rfl) (hpl:3e1:=by rfl):FM X (.Call (.Name "sorted" p) 9e1 [] pos) (mSorted2 fs):=
 PE.imp (pe_callB ((call_sorted hu).or ((call_sortedT hu).or (call_sortedD hcm hu))) hgl hm hv ha 1e6 1e6 he hpl) fun σ H Q h_=>by
  sleep 9
  sleep 10
  obtain ⟨e2,rfl⟩:=ZaQ e
  refine ⟨ι,ρ,C,xs,_,sr,e1,fun vs H1 f1 c1 r1=>?_⟩
  unfold sortedH2 at e2
  split at e2
  ·rename_i x
   obtain ⟨v,w,rfl,r1,hw⟩:=r1
   cases (show w=[] from hw)
   split at e2
   ·rename_i ps hd
    obtain ⟨a,ws,rfl,h1,r2⟩:=liesL (r1.lies c1 hd)
    refine .inl ⟨a,ws,ι,ps,rfl,h1,r2,by rw[e2];rfl,fun l hl=>?_⟩
    refine q l _ H1 f1 c1 hl ?_
    rw[ZbP e2]
    exact ZbS r2 fun i hi=>Zbn i hi
   ·rename_i ps hd
    obtain ⟨a,ws,rfl,h1,r2⟩:=liesT (r1.lies c1 hd)
    refine .inr (.inl ⟨a,ws,ι,ps,rfl,h1.sq,r2,by rw[e2];rfl,fun l hl=>?_⟩)
    refine q l _ H1 f1 c1 hl ?_
    rw[ZbP e2]
    exact ZbS r2 fun i hi=>Zbn i hi
   ·rename_i ks ps hd
    have li:=r1.lies c1 hd
    cases li with
    | @dtt a _ _ ws h1 hl r2=>
     by_cases hk:keysOk ks=true
     ·rw[if_pos hk] at e2
      have ek:((ks.zip ws).map fun q=>tupK q.1)=ks.map tupK:=by
       have:(ks.zip ws).map UF=ks:=W9 1e2
       exact (Xi (f:=UF) (g:=tupK) (l:=ks.zip ws)).symm.trans (by rw[this])
      have ef:(ks.zip ws).map (·.1)=ks:=W9 1e2
      refine .inr (.inr ⟨a,ks.zip ws,rfl,h1,by rw[ef];exact hk,by rw[ek,e2];rfl,fun ys ry l hl=>?_⟩)
      refine q l _ H1 f1 c1 hl ?_
      rw[ZbP e2,ek]
      have ry':=ry ι
      rw[ek] at ry'
      exact ZbS ry' fun i hi=>Zbn i hi
     ·rw[if_neg hk] at e2;cases e2
   ·cases e2
  ·cases e2
end
def inK {κ:Type} [DecidableEq κ](k:κ)(ks:List κ):Bool:=ks.any fun a=>decide (a=k)
def putKs {κ:Type} [DecidableEq κ](ks:List κ)(k:κ):List κ:=if inK k ks then ks else ks++[k]
def putVs {κ:Type} [DecidableEq κ]{α:Type}(ks:List κ)(xs:List α)(k:κ)(x:α):List α:=if inK k ks then (ks.zip xs).map (fun q=>if q.1=k then x else q.2) else xs++[x]
theorem Zbp {κ:Type} [DecidableEq κ]{k:κ}{ks:List κ}:inK k ks=true↔k∈ks:=by
 unfold inK;rw[List.any_eq_true]
 constructor
 ·rintro ⟨a,h,e⟩;rw[←of_decide_eq_true e];exact h
 ·intro h;exact ⟨k,h,decide_eq_true rfl⟩
theorem ZcU {κ:Type} [DecidableEq κ]{k:κ}{v:V}:∀{ks:List κ} {vs:List V},ks.length=vs.length->((ks.zip vs).map fun kv=>if kv.1=k then (kv.1,v) else kv)=ks.zip ((ks.zip vs).map fun q=>if q.1=k then v else q.2)
 | [],vs,_=>by simp
 | a::ks,[],h=>by simp at h
 | a::ks,b::vs,h=>by
  rw[Xh,Yq,Yq,Xh,ZcU 12e1]
  by_cases e:a=k
  ·simp[e]
  ·simp[e]
theorem zip_any {κ:Type} [DecidableEq κ]{k:κ}:∀{ks:List κ} {vs:List V},ks.length=vs.length->((ks.zip vs).any fun kv=>decide (kv.1=k))=inK k ks
 | [],vs,_=>by simp[inK]
 | a::ks,[],h=>by simp at h
 | a::ks,b::vs,h=>by
  rw[Xh,XN,zip_any 12e1]
  unfold inK;rw[XN]
theorem put_zip {κ:Type} [DecidableEq κ]{k:κ}{v:V}{ks:List κ}{vs:List V}(h:ks.length=vs.length):putK (ks.zip vs) k v=(putKs ks k).zip (putVs ks vs k v)/\(putKs ks k).length=(putVs ks vs k v).length:=by
 unfold putK putKs putVs
 rw[zip_any h]
 cases e:inK k ks with
 | true=>
  simp only[if_true]
  refine ⟨ZcU h,?_⟩
  rw[YA,VN];lia
 | false=>
  simp only[YO,if_false]
  refine ⟨?_,by simp[h]⟩
  rw[List.zip_append h];rfl
theorem reps_put {κ:Type} [DecidableEq κ]{K:W.Frag}{ι:4e3}{H:Hp}{k:κ}{p:PV}{v:V}(hp:Rep K ι H p v){ks:List κ}{ps:List PV}{vs:List V}(r:Reps K ι H ps vs):Reps K ι H (putVs ks ps k p) (putVs ks vs k v):=by
 unfold putVs
 by_cases e:inK k ks=true
 ·rw[if_pos e,if_pos e]
  clear e
  induction ks generalizing ps vs with
  | nil=>simp;exact .nil
  | cons a ks ih=>
   cases ps with
   | nil=>rw[r.inv0];simp;exact .nil
   | cons q ps=>
    obtain ⟨w,ws,rfl,h1,h2⟩:=r.inv
    rw[Xh,Xh,Yq,Yq]
    refine .cons ?_ (ih h2)
    by_cases z:a=k
    ·simp only[z,if_true];exact hp
    ·simp only[z,if_false];exact h1
 ·rw[if_neg e,if_neg e];exact r.append (.cons hp .nil)
def dFold {α:Type}:List (List Key×α)->List (List Key)->List α->List (List Key)×List α
  | [],ks,xs=>(ks,xs)
  | (k,x)::r,ks,xs=>dFold r (putKs ks k) (putVs ks xs k x)
def keysP:List PV->Option (List Key)
 | []=>some []
 | p::r=>match keyP p,keysP r with
  | some k,some ks=>some (k::ks)
  | _,_=>none
def pairP:PV->Option (List Key×PV)
 | .tup [.tup qs,v]=>(keysP qs).map fun k=>(k,v)
 | _=>none
section
variable {K:W.Frag}{ι:4e3}{H:Hp}
theorem rep_key {x:PV}{v:V}{q:Key}(l:Rep K ι H x v)(h:keyP x=some q):v=kV q:=lies_key (Rep.lies l) h
theorem Zc4:∀{qs:List PV} {ws:List V} {k:11e9},Reps K ι H qs ws->keysP qs=some k->ws=k.map kV
 | [],ws,k,r,e=>by cases e;exact r.inv0
 | p::qs,ws,k,r,e=>by
  obtain ⟨v,w,rfl,h1,h2⟩:=r.inv
  unfold keysP at e
  split at e
  ·rename_i a b e1 e2
   cases e
   rw[rep_key h1 e1,Zc4 h2 e2];rfl
  ·cases e
theorem ZbZ {qs:List PV}{k:11e9}{v:V}(r:Rep K ι H (.tup qs) v)(e:keysP qs=some k):∃b,v=.ref b/\H b=some (.tup (k.map kV)):=by
 unfold Rep at r
 obtain ⟨b,ws,rfl,h,rs⟩:=r
 rw[Zc4 rs e] at h
 exact ⟨b,rfl,h⟩
end
section
variable {X:Cx}{e o i:Expr}{es:6e1}{fs:2e8}{p pos pos':Pos}{x:Str}{fv fo fi:4e7}
def mNewT (i:Nat):PSt->M PF:=fun ρ C=>some (.nx (ρ.set i (some (.c C.length))),C++[.dtt [] []])
def setT (v o i:SV)(ρ:PSt):M PF:=fun C=>match o,i,v with
 | .c k,.v (.tup qs),.v p=>match C[k]?,keysP qs with
  | some (.dtt ks ps),some key=>if ks.length < 1000 then some (.nx ρ,C.set k (.dtt (putKs ks key) (putVs ks ps key p))) else none
  | _,_=>none
 | _,_,_=>none
def mSetIxT (fv fo fi:4e7):PSt->M PF:=fun ρ=>bnd (fv ρ) fun v=>bnd (fo ρ) fun o=>bnd (fi ρ) fun i=>setT v o i ρ
theorem setT_some {v o i:SV}{ρ:PSt}{C C2:Cs}{fl:PF}(h:setT v o i ρ C=some (fl,C2)):∃k qs p ks ps key,o=.c k/\i=.v (.tup qs)/\v=.v p/\C[k]? = some (.dtt ks ps)/\keysP qs=some key/\ks.length < 1000/\fl=.nx ρ/\C2=C.set k (.dtt (putKs ks key) (putVs ks ps key p)):=by
 unfold setT at h
 split at h
 ·split at h
  ·split at h
   ·cases h;exact ⟨_,_,_,_,_,_,rfl,rfl,rfl,by assumption,by assumption,by assumption,rfl,rfl⟩
   ·cases h
  ·cases h
 ·cases h
end
section
variable {X:Cx}
def isBP:PV->PV->Option PV
 | .bl a,.bl b=>some (.bl (a==b))
 | _,_=>none
def isntBP:PV->PV->Option PV
 | .bl a,.bl b=>some (.bl (!(a==b)))
 | _,_=>none
theorem op_isntB:OpR X (XU .IsNot) (fun x y H Q=>∃a b,x=.bl a/\y=.bl b/\Q (.bl (!(a==b))) H):=by
 sleep 4
 obtain ⟨a,b,rfl,rfl,q⟩:=h
 cases rx;cases ry
 cases a<;>cases b<;>exact Yd (ZaL I q rfl)
theorem isntB_ok:L2ok X.K (fun x y H Q=>∃a b,x=.bl a/\y=.bl b/\Q (.bl (!(a==b))) H) isntBP:=by
 sleep 8
 unfold isntBP at e
 split at e
 ·cases e;cases lx;cases ly;exact ⟨_,_,rfl,rfl,k _ H .refl cr repBl⟩
 ·cases e
end
def lookT:List (List Key)->List PV->List Key->Option PV
 | k::ks,v::vs,q=>if k=q then some v else lookT ks vs q
 | _,_,_=>none
theorem lookT_rep {K:W.Frag}{ι:4e3}{H:Hp}{q:11e9}:∀{ks:5e6} {ps:List PV} {vs:List V},ks.length=vs.length->Reps K ι H ps vs->
  (∀z,lookT ks ps q=some z->∃v,valV (ks.zip vs) q=some v/\Rep K ι H z v)/\(valV (ks.zip vs) q).isSome=inK q ks:=by
 intro ks
 induction ks with
 | nil=>
  intro ps vs hl r
  refine ⟨fun z h=>?_,rfl⟩
  cases ps<;>cases h
 | cons k ks ih=>
  intro ps vs hl r
  cases ps with
  | nil=>rw[r.inv0] at hl;cases hl
  | cons p ps=>
   obtain ⟨v,w,rfl,h1,h2⟩:=r.inv
   have ih:=ih (by simpa using hl) h2
   rw[Xh]
   unfold lookT inK
   rw[XN]
   by_cases h:k=q
   ·rw[if_pos h,Zb2 (p:=(k,v)) h,decide_eq_true h]
    exact ⟨fun z e=>by cases e;exact ⟨v,rfl,h1⟩,rfl⟩
   ·rw[if_neg h,Zb3 (p:=(k,v)) h,decide_eq_false h]
    exact ⟨ih.1,by rw[ih.2];rfl⟩
theorem dgetT {H:Hp}{a b:Addr}{kvs:19e2}{k:11e9}(e:Rd H a (.dT kvs))(eb:H b=some (.tup (k.map kV))):DGet H a (.ref b) (valV kvs k):=.inr ⟨kvs,k,b,e,rfl,eb,rfl⟩
theorem liesTT {K:W.Frag}{ι:4e3}{H:Hp}{ks:5e6}{ps:List PV}{v:V}(l:Lies K ι H (.dtt ks ps) v):∃(a:Addr) (vs:List V),v=.ref a/\Rd H a (.dT (ks.zip vs))/\ks.length=vs.length/\Reps K ι H ps vs:=by
 cases l;exact ⟨_,_,rfl,by assumption,by assumption,by assumption⟩
theorem lies_keys {K:W.Frag}{ι:4e3}{H:Hp}{qs:List PV}{k:11e9}{v:V}(l:Lies K ι H (.tup qs) v)(e:keysP qs=some k):∃b,v=.ref b/\H b=some (.tup (k.map kV)):=by
 obtain ⟨b,ws,rfl,h,rs⟩:=liesT l
 rw[Zc4 rs e] at h
 exact ⟨b,rfl,h⟩
def inTP (neg:Bool)(x y:PV):Option PV:=match x,y with
 | .tup qs,.dtt ks _=>match keysP qs with
  | some k=>some (.bl (if neg then !inK k ks else inK k ks))
  | none=>none
 | _,_=>none
section
variable {X:Cx}{a b:Expr}{fa fb:4e7}{pos:Pos}
def rInT (neg:Bool):R2:=fun x y H Q=>∃p o,y=.ref p/\DGet H p x o/\Q (.bl (if neg then !o.isSome else o.isSome)) H
theorem op_inT (hu:8e8):OpR X (XU .In) (rInT false):=by
 sleep 4
 obtain ⟨p,o,rfl,g,q⟩:=h
 cases ry
 exact d_in 1e2 I g rx fun s' I'=>⟨.bl o.isSome,H,I',rfl,q⟩
theorem op_notInT (hu:8e8):OpR X (XU .NotIn) (rInT true):=by
 sleep 4
 obtain ⟨p,o,rfl,g,q⟩:=h
 cases ry
 exact d_notIn 1e2 I g rx fun s' I'=>⟨.bl (!o.isSome),H,I',rfl,q⟩
theorem inT_ok {neg:Bool}:L2ok X.K (rInT neg) (inTP neg):=by
 sleep 8
 unfold inTP at e
 split at e
 ·split at e
  ·rename_i key hk
   cases e
   obtain ⟨b,rfl,hb⟩:=lies_keys lx hk
   obtain ⟨a,vs,rfl,hd,hl,r⟩:=liesTT ly
   refine ⟨a,_,rfl,dgetT hd hb,?_⟩
   rw[(lookT_rep hl r).2]
   exact k _ H .refl cr repBl
  ·cases e
 ·cases e
def ixT (x y:PV):Option PV:=match x with
 | .dtt ks vs=>match y with
  | .tup qs=>match keysP qs with
   | some q=>lookT ks vs q
   | none=>none
  | _=>none
 | x=>ixQ x y
end
end Pu
namespace Se
open PySem PySem.Spec L2
section
variable {prog:YD}{w:World}{A:Around}{E:1e7}{s:Shared}
theorem TI.fresh (led:Bool):TI (.fresh 0 0 led) #[]:=⟨⟨.inl rfl,rfl,fun a b x y _ h=>by simp[SetTable.fresh] at h,rfl,fun i j h=>by simp[SetTable.fresh] at h,fun i j e h=>by simp[SetTable.fresh] at h⟩,by show 0 * 5 < 7 * 3;decide⟩
end
end Se
namespace Se
open PySem PySem.SetTable
section
variable {prog:YD}{w:World}{K:Type} [DecidableEq K]{knd:KeyKind prog w K}{A:Around}{E:1e7}{s:Shared}
def SetU (knd:KeyKind prog w K)(h:Heap)(a:Addr)(L:Bool)(bs:List (List K×Addr)):Prop:=∃o es ep t,h.get? a=some o/\o.ExactSet/\o.data=.set es ep t/\t.led=L/\TI t es/\(bs.map (·.1)).Nodup/\
 es.toList.Perm (bs.map fun p=>(Ys knd p.1,YE p.2))
def insU (bs:List (List K×Addr))(k:List K)(x:Addr):List (List K×Addr):=if k∈bs.map (·.1) then bs else bs++[(k,x)]
theorem insU_in {bs:List (List K×Addr)}{k:List K}{x:Addr}(h:k∈bs.map (·.1)):insU bs k x=bs:=if_pos h
theorem insU_new {bs:List (List K×Addr)}{k:List K}{x:Addr}(h:k∉bs.map (·.1)):insU bs k x=bs++[(k,x)]:=if_neg h
theorem SetU.at {h h':Heap}{a:Addr}{L:Bool}{bs:List (List K×Addr)}(x:SetU knd h a L bs)(g:∀o,h.get? a=some o->h'.get? a=some o):SetU knd h' a L bs:=by
 obtain ⟨o,es,ep,t,ho,r⟩:=x
 exact ⟨o,es,ep,t,g _ ho,r⟩
theorem addU {a x:Addr}{k:List K}{bs:List (List K×Addr)}{L:Bool}{Q:9e6}(hu:5e4)(hS:SetU knd s.heap a L bs)(hbk:∀p∈bs,X4 knd s.heap p.1 p.2)(hk:X4 knd s.heap k x)(hroom:bs.length + 1 < 77)
  (h:∀(b:Bool) h',Wg a s.heap h'->SetU knd h' a L (insU bs k x)->Q b { s with heap:=h' }):
  wpAny 3e2 A (setAddHashed a (.ref x) (Ys knd k)) Q E s:=by
 obtain ⟨o,es,ep,t,ho,hex,hd,hL,T,nd,hpm⟩:=hS
 have hf:t.fits es.size=true:=T.fits (Xv T.few)
 have hlen:es.size=bs.length:=by rw[←YH,hpm.length_eq];simp
 have he:Els knd s.heap es:=fun i e q=>by
  have hm:e∈es.toList:=XY.mpr (Vy q)
  obtain ⟨p,hp,rfl⟩:=YB.mp (hpm.mem_iff.mp hm)
  exact ⟨p.1,p.2,rfl,hbk p hp⟩
 unfold setAddHashed setAddHashedIn
 refine Xk (Ya (YY ho hd hf ?_))
 dsimp only
 rw[show byScan (YE x) es=false from rfl]
 simp only[YO,↓reduceIte]
 have stay:k∈bs.map (·.1)->Q false s:=fun hin=>by
  have q:=h false s.heap (Heap.SameBut.refl a s.heap)
  rw[insU_in hin] at q
  exact q ⟨o,es,ep,t,ho,hex,hd,hL,T,nd,hpm⟩
 refine Ya ?_
 unfold setSearch
 obtain ⟨j0,hj0,e0⟩:=T.room (Nat.lt_succ_of_lt T.few)
 obtain ⟨c,hc,ec⟩:=(Wf.start t.mask (Ys knd k)).meets T.mm hj0
 refine search hu ho hd T he hk (fun i u b eb hb=>?_) (fun n hn hun=>?_) 100000 0 none rfl ⟨c,YV _,?_,(congrArg t.slot ec).trans e0⟩ (fun m hm=>absurd hm (X8 _))
 ·-- it is there
  have hm:(u,YE b)∈es.toList:=XY.mpr (Vy eb)
  obtain ⟨p,hp,q⟩:=YB.mp (hpm.mem_iff.mp hm)
  cases q
  have:=(hbk p hp).inj hb
  exact Yd (stay (by rw[←this];exact XF hp))
 ·-- it is new
  have hnew:k∉bs.map (·.1):=by
   intro hin
   obtain ⟨p,hp,rfl⟩:=YB.mp hin
   have hm:(Ys knd p.1,YE p.2)∈es.toList:=hpm.mem_iff.mpr (YB.mpr ⟨p,hp,rfl⟩)
   obtain ⟨i,hi,q⟩:=Array.getElem_of_mem (XY.mp hm)
   have ei:es[i]? = some (Ys knd p.1,YE p.2):=by rw[Yj hi,q]
   obtain ⟨j,pj⟩:∃j,t.place[i]? = some j:=⟨_,Yj (by rw[T.sz];exact hi)⟩
   obtain ⟨m,h1,h2⟩:=T.rc i j _ pj ei
   have h1:(it t.mask m (start t.mask (Ys knd p.1))).j=j:=h1
   rcases Vt m n with z | z | z
   ·obtain ⟨i',q1,q2⟩:=hun m z
    rw[h1,Zb4 T.rs pj] at q1
    cases q1
    exact q2 _ _ ei (hbk p hp)
   ·subst z
    rw[h1,Zb4 T.rs pj] at hn;cases hn
   ·obtain ⟨i',q1⟩:=h2 n z
    rw[Zb4 T.rs q1] at hn;cases hn
  have hway:∀m,m < n->∃i:Nat,t.place[i]? = some (it t.mask m 9e0).j:=fun m hm=>let ⟨i,q,_⟩:=hun m hm;⟨i,live_slot q⟩
  dsimp only
  refine Ya (YY ho hd hf ?_)
  dsimp only
  obtain ⟨t1,p,hput⟩:∃t1 p,t.put (it t.mask n (start t.mask (Ys knd k))).j=(t1,p):=⟨_,_,rfl⟩
  obtain ⟨hp,hmk,hld,T1⟩:=T.toT0.put (x:=YE x) (it_lt T.mm n) hn hway t1 p hput
  rw[hput]
  dsimp only
  have tail:∀b:Bool,wpAny 3e2 A (do
    storeSet a (insertAt es p (Ys knd k,YE x)) (if b=true then t1 else { t1 with plain:=false })
    if (!false&&(if b=true then t1 else { t1 with plain:=false }).tooFull)=true then do
      setRelay a (Vw (es.size + 1))
      pure true
     else pure true) Q E s:=by
   intro b
   have T2:=T1.plainOff b
   obtain ⟨m1,m2,m3⟩:=mask_off t1 b
   have m4:(if b=true then t1 else { t1 with plain:=false }).led=L:=by rw[←hL,←hld];cases b<;>rfl
   generalize (if b=true then t1 else { t1 with plain:=false })=t2 at T2 m1 m2 m3 m4 ⊢
   have hmk2:t2.mask=t.mask:=m1.trans hmk
   have hz:(insertAt es p (Ys knd k,YE x)).size=es.size + 1:=ins_size _ _ _
   have hbig:=T.few
   have hM:=T.mm.pos
   refine Ya (wpAny_storeSet_of ho hd ?_ (by rw[hz,YS];lia))
   have g1:=get_store ho hd (insertAt es p (Ys knd k,YE x)) t2
   have sb1:=Xj s.heap a (Obj.putSet (insertAt es p (Ys knd k,YE x)) t2)
   generalize hh1:s.heap.update a (Obj.putSet (insertAt es p (Ys knd k,YE x)) t2)=h1 at g1 sb1
   have done_:∀(h':Heap) (es':7e9) (ep':Nat) (t':XJ),Wg a s.heap h'->h'.get? a=some { o with data:=.set es' ep' t' }->TI t' es'->t'.led=L->es'.toList.Perm (es.toList++[(Ys knd k,YE x)])->Q true { s with heap:=h' }:=by
    intro h' es' ep' t' sb g Ti hl pm
    have q:=h true h' sb
    rw[insU_new hnew] at q
    refine q ⟨_,es',ep',t',g,hex,rfl,hl,Ti,?_,?_⟩
    ·rw[Y4,XB]
     exact ⟨nd,by simp,fun y hy z hz e=>by rw[List.map_singleton,Yk] at hz;subst hz;subst e;exact hnew hy⟩
    ·rw[Y4]
     exact pm.trans (hpm.append_right _)
   by_cases hfull:(es.size + 1) * 5 < t2.mask * 3
   ·have:t2.tooFull=false:=by
     unfold SetTable.tooFull SetTable.fill
     rw[T2.dm,T2.sz,hz]
     simp;lia
    rw[this]
    simp only[V6,YO,↓reduceIte]
    exact Yd (done_ h1 _ _ t2 sb1 g1 ⟨T2,by rw[hz];exact hfull⟩ m4 (perm_ins _ _ _))
   ·have:t2.tooFull=true:=by
     unfold SetTable.tooFull SetTable.fill
     rw[T2.dm,T2.sz,hz]
     simp;lia
    rw[this]
    simp only[Bool.not_false,Bool.and_self,↓reduceIte]
    refine Ya ?_
    unfold setRelay
    have hf2:t2.fits (insertAt es p (Ys knd k,YE x)).size=true:=T2.fits (by rw[hz,hmk2];lia)
    have hd1:({ o with data:=.set (insertAt es p (Ys knd k,YE x)) (ep + 1) t2 }:Obj).data=.set (insertAt es p (Ys knd k,YE x)) (ep + 1) t2:=rfl
    refine Ya (YY (s:={ s with heap:=h1 }) g1 hd1 hf2 ?_)
    dsimp only
    obtain ⟨gM,gS⟩:=grown_ok T.mm T.fl (by rw[hmk2] at hfull;exact hfull) (by rw[hlen];exact hroom)
    have hsl:¬V2 (Vw (es.size + 1)) > sizeLine:=by
     have:=gM.pos;rw[YS];lia
    rw[if_neg hsl]
    obtain ⟨t',order,e1,e2,e3,e4,_,e6⟩:=laid_ok (mask:=V2 (Vw (es.size + 1)) - 1) (finger:=t2.finger) (moves:=t2.movedTo (V2 (Vw (es.size + 1)) - 1)) (led:=t2.led) (plain:=t2.plain) gM (insertAt es p (Ys knd k,YE x)) (by rw[hz];exact gS)
    have e1:t2.relaid ((insertAt es p (Ys knd k,YE x)).map (·.1)) (Vw (es.size + 1))=some (t',order):=e1
    rw[e1]
    refine Ya ?_
    show wpAny _ _ (if ((order.filterMap ((insertAt es p (Ys knd k,YE x))[·]?)).size != (insertAt es p (Ys knd k,YE x)).size)=true then _ else _) _ _ _
    rw[if_neg (by rw[e2];simp)]
    refine Yd ?_
    dsimp only
    have g2:=get_store g1 hd1 (order.filterMap ((insertAt es p (Ys knd k,YE x))[·]?)) t'
    refine wpAny_storeSet_of (s:={ s with heap:=h1 }) g1 hd1 ?_ (by rw[e2,hz,YS];lia)
    exact Yd (done_ _ _ _ t' (sb1.trans (Xj _ a _)) g2 e4 (e6.trans m4) (e3.trans (perm_ins _ _ _)))
  cases hpl:t1.plain with
  | true=>
   simp only[↓reduceIte]
   refine Ya (hbv_tuple hk fun b=>?_)
   exact tail b
  | false=>
   simp only[YO,↓reduceIte]
   refine Ya (Yd ?_)
   exact tail true
 ·have:=T.mm.pos;unfold turns at hc;lia
end
section
variable {α:Type}{M:Model}{A:Around}{E:1e7}
theorem wpAny_choose {src:Source}{n:Nat}{s:Shared}{Q:Nat->Shared->Prop}(hn:n≠0)(h:∀i d,i < n->Q i { s with drawn:=d }):wpAny M A (choose src n) Q E s:=fun Γ p hΓ=>by
 unfold choose
 rw[Sem.wp_choose]
 exact ⟨hn,h _ _ (VI _ (Nat.pos_of_ne_zero hn))⟩
theorem Zcv:∀{l:List α} {i:Nat} {x:α},l[i]? = some x->(x::l.eraseIdx i).Perm l
 | [],_,_,h=>by simp at h
 | y::l,0,x,h=>by simp at h;subst h;simp
 | y::l,i + 1,x,h=>by
  have:=Zcv (l:=l) (i:=i) 12e1
  rw[List.eraseIdx_cons_succ]
  exact (List.Perm.swap y x _).trans (this.cons y)
theorem Zck:∀(n:Nat) (xs:List α) (s:Shared) (Q:List α->Shared->Prop),xs.length=n->(∀ys d,ys.Perm xs->Q ys { s with drawn:=d })->wpAny M A (drawOrder n xs) Q E s
 | 0,xs,s,Q,hn,h=>by
  have:xs=[]:=List.length_eq_zero_iff.mp hn
  subst this
  unfold drawOrder
  exact Yd (h [] s.drawn (.refl _))
 | n + 1,[],s,Q,hn,h=>by simp at hn
 | n + 1,x0::xs0,s,Q,hn,h=>by
  unfold drawOrder
  generalize hxs:x0::xs0=xs at *
  refine Ya (wpAny_choose 1e2 fun i d hi=>?_)
  obtain ⟨x,hx⟩:∃x,xs[i]? = some x:=⟨_,Yb hi⟩
  rw[hx]
  dsimp only
  refine Ya (Zck n (xs.eraseIdx i) _ _ (by rw[VU hi];lia) fun ys d' hp=>Yd (h (x::ys) d' ?_))
  exact (hp.cons x).trans (Zcv hx)
theorem pick_go {next:Nat->Nat}:∀(fuel k:Nat) (left:List α) (out:Array α),left.length=fuel->(pickOrder.go next fuel k left out).toList.Perm (out.toList++left)
 | 0,k,left,out,h=>by
  have:left=[]:=List.length_eq_zero_iff.mp h
  subst this
  unfold pickOrder.go;simp
 | f + 1,k,left,out,h=>by
  unfold pickOrder.go
  have hi:next k % left.length < left.length:=VI _ 1e2
  obtain ⟨x,hx⟩:∃x,left[next k % left.length]? = some x:=⟨_,Yb hi⟩
  rw[hx]
  dsimp only
  refine (pick_go f (k + 1) _ _ (by rw[VU hi];lia)).trans ?_
  rw[Array.toList_push,Yx]
  exact (Zcv hx).append_left _
theorem pick_perm {next:Nat->Nat}(xs:Array α):(UB next xs).toList.Perm xs.toList:=by
 have:=pick_go (next:=next) xs.size 0 xs.toList #[] 4e6
 simpa[UB] using this
end
theorem Zap:Slot "set_iterator" "__next__" "set_iterator.__next__":=
 .of (owner:="set_iterator") (n:="__next__") (by rw[typeLookup_type,builtinLookup_eq_fast];kernel_rfl) 10e3 10e3 10e3
  (by first | exact .inl 10e3 | exact .inr 10e3) (by rw[isSubtype_type];kernel_rfl)
theorem ZaJ:entryFor table "set_iterator.__next__"=some W2.«set_iterator.__next__»:=entryFor_of_tree (by kernel_rfl)
theorem Zbj:Manifest.owners.lookup (String.ofList ['r','o','t','a','r','e','t','i','_','t','e','s'].reverse)=some Manifest.sig_set_iterator:=by kernel_rfl
theorem ZaH (a:Value):argsOk "set_iterator.__next__" ⟨[a],[]⟩:=by
 unfold argsOk;rw[signature?_of (id:="set_iterator.__next__") (n:=['_','_','t','x','e','n','_','_']) (o:=['r','o','t','a','r','e','t','i','_','t','e','s']) (by kernel_rfl) Zbj];kernel_rfl
theorem ZdB:entryFor table "set.__iter__"=some W2.«frozenset.__iter__»:=entryFor_alias (id':="frozenset.__iter__") (by kernel_rfl) rfl 10e3 (by kernel_rfl)
def IsSetIter (h:Heap)(I:Addr)(first:Value)(i:Nat)(a:Addr)(n ep:Nat):Prop:=∃o,h.get? I=some o/\o.cls=.type "set_iterator"/\o.data=.fields #[first,.int i 0,.ref a,.int n 0,.int ep 0]
theorem IsSetIter.at {h h':Heap}{I a:Addr}{f:Value}{i n ep:Nat}(x:IsSetIter h I f i a n ep)(g:∀o,h.get? I=some o->h'.get? I=some o):IsSetIter h' I f i a n ep:=let ⟨o,ho,r⟩:=x;⟨o,g _ ho,r⟩
end Se
namespace Se
open PySem PySem.SetTable PySem.W
open PyProof.Rows hiding St Fr
def RawS (h:Heap)(a:Addr)(es:7e9)(ep:Nat)(t:XJ):Prop:=∃o,h.get? a=some o/\o.ExactSet/\o.data=.set es ep t
theorem RawS.at {h h':Heap}{a:Addr}{es:7e9}{ep:Nat}{t:XJ}(x:RawS h a es ep t)(g:∀o,h.get? a=some o->h'.get? a=some o):RawS h' a es ep t:=let ⟨o,ho,r⟩:=x;⟨o,g _ ho,r⟩
section
variable {prog:YD}{w:World}{A:Around}{E:1e7}{s:Shared}{I a T:Addr}{es:7e9}{ep i:Nat}{t:XJ}
theorem RawS.ty (x:16e7):s.TypeIs (.ref a) "set":=let ⟨o,ho,hc,_⟩:=x;⟨o,ho,hc.1⟩
theorem RawS.lt {h:Heap}(x:RawS h a es ep t):a < h.objs.size:=let ⟨_,ho,_⟩:=x;Yz ho
theorem IsSetIter.ty {f:Value}{n:Nat}(x:IsSetIter s.heap I f i a n ep):s.TypeIs (.ref I) "set_iterator":=let ⟨o,ho,hc,_⟩:=x;⟨o,ho,hc⟩
theorem next_slot {slot nx:Nat}{x:Value}{Q:Option Value->Shared->Prop}(hit:IsSetIter s.heap I (.int slot 0) i a es.size ep)(hm:16e7)(hf:t.fits es.size=true)
  (hn:∀(A':Around) (Q':Option (Value×Nat)->Shared->Prop) (E':1e7),Q' (some (x,nx)) s->wpAny 3e2 A' (setNext a slot i ep) Q' E' s)
  (q:∀h',IsSetIter h' I (.int nx 0) (i + 1) a es.size ep->Wg I s.heap h'->Q (some x) { s with heap:=h' }):wpAny (model prog w) A (pyNext (.ref I)) Q E s:=by
 have Ty:=hit.ty
 sleep 18
 case body=>
  unfold W2.«set_iterator.__next__»
  refine Ya (Yd ?_)
  refine Ya (Vv ho hd ?_)
  unfold UG
  refine Ya (Ya (YY hod hdd hf (Yd ?_)))
  rw[if_neg 4e6]
  dsimp only
  simp only[Xy]
  refine Ya (hn _ _ _ ?_)
  dsimp only
  refine Ya (Wn ho hd 4e6 ?_)
  have g1:=XG (Wi (·.setIfInBounds 0 (rawInt nx))) ho (Wj (Xr hd _))
  have d1:(Wi (·.setIfInBounds 0 (rawInt nx)) o).data=.fields #[.int nx 0,.int i 0,.ref a,.int es.size 0,.int ep 0]:=by rw[Xr hd];simp[rawInt]
  refine Ya (Wn (s:={ s with heap:=s.heap.update I (Wi (·.setIfInBounds 0 (rawInt nx))) }) g1 d1 (by simp) ?_)
  have g2:=XG (Wi (·.setIfInBounds 1 (rawInt ((i:Int) + 1)))) g1 (Wj (Xr d1 _))
  refine Yd ⟨_,rfl,Yd (q _ ⟨_,g2,by rw[Vu,Vu];exact hc,by rw[Xr d1];simp[rawInt]⟩ ((Xj ..).trans (Xj ..)))⟩
theorem end_slot {slot:Nat}{Q:Option Value->Shared->Prop}(hh:18e6)(hit:IsSetIter s.heap I (.int slot 0) i a es.size ep)(hm:16e7)(hf:t.fits es.size=true)
  (hn:∀(A':Around) (Q':Option (Value×Nat)->Shared->Prop) (E':1e7),Q' none s->wpAny 3e2 A' (setNext a slot i ep) Q' E' s)
  (q:∀h',UQ I s.heap h'->Q none { s with heap:=h' }):wpAny (model prog w) A (pyNext (.ref I)) Q E s:=by
 have Ty:=hit.ty
 sleep 18
 case body=>
  unfold W2.«set_iterator.__next__»
  refine Ya (Yd ?_)
  refine Ya (Vv ho hd ?_)
  unfold UG
  refine Ya (Ya (YY hod hdd hf (Yd ?_)))
  rw[if_neg 4e6]
  dsimp only
  simp only[Xy]
  refine Ya (hn _ _ _ ?_)
  dsimp only
  refine Ya (Wn ho hd 4e6 ?_)
  have calm:A.in1.handled=none:=hh
  have stop:isSubtype (.type "StopIteration") (.type "StopIteration")=pure true:=isSubtype_stop
  repeat first
   | refine wpAny_alloc' ?_
   | refine VM calm ?_
   | apply Ya
   | apply Yd
  refine wpAny_loadPart (Yp _ rfl) (Yd ?_)
  dsimp only
  rw[stop]
  exact Yd (Yd (q _ (((Xj ..).extBut.push _).push _)))
theorem next_tup {places:Array Value}{o':Obj}{pl c:Nat}{e:Int×Value}{Q:Option Value->Shared->Prop}(hit:IsSetIter s.heap I (.ref T) i a es.size ep)(hm:16e7)(hf:t.fits es.size=true)(hT:s.heap.get? T=some o')(hTd:o'.data=.seq places c)
  (hp:places[i]? = some (.int pl 0)) (he:es[pl]? = some e)
  (q:∀h',IsSetIter h' I (.ref T) (i + 1) a es.size ep->Wg I s.heap h'->Q (some e.2) { s with heap:=h' }):wpAny (model prog w) A (pyNext (.ref I)) Q E s:=by
 have Ty:=hit.ty
 sleep 18
 case body=>
  unfold W2.«set_iterator.__next__»
  refine Ya (Yd ?_)
  refine Ya (Vv ho hd ?_)
  unfold UG
  refine Ya (Ya (YY hod hdd hf (Yd ?_)))
  rw[if_neg 4e6]
  dsimp only
  refine Ya (V4 hT hTd ?_)
  simp only[Xy,hp]
  unfold setNextDrawn
  refine Ya (Ya (YY hod hdd hf ?_))
  dsimp only
  rw[if_neg 4e6,he]
  refine Yd ?_
  refine Ya (Wn ho hd 4e6 ?_)
  have g2:=XG (Wi (·.setIfInBounds 1 (rawInt ((i:Int) + 1)))) ho (Wj (Xr hd _))
  refine Yd ⟨_,rfl,Yd (q _ ⟨_,g2,by rw[Vu];exact hc,by rw[Xr hd];simp[rawInt]⟩ (Xj ..))⟩
theorem end_tup {places:Array Value}{o':Obj}{c:Nat}{Q:Option Value->Shared->Prop}(hh:18e6)(hit:IsSetIter s.heap I (.ref T) i a es.size ep)(hm:16e7)(hf:t.fits es.size=true)(hT:s.heap.get? T=some o')(hTd:o'.data=.seq places c)
  (hp:places.size<=i)
  (q:∀h',UQ I s.heap h'->Q none { s with heap:=h' }):wpAny (model prog w) A (pyNext (.ref I)) Q E s:=by
 have Ty:=hit.ty
 sleep 18
 case body=>
  unfold W2.«set_iterator.__next__»
  refine Ya (Yd ?_)
  refine Ya (Vv ho hd ?_)
  unfold UG
  refine Ya (Ya (YY hod hdd hf (Yd ?_)))
  rw[if_neg 4e6]
  dsimp only
  refine Ya (V4 hT hTd ?_)
  simp only[Xy,YN hp]
  refine Ya (Wn ho hd 4e6 ?_)
  have g1:=XG (Wi (·.setIfInBounds 0 (rawInt 0))) ho (Wj (Xr hd _))
  have d1:=Xr hd (·.setIfInBounds 0 (rawInt 0))
  refine Ya (Wn (s:={ s with heap:=s.heap.update I (Wi (·.setIfInBounds 0 (rawInt 0))) }) g1 d1 (by simp) ?_)
  have calm:A.in1.handled=none:=hh
  have stop:isSubtype (.type "StopIteration") (.type "StopIteration")=pure true:=isSubtype_stop
  repeat first
   | refine wpAny_alloc' ?_
   | refine VM calm ?_
   | apply Ya
   | apply Yd
  refine wpAny_loadPart (Yp _ rfl) (Yd ?_)
  dsimp only
  rw[stop]
  exact Yd (Yd (q _ ((((Xj ..).trans (Xj ..)).extBut.push _).push _)))
theorem ZcX {slot ep':Nat}{Q:Option (Value×Nat)->Shared->Prop}(hb:w.params.followText "set-order"=false)(hm:16e7)(hf:t.fits es.size=true)(hnd:(!t.plain&&decide (es.size > 1))=false)(hl:t.led=true)
  (q:Q (match es[below t.place slot]?,t.place[below t.place slot]? with | some (_,x),some j=>some (x,j + 1) | _,_=>none) s):wpAny (model prog w) A (setNext a slot i ep') Q E s:=by
 obtain ⟨od,hod,hcd,hdd⟩:=hm
 unfold setNext UH
 refine Ya (YY hod hdd hf ?_)
 dsimp only
 refine Ya (Ya (We (Yd ?_)))
 refine Wa (fun hab=>absurd (hab.symm.trans (show _=false from hb)) 1e6) (fun _=>?_)
 refine Wa (fun hab=>absurd (hab.symm.trans (show _=false from hnd)) 1e6) (fun _=>?_)
 refine Ya (Wa (fun hab=>absurd hab (by rw[hl];simp)) (fun _=>Yd ?_))
 exact Yd q
theorem ZcA {slot:Nat}{Q:Option (Value×Nat)->Shared->Prop}(hb:w.params.followText "set-order"=true)(hm:16e7)(hf:t.fits es.size=true)
  (q:Q (((UB (w.params.setOrder a ep) es)[i]?).map fun e=>(e.2,slot)) s):wpAny 3e2 A (setNext a slot i ep) Q E s:=by
 obtain ⟨od,hod,hcd,hdd⟩:=hm
 unfold setNext UH
 refine Ya (YY hod hdd hf ?_)
 dsimp only
 refine Ya (Ya (We (Yd ?_)))
 refine Wa (fun _=>?_) (fun hab=>absurd hb hab)
 refine Wa (fun hab=>absurd hab 4e6) (fun _=>?_)
 unfold setWalk UH
 refine Ya (Ya (YY hod hdd hf ?_))
 dsimp only
 refine Ya (Ya (We (Yd ?_)))
 refine Wa (fun _=>?_) (fun hab=>absurd hb hab)
 refine Ya (We (Yd ?_))
 exact Yd q
end
theorem below_zero {xs:13e4}(hr:Rising xs):below xs 0=0:=by
 obtain ⟨h1,h2,h3⟩:=ZcT hr 0
 rcases Nat.eq_zero_or_pos (below xs 0) with z | z
 ·exact z
 ·have hlt:0 < xs.size:=Yn z h3
  exact absurd (h1 0 _ z (Yj hlt)) (X8 _)
theorem below_next {xs:13e4}(hr:Rising xs){i j:Nat}(e:xs[i]? = some j):below xs (j + 1)=i + 1:=by
 obtain ⟨h1,h2,h3⟩:=ZcT hr (j + 1)
 rcases Vt (below xs (j + 1)) (i + 1) with z | z | z
 ·have:=h2 i j 1e2 e;lia
 ·exact z
 ·have hlt:i + 1 < xs.size:=Yn z h3
  have a:=h1 (i + 1) _ z (Yj hlt)
  have b:=hr i (i + 1) _ _ 1e2 e (Yj hlt)
  lia
section
variable {prog:YD}{w:World}{A:Around}{E:1e7}{s:Shared}{I a T:Addr}{es:7e9}{ep i:Nat}{t:XJ}
abbrev PA (arr:7e9):Nat->Value->Prop:=fun i v=>∃e,arr[i]? = some e/\v=e.2
theorem Za5:Slot "set_iterator" "__iter__" "set_iterator.__iter__":=
 .of (owner:="set_iterator") (n:="__iter__") (by rw[typeLookup_type,builtinLookup_eq_fast];kernel_rfl) 10e3 10e3 10e3
  (by first | exact .inl 10e3 | exact .inr 10e3) (by rw[isSubtype_type];kernel_rfl)
theorem ZbD:entryFor table "set_iterator.__iter__"=some W2.«dict_keyiterator.__iter__»:=entryFor_alias (id':="dict_keyiterator.__iter__") (by kernel_rfl) rfl 10e3 (by kernel_rfl)
theorem Zby (a:Value):argsOk "set_iterator.__iter__" ⟨[a],[]⟩:=by
 unfold argsOk;rw[signature?_of (id:="set_iterator.__iter__") (n:=['_','_','r','e','t','i','_','_']) (o:=['r','o','t','a','r','e','t','i','_','t','e','s']) (by kernel_rfl) Zbj];kernel_rfl
theorem Zb0 {f:Value}{n:Nat}{Q:1e7}(hit:IsSetIter s.heap I f i a n ep)(h:Q (.ref I) s):wpAny 3e2 A (pyIter (.ref I)) Q E s:=by
 refine Ua hit.ty Za5 (Xc Za5 hit.ty ZbD ?_ (Zby _))
 show wpAny _ _ (ret (.ref I)) _ _ s
 exact Yd ⟨_,rfl,"set_iterator",_,hit.ty,Zap.lookup,h⟩
theorem walk_led (hh:18e6)(hne:a≠I)(hb:w.params.followText "set-order"=false)(TT:TI t es)(hnd:(!t.plain&&decide (es.size > 1))=false)(hl:t.led=true):
  Walks prog w A I [I,a] [I] es.size (PA es) (fun i h=>∃slot,IsSetIter h I (.int (slot:Nat) 0) i a es.size ep/\RawS h a es ep t/\below t.place slot=i) where
 sub:=fun b hb=>by rw[Yk.mp hb];exact YM
 frame:=fun _ _ _ ⟨slot,h1,h2,h3⟩ hk=>⟨slot,h1.at (hk I (.head _)),h2.at (hk a (.tail _ (.head _))),h3⟩
 item:=fun i s Q E hi ⟨slot,h1,h2,h3⟩ hQ=>by
  have hf:=TT.fits (Xv TT.few)
  have ei:es[i]? = some es[i]:=Yj hi
  obtain ⟨j,ej⟩:∃j,t.place[i]? = some j:=⟨_,Yj (by rw[TT.sz];exact hi)⟩
  refine next_slot (x:=es[i].2) (nx:=j + 1) h1 h2 hf (fun A' Q' E' q=>ZcX hb h2 hf hnd hl ?_) fun h' k2 sb=>hQ _ h' s.toks ⟨_,ei,rfl⟩ ⟨_,k2,h2.at fun o e=>sb.extBut a o hne e,below_next TT.rs ej⟩ fun b o hb e=>sb.extBut b o (fun z=>hb (Yk.mpr z)) e
  rw[h3,ei,ej];exact q
 done:=fun s Q E ⟨slot,h1,h2,h3⟩ hQ=>by
  have hf:=TT.fits (Xv TT.few)
  refine end_slot hh h1 h2 hf (fun A' Q' E' q=>ZcX hb h2 hf hnd hl ?_) fun h' x=>hQ h' s.toks fun b o hb e=>x b o (fun z=>hb (Yk.mpr z)) e
  rw[h3,YN (Yh _)];exact q
 self:=fun _ _ _ _ ⟨slot,h1,_⟩ hQ=>Zb0 h1 hQ
theorem walk_text (hh:18e6)(hne:a≠I)(hb:w.params.followText "set-order"=true)(TT:TI t es):
  Walks prog w A I [I,a] [I] (UB (w.params.setOrder a ep) es).size (PA (UB (w.params.setOrder a ep) es)) (fun i h=>IsSetIter h I (.int (0:Nat) 0) i a es.size ep/\RawS h a es ep t) where
 sub:=fun b hb=>by rw[Yk.mp hb];exact YM
 frame:=fun _ _ _ ⟨h1,h2⟩ hk=>⟨h1.at (hk I (.head _)),h2.at (hk a (.tail _ (.head _)))⟩
 item:=fun i s Q E hi ⟨h1,h2⟩ hQ=>by
  have hf:=TT.fits (Xv TT.few)
  have ei:=Yj hi
  refine next_slot (x:=(UB (w.params.setOrder a ep) es)[i].2) (nx:=0) h1 h2 hf (fun A' Q' E' q=>ZcA hb h2 hf ?_) fun h' k2 sb=>hQ _ h' s.toks ⟨_,ei,rfl⟩ ⟨k2,h2.at fun o e=>sb.extBut a o hne e⟩ fun b o hb e=>sb.extBut b o (fun z=>hb (Yk.mpr z)) e
  rw[ei];exact q
 done:=fun s Q E ⟨h1,h2⟩ hQ=>by
  have hf:=TT.fits (Xv TT.few)
  refine end_slot hh h1 h2 hf (fun A' Q' E' q=>ZcA hb h2 hf ?_) fun h' x=>hQ h' s.toks fun b o hb e=>x b o (fun z=>hb (Yk.mpr z)) e
  rw[YN (Yh _)];exact q
 self:=fun _ _ _ _ ⟨h1,_⟩ hQ=>Zb0 h1 hQ
def drawnArr (es:7e9)(ys:12e5):Array (Int×Value):=(ys.map fun i=>es.getD i (0,.none)).toArray
theorem walk_drawn (hh:18e6)(hne:a≠I)(hTI:T≠I)(TT:TI t es){ys:12e5}(hy:∀y∈ys,y < es.size):
  Walks prog w A I [I,a,T] [I] (drawnArr es ys).size (PA (drawnArr es ys)) (fun i h=>IsSetIter h I (.ref T) i a es.size ep/\RawS h a es ep t/\∃o,h.get? T=some o/\∃c,o.data=.seq (ys.map fun (i:Nat)=>rawInt i).toArray c) where
 sub:=fun b hb=>by rw[Yk.mp hb];exact YM
 frame:=fun _ _ _ ⟨h1,h2,o,h3,h4⟩ hk=>⟨h1.at (hk I (.head _)),h2.at (hk a (.tail _ (.head _))),o,hk T (.tail _ (.tail _ (.head _))) _ h3,h4⟩
 item:=fun i s Q E hi ⟨h1,h2,o,h3,c,h4⟩ hQ=>by
  have hf:=TT.fits (Xv TT.few)
  have hi':i < ys.length:=by simpa[drawnArr] using hi
  have hlt:ys[i] < es.size:=hy _ (Y2 hi')
  have ei:(drawnArr es ys)[i]? = some es[ys[i]]:=by
   unfold drawnArr
   rw[WW,YL,Yb hi']
   simp[hlt]
  refine next_tup (pl:=ys[i]) (e:=es[ys[i]]) h1 h2 hf h3 h4 (by rw[WW,YL,Yb hi'];rfl) (Yj hlt) fun h' k2 sb=>hQ _ h' s.toks ⟨_,ei,rfl⟩ ⟨k2,h2.at fun o e=>sb.extBut a o hne e,o,sb.extBut T o hTI h3,c,h4⟩ fun b o hb e=>sb.extBut b o (fun z=>hb (Yk.mpr z)) e
 done:=fun s Q E ⟨h1,h2,o,h3,c,h4⟩ hQ=>by
  have hf:=TT.fits (Xv TT.few)
  exact end_tup hh h1 h2 hf h3 h4 (by simp[drawnArr]) fun h' x=>hQ h' s.toks fun b o hb e=>x b o (fun z=>hb (Yk.mpr z)) e
 self:=fun _ _ _ _ ⟨h1,_⟩ hQ=>Zb0 h1 hQ
theorem drawn_perm {ys:12e5}(h:ys.Perm (Yi es.size)):(drawnArr es ys).toList.Perm es.toList:=by
 unfold drawnArr
 have q:=h.map fun i=>es.getD i (0,XQ)
 have e:(Yi es.size).map (fun i=>es.getD i (0,XQ))=es.toList:=by
  apply Xe
  intro i
  rw[YL]
  by_cases hi:i < es.size
  ·rw[VL hi];simp[hi]
  ·rw[Xw 11e0,Xw 11e0];rfl
 rw[e] at q
 simpa using q
theorem iter_set {Q:1e7}(hm:16e7)(TT:TI t es)(hl:w.params.followText "set-order"=false->t.led=true)
  (q:∀(I:Addr) (h':Heap) (d:Drawn) (arr:7e9) (fp:4e3) (St:Nat->Heap->Prop),s.heap.objs.size<=I->(∀b∈fp,b=a\/s.heap.objs.size<=b)->(∀b o,s.heap.get? b=some o->h'.get? b=some o)->arr.toList.Perm es.toList->
   (∀A':Around,A'.handled=none->Walks prog w A' I fp [I] arr.size (PA arr) St)->St 0 h'->Q (.ref I) { s with heap:=h',drawn:=d }):wpAny (model prog w) A (pyIter (.ref a)) Q E s:=by
 have Ty:=hm.ty
 have hf:=TT.fits (Xv TT.few)
 have hlt:=hm.lt
 obtain ⟨o,ho,hc,hd⟩:=id hm
 refine Ua Ty F.slot_set_iter (Xc F.slot_set_iter Ty ZdB ?body (F.args_set_iter_1 _))
 case body=>
  unfold W2.«frozenset.__iter__» Builtin.Frozenset.slot0 slotArgs
  simp only[List.isEmpty_nil,Uf,YO,↓reduceIte,bind_assoc,WT,bne_self_eq_false]
  refine Ya (Yd ?_)
  unfold Builtin.Frozenset.sizeOf UG Builtin.Frozenset.addrOf
  refine Ya (Yd ?_)
  refine Ya (Ya (Ya (YY ho hd hf (Yd (Yd ?_)))))
  unfold setDrawn UH setEpoch
  refine Ya (Ya (YY ho hd hf ?_))
  dsimp only
  refine Ya (Ya (We (Yd (Yd ?_))))
  refine Wa (fun hab=>?_) (fun hab=>?_)
  ·refine Ya (Zck _ _ _ _ X5 fun ys d hp=>?_)
   have hsm:es.size<=1000000:=by have:=TT.few;have:=TT.mm.pos;lia
   have hyl:ys.length=es.size:=by rw[hp.length_eq,X5]
   refine Ya (wpAny_newTuple ?_ (by rw[YA,hyl,YS];lia))
   have hoA:(s.heap.push { cls:=.type "tuple",data:=.seq (ys.map fun (i:Nat)=>rawInt i).toArray }).get? a=some o:=Yc _ ho
   refine Ya (Ya (YY (s:={ s with drawn:=d,heap:=s.heap.push { cls:=.type "tuple",data:=.seq (ys.map fun (i:Nat)=>rawInt i).toArray } }) hoA hd hf (Yd ?_)))
   refine Ya (XA (Yd ⟨_,rfl,_,_,⟨_,Yp _ rfl,rfl⟩,Zap.lookup,?_⟩))
   generalize hh1:s.heap.push { cls:=.type "tuple",data:=.seq (ys.map fun (i:Nat)=>rawInt i).toArray }=h1
   have hz:h1.objs.size=s.heap.objs.size + 1:=by rw[←hh1,V3]
   have hoA1:h1.get? a=some o:=by rw[←hh1];exact hoA
   have hT1:h1.get? s.heap.objs.size=some { cls:=.type "tuple",data:=.seq (ys.map fun (i:Nat)=>rawInt i).toArray }:=by rw[←hh1];exact Yp _ rfl
   refine q h1.objs.size _ d (drawnArr es ys) [h1.objs.size,a,s.heap.objs.size] _ 1e2 (fun b hb=>?_) (fun b u e=>Yc _ (by rw[←hh1];exact Yc _ e)) (drawn_perm hp) (fun A' hh=>walk_drawn (t:=t) (ep:=ep) hh (Yr (Yn hlt (by rw[hz];exact UM _))) (by rw[hz];exact Yr (VA _)) TT fun y hy=>by have:=hp.mem_iff.mp hy;simpa using this) ⟨⟨_,Yp _ rfl,rfl,by simp[rawInt]⟩,⟨o,Yc _ hoA1,hc,hd⟩,_,Yc _ hT1,0,rfl⟩
   simp only[Ym,Xd,or_false] at hb
   rcases hb with rfl | rfl | rfl
   ·exact .inr 1e2
   ·exact .inl rfl
   ·exact .inr (Yh _)
  ·refine Ya (Yd ?_)
   refine Ya (Ya (YY ho hd hf (Yd ?_)))
   refine Ya (XA (Yd ⟨_,rfl,_,_,⟨_,Yp _ rfl,rfl⟩,Zap.lookup,?_⟩))
   have hfp:∀b∈[s.heap.objs.size,a],b=a\/s.heap.objs.size<=b:=fun b hb=>by
    simp only[Ym,Xd,or_false] at hb
    rcases hb with rfl | rfl
    ·exact .inr (Yh _)
    ·exact .inl rfl
   cases hb:w.params.followText "set-order" with
   | true=>
    exact q s.heap.objs.size _ s.drawn _ [s.heap.objs.size,a] _ (Yh _) hfp (fun b u e=>Yc _ e) (pick_perm es) (fun A' hh=>walk_text (t:=t) (ep:=ep) hh (Yr hlt) hb TT) ⟨⟨_,Yp _ rfl,rfl,by simp[rawInt]⟩,⟨o,Yc _ ho,hc,hd⟩⟩
   | false=>
    have hnd:(!t.plain&&decide (es.size > 1))=false:=by
     have h2:¬((!w.params.followText "set-order")&&(!t.plain&&decide (es.size > 1)))=true:=hab
     rw[hb] at h2
     simpa using h2
    exact q s.heap.objs.size _ s.drawn es [s.heap.objs.size,a] _ (Yh _) hfp (fun b u e=>Yc _ e) (.refl _) (fun A' hh=>walk_led (t:=t) (ep:=ep) hh (Yr hlt) hb TT hnd (hl hb)) ⟨0,⟨_,Yp _ rfl,rfl,by simp[rawInt]⟩,⟨o,Yc _ ho,hc,hd⟩,below_zero TT.rs⟩
theorem hint_set {r:Addr}{Q:9e6}(hT:s.TypeIs (.ref r) "set")(h:Q false s):wpAny 3e2 A (VO (.ref r)) Q E s:=by
 have own:isSubtype (.type "set") (.type "set")=pure true:=by rw[isSubtype_type];kernel_rfl
 have parts:∀id,id="set.__len__"->splitId id=some ("set","__len__"):=fun id e=>by rw[e];decide +kernel
 delta VO
 apply Ya
 refine wpAny_specialOf hT PySem.F.slot_set_len.lookup ?_
 generalize en:("set.__len__":String)=nm
 dsimp only
 rw[parts nm en.symm]
 subst en
 apply Ya
 refine wpAny_isInstance hT own ?_
 simp only[Uf,YO,if_false]
 rw[if_pos 10e3]
 apply Ya
 exact Vd hT (Yd h)
theorem items_perm {arr:7e9}{acc:Array Value}(h:ItemsOf (PA arr) acc arr.size)(p:arr.toList.Perm es.toList):acc.toList.Perm (es.toList.map (·.2)):=by
 have e:acc.toList=arr.toList.map (·.2):=by
  apply Xe
  intro i
  rw[YL,Xg,Xg]
  by_cases hi:i < arr.size
  ·have hi2:i < acc.size:=by rw[h.1];exact hi
   obtain ⟨x,e1,e2⟩:=h.2 i _ (Yj hi2)
   rw[Yj hi2,e1,e2];rfl
  ·have hz:=h.1
   rw[YN (show acc.size<=i by lia),YN (show arr.size<=i by lia)];rfl
 rw[e];exact p.map _
theorem touch {S:Addr}{c:Nat}{Q:Unit->Shared->Prop}(at_S:s.heap.get? S=some { cls:=.type "list",data:=.seq #[] c })
  (q:∀h' c',h'.get? S=some { cls:=.type "list",data:=.seq #[] c' }->(∀b o,b≠S->s.heap.get? b=some o->h'.get? b=some o)->Q () { s with heap:=h' }):wpAny (model prog w) A (Builtin.List.listTouch (.ref S)) Q E s:=by
 have up:=fun (h:Heap) (o:Obj) (f:Array Value->Array Value) (b:Addr) (n:b≠S) (e:h.get? b=some o)=>(XW h b S (XR f) n).trans e
 have one:=Wt (c:="list") at_S (·.push XQ)
 have two:=Wt (c:="list") one (·.pop)
 apply Ya
 refine UC at_S rfl ?_
 refine UC (hz:=by seq_fits) one rfl ?_
 exact q _ _ two fun b o n e=>up _ o _ b n (up _ o _ b n e)
theorem loop_all {I S:Addr}{n c:Nat}{P:Nat->Value->Prop}{fp:4e3}{St:Nat->Heap->Prop}{R:16e2}{res:Value}(W:Walks prog w A.in1 I fp [I] n P St)(few:n<=Yu)(off:S∉fp)(st:St 0 s.heap)
  (at_S:s.heap.get? S=some { cls:=.type "list",data:=.seq #[] c })
  (q:∀h' tk acc c',(∀b o,b≠S->b≠I->s.heap.get? b=some o->h'.get? b=some o)->h'.get? S=some { cls:=.type "list",dict:=none,data:=.seq acc c',slots:=#[] }->ItemsOf P acc n->R (.ok (.ret res)) { s with heap:=h',toks:=tk }):
  X3 3e2 A (.builtin "list.extend.loop" ⟨[.ref S,.ref I,res],[]⟩) R s:=by
 refine codeAny_extend_loopS W.toS few S off res n 0 s #[] c rfl (YV _) st at_S (ItemsOf.nil _) ?_
 intro z acc c' mv az items
 have e:=Moved.eq_with mv
 rw[e]
 exact q _ _ acc c' (fun b o n1 n2 x=>mv.heap b o (by simp[n1,n2]) x) az items
theorem extend_set {R:16e2}(hh:18e6)(hm:16e7)(TT:TI t es)(hl:w.params.followText "set-order"=false->t.led=true)(S:Addr)(hSa:S≠a)(res:Value)(c₀:Nat)(hS:s.heap.get? S=some { cls:=.type "list",data:=.seq #[] c₀ })
  (hR:∀h' d tk acc' c',(∀b o,b≠S->s.heap.get? b=some o->h'.get? b=some o)->h'.get? S=some { cls:=.type "list",dict:=none,data:=.seq acc' c',slots:=#[] }->acc'.toList.Perm (es.toList.map (·.2))->R (.ok (.ret res)) { s with heap:=h',drawn:=d,toks:=tk }):
  wpAny 3e2 A.in1 (X9 (.ref S) (.ref a) res)
   (fun fin s'=>match fin with | .done f=>R (.ok f) s' | .again c'=>c'.quiet=true/\X3 (model prog w) A c' R s') (fun e s'=>R (.error e) s') s:=by
 have small:es.size<=1000000:=by have:=TT.few;have:=TT.mm.pos;lia
 have other:Ve (.ref S) (.ref a)=false:=by simpa[Ve] using hSa
 have kinds:(Wo "set"==Wo "list")=false/\(Wo "set"==Wo "tuple")=false:=by decide
 have S_lt:=Yz hS
 delta X9
 apply Ya
 refine Vd (T:="set") hm.ty ?_
 rw[other,kinds.1,kinds.2]
 apply Ya
 refine iter_set hm TT hl fun I h2 d arr fp St hI hfp k2 pm W st=>?_
 have off:S∉fp:=fun z=>(hfp S z).elim hSa fun y=>X0 _ (Yn S_lt y)
 have few:arr.size<=sizeLine:=by
  have l:=pm.length_eq
  rw[YH,YH] at l
  rw[YS];lia
 have rest:∀h c1,St 0 h->h.get? S=some { cls:=.type "list",data:=.seq #[] c1 }->(∀b o,b≠S->s.heap.get? b=some o->h.get? b=some o)->
   X3 3e2 A (.builtin "list.extend.loop" ⟨[.ref S,.ref I,res],[]⟩) R { s with heap:=h,drawn:=d }:=fun h c1 st1 at_S kept=>
  loop_all (s:={ s with heap:=h,drawn:=d }) (W A.in1 hh) few off st1 at_S fun h' tk acc c' k a its=>hR h' d tk acc c' (fun b o n e=>k b o n (Yr (Yn (Yz e) hI)) (kept b o n e)) a (items_perm its pm)
 have quiet:=plainId_quiet PySem.F.plain_extend_loop ⟨[.ref S,.ref I,res],[]⟩
 apply Ya
 apply Xk
 refine hint_set (s:={ s with heap:=h2,drawn:=d }) (RawS.ty (s:={ s with heap:=h2,drawn:=d }) (hm.at fun o e=>k2 _ _ e)) ?_
 refine Wa (fun _=>?_) fun _=>Yd ⟨quiet,rest h2 c₀ st (k2 _ _ hS) fun b o _ e=>k2 b o e⟩
 apply Ya
 apply wpAny_rule
 apply Ya
 refine touch (s:={ s with heap:=h2,drawn:=d }) (k2 _ _ hS) fun h3 c3 a3 k3=>Yd ⟨quiet,rest h3 c3 ?_ a3 fun b o n e=>k3 b o n (k2 b o e)⟩
 exact (W A.in1 hh).frame 0 _ _ st fun b hb o e=>k3 b o (fun z=>off (z ▸ hb)) e
theorem ext_set {R:16e2}(hh:18e6)(hm:16e7)(TT:TI t es)(hl:w.params.followText "set-order"=false->t.led=true)(S:Addr)(hSa:S≠a)(c₀:Nat)(hS:s.heap.get? S=some { cls:=.type "list",data:=.seq #[] c₀ })
  (hR:∀h' d tk acc' c',(∀b o,b≠S->s.heap.get? b=some o->h'.get? b=some o)->h'.get? S=some { cls:=.type "list",dict:=none,data:=.seq acc' c',slots:=#[] }->acc'.toList.Perm (es.toList.map (·.2))->R (.ok (.ret (.ref S))) { s with heap:=h',drawn:=d,toks:=tk }):
  X3 3e2 A (.builtin "list.__iadd__" ⟨[.ref S,.ref a],[]⟩) R s:=by
 refine WZ Ul ?_
 rw[Around.under_plainId (show plainId "list.__iadd__"=true by decide +kernel) _]
 exact extend_set hh hm TT hl S hSa (.ref S) c₀ hS hR
theorem collect_set {Q:List Value->Shared->Prop}(hh:18e6)(hm:16e7)(TT:TI t es)(hl:w.params.followText "set-order"=false->t.led=true)
  (h:∀h' d tk vs,(∀b o,s.heap.get? b=some o->h'.get? b=some o)->s.heap.objs.size<=h'.objs.size->vs.Perm (es.toList.map (·.2))->Q vs { s with heap:=h',drawn:=d,toks:=tk }):wpAny (model prog w) A (Uz (.ref a)) Q E s:=by
 unfold Uz
 refine Ya (wpAny_runValue (WZ VE ?_))
 refine Ya (WB (Yd ⟨V1 _ 10e3,?_⟩))
 have hS:(s.heap.push (seqObj "list" #[] 0)).get? s.heap.objs.size=some { cls:=.type "list",data:=.seq #[] 0 }:=Yp _ rfl
 refine ext_set (s:={ s with heap:=s.heap.push (seqObj "list" #[] 0) }) hh (hm.at fun o e=>Yc _ e) TT hl s.heap.objs.size (Wv hm.lt) 0 hS fun h' d tk acc c k e ai=>?_
 refine Ya (wpAny_load e ?_)
 exact Yd (h h' d tk acc.toList (fun b o z=>k b o (Yr (Yz z)) (Yc _ z)) (Xv (Yz e)) ai)
end
end Se
namespace L2
open PySem PySem.Spec PyProof.Rows Se
abbrev sc2 (elt t0 i0 t1 i1:Expr)(ifs:6e1)(scope:Scope)(pos:Pos):Expr:=.SetComp elt [⟨t0,i0,[],0⟩,⟨t1,i1,ifs,0⟩] scope pos
section
variable {prog:YD}{w:World}{A:Around}{R:16e2}{s:Shared}{elt t0 i0 t1 i1:Expr}{ifs:6e1}{scope:Scope}{pos:Pos}
theorem ZdD {it acc:Value}{env:Env}(hs:∀x,Y5 i1 env x=pure x)(I:Nat->Shared->Prop)
  (turn:∀k z,I k z->wpAny 3e2 A (pyNext it) (fun r z1=>match r with
   | none=>R (.ok .next) z1
   | some v=>wpAny 3e2 A (X6 t0 it v) (fun _ z2=>wpAny 3e2 A (assign t0 env v) (fun _ z3=>wpAny 3e2 A (eval i1 env) (fun x z4=>wpAny 3e2 A (pyIter x) (fun j z5=>
     X3 (model prog w) A (.compStart (sc2 elt t0 i0 t1 i1 ifs scope pos) 1 j acc env) (fun r z6=>match r with | .ok _=>∃m,m < k/\I m z6 | .error _=>False) z5)
     (Out prog w A env R) z4) (Out prog w A env R) z3) (Out prog w A env R) z2) (Out prog w A env R) z1) (Out prog w A env R) z)
  (n:Nat) (h:I n s):X3 3e2 A (.compLoop 11e8 0 it acc env) R s:=by
 refine Uu rfl I ?_ n h
 intro k z hz
 refine UL (show wpAny _ A (UT i0.pos >>= _) _ _ z from ?_)
 apply Ya
 apply X1
 apply Ya
 refine Y1 (turn k z hz) ?_ fun _ _ e=>e
 rintro (_ | v) z1 y1
 ·exact Yd y1
 apply Ya
 refine Y1 y1 (fun _ z2 y2=>?_) fun _ _ e=>e
 apply Ya
 refine Y1 y2 (fun _ z3 y3=>?_) fun _ _ e=>e
 apply Ya
 apply wpAny_tests_nil
 apply Ya
 refine Y1 y3 (fun x z4 y4=>?_) fun _ _ e=>e
 apply Ya
 apply X1
 rw[hs]
 apply Ya
 apply Yd
 apply Ya
 apply Xk
 refine Y1 y4 (fun j z5 y5=>?_) fun _ _ e=>e
 apply Ya
 refine wpAny_runOwn (Uq y5 ?_)
 rintro (e | f) z6 y6
 ·exact y6.elim
 ·exact Yd ⟨rfl,y6⟩
theorem ZdC {it acc:Value}{env:Env}(I:Nat->Shared->Prop)
  (turn:∀k z,I k z->wpAny 3e2 A (pyNext it) (fun r z1=>match r with
   | none=>R (.ok .next) z1
   | some v=>wpAny 3e2 A (X6 t1 it v) (fun _ z2=>wpAny 3e2 A (assign t1 env v) (fun _ z3=>wpAny 3e2 A (testsOf env ifs) (fun yes z4=>
     if yes=true then wpAny 3e2 A (eval elt env) (fun x z5=>wpAny 3e2 A (call (.builtin "set.add") [acc,x]) (fun _ z6=>∃m,m < k/\I m z6) (Out prog w A env R) z5) (Out prog w A env R) z4
     else ∃m,m < k/\I m z4) (Out prog w A env R) z3) (Out prog w A env R) z2) (Out prog w A env R) z1) (Out prog w A env R) z)
  (n:Nat) (h:I n s):X3 3e2 A (.compLoop 11e8 1 it acc env) R s:=by
 refine Uu rfl I ?_ n h
 intro k z hz
 refine UL (show wpAny _ A (UT i1.pos >>= _) _ _ z from ?_)
 apply Ya
 apply X1
 apply Ya
 refine Y1 (turn k z hz) ?_ fun _ _ e=>e
 rintro (_ | v) z1 y1
 ·exact Yd y1
 apply Ya
 refine Y1 y1 (fun _ z2 y2=>?_) fun _ _ e=>e
 apply Ya
 refine Y1 y2 (fun _ z3 y3=>?_) fun _ _ e=>e
 apply Ya
 refine Y1 y3 (fun yes z4 y4=>?_) fun _ _ e=>e
 by_cases b:yes=true
 ·subst b
  apply Ya
  apply Ya
  refine Y1 y4 (fun x z5 y5=>?_) fun _ _ e=>e
  apply Ya
  apply X1
  apply Ya
  exact Y1 y5 (fun _ z6 y6=>Yd (Yd ⟨rfl,y6⟩)) fun _ _ e=>e
 ·have nb:yes=false:=by simpa using b
  subst nb
  exact Yd ⟨rfl,y4⟩
abbrev noted (prog:YD)(w:World)(A:Around)(env:Env)(R:16e2):Value->Shared->Prop:=Out prog w A env R
theorem Zcm {d:Nat}{it acc:Value}{env:Env}(hd:d < 2)
  (h0:X3 3e2 A (.compLoop 11e8 d it acc env) R s)
  (h:wpAny 3e2 A (pyIter it) (fun j z=>X3 3e2 A (.compLoop 11e8 d j acc env) R z) (noted prog w A env R) s):
  X3 3e2 A (.compStart 11e8 d it acc env) R s:=by
 have two:d=0\/d=1:=by lia
 refine codeAny_of_tree (wpAny_notedAt ?_)
 delta compStart
 rcases two with rfl | rfl
 all_goals
  refine Ya (m:=ask) (We (wpAny_ite ?_))
  split
  ·first
    | exact Yd ⟨rfl,h0⟩
    | exact Ya (Yd (Yd ⟨rfl,h0⟩))
  ·refine Ya (wpAny_rule ?_)
   refine Ya (m:=UT _) (X1 (Ya (Y1 h ?_ fun _ _ e=>e)))
   exact fun j z y=>Yd ⟨rfl,y⟩
end
section
variable {prog:YD}{w:World}{A:Around}{E:1e7}{s:Shared}
theorem SetU.typeIs {K:Type} [DecidableEq K]{knd:KeyKind prog w K}{a:Addr}{L:Bool}{bs:List (List K×Addr)}(x:SetU knd s.heap a L bs):s.TypeIs (.ref a) "set":=let ⟨o,_,_,_,ho,hex,_⟩:=x;⟨o,ho,hex.1⟩
theorem call_addU {K:Type} [DecidableEq K]{knd:KeyKind prog w K}{a x:Addr}{k:List K}{bs:List (List K×Addr)}{L:Bool}{Q:1e7}(hu:A.units + 1 < cLine)(hS:SetU knd s.heap a L bs)(hbk:∀p∈bs,X4 knd s.heap p.1 p.2)(hk:X4 knd s.heap k x)(hroom:bs.length + 1 < 77)
  (h:∀h' tk,Wg a s.heap h'->SetU knd h' a L (insU bs k x)->Q .none { s with heap:=h',toks:=tk }):wpAny (model prog w) A (call (.builtin "set.add") [.ref a,.ref x]) Q E s:=by
 have room:A.in1.units < cLine:=by rw[YU];lia
 refine Xc F.slot_set_add (SetU.typeIs hS) F.entry_set_add ?_ (F.args_set_add_2 _ _)
 delta W2.«set.add» Builtin.Frozenset.oneOther Builtin.Frozenset.addrOf setAdd
 repeat first
  | refine (WO knd).pyHash room hk ?_
  | refine addU (s:={ s with toks:=s.toks + (WO knd).draws k }) room hS hbk hk hroom fun b h' same has=>?_
  | wp_step
 exact ⟨_,rfl,h h' _ same has⟩
theorem newSet_at {Q:1e7}(h:Q 10e1 { s with heap:=s.heap.push (newSetObj (!w.params.followText "set-order")) }):wpAny (model prog w) A (newSet (.type "set")) Q E s:=by
 delta newSet UH
 apply Ya
 apply Ya
 apply We
 apply Yd
 exact XA h
end
abbrev BS:=List (List Key×Addr)
def FineB (bs:BS)(H:Hp):Prop:=∀p∈bs,H p.2=some (.tup (p.1.map kV))
def CompWS1 (J:It)(g:TG)(tt:TT)(te:TE)(bs0:BS)(σ0:St)(H0:Hp)(N:St->BS->Hp->Prop):Prop:=
 ∃W:Nat->Nat->St->BS->Hp->Prop,(∃m,W 0 m σ0 bs0 H0)/\∀i m σ bs H,W i m σ bs H->
  (J.stop i H/\N σ bs H)\/
  (J.go i H/\∃N1:St->BS->Hp->Prop,(∀σ2 bs2 H2,N1 σ2 bs2 H2->∃m',m' < m/\W (i + 1) m' σ2 bs2 H2)/\∀x H',J.yld i H x H'->g x σ H' fun σ2 H2=>tt σ2 H2 fun b H3=>
   if b=true then te σ2 H3 fun y H4=>∃k a,y=.ref a/\H4 a=some (.tup (k.map kV))/\FineB bs H4/\bs.length + 1 < 77/\N1 σ2 (insU bs k a) H4 else N1 σ2 bs H3)
def CompWS (J:It)(vs:5e9)(fr:12e5)(g0:TG)(wi1:TI)(g1:TG)(tt:TT)(te:TE)(σ:St)(H1:Hp)(Q:BS->Hp->Prop):Prop:=
 ∃W:Nat->Nat->St->BS->Hp->Prop,(∃m,W 0 m (stIn vs fr σ) [] H1)/\∀i m σ' bs H,W i m σ' bs H->
  (J.stop i H/\Q bs H)\/
  (J.go i H/\∃N:St->BS->Hp->Prop,(∀σ2 bs2 H2,N σ2 bs2 H2->∃m',m' < m/\W (i + 1) m' σ2 bs2 H2)/\∀x H',J.yld i H x H'->g0 x σ' H' fun σ2 H2=>wi1 σ2 H2 fun J1 H3=>CompWS1 J1 g1 tt te bs σ2 H3 N)
section
variable {Y:Cx}{elt t0 i0 t1 i1:Expr}{ifs:6e1}{scope:Scope}{pos:Pos}{g:TG}{tt:TT}{te:TE}
theorem pinS {pins:2e0}{σ σ':St}{H H':Hp}{s s':Shared}{D:Addr}{o:Obj}{L:Bool}{bs:BS}(S:SetU (mixKind Y.prog Y.w) s.heap D L bs)(e:s.heap.get? D=some o)(e':s'.heap.get? D=some o):SetU (mixKind Y.prog Y.w) s'.heap D L bs:=
 S.at fun u q=>by rw[e] at q;cases q;exact e'
theorem inner_run {D:Addr}{L:Bool}{pl:2e0}{J:It}{it:Addr}{fp:4e3}{tn:Nat->Heap->Prop}{bs:BS}{σ:St}{H:Hp}{s:Shared}{N:St->BS->Hp->Prop}{o:Obj}{R:16e2}
  (eC:Y.calm=true) (hu:Y.A.units + 1 < cLine) (eX:Y.xe=fun _ _=>False) (hG:PG Y t1 g) (hT:PTs Y ifs tt) (hE:PE Y elt te) (hDf:∀H:Hp,H D=none->FpOk Y pl H D)
  (T:Turn Y.prog Y.w Y.K t1 J fp it tn) (q:CompWS1 J g tt te bs σ H N) (I:Inv Y ((D,o)::pl) σ H s) (S:SetU (mixKind Y.prog Y.w) s.heap D L bs) (st:tn 0 s.heap) (f1:∀b∈fp,FpOk Y ((D,o)::pl) H b)
  (hR:∀σ' bs' H' s' o',Inv Y ((D,o')::pl) σ' H' s'->SetU (mixKind Y.prog Y.w) s'.heap D L bs'->N σ' bs' H'->R (.ok .next) s'):
  X3 (model Y.prog Y.w) Y.A (.compStart 11e8 1 (.ref it) (.ref D) Y.env) R s:=by
 obtain ⟨W,⟨m0,w0⟩,turn⟩:=q
 have fpD:∀b∈fp,b≠D:=fun b hb=>Xx ((f1 b hb).2.2.2.2.2 (D,o) (Ye _ YM))
 have stat:∀{H':Hp} {o':Obj},12e0->∀b∈fp,FpOk Y ((D,o')::pl) H' b:=fun {H' o'} hn b hb=>by
  obtain ⟨a0,a1,a2,a3,a4,a5⟩:=f1 b hb
  refine ⟨hn b hb,a1,a2,a3,a4,fun p hp=>?_⟩
  rcases Yw.mp hp with hp | hp
  ·exact a5 p (YF _ hp)
  ·rcases Ym.mp hp with rfl | hp
   ·exact Xx (fpD b hb)
   ·exact a5 p (Ye _ (YR _ hp))
 have pin1:∀{pm:2e0} {σ':St} {H':Hp} {s':Shared} {o':Obj},Inv Y (((D,o')::pl)++pm) σ' H' s'->s'.heap.get? D=some o'/\H' D=none:=fun {pm σ' H' s' o'} i=>by
  have:=i.pin (D,o') (Ye _ (YF _ YM))
  exact ⟨this.1,this.2.1⟩
 have pin0:∀{σ':St} {H':Hp} {s':Shared} {o':Obj},Inv Y ((D,o')::pl) σ' H' s'->s'.heap.get? D=some o'/\H' D=none:=fun {σ' H' s' o'} i=>by
  have:=i.pin (D,o') (Ye _ YM)
  exact ⟨this.1,this.2.1⟩
 have loop:X3 (model Y.prog Y.w) Y.A (.compLoop 11e8 1 (.ref it) (.ref D) Y.env) R s:=by
  refine ZdC (fun n s'=>∃i σ' bs' H' o',Inv Y ((D,o')::pl) σ' H' s'/\SetU (mixKind Y.prog Y.w) s'.heap D L bs'/\tn i s'.heap/\12e0/\W i n σ' bs' H') ?_ m0
   ⟨0,σ,bs,H,o,I,S,st,fun b hb=>(f1 b hb).1,w0⟩
  rintro n s3 ⟨i,σ3,bs3,H3,o3,J3,S3,st3,fr3,w3⟩
  have pD:=pin0 J3
  rcases turn i n σ3 bs3 H3 w3 with ⟨stop,qn⟩ | ⟨go,N1,hN,step⟩
  ·refine Zbc (T.done Y rfl rfl rfl eC i _ s3 σ3 H3 18e0 J3 (stat fr3) st3 stop) fun r s4 h_=>?_
   obtain ⟨hr,J4⟩:=h_
   subst hr
   exact hR σ3 bs3 H3 s4 o3 J4 (pinS (Y:=Y) (pins:=[]) (σ:=σ) (σ':=σ) (H:=H) (H':=H) S3 pD.1 (pin0 J4).1) qn
  ·refine Zbc (T.item Y rfl rfl rfl eC i _ s3 σ3 H3 18e0 J3 (stat fr3) st3 go) fun r s4 h_=>?_
   obtain ⟨u,hr,h4⟩:=h_
   sleep 20
   have go1:=hG _ s5 σ3 H5 x u _ J5' r5 (step x H5 y5)
   rw[eX] at go1
   refine Zbc go1 fun _ s6 h_=>?_
   obtain ⟨σ6,H6,J6,q6⟩:=h_
   have go2:=hT _ s6 σ6 H6 _ J6 q6
   rw[eX] at go2
   refine Zbc go2 fun ok s7 h_=>?_
   obtain ⟨H7,J7,q7⟩:=h_
   have fin:∀{σ8:St} {H8:Hp} {s8:Shared},Inv Y (((D,o3)::pl)++pinsAt fp s5.heap) σ8 H8 s8->
     tn (i + 1) s8.heap/\(∀b∈fp,H8 b=none):=fun {σ8 H8 s8} J8=>by
    refine ⟨T.keep _ _ _ st5 fun b hb o e=>(J8.pin (b,o) (Ye _ (Ye _ (ZaW hb e)))).1,fun b hb=>?_⟩
    obtain ⟨o,e,d⟩:=T.obj _ _ st5 b hb
    exact (J8.pin (b,o) (Ye _ (Ye _ (ZaW hb e)))).2.1
   cases ok with
   | false=>
    rw[if_neg Yv] at q7 ⊢
    obtain ⟨m',hm,w7⟩:=hN _ _ _ q7
    exact ⟨m',hm,i + 1,σ6,bs3,H7,o3,J7.unpinned,pinS (Y:=Y) (pins:=[]) (σ:=σ) (σ':=σ) (H:=H) (H':=H) S3 pD.1 (pin1 J7).1,(fin J7).1,(fin J7).2,w7⟩
   | true=>
    rw[if_pos rfl] at q7 ⊢
    have go3:=hE _ s7 σ6 H7 _ J7 q7
    rw[eX] at go3
    refine Zbc go3 fun yv s8 h_=>?_
    obtain ⟨y,H8,J8,r8,k,a,ey,ha,fb,hroom,n8⟩:=h_
    subst ey
    cases (show yv=YE a from r8)
    obtain ⟨m',hm,w8⟩:=hN _ _ _ n8
    have pD8:=pin1 J8
    have S8:=pinS (Y:=Y) (pins:=[]) (σ:=σ) (σ':=σ) (H:=H) (H':=H) (s':=s8) S3 pD.1 pD8.1
    refine call_addU (by first | exact hu | lia) S8 (fun p hp=>ZcF J8.hok (fb p hp)) (ZcF J8.hok ha) hroom fun h9 tk hs9 S9=>?_
    obtain ⟨d0,d1,d2,d3,d4,d5⟩:=hDf H8 pD8.2
    obtain ⟨o9,ho9,cx9,dt9⟩:∃o9,h9.get? D=some o9/\o9.ExactSet/\∀v,o9.data≠.cell v:=by
     obtain ⟨o9,es,ep,t,e1,e2,e3,_⟩:=S9
     exact ⟨o9,e1,e2,fun v z=>by rw[e3] at z;cases z⟩
    have Jp:Inv Y pl σ6 H8 s8:=J8.pins_of fun p hp=>J8.pin p (Ye _ (YF _ (YR _ hp)))
    have J9:Inv Y pl σ6 H8 { s8 with heap:=h9,toks:=tk }:=Jp.turned (fun b o hb e=>(hs9.2 b hb).trans e) d0 d1 d3 d4 d5
    refine ⟨m',hm,i + 1,σ6,_,H8,o9,J9.pins_of fun p hp=>?_,S9,?_,(fin J8).2,w8⟩
    ·rcases Ym.mp hp with rfl | hp
     ·exact ⟨ho9,d0,d1,d2,dt9⟩
     ·exact J9.pin p (Ye _ hp)
    ·exact T.keep _ _ _ (fin J8).1 fun b hb o e=>(hs9.2 b (fpD b hb)).trans e
 exact Zcm 1e6 loop (T.self _ 0 _ _ _ st loop)
end
section
variable {X:Cx}{elt t0 i0 t1 i1:Expr}{ifs:6e1}{scope:Scope}{pos:Pos}{vs fs:5e9}{fr:12e5}{g0 g1:TG}{wi1:TI}{tt:TT}{te:TE}
abbrev ledOf (X:Cx):Bool:=!X.w.params.followText "set-order"
theorem comp_blockS {pins:2e0}{σ:St}{H:Hp}{s:Shared}{Q:BS->Hp->Prop}{it:Addr}{fp:4e3}{tn:Nat->Heap->Prop}{J:It}{RR:Value->Addr->Result->Shared->Prop}
  (S:10e4) (hc:11e5) (hu:X.A.units + 1 < cLine)
  (hs1:∀(env:Env) x,Y5 i1 env x=pure x)
  (bG0:∀C s₀ H₀ ex pn,PG 1e4 t0 g0) (bI:∀C s₀ H₀ ex pn,PI 1e4 t1 i1 wi1) (bG1:∀C s₀ H₀ ex pn,PG 1e4 t1 g1)
  (bT:16e8) (bE:∀C s₀ H₀ ex pn,PE 1e4 elt te)
  (I:2e3) (T:Turn X.prog X.w X.K t0 J fp it tn) (st:tn 0 s.heap) (hf:∀b∈fp,FpOk X pins H b)
  (q:CompWS J vs fr g0 wi1 g1 tt te σ H Q)
  (hRR:∀D C H' s' m' bs,Inv X pins σ H' s'->SetU (mixKind X.prog X.w) s'.heap D (ledOf X) bs->H' D=none->s.heap.objs.size<=D->D≠C->Q bs H'->s'.heap.Ns C m'->H' C=none->s.heap.objs.size<=C->RR (.ref D) C (.ok .next) s'):
  wpAny 2e7 X.A (newSet (.type "set")) (fun acc s₃=>wpAny 2e7 X.A (newFunctionEnv scope X.env.globals 11e7 [] X.env.qual none .none (some X.env)) (fun cenv s₄=>
   X3 (model X.prog X.w) X.A (.compStart (sc2 elt t0 i0 t1 i1 ifs scope pos) 0 (.ref it) acc { cenv with scope:=relabel scope X.env }) (RR acc cenv.locals) s₄) X.xe s₃) X.xe s:=by
 obtain ⟨W,⟨m0,w0⟩,turn⟩:=q
 refine newSet_at (VD S.cell' (by intro y hy;simp at hy) (fun h₁ hns₁ hsb₁=>?_) S.kind)
 dsimp only at hns₁ hsb₁ ⊢
 generalize hH2:s.heap.push (newSetObj (ledOf X))=H2 at hns₁ hsb₁ ⊢
 have hCs:H2.objs.size=s.heap.objs.size + 1:=by rw[←hH2,V3]
 have hDC:s.heap.objs.size≠H2.objs.size:=by rw[hCs];exact Yr (VA _)
 have hCle:s.heap.objs.size<=H2.objs.size:=by rw[hCs];exact UM _
 have old:∀b o,s.heap.get? b=some o->h₁.get? b=some o:=fun b o e=>hsb₁.extBut b o (ZaN e hCle) (Yc _ (hH2 ▸ Yc _ e))
 have hacc:h₁.get? s.heap.objs.size=some (newSetObj (ledOf X)):=hsb₁.extBut _ _ hDC (Yc _ (hH2 ▸ Yp _ rfl))
 have hfo:∀b∈fp,∃o,s.heap.get? b=some o:=fun b hb=>by obtain ⟨o,e,_⟩:=T.obj 0 _ st b hb;exact ⟨o,e⟩
 have SU0:SetU (mixKind X.prog X.w) h₁ s.heap.objs.size (ledOf X) []:=⟨_,#[],0,_,hacc,⟨rfl,rfl,rfl⟩,rfl,rfl,TI.fresh _,by simp,.nil⟩
 generalize hY:CompCx X (vs++fs) scope H2.objs.size s H fp (X.pn++pins)=Y
 have J0:Inv Y [] (stIn vs fr σ) H { s with heap:=h₁,toks:=s.toks + ([]:List (Str×Value)).length }:=by
  rw[←hY];exact Zcy S I hf hfo hCle hns₁ old
 have hG0:PG Y t0 g0:=by rw[←hY];exact bG0 _ _ _ _ _
 have hI:PI Y t1 i1 wi1:=by rw[←hY];exact bI _ _ _ _ _
 have hG1:PG Y t1 g1:=by rw[←hY];exact bG1 _ _ _ _ _
 have hT:PTs Y ifs tt:=by rw[←hY];exact bT _ _ _ _ _
 have hE:PE Y elt te:=by rw[←hY];exact bE _ _ _ _ _
 have ePr:Y.prog=X.prog:=by rw[←hY];rfl
 have eW:Y.w=X.w:=by rw[←hY];rfl
 have eK:Y.K=X.K:=by rw[←hY];rfl
 have eA:Y.A=X.A:=by rw[←hY];rfl
 have eC:Y.calm=true:=by rw[←hY];exact hc
 have eEnv:Y.env=UE scope 11e7 H2.objs.size X.env:=by rw[←hY];rfl
 have eL:Y.env.locals=H2.objs.size:=by rw[eEnv];rfl
 have eX:Y.xe=fun _ _=>False:=by rw[←hY];rfl
 have eS:Y.s₀=s:=by rw[←hY];rfl
 have eEx:Y.ex=fp:=by rw[←hY];rfl
 have eFs:Y.fs=frs X.stack:=by rw[←hY];rfl
 have ePn:Y.pn=X.pn++pins:=by rw[←hY];rfl
 have eCl:∀x c,Y.env.cells.lookup x=some c->X.env.cells.lookup x=some c:=fun x c e=>by
  rw[eEnv] at e;exact S.cl I.ok e
 have cellLt:∀x c,Y.env.cells.lookup x=some c->c≠s.heap.objs.size:=fun x c e=>by
  obtain ⟨v,z⟩:=I.cell x c (eCl x c e);exact Yr z.lt
 have pnLt:∀p∈Y.pn,p.1≠s.heap.objs.size:=fun p hp=>by
  rw[ePn] at hp;exact ZaN (I.pin p hp).1 (Yh _)
 have fpD:∀b∈fp,b≠s.heap.objs.size:=fun b hb=>by obtain ⟨o,e⟩:=hfo b hb;exact ZaN e (Yh _)
 have hDfs:s.heap.objs.size∉Y.fs:=fun z=>by
  rw[eFs] at z
  rcases Ym.mp (I.stkSub _ z) with z | z
  ·exact absurd I.lt (by rw[←z];exact X0 _)
  ·exact I.nofs (Yh _) z
 have stat:∀{H':Hp} {o:Obj},12e0->∀b∈fp,FpOk Y [(s.heap.objs.size,o)] H' b:=fun {H' o} hn b hb=>by
  obtain ⟨f0,f1,f2,f3,f4,f5⟩:=hf b hb
  obtain ⟨ob,e⟩:=hfo b hb
  refine ⟨hn b hb,by rw[eL];exact ZaN e hCle,fun z=>?_,.inl (by rw[eEx];exact hb),fun x c e=>f4 x c (eCl x c e),fun p hp=>?_⟩
  ·rw[eFs] at z
   rcases Ym.mp (I.stkSub _ z) with z | z
   ·exact f1 z
   ·exact f2 z
  ·rcases Yw.mp hp with hp | hp
   ·rw[ePn] at hp;exact f5 p hp
   ·have:p=(s.heap.objs.size,o):=by simpa using hp
    rw[this];exact Xx (fpD b hb)
 have loop:∀s₃:Shared,s₃={ s with heap:=h₁,toks:=s.toks + ([]:List (Str×Value)).length }->
   X3 2e7 X.A (.compLoop 11e8 0 (.ref it) 10e1 (UE scope 11e7 H2.objs.size X.env))
    (RR 10e1 H2.objs.size) s₃:=by
  rintro s₃ rfl
  rw[←eEnv,←ePr,←eW,←eA]
  have SU0':SetU (mixKind Y.prog Y.w) h₁ s.heap.objs.size (ledOf X) []:=by rw[ePr,eW];exact SU0
  refine ZdD (hs1 _) (fun n s'=>∃i σ' bs H' o,Inv Y [(s.heap.objs.size,o)] σ' H' s'/\SetU (mixKind Y.prog Y.w) s'.heap s.heap.objs.size (ledOf X) bs/\tn i s'.heap/\12e0/\W i n σ' bs H') ?_ m0
   ⟨0,_,[],H,newSetObj (ledOf X),J0.pins_of fun p hp=>?_,SU0',T.keep _ _ _ st fun b _ o e=>old b o e,fun b hb=>(hf b hb).1,w0⟩
  case refine_2=>
   have:p=(s.heap.objs.size,newSetObj (ledOf X)):=by simpa using hp
   subst this
   exact ⟨hacc,I.hok.fresh (Yh _),by rw[eL];exact hDC,hDfs,fun v z=>by cases z⟩
  rintro n s3 ⟨i,σ3,bs3,H3,o3,J3,S3,st3,fr3,w3⟩
  have pD:=J3.pin (s.heap.objs.size,o3) (Ye _ (Yk.mpr rfl))
  rcases turn i n σ3 bs3 H3 w3 with ⟨stop,qn⟩ | ⟨go,N,hN,step⟩
  ·have dn:=T.done Y ePr eW eK eC i _ s3 σ3 H3 18e0 J3 (stat fr3) st3 stop
   rw[←ePr,←eW] at dn
   refine Zbc dn fun r s4 h_=>?_
   obtain ⟨hr,J4⟩:=h_
   subst hr
   have pD4:=J4.pin (s.heap.objs.size,o3) (Ye _ (Yk.mpr rfl))
   obtain ⟨m4,hm4,_⟩:=id J4.loc
   rw[eL] at hm4
   have nC:H3 H2.objs.size=none:=by rw[←eL];exact J4.free
   have S4:=S3.at fun u q=>by rw[pD.1] at q;cases q;exact pD4.1
   rw[ePr,eW] at S4
   exact hRR _ _ _ s4 m4 bs3 (ZdP I hf (by rw[hY];exact J4)) S4 pD4.2.1 (Yh _) hDC qn hm4 nC hCle
  ·have im:=T.item Y ePr eW eK eC i _ s3 σ3 H3 18e0 J3 (stat fr3) st3 go
   rw[←ePr,←eW] at im
   refine Zbc im fun r s4 h_=>?_
   obtain ⟨u,hr,h4⟩:=h_
   sleep 20
   have go1:=hG0 _ s5 σ3 H5 x u _ J5' r5 (step x H5 y5)
   rw[eX] at go1
   refine Zbc go1 fun _ s6 h_=>?_
   obtain ⟨σ6,H6,J6,q6⟩:=h_
   have go2:=hI _ s6 σ6 H6 _ J6 q6
   rw[eX] at go2
   refine Zbc go2 fun xv s7 h7=>Zbc h7 fun itv s8 h8=>?_
   obtain ⟨it1,fp1,tn1,J1,H8,e8,J8,T1,st8,f8,q8⟩:=h8
   subst e8
   have pD8:=J8.pin (s.heap.objs.size,o3) (Ye _ (YF _ (Yk.mpr rfl)))
   have S8:SetU (mixKind Y.prog Y.w) s8.heap s.heap.objs.size (ledOf X) bs3:=S3.at fun u q=>by rw[pD.1] at q;cases q;exact pD8.1
   refine inner_run (D:=s.heap.objs.size) (L:=ledOf X) (pl:=pinsAt fp s5.heap) (o:=o3) eC (by rw[eA];exact hu) eX hG1 hT hE (fun H' hn=>⟨hn,by rw[eL];exact hDC,hDfs,.inr (by rw[eS];exact Yh _),cellLt,fun p hp=>?_⟩) T1 q8 J8 S8 st8 f8 fun σ9 bs9 H9 s9 o9 J9 S9 n9=>?_
   ·rcases Yw.mp hp with hp | hp
    ·exact pnLt p hp
    ·exact fpD _ (of_pinsAt hp).1
   ·obtain ⟨m',hm,w9⟩:=hN _ _ _ n9
    refine ⟨m',hm,i + 1,σ9,bs9,H9,o9,J9.pins_of fun p hp=>J9.pin p (Ye _ ?_),S9,T.keep _ _ _ st5 fun b hb o e=>(J9.pin (b,o) (Ye _ (YR _ (ZaW hb e)))).1,fun b hb=>?_,w9⟩
    ·have:p=(s.heap.objs.size,o9):=by simpa using hp
     rw[this];exact YM
    ·obtain ⟨o,e,d⟩:=T.obj _ _ st5 b hb
     exact (J9.pin (b,o) (Ye _ (YR _ (ZaW hb e)))).2.1
 exact Zcm 1e6 (loop _ rfl) (T.self _ 0 _ _ _ (T.keep _ _ _ st fun b _ o e=>old b o e) (loop _ rfl))
def SetE (X:Cx)(pins:2e0)(σ:St)(Q:BS->Hp->Prop)(v:Value)(s':Shared):Prop:=∃D bs H',v=.ref D/\Inv X pins σ H' s'/\SetU (mixKind X.prog X.w) s'.heap D (ledOf X) bs/\H' D=none/\Q bs H'
theorem setcomp_at {wi0:TI}(S:10e4)(hc:11e5)(hu:X.A.units + 1 < cLine)(hi:PI X t0 i0 wi0)
  (hs1:∀(env:Env) x,Y5 i1 env x=pure x)
  (bG0:∀C s₀ H₀ ex pn,PG 1e4 t0 g0) (bI:∀C s₀ H₀ ex pn,PI 1e4 t1 i1 wi1) (bG1:∀C s₀ H₀ ex pn,PG 1e4 t1 g1)
  (bT:16e8) (bE:∀C s₀ H₀ ex pn,PE 1e4 elt te)
  {pins:2e0} {s:Shared} {σ:St} {H:Hp} {Q:BS->Hp->Prop} (I:2e3) (h:wi0 σ H fun J H1=>CompWS J vs fr g0 wi1 g1 tt te σ H1 Q)
  (hs:∀x,Y5 i0 X.env x=pure x):
  wpAny 2e7 X.A (eval 11e8 X.env) (SetE X pins σ Q) X.xe s:=by
 rw[arm_eval_SetComp]
 refine Wr (use:=none) rfl hs (ZbV (S.clos I.ok)) S.kind S.loc' (thn (hi pins s σ H _ I h) fun v s1 h1=>thn h1 fun itv s2 h2=>?_)
 obtain ⟨it,fp,tn,J,H2,e,I2,T,st2,f2,q2⟩:=h2
 subst e
 refine comp_blockS (RR:=fun acc C=>compPost 2e7 X.A X.xe none (SetE X pins σ Q) acc C) S hc hu hs1 bG0 bI bG1 bT bE I2 T st2 f2 q2 ?_
 intro D C H' s' m' bs I' SU hD hle0 hDC hq hn hC hle
 refine ⟨m',hn,fun h' hs'=>⟨D,bs,H',rfl,?_,SU.at fun o e=>(hs'.2 D hDC).trans e,hD,hq⟩⟩
 refine I'.turned (t':=s'.toks) (fun b o hb e=>(hs'.2 b hb).trans e) hC ?_ (.inr (YQ I2.sz hle)) ?_ ?_
 ·exact Wv (Yn I2.lt hle)
 ·intro x c e
  obtain ⟨v,z⟩:=I2.cell x c e
  exact Yr (Yn z.lt hle)
 ·intro p hp
  exact ZaN (I2.pin p hp).1 hle
end
end L2
namespace Pu
open PySem PySem.Spec PySem.W PySem.Calls L2 PySem.SeqAt
open PyProof.Rows hiding St Fr
theorem ZaZ:∀(qs:11e9),keysP (qs.map kP)=some qs
 | []=>rfl
 | q::qs=>by rw[Yq];unfold keysP;rw[keyP_kP,ZaZ qs]
section
variable {X:Cx}{e o i a:Expr}{es:6e1}{p pos pos' cpos apos:Pos}{x:Str}{fv fo fi fa:4e7}{fs:2e8}
def mNewK (i:Nat):PSt->M PF:=fun ρ C=>some (.nx (ρ.set i (some (.c C.length))),C++[.dct [] []])
def setK (v o i:SV)(ρ:PSt):M PF:=fun C=>match o,i,v with
 | .c k,.v ip,.v p=>match C[k]?,keyP ip with
  | some (.dct ks ps),some key=>match keysP ks with
   | some qs=>if ks.length < 1000 then some (.nx ρ,C.set k (.dct ((putKs qs key).map kP) (putVs qs ps key p))) else none
   | none=>none
  | _,_=>none
 | _,_,_=>none
def mSetIxK (fv fo fi:4e7):PSt->M PF:=fun ρ=>bnd (fv ρ) fun v=>bnd (fo ρ) fun o=>bnd (fi ρ) fun i=>setK v o i ρ
theorem setK_some {v o i:SV}{ρ:PSt}{C C2:Cs}{fl:PF}(h:setK v o i ρ C=some (fl,C2)):∃k ip p ks ps qs key,o=.c k/\i=.v ip/\v=.v p/\C[k]? = some (.dct ks ps)/\keyP ip=some key/\keysP ks=some qs/\ks.length < 1000/\fl=.nx ρ/\C2=C.set k (.dct ((putKs qs key).map kP) (putVs qs ps key p)):=by
 unfold setK at h
 split at h
 ·split at h
  ·split at h
   ·split at h
    ·cases h;exact ⟨_,_,_,_,_,_,_,rfl,rfl,rfl,by assumption,by assumption,by assumption,by assumption,rfl,rfl⟩
    ·cases h
   ·cases h
  ·cases h
 ·cases h
end
mutual
def flat:PV->Bool
 | .lst _=>false
 | .dct _ _=>false
 | .dtt _ _=>false
 | .tup xs=>flats xs
 | _=>true
def flats:List PV->Bool
 | []=>true
 | p::r=>flat p&&flats r
end
def flatC:PV->Bool
 | .lst ps=>flats ps
 | .dct _ ps=>flats ps
 | .dtt _ ps=>flats ps
 | _=>false
section
variable {K:W.Frag}{ι ι':4e3}{H H':Hp}{C:Cs}
mutual
theorem Rep.flat:∀(p:PV) (v:V),Pu.flat p=true->Rep K ι H p v->Rep K ι' H p v
 | .non,v,_,h=>by unfold Rep at h ⊢;exact h
 | .bl b,v,_,h=>by unfold Rep at h ⊢;exact h
 | .int i,v,_,h=>by unfold Rep at h ⊢;exact h
 | .str x,v,_,h=>by unfold Rep at h ⊢;exact h
 | .tup ps,v,f,h=>by
  sleep 17
  exact ⟨a,vs,e,sq,Reps.flat ps vs (by unfold Pu.flat at f;exact f) r⟩
 | .lst ps,v,f,h=>by unfold Pu.flat at f;cases f
 | .dct ks ps,v,f,h=>by unfold Pu.flat at f;cases f
 | .dtt ks ps,v,f,h=>by unfold Pu.flat at f;cases f
 | .fn a,v,_,h=>by unfold Rep at h ⊢;exact h
 | .ty n,v,_,h=>by unfold Rep at h ⊢;exact h
theorem Reps.flat:∀(ps:List PV) (vs:List V),Pu.flats ps=true->Reps K ι H ps vs->Reps K ι' H ps vs
 | [],vs,_,h=>by unfold Reps at h ⊢;exact h
 | p::ps,vs,f,h=>by
  unfold Reps at h ⊢
  obtain ⟨v,r,e,h1,h2⟩:=h
  unfold Pu.flats at f
  rw[Yt] at f
  exact ⟨v,r,e,Rep.flat p v f.1 h1,Reps.flat ps r f.2 h2⟩
end
theorem CellOk.flat {a:Addr}{c:PV}(f:flatC c=true)(h:CellOk K ι H a c):CellOk K ι' H a c:=by
 cases c with
 | lst ps=>obtain ⟨vs,e,r⟩:=h;exact ⟨vs,e,Reps.flat _ _ f r⟩
 | dct ks ps=>obtain ⟨qs,vs,e,hl,hk,r⟩:=h;exact ⟨qs,vs,e,hl,hk,Reps.flat _ _ f r⟩
 | dtt ks ps=>obtain ⟨vs,e,hl,r⟩:=h;exact ⟨vs,e,hl,Reps.flat _ _ f r⟩
 | _=>exact h.elim
theorem CellOk.cells {a:Addr}{c:PV}(hs:∀b o,H b=some o->b∉ι->b∉ι')(h:CellOk K ι H a c):CellOk K ι' H a c:=by
 cases c with
 | lst ps=>obtain ⟨vs,e,r⟩:=h;exact ⟨vs,e,16e9⟩
 | dct ks ps=>obtain ⟨qs,vs,e,hl,hk,r⟩:=h;exact ⟨qs,vs,e,hl,hk,16e9⟩
 | dtt ks ps=>obtain ⟨vs,e,hl,r⟩:=h;exact ⟨vs,e,hl,16e9⟩
 | _=>exact h.elim
theorem CellOk.rep {a:Addr}{c:PV}(hna:a∉ι')(hs:∀b o,H b=some o->b∉ι->b∉ι')(h:CellOk K ι H a c):Rep K ι' H c (.ref a):=by
 cases c with
 | lst ps=>obtain ⟨vs,e,r⟩:=h;unfold Rep;exact ⟨a,vs,rfl,.inl ⟨hna,.inl e⟩,16e9⟩
 | dct ks ps=>obtain ⟨qs,vs,e,hl,hk,r⟩:=h;unfold Rep;exact ⟨a,qs,vs,rfl,hna,e,hl,hk,16e9⟩
 | dtt ks ps=>obtain ⟨vs,e,hl,r⟩:=h;unfold Rep;exact ⟨a,vs,rfl,hna,.inl e,hl,16e9⟩
 | _=>exact h.elim
end
def pickK (xs:List SV):List Nat->Option (List Nat)
 | []=>some []
 | i::r=>match xs[i]?,pickK xs r with
  | some (.c k),some ks=>if k∈ks then none else some (k::ks)
  | _,_=>none
def smallX (C:Cs)(ks:12e5):List SV->Option (List SV)
 | []=>some []
 | .v p::r=>(smallX C ks r).map (.v p::·)
 | .c k::r=>match ks.idxOf? k with
  | some j=>(smallX C ks r).map (.c j::·)
  | none=>match C[k]? with
   | some c=>(smallX C ks r).map (.v c::·)
   | none=>none
def smallC (C:Cs):List Nat->Option Cs
 | []=>some []
 | k::r=>match C[k]?,smallC C r with
  | some c,some cs=>some (c::cs)
  | _,_=>none
def backC (C:Cs):List Nat->Cs->Cs
 | k::ks,c::cs=>backC (C.set k c) ks cs
 | _,_=>C
section
variable {K:W.Frag}{ι:4e3}{H H':Hp}{C D:Cs}
theorem ZdF:∀{ks:12e5} {D:Cs},smallC C ks=some D->D.length=ks.length/\∀(j k:Nat),ks[j]? = some k->∃c,D[j]? = some c/\C[k]? = some c
 | [],D,h=>by cases h;exact ⟨rfl,fun j k e=>by simp at e⟩
 | k::ks,D,h=>by
  unfold smallC at h
  split at h
  ·rename_i c cs h1 h2
   cases h
   obtain ⟨a,b⟩:=ZdF h2
   refine ⟨by simp[a],fun j k' e=>?_⟩
   cases j with
   | zero=>simp at e;subst e;exact ⟨c,rfl,h1⟩
   | succ j=>exact b j k' (by simpa using e)
  ·cases h
theorem backC_len:∀{ks:12e5} {C D:Cs},(backC C ks D).length=C.length
 | [],C,D=>by unfold backC;rfl
 | k::ks,C,[]=>by unfold backC;rfl
 | k::ks,C,c::D=>by unfold backC;rw[backC_len,XM]
theorem backC_get:∀{ks:12e5} {C D:Cs},ks.Nodup->D.length=ks.length->(∀k∈ks,k < C.length)->(∀(j k:Nat),ks[j]? = some k->(backC C ks D)[k]? = D[j]?)/\∀(k:Nat),k∉ks->(backC C ks D)[k]? = C[k]?
 | [],C,D,_,_,_=>⟨fun j k e=>by simp at e,fun k _=>by unfold backC;rfl⟩
 | k::ks,C,[],_,h,_=>by simp at h
 | k::ks,C,c::D,nd,h,hl=>by
  rw[Xm] at nd
  have ih:=backC_get (ks:=ks) (C:=C.set k c) (D:=D) nd.2 12e1 (fun q hq=>by rw[XM];exact hl q (YR _ hq))
  unfold backC
  refine ⟨fun j q e=>?_,fun q hq=>?_⟩
  ·cases j with
   | zero=>
    simp at e;subst e
    rw[ih.2 k nd.1,XD (hl k YM)];rfl
   | succ j=>rw[ih.1 j q (by simpa using e)];rfl
  ·rw[Ym,not_or] at hq
   rw[ih.2 q hq.2,Yy (Xx hq.1)]
theorem pickK_ok {xs:List SV}{vs:List V}(rs:RepSs K ι H xs vs):∀{ix ks:12e5},pickK xs ix=some ks->ks.Nodup/\∀k∈ks,k < ι.length
 | [],ks,h=>by cases h;exact ⟨.nil,fun k hk=>by cases hk⟩
 | i::ix,ks,h=>by
  unfold pickK at h
  split at h
  ·rename_i k ks' h1 h2
   split at h
   ·cases h
   ·rename_i hn
    cases h
    obtain ⟨a,b⟩:=pickK_ok rs h2
    refine ⟨Xm.mpr ⟨hn,a⟩,fun q hq=>?_⟩
    rcases Ym.mp hq with rfl | hq
    ·obtain ⟨v,_,a,_,e⟩:=RepSs.get rs h1
     rcases YC q ι.length with z | z
     ·exact z
     ·rw[Yg.mpr z] at e;cases e
    ·exact b q hq
  ·cases h
def addrs (ι:4e3)(ks:12e5):List Addr:=ks.map fun k=>ι.getD k 0
theorem Zdy {ks:12e5}(hl:∀k∈ks,k < ι.length){j k:Nat}(e:ks[j]? = some k):(addrs ι ks)[j]? = ι[k]?:=by
 unfold addrs
 rw[YL,e]
 have:=hl k (YK e)
 simp[Yb this]
theorem Zbi {ks:12e5}(hl:∀k∈ks,k < ι.length){b:Addr}(h:b∈addrs ι ks):∃k∈ks,ι[k]? = some b:=by
 unfold addrs at h
 obtain ⟨k,hk,e⟩:=YB.mp h
 refine ⟨k,hk,?_⟩
 have:=hl k hk
 simp[Yb this] at e ⊢
 exact e
theorem get_inj (nd:ι.Nodup){j k:Nat}{a:Addr}(h1:ι[j]? = some a)(h2:ι[k]? = some a):j=k:=by
 obtain ⟨l1,e1⟩:=YT.mp h1
 obtain ⟨l2,e2⟩:=YT.mp h2
 exact (WD nd).mp (e1.trans e2.symm)
theorem Zdx (nd:ι.Nodup):∀{ks:12e5},ks.Nodup->(∀k∈ks,k < ι.length)->(addrs ι ks).Nodup
 | [],_,_=>.nil
 | k::ks,h,hl=>by
  rw[Xm] at h
  show (ι.getD k 0::addrs ι ks).Nodup
  refine Xm.mpr ⟨fun z=>?_,Zdx nd h.2 fun q hq=>hl q (YR _ hq)⟩
  obtain ⟨q,hq,e⟩:=Zbi (fun q hq=>hl q (YR _ hq)) z
  have hk:=hl k YM
  have e2:ι[k]? = some (ι.getD k 0):=by simp[Yb hk]
  exact h.1 ((get_inj nd e2 e) ▸ hq)
theorem small_cr (cr:12e3){ks:12e5}(nd:ks.Nodup)(hl:∀k∈ks,k < ι.length)(e:smallC C ks=some D):CR K (addrs ι ks) H D:=by
 obtain ⟨l,g⟩:=ZdF e
 have hs:∀b o,H b=some o->b∉ι->b∉addrs ι ks:=fun b o _ n z=>by
  obtain ⟨k,_,q⟩:=Zbi hl z
  exact n (YK q)
 refine ⟨by unfold addrs;rw[YA,l],Zdx cr.nd nd hl,fun j a c h1 h2=>?_⟩
 have hj:j < ks.length:=by
  rcases YC j ks.length with z | z
  ·exact z
  ·rw[Yg.mpr 1e2] at h2;cases h2
 have ek:=Yb hj
 rw[Zdy hl ek] at h1
 obtain ⟨c',g1,g2⟩:=g j _ ek
 rw[h2] at g1;cases g1
 exact (cr.ok _ a c h1 g2).cells hs
theorem ZbQ (cr:12e3){ks:12e5}(hl:∀k∈ks,k < ι.length):∀{xs ys:List SV} {vs:List V},RepSs K ι H xs vs->smallX C ks xs=some ys->RepSs K (addrs ι ks) H ys vs
 | [],ys,vs,r,e=>by cases e;exact r
 | .v p::xs,ys,vs,r,e=>by
  obtain ⟨v,w,rfl,h1,h2⟩:=r
  unfold smallX at e
  cases hq:smallX C ks xs with
  | none=>rw[hq] at e;cases e
  | some z=>
   rw[hq] at e;cases e
   exact ⟨v,w,rfl,Rep.cells (fun b o _ n z=>by obtain ⟨k,_,q⟩:=Zbi hl z;exact n (YK q)) p v h1,ZbQ cr hl h2 hq⟩
 | .c k::xs,ys,vs,r,e=>by
  obtain ⟨v,w,rfl,⟨a,rfl,ha⟩,h2⟩:=r
  unfold smallX at e
  cases hi:ks.idxOf? k with
  | some j=>
   rw[hi] at e
   cases hq:smallX C ks xs with
   | none=>rw[hq] at e;cases e
   | some z=>
    rw[hq] at e;cases e
    refine ⟨.ref a,w,rfl,⟨a,rfl,?_⟩,ZbQ cr hl h2 hq⟩
    have ej:ks[j]? = some k:=by
     rw[List.idxOf?_eq_some_iff] at hi
     obtain ⟨h,e,_⟩:=hi
     rw[Yb h,e]
    rw[Zdy hl ej];exact ha
  | none=>
   rw[hi] at e
   have hk:k∉ks:=List.idxOf?_eq_none_iff.mp hi
   cases hc:C[k]? with
   | none=>rw[hc] at e;cases e
   | some c=>
    rw[hc] at e
    cases hq:smallX C ks xs with
    | none=>rw[hq] at e;cases e
    | some z=>
     rw[hq] at e;cases e
     refine ⟨.ref a,w,rfl,(cr.ok k a c ha hc).rep (fun z=>?_) (fun b o _ n z=>by obtain ⟨k,_,q⟩:=Zbi hl z;exact n (YK q)),ZbQ cr hl h2 hq⟩
     obtain ⟨k',hk',q⟩:=Zbi hl z
     exact hk ((get_inj cr.nd ha q) ▸ hk')
theorem small_fr {ks:12e5}(hl:∀k∈ks,k < ι.length)(f:Fr (addrs ι ks) H H'):Fr ι H H':=fun b o n e=>f b o (fun z=>by obtain ⟨k,_,q⟩:=Zbi hl z;exact n (YK q)) e
theorem small_back (cr:12e3){ks:12e5}(nd:ks.Nodup)(hl:∀k∈ks,k < ι.length)(f:Fr (addrs ι ks) H H')(c2:CR K (addrs ι ks) H' D)(fl:D.all flatC=true):CR K ι H' (backC C ks D):=by
 have hlD:D.length=ks.length:=by rw[←c2.len];unfold addrs;rw[YA]
 obtain ⟨g1,g2⟩:=backC_get (C:=C) (D:=D) nd hlD fun k hk=>by rw[←cr.len];exact hl k hk
 refine ⟨by rw[backC_len];exact cr.len,cr.nd,fun k a c h1 h2=>?_⟩
 by_cases hk:k∈ks
 ·obtain ⟨j,hj,e⟩:=WA hk
  have ej:ks[j]? = some k:=by rw[Yb hj,e]
  rw[g1 j k ej] at h2
  have:=c2.ok j a c (by rw[Zdy hl ej];exact h1) h2
  exact this.flat (YW.mp fl c (YK h2))
 ·rw[g2 k hk] at h2
  refine (cr.ok k a c h1 h2).mono cr (small_fr hl f) fun o e=>f a o (fun z=>?_) e
  obtain ⟨k',hk',q⟩:=Zbi hl z
  exact hk ((get_inj cr.nd h1 q) ▸ hk')
end
def mFnS (F:List SV->M SV)(ix:12e5)(fs:2e8):PSt->M SV:=fun ρ=>bnd (fs ρ) fun xs C=>match pickK xs ix with
 | some ks=>match smallX C ks xs,smallC C ks with
  | some ys,some D=>match F ys D with
   | some (.v p,D')=>if flat p&&D'.all flatC then some (.v p,backC C ks D') else none
   | _=>none
  | _,_=>none
 | none=>none
theorem mFnS_some {F:List SV->M SV}{ix:12e5}{xs:List SV}{C C':Cs}{z:SV}(h:(match pickK xs ix with
 | some ks=>match smallX C ks xs,smallC C ks with
  | some ys,some D=>match F ys D with
   | some (.v p,D')=>if flat p&&D'.all flatC then some (.v p,backC C ks D') else none
   | _=>none
  | _,_=>none
 | none=>none:Option (SV×Cs))=some (z,C')):∃ks ys D p D',pickK xs ix=some ks/\smallX C ks xs=some ys/\smallC C ks=some D/\F ys D=some (.v p,D')/\flat p=true/\D'.all flatC=true/\z=.v p/\C'=backC C ks D':=by
 split at h
 ·split at h
  ·split at h
   ·split at h
    ·rename_i hf
     rw[Yt] at hf
     cases h
     exact ⟨_,_,_,_,_,by assumption,by assumption,by assumption,by assumption,hf.1,hf.2,rfl,rfl⟩
    ·cases h
   ·cases h
  ·cases h
 ·cases h
theorem em_callS {X:Cx}{e:Expr}{es:6e1}{p pos:Pos}{x:Str}{k:Nat}{f:Addr}{fd:X2}{ps:5e9}{F:List SV->M SV}{fs:2e8}(ix:12e5)(G:FnOk X.prog X.w X.K X.mg X.base CX0 k f fd ps (liftSp X.K F))(hr:Room k X.A)(hg:Gl X x)(hm:X.mg x=some (.ref f))(hk:VX X.K (.ref f)=true)(hb:Binds X.K fd ps [])
  (ha:AM X 9e1 fs) (hdb:5e5:=by decide) (he:1e8:=by rfl) (hpl:3e1:=by rfl):
  EM X 7e0 (mFnS F ix fs):=PE.imp (pe_call G hr hg hm hk hb .nil pass0 ha hdb he hpl) fun σ H Q h=>by
 obtain ⟨ι,ρ,C,z,C',sr,e,q⟩:=h
 sleep 10
 refine ⟨ι,ρ,C,xs,C1,sr,e1,fun vs H1 f1 c1 r1=>?_⟩
 obtain ⟨ks,ys,D,q',D',a1,a2,a3,a4,a5,a6,rfl,rfl⟩:=mFnS_some e
 obtain ⟨nd,hl⟩:=pickK_ok r1 a1
 show liftSp X.K F (vs++[]) H1 Q E0
 rw[YJ]
 exact ⟨addrs ι ks,ys,D,.v q',D',small_cr c1 nd hl a3,ZbQ c1 hl r1 a2,a4,fun v H2 f2 c2 r2=>q v H2 (f1.trans (small_fr hl f2)) (small_back c1 nd hl f2 c2 a6) (show Rep X.K ι H2 q' v from Rep.flat q' v a5 r2)⟩
theorem keyIs_rel {k:Key}{u:Value}(h:keyIs k u=true):RelV (kV k) u:=by
 rcases ZaS h with ⟨i,t,rfl,rfl⟩ | ⟨x,t,rfl,rfl⟩
 ·exact ⟨t,rfl⟩
 ·exact ⟨t,rfl⟩
theorem pairs_vals {P:YD}{w:World}{es:List V7}{vs:List (Key×Value)}(h:Pairs (mixKind P w) es vs):Vals (vs.map fun q=>kV q.1) (es.map (·.key)):=by
 induction h with
 | nil=>exact .nil
 | cons h1 h2 h3 ih=>exact .cons (keyIs_rel h1) ih
theorem items_keys {es:Array V7}{acc:Array Value}(h:ItemsOf (fun i v=>∃e,es[i]? = some e/\v=e.key) acc es.size):acc.toList=es.toList.map (·.key):=by
 apply Xe
 intro i
 rw[Xg,YL,Xg]
 by_cases hi:i < acc.size
 ·obtain ⟨e,e1,e2⟩:=h.2 i _ (Yj hi)
  rw[Yj hi,e2,e1];rfl
 ·have:=h.1
  rw[YN 1e2,YN 1e2];rfl
section
variable {X:Cx}
def rSortedK (K:W.Frag):List V->Hp->VK->Prop:=fun xs H Q=>∃p kvs,xs=[.ref p]/\H p=some (.dK kvs)/\(kvs.map (·.1)).all keyOk=true/\(sortP (kvs.map fun q=>kP q.1)).isSome=true/\
 ∀l,H l=none->Q (.ref l) (upd H l (.lst (sortV (kvs.map fun q=>kP q.1) (kvs.map fun q=>kV q.1))))
theorem call_sortedK (hcm:11e5)(hu:8e8):CallR X 18e4 (rSortedK X.K):=by
 sleep 21
 obtain ⟨p,kvs,rfl,hq,hko,hs,q⟩:=h
 obtain ⟨u,rfl,rx⟩:=vals1 r
 cases rx
 obtain ⟨hz,lo,vs,kv,o,es,ep,ho,hex,hda,hke,hpa,hnd⟩:=dk_of I.hok hq
 have hkv:(kvs.map fun q=>kV q.1)=vs.map fun q=>kV q.1:=by
  have:=kv.keys
  have e1:(kvs.map fun q=>kV q.1)=(kvs.map (·.1)).map kV:=by rw[Xi];rfl
  have e2:(vs.map fun q=>kV q.1)=(vs.map (·.1)).map kV:=by rw[Xi];rfl
  rw[e1,e2,this]
 have hv:=pairs_vals hpa
 rw[←hkv] at hv
 have hl:es.size=kvs.length:=by
  have:=hv.length
  simpa using this.symm
 generalize hps:(kvs.map fun q=>kP q.1)=ps at hs q
 have hpl:ps.length=kvs.length:=by rw[←hps,YA]
 have rs:∀ι,Reps X.K ι H ps (kvs.map fun q=>kV q.1):=fun ι=>by
  rw[←hps,show (kvs.map fun q=>kP q.1)=(kvs.map (·.1)).map kP by rw[Xi];rfl,show (kvs.map fun q=>kV q.1)=(kvs.map (·.1)).map kV by rw[Xi];rfl]
  exact reps_kP hko
 unfold sortP at hs
 split at hs
 ·rename_i hh
  simp only[Yt,decide_eq_true_eq] at hh
  obtain ⟨⟨⟨⟨hd,hde⟩,h64⟩,hso⟩,hcm'⟩:=hh
  have hr:=Reps.heap I ps (rs []) hv hd
  have hvl:(es.toList.map (·.key)).length=ps.length:=by rw[YA,YH];lia
  refine Zco (vs:=es.toList.map (·.key)) (κ:=kindP ps) (o:=oP ps) (fun Q' q'=>?_) 1e2 (fun h2 h' tk k Q' q'=>?_) (fun h2 h' tk k i j C hi hj hC=>?_) (fun D h' tk c hD k e=>?_)
  ·refine Zdt (raw_src (es:=es) (ep:=ep) lo) (I.ok.hd hcm) ⟨o,ho,hex,hda⟩ (by rw[YS];lia) fun h' tk acc k hle ai=>?_
   rw[items_keys ai]
   exact q' h' tk k hle
  ·exact Zdg (s:={ s with heap:=h',toks:=tk }) (hr.keep k) h2 hso q'
  ·exact ask_of (s:={ s with heap:=h',toks:=tk }) (hr.keep k) hso hcm' (by rw[YU,YU];lia) hi hj hC
  ·rw[Zcc hvl.symm] at e
   refine ⟨.ref D,_,I.laid (t':=tk) k hD (show ObjOk X.prog X.w _ h' _ (.lst (sortV ps (kvs.map fun q=>kV q.1))) from ⟨?_,sortU ps (es.toList.map (·.key)),c,?_,e⟩),rfl,q _ (I.hok.fresh hD)⟩
   ·unfold sortV
    rw[YA]
    have:(perm ps).length<=64:=by
     unfold perm
     split
     ·rw[X5];lia
     ·rw[YH,(ZcB (o:=oP ps) 17e6 (ZbF 1e2)).2.1];lia
    exact YQ this (by rw[YS];decide)
   ·exact ZbO hv fun i hi=>by have:=Zbn i hi;simp only[YA,YH] at hvl ⊢;lia
 ·cases hs
def sortedH3 (C:Cs):List SV->Option 14e9
 | [x]=>match deref C x with
  | some (.dct ks _)=>match keysP ks with
   | some qs=>if qs.all keyOk then sortP ks else none
   | none=>none
  | _=>sortedH2 C [x]
 | _=>none
def mSorted3 (fs:2e8):PSt->M 14e9:=fun ρ=>bnd (fs ρ) fun xs=>opM fun C=>sortedH3 C xs
theorem PE.or {e:Expr}{t t':TE}(h:PE X e t)(k:PE X e t'):PE X e fun σ H Q=>t σ H Q\/t' σ H Q:=fun pins s σ H Q I q=>by
 rcases q with q | q
 ·exact h pins s σ H Q I q
 ·exact k pins s σ H Q I q
end
end Pu
namespace Pu
open PySem PySem.Spec L2
open PyProof.Rows hiding St Fr
def Je (K:W.Frag)(a:Addr):It:=⟨fun i H=>∃xs v,SqL K H a xs/\xs[i]? = some v,fun i H x H'=>∃b v,H b=none/\x=.ref b/\H'=upd H b (.tup [.int i,v])/\∀xs,SqL K H a xs->xs[i]? = some v,
 fun i H=>∃xs,SqL K H a xs/\xs.length<=i⟩
theorem turn_enum {P:YD}{w:World}{K:W.Frag}{elts:6e1}{x1:Nat}{pos:Pos}{a e it:Addr}(hne:e≠it):Turn P w K (.Tuple elts x1 pos) (Je K a) [e,it] e
  (fun i h=>(∃old,IsEnum h e it i old)/\h.IsListIter it a i) where
 mem:=by simp
 obj:=fun i h st b hb=>by
  obtain ⟨⟨old,he⟩,o,hi,hc,hd⟩:=st
  simp only[Ym,Xd,or_false] at hb
  rcases hb with rfl | rfl
  ·exact ⟨_,he,fun v q=>by cases q⟩
  ·exact ⟨o,hi,fun v q=>by rw[hd] at q;cases q⟩
 keep:=fun i h h' st k=>by
  obtain ⟨⟨old,he⟩,hi⟩:=st
  exact ⟨⟨old,k e 4e6 _ he⟩,hi.at fun o z=>k it 4e6 o z⟩
 item:=by
  sleep 5
  obtain ⟨⟨old,he⟩,hi⟩:=st
  obtain ⟨xs,v,hq,hx⟩:=hg
  obtain ⟨its,rv,p,hz⟩:=I.list hq
  obtain ⟨u,hu,ru⟩:=rv.get hx
  refine wpAny_pyNext_enum_item he hi p.isList (x:=u) (by simpa using hu) hne fun h' ho hi' hT hsz hk=>⟨_,rfl,?_⟩
  refine wpAny_letOwnedTupleGo_enum (s:={ s with heap:=h',toks:=s.toks + 1 }) ho fun h3 he3 sb=>?_
  have J1:Inv X pins σ H { s with heap:=h3,toks:=s.toks + 1 }:=turnedL (ch:=[e,it]) I (fun b o hb z=>by
   simp only[Ym,Xd,or_false,not_or] at hb
   exact sb.extBut _ _ hb.1 (hk b o hb.1 hb.2 z)) hf
  have hlt:∀{b o},s.heap.get? b=some o->b≠s.heap.objs.size:=fun e=>Yr (Yz e)
  have hn:H s.heap.objs.size=none:=I.hok.fresh (Yh _)
  have hT3:=sb.extBut _ _ (hlt he).symm hT
  have J2:=track (ob:=.tup [.int i,v]) J1 hn I.sz (Wv I.lt) (fun x c e=>by obtain ⟨v,q⟩:=I.cell x c e;exact Yr q.lt) (fun p hp=>hlt (I.pin p hp).1)
   ⟨by show 2<=Yu;rw[YS];decide,[.int i s.toks,u],.cons 9e7 (.cons ru .nil),⟨_,hT3,rfl,_,rfl⟩⟩
  refine ⟨.ref s.heap.objs.size,_,J2,rfl,⟨_,v,hn,rfl,rfl,fun ys hy=>by rw[I.list_inj hy hq];exact hx⟩,⟨⟨_,he3⟩,hi'.at fun o z=>sb.extBut _ _ hne.symm z⟩,fun b hb=>?_⟩
  have hb':b≠s.heap.objs.size:=by
   simp only[Ym,Xd,or_false] at hb
   rcases hb with rfl | rfl
   ·exact hlt he
   ·obtain ⟨o,z,_⟩:=hi;exact hlt z
  rw[Zaw hb'];exact (hf b hb).1
 done:=by
  sleep 5
  obtain ⟨⟨old,he⟩,hi⟩:=st
  obtain ⟨xs,hq,hx⟩:=hg
  obtain ⟨its,rv,p,hz⟩:=I.list hq
  have hl:=rv.length
  refine wpAny_pyNext_enum_end (I.ok.hd hc) he hi p.isList 11e0 fun h' eb=>⟨rfl,turnedL (t':=s.toks) (ch:=[e,it]) I (fun b o hb z=>?_) hf⟩
  simp only[Ym,Xd,or_false,not_or] at hb
  exact eb b o hb.2 z
 self:=fun _ _ _ _ _ st h=>by obtain ⟨⟨old,he⟩,_⟩:=st;exact wpAny_pyIter_enum he h
section
variable {X:Cx}{l:Expr}{elts:6e1}{x1:Nat}{tpos p pos:Pos}
def iEnum (K:W.Frag)(tl:TA):TI:=fun σ H R=>tl σ H fun xs H1=>∃a,xs=[.ref a]/\(∃vs,SqL K H1 a vs)/\R (Je K a) H1
theorem pi_enum {tl:TA}(hg:Gl X "enumerate")(hm:X.mg "enumerate"=none)(ha:PA X [l] tl)(hs:Yo [l] X.env=[(false,eval l X.env)]:=by rfl):PI X (.Tuple elts x1 tpos) (.Call (.Name "enumerate" p) [l] [] pos) (iEnum X.K tl):=by
 intro pins s σ H R I h
 refine Call_ (Zdf I hg hm 1e0 (X7 (thn (ha pos pins s σ H _ I h) fun us s1 ⟨vs,H1,I1,r1,q1⟩=>?_) hs rfl))
 obtain ⟨a,rfl,⟨ws,hq⟩,q⟩:=q1
 obtain ⟨u,rfl,ru⟩:=vals1 r1
 cases ru
 obtain ⟨its,rv,pl,hz⟩:=I1.list hq
 refine call_enumerate_list pl.isList fun h' he hi hsz k=>?_
 have J:Inv X pins σ H1 { s1 with heap:=h' }:=I1.kept (t':=s1.toks) k
 refine wpAny_pyIter_enum (s:={ s1 with heap:=h' }) he ⟨s1.heap.objs.size + 1,[s1.heap.objs.size + 1,s1.heap.objs.size],_,_,H1,rfl,J,turn_enum (Nat.succ_ne_self _),⟨⟨_,he⟩,hi⟩,fun b hb=>?_,q⟩
 have hb':s1.heap.objs.size<=b:=by
  simp only[Ym,Xd,or_false] at hb
  rcases hb with rfl | rfl<;>lia
 exact I1.fpOk hb' (I1.hok.fresh hb')
def enumL (xs:List PV):List PV:=(Yi xs.length).map fun i=>.tup [.int (i:Nat),xs.getD i .non]
def enumP:List SV->Option 14e9
 | [.v (.lst xs)]=>some (enumL xs)
 | _=>none
def mEnum (fs:2e8):PSt->M 14e9:=fun ρ=>bnd (fs ρ) fun xs=>opM fun _=>enumP xs
theorem ZbN (xs:List PV):(enumL xs).length=xs.length:=by unfold enumL;simp
theorem iter_enum {K:W.Frag}{ι:4e3}{H:Hp}{C:Cs}{a:Addr}{xs:List PV}{vs:List V}(cr:12e3)(h:LsR K ι H a vs)(r:Reps K ι H xs vs):Iter K ι H (enumL xs) (Je K a):=by
 have keep:∀ι2 H2,Ex ι ι2 H H2->SqL K H2 a vs:=fun ι2 H2 x=>by
  rcases h with ⟨n,q | ⟨o,q⟩⟩ | q
  ·exact .inl (.inl (x.out _ _ n q).2)
  ·exact .inl (.inr ⟨o,(x.out _ _ n q).2⟩)
  ·exact .inr q
 refine ⟨fun ι2 H2 C2 x c i hi=>?_,fun ι2 H2 C2 x c i v H3 hi y=>?_,fun ι2 H2 C2 x c=>⟨vs,keep ι2 H2 x,by rw[ZbN,r.length];exact Yh _⟩⟩
 ·rw[ZbN] at hi
  obtain ⟨v,e,_⟩:=r.get (Yb hi)
  exact ⟨vs,v,keep ι2 H2 x,e⟩
 ·rw[ZbN] at hi
  obtain ⟨b,w,hn,rfl,rfl,y⟩:=y
  obtain ⟨p,hp,rp⟩:=r.get' (y vs (keep ι2 _ x))
  refine ⟨fun c o e=>by rw[Zaw (Zar e hn)];exact e,.tup [.int (i:Nat),p],?_,Zc9 hn (.cons repI (.cons (Rep.tr cr x.out p w rp) .nil))⟩
  unfold enumL
  simp[hi]
  rw[Yb hi] at hp
  exact YG hp
def loopE (g:5e2)(f:13e8)(k:Nat):Nat->Nat->PSt->M PF
 | 0,_,_=>fun _=>none
 | n + 1,j,ρ=>fun C=>match C[k]? with
  | some (.lst qs)=>match qs[j]? with
   | some x=>match g (.tup [.int (j:Nat),x]) ρ with
    | none=>none
    | some ρ1=>bnd (f ρ1) (fun fl=>match fl with
     | .nx ρ2=>loopE g f k n (j + 1) ρ2
     | .ct ρ2=>loopE g f k n (j + 1) ρ2
     | .bk ρ2=>Pu.ret (.nx ρ2)
     | .rt r=>Pu.ret (.rt r)
     | .rf ps=>Pu.ret (.rf ps)
     | .rq ps=>Pu.ret (.rq ps)) C
   | none=>some (.nx ρ,C)
  | _=>none
def mForE (fs:2e8)(g:5e2)(f:13e8):PSt->M PF:=fun ρ=>bnd (fs ρ) fun x=>match x with
 | [.c k]=>loopE g f k 1000 0 ρ
 | _=>fun _=>none
end
def putD (k:Nat)(y v:SV):M Unit:=fun C=>match y,v with
 | .v (.tup qs),.v p=>match C[k]?,keysP qs with
  | some (.dtt ks ps),some key=>if ks.length < 1000 then some ((),C.set k (.dtt (putKs ks key) (putVs ks ps key p))) else none
  | _,_=>none
 | _,_=>none
theorem putD_some {k:Nat}{y v:SV}{C C2:Cs}{u:Unit}(h:putD k y v C=some (u,C2)):∃qs p ks ps key,y=.v (.tup qs)/\v=.v p/\C[k]? = some (.dtt ks ps)/\keysP qs=some key/\ks.length < 1000/\C2=C.set k (.dtt (putKs ks key) (putVs ks ps key p)):=by
 unfold putD at h
 split at h
 ·split at h
  ·split at h
   ·cases h;exact ⟨_,_,_,_,_,rfl,rfl,by assumption,by assumption,by assumption,rfl⟩
   ·cases h
  ·cases h
 ·cases h
def compD (g:5e2)(tt:6e7)(tk te:4e7)(k:Nat):List PV->PSt->M Unit
 | [],_=>ret ()
 | x::xs,ρ=>match g x ρ with
  | none=>fun _=>none
  | some ρ1=>bnd (tt ρ1) fun b=>if b then bnd (tk ρ1) fun y=>bnd (te ρ1) fun v=>bnd (putD k y v) fun _=>compD g tt tk te k xs ρ1
   else compD g tt tk te k xs ρ1
def mCompD (it:6e3)(vs:5e9)(fr:12e5)(g:5e2)(tt:6e7)(tk te:4e7):PSt->M SV:=fun ρ=>bnd (it ρ) fun xs C=>match compD g tt tk te C.length xs (stIn' vs fr ρ) (C++[.dtt [] []]) with
 | some (_,C')=>fin C.length C' (.c C.length)
 | none=>none
theorem compD_pure {K:W.Frag}{it:6e3}{vs:5e9}{fr:12e5}{g:5e2}{tt:6e7}{tk te:4e7}{σ:St}{H:Hp}{Q:VK}{ι:4e3}{ρ:PSt}{C C':Cs}{z:SV}(sr:SR K ι H ρ σ C)
  (e:mCompD it vs fr g tt tk te ρ C=some (z,C')) (q:∀v H',Fr ι H H'->CR K ι H' C'->RepS K ι H' z v->Q v H'):tCompD (tMI K it) vs fr (tMG K g) (tMB K tt) (tM K tk) (tM K te) σ H Q:=by
 sleep 10
 refine ⟨ι,ρ,C,xs,C1,sr,e1,fun J H1 f1 c1 it1=>?_⟩
 intro D hD
 cases hc:compD g tt tk te C1.length xs (stIn' vs fr ρ) (C1++[.dtt [] []]) with
 | none=>rw[hc] at e;cases e
 | some r=>
 obtain ⟨u,C9⟩:=r
 rw[hc] at e
 replace e:fin C1.length C9 (.c C1.length)=some (z,C'):=e
 have x0:Ex ι [D] H1 (upd H1 D (.dT [])):=⟨Fr.new hD,fun b hb=>by
  have:b=D:=by simpa using hb
  subst this;exact hD⟩
 have c2:CR K (ι++[D]) (upd H1 D (.dT [])) (C1++[.dtt [] []]):=c1.add hD ⟨[],ZaO,rfl,.nil⟩
 have sr1:=((sr.step f1 c1).block vs fr).ex x0 c2
 have hkD:(ι++[D])[C1.length]? = some D:=by rw[←c1.len];simp
 refine ⟨fun i m σ2 H2=>∃ρ2 C2,m=xs.length - i/\i<=xs.length/\Ex ι [D] H1 H2/\SR K (ι++[D]) H2 ρ2 σ2 C2/\compD g tt tk te C1.length (xs.drop i) ρ2 C2=some (u,C9),⟨xs.length,_,_,rfl,YV _,x0,sr1,hc⟩,?_⟩
 rintro i m σ2 H2 ⟨ρ2,C2,rfl,hi2,x2,sr2,e2⟩
 rcases YC i xs.length with hlt | hge
 ·right
  refine ⟨it1.go [D] H2 C2 x2 sr2.cr i hlt,fun σ' H'=>∃ρ2 C2,Ex ι [D] H1 H'/\SR K (ι++[D]) H' ρ2 σ' C2/\compD g tt tk te C1.length (xs.drop (i + 1)) ρ2 C2=some (u,C9),?_,?_⟩
  ·rintro σ' H' ⟨ρ3,C3,x3,sr3,e3⟩
   exact ⟨xs.length - (i + 1),by lia,ρ3,C3,rfl,hlt,x3,sr3,e3⟩
  ·intro v H3 y
   obtain ⟨sm,qv,hq,rq⟩:=it1.yld [D] H2 C2 x2 sr2.cr i v H3 hlt y
   have hd:xs.drop i=qv::xs.drop (i + 1):=by
    rw[XE hlt]
    rw[Yb hlt] at hq
    rw[YG hq]
   rw[hd] at e2
   unfold compD at e2
   have nx:∀{Ha Hb:Hp},Ex ι [D] H1 Ha->Fr (ι++[D]) Ha Hb->Ex ι [D] H1 Hb:=fun {Ha Hb} x f=>⟨fun b o n e=>f b o (x.out b o n e).1 (x.out b o n e).2,x.2⟩
   have fr3:Fr (ι++[D]) H2 H3:=fun b o _ z=>sm b o z
   have cr3:CR K (ι++[D]) H3 C2:=sr2.cr.same sm
   cases hg1:g qv ρ2 with
   | none=>rw[hg1] at e2;cases e2
   | some ρ3=>
    rw[hg1] at e2
    obtain ⟨b,C3,e3,e4⟩:=Zag e2
    refine ⟨ι++[D],ρ2,C2,qv,ρ3,sr2.step fr3 cr3,rq,hg1,fun σ4 sr4=>⟨ι++[D],ρ3,C2,b,C3,sr4,e3,fun H5 f5 c5=>?_⟩⟩
    have x5:=nx (nx x2 fr3) f5
    have sr5:=sr4.step f5 c5
    cases b with
    | false=>
     rw[if_neg Yv] at e4
     dsimp only
     rw[if_neg Yv]
     exact ⟨ρ3,C3,x5,sr5,e4⟩
    | true=>
     rw[if_pos rfl] at e4
     dsimp only
     rw[if_pos rfl]
     obtain ⟨y1,C4,e5,e6⟩:=Zag e4
     obtain ⟨y2,C5,e7,e8⟩:=Zag e6
     obtain ⟨y3,C6,e9,e10⟩:=Zag e8
     obtain ⟨qs,p,ks,ps,key,rfl,rfl,hcell,hkey,hlen,rfl⟩:=putD_some e9
     refine ⟨ι++[D],ρ3,C3,_,C4,sr5,e5,fun v6 H6 f6 c6 r6=>⟨ι++[D],ρ3,C4,_,C5,sr5.step f6 c6,e7,fun v7 H7 f7 c7 r7=>?_⟩⟩
     obtain ⟨vs',h1,hl,rv⟩:=(show CellOk K (ι++[D]) H7 D (.dtt ks ps) from c7.ok C1.length D _ hkD hcell)
     obtain ⟨bk,rfl,hb⟩:=ZbZ (show Rep K (ι++[D]) H7 (.tup qs) v6 from Rep.mono c6 f7 _ _ r6) hkey
     obtain ⟨z1,z2⟩:=put_zip (k:=key) (v:=v7) hl
     have fr8:Fr (ι++[D]) H7 (upd H7 D (.dT (putK (ks.zip vs') key v7))):=fun b u n e=>by
      rw[Zaw (fun z=>n (by rw[z];exact YK hkD))];exact e
     have c8:CR K (ι++[D]) (upd H7 D (.dT (putK (ks.zip vs') key v7))) (C5.set C1.length (.dtt (putKs ks key) (putVs ks ps key p))):=
      c7.put hkD ⟨putVs ks vs' key v7,by rw[←z1];exact ZaO,z2,Reps.mono c7 fr8 _ _ (reps_put r7 rv)⟩
     exact ⟨_,DPut.t h1 hb (by rw[VN,YS];lia),ρ3,_,nx (nx (nx x5 f6) f7) fr8,((sr5.step f6 c6).step f7 c7).step fr8 c8,e10⟩
 ·left
  have hi3:i=xs.length:=by lia
  subst hi3
  rw[W8] at e2
  cases e2
  refine ⟨it1.stop [D] H2 _ x2 sr2.cr,?_⟩
  obtain ⟨c4,r4⟩:=fin_ok sr2.cr c1.len (show RepS K (ι++[D]) H2 (.c C1.length) (.ref D) from ⟨D,rfl,hkD⟩) e
  exact q _ H2 (f1.trans x2.1) c4 r4
end Pu
namespace Pu
open PySem PySem.Spec L2
open PyProof.Rows hiding St Fr
section
variable {X:Cx}{a b e o:Expr}{es:6e1}{fa fb fo:4e7}{fs:2e8}{pos apos cpos:Pos}
def countH:PV->List PV->Option PV
 | .lst ps,[x]=>if dats ps&&dat x&&decide (deps ps<=50) then some (.int ((ps.countP fun p=>eqD p x:Nat):Int)) else none
 | _,_=>none
def mulLP (x y:PV):Option PV:=match x,y with
 | .lst xs,.int n=>if xs.length<=1000/\0<=n/\n<=1000 then some (.lst (Y9 n.toNat xs).flatten) else none
 | _,_=>none
def rMulL (K:W.Frag):R2:=fun x y H Q=>∃p vs n,x=.ref p/\y=.int n/\SqL K H p vs/\vs.length<=1000/\0<=n/\n<=1000/\∀l,H l=none->Q (.ref l) (upd H l (.lst (Y9 n.toNat vs).flatten))
theorem fold_app {α:Type}:∀(n:Nat) (its:List α) (acc:Array α),List.foldl (fun x1 x2=>x1++x2) acc (Y9 n its.toArray)=acc++(Y9 n its).flatten.toArray
 | 0,its,acc=>by simp
 | n + 1,its,acc=>by
  rw[Wb,List.foldl_cons,fold_app n its,Wb,W0]
  simp
theorem vals_rep {vs:List V}{us:4e9}(h:Vals vs us):∀(n:Nat),Vals (Y9 n vs).flatten (Y9 n us).flatten
 | 0=>.nil
 | n + 1=>by rw[Wb,W0,Wb,W0];exact Vals.append h (vals_rep h n)
theorem reps_rep {K:W.Frag}{ι:4e3}{H:Hp}{ps:List PV}{vs:List V}(h:Reps K ι H ps vs):∀(n:Nat),Reps K ι H (Y9 n ps).flatten (Y9 n vs).flatten
 | 0=>.nil
 | n + 1=>by rw[Wb,W0,Wb,W0];exact h.append (reps_rep h n)
theorem op_mulL:OpR X (WK .Mult) (rMulL X.K):=by
 sleep 4
 obtain ⟨p,vs,n,rfl,rfl,hq,hl,h0,h1,q⟩:=h
 cases rx
 obtain ⟨t,rfl⟩:=(show ∃t,u=.int n t from ry)
 obtain ⟨its,r,pl,hz⟩:=I.list hq
 have hlen:=r.length
 obtain ⟨⟨cls,dd,data,sl⟩,ho,hc,k,hd⟩:=id pl.isList
 simp only at hc hd
 subst hc hd
 have hm:its.length * n.toNat<=1000 * 1000:=Nat.mul_le_mul 1e2 1e2
 refine wpAny_binaryOp_repeat_ref (T:="list") (U:="int") 1e6 ⟨_,ho,rfl⟩ (fun s'=>typeIs_int s' n t) noFill_list_mul F.fills_int_mul F.slot_int_rmul repeat_list F.slot_int_index.lookup
  (call_meets F.slot_int_rmul (typeIs_int s n t) F.entry_int_rmul (F.args_int_rmul_2 _ _) (lm_int_rmul_list_any n t p its.toArray k dd sl)
   ⟨ho,rfl,⟨_,ho,rfl⟩,call_meets F.slot_list_mul ⟨_,ho,rfl⟩ F.entry_list_mul (F.args_list_mul_2 _ _)
    (lm_list_mul_any p its.toArray k dd sl n t (by simp[Builtin.List.listFitsIndex];lia) (by simp only[Yl];lia) (by simp only[Yl,XX,Yu];simp;lia)) ⟨ho,?_⟩⟩)
 have en:(if its.toArray.isEmpty=true then 0 else n.toNat)=n.toNat\/its=[]:=by
  cases its with
  | nil=>exact .inr rfl
  | cons z zs=>exact .inl (if_neg 4e6)
 have ef:List.foldl (fun x1 x2=>x1++x2) #[] (Y9 (if its.toArray.isEmpty=true then 0 else n.toNat) its.toArray)=(Y9 n.toNat its).flatten.toArray:=by
  rcases en with en | rfl
  ·rw[en,fold_app];simp
  ·simp
 rw[ef]
 have hfl:(Y9 n.toNat vs).flatten.length<=sizeLine:=by
  rw[List.length_flatten]
  simp only[List.map_replicate,List.sum_replicate_nat]
  rw[YS]
  have:n.toNat * vs.length<=1000 * 1000:=Nat.mul_le_mul 1e2 hl
  lia
 exact ⟨.ref _,_,I.laid (t':=s.toks) (o:=.lst (Y9 n.toNat vs).flatten) (fun b ob q=>Yc _ q) (Yh _) ⟨hfl,_,0,vals_rep r _,Yp _ rfl⟩,rfl,q _ (I.hok.fresh (Yh _))⟩
theorem mulL_ok:L2ok X.K (rMulL X.K) mulLP:=by
 sleep 8
 unfold mulLP at e
 split at e
 ·split at e
  ·rename_i xs n hc
   cases e
   cases ly
   obtain ⟨a,vs,rfl,h1,rv⟩:=liesL lx
   exact ⟨a,vs,_,rfl,rfl,h1,by rw[←rv.length];exact hc.1,hc.2.1,hc.2.2,fun l hl=>k _ _ (Fr.new hl) (cr.new hl) (Zcw cr hl (reps_rep rv _))⟩
  ·cases e
 ·cases e
end
section
variable {X:Cx}
def rExtS (K:W.Frag):V->List V->Hp->VK->Prop:=fun x vs H Q=>∃l b xs zs,x=.ref l/\vs=[.ref b]/\H l=some (.lst xs)/\SqL K H b zs/\xs.length + zs.length<=Yu/\Q .non (upd H l (.lst (xs++zs)))
theorem extW (l:Addr)(items:Array Value)(n:Nat)(b:Addr)(items2:Array Value)(n2:Nat)(dd:Option Addr)(sl:Array (Option Value))(hc0:¬(!items.isEmpty&&XX (items.size + items2.size))=true)(hc1:items.size<=Yu)(hs2:items.size + items2.size<=Yu + 1):
  Meets (W2.«list.extend» ⟨[.ref l,.ref b],[]⟩) (fun _ R s=>s.heap.get? l=some { cls:=.type "list",dict:=none,data:=.seq items n,slots:=#[] }/\s.heap.get? b=some { cls:=.type "list",dict:=dd,data:=.seq items2 n2,slots:=sl }/\R (.ok (.ret XQ)) { s with heap:=s.heap.update l (XR fun x=>x++items2),toks:=s.toks }):=
 .of_wp fun prog w A R s h=>by
  obtain ⟨hp,g,d,tk,os⟩:=s;obtain ⟨hl,hb,h⟩:=h;have f1:=AutoSeq1.idx_int;have f2:=AutoSeq1.sub_tuple_tuple;have f3:=AutoSeq1.sub_list_list;have f4:=AutoSeq1.sub_tuple_list;have f5:=AutoSeq1.sub_list_tuple
  have hz':(items++items2).size<=Yu + 1:=by rw[Array.size_append];exact hs2
  wp_walk using (UC hl rfl (hz:=hc1) (_hz':=hz')),Vo hl,Vo hb;exact ⟨_,rfl,h⟩
theorem mt_extS:MtM X "list.extend" (rExtS X.K):=by
 intro pins s σ H x vs v us Q I rx rv h
 obtain ⟨l,b,xs,zs,rfl,rfl,hH,hB,hz,q⟩:=h
 cases rx
 obtain ⟨u,rfl,ru⟩:=rv.one
 cases ru
 obtain ⟨z,its,n,r,hl,e⟩:=I.lstM hH
 obtain ⟨its2,r2,pl2,_⟩:=I.list hB
 obtain ⟨⟨cls2,dd2,data2,sl2⟩,ho2,hc2,n2,hd2⟩:=id pl2.isList
 simp only at hc2 hd2
 subst hc2 hd2
 have h2:=r2.length
 have hsz:its.toArray.size + its2.toArray.size<=sizeLine:=by rw[Yl,Yl];lia
 have hlong:¬(!its.toArray.isEmpty&&XX (its.toArray.size + its2.toArray.size))=true:=by
  rw[notLongL hsz,V6]
  exact Yv
 refine call_meets F.slot_list_extend ⟨_,e,rfl⟩ F.entry_list_extend (F.args_list_extend_2 _ _)
  (extW l its.toArray n b its2.toArray n2 dd2 sl2 hlong (by rw[Yl];lia) 1e2) ⟨e,ho2,?_⟩
 refine ⟨.non,_,I.lset (its':=its++its2) hH e 4e6 (r.append r2) ?_,rfl,q⟩
 rw[Xa]
 lia
def extC (x:SV)(ys:List SV):M SV:=fun C=>match x,ys with
 | .c k,[.v (.lst qs)]=>match C[k]? with
  | some (.lst ps)=>if ps.length + qs.length < 100000 then some (.v .non,C.set k (.lst (ps++qs))) else none
  | _=>none
 | _,_=>none
theorem extC_some {x:SV}{ys:List SV}{C C2:Cs}{r:SV}(h:extC x ys C=some (r,C2)):∃k qs ps,x=.c k/\ys=[.v (.lst qs)]/\C[k]? = some 8e5/\ps.length + qs.length < 100000/\r=.v .non/\C2=C.set k (.lst (ps++qs)):=by
 unfold extC at h
 split at h
 ·split at h
  ·split at h
   ·cases h;exact ⟨_,_,_,rfl,rfl,by assumption,by assumption,rfl,rfl⟩
   ·cases h
  ·cases h
 ·cases h
def mExt (fo:4e7)(fs:2e8):PSt->M SV:=fun ρ=>bnd (fo ρ) fun x=>bnd (isLst x) fun _=>bnd (fs ρ) fun ys=>extC x ys
variable {o e:Expr}{es:6e1}{fo:4e7}{fs:2e8}{apos cpos:Pos}
end
end Pu
namespace Pu
open PySem PySem.Spec PySem.W PySem.Calls L2 PySem.SeqAt Se
open PyProof.Rows hiding St Fr
section
variable {prog:YD}{w:World}{A:Around}{E:1e7}{s:Shared}
theorem sorted_at3 {v:Value}{Q:1e7}{OKv:List Value->Prop}{κ:List Value->VF}{o:List Value->Nat->Nat->Bool}
  (hcol:∀(Q':List Value->Shared->Prop),(∀h1 d tk vs,(∀b u,s.heap.get? b=some u->h1.get? b=some u)->s.heap.objs.size<=h1.objs.size->OKv vs->Q' vs { s with heap:=h1,drawn:=d,toks:=tk })->wpAny (model prog w) A.in1 (Uz v) Q' E s) (h64:∀vs,OKv vs->vs.length < 64)
  (hk:∀vs,OKv vs->2<=vs.length->∀h' d tk,7e6->∀Q:VF->Shared->Prop,Q (κ vs) { s with heap:=h',drawn:=d,toks:=tk }->wpAny (model prog w) A.in1.in1 (keyKind' vs.toArray) Q (fun _ _=>False) { s with heap:=h',drawn:=d,toks:=tk })
  (hc:∀vs,OKv vs->2<=vs.length->∀h' d tk,7e6->∀i j (C:9e6),i < vs.length->j < vs.length->C (o vs i j) { s with heap:=h',drawn:=d,toks:=tk }->kas_ask prog w A.in1.in1 (κ vs) vs i j C { s with heap:=h',drawn:=d,toks:=tk })
  (h:∀vs D h' d tk c,OKv vs->s.heap.objs.size<=D->7e6->h'.get? D=some (seqObj "list" (outs2 (o vs) vs).toArray c)->Q (.ref D) { s with heap:=h',drawn:=d,toks:=tk }):
  wpAny 3e2 A (call 18e4 [v]) Q E s:=by
 refine W7 kind_sorted plain_sorted entry_sorted (args_sorted1 _) ?_
 unfold W2.«sorted»
 refine Ya (m:=checkCount "sorted" 1 1 _) (Yd ?_);refine Ya (hcol _ fun h1 d tk vs kp hle ok=>?_)
 have h64:=h64 vs ok
 refine Ya (WB ?_ (by rw[YS];lia))
 have hoL:(h1.push 10e8).get? h1.objs.size=some 10e8:=Yp _ rfl
 have keep:∀b u,s.heap.get? b=some u->(h1.push 10e8).get? b=some u:=fun b u e=>Yc _ (kp b u e)
 have kb:∀h',KeepBut h1.objs.size (h1.push 10e8) h'->∀b u,s.heap.get? b=some u->h'.get? b=some u:=fun h' k b u e=>
  k b u (Yr (Yn (Yz e) hle)) (keep b u e)
 show wpAny _ _ _ _ _ { s with heap:=h1.push (seqObj "list" vs.toArray 0),drawn:=d,toks:=tk }
 refine Ya (Xk (Xc slot_list_sort ⟨_,hoL,rfl⟩ entry_list_sort ?body (args_list_sort _)))
 case body=>
  by_cases h2:vs.length < 2
  ·refine Zdc (s:={ s with heap:=h1.push (seqObj "list" vs.toArray 0),drawn:=d,toks:=tk }) hoL h2 fun h' c k e=>⟨_,rfl,Yd ⟨_,rfl,h vs _ h' d tk c ok hle (kb h' k) ?_⟩⟩
   unfold outs2;rw[if_pos h2];exact e
  ·refine lsort_at (s:={ s with heap:=h1.push (seqObj "list" vs.toArray 0),drawn:=d,toks:=tk }) (κ:=κ vs) (o:=o vs) hoL (by lia) h64 (fun h' k=>hk vs ok (by lia) h' d tk (kb h' k)) (fun h' k=>hc vs ok (by lia) h' d tk (kb h' k)) fun h' c k e=>⟨_,rfl,Yd ⟨_,rfl,h vs _ h' d tk c ok hle (kb h' k) ?_⟩⟩
   unfold outs2;rw[if_neg h2];exact e
end
theorem ZbL {α β:Type}{f:α->β}{l₁ l₂:List β}(h:l₁.Perm l₂):∀xs:List α,l₂=xs.map f->∃ys:List α,ys.Perm xs/\l₁=ys.map f:=by
 induction h with
 | nil=>intro xs e;cases xs with
  | nil=>exact ⟨[],.nil,rfl⟩
  | cons x xs=>simp at e
 | cons x _ ih=>intro xs e;cases xs with
  | nil=>simp at e
  | cons y xs=>
   rw[Yq] at e
   obtain ⟨e1,e2⟩:=Vp e
   subst e1
   obtain ⟨ys,p,rfl⟩:=ih xs e2
   exact ⟨y::ys,p.cons y,rfl⟩
 | swap x y l=>intro xs e;match xs,e with
  | a::b::r,e=>
   simp only[Yq,Wu] at e
   obtain ⟨rfl,rfl,rfl⟩:=e
   exact ⟨b::a::r,.swap a b r,rfl⟩
  | [a],e=>simp at e
  | [],e=>simp at e
 | trans _ _ ih1 ih2=>intro xs e;obtain ⟨ys,p,rfl⟩:=ih2 xs e;obtain ⟨zs,q,e'⟩:=ih1 ys rfl;exact ⟨zs,q.trans p,e'⟩
theorem dats_all:∀(ps:List PV),dats ps=ps.all dat
 | []=>rfl
 | p::ps=>by rw[dats,Vn,dats_all ps]
theorem deps_le {n:Nat}:∀(ps:List PV),deps ps<=n↔∀p∈ps,dep p<=n
 | []=>by simp[deps]
 | p::ps=>by rw[deps,Nat.max_le,deps_le ps];simp
theorem Zbm {α:Type}{f:α->Bool}{l l':List α}(h:l.Perm l'):l.all f=l'.all f:=by
 rw[Vh,YW,YW]
 exact ⟨fun q x hx=>q x (h.mem_iff.mpr hx),fun q x hx=>q x (h.mem_iff.mp hx)⟩
theorem Zdu {ps ps':List PV}(h:ps.Perm ps'):cmpAll ps=cmpAll ps':=by
 unfold cmpAll
 rw[Zbm h]
 congr 1
 funext p
 exact Zbm h
theorem sortable_perm {ps ps':List PV}(h:ps.Perm ps'):sortable ps=sortable ps':=by
 unfold sortable;rw[Zbm h,Zbm h,Zbm h,Zbm h]
theorem kP_pur:∀(k:11e9),purs (k.map kP)=true
 | []=>rfl
 | .inl _::k=>by simp only[Yq,kP,purs,pur,Bool.true_and];exact kP_pur k
 | .inr _::k=>by simp only[Yq,kP,purs,pur,Bool.true_and];exact kP_pur k
theorem ZcI:∀(ks:5e6),purs (ks.map tupK)=true
 | []=>rfl
 | k::ks=>by rw[Yq,purs,ZcI ks];unfold tupK;rw[pur,kP_pur];rfl
theorem sortP_perm {ks ks':5e6}(h:ks'.Perm ks){qs:List PV}(e:sortP (ks.map tupK)=some qs):sortP (ks'.map tupK)=some qs:=by
 have hp:=h.map tupK
 have e1:=ZbP e
 unfold sortP at e ⊢
 split at e
 ·rename_i hh
  simp only[Yt,decide_eq_true_eq] at hh
  obtain ⟨⟨⟨⟨hd,hde⟩,h64⟩,hso⟩,hcm⟩:=hh
  rw[if_pos ?_]
  ·congr 1
   rw[e1]
   exact sortL_eq (by rw[Zdu hp];exact hcm) (ZcI ks') (hp.trans (Zbr hcm (ZcI ks)).symm) (ZbG hcm (ZcI ks))
  ·simp only[Yt,decide_eq_true_eq]
   refine ⟨⟨⟨⟨?_,?_⟩,?_⟩,?_⟩,?_⟩
   ·rw[dats_all] at hd ⊢;rw[Zbm hp];exact hd
   ·rw[deps_le] at hde ⊢;exact fun p hq=>hde p (hp.mem_iff.mp hq)
   ·rw[hp.length_eq];exact h64
   ·rw[sortable_perm hp];exact hso
   ·rw[Zdu hp];exact hcm
 ·cases e
section
variable {X:Cx}
theorem bs_reps {K:W.Frag}{ι:4e3}{H:Hp}:∀{bs:BS},FineB bs H->keysOk (bs.map (·.1))=true->Reps K ι H (bs.map fun p=>tupK p.1) (bs.map fun p=>V.ref p.2)
 | [],_,_=>.nil
 | p::bs,h,hk=>by
  rw[Yq] at hk
  unfold keysOk at hk
  rw[Vn,Yt] at hk
  exact .cons (rep_tupK hk.1 (h p (.head _))) (bs_reps (fun q hq=>h q (.tail _ hq)) hk.2)
theorem bs_vals:∀(bs:BS),Vals (bs.map fun p=>V.ref p.2) (bs.map fun p=>YE p.2)
 | []=>.nil
 | p::bs=>.cons rfl (bs_vals bs)
theorem keysOk_perm {ks ks':5e6}(h:ks'.Perm ks)(e:keysOk ks=true):keysOk ks'=true:=by unfold keysOk at e ⊢;rw[Zbm h];exact e
theorem sorted_set {pins:2e0}{s:Shared}{σ:St}{H:Hp}{D:Addr}{bs:BS}{qs:List PV}{Q:VK}(hcm:11e5)(hu:8e8)(I:2e3)(SU:SetU (mixKind X.prog X.w) s.heap D (ledOf X) bs)(hf:FineB bs H)(hk:keysOk (bs.map (·.1))=true)(hs:sortP (bs.map fun p=>tupK p.1)=some qs)
  (q:∀ws l,(∀ι,Reps X.K ι H qs ws)->H l=none->Q (.ref l) (upd H l (.lst ws))):wpAny 2e7 X.A (call 18e4 [.ref D]) 18e5 X.xe s:=by
 obtain ⟨o,es,ep,t,ho,hex,hd,hL,TT,nd,hpm⟩:=SU
 have ev:(es.toList.map (·.2)).Perm (bs.map fun p=>YE p.2):=by
  have:=hpm.map (·.2)
  rw[Xi] at this
  exact this
 have hs':∀bs':BS,bs'.Perm bs->sortP (bs'.map fun p=>tupK p.1)=some qs:=fun bs' hp=>by
  have e1:∀b:BS,(b.map fun p=>tupK p.1)=(b.map (·.1)).map tupK:=fun b=>by rw[Xi];rfl
  rw[e1] at hs ⊢
  exact sortP_perm (hp.map _) hs
 classical
 let ps:List Value->List PV:=fun vs=>if h:∃bs':BS,bs'.Perm bs/\vs=bs'.map (fun p=>YE p.2) then (Classical.choose h).map fun p=>tupK p.1 else []
 have key:∀vs,(∃bs':BS,bs'.Perm bs/\vs=bs'.map fun p=>YE p.2)->∃bs':BS,bs'.Perm bs/\vs=(bs'.map fun p=>YE p.2)/\ps vs=bs'.map fun p=>tupK p.1:=fun vs h=>by
  refine ⟨Classical.choose h,(Classical.choose_spec h).1,(Classical.choose_spec h).2,?_⟩
  exact dif_pos h
 have all:∀vs,(∃bs':BS,bs'.Perm bs/\vs=bs'.map fun p=>YE p.2)->HReps s.heap (ps vs) vs/\sortable (ps vs)=true/\cmpAll (ps vs)=true/\deps (ps vs)<=40/\(ps vs).length < 64/\(ps vs).length=vs.length/\sortL (ps vs)=qs/\∃ys,Vals ys vs/\∀ι,Reps X.K ι H (ps vs) ys:=fun vs h=>by
  obtain ⟨bs',hp,e,ep⟩:=key vs h
  have h1:=hs' bs' hp
  have h2:=ZbP h1
  unfold sortP at h1
  split at h1
  ·rename_i hh
   simp only[Yt,decide_eq_true_eq] at hh
   obtain ⟨⟨⟨⟨hd,hde⟩,h64⟩,hso⟩,hcm⟩:=hh
   have rs:∀ι,Reps X.K ι H (bs'.map fun p=>tupK p.1) (bs'.map fun p=>V.ref p.2):=fun ι=>bs_reps (fun p hq=>hf p (hp.mem_iff.mp hq)) (keysOk_perm (hp.map _) hk)
   rw[ep,e]
   refine ⟨Reps.heap I _ (rs []) (bs_vals bs') hd,hso,hcm,hde,h64,by simp,h2.symm,_,bs_vals bs',rs⟩
  ·cases h1
 refine sorted_at3 (OKv:=fun vs=>∃bs':BS,bs'.Perm bs/\vs=bs'.map fun p=>YE p.2) (κ:=fun vs=>kindP (ps vs)) (o:=fun vs=>oP (ps vs)) (fun Q' q'=>?_) (fun vs ok=>?_) (fun vs ok h2 h' d tk k Q' q'=>?_) (fun vs ok h2 h' d tk k i j C hi hj hC=>?_) (fun vs D' h' d tk c ok hD k e=>?_)
 ·refine collect_set (I.ok.hd hcm) ⟨o,ho,hex,hd⟩ TT (fun z=>by rw[hL];unfold ledOf;rw[z];rfl) fun h' d tk vs k hle pm=>?_
  obtain ⟨bs',p,e⟩:=ZbL (pm.trans ev) bs rfl
  exact q' h' d tk vs k hle ⟨bs',p,e⟩
 ·obtain ⟨_,_,_,_,h64,hl,_⟩:=all vs ok;lia
 ·obtain ⟨hr,hso,_⟩:=all vs ok
  exact Zdg (s:={ s with heap:=h',drawn:=d,toks:=tk }) (hr.keep k) h2 hso q'
 ·obtain ⟨hr,hso,hcm',hde,_⟩:=all vs ok
  exact ask_of (s:={ s with heap:=h',drawn:=d,toks:=tk }) (hr.keep k) hso hcm' (by rw[YU,YU];lia) hi hj hC
 ·obtain ⟨hr,hso,hcm',hde,h64,hl,hsl,ys,rv,rs⟩:=all vs ok
  rw[Zcc hl] at e
  have I':Inv X pins σ H { s with drawn:=d }:=⟨I.ok,I.os,I.bare,I.base,I.loc,I.cell,I.free,I.freeC,I.pin,I.hok,I.len⟩
  refine ⟨.ref D',_,I'.laid (t':=tk) k hD (show ObjOk X.prog X.w _ h' _ (.lst (sortV (ps vs) ys)) from ⟨?_,sortU (ps vs) vs,c,?_,e⟩),rfl,q _ _ (fun ι=>?_) (I.hok.fresh hD)⟩
  ·unfold sortV
   rw[YA]
   have:(perm (ps vs)).length<=64:=by
    unfold perm
    split
    ·rw[X5];lia
    ·rw[YH,(ZcB (o:=oP (ps vs)) (XC (ps vs).length) (ZbF 1e2)).2.1];lia
   exact YQ this (by rw[YS];decide)
  ·exact ZbO rv fun i hi=>by have:=Zbn i hi;lia
  ·rw[←hsl];exact ZbS (rs ι) fun i hi=>Zbn i hi
end
def compS1 (g:5e2)(tt:6e7)(te:4e7):List PV->PSt->List (List Key)->M (PSt×List (List Key))
 | [],ρ,ks=>ret (ρ,ks)
 | x::xs,ρ,ks=>match g x ρ with
  | none=>fun _=>none
  | some ρ1=>bnd (tt ρ1) fun b=>if b then bnd (te ρ1) fun y=>match y with
    | .v (.tup qs)=>match keysP qs with
     | some k=>if ks.length < 76 then compS1 g tt te xs ρ1 (putKs ks k) else fun _=>none
     | none=>fun _=>none
    | _=>fun _=>none
   else compS1 g tt te xs ρ1 ks
def compS0 (g0:5e2)(it1:6e3)(g1:5e2)(tt:6e7)(te:4e7):List PV->PSt->List (List Key)->M (List (List Key))
 | [],_,ks=>ret ks
 | x::xs,ρ,ks=>match g0 x ρ with
  | none=>fun _=>none
  | some ρ1=>bnd (it1 ρ1) fun ys=>bnd (compS1 g1 tt te ys ρ1 ks) fun r=>compS0 g0 it1 g1 tt te xs r.1 r.2
def mSortSet (it0:6e3)(vs:5e9)(fr:12e5)(g0:5e2)(it1:6e3)(g1:5e2)(tt:6e7)(te:4e7):PSt->M 14e9:=
 fun ρ=>bnd (it0 ρ) fun xs=>bnd (compS0 g0 it1 g1 tt te xs (stIn' vs fr ρ) []) fun ks=>opM fun _=>if keysOk ks then sortP (ks.map tupK) else none
theorem insU_fst (bs:BS)(k:11e9)(a:Addr):(insU bs k a).map (·.1)=putKs (bs.map (·.1)) k:=by
 unfold insU putKs
 by_cases h:k∈bs.map (·.1)
 ·rw[if_pos h,if_pos (Zbp.mpr h)]
 ·rw[if_neg h,if_neg (fun z=>h (Zbp.mp z)),Y4];rfl
theorem fineB_ins {bs:BS}{k:11e9}{a:Addr}{H:Hp}(h:FineB bs H)(e:H a=some (.tup (k.map kV))):FineB (insU bs k a) H:=by
 unfold insU
 split
 ·exact h
 ·intro p hp
  rcases Yw.mp hp with hp | hp
  ·exact h p hp
  ·rw[Yk.mp hp];exact e
theorem Zbx {K:W.Frag}{ι:4e3}{H H':Hp}{C:Cs}{bs:BS}(c:12e3)(f:Fr ι H H')(h:FineB bs H):FineB bs H':=fun p hp=>tpR_mono c f (h p hp)
section
variable {K:W.Frag}{ι:4e3}{g0 g1:5e2}{it0 it1:6e3}{tt:6e7}{te:4e7}
theorem compS1_pure {J:It}{ys:List PV}{H5:Hp}{C4 C5:Cs}{ρ3 ρ5:PSt}{ks5:5e6}{σ4:St}{bs:BS}{N:St->BS->Hp->Prop}(it5:Iter K ι H5 ys J)(sr:SR K ι H5 ρ3 σ4 C4)(hf:FineB bs H5)
  (e:compS1 g1 tt te ys ρ3 (bs.map (·.1)) C4=some ((ρ5,ks5),C5)) (hN:∀σ bs' H',Fr ι H5 H'->SR K ι H' ρ5 σ C5->FineB bs' H'->bs'.map (·.1)=ks5->N σ bs' H'):CompWS1 J (tMG K g1) (tMB K tt) (tM K te) bs σ4 H5 N:=by
 have x0:∀{H2:Hp},Fr ι H5 H2->Ex ι [] H5 H2:=fun f=>Ex.fr f
 have c0:∀{H2:Hp} {C2:Cs},CR K ι H2 C2->CR K (ι++[]) H2 C2:=fun c=>by rw[YJ];exact c
 refine ⟨fun i m σ bs' H2=>∃ρ2 C2,m=ys.length - i/\i<=ys.length/\Fr ι H5 H2/\SR K ι H2 ρ2 σ C2/\FineB bs' H2/\compS1 g1 tt te (ys.drop i) ρ2 (bs'.map (·.1)) C2=some ((ρ5,ks5),C5),⟨ys.length,ρ3,C4,rfl,YV _,.refl,sr,hf,e⟩,?_⟩
 rintro i m σ2 bs2 H2 ⟨ρ2,C2,rfl,hi2,f2,sr2,fb2,e2⟩
 rcases YC i ys.length with hlt | hge
 ·right
  refine ⟨it5.go [] H2 C2 (x0 f2) (c0 sr2.cr) i hlt,fun σ' bs' H'=>∃ρ2 C2,Fr ι H5 H'/\SR K ι H' ρ2 σ' C2/\FineB bs' H'/\compS1 g1 tt te (ys.drop (i + 1)) ρ2 (bs'.map (·.1)) C2=some ((ρ5,ks5),C5),?_,?_⟩
  ·rintro σ' bs' H' ⟨ρ3,C3,f3,sr3,fb3,e3⟩
   exact ⟨ys.length - (i + 1),by lia,ρ3,C3,rfl,hlt,f3,sr3,fb3,e3⟩
  ·intro v H3 y
   obtain ⟨sm,qv,hq,rq⟩:=it5.yld [] H2 C2 (x0 f2) (c0 sr2.cr) i v H3 hlt y
   rw[YJ] at rq
   have hd:ys.drop i=qv::ys.drop (i + 1):=by
    rw[XE hlt]
    rw[Yb hlt] at hq
    rw[YG hq]
   rw[hd] at e2
   unfold compS1 at e2
   cases hg1:g1 qv ρ2 with
   | none=>rw[hg1] at e2;cases e2
   | some ρ3=>
    rw[hg1] at e2
    obtain ⟨b,C3,e3,e4⟩:=Zag e2
    have fr3:Fr ι H2 H3:=fun b o _ z=>sm b o z
    have cr3:CR K ι H3 C2:=sr2.cr.same sm
    refine ⟨ι,ρ2,C2,qv,ρ3,sr2.step fr3 cr3,rq,hg1,fun σ4 sr4=>⟨ι,ρ3,C2,b,C3,sr4,e3,fun H5 f5 c5=>?_⟩⟩
    have f15:=f2.trans (fr3.trans f5)
    have fb5:FineB bs2 H5:=Zbx cr3 f5 (Zbx sr2.cr fr3 fb2)
    cases b with
    | true=>
     rw[if_pos rfl] at e4
     dsimp only
     rw[if_pos rfl]
     obtain ⟨y1,C6,e6,e7⟩:=Zag e4
     refine ⟨ι,ρ3,C3,y1,C6,sr4.step f5 c5,e6,fun v7 H7 f7 c7 r7=>?_⟩
     cases y1 with
     | c k=>cases e7
     | v p7=>
      cases p7 with
      | tup qs=>
       cases hk:keysP qs with
       | none=>simp only[hk] at e7;cases e7
       | some k=>
        simp only[hk] at e7
        by_cases hlen:(bs2.map (·.1)).length < 76
        ·rw[if_pos hlen] at e7
         obtain ⟨a,rfl,ha⟩:=ZbZ (show Rep K ι H7 (.tup qs) v7 from r7) hk
         have fb7:=Zbx c5 f7 fb5
         refine ⟨k,a,rfl,ha,fb7,by rw[YA] at hlen;lia,ρ3,C6,f15.trans f7,(sr4.step f5 c5).step f7 c7,fineB_ins fb7 ha,?_⟩
         rw[insU_fst];exact e7
        ·rw[if_neg hlen] at e7;cases e7
      | _=>cases e7
    | false=>
     rw[if_neg Yv] at e4
     dsimp only
     rw[if_neg Yv]
     exact ⟨ρ3,C3,f15,sr4.step f5 c5,fb5,e4⟩
 ·left
  have hi3:i=ys.length:=by lia
  subst hi3
  rw[W8] at e2
  unfold compS1 at e2
  have e2':some ((ρ2,bs2.map (·.1)),C2)=some ((ρ5,ks5),C5):=e2
  simp only[Option.some.injEq,Prod.mk.injEq] at e2'
  obtain ⟨⟨rfl,hk⟩,rfl⟩:=e2'
  exact ⟨it5.stop [] H2 _ (x0 f2) (c0 sr2.cr),hN σ2 bs2 H2 f2 sr2 fb2 hk⟩
end
end Pu
namespace Pu
open PySem PySem.Spec PySem.W PySem.Calls L2
open PyProof.Rows hiding St Fr
def mFnN (F:List SV->M SV)(f:6e3)(gs:2e8):PSt->M SV:=fun ρ=>bnd (f ρ) fun ps C=>match bnd (gs ρ) (fun xs=>F (.c C.length::xs)) (C++[.lst ps]) with
 | some (r,C')=>fin C.length C' r
 | none=>none
section
variable {X:Cx}{e:Expr}{es:6e1}{p pos:Pos}{x:Str}
theorem em_callN {k:Nat}{f:Addr}{fd:X2}{ps:5e9}{F:List SV->M SV}{f0:6e3}{gs:2e8}(G:FnOk X.prog X.w X.K X.mg X.base CX0 k f fd ps (liftSp X.K F))(hr:Room k X.A)(hg:Gl X x)(hm:X.mg x=some (.ref f))(hk:VX X.K (.ref f)=true)(hb:Binds X.K fd ps [])
  (h0:FM X e f0) (ha:AM X es gs) (hdb:5e5:=by decide) (he:1e8:=by rfl) (hpl:3e1:=by rfl):
  EM X 7e0 (mFnN F f0 gs):=PE.imp (pe_call G hr hg hm hk hb .nil pass0 (pa_cons h0 ha he) hdb he hpl) fun σ H Q h=>by
 obtain ⟨ι,ρ,C,z,C',sr,e,q⟩:=h
 obtain ⟨ps,C1,e1,e⟩:=Zag e
 refine ⟨ι,ρ,C,ps,C1,sr,e1,fun a vs H1 f1 c1 ha0 rs=>?_⟩
 cases hb:bnd (gs ρ) (fun xs=>F (.c C1.length::xs)) (C1++[.lst ps]) with
 | none=>rw[hb] at e;cases e
 | some r=>
  obtain ⟨r,C9⟩:=r
  rw[hb] at e
  replace e:fin C1.length C9 r=some (z,C'):=e
  obtain ⟨xs,C2,e2,e3⟩:=Zag hb
  have c2:CR X.K (ι++[a]) (upd H1 a (.lst vs)) (C1++[.lst ps]):=c1.add ha0 ⟨vs,ZaO,RepsNew c1 ha0 ps vs rs⟩
  have x0:Ex ι [a] H1 (upd H1 a (.lst vs)):=⟨Fr.new ha0,fun b hb=>by
   have:b=a:=by simpa using hb
   subst this;exact ha0⟩
  refine ⟨ι++[a],ρ,C1++[.lst ps],xs,C2,(sr.step f1 c1).ex x0 c2,e2,fun ws H2 f2 c3 r2=>?_⟩
  show liftSp X.K F ((V.ref a::ws)++[]) H2 Q E0
  rw[YJ]
  have hk:(ι++[a])[C1.length]? = some a:=by rw[←c1.len];simp
  refine ⟨ι++[a],.c C1.length::xs,C2,r,C9,c3,⟨_,_,rfl,⟨a,rfl,hk⟩,r2⟩,e3,fun v H3 f3 c4 r4=>?_⟩
  obtain ⟨c5,r5⟩:=fin_ok c4 c1.len r4 e
  refine q v H3 (fun b o n e=>?_) c5 r5
  obtain ⟨n1,e'⟩:=x0.out b o n (f1 b o n e)
  exact f3 b o n1 (f2 b o n1 e')
end
end Pu
namespace Hd
open PySem PySem.W PySem.Spec PySem.Calls L2 Pu
open PyProof.Rows hiding St Fr
def kf (h:Heap)(as:4e3):Frag:=as.filterMap fun a=>(h.get? a).map fun o=>(a,o)
theorem kf_get {h:Heap}:∀{as:4e3} {a:Addr} {o:Obj},(kf h as).lookup a=some o->h.get? a=some o
 | [],_,_,e=>by cases e
 | b::as,a,o,e=>by
  unfold kf at e
  rw[Wx] at e
  cases g:h.get? b with
  | none=>rw[g] at e;exact kf_get e
  | some p=>
   rw[g] at e
   simp only[Uv,Y7] at e
   by_cases q:a=b
   ·subst q;rw[beq_self_eq_true] at e;cases e;exact g
   ·rw[beq_eq_false_iff_ne.mpr q] at e;exact kf_get e
theorem kf_in (h:Heap)(as:4e3):(kf h as).In h:=fun _ _ e=>kf_get e
theorem kf_at {h:Heap}{a:Addr}{o:Obj}(g:h.get? a=some o):∀{as:4e3},a∈as->(kf h as).lookup a=some o
 | [],m=>by cases m
 | b::as,m=>by
  unfold kf
  rw[Wx]
  by_cases q:a=b
  ·subst q;rw[g];simp
  ·have m':a∈as:=(Ym.mp m).resolve_left q
   cases g':h.get? b with
   | none=>exact kf_at g m'
   | some p=>
    simp only[Uv,Y7]
    rw[beq_eq_false_iff_ne.mpr q]
    exact kf_at g m'
def At (mg:3e3)(h:Heap)(as:4e3)(d:DefRec):Prop:=∃(a c:Addr) (o:Obj) (pm doc:Value),mg d.name=some (.ref a)/\h.get? a=some o/\o.data=.func (docDef d.name d.params d.body d.scope pm (.ref c) doc)/\h.CodeRec (.ref c) d.name/\a∈as/\c∈as
theorem at_all {mg:3e3}{h:Heap}(as0:4e3):∀ds:List DefRec,(∀d∈ds,∃a o pm code doc,mg d.name=some (.ref a)/\h.get? a=some o/\o.data=.func (docDef d.name d.params d.body d.scope pm code doc)/\h.CodeRec code d.name)->
  ∃as:List Addr,(∀a∈as0,a∈as)/\∀d∈ds,At mg h as d
 | [],_=>⟨as0,fun _ m=>m,fun _ m=>nomatch m⟩
 | d::ds,T=>by
  obtain ⟨as,h0,ih⟩:=at_all as0 ds fun e m=>T e (.tail _ m)
  obtain ⟨a,o,pm,cd,doc,h1,h2,h3,h4⟩:=T d (.head _)
  obtain ⟨c,oc,vs,t,rfl,r⟩:=h4
  refine ⟨a::c::as,fun b m=>.tail _ (.tail _ (h0 b m)),fun e m=>?_⟩
  rcases Ym.mp m with rfl | m
  ·exact ⟨a,c,o,pm,doc,h1,h2,h3,⟨c,oc,vs,t,rfl,r⟩,.head _,.tail _ (.head _)⟩
  ·obtain ⟨a',c',o',pm',doc',q1,q2,q3,q4,q5,q6⟩:=ih e m
   exact ⟨a',c',o',pm',doc',q1,q2,q3,q4,.tail _ (.tail _ q5),.tail _ (.tail _ q6)⟩
def FnAt (K:Frag)(mg:3e3)(x:Str)(st:Stmt):Prop:=∃f fd,mg x=some (.ref f)/\Fun K x x st f fd
def four (d:DefRec):Str×Arguments×List Stmt×Scope:=(d.name,d.params,d.body,d.scope)
def fourS (p:Str×Stmt):Str×Arguments×List Stmt×Scope:=(p.1,defArgs p.2,defBody p.2,defScope p.2)
theorem fn_at {mg:3e3}{h:Heap}{as:4e3}{ds:List DefRec}{sts:List (Str×Stmt)}(A:∀d∈ds,At mg h as d)(es:ds.map four=sts.map fourS)(i:Nat){x:Str}{st:Stmt}(e:sts[i]? = some (x,st)):FnAt (kf h as) mg x st:=by
 have q:(ds.map four)[i]? = some (fourS (x,st)):=by rw[es,YL,e];rfl
 obtain ⟨d,e',q⟩:=XV.mp ((YL ..).symm.trans q)
 obtain ⟨n,ps,b,sc,p⟩:=d
 obtain ⟨rfl,q⟩:=Prod.mk.inj q
 obtain ⟨q1,q⟩:=Prod.mk.inj q
 obtain ⟨q2,q3⟩:=Prod.mk.inj q
 dsimp only at q1 q2 q3
 subst q1 q2 q3
 obtain ⟨a,c,o,pm,doc,h1,h2,h3,h4,h5,h6⟩:=A _ (YK e')
 obtain ⟨c',oc,vs,t,e1,g,hd,hv⟩:=h4
 cases e1
 obtain ⟨cl,dd,dt,sl⟩:=o
 cases (show dt=_ from h3)
 have k1:=kf_at h2 h5
 have k2:=kf_at g h6
 refine ⟨a,_,h1,fun_mk (oc:=cl) (od:=dd) (osl:=sl) (kV:=.none) (doc:=doc) (pm:=pm) (an:=none) (ct:=.none) (cdv:=.ref c) k1 ?_ ?_⟩
 ·obtain ⟨ocl,odd,odt,osl⟩:=oc
  cases (show odt=_ from hd)
  unfold codeIn
  dsimp only
  rw[k2]
  obtain ⟨l⟩:=vs
  match l,hv with
  | _::v::r,hv=>
   cases (show v=_ by simpa using hv)
   simp
 ·unfold keepIn
  dsimp only
  rw[k1]
def defPos (s:Stmt):Pos:=match s with
 | .FunctionDef _ _ _ _ _ _ _ _ _ p=>p
 | _=>⟨0,0,0,0⟩
def isHere (p:YD)(loose:5e9)(x:Str):Bool:=startupNames.contains x||loose.contains x||((recsOf p).map (·.name)).contains x||((litsOf p).map (·.1)).contains x||((clssOf p loose).map (·.name)).contains x
theorem nones {p:YD}{loose:5e9}{mean:ExcName->Option Value}{mg mb:3e3}{h:Heap}(T:Top p loose mean mg mb h){xs:5e9}(e:xs.all (fun x=>!isHere p loose x)=true)(i:Nat){x:Str}(hx:xs[i]? = some x):mg x=none:=by
 have q:=YW.mp e x (YK hx)
 unfold isHere at q
 simp only[Bool.not_or,Yt,Bool.not_eq_true',List.contains_eq_mem,decide_eq_false_iff_not] at q
 exact T.free x q.1.1.1.1 q.1.1.1.2 q.1.1.2 q.1.2 q.2
def spLaw (K:Frag):Sp:=fun vs H Q _=>∃(a:Addr) (ns:List Int),vs=[.ref a]/\SqL K H a (ns.map V.int)/\ns.length<=63/\∀H',Q 14e8 H'
theorem reps_ints {K:Frag}{ι:4e3}{H:Hp}:∀ns:List Int,Reps K ι H (ns.map PV.int) (ns.map V.int)
 | []=>by unfold Reps;rfl
 | n::ns=>by
  rw[Yq,Yq];unfold Reps
  exact ⟨_,_,rfl,by unfold Rep;rfl,reps_ints ns⟩
theorem spLaw_lift {K:Frag}{F:List SV->M SV}(hF:∀ns:List Int,ns.length<=63->F [.v 15e6] []=some (.v 14e8,[]))(vs:List V)(H:Hp)(Q:VK)(E:XK)(h:spLaw K vs H Q E):liftSp K F vs H Q E:=by
 obtain ⟨a,ns,rfl,hS,hl,hQ⟩:=h
 refine ⟨[],[.v 15e6],[],.v 14e8,[],⟨rfl,W5,fun k a c e=>by cases e⟩,?_,hF ns hl,fun v H' _ _ r=>?_⟩
 ·unfold RepSs
  refine ⟨_,_,rfl,?_,by unfold RepSs;rfl⟩
  unfold RepS Rep
  refine ⟨a,_,rfl,?_,reps_ints ns⟩
  rcases hS with h | h
  ·exact .inl ⟨Xd,h⟩
  ·exact .inr h
 ·have e:v=.bl true:=by unfold RepS Rep at r;exact r
  subst e;exact hQ H'
theorem walk {l:OpenLaw}{k:Nat}{q:YD}{loose:5e9}{XP:(Str->Option Value)->Heap->Prop}{YP:World->Heap->Prop}{d:DefRec}(hn:l.most=some 63)(hdf:d.params.defaults=[])(hr:Room k UU)(as0:4e3)
  (F:∀(w:World) (s₀:Shared) (mg mb:3e3) (h:Heap) (as:4e3),Ground q loose [] XP w s₀ mg mb h->YP w h->(∀a∈as0,a∈as)->(∀d∈recsOf q,At mg h as d)->∀fa:Addr,mg d.name=some (.ref fa)->
   ∃fd:X2,(∀(s:Shared) (u:Value),BindsTo s fd ⟨[u],[]⟩ [("_law_script",u)])/\∀base:Heap,FnOk l.prog w (kf h as) mg base CX0 k fa fd ["_law_script"] (spLaw (kf h as))):
  WalkO q loose XP YP l.row.toRowW d [] (fun f vs=>PySem.call f vs):=by
 refine Att.attach_call hn hdf fun w s₀ s₁ mg mb fa o pm cd doc a vs ns G Y ho hd hcd hmg hobj hints hlen hg=>?_
 obtain ⟨as,h0,A⟩:=at_all as0 (recsOf q) G.T.fn
 obtain ⟨fd,hb,hF⟩:=F w s₀ mg mb _ as G Y h0 A fa hmg
 exact law_call (kf_in s₁.heap as) G.T.g G.T.b G.T.builtins G.T.nolimit hg hobj hints (YQ hlen 1e6) hr (fun base _ _=>hF base) hb (fun H hO hS=>⟨a,ns,rfl,hS,hlen,fun _=>rfl⟩) fun H e s' z=>z
end Hd
namespace L2
open PySem PySem.Spec PyProof.Rows
abbrev GT:=TI×TG×TT
end L2
namespace Pu
open PySem PySem.Spec PySem.W PySem.Calls L2
open PyProof.Rows hiding St Fr
def Cal (P:YD)(w:World)(K:W.Frag)(mg:3e3)(base:Heap)(k:Nat)(x:Str)(ps:5e9)(S:Sp):Prop:=∃(f:Addr) (fd:X2),FnOk P w K mg base CX0 k f fd ps S/\mg x=some (.ref f)/\VX K (.ref f)=true/\Binds K fd ps []
end Pu
namespace Pu
open PySem PySem.Spec PySem.W PySem.Calls L2
open PyProof.Rows hiding St Fr
abbrev MG:=(PSt->M 14e9)×(PV->PSt->Option PSt)×(PSt->M Bool)
end Pu
namespace Pu
open PySem PySem.Spec L2
open PyProof.Rows hiding St Fr
@[irreducible] def QEM (X:Cx) (e:Expr) (f:4e7):Prop:=EM X e f
theorem QEM_eq:@QEM=@EM:=by unfold QEM;rfl
@[irreducible] def QAM (X:Cx) (es:6e1) (f:2e8):Prop:=AM X es f
theorem QAM_eq:@QAM=@AM:=by unfold QAM;rfl
@[irreducible] def QTMt (X:Cx) (e:Expr) (f:6e7):Prop:=TMt X e f
theorem QTMt_eq:@QTMt=@TMt:=by unfold QTMt;rfl
@[irreducible] def QWM (X:Cx) (e:Expr) (f:6e7):Prop:=WM X e f
theorem QWM_eq:@QWM=@WM:=by unfold QWM;rfl
@[irreducible] def QFM (X:Cx) (e:Expr) (f:6e3):Prop:=FM X e f
theorem QFM_eq:@QFM=@FM:=by unfold QFM;rfl
@[irreducible] def QSM (X:Cx) (st:Stmt) (f:13e8):Prop:=SM X st f
theorem QSM_eq:@QSM=@SM:=by unfold QSM;rfl
@[irreducible] def QBM (X:Cx) (sts:List Stmt) (f:13e8):Prop:=BM X sts f
theorem QBM_eq:@QBM=@BM:=by unfold QBM;rfl
@[irreducible] def QGM (X:Cx) (tg:Expr) (g:5e2):Prop:=GM X tg g
theorem QGM_eq:@QGM=@GM:=by unfold QGM;rfl
@[irreducible] def QGMs (X:Cx) (ts:6e1) (g:List PV->PSt->Option PSt):Prop:=GMs X ts g
theorem QGMs_eq:@QGMs=@GMs:=by unfold QGMs;rfl
@[irreducible] def QIM (X:Cx) (tg iter:Expr) (f:6e3):Prop:=IM X tg iter f
theorem QIM_eq:@QIM=@IM:=by unfold QIM;rfl
@[irreducible] def QTsM (X:Cx) (ifs:6e1) (t:6e7):Prop:=TsM X ifs t
theorem QTsM_eq:@QTsM=@TsM:=by unfold QTsM;rfl
@[irreducible] def QOM (X:Cx) (e:Option Expr) (f:PSt->M (Option Int)):Prop:=OM X e f
theorem QOM_eq:@QOM=@OM:=by unfold QOM;rfl
@[irreducible] def QDM (X:Cx) (ks:List (Option Expr)) (es:6e1) (keys:5e9) (f:2e8):Prop:=DM X ks es keys f
theorem QDM_eq:@QDM=@DM:=by unfold QDM;rfl
end Pu
local macro_rules
 | `(tactic| subst_eqs)=>`(tactic| simp only[Pu.QEM_eq,Pu.QAM_eq,Pu.QTMt_eq,Pu.QWM_eq,Pu.QFM_eq,Pu.QSM_eq,Pu.QBM_eq,Pu.QGM_eq,Pu.QGMs_eq,Pu.QIM_eq,Pu.QTsM_eq,Pu.QOM_eq,Pu.QDM_eq] at *)
namespace Pu
open PySem PySem.Spec L2
open PyProof.Rows hiding St
theorem ZcE {X:Cx}{e:Expr}{f:6e7}(h:QWM X e f):QTMt X e f:=by
 subst_eqs
 exact h _
section
variable {X:Cx}{a b e c:Expr}{es:6e1}{fa fb fc:4e7}{pos p:Pos}{x:Str}
theorem Zab (i:Nat){x:Str}{pos:Pos}(hN:X.N[i]? = some x:=by rfl)(hv:Vis X.env.scope x:=by first | exact Or.inl rfl | exact Or.inr 2e5 | exact Or.inr 15e2)(hd:5e5:=by decide)
  (hcd:(x==("__classdict__":Str))=false:=by decide):QEM X (.Name x pos) (mVar i):=by
 subst_eqs
 refine PE.imp (pe_var hN hv hd hcd) fun σ H Q h_=>?_
 obtain ⟨ι,ρ,C,r,C',sr,e,q⟩:=h_
 unfold mVar at e
 cases e1:ρ[i]? with
 | none=>rw[e1] at e;cases e
 | some o=>
  cases o with
  | none=>rw[e1] at e;cases e
  | some s=>
   rw[e1] at e;cases e
   obtain ⟨v,h1,h2⟩:=sr.loc i _ e1
   exact ⟨v,h1,q v H .refl sr.cr h2⟩
theorem Zac {i j pos}:QEM X (.Constant (.int i) j pos) (mC (.int i)):=by
 subst_eqs
 exact ZcQ pe_int fun ι H=>by unfold Rep;rfl
theorem ZbK {i j pos}:QEM X (.Constant (.bool i) j pos) (mC (.bl i)):=by
 subst_eqs
 exact ZcQ pe_bl fun ι H=>by unfold Rep;rfl
theorem Zav {i j pos}(h:i.length<=sizeLine:=by decide +kernel):QEM X (.Constant (.str i) j pos) (mC (.str i)):=by
 subst_eqs
 exact ZcQ pe_str fun ι H=>by unfold Rep;exact ⟨rfl,h⟩
theorem q_em_ty {n:String}(hg:Gl X x)(hm:X.mg x=none)(hv:Xo x=some (.type n))(hn:x≠"__name__":=by decide)(hd:5e5:=by decide):QEM X (.Name x pos) (mC (.ty n)):=by
 subst_eqs
 exact ZcQ (pe_bltn (v:=.ty n) hg hm hv rfl hn hd) fun ι H=>by unfold Rep;rfl
theorem Zcb {op:CmpOp}{r:R2}{g:18e9}(ho:OpR X (XU op) r)(hg:R2ok X.K r g)(ha:QEM X a fa)(hb:QEM X b fb)(hm:Vi op b=false):QEM X (.Compare a [op] [b] pos) (mOp g fa fb):=by
 subst_eqs
 exact PE.imp (pe_cmpR ho ha hb hm) fun _ _ _ h=>tM_op hg h
theorem Zao {op:CmpOp}{r:R2}{g:18e9}(ho:OpR X (XU op) r)(hg:R2ok X.K r g)(ha:QEM X a fa)(hb:QEM X b fb)(hm:Vi op b=false):QTMt X (.Compare a [op] [b] pos) (mTest (mOp g fa fb)):=by
 subst_eqs
 exact PT.imp (pt_cmpR ho ha hb hm) fun σ H Q h=>by
    obtain ⟨ι,ρ,C,x,C',sr,e,q⟩:=tM_test h
    exact tM_op hg ⟨ι,ρ,C,x,C',sr,e,q⟩
theorem q_tm_tru (ha:QEM X a fa)(he:∀whole,isTrue a X.env whole=(do let v ←whole;UT a.pos;Up [v] (truthy v)):=by intro _;rfl):QTMt X a (mTru fa):=by
 subst_eqs
 exact PT.imp (pt_truth ha he) fun σ H Q h=>by
    sleep 6
    obtain ⟨e2,rfl⟩:=ZaQ e
    refine ⟨ι,ρ,C,x,C',sr,e1,fun v H1 f1 c1 r1=>⟨z,?_,q H1 f1 c1⟩⟩
    cases hd:deref C' x with
    | none=>rw[hd] at e2;cases e2
    | some p=>rw[hd] at e2;exact (r1.lies c1 hd).tru e2
theorem q_tm_not {f:6e7}(h:QTMt X a f):QTMt X (.UnaryOp .Not a pos) (mNotT f):=by
 subst_eqs
 exact PT.imp (pt_not h) fun σ H Q h=>by
   sleep 6
   cases e
   exact ⟨ι,ρ,C,x,_,sr,e1,fun H1 f1 c1=>q H1 f1 c1⟩
theorem Zb8 {f:6e7}(h:QTMt X a f):QWM X (.BoolOp .And [a] pos) f:=by
 subst_eqs
 exact pw_and1 h
theorem ZcK {f:6e7}(h:QTMt X a f):QWM X (.BoolOp .Or [a] pos) f:=by
 subst_eqs
 exact pw_or1 h
theorem ZcL {rest:6e1}{f g:6e7}(h:QTMt X a f)(k:QWM X (.BoolOp .And (b::rest) pos) g):QWM X (.BoolOp .And (a::b::rest) pos) (mAndT f g):=by
 subst_eqs
 exact PW.imp (pw_and h k) fun σ H Q h=>by
   sleep 6
   refine ⟨ι,ρ,C,x,C1,sr,e1,fun H1 f1 c1=>?_⟩
   cases x with
   | true=>rw[if_pos rfl] at e ⊢;exact ⟨ι,ρ,C1,z,C',sr.step f1 c1,e,fun H2 f2 c2=>q H2 (f1.trans f2) c2⟩
   | false=>rw[if_neg Yv] at e ⊢;cases e;exact q H1 f1 c1
theorem Zc5 {rest:6e1}{f g:6e7}(h:QTMt X a f)(k:QWM X (.BoolOp .Or (b::rest) pos) g):QWM X (.BoolOp .Or (a::b::rest) pos) (mOrT f g):=by
 subst_eqs
 exact PW.imp (pw_or h k) fun σ H Q h=>by
   sleep 6
   refine ⟨ι,ρ,C,x,C1,sr,e1,fun H1 f1 c1=>?_⟩
   cases x with
   | true=>rw[if_pos rfl] at e ⊢;cases e;exact q H1 f1 c1
   | false=>rw[if_neg Yv] at e ⊢;exact ⟨ι,ρ,C1,z,C',sr.step f1 c1,e,fun H2 f2 c2=>q H2 (f1.trans f2) c2⟩
theorem q_em_if {t:6e7}{f g:4e7}(hc:QTMt X c t)(h:QEM X a f)(k:QEM X b g):QEM X (.IfExp c a b pos) (mIf t f g):=by
 subst_eqs
 exact PE.imp (pe_ifExp hc h k) fun σ H Q h=>by
   sleep 6
   refine ⟨ι,ρ,C,x,C1,sr,e1,fun H1 f1 c1=>?_⟩
   cases x with
   | true=>rw[if_pos rfl] at e ⊢;exact ⟨ι,ρ,C1,z,C',sr.step f1 c1,e,fun v H2 f2 c2 r2=>q v H2 (f1.trans f2) c2 r2⟩
   | false=>rw[if_neg Yv] at e ⊢;exact ⟨ι,ρ,C1,z,C',sr.step f1 c1,e,fun v H2 f2 c2 r2=>q v H2 (f1.trans f2) c2 r2⟩
theorem Zad:QAM X [] aNil:=by
 subst_eqs
 exact PA.imp pa_nil fun σ H Q h_=>by obtain ⟨ι,ρ,C,z,C',sr,e,q⟩:=h_;cases e;exact q [] H .refl sr.cr rfl
theorem Zaa {f:4e7}{g:2e8}(h:QEM X e f)(k:QAM X es g)(hs:1e8:=by rfl):QAM X 9e1 (aCons f g):=by
 subst_eqs
 exact PA.imp (pa_cons h k hs) fun σ H Q h=>by
   sleep 6
   obtain ⟨xs,C2,e2,e⟩:=Zag e
   cases e
   exact ⟨ι,ρ,C,x,C1,sr,e1,fun v H1 f1 c1 r1=>⟨ι,ρ,C1,xs,C',sr.step f1 c1,e2,fun vs H2 f2 c2 r2=>q (v::vs) H2 (f1.trans f2) c2 ⟨v,vs,rfl,r1.mono c1 f2,r2⟩⟩⟩
end
section
variable {X:Cx}{a b e c tg:Expr}{es:6e1}{st:Stmt}{rest sts sts':List Stmt}{f g:13e8}{pos p pos':Pos}{x:Str}
theorem Zax:QBM X [] mSkip:=by
 subst_eqs
 exact PSs.imp pss_nil fun D σ H h_=>by obtain ⟨ι,ρ,C,fl,C',sr,e,d⟩:=h_;cases e;exact d.nx0 sr
theorem Zai (h:QSM X st f):QBM X [st] f:=by
 subst_eqs
 exact pss_one h
theorem Zae (h:QSM X st f)(k:QBM X rest g):QBM X (st::rest) (mSeq f g):=by
 subst_eqs
 exact PSs.imp (pss_cons h k) fun D σ H h_=>by
   sleep 2
   obtain ⟨fl1,C1,e1,e⟩:=Zag e
   refine ⟨ι,ρ,C,fl1,C1,sr,e1,?_⟩
   cases fl1 with
   | nx ρ1=>exact fun ι2 σ' H' x sr'=>⟨ι++ι2,ρ1,C1,fl,C',sr',e,d.tr sr'.cr x⟩
   | rt r=>cases e;exact d
   | bk ρ1=>cases e;exact d
   | ct ρ1=>cases e;exact d
   | rf ps=>cases e;exact d
   | rq ps=>cases e;exact d
theorem ZaD {t:6e7}(hc:QTMt X c t)(h:QBM X sts f)(k:QBM X sts' g):QSM X (.If c sts sts' pos) (mIfS t f g):=by
 subst_eqs
 exact PS.imp (ps_if hc h k) fun D σ H h_=>by
   sleep 2
   obtain ⟨z,C1,e1,e⟩:=Zag e
   refine ⟨ι,ρ,C,z,C1,sr,e1,fun H1 f1 c1=>?_⟩
   cases z with
   | true=>rw[if_pos rfl] at e ⊢;exact ⟨ι,ρ,C1,fl,C',sr.step f1 c1,e,d.fr c1 f1⟩
   | false=>rw[if_neg Yv] at e ⊢;exact ⟨ι,ρ,C1,fl,C',sr.step f1 c1,e,d.fr c1 f1⟩
theorem Zau {f:4e7}(h:QEM X e f):QSM X (.Return (some e) pos) (mRet f):=by
 subst_eqs
 exact PS.imp (ps_ret h) fun D σ H h_=>by
   sleep 2
   obtain ⟨z,C1,e1,e⟩:=Zag e
   cases e
   exact ⟨ι,ρ,C,z,_,sr,e1,fun v H1 f1 c1 r1=>d [] v H1 (Ex.fr f1) (by rw[YJ];exact c1) (by rw[YJ];exact r1)⟩
theorem Zbu {f:6e3}(h:QFM X e f):QSM X (.Return (some e) pos) (mRetF f):=by
 subst_eqs
 exact PS.imp (ps_ret h) fun D σ H h_=>by
   sleep 2
   obtain ⟨ps,C1,e1,g1⟩:=Zag e
   cases g1
   exact ⟨ι,ρ,C,ps,_,sr,e1,fun q vs H1 f1 c1 hq rs=>d [] q vs H1 (Ex.fr f1) (by rw[YJ];exact c1) hq (by rw[YJ];exact rs)⟩
theorem q_sm_retQ {x1}{pt:Pos}{fs:2e8}(h:QAM X es fs):QSM X (.Return (some (.Tuple es x1 pt)) pos) (mRetQ fs):=by
 subst_eqs
 exact PS.imp (ps_ret (pe_tup h)) fun D σ H h_=>by
   sleep 2
   obtain ⟨xs,C1,e1,g1⟩:=Zag e
   by_cases hl:xs.length<=1000
   case neg=>rw[if_neg hl] at g1;cases g1
   rw[if_pos hl] at g1
   cases g1
   exact ⟨ι,ρ,C,xs,_,sr,e1,fun vs H1 f1 c1 r1=>⟨by rw[←RepSs.length r1];exact YQ hl (by rw[YS];decide),fun q hq=>d [] q vs H1 (Ex.fr f1) (by rw[YJ];exact c1) hq (by rw[YJ];exact r1)⟩⟩
theorem Zbg {f:4e7}(h:QEM X e f)(hs:WP e none pos.line X.env=pure false:=by rfl):QSM X (.Expr e pos) (mDrop f):=by
 subst_eqs
 exact PS.imp (ps_expr h hs) fun D σ H h_=>by
   sleep 2
   obtain ⟨z,C1,e1,e⟩:=Zag e
   cases e
   exact ⟨ι,ρ,C,z,_,sr,e1,fun v H1 f1 c1 r1=>Done.nx0 (sr.step f1 c1) (d.fr c1 f1)⟩
theorem Zaj {i:Nat}{f:4e7}(hN:X.N.Nodup)(hi:X.N[i]? = some x)(hx:Loc X.env.scope x)(h:QEM X e f)(hs:WP e (some (.Name x pos')) pos.line X.env=pure false:=by rfl)
  (hf:7e1:=by first | exact .inl rfl | exact .inr rfl | assumption):QSM X (.Assign [.Name x pos'] e pos) (mSet i f):=by
 subst_eqs
 exact PS.imp (ps_set hN hi hx h hs hf) fun D σ H h_=>by
   sleep 2
   obtain ⟨z,C1,e1,e⟩:=Zag e
   cases e
   exact ⟨ι,ρ,C,z,_,sr,e1,fun v H1 f1 c1 r1=>Done.nx0 ((sr.step f1 c1).set i r1) (d.fr c1 f1)⟩
theorem Za3 {i:Nat}{f:6e3}(hN:X.N.Nodup)(hi:X.N[i]? = some x)(hx:Loc X.env.scope x)(h:QFM X e f)(hs:WP e (some (.Name x pos')) pos.line X.env=pure false:=by rfl)
  (hf:7e1:=by first | exact .inl rfl | exact .inr rfl | assumption):QSM X (.Assign [.Name x pos'] e pos) (mNew i f):=by
 subst_eqs
 exact PS.imp (ps_set hN hi hx h hs hf) fun D σ H h_=>by
   sleep 2
   obtain ⟨ps,C1,e1,e⟩:=Zag e
   cases e
   exact ⟨ι,ρ,C,ps,C1,sr,e1,fun q vs H' f1 c1 hq rs=>new_cell sr d f1 c1 hq rs⟩
theorem Zaq {x1}{fs:2e8}(h:QAM X es fs):QEM X (.Tuple es x1 pos) (mTup fs):=by
 subst_eqs
 exact PE.imp (pe_tup h) fun σ H Q h_=>by
   sleep 9
   sleep 10
   obtain ⟨e2,rfl⟩:=ZaQ e
   refine ⟨ι,ρ,C,xs,_,sr,e1,fun vs H1 f1 c1 r1=>?_⟩
   by_cases hl:xs.length<=1000
   ·rw[if_pos hl] at e2
    cases hp:plain xs with
    | none=>rw[hp] at e2;cases e2
    | some ps=>
     rw[hp] at e2;cases e2
     obtain ⟨rs,hv⟩:=ZbT hp r1
     refine ⟨by rw[hv];exact k1000 hl,fun q' hq=>q _ _ (f1.trans (Fr.new hq)) (c1.new hq) ?_⟩
     show Rep _ _ _ 9e4 _
     unfold Rep
     exact ⟨q',vs,rfl,ZaO,Reps.stay (fun b o e=>by rw[Zaw (Zar e hq)];exact e) ps vs rs⟩
   ·rw[if_neg hl] at e2;cases e2
theorem Zas {fs:2e8}(h:QAM X es fs):QFM X (.List es pos) (mLst fs):=by
 subst_eqs
 exact PE.imp (pe_lst h) fun σ H Q h_=>by
   sleep 9
   sleep 10
   obtain ⟨e2,rfl⟩:=ZaQ e
   refine ⟨ι,ρ,C,xs,_,sr,e1,fun vs H1 f1 c1 r1=>?_⟩
   by_cases hl:xs.length<=1000
   ·rw[if_pos hl] at e2
    obtain ⟨rs,hv⟩:=ZbT e2 r1
    exact ⟨by rw[hv];exact k1000 hl,fun q' hq=>q q' vs H1 f1 c1 hq rs⟩
   ·rw[if_neg hl] at e2;cases e2
theorem Zat {f:6e3}(h:QFM X e f):QEM X e (mVal f):=by
 subst_eqs
 exact PE.imp h fun σ H Q h_=>by
   sleep 9
   obtain ⟨ps,C1,e1,e⟩:=Zag e
   cases e
   exact ⟨ι,ρ,C,ps,_,sr,e1,fun q' vs H1 f1 c1 hq rs=>q _ _ (f1.trans (Fr.new hq)) (c1.new hq) (Zcw c1 hq rs)⟩
theorem Zak {i:Nat}(hN:X.N.Nodup)(hi:X.N[i]? = some x)(hx:Loc X.env.scope x)(hf:7e1:=by first | exact .inl rfl | exact .inr rfl | assumption):QGM X (.Name x pos) (hName i):=by
 subst_eqs
 exact PG.imp (pg_name hN hi hx hf) fun v σ H Q h_=>by obtain ⟨ι,ρ,C,p,ρ',sr,r,e,q⟩:=h_;cases e;exact q _ (sr.set i r)
theorem ZbJ:QGMs X [] hNil:=by
 subst_eqs
 exact PGs.imp pgs_nil fun v σ H Q h_=>by
   obtain ⟨ι,ρ,C,p,ρ',sr,r,e,q⟩:=h_
   cases p with
   | nil=>cases e;exact ⟨r.inv0,q σ sr⟩
   | cons _ _=>cases e
theorem ZaA {g:5e2}{gs:List PV->PSt->Option PSt}(h:QGM X e g)(k:QGMs X es gs)(hs:(Wp 9e1 X.env).map (·.2)=assign e X.env::(Wp es X.env).map (·.2):=by rfl):QGMs X 9e1 (hCons g gs):=by
 subst_eqs
 exact PGs.imp (pgs_cons h k hs) fun v σ H Q h_=>by
    obtain ⟨ι,ρ,C,p,ρ',sr,r,e,q⟩:=h_
    cases p with
    | nil=>cases e
    | cons p ps=>
     obtain ⟨w,ws,rfl,r1,r2⟩:=r.inv
     replace e:(g p ρ).bind (fun ρ'=>gs ps ρ')=some ρ':=e
     cases h1:g p ρ with
     | none=>rw[h1] at e;cases e
     | some ρ1=>
      rw[h1] at e
      exact ⟨w,ws,rfl,ι,ρ,C,p,ρ1,sr,r1,h1,fun σ1 sr1=>⟨ι,ρ1,C,ps,ρ',sr1,r2,e,q⟩⟩
theorem Zb9 {gs:List PV->PSt->Option PSt}{k n:Nat}(hc:11e5)(h:QGMs X es gs)(hn:(Wp es X.env).length=n:=by rfl)(hst:(Wp es X.env).findIdx? (·.1)=none:=by rfl):QGM X (.Tuple es k pos) (hTup gs n):=by
 subst_eqs
 exact PG.imp (pg_tup hc h hn hst) fun v σ H Q h_=>by
    obtain ⟨ι,ρ,C,p,ρ',sr,r,e,q⟩:=h_
    cases p with
    | tup ps=>
     unfold Rep at r
     obtain ⟨a,vs,rfl,sq,rs⟩:=r
     replace e:(if ps.length=n then gs ps ρ else none)=some ρ':=e
     by_cases hl:ps.length=n
     ·rw[if_pos hl] at e
      exact ⟨a,vs,rfl,sq.sq,by rw[←rs.length];exact hl,ι,ρ,C,ps,ρ',sr,rs,e,q⟩
     ·rw[if_neg hl] at e;cases e
    | _=>cases e
theorem q_sm_asg {f:4e7}{g:5e2}(h:QEM X e f)(k:QGM X tg g)(hs:swapsWithSole [tg] e pos.line X.env=pure false:=by rfl)(hw:swappedStores [tg] e X.env=pure none:=by rfl)
  (h1:(Wp [tg] X.env).map (·.2)=[assign tg X.env]:=by rfl):QSM X (.Assign [tg] e pos) (mAsg f g):=by
 subst_eqs
 exact PS.imp (ps_asg h k hs hw h1) fun D σ H h_=>by
   sleep 2
   obtain ⟨z,C1,e1,e⟩:=Zag e
   refine ⟨ι,ρ,C,z,C1,sr,e1,fun v H1 f1 c1 r1=>?_⟩
   cases z with
   | c k=>cases e
   | v p=>
    have e:(g p ρ).map (fun ρ'=>(PF.nx ρ',C1))=some (fl,C'):=e
    cases hg:g p ρ with
    | none=>rw[hg] at e;cases e
    | some ρ1=>
     rw[hg] at e
     cases e
     exact ⟨ι,ρ,_,p,ρ1,sr.step f1 c1,r1,hg,fun σ' sr'=>Done.nx0 sr' (d.fr c1 f1)⟩
end
section
variable {X:Cx}{e tg iter elt:Expr}{es:6e1}{body:List Stmt}{f:13e8}{pos p:Pos}{x:Str}
theorem Zbf {it:6e3}{g:5e2}(hp:PassesOwn 2e7 X.A X.env X.xe)(hc:11e5)(hi:QIM X tg iter it)(hg:QGM X tg g)(hb:QBM X body f)
  (hs:16e6:=by intro _;rfl):QSM X (.For tg iter body [] pos) (mFor it g f):=by
 subst_eqs
 exact PS.imp (ps_for hp hc hi hg hb hs) fun D σ H h_=>by
   sleep 2
   sleep 10
   refine ⟨ι,ρ,C,xs,C1,sr,e1,fun J H1 f1 c1 it1=>?_⟩
   have d1:=d.fr c1 f1
   have sr1:=sr.step f1 c1
   refine ⟨fun i m σ2 H2=>∃ι2 ρ2 C2,m=xs.length - i/\i<=xs.length/\Ex ι ι2 H1 H2/\SR X.K 11e1 H2 ρ2 σ2 C2/\loop g f (xs.drop i) ρ2 C2=some (fl,C'),⟨xs.length,[],ρ,C1,rfl,YV _,Ex.fr .refl,by rw[YJ];exact sr1,e⟩,?_⟩
   rintro i m σ2 H2 ⟨ι2,ρ2,C2,rfl,hi2,x2,sr2,e2⟩
   rcases YC i xs.length with hlt | hge
   ·right
    refine ⟨it1.go ι2 H2 C2 x2 sr2.cr i hlt,fun σ' H'=>∃ι2 ρ2 C2,Ex ι ι2 H1 H'/\SR X.K 11e1 H' ρ2 σ' C2/\loop g f (xs.drop (i + 1)) ρ2 C2=some (fl,C'),?_,?_⟩
    ·rintro σ' H' ⟨ι3,ρ3,C3,x3,sr3,e3⟩
     exact ⟨xs.length - (i + 1),by lia,ι3,ρ3,C3,rfl,hlt,x3,sr3,e3⟩
    ·intro v H3 y
     obtain ⟨sm,q,hq,rq⟩:=it1.yld ι2 H2 C2 x2 sr2.cr i v H3 hlt y
     have hd:xs.drop i=q::xs.drop (i + 1):=by
      rw[XE hlt]
      rw[Yb hlt] at hq
      rw[YG hq]
     rw[hd] at e2
     unfold loop at e2
     cases hg1:g q ρ2 with
     | none=>rw[hg1] at e2;cases e2
     | some ρ3=>
      rw[hg1] at e2
      obtain ⟨fl1,C3,e3,e4⟩:=Zag e2
      have fr3:Fr 11e1 H2 H3:=fun b o _ z=>sm b o z
      have cr3:CR X.K 11e1 H3 C2:=sr2.cr.same sm
      have x3:Ex ι ι2 H1 H3:=⟨fun b o n z=>sm b o (x2.1 b o n z),x2.2⟩
      refine ⟨ι++ι2,ρ2,C2,q,ρ3,sr2.step fr3 cr3,rq,hg1,fun σ4 sr4=>⟨ι++ι2,ρ3,C2,fl1,C3,sr4,e3,?_⟩⟩
      cases fl1 with
      | nx ρ5=>exact fun ι5 σ5 H5 x5 sr5=>⟨ι2++ι5,ρ5,C3,x3.trans cr3 x5,by rw[←Yx];exact sr5,e4⟩
      | ct ρ5=>exact fun ι5 σ5 H5 x5 sr5=>⟨ι2++ι5,ρ5,C3,x3.trans cr3 x5,by rw[←Yx];exact sr5,e4⟩
      | bk ρ5=>cases e4;exact fun ι5 σ5 H5 x5 sr5=>d1 (ι2++ι5) σ5 H5 (x3.trans cr3 x5) (by rw[←Yx];exact sr5)
      | rf ps=>cases e4;exact fun ι5 q5 vs5 H5 x5 c5 h5 r5=>d1 (ι2++ι5) q5 vs5 H5 (x3.trans cr3 x5) (by rw[←Yx];exact c5) h5 (by rw[←Yx];exact r5)
      | rq ps=>cases e4;exact fun ι5 q5 vs5 H5 x5 c5 h5 r5=>d1 (ι2++ι5) q5 vs5 H5 (x3.trans cr3 x5) (by rw[←Yx];exact c5) h5 (by rw[←Yx];exact r5)
      | rt r=>cases e4;exact fun ι5 v5 H5 x5 c5 r5=>d1 (ι2++ι5) v5 H5 (x3.trans cr3 x5) (by rw[←Yx];exact c5) (by rw[←Yx];exact r5)
   ·left
    have hi3:i=xs.length:=by lia
    subst hi3
    rw[W8] at e2
    cases e2
    exact ⟨it1.stop ι2 H2 _ x2 sr2.cr,d1 ι2 σ2 H2 x2 sr2⟩
section
variable {ifs:6e1}{scope:Scope}{vs fs:5e9}{fr:12e5}{it:6e3}{g:5e2}{tt:6e7}{te:4e7}
theorem Za2:QTsM X [] tOk:=by
 subst_eqs
 exact fun pins s σ H Q I h_=>by
   obtain ⟨ι,ρ,C,b,C',sr,e,q⟩:=h_
   cases e
   exact pts_nil pins s σ H Q I (q H .refl sr.cr)
theorem Zbe {c:Expr}{t:6e7}(h:QTMt X c t):QTsM X [c] t:=by
 subst_eqs
 exact pts_one h
theorem Za0 (S:10e4)(hc:11e5)(hi:QIM X tg iter it)
  (bG:∀C s₀ H₀ ex pn,QGM 1e4 tg g) (bT:∀C s₀ H₀ ex pn,QTsM 1e4 ifs tt) (bE:∀C s₀ H₀ ex pn,QEM 1e4 elt te)
  (hs:16e6:=by intro _;rfl):QFM X 9e9 (mComp it vs fr g tt te):=by
 subst_eqs
 exact PE.imp (pe_comp (g:=tMG X.K g) (tt:=tMB X.K tt) (te:=tM X.K te) S hc hi bG bT bE hs) fun σ H Q ⟨ι,ρ,C,res,C',sr,e,q⟩=>comp_pure sr e q
theorem Zbh {i:Nat}{px spos:Pos}(hN:X.N.Nodup)(hx:X.N[i]? = some x)(hl:X.env.scope.names.lookup x=some .local)(S:10e4)(hc:11e5)(hi:QIM X tg iter it)
  (bG:∀C s₀ H₀ ex pn,QGM 1e4 tg g) (bT:∀C s₀ H₀ ex pn,QTsM 1e4 ifs tt) (bE:∀C s₀ H₀ ex pn,QEM 1e4 elt te)
  (hsw:WP 9e9 (some (.Name x px)) spos.line X.env=pure true:=by rfl) (hs:16e6:=by intro _;rfl):
  QSM X (.Assign [.Name x px] 9e9 spos) (mSet i (mVal (mComp it vs fr g tt te))):=by
 subst_eqs
 exact PS.imp (ps_comp (g:=tMG X.K g) (tt:=tMB X.K tt) (te:=tM X.K te) hN hx hl S hc hi bG bT bE hsw hs) fun D σ H h_=>by
   sleep 2
   obtain ⟨z,C1,e1,e⟩:=Zag e
   cases e
   obtain ⟨res,C2,e2,e3⟩:=Zag e1
   cases e3
   exact comp_pure sr e2 fun q vs H' f1 c1 hq rs=>Done.nx0 (((sr.step f1 c1).step (Fr.new hq) (c1.new hq)).set i (s:=.v (.lst _)) (Zcw c1 hq rs)) (d.fr (c1.new hq) (f1.trans (Fr.new hq)))
end
end
section
variable {P:YD}{w:World}{K:W.Frag}{mg:3e3}{base:Heap}
theorem q_fn_mk {x qual:Str}{st:Stmt}{f:Addr}{fd:X2}{N ps:5e9}{k:Nat}{body:13e8}(F:Fun K x qual st f fd)(S:FnScope N ps 17e0)
  (hbody:∀(cdv:Value) (A:Around) (outer:List Env) (s:Shared) (H:Hp) (E:XK),Room k (A.deeper (envOfC qual 17e0 s.heap.objs.size f cdv))->
   QBM (cxOf CX0 P w K mg base N qual (defScope st) f cdv A outer s H E).nox (defBody st) body):FnOk P w K mg base CX0 (k + 1) f fd ps (liftSp K (mDef ps.length (N.length - ps.length) body)):=by
 subst_eqs;apply @fn_mk<;>assumption
end
end Pu
namespace Pu
open PySem PySem.Spec L2
open PyProof.Rows hiding St Fr
section
variable {X:Cx}
variable {a b e c:Expr}{es:6e1}{fa fb fc:4e7}{pos p:Pos}{x:Str}
theorem Zan (ha:QEM X a fa)(hb:QEM X b fb):QEM X (.BinOp a .Add b pos) (mOp 4e8 fa fb):=by
 subst_eqs
 exact em_op op_addAll add_ok.r ha hb
theorem Zca (ha:QEM X a fa)(hb:QEM X b fb):QEM X (.BinOp a .Sub b pos) (mOp (g2 subP) fa fb):=by
 subst_eqs
 exact em_op op_sub (int_ok0 fun _ _ _ _=>repI).r ha hb
theorem ZaU (ha:QEM X a fa)(hb:QEM X b fb):QEM X (.BinOp a .Mult b pos) (mOp (g2 mulP) fa fb):=by
 subst_eqs
 exact em_op op_mul (int_ok fun i j h=>by
   rw[UA] at h
   rcases h with h | h
   ·exact .inl (of_decide_eq_true h)
   ·exact .inr (of_decide_eq_true h)).r ha hb
theorem ZaM (ha:QEM X a fa)(hb:QEM X b fb):QEM X (.BinOp a .Mod b pos) (mOp (g2 modP) fa fb):=by
 subst_eqs
 exact em_op op_mod (int_ok fun i j h=>of_decide_eq_true h).r ha hb
theorem q_em_fdiv (ha:QEM X a fa)(hb:QEM X b fb):QEM X (.BinOp a .FloorDiv b pos) (mOp (g2 fdivP) fa fb):=by
 subst_eqs
 exact em_op op_fdiv (int_ok fun i j h=>(of_decide_eq_true h:0 < j/\j < 1073741824)).r ha hb
theorem q_em_pow (ha:QEM X a fa)(hb:QEM X b fb):QEM X (.BinOp a .Pow b pos) (mOp (g2 powP) fa fb):=by
 subst_eqs
 exact em_op op_pow (int_ok fun i j h=>by
   have h:=of_decide_eq_true h
   exact ⟨h.1,Int.le_trans h.2.1 (by decide),h.2.2⟩).r ha hb
theorem q_em_neg (ha:QEM X a fa):QEM X (.UnaryOp .USub a pos) (mNeg fa):=by
 subst_eqs
 refine PE.imp (pe_un un_neg ha) fun σ H Q h_=>?_
 obtain ⟨ι,ρ,C,z,C',sr,e,k⟩:=h_
 obtain ⟨x,C1,e1,e⟩:=Zag e
 obtain ⟨e2,rfl⟩:=ZaQ e
 refine ⟨ι,ρ,C,x,_,sr,e1,fun v H1 f1 c1 r1=>?_⟩
 unfold negP at e2
 split at e2
 ·rename_i i hd
  cases e2
  have l:=r1.lies c1 hd
  cases l
  exact ⟨i,rfl,k _ H1 f1 c1 (show Rep _ _ _ _ _ from repI)⟩
 ·cases e2
end
section
variable {X:Cx}{a b e c o:Expr}{es:6e1}{fa fb fc fo:4e7}{fs:2e8}{pos p apos cpos:Pos}{x:Str}
theorem q_em_isi (hgl:Gl X "isinstance")(hm:X.mg "isinstance"=none)(hv:Xo "isinstance"=some (.builtin "isinstance"))(ha:QAM X 9e1 fs)
  (he:1e8:=by rfl) (hpl:3e1:=by rfl):QEM X (.Call (.Name "isinstance" p) 9e1 [] pos) (mCB (g1 isiH) fs):=by
 subst_eqs
 exact ZcR call_isi isi_ok.c hgl hm hv ha 1e6 1e6 he hpl
theorem ZaE (hgl:Gl X "len")(hm:X.mg "len"=none)(ha:QAM X 9e1 fs)
  (he:1e8:=by rfl) (hpl:3e1:=by rfl):QEM X (.Call (.Name "len" p) 9e1 [] pos) (mCB 9e5 fs):=by
 subst_eqs
 exact ZcR call_len len_ok.c hgl hm PySem.boot_len ha 1e6 1e6 he hpl
theorem q_em_max (hc:11e5)(hgl:Gl X "max")(hm:X.mg "max"=none)(hv:Xo "max"=some (.builtin "max"))(ha:QAM X 9e1 fs)
  (he:1e8:=by rfl) (hpl:3e1:=by rfl):QEM X (.Call (.Name "max" p) 9e1 [] pos) (mCB (g1 maxH) fs):=by
 subst_eqs
 exact ZcR (call_max2 hc) max_ok.c hgl hm hv ha 1e6 1e6 he hpl
theorem q_em_min (hc:11e5)(hgl:Gl X "min")(hm:X.mg "min"=none)(hv:Xo "min"=some (.builtin "min"))(ha:QAM X 9e1 fs)
  (he:1e8:=by rfl) (hpl:3e1:=by rfl):QEM X (.Call (.Name "min" p) 9e1 [] pos) (mCB (g1 minH) fs):=by
 subst_eqs
 exact ZcR (call_min2 hc) min_ok.c hgl hm hv ha 1e6 1e6 he hpl
theorem Zc6 (hgl:Gl X "int")(hm:X.mg "int"=none)(hv:Xo "int"=some (.type "int"))(ha:QAM X 9e1 fs)
  (he:1e8:=by rfl) (hpl:3e1:=by rfl):QEM X (.Call (.Name "int" p) 9e1 [] pos) (mCB (g1 intH) fs):=by
 subst_eqs
 exact em_callTy call_int1 intc_ok.c hgl hm hv ha 1e6 1e6 he hpl
theorem Zbv (hgl:Gl X "tuple")(hm:X.mg "tuple"=none)(hv:Xo "tuple"=some (.type "tuple"))(ha:QAM X 9e1 fs)
  (he:1e8:=by rfl) (hpl:3e1:=by rfl):QEM X (.Call (.Name "tuple" p) 9e1 [] pos) (mCB (g1 tupH) fs):=by
 subst_eqs
 exact em_callTy call_tuple_of tup_ok.c hgl hm hv ha 1e6 1e6 he hpl
theorem Zcu (hgl:Gl X "list")(hm:X.mg "list"=none)(hv:Xo "list"=some (.type "list"))(ha:QAM X 9e1 fs)
  (he:1e8:=by rfl) (hpl:3e1:=by rfl):QFM X (.Call (.Name "list" p) 9e1 [] pos) (mList fs):=by
 subst_eqs
 exact PE.imp (pe_callTy call_list_of hgl hm hv ha 1e6 1e6 he hpl) fun σ H Q h_=>by
    sleep 9
    sleep 10
    obtain ⟨e2,rfl⟩:=ZaQ e
    refine ⟨ι,ρ,C,xs,_,sr,e1,fun vs H1 f1 c1 r1=>?_⟩
    unfold listH at e2
    split at e2
    ·rename_i x
     obtain ⟨v,w,rfl,r1,hw⟩:=r1
     cases (show w=[] from hw)
     split at e2
     ·rename_i hd
      cases e2
      obtain ⟨a,ws,rfl,h1,r2⟩:=liesL (r1.lies c1 hd)
      exact ⟨a,ws,rfl,.inl h1,fun l hl=>q l ws H1 f1 c1 hl r2⟩
     ·rename_i hd
      cases e2
      obtain ⟨a,ws,rfl,h1,r2⟩:=liesT (r1.lies c1 hd)
      exact ⟨a,ws,rfl,.inr h1.sq,fun l hl=>q l ws H1 f1 c1 hl r2⟩
     ·cases e2
    ·cases e2
end
section
variable {X:Cx}{a b e c o i:Expr}{es:6e1}{fa fb fc fo fi fv:4e7}{fs:2e8}{pos p apos cpos:Pos}{x:Str}
theorem Za6 (ho:QEM X o fo)(ha:QAM X 9e1 fs)(hbase:Ud o "append" X.env (eval o X.env)=eval o X.env:=by rfl)
  (hfew:((backTo cpos (Yo 9e1 X.env)).all (fun x=>!x.1)&&(backToKw cpos (UJ [] X.env)).all (fun x=>x.1.isSome)
   &&decide ((e::es).length + ([]:List UK).length + (if ([]:List UK).isEmpty then 0 else 1) < 30))=true:=by rfl)
  (hline:(apos.endLine==cpos.line)=true:=by rfl) (hs:1e8:=by rfl) (hplain:(backTo cpos (Yo es X.env)).any (·.1)=false:=by rfl):
  QEM X (.Call (.Attribute o "append" apos) 9e1 [] cpos) (mApp fo fs):=by
 subst_eqs
 exact PE.imp (pe_bm PySem.F.plainAttrs_list PySem.F.slot_list_append PySem.F.type_list_append mt_append ho ha hbase hfew hline hs hplain) fun σ H Q h_=>by
    sleep 9
    obtain ⟨x,C1,e1,g1⟩:=Zag e
    obtain ⟨u,C2,e2,g2⟩:=Zag g1
    obtain ⟨ys,C3,e3,g3⟩:=Zag g2
    obtain ⟨hC,k,ps0,hx,hc0⟩:=ZdK e2
    obtain ⟨k',p',ps,hx',hy,hc,hl,hr,hC'⟩:=appC_some g3
    clear e g1 g2 g3 e2
    subst hC hx hr hC' hy
    cases hx'
    refine ⟨ι,ρ,C,_,_,sr,e1,fun v H1 f1 c1 r1=>?_⟩
    obtain ⟨a,rfl,hk⟩:=r1
    obtain ⟨vs0,h0,_⟩:=Zcn c1 hk hc0
    refine ⟨.inl ⟨rfl,_,.of h0⟩,ι,ρ,_,_,C3,sr.step f1 c1,e3,fun ws H2 f2 c2 r2=>?_⟩
    obtain ⟨w,wr,rfl,rw1,hw⟩:=r2
    cases (show wr=[] from hw)
    obtain ⟨vs,h1,rv⟩:=Zcn c2 hk hc
    obtain ⟨c4,f4⟩:=cr_set c2 hk (rv.append (.cons rw1 .nil))
    exact ⟨a,vs,w,rfl,rfl,h1,by rw[←rv.length];exact Yn hl (k100000 (Yh _)),q _ _ (f1.trans (f2.trans f4)) c4 (show Rep _ _ _ _ _ from repN)⟩
theorem ZdG {spos:Pos}(hv:QEM X e fv)(ho:QEM X o fo)(hi:QEM X i fi)
  (ha:∀v,assign (.Subscript o i spos) X.env v=(do
   let ov ←Up [v] (eval o X.env)
   let iv ←Up [v,ov] (eval i X.env)
   UT spos
   Up [v,ov,iv] (setItem ov iv v)
   release [v,ov,iv] []):=by intro _;rfl)
  (hs:swapsWithSole [.Subscript o i spos] e pos.line X.env=pure false:=by rfl) (hw:swappedStores [.Subscript o i spos] e X.env=pure none:=by rfl)
  (h1:(Wp [.Subscript o i spos] X.env).map (·.2)=[assign (.Subscript o i spos) X.env]:=by rfl):QSM X (.Assign [.Subscript o i spos] e pos) (mSetIx fv fo fi):=by
 subst_eqs
 exact PS.imp (ps_asg hv (pg_sub ho hi set_list ha) hs hw h1) fun D σ H h_=>by
    sleep 2
    obtain ⟨v,C1,e1,g1⟩:=Zag e
    obtain ⟨o,C2,e2,g2⟩:=Zag g1
    obtain ⟨i,C3,e3,g3⟩:=Zag g2
    obtain ⟨k,n,p',ps,j,ho,hi,hv,hc,hj,hf,hC⟩:=setC_some g3
    clear e g1 g2 g3
    subst ho hi hv hf hC
    refine ⟨ι,ρ,C,_,C1,sr,e1,fun x H1 f1 c1 r1=>⟨ι,ρ,C1,_,C2,sr.step f1 c1,e2,fun y H2 f2 c2 r2=>⟨ι,ρ,C2,_,C3,(sr.step f1 c1).step f2 c2,e3,fun w H3 f3 c3 r3=>?_⟩⟩⟩
    obtain ⟨a,rfl,hk⟩:=r2
    have r3:w=.int n:=by unfold RepS Rep at r3;exact r3
    obtain ⟨vs,h1,rv⟩:=Zcn c3 hk hc
    have r1':Rep X.K ι H3 p' x:=Rep.mono c2 f3 _ _ (Rep.mono c1 f2 _ _ r1)
    obtain ⟨c4,f4⟩:=cr_set c3 hk (rv.set j r1')
    refine ⟨a,vs,n,j,rfl,r3,h1,by rw[←rv.length];exact hj,?_⟩
    exact Done.nx0 ((((sr.step f1 c1).step f2 c2).step f3 c3).step f4 c4) (d.fr c4 (f1.trans (f2.trans (f3.trans f4))))
variable {tg l:Expr}
theorem ZaI (hl:QEM X l fa):QIM X tg l (mItems fa):=by
 subst_eqs
 intro pins s σ H R I h
 obtain ⟨ι,ρ,C,xs,C',sr,e,q⟩:=h
 obtain ⟨x,C1,e1,e⟩:=Zag e
 obtain ⟨e2,rfl⟩:=ZaQ e
 refine thn (hl pins s σ H (fun v H1=>Fr ι H H1/\CR X.K ι H1 C'/\RepS X.K ι H1 x v) I ⟨ι,ρ,C,x,C',sr,e1,fun v H1 f1 c1 r1=>⟨f1,c1,r1⟩⟩) fun v s1 h_=>?_
 obtain ⟨y,H1,I1,r1,f1,c1,rx⟩:=h_
 have fp:∀b∈[s1.heap.objs.size],FpOk X pins H1 b:=fun b hb=>by
  have e:b=s1.heap.objs.size:=by simpa using hb
  subst e
  exact I1.fpOk (Yh _) (I1.hok.fresh (Yh _))
 unfold itemsP at e2
 split at e2
 ·cases e2
  have rx:Rep X.K ι H1 (.lst _) y:=rx
  unfold Rep at rx
  obtain ⟨a,vs,rfl,hq,rv⟩:=rx
  cases r1
  obtain ⟨its,_,p,hz⟩:=I1.list hq.sq
  refine wpAny_pyIter_list p.isList ?_
  exact ⟨s1.heap.objs.size,[s1.heap.objs.size],_,_,H1,rfl,I1.kept (t':=s1.toks) fun b o e=>Yc _ e,turn_list a _,⟨_,Yp _ rfl,rfl,rfl⟩,fp,q _ H1 f1 c1 (iter_list c1 hq rv)⟩
 ·cases e2
  have rx:Rep X.K ι H1 (.tup _) y:=rx
  unfold Rep at rx
  obtain ⟨a,vs,rfl,hq,rv⟩:=rx
  cases r1
  obtain ⟨its,_,p,hz⟩:=I1.tuple hq.sq
  refine wpAny_pyIter_tuple (show s1.heap.IsTuple a its.toArray from p) ?_
  exact ⟨s1.heap.objs.size,[s1.heap.objs.size],_,_,H1,rfl,I1.kept (t':=s1.toks) fun b o e=>Yc _ e,turn_tuple a _,⟨_,Yp _ rfl,rfl,rfl⟩,fp,q _ H1 f1 c1 (iter_tup c1 hq.sq rv)⟩
 ·cases e2
  have rx:Rep X.K ι H1 (.str _) y:=rx
  rename Str=>z
  unfold Rep at rx
  obtain ⟨rfl,hz⟩:=rx
  obtain ⟨t,rfl⟩:=r1
  cases ha:z.cps.all (· < 128)
  ·exact wpAny_pyIter_wide ha ⟨s1.heap.objs.size,[s1.heap.objs.size],_,_,H1,rfl,I1.kept (t':=s1.toks) fun b o e=>Yc _ e,turn_str (t:=t) (.inr rfl),⟨_,Yp _ rfl,rfl,rfl⟩,fp,q _ H1 f1 c1 iter_str⟩
  ·exact wpAny_pyIter_ascii ha ⟨s1.heap.objs.size,[s1.heap.objs.size],_,_,H1,rfl,I1.kept (t':=s1.toks) fun b o e=>Yc _ e,turn_str (t:=t) 17e4,⟨_,Yp _ rfl,rfl,rfl⟩,fp,q _ H1 f1 c1 iter_str⟩
 ·cases e2
theorem ZaR (hg:Gl X "range")(hm:X.mg "range"=none)(ha:QAM X [a] fs)(hs:Yo [a] X.env=[(false,eval a X.env)]:=by rfl):QIM X tg (.Call (.Name "range" p) [a] [] pos) (mRange1 fs):=by
 subst_eqs
 exact PI.imp (pi_range1 hg hm ha hs) fun σ H R h_=>by
    obtain ⟨ι,ρ,C,xs,C',sr,e,q⟩:=h_
    obtain ⟨zs,C1,e1,g1⟩:=Zag e
    obtain ⟨e2,hC⟩:=ZaQ g1
    subst hC
    refine ⟨ι,ρ,C,zs,_,sr,e1,fun vs H1 f1 c1 r1=>?_⟩
    obtain ⟨j,rfl,h,rfl⟩:=rng1_some e2
    obtain ⟨v,w,rfl,r1,hw⟩:=r1
    cases (show w=[] from hw)
    have r1:v=.int j:=by unfold RepS Rep at r1;exact r1
    subst r1
    exact ⟨j,rfl,by lia,by lia,q _ H1 f1 c1 ZdJ⟩
theorem q_im_range2 (hg:Gl X "range")(hm:X.mg "range"=none)(ha:QAM X [a,b] fs)(hs:Yo [a,b] X.env=[(false,eval a X.env),(false,eval b X.env)]:=by rfl)(hs2:Yo [b] X.env=[(false,eval b X.env)]:=by rfl):QIM X tg (.Call (.Name "range" p) [a,b] [] pos) (mRange2 fs):=by
 subst_eqs
 exact PI.imp (pi_range2 hg hm ha hs hs2) fun σ H R h_=>by
    obtain ⟨ι,ρ,C,xs,C',sr,e,q⟩:=h_
    obtain ⟨zs,C1,e1,g1⟩:=Zag e
    obtain ⟨e2,hC⟩:=ZaQ g1
    subst hC
    refine ⟨ι,ρ,C,zs,_,sr,e1,fun vs H1 f1 c1 r1=>?_⟩
    obtain ⟨i,j,rfl,h,rfl⟩:=rng2_some e2
    obtain ⟨v,w,rfl,r1,hw⟩:=r1
    obtain ⟨v2,w2,rfl,r2,hw⟩:=hw
    cases (show w2=[] from hw)
    have r1:v=.int i:=by unfold RepS Rep at r1;exact r1
    have r2:v2=.int j:=by unfold RepS Rep at r2;exact r2
    subst r1 r2
    exact ⟨i,j,rfl,⟨by lia,by lia,by lia,by lia⟩,q _ H1 f1 c1 ZdJ⟩
end
section
variable {X:Cx}{a b e c o i:Expr}{es:6e1}{fa fb fc fo fi fv:4e7}{fs:2e8}{pos p apos cpos p2:Pos}{x:Str}{lo hi:Option Expr}{l h:PSt->M (Option Int)}
theorem ZaT:QOM X none oNo:=by
 subst_eqs
 exact PO.imp po_none fun σ H Q h_=>by obtain ⟨ι,ρ,C,r,C',sr,e,q⟩:=h_;cases e;exact q H .refl sr.cr
theorem ZaK (he:QEM X e fa):QOM X (some e) (oPart fa):=by
 subst_eqs
 exact PO.imp (po_some he) fun σ H Q h_=>by
   obtain ⟨ι,ρ,C,r,C',sr,e,q⟩:=h_
   obtain ⟨z,C1,e1,g1⟩:=Zag e
   obtain ⟨e2,hC⟩:=ZaQ g1
   subst hC
   refine ⟨ι,ρ,C,z,_,sr,e1,fun v H1 f1 c1 r1=>?_⟩
   unfold intD at e2
   split at e2
   ·rename_i j hd
    cases e2
    have l:=r1.lies c1 hd
    cases l
    exact ⟨j,rfl,q H1 f1 c1⟩
   ·cases e2
theorem ZaG (he:QEM X e fa)(hl:QOM X lo l)(hh:QOM X hi h):QEM X (.Subscript e (.Slice lo hi none p2) pos) (mSlice fa l h):=by
 subst_eqs
 exact PE.imp (pe_slice (SlR.or sl_list (SlR.or sl_tup sl_tupW)) he hl hh) fun σ H Q h_=>by
    sleep 9
    obtain ⟨x,C1,e1,g1⟩:=Zag e
    obtain ⟨i,C2,e2,g2⟩:=Zag g1
    obtain ⟨j,C3,e3,g3⟩:=Zag g2
    obtain ⟨e4,hC⟩:=ZaQ g3
    subst hC
    clear e g1 g2 g3
    refine ⟨ι,ρ,C,x,C1,sr,e1,fun v H1 f1 c1 r1=>⟨ι,ρ,C1,i,C2,sr.step f1 c1,e2,fun H2 f2 c2=>⟨ι,ρ,C2,j,_,(sr.step f1 c1).step f2 c2,e3,fun H3 f3 c3=>?_⟩⟩⟩
    have fr:=f1.trans (f2.trans f3)
    have r3:=(r1.mono c1 f2).mono c2 f3
    rcases sliceD_some e4 with ⟨xs,hd,rfl⟩ | ⟨xs,hd,rfl⟩
    ·obtain ⟨a,vs,rfl,h1,rv⟩:=liesL (r3.lies c3 hd)
     exact .inl ⟨a,vs,rfl,h1,fun p hp=>q _ _ (fr.trans (Fr.new hp)) (c3.new hp) (show Rep _ _ _ _ _ from Zcw c3 hp (reps_cut rv i j))⟩
    ·obtain ⟨a,vs,rfl,h1,rv⟩:=liesT (r3.lies c3 hd)
     by_cases hw:HT.sIx vs.length 0 i=0/\HT.sIx vs.length vs.length j=vs.length
     ·refine .inr (.inr ⟨a,vs,rfl,h1.sq,hw,?_⟩)
      rw[←rv.length] at hw
      rw[cut_whole hw] at q
      exact q _ H3 fr c3 (show Rep _ _ _ _ _ by unfold Rep;exact ⟨a,vs,rfl,h1,rv⟩)
     ·exact .inr (.inl ⟨a,vs,rfl,h1.sq,hw,fun p hp=>q _ _ (fr.trans (Fr.new hp)) (c3.new hp) (show Rep _ _ _ _ _ from Zc9 hp (reps_cut rv i j))⟩)
end
section
variable {X:Cx}{a b e c o i:Expr}{es:6e1}{fa fb fc fo fi fv:4e7}{fs:2e8}{pos p apos cpos p2:Pos}{x:Str}
theorem Zah (hu:X.A.units + 1 < cLine)(ha:QEM X a fa)(hb:QEM X b fb)(hs:PlainIx b:=by exact fun _ _=>rfl):QEM X (.Subscript a b pos) (mOp 3e6 fa fb):=by
 subst_eqs
 exact em_ix (IxR.or ix_seq (ix_dict hu)) ixQ_ok.r ha hb hs
end
end Pu
namespace Pu
open PySem PySem.Spec PySem.W PySem.Calls L2 PySem.SeqAt
open PyProof.Rows hiding St Fr
section
variable {X:Cx}{e o i:Expr}{es:6e1}{fs:2e8}{p pos pos':Pos}{x:Str}{fv fo fi:4e7}
theorem q_sm_newT {n:Nat}{dpos:Pos}(hN:X.N.Nodup)(hi:X.N[n]? = some x)(hx:Loc X.env.scope x)(hs:WP (.Dict [] [] dpos) (some (.Name x pos')) pos.line X.env=pure false:=by rfl)
  (hf:7e1:=by first | exact .inl rfl | exact .inr rfl | assumption):QSM X (.Assign [.Name x pos'] (.Dict [] [] dpos) pos) (mNewT n):=by
 subst_eqs
 exact PS.imp (ps_set hN hi hx pe_dnewT hs hf) fun D σ H h_=>by
   sleep 2
   cases e
   intro q hq
   have c1:=sr.cr
   have c2:CR X.K (ι++[q]) (upd H q (.dT [])) (C++[.dtt [] []]):=c1.add hq ⟨[],ZaO,rfl,.nil⟩
   have x:Ex ι [q] H (upd H q (.dT [])):=⟨Fr.new hq,fun b hb=>by
    have:b=q:=by simpa using hb
    subst this;exact hq⟩
   refine d [q] _ _ x ((sr.ex x c2).set n ⟨q,rfl,?_⟩)
   rw[←c1.len];simp
theorem q_sm_setixT {spos:Pos}(hu:8e8)(hv:QEM X e fv)(ho:QEM X o fo)(hi:QEM X i fi)
  (hs:WP e (some (.Subscript o i spos)) pos.line X.env=pure false:=by rfl):QSM X (.Assign [.Subscript o i spos] e pos) (mSetIxT fv fo fi):=by
 subst_eqs
 exact PS.imp (ps_dput 1e2 ho hi hv hs) fun D σ H h_=>by
    sleep 2
    obtain ⟨v,C1,e1,g1⟩:=Zag e
    obtain ⟨o,C2,e2,g2⟩:=Zag g1
    obtain ⟨i,C3,e3,g3⟩:=Zag g2
    obtain ⟨k,qs,p',ks,ps,key,ho,hi,hv,hc,hj,hlen,hf,hC⟩:=setT_some g3
    clear e g1 g2 g3
    subst ho hi hv hf hC
    refine ⟨ι,ρ,C,_,C1,sr,e1,fun x H1 f1 c1 r1=>⟨ι,ρ,C1,_,C2,sr.step f1 c1,e2,fun y H2 f2 c2 r2=>⟨ι,ρ,C2,_,C3,(sr.step f1 c1).step f2 c2,e3,fun w H3 f3 c3 r3=>?_⟩⟩⟩
    obtain ⟨a,rfl,hk⟩:=r2
    obtain ⟨vs,h1,hl,rv⟩:=(show CellOk X.K ι H3 a (.dtt ks ps) from c3.ok k a _ hk hc)
    obtain ⟨b,rfl,hb⟩:=ZbZ (show Rep X.K ι H3 (.tup qs) w from r3) hj
    have r1':Rep X.K ι H3 p' x:=Rep.mono c2 f3 _ _ (Rep.mono c1 f2 _ _ r1)
    obtain ⟨z1,z2⟩:=put_zip (k:=key) (v:=x) hl
    have fr:Fr ι H3 (upd H3 a (.dT (putK (ks.zip vs) key x))):=fun b u n e=>by
     rw[Zaw (fun z=>n (by rw[z];exact YK hk))];exact e
    have c4:CR X.K ι (upd H3 a (.dT (putK (ks.zip vs) key x))) (C3.set k (.dtt (putKs ks key) (putVs ks ps key p'))):=
     c3.put hk ⟨putVs ks vs key x,by rw[←z1];exact ZaO,z2,Reps.mono c3 fr _ _ (reps_put r1' rv)⟩
    refine ⟨a,_,rfl,DPut.t h1 hb (by rw[VN,YS];lia),?_⟩
    exact Done.nx0 ((((sr.step f1 c1).step f2 c2).step f3 c3).step fr c4) (d.fr c4 (f1.trans (f2.trans (f3.trans fr))))
end
end Pu
namespace Pu
open PySem PySem.Spec PySem.W PySem.Calls L2 PySem.SeqAt
open PyProof.Rows hiding St Fr
section
variable {X:Cx}{e o i a:Expr}{es:6e1}{p pos pos' cpos apos:Pos}{x:Str}{fv fo fi fa:4e7}{fs:2e8}
theorem q_sm_newK {n:Nat}{dpos:Pos}(hN:X.N.Nodup)(hi:X.N[n]? = some x)(hx:Loc X.env.scope x)(hs:WP (.Dict [] [] dpos) (some (.Name x pos')) pos.line X.env=pure false:=by rfl)
  (hf:7e1:=by first | exact .inl rfl | exact .inr rfl | assumption):QSM X (.Assign [.Name x pos'] (.Dict [] [] dpos) pos) (mNewK n):=by
 subst_eqs
 exact PS.imp (ps_set hN hi hx pe_dnewK hs hf) fun D σ H h_=>by
   sleep 2
   cases e
   intro q hq
   have c1:=sr.cr
   have c2:CR X.K (ι++[q]) (upd H q (.dK [])) (C++[.dct [] []]):=c1.add hq ⟨[],[],ZaO,rfl,rfl,.nil⟩
   have x:Ex ι [q] H (upd H q (.dK [])):=⟨Fr.new hq,fun b hb=>by
    have:b=q:=by simpa using hb
    subst this;exact hq⟩
   refine d [q] _ _ x ((sr.ex x c2).set n ⟨q,rfl,?_⟩)
   rw[←c1.len];simp
theorem q_sm_setixK {spos:Pos}(hu:8e8)(hv:QEM X e fv)(ho:QEM X o fo)(hi:QEM X i fi)
  (hs:WP e (some (.Subscript o i spos)) pos.line X.env=pure false:=by rfl):QSM X (.Assign [.Subscript o i spos] e pos) (mSetIxK fv fo fi):=by
 subst_eqs
 exact PS.imp (ps_dput 1e2 ho hi hv hs) fun D σ H h_=>by
    sleep 2
    obtain ⟨v,C1,e1,g1⟩:=Zag e
    obtain ⟨o,C2,e2,g2⟩:=Zag g1
    obtain ⟨i,C3,e3,g3⟩:=Zag g2
    obtain ⟨k,ip,p',ks,ps,qs,key,ho,hi,hv,hc,hj,hks,hlen,hf,hC⟩:=setK_some g3
    clear e g1 g2 g3
    subst ho hi hv hf hC
    refine ⟨ι,ρ,C,_,C1,sr,e1,fun x H1 f1 c1 r1=>⟨ι,ρ,C1,_,C2,sr.step f1 c1,e2,fun y H2 f2 c2 r2=>⟨ι,ρ,C2,_,C3,(sr.step f1 c1).step f2 c2,e3,fun w H3 f3 c3 r3=>?_⟩⟩⟩
    obtain ⟨a,rfl,hk⟩:=r2
    obtain ⟨qs',vs,h1,hl,hk',rv⟩:=(show CellOk X.K ι H3 a (.dct ks ps) from c3.ok k a _ hk hc)
    subst hk'
    rw[ZaZ] at hks
    cases hks
    have hw:w=kV key:=rep_key (show Rep X.K ι H3 ip w from r3) hj
    subst hw
    have r1':Rep X.K ι H3 p' x:=Rep.mono c2 f3 _ _ (Rep.mono c1 f2 _ _ r1)
    obtain ⟨z1,z2⟩:=put_zip (k:=key) (v:=x) hl
    have fr:Fr ι H3 (upd H3 a (.dK (putK (qs.zip vs) key x))):=fun b u n e=>by
     rw[Zaw (fun z=>n (by rw[z];exact YK hk))];exact e
    have c4:CR X.K ι (upd H3 a (.dK (putK (qs.zip vs) key x))) (C3.set k (.dct ((putKs qs key).map kP) (putVs qs ps key p'))):=
     c3.put hk ⟨putKs qs key,putVs qs vs key x,by rw[←z1];exact ZaO,z2,rfl,Reps.mono c3 fr _ _ (reps_put r1' rv)⟩
    rw[YA] at hlen
    refine ⟨a,_,rfl,DPut.k h1 (by rw[VN,YS];lia),?_⟩
    exact Done.nx0 ((((sr.step f1 c1).step f2 c2).step f3 c3).step fr c4) (d.fr c4 (f1.trans (f2.trans (f3.trans fr))))
end
section
variable {X:Cx}
theorem Zbb {e:Expr}{es:6e1}{fs:2e8}{p pos:Pos}(hcm:11e5)(hu:8e8)(hgl:Gl X "sorted")(hm:X.mg "sorted"=none)(hv:Xo "sorted"=some 18e4)(ha:QAM X 9e1 fs)
  (he:1e8:=by rfl) (hpl:3e1:=by rfl):QFM X (.Call (.Name "sorted" p) 9e1 [] pos) (mSorted3 fs):=by
 subst_eqs
 exact PE.imp (PE.or (fm_sorted2 (p:=p) (pos:=pos) hcm hu hgl hm hv ha he hpl) (pe_callB (call_sortedK hcm hu) hgl hm hv ha 1e6 1e6 he hpl)) fun σ H Q h_=>by
    sleep 9
    sleep 10
    obtain ⟨e2,rfl⟩:=ZaQ e
    unfold sortedH3 at e2
    split at e2
    ·rename_i x
     split at e2
     ·rename_i ks vs hd
      split at e2
      ·rename_i qs hk
       by_cases ho:qs.all keyOk=true
       ·rw[if_pos ho] at e2
        refine .inr ⟨ι,ρ,C,[x],_,sr,e1,fun vs H1 f1 c1 r1=>?_⟩
        obtain ⟨v,w,rfl,r1,hw⟩:=r1
        cases (show w=[] from hw)
        obtain ⟨a,qs',ws,rfl,rfl,hd',hl,r⟩:=liesD (r1.lies c1 hd)
        rw[ZaZ] at hk
        cases hk
        have ek:((qs.zip ws).map fun q=>kP q.1)=qs.map kP:=by
         have:(qs.zip ws).map UF=qs:=W9 1e2
         exact (Xi (f:=UF) (g:=kP) (l:=qs.zip ws)).symm.trans (by rw[this])
        have ev:((qs.zip ws).map fun q=>kV q.1)=qs.map kV:=by
         have:(qs.zip ws).map UF=qs:=W9 1e2
         exact (Xi (f:=UF) (g:=kV) (l:=qs.zip ws)).symm.trans (by rw[this])
        have ef:(qs.zip ws).map (·.1)=qs:=W9 1e2
        refine ⟨a,qs.zip ws,rfl,hd',by rw[ef];exact ho,by rw[ek,e2];rfl,fun l hl=>?_⟩
        refine q l _ H1 f1 c1 hl ?_
        rw[ZbP e2,ek,ev]
        exact ZbS (reps_kP ho) fun i hi=>Zbn i hi
       ·rw[if_neg ho] at e2;cases e2
      ·cases e2
     ·exact .inl ⟨ι,ρ,C,z,_,sr,by unfold mSorted2;show bnd (fs ρ) _ C=_;unfold bnd;rw[e1];show opM _ _=_;unfold opM;dsimp only;rw[e2],q⟩
    ·cases e2
end
end Pu
namespace Pu
open PySem PySem.Spec L2
open PyProof.Rows hiding St Fr
section
variable {X:Cx}{l:Expr}{elts:6e1}{x1:Nat}{tpos p pos:Pos}
theorem q_im_enum {fs:2e8}(hg:Gl X "enumerate")(hm:X.mg "enumerate"=none)(ha:QAM X [l] fs)(hs:Yo [l] X.env=[(false,eval l X.env)]:=by rfl):QIM X (.Tuple elts x1 tpos) (.Call (.Name "enumerate" p) [l] [] pos) (mEnum fs):=by
 subst_eqs
 exact PI.imp (pi_enum hg hm ha hs) fun σ H R h_=>by
    obtain ⟨ι,ρ,C,xs,C',sr,e,q⟩:=h_
    obtain ⟨zs,C1,e1,g1⟩:=Zag e
    obtain ⟨e2,hC⟩:=ZaQ g1
    subst hC
    refine ⟨ι,ρ,C,zs,_,sr,e1,fun vs H1 f1 c1 r1=>?_⟩
    unfold enumP at e2
    split at e2
    ·cases e2
     obtain ⟨v,w,rfl,r1,hw⟩:=r1
     cases (show w=[] from hw)
     replace r1:Rep X.K ι H1 (.lst _) v:=r1
     unfold Rep at r1
     obtain ⟨a,vs,rfl,hq,rv⟩:=r1
     exact ⟨a,rfl,⟨vs,hq.sq⟩,q _ H1 f1 c1 (iter_enum c1 hq rv)⟩
    ·cases e2
theorem q_sm_forE {fs:2e8}{f:13e8}{body:List Stmt}{fpos:Pos}{g:5e2}(hp:PassesOwn 2e7 X.A X.env X.xe)(hc:11e5)(hgl:Gl X "enumerate")(hm:X.mg "enumerate"=none)(ha:QAM X [l] fs)(hg:QGM X (.Tuple elts x1 tpos) g)(hb:QBM X body f)
  (hs:∀x,Y5 (.Call (.Name "enumerate" p) [l] [] pos) X.env x=pure x:=by intro _;rfl) (hs1:Yo [l] X.env=[(false,eval l X.env)]:=by rfl):QSM X (.For (.Tuple elts x1 tpos) (.Call (.Name "enumerate" p) [l] [] pos) body [] fpos) (mForE fs g f):=by
 subst_eqs
 exact PS.imp (ps_for hp hc (pi_enum hgl hm ha hs1) hg hb hs) fun D σ H h_=>by
   sleep 2
   obtain ⟨x,C1,e1,e⟩:=Zag e
   refine ⟨ι,ρ,C,x,C1,sr,e1,fun v H1 f1 c1 r1=>?_⟩
   split at e
   case h_2=>cases e
   rename_i k
   obtain ⟨v,w,rfl,⟨a,rfl,hk⟩,hw⟩:=r1
   cases (show w=[] from hw)
   have d1:=d.fr c1 f1
   have sr1:=sr.step f1 c1
   have cell:∀{ι2:4e3} {H2:Hp} {C2:Cs} {qs:List PV},CR X.K 11e1 H2 C2->C2[k]? = some (.lst qs)->∃vs,H2 a=some (.lst vs)/\Reps X.K 11e1 H2 qs vs:=fun {ι2 H2 C2 qs} cr h=>by
    have hkl:k < ι.length:=by
     rcases YC k ι.length with q | q
     ·exact q
     ·rw[Yg.mpr q] at hk;cases hk
    exact cr.ok k a _ (by rw[Yf hkl];exact hk) h
   refine ⟨a,rfl,?_,?_⟩
   ·unfold loopE at e
    split at e
    ·rename_i qs hq
     obtain ⟨vs,h1,_⟩:=cell (ι2:=[]) (by rw[YJ];exact c1) hq
     exact ⟨vs,.inl (.inl h1)⟩
    ·cases e
   refine ⟨fun i m σ2 H2=>∃ι2 ρ2 C2,Ex ι ι2 H1 H2/\SR X.K 11e1 H2 ρ2 σ2 C2/\loopE g f k m i ρ2 C2=some (fl,C'),⟨1000,[],ρ,C1,Ex.fr .refl,by rw[YJ];exact sr1,e⟩,?_⟩
   rintro i m σ2 H2 ⟨ι2,ρ2,C2,x2,sr2,e2⟩
   cases m with
   | zero=>cases e2
   | succ m=>
   unfold loopE at e2
   split at e2
   ·rename_i qs hq
    obtain ⟨vs,h1,rv⟩:=cell sr2.cr hq
    split at e2
    ·rename_i q hqi
     right
     obtain ⟨w,hw,rw'⟩:=rv.get hqi
     refine ⟨⟨vs,w,.inl (.inl h1),hw⟩,fun σ' H'=>∃ι2 ρ2 C2,Ex ι ι2 H1 H'/\SR X.K 11e1 H' ρ2 σ' C2/\loopE g f k m (i + 1) ρ2 C2=some (fl,C'),?_,?_⟩
     ·rintro σ' H' h
      exact ⟨m,VA _,h⟩
     ·intro v H3 y
      obtain ⟨b,v',hn,rfl,rfl,y⟩:=y
      have ev:v'=w:=by have:=y vs (.inl (.inl h1));rw[hw] at this;exact (YG this).symm
      subst ev
      split at e2
      ·cases e2
      ·rename_i ρ3 hg1
       obtain ⟨fl1,C3,e3,e4⟩:=Zag e2
       have sm:∀c o,H2 c=some o->upd H2 b (.tup [.int i,v']) c=some o:=fun c o e=>by rw[Zaw (Zar e hn)];exact e
       have x3:Ex ι ι2 H1 (upd H2 b (.tup [.int i,v'])):=⟨fun c o n z=>sm c o (x2.1 c o n z),x2.2⟩
       have cr3:=sr2.cr.same sm
       refine ⟨ι++ι2,ρ2,C2,.tup [.int (i:Nat),q],ρ3,sr2.step (fun c o _ z=>sm c o z) cr3,Zc9 hn (.cons repI (.cons rw' .nil)),hg1,fun σ4 sr4=>⟨ι++ι2,ρ3,C2,fl1,C3,sr4,e3,?_⟩⟩
       cases fl1 with
       | nx ρ5=>exact fun ι5 σ5 H5 x5 sr5=>⟨ι2++ι5,ρ5,C3,x3.trans cr3 x5,by rw[←Yx];exact sr5,e4⟩
       | ct ρ5=>exact fun ι5 σ5 H5 x5 sr5=>⟨ι2++ι5,ρ5,C3,x3.trans cr3 x5,by rw[←Yx];exact sr5,e4⟩
       | bk ρ5=>cases e4;exact fun ι5 σ5 H5 x5 sr5=>d1 (ι2++ι5) σ5 H5 (x3.trans cr3 x5) (by rw[←Yx];exact sr5)
       | rf ps=>cases e4;exact fun ι5 q5 vs5 H5 x5 c5 h5 r5=>d1 (ι2++ι5) q5 vs5 H5 (x3.trans cr3 x5) (by rw[←Yx];exact c5) h5 (by rw[←Yx];exact r5)
       | rq ps=>cases e4;exact fun ι5 q5 vs5 H5 x5 c5 h5 r5=>d1 (ι2++ι5) q5 vs5 H5 (x3.trans cr3 x5) (by rw[←Yx];exact c5) h5 (by rw[←Yx];exact r5)
       | rt r=>cases e4;exact fun ι5 v5 H5 x5 c5 r5=>d1 (ι2++ι5) v5 H5 (x3.trans cr3 x5) (by rw[←Yx];exact c5) (by rw[←Yx];exact r5)
    ·rename_i hqi
     left
     cases e2
     refine ⟨⟨vs,.inl (.inl h1),?_⟩,d1 ι2 σ2 H2 x2 sr2⟩
     rw[←rv.length];exact Yg.mp hqi
   ·cases e2
end
section
variable {X:Cx}{tg kx vx iter:Expr}{ifs:6e1}{pos:Pos}{scope:Scope}{vs fs:5e9}{fr:12e5}{it:6e3}{g:5e2}{tt:6e7}{tk te:4e7}
theorem q_em_compD (S:10e4)(hc:11e5)(hu:8e8)(hi:QIM X tg iter it)
  (bG:∀C s₀ H₀ ex pn,QGM 1e4 tg g) (bT:∀C s₀ H₀ ex pn,QTsM 1e4 ifs tt) (bK:∀C s₀ H₀ ex pn,QEM 1e4 kx tk) (bE:∀C s₀ H₀ ex pn,QEM 1e4 vx te)
  (hs:16e6:=by intro _;rfl):QEM X (.DictComp kx vx [⟨tg,iter,ifs,0⟩] scope pos) (mCompD it vs fr g tt tk te):=by
 subst_eqs
 exact PE.imp (pe_compD (g:=tMG X.K g) (tt:=tMB X.K tt) (tk:=tM X.K tk) (te:=tM X.K te) S hc 1e2 hi bG bT bK bE hs) fun σ H Q ⟨ι,ρ,C,res,C',sr,e,q⟩=>compD_pure sr e q
end
end Pu
namespace Pu
open PySem PySem.Spec L2
open PyProof.Rows hiding St Fr
section
variable {X:Cx}{a b e o:Expr}{es:6e1}{fa fb fo:4e7}{fs:2e8}{pos apos cpos:Pos}
theorem q_em_mulL (ha:QEM X a fa)(hb:QEM X b fb):QEM X (.BinOp a .Mult b pos) (mOp (g2 mulLP) fa fb):=by
 subst_eqs
 exact em_op op_mulL mulL_ok.r ha hb
end
section
variable {X:Cx}
variable {o e:Expr}{es:6e1}{fo:4e7}{fs:2e8}{apos cpos:Pos}
theorem q_em_extend (ho:QEM X o fo)(ha:QAM X 9e1 fs)(hbase:Ud o "extend" X.env (eval o X.env)=eval o X.env:=by rfl)
  (hfew:((backTo cpos (Yo 9e1 X.env)).all (fun x=>!x.1)&&(backToKw cpos (UJ [] X.env)).all (fun x=>x.1.isSome)
   &&decide ((e::es).length + ([]:List UK).length + (if ([]:List UK).isEmpty then 0 else 1) < 30))=true:=by rfl)
  (hline:(apos.endLine==cpos.line)=true:=by rfl) (hs:1e8:=by rfl) (hplain:(backTo cpos (Yo es X.env)).any (·.1)=false:=by rfl):
  QEM X (.Call (.Attribute o "extend" apos) 9e1 [] cpos) (mExt fo fs):=by
 subst_eqs
 exact PE.imp (pe_bm PySem.F.plainAttrs_list PySem.F.slot_list_extend PySem.F.type_list_extend mt_extS ho ha hbase hfew hline hs hplain) fun σ H Q h_=>by
    sleep 9
    obtain ⟨x,C1,e1,g1⟩:=Zag e
    obtain ⟨u,C2,e2,g2⟩:=Zag g1
    obtain ⟨ys,C3,e3,g3⟩:=Zag g2
    obtain ⟨hC,k,ps0,hx,hc0⟩:=ZdK e2
    obtain ⟨k',qs,ps,hx',hy,hc,hl,hr,hC'⟩:=extC_some g3
    clear e g1 g2 g3 e2
    subst hC hx hr hC' hy
    cases hx'
    refine ⟨ι,ρ,C,_,_,sr,e1,fun v H1 f1 c1 r1=>?_⟩
    obtain ⟨a,rfl,hk⟩:=r1
    obtain ⟨vs0,h0,_⟩:=Zcn c1 hk hc0
    refine ⟨.inl ⟨rfl,_,.of h0⟩,ι,ρ,_,_,C3,sr.step f1 c1,e3,fun ws H2 f2 c2 r2=>?_⟩
    obtain ⟨w,wr,rfl,rw1,hw⟩:=r2
    cases (show wr=[] from hw)
    obtain ⟨b,zs,rfl,hb,rz⟩:=rw1
    obtain ⟨vs,h1,rv⟩:=Zcn c2 hk hc
    obtain ⟨c4,f4⟩:=cr_set c2 hk (rv.append rz)
    exact ⟨a,b,vs,zs,rfl,rfl,h1,hb.sq,by rw[←rv.length,←rz.length];exact Xv (Yn hl (k100000 (Yh _))),q _ _ (f1.trans (f2.trans f4)) c4 (show Rep _ _ _ _ _ from repN)⟩
end
end Pu
namespace Pu
open PySem PySem.Spec PySem.W PySem.Calls L2 PySem.SeqAt Se
open PyProof.Rows hiding St Fr
section
variable {X:Cx}{elt t0 i0 t1 i1:Expr}{ifs:6e1}{scope:Scope}{p pos pos1:Pos}{vs fs:5e9}{fr:12e5}{it0 it1:6e3}{g0 g1:5e2}{tt:6e7}{te:4e7}
theorem ZcD (S:10e4)(hc:11e5)(hu:8e8)(hgl:Gl X "sorted")(hm:X.mg "sorted"=none)(hv:Xo "sorted"=some 18e4)(hi:QIM X t0 i0 it0)
  (bG0:∀C s₀ H₀ ex pn,QGM 1e4 t0 g0) (bI:∀C s₀ H₀ ex pn,QIM 1e4 t1 i1 it1) (bG1:∀C s₀ H₀ ex pn,QGM 1e4 t1 g1)
  (bT:∀C s₀ H₀ ex pn,QTsM 1e4 ifs tt) (bE:∀C s₀ H₀ ex pn,QEM 1e4 elt te)
  (hs:∀x,Y5 i0 X.env x=pure x:=by intro _;rfl) (hs1:∀(env:Env) x,Y5 i1 env x=pure x:=by intro _ _;rfl):
  QFM X (.Call (.Name "sorted" p) [.SetComp elt [⟨t0,i0,[],0⟩,⟨t1,i1,ifs,0⟩] scope pos1] [] pos) (mSortSet it0 vs fr g0 it1 g1 tt te):=by
 subst_eqs
 intro pins s σ H Q I h_
 obtain ⟨ι,ρ,C,res,C',sr,e,q⟩:=h_
 refine Vj (Zdf I hgl hm hv ?_ 1e6 1e6)
 refine Vx ?_ rfl rfl
 show wpAny _ _ (spliced ((false,eval (sc2 elt t0 i0 t1 i1 ifs scope pos1) X.env)::backTo pos (Yo [] X.env))) _ _ s
 refine Calls.spliced_cons ?_
 sleep 10
 obtain ⟨ks,C9,e9,e10⟩:=Zag e
 obtain ⟨e11,ec⟩:=ZaQ e10
 rw[←ec] at e9
 by_cases hko:keysOk ks=true
 case neg=>rw[if_neg hko] at e11;cases e11
 rw[if_pos hko] at e11
 refine thn (setcomp_at (wi0:=tMI X.K it0) (g0:=tMG X.K g0) (wi1:=tMI X.K it1) (g1:=tMG X.K g1) (tt:=tMB X.K tt) (te:=tM X.K te) (Q:=fun bs H2=>bs.map (·.1)=ks/\Fr ι H H2/\CR X.K ι H2 C'/\FineB bs H2) S hc 1e2 hi hs1 bG0 bI bG1 bT bE I ?_ hs) fun v s2 ⟨D,bs,H2,ev,I2,SU,hD,hks,f2,c2,fb⟩=>?_
 ·refine ⟨ι,ρ,C,xs,C1,sr,e1,fun J H1 f1 c1 it1'=>?_⟩
  have sr1:=(sr.step f1 c1).block vs fr
  have x0:∀{H2:Hp},Fr ι H1 H2->Ex ι [] H1 H2:=fun f=>Ex.fr f
  have c0:∀{H2:Hp} {C2:Cs},CR X.K ι H2 C2->CR X.K (ι++[]) H2 C2:=fun c=>by rw[YJ];exact c
  refine ⟨fun i m σ2 bs H2=>∃ρ2 C2,m=xs.length - i/\i<=xs.length/\Fr ι H1 H2/\SR X.K ι H2 ρ2 σ2 C2/\FineB bs H2/\compS0 g0 it1 g1 tt te (xs.drop i) ρ2 (bs.map (·.1)) C2=some (ks,C'),⟨xs.length,_,C1,rfl,YV _,.refl,sr1,fun p hp=>(nomatch hp),e9⟩,?_⟩
  rintro i m σ2 bs2 H2 ⟨ρ2,C2,rfl,hi2,f2,sr2,fb2,e2⟩
  rcases YC i xs.length with hlt | hge
  ·right
   refine ⟨it1'.go [] H2 C2 (x0 f2) (c0 sr2.cr) i hlt,fun σ' bs' H'=>∃ρ2 C2,Fr ι H1 H'/\SR X.K ι H' ρ2 σ' C2/\FineB bs' H'/\compS0 g0 it1 g1 tt te (xs.drop (i + 1)) ρ2 (bs'.map (·.1)) C2=some (ks,C'),?_,?_⟩
   ·rintro σ' bs' H' ⟨ρ3,C3,f3,sr3,fb3,e3⟩
    exact ⟨xs.length - (i + 1),by lia,ρ3,C3,rfl,hlt,f3,sr3,fb3,e3⟩
   ·intro v H3 y
    obtain ⟨sm,qv,hq,rq⟩:=it1'.yld [] H2 C2 (x0 f2) (c0 sr2.cr) i v H3 hlt y
    rw[YJ] at rq
    have hd:xs.drop i=qv::xs.drop (i + 1):=by
     rw[XE hlt]
     rw[Yb hlt] at hq
     rw[YG hq]
    rw[hd] at e2
    unfold compS0 at e2
    cases hg1:g0 qv ρ2 with
    | none=>rw[hg1] at e2;cases e2
    | some ρ3=>
     rw[hg1] at e2
     obtain ⟨ys,C4,e3,e4⟩:=Zag e2
     obtain ⟨⟨ρ5,ks5⟩,C5,e5,e6⟩:=Zag e4
     have fr3:Fr ι H2 H3:=fun b o _ z=>sm b o z
     have cr3:CR X.K ι H3 C2:=sr2.cr.same sm
     refine ⟨ι,ρ2,C2,qv,ρ3,sr2.step fr3 cr3,rq,hg1,fun σ4 sr4=>⟨ι,ρ3,C2,ys,C4,sr4,e3,fun J1 H5 f5 c5 it5=>?_⟩⟩
     refine compS1_pure it5 (sr4.step f5 c5) (Zbx cr3 f5 (Zbx sr2.cr fr3 fb2)) e5 fun σ6 bs6 H6 f6 sr6 fb6 hk6=>⟨ρ5,C5,f2.trans (fr3.trans (f5.trans f6)),sr6,fb6,?_⟩
     rw[hk6];exact e6
  ·left
   have hi3:i=xs.length:=by lia
   subst hi3
   rw[W8] at e2
   unfold compS0 at e2
   have e2':some (bs2.map (·.1),C2)=some (ks,C'):=e2
   simp only[Option.some.injEq,Prod.mk.injEq] at e2'
   obtain ⟨hk,rfl⟩:=e2'
   exact ⟨it1'.stop [] H2 _ (x0 f2) (c0 sr2.cr),hk,f1.trans f2,sr2.cr,fb2⟩
 ·subst ev
  refine Calls.spliced_nil (sorted_set hc hu I2 SU fb (by rw[hks];exact hko) (qs:=res) ?_ fun ws l rs hl=>q l ws H2 f2 c2 hl (rs ι))
  rw[←e11,←hks,Xi];rfl
end
end Pu
namespace Pu
open PySem PySem.Spec PySem.W PySem.Calls L2
open PyProof.Rows hiding St Fr
section
variable {X:Cx}{e:Expr}{es:6e1}{p pos:Pos}{x:Str}{k:Nat}{ps:5e9}{F:List SV->M SV}{fs:2e8}
theorem Zaf (c:Cal X.prog X.w X.K X.mg X.base k x ps (liftSp X.K F))(hr:Room k X.A)(hg:Gl X x)(ha:QAM X 9e1 fs)(hdb:5e5:=by decide)(he:1e8:=by rfl)(hpl:3e1:=by rfl):
  QEM X 7e0 (mFn F fs):=by
 subst_eqs
 obtain ⟨f,fd,G,m,k,b⟩:=c
 exact em_call G hr hg m k b ha hdb he hpl
theorem q_em_calS (ix:12e5)(c:Cal X.prog X.w X.K X.mg X.base k x ps (liftSp X.K F))(hr:Room k X.A)(hg:Gl X x)(ha:QAM X 9e1 fs)(hdb:5e5:=by decide)(he:1e8:=by rfl)(hpl:3e1:=by rfl):
  QEM X 7e0 (mFnS F ix fs):=by
 subst_eqs
 obtain ⟨f,fd,G,m,k,b⟩:=c
 exact em_callS ix G hr hg m k b ha hdb he hpl
theorem q_em_calN {f0:6e3}(c:Cal X.prog X.w X.K X.mg X.base k x ps (liftSp X.K F))(hr:Room k X.A)(hg:Gl X x)(h0:QFM X e f0)(ha:QAM X es fs)(hdb:5e5:=by decide)(he:1e8:=by rfl)(hpl:3e1:=by rfl):
  QEM X 7e0 (mFnN F f0 fs):=by
 subst_eqs
 obtain ⟨f,fd,G,m,k,b⟩:=c
 exact em_callN G hr hg m k b h0 ha hdb he hpl
theorem ZbA {F:List SV->M 14e9}(c:Cal X.prog X.w X.K X.mg X.base k x ps (liftSpF X.K F))(hr:Room k X.A)(hg:Gl X x)(ha:QAM X 9e1 fs)(hdb:5e5:=by decide)(he:1e8:=by rfl)(hpl:3e1:=by rfl):
  QFM X 7e0 (mFnF F fs):=by
 subst_eqs
 obtain ⟨f,fd,G,m,k,b⟩:=c
 exact fm_call G hr hg m k b ha hdb he hpl
end
section
variable {P:YD}{w:World}{K:W.Frag}{mg:3e3}{base:Heap}{x:Str}{st:Stmt}{N ps:5e9}{k:Nat}{body:13e8}
theorem ZaC (F:Hd.FnAt K mg x st)(S:FnScope N ps 17e0)(hb:∀(kV doc pm:Value) (an:Option Addr) (cdv ct:Value) (us:4e9),us.length=ps.length->bindArgs (W.fnOf x x (defArgs st) (defBody st) 17e0 .none kV doc pm an cdv ct) ⟨us,[]⟩=pure (ps.zip us))
  (hbody:∀(f:Addr) (cdv:Value) (A:Around) (outer:List Env) (s:Shared) (H:Hp) (E:XK),Room k (A.deeper (envOfC x 17e0 s.heap.objs.size f cdv))->
   QBM (cxOf CX0 P w K mg base N x (defScope st) f cdv A outer s H E).nox (defBody st) body):Cal P w K mg base (k + 1) x ps (liftSp K (mDef ps.length (N.length - ps.length) body)):=by
 subst_eqs
 obtain ⟨f,fd,m,F⟩:=F
 exact ⟨f,fd,fn_mk F S (hbody f),m,F.kp,F.binds hb⟩
theorem q_fn_calF (F:Hd.FnAt K mg x st)(S:FnScope N ps 17e0)(hb:∀(kV doc pm:Value) (an:Option Addr) (cdv ct:Value) (us:4e9),us.length=ps.length->bindArgs (W.fnOf x x (defArgs st) (defBody st) 17e0 .none kV doc pm an cdv ct) ⟨us,[]⟩=pure (ps.zip us))
  (hbody:∀(f:Addr) (cdv:Value) (A:Around) (outer:List Env) (s:Shared) (H:Hp) (E:XK),Room k (A.deeper (envOfC x 17e0 s.heap.objs.size f cdv))->
   QBM (cxOf CX0 P w K mg base N x (defScope st) f cdv A outer s H E).nox (defBody st) body):Cal P w K mg base (k + 1) x ps (liftSpF K (mDefF ps.length (N.length - ps.length) body)):=by
 subst_eqs
 obtain ⟨f,fd,m,F⟩:=F
 exact ⟨f,fd,fn_mkF F S (hbody f),m,F.kp,F.binds hb⟩
end
end Pu
namespace K17
open PySem PySem.Spec L2 Pu
open PyProof.Rows hiding St Fr
abbrev B_name_of:PSt->M PF:=(mRet (mSlice 2e1 oNo (oPart 6e6)))
def F_name_of:List SV->M SV:=mDef 1 0 (B_name_of)
abbrev B_by_name:PSt->M PF:=(mRet (mCompD (mItems 2e1) ["letter"] [] 6e5 tOk (mFn F_name_of (aCons 2e1 aNil)) 2e1))
def F_by_name:List SV->M SV:=mDef 1 0 (B_by_name)
abbrev B_followed:PSt->M PF:=(mRet (mTup (aCons (mOp 3e6 2e1 3e4) (aCons (mOp 3e6 2e1 1e9) (aCons (mOp 3e6 2e1 6e6) aNil)))))
def F_followed:List SV->M SV:=mDef 1 0 (B_followed)
abbrev B_asked_by:PSt->M PF:=(mSeq (mSet 1 (mVal (mList (aCons (mOp 3e6 2e1 15e8) aNil)))) (mRet (mIf (mTest (mOp (g2 eqP) (mOp 3e6 2e1 6e6) 3e4)) 4e4 (mOp 4e8 (mVal (mLst (aCons (mFn F_followed (aCons 2e1 aNil)) aNil))) 4e4))))
def F_asked_by:List SV->M SV:=mDef 1 1 (B_asked_by)
abbrev B_gaps:PSt->M PF:=(mSeq (mSet 1 (mFn F_by_name (aCons 2e1 aNil))) (mRetF (mSortSet (mItems 2e1) ["letter","name"] [1] 6e5 (mItems (mFn F_asked_by (aCons 2e1 aNil))) (hName 1) (mTest (mOp (g2 (inTP true)) 4e4 8e1)) 4e4)))
def F_gaps:List SV->M SV:=mDef 1 1 (B_gaps)
def FF_gaps:List SV->M 14e9:=mDefF 1 1 (B_gaps)
abbrev B_is_whole:PSt->M PF:=(mRet (mOp 14e4 (mFn F_gaps (aCons 2e1 aNil)) 8e2))
def F_is_whole:List SV->M SV:=mDef 1 0 (B_is_whole)
abbrev B_l_cell_at:PSt->M PF:=(mSeq (mIfS (mTest (mOp (g2 ltP) 4e4 (mCB 9e5 (aCons 2e1 aNil)))) (mRet (mOp 3e6 2e1 4e4)) mSkip) (mRet 3e4))
def F_l_cell_at:List SV->M SV:=mDef 2 0 (B_l_cell_at)
abbrev B_l_left:PSt->M PF:=(mSeq (mSet 2 (mFn F_l_cell_at (aCons 2e1 (aCons (mOp (g2 modP) 4e4 (mCB (g1 maxH) (aCons 1e9 (aCons (mCB 9e5 (aCons 2e1 aNil)) aNil)))) aNil)))) (mSeq (mSet 3 (mOp (g2 modP) (mOp (g2 mulP) (mOp 4e8 (mOp 4e8 (mOp (g2 modP) 8e1 (mC (.int 2147483629))) (mOp (g2 mulP) (mOp (g2 mulP) (mC (.int 7919)) 4e4) 4e4)) (mC (.int 11))) (mC (.int 48271))) (mC (.int 2147483647)))) (mSeq (mIfS (mTest (mOp (g2 eqP) (mOp (g2 modP) (mFn F_l_cell_at (aCons 2e1 (aCons 3e4 aNil))) 2e9) 3e4)) (mSet 2 3e4) mSkip) (mRetF (mLst (aCons (mOp (g2 modP) 8e1 (mOp (g2 powP) (mC (.int 10)) (mC (.int 40)))) 14e5))))))
def F_l_left:List SV->M SV:=mDef 2 2 (B_l_left)
def FF_l_left:List SV->M 14e9:=mDefF 2 2 (B_l_left)
abbrev B_l_pick:PSt->M PF:=(mSeq (mIfS (mTest (mOp (g2 gtP) (mOp 3e6 2e1 3e4) 3e4)) (mSeq (mSet 2 (mOp (g2 modP) (mOp 3e6 2e1 3e4) 4e4)) (mSeq (mSetIx (mOp (g2 fdivP) (mOp 3e6 2e1 3e4) 4e4) 2e1 3e4) (mRet 8e1))) mSkip) (mSeq (mSetIx (mOp (g2 modP) (mOp 4e8 (mOp (g2 mulP) (mOp 3e6 2e1 1e9) (mC (.int 48271))) (mC (.int 12345))) (mC (.int 2147483647))) 2e1 1e9) (mRet (mOp (g2 modP) (mOp (g2 modP) (mOp (g2 mulP) (mOp 3e6 2e1 1e9) (mOp 3e6 2e1 1e9)) (mC (.int 1999999973))) 4e4))))
def F_l_pick:List SV->M SV:=mDef 2 1 (B_l_pick)
abbrev B_l_words:PSt->M PF:=(mSeq (mSet 2 (mC (.str "abcdefghijklmnopqrstuvwxyz"))) (mSeq (mSet 3 (mFn F_l_pick (aCons 2e1 (aCons (mC (.int 26)) aNil)))) (mSeq (mSet 4 (mOp 3e6 (mVal (mLst (aCons 1e9 (aCons 6e6 (aCons 13e1 (aCons (mC (.int 7)) (aCons (mC (.int 9)) (aCons (mC (.int 11)) aNil)))))))) (mFn F_l_pick (aCons 2e1 (aCons (mC (.int 6)) aNil))))) (mRetF (mComp (mRange1 (aCons 4e4 aNil)) ["_law_k"] [2,3,4] 6e5 tOk (mOp 4e8 (mOp 3e6 4e4 (mOp (g2 modP) (mOp 4e8 8e1 (mOp (g2 mulP) 7e7 2e1)) (mC (.int 26)))) (mOp 3e6 (mVal (mLst (aCons (mC (.str "")) (aCons (mC (.str "zq")) (aCons (mC (.str "x")) (aCons (mC (.str "qqzzx")) aNil)))))) (mOp (g2 modP) (mOp 4e8 8e1 (mOp (g2 mulP) 2e1 2e1)) 15e8))))))))
def F_l_words:List SV->M SV:=mDef 2 3 (B_l_words)
abbrev B_l_event:PSt->M PF:=(mSeq (mAsg 4e4 (hTup (hCons (hName 4) (hCons (hName 5) (hCons (hName 6) hNil))) 3)) (mSeq (mSet 7 (mFn F_l_pick (aCons 2e1 (aCons (mC (.int 6)) aNil)))) (mSeq (mIfS (mTest (mOp (g2 ltP) (mVar 7) 2e9)) (mRet (mTup (aCons (mC (.str "joined")) (aCons (mFn F_l_pick (aCons 2e1 11e3)) aNil)))) mSkip) (mSeq (mIfS (mTest (mOp (g2 ltP) (mVar 7) 15e8)) (mRet (mTup (aCons (mC (.str "said")) (aCons (mFn F_l_pick (aCons 2e1 11e3)) (aCons (mOp 3e6 8e1 (mFn F_l_pick (aCons 2e1 (aCons 15e8 aNil)))) aNil))))) mSkip) (mSeq (mSet 8 (mFn F_l_pick (aCons 2e1 (aCons (mOp 4e8 (mCB 9e5 7e3) 1e9) aNil)))) (mSeq (mSet 9 (mOp 3e6 (mOp 4e8 (mVal (mLst (aCons 17e5 aNil))) (mVar 5)) 19e5)) (mSeq (mSet 10 (mFn F_l_pick (aCons 2e1 (aCons (mCB 9e5 (aCons (mVar 9) aNil)) aNil)))) (mSeq (mIfS (mAndT (mTest (mOp (g2 eqP) 19e5 3e4)) (mTest (mOp (g2 eqP) 18e2 7e7))) (mRet (mTup (aCons (mC (.str "joined")) (aCons (mFn F_l_pick (aCons 2e1 11e3)) aNil)))) mSkip) (mRet (mTup (aCons (mC (.str "did")) (aCons 19e5 (aCons 18e2 (aCons (mFn F_l_pick (aCons 2e1 (aCons (mOp 3e6 (mVar 9) 18e2) aNil))) aNil))))))))))))))
def F_l_event:List SV->M SV:=mDef 4 7 (B_l_event)
abbrev B_l_clauses:PSt->M PF:=(mSeq (mNew 5 (mLst aNil)) (mSeq (mFor (mEnum 5e7) (hTup (hCons (hName 6) (hCons (hName 7) hNil)) 2) (mSeq (mSet 8 (mFn F_l_pick (aCons 2e1 (aCons 4e4 aNil)))) (mSeq (mSet 9 (mOp (g2 modP) (mOp 4e8 (mOp 4e8 19e5 1e9) (mFn F_l_pick (aCons 2e1 (aCons (mOp (g2 subP) 4e4 1e9) aNil)))) 4e4)) (mSeq (mNew 10 (mLst aNil)) (mSeq (mFor (mRange1 (aCons (mOp 3e6 (mVal (mLst (aCons 3e4 (aCons 1e9 (aCons 3e4 (aCons 2e9 (aCons 1e9 (aCons 3e4 (aCons 6e6 10e5))))))))) (mFn F_l_pick (aCons 2e1 10e5))) aNil)) (hName 11) (mSeq (mSet 12 (mFn F_l_event (aCons 2e1 (aCons (mTup (aCons 4e4 (aCons 7e7 5e7))) (aCons 18e3 (aCons 17e5 aNil)))))) (mIfS 10e0 (mDrop (mApp 18e2 (aCons (mVar 12) aNil))) mSkip))) (mSeq (mSet 13 (mTup aNil)) (mSeq (mIfS (mTest (mOp 14e4 7e2 3e4)) (mSeq (mSet 12 (mFn F_l_event (aCons 2e1 (aCons (mTup (aCons 4e4 (aCons 7e7 5e7))) (aCons 18e3 (aCons 17e5 aNil)))))) (mIfS 10e0 (mSet 13 (mTup (aCons (mVar 12) (aCons (mOp 4e8 1e9 17e1) aNil)))) mSkip)) mSkip) (mSeq (mSet 14 (mOp 3e6 (mVal (mLst (aCons (mOp 4e8 1e9 (mFn F_l_pick (aCons 2e1 (aCons (mC (.int 6)) aNil)))) (aCons (mOp 4e8 1e9 (mFn F_l_pick (aCons 2e1 (aCons (mC (.int 40)) aNil)))) aNil)))) 7e2)) (mDrop (mApp (mVar 5) (aCons (mTup (aCons 19e5 (aCons (mVar 9) (aCons (mVar 7) (aCons (mVar 14) (aCons (mCB (g1 tupH) (aCons 18e2 aNil)) (aCons (mVar 13) aNil))))))) aNil))))))))))) (mRet (mCB (g1 tupH) 7e3))))
def F_l_clauses:List SV->M SV:=mDef 5 10 (B_l_clauses)
abbrev B_l_town:PSt->M PF:=(mSeq (mNew 1 (mFnF FF_l_left (aCons 2e1 (aCons 1e9 aNil)))) (mSeq (mSet 2 (mFn F_l_words (aCons 4e4 (aCons (mC (.int 16)) aNil)))) (mSeq (mSet 3 (mOp 3e6 (mVal (mLst (aCons 1e9 (aCons 1e9 (aCons 2e9 15e0))))) 5e3)) (mSeq (mNew 4 (mLst aNil)) (mSeq (mFor (mRange1 14e5) (hName 5) (mSeq (mNew 1 (mFnF FF_l_left (aCons 2e1 (aCons (mOp 4e8 2e9 (mVar 5)) aNil)))) (mSeq (mSet 6 (mOp 3e6 (mVal (mLst (aCons 2e9 (aCons 6e6 (aCons 2e9 (aCons 6e6 (aCons 15e8 (aCons 2e9 (aCons 13e1 10e5))))))))) 5e3)) (mSeq (mSet 7 (mOp 3e6 (mVal (mLst (aCons 1e9 (aCons 2e9 (aCons 1e9 (aCons 6e6 (aCons 2e9 (aCons 15e8 (aCons (mC (.int 7)) (aCons (mC (.int 12)) aNil)))))))))) 5e3)) (mSeq (mSet 8 (mVal (mComp (mRange1 12e9) ["_law_c"] [1] 6e5 tOk (mOp 3e6 (mVal (mLst (aCons 1e9 (aCons 1e9 (aCons 2e9 (aCons 1e9 (aCons 6e6 (aCons 1e9 (aCons 2e9 8e4))))))))) 5e3)))) (mDrop (mApp 18e3 (aCons (mTup (aCons 17e5 (aCons 19e5 (aCons (mFn F_l_pick (aCons 4e4 (aCons 6e6 aNil))) aNil)))) aNil)))))))) (mSeq (mNewK 9) (mSeq (mForE 11e3 (hTup (hCons (hName 5) (hCons (hName 10) hNil)) 2) (mSeq (mNew 1 (mFnF FF_l_left (aCons 2e1 (aCons (mOp 4e8 (mC (.int 9)) (mVar 5)) aNil)))) (mSeq (mSet 11 5e3) (mSeq (mSet 6 (mCB (g1 tupH) (aCons (mVal (mComp (mRange1 (aCons (mOp 3e6 18e2 3e4) aNil)) ["_law_j"] [2,11] 6e5 tOk (mOp 3e6 4e4 (mOp (g2 modP) (mOp 4e8 8e1 2e1) (mC (.int 8)))))) aNil))) (mSeq (mSet 12 (mSlice (mVal (mComp (mRange1 14e5) ["_law_j"] [5] 6e5 (mTest (mOp (g2 neP) 2e1 4e4)) 2e1)) oNo (oPart (mOp 3e6 18e2 2e9)))) (mSeq (mSet 13 (mOp 4e8 (mOp 3e6 (mVal (mLst (aCons (mC (.int 12)) (aCons (mC (.int 30)) (aCons (mC (.int 60)) (aCons (mC (.int 1000)) aNil)))))) (mFn F_l_pick (aCons 4e4 (aCons 15e8 aNil)))) (mFn F_l_pick (aCons 4e4 (aCons 13e1 aNil))))) (mSeq (mSet 7 (mFn F_l_clauses (aCons 4e4 (aCons (mOp 3e6 18e2 3e4) (aCons (mOp 3e6 18e2 1e9) (aCons (mVal (mComp (mItems (mVar 12)) ["_law_j"] [4] 6e5 tOk (mOp 3e6 (mOp 3e6 4e4 2e1) 1e9))) 5e7)))))) (mSetIxK (mTup (aCons 17e5 (aCons (mCB (g1 tupH) (aCons (mVal (mComp (mItems (mVar 12)) ["_law_j"] [2] 6e5 tOk (mOp 3e6 4e4 (mOp 4e8 13e1 2e1)))) aNil)) (aCons (mVar 13) 12e9)))) (mVar 9) (mOp 3e6 8e1 (mOp 4e8 13e1 (mVar 5))))))))))) (mRetQ (aCons (mOp 3e6 (mVal (mLst (aCons 3e4 (aCons 1e9 (aCons 2e9 (aCons 13e1 (aCons (mC (.int 30)) aNil))))))) (mFn F_l_pick (aCons 4e4 (aCons 13e1 aNil)))) (aCons (mVar 9) aNil))))))))))
def F_l_town:List SV->M SV:=mDef 1 13 (B_l_town)
abbrev B_l_deed:PSt->M PF:=(mSeq (mAsg 4e4 (hTup (hCons (hName 2) (hCons (hName 3) (hCons (hName 4) (hCons (hName 5) hNil)))) 4)) (mSeq (mSet 6 (mFn F_l_pick (aCons 2e1 (aCons (mC (.int 16)) aNil)))) (mSeq (mSet 7 (mFn F_l_pick (aCons 2e1 (aCons (mCB 9e5 7e3) aNil)))) (mSeq (mAsg (mOp 3e6 (mVar 5) (mVar 7)) 16e1) (mSeq (mIfS (mTest (mOp (g2 ltP) 17e5 2e9)) (mRet 11e2) mSkip) (mSeq (mSet 14 (mVal (mComp (mItems (mOp 4e8 (mVar 12) (mSlice (mVar 13) oNo (oPart 1e9)))) ["_law_event_here"] [] 6e5 (mTest (mOp (g2 eqP) (mOp 3e6 2e1 3e4) (mC (.str "said")))) 2e1))) (mSeq (mIfS (mAndT (mTest (mOp (g2 ltP) 17e5 13e1)) (mTest (mOp 4e2 (mVar 14) 8e2))) (mRet (mTup (aCons (mC (.str "say")) (aCons (mOp 3e6 (mOp 3e6 (mVar 14) (mFn F_l_pick (aCons 2e1 (aCons (mCB 9e5 (aCons (mVar 14) aNil)) aNil)))) 2e9) aNil)))) mSkip) (mSeq (mIfS (mTest (mOp (g2 ltP) 17e5 (mC (.int 9)))) (mRet (mTup (aCons (mC (.str "do")) (aCons (mVar 7) (aCons (mFn F_l_pick (aCons 2e1 (aCons 18e2 aNil))) aNil))))) mSkip) (mSeq (mIfS (mTest (mOp (g2 ltP) 17e5 (mC (.int 10)))) (mRet (mTup (aCons (mC (.str "free")) 12e9))) mSkip) (mSeq (mIfS (mTest (mOp (g2 ltP) 17e5 (mC (.int 11)))) (mRet (mTup (aCons (mC (.str "ready")) 12e9))) mSkip) (mSeq (mIfS (mTest (mOp (g2 ltP) 17e5 (mC (.int 12)))) (mRet (mTup (aCons (mC (.str "hand")) (aCons (mVar 7) (aCons (mOp 3e6 8e1 (mFn F_l_pick (aCons 2e1 (aCons (mCB 9e5 5e7) aNil)))) aNil))))) mSkip) (mSeq (mIfS (mTest (mOp (g2 ltP) 17e5 (mC (.int 13)))) (mRet (mTup (aCons (mC (.str "quit")) 12e9))) mSkip) (mRet (mOp 3e6 (mVal (mLst (aCons 12e7 (aCons (mTup (aCons (mC (.str "say")) (aCons (mOp 3e6 8e1 3e4) aNil))) (aCons 11e2 aNil))))) (mOp (g2 subP) 17e5 (mC (.int 13)))))))))))))))))
def F_l_deed:List SV->M SV:=mDef 2 13 (B_l_deed)
abbrev B_l_name:PSt->M PF:=(mRet (mSlice 2e1 oNo (oPart 6e6)))
def F_l_name:List SV->M SV:=mDef 1 0 (B_l_name)
abbrev B_l_last:PSt->M PF:=(mSeq (mSet 3 (mVal (mComp (mItems 2e1) 5e8 [1,2] 6e5 (mTest (mOp 14e4 (mSlice 2e1 oNo (oPart 2e9)) (mTup (aCons 4e4 5e7)))) 2e1))) (mRet (mIf (mTest (mOp 4e2 7e7 8e2)) (mOp 3e6 (mOp 3e6 7e7 (mNeg 1e9)) 2e9) 3e4)))
def F_l_last:List SV->M SV:=mDef 3 1 (B_l_last)
abbrev B_l_gots:PSt->M PF:=(mSeq (mSet 4 (mVal (mComp (mItems 4e4) 5e8 [2,3] 6e5 (mTest (mOp 4e2 (mSlice 2e1 oNo (oPart 2e9)) (mTup (aCons 4e4 5e7)))) 2e1))) (mSeq (mNewT 5) (mSeq (mFor (mRange1 (aCons (mOp (g2 mulP) (mOp 3e6 (mVal (mLst (aCons 3e4 (aCons 1e9 (aCons 1e9 15e0))))) (mFn F_l_pick (aCons 2e1 10e5))) (mCB (g1 intH) (aCons (mOp 4e2 18e3 8e2) aNil))) aNil)) (hName 6) (mSeq (mSet 7 (mOp 4e8 (mFn F_l_pick (aCons 2e1 (aCons (mCB (g1 minH) (aCons (mCB 9e5 11e3) (aCons 13e1 aNil))) aNil))) 1e9)) (mSeq (mIfS (mTest (mOp (g2 eqP) (mFn F_l_pick (aCons 2e1 (aCons 15e8 aNil))) 3e4)) (mSet 7 (mOp 4e8 (mFn F_l_pick (aCons 2e1 (aCons (mCB 9e5 11e3) aNil))) 1e9)) mSkip) (mSetIxT (mC 14e8) (mVar 5) (mFn F_l_name (aCons (mOp 3e6 18e3 (mNeg (mVar 7))) aNil)))))) (mRet (mCB (g1 tupH) (aCons (mVal (mSorted3 7e3)) aNil))))))
def F_l_gots:List SV->M SV:=mDef 4 4 (B_l_gots)
abbrev B_l_letter:PSt->M PF:=(mSeq (mSet 4 16e5) (mSeq (mSet 5 (mOp 3e6 18e3 (mFn F_l_pick (aCons 2e1 (aCons (mCB 9e5 11e3) aNil))))) (mSeq (mSet 6 (mOp 3e6 17e2 3e4)) (mSeq (mSet 7 (mOp 3e6 (mOp 4e8 (mOp 4e8 17e5 17e5) (mTup (aCons (mC (.str "bell")) (aCons (mC (.str "stranger")) aNil)))) (mFn F_l_pick (aCons 2e1 (aCons (mOp 4e8 (mOp (g2 mulP) 2e9 (mCB 9e5 (aCons 17e5 aNil))) 2e9) aNil))))) (mSeq (mSet 8 (mVal (mComp (mItems 8e1) 5e8 [7,5] 6e5 (mTest (mOp 14e4 (mSlice 2e1 oNo (oPart 2e9)) (mTup (aCons 4e4 5e7)))) 2e1))) (mSeq (mSet 9 (mFn F_l_last (aCons 8e1 (aCons (mVar 7) 7e3)))) (mSeq (mIfS (mAndT (mTest (mOp 4e2 19e5 8e2)) (mTest (mOp (g2 eqP) (mFn F_l_pick (aCons 2e1 (aCons (mC (.int 12)) aNil))) 3e4))) (mSet 9 (mOp 3e6 (mVal (mLst (aCons 3e4 (aCons (mOp 3e6 (mOp 3e6 19e5 (mFn F_l_pick (aCons 2e1 (aCons (mCB 9e5 (aCons 19e5 aNil)) aNil)))) 2e9) aNil)))) 7e2)) mSkip) (mSeq (mSet 10 (mOp 4e8 (mCB 9e5 (aCons 19e5 aNil)) 1e9)) (mSeq (mIfS (mTest (mOp (g2 eqP) 17e1 3e4)) (mSet 10 (mOp 4e8 (mC (.int 50)) (mOp (g2 mulP) (mC (.int 7)) (mCB 9e5 5e7)))) mSkip) (mSeq (mIfS (mTest (mOp (g2 (inDP false)) 18e2 (mVal (mComp (mItems 19e5) 5e8 [] 6e5 tOk (mOp 3e6 2e1 2e9))))) (mSet 10 (mOp 4e8 (mC (.int 900)) (mOp (g2 mulP) (mC (.int 7)) (mCB 9e5 5e7)))) mSkip) (mSeq (mSet 11 (mIf (mTest (mOp (g2 gtP) (mFn F_l_pick (aCons 2e1 (aCons (mC (.int 14)) aNil))) 3e4)) 7e7 (mCB (g1 maxH) (aCons 3e4 (aCons (mOp (g2 subP) (mOp (g2 subP) 7e7 1e9) 17e1) aNil))))) (mSeq (mSet 12 (mFn F_l_deed (aCons 2e1 (aCons 17e2 aNil)))) (mRet (mTup (aCons (mVar 7) (aCons (mVar 5) (aCons 18e2 (aCons (mVar 9) (aCons (mFn F_l_gots (aCons 2e1 (aCons 8e1 (aCons (mVar 7) 7e3)))) (aCons (mVar 11) (aCons (mVar 12) aNil)))))))))))))))))))))
def F_l_letter:List SV->M SV:=mDef 4 9 (B_l_letter)
abbrev B_l_pile:PSt->M PF:=(mSeq (mNew 3 (mLst aNil)) (mSeq (mSet 4 3e4) (mSeq (mFor (mItems 16e5) (hName 5) (mFor (mItems (mOp 3e6 17e2 3e4)) (hName 6) (mIfS (mTest (mOp (g2 ltP) (mCB 9e5 14e5) 8e1)) (mDrop (mApp 7e7 (aCons (mTup (aCons 17e5 (aCons (mVar 5) (aCons 1e9 (aCons 3e4 (aCons (mTup aNil) (aCons 18e3 (aCons 11e2 aNil)))))))) aNil))) mSkip))) (mSeq (mFor (mRange1 (aCons (mOp (g2 subP) 8e1 (mCB 9e5 14e5)) aNil)) (hName 7) (mSeq (mNew 8 (mFnF FF_l_left (aCons 2e1 (aCons (mOp 4e8 (mC (.int 16)) (mVar 7)) aNil)))) (mSeq (mSet 4 (mOp 4e8 18e3 (mOp 3e6 (mVal (mLst (aCons 3e4 (aCons 1e9 (aCons 1e9 (aCons 2e9 (aCons 6e6 (aCons 1e9 (aCons 3e4 8e4))))))))) (mFn F_l_pick (aCons 19e5 10e5))))) (mDrop (mApp 7e7 (aCons (mFnS F_l_letter [0] (aCons 19e5 (aCons 4e4 (aCons 7e7 11e3)))) aNil)))))) (mRet 7e7)))))
def F_l_pile:List SV->M SV:=mDef 3 6 (B_l_pile)
abbrev B_l_left_out:PSt->M PF:=(mSeq (mSet 2 (mVal (mComp (mItems 4e4) 5e8 [0] 6e5 (mTest (mOp (g2 gtP) (mFn F_l_pick (aCons 4e4 (aCons (mC (.int 7)) aNil))) 3e4)) 2e1))) (mSeq (mSet 2 (mOp 4e8 8e1 (mVal (mComp (mRange1 (aCons (mOp (g2 mulP) (mFn F_l_pick (aCons 2e1 (aCons 6e6 aNil))) (mCB (g1 intH) (aCons (mOp 4e2 8e1 8e2) aNil))) aNil)) ["_law_k"] [2,0] 6e5 tOk (mOp 3e6 4e4 (mFn F_l_pick (aCons 8e1 (aCons (mCB 9e5 (aCons 4e4 aNil)) aNil)))))))) (mSeq (mSet 3 (mFn F_l_pick (aCons 2e1 (aCons (mOp 4e8 (mCB 9e5 5e7) 1e9) aNil)))) (mRet (mOp 4e8 (mSlice 8e1 (oPart 7e7) oNo) (mSlice 8e1 oNo (oPart 7e7)))))))
def F_l_left_out:List SV->M SV:=mDef 2 2 (B_l_left_out)
abbrev B_l_more:PSt->M PF:=(mSeq (mIfS (mOrT (mTest (mOp 14e4 4e4 8e2)) (mTest (mOp (g2 eqP) 7e2 3e4))) (mRet 4e4) mSkip) (mSeq (mSet 2 (mOp 3e6 (mOp 3e6 4e4 3e4) 1e9)) (mSeq (mSet 3 (mVal (mComp (mRange1 8e4) ["_law_k"] [2,0] 6e5 tOk (mTup (aCons (mOp 4e8 (mC (.str "zz")) (mOp 3e6 (mC (.str "abcdefghi")) 2e1)) (aCons 4e4 (aCons (mOp 4e8 1e9 (mFn F_l_pick (aCons 8e1 (aCons (mC (.int 30)) aNil)))) aNil))))))) (mSeq (mSet 4 (mVal (mLst (aCons (mTup (aCons (mC (.str "stranger")) (aCons 8e1 (aCons (mC (.int 6001)) (aCons (mC (.int 6002)) (aCons (mTup aNil) (aCons 6e6 (aCons 12e7 aNil)))))))) (aCons (mTup (aCons (mC (.str "stranger")) (aCons 8e1 (aCons (mC (.int 6002)) (aCons (mC (.int 6001)) (aCons (mTup aNil) (aCons 15e8 (aCons 12e7 aNil)))))))) aNil))))) (mRet (mOp 4e8 (mOp 4e8 4e4 (mVal (mLst (aCons (mTup (aCons (mC (.str "stranger")) (aCons 8e1 (aCons (mC (.int 6003)) (aCons (mC (.int 6004)) (aCons (mCB (g1 tupH) (aCons (mVal (mSorted3 14e5)) aNil)) (aCons 13e1 (aCons 11e2 aNil)))))))) aNil)))) 18e3))))))
def F_l_more:List SV->M SV:=mDef 2 3 (B_l_more)
abbrev B_l_due:PSt->M PF:=(mSeq (mSet 1 (mVal (mComp (mItems 2e1) 5e8 [] 6e5 tOk (mSlice 2e1 oNo (oPart 6e6))))) (mSeq (mNew 2 (mLst aNil)) (mSeq (mFor (mItems 2e1) (hName 3) (mSeq (mSet 4 (mOp 4e8 (mVal (mList (aCons (mOp 3e6 7e7 15e8) aNil))) (mOp (g2 mulLP) (mVal (mLst (aCons (mOp 4e8 (mSlice 7e7 oNo (oPart 2e9)) (mTup (aCons (mOp 3e6 7e7 6e6) aNil))) aNil))) (mCB (g1 intH) (aCons (mOp 4e2 (mOp 3e6 7e7 6e6) 3e4) aNil))))) (mDrop (mExt 8e1 (aCons (mVal (mComp (mItems 18e3) ["_law_name_here"] [1,2] 6e5 (mAndT (mTest (mOp (g2 (inDP true)) 2e1 4e4)) (mTest (mOp (g2 (inDP true)) 2e1 8e1))) 2e1)) aNil))))) (mRetF (mSorted3 5e7)))))
def F_l_due:List SV->M SV:=mDef 1 4 (B_l_due)
abbrev B_l_filled:PSt->M PF:=(mSeq (mSet 3 (mVal (mComp (mItems 8e1) ["_law_name_here"] [] 6e5 tOk (mOp 4e8 2e1 (mTup (aCons 3e4 (aCons (mTup aNil) (aCons 3e4 (aCons 12e7 aNil))))))))) (mSeq (mIfS (mOrT (mTest (mOp (g2 isntBP) (mFn F_is_whole (aCons (mOp 4e8 4e4 7e7) aNil)) (mC 14e8))) (mTest (mOp 4e2 (mFn F_gaps (aCons (mOp 4e8 7e7 4e4) aNil)) 8e2))) (mRet (mC (.bl false))) mSkip) (mSeq (mIfS (mTest (mOp 14e4 8e1 8e2)) (mRet (mC 14e8)) mSkip) (mSeq (mSet 4 (mFn F_l_pick (aCons 2e1 (aCons (mCB 9e5 5e7) aNil)))) (mRet (mOp 14e4 (mFn F_gaps (aCons (mOp 4e8 (mOp 4e8 4e4 (mSlice 7e7 oNo (oPart 18e3))) (mSlice 7e7 (oPart (mOp 4e8 18e3 1e9)) oNo)) aNil)) (mVal (mLst (aCons (mOp 3e6 8e1 18e3) aNil)))))))))
def F_l_filled:List SV->M SV:=mDef 3 2 (B_l_filled)
abbrev B_law:PSt->M PF:=(mSeq (mIfS (mTest (mOp 4e2 (mFn F_gaps (aCons 8e2 aNil)) 8e2)) (mRet (mC (.bl false))) mSkip) (mSeq (mSet 1 (mFn F_l_town (aCons 2e1 aNil))) (mSeq (mSet 2 (mFn F_l_pile (aCons 2e1 (aCons 4e4 (aCons (mFnN F_l_pick (mFnF FF_l_left (aCons 2e1 (aCons (mC (.int 50)) aNil))) (aCons (mC (.int 33)) aNil)) aNil))))) (mSeq (mFor (mRange2 (aCons 1e9 (aCons (mOp 4e8 2e9 (mCB 9e5 (aCons (mSlice 2e1 (oPart 1e9) (oPart (mC (.int 10)))) aNil))) aNil))) (hName 3) (mSeq (mNew 4 (mFnF FF_l_left (aCons 2e1 (aCons (mOp 4e8 (mC (.int 51)) 7e7) aNil)))) (mSeq (mSet 5 (mFn F_l_more (aCons 18e3 (aCons (mFn F_l_left_out (aCons 18e3 5e7)) aNil)))) (mSeq (mSet 6 (mVal (mList 7e3))) (mSeq (mSet 7 (mFn F_l_due 7e3)) (mSeq (mNew 8 (mFnF FF_gaps 7e3)) (mSeq (mIfS (mOrT (mNotT (mTru (mCB (g1 isiH) (aCons 19e5 (aCons (mC (.ty "list")) aNil))))) (mTest (mOp 4e2 19e5 (mVar 7)))) (mRet (mC (.bl false))) mSkip) (mSeq (mDrop (mApp 19e5 (aCons (mTup (aCons (mC (.str "a")) (aCons (mC (.str "a")) (aCons 1e9 aNil)))) aNil))) (mIfS (mOrT (mTest (mOp 4e2 (mFn F_gaps 7e3) (mVar 7))) (mOrT (mTest (mOp 4e2 (mVar 5) 17e5)) (mNotT (mTru (mFn F_l_filled (aCons 18e3 (aCons (mVar 5) 12e9))))))) (mRet (mC (.bl false))) mSkip))))))))) (mRet (mC 14e8))))))
def F_law:List SV->M SV:=mDef 1 8 (B_law)
def top (i:Nat):Stmt:=PySem.Challenge.pw_holdword_k17_gaps.main.body.getD i (.Pass ⟨0,0,0,0⟩)
structure Txt (mg:Str->Option Value):Prop where
 b_enumerate:mg "enumerate"=none
 b_int:mg "int"=none
 b_isinstance:mg "isinstance"=none
 b_len:mg "len"=none
 b_list:mg "list"=none
 b_max:mg "max"=none
 b_min:mg "min"=none
 b_range:mg "range"=none
 b_sorted:mg "sorted"=none
 b_tuple:mg "tuple"=none
section
variable {P:YD}{w:World}{K:W.Frag}{mg:3e3}{base:Heap}
abbrev ZcZ:Stmt:=top 1
theorem sc_name_of:FnScope ["letter"] ["letter"] (defScope ZcZ):=1e3
theorem ln0 {P:List Value->Prop}(h:P []):∀us:List Value,us.length=0->P us:=by
 intro us hl
 cases us with
 | nil=>exact h
 | cons a r=>simp at hl
theorem ln1 {P:List Value->Prop}(h:∀a,P [a]):∀us:List Value,us.length=1->P us:=by
 intro us hl
 cases us with
 | nil=>simp at hl
 | cons a r=>exact ln0 (P:=fun r=>P (a::r)) (h a) r (by simpa using hl)
theorem ln2 {P:List Value->Prop}(h:∀a b,P [a,b]):∀us:List Value,us.length=2->P us:=by
 intro us hl
 cases us with
 | nil=>simp at hl
 | cons a r=>exact ln1 (P:=fun r=>P (a::r)) (h a) r (by simpa using hl)
theorem ln3 {P:List Value->Prop}(h:∀a b c,P [a,b,c]):∀us:List Value,us.length=3->P us:=by
 intro us hl
 cases us with
 | nil=>simp at hl
 | cons a r=>exact ln2 (P:=fun r=>P (a::r)) (h a) r (by simpa using hl)
theorem ln4 {P:List Value->Prop}(h:∀a b c d,P [a,b,c,d]):∀us:List Value,us.length=4->P us:=by
 intro us hl
 cases us with
 | nil=>simp at hl
 | cons a r=>exact ln3 (P:=fun r=>P (a::r)) (h a) r (by simpa using hl)
theorem ln5 {P:List Value->Prop}(h:∀a b c d e,P [a,b,c,d,e]):∀us:List Value,us.length=5->P us:=by
 intro us hl
 cases us with
 | nil=>simp at hl
 | cons a r=>exact ln4 (P:=fun r=>P (a::r)) (h a) r (by simpa using hl)
theorem ok_name_of (Fn:Hd.FnAt K mg "name_of" ZcZ)(T:Txt mg):Cal P w K mg base 1 "name_of" ["letter"] (liftSp K (F_name_of)):=
 ZaC Fn sc_name_of 9e8 fun _ cdv A outer s H E hr=>(@Zai _ _ _ (@Zau _ _ _ _ (ZaG (Zab 0) ZaT (ZaK Zac))))
end
section
variable {P:YD}{w:World}{K:W.Frag}{mg:3e3}{base:Heap}
abbrev Zc2:Stmt:=top 3
theorem sc_by_name:FnScope ["pile"] ["pile"] (defScope Zc2):=1e3
theorem ok_by_name (Fn:Hd.FnAt K mg "by_name" Zc2)(T:Txt mg)(c_name_of:Cal P w K mg base 1 "name_of" ["letter"] (liftSp K F_name_of)):Cal P w K mg base 2 "by_name" ["pile"] (liftSp K (F_by_name)):=
 ZaC Fn sc_by_name 9e8 fun _ cdv A outer s H E hr=>(@Zai _ _ _ (@Zau _ _ _ _ (q_em_compD (vs:=["letter"]) (fs:=[]) (fr:=[]) 3e0 rfl 13e5 (ZaI (Zab 0)) (fun _ _ _ _ _=>(Zak (i:=0) (show ((["letter"]:List Str)++([]:List Str)).Nodup by decide +kernel) rfl 2e5)) 15e5 (fun _ _ _ _ _=>(Zaf c_name_of 3e7 1e0 10e2)) 19e3)))
end
section
variable {P:YD}{w:World}{K:W.Frag}{mg:3e3}{base:Heap}
abbrev Zcs:Stmt:=top 4
theorem sc_followed:FnScope ["letter"] ["letter"] (defScope Zcs):=1e3
theorem ok_followed (Fn:Hd.FnAt K mg "followed" Zcs)(T:Txt mg):Cal P w K mg base 1 "followed" ["letter"] (liftSp K (F_followed)):=
 ZaC Fn sc_followed 9e8 fun _ cdv A outer s H E hr=>(@Zai _ _ _ (@Zau _ _ _ _ (Zaq (@Zaa _ _ _ _ _ 13e0 (@Zaa _ _ _ _ _ 13e0 (@Zaa _ _ _ _ _ 13e0 Zad 1e0) 1e0) 1e0))))
end
section
variable {P:YD}{w:World}{K:W.Frag}{mg:3e3}{base:Heap}
abbrev Zct:Stmt:=top 5
theorem ZcY:FnScope ["letter","gots"] ["letter"] (defScope Zct):=1e3
theorem ok_asked_by (Fn:Hd.FnAt K mg "asked_by" Zct)(T:Txt mg)(c_followed:Cal P w K mg base 1 "followed" ["letter"] (liftSp K F_followed)):Cal P w K mg base 2 "asked_by" ["letter"] (liftSp K (F_asked_by)):=
 ZaC Fn ZcY 9e8 fun _ cdv A outer s H E hr=>(@Zae _ _ _ _ _ (Zaj (i:=1) ZcY.nd rfl 2e5 (Zat (Zcu 1e0 T.b_list 1e0 (@Zaa _ _ _ _ _ 13e0 Zad 1e0)))) (@Zai _ _ _ (@Zau _ _ _ _ (q_em_if (Zao Zdz ZdA.r 13e0 Zac 7e8) (Zab 1) (Zan (Zat (Zas (@Zaa _ _ _ _ _ (Zaf c_followed 3e7 1e0 10e2) Zad 1e0))) (Zab 1))))))
end
section
variable {P:YD}{w:World}{K:W.Frag}{mg:3e3}{base:Heap}
abbrev s_gaps:Stmt:=top 6
theorem sc_gaps:FnScope ["pile","letters"] ["pile"] (defScope s_gaps):=1e3
theorem ok_gaps (Fn:Hd.FnAt K mg "gaps" s_gaps)(T:Txt mg)(c_by_name:Cal P w K mg base 2 "by_name" ["pile"] (liftSp K F_by_name))(c_asked_by:Cal P w K mg base 2 "asked_by" ["letter"] (liftSp K F_asked_by)):Cal P w K mg base 3 "gaps" ["pile"] (liftSp K (F_gaps)):=
 ZaC Fn sc_gaps 9e8 fun _ cdv A outer s H E hr=>(@Zae _ _ _ _ _ (Zaj (i:=1) sc_gaps.nd rfl 15e2 (Zaf c_by_name 3e7 1e0 10e2)) (@Zai _ _ _ (Zbu (ZcD (vs:=["letter","name"]) (fs:=["letters"]) (fr:=[1]) 3e0 rfl 13e5 1e0 T.b_sorted 1e0 (ZaI (Zab 0)) (fun _ _ _ _ _=>(Zak (i:=0) (show ((["letter","name"]:List Str)++(["letters"]:List Str)).Nodup by decide +kernel) rfl 2e5)) (fun _ _ _ _ _=>(ZaI (Zaf c_asked_by 3e7 1e0 10e2))) (fun _ _ _ _ _=>(Zak (i:=1) (show ((["letter","name"]:List Str)++(["letters"]:List Str)).Nodup by decide +kernel) rfl 2e5)) (fun _ _ _ _ _=>(Zbe (Zao (op_notInT 13e5) inT_ok.r (Zab 1) (Zab 2) rfl))) (fun _ _ _ _ _=>(Zab 1))))))
theorem okF_gaps (Fn:Hd.FnAt K mg "gaps" s_gaps)(T:Txt mg)(c_by_name:Cal P w K mg base 2 "by_name" ["pile"] (liftSp K F_by_name))(c_asked_by:Cal P w K mg base 2 "asked_by" ["letter"] (liftSp K F_asked_by)):Cal P w K mg base 3 "gaps" ["pile"] (liftSpF K (FF_gaps)):=
 q_fn_calF Fn sc_gaps 9e8 fun _ cdv A outer s H E hr=>(@Zae _ _ _ _ _ (Zaj (i:=1) sc_gaps.nd rfl 15e2 (Zaf c_by_name 3e7 1e0 10e2)) (@Zai _ _ _ (Zbu (ZcD (vs:=["letter","name"]) (fs:=["letters"]) (fr:=[1]) 3e0 rfl 13e5 1e0 T.b_sorted 1e0 (ZaI (Zab 0)) (fun _ _ _ _ _=>(Zak (i:=0) (show ((["letter","name"]:List Str)++(["letters"]:List Str)).Nodup by decide +kernel) rfl 2e5)) (fun _ _ _ _ _=>(ZaI (Zaf c_asked_by 3e7 1e0 10e2))) (fun _ _ _ _ _=>(Zak (i:=1) (show ((["letter","name"]:List Str)++(["letters"]:List Str)).Nodup by decide +kernel) rfl 2e5)) (fun _ _ _ _ _=>(Zbe (Zao (op_notInT 13e5) inT_ok.r (Zab 1) (Zab 2) rfl))) (fun _ _ _ _ _=>(Zab 1))))))
end
section
variable {P:YD}{w:World}{K:W.Frag}{mg:3e3}{base:Heap}
abbrev Zcr:Stmt:=top 7
theorem sc_is_whole:FnScope ["pile"] ["pile"] (defScope Zcr):=1e3
theorem ok_is_whole (Fn:Hd.FnAt K mg "is_whole" Zcr)(T:Txt mg)(c_gaps:Cal P w K mg base 3 "gaps" ["pile"] (liftSp K F_gaps)):Cal P w K mg base 4 "is_whole" ["pile"] (liftSp K (F_is_whole)):=
 ZaC Fn sc_is_whole 9e8 fun _ cdv A outer s H E hr=>(@Zai _ _ _ (@Zau _ _ _ _ (Zcb (Zc8 13e5) ZaV.r (Zaf c_gaps 3e7 1e0 10e2) (Zat (Zas Zad)) 7e8)))
end
section
variable {P:YD}{w:World}{K:W.Frag}{mg:3e3}{base:Heap}
abbrev ZbY:Stmt:=top 9
theorem sc_l_cell_at:FnScope 11e6 11e6 (defScope ZbY):=1e3
theorem ok_l_cell_at (Fn:Hd.FnAt K mg "_law_cell_at" ZbY)(T:Txt mg):Cal P w K mg base 1 "_law_cell_at" 11e6 (liftSp K (F_l_cell_at)):=
 ZaC Fn sc_l_cell_at 12e4 fun _ cdv A outer s H E hr=>(@Zae _ _ _ _ _ (@ZaD _ _ _ _ _ _ _ _ (Zao Zc7 Zdb.r (Zab 1) (ZaE 1e0 T.b_len 10e2) 7e8) (@Zai _ _ _ (@Zau _ _ _ _ (Zah 6e9 (Zab 0) (Zab 1)))) Zax) (@Zai _ _ _ (@Zau _ _ _ _ Zac)))
end
section
variable {P:YD}{w:World}{K:W.Frag}{mg:3e3}{base:Heap}
abbrev ZcJ:Stmt:=top 10
theorem Zba:FnScope ["_law_script","_law_k","_law_cell","_law_seed"] 11e6 (defScope ZcJ):=1e3
theorem ok_l_left (Fn:Hd.FnAt K mg "_law_left" ZcJ)(T:Txt mg)(c__law_cell_at:Cal P w K mg base 1 "_law_cell_at" 11e6 (liftSp K F_l_cell_at)):Cal P w K mg base 2 "_law_left" 11e6 (liftSp K (F_l_left)):=
 ZaC Fn Zba 12e4 fun _ cdv A outer s H E hr=>(@Zae _ _ _ _ _ (Zaj (i:=2) Zba.nd rfl 2e5 (Zaf c__law_cell_at 3e7 1e0 (@Zaa _ _ _ _ _ (Zab 0) (@Zaa _ _ _ _ _ (ZaM (Zab 1) (q_em_max rfl 1e0 T.b_max 1e0 (@Zaa _ _ _ _ _ Zac (@Zaa _ _ _ _ _ (ZaE 1e0 T.b_len 10e2) Zad 1e0) 1e0))) Zad 1e0) 1e0))) (@Zae _ _ _ _ _ (Zaj (i:=3) Zba.nd rfl 2e5 (ZaM (ZaU (Zan (Zan (ZaM (Zab 2) Zac) (ZaU (ZaU Zac (Zab 1)) (Zab 1))) Zac) Zac) Zac)) (@Zae _ _ _ _ _ (@ZaD _ _ _ _ _ _ _ _ (Zao Zdz ZdA.r (ZaM (Zaf c__law_cell_at 3e7 1e0 (@Zaa _ _ _ _ _ (Zab 0) 5e0 1e0)) Zac) Zac 7e8) (@Zai _ _ _ (Zaj (i:=2) Zba.nd rfl 2e5 Zac)) Zax) (@Zai _ _ _ (Zbu (Zas (@Zaa _ _ _ _ _ (ZaM (Zab 2) (q_em_pow Zac Zac)) 19e0 1e0)))))))
theorem okF_l_left (Fn:Hd.FnAt K mg "_law_left" ZcJ)(T:Txt mg)(c__law_cell_at:Cal P w K mg base 1 "_law_cell_at" 11e6 (liftSp K F_l_cell_at)):Cal P w K mg base 2 "_law_left" 11e6 (liftSpF K (FF_l_left)):=
 q_fn_calF Fn Zba 12e4 fun _ cdv A outer s H E hr=>(@Zae _ _ _ _ _ (Zaj (i:=2) Zba.nd rfl 2e5 (Zaf c__law_cell_at 3e7 1e0 (@Zaa _ _ _ _ _ (Zab 0) (@Zaa _ _ _ _ _ (ZaM (Zab 1) (q_em_max rfl 1e0 T.b_max 1e0 (@Zaa _ _ _ _ _ Zac (@Zaa _ _ _ _ _ (ZaE 1e0 T.b_len 10e2) Zad 1e0) 1e0))) Zad 1e0) 1e0))) (@Zae _ _ _ _ _ (Zaj (i:=3) Zba.nd rfl 2e5 (ZaM (ZaU (Zan (Zan (ZaM (Zab 2) Zac) (ZaU (ZaU Zac (Zab 1)) (Zab 1))) Zac) Zac) Zac)) (@Zae _ _ _ _ _ (@ZaD _ _ _ _ _ _ _ _ (Zao Zdz ZdA.r (ZaM (Zaf c__law_cell_at 3e7 1e0 (@Zaa _ _ _ _ _ (Zab 0) 5e0 1e0)) Zac) Zac 7e8) (@Zai _ _ _ (Zaj (i:=2) Zba.nd rfl 2e5 Zac)) Zax) (@Zai _ _ _ (Zbu (Zas (@Zaa _ _ _ _ _ (ZaM (Zab 2) (q_em_pow Zac Zac)) 19e0 1e0)))))))
end
section
variable {P:YD}{w:World}{K:W.Frag}{mg:3e3}{base:Heap}
abbrev s_l_pick:Stmt:=top 11
theorem sc_l_pick:FnScope ["_law_left_here","_law_many","_law_digit"] ["_law_left_here","_law_many"] (defScope s_l_pick):=1e3
theorem ok_l_pick (Fn:Hd.FnAt K mg "_law_pick" s_l_pick)(T:Txt mg):Cal P w K mg base 1 "_law_pick" ["_law_left_here","_law_many"] (liftSp K (F_l_pick)):=
 ZaC Fn sc_l_pick 12e4 fun _ cdv A outer s H E hr=>(@Zae _ _ _ _ _ (@ZaD _ _ _ _ _ _ _ _ (Zao op_gt gt_ok.r 13e0 Zac 7e8) (@Zae _ _ _ _ _ (Zaj (i:=2) sc_l_pick.nd rfl 2e5 (ZaM 13e0 (Zab 1))) (@Zae _ _ _ _ _ (ZdG (q_em_fdiv 13e0 (Zab 1)) (Zab 0) Zac) (@Zai _ _ _ (@Zau _ _ _ _ (Zab 2))))) Zax) (@Zae _ _ _ _ _ (ZdG (ZaM (Zan (ZaU 13e0 Zac) Zac) Zac) (Zab 0) Zac) (@Zai _ _ _ (@Zau _ _ _ _ (ZaM (ZaM (ZaU 13e0 13e0) Zac) (Zab 1))))))
end
section
variable {P:YD}{w:World}{K:W.Frag}{mg:3e3}{base:Heap}
abbrev Zc0:Stmt:=top 12
theorem ZbR:FnScope ["_law_left_here","_law_many","_law_letters","_law_first","_law_step"] ["_law_left_here","_law_many"] (defScope Zc0):=1e3
theorem ok_l_words (Fn:Hd.FnAt K mg "_law_words" Zc0)(T:Txt mg)(c__law_pick:3e5):Cal P w K mg base 2 "_law_words" ["_law_left_here","_law_many"] (liftSp K (F_l_words)):=
 ZaC Fn ZbR 12e4 fun _ cdv A outer s H E hr=>(@Zae _ _ _ _ _ (Zaj (i:=2) ZbR.nd rfl 15e2 Zav) (@Zae _ _ _ _ _ (Zaj (i:=3) ZbR.nd rfl 15e2 1e1) (@Zae _ _ _ _ _ (Zaj (i:=4) ZbR.nd rfl 15e2 (Zah 6e9 (Zat (Zas (@Zaa _ _ _ _ _ Zac (@Zaa _ _ _ _ _ Zac (@Zaa _ _ _ _ _ Zac (@Zaa _ _ _ _ _ Zac (@Zaa _ _ _ _ _ Zac 5e0 1e0) 1e0) 1e0) 1e0) 1e0))) 1e1)) (@Zai _ _ _ (Zbu (Za0 (vs:=["_law_k"]) (fs:=["_law_letters","_law_first","_law_step"]) (fr:=[2,3,4]) 3e0 rfl (ZaR 1e0 T.b_range (@Zaa _ _ _ _ _ (Zab 1) Zad 1e0)) (fun _ _ _ _ _=>(Zak (i:=0) (show ((["_law_k"]:List Str)++(["_law_letters","_law_first","_law_step"]:List Str)).Nodup by decide +kernel) rfl 2e5)) 15e5 (fun _ _ _ _ _=>(Zan (Zah 6e9 (Zab 1) (ZaM (Zan (Zab 2) (ZaU (Zab 3) (Zab 0))) Zac)) (Zah 6e9 (Zat (Zas (@Zaa _ _ _ _ _ Zav (@Zaa _ _ _ _ _ Zav (@Zaa _ _ _ _ _ Zav (@Zaa _ _ _ _ _ Zav Zad 1e0) 1e0) 1e0) 1e0))) (ZaM (Zan (Zab 2) (ZaU (Zab 0) (Zab 0))) Zac))))))))))
end
section
variable {P:YD}{w:World}{K:W.Frag}{mg:3e3}{base:Heap}
abbrev Zc1:Stmt:=top 13
theorem Za1:FnScope ["_law_left_here","_law_deal","_law_named","_law_own","_law_houses","_law_others","_law_clauses_here","_law_way","_law_k","_law_sizes","_law_c"] ["_law_left_here","_law_deal","_law_named","_law_own"] (defScope Zc1):=1e3
theorem ok_l_event (Fn:Hd.FnAt K mg "_law_event" Zc1)(T:Txt mg)(c__law_pick:3e5):Cal P w K mg base 2 "_law_event" ["_law_left_here","_law_deal","_law_named","_law_own"] (liftSp K (F_l_event)):=
 ZaC Fn Za1 (fun _ _ _ _ _ _=>ln4 fun _ _ _ _=>rfl) fun _ cdv A outer s H E hr=>(@Zae _ _ _ _ _ (q_sm_asg (Zab 1) (Zb9 rfl (ZaA (Zak (i:=4) Za1.nd rfl 2e5) (ZaA (Zak (i:=5) Za1.nd rfl 2e5) (ZaA (Zak (i:=6) Za1.nd rfl 2e5) ZbJ))))) (@Zae _ _ _ _ _ (Zaj (i:=7) Za1.nd rfl 2e5 1e1) (@Zae _ _ _ _ _ (@ZaD _ _ _ _ _ _ _ _ (Zao Zc7 Zdb.r (Zab 7) Zac 7e8) (@Zai _ _ _ (@Zau _ _ _ _ (Zaq (@Zaa _ _ _ _ _ Zav (@Zaa _ _ _ _ _ (Zaf c__law_pick 3e7 1e0 (@Zaa _ _ _ _ _ (Zab 0) 15e9 1e0)) Zad 1e0) 1e0)))) Zax) (@Zae _ _ _ _ _ (@ZaD _ _ _ _ _ _ _ _ (Zao Zc7 Zdb.r (Zab 7) Zac 7e8) (@Zai _ _ _ (@Zau _ _ _ _ (Zaq (@Zaa _ _ _ _ _ Zav (@Zaa _ _ _ _ _ (Zaf c__law_pick 3e7 1e0 (@Zaa _ _ _ _ _ (Zab 0) 15e9 1e0)) (@Zaa _ _ _ _ _ (Zah 6e9 (Zab 2) 1e1) Zad 1e0) 1e0) 1e0)))) Zax) (@Zae _ _ _ _ _ (Zaj (i:=8) Za1.nd rfl 2e5 (Zaf c__law_pick 3e7 1e0 (@Zaa _ _ _ _ _ (Zab 0) (@Zaa _ _ _ _ _ (Zan (ZaE 1e0 T.b_len 11e4) Zac) Zad 1e0) 1e0))) (@Zae _ _ _ _ _ (Zaj (i:=9) Za1.nd rfl 2e5 (Zah 6e9 (Zan (Zat (Zas (@Zaa _ _ _ _ _ (Zab 6) Zad 1e0))) (Zab 5)) (Zab 8))) (@Zae _ _ _ _ _ (Zaj (i:=10) Za1.nd rfl 2e5 (Zaf c__law_pick 3e7 1e0 (@Zaa _ _ _ _ _ (Zab 0) (@Zaa _ _ _ _ _ (ZaE 1e0 T.b_len (@Zaa _ _ _ _ _ (Zab 9) Zad 1e0)) Zad 1e0) 1e0))) (@Zae _ _ _ _ _ (@ZaD _ _ _ _ _ _ _ _ (ZcE (ZcL (Zao Zdz ZdA.r (Zab 8) Zac 7e8) (Zb8 (Zao Zdz ZdA.r (Zab 10) (Zab 3) 7e8)))) (@Zai _ _ _ (@Zau _ _ _ _ (Zaq (@Zaa _ _ _ _ _ Zav (@Zaa _ _ _ _ _ (Zaf c__law_pick 3e7 1e0 (@Zaa _ _ _ _ _ (Zab 0) 15e9 1e0)) Zad 1e0) 1e0)))) Zax) (@Zai _ _ _ (@Zau _ _ _ _ (Zaq (@Zaa _ _ _ _ _ Zav (@Zaa _ _ _ _ _ (Zab 8) (@Zaa _ _ _ _ _ (Zab 10) (@Zaa _ _ _ _ _ (Zaf c__law_pick 3e7 1e0 (@Zaa _ _ _ _ _ (Zab 0) (@Zaa _ _ _ _ _ (Zah 6e9 (Zab 9) (Zab 10)) Zad 1e0) 1e0)) Zad 1e0) 1e0) 1e0) 1e0))))))))))))
end
section
variable {P:YD}{w:World}{K:W.Frag}{mg:3e3}{base:Heap}
abbrev ZbX:Stmt:=top 14
theorem Zaz:FnScope ["_law_left_here","_law_houses","_law_sizes","_law_others","_law_named","_law_clauses_here","_law_c","_law_parts","_law_debtor","_law_creditor","_law_events","_law_k","_law_event_here","_law_leave","_law_within"] ["_law_left_here","_law_houses","_law_sizes","_law_others","_law_named"] (defScope ZbX):=1e3
theorem ok_l_clauses (Fn:Hd.FnAt K mg "_law_clauses" ZbX)(T:Txt mg)(c__law_pick:3e5)(c__law_event:Cal P w K mg base 2 "_law_event" ["_law_left_here","_law_deal","_law_named","_law_own"] (liftSp K F_l_event)):Cal P w K mg base 3 "_law_clauses" ["_law_left_here","_law_houses","_law_sizes","_law_others","_law_named"] (liftSp K (F_l_clauses)):=
 ZaC Fn Zaz (fun _ _ _ _ _ _=>ln5 fun _ _ _ _ _=>rfl) fun _ cdv A outer s H E hr=>(@Zae _ _ _ _ _ (Za3 (i:=5) Zaz.nd rfl 2e5 (Zas Zad)) (@Zae _ _ _ _ _ (Zbf XO rfl (q_im_enum 1e0 T.b_enumerate 7e5) (Zb9 rfl (ZaA (Zak (i:=6) Zaz.nd rfl 2e5) (ZaA (Zak (i:=7) Zaz.nd rfl 2e5) ZbJ))) (@Zae _ _ _ _ _ (Zaj (i:=8) Zaz.nd rfl 2e5 (Zaf c__law_pick 3e7 1e0 (@Zaa _ _ _ _ _ (Zab 0) (@Zaa _ _ _ _ _ (Zab 1) Zad 1e0) 1e0))) (@Zae _ _ _ _ _ (Zaj (i:=9) Zaz.nd rfl 2e5 (ZaM (Zan (Zan (Zab 8) Zac) (Zaf c__law_pick 3e7 1e0 (@Zaa _ _ _ _ _ (Zab 0) (@Zaa _ _ _ _ _ (Zca (Zab 1) Zac) Zad 1e0) 1e0))) (Zab 1))) (@Zae _ _ _ _ _ (Za3 (i:=10) Zaz.nd rfl 2e5 (Zas Zad)) (@Zae _ _ _ _ _ (Zbf XO rfl (ZaR 1e0 T.b_range (@Zaa _ _ _ _ _ (Zah 6e9 2e6 1e1) Zad 1e0)) (Zak (i:=11) Zaz.nd rfl 2e5) (@Zae _ _ _ _ _ (Zaj (i:=12) Zaz.nd rfl 2e5 (Zaf c__law_event 3e7 1e0 (@Zaa _ _ _ _ _ (Zab 0) (@Zaa _ _ _ _ _ (Zaq (@Zaa _ _ _ _ _ (Zab 1) (@Zaa _ _ _ _ _ (Zab 3) 7e5 1e0) 1e0)) (@Zaa _ _ _ _ _ (Zab 4) (@Zaa _ _ _ _ _ (Zab 6) Zad 1e0) 1e0) 1e0) 1e0))) (@Zai _ _ _ (@ZaD _ _ _ _ _ _ _ _ (Zao (Zcd 13e5) inD_ok.r (Zab 12) (Zab 10) rfl) (@Zai _ _ _ (Zbg (Za6 (Zab 10) (@Zaa _ _ _ _ _ (Zab 12) Zad 1e0)))) Zax)))) (@Zae _ _ _ _ _ (Zaj (i:=13) Zaz.nd rfl 2e5 (Zaq Zad)) (@Zae _ _ _ _ _ (@ZaD _ _ _ _ _ _ _ _ (Zao (Zc8 13e5) ZaV.r 1e1 Zac 7e8) (@Zae _ _ _ _ _ (Zaj (i:=12) Zaz.nd rfl 2e5 (Zaf c__law_event 3e7 1e0 (@Zaa _ _ _ _ _ (Zab 0) (@Zaa _ _ _ _ _ (Zaq (@Zaa _ _ _ _ _ (Zab 1) (@Zaa _ _ _ _ _ (Zab 3) 7e5 1e0) 1e0)) (@Zaa _ _ _ _ _ (Zab 4) (@Zaa _ _ _ _ _ (Zab 6) Zad 1e0) 1e0) 1e0) 1e0))) (@Zai _ _ _ (@ZaD _ _ _ _ _ _ _ _ (Zao (Zcd 13e5) inD_ok.r (Zab 12) (Zab 10) rfl) (@Zai _ _ _ (Zaj (i:=13) Zaz.nd rfl 2e5 (Zaq (@Zaa _ _ _ _ _ (Zab 12) (@Zaa _ _ _ _ _ (Zan Zac 1e1) Zad 1e0) 1e0)))) Zax))) Zax) (@Zae _ _ _ _ _ (Zaj (i:=14) Zaz.nd rfl 2e5 (Zah 6e9 (Zat (Zas (@Zaa _ _ _ _ _ (Zan Zac 1e1) (@Zaa _ _ _ _ _ (Zan Zac 1e1) Zad 1e0) 1e0))) 1e1)) (@Zai _ _ _ (Zbg (Za6 (Zab 5) (@Zaa _ _ _ _ _ (Zaq (@Zaa _ _ _ _ _ (Zab 8) (@Zaa _ _ _ _ _ (Zab 9) (@Zaa _ _ _ _ _ (Zab 7) (@Zaa _ _ _ _ _ (Zab 14) (@Zaa _ _ _ _ _ (Zbv 1e0 T.b_tuple 1e0 (@Zaa _ _ _ _ _ (Zab 10) Zad 1e0)) (@Zaa _ _ _ _ _ (Zab 13) Zad 1e0) 1e0) 1e0) 1e0) 1e0) 1e0)) Zad 1e0)))))))))))) (@Zai _ _ _ (@Zau _ _ _ _ (Zbv 1e0 T.b_tuple 1e0 11e4)))))
end
section
variable {P:YD}{w:World}{K:W.Frag}{mg:3e3}{base:Heap}
abbrev s_l_town:Stmt:=top 15
theorem ZaB:FnScope ["_law_script","_law_left_here","_law_words_here","_law_many","_law_shapes","_law_k","_law_houses","_law_clauses_here","_law_sizes","_law_deals","_law_shape","_law_start","_law_others","_law_close"] ["_law_script"] (defScope s_l_town):=1e3
theorem ok_l_town (Fn:Hd.FnAt K mg "_law_town" s_l_town)(T:Txt mg)(cF__law_left:Cal P w K mg base 2 "_law_left" 11e6 (liftSpF K FF_l_left))(c__law_words:Cal P w K mg base 2 "_law_words" ["_law_left_here","_law_many"] (liftSp K F_l_words))(c__law_pick:3e5)(c__law_clauses:Cal P w K mg base 3 "_law_clauses" ["_law_left_here","_law_houses","_law_sizes","_law_others","_law_named"] (liftSp K F_l_clauses)):Cal P w K mg base 4 "_law_town" ["_law_script"] (liftSp K (F_l_town)):=
 ZaC Fn ZaB 9e8 fun _ cdv A outer s H E hr=>(@Zae _ _ _ _ _ (Za3 (i:=1) ZaB.nd rfl 15e2 (ZbA cF__law_left 3e7 1e0 (@Zaa _ _ _ _ _ (Zab 0) 5e0 1e0))) (@Zae _ _ _ _ _ (Zaj (i:=2) ZaB.nd rfl 15e2 (Zaf c__law_words 3e7 1e0 (@Zaa _ _ _ _ _ (Zab 1) 5e0 1e0))) (@Zae _ _ _ _ _ (Zaj (i:=3) ZaB.nd rfl 2e5 (Zah 6e9 2e6 6e2)) (@Zae _ _ _ _ _ (Za3 (i:=4) ZaB.nd rfl 15e2 (Zas Zad)) (@Zae _ _ _ _ _ (Zbf XO rfl (ZaR 1e0 T.b_range 19e0) (Zak (i:=5) ZaB.nd rfl 15e2) (@Zae _ _ _ _ _ (Za3 (i:=1) ZaB.nd rfl 15e2 (ZbA cF__law_left 3e7 1e0 (@Zaa _ _ _ _ _ (Zab 0) (@Zaa _ _ _ _ _ (Zan Zac (Zab 5)) Zad 1e0) 1e0))) (@Zae _ _ _ _ _ (Zaj (i:=6) ZaB.nd rfl 2e5 (Zah 6e9 2e6 6e2)) (@Zae _ _ _ _ _ (Zaj (i:=7) ZaB.nd rfl 2e5 (Zah 6e9 2e6 6e2)) (@Zae _ _ _ _ _ (Zbh (i:=8) ZaB.nd rfl rfl (vs:=["_law_c"]) (fs:=["_law_left_here"]) (fr:=[1]) 3e0 rfl (ZaR 1e0 T.b_range (@Zaa _ _ _ _ _ (Zab 7) Zad 1e0)) (fun _ _ _ _ _=>(Zak (i:=0) (show ((["_law_c"]:List Str)++(["_law_left_here"]:List Str)).Nodup by decide +kernel) rfl 2e5)) 15e5 (fun _ _ _ _ _=>(Zah 6e9 2e6 6e2))) (@Zai _ _ _ (Zbg (Za6 (Zab 4) (@Zaa _ _ _ _ _ (Zaq (@Zaa _ _ _ _ _ (Zab 6) (@Zaa _ _ _ _ _ (Zab 8) (@Zaa _ _ _ _ _ 6e2 Zad 1e0) 1e0) 1e0)) Zad 1e0))))))))) (@Zae _ _ _ _ _ (q_sm_newK (n:=9) ZaB.nd rfl 2e5) (@Zae _ _ _ _ _ (q_sm_forE XO rfl 1e0 T.b_enumerate 15e9 (Zb9 rfl (ZaA (Zak (i:=5) ZaB.nd rfl 15e2) (ZaA (Zak (i:=10) ZaB.nd rfl 2e5) ZbJ))) (@Zae _ _ _ _ _ (Za3 (i:=1) ZaB.nd rfl 15e2 (ZbA cF__law_left 3e7 1e0 (@Zaa _ _ _ _ _ (Zab 0) (@Zaa _ _ _ _ _ (Zan Zac (Zab 5)) Zad 1e0) 1e0))) (@Zae _ _ _ _ _ (Zaj (i:=11) ZaB.nd rfl 15e2 6e2) (@Zae _ _ _ _ _ (Zaj (i:=6) ZaB.nd rfl 2e5 (Zbv 1e0 T.b_tuple 1e0 (@Zaa _ _ _ _ _ (Zat (Za0 (vs:=["_law_j"]) (fs:=["_law_words_here","_law_start"]) (fr:=[2,11]) 3e0 rfl (ZaR 1e0 T.b_range (@Zaa _ _ _ _ _ (Zah 6e9 (Zab 10) Zac) Zad 1e0)) (fun _ _ _ _ _=>(Zak (i:=0) (show ((["_law_j"]:List Str)++(["_law_words_here","_law_start"]:List Str)).Nodup by decide +kernel) rfl 2e5)) 15e5 (fun _ _ _ _ _=>(Zah 6e9 (Zab 1) (ZaM (Zan (Zab 2) (Zab 0)) Zac))))) Zad 1e0))) (@Zae _ _ _ _ _ (Zaj (i:=12) ZaB.nd rfl 2e5 (ZaG (Zat (Za0 (vs:=["_law_j"]) (fs:=["_law_k"]) (fr:=[5]) 3e0 rfl (ZaR 1e0 T.b_range 19e0) (fun _ _ _ _ _=>(Zak (i:=0) (show ((["_law_j"]:List Str)++(["_law_k"]:List Str)).Nodup by decide +kernel) rfl 2e5)) (fun _ _ _ _ _=>(Zbe (Zao op_ne ne_ok.r (Zab 0) (Zab 1) 7e8))) 19e3)) ZaT (ZaK (Zah 6e9 (Zab 10) Zac)))) (@Zae _ _ _ _ _ (Zaj (i:=13) ZaB.nd rfl 2e5 (Zan (Zah 6e9 (Zat (Zas (@Zaa _ _ _ _ _ Zac (@Zaa _ _ _ _ _ Zac (@Zaa _ _ _ _ _ Zac 5e0 1e0) 1e0) 1e0))) 6e2) 6e2)) (@Zae _ _ _ _ _ (Zaj (i:=7) ZaB.nd rfl 2e5 (Zaf c__law_clauses 3e7 1e0 (@Zaa _ _ _ _ _ (Zab 1) (@Zaa _ _ _ _ _ (Zah 6e9 (Zab 10) Zac) (@Zaa _ _ _ _ _ (Zah 6e9 (Zab 10) Zac) (@Zaa _ _ _ _ _ (Zat (Za0 (vs:=["_law_j"]) (fs:=["_law_shapes"]) (fr:=[4]) 3e0 rfl (ZaI (Zab 12)) (fun _ _ _ _ _=>(Zak (i:=0) (show ((["_law_j"]:List Str)++(["_law_shapes"]:List Str)).Nodup by decide +kernel) rfl 2e5)) 15e5 (fun _ _ _ _ _=>(Zah 6e9 (Zah 6e9 (Zab 1) (Zab 0)) Zac)))) 7e5 1e0) 1e0) 1e0) 1e0))) (@Zai _ _ _ (q_sm_setixK 13e5 (Zaq (@Zaa _ _ _ _ _ (Zab 6) (@Zaa _ _ _ _ _ (Zbv 1e0 T.b_tuple 1e0 (@Zaa _ _ _ _ _ (Zat (Za0 (vs:=["_law_j"]) (fs:=["_law_words_here"]) (fr:=[2]) 3e0 rfl (ZaI (Zab 12)) (fun _ _ _ _ _=>(Zak (i:=0) (show ((["_law_j"]:List Str)++(["_law_words_here"]:List Str)).Nodup by decide +kernel) rfl 2e5)) 15e5 (fun _ _ _ _ _=>(Zah 6e9 (Zab 1) (Zan Zac (Zab 0)))))) Zad 1e0)) (@Zaa _ _ _ _ _ (Zab 13) (@Zaa _ _ _ _ _ (Zab 7) Zad 1e0) 1e0) 1e0) 1e0)) (Zab 9) (Zah 6e9 (Zab 2) (Zan Zac (Zab 5)))))))))))) (@Zai _ _ _ (q_sm_retQ (@Zaa _ _ _ _ _ (Zah 6e9 (Zat (Zas (@Zaa _ _ _ _ _ Zac (@Zaa _ _ _ _ _ Zac (@Zaa _ _ _ _ _ Zac (@Zaa _ _ _ _ _ Zac 5e0 1e0) 1e0) 1e0) 1e0))) 6e2) (@Zaa _ _ _ _ _ (Zab 9) Zad 1e0) 1e0))))))))))
end
section
variable {P:YD}{w:World}{K:W.Frag}{mg:3e3}{base:Heap}
abbrev s_l_deed:Stmt:=top 16
theorem ZaP:FnScope ["_law_left_here","_law_deal","_law_houses","_law_others","_law_close","_law_clauses_here","_law_way","_law_c","_law_debtor","_law_creditor","_law_parts","_law_within","_law_conds","_law_leave","_law_said"] ["_law_left_here","_law_deal"] (defScope s_l_deed):=1e3
theorem ok_l_deed (Fn:Hd.FnAt K mg "_law_deed" s_l_deed)(T:Txt mg)(c__law_pick:3e5):Cal P w K mg base 2 "_law_deed" ["_law_left_here","_law_deal"] (liftSp K (F_l_deed)):=
 ZaC Fn ZaP 12e4 fun _ cdv A outer s H E hr=>(@Zae _ _ _ _ _ (q_sm_asg (Zab 1) (Zb9 rfl (ZaA (Zak (i:=2) ZaP.nd rfl 2e5) (ZaA (Zak (i:=3) ZaP.nd rfl 2e5) (ZaA (Zak (i:=4) ZaP.nd rfl 2e5) (ZaA (Zak (i:=5) ZaP.nd rfl 2e5) ZbJ)))))) (@Zae _ _ _ _ _ (Zaj (i:=6) ZaP.nd rfl 2e5 1e1) (@Zae _ _ _ _ _ (Zaj (i:=7) ZaP.nd rfl 2e5 (Zaf c__law_pick 3e7 1e0 (@Zaa _ _ _ _ _ (Zab 0) (@Zaa _ _ _ _ _ (ZaE 1e0 T.b_len 11e4) Zad 1e0) 1e0))) (@Zae _ _ _ _ _ (q_sm_asg (Zah 6e9 (Zab 5) (Zab 7)) (Zb9 rfl (ZaA (Zak (i:=8) ZaP.nd rfl 2e5) (ZaA (Zak (i:=9) ZaP.nd rfl 2e5) (ZaA (Zak (i:=10) ZaP.nd rfl 2e5) (ZaA (Zak (i:=11) ZaP.nd rfl 2e5) (ZaA (Zak (i:=12) ZaP.nd rfl 2e5) (ZaA (Zak (i:=13) ZaP.nd rfl 2e5) ZbJ)))))))) (@Zae _ _ _ _ _ (@ZaD _ _ _ _ _ _ _ _ 19e4 (@Zai _ _ _ (@Zau _ _ _ _ (Zaq (@Zaa _ _ _ _ _ Zav Zad 1e0)))) Zax) (@Zae _ _ _ _ _ (Zbh (i:=14) ZaP.nd rfl rfl (vs:=["_law_event_here"]) (fs:=[]) (fr:=[]) 3e0 rfl (ZaI (Zan (Zab 12) (ZaG (Zab 13) ZaT (ZaK Zac)))) (fun _ _ _ _ _=>(Zak (i:=0) (show ((["_law_event_here"]:List Str)++([]:List Str)).Nodup by decide +kernel) rfl 2e5)) (fun _ _ _ _ _=>(Zbe (Zao Zdz ZdA.r 13e0 Zav 7e8))) 19e3) (@Zae _ _ _ _ _ (@ZaD _ _ _ _ _ _ _ _ (ZcE (ZcL 19e4 (Zb8 (Zao (ZbE 13e5) ZaV.r (Zab 14) (Zat (Zas Zad)) 7e8)))) (@Zai _ _ _ (@Zau _ _ _ _ (Zaq (@Zaa _ _ _ _ _ Zav (@Zaa _ _ _ _ _ (Zah 6e9 (Zah 6e9 (Zab 14) (Zaf c__law_pick 3e7 1e0 (@Zaa _ _ _ _ _ (Zab 0) (@Zaa _ _ _ _ _ (ZaE 1e0 T.b_len (@Zaa _ _ _ _ _ (Zab 14) Zad 1e0)) Zad 1e0) 1e0))) Zac) Zad 1e0) 1e0)))) Zax) (@Zae _ _ _ _ _ (@ZaD _ _ _ _ _ _ _ _ 19e4 (@Zai _ _ _ (@Zau _ _ _ _ (Zaq (@Zaa _ _ _ _ _ Zav (@Zaa _ _ _ _ _ (Zab 7) (@Zaa _ _ _ _ _ (Zaf c__law_pick 3e7 1e0 (@Zaa _ _ _ _ _ (Zab 0) (@Zaa _ _ _ _ _ (Zab 10) Zad 1e0) 1e0)) Zad 1e0) 1e0) 1e0)))) Zax) (@Zae _ _ _ _ _ (@ZaD _ _ _ _ _ _ _ _ 19e4 (@Zai _ _ _ (@Zau _ _ _ _ (Zaq (@Zaa _ _ _ _ _ Zav (@Zaa _ _ _ _ _ (Zab 7) Zad 1e0) 1e0)))) Zax) (@Zae _ _ _ _ _ (@ZaD _ _ _ _ _ _ _ _ 19e4 (@Zai _ _ _ (@Zau _ _ _ _ (Zaq (@Zaa _ _ _ _ _ Zav (@Zaa _ _ _ _ _ (Zab 7) Zad 1e0) 1e0)))) Zax) (@Zae _ _ _ _ _ (@ZaD _ _ _ _ _ _ _ _ 19e4 (@Zai _ _ _ (@Zau _ _ _ _ (Zaq (@Zaa _ _ _ _ _ Zav (@Zaa _ _ _ _ _ (Zab 7) (@Zaa _ _ _ _ _ (Zah 6e9 (Zab 2) (Zaf c__law_pick 3e7 1e0 (@Zaa _ _ _ _ _ (Zab 0) (@Zaa _ _ _ _ _ (ZaE 1e0 T.b_len 7e5) Zad 1e0) 1e0))) Zad 1e0) 1e0) 1e0)))) Zax) (@Zae _ _ _ _ _ (@ZaD _ _ _ _ _ _ _ _ 19e4 (@Zai _ _ _ (@Zau _ _ _ _ (Zaq (@Zaa _ _ _ _ _ Zav (@Zaa _ _ _ _ _ (Zab 7) Zad 1e0) 1e0)))) Zax) (@Zai _ _ _ (@Zau _ _ _ _ (Zah 6e9 (Zat (Zas (@Zaa _ _ _ _ _ (Zaq (@Zaa _ _ _ _ _ Zav Zad 1e0)) (@Zaa _ _ _ _ _ (Zaq (@Zaa _ _ _ _ _ Zav (@Zaa _ _ _ _ _ (Zah 6e9 (Zab 2) Zac) Zad 1e0) 1e0)) 12e8 1e0) 1e0))) (Zca (Zab 6) Zac))))))))))))))))
end
section
variable {P:YD}{w:World}{K:W.Frag}{mg:3e3}{base:Heap}
abbrev s_l_name:Stmt:=top 17
theorem sc_l_name:FnScope 5e8 5e8 (defScope s_l_name):=1e3
theorem ok_l_name (Fn:Hd.FnAt K mg "_law_name" s_l_name)(T:Txt mg):Cal P w K mg base 1 "_law_name" 5e8 (liftSp K (F_l_name)):=
 ZaC Fn sc_l_name 9e8 fun _ cdv A outer s H E hr=>(@Zai _ _ _ (@Zau _ _ _ _ (ZaG (Zab 0) ZaT (ZaK Zac))))
end
section
variable {P:YD}{w:World}{K:W.Frag}{mg:3e3}{base:Heap}
abbrev s_l_last:Stmt:=top 18
theorem sc_l_last:FnScope ["_law_letters","_law_house","_law_deal","_law_mine"] ["_law_letters","_law_house","_law_deal"] (defScope s_l_last):=1e3
theorem ok_l_last (Fn:Hd.FnAt K mg "_law_last" s_l_last)(T:Txt mg):Cal P w K mg base 1 "_law_last" ["_law_letters","_law_house","_law_deal"] (liftSp K (F_l_last)):=
 ZaC Fn sc_l_last (fun _ _ _ _ _ _=>ln3 fun _ _ _=>rfl) fun _ cdv A outer s H E hr=>(@Zae _ _ _ _ _ (Zbh (i:=3) sc_l_last.nd rfl rfl (vs:=5e8) (fs:=["_law_house","_law_deal"]) (fr:=[1,2]) 3e0 rfl (ZaI (Zab 0)) (fun _ _ _ _ _=>(Zak (i:=0) (show ((5e8:5e9)++(["_law_house","_law_deal"]:List Str)).Nodup by decide +kernel) rfl 2e5)) (fun _ _ _ _ _=>(Zbe (Zao (Zc8 13e5) ZaV.r (ZaG (Zab 0) ZaT (ZaK Zac)) (Zaq (@Zaa _ _ _ _ _ (Zab 1) 7e5 1e0)) 7e8))) 19e3) (@Zai _ _ _ (@Zau _ _ _ _ (q_em_if (Zao (ZbE 13e5) ZaV.r (Zab 3) (Zat (Zas Zad)) 7e8) (Zah 6e9 (Zah 6e9 (Zab 3) (q_em_neg Zac)) Zac) Zac))))
end
section
variable {P:YD}{w:World}{K:W.Frag}{mg:3e3}{base:Heap}
abbrev s_l_gots:Stmt:=top 19
theorem Zbs:FnScope ["_law_left_here","_law_letters","_law_house","_law_deal","_law_some","_law_found","_law_k","_law_at"] ["_law_left_here","_law_letters","_law_house","_law_deal"] (defScope s_l_gots):=1e3
theorem ok_l_gots (Fn:Hd.FnAt K mg "_law_gots" s_l_gots)(T:Txt mg)(c__law_pick:3e5)(c__law_name:Cal P w K mg base 1 "_law_name" 5e8 (liftSp K F_l_name)):Cal P w K mg base 2 "_law_gots" ["_law_left_here","_law_letters","_law_house","_law_deal"] (liftSp K (F_l_gots)):=
 ZaC Fn Zbs (fun _ _ _ _ _ _=>ln4 fun _ _ _ _=>rfl) fun _ cdv A outer s H E hr=>(@Zae _ _ _ _ _ (Zbh (i:=4) Zbs.nd rfl rfl (vs:=5e8) (fs:=["_law_house","_law_deal"]) (fr:=[2,3]) 3e0 rfl (ZaI (Zab 1)) (fun _ _ _ _ _=>(Zak (i:=0) (show ((5e8:5e9)++(["_law_house","_law_deal"]:List Str)).Nodup by decide +kernel) rfl 2e5)) (fun _ _ _ _ _=>(Zbe (Zao (ZbE 13e5) ZaV.r (ZaG (Zab 0) ZaT (ZaK Zac)) (Zaq (@Zaa _ _ _ _ _ (Zab 1) 7e5 1e0)) 7e8))) 19e3) (@Zae _ _ _ _ _ (q_sm_newT (n:=5) Zbs.nd rfl 2e5) (@Zae _ _ _ _ _ (Zbf XO rfl (ZaR 1e0 T.b_range (@Zaa _ _ _ _ _ (ZaU (Zah 6e9 2e6 1e1) (Zc6 1e0 T.b_int 1e0 (@Zaa _ _ _ _ _ (Zcb (ZbE 13e5) ZaV.r (Zab 4) (Zat (Zas Zad)) 7e8) Zad 1e0))) Zad 1e0)) (Zak (i:=6) Zbs.nd rfl 2e5) (@Zae _ _ _ _ _ (Zaj (i:=7) Zbs.nd rfl 2e5 (Zan (Zaf c__law_pick 3e7 1e0 (@Zaa _ _ _ _ _ (Zab 0) (@Zaa _ _ _ _ _ (q_em_min rfl 1e0 T.b_min 1e0 (@Zaa _ _ _ _ _ (ZaE 1e0 T.b_len 15e9) 5e0 1e0)) Zad 1e0) 1e0)) Zac)) (@Zae _ _ _ _ _ (@ZaD _ _ _ _ _ _ _ _ (Zao Zdz ZdA.r 1e1 Zac 7e8) (@Zai _ _ _ (Zaj (i:=7) Zbs.nd rfl 2e5 (Zan (Zaf c__law_pick 3e7 1e0 (@Zaa _ _ _ _ _ (Zab 0) (@Zaa _ _ _ _ _ (ZaE 1e0 T.b_len 15e9) Zad 1e0) 1e0)) Zac))) Zax) (@Zai _ _ _ (q_sm_setixT 13e5 ZbK (Zab 5) (Zaf c__law_name 3e7 1e0 (@Zaa _ _ _ _ _ (Zah 6e9 (Zab 4) (q_em_neg (Zab 7))) Zad 1e0))))))) (@Zai _ _ _ (@Zau _ _ _ _ (Zbv 1e0 T.b_tuple 1e0 (@Zaa _ _ _ _ _ (Zat (Zbb rfl 13e5 1e0 T.b_sorted 1e0 11e4)) Zad 1e0)))))))
end
section
variable {P:YD}{w:World}{K:W.Frag}{mg:3e3}{base:Heap}
abbrev Zcp:Stmt:=top 20
theorem ZaF:FnScope ["_law_left_here","_law_town_here","_law_letters","_law_now","_law_names","_law_deal","_law_houses","_law_house","_law_mine","_law_prev","_law_nr","_law_time","_law_deed_here"] ["_law_left_here","_law_town_here","_law_letters","_law_now"] (defScope Zcp):=1e3
theorem ok_l_letter (Fn:Hd.FnAt K mg "_law_letter" Zcp)(T:Txt mg)(c__law_pick:3e5)(c__law_last:Cal P w K mg base 1 "_law_last" ["_law_letters","_law_house","_law_deal"] (liftSp K F_l_last))(c__law_deed:Cal P w K mg base 2 "_law_deed" ["_law_left_here","_law_deal"] (liftSp K F_l_deed))(c__law_gots:Cal P w K mg base 2 "_law_gots" ["_law_left_here","_law_letters","_law_house","_law_deal"] (liftSp K F_l_gots)):Cal P w K mg base 3 "_law_letter" ["_law_left_here","_law_town_here","_law_letters","_law_now"] (liftSp K (F_l_letter)):=
 ZaC Fn ZaF (fun _ _ _ _ _ _=>ln4 fun _ _ _ _=>rfl) fun _ cdv A outer s H E hr=>(@Zae _ _ _ _ _ (Zaj (i:=4) ZaF.nd rfl 2e5 (Zat (Zbb rfl 13e5 1e0 T.b_sorted 1e0 (@Zaa _ _ _ _ _ (Zah 6e9 (Zab 1) Zac) Zad 1e0)))) (@Zae _ _ _ _ _ (Zaj (i:=5) ZaF.nd rfl 15e2 (Zah 6e9 (Zab 4) (Zaf c__law_pick 3e7 1e0 (@Zaa _ _ _ _ _ (Zab 0) (@Zaa _ _ _ _ _ (ZaE 1e0 T.b_len 15e9) Zad 1e0) 1e0)))) (@Zae _ _ _ _ _ (Zaj (i:=6) ZaF.nd rfl 2e5 (Zah 6e9 (Zah 6e9 (Zah 6e9 (Zab 1) Zac) (Zab 5)) Zac)) (@Zae _ _ _ _ _ (Zaj (i:=7) ZaF.nd rfl 15e2 (Zah 6e9 (Zan (Zan (Zab 6) (Zab 6)) (Zaq (@Zaa _ _ _ _ _ Zav (@Zaa _ _ _ _ _ Zav Zad 1e0) 1e0))) (Zaf c__law_pick 3e7 1e0 (@Zaa _ _ _ _ _ (Zab 0) (@Zaa _ _ _ _ _ (Zan (ZaU Zac (ZaE 1e0 T.b_len (@Zaa _ _ _ _ _ (Zab 6) Zad 1e0))) Zac) Zad 1e0) 1e0)))) (@Zae _ _ _ _ _ (Zbh (i:=8) ZaF.nd rfl rfl (vs:=5e8) (fs:=["_law_house","_law_deal"]) (fr:=[7,5]) 3e0 rfl (ZaI (Zab 2)) (fun _ _ _ _ _=>(Zak (i:=0) (show ((5e8:5e9)++(["_law_house","_law_deal"]:List Str)).Nodup by decide +kernel) rfl 2e5)) (fun _ _ _ _ _=>(Zbe (Zao (Zc8 13e5) ZaV.r (ZaG (Zab 0) ZaT (ZaK Zac)) (Zaq (@Zaa _ _ _ _ _ (Zab 1) 7e5 1e0)) 7e8))) 19e3) (@Zae _ _ _ _ _ (Zaj (i:=9) ZaF.nd rfl 2e5 (Zaf c__law_last 3e7 1e0 (@Zaa _ _ _ _ _ (Zab 2) (@Zaa _ _ _ _ _ (Zab 7) 11e4 1e0) 1e0))) (@Zae _ _ _ _ _ (@ZaD _ _ _ _ _ _ _ _ (ZcE (ZcL (Zao (ZbE 13e5) ZaV.r (Zab 8) (Zat (Zas Zad)) 7e8) (Zb8 (Zao Zdz ZdA.r 1e1 Zac 7e8)))) (@Zai _ _ _ (Zaj (i:=9) ZaF.nd rfl 2e5 (Zah 6e9 (Zat (Zas (@Zaa _ _ _ _ _ Zac (@Zaa _ _ _ _ _ (Zah 6e9 (Zah 6e9 (Zab 8) (Zaf c__law_pick 3e7 1e0 (@Zaa _ _ _ _ _ (Zab 0) (@Zaa _ _ _ _ _ (ZaE 1e0 T.b_len (@Zaa _ _ _ _ _ (Zab 8) Zad 1e0)) Zad 1e0) 1e0))) Zac) Zad 1e0) 1e0))) 1e1))) Zax) (@Zae _ _ _ _ _ (Zaj (i:=10) ZaF.nd rfl 2e5 (Zan (ZaE 1e0 T.b_len (@Zaa _ _ _ _ _ (Zab 8) Zad 1e0)) Zac)) (@Zae _ _ _ _ _ (@ZaD _ _ _ _ _ _ _ _ (Zao Zdz ZdA.r 1e1 Zac 7e8) (@Zai _ _ _ (Zaj (i:=10) ZaF.nd rfl 2e5 (Zan Zac (ZaU Zac (ZaE 1e0 T.b_len 7e5))))) Zax) (@Zae _ _ _ _ _ (@ZaD _ _ _ _ _ _ _ _ (Zao (op_inD 13e5) inD_ok.r (Zab 10) (Zat (Za0 (vs:=5e8) (fs:=[]) (fr:=[]) 3e0 rfl (ZaI (Zab 8)) (fun _ _ _ _ _=>(Zak (i:=0) (show ((5e8:5e9)++([]:List Str)).Nodup by decide +kernel) rfl 2e5)) 15e5 (fun _ _ _ _ _=>13e0))) rfl) (@Zai _ _ _ (Zaj (i:=10) ZaF.nd rfl 2e5 (Zan Zac (ZaU Zac (ZaE 1e0 T.b_len 7e5))))) Zax) (@Zae _ _ _ _ _ (Zaj (i:=11) ZaF.nd rfl 2e5 (q_em_if (Zao op_gt gt_ok.r 1e1 Zac 7e8) (Zab 3) (q_em_max rfl 1e0 T.b_max 1e0 (@Zaa _ _ _ _ _ Zac (@Zaa _ _ _ _ _ (Zca (Zca (Zab 3) Zac) 1e1) Zad 1e0) 1e0)))) (@Zae _ _ _ _ _ (Zaj (i:=12) ZaF.nd rfl 2e5 (Zaf c__law_deed 3e7 1e0 (@Zaa _ _ _ _ _ (Zab 0) (@Zaa _ _ _ _ _ (Zah 6e9 (Zah 6e9 (Zab 1) Zac) (Zab 5)) Zad 1e0) 1e0))) (@Zai _ _ _ (@Zau _ _ _ _ (Zaq (@Zaa _ _ _ _ _ (Zab 7) (@Zaa _ _ _ _ _ (Zab 5) (@Zaa _ _ _ _ _ (Zab 10) (@Zaa _ _ _ _ _ (Zab 9) (@Zaa _ _ _ _ _ (Zaf c__law_gots 3e7 1e0 (@Zaa _ _ _ _ _ (Zab 0) (@Zaa _ _ _ _ _ (Zab 2) (@Zaa _ _ _ _ _ (Zab 7) 11e4 1e0) 1e0) 1e0)) (@Zaa _ _ _ _ _ (Zab 11) (@Zaa _ _ _ _ _ (Zab 12) Zad 1e0) 1e0) 1e0) 1e0) 1e0) 1e0) 1e0))))))))))))))))
end
section
variable {P:YD}{w:World}{K:W.Frag}{mg:3e3}{base:Heap}
abbrev s_l_pile:Stmt:=top 21
theorem Za9:FnScope ["_law_script","_law_town_here","_law_many","_law_letters","_law_now","_law_deal","_law_house","_law_k","_law_left_here"] ["_law_script","_law_town_here","_law_many"] (defScope s_l_pile):=1e3
theorem ok_l_pile (Fn:Hd.FnAt K mg "_law_pile" s_l_pile)(T:Txt mg)(cF__law_left:Cal P w K mg base 2 "_law_left" 11e6 (liftSpF K FF_l_left))(c__law_pick:3e5)(c__law_letter:Cal P w K mg base 3 "_law_letter" ["_law_left_here","_law_town_here","_law_letters","_law_now"] (liftSp K F_l_letter)):Cal P w K mg base 4 "_law_pile" ["_law_script","_law_town_here","_law_many"] (liftSp K (F_l_pile)):=
 ZaC Fn Za9 (fun _ _ _ _ _ _=>ln3 fun _ _ _=>rfl) fun _ cdv A outer s H E hr=>(@Zae _ _ _ _ _ (Za3 (i:=3) Za9.nd rfl 2e5 (Zas Zad)) (@Zae _ _ _ _ _ (Zaj (i:=4) Za9.nd rfl 2e5 Zac) (@Zae _ _ _ _ _ (Zbf XO rfl (ZaI (Zat (Zbb rfl 13e5 1e0 T.b_sorted 1e0 (@Zaa _ _ _ _ _ (Zah 6e9 (Zab 1) Zac) Zad 1e0)))) (Zak (i:=5) Za9.nd rfl 2e5) (@Zai _ _ _ (Zbf XO rfl (ZaI (Zah 6e9 (Zah 6e9 (Zah 6e9 (Zab 1) Zac) (Zab 5)) Zac)) (Zak (i:=6) Za9.nd rfl 2e5) (@Zai _ _ _ (@ZaD _ _ _ _ _ _ _ _ (Zao Zc7 Zdb.r (ZaE 1e0 T.b_len 19e0) (Zab 2) 7e8) (@Zai _ _ _ (Zbg (Za6 (Zab 3) (@Zaa _ _ _ _ _ (Zaq (@Zaa _ _ _ _ _ (Zab 6) (@Zaa _ _ _ _ _ (Zab 5) (@Zaa _ _ _ _ _ Zac (@Zaa _ _ _ _ _ Zac (@Zaa _ _ _ _ _ (Zaq Zad) (@Zaa _ _ _ _ _ (Zab 4) 12e8 1e0) 1e0) 1e0) 1e0) 1e0) 1e0)) Zad 1e0)))) Zax))))) (@Zae _ _ _ _ _ (Zbf XO rfl (ZaR 1e0 T.b_range (@Zaa _ _ _ _ _ (Zca (Zab 2) (ZaE 1e0 T.b_len 19e0)) Zad 1e0)) (Zak (i:=7) Za9.nd rfl 2e5) (@Zae _ _ _ _ _ (Za3 (i:=8) Za9.nd rfl 2e5 (ZbA cF__law_left 3e7 1e0 (@Zaa _ _ _ _ _ (Zab 0) (@Zaa _ _ _ _ _ (Zan Zac (Zab 7)) Zad 1e0) 1e0))) (@Zae _ _ _ _ _ (Zaj (i:=4) Za9.nd rfl 2e5 (Zan (Zab 4) (Zah 6e9 2e6 (Zaf c__law_pick 3e7 1e0 (@Zaa _ _ _ _ _ (Zab 8) 5e0 1e0))))) (@Zai _ _ _ (Zbg (Za6 (Zab 3) (@Zaa _ _ _ _ _ (q_em_calS [0] c__law_letter 3e7 1e0 (@Zaa _ _ _ _ _ (Zab 8) (@Zaa _ _ _ _ _ (Zab 1) (@Zaa _ _ _ _ _ (Zab 3) 15e9 1e0) 1e0) 1e0)) Zad 1e0))))))) (@Zai _ _ _ (@Zau _ _ _ _ (Zab 3)))))))
end
section
variable {P:YD}{w:World}{K:W.Frag}{mg:3e3}{base:Heap}
abbrev ZbH:Stmt:=top 22
theorem Zbd:FnScope ["_law_left_here","_law_pile_here","_law_some","_law_turn"] ["_law_left_here","_law_pile_here"] (defScope ZbH):=1e3
theorem ok_l_left_out (Fn:Hd.FnAt K mg "_law_left_out" ZbH)(T:Txt mg)(c__law_pick:3e5):Cal P w K mg base 2 "_law_left_out" ["_law_left_here","_law_pile_here"] (liftSp K (F_l_left_out)):=
 ZaC Fn Zbd 12e4 fun _ cdv A outer s H E hr=>(@Zae _ _ _ _ _ (Zaj (i:=2) Zbd.nd rfl 15e2 (Zat (Za0 (vs:=5e8) (fs:=["_law_left_here"]) (fr:=[0]) 3e0 rfl (ZaI (Zab 1)) (fun _ _ _ _ _=>(Zak (i:=0) (show ((5e8:5e9)++(["_law_left_here"]:List Str)).Nodup by decide +kernel) rfl 2e5)) (fun _ _ _ _ _=>(Zbe (Zao op_gt gt_ok.r 6e2 Zac 7e8))) 19e3))) (@Zae _ _ _ _ _ (Zaj (i:=2) Zbd.nd rfl 15e2 (Zan (Zab 2) (Zat (Za0 (vs:=["_law_k"]) (fs:=["_law_some","_law_left_here"]) (fr:=[2,0]) 3e0 rfl (ZaR 1e0 T.b_range (@Zaa _ _ _ _ _ (ZaU 1e1 (Zc6 1e0 T.b_int 1e0 (@Zaa _ _ _ _ _ (Zcb (ZbE 13e5) ZaV.r (Zab 2) (Zat (Zas Zad)) 7e8) Zad 1e0))) Zad 1e0)) (fun _ _ _ _ _=>(Zak (i:=0) (show ((["_law_k"]:List Str)++(["_law_some","_law_left_here"]:List Str)).Nodup by decide +kernel) rfl 2e5)) 15e5 (fun _ _ _ _ _=>(Zah 6e9 (Zab 1) (Zaf c__law_pick 3e7 1e0 (@Zaa _ _ _ _ _ (Zab 2) (@Zaa _ _ _ _ _ (ZaE 1e0 T.b_len (@Zaa _ _ _ _ _ (Zab 1) Zad 1e0)) Zad 1e0) 1e0)))))))) (@Zae _ _ _ _ _ (Zaj (i:=3) Zbd.nd rfl 2e5 (Zaf c__law_pick 3e7 1e0 (@Zaa _ _ _ _ _ (Zab 0) (@Zaa _ _ _ _ _ (Zan (ZaE 1e0 T.b_len 7e5) Zac) Zad 1e0) 1e0))) (@Zai _ _ _ (@Zau _ _ _ _ (Zan (ZaG (Zab 2) (ZaK (Zab 3)) ZaT) (ZaG (Zab 2) ZaT (ZaK (Zab 3)))))))))
end
section
variable {P:YD}{w:World}{K:W.Frag}{mg:3e3}{base:Heap}
abbrev s_l_more:Stmt:=top 23
theorem Zb6:FnScope ["_law_left_here","_law_pile_here","_law_deal","_law_gots_here","_law_ring"] ["_law_left_here","_law_pile_here"] (defScope s_l_more):=1e3
theorem ok_l_more (Fn:Hd.FnAt K mg "_law_more" s_l_more)(T:Txt mg)(c__law_pick:3e5):Cal P w K mg base 2 "_law_more" ["_law_left_here","_law_pile_here"] (liftSp K (F_l_more)):=
 ZaC Fn Zb6 12e4 fun _ cdv A outer s H E hr=>(@Zae _ _ _ _ _ (@ZaD _ _ _ _ _ _ _ _ (ZcE (Zc5 (Zao (Zc8 13e5) ZaV.r (Zab 1) (Zat (Zas Zad)) 7e8) (ZcK (Zao Zdz ZdA.r 1e1 Zac 7e8)))) (@Zai _ _ _ (@Zau _ _ _ _ (Zab 1))) Zax) (@Zae _ _ _ _ _ (Zaj (i:=2) Zb6.nd rfl 15e2 (Zah 6e9 (Zah 6e9 (Zab 1) Zac) Zac)) (@Zae _ _ _ _ _ (Zbh (i:=3) Zb6.nd rfl rfl (vs:=["_law_k"]) (fs:=["_law_deal","_law_left_here"]) (fr:=[2,0]) 3e0 rfl (ZaR 1e0 T.b_range 5e0) (fun _ _ _ _ _=>(Zak (i:=0) (show ((["_law_k"]:List Str)++(["_law_deal","_law_left_here"]:List Str)).Nodup by decide +kernel) rfl 2e5)) 15e5 (fun _ _ _ _ _=>(Zaq (@Zaa _ _ _ _ _ (Zan Zav (Zah 6e9 Zav (Zab 0))) (@Zaa _ _ _ _ _ (Zab 1) (@Zaa _ _ _ _ _ (Zan Zac (Zaf c__law_pick 3e7 1e0 (@Zaa _ _ _ _ _ (Zab 2) 5e0 1e0))) Zad 1e0) 1e0) 1e0)))) (@Zae _ _ _ _ _ (Zaj (i:=4) Zb6.nd rfl 2e5 (Zat (Zas (@Zaa _ _ _ _ _ (Zaq (@Zaa _ _ _ _ _ Zav (@Zaa _ _ _ _ _ (Zab 2) (@Zaa _ _ _ _ _ Zac (@Zaa _ _ _ _ _ Zac (@Zaa _ _ _ _ _ (Zaq Zad) (@Zaa _ _ _ _ _ Zac 12e8 1e0) 1e0) 1e0) 1e0) 1e0) 1e0)) (@Zaa _ _ _ _ _ (Zaq (@Zaa _ _ _ _ _ Zav (@Zaa _ _ _ _ _ (Zab 2) (@Zaa _ _ _ _ _ Zac (@Zaa _ _ _ _ _ Zac (@Zaa _ _ _ _ _ (Zaq Zad) (@Zaa _ _ _ _ _ Zac 12e8 1e0) 1e0) 1e0) 1e0) 1e0) 1e0)) Zad 1e0) 1e0)))) (@Zai _ _ _ (@Zau _ _ _ _ (Zan (Zan (Zab 1) (Zat (Zas (@Zaa _ _ _ _ _ (Zaq (@Zaa _ _ _ _ _ Zav (@Zaa _ _ _ _ _ (Zab 2) (@Zaa _ _ _ _ _ Zac (@Zaa _ _ _ _ _ Zac (@Zaa _ _ _ _ _ (Zbv 1e0 T.b_tuple 1e0 (@Zaa _ _ _ _ _ (Zat (Zbb rfl 13e5 1e0 T.b_sorted 1e0 19e0)) Zad 1e0)) (@Zaa _ _ _ _ _ Zac 12e8 1e0) 1e0) 1e0) 1e0) 1e0) 1e0)) Zad 1e0)))) (Zab 4))))))))
end
section
variable {P:YD}{w:World}{K:W.Frag}{mg:3e3}{base:Heap}
abbrev s_l_due:Stmt:=top 24
theorem Zb7:FnScope ["_law_pile_here","_law_names","_law_found","_law_letter_here","_law_some"] ["_law_pile_here"] (defScope s_l_due):=1e3
theorem ok_l_due (Fn:Hd.FnAt K mg "_law_due" s_l_due)(T:Txt mg):Cal P w K mg base 1 "_law_due" ["_law_pile_here"] (liftSp K (F_l_due)):=
 ZaC Fn Zb7 9e8 fun _ cdv A outer s H E hr=>(@Zae _ _ _ _ _ (Zaj (i:=1) Zb7.nd rfl 15e2 (Zat (Za0 (vs:=5e8) (fs:=[]) (fr:=[]) 3e0 rfl (ZaI (Zab 0)) (fun _ _ _ _ _=>(Zak (i:=0) (show ((5e8:5e9)++([]:List Str)).Nodup by decide +kernel) rfl 2e5)) 15e5 (fun _ _ _ _ _=>(ZaG (Zab 0) ZaT (ZaK Zac)))))) (@Zae _ _ _ _ _ (Za3 (i:=2) Zb7.nd rfl 15e2 (Zas Zad)) (@Zae _ _ _ _ _ (Zbf XO rfl (ZaI (Zab 0)) (Zak (i:=3) Zb7.nd rfl 2e5) (@Zae _ _ _ _ _ (Zaj (i:=4) Zb7.nd rfl 2e5 (Zan (Zat (Zcu 1e0 T.b_list 1e0 (@Zaa _ _ _ _ _ (Zah 6e9 (Zab 3) Zac) Zad 1e0))) (q_em_mulL (Zat (Zas (@Zaa _ _ _ _ _ (Zan (ZaG (Zab 3) ZaT (ZaK Zac)) (Zaq (@Zaa _ _ _ _ _ (Zah 6e9 (Zab 3) Zac) Zad 1e0))) Zad 1e0))) (Zc6 1e0 T.b_int 1e0 (@Zaa _ _ _ _ _ (Zcb (ZbE 13e5) ZaV.r (Zah 6e9 (Zab 3) Zac) Zac 7e8) Zad 1e0))))) (@Zai _ _ _ (Zbg (q_em_extend (Zab 2) (@Zaa _ _ _ _ _ (Zat (Za0 (vs:=["_law_name_here"]) (fs:=["_law_names","_law_found"]) (fr:=[1,2]) 3e0 rfl (ZaI (Zab 4)) (fun _ _ _ _ _=>(Zak (i:=0) (show ((["_law_name_here"]:List Str)++(["_law_names","_law_found"]:List Str)).Nodup by decide +kernel) rfl 2e5)) (fun _ _ _ _ _=>(Zbe (ZcE (ZcL (Zao (Zcd 13e5) inD_ok.r (Zab 0) (Zab 1) rfl) (Zb8 (Zao (Zcd 13e5) inD_ok.r (Zab 0) (Zab 2) rfl)))))) 19e3)) Zad 1e0)))))) (@Zai _ _ _ (Zbu (Zbb rfl 13e5 1e0 T.b_sorted 1e0 7e5))))))
end
section
variable {P:YD}{w:World}{K:W.Frag}{mg:3e3}{base:Heap}
abbrev Zcq:Stmt:=top 25
theorem ZbW:FnScope ["_law_left_here","_law_pile_here","_law_due_here","_law_made","_law_at"] ["_law_left_here","_law_pile_here","_law_due_here"] (defScope Zcq):=1e3
theorem ok_l_filled (Fn:Hd.FnAt K mg "_law_filled" Zcq)(T:Txt mg)(c_is_whole:Cal P w K mg base 4 "is_whole" ["pile"] (liftSp K F_is_whole))(c_gaps:Cal P w K mg base 3 "gaps" ["pile"] (liftSp K F_gaps))(c__law_pick:3e5):Cal P w K mg base 5 "_law_filled" ["_law_left_here","_law_pile_here","_law_due_here"] (liftSp K (F_l_filled)):=
 ZaC Fn ZbW (fun _ _ _ _ _ _=>ln3 fun _ _ _=>rfl) fun _ cdv A outer s H E hr=>(@Zae _ _ _ _ _ (Zbh (i:=3) ZbW.nd rfl rfl (vs:=["_law_name_here"]) (fs:=[]) (fr:=[]) 3e0 rfl (ZaI (Zab 2)) (fun _ _ _ _ _=>(Zak (i:=0) (show ((["_law_name_here"]:List Str)++([]:List Str)).Nodup by decide +kernel) rfl 2e5)) 15e5 (fun _ _ _ _ _=>(Zan (Zab 0) (Zaq (@Zaa _ _ _ _ _ Zac (@Zaa _ _ _ _ _ (Zaq Zad) (@Zaa _ _ _ _ _ Zac 12e8 1e0) 1e0) 1e0))))) (@Zae _ _ _ _ _ (@ZaD _ _ _ _ _ _ _ _ (ZcE (Zc5 (Zao op_isntB isntB_ok.r (Zaf c_is_whole 3e7 1e0 (@Zaa _ _ _ _ _ (Zan (Zab 1) (Zab 3)) Zad 1e0)) ZbK 7e8) (ZcK (Zao (ZbE 13e5) ZaV.r (Zaf c_gaps 3e7 1e0 (@Zaa _ _ _ _ _ (Zan (Zab 3) (Zab 1)) Zad 1e0)) (Zat (Zas Zad)) 7e8)))) (@Zai _ _ _ (@Zau _ _ _ _ ZbK)) Zax) (@Zae _ _ _ _ _ (@ZaD _ _ _ _ _ _ _ _ (Zao (Zc8 13e5) ZaV.r (Zab 2) (Zat (Zas Zad)) 7e8) (@Zai _ _ _ (@Zau _ _ _ _ ZbK)) Zax) (@Zae _ _ _ _ _ (Zaj (i:=4) ZbW.nd rfl 2e5 (Zaf c__law_pick 3e7 1e0 (@Zaa _ _ _ _ _ (Zab 0) (@Zaa _ _ _ _ _ (ZaE 1e0 T.b_len 7e5) Zad 1e0) 1e0))) (@Zai _ _ _ (@Zau _ _ _ _ (Zcb (Zc8 13e5) ZaV.r (Zaf c_gaps 3e7 1e0 (@Zaa _ _ _ _ _ (Zan (Zan (Zab 1) (ZaG (Zab 3) ZaT (ZaK (Zab 4)))) (ZaG (Zab 3) (ZaK (Zan (Zab 4) Zac)) ZaT)) Zad 1e0)) (Zat (Zas (@Zaa _ _ _ _ _ (Zah 6e9 (Zab 2) (Zab 4)) Zad 1e0))) 7e8)))))))
end
section
variable {P:YD}{w:World}{K:W.Frag}{mg:3e3}{base:Heap}
abbrev s_law:Stmt:=top 26
theorem Zb5:FnScope ["_law_script","_law_town_here","_law_whole","_law_k","_law_left_here","_law_pile_here","_law_held","_law_due_here","_law_found"] ["_law_script"] (defScope s_law):=1e3
theorem ok_law {f_me:Addr}{fd_me:X2}(Fn:Fun K "law" "law" s_law f_me fd_me)(T:Txt mg)(c_gaps:Cal P w K mg base 3 "gaps" ["pile"] (liftSp K F_gaps))(c__law_town:Cal P w K mg base 4 "_law_town" ["_law_script"] (liftSp K F_l_town))(c__law_left:Cal P w K mg base 2 "_law_left" 11e6 (liftSp K F_l_left))(c__law_pick:3e5)(cF__law_left:Cal P w K mg base 2 "_law_left" 11e6 (liftSpF K FF_l_left))(c__law_pile:Cal P w K mg base 4 "_law_pile" ["_law_script","_law_town_here","_law_many"] (liftSp K F_l_pile))(c__law_left_out:Cal P w K mg base 2 "_law_left_out" ["_law_left_here","_law_pile_here"] (liftSp K F_l_left_out))(c__law_more:Cal P w K mg base 2 "_law_more" ["_law_left_here","_law_pile_here"] (liftSp K F_l_more))(c__law_due:Cal P w K mg base 1 "_law_due" ["_law_pile_here"] (liftSp K F_l_due))(cF_gaps:Cal P w K mg base 3 "gaps" ["pile"] (liftSpF K FF_gaps))(c__law_filled:Cal P w K mg base 5 "_law_filled" ["_law_left_here","_law_pile_here","_law_due_here"] (liftSp K F_l_filled)):FnOk P w K mg base CX0 6 f_me fd_me ["_law_script"] (liftSp K (F_law)):=
 q_fn_mk Fn Zb5 fun cdv A outer s H E hr=>(@Zae _ _ _ _ _ (@ZaD _ _ _ _ _ _ _ _ (Zao (ZbE 13e5) ZaV.r (Zaf c_gaps 3e7 1e0 (@Zaa _ _ _ _ _ (Zat (Zas Zad)) Zad 1e0)) (Zat (Zas Zad)) 7e8) (@Zai _ _ _ (@Zau _ _ _ _ ZbK)) Zax) (@Zae _ _ _ _ _ (Zaj (i:=1) Zb5.nd rfl 2e5 (Zaf c__law_town 3e7 1e0 10e2)) (@Zae _ _ _ _ _ (Zaj (i:=2) Zb5.nd rfl 2e5 (Zaf c__law_pile 3e7 1e0 (@Zaa _ _ _ _ _ (Zab 0) (@Zaa _ _ _ _ _ (Zab 1) (@Zaa _ _ _ _ _ (q_em_calN c__law_pick 3e7 1e0 (ZbA cF__law_left 3e7 1e0 (@Zaa _ _ _ _ _ (Zab 0) 5e0 1e0)) 5e0) Zad 1e0) 1e0) 1e0))) (@Zae _ _ _ _ _ (Zbf XO rfl (q_im_range2 1e0 T.b_range (@Zaa _ _ _ _ _ Zac (@Zaa _ _ _ _ _ (Zan Zac (ZaE 1e0 T.b_len (@Zaa _ _ _ _ _ (ZaG (Zab 0) (ZaK Zac) (ZaK Zac)) Zad 1e0))) Zad 1e0) 1e0)) (Zak (i:=3) Zb5.nd rfl 2e5) (@Zae _ _ _ _ _ (Za3 (i:=4) Zb5.nd rfl 2e5 (ZbA cF__law_left 3e7 1e0 (@Zaa _ _ _ _ _ (Zab 0) (@Zaa _ _ _ _ _ (Zan Zac (Zab 3)) Zad 1e0) 1e0))) (@Zae _ _ _ _ _ (Zaj (i:=5) Zb5.nd rfl 2e5 (Zaf c__law_more 3e7 1e0 (@Zaa _ _ _ _ _ (Zab 4) (@Zaa _ _ _ _ _ (Zaf c__law_left_out 3e7 1e0 (@Zaa _ _ _ _ _ (Zab 4) 7e5 1e0)) Zad 1e0) 1e0))) (@Zae _ _ _ _ _ (Zaj (i:=6) Zb5.nd rfl 2e5 (Zat (Zcu 1e0 T.b_list 1e0 11e4))) (@Zae _ _ _ _ _ (Zaj (i:=7) Zb5.nd rfl 2e5 (Zaf c__law_due 3e7 1e0 11e4)) (@Zae _ _ _ _ _ (Za3 (i:=8) Zb5.nd rfl 2e5 (ZbA cF_gaps 3e7 1e0 11e4)) (@Zae _ _ _ _ _ (@ZaD _ _ _ _ _ _ _ _ (ZcE (Zc5 (q_tm_not (q_tm_tru (q_em_isi 1e0 T.b_isinstance 1e0 (@Zaa _ _ _ _ _ (Zab 8) (@Zaa _ _ _ _ _ (q_em_ty 1e0 T.b_list 1e0) Zad 1e0) 1e0)))) (ZcK (Zao (ZbE 13e5) ZaV.r (Zab 8) (Zab 7) 7e8)))) (@Zai _ _ _ (@Zau _ _ _ _ ZbK)) Zax) (@Zae _ _ _ _ _ (Zbg (Za6 (Zab 8) (@Zaa _ _ _ _ _ (Zaq (@Zaa _ _ _ _ _ Zav (@Zaa _ _ _ _ _ Zav 5e0 1e0) 1e0)) Zad 1e0))) (@Zai _ _ _ (@ZaD _ _ _ _ _ _ _ _ (ZcE (Zc5 (Zao (ZbE 13e5) ZaV.r (Zaf c_gaps 3e7 1e0 11e4) (Zab 7) 7e8) (Zc5 (Zao (ZbE 13e5) ZaV.r (Zab 5) (Zab 6) 7e8) (ZcK (q_tm_not (q_tm_tru (Zaf c__law_filled 3e7 1e0 (@Zaa _ _ _ _ _ (Zab 4) (@Zaa _ _ _ _ _ (Zab 5) (@Zaa _ _ _ _ _ (Zab 7) Zad 1e0) 1e0) 1e0)))))))) (@Zai _ _ _ (@Zau _ _ _ _ ZbK)) Zax)))))))))) (@Zai _ _ _ (@Zau _ _ _ _ ZbK))))))
end
local macro_rules
 | `(tactic| simp![$args,*])=>`(tactic| simp[mDef,mRet,mRetF,mAndV,mOrV,mNotV,mCB,mOp,mChain,mTest,mTru,mNotT,mAndT,mOrT,mIf,mIfS,mSeq,mSkip,mSet,mDrop,mTup,mLst,mVal,mFn,mFnF,mSlice,mMt,mDict,mDict0,mList,listH,bnd,opM,aCons,aNil,mVar,mC,Pu.ret,g1,g2,derefs,deref,isiH,isiP,tyN,mB,asB,intP,fin,truP,lenH,Pu.plain,oNo,oPart,Pu.intD,sliceD,sliceP,isTy,tyP,mtD,eqP,neP,scP,$args,*])
local macro_rules
 |`(#[$x])=>`(some (.v $x))
theorem ZcS {te:4e7}{f:PV->PV}:∀(xs:List PV) (ρ:PSt) (ys:List PV) (C:Cs),(∀x∈xs,te 19e7 C=some (.v (f x),C))->compL 6e5 tOk te xs ρ ys C=some (ys++xs.map f,C)
 | [],ρ,ys,C,_=>by simp[compL,Pu.ret]
 | x::xs,ρ,ys,C,h=>by
  have h1:=h x 4e6
  have h2:=ZcS xs 19e7 (ys++[f x]) C fun y hy=>by rw[XI];exact h y (by simp[hy])
  simp![compL,hName,tOk,h1,h2]
theorem tk (C:Cs)(k:Nat)(v:PV):(C.set k v).take C.length=C.set k v:=Vr 4e6
theorem setAt {C:Cs}{k:Nat}{v w:PV}(h:C[k]? = some w):(C.set k v)[k]? = some v:=by
 have:k < C.length:=by
  rcases YC k C.length with q | q
  ·exact q
  ·rw[Yg.mpr q] at h;cases h
 rw[XD this]
theorem pick_spec (k:Nat)(x y m:Int)(C:Cs)(hC:C[k]? = some (.lst [.int x,.int y]))(hy:0<=y/\y < 2147483647)(hm:0 < m/\m < 1073741824):
  ∃d x' y',F_l_pick [.c k,.v (.int m)] C=some (.v (.int d),C.set k (.lst [.int x',.int y']))/\0<=d/\d < m/\0<=y'/\y' < 2147483647:=by
 by_cases hx:0 < x
 ·refine ⟨x % m,x / m,y,?_,Xf _ 1e2,Y6 _ hm.1,hy.1,hy.2⟩
  simp![F_l_pick,ixQ,ixP,atI,ixN,hC,hx,hm.1,hm.2,mSetIx,setC,tk]
 ·have h1:0<=(y * 48271 + 12345) % 2147483647:=Xf _ 1e6
  have h2:(y * 48271 + 12345) % 2147483647 < 2147483647:=Y6 _ 1e6
  refine ⟨(y * 48271 + 12345) % 2147483647 * ((y * 48271 + 12345) % 2147483647) % 1999999973 % m,x,(y * 48271 + 12345) % 2147483647,?_,Xf _ 1e2,Y6 _ hm.1,h1,h2⟩
  generalize hz:(y * 48271 + 12345) % 2147483647=z at h1 h2
  have c1:(-18446744073709551616 < z/\z < 18446744073709551616):=by lia
  simp![F_l_pick,ixQ,ixP,atI,ixN,hC,hx,hm.1,hm.2,mSetIx,setC,tk,addP,setAt hC,hz,c1]
def GS (C:Cs)(k:Nat):Prop:=∃x y:Int,C[k]? = some (.lst [.int x,.int y])/\0<=y/\y < 2147483647
structure Adv (k:Nat)(C C':Cs):Prop where
 len:C'.length=C.length
 gs:GS C' k
 oth:∀j,j≠k->C'[j]? = C[j]?
theorem Adv.refl {k:Nat}{C:Cs}(h:GS C k):Adv k C C:=⟨rfl,h,fun _ _=>rfl⟩
theorem Adv.trans {k:Nat}{C C1 C2:Cs}(a:Adv k C C1)(b:Adv k C1 C2):Adv k C C2:=⟨b.len.trans a.len,b.gs,fun j h=>(b.oth j h).trans (a.oth j h)⟩
theorem Adv.take {k:Nat}{C C':Cs}(a:Adv k C C'):C'.take C.length=C':=Vr (by rw[a.len];exact Yh _)
theorem Zal (k:Nat)(m:Int)(C:Cs)(h:GS C k)(hm:0 < m/\m < 1073741824):∃d C',F_l_pick [.c k,.v (.int m)] C=some (.v (.int d),C')/\0<=d/\d < m/\Adv k C C':=by
 obtain ⟨x,y,hC,h1,h2⟩:=h
 obtain ⟨d,x',y',e,a1,a2,a3,a4⟩:=pick_spec k x y m C hC ⟨h1,h2⟩ hm
 exact ⟨d,_,e,a1,a2,by simp,⟨x',y',setAt hC,a3,a4⟩,fun j hj=>by rw[Yy (Xx hj)]⟩
theorem comp_adv {te:4e7}{k:Nat}{Pp:PV->Prop}:∀(xs:List PV) (ρ:PSt) (ys:List PV) (C:Cs),GS C k->(∀x C,GS C k->∃p C',te 19e7 C=some (.v p,C')/\Pp p/\Adv k C C')->
  ∃zs C',compL 6e5 tOk te xs ρ ys C=some (ys++zs,C')/\zs.length=xs.length/\(∀p∈zs,Pp p)/\Adv k C C'
 | [],ρ,ys,C,g,h=>⟨[],C,by simp[compL,Pu.ret],rfl,by simp,Adv.refl g⟩
 | x::xs,ρ,ys,C,g,h=>by
  obtain ⟨p,C1,e1,hp,a1⟩:=h x C g
  obtain ⟨zs,C2,e2,hl,hz,a2⟩:=comp_adv (te:=te) (Pp:=Pp) xs 19e7 (ys++[p]) C1 a1.gs fun y C' g'=>by rw[XI];exact h y C' g'
  refine ⟨p::zs,C2,?_,by simp[hl],fun q hq=>?_,a1.trans a2⟩
  ·simp![compL,hName,tOk,e1,e2]
  ·rcases Ym.mp hq with rfl | hq
   ·exact hp
   ·exact hz q hq
theorem ix_all {okk:PV->Bool}(L:List PV)(h:L.all okk=true)(d:Int)(h1:0<=d)(h2:d < L.length):∃p,ixQ (.lst L) (.int d)=some p/\okk p=true:=by
 have hd:d.toNat < L.length:=by lia
 refine ⟨L[d.toNat],?_,YW.mp h _ (Y2 hd)⟩
 simp[ixQ,ixP,atI,ixN,h1,h2,Yb hd]
theorem cut_len (xs:List PV)(lo hi:Option Int):(cutP xs lo hi).length<=xs.length:=by
 unfold cutP
 rw[Xl,Vz]
 lia
theorem ZdQ (ns:List Int)(i:Int)(C:Cs)(hi:0<=i):∃v:Int,F_l_cell_at [.v 15e6,.v (.int i)] C=some (.v (.int v),C):=by
 by_cases h:i < ns.length
 ·have hd:i.toNat < ns.length:=by lia
  refine ⟨ns[i.toNat],?_⟩
  simp![F_l_cell_at,ixQ,ixP,atI,ixN,hi,h,Yb hd]
 ·exact ⟨0,by simp![F_l_cell_at,h]⟩
theorem Zcx (ns:List Int)(k:Int)(C:Cs)(h1:0<=k)(h2:k<=1000):∃x y:Int,FF_l_left [.v 15e6,.v (.int k)] C=some ([.int x,.int y],C)/\0<=y/\y < 2147483647:=by
 have hm:0 < (if (ns.length:Int) > 1 then (ns.length:Int) else 1):=by split<;>lia
 obtain ⟨v,ev⟩:=ZdQ ns (k % (if (ns.length:Int) > 1 then (ns.length:Int) else 1)) C (Xf _ 1e2)
 obtain ⟨u,eu⟩:=ZdQ ns 0 C 1e6
 have c1:-18446744073709551616 < k/\k < 18446744073709551616:=by lia
 have hm':0 < (if 1 < (ns.length:Int) then (ns.length:Int) else 1):=hm
 have ev':F_l_cell_at [.v 15e6,.v (.int (k % (if 1 < (ns.length:Int) then (ns.length:Int) else 1)))] C=some (.v (.int v),C):=ev
 have hcast:(if 1 < (ns.length:Int) then (ns.length:Int) else 1)=if 1 < ns.length then (ns.length:Int) else 1:=by
  by_cases q:1 < ns.length
  ·rw[if_pos q,if_pos 1e2]
  ·rw[if_neg q,if_neg 1e2]
 have p40:(0:Int) < 10 ^ 40:=by decide
 by_cases hu:u % 2=0
 ·refine ⟨0,(v % 2147483629 + 7919 * k * k + 11) * 48271 % 2147483647,?_,Xf _ 1e6,Y6 _ 1e6⟩
  simp![FF_l_left,mDefF,maxH,ev',eu,hm',c1,addP,hu]
 ·refine ⟨v % 10 ^ 40,(v % 2147483629 + 7919 * k * k + 11) * 48271 % 2147483647,?_,Xf _ 1e6,Y6 _ 1e6⟩
  simp![FF_l_left,mDefF,maxH,ev',eu,hm',c1,addP,hu]
structure Lt where
 h:Str
 d:Str
 n:Int
 pv:Int
 gs:List (List Key)
 t:Int
 dd:List Key
def Lt.P (l:Lt):PV:=.tup [.str l.h,.str l.d,.int l.n,.int l.pv,.tup (l.gs.map tupK),.int l.t,tupK l.dd]
def Lt.nm (l:Lt):List Key:=[.inr l.h,.inr l.d,.inl l.n]
def Lt.fo (l:Lt):List Key:=[.inr l.h,.inr l.d,.inl l.pv]
theorem ZaY {α:Type}{f:α->PV}(h:∀x,dat (f x)=true):∀l:List α,dats (l.map f)=true
 | []=>rfl
 | a::l=>by rw[Yq];unfold dats;rw[h a,ZaY h l];rfl
theorem ZaX {α:Type}{f:α->PV}{n:Nat}(h:∀x,dep (f x)<=n):∀l:List α,deps (l.map f)<=n
 | []=>YV _
 | a::l=>by rw[Yq];unfold deps;have:=h a;have:=ZaX h l;lia
theorem Za4 {α:Type}{f:α->PV}(h:∀x,pur (f x)=true):∀l:List α,purs (l.map f)=true
 | []=>rfl
 | a::l=>by rw[Yq];unfold purs;rw[h a,Za4 h l];rfl
theorem Zdl {α:Type}{f:α->PV}(h:∀x,flat (f x)=true):∀l:List α,flats (l.map f)=true
 | []=>rfl
 | a::l=>by rw[Yq];unfold flats;rw[h a,Zdl h l];rfl
theorem dat_kP (k:Key):dat (kP k)=true:=by cases k<;>rfl
theorem dep_kP (k:Key):dep (kP k)<=0:=by cases k<;>exact Yh _
theorem pur_kP (k:Key):pur (kP k)=true:=by cases k<;>rfl
theorem flat_kP (k:Key):flat (kP k)=true:=by cases k<;>rfl
theorem Za8 (k:11e9):dat (tupK k)=true:=by unfold tupK dat;exact ZaY dat_kP k
theorem Zbl (k:11e9):dep (tupK k)<=1:=by unfold tupK dep;have:=ZaX dep_kP k;lia
theorem Za7 (k:11e9):pur (tupK k)=true:=by unfold tupK pur;exact Za4 pur_kP k
theorem flat_tupK (k:11e9):flat (tupK k)=true:=by unfold tupK flat;exact Zdl flat_kP k
theorem dat_P (l:Lt):dat l.P=true:=by simp[Lt.P,dat,dats,ZaY Za8,Za8]
theorem dep_P (l:Lt):dep l.P<=3:=by
 have h1:=ZaX Zbl l.gs
 have h2:=Zbl l.dd
 simp only[Lt.P,dep,deps];lia
theorem pur_P (l:Lt):pur l.P=true:=by simp[Lt.P,pur,purs,Za4 Za7,Za7]
theorem flat_P (l:Lt):flat l.P=true:=by simp[Lt.P,flat,flats,Zdl flat_tupK,flat_tupK]
theorem nm_P (l:Lt):tupK l.nm=.tup [.str l.h,.str l.d,.int l.n]:=rfl
theorem fo_P (l:Lt):tupK l.fo=.tup [.str l.h,.str l.d,.int l.pv]:=rfl
theorem cut3 (l:Lt):cutP [PV.str l.h,.str l.d,.int l.n,.int l.pv,.tup (l.gs.map tupK),.int l.t,tupK l.dd] none (some 3)=[.str l.h,.str l.d,.int l.n]:=by
 simp[cutP,HT.sIx]
theorem cut2 (l:Lt):cutP [PV.str l.h,.str l.d,.int l.n,.int l.pv,.tup (l.gs.map tupK),.int l.t,tupK l.dd] none (some 2)=[.str l.h,.str l.d]:=by
 simp[cutP,HT.sIx]
theorem name_of_eq (l:Lt)(C:Cs):F_name_of [.v l.P] C=some (.v (tupK l.nm),C):=by
 simp![F_name_of,Lt.P,cut3,nm_P]
theorem followed_eq (l:Lt)(C:Cs):F_followed [.v l.P] C=some (.v (tupK l.fo),C):=by
 simp![F_followed,Lt.P,ixQ,ixP,atI,ixN,fo_P]
def pr (l:Lt):List Key×PV:=(l.nm,l.P)
def dF (ls:List Lt):List (List Key)×List PV:=dFold (ls.map pr) [] []
theorem put_len {ks:5e6}{ps:List PV}{k:11e9}{p:PV}(h:ks.length=ps.length):(putKs ks k).length=(putVs ks ps k p).length:=by
 unfold putKs putVs
 cases inK k ks with
 | true=>simp[h]
 | false=>simp[h]
theorem putKs_le (ks:5e6)(k:11e9):(putKs ks k).length<=ks.length + 1:=by
 unfold putKs;split<;>simp
theorem inK_put (ks:5e6)(k q:11e9):inK q (putKs ks k)=(decide (k=q)||inK q ks):=by
 unfold putKs
 cases e:inK k ks with
 | true=>
  simp only[if_true]
  by_cases h:k=q
  ·subst h;rw[e];simp
  ·simp[h]
 | false=>
  simp only[YO,if_false]
  unfold inK
  rw[List.any_append]
  simp[Bool.or_comm]
theorem Zdd (k q:11e9)(p:PV):∀{ks:5e6} {ps:List PV},ks.length=ps.length->inK k ks=true->lookT ks ((ks.zip ps).map fun z=>if z.1=k then p else z.2) q=if k=q then some p else lookT ks ps q
 | [],ps,h,hi=>by cases hi
 | a::ks,[],h,hi=>by simp at h
 | a::ks,b::ps,h,hi=>by
  rw[Xh,Yq]
  unfold lookT
  by_cases ha:a=k
  ·subst ha
   by_cases hq:a=q
   ·simp[hq]
   ·simp only[if_true,hq,if_false]
    by_cases hi2:inK a ks=true
    ·rw[Zdd a q p 12e1 hi2,if_neg hq]
    ·have:((ks.zip ps).map fun z=>if z.1=a then p else z.2)=ps:=by
      clear hi
      induction ks generalizing ps with
      | nil=>cases ps with
       | nil=>rfl
       | cons _ _=>simp at h
      | cons c ks ih=>
       cases ps with
       | nil=>simp at h
       | cons d ps=>
        have hc:¬c=a:=fun z=>hi2 (by unfold inK;rw[XN,z];simp)
        rw[Xh,Yq,ih (ps:=ps) 12e1 (fun z=>hi2 (by unfold inK at z ⊢;rw[XN,z];simp))]
        simp[hc]
     rw[this]
  ·have hi2:inK k ks=true:=by unfold inK at hi ⊢;rw[XN,decide_eq_false ha] at hi;simpa using hi
   simp only[ha,if_false]
   by_cases hq:a=q
   ·subst hq
    rw[if_pos rfl,if_pos rfl,if_neg (fun z=>ha z.symm)]
   ·rw[if_neg hq,if_neg hq];exact Zdd k q p 12e1 hi2
theorem ZdI (k q:11e9)(p:PV):∀{ks:5e6} {ps:List PV},ks.length=ps.length->inK k ks=false->lookT (ks++[k]) (ps++[p]) q=if k=q then some p else lookT ks ps q
 | [],[],h,hi=>by simp[lookT]
 | [],_::_,h,hi=>by simp at h
 | a::ks,[],h,hi=>by simp at h
 | a::ks,b::ps,h,hi=>by
  unfold inK at hi
  rw[XN,Bool.or_eq_false_iff] at hi
  have ha:¬a=k:=of_decide_eq_false hi.1
  rw[List.cons_append,List.cons_append]
  unfold lookT
  by_cases hq:a=q
  ·subst hq
   rw[if_pos rfl,if_pos rfl,if_neg (fun z=>ha z.symm)]
  ·rw[if_neg hq,if_neg hq];exact ZdI k q p 12e1 hi.2
theorem lookT_put {ks:5e6}{ps:List PV}(k q:11e9)(p:PV)(h:ks.length=ps.length):lookT (putKs ks k) (putVs ks ps k p) q=if k=q then some p else lookT ks ps q:=by
 unfold putKs putVs
 cases e:inK k ks with
 | true=>simp only[if_true];exact Zdd k q p h e
 | false=>simp only[YO,if_false];exact ZdI k q p h e
theorem dF_look (q:11e9):∀(ls:List Lt) (ks:5e6) (ps:List PV),ks.length=ps.length->
  (∃l∈ls,l.nm=q/\lookT (dFold (ls.map pr) ks ps).1 (dFold (ls.map pr) ks ps).2 q=some l.P/\inK q (dFold (ls.map pr) ks ps).1=true)\/
  ((∀l∈ls,l.nm≠q)/\lookT (dFold (ls.map pr) ks ps).1 (dFold (ls.map pr) ks ps).2 q=lookT ks ps q/\inK q (dFold (ls.map pr) ks ps).1=inK q ks)
 | [],ks,ps,h=>.inr ⟨(fun _ z=>(nomatch z)),rfl,rfl⟩
 | l::ls,ks,ps,h=>by
  rw[show dFold ((l::ls).map pr) ks ps=dFold (ls.map pr) (putKs ks l.nm) (putVs ks ps l.nm l.P) from rfl]
  rcases dF_look q ls (putKs ks l.nm) (putVs ks ps l.nm l.P) (put_len h) with ⟨m,hm,e1,e2,e3⟩ | ⟨h1,h2,h3⟩
  ·exact .inl ⟨m,YR _ hm,e1,e2,e3⟩
  ·by_cases hq:l.nm=q
   ·refine .inl ⟨l,YM,hq,?_,?_⟩
    ·exact h2.trans (by rw[lookT_put _ _ _ h,if_pos hq])
    ·exact h3.trans (by rw[inK_put,decide_eq_true hq];rfl)
   ·refine .inr ⟨fun m hm=>?_,?_,?_⟩
    ·rcases Ym.mp hm with rfl | hm
     ·exact hq
     ·exact h1 m hm
    ·exact h2.trans (by rw[lookT_put _ _ _ h,if_neg hq])
    ·exact h3.trans (by rw[inK_put,decide_eq_false hq];rfl)
theorem look_out {ls:List Lt}{q:11e9}(h:∀l∈ls,l.nm≠q):inK q (dF ls).1=false:=by
 rcases dF_look q ls [] [] rfl with ⟨m,hm,e1,e2,e3⟩ | ⟨h1,_,h3⟩
 ·exact absurd e1 (h m hm)
 ·exact h3
abbrev bte:PSt->M SV:=mFn F_name_of (aCons 2e1 aNil)
theorem compD_run (C0:Cs):∀(ls:List Lt) (ρ:PSt) (ks:5e6) (ps:List PV),ρ.length=1->ks.length + ls.length<=1000->
  compD 6e5 tOk bte 2e1 C0.length (ls.map Lt.P) ρ (C0++[.dtt ks ps])=some ((),C0++[.dtt (dFold (ls.map pr) ks ps).1 (dFold (ls.map pr) ks ps).2])
 | [],ρ,ks,ps,hr,h=>rfl
 | l::ls,[o],ks,ps,hr,h=>by
  have ih:=compD_run C0 ls [#[l.P]] (putKs ks l.nm) (putVs ks ps l.nm l.P) rfl (by have:=putKs_le ks l.nm;simp at h;lia)
  have hl:ks.length < 1000:=by simp at h;lia
  have hk:keysP [PV.str l.h,.str l.d,.int l.n]=some l.nm:=ZaZ l.nm
  rw[Yq,Yq]
  show compD _ _ _ _ _ _ _ _=some ((),C0++[.dtt (dFold (ls.map pr) (putKs ks l.nm) (putVs ks ps l.nm l.P)).1 _])
  unfold compD
  simp![hName,tOk,bte,name_of_eq,nm_P,putD,hk,hl,ih]
  rfl
theorem by_name_eq (ls:List Lt)(C:Cs)(h:ls.length<=1000):F_by_name [.v 9e2] C=some (.v (.dtt (dF ls).1 (dF ls).2),C):=by
 have:=compD_run C ls [none] [] [] rfl 12e1
 have hb:B_by_name=mRet (mCompD (mItems 2e1) ["letter"] [] 6e5 tOk bte 2e1):=rfl
 unfold F_by_name
 rw[hb]
 generalize hz:(dFold (ls.map pr) [] []:List (List Key)×List PV)=z at this
 simp![mCompD,mItems,itemsP,stIn',this,dF,hz]
def azs:Str:="abcdefghijklmnopqrstuvwxyz"
def azc (d:Int):Nat:=azs.cps.toList.getD d.toNat 0
def sfx (d:Int):Str:=(["","zq","x","qqzzx"]:List Str).getD d.toNat ""
theorem az_inj:∀i j:Fin 26,azs.cps.toList.getD i.1 0=azs.cps.toList.getD j.1 0->i=j:=by decide +kernel
theorem azc_inj {a b:Int}(ha:0<=a/\a < 26)(hb:0<=b/\b < 26)(h:azc a=azc b):a=b:=by
 have:=az_inj ⟨a.toNat,by lia⟩ ⟨b.toNat,by lia⟩ h
 have h2:a.toNat=b.toNat:=by simpa using this
 lia
theorem ix_azc (d:Int)(h:0<=d/\d < 26):ixQ (.str "abcdefghijklmnopqrstuvwxyz") (.int d)=some (.str ⟨[azc d].toArray⟩):=by
 have hl:azs.cps.toList.length=26:=by rfl
 have hd:d.toNat < azs.cps.toList.length:=by lia
 have h3:d < ((azs.cps.toList.length:Nat):Int):=by lia
 show (atI azs.cps.toList d).map _=_
 unfold atI ixN
 rw[if_pos h.1,if_pos h3]
 show ((azs.cps.toList[d.toNat]?).map _)=_
 unfold azc
 rw[Yb hd,XT,Yb hd]
 rfl
def wd (f s:Int)(j:Nat):Str:=(⟨[azc ((f + s * j) % 26)].toArray⟩:Str)++sfx ((f + j * j) % 4)
theorem sfx_len (d:Int)(h:0<=d/\d < 4):(sfx d).length<=5:=by
 have:d=0\/d=1\/d=2\/d=3:=by lia
 rcases this with rfl | rfl | rfl | rfl<;>decide +kernel
theorem ix_sfx (d:Int)(h:0<=d/\d < 4):ixQ (.lst [.str "",.str "zq",.str "x",.str "qqzzx"]) (.int d)=some (.str (sfx d)):=by
 have:d=0\/d=1\/d=2\/d=3:=by lia
 rcases this with rfl | rfl | rfl | rfl<;>simp[ixQ,ixP,atI,ixN,sfx]
theorem app_cps (a b:Str):(a++b).cps=a.cps++b.cps:=rfl
theorem app_len (a b:Str):(a++b).length=a.length + b.length:=by
 show (a.cps++b.cps).size=a.cps.size + b.cps.size
 simp
theorem wd_len (f s:Int)(j:Nat):(wd f s j).length<=10:=by
 unfold wd
 rw[app_len]
 have:=sfx_len ((f + j * j) % 4) ⟨Xf _ 1e6,Y6 _ 1e6⟩
 show 1 + _<=10
 lia
def stepOk (s:Int):Prop:=s=1\/s=3\/s=5\/s=7\/s=9\/s=11
theorem wd_inj {f s:Int}(hs:stepOk s){i j:Nat}(hi:i < 16)(hj:j < 16)(h:wd f s i=wd f s j):i=j:=by
 have h0:(wd f s i).cps[0]? = (wd f s j).cps[0]?:=by rw[h]
 unfold wd at h0
 rw[app_cps,app_cps] at h0
 have h1:azc ((f + s * i) % 26)=azc ((f + s * j) % 26):=by
  rw[VV 4e6,VV 4e6] at h0
  simpa using h0
 have h2:=azc_inj ⟨Xf _ 1e6,Y6 _ 1e6⟩ ⟨Xf _ 1e6,Y6 _ 1e6⟩ h1
 rcases hs with rfl | rfl | rfl | rfl | rfl | rfl<;>lia
abbrev wdt:PSt->M SV:=mOp 4e8 (mOp 3e6 4e4 (mOp (g2 modP) (mOp 4e8 8e1 (mOp (g2 mulP) 7e7 2e1)) (mC (.int 26)))) (mOp 3e6 (mVal (mLst (aCons (mC (.str "")) (aCons (mC (.str "zq")) (aCons (mC (.str "x")) (aCons (mC (.str "qqzzx")) aNil)))))) (mOp (g2 modP) (mOp 4e8 8e1 (mOp (g2 mulP) 2e1 2e1)) 15e8))
theorem wdt_gen (f s j:Int)(az c z:Str)(h1:ixQ (.str az) (.int ((f + s * j) % 26))=some (.str c))(h2:ixQ (.lst [.str "",.str "zq",.str "x",.str "qqzzx"]) (.int ((f + j * j) % 4))=some (.str z))(hl:c.length + z.length<=1000000)(hs:-18446744073709551616 < s/\s < 18446744073709551616)(hj:-18446744073709551616 < j/\j < 18446744073709551616)(C:Cs):
  wdt [#[.int j],#[.str az],#[.int f],#[.int s]] C=some (.v (.str (c++z)),C):=by
 simp![addP,hs,hj,h1,h2,hl]
theorem one_len (c:Nat):(⟨[c].toArray⟩:Str).length=1:=rfl
theorem wdt_eq (f s:Int)(j:Nat)(hf:0<=f/\f < 26)(hs:stepOk s)(hj:j < 16)(C:Cs):wdt [#[(.int (0 + (j:Int)))],#[.str "abcdefghijklmnopqrstuvwxyz"],#[.int f],#[.int s]] C=some (.v (.str (wd f s j)),C):=by
 rw[Int.zero_add]
 unfold wd
 refine wdt_gen f s (j:Int) _ _ _ (ix_azc _ ⟨Xf _ 1e6,Y6 _ 1e6⟩) (ix_sfx _ ⟨Xf _ 1e6,Y6 _ 1e6⟩) ?_ ?_ ?_ C
 ·have h3:=sfx_len ((f + j * j) % 4) ⟨Xf _ 1e6,Y6 _ 1e6⟩
  rw[one_len];lia
 ·unfold stepOk at hs;lia
 ·lia
theorem words_adv (k:Nat)(C:Cs)(h:GS C k):∃(ws:5e9) (C':Cs),F_l_words [.c k,.v (.int 16)] C=some (.v (.lst (ws.map .str)),C')/\ws.length=16/\ws.Nodup/\(∀w∈ws,w.length<=10)/\Adv k C C':=by
 obtain ⟨d,C1,e1,d1,d2,a1⟩:=Zal k 26 C h 1e6
 obtain ⟨s,C2,e2,s1,s2,a2⟩:=Zal k 6 C1 a1.gs 1e6
 have a:=a1.trans a2
 obtain ⟨st,ep,hst⟩:∃st,ixQ (.lst [.int 1,.int 3,.int 5,.int 7,.int 9,.int 11]) (.int s)=some (.int st)/\stepOk st:=by
  have:s=0\/s=1\/s=2\/s=3\/s=4\/s=5:=by lia
  rcases this with rfl | rfl | rfl | rfl | rfl | rfl
  ·exact ⟨1,rfl,.inl rfl⟩
  ·exact ⟨3,rfl,.inr 17e4⟩
  ·exact ⟨5,rfl,.inr (.inr 17e4)⟩
  ·exact ⟨7,rfl,.inr (.inr (.inr 17e4))⟩
  ·exact ⟨9,rfl,.inr (.inr (.inr (.inr 17e4)))⟩
  ·exact ⟨11,rfl,.inr (.inr (.inr (.inr (.inr rfl))))⟩
 have hF:F_l_words=mDef 2 3 (mSeq (mSet 2 (mC (.str "abcdefghijklmnopqrstuvwxyz"))) (mSeq (mSet 3 (mFn F_l_pick (aCons 2e1 (aCons (mC (.int 26)) aNil)))) (mSeq (mSet 4 (mOp 3e6 (mVal (mLst (aCons 1e9 (aCons 6e6 (aCons 13e1 (aCons (mC (.int 7)) (aCons (mC (.int 9)) (aCons (mC (.int 11)) aNil)))))))) (mFn F_l_pick (aCons 2e1 (aCons (mC (.int 6)) aNil))))) (mRetF (mComp (mRange1 (aCons 4e4 aNil)) ["_law_k"] [2,3,4] 6e5 tOk wdt))))):=rfl
 rw[hF]
 have ec:=ZcS (te:=wdt) (f:=fun p=>match p with | .int i=>.str (wd d st i.toNat) | _=>.non) ((Yi 16).map fun (j:Nat)=>PV.int (0 + j)) [none,#[.str "abcdefghijklmnopqrstuvwxyz"],#[.int d],#[.int st]] [] C2 (fun x hx=>by
  obtain ⟨j,hj,rfl⟩:=YB.mp hx
  have:=wdt_eq d st j ⟨d1,d2⟩ hst (Y3.mp hj) C2
  show wdt [#[(.int (0 + (j:Int)))],_,_,_] C2=some (.v (.str (wd d st (0 + (j:Int)).toNat)),C2)
  rw[show (0 + (j:Int)).toNat=j by lia]
  exact this)
 rw[Xp,Xi] at ec
 have em:(Yi 16).map ((fun p=>match p with | .int i=>.str (wd d st i.toNat) | _=>.non) ∘ fun (j:Nat)=>PV.int (0 + (j:Int)))=((Yi 16).map (wd d st)).map PV.str:=by
  rw[Xi]
  apply List.map_congr_left
  intro j hj
  show PV.str (wd d st (0 + (j:Int)).toNat)=_
  rw[show (0 + (j:Int)).toNat=j by lia];rfl
 rw[em] at ec
 refine ⟨(Yi 16).map (wd d st),C2,?_,by simp,?_,?_,a⟩
 ·have hr:rng1P [.v (.int 16)]=some ((Yi 16).map fun (j:Nat)=>PV.int (0 + j)):=rfl
  have hl9:((Yi 16).map fun (j:Nat)=>PV.int (0 + j)).length<=100000:=by decide
  generalize ((Yi 16).map fun (j:Nat)=>PV.int (0 + j))=rs at ec hr hl9
  generalize ((Yi 16).map (wd d st)).map PV.str=zs at ec
  generalize ("abcdefghijklmnopqrstuvwxyz":Str)=az at ec ⊢
  generalize wdt=te at ec
  simp![e1,e2,ep,mComp,mRange1,hr,hl9,stIn',ec,a.take]
 ·rw[Y0,XH]
  refine Ws (fun {x y} hx hy hne e=>?_) (Y0.mp VB)
  exact hne (wd_inj hst (Y3.mp hx) (Y3.mp hy) e)
 ·intro w hw
  obtain ⟨j,_,rfl⟩:=YB.mp hw
  exact wd_len _ _ _
def szP (zs:List Int):PV:=.lst (zs.map .int)
structure SzOk (zs:List Int):Prop where
 ne:0 < zs.length
 le:zs.length<=12
 rg:∀z∈zs,1<=z/\z<=9
def EvOk (ks:11e9):Prop:=(∃i,ks=[.inr "joined",.inl i])\/(∃i w,ks=[.inr "said",.inl i,.inr w])\/∃a b c,ks=[.inr "did",.inl a,.inl b,.inl c]
theorem ix_ints {zs:List Int}(h:SzOk zs)(d:Int)(h1:0<=d)(h2:d < zs.length):∃z,ixQ (szP zs) (.int d)=some (.int z)/\1<=z/\z<=9:=by
 have hd:d.toNat < zs.length:=by lia
 refine ⟨zs[d.toNat],?_,h.rg _ (Y2 hd)⟩
 simp[szP,ixQ,ixP,atI,ixN,h1,h2,Yb hd]
theorem ix_szs {os:List (List Int)}(h:∀z∈os,SzOk z)(d:Int)(h1:0<=d)(h2:d < os.length):∃z,ixQ (.lst (os.map szP)) (.int d)=some (szP z)/\SzOk z:=by
 have hd:d.toNat < os.length:=by lia
 refine ⟨os[d.toNat],?_,h _ (Y2 hd)⟩
 simp[ixQ,ixP,atI,ixN,h1,h2,Yb hd]
theorem ix_strs (ws:5e9)(d:Int)(h1:0<=d)(h2:d < ws.length):∃w∈ws,ixQ (.lst (ws.map .str)) (.int d)=some (.str w):=by
 have hd:d.toNat < ws.length:=by lia
 refine ⟨ws[d.toNat],Y2 hd,?_⟩
 simp[ixQ,ixP,atI,ixN,h1,h2,Yb hd]
theorem event_adv (k:Nat)(H:Int)(os:List (List Int))(zs:List Int)(ws:5e9)(own:Int)(C:Cs)(g:GS C k)(hH:2<=H/\H<=8)(ho:∀z∈os,SzOk z)(hol:os.length<=100)(hz:SzOk zs)(hw:4<=ws.length):
  ∃ks C',F_l_event [.c k,.v (.tup [.int H,.lst (os.map szP),szP zs]),.v (.lst (ws.map .str)),.v (.int own)] C=some (.v (tupK ks),C')/\EvOk ks/\Adv k C C':=by
 obtain ⟨w,C1,e1,w1,w2,a1⟩:=Zal k 6 C g 1e6
 by_cases h2:w < 2
 ·obtain ⟨i,C2,e2,i1,i2,a2⟩:=Zal k H C1 a1.gs 1e2
  have a:=a1.trans a2
  refine ⟨[.inr "joined",.inl i],C2,?_,.inl ⟨i,rfl⟩,a⟩
  generalize os.map szP=OS
  generalize szP zs=ZS
  generalize ws.map PV.str=WS
  simp![F_l_event,mAsg,hTup,hCons,hName,hNil,e1,ltP,h2,e2,a.take,tupK,kP]
 ·by_cases h4:w < 4
  ·obtain ⟨i,C2,e2,i1,i2,a2⟩:=Zal k H C1 a1.gs 1e2
   obtain ⟨j,C3,e3,j1,j2,a3⟩:=Zal k 4 C2 a2.gs 1e6
   have a:=(a1.trans a2).trans a3
   obtain ⟨v,_,ev⟩:=ix_strs ws j j1 1e2
   have ev':ixT (.lst (ws.map .str)) (.int j)=some (.str v):=ev
   refine ⟨[.inr "said",.inl i,.inr v],C3,?_,.inr (.inl ⟨i,v,rfl⟩),a⟩
   generalize os.map szP=OS
   generalize szP zs=ZS
   generalize ws.map PV.str=WS at *
   simp![F_l_event,mAsg,hTup,hCons,hName,hNil,e1,ltP,h2,h4,e2,e3,ev',ev,a.take,tupK,kP]
  ·obtain ⟨i,C2,e2,i1,i2,a2⟩:=Zal k ((os.length:Int) + 1) C1 a1.gs 1e2
   obtain ⟨z,ez,hzz⟩:∃z,ixQ (.lst (szP zs::os.map szP)) (.int i)=some (szP z)/\SzOk z:=by
    have:=ix_szs (os:=zs::os) (fun y hy=>by
     rcases Ym.mp hy with rfl | hy
     ·exact hz
     ·exact ho y hy) i i1 (by simp;lia)
    simpa using this
   have hne:=hzz.ne
   have hle:=hzz.le
   obtain ⟨c,C3,e3,c1,c2,a3⟩:=Zal k (z.length:Int) C2 a2.gs 1e2
   obtain ⟨y,ey,y1,y2⟩:=ix_ints hzz c c1 c2
   have hlz:lenH [szP z]=some (.int (z.length:Int)):=by simp[szP,lenH]
   have hlo:1 + (os.map szP).length<=1000000:=by simp;lia
   have hcat:addP (.lst [szP zs]) (.lst (os.map szP))=some (.lst (szP zs::os.map szP)):=by
    unfold addP;simp;lia
   have hlOS:lenH [.lst (os.map szP)]=some (.int (os.length:Int)):=by simp[lenH]
   by_cases hj:i=0/\c=own
   ·obtain ⟨b,C4,e4,b1,b2,a4⟩:=Zal k H C3 a3.gs 1e2
    have a:=((a1.trans a2).trans a3).trans a4
    refine ⟨[.inr "joined",.inl b],C4,?_,.inl ⟨b,rfl⟩,a⟩
    have at':=a.take
    obtain ⟨rfl,rfl⟩:=hj
    generalize os.map szP=OS at *
    generalize szP zs=ZS at *
    generalize szP z=SZ at *
    generalize ws.map PV.str=WS
    simp[F_l_event,mDef,mRet,mCB,mOp,mTest,mAndT,mIfS,mSeq,mSkip,mSet,mTup,mLst,mVal,mFn,bnd,opM,aCons,aNil,mVar,mC,Pu.ret,g1,g2,derefs,deref,mB,asB,intP,fin,Pu.plain,eqP,scP,mAsg,hTup,hCons,hName,hNil,e1,ltP,h2,h4,hlOS,hlo,addP,e2,ez,hlz,e3,e4,at',tupK,kP]
   ·obtain ⟨b,C4,e4,b1,b2,a4⟩:=Zal k y C3 a3.gs 1e2
    have a:=((a1.trans a2).trans a3).trans a4
    refine ⟨[.inr "did",.inl i,.inl c,.inl b],C4,?_,.inr (.inr ⟨i,c,b,rfl⟩),a⟩
    have at':=a.take
    generalize os.map szP=OS at *
    generalize szP zs=ZS at *
    generalize szP z=SZ at *
    generalize ws.map PV.str=WS
    by_cases hi0:i=0
    ·have hc:¬c=own:=fun q=>hj ⟨hi0,q⟩
     subst hi0
     simp[F_l_event,mDef,mRet,mCB,mOp,mTest,mAndT,mIfS,mSeq,mSkip,mSet,mTup,mLst,mVal,mFn,bnd,opM,aCons,aNil,mVar,mC,Pu.ret,g1,g2,derefs,deref,mB,asB,intP,fin,Pu.plain,eqP,scP,mAsg,hTup,hCons,hName,hNil,e1,ltP,h2,h4,hlOS,hlo,addP,e2,ez,hlz,e3,hc,ey,e4,at',tupK,kP]
    ·simp[F_l_event,mDef,mRet,mCB,mOp,mTest,mAndT,mIfS,mSeq,mSkip,mSet,mTup,mLst,mVal,mFn,bnd,opM,aCons,aNil,mVar,mC,Pu.ret,g1,g2,derefs,deref,mB,asB,intP,fin,Pu.plain,eqP,scP,mAsg,hTup,hCons,hName,hNil,e1,ltP,h2,h4,hlOS,hlo,addP,e2,ez,hlz,e3,hi0,ey,e4,at',tupK,kP]
theorem Zam {f g:13e8}{ρ ρ1:PSt}{C C1:Cs}(h:f ρ C=some (.nx ρ1,C1)):mSeq f g ρ C=g ρ1 C1:=by
 unfold mSeq bnd;rw[h]
theorem ZbB {g:5e2}{f:13e8}(Pi:Nat->PSt->Cs->Prop)(N:Nat):∀(xs:List PV) (i:Nat),i + xs.length<=N->(∀x∈xs,∀i ρ C,i < N->Pi i ρ C->∃ρ1 ρ2 C2,g x ρ=some ρ1/\f ρ1 C=some (.nx ρ2,C2)/\Pi (i + 1) ρ2 C2)->∀ρ C,Pi i ρ C->∃ρ' C',loop g f xs ρ C=some (.nx ρ',C')/\Pi (i + xs.length) ρ' C'
 | [],i,_,_,ρ,C,h=>⟨ρ,C,rfl,h⟩
 | x::xs,i,hN,hs,ρ,C,h=>by
  simp only[YX] at hN
  obtain ⟨ρ1,ρ2,C2,e1,e2,h2⟩:=hs x 4e6 i ρ C 1e2 h
  obtain ⟨ρ',C',e3,h3⟩:=ZbB Pi N xs (i + 1) 1e2 (fun y hy=>hs y (by simp[hy])) ρ2 C2 h2
  refine ⟨ρ',C',?_,by simpa[Nat.add_assoc,Nat.add_comm 1] using h3⟩
  unfold loop
  simp only[e1,bnd,e2,e3]
structure Cl where
 a:Int
 b:Int
 p:Int
 w:Int
 cs:List (List Key)
 lv:Option (List Key×Int)
def lvP:Option (List Key×Int)->PV
 | none=>.tup []
 | some (e,n)=>.tup [tupK e,.int n]
def Cl.P (c:Cl):PV:=.tup [.int c.a,.int c.b,.int c.p,.int c.w,.tup (c.cs.map tupK),lvP c.lv]
structure ClOk (c:Cl):Prop where
 p:1<=c.p/\c.p<=9
 cs:∀e∈c.cs,EvOk e
 le:c.cs.length<=8
 lv:∀e n,c.lv=some (e,n)->EvOk e
abbrev evt:PSt->M SV:=mFn F_l_event (aCons 2e1 (aCons (mTup (aCons 4e4 (aCons 7e7 5e7))) (aCons 18e3 (aCons 17e5 aNil))))
abbrev ebd:PSt->M PF:=mSeq (mSet 12 evt) (mIfS 10e0 (mDrop (mApp 18e2 (aCons (mVar 12) aNil))) mSkip)
section
variable (k m n:Nat)(H:Int)(os:List (List Int))(zs:List Int)(ws:5e9)
abbrev bas:PSt:=[3e9,#[.int H],#[szP zs],#[.lst (os.map szP)],4e5,some (.c m)]
theorem evt_adv (c:Int)(x7 x8 x9 x10 x11 x12 x13 x14:8e6)(C:Cs)(g:GS C k)(hH:2<=H/\H<=8)(ho:∀z∈os,SzOk z)(hol:os.length<=100)(hz:SzOk zs)(hw:4<=ws.length):
  ∃e C',evt (bas k m H os zs ws++[14e0,x7,x8,x9,x10,x11,x12,x13,x14]) C=some (.v (tupK e),C')/\EvOk e/\Adv k C C':=by
 obtain ⟨e,C',h,he,a⟩:=event_adv k H os zs ws c C g hH ho hol hz hw
 refine ⟨e,C',?_,he,a⟩
 simp![evt]
 exact h
theorem notin_ev (e:11e9)(es:5e6):∃b,inDP true (tupK e) (.lst (es.map tupK))=some (.bl b):=by
 have h1:dats (es.map tupK)=true:=ZaY Za8 _
 have h2:deps (es.map tupK)<=50:=YQ (ZaX Zbl _) 1e6
 refine ⟨!(es.map tupK).any (fun p=>eqD p (tupK e)),?_⟩
 unfold inDP
 dsimp only
 rw[h1,Za8,decide_eq_true h2];rfl
theorem ebd_ok (c:Int)(x7 x8 x9 x11 x12 x13 x14:8e6)(C:Cs)(es:5e6)(g:GS C k)(hkn:k≠n)(hC:C[n]? = some (.lst (es.map tupK)))(hes:∀e∈es,EvOk e)(hl:es.length<=1000)(hH:2<=H/\H<=8)(ho:∀z∈os,SzOk z)(hol:os.length<=100)(hz:SzOk zs)(hw:4<=ws.length):
  ∃(y12:8e6) (C':Cs) (es':5e6),ebd (bas k m H os zs ws++[14e0,x7,x8,x9,18e1,x11,x12,x13,x14]) C=some (.nx (bas k m H os zs ws++[14e0,x7,x8,x9,18e1,x11,y12,x13,x14]),C')/\GS C' k/\C'[n]? = some (.lst (es'.map tupK))/\(∀e∈es',EvOk e)/\es'.length<=es.length + 1/\C'.length=C.length/\∀j,j≠k->j≠n->C'[j]? = C[j]?:=by
 obtain ⟨e,C1,h1,he,a⟩:=evt_adv k m H os zs ws c x7 x8 x9 (some (.c n)) x11 x12 x13 x14 C g hH ho hol hz hw
 have hn1:C1[n]? = some (.lst (es.map tupK)):=by rw[a.oth n (Xx hkn)];exact hC
 obtain ⟨b,hb⟩:=notin_ev e es
 have st1:mSet 12 evt (bas k m H os zs ws++[14e0,x7,x8,x9,18e1,x11,x12,x13,x14]) C=some (.nx (bas k m H os zs ws++[14e0,x7,x8,x9,18e1,x11,#[tupK e],x13,x14]),C1):=by
  unfold mSet bnd;rw[h1];rfl
 have hll:(es.map tupK).length < 100000:=by simp;lia
 cases b with
 | false=>
  refine ⟨#[tupK e],C1,es,?_,a.gs,hn1,hes,by lia,a.len,fun j h _=>a.oth j h⟩
  rw[show ebd=mSeq (mSet 12 evt) (mIfS 10e0 (mDrop (mApp 18e2 (aCons (mVar 12) aNil))) mSkip) from rfl,Zam st1]
  generalize tupK e=E at *
  generalize es.map tupK=ES at *
  simp![hn1,hb]
 | true=>
  have hes2:(es++[e]).map tupK=es.map tupK++[tupK e]:=by simp
  refine ⟨#[tupK e],C1.set n (.lst ((es++[e]).map tupK)),es++[e],?_,?_,setAt hn1,?_,by simp,by simp[a.len],fun j h h'=>?_⟩
  ·rw[show ebd=mSeq (mSet 12 evt) (mIfS 10e0 (mDrop (mApp 18e2 (aCons (mVar 12) aNil))) mSkip) from rfl,Zam st1,hes2]
   generalize tupK e=E at *
   generalize es.map tupK=ES at *
   simp![hn1,hb,mApp,isLst,appC,hll]
  ·obtain ⟨x,y,h,r⟩:=a.gs
   exact ⟨x,y,by rw[Yy (Xx hkn)];exact h,r⟩
  ·intro z hz'
   rcases Yw.mp hz' with hz' | hz'
   ·exact hes z hz'
   ·rw[Yk.mp hz'];exact he
  ·rw[Yy (Xx h')];exact a.oth j h
end
abbrev crd:PSt->M SV:=mOp (g2 modP) (mOp 4e8 (mOp 4e8 19e5 1e9) (mFn F_l_pick (aCons 2e1 (aCons (mOp (g2 subP) 4e4 1e9) aNil)))) 4e4
abbrev rgE:PSt->M SV:=mOp 3e6 (mVal (mLst (aCons 3e4 (aCons 1e9 (aCons 3e4 (aCons 2e9 (aCons 1e9 (aCons 3e4 (aCons 6e6 10e5))))))))) (mFn F_l_pick (aCons 2e1 10e5))
abbrev lvS:PSt->M PF:=mIfS (mTest (mOp 14e4 7e2 3e4)) (mSeq (mSet 12 evt) (mIfS 10e0 (mSet 13 (mTup (aCons (mVar 12) (aCons (mOp 4e8 1e9 17e1) aNil)))) mSkip)) mSkip
abbrev wth:PSt->M SV:=mOp 3e6 (mVal (mLst (aCons (mOp 4e8 1e9 (mFn F_l_pick (aCons 2e1 (aCons (mC (.int 6)) aNil)))) (aCons (mOp 4e8 1e9 (mFn F_l_pick (aCons 2e1 (aCons (mC (.int 40)) aNil)))) aNil)))) 7e2
abbrev clT:PSt->M SV:=mTup (aCons 19e5 (aCons (mVar 9) (aCons (mVar 7) (aCons (mVar 14) (aCons (mCB (g1 tupH) (aCons 18e2 aNil)) (aCons (mVar 13) aNil))))))
abbrev cbd:PSt->M PF:=mSeq (mSet 8 (mFn F_l_pick (aCons 2e1 (aCons 4e4 aNil)))) (mSeq (mSet 9 crd) (mSeq (mNew 10 (mLst aNil)) (mSeq (mFor (mRange1 (aCons rgE aNil)) (hName 11) ebd) (mSeq (mSet 13 (mTup aNil)) (mSeq lvS (mSeq (mSet 14 wth) (mDrop (mApp (mVar 5) (aCons clT aNil)))))))))
theorem clauses_is:B_l_clauses=mSeq (mNew 5 (mLst aNil)) (mSeq (mFor (mEnum 5e7) (hTup (hCons (hName 6) (hCons (hName 7) hNil)) 2) cbd) (mRet (mCB (g1 tupH) 7e3))):=rfl
section
variable (k m:Nat)(H:Int)(os:List (List Int))(zs:List Int)(ws:5e9)
theorem crd_adv (d:Int)(x6 x7 x9 x10 x11 x12 x13 x14:8e6)(C:Cs)(g:GS C k)(hH:2<=H/\H<=8):
  ∃v C',crd (bas k m H os zs ws++[x6,x7,#[.int d],x9,x10,x11,x12,x13,x14]) C=some (.v (.int v),C')/\Adv k C C':=by
 obtain ⟨y,C',e,y1,y2,a⟩:=Zal k (H - 1) C g 1e2
 refine ⟨(d + 1 + y) % H,C',?_,a⟩
 have h1:0 < H:=by lia
 have h2:H < 1073741824:=by lia
 simp![crd,addP,subP,e,modP,h1,h2]
theorem rgE_adv (x6 x7 x8 x9 x10 x11 x12 x13 x14:8e6)(C:Cs)(g:GS C k):
  ∃v C',rgE (bas k m H os zs ws++[x6,x7,x8,x9,x10,x11,x12,x13,x14]) C=some (.v (.int v),C')/\0<=v/\v<=8/\Adv k C C':=by
 obtain ⟨y,C',e,y1,y2,a⟩:=Zal k 8 C g 1e6
 obtain ⟨v,hv,h0,h8⟩:∃v,ixQ (.lst [.int 0,.int 1,.int 0,.int 2,.int 1,.int 0,.int 3,.int 8]) (.int y)=some (.int v)/\0<=v/\v<=8:=by
  obtain ⟨p,ep,hp⟩:=ix_all (okk:=fun p=>match p with | .int i=>decide (0<=i)&&decide (i<=8) | _=>false) [.int 0,.int 1,.int 0,.int 2,.int 1,.int 0,.int 3,.int 8] (by rfl) y y1 (by simpa using y2)
  cases p with
  | int i=>simp only[Yt,decide_eq_true_eq] at hp;exact ⟨i,ep,hp⟩
  | _=>cases hp
 refine ⟨v,C',?_,h0,h8,a⟩
 simp![rgE,e,hv]
theorem wth_adv (x6 x7 x8 x9 x10 x11 x12 x13 x14:8e6)(C:Cs)(g:GS C k):
  ∃v C',wth (bas k m H os zs ws++[x6,x7,x8,x9,x10,x11,x12,x13,x14]) C=some (.v (.int v),C')/\Adv k C C':=by
 obtain ⟨y1,C1,e1,_,_,a1⟩:=Zal k 6 C g 1e6
 obtain ⟨y2,C2,e2,_,_,a2⟩:=Zal k 40 C1 a1.gs 1e6
 obtain ⟨y3,C3,e3,h1,h2,a3⟩:=Zal k 2 C2 a2.gs 1e6
 obtain ⟨v,hv⟩:∃v,ixQ (.lst [.int (1 + y1),.int (1 + y2)]) (.int y3)=some (.int v):=by
  have:y3=0\/y3=1:=by lia
  rcases this with rfl | rfl
  ·exact 9e7
  ·exact 9e7
 refine ⟨v,C3,?_,(a1.trans a2).trans a3⟩
 simp![wth,addP,e1,e2,e3,hv]
theorem lvS_ok (n:Nat)(c:Int)(x7 x8 x9 x11 x12 x14:8e6)(C:Cs)(es:5e6)(g:GS C k)(hkn:k≠n)(hC:C[n]? = some (.lst (es.map tupK)))(hH:2<=H/\H<=8)(ho:∀z∈os,SzOk z)(hol:os.length<=100)(hz:SzOk zs)(hw:4<=ws.length):
  ∃(y12:8e6) (lv:Option (List Key×Int)) (C':Cs),lvS (bas k m H os zs ws++[14e0,x7,x8,x9,18e1,x11,x12,#[.tup []],x14]) C=some (.nx (bas k m H os zs ws++[14e0,x7,x8,x9,18e1,x11,y12,#[lvP lv],x14]),C')/\(∀e i,lv=some (e,i)->EvOk e)/\Adv k C C':=by
 obtain ⟨y,C1,e1,y1,y2,a1⟩:=Zal k 2 C g 1e6
 have t:deepP eqD (.int y) (.int 0)=some (.bl (y==0)):=by simp[deepP,dat,dep,eqD]
 cases hy:(y==0) with
 | false=>
  rw[hy] at t
  refine ⟨x12,none,C1,?_,(fun e i h=>(nomatch h)),a1⟩
  simp![lvS,e1,t,lvP]
 | true=>
  rw[hy] at t
  obtain ⟨e,C2,h2,he,a2⟩:=evt_adv k m H os zs ws c x7 x8 x9 (some (.c n)) x11 x12 #[.tup []] x14 C1 a1.gs hH ho hol hz hw
  have a12:=a1.trans a2
  have hn2:C2[n]? = some (.lst (es.map tupK)):=by rw[a12.oth n (Xx hkn)];exact hC
  obtain ⟨b,hb⟩:=notin_ev e es
  have st0:∀f:PSt->M PF,mIfS (mTest (mOp 14e4 7e2 3e4)) f mSkip (bas k m H os zs ws++[14e0,x7,x8,x9,18e1,x11,x12,#[.tup []],x14]) C=f (bas k m H os zs ws++[14e0,x7,x8,x9,18e1,x11,x12,#[.tup []],x14]) C1:=fun f=>by
   simp![e1,t]
  have st1:mSet 12 evt (bas k m H os zs ws++[14e0,x7,x8,x9,18e1,x11,x12,#[.tup []],x14]) C1=some (.nx (bas k m H os zs ws++[14e0,x7,x8,x9,18e1,x11,#[tupK e],#[.tup []],x14]),C2):=by
   unfold mSet bnd;rw[h2];rfl
  cases b with
  | false=>
   refine ⟨#[tupK e],none,C2,?_,(fun e i h=>(nomatch h)),a12⟩
   rw[show lvS=mIfS (mTest (mOp 14e4 7e2 3e4)) (mSeq (mSet 12 evt) (mIfS 10e0 (mSet 13 (mTup (aCons (mVar 12) (aCons (mOp 4e8 1e9 17e1) aNil)))) mSkip)) mSkip from rfl,st0,Zam st1]
   generalize tupK e=E at *
   generalize es.map tupK=ES at *
   simp![hn2,hb,lvP]
  | true=>
   obtain ⟨z,C3,e3,_,_,a3⟩:=Zal k 9 C2 a12.gs 1e6
   refine ⟨#[tupK e],some (e,1 + z),C3,?_,(fun e' i h=>by cases h;exact he),a12.trans a3⟩
   rw[show lvS=mIfS (mTest (mOp 14e4 7e2 3e4)) (mSeq (mSet 12 evt) (mIfS 10e0 (mSet 13 (mTup (aCons (mVar 12) (aCons (mOp 4e8 1e9 17e1) aNil)))) mSkip)) mSkip from rfl,st0,Zam st1]
   rw[show lvP (some (e,1 + z))=.tup [tupK e,.int (1 + z)] from rfl]
   generalize tupK e=E at *
   generalize es.map tupK=ES at *
   simp![hn2,hb,e3,addP]
end
theorem GS.lt {C:Cs}{k:Nat}(g:GS C k):k < C.length:=by
 obtain ⟨x,y,h,_⟩:=g
 rcases YC k C.length with q | q
 ·exact q
 ·rw[Yg.mpr q] at h;cases h
theorem GS.app {C:Cs}{k:Nat}(g:GS C k)(c:PV):GS (C++[c]) k:=by
 have hl:=g.lt
 obtain ⟨x,y,h,r⟩:=g
 exact ⟨x,y,by rw[Yf hl];exact h,r⟩
section
variable (k m:Nat)(H:Int)(os:List (List Int))(zs:List Int)(ws:5e9)
theorem cbd_ok (c p:Int)(x8 x9 x10 x11 x12 x13 x14:8e6)(C:Cs)(cs:List Cl)(g:GS C k)(hkm:k≠m)(hC:C[m]? = some (.lst (cs.map Cl.P)))(hcs:∀d∈cs,ClOk d)(hl:cs.length<=1000)(hp:1<=p/\p<=9)(hH:2<=H/\H<=8)(ho:∀z∈os,SzOk z)(hol:os.length<=100)(hz:SzOk zs)(hw:4<=ws.length):
  ∃(y8 y9 y10 y11 y12 y13 y14:8e6) (C':Cs) (d:Cl),cbd (bas k m H os zs ws++[14e0,#[.int p],x8,x9,x10,x11,x12,x13,x14]) C=some (.nx (bas k m H os zs ws++[14e0,#[.int p],y8,y9,y10,y11,y12,y13,y14]),C')/\ClOk d/\GS C' k/\C'[m]? = some (.lst ((cs++[d]).map Cl.P))/\C.length<=C'.length/\∀j,j < C.length->j≠k->j≠m->C'[j]? = C[j]?:=by
 have hml:m < C.length:=by
  rcases YC m C.length with q | q
  ·exact q
  ·rw[Yg.mpr q] at hC;cases hC
 obtain ⟨d,C1,e1,d1,d2,a1⟩:=Zal k H C g 1e2
 have st1:mSet 8 (mFn F_l_pick (aCons 2e1 (aCons 4e4 aNil))) (bas k m H os zs ws++[14e0,#[.int p],x8,x9,x10,x11,x12,x13,x14]) C=some (.nx (bas k m H os zs ws++[14e0,#[.int p],#[.int d],x9,x10,x11,x12,x13,x14]),C1):=by
  simp![e1]
 obtain ⟨v,C2,e2,a2⟩:=crd_adv k m H os zs ws d #[.int c] #[.int p] x9 x10 x11 x12 x13 x14 C1 a1.gs hH
 have a12:=a1.trans a2
 have st2:mSet 9 crd (bas k m H os zs ws++[14e0,#[.int p],#[.int d],x9,x10,x11,x12,x13,x14]) C1=some (.nx (bas k m H os zs ws++[14e0,#[.int p],#[.int d],#[.int v],x10,x11,x12,x13,x14]),C2):=by
  unfold mSet bnd;rw[e2];rfl
 have st3:mNew 10 (mLst aNil) (bas k m H os zs ws++[14e0,#[.int p],#[.int d],#[.int v],x10,x11,x12,x13,x14]) C2=some (.nx (bas k m H os zs ws++[14e0,#[.int p],#[.int d],#[.int v],6e0,x11,x12,x13,x14]),C2++[.lst []]):=by
  simp![mNew]
 have g3:=a12.gs.app (.lst [])
 have hkn:k≠C2.length:=Yr a12.gs.lt
 have hmn:m≠C2.length:=by rw[a12.len];lia
 obtain ⟨r,C4,e4,r0,r8,a4⟩:=rgE_adv k m H os zs ws #[.int c] #[.int p] #[.int d] #[.int v] (some (.c C2.length)) x11 x12 x13 x14 (C2++[.lst []]) g3
 have hn4:C4[C2.length]? = some (.lst (([]:List (List Key)).map tupK)):=by rw[a4.oth _ (Xx hkn)];simp
 obtain ⟨ρ',C5,e5,hpi⟩:=ZbB (g:=hName 11) (f:=ebd) (fun i ρ D=>∃(z11 z12:8e6) (es:5e6),ρ=bas k m H os zs ws++[14e0,#[.int p],#[.int d],#[.int v],6e0,z11,z12,x13,x14]/\GS D k/\D[C2.length]? = some (.lst (es.map tupK))/\(∀e∈es,EvOk e)/\es.length<=i/\D.length=C4.length/\∀j,j≠k->j≠C2.length->D[j]? = C4[j]?) 8
  ((Yi r.toNat).map fun (q:Nat)=>PV.int (0 + q)) 0 11e0 (fun x hx i ρ D hi h=>by
   obtain ⟨z11,z12,es,rfl,h1,h2,h3,h4,h5,h6⟩:=h
   obtain ⟨y12,D',es',t1,t2,t3,t4,t5,t6,t7⟩:=ebd_ok k m C2.length H os zs ws c #[.int p] #[.int d] #[.int v] #[x] z12 x13 x14 D es h1 hkn h2 h3 1e2 hH ho hol hz hw
   exact ⟨_,_,D',rfl,t1,#[x],y12,es',rfl,t2,t3,t4,by lia,by rw[t6,h5],fun j q1 q2=>by rw[t7 j q1 q2,h6 j q1 q2]⟩) (bas k m H os zs ws++[#[.int c],#[.int p],#[.int d],#[.int v],some (.c C2.length),x11,x12,x13,x14]) C4 ⟨x11,x12,[],rfl,a4.gs,hn4,(fun e h=>(nomatch h)),Yh _,rfl,fun _ _ _=>rfl⟩
 obtain ⟨z11,z12,es,rfl,g5,hn5,hes,hel,hl5,ho5⟩:=hpi
 have hel8:es.length<=8:=by simp at hel;lia
 have st4:mFor (mRange1 (aCons rgE aNil)) (hName 11) ebd (bas k m H os zs ws++[14e0,#[.int p],#[.int d],#[.int v],6e0,x11,x12,x13,x14]) (C2++[.lst []])=some (.nx (bas k m H os zs ws++[14e0,#[.int p],#[.int d],#[.int v],6e0,z11,z12,x13,x14]),C5):=by
  have hr:rng1P [.v (.int r)]=some ((Yi r.toNat).map fun (q:Nat)=>PV.int (0 + q)):=by
   unfold rng1P;dsimp only;rw[if_pos 1e2]
  have hm:mRange1 (aCons rgE aNil) (bas k m H os zs ws++[14e0,#[.int p],#[.int d],#[.int v],6e0,x11,x12,x13,x14]) (C2++[.lst []])=some ((Yi r.toNat).map fun (q:Nat)=>PV.int (0 + q),C4):=by
   have:aCons rgE aNil (bas k m H os zs ws++[14e0,#[.int p],#[.int d],#[.int v],6e0,x11,x12,x13,x14]) (C2++[.lst []])=some ([.v (.int r)],C4):=by
    unfold aCons bnd;rw[e4];rfl
   unfold mRange1 bnd;rw[this]
   show opM (fun _=>rng1P [.v (.int r)]) C4=_
   unfold opM;dsimp only;rw[hr]
  unfold mFor bnd;rw[hm];exact e5
 have st5:mSet 13 (mTup aNil) (bas k m H os zs ws++[14e0,#[.int p],#[.int d],#[.int v],6e0,z11,z12,x13,x14]) C5=some (.nx (bas k m H os zs ws++[14e0,#[.int p],#[.int d],#[.int v],6e0,z11,z12,#[.tup []],x14]),C5):=by
  simp![]
 obtain ⟨u12,lv,C6,st6,hlv,a6⟩:=lvS_ok k m H os zs ws C2.length c #[.int p] #[.int d] #[.int v] z11 z12 x14 C5 es g5 hkn hn5 hH ho hol hz hw
 obtain ⟨wi,C7,e7,a7⟩:=wth_adv k m H os zs ws #[.int c] #[.int p] #[.int d] #[.int v] (some (.c C2.length)) z11 u12 #[lvP lv] x14 C6 a6.gs
 have st7:mSet 14 wth (bas k m H os zs ws++[14e0,#[.int p],#[.int d],#[.int v],6e0,z11,u12,#[lvP lv],x14]) C6=some (.nx (bas k m H os zs ws++[14e0,#[.int p],#[.int d],#[.int v],6e0,z11,u12,#[lvP lv],#[.int wi]]),C7):=by
  unfold mSet bnd;rw[e7];rfl
 have a67:=a6.trans a7
 have hn7:C7[C2.length]? = some (.lst (es.map tupK)):=by rw[a67.oth _ (Xx hkn)];exact hn5
 have hoth:∀j,j < C.length->j≠k->C7[j]? = C[j]?:=fun j hj hk=>by
  have hjn:j≠C2.length:=by rw[a12.len];lia
  rw[a67.oth j hk,ho5 j hk hjn,a4.oth j hk,Yf (by rw[a12.len];exact hj),a12.oth j hk]
 have hm7:C7[m]? = some (.lst (cs.map Cl.P)):=by rw[hoth m hml (Xx hkm)];exact hC
 have hlen7:C.length<=C7.length:=by rw[a67.len,hl5,a4.len,Xa,a12.len];lia
 have hll:(cs.map Cl.P).length < 100000:=by simp;lia
 refine ⟨#[.int d],#[.int v],6e0,z11,u12,#[lvP lv],#[.int wi],C7.set m (.lst ((cs++[(⟨d,v,p,wi,es,lv⟩:Cl)]).map Cl.P)),⟨d,v,p,wi,es,lv⟩,?_,⟨hp,hes,hel8,hlv⟩,?_,setAt hm7,by rw[XM];exact hlen7,fun j hj hk hm=>?_⟩
 ·rw[show cbd=mSeq (mSet 8 (mFn F_l_pick (aCons 2e1 (aCons 4e4 aNil)))) (mSeq (mSet 9 crd) (mSeq (mNew 10 (mLst aNil)) (mSeq (mFor (mRange1 (aCons rgE aNil)) (hName 11) ebd) (mSeq (mSet 13 (mTup aNil)) (mSeq lvS (mSeq (mSet 14 wth) (mDrop (mApp (mVar 5) (aCons clT aNil))))))))) from rfl]
  rw[Zam st1,Zam st2,Zam st3,Zam st4,Zam st5,Zam st6,Zam st7]
  rw[show (cs++[(⟨d,v,p,wi,es,lv⟩:Cl)]).map Cl.P=cs.map Cl.P++[.tup [.int d,.int v,.int p,.int wi,.tup (es.map tupK),lvP lv]] by rw[Y4];rfl]
  generalize cs.map Cl.P=CS at *
  generalize es.map tupK=ES at *
  generalize lvP lv=LV at *
  simp![mApp,isLst,hm7,hn7,tupH,appC,hll]
 ·obtain ⟨x,y,h,r⟩:=a67.gs
  exact ⟨x,y,by rw[Yy (Xx hkm)];exact h,r⟩
 ·rw[Yy (Xx hm)];exact hoth j hj hk
end
theorem enum_int {zs:List Int}{x:PV}(h:x∈enumL (zs.map .int)):∃(i:Nat) (z:Int),z∈zs/\x=.tup [.int (i:Nat),.int z]:=by
 unfold enumL at h
 obtain ⟨i,hi,rfl⟩:=YB.mp h
 have hi:i < zs.length:=by simpa using hi
 exact ⟨i,zs[i],Y2 hi,by simp[hi]⟩
theorem adv_cut {k:Nat}{C D:Cs}(hl:C.length<=D.length)(g:GS D k)(hk:k < C.length)(h:∀j,j < C.length->j≠k->D[j]? = C[j]?):Adv k C (D.take C.length):=by
 refine ⟨by rw[Xl];lia,?_,fun j hj=>?_⟩
 ·obtain ⟨x,y,e,r⟩:=g
  exact ⟨x,y,by rw[Xb hk];exact e,r⟩
 ·rcases YC j C.length with q | q
  ·rw[Xb q];exact h j q hj
  ·rw[Yg.mpr (by rw[Xl];lia),Yg.mpr q]
theorem clauses_adv (k:Nat)(H:Int)(os:List (List Int))(zs:List Int)(ws:5e9)(C:Cs)(g:GS C k)(hH:2<=H/\H<=8)(ho:∀z∈os,SzOk z)(hol:os.length<=100)(hz:SzOk zs)(hw:4<=ws.length):
  ∃(cs:List Cl) (C':Cs),F_l_clauses [.c k,.v (.int H),.v (szP zs),.v (.lst (os.map szP)),.v (.lst (ws.map .str))] C=some (.v (.tup (cs.map Cl.P)),C')/\cs.length=zs.length/\(∀c∈cs,ClOk c)/\Adv k C C':=by
 have hk:=g.lt
 have hkm:k≠C.length:=Yr hk
 have hle:=hz.le
 obtain ⟨ρ',D,e,hpi⟩:=ZbB (g:=hTup (hCons (hName 6) (hCons (hName 7) hNil)) 2) (f:=cbd) (fun i ρ D=>∃(x6 x7 x8 x9 x10 x11 x12 x13 x14:8e6) (cs:List Cl),ρ=bas k C.length H os zs ws++[x6,x7,x8,x9,x10,x11,x12,x13,x14]/\GS D k/\D[C.length]? = some (.lst (cs.map Cl.P))/\(∀c∈cs,ClOk c)/\cs.length=i/\C.length + 1<=D.length/\∀j,j < C.length->j≠k->D[j]? = C[j]?) 12
  (enumL (zs.map .int)) 0 (by rw[ZbN];simp;lia) (fun x hx i ρ D hi h=>by
   obtain ⟨j,z,hzm,rfl⟩:=enum_int hx
   obtain ⟨x6,x7,x8,x9,x10,x11,x12,x13,x14,cs,rfl,h1,h2,h3,h4,h5,h6⟩:=h
   obtain ⟨y8,y9,y10,y11,y12,y13,y14,D',c,t1,t2,t3,t4,t5,t6⟩:=cbd_ok k C.length H os zs ws (j:Int) z x8 x9 x10 x11 x12 x13 x14 D cs h1 hkm h2 h3 1e2 (hz.rg z hzm) hH ho hol hz hw
   refine ⟨_,_,D',rfl,t1,#[(.int (j:Int))],#[.int z],y8,y9,y10,y11,y12,y13,y14,cs++[c],rfl,t3,t4,fun d hd=>?_,by simp[h4],by lia,fun q q1 q2=>?_⟩
   ·rcases Yw.mp hd with hd | hd
    ·exact h3 d hd
    ·rw[Yk.mp hd];exact t2
   ·rw[t6 q (by lia) q2 (by lia),h6 q q1 q2]) (bas k C.length H os zs ws++[none,none,none,none,none,none,none,none,none]) (C++[.lst []]) ⟨none,none,none,none,none,none,none,none,none,[],rfl,g.app _,by simp,(fun c h=>(nomatch h)),rfl,by simp,fun j h1 h2=>by rw[Yf h1]⟩
 obtain ⟨x6,x7,x8,x9,x10,x11,x12,x13,x14,cs,rfl,h1,h2,h3,h4,h5,h6⟩:=hpi
 refine ⟨cs,D.take C.length,?_,by rw[h4,ZbN];simp,h3,adv_cut 1e2 h1 hk h6⟩
 have st1:mNew 5 (mLst aNil) [3e9,#[.int H],#[szP zs],#[.lst (os.map szP)],4e5,none,none,none,none,none,none,none,none,none,none] C=some (.nx (bas k C.length H os zs ws++[none,none,none,none,none,none,none,none,none]),C++[.lst []]):=by
  simp![mNew]
 have st2:mFor (mEnum 5e7) (hTup (hCons (hName 6) (hCons (hName 7) hNil)) 2) cbd (bas k C.length H os zs ws++[none,none,none,none,none,none,none,none,none]) (C++[.lst []])=some (.nx (bas k C.length H os zs ws++[x6,x7,x8,x9,x10,x11,x12,x13,x14]),D):=by
  have:mEnum 5e7 (bas k C.length H os zs ws++[none,none,none,none,none,none,none,none,none]) (C++[.lst []])=some (enumL (zs.map .int),C++[.lst []]):=by
   simp![mEnum,szP,enumP]
  unfold mFor bnd;rw[this];exact e
 unfold F_l_clauses
 rw[clauses_is]
 show (match mSeq _ _ [3e9,some (.v (.int H)),some (.v (szP zs)),some (.v (.lst (os.map szP))),some (.v (.lst (ws.map .str))),none,none,none,none,none,none,none,none,none,none] C with
  | some (.rt r,C')=>fin C.length C' r
  | some (.nx _,C')=>some 13e7
  | some (.rf ps,C')=>some 14e6
  | some (.rq qs,C')=>(finQ C.length C' qs).map fun ps=>14e7
  | _=>none)=_
 rw[Zam st1,Zam st2]
 generalize cs.map Cl.P=CS at *
 simp![h2,tupH]
structure Sh where
 H:Int
 zs:List Int
 q:Int
def Sh.P (s:Sh):PV:=.tup [.int s.H,szP s.zs,.int s.q]
structure ShOk (s:Sh):Prop where
 H:2<=s.H/\s.H<=8
 zs:SzOk s.zs
 q:0<=s.q/\s.q < 3
def inRg (lo hi:Int)(p:PV):Bool:=match p with
 | .int i=>decide (lo<=i)&&decide (i<=hi)
 | _=>false
theorem ix_rg (L:List PV)(lo hi:Int)(h:L.all (inRg lo hi)=true)(d:Int)(h1:0<=d)(h2:d < L.length):∃v,ixQ (.lst L) (.int d)=some (.int v)/\lo<=v/\v<=hi:=by
 obtain ⟨p,ep,hp⟩:=ix_all (okk:=inRg lo hi) L h d h1 h2
 cases p with
 | int i=>simp only[inRg,Yt,decide_eq_true_eq] at hp;exact ⟨i,ep,hp⟩
 | _=>cases hp
theorem ZdN (C:Cs)(x y:Int)(h:0<=y/\y < 2147483647):GS (C++10e9) C.length:=⟨x,y,by simp,h⟩
abbrev szE:PSt->M SV:=mOp 3e6 (mVal (mLst (aCons 1e9 (aCons 1e9 (aCons 2e9 (aCons 1e9 (aCons 6e6 (aCons 1e9 (aCons 2e9 8e4))))))))) 5e3
theorem szE_adv (k:Nat)(x:8e6)(C:Cs)(g:GS C k):∃p C',szE [x,3e9] C=some (.v p,C')/\(∃z,p=.int z/\1<=z/\z<=9)/\Adv k C C':=by
 obtain ⟨y,C',e,y1,y2,a⟩:=Zal k 8 C g 1e6
 obtain ⟨v,hv,h0,h8⟩:=ix_rg [.int 1,.int 1,.int 2,.int 1,.int 3,.int 1,.int 2,.int 9] 1 9 1e0 y y1 (by simpa using y2)
 refine ⟨.int v,C',?_,⟨v,rfl,h0,h8⟩,a⟩
 simp![szE,e,hv]
theorem ints_of:∀(L:List PV),(∀p∈L,∃z,p=.int z/\1<=z/\z<=9)->∃zs:List Int,L=zs.map .int/\∀z∈zs,1<=z/\z<=9
 | [],_=>⟨[],rfl,(fun _ h=>(nomatch h))⟩
 | p::L,h=>by
  obtain ⟨z,rfl,hz⟩:=h p 4e6
  obtain ⟨zs,rfl,hzs⟩:=ints_of L fun q hq=>h q (by simp[hq])
  exact ⟨z::zs,rfl,fun y hy=>by
   rcases Ym.mp hy with rfl | hy
   ·exact hz
   ·exact hzs y hy⟩
abbrev abd:PSt->M PF:=mSeq (mNew 1 (mFnF FF_l_left (aCons 2e1 (aCons (mOp 4e8 2e9 (mVar 5)) aNil)))) (mSeq (mSet 6 (mOp 3e6 (mVal (mLst (aCons 2e9 (aCons 6e6 (aCons 2e9 (aCons 6e6 (aCons 15e8 (aCons 2e9 (aCons 13e1 10e5))))))))) 5e3)) (mSeq (mSet 7 (mOp 3e6 (mVal (mLst (aCons 1e9 (aCons 2e9 (aCons 1e9 (aCons 6e6 (aCons 2e9 (aCons 15e8 (aCons (mC (.int 7)) (aCons (mC (.int 12)) aNil)))))))))) 5e3)) (mSeq (mSet 8 (mVal (mComp (mRange1 12e9) ["_law_c"] [1] 6e5 tOk szE))) (mDrop (mApp 18e3 (aCons (mTup (aCons 17e5 (aCons 19e5 (aCons (mFn F_l_pick (aCons 4e4 (aCons 6e6 aNil))) aNil)))) aNil))))))
theorem abd_ok (ns:List Int)(W:8e6)(M:8e6)(a:Nat)(i:Int)(x1 x6 x7 x8 x9 x10 x11 x12 x13:8e6)(sh:List Sh)(D:Cs)(hi:0<=i/\i<=100)(hD:D[a]? = some (.lst (sh.map Sh.P)))(hsh:∀s∈sh,ShOk s)(hl:sh.length<=1000):
  ∃(y1 y6 y7 y8:8e6) (D':Cs) (s:Sh),abd [1e5,x1,W,M,6e8,#[.int i],x6,x7,x8,x9,x10,x11,x12,x13] D=some (.nx [1e5,y1,W,M,6e8,#[.int i],y6,y7,y8,x9,x10,x11,x12,x13],D')/\ShOk s/\D'[a]? = some (.lst ((sh++[s]).map Sh.P))/\D.length<=D'.length/\∀j,j < D.length->j≠a->D'[j]? = D[j]?:=by
 have hal:a < D.length:=by
  rcases YC a D.length with q | q
  ·exact q
  ·rw[Yg.mpr q] at hD;cases hD
 obtain ⟨x,y,el,hy⟩:=Zcx ns (2 + i) D 1e2 1e2
 have st1:mNew 1 (mFnF FF_l_left (aCons 2e1 (aCons (mOp 4e8 2e9 (mVar 5)) aNil))) [1e5,x1,W,M,6e8,#[.int i],x6,x7,x8,x9,x10,x11,x12,x13] D=some (.nx [1e5,3e8,W,M,6e8,#[.int i],x6,x7,x8,x9,x10,x11,x12,x13],D++10e9):=by
  simp![mNew,addP,el]
 have g0:=ZdN D x y hy
 obtain ⟨p1,C1,e1,p1a,p1b,a1⟩:=Zal D.length 8 _ g0 1e6
 obtain ⟨H,hH,H1,H2⟩:=ix_rg [.int 2,.int 3,.int 2,.int 3,.int 4,.int 2,.int 5,.int 8] 2 8 1e0 p1 p1a (by simpa using p1b)
 obtain ⟨p2,C2,e2,p2a,p2b,a2⟩:=Zal D.length 8 _ a1.gs 1e6
 obtain ⟨n,hn,n1,n2⟩:=ix_rg [.int 1,.int 2,.int 1,.int 3,.int 2,.int 4,.int 7,.int 12] 1 12 1e0 p2 p2a (by simpa using p2b)
 have st2:mSet 6 (mOp 3e6 (mVal (mLst (aCons 2e9 (aCons 6e6 (aCons 2e9 (aCons 6e6 (aCons 15e8 (aCons 2e9 (aCons 13e1 10e5))))))))) 5e3) [1e5,3e8,W,M,6e8,#[.int i],x6,x7,x8,x9,x10,x11,x12,x13] (D++10e9)=some (.nx [1e5,3e8,W,M,6e8,#[.int i],#[.int H],x7,x8,x9,x10,x11,x12,x13],C1):=by
  simp![e1,hH]
 have st3:mSet 7 (mOp 3e6 (mVal (mLst (aCons 1e9 (aCons 2e9 (aCons 1e9 (aCons 6e6 (aCons 2e9 (aCons 15e8 (aCons (mC (.int 7)) (aCons (mC (.int 12)) aNil)))))))))) 5e3) [1e5,3e8,W,M,6e8,#[.int i],#[.int H],x7,x8,x9,x10,x11,x12,x13] C1=some (.nx [1e5,3e8,W,M,6e8,#[.int i],#[.int H],#[.int n],x8,x9,x10,x11,x12,x13],C2):=by
  simp![e2,hn]
 obtain ⟨L,C3,e3,hL,hLp,a3⟩:=comp_adv (te:=szE) (k:=D.length) (Pp:=fun p=>∃z,p=.int z/\1<=z/\z<=9) ((Yi n.toNat).map fun (q:Nat)=>PV.int (0 + q)) [none,3e8] [] C2 a2.gs (fun x C g=>szE_adv D.length #[x] C g)
 obtain ⟨zs,rfl,hzs⟩:=ints_of L hLp
 rw[Xp] at e3
 have hzl:zs.length=n.toNat:=by simpa using hL
 have st4:mSet 8 (mVal (mComp (mRange1 12e9) ["_law_c"] [1] 6e5 tOk szE)) [1e5,3e8,W,M,6e8,#[.int i],#[.int H],#[.int n],x8,x9,x10,x11,x12,x13] C2=some (.nx [1e5,3e8,W,M,6e8,#[.int i],#[.int H],#[.int n],#[szP zs],x9,x10,x11,x12,x13],C3):=by
  have hr:rng1P [.v (.int n)]=some ((Yi n.toNat).map fun (q:Nat)=>PV.int (0 + q)):=by
   unfold rng1P;dsimp only;rw[if_pos 1e2]
  have hrl:((Yi n.toNat).map fun (q:Nat)=>PV.int (0 + q)).length<=100000:=by simp;lia
  generalize ((Yi n.toNat).map fun (q:Nat)=>PV.int (0 + q))=rs at e3 hr hrl
  unfold szP
  generalize zs.map PV.int=ZS at *
  generalize szE=te at e3
  simp![mComp,mRange1,hr,hrl,stIn',e3]
 obtain ⟨q,C4,e4,q1,q2,a4⟩:=Zal D.length 3 _ a3.gs 1e6
 have aa:=((a1.trans a2).trans a3).trans a4
 have hoth:∀j,j < D.length->C4[j]? = D[j]?:=fun j hj=>by
  rw[aa.oth j (Yr hj),Yf hj]
 have ha4:C4[a]? = some (.lst (sh.map Sh.P)):=by rw[hoth a hal];exact hD
 have ha3:C3[a]? = some (.lst (sh.map Sh.P)):=by rw[←a4.oth a (Yr hal)];exact ha4
 have hll:(sh.map Sh.P).length < 100000:=by simp;lia
 refine ⟨3e8,#[.int H],#[.int n],#[szP zs],C4.set a (.lst ((sh++[(⟨H,zs,q⟩:Sh)]).map Sh.P)),⟨H,zs,q⟩,?_,⟨⟨H1,H2⟩,⟨by show 0 < zs.length;lia,by show zs.length<=12;lia,hzs⟩,q1,q2⟩,setAt ha4,by rw[XM,aa.len];simp,fun j hj ha=>by rw[Yy (Xx ha)];exact hoth j hj⟩
 rw[show abd=mSeq _ (mSeq _ (mSeq _ (mSeq _ _))) from rfl,Zam st1,Zam st2,Zam st3,Zam st4]
 rw[show (sh++[(⟨H,zs,q⟩:Sh)]).map Sh.P=sh.map Sh.P++[.tup [.int H,szP zs,.int q]] by rw[Y4];rfl]
 generalize sh.map Sh.P=SH at *
 generalize szP zs=ZS at *
 simp![mApp,isLst,ha3,e4,appC,ha4,hll]
theorem Zcl {te:4e7}{tt:6e7}(b:PV->Bool):∀(xs:List PV) (ρ:PSt) (ys:List PV) (C:Cs),(∀x∈xs,tt 19e7 C=some (b x,C))->(∀x∈xs,te 19e7 C=some (.v x,C))->compL 6e5 tt te xs ρ ys C=some (ys++xs.filter b,C)
 | [],ρ,ys,C,_,_=>by simp[compL,Pu.ret]
 | x::xs,ρ,ys,C,ht,he=>by
  have h1:=ht x 4e6
  have h2:=he x 4e6
  have ih:=fun zs=>Zcl (te:=te) (tt:=tt) b xs 19e7 zs C (fun y hy=>by rw[XI];exact ht y (by simp[hy])) (fun y hy=>by rw[XI];exact he y (by simp[hy]))
  cases hb:b x with
  | true=>rw[hb] at h1;simp[compL,hName,bnd,h1,h2,ih,hb]
  | false=>rw[hb] at h1;simp[compL,hName,bnd,h1,ih,hb]
structure Dl where
 hs:List Str
 ow:List Str
 cl:Int
 cs:List Cl
def Dl.P (d:Dl):PV:=.tup [.tup (d.hs.map .str),.tup (d.ow.map .str),.int d.cl,.tup (d.cs.map Cl.P)]
structure DlOk (d:Dl):Prop where
 h2:2<=d.hs.length/\d.hs.length<=8
 nd:d.hs.Nodup
 le:∀h∈d.hs,h.length<=10
 c1:1<=d.cs.length/\d.cs.length<=12
 cs:∀c∈d.cs,ClOk c
abbrev hoE:PSt->M SV:=mOp 3e6 4e4 (mOp (g2 modP) (mOp 4e8 8e1 2e1) (mC (.int 8)))
theorem houses_comp (ws:5e9)(hw:ws.length=16)(nd:ws.Nodup)(st:Int)(h0:0<=st/\st < 8)(n:Nat)(hn:n<=8)(C:Cs):
  ∃hs:List Str,compL 6e5 tOk hoE ((Yi n).map fun (q:Nat)=>PV.int (0 + q)) [none,4e5,#[.int st]] [] C=some (hs.map .str,C)/\hs.length=n/\hs.Nodup/\∀h∈hs,h∈ws:=by
 have key:∀j:Nat,(17e8 % 8).toNat < ws.length:=fun j=>by
  have h1:0<=17e8 % 8:=Xf _ 1e6
  have h2:17e8 % 8 < 8:=Y6 _ 1e6
  lia
 have e:=ZcS (te:=hoE) (f:=fun p=>match p with | .int i=>.str (ws.getD ((st + i) % 8).toNat "") | _=>.non) ((Yi n).map fun (q:Nat)=>PV.int (0 + q)) [none,#[.lst (ws.map .str)],#[.int st]] [] C (fun x hx=>by
  obtain ⟨j,hj,rfl⟩:=YB.mp hx
  have hk:=key j
  have h1:0<=17e8 % 8:=Xf _ 1e6
  have h2:17e8 % 8 < 8:=Y6 _ 1e6
  have hix:ixQ (.lst (ws.map .str)) (.int (17e8 % 8))=some (.str (ws.getD (17e8 % 8).toNat "")):=by
   have h3:17e8 % 8 < (ws.length:Int):=by lia
   generalize 17e8 % 8=d at *
   simp[ixQ,ixP,atI,ixN,h1,h3,Yb hk]
  generalize (0 + (j:Int))=J at *
  generalize ws.map PV.str=WS at *
  simp![hoE,addP,modP,hix])
 rw[Xp,Xi] at e
 refine ⟨(Yi n).map fun (j:Nat)=>ws.getD (17e8 % 8).toNat "",?_,by simp,?_,fun h hh=>?_⟩
 ·rw[e,Xi];rfl
 ·rw[Y0,XH]
  refine Ws (fun {x y} hx hy hne e=>?_) (Y0.mp VB)
  have hx:=Y3.mp hx
  have hy:=Y3.mp hy
  have kx:=key x
  have ky:=key y
  rw[XT,XT,Yb kx,Yb ky] at e
  have:=(WD (h₀:=kx) (h₁:=ky) nd).mp (by simpa using e)
  lia
 ·obtain ⟨j,_,rfl⟩:=YB.mp hh
  have:=key j
  rw[XT,Yb this]
  exact Y2 this
abbrev otT:PSt->M Bool:=mTest (mOp (g2 neP) 2e1 4e4)
theorem others_comp (i:Int)(M:Nat)(C:Cs):∃L:List Nat,compL 6e5 otT 2e1 ((Yi M).map fun (q:Nat)=>PV.int (0 + q)) [none,#[.int i]] [] C=some (L.map fun (q:Nat)=>PV.int 9e3,C)/\L.length<=M/\∀q∈L,q < M:=by
 have e:=Zcl (te:=mVar 0) (tt:=otT) (fun p=>match p with | .int j=>!(j==i) | _=>false) ((Yi M).map fun (q:Nat)=>PV.int (0 + q)) [none,#[.int i]] [] C (fun x hx=>by
  obtain ⟨j,_,rfl⟩:=YB.mp hx
  generalize (0 + (j:Int))=J
  simp![otT]
  rfl) (fun x hx=>by simp[mVar])
 refine ⟨(Yi M).filter fun (q:Nat)=>!(9e3==i),?_,?_,fun q hq=>Y3.mp (Xu.mp hq).1⟩
 ·rw[e,Xp,VP]
  rfl
 ·have:=Wl (fun (q:Nat)=>!(9e3==i)) (Yi M)
  simpa using this
theorem comp_ex {te:4e7}{Pp:PV->Prop}:∀(xs:List PV) (ρ:PSt) (ys:List PV) (C:Cs),(∀x∈xs,∃p,te 19e7 C=some (.v p,C)/\Pp p)->
  ∃zs,compL 6e5 tOk te xs ρ ys C=some (ys++zs,C)/\zs.length=xs.length/\∀p∈zs,Pp p
 | [],ρ,ys,C,h=>⟨[],by simp[compL,Pu.ret],rfl,(fun _ h=>(nomatch h))⟩
 | x::xs,ρ,ys,C,h=>by
  obtain ⟨p,e1,hp⟩:=h x 4e6
  obtain ⟨zs,e2,hl,hz⟩:=comp_ex (te:=te) (Pp:=Pp) xs 19e7 (ys++[p]) C fun y hy=>by rw[XI];exact h y (by simp[hy])
  refine ⟨p::zs,?_,by simp[hl],fun q hq=>?_⟩
  ·simp![compL,hName,tOk,e1,e2]
  ·rcases Ym.mp hq with rfl | hq
   ·exact hp
   ·exact hz q hq
theorem szs_of:∀(L:List PV),(∀p∈L,∃z,p=szP z/\SzOk z)->∃os:List (List Int),L=os.map szP/\∀z∈os,SzOk z
 | [],_=>⟨[],rfl,(fun _ h=>(nomatch h))⟩
 | p::L,h=>by
  obtain ⟨z,rfl,hz⟩:=h p 4e6
  obtain ⟨os,rfl,ho⟩:=szs_of L fun q hq=>h q (by simp[hq])
  exact ⟨z::os,rfl,fun y hy=>by
   rcases Ym.mp hy with rfl | hy
   ·exact hz
   ·exact ho y hy⟩
theorem strs_of:∀(L:List PV),(∀p∈L,∃w:Str,p=.str w)->∃ws:List Str,L=ws.map .str
 | [],_=>⟨[],rfl⟩
 | p::L,h=>by
  obtain ⟨w,rfl⟩:=h p 4e6
  obtain ⟨ws,rfl⟩:=strs_of L fun q hq=>h q (by simp[hq])
  exact ⟨w::ws,rfl⟩
abbrev fI (q:Nat):PV:=PV.int 9e3
abbrev oE:PSt->M SV:=mOp 3e6 (mOp 3e6 4e4 2e1) 1e9
abbrev oW:PSt->M SV:=mOp 3e6 4e4 (mOp 4e8 13e1 2e1)
theorem oE_comp (a:Nat)(sh:List Sh)(hsh:∀s∈sh,ShOk s)(L:12e5)(hL:∀q∈L,q < sh.length)(C:Cs)(hC:C[a]? = some (.lst (sh.map Sh.P))):
  ∃os:List (List Int),compL 6e5 tOk oE (L.map fI) [none,6e8] [] C=some (os.map szP,C)/\os.length=L.length/\∀z∈os,SzOk z:=by
 obtain ⟨zs,e,hl,hz⟩:=comp_ex (te:=oE) (Pp:=fun p=>∃z,p=szP z/\SzOk z) (L.map fI) [none,6e8] [] C (fun x hx=>by
  obtain ⟨q,hq,rfl⟩:=YB.mp hx
  have hq:=hL q hq
  refine ⟨szP (sh[q]).zs,?_,_,rfl,(hsh _ (Y2 hq)).zs⟩
  have h1:ixQ (.lst (sh.map Sh.P)) (.int 9e3)=some (sh[q]).P:=by
   have h2:9e3 < (sh.length:Int):=by lia
   have h3:0<=9e3:=by lia
   have h4:(0 + (q:Int)).toNat=q:=by lia
   generalize 9e3=Q at *
   simp[ixQ,ixP,atI,ixN,h2,h3,h4,hq]
  have h5:ixQ (sh[q]).P (.int 1)=some (szP (sh[q]).zs):=by simp[Sh.P,ixQ,ixP,atI,ixN]
  unfold fI
  generalize 9e3=Q at *
  generalize (sh[q]).P=SP at *
  generalize sh.map Sh.P=SH at *
  simp![oE,hC,h1,h5])
 obtain ⟨os,rfl,ho⟩:=szs_of zs hz
 exact ⟨os,by simpa using e,by simpa using hl,ho⟩
theorem oW_comp (ws:5e9)(hw:ws.length=16)(L:12e5)(hL:∀q∈L,q < 8)(C:Cs):
  ∃ow:List Str,compL 6e5 tOk oW (L.map fI) [none,4e5] [] C=some (ow.map .str,C):=by
 obtain ⟨zs,e,hl,hz⟩:=comp_ex (te:=oW) (Pp:=fun p=>∃w:Str,p=.str w) (L.map fI) [none,4e5] [] C (fun x hx=>by
  obtain ⟨q,hq,rfl⟩:=YB.mp hx
  have hq:=hL q hq
  obtain ⟨w,_,h1⟩:=ix_strs ws (5 + 9e3) 1e2 1e2
  refine ⟨.str w,?_,w,rfl⟩
  unfold fI
  generalize 9e3=Q at *
  generalize ws.map PV.str=WS at *
  simp![oW,addP,h1])
 obtain ⟨ow,rfl⟩:=strs_of zs hz
 exact ⟨ow,by simpa using e⟩
abbrev clE:PSt->M SV:=mOp 4e8 (mOp 3e6 (mVal (mLst (aCons (mC (.int 12)) (aCons (mC (.int 30)) (aCons (mC (.int 60)) (aCons (mC (.int 1000)) aNil)))))) (mFn F_l_pick (aCons 4e4 (aCons 15e8 aNil)))) (mFn F_l_pick (aCons 4e4 (aCons 13e1 aNil)))
abbrev bbd:PSt->M PF:=mSeq (mNew 1 (mFnF FF_l_left (aCons 2e1 (aCons (mOp 4e8 (mC (.int 9)) (mVar 5)) aNil)))) (mSeq (mSet 11 5e3) (mSeq (mSet 6 (mCB (g1 tupH) (aCons (mVal (mComp (mRange1 (aCons (mOp 3e6 18e2 3e4) aNil)) ["_law_j"] [2,11] 6e5 tOk hoE)) aNil))) (mSeq (mSet 12 (mSlice (mVal (mComp (mRange1 14e5) ["_law_j"] [5] 6e5 otT 2e1)) oNo (oPart (mOp 3e6 18e2 2e9)))) (mSeq (mSet 13 clE) (mSeq (mSet 7 (mFn F_l_clauses (aCons 4e4 (aCons (mOp 3e6 18e2 3e4) (aCons (mOp 3e6 18e2 1e9) (aCons (mVal (mComp (mItems (mVar 12)) ["_law_j"] [4] 6e5 tOk oE)) 5e7)))))) (mSetIxK (mTup (aCons 17e5 (aCons (mCB (g1 tupH) (aCons (mVal (mComp (mItems (mVar 12)) ["_law_j"] [2] 6e5 tOk oW)) aNil)) (aCons (mVar 13) 12e9)))) (mVar 9) (mOp 3e6 8e1 (mOp 4e8 13e1 (mVar 5)))))))))
theorem Zci (ns:5e9):(ns.map (Xs:Str->Key)).map kP=ns.map .str:=by rw[Xi];rfl
theorem put_new (ns:5e9)(ps:List PV)(w:Str)(p:PV)(h:w∉ns):putKs (ns.map (Xs:Str->Key)) (.inr w)=(ns++[w]).map Xs/\putVs (ns.map (Xs:Str->Key)) ps (.inr w) p=ps++[p]:=by
 have hi:inK (Xs w:Key) (ns.map (Xs:Str->Key))=false:=by
  cases e:inK (Xs w:Key) (ns.map (Xs:Str->Key)) with
  | false=>rfl
  | true=>
   obtain ⟨v,hv,e⟩:=YB.mp (Zbp.mp e)
   cases e;exact absurd hv h
 unfold putKs putVs
 rw[hi]
 simp
theorem bbd_ok (ns:List Int)(ws:5e9)(hw:ws.length=16)(nd:ws.Nodup)(hwl:∀w∈ws,w.length<=10)(a b:Nat)(hab:a≠b)(i:Nat)(hi:i < 7)(sh:List Sh)(hsh:∀s∈sh,ShOk s)(hs7:sh.length<=7)(s:Sh)(hs:ShOk s)(x1 x6 x7 x8 x11 x12 x13:8e6)(nms:5e9)(ds:List Dl)(D:Cs)(hDa:D[a]? = some (.lst (sh.map Sh.P)))(hDb:D[b]? = some (.dct (nms.map .str) (ds.map Dl.P)))(hn:nms.length < 100)(hnew:∀w,ws[5 + i]? = some w->w∉nms):
  ∃(y1 y6 y7 y11 y12 y13:8e6) (D':Cs) (d:Dl) (w:Str),bbd [1e5,x1,4e5,#[5e1],6e8,#[13e3],x6,x7,x8,some (.c b),#[s.P],x11,x12,x13] D=some (.nx [1e5,y1,4e5,#[5e1],6e8,#[13e3],y6,y7,x8,some (.c b),#[s.P],y11,y12,y13],D')/\DlOk d/\ws[5 + i]? = some w/\D'[b]? = some (.dct ((nms++[w]).map .str) ((ds++[d]).map Dl.P))/\(∃q,y1=some (.c q)/\GS D' q/\D.length<=q)/\D.length<=D'.length/\∀j,j < D.length->j≠b->D'[j]? = D[j]?:=by
 have lt_of:∀{q:Nat} {c:PV},D[q]? = some c->q < D.length:=fun {q c} h=>by
  rcases YC q D.length with z | z
  ·exact z
  ·rw[Yg.mpr z] at h;cases h
 have hal:=lt_of hDa
 have hbl:=lt_of hDb
 obtain ⟨x,y,el,hy⟩:=Zcx ns (9 + (i:Int)) D 1e2 1e2
 have st1:mNew 1 (mFnF FF_l_left (aCons 2e1 (aCons (mOp 4e8 (mC (.int 9)) (mVar 5)) aNil))) [1e5,x1,4e5,#[5e1],6e8,#[13e3],x6,x7,x8,some (.c b),#[s.P],x11,x12,x13] D=some (.nx [1e5,3e8,4e5,#[5e1],6e8,#[13e3],x6,x7,x8,some (.c b),#[s.P],x11,x12,x13],D++10e9):=by
  simp![mNew,addP,el]
 have g0:=ZdN D x y hy
 obtain ⟨st,C1,e1,s1,s2,a1⟩:=Zal D.length 8 _ g0 1e6
 have st2:mSet 11 5e3 [1e5,3e8,4e5,#[5e1],6e8,#[13e3],x6,x7,x8,some (.c b),#[s.P],x11,x12,x13] (D++10e9)=some (.nx [1e5,3e8,4e5,#[5e1],6e8,#[13e3],x6,x7,x8,some (.c b),#[s.P],#[.int st],x12,x13],C1):=by
  simp![e1]
 obtain ⟨hs',eh,hhl,hhn,hhw⟩:=houses_comp ws hw nd st ⟨s1,s2⟩ s.H.toNat (by have:=hs.H;lia) C1
 have q0:ixQ s.P (.int 0)=some (.int s.H):=by simp[Sh.P,ixQ,ixP,atI,ixN]
 have q1:ixQ s.P (.int 1)=some (szP s.zs):=by simp[Sh.P,ixQ,ixP,atI,ixN]
 have q2:ixQ s.P (.int 2)=some (.int s.q):=by simp[Sh.P,ixQ,ixP,atI,ixN]
 have rngH:rng1P [.v (.int s.H)]=some ((Yi s.H.toNat).map fun (q:Nat)=>PV.int (0 + q)):=by
  have:=hs.H
  unfold rng1P;dsimp only;rw[if_pos 1e2]
 have rngM:rng1P [.v 5e1]=some ((Yi sh.length).map fun (q:Nat)=>PV.int (0 + q)):=by
  unfold rng1P;dsimp only;rw[if_pos 1e2,Xy]
 have lnH:((Yi s.H.toNat).map fun (q:Nat)=>PV.int (0 + q)).length<=100000:=by have:=hs.H;simp;lia
 have lenM:((Yi sh.length).map fun (q:Nat)=>PV.int (0 + q)).length<=100000:=by simp;lia
 have st3:mSet 6 (mCB (g1 tupH) (aCons (mVal (mComp (mRange1 (aCons (mOp 3e6 18e2 3e4) aNil)) ["_law_j"] [2,11] 6e5 tOk hoE)) aNil)) [1e5,3e8,4e5,#[5e1],6e8,#[13e3],x6,x7,x8,some (.c b),#[s.P],#[.int st],x12,x13] C1=some (.nx [1e5,3e8,4e5,#[5e1],6e8,#[13e3],17e9,x7,x8,some (.c b),#[s.P],#[.int st],x12,x13],C1):=by
  generalize ((Yi s.H.toNat).map fun (q:Nat)=>PV.int (0 + q))=rs at eh rngH lnH
  generalize hs'.map PV.str=HS at *
  generalize ws.map PV.str=WS at *
  generalize s.P=SP at *
  generalize hoE=te at eh
  simp![mComp,mRange1,q0,rngH,lnH,stIn',eh,tupH]
 obtain ⟨L,eo,hLl,hLm⟩:=others_comp (i:Int) sh.length C1
 have hcut:cutP (L.map fI) none (some s.q)=(L.take s.q.toNat).map fI:=by
  have h2:HT.sIx (L.map fI).length (L.map fI).length (some s.q)=min s.q.toNat (L.map fI).length:=by
   have:=hs.q
   unfold HT.sIx;dsimp only;rw[if_neg 1e2]
  unfold cutP
  rw[h2,show HT.sIx (L.map fI).length 0 none=0 from rfl]
  simp[List.map_take]
 have st4:mSet 12 (mSlice (mVal (mComp (mRange1 14e5) ["_law_j"] [5] 6e5 otT 2e1)) oNo (oPart (mOp 3e6 18e2 2e9))) [1e5,3e8,4e5,#[5e1],6e8,#[13e3],17e9,x7,x8,some (.c b),#[s.P],#[.int st],x12,x13] C1=some (.nx [1e5,3e8,4e5,#[5e1],6e8,#[13e3],17e9,x7,x8,some (.c b),#[s.P],#[.int st],13e9,x13],C1):=by
  have eo':compL 6e5 otT 2e1 ((Yi sh.length).map fun (q:Nat)=>PV.int (0 + q)) [none,#[(.int (i:Int))]] [] C1=some (L.map fI,C1):=eo
  have hsl:sliceD C1 (.v (.lst (L.map fI))) none (some s.q)=#[.lst ((L.take s.q.toNat).map fI)]:=by simp only[sliceD,deref,sliceP,hcut];rfl
  generalize ((Yi sh.length).map fun (q:Nat)=>PV.int (0 + q))=rs at eo' rngM lenM
  generalize L.map fI=LF at *
  generalize (L.take s.q.toNat).map fI=LT at *
  generalize s.P=SP at *
  generalize otT=tt at eo'
  simp[mSet,mSlice,oNo,oPart,Pu.intD,mVal,mComp,mRange1,aCons,aNil,mVar,mC,mOp,bnd,opM,Pu.ret,g2,deref,rngM,lenM,stIn',eo',q2,hsl]
 obtain ⟨c1,C2,e2,c1a,c1b,a2⟩:=Zal D.length 4 C1 a1.gs 1e6
 obtain ⟨v,hv,_,_⟩:=ix_rg [.int 12,.int 30,.int 60,.int 1000] 12 1000 1e0 c1 c1a (by simpa using c1b)
 obtain ⟨c2,C3,e3,_,_,a3⟩:=Zal D.length 5 C2 a2.gs 1e6
 obtain ⟨cl,hcl⟩:∃cl,cl=v + c2:=9e7
 have st5:mSet 13 clE [1e5,3e8,4e5,#[5e1],6e8,#[13e3],17e9,x7,x8,some (.c b),#[s.P],#[.int st],13e9,x13] C1=some (.nx [1e5,3e8,4e5,#[5e1],6e8,#[13e3],17e9,x7,x8,some (.c b),#[s.P],#[.int st],13e9,#[.int cl]],C3):=by
  simp![clE,e2,hv,e3,addP,hcl]
 have a123:=(a1.trans a2).trans a3
 have hoth3:∀j,j < D.length->C3[j]? = D[j]?:=fun j hj=>by
  rw[a123.oth j (Yr hj),Yf hj]
 obtain ⟨os,eos,hol,hos⟩:=oE_comp a sh hsh (L.take s.q.toNat) (fun q hq=>hLm q (XZ hq)) C3 (by rw[hoth3 a hal];exact hDa)
 have hos100:os.length<=100:=by rw[hol,Xl];lia
 obtain ⟨cs,C4,ecs,hcl4,hcs,a4⟩:=clauses_adv D.length s.H os s.zs ws C3 a123.gs hs.H hos hos100 hs.zs 1e2
 have lenT:((L.take s.q.toNat).map fI).length<=100000:=by simp;lia
 have st6:mSet 7 (mFn F_l_clauses (aCons 4e4 (aCons (mOp 3e6 18e2 3e4) (aCons (mOp 3e6 18e2 1e9) (aCons (mVal (mComp (mItems (mVar 12)) ["_law_j"] [4] 6e5 tOk oE)) 5e7))))) [1e5,3e8,4e5,#[5e1],6e8,#[13e3],17e9,x7,x8,some (.c b),#[s.P],#[.int st],13e9,#[.int cl]] C3=some (.nx [1e5,3e8,4e5,#[5e1],6e8,#[13e3],17e9,#[.tup (cs.map Cl.P)],x8,some (.c b),#[s.P],#[.int st],13e9,#[.int cl]],C4):=by
  generalize (L.take s.q.toNat).map fI=LT at *
  generalize s.P=SP at *
  generalize ws.map PV.str=WS at *
  generalize os.map szP=OS at *
  generalize szP s.zs=ZS at *
  generalize cs.map Cl.P=CS at *
  generalize oE=te at eos
  simp![q0,q1,mComp,mItems,itemsP,lenT,stIn',eos,ecs]
 have aa:=a123.trans a4
 have hoth:∀j,j < D.length->C4[j]? = D[j]?:=fun j hj=>by
  rw[aa.oth j (Yr hj),Yf hj]
 obtain ⟨ow,eow⟩:=oW_comp ws hw (L.take s.q.toNat) (fun q hq=>by have:=hLm q (XZ hq);lia) C4
 have h5:5 + i < ws.length:=by lia
 have hwk:ws[5 + i]? = some ws[5 + i]:=Yb h5
 have hkey:ixQ (.lst (ws.map .str)) (.int (5 + (i:Int)))=some (.str ws[5 + i]):=by
  have k1:0<=(5 + (i:Int)):=by lia
  have k2:(5 + (i:Int)) < (ws.length:Int):=by lia
  have k3:(5 + (i:Int)).toNat=5 + i:=by lia
  generalize (5 + (i:Int))=Q at *
  simp[ixQ,ixP,atI,ixN,k1,k2,k3,h5]
 have hb4:C4[b]? = some (.dct (nms.map .str) (ds.map Dl.P)):=by rw[hoth b hbl];exact hDb
 obtain ⟨hp1,hp2⟩:=put_new nms (ds.map Dl.P) ws[5 + i] (.tup [.tup (hs'.map .str),.tup (ow.map .str),.int cl,.tup (cs.map Cl.P)]) (hnew _ hwk)
 have hset:setK (.v (.tup [.tup (hs'.map .str),.tup (ow.map .str),.int cl,.tup (cs.map Cl.P)])) (.c b) (.v (.str ws[5 + i])) [1e5,3e8,4e5,#[5e1],6e8,#[13e3],17e9,#[.tup (cs.map Cl.P)],x8,some (.c b),#[s.P],#[.int st],13e9,#[.int cl]] C4=some (.nx [1e5,3e8,4e5,#[5e1],6e8,#[13e3],17e9,#[.tup (cs.map Cl.P)],x8,some (.c b),#[s.P],#[.int st],13e9,#[.int cl]],C4.set b (.dct ((nms++[ws[5 + i]]).map .str) ((ds++[(⟨hs',ow,cl,cs⟩:Dl)]).map Dl.P))):=by
  unfold setK
  simp only[hb4,keyP]
  rw[←Zci nms,ZaZ]
  dsimp only
  rw[if_pos 11e0,hp1,hp2,Zci]
  rw[show (ds++[(⟨hs',ow,cl,cs⟩:Dl)]).map Dl.P=ds.map Dl.P++[.tup [.tup (hs'.map .str),.tup (ow.map .str),.int cl,.tup (cs.map Cl.P)]] by rw[Y4];rfl]
 refine ⟨3e8,17e9,#[.tup (cs.map Cl.P)],#[.int st],13e9,#[.int cl],C4.set b (.dct ((nms++[ws[5 + i]]).map .str) ((ds++[(⟨hs',ow,cl,cs⟩:Dl)]).map Dl.P)),⟨hs',ow,cl,cs⟩,ws[5 + i],?_,?_,hwk,setAt hb4,⟨D.length,rfl,?_,Yh _⟩,by rw[XM,aa.len];simp,fun j hj hjb=>by rw[Yy (Xx hjb)];exact hoth j hj⟩
 ·rw[show bbd=mSeq _ (mSeq _ (mSeq _ (mSeq _ (mSeq _ (mSeq _ _))))) from rfl,Zam st1,Zam st2,Zam st3,Zam st4,Zam st5,Zam st6]
  generalize C4.set b (.dct ((nms++[ws[5 + i]]).map .str) ((ds++[(⟨hs',ow,cl,cs⟩:Dl)]).map Dl.P))=CF at hset
  generalize (L.take s.q.toNat).map fI=LT at *
  generalize s.P=SP at *
  generalize hs'.map PV.str=HS at *
  generalize ow.map PV.str=OW at *
  generalize cs.map Cl.P=CS at *
  generalize ws.map PV.str=WS at *
  generalize oW=te at eow
  simp![mSetIxK,mComp,mItems,itemsP,lenT,stIn',eow,tupH,addP,hkey,hset]
 ·have:=hs.H
  have:=hs.zs.ne
  have:=hs.zs.le
  exact ⟨by rw[hhl];lia,hhn,fun h hh=>hwl h (hhw h hh),by rw[hcl4];lia,hcs⟩
 ·obtain ⟨x',y',h',r'⟩:=aa.gs
  exact ⟨x',y',by rw[Yy (Yr hbl)];exact h',r'⟩
theorem loopE_idx {g:5e2}{f:13e8}(a:Nat)(qs:List PV)(Pi:Nat->PSt->Cs->Prop)(hcell:∀i ρ D,Pi i ρ D->D[a]? = some (.lst qs))
  (step:∀(i:Nat) (h:i < qs.length) ρ D,Pi i ρ D->∃ρ1 ρ2 D2,g (.tup [.int (i:Nat),qs[i]]) ρ=some ρ1/\f ρ1 D=some (.nx ρ2,D2)/\Pi (i + 1) ρ2 D2):∀(n i:Nat) ρ D,i<=qs.length->qs.length - i < n->Pi i ρ D->∃ρ' D',loopE g f a n i ρ D=some (.nx ρ',D')/\Pi qs.length ρ' D'
 | 0,i,ρ,D,_,h,_=>by lia
 | n + 1,i,ρ,D,hi,hn,h=>by
  rcases YC i qs.length with hl | hl
  ·obtain ⟨ρ1,ρ2,D2,e1,e2,h2⟩:=step i hl ρ D h
   obtain ⟨ρ',D',e3,h3⟩:=loopE_idx a qs Pi hcell step n (i + 1) ρ2 D2 hl 1e2 h2
   refine ⟨ρ',D',?_,h3⟩
   unfold loopE
   simp only[hcell i ρ D h,Yb hl,e1,bnd,e2,e3]
  ·have:i=qs.length:=by lia
   subst this
   refine ⟨ρ,D,?_,h⟩
   unfold loopE
   simp only[hcell _ ρ D h,Yg.mpr (Yh _)]
structure TnOk (nms:List Str)(ds:List Dl):Prop where
 l1:1<=nms.length/\nms.length<=7
 ld:ds.length=nms.length
 nd:nms.Nodup
 le:∀w∈nms,w.length<=10
 ok:∀d∈ds,DlOk d
theorem take_snoc {ws:5e9}{i:Nat}{w:Str}(h:ws[5 + i]? = some w):(ws.drop 5).take (i + 1)=(ws.drop 5).take i++[w]:=by
 have h1:(ws.drop 5)[i]? = some w:=by rw[List.getElem?_drop];exact h
 obtain ⟨hl,e⟩:=YT.mp h1
 rw[←e,List.take_succ_eq_append_getElem hl]
theorem town_eq (ns:List Int)(C:Cs):∃(sp:Int) (nms:5e9) (ds:List Dl),F_l_town [.v 15e6] C=some (.v (.tup [.int sp,.dct (nms.map .str) (ds.map Dl.P)]),C)/\TnOk nms ds:=by
 obtain ⟨x,y,el,hy⟩:=Zcx ns 1 C 1e2 1e2
 have g0:=ZdN C x y hy
 obtain ⟨ws,C1,ew,hw,nd,hwl,a1⟩:=words_adv C.length _ g0
 obtain ⟨p,C2,e2,p1,p2,a2⟩:=Zal C.length 8 C1 a1.gs 1e6
 obtain ⟨Mi,hM,M1,M7⟩:=ix_rg [.int 1,.int 1,.int 2,.int 2,.int 3,.int 1,.int 2,.int 7] 1 7 1e0 p p1 (by simpa using p2)
 have a12:=a1.trans a2
 have h12:∀j,j < C.length->C2[j]? = C[j]?:=fun j hj=>by rw[a12.oth j (Yr hj),Yf hj]
 have hl2:C2.length=C.length + 1:=by rw[a12.len];simp
 obtain ⟨M,rfl⟩:∃M:Nat,Mi=(M:Int):=⟨Mi.toNat,by lia⟩
 obtain ⟨ρA,D,eA,hA⟩:=ZbB (g:=hName 5) (f:=abd) (fun i ρ D=>∃(x1 x5 x6 x7 x8:8e6) (sh:List Sh),ρ=[1e5,x1,4e5,#[(.int (M:Int))],6e0,x5,x6,x7,x8,none,none,none,none,none]/\D[C2.length]? = some (.lst (sh.map Sh.P))/\(∀s∈sh,ShOk s)/\sh.length=i/\C2.length + 1<=D.length/\∀j,j < C.length->D[j]? = C[j]?) 7
  ((Yi M).map fun (q:Nat)=>PV.int (0 + q)) 0 11e0 (fun z hz i ρ D hi h=>by
   obtain ⟨q,hq,rfl⟩:=YB.mp hz
   have hq:=Y3.mp hq
   obtain ⟨x1,x5,x6,x7,x8,sh,rfl,h1,h2,h3,h4,h5⟩:=h
   obtain ⟨y1,y6,y7,y8,D',s,t1,t2,t3,t4,t5⟩:=abd_ok ns #[.lst (ws.map .str)] #[(.int (M:Int))] C2.length 9e3 x1 x6 x7 x8 none none none none none sh D 1e2 h1 h2 1e2
   refine ⟨_,_,D',rfl,t1,y1,_,y6,y7,y8,sh++[s],rfl,t3,fun u hu=>?_,by simp[h3],by lia,fun j hj=>by rw[t5 j 1e2 1e2,h5 j hj]⟩
   rcases Yw.mp hu with hu | hu
   ·exact h2 u hu
   ·rw[Yk.mp hu];exact t2) [#[.lst (ns.map .int)],some (.c C.length),#[.lst (ws.map .str)],#[(.int (M:Int))],some (.c C2.length),none,none,none,none,none,none,none,none,none] (C2++[.lst []]) ⟨some (.c C.length),none,none,none,none,[],rfl,by simp,(fun _ h=>(nomatch h)),rfl,by simp,fun j hj=>by rw[Yf (by lia)];exact h12 j hj⟩
 obtain ⟨x1,x5,x6,x7,x8,sh,rfl,hDa,hsh,hshl,hDl,hDo⟩:=hA
 have hM':sh.length=M:=by simpa using hshl
 subst hM'
 obtain ⟨ρB,E,eB,hB⟩:=loopE_idx (g:=hTup (hCons (hName 5) (hCons (hName 10) hNil)) 2) (f:=bbd) C2.length (sh.map Sh.P) (fun i ρ E=>∃(y1 y5 y6 y7 y10 y11 y12 y13:8e6) (ds:List Dl),ρ=[1e5,y1,4e5,#[5e1],6e0,y5,y6,y7,x8,3e8,y10,y11,y12,y13]/\E[C2.length]? = some (.lst (sh.map Sh.P))/\E[D.length]? = some (.dct (((ws.drop 5).take i).map .str) (ds.map Dl.P))/\(∀d∈ds,DlOk d)/\ds.length=i/\i<=sh.length/\D.length + 1<=E.length/\(i=0\/∃q,y1=some (.c q)/\GS E q/\D.length + 1<=q)/\∀j,j < C.length->E[j]? = C[j]?)
  (fun i ρ E h=>by obtain ⟨_,_,_,_,_,_,_,_,_,_,h,_⟩:=h;exact h) (fun i hi ρ E h=>by
   have hi':i < sh.length:=by simpa using hi
   obtain ⟨y1,y5,y6,y7,y10,y11,y12,y13,ds,rfl,h1,h2,h3,h4,h5,h6,_,h8⟩:=h
   have hil:i < 7:=by lia
   obtain ⟨z1,z6,z7,z11,z12,z13,E',d,w,t1,t2,t3,t4,t5,t6,t7⟩:=bbd_ok ns ws hw nd hwl C2.length D.length 1e2 i hil sh hsh 1e2 (sh[i]) (hsh _ (Y2 hi')) y1 y6 y7 x8 y11 y12 y13 ((ws.drop 5).take i) ds E h1 h2 11e0 (fun w hw5 hmem=>by
    obtain ⟨j,hj,e⟩:=WA hmem
    have hj':j < i:=by simp at hj;lia
    obtain ⟨h5i,e5⟩:=YT.mp hw5
    rw[List.getElem_take,List.getElem_drop,←e5] at e
    have:=(WD (h₀:=by lia) (h₁:=h5i) nd).mp e
    lia)
   refine ⟨_,_,E',?_,t1,z1,#[13e3],z6,z7,#[(sh[i]).P],z11,z12,z13,ds++[d],rfl,by rw[t7 _ 1e2 1e2];exact h1,?_,fun u hu=>?_,by simp[h4],hi',by lia,.inr ?_,fun j hj=>by rw[t7 j 1e2 1e2,h8 j hj]⟩
   ·simp[hTup,hCons,hName,hNil]
   ·rw[take_snoc t3];exact t4
   ·rcases Yw.mp hu with hu | hu
    ·exact h3 u hu
    ·rw[Yk.mp hu];exact t2
   ·obtain ⟨q,q1,q2,q3⟩:=t5
    exact ⟨q,q1,q2,by lia⟩) 1000 0 [#[.lst (ns.map .int)],x1,#[.lst (ws.map .str)],#[(.int (sh.length:Int))],some (.c C2.length),x5,x6,x7,x8,some (.c D.length),none,none,none,none] (D++[.dct [] []]) (YV _) (by simp;lia) ⟨x1,x5,x6,x7,none,none,none,none,[],rfl,by rw[Yf (by lia)];exact hDa,by simp,(fun _ h=>(nomatch h)),rfl,YV _,by simp,.inl rfl,fun j hj=>by rw[Yf (by lia)];exact hDo j hj⟩
 obtain ⟨y1,y5,y6,y7,y10,y11,y12,y13,ds,rfl,hE1,hE2,hds,hdl,_,hEl,hq,hEo⟩:=hB
 simp only[YA] at hE2 hdl hq
 obtain ⟨q,rfl,gq,hq⟩:∃q,y1=some (.c q)/\GS E q/\D.length + 1<=q:=by
  rcases hq with hq | hq
  ·lia
  ·exact hq
 obtain ⟨r,F,e5,r1,r2,a5⟩:=Zal q 5 E gq 1e6
 obtain ⟨sp,hsp,_,_⟩:=ix_rg [.int 0,.int 1,.int 2,.int 5,.int 30] 0 30 1e0 r r1 (by simpa using r2)
 have hFb:F[D.length]? = some (.dct (((ws.drop 5).take sh.length).map .str) (ds.map Dl.P)):=by rw[a5.oth _ 1e2];exact hE2
 have hFC:F.take C.length=C:=by
  apply Xe
  intro j
  rcases YC j C.length with z | z
  ·rw[Xb z,a5.oth j 1e2,hEo j z]
  ·rw[Yg.mpr z,Yg.mpr (by rw[Xl];lia)]
 have hlt:((ws.drop 5).take sh.length).length=sh.length:=by simp;lia
 refine ⟨sp,(ws.drop 5).take sh.length,ds,?_,⟨by lia,by lia,(nd.sublist (List.drop_sublist 5 ws)).sublist (List.take_sublist _ _),fun w h=>hwl w (W3 (XZ h)),hds⟩⟩
 have st1:mNew 1 (mFnF FF_l_left (aCons 2e1 (aCons 1e9 aNil))) [1e5,none,none,none,none,none,none,none,none,none,none,none,none,none] C=some (.nx [1e5,6e4,none,none,none,none,none,none,none,none,none,none,none,none],C++10e9):=by
  simp![mNew,el]
 have st2:mSet 2 (mFn F_l_words (aCons 4e4 (aCons (mC (.int 16)) aNil))) [1e5,6e4,none,none,none,none,none,none,none,none,none,none,none,none] (C++10e9)=some (.nx [1e5,6e4,4e5,none,none,none,none,none,none,none,none,none,none,none],C1):=by
  generalize ws.map PV.str=WS at *
  simp![ew]
 have st3:mSet 3 (mOp 3e6 (mVal (mLst (aCons 1e9 (aCons 1e9 (aCons 2e9 15e0))))) 5e3) [1e5,6e4,4e5,none,none,none,none,none,none,none,none,none,none,none] C1=some (.nx [1e5,6e4,4e5,#[5e1],none,none,none,none,none,none,none,none,none,none],C2):=by
  generalize ws.map PV.str=WS at *
  simp![e2,hM]
 have st4:mNew 4 (mLst aNil) [1e5,6e4,4e5,#[5e1],none,none,none,none,none,none,none,none,none,none] C2=some (.nx [1e5,6e4,4e5,#[5e1],6e0,none,none,none,none,none,none,none,none,none],C2++[.lst []]):=by
  simp![mNew]
 have st5:mFor (mRange1 14e5) (hName 5) abd [1e5,6e4,4e5,#[5e1],6e0,none,none,none,none,none,none,none,none,none] (C2++[.lst []])=some (.nx [1e5,x1,4e5,#[5e1],6e0,x5,x6,x7,x8,none,none,none,none,none],D):=by
  have hr:rng1P [.v 5e1]=some ((Yi sh.length).map fun (q:Nat)=>PV.int (0 + q)):=by
   unfold rng1P;dsimp only;rw[if_pos 1e2,Xy]
  have hm:mRange1 14e5 [1e5,6e4,4e5,#[5e1],6e0,none,none,none,none,none,none,none,none,none] (C2++[.lst []])=some ((Yi sh.length).map fun (q:Nat)=>PV.int (0 + q),C2++[.lst []]):=by
   generalize ((Yi sh.length).map fun (q:Nat)=>PV.int (0 + q))=rs at hr
   simp![mRange1,hr]
  unfold mFor bnd;rw[hm];exact eA
 have st6:mNewK 9 [1e5,x1,4e5,#[5e1],6e0,x5,x6,x7,x8,none,none,none,none,none] D=some (.nx [1e5,x1,4e5,#[5e1],6e0,x5,x6,x7,x8,3e8,none,none,none,none],D++[.dct [] []]):=rfl
 have st7:mForE 11e3 (hTup (hCons (hName 5) (hCons (hName 10) hNil)) 2) bbd [1e5,x1,4e5,#[5e1],6e0,x5,x6,x7,x8,3e8,none,none,none,none] (D++[.dct [] []])=some (.nx [1e5,some (.c q),4e5,#[5e1],6e0,y5,y6,y7,x8,3e8,y10,y11,y12,y13],E):=by
  have hm:aCons 18e3 aNil [1e5,x1,4e5,#[5e1],6e0,x5,x6,x7,x8,3e8,none,none,none,none] (D++[.dct [] []])=some ([.c C2.length],D++[.dct [] []]):=by
   simp![]
  unfold mForE bnd;rw[hm];exact eB
 have hb:B_l_town=mSeq (mNew 1 (mFnF FF_l_left (aCons 2e1 (aCons 1e9 aNil)))) (mSeq (mSet 2 (mFn F_l_words (aCons 4e4 (aCons (mC (.int 16)) aNil)))) (mSeq (mSet 3 (mOp 3e6 (mVal (mLst (aCons 1e9 (aCons 1e9 (aCons 2e9 15e0))))) 5e3)) (mSeq (mNew 4 (mLst aNil)) (mSeq (mFor (mRange1 14e5) (hName 5) abd) (mSeq (mNewK 9) (mSeq (mForE 11e3 (hTup (hCons (hName 5) (hCons (hName 10) hNil)) 2) bbd) (mRetQ (aCons (mOp 3e6 (mVal (mLst (aCons 3e4 (aCons 1e9 (aCons 2e9 (aCons 13e1 (aCons (mC (.int 30)) aNil))))))) (mFn F_l_pick (aCons 4e4 (aCons 13e1 aNil)))) (aCons (mVar 9) aNil))))))))):=rfl
 unfold F_l_town
 rw[hb]
 show (match mSeq _ _ [some (.v 15e6),none,none,none,none,none,none,none,none,none,none,none,none,none] C with
  | some (.rt r,C')=>fin C.length C' r
  | some (.nx _,C')=>some 13e7
  | some (.rf ps,C')=>some 14e6
  | some (.rq qs,C')=>(finQ C.length C' qs).map fun ps=>14e7
  | _=>none)=_
 rw[Zam st1,Zam st2,Zam st3,Zam st4,Zam st5,Zam st6,Zam st7]
 have hDC:¬D.length < C.length:=by lia
 generalize ((ws.drop 5).take sh.length).map PV.str=NM at *
 generalize ds.map Dl.P=DS at *
 simp![mRetQ,e5,hsp,finQ,hDC,hFb,hFC]
def sdB (p:PV):Bool:=match p with
 | .tup (.str x::_)=>x=="said"
 | _=>false
abbrev sdT:PSt->M Bool:=mTest (mOp (g2 eqP) (mOp 3e6 2e1 3e4) (mC (.str "said")))
theorem sdT_eq (ks:11e9)(h:EvOk ks)(C:Cs):sdT [#[tupK ks]] C=some (sdB (tupK ks),C):=by
 rcases h with ⟨i,rfl⟩ | ⟨i,w,rfl⟩ | ⟨a,b,c,rfl⟩
 ·simp![sdT,tupK,kP,ixQ,ixP,atI,ixN,sdB]
  decide +kernel
 ·simp![sdT,tupK,kP,ixQ,ixP,atI,ixN,sdB]
 ·simp![sdT,tupK,kP,ixQ,ixP,atI,ixN,sdB]
  decide +kernel
theorem said_shape {ks:11e9}(h:EvOk ks)(hb:sdB (tupK ks)=true):∃i w,ks=[.inr "said",.inl i,.inr w]:=by
 rcases h with ⟨i,rfl⟩ | h | ⟨a,b,c,rfl⟩
 ·have:sdB (tupK [.inr "joined",.inl i])=(("joined":Str)==("said":Str)):=rfl
  rw[this] at hb
  exact absurd hb 10e3
 ·exact h
 ·have:sdB (tupK [.inr "did",.inl a,.inl b,.inl c])=((("did":Str))==("said":Str)):=rfl
  rw[this] at hb
  exact absurd hb 10e3
theorem said_comp (evs:5e6)(h:∀e∈evs,EvOk e)(C:Cs):∃sd:List (List Key),compL 6e5 sdT 2e1 (evs.map tupK) [none] [] C=some (sd.map tupK,C)/\sd.length<=evs.length/\∀e∈sd,∃i w,e=[.inr "said",.inl i,.inr w]:=by
 have e:=Zcl (te:=mVar 0) (tt:=sdT) sdB (evs.map tupK) [none] [] C (fun x hx=>by
  obtain ⟨ks,hk,rfl⟩:=YB.mp hx
  exact sdT_eq ks (h ks hk) C) (fun x hx=>by simp[mVar])
 refine ⟨evs.filter fun e=>sdB (tupK e),?_,Wl _ _,fun e he=>?_⟩
 ·rw[e,Xp,VP];rfl
 ·obtain ⟨h1,h2⟩:=Xu.mp he
  exact said_shape (h e h1) h2
def evsOf (c:Cl):List (List Key):=c.cs++(match c.lv with | none=>[] | some (e,_)=>[e])
theorem evsOf_ok {c:Cl}(h:ClOk c):∀e∈evsOf c,EvOk e:=by
 intro e he
 unfold evsOf at he
 rcases Yw.mp he with he | he
 ·exact h.cs e he
 ·cases hl:c.lv with
  | none=>rw[hl] at he;cases he
  | some p=>obtain ⟨e',n⟩:=p;rw[hl] at he;rw[Yk.mp he];exact h.lv e' n hl
theorem evsOf_items (c:Cl)(h:ClOk c)(ρ:PSt)(C:Cs)(h12:ρ[12]? = some #[.tup (c.cs.map tupK)])(h13:ρ[13]? = some #[lvP c.lv]):mItems (mOp 4e8 (mVar 12) (mSlice (mVar 13) oNo (oPart 1e9))) ρ C=some ((evsOf c).map tupK,C):=by
 have hl:(c.cs.map tupK).length<=8:=by simpa using h.le
 cases hv:c.lv with
 | none=>
  have hs:sliceD C (.v (lvP none)) none (some 1)=#[.tup []]:=by simp[sliceD,deref,sliceP,lvP,cutP]
  have he:(evsOf c).map tupK=c.cs.map tupK:=by unfold evsOf;rw[hv];simp
  rw[he]
  rw[hv] at h13
  generalize c.cs.map tupK=CS at *
  generalize lvP none=LV at *
  have:CS.length<=1000000:=by lia
  simp[mItems,mOp,mVar,h12,h13,mSlice,oNo,oPart,mC,bnd,opM,Pu.ret,Pu.intD,deref,hs,g2,addP,this,itemsP]
 | some p=>
  obtain ⟨e,n⟩:=p
  have hs:sliceD C (.v (lvP (some (e,n)))) none (some 1)=#[.tup [tupK e]]:=by simp[sliceD,deref,sliceP,lvP,cutP,HT.sIx]
  have he:(evsOf c).map tupK=c.cs.map tupK++[tupK e]:=by unfold evsOf;rw[hv];simp
  rw[he]
  rw[hv] at h13
  generalize c.cs.map tupK=CS at *
  generalize lvP (some (e,n))=LV at *
  generalize tupK e=TE at *
  have h1:CS.length + 1<=1000000:=by lia
  have h2:CS.length<=999999:=by lia
  simp[mItems,mOp,mVar,h12,h13,mSlice,oNo,oPart,mC,bnd,opM,Pu.ret,Pu.intD,deref,hs,g2,addP,h1,h2,itemsP]
theorem ne_lst (L:5e6):deepP (fun p q=>!eqD p q) (.lst (L.map tupK)) (.lst [])=some (.bl (decide (L≠[]))):=by
 have h1:dat (.lst (L.map tupK))=true:=by unfold dat;exact ZaY Za8 _
 have h2:dep (.lst (L.map tupK))<=60:=by unfold dep;have:=ZaX Zbl L;lia
 have h3:dat (.lst [])=true:=rfl
 unfold deepP
 rw[h1,h3,decide_eq_true h2]
 cases L with
 | nil=>rfl
 | cons a L=>rfl
abbrev sdC:PSt->M SV:=mVal (mComp (mItems (mOp 4e8 (mVar 12) (mSlice (mVar 13) oNo (oPart 1e9)))) ["_law_event_here"] [] 6e5 sdT 2e1)
abbrev dRest:PSt->M PF:=mSeq (mIfS (mAndT (mTest (mOp (g2 ltP) 17e5 13e1)) (mTest (mOp 4e2 (mVar 14) 8e2))) (mRet (mTup (aCons (mC (.str "say")) (aCons (mOp 3e6 (mOp 3e6 (mVar 14) (mFn F_l_pick (aCons 2e1 (aCons (mCB 9e5 (aCons (mVar 14) aNil)) aNil)))) 2e9) aNil)))) mSkip) (mSeq (mIfS (mTest (mOp (g2 ltP) 17e5 (mC (.int 9)))) (mRet (mTup (aCons (mC (.str "do")) (aCons (mVar 7) (aCons (mFn F_l_pick (aCons 2e1 (aCons 18e2 aNil))) aNil))))) mSkip) (mSeq (mIfS (mTest (mOp (g2 ltP) 17e5 (mC (.int 10)))) (mRet (mTup (aCons (mC (.str "free")) 12e9))) mSkip) (mSeq (mIfS (mTest (mOp (g2 ltP) 17e5 (mC (.int 11)))) (mRet (mTup (aCons (mC (.str "ready")) 12e9))) mSkip) (mSeq (mIfS (mTest (mOp (g2 ltP) 17e5 (mC (.int 12)))) (mRet (mTup (aCons (mC (.str "hand")) (aCons (mVar 7) (aCons (mOp 3e6 8e1 (mFn F_l_pick (aCons 2e1 (aCons (mCB 9e5 5e7) aNil)))) aNil))))) mSkip) (mSeq (mIfS (mTest (mOp (g2 ltP) 17e5 (mC (.int 13)))) (mRet (mTup (aCons (mC (.str "quit")) 12e9))) mSkip) (mRet (mOp 3e6 (mVal (mLst (aCons 12e7 (aCons (mTup (aCons (mC (.str "say")) (aCons (mOp 3e6 8e1 3e4) aNil))) (aCons 11e2 aNil))))) (mOp (g2 subP) 17e5 (mC (.int 13))))))))))
theorem deed_is:B_l_deed=mSeq (mAsg 4e4 (hTup (hCons (hName 2) (hCons (hName 3) (hCons (hName 4) (hCons (hName 5) hNil)))) 4)) (mSeq (mSet 6 (mFn F_l_pick (aCons 2e1 (aCons (mC (.int 16)) aNil)))) (mSeq (mSet 7 (mFn F_l_pick (aCons 2e1 (aCons (mCB 9e5 7e3) aNil)))) (mSeq (mAsg (mOp 3e6 (mVar 5) (mVar 7)) 16e1) (mSeq (mIfS (mTest (mOp (g2 ltP) 17e5 2e9)) (mRet 11e2) mSkip) (mSeq (mSet 14 sdC) dRest))))):=rfl
theorem rest_ok (k:Nat)(w c:Int)(hs:5e9)(sd:5e6)(pn:Int)(x1 x3 x4 x5 x8 x9 x11 x12 x13:8e6)(C:Cs)(g:GS C k)(hw:0<=w/\w < 16)(hh:2<=hs.length/\hs.length<=8)(hsd:∀e∈sd,∃i w,e=[.inr "said",.inl i,.inr w])(hsl:sd.length<=100)(hp:1<=pn/\pn<=9):
  ∃(dd:11e9) (C':Cs),dRest [3e9,x1,#[.tup (hs.map .str)],x3,x4,x5,#[.int w],14e0,x8,x9,#[.int pn],x11,x12,x13,#[.lst (sd.map tupK)]] C=some (.rt (.v (tupK dd)),C')/\Adv k C C':=by
 have hne:=ne_lst sd
 by_cases h5:w < 5/\sd≠[]
 ·obtain ⟨h5,hnn⟩:=h5
  have hlen:0 < sd.length:=WC.mpr hnn
  obtain ⟨j,C',e,j1,j2,a⟩:=Zal k (sd.length:Int) C g 1e2
  have hj:j.toNat < sd.length:=by lia
  obtain ⟨i,v,hv⟩:=hsd _ (Y2 hj)
  have ix1:ixQ (.lst (sd.map tupK)) (.int j)=some (.tup [.str "said",.int i,.str v]):=by
   have:(sd.map tupK)[j.toNat]? = some (tupK sd[j.toNat]):=by rw[YL,Yb hj];rfl
   simp only[ixQ,ixP,atI,ixN]
   rw[if_pos j1,if_pos (by simpa using j2)]
   show (sd.map tupK)[j.toNat]? = _
   rw[this,hv];rfl
  have ix2:ixQ (.tup [.str "said",.int i,.str v]) (.int 2)=some (.str v):=by simp[ixQ,ixP,atI,ixN]
  have hl:lenH [.lst (sd.map tupK)]=some (.int (sd.length:Int)):=by simp[lenH]
  rw[decide_eq_true hnn] at hne
  refine ⟨[.inr "say",.inr v],C',?_,a⟩
  generalize sd.map tupK=SD at *
  simp[dRest,mSeq,mIfS,mAndT,mTest,mOp,mVar,mC,bnd,opM,Pu.ret,g1,g2,deref,derefs,ltP,intP,h5,mB,asB,mVal,mLst,aNil,Pu.plain,hne,mRet,mTup,aCons,mFn,mCB,hl,e,ix1,ix2,tupK,kP]
 ·have t6:mIfS (mAndT (mTest (mOp (g2 ltP) 17e5 13e1)) (mTest (mOp 4e2 (mVar 14) 8e2))) (mRet (mTup (aCons (mC (.str "say")) (aCons (mOp 3e6 (mOp 3e6 (mVar 14) (mFn F_l_pick (aCons 2e1 (aCons (mCB 9e5 (aCons (mVar 14) aNil)) aNil)))) 2e9) aNil)))) mSkip [3e9,x1,#[.tup (hs.map .str)],x3,x4,x5,#[.int w],14e0,x8,x9,#[.int pn],x11,x12,x13,#[.lst (sd.map tupK)]] C=some (.nx [3e9,x1,#[.tup (hs.map .str)],x3,x4,x5,#[.int w],14e0,x8,x9,#[.int pn],x11,x12,x13,#[.lst (sd.map tupK)]],C):=by
   by_cases hw5:w < 5
   ·have hsn:¬sd≠[]:=fun z=>h5 ⟨hw5,z⟩
    rw[decide_eq_false hsn] at hne
    generalize sd.map tupK=SD at *
    simp![ltP,hw5,hne]
   ·simp![ltP,hw5]
  rw[show dRest=mSeq _ (mSeq _ _) from rfl,Zam t6]
  clear hne t6
  generalize sd.map tupK=SD at *
  have hl:lenH [.tup (hs.map .str)]=some (.int (hs.length:Int)):=by simp[lenH]
  have hz:∃z:Str,ixQ (.tup (hs.map .str)) (.int 0)=some (.str z):=by
   cases hs with
   | nil=>simp at hh
   | cons a hs=>exact ⟨a,by simp[ixQ,ixP,atI,ixN]⟩
  by_cases h9:w < 9
  ·obtain ⟨j,C',e,_,_,a⟩:=Zal k pn C g 1e2
   refine ⟨[.inr "do",.inl c,.inl j],C',?_,a⟩
   simp![ltP,h9,e,tupK,kP]
  ·by_cases h10:w < 10
   ·exact ⟨[.inr "free",.inl c],C,by simp![ltP,h9,h10,tupK,kP],Adv.refl g⟩
   ·by_cases h11:w < 11
    ·exact ⟨[.inr "ready",.inl c],C,by simp![ltP,h9,h10,h11,tupK,kP],Adv.refl g⟩
    ·by_cases h12:w < 12
     ·obtain ⟨j,C',e,j1,j2,a⟩:=Zal k (hs.length:Int) C g 1e2
      have hj:j.toNat < hs.length:=by lia
      have ix1:ixQ (.tup (hs.map .str)) (.int j)=some (.str hs[j.toNat]):=by simp[ixQ,ixP,atI,ixN,j1,j2,Yb hj]
      refine ⟨[.inr "hand",.inl c,.inr hs[j.toNat]],C',?_,a⟩
      generalize hs.map PV.str=HS at *
      simp[mSeq,mIfS,mTest,mOp,mVar,mC,bnd,opM,Pu.ret,g1,g2,deref,derefs,ltP,intP,h9,h10,h11,h12,mB,asB,mRet,mTup,aCons,aNil,mSkip,mFn,mCB,hl,e,ix1,Pu.plain,tupK,kP]
     ·by_cases h13:w < 13
      ·exact ⟨[.inr "quit",.inl c],C,by simp![ltP,h9,h10,h11,h12,h13,tupK,kP],Adv.refl g⟩
      ·obtain ⟨z,hz⟩:=hz
       have:w=13\/w=14\/w=15:=by lia
       generalize hs.map PV.str=HS at *
       have i0:ixQ (.lst [.tup [.str "note"],.tup [.str "say",.str z],.tup [.str "join"]]) (.int 0)=some (.tup [.str "note"]):=by simp[ixQ,ixP,atI,ixN]
       have i1:ixQ (.lst [.tup [.str "note"],.tup [.str "say",.str z],.tup [.str "join"]]) (.int 1)=some (.tup [.str "say",.str z]):=by simp[ixQ,ixP,atI,ixN]
       have i2:ixQ (.lst [.tup [.str "note"],.tup [.str "say",.str z],.tup [.str "join"]]) (.int 2)=some (.tup [.str "join"]):=by simp[ixQ,ixP,atI,ixN]
       rcases this with rfl | rfl | rfl
       ·exact ⟨[.inr "note"],C,by simp![ltP,hz,subP,i0,i1,i2,tupK,kP],Adv.refl g⟩
       ·exact ⟨[.inr "say",.inr z],C,by simp![ltP,hz,subP,i0,i1,i2,tupK,kP],Adv.refl g⟩
       ·exact ⟨[.inr "join"],C,by simp![ltP,hz,subP,i0,i1,i2,tupK,kP],Adv.refl g⟩
theorem deed_adv (k:Nat)(d:Dl)(hd:DlOk d)(C:Cs)(g:GS C k):∃(dd:11e9) (C':Cs),F_l_deed [.c k,.v d.P] C=some (.v (tupK dd),C')/\Adv k C C':=by
 obtain ⟨w,C1,e1,w1,w2,a1⟩:=Zal k 16 C g 1e6
 have hc1:=hd.c1
 obtain ⟨c,C2,e2,c1,c2,a2⟩:=Zal k (d.cs.length:Int) C1 a1.gs 1e2
 have hcl:c.toNat < d.cs.length:=by lia
 obtain ⟨cl,hcle⟩:∃cl,cl=d.cs[c.toNat]:=9e7
 have hok:ClOk cl:=by rw[hcle];exact hd.cs _ (Y2 hcl)
 have hix:ixQ (.tup (d.cs.map Cl.P)) (.int c)=some cl.P:=by
  rw[hcle]
  simp[ixQ,ixP,atI,ixN,c1,c2,Yb hcl]
 have hlen:lenH [.tup (d.cs.map Cl.P)]=some (.int (d.cs.length:Int)):=by simp[lenH]
 have a:=a1.trans a2
 have st0:mAsg 4e4 (hTup (hCons (hName 2) (hCons (hName 3) (hCons (hName 4) (hCons (hName 5) hNil)))) 4) [3e9,#[d.P],none,none,none,none,none,none,none,none,none,none,none,none,none] C=some (.nx [3e9,#[d.P],#[.tup (d.hs.map .str)],#[.tup (d.ow.map .str)],#[.int d.cl],#[.tup (d.cs.map Cl.P)],none,none,none,none,none,none,none,none,none],C):=by
  simp![mAsg,Dl.P,hTup,hCons,hName,hNil]
 have st1:mSet 6 (mFn F_l_pick (aCons 2e1 (aCons (mC (.int 16)) aNil))) [3e9,#[d.P],#[.tup (d.hs.map .str)],#[.tup (d.ow.map .str)],#[.int d.cl],#[.tup (d.cs.map Cl.P)],none,none,none,none,none,none,none,none,none] C=some (.nx [3e9,#[d.P],#[.tup (d.hs.map .str)],#[.tup (d.ow.map .str)],#[.int d.cl],#[.tup (d.cs.map Cl.P)],#[.int w],none,none,none,none,none,none,none,none],C1):=by
  simp![e1]
 have st2:mSet 7 (mFn F_l_pick (aCons 2e1 (aCons (mCB 9e5 7e3) aNil))) [3e9,#[d.P],#[.tup (d.hs.map .str)],#[.tup (d.ow.map .str)],#[.int d.cl],#[.tup (d.cs.map Cl.P)],#[.int w],none,none,none,none,none,none,none,none] C1=some (.nx [3e9,#[d.P],#[.tup (d.hs.map .str)],#[.tup (d.ow.map .str)],#[.int d.cl],#[.tup (d.cs.map Cl.P)],#[.int w],14e0,none,none,none,none,none,none,none],C2):=by
  generalize d.cs.map Cl.P=CS at *
  simp[mSet,mFn,aCons,aNil,mVar,mCB,g1,derefs,deref,opM,bnd,Pu.ret,hlen,e2]
 have st3:mAsg (mOp 3e6 (mVar 5) (mVar 7)) 16e1 [3e9,#[d.P],#[.tup (d.hs.map .str)],#[.tup (d.ow.map .str)],#[.int d.cl],#[.tup (d.cs.map Cl.P)],#[.int w],14e0,none,none,none,none,none,none,none] C2=some (.nx 2e2,C2):=by
  generalize d.cs.map Cl.P=CS at *
  simp![mAsg,hix,Cl.P,hTup,hCons,hName,hNil]
 have end':∀(f:13e8) (r:PV) (Cx:Cs),f 2e2 C2=some (.rt (.v r),Cx)->Adv k C Cx->mDef 2 13 (mSeq (mAsg 4e4 (hTup (hCons (hName 2) (hCons (hName 3) (hCons (hName 4) (hCons (hName 5) hNil)))) 4)) (mSeq (mSet 6 (mFn F_l_pick (aCons 2e1 (aCons (mC (.int 16)) aNil)))) (mSeq (mSet 7 (mFn F_l_pick (aCons 2e1 (aCons (mCB 9e5 7e3) aNil)))) (mSeq (mAsg (mOp 3e6 (mVar 5) (mVar 7)) 16e1) f)))) [.c k,.v d.P] C=some (.v r,Cx):=fun f r Cx hf hA=>by
  show (match mSeq _ _ [3e9,some (.v d.P),none,none,none,none,none,none,none,none,none,none,none,none,none] C with
   | some (.rt r,C')=>fin C.length C' r
   | some (.nx _,C')=>some 13e7
   | some (.rf ps,C')=>some 14e6
   | some (.rq qs,C')=>(finQ C.length C' qs).map fun ps=>14e7
   | _=>none)=_
  rw[Zam st0,Zam st1,Zam st2,Zam st3,hf]
  show some (SV.v r,Cx.take C.length)=_
  rw[hA.take]
 unfold F_l_deed
 rw[deed_is]
 by_cases h2:w < 2
 ·refine ⟨[.inr "join"],C2,end' _ _ _ ?_ a,a⟩
  generalize d.cs.map Cl.P=CS at *
  simp![ltP,h2,tupK,kP]
 ·obtain ⟨sd,esd,hsl,hsd⟩:=said_comp (evsOf cl) (evsOf_ok hok) C2
  have hev:(evsOf cl).length<=9:=by
   unfold evsOf
   have:=hok.le
   rw[Xa]
   cases cl.lv<;>simp<;>lia
  have hit:=evsOf_items cl hok 2e2 C2 rfl rfl
  obtain ⟨dd,C3,er,a3⟩:=rest_ok k w c d.hs sd cl.p #[d.P] #[.tup (d.ow.map .str)] #[.int d.cl] #[.tup (d.cs.map Cl.P)] #[.int cl.a] #[.int cl.b] #[.int cl.w] #[.tup (cl.cs.map tupK)] #[lvP cl.lv] C2 a.gs ⟨w1,w2⟩ hd.h2 hsd 1e2 hok.p
  refine ⟨dd,C3,end' _ _ _ ?_ (a.trans a3),a.trans a3⟩
  have t4:mIfS (mTest (mOp (g2 ltP) 17e5 2e9)) (mRet 11e2) mSkip 2e2 C2=some (.nx 2e2,C2):=by
   simp![ltP,h2]
  have t5:mSet 14 sdC 2e2 C2=some (.nx [3e9,#[d.P],#[.tup (d.hs.map .str)],#[.tup (d.ow.map .str)],#[.int d.cl],#[.tup (d.cs.map Cl.P)],#[.int w],14e0,#[.int cl.a],#[.int cl.b],#[.int cl.p],#[.int cl.w],#[.tup (cl.cs.map tupK)],#[lvP cl.lv],#[.lst (sd.map tupK)]],C2):=by
   have hcm:sdC 2e2 C2=some (.v (.lst (sd.map tupK)),C2):=by
    have hl:((evsOf cl).map tupK).length<=100000:=by simp;lia
    unfold sdC mVal mComp bnd
    rw[hit]
    dsimp only
    rw[if_pos hl]
    simp only[stIn',Yq,Ww,YJ]
    rw[esd];rfl
   unfold mSet bnd;rw[hcm];rfl
  rw[Zam t4,Zam t5]
  exact er
def nmV (l:Lt):PV:=tupK l.nm
theorem eqD_nm (a b:11e9):eqD (tupK a) (tupK b)=decide (a=b):=by
 by_cases h:a=b
 ·subst h;rw[decide_eq_true rfl];exact Zcj (Za7 a)
 ·rw[decide_eq_false h]
  cases e:eqD (tupK a) (tupK b) with
  | false=>rfl
  | true=>
   have:=(Zbq (tupK a) (Za7 a) (Za7 b)).mp e
   unfold tupK at this
   have h2:a.map kP=b.map kP:=by simpa using this
   have h3:=ZaZ a
   rw[h2,ZaZ] at h3
   exact absurd (YG h3).symm h
theorem last_ix (pre:List Lt)(l:Lt):ixQ (.lst ((pre++[l]).map Lt.P)) (.int (-1))=some l.P:=by
 have e:(-1 + ((pre.length:Int) + 1)).toNat=pre.length:=by lia
 simp[ixQ,ixP,atI,ixN]
 rw[if_pos 1e2,e]
 simp
theorem sl3 (l:Lt)(C:Cs):sliceD C (.v l.P) none (some 3)=#[tupK l.nm]:=by
 simp![Lt.P,cut3,nm_P]
def isOf (h d:Str)(l:Lt):Bool:=l.h==h&&l.d==d
def isOfP (h d:Str)(p:PV):Bool:=match p with
 | .tup (.str a::.str b::_)=>a==h&&b==d
 | _=>false
theorem isOfP_eq (h d:Str)(l:Lt):isOfP h d l.P=isOf h d l:=rfl
theorem eq2 (a b h d:Str):deepP eqD (.tup [.str a,.str b]) (.tup [.str h,.str d])=some (.bl (a==h&&b==d)):=by
 simp[deepP,dat,dats,dep,deps,eqD,eqDs]
theorem ne2 (a b h d:Str):deepP (fun p q=>!eqD p q) (.tup [.str a,.str b]) (.tup [.str h,.str d])=some (.bl (!(a==h&&b==d))):=by
 simp[deepP,dat,dats,dep,deps,eqD,eqDs]
theorem sl2 (l:Lt)(C:Cs):sliceD C (.v l.P) none (some 2)=#[.tup [.str l.h,.str l.d]]:=by
 simp![Lt.P,cut2]
abbrev miT:PSt->M Bool:=mTest (mOp 14e4 (mSlice 2e1 oNo (oPart 2e9)) (mTup (aCons 4e4 5e7)))
abbrev otN:PSt->M Bool:=mTest (mOp 4e2 (mSlice 2e1 oNo (oPart 2e9)) (mTup (aCons 4e4 5e7)))
theorem mine_comp (ls:List Lt)(h d:Str)(C:Cs):compL 6e5 miT 2e1 (ls.map Lt.P) [none,19e1,#[.str d]] [] C=some ((ls.filter (isOf h d)).map Lt.P,C):=by
 have e:=Zcl (te:=mVar 0) (tt:=miT) (isOfP h d) (ls.map Lt.P) [none,19e1,#[.str d]] [] C (fun x hx=>by
  obtain ⟨l,_,rfl⟩:=YB.mp hx
  have h1:=sl2 l
  have h2:=eq2 l.h l.d h d
  rw[isOfP_eq]
  unfold isOf
  generalize l.P=LP at *
  simp[miT,mTest,mOp,mSlice,mVar,oNo,oPart,mC,bnd,opM,Pu.ret,Pu.intD,deref,h1,mTup,aCons,aNil,Pu.plain,g2,h2,mB,asB]) (fun x hx=>by simp[mVar])
 rw[e,Xp,VP];rfl
theorem rest_comp (ls:List Lt)(h d:Str)(C:Cs):compL 6e5 otN 2e1 (ls.map Lt.P) [none,19e1,#[.str d]] [] C=some ((ls.filter fun l=>!isOf h d l).map Lt.P,C):=by
 have e:=Zcl (te:=mVar 0) (tt:=otN) (fun p=>!isOfP h d p) (ls.map Lt.P) [none,19e1,#[.str d]] [] C (fun x hx=>by
  obtain ⟨l,_,rfl⟩:=YB.mp hx
  have h1:=sl2 l
  have h2:=ne2 l.h l.d h d
  show _=some (!isOfP h d l.P,C)
  rw[isOfP_eq]
  unfold isOf
  generalize l.P=LP at *
  simp[otN,mTest,mOp,mSlice,mVar,oNo,oPart,mC,bnd,opM,Pu.ret,Pu.intD,deref,h1,mTup,aCons,aNil,Pu.plain,g2,h2,mB,asB]) (fun x hx=>by simp[mVar])
 rw[e,Xp,VP];rfl
theorem neP_lst (ls:List Lt):deepP (fun p q=>!eqD p q) 9e2 (.lst [])=some (.bl (decide (ls≠[]))):=by
 have h1:dat 9e2=true:=by unfold dat;exact ZaY dat_P _
 have h2:dep 9e2<=60:=by unfold dep;have:=ZaX dep_P ls;lia
 have h3:dat (.lst [])=true:=rfl
 unfold deepP
 rw[h1,h3,decide_eq_true h2]
 cases ls with
 | nil=>rfl
 | cons a L=>rfl
theorem nm_of {ls:List Lt}{h d:Str}{l:Lt}(hl:l∈ls.filter (isOf h d)):∃m∈ls,m.nm=[.inr h,.inr d,.inl l.n]:=by
 obtain ⟨h1,h2⟩:=Xu.mp hl
 unfold isOf at h2
 simp only[Yt,beq_iff_eq] at h2
 exact ⟨l,h1,by unfold Lt.nm;rw[h2.1,h2.2]⟩
theorem last_eq (ls:List Lt)(hls:ls.length<=1000)(h d:Str)(C:Cs):∃n:Int,F_l_last [.v 9e2,.v (.str h),.v (.str d)] C=some (.v (.int n),C)/\(n=0\/∃m∈ls,m.nm=[.inr h,.inr d,.inl n]):=by
 have hm:=mine_comp ls h d C
 have hn:=neP_lst (ls.filter (isOf h d))
 have hl:(ls.map Lt.P).length<=100000:=by simp;lia
 have hb:B_l_last=mSeq (mSet 3 (mVal (mComp (mItems 2e1) 5e8 [1,2] 6e5 miT 2e1))) (mRet (mIf (mTest (mOp 4e2 7e7 8e2)) (mOp 3e6 (mOp 3e6 7e7 (mNeg 1e9)) 2e9) 3e4)):=rfl
 unfold F_l_last
 rw[hb]
 generalize miT=tt at hm
 by_cases he:ls.filter (isOf h d)=[]
 ·rw[he] at hm hn
  rw[decide_eq_false 4e6] at hn
  refine ⟨0,?_,.inl rfl⟩
  sleep 1
  simp only[Ww] at hm hn
  simp![mComp,mItems,itemsP,hl,stIn',hm,hn]
 ·obtain ⟨pre,l,hp⟩:∃pre l,ls.filter (isOf h d)=pre++[l]:=⟨_,_,(List.dropLast_concat_getLast he).symm⟩
  rw[hp] at hm hn
  rw[decide_eq_true 4e6] at hn
  have hx:=last_ix pre l
  have h2:ixQ l.P (.int 2)=some (.int l.n):=by simp[Lt.P,ixQ,ixP,atI,ixN]
  have hlm:l∈ls.filter (isOf h d):=by rw[hp];simp
  refine ⟨l.n,?_,.inr (nm_of hlm)⟩
  clear hlm
  generalize (pre++[l]).map Lt.P=PL at *
  sleep 1
  generalize l.P=LP at *
  simp![mComp,mItems,itemsP,hl,stIn',hm,hn,mNeg,negP,hx,h2]
theorem ltD_nmV (t u:Lt):∃c,ltD (nmV t) (nmV u)=some c:=by
 show ∃c,ltD (.tup [.str t.h,.str t.d,.int t.n]) (.tup [.str u.h,.str u.d,.int u.n])=some c
 unfold ltD lexD
 split
 ·unfold lexD;split
  ·unfold lexD;split
   ·unfold lexD;exact 9e7
   ·unfold ltD;exact 9e7
  ·unfold ltD;exact 9e7
 ·unfold ltD;exact 9e7
theorem all_nmV (g:PV->Bool)(ts:List Lt)(h:∀t,g (nmV t)=true):(ts.map nmV).all g=true:=by
 rw[YW];intro x hx;obtain ⟨t,_,rfl⟩:=YB.mp hx;exact h t
theorem cmp_nmV (ts:List Lt):cmpAll 7e4=true:=all_nmV _ ts fun t=>all_nmV _ ts fun u=>by obtain ⟨c,e⟩:=ltD_nmV t u;rw[e];rfl
theorem ZcW (ts:List Lt)(h:ts.length < 64):sortP 7e4=some (sortL 7e4):=by
 have hd:deps 7e4<=1:=ZaX (f:=nmV) (fun m=>Zbl m.nm) ts
 have hs:sortable 7e4=true:=by unfold sortable;rw[all_nmV (fun p=>fstK p==4) ts fun t=>rfl];simp
 have hda:dats 7e4=true:=ZaY (f:=nmV) (fun m=>Za8 m.nm) ts
 unfold sortP
 rw[if_pos]
 rw[hda,hs,cmp_nmV,YA]
 simp[h];lia
theorem sort_nmV (ts:List Lt):∃gs:List (List Key),sortL 7e4=gs.map tupK/\gs.length=ts.length/\(∀g∈gs,∃t∈ts,t.nm=g)/\gs.Perm (ts.map Lt.nm):=by
 have p:=Zbr (cmp_nmV ts) (Za4 (f:=nmV) (fun m=>Za7 m.nm) ts)
 obtain ⟨gs,q,e⟩:=ZbL (f:=tupK) p (ts.map Lt.nm) (by rw[Xi];rfl)
 exact ⟨gs,e,by rw[q.length_eq,YA],fun g hg=>YB.mp (q.mem_iff.mp hg),q⟩
def shortL (l:Lt):Prop:=l.h.length<=1000/\l.d.length<=1000
theorem keysOk_nm (ts:List Lt)(h:∀t∈ts,shortL t):keysOk (ts.map Lt.nm)=true:=by
 unfold keysOk
 rw[YW]
 intro k hk
 obtain ⟨t,ht,rfl⟩:=YB.mp hk
 obtain ⟨h1,h2⟩:=h t ht
 simp[Lt.nm,keyOk,h1,h2]
theorem map_nmV (ts:List Lt):(ts.map Lt.nm).map tupK=ts.map nmV:=by rw[Xi];rfl
theorem put_nm (ts:List Lt)(t:Lt):∃us:List Lt,putKs (ts.map Lt.nm) t.nm=us.map Lt.nm/\us.length<=ts.length + 1/\(∀u∈us,u∈ts\/u=t)/\((ts.map Lt.nm).Nodup->(us.map Lt.nm).Nodup):=by
 unfold putKs
 cases hin:inK t.nm (ts.map Lt.nm) with
 | true=>exact ⟨ts,by simp,by lia,fun u h=>.inl h,id⟩
 | false=>
  refine ⟨ts++[t],by simp,by simp,fun u h=>?_,fun nd=>?_⟩
  ·rcases Yw.mp h with h | h
   ·exact .inl h
   ·exact .inr (Yk.mp h)
  ·rw[Y4,XB]
   refine ⟨nd,by simp,fun x hx y hy e=>?_⟩
   rw[List.map_singleton,Yk] at hy
   subst hy;subst e
   rw[Zbp.mpr hx] at hin;cases hin
theorem name_eq (l:Lt)(C:Cs):F_l_name [.v l.P] C=some (.v (tupK l.nm),C):=by
 simp![F_l_name,Lt.P,cut3,nm_P]
theorem ix_neg (so:List Lt)(a:Int)(h1:1<=a)(h2:a<=so.length):∃l∈so,ixQ (.lst (so.map Lt.P)) (.int (-a))=some l.P:=by
 have hj:(-a + (so.length:Int)).toNat < so.length:=by lia
 refine ⟨so[(-a + (so.length:Int)).toNat],Y2 hj,?_⟩
 have n1:¬(0:Int)<=-a:=by lia
 have n2:-(so.length:Int)<=-a:=by lia
 simp only[ixQ,ixP,atI,ixN,YA]
 rw[if_neg n1,if_pos n2]
 show (so.map Lt.P)[(-a + (so.length:Int)).toNat]? = _
 rw[YL,Yb hj];rfl
abbrev rgG:PSt->M SV:=mOp (g2 mulP) (mOp 3e6 (mVal (mLst (aCons 3e4 (aCons 1e9 (aCons 1e9 15e0))))) (mFn F_l_pick (aCons 2e1 10e5))) (mCB (g1 intH) (aCons (mOp 4e2 18e3 8e2) aNil))
abbrev at1:PSt->M SV:=mOp 4e8 (mFn F_l_pick (aCons 2e1 (aCons (mCB (g1 minH) (aCons (mCB 9e5 11e3) (aCons 13e1 aNil))) aNil))) 1e9
abbrev at2:PSt->M PF:=mIfS (mTest (mOp (g2 eqP) (mFn F_l_pick (aCons 2e1 (aCons 15e8 aNil))) 3e4)) (mSet 7 (mOp 4e8 (mFn F_l_pick (aCons 2e1 (aCons (mCB 9e5 11e3) aNil))) 1e9)) mSkip
abbrev put3:PSt->M PF:=mSetIxT (mC 14e8) (mVar 5) (mFn F_l_name (aCons (mOp 3e6 18e3 (mNeg (mVar 7))) aNil))
abbrev gbd:PSt->M PF:=mSeq (mSet 7 at1) (mSeq at2 put3)
theorem gots_is:B_l_gots=mSeq (mSet 4 (mVal (mComp (mItems 4e4) 5e8 [2,3] 6e5 otN 2e1))) (mSeq (mNewT 5) (mSeq (mFor (mRange1 (aCons rgG aNil)) (hName 6) gbd) (mRet (mCB (g1 tupH) (aCons (mVal (mSorted3 7e3)) aNil))))):=rfl
section
variable (k n:Nat)(LS H D:8e6)(so:List Lt)
theorem gbd_ok (hso:0 < so.length)(hsl:so.length<=1000)(hsh:∀l∈so,shortL l)(x6 x7:8e6)(ts:List Lt)(vs:List PV)(C:Cs)(g:GS C k)(hkn:k≠n)(hC:C[n]? = some (.dtt (ts.map Lt.nm) vs))(hts:∀t∈ts,shortL t)(htl:ts.length < 500)(hnd:(ts.map Lt.nm).Nodup):
  ∃(y7:8e6) (us:List Lt) (ws:List PV) (C':Cs),gbd [3e9,LS,H,D,10e6,18e1,x6,x7] C=some (.nx [3e9,LS,H,D,10e6,18e1,x6,y7],C')/\GS C' k/\C'[n]? = some (.dtt (us.map Lt.nm) ws)/\(∀t∈us,t∈ts\/t∈so)/\us.length<=ts.length + 1/\C'.length=C.length/\(∀j,j≠k->j≠n->C'[j]? = C[j]?)/\(us.map Lt.nm).Nodup:=by
 have hl:lenH [.lst (so.map Lt.P)]=some (.int (so.length:Int)):=by simp[lenH]
 have hmn:∃m:Int,minH [.int (so.length:Int),.int 5]=some (.int m)/\0 < m/\m<=so.length/\m<=5:=by
  unfold minH
  by_cases q:(5:Int) < so.length
  ·exact ⟨5,by simp[q],by lia,by lia,by lia⟩
  ·exact ⟨so.length,by simp[q],by lia,by lia,by lia⟩
 obtain ⟨m,hm,m0,m1,m5⟩:=hmn
 obtain ⟨d1,C1,e1,d1a,d1b,a1⟩:=Zal k m C g 1e2
 have st1:mSet 7 at1 [3e9,LS,H,D,10e6,18e1,x6,x7] C=some (.nx [3e9,LS,H,D,10e6,18e1,x6,#[.int (d1 + 1)]],C1):=by
  generalize so.map Lt.P=SO at *
  simp[mSet,at1,mOp,mFn,aCons,aNil,mVar,mC,mCB,g1,g2,derefs,deref,opM,bnd,Pu.ret,hl,hm,e1,addP]
 obtain ⟨d2,C2,e2,d2a,d2b,a2⟩:=Zal k 4 C1 a1.gs 1e6
 obtain ⟨t,C3,st2,t1,t2,a3⟩:∃(t:Int) (C3:Cs),at2 [some (.c k),LS,H,D,#[.lst (so.map Lt.P)],some (.c n),x6,#[.int (d1 + 1)]] C1=some (.nx [some (.c k),LS,H,D,#[.lst (so.map Lt.P)],some (.c n),x6,#[.int t]],C3)/\1<=t/\t<=so.length/\Adv k C1 C3:=by
  by_cases hz:d2=0
  ·obtain ⟨d3,C3,e3,d3a,d3b,a3⟩:=Zal k (so.length:Int) C2 a2.gs 1e2
   refine ⟨d3 + 1,C3,?_,by lia,by lia,a2.trans a3⟩
   subst hz
   generalize so.map Lt.P=SO at *
   simp[at2,mIfS,mTest,mOp,mFn,aCons,aNil,mVar,mC,mCB,g1,g2,derefs,deref,opM,bnd,Pu.ret,e2,eqP,scP,mB,asB,mSet,hl,e3,addP]
  ·refine ⟨d1 + 1,C2,?_,by lia,by lia,a2⟩
   generalize so.map Lt.P=SO at *
   simp![at2,e2,hz]
 have a13:=a1.trans a3
 obtain ⟨l,hlm,hix⟩:=ix_neg so t t1 t2
 have hn3:C3[n]? = some (.dtt (ts.map Lt.nm) vs):=by rw[a13.oth n (Xx hkn)];exact hC
 obtain ⟨us,hus,hul,hum,hun⟩:=put_nm ts l
 have hk:keysP (l.nm.map kP)=some l.nm:=ZaZ l.nm
 have st3:put3 [3e9,LS,H,D,10e6,18e1,x6,#[.int t]] C3=some (.nx [3e9,LS,H,D,10e6,18e1,x6,#[.int t]],C3.set n (.dtt (us.map Lt.nm) (putVs (ts.map Lt.nm) vs l.nm 14e8))):=by
  have hset:setT (.v 14e8) (.c n) (.v (tupK l.nm)) [3e9,LS,H,D,10e6,18e1,x6,#[.int t]] C3=some (.nx [3e9,LS,H,D,10e6,18e1,x6,#[.int t]],C3.set n (.dtt (us.map Lt.nm) (putVs (ts.map Lt.nm) vs l.nm 14e8))):=by
   unfold tupK setT
   simp only[hn3,hk]
   rw[if_pos 11e0,hus]
  have hnm:=name_eq l C3
  generalize tupK l.nm=N at *
  generalize l.P=LP at *
  generalize so.map Lt.P=SO at *
  simp![put3,mSetIxT,mNeg,negP,hix,hnm,hset]
 refine ⟨#[.int t],us,putVs (ts.map Lt.nm) vs l.nm 14e8,C3.set n (.dtt (us.map Lt.nm) (putVs (ts.map Lt.nm) vs l.nm 14e8)),?_,?_,setAt hn3,fun u hu=>?_,hul,by rw[XM,a13.len],fun j q1 q2=>by rw[Yy (Xx q2)];exact a13.oth j q1,hun hnd⟩
 ·rw[show gbd=mSeq (mSet 7 at1) (mSeq at2 put3) from rfl,Zam st1,Zam st2];exact st3
 ·obtain ⟨x,y,h,r⟩:=a13.gs
  exact ⟨x,y,by rw[Yy (Xx hkn)];exact h,r⟩
 ·rcases hum u hu with h | rfl
  ·exact .inl h
  ·exact .inr hlm
end
theorem gots_adv (k:Nat)(ls:List Lt)(hls:ls.length<=1000)(hsh:∀l∈ls,shortL l)(h d:Str)(C:Cs)(g:GS C k):∃(gs:5e6) (C':Cs),F_l_gots [.c k,.v 9e2,.v (.str h),.v (.str d)] C=some (.v (.tup (gs.map tupK)),C')/\gs.length<=7/\(∀g∈gs,∃m∈ls,m.nm=g/\isOf h d m=false)/\gs.Nodup/\Adv k C C':=by
 have hkn:k≠C.length:=Yr g.lt
 have hrc:=rest_comp ls h d C
 obtain ⟨so,hso⟩:∃so,so=ls.filter fun l=>!isOf h d l:=9e7
 rw[←hso] at hrc
 have hsol:so.length<=1000:=by rw[hso];exact YQ (Wl _ _) hls
 have hsos:∀l∈so,shortL l:=fun l hl=>by rw[hso] at hl;exact hsh l (Xu.mp hl).1
 have hl:(ls.map Lt.P).length<=100000:=by simp;lia
 have st1:mSet 4 (mVal (mComp (mItems 4e4) 5e8 [2,3] 6e5 otN 2e1)) [3e9,2e4,19e1,#[.str d],none,none,none,none] C=some (.nx [3e9,2e4,19e1,#[.str d],10e6,none,none,none],C):=by
  sleep 1
  generalize so.map Lt.P=SO at *
  generalize otN=tt at hrc
  simp![mComp,mItems,itemsP,hl,stIn',hrc]
 have st2:mNewT 5 [3e9,2e4,19e1,#[.str d],10e6,none,none,none] C=some (.nx [3e9,2e4,19e1,#[.str d],10e6,6e4,none,none],C++[.dtt [] []]):=rfl
 have g2':=g.app (.dtt [] [])
 obtain ⟨p,C3,e3,p1,p2,a3⟩:=Zal k 8 _ g2' 1e6
 obtain ⟨r,hr,r0,r7⟩:=ix_rg [.int 0,.int 1,.int 1,.int 2,.int 3,.int 1,.int 2,.int 7] 0 7 1e0 p p1 (by simpa using p2)
 have hne:=neP_lst so
 obtain ⟨N,hN,hN0,hN7,hNs⟩:∃N:Nat,rgG [some (.c k),#[.lst (ls.map Lt.P)],#[.str h],#[.str d],#[.lst (so.map Lt.P)],some (.c C.length),none,none] (C++[.dtt [] []])=some (.v (.int (N:Int)),C3)/\True/\N<=7/\(0 < N->0 < so.length):=by
  have cr:-18446744073709551616 < r/\r < 18446744073709551616:=by lia
  by_cases hs:so=[]
  ·subst hs
   rw[decide_eq_false 4e6] at hne
   refine ⟨0,?_,trivial,by lia,fun z=>absurd z 1e6⟩
   simp only[Ww] at hne
   sleep 1
   simp![rgG,e3,hr,hne,intH,mulP,cr]
  ·rw[decide_eq_true hs] at hne
   refine ⟨r.toNat,?_,trivial,by lia,fun _=>WC.mpr hs⟩
   have hrr:((r.toNat:Nat):Int)=r:=by lia
   rw[hrr]
   sleep 1
   generalize so.map Lt.P=SO at *
   simp![rgG,e3,hr,hne,intH,mulP,cr]
 obtain ⟨ρ',D,e5,hpi⟩:=ZbB (g:=hName 6) (f:=gbd) (fun i ρ D=>∃(x6 x7:8e6) (ts:List Lt) (vs:List PV),ρ=[3e9,2e4,19e1,#[.str d],10e6,6e4,x6,x7]/\GS D k/\D[C.length]? = some (.dtt (ts.map Lt.nm) vs)/\(∀t∈ts,t∈so)/\ts.length<=i/\D.length=C.length + 1/\(∀j,j < C.length->j≠k->D[j]? = C[j]?)/\(ts.map Lt.nm).Nodup) 7
  ((Yi N).map fun (q:Nat)=>PV.int (0 + q)) 0 11e0 (fun x hx i ρ D hi hh=>by
   obtain ⟨q,hq,rfl⟩:=YB.mp hx
   have hq:=Y3.mp hq
   obtain ⟨x6,x7,ts,vs,rfl,h1,h2,h3,h4,h5,h6,h7⟩:=hh
   obtain ⟨y7,us,ws,D',t1,t2,t3,t4,t5,t6,t7,t8⟩:=gbd_ok k C.length #[.lst (ls.map Lt.P)] #[.str h] #[.str d] so (hNs 1e2) hsol hsos #[(.int 9e3)] x7 ts vs D h1 hkn h2 (fun t ht=>hsos t (h3 t ht)) 1e2 h7
   exact ⟨_,_,D',rfl,t1,_,y7,us,ws,rfl,t2,t3,fun t ht=>(t4 t ht).elim (h3 t) id,by lia,by lia,fun j q1 q2=>by rw[t7 j q2 (by lia),h6 j q1 q2],t8⟩) [some (.c k),#[.lst (ls.map Lt.P)],#[.str h],#[.str d],#[.lst (so.map Lt.P)],some (.c C.length),none,none] C3 ⟨none,none,[],[],rfl,a3.gs,by rw[a3.oth _ (Xx hkn)];simp,(fun _ z=>(nomatch z)),Yh _,by rw[a3.len];simp,fun j q1 q2=>by rw[a3.oth j q2,Yf q1],by simp⟩
 obtain ⟨x6,x7,ts,vs,rfl,h1,h2,h3,h4,h5,h6,h7⟩:=hpi
 have htl:ts.length<=7:=by simp at h4;lia
 have st3:mFor (mRange1 (aCons rgG aNil)) (hName 6) gbd [3e9,2e4,19e1,#[.str d],10e6,6e4,none,none] (C++[.dtt [] []])=some (.nx [3e9,2e4,19e1,#[.str d],10e6,6e4,x6,x7],D):=by
  have hrg:rng1P [.v (.int (N:Int))]=some ((Yi N).map fun (q:Nat)=>PV.int (0 + q)):=by
   unfold rng1P;dsimp only;rw[if_pos 1e2,Xy]
  have hm:mRange1 (aCons rgG aNil) [3e9,2e4,19e1,#[.str d],10e6,6e4,none,none] (C++[.dtt [] []])=some ((Yi N).map fun (q:Nat)=>PV.int (0 + q),C3):=by
   have:aCons rgG aNil [3e9,2e4,19e1,#[.str d],10e6,6e4,none,none] (C++[.dtt [] []])=some ([.v (.int (N:Int))],C3):=by
    unfold aCons bnd;rw[hN];rfl
   unfold mRange1 bnd;rw[this]
   show opM (fun _=>rng1P [.v (.int (N:Int))]) C3=_
   unfold opM;dsimp only;rw[hrg]
  unfold mFor bnd;rw[hm];exact e5
 obtain ⟨gs,hgs,hgl,hgm,hgp⟩:=sort_nmV ts
 refine ⟨gs,D.take C.length,?_,by lia,fun g hg=>by
  obtain ⟨t,ht,e⟩:=hgm g hg
  have:=h3 t ht
  rw[hso] at this
  exact ⟨t,(Xu.mp this).1,e,by simpa using (Xu.mp this).2⟩,hgp.nodup_iff.mpr h7,adv_cut (by lia) h1 g.lt h6⟩
 have hsort:sortedH3 D [.c C.length]=some (gs.map tupK):=by
  unfold sortedH3
  simp only[deref,h2]
  unfold sortedH2
  simp only[deref,h2]
  rw[if_pos (keysOk_nm ts fun t ht=>hsos t (h3 t ht)),map_nmV,ZcW ts 1e2,hgs]
 unfold F_l_gots
 rw[gots_is]
 show (match mSeq _ _ [3e9,some (.v 9e2),some (.v (.str h)),some (.v (.str d)),none,none,none,none] C with
  | some (.rt r,C')=>fin C.length C' r
  | some (.nx _,C')=>some 13e7
  | some (.rf ps,C')=>some 14e6
  | some (.rq qs,C')=>(finQ C.length C' qs).map fun ps=>14e7
  | _=>none)=_
 rw[Zam st1,Zam st2,Zam st3]
 generalize gs.map tupK=GS' at *
 simp![mSorted3,hsort,tupH]
theorem sort_strs (nms:5e9)(h7:nms.length<=7)(hle:∀w∈nms,w.length<=10)(C:Cs)(ps:List PV):∃sn:List Str,sortedH3 C [.v (.dct (nms.map .str) ps)]=some (sn.map .str)/\sn.length=nms.length/\(∀w∈sn,w∈nms)/\(nms.Nodup->sn.Nodup):=by
 have hd:dats (nms.map PV.str)=true:=ZaY (f:=PV.str) (fun _=>rfl) nms
 have hdp:deps (nms.map PV.str)<=0:=ZaX (f:=PV.str) (fun _=>Yh _) nms
 have hs:sortable (nms.map PV.str)=true:=by
  unfold sortable
  have:(nms.map PV.str).all (fun p=>fstK p==2)=true:=by rw[V0];exact YW.mpr fun _ _=>rfl
  rw[this];simp
 have hc:cmpAll (nms.map PV.str)=true:=by
  unfold cmpAll
  rw[V0]
  exact YW.mpr fun a _=>by
   show (nms.map PV.str).all _=true
   rw[V0]
   exact YW.mpr fun b _=>rfl
 have hp:purs (nms.map PV.str)=true:=Za4 (f:=PV.str) (fun _=>rfl) nms
 have hsp:sortP (nms.map PV.str)=some (sortL (nms.map PV.str)):=by
  unfold sortP
  rw[if_pos]
  rw[hd,hs,hc,YA]
  simp;lia
 have pm:=Zbr hc hp
 obtain ⟨sn,e⟩:=strs_of (sortL (nms.map PV.str)) fun x hx=>by
  obtain ⟨w,_,rfl⟩:=YB.mp (pm.mem_iff.mp hx)
  exact ⟨w,rfl⟩
 refine ⟨sn,?_,?_,fun w hw=>?_,fun hnd=>?_⟩
 ·unfold sortedH3
  simp only[deref]
  rw[←Zci nms,ZaZ]
  dsimp only
  rw[if_pos,Zci,hsp,e]
  rw[V0]
  exact YW.mpr fun w hw=>by
   show decide (w.length<=1000)=true
   have:=hle w hw
   exact decide_eq_true 1e2
 ·have:=pm.length_eq
  rw[e] at this
  simpa using this
 ·have:PV.str w∈sortL (nms.map PV.str):=by rw[e];exact XF hw
  obtain ⟨v,hv,ev⟩:=YB.mp (pm.mem_iff.mp this)
  cases ev;exact hv
 ·rw[e] at pm
  have h1:(nms.map PV.str).Nodup:=by
   rw[Y0,XH]
   exact Ub (fun {x y} hne z=>hne (by cases z;rfl)) (Y0.mp hnd)
  have h2:=pm.nodup_iff.mpr h1
  rw[Y0,XH] at h2
  rw[Y0]
  exact Ub (fun {x y} hne z=>hne (by rw[z])) h2
theorem look_deal (w:Str):∀(nms:5e9) (ds:List Dl),ds.length=nms.length->w∈nms->∃d∈ds,lookP (nms.map .str) (ds.map Dl.P) (.inr w)=some d.P
 | [],ds,_,h=>by cases h
 | v::nms,[],hl,h=>by simp at hl
 | v::nms,d::ds,hl,h=>by
  rw[Yq,Yq]
  unfold lookP
  by_cases e:v=w
  ·subst e
   exact ⟨d,by simp,by rw[if_pos (show keyP (.str v)=some (.inr v) from rfl)]⟩
  ·have hm:w∈nms:=by
    rcases Ym.mp h with h | h
    ·exact absurd h.symm e
    ·exact h
   obtain ⟨d',hd,h2⟩:=look_deal w nms ds (by simpa using hl) hm
   refine ⟨d',by simp[hd],?_⟩
   rw[if_neg (fun z=>e (by simpa[keyP] using z))]
   exact h2
def townP (sp:Int)(nms:5e9)(ds:List Dl):PV:=.tup [.int sp,.dct (nms.map .str) (ds.map Dl.P)]
theorem town_1 (sp:Int)(nms:5e9)(ds:List Dl):ixQ (townP sp nms ds) (.int 1)=some (.dct (nms.map .str) (ds.map Dl.P)):=by simp[townP,ixQ,ixP,atI,ixN]
theorem town_deal {nms:5e9}{ds:List Dl}(t:TnOk nms ds)(w:Str)(h:w∈nms):∃d∈ds,ixQ (.dct (nms.map .str) (ds.map Dl.P)) (.str w)=some d.P:=by
 obtain ⟨d,hd,e⟩:=look_deal w nms ds t.ld h
 exact ⟨d,hd,by unfold ixQ;simp only[keyP];exact e⟩
theorem deal_0 (d:Dl):ixQ d.P (.int 0)=some (.tup (d.hs.map .str)):=by simp[Dl.P,ixQ,ixP,atI,ixN]
theorem house_ix (hs:5e9)(hle:∀h∈hs,h.length<=10)(h8:hs.length<=8)(j:Int)(h0:0<=j)(h1:j < 2 * (hs.length:Int) + 2):∃h:Str,ixQ (.tup (hs.map .str++hs.map .str++[.str "bell",.str "stranger"])) (.int j)=some (.str h)/\h.length<=10:=by
 have e:hs.map PV.str++hs.map PV.str++[.str "bell",.str "stranger"]=(hs++hs++(["bell","stranger"]:List Str)).map PV.str:=by simp
 have hj:j.toNat < (hs++hs++(["bell","stranger"]:List Str)).length:=by simp;lia
 rw[e]
 refine ⟨(hs++hs++(["bell","stranger"]:List Str))[j.toNat],?_,?_⟩
 ·have h2:j < (((hs++hs++(["bell","stranger"]:List Str)).map PV.str).length:Int):=by simp;lia
  simp only[ixQ,ixP,atI,ixN]
  rw[if_pos h0,if_pos h2]
  show ((hs++hs++(["bell","stranger"]:List Str)).map PV.str)[j.toNat]? = _
  rw[YL,Yb hj];rfl
 ·have hm:=Y2 hj
  generalize (hs++hs++(["bell","stranger"]:List Str))[j.toNat]=x at hm
  rcases Yw.mp hm with hm | hm
  ·rcases Yw.mp hm with hm | hm<;>exact hle _ hm
  ·rcases Ym.mp hm with rfl | hm
   ·decide +kernel
   ·rw[Yk.mp hm];decide +kernel
abbrev lt0:PSt->M PF:=mSet 4 16e5
abbrev lt1:PSt->M PF:=mSet 5 (mOp 3e6 18e3 (mFn F_l_pick (aCons 2e1 (aCons (mCB 9e5 11e3) aNil))))
abbrev lt2:PSt->M PF:=mSet 6 (mOp 3e6 17e2 3e4)
abbrev lt3:PSt->M PF:=mSet 7 (mOp 3e6 (mOp 4e8 (mOp 4e8 17e5 17e5) (mTup (aCons (mC (.str "bell")) (aCons (mC (.str "stranger")) aNil)))) (mFn F_l_pick (aCons 2e1 (aCons (mOp 4e8 (mOp (g2 mulP) 2e9 (mCB 9e5 (aCons 17e5 aNil))) 2e9) aNil))))
abbrev lt4:PSt->M PF:=mSet 8 (mVal (mComp (mItems 8e1) 5e8 [7,5] 6e5 (mTest (mOp 14e4 (mSlice 2e1 oNo (oPart 2e9)) (mTup (aCons 4e4 5e7)))) 2e1))
abbrev lt5:PSt->M PF:=mSet 9 (mFn F_l_last (aCons 8e1 (aCons (mVar 7) 7e3)))
abbrev lt6:PSt->M PF:=mIfS (mAndT (mTest (mOp 4e2 19e5 8e2)) (mTest (mOp (g2 eqP) (mFn F_l_pick (aCons 2e1 (aCons (mC (.int 12)) aNil))) 3e4))) (mSet 9 (mOp 3e6 (mVal (mLst (aCons 3e4 (aCons (mOp 3e6 (mOp 3e6 19e5 (mFn F_l_pick (aCons 2e1 (aCons (mCB 9e5 (aCons 19e5 aNil)) aNil)))) 2e9) aNil)))) 7e2)) mSkip
abbrev lt7:PSt->M PF:=mSet 10 (mOp 4e8 (mCB 9e5 (aCons 19e5 aNil)) 1e9)
abbrev lt8:PSt->M PF:=mIfS (mTest (mOp (g2 eqP) 17e1 3e4)) (mSet 10 (mOp 4e8 (mC (.int 50)) (mOp (g2 mulP) (mC (.int 7)) (mCB 9e5 5e7)))) mSkip
abbrev lt9:PSt->M PF:=mIfS (mTest (mOp (g2 (inDP false)) 18e2 (mVal (mComp (mItems 19e5) 5e8 [] 6e5 tOk (mOp 3e6 2e1 2e9))))) (mSet 10 (mOp 4e8 (mC (.int 900)) (mOp (g2 mulP) (mC (.int 7)) (mCB 9e5 5e7)))) mSkip
abbrev lt10:PSt->M PF:=mSet 11 (mIf (mTest (mOp (g2 gtP) (mFn F_l_pick (aCons 2e1 (aCons (mC (.int 14)) aNil))) 3e4)) 7e7 (mCB (g1 maxH) (aCons 3e4 (aCons (mOp (g2 subP) (mOp (g2 subP) 7e7 1e9) 17e1) aNil))))
abbrev lt11:PSt->M PF:=mSet 12 (mFn F_l_deed (aCons 2e1 (aCons 17e2 aNil)))
abbrev lt12:PSt->M PF:=mRet (mTup (aCons (mVar 7) (aCons (mVar 5) (aCons 18e2 (aCons (mVar 9) (aCons (mFn F_l_gots (aCons 2e1 (aCons 8e1 (aCons (mVar 7) 7e3)))) (aCons (mVar 11) (aCons (mVar 12) aNil))))))))
theorem letter_is:B_l_letter=mSeq lt0 (mSeq lt1 (mSeq lt2 (mSeq lt3 (mSeq lt4 (mSeq lt5 (mSeq lt6 (mSeq lt7 (mSeq lt8 (mSeq lt9 (mSeq lt10 (mSeq lt11 lt12))))))))))):=rfl
theorem nr_comp (ls:List Lt)(C:Cs):compL 6e5 tOk (mOp 3e6 2e1 2e9) (ls.map Lt.P) [none] [] C=some (ls.map (fun l=>PV.int l.n),C):=by
 have e:=ZcS (te:=mOp 3e6 2e1 2e9) (f:=fun p=>match p with | .tup (_::_::c::_)=>c | _=>.non) (ls.map Lt.P) [none] [] C (fun x hx=>by
  obtain ⟨l,_,rfl⟩:=YB.mp hx
  simp![Lt.P,ixQ,ixP,atI,ixN])
 rw[e,Xp,Xi];rfl
theorem in_ints (n:Int)(ls:List Lt):∃b,inDP false (.int n) (.lst (ls.map fun l=>PV.int l.n))=some (.bl b)/\(b=false->∀l∈ls,l.n≠n):=by
 have h1:dats (ls.map fun l=>PV.int l.n)=true:=ZaY (f:=fun l:Lt=>PV.int l.n) (fun _=>rfl) ls
 have h2:deps (ls.map fun l=>PV.int l.n)<=50:=YQ (ZaX (f:=fun l:Lt=>PV.int l.n) (n:=0) (fun _=>Yh _) ls) 1e6
 refine ⟨(ls.map fun l=>PV.int l.n).any fun p=>eqD p (.int n),?_,fun hb l hl e=>?_⟩
 ·unfold inDP
  dsimp only
  rw[h1,show dat (.int n)=true from rfl,decide_eq_true h2];rfl
 ·have:=List.any_eq_false.mp hb (.int l.n) (XF hl)
  apply this
  show (l.n==n)=true
  rw[e];simp
structure Fa (os:List Lt)(l:Lt):Prop where
 n1:1<=l.n
 g7:l.gs.length<=7
 gin:∀g∈l.gs,∃m∈os,m.nm=g/\isOf l.h l.d m=false
 gnd:l.gs.Nodup
 pv:l.pv=0\/∃m∈os,m.nm=l.fo
theorem Fa.mono {os us:List Lt}{l:Lt}(f:Fa os l)(h:∀m∈os,m∈us):Fa us l:=
 ⟨f.n1,f.g7,fun g hg=>by obtain ⟨m,hm,e⟩:=f.gin g hg;exact ⟨m,h m hm,e⟩,f.gnd,by
  rcases f.pv with e | ⟨m,hm,e⟩
  ·exact .inl e
  ·exact .inr ⟨m,h m hm,e⟩⟩
theorem letter_adv (k:Nat)(sp:Int)(nms:5e9)(ds:List Dl)(t:TnOk nms ds)(ls:List Lt)(hls:ls.length<=100)(hsh:∀l∈ls,shortL l)(hnr:∀l∈ls,l.n < 900 + 7 * (ls.length:Int))(now:Int)(C:Cs)(g:GS C k):
  ∃(l:Lt) (C':Cs),F_l_letter [.c k,.v (townP sp nms ds),.v 9e2,.v (.int now)] C=some (.v l.P,C')/\Adv k C C'/\shortL l/\Fa ls l/\l.n < 900 + 7 * ((ls.length:Int) + 1)/\∀m∈ls,m.nm≠l.nm:=by
 obtain ⟨tl1,tl7⟩:=t.l1
 obtain ⟨sn,esn,hsn,hsm,_⟩:=sort_strs nms tl7 t.le C (ds.map Dl.P)
 have t1:=town_1 sp nms ds
 have s0:lt0 [3e9,4e0,2e4,15e4,none,none,none,none,none,none,none,none,none] C=some (.nx [3e9,4e0,2e4,15e4,10e7,none,none,none,none,none,none,none,none],C):=by
  sleep 12
  generalize sn.map PV.str=SN at *
  simp![lt0,mSorted3,t1,esn]
 obtain ⟨j,C1,e1,j1,j2,a1⟩:=Zal k (sn.length:Int) C g 1e2
 obtain ⟨w,hwm,hwx⟩:=ix_strs sn j j1 j2
 have hwn:=hsm w hwm
 have hwl:=t.le w hwn
 have lsn:lenH [.lst (sn.map .str)]=some (.int (sn.length:Int)):=by simp[lenH]
 have s1:lt1 [3e9,4e0,2e4,15e4,10e7,none,none,none,none,none,none,none,none] C=some (.nx [3e9,4e0,2e4,15e4,10e7,#[.str w],none,none,none,none,none,none,none],C1):=by
  generalize sn.map PV.str=SN at *
  simp[lt1,mSet,mOp,mVar,mFn,aCons,aNil,mCB,g1,g2,derefs,deref,bnd,opM,Pu.ret,lsn,e1,hwx]
 obtain ⟨dl,hdl,edl⟩:=town_deal t w hwn
 have hdo:=t.ok dl hdl
 obtain ⟨hh2,hh8⟩:=hdo.h2
 have d0:=deal_0 dl
 have s2:lt2 [3e9,4e0,2e4,15e4,10e7,#[.str w],none,none,none,none,none,none,none] C1=some (.nx [3e9,4e0,2e4,15e4,10e7,#[.str w],12e2,none,none,none,none,none,none],C1):=by
  sleep 12
  generalize dl.P=DP at *
  generalize dl.hs.map PV.str=HS at *
  generalize sn.map PV.str=SN at *
  simp![lt2,t1,edl,d0]
 obtain ⟨j2',C2,e2,j3,j4,a2⟩:=Zal k (2 * (dl.hs.length:Int) + 2) C1 a1.gs 1e2
 obtain ⟨h,hhx,hhl⟩:=house_ix dl.hs hdo.le hh8 j2' j3 j4
 have lhs:lenH [.tup (dl.hs.map .str)]=some (.int (dl.hs.length:Int)):=by simp[lenH]
 have hl6:(dl.hs.map PV.str).length<=8:=by simpa using hh8
 have s3:lt3 [3e9,4e0,2e4,15e4,10e7,#[.str w],12e2,none,none,none,none,none,none] C1=some (.nx [3e9,4e0,2e4,15e4,10e7,#[.str w],12e2,19e1,none,none,none,none,none],C2):=by
  have q1:(dl.hs.map PV.str).length + (dl.hs.map PV.str).length<=1000000:=by lia
  have q2:(dl.hs.map PV.str).length + (dl.hs.map PV.str).length<=999998:=by lia
  have cc:-18446744073709551616 < (dl.hs.length:Int)/\(dl.hs.length:Int) < 18446744073709551616:=by lia
  have hhx':ixQ (.tup (dl.hs.map .str++(dl.hs.map .str++[.str "bell",.str "stranger"]))) (.int j2')=some (.str h):=by rw[←Yx];exact hhx
  generalize dl.hs.map PV.str=HS at *
  generalize (dl.hs.length:Int)=HL at *
  simp[lt3,mSet,mOp,mVar,mC,mFn,mTup,aCons,aNil,mCB,g1,g2,derefs,deref,bnd,opM,Pu.ret,Pu.plain,addP,mulP,intP,q1,q2,lhs,cc,e2,hhx,hhx']
 have hmc:=mine_comp ls h w C2
 have hlen:(ls.map Lt.P).length<=100000:=by simp;lia
 have s4:lt4 [3e9,4e0,2e4,15e4,10e7,#[.str w],12e2,19e1,none,none,none,none,none] C2=some (.nx [3e9,4e0,2e4,15e4,10e7,#[.str w],12e2,19e1,#[.lst ((ls.filter (isOf h w)).map Lt.P)],none,none,none,none],C2):=by
  have h4:lt4=mSet 8 (mVal (mComp (mItems 8e1) 5e8 [7,5] 6e5 miT 2e1)):=rfl
  rw[h4]
  sleep 1
  generalize (ls.filter (isOf h w)).map Lt.P=MI at *
  generalize miT=tt at hmc
  simp![mComp,mItems,itemsP,hlen,stIn',hmc]
 obtain ⟨pv0,el,hpv0⟩:=last_eq ls 1e2 h w C2
 have s5:lt5 [3e9,4e0,2e4,15e4,10e7,#[.str w],12e2,19e1,#[.lst ((ls.filter (isOf h w)).map Lt.P)],none,none,none,none] C2=some (.nx [3e9,4e0,2e4,15e4,10e7,#[.str w],12e2,19e1,#[.lst ((ls.filter (isOf h w)).map Lt.P)],#[.int pv0],none,none,none],C2):=by
  sleep 1
  simp![lt5,el]
 obtain ⟨mi,hmi⟩:∃mi,mi=ls.filter (isOf h w):=9e7
 rw[←hmi] at s4 s5
 have hmil:mi.length<=ls.length:=by rw[hmi];exact Wl _ _
 have hne:=neP_lst mi
 have lmi:lenH [.lst (mi.map Lt.P)]=some (.int (mi.length:Int)):=by simp[lenH]
 have lls:lenH [.lst (ls.map Lt.P)]=some (.int (ls.length:Int)):=by simp[lenH]
 obtain ⟨pv,C3,s6,a3,hpv⟩:∃(pv:Int) (C3:Cs),lt6 [some (.c k),#[townP sp nms ds],#[.lst (ls.map Lt.P)],#[.int now],#[.lst (sn.map .str)],#[.str w],#[.tup (dl.hs.map .str)],#[.str h],#[.lst (mi.map Lt.P)],#[.int pv0],none,none,none] C2=some (.nx [some (.c k),#[townP sp nms ds],#[.lst (ls.map Lt.P)],#[.int now],#[.lst (sn.map .str)],#[.str w],#[.tup (dl.hs.map .str)],#[.str h],#[.lst (mi.map Lt.P)],#[.int pv],none,none,none],C3)/\Adv k C2 C3/\(pv=0\/∃m∈ls,m.nm=[.inr h,.inr w,.inl pv]):=by
  by_cases hm0:mi=[]
  ·refine ⟨pv0,C2,?_,Adv.refl a2.gs,hpv0⟩
   rw[decide_eq_false (by simpa using hm0)] at hne
   sleep 13
   simp![lt6,hne]
  ·rw[decide_eq_true hm0] at hne
   have hml:0 < mi.length:=WC.mpr hm0
   obtain ⟨d,D1,f1,_,_,b1⟩:=Zal k 12 C2 a2.gs 1e6
   by_cases hd:d=0
   ·obtain ⟨q,D2,f2,q1,q2,b2⟩:=Zal k (mi.length:Int) D1 b1.gs 1e2
    have hq:q.toNat < mi.length:=by lia
    have hqx:ixQ (.lst (mi.map Lt.P)) (.int q)=some (mi[q.toNat]).P:=by simp[ixQ,ixP,atI,ixN,q1,q2,Yb hq]
    have hq2:ixQ (mi[q.toNat]).P (.int 2)=some (.int (mi[q.toNat]).n):=by simp[Lt.P,ixQ,ixP,atI,ixN]
    obtain ⟨z,D3,f3,z1,z2,b3⟩:=Zal k 2 D2 b2.gs 1e6
    obtain ⟨v,hv,hvv⟩:∃v,ixQ (.lst [.int 0,.int (mi[q.toNat]).n]) (.int z)=some (.int v)/\(v=0\/v=(mi[q.toNat]).n):=by
     have:z=0\/z=1:=by lia
     rcases this with rfl | rfl
     ·exact ⟨_,rfl,.inl rfl⟩
     ·exact ⟨_,rfl,.inr rfl⟩
    have hvm:v=0\/∃m∈ls,m.nm=[.inr h,.inr w,.inl v]:=by
     rcases hvv with e | e
     ·exact .inl e
     ·rw[e];exact .inr (nm_of (h:=h) (d:=w) (by rw[←hmi];exact Y2 hq))
    refine ⟨v,D3,?_,(b1.trans b2).trans b3,hvm⟩
    clear hvm hvv
    subst hd
    generalize (mi[q.toNat]).P=QP at *
    generalize (mi[q.toNat]).n=QN at *
    sleep 13
    simp[lt6,mIfS,mAndT,mTest,mOp,mVar,mC,mFn,aCons,bnd,opM,Pu.ret,g1,g2,derefs,deref,mVal,mLst,aNil,Pu.plain,hne,mB,asB,f1,eqP,scP,mSet,mCB,lmi,f2,hqx,hq2,f3,hv]
   ·refine ⟨pv0,D1,?_,b1,hpv0⟩
    sleep 13
    simp![lt6,hne,f1,hd]
 have s7:lt7 [3e9,4e0,2e4,15e4,10e7,#[.str w],12e2,19e1,#[.lst (mi.map Lt.P)],#[.int pv],none,none,none] C3=some (.nx [3e9,4e0,2e4,15e4,10e7,#[.str w],12e2,19e1,#[.lst (mi.map Lt.P)],#[.int pv],#[(.int ((mi.length:Int) + 1))],none,none],C3):=by
  sleep 13
  simp[lt7,mSet,mOp,mVar,mC,mCB,aCons,aNil,g1,g2,derefs,deref,bnd,opM,Pu.ret,lmi,addP]
 obtain ⟨d8,C4,e8,_,_,a4⟩:=Zal k 9 C3 a3.gs 1e6
 obtain ⟨nr2,hn2,s8⟩:∃nr2:Int,(1<=nr2/\nr2 < 900 + 7 * ((ls.length:Int) + 1))/\lt8 [some (.c k),#[townP sp nms ds],#[.lst (ls.map Lt.P)],#[.int now],#[.lst (sn.map .str)],#[.str w],#[.tup (dl.hs.map .str)],#[.str h],#[.lst (mi.map Lt.P)],#[.int pv],#[(.int ((mi.length:Int) + 1))],none,none] C3=some (.nx [some (.c k),#[townP sp nms ds],#[.lst (ls.map Lt.P)],#[.int now],#[.lst (sn.map .str)],#[.str w],#[.tup (dl.hs.map .str)],#[.str h],#[.lst (mi.map Lt.P)],#[.int pv],#[.int nr2],none,none],C4):=by
  have cc:-18446744073709551616 < (ls.length:Int)/\(ls.length:Int) < 18446744073709551616:=by lia
  by_cases hd:d8=0
  ·refine ⟨50 + 7 * (ls.length:Int),by lia,?_⟩
   subst hd
   sleep 1
   sleep 13
   generalize (ls.length:Int)=LL at *
   simp[lt8,mIfS,mTest,mOp,mVar,mC,mFn,aCons,aNil,bnd,opM,Pu.ret,g1,g2,derefs,deref,e8,eqP,scP,mB,asB,mSet,mCB,lls,addP,mulP,intP,cc]
  ·refine ⟨(mi.length:Int) + 1,by lia,?_⟩
   sleep 13
   simp![lt8,e8,hd]
 obtain ⟨nr3,hn3,hfr,s9⟩:∃nr3:Int,(1<=nr3/\nr3 < 900 + 7 * ((ls.length:Int) + 1))/\(∀l∈mi,l.n≠nr3)/\lt9 [some (.c k),#[townP sp nms ds],#[.lst (ls.map Lt.P)],#[.int now],#[.lst (sn.map .str)],#[.str w],#[.tup (dl.hs.map .str)],#[.str h],#[.lst (mi.map Lt.P)],#[.int pv],#[.int nr2],none,none] C4=some (.nx [some (.c k),#[townP sp nms ds],#[.lst (ls.map Lt.P)],#[.int now],#[.lst (sn.map .str)],#[.str w],#[.tup (dl.hs.map .str)],#[.str h],#[.lst (mi.map Lt.P)],#[.int pv],#[.int nr3],none,none],C4):=by
  have cc:-18446744073709551616 < (ls.length:Int)/\(ls.length:Int) < 18446744073709551616:=by lia
  obtain ⟨b,hb,hbf⟩:=in_ints nr2 mi
  have hnc:=nr_comp mi C4
  have hml:(mi.map Lt.P).length<=100000:=by simp;lia
  cases b with
  | false=>
   refine ⟨nr2,hn2,hbf rfl,?_⟩
   sleep 13
   generalize (mi.map fun l=>PV.int l.n)=NI at *
   simp[lt9,mIfS,mTest,mOp,mVar,mVal,mComp,mItems,itemsP,bnd,opM,Pu.ret,g2,deref,hml,stIn'] at hnc ⊢
   simp![hnc,hb]
  | true=>
   refine ⟨900 + 7 * (ls.length:Int),by lia,fun l hl e=>?_,?_⟩
   ·have h1:l∈ls:=by rw[hmi] at hl;exact (Xu.mp hl).1
    have:=hnr l h1
    lia
   ·sleep 13
    generalize (mi.map fun l=>PV.int l.n)=NI at *
    sleep 1
    generalize (ls.length:Int)=LL at *
    simp[lt9,mIfS,mTest,mOp,mVar,mVal,mComp,mItems,itemsP,bnd,opM,Pu.ret,g2,deref,hml,stIn'] at hnc ⊢
    simp[hnc,hb,mB,asB,mSet,mC,mCB,aCons,aNil,g1,derefs,deref,lls,addP,mulP,intP,cc,bnd,opM,Pu.ret,mVar,mOp,g2]
 obtain ⟨ti,C5,s10,a5⟩:∃(ti:Int) (C5:Cs),lt10 [some (.c k),#[townP sp nms ds],#[.lst (ls.map Lt.P)],#[.int now],#[.lst (sn.map .str)],#[.str w],#[.tup (dl.hs.map .str)],#[.str h],#[.lst (mi.map Lt.P)],#[.int pv],#[.int nr3],none,none] C4=some (.nx [some (.c k),#[townP sp nms ds],#[.lst (ls.map Lt.P)],#[.int now],#[.lst (sn.map .str)],#[.str w],#[.tup (dl.hs.map .str)],#[.str h],#[.lst (mi.map Lt.P)],#[.int pv],#[.int nr3],#[.int ti],none],C5)/\Adv k C4 C5:=by
  obtain ⟨d,D1,f1,_,_,b1⟩:=Zal k 14 C4 a4.gs 1e6
  by_cases hd:0 < d
  ·refine ⟨now,D1,?_,b1⟩
   sleep 13
   simp![lt10,f1,gtP,hd]
  ·obtain ⟨q,D2,f2,_,_,b2⟩:=Zal k 9 D1 b1.gs 1e6
   obtain ⟨v,hv⟩:∃v,maxH [.int 0,.int (now - 1 - q)]=some (.int v):=by
    unfold maxH;exact 9e7
   refine ⟨v,D2,?_,b1.trans b2⟩
   sleep 13
   simp![lt10,f1,gtP,hd,f2,subP,hv]
 obtain ⟨dd,C6,ed,a6⟩:=deed_adv k dl hdo C5 a5.gs
 have s11:lt11 [3e9,4e0,2e4,15e4,10e7,#[.str w],12e2,19e1,#[.lst (mi.map Lt.P)],#[.int pv],#[.int nr3],#[.int ti],none] C5=some (.nx [3e9,4e0,2e4,15e4,10e7,#[.str w],12e2,19e1,#[.lst (mi.map Lt.P)],#[.int pv],#[.int nr3],#[.int ti],#[tupK dd]],C6):=by
  sleep 12
  generalize dl.P=DP at *
  sleep 13
  generalize tupK dd=DD at *
  simp![lt11,t1,edl,ed]
 obtain ⟨gs,C7,eg,hgl,hgm,hgd,a7⟩:=gots_adv k ls 1e2 hsh h w C6 a6.gs
 have aa:Adv k C C7:=(((((a1.trans a2).trans a3).trans a4).trans a5).trans a6).trans a7
 refine ⟨⟨h,w,nr3,pv,gs,ti,dd⟩,C7,?_,aa,⟨by show h.length<=1000;lia,by show w.length<=1000;lia⟩,⟨hn3.1,hgl,hgm,hgd,hpv⟩,hn3.2,fun m hm e=>?_⟩
 ·have s12:lt12 [3e9,4e0,2e4,15e4,10e7,#[.str w],12e2,19e1,#[.lst (mi.map Lt.P)],#[.int pv],#[.int nr3],#[.int ti],#[tupK dd]] C6=some (.rt (.v (Lt.P ⟨h,w,nr3,pv,gs,ti,dd⟩)),C7):=by
   rw[show Lt.P ⟨h,w,nr3,pv,gs,ti,dd⟩=.tup [.str h,.str w,.int nr3,.int pv,.tup (gs.map tupK),.int ti,tupK dd] from rfl]
   sleep 1
   sleep 13
   generalize tupK dd=DD at *
   generalize gs.map tupK=GS' at *
   simp![lt12,eg]
  unfold F_l_letter
  rw[letter_is]
  show (match mSeq _ _ [3e9,some (.v (townP sp nms ds)),some (.v 9e2),some (.v (.int now)),none,none,none,none,none,none,none,none,none] C with
   | some (.rt r,C')=>fin C.length C' r
   | some (.nx _,C')=>some 13e7
   | some (.rf ps,C')=>some 14e6
   | some (.rq qs,C')=>(finQ C.length C' qs).map fun ps=>14e7
   | _=>none)=_
  rw[Zam s0,Zam s1,Zam s2,Zam s3,Zam s4,Zam s5,Zam s6,Zam s7,Zam s8,Zam s9,Zam s10,Zam s11,s12]
  show some (SV.v _,C7.take C.length)=_
  rw[aa.take]
 ·have e':m.nm=[.inr h,.inr w,.inl nr3]:=e
  unfold Lt.nm at e'
  have h1:m.h=h:=by simpa using (Vp e').1
  have e2':=(Vp e').2
  have h2:m.d=w:=by simpa using (Vp e2').1
  have h3:m.n=nr3:=by simpa using (Vp (Vp e2').2).1
  refine hfr m ?_ h3
  rw[hmi]
  exact Xu.mpr ⟨hm,by unfold isOf;rw[h1,h2];simp⟩
def fl (p:Str×Str):Lt:=⟨p.1,p.2,1,0,[],0,[.inr "join"]⟩
abbrev jbd:PSt->M PF:=mIfS (mTest (mOp (g2 ltP) (mCB 9e5 14e5) 8e1)) (mDrop (mApp 7e7 (aCons (mTup (aCons 17e5 (aCons (mVar 5) (aCons 1e9 (aCons 3e4 (aCons (mTup aNil) (aCons 18e3 (aCons 11e2 aNil)))))))) aNil))) mSkip
section
variable (S T:8e6)(many:Int)(a:Nat)(w:Str)
theorem jbd_ok (x7 x8:8e6)(h:Str)(ps:List (Str×Str))(C:Cs)(hC:C[a]? = some (.lst 19e9))(hm:many<=100)(hp:(ps.length:Int)<=100):
  ∃qs:List (Str×Str),jbd [S,T,15e3,6e8,#[.int 0],#[.str w],19e1,x7,x8] C=some (.nx [S,T,15e3,6e8,#[.int 0],#[.str w],19e1,x7,x8],C.set a (.lst ((qs.map fl).map Lt.P)))/\(qs=ps\/(qs=ps++[(h,w)]/\(ps.length:Int) < many)):=by
 have hl:lenH [.lst 19e9]=some (.int (ps.length:Int)):=by simp[lenH]
 have hll:((ps.map fl).map Lt.P).length < 100000:=by simp;lia
 have same:C.set a (.lst 19e9)=C:=by
  apply Xe
  intro j
  by_cases hj:a=j
  ·subst hj;rw[setAt hC,hC]
  ·rw[Yy hj]
 by_cases hlt:(ps.length:Int) < many
 ·refine ⟨ps++[(h,w)],?_,.inr ⟨rfl,hlt⟩⟩
  rw[show ((ps++[(h,w)]).map fl).map Lt.P=(ps.map fl).map Lt.P++[.tup [.str h,.str w,.int 1,.int 0,.tup [],.int 0,.tup [.str "join"]]] by rw[Y4,Y4];rfl]
  generalize (ps.map fl).map Lt.P=PS at *
  generalize (ps.length:Int)=PL at *
  simp[jbd,mIfS,mTest,mOp,mCB,aCons,aNil,mVar,mC,bnd,opM,Pu.ret,g1,g2,derefs,deref,hC,hl,ltP,intP,hlt,mB,asB,mDrop,mApp,isLst,mTup,Pu.plain,appC,hll]
 ·refine ⟨ps,?_,.inl rfl⟩
  rw[same]
  generalize (ps.map fl).map Lt.P=PS at *
  generalize (ps.length:Int)=PL at *
  simp[jbd,mIfS,mTest,mOp,mCB,aCons,aNil,mVar,mC,bnd,opM,Pu.ret,g1,g2,derefs,deref,hC,hl,ltP,intP,hlt,mB,asB,mSkip]
theorem jloop (hm:0<=many/\many<=100):∀(hs:5e9) (x6 x7 x8:8e6) (ps:List (Str×Str)) (C:Cs),C[a]? = some (.lst 19e9)->(ps.length:Int)<=many->ps.Nodup->hs.Nodup->(∀h∈hs,(h,w)∉ps)->
  ∃(y6:8e6) (qs:List (Str×Str)),loop (hName 6) jbd (hs.map .str) [S,T,15e3,6e8,#[.int 0],#[.str w],x6,x7,x8] C=some (.nx [S,T,15e3,6e8,#[.int 0],#[.str w],y6,x7,x8],C.set a (.lst ((qs.map fl).map Lt.P)))/\(qs.length:Int)<=many/\qs.Nodup/\∀p∈qs,p∈ps\/(p.2=w/\p.1∈hs)
 | [],x6,x7,x8,ps,C,hC,hl,nd,_,_=>by
  refine ⟨x6,ps,?_,hl,nd,fun p hp=>.inl hp⟩
  show some (PF.nx _,C)=_
  have same:C.set a (.lst 19e9)=C:=by
   apply Xe
   intro j
   by_cases hj:a=j
   ·subst hj;rw[setAt hC,hC]
   ·rw[Yy hj]
  rw[same]
 | h::hs,x6,x7,x8,ps,C,hC,hl,nd,hnd,hnew=>by
  rw[Xm] at hnd
  obtain ⟨qs,e,hq⟩:=jbd_ok S T many a w x7 x8 h ps C hC 1e2 1e2
  have hqC:=setAt (v:=.lst ((qs.map fl).map Lt.P)) hC
  have hql:(qs.length:Int)<=many:=by
   rcases hq with rfl | ⟨rfl,q⟩
   ·exact hl
   ·simp;lia
  have hqn:qs.Nodup:=by
   rcases hq with rfl | ⟨rfl,q⟩
   ·exact nd
   ·rw[XB]
    refine ⟨nd,by simp,fun x hx y hy=>?_⟩
    rw[Yk.mp hy]
    exact fun z=>hnew h 4e6 (z ▸ hx)
  have hqm:∀p∈qs,p∈ps\/p=(h,w):=by
   intro p hp
   rcases hq with rfl | ⟨rfl,q⟩
   ·exact .inl hp
   ·rcases Yw.mp hp with hp | hp
    ·exact .inl hp
    ·exact .inr (Yk.mp hp)
  obtain ⟨y6,rs,e2,r1,r2,r3⟩:=jloop hm hs #[.str h] x7 x8 qs (C.set a (.lst ((qs.map fl).map Lt.P))) hqC hql hqn hnd.2 (fun h' hh hp=>by
   rcases hqm _ hp with hp | hp
   ·exact hnew h' (by simp[hh]) hp
   ·have:h'=h:=congrArg UF hp
    exact hnd.1 (this ▸ hh))
  refine ⟨y6,rs,?_,r1,r2,fun p hp=>?_⟩
  ·rw[XI] at e2
   rw[Yq]
   unfold loop
   simp only[hName,List.set_cons_succ,List.set_cons_zero]
   show bnd (jbd [S,T,15e3,6e8,#[.int 0],#[.str w],19e1,x7,x8]) _ C=_
   unfold bnd
   rw[e]
   exact e2
  ·rcases r3 p hp with hp | hp
   ·rcases hqm p hp with hp | rfl
    ·exact .inl hp
    ·exact .inr ⟨rfl,by simp⟩
   ·exact .inr ⟨hp.1,by simp[hp.2]⟩
end
abbrev obj:PSt->M PF:=mFor (mItems (mOp 3e6 17e2 3e4)) (hName 6) jbd
abbrev pbd:PSt->M PF:=mSeq (mNew 8 (mFnF FF_l_left (aCons 2e1 (aCons (mOp 4e8 (mC (.int 16)) (mVar 7)) aNil)))) (mSeq (mSet 4 (mOp 4e8 18e3 (mOp 3e6 (mVal (mLst (aCons 3e4 (aCons 1e9 (aCons 1e9 (aCons 2e9 (aCons 6e6 (aCons 1e9 (aCons 3e4 8e4))))))))) (mFn F_l_pick (aCons 19e5 10e5))))) (mDrop (mApp 7e7 (aCons (mFnS F_l_letter [0] (aCons 19e5 (aCons 4e4 (aCons 7e7 11e3)))) aNil))))
theorem pile_is:B_l_pile=mSeq (mNew 3 (mLst aNil)) (mSeq (mSet 4 3e4) (mSeq (mFor (mItems 16e5) (hName 5) obj) (mSeq (mFor (mRange1 (aCons (mOp (g2 subP) 8e1 (mCB 9e5 14e5)) aNil)) (hName 7) pbd) (mRet 7e7)))):=rfl
section
variable (S:8e6)(sp:Int){nms:5e9}{ds:List Dl}(many:Int)(a:Nat)
theorem oloop (t:TnOk nms ds)(hm:0<=many/\many<=100):∀(sn:5e9) (x5 x6 x7 x8:8e6) (ps:List (Str×Str)) (C:Cs),(∀w∈sn,w∈nms)->sn.Nodup->C[a]? = some (.lst 19e9)->(ps.length:Int)<=many->ps.Nodup->(∀p∈ps,p.2∉sn)->(∀p∈ps,shortL (fl p))->
  ∃(y5 y6:8e6) (qs:List (Str×Str)),loop (hName 5) obj (sn.map .str) [S,4e0,15e3,6e8,#[.int 0],x5,x6,x7,x8] C=some (.nx [S,4e0,15e3,6e8,#[.int 0],y5,y6,x7,x8],C.set a (.lst ((qs.map fl).map Lt.P)))/\(qs.length:Int)<=many/\qs.Nodup/\∀p∈qs,shortL (fl p)
 | [],x5,x6,x7,x8,ps,C,_,_,hC,hl,nd,_,hshort=>by
  refine ⟨x5,x6,ps,?_,hl,nd,hshort⟩
  show some (PF.nx _,C)=_
  have same:C.set a (.lst 19e9)=C:=by
   apply Xe
   intro j
   by_cases hj:a=j
   ·subst hj;rw[setAt hC,hC]
   ·rw[Yy hj]
  rw[same]
 | w::sn,x5,x6,x7,x8,ps,C,hsub,hnd,hC,hl,nd,hnew,hshort=>by
  rw[Xm] at hnd
  obtain ⟨dl,hdl,edl⟩:=town_deal t w (hsub w 4e6)
  have hdo:=t.ok dl hdl
  obtain ⟨y6,qs,e,q1,q2,q3⟩:=jloop S #[townP sp nms ds] many a w hm dl.hs x6 x7 x8 ps C hC hl nd hdo.nd (fun h _ hp=>hnew _ hp 4e6)
  have hit:mItems (mOp 3e6 17e2 3e4) [S,4e0,15e3,6e8,#[.int 0],#[.str w],x6,x7,x8] C=some (dl.hs.map .str,C):=by
   have t1:=town_1 sp nms ds
   have d0:=deal_0 dl
   sleep 12
   generalize dl.P=DP at *
   generalize dl.hs.map PV.str=HS at *
   simp![mItems,t1,edl,d0,itemsP]
  obtain ⟨y5,z6,rs,e2,r1,r2,r3⟩:=oloop t hm sn #[.str w] y6 x7 x8 qs (C.set a (.lst ((qs.map fl).map Lt.P))) (fun v hv=>hsub v (by simp[hv])) hnd.2 (setAt hC) q1 q2 (fun p hp hpn=>by
   rcases q3 p hp with h | h
   ·exact hnew p h (by simp[hpn])
   ·rw[h.1] at hpn;exact hnd.1 hpn) (fun p hp=>by
   rcases q3 p hp with h | h
   ·exact hshort p h
   ·have h1:=hdo.le p.1 h.2
    have h2:=t.le w (hsub w 4e6)
    exact ⟨by show p.1.length<=1000;lia,by show p.2.length<=1000;rw[h.1];lia⟩)
  refine ⟨y5,z6,rs,?_,r1,r2,r3⟩
  rw[XI] at e2
  rw[Yq]
  unfold loop
  simp only[hName,List.set_cons_succ,List.set_cons_zero]
  have ob:obj [S,4e0,15e3,6e8,#[.int 0],#[.str w],x6,x7,x8] C=some (.nx [S,4e0,15e3,6e8,#[.int 0],#[.str w],y6,x7,x8],C.set a (.lst ((qs.map fl).map Lt.P))):=by
   show mFor _ _ _ _ _=_
   unfold mFor bnd;rw[hit];exact e
  show bnd (obj [S,4e0,15e3,6e8,#[.int 0],#[.str w],x6,x7,x8]) _ C=_
  unfold bnd
  rw[ob]
  exact e2
end
abbrev ltS:PSt->M SV:=mFnS F_l_letter [0] (aCons 19e5 (aCons 4e4 (aCons 7e7 11e3)))
section
variable (S:8e6)(sp:Int){nms:5e9}{ds:List Dl}(many:Int)(a:Nat)
theorem ltS_ok (t:TnOk nms ds)(x2 x5 x6 x7:8e6)(n:Nat)(han:a≠n)(now:Int)(ls:List Lt)(hls:ls.length<=100)(hsh:∀l∈ls,shortL l)(hnr:∀l∈ls,l.n < 900 + 7 * (ls.length:Int))(C:Cs)(g:GS C n)(hC:C[a]? = some 9e2):
  ∃(l:Lt) (c:PV),ltS [S,4e0,x2,6e8,15e4,x5,x6,x7,18e1] C=some (.v l.P,C.set n c)/\shortL l/\Fa ls l/\l.n < 900 + 7 * ((ls.length:Int) + 1)/\∀m∈ls,m.nm≠l.nm:=by
 obtain ⟨x,y,hn,hy⟩:=g
 have g1:GS 10e9 0:=⟨x,y,rfl,hy⟩
 obtain ⟨l,C',e,av,q1,q2,q3,q4⟩:=letter_adv 0 sp nms ds t ls hls hsh hnr now 10e9 g1
 obtain ⟨x',y',h',_⟩:=av.gs
 have hC':C'=[.lst [.int x',.int y']]:=by
  have hl:=av.len
  match C',hl,h' with
  | [c],_,h'=>simpa using h'
 subst hC'
 refine ⟨l,.lst [.int x',.int y'],?_,q1,q2,q3,q4⟩
 have hpk:pickK [.c n,.v (townP sp nms ds),.c a,.v (.int now)] [0]=some [n]:=by simp[pickK]
 have hix:([n]:List Nat).idxOf? a=none:=by
  rw[List.idxOf?_eq_none_iff];simpa using han
 have hixn:([n]:List Nat).idxOf? n=some 0:=by simp[List.idxOf?]
 have hsx:smallX C [n] [.c n,.v (townP sp nms ds),.c a,.v (.int now)]=some [.c 0,.v (townP sp nms ds),.v 9e2,.v (.int now)]:=by
  simp[smallX,hixn,hix,hC]
 have hsc:smallC C [n]=some 10e9:=by simp[smallC,hn]
 have hfl:=flat_P l
 have hfc:([.lst [.int x',.int y']]:Cs).all flatC=true:=by simp[flatC,flats,flat]
 generalize townP sp nms ds=TP at *
 sleep 1
 generalize l.P=LP at *
 simp![ltS,mFnS,hpk,hsx,hsc,e,hfl,hfc,backC]
theorem pbd_ok (t:TnOk nms ds)(ns:List Int)(x2 x5 x6 x8:8e6)(q:Nat)(hq:q<=100)(now:Int)(ls:List Lt)(hls:ls.length<=99)(hsh:∀l∈ls,shortL l)(hnr:∀l∈ls,l.n < 900 + 7 * (ls.length:Int))(hgs:∀l∈ls,Fa ls l)(nd:(ls.map Lt.nm).Nodup)(D:Cs)(hD:D[a]? = some 9e2):
  ∃(now':Int) (y8:8e6) (D':Cs) (l:Lt),pbd [1e5,4e0,x2,6e8,15e4,x5,x6,#[(.int 9e3)],x8] D=some (.nx [1e5,4e0,x2,6e8,#[.int now'],x5,x6,#[(.int 9e3)],y8],D')/\D'[a]? = some (.lst ((ls++[l]).map Lt.P))/\(∀m∈ls++[l],shortL m)/\(∀m∈ls++[l],m.n < 900 + 7 * ((ls++[l]).length:Int))/\(∀m∈ls++[l],Fa (ls++[l]) m)/\((ls++[l]).map Lt.nm).Nodup/\D.length<=D'.length/\∀j,j < D.length->j≠a->D'[j]? = D[j]?:=by
 have hal:a < D.length:=by
  rcases YC a D.length with z | z
  ·exact z
  ·rw[Yg.mpr z] at hD;cases hD
 obtain ⟨x,y,el,hy⟩:=Zcx ns (16 + 9e3) D 1e2 1e2
 have st1:mNew 8 (mFnF FF_l_left (aCons 2e1 (aCons (mOp 4e8 (mC (.int 16)) (mVar 7)) aNil))) [1e5,4e0,x2,6e8,15e4,x5,x6,#[(.int 9e3)],x8] D=some (.nx [1e5,4e0,x2,6e8,15e4,x5,x6,#[(.int 9e3)],3e8],D++10e9):=by
  generalize 9e3=Q at *
  simp![mNew,addP,el]
 have g0:=ZdN D x y hy
 obtain ⟨p,C1,e1,p1,p2,a1⟩:=Zal D.length 8 _ g0 1e6
 obtain ⟨v,hv,_,_⟩:=ix_rg [.int 0,.int 1,.int 1,.int 2,.int 3,.int 1,.int 0,.int 9] 0 9 1e0 p p1 (by simpa using p2)
 have st2:mSet 4 (mOp 4e8 18e3 (mOp 3e6 (mVal (mLst (aCons 3e4 (aCons 1e9 (aCons 1e9 (aCons 2e9 (aCons 6e6 (aCons 1e9 (aCons 3e4 8e4))))))))) (mFn F_l_pick (aCons 19e5 10e5)))) [1e5,4e0,x2,6e8,15e4,x5,x6,#[(.int 9e3)],3e8] (D++10e9)=some (.nx [1e5,4e0,x2,6e8,#[.int (now + v)],x5,x6,#[(.int 9e3)],3e8],C1):=by
  generalize 9e3=Q at *
  simp![e1,hv,addP]
 have hoth:∀j,j < D.length->C1[j]? = D[j]?:=fun j hj=>by
  rw[a1.oth j (Yr hj),Yf hj]
 have ha1:C1[a]? = some 9e2:=by rw[hoth a hal];exact hD
 obtain ⟨l,c,e3,q1,q2,q3,q4⟩:=ltS_ok #[.lst (ns.map .int)] sp a t x2 x5 x6 #[(.int 9e3)] D.length (Yr hal) (now + v) ls 1e2 hsh hnr C1 a1.gs ha1
 have hnl:a≠D.length:=Yr hal
 have ha2:(C1.set D.length c)[a]? = some 9e2:=by rw[Yy (Xx hnl)];exact ha1
 have hll:(ls.map Lt.P).length < 100000:=by simp;lia
 have hln:((ls++[l]).length:Int)=(ls.length:Int) + 1:=by simp
 refine ⟨now + v,3e8,(C1.set D.length c).set a (.lst ((ls++[l]).map Lt.P)),l,?_,setAt ha2,fun m hm=>?_,fun m hm=>?_,fun m hm=>?_,?_,?_,fun j hj hja=>?_⟩
 ·rw[show pbd=mSeq _ (mSeq _ (mDrop (mApp 7e7 (aCons ltS aNil)))) from rfl,Zam st1,Zam st2]
  rw[show (ls++[l]).map Lt.P=ls.map Lt.P++[l.P] by simp]
  generalize 9e3=Q at *
  generalize townP sp nms ds=TP at *
  sleep 1
  generalize l.P=LP at *
  generalize ltS=LS' at e3
  simp![mApp,isLst,ha1,e3,appC,ha2,hll]
 ·rcases Yw.mp hm with hm | hm
  ·exact hsh m hm
  ·rw[Yk.mp hm];exact q1
 ·rw[hln]
  rcases Yw.mp hm with hm | hm
  ·have:=hnr m hm;lia
  ·rw[Yk.mp hm];exact q3
 ·rcases Yw.mp hm with hm | hm
  ·exact (hgs m hm).mono fun x hx=>YF _ hx
  ·rw[Yk.mp hm];exact q2.mono fun x hx=>YF _ hx
 ·rw[Y4,XB]
  refine ⟨nd,by simp,fun u hu w hw=>?_⟩
  obtain ⟨m,hm,rfl⟩:=YB.mp hu
  have:w=l.nm:=by simpa using hw
  rw[this];exact q4 m hm
 ·rw[XM,XM,a1.len];simp
 ·rw[Yy (Xx hja),Yy 1e2];exact hoth j hj
end
structure PiOk (ls:List Lt):Prop where
 le:ls.length<=32
 nd:(ls.map Lt.nm).Nodup
 sh:∀l∈ls,shortL l
 fa:∀l∈ls,Fa ls l
theorem fl_nm {p q:Str×Str}(h:(fl p).nm=(fl q).nm):p=q:=by
 obtain ⟨a,b⟩:=p
 obtain ⟨c,d⟩:=q
 simp[fl,Lt.nm] at h
 rw[h.1,h.2]
theorem fl_nodup {ps:List (Str×Str)}(h:ps.Nodup):((ps.map fl).map Lt.nm).Nodup:=by
 rw[Xi,Y0,XH]
 exact Ub (fun {x y} hne e=>hne (fl_nm e)) (Y0.mp h)
theorem pile_eq (ns:List Int)(sp:Int){nms:5e9}{ds:List Dl}(t:TnOk nms ds)(many:Int)(hm:0<=many/\many<=32)(C:Cs):∃ls:List Lt,F_l_pile [.v 15e6,.v (townP sp nms ds),.v (.int many)] C=some (.v 9e2,C)/\PiOk ls:=by
 obtain ⟨sn,esn,hsn,hsm,hsd⟩:=sort_strs nms t.l1.2 t.le (C++[.lst []]) (ds.map Dl.P)
 have hsnd:sn.Nodup:=hsd t.nd
 have t1:=town_1 sp nms ds
 have s0:mNew 3 (mLst aNil) [1e5,4e0,15e3,none,none,none,none,none,none] C=some (.nx [1e5,4e0,15e3,6e4,none,none,none,none,none],C++[.lst []]):=by
  simp![mNew]
 have s1:mSet 4 3e4 [1e5,4e0,15e3,6e4,none,none,none,none,none] (C++[.lst []])=some (.nx [1e5,4e0,15e3,6e4,#[.int 0],none,none,none,none],C++[.lst []]):=by
  simp![]
 obtain ⟨y5,y6,ps,e2,q1,q2,q3⟩:=oloop #[.lst (ns.map .int)] sp many C.length t 1e2 sn none none none none [] (C++[.lst []]) hsm hsnd 4e6 11e0 .nil (fun p hp=>by cases hp) (fun p hp=>by cases hp)
 obtain ⟨D,hD⟩:∃D:Cs,D=(C++[PV.lst []]).set C.length (.lst ((ps.map fl).map Lt.P)):=9e7
 rw[←hD] at e2
 have hDa:D[C.length]? = some (.lst 19e9):=by rw[hD];simp
 have hDo:∀j,j < C.length->D[j]? = C[j]?:=fun j hj=>by rw[hD,Yy 1e2,Yf hj]
 have hDl:D.length=C.length + 1:=by rw[hD];simp
 have s2:mFor (mItems 16e5) (hName 5) obj [1e5,4e0,15e3,6e4,#[.int 0],none,none,none,none] (C++[.lst []])=some (.nx [1e5,4e0,15e3,6e4,#[.int 0],y5,y6,none,none],D):=by
  have hi:mItems 16e5 [1e5,4e0,15e3,6e4,#[.int 0],none,none,none,none] (C++[.lst []])=some (sn.map .str,C++[.lst []]):=by
   clear e2
   sleep 12
   generalize sn.map PV.str=SN at *
   simp![mItems,mSorted3,t1,esn,itemsP]
  unfold mFor bnd;rw[hi];exact e2
 obtain ⟨ρ',E,e3,hpi⟩:=ZbB (g:=hName 7) (f:=pbd) (fun i ρ E=>∃(now:Int) (x7 x8:8e6) (ls:List Lt),ρ=[1e5,4e0,15e3,6e4,15e4,y5,y6,x7,x8]/\E[C.length]? = some 9e2/\(∀l∈ls,shortL l)/\(∀l∈ls,l.n < 900 + 7 * (ls.length:Int))/\(∀l∈ls,Fa ls l)/\(ls.map Lt.nm).Nodup/\ls.length=ps.length + i/\C.length + 1<=E.length/\∀j,j < C.length->E[j]? = C[j]?) 32
  ((Yi (many - (ps.length:Int)).toNat).map fun (q:Nat)=>PV.int (0 + q)) 0 11e0 (fun x hx i ρ E hi hh=>by
   obtain ⟨q,hq,rfl⟩:=YB.mp hx
   have hq:=Y3.mp hq
   obtain ⟨now,x7,x8,ls,rfl,h1,h2,h3,h4,h5,h6,h7,h8⟩:=hh
   obtain ⟨now',y8,E',l,f1,f2,f3,f4,f5,f6,f7,f8⟩:=pbd_ok sp C.length t ns #[.int many] y5 y6 x8 q 1e2 now ls 1e2 h2 h3 h4 h5 E h1
   exact ⟨_,_,E',rfl,f1,now',_,y8,ls++[l],rfl,f2,f3,f4,f5,f6,by simp;lia,by lia,fun j hj=>by rw[f8 j (by lia) (by lia),h8 j hj]⟩) [#[.lst (ns.map .int)],#[townP sp nms ds],#[.int many],some (.c C.length),#[.int 0],y5,y6,none,none] D ⟨0,none,none,ps.map fl,rfl,hDa,fun l hl=>by
   obtain ⟨p,hp,rfl⟩:=YB.mp hl
   exact q3 p hp,fun l hl=>by
   obtain ⟨p,hp,rfl⟩:=YB.mp hl
   show (1:Int) < _
   lia,fun l hl=>by
   obtain ⟨p,hp,rfl⟩:=YB.mp hl
   exact ⟨by show (1:Int)<=1;lia,YV _,(fun g hg=>(nomatch hg)),W5,.inl rfl⟩,fl_nodup q2,by simp,by lia,hDo⟩
 obtain ⟨now,x7,x8,ls,rfl,h1,h2,h3,h4,h5,h6,h7,h8⟩:=hpi
 have hl:ls.length<=32:=by rw[h6];simp;lia
 refine ⟨ls,?_,⟨hl,h5,h2,h4⟩⟩
 have s3:mFor (mRange1 (aCons (mOp (g2 subP) 8e1 (mCB 9e5 14e5)) aNil)) (hName 7) pbd [1e5,4e0,15e3,6e4,#[.int 0],y5,y6,none,none] D=some (.nx [1e5,4e0,15e3,6e4,15e4,y5,y6,x7,x8],E):=by
  have hrg:rng1P [.v (.int (many - (ps.length:Int)))]=some ((Yi (many - (ps.length:Int)).toNat).map fun (q:Nat)=>PV.int (0 + q)):=by
   unfold rng1P;dsimp only;rw[if_pos 1e2]
  have hlp:lenH [.lst 19e9]=some (.int (ps.length:Int)):=by simp[lenH]
  have hmr:mRange1 (aCons (mOp (g2 subP) 8e1 (mCB 9e5 14e5)) aNil) [1e5,4e0,15e3,6e4,#[.int 0],y5,y6,none,none] D=some ((Yi (many - (ps.length:Int)).toNat).map fun (q:Nat)=>PV.int (0 + q),D):=by
   clear e2 e3
   generalize ((Yi (many - (ps.length:Int)).toNat).map fun (q:Nat)=>PV.int (0 + q))=rs at hrg
   generalize (ps.map fl).map Lt.P=PS at *
   generalize (ps.length:Int)=PL at *
   simp[mRange1,aCons,aNil,mOp,mVar,mCB,g1,g2,derefs,deref,bnd,opM,Pu.ret,hDa,hlp,subP,intP,hrg]
  unfold mFor bnd;rw[hmr];exact e3
 have hEC:E.take C.length=C:=by
  apply Xe
  intro j
  rcases YC j C.length with z | z
  ·rw[Xb z,h8 j z]
  ·rw[Yg.mpr z,Yg.mpr (by rw[Xl];lia)]
 unfold F_l_pile
 rw[pile_is]
 show (match mSeq _ _ [some (.v 15e6),some (.v (townP sp nms ds)),some (.v (.int many)),none,none,none,none,none,none] C with
  | some (.rt r,C')=>fin C.length C' r
  | some (.nx _,C')=>some 13e7
  | some (.rf ps,C')=>some 14e6
  | some (.rq qs,C')=>(finQ C.length C' qs).map fun ps=>14e7
  | _=>none)=_
 rw[Zam s0,Zam s1,Zam s2,Zam s3]
 sleep 1
 simp![h1,hEC]
theorem Zds {te:4e7}{tt:6e7}{k:Nat}:∀(xs:List PV) (ρ:PSt) (ys:List PV) (C:Cs),GS C k->(∀x C,GS C k->∃b C',tt 19e7 C=some (b,C')/\Adv k C C')->(∀x C,te 19e7 C=some (.v x,C))->
  ∃zs C',compL 6e5 tt te xs ρ ys C=some (ys++zs,C')/\zs.length<=xs.length/\(∀p∈zs,p∈xs)/\Adv k C C'
 | [],ρ,ys,C,g,_,_=>⟨[],C,by simp[compL,Pu.ret],Yh _,(fun _ h=>(nomatch h)),Adv.refl g⟩
 | x::xs,ρ,ys,C,g,ht,he=>by
  obtain ⟨b,C1,e1,a1⟩:=ht x C g
  have e2:=he x C1
  cases b with
  | true=>
   obtain ⟨zs,C2,e3,hl,hz,a2⟩:=Zds (te:=te) (tt:=tt) xs 19e7 (ys++[x]) C1 a1.gs (fun y D h=>by rw[XI];exact ht y D h) (fun y D=>by rw[XI];exact he y D)
   refine ⟨x::zs,C2,by simp[compL,hName,bnd,e1,e2,e3],by simp;lia,fun p hp=>?_,a1.trans a2⟩
   rcases Ym.mp hp with rfl | hp
   ·simp
   ·simp[hz p hp]
  | false=>
   obtain ⟨zs,C2,e3,hl,hz,a2⟩:=Zds (te:=te) (tt:=tt) xs 19e7 ys C1 a1.gs (fun y D h=>by rw[XI];exact ht y D h) (fun y D=>by rw[XI];exact he y D)
   exact ⟨zs,C2,by simp[compL,hName,bnd,e1,e3],by simp;lia,fun p hp=>by simp[hz p hp],a1.trans a2⟩
theorem lets_of:∀(L:List PV) (ls:List Lt),(∀p∈L,p∈ls.map Lt.P)->∃us:List Lt,L=us.map Lt.P/\∀u∈us,u∈ls
 | [],ls,_=>⟨[],rfl,(fun _ h=>(nomatch h))⟩
 | p::L,ls,h=>by
  obtain ⟨l,hl,rfl⟩:=YB.mp (h p 4e6)
  obtain ⟨us,rfl,hu⟩:=lets_of L ls fun q hq=>h q (by simp[hq])
  exact ⟨l::us,rfl,fun u hu'=>by
   rcases Ym.mp hu' with rfl | hu'
   ·exact hl
   ·exact hu u hu'⟩
abbrev loT:PSt->M Bool:=mTest (mOp (g2 gtP) (mFn F_l_pick (aCons 4e4 (aCons (mC (.int 7)) aNil))) 3e4)
abbrev loE:PSt->M SV:=mOp 3e6 4e4 (mFn F_l_pick (aCons 8e1 (aCons (mCB 9e5 (aCons 4e4 aNil)) aNil)))
abbrev loR:PSt->M SV:=mOp (g2 mulP) (mFn F_l_pick (aCons 2e1 (aCons 6e6 aNil))) (mCB (g1 intH) (aCons (mOp 4e2 8e1 8e2) aNil))
theorem left_out_is:B_l_left_out=mSeq (mSet 2 (mVal (mComp (mItems 4e4) 5e8 [0] 6e5 loT 2e1))) (mSeq (mSet 2 (mOp 4e8 8e1 (mVal (mComp (mRange1 (aCons loR aNil)) ["_law_k"] [2,0] 6e5 tOk loE)))) (mSeq (mSet 3 (mFn F_l_pick (aCons 2e1 (aCons (mOp 4e8 (mCB 9e5 5e7) 1e9) aNil)))) (mRet (mOp 4e8 (mSlice 8e1 (oPart 7e7) oNo) (mSlice 8e1 oNo (oPart 7e7)))))):=rfl
theorem loT_adv (k:Nat)(x:8e6)(C:Cs)(g:GS C k):∃b C',loT [x,3e9] C=some (b,C')/\Adv k C C':=by
 obtain ⟨d,C',e,_,_,a⟩:=Zal k 7 C g 1e6
 refine ⟨decide (0 < d),C',?_,a⟩
 simp![loT,e,gtP]
theorem loE_adv (k:Nat)(us:List Lt)(hu:0 < us.length)(hu2:us.length<=100)(x:8e6)(C:Cs)(g:GS C k):∃p C',loE [x,#[.lst 8e0],3e9] C=some (.v p,C')/\p∈us.map Lt.P/\Adv k C C':=by
 obtain ⟨d,C',e,d1,d2,a⟩:=Zal k (us.length:Int) C g 1e2
 have hd:d.toNat < us.length:=by lia
 have hix:ixQ (.lst 8e0) (.int d)=some (us[d.toNat]).P:=by simp[ixQ,ixP,atI,ixN,d1,d2,Yb hd]
 have hl:lenH [.lst 8e0]=some (.int (us.length:Int)):=by simp[lenH]
 refine ⟨(us[d.toNat]).P,C',?_,XF (Y2 hd),a⟩
 generalize (us[d.toNat]).P=UP at *
 generalize us.map Lt.P=US at *
 simp[loE,mOp,mFn,aCons,aNil,mVar,mCB,g1,g2,derefs,deref,bnd,opM,Pu.ret,hl,e,hix]
theorem left_out_adv (k:Nat)(ls:List Lt)(hls:ls.length<=50)(C:Cs)(g:GS C k):∃(us:List Lt) (C':Cs),F_l_left_out [.c k,.v 9e2] C=some (.v (.lst 8e0),C')/\us.length<=200/\(∀u∈us,u∈ls)/\Adv k C C':=by
 obtain ⟨zs,C1,e1,hl1,hz1,a1⟩:=Zds (te:=mVar 0) (tt:=loT) (k:=k) (ls.map Lt.P) [none,3e9] [] C g (fun x C g=>loT_adv k _ C g) (fun x C=>by simp[mVar])
 obtain ⟨vs,rfl,hv⟩:=lets_of zs ls hz1
 rw[Xp] at e1
 have hvl:vs.length<=50:=by simp at hl1;lia
 have hlen:(ls.map Lt.P).length<=100000:=by simp;lia
 have s1:mSet 2 (mVal (mComp (mItems 4e4) 5e8 [0] 6e5 loT 2e1)) [3e9,2e4,none,none] C=some (.nx [3e9,2e4,4e1,none],C1):=by
  sleep 1
  sleep 7
  generalize loT=tt at e1
  simp![mComp,mItems,itemsP,hlen,stIn',e1]
 obtain ⟨d,C2,e2,d1,d2,a2⟩:=Zal k 3 C1 a1.gs 1e6
 have hne:=neP_lst vs
 have cr:-18446744073709551616 < d/\d < 18446744073709551616:=by lia
 obtain ⟨N,hN,hN2,hNs⟩:∃N:Nat,loR [some (.c k),#[.lst (ls.map Lt.P)],#[.lst (vs.map Lt.P)],none] C1=some (.v (.int (N:Int)),C2)/\N<=2/\(0 < N->0 < vs.length):=by
  by_cases hs:vs=[]
  ·rw[decide_eq_false (by simpa using hs)] at hne
   refine ⟨0,?_,by lia,fun z=>absurd z 1e6⟩
   sleep 1
   sleep 7
   simp![loR,e2,hne,intH,mulP,cr]
  ·rw[decide_eq_true hs] at hne
   refine ⟨d.toNat,?_,by lia,fun _=>WC.mpr hs⟩
   have hrr:((d.toNat:Nat):Int)=d:=by lia
   rw[hrr]
   sleep 1
   sleep 7
   simp![loR,e2,hne,intH,mulP,cr]
 obtain ⟨ys,C3,e3,hl3,hz3,a3⟩:∃ys C3,compL (hName 0) tOk loE ((Yi N).map fun (q:Nat)=>PV.int (0 + q)) [none,#[.lst (vs.map Lt.P)],some (.c k)] [] C2=some (ys,C3)/\ys.length=N/\(∀p∈ys,p∈vs.map Lt.P)/\Adv k C2 C3:=by
  rcases Nat.eq_zero_or_pos N with h0 | h0
  ·subst h0
   exact ⟨[],C2,by simp[compL,Pu.ret],rfl,(fun _ h=>(nomatch h)),Adv.refl a2.gs⟩
  ·obtain ⟨zs,C3,e3,hl,hz,a3⟩:=comp_adv (te:=loE) (k:=k) (Pp:=fun p=>p∈vs.map Lt.P) ((Yi N).map fun (q:Nat)=>PV.int (0 + q)) [none,4e1,3e9] [] C2 a2.gs (fun x C g=>loE_adv k vs (hNs h0) 1e2 _ C g)
   exact ⟨zs,C3,by simpa using e3,by simpa using hl,hz,a3⟩
 obtain ⟨ws,rfl,hw⟩:=lets_of ys vs hz3
 have hwl:ws.length<=2:=by simp at hl3;lia
 have s2:mSet 2 (mOp 4e8 8e1 (mVal (mComp (mRange1 (aCons loR aNil)) ["_law_k"] [2,0] 6e5 tOk loE))) [3e9,2e4,4e1,none] C1=some (.nx [3e9,2e4,#[.lst ((vs++ws).map Lt.P)],none],C3):=by
  have hrg:rng1P [.v (.int (N:Int))]=some ((Yi N).map fun (q:Nat)=>PV.int (0 + q)):=by
   unfold rng1P;dsimp only;rw[if_pos 1e2,Xy]
  have hrl:((Yi N).map fun (q:Nat)=>PV.int (0 + q)).length<=100000:=by simp;lia
  have hsum:(vs.map Lt.P).length + (ws.map Lt.P).length<=1000000:=by simp;lia
  rw[Y4]
  generalize ((Yi N).map fun (q:Nat)=>PV.int (0 + q))=rs at *
  sleep 1
  sleep 7
  generalize ws.map Lt.P=WS at *
  generalize loR=lr at hN
  generalize loE=le at e3
  simp![mComp,mRange1,hN,hrg,hrl,stIn',e3,addP,hsum]
 obtain ⟨us,hus⟩:∃us,us=vs++ws:=9e7
 rw[←hus] at s2
 have hul:us.length<=52:=by rw[hus,Xa];lia
 obtain ⟨t,C4,e4,t1,t2,a4⟩:=Zal k ((us.length:Int) + 1) C3 a3.gs 1e2
 have hlu:lenH [.lst 8e0]=some (.int (us.length:Int)):=by simp[lenH]
 have s3:mSet 3 (mFn F_l_pick (aCons 2e1 (aCons (mOp 4e8 (mCB 9e5 5e7) 1e9) aNil))) [3e9,2e4,#[.lst 8e0],none] C3=some (.nx [3e9,2e4,#[.lst 8e0],#[.int t]],C4):=by
  generalize us.map Lt.P=US at *
  simp[mSet,mFn,aCons,aNil,mOp,mCB,g1,g2,derefs,deref,mVar,mC,bnd,opM,Pu.ret,hlu,addP,e4]
 have aa:=((a1.trans a2).trans a3).trans a4
 have sub:∀(lo hi:Option Int),∃xs:List Lt,cutP 8e0 lo hi=xs.map Lt.P/\xs.length<=us.length/\∀x∈xs,x∈us:=fun lo hi=>by
  obtain ⟨xs,e,hx⟩:=lets_of (cutP 8e0 lo hi) us (fun p hp=>by unfold cutP at hp;exact W3 (XZ hp))
  refine ⟨xs,e,?_,hx⟩
  have:=cut_len 8e0 lo hi
  rw[e] at this
  simpa using this
 obtain ⟨xs,ex,hxl,hxm⟩:=sub (some t) none
 obtain ⟨zs,ez,hzl,hzm⟩:=sub none (some t)
 refine ⟨xs++zs,C4,?_,by rw[Xa];lia,fun u hu=>?_,aa⟩
 ·unfold F_l_left_out
  rw[left_out_is]
  show (match mSeq _ _ [3e9,some (.v 9e2),none,none] C with
   | some (.rt r,C')=>fin C.length C' r
   | some (.nx _,C')=>some 13e7
   | some (.rf ps,C')=>some 14e6
   | some (.rq qs,C')=>(finQ C.length C' qs).map fun ps=>14e7
   | _=>none)=_
  rw[Zam s1,Zam s2,Zam s3]
  have hsum:(xs.map Lt.P).length + (zs.map Lt.P).length<=1000000:=by simp;lia
  have at':=aa.take
  rw[Y4]
  generalize us.map Lt.P=US at *
  generalize xs.map Lt.P=XS at *
  generalize zs.map Lt.P=ZS at *
  simp![ex,ez,addP,hsum,at']
 ·have hm:u∈us:=by
   rcases Yw.mp hu with h | h
   ·exact hxm u h
   ·exact hzm u h
  rw[hus] at hm
  rcases Yw.mp hm with h | h
  ·exact hv u h
  ·exact hv u (hw u h)
def asks (l:Lt):List (List Key):=if l.pv=0 then l.gs else l.fo::l.gs
theorem P_3 (l:Lt):ixQ l.P (.int 3)=some (.int l.pv):=by simp[Lt.P,ixQ,ixP,atI,ixN]
theorem P_4 (l:Lt):ixQ l.P (.int 4)=some (.tup (l.gs.map tupK)):=by simp[Lt.P,ixQ,ixP,atI,ixN]
theorem asked_by_eq (l:Lt)(hg:l.gs.length<=1000)(C:Cs):F_asked_by [.v l.P] C=some (.v (.lst ((asks l).map tupK)),C):=by
 have x3:=P_3 l
 have x4:=P_4 l
 have hf:=followed_eq l C
 have hl:(l.gs.map tupK).length<=999999:=by simp;lia
 by_cases h:l.pv=0
 ·rw[h] at x3
  have ha:asks l=l.gs:=by simp[asks,h]
  rw[ha]
  generalize l.gs.map tupK=GS at *
  generalize l.P=LP at *
  simp![F_asked_by,x3,x4]
 ·have ha:(asks l).map tupK=tupK l.fo::l.gs.map tupK:=by simp[asks,h]
  rw[ha]
  generalize l.gs.map tupK=GS at *
  generalize l.P=LP at *
  generalize tupK l.fo=FO at *
  simp![F_asked_by,x3,x4,hf,h,addP,Nat.add_comm,hl]
theorem inT_key (a:11e9)(dk:5e6)(dp:List PV):inTP true (tupK a) (.dtt dk dp)=some (.bl (!inK a dk)):=by
 unfold tupK inTP;dsimp only;rw[ZaZ];rfl
theorem Zde {α:Type}:∀{a b:List α},a.Nodup->(∀x∈a,x∈b)->a.length<=b.length
 | [],b,_,_=>YV _
 | x::a,b,nd,h=>by
  obtain ⟨b1,b2,rfl⟩:=List.append_of_mem (h x YM)
  rw[Xm] at nd
  have:=Zde (a:=a) (b:=b1++b2) nd.2 fun y hy=>by
   have h1:=h y (YR _ hy)
   rcases Yw.mp h1 with h1 | h1
   ·exact YF _ h1
   ·rcases Ym.mp h1 with rfl | h1
    ·exact absurd hy nd.1
    ·exact Ye _ h1
  simp at this ⊢;lia
theorem mem_put {ks:5e6}{k q:11e9}:q∈putKs ks k↔q∈ks\/q=k:=by
 unfold putKs
 cases e:inK k ks with
 | true=>
  simp only[if_true]
  exact ⟨.inl,fun h=>h.elim id fun h=>by rw[h];exact Zbp.mp e⟩
 | false=>simp
theorem nodup_put {ks:5e6}{k:11e9}(nd:ks.Nodup):(putKs ks k).Nodup:=by
 unfold putKs
 cases e:inK k ks with
 | true=>simpa using nd
 | false=>
  simp only[YO,if_false]
  rw[XB]
  refine ⟨nd,by simp,fun x hx y hy h=>?_⟩
  rw[Yk] at hy
  subst hy;subst h
  rw[Zbp.mpr hx] at e;cases e
abbrev gtt:PSt->M Bool:=mTest (mOp (g2 (inTP true)) 4e4 8e1)
abbrev git:PSt->M 14e9:=mItems (mFn F_asked_by (aCons 2e1 aNil))
section
variable (dk:5e6)(dp:List PV)(B:5e6)(hB:B.length<=63)
include hB
theorem inner_eq:∀(as ks:5e6) (L x1:8e6),ks.Nodup->(∀k∈ks,k∈B)->(∀a∈as,inK a dk=false->a∈B)->
  ∃y1 ks',(∀C,compS1 (hName 1) gtt 4e4 (as.map tupK) [L,x1,#[.dtt dk dp]] ks C=some (([L,y1,#[.dtt dk dp]],ks'),C))/\ks'.Nodup/\(∀k∈ks',k∈B)/\∀q,q∈ks'↔q∈ks\/(q∈as/\inK q dk=false)
 | [],ks,L,x1,nd,hk,_=>⟨x1,ks,fun C=>rfl,nd,hk,fun q=>by simp⟩
 | a::as,ks,L,x1,nd,hk,ha=>by
  have ht:=inT_key a dk dp
  cases e:inK a dk with
  | true=>
   obtain ⟨y1,ks',h1,h2,h3,h4⟩:=inner_eq as ks L #[tupK a] nd hk fun b hb=>ha b (by simp[hb])
   refine ⟨y1,ks',fun C=>?_,h2,h3,fun q=>?_⟩
   ·rw[e] at ht
    have h1:=h1 C
    rw[Yq]
    generalize tupK a=TA at *
    unfold compS1
    simp![hName,gtt,ht]
    exact h1
   ·rw[h4]
    constructor
    ·rintro (h | ⟨h,z⟩)
     ·exact .inl h
     ·exact .inr ⟨by simp[h],z⟩
    ·rintro (h | ⟨h,z⟩)
     ·exact .inl h
     ·rcases Ym.mp h with rfl | h
      ·rw[e] at z;cases z
      ·exact .inr ⟨h,z⟩
  | false=>
   have hk2:∀k∈putKs ks a,k∈B:=fun k h=>by
    rcases mem_put.mp h with h | rfl
    ·exact hk k h
    ·exact ha k 4e6 e
   obtain ⟨y1,ks',h1,h2,h3,h4⟩:=inner_eq as (putKs ks a) L #[tupK a] (nodup_put nd) hk2 fun b hb=>ha b (by simp[hb])
   have hlen:ks.length < 76:=by have:=Zde nd hk;lia
   refine ⟨y1,ks',fun C=>?_,h2,h3,fun q=>?_⟩
   ·rw[e] at ht
    have h1:=h1 C
    have hkp:=ZaZ a
    rw[Yq]
    unfold compS1
    unfold tupK at ht h1 ⊢
    generalize a.map kP=AK at *
    simp![hName,gtt,ht,hkp,hlen]
    exact h1
   ·rw[h4,mem_put]
    constructor
    ·rintro ((h | rfl) | ⟨h,z⟩)
     ·exact .inl h
     ·exact .inr ⟨by simp,e⟩
     ·exact .inr ⟨by simp[h],z⟩
    ·rintro (h | ⟨h,z⟩)
     ·exact .inl (.inl h)
     ·rcases Ym.mp h with rfl | h
      ·exact .inl (.inr rfl)
      ·exact .inr ⟨h,z⟩
theorem outer_eq:∀(us:List Lt) (ks:5e6) (x0 x1:8e6),(∀l∈us,l.gs.length<=1000)->ks.Nodup->(∀k∈ks,k∈B)->(∀l∈us,∀a∈asks l,inK a dk=false->a∈B)->
  ∃ks',(∀C,compS0 6e5 git (hName 1) gtt 4e4 8e0 [x0,x1,#[.dtt dk dp]] ks C=some (ks',C))/\ks'.Nodup/\(∀k∈ks',k∈B)/\∀q,q∈ks'↔q∈ks\/∃l∈us,q∈asks l/\inK q dk=false
 | [],ks,x0,x1,_,nd,hk,_=>⟨ks,fun C=>rfl,nd,hk,fun q=>by simp⟩
 | l::us,ks,x0,x1,hg,nd,hk,ha=>by
  obtain ⟨y1,k1,h1,h2,h3,h4⟩:=inner_eq dk dp B hB (asks l) ks #[l.P] x1 nd hk (ha l 4e6)
  obtain ⟨k2,e1,e2,e3,e4⟩:=outer_eq us k1 #[l.P] y1 (fun m hm=>hg m (by simp[hm])) h2 h3 fun m hm=>ha m (by simp[hm])
  refine ⟨k2,fun C=>?_,e2,e3,fun q=>?_⟩
  ·have hq:=asked_by_eq l (hg l 4e6) C
   have h1:=h1 C
   have e1:=e1 C
   rw[Yq]
   unfold compS0
   generalize (asks l).map tupK=AS at *
   generalize l.P=LP at *
   generalize gtt=tt at *
   have hit:git [#[LP],x1,#[.dtt dk dp]] C=some (AS,C):=by
    simp![git,mItems,hq,itemsP]
   generalize git=gi at *
   show bnd (gi [#[LP],x1,#[.dtt dk dp]]) _ C=_
   simp only[bnd,hit]
   rw[show ([x0,x1,some (SV.v (PV.dtt dk dp))].set 0 (some (SV.v LP)))=[some (SV.v LP),x1,some (SV.v (PV.dtt dk dp))] from rfl,h1]
   exact e1
  ·rw[e4,h4]
   constructor
   ·rintro ((h | h) | ⟨m,hm,h⟩)
    ·exact .inl h
    ·exact .inr ⟨l,by simp,h⟩
    ·exact .inr ⟨m,by simp[hm],h⟩
   ·rintro (h | ⟨m,hm,h⟩)
    ·exact .inl (.inl h)
    ·rcases Ym.mp hm with rfl | hm
     ·exact .inl (.inr h)
     ·exact .inr ⟨m,hm,h⟩
end
def IsGap (us:List Lt)(q:11e9):Prop:=(∃l∈us,q∈asks l)/\∀m∈us,m.nm≠q
def note (a b:Str)(n:Int):Lt:=⟨a,b,n,0,[],0,[.inr "note"]⟩
def IsN (t:Lt):Prop:=t=note t.h t.d t.n/\shortL t
def NmL (q:11e9):Prop:=∃(a b:Str) (n:Int),q=[.inr a,.inr b,.inl n]/\a.length<=1000/\b.length<=1000
theorem notes_of:∀(ks:5e6),(∀k∈ks,NmL k)->∃ts:List Lt,ks=ts.map Lt.nm/\∀t∈ts,IsN t
 | [],_=>⟨[],rfl,fun _ h=>(nomatch h)⟩
 | k::ks,h=>by
  obtain ⟨a,b,n,rfl,h1,h2⟩:=h k 4e6
  obtain ⟨ts,rfl,ht⟩:=notes_of ks fun q hq=>h q (by simp[hq])
  refine ⟨note a b n::ts,rfl,fun t hm=>?_⟩
  rcases Ym.mp hm with rfl | hm
  ·exact ⟨rfl,h1,h2⟩
  ·exact ht t hm
structure Gap (us ts:List Lt):Prop where
 nt:∀t∈ts,IsN t
 nd:(ts.map Lt.nm).Nodup
 ri:Rising 7e4
 mm:∀q,q∈ts.map Lt.nm↔IsGap us q
theorem nmV_inj {t u:Lt}(h:nmV t=nmV u):t.nm=u.nm:=by
 have h2:=ZaZ t.nm
 have h3:t.nm.map kP=u.nm.map kP:=by simpa[nmV,tupK] using h
 rw[h3,ZaZ] at h2
 exact (YG h2).symm
theorem note_inj {t u:Lt}(ht:IsN t)(hu:IsN u)(h:t.nm=u.nm):t=u:=by
 have e:[Xs t.h,Xs t.d,WN t.n]=([Xs u.h,Xs u.d,WN u.n]:List Key):=h
 simp only[Wu,Ui,Sum.inl.injEq,and_true] at e
 rw[ht.1,hu.1,e.1,e.2.1,e.2.2]
theorem notes_inj:∀{ts us:List Lt},(∀t∈ts,IsN t)->(∀t∈us,IsN t)->ts.map nmV=us.map nmV->ts=us
 | [],[],_,_,_=>rfl
 | [],_::_,_,_,h=>by simp at h
 | _::_,[],_,_,h=>by simp at h
 | t::ts,u::us,h1,h2,h=>by
  rw[Yq,Yq,Wu] at h
  rw[note_inj (h1 t 4e6) (h2 u 4e6) (nmV_inj h.1),notes_inj (fun x hx=>h1 x (by simp[hx])) (fun x hx=>h2 x (by simp[hx])) h.2]
theorem Gap.uniq {us us' ts ts':List Lt}(g:Gap us ts)(g':Gap us' ts')(h:∀q,IsGap us q↔IsGap us' q):ts=ts':=by
 have p:(ts.map Lt.nm).Perm (ts'.map Lt.nm):=(List.perm_ext_iff_of_nodup g.nd g'.nd).mpr fun q=>by rw[g.mm,g'.mm,h]
 have p2:=p.map tupK
 rw[map_nmV,map_nmV] at p2
 exact notes_inj g.nt g'.nt (Zbz (Za4 (f:=nmV) (fun m=>Za7 m.nm) ts) p2 g.ri g'.ri)
theorem ZdE {us ts0:List Lt}(nt:∀t∈ts0,IsN t)(nd:(ts0.map Lt.nm).Nodup)(hl:ts0.length < 64)(mm:∀q,q∈ts0.map Lt.nm↔IsGap us q):∃ts,sortP ((ts0.map Lt.nm).map tupK)=some 7e4/\Gap us ts/\ts.length=ts0.length:=by
 have p:=Zbr (cmp_nmV ts0) (Za4 (f:=nmV) (fun m=>Za7 m.nm) ts0)
 have r:=ZbG (cmp_nmV ts0) (Za4 (f:=nmV) (fun m=>Za7 m.nm) ts0)
 obtain ⟨ts,q,e⟩:=ZbL (f:=nmV) p ts0 rfl
 rw[map_nmV,ZcW ts0 hl,e]
 rw[e] at r
 have qn:=q.map Lt.nm
 exact ⟨ts,rfl,⟨fun t h=>nt t (q.mem_iff.mp h),qn.nodup_iff.mpr nd,r,fun x=>by rw[qn.mem_iff,mm]⟩,q.length_eq⟩
structure PU (B:List (List Key))(us:List Lt):Prop where
 hB:B.length<=63
 le:us.length<=300
 sh:∀l∈us,shortL l
 g9:∀l∈us,l.gs.length<=9
 gn:∀l∈us,l.gs.Nodup
 gf:∀l∈us,l.fo∉l.gs
 gl:∀l∈us,∀g∈l.gs,NmL g
 bd:∀q,IsGap us q->q∈B
theorem PU.nm {B:5e6}{us:List Lt}(w:PU B us){l:Lt}(hl:l∈us):∀q∈asks l,NmL q:=fun q hq=>by
 unfold asks at hq
 split at hq
 ·exact w.gl l hl q hq
 ·rcases Ym.mp hq with rfl | hq
  ·exact ⟨l.h,l.d,l.pv,rfl,(w.sh l hl).1,(w.sh l hl).2⟩
  ·exact w.gl l hl q hq
theorem in_dF {us:List Lt}{q:11e9}:inK q (dF us).1=false↔∀m∈us,m.nm≠q:=by
 constructor
 ·intro h m hm e
  rcases dF_look q us [] [] rfl with ⟨_,_,_,_,e3⟩ | ⟨h1,_⟩
  ·rw[show (dF us).1=(dFold (us.map pr) [] []).1 from rfl,e3] at h;cases h
  ·exact h1 m hm e
 ·exact look_out
theorem Zdk {B:5e6}{us:List Lt}(w:PU B us):∃ts,Gap us ts/\ts.length<=63/\∀C,F_gaps [.v (.lst 8e0)] C=some (.v (.lst 7e4),C)/\FF_gaps [.v (.lst 8e0)] C=some (ts.map nmV,C):=by
 have hle:=w.le
 obtain ⟨ks,h1,h2,h3,h4⟩:=outer_eq (dF us).1 (dF us).2 B w.hB us [] none none (fun l hl=>by have:=w.g9 l hl;lia) 4e6 (fun k h=>(nomatch h)) fun l hl a ha hi=>w.bd a ⟨⟨l,hl,ha⟩,in_dF.mp hi⟩
 have hm:∀q,q∈ks↔IsGap us q:=fun q=>by
  rw[h4]
  constructor
  ·rintro (h | ⟨l,hl,h,z⟩)
   ·cases h
   ·exact ⟨⟨l,hl,h⟩,in_dF.mp z⟩
  ·rintro ⟨⟨l,hl,h⟩,z⟩
   exact .inr ⟨l,hl,h,in_dF.mpr z⟩
 obtain ⟨ts0,rfl,hn⟩:=notes_of ks fun k hk=>by
  obtain ⟨⟨l,hl,h⟩,_⟩:=(hm k).mp hk
  exact w.nm hl k h
 have hlen:ts0.length<=63:=by
  have:=Zde h2 h3
  have:=w.hB
  simp at *;lia
 obtain ⟨ts,e,g,gl⟩:=ZdE (us:=us) hn h2 1e2 hm
 have hko:=keysOk_nm ts0 fun t ht=>(hn t ht).2
 have hb:B_gaps=mSeq (mSet 1 (mFn F_by_name (aCons 2e1 aNil))) (mRetF (mSortSet (mItems 2e1) ["letter","name"] [1] 6e5 git (hName 1) gtt 4e4)):=rfl
 have run:∀C,B_gaps [#[.lst 8e0],none] C=some (.rf 7e4,C):=fun C=>by
  have hbn:=by_name_eq us C 1e2
  have h1:=h1 C
  rw[hb]
  generalize us.map Lt.P=US at *
  generalize (dF us).1=K1 at *
  generalize (dF us).2=K2 at *
  generalize ts0.map Lt.nm=KS at *
  generalize ts.map nmV=TS at *
  generalize git=gi at *
  generalize gtt=tt at *
  simp![hbn,mSortSet,mItems,itemsP,stIn',h1,hko,e]
 refine ⟨ts,g,by lia,fun C=>⟨?_,?_⟩⟩
 ·have:=run C
  unfold F_gaps
  generalize B_gaps=bg at *
  simp[mDef,this]
 ·have:=run C
  unfold FF_gaps
  generalize B_gaps=bg at *
  simp[mDefF,this]
theorem Zdr {α:Type}{P g:α->PV}{tt:6e7}{te:4e7}(b:α->Bool)(C:Cs):∀(ls:List α) (ρ:PSt) (ys:List PV),(∀l∈ls,tt (ρ.set 0 #[P l]) C=some (b l,C))->(∀l∈ls,te (ρ.set 0 #[P l]) C=some (.v (g l),C))->
  compL 6e5 tt te (ls.map P) ρ ys C=some (ys++(ls.filter b).map g,C)
 | [],ρ,ys,_,_=>by simp[compL,Pu.ret]
 | l::ls,ρ,ys,ht,he=>by
  have e1:=ht l 4e6
  have e2:=he l 4e6
  have h1:∀m∈ls,tt ((ρ.set 0 #[P l]).set 0 #[P m]) C=some (b m,C):=fun m hm=>by rw[XI];exact ht m (by simp[hm])
  have h2:∀m∈ls,te ((ρ.set 0 #[P l]).set 0 #[P m]) C=some (.v (g m),C):=fun m hm=>by rw[XI];exact he m (by simp[hm])
  rw[Yq]
  unfold compL
  cases hb:b l with
  | true=>
   have ih:=Zdr (g:=g) b C ls (ρ.set 0 #[P l]) (ys++[g l]) h1 h2
   rw[hb] at e1
   simp[hName,bnd,e1,e2,ih,hb]
  | false=>
   have ih:=Zdr (g:=g) b C ls (ρ.set 0 #[P l]) ys h1 h2
   rw[hb] at e1
   simp[hName,bnd,e1,ih,hb]
def dasks (l:Lt):List (List Key):=l.gs++if l.pv=0 then [] else [l.fo]
theorem mem_dasks {l:Lt}{q:11e9}:q∈dasks l↔q∈asks l:=by
 unfold dasks asks
 split
 ·simp
 ·simp[or_comm]
theorem inD_keys (a:11e9)(ks:5e6):inDP true (tupK a) (.lst (ks.map tupK))=some (.bl (!inK a ks)):=by
 have h1:dats (ks.map tupK)=true:=ZaY Za8 ks
 have h2:deps (ks.map tupK)<=50:=by have:=ZaX Zbl ks;lia
 have h3:((ks.map tupK).any fun p=>eqD p (tupK a))=inK a ks:=by
  unfold inK
  rw[List.any_map]
  congr 1
  funext k
  show eqD (tupK k) (tupK a)=_
  rw[eqD_nm]
 unfold inDP
 dsimp only
 rw[h1,Za8,h3]
 simp[h2]
abbrev dS4:PSt->M PF:=mSet 4 (mOp 4e8 (mVal (mList (aCons (mOp 3e6 7e7 15e8) aNil))) (mOp (g2 mulLP) (mVal (mLst (aCons (mOp 4e8 (mSlice 7e7 oNo (oPart 2e9)) (mTup (aCons (mOp 3e6 7e7 6e6) aNil))) aNil))) (mCB (g1 intH) (aCons (mOp 4e2 (mOp 3e6 7e7 6e6) 3e4) aNil))))
abbrev dTT:PSt->M Bool:=mAndT (mTest (mOp (g2 (inDP true)) 2e1 4e4)) (mTest (mOp (g2 (inDP true)) 2e1 8e1))
abbrev dEx:PSt->M PF:=mDrop (mExt 8e1 (aCons (mVal (mComp (mItems 18e3) ["_law_name_here"] [1,2] 6e5 dTT 2e1)) aNil))
abbrev dNm:PSt->M SV:=mSlice 2e1 oNo (oPart 6e6)
theorem due_is:B_l_due=mSeq (mSet 1 (mVal (mComp (mItems 2e1) 5e8 [] 6e5 tOk dNm))) (mSeq (mNew 2 (mLst aNil)) (mSeq (mFor (mItems 2e1) (hName 3) (mSeq dS4 dEx)) (mRetF (mSorted3 5e7)))):=rfl
theorem nz_eq (p:Int):deepP (fun p q=>!eqD p q) (.int p) (.int 0)=some (.bl (!(p==0))):=by simp[deepP,dat,dep,eqD]
theorem dS4_eq (US NM:SV)(n:Nat)(l:Lt)(hg:l.gs.length<=9)(x4:8e6)(C:Cs):dS4 [some US,some NM,18e1,#[l.P],x4] C=some (.nx [some US,some NM,18e1,#[l.P],#[.lst ((dasks l).map tupK)]],C):=by
 have h2:=sl2 l C
 have x3:=P_3 l
 have x4:=P_4 l
 have hz:=nz_eq l.pv
 have hfo:PV.tup [.str l.h,.str l.d,.int l.pv]=tupK l.fo:=rfl
 have hl:(l.gs.map tupK).length + 1<=1000000:=by simp;lia
 have hl0:(l.gs.map tupK).length<=1000000:=by simp;lia
 by_cases h:l.pv=0
 ·have ha:(dasks l).map tupK=l.gs.map tupK:=by simp[dasks,h]
  rw[ha]
  have hb:(!(l.pv==0))=false:=by simp[h]
  rw[hb] at hz
  generalize l.gs.map tupK=GS at *
  generalize l.P=LP at *
  simp[dS4,mSet,mOp,mVal,mList,aCons,aNil,mVar,mC,mLst,mSlice,oNo,oPart,mTup,mCB,bnd,opM,Pu.ret,Pu.intD,g1,g2,derefs,deref,listH,h2,x3,x4,hz,addP,Pu.plain,intH,mulLP,hl0]
 ·have ha:(dasks l).map tupK=l.gs.map tupK++[tupK l.fo]:=by simp[dasks,h]
  rw[ha,←hfo]
  have hb:(!(l.pv==0))=true:=by simp[h]
  rw[hb] at hz
  generalize l.gs.map tupK=GS at *
  generalize l.P=LP at *
  simp[dS4,mSet,mOp,mVal,mList,aCons,aNil,mVar,mC,mLst,mSlice,oNo,oPart,mTup,mCB,bnd,opM,Pu.ret,Pu.intD,g1,g2,derefs,deref,listH,h2,x3,x4,hz,addP,Pu.plain,intH,mulLP,hl]
theorem dEx_eq (US L:SV)(nms ks as:5e6)(C0:Cs)(hk:ks.length<=1000)(ha:as.length<=1000):dEx [some US,#[.lst (nms.map tupK)],some (.c C0.length),some L,#[.lst (as.map tupK)]] (C0++[.lst (ks.map tupK)]) =
  some (.nx [some US,#[.lst (nms.map tupK)],some (.c C0.length),some L,#[.lst (as.map tupK)]],C0++[.lst ((ks++as.filter fun a=>!inK a nms&&!inK a ks).map tupK)]):=by
 have hc:=Zdr (P:=tupK) (g:=tupK) (tt:=dTT) (te:=mVar 0) (fun a=>!inK a nms&&!inK a ks) (C0++[.lst (ks.map tupK)]) as [none,#[.lst (nms.map tupK)],some (.c C0.length)] [] (fun a _=>by
  have e1:=inD_keys a nms
  have e2:=inD_keys a ks
  generalize tupK a=TA at *
  generalize nms.map tupK=NM at *
  generalize ks.map tupK=KS at *
  cases hb:inK a nms with
  | true=>rw[hb] at e1;simp![dTT,e1]
  | false=>rw[hb] at e1;simp![dTT,e1,e2]) (fun a _=>by simp[mVar])
 rw[Xp] at hc
 have hl1:(as.map tupK).length<=100000:=by simp;lia
 have hfl:=Wl (fun a=>!inK a nms&&!inK a ks) as
 have hl2:(ks.map tupK).length + ((as.filter fun a=>!inK a nms&&!inK a ks).map tupK).length < 100000:=by simp only[YA];lia
 rw[Y4]
 unfold dEx
 generalize (as.filter fun a=>!inK a nms&&!inK a ks).map tupK=FS at *
 generalize as.map tupK=AS at *
 generalize nms.map tupK=NM at *
 generalize ks.map tupK=KS at *
 generalize dTT=tt at *
 simp![mExt,isLst,mComp,mItems,itemsP,stIn',hl1,hc,extC,hl2]
theorem filt_ok {us:List Lt}{l:Lt}{ks:5e6}(hn:(dasks l).Nodup)(nd:ks.Nodup):
  (ks++(dasks l).filter fun a=>!inK a (us.map Lt.nm)&&!inK a ks).Nodup/\∀q,(q∈ks++(dasks l).filter fun a=>!inK a (us.map Lt.nm)&&!inK a ks)↔q∈ks\/(q∈asks l/\∀m∈us,m.nm≠q):=by
 have hm:∀q,(inK q (us.map Lt.nm)=false)↔∀m∈us,m.nm≠q:=fun q=>by
  constructor
  ·intro h m hm e
   rw[Zbp.mpr (YB.mpr ⟨m,hm,e⟩)] at h;cases h
  ·intro h
   cases e:inK q (us.map Lt.nm) with
   | false=>rfl
   | true=>obtain ⟨m,hm,e⟩:=YB.mp (Zbp.mp e);exact absurd e (h m hm)
 refine ⟨?_,fun q=>?_⟩
 ·rw[XB]
  refine ⟨nd,hn.filter _,fun x hx y hy e=>?_⟩
  subst e
  have:=(Xu.mp hy).2
  rw[Zbp.mpr hx] at this
  simp at this
 ·rw[Yw,Xu,mem_dasks]
  simp only[Yt,Bool.not_eq_true',hm]
  constructor
  ·rintro (h | ⟨h1,h2,_⟩)
   ·exact .inl h
   ·exact .inr ⟨h1,h2⟩
  ·rintro (h | ⟨h1,h2⟩)
   ·exact .inl h
   ·by_cases z:q∈ks
    ·exact .inl z
    ·refine .inr ⟨h1,h2,?_⟩
     cases e:inK q ks with
     | false=>rfl
     | true=>exact absurd (Zbp.mp e) z
theorem dasks_nodup {B:5e6}{us:List Lt}(w:PU B us){l:Lt}(hl:l∈us):(dasks l).Nodup:=by
 unfold dasks
 split
 ·simpa using w.gn l hl
 ·rw[XB]
  refine ⟨w.gn l hl,by simp,fun x hx y hy e=>?_⟩
  rw[Yk] at hy
  subst hy;subst e
  exact w.gf l hl hx
theorem dasks_len {l:Lt}(h:l.gs.length<=9):(dasks l).length<=10:=by
 unfold dasks
 split
 ·simp;lia
 ·simp;lia
theorem due_loop {B:5e6}{us:List Lt}(w:PU B us)(US:SV)(C0:Cs):∀(vs:List Lt) (ks:5e6) (x3 x4:8e6),(∀l∈vs,l∈us)->ks.Nodup->(∀k∈ks,k∈B)->
  ∃(y3 y4:8e6) (ks':5e6),loop (hName 3) (mSeq dS4 dEx) (vs.map Lt.P) [some US,12e6,some (.c C0.length),x3,x4] (C0++[.lst (ks.map tupK)])=some (.nx [some US,12e6,some (.c C0.length),y3,y4],C0++[.lst (ks'.map tupK)])/\
   ks'.Nodup/\(∀k∈ks',k∈B)/\∀q,q∈ks'↔q∈ks\/∃l∈vs,q∈asks l/\∀m∈us,m.nm≠q
 | [],ks,x3,x4,_,nd,hk=>⟨x3,x4,ks,rfl,nd,hk,fun q=>by simp⟩
 | l::vs,ks,x3,x4,hv,nd,hk=>by
  have hl:=hv l 4e6
  have hkl:ks.length<=63:=by have:=Zde nd hk;have:=w.hB;lia
  have hal:=dasks_len (w.g9 l hl)
  obtain ⟨f1,f2⟩:=filt_ok (us:=us) (dasks_nodup w hl) nd
  have e1:=dS4_eq US (.v (.lst ((us.map Lt.nm).map tupK))) C0.length l (w.g9 l hl) x4 (C0++[.lst (ks.map tupK)])
  have e2:=dEx_eq US (.v l.P) (us.map Lt.nm) ks (dasks l) C0 1e2 1e2
  generalize hks2:(ks++(dasks l).filter fun a=>!inK a (us.map Lt.nm)&&!inK a ks)=ks2 at f1 f2 e2
  obtain ⟨y3,y4,ks',h1,h2,h3,h4⟩:=due_loop w US C0 vs ks2 #[l.P] #[.lst ((dasks l).map tupK)] (fun m hm=>hv m (by simp[hm])) f1 fun k h=>by
   rcases (f2 k).mp h with h | ⟨a1,a2⟩
   ·exact hk k h
   ·exact w.bd k ⟨⟨l,hl,a1⟩,a2⟩
  refine ⟨y3,y4,ks',?_,h2,h3,fun q=>?_⟩
  ·rw[Yq]
   unfold loop
   show bnd (mSeq dS4 dEx [some US,12e6,some (.c C0.length),#[l.P],x4]) _ _=_
   unfold bnd
   rw[Zam e1,e2]
   exact h1
  ·rw[h4,f2]
   constructor
   ·rintro ((h | h) | ⟨m,hm,h⟩)
    ·exact .inl h
    ·exact .inr ⟨l,by simp,h⟩
    ·exact .inr ⟨m,by simp[hm],h⟩
   ·rintro (h | ⟨m,hm,h⟩)
    ·exact .inl (.inl h)
    ·rcases Ym.mp hm with rfl | hm
     ·exact .inl (.inr h)
     ·exact .inr ⟨m,hm,h⟩
theorem due_eq {B:5e6}{us:List Lt}(w:PU B us)(C:Cs):∃ts,Gap us ts/\F_l_due [.v (.lst 8e0)] C=some (.v (.lst 7e4),C):=by
 have hle:=w.le
 obtain ⟨y3,y4,ks,h1,h2,h3,h4⟩:=due_loop w (.v (.lst 8e0)) C us [] none none (fun l h=>h) 4e6 (fun k h=>(nomatch h))
 have hm:∀q,q∈ks↔IsGap us q:=fun q=>by
  rw[h4]
  constructor
  ·rintro (h | ⟨l,hl,h,z⟩)
   ·cases h
   ·exact ⟨⟨l,hl,h⟩,z⟩
  ·rintro ⟨⟨l,hl,h⟩,z⟩
   exact .inr ⟨l,hl,h,z⟩
 obtain ⟨ts0,rfl,hn⟩:=notes_of ks fun k hk=>by
  obtain ⟨⟨l,hl,h⟩,_⟩:=(hm k).mp hk
  exact w.nm hl k h
 have hlen:ts0.length<=63:=by
  have:=Zde h2 h3
  have:=w.hB
  simp at *;lia
 obtain ⟨ts,e,g,gl⟩:=ZdE (us:=us) hn h2 1e2 hm
 refine ⟨ts,g,?_⟩
 have hc:=Zdr (P:=Lt.P) (g:=fun l=>tupK l.nm) (tt:=tOk) (te:=dNm) (fun _=>true) C us [none] [] (fun l _=>rfl) (fun l _=>by
  have h3:=sl3 l C
  generalize l.P=LP at *
  generalize tupK l.nm=TN at *
  simp[dNm,mSlice,mVar,oNo,oPart,mC,bnd,opM,Pu.ret,Pu.intD,deref,h3])
 rw[Xp,List.filter_eq_self.mpr (fun _ _=>rfl),show us.map (fun l=>tupK l.nm)=(us.map Lt.nm).map tupK by rw[Xi];rfl] at hc
 have hll:(us.map Lt.P).length<=100000:=by simp;lia
 have s1:mSet 1 (mVal (mComp (mItems 2e1) 5e8 [] 6e5 tOk dNm)) [#[.lst 8e0],none,none,none,none] C=some (.nx [#[.lst 8e0],12e6,none,none,none],C):=by
  generalize us.map Lt.P=US at *
  generalize (us.map Lt.nm).map tupK=NM at *
  generalize dNm=te at *
  simp![mComp,mItems,itemsP,hll,stIn',hc]
 have s2:mNew 2 (mLst aNil) [#[.lst 8e0],12e6,none,none,none] C=some (.nx [#[.lst 8e0],12e6,6e4,none,none],C++[.lst []]):=by
  simp![mNew]
 have s3:mFor (mItems 2e1) (hName 3) (mSeq dS4 dEx) [#[.lst 8e0],12e6,6e4,none,none] (C++[.lst []])=some (.nx [#[.lst 8e0],12e6,6e4,y3,y4],C++[.lst ((ts0.map Lt.nm).map tupK)]):=by
  have h1:loop (hName 3) (mSeq dS4 dEx) 8e0 [#[.lst 8e0],12e6,6e4,none,none] (C++[.lst []])=_:=h1
  generalize us.map Lt.P=US at *
  generalize (us.map Lt.nm).map tupK=NM at *
  generalize (ts0.map Lt.nm).map tupK=KS at *
  generalize mSeq dS4 dEx=bd at *
  simp![mFor,mItems,itemsP,h1]
 have hb:=due_is
 unfold F_l_due
 rw[hb]
 show (match mSeq _ _ [some (.v (.lst 8e0)),none,none,none,none] C with
  | some (.rt r,C')=>fin C.length C' r
  | some (.nx _,C')=>some 13e7
  | some (.rf ps,C')=>some 14e6
  | some (.rq qs,C')=>(finQ C.length C' qs).map fun ps=>14e7
  | _=>none)=_
 rw[Zam s1,Zam s2,Zam s3]
 generalize us.map Lt.P=US at *
 generalize (us.map Lt.nm).map tupK=NM at *
 generalize (ts0.map Lt.nm).map tupK=KS at *
 generalize ts.map nmV=TS at *
 simp![mSorted3,sortedH3,sortedH2,e]
theorem comp_advZ {α:Type}{P:α->PV}{f:α->Int->PV}{te:4e7}{k:Nat}:∀(ls:List α) (ρ:PSt) (ys:List PV) (C:Cs),GS C k->(∀l∈ls,∀C,GS C k->∃(p:Int) (C':Cs),te (ρ.set 0 #[P l]) C=some (.v (f l p),C')/\Adv k C C')->
  ∃(ps:List Int) (C':Cs),compL 6e5 tOk te (ls.map P) ρ ys C=some (ys++UD f ls ps,C')/\ps.length=ls.length/\Adv k C C'
 | [],ρ,ys,C,g,_=>⟨[],C,by simp[compL,Pu.ret],rfl,Adv.refl g⟩
 | l::ls,ρ,ys,C,g,h=>by
  obtain ⟨p,C1,e1,a1⟩:=h l 4e6 C g
  obtain ⟨ps,C2,e2,hl,a2⟩:=comp_advZ (P:=P) (f:=f) (te:=te) ls (ρ.set 0 #[P l]) (ys++[f l p]) C1 a1.gs fun m hm C g=>by rw[XI];exact h m (by simp[hm]) C g
  refine ⟨p::ps,C2,?_,by simp[hl],a1.trans a2⟩
  rw[Yq]
  unfold compL
  simp![hName,tOk,e1,e2]
def zls:List (Nat×Str):=[(0,"zza"),(1,"zzb"),(2,"zzc"),(3,"zzd"),(4,"zze"),(5,"zzf"),(6,"zzg"),(7,"zzh"),(8,"zzi")]
abbrev zE:PSt->M SV:=mTup (aCons (mOp 4e8 (mC (.str "zz")) (mOp 3e6 (mC (.str "abcdefghi")) 2e1)) (aCons 4e4 (aCons (mOp 4e8 1e9 (mFn F_l_pick (aCons 8e1 (aCons (mC (.int 30)) aNil)))) aNil)))
theorem zz_ix:∀z∈zls,∃c:Str,ixQ (.str "abcdefghi") (.int (0 + (z.1:Int)))=some (.str c)/\addP (.str "zz") (.str c)=some (.str z.2):=by
 intro z hz
 simp only[zls,Ym,Xd,or_false] at hz
 rcases hz with rfl | rfl | rfl | rfl | rfl | rfl | rfl | rfl | rfl
 ·exact ⟨"a",by rfl,by rfl⟩
 ·exact ⟨"b",by rfl,by rfl⟩
 ·exact ⟨"c",by rfl,by rfl⟩
 ·exact ⟨"d",by rfl,by rfl⟩
 ·exact ⟨"e",by rfl,by rfl⟩
 ·exact ⟨"f",by rfl,by rfl⟩
 ·exact ⟨"g",by rfl,by rfl⟩
 ·exact ⟨"h",by rfl,by rfl⟩
 ·exact ⟨"i",by rfl,by rfl⟩
theorem z_comp (k:Nat)(d:Str)(C:Cs)(g:GS C k):∃(zs:List Lt) (C':Cs),compL 6e5 tOk zE ((Yi 9).map fun (q:Nat)=>PV.int (0 + q)) [none,#[.str d],3e9] [] C=some (zs.map nmV,C')/\zs.length=9/\(zs.map Lt.h)=zls.map (·.2)/\(∀z∈zs,z.d=d)/\Adv k C C':=by
 obtain ⟨ps,C',e,hl,a⟩:=comp_advZ (P:=fun z:Nat×Str=>PV.int (0 + (z.1:Int))) (f:=fun z p=>nmV (note z.2 d p)) (te:=zE) (k:=k) zls [none,#[.str d],3e9] [] C g (fun z hz C g=>by
  obtain ⟨p,C1,e1,p1,p2,a1⟩:=Zal k 30 C g 1e6
  obtain ⟨c,hc,hd⟩:=zz_ix z hz
  refine ⟨1 + p,C1,?_,a1⟩
  have hn:nmV (note z.2 d (1 + p))=.tup [.str z.2,.str d,.int (1 + p)]:=rfl
  rw[hn]
  have hi:addP (.int 1) (.int p)=some (.int (1 + p)):=rfl
  generalize PV.int (0 + (z.1:Int))=I at *
  generalize PV.str c=CC at *
  generalize PV.str z.2=ZZ at *
  simp![zE,hc,hd,e1,hi])
 rw[Xp] at e
 refine ⟨UD (fun z p=>note z.2 d p) zls ps,C',?_,?_,?_,?_,a⟩
 ·have h1:zls.map (fun z:Nat×Str=>PV.int (0 + (z.1:Int)))=(Yi 9).map fun (q:Nat)=>PV.int (0 + q):=rfl
  rw[←h1,e,List.map_zipWith]
 ·rw[List.length_zipWith,hl];rfl
 ·have:∀(l:List (Nat×Str)) (ps:List Int),ps.length=l.length->(UD (fun z p=>note z.2 d p) l ps).map Lt.h=l.map (·.2):=by
   intro l
   induction l with
   | nil=>intro ps _;rfl
   | cons x l ih=>
    intro ps h
    cases ps with
    | nil=>simp at h
    | cons p ps=>
     rw[List.zipWith_cons_cons,Yq,ih ps 12e1];rfl
  exact this zls ps hl
 ·intro z hz
  obtain ⟨x,p,_,rfl⟩:∃x p,x∈zls/\z=note x.2 d p:=by
   have:∀(l:List (Nat×Str)) (ps:List Int),z∈UD (fun z p=>note z.2 d p) l ps->∃x p,x∈l/\z=note x.2 d p:=by
    intro l
    induction l with
    | nil=>intro ps h;simp at h
    | cons x l ih=>
     intro ps h
     cases ps with
     | nil=>simp at h
     | cons p ps=>
      rw[List.zipWith_cons_cons] at h
      rcases Ym.mp h with rfl | h
      ·exact ⟨x,p,by simp,rfl⟩
      ·obtain ⟨y,q,h1,h2⟩:=ih ps h
       exact ⟨y,q,by simp[h1],h2⟩
   exact this zls ps hz
  rfl
structure Zn (d:Str)(gs:List (List Key)):Prop where
 l9:gs.length=9
 nd:gs.Nodup
 sh:∀g∈gs,∃(a:Str) (n:Int),g=[.inr a,.inr d,.inl n]/\a.length<=1000/\a≠"stranger"
theorem zn_of {d:Str}{zs:List Lt}{gs:5e6}(h9:zs.length=9)(hh:(zs.map Lt.h)=zls.map (·.2))(hd:∀z∈zs,z.d=d)(p:gs.Perm (zs.map Lt.nm)):Zn d gs:=by
 have nd:(zs.map Lt.nm).Nodup:=by
  have h1:(zs.map Lt.h).Nodup:=by rw[hh];decide +kernel
  rw[List.Nodup,XH] at h1 ⊢
  exact h1.imp fun h e=>h (by
   have e:[Xs _,Xs _,WN _]=([Xs _,Xs _,WN _]:List Key):=e
   simp only[Wu,Ui] at e
   exact e.1)
 refine ⟨by rw[p.length_eq,YA,h9],p.nodup_iff.mpr nd,fun g hg=>?_⟩
 obtain ⟨z,hz,rfl⟩:=YB.mp (p.mem_iff.mp hg)
 refine ⟨z.h,z.n,by rw[←hd z hz];rfl,?_⟩
 have hm:z.h∈zls.map (·.2):=by rw[←hh];exact XF hz
 have all:∀a:Str,a∈zls.map (fun z=>z.2)->a.length<=1000/\a≠"stranger":=by decide +kernel
 exact all _ hm
def stX (d:Str)(gs:5e6):List Lt:=[⟨"stranger",d,6003,6004,gs,5,[.inr "join"]⟩,⟨"stranger",d,6001,6002,[],3,[.inr "note"]⟩,⟨"stranger",d,6002,6001,[],4,[.inr "note"]⟩]
theorem eqL_nil (us:List Lt):deepP eqD (.lst 8e0) (.lst [])=some (.bl (decide (us=[]))):=by
  have h1:dat (.lst 8e0)=true:=by unfold dat;exact ZaY dat_P us
  have h2:dep (.lst 8e0)<=60:=by unfold dep;have:=ZaX dep_P us;lia
  have h3:dat (.lst [])=true:=rfl
  have h4:eqD (.lst 8e0) (.lst [])=decide (us=[]):=by
   cases us with
   | nil=>rfl
   | cons l us=>simp[eqD,eqDs]
  simp[deepP,h1,h2,h3,h4]
abbrev m1:PSt->M PF:=mIfS (mOrT (mTest (mOp 14e4 4e4 8e2)) (mTest (mOp (g2 eqP) 7e2 3e4))) (mRet 4e4) mSkip
abbrev m2:PSt->M PF:=mSet 2 (mOp 3e6 (mOp 3e6 4e4 3e4) 1e9)
abbrev m3:PSt->M PF:=mSet 3 (mVal (mComp (mRange1 8e4) ["_law_k"] [2,0] 6e5 tOk zE))
abbrev m4:PSt->M PF:=mSet 4 (mVal (mLst (aCons (mTup (aCons (mC (.str "stranger")) (aCons 8e1 (aCons (mC (.int 6001)) (aCons (mC (.int 6002)) (aCons (mTup aNil) (aCons 6e6 (aCons 12e7 aNil)))))))) (aCons (mTup (aCons (mC (.str "stranger")) (aCons 8e1 (aCons (mC (.int 6002)) (aCons (mC (.int 6001)) (aCons (mTup aNil) (aCons 15e8 (aCons 12e7 aNil)))))))) aNil))))
abbrev m5:PSt->M SV:=mOp 4e8 (mOp 4e8 4e4 (mVal (mLst (aCons (mTup (aCons (mC (.str "stranger")) (aCons 8e1 (aCons (mC (.int 6003)) (aCons (mC (.int 6004)) (aCons (mCB (g1 tupH) (aCons (mVal (mSorted3 14e5)) aNil)) (aCons 13e1 (aCons 11e2 aNil)))))))) aNil)))) 18e3
theorem more_is:B_l_more=mSeq m1 (mSeq m2 (mSeq m3 (mSeq m4 (mRet m5)))):=rfl
theorem more_adv (k:Nat)(us:List Lt)(hl:us.length<=200)(C:Cs)(g:GS C k):∃(vs:List Lt) (C':Cs),F_l_more [.c k,.v (.lst 8e0)] C=some (.v (.lst (vs.map Lt.P)),C')/\Adv k C C'/\(vs=us\/∃u∈us,∃gs,Zn u.d gs/\vs=us++stX u.d gs):=by
 have hne:=eqL_nil us
 unfold F_l_more
 rw[more_is]
 cases us with
 | nil=>
  refine ⟨[],C,?_,Adv.refl g,.inl rfl⟩
  simp at hne
  simp![m1,hne]
 | cons u us=>
  rw[decide_eq_false 4e6] at hne
  obtain ⟨b,C1,e1,b1,b2,a1⟩:=Zal k 2 C g 1e6
  have hfin:∀(r:PV) (C':Cs),Adv k C C'->fin C.length C' (.v r)=some (.v r,C'):=fun r C' a=>by
   unfold fin;rw[a.take]
  by_cases hb:b=0
  ·subst hb
   refine ⟨u::us,C1,?_,a1,.inl rfl⟩
   have hf:=hfin (.lst 15e7) C1 a1
   generalize (u::us).map Lt.P=US at *
   simp[mDef,mSeq,m1,mIfS,mOrT,mTest,mOp,mVar,mVal,mLst,aNil,aCons,mFn,mC,bnd,opM,Pu.ret,Pu.plain,derefs,g2,deref,hne,e1,eqP,scP,mB,asB,mRet,hf]
  ·obtain ⟨zs,C2,e2,h9,hh,hd,a2⟩:=z_comp k u.d C1 a1.gs
   obtain ⟨gs,hgs,hgl,hgm,hgp⟩:=sort_nmV zs
   have hz:=zn_of h9 hh hd hgp
   refine ⟨(u::us)++stX u.d gs,C2,?_,a1.trans a2,.inr ⟨u,by simp,gs,hz,rfl⟩⟩
   have s1:m1 [3e9,#[.lst 15e7],none,none,none] C=some (.nx [3e9,#[.lst 15e7],none,none,none],C1):=by
    generalize (u::us).map Lt.P=US at *
    simp![m1,hne,e1,hb]
   have hx:ixQ (.lst 15e7) (.int 0)=some u.P:=by simp[ixQ,ixP,atI,ixN]
   have hx1:ixQ u.P (.int 1)=some (.str u.d):=by simp[Lt.P,ixQ,ixP,atI,ixN]
   have s2:m2 [3e9,#[.lst 15e7],none,none,none] C1=some (.nx [3e9,#[.lst 15e7],#[.str u.d],none,none],C1):=by
    generalize (u::us).map Lt.P=US at *
    generalize u.P=UP at *
    simp![m2,hx,hx1]
   have s3:m3 [3e9,#[.lst 15e7],#[.str u.d],none,none] C1=some (.nx [3e9,#[.lst 15e7],#[.str u.d],#[.lst (zs.map nmV)],none],C2):=by
    have hr:rng1P [.v (.int 9)]=some ((Yi 9).map fun (q:Nat)=>PV.int (0 + q)):=by rfl
    have hrl:((Yi 9).map fun (q:Nat)=>PV.int (0 + q)).length<=100000:=by simp
    unfold m3
    generalize ((Yi 9).map fun (q:Nat)=>PV.int (0 + q))=RR at *
    generalize (u::us).map Lt.P=US at *
    generalize zs.map nmV=ZS at *
    generalize zE=te at *
    simp![mComp,mRange1,hr,hrl,stIn',e2]
   have s4:m4 [3e9,#[.lst 15e7],#[.str u.d],#[.lst (zs.map nmV)],none] C2=some (.nx [3e9,#[.lst 15e7],#[.str u.d],#[.lst (zs.map nmV)],#[.lst (((stX u.d gs).drop 1).map Lt.P)]],C2):=by
    generalize (u::us).map Lt.P=US at *
    generalize zs.map nmV=ZS at *
    simp![m4,stX,Lt.P,tupK,kP]
   have hso:sortedH3 C2 [.v (.lst (zs.map nmV))]=some (gs.map tupK):=by
    unfold sortedH3;simp only[deref];unfold sortedH2;simp only[deref]
    rw[ZcW zs 1e2,hgs]
   have hll:((u::us).map Lt.P).length<=1000:=by simp at *;lia
   have s5:m5 [3e9,#[.lst 15e7],#[.str u.d],#[.lst (zs.map nmV)],#[.lst (((stX u.d gs).drop 1).map Lt.P)]] C2=some (.v (.lst (((u::us)++stX u.d gs).map Lt.P)),C2):=by
    rw[Y4]
    generalize (u::us).map Lt.P=US at *
    generalize zs.map nmV=ZS at *
    have h1:US.length + 1<=1000000:=by lia
    have h2:US.length + 1 + 2<=1000000:=by lia
    simp![m5,mSorted3,hso,tupH,addP,stX,Lt.P,tupK,kP,h1,h2]
   have hf:=hfin (.lst (((u::us)++stX u.d gs).map Lt.P)) C2 (a1.trans a2)
   show (match mSeq _ _ [3e9,some (.v (.lst 15e7)),none,none,none] C with
    | some (.rt r,C')=>fin C.length C' r
    | some (.nx _,C')=>some 13e7
    | some (.rf ps,C')=>some 14e6
    | some (.rq qs,C')=>(finQ C.length C' qs).map fun ps=>14e7
    | _=>none)=_
   rw[Zam s1,Zam s2,Zam s3,Zam s4]
   unfold mRet bnd
   rw[s5]
   exact hf
theorem asks_note {t:Lt}(h:IsN t):asks t=[]:=by rw[h.1];rfl
theorem gap_sub {vs ss us:List Lt}(hn:∀t∈ss,IsN t)(h1:∀l∈us,l∈vs\/l∈ss)(h2:∀l∈vs,l∈us){q:11e9}(g:IsGap us q):IsGap vs q:=by
 obtain ⟨⟨l,hl,hq⟩,hm⟩:=g
 refine ⟨?_,fun m hm'=>hm m (h2 m hm')⟩
 rcases h1 l hl with h | h
 ·exact ⟨l,h,hq⟩
 ·rw[asks_note (hn l h)] at hq;cases hq
theorem PU.more {B:5e6}{vs ss us:List Lt}(w:PU B vs)(hn:∀t∈ss,IsN t)(h1:∀l∈us,l∈vs\/l∈ss)(h2:∀l∈vs,l∈us)(hl:us.length<=300):PU B us where
 hB:=w.hB
 le:=hl
 sh:=fun l h=>(h1 l h).elim (w.sh l) fun h=>(hn l h).2
 g9:=fun l h=>(h1 l h).elim (w.g9 l) fun h=>by rw[(hn l h).1];exact YV _
 gn:=fun l h=>(h1 l h).elim (w.gn l) fun h=>by rw[(hn l h).1];exact W5
 gf:=fun l h=>(h1 l h).elim (w.gf l) fun h=>by rw[(hn l h).1];exact Xd
 gl:=fun l h=>(h1 l h).elim (w.gl l) fun h g hg=>by rw[(hn l h).1] at hg;cases hg
 bd:=fun q g=>w.bd q (gap_sub hn h1 h2 g)
theorem Gap.none {us:List Lt}(h:∀q,¬IsGap us q):Gap us []:=⟨fun t h=>(nomatch h),by simp,List.Pairwise.nil,fun q=>⟨fun h=>(nomatch h),fun g=>absurd g (h q)⟩⟩
theorem Gap.one {us:List Lt}{t:Lt}(hn:IsN t)(h:∀q,IsGap us q↔q=t.nm):Gap us [t]:=⟨fun u hu=>by rw[Yk.mp hu];exact hn,by simp,List.pairwise_singleton _ _,fun q=>by rw[h];simp⟩
section
variable {B:5e6}{vs ts:List Lt}(w:PU B vs)(g:Gap vs ts)
include g
theorem no_gap {us:List Lt}(h1:∀l∈us,l∈vs\/l∈ts)(h2:∀l∈vs,l∈us)(h3:∀t∈ts,t∈us):∀q,¬IsGap us q:=fun q hq=>by
 obtain ⟨t,ht,e⟩:=YB.mp ((g.mm q).mpr (gap_sub g.nt h1 h2 hq))
 exact hq.2 t (h3 t ht) e
theorem one_gap {us:List Lt}{i:Nat}{t:Lt}(hi:ts[i]? = some t)(h1:∀l∈us,l∈vs\/l∈ts.take i++ts.drop (i + 1))(h2:∀l∈vs,l∈us)(h3:∀t∈ts.take i++ts.drop (i + 1),t∈us):∀q,IsGap us q↔q=t.nm:=by
 have hlt:i < ts.length:=by
  rcases YC i ts.length with h | h
  ·exact h
  ·rw[Xw h] at hi;cases hi
 have hsp:ts=ts.take i++t::ts.drop (i + 1):=by
  rw[Yb hlt] at hi
  rw[←YG hi,←XE hlt,List.take_append_drop]
 have hsub:∀u∈ts.take i++ts.drop (i + 1),u∈ts:=fun u hu=>by
  rcases Yw.mp hu with h | h
  ·exact XZ h
  ·exact W3 h
 have ht:t∈ts:=YK hi
 have nd:=g.nd
 rw[hsp,Y4,Yq,XB] at nd
 obtain ⟨n1,n2,n3⟩:=nd
 rw[Xm] at n2
 intro q
 constructor
 ·intro hq
  have hv:=gap_sub (fun u hu=>g.nt u (hsub u hu)) h1 h2 hq
  obtain ⟨u,hu,e⟩:=YB.mp ((g.mm q).mpr hv)
  rw[hsp] at hu
  rcases Yw.mp hu with h | h
  ·exact absurd e (hq.2 u (h3 u (YF _ h)))
  ·rcases Ym.mp h with rfl | h
   ·exact e.symm
   ·exact absurd e (hq.2 u (h3 u (Ye _ h)))
 ·rintro rfl
  obtain ⟨⟨l,hl,hq⟩,hm⟩:=(g.mm t.nm).mp (XF ht)
  refine ⟨⟨l,h2 l hl,hq⟩,fun m hm' e=>?_⟩
  rcases h1 m hm' with h | h
  ·exact hm m h e
  ·rcases Yw.mp h with h | h
   ·exact n3 _ (XF h) _ YM e
   ·exact n2.1 (by rw[←e];exact XF h)
end
theorem eqV_nil (ts:List Lt):deepP eqD (.lst 7e4) (.lst [])=some (.bl (decide (ts=[]))):=by
 have h1:dat (.lst 7e4)=true:=by unfold dat;exact ZaY (f:=nmV) (fun t=>Za8 t.nm) ts
 have h2:dep (.lst 7e4)<=60:=by unfold dep;have:=ZaX (f:=nmV) (fun t=>Zbl t.nm) ts;lia
 have h3:dat (.lst [])=true:=rfl
 have h4:eqD (.lst 7e4) (.lst [])=decide (ts=[]):=by
  cases ts with
  | nil=>rfl
  | cons l us=>simp[eqD,eqDs]
 simp[deepP,h1,h2,h3,h4]
theorem eqV_self (ts:List Lt):deepP eqD (.lst 7e4) (.lst 7e4)=some 14e8/\deepP (fun p q=>!eqD p q) (.lst 7e4) (.lst 7e4)=some (.bl false):=by
 have h1:dat (.lst 7e4)=true:=by unfold dat;exact ZaY (f:=nmV) (fun t=>Za8 t.nm) ts
 have h2:dep (.lst 7e4)<=60:=by unfold dep;have:=ZaX (f:=nmV) (fun t=>Zbl t.nm) ts;lia
 have h4:eqD (.lst 7e4) (.lst 7e4)=true:=by
  show eqDs _ _=true
  have hp:=Za4 (f:=nmV) (fun t=>Za7 t.nm) ts
  exact (ZcP _ hp hp).mpr rfl
 simp[deepP,h1,h2,h4]
theorem note_add {t:Lt}(h:IsN t):addP (nmV t) (.tup [.int 0,.tup [],.int 0,.tup [.str "note"]])=some t.P:=by
 rw[h.1];rfl
abbrev fE:PSt->M SV:=mOp 4e8 2e1 (mTup (aCons 3e4 (aCons (mTup aNil) (aCons 3e4 (aCons 12e7 aNil)))))
abbrev f1:PSt->M PF:=mSet 3 (mVal (mComp (mItems 8e1) ["_law_name_here"] [] 6e5 tOk fE))
abbrev f2:PSt->M PF:=mIfS (mOrT (mTest (mOp (g2 isntBP) (mFn F_is_whole (aCons (mOp 4e8 4e4 7e7) aNil)) (mC 14e8))) (mTest (mOp 4e2 (mFn F_gaps (aCons (mOp 4e8 7e7 4e4) aNil)) 8e2))) (mRet (mC (.bl false))) mSkip
abbrev f3:PSt->M PF:=mIfS (mTest (mOp 14e4 8e1 8e2)) (mRet (mC 14e8)) mSkip
abbrev f4:PSt->M PF:=mSet 4 (mFn F_l_pick (aCons 2e1 (aCons (mCB 9e5 5e7) aNil)))
abbrev f5:PSt->M SV:=mOp 14e4 (mFn F_gaps (aCons (mOp 4e8 (mOp 4e8 4e4 (mSlice 7e7 oNo (oPart 18e3))) (mSlice 7e7 (oPart (mOp 4e8 18e3 1e9)) oNo)) aNil)) (mVal (mLst (aCons (mOp 3e6 8e1 18e3) aNil)))
theorem filled_is:B_l_filled=mSeq f1 (mSeq f2 (mSeq f3 (mSeq f4 (mRet f5)))):=rfl
theorem whole_eq {us:List Lt}{ts:List Lt}{C:Cs}(h:F_gaps [.v (.lst 8e0)] C=some (.v (.lst 7e4),C)):F_is_whole [.v (.lst 8e0)] C=some (.v (.bl (decide (ts=[]))),C):=by
 have e:=eqV_nil ts
 generalize us.map Lt.P=US at *
 generalize ts.map nmV=TS at *
 simp![F_is_whole,h,e]
theorem cut_take (xs:List PV)(i:Nat)(h:i<=xs.length):cutP xs none (some (i:Int))=xs.take i:=by
 unfold cutP;rw[HT.sIx_none,HT.sIx_nat,WY h];simp
theorem cut_drop (xs:List PV)(i:Nat)(h:i<=xs.length):cutP xs (some (i:Int)) none=xs.drop i:=by
 unfold cutP;rw[HT.sIx_none,HT.sIx_nat,WY h]
 exact Vr 4e6
theorem filled_adv {B:5e6}{vs ts:List Lt}(w:PU B vs)(hv:vs.length<=230)(g:Gap vs ts)(htl:ts.length<=63)(k:Nat)(C:Cs)(gs:GS C k):∃C',F_l_filled [.c k,.v (.lst (vs.map Lt.P)),.v (.lst 7e4)] C=some (.v 14e8,C')/\Adv k C C':=by
 have hc:=Zdr (P:=nmV) (g:=Lt.P) (tt:=tOk) (te:=fE) (fun _=>true) C ts [none] [] (fun l _=>rfl) (fun t ht=>by
  have e:=note_add (g.nt t ht)
  generalize nmV t=NT at *
  generalize t.P=TP at *
  simp![fE,e])
 rw[Xp,List.filter_eq_self.mpr (fun _ _=>rfl)] at hc
 have hl1:(ts.map nmV).length<=100000:=by simp;lia
 have s1:f1 [3e9,4e1,#[.lst 7e4],none,none] C=some (.nx 15e1,C):=by
  unfold f1
  sleep 7
  generalize ts.map nmV=TN at *
  generalize ts.map Lt.P=TS at *
  generalize fE=te at *
  simp![mComp,mItems,itemsP,hl1,stIn',hc]
 have all1:∀l∈vs++ts,l∈vs\/l∈ts:=fun l h=>Yw.mp h
 have all2:∀l∈ts++vs,l∈vs\/l∈ts:=fun l h=>(Yw.mp h).symm
 obtain ⟨t1,g1',_,hg1⟩:=Zdk (w.more g.nt all1 (fun l h=>YF _ h) 11e0)
 obtain ⟨t2,g2',_,hg2⟩:=Zdk (w.more g.nt all2 (fun l h=>Ye _ h) 11e0)
 have n1:=no_gap g all1 (fun l h=>YF _ h) (fun t h=>Ye _ h)
 have n2:=no_gap g all2 (fun l h=>Ye _ h) (fun t h=>YF _ h)
 have z1:t1=[]:=g1'.uniq (Gap.none n1) fun q=>.rfl
 have z2:t2=[]:=g2'.uniq (Gap.none n2) fun q=>.rfl
 subst z1
 subst z2
 have hw:=whole_eq (hg1 C).1
 have ha1:(vs.map Lt.P).length + (ts.map Lt.P).length<=1000000:=by simp;lia
 have ha2:(ts.map Lt.P).length + (vs.map Lt.P).length<=1000000:=by simp;lia
 have s2:f2 15e1 C=some (.nx 15e1,C):=by
  have e2:=(hg2 C).1
  rw[Y4] at hw e2
  simp only[Ww,decide_true] at hw e2
  have ne0:deepP (fun p q=>!eqD p q) (.lst []) (.lst [])=some (.bl false):=by simp[deepP,dat,dats,dep,deps,eqD,eqDs]
  sleep 7
  generalize ts.map nmV=TN at *
  generalize ts.map Lt.P=TS at *
  simp![f2,addP,ha1,ha2,hw,e2,isntBP,ne0]
 have hts:=eqV_nil ts
 have hfin:∀(r:PV) (C':Cs),Adv k C C'->fin C.length C' (.v r)=some (.v r,C'):=fun r C' a=>by
  unfold fin;rw[a.take]
 have key:∀C',(mSeq f1 (mSeq f2 (mSeq f3 (mSeq f4 (mRet f5))))) [3e9,4e1,#[.lst 7e4],none,none] C=some (.rt (.v 14e8),C')->Adv k C C'->F_l_filled [.c k,.v (.lst (vs.map Lt.P)),.v (.lst 7e4)] C=some (.v 14e8,C'):=fun C' h a=>by
  have hf:=hfin 14e8 C' a
  unfold F_l_filled
  rw[filled_is]
  generalize (mSeq f1 (mSeq f2 (mSeq f3 (mSeq f4 (mRet f5)))))=bd at *
  sleep 7
  generalize ts.map nmV=TN at *
  simp[mDef,h,hf]
 rw[Zam s1,Zam s2] at key
 by_cases hz:ts=[]
 ·subst hz
  refine ⟨C,key C ?_ (Adv.refl gs),Adv.refl gs⟩
  rw[decide_eq_true rfl] at hts
  simp only[Ww] at hts ⊢
  sleep 7
  simp![f3,hts]
 ·rw[decide_eq_false hz] at hts
  have hpos:0 < ts.length:=WC.mpr hz
  obtain ⟨i,C1,e1,i1,i2,a1⟩:=Zal k (ts.length:Int) C gs 1e2
  obtain ⟨j,rfl⟩:∃j:Nat,i=(j:Int):=⟨i.toNat,by lia⟩
  have hj:j < ts.length:=by lia
  obtain ⟨t,ht⟩:∃t,ts[j]? = some t:=⟨_,Yb hj⟩
  have htm:t∈ts:=YK ht
  refine ⟨C1,key C1 ?_ a1,a1⟩
  have s3:f3 15e1 C=some (.nx 15e1,C):=by
   sleep 7
   generalize ts.map nmV=TN at *
   generalize ts.map Lt.P=TS at *
   simp![f3,hts]
  have s4:f4 15e1 C=some (.nx [3e9,4e1,#[.lst 7e4],#[.lst (ts.map Lt.P)],#[(.int (j:Int))]],C1):=by
   have hln:lenH [.lst 7e4]=some (.int (ts.length:Int)):=by simp[lenH]
   sleep 7
   generalize ts.map nmV=TN at *
   generalize ts.map Lt.P=TS at *
   simp[f4,mSet,mFn,aCons,aNil,mVar,mCB,bnd,opM,Pu.ret,g1,derefs,deref,hln,e1]
  have hmem:∀l∈vs++ts.take j++ts.drop (j + 1),l∈vs\/l∈ts.take j++ts.drop (j + 1):=fun l h=>by
   rw[Yx] at h
   exact Yw.mp h
  have hsub:∀u∈ts.take j++ts.drop (j + 1),IsN u:=fun u hu=>by
   rcases Yw.mp hu with h | h
   ·exact g.nt u (XZ h)
   ·exact g.nt u (W3 h)
  obtain ⟨t3,g3,_,hg3⟩:=Zdk (w.more (us:=vs++ts.take j++ts.drop (j + 1)) hsub hmem (fun l h=>by simp[h]) 11e0)
  have o1:=one_gap g ht hmem (fun l h=>by simp[h]) (fun u h=>by rw[Yx];exact Ye _ h)
  have z3:t3=[t]:=g3.uniq (Gap.one (g.nt t htm) o1) fun q=>.rfl
  subst z3
  have s5:f5 [3e9,4e1,#[.lst 7e4],#[.lst (ts.map Lt.P)],#[(.int (j:Int))]] C1=some (.v 14e8,C1):=by
   have e3:=(hg3 C1).1
   have c1:=cut_take (ts.map Lt.P) j 11e0
   have c2:=cut_drop (ts.map Lt.P) (j + 1) 11e0
   rw[←List.map_take] at c1
   rw[←List.map_drop] at c2
   have c2:cutP (ts.map Lt.P) (some ((j:Int) + 1)) none=(ts.drop (j + 1)).map Lt.P:=c2
   have hx:ixQ (.lst 7e4) (.int (j:Int))=some (nmV t):=by
    have h1:¬((j:Int) < 0):=by lia
    have h2:(j:Int) < (ts.length:Int):=by lia
    simp[ixQ,ixP,atI,ixN,ht,h1,h2]
   have hq:deepP eqD (.lst [nmV t]) (.lst [nmV t])=some 14e8:=(eqV_self [t]).1
   rw[Y4,Y4] at e3
   have l1:(vs.map Lt.P).length + ((ts.take j).map Lt.P).length<=1000000:=by simp;lia
   have l2:(vs.map Lt.P).length + ((ts.take j).map Lt.P).length + ((ts.drop (j + 1)).map Lt.P).length<=1000000:=by simp;lia
   simp only[Yq,Ww] at e3
   sleep 7
   generalize ts.map nmV=TN at *
   generalize ts.map Lt.P=TS at *
   generalize (ts.take j).map Lt.P=T1 at *
   generalize (ts.drop (j + 1)).map Lt.P=T2 at *
   generalize nmV t=NT at *
   simp![f5,addP,c1,c2,l1,l2,hx]
   rw[←Yx,e3]
   simp[hq]
  rw[Zam s3,Zam s4]
  unfold mRet bnd
  rw[s5]
  rfl
theorem fa_asks {ls:List Lt}{l:Lt}(f:Fa ls l):∀q∈asks l,q∈ls.map Lt.nm:=fun q hq=>by
 unfold asks at hq
 have hg:∀g∈l.gs,g∈ls.map Lt.nm:=fun g h=>by
  obtain ⟨m,hm,e,_⟩:=f.gin g h
  exact YB.mpr ⟨m,hm,e⟩
 split at hq
 ·exact hg q hq
 ·rename_i h0
  rcases Ym.mp hq with rfl | hq
  ·rcases f.pv with h | ⟨m,hm,e⟩
   ·exact absurd h h0
   ·exact YB.mpr ⟨m,hm,e⟩
  ·exact hg q hq
theorem fa_fo {ls:List Lt}{l:Lt}(f:Fa ls l):l.fo∉l.gs:=fun h=>by
 obtain ⟨m,_,e,z⟩:=f.gin _ h
 have e:[Xs m.h,Xs m.d,WN m.n]=([Xs l.h,Xs l.d,WN l.pv]:List Key):=e
 simp only[Wu,Ui] at e
 unfold isOf at z
 rw[e.1,e.2.1] at z
 simp at z
theorem pu_of {ls us vs:List Lt}(hp:PiOk ls)(hu:∀u∈us,u∈ls)(hul:us.length<=200)(h:vs=us\/∃u∈us,∃gs,Zn u.d gs/\vs=us++stX u.d gs):∃B,PU B vs/\vs.length<=203:=by
 have hle:=hp.le
 have nml:∀m∈ls,NmL m.nm:=fun m hm=>⟨m.h,m.d,m.n,rfl,(hp.sh m hm).1,(hp.sh m hm).2⟩
 have gl:∀l∈us,∀g∈l.gs,NmL g:=fun l hl g hg=>by
  obtain ⟨m,hm,e,_⟩:=(hp.fa l (hu l hl)).gin g hg
  rw[←e];exact nml m hm
 rcases h with rfl | ⟨u,hum,gs,z,rfl⟩
 ·refine ⟨ls.map Lt.nm,⟨by simp;lia,by lia,fun l hl=>hp.sh l (hu l hl),fun l hl=>YQ (hp.fa l (hu l hl)).g7 1e2,fun l hl=>(hp.fa l (hu l hl)).gnd,fun l hl=>fa_fo (hp.fa l (hu l hl)),gl,fun q g=>?_⟩,by lia⟩
  obtain ⟨⟨l,hl,hq⟩,_⟩:=g
  exact fa_asks (hp.fa l (hu l hl)) q hq
 ·have hx:∀l∈us++stX u.d gs,l∈us\/l=⟨"stranger",u.d,6003,6004,gs,5,[.inr "join"]⟩\/l=⟨"stranger",u.d,6001,6002,[],3,[.inr "note"]⟩\/l=⟨"stranger",u.d,6002,6001,[],4,[.inr "note"]⟩:=fun l hl=>by
   rcases Yw.mp hl with h | h
   ·exact .inl h
   ·unfold stX at h
    simp only[Ym,Xd,or_false] at h
    exact .inr h
  have hud:=(hp.sh u (hu u hum)).2
  have hst:(("stranger":Str)).length<=1000:=by decide +kernel
  refine ⟨ls.map Lt.nm++(gs++[[.inr "stranger",.inr u.d,.inl 6004],[.inr "stranger",.inr u.d,.inl 6002],[.inr "stranger",.inr u.d,.inl 6001]]),⟨?_,?_,fun l hl=>?_,fun l hl=>?_,fun l hl=>?_,fun l hl=>?_,fun l hl=>?_,fun q g=>?_⟩,?_⟩
  ·simp[z.l9];lia
  ·simp[stX];lia
  ·rcases hx l hl with h | rfl | rfl | rfl
   ·exact hp.sh l (hu l h)
   ·exact ⟨hst,hud⟩
   ·exact ⟨hst,hud⟩
   ·exact ⟨hst,hud⟩
  ·rcases hx l hl with h | rfl | rfl | rfl
   ·exact YQ (hp.fa l (hu l h)).g7 1e2
   ·exact Nat.le_of_eq z.l9
   ·exact YV _
   ·exact YV _
  ·rcases hx l hl with h | rfl | rfl | rfl
   ·exact (hp.fa l (hu l h)).gnd
   ·exact z.nd
   ·exact W5
   ·exact W5
  ·rcases hx l hl with h | rfl | rfl | rfl
   ·exact fa_fo (hp.fa l (hu l h))
   ·intro hm
    obtain ⟨a,n,e,_,ne⟩:=z.sh _ hm
    have e:[Xs _,Xs _,WN _]=([Xs _,Xs _,WN _]:List Key):=e
    simp only[Wu,Ui] at e
    exact ne e.1.symm
   ·exact Xd
   ·exact Xd
  ·rcases hx l hl with h | rfl | rfl | rfl
   ·exact gl l h
   ·intro g hg
    obtain ⟨a,n,e,h1,_⟩:=z.sh g hg
    exact ⟨a,u.d,n,e,h1,hud⟩
   ·exact fun g hg=>(nomatch hg)
   ·exact fun g hg=>(nomatch hg)
  ·obtain ⟨⟨l,hl,hq⟩,_⟩:=g
   rcases hx l hl with h | rfl | rfl | rfl
   ·exact YF _ (fa_asks (hp.fa l (hu l h)) q hq)
   ·have hq:q∈([Xs "stranger",Xs u.d,WN 6004]:List Key)::gs:=hq
    rcases Ym.mp hq with rfl | hq
    ·simp
    ·simp[hq]
   ·have hq:q∈[([Xs "stranger",Xs u.d,WN 6002]:List Key)]:=hq
    rw[Yk.mp hq];simp
   ·have hq:q∈[([Xs "stranger",Xs u.d,WN 6001]:List Key)]:=hq
    rw[Yk.mp hq];simp
  ·simp[stX];lia
theorem neL_self (R:List Lt):deepP (fun p q=>!eqD p q) (.lst (R.map Lt.P)) (.lst (R.map Lt.P))=some (.bl false):=by
 have hds:dat (.lst (R.map Lt.P))=true:=by unfold dat;exact ZaY dat_P _
 have hdp:dep (.lst (R.map Lt.P))<=60:=by unfold dep;have:=ZaX dep_P R;lia
 have he:eqD (.lst (R.map Lt.P)) (.lst (R.map Lt.P))=true:=by
  show eqDs _ _=true
  exact (ZcP _ (Za4 pur_P R) (Za4 pur_P R)).mpr rfl
 simp[deepP,hds,hdp,he]
abbrev b1:PSt->M PF:=mNew 4 (mFnF FF_l_left (aCons 2e1 (aCons (mOp 4e8 (mC (.int 51)) 7e7) aNil)))
abbrev b2:PSt->M PF:=mSet 5 (mFn F_l_more (aCons 18e3 (aCons (mFn F_l_left_out (aCons 18e3 5e7)) aNil)))
abbrev b3:PSt->M PF:=mSet 6 (mVal (mList 7e3))
abbrev b4:PSt->M PF:=mSet 7 (mFn F_l_due 7e3)
abbrev b5:PSt->M PF:=mNew 8 (mFnF FF_gaps 7e3)
abbrev b6:PSt->M PF:=mIfS (mOrT (mNotT (mTru (mCB (g1 isiH) (aCons 19e5 (aCons (mC (.ty "list")) aNil))))) (mTest (mOp 4e2 19e5 (mVar 7)))) (mRet (mC (.bl false))) mSkip
abbrev b7:PSt->M PF:=mDrop (mApp 19e5 (aCons (mTup (aCons (mC (.str "a")) (aCons (mC (.str "a")) (aCons 1e9 aNil)))) aNil))
abbrev b8:PSt->M PF:=mIfS (mOrT (mTest (mOp 4e2 (mFn F_gaps 7e3) (mVar 7))) (mOrT (mTest (mOp 4e2 (mVar 5) 17e5)) (mNotT (mTru (mFn F_l_filled (aCons 18e3 (aCons (mVar 5) 12e9))))))) (mRet (mC (.bl false))) mSkip
abbrev bb:PSt->M PF:=mSeq b1 (mSeq b2 (mSeq b3 (mSeq b4 (mSeq b5 (mSeq b6 (mSeq b7 b8))))))
theorem bb_ok (ns:List Int)(T:8e6){ls:List Lt}(hp:PiOk ls)(i:Int)(hi:0<=i/\i<=900)(x4 x5 x6 x7 x8:8e6)(D:Cs):
  ∃(y4 y5 y6 y7 y8:8e6) (X:Cs),bb [1e5,T,2e4,#[.int i],x4,x5,x6,x7,x8] D=some (.nx [1e5,T,2e4,#[.int i],y4,y5,y6,y7,y8],D++X):=by
 obtain ⟨x,y,el,hy⟩:=Zcx ns (51 + i) D 1e2 1e2
 have g0:=ZdN D x y hy
 have hle:=hp.le
 obtain ⟨us,C1,e1,hul,hum,a1⟩:=left_out_adv D.length ls 1e2 _ g0
 obtain ⟨vs,C2,e2,a2,hvs⟩:=more_adv D.length us hul C1 a1.gs
 obtain ⟨B,w,hvl⟩:=pu_of hp hum hul hvs
 obtain ⟨ts,gt,edue⟩:=due_eq w C2
 obtain ⟨ts',gt',htl,eg⟩:=Zdk w
 have hts:ts'=ts:=gt'.uniq gt fun q=>.rfl
 subst hts
 have a12:=a1.trans a2
 have hl2:C2.length=D.length + 1:=by rw[a12.len];simp
 have g3:GS (C2++18e8) D.length:=a12.gs.app _
 obtain ⟨C3,e3,a3⟩:=filled_adv w 1e2 gt htl D.length _ g3
 obtain ⟨eqs,nes⟩:=eqV_self ts'
 have hne:=neL_self vs
 have s1:b1 [1e5,T,2e4,#[.int i],x4,x5,x6,x7,x8] D=some (.nx [1e5,T,2e4,#[.int i],3e8,x5,x6,x7,x8],D++10e9):=by
  have ha:addP (.int 51) (.int i)=some (.int (51 + i)):=rfl
  sleep 1
  simp![b1,mNew,ha,el]
 have s2:b2 [1e5,T,2e4,#[.int i],3e8,x5,x6,x7,x8] (D++10e9)=some (.nx [1e5,T,2e4,#[.int i],3e8,4e1,x6,x7,x8],C2):=by
  sleep 1
  generalize us.map Lt.P=US at *
  sleep 7
  simp![b2,e1,e2]
 have s3:b3 [1e5,T,2e4,#[.int i],3e8,4e1,x6,x7,x8] C2=some (.nx [1e5,T,2e4,#[.int i],3e8,4e1,4e1,x7,x8],C2):=by
  sleep 1
  sleep 7
  simp![b3]
 have s4:b4 [1e5,T,2e4,#[.int i],3e8,4e1,4e1,x7,x8] C2=some (.nx [1e5,T,2e4,#[.int i],3e8,4e1,4e1,#[.lst (ts'.map nmV)],x8],C2):=by
  sleep 1
  sleep 7
  generalize ts'.map nmV=TS at *
  simp![b4,edue]
 have s5:b5 [1e5,T,2e4,#[.int i],3e8,4e1,4e1,#[.lst (ts'.map nmV)],x8] C2=some (.nx 8e9,C2++[.lst (ts'.map nmV)]):=by
  have:=(eg C2).2
  sleep 1
  sleep 7
  generalize ts'.map nmV=TS at *
  simp![b5,mNew,this]
 have s6:b6 8e9 (C2++[.lst (ts'.map nmV)])=some (.nx 8e9,C2++[.lst (ts'.map nmV)]):=by
  sleep 1
  sleep 7
  generalize ts'.map nmV=TS at *
  simp![b6,nes]
 have s7:b7 8e9 (C2++[.lst (ts'.map nmV)])=some (.nx 8e9,C2++18e8):=by
  have hll:(ts'.map nmV).length < 100000:=by simp;lia
  sleep 1
  sleep 7
  generalize ts'.map nmV=TS at *
  simp![b7,mApp,isLst,appC,hll]
 have s8:b8 8e9 (C2++18e8)=some (.nx 8e9,C3):=by
  have:=(eg (C2++18e8)).1
  generalize (C2++18e8)=CC at *
  sleep 1
  sleep 7
  generalize ts'.map nmV=TS at *
  simp![b8,this,nes,hne,e3]
 have hC3:C3=D++C3.drop D.length:=by
  have h1:D.length<=C3.length:=by rw[a3.len];simp;lia
  have h2:C3.take D.length=D:=by
   apply Xe
   intro j
   rcases YC j D.length with z | z
   ·rw[Xb z,a3.oth j (Yr z),Yf 1e2,a12.oth j (Yr z),Yf z]
   ·rw[Yg.mpr z,Yg.mpr (by rw[Xl];lia)]
  have:=List.take_append_drop D.length C3
  rw[h2] at this
  exact this.symm
 refine ⟨3e8,4e1,4e1,#[.lst (ts'.map nmV)],6e0,C3.drop D.length,?_⟩
 unfold bb
 rw[←hC3,Zam s1,Zam s2,Zam s3,Zam s4,Zam s5,Zam s6,Zam s7]
 exact s8
abbrev l1:PSt->M PF:=mIfS (mTest (mOp 4e2 (mFn F_gaps (aCons 8e2 aNil)) 8e2)) (mRet (mC (.bl false))) mSkip
abbrev l2:PSt->M PF:=mSet 1 (mFn F_l_town (aCons 2e1 aNil))
abbrev l3:PSt->M PF:=mSet 2 (mFn F_l_pile (aCons 2e1 (aCons 4e4 (aCons (mFnN F_l_pick (mFnF FF_l_left (aCons 2e1 (aCons (mC (.int 50)) aNil))) (aCons (mC (.int 33)) aNil)) aNil))))
abbrev lR:PSt->M 14e9:=mRange2 (aCons 1e9 (aCons (mOp 4e8 2e9 (mCB 9e5 (aCons (mSlice 2e1 (oPart 1e9) (oPart (mC (.int 10)))) aNil))) aNil))
theorem law_is:B_law=mSeq l1 (mSeq l2 (mSeq l3 (mSeq (mFor lR (hName 3) bb) (mRet (mC 14e8))))):=rfl
theorem law_run (ns:List Int)(hn:ns.length<=63)(C:Cs):F_law [.v 15e6] C=some (.v 14e8,C):=by
 obtain ⟨sp,nms,ds,et,ht⟩:=town_eq ns C
 have et':F_l_town [.v 15e6] C=some (.v (townP sp nms ds),C):=et
 obtain ⟨x,y,el,hy⟩:=Zcx ns 50 C 1e2 1e2
 have g0:=ZdN C x y hy
 obtain ⟨p,C1,e1,p1,p2,a1⟩:=Zal C.length 33 _ g0 1e6
 obtain ⟨ls,ep,hp⟩:=pile_eq ns sp ht p 1e2 C
 have hC1:C1.take C.length=C:=by
  apply Xe
  intro j
  rcases YC j C.length with z | z
  ·rw[Xb z,a1.oth j (Yr z),Yf z]
  ·rw[Yg.mpr z,Yg.mpr (by rw[Xl];lia)]
 obtain ⟨t0,g1',_,hg⟩:=Zdk (B:=[]) (us:=[]) ⟨by simp,by simp,fun l h=>(nomatch h),fun l h=>(nomatch h),fun l h=>(nomatch h),fun l h=>(nomatch h),fun l h=>(nomatch h),fun q g=>by obtain ⟨⟨l,h,_⟩,_⟩:=g;cases h⟩
 have z0:t0=[]:=g1'.uniq (Gap.none (us:=[]) fun q g=>by obtain ⟨⟨l,h,_⟩,_⟩:=g;cases h) fun q=>.rfl
 subst z0
 have s1:l1 [1e5,none,none,none,none,none,none,none,none] C=some (.nx [1e5,none,none,none,none,none,none,none,none],C):=by
  have e:=(hg C).1
  simp only[Ww] at e
  have ne0:deepP (fun p q=>!eqD p q) (.lst []) (.lst [])=some (.bl false):=by simp[deepP,dat,dats,dep,deps,eqD,eqDs]
  simp![l1,e,ne0]
 have s2:l2 [1e5,none,none,none,none,none,none,none,none] C=some (.nx [1e5,4e0,none,none,none,none,none,none,none],C):=by
  generalize townP sp nms ds=TP at *
  simp![l2,et']
 have s3:l3 [1e5,4e0,none,none,none,none,none,none,none] C=some (.nx [1e5,4e0,2e4,none,none,none,none,none,none],C):=by
  generalize townP sp nms ds=TP at *
  sleep 1
  simp![l3,mFnN,el,e1,hC1,ep]
 obtain ⟨n,hn1,hn2⟩:∃n:Nat,lR [#[.lst (ns.map .int)],#[townP sp nms ds],#[.lst (ls.map Lt.P)],none,none,none,none,none,none] C=some ((Yi n).map fun (q:Nat)=>PV.int (1 + q),C)/\n<=100:=by
  have hcl:=cut_len (ns.map PV.int) (some 1) (some 10)
  have hcl2:(cutP (ns.map PV.int) (some 1) (some 10)).length<=63:=by simp at hcl;lia
  generalize hm:(cutP (ns.map PV.int) (some 1) (some 10)).length=m at hcl2
  have hlen:lenH [.lst (cutP (ns.map PV.int) (some 1) (some 10))]=some (.int (m:Int)):=by simp[lenH,hm]
  have hr:rng2P [.v (.int 1),.v (.int (2 + (m:Int)))]=some ((Yi (m + 1)).map fun (q:Nat)=>PV.int (1 + q)):=by
   unfold rng2P
   dsimp only
   rw[if_pos 1e2]
   congr 2
   congr 1
   lia
  refine ⟨m + 1,?_,by lia⟩
  generalize townP sp nms ds=TP at *
  sleep 1
  generalize ns.map PV.int=NS at *
  simp[lR,mRange2,aCons,aNil,mC,mOp,mCB,mSlice,oPart,mVar,bnd,opM,Pu.ret,Pu.intD,g1,g2,derefs,deref,sliceD,sliceP,addP,hlen,hr]
 have hr:∀q:Nat,q < n->(0:Int)<=1 + (q:Int)/\1 + (q:Int)<=900:=fun q h=>by lia
 obtain ⟨ρ',D,e5,hpi⟩:=ZbB (g:=hName 3) (f:=bb) (fun i ρ D=>∃(x3 x4 x5 x6 x7 x8:8e6) (X:Cs),ρ=[1e5,4e0,2e4,x3,x4,x5,x6,x7,x8]/\D=C++X) 100
  ((Yi n).map fun (q:Nat)=>PV.int (1 + q)) 0 11e0 (fun z hz i ρ D hi hh=>by
   obtain ⟨q,hq,rfl⟩:=YB.mp hz
   have hq:=Y3.mp hq
   obtain ⟨x3,x4,x5,x6,x7,x8,X,rfl,rfl⟩:=hh
   obtain ⟨y4,y5,y6,y7,y8,Y,e⟩:=bb_ok ns #[townP sp nms ds] hp (1 + (q:Int)) (hr q hq) x4 x5 x6 x7 x8 (C++X)
   exact ⟨_,_,_,rfl,e,_,y4,y5,y6,y7,y8,X++Y,rfl,by rw[Yx]⟩) [#[.lst (ns.map .int)],#[townP sp nms ds],#[.lst (ls.map Lt.P)],none,none,none,none,none,none] C ⟨none,none,none,none,none,none,[],rfl,by simp⟩
 obtain ⟨y3,y4,y5,y6,y7,y8,X,rfl,rfl⟩:=hpi
 have s4:mFor lR (hName 3) bb [1e5,4e0,2e4,none,none,none,none,none,none] C=some (.nx [1e5,4e0,2e4,y3,y4,y5,y6,y7,y8],C++X):=by
  unfold mFor bnd
  rw[hn1];exact e5
 have run:B_law [1e5,none,none,none,none,none,none,none,none] C=some (.rt (.v 14e8),C++X):=by
  rw[law_is,Zam s1,Zam s2,Zam s3,Zam s4];rfl
 have hf:fin C.length (C++X) (.v 14e8)=some (.v 14e8,C):=by
  unfold fin;rw[List.take_left]
 unfold F_law
 generalize B_law=bl at *
 generalize ns.map PV.int=NS at *
 simp[mDef,run,hf]
theorem law_pure (_:True)(ns:List Int)(hn:ns.length<=63):F_law [.v 15e6] []=some (.v 14e8,[]):=law_run ns hn []
def qv:Program:=W.view PySem.Challenge.pw_holdword_k17_gaps [1,3,4,5,6,7,9,10,11,12,13,14,15,16,17,18,19,20,21,22,23,24,25,26]
def fnames:List Str:=List.map WQ ["name_of","by_name","followed","asked_by","gaps","is_whole","_law_cell_at","_law_left","_law_pick","_law_words","_law_event","_law_clauses","_law_town","_law_deed","_law_name","_law_last","_law_gots","_law_letter","_law_pile","_law_left_out","_law_more","_law_due","_law_filled","law"]
def sts:List (Str×Stmt):=fnames.zip (List.map top [1,3,4,5,6,7,9,10,11,12,13,14,15,16,17,18,19,20,21,22,23,24,25,26])
theorem sts_ok:(recsOf qv).map Hd.four=sts.map Hd.fourS:=by kernel_rfl
def hk:W.Hook:=W.Hook.none
theorem hl:W.LeftO PySem.Challenge.pw_holdword_k17_gaps qv [] (fun s=>W.xlAt qv [] s&&W.recOk [] s) hk.obs hk.val 1594:=
 W.LeftO.of_split "special-get-raises" (fun w=>by kernel_rfl)
theorem all_mk {P:YD}{w:World}{K:W.Frag}{mg:3e3}{fa:Addr}(hfa:mg "law"=some (.ref fa))(T:Txt mg)
  (e_name_of:Hd.FnAt K mg "name_of" ZcZ)
  (e_by_name:Hd.FnAt K mg "by_name" Zc2)
  (e_followed:Hd.FnAt K mg "followed" Zcs)
  (e_asked_by:Hd.FnAt K mg "asked_by" Zct)
  (e_gaps:Hd.FnAt K mg "gaps" s_gaps)
  (e_is_whole:Hd.FnAt K mg "is_whole" Zcr)
  (e__law_cell_at:Hd.FnAt K mg "_law_cell_at" ZbY)
  (e__law_left:Hd.FnAt K mg "_law_left" ZcJ)
  (e__law_pick:Hd.FnAt K mg "_law_pick" s_l_pick)
  (e__law_words:Hd.FnAt K mg "_law_words" Zc0)
  (e__law_event:Hd.FnAt K mg "_law_event" Zc1)
  (e__law_clauses:Hd.FnAt K mg "_law_clauses" ZbX)
  (e__law_town:Hd.FnAt K mg "_law_town" s_l_town)
  (e__law_deed:Hd.FnAt K mg "_law_deed" s_l_deed)
  (e__law_name:Hd.FnAt K mg "_law_name" s_l_name)
  (e__law_last:Hd.FnAt K mg "_law_last" s_l_last)
  (e__law_gots:Hd.FnAt K mg "_law_gots" s_l_gots)
  (e__law_letter:Hd.FnAt K mg "_law_letter" Zcp)
  (e__law_pile:Hd.FnAt K mg "_law_pile" s_l_pile)
  (e__law_left_out:Hd.FnAt K mg "_law_left_out" ZbH)
  (e__law_more:Hd.FnAt K mg "_law_more" s_l_more)
  (e__law_due:Hd.FnAt K mg "_law_due" s_l_due)
  (e__law_filled:Hd.FnAt K mg "_law_filled" Zcq)
  (e_law:Hd.FnAt K mg "law" s_law)
  :∃fd:X2,(∀(s:Shared) (v:Value),BindsTo s fd ⟨[v],[]⟩ [("_law_script",v)])/\∀base:Heap,FnOk P w K mg base CX0 6 fa fd ["_law_script"] (Hd.spLaw K):=by
 obtain ⟨f_law,fd_law,m_law,N_law⟩:=e_law
 have e:=hfa.symm.trans m_law;cases e
 have hb:∀(s:Shared) (v:Value),BindsTo s fd_law ⟨[v],[]⟩ [("_law_script",v)]:=by
  obtain ⟨oc,od,kV,doc,pm,an,cdv,ct,osl,rfl,lk,hcd⟩:=N_law.ex
  exact fun s v=>.of_eq rfl
 refine ⟨fd_law,hb,fun base=>?_⟩
 have E_name_of:=ok_name_of (P:=P) (w:=w) (base:=base) e_name_of T
 have E_by_name:=ok_by_name (P:=P) (w:=w) (base:=base) e_by_name T E_name_of
 have E_followed:=ok_followed (P:=P) (w:=w) (base:=base) e_followed T
 have E_asked_by:=ok_asked_by (P:=P) (w:=w) (base:=base) e_asked_by T E_followed
 have E_gaps:=ok_gaps (P:=P) (w:=w) (base:=base) e_gaps T E_by_name E_asked_by
 have EF_gaps:=okF_gaps (P:=P) (w:=w) (base:=base) e_gaps T E_by_name E_asked_by
 have E_is_whole:=ok_is_whole (P:=P) (w:=w) (base:=base) e_is_whole T E_gaps
 have E__law_cell_at:=ok_l_cell_at (P:=P) (w:=w) (base:=base) e__law_cell_at T
 have E__law_left:=ok_l_left (P:=P) (w:=w) (base:=base) e__law_left T E__law_cell_at
 have EF__law_left:=okF_l_left (P:=P) (w:=w) (base:=base) e__law_left T E__law_cell_at
 have E__law_pick:=ok_l_pick (P:=P) (w:=w) (base:=base) e__law_pick T
 have E__law_words:=ok_l_words (P:=P) (w:=w) (base:=base) e__law_words T E__law_pick
 have E__law_event:=ok_l_event (P:=P) (w:=w) (base:=base) e__law_event T E__law_pick
 have E__law_clauses:=ok_l_clauses (P:=P) (w:=w) (base:=base) e__law_clauses T E__law_pick E__law_event
 have E__law_town:=ok_l_town (P:=P) (w:=w) (base:=base) e__law_town T EF__law_left E__law_words E__law_pick E__law_clauses
 have E__law_deed:=ok_l_deed (P:=P) (w:=w) (base:=base) e__law_deed T E__law_pick
 have E__law_name:=ok_l_name (P:=P) (w:=w) (base:=base) e__law_name T
 have E__law_last:=ok_l_last (P:=P) (w:=w) (base:=base) e__law_last T
 have E__law_gots:=ok_l_gots (P:=P) (w:=w) (base:=base) e__law_gots T E__law_pick E__law_name
 have E__law_letter:=ok_l_letter (P:=P) (w:=w) (base:=base) e__law_letter T E__law_pick E__law_last E__law_deed E__law_gots
 have E__law_pile:=ok_l_pile (P:=P) (w:=w) (base:=base) e__law_pile T EF__law_left E__law_pick E__law_letter
 have E__law_left_out:=ok_l_left_out (P:=P) (w:=w) (base:=base) e__law_left_out T E__law_pick
 have E__law_more:=ok_l_more (P:=P) (w:=w) (base:=base) e__law_more T E__law_pick
 have E__law_due:=ok_l_due (P:=P) (w:=w) (base:=base) e__law_due T
 have E__law_filled:=ok_l_filled (P:=P) (w:=w) (base:=base) e__law_filled T E_is_whole E_gaps E__law_pick
 have E_law:=ok_law (P:=P) (w:=w) (base:=base) N_law T E_gaps E__law_town E__law_left E__law_pick EF__law_left E__law_pile E__law_left_out E__law_more E__law_due EF_gaps E__law_filled
 exact E_law.imp (Hd.spLaw_lift fun ns hl=>law_pure trivial ns hl)
def bl:List Str:=["enumerate","int","isinstance","len","list","max","min","range","sorted","tuple"]
theorem hbl:bl.all (fun x=>!Hd.isHere qv (W.looseW qv []) x)=true:=by kernel_rfl
theorem said:PySem.Challenge.rw_holdword_k17_gaps.wellSaid=true:=by kernel_rfl
end K17
open PySem PySem.W PyProof.Rows
set_option maxRecDepth 100000 in
set_option maxHeartbeats 0 in
theorem PySem.Challenge.cw_holdword_k17_gaps_holds : PySem.Challenge.rw_holdword_k17_gaps.Holds := by
 refine holds_law K17.said fun said=>?_
 refine holds_open (q:=K17.qv) (loose:=[]) (Xt:=fun s=>xlAt K17.qv [] s&&recOk [] s) (XP:=XL K17.qv []) (YP:=K17.hk.says) K17.hl (Hook.of K17.hk) (Hook.keeps K17.hk) (fun s e=>xl_of s (Bool.and_eq_true_iff.mp e).1) XL.keeps (d:=⟨"law",L2.defArgs K17.s_law,L2.defBody K17.s_law,L2.defScope K17.s_law,Hd.defPos K17.s_law⟩) (kwd:=[]) (by kernel_rfl) (by kernel_rfl) (by kernel_rfl) (fun s e=>recFacts_of (Bool.and_eq_true_iff.mp e).2) 1e0 said (by kernel_rfl) ⟨rfl,rfl,rfl,rfl,rfl,by decide +kernel⟩ ⟨[.list []],by decide +kernel,by decide +kernel⟩ ?_
 refine Hd.walk (k:=6) rfl rfl ⟨rfl,by decide,by decide⟩ [] fun w s₀ mg mb h as G Y h0 A fa hmg=>?_
 refine K17.all_mk hmg ⟨Hd.nones G.T K17.hbl 0 rfl,Hd.nones G.T K17.hbl 1 rfl,Hd.nones G.T K17.hbl 2 rfl,Hd.nones G.T K17.hbl 3 rfl,Hd.nones G.T K17.hbl 4 rfl,Hd.nones G.T K17.hbl 5 rfl,Hd.nones G.T K17.hbl 6 rfl,Hd.nones G.T K17.hbl 7 rfl,Hd.nones G.T K17.hbl 8 rfl,Hd.nones G.T K17.hbl 9 rfl⟩ (Hd.fn_at A K17.sts_ok 0 rfl) (Hd.fn_at A K17.sts_ok 1 rfl) (Hd.fn_at A K17.sts_ok 2 rfl) (Hd.fn_at A K17.sts_ok 3 rfl) (Hd.fn_at A K17.sts_ok 4 rfl) (Hd.fn_at A K17.sts_ok 5 rfl) (Hd.fn_at A K17.sts_ok 6 rfl) (Hd.fn_at A K17.sts_ok 7 rfl) (Hd.fn_at A K17.sts_ok 8 rfl) (Hd.fn_at A K17.sts_ok 9 rfl) (Hd.fn_at A K17.sts_ok 10 rfl) (Hd.fn_at A K17.sts_ok 11 rfl) (Hd.fn_at A K17.sts_ok 12 rfl) (Hd.fn_at A K17.sts_ok 13 rfl) (Hd.fn_at A K17.sts_ok 14 rfl) (Hd.fn_at A K17.sts_ok 15 rfl) (Hd.fn_at A K17.sts_ok 16 rfl) (Hd.fn_at A K17.sts_ok 17 rfl) (Hd.fn_at A K17.sts_ok 18 rfl) (Hd.fn_at A K17.sts_ok 19 rfl) (Hd.fn_at A K17.sts_ok 20 rfl) (Hd.fn_at A K17.sts_ok 21 rfl) (Hd.fn_at A K17.sts_ok 22 rfl) (Hd.fn_at A K17.sts_ok 23 rfl)