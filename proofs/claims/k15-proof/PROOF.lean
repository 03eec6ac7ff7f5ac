import PyProof.Rows.All
import Wide.All
import OpenK.AllK
import Wide.FinOn
import Lean
import PyProof.EqAt
import PyProof.EqKinds
import PyProof.TupleCall
import PyProof.DictCompW
import PySem.SetOps
import PyProof.SetScanFacts
import PyProof.SetKind
import PyProof.TupleKey
import PyProof.DictRoadsH
import PyProof.IsRules
import PyProof.Rows.SetFrom
import PyProof.WalksMore
import PyProof.NeKinds
import KE.KSortTup
import KE.KDictOf
import PyProof.DictFindH
import PyProof.AttrMissSeq
import KE.KDictList
import PyProof.CollectWalk
import PyProof.StrBlock2
import PyProof.SeqI3
import PyProof.EnumMake
import PyProof.WalksEnum
import PyProof.DictValues
import PyProof.DictWalks
import KE.KRevSl
import PyProof.ListMulAny
import PyProof.Rows.ListMul
import PyProof.Draws
import PyProof.Rows.IntBool
import KE.KRevIter
import PyProof.Rows.FStr
import PyProof.Rows.StrNews
import PyProof.Rows.StrSplitAre
import PyProof.CallStr
import KE.KIntText
import PyProof.AutoListH
import KE.KPairComp
import PyProof.ReprRoads
import PySem.Challenge.RW_holdword_k15_piles
noncomputable section
set_option hygiene false
local macro_rules
|`(tactic|ext $x:ident)=>`(tactic|unfold $x)
|`(tactic|ext $x:ident $h:ident)=>`(tactic|unfold $x at $h:ident)
local macro_rules
|`(tactic|show $t)=>`(tactic|refine $t)
local macro_rules
|`(1e0)=>`((by rfl))
|`(1e1)=>`(⟨rfl,rfl,rfl,by decide +kernel,rfl,by decide +kernel,by decide +kernel⟩)
|`(1e2)=>`((by decide))
|`(1e3)=>`((cC bI 3e0 1e0 bb bF bH (@ao _ _ _ _ _ (aq 0) 2e6 1e0)))
|`(1e4)=>`((by lia))
|`(1e5)=>`(#[.lst 11e9])
|`(1e6)=>`(Value->Shared->Prop)
|`(1e7)=>`((au 0))
|`(1e8)=>`((mC (.int 1)))
|`(1e9)=>`(Yo 7e6 X.env=(false,eval e X.env)::Yo es X.env)
|`(2e0)=>`((iJ X (vs++fs) scope C s₀ H₀ ex pn))
|`(2e1)=>`((Or.inl rfl))
|`(2e2)=>`(List (Addr×Obj))
|`(2e3)=>`((mC (.int 0)))
|`(2e4)=>`(Inv X pins σ H s)
|`(2e5)=>`(Str->Option Value)
|`(2e6)=>`((@ao _ _ _ _ _ aY aU 1e0))
|`(2e7)=>`([4e8,#[d.P],#[.tup (d.hs.map .str)],#[.tup (d.ow.map .str)],#[.int d.cl],#[.tup (d.cs.map Cl.P)],#[.int w],13e5,#[.int cl.a],#[.int cl.b],#[.int cl.p],#[.int cl.w],#[.tup (cl.cs.map tupK)],#[lQ cl.lv],none])
|`(2e8)=>`(aG->M (List SV))
|`(2e9)=>`((mC (.int 2)))
|`(3e0)=>`((hr.mono 1e2))
|`(3e1)=>`((by show⟨rfl,rfl,rfl,rfl,rfl,rfl,rfl⟩))
|`(3e2)=>`(["_law_left_here","_law_many"])
|`(3e3)=>`(#[cy sp bN ds])
|`(3e4)=>`((backTo pos (Yo es X.env)).any (·.1)=false)
local macro_rules
|`(3e5)=>`((fC (iy (@ao _ _ _ _ _ aY (@ao _ _ _ _ _ aY (@ao _ _ _ _ _ aY (@ao _ _ _ _ _ aY (@ao _ _ _ _ _ aY (@ao _ _ _ _ _ aY (@ao _ _ _ _ _ aY 2e6 1e0) 1e0) 1e0) 1e0) 1e0) 1e0) 1e0))))
|`(3e6)=>`((model X.prog X.w))
|`(3e7)=>`((g2 bO))
|`(3e8)=>`(List Addr)
|`(3e9)=>`((by decide +kernel))
|`(4e0)=>`((au 1))
|`(4e1)=>`(List Value)
|`(4e2)=>`(#[.lst (ws.map .str)])
|`(4e3)=>`((x==("__debug__":Str))=false)
|`(4e4)=>`((by simp))
|`(4e5)=>`(aG->M SV)
|`(4e6)=>`((.int (sh.length:Int)))
|`(4e7)=>`((ls.map Lt.P))
|`(4e8)=>`(some (.c k))
|`(4e9)=>`((ab (mC (.int 8)) ae))
|`(5e0)=>`((model prog w))
|`(5e1)=>`(A.units<cLine)
|`(5e2)=>`((g2 (cf λp q=>!aI p q)))
|`(5e3)=>`(PV->aG->Option aG)
|`(5e4)=>`((g2 b9))
|`(5e5)=>`(["_law_letter_here"])
|`(5e6)=>`(aN P w K mg base bY 1 eO dv 3e2 (ar K aB))
|`(5e7)=>`((ab 9e0 ae))
|`(5e8)=>`(some (.c D.length))
|`(5e9)=>`((cC bI 3e0 1e0 bb bF bH (@ao _ _ _ _ _ (aq 1) 2e6 1e0)))
local macro_rules
|`(6e0)=>`((@ao _ _ _ _ _ (aq 0) aU 1e0))
|`(6e1)=>`(List Expr)
|`(6e2)=>`(List Str)
|`(6e3)=>`((dB 8e9 (aq 0) aY))
|`(6e4)=>`((hName 0))
|`(6e5)=>`(⟨_,rfl⟩)
|`(6e6)=>`((us.map Lt.P))
|`(6e7)=>`(["_law_script","_law_k"])
|`(6e8)=>`((LQ _))
|`(6e9)=>`(some (.c a))
|`(7e0)=>`(some (.c C.length))
|`(7e1)=>`((ab 1e7 ae))
|`(7e2)=>`(X.fn x=true\/X.env.scope.names.lookup x=some .local)
|`(7e3)=>`(aG->M Bool)
|`(7e4)=>`((mC (.int 3)))
|`(7e5)=>`((g1 cH))
|`(7e6)=>`((e::es))
|`(7e7)=>`((List PV))
|`(7e8)=>`(some (.c C2.length))
|`(7e9)=>`((.tup ps))
|`(8e0)=>`((@ao _ _ _ _ _ (aq 2) aU 1e0))
|`(8e1)=>`((.bl false))
|`(8e2)=>`((ab 16e1 ae))
|`(8e3)=>`(X.A.units+64<cLine)
|`(8e4)=>`(mg "_law_pick"=some (.ref eO))
local macro_rules
|`(8e5)=>`((.lst ps))
|`(8e6)=>`((ab (mC (.int 9)) ae))
|`(8e7)=>`((k'==Xm&&env.scope.kind==.function&&env.kindOf n==some .cell))
|`(8e8)=>`((p.getD (n-1) 0))
|`(8e9)=>`((Zaz hr))
|`(9e0)=>`((au 2))
|`(9e1)=>`((aT aB (ab 4e0 4e9)))
|`(9e2)=>`(Option SV)
|`(9e3)=>`((eR aS bc bh bj ba bo))
|`(9e4)=>`((@cA _ _ _ (@eD _ _ _ _ E9)))
|`(9e5)=>`((0+(q:Int)))
|`(9e6)=>`((au 3))
|`(9e7)=>`((ι++ι2))
|`(9e8)=>`(["thing"])
|`(9e9)=>`([.lst [.int x,.int y]])
|`(10e0)=>`((aC (ak (g2 (oN true)) (au 12) 18e5)))
|`(10e1)=>`(["_law_left_here","_law_pile_here"])
|`(10e2)=>`(#[.lst (so.map Lt.P)])
|`(10e3)=>`(#[.lst (sn.map .str)])
|`(10e4)=>`((λ_ _ _ _ _=>ZaX))
|`(10e5)=>`((aT aB (ab 1e7 (ab 2e9 ae))))
|`(10e6)=>`((aJ (aZ ae)))
|`(10e7)=>`(Vbg f1 f2 f3 f4 f5)
|`(10e8)=>`(List (List Key))
|`(10e9)=>`((bf (ab (mC (.str "note")) ae)))
local macro_rules
|`(11e0)=>`(#[.lst 4e7])
|`(11e1)=>`(X.calm=true)
|`(11e2)=>`((@ao _ _ _ _ _ (aq 4) aU 1e0))
|`(11e3)=>`((@ao _ _ _ _ _ iG aU 1e0))
|`(11e4)=>`((.ref s.heap.objs.size))
|`(11e5)=>`((au 5))
|`(11e6)=>`(Cs->SV->SV->Option SV)
|`(11e7)=>`(CR K ι H C)
|`(11e8)=>`((.Call (.Name x p) 7e6 [] pos))
|`(11e9)=>`((ns.map .int))
|`(12e0)=>`(YE K (.ref eO)=true)
|`(12e1)=>`(#[.tup (dl.hs.map .str)])
|`(12e2)=>`(L2.Binds K dv 3e2 [])
|`(12e3)=>`(Po X scope vs fs fr)
|`(12e4)=>`((.bl true))
|`(12e5)=>`((Fc I q 4e4))
|`(12e6)=>`((g2 (cf aI)))
|`(12e7)=>`((.int (i:Nat)))
|`(12e8)=>`((bg 1e7 ic (bA 2e9)))
|`(12e9)=>`(List Nat)
|`(13e0)=>`([1e5,o,3e3,some (.c 0),#[.lst 6e6],none])
|`(13e1)=>`(⟨tg,iter,ifs,0⟩)
|`(13e2)=>`((mC (.int 5)))
|`(13e3)=>`((List Key×Addr×Value))
|`(13e4)=>`((∀b∈fp,H' b=none))
local macro_rules
|`(13e5)=>`(#[.int c])
|`(13e6)=>`(aG->M 7e7)
|`(13e7)=>`(af s.heap 7e9 u)
|`(13e8)=>`(af s.heap 8e5 u)
|`(13e9)=>`((ab 9e6 ae))
|`(14e0)=>`(#[.lst ((L.take s.q.toNat).map fI)])
|`(14e1)=>`(List V->Hp->VK->Prop)
|`(14e2)=>`(List (Str×Addr))
|`(14e3)=>`(aG->M PF)
|`(14e4)=>`(["thing","least","most"])
|`(14e5)=>`((ab (au 7) ae))
|`(14e6)=>`(List Key)
|`(14e7)=>`((au 6))
|`(14e8)=>`(#[.int many])
|`(14e9)=>`((by simp;lia))
|`(15e0)=>`((bf ae))
|`(15e1)=>`(#[.int now])
|`(15e2)=>`((EP X pins σ Q))
|`(15e3)=>`((ha pins s σ H _ I h))
|`(15e4)=>`(["_law_left_here","_law_houses","_law_sizes","_law_others","_law_named"])
|`(15e5)=>`((aX (mC 8e1)))
|`(15e6)=>`((by simpa using h))
|`(15e7)=>`((VaI hr))
|`(15e8)=>`((ab 2e9 (ab 7e4 (ab 1e8 (ab 2e9 (ab (mC (.int 7)) ae))))))
|`(15e9)=>`((.v .aP,C'.take C.length))
local macro_rules
|`(16e0)=>`((Or.inr rfl))
|`(16e1)=>`((au 4))
|`(16e2)=>`((bf (ab (mC (.str "join")) ae)))
|`(16e3)=>`(∀x,Xj iter X.env x=pure x)
|`(16e4)=>`(Array Nat)
|`(16e5)=>`(sr.step f1 c1)
|`(16e6)=>`(ah.cells hs _ _ r)
|`(16e7)=>`(["parts"])
|`(16e8)=>`(∀b u,h.get? b=some u->h'.get? b=some u)
|`(16e9)=>`(X.N[i]? = some x)
|`(17e0)=>`((k==Xm&&env.scope.kind==.function&&env.kindOf n==some .cell))
|`(17e1)=>`(af s.heap q v)
|`(17e2)=>`((aJ (eJ (ab (ak 3e7 4e0 1e8) ae))))
|`(17e3)=>`((.v 7e9,C'.take C.length))
|`(17e4)=>`((.v 8e5,C'.take C.length))
|`(17e5)=>`((by simp[ZS.us]))
|`(17e6)=>`((.ListComp elt gens scope pos))
|`(17e7)=>`((ak 3e7 1e7 2e3))
|`(17e8)=>`((ab 11e5 ae))
|`(17e9)=>`((by simpa using e))
|`(18e0)=>`((.inl rfl))
|`(18e1)=>`(Bool->Shared->Prop)
|`(18e2)=>`((st+(0+(j:Int))))
|`(18e3)=>`(#[.tup (qY.map .str)])
|`(18e4)=>`((bf (ab 4e0 5e7)))
local macro_rules
|`(18e5)=>`((au 10))
|`(18e6)=>`(#[.str h])
|`(18e7)=>`((.str "abcdefghijklmnopqrstuvwxyz"))
|`(18e8)=>`((cn (aF (hName 8) (aF (hName 9) (aF (hName 10) (aF (hName 11) (aF (hName 12) (aF (hName 13) cp)))))) 6))
|`(18e9)=>`(Result->Shared->Prop)
|`(19e0)=>`((ps.getD j .aP))
|`(19e1)=>`((p.getD n 0))
|`(19e2)=>`(["_law_left_here","_law_town_here","_law_letters","_law_now"])
|`(19e3)=>`((l5 1e0 T.cP 6e0))
|`(19e4)=>`((aT aB (ab 1e7 8e6)))
local macro_rules
|`(tactic|sleep 1)=>`(tactic|(obtain⟨ι,ρ,C,z,C',sr,e,q⟩:=h;obtain⟨x,C1,e1,e⟩:=cD e))
|`(tactic|sleep 2)=>`(tactic|obtain⟨ι,ρ,C,fl,C',sr,e,d⟩:=h_)
|`(tactic|sleep 3)=>`(tactic|(intro X hP hw hK hc i pins s σ H E I hf st hg;subst hP hw hK))
|`(tactic|sleep 4)=>`(tactic|(have a0:=a;have b0:=b;unfold af at a b;obtain⟨l,us,rfl,h1,r1⟩:=a;obtain⟨l',vs,rfl,h2,r2⟩:=b;ext dep hu))
|`(tactic|sleep 5)=>`(tactic|intro pins s σ H x y v u Q I rx ry h)
|`(tactic|sleep 6)=>`(tactic|generalize ls.map Lt.P=LS at *)
|`(tactic|sleep 7)=>`(tactic|intro pins s σ H Q I h)
|`(tactic|sleep 8)=>`(tactic|obtain⟨t,rfl⟩:=rx)
|`(tactic|sleep 9)=>`(tactic|intro ι H C p q vx vy z Q cr lx ly e k)
|`(tactic|sleep 10)=>`(tactic|generalize us.map Lt.P=US at *)
|`(tactic|sleep 11)=>`(tactic|obtain⟨ι,ρ,C,z,C',sr,e,q⟩:=h_)
|`(tactic|sleep 12)=>`(tactic|generalize cy sp bN ds=TP at *)
|`(tactic|sleep 13)=>`(tactic|(generalize l.gs.map tupK=G at *;generalize tupK l.dd=DD at *))
|`(tactic|sleep 14)=>`(tactic|generalize mi.map Lt.P=MI at *)
|`(tactic|sleep 15)=>`(tactic|intro pins s σ H xs us Q I r h)
|`(tactic|sleep 16)=>`(tactic|obtain⟨f0,f1,f2,f3,f4,f5⟩:=hf it 4e4)
|`(tactic|sleep 17)=>`(tactic|(ext af a;obtain⟨_,rfl⟩:=a;cases q<;>ext af b))
|`(tactic|sleep 18)=>`(tactic|(unfold Rep at h⊢;obtain⟨a,vs,e,sq,r⟩:=h))
|`(tactic|sleep 19)=>`(tactic|(ext aA a;obtain⟨v,r,rfl,a1,a2⟩:=a))
set_option hygiene true
open Array renaming getD_eq_getD_getElem?→Xf,getElem?_eq_getElem→XT,length_toList→X2,getElem?_eq_none→X7,perm_iff_toList_perm→WN,getElem?_toList→Vt,getElem?_append_left→VN
open Array.Perm renaming refl→VF
open Bool renaming and_eq_true→Yg,false_ne_true→Yi,false_eq_true→Xi,eq_iff_iff→Wz,false_or→VZ,or_eq_true→Uj
open False renaming elim→Wu
open ForInStep renaming yield→WC
open Int renaming emod_lt_of_pos→YX,emod_nonneg→Y3,toNat_natCast→X1
open List renaming getElem?_eq_getElem→Yc,mem_cons→Yd,getElem?_eq_none_iff→Yf,getElem?_append_left→Yh,mem_singleton→Yj,range→Yk,mem_append_right→Ym,size_toArray→Yn,mem_map→Yr,length_map→Yv,mem_append→Yy,map_cons→Yz,getElem?_set_ne→YA,all_eq_true→YB,append_assoc→YC,length_cons→YD,mem_cons_of_mem→YG,lookup_cons→YH,append_nil→YJ,getElem?_map→YL,mem_append_left→YM,length_append→YN,getElem_mem→YO,not_mem_nil→YQ,mem_cons_self→YR,mem_of_getElem?→YS,nodup_iff_pairwise_ne→YT,getElem?_eq_some_iff→YW,getD_eq_getElem?_getD→YZ,map_map→Y0,length_take→Y1,getElem?_append_right→Y5,zip_cons_cons→Y6,map_append→Y7,getElem?_set_self→Xc,any_cons→Xd,nil_append→Xg,mem_range→Xh,ext_getElem?→Xk,zipWith→Xl,getElem?_take_of_lt→Xn,all_cons→Xx,all_map→XA,getElem?_eq_none→XB,pairwise_map→XC,mem_filter→XD,nodup_cons→XF,length_set→XH,length_drop→XJ,getElem_of_mem→XQ,pairwise_cons→XV,mem_of_mem_drop→XW,mem_of_mem_take→XX,set_set→X0,find?_cons→X4,length_pos_iff→X6,getElem_inj→X9,filterMap_cons→Wm,length_singleton→WA,length_nil→WB,length_filter_le→WG,nodup_append→WK,replicate→WP,drop_eq_getElem_cons→WT,map_fst_zip→WU,mem_map_of_mem→WW,toArray→W0,forIn_cons→W9,length_zip→Vd,take_of_length_le→Vi,map_nil→Vs,eq_nil_of_length_eq_zero→Vv,of_mem_zip→VD,getElem?_range→VG,map_congr_left→VI,filter_map→VJ,forIn_nil→VR,all_eq_false→VX,drop_length→V6
open List.Pairwise renaming imp→VW
open List.cons renaming inj→Ve
open Nat renaming le_refl→Yl,ne_of_lt→Yp,lt_of_lt_of_le→Yu,le_trans→YI,lt_or_ge→YU,zero_le→Xq,ne_of_gt→XI,lt_irrefl→XZ,min_eq_left→WE,le_of_lt→VO,le_add_right→V5,le_of_eq→Ud,lt_trans→Uf
open Ne renaming symm→Xp
open Option renaming isSome_iff_exists→WX,map_eq_some_iff→Vh,map_some→VE
open Option.some renaming inj→YF
open Prod.mk renaming inj→Ut
open PyProof.Rows renaming slot_tuple_getitem→Xe,callWith_type1→XE,get?_update_seq→Vc,listUpdate_at→Vz,mirror_perm→V2,AllBare→V8,listItems_at→Ui,mirror_size→Ur,seqEpoch_at→Us
open PySem renaming wpAny_bind→Ya,wpAny_pure→Ye,starEach→Yo,Program→Ys,sizeLine→Yt,FuncData→Yx,Spec→YK,sizeLine_eq→YV,wpAny_mono→Y4,compareOp→Xa,bootBuiltins→Xb,foldedSetIterable→Xj,mainGlobals→Xo,wpAny_holding→Xs,wpAny_callSpecial?_slot→Xu,wpAny_call_entry→Xw,wpAny_newObj_type→Xz,wpAny_field→XG,sysModules→XN,wpAny_truthy_bool→XO,wpAny_seqItems→XR,letOwnedTupleGo→X3,DictEntry→Wa,wpAny_setField_rec→Wb,assignEach→Wf,codeAny→Wo,mem_of_lookup→Wp,wpAny_typeNameOfWhole_keyiter→Wt,swapsWith→Wy,codeAny_builtin→WF,wpAny_standAt→WI,binaryOp→WJ,wpAny_comprehension_free→WZ,wpAny_passesOwn→W4,behindInMarks→W5,wpAny_Call_Name_kw→W6,NameKind→W7,Comprehension→Vf,sliceBounds→Vl,wpAny_pyIter_list→Vm,SetTable→Vo,wpAny_typeOf→Vq,wpAny_updateSeq_pair→Vw,wpAny_newList→VA,wpAny_rule→VC,wpAny_setField→VT,tupleKind→VU,Builtin→V0,wpAny_onRaise→V1,noFill_tuple_add→V4,wpAny_execs_nil→V9,holding→Ua,codeAny_mono→Ub,concat_meets→Uc,storedH→Ue,wpAny_loadPart'→Ug,wpAny_specialOf→Uk,getItem→Uo,callerA→Uy,valueAt→Uz
open PySem.Around renaming in1_units→Y2,under_plainId→Vx
open PySem.Builtin.List renaming listExtendWith→VH
open PySem.Builtin.Slice renaming slicePlaces→Wd,sliceAdjust→WQ,sliceApplied→VM
open PySem.Builtin.SmallTypes renaming nextOf→YY,ownedTupleIsFree→Xy,ownedTupleHandOut→WR
open PySem.Builtin.Str renaming occurrences→Wn
open PySem.Builtin.Tuple renaming tupleExact→Wi,tupleItemsOf→WL
open PySem.Calls renaming Name_function_global→VL
open PySem.F renaming slot_tuple_iterator_next→XM,slot_dict_keyiterator_next→Wx,slot_zip_next→WD,args_tuple_add_2→WY,slot_list_getattribute→W1,args_tuple_iterator_next_1→W2,entry_tuple_add→W8,entry_tuple_iterator_next→Va,slot_tuple_add→Vg,slot_tuple_hash→Vn
open PySem.Heap renaming get?_push_of_some→Yb,lt_size→Yq,get?_push_size→Yw,get?_update_ne→X5,SameBut→Wj,size_push→Wv,get?_update_self→Vr,ExtBut→Up
open PySem.Heap.SameBut renaming update→Wr
open PySem.NameKind renaming free→Xm,cell→Wq
open PySem.Obj renaming mapSeq→XU,data_mapFields→Vb
open PySem.Paired renaming length→W3
open PySem.PassesOwn renaming never→Xv
open PySem.PyData renaming hasDict→Xr,leavesShort→Wc,keyHash→We,showable→WH,leavesShortAll→Vu,leavesShortKv→Vy,weight→VB,showableAll→VP,depth→VQ,hasDictAll→VV,showableKv→VY,weightAll→V7,depthAll→Ul,weightKv→Um
open PySem.Str renaming ofString→Wl
open PySem.Value renaming none→Y8,ref→Y9,isStrOf→XY,bool→Vj,type→Vk,int→Uu,str→Uv
open PySem.W renaming keepIn→YE,kas_desc→X8,kia_one→Wg,kas_place→Ws,kas_rev→Ww,kas_asc→WV,kas_sort→Vp,kas_descPart→Uh
open PySem.W.KasT renaming ret→Uw
open PySem.W.Looks renaming of_pure→V3
open Sum renaming inr→WO,inl→Ux
open True renaming intro→Wh
set_option backward.eqns.nonrecursive false
set_option genSizeOf false
set_option compiler.extract_closed false
set_option bootstrap.genMatcherCode false
set_option Elab.async false
set_option linter.all false
set_option maxRecDepth 100000
namespace L2
open PySem PySem.Spec PyProof.Rows
abbrev Key:=Sum Int Str
noncomputable def iT:Key->Value->Bool
 |.inl k,v=>Value.isInt k v
 |.inr x,v=>XY x v
noncomputable def GJ (w:World):Key->Int
 |.inl k=>hashInt k
 |.inr x=>hashStr w x
theorem E8:∀{k:Key}{v:Value},iT k v=true->(∃i t,k=Ux i/\v=Uu i t)\/(∃x t,k=WO x/\v=Uv x t)
 |.inl i,v,h=>by
  obtain⟨t,e⟩:=Value.isInt_shape (k:=i) (v:=v) h;show .inl ⟨i,t,rfl,e⟩
 |.inr x,v,h=>by
  obtain⟨t,e⟩:=Value.isStrOf_shape (x:=x) (v:=v) h;show .inr ⟨x,t,rfl,e⟩
theorem mU(i:Int)(t:Tok):iT (.inl i) (.int i t)=true:=by simp[iT,Value.isInt]
theorem mT(x:Str)(t:Tok):iT (.inr x) (.str x t)=true:=by simp[iT,XY]
theorem Ml(a b:Int):decide ((Ux a:Key)=Ux b)=(a==b):=by
 by_cases e:a=b
 ·subst e;simp
 ·have h:¬(Ux a:Key)=Ux b:=λq=>e (Sum.inl.inj q)
  rw[decide_eq_false h];show(beq_eq_false_iff_ne.mpr e).symm
theorem Mg(a b:Str):decide ((WO a:Key)=WO b)=decide (a=b):=by
 by_cases e:a=b
 ·subst e;simp
 ·have h:¬(WO a:Key)=WO b:=λq=>e (Sum.inr.inj q)
  rw[decide_eq_false h,decide_eq_false e]
theorem Mj(a:Int)(b:Str):decide ((Ux a:Key)=WO b)=false:=decide_eq_false (λq=>nomatch q)
theorem Mh(a:Str)(b:Int):decide ((WO a:Key)=Ux b)=false:=decide_eq_false (λq=>nomatch q)
def bU(prog:Ys)(w:World):PySem.KeyKind prog w Key where
 is:=iT
 hash:=GJ w
 inj:=λv a b ha hb=>by
  rcases E8 ha with⟨i,t,rfl,rfl⟩|⟨x,t,rfl,rfl⟩
  ·rcases E8 hb with⟨j,u,rfl,e⟩|⟨y,u,rfl,e⟩
   ·injection e with e1 _;rw[e1]
   ·show nomatch e
  ·rcases E8 hb with⟨j,u,rfl,e⟩|⟨y,u,rfl,e⟩
   ·show nomatch e
   ·injection e with e1 _;rw[e1]
 byValue:=λk v h=>by
  rcases E8 h with⟨i,t,rfl,rfl⟩|⟨x,t,rfl,rfl⟩<;>rfl
 pyHash:=λhv h=>by
  rcases E8 hv with⟨i,t,rfl,rfl⟩|⟨x,t,rfl,rfl⟩
  ·show wpAny_pyHash_int h
  ·show wpAny_pyHash_str h
 eqBool:=λhu hv h=>by
  rcases E8 hu with⟨i,t,rfl,rfl⟩|⟨x,t,rfl,rfl⟩
  ·rcases E8 hv with⟨j,u,rfl,rfl⟩|⟨y,u,rfl,rfl⟩
   ·rw[Ml]at h;show wpAny_eqBool_int h
   ·rw[Mj]at h;show SeqAt.EqAt.int_str i t y u _ _ _ _ h
  ·rcases E8 hv with⟨j,u,rfl,rfl⟩|⟨y,u,rfl,rfl⟩
   ·rw[Mh]at h;show SeqAt.EqAt.str_int x t j u _ _ _ _ h
   ·rw[Mg]at h;show wpAny_eqBool_str h
 «strs»:=λk x t v h=>by
  rcases E8 h with⟨i,u,rfl,e⟩|⟨y,u,rfl,e⟩
  ·show nomatch e
  ·injection e with e1 _
   subst e1;cases v<;>rfl
theorem qG(prog:Ys)(w:World)(i:Int)(t:Tok):(bU prog w).is (.inl i) (.int i t)=true:=mU i t
theorem qF(prog:Ys)(w:World)(x:Str)(t:Tok):(bU prog w).is (.inr x) (.str x t)=true:=mT x t
inductive V where
 |aP|bl (b:Bool)|int (i:Int)|str (x:Str)|u7 (b:Array UInt8)|O2 (b:UInt64)|ref (a:Addr)|ty (n:String)
 deriving DecidableEq
def RelV:V->Value->Prop
 |.aP,u=>u=Y8
 |.bl b,u=>u=Vj b
 |.int i,u=>∃t,u=Uu i t
 |.str x,u=>∃t,u=Uv x t
 |.u7 b,u=>∃t,u=Value.bytes b t
 |.O2 b,u=>∃t,u=Value.float b t
 |.ref a,u=>u=Y9 a
 |.ty n,u=>u=Vk n
abbrev Vals:List V->List Value->Prop:=Paired RelV
theorem Vals.length{xs:List V}{us:4e1}(r:Vals xs us):xs.length=us.length:=W3 r
theorem Vals.get:∀{xs:List V}{us:4e1}{i:Nat}{x:V},Vals xs us->xs[i]? = some x->∃u,us[i]? = some u/\RelV x u
 |_,_,_,_,.nil,e=>by simp at e
 |_,_,0,_,.cons r _,e=>by simp at e;subst e;show⟨_,rfl,r⟩
 |_,_,i+1,x,.cons _ t,e=>by
  obtain⟨u,h1,h2⟩:=Vals.get (i:=i) (x:=x) t 17e9;show⟨u,by simpa using h1,h2⟩
theorem Vals.set{x:V}{u:Value}(r:RelV x u):∀{xs:List V}{us:4e1}(i:Nat),Vals xs us->Vals (xs.set i x) (us.set i u)
 |_,_,_,.nil=>.nil
 |_,_,0,.cons _ t=>.cons r t
 |_,_,i+1,.cons q t=>.cons q (Vals.set r i t)
theorem Vals.append:∀{xs ys:List V}{us ws:4e1},Vals xs us->Vals ys ws->Vals (xs++ys) (us++ws)
 |_,_,_,_,.nil,s=>s
 |_,_,_,_,.cons r t,s=>.cons r (Vals.append t s)
theorem Vals.take:∀{xs:List V}{us:4e1}(n:Nat),Vals xs us->Vals (xs.take n) (us.take n)
 |_,_,0,_=>.nil
 |_,_,_+1,.nil=>.nil
 |_,_,n+1,.cons r t=>.cons r (Vals.take n t)
theorem Vals.drop:∀{xs:List V}{us:4e1}(n:Nat),Vals xs us->Vals (xs.drop n) (us.drop n)
 |_,_,0,r=>r
 |_,_,_+1,.nil=>.nil
 |_,_,n+1,.cons _ t=>Vals.drop n t
def lg:Option V->Option Value->Prop
 |some v,some u=>RelV v u
 |none,none=>True
 |_,_=>False
def KV{κ:Type}:List (κ×V)->List (κ×Value)->Prop:=Paired λ(p:κ×V) (q:κ×Value)=>p.1=q.1/\RelV p.2 q.2
noncomputable def kV:Key->V
 |.inl i=>.int i
 |.inr x=>.str x
inductive HO where
  |lst (xs:List V)
  |tup (xs:List V)
  |dK (kvs:List (Key×V))|dT (kvs:List (List Key×V))
  |set (S:Int->Bool) (n:Nat)
  |ins (C dx:Addr) (fs:List (Str×V))
  |own (x:Addr)
  |xd (fs:List (Str×V))
  |met (f x:Addr)
  |rng (lo hi:Int)
  |wC (o:Obj) (u:HO)
  |JP (ps:Array Value)
  |ext (φ:Heap->Prop)
abbrev Hp:=Addr->Option HO
noncomputable def upd (H:Hp)(a:Addr)(o:HO):Hp:=λb=>if b=a then some o else H b
theorem pD{H:Hp}{a:Addr}{o:HO}:upd H a o a=some o:=by ext upd;rw[if_pos rfl]
theorem dH{H:Hp}{a b:Addr}{o:HO}(h:b≠a):upd H a o b=H b:=by ext upd;rw[if_neg h]
theorem Ic{H:Hp}{a b:Addr}{o u:HO}(h:H a=some o)(h':H b=some u)(d:o≠u):a≠b:=by
 intro e;subst e;rw[h]at h';show d (YF h')
theorem i4{H:Hp}{a b:Addr}{o:HO}(h:H a=some o)(h':H b=none):a≠b:=by
 intro e;subst e;rw[h]at h';cases h'
section
variable(P:Ys)(w:World)
def bS(H:Hp)(h:Heap)(a:Addr):HO->Prop
 |.lst xs=>xs.length<=Yt/\∃(aM:4e1)(n:Nat),Vals xs aM/\h.get? a=some {cls:=.type "list",data:=.seq aM.toArray n}
 |.tup xs=>xs.length<=Yt/\∃aM:List Value,Vals xs aM/\IsTup h a aM.toArray
 |.dK kvs=>kvs.length<=Yt/\(a==XN)=false/\∃vs,KV kvs vs/\h.DictOf (bU P w) a vs
 |.dT kvs=>kvs.length<=Yt/\(a==XN)=false/\∃xs:List 13e3,
   Paired (λ(p:List Key×V) (q:List Key×Addr×Value)=>p.1=q.1/\H q.2.1=some (.tup (p.1.map kV))/\RelV p.2 q.2.2) kvs xs/\
   ∃o es ep,h.get? a=some o/\o.ExactDict/\o.data=.dict es ep/\es.toList=xs.map (entryOfKey (VU (bU P w)))/\(xs.map (·.1)).Nodup
 |.set S n=>h.SetOf (intKind P w) a S n
 |.ins C dx fs=>H dx=some (.own a)/\fs.length<=1000/\dx≠a/\h.get? a=some (W.instObj C dx)/\
   ∃mA,h.Ns1 dx mA/\(∀f,lg (fs.lookup f) (mA f))/\PySem.Within mA (fs.map (·.1))
 |.own _=>∃o,h.get? a=some o
 |.xd fs=>∃mA,h.Ns1 a mA/\∀f,lg (fs.lookup f) (mA f)
 |.rng lo hi=>∃t u v,h.get? a=some {cls:=.type "range",data:=.fields #[.int lo t,.int hi u,.int 1 v]}
 |.wC o u=>h.get? a=some o/\bS H h a u
 |.JP ps=>h.get? a=some {cls:=.none,data:=.fields ps}
 |.met f x=>h.get? a=some (W.methodObj (.ref f) (.ref x))
 |.ext φ=>φ h/\(∃o,h.get? a=some o)/\∀h1 h2:Heap,φ h1->(∀o,h1.get? a=some o->h2.get? a=some o)->φ h2
def iK(H:Hp)(h:Heap):Prop:=∀a o,H a=some o->bS P w H h a o
end
section
variable{P:Ys}{w:World}{H H':Hp}{h h':Heap}{a:Addr}{o:HO}
theorem bS.lt(x:bS P w H h a o):a<h.objs.size:=by
 cases o with
 |lst xs=>obtain⟨_,_,_,_,e⟩:=x;show Yq e
 |tup xs=>obtain⟨_,_,_,p⟩:=x;show p.lt
 |dK kvs=>obtain⟨_,_,_,_,o,_,_,e,_⟩:=x;show Yq e
 |dT kvs=>obtain⟨_,_,_,_,o,_,_,e,_⟩:=x;show Yq e
 |set S n=>obtain⟨o,_,_,_,e,_⟩:=x;show Yq e
 |ins C dx fs=>obtain⟨_,_,_,e,_⟩:=x;show Yq e
 |own y=>obtain⟨_,e⟩:=x;show Yq e
 |xd fs=>obtain⟨_,⟨_,_,_,e,_⟩,_⟩:=x;show Yq e
 |rng lo hi=>obtain⟨_,_,_,e⟩:=x;show Yq e
 |wC ob u=>obtain⟨e,_⟩:=x;show Yq e
 |JP ps=>show Yq (show h.get? a=some _ from x)
 |met f y=>show Yq (show h.get? a=some _ from x)
 |ext φ=>obtain⟨_,⟨_,e⟩,_⟩:=x;show Yq e
theorem Paired.L1{α β:Type}{F G:α->β->Prop}:∀{l₁:List α}{l₂:List β},Paired F l₁ l₂->(∀a b,F a b->G a b)->Paired G l₁ l₂
 |_,_,.nil,_=>.nil
 |_,_,.cons r t,f=>.cons (f _ _ r) (Paired.L1 t f)
theorem bS.d9(x:bS P w H h a o)(k:∀b u,(b=a\/H b=some (.own a))->h.get? b=some u->h'.get? b=some u)
  (ho:∀b,H b=some (.own a)->H' b=some (.own a)) (ht:∀b xs,H b=some (.tup xs)->H' b=some (.tup xs)):bS P w H' h' a o:=by
 induction o with
 |lst xs=>obtain⟨z,aM,n,r,e⟩:=x;show⟨z,aM,n,r,k _ _ 18e0 e⟩
 |tup xs=>obtain⟨z,aM,r,ob,e,c⟩:=x;show⟨z,aM,r,ob,k _ _ 18e0 e,c⟩
 |dK kvs=>obtain⟨z,y,vs,r,ob,es,ep,e,c⟩:=x;show⟨z,y,vs,r,ob,es,ep,k _ _ 18e0 e,c⟩
 |dT kvs=>
  obtain⟨z,y,xs,r,ob,es,ep,e,c⟩:=x;show⟨z,y,xs,Paired.L1 r λp q z=>⟨z.1,ht _ _ z.2.1,z.2.2⟩,ob,es,ep,k _ _ 18e0 e,c⟩
 |set S n=>obtain⟨ob,es,ep,t,e,c⟩:=x;show⟨ob,es,ep,t,k _ _ 18e0 e,c⟩
 |ins C dx fs=>
  obtain⟨d,z,ne,e,mA,⟨od,es,ep,e2,c⟩,r⟩:=x;show⟨ho _ d,z,ne,k _ _ 18e0 e,mA,⟨od,es,ep,k _ _ (.inr d) e2,c⟩,r⟩
 |own y=>obtain⟨ob,e⟩:=x;show⟨ob,k _ _ 18e0 e⟩
 |xd fs=>obtain⟨mA,⟨od,es,ep,e,c⟩,r⟩:=x;show⟨mA,⟨od,es,ep,k _ _ 18e0 e,c⟩,r⟩
 |rng lo hi=>obtain⟨t,u,v,e⟩:=x;show⟨t,u,v,k _ _ 18e0 e⟩
 |wC ob u ih=>obtain⟨e,q⟩:=x;show⟨k _ _ 18e0 e,ih q⟩
 |JP ps=>
  have e:h.get? a=some {cls:=.none,data:=.fields ps}:=x;change h'.get? a=some {cls:=.none,data:=.fields ps};show k a _ 18e0 e
 |met f y=>
  have e:h.get? a=some (W.methodObj (.ref f) (.ref y)):=x;change h'.get? a=some (W.methodObj (.ref f) (.ref y));show k a _ 18e0 e
 |ext φ=>obtain⟨p,⟨o,e⟩,st⟩:=x;show⟨st _ _ p λo q=>k _ _ 18e0 q,⟨o,k _ _ 18e0 e⟩,st⟩
theorem iK.lt(x:iK P w H h)(e:H a=some o):a<h.objs.size:=(x a o e).lt
theorem iK.fresh(x:iK P w H h)(e:h.objs.size<=a):H a=none:=by
 cases q:H a with
 |none=>rfl
 |some u=>show absurd (Yu (x.lt q) e) (XZ _)
theorem iK.kept(x:iK P w H h)(k:16e8):iK P w H h':=λa o e=>
 (x a o e).d9 (λb u _ q=>k b u q) (λ_ q=>q) λ_ _ q=>q
theorem iK.laid(x:iK P w H h)(k:16e8)(hp:h.objs.size<=a)(new:bS P w (upd H a o) h' a o):iK P w (upd H a o) h':=λb u e=>by
 have hn:=x.fresh hp;by_cases hb:b=a
 ·subst hb;rw[pD]at e;cases e;show new
 ·rw[dH hb]at e
  show(x b u e).d9 (λc v _ q=>k c v q) (λc q=>by rw[dH (i4 q hn)];show q) λc xs q=>by rw[dH (i4 q hn)];show q
end
def Rd(H:Hp)(a:Addr)(u:HO):Prop:=H a=some u\/∃o,H a=some (.wC o u)
theorem Rd.ok{P:Ys}{w:World}{H:Hp}{h:Heap}{a:Addr}{u:HO}(r:Rd H a u)(x:iK P w H h):bS P w H h a u:=by
 rcases r with r|⟨o,r⟩
 ·show x a u r
 ·obtain⟨_,q⟩:=x a _ r
  show q
def TL:Option HO->Prop
 |some (.lst _)=>True
 |some (.dK _)=>True
 |some (.dT _)=>True
 |some (.set _ _)=>True
 |some (.ins _ _ _)=>True
 |some (.ext _)=>True
 |_=>False
section
variable{P:Ys}{w:World}{H:Hp}{h h':Heap}{x e:Addr}{o':HO}
theorem iK.write(ok:iK P w H h)(mu:TL (H x))(he:e=x\/H e=some (.own x))(k:∀b u,b≠e->h.get? b=some u->h'.get? b=some u)(OU:∃u,h'.get? e=some u)
  (new:bS P w (upd H x o') h' x o'):iK P w (upd H x o') h':=λb u q=>by
 have Qq:∀c y,H c=some (.own y)->c≠x:=λc y r z=>by subst z;rw[r]at mu;show mu
 have Vav:∀c xs,H c=some (.tup xs)->c≠x:=λc xs r z=>by subst z;rw[r]at mu;show mu
 by_cases hb:b=x
 ·subst hb;rw[pD]at q;cases q;show new
 ·rw[dH hb]at q
  by_cases MQ:b=e
  ·have q':H b=some (.own x):=by
    rcases he with z|z
    ·show absurd (MQ.trans z) hb
    ·rw[MQ];show z
   rw[q]at q';cases q';obtain⟨v,hv⟩:=OU;show⟨v,by rw[MQ];show hv⟩
  ·show(ok b u q).d9 (λc v hc r=>k c v ?_ r) (λc r=>by rw[dH (Qq c b r)];show r) λc xs r=>by rw[dH (Vav c xs r)];show r
   rcases hc with rfl|hc
   ·show MQ
   ·rintro rfl
    rcases he with z|z
    ·show Qq c b hc z
    ·rw[hc]at z;cases z;show hb rfl
end
structure Un(fs ex:List Addr)(H H':Hp)(h h':Heap):Prop where
 keep:∀b o,h.get? b=some o->H b=none->b∉fs->b∉ex->h'.get? b=some o
 slot:∀b o,h.get? b=some o->H b=none->b∈fs->b∉ex->∃sl,h'.get? b=some {o with slots:=sl}
 free:∀b o,h.get? b=some o->H b=none->b∉ex->H' b=none
 there:∀b o,h.get? b=some o->b∉ex->∃o',h'.get? b=some o'
 jN:∀b xs,H b=some (.tup xs)->H' b=some (.tup xs)
 jn:∀b o u,H b=some (.wC o u)->H' b=some (.wC o u)
 lK:∀b ps,H b=some (.JP ps)->∃more,H' b=some (.JP (ps++more))
section
variable{fs fs' ex ex':3e8}{H H1 H2:Hp}{h h1 h2 h':Heap}{a x e:Addr}{o:HO}
theorem Un.any(u:Un fs ex H H1 h h1){b:Addr}{ob:Obj}(q:h.get? b=some ob)(n:H b=none)(hx:b∉ex):∃sl,h1.get? b=some {ob with slots:=sl}:=by
 by_cases hb:b∈fs
 ·show u.slot b ob q n hb hx
 ·show⟨ob.slots,u.keep b ob q n hb hx⟩
theorem Un.kept(k:16e8):Un fs ex H H h h':=
 ⟨λb ob q _ _ _=>k b ob q,λb ob q _ _ _=>⟨ob.slots,k b ob q⟩,λ_ _ _ n _=>n,λb ob q _=>⟨ob,k b ob q⟩,λ_ _ q=>q,λ_ _ _ q=>q,λ_ ps q=>⟨#[],by rw[q];simp⟩⟩
theorem Un.refl:Un fs ex H H h h:=Un.kept λ_ _ q=>q
theorem Un.laid(k:16e8)(hp:h.objs.size<=a)(hn:H a=none):Un fs ex H (upd H a o) h h' where
 keep:=λb u q _ _ _=>k b u q
 slot:=λb u q _ _ _=>⟨u.slots,k b u q⟩
 free:=λb u q n _=>by rw[dH (Yp (Yu (Yq q) hp))];show n
 there:=λb u q _=>⟨u,k b u q⟩
 jN:=λb xs q=>by rw[dH (i4 q hn)];show q
 jn:=λb u xs q=>by rw[dH (i4 q hn)];show q
 lK:=λb ps q=>⟨#[],by rw[dH (i4 q hn),q];simp⟩
theorem Un.write(mu:TL (H x))(he:e=x\/H e=some (.own x))(k:∀b u,b≠e->h.get? b=some u->h'.get? b=some u)(OU:∃u,h'.get? e=some u):Un fs ex H (upd H x o) h h':=by
 have hx:∀b,H b=none->b≠x:=λb n z=>by subst z;rw[n]at mu;show mu
 have hb:∀b,H b=none->b≠e:=λb n z=>by
  subst z;rcases he with r|r
  ·show hx b n r
  ·rw[n]at r;cases r
 have hm:∀b u,H b=some u->¬TL (some u)->b≠x:=λb u q nm z=>by subst z;rw[q]at mu;show nm mu
 show⟨λb u q n _ _=>k b u (hb b n) q,λb u q n _ _=>⟨u.slots,k b u (hb b n) q⟩,λb u q n _=>by rw[dH (hx b n)];show n,λb u q _=>?_,
  λb xs q=>by rw[dH (hm b _ q λz=>z)];show q,λb u xs q=>by rw[dH (hm b _ q λz=>z)];show q,λb ps q=>⟨#[],by rw[dH (hm b _ q λz=>z),q];simp⟩⟩
 by_cases MQ:b=e
 ·subst MQ;show OU
 ·show⟨u,k b u MQ q⟩
end
noncomputable def Zv (h:Heap)(H:Hp):List Addr:=(Yk h.objs.size).filter λa=>(H a).isSome
def oS(h:Heap)(H:Hp):Heap:=W.hideAll h (Zv h H)
theorem yR(h:Heap)(H:Hp):(oS h H).objs.size=h.objs.size:=W.hideAll_size _ _
theorem CI{h:Heap}{H:Hp}{b:Addr}{o:Obj}(e:h.get? b=some o)(n:H b=none):(oS h H).get? b=some o:=
 W.hideAll_get _ e λhm=>by
  have q:(H b).isSome=true:=(XD.mp hm).2;rw[n]at q;simp at q
theorem Gj{h:Heap}{H:Hp}{b:Addr}{o:Obj}(e:(oS h H).get? b=some o):h.get? b=some o/\H b=none:=by
 have e':h.get? b=some o:=W.of_hideAll (Zv h H) e;show⟨e',?_⟩;cases q:H b with
 |none=>rfl
 |some x=>
  have hm:b∈Zv h H:=XD.mpr ⟨Xh.mpr (Yq e'),by simp[q]⟩;have z:(oS h H).get? b=none:=W.hideAll_none (Zv h H) hm;rw[z]at e;cases e
noncomputable def Hv (g h:Heap)(L:Addr):List (Addr×Obj):=(Yk h.objs.size).filterMap λa=>if a=L\/(g.get? a).isSome=true then none else(h.get? a).map λo=>(a,o)
def rest(g h:Heap)(L d:Addr):List (Addr×Obj):=(Hv g h L).filter λp=>decide (p.1≠d)
structure Mod(K:W.Frag)(mg:Str->Option Value)(base:Heap):Prop where
 OF:K.In base
 glob:base.Ns Xo mg
 blt:∃mb,base.Ns builtinsNs mb/\∀x:Str,x≠"__name__"->mb x=Xb x
 nolimit:base.NoLimit
structure Cx where
 prog:Ys
 w:World
 K:W.Frag
 mg:Str->Option Value
 base:Heap
 A:Around
 N:List Str
 s₀:Shared
 H₀:Hp
 env:Env
 outer:List Env
 stack:List Env
 ex:List Addr
 fn:Str->Bool
 calm:Bool
 pn:List (Addr×Obj)
 xe:Value->Shared->Prop
noncomputable def ux (l:List Env):List Addr:=l.filterMap (·.frame)
abbrev Cx.fs(X:Cx):List Addr:=ux X.outer
def N7(sc:Scope)(x:Str):Prop:=sc.names.lookup x=some .local\/sc.names.lookup x=some .cell\/sc.names.lookup x=some .free
def Loc(sc:Scope)(x:Str):Prop:=sc.names.lookup x=some .local\/sc.names.lookup x=some .cell
def Look(env:Env)(h:Heap)(m:2e5)(x:Str)(u:Value):Prop:=
 (env.kindOf x=some .local/\m x=some u)\/((env.kindOf x=some .cell\/env.kindOf x=some .free)/\∃c,env.cells.lookup x=some c/\h.IsCell c (some u))
structure Cx.Ok(X:Cx):Prop where
 mod:Mod X.K X.mg X.base
 kind:X.env.scope.kind=.function
 glob:X.env.globals=Xo
 blt:X.env.builtins=builtinsNs
 above:X.s₀.heap.objs.size<=X.env.locals
 inj:∀x y c,X.env.cells.lookup x=some c->X.env.cells.lookup y=some c->x=y
 has:∀x,(X.env.kindOf x=some .cell\/X.env.kindOf x=some .free)->∃c,X.env.cells.lookup x=some c
 Sq:∀x c,X.fn x=true->X.env.cells.lookup x=some c->X.s₀.heap.objs.size<=c
 hd:X.calm=true->X.A.handled=none
 frames:X.A.frames=some X.stack
 Zx:X.stack=X.outer\/(X.stack=X.env::X.outer/\X.env.frame=some X.env.locals)
 exf:∀b∈X.ex,b≠X.env.locals/\∀x c,X.env.cells.lookup x=some c->c≠b
 bs:∀b o,X.base.get? b=some o->X.s₀.heap.get? b=some o/\X.H₀ b=none
 Hs:X.base.objs.size<=X.s₀.heap.objs.size
 qD:∀b o,X.base.get? b=some o->b∉X.ex
 CU:∀b∈X.ex,b∉X.fs
 kQ:X.s₀.heap.FunFrames X.base X.outer
 O1:∀b∈X.fs,X.H₀ b=none
structure Inv(X:Cx)(pins:List (Addr×Obj))(σ:List (Option V))(H:Hp)(s:Shared):Prop where
 ok:X.Ok
 os:s.os=X.s₀.os
 bare:V8 s.gens
 base:Un X.fs X.ex X.H₀ H X.s₀.heap s.heap
 loc:∃m,s.heap.Ns X.env.locals m/\∀(i:Nat)(x:Str)(v:V),X.N[i]? = some x->σ[i]? = some (some v)->N7 X.env.scope x->∃u,RelV v u/\Look X.env s.heap m x u
 cell:∀x c,X.env.cells.lookup x=some c->∃v,s.heap.IsCell c v
 free:H X.env.locals=none
 gm:∀x c,X.env.cells.lookup x=some c->H c=none
 pin:∀p∈X.pn++pins,s.heap.get? p.1=some p.2/\H p.1=none/\p.1≠X.env.locals/\p.1∉X.fs/\∀v,p.2.data≠.cell v
 bV:iK X.prog X.w H s.heap
 len:σ.length=X.N.length
section
variable{X:Cx}{pins:2e2}{σ:List (Option V)}{H H':Hp}{s:Shared}{h':Heap}
theorem Cx.Ok.Vax(ok:X.Ok){b:Addr}{o:Obj}(e:X.base.get? b=some o):b∉X.fs:=λhb=>by
 have:=(ok.kQ.mem hb).1;rw[e]at this;cases this
theorem Inv.bs(I:2e4):∀b o,X.base.get? b=some o->s.heap.get? b=some o/\H b=none:=λb o e=>
 ⟨I.base.keep b o (I.ok.bs b o e).1 (I.ok.bs b o e).2 (I.ok.Vax e) (I.ok.qD b o e),I.base.free b o (I.ok.bs b o e).1 (I.ok.bs b o e).2 (I.ok.qD b o e)⟩
theorem Inv.bk(I:2e4):∀b o,X.base.get? b=some o->s.heap.get? b=some o:=λb o e=>(I.bs b o e).1
theorem Inv.mod(I:2e4):Mod X.K X.mg X.base:=I.ok.mod
theorem Inv.kI(I:2e4):X.K.In s.heap:=I.ok.mod.OF.keeps I.bk
theorem Inv.lt(I:2e4):X.env.locals<s.heap.objs.size:=let⟨_,hn,_⟩:=I.loc;hn.lt
theorem Inv.sz(I:2e4):X.s₀.heap.objs.size<=s.heap.objs.size:=YI I.ok.above (VO I.lt)
theorem Inv.Qr(I:2e4){a:Addr}(h:s.heap.objs.size<=a):a∉X.fs:=λhb=>by
 obtain⟨_,o,ho,_⟩:=I.ok.kQ.mem hb;show absurd (Yu (Yq ho) (YI I.sz h)) (XZ _)
theorem Inv.Nd(I:2e4):∀x c,X.env.cells.lookup x=some c->c≠X.env.locals:=λx c e z=>by
 obtain⟨v,o,ho,hd⟩:=I.cell x c e;obtain⟨m,⟨o',es,ep,uu,RL,_⟩,_⟩:=I.loc;rw[z,uu]at ho;cases ho;rw[RL]at hd;cases hd
theorem Inv.kQ(I:2e4):s.heap.FunFrames X.base X.outer:=by
 have all:∀(l:List Env),(∀b∈ux l,b∈X.fs)->X.s₀.heap.FunFrames X.base l->s.heap.FunFrames X.base l:=by
  intro l;induction l with
  |nil=>intro _ _;trivial
  |cons env r ih=>
   intro hs hl;obtain⟨hk,⟨L,o,hf,hn,ho,hd⟩,hr⟩:=hl;have hL:L∈X.fs:=hs L (by ext ux;rw[Wm,hf];show YR);obtain⟨sl,e⟩:=I.base.slot L o ho (I.ok.O1 L hL) hL λz=>I.ok.CU L z hL;show⟨hk,⟨L,_,hf,hn,e,hd⟩,ih (λb hb=>hs b (by ext ux;rw[Wm,hf];show YG _ hb)) hr⟩
 show all X.outer (λ_ hb=>hb) I.ok.kQ
theorem Inv.stack(I:2e4):s.heap.FunFrames X.base X.stack:=by
 rcases I.ok.Zx with e|⟨e,hf⟩
 ·rw[e];show I.kQ
 ·rw[e]
  obtain⟨m,hn,_⟩:=I.loc;show .cons (by rw[I.ok.kind];decide) hf hn ?_ I.kQ;show Heap.get?_none_of_le (YI I.ok.Hs I.ok.above)
theorem Inv.jg(I:2e4):∀b∈ux X.stack,b∈X.env.locals::X.fs:=λb hb=>by
 rcases I.ok.Zx with e|⟨e,hf⟩
 ·rw[e]at hb;show YG _ hb
 ·rw[e]at hb
  ext ux hb;rw[Wm,hf]at hb;show hb
theorem Inv.vF(I:2e4):∀b∈ux X.stack,H b=none:=λb hb=>by
 rcases Yd.mp (I.jg b hb)with e|hb
 ·rw[e];show I.free
 ·obtain⟨_,o,ho,_⟩:=I.ok.kQ.mem hb
  show I.base.free b o ho (I.ok.O1 b hb) λz=>I.ok.CU b z hb
theorem Inv.step{g':Array GenState}{t':Nat}{d':Drawn}{ch:3e8}(I:2e4)
  (zG:∀b∈ch,(b∈X.ex\/X.s₀.heap.objs.size<=b)/\b≠X.env.locals/\(∀x c,X.env.cells.lookup x=some c->c≠b)/\∀p∈X.pn++pins,p.1≠b)
  (keep:∀b o,b≠X.env.locals->b∉X.fs->b∉ch->s.heap.get? b=some o->H b=none->h'.get? b=some o)
  (slot:∀b o,b≠X.env.locals->b∈X.fs->b∉ch->s.heap.get? b=some o->H b=none->∃sl,h'.get? b=some {o with slots:=sl}) (free:∀b o,b∉ch->s.heap.get? b=some o->H b=none->H' b=none)
  (there:∀b o,b∉ch->s.heap.get? b=some o->∃o',h'.get? b=some o')
  (jN:∀b xs,H b=some (.tup xs)->H' b=some (.tup xs)) (jn:∀b o u,H b=some (.wC o u)->H' b=some (.wC o u)) (lK:∀b ps,H b=some (.JP ps)->∃more,H' b=some (.JP (ps++more)))
  (ns:∀m,s.heap.Ns X.env.locals m->h'.Ns X.env.locals m) (bV:iK X.prog X.w H' h') (hg:V8 g'):
  Inv X pins σ H' {s with heap:=h',gens:=g',drawn:=d',toks:=t'}:=by
 have neL:∀b o,X.s₀.heap.get? b=some o->b≠X.env.locals:=λb o e=>Yp (Yu (Yq e) I.ok.above);have ZI:∀b o,X.s₀.heap.get? b=some o->b∉X.ex->b∉ch:=λb o e hx hb=>by
  rcases(zG b hb).1 with z|z
  ·show hx z
  ·show absurd (Yu (Yq e) z) (XZ _)
 have cellK:∀x c,X.env.cells.lookup x=some c->∀v,s.heap.IsCell c v->h'.IsCell c v:=λx c e v h_=>by
  obtain⟨o,ho,hd⟩:=h_;have Qu:c∉ch:=λz=>(zG c z).2.2.1 x c e rfl;by_cases hc:c∈X.fs
  ·obtain⟨sl,q⟩:=slot c o (I.Nd x c e) hc Qu ho (I.gm x c e)
   show⟨_,q,hd⟩
  ·show⟨o,keep c o (I.Nd x c e) hc Qu ho (I.gm x c e),hd⟩
 show⟨I.ok,I.os,hg,⟨λb o e n hb hx=>?_,λb o e n hb hx=>?_,λb o e n hx=>?_,λb o e hx=>?_,λb xs e=>jN b xs (I.base.jN b xs e),λb o xs e=>jn b o xs (I.base.jn b o xs e),λb ps e=>?_⟩,?_,λx c e=>?_,?_,λx c e=>?_,λp hp=>?_,bV,I.len⟩
 ·show keep b o (neL b o e) hb (ZI b o e hx) (I.base.keep b o e n hb hx) (I.base.free b o e n hx)
 ·obtain⟨sl,e1⟩:=I.base.slot b o e n hb hx
  obtain⟨sl',e2⟩:=slot b _ (neL b o e) hb (ZI b o e hx) e1 (I.base.free b o e n hx);show⟨sl',e2⟩
 ·obtain⟨o',e1⟩:=I.base.there b o e hx
  show free b o' (ZI b o e hx) e1 (I.base.free b o e n hx)
 ·obtain⟨o',e1⟩:=I.base.there b o e hx
  show there b o' (ZI b o e hx) e1
 ·obtain⟨m1,e1⟩:=I.base.lK b ps e
  obtain⟨m2,e2⟩:=lK b _ e1;show⟨m1++m2,by rw[e2,Array.append_assoc]⟩
 ·obtain⟨m,hn,hl⟩:=I.loc
  show⟨m,ns m hn,λi x v e1 e2 e3=>?_⟩;obtain⟨u,r,l⟩:=hl i x v e1 e2 e3;show⟨u,r,?_⟩;rcases l with l|⟨k,c,e,z⟩
  ·show .inl l
  ·show .inr ⟨k,c,e,cellK x c e _ z⟩
 ·obtain⟨v,z⟩:=I.cell x c e
  show⟨v,cellK x c e v z⟩
 ·obtain⟨m,⟨o,_,_,ho,_⟩,_⟩:=I.loc
  show free _ o (λz=>(zG _ z).2.1 rfl) ho I.free
 ·obtain⟨v,o,ho,hd⟩:=I.cell x c e
  show free c o (λz=>(zG c z).2.2.1 x c e rfl) ho (I.gm x c e)
 ·obtain⟨e,n,ne,nf,d⟩:=I.pin p hp
  have Qu:p.1∉ch:=λz=>(zG p.1 z).2.2.2 p hp rfl;show⟨keep p.1 p.2 ne nf Qu e n,free p.1 p.2 Qu e n,ne,nf,d⟩
theorem Inv.un{t':Nat}(I:2e4)(u:Un X.fs [] H H' s.heap h')(bV:iK X.prog X.w H' h'):Inv X pins σ H' {s with heap:=h',toks:=t'}:=by
 obtain⟨m,⟨o,es,ep,ho,r⟩,_⟩:=id I.loc;obtain⟨sl,hL⟩:=u.any ho I.free 4e4;show I.step (g':=s.gens) (d':=s.drawn) (ch:=[]) (λ_ z=>nomatch z) (λb o _ hb _ e n=>u.keep b o e n hb 4e4) (λb o _ hb _ e n=>u.slot b o e n hb 4e4) (λb o _ e n=>u.free b o e n 4e4) (λb o _ e=>u.there b o e 4e4) u.jN u.jn u.lK (λm' hm=>by
  obtain⟨o',Hf,ep',uu,r'⟩:=hm;rw[ho]at uu;cases uu;show⟨_,Hf,ep',hL,r'⟩) bV I.bare
theorem Inv.call{g':Array GenState}{t':Nat}{d':Drawn}{ch:3e8}(I:2e4)(u:Un (ux X.stack) ch H H' s.heap h')(bV:iK X.prog X.w H' h')(hg:V8 g')
  (zG:∀b∈ch,(b∈X.ex\/X.s₀.heap.objs.size<=b)/\b≠X.env.locals/\(∀x c,X.env.cells.lookup x=some c->c≠b)/\∀p∈X.pn++pins,p.1≠b):
  Inv X pins σ H' {s with heap:=h',gens:=g',drawn:=d',toks:=t'}:=by
 obtain⟨m,⟨o,es,ep,ho,r⟩,_⟩:=id I.loc;obtain⟨sl,hL⟩:=u.any ho I.free λz=>(zG _ z).2.1 rfl;show I.step (ch:=ch) zG (λb o hL hb hc e n=>u.keep b o e n (λz=>(Yd.mp (I.jg b z)).elim hL hb) hc) (λb o _ _ hc e n=>u.any e n hc) (λb o hc e n=>u.free b o e n hc) (λb o hc e=>u.there b o e hc) u.jN u.jn u.lK (λm' hm=>by
  obtain⟨o',Hf,ep',uu,r'⟩:=hm;rw[ho]at uu;cases uu;show⟨_,Hf,ep',hL,r'⟩) bV hg
theorem Inv.turned{t':Nat}{it:Addr}(I:2e4)(k:∀b o,b≠it->s.heap.get? b=some o->h'.get? b=some o)(hn:H it=none)(hL:it≠X.env.locals)
  (h1:it∈X.ex\/X.s₀.heap.objs.size<=it) (h2:∀x c,X.env.cells.lookup x=some c->c≠it) (h3:∀p∈X.pn++pins,p.1≠it):Inv X pins σ H {s with heap:=h',toks:=t'}:=by
 have Qt:∀b u,H b=some u->b≠it:=λb u e z=>by rw[z,hn]at e;cases e
 show I.step (g':=s.gens) (d':=s.drawn) (ch:=[it]) (λb hb=>?_) (λb o _ _ hc e _=>k b o (λz=>hc (by simp[z])) e) (λb o _ _ hc e _=>⟨o.slots,k b o (λz=>hc (by simp[z])) e⟩) (λ_ _ _ _ n=>n)
  (λb o hc e=>⟨o,k b o (λz=>hc (by simp[z])) e⟩) (λ_ _ e=>e) (λ_ _ _ e=>e) (λb ps e=>⟨#[],by rw[e];simp⟩) (λm hm=>?_) (λb u e=>?_) I.bare
 ·have e:b=it:=by simpa using hb
  subst e;show⟨h1,hL,h2,h3⟩
 ·obtain⟨o,es,ep,ho,r⟩:=hm
  show⟨o,es,ep,k _ o (Xp hL) ho,r⟩
 ·show(I.bV b u e).d9 (λc v hc q=>k c v ?_ q) (λ_ q=>q) λ_ _ q=>q
  rcases hc with z|z
  ·rw[z];show Qt b u e
  ·show Qt c _ z
theorem Inv.tok(I:2e4)(t:Nat):Inv X pins σ H {s with toks:=t}:=I.un (h':=s.heap) (t':=t) Un.refl I.bV
theorem Inv.kept{t':Nat}(I:2e4)(k:∀b u,s.heap.get? b=some u->h'.get? b=some u):Inv X pins σ H {s with heap:=h',toks:=t'}:=I.un (Un.kept k) (I.bV.kept k)
theorem Inv.laid{a:Addr}{o:HO}{t':Nat}(I:2e4)(k:∀b u,s.heap.get? b=some u->h'.get? b=some u)(hp:s.heap.objs.size<=a)(new:bS X.prog X.w (upd H a o) h' a o):
  Inv X pins σ (upd H a o) {s with heap:=h',toks:=t'}:=I.un (Un.laid k hp (I.bV.fresh hp)) (I.bV.laid k hp new)
theorem Inv.write{x e:Addr}{o:HO}{t':Nat}(I:2e4)(mu:TL (H x))(he:e=x\/H e=some (.own x))(k:∀b u,b≠e->s.heap.get? b=some u->h'.get? b=some u)(OU:∃u,h'.get? e=some u)
  (new:bS X.prog X.w (upd H x o) h' x o):Inv X pins σ (upd H x o) {s with heap:=h',toks:=t'}:=I.un (Un.write mu he k OU) (I.bV.write mu he k OU new)
theorem Inv.g6{HW:2e2}(I:2e4)(h:∀p∈HW,s.heap.get? p.1=some p.2/\H p.1=none/\p.1≠X.env.locals/\p.1∉X.fs/\∀v,p.2.data≠.cell v):Inv X HW σ H s:=
 ⟨I.ok,I.os,I.bare,I.base,I.loc,I.cell,I.free,I.gm,λp hp=>(Yy.mp hp).elim (λz=>I.pin p (YM _ z)) (h p),I.bV,I.len⟩
theorem qE{N:6e2}(hN:N.Nodup){i j:Nat}{x:Str}(a:N[i]? = some x)(b:N[j]? = some x):i=j:=by
 obtain⟨h1,e1⟩:=YW.mp a;obtain⟨h2,e2⟩:=YW.mp b;show(X9 hN).mp (e1.trans e2.symm)
theorem mf{M:Model}{A:Around}{E:1e6}{i:Nat}{x:Str}{v:V}{u:Value}{Q:Unit->Shared->Prop}(I:2e4)(hN:X.N.Nodup)(hi:16e9)(hx:Loc X.env.scope x)(r:RelV v u)
  (h:∀s',Inv X pins (σ.set i (some v)) H s'->(∃a,Wj a s.heap s'.heap/\(a=X.env.locals\/X.env.cells.lookup x=some a))->Q () s') (hf:7e2:=by first|show .inl rfl|show .inr rfl|assumption):wpAny M A (storeName X.env x u) Q E s:=by
 obtain⟨m,hn,hl⟩:=id I.loc;have VaZ:(X.env.scope.kind==.class||(X.env.scope.kind==.module&&X.env.locals != X.env.globals))=false:=by rw[I.ok.kind];rfl
 have hiσ:i<σ.length:=by rw[I.len];show(YW.mp hi).1
 have Nd:=I.Nd;have tracked:∀{a:Addr}{h':Heap},(∃o,s.heap.get? a=some o/\H a=none)->Wj a s.heap h'->iK X.prog X.w H h':=λ{a h'} ha hs b ob e=>by
  obtain⟨_,_,Iv⟩:=ha;show(I.bV b ob e).d9 (λc w' hc q=>(hs.2 c ?_).trans q) (λ_ q=>q) λ_ _ q=>q;rintro rfl;rcases hc with rfl|hc
  ·rw[Iv]at e;cases e
  ·rw[Iv]at hc;cases hc
 rcases hx with hk|hk
 ·show wpAny_storeName_local hk hn (λh' hn' hs=>?_) VaZ
  obtain⟨oL,_,_,Rr,_⟩:=id hn;show h _ ⟨I.ok,I.os,I.bare,⟨λb o e n hb hx=>?_,λb o e n hb hx=>?_,I.base.free,λb o e hx=>?_,I.base.jN,I.base.jn,I.base.lK⟩,⟨_,hn',λj y v' e1 e2 e3=>?_⟩,λy c e=>?_,I.free,I.gm,λp hp=>?_,tracked ⟨oL,Rr,I.free⟩ hs,by simpa using I.len⟩ ⟨_,hs,.inl rfl⟩
  ·show(hs.2 b (Yp (Yu (Yq e) I.ok.above))).trans (I.base.keep b o e n hb hx)
  ·obtain⟨sl,e1⟩:=I.base.slot b o e n hb hx
   show⟨sl,(hs.2 b (Yp (Yu (Yq e) I.ok.above))).trans e1⟩
  ·obtain⟨o',e1⟩:=I.base.there b o e hx
   show⟨o',(hs.2 b (Yp (Yu (Yq e) I.ok.above))).trans e1⟩
  ·by_cases hj:j=i
   ·subst hj
    rw[hi]at e1;cases e1;rw[Xc hiσ]at e2;cases e2;show⟨u,r,.inl ⟨hk,by simp⟩⟩
   ·rw[YA (Xp hj)]at e2
    obtain⟨u',r',q⟩:=hl j y v' e1 e2 e3;show⟨u',r',?_⟩;rcases q with⟨k,e⟩|⟨k,c,e,z⟩
    ·show .inl ⟨k,?_⟩
     have:y≠x:=λe=>hj (qE hN e1 (e▸hi));simp[this,e]
    ·show .inr ⟨k,c,e,z.sameBut hs (Nd y c e)⟩
  ·obtain⟨w',z⟩:=I.cell y c e
   show⟨w',z.sameBut hs (Nd y c e)⟩
  ·obtain⟨e,n,ne,nf,d⟩:=I.pin p hp
   show⟨(hs.2 p.1 ne).trans e,n,ne,nf,d⟩
 ·have hfn:X.fn x=true:=by
   rcases hf with z|z
   ·show z
   ·rw[z]at hk;cases hk
  obtain⟨c,hc⟩:=I.ok.has x (.inl hk);obtain⟨w',z⟩:=I.cell x c hc;show wpAny_storeName_cell I.ok.kind hk hc z (λh' EU hs=>?_);obtain⟨oc,hoc,VaP⟩:=id z;show h {s with heap:=h'} ⟨I.ok,I.os,I.bare,⟨λb o e n hb hx=>?_,λb o e n hb hx=>?_,I.base.free,λb o e hx=>?_,I.base.jN,I.base.jn,I.base.lK⟩,⟨m,hn.sameBut hs (Xp (Nd x c hc)),λj y v' e1 e2 e3=>?_⟩,λy c' e=>?_,I.free,I.gm,λp hp=>?_,tracked ⟨oc,hoc,I.gm x c hc⟩ hs,by simpa using I.len⟩ ⟨c,hs,.inr hc⟩
  ·show(hs.2 b (Yp (Yu (Yq e) (I.ok.Sq x c hfn hc)))).trans (I.base.keep b o e n hb hx)
  ·obtain⟨sl,e1⟩:=I.base.slot b o e n hb hx
   show⟨sl,(hs.2 b (Yp (Yu (Yq e) (I.ok.Sq x c hfn hc)))).trans e1⟩
  ·obtain⟨o',e1⟩:=I.base.there b o e hx
   show⟨o',(hs.2 b (Yp (Yu (Yq e) (I.ok.Sq x c hfn hc)))).trans e1⟩
  ·by_cases hj:j=i
   ·subst hj
    rw[hi]at e1;cases e1;rw[Xc hiσ]at e2;cases e2;show⟨u,r,.inr ⟨.inl hk,c,hc,EU⟩⟩
   ·rw[YA (Xp hj)]at e2
    obtain⟨u',r',q⟩:=hl j y v' e1 e2 e3;show⟨u',r',?_⟩;rcases q with q|⟨k,c',e,z'⟩
    ·show .inl q
    ·show .inr ⟨k,c',e,z'.sameBut hs ?_⟩
     rintro rfl;show hj (qE hN e1 (I.ok.inj _ _ _ e hc▸hi))
  ·by_cases hcc:c'=c
   ·subst hcc;show⟨_,EU⟩
   ·obtain⟨w2,z2⟩:=I.cell y c' e
    show⟨w2,z2.sameBut hs hcc⟩
  ·obtain⟨e,n,ne,nf,d⟩:=I.pin p hp
   show⟨(hs.2 p.1 ?_).trans e,n,ne,nf,d⟩;intro q;rw[q,hoc]at e;have q':oc=p.2:=YF e;show d w' (by rw[←q'];show VaP)
theorem p7{M:Model}{A:Around}{E:1e6}{i:Nat}{x:Str}{v:V}{u:Value}{Q:Unit->Shared->Prop}(I:2e4)(hN:X.N.Nodup)(hi:16e9)(hx:Loc X.env.scope x)(r:RelV v u)
  (h:∀s',Inv X pins (σ.set i (some v)) H s'->Q () s') (hf:7e2:=by first|show .inl rfl|show .inr rfl|assumption):wpAny M A (storeName X.env x u) Q E s:=
 mf I hN hi hx r (λs' I' _=>h s' I') hf
theorem Inv.IJ{s':Shared}{ch:3e8}(I:2e4)(ho:s'.os=s.os)(u:Un (ux X.stack) ch H H' s.heap s'.heap)(bV:iK X.prog X.w H' s'.heap)(hg:V8 s'.gens)
  (zG:∀b∈ch,(b∈X.ex\/X.s₀.heap.objs.size<=b)/\b≠X.env.locals/\(∀x c,X.env.cells.lookup x=some c->c≠b)/\∀p∈X.pn++pins,p.1≠b):Inv X pins σ H' s':=by
 obtain⟨h',g',d',t',o'⟩:=s';have e:o'=s.os:=ho;subst e;show I.call (g':=g') (t':=t') (d':=d') u bV hg zG
end
abbrev XK:=Value->Option Addr->Hp->Prop
abbrev St:=List (Option V)
abbrev VK:=V->Hp->Prop
abbrev TE:=St->Hp->VK->Prop
abbrev TT:=St->Hp->(Bool->Hp->Prop)->Prop
abbrev TA:=St->Hp->(List V->Hp->Prop)->Prop
structure Ends where
 nx:St->Hp->Prop
 rt:VK
 bk:St->Hp->Prop:=λ_ _=>False
 ct:St->Hp->Prop:=λ_ _=>False
abbrev TS:=Ends->St->Hp->Prop
def EP(X:Cx)(pins:2e2)(σ:St)(Q:VK)(u:Value)(s':Shared):Prop:=∃v H',Inv X pins σ H' s'/\RelV v u/\Q v H'
def TP(X:Cx)(pins:2e2)(σ:St)(Q:Bool->Hp->Prop)(b:Bool)(s':Shared):Prop:=∃H',Inv X pins σ H' s'/\Q b H'
def AP(X:Cx)(pins:2e2)(σ:St)(Q:List V->Hp->Prop)(us:4e1)(s':Shared):Prop:=∃vs H',Inv X pins σ H' s'/\Vals vs us/\Q vs H'
def SP(X:Cx)(pins:2e2)(D:Ends)(f:Flow)(s':Shared):Prop:=
 match f with
 |.next=>∃σ' H',Inv X pins σ' H' s'/\D.nx σ' H'
 |.brk=>∃σ' H',Inv X pins σ' H' s'/\D.bk σ' H'
 |.cont=>∃σ' H',Inv X pins σ' H' s'/\D.ct σ' H'
 |.ret u=>∃v σ' H',Inv X pins σ' H' s'/\RelV v u/\D.rt v H'
def PE(X:Cx)(e:Expr)(t:TE):Prop:=
 ∀(pins:2e2)(s:Shared)(σ:St)(H:Hp)(Q:VK),Inv X pins σ H s->t σ H Q->wpAny 3e6 X.A (eval e X.env) 15e2 X.xe s
def PT(X:Cx)(e:Expr)(t:TT):Prop:=
 ∀(pins:2e2)(s:Shared)(σ:St)(H:Hp)(Q:Bool->Hp->Prop),Inv X pins σ H s->t σ H Q->wpAny 3e6 X.A (isTrue e X.env (eval e X.env)) (TP X pins σ Q) X.xe s
def PW(X:Cx)(e:Expr)(t:TT):Prop:=
 ∀(whole:Sem Value)(pins:2e2)(s:Shared)(σ:St)(H:Hp)(Q:Bool->Hp->Prop),Inv X pins σ H s->t σ H Q->wpAny 3e6 X.A (isTrue e X.env whole) (TP X pins σ Q) X.xe s
def PA(X:Cx)(es:6e1)(t:TA):Prop:=
 ∀(pos:Pos)(pins:2e2)(s:Shared)(σ:St)(H:Hp)(Q:List V->Hp->Prop),Inv X pins σ H s->t σ H Q->wpAny 3e6 X.A (spliced (backTo pos (Yo es X.env))) (AP X pins σ Q) X.xe s
def PS(X:Cx)(st:Stmt)(t:TS):Prop:=
 ∀(pins:2e2)(s:Shared)(σ:St)(H:Hp)(D:Ends),Inv X pins σ H s->t D σ H->wpAny 3e6 X.A (exec st X.env) (SP X pins D) X.xe s
def pM(X:Cx)(st:List Stmt)(t:TS):Prop:=
 ∀(pins:2e2)(s:Shared)(σ:St)(H:Hp)(D:Ends),Inv X pins σ H s->t D σ H->wpAny 3e6 X.A (execs st X.env) (SP X pins D) X.xe s
theorem cF{α:Type}{t:Sem α}{Q Q':α->Shared->Prop}{M:Model}{A:Around}{E:1e6}{s:Shared}(h:wpAny M A t Q E s)(hQ:∀a s,Q a s->Q' a s):wpAny M A t Q' E s:=Y4 h hQ λ_ _ x=>x
section
variable{X:Cx}
noncomputable def Py (i:Nat):TE:=λσ H Q=>∃v,σ[i]? = some (some v)/\Q v H
noncomputable def tC (v:V):TE:=λ_ H Q=>Q v H
theorem BD{i:Nat}{x:Str}{pos:Pos}(hN:16e9)(hv:N7 X.env.scope x)(hd:4e3:=by decide)(rj:(x==("__classdict__":Str))=false:=by decide):PE X (.Name x pos) (Py i):=by
 sleep 7;obtain⟨v,e,h⟩:=h;obtain⟨m,hn,hl⟩:=I.loc;obtain⟨u,r,l⟩:=hl i x v hN e hv;have fin:EP X pins σ Q u s:=⟨v,H,I,r,h⟩
 rcases l with⟨hk,hm⟩|⟨hk,c,hc,iq⟩
 ·show wpAny_Name (wpAny_loadName_local I.ok.kind hk hn hm fin) hd
 ·rcases hk with hk|hk
  ·show wpAny_Name (wpAny_loadName_cell I.ok.kind hk hc iq fin) hd
  ·show wpAny_Name (wpAny_loadName_free I.ok.kind hk hc iq fin rj) hd
theorem KY{i j pos}:PE X (.Constant (.int i) j pos) (tC (.int i)):=λ_ _ _ H _ I h=>wpAny_Constant_int ⟨.int i,H,I.tok _,6e5,h⟩
theorem Ql{b j pos}:PE X (.Constant (.bool b) j pos) (tC (.bl b)):=λ_ _ _ H _ I h=>Constant_bool ⟨.bl b,H,I,rfl,h⟩
theorem KU{j pos}:PE X (.Constant .none j pos) (tC .aP):=λ_ _ _ H _ I h=>Constant_none ⟨.aP,H,I,rfl,h⟩
theorem KP{x j pos}:PE X (.Constant (.str x) j pos) (tC (.str x)):=λ_ _ _ H _ I h=>Calls.Constant_str ⟨.str x,H,I.tok _,6e5,h⟩
def Gl(X:Cx)(x:Str):Prop:=X.env.kindOf x=some .globalImplicit
theorem wa{E:1e6}{pins:2e2}{s:Shared}{σ:St}{H:Hp}{x:Str}{u:Value}{pos:Pos}{Q:1e6}(I:2e4)(hg:Gl X x)(hm:X.mg x=some u)(h:Q u s)
  (hd:4e3:=by decide):wpAny 3e6 X.A (eval (.Name x pos) X.env) Q E s:=
 VL I.ok.kind hg (Calls.loadGlobal_global (by rw[I.ok.glob];show I.mod.glob.keeps I.bk) hm h) hd
theorem N0{E:1e6}{pins:2e2}{s:Shared}{σ:St}{H:Hp}{x:Str}{u:Value}{pos:Pos}{Q:1e6}(I:2e4)(hg:Gl X x)(hm:X.mg x=none)(hv:Xb x=some u)(h:Q u s)
  (hn:x≠"__name__":=by decide) (hd:4e3:=by decide):wpAny 3e6 X.A (eval (.Name x pos) X.env) Q E s:=by
 obtain⟨mb,h1,h2⟩:=I.mod.blt;show VL I.ok.kind hg (Calls.loadGlobal_builtin (by rw[I.ok.glob];show I.mod.glob.keeps I.bk) hm (by rw[I.ok.blt];show h1.keeps I.bk) ((h2 x hn).trans hv) h) hd
theorem ox{x:Str}{v:V}{u:Value}{pos:Pos}(hg:Gl X x)(hm:X.mg x=some u)(r:RelV v u)(hd:4e3:=by decide):PE X (.Name x pos) (tC v):=
 λ_ _ _ H _ I h=>wa I hg hm ⟨v,H,I,r,h⟩ hd
theorem Gb{x:Str}{v:V}{u:Value}{pos:Pos}(hg:Gl X x)(hm:X.mg x=none)(hv:Xb x=some u)(r:RelV v u)(hn:x≠"__name__":=by decide)(hd:4e3:=by decide):PE X (.Name x pos) (tC v):=
 λ_ _ _ H _ I h=>N0 I hg hm hv ⟨v,H,I,r,h⟩ hn hd
variable{a b:Expr}{ta tb:TE}{pos:Pos}
variable{tA Zw:TT}{rest:6e1}
noncomputable def Vak (t u:TT):TT:=λσ H Q=>t σ H λc H1=>if c=true then u σ H1 Q else Q false H1
noncomputable def tOr (t u:TT):TT:=λσ H Q=>t σ H λc H1=>if c=true then Q true H1 else u σ H1 Q
noncomputable def Vae (t:TT):TT:=λσ H Q=>t σ H λc H1=>Q (!c) H1
theorem FT(ha:PT X a tA):PW X (.BoolOp .And [a] pos) tA:=by
 intro wh pins s σ H Q I h;show isTrue_and (cF (ha pins s σ H Q I h) λc s1 e=>?_);cases c with
 |true=>show isTrue_and_nil e
 |false=>show e
theorem KD(ha:PT X a tA):PW X (.BoolOp .Or [a] pos) tA:=by
 intro wh pins s σ H Q I h;show isTrue_or (cF (ha pins s σ H Q I h) λc s1 e=>?_);cases c with
 |false=>show isTrue_or_nil e
 |true=>show e
theorem KG(ha:PT X a tA)(hb:PW X (.BoolOp .And (b::rest) pos) Zw):PW X (.BoolOp .And (a::b::rest) pos) (Vak tA Zw):=by
 intro wh pins s σ H Q I h;show isTrue_and (cF 15e3 λc s1 h_=>?_);obtain⟨H1,I1,q1⟩:=h_;cases c with
 |true=>show hb wh pins s1 σ H1 Q I1 q1
 |false=>show⟨H1,I1,q1⟩
theorem Qd(ha:PT X a tA)(hb:PW X (.BoolOp .Or (b::rest) pos) Zw):PW X (.BoolOp .Or (a::b::rest) pos) (tOr tA Zw):=by
 intro wh pins s σ H Q I h;show isTrue_or (cF 15e3 λc s1 h_=>?_);obtain⟨H1,I1,q1⟩:=h_;cases c with
 |true=>show⟨H1,I1,q1⟩
 |false=>show hb wh pins s1 σ H1 Q I1 q1
theorem KJ(ha:PT X a tA):PT X (.UnaryOp .Not a pos) (Vae tA):=by
 sleep 7;show isTrue_not (ha pins s σ H (λc H1=>Q (!c) H1) I h)
noncomputable def PQ (ta tb:TE):TE:=λσ H Q=>ta σ H λx H1=>∃c,x=.bl c/\if c=true then tb σ H1 Q else Q 8e1 H1
noncomputable def PC (ta:TE):TE:=λσ H Q=>ta σ H λx H1=>∃c,x=.bl c/\Q (.bl (!c)) H1
theorem KQ{op}{t:TE}(h:PE X a t):PE X (.BoolOp op [a] pos) t:=λpins s σ H Q I hw=>BoolOp_one (h pins s σ H Q I hw)
theorem KZ(ha:PE X a ta)(hb:PE X (.BoolOp .And (b::rest) pos) tb):PE X (.BoolOp .And (a::b::rest) pos) (PQ ta tb):=by
 sleep 7;show BoolOp_and (cF 15e3 λv s1 h_=>?_);obtain⟨x,H1,I1,r1,q1⟩:=h_;obtain⟨c,rfl,q1⟩:=q1;cases r1;show XO ?_;cases c with
 |true=>show hb pins s1 σ H1 Q I1 q1
 |false=>show⟨.bl false,H1,I1,rfl,q1⟩
theorem KR(ha:PE X a ta):PE X (.UnaryOp .Not a pos) (PC ta):=by
 sleep 7;show UnaryOp_ (cF 15e3 λv s1 h_=>?_);obtain⟨x,H1,I1,r1,q1⟩:=h_;obtain⟨c,rfl,q1⟩:=q1;cases r1;show not_of (XO ⟨.bl (!c),H1,I1,rfl,q1⟩)
noncomputable def tIf (t:TT)(ta tb:TE):TE:=λσ H Q=>t σ H λc H1=>if c=true then ta σ H1 Q else tb σ H1 Q
theorem BG{c:Expr}(hc:PT X c tA)(ha:PE X a ta)(hb:PE X b tb):PE X (.IfExp c a b pos) (tIf tA ta tb):=by
 sleep 7;show wpAny_IfExp (cF (hc pins s σ H _ I h) λd s1 h_=>?_);obtain⟨H1,I1,q1⟩:=h_;cases d with
 |true=>show ha pins s1 σ H1 Q I1 q1
 |false=>show hb pins s1 σ H1 Q I1 q1
end
def fB(K:W.Frag)(H:Hp)(a:Addr)(xs:List V):Prop:=
 Rd H a (.lst xs)\/
  ∃(o:Obj)(aM:Array Value)(n:Nat),K.lookup a=some o/\o.cls=.type "list"/\o.dict=none/\o.data=.seq aM n/\aM.size<=Yt/\Vals xs aM.toList
def iz(K:W.Frag)(H:Hp)(a:Addr)(xs:List V):Prop:=
 Rd H a (.tup xs)\/
  ∃(o:Obj)(aM:Array Value)(n:Nat),K.lookup a=some o/\o.cls=.type "tuple"/\o.data=.seq aM n/\aM.size<=Yt/\Vals xs aM.toList
noncomputable def Vbe:Value->Option V
 |.none=>some .aP
 |.bool b=>some (.bl b)
 |.int i _=>some (.int i)
 |.str x _=>some (.str x)
 |.bytes b _=>some (.u7 b)
 |.float b _=>some (.O2 b)
 |.ref a=>some (.ref a)
 |.type n=>some (.ty n)
 |_=>none
theorem RelV.abs{x:V}{u:Value}(r:RelV x u):Vbe u=some x:=by
 cases x with
 |aP=>cases r;rfl
 |bl _=>cases r;rfl
 |int _=>obtain⟨t,rfl⟩:=r;rfl
 |str _=>obtain⟨t,rfl⟩:=r;rfl
 |u7 _=>obtain⟨t,rfl⟩:=r;rfl
 |O2 _=>obtain⟨t,rfl⟩:=r;rfl
 |ref _=>cases r;rfl
 |ty _=>cases r;rfl
theorem RelV.inj{x y:V}{u:Value}(r:RelV x u)(q:RelV y u):x=y:=YF (r.abs.symm.trans q.abs)
theorem Vals.inj:∀{xs ys:List V}{us:4e1},Vals xs us->Vals ys us->xs=ys
 |_,_,_,.nil,.nil=>rfl
 |_,_,_,.cons r t,.cons r' t'=>by rw[r.inj r',Vals.inj t t']
section
variable{X:Cx}{pins:2e2}{σ:St}{H:Hp}{s:Shared}{a:Addr}{xs ys:List V}
theorem fB.of{K:W.Frag}(h:H a=some (.lst xs)):fB K H a xs:=.inl (.inl h)
theorem Inv.list(I:2e4)(h:fB X.K H a xs):∃aM:List Value,Vals xs aM/\PlainL s.heap a aM.toArray/\xs.length<=sizeLine:=by
 rcases h with h|⟨o,aM,n,hk,hc,hd,hs,hz,r⟩
 ·obtain⟨z,aM,n,r,e⟩:=h.ok I.bV
  show⟨aM,r,⟨_,n,e,rfl,rfl,rfl⟩,z⟩
 ·show⟨aM.toList,r,⟨o,n,I.kI a o hk,hc,hd,by simpa using hs⟩,?_⟩
  have e:=r.length;simp only[X2]at e;lia
theorem Inv.tuple(I:2e4)(h:iz X.K H a xs):∃aM:List Value,Vals xs aM/\IsTup s.heap a aM.toArray/\xs.length<=sizeLine:=by
 rcases h with h|⟨o,aM,n,hk,hc,hs,hz,r⟩
 ·obtain⟨z,aM,r,p⟩:=h.ok I.bV
  show⟨aM,r,p,z⟩
 ·show⟨aM.toList,r,⟨o,I.kI a o hk,hc,n,by simpa using hs⟩,?_⟩
  have e:=r.length;simp only[X2]at e;lia
theorem Inv.kF(I:2e4)(h:fB X.K H a xs)(h':fB X.K H a ys):xs=ys:=by
 obtain⟨aM,r,⟨o,n,e,_,_,d⟩,_⟩:=I.list h;obtain⟨its',r',⟨o',n',e',_,_,d'⟩,_⟩:=I.list h';rw[e]at e';cases e';rw[d]at d';injection d' with d1 _;have:aM=its':=by simpa using congrArg Array.toList d1
 subst this;show r.inj r'
theorem Inv.md(I:2e4)(h:iz X.K H a xs)(h':iz X.K H a ys):xs=ys:=by
 obtain⟨aM,r,⟨o,e,_,n,d⟩,_⟩:=I.tuple h;obtain⟨its',r',⟨o',e',_,n',d'⟩,_⟩:=I.tuple h';rw[e]at e';cases e';rw[d]at d';injection d' with d1 _;have:aM=its':=by simpa using congrArg Array.toList d1
 subst this;show r.inj r'
end
noncomputable abbrev Cx.lJ (X:Cx)(E:1e6):Cx:={X with xe:=E}
abbrev Cx.Oy(X:Cx):Cx:=X.lJ λ_ _=>False
theorem Cx.Ok.lJ{X:Cx}(ok:X.Ok)(E:1e6):(X.lJ E).Ok:=
 ⟨ok.mod,ok.kind,ok.glob,ok.blt,ok.above,ok.inj,ok.has,ok.Sq,ok.hd,ok.frames,ok.Zx,ok.exf,ok.bs,ok.Hs,ok.qD,ok.CU,ok.kQ,ok.O1⟩
theorem Cx.Ok.gL{X:Cx}{E:1e6}(ok:(X.lJ E).Ok):X.Ok:=
 ⟨ok.mod,ok.kind,ok.glob,ok.blt,ok.above,ok.inj,ok.has,ok.Sq,ok.hd,ok.frames,ok.Zx,ok.exf,ok.bs,ok.Hs,ok.qD,ok.CU,ok.kQ,ok.O1⟩
section
variable{X:Cx}{pins:2e2}{σ:St}{H:Hp}{s:Shared}{E:1e6}
theorem Inv.lJ(I:2e4)(E:1e6):Inv (X.lJ E) pins σ H s:=⟨I.ok.lJ E,I.os,I.bare,I.base,I.loc,I.cell,I.free,I.gm,I.pin,I.bV,I.len⟩
theorem Inv.gL(I:Inv (X.lJ E) pins σ H s):Inv X pins σ H s:=⟨I.ok.gL,I.os,I.bare,I.base,I.loc,I.cell,I.free,I.gm,I.pin,I.bV,I.len⟩
theorem SP.gL{D:Ends}{f:Flow}{s':Shared}(h:SP (X.lJ E) pins D f s'):SP X pins D f s':=by
 cases f with
 |next=>obtain⟨σ',H',I,q⟩:=h;show⟨σ',H',I.gL,q⟩
 |brk=>obtain⟨σ',H',I,q⟩:=h;show⟨σ',H',I.gL,q⟩
 |cont=>obtain⟨σ',H',I,q⟩:=h;show⟨σ',H',I.gL,q⟩
 |ret u=>obtain⟨v,σ',H',I,r,q⟩:=h;show⟨v,σ',H',I.gL,r,q⟩
theorem pM.Oy{st:List Stmt}{t:TS}(h:pM X.Oy st t):pM X st t:=λpins s σ H D I hw=>
 Y4 (h pins s σ H D (I.lJ _) hw) (λ_ _ q=>q.gL) λ_ _ z=>Wu z
end
section
variable{X:Cx}{st:Stmt}{rest:List Stmt}{t u:TS}{e:Expr}{te:TE}{pos:Pos}
noncomputable def PD:TS:=λD σ H=>D.nx σ H
noncomputable def Vac (t u:TS):TS:=λD σ H=>t {D with nx:=u D} σ H
theorem F0:pM X [] PD:=λ_ _ σ H _ I h=>V9 ⟨σ,H,I,h⟩
theorem Bu(h1:PS X st t)(h2:pM X rest u):pM X (st::rest) (Vac t u):=by
 intro pins s σ H D I h;show wpAny_execs_cons (cF (h1 pins s σ H {D with nx:=u D} I h) λf s1 q=>?_);cases f with
 |next=>
  obtain⟨σ',H',I',q⟩:=q;show h2 pins s1 σ' H' D I' q
 |ret v=>show q
 |brk=>show q
 |cont=>show q
theorem FZ(h1:PS X st t):pM X [st] t:=by
 intro pins s σ H D I h;show wpAny_execs_cons (cF (h1 pins s σ H D I h) λf s1 q=>?_);cases f with
 |next=>show V9 q
 |ret v=>show q
 |brk=>show q
 |cont=>show q
theorem Inv.quiet{pins:2e2}{σ:St}{H:Hp}{s:Shared}(I:2e4):interactive X.env=false:=by simp[interactive,I.ok.kind]
noncomputable def PJ (te:TE):TS:=λD σ H=>te σ H λ_ H1=>D.nx σ H1
theorem F3(he:PE X e te)(hs:Wy e none pos.line X.env=pure false:=by rfl):PS X (.Expr e pos) (PJ te):=by
 intro pins s σ H D I h;show wpAny_Expr_any (cF (he pins s σ H _ I h) λv s1 ⟨x,H1,I1,r1,q1⟩=>⟨σ,H1,I1,q1⟩) I.quiet hs
noncomputable def Vad (te:TE):TS:=λD σ H=>te σ H D.rt
theorem tP(he:PE X e te):PS X (.Return (some e) pos) (Vad te):=by
 intro pins s σ H D I h;show wpAny_Return_some (cF (he pins s σ H _ I h) λv s1 ⟨x,H1,I1,r1,q1⟩=>⟨x,σ,H1,I1,r1,q1⟩)
noncomputable def Vai (c:TT)(t u:TS):TS:=λD σ H=>c σ H λb H1=>if b=true then t D σ H1 else u D σ H1
theorem Qe{c:Expr}{a b:List Stmt}{tc:TT}(hc:PT X c tc)(ha:pM X a t)(hb:pM X b u):PS X (.If c a b pos) (Vai tc t u):=by
 intro pins s σ H D I h;show wpAny_If (cF (hc pins s σ H _ I h) λd s1 h_=>?_);obtain⟨H1,I1,q1⟩:=h_;cases d with
 |true=>show ha pins s1 σ H1 D I1 q1
 |false=>show hb pins s1 σ H1 D I1 q1
end
abbrev TG:=V->St->Hp->(St->Hp->Prop)->Prop
abbrev HA:=List V->St->Hp->(St->Hp->Prop)->Prop
def PG(X:Cx)(target:Expr)(t:TG):Prop:=
 ∀(pins:2e2)(s:Shared)(σ:St)(H:Hp)(v:V)(u:Value)(Q:St->Hp->Prop),Inv X pins σ H s->RelV v u->t v σ H Q->
  wpAny 3e6 X.A (assign target X.env u) (λ_ s'=>∃σ' H',Inv X pins σ' H' s'/\Q σ' H') X.xe s
def Fi(X:Cx)(ts:6e1)(t:HA):Prop:=
 ∀(pins:2e2)(s:Shared)(σ:St)(H:Hp)(vs:List V)(us:4e1)(Q:St->Hp->Prop),Inv X pins σ H s->Vals vs us->t vs σ H Q->
  wpAny 3e6 X.A (assignInOrder ((Wf ts X.env).map (·.2)) us) (λ_ s'=>∃σ' H',Inv X pins σ' H' s'/\Q σ' H') X.xe s
abbrev N9:=V->V->V->Hp->(Hp->Prop)->Prop
def TF(X:Cx)(t:N9):Prop:=
 ∀(pins:2e2)(s:Shared)(σ:St)(H:Hp)(o i v:V)(ov iv u:Value)(Q:Hp->Prop),Inv X pins σ H s->RelV o ov->RelV i iv->RelV v u->t o i v H Q->
  wpAny 3e6 X.A (setItem ov iv u) (λ_ s'=>∃H',Inv X pins σ H' s'/\Q H') X.xe s
section
variable{X:Cx}{pos:Pos}
noncomputable def IC (i:Nat):TG:=λv σ H Q=>Q (σ.set i (some v)) H
theorem F'{i:Nat}{x:Str}(hN:X.N.Nodup)(hi:16e9)(hx:Loc X.env.scope x)(hf:7e2:=by first|show .inl rfl|show .inr rfl|assumption):PG X (.Name x pos) (IC i):=by
 intro pins s σ H v u Q I r h;show wpAny_assign_Name (p7 I hN hi hx r (λs' I'=>⟨_,H,I',h⟩) hf)
noncomputable def Va8:HA:=λvs σ H Q=>vs=[]/\Q σ H
noncomputable def RZ (t:TG)(u:HA):HA:=λvs σ H Q=>∃v r,vs=v::r/\t v σ H λσ' H'=>u r σ' H' Q
theorem F9:Fi X [] Va8:=by
 intro pins s σ H vs us Q I r h;obtain⟨e,h⟩:=h;subst e;cases r;show assignInOrder_nil ⟨σ,H,I,h⟩
theorem BC{e:Expr}{es:6e1}{t:TG}{u:HA}(h1:PG X e t)(h2:Fi X es u)
  (hs:(Wf 7e6 X.env).map (·.2)=assign e X.env::(Wf es X.env).map (·.2):=by rfl):Fi X 7e6 (RZ t u):=by
 intro pins s σ H vs us Q I r h;obtain⟨v,vr,e1,h⟩:=h;subst e1;cases r with
 |cons r rr=>
  rw[hs];show assignInOrder_cons (cF (h1 pins s σ H _ _ _ I r h) λ_ s1 h_=>?_);obtain⟨σ1,H1,I1,q1⟩:=h_;show h2 pins s1 σ1 H1 _ _ Q I1 rr q1
noncomputable def Va6 (K:W.Frag)(n:Nat)(t:HA):TG:=λv σ H Q=>∃a xs,v=.ref a/\iz K H a xs/\xs.length=n/\t xs σ H Q
theorem KN{es:6e1}{k:Nat}{t:HA}{n:Nat}(hc:11e1)(h:Fi X es t)
  (hn:(Wf es X.env).length=n:=by rfl) (yQ:(Wf es X.env).findIdx? (·.1)=none:=by rfl):PG X (.Tuple es k pos) (Va6 X.K n t):=by
 intro pins s σ H v u Q I r hw;obtain⟨a,xs,e1,hq,hl,hw⟩:=hw;subst e1;cases r;obtain⟨aM,rv,ht,hz⟩:=I.tuple hq;show assign_Tuple_tuple (I.ok.hd hc) ht (by simp[hn,←hl,rv.length]) yQ λh' hx=>?_;have I1:Inv X pins σ H {s with heap:=h'}:=I.kept (t':=s.toks) λb o e=>hx b o (Yp (Yq e)) e;show h pins _ σ H xs _ Q I1 (by simpa using rv) hw
noncomputable def Va7 (to ti:TE)(t:N9):TG:=λv σ H Q=>to σ H λo H1=>ti σ H1 λi H2=>t o i v H2 λH3=>Q σ H3
theorem KO{o i:Expr}{to ti:TE}{t:N9}(ho:PE X o to)(hi:PE X i ti)(hs:TF X t)
  (ha:∀v,assign (.Subscript o i pos) X.env v=(do
   let ov ←Ua [v] (eval o X.env)
   let iv ←Ua [v,ov] (eval i X.env)
   standAt pos
   Ua [v,ov,iv] (setItem ov iv v)
   release [v,ov,iv] []):=by intro _;rfl):PG X (.Subscript o i pos) (Va7 to ti t):=by
 intro pins s σ H v u Q I r h;rw[ha];show Ya (Xs (cF (ho pins s σ H _ I h) λov s1 h_=>?_));obtain⟨x,H1,I1,r1,q1⟩:=h_;show Ya (Xs (cF (hi pins s1 σ H1 _ I1 q1) λiv s2 h_=>?_));obtain⟨y,H2,I2,r2,q2⟩:=h_;show Ya (WI (Ya (Xs (cF (hs pins s2 σ H2 x y v ov iv u _ I2 r1 r2 r q2) λ_ s3 h_=>?_))));obtain⟨H3,I3,q3⟩:=h_;show wpAny_release ⟨σ,H3,I3,q3⟩
noncomputable def PN (te:TE)(g:TG):TS:=λD σ H=>te σ H λx H1=>g x σ H1 D.nx
theorem Bx{tg e:Expr}{te:TE}{g:TG}(he:PE X e te)(hg:PG X tg g)(hs:swapsWithSole [tg] e pos.line X.env=pure false:=by rfl)(hw:swappedStores [tg] e X.env=pure none:=by rfl)
  (h1:(Wf [tg] X.env).map (·.2)=[assign tg X.env]:=by rfl):PS X (.Assign [tg] e pos) (PN te g):=by
 intro pins s σ H D I h;show wpAny_Assign_stores (cF (he pins s σ H _ I h) λv s1 ⟨x,H1,I1,r1,q1⟩=>?_) hs hw;rw[h1];show cF (hg pins s1 σ H1 x v _ I1 r1 q1) λ_ s2 q=>q
theorem ot{i:Nat}{x:Str}{e:Expr}{te:TE}{pos':Pos}(hN:X.N.Nodup)(hi:16e9)(hx:Loc X.env.scope x)(he:PE X e te)(hs:Wy e (some (.Name x pos')) pos.line X.env=pure false:=by rfl)(hf:7e2:=by first|show .inl rfl|show .inr rfl|assumption):
  PS X (.Assign [.Name x pos'] e pos) (PN te (IC i)):=by
 intro pins s σ H D I h;show wpAny_Assign_Name (cF (he pins s σ H _ I h) λv s1 ⟨y,H1,I1,r1,q1⟩=>?_) hs;show p7 I1 hN hi hx r1 (λs2 I2=>⟨_,H1,I2,q1⟩) hf
end
structure It where
 go:Nat->Hp->Prop
 zS:Nat->Hp->V->Hp->Prop
 stop:Nat->Hp->Prop
def fe(X:Cx)(pins:2e2)(H:Hp)(b:Addr):Prop:=
 H b=none/\b≠X.env.locals/\b∉X.fs/\(b∈X.ex\/X.s₀.heap.objs.size<=b)/\(∀x c,X.env.cells.lookup x=some c->c≠b)/\∀p∈X.pn++pins,p.1≠b
theorem Inv.G8{X:Cx}{pins:2e2}{σ:St}{H H':Hp}{s:Shared}{b:Addr}(I:2e4)(hb:s.heap.objs.size<=b)(hn:H' b=none):fe X pins H' b:=by
 show⟨hn,XI (Yu I.lt hb),I.Qr hb,.inr (YI I.sz hb),λx c e z=>?_,λp hp z=>?_⟩
 ·obtain⟨v,q⟩:=I.cell x c e
  show absurd (Yu q.lt (by rw[z];show hb)) (XZ _)
 ·show absurd (Yu (Yq (I.pin p hp).1) (by rw[z];show hb)) (XZ _)
structure Turn(P:Ys)(w:World)(K:W.Frag)(tg:Expr)(J:It)(fp:List Addr)(it:Addr)(tn:Nat->Heap->Prop):Prop where
 mem:it∈fp
 obj:∀i h,tn i h->∀b∈fp,∃o,h.get? b=some o/\∀v,o.data≠.cell v
 keep:∀i h h',tn i h->(∀b∈fp,∀o,h.get? b=some o->h'.get? b=some o)->tn i h'
 item:∀(X:Cx),X.prog=P->X.w=w->X.K=K->X.calm=true->∀(i:Nat)(pins:2e2)(s:Shared)(σ:St)(H:Hp)(E:1e6),Inv X pins σ H s->(∀b∈fp,fe X pins H b)->tn i s.heap->J.go i H->
  wpAny (model P w) X.A (pyNext (.ref it)) (λr s1=>∃u,r=some u/\
   wpAny (model P w) X.A (X3 tg (.ref it) u) (λ_ s2=>∃x H',Inv X pins σ H' s2/\RelV x u/\J.zS i H x H'/\tn (i+1) s2.heap/\∀b∈fp,H' b=none) E s1) E s
 done:∀(X:Cx),X.prog=P->X.w=w->X.K=K->X.calm=true->∀(i:Nat)(pins:2e2)(s:Shared)(σ:St)(H:Hp)(E:1e6),Inv X pins σ H s->(∀b∈fp,fe X pins H b)->tn i s.heap->J.stop i H->
  wpAny (model P w) X.A (pyNext (.ref it)) (λr s1=>r=none/\Inv X pins σ H s1) E s
 self:∀(A:Around)(i:Nat)(s:Shared)(Q:1e6)(E:1e6),tn i s.heap->Q (.ref it) s->wpAny (model P w) A (pyIter (.ref it)) Q E s
abbrev TI:=St->Hp->(It->Hp->Prop)->Prop
def PIE(X:Cx)(pins:2e2)(σ:St)(tg:Expr)(R:It->Hp->Prop)(OH:Value)(s2:Shared):Prop:=
 ∃(it:Addr)(fp:3e8)(tn:Nat->Heap->Prop)(J:It)(H':Hp),OH=.ref it/\Inv X pins σ H' s2/\Turn X.prog X.w X.K tg J fp it tn/\tn 0 s2.heap/\(∀b∈fp,fe X pins H' b)/\R J H'
def PI(X:Cx)(tg iter:Expr)(wi:TI):Prop:=
 ∀(pins:2e2)(s:Shared)(σ:St)(H:Hp)(R:It->Hp->Prop),Inv X pins σ H s->wi σ H R->
  wpAny 3e6 X.A (eval iter X.env) (λv s1=>wpAny 3e6 X.A (pyIter v) (PIE X pins σ tg R) X.xe s1) X.xe s
theorem wB{M:Model}{A:Around}{E:1e6}{s:Shared}{tg:Expr}{it:Addr}{u:Value}{o:Obj}{n:String}{vs:Array Value}{Q:Unit->Shared->Prop}(ho:s.heap.get? it=some o)(hc:o.cls=.type n)(hd:o.data=.fields vs)
    (hn:["enumerate","zip","dict_itemiterator","dict_reverseitemiterator","odict_iterator","itertools.zip_longest","itertools.pairwise"].contains n=false) (hQ:Q () s):wpAny M A (X3 tg (.ref it) u) Q E s:=by
  ext X3;cases tg<;>first
    |show Ye hQ
    | (cases u<;>first
        |show Ye hQ
        | (show Ya (wpAny_load ho ?_)
           rw[hc,hd];change wpAny M A (if(["enumerate","zip","dict_itemiterator","dict_reverseitemiterator","odict_iterator","itertools.zip_longest","itertools.pairwise"].contains n&&vs[0]?==some (rawInt _))=true then _ else _) Q E s;rw[if_neg (by intro h;rw[hn,Bool.false_and]at h;cases h)];show Ye hQ))
noncomputable def Itl (K:W.Frag)(a:Addr):It:=
 ⟨λi H=>∃xs x,fB K H a xs/\xs[i]? = some x,λi H x H'=>H'=H/\∀xs,fB K H a xs->xs[i]? = some x,λi H=>∃xs,fB K H a xs/\xs.length<=i⟩
noncomputable def Itt (K:W.Frag)(a:Addr):It:=
 ⟨λi H=>∃xs x,iz K H a xs/\xs[i]? = some x,λi H x H'=>H'=H/\∀xs,iz K H a xs->xs[i]? = some x,λi H=>∃xs,iz K H a xs/\xs.length<=i⟩
noncomputable def TQ (lo:Int)(n:Nat):It:=⟨λi _=>i<n,λi H x H'=>H'=H/\x=.int (lo+i),λi _=>n<=i⟩
theorem xK{P:Ys}{w:World}{K:W.Frag}{tg:Expr}(a it:Addr):Turn P w K tg (Itl K a) [it] it (λi h=>h.IsListIter it a i) where
 mem:=by simp
 obj:=λi h st b hb=>by
  have e:b=it:=by simpa using hb
  subst e;obtain⟨o,e,c,d⟩:=st;show⟨o,e,λv z=>by rw[d]at z;cases z⟩
 keep:=λi h h' st k=>st.at λo e=>k it 4e4 o e
 item:=by
  sleep 3;obtain⟨xs,x,hq,hx⟩:=hg;obtain⟨aM,rv,p,hz⟩:=I.list hq;obtain⟨u,hu,ru⟩:=rv.get hx;sleep 16;show wpAny_pyNext_list_item st p.isList (x:=u) (by simpa using hu) λh' mh sb=>?_;have I1:Inv X pins σ H {s with heap:=h'}:=I.turned (t':=s.toks) (λb o hb e=>(sb.2 b hb).trans e) f0 f1 f3 f4 f5;obtain⟨o,e,c,d⟩:=id mh;show⟨u,rfl,wB (s:={s with heap:=h'}) e c d (by decide) ⟨x,H,I1,ru,⟨rfl,λys hy=>by rw[I.kF hy hq];show hx⟩,mh,λb hb=>(hf b hb).1⟩⟩
 done:=by
  sleep 3;obtain⟨xs,hq,hx⟩:=hg;obtain⟨aM,rv,p,hz⟩:=I.list hq;sleep 16;have hl:=rv.length;show wpAny_pyNext_list_end (I.ok.hd hc) st p.isList 14e9 λh' eb=>⟨rfl,I.turned (t':=s.toks) (λb o hb e=>eb b o hb e) f0 f1 f3 f4 f5⟩
 self:=λ_ _ _ _ _ st h=>wpAny_pyIter_listiter st h
theorem sX{P:Ys}{w:World}{K:W.Frag}{tg:Expr}(a it:Addr):Turn P w K tg (Itt K a) [it] it (λi h=>h.IsTupleIter it a i) where
 mem:=by simp
 obj:=λi h st b hb=>by
  have e:b=it:=by simpa using hb
  subst e;obtain⟨o,e,c,d⟩:=st;show⟨o,e,λv z=>by rw[d]at z;cases z⟩
 keep:=λi h h' st k=>st.at λo e=>k it 4e4 o e
 item:=by
  sleep 3;obtain⟨xs,x,hq,hx⟩:=hg;obtain⟨aM,rv,p,hz⟩:=I.tuple hq;obtain⟨u,hu,ru⟩:=rv.get hx;sleep 16;show wpAny_pyNext_tuple_item st (show s.heap.IsTuple a aM.toArray from p) (x:=u) (by simpa using hu) λh' mh sb=>?_;have I1:Inv X pins σ H {s with heap:=h'}:=I.turned (t':=s.toks) (λb o hb e=>(sb.2 b hb).trans e) f0 f1 f3 f4 f5;obtain⟨o,e,c,d⟩:=id mh;show⟨u,rfl,wB (s:={s with heap:=h'}) e c d (by decide) ⟨x,H,I1,ru,⟨rfl,λys hy=>by rw[I.md hy hq];show hx⟩,mh,λb hb=>(hf b hb).1⟩⟩
 done:=by
  sleep 3;obtain⟨xs,hq,hx⟩:=hg;obtain⟨aM,rv,p,hz⟩:=I.tuple hq;sleep 16;have hl:=rv.length;show wpAny_pyNext_tuple_end (I.ok.hd hc) st (show s.heap.IsTuple a aM.toArray from p) 14e9 λh' eb=>⟨rfl,I.turned (t':=s.toks) (λb o hb e=>eb b o hb e) f0 f1 f3 f4 f5⟩
 self:=λ_ _ _ _ _ st h=>wpAny_pyIter_tupleiter st h
theorem sY{P:Ys}{w:World}{K:W.Frag}{tg:Expr}(it:Addr)(lo:Int)(n:Nat):Turn P w K tg (TQ lo n) [it] it (λi h=>IsRangeIter h it (lo+(i:Nat)*1) ((n:Int)-(i:Nat)) 1) where
 mem:=by simp
 obj:=λi h st b hb=>by
  have e:b=it:=by simpa using hb
  subst e;show⟨_,st,λv z=>by
   have z':Data.fields _=Data.cell v:=z;cases z'⟩
 keep:=λi h h' st k=>k it 4e4 _ st
 item:=by
  sleep 3;sleep 16;have W:=Walks.range (prog:=X.prog) (w:=X.w) (I.ok.hd hc) it lo 1 n;show W.item i s _ _ hg st λv h' tk hv mh kk=>?_;obtain⟨t,rfl⟩:=hv;have I1:Inv X pins σ H {s with heap:=h',toks:=tk}:=I.turned (λb o hb e=>kk b o (by simpa using hb) e) f0 f1 f3 f4 f5;show⟨_,rfl,wB (s:={s with heap:=h',toks:=tk}) (n:="range_iterator") mh rfl rfl (by decide) ⟨.int (lo+i),H,I1,⟨t,?_⟩,⟨rfl,rfl⟩,mh,λb hb=>(hf b hb).1⟩⟩;rw[Int.mul_one]
 done:=by
  sleep 3;sleep 16;show wpAny_pyNext_range_end (I.ok.hd hc) st (by have:n<=i:=hg;lia) λh' eb=>⟨rfl,I.turned (t':=s.toks) (λb o hb e=>eb b o hb e) f0 f1 f3 f4 f5⟩
 self:=λ_ _ _ _ _ st h=>wpAny_pyIter_rangeiter st h
section
variable{X:Cx}{tg:Expr}
theorem qi{pins:2e2}{σ:St}{H:Hp}{s:Shared}{R:It->Hp->Prop}{E:1e6}{lo hi:Int}{t u v:Tok}{tk:Nat}(I:2e4)(h1:-(2^62)<=lo)(h2:lo<2^62)(h3:-(2^62)<=hi)(h4:hi<2^62)
  (q:R (TQ lo (hi-lo).toNat) H):wpAny 3e6 X.A (pyIter 11e4) (PIE X pins σ tg R) E {s with heap:=s.heap.push {cls:=.type "range",data:=.fields #[.int lo t,.int hi u,.int 1 v]},toks:=tk}:=by
 show wpAny_pyIter_range (IsRange.new ..) (small_one h1 h2 h3 h4) ?_;have I1:Inv X pins σ H {s with heap:=s.heap.push {cls:=.type "range",data:=.fields #[.int lo t,.int hi u,.int 1 v]},toks:=tk}:=I.kept λb o e=>Yb _ e;show⟨(s.heap.push {cls:=.type "range",data:=.fields #[.int lo t,.int hi u,.int 1 v]}).objs.size,[(s.heap.push {cls:=.type "range",data:=.fields #[.int lo t,.int hi u,.int 1 v]}).objs.size],_,_,H,rfl,
  I1.kept (t':=tk) λb o e=>Yb _ e,sY _ lo (hi-lo).toNat,?_,λb hb=>?_,q⟩
 ·have e1:lo+((0:Nat):Int)*1=lo:=by simp
  have e2:(((hi-lo).toNat:Nat):Int)-((0:Nat):Int)=Builtin.Range.rangeSize lo hi 1:=by rw[rangeSize_one];split<;>lia
  change IsRangeIter _ _ (lo+((0:Nat):Int)*1) ((((hi-lo).toNat:Nat):Int)-((0:Nat):Int)) 1;rw[e1,e2];show Yw _ rfl
 ·have e:b=(s.heap.push {cls:=.type "range",data:=.fields #[.int lo t,.int hi u,.int 1 v]}).objs.size:=by simpa using hb
  subst e;show I1.G8 (Yl _) (I1.bV.fresh (Yl _))
def Q9(ta:TA):TI:=λσ H R=>ta σ H λvs H1=>∃j:Int,vs=[.int j]/\-(2^62)<=j/\j<2^62/\R (TQ 0 j.toNat) H1
def Q8(ta:TA):TI:=λσ H R=>ta σ H λvs H1=>∃i j:Int,vs=[.int i,.int j]/\(-(2^62)<=i/\i<2^62/\-(2^62)<=j/\j<2^62)/\R (TQ i (j-i).toNat) H1
theorem yq{a:Expr}{ta:TA}{p pos:Pos}(hg:Gl X "range")(hm:X.mg "range"=none)(ha:PA X [a] ta)(hs:Yo [a] X.env=[(false,eval a X.env)]:=by rfl):PI X tg (.Call (.Name "range" p) [a] [] pos) (Q9 ta):=by
 intro pins s σ H R I h;show Call_ (N0 I hg hm boot_range (XE (cF (ha pos pins s σ H _ I h) λus s1 ⟨vs,H1,I1,r1,q1⟩=>?_) hs rfl));obtain⟨j,e,q1,q2,q⟩:=q1;subst e;cases r1 with
 |cons r rr=>
  cases rr;obtain⟨t,rfl⟩:=r;show call_range_1 (qi I1 1e4 1e4 q1 q2 (by simpa using q))
theorem yp{a b:Expr}{ta:TA}{p pos:Pos}(hg:Gl X "range")(hm:X.mg "range"=none)(ha:PA X [a,b] ta)(hs:Yo [a,b] X.env=[(false,eval a X.env),(false,eval b X.env)]:=by rfl)(mY:Yo [b] X.env=[(false,eval b X.env)]:=by rfl):
  PI X tg (.Call (.Name "range" p) [a,b] [] pos) (Q8 ta):=by
 intro pins s σ H R I h;show Call_ (N0 I hg hm boot_range (XE (cF (ha pos pins s σ H _ I h) λus s1 ⟨vs,H1,I1,r1,q1⟩=>?_) (by rw[hs,mY]) (by rw[mY];rfl)));obtain⟨i,j,e,⟨q1,q2,q3,q4⟩,q⟩:=q1;subst e;cases r1 with
 |cons r rr=>
  cases rr with
  |cons r' rr=>
   cases rr;obtain⟨t,rfl⟩:=r;obtain⟨t',rfl⟩:=r';show call_range_2 (qi I1 q1 q2 q3 q4 q)
noncomputable def Vaj (wi:TI)(g:TG)(tb:TS):TS:=λD σ H=>wi σ H λJ H1=>∃W:Nat->Nat->St->Hp->Prop,(∃m,W 0 m σ H1)/\∀i m σ H,W i m σ H->
 (J.stop i H/\D.nx σ H)\/(J.go i H/\∃N:St->Hp->Prop,(∀σ' H',N σ' H'->∃m',m'<m/\W (i+1) m' σ' H')/\∀x H',J.zS i H x H'->g x σ H' λσ2 H2=>tb {D with nx:=N,ct:=N,bk:=D.nx} σ2 H2)
noncomputable def gb (fp:3e8)(h:Heap):List (Addr×Obj):=fp.filterMap λb=>(h.get? b).map λo=>(b,o)
theorem Jc{fp:3e8}{h:Heap}{b:Addr}{o:Obj}(hb:b∈fp)(e:h.get? b=some o):(b,o)∈gb fp h:=List.mem_filterMap.mpr ⟨b,hb,by rw[e];rfl⟩
theorem mD{fp:3e8}{h:Heap}{p:Addr×Obj}(hp:p∈gb fp h):p.1∈fp/\h.get? p.1=some p.2:=by
 obtain⟨b,hb,e⟩:=List.mem_filterMap.mp hp;cases q:h.get? b with
 |none=>rw[q]at e;cases e
 |some o=>
  rw[q]at e;have e':(b,o)=p:=YF e;subst e';show⟨hb,q⟩
theorem Inv.pinned{pins:2e2}{σ:St}{H:Hp}{s:Shared}{fp:3e8}(I:2e4)(hf:∀b∈fp,fe X pins H b)(ho:∀b∈fp,∃o,s.heap.get? b=some o/\∀v,o.data≠.cell v):Inv X (pins++gb fp s.heap) σ H s:=
 I.g6 λp hp=>(Yy.mp hp).elim (λz=>I.pin p (Ym _ z)) λz=>by
  obtain⟨hb,e⟩:=mD z;obtain⟨f0,f1,f2,_⟩:=hf p.1 hb;obtain⟨o,e',d⟩:=ho p.1 hb;rw[e]at e';cases e';show⟨e,f0,f1,f2,d⟩
theorem Inv.fM{pins pl:2e2}{σ:St}{H:Hp}{s:Shared}(I:Inv X (pins++pl) σ H s):Inv X pins σ H s:=I.g6 λp hp=>I.pin p (Ym _ (YM _ hp))
theorem Bv{iter:Expr}{body:List Stmt}{wi:TI}{g:TG}{tb:TS}{pos:Pos}(hp:PassesOwn 3e6 X.A X.env X.xe)(hc:11e1)(hi:PI X tg iter wi)(hg:PG X tg g)(hb:pM X body tb)
  (hs:16e3:=by intro _;rfl):PS X (.For tg iter body [] pos) (Vaj wi g tb):=by
 intro pins s σ H D I h;show wpAny_For (cF (hi pins s σ H _ I h) λv s1 h1=>cF h1 λOH s2 h2=>?_) hs;obtain⟨it,fp,tn,J,H2,e,I2,T,st2,f2,W,⟨m0,w0⟩,turn⟩:=h2;subst e;have gM:∀{H':Hp},13e4->∀b∈fp,fe X pins H' b:=λhn b hb=>⟨hn b hb,(f2 b hb).2⟩
 show codeAny_forLoop_any (λn s'=>∃i σ' H',Inv X pins σ' H' s'/\tn i s'.heap/\13e4/\W i n σ' H') ?_ m0 ⟨0,σ,H2,I2,st2,λb hb=>(f2 b hb).1,w0⟩;rintro n s3 ⟨i,σ3,H3,I3,jh,m7,w3⟩;rcases turn i n σ3 H3 w3 with⟨stop,qn⟩|⟨go,N,hN,step⟩
 ·show W4 hp (cF (T.done X rfl rfl rfl hc i pins s3 σ3 H3 X.xe I3 (gM m7) jh stop) λr s4 h_=>?_)
  obtain⟨hr,I4⟩:=h_;subst hr;show V9 ⟨σ3,H3,I4,qn⟩
 ·show W4 hp (cF (T.item X rfl rfl rfl hc i pins s3 σ3 H3 X.xe I3 (gM m7) jh go) λr s4 h_=>?_)
  obtain⟨u,hr,h4⟩:=h_;subst hr;show W4 hp (cF h4 λ_ s5 h_=>?_);obtain⟨x,H5,I5,r5,y5,lL,MX⟩:=h_;have I5':=I5.pinned (gM MX) (T.obj _ _ lL);show W4 hp (cF (hg _ s5 σ3 H5 x u _ I5' r5 (step x H5 y5)) λ_ s6 h_=>?_);obtain⟨σ6,H6,I6,q6⟩:=h_;show W4 hp (cF (hb _ s6 σ6 H6 _ I6 q6) λf s7 q7=>?_);have again:∀{σ7:St}{H7:Hp},Inv X (pins++gb fp s5.heap) σ7 H7 s7->N σ7 H7->∃m,m<n/\∃i σ' H',Inv X pins σ' H' s7/\tn i s7.heap/\13e4/\W i m σ' H':=λ{σ7 H7} I7 n7=>by
   obtain⟨m',hm,w7⟩:=hN σ7 H7 n7;show⟨m',hm,i+1,σ7,H7,I7.fM,T.keep _ _ _ lL λb hb o e=>(I7.pin (b,o) (Ym _ (Ym _ (Jc hb e)))).1,λb hb=>?_,w7⟩;obtain⟨o,e,d⟩:=T.obj _ _ lL b hb;show(I7.pin (b,o) (Ym _ (Ym _ (Jc hb e)))).2.1
  cases f with
  |next=>obtain⟨σ7,H7,I7,n7⟩:=q7;show again I7 n7
  |cont=>obtain⟨σ7,H7,I7,n7⟩:=q7;show again I7 n7
  |brk=>obtain⟨σ7,H7,I7,q7⟩:=q7;show⟨σ7,H7,I7.fM,q7⟩
  |ret v=>obtain⟨x7,σ7,H7,I7,r7,q7⟩:=q7;show⟨x7,σ7,H7,I7.fM,r7,q7⟩
end
abbrev R2:=V->V->Hp->VK->Prop
def dY(X:Cx)(f:Value->Value->Sem Value)(r:R2):Prop:=
 ∀(pins:2e2)(s:Shared)(σ:St)(H:Hp)(x y:V)(v u:Value)(Q:VK),Inv X pins σ H s->RelV x v->RelV y u->r x y H Q->
  wpAny 3e6 X.A (f v u) 15e2 X.xe s
def UnR(X:Cx)(f:Value->Sem Value)(r:V->Hp->VK->Prop):Prop:=
 ∀(pins:2e2)(s:Shared)(σ:St)(H:Hp)(x:V)(v:Value)(Q:VK),Inv X pins σ H s->RelV x v->r x H Q->
  wpAny 3e6 X.A (f v) 15e2 X.xe s
def cR(X:Cx)(f:Value)(r:14e1):Prop:=
 ∀(pins:2e2)(s:Shared)(σ:St)(H:Hp)(xs:List V)(us:4e1)(Q:VK),Inv X pins σ H s->Vals xs us->r xs H Q->
  wpAny 3e6 X.A (call f us) 15e2 X.xe s
def Vbf(X:Cx)(r:V->Hp->(Bool->Hp->Prop)->Prop):Prop:=
 ∀(pins:2e2)(s:Shared)(σ:St)(H:Hp)(x:V)(v:Value)(Q:Bool->Hp->Prop),Inv X pins σ H s->RelV x v->r x H Q->
  wpAny 3e6 X.A (truthy v) (TP X pins σ Q) X.xe s
noncomputable def PB (r:R2)(ta tb:TE):TE:=λσ H Q=>ta σ H λx H1=>tb σ H1 λy H2=>r x y H2 Q
noncomputable def tUn (r:V->Hp->VK->Prop)(ta:TE):TE:=λσ H Q=>ta σ H λx H1=>r x H1 Q
noncomputable def rI (C:Int->Int->Prop)(g:Int->Int->V):R2:=λx y H Q=>∃i j,x=.int i/\y=.int j/\C i j/\Q (g i j) H
noncomputable def tD (g:Int->Int->V):R2:=λx y H Q=>∃i j,x=.int i/\y=.int j/\Q (g i j) H
def rU(g:Int->V):V->Hp->VK->Prop:=λx H Q=>∃i,x=.int i/\Q (g i) H
section
variable{X:Cx}{a b c:Expr}{ta tb tc:TE}{pos:Pos}
theorem Ni(ha:PE X a ta)(hb:PE X b tb){pins:2e2}{s:Shared}{σ:St}{H:Hp}{R:V->V->Hp->Prop}(I:2e4)
  (h:ta σ H λx H1=>tb σ H1 λy H2=>R x y H2) {Q:1e6} {f:Value->Value->Sem Value}
  (hf:∀v u s2 x y H2,Inv X pins σ H2 s2->RelV x v->RelV y u->R x y H2->wpAny 3e6 X.A (f v u) Q X.xe s2):
  wpAny 3e6 X.A (eval a X.env) (λv s₁=>wpAny 3e6 X.A (eval b X.env) (λu s₂=>wpAny 3e6 X.A (f v u) Q X.xe s₂) X.xe s₁) X.xe s:=by
 show cF 15e3 λv s1 h_=>?_;obtain⟨x,H1,I1,r1,q1⟩:=h_;show cF (hb pins s1 σ H1 _ I1 q1) λu s2 h_=>?_;obtain⟨y,H2,I2,r2,q2⟩:=h_;show hf v u s2 x y H2 I2 r1 r2 q2
theorem Qi{op:Operator}{r:R2}(ho:dY X (WJ op) r)(ha:PE X a ta)(hb:PE X b tb):PE X (.BinOp a op b pos) (PB r ta tb):=by
 sleep 7;show wpAny_BinOp (Ni ha hb I h λv u s2 x y H2 I2 rx ry q=>ho pins s2 σ H2 x y v u Q I2 rx ry q)
theorem Qh{op:UnaryOp}{r:V->Hp->VK->Prop}(ho:UnR X (unaryOp op) r)(ha:PE X a ta):PE X (.UnaryOp op a pos) (tUn r ta):=by
 sleep 7;show UnaryOp_ (cF 15e3 λv s1 ⟨x,H1,I1,r1,q1⟩=>ho pins s1 σ H1 x v Q I1 r1 q1)
theorem ZF{f:Value->Value->Sem Value}{C:Int->Int->Prop}{g:Int->Int->Int}
  (rule:∀(i j:Int)(t u:Tok)(s:Shared)(Q:1e6)(E:1e6),C i j->Q (.int (g i j) s.toks) {s with toks:=s.toks+1}->wpAny (model X.prog X.w) X.A (f (.int i t) (.int j u)) Q E s):
  dY X f (rI C λi j=>.int (g i j)):=by
 sleep 5;obtain⟨i,j,rfl,rfl,hc,q⟩:=h;sleep 8;obtain⟨t',rfl⟩:=ry;show rule i j t t' s _ _ hc ⟨.int (g i j),H,I.tok _,6e5,q⟩
theorem Qo{f:Value->Value->Sem Value}{g:Int->Int->Int}
  (rule:∀(i j:Int)(t u:Tok)(s:Shared)(Q:1e6)(E:1e6),Q (.int (g i j) s.toks) {s with toks:=s.toks+1}->wpAny (model X.prog X.w) X.A (f (.int i t) (.int j u)) Q E s):
  dY X f (tD λi j=>.int (g i j)):=by
 sleep 5;obtain⟨i,j,rfl,rfl,q⟩:=h;sleep 8;obtain⟨t',rfl⟩:=ry;show rule i j t t' s _ _ ⟨.int (g i j),H,I.tok _,6e5,q⟩
theorem Gg{f:Value->Value->Sem Value}{g:Int->Int->Bool}
  (rule:∀(i j:Int)(t u:Tok)(s:Shared)(Q:1e6)(E:1e6),Q (.bool (g i j)) s->wpAny 3e6 X.A (f (.int i t) (.int j u)) Q E s):
  dY X f (tD λi j=>.bl (g i j)):=by
 sleep 5;obtain⟨i,j,rfl,rfl,q⟩:=h;sleep 8;obtain⟨t',rfl⟩:=ry;show rule i j t t' s _ _ ⟨.bl (g i j),H,I,rfl,q⟩
def Vbi(i j:Int):Prop:=0<j/\j<1073741824
def Vbh(i j:Int):Prop:=0<=j/\j<=1000000/\i.natAbs<2^64
def Oo(i j:Int):Prop:=(-(2^64)<i/\i<2^64)\/(-(2^64)<j/\j<2^64)
theorem Oo.ok{i j:Int}(h:Oo i j):IntMulOk i j:=by
 rcases h with⟨h1,h2⟩|⟨h1,h2⟩
 ·show .of_left (intBits_le_64 h1 h2)
 ·show .of_right (intBits_le_64 h1 h2)
theorem K9:dY X (WJ .Add) (tD λi j=>.int (i+j)):=Qo λ_ _ _ _ _ _ _ q=>add_int q
theorem K3:dY X (WJ .Sub) (tD λi j=>.int (i-j)):=Qo λ_ _ _ _ _ _ _ q=>sub_int q
theorem K5:dY X (WJ .Mult) (rI Oo λi j=>.int (i*j)):=ZF λ_ _ _ _ _ _ _ hc q=>mul_int q hc.ok
theorem Gd:dY X (WJ .FloorDiv) (rI Vbi λi j=>.int (i/j)):=ZF λi j _ _ _ _ _ hc q=>by
 have h1:(0:Int)<j:=hc.1;have h2:j<1073741824:=hc.2;show floordiv_int 1e4 (by rw[Int.fdiv_eq_ediv_of_nonneg i 1e4];show q) (.inl (PyProof.noPylong_small 1e4))
theorem K6:dY X (WJ .Mod) (rI (λ_ j=>0<j) λi j=>.int (i%j)):=ZF λi j _ _ _ _ _ hc q=>by
 have h1:(0:Int)<j:=hc;show mod_int' 1e4 (by rw[Int.fmod_eq_emod_of_nonneg i 1e4];show q)
theorem K4:dY X (WJ .Pow) (rI Vbh λi j=>.int (i^j.toNat)):=ZF λ_ _ _ _ _ _ _ hc q=>pow_int_small hc.1 hc.2.1 hc.2.2 q
theorem unI{f:Value->Sem Value}{g:Int->Int}
  (rule:∀(i:Int)(t:Tok)(s:Shared)(Q:1e6)(E:1e6),Q (.int (g i) s.toks) {s with toks:=s.toks+1}->wpAny (model X.prog X.w) X.A (f (.int i t)) Q E s):
  UnR X f (rU λi=>.int (g i)):=by
 intro pins s σ H x v Q I rx h;obtain⟨i,rfl,q⟩:=h;sleep 8;show rule i t s _ _ ⟨.int (g i),H,I.tok _,6e5,q⟩
theorem JI:UnR X (unaryOp .USub) (rU λi=>.int (-i)):=unI λ_ _ _ _ _ q=>neg_int q
end
noncomputable def Kb:V->V->Bool
 |.aP,.aP=>true | .aP,.int _=>true | .int _,.aP=>true | .aP,.bl _=>true | .bl _,.aP=>true | .aP,.str _=>true | .str _,.aP=>true
 |.int _,.int _=>true | .bl _,.bl _=>true | .str _,.str _=>true | .u7 _,.u7 _=>true
 |.int _,.str _=>true | .str _,.int _=>true | .bl _,.str _=>true | .str _,.bl _=>true
 |_,_=>false
def rEq:R2:=λx y H Q=>Kb x y=true/\Q (.bl (decide (x=y))) H
def rNe:R2:=λx y H Q=>Kb x y=true/\Q (.bl (!decide (x=y))) H
theorem xi{i j:Int}:decide (V.int i=V.int j)=(i==j):=by
 rw[Wz];simp
theorem Ds{i j:Bool}:decide (V.bl i=V.bl j)=(i==j):=by
 rw[Wz];simp
theorem xh{i j:Str}:decide (V.str i=V.str j)=(i==j):=by
 rw[Wz];simp
theorem xj{i j:Array UInt8}:decide (V.u7 i=V.u7 j)=(i.toList==j.toList):=by
 rw[Wz];cases i;cases j;simp
section
variable{X:Cx}{a b c:Expr}{ta tb tc:TE}{pos:Pos}
theorem Fc{pins:2e2}{σ:St}{H:Hp}{s:Shared}{Q:VK}{k k':Bool}(I:2e4)(q:Q (.bl k) H)(e:k=k'):EP X pins σ Q (.bool k') s:=by
 subst e;show⟨.bl k,H,I,rfl,q⟩
theorem zu:dY X (Xa .Eq) rEq:=by
 sleep 5;obtain⟨hs,q⟩:=h;cases x with
 |aP=>
  cases rx;cases y with
  |aP=>cases ry;show PySem.EqNone.eq_none_none 12e5
  |bl j=>cases ry;show PySem.EqNone.eq_none_bool 12e5
  |int j=>obtain⟨t',rfl⟩:=ry;show PySem.EqNone.eq_none_int 12e5
  |str j=>obtain⟨t',rfl⟩:=ry;show PySem.EqNone.eq_none_str 12e5
  |_=>show absurd (show false=true from hs) Yi
 |bl i=>
  cases rx;cases y with
  |aP=>cases ry;show PySem.EqNone.eq_bool_none 12e5
  |bl j=>cases ry;show eq_bool (Fc I q Ds)
  |str j=>obtain⟨t',rfl⟩:=ry;show PySem.EqMixed.eq_bool_str 12e5
  |_=>show absurd (show false=true from hs) Yi
 |int i=>
  sleep 8;cases y with
  |aP=>cases ry;show PySem.EqNone.eq_int_none 12e5
  |int j=>obtain⟨t',rfl⟩:=ry;show eq_int (Fc I q xi)
  |str j=>obtain⟨t',rfl⟩:=ry;show PySem.EqMixed.eq_int_str 12e5
  |_=>show absurd (show false=true from hs) Yi
 |str i=>
  sleep 8;cases y with
  |aP=>cases ry;show PySem.EqNone.eq_str_none 12e5
  |bl j=>cases ry;show PySem.EqMixed.eq_str_bool 12e5
  |int j=>obtain⟨t',rfl⟩:=ry;show PySem.EqMixed.eq_str_int 12e5
  |str j=>obtain⟨t',rfl⟩:=ry;show eq_str (Fc I q xh)
  |_=>show absurd (show false=true from hs) Yi
 |u7 i=>
  sleep 8;cases y with
  |u7 j=>obtain⟨t',rfl⟩:=ry;show W.eq_bytes (Fc I q xj)
  |_=>show absurd (show false=true from hs) Yi
 |_=>cases y<;>show absurd (show false=true from hs) Yi
theorem HX:dY X (Xa .NotEq) rNe:=by
 sleep 5;obtain⟨hs,q⟩:=h;cases x with
 |aP=>
  cases rx;cases y with
  |aP=>cases ry;show PySem.EqNone.ne_none_none 12e5
  |bl j=>cases ry;show PySem.EqNone.ne_none_bool 12e5
  |int j=>obtain⟨t',rfl⟩:=ry;show PySem.EqNone.ne_none_int 12e5
  |str j=>obtain⟨t',rfl⟩:=ry;show PySem.EqNone.ne_none_str 12e5
  |_=>show absurd (show false=true from hs) Yi
 |bl i=>
  cases rx;cases y with
  |aP=>cases ry;show PySem.EqNone.ne_bool_none 12e5
  |bl j=>cases ry;show ne_bool (Fc I q (congrArg not Ds))
  |str j=>obtain⟨t',rfl⟩:=ry;show PySem.EqMixed.ne_bool_str 12e5
  |_=>show absurd (show false=true from hs) Yi
 |int i=>
  sleep 8;cases y with
  |aP=>cases ry;show PySem.EqNone.ne_int_none 12e5
  |int j=>obtain⟨t',rfl⟩:=ry;show ne_int (Fc I q (congrArg not xi))
  |str j=>obtain⟨t',rfl⟩:=ry;show PySem.EqMixed.ne_int_str 12e5
  |_=>show absurd (show false=true from hs) Yi
 |str i=>
  sleep 8;cases y with
  |aP=>cases ry;show PySem.EqNone.ne_str_none 12e5
  |bl j=>cases ry;show PySem.EqMixed.ne_str_bool 12e5
  |int j=>obtain⟨t',rfl⟩:=ry;show PySem.EqMixed.ne_str_int 12e5
  |str j=>obtain⟨t',rfl⟩:=ry;show ne_str (Fc I q (congrArg not xh))
  |_=>show absurd (show false=true from hs) Yi
 |u7 i=>
  sleep 8;cases y with
  |u7 j=>obtain⟨t',rfl⟩:=ry;show W.ne_bytes (Fc I q (congrArg not xj))
  |_=>show absurd (show false=true from hs) Yi
 |_=>cases y<;>show absurd (show false=true from hs) Yi
theorem zI:dY X (Xa .Lt) (tD λi j=>.bl (decide (i<j))):=Gg λ_ _ _ _ _ _ _ q=>lt_int q
theorem vR:dY X (Xa .LtE) (tD λi j=>.bl (decide (i<=j))):=Gg λ_ _ _ _ _ _ _ q=>le_int q
theorem vS:dY X (Xa .Gt) (tD λi j=>.bl (decide (j<i))):=Gg λ_ _ _ _ _ _ _ q=>gt_int q
theorem Qn:dY X (Xa .GtE) (tD λi j=>.bl (decide (j<=i))):=Gg λ_ _ _ _ _ _ _ q=>ge_int q
theorem yu:dY X (Xa .In) (λx y H Q=>∃i j,x=.str i/\y=.str j/\Q (.bl (!(Wn j i 0 j.length 1).isEmpty)) H):=by
 sleep 5;obtain⟨i,j,rfl,rfl,q⟩:=h;sleep 8;obtain⟨t',rfl⟩:=ry;show in_str (Fc I q rfl)
theorem LQ(b:Expr){op:CmpOp}(h:op≠.In:=by decide)(h2:op≠.NotIn:=by decide):W5 op b=false:=by
 have e1:(op==CmpOp.In)=false:=by cases op<;>first|rfl|show absurd rfl h
 have e2:(op==CmpOp.NotIn)=false:=by cases op<;>first|rfl|show absurd rfl h2
 cases b<;>simp[W5,e1,e2]
theorem Ga{op:CmpOp}{r:R2}(ho:dY X (Xa op) r)(ha:PE X a ta)(hb:PE X b tb)(hm:W5 op b=false):PE X (.Compare a [op] [b] pos) (PB r ta tb):=by
 sleep 7;show wpAny_Compare1 (Ni ha hb I h λv u s2 x y H2 I2 rx ry q=>ho pins s2 σ H2 x y v u Q I2 rx ry q) hm
noncomputable def Ad (t:TE):TT:=λσ H Q=>t σ H λx H'=>∃k,x=.bl k/\Q k H'
theorem FY{op:CmpOp}{r:R2}(ho:dY X (Xa op) r)(ha:PE X a ta)(hb:PE X b tb)(hm:W5 op b=false):PT X (.Compare a [op] [b] pos) (Ad (PB r ta tb)):=by
 sleep 7;show wpAny_isTrue_Compare1 (cF 15e3 λv s1 ⟨x,H1,I1,r1,q1⟩=>cF (hb pins s1 σ H1 _ I1 q1) λu s2 ⟨y,H2,I2,r2,q2⟩=>
  cF (ho pins s2 σ H2 x y v u _ I2 r1 r2 q2) λc s3 ⟨z,H3,I3,r3,k,e,q3⟩=>?_) hm
 subst e;cases r3;show XO ⟨H3,I3,q3⟩
noncomputable def tm (r r':R2)(ta tb tc:TE):TE:=λσ H Q=>ta σ H λx H1=>tb σ H1 λy H2=>r x y H2 λz H3=>∃k,z=.bl k/\
 (if k=true then tc σ H3 λw' H4=>r' y w' H4 Q else Q 8e1 H3)
theorem BK{op tU:CmpOp}{r r':R2}(ho:dY X (Xa op) r)(uu:dY X (Xa tU) r')(ha:PE X a ta)(hb:PE X b tb)(hc:PE X c tc)
  (hm:lastMarks [op,tU] [b,c]=false:=by with_unfolding_all rfl):PE X (.Compare a [op,tU] [b,c] pos) (tm r r' ta tb tc):=by
 sleep 7;show Compare_chain (cF 15e3 λv s1 ⟨x,H1,I1,r1,q1⟩=>chain_link (cF (hb pins s1 σ H1 _ I1 q1) λu s2 ⟨y,H2,I2,r2,q2⟩=>
  cF (ho pins s2 σ H2 x y v u _ I2 r1 r2 q2) λd s3 ⟨z,H3,I3,r3,k,e,q3⟩=>?_)) hm
 subst e;cases r3;show XO ?_;cases k with
 |false=>show ite_ff ⟨.bl false,H3,I3,rfl,q3⟩
 |true=>show ite_tt (chain_last (cF (hc pins s3 σ H3 _ I3 q3) λw' s4 ⟨z',H4,I4,r4,q4⟩=>uu pins s4 σ H4 y z' u w' Q I4 r2 r4 q4))
theorem Bt{op tU:CmpOp}{r r':R2}(ho:dY X (Xa op) r)(uu:dY X (Xa tU) r')(ha:PE X a ta)(hb:PE X b tb)(hc:PE X c tc)
  (hm:lastMarks [op,tU] [b,c]=false:=by with_unfolding_all rfl):PT X (.Compare a [op,tU] [b,c] pos) (Ad (tm r r' ta tb tc)):=by
 sleep 7;show isTrue_chain (cF 15e3 λv s1 ⟨x,H1,I1,r1,q1⟩=>test_link (cF (hb pins s1 σ H1 _ I1 q1) λu s2 ⟨y,H2,I2,r2,q2⟩=>
  cF (ho pins s2 σ H2 x y v u _ I2 r1 r2 q2) λd s3 ⟨z,H3,I3,r3,k,e,q3⟩=>?_)) hm
 subst e;cases r3;show XO ?_;cases k with
 |false=>
  obtain⟨k',e',q'⟩:=q3;cases e';show ite_ff ⟨H3,I3,q'⟩
 |true=>
  show ite_tt (test_last (cF (hc pins s3 σ H3 _ I3 q3) λw' s4 ⟨z',H4,I4,r4,q4⟩=>cF (uu pins s4 σ H4 y z' u w' _ I4 r2 r4 q4) λd' s5 h_=>?_));obtain⟨z2,H5,I5,r5,k2,e2,q5⟩:=h_;subst e2;cases r5;show XO ⟨H5,I5,q5⟩
def N8(K:W.Frag)(x:V)(H:Hp)(k:Bool):Prop:=
 match x with
 |.aP=>k=false
 |.bl b=>k=b
 |.int i=>k=(i != 0)
 |.str y=>y.length<=Yt/\k=((y.length:Int) != 0)
 |.u7 y=>y.size<=Yt/\k=((y.size:Int) != 0)
 |.ref p=>(∃xs,fB K H p xs/\k=!xs.isEmpty)\/(∃xs,iz K H p xs/\k=!xs.isEmpty)\/∃kvs,H p=some (.dK kvs)/\k=!kvs.isEmpty
 |_=>False
theorem uj{κ:Type}{kvs:List (κ×V)}{vs:List (κ×Value)}(r:KV kvs vs):(!vs.isEmpty)=!kvs.isEmpty:=by
 cases r<;>rfl
theorem ZdN{xs:List V}{aM:4e1}(r:Vals xs aM):(!aM.toArray.isEmpty)=!xs.isEmpty:=by
 cases r<;>simp
theorem jk:(Yt:Nat)<2^63:=by rw[YV];decide
theorem JN:Vbf X (λx H Q=>∃k,N8 X.K x H k/\Q k H):=by
 intro pins s σ H x v Q I rx h;obtain⟨k,e,q⟩:=h;have hl:=jk;have hs:Yt=16777216:=YV;cases x with
 |aP=>
  cases rx;have e':k=false:=e;subst e';show truthy_none ⟨H,I,q⟩
 |bl b=>
  cases rx;have e':k=b:=e;subst e';show XO ⟨H,I,q⟩
 |int i=>
  sleep 8;have e':k=(i != 0):=e;subst e';show PySem.P.truthy_int ⟨H,I,q⟩
 |str y=>
  sleep 8;obtain⟨hy,e'⟩:y.length<=Yt/\k=((y.length:Int) != 0):=e;subst e';show PySem.P.truthy_str 1e4 ⟨H,I.tok _,q⟩
 |u7 y=>
  sleep 8;obtain⟨hy,e'⟩:y.size<=Yt/\k=((y.size:Int) != 0):=e;subst e';show W.truthy_bytes 1e4 ⟨H,I.tok _,q⟩
 |ref p=>
  cases rx;have e':(∃xs,fB X.K H p xs/\k=!xs.isEmpty)\/(∃xs,iz X.K H p xs/\k=!xs.isEmpty)\/∃kvs,H p=some (.dK kvs)/\k=!kvs.isEmpty:=e;rcases e' with⟨xs,hx,e'⟩|⟨xs,hx,e'⟩|⟨kvs,hx,e'⟩
  ·subst e'
   obtain⟨aM,r,pl,hz⟩:=I.list hx;have hlen:=r.length;show wpAny_truthy_list pl.isList (by simp only[Yn];lia) ⟨H,I.tok _,by rw[ZdN r];show q⟩
  ·subst e'
   obtain⟨aM,r,pl,hz⟩:=I.tuple hx;have hlen:=r.length;show truthy_tuple pl (by simp only[Yn];lia) ⟨H,I.tok _,by rw[ZdN r];show q⟩
  ·subst e'
   obtain⟨hz,hS,vs,r,m⟩:kvs.length<=Yt/\(p==XN)=false/\∃vs,KV kvs vs/\s.heap.DictOf (bU X.prog X.w) p vs:=I.bV p _ hx;have hlen:kvs.length=vs.length:=W3 r;show wpAny_truthy_dict hS m 1e4 ⟨H,I.tok _,by rw[uj r];show q⟩
 |_=>show(show False from e).elim
theorem Bs(ha:PE X a ta)(he:∀whole,isTrue a X.env whole=(do let v ←whole;standAt a.pos;Ua [v] (truthy v))):
  PT X a (λσ H Q=>ta σ H λx H'=>∃k,N8 X.K x H' k/\Q k H'):=by
 sleep 7;show isTrue_plain (cF 15e3 λv s1 ⟨x,H1,I1,r1,q1⟩=>JN pins s1 σ H1 x v Q I1 r1 q1) (he _)
theorem tT:dY X (WJ .Add) (λx y H Q=>∃i j,x=.str i/\y=.str j/\i.length+j.length<=Yt/\Q (.str (i++j)) H):=by
 sleep 5;obtain⟨i,j,rfl,rfl,hz,q⟩:=h;sleep 8;obtain⟨t',rfl⟩:=ry;show add_str (λt' tk=>⟨.str (i++j),H,I.tok _,6e5,q⟩) hz
theorem vals1{x:V}{us:4e1}(r:Vals [x] us):∃u,us=[u]/\RelV x u:=by
 cases r with
 |cons r1 r2=>cases r2;show⟨_,rfl,r1⟩
theorem vals2{x y:V}{us:4e1}(r:Vals [x,y] us):∃u w',us=[u,w']/\RelV x u/\RelV y w':=by
 cases r with
 |cons r1 r2=>
  cases r2 with
  |cons r3 r4=>cases r4;show⟨_,_,rfl,r1,r3⟩
theorem zm(hc:11e1):cR X (.builtin "max") (λxs H Q=>∃i j,xs=[.int i,.int j]/\Q (.int (if j>i then j else i)) H):=by
 sleep 15;obtain⟨i,j,rfl,q⟩:=h;obtain⟨u,w',rfl,⟨t,rfl⟩,⟨t',rfl⟩⟩:=vals2 r;show max_two_ints (I.ok.hd hc) λh' tk k=>⟨_,H,I.kept k,?_,q⟩
 by_cases hj:j>i
 ·rw[if_pos hj,if_pos hj];show 6e5
 ·rw[if_neg hj,if_neg hj];show 6e5
theorem zl(hc:11e1):cR X (.builtin "min") (λxs H Q=>∃i j,xs=[.int i,.int j]/\Q (.int (if j<i then j else i)) H):=by
 sleep 15;obtain⟨i,j,rfl,q⟩:=h;obtain⟨u,w',rfl,⟨t,rfl⟩,⟨t',rfl⟩⟩:=vals2 r;show min_two_ints (I.ok.hd hc) λh' tk k=>⟨_,H,I.kept k,?_,q⟩
 by_cases hj:j<i
 ·rw[if_pos hj,if_pos hj];show 6e5
 ·rw[if_neg hj,if_neg hj];show 6e5
theorem zo:cR X (.type "int") (λxs H Q=>(∃i,xs=[.int i]/\Q (.int i) H)\/∃k,xs=[.bl k]/\Q (.int (if k then 1 else 0)) H):=by
 sleep 15;rcases h with⟨i,rfl,q⟩|⟨k,rfl,q⟩
 ·obtain⟨u,rfl,t,rfl⟩:=vals1 r
  show call_int_int ⟨.int i,H,I,6e5,q⟩
 ·obtain⟨u,rfl,r1⟩:=vals1 r
  cases r1;show call_int_bool ⟨.int (if k then 1 else 0),H,I.tok _,6e5,q⟩
def TM(K:W.Frag)(x:V)(H:Hp)(n:Nat):Prop:=
 match x with
 |.str y=>y.length<=Yt/\n=y.length
 |.u7 y=>y.size<=Yt/\n=y.size
 |.ref p=>(∃xs,fB K H p xs/\n=xs.length)\/∃xs,iz K H p xs/\n=xs.length
 |_=>False
theorem DG:cR X (.builtin "len") (λxs H Q=>∃x n,xs=[x]/\TM X.K x H n/\Q (.int n) H):=by
 sleep 15;obtain⟨x,n,rfl,e,q⟩:=h;obtain⟨u,rfl,rx⟩:=vals1 r;have hl:=jk;have hs:Yt=16777216:=YV;cases x with
 |str y=>
  sleep 8;obtain⟨hy,e'⟩:y.length<=Yt/\n=y.length:=e;subst e';show len_str 1e4 ⟨.int _,H,I.tok _,6e5,q⟩
 |u7 y=>
  sleep 8;obtain⟨hy,e'⟩:y.size<=Yt/\n=y.size:=e;subst e';show W.len_bytes 1e4 ⟨.int _,H,I.tok _,6e5,q⟩
 |ref p=>
  cases rx;have e':(∃xs,fB X.K H p xs/\n=xs.length)\/∃xs,iz X.K H p xs/\n=xs.length:=e;rcases e' with⟨xs,hx,e'⟩|⟨xs,hx,e'⟩
  ·subst e'
   obtain⟨aM,r',pl,hz⟩:=I.list hx;have hlen:=r'.length;show Calls.call_len_list pl.isList (by simp only[Yn];lia) ⟨.int xs.length,H,I.tok _,⟨_,by simp only[Yn];rw[hlen]⟩,q⟩
  ·subst e'
   obtain⟨aM,r',pl,hz⟩:=I.tuple hx;have hlen:=r'.length;show len_tuple pl (by simp only[Yn];lia) ⟨.int xs.length,H,I.tok _,⟨_,by simp only[Yn];rw[hlen]⟩,q⟩
 |_=>show(show False from e).elim
end
structure Om(h:Heap)(x dx C:Addr)(mA:Str->Option Value):Prop where
 obj:h.get? x=some (W.instObj C dx)
 ns:h.Ns1 dx mA
 ne:dx≠x
theorem yC{h:Heap}{dx:Addr}{mA:2e5}(n:h.Ns1 dx mA):∃od,h.get? dx=some od/\∀name,W.lookIn name od=some (mA name):=by
 obtain⟨o,es,ep,ho,hd,hk,_,hm⟩:=n;show⟨o,ho,λname=>?_⟩;have e:=hm name;unfold nsFind findBy at e;rw[←Array.find?_toList]at e;ext W.lookIn;rw[hd];dsimp only;split
 ·rename_i y q
  rw[q]at e;show congrArg some e
 ·rename_i q
  rw[q]at e;have a:es.toList.any (·.refKey)=false:=by
   rw[List.any_eq_false];intro y hy;obtain⟨z,t,CH⟩:=hk y (Array.mem_toList_iff.mp hy);simp[DictEntry.refKey,CH]
  have a':¬es.toList.any (·.refKey)=true:=by rw[a];show Yi
  rw[if_neg a'];show congrArg some e
theorem Om.look{h:Heap}{x dx C:Addr}{mA:2e5}(I:Om h x dx C mA):∃od,W.InstAt h x (W.instObj C dx) C (some od)/\∀name,W.lookIn name od=some (mA name):=
 let⟨od,ho,hl⟩:=yC I.ns
 ⟨od,⟨I.obj,rfl,rfl,ho⟩,hl⟩
theorem lg.some_of{v:V}{o:Option Value}(r:lg (some v) o):∃u,o=some u/\RelV v u:=by
 cases o with
 |none=>show(show False from r).elim
 |some u=>show⟨u,rfl,r⟩
section
variable{P:Ys}{w:World}{H H':Hp}{h h':Heap}{a C dx:Addr}{fs fs':List (Str×V)}
theorem GP(bV:iK P w H h)(e:H a=some (.ins C dx fs)):∃mA,Om h a dx C mA/\(∀f,lg (fs.lookup f) (mA f))/\PySem.Within mA (fs.map (·.1))/\fs.length<=1000/\H dx=some (.own a):=by
 obtain⟨d,z,ne,ob,mA,n,r,q⟩:=(show bS P w H h a (.ins C dx fs)from bV a _ e)
 show⟨mA,⟨ob,n,ne⟩,r,q,z,d⟩
end
structure Cls(K:W.Frag)(C:Addr):Prop where
 pg:W.plainGet K C Str.empty=true
 hd:W.hasDictIn K C=true
 po:W.plainOver K C=true
 sa:W.findIn K (.ref C) "__setattr__"=some (some (.builtin "object.__setattr__"))
theorem Cls.get{K:W.Frag}{C:Addr}(c:Cls K C)(f:Str):W.plainGet K C f=true:=c.pg
section
variable{X:Cx}{pins:2e2}{σ:St}{H:Hp}{s:Shared}{A:Around}{E:1e6}{Q:1e6}{c:Value}{b:Bool}
inductive gT(K:W.Frag)(H:Hp):V->Value->Prop where
 |aP:gT K H .aP (.type "NoneType")
 |bl (x:Bool):gT K H (.bl x) (.type "bool")
 |int (i:Int):gT K H (.int i) (.type "int")
 |str (x:Str):gT K H (.str x) (.type "str")
 |O2 (x:UInt64):gT K H (.O2 x) (.type "float")
 |lst {a:Addr} {xs:List V} (e:H a=some (.lst xs)):gT K H (.ref a) (.type "list")
 |wC {a:Addr} {o:Obj} {xs:List V} (e:H a=some (.wC o (.lst xs))):gT K H (.ref a) (.type "list")
 |tup {a:Addr} {xs:List V} (e:H a=some (.tup xs)):gT K H (.ref a) (.type "tuple")
 |dK {a:Addr} {kvs:List (Key×V)} (e:H a=some (.dK kvs)):gT K H (.ref a) (.type "dict")
 |dT {a:Addr} {kvs:List (List Key×V)} (e:H a=some (.dT kvs)):gT K H (.ref a) (.type "dict")
 |ins {a C dx:Addr} {fs:List (Str×V)} (e:H a=some (.ins C dx fs)) (cl:Cls K C) (ha:W.findIn K (.ref C) "__class__"=some (some (.builtin "object.__class__")))
   (hn:W.specialIn K (.builtin "object.__class__") "__get__"=some (some (.builtin "getset_descriptor.__get__"))) (htk:W.takesIn K (.builtin "object.__class__")=some true)
   (hm:W.mroIn K C (.type "object")=some true):gT K H (.ref a) (.ref C)
theorem Tw{x:V}{u t:Value}(I:2e4)(rx:RelV x u)(ty:gT X.K H x t)(e:W.kitOne X.K t c=some b)(h:∀tk,Q (.bool b) {s with toks:=tk}):
  wpAny 3e6 A (call (.builtin "isinstance") [u,c]) Q E s:=by
 cases ty with
 |aP=>cases(show u=Y8 from rx);show Wg W.kitx_none I.kI Wh e (λz=>nomatch z) h
 |bl y=>cases(show u=Vj y from rx);show Wg W.kitx_bool I.kI Wh e (λz=>nomatch z) h
 |int i=>obtain⟨t,q⟩:=(show ∃t,u=Uu i t from rx);cases q;show Wg W.kitx_int I.kI Wh e (λz=>nomatch z) h
 |str y=>obtain⟨t,q⟩:=(show ∃t,u=Uv y t from rx);cases q;show Wg W.kitx_str I.kI Wh e (λz=>nomatch z) h
 |O2 y=>obtain⟨t,q⟩:=(show ∃t,u=Value.float y t from rx);cases q;show Wg W.kitx_float I.kI Wh e (λz=>nomatch z) h
 |@lst a xs ea=>
  cases(show u=Y9 a from rx);obtain⟨_,_,n,_,h1⟩:=(show bS X.prog X.w H s.heap a (.lst xs)from I.bV a _ ea)
  show Wg W.kitx_list I.kI ⟨_,h1,rfl⟩ e (λz=>nomatch z) h
 |@wC a ob xs ea=>
  cases(show u=Y9 a from rx);obtain⟨_,_,_,n,_,h1⟩:=(show bS X.prog X.w H s.heap a (.wC ob (.lst xs))from I.bV a _ ea)
  show Wg W.kitx_list I.kI ⟨_,h1,rfl⟩ e (λz=>nomatch z) h
 |@tup a xs ea=>
  cases(show u=Y9 a from rx);obtain⟨_,_,_,p⟩:=(show bS X.prog X.w H s.heap a (.tup xs)from I.bV a _ ea)
  obtain⟨o,h1,h2,_⟩:=p;show Wg W.kitx_tuple I.kI ⟨o,h1,h2⟩ e (λz=>nomatch z) h
 |@dK a kvs ea=>
  cases(show u=Y9 a from rx);obtain⟨_,_,vs,_,p⟩:=(show bS X.prog X.w H s.heap a (.dK kvs)from I.bV a _ ea)
  obtain⟨o,es,ep,h1,h2,_⟩:=p;show Wg W.kitx_dict I.kI ⟨o,h1,h2.1⟩ e (λz=>nomatch z) h
 |@dT a kvs ea=>
  cases(show u=Y9 a from rx);obtain⟨_,_,xs,_,o,es,ep,h1,h2,_⟩:=(show bS X.prog X.w H s.heap a (.dT kvs)from I.bV a _ ea)
  show Wg W.kitx_dict I.kI ⟨o,h1,h2.1⟩ e (λz=>nomatch z) h
 |@ins a C dx fs ea cl ha hn htk hm=>
  cases(show u=Y9 a from rx);obtain⟨mA,O,_⟩:=GP I.bV ea;obtain⟨od,J,_⟩:=O.look;show Wg (W.kitx_own (cl.get _) cl.hd ha hn htk hm) I.kI J e (λz=>nomatch z) h
end
structure dM(k:Nat)(A:Around):Prop where
 hd:A.handled=none
 dp:A.depth+3*k+5<recursionLimit
 un:A.units+16*k+200<cLine
 gd:A.guards=some []
theorem dM.mono{j k:Nat}{A:Around}(r:dM k A)(h:j<=k):dM j A:=⟨r.hd,by have:=r.dp;lia,by have:=r.un;lia,r.gd⟩
theorem dM.deeper{k:Nat}{A:Around}(r:dM (k+1) A)(env:Env):dM k (A.deeper env):=
 ⟨r.hd,by have:=r.dp;change A.depth+1+3*k+5<_;lia,by have:=r.un;change A.units+3+16*k+200<_;lia,r.gd⟩
theorem dM.depth{k:Nat}{A:Around}(r:dM k A):A.depth<recursionLimit:=by have:=r.dp;lia
theorem dM.units{k:Nat}{A:Around}(r:dM k A):A.units+64<cLine:=by have:=r.un;lia
noncomputable def Vaf:TA:=λ_ H Q=>Q [] H
noncomputable def PK (ta:TE)(tr:TA):TA:=λσ H Q=>ta σ H λx H1=>tr σ H1 λxs H2=>Q (x::xs) H2
section
variable{X:Cx}{e:Expr}{es:6e1}{te:TE}{t:TA}{pos:Pos}
theorem K1:PA X [] Vaf:=λ_ _ _ _ H Q I h=>Calls.spliced_nil ⟨[],H,I,.nil,h⟩
theorem vQ(ha:PE X e te)(hr:PA X es t)(hs:1e9:=by rfl):PA X 7e6 (PK te t):=by
 intro pos pins s σ H Q I h;rw[hs];change wpAny _ _ (spliced ((false,eval e X.env)::backTo pos (Yo es X.env))) _ _ s;show Calls.spliced_cons (cF 15e3 λu s1 h_=>?_);obtain⟨x,H1,I1,r1,q1⟩:=h_;show cF (hr pos pins s1 σ H1 _ I1 q1) λus s2 ⟨xs,H2,I2,r2,q2⟩=>⟨x::xs,H2,I2,.cons r1 r2,q2⟩
def Vab(t:TA):TE:=λσ H Q=>t σ H λxs H1=>xs.length<=Yt/\∀p,H1 p=none->Q (.ref p) (upd H1 p (.tup xs))
def Vah(t:TA):TE:=λσ H Q=>t σ H λxs H1=>xs.length<=Yt/\∀p,H1 p=none->Q (.ref p) (upd H1 p (.lst xs))
theorem BE{x1}(h:PA X es t):PE X (.Tuple es x1 pos) (Vab t):=by
 intro pins s σ H Q I hq;show wpAny_Tuple_spliced (cF (h pos pins s σ H _ I hq) λus s1 ⟨xs,H1,I1,r,z,q⟩=>⟨by rw[←r.length];show z,?_⟩);have hf:H1 s1.heap.objs.size=none:=I1.bV.fresh (Yl _);show⟨.ref s1.heap.objs.size,upd H1 s1.heap.objs.size (.tup xs),I1.laid (t':=s1.toks) (λb u e=>Yb _ e) (Yl _) ?_,rfl,q _ hf⟩;show⟨z,us,r,⟨_,Yw _ rfl,rfl,_,rfl⟩⟩
theorem KW(h:PA X es t):PE X (.List es pos) (Vah t):=by
 intro pins s σ H Q I hq;show wpAny_List_spliced (cF (h pos pins s σ H _ I hq) λus s1 ⟨xs,H1,I1,r,z,q⟩=>⟨by rw[←r.length];show z,?_⟩);have hf:H1 s1.heap.objs.size=none:=I1.bV.fresh (Yl _);show⟨.ref s1.heap.objs.size,upd H1 s1.heap.objs.size (.lst xs),I1.laid (t':=s1.toks) (λb u e=>Yb _ e) (Yl _) ?_,rfl,q _ hf⟩;show⟨z,us,0,r,Yw _ rfl⟩
end
abbrev Sp:=List V->Hp->VK->XK->Prop
abbrev EC:=List Env->Hp->Shared->XK->Value->Shared->Prop
structure HF(P:Ys)(w:World)(K:W.Frag)(mg:Str->Option Value)(base:Heap)(A:Around)(outer:List Env)(s:Shared)(H:Hp):Prop where
 frames:A.frames=some outer
 mod:Mod K mg base
 bs:∀b o,base.get? b=some o->s.heap.get? b=some o/\H b=none
 Hs:base.objs.size<=s.heap.objs.size
 kQ:s.heap.FunFrames base outer
 O1:∀b∈ux outer,H b=none
 bV:iK P w H s.heap
 bare:V8 s.gens
def CE(outer:List Env)(P:Ys)(w:World)(H:Hp)(s:Shared)(Q:VK)(u:Value)(s':Shared):Prop:=
 ∃v H',s'.os=s.os/\V8 s'.gens/\Un (ux outer) [] H H' s.heap s'.heap/\iK P w H' s'.heap/\RelV v u/\Q v H'
def CR(CX:EC)(outer:List Env)(P:Ys)(w:World)(H:Hp)(s:Shared)(Q:VK)(E:XK)(r:Result)(s':Shared):Prop:=
 match r with
 |.ok (.ret u)=>CE outer P w H s Q u s'
 |.ok _=>False
 |.error e=>CX outer H s E e s'
structure aN(P:Ys)(w:World)(K:W.Frag)(mg:Str->Option Value)(base:Heap)(CX:EC)(k:Nat)(f:Addr)(fd:Yx)(ps:List Str)(sp:Sp):Prop where
 len:∀vs H Q E,sp vs H Q E->vs.length=ps.length
 run:∀(A:Around)(outer:List Env)(s:Shared)(H:Hp)(args:Args)(us:4e1)(vs:List V)(Q:VK)(E:XK),dM k A->HF P w K mg base A outer s H->BindsTo s fd args (ps.zip us)->Vals vs us->sp vs H Q E->
  Wo (model P w) A (.call (.ref f) args) (CR CX outer P w H s Q E) s
theorem aN.mono{P:Ys}{w:World}{K:W.Frag}{mg:2e5}{base:Heap}{CX:EC}{j k:Nat}{f:Addr}{fd:Yx}{ps:6e2}{sp:Sp}(F:aN P w K mg base CX j f fd ps sp)(h:j<=k):
  aN P w K mg base CX k f fd ps sp:=⟨F.len,λA outer s H args us vs Q E hr=>F.run A outer s H args us vs Q E (hr.mono h)⟩
theorem aN.imp{P:Ys}{w:World}{K:W.Frag}{mg:2e5}{base:Heap}{CX:EC}{k:Nat}{f:Addr}{fd:Yx}{ps:6e2}{sp sp':Sp}(F:aN P w K mg base CX k f fd ps sp)
  (h:∀vs H Q E,sp' vs H Q E->sp vs H Q E):aN P w K mg base CX k f fd ps sp':=
 ⟨λvs H Q E q=>F.len vs H Q E (h _ _ _ _ q),λA outer s H args us vs Q E hr he hb hv hs=>F.run A outer s H args us vs Q E hr he hb hv (h _ _ _ _ hs)⟩
section
variable{X:Cx}{pins:2e2}{σ:St}{H:Hp}{s s':Shared}
theorem Inv.Vbb(I:2e4):HF X.prog X.w X.K X.mg X.base X.A X.stack s H:=
 ⟨I.ok.frames,I.ok.mod,I.bs,YI I.ok.Hs I.sz,I.stack,I.vF,I.bV,I.bare⟩
theorem Inv.after{Q:VK}{u:Value}(I:2e4)(h:CE X.stack X.prog X.w H s Q u s'):EP X pins σ Q u s':=by
 obtain⟨v,H',os,bare,un,bV,r,q⟩:=h;obtain⟨hh,g,d,t,os'⟩:=s';obtain rfl:os'=s.os:=os;show⟨v,H',I.call (h':=hh) (g':=g) (d':=d) (t':=t) (ch:=[]) un bV bare (λb z=>absurd z 4e4),r,q⟩
end
noncomputable def PM (sp:Sp)(dvs:List V)(E:XK)(t:TA):TE:=λσ H Q=>t σ H λvs H1=>sp (vs++dvs) H1 Q E
def Binds(K:W.Frag)(fd:Yx)(ps:6e2)(ds:4e1):Prop:=
 ∀(s:Shared)(us:4e1),K.In s.heap->(us++ds).length=ps.length->BindsTo s fd ⟨us,[]⟩ (ps.zip (us++ds))
theorem Binds.all{K:W.Frag}{fd:Yx}{ps:6e2}(h:∀us:List Value,us.length=ps.length->bindArgs fd ⟨us,[]⟩=pure (ps.zip us)):Binds K fd ps []:=λs us _ hl=>by
 rw[YJ]at hl⊢;show .of_eq (h us hl)
def Passes(CX:EC)(X:Cx)(E:XK):Prop:=∀(pins:2e2)(σ:St)(H:Hp)(s:Shared)(e:Value)(s':Shared),Inv X pins σ H s->CX X.stack H s E e s'->X.xe e s'
section
variable{X:Cx}{CX:EC}{k:Nat}{f C:Addr}{fd:Yx}{ps:6e2}{sp:Sp}{dvs:List V}{ds:4e1}{E:XK}{x m:Str}{p pos apos:Pos}{e o:Expr}{es:6e1}{ta:TE}{t:TA}
theorem A8{pins:2e2}{σ:St}{H:Hp}{s:Shared}{Q:VK}{us:4e1}{vs:List V}(F:aN X.prog X.w X.K X.mg X.base CX k f fd ps sp)(hr:dM k X.A)(hb:Binds X.K fd ps ds)(hd:Vals dvs ds)(hx:Passes CX X E)
  (I:2e4) (r:Vals vs us) (h:sp (vs++dvs) H Q E):wpAny 3e6 X.A (call (.ref f) us) 15e2 X.xe s:=by
 have r2:Vals (vs++dvs) (us++ds):=r.append hd;have hl:(us++ds).length=ps.length:=by rw[←r2.length];show F.len _ _ _ _ h
 show wpAny_call (Ub (F.run X.A X.stack s H ⟨us,[]⟩ (us++ds) (vs++dvs) Q E hr I.Vbb (hb s us I.kI hl) r2 h) λr s' hq=>?_);cases r with
 |error e=>show hx pins σ H s e s' I hq
 |ok fl=>
  cases fl with
  |ret u=>show I.after hq
  |next=>show Wu hq
  |brk=>show Wu hq
  |cont=>show Wu hq
theorem jY(F:aN X.prog X.w X.K X.mg X.base CX k f fd ps sp)(hr:dM k X.A)(hg:Gl X x)(hm:X.mg x=some (.ref f))(hk:YE X.K (.ref f)=true)(hb:Binds X.K fd ps ds)(hd:Vals dvs ds)(hx:Passes CX X E)
  (ha:PA X 7e6 t) (oT:4e3:=by decide) (he:1e9:=by rfl) (eN:3e4:=by rfl):
  PE X 11e8 (PM sp dvs E t):=by
 sleep 7;show W6 (wa I hg hm ?_ oT);show W.callWith_K (h₀:=X.base) I.ok.mod.OF hk (cF (ha pos pins s σ H _ I h) λus s1 ⟨vs,H1,I1,r,q⟩=>⟨I1.kI,?_⟩) he eN;show A8 F hr hb hd hx I1 r q
structure Mk(K:W.Frag)(C f:Addr):Prop where
 makes:W.makesIn K C=true
 init:W.findIn K (.ref C) "__init__"=some (some (.ref f))
 fn:W.isFn K (.ref f)=true
 kp:YE K (.ref C)=true
end
structure aR(N P:List Str)(sc:Scope):Prop where
 kind:sc.kind=.function
 co:sc.isCoroutine=false
 gen:sc.isGenerator=false
 nd:N.Nodup
 pre:N.take P.length=P
 par:∀x∈P,sc.names.lookup x=some .local\/sc.names.lookup x=some .cell
 LR:∀y∈sc.names,y.2≠.free
theorem nq{kindOf:Str->Option W7}{x:Str}:∀{binds:List (Str×Value)}{m:2e5},(∀v,(x,v)∉binds)->bindL kindOf binds m x=m x
  |[],_,_=>rfl
  | (n,v)::r,m,h=>by
    ext bindL;rw[nq λw hw=>h w (YG _ hw)];split
    · have:x≠n:=by rintro rfl;show h v YR
      simp[this]
    · rfl
theorem nu{kindOf:Str->Option W7}{x:Str}:∀{binds:List (Str×Value)}{m:2e5},(∀v,(x,v)∉binds)->bindC kindOf binds m x=m x
  |[],_,_=>rfl
  | (n,v)::r,m,h=>by
    ext bindC;rw[nu λw hw=>h w (YG _ hw)];split
    · rfl
    · have:x≠n:=by rintro rfl;show h v YR
      simp[this]
theorem nt{kindOf:Str->Option W7}{x:Str}{v:Value}:∀{P:6e2}{vs:4e1}{i:Nat}{m:2e5},P.Nodup->P[i]? = some x->vs[i]? = some v->kindOf x=some .local->
  bindL kindOf (P.zip vs) m x=some v
 |[],_,_,_,_,h,_,_=>by simp at h
 |_::_,[],_,_,_,_,h,_=>by simp at h
 |p::P,w::vs,0,m,nd,h1,h2,hk=>by
  simp at h1 h2;subst h1;subst h2;change bindL kindOf ((p,w)::P.zip vs) m p=_;ext bindL;rw[nq λv hv=>(XF.mp nd).1 (VD hv).1,if_pos hk];simp
 |p::P,w::vs,i+1,m,nd,h1,h2,hk=>by
  change bindL kindOf ((p,w)::P.zip vs) m x=_;ext bindL;show nt (i:=i) (XF.mp nd).2 (by simpa using h1) (by simpa using h2) hk
theorem nv{kindOf:Str->Option W7}{x:Str}{v:Value}:∀{P:6e2}{vs:4e1}{i:Nat}{m:2e5},P.Nodup->P[i]? = some x->vs[i]? = some v->kindOf x≠some .local->
  bindC kindOf (P.zip vs) m x=some v
 |[],_,_,_,_,h,_,_=>by simp at h
 |_::_,[],_,_,_,_,h,_=>by simp at h
 |p::P,w::vs,0,m,nd,h1,h2,hk=>by
  simp at h1 h2;subst h1;subst h2;change bindC kindOf ((p,w)::P.zip vs) m p=_;ext bindC;rw[nu λv hv=>(XF.mp nd).1 (VD hv).1,if_neg hk];simp
 |p::P,w::vs,i+1,m,nd,h1,h2,hk=>by
  change bindC kindOf ((p,w)::P.zip vs) m x=_;ext bindC;show nv (i:=i) (XF.mp nd).2 (by simpa using h1) (by simpa using h2) hk
noncomputable def start (N:6e2)(vs:List V):St:=vs.map some++WP (N.length-vs.length) none
noncomputable def rQ (CX:EC)(P:Ys)(w:World)(K:W.Frag)(mg:2e5)(base:Heap)(N:6e2)(qual:Str)(scope:Scope)(f:Addr)(cd:Value)(A:Around)(outer:List Env)(s:Shared)(H:Hp)(E:XK):Cx where
 prog:=P
 w:=w
 K:=K
 mg:=mg
 base:=base
 A:=A.deeper (envOfC qual scope s.heap.objs.size f cd)
 N:=N
 s₀:=s
 H₀:=H
 env:=envOfC qual scope s.heap.objs.size f cd
 outer:=outer
 stack:=envOfC qual scope s.heap.objs.size f cd::outer
 ex:=[]
 calm:=true
 fn:=λ_=>true
 pn:=[]
 xe:=λe s'=>wpAny (model P w) (A.deeper (envOfC qual scope s.heap.objs.size f cd)) (leaving (envOfC qual scope s.heap.objs.size f cd) e) (λ_ Kv=>CX outer H s E e Kv) (λe' Kv=>CX outer H s E e' Kv) s'
theorem rZ{sc:Scope}{n:Nat}{x:Str}(h:sc.names.lookup x=some .cell):∃c,(cellsFrom n sc.names []).lookup x=some c:=by
 have q:=W.cellsFrom_some sc.names n [] (.inl h);show WX.mp q
theorem yN{CX:EC}{P:Ys}{w:World}{K:W.Frag}{mg:2e5}{base:Heap}{N ps:6e2}{qual:Str}{scope:Scope}{f:Addr}{cd:Value}{A:Around}{outer:List Env}{s s1:Shared}{H:Hp}{E:XK}{us:4e1}{vs:List V}
  (S:aR N ps scope) (hd:A.handled=none) (e0:HF P w K mg base A outer s H) (hl:vs.length=ps.length) (r:Vals vs us)
  (x:InCallC s s.heap.objs.size (bindL (envOfC qual scope s.heap.objs.size f cd).kindOf (ps.zip us) λ_=>none) (cellsFrom (s.heap.objs.size+1) scope.names []) (bindC (envOfC qual scope s.heap.objs.size f cd).kindOf (ps.zip us) λ_=>none) s1):
  Inv (rQ CX P w K mg base N qual scope f cd A outer s H E) [] (start N vs) H s1:=by
 have eN:ps.length<=N.length:=by have:=congrArg List.length S.pre;rw[Y1]at this;lia
 obtain⟨h1,tk,rfl,hk⟩:=x.done;have Qs:∀b:Addr,b∉(rQ CX P w K mg base N qual scope f cd A outer s H E).ex:=λb z=>absurd (show b∈([]:List Addr)from z) 4e4;show⟨⟨e0.mod,S.kind,rfl,rfl,Yl _,λy z c h1 h2=>?_,λy hy=>?_,λy c _ h=>?_,λ_=>hd,Around.frames_deeper e0.frames,.inr ⟨rfl,rfl⟩,λb z=>absurd z (Qs b),e0.bs,e0.Hs,λb _ _=>Qs b,λb z=>absurd z (Qs b),e0.kQ,e0.O1⟩,
  rfl,e0.bare,Un.kept hk,⟨_,x.toInCall.ns,λi y v h1 h2 h3=>?_⟩,λy c h=>⟨_,x.cell y c h⟩,e0.bV.fresh (Yl _),λy c h=>?_,λp hp=>absurd (show p∈([]:List (Addr×Obj))from hp) (by simp),e0.bV.kept hk,?_⟩
 ·show name_of_addr x.apart (Wp h1) (Wp h2)
 ·have hy:scope.names.lookup y=some .cell\/scope.names.lookup y=some .free:=hy
  rcases hy with hy|hy
  ·show rZ hy
  ·show absurd rfl (S.LR _ (Wp hy))
 ·show VO (x.above y c (Wp h))
 ·have hi:i<vs.length:=by
   ext start h2;by_cases hi:i<vs.length
   ·show hi
   ·rw[Y5 (by simpa using hi)]at h2
    rw[List.getElem?_replicate]at h2;split at h2<;>cases h2
  have ha:vs[i]? = some v:=by
   ext start h2;rw[Yh (by simpa using hi),YL]at h2;cases e:vs[i]? with
   |none=>rw[e]at h2;cases h2
   |some a=>rw[e]at h2;cases h2;rfl
  obtain⟨u,hu,rv⟩:=r.get ha;have hp:ps[i]? = some y:=by
   rw[←S.pre,Xn 1e4];show h1
  have ndP:ps.Nodup:=by rw[←S.pre];show S.nd.sublist (List.take_sublist _ _)
  show⟨u,rv,?_⟩;rcases S.par y (YS hp)with k|k
  ·show .inl ⟨k,nt ndP hp hu k⟩
  ·obtain⟨c,e⟩:=rZ (n:=s.heap.objs.size+1) k
   show .inr ⟨.inl k,c,e,?_⟩;have q:=x.cell y c e;rw[nv ndP hp hu (by change scope.names.lookup y≠_;rw[k];decide)]at q;show q
 ·show e0.bV.fresh (VO (x.above y c (Wp h)))
 ·ext start
  change _=N.length;rw[YN,Yv,List.length_replicate];lia
theorem R0{CX:EC}{P:Ys}{w:World}{K:W.Frag}{mg:2e5}{base:Heap}{k:Nat}{f:Addr}{name qual:Str}{params:Arguments}{body:List Stmt}{scope:Scope}{dV kV doc pm cdv ct oc:Value}{an od:Option Addr}
  {osl:Array (Option Value)} {N ps:6e2} {sp:Sp} (lk:K.lookup f=some ⟨oc,od,.func (W.fnOf name qual params body scope dV kV doc pm an cdv ct),osl⟩) (rj:W.codeIn K cdv qual=true) (S:aR N ps scope)
  (len:∀vs H Q E,sp vs H Q E->vs.length=ps.length)
  (kN:∀(A:Around)(outer:List Env)(s:Shared)(H:Hp)(vs:List V)(Q:VK)(E:XK),dM k (A.deeper (envOfC qual scope s.heap.objs.size f cdv))->sp vs H Q E->
   ∃t,pM (rQ CX P w K mg base N qual scope f cdv A outer s H E) body t/\t {nx:=λ_ H'=>Q .aP H',rt:=Q} (start N vs) H):
  aN P w K mg base CX (k+1) f (W.fnOf name qual params body scope dV kV doc pm an cdv ct) ps sp:=by
 show⟨len,λA outer s H args us vs Q E hr e0 hb r EK=>?_⟩;have hl:=len _ _ _ _ EK;have KX:K.In s.heap:=e0.mod.OF.keeps λb o e=>(e0.bs b o e).1;have lim:s.heap.NoLimit:=e0.mod.nolimit.keeps λb o e=>(e0.bs b o e).1;have RB:∀y∈ps.zip us,scope.names.lookup y.1=some .local\/(scope.names.lookup y.1=some .cell/\((cellsFrom (s.heap.objs.size+1) scope.names []).lookup y.1).isSome=true):=λ⟨n,v⟩ hy=>by
  rcases S.par n (VD hy).1 with q|q
  ·show .inl q
  ·show .inr ⟨q,W.cellsFrom_some _ _ _ (.inl q)⟩
 show codeAny_call_function hr.depth (KX _ _ lk) rfl S.co S.gen rfl (W.codeRec_of KX rj) (hb _ _ _ _ ?_);show wpAny_newFunctionEnv_cells S.kind RB λenv he s1 x=>?_;subst he;show⟨lim.keeps x.toInCall.keep,codeAny_func ?_⟩;obtain⟨t,ht,hq⟩:=kN A outer s H vs Q E (hr.deeper _) EK;have I:Inv (rQ CX P w K mg base N qual scope f cdv A outer s H E) [] (start N vs) H s1:=yN S hr.hd e0 hl r x;show Y4 (ht [] s1 (start N vs) H _ I hq) (λfl s' hs=>?_) λe s' hs=>hs;have fin:∀{σ':St}{H':Hp}{v:V}{u:Value},Inv (rQ CX P w K mg base N qual scope f cdv A outer s H E) [] σ' H' s'->RelV v u->Q v H'->CE outer P w H s Q u s':=
  λ{σ' H' v u} J rv q=>⟨v,H',J.os,J.bare,J.base,J.bV,rv,q⟩
 cases fl with
 |ret u=>
  obtain⟨v,σ',H',J,rv,q⟩:=hs;show fin J rv q
 |next=>
  obtain⟨σ',H',J,q⟩:=hs;show fin (v:=V.aP) (u:=Y8) J rfl q
 |brk=>
  obtain⟨_,_,_,q⟩:=hs;show Wu q
 |cont=>
  obtain⟨_,_,_,q⟩:=hs;show Wu q
section
variable{X:Cx}{x:Str}{p pos:Pos}{e:Expr}{es:6e1}{t:TA}{id T:String}{r:14e1}
noncomputable def tCB (r:14e1)(t:TA):TE:=λσ H Q=>t σ H λvs H1=>r vs H1 Q
theorem kr(hc:cR X (.builtin id) r)(hg:Gl X x)(hm:X.mg x=none)(hv:Xb x=some (.builtin id))(ha:PA X 7e6 t)(hn:x≠"__name__":=by decide)(oT:4e3:=by decide)
  (he:1e9:=by rfl) (eN:3e4:=by rfl):PE X 11e8 (tCB r t):=by
 sleep 7;show W6 (N0 I hg hm hv ?_ hn oT);show PyProof.Rows.callWith_builtin1 (cF (ha pos pins s σ H _ I h) λus s1 ⟨vs,H1,I1,r1,q1⟩=>hc pins s1 σ H1 vs us Q I1 r1 q1) he eN
theorem yt(hc:cR X (.type T) r)(hg:Gl X x)(hm:X.mg x=none)(hv:Xb x=some (.type T))(ha:PA X 7e6 t)(hn:x≠"__name__":=by decide)(oT:4e3:=by decide)
  (he:1e9:=by rfl) (eN:3e4:=by rfl):PE X 11e8 (tCB r t):=by
 sleep 7;show W6 (N0 I hg hm hv ?_ hn oT);show XE (cF (ha pos pins s σ H _ I h) λus s1 ⟨vs,H1,I1,r1,q1⟩=>hc pins s1 σ H1 vs us Q I1 r1 q1) he eN
end
end L2
namespace HT
open PySem PyProof.Rows
section
variable{prog:Ys}{w:World}{A:Around}{E:1e6}{s:Shared}
theorem Hq{t b:Addr}{vs ws:4e1}{Q:1e6}(ht:IsTup s.heap t vs.toArray)(hb:IsTup s.heap b ws.toArray)(hv:vs≠[])
  (h1:ws=[]->Q (.ref t) s) (h2:ws≠[]->Q 11e4 {s with heap:=s.heap.push {cls:=.type "tuple",data:=.seq (vs++ws).toArray}})
  (hsz:vs.length+ws.length<=Yt):wpAny 5e0 A (WJ .Add (.ref t) (.ref b)) Q E s:=by
 obtain⟨⟨cls,dd,data,sl⟩,ho,hc,n,hd⟩:=id ht;obtain⟨⟨Nf,EY,data2,xR⟩,ur,yT,n2,hd2⟩:=id hb;simp only at hc hd yT hd2;subst hc hd yT hd2;have e:vs.toArray++ws.toArray=(vs++ws).toArray:=by simp
 by_cases hw:ws=[]
 ·show Uc ⟨_,ho,rfl⟩ ⟨_,ur,rfl⟩ V4 seq_tuple_add Vg W8 (WY _ _)
   (tuple_addW1 t b vs.toArray ws.toArray n n2 dd EY sl xR (by simpa using hv) (by simp[hw])) ⟨ho,ur,h1 hw⟩
 ·show Uc ⟨_,ho,rfl⟩ ⟨_,ur,rfl⟩ V4 seq_tuple_add Vg W8 (WY _ _)
   (tuple_addW2 t b vs.toArray ws.toArray n n2 dd EY sl xR (by simpa using hv) (by simpa using hw) (by rw[Yn,Yn];show hsz)) ⟨ho,ur,?_⟩
  rw[e];show h2 hw
noncomputable def cj (n d:Nat):Option Int->Nat
 |none=>d
 |some v=>if v<0 then(v+(n:Int)).toNat else min v.toNat n
theorem Ku(n d:Nat)(hd:d<=n)(o:Option Int):cj n d o<=n:=by
 cases o with
 |none=>show hd
 |some v=>
  change(if v<0 then(v+(n:Int)).toNat else min v.toNat n)<=n;by_cases hv:v<0
  ·rw[if_pos hv];lia
  ·rw[if_neg hv];show Nat.min_le_right _ _
theorem xn(v:Int)(n d:Nat):(if v<0 then max (v+(n:Int)) 0 else min v (n:Int))=((cj n d (some v):Nat):Int):=by
 change(if v<0 then max (v+(n:Int)) 0 else min v (n:Int))=(((if v<0 then(v+(n:Int)).toNat else min v.toNat n):Nat):Int)
 by_cases hv:v<0
 ·simp only[if_pos hv];lia
 ·simp only[if_neg hv];lia
theorem vh(lo hi:Option Int)(n:Nat):WQ lo hi 1 (n:Int)=(((cj n 0 lo:Nat):Int),((cj n n hi:Nat):Int)):=by
 have h1:¬((1:Int)<0):=by lia
 ext WQ;simp only[h1,if_false];show Prod.ext ?_ ?_
 ·cases lo with
  |none=>rfl
  |some v=>show xn v n 0
 ·cases hi with
  |none=>rfl
  |some v=>show xn v n n
theorem tQ(i j:Nat):Wd (i:Int) (j:Int) 1=j-i:=by
 ext Wd;have h1:(1:Int)>0:=by lia
 simp only[h1,if_true,Int.ediv_one];split<;>lia
theorem ki{v:Value}{o:Option Int}{Q:Option Int->Shared->Prop}(p:IsPart v o)(h:Q o s):wpAny 5e0 A (Builtin.Slice.slicePartIndex v) Q E s:=by
 cases p with
 |none=>show slicePart_none h
 |int i t=>show slicePart_int h
theorem fO{sl:Addr}{vl vu:Value}{lo hi:Option Int}{n:Nat}{Q:Int×Int×Nat->Shared->Prop}(hs:s.heap.IsSliceOf sl vl vu .none)(pl:IsPart vl lo)(pu:IsPart vu hi)
  (h:Q (((cj n 0 lo:Nat):Int),1,cj n n hi-cj n 0 lo) s):wpAny 5e0 A (VM (.ref sl) (pure (n:Int))) Q E s:=by
 obtain⟨os,GX,MN,MM⟩:=id hs;unfold VM Builtin.Slice.sliceFields;show Ya (Ya (XG GX MM (x:=vl) rfl (Ya (XG GX MM (x:=vu) rfl (Ya (XG GX MM (x:=.none) rfl (Ye ?_)))))));show Ya (slicePart_none ?_);change wpAny _ _ (if((1:Int)==0)=true then _ else _) _ _ s;rw[if_neg 1e2];show Ya (ki pl (Ya (ki pu (Ya (Ye ?_)))));change wpAny _ _ (match WQ lo hi 1 (n:Int)with|(lo,hi)=>pure (lo,(1:Int),Wd lo hi 1)) _ _ s;rw[vh lo hi n];change wpAny _ _ (pure (((cj n 0 lo:Nat):Int),(1:Int),Wd ((cj n 0 lo:Nat):Int) ((cj n n hi:Nat):Int) 1)) _ _ s;rw[tQ];show Ye h
theorem BA(xs:Array Value)(i k:Nat):((Yk k).filterMap λ(m:Nat)=>xs[((i:Int)+(m:Int)*1).toNat]?).toArray=((xs.toList.drop i).take k).toArray:=by
 have e:(λ(m:Nat)=>xs[((i:Int)+(m:Int)*1).toNat]?)=λm=>xs[i+m]?:=by
  funext m
  have:((i:Int)+(m:Int)*1).toNat=i+m:=by lia
  rw[this]
 rw[e];have:=pick_run xs i k;rw[List.filterMap_map]at this;have e2:((λx=>xs[x]?)∘λx=>i+x)=λm=>xs[i+m]?:=rfl;rw[e2]at this;rw[this]
theorem iX{t sl:Addr}{items:Array Value}{vl vu:Value}{lo hi:Option Int}{Q:1e6}(ht:IsTup s.heap t items)(hs:s.heap.IsSliceOf sl vl vu .none)(pl:IsPart vl lo)(pu:IsPart vu hi)
  (hw:¬(cj items.size 0 lo=0/\cj items.size items.size hi=items.size))
  (h:Q 11e4 {s with heap:=s.heap.push {cls:=.type "tuple",data:=.seq ((items.toList.drop (cj items.size 0 lo)).take (cj items.size items.size hi-cj items.size 0 lo)).toArray}})
  (hsz:items.size<=Yt):wpAny 5e0 A (Uo (.ref t) (.ref sl)) Q E s:=by
 have wu:sizeOk (.seq ((items.toList.drop (cj items.size 0 lo)).take (cj items.size items.size hi-cj items.size 0 lo)).toArray):=by
  change((items.toList.drop (cj items.size 0 lo)).take (cj items.size items.size hi-cj items.size 0 lo)).toArray.size<=Yt;rw[Yn,Y1,XJ,X2];lia
 have hj:cj items.size items.size hi<=items.size:=Ku _ _ (Yl _) hi;obtain⟨os,GX,MN,MM⟩:=id hs;have hTs:s.TypeIs (.ref sl) "slice":=⟨os,GX,MN⟩
 ext Uo;try with_reducible show Xs ?_
 first|show Ya (Ye ?_)|skip
 show Ya (wpAny_sequenceKey ht.typeIs 1e2 ?_);show Ya (Xu (name:=Wl "__getitem__") ht.typeIs Xe
  (Xw Xe ht.typeIs entry_tuple_getitem ?_ (args_tuple_getitem _ _)))
 change wpAny _ _ (WL (.ref t)>>=_) _ _ s;show Ya (tupleItemsOf_ ht ?_);show Ya (Vq hTs ?_);rw[if_pos 1e2];show Ya (fO hs pl pu ?_);have hno:¬((((cj items.size 0 lo:Nat):Int)==0&&(1:Int)==1&&(cj items.size items.size hi-cj items.size 0 lo)==items.size)=true):=by
  intro q;rw[Yg,Yg]at q;have q1:((cj items.size 0 lo:Nat):Int)=0:=eq_of_beq q.1.1;have q2:cj items.size items.size hi-cj items.size 0 lo=items.size:=eq_of_beq q.2;show hw ⟨by lia,by lia⟩
 change wpAny _ _ (if(((cj items.size 0 lo:Nat):Int)==0&&(1:Int)==1&&(cj items.size items.size hi-cj items.size 0 lo)==items.size)=true then _ else _) _ _ s;rw[if_neg hno,BA];first
  |show Ya (m:=Wi _) (Xz (Ye ⟨_,rfl,Ye h⟩) wu)
  |show Ya (m:=Wi _) (Xz (Ya (Ye (Ye ⟨_,rfl,Ye h⟩))) wu)
  |show Ya (Ya (m:=Wi _) (Xz (Ye (Ye ⟨_,rfl,Ye h⟩)) wu))
  |show Ya (Ya (m:=Wi _) (Xz (Ye ⟨_,rfl,Ye h⟩) wu))
end
end HT
namespace L2
open PySem PySem.Spec PyProof.Rows
abbrev TO:=St->Hp->(Option Int->Hp->Prop)->Prop
def PO(X:Cx)(e:Option Expr)(t:TO):Prop:=
 ∀(pins:2e2)(s:Shared)(σ:St)(H:Hp)(Q:Option Int->Hp->Prop),Inv X pins σ H s->t σ H Q->
  wpAny 3e6 X.A (evalPart e X.env) (λu s'=>∃o H',Inv X pins σ H' s'/\IsPart u o/\Q o H') X.xe s
noncomputable def Fx:TO:=λ_ H Q=>Q none H
noncomputable def Pz (t:TE):TO:=λσ H Q=>t σ H λx H1=>∃i,x=.int i/\Q (some i) H1
section
variable{X:Cx}{e:Expr}{te:TE}{lo hi:Option Expr}{tl th:TO}{pos p2:Pos}
theorem F6:PO X none Fx:=by
 sleep 7;rw[evalPart_none];show Ye ⟨none,H,I,.none,h⟩
theorem F5(h:PE X e te):PO X (some e) (Pz te):=by
 intro pins s σ H Q I hw;rw[evalPart_some];show cF (h pins s σ H _ I hw) λu s1 h_=>?_;obtain⟨x,H1,I1,r1,q1⟩:=h_;obtain⟨i,rfl,q⟩:=q1;obtain⟨t,rfl⟩:=r1;show⟨some i,H1,I1,.int i t,q⟩
def Fg(X:Cx)(r:V->Option Int->Option Int->Hp->VK->Prop):Prop:=
 ∀(pins:2e2)(s:Shared)(σ:St)(H:Hp)(x:V)(v vl vu:Value)(lo hi:Option Int)(sl:Addr)(Q:VK),Inv X pins σ H s->RelV x v->s.heap.IsSliceOf sl vl vu .none->IsPart vl lo->IsPart vu hi->r x lo hi H Q->
  ∃T id,typeLookup (.type T) "__getitem__"=pure (some (.builtin id))/\s.TypeIs v T/\wpAny 3e6 X.A (Uo v (.ref sl)) 15e2 X.xe s
theorem Fg.or{r r':V->Option Int->Option Int->Hp->VK->Prop}(h:Fg X r)(h':Fg X r'):Fg X (λx lo hi H Q=>r x lo hi H Q\/r' x lo hi H Q):=by
 intro pins s σ H x v vl vu lo hi sl Q I rx hs pl pu q;rcases q with q|q
 ·show h pins s σ H x v vl vu lo hi sl Q I rx hs pl pu q
 ·show h' pins s σ H x v vl vu lo hi sl Q I rx hs pl pu q
noncomputable def tSl (r:V->Option Int->Option Int->Hp->VK->Prop)(te:TE)(tl th:TO):TE:=λσ H Q=>te σ H λx H1=>tl σ H1 λl H2=>th σ H2 λu H3=>r x l u H3 Q
theorem BF{r:V->Option Int->Option Int->Hp->VK->Prop}(hr:Fg X r)(he:PE X e te)(hl:PO X lo tl)(hu:PO X hi th):PE X (.Subscript e (.Slice lo hi none p2) pos) (tSl r te tl th):=by
 sleep 7;show Subscript_ (cF (he pins s σ H _ I h) λv s1 h_=>?_);obtain⟨x,H1,I1,r1,q1⟩:=h_;show wpAny_Slice (cF (hl pins s1 σ H1 _ I1 q1) λvl s2 ⟨l,H2,I2,pl,q2⟩=>cF (hu pins s2 σ H2 _ I2 q2) λvu s3 h_=>?_);obtain⟨u,H3,I3,pu,q3⟩:=h_;rw[evalPart_none];show Ye ?_;have I4:Inv X pins σ H3 {s3 with heap:=s3.heap.push {cls:=.type "slice",data:=.fields #[vl,vu,.none]}}:=I3.kept (t':=s3.toks) λb ob q=>Yb _ q;obtain⟨T,id,hT,ht,hg⟩:=hr pins {s3 with heap:=s3.heap.push {cls:=.type "slice",data:=.fields #[vl,vu,.none]}} σ H3 x v vl vu l u s3.heap.objs.size Q I4 r1 (Heap.IsSliceOf.new ..) pl pu q3;change wpAny 3e6 X.A (subscriptTail e (.Slice lo hi none p2) v (.ref s3.heap.objs.size)) 15e2 X.xe {s3 with heap:=s3.heap.push {cls:=.type "slice",data:=.fields #[vl,vu,.none]}};show tail_any (ops:=[.ref s3.heap.objs.size,v]) ht hT hg (by with_unfolding_all rfl)
def rS(xs:List V)(lo hi:Option Int):List V:=(xs.drop (HT.cj xs.length 0 lo)).take (HT.cj xs.length xs.length hi-HT.cj xs.length 0 lo)
theorem Zdq(xs:List V)(lo hi:Option Int):(rS xs lo hi).length<=xs.length:=by
 ext rS;rw[Y1,XJ];lia
def Vap(K:W.Frag):V->Option Int->Option Int->Hp->VK->Prop:=λx lo hi H Q=>∃a xs,x=.ref a/\iz K H a xs/\
 ¬(HT.cj xs.length 0 lo=0/\HT.cj xs.length xs.length hi=xs.length)/\∀p,H p=none->Q (.ref p) (upd H p (.tup (rS xs lo hi)))
theorem JY:Fg X (Vap X.K):=by
 intro pins s σ H x v vl vu lo hi sl Q I rx hs pl pu h;obtain⟨a,xs,rfl,hx,hw,q⟩:=h;cases rx;obtain⟨aM,r,ht,hz⟩:=I.tuple hx;have hlen:aM.toArray.size=xs.length:=by rw[Yn];show r.length.symm
 show⟨"tuple",_,Xe.lookup,ht.typeIs,?_⟩;show HT.iX ht hs pl pu (by rw[hlen];show hw) ?_ (by rw[hlen];show hz);rw[hlen];show⟨.ref s.heap.objs.size,_,I.laid (t':=s.toks) (o:=.tup (rS xs lo hi)) (λb ob q=>Yb _ q) (Yl _) ?_,rfl,q _ (I.bV.fresh (Yl _))⟩;show⟨YI (Zdq xs lo hi) hz,_,(r.drop (HT.cj xs.length 0 lo)).take (HT.cj xs.length xs.length hi-HT.cj xs.length 0 lo),IsTup.new _ _⟩
def Qb(K:W.Frag):R2:=λx y H Q=>∃a b xs ys,x=.ref a/\y=.ref b/\iz K H a xs/\iz K H b ys/\xs≠[]/\xs.length+ys.length<=Yt/\
 (ys=[]->Q (.ref a) H)/\(ys≠[]->∀p,H p=none->Q (.ref p) (upd H p (.tup (xs++ys))))
theorem Vals.j0{xs:List V}{us:4e1}(r:Vals xs us):us=[]↔xs=[]:=by
 cases r with
 |nil=>simp
 |cons _ _=>simp
theorem Ge:dY X (WJ .Add) (Qb X.K):=by
 sleep 5;obtain⟨a,b,xs,ys,rfl,rfl,ha,hb,hx,hz,q1,q2⟩:=h;cases rx;cases ry;obtain⟨aM,r1,p1,_⟩:=I.tuple ha;obtain⟨yI,r2,p2,_⟩:=I.tuple hb;show HT.Hq p1 p2 (λz=>hx (r1.j0.mp z)) (λz=>⟨.ref a,H,I,rfl,q1 (r2.j0.mp z)⟩) (λz=>?_) (by rw[←r1.length,←r2.length];show hz);show⟨.ref s.heap.objs.size,_,I.laid (t':=s.toks) (o:=.tup (xs++ys)) (λb ob q=>Yb _ q) (Yl _) ?_,rfl,q2 (λw=>z (r2.j0.mpr w)) _ (I.bV.fresh (Yl _))⟩;show⟨by rw[YN];show hz,_,r1.append r2,IsTup.new _ _⟩
end
noncomputable def cV (n:Nat)(i:Int):Option Nat:=if 0<=i then(if i<n then some i.toNat else none)else if -(n:Int)<=i then some (i+n).toNat else none
def cM{α:Type}(xs:List α)(i:Int):Option α:=(cV xs.length i).bind λj=>xs[j]?
theorem wm{n:Nat}{i:Int}{j:Nat}(h:cV n i=some j):seqIndex? i n=some j/\j<n/\-(n:Int)<=i/\i<n:=by
 ext cV h;by_cases h0:0<=i
 ·rw[if_pos h0]at h
  by_cases h1:i<n
  ·rw[if_pos h1]at h
   have e:i.toNat=j:=YF h;show⟨by rw[seqIndex_of h0 h1,e],by lia,by lia,h1⟩
  ·rw[if_neg h1]at h;cases h
 ·rw[if_neg h0]at h
  by_cases h1:-(n:Int)<=i
  ·rw[if_pos h1]at h
   have e:(i+n).toNat=j:=YF h;show⟨by rw[seqIndex_neg 1e4 h1,e],by lia,h1,by lia⟩
  ·rw[if_neg h1]at h;cases h
theorem pq{α:Type}{xs:List α}{i:Int}{v:α}(h:cM xs i=some v):∃j,seqIndex? i xs.length=some j/\xs[j]? = some v/\j<xs.length/\-(xs.length:Int)<=i/\i<xs.length:=by
 ext cM h;cases e:cV xs.length i with
 |none=>rw[e]at h;cases h
 |some j=>
  rw[e]at h;obtain⟨h1,h2,h3,h4⟩:=wm e;show⟨j,h1,h,h2,h3,h4⟩
def i9(b:Expr):Prop:=∀o i,subscripted b false o i=operate [o,i] (Uo o i)
def xF(X:Cx)(r:R2):Prop:=
 ∀(value slice:Expr)(pins:2e2)(s:Shared)(σ:St)(H:Hp)(x y:V)(v u:Value)(Q:VK),Inv X pins σ H s->RelV x v->RelV y u->r x y H Q->
  subscripted slice false v u=operate [v,u] (Uo v u)->wpAny 3e6 X.A (subscriptTail value slice v u) 15e2 X.xe s
def MtR(X:Cx)(id:String)(r:V->List V->Hp->VK->Prop):Prop:=
 ∀(pins:2e2)(s:Shared)(σ:St)(H:Hp)(x:V)(xs:List V)(v:Value)(us:4e1)(Q:VK),Inv X pins σ H s->RelV x v->Vals xs us->r x xs H Q->
  wpAny 3e6 X.A (call (.builtin id) (v::us)) 15e2 X.xe s
section
variable{X:Cx}{a b:Expr}{ta tb:TE}{pos:Pos}
theorem xF.or{r r':R2}(h:xF X r)(h':xF X r'):xF X (λx y H Q=>r x y H Q\/r' x y H Q):=by
 intro value slice pins s σ H x y v u Q I rx ry q hs;rcases q with q|q
 ·show h value slice pins s σ H x y v u Q I rx ry q hs
 ·show h' value slice pins s σ H x y v u Q I rx ry q hs
theorem Qj{r:R2}(hr:xF X r)(ha:PE X a ta)(hb:PE X b tb)(hs:i9 b):PE X (.Subscript a b pos) (PB r ta tb):=by
 sleep 7;show Subscript_ (Ni ha hb I h λv u s2 x y H2 I2 rx ry q=>hr a b pins s2 σ H2 x y v u Q I2 rx ry q (hs _ _))
def Qa(K:W.Frag):R2:=λx y H Q=>∃p xs i v,x=.ref p/\y=.int i/\fB K H p xs/\cM xs i=some v/\Q v H
def P9(K:W.Frag):R2:=λx y H Q=>∃p xs i v,x=.ref p/\y=.int i/\iz K H p xs/\cM xs i=some v/\Q v H
def P':R2:=λx y H Q=>∃z i c,x=.str z/\y=.int i/\z.length<=Yt/\cM z.cps.toList i=some c/\Q (.str ⟨#[c]⟩) H
theorem GK:xF X (Qa X.K):=by
 intro value slice pins s σ H x y v u Q I rx ry h hs;obtain⟨p,xs,i,z,rfl,rfl,hq,he,q⟩:=h;cases rx;obtain⟨t,rfl⟩:=ry;obtain⟨aM,r,pl,hz⟩:=I.list hq;obtain⟨j,h1,h2,h3,h4,h5⟩:=pq he;obtain⟨w,ew,FJ⟩:=r.get h2;have hl:=r.length;have hn:=jk;have fin:EP X pins σ Q w s:=⟨z,H,I,FJ,q⟩
 by_cases h0:0<=i
 ·have hj:i.toNat=j:=by
   rw[seqIndex_of h0 h5]at h1;show YF h1
  show item_listR pl.isList h0 1e4 (by rw[hj];simpa using ew) fin hs
 ·have hj:(i+(aM.toArray.size:Int)).toNat=j:=by
   rw[seqIndex_neg 1e4 h4]at h1;rw[Yn,←hl];show YF h1
  show subscriptTail_builtinR (x:=w) pl.isList.typeIs slot_list_getitem.lookup
   (wpAny_getItem_list_neg (Q:=λr s'=>r=w/\EP X pins σ Q r s') pl.isList 1e4 (by rw[Yn]<;>lia) 1e4 (by rw[hj];simpa using ew) ⟨rfl,fin⟩) hs
theorem Mn:xF X (P9 X.K):=by
 intro value slice pins s σ H x y v u Q I rx ry h hs;obtain⟨p,xs,i,z,rfl,rfl,hq,he,q⟩:=h;cases rx;obtain⟨t,rfl⟩:=ry;obtain⟨aM,r,pl,hz⟩:=I.tuple hq;obtain⟨j,h1,h2,h3,h4,h5⟩:=pq he;obtain⟨w,ew,FJ⟩:=r.get h2;have hl:=r.length;have hn:=jk;have fin:EP X pins σ Q w s:=⟨z,H,I,FJ,q⟩
 show subscriptTail_builtinR (x:=w) pl.typeIs slot_tuple_getitem.lookup
  (getItem_tuple (j:=j) (Q:=λr s'=>r=w/\EP X pins σ Q r s') pl 1e4 1e4 (by rw[Yn,←hl];show h1) (by simpa using ew) ⟨rfl,fin⟩) hs
theorem Mq:xF X P':=by
 intro value slice pins s σ H x y v u Q I rx ry h hs;obtain⟨z,i,c,rfl,rfl,hz,he,q⟩:=h;sleep 8;obtain⟨t',rfl⟩:=ry;obtain⟨j,h1,h2,h3,h4,h5⟩:=pq he;have hl:z.cps.toList.length=z.length:=by simp[Str.length]
 rw[hl]at h1 h4 h5;have hn:=jk;show tail_any (typeIs_str s z t) slot_str_getitem.lookup (getItem_str (c:=c) (by
  have e1:decide (i < -(2^63:Int))=false:=decide_eq_false 1e4;have e2:decide (i≥2^63)=false:=decide_eq_false 1e4;rw[e1,e2,Bool.or_false]) (by rw[h1];simpa using h2) ⟨.str ⟨#[c]⟩,H,I.tok _,⟨_,rfl⟩,q⟩) hs
def ZC(K:W.Frag):R2:=λx y H Q=>Qa K x y H Q\/P9 K x y H Q\/P' x y H Q
theorem Cw:xF X (ZC X.K):=GK.or (Mn.or Mq)
theorem tX(aM:4e1)(n j:Nat)(u:Value):XU (·.setIfInBounds j u) {cls:=.type "list",data:=.seq aM.toArray n}={cls:=.type "list",data:=.seq (aM.set j u).toArray n}:=by
 simp[XU]
theorem Inv.lst{pins:2e2}{σ:St}{H:Hp}{s:Shared}{p:Addr}{xs:List V}(I:2e4)(h:H p=some (.lst xs)):
  ∃(aM:4e1)(n:Nat),Vals xs aM/\s.heap.get? p=some {cls:=.type "list",data:=.seq aM.toArray n}/\xs.length<=sizeLine:=by
 obtain⟨z,aM,n,r,e⟩:=I.bV p _ h;show⟨aM,n,r,e,z⟩
theorem Inv.L9{pins:2e2}{σ:St}{H:Hp}{s:Shared}{p:Addr}{xs ys:List V}{aM its':4e1}{n n':Nat}{f:Obj->Obj}(I:2e4)(h:H p=some (.lst xs))
  (ho:s.heap.get? p=some {cls:=.type "list",data:=.seq aM.toArray n}) (hf:f {cls:=.type "list",data:=.seq aM.toArray n}={cls:=.type "list",data:=.seq its'.toArray n'}) (r:Vals ys its') (hz:ys.length<=Yt) (t:Nat):
  Inv X pins σ (upd H p (.lst ys)) {s with heap:=s.heap.update p f,toks:=t}:=by
 have e:(s.heap.update p f).get? p=some {cls:=.type "list",data:=.seq its'.toArray n'}:=by
  rw[Vr f ho (by rw[hf]<;>rfl),hf]
 show I.write (x:=p) (e:=p) (by rw[h];trivial) 18e0 (λb u hb q=>(Heap.get?_update_other _ _ (Xp hb)).trans q) ⟨_,e⟩ ?_;show⟨hz,its',n',r,e⟩
def P7:V->V->V->Hp->(Hp->Prop)->Prop:=λo i v H Q=>∃p xs k j,o=.ref p/\i=.int k/\H p=some (.lst xs)/\cV xs.length k=some j/\Q (upd H p (.lst (xs.set j v)))
theorem set_list:TF X P7:=by
 intro pins s σ H o i v ov iv u Q I ro ri rv h;obtain⟨p,xs,k,j,rfl,rfl,hp,hj,q⟩:=h;cases ro;obtain⟨t,rfl⟩:=ri;obtain⟨aM,n,r,ho,hz⟩:=I.lst hp;obtain⟨h1,h2,h3,h4⟩:=wm hj;have hl:=r.length;have hn:=jk;have I':Inv X pins σ (upd H p (.lst (xs.set j v))) {s with heap:=s.heap.update p (XU (·.setIfInBounds j u))}:=
  I.L9 hp ho (tX aM n j u) (r.set rv j) (by rw[XH];show hz) s.toks
 by_cases h0:0<=k
 ·have hk:k.toNat=j:=by
   rw[seqIndex_of h0 h4]at h1;show YF h1
  show W.ki_setAt ho h0 1e4 (by rw[Yn,←hl];show h4) (by rw[hk];show⟨_,I',q⟩)
 ·have hk:(k+(aM.toArray.size:Int)).toNat=j:=by
   rw[seqIndex_neg 1e4 h3]at h1;rw[Yn,←hl];show YF h1
  show W.ki_setBack ho 1e4 (by rw[Yn,←hl];show h3) 1e4 (by rw[hk];show⟨_,I',q⟩)
theorem n9(lo hi:Option Int)(n:Nat):(Vl lo hi none n).1=((HT.cj n 0 lo:Nat):Int)/\(Vl lo hi none n).2.1=((HT.cj n n hi:Nat):Int)/\(Vl lo hi none n).2.2=1:=by
 show⟨?_,?_,rfl⟩
 ·cases lo with
  |none=>simp[Vl,HT.cj]
  |some i=>
   simp only[Vl,HT.cj,Option.getD_none,show(1:Int)>0 by decide,if_true];by_cases h:i<0
   ·simp only[h,if_true]<;>lia
   ·simp only[h,if_false]<;>lia
 ·cases hi with
  |none=>simp[Vl,HT.cj]
  |some i=>
   simp only[Vl,HT.cj,Option.getD_none,show(1:Int)>0 by decide,if_true];by_cases h:i<0
   ·simp only[h,if_true]<;>lia
   ·simp only[h,if_false]<;>lia
theorem lO(aM:4e1)(lo hi:Option Int):slicePick aM.toArray lo hi none=((aM.drop (HT.cj aM.length 0 lo)).take (HT.cj aM.length aM.length hi-HT.cj aM.length 0 lo)).toArray:=by
 obtain⟨h1,h2,h3⟩:=n9 lo hi aM.toArray.size;ext slicePick;rw[h1,h2,h3];simp only[sliceRange_one,pick_run,Yn]<;>rfl
def Vaq(K:W.Frag):V->Option Int->Option Int->Hp->VK->Prop:=λx lo hi H Q=>∃a xs,x=.ref a/\fB K H a xs/\∀p,H p=none->Q (.ref p) (upd H p (.lst (rS xs lo hi)))
theorem FG:Fg X (Vaq X.K):=by
 intro pins s σ H x v vl vu lo hi sl Q I rx hs pl pu h;obtain⟨a,xs,rfl,hx,q⟩:=h;cases rx;obtain⟨aM,r,ht,hz⟩:=I.list hx;have hlen:=r.length;show⟨"list",_,slot_list_getitem.lookup,ht.isList.typeIs,?_⟩;show wpAny_getItem_list_slice ht.isList hs pl pu .none 4e4 ?_ (by rw[Yn]<;>lia);rw[lO,←hlen];show⟨.ref s.heap.objs.size,_,I.laid (t':=s.toks) (o:=.lst (rS xs lo hi)) (λb ob q=>Yb _ q) (Yl _) ?_,rfl,q _ (I.bV.fresh (Yl _))⟩;show⟨YI (Zdq xs lo hi) hz,_,0,(r.drop (HT.cj xs.length 0 lo)).take (HT.cj xs.length xs.length hi-HT.cj xs.length 0 lo),Yw _ rfl⟩
noncomputable def ir:V->Bool
 |.aP=>true
 |.bl _=>true
 |.int _=>true
 |.str _=>true
 |_=>false
noncomputable def Hg:V->V->Bool
 |.aP,.aP=>true
 |.bl a,.bl b=>a==b
 |.bl a,.int b=>(if a then 1 else 0)==b
 |.int a,.bl b=>a==(if b then 1 else 0)
 |.int a,.int b=>a==b
 |.str a,.str b=>a==b
 |_,_=>false
theorem M4{A:Around}{s:Shared}{y x:V}{u v:Value}(ry:RelV y u)(rx:RelV x v)(fy:ir y=true)(fx:ir x=true):SeqAt.EqAt A s u v (Hg y x):=by
 cases y with
 |aP=>
  cases ry;cases x with
  |aP=>cases rx;show SeqAt.EqAt.same _
  |bl b=>cases rx;show SeqAt.EqAt.none_bool b
  |int b=>obtain⟨t,rfl⟩:=rx;show SeqAt.EqAt.none_int b t
  |str b=>obtain⟨t,rfl⟩:=rx;show SeqAt.EqAt.none_str b t
  |_=>show absurd (show false=true from fx) Yi
 |bl a=>
  cases ry;cases x with
  |aP=>cases rx;show SeqAt.EqAt.bool_none a
  |bl b=>cases rx;show SeqAt.EqAt.bool_bool a b
  |int b=>obtain⟨t,rfl⟩:=rx;show SeqAt.EqAt.bool_int a b t
  |str b=>obtain⟨t,rfl⟩:=rx;show SeqAt.EqAt.bool_str a b t
  |_=>show absurd (show false=true from fx) Yi
 |int a=>
  obtain⟨t',rfl⟩:=ry;cases x with
  |aP=>cases rx;show SeqAt.EqAt.int_none a t'
  |bl b=>cases rx;show SeqAt.EqAt.int_bool a t' b
  |int b=>obtain⟨t,rfl⟩:=rx;show SeqAt.EqAt.int_int a t' b t
  |str b=>obtain⟨t,rfl⟩:=rx;show SeqAt.EqAt.int_str a t' b t
  |_=>show absurd (show false=true from fx) Yi
 |str a=>
  obtain⟨t',rfl⟩:=ry;cases x with
  |aP=>cases rx;show SeqAt.EqAt.str_none a t'
  |bl b=>cases rx;show SeqAt.EqAt.str_bool a t' b
  |int b=>obtain⟨t,rfl⟩:=rx;show SeqAt.EqAt.str_int a t' b t
  |str b=>obtain⟨t,rfl⟩:=rx;show SeqAt.EqAt.str_str a t' b t
  |_=>show absurd (show false=true from fx) Yi
 |_=>show absurd (show false=true from fy) Yi
def Hh(x:V)(u:Value):Bool:=match u with
 |.none=>Hg .aP x
 |.bool b=>Hg (.bl b) x
 |.int i _=>Hg (.int i) x
 |.str z _=>Hg (.str z) x
 |_=>false
theorem CW{x y:V}{u:Value}(r:RelV y u)(f:ir y=true):Hh x u=Hg y x:=by
 cases y with
 |aP=>cases r;rfl
 |bl b=>cases r;rfl
 |int i=>obtain⟨t,rfl⟩:=r;rfl
 |str z=>obtain⟨t,rfl⟩:=r;rfl
 |_=>show absurd (show false=true from f) Yi
theorem pz{x:V}:∀{xs:List V}{us:4e1},Vals xs us->xs.all ir=true->us.any (Hh x)=xs.any λy=>Hg y x
 |_,_,.nil,_=>rfl
 |y::xs,u::us,.cons r t,f=>by
  rw[Xx,Yg]at f;rw[Xd,Xd,CW r f.1,pz t f.2]
theorem kA{A:Around}{s:Shared}{x:V}{v:Value}(rx:RelV x v)(fx:ir x=true):∀{xs:List V}{us:4e1},Vals xs us->xs.all ir=true->∀u∈us,SeqAt.EqAt A s u v (Hh x u)
 |_,_,.nil,_=>λu hu=>by cases hu
 |y::xs,u::us,.cons r t,f=>λu' hu=>by
  rw[Xx,Yg]at f;rcases Yd.mp hu with rfl|hu
  ·rw[CW r f.1];show M4 r rx f.1 fx
  ·show kA rx fx t f.2 u' hu
def ZO(x:V)(xs:List V):Bool:=xs.any λy=>Hg y x
def rIn(K:W.Frag)(neg:Bool):R2:=λx y H Q=>∃p xs,y=.ref p/\(fB K H p xs\/iz K H p xs)/\ir x=true/\xs.all ir=true/\Q (.bl (if neg then !ZO x xs else ZO x xs)) H
theorem yw:dY X (Xa .In) (rIn X.K false):=by
 sleep 5;obtain⟨p,xs,rfl,hq,fx,fs,q⟩:=h;cases ry;rcases hq with hq|hq
 ·obtain⟨aM,r,pl,hz⟩:=I.list hq
  show SeqAt.in_listAt (Hh x) pl.isList (λw hw=>kA rx fx r fs w (by simpa using hw)) ⟨.bl _,H,I,rfl,?_⟩;rw[show aM.toArray.any (Hh x)=aM.any (Hh x) by simp,pz r fs];show q
 ·obtain⟨aM,r,pl,hz⟩:=I.tuple hq
  show SeqAt.in_tupleAt (Hh x) pl (λw hw=>kA rx fx r fs w (by simpa using hw)) ⟨.bl _,H,I,rfl,?_⟩;rw[show aM.toArray.any (Hh x)=aM.any (Hh x) by simp,pz r fs];show q
theorem cR.or{f:Value}{r r':14e1}(h:cR X f r)(h':cR X f r'):cR X f (λxs H Q=>r xs H Q\/r' xs H Q):=by
 intro pins s σ H xs us Q I rs q;rcases q with q|q
 ·show h pins s σ H xs us Q I rs q
 ·show h' pins s σ H xs us Q I rs q
theorem l0:cR X (.type "tuple") (λxs H Q=>∃p ys,xs=[.ref p]/\((fB X.K H p ys/\∀l,H l=none->Q (.ref l) (upd H l (.tup ys)))\/(iz X.K H p ys/\Q (.ref p) H))):=by
 sleep 15;obtain⟨p,ys,rfl,h⟩:=h;obtain⟨u,rfl,rx⟩:=vals1 r;cases rx;rcases h with⟨hq,q⟩|⟨hq,q⟩
 ·obtain⟨aM,r',pl,hz⟩:=I.list hq
  have hlen:=r'.length;show call_tuple_list pl.isList (λh' kp=>?_) (by simp only[Yn]<;>lia);have I1:Inv X pins σ H {s with heap:=h'}:=I.kept (t':=s.toks) kp;have I2:Inv X pins σ (upd H h'.objs.size (.tup ys)) {s with heap:=h'.push {cls:=.type "tuple",data:=.seq aM.toArray}}:=
   I1.laid (t':=s.toks) (λb o e=>Yb _ e) (Yl _) (show bS X.prog X.w _ _ _ (.tup ys)from⟨hz,aM,r',IsTup.new _ _⟩)
  show⟨.ref h'.objs.size,_,I2,rfl,q _ (I1.bV.fresh (Yl _))⟩
 ·obtain⟨aM,r',pl,hz⟩:=I.tuple hq
  show call_tuple_same pl ⟨.ref p,H,I,rfl,q⟩
def tyV(K:W.Frag)(T:String)(x:V)(H:Hp):Prop:=match x with
 |.str _=>T="str"
 |.int _=>T="int"
 |.ref p=>(T="list"/\∃xs,fB K H p xs)\/(T="tuple"/\∃o,K.lookup p=some o/\o.cls=.type "tuple"/\o.dict=none)\/
   (T="dict"/\((∃kvs,H p=some (.dK kvs))\/∃kvs,H p=some (.dT kvs)))\/(T="set"/\∃S n,H p=some (.set S n))
 |_=>False
theorem JJ{pins:2e2}{σ:St}{H:Hp}{s:Shared}{T:String}{x:V}{v:Value}(I:2e4)(r:RelV x v)(ty:tyV X.K T x H):
  s.TypeIs v T/\∀a,v=.ref a->∃ob,s.heap.get? a=some ob/\ob.dict=none:=by
 cases x with
 |str z=>
  obtain⟨t,rfl⟩:=r;cases(show T="str" from ty);show⟨typeIs_str s z t,λ_ e=>nomatch e⟩
 |int i=>
  obtain⟨t,rfl⟩:=r;cases(show T="int" from ty);show⟨typeIs_int s i t,λ_ e=>nomatch e⟩
 |ref p=>
  cases r;rcases ty with⟨rfl,xs,hq⟩|⟨rfl,o,hk,hc,hd⟩|⟨rfl,hk⟩|⟨rfl,S,n,hk⟩
  ·obtain⟨aM,_,pl,_⟩:=I.list hq
   show⟨pl.isList.typeIs,λa e=>?_⟩;cases e;obtain⟨o,n,e,c,hd,_⟩:=pl;show⟨o,e,hd⟩
  ·show⟨⟨o,I.kI p o hk,hc⟩,λa e=>?_⟩
   cases e;show⟨o,I.kI _ o hk,hd⟩
  ·have z:∃o,s.heap.get? p=some o/\o.ExactDict:=by
    rcases hk with⟨kvs,hk⟩|⟨kvs,hk⟩
    ·obtain⟨_,_,_,_,o,_,_,e,ex,_⟩:=I.bV p _ hk
     show⟨o,e,ex⟩
    ·obtain⟨_,_,_,_,o,_,_,e,ex,_⟩:=I.bV p _ hk
     show⟨o,e,ex⟩
   obtain⟨o,e,ex⟩:=z;show⟨⟨o,e,ex.1⟩,λa e2=>?_⟩;cases e2;show⟨o,e,ex.2.1⟩
  ·obtain⟨o,_,_,_,e,ex,_⟩:=I.bV p _ hk
   show⟨⟨o,e,ex.1⟩,λa e2=>?_⟩;cases e2;show⟨o,e,ex.2.1⟩
 |_=>show Wu ty
noncomputable def tBM (K:W.Frag)(T:String)(r:V->List V->Hp->VK->Prop)(to:TE)(t:TA):TE:=λσ H Q=>to σ H λx H1=>tyV K T x H1/\t σ H1 λxs H2=>r x xs H2 Q
variable{o e:Expr}{es:6e1}{to:TE}{t:TA}{name:Str}{apos dg:Pos}{T id:String}{r:V->List V->Hp->VK->Prop}
theorem Qk(pa:PlainAttrs T)(slot:Slot T name id)(OL:typeOf (.builtin id)=pure (.type "method_descriptor"))(hm:MtR X id r)(ho:PE X o to)(ha:PA X 7e6 t)
  (CL:attributeBase o name X.env (eval o X.env)=eval o X.env:=by rfl)
  (ML:((backTo dg (Yo 7e6 X.env)).all (λx=>!x.1)&&(backToKw dg (keywordEach [] X.env)).all (λx=>x.1.isSome)
   &&decide ((e::es).length+([]:List Keyword).length+(if([]:List Keyword).isEmpty then 0 else 1)<30))=true:=by rfl)
  (CG:(apos.endLine==dg.line)=true:=by rfl) (hs:1e9:=by rfl) (uo:(backTo dg (Yo es X.env)).any (·.1)=false:=by rfl):
  PE X (.Call (.Attribute o name apos) 7e6 [] dg) (tBM X.K T r to t):=by
 sleep 7;show wpAny_Call_method_late CL ML CG rfl (cF (ho pins s σ H _ I h) λv s1 h_=>?_);obtain⟨x,H1,I1,r1,ty,q1⟩:=h_;obtain⟨h1,h2⟩:=JJ I1 r1 ty;show⟨T,id,pa,slot,OL,h1,h2,?_⟩;have hA:=ha dg pins s1 σ H1 _ I1 q1;rw[hs]at hA⊢;show Calls.callWith_builtin (by change(false||(backTo dg (Yo es X.env)).any (·.1))=false;rw[uo]<;>rfl) (Calls.evalArgs_plain ?_);show cF hA λus s2 ⟨vs,H2,I2,r2,q2⟩=>hm pins s2 σ H2 x vs v us Q I2 r1 r2 q2
end
def MtM(X:Cx)(id:String)(r:V->List V->Hp->VK->Prop):Prop:=
 ∀(pins:2e2)(s:Shared)(σ:St)(H:Hp)(x:V)(xs:List V)(v:Value)(us:4e1)(Q:VK),Inv X pins σ H s->RelV x v->Vals xs us->r x xs H Q->
  wpAny 3e6 X.A (call (.builtin id) (v::us)) 15e2 X.xe s
theorem Vals.one:∀{x:V}{us:4e1},Vals [x] us->∃u,us=[u]/\RelV x u:=by
 intro x us r;cases r with
 |cons r t=>cases t;show⟨_,rfl,r⟩
theorem Vals.two:∀{x y:V}{us:4e1},Vals [x,y] us->∃u v,us=[u,v]/\RelV x u/\RelV y v:=by
 intro x y us r;cases r with
 |cons r t=>cases t with
  |cons q t=>cases t;show⟨_,_,rfl,r,q⟩
section
variable{X:Cx}{pins:2e2}{σ:St}{H:Hp}{s:Shared}{l b:Addr}{xs ys zs:List V}
theorem Inv.VaC{aM its':4e1}{n:Nat}{f:Array Value->Array Value}{t':Nat}(I:2e4)(hH:H l=some (.lst xs))
  (e:s.heap.get? l=some {cls:=.type "list",data:=.seq aM.toArray n}) (hf:f aM.toArray=its'.toArray) (hv:Vals ys its') (hz:ys.length<=Yt):
  Inv X pins σ (upd H l (.lst ys)) {s with heap:=s.heap.update l (XU f),toks:=t'}:=by
 have q:=PySem.IsL.update e f;rw[hf]at q;show I.write (x:=l) (e:=l) (by rw[hH];show trivial) 18e0 (λb' u hb hu=>(Heap.get?_update_other s.heap (XU f) (Xp hb)).trans hu) ⟨_,q⟩ ?_;show⟨hz,its',_,hv,q⟩
theorem Inv.VaD{aM:4e1}{t':Nat}(I:2e4)(hv:Vals ys aM)(hz:ys.length<=Yt):
  Inv X pins σ (upd H s.heap.objs.size (.lst ys)) {s with heap:=s.heap.push {cls:=.type "list",data:=.seq aM.toArray},toks:=t'}:=
 I.laid (λ_ _ q=>Yb _ q) (Yl _) ⟨hz,aM,0,hv,Yw _ rfl⟩
theorem Inv.fresh(I:2e4):H s.heap.objs.size=none:=I.bV.fresh (Yl _)
theorem Inv.VaB(I:2e4)(hH:H l=some (.lst xs)):xs.length<=Yt/\∃(aM:4e1)(n:Nat),Vals xs aM/\xs.length=aM.length/\s.heap.get? l=some {cls:=.type "list",data:=.seq aM.toArray n}:=by
 obtain⟨z,aM,n,r,e⟩:=I.bV l _ hH;show⟨z,aM,n,r,r.length,e⟩
end
section
variable{X:Cx}
def FQ:V->List V->Hp->VK->Prop:=λx vs H Q=>∃l xs y,x=.ref l/\vs=[y]/\H l=some (.lst xs)/\xs.length<Yt/\Q .aP (upd H l (.lst (xs++[y])))
theorem yy:MtM X "list.append" FQ:=by
 intro pins s σ H x vs v us Q I rx rv h;obtain⟨l,xs,y,rfl,rfl,hH,hz,q⟩:=h;cases rx;obtain⟨u,rfl,ru⟩:=rv.one;obtain⟨z,aM,n,r,hl,e⟩:=I.VaB hH;show call_meets F.slot_list_append ⟨_,e,rfl⟩ F.entry_list_append (F.args_list_append_2 _ _) (PySem.list_append l aM.toArray n u (by rw[Yn];lia)) ⟨e,?_⟩;show⟨.aP,_,I.VaC (its':=aM++[u]) hH e 4e4 (r.append (.cons ru .nil)) ?_,rfl,q⟩;rw[YN,WA];lia
end
end L2
namespace Att
open PySem PySem.W PySem.Calls PyProof.Rows
theorem Zde{P:Params}{h:Heap}:∀(ns:List Int)(vs:4e1),WellAll P h vs (ns.map WData.int)->IntsAre vs ns:=by
 intro ns;induction ns with
 |nil=>
  intro vs w;rw[Vs]at w;cases w;show .nil
 |cons n ns ih=>
  intro vs w;rw[Yz]at w;cases w with
  |cons a b=>
   cases a;show .cons _ _ (ih _ b)
theorem xV{l:OpenLaw}{n:Nat}(hn:l.most=some n){P:Params}{h:Heap}{args:List WData}{vals:4e1}
    (GV:l.row.toRowW.claim.pre args=true) (CC:WellAll P h vals args):
    ∃a vs ns,vals=[Y9 a]/\args=[WData.list (ns.map WData.int)]/\h.get? a=some {cls:=.type "list",data:=.seq vs.toArray}/\IntsAre vs ns/\ns.length<=n:=by
  have oQ:WShape.hasAll [] args [.list .int]=true:=(pre_splitW GV).1;have hc:l.pre.holds [] {args:=args}=true:=(pre_splitW GV).2;obtain⟨d,r,rfl,h1,h2⟩:=hasAllW_cons oQ;obtain rfl:=hasAllW_nil h2;obtain⟨xs,rfl,h3⟩:=hasW_list h1;obtain⟨ns,rfl⟩:=items_int h3;have hlen:ns.length<=n:=by
    ext OpenLaw.pre hc;have h4:(WTm.not (.lt (.lit (.int (n:Int))) (.len (.arg 0)))).holds [] {args:=[.list 11e9]}=true:=by
      have h4:=(holds_andW hc).1;rw[hn]at h4;show h4
    have h5:=condW_of h4 (w_not (w_lt w_lit (w_len_list (w_arg rfl))));rw[Yv]at h5;show Nat.le_of_not_lt λq=>?_;have q':(n:Int)<((ns.length:Nat):Int):=by lia
    first
      |(rw[decide_eq_true q']at h5;show absurd h5 (by decide))
      |(simp at h5;lia)
  cases CC with
  |cons w1 w2=>
    cases w2;cases w1 with
    |list ho Va1=>show⟨_,_,ns,rfl,rfl,ho,Zde ns _ Va1,hlen⟩
theorem yn(l:OpenLaw)(args:List WData):l.row.toRowW.claim.post args (.bool true) args=true:=
 postW_of (r:=l.row.toRowW) (X:=(true==true))
  (show WShape.has [] (.bool true) .bool=true by first|rfl|decide|simp[WShape.has,WShape.arms,WShape.armsAll])
  (show(WTm.eq .res (.lit (.bool true))).value [] {args:=args,res:=some (.bool true),after:=args}=some (.bool (true==true))from w_eq_bool (w_res rfl) w_lit) rfl
theorem sv{l:OpenLaw}{n:Nat}{q:Ys}{loose:6e2}{XP:(Str->Option Value)->Heap->Prop}{YP:World->Heap->Prop}{d:DefRec}
  (hn:l.most=some n) (OX:d.params.defaults=[])
  (call:∀(w:World)(s₀ s₁:Shared)(mg mb:2e5)(fa:Addr)(o:Obj)(pm cd doc:Value)(a:Addr)(vs:4e1)(ns:List Int),
   Ground q loose [] XP w s₀ mg mb s₁.heap->YP w s₁.heap->
   s₁.heap.get? fa=some o->o.data=.func (docDef d.name d.params d.body d.scope pm cd doc)->s₁.heap.CodeRec cd d.name->mg d.name=some (.ref fa)->
   s₁.heap.get? a=some {cls:=.type "list",data:=.seq vs.toArray}->IntsAre vs ns->ns.length<=n->s₁.gens=#[]->
   Wo (model l.prog w) Uy (.call (.ref fa) ⟨[.ref a],[]⟩) (λr s'=>r=.ok (.ret (.bool true))/\OldK s₁.heap s'.heap/\s'.os=s₁.os/\V8 s'.gens) s₁):
  WalkO q loose XP YP l.row.toRowW d [] (λf vs=>PySem.call f vs):=by
 intro w s₀ s₁ mg mb G Y fa o pm cd doc dV kV ho hd rj hD Rx hg args vals as GV Vbw hrd CC ZZ;obtain rfl:dV=.none:=Dflts.none hD OX;obtain rfl:kV=.none:=Dflts.noKw hD;obtain⟨a,vs,ns,rfl,rfl,ME,hints,hlen⟩:=xV hn GV CC;show enter_call (Ub (call w s₀ s₁ mg mb fa o pm cd doc a vs ns G Y ho (fd_plain hd) rj Rx ME hints hlen hg) λr s' hq=>?_);obtain⟨rfl,h2,h3,h4⟩:=hq;show⟨.inl ⟨.bool true,.bool true,[],rfl,λ_=>rfl,.bool true,yn l _,λ_=>⟨List.Pairwise.nil,λ_ hm=>(nomatch hm)⟩⟩,h2,h3,h4⟩
end Att
namespace L2
open PySem PySem.Spec PyProof.Rows
theorem l9:∀{vs:4e1}{ns:List Int},IntsAre vs ns->Vals (ns.map V.int) vs
 |_,_,.nil=>.nil
 |_,_,.cons n t h=>.cons ⟨t,rfl⟩ (l9 h)
def TJ(H:Hp):Prop:=∀b,H b=none\/∃o xs,H b=some (.wC o (.lst xs))
theorem Co{P:Ys}{w:World}{K:W.Frag}{mg mb:2e5}{CX:EC}{k:Nat}{fa a:Addr}{fd:Yx}{x:Str}{sp:Sp}{s₁:Shared}{vs:4e1}{ns:List Int}
  (KX:K.In s₁.heap) (hns:s₁.heap.Ns Xo mg) (hb:s₁.heap.Ns builtinsNs mb) (hbb:∀x:Str,x≠"__name__"->mb x=Xb x) (VaS:s₁.heap.NoLimit) (hg:s₁.gens=#[])
  (ha:s₁.heap.get? a=some {cls:=.type "list",data:=.seq vs.toArray}) (hi:IntsAre vs ns) (hl:ns.length<=Yt) (hr:dM k Uy)
  (F:∀base:Heap,K.In base->base.Ns Xo mg->aN P w K mg base CX k fa fd [x] sp) (RQ:∀(s:Shared)(u:Value),BindsTo s fd ⟨[u],[]⟩ [(x,u)])
  (EK:∀H:Hp,TJ H->fB K H a (ns.map V.int)->sp [.ref a] H (λv _=>v=.bl true) λ_ _ _=>False)
  (hCX:∀H e s',CX [] H s₁ (λ_ _ _=>False) e s'->False):
  Wo (model P w) Uy (.call (.ref fa) ⟨[.ref a],[]⟩) (λr s'=>r=.ok (.ret (.bool true))/\OldK s₁.heap s'.heap/\s'.os=s₁.os/\V8 s'.gens) s₁:=by
 have rv:=l9 hi;have VaE:=hi.length;have core:∀H:Hp,TJ H->fB K H a (ns.map V.int)->iK P w H s₁.heap->(∀b,H b≠none->b=a)->(H a≠none->K.lookup a=none)->
   Wo (model P w) Uy (.call (.ref fa) ⟨[.ref a],[]⟩) (λr s'=>r=.ok (.ret (.bool true))/\OldK s₁.heap s'.heap/\s'.os=s₁.os/\V8 s'.gens) s₁:=by
  intro H hO hS bV hA hK;have xp:∀{b:Addr}{o:Obj},s₁.heap.get? b=some o->H b=none->(oS s₁.heap H).get? b=some o:=λe n=>CI e n;have Qs:∀{b:Addr}{o:Obj}{es:Array Wa}{ep:Nat},s₁.heap.get? b=some o->o.data=.dict es ep->H b=none:=λ{b o es ep} e d=>by
   cases q:H b with
   |none=>rfl
   |some u=>
    have e':b=a:=hA b (by rw[q];simp);subst e';rw[ha]at e;cases e;have d':Data.seq vs.toArray _=Data.dict es ep:=d;cases d'
  have ZG:∀{b:Addr}{m:2e5},s₁.heap.Ns b m->(oS s₁.heap H).Ns b m:=λ{b m} ⟨o,es,ep,e,d,r⟩=>⟨o,es,ep,xp e (Qs e d),d,r⟩
  have hKb:K.In (oS s₁.heap H):=λb o e=>xp (KX b o e) (by
   cases q:H b with
   |none=>rfl
   |some u=>
    have e':b=a:=hA b (by rw[q];simp);subst e';rw[hK (by rw[q];simp)]at e;cases e)
  have hM:Mod K mg (oS s₁.heap H):=⟨hKb,ZG hns,⟨mb,ZG hb,hbb⟩,let⟨mc,h1,h2⟩:=VaS;⟨mc,ZG h1,h2⟩⟩
  have e0:HF P w K mg (oS s₁.heap H) Uy [] s₁ H:=⟨rfl,hM,λb o e=>Gj e,Ud (yR _ _),trivial,λb hb=>absurd (show b∈([]:List Addr)from hb) 4e4,bV,.of_eq hg⟩
  show Ub ((F _ hKb (ZG hns)).run Uy [] s₁ H ⟨[.ref a],[]⟩ [.ref a] [.ref a] _ _ hr e0 (RQ s₁ (.ref a)) (.cons rfl .nil) (EK H hO hS)) λr s' h=>?_;cases r with
  |error e=>show(hCX H e s' h).elim
  |ok fl=>
   cases fl with
   |next=>show Wu h
   |brk=>show Wu h
   |cont=>show Wu h
   |ret u=>
    obtain⟨v,H',os,bare,un,VaO,r',q⟩:=h;have q':v=.bl true:=q;subst q';obtain rfl:u=Vj true:=r';show⟨rfl,OldK.of_keep λb o e=>?_,os,bare⟩;cases q:H b with
    |none=>show un.keep b o e q (by intro z;show absurd (show b∈([]:List Addr)from z) 4e4) 4e4
    |some u=>
     rcases hO b with z|⟨ob,xs,z⟩
     ·rw[q]at z;cases z
     ·have z2:=un.jn b ob _ z
      obtain⟨e1,_⟩:=bV b _ z;obtain⟨e2,_⟩:=VaO b _ z2;rw[e]at e1;cases e1;show e2
 cases hk:K.lookup a with
 |some o=>
  have e:=KX a o hk;rw[ha]at e;cases e;show core (λ_=>none) (λ_=>.inl rfl) (.inr ⟨_,vs.toArray,_,hk,rfl,rfl,rfl,by rw[Yn,VaE];show hl,by simpa using rv⟩) (λb u z=>by have z':(none:Option HO)=some u:=z;cases z') (λb z=>absurd rfl z) λz=>absurd rfl z
 |none=>
  show core (λb=>if b=a then some (.wC {cls:=.type "list",data:=.seq vs.toArray} (.lst (ns.map V.int)))else none) (λb=>?_) (.inl (.inr ⟨{cls:=.type "list",data:=.seq vs.toArray},if_pos rfl⟩)) (λb u z=>?_) (λb z=>?_) λ_=>hk
  ·by_cases hb:b=a
   ·show .inr ⟨_,_,if_pos hb⟩
   ·show .inl (if_neg hb)
  ·by_cases hb:b=a
   ·have z':=(if_pos hb).symm.trans z
    cases z';subst hb;show⟨ha,by rw[Yv];show hl,vs,_,rv,ha⟩
   ·have z':=(if_neg hb).symm.trans z
    cases z'
  ·by_cases hb:b=a
   ·show hb
   ·show absurd (if_neg hb) z
noncomputable def g9 (s:Stmt):Arguments:=match s with
 |.FunctionDef _ a _ _ _ _ _ _ _ _=>a
 |_=>{posonlyargs:=[],args:=[],vararg:=none,kwonlyargs:=[],kw_defaults:=[],kwarg:=none,defaults:=[]}
noncomputable def en (s:Stmt):List Stmt:=match s with
 |.FunctionDef _ _ b _ _ _ _ _ _ _=>b
 |_=>[]
noncomputable def ay (s:Stmt):Scope:=match s with
 |.FunctionDef _ _ _ _ _ _ sc _ _ _=>sc
 |_=>{kind:=.function,names:=[],isGenerator:=false,isCoroutine:=false}
noncomputable abbrev bY:EC:=λ_ _ _ _ _ _=>False
noncomputable abbrev E0:XK:=λ_ _ _=>False
theorem qy{X:Cx}:Passes bY X E0:=λ_ _ _ _ _ _ _ h=>h.elim
structure eV(K:W.Frag)(x qual:Str)(st:Stmt)(f:Addr)(fd:Yx):Prop where
 ex:∃(oc:Value)(od:Option Addr)(kV doc pm:Value)(an:Option Addr)(cdv ct:Value)(osl:Array (Option Value)),
  fd=W.fnOf x qual (g9 st) (en st) (ay st) .none kV doc pm an cdv ct/\K.lookup f=some ⟨oc,od,.func fd,osl⟩/\W.codeIn K cdv qual=true
 kp:YE K (.ref f)=true
section
variable{P:Ys}{w:World}{K:W.Frag}{mg:2e5}{base:Heap}
theorem eV.ok{x qual:Str}{st:Stmt}{f:Addr}{fd:Yx}{N ps:6e2}{k:Nat}{sp:Sp}(F:eV K x qual st f fd)(S:aR N ps (ay st))(len:∀vs H Q E,sp vs H Q E->vs.length=ps.length)
  (kN:∀(cdv:Value)(A:Around)(outer:List Env)(s:Shared)(H:Hp)(vs:List V)(Q:VK)(E:XK),dM k (A.deeper (envOfC qual (ay st) s.heap.objs.size f cdv))->sp vs H Q E->
   ∃t,pM (rQ bY P w K mg base N qual (ay st) f cdv A outer s H E).Oy (en st) t/\t {nx:=λ_ H'=>Q .aP H',rt:=Q} (start N vs) H):aN P w K mg base bY (k+1) f fd ps sp:=by
 obtain⟨oc,od,kV,doc,pm,an,cdv,ct,osl,rfl,lk,rj⟩:=F.ex;show R0 lk rj S len λA outer s H vs Q E hr EK=>?_;obtain⟨t,h,q⟩:=kN cdv A outer s H vs Q E hr EK;show⟨t,h.Oy,q⟩
theorem eV.binds{x qual:Str}{st:Stmt}{f:Addr}{fd:Yx}{ps:6e2}(F:eV K x qual st f fd)
  (h:∀(kV doc pm:Value)(an:Option Addr)(cdv ct:Value)(us:4e1),us.length=ps.length->bindArgs (W.fnOf x qual (g9 st) (en st) (ay st) .none kV doc pm an cdv ct) ⟨us,[]⟩=pure (ps.zip us)):Binds K fd ps []:=by
 obtain⟨oc,od,kV,doc,pm,an,cdv,ct,osl,rfl,lk,rj⟩:=F.ex;show .all (h kV doc pm an cdv ct)
theorem MW{x qual:Str}{st:Stmt}{f:Addr}{oc:Value}{od an:Option Addr}{osl:Array (Option Value)}{kV doc pm cdv ct:Value}(l:K.lookup f=some ⟨oc,od,.func (W.fnOf x qual (g9 st) (en st) (ay st) .none kV doc pm an cdv ct),osl⟩)
  (c:W.codeIn K cdv qual=true) (k:YE K (.ref f)=true):eV K x qual st f (W.fnOf x qual (g9 st) (en st) (ay st) .none kV doc pm an cdv ct):=⟨⟨oc,od,kV,doc,pm,an,cdv,ct,osl,rfl,l,c⟩,k⟩
end
theorem Zaz{A:Around}{k:Nat}(hr:dM k A):A.units+1<cLine:=Nat.lt_of_le_of_lt (Nat.add_le_add_left (by decide:1<=64) _) hr.units
section
variable{X:Cx}
theorem pv(i:Nat){x:Str}{pos:Pos}(hN:16e9:=by rfl)(hv:N7 X.env.scope x:=by first|show Or.inl rfl|show Or.inr 2e1|show Or.inr 16e0)(hd:4e3:=by decide)
  (rj:(x==("__classdict__":Str))=false:=by decide):PE X (.Name x pos) (Py i):=BD hN hv hd rj
end
end L2
set_option maxHeartbeats 4000000
namespace L2
open PySem PySem.Spec PyProof.Rows
section
variable{κ:Type} [DecidableEq κ]
noncomputable def hU (kvs:List (κ×V))(k:κ):Option V:=(kvs.find? λkv=>decide (kv.1=k)).map (·.2)
noncomputable def putK (kvs:List (κ×V))(k:κ)(v:V):List (κ×V):=
 if(kvs.any λkv=>decide (kv.1=k))=true then kvs.map (λkv=>if kv.1=k then(kv.1,v)else kv)else kvs++[(k,v)]
theorem Tn{p:κ×V}{r:List (κ×V)}{k:κ}(e:p.1=k):hU (p::r) k=some p.2:=by simp[hU,X4,e]
theorem Tj{p:κ×V}{r:List (κ×V)}{k:κ}(e:¬p.1=k):hU (p::r) k=hU r k:=by simp[hU,X4,e]
theorem pU(k:κ):∀kvs:List (κ×V),(kvs.any λkv=>decide (kv.1=k))=(hU kvs k).isSome
 |[]=>rfl
 |p::r=>by
  rw[Xd];by_cases e:p.1=k
  ·simp only[Tn e,decide_eq_true e,Bool.true_or,Option.isSome_some]
  ·rw[Tj e,decide_eq_false e,VZ];show pU k r
theorem ZbI(kvs:List (κ×V))(k:κ)(v:V):(putK kvs k v).length<=kvs.length+1:=by
 ext putK;split
 ·rw[Yv];lia
 ·rw[YN,YD,WB];lia
theorem lg.yM{o:Option V}{u:Option Value}(r:lg o u):o.isSome=u.isSome:=by
 cases o with
 |none=>cases u with
  |none=>rfl
  |some _=>show(show False from r).elim
 |some _=>cases u with
  |none=>show(show False from r).elim
  |some _=>rfl
theorem KV.val{kvs:List (κ×V)}{vs:List (κ×Value)}(r:KV kvs vs)(k:κ):lg (hU kvs k) (Uz vs k):=by
 ext KV r;induction r with
 |nil=>show Wh
 |@cons p q ps qs h t ih=>
  obtain⟨h1,h2⟩:=h;by_cases e:p.1=k
  ·have e':q.1=k:=h1.symm.trans e
   have b:Uz (q::qs) k=some q.2:=by simp[Uz,X4,e']
   rw[Tn e,b];show h2
  ·have e':¬q.1=k:=λz=>e (h1.trans z)
   have b:Uz (q::qs) k=Uz qs k:=by simp[Uz,X4,e']
   rw[Tj e,b];show ih
theorem KV.any{kvs:List (κ×V)}{vs:List (κ×Value)}(r:KV kvs vs)(k:κ):(kvs.any λkv=>decide (kv.1=k))=vs.any λkv=>decide (kv.1=k):=by
 ext KV r;induction r with
 |nil=>rfl
 |cons h t ih=>rw[Xd,Xd,ih,h.1]
theorem KV.Ky{kvs:List (κ×V)}{vs:List (κ×Value)}(r:KV kvs vs)(k:κ){y:V}{u:Value}(ry:RelV y u):
  KV (kvs.map λkv=>if kv.1=k then(kv.1,y)else kv) (vs.map λkv=>if kv.1=k then(kv.1,u)else kv):=by
 unfold KV at r⊢;induction r with
 |nil=>show .nil
 |@cons p q ps qs h t ih=>
  rw[Yz,Yz];show .cons ?_ ih;obtain⟨h1,h2⟩:=h;by_cases e:p.1=k
  ·rw[if_pos e,if_pos (h1.symm.trans e)];show⟨h1,ry⟩
  ·rw[if_neg e,if_neg (λz=>e (h1.trans z))];show⟨h1,h2⟩
theorem KV.put{kvs:List (κ×V)}{vs:List (κ×Value)}(r:KV kvs vs)(k:κ){y:V}{u:Value}(ry:RelV y u):KV (putK kvs k y) (stored vs k u):=by
 unfold putK stored;rw[r.any k];by_cases e:(vs.any λkv=>decide (kv.1=k))=true
 ·rw[if_pos e,if_pos e];show r.Ky k ry
 ·rw[if_neg e,if_neg e];show Paired.snoc r ⟨rfl,ry⟩
theorem KV.keys{kvs:List (κ×V)}{vs:List (κ×Value)}(r:KV kvs vs):kvs.map (·.1)=vs.map (·.1):=by
 ext KV r;induction r with
 |nil=>rfl
 |cons h t ih=>rw[Yz,Yz,ih,h.1]
theorem KV.length{kvs:List (κ×V)}{vs:List (κ×Value)}(r:KV kvs vs):kvs.length=vs.length:=W3 r
end
theorem wj{P:Ys}{w:World}{k:Key}{u:Value}(r:RelV (kV k) u):(bU P w).is k u=true:=by
 cases k with
 |inl i=>obtain⟨t,e⟩:=(show ∃t,u=Uu i t from r);subst e;show qG P w i t
 |inr x=>obtain⟨t,e⟩:=(show ∃t,u=Uv x t from r);subst e;show qF P w x t
theorem mX{P:Ys}{w:World}:∀{ks:14e6}{us:4e1},Vals (ks.map kV) us->ItemsAre (bU P w) ks us
 |[],_,r=>by rw[Vs]at r;cases r;show .nil
 |k::ks,_,r=>by
  rw[Yz]at r;cases r with
  |cons h t=>show .cons (wj h) (mX t)
abbrev KT(H:Hp):List (List Key×V)->List 13e3->Prop:=Paired λp q=>p.1=q.1/\H q.2.1=some (.tup (p.1.map kV))/\RelV p.2 q.2.2
theorem KT.val{H:Hp}{kvs:List (List Key×V)}{xs:List 13e3}(r:KT H kvs xs)(k:14e6):lg (hU kvs k) ((atKey xs k).map (·.2)):=by
 induction r with
 |nil=>show Wh
 |@cons p q ps qs h t ih=>
  obtain⟨h1,_,h2⟩:=h;by_cases e:p.1=k
  ·have e':q.1=k:=h1.symm.trans e
   have b:atKey (q::qs) k=some q.2:=by simp[atKey,X4,e']
   rw[Tn e,b];show h2
  ·have e':¬q.1=k:=λz=>e (h1.trans z)
   have b:atKey (q::qs) k=atKey qs k:=by simp[atKey,X4,e']
   rw[Tj e,b];show ih
theorem KT.Ky{H:Hp}{kvs:List (List Key×V)}{xs:List 13e3}(r:KT H kvs xs)(k:14e6){y:V}{u:Value}(ry:RelV y u):
  KT H (kvs.map λkv=>if kv.1=k then(kv.1,y)else kv) (xs.map (putAt k u)):=by
 induction r with
 |nil=>show .nil
 |@cons p q ps qs h t ih=>
  rw[Yz,Yz];show .cons ?_ ih;obtain⟨h1,h2,h3⟩:=h;ext putAt;by_cases e:p.1=k
  ·rw[if_pos e,if_pos (h1.symm.trans e)];show⟨h1,h2,ry⟩
  ·rw[if_neg e,if_neg (λz=>e (h1.trans z))];show⟨h1,h2,h3⟩
theorem KT.put{H:Hp}{kvs:List (List Key×V)}{xs:List 13e3}(r:KT H kvs xs)(k:14e6){b:Addr}{y:V}{u:Value}(hb:H b=some (.tup (k.map kV)))(ry:RelV y u):
  KT H (putK kvs k y) (Ue xs k b u):=by
 have e:(kvs.any λkv=>decide (kv.1=k))=(atKey xs k).isSome:=by
  rw[pU,(r.val k).yM,Option.isSome_map]
 unfold putK Ue;rw[e];by_cases q:(atKey xs k).isSome=true
 ·rw[if_pos q,if_pos q];show r.Ky k ry
 ·rw[if_neg q,if_neg q];show Paired.snoc r ⟨rfl,hb,ry⟩
theorem KT.keeps{H H':Hp}{kvs:List (List Key×V)}{xs:List 13e3}(r:KT H kvs xs)(ht:∀b ys,H b=some (.tup ys)->H' b=some (.tup ys)):KT H' kvs xs:=
 Paired.L1 r λ_ _ z=>⟨z.1,ht _ _ z.2.1,z.2.2⟩
section
variable{P:Ys}{w:World}{H:Hp}{h:Heap}{a:Addr}
theorem HU{u:HO}(ok:iK P w H h)(e:Rd H a u):bS P w H h a u:=e.ok ok
theorem Dj{kvs:List (Key×V)}(ok:iK P w H h)(e:Rd H a (.dK kvs)):kvs.length<=Yt/\(a==XN)=false/\∃vs,KV kvs vs/\h.DictOf (bU P w) a vs:=
 show bS P w H h a (.dK kvs)from HU ok e
theorem Dk{kvs:List (Key×V)}(ok:iK P w H h)(e:H a=some (.dK kvs)):kvs.length<=Yt/\(a==XN)=false/\∃vs,KV kvs vs/\h.DictOf (bU P w) a vs:=Dj ok (.inl e)
theorem oG{ks:14e6}(ok:iK P w H h)(e:H a=some (.tup (ks.map kV))):(VU (bU P w)).is h ks a:=by
 obtain⟨_,aM,r,o,h1,h2,n,h3⟩:=(show bS P w H h a (.tup (ks.map kV))from ok a _ e)
 show⟨o,aM.toArray,n,h1,h2,h3,by simpa using mX r⟩
theorem xf{kvs:List (List Key×V)}(ok:iK P w H h)(e:Rd H a (.dT kvs)):kvs.length<=Yt/\(a==XN)=false/\
  ∃xs,KT H kvs xs/\h.DictOfH (VU (bU P w)) a xs:=by
 obtain⟨z,y,xs,r,o,es,ep,h1,h2,h3,h4,h5⟩:=(show bS P w H h a (.dT kvs)from HU ok e)
 show⟨z,y,xs,r,o,es,ep,h1,h2,h3,h4,λx hx=>?_,h5⟩;have all:∀{l:List (List Key×V)}{m:List 13e3},KT H l m->∀x∈m,(VU (bU P w)).is h x.1 x.2.1:=by
  intro l m q;induction q with
  |nil=>intro x hx;show nomatch hx
  |@cons p q ps qs hq t ih=>
   intro x hx;rcases Yd.mp hx with e|hx
   ·subst e
    show oG ok (by rw[←hq.1];show hq.2.1)
   ·show ih x hx
 show all r x hx
theorem II{kvs:List (List Key×V)}(ok:iK P w H h)(e:H a=some (.dT kvs)):kvs.length<=Yt/\(a==XN)=false/\
  ∃xs,KT H kvs xs/\h.DictOfH (VU (bU P w)) a xs:=xf ok (.inl e)
end
def vt(H:Hp)(a:Addr)(y:V)(r:Option V):Prop:=
 (∃kvs k,Rd H a (.dK kvs)/\y=kV k/\r=hU kvs k)\/∃kvs k b,Rd H a (.dT kvs)/\y=.ref b/\H b=some (.tup (k.map kV))/\r=hU kvs k
def lI(H:Hp)(a:Addr)(y v:V)(H':Hp):Prop:=
 (∃kvs k,H a=some (.dK kvs)/\y=kV k/\kvs.length<Yt/\H'=upd H a (.dK (putK kvs k v)))\/
 ∃kvs k b,H a=some (.dT kvs)/\y=.ref b/\H b=some (.tup (k.map kV))/\kvs.length<Yt/\H'=upd H a (.dT (putK kvs k v))
theorem vt.k{H:Hp}{a:Addr}{kvs:List (Key×V)}{k:Key}(e:H a=some (.dK kvs)):vt H a (kV k) (hU kvs k):=.inl ⟨kvs,k,.inl e,rfl,rfl⟩
theorem lI.k{H:Hp}{a:Addr}{kvs:List (Key×V)}{k:Key}{v:V}(e:H a=some (.dK kvs))(hl:kvs.length<Yt):lI H a (kV k) v (upd H a (.dK (putK kvs k v))):=.inl ⟨kvs,k,e,rfl,hl,rfl⟩
theorem lI.t{H:Hp}{a b:Addr}{kvs:List (List Key×V)}{k:14e6}{v:V}(e:H a=some (.dT kvs))(eb:H b=some (.tup (k.map kV)))(hl:kvs.length<Yt):
  lI H a (.ref b) v (upd H a (.dT (putK kvs k v))):=.inr ⟨kvs,k,b,e,rfl,eb,hl,rfl⟩
section
variable{X:Cx}{pins:2e2}{σ:St}{H:Hp}{s:Shared}{a:Addr}{y v:V}{u r:Value}{o:Option V}{A:Around}{E:1e6}
theorem Inv.big(I:2e4):XN<s.heap.objs.size:=by
 have h:Xo<s.heap.objs.size:=(I.mod.glob.keeps I.bk).lt;show Uf 1e2 h
theorem zg{Q:1e6}(hu:A.units+1<cLine)(I:2e4)(g:vt H a y (some v))(ry:RelV y u)(h:∀w' s',Inv X pins σ H s'->RelV v w'->Q w' s'):
  wpAny 3e6 A (Uo (.ref a) u) Q E s:=by
 rcases g with⟨kvs,k,e,ey,l⟩|⟨kvs,k,b,e,ey,eb,l⟩
 ·subst ey
  obtain⟨z,hd,vs,rel,dd⟩:=Dj I.bV e;obtain⟨w',hw,FJ⟩:=lg.some_of (v:=v) (o:=Uz vs k) (by rw[l];show rel.val k);show wpAny_getItem_of (wj ry) dd.mapOf hw (h w' _ (I.tok _) FJ)
 ·subst ey
  cases(show u=Y9 b from ry);obtain⟨z,hd,xs,rel,dd⟩:=xf I.bV e;obtain⟨w',hw,FJ⟩:=lg.some_of (v:=v) (o:=(atKey xs k).map (·.2)) (by rw[l];show rel.val k);obtain⟨p,hp,ZV⟩:=Vh.mp hw;show wpAny_getItem_heap (tupleKind_room_in1 hu) (oG I.bV eb) dd hp ?_;rw[ZV];show h w' _ (I.tok _) FJ
theorem kh{h':Heap}{t':Nat}{ob:HO}(I:2e4)(mu:TL (H a))(hs:Wj a s.heap h')(he:∃q,h'.get? a=some q)(new:bS X.prog X.w (upd H a ob) h' a ob):
  Inv X pins σ (upd H a ob) {s with heap:=h',toks:=t'}:=
 I.write (x:=a) (e:=a) mu 18e0 (λb q hb z=>(hs.2 b hb).trans z) he new
theorem Dm{P:Ys}{w:World}{H':Hp}{h':Heap}{kvs:List (Key×V)}{vs:List (Key×Value)}(z:kvs.length<=Yt)(hd:(a==XN)=false)(rel:KV kvs vs)(dd:h'.DictOf (bU P w) a vs):
  bS P w H' h' a (.dK kvs):=⟨z,hd,vs,rel,dd⟩
theorem zf{H':Hp}{Q:Unit->Shared->Prop}(hu:A.units+1<cLine)(I:2e4)(g:lI H a y v H')(ry:RelV y u)(rv:RelV v r)(h:∀s',Inv X pins σ H' s'->Q () s'):
  wpAny 3e6 A (setItem (.ref a) u r) Q E s:=by
 rcases g with⟨kvs,k,e,ey,l,eH⟩|⟨kvs,k,b,e,ey,eb,l,eH⟩
 ·subst ey eH
  obtain⟨z,hd,vs,rel,dd⟩:=Dk I.bV e;have hz:vs.length<=sizeLine:=by rw[←rel.length];show z
  have hl:(putK kvs k v).length<=sizeLine:=by have:=ZbI kvs k v;lia
  show wpAny_setItem_pairs (hsz:=hz) (wj ry) dd λh' Hm hs=>h _ ?_;have he:∃q,h'.get? a=some q:=let⟨q,_,_,hq,_⟩:=Hm;⟨q,hq⟩
  show kh I (by rw[e];show Wh) hs he (Dm hl hd (rel.put k rv) Hm)
 ·subst ey eH
  cases(show u=Y9 b from ry);obtain⟨z,hd,xs,rel,dd⟩:=II I.bV e;have hz:xs.length<=sizeLine:=by rw[←W3 rel];show z
  have hl:(putK kvs k v).length<=sizeLine:=by have:=ZbI kvs k v;lia
  show wpAny_setItem_heap (hsz:=hz) (tupleKind_room_in1 hu) (oG I.bV eb) dd λh' Hm hs=>h _ ?_;obtain⟨q,es,ep,hq,h2,h3,h4,_,h5⟩:=Hm;show kh I (by rw[e];show Wh) hs ⟨q,hq⟩ ⟨hl,hd,_,(rel.put k eb rv).keeps λc ys ec=>?_,q,es,ep,hq,h2,h3,h4,h5⟩;rw[dH (Ic ec e (λz=>nomatch z))];show ec
end
theorem rO{X:Cx}{pins:2e2}{σ:St}{H:Hp}{s:Shared}{a:Addr}{y:V}{o:Option V}(I:2e4)(g:vt H a y o):s.TypeIs (.ref a) "dict":=by
 rcases g with⟨kvs,k,e,_,_⟩|⟨kvs,k,b,e,_,_,_⟩
 ·obtain⟨_,_,vs,_,dd⟩:=Dj I.bV e
  show dd.typeIs
 ·obtain⟨_,_,xs,_,dd⟩:=xf I.bV e
  show dd.typeIs
noncomputable def PZ (td ty tv:TE):TS:=λD σ H=>tv σ H λv H1=>td σ H1 λx H2=>ty σ H2 λy H3=>∃a H4,x=.ref a/\lI H3 a y v H4/\D.nx σ H4
section
variable{X:Cx}{o i e value:Expr}{pos pos' pX:Pos}{td ty tv:TE}
theorem vN(hu:X.A.units+1<cLine)(ho:PE X o td)(hi:PE X i ty)(hv:PE X value tv)(hs:Wy value (some (.Subscript o i pos')) pos.line X.env=pure false):
  PS X (.Assign [.Subscript o i pos'] value pos) (PZ td ty tv):=by
 intro pins s σ H D I h;show wpAny_Assign_Subscript (cF (hv pins s σ H _ I h) λr s1 ⟨v,H1,I1,rv,q1⟩=>cF (ho pins s1 σ H1 _ I1 q1) λu s2 ⟨x,H2,I2,rx,q2⟩=>cF (hi pins s2 σ H2 _ I2 q2) λiv s3 ⟨y,H3,I3,ry,a,H4,ex,g,q3⟩=>?_) hs;subst ex;obtain rfl:u=Y9 a:=rx;show zf hu I3 g ry rv λs4 I4=>⟨σ,H4,I4,q3⟩
end
theorem Dn{P:Ys}{w:World}{H:Hp}(h:Heap)(hb:XN<h.objs.size):bS P w H (h.push {cls:=.type "dict",data:=.dict #[]}) h.objs.size (.dK []):=
 ⟨Xq _,beq_eq_false_iff_ne.mpr (Xp (Yp hb)),[],.nil,Heap.DictOf.new h⟩
theorem rN{P:Ys}{w:World}{H:Hp}(h:Heap)(hb:XN<h.objs.size):bS P w H (h.push {cls:=.type "dict",data:=.dict #[]}) h.objs.size (.dT []):=
 ⟨Xq _,beq_eq_false_iff_ne.mpr (Xp (Yp hb)),[],.nil,_,#[],0,Yw _ rfl,⟨rfl,rfl,rfl⟩,rfl,rfl,List.nodup_nil⟩
def JS:TE:=λ_ H Q=>∀p,H p=none->Q (.ref p) (upd H p (.dK []))
def JR:TE:=λ_ H Q=>∀p,H p=none->Q (.ref p) (upd H p (.dT []))
section
variable{X:Cx}{pos:Pos}
theorem qx:PE X (.Dict [] [] pos) JS:=λpins s σ H Q I h=>
 wpAny_Dict_empty ⟨.ref s.heap.objs.size,_,I.laid (a:=s.heap.objs.size) (o:=.dK []) (t':=s.toks) (λ_ _ q=>Yb _ q) (Yl _) (Dn s.heap I.big),rfl,h _ (I.bV.fresh (Yl _))⟩
theorem BH:PE X (.Dict [] [] pos) JR:=λpins s σ H Q I h=>
 wpAny_Dict_empty ⟨.ref s.heap.objs.size,_,I.laid (a:=s.heap.objs.size) (o:=.dT []) (t':=s.toks) (λ_ _ q=>Yb _ q) (Yl _) (rN s.heap I.big),rfl,h _ (I.bV.fresh (Yl _))⟩
end
structure M1(X:Cx)(o:Expr)(m:Str)(apos:Pos)(e:Expr)(dg:Pos):Prop where
 base:attributeBase o m X.env (eval o X.env)=eval o X.env
 few:((backTo dg (Yo [e] X.env)).all (λx=>!x.1)&&(backToKw dg (keywordEach [] X.env)).all (λx=>x.1.isSome)
  &&decide (([e]:List Expr).length+([]:List Keyword).length+(if([]:List Keyword).isEmpty then 0 else 1)<30))=true
 line:(apos.endLine==dg.line)=true
 trees:backTo dg (Yo [e] X.env)=[(false,eval e X.env)]
noncomputable def cv (cells:14e2):List (Str×W7)->List (Str×Addr)->List (Str×Addr)
  |[],cs=>cs
  |(n,k)::r,cs=>cv cells r (if k=.free then(n,(cells.lookup n).getD 0)::cs else cs)
theorem Zdv{cells:14e2}:∀{names:List (Str×W7)}{cs:14e2},(∀y∈names,y.2=.free->∃c,cells.lookup y.1=some c)->(∀x c,cs.lookup x=some c->cells.lookup x=some c)->
    ∀x c,(cv cells names cs).lookup x=some c->cells.lookup x=some c
  |[],_,_,h,x,c,e=>h x c e
  | (n,k)::r,cs,hn,h,x,c,e=>by
    ext cv e;show Zdv (λy hy=>hn y (YG _ hy)) (λy d q=>?_) x c e;by_cases hk:k=.free
    · rw[if_pos hk]at q
      obtain⟨c',EU⟩:=hn (n,k) YR hk;rw[YH]at q;by_cases hy:y==n
      · rw[hy]at q
        have:y=n:=by simpa using hy
        subst this;rw[show cells.lookup y=some c' from EU]at q⊢;simpa using q
      · have hy':(y==n)=false:=by simpa using hy
        rw[hy']at q;show h y d q
    · rw[if_neg hk]at q
      show h y d q
theorem ZcP{cells:14e2}{x:Str}:∀{names:List (Str×W7)}{cs:14e2},(∃c,cs.lookup x=some c)->∃c,(cv cells names cs).lookup x=some c
  |[],_,h=>h
  | (n,k)::r,cs,h=>by
    ext cv;show ZcP ?_;by_cases hk:k=.free
    · rw[if_pos hk,YH]
      by_cases hy:x==n
      · rw[hy];show 6e5
      · have hy':(x==n)=false:=by simpa using hy
        rw[hy'];show h
    · rw[if_neg hk];show h
theorem ZcJ{cells:14e2}{x:Str}:∀{names:List (Str×W7)}{cs:14e2},(x,Xm)∈names->∃c,(cv cells names cs).lookup x=some c
  |[],_,h=>nomatch h
  | (n,k)::r,cs,h=>by
    ext cv;rcases Yd.mp h with e|h
    · cases e
      show ZcP ?_;rw[if_pos rfl,YH];simp
    · show ZcJ h
theorem ZcI{env:Env}{scope:Scope}(h:∀y∈scope.names,y.2=.free->∃c,env.cells.lookup y.1=some c):closureFor scope env=pure (cv env.cells scope.names []):=by
 simp only[closureFor];have key:∀(names:List (Str×W7))(cs:14e2),(∀y∈names,y.2=.free->∃c,env.cells.lookup y.1=some c)->
   (forIn names cs λx r=>if(x.2==Xm)=true then do let a ←cellOf env x.1;pure (WC ((x.1,a)::r))else pure (WC r):Sem (List (Str×Addr)))=pure (cv env.cells names cs):=by
  intro names;induction names with
  |nil=>intro cs _;rfl
  |cons y r ih=>
   intro cs hn;obtain⟨n,k⟩:=y;rw[W9];by_cases hk:k=.free
   ·obtain⟨c,hc⟩:=hn (n,k) YR hk
    have EU:env.cells.lookup n=some c:=hc;subst hk;have e1:cellOf env n=pure c:=by ext cellOf;rw[EU]
    change(_>>=_)=_;simp only[beq_self_eq_true,if_true,e1];ext cv;rw[if_pos rfl,EU];show ih _ λy hy=>hn y (YG _ hy)
   ·have e2:(k==Xm)=false:=by simpa using hk
    change(_>>=_)=_;simp only[e2,Xi,if_false];ext cv;rw[if_neg hk];show ih _ λy hy=>hn y (YG _ hy)
 rw[key scope.names [] h];rfl
section
variable{prog:Ys}{w:World}{A:Around}{R:18e9}{s:Shared}
abbrev Out(prog:Ys)(w:World)(A:Around)(env:Env)(R:18e9):Value->Shared->Prop:=notedBy 5e0 A env λe s'=>R (.error e) s'
noncomputable abbrev jX (env:Env)(ifs:6e1):Sem Bool:=forIn ifs true λc r=>if r=true then do let ok ←isTrue c env (eval c env);pure (WC ok)else pure (WC r)
end
def iJ(X:Cx)(N':6e2)(scope:Scope)(C:Addr)(s₀:Shared)(H₀:Hp)(ex:3e8)(pn:2e2):Cx:=
 {X with N:=N',s₀:=s₀,H₀:=H₀,env:=compEnvC scope (cv X.env.cells scope.names []) C X.env,outer:=X.stack,ex:=ex,fn:=λ_=>false,pn:=pn,xe:=λ_ _=>False}
structure Po(X:Cx)(scope:Scope)(vs fs:List Str)(fr:List Nat):Prop where
 kind:scope.kind=.function
 cell:(scope.names.all λy=>y.2 != .cell)=true
 free:(scope.names.all λy=>y.2 != .free||(X.env.kindOf y.1==some .cell||X.env.kindOf y.1==some .free))=true
 loc:(scope.names.all λy=>y.2 != .local||scope.names.lookup y.1==some .local)=true
 fre:(scope.names.all λy=>y.2 != .free||scope.names.lookup y.1==some .free)=true
 fsf:(fs.all λx=>scope.names.lookup x==some .free)=true
 at':fr.map (λi=>X.N[i]?)=fs.map some
def zM(X:Cx)(ifs:6e1)(t:TT):Prop:=
 ∀(pins:2e2)(s:Shared)(σ:St)(H:Hp)(Q:Bool->Hp->Prop),Inv X pins σ H s->t σ H Q->
  wpAny 3e6 X.A (forIn ifs true λc r=>if r=true then do let ok ←isTrue c X.env (eval c X.env);pure (WC ok)else pure (WC r)) (TP X pins σ Q) X.xe s
noncomputable def Vaa:TT:=λ_ H Q=>Q true H
theorem FX{X:Cx}:zM X [] Vaa:=λ_ _ _ H _ I h=>wpAny_tests_nil ⟨H,I,h⟩
theorem FW{X:Cx}{c:Expr}{t:TT}(h:PT X c t):zM X [c] t:=λpins s σ H Q I q=>wpAny_tests_one (h pins s σ H Q I q)
noncomputable def jO (vs:6e2)(fr:12e9)(σ:St):St:=vs.map (λ_=>none)++fr.map λi=>(σ[i]?).join
section
variable{X:Cx}{tg elt iter:Expr}{ifs:6e1}{scope:Scope}{pos:Pos}{vs fs:6e2}{fr:12e9}
theorem j5{α:Type}{p:α->Bool}{l:List α}(h:l.all p=true){x:α}(hx:x∈l):p x=true:=YB.mp h x hx
theorem Po.DF(S:12e3):∀y∈scope.names,y.2≠.cell:=λy hy e=>by have:=j5 S.cell hy;rw[e]at this;simp at this
theorem Po.ID(S:12e3):∀y∈scope.names,y.2=.free->X.env.kindOf y.1=some .cell\/X.env.kindOf y.1=some .free:=λy hy e=>by
 have:=j5 S.free hy;rw[e]at this;simpa using this
theorem Po.L'(S:12e3):∀y∈scope.names,y.2=.local->scope.names.lookup y.1=some .local:=λy hy e=>by
 have:=j5 S.loc hy;rw[e]at this;simpa using this
theorem Pb{α β:Type} [BEq α] [LawfulBEq α]:∀{l:List (α×β)}{x:α}{k:β},l.lookup x=some k->(x,k)∈l
  |[],_,_,h=>by simp at h
  | (n,k')::r,x,k,h=>by
    rw[YH]at h;cases e:x==n with
    |true=>rw[e]at h;cases h;rw[eq_of_beq e];show YR
    |false=>rw[e]at h;show YG _ (Pb h)
theorem ZbN{env:Env}{x:Str}:∀{names:List (Str×W7)}{k:W7},
    (names.map λ(n,k)=>if 17e0 then(n,Wq)else(n,k)).lookup x=some k->
    names.lookup x=some k\/(k=.cell/\names.lookup x=some .free)
  |[],_,h=>by simp at h
  | (n,k')::r,k,h=>by
    have ih:=@ZbN env x r k;have h':List.lookup x ((if 8e7=true then(n,Wq)else(n,k'))::(r.map λ(n,k)=>if 17e0 then(n,Wq)else(n,k)))=some k:=h;cases hx:x==n with
    |true=>
      by_cases hc:8e7=true
      · rw[if_pos hc]at h'
        simp only[YH,hx]at h'⊢;cases h';have:k'=.free:=by simp at hc;show hc.1.1
        show .inr ⟨rfl,by rw[this]⟩
      · rw[if_neg hc]at h'
        simp only[YH,hx]at h'⊢;show .inl h'
    |false=>
      by_cases hc:8e7=true
      · rw[if_pos hc]at h'
        simp only[YH,hx]at h'⊢;show ih h'
      · rw[if_neg hc]at h'
        simp only[YH,hx]at h'⊢;show ih h'
theorem ZcO{env:Env}{x:Str}:∀{names:List (Str×W7)},names.lookup x=some .free->
    let l:=(names.map λ(n,k)=>if 17e0 then(n,Wq)else(n,k)).lookup x
    l=some .cell\/l=some .free
  |[],h=>by simp at h
  | (n,k')::r,h=>by
    have ih:=@ZcO env x r;change List.lookup x ((if 8e7=true then(n,Wq)else(n,k'))::(r.map λ(n,k)=>if 17e0 then(n,Wq)else(n,k)))=some .cell\/
      List.lookup x ((if 8e7=true then(n,Wq)else(n,k'))::(r.map λ(n,k)=>if 17e0 then(n,Wq)else(n,k)))=some .free
    cases hx:x==n with
    |true=>
      simp only[YH,hx]at h;have h:k'=.free:=YF h;by_cases hc:8e7=true
      · rw[if_pos hc,YH,hx];show .inl rfl
      · rw[if_neg hc,YH,hx,h];show .inr rfl
    |false=>
      simp only[YH,hx]at h;by_cases hc:8e7=true
      · rw[if_pos hc];simp only[YH,hx];show ih h
      · rw[if_neg hc];simp only[YH,hx];show ih h
end
section
variable{X:Cx}{tg elt iter:Expr}{ifs:6e1}{scope:Scope}{pos:Pos}{vs fs:6e2}{fr:12e9}
theorem Po.Ho(S:12e3)(ok:X.Ok):∀y∈scope.names,y.2=.free->∃c,X.env.cells.lookup y.1=some c:=λy hy e=>ok.has y.1 (S.ID y hy e)
theorem Po.cl(S:12e3)(ok:X.Ok){x:Str}{c:Addr}(e:(cv X.env.cells scope.names []).lookup x=some c):X.env.cells.lookup x=some c:=
 Zdv (S.Ho ok) (λ_ _ q=>by simp at q) x c e
theorem zx{h:Heap}{b:Addr}{o:Obj}{n:Nat}(e:h.get? b=some o)(hn:h.objs.size<=n):b≠n:=Yp (Yu (Yq e) hn)
theorem ZdO{pins:2e2}{σ:St}{H:Hp}{s:Shared}{fp:3e8}{C:Addr}{h1:Heap}{tk:Nat}{m1:2e5}(S:12e3)(I:2e4)
  (hf:∀b∈fp,fe X pins H b) (Iw:∀b∈fp,∃o,s.heap.get? b=some o) (hC:s.heap.objs.size<=C) (hn:h1.Ns C m1) (old:∀b o,s.heap.get? b=some o->h1.get? b=some o):
  Inv (iJ X (vs++fs) scope C s H fp (X.pn++pins)) [] (jO vs fr σ) H {s with heap:=h1,toks:=tk}:=by
 have cl:=λx c e=>S.cl I.ok (x:=x) (c:=c) e;have oO:=I.jg;have DE:∀x c,X.env.cells.lookup x=some c->c<s.heap.objs.size:=λx c e=>by obtain⟨v,q⟩:=I.cell x c e;show q.lt
 show⟨⟨I.ok.mod,S.kind,I.ok.glob,I.ok.blt,hC,λx y c e1 e2=>I.ok.inj x y c (cl x c e1) (cl y c e2),λx hx=>?_,λ_ _ z _=>(nomatch z),I.ok.hd,I.ok.frames,.inl rfl,λb hb=>?_,I.bs,YI I.ok.Hs I.sz,λb o e hb=>?_,λb hb z=>?_,I.stack,I.vF⟩,
  rfl,I.bare,Un.kept old,⟨m1,hn,λi x v e1 e2 e3=>?_⟩,λx c e=>?_,I.bV.fresh hC,λx c e=>I.gm x c (cl x c e),λp hp=>?_,I.bV.kept old,?_⟩
 ·-- has
  have Mx:(relabel scope X.env).names.lookup x=some .cell\/(relabel scope X.env).names.lookup x=some .free:=hx;have:scope.names.lookup x=some .free:=by
   rcases Mx with q|q
   ·rcases ZbN q with q|⟨_,q⟩
    ·show absurd rfl (S.DF _ (Pb q))
    ·show q
   ·rcases ZbN q with q|⟨q,_⟩
    ·show q
    ·cases q
  show ZcJ (Pb this)
 ·-- exf
  obtain⟨o,ho⟩:=Iw b hb;obtain⟨f0,f1,f2,f3,f4,f5⟩:=hf b hb;show⟨zx ho hC,λx c e=>f4 x c (cl x c e)⟩
 ·-- qD
  have e':=(I.ok.bs b o e).1;obtain⟨_,_,_,f3,_,_⟩:=hf b hb;rcases f3 with z|z
  ·show I.ok.qD b o e z
  ·show absurd (Yu (Yq e') z) (XZ _)
 ·-- CU
  obtain⟨_,f1,f2,_⟩:=hf b hb;rcases Yd.mp (oO b z)with q|q
  ·show f1 q
  ·show f2 q
 ·-- loc
  have e1:(vs++fs)[i]? = some x:=e1;ext jO e2;by_cases hi:i<vs.length
  ·rw[Yh (by simpa using hi)]at e2
   simp[hi]at e2
  ·rw[Y5 (by simpa using hi),Yv,YL]at e2
   rw[Y5 (by simpa using hi)]at e1;obtain⟨j,hj⟩:∃j,fr[i-vs.length]? = some j:=by
    cases q:fr[i-vs.length]? with
    |none=>rw[q]at e2;cases e2
    |some j=>show⟨j,rfl⟩
   rw[hj]at e2;have EX:(σ[j]?).join=some v:=YF e2;have hσ:σ[j]? = some (some v):=by
    cases q:σ[j]? with
    |none=>rw[q]at EX;cases EX
    |some r=>rw[q]at EX;show congrArg some EX
   have hN:X.N[j]? = some x:=by
    have:=congrArg (λl=>l[i-vs.length]?) S.at';simp only[YL,hj,e1,VE]at this;show YF this
   have hxf:scope.names.lookup x=some .free:=by
    have:=j5 S.fsf (YS e1);simpa using this
   have hk:=S.ID _ (Pb hxf) rfl;obtain⟨m,hm,hl⟩:=I.loc;have VaH:N7 X.env.scope x:=by
    rcases hk with k|k
    ·show .inr (.inl k)
    ·show .inr (.inr k)
   obtain⟨u,ru,lk⟩:=hl j x v hN hσ VaH;show⟨u,ru,?_⟩;rcases lk with⟨k,_⟩|⟨_,c,hc,hv⟩
   ·have k':X.env.kindOf x=some .local:=k
    rcases hk with z|z
    ·have z':X.env.kindOf x=some .cell:=z
     rw[k']at z';cases z'
    ·have z':X.env.kindOf x=some .free:=z
     rw[k']at z';cases z'
   ·obtain⟨c',EU⟩:=ZcJ (cells:=X.env.cells) (cs:=[]) (Pb hxf)
    have:=cl x c' EU;rw[hc]at this;cases this;show .inr ⟨ZcO hxf,c,EU,?_⟩;obtain⟨o,ho,hd⟩:=hv;show⟨o,old c o ho,hd⟩
 ·-- cell
  obtain⟨v,o,ho,hd⟩:=I.cell x c (cl x c e);show⟨v,o,old c o ho,hd⟩
 ·-- pin
  have ZW:p∈X.pn++pins:=by simpa[iJ]using hp
  obtain⟨e,n,ne,nf,d⟩:=I.pin p ZW;show⟨old _ _ e,n,zx e hC,λz=>?_,d⟩;rcases Yd.mp (oO _ z)with q|q
  ·show ne q
  ·show nf q
 ·change(jO vs fr σ).length=(vs++fs).length
  have:=congrArg List.length S.at';simp only[Yv]at this;ext jO;simp[this]
theorem comp_back{pins:2e2}{σ σ':St}{H H':Hp}{s s':Shared}{fp:3e8}{C D:Addr}{ys:List V}{aM:4e1}{n:Nat}{pl:2e2}(I:2e4)
  (hf:∀b∈fp,fe X pins H b) (J:Inv (iJ X (vs++fs) scope C s H fp (X.pn++pins)) pl σ' H' s')
  (hD:s.heap.objs.size<=D) (MR:H' D=none) (hl:ys.length<=Yt) (r:Vals ys aM) (ho:s'.heap.get? D=some {cls:=.type "list",data:=.seq aM.toArray n}):Inv X pins σ (upd H' D (.lst ys)) s':=by
 have ne:∀b o,s.heap.get? b=some o->b≠D:=λb o e=>zx e hD;have u:Un (ux X.stack) fp H H' s.heap s'.heap:=J.base;show I.IJ (ch:=fp) J.os ⟨u.keep,u.slot,λb o e q hx=>?_,u.there,λb xs e=>?_,λb o xs e=>?_,λb ps e=>?_⟩ (λb o e=>?_) J.bare λb hb=>?_
 ·rw[dH (ne b o e)];show u.free b o e q hx
 ·rw[dH (i4 (u.jN b xs e) MR)];show u.jN b xs e
 ·rw[dH (i4 (u.jn b o xs e) MR)];show u.jn b o xs e
 ·obtain⟨more,q⟩:=u.lK b ps e
  show⟨more,by rw[dH (i4 q MR)];show q⟩
 ·by_cases hb:b=D
  ·subst hb
   rw[pD]at e;cases e;show⟨hl,aM,n,r,ho⟩
  ·rw[dH hb]at e
   show(J.bV b o e).d9 (λ_ _ _ q=>q) (λc q=>by rw[dH (i4 q MR)];show q) λc xs q=>by rw[dH (i4 q MR)];show q
 ·obtain⟨f0,f1,f2,f3,f4,f5⟩:=hf b hb
  show⟨f3,f1,f4,f5⟩
end
section
variable{X:Cx}{tg elt iter:Expr}{ifs:6e1}{scope:Scope}{pos:Pos}{vs fs:6e2}{fr:12e9}{g:TG}{tt:TT}{te:TE}
theorem nE{α:Type}{M:Model}{A:Around}{t:Sem α}{Q Q':α->Shared->Prop}{E:1e6}{s:Shared}(h:wpAny M A t Q (λ_ _=>False) s)(hQ:∀a s,Q a s->Q' a s):wpAny M A t Q' E s:=
 Y4 h hQ λ_ _ f=>Wu f
end
section
variable{prog:Ys}{w:World}{A:Around}{R:18e9}{s:Shared}
theorem lZ{kx vx target iter:Expr}{ifs:6e1}{scope:Scope}{pos:Pos}{it:Value}{D:Addr}{env:Env}(I:Nat->Shared->Prop)
  (turn:∀k z,I k z->wpAny 5e0 A (pyNext it) (λr z1=>match r with
   |none=>R (.ok .next) z1
   |some v=>wpAny 5e0 A (X3 target it v) (λ_ z2=>wpAny 5e0 A (assign target env v) (λ_ z3=>wpAny 5e0 A (jX env ifs) (λyes z4=>
     if yes=true then wpAny 5e0 A (eval kx env) (λx z5=>wpAny 5e0 A (eval vx env) (λy z6=>wpAny 5e0 A (dictSet D x y) (λ_ z7=>∃m,m<k/\I m z7) (Out prog w A env R) z6) (Out prog w A env R) z5) (Out prog w A env R) z4
     else ∃m,m<k/\I m z4) (Out prog w A env R) z3) (Out prog w A env R) z2) (Out prog w A env R) z1) (Out prog w A env R) z)
  (n:Nat) (h:I n s):Wo 5e0 A (.compLoop (.DictComp kx vx [⟨target,iter,ifs,0⟩] scope pos) 0 it (.ref D) env) R s:=by
 show codeAny_loop rfl I ?_ n h;intro k z hz;show wpAny_noted ?_;rw[compTurn_dict];apply Ya;apply WI;apply Ya;show Y4 (turn k z hz) ?_ λ_ _ e=>e;rintro(_|v) z1 y1
 ·show Ye y1
 apply Ya;show Y4 y1 (λ_ z2 y2=>?_) λ_ _ e=>e;apply Ya;show Y4 y2 (λ_ z3 y3=>?_) λ_ _ e=>e;apply Ya;show Y4 y3 (λyes z4 y4=>?_) λ_ _ e=>e;by_cases b:yes=true
 ·subst b
  apply Ya;apply Ya;show Y4 y4 (λx z5 y5=>?_) λ_ _ e=>e;apply Ya;apply Xs;show Y4 y5 (λy z6 y6=>?_) λ_ _ e=>e;apply Ya;apply WI;apply Xs;show Y4 y6 (λ_ z7 y7=>Ye ⟨rfl,y7⟩) λ_ _ e=>e
 ·have nb:yes=false:=by simpa using b
  subst nb;show Ye ⟨rfl,y4⟩
end
section
variable{X:Cx}{pins:2e2}{σ:St}{H:Hp}{s:Shared}{a:Addr}{y v:V}{u r:Value}{A:Around}{E:1e6}
theorem zh{H':Hp}{Q:Unit->Shared->Prop}(hu:A.units+1<cLine)(I:2e4)(g:lI H a y v H')(ry:RelV y u)(rv:RelV v r)(h:∀s',Inv X pins σ H' s'->Q () s'):
  wpAny 3e6 A (dictSet a u r) Q E s:=by
 rcases g with⟨kvs,k,e,ey,l,eH⟩|⟨kvs,k,b,e,ey,eb,l,eH⟩
 ·subst ey eH
  obtain⟨z,hd,vs,rel,dd⟩:=Dk I.bV e;have hz:vs.length<=sizeLine:=by rw[←rel.length];show z
  have hl:(putK kvs k v).length<=sizeLine:=by have:=ZbI kvs k v;lia
  show wpAny_dictSet_pairs (hsz:=hz) (wj ry) dd λh' Hm hs=>h _ ?_;have he:∃q,h'.get? a=some q:=let⟨q,_,_,hq,_⟩:=Hm;⟨q,hq⟩
  show kh I (by rw[e];show Wh) hs he (Dm hl hd (rel.put k rv) Hm)
 ·subst ey eH
  cases(show u=Y9 b from ry);obtain⟨z,hd,xs,rel,dd⟩:=II I.bV e;have hz:xs.length<=sizeLine:=by rw[←W3 rel];show z
  have hl:(putK kvs k v).length<=sizeLine:=by have:=ZbI kvs k v;lia
  show wpAny_dictSet_heap (hsz:=hz) (show(VU (bU X.prog X.w)).room A from by change A.units<cLine;lia) (oG I.bV eb) dd λh' Hm hs=>h _ ?_;obtain⟨q,es,ep,hq,h2,h3,h4,_,h5⟩:=Hm;show kh I (by rw[e];show Wh) hs ⟨q,hq⟩ ⟨hl,hd,_,(rel.put k eb rv).keeps λc ys ec=>?_,q,es,ep,hq,h2,h3,h4,h5⟩;rw[dH (Ic ec e (λz=>nomatch z))];show ec
end
def EB(J:It)(vs:6e2)(fr:12e9)(g:TG)(tt:TT)(tk te:TE)(σ:St)(H1:Hp)(Q:VK):Prop:=
 ∀D,H1 D=none->∃W:Nat->Nat->St->Hp->Prop,(∃m,W 0 m (jO vs fr σ) (upd H1 D (.dT [])))/\∀i m σ' H,W i m σ' H->
  (J.stop i H/\Q (.ref D) H)\/
  (J.go i H/\∃N:St->Hp->Prop,(∀σ2 H2,N σ2 H2->∃m',m'<m/\W (i+1) m' σ2 H2)/\∀x H',J.zS i H x H'->g x σ' H' λσ2 H2=>tt σ2 H2 λb H3=>
   if b=true then tk σ2 H3 λy H4=>te σ2 H4 λv H5=>∃H6,lI H5 D y v H6/\N σ2 H6 else N σ2 H3)
noncomputable def Af (wi:TI)(vs:6e2)(fr:12e9)(g:TG)(tt:TT)(tk te:TE):TE:=λσ H Q=>wi σ H λJ H1=>EB J vs fr g tt tk te σ H1 Q
section
variable{X:Cx}{tg kx vx iter:Expr}{ifs:6e1}{scope:Scope}{pos:Pos}{vs fs:6e2}{fr:12e9}{g:TG}{tt:TT}{tk te:TE}
theorem u0{pins:2e2}{σ σ':St}{H H':Hp}{s s':Shared}{fp:3e8}{C:Addr}{pl:2e2}(I:2e4)
  (hf:∀b∈fp,fe X pins H b) (J:Inv (iJ X (vs++fs) scope C s H fp (X.pn++pins)) pl σ' H' s'):Inv X pins σ H' s':=by
 have u:Un (ux X.stack) fp H H' s.heap s'.heap:=J.base;show I.IJ (ch:=fp) J.os u J.bV J.bare λb hb=>?_;obtain⟨f0,f1,f2,f3,f4,f5⟩:=hf b hb;show⟨f3,f1,f4,f5⟩
theorem rV{pins:2e2}{σ:St}{H:Hp}{s:Shared}{Q:VK}{it:Addr}{fp:3e8}{tn:Nat->Heap->Prop}{J:It}{RR:Value->Addr->Result->Shared->Prop}
  (S:12e3) (hc:11e1) (hu:X.A.units+1<cLine)
  (bG:∀C s₀ H₀ ex pn,PG 2e0 tg g) (bT:∀C s₀ H₀ ex pn,zM 2e0 ifs tt) (bK:∀C s₀ H₀ ex pn,PE 2e0 kx tk) (bE:∀C s₀ H₀ ex pn,PE 2e0 vx te)
  (I:2e4) (T:Turn X.prog X.w X.K tg J fp it tn) (st:tn 0 s.heap) (hf:∀b∈fp,fe X pins H b)
  (q:EB J vs fr g tt tk te σ H Q)
  (hRR:∀D C H' s' m',Inv X pins σ H' s'->Q (.ref D) H'->s'.heap.Ns C m'->H' C=none->s.heap.objs.size<=C->RR (.ref D) C (.ok .next) s'):
  wpAny 3e6 X.A newDict (λacc s₃=>wpAny 3e6 X.A (newFunctionEnv scope X.env.globals (cv X.env.cells scope.names []) [] X.env.qual none .none (some X.env)) (λDC s₄=>
   Wo (model X.prog X.w) X.A (.compStart (.DictComp kx vx [⟨tg,iter,ifs,0⟩] scope pos) 0 (.ref it) acc {DC with scope:=relabel scope X.env}) (RR acc DC.locals) s₄) X.xe s₃) X.xe s:=by
 have MR:H s.heap.objs.size=none:=I.bV.fresh (Yl _);obtain⟨W,⟨m0,w0⟩,turn⟩:=q s.heap.objs.size MR;have I':=I.laid (a:=s.heap.objs.size) (o:=.dT []) (t':=s.toks) (λ_ _ q=>Yb _ q) (Yl _) (rN s.heap I.big);have RH:∀b∈fp,∃o,s.heap.get? b=some o:=λb hb=>by obtain⟨o,e,_⟩:=T.obj 0 _ st b hb;show⟨o,e⟩
 have G9:∀b∈fp,b≠s.heap.objs.size:=λb hb=>by obtain⟨o,e⟩:=RH b hb;show zx e (Yl _)
 have hf':∀b∈fp,fe X pins (upd H s.heap.objs.size (.dT [])) b:=λb hb=>by
  obtain⟨f0,f1,f2,f3,f4,f5⟩:=hf b hb;show⟨by rw[dH (G9 b hb)];show f0,f1,f2,f3,f4,f5⟩
 show Xz (wpAny_newFunctionEnv S.DF (by intro y hy;simp at hy) (λh₁ hns₁ hsb₁=>?_) S.kind);dsimp only at hns₁ hsb₁⊢;generalize OY:s.heap.push {cls:=.type "dict",data:=.dict #[]}=H2 at hns₁ hsb₁ I'⊢;have hCs:H2.objs.size=s.heap.objs.size+1:=by rw[←OY,Wv]
 have old:∀b o,H2.get? b=some o->h₁.get? b=some o:=λb o e=>hsb₁.extBut b o (zx e (Yl _)) (Yb _ e);have K':∀b o,s.heap.get? b=some o->H2.get? b=some o:=λb o e=>by rw[←OY];show Yb _ e
 have Iw:∀b∈fp,∃o,H2.get? b=some o:=λb hb=>by obtain⟨o,e⟩:=RH b hb;show⟨o,K' b o e⟩
 generalize mY:({s with heap:=H2,toks:=s.toks}:Shared)=s2 at I';have es2:s2.heap=H2:=by rw[←mY]
 generalize hY:iJ X (vs++fs) scope H2.objs.size s2 (upd H s.heap.objs.size (.dT [])) fp (X.pn++pins)=Y;have J0:Inv Y [] (jO vs fr σ) (upd H s.heap.objs.size (.dT [])) {s with heap:=h₁,toks:=s.toks+([]:List (Str×Value)).length}:=by
  rw[←hY];have:=ZdO (tk:=s.toks+([]:List (Str×Value)).length) S I' hf' (by rw[es2];show Iw) (by rw[es2];show Yl _) hns₁ (by rw[es2];show old);rw[←mY]at this⊢;show this
 have hG:PG Y tg g:=by rw[←hY];show bG _ _ _ _ _
 have hT:zM Y ifs tt:=by rw[←hY];show bT _ _ _ _ _
 have hK:PE Y kx tk:=by rw[←hY];show bK _ _ _ _ _
 have hE:PE Y vx te:=by rw[←hY];show bE _ _ _ _ _
 have IG:Y.prog=X.prog:=by rw[←hY];rfl
 have eW:Y.w=X.w:=by rw[←hY];rfl
 have eK:Y.K=X.K:=by rw[←hY];rfl
 have eA:Y.A=X.A:=by rw[←hY];rfl
 have eC:Y.calm=true:=by rw[←hY];show hc
 have uY:Y.env=compEnvC scope (cv X.env.cells scope.names []) H2.objs.size X.env:=by rw[←hY];rfl
 have eL:Y.env.locals=H2.objs.size:=by rw[uY];rfl
 have eX:Y.xe=λ_ _=>False:=by rw[←hY];rfl
 have eEx:Y.ex=fp:=by rw[←hY];rfl
 have eFs:Y.fs=ux X.stack:=by rw[←hY];rfl
 have ePn:Y.pn=X.pn++pins:=by rw[←hY];rfl
 have eCl:∀x c,Y.env.cells.lookup x=some c->X.env.cells.lookup x=some c:=λx c e=>by
  rw[uY]at e;show S.cl I.ok e
 have gM:∀{H':Hp},13e4->∀b∈fp,fe Y [] H' b:=λ{H'} hn b hb=>by
  obtain⟨f0,f1,f2,f3,f4,f5⟩:=hf b hb;obtain⟨ob,e⟩:=Iw b hb;show⟨hn b hb,by rw[eL];show zx e (Yl _),λz=>?_,.inl (by rw[eEx];show hb),λx c e=>f4 x c (eCl x c e),λp hp=>?_⟩
  ·rw[eFs]at z
   rcases Yd.mp (I.jg _ z)with z|z
   ·show f1 z
   ·show f2 z
  ·rw[YJ,ePn]at hp;show f5 p hp
 have loop:∀s₃:Shared,s₃={s with heap:=h₁,toks:=s.toks+([]:List (Str×Value)).length}->
   Wo 3e6 X.A (.compLoop (.DictComp kx vx [13e1] scope pos) 0 (.ref it) 11e4 (compEnvC scope (cv X.env.cells scope.names []) H2.objs.size X.env))
    (RR 11e4 H2.objs.size) s₃:=by
  rintro s₃ rfl;rw[←uY,←IG,←eW,←eA];show lZ (λn s'=>∃i σ' H',Inv Y [] σ' H' s'/\tn i s'.heap/\13e4/\W i n σ' H') ?_ m0
   ⟨0,_,_,J0,T.keep _ _ _ st λb _ o e=>old b o (K' b o e),λb hb=>(hf' b hb).1,w0⟩
  rintro n s3 ⟨i,σ3,H3,J3,jh,m7,w3⟩;rcases turn i n σ3 H3 w3 with⟨stop,qn⟩|⟨go,N,hN,step⟩
  ·have dn:=T.done Y IG eW eK eC i _ s3 σ3 H3 (λ_ _=>False) J3 (gM m7) jh stop
   rw[←IG,←eW]at dn;show nE dn λr s4 h_=>?_;obtain⟨hr,J4⟩:=h_;subst hr;obtain⟨m4,Ry,_⟩:=id J4.loc;rw[eL]at Ry;have nC:H3 H2.objs.size=none:=by rw[←eL];show J4.free
   show hRR _ _ _ s4 m4 (u0 I' hf' (by rw[hY];show J4)) qn Ry nC (by rw[hCs];show Nat.le_succ _)
  ·have im:=T.item Y IG eW eK eC i _ s3 σ3 H3 (λ_ _=>False) J3 (gM m7) jh go
   rw[←IG,←eW]at im;show nE im λr s4 h_=>?_;obtain⟨u,hr,h4⟩:=h_;subst hr;show nE h4 λ_ s5 h_=>?_;obtain⟨x,H5,J5,r5,y5,lL,MX⟩:=h_;have TN:=J5.pinned (gM MX) (T.obj _ _ lL);have IB:=hG _ s5 σ3 H5 x u _ TN r5 (step x H5 y5);rw[eX]at IB;show nE IB λ_ s6 h_=>?_;obtain⟨σ6,H6,J6,q6⟩:=h_;have go2:=hT _ s6 σ6 H6 _ J6 q6;rw[eX]at go2;show nE go2 λok s7 h_=>?_;obtain⟨H7,J7,q7⟩:=h_;have fin:∀{σ8:St}{H8:Hp}{s8:Shared},Inv Y ([]++gb fp s5.heap) σ8 H8 s8->
     tn (i+1) s8.heap/\(∀b∈fp,H8 b=none):=λ{σ8 H8 s8} J8=>by
    show⟨T.keep _ _ _ lL λb hb o e=>(J8.pin (b,o) (Ym _ (Ym _ (Jc hb e)))).1,λb hb=>?_⟩;obtain⟨o,e,d⟩:=T.obj _ _ lL b hb;show(J8.pin (b,o) (Ym _ (Ym _ (Jc hb e)))).2.1
   cases ok with
   |false=>
    rw[if_neg Yi]at q7⊢;obtain⟨m',hm,w7⟩:=hN _ _ q7;show⟨m',hm,i+1,σ6,H7,J7.fM,(fin J7).1,(fin J7).2,w7⟩
   |true=>
    rw[if_pos rfl]at q7⊢;have IA:=hK _ s7 σ6 H7 _ J7 q7;rw[eX]at IA;show nE IA λkv s8 h_=>?_;obtain⟨y,H8,J8,r8,q8⟩:=h_;have go4:=hE _ s8 σ6 H8 _ J8 q8;rw[eX]at go4;show nE go4 λvv s9 h_=>?_;obtain⟨v,H9,J9,r9,H10,pt,n10⟩:=h_;obtain⟨m',hm,w10⟩:=hN _ _ n10;show zh (by rw[eA];show hu) J9 pt r8 r9 λs10 J10=>⟨m',hm,i+1,σ6,H10,J10.fM,(fin J10).1,(fin J10).2,w10⟩
 show codeAny_compStart_dict (loop _ rfl) (T.self _ 0 _ _ _ (T.keep _ _ _ st λb _ o e=>old b o (K' b o e)) (loop _ rfl))
end
section
variable{X:Cx}{tg kx vx iter:Expr}{ifs:6e1}{scope:Scope}{pos:Pos}{vs fs:6e2}{fr:12e9}{g:TG}{tt:TT}{tk te:TE}
theorem BJ{wi:TI}(S:12e3)(hc:11e1)(hu:X.A.units+1<cLine)(hi:PI X tg iter wi)
  (bG:∀C s₀ H₀ ex pn,PG 2e0 tg g) (bT:∀C s₀ H₀ ex pn,zM 2e0 ifs tt) (bK:∀C s₀ H₀ ex pn,PE 2e0 kx tk) (bE:∀C s₀ H₀ ex pn,PE 2e0 vx te)
  (hs:16e3:=by intro _;rfl):
  PE X (.DictComp kx vx [13e1] scope pos) (Af wi vs fr g tt tk te):=by
 sleep 7;rw[arm_eval_DictComp];show WZ (use:=none) rfl hs (ZcI (S.Ho I.ok)) S.kind S.L' (cF (hi pins s σ H _ I h) λv s1 h1=>cF h1 λOH s2 h2=>?_);obtain⟨it,fp,tn,J,H2,e,I2,T,st2,f2,q2⟩:=h2;subst e;show rV (RR:=λacc C=>compPost 3e6 X.A X.xe none 15e2 acc C) S hc hu bG bT bK bE I2 T st2 f2 q2 ?_;intro D C H' s' m' I' hq hn hC hle;show⟨m',hn,λh' qY=>⟨.ref D,H',?_,rfl,hq⟩⟩;show I'.turned (t':=s'.toks) (λb o hb e=>(qY.2 b hb).trans e) hC ?_ (.inr (YI I2.sz hle)) ?_ ?_
 ·show XI (Yu I2.lt hle)
 ·intro x c e
  obtain⟨v,z⟩:=I2.cell x c e;show Yp (Yu z.lt hle)
 ·intro p hp
  show zx (I2.pin p hp).1 hle
end
section
variable{X:Cx}
noncomputable def Its (z:Str):It:=⟨λi _=>i<z.cps.size,λi H x H'=>H'=H/\∃c,z.cps[i]? = some c/\x=.str ⟨#[c]⟩,λi _=>i=z.cps.size⟩
theorem pV{P:Ys}{w:World}{K:W.Frag}{tg:Expr}{it:Addr}{z:Str}{t:Tok}{ty:String}(OL:ty="str_ascii_iterator"\/ty="str_iterator"):Turn P w K tg (Its z) [it] it (λi h=>h.IsStrIter it ty z t i) where
 mem:=by simp
 obj:=λi h st b hb=>by
  have e:b=it:=by simpa using hb
  subst e;obtain⟨o,e,c,d⟩:=st;show⟨o,e,λv z=>by rw[d]at z;cases z⟩
 keep:=λi h h' st k=>by
  obtain⟨o,e,c,d⟩:=st;show⟨o,k it 4e4 o e,c,d⟩
 item:=by
  sleep 3;sleep 16;have fin:∀v h' tk,SignAt z i v->h'.IsStrIter it ty z t (i+1)->(∀b o,b∉[it]->s.heap.get? b=some o->h'.get? b=some o)->
    ∃u,some v=some u/\wpAny 3e6 X.A (X3 tg (.ref it) u) (λ_ s2=>∃x H',Inv X pins σ H' s2/\RelV x u/\(Its z).zS i H x H'/\s2.heap.IsStrIter it ty z t (i+1)/\∀b∈[it],H' b=none) E {s with heap:=h',toks:=tk}:=λv h' tk hv mh kk=>by
   obtain⟨c,u,hcx,rfl⟩:=hv;have I1:Inv X pins σ H {s with heap:=h',toks:=tk}:=I.turned (λb o hb e=>kk b o (by simpa using hb) e) f0 f1 f3 f4 f5;obtain⟨o,e,oc,d⟩:=id mh;show⟨_,rfl,wB (s:={s with heap:=h',toks:=tk}) e oc d (by rcases OL with rfl|rfl<;>decide) ⟨.str ⟨#[c]⟩,H,I1,⟨u,rfl⟩,⟨rfl,c,hcx,rfl⟩,mh,λb hb=>(hf b hb).1⟩⟩
  rcases OL with rfl|rfl
  ·show(Walks.strAscii (prog:=X.prog) (w:=X.w) (I.ok.hd hc) it z t).item i s _ _ hg st fin
  ·show(Walks.strWide (prog:=X.prog) (w:=X.w) (I.ok.hd hc) it z t).item i s _ _ hg st fin
 done:=by
  sleep 3;sleep 16;have hg:i=z.cps.size:=hg;subst hg;have fin:∀h' tk,(∀b o,b∉[it]->s.heap.get? b=some o->h'.get? b=some o)->(none:Option Value)=none/\Inv X pins σ H {s with heap:=h',toks:=tk}:=λh' tk kk=>
   ⟨rfl,I.turned (λb o hb e=>kk b o (by simpa using hb) e) f0 f1 f3 f4 f5⟩
  rcases OL with rfl|rfl
  ·show(Walks.strAscii (prog:=X.prog) (w:=X.w) (I.ok.hd hc) it z t).done s _ _ st fin
  ·show(Walks.strWide (prog:=X.prog) (w:=X.w) (I.ok.hd hc) it z t).done s _ _ st fin
 self:=λ_ _ _ _ _ st h=>by
  rcases OL with rfl|rfl
  ·show wpAny_pyIter_striter_ascii st h
  ·show wpAny_pyIter_striter_wide st h
theorem range_all(bs:List Bool):((Yk bs.length).all λi=>bs.getD i false)=bs.all id:=by
 rw[Wz];simp only[YB,Xh];constructor
 ·intro h b hb
  obtain⟨i,hi,e⟩:=XQ hb;have:=h i hi;rw[YZ,Yc hi]at this;subst e;simpa using this
 ·intro h i hi
  rw[YZ,Yc hi];simpa using h _ (YO hi)
theorem sf(hc:11e1):cR X (.builtin "all") (λxs H Q=>∃(a:Addr)(bs:List Bool),xs=[.ref a]/\fB X.K H a (bs.map V.bl)/\Q (.bl (bs.all id)) H):=by
 sleep 15;obtain⟨a,bs,rfl,hq,q⟩:=h;obtain⟨u,rfl,ru⟩:=Vals.one r;cases(show u=Y9 a from ru);obtain⟨aM,rv,p,hz⟩:=I.list hq;have dQ:a<s.heap.objs.size:=by obtain⟨o,e,_⟩:=p.isList;show Yq e
 show call_all_walk (Vm p.isList ?_);have hlen:aM.toArray.size=bs.length:=by have:=rv.length;simp at this;simp[this]
 show⟨s.heap.objs.size,_,_,aM.toArray.size,_,_,λi=>bs.getD i false,rfl,Walks.list (by show I.ok.hd hc) s.heap.objs.size a (Yp dQ) aM.toArray,⟨⟨_,Yw _ rfl,rfl,rfl⟩,p.isList.push _⟩,?_,?_⟩
 ·intro i v s' Q' E' hv hQ'
  have hi:i<bs.length:=by
   rw[←hlen];show(Array.getElem?_eq_some_iff.mp hv).1
  obtain⟨u,e1,r1⟩:=rv.get (i:=i) (x:=V.bl bs[i]) (by simp[hi]);have e2:aM[i]? = some v:=by simpa using hv
  rw[e1]at e2;have e3:u=v:=YF e2;have e4:u=Vj bs[i]:=r1;rw[←e3,e4];show XO ?_;have:bs.getD i false=bs[i]:=by rw[YZ,Yc hi];rfl
  have hQ2:Q' (bs.getD i false) s':=hQ';rw[this]at hQ2;show hQ2
 ·intro h' tk kk
  show⟨.bl _,H,I.kept λb o e=>kk b o (λz=>?_) (Yb _ e),?_,q⟩
  ·have:b=s.heap.objs.size:=by simpa using z
   show absurd this (Yp (Yq e))
  ·change Vj _=Vj _
   rw[hlen,range_all]
end
end L2
namespace Se
open PySem PySem.SetTable
noncomputable def adv (mask:Nat)(p:Probe):Probe:=
 if p.more>0 then{p with j:=p.j+1,more:=p.more-1}else
 {p with j:=(leap mask p.i p.perturb).1,more:=runEnd mask (leap mask p.i p.perturb).1-(leap mask p.i p.perturb).1,i:=(leap mask p.i p.perturb).1,perturb:=(leap mask p.i p.perturb).2}
def it(mask:Nat):Nat->Probe->Probe
 |0,p=>p
 |n+1,p=>it mask n (adv mask p)
noncomputable def Q7 (mask i d pt:Nat):Probe:={j:=i+d,more:=runEnd mask i-i-d,i:=i,perturb:=pt,dummy:=none}
noncomputable def len (mask i:Nat):Nat:=runEnd mask i-i
noncomputable def lp (mask:Nat):Nat->Nat×Nat->Nat×Nat
 |0,p=>p
 |n+1,p=>lp mask n (leap mask p.1 p.2)
noncomputable def f (mask i:Nat):Nat:=(i*5+1)%(mask+1)
def fk(mask:Nat):Nat->Nat->Nat
 |0,i=>i
 |n+1,i=>fk mask n (f mask i)
def Mk(mask:Nat):Prop:=mask=7\/mask=31\/mask=127\/mask=511
def dz(xs:16e4):Prop:=∀(a b:Nat)(x y:Nat),a<b->xs[a]? = some x->xs[b]? = some y->x<y
def start(mask:Nat)(h:Int):Probe:=Q7 mask (bits h%(mask+1)) 0 (bits h)
structure T0(t:SetTable)(es:Array (Int×Value)):Prop where
 mm:Mk t.mask
 dm:t.dummies=#[]
 rs:dz t.place
 sz:t.place.size=es.size
 lt:∀i j:Nat,t.place[i]? = some j->j<t.mask+1
 rc:∀(i j:Nat)(e:Int×Value),t.place[i]? = some j->es[i]? = some e->∃n,(it t.mask n (start t.mask e.1)).j=j/\∀m,m<n->∃i':Nat,t.place[i']? = some (it t.mask m (start t.mask e.1)).j
structure TI(t:SetTable)(es:Array (Int×Value)):Prop extends T0 t es where
 fl:es.size*5<t.mask*3
noncomputable def own (owner:Array (Option Nat))(j:Nat):Option Nat:=owner.getD j (some 0)
section
variable{prog:Ys}{w:World}{K:Type} [DecidableEq K]{knd:KeyKind prog w K}{A:Around}{E:1e6}{s:Shared}
theorem mL{M:Model}{β:Type}{J:β->Prop}{ok:Value->Prop}{f:Value->β->Sem (ForInStep β)}
  (step:∀v b(Q:ForInStep β->Shared->Prop),ok v->J b->(∀b',J b'->Q (.yield b') s)->(∀b',J b'->Q (.done b') s)->wpAny M A (f v b) Q E s):
  ∀(xs:4e1)(b:β)(Q:β->Shared->Prop),(∀v∈xs,ok v)->J b->(∀b',J b'->Q b' s)->wpAny M A (forIn xs b f) Q E s
 |[],b,Q,_,j,q=>by rw[VR];show Ye (q b j)
 |v::xs,b,Q,hx,j,q=>by
  rw[W9];show Ya (step v b _ (hx v (.head _)) j (λb' j'=>mL step xs b' Q (λu z=>hx u (.tail _ z)) j' q) λb' j'=>Ye (q b' j'))
end
end Se
namespace Pu
open PySem PySem.Spec PyProof.Rows L2
inductive PV where
 |aP|bl (b:Bool)|int (i:Int)|str (x:Str)|tup (xs:List PV)|lst (xs:List PV)|b5 (ks vs:List PV)|bW (ks:List (List Key)) (vs:List PV)|fn (a:Addr)|ty (n:String)|dn (ks vs:List PV)
noncomputable def kP:Key->PV
 |.inl i=>.int i
 |.inr x=>.str x
def Jg(K:W.Frag)(ι:3e8)(H:Hp)(a:Addr)(vs:List V):Prop:=
 (a∉ι/\Rd H a (.lst vs))\/
  ∃(o:Obj)(aM:Array Value)(n:Nat),K.lookup a=some o/\o.cls=.type "list"/\o.dict=none/\o.data=.seq aM n/\aM.size<=Yt/\Vals vs aM.toList
theorem Jg.sq{K:W.Frag}{ι:3e8}{H:Hp}{a:Addr}{vs:List V}(h:Jg K ι H a vs):fB K H a vs:=by
 rcases h with⟨_,h⟩|h
 ·show .inl h
 ·show .inr h
def Jd(H:Hp)(a:Addr)(vs:List V):Prop:=H a=some (.tup vs)
theorem Jd.sq{K:W.Frag}{H:Hp}{a:Addr}{vs:List V}(h:Jd H a vs):iz K H a vs:=.inl (.inl h)
noncomputable def IH (a:Addr)(ks vs:List V):HO:=.ext λh=>ks.length<=Yt/\(a==XN)=false/\∃(o:Obj)(es:Array Wa)(ep:Nat),h.get? a=some o/\o.ExactDict/\o.data=.dict es ep/\Vals ks (es.toList.map (·.key))/\Vals vs (es.toList.map (·.val))
mutual
noncomputable def Rep (K:W.Frag)(ι:3e8)(H:Hp):PV->V->Prop
 |.aP,v=>v=.aP
 |.bl b,v=>v=.bl b
 |.int i,v=>v=.int i
 |.str x,v=>v=.str x/\x.length<=Yt
 |.tup ps,v=>∃a vs,v=.ref a/\Jd H a vs/\ah K ι H ps vs
 |.lst ps,v=>∃a vs,v=.ref a/\Jg K ι H a vs/\ah K ι H ps vs
 |.b5 ks ps,v=>∃(a:Addr)(qs:14e6)(vs:List V),v=.ref a/\a∉ι/\H a=some (.dK (qs.zip vs))/\qs.length=vs.length/\ks=qs.map kP/\ah K ι H ps vs
 |.bW ks ps,v=>∃(a:Addr)(vs:List V),v=.ref a/\a∉ι/\Rd H a (.dT (ks.zip vs))/\ks.length=vs.length/\ah K ι H ps vs
 |.fn a,v=>v=.ref a
 |.ty n,v=>v=.ty n
 |.dn ks ps,v=>∃(a:Addr)(qs vs:List V),v=.ref a/\a∉ι/\H a=some (IH a qs vs)/\ah K ι H ks qs/\ah K ι H ps vs
noncomputable def ah (K:W.Frag)(ι:3e8)(H:Hp):List PV->List V->Prop
 |[],vs=>vs=[]
 |p::ps,vs=>∃v r,vs=v::r/\Rep K ι H p v/\ah K ι H ps r
end
inductive SV where
 |v (p:PV)|c (k:Nat)
abbrev Cs:=List PV
def cw(K:W.Frag)(ι:3e8)(H:Hp):SV->V->Prop
 |.v p,x=>Rep K ι H p x
 |.c k,x=>∃a,x=.ref a/\ι[k]? = some a
def cb(K:W.Frag)(ι:3e8)(H:Hp):List SV->List V->Prop
 |[],vs=>vs=[]
 |p::ps,vs=>∃v r,vs=v::r/\cw K ι H p v/\cb K ι H ps r
def cm(K:W.Frag)(ι:3e8)(H:Hp)(a:Addr):PV->Prop
 |.lst ps=>∃vs,H a=some (.lst vs)/\ah K ι H ps vs
 |.b5 ks ps=>∃(qs:14e6)(vs:List V),H a=some (.dK (qs.zip vs))/\qs.length=vs.length/\ks=qs.map kP/\ah K ι H ps vs
 |.bW ks ps=>∃(vs:List V),H a=some (.dT (ks.zip vs))/\ks.length=vs.length/\ah K ι H ps vs
 |_=>False
structure CR(K:W.Frag)(ι:List Addr)(H:Hp)(C:Cs):Prop where
 len:ι.length=C.length
 nd:ι.Nodup
 ok:∀(k:Nat)(a:Addr)(c:PV),ι[k]? = some a->C[k]? = some c->cm K ι H a c
def Fr(ι:3e8)(H H':Hp):Prop:=∀b o,b∉ι->H b=some o->H' b=some o
theorem Fr.refl{ι:3e8}{H:Hp}:Fr ι H H:=λ_ _ _ h=>h
theorem Fr.trans{ι:3e8}{H H1 H2:Hp}(a:Fr ι H H1)(b:Fr ι H1 H2):Fr ι H H2:=λc o n h=>b c o n (a c o n h)
theorem Fr.new{ι:3e8}{H:Hp}{p:Addr}{o:HO}(h:H p=none):Fr ι H (upd H p o):=λb u _ e=>by rw[dH (i4 e h)];show e
section
variable{K:W.Frag}{ι:3e8}{H H':Hp}{C:Cs}
theorem CR.at'(cr:11e7){a:Addr}(h:a∈ι):∃(k:Nat)(c:PV),ι[k]? = some a/\C[k]? = some c/\cm K ι H a c:=by
 obtain⟨k,hk,e⟩:=XQ h;have h1:ι[k]? = some a:=by rw[Yc hk,e]
 have hk2:k<C.length:=by rw[←cr.len];show hk
 show⟨k,C[k],h1,Yc hk2,cr.ok k a _ h1 (Yc hk2)⟩
theorem CR.mut(cr:11e7){a:Addr}(h:a∈ι):(∃vs,H a=some (.lst vs))\/(∃kvs,H a=some (.dK kvs))\/∃kvs,H a=some (.dT kvs):=by
 obtain⟨k,c,_,_,ok⟩:=cr.at' h;cases c with
 |lst ps=>obtain⟨vs,e,_⟩:=ok;show .inl ⟨vs,e⟩
 |b5 ks ps=>obtain⟨qs,vs,e,_⟩:=ok;show .inr (.inl ⟨_,e⟩)
 |bW ks ps=>obtain⟨vs,e,_⟩:=ok;show .inr (.inr ⟨_,e⟩)
 |_=>show ok.elim
theorem CR.mE(cr:11e7){a:Addr}{o:HO}(e:H a=some o)(h1:∀vs,o≠.lst vs)(h2:∀kvs,o≠.dK kvs)(h3:∀kvs,o≠.dT kvs:=by intro kvs z;cases z):a∉ι:=λh=>by
 rcases cr.mut h with⟨vs,z⟩|⟨kvs,z⟩|⟨kvs,z⟩
 ·rw[e]at z;show h1 vs (YF z)
 ·rw[e]at z;show h2 kvs (YF z)
 ·rw[e]at z;show h3 kvs (YF z)
theorem zZ(cr:11e7)(fr:Fr ι H H'){a:Addr}{vs:List V}(h:Jd H a vs):Jd H' a vs:=
 fr _ _ (cr.mE h (λ_ e=>nomatch e) λ_ e=>nomatch e) h
theorem Jg.mono(fr:Fr ι H H'){a:Addr}{vs:List V}(h:Jg K ι H a vs):Jg K ι H' a vs:=by
 rcases h with⟨n,h|⟨o,h⟩⟩|h
 ·show .inl ⟨n,.inl (fr _ _ n h)⟩
 ·show .inl ⟨n,.inr ⟨o,fr _ _ n h⟩⟩
 ·show .inr h
theorem oo{a:Addr}{u:HO}(k:∀o,H a=some o->H' a=some o)(h:Rd H a u):Rd H' a u:=by
 rcases h with h|⟨o,h⟩
 ·show .inl (k _ h)
 ·show .inr ⟨o,k _ h⟩
mutual
theorem Rep.mono(cr:11e7)(fr:Fr ι H H'):∀(p:PV)(v:V),Rep K ι H p v->Rep K ι H' p v
 |.aP,v,h=>by unfold Rep at h⊢;show h
 |.bl b,v,h=>by unfold Rep at h⊢;show h
 |.int i,v,h=>by unfold Rep at h⊢;show h
 |.str x,v,h=>by unfold Rep at h⊢;show h
 |.tup ps,v,h=>by
  sleep 18;show⟨a,vs,e,zZ cr fr sq,ah.mono cr fr ps vs r⟩
 |.lst ps,v,h=>by
  sleep 18;show⟨a,vs,e,sq.mono fr,ah.mono cr fr ps vs r⟩
 |.b5 ks ps,v,h=>by
  unfold Rep at h⊢;obtain⟨a,qs,vs,e,n,hd,hl,hk,r⟩:=h;show⟨a,qs,vs,e,n,fr _ _ n hd,hl,hk,ah.mono cr fr ps vs r⟩
 |.bW ks ps,v,h=>by
  unfold Rep at h⊢;obtain⟨a,vs,e,n,hd,hl,r⟩:=h;show⟨a,vs,e,n,oo (λo e=>fr _ o n e) hd,hl,ah.mono cr fr ps vs r⟩
 |.fn a,v,h=>by unfold Rep at h⊢;show h
 |.ty n,v,h=>by unfold Rep at h⊢;show h
 |.dn ks ps,v,h=>by
  unfold Rep at h⊢;obtain⟨a,qs,vs,e,n,hd,r1,r2⟩:=h;show⟨a,qs,vs,e,n,fr _ _ n hd,ah.mono cr fr ks qs r1,ah.mono cr fr ps vs r2⟩
theorem ah.mono(cr:11e7)(fr:Fr ι H H'):∀(ps:List PV)(vs:List V),ah K ι H ps vs->ah K ι H' ps vs
 |[],vs,h=>by unfold ah at h⊢;show h
 |p::ps,vs,h=>by
  unfold ah at h⊢;obtain⟨v,r,e,h1,h2⟩:=h;show⟨v,r,e,Rep.mono cr fr p v h1,ah.mono cr fr ps r h2⟩
end
theorem cw.mono(cr:11e7)(fr:Fr ι H H'){s:SV}{v:V}(h:cw K ι H s v):cw K ι H' s v:=by
 cases s with
 |v p=>show Rep.mono cr fr p v h
 |c k=>show h
mutual
theorem Rep.d9(sm:∀b o,H b=some o->H' b=some o):∀(p:PV)(v:V),Rep K ι H p v->Rep K ι H' p v
 |.aP,v,h=>by unfold Rep at h⊢;show h
 |.bl b,v,h=>by unfold Rep at h⊢;show h
 |.int i,v,h=>by unfold Rep at h⊢;show h
 |.str x,v,h=>by unfold Rep at h⊢;show h
 |.tup ps,v,h=>by
  sleep 18;show⟨a,vs,e,sm _ _ sq,ah.d9 sm ps vs r⟩
 |.lst ps,v,h=>by
  sleep 18;show⟨a,vs,e,sq.mono (λb o _ e=>sm b o e),ah.d9 sm ps vs r⟩
 |.b5 ks ps,v,h=>by
  unfold Rep at h⊢;obtain⟨a,qs,vs,e,n,hd,hl,hk,r⟩:=h;show⟨a,qs,vs,e,n,sm _ _ hd,hl,hk,ah.d9 sm ps vs r⟩
 |.bW ks ps,v,h=>by
  unfold Rep at h⊢;obtain⟨a,vs,e,n,hd,hl,r⟩:=h;show⟨a,vs,e,n,oo (λo e=>sm _ o e) hd,hl,ah.d9 sm ps vs r⟩
 |.fn a,v,h=>by unfold Rep at h⊢;show h
 |.ty n,v,h=>by unfold Rep at h⊢;show h
 |.dn ks ps,v,h=>by
  unfold Rep at h⊢;obtain⟨a,qs,vs,e,n,hd,r1,r2⟩:=h;show⟨a,qs,vs,e,n,sm _ _ hd,ah.d9 sm ks qs r1,ah.d9 sm ps vs r2⟩
theorem ah.d9(sm:∀b o,H b=some o->H' b=some o):∀(ps:List PV)(vs:List V),ah K ι H ps vs->ah K ι H' ps vs
 |[],vs,h=>by unfold ah at h⊢;show h
 |p::ps,vs,h=>by
  unfold ah at h⊢;obtain⟨v,r,e,h1,h2⟩:=h;show⟨v,r,e,Rep.d9 sm p v h1,ah.d9 sm ps r h2⟩
end
mutual
theorem Rep.cells{ι':3e8}(hs:∀b o,H b=some o->b∉ι->b∉ι'):∀(p:PV)(v:V),Rep K ι H p v->Rep K ι' H p v
 |.aP,v,h=>by unfold Rep at h⊢;show h
 |.bl b,v,h=>by unfold Rep at h⊢;show h
 |.int i,v,h=>by unfold Rep at h⊢;show h
 |.str x,v,h=>by unfold Rep at h⊢;show h
 |.tup ps,v,h=>by
  sleep 18;show⟨a,vs,e,sq,ah.cells hs ps vs r⟩
 |.lst ps,v,h=>by
  sleep 18;show⟨a,vs,e,?_,ah.cells hs ps vs r⟩;rcases sq with⟨n,q|⟨o,q⟩⟩|q
  ·show .inl ⟨hs _ _ q n,.inl q⟩
  ·show .inl ⟨hs _ _ q n,.inr ⟨o,q⟩⟩
  ·show .inr q
 |.b5 ks ps,v,h=>by
  unfold Rep at h⊢;obtain⟨a,qs,vs,e,n,hd,hl,hk,r⟩:=h;show⟨a,qs,vs,e,hs _ _ hd n,hd,hl,hk,ah.cells hs ps vs r⟩
 |.bW ks ps,v,h=>by
  unfold Rep at h⊢;obtain⟨a,vs,e,n,hd,hl,r⟩:=h;show⟨a,vs,e,by rcases id hd with q|⟨o,q⟩<;>show hs _ _ q n,hd,hl,ah.cells hs ps vs r⟩
 |.fn a,v,h=>by unfold Rep at h⊢;show h
 |.ty n,v,h=>by unfold Rep at h⊢;show h
 |.dn ks ps,v,h=>by
  unfold Rep at h⊢;obtain⟨a,qs,vs,e,n,hd,r1,r2⟩:=h;show⟨a,qs,vs,e,hs _ _ hd n,hd,ah.cells hs ks qs r1,ah.cells hs ps vs r2⟩
theorem ah.cells{ι':3e8}(hs:∀b o,H b=some o->b∉ι->b∉ι'):∀(ps:List PV)(vs:List V),ah K ι H ps vs->ah K ι' H ps vs
 |[],vs,h=>by unfold ah at h⊢;show h
 |p::ps,vs,h=>by
  unfold ah at h⊢;obtain⟨v,r,e,h1,h2⟩:=h;show⟨v,r,e,Rep.cells hs p v h1,ah.cells hs ps r h2⟩
end
theorem ah.nil:ah K ι H [] []:=by ext ah;rfl
theorem ah.cons{p:PV}{v:V}{ps:List PV}{vs:List V}(h:Rep K ι H p v)(t:ah K ι H ps vs):ah K ι H (p::ps) (v::vs):=by ext ah;show⟨v,vs,rfl,h,t⟩
theorem ah.inv{p:PV}{ps:List PV}{vs:List V}(h:ah K ι H (p::ps) vs):∃v r,vs=v::r/\Rep K ι H p v/\ah K ι H ps r:=by ext ah h;show h
theorem ah.iW{vs:List V}(h:ah K ι H [] vs):vs=[]:=by ext ah h;show h
theorem ah.length:∀{ps:List PV}{vs:List V},ah K ι H ps vs->ps.length=vs.length
 |[],vs,h=>by rw[h.iW];rfl
 |p::ps,vs,h=>by obtain⟨v,r,rfl,_,t⟩:=h.inv;rw[YD,YD,t.length]
theorem ah.append:∀{ps qs:List PV}{vs ws:List V},ah K ι H ps vs->ah K ι H qs ws->ah K ι H (ps++qs) (vs++ws)
 |[],_,vs,_,h,t=>by rw[h.iW];show t
 |p::ps,_,vs,_,h,t=>by obtain⟨v,r,rfl,h1,h2⟩:=h.inv;show .cons h1 (h2.append t)
theorem ah.get:∀{ps:List PV}{vs:List V}{i:Nat}{p:PV},ah K ι H ps vs->ps[i]? = some p->∃v,vs[i]? = some v/\Rep K ι H p v
 |[],_,_,_,h,e=>by simp at e
 |q::ps,vs,0,p,h,e=>by
  obtain⟨v,r,rfl,h1,h2⟩:=h.inv;simp at e;subst e;show⟨v,rfl,h1⟩
 |q::ps,vs,i+1,p,h,e=>by
  obtain⟨v,r,rfl,h1,h2⟩:=h.inv;obtain⟨w,e1,r1⟩:=h2.get (i:=i) 17e9;show⟨w,by simpa using e1,r1⟩
theorem ah.get':∀{ps:List PV}{vs:List V}{i:Nat}{v:V},ah K ι H ps vs->vs[i]? = some v->∃p,ps[i]? = some p/\Rep K ι H p v:=λ{ps vs i v} h e=>by
 have hi:i<ps.length:=by
  rw[h.length];rcases YU i vs.length with q|q
  ·show q
  ·rw[Yf.mpr q]at e;cases e
 obtain⟨w,e1,r⟩:=h.get (Yc hi);rw[e]at e1;cases e1;show⟨_,Yc hi,r⟩
theorem ah.take:∀{ps:List PV}{vs:List V}(n:Nat),ah K ι H ps vs->ah K ι H (ps.take n) (vs.take n)
 |_,_,0,_=>by simp;show .nil
 |[],vs,n+1,h=>by rw[h.iW];simp;show .nil
 |p::ps,vs,n+1,h=>by obtain⟨v,r,rfl,h1,h2⟩:=h.inv;simp only[List.take_succ_cons];show .cons h1 (h2.take n)
theorem ah.drop:∀{ps:List PV}{vs:List V}(n:Nat),ah K ι H ps vs->ah K ι H (ps.drop n) (vs.drop n)
 |_,_,0,h=>by simpa using h
 |[],vs,n+1,h=>by rw[h.iW];simp;show .nil
 |p::ps,vs,n+1,h=>by obtain⟨v,r,rfl,h1,h2⟩:=h.inv;simpa using h2.drop n
theorem ah.set:∀{ps:List PV}{vs:List V}(i:Nat){p:PV}{v:V},ah K ι H ps vs->Rep K ι H p v->ah K ι H (ps.set i p) (vs.set i v)
 |[],vs,i,p,v,h,_=>by rw[h.iW];simp;show .nil
 |q::ps,vs,0,p,v,h,hp=>by obtain⟨w,r,rfl,h1,h2⟩:=h.inv;simp;show .cons hp h2
 |q::ps,vs,i+1,p,v,h,hp=>by obtain⟨w,r,rfl,h1,h2⟩:=h.inv;simp;show .cons h1 (h2.set i hp)
theorem cm.mono(cr:11e7)(fr:Fr ι H H'){a:Addr}{c:PV}(ha:∀o,H a=some o->H' a=some o)(h:cm K ι H a c):cm K ι H' a c:=by
 cases c with
 |lst ps=>obtain⟨vs,e,r⟩:=h;show⟨vs,ha _ e,ah.mono cr fr _ _ r⟩
 |b5 ks ps=>obtain⟨qs,vs,e,hl,hk,r⟩:=h;show⟨qs,vs,ha _ e,hl,hk,ah.mono cr fr _ _ r⟩
 |bW ks ps=>obtain⟨vs,e,hl,r⟩:=h;show⟨vs,ha _ e,hl,ah.mono cr fr _ _ r⟩
 |_=>show h.elim
theorem CR.same(cr:11e7)(sm:∀b o,H b=some o->H' b=some o):CR K ι H' C:=
 ⟨cr.len,cr.nd,λk a c h1 h2=>(cr.ok k a c h1 h2).mono cr (λb o _ e=>sm b o e) λo e=>sm a o e⟩
theorem CR.new(cr:11e7){p:Addr}{o:HO}(h:H p=none):CR K ι (upd H p o) C:=cr.same λb u e=>by rw[dH (i4 e h)];show e
theorem CR.put(cr:11e7){k:Nat}{a:Addr}{c:PV}{o:HO}(hk:ι[k]? = some a)(ok:cm K ι (upd H a o) a c):CR K ι (upd H a o) (C.set k c):=by
 have fr:Fr ι H (upd H a o):=λb u n e=>by
  rw[dH (λz=>n (by rw[z];show YS hk))];show e
 show⟨by rw[XH];show cr.len,cr.nd,λj b d h1 h2=>?_⟩;by_cases hj:j=k
 ·subst hj
  rw[hk]at h1;cases h1;have dQ:j<C.length:=by
   rw[←cr.len];rcases YU j ι.length with q|q
   ·show q
   ·rw[Yf.mpr q]at hk;cases hk
  rw[Xc dQ]at h2;cases h2;show ok
 ·rw[YA (Xp hj)]at h2
  show(cr.ok j b d h1 h2).mono cr fr λu e=>?_;have hb:b≠a:=λz=>by
   subst z;have Z6:j<ι.length:=by
    rcases YU j ι.length with q|q
    ·show q
    ·rw[Yf.mpr q]at h1;cases h1
   have Z4:k<ι.length:=by
    rcases YU k ι.length with q|q
    ·show q
    ·rw[Yf.mpr q]at hk;cases hk
   have e1:=(YW.mp h1).2;have e2:=(YW.mp hk).2;show hj ((X9 cr.nd).mp (e1.trans e2.symm))
  rw[dH hb];show e
theorem P4{p:Addr}(hp:H p=none):∀b u,H b=some u->b∉ι->b∉ι++[p]:=λb u e n z=>by
 rcases Yy.mp z with z|z
 ·show n z
 ·show i4 e hp (by simpa using z)
theorem i6(cr:11e7){p:Addr}{o:HO}(hp:H p=none)(q:List PV)(v:List V)(r:ah K ι H q v):ah K (ι++[p]) (upd H p o) q v:=by
 show ah.d9 (λb u e=>by rw[dH (i4 e hp)];show e) q v (ah.cells (ι':=ι++[p]) (P4 hp) q v r)
theorem CR.add(cr:11e7){p:Addr}{c:PV}{o:HO}(hp:H p=none)(ok:cm K (ι++[p]) (upd H p o) p c):CR K (ι++[p]) (upd H p o) (C++[c]):=by
 have hni:p∉ι:=λz=>by
  rcases cr.mut z with⟨vs,e⟩|⟨kvs,e⟩|⟨kvs,e⟩
  ·rw[hp]at e;cases e
  ·rw[hp]at e;cases e
  ·rw[hp]at e;cases e
 have hc:∀b u,(upd H p o) b=some u->b∉ι->b≠p->b∉ι++[p]:=λb u _ n1 n2 z=>by
  rcases Yy.mp z with z|z
  ·show n1 z
  ·show n2 (by simpa using z)
 have up:∀b u,H b=some u->(upd H p o) b=some u:=λb u e=>by rw[dH (i4 e hp)];show e
 have lift:∀(b:Addr)(d:PV),cm K ι H b d->cm K (ι++[p]) (upd H p o) b d:=λb d h=>by
  have hs:∀b u,H b=some u->b∉ι->b∉ι++[p]:=λb u e n=>hc b u (up b u e) n (i4 e hp);have cr':CR K ι (upd H p o) C:=cr.new hp;cases d with
  |lst ps=>
   obtain⟨vs,e,r⟩:=h;show⟨vs,up _ _ e,i6 cr hp ps vs r⟩
  |b5 ks ps=>
   obtain⟨qs,vs,e,hl,hk,r⟩:=h;show⟨qs,vs,up _ _ e,hl,hk,i6 cr hp ps vs r⟩
  |bW ks ps=>
   obtain⟨vs,e,hl,r⟩:=h;show⟨vs,up _ _ e,hl,i6 cr hp ps vs r⟩
  |_=>show h.elim
 show⟨by simp[cr.len],?_,λk a d h1 h2=>?_⟩
 ·rw[WK]
  show⟨cr.nd,by simp,λa ha b hb=>?_⟩;have:b=p:=by simpa using hb
  subst this;show λz=>hni (z▸ha)
 ·rcases YU k ι.length with hk|hk
  ·rw[Yh hk]at h1
   rw[Yh (by rw[←cr.len];show hk)]at h2;show lift a d (cr.ok k a d h1 h2)
  ·rw[Y5 hk]at h1
   rw[Y5 (by rw[←cr.len];show hk)]at h2;rw[←cr.len]at h2;cases hz:k-ι.length with
   |zero=>
    rw[hz]at h1 h2;simp at h1 h2;subst h1 h2;show ok
   |succ j=>rw[hz]at h1;simp at h1
end
end Pu
namespace Pu
open PySem PySem.Spec L2
open PyProof.Rows hiding St
abbrev M(α:Type):=Cs->Option (α×Cs)
noncomputable def ret {α:Type}(a:α):M α:=λC=>some (a,C)
def aW{α β:Type}(x:M α)(f:α->M β):M β:=λC=>match x C with
 |none=>none
 |some (a,C')=>f a C'
noncomputable def cK {α:Type}(g:Cs->Option α):M α:=λC=>match g C with
 |none=>none
 |some a=>some (a,C)
theorem cD{α β:Type}{x:M α}{f:α->M β}{C C2:Cs}{b:β}(h:aW x f C=some (b,C2)):∃a C1,x C=some (a,C1)/\f a C1=some (b,C2):=by
 ext aW h;cases e:x C with
 |none=>rw[e]at h;cases h
 |some p=>obtain⟨a,C1⟩:=p;rw[e]at h;show⟨a,C1,rfl,h⟩
theorem pI{α:Type}{g:Cs->Option α}{C C2:Cs}{b:α}(h:cK g C=some (b,C2)):g C=some b/\C2=C:=by
 ext cK h;cases e:g C with
 |none=>rw[e]at h;cases h
 |some p=>rw[e]at h;cases h;show⟨rfl,rfl⟩
abbrev aG:=List (Option SV)
noncomputable def sT:SV->Option Bool
 |.v (.bl b)=>some b
 |_=>none
def mB(x:SV):M Bool:=cK λ_=>sT x
theorem j8{x:SV}{C C2:Cs}{b:Bool}(h:mB x C=some (b,C2)):x=.v (.bl b)/\C2=C:=by
 obtain⟨h,e⟩:=pI h;show⟨?_,e⟩;cases x with
 |c k=>cases h
 |v p=>cases p<;>first|(cases h;rfl)|cases h
theorem FN{K:W.Frag}{ι:3e8}{H:Hp}{b:Bool}{v:V}(h:cw K ι H (.v (.bl b)) v):v=.bl b:=by unfold cw Rep at h;show h
theorem vJ{K:W.Frag}{ι:3e8}{H:Hp}{b:Bool}:cw K ι H (.v (.bl b)) (.bl b):=by unfold cw Rep;rfl
inductive PF where
 |nx (ρ:aG)|rt (r:SV)|bk (ρ:aG)|ct (ρ:aG)|rf (ps:List PV)|rq (qs:List SV)
structure SR(K:W.Frag)(ι:List Addr)(H:Hp)(ρ:aG)(σ:St)(C:Cs):Prop where
 cr:CR K ι H C
 len:ρ.length=σ.length
 loc:∀(i:Nat)(s:SV),ρ[i]? = some (some s)->∃v,σ[i]? = some (some v)/\cw K ι H s v
section
variable{K:W.Frag}{ι:3e8}{H H':Hp}{C C':Cs}{ρ:aG}{σ:St}
theorem SR.step(sr:SR K ι H ρ σ C)(fr:Fr ι H H')(cr:CR K ι H' C'):SR K ι H' ρ σ C':=
 ⟨cr,sr.len,λi s e=>by obtain⟨v,h1,h2⟩:=sr.loc i s e;show⟨v,h1,h2.mono sr.cr fr⟩⟩
theorem SR.set(sr:SR K ι H ρ σ C){s:SV}{v:V}(i:Nat)(r:cw K ι H s v):SR K ι H (ρ.set i (some s)) (σ.set i (some v)) C:=by
 show⟨sr.cr,by simp[sr.len],λj t e=>?_⟩;by_cases hj:i=j
 ·subst hj
  have hi:i<ρ.length:=by
   rcases YU i ρ.length with q|q
   ·show q
   ·rw[Yf.mpr (by simpa using q)]at e;cases e
  rw[Xc hi]at e;cases e;show⟨v,by rw[Xc (by rw[←sr.len];show hi)],r⟩
 ·rw[YA hj]at e
  rw[YA hj];show sr.loc j t e
end
def tM(K:W.Frag)(f:4e5):TE:=λσ H Q=>∃ι ρ C r C',SR K ι H ρ σ C/\f ρ C=some (r,C')/\∀v H',Fr ι H H'->CR K ι H' C'->cw K ι H' r v->Q v H'
def tMA(K:W.Frag)(f:2e8):TA:=λσ H Q=>∃ι ρ C r C',SR K ι H ρ σ C/\f ρ C=some (r,C')/\∀v H',Fr ι H H'->CR K ι H' C'->cb K ι H' r v->Q v H'
def Ae(K:W.Frag)(f:7e3):TT:=λσ H Q=>∃ι ρ C r C',SR K ι H ρ σ C/\f ρ C=some (r,C')/\∀H',Fr ι H H'->CR K ι H' C'->Q r H'
def tMF(K:W.Frag)(f:13e6):TE:=λσ H Q=>∃ι ρ C ps C',SR K ι H ρ σ C/\f ρ C=some (ps,C')/\∀p vs H',Fr ι H H'->CR K ι H' C'->H' p=none->ah K ι H' ps vs->Q (.ref p) (upd H' p (.lst vs))
def EM(X:Cx)(e:Expr)(f:4e5):Prop:=PE X e (tM X.K f)
def AM(X:Cx)(es:6e1)(f:2e8):Prop:=PA X es (tMA X.K f)
def TMt(X:Cx)(e:Expr)(f:7e3):Prop:=PT X e (Ae X.K f)
def WM(X:Cx)(e:Expr)(f:7e3):Prop:=PW X e (Ae X.K f)
def FM(X:Cx)(e:Expr)(f:13e6):Prop:=PE X e (tMF X.K f)
theorem PE.imp{X:Cx}{e:Expr}{t t':TE}(h:PE X e t)(k:∀σ H Q,t' σ H Q->t σ H Q):PE X e t':=λpins s σ H Q I q=>h pins s σ H Q I (k σ H Q q)
theorem PT.imp{X:Cx}{e:Expr}{t t':TT}(h:PT X e t)(k:∀σ H Q,t' σ H Q->t σ H Q):PT X e t':=λpins s σ H Q I q=>h pins s σ H Q I (k σ H Q q)
theorem PW.imp{X:Cx}{e:Expr}{t t':TT}(h:PW X e t)(k:∀σ H Q,t' σ H Q->t σ H Q):PW X e t':=λwh pins s σ H Q I q=>h wh pins s σ H Q I (k σ H Q q)
theorem PA.imp{X:Cx}{e:6e1}{t t':TA}(h:PA X e t)(k:∀σ H Q,t' σ H Q->t σ H Q):PA X e t':=λpos pins s σ H Q I q=>h pos pins s σ H Q I (k σ H Q q)
theorem PS.imp{X:Cx}{e:Stmt}{t t':TS}(h:PS X e t)(k:∀D σ H,t' D σ H->t D σ H):PS X e t':=λpins s σ H D I q=>h pins s σ H D I (k D σ H q)
theorem pM.imp{X:Cx}{e:List Stmt}{t t':TS}(h:pM X e t)(k:∀D σ H,t' D σ H->t D σ H):pM X e t':=λpins s σ H D I q=>h pins s σ H D I (k D σ H q)
theorem PI.imp{X:Cx}{tg e:Expr}{t t':TI}(h:PI X tg e t)(k:∀σ H Q,t' σ H Q->t σ H Q):PI X tg e t':=λpins s σ H Q I q=>h pins s σ H Q I (k σ H Q q)
section
variable{X:Cx}{a b e c:Expr}{es:6e1}{fa fb fc:4e5}{pos p:Pos}{x:Str}
noncomputable def au (i:Nat):aG->M SV:=λρ C=>match ρ[i]? with
 |some (some s)=>some (s,C)
 |_=>none
theorem Dg(i:Nat){x:Str}{pos:Pos}(hN:16e9:=by rfl)(hv:N7 X.env.scope x:=by first|show Or.inl rfl|show Or.inr 2e1|show Or.inr 16e0)(hd:4e3:=by decide)
  (rj:(x==("__classdict__":Str))=false:=by decide):EM X (.Name x pos) (au i):=by
 show PE.imp (BD hN hv hd rj) λσ H Q h_=>?_;obtain⟨ι,ρ,C,r,C',sr,e,q⟩:=h_;ext au e;cases e1:ρ[i]? with
 |none=>rw[e1]at e;cases e
 |some o=>
  cases o with
  |none=>rw[e1]at e;cases e
  |some s=>
   rw[e1]at e;cases e;obtain⟨v,h1,h2⟩:=sr.loc i _ e1;show⟨v,h1,q v H .refl sr.cr h2⟩
noncomputable def mC (p:PV):aG->M SV:=λ_ C=>some (.v p,C)
theorem IV{v:V}{q:PV}(h:PE X e (tC v))(r:∀ι H,Rep X.K ι H q v):EM X e (mC q):=by
 show PE.imp h λσ H Q h_=>?_;obtain⟨ι,ρ,C,z,C',sr,e,k⟩:=h_;cases e;show k v H .refl sr.cr (r ι H)
def ak(g:11e6)(fa fb:4e5):aG->M SV:=λρ=>aW (fa ρ) λx=>aW (fb ρ) λy=>cK λC=>g C x y
def i7(K:W.Frag)(r:R2)(g:11e6):Prop:=
 ∀(ι:3e8)(H:Hp)(C:Cs)(x y:SV)(vx vy:V)(z:SV)(Q:VK),CR K ι H C->cw K ι H x vx->cw K ι H y vy->g C x y=some z->(∀v H',Fr ι H H'->CR K ι H' C->cw K ι H' z v->Q v H')->r vx vy H Q
theorem vD{K:W.Frag}{r:R2}{g:11e6}(hg:i7 K r g){σ:St}{H:Hp}{Q:VK}(h:tM K (ak g fa fb) σ H Q):PB r (tM K fa) (tM K fb) σ H Q:=by
 sleep 1;obtain⟨y,C2,e2,e⟩:=cD e;obtain⟨e3,rfl⟩:=pI e;show⟨ι,ρ,C,x,C1,sr,e1,λvx H1 f1 c1 r1=>⟨ι,ρ,C1,y,C',16e5,e2,λvy H2 f2 c2 r2=>hg ι H2 C' x y vx vy z _ c2 (r1.mono c1 f2) r2 e3 λv H3 f3 c3 r3=>q v H3 (f1.trans (f2.trans f3)) c3 r3⟩⟩
theorem m9{op:Operator}{r:R2}{g:11e6}(ho:dY X (WJ op) r)(hg:i7 X.K r g)(ha:EM X a fa)(hb:EM X b fb):EM X (.BinOp a op b pos) (ak g fa fb):=
 PE.imp (Qi ho ha hb) λ_ _ _ h=>vD hg h
theorem Dh{r:R2}{g:11e6}(hr:xF X r)(hg:i7 X.K r g)(ha:EM X a fa)(hb:EM X b fb)(hs:i9 b):EM X (.Subscript a b pos) (ak g fa fb):=
 PE.imp (Qj hr ha hb hs) λ_ _ _ h=>vD hg h
def jj(g g':11e6)(fa fb fc:4e5):aG->M SV:=λρ=>aW (fa ρ) λx=>aW (fb ρ) λy=>aW (cK λC=>g C x y) λz=>aW (mB z) λb=>
 if b then aW (fc ρ) λw=>cK λC=>g' C y w else ret (.v 8e1)
theorem p4{K:W.Frag}{r r':R2}{g g':11e6}(hg:i7 K r g)(RG:i7 K r' g'){σ:St}{H:Hp}{Q:VK}(h:tM K (jj g g' fa fb fc) σ H Q):tm r r' (tM K fa) (tM K fb) (tM K fc) σ H Q:=by
 sleep 1;obtain⟨y,C2,e2,e⟩:=cD e;obtain⟨z1,C3,e3,e'⟩:=cD e;obtain⟨e3g,hC3⟩:=pI e3;obtain⟨k,C4,e4,e9⟩:=cD e';obtain⟨zE,hC4⟩:=j8 e4;subst zE hC4 hC3;clear e' e4 e3 e;have e:=e9;show⟨ι,ρ,C,x,C1,sr,e1,λvx H1 f1 c1 r1=>⟨ι,ρ,C1,y,C4,16e5,e2,λvy H2 f2 c2 r2=>hg ι H2 C4 x y vx vy _ _ c2 (r1.mono c1 f2) r2 e3g λv H3 f3 c3 r3=>?_⟩⟩;show⟨k,FN r3,?_⟩;cases k with
 |true=>
  rw[if_pos rfl]at e⊢;obtain⟨w,C5,e5,e⟩:=cD e;obtain⟨e6,rfl⟩:=pI e;show⟨ι,ρ,C4,w,C',((sr.step f1 c1).step f2 c2).step f3 c3,e5,λvw H4 f4 c4 r4=>RG ι H4 C' y w vy vw z _ c4 ((r2.mono c2 f3).mono c3 f4) r4 e6 λv' H5 f5 c5 r5=>
   q v' H5 (f1.trans (f2.trans (f3.trans (f4.trans f5)))) c5 r5⟩
 |false=>
  rw[if_neg Yi]at e⊢;cases e;show q _ H3 (f1.trans (f2.trans f3)) c3 vJ
def aC(f:4e5):aG->M Bool:=λρ=>aW (f ρ) mB
theorem vC{K:W.Frag}{f:4e5}{σ:St}{H:Hp}{Q:Bool->Hp->Prop}(h:Ae K (aC f) σ H Q):Ad (tM K f) σ H Q:=by
 sleep 1;obtain⟨rfl,rfl⟩:=j8 e;show⟨ι,ρ,C,_,C',sr,e1,λv H1 f1 c1 r1=>⟨_,FN r1,q H1 f1 c1⟩⟩
noncomputable def aQ (C:Cs):SV->Option PV
 |.v p=>some p
 |.c k=>C[k]?
noncomputable def nY:PV->Option Bool
 |.aP=>some false
 |.bl b=>some b
 |.int i=>some (i != 0)
 |.str y=>some ((y.length:Int) != 0)
 |.tup xs=>some (!xs.isEmpty)
 |.lst xs=>some (!xs.isEmpty)
 |.b5 ks _=>some (!ks.isEmpty)
 |_=>none
def cB(f:4e5):aG->M Bool:=λρ=>aW (f ρ) λx=>cK λC=>(aQ C x).bind nY
inductive Lies(K:W.Frag)(ι:List Addr)(H:Hp):PV->V->Prop
 |aP:Lies K ι H .aP .aP
 |bl (b:Bool):Lies K ι H (.bl b) (.bl b)
 |int (i:Int):Lies K ι H (.int i) (.int i)
 |str (x:Str) (h:x.length<=Yt):Lies K ι H (.str x) (.str x)
 |tup {a:Addr} {ps:List PV} {vs:List V} (h:Jd H a vs) (r:ah K ι H ps vs):Lies K ι H (.tup ps) (.ref a)
 |lst {a:Addr} {ps:List PV} {vs:List V} (h:fB K H a vs) (r:ah K ι H ps vs):Lies K ι H (.lst ps) (.ref a)
 |b5 {a:Addr} {qs:List Key} {ps:List PV} {vs:List V} (h:H a=some (.dK (qs.zip vs))) (hl:qs.length=vs.length) (r:ah K ι H ps vs):Lies K ι H (.b5 (qs.map kP) ps) (.ref a)
 |bW {a:Addr} {ks:List (List Key)} {ps:List PV} {vs:List V} (h:Rd H a (.dT (ks.zip vs))) (hl:ks.length=vs.length) (r:ah K ι H ps vs):Lies K ι H (.bW ks ps) (.ref a)
 |fn (a:Addr):Lies K ι H (.fn a) (.ref a)
 |ty (n:String):Lies K ι H (.ty n) (.ty n)
 |dn {a:Addr} {ks ps:List PV} {qs vs:List V} (h:H a=some (IH a qs vs)) (r1:ah K ι H ks qs) (r2:ah K ι H ps vs):Lies K ι H (.dn ks ps) (.ref a)
theorem Rep.lies{K:W.Frag}{ι:3e8}{H:Hp}:∀{p:PV}{v:V},Rep K ι H p v->Lies K ι H p v
 |.aP,v,h=>by ext Rep h;subst h;show .aP
 |.bl b,v,h=>by ext Rep h;subst h;show .bl b
 |.int i,v,h=>by ext Rep h;subst h;show .int i
 |.str x,v,h=>by ext Rep h;obtain⟨rfl,h⟩:=h;show .str x h
 |.tup ps,v,h=>by ext Rep h;obtain⟨a,vs,rfl,h,r⟩:=h;show .tup h r
 |.lst ps,v,h=>by ext Rep h;obtain⟨a,vs,rfl,h,r⟩:=h;show .lst h.sq r
 |.b5 ks ps,v,h=>by ext Rep h;obtain⟨a,qs,vs,rfl,n,hd,hl,rfl,r⟩:=h;show .b5 hd hl r
 |.bW ks ps,v,h=>by ext Rep h;obtain⟨a,vs,rfl,n,hd,hl,r⟩:=h;show .bW hd hl r
 |.fn a,v,h=>by ext Rep h;subst h;show .fn a
 |.ty n,v,h=>by ext Rep h;subst h;show .ty n
 |.dn ks ps,v,h=>by ext Rep h;obtain⟨a,qs,vs,rfl,n,hd,r1,r2⟩:=h;show .dn hd r1 r2
theorem cw.lies{K:W.Frag}{ι:3e8}{H:Hp}{C:Cs}(cr:11e7){x:SV}{p:PV}{v:V}(r:cw K ι H x v)(e:aQ C x=some p):Lies K ι H p v:=by
 cases x with
 |v q=>cases e;show Rep.lies r
 |c k=>
  obtain⟨a,rfl,hk⟩:=r;have ok:=cr.ok k a p hk e;cases p with
  |lst ps=>obtain⟨vs,h,r⟩:=ok;show .lst (.of h) r
  |b5 ks ps=>obtain⟨qs,vs,h,hl,rfl,r⟩:=ok;show .b5 h hl r
  |bW ks ps=>obtain⟨vs,h,hl,r⟩:=ok;show .bW (.inl h) hl r
  |_=>show ok.elim
theorem ah.isEmpty{K:W.Frag}{ι:3e8}{H:Hp}{ps:List PV}{vs:List V}(r:ah K ι H ps vs):ps.isEmpty=vs.isEmpty:=by
 have:=r.length;cases ps<;>cases vs<;>simp at this⊢
theorem Lies.tru{K:W.Frag}{ι:3e8}{H:Hp}{p:PV}{v:V}{k:Bool}(l:Lies K ι H p v)(e:nY p=some k):N8 K v H k:=by
 cases l with
 |aP=>cases e;rfl
 |bl b=>cases e;rfl
 |int i=>cases e;rfl
 |str x h=>cases e;show⟨h,rfl⟩
 |tup h r=>cases e;show .inr (.inl ⟨_,h.sq,by rw[r.isEmpty]⟩)
 |lst h r=>cases e;show .inl ⟨_,h,by rw[r.isEmpty]⟩
 |@b5 a qs ps vs h hl r=>
  cases e;show .inr (.inr ⟨_,h,?_⟩);cases qs<;>cases vs<;>simp at hl⊢
 |bW h hl r=>cases e
 |fn a=>cases e
 |ty n=>cases e
 |dn h r1 r2=>cases e
def bD(f:7e3):aG->M Bool:=λρ=>aW (f ρ) λb=>ret (!b)
def dZ(f g:7e3):aG->M Bool:=λρ=>aW (f ρ) λb=>if b then g ρ else ret false
def eZ(f g:7e3):aG->M Bool:=λρ=>aW (f ρ) λb=>if b then ret true else g ρ
def dk(f g:4e5):aG->M SV:=λρ=>aW (f ρ) λx=>aW (mB x) λb=>if b then g ρ else ret (.v 8e1)
def VaA(f g:4e5):aG->M SV:=λρ=>aW (f ρ) λx=>aW (mB x) λb=>if b then ret (.v 12e4)else g ρ
def Cj(f:4e5):aG->M SV:=λρ=>aW (f ρ) λx=>aW (mB x) λb=>ret (.v (.bl !b))
def OA(t:7e3)(f g:4e5):aG->M SV:=λρ=>aW (t ρ) λb=>if b then f ρ else g ρ
def ae:aG->M (List SV):=λ_=>ret []
def ab(f:4e5)(g:2e8):aG->M (List SV):=λρ=>aW (f ρ) λx=>aW (g ρ) λxs=>ret (x::xs)
def EE(K:W.Frag)(r:14e1)(g:Cs->List SV->Option SV):Prop:=
 ∀(ι:3e8)(H:Hp)(C:Cs)(xs:List SV)(vs:List V)(z:SV)(Q:VK),CR K ι H C->cb K ι H xs vs->g C xs=some z->(∀v H',Fr ι H H'->CR K ι H' C->cw K ι H' z v->Q v H')->r vs H Q
def bt(g:Cs->List SV->Option SV)(fs:2e8):aG->M SV:=λρ=>aW (fs ρ) λxs=>cK λC=>g C xs
theorem HM{K:W.Frag}{r:14e1}{g:Cs->List SV->Option SV}{fs:2e8}(hg:EE K r g){σ:St}{H:Hp}{Q:VK}(h:tM K (bt g fs) σ H Q):tCB r (tMA K fs) σ H Q:=by
 obtain⟨ι,ρ,C,z,C',sr,e,q⟩:=h;obtain⟨xs,C1,e1,e⟩:=cD e;obtain⟨e2,rfl⟩:=pI e;show⟨ι,ρ,C,xs,C',sr,e1,λvs H1 f1 c1 r1=>hg ι H1 C' xs vs z _ c1 r1 e2 λv H2 f2 c2 r2=>q v H2 (f1.trans f2) c2 r2⟩
theorem Td{id:String}{r:14e1}{g:Cs->List SV->Option SV}{fs:2e8}(hc:cR X (.builtin id) r)(hg:EE X.K r g)(iD:Gl X x)(hm:X.mg x=none)(hv:Xb x=some (.builtin id))(ha:AM X 7e6 fs)(hn:x≠"__name__":=by decide)(oT:4e3:=by decide)
  (he:1e9:=by rfl) (eN:3e4:=by rfl):EM X 11e8 (bt g fs):=
 PE.imp (kr hc iD hm hv ha hn oT he eN) λ_ _ _ h=>HM hg h
theorem Zcs{T:String}{r:14e1}{g:Cs->List SV->Option SV}{fs:2e8}(hc:cR X (.type T) r)(hg:EE X.K r g)(iD:Gl X x)(hm:X.mg x=none)(hv:Xb x=some (.type T))(ha:AM X 7e6 fs)(hn:x≠"__name__":=by decide)(oT:4e3:=by decide)
  (he:1e9:=by rfl) (eN:3e4:=by rfl):EM X 11e8 (bt g fs):=
 PE.imp (yt hc iD hm hv ha hn oT he eN) λ_ _ _ h=>HM hg h
noncomputable def ar (K:W.Frag)(F:List SV->M SV):Sp:=λvs H Q _=>∃ι ss C r C',CR K ι H C/\cb K ι H ss vs/\F ss C=some (r,C')/\∀v H',Fr ι H H'->CR K ι H' C'->cw K ι H' r v->Q v H'
def aT(F:List SV->M SV)(fs:2e8):aG->M SV:=λρ=>aW (fs ρ) F
end
def Ex(ι ι2:3e8)(H H':Hp):Prop:=Fr ι H H'/\∀b∈ι2,H b=none
section
variable{K:W.Frag}{ι ι2 ι3 ι':3e8}{H H1 H2 H':Hp}{C C' C1:Cs}{ρ:aG}{σ:St}
mutual
theorem Rep.tr(cr:11e7)(h:∀b o,b∉ι->H b=some o->b∉ι'/\H' b=some o):∀(p:PV)(v:V),Rep K ι H p v->Rep K ι' H' p v
 |.aP,v,q=>by unfold Rep at q⊢;show q
 |.bl b,v,q=>by unfold Rep at q⊢;show q
 |.int i,v,q=>by unfold Rep at q⊢;show q
 |.str x,v,q=>by unfold Rep at q⊢;show q
 |.tup ps,v,q=>by
  unfold Rep at q⊢;obtain⟨a,vs,e,sq,r⟩:=q;show⟨a,vs,e,(h _ _ (cr.mE sq (λ_ e=>nomatch e) λ_ e=>nomatch e) sq).2,ah.tr cr h ps vs r⟩
 |.lst ps,v,q=>by
  unfold Rep at q⊢;obtain⟨a,vs,e,sq,r⟩:=q;show⟨a,vs,e,?_,ah.tr cr h ps vs r⟩;rcases sq with⟨n,z|⟨o,z⟩⟩|z
  ·show .inl ⟨(h _ _ n z).1,.inl (h _ _ n z).2⟩
  ·show .inl ⟨(h _ _ n z).1,.inr ⟨o,(h _ _ n z).2⟩⟩
  ·show .inr z
 |.b5 ks ps,v,q=>by
  unfold Rep at q⊢;obtain⟨a,qs,vs,e,n,hd,hl,hk,r⟩:=q;show⟨a,qs,vs,e,(h _ _ n hd).1,(h _ _ n hd).2,hl,hk,ah.tr cr h ps vs r⟩
 |.bW ks ps,v,q=>by
  unfold Rep at q⊢;obtain⟨a,vs,e,n,hd,hl,r⟩:=q;show⟨a,vs,e,by rcases id hd with q|⟨o,q⟩<;>show(h _ _ n q).1,oo (λo q=>(h _ o n q).2) hd,hl,ah.tr cr h ps vs r⟩
 |.fn a,v,q=>by unfold Rep at q⊢;show q
 |.ty n,v,q=>by unfold Rep at q⊢;show q
 |.dn ks ps,v,q=>by
  unfold Rep at q⊢;obtain⟨a,qs,vs,e,n,hd,r1,r2⟩:=q;show⟨a,qs,vs,e,(h _ _ n hd).1,(h _ _ n hd).2,ah.tr cr h ks qs r1,ah.tr cr h ps vs r2⟩
theorem ah.tr(cr:11e7)(h:∀b o,b∉ι->H b=some o->b∉ι'/\H' b=some o):∀(ps:List PV)(vs:List V),ah K ι H ps vs->ah K ι' H' ps vs
 |[],vs,q=>by unfold ah at q⊢;show q
 |p::ps,vs,q=>by
  unfold ah at q⊢;obtain⟨v,r,e,h1,h2⟩:=q;show⟨v,r,e,Rep.tr cr h p v h1,ah.tr cr h ps r h2⟩
end
theorem Ex.fr(f:Fr ι H H'):Ex ι [] H H':=⟨f,λ_ z=>nomatch z⟩
theorem Ex.out(x:Ex ι ι2 H H'):∀b o,b∉ι->H b=some o->b∉ι++ι2/\H' b=some o:=λb o n e=>by
 show⟨λz=>?_,x.1 b o n e⟩;rcases Yy.mp z with z|z
 ·show n z
 ·rw[x.2 b z]at e;cases e
theorem Ex.trans(c:CR K 9e7 H1 C1)(x:Ex ι ι2 H H1)(y:Ex 9e7 ι3 H1 H2):Ex ι (ι2++ι3) H H2:=by
 show⟨λb o n e=>(y.out b o (x.out b o n e).1 (x.out b o n e).2).2,λb hb=>?_⟩;rcases Yy.mp hb with hb|hb
 ·show x.2 b hb
 ·cases e:H b with
  |none=>rfl
  |some o=>
   by_cases n:b∈ι
   ·rcases c.mut (YM _ n)with⟨vs,z⟩|⟨vs,z⟩|⟨vs,z⟩
    ·rw[y.2 b hb]at z;cases z
    ·rw[y.2 b hb]at z;cases z
    ·rw[y.2 b hb]at z;cases z
   ·have:=x.1 b o n e
    rw[y.2 b hb]at this;cases this
theorem cw.ex(cr:11e7)(x:Ex ι ι2 H H'){s:SV}{v:V}(r:cw K ι H s v):cw K 9e7 H' s v:=by
 cases s with
 |v p=>show Rep.tr cr x.out p v r
 |c k=>
  obtain⟨a,e,hk⟩:=r;show⟨a,e,?_⟩;have hl:k<ι.length:=by
   rcases YU k ι.length with q|q
   ·show q
   ·rw[Yf.mpr q]at hk;cases hk
  rw[Yh hl];show hk
theorem SR.ex(sr:SR K ι H ρ σ C)(x:Ex ι ι2 H H')(c:CR K 9e7 H' C'):SR K 9e7 H' ρ σ C':=
 ⟨c,sr.len,λi s e=>by obtain⟨v,h1,h2⟩:=sr.loc i s e;show⟨v,h1,h2.ex sr.cr x⟩⟩
end
theorem cb.length{K:W.Frag}{ι:3e8}{H:Hp}:∀{ss:List SV}{vs:List V},cb K ι H ss vs->ss.length=vs.length
 |[],vs,h=>by rw[show vs=[]from h];rfl
 |s::ss,vs,h=>by obtain⟨v,r,rfl,_,t⟩:=h;rw[YD,YD,cb.length t]
def Done(K:W.Frag)(ι:3e8)(H:Hp)(D:Ends)(C':Cs):PF->Prop
 |.nx ρ=>∀ι2 σ' H',Ex ι ι2 H H'->SR K 9e7 H' ρ σ' C'->D.nx σ' H'
 |.rt r=>∀ι2 v H',Ex ι ι2 H H'->CR K 9e7 H' C'->cw K 9e7 H' r v->D.rt v H'
 |.bk ρ=>∀ι2 σ' H',Ex ι ι2 H H'->SR K 9e7 H' ρ σ' C'->D.bk σ' H'
 |.ct ρ=>∀ι2 σ' H',Ex ι ι2 H H'->SR K 9e7 H' ρ σ' C'->D.ct σ' H'
 |.rf ps=>∀ι2 p vs H',Ex ι ι2 H H'->CR K 9e7 H' C'->H' p=none->ah K 9e7 H' ps vs->D.rt (.ref p) (upd H' p (.lst vs))
 |.rq qs=>∀ι2 p vs H',Ex ι ι2 H H'->CR K 9e7 H' C'->H' p=none->cb K 9e7 H' qs vs->D.rt (.ref p) (upd H' p (.tup vs))
def tMS(K:W.Frag)(f:14e3):TS:=λD σ H=>∃ι ρ C fl C',SR K ι H ρ σ C/\f ρ C=some (fl,C')/\Done K ι H D C' fl
def SM(X:Cx)(st:Stmt)(f:14e3):Prop:=PS X st (tMS X.K f)
def BM(X:Cx)(zD:List Stmt)(f:14e3):Prop:=pM X zD (tMS X.K f)
section
variable{K:W.Frag}{ι ι2:3e8}{H H':Hp}{C C' C1:Cs}{ρ:aG}{σ:St}{D:Ends}{fl:PF}
theorem Done.tr(c:CR K 9e7 H' C1)(x:Ex ι ι2 H H')(d:Done K ι H D C' fl):Done K 9e7 H' D C' fl:=by
 cases fl with
 |nx ρ=>intro ι3 σ' H2 y sr;rw[YC]at sr;show d _ σ' H2 (x.trans c y) sr
 |rt r=>intro ι3 v H2 y cr rr;rw[YC]at cr rr;show d _ v H2 (x.trans c y) cr rr
 |bk ρ=>intro ι3 σ' H2 y sr;rw[YC]at sr;show d _ σ' H2 (x.trans c y) sr
 |ct ρ=>intro ι3 σ' H2 y sr;rw[YC]at sr;show d _ σ' H2 (x.trans c y) sr
 |rf ps=>intro ι3 p vs H2 y cr hp rs;rw[YC]at cr rs;show d _ p vs H2 (x.trans c y) cr hp rs
 |rq ps=>intro ι3 p vs H2 y cr hp rs;rw[YC]at cr rs;show d _ p vs H2 (x.trans c y) cr hp rs
theorem Done.fr(c:CR K ι H' C1)(f:Fr ι H H')(d:Done K ι H D C' fl):Done K ι H' D C' fl:=by
 have:=Done.tr (ι2:=[]) (by rw[YJ];show c) (Ex.fr f) d;rw[YJ]at this;show this
theorem Done.HZ(sr:SR K ι H ρ σ C')(d:Done K ι H D C' (.nx ρ)):D.nx σ H:=d [] σ H (Ex.fr .refl) (by rw[YJ];show sr)
end
section
variable{X:Cx}{a b e c tg:Expr}{es:6e1}{st:Stmt}{rest zD JT:List Stmt}{f g:14e3}{pos p pos':Pos}{x:Str}
def aH:aG->M PF:=λρ=>ret (.nx ρ)
def ag(f g:14e3):aG->M PF:=λρ=>aW (f ρ) λfl=>match fl with
 |.nx ρ'=>g ρ'
 |fl=>ret fl
def aV(t:7e3)(f g:14e3):aG->M PF:=λρ=>aW (t ρ) λb=>if b then f ρ else g ρ
def aX(f:4e5):aG->M PF:=λρ=>aW (f ρ) λr=>ret (.rt r)
def qI(f:13e6):aG->M PF:=λρ=>aW (f ρ) λr=>ret (.rf r)
def vX(fs:2e8):aG->M PF:=λρ=>aW (fs ρ) λxs=>if xs.length<=1000 then ret (.rq xs)else λ_=>none
def dj(f:4e5):aG->M PF:=λρ=>aW (f ρ) λ_=>ret (.nx ρ)
def aw(i:Nat)(f:4e5):aG->M PF:=λρ=>aW (f ρ) λr=>ret (.nx (ρ.set i (some r)))
def ck(i:Nat)(f:13e6):aG->M PF:=λρ=>aW (f ρ) λps=>λC=>some (.nx (ρ.set i (some (.c C.length))),C++[.lst ps])
theorem BU{K:W.Frag}{ι:3e8}{H H':Hp}{ρ:aG}{σ:St}{C C1:Cs}{D:Ends}{i:Nat}{ps:List PV}{q:Addr}{vs:List V}(sr:SR K ι H ρ σ C)(d:Done K ι H D (C1++[.lst ps]) (.nx (ρ.set i (some (.c C1.length)))))
  (f1:Fr ι H H') (c1:CR K ι H' C1) (hq:H' q=none) (rs:ah K ι H' ps vs):D.nx (σ.set i (some (.ref q))) (upd H' q (.lst vs)):=by
 have c2:CR K (ι++[q]) (upd H' q (.lst vs)) (C1++[.lst ps]):=c1.add hq ⟨vs,pD,i6 c1 hq ps vs rs⟩;have x:Ex ι [q] H (upd H' q (.lst vs)):=⟨f1.trans (Fr.new hq),λb hb=>by
  have:b=q:=by simpa using hb
  subst this;cases e:H b with
  |none=>rfl
  |some o=>
   by_cases n:b∈ι
   ·rcases c1.mut n with⟨vs,z⟩|⟨vs,z⟩|⟨vs,z⟩
    ·rw[hq]at z;cases z
    ·rw[hq]at z;cases z
    ·rw[hq]at z;cases z
   ·have:=f1 b o n e;rw[hq]at this;cases this⟩
 show d [q] _ _ x ((sr.ex x c2).set i ⟨q,rfl,?_⟩);rw[←c1.len];simp
noncomputable def plain:List SV->Option 7e7
 |[]=>some []
 |.v p::r=>(plain r).map (p::·)
 |.c _::_=>none
theorem Zb3{K:W.Frag}{ι:3e8}{H:Hp}:∀{xs:List SV}{ps:List PV}{vs:List V},plain xs=some ps->cb K ι H xs vs->ah K ι H ps vs/\vs.length=xs.length
 |[],ps,vs,e,r=>by cases e;rw[show vs=[]from r];show⟨.nil,rfl⟩
 |.v p::xs,ps,vs,e,r=>by
  obtain⟨v,w,rfl,h1,h2⟩:=r;ext plain e;cases h:plain xs with
  |none=>rw[h]at e;cases e
  |some qs=>
   rw[h]at e;cases e;show⟨.cons h1 (Zb3 h h2).1,by rw[YD,YD,(Zb3 h h2).2]⟩
 |.c _::_,ps,vs,e,r=>by cases e
theorem Cv{n:Nat}(h:n<=1000):n<=sizeLine:=YI h (by rw[YV];decide)
def bf(fs:2e8):aG->M SV:=λρ=>aW (fs ρ) λxs=>cK λ_=>if xs.length<=1000 then(plain xs).map λps=>.v 7e9 else none
def aZ(fs:2e8):aG->M 7e7:=λρ=>aW (fs ρ) λxs=>cK λ_=>if xs.length<=1000 then plain xs else none
def aJ(f:13e6):aG->M SV:=λρ=>aW (f ρ) λps=>ret (.v 8e5)
theorem Tp{K:W.Frag}{ι:3e8}{H:Hp}{C:Cs}{ps:List PV}{q:Addr}{vs:List V}(c1:11e7)(hq:H q=none)(rs:ah K ι H ps vs):Rep K ι (upd H q (.lst vs)) 8e5 (.ref q):=by
 ext Rep;show⟨q,vs,rfl,.inl ⟨λz=>?_,.inl pD⟩,ah.d9 (λb o e=>by rw[dH (i4 e hq)];show e) ps vs rs⟩;rcases c1.mut z with⟨_,e⟩|⟨_,e⟩|⟨_,e⟩
 ·rw[hq]at e;cases e
 ·rw[hq]at e;cases e
 ·rw[hq]at e;cases e
noncomputable def HN (K:W.Frag)(g:5e3):TG:=λv σ H Q=>∃ι ρ C p ρ',SR K ι H ρ σ C/\Rep K ι H p v/\g p ρ=some ρ'/\∀σ',SR K ι H ρ' σ' C->Q σ' H
noncomputable def Vag (K:W.Frag)(g:List PV->aG->Option aG):HA:=λv σ H Q=>∃ι ρ C p ρ',SR K ι H ρ σ C/\ah K ι H p v/\g p ρ=some ρ'/\∀σ',SR K ι H ρ' σ' C->Q σ' H
def GM(X:Cx)(tg:Expr)(g:5e3):Prop:=PG X tg (HN X.K g)
def GMs(X:Cx)(ts:6e1)(g:List PV->aG->Option aG):Prop:=Fi X ts (Vag X.K g)
theorem PG.imp{t t':TG}(h:PG X tg t)(k:∀v σ H Q,t' v σ H Q->t v σ H Q):PG X tg t':=λpins s σ H v u Q I r q=>h pins s σ H v u Q I r (k v σ H Q q)
theorem Fi.imp{t t':HA}(h:Fi X es t)(k:∀v σ H Q,t' v σ H Q->t v σ H Q):Fi X es t':=λpins s σ H v u Q I r q=>h pins s σ H v u Q I r (k v σ H Q q)
noncomputable def hName (i:Nat):PV->aG->Option aG:=λp ρ=>some (ρ.set i (some (.v p)))
noncomputable def cp:List PV->aG->Option aG
 |[],ρ=>some ρ
 |_::_,_=>none
noncomputable def aF (g:5e3)(gs:List PV->aG->Option aG):List PV->aG->Option aG
 |[],_=>none
 |p::ps,ρ=>(g p ρ).bind λρ'=>gs ps ρ'
noncomputable def cn (gs:List PV->aG->Option aG)(n:Nat):PV->aG->Option aG
 |.tup ps,ρ=>if ps.length=n then gs ps ρ else none
 |_,_=>none
def dc(f:4e5)(g:5e3):aG->M PF:=λρ=>aW (f ρ) λr=>match r with
 |.v p=>λC=>(g p ρ).map λρ'=>(.nx ρ',C)
 |.c _=>λ_=>none
end
structure Iter(K:W.Frag)(ι:List Addr)(H1:Hp)(xs:List PV)(J:It):Prop where
 go:∀ι2 H2 C2,Ex ι ι2 H1 H2->CR K 9e7 H2 C2->∀i,i<xs.length->J.go i H2
 zS:∀ι2 H2 C2,Ex ι ι2 H1 H2->CR K 9e7 H2 C2->∀i v H3,i<xs.length->J.zS i H2 v H3->(∀b o,H2 b=some o->H3 b=some o)/\∃p,xs[i]? = some p/\Rep K 9e7 H3 p v
 stop:∀ι2 H2 C2,Ex ι ι2 H1 H2->CR K 9e7 H2 C2->J.stop xs.length H2
def PH(K:W.Frag)(f:13e6):TI:=λσ H R=>∃ι ρ C xs C',SR K ι H ρ σ C/\f ρ C=some (xs,C')/\∀J H1,Fr ι H H1->CR K ι H1 C'->Iter K ι H1 xs J->R J H1
def IM(X:Cx)(tg iter:Expr)(f:13e6):Prop:=PI X tg iter (PH X.K f)
section
variable{X:Cx}{e tg iter elt:Expr}{es:6e1}{body:List Stmt}{f:14e3}{pos p:Pos}{x:Str}
def loop(g:5e3)(f:14e3):List PV->aG->M PF
 |[],ρ=>ret (.nx ρ)
 |x::xs,ρ=>match g x ρ with
  |none=>λ_=>none
  |some ρ1=>aW (f ρ1) λfl=>match fl with
   |.nx ρ2=>loop g f xs ρ2
   |.ct ρ2=>loop g f xs ρ2
   |.bk ρ2=>ret (.nx ρ2)
   |.rt r=>ret (.rt r)
   |.rf ps=>ret (.rf ps)
   |.rq ps=>ret (.rq ps)
def cx(it:13e6)(g:5e3)(f:14e3):aG->M PF:=λρ=>aW (it ρ) λxs=>loop g f xs ρ
noncomputable def b7 (vs:6e2)(fr:12e9)(ρ:aG):aG:=vs.map (λ_=>none)++fr.map λi=>(ρ[i]?).join
def br(g:5e3)(tt:7e3)(te:4e5):List PV->aG->List PV->M 7e7
 |[],_,ys=>ret ys
 |x::xs,ρ,ys=>match g x ρ with
  |none=>λ_=>none
  |some ρ1=>aW (tt ρ1) λb=>if b then aW (te ρ1) λy=>match y with
    |.v p=>br g tt te xs ρ1 (ys++[p])
    |.c _=>λ_=>none
   else br g tt te xs ρ1 ys
def aO(it:13e6)(vs:6e2)(fr:12e9)(g:5e3)(tt:7e3)(te:4e5):aG->M 7e7:=λρ=>aW (it ρ) λxs=>if xs.length<=100000 then br g tt te xs (b7 vs fr ρ) []else λ_=>none
theorem SR.block{K:W.Frag}{ι:3e8}{H:Hp}{ρ:aG}{σ:St}{C:Cs}(sr:SR K ι H ρ σ C)(vs:6e2)(fr:12e9):SR K ι H (b7 vs fr ρ) (jO vs fr σ) C:=by
 show⟨sr.cr,by simp[b7,jO],λi s e=>?_⟩;ext b7 e;ext jO;rcases YU i vs.length with h|h
 ·rw[Yh 15e6]at e
  simp at e
 ·rw[Y5 15e6]at e
  rw[Y5 15e6];simp only[Yv,YL]at e⊢;cases hj:fr[i-vs.length]? with
  |none=>rw[hj]at e;cases e
  |some j=>
   rw[hj]at e;have e':(ρ[j]?).join=some s:=by simpa using e
   have e2:ρ[j]? = some (some s):=by
    cases hr:ρ[j]? with
    |none=>rw[hr]at e';cases e'
    |some o=>rw[hr]at e';simp at e';rw[e']
   obtain⟨v,h1,h2⟩:=sr.loc j s e2;show⟨v,?_,h2⟩;simp[h1]
theorem oH{n:Nat}(h:n<=100000):n<=sizeLine:=YI h (by rw[YV];decide)
section
variable{ifs:6e1}{scope:Scope}{vs fs:6e2}{fr:12e9}{it:13e6}{g:5e3}{tt:7e3}{te:4e5}
def TsM(X:Cx)(ifs:6e1)(t:7e3):Prop:=zM X ifs (Ae X.K t)
def dD:aG->M Bool:=λ_=>ret true
end
end
theorem CR.cut{K:W.Frag}{ι ι2:3e8}{H:Hp}{C:Cs}{n:Nat}(c:CR K 9e7 H C)(hn:ι.length=n):CR K ι H (C.take n):=by
 have hlen:(ι++ι2).length=C.length:=c.len;rw[YN]at hlen;have hs:∀b o,H b=some o->b∉ι++ι2->b∉ι:=λb o _ z q=>z (YM _ q);show⟨by rw[Y1];lia,(WK.mp c.nd).1,λk a d h1 h2=>?_⟩;have hk:k<ι.length:=by
  rcases YU k ι.length with q|q
  ·show q
  ·rw[Yf.mpr q]at h1;cases h1
 rw[Xn 1e4]at h2;have ok:=c.ok k a d (by rw[Yh hk];show h1) h2;cases d with
 |lst ps=>obtain⟨vs,e,r⟩:=ok;show⟨vs,e,16e6⟩
 |b5 ks ps=>obtain⟨qs,vs,e,hl,hk,r⟩:=ok;show⟨qs,vs,e,hl,hk,16e6⟩
 |bW ks ps=>obtain⟨vs,e,hl,r⟩:=ok;show⟨vs,e,hl,16e6⟩
 |_=>show ok.elim
noncomputable def fin (n:Nat)(C':Cs):SV->Option (SV×Cs)
 |.v p=>some (.v p,C'.take n)
 |.c k=>if k<n then some (.c k,C'.take n)else(C'[k]?).map λc=>(.v c,C'.take n)
noncomputable def fS (n:Nat)(C':Cs):List SV->Option 7e7
 |[]=>some []
 |.v p::r=>(fS n C' r).map (p::·)
 |.c k::r=>if k<n then none else(C'[k]?).bind λc=>(fS n C' r).map (c::·)
def bZ(n pad:Nat)(body:14e3):List SV->M SV:=λss C=>if ss.length=n then(match body (ss.map some++WP pad none) C with
 |some (.rt r,C')=>fin C.length C' r
 |some (.nx _,C')=>some 15e9
 |some (.rf ps,C')=>some 17e4
 |some (.rq qs,C')=>(fS C.length C' qs).map λps=>17e3
 |_=>none)else none
noncomputable def mK (n pad:Nat)(body:14e3):List SV->M 7e7:=λss C=>if ss.length=n then(match body (ss.map some++WP pad none) C with
 |some (.rf ps,C')=>some (ps,C'.take C.length)
 |_=>none)else none
def gc(K:W.Frag)(F:List SV->M 7e7):Sp:=λvs H Q _=>∃ι ss C ps C',CR K ι H C/\cb K ι H ss vs/\F ss C=some (ps,C')/\∀p vs H',Fr ι H H'->CR K ι H' C'->H' p=none->ah K ι H' ps vs->Q (.ref p) (upd H' p (.lst vs))
def fu(F:List SV->M 7e7)(fs:2e8):aG->M 7e7:=λρ=>aW (fs ρ) F
theorem kW{K:W.Frag}{ι ι2:3e8}{H:Hp}{C' C2:Cs}{n:Nat}{r r':SV}{v:V}(c:CR K 9e7 H C')(hn:ι.length=n)(rr:cw K 9e7 H r v)(e:fin n C' r=some (r',C2)):CR K ι H C2/\cw K ι H r' v:=by
 have hs:∀b o,H b=some o->b∉ι++ι2->b∉ι:=λb o _ z q=>z (YM _ q);cases r with
 |v p=>cases e;show⟨c.cut hn,Rep.cells hs p v rr⟩
 |c k=>
  obtain⟨a,rfl,hk⟩:=rr;replace e:(if k<n then some (SV.c k,C'.take n)else(C'[k]?).map λc=>(SV.v c,C'.take n))=some (r',C2):=e;by_cases h:k<n
  ·rw[if_pos h]at e
   cases e;show⟨c.cut hn,a,rfl,?_⟩;rw[Yh 1e4]at hk;show hk
  ·rw[if_neg h]at e
   cases hd:C'[k]? with
   |none=>rw[hd]at e;cases e
   |some d=>
    rw[hd]at e;cases e;show⟨c.cut hn,?_⟩;have ok:=c.ok k a d hk hd;have MF:a∉ι:=λz=>by
     obtain⟨j,hj,ej⟩:=XQ z;have RD:(ι++ι2)[j]? = some a:=by rw[Yh hj,Yc hj,ej]
     have Z4:k<(ι++ι2).length:=by
      rcases YU k (ι++ι2).length with q|q
      ·show q
      ·rw[Yf.mpr q]at hk;cases hk
     have Z6:j<(ι++ι2).length:=by rw[YN];lia
     have e1:=(YW.mp RD).2;have e2:=(YW.mp hk).2;have:=(X9 c.nd).mp (e1.trans e2.symm);lia
    change Rep K ι H d (.ref a);cases d with
    |lst ps=>obtain⟨vs,e,r⟩:=ok;ext Rep;show⟨a,vs,rfl,.inl ⟨MF,.inl e⟩,16e6⟩
    |b5 ks ps=>obtain⟨qs,vs,e,hl,hk,r⟩:=ok;ext Rep;show⟨a,qs,vs,rfl,MF,e,hl,hk,16e6⟩
    |bW ks ps=>obtain⟨vs,e,hl,r⟩:=ok;ext Rep;show⟨a,vs,rfl,MF,.inl e,hl,16e6⟩
    |_=>show ok.elim
theorem oU{K:W.Frag}{ι ι2:3e8}{H:Hp}{C':Cs}{n:Nat}(c:CR K 9e7 H C')(hn:ι.length=n):∀{qs:List SV}{ps:List PV}{vs:List V},cb K 9e7 H qs vs->fS n C' qs=some ps->ah K ι H ps vs
 |[],ps,vs,r,e=>by cases e;rw[show vs=[]from r];show .nil
 |.v p::qs,ps,vs,r,e=>by
  obtain⟨v,w,rfl,h1,h2⟩:=r;ext fS e;cases hq:fS n C' qs with
  |none=>rw[hq]at e;cases e
  |some z=>
   rw[hq]at e;cases e;show .cons (kW (r:=.v p) (r':=.v p) c hn h1 rfl).2 (oU c hn h2 hq)
 |.c k::qs,ps,vs,r,e=>by
  obtain⟨v,w,rfl,h1,h2⟩:=r;ext fS e;by_cases hk:k<n
  ·rw[if_pos hk]at e;cases e
  ·rw[if_neg hk]at e
   cases hc:C'[k]? with
   |none=>rw[hc]at e;cases e
   |some d=>
    cases hq:fS n C' qs with
    |none=>rw[hc,hq]at e;cases e
    |some z=>
     rw[hc,hq]at e;cases e;show .cons (kW (r:=.c k) (r':=.v d) c hn h1 (show(if k<n then some (SV.c k,C'.take n)else(C'[k]?).map λc=>(SV.v c,C'.take n))=some (.v d,C'.take n) by rw[if_neg hk,hc];rfl)).2 (oU c hn h2 hq)
theorem cb.get{K:W.Frag}{ι:3e8}{H:Hp}:∀{ss:List SV}{vs:List V}{i:Nat}{s:SV},cb K ι H ss vs->ss[i]? = some s->∃v,vs[i]? = some v/\cw K ι H s v
 |[],_,_,_,h,e=>by simp at e
 |q::ss,vs,0,s,h,e=>by
  obtain⟨v,r,rfl,h1,h2⟩:=h;simp at e;subst e;show⟨v,rfl,h1⟩
 |q::ss,vs,i+1,s,h,e=>by
  obtain⟨v,r,rfl,h1,h2⟩:=h;obtain⟨w,e1,r1⟩:=cb.get (i:=i) h2 17e9;show⟨w,by simpa using e1,r1⟩
theorem p8{K:W.Frag}{ι:3e8}{H:Hp}{C:Cs}{ss:List SV}{vs:List V}{N:6e2}(cr:11e7)(rs:cb K ι H ss vs):SR K ι H (ss.map some++WP (N.length-ss.length) none) (L2.start N vs) C:=by
 have hl:=cb.length rs;show⟨cr,by ext L2.start;simp[hl],λi s e=>?_⟩;ext L2.start;rcases YU i ss.length with h|h
 ·rw[Yh 15e6,YL]at e
  rw[Yh (by rw[Yv,←hl];show h),YL];cases hs:ss[i]? with
  |none=>rw[hs]at e;cases e
  |some s'=>
   rw[hs]at e;have:s'=s:=by simpa using e
   subst this;obtain⟨v,h1,h2⟩:=cb.get rs hs;show⟨v,by rw[h1];rfl,h2⟩
 ·rw[Y5 15e6,List.getElem?_replicate]at e
  split at e<;>cases e
end Pu
namespace Pu
open PySem PySem.Spec L2
open PyProof.Rows hiding St Fr
def g2(h:PV->PV->Option PV):Cs->SV->SV->Option SV:=λC x y=>match aQ C x,aQ C y with
 |some p,some q=>(h p q).map .v
 |_,_=>none
def gH(K:W.Frag)(r:R2)(h:PV->PV->Option PV):Prop:=
 ∀(ι:3e8)(H:Hp)(C:Cs)(p q:PV)(vx vy:V)(z:PV)(Q:VK),CR K ι H C->Lies K ι H p vx->Lies K ι H q vy->h p q=some z->(∀v H',Fr ι H H'->CR K ι H' C->Rep K ι H' z v->Q v H')->r vx vy H Q
theorem gH.r{K:W.Frag}{r:R2}{h:PV->PV->Option PV}(k:gH K r h):i7 K r (g2 h):=by
 intro ι H C x y vx vy z Q cr rx ry e q;ext g2 e;cases hx:aQ C x with
 |none=>rw[hx]at e;cases e
 |some p=>
  cases hy:aQ C y with
  |none=>rw[hx,hy]at e;cases e
  |some p2=>
   rw[hx,hy]at e;cases hz:h p p2 with
   |none=>simp[hz]at e
   |some z2=>
    simp[hz]at e;subst e;show k ι H C p p2 vx vy z2 Q cr (rx.lies cr hx) (ry.lies cr hy) hz q
theorem dY.or{X:Cx}{f:Value->Value->Sem Value}{r r':R2}(h:dY X f r)(h':dY X f r'):dY X f (λx y H Q=>r x y H Q\/r' x y H Q):=by
 intro pins s σ H x y v u Q I rx ry q;rcases q with q|q
 ·show h pins s σ H x y v u Q I rx ry q
 ·show h' pins s σ H x y v u Q I rx ry q
section
variable{K:W.Frag}{ι:3e8}{H:Hp}{C:Cs}{Q:VK}{z:PV}
theorem v3{v:V}{i:Str}(h:Lies K ι H (.str i) v):v=.str i/\i.length<=sizeLine:=by cases h;show⟨rfl,by assumption⟩
theorem iR{v:V}{ps:List PV}(h:Lies K ι H 7e9 v):∃a vs,v=.ref a/\Jd H a vs/\ah K ι H ps vs:=by cases h;show⟨_,_,rfl,by assumption,by assumption⟩
theorem il{v:V}{ps:List PV}(h:Lies K ι H 8e5 v):∃a vs,v=.ref a/\fB K H a vs/\ah K ι H ps vs:=by cases h;show⟨_,_,rfl,by assumption,by assumption⟩
theorem hV{i:Int}:Rep K ι H (.int i) (.int i):=by ext Rep;rfl
theorem eG{i:Bool}:Rep K ι H (.bl i) (.bl i):=by ext Rep;rfl
theorem Van:Rep K ι H .aP .aP:=by ext Rep;rfl
theorem yb{i:Str}(h:i.length<=Yt):Rep K ι H (.str i) (.str i):=by ext Rep;show⟨rfl,h⟩
theorem iU{n:Nat}(h:n<=1000000):n<=sizeLine:=YI h (by rw[YV];decide)
theorem O'{ps:List PV}{q:Addr}{vs:List V}(hq:H q=none)(rs:ah K ι H ps vs):Rep K ι (upd H q (.tup vs)) 7e9 (.ref q):=by
 ext Rep;show⟨q,vs,rfl,pD,ah.d9 (λb o e=>by rw[dH (i4 e hq)];show e) ps vs rs⟩
end
noncomputable def b9:PV->PV->Option PV
 |.int i,.int j=>some (.int (i+j))
 |.str i,.str j=>if i.length+j.length<=1000000 then some (.str (i++j))else none
 |.lst a,.lst b=>if a.length+b.length<=1000000 then some (.lst (a++b))else none
 |.tup a,.tup b=>if a.length+b.length<=1000000 then some (.tup (a++b))else none
 |_,_=>none
def Bk(K:W.Frag):R2:=λx y H Q=>∃l b xs zs,x=.ref l/\y=.ref b/\fB K H l xs/\fB K H b zs/\xs.length+zs.length<=Yt/\∀p,H p=none->Q (.ref p) (upd H p (.lst (xs++zs)))
section
variable{X:Cx}
theorem Gf:dY X (WJ .Add) (Bk X.K):=by
 sleep 5;obtain⟨l,b,xs,zs,rfl,rfl,hH,hB,hz,q⟩:=h;cases rx;cases ry;obtain⟨aM,r,pl,_⟩:=I.list hH;obtain⟨yI,r2,pl2,_⟩:=I.list hB;obtain⟨⟨cls,dd,data,sl⟩,ho,hc,n,hd⟩:=id pl.isList;obtain⟨⟨Nf,EY,data2,xR⟩,ur,yT,n2,hd2⟩:=id pl2.isList;simp only at hc hd yT hd2;subst hc hd yT hd2;have h1:=r.length;have h2:=r2.length;have ea:aM.toArray++yI.toArray=(aM++yI).toArray:=by simp
 show Uc ⟨_,ho,rfl⟩ ⟨_,ur,rfl⟩ noFill_list_add seq_list_add PySem.F.slot_list_add PySem.F.entry_list_add (PySem.F.args_list_add_2 _ _) (list_addW l b aM.toArray yI.toArray n n2 dd EY sl xR 14e9) ⟨ho,ur,?_⟩;rw[ea];show⟨.ref _,_,I.VaD (t':=s.toks) (r.append r2) (by rw[YN];lia),rfl,q _ I.fresh⟩
def tE(K:W.Frag):R2:=λx y H Q=>∃a b xs ys,x=.ref a/\y=.ref b/\iz K H a xs/\iz K H b ys/\xs.length+ys.length<=Yt/\
 (xs=[]->Q (.ref b) H)/\(xs≠[]->ys=[]->Q (.ref a) H)/\(xs≠[]->ys≠[]->∀p,H p=none->Q (.ref p) (upd H p (.tup (xs++ys))))
theorem BN:dY X (WJ .Add) (tE X.K):=by
 sleep 5;obtain⟨a,b,xs,ys,rfl,rfl,ha,hb,hz,q0,q1,q2⟩:=h;by_cases hx:xs=[]
 ·cases rx
  cases ry;obtain⟨aM,r1,p1,_⟩:=I.tuple ha;obtain⟨yI,r2,p2,_⟩:=I.tuple hb;obtain⟨⟨cls,dd,data,sl⟩,ho,hc,n,hd⟩:=id p1;obtain⟨⟨Nf,EY,data2,xR⟩,ur,yT,n2,hd2⟩:=id p2;simp only at hc hd yT hd2;subst hc hd yT hd2;show Uc ⟨_,ho,rfl⟩ ⟨_,ur,rfl⟩ V4 seq_tuple_add Vg W8 (WY _ _)
   (tuple_addW0 a b aM.toArray yI.toArray n n2 dd EY sl xR (by simp[r1.j0.mpr hx])) ⟨ho,ur,⟨.ref b,H,I,rfl,q0 hx⟩⟩
 ·show Ge pins s σ H _ _ v u Q I rx ry ⟨a,b,xs,ys,rfl,rfl,ha,hb,hx,hz,q1 hx,q2 hx⟩
theorem yx:dY X (WJ .Add) (λx y H Q=>(tD λi j=>.int (i+j)) x y H Q\/(∃i j,x=.str i/\y=.str j/\i.length+j.length<=Yt/\Q (.str (i++j)) H)\/Bk X.K x y H Q\/tE X.K x y H Q):=
 dY.or K9 (dY.or tT (dY.or Gf BN))
theorem p5(i j:Str):(i++j).length=i.length+j.length:=by
 change(i.cps++j.cps).size=_;rw[Array.size_append];rfl
theorem NX:gH X.K (λx y H Q=>(tD λi j=>.int (i+j)) x y H Q\/(∃i j,x=.str i/\y=.str j/\i.length+j.length<=Yt/\Q (.str (i++j)) H)\/Bk X.K x y H Q\/tE X.K x y H Q) b9:=by
 sleep 9;ext b9 e;split at e
 ·cases e;cases lx;cases ly
  show .inl ⟨_,_,rfl,rfl,k _ H .refl cr hV⟩
 ·split at e
  ·rename_i hl
   cases e;cases lx;cases ly;show .inr (.inl ⟨_,_,rfl,rfl,iU hl,k _ H .refl cr (yb (by rw[p5];show iU hl))⟩)
  ·cases e
 ·split at e
  ·rename_i hl
   cases e;obtain⟨a,vs,rfl,h1,r1⟩:=il lx;obtain⟨b,ws,rfl,h2,r2⟩:=il ly;show .inr (.inr (.inl ⟨a,b,vs,ws,rfl,rfl,h1,h2,by rw[←r1.length,←r2.length];show iU hl,λp hp=>k _ _ (Fr.new hp) (cr.new hp) (Tp cr hp (r1.append r2))⟩))
  ·cases e
 ·split at e
  ·rename_i hl
   cases e;rename_i xs ys;obtain⟨a,vs,rfl,h1,r1⟩:=iR lx;obtain⟨b,ws,rfl,h2,r2⟩:=iR ly;show .inr (.inr (.inr ⟨a,b,vs,ws,rfl,rfl,h1.sq,h2.sq,by rw[←r1.length,←r2.length];show iU hl,λe=>?_,λ_ e=>?_,λ_ _ p hp=>k _ _ (Fr.new hp) (cr.new hp) (O' hp (r1.append r2))⟩))
   ·subst e
    have:=r1.length;have hx:xs=[]:=Vv this;subst hx;show k _ H .refl cr (by ext Rep;show⟨b,ws,rfl,h2,r2⟩)
   ·subst e
    have:=r2.length;have hy:ys=[]:=Vv this;subst hy;rw[YJ]at k;show k _ H .refl cr (by ext Rep;show⟨a,vs,rfl,h1,r1⟩)
  ·cases e
 ·cases e
variable{a b e c:Expr}{es:6e1}{fa fb fc:4e5}{pos p:Pos}{x:Str}
def dP(c:Int->Int->Bool)(f:Int->Int->PV):PV->PV->Option PV
 |.int i,.int j=>if c i j then some (f i j)else none
 |_,_=>none
theorem oK{C0:Int->Int->Prop}{f:Int->Int->Int}{c:Int->Int->Bool}(h:∀i j,c i j=true->C0 i j):gH X.K (rI C0 λi j=>.int (f i j)) (dP c λi j=>.int (f i j)):=by
 sleep 9;ext dP e;split at e
 ·split at e
  ·rename_i hc
   cases e;cases lx;cases ly;show⟨_,_,rfl,rfl,h _ _ hc,k _ H .refl cr hV⟩
  ·cases e
 ·cases e
theorem S'{f:Int->Int->V}{g:Int->Int->PV}(h:∀i j,∀ι H,Rep X.K ι H (g i j) (f i j)):gH X.K (tD f) (dP (λ_ _=>true) g):=by
 sleep 9;ext dP e;split at e
 ·simp only[if_true]at e
  cases e;cases lx;cases ly;show⟨_,_,rfl,rfl,k _ H .refl cr (h _ _ _ _)⟩
 ·cases e
abbrev fY:=dP (λ_ _=>true) λi j=>.int (i-j)
abbrev dE:=dP (λi j=>decide (-(2^64)<i/\i<2^64)||decide (-(2^64)<j/\j<2^64)) λi j=>.int (i*j)
abbrev fQ:=dP (λ_ j=>decide (0<j)) λi j=>.int (i%j)
abbrev IF:=dP (λ_ j=>decide (0<j/\j<1073741824)) λi j=>.int (i/j)
abbrev F4:=dP (λi j=>decide (0<=j/\j<=1000/\i.natAbs<2^64)) λi j=>.int (i^j.toNat)
abbrev fw:=dP (λ_ _=>true) λi j=>.bl (decide (i<j))
abbrev QE:=dP (λ_ _=>true) λi j=>.bl (decide (i<=j))
abbrev yW:=dP (λ_ _=>true) λi j=>.bl (decide (j<i))
abbrev geP:=dP (λ_ _=>true) λi j=>.bl (decide (j<=i))
def Gs(C:Cs)(x:SV):Option SV:=match aQ C x with
 |some (.int i)=>some (.v (.int (-i)))
 |_=>none
def tY(f:4e5):aG->M SV:=λρ=>aW (f ρ) λx=>cK λC=>Gs C x
theorem zH:gH X.K (tD λi j=>.bl (decide (i<j))) fw:=S' λ_ _ _ _=>eG
theorem v9:gH X.K (tD λi j=>.bl (decide (i<=j))) QE:=S' λ_ _ _ _=>eG
theorem wA:gH X.K (tD λi j=>.bl (decide (j<i))) yW:=S' λ_ _ _ _=>eG
theorem RX:gH X.K (tD λi j=>.bl (decide (j<=i))) geP:=S' λ_ _ _ _=>eG
noncomputable def xW:PV->PV->Option Bool
 |.aP,.aP=>some true | .aP,.int _=>some false | .int _,.aP=>some false | .aP,.bl _=>some false | .bl _,.aP=>some false | .aP,.str _=>some false | .str _,.aP=>some false
 |.int i,.int j=>some (decide (i=j)) | .bl i,.bl j=>some (decide (i=j)) | .str i,.str j=>some (decide (i=j))
 |.int _,.str _=>some false | .str _,.int _=>some false | .bl _,.str _=>some false | .str _,.bl _=>some false
 |_,_=>none
def jR(p q:PV):Option PV:=(xW p q).map .bl
def Oz(p q:PV):Option PV:=(xW p q).map λb=>.bl (!b)
theorem HQ{K:W.Frag}{ι:3e8}{H:Hp}{p q:PV}{vx vy:V}{b:Bool}(lx:Lies K ι H p vx)(ly:Lies K ι H q vy)(e:xW p q=some b):Kb vx vy=true/\decide (vx=vy)=b:=by
  ext xW e;split at e<;>first
    |(cases e;cases lx;cases ly;show⟨rfl,by simp⟩)
    |cases e
theorem zr:gH X.K rEq jR:=by
 sleep 9;ext jR e;cases hb:xW p q with
 |none=>rw[hb]at e;cases e
 |some b=>
  rw[hb]at e;cases e;obtain⟨h1,h2⟩:=HQ lx ly hb;show⟨h1,by rw[h2];show k _ H .refl cr eG⟩
theorem Ib:gH X.K rNe Oz:=by
 sleep 9;ext Oz e;cases hb:xW p q with
 |none=>rw[hb]at e;cases e
 |some b=>
  rw[hb]at e;cases e;obtain⟨h1,h2⟩:=HQ lx ly hb;show⟨h1,by rw[h2];show k _ H .refl cr eG⟩
def dA:PV->PV->Option PV
 |.lst xs,.int i=>cM xs i
 |.tup xs,.int i=>cM xs i
 |.str z,.int i=>(cM z.cps.toList i).map λc=>.str ⟨#[c]⟩
 |_,_=>none
theorem xr{K:W.Frag}{ι:3e8}{H:Hp}{ps:List PV}{vs:List V}{i:Int}{z:PV}(r:ah K ι H ps vs)(e:cM ps i=some z):∃v,cM vs i=some v/\Rep K ι H z v:=by
 unfold cM at e⊢;rw[←r.length];cases h:cV ps.length i with
 |none=>rw[h]at e;cases e
 |some j=>rw[h]at e;show r.get e
theorem Q4:gH X.K (ZC X.K) dA:=by
 sleep 9;ext dA e;split at e
 ·obtain⟨a,vs,rfl,h1,r1⟩:=il lx
  cases ly;obtain⟨v,e1,r⟩:=xr r1 e;show .inl ⟨a,vs,_,v,rfl,rfl,h1,e1,k v H .refl cr r⟩
 ·obtain⟨a,vs,rfl,h1,r1⟩:=iR lx
  cases ly;obtain⟨v,e1,r⟩:=xr r1 e;show .inr (.inl ⟨a,vs,_,v,rfl,rfl,h1.sq,e1,k v H .refl cr r⟩)
 ·obtain⟨rfl,hz⟩:=v3 lx
  cases ly;rename_i z' i;cases hc:cM z'.cps.toList i with
  |none=>rw[hc]at e;cases e
  |some c=>
   rw[hc]at e;cases e;show .inr (.inr ⟨_,_,c,rfl,rfl,hz,hc,k _ H .refl cr (yb (by change 1<=Yt;rw[YV];decide))⟩)
 ·cases e
noncomputable def JK:PV->Option String
 |.aP=>some "NoneType"
 |.bl _=>some "bool"
 |.int _=>some "int"
 |.str _=>some "str"
 |.tup _=>some "tuple"
 |.lst _=>some "list"
 |.b5 _ _=>some "dict"
 |.dn _ _=>some "dict"
 |_=>none
def uf(p:PV)(n:String):Option Bool:=match JK p with
 |none=>none
 |some t=>if n="int" then some (t=="int"||t=="bool")else if n="str"\/n="bool"\/n="tuple"\/n="list"\/n="dict" then some (t==n)else none
theorem Mf{K:W.Frag}{t n:String}{b:Bool}(ht:t="NoneType"\/t="bool"\/t="int"\/t="str"\/t="tuple"\/t="list"\/t="dict")(hn:n="int"\/n="str"\/n="bool"\/n="tuple"\/n="list"\/n="dict")
  (e:(if n="int" then some (t=="int"||t=="bool")else if n="str"\/n="bool"\/n="tuple"\/n="list"\/n="dict" then some (t==n)else none)=some b):W.kitOne K (.type t) (.type n)=some b:=by
 rcases ht with rfl|rfl|rfl|rfl|rfl|rfl|rfl<;>rcases hn with rfl|rfl|rfl|rfl|rfl|rfl<;>(simp at e;subst e;rfl)
end
inductive hJ(K:W.Frag)(ι:List Addr)(H:Hp):List PV->List V->Prop
 |nil:hJ K ι H [] []
 |cons {p:PV} {v:V} {ps:List PV} {vs:List V} (h:Lies K ι H p v) (t:hJ K ι H ps vs):hJ K ι H (p::ps) (v::vs)
def bu(C:Cs):List SV->Option 7e7
 |[]=>some []
 |x::xs=>match aQ C x,bu C xs with
  |some p,some ps=>some (p::ps)
  |_,_=>none
theorem Zdp{K:W.Frag}{ι:3e8}{H:Hp}{C:Cs}(cr:11e7):∀{xs:List SV}{ps:List PV}{vs:List V},cb K ι H xs vs->bu C xs=some ps->hJ K ι H ps vs
 |[],ps,vs,r,e=>by cases e;rw[show vs=[]from r];show .nil
 |x::xs,ps,vs,r,e=>by
  obtain⟨v,w,rfl,h1,h2⟩:=r;ext bu e;split at e
  ·rename_i p qs hp hq
   cases e;show .cons (h1.lies cr hp) (Zdp cr h2 hq)
  ·cases e
def g1(h:List PV->Option PV):Cs->List SV->Option SV:=λC xs=>match bu C xs with
 |some ps=>(h ps).map .v
 |none=>none
def l6(K:W.Frag)(r:14e1)(h:List PV->Option PV):Prop:=
 ∀(ι:3e8)(H:Hp)(C:Cs)(ps:List PV)(vs:List V)(z:PV)(Q:VK),CR K ι H C->hJ K ι H ps vs->h ps=some z->(∀v H',Fr ι H H'->CR K ι H' C->Rep K ι H' z v->Q v H')->r vs H Q
theorem l6.c{K:W.Frag}{r:14e1}{h:List PV->Option PV}(k:l6 K r h):EE K r (g1 h):=by
 intro ι H C xs vs z Q cr rs e q;ext g1 e;cases hd:bu C xs with
 |none=>rw[hd]at e;cases e
 |some ps=>
  rw[hd]at e;cases hz:h ps with
  |none=>simp[hz]at e
  |some z2=>
   simp[hz]at e;subst e;show k ι H C ps vs z2 Q cr (Zdp cr rs hd) hz q
section
variable{X:Cx}{a b e c o:Expr}{es:6e1}{fa fb fc fo:4e5}{fs:2e8}{pos p apos dg:Pos}{x:Str}
def TyV(K:W.Frag)(H:Hp)(x:V)(t:String):Prop:=match x with
 |.aP=>t="NoneType"
 |.bl _=>t="bool"
 |.int _=>t="int"
 |.str _=>t="str"
 |.ref a=>(t="tuple"/\∃vs,iz K H a vs)\/(t="list"/\∃vs,fB K H a vs)\/(t="dict"/\∃kvs,H a=some (.dK kvs))\/(t="dict"/\∃qs vs,H a=some (IH a qs vs))
 |_=>False
theorem DH:cR X (.builtin "isinstance") (λxs H Q=>∃x n t b,xs=[x,.ty n]/\TyV X.K H x t/\W.kitOne X.K (.type t) (.type n)=some b/\Q (.bl b) H):=by
 sleep 15;obtain⟨x,n,t,b,rfl,ty,e,q⟩:=h;obtain⟨u,v,rfl,ru,rv⟩:=Vals.two r;cases(show v=Vk n from rv);have fin:∀tk,EP X pins σ Q (.bool b) {s with toks:=tk}:=λtk=>⟨.bl b,H,I.tok tk,rfl,q⟩
 cases x with
 |aP=>cases(show t="NoneType" from ty);show Tw I ru (gT.aP) e fin
 |bl y=>cases(show t="bool" from ty);show Tw I ru (gT.bl y) e fin
 |int y=>cases(show t="int" from ty);show Tw I ru (gT.int y) e fin
 |str y=>cases(show t="str" from ty);show Tw I ru (gT.str y) e fin
 |ref a=>
  cases(show u=Y9 a from ru);rcases(show _ from ty)with⟨rfl,vs,h⟩|⟨rfl,vs,h⟩|⟨rfl,kvs,h⟩|⟨rfl,qs,vs,h⟩
  ·obtain⟨aM,_,⟨o,h1,h2,_⟩,_⟩:=I.tuple h
   show Wg W.kitx_tuple I.kI ⟨o,h1,h2⟩ e (λz=>nomatch z) fin
  ·obtain⟨aM,_,⟨o,n,h1,h2,_⟩,_⟩:=I.list h
   show Wg W.kitx_list I.kI ⟨o,h1,h2⟩ e (λz=>nomatch z) fin
  ·show Tw I ru (gT.dK h) e fin
  ·obtain⟨⟨_,_,o,_,_,h1,h2,_⟩,_⟩:=(show bS X.prog X.w H s.heap a (IH a qs vs)from I.bV a _ h)
   show Wg W.kitx_dict I.kI ⟨o,h1,h2.1⟩ e (λz=>nomatch z) fin
 |_=>show(show False from ty).elim
def hX:List PV->Option PV
 |[p,.ty n]=>(uf p n).map .bl
 |_=>none
theorem Mv:l6 X.K (λxs H Q=>∃x n t b,xs=[x,.ty n]/\TyV X.K H x t/\W.kitOne X.K (.type t) (.type n)=some b/\Q (.bl b) H) hX:=by
 intro ι H C ps vs z Q cr ls e k;ext hX e;split at e
 ·rename_i p n
  cases ls with
  |cons l1 ls=>cases ls with
   |cons l2 ls=>
    cases ls;cases l2;cases hb:uf p n with
    |none=>rw[hb]at e;cases e
    |some b=>
     rw[hb]at e;cases e;ext uf hb;cases ht:JK p with
     |none=>rw[ht]at hb;cases hb
     |some t=>
      rw[ht]at hb;dsimp only at hb;have hn:n="int"\/n="str"\/n="bool"\/n="tuple"\/n="list"\/n="dict":=by
       by_cases h1:n="int"
       ·show .inl h1
       ·rw[if_neg h1]at hb
        by_cases h2:n="str"\/n="bool"\/n="tuple"\/n="list"\/n="dict"
        ·show .inr h2
        ·rw[if_neg h2]at hb;cases hb
      show⟨_,n,t,b,rfl,?_,Mf ?_ hn hb,k _ H .refl cr eG⟩
      ·cases l1<;>(ext JK ht;first|(cases ht;rfl)|(cases ht;show .inl ⟨rfl,_,Jd.sq (by assumption)⟩)|(cases ht;show .inr (.inl ⟨rfl,_,by assumption⟩))|(cases ht;show .inr (.inr (.inl ⟨rfl,_,by assumption⟩)))|(cases ht;show .inr (.inr (.inr ⟨rfl,_,_,by assumption⟩)))|cases ht)
      ·cases p<;>(ext JK ht;first|(cases ht;simp)|cases ht)
 ·cases e
noncomputable def cH:List PV->Option PV
 |[.str z]=>some (.int z.length)
 |[.lst xs]=>some (.int xs.length)
 |[.tup xs]=>some (.int xs.length)
 |_=>none
theorem Mc:l6 X.K (λxs H Q=>∃x n,xs=[x]/\TM X.K x H n/\Q (.int n) H) cH:=by
 intro ι H C ps vs z Q cr ls e k;ext cH e;split at e
 ·cases e;cases ls with
  |cons l t=>cases t;obtain⟨rfl,hz⟩:=v3 l;show⟨_,_,rfl,⟨hz,rfl⟩,k _ H .refl cr hV⟩
 ·cases e;cases ls with
  |cons l t=>cases t;obtain⟨a,ws,rfl,h1,r1⟩:=il l;show⟨_,_,rfl,.inl ⟨ws,h1,r1.length⟩,k _ H .refl cr hV⟩
 ·cases e;cases ls with
  |cons l t=>cases t;obtain⟨a,ws,rfl,h1,r1⟩:=iR l;show⟨_,_,rfl,.inr ⟨ws,h1.sq,r1.length⟩,k _ H .refl cr hV⟩
 ·cases e
noncomputable def lP:List PV->Option PV
 |[.int i,.int j]=>some (.int (if j>i then j else i))
 |_=>none
noncomputable def tW:List PV->Option PV
 |[.int i,.int j]=>some (.int (if j<i then j else i))
 |_=>none
theorem L0:l6 X.K (λxs H Q=>∃i j,xs=[.int i,.int j]/\Q (.int (if j>i then j else i)) H) lP:=by
 intro ι H C ps vs z Q cr ls e k;ext lP e;split at e
 ·cases e;cases ls with
  |cons l t=>cases t with
   |cons l2 t=>cases t;cases l;cases l2;show⟨_,_,rfl,k _ H .refl cr hV⟩
 ·cases e
theorem LY:l6 X.K (λxs H Q=>∃i j,xs=[.int i,.int j]/\Q (.int (if j<i then j else i)) H) tW:=by
 intro ι H C ps vs z Q cr ls e k;ext tW e;split at e
 ·cases e;cases ls with
  |cons l t=>cases t with
   |cons l2 t=>cases t;cases l;cases l2;show⟨_,_,rfl,k _ H .refl cr hV⟩
 ·cases e
noncomputable def gO:List PV->Option PV
 |[.int i]=>some (.int i)
 |[.bl k]=>some (.int (if k then 1 else 0))
 |_=>none
theorem GO:l6 X.K (λxs H Q=>(∃i,xs=[.int i]/\Q (.int i) H)\/∃k,xs=[.bl k]/\Q (.int (if k then 1 else 0)) H) gO:=by
 intro ι H C ps vs z Q cr ls e k;ext gO e;split at e
 ·cases e;cases ls with
  |cons l t=>cases t;cases l;show .inl ⟨_,rfl,k _ H .refl cr hV⟩
 ·cases e;cases ls with
  |cons l t=>cases t;cases l;show .inr ⟨_,rfl,k _ H .refl cr hV⟩
 ·cases e
noncomputable def eY:List PV->Option PV
 |[.lst xs]=>some (.tup xs)
 |[.tup xs]=>some (.tup xs)
 |_=>none
theorem JL:l6 X.K (λxs H Q=>∃p ys,xs=[.ref p]/\((fB X.K H p ys/\∀l,H l=none->Q (.ref l) (upd H l (.tup ys)))\/(iz X.K H p ys/\Q (.ref p) H))) eY:=by
 intro ι H C ps vs z Q cr ls e k;ext eY e;split at e
 ·cases e;cases ls with
  |cons l t=>cases t;obtain⟨a,ws,rfl,h1,r1⟩:=il l;show⟨a,ws,rfl,.inl ⟨h1,λq hq=>k _ _ (Fr.new hq) (cr.new hq) (O' hq r1)⟩⟩
 ·cases e;cases ls with
  |cons l t=>cases t;obtain⟨a,ws,rfl,h1,r1⟩:=iR l;show⟨a,ws,rfl,.inr ⟨h1.sq,k _ H .refl cr (by ext Rep;show⟨a,ws,rfl,h1,r1⟩)⟩⟩
 ·cases e
def Ii(C:Cs):List SV->Option 7e7
 |[x]=>match aQ C x with
  |some (.lst xs)=>some xs
  |some (.tup xs)=>some xs
  |_=>none
 |_=>none
def Qw(fs:2e8):aG->M 7e7:=λρ=>aW (fs ρ) λxs=>cK λC=>Ii C xs
noncomputable def gR:List PV->Option (List Bool)
 |[]=>some []
 |.bl b::r=>(gR r).map (b::·)
 |_::_=>none
theorem nj{K:W.Frag}{ι:3e8}{H:Hp}:∀{ps:List PV}{vs:List V}{bs:List Bool},ah K ι H ps vs->gR ps=some bs->vs=bs.map V.bl
 |[],vs,bs,r,e=>by cases e;rw[r.iW];rfl
 |p::ps,vs,bs,r,e=>by
  obtain⟨v,w,rfl,h1,h2⟩:=r.inv;cases p with
  |bl b=>
   ext gR e;cases hb:gR ps with
   |none=>rw[hb]at e;cases e
   |some cs=>
    rw[hb]at e;cases e;have h1:v=.bl b:=by ext Rep h1;show h1
    rw[h1,nj h2 hb];rfl
  |_=>cases e
def gG:List PV->Option PV
 |[.lst xs]=>(gR xs).map λbs=>.bl (bs.all id)
 |_=>none
theorem NW:l6 X.K (λxs H Q=>∃(a:Addr)(bs:List Bool),xs=[.ref a]/\fB X.K H a (bs.map V.bl)/\Q (.bl (bs.all id)) H) gG:=by
 intro ι H C ps vs z Q cr ls e k;ext gG e;split at e
 ·rename_i xs
  cases ls with
  |cons l t=>
   cases t;obtain⟨a,ws,rfl,h1,r1⟩:=il l;cases hb:gR xs with
   |none=>rw[hb]at e;cases e
   |some bs=>
    rw[hb]at e;cases e;show⟨a,bs,rfl,by rw[←nj r1 hb];show h1,k _ H .refl cr eG⟩
 ·cases e
end
section
variable{X:Cx}{a b e c o i:Expr}{es:6e1}{fa fb fc fo fi fv:4e5}{fs:2e8}{pos p apos dg:Pos}{x:Str}
noncomputable def iV (x:SV):M Unit:=λC=>match x with
 |.c k=>match C[k]? with
  |some (.lst _)=>some ((),C)
  |_=>none
 |_=>none
theorem uh{x:SV}{C C2:Cs}(h:iV x C=some ((),C2)):C2=C/\∃k ps,x=.c k/\C[k]? = some 8e5:=by
 ext iV h;split at h
 ·split at h
  ·rename_i k _ ps e;cases h;show⟨rfl,k,ps,rfl,e⟩
  ·cases h
 ·cases h
noncomputable def pw (x:SV)(ys:List SV):M SV:=λC=>match x,ys with
 |.c k,[.v p]=>match C[k]? with
  |some (.lst ps)=>if ps.length<100000 then some (.v .aP,C.set k (.lst (ps++[p])))else none
  |_=>none
 |_,_=>none
theorem zp{x:SV}{ys:List SV}{C C2:Cs}{r:SV}(h:pw x ys C=some (r,C2)):∃k p ps,x=.c k/\ys=[.v p]/\C[k]? = some 8e5/\ps.length<100000/\r=.v .aP/\C2=C.set k (.lst (ps++[p])):=by
 ext pw h;split at h
 ·split at h
  ·split at h
   ·cases h;show⟨_,_,_,rfl,rfl,by assumption,by assumption,rfl,rfl⟩
   ·cases h
  ·cases h
 ·cases h
def eM(fo:4e5)(fs:2e8):aG->M SV:=λρ=>aW (fo ρ) λx=>aW (iV x) λ_=>aW (fs ρ) λys=>pw x ys
theorem k6{K:W.Frag}{ι:3e8}{H:Hp}{C:Cs}{k:Nat}{a:Addr}{ps:List PV}(cr:11e7)(hk:ι[k]? = some a)(hc:C[k]? = some 8e5):∃vs,H a=some (.lst vs)/\ah K ι H ps vs:=cr.ok k a _ hk hc
theorem Dy{K:W.Frag}{ι:3e8}{H:Hp}{C:Cs}{k:Nat}{a:Addr}{ps:List PV}{vs:List V}(cr:11e7)(hk:ι[k]? = some a)(r:ah K ι H ps vs):CR K ι (upd H a (.lst vs)) (C.set k 8e5)/\Fr ι H (upd H a (.lst vs)):=by
 have fr:Fr ι H (upd H a (.lst vs)):=λb u n e=>by
  rw[dH (λz=>n (by rw[z];show YS hk))];show e
 show⟨cr.put hk ⟨vs,pD,ah.mono cr fr _ _ r⟩,fr⟩
def setC(v o i:SV)(ρ:aG):M PF:=λC=>match o,i,v with
 |.c k,.v (.int n),.v p=>match C[k]? with
  |some (.lst ps)=>match cV ps.length n with
   |some j=>some (.nx ρ,C.set k (.lst (ps.set j p)))
   |none=>none
  |_=>none
 |_,_,_=>none
theorem xU{v o i:SV}{ρ:aG}{C C2:Cs}{fl:PF}(h:setC v o i ρ C=some (fl,C2)):∃k n p ps j,o=.c k/\i=.v (.int n)/\v=.v p/\C[k]? = some 8e5/\cV ps.length n=some j/\fl=.nx ρ/\C2=C.set k (.lst (ps.set j p)):=by
 ext setC h;split at h
 ·split at h
  ·split at h
   ·cases h;show⟨_,_,_,_,_,rfl,rfl,rfl,by assumption,by assumption,rfl,rfl⟩
   ·cases h
  ·cases h
 ·cases h
def kB(fv fo fi:4e5):aG->M PF:=λρ=>aW (fv ρ) λv=>aW (fo ρ) λo=>aW (fi ρ) λi=>setC v o i ρ
noncomputable def bz:SV->Option 7e7
 |.v (.lst xs)=>some xs
 |.v (.tup xs)=>some xs
 |.v (.str z)=>some (z.cps.toList.map λc=>.str ⟨#[c]⟩)
 |_=>none
def aE(f:4e5):aG->M 7e7:=λρ=>aW (f ρ) λx=>cK λ_=>bz x
theorem yJ{K:W.Frag}{ι:3e8}{H:Hp}{C:Cs}{a:Addr}{xs:List PV}{vs:List V}(cr:11e7)(h:Jg K ι H a vs)(r:ah K ι H xs vs):Iter K ι H xs (Itl K a):=by
 have keep:∀ι2 H2,Ex ι ι2 H H2->fB K H2 a vs:=λι2 H2 x=>by
  rcases h with⟨n,q|⟨o,q⟩⟩|q
  ·show .inl (.inl (x.out _ _ n q).2)
  ·show .inl (.inr ⟨o,(x.out _ _ n q).2⟩)
  ·show .inr q
 show⟨λι2 H2 C2 x c i hi=>?_,λι2 H2 C2 x c i v H3 hi y=>?_,λι2 H2 C2 x c=>⟨vs,keep ι2 H2 x,by rw[r.length];show Yl _⟩⟩
 ·obtain⟨v,e,_⟩:=r.get (Yc hi)
  show⟨vs,v,keep ι2 H2 x,e⟩
 ·obtain⟨rfl,y⟩:=y
  obtain⟨p,hp,rp⟩:=r.get' (y vs (keep ι2 _ x));show⟨λb o e=>e,p,hp,Rep.tr cr x.out p v rp⟩
theorem CB{K:W.Frag}{ι:3e8}{H:Hp}{C:Cs}{a:Addr}{xs:List PV}{vs:List V}(cr:11e7)(h:iz K H a vs)(r:ah K ι H xs vs):Iter K ι H xs (Itt K a):=by
 have keep:∀ι2 H2,Ex ι ι2 H H2->iz K H2 a vs:=λι2 H2 x=>by
  rcases h with(q|⟨o,q⟩)|q
  ·show .inl (.inl (x.out _ _ (cr.mE q (λ_ e=>nomatch e) λ_ e=>nomatch e) q).2)
  ·show .inl (.inr ⟨o,(x.out _ _ (cr.mE q (λ_ e=>nomatch e) λ_ e=>nomatch e) q).2⟩)
  ·show .inr q
 show⟨λι2 H2 C2 x c i hi=>?_,λι2 H2 C2 x c i v H3 hi y=>?_,λι2 H2 C2 x c=>⟨vs,keep ι2 H2 x,by rw[r.length];show Yl _⟩⟩
 ·obtain⟨v,e,_⟩:=r.get (Yc hi)
  show⟨vs,v,keep ι2 H2 x,e⟩
 ·obtain⟨rfl,y⟩:=y
  obtain⟨p,hp,rp⟩:=r.get' (y vs (keep ι2 _ x));show⟨λb o e=>e,p,hp,Rep.tr cr x.out p v rp⟩
theorem qU{K:W.Frag}{ι:3e8}{H:Hp}{z:Str}:Iter K ι H (z.cps.toList.map λc=>.str ⟨#[c]⟩) (Its z):=by
 show⟨λι2 H2 C2 x c i hi=>by change i<z.cps.size;simpa using hi,λι2 H2 C2 x c i v H3 hi y=>?_,λι2 H2 C2 x c=>by change _=_;simp⟩;obtain⟨rfl,d,hd,rfl⟩:=y;show⟨λb o e=>e,.str ⟨#[d]⟩,by simp[hd],?_⟩;show yb (by change 1<=Yt;rw[YV];decide)
theorem ZdK{K:W.Frag}{ι:3e8}{H:Hp}{lo:Int}{n:Nat}:Iter K ι H ((Yk n).map λ(k:Nat)=>.int (lo+k)) (TQ lo n):=by
 show⟨λι2 H2 C2 x c i hi=>by change i<n;simpa using hi,λι2 H2 C2 x c i v H3 hi y=>?_,λι2 H2 C2 x c=>by change n<=_;simp⟩;obtain⟨rfl,rfl⟩:=y;have Iu:i<n:=by simpa using hi
 show⟨λb o e=>e,.int (lo+i),by simp[Iu],hV⟩
variable{tg l:Expr}
noncomputable def cG:List SV->Option 7e7
 |[.v (.int j)]=>if -1000000<=j/\j<=1000000 then some ((Yk j.toNat).map λ(k:Nat)=>.int (0+k))else none
 |_=>none
noncomputable def qe:List SV->Option 7e7
 |[.v (.int i),.v (.int j)]=>if(-1000000<=i/\i<=1000000)/\(-1000000<=j/\j<=1000000)then some ((Yk (j-i).toNat).map λ(k:Nat)=>.int (i+k))else none
 |_=>none
def aK(fs:2e8):aG->M 7e7:=λρ=>aW (fs ρ) λxs=>cK λ_=>cG xs
def iQ(fs:2e8):aG->M 7e7:=λρ=>aW (fs ρ) λxs=>cK λ_=>qe xs
theorem xZ{xs:List SV}{ys:List PV}(h:cG xs=some ys):∃j,xs=[.v (.int j)]/\(-1000000<=j/\j<=1000000)/\ys=(Yk j.toNat).map λ(k:Nat)=>.int (0+k):=by
 ext cG h;split at h
 ·split at h
  ·cases h;show⟨_,rfl,by assumption,rfl⟩
  ·cases h
 ·cases h
theorem xY{xs:List SV}{ys:List PV}(h:qe xs=some ys):∃i j,xs=[.v (.int i),.v (.int j)]/\((-1000000<=i/\i<=1000000)/\(-1000000<=j/\j<=1000000))/\ys=(Yk (j-i).toNat).map λ(k:Nat)=>.int (i+k):=by
 ext qe h;split at h
 ·split at h
  ·cases h;show⟨_,_,rfl,by assumption,rfl⟩
  ·cases h
 ·cases h
end
section
variable{prog:Ys}{w:World}{A:Around}{E:1e6}{s:Shared}
theorem Zca{t sl:Addr}{items:Array Value}{vl vu:Value}{lo hi:Option Int}{Q:1e6}(ht:IsTup s.heap t items)(hs:s.heap.IsSliceOf sl vl vu .none)(pl:IsPart vl lo)(pu:IsPart vu hi)
  (hw:HT.cj items.size 0 lo=0/\HT.cj items.size items.size hi=items.size) (h:Q (.ref t) s):wpAny 5e0 A (Uo (.ref t) (.ref sl)) Q E s:=by
 obtain⟨os,GX,MN,MM⟩:=id hs;have hTs:s.TypeIs (.ref sl) "slice":=⟨os,GX,MN⟩
 ext Uo;try with_reducible show Xs ?_
 first|show Ya (Ye ?_)|skip
 show Ya (wpAny_sequenceKey ht.typeIs 1e2 ?_);show Ya (Xu (name:=Wl "__getitem__") ht.typeIs Xe
  (Xw Xe ht.typeIs entry_tuple_getitem ?_ (args_tuple_getitem _ _)))
 change wpAny _ _ (WL (.ref t)>>=_) _ _ s;show Ya (tupleItemsOf_ ht ?_);show Ya (Vq hTs ?_);rw[if_pos 1e2];show Ya (HT.fO hs pl pu ?_);have VaG:(((HT.cj items.size 0 lo:Nat):Int)==0&&(1:Int)==1&&(HT.cj items.size items.size hi-HT.cj items.size 0 lo)==items.size)=true:=by
  rw[hw.1,hw.2];simp
 change wpAny _ _ (if(((HT.cj items.size 0 lo:Nat):Int)==0&&(1:Int)==1&&(HT.cj items.size items.size hi-HT.cj items.size 0 lo)==items.size)=true then _ else _) _ _ s;rw[if_pos VaG];ext Builtin.Tuple.tupleIsExact;show Ya (Ya (Vq ht.typeIs (Ye ?_)));rw[if_pos 1e2];show Ya (VC ?_);show Ya (Ye (Ye ⟨_,rfl,Ye h⟩))
end
def P6(K:W.Frag):V->Option Int->Option Int->Hp->VK->Prop:=λx lo hi H Q=>∃a xs,x=.ref a/\iz K H a xs/\(HT.cj xs.length 0 lo=0/\HT.cj xs.length xs.length hi=xs.length)/\Q (.ref a) H
def tMO(K:W.Frag)(f:aG->M (Option Int)):TO:=λσ H Q=>∃ι ρ C r C',SR K ι H ρ σ C/\f ρ C=some (r,C')/\∀H',Fr ι H H'->CR K ι H' C'->Q r H'
def OM(X:Cx)(e:Option Expr)(f:aG->M (Option Int)):Prop:=PO X e (tMO X.K f)
def ic:aG->M (Option Int):=λ_=>ret none
def intD(C:Cs)(x:SV):Option (Option Int):=match aQ C x with
 |some (.int i)=>some (some i)
 |_=>none
def bA(f:4e5):aG->M (Option Int):=λρ=>aW (f ρ) λx=>cK λC=>intD C x
def cu(xs:List PV)(lo hi:Option Int):List PV:=(xs.drop (HT.cj xs.length 0 lo)).take (HT.cj xs.length xs.length hi-HT.cj xs.length 0 lo)
def gN(lo hi:Option Int):PV->Option PV
 |.lst xs=>some (.lst (cu xs lo hi))
 |.tup xs=>some (.tup (cu xs lo hi))
 |_=>none
def di(C:Cs)(x:SV)(lo hi:Option Int):Option SV:=match aQ C x with
 |some p=>(gN lo hi p).map .v
 |none=>none
def bg(f:4e5)(l h:aG->M (Option Int)):aG->M SV:=λρ=>aW (f ρ) λx=>aW (l ρ) λlo=>aW (h ρ) λhi=>cK λC=>di C x lo hi
theorem qg{K:W.Frag}{ι:3e8}{H:Hp}{ps:List PV}{vs:List V}(r:ah K ι H ps vs)(lo hi:Option Int):ah K ι H (cu ps lo hi) (rS vs lo hi):=by
 unfold cu rS;rw[r.length];show(r.drop _).take _
theorem qd{C:Cs}{x z:SV}{lo hi:Option Int}(h:di C x lo hi=some z):(∃xs,aQ C x=some (.lst xs)/\z=.v (.lst (cu xs lo hi)))\/∃xs,aQ C x=some (.tup xs)/\z=.v (.tup (cu xs lo hi)):=by
 ext di h;split at h
 ·rename_i p hd
  cases p with
  |lst xs=>cases h;show .inl ⟨xs,hd,rfl⟩
  |tup xs=>cases h;show .inr ⟨xs,hd,rfl⟩
  |_=>cases h
 ·cases h
section
variable{X:Cx}{a b e c o i:Expr}{es:6e1}{fa fb fc fo fi fv:4e5}{fs:2e8}{pos p apos dg p2:Pos}{x:Str}{lo hi:Option Expr}{l h:aG->M (Option Int)}
theorem PO.imp{e:Option Expr}{t t':TO}(h:PO X e t)(k:∀σ H Q,t' σ H Q->t σ H Q):PO X e t':=λpins s σ H Q I q=>h pins s σ H Q I (k σ H Q q)
theorem FF:Fg X (P6 X.K):=by
 intro pins s σ H x v vl vu lo hi sl Q I rx hs pl pu h;obtain⟨a,xs,rfl,hx,hw,q⟩:=h;cases rx;obtain⟨aM,r,ht,hz⟩:=I.tuple hx;have hlen:aM.toArray.size=xs.length:=by rw[Yn];show r.length.symm
 show⟨"tuple",_,Xe.lookup,ht.typeIs,Zca ht hs pl pu (by rw[hlen];show hw) ⟨.ref a,H,I,rfl,q⟩⟩
theorem zi{xs:List PV}{lo hi:Option Int}(h:HT.cj xs.length 0 lo=0/\HT.cj xs.length xs.length hi=xs.length):cu xs lo hi=xs:=by
 ext cu;rw[h.1,h.2];simp
noncomputable def iY:PV->Bool
 |.aP=>true
 |.bl _=>true
 |.int _=>true
 |.str _=>true
 |_=>false
noncomputable def eqF:PV->PV->Bool
 |.aP,.aP=>true
 |.bl a,.bl b=>a==b
 |.bl a,.int b=>(if a then 1 else 0)==b
 |.int a,.bl b=>a==(if b then 1 else 0)
 |.int a,.int b=>a==b
 |.str a,.str b=>a==b
 |_,_=>false
noncomputable def vE (i j:Str):Bool:=!(Wn j i 0 j.length 1).isEmpty
def ZP(x:PV):PV->Option Bool
 |.str j=>match x with
  |.str i=>some (vE i j)
  |_=>none
 |.lst xs=>if iY x&&xs.all iY then some (xs.any λy=>eqF y x)else none
 |.tup xs=>if iY x&&xs.all iY then some (xs.any λy=>eqF y x)else none
 |_=>none
def OI(x y:PV):Option PV:=(ZP x y).map .bl
theorem kR{K:W.Frag}{ι:3e8}{H:Hp}{q:PV}{v:V}(r:Lies K ι H q v)(h:iY q=true):ir v=true:=by cases r<;>first|rfl|cases h
theorem Hi{K:W.Frag}{ι:3e8}{H:Hp}{q r:PV}{v w:V}(h1:Lies K ι H q v)(h2:Lies K ι H r w)(f1:iY q=true)(f2:iY r=true):Hg v w=eqF q r:=by
 cases h1<;>cases h2<;>first|rfl|cases f1|cases f2
theorem Zdj{K:W.Frag}{ι:3e8}{H:Hp}{x:PV}{vx:V}(lx:Lies K ι H x vx)(fx:iY x=true):∀{ps:List PV}{vs:List V},ah K ι H ps vs->ps.all iY=true->vs.all ir=true/\ZO vx vs=ps.any λy=>eqF y x
 |[],vs,r,h=>by rw[r.iW];show⟨rfl,rfl⟩
 |q::ps,vs,r,h=>by
  obtain⟨v,w,rfl,h1,h2⟩:=r.inv;rw[Xx,Yg]at h;obtain⟨k1,k2⟩:=Zdj lx fx h2 h.2;show⟨by rw[Xx,kR (Rep.lies h1) h.1,k1];rfl,?_⟩;unfold ZO at k2⊢;rw[Xd,Xd,k2,Hi (Rep.lies h1) lx h.1 fx]
theorem Q6:gH X.K (λx y H Q=>(∃i j,x=.str i/\y=.str j/\Q (.bl (!(Wn j i 0 j.length 1).isEmpty)) H)\/rIn X.K false x y H Q) OI:=by
 sleep 9;ext OI e;cases hb:ZP p q with
 |none=>rw[hb]at e;cases e
 |some b=>
  rw[hb]at e;cases e;ext ZP hb;split at hb
  ·split at hb
   ·cases hb;cases lx;cases ly;show .inl ⟨_,_,rfl,rfl,k _ H .refl cr eG⟩
   ·cases hb
  ·split at hb
   ·rename_i xs hf
    cases hb;rw[Yg]at hf;obtain⟨a,vs,rfl,h1,rv⟩:=il ly;obtain⟨k1,k2⟩:=Zdj lx hf.1 rv hf.2;show .inr ⟨a,vs,rfl,.inl h1,kR lx hf.1,k1,by rw[if_neg Yi,k2];show k _ H .refl cr eG⟩
   ·cases hb
  ·split at hb
   ·rename_i xs hf
    cases hb;rw[Yg]at hf;obtain⟨a,vs,rfl,h1,rv⟩:=iR ly;obtain⟨k1,k2⟩:=Zdj lx hf.1 rv hf.2;show .inr ⟨a,vs,rfl,.inr h1.sq,kR lx hf.1,k1,by rw[if_neg Yi,k2];show k _ H .refl cr eG⟩
   ·cases hb
  ·cases hb
theorem BL:dY X (Xa .In) (λx y H Q=>(∃i j,x=.str i/\y=.str j/\Q (.bl (!(Wn j i 0 j.length 1).isEmpty)) H)\/rIn X.K false x y H Q):=dY.or yu yw
noncomputable def tyP (T:String):PV->Bool
 |.str _=>T=="str"
 |.int _=>T=="int"
 |.lst _=>T=="list"
 |.b5 _ _=>T=="dict"
 |.bW _ _=>T=="dict"
 |_=>false
def Q5(T:String)(x:SV):M Unit:=λC=>match aQ C x with
 |some q=>if tyP T q then some ((),C)else none
 |none=>none
def mtD(h:PV->List PV->Option PV)(C:Cs)(x:SV)(xs:List SV):Option SV:=match aQ C x,bu C xs with
 |some q,some ps=>(h q ps).map .v
 |_,_=>none
def mMt(T:String)(h:PV->List PV->Option PV)(fo:4e5)(fs:2e8):aG->M SV:=λρ=>aW (fo ρ) λx=>aW (Q5 T x) λ_=>aW (fs ρ) λxs=>cK λC=>mtD h C x xs
end
section
variable{X:Cx}{a b e c o i:Expr}{es:6e1}{fa fb fc fo fi fv:4e5}{fs:2e8}{pos p apos dg p2:Pos}{x:Str}
noncomputable def HP:List PV->Option (List Str)
 |[]=>some []
 |.str b::r=>(HP r).map (b::·)
 |_::_=>none
def Vbk:PV->List PV->Option PV
 |.str z,[.lst xs]=>match HP xs with
  |some ys=>if(ys.map (·.length)).sum+ys.length*z.length<=1000000 then some (.str (Txt.join z ys))else none
  |none=>none
 |_,_=>none
noncomputable def jQ:PV->Option Key
 |.int i=>some (.inl i)
 |.str z=>some (.inr z)
 |_=>none
theorem we(k:Key):jQ (kP k)=some k:=by cases k<;>rfl
def kE:List PV->List PV->Key->Option PV
 |k::ks,v::vs,q=>if jQ k=some q then some v else kE ks vs q
 |_,_,_=>none
theorem qM{K:W.Frag}{ι:3e8}{H:Hp}{q:Key}:∀{qs:14e6}{ps:List PV}{vs:List V},qs.length=vs.length->ah K ι H ps vs->
  (∀z,kE (qs.map kP) ps q=some z->∃v,hU (qs.zip vs) q=some v/\Rep K ι H z v)/\(kE (qs.map kP) ps q=none->hU (qs.zip vs) q=none)
 |[],ps,vs,hl,r=>by
  show⟨λz h=>?_,λ_=>rfl⟩;cases ps<;>cases h
 |k::qs,[],vs,hl,r=>by rw[r.iW]at hl;cases hl
 |k::qs,p::ps,vs,hl,r=>by
  obtain⟨v,w,rfl,h1,h2⟩:=r.inv;have ih:=qM (q:=q) (qs:=qs) (ps:=ps) (vs:=w) (by simpa using hl) h2;rw[Yz,Y6];ext kE;rw[we];by_cases h:k=q
  ·subst h
   rw[if_pos rfl,Tn (p:=(k,v)) rfl];show⟨λz e=>by cases e;show⟨v,rfl,h1⟩,λe=>nomatch e⟩
  ·rw[if_neg (λe=>h (YF e)),Tj (p:=(k,v)) h]
   show ih
theorem qN{K:W.Frag}{ι:3e8}{H:Hp}{x:PV}{v:V}{q:Key}(l:Lies K ι H x v)(h:jQ x=some q):v=kV q:=by
 cases l<;>first|(cases h;rfl)|cases h
theorem Ij{K:W.Frag}{ι:3e8}{H:Hp}{ks ps:List PV}{v:V}(l:Lies K ι H (.b5 ks ps) v):∃(a:Addr)(qs:14e6)(vs:List V),v=.ref a/\ks=qs.map kP/\H a=some (.dK (qs.zip vs))/\qs.length=vs.length/\ah K ι H ps vs:=by
 cases l;show⟨_,_,_,rfl,rfl,by assumption,by assumption,by assumption⟩
noncomputable def Bj:R2:=λx y H Q=>∃a v,x=.ref a/\vt H a y (some v)/\Q v H
theorem wk(hu:X.A.units+1<cLine):xF X Bj:=by
 intro value slice pins s σ H x y v u Q I rx ry h hs;obtain⟨a,w,rfl,g,q⟩:=h;cases rx;show tail_any (rO I g) PySem.F.slot_dict_getitem.lookup (zg hu I g ry λw' s' I' r'=>⟨w,H,I',r',q⟩) hs
def bO(x y:PV):Option PV:=match x with
 |.b5 ks vs=>match jQ y with
  |some q=>kE ks vs q
  |none=>none
 |x=>dA x y
theorem Cz:gH X.K (λx y H Q=>ZC X.K x y H Q\/Bj x y H Q) bO:=by
 sleep 9;ext bO e;split at e
 ·rename_i ks vs
  split at e
  ·rename_i key hk
   obtain⟨a,qs,ws,rfl,rfl,hd,hl,r⟩:=Ij lx;obtain⟨v,hv,rv⟩:=(qM hl r).1 z e;rw[qN ly hk];show .inr ⟨a,v,rfl,by rw[←hv];show vt.k hd,k v H .refl cr rv⟩
  ·cases e
 ·show .inl (Q4 ι H C p q vx vy z Q cr lx ly e k)
theorem HJ{pins:2e2}{σ:St}{H:Hp}{s:Shared}{d:Addr}{ob:HO}(I:2e4)(hn:H d=none)(hd:X.s₀.heap.objs.size<=d)(hL:d≠X.env.locals)(hc:∀x c,X.env.cells.lookup x=some c->c≠d)
  (hp:∀p∈X.pn++pins,p.1≠d) (new:bS X.prog X.w (upd H d ob) s.heap d ob):Inv X pins σ (upd H d ob) s:=by
 have u:=I.base;show⟨I.ok,I.os,I.bare,⟨u.keep,u.slot,λb o e q hx=>?_,u.there,λb xs e=>?_,λb o xs e=>?_,λb ps e=>?_⟩,I.loc,I.cell,?_,λx c e=>?_,λp ZW=>?_,λb o e=>?_,I.len⟩
 ·rw[dH (Yp (Yu (Yq e) hd))];show u.free b o e q hx
 ·rw[dH (i4 (u.jN b xs e) hn)];show u.jN b xs e
 ·rw[dH (i4 (u.jn b o xs e) hn)];show u.jn b o xs e
 ·obtain⟨more,q⟩:=u.lK b ps e
  show⟨more,by rw[dH (i4 q hn)];show q⟩
 ·rw[dH (Xp hL)];show I.free
 ·rw[dH (hc x c e)];show I.gm x c e
 ·obtain⟨h1,h2,h3⟩:=I.pin p ZW
  show⟨h1,by rw[dH (hp p ZW)];show h2,h3⟩
 ·by_cases hb:b=d
  ·subst hb
   rw[pD]at e;cases e;show new
  ·rw[dH hb]at e
   show(I.bV b o e).d9 (λ_ _ _ q=>q) (λc q=>by rw[dH (i4 q hn)];show q) λc xs q=>by rw[dH (i4 q hn)];show q
def TH:List Str->List V->List (Value×Value)->Prop
 |[],[],[]=>True
 |k::ks,v::vs,(u,w)::r=>iT (.inr k) u=true/\RelV v w/\TH ks vs r
 |_,_,_=>False
def DP(X:Cx)(ks:List (Option Expr))(es:6e1)(keys:6e2)(t:TA):Prop:=
 ∀(pos:Pos)(pins:2e2)(s:Shared)(σ:St)(H:Hp)(Q:List V->Hp->Prop),Inv X pins σ H s->t σ H Q->
  wpAny 3e6 X.A (evalPairs (pairTrees ks es X.env pos)) (λus s'=>∃vs H',Inv X pins σ H' s'/\TH keys vs us/\Q vs H') X.xe s
def DM(X:Cx)(ks:List (Option Expr))(es:6e1)(keys:6e2)(f:2e8):Prop:=DP X ks es keys (tMA X.K f)
def Qx(keys:6e2)(fs:2e8):aG->M SV:=λρ=>aW (fs ρ) λxs=>cK λ_=>(plain xs).map λps=>.v (.b5 (keys.map PV.str) ps)
end
structure TopD(K:W.Frag)(w:World)(d:Addr)(tab:List (Str×Addr)):Prop where
 ex:∃(es:Array Wa)(n:Nat),K.lookup d=some ⟨.type "dict",none,.dict es n,#[]⟩/\W.KeysLit w.params es.toList/\Paired (λ(p:Str×Addr) (e:Wa)=>XY p.1 e.key=true/\e.val=.ref p.2) tab es.toList
 lo:(d==XN)=false
theorem qW{x y:Str}{v:Value}(h:XY y v=true):XY x v=decide (x=y):=by
 obtain⟨t,rfl⟩:=Value.isStrOf_shape h;by_cases e:x=y
 ·subst e;simp[XY]
 ·have:¬(y=x):=λz=>e z.symm
  simp[XY,e,this]
theorem p3{x:Str}:∀{tab:14e2}{es:List Wa},Paired (λ(p:Str×Addr) (e:Wa)=>XY p.1 e.key=true/\e.val=.ref p.2) tab es->
    (es.find? λd=>XY x d.key).map (·.val)=(tab.lookup x).map Y9
  |_,_,.nil=>rfl
  | (k,f)::tab,e::es,.cons h t=>by
    have ih:=p3 (x:=x) t;rw[X4,YH,qW h.1];by_cases hx:x=k
    · subst hx
      rw[decide_eq_true rfl,beq_self_eq_true];simp[h.2]
    · rw[decide_eq_false hx,beq_eq_false_iff_ne.mpr hx]
      show ih
theorem TopD.map{K:W.Frag}{w:World}{d:Addr}{tab:14e2}(T:TopD K w d tab)(prog:Ys){h:Heap}(X:K.In h):h.MapOf (strKind prog w) d (λk=>(tab.lookup k).map Y9):=by
 obtain⟨es,n,hl,hk,hp⟩:=T.ex;have m:=W.mapOf_K (prog:=prog) X hl hk;have e:(λk=>findBy XY es k)=λk=>(tab.lookup k).map Value.ref:=by
  funext k
  rw[←p3 hp];obtain⟨l⟩:=es;ext findBy;rw[List.find?_toArray]
 rw[←e];show m
section
variable{X:Cx}{a b e c o i:Expr}{es:6e1}{fa fb fc fo fi fv:4e5}{fs:2e8}{pos p apos dg p2:Pos}{x:Str}{d:Addr}{tab:14e2}
def z9(d:Addr)(tab:14e2)(C:Cs)(x y:SV):Option SV:=match x,aQ C y with
 |.v (.fn d'),some (.str k)=>if d'=d then(tab.lookup k).map λf=>.v (.fn f)else none
 |_,_=>none
def z8(d:Addr)(tab:14e2)(neg:Bool)(C:Cs)(x y:SV):Option SV:=match y,aQ C x with
 |.v (.fn d'),some (.str k)=>if d'=d then some (.v (.bl (if neg then !(tab.lookup k).isSome else(tab.lookup k).isSome)))else none
 |_,_=>none
theorem Mo(T:TopD X.K X.w d tab):xF X (λx y H Q=>∃k f,x=.ref d/\y=.str k/\tab.lookup k=some f/\Q (.ref f) H):=by
 intro value slice pins s σ H x y v u Q I rx ry h hs;obtain⟨k,f,rfl,rfl,hk,q⟩:=h;cases rx;obtain⟨t,rfl⟩:=ry;have m:=T.map X.prog I.kI;show tail_any m.typeIs slot_dict_getitem.lookup (wpAny_getItem_of (strKind_is X.prog X.w k t) m (by rw[hk];rfl) ⟨.ref f,H,I.tok _,rfl,q⟩) hs
theorem Fv{K:W.Frag}:i7 K (λx y H Q=>∃k f,x=.ref d/\y=.str k/\tab.lookup k=some f/\Q (.ref f) H) (z9 d tab):=by
 intro ι H C x y vx vy z Q cr rx ry e k;ext z9 e;split at e
 ·rename_i d' key hy
  split at e
  ·rename_i hd
   subst hd;cases hf:tab.lookup key with
   |none=>rw[hf]at e;cases e
   |some f=>
    rw[hf]at e;cases e;have rx:vx=.ref d':=by unfold cw Rep at rx;show rx
    obtain⟨rfl,_⟩:=v3 (ry.lies cr hy);show⟨key,f,rx,rfl,hf,k _ H .refl cr (by unfold cw Rep;rfl)⟩
  ·cases e
 ·cases e
theorem qB(T:TopD X.K X.w d tab):dY X (Xa .NotIn) (λx y H Q=>∃k,y=.ref d/\x=.str k/\Q (.bl (!(tab.lookup k).isSome)) H):=by
 sleep 5;obtain⟨k,rfl,rfl,q⟩:=h;cases ry;sleep 8;show wpAny_notIn_of (strKind_is X.prog X.w k t) T.lo (T.map X.prog I.kI) ?_;rw[Option.isSome_map];show⟨.bl _,H,I.tok _,rfl,q⟩
theorem z0{K:W.Frag}:i7 K (λx y H Q=>∃k,y=.ref d/\x=.str k/\Q (.bl (!(tab.lookup k).isSome)) H) (z8 d tab true):=by
 intro ι H C x y vx vy z Q cr rx ry e k;ext z8 e;split at e
 ·rename_i d' key hy
  split at e
  ·rename_i hd
   subst hd;cases e;have ry:vy=.ref d':=by unfold cw Rep at ry;show ry
   obtain⟨rfl,_⟩:=v3 (rx.lies cr hy);show⟨key,ry,rfl,k _ H .refl cr vJ⟩
  ·cases e
 ·cases e
def xo(T:List (Addr×(List SV->M SV)))(f:SV)(xs:List SV):M SV:=λC=>match f with
 |.v (.fn a)=>match T.lookup a with
  |some F=>F xs C
  |none=>none
 |_=>none
def tZ(i:Nat)(T:List (Addr×(List SV->M SV)))(fs:2e8):aG->M SV:=λρ=>aW (au i ρ) λf=>aW (fs ρ) λxs=>xo T f xs
theorem u6{T:List (Addr×(List SV->M SV))}{f:SV}{xs:List SV}{C C2:Cs}{r:SV}(h:xo T f xs C=some (r,C2)):∃a F,f=.v (.fn a)/\T.lookup a=some F/\F xs C=some (r,C2):=by
 ext xo h;split at h
 ·split at h
  ·show⟨_,_,rfl,by assumption,h⟩
  ·cases h
 ·cases h
theorem Rg{T:List (Addr×(List SV->M SV))}{Pd:Addr->(List SV->M SV)->Prop}(h:∀q∈T,Pd q.1 q.2):∀a F,T.lookup a=some F->Pd a F:=λa F e=>h (a,F) (Pb e)
def kC:aG->M SV:=λ_=>ret (.v (.b5 [] []))
theorem E5{K:W.Frag}{x1 x2 q1 q2:Str}{s1 s2:Stmt}{f1 f2:Addr}{d1 d2:Yx}(F1:eV K x1 q1 s1 f1 d1)(F2:eV K x2 q2 s2 f2 d2)(h:x1≠x2):f1≠f2:=by
 obtain⟨oc,od,kV,doc,pm,an,cdv,ct,osl,e1,l1,_⟩:=F1.ex;obtain⟨oc2,od2,kV2,Vby,pm2,an2,Vbz,ct2,Vbr,e2,l2,_⟩:=F2.ex;intro e;subst e;rw[l1]at l2;injection l2 with l2;injection l2 with _ _ l3 _;injection l3 with l4;rw[e1,e2]at l4;show h (congrArg FuncData.name l4)
end
structure iI(P:Ys)(w:World)(it:Addr)(us:List Addr)(R:Value->Prop)(st mh:Heap->Prop):Prop where
 item:∀(A:Around)(E:1e6)(s:Shared)(Q:1e6),st s.heap->(∀u h' tk,R u->mh h'->Wj it s.heap h'->Q u {s with heap:=h',toks:=tk})->wpAny (model P w) A (YY (.ref it)) Q E s
 keep:∀h h':Heap,st h->(∀b∈us,∀o,h.get? b=some o->h'.get? b=some o)->st h'
 wg:∀h h':Heap,mh h->(∀b∈us,∀o,h.get? b=some o->h'.get? b=some o)->mh h'
structure sN(P:Ys)(w:World)(it:Addr)(us:List Addr)(st:Heap->Prop):Prop where
 done:∀(A:Around)(E:1e6)(s:Shared)(Q:1e6),A.handled=none->st s.heap->(∀h' e,Up it s.heap h'->(∃o,h'.get? e=some o/\o.cls=.type "StopIteration")->E (.ref e) {s with heap:=h'})->wpAny (model P w) A (YY (.ref it)) Q E s
 keep:∀h h':Heap,st h->(∀b∈us,∀o,h.get? b=some o->h'.get? b=some o)->st h'
structure jv(z TI TO i1 i2:Addr)(vB vA:List Addr):Prop where
 a1:TI≠z
 a2:TO≠z
 a3:i1≠z
 a4:i2≠z
 a5:TI≠TO
 a6:TI≠i1
 a7:TI≠i2
 a8:TO≠i1
 a9:TO≠i2
 b1:z∉vB
 b2:TO∉vB
 b3:i2∉vB
 c1:z∉vA
 c2:TO∉vA
 c3:i1∉vA
section
variable{P:Ys}{w:World}{A:Around}{E:1e6}{s:Shared}{z TI TO i1 i2:Addr}{vB vA:3e8}{R1 R2:Value->Prop}{gE lM st2 Ai:Heap->Prop}
theorem zP{a b:Value}{Q:1e6}(D:jv z TI TO i1 i2 vB vA)(N1:iI P w i1 vB R1 gE lM)(N2:iI P w i2 vA R2 st2 Ai)
  (hz:IsZip s.heap z TI TO .none) (pH:IsPair s.heap TI (.ref i1) (.ref i2)) (rk:IsPair s.heap TO a b) (h1:gE s.heap) (h2:st2 s.heap)
  (hQ:∀x y h' tk,R1 x->R2 y->IsZip h' z TI TO (rawInt s.heap.objs.size)->IsPair h' TO x y->lM h'->Ai h'->IsPair h' s.heap.objs.size x y->h'.objs.size=s.heap.objs.size+1->
   (∀c o,c≠z->c≠TO->c≠i1->c≠i2->s.heap.get? c=some o->h'.get? c=some o)->Q (.ref s.heap.objs.size) {s with heap:=h',toks:=tk}):
  wpAny (model P w) A (V0.«zip.__next__» ⟨[.ref z],[]⟩) (λfin s'=>∃v,fin=.done (.ret v)/\Q v s') E s:=by
 change wpAny _ _ (field (.ref z) 2>>=_) _ _ _;show Ya (XG hz rfl (x:=.bool false) rfl ?_)
 change wpAny _ _ (field (.ref z) 3>>=_) _ _ _;show Ya (XG hz rfl (x:=.ref TI) rfl ?_)
 show Ya (XR pH rfl ?_);change wpAny _ _ (Xy (.ref z)>>=_) _ _ _;show Ya ?_;ext Xy;show Ya (XG hz rfl (x:=.none) rfl (Ye ?_));simp only[if_true];show Ya (VC ?_);show Ya (XG hz rfl (x:=.ref TO) rfl ?_)
 show Ya (Wb hz 4e4 λg1 zE EO=>?_);replace zE:IsZip g1 z TI TO .ellipsis:=zE;show Ya ?_;simp only[List.zipIdx_cons,List.zipIdx_nil,W9,VR];show Ya (Ya (V1 ?_));change wpAny _ _ (YY (.ref i1)>>=_) _ _ _;have k1:∀c o,c≠z->s.heap.get? c=some o->g1.get? c=some o:=λc o n e=>EO.extBut _ _ n e;show Ya (N1.item _ _ _ _ (N1.keep _ _ h1 λb hb o e=>k1 b o (λq=>D.b1 (q▸hb)) e) λx g2 tk2 rx h1' mY=>Ye ?_);have k2:∀c o,c≠z->c≠i1->s.heap.get? c=some o->g2.get? c=some o:=λc o n1 n2 e=>mY.extBut _ _ n2 (k1 c o n1 e);have CM:IsPair g2 TO a b:=k2 _ _ D.a2 D.a8 rk;show Ya (XR CM rfl ?_);show Ya (Vw CM λg3 yV EN=>?_);replace yV:IsPair g3 TO x b:=yV
 have k3:∀c o,c≠z->c≠i1->c≠TO->s.heap.get? c=some o->g3.get? c=some o:=λc o n1 n2 n3 e=>EN.extBut _ _ n3 (k2 c o n1 n2 e);show Ya (wpAny_letGo (Ye ?_));show Ya (Ya (V1 ?_));change wpAny _ _ (YY (.ref i2)>>=_) _ _ _
 show Ya (N2.item _ _ _ _ (N2.keep _ _ h2 λb hb o e=>k3 b o (λq=>D.c1 (q▸hb)) (λq=>D.c3 (q▸hb)) (λq=>D.c2 (q▸hb)) e) λy g4 tk4 ry h2' Ip=>Ye ?_);have RT:IsPair g4 TO x b:=Ip.extBut _ _ D.a9 yV;show Ya (XR RT rfl ?_);show Ya (Vw RT λg5 G5 Io=>?_);replace G5:IsPair g5 TO x y:=G5
 show Ya (wpAny_letGo (Ye (Ye ?_)));show Ya (XR G5 rfl ?_);show Ya (wpAny_newTuple ?_)
 have e1:=EO.1;have e2:=mY.1;have e3:=EN.1;have e4:=Ip.1;have e5:=Io.1
 have hsz:g5.objs.size=s.heap.objs.size:=by simp only at e2 e4;rw[e5,e4,e3,e2,e1]
 have k5:∀c o,c≠z->c≠TO->c≠i1->c≠i2->s.heap.get? c=some o->g5.get? c=some o:=λc o n1 n2 n3 n4 e=>Io.extBut _ _ n2 (Ip.extBut _ _ n4 (k3 c o n1 n3 n2 e));have hz5:IsZip g5 z TI TO .ellipsis:=Io.extBut _ _ D.a2.symm (Ip.extBut _ _ D.a4.symm (EN.extBut _ _ D.a2.symm (mY.extBut _ _ D.a3.symm zE)));have q1:lM g5:=N1.wg _ _ h1' λb hb o e=>Io.extBut _ _ (λq=>D.b2 (q▸hb)) (Ip.extBut _ _ (λq=>D.b3 (q▸hb)) (EN.extBut _ _ (λq=>D.b2 (q▸hb)) e));have q2:Ai g5:=N2.wg _ _ h2' λb hb o e=>Io.extBut _ _ (λq=>D.c2 (q▸hb)) e;have ZJ:z<g5.objs.size:=Yq hz5;change wpAny _ _ (WR (.ref z) (.ref g5.objs.size)>>=_) _ _ _;show Ya ?_;ext WR;have hz6:IsZip (g5.push {cls:=.type "tuple",data:=.seq #[x,y]}) z TI TO .ellipsis:=Yb _ hz5;show Ya (Wb hz6 4e4 λg7 hz7 ZT=>?_);replace hz7:IsZip g7 z TI TO (rawInt g5.objs.size):=hz7;show Wb hz7 4e4 λg8 ZR hs8=>?_;replace ZR:IsZip g8 z TI TO (rawInt g5.objs.size):=ZR;have up:∀c o,c≠z->g5.get? c=some o->g8.get? c=some o:=λc o n e=>hs8.extBut _ _ n (ZT.extBut _ _ n (Yb _ e));have hT8:IsPair g8 g5.objs.size x y:=hs8.extBut _ _ (XI ZJ) (ZT.extBut _ _ (XI ZJ) (Yw _ rfl));have sz8:g8.objs.size=g5.objs.size+1:=by rw[hs8.1,ZT.1,Wv]
 rw[hsz]at ZR hT8 sz8;show Ye ⟨_,rfl,?_⟩;change Q (.ref g5.objs.size) _;rw[hsz]
 show hQ x y g8 _ rx ry ZR (up _ _ D.a2 G5) (N1.wg _ _ q1 λb hb o e=>up b o (λq=>D.b1 (q▸hb)) e) (N2.wg _ _ q2 λb hb o e=>up b o (λq=>D.c1 (q▸hb)) e) hT8 sz8 λc o n1 n2 n3 n4 e=>up c o n1 (k5 c o n1 n2 n3 n4 e)
theorem Fl{a b:Value}{Q:Fin->Shared->Prop}(hh:A.handled=none)(D:jv z TI TO i1 i2 vB vA)
  (N:sN P w i1 vB gE\/∃R1 lM,iI P w i1 vB R1 gE lM/\sN P w i2 vA st2)
  (hz:IsZip s.heap z TI TO .none) (pH:IsPair s.heap TI (.ref i1) (.ref i2)) (rk:IsPair s.heap TO a b) (h1:gE s.heap) (h2:st2 s.heap)
  (hE:∀h' e tk,(∀c o,c≠z->c≠TO->c≠i1->c≠i2->s.heap.get? c=some o->h'.get? c=some o)->(∃o,h'.get? e=some o/\o.cls=.type "StopIteration")->E (.ref e) {s with heap:=h',toks:=tk}):
  wpAny (model P w) A (V0.«zip.__next__» ⟨[.ref z],[]⟩) Q E s:=by
 change wpAny _ _ (field (.ref z) 2>>=_) _ _ _;show Ya (XG hz rfl (x:=.bool false) rfl ?_)
 change wpAny _ _ (field (.ref z) 3>>=_) _ _ _;show Ya (XG hz rfl (x:=.ref TI) rfl ?_)
 show Ya (XR pH rfl ?_);change wpAny _ _ (Xy (.ref z)>>=_) _ _ _;show Ya ?_;ext Xy;show Ya (XG hz rfl (x:=.none) rfl (Ye ?_));simp only[if_true];show Ya (VC ?_);show Ya (XG hz rfl (x:=.ref TO) rfl ?_)
 show Ya (Wb hz 4e4 λg1 zE EO=>?_);replace zE:IsZip g1 z TI TO .ellipsis:=zE;show Ya ?_;simp only[List.zipIdx_cons,List.zipIdx_nil,W9,VR];show Ya (Ya (V1 ?_));change wpAny _ _ (YY (.ref i1)>>=_) _ _ _;have k1:∀c o,c≠z->s.heap.get? c=some o->g1.get? c=some o:=λc o n e=>EO.extBut _ _ n e;rcases N with N1|⟨R1,lM,N1,N2⟩
 ·show Ya (N1.done _ _ _ _ hh (N1.keep _ _ h1 λb hb o e=>k1 b o (λq=>D.b1 (q▸hb)) e) λg2 e mY he=>?_)
  obtain⟨oe,MD,RP⟩:=he;have hz2:IsZip g2 z TI TO .ellipsis:=mY _ _ D.a3.symm zE;have hez:e≠z:=λx=>by subst x;rw[hz2]at MD;cases MD;simp at RP
  show Wb hz2 4e4 λg3 _ EN=>hE g3 e s.toks (λc o n1 _ n3 _ x=>EN.extBut _ _ n1 (mY _ _ n3 (k1 c o n1 x))) ⟨oe,EN.extBut _ _ hez MD,RP⟩
 ·show Ya (N1.item _ _ _ _ (N1.keep _ _ h1 λb hb o e=>k1 b o (λq=>D.b1 (q▸hb)) e) λx g2 tk2 rx h1' mY=>Ye ?_)
  have k2:∀c o,c≠z->c≠i1->s.heap.get? c=some o->g2.get? c=some o:=λc o n1 n2 e=>mY.extBut _ _ n2 (k1 c o n1 e);have CM:IsPair g2 TO a b:=k2 _ _ D.a2 D.a8 rk;show Ya (XR CM rfl ?_);show Ya (Vw CM λg3 yV EN=>?_);replace yV:IsPair g3 TO x b:=yV
  have k3:∀c o,c≠z->c≠i1->c≠TO->s.heap.get? c=some o->g3.get? c=some o:=λc o n1 n2 n3 e=>EN.extBut _ _ n3 (k2 c o n1 n2 e);show Ya (wpAny_letGo (Ye ?_));show Ya (Ya (V1 ?_));change wpAny _ _ (YY (.ref i2)>>=_) _ _ _
  show Ya (N2.done _ _ _ _ hh (N2.keep _ _ h2 λb hb o e=>k3 b o (λq=>D.c1 (q▸hb)) (λq=>D.c3 (q▸hb)) (λq=>D.c2 (q▸hb)) e) λg4 e Ip he=>?_);obtain⟨oe,MD,RP⟩:=he;have hz4:IsZip g4 z TI TO .ellipsis:=Ip _ _ D.a4.symm (EN.extBut _ _ D.a2.symm (mY.extBut _ _ D.a3.symm zE));have hez:e≠z:=λx=>by subst x;rw[hz4]at MD;cases MD;simp at RP
  show Wb hz4 4e4 λg5 _ Io=>hE g5 e tk2 (λc o n1 n2 n3 n4 x=>Io.extBut _ _ n1 (Ip _ _ n4 (k3 c o n1 n3 n2 x))) ⟨oe,Io.extBut _ _ hez MD,RP⟩
theorem zN{a b:Value}{Q:Option Value->Shared->Prop}(D:jv z TI TO i1 i2 vB vA)(N1:iI P w i1 vB R1 gE lM)(N2:iI P w i2 vA R2 st2 Ai)
  (hz:IsZip s.heap z TI TO .none) (pH:IsPair s.heap TI (.ref i1) (.ref i2)) (rk:IsPair s.heap TO a b) (h1:gE s.heap) (h2:st2 s.heap)
  (hQ:∀x y h' tk,R1 x->R2 y->IsZip h' z TI TO (rawInt s.heap.objs.size)->IsPair h' TO x y->lM h'->Ai h'->IsPair h' s.heap.objs.size x y->h'.objs.size=s.heap.objs.size+1->
   (∀c o,c≠z->c≠TO->c≠i1->c≠i2->s.heap.get? c=some o->h'.get? c=some o)->Q (some (.ref s.heap.objs.size)) {s with heap:=h',toks:=tk}):
  wpAny (model P w) A (pyNext (.ref z)) Q E s:=by
 have hT:s.TypeIs (.ref z) "zip":=⟨_,hz,rfl⟩
 ext pyNext;show Ya (wpAny_attempt (Xu (name:=Wl "__next__") hT WD (Xw WD hT PySem.F.entry_zip_next
   (zP D N1 N2 hz pH rk h1 h2 λx y h' tk a1 a2 a3 a4 a5 a6 a7 a8 a9=>Ye (hQ x y h' tk a1 a2 a3 a4 a5 a6 a7 a8 a9)) (PySem.F.args_zip_next_1 _))))
theorem pN{a b:Value}{Q:Option Value->Shared->Prop}(hh:A.handled=none)(D:jv z TI TO i1 i2 vB vA)
  (N:sN P w i1 vB gE\/∃R1 lM,iI P w i1 vB R1 gE lM/\sN P w i2 vA st2)
  (hz:IsZip s.heap z TI TO .none) (pH:IsPair s.heap TI (.ref i1) (.ref i2)) (rk:IsPair s.heap TO a b) (h1:gE s.heap) (h2:st2 s.heap)
  (hQ:∀h' tk,(∀c o,c≠z->c≠TO->c≠i1->c≠i2->s.heap.get? c=some o->h'.get? c=some o)->Q none {s with heap:=h',toks:=tk}):wpAny (model P w) A (pyNext (.ref z)) Q E s:=by
 have hT:s.TypeIs (.ref z) "zip":=⟨_,hz,rfl⟩
 ext pyNext;show Ya (wpAny_attempt (Xu (name:=Wl "__next__") hT WD (Xw WD hT PySem.F.entry_zip_next (Fl hh D N hz pH rk h1 h2 λh' e tk hk he=>?_) (PySem.F.args_zip_next_1 _))));obtain⟨o,ho,hc⟩:=he;show Ya (wpAny_isInstance (T:="StopIteration") (b:=true) ⟨o,ho,hc⟩ isSubtype_stop (Ye (hQ _ _ hk)))
theorem sZ{it t:Addr}{i:Nat}{items:Array Value}{x:Value}{Q:1e6}(hit:s.heap.IsTupleIter it t i)(ht:s.heap.IsTuple t items)(hx:items[i]? = some x)
  (hQ:∀h',h'.IsTupleIter it t (i+1)->Wj it s.heap h'->Q x {s with heap:=h'}):wpAny (model P w) A (YY (.ref it)) Q E s:=by
 obtain⟨o,ho,hc,hd⟩:=id hit;obtain⟨ol,rh,_,nl,wy⟩:=ht;ext YY;show Ya (Xu (name:=Wl "__next__") hit.typeIs XM (Xw XM hit.typeIs Va ?_ (W2 _)));change wpAny _ _ (field (.ref it) 0>>=_) _ _ s;show Ya (XG ho hd (x:=.ref t) rfl ?_)
 change wpAny _ _ (if(Y9 t==Y8)=true then _ else _) _ _ s;rw[if_neg (show¬((Y9 t==Y8)=true)from Yi)];change wpAny _ _ (field (.ref it) 1>>=_) _ _ s;show Ya (XG ho hd (x:=.int i 0) rfl ?_)
 change wpAny _ _ (seqItems? (.ref t)>>=_) _ _ s;show Ya (XR rh wy ?_);simp only[X1,hx]
 show Ya (VT ho hd 4e4 (Ye ⟨x,rfl,Ye (hQ _ ?_ (Wr ..))⟩));show⟨_,Vr _ ho (Obj.isFreed_of_fields (Vb hd _)),(Obj.cls_mapFields ..).trans hc,by rw[Vb hd];simp[rawInt]⟩
theorem pW{it t:Addr}{i:Nat}{items:Array Value}{Q:1e6}(hh:A.handled=none)(hit:s.heap.IsTupleIter it t i)(ht:s.heap.IsTuple t items)(hx:items[i]? = none)
  (hE:∀h' e,Up it s.heap h'->(∃o,h'.get? e=some o/\o.cls=.type "StopIteration")->E (.ref e) {s with heap:=h'}):wpAny (model P w) A (YY (.ref it)) Q E s:=by
 obtain⟨o,ho,hc,hd⟩:=id hit;obtain⟨ol,rh,_,nl,wy⟩:=ht;ext YY;show Ya (Xu (name:=Wl "__next__") hit.typeIs XM (Xw XM hit.typeIs Va ?_ (W2 _)));change wpAny _ _ (field (.ref it) 0>>=_) _ _ s;show Ya (XG ho hd (x:=.ref t) rfl ?_)
 change wpAny _ _ (if(Y9 t==Y8)=true then _ else _) _ _ s;rw[if_neg (show¬((Y9 t==Y8)=true)from Yi)];change wpAny _ _ (field (.ref it) 1>>=_) _ _ s;show Ya (XG ho hd (x:=.int i 0) rfl ?_)
 change wpAny _ _ (seqItems? (.ref t)>>=_) _ _ s;show Ya (XR rh wy ?_);simp only[X1,hx]
 show Ya (VC (Ya (VT ho hd 4e4 ?_)));change wpAny _ _ (newExc (.type "StopIteration") []>>=_) _ _ _;show Ya ?_;simp only[newExc,newTuple];show Ya (Xz ?_ (by size_fits))
 show Ya (m:=firstArgMember _ _) (wpAny_of_eq (a:=Y8) (by first|rfl|(simp only[firstArgMember];rfl)) ?_);show Xz ?_ (by size_fits)
 simp only[raiseNew];show Ya (wpAny_handled ?_);first|rw[show A.in1.handled=none from hh]|rw[hh]
 show Ya (Ye (wpAny_throw ?_));show hE _ _ (((Wr ..).extBut.push _).push _) ⟨_,Yw _ rfl,rfl⟩
end
inductive ZS where
 |l (a:Addr)|t (a:Addr)|s (z:Str) (tk:Tok) (wd:Bool)
def ZS.at'(S:ZS)(it:Addr)(i:Nat)(h:Heap):Prop:=match S with
 |.l a=>h.IsListIter it a i
 |.t a=>h.IsTupleIter it a i
 |.s z tk wd=>h.IsStrIter it (if wd then "str_iterator" else "str_ascii_iterator") z tk i
def ZS.has(K:W.Frag)(H:Hp)(S:ZS)(i:Nat)(v:V):Prop:=match S with
 |.l a=>∃xs,fB K H a xs/\xs[i]? = some v
 |.t a=>∃xs,iz K H a xs/\xs[i]? = some v
 |.s z _ _=>∃c,z.cps[i]? = some c/\v=.str ⟨#[c]⟩
def ZS.ends(K:W.Frag)(H:Hp)(S:ZS)(i:Nat):Prop:=match S with
 |.l a=>∃xs,fB K H a xs/\xs.length<=i
 |.t a=>∃xs,iz K H a xs/\xs.length<=i
 |.s z _ _=>z.cps.size<=i
def ZS.us(S:ZS)(it:Addr):List Addr:=match S with
 |.l a=>[it,a]
 |.t a=>[it,a]
 |.s _ _ _=>[it]
theorem ZS.iC{S:ZS}{it:Addr}{i:Nat}{h h':Heap}(x:S.at' it i h)(k:∀o,h.get? it=some o->h'.get? it=some o):S.at' it i h':=by
 cases S with
 |l a=>show Heap.IsListIter.at x k
 |t a=>show Heap.IsTupleIter.at x k
 |s z tk wd=>obtain⟨o,e,r⟩:=x;show⟨o,k o e,r⟩
section
variable{X:Cx}{pins:2e2}{σ:St}{H:Hp}{s:Shared}
theorem oA{S:ZS}{it:Addr}{i:Nat}{v:V}(I:2e4)(hs:S.has X.K H i v)(ne:∀b∈S.us it,b=it\/b≠it)(eT:∀a,(S=.l a\/S=.t a)->a≠it):
  ∃st:Heap->Prop,(S.at' it i s.heap->st s.heap)/\iI X.prog X.w it (S.us it) (λu=>RelV v u) st (λh=>S.at' it (i+1) h):=by
 cases S with
 |l a=>
  obtain⟨xs,hq,hx⟩:=hs;obtain⟨aM,rv,p,hz⟩:=I.list hq;obtain⟨u,hu,ru⟩:=rv.get hx;show⟨λh=>h.IsListIter it a i/\h.IsList a aM.toArray,λx=>⟨x,p.isList⟩,⟨λA E s Q st hQ=>?_,λh h' st k=>⟨st.1.at λo e=>k it 17e5 o e,st.2.at λo e=>k a 17e5 o e⟩,λh h' st k=>Heap.IsListIter.at st λo e=>k it 17e5 o e⟩⟩;show wpAny_nextOf_list_item st.1 st.2 (x:=u) (by simpa using hu) λh' a1 a2=>hQ u h' s.toks ru a1 a2
 |t a=>
  obtain⟨xs,hq,hx⟩:=hs;obtain⟨aM,rv,p,hz⟩:=I.tuple hq;obtain⟨u,hu,ru⟩:=rv.get hx;show⟨λh=>h.IsTupleIter it a i/\h.IsTuple a aM.toArray,λx=>⟨x,p⟩,⟨λA E s Q st hQ=>?_,λh h' st k=>⟨st.1.at λo e=>k it 17e5 o e,st.2.at λo e=>k a 17e5 o e⟩,λh h' st k=>Heap.IsTupleIter.at st λo e=>k it 17e5 o e⟩⟩;show sZ st.1 st.2 (x:=u) (by simpa using hu) λh' a1 a2=>hQ u h' s.toks ru a1 a2
 |s z tk wd=>
  obtain⟨c,hc,rfl⟩:=hs;show⟨λh=>ZS.at' (.s z tk wd) it i h,λx=>x,⟨λA E s Q st hQ=>?_,λh h' st k=>ZS.iC st λo e=>k it 17e5 o e,λh h' st k=>ZS.iC (S:=.s z tk wd) st λo e=>k it 17e5 o e⟩⟩;cases wd with
  |true=>show wpAny_nextOf_wide_item st hc λh' a1 a2=>hQ _ h' _ 6e5 a1 a2
  |false=>show wpAny_nextOf_ascii_item st hc λh' a1 a2=>hQ _ h' _ 6e5 a1 a2
theorem Df{S:ZS}{it:Addr}{i:Nat}(I:2e4)(hs:S.ends X.K H i):∃st:Heap->Prop,(S.at' it i s.heap->st s.heap)/\sN X.prog X.w it (S.us it) st:=by
 cases S with
 |l a=>
  obtain⟨xs,hq,hx⟩:=hs;obtain⟨aM,rv,p,hz⟩:=I.list hq;have hl:=rv.length;show⟨λh=>h.IsListIter it a i/\h.IsList a aM.toArray,λx=>⟨x,p.isList⟩,⟨λA E s Q hh st hE=>wpAny_nextOf_list_end hh st.1 st.2 14e9 hE,λh h' st k=>⟨st.1.at λo e=>k it 17e5 o e,st.2.at λo e=>k a 17e5 o e⟩⟩⟩
 |t a=>
  obtain⟨xs,hq,hx⟩:=hs;obtain⟨aM,rv,p,hz⟩:=I.tuple hq;have hl:=rv.length;show⟨λh=>h.IsTupleIter it a i/\h.IsTuple a aM.toArray,λx=>⟨x,p⟩,⟨λA E s Q hh st hE=>pW hh st.1 st.2 14e9 hE,λh h' st k=>⟨st.1.at λo e=>k it 17e5 o e,st.2.at λo e=>k a 17e5 o e⟩⟩⟩
 |s z tk wd=>
  show⟨λh=>ZS.at' (.s z tk wd) it i h,λx=>x,⟨λA E s Q hh st hE=>?_,λh h' st k=>ZS.iC st λo e=>k it 17e5 o e⟩⟩;have hx:z.cps[i]? = none:=X7 hs;cases wd with
  |true=>show wpAny_nextOf_wide_end hh st hx hE
  |false=>show wpAny_nextOf_ascii_end hh st hx hE
end
noncomputable def ZS.val:ZS->Value
 |.l a=>.ref a
 |.t a=>.ref a
 |.s z tk _=>.str z tk
noncomputable def ZS.obj:ZS->Obj
 |.l a=>{cls:=.type "list_iterator",data:=.fields #[.ref a,.int 0 0]}
 |.t a=>{cls:=.type "tuple_iterator",data:=.fields #[.ref a,.int 0 0]}
 |.s z tk wd=>{cls:=.type (if wd then "str_iterator" else "str_ascii_iterator"),data:=.fields #[.str z tk,.int 0 0]}
def ZS.src(S:ZS)(h:Heap):Prop:=match S with
 |.l a=>∃aM,h.IsList a aM
 |.t a=>∃aM,h.IsTuple a aM
 |.s z _ wd=>wd=!(z.cps.all (· < 128))
theorem ZS.Aj{S:ZS}{h:Heap}(x:S.src h)(o:Obj):S.src (h.push o):=by
 cases S with
 |l a=>obtain⟨aM,e⟩:=x;show⟨aM,Heap.IsList.push e _⟩
 |t a=>obtain⟨aM,e⟩:=x;show⟨aM,Heap.IsTuple.at e λo e=>Yb _ e⟩
 |s z tk wd=>show x
theorem ZS.iter{S:ZS}{P:Ys}{w:World}{A:Around}{E:1e6}{s:Shared}{Q:1e6}(x:S.src s.heap)(hQ:Q 11e4 {s with heap:=s.heap.push S.obj}):
  wpAny (model P w) A (pyIter S.val) Q E s:=by
 cases S with
 |l a=>obtain⟨aM,e⟩:=x;show Vm e hQ
 |t a=>obtain⟨aM,e⟩:=x;show wpAny_pyIter_tuple e hQ
 |s z tk wd=>
  cases ha:z.cps.all (· < 128)with
  |true=>
   have:wd=false:=by rw[show wd=!(z.cps.all (· < 128))from x,ha];rfl
   subst this;show wpAny_pyIter_ascii ha hQ
  |false=>
   have:wd=true:=by rw[show wd=!(z.cps.all (· < 128))from x,ha];rfl
   subst this;show wpAny_pyIter_wide ha hQ
abbrev Zt(h:Heap)(S1 S2:ZS):Heap:=((h.push S1.obj).push S2.obj).push {cls:=.type "tuple",data:=.seq #[.ref h.objs.size,.ref (h.push S1.obj).objs.size]}
abbrev Zs(h:Heap)(S1 S2:ZS):Heap:=(Zt h S1 S2).push {cls:=.type "tuple",data:=.seq #[.none,.none]}
abbrev HH(h:Heap)(S1 S2:ZS):Heap:=(Zs h S1 S2).push {cls:=.type "zip",data:=.fields #[.none,.bool false,.bool false,.ref ((h.push S1.obj).push S2.obj).objs.size,.ref (Zt h S1 S2).objs.size]}
theorem Fj(S1 S2:ZS):Meets (V0.«zip.__new__» ⟨[.type "zip",S1.val,S2.val],[]⟩) (λ_ R s=>S1.src s.heap/\S2.src s.heap/\R (.ok (.ret (.ref (Zs s.heap S1 S2).objs.size))) {s with heap:=HH s.heap S1 S2}):=
 .of_wp λprog w A R ⟨hp,g,d,tk,os⟩ ⟨OT,G0,h⟩=>by
  have below:=sub_zip;have hL1:S1.src (Shared.heap ⟨hp,g,d,tk,os⟩):=OT;have hL2:S2.src (Shared.heap ⟨hp.push S1.obj,g,d,tk,os⟩):=ZS.Aj G0 _
  wp_walk using ZS.iter hL1,ZS.iter hL2
  show⟨_,rfl,h⟩
section
variable{X:Cx}{pins:2e2}{σ:St}{H:Hp}{s:Shared}
theorem jW{t':Nat}{h':Heap}{ch:3e8}(I:2e4)(k:∀b o,b∉ch->s.heap.get? b=some o->h'.get? b=some o)(hf:∀b∈ch,fe X pins H b):Inv X pins σ H {s with heap:=h',toks:=t'}:=by
 have Qt:∀b u,H b=some u->b∉ch:=λb u e z=>by rw[(hf b z).1]at e;cases e
 show I.step (g':=s.gens) (d':=s.drawn) (ch:=ch) (λb hb=>⟨(hf b hb).2.2.2.1,(hf b hb).2.1,(hf b hb).2.2.2.2.1,(hf b hb).2.2.2.2.2⟩) (λb o _ _ hc e _=>k b o hc e) (λb o _ _ hc e _=>⟨o.slots,k b o hc e⟩) (λ_ _ _ _ n=>n)
  (λb o hc e=>⟨o,k b o hc e⟩) (λ_ _ e=>e) (λ_ _ _ e=>e) (λb ps e=>⟨#[],by rw[e];simp⟩) (λm hm=>?_) (λb u e=>?_) I.bare
 ·obtain⟨o,es,ep,ho,r⟩:=hm
  show⟨o,es,ep,k _ o (λz=>(hf _ z).2.1 rfl) ho,r⟩
 ·show(I.bV b u e).d9 (λc v hc q=>k c v ?_ q) (λ_ q=>q) λ_ _ q=>q
  rcases hc with z|z
  ·rw[z];show Qt b u e
  ·show Qt c _ z
theorem ZcW{a b:Addr}{xs:List V}(I:2e4)(h:fB X.K H a xs)(f:fe X pins H b):a≠b:=by
 rintro rfl;rcases h with(h|⟨o,h⟩)|⟨o,aM,n,hk,_⟩
 ·rw[f.1]at h;cases h
 ·rw[f.1]at h;cases h
 ·have hb:=I.ok.mod.OF _ _ hk
  rcases f.2.2.2.1 with z|z
  ·show I.ok.qD _ _ hb z
  ·show absurd (Yu (Yq hb) (YI I.ok.Hs z)) (XZ _)
theorem ZcV{a b:Addr}{xs:List V}(I:2e4)(h:iz X.K H a xs)(f:fe X pins H b):a≠b:=by
 rintro rfl;rcases h with(h|⟨o,h⟩)|⟨o,aM,n,hk,_⟩
 ·rw[f.1]at h;cases h
 ·rw[f.1]at h;cases h
 ·have hb:=I.ok.mod.OF _ _ hk
  rcases f.2.2.2.1 with z|z
  ·show I.ok.qD _ _ hb z
  ·show absurd (Yu (Yq hb) (YI I.ok.Hs z)) (XZ _)
def ZS.rd(S:ZS)(K:W.Frag)(H:Hp):Prop:=match S with
 |.l a=>∃xs,fB K H a xs
 |.t a=>∃xs,iz K H a xs
 |.s _ _ _=>True
theorem zJ{S:ZS}{it b:Addr}(I:2e4)(r:S.rd X.K H)(f:fe X pins H b)(hb:it≠b):b∉S.us it:=by
 cases S with
 |l a=>
  obtain⟨xs,h⟩:=r;intro z;rcases Yd.mp z with z|z
  ·show hb z.symm
  ·show ZcW I h f (Yj.mp z).symm
 |t a=>
  obtain⟨xs,h⟩:=r;intro z;rcases Yd.mp z with z|z
  ·show hb z.symm
  ·show ZcV I h f (Yj.mp z).symm
 |s z tk wd=>
  intro q;show hb (Yj.mp q).symm
theorem wz{S:ZS}{i:Nat}{u v:V}(I:2e4)(h:S.has X.K H i u)(h':S.has X.K H i v):u=v:=by
 cases S with
 |l a=>
  obtain⟨xs,h1,h2⟩:=h;obtain⟨ys,h3,h4⟩:=h';rw[I.kF h1 h3,h4]at h2;show(YF h2).symm
 |t a=>
  obtain⟨xs,h1,h2⟩:=h;obtain⟨ys,h3,h4⟩:=h';rw[I.md h1 h3,h4]at h2;show(YF h2).symm
 |s z tk wd=>
  obtain⟨c,h1,rfl⟩:=h;obtain⟨d,h2,rfl⟩:=h';rw[h1]at h2;cases h2;rfl
theorem ZS.jm{S:ZS}{K:W.Frag}{i:Nat}{v:V}(h:S.has K H i v):S.rd K H:=by
 cases S with
 |l a=>obtain⟨xs,h,_⟩:=h;show⟨xs,h⟩
 |t a=>obtain⟨xs,h,_⟩:=h;show⟨xs,h⟩
 |s z tk wd=>trivial
end
structure ZNe(z TI TO i1 i2:Addr):Prop where
 a1:TI≠z
 a2:TO≠z
 a3:i1≠z
 a4:i2≠z
 a5:TI≠TO
 a6:TI≠i1
 a7:TI≠i2
 a8:TO≠i1
 a9:TO≠i2
 a10:i1≠i2
theorem zne(n:Nat):ZNe (n+4) (n+2) (n+3) n (n+1):=by
 have h:∀a b:Nat,a≠b->n+a≠n+b:=λa b h e=>h (Nat.add_left_cancel e);show⟨h 2 4 1e2,h 3 4 1e2,h 0 4 1e2,h 1 4 1e2,h 2 3 1e2,h 2 0 1e2,h 2 1 1e2,h 3 0 1e2,h 3 1 1e2,h 0 1 1e2⟩
def Jz(K:W.Frag)(S1 S2:ZS):It:=⟨λi H=>(∃v,S1.has K H i v)/\∃v,S2.has K H i v,λi H x H'=>∃a u v,H a=none/\x=.ref a/\H'=upd H a (.tup [u,v])/\(∀u',S1.has K H i u'->u'=u)/\∀v',S2.has K H i v'->v'=v,
 λi H=>S1.rd K H/\S2.rd K H/\(S1.ends K H i\/((∃v,S1.has K H i v)/\S2.ends K H i))⟩
theorem zX{P:Ys}{w:World}{K:W.Frag}{elts:6e1}{x1:Nat}{pos:Pos}{S1 S2:ZS}{z TI TO i1 i2:Addr}(N:ZNe z TI TO i1 i2):Turn P w K (.Tuple elts x1 pos) (Jz K S1 S2) [z,TI,TO,i1,i2] z
  (λi h=>IsZip h z TI TO .none/\IsPair h TI (.ref i1) (.ref i2)/\(∃a b,IsPair h TO a b)/\S1.at' i1 i h/\S2.at' i2 i h) where
 mem:=by simp
 obj:=λi h st b hb=>by
  obtain⟨hz,pH,⟨a,c,rk⟩,h1,h2⟩:=st;have it:∀{S:ZS}{it:Addr},S.at' it i h->∃o,h.get? it=some o/\∀v,o.data≠.cell v:=λ{S it} x=>by
   cases S with
   |l a=>obtain⟨o,e,_,d⟩:=x;show⟨o,e,λv q=>by rw[d]at q;cases q⟩
   |t a=>obtain⟨o,e,_,d⟩:=x;show⟨o,e,λv q=>by rw[d]at q;cases q⟩
   |s z tk wd=>obtain⟨o,e,_,d⟩:=x;show⟨o,e,λv q=>by rw[d]at q;cases q⟩
  simp only[Yd,YQ,or_false]at hb;rcases hb with rfl|rfl|rfl|rfl|rfl
  ·show⟨_,hz,λv q=>by cases q⟩
  ·show⟨_,pH,λv q=>by cases q⟩
  ·show⟨_,rk,λv q=>by cases q⟩
  ·show it h1
  ·show it h2
 keep:=λi h h' st k=>by
  obtain⟨hz,pH,⟨a,c,rk⟩,h1,h2⟩:=st;show⟨k z 4e4 _ hz,k TI 4e4 _ pH,⟨a,c,k TO 4e4 _ rk⟩,ZS.iC h1 λo e=>k i1 4e4 o e,ZS.iC h2 λo e=>k i2 4e4 o e⟩
 item:=by
  sleep 3;obtain⟨hz,pH,⟨a,c,rk⟩,h1,h2⟩:=st;obtain⟨⟨v1,g1⟩,⟨v2,g2⟩⟩:=hg;have f:=λb hb=>hf b hb;obtain⟨gE,e1,N1⟩:=oA (it:=i1) I g1 (λb _=>Classical.em _) (λa ha=>by rcases ha with rfl|rfl;show ZcW I g1.choose_spec.1 (f i1 (by simp));show ZcV I g1.choose_spec.1 (f i1 (by simp)));obtain⟨st2,e2,N2⟩:=oA (it:=i2) I g2 (λb _=>Classical.em _) (λa ha=>by rcases ha with rfl|rfl;show ZcW I g2.choose_spec.1 (f i2 (by simp));show ZcV I g2.choose_spec.1 (f i2 (by simp)));have D:jv z TI TO i1 i2 (S1.us i1) (S2.us i2):=⟨N.a1,N.a2,N.a3,N.a4,N.a5,N.a6,N.a7,N.a8,N.a9,zJ I (ZS.jm g1) (f z 4e4) N.a3,zJ I (ZS.jm g1) (f TO 4e4) N.a8.symm,zJ I (ZS.jm g1) (f i2 4e4) N.a10,
   zJ I (ZS.jm g2) (f z (by simp)) N.a4,zJ I (ZS.jm g2) (f TO (by simp)) N.a9.symm,zJ I (ZS.jm g2) (f i1 (by simp)) N.a10.symm⟩
  show zN D N1 N2 hz pH rk (e1 h1) (e2 h2) λx y h' tk rx ry a1 a2 a3 a4 a5 a6 a7=>⟨_,rfl,?_⟩
  show wpAny_letOwnedTupleGo_zip (s:={s with heap:=h',toks:=tk}) a1 λh3 hz3 sb=>?_;have dQ:∀{b o},s.heap.get? b=some o->b≠s.heap.objs.size:=λe=>Yp (Yq e);have J1:Inv X pins σ H {s with heap:=h3,toks:=tk}:=jW (ch:=[z,TI,TO,i1,i2]) I (λb o hb e=>by
   simp only[Yd,YQ,or_false,not_or]at hb;show sb.extBut _ _ hb.1 (a7 b o hb.1 hb.2.2.1 hb.2.2.2.1 hb.2.2.2.2 e)) hf
  have hn:H s.heap.objs.size=none:=I.bV.fresh (Yl _);have ZJ:=dQ hz;have hT:IsPair h3 s.heap.objs.size x y:=sb.extBut _ _ ZJ.symm a5;have J2:=HJ (ob:=.tup [v1,v2]) J1 hn I.sz (XI I.lt) (λx c e=>by obtain⟨v,q⟩:=I.cell x c e;show Yp q.lt) (λp hp=>dQ (I.pin p hp).1)
   ⟨by change 2<=Yt;rw[YV];decide,[x,y],.cons rx (.cons ry .nil),⟨_,hT,rfl,_,rfl⟩⟩
  show⟨.ref s.heap.objs.size,_,J2,rfl,⟨_,v1,v2,hn,rfl,rfl,λu' q=>wz I q g1,λu' q=>wz I q g2⟩,⟨hz3,sb.extBut _ _ N.a1 (a7 TI _ N.a1 N.a5 N.a6 N.a7 pH),⟨_,_,sb.extBut _ _ N.a2 a2⟩,ZS.iC a3 λo e=>sb.extBut _ _ N.a3 e,ZS.iC a4 λo e=>sb.extBut _ _ N.a4 e⟩,λb hb=>?_⟩;have yU:b≠s.heap.objs.size:=by
   simp only[Yd,YQ,or_false]at hb;have it:∀{S:ZS}{it:Addr},S.at' it i s.heap->it≠s.heap.objs.size:=λ{S it} x=>by
    cases S with
    |l a=>obtain⟨o,e,_⟩:=x;show dQ e
    |t a=>obtain⟨o,e,_⟩:=x;show dQ e
    |s z tk wd=>obtain⟨o,e,_⟩:=x;show dQ e
   rcases hb with rfl|rfl|rfl|rfl|rfl
   ·show dQ hz
   ·show dQ pH
   ·show dQ rk
   ·show it h1
   ·show it h2
  rw[dH yU];show(hf b hb).1
 done:=by
  sleep 3;obtain⟨hz,pH,⟨a,c,rk⟩,h1,h2⟩:=st;obtain⟨r1,r2,hg⟩:=hg;have f:=λb hb=>hf b hb;have D:jv z TI TO i1 i2 (S1.us i1) (S2.us i2):=⟨N.a1,N.a2,N.a3,N.a4,N.a5,N.a6,N.a7,N.a8,N.a9,zJ I r1 (f z 4e4) N.a3,zJ I r1 (f TO 4e4) N.a8.symm,zJ I r1 (f i2 4e4) N.a10,
   zJ I r2 (f z (by simp)) N.a4,zJ I r2 (f TO (by simp)) N.a9.symm,zJ I r2 (f i1 (by simp)) N.a10.symm⟩
  have fin:∀h' tk,(∀c o,c≠z->c≠TO->c≠i1->c≠i2->s.heap.get? c=some o->h'.get? c=some o)->(none:Option Value)=none/\Inv X pins σ H {s with heap:=h',toks:=tk}:=λh' tk k=>⟨rfl,jW (ch:=[z,TI,TO,i1,i2]) I (λb o hb e=>by
   simp only[Yd,YQ,or_false,not_or]at hb;show k b o hb.1 hb.2.2.1 hb.2.2.2.1 hb.2.2.2.2 e) hf⟩
  rcases hg with g1|⟨⟨v1,g1⟩,g2⟩
  ·obtain⟨gE,e1,N1⟩:=Df (it:=i1) I g1
   show pN (st2:=λ_=>True) (I.ok.hd hc) D (.inl N1) hz pH rk (e1 h1) trivial fin
  ·obtain⟨gE,e1,N1⟩:=oA (it:=i1) I g1 (λb _=>Classical.em _) (λa ha=>by rcases ha with rfl|rfl;show ZcW I g1.choose_spec.1 (f i1 (by simp));show ZcV I g1.choose_spec.1 (f i1 (by simp)))
   obtain⟨st2,e2,N2⟩:=Df (it:=i2) I g2;show pN (I.ok.hd hc) D (.inr ⟨_,_,N1,N2⟩) hz pH rk (e1 h1) (e2 h2) fin
 self:=λ_ _ _ _ _ st h=>wpAny_pyIter_zip st.1 h
structure N6(K:W.Frag)(ι:List Addr)(H:Hp)(S:ZS)(ps:List PV):Prop where
 rd:∀ι2 H2,Ex ι ι2 H H2->S.rd K H2
 has:∀ι2 H2,Ex ι ι2 H H2->∀i p,ps[i]? = some p->∃v,S.has K H2 i v/\Rep K 9e7 H2 p v
 ends:∀ι2 H2,Ex ι ι2 H H2->∀i,ps.length<=i->S.ends K H2 i
section
variable{X:Cx}{pins:2e2}{σ:St}{H:Hp}{s:Shared}
theorem Ak{ι:3e8}{C:Cs}{x:SV}{ps:List PV}{v:V}{u:Value}(I:2e4)(cr:CR X.K ι H C)(r:cw X.K ι H x v)(e:bz x=some ps)(ru:RelV v u):∃S:ZS,u=S.val/\S.src s.heap/\N6 X.K ι H S ps:=by
 ext bz e;split at e
 ·cases e
  replace r:Rep X.K ι H (.lst _) v:=r;ext Rep r;obtain⟨a,vs,rfl,hq,rv⟩:=r;obtain⟨aM,_,p,_⟩:=I.list hq.sq;have keep:∀ι2 H2,Ex ι ι2 H H2->fB X.K H2 a vs:=λι2 H2 x=>by
   rcases hq with⟨n,q|⟨o,q⟩⟩|q
   ·show .inl (.inl (x.out _ _ n q).2)
   ·show .inl (.inr ⟨o,(x.out _ _ n q).2⟩)
   ·show .inr q
  show⟨.l a,ru,⟨_,p.isList⟩,λι2 H2 x=>⟨vs,keep ι2 H2 x⟩,λι2 H2 x i p hp=>?_,λι2 H2 x i hi=>⟨vs,keep ι2 H2 x,by rw[←rv.length];show hi⟩⟩;obtain⟨w,e1,r1⟩:=rv.get hp;show⟨w,⟨vs,keep ι2 H2 x,e1⟩,Rep.tr cr x.out p w r1⟩
 ·cases e
  replace r:Rep X.K ι H (.tup _) v:=r;ext Rep r;obtain⟨a,vs,rfl,hq,rv⟩:=r;obtain⟨aM,_,p,_⟩:=I.tuple hq.sq;have keep:∀ι2 H2,Ex ι ι2 H H2->iz X.K H2 a vs:=λι2 H2 x=>by
   rcases hq.sq (K:=X.K)with(q|⟨o,q⟩)|q
   ·show .inl (.inl (x.out _ _ (cr.mE q (λ_ e=>nomatch e) λ_ e=>nomatch e) q).2)
   ·show .inl (.inr ⟨o,(x.out _ _ (cr.mE q (λ_ e=>nomatch e) λ_ e=>nomatch e) q).2⟩)
   ·show .inr q
  show⟨.t a,ru,⟨_,p⟩,λι2 H2 x=>⟨vs,keep ι2 H2 x⟩,λι2 H2 x i p hp=>?_,λι2 H2 x i hi=>⟨vs,keep ι2 H2 x,by rw[←rv.length];show hi⟩⟩;obtain⟨w,e1,r1⟩:=rv.get hp;show⟨w,⟨vs,keep ι2 H2 x,e1⟩,Rep.tr cr x.out p w r1⟩
 ·cases e
  rename Str=>z
  replace r:Rep X.K ι H (.str z) v:=r;ext Rep r;obtain⟨rfl,hz⟩:=r;obtain⟨t,rfl⟩:=ru;show⟨.s z t (!(z.cps.all (· < 128))),rfl,rfl,λ_ _ _=>trivial,λι2 H2 x i p hp=>?_,λι2 H2 x i hi=>by change z.cps.size<=i;simpa using hi⟩;rw[YL]at hp;cases hc:z.cps.toList[i]? with
  |none=>rw[hc]at hp;cases hp
  |some d=>
   rw[hc]at hp;cases hp;show⟨.str ⟨#[d]⟩,⟨d,by simpa using hc,rfl⟩,yb (by change 1<=Yt;rw[YV];decide)⟩
 ·cases e
theorem CA{K:W.Frag}{ι:3e8}{S1 S2:ZS}{ps qs:List PV}(Z1:N6 K ι H S1 ps)(Z2:N6 K ι H S2 qs):Iter K ι H (Xl (λa b=>.tup [a,b]) ps qs) (Jz K S1 S2):=by
 have hl:(Xl (λa b=>PV.tup [a,b]) ps qs).length=min ps.length qs.length:=by simp
 show⟨λι2 H2 C2 x c i hi=>?_,λι2 H2 C2 x c i v H3 hi y=>?_,λι2 H2 C2 x c=>?_⟩
 ·rw[hl]at hi
  have h1:i<ps.length:=by lia
  have h2:i<qs.length:=by lia
  obtain⟨v,g1,_⟩:=Z1.has ι2 H2 x i _ (Yc h1);obtain⟨u,g2,_⟩:=Z2.has ι2 H2 x i _ (Yc h2);show⟨⟨v,g1⟩,⟨u,g2⟩⟩
 ·rw[hl]at hi
  have h1:i<ps.length:=by lia
  have h2:i<qs.length:=by lia
  obtain⟨v1,g1,r1⟩:=Z1.has ι2 H2 x i _ (Yc h1);obtain⟨v2,g2,r2⟩:=Z2.has ι2 H2 x i _ (Yc h2);obtain⟨a,u,w,hn,rfl,rfl,e1,e2⟩:=y;rw[←e1 v1 g1,←e2 v2 g2];show⟨λb o e=>by rw[dH (i4 e hn)];show e,.tup [ps[i],qs[i]],?_,O' hn (.cons r1 (.cons r2 .nil))⟩;rw[List.getElem?_zipWith,Yc h1,Yc h2]
 ·show⟨Z1.rd ι2 H2 x,Z2.rd ι2 H2 x,?_⟩
  rw[hl];rcases Nat.le_total ps.length qs.length with h|h
  ·show .inl (Z1.ends ι2 H2 x _ 1e4)
  ·by_cases he:ps.length<=qs.length
   ·show .inl (Z1.ends ι2 H2 x _ 1e4)
   ·right
    have h1:min ps.length qs.length<ps.length:=by lia
    obtain⟨v,g1,_⟩:=Z1.has ι2 H2 x _ _ (Yc h1);show⟨⟨v,g1⟩,Z2.ends ι2 H2 x _ 1e4⟩
end
def Fm:List SV->Option 7e7
 |[x,y]=>match bz x,bz y with
  |some ps,some qs=>some (Xl (λa b=>.tup [a,b]) ps qs)
  |_,_=>none
 |_=>none
theorem xH{xs:List SV}{ys:List PV}(h:Fm xs=some ys):∃x y ps qs,xs=[x,y]/\bz x=some ps/\bz y=some qs/\ys=Xl (λa b=>.tup [a,b]) ps qs:=by
 ext Fm h;split at h
 ·split at h
  ·cases h;show⟨_,_,_,_,rfl,by assumption,by assumption,rfl⟩
  ·cases h
 ·cases h
def Gx(fs:2e8):aG->M 7e7:=λρ=>aW (fs ρ) λxs=>cK λ_=>Fm xs
mutual
noncomputable def af (h:Heap):PV->Value->Prop
 |.aP,u=>u=.none
 |.bl b,u=>u=.bool b
 |.int i,u=>∃t,u=.int i t
 |.str x,u=>∃t,u=.str x t
 |.tup ps,u=>∃(a:Addr)(us:4e1),u=.ref a/\h.IsTuple a us.toArray/\aA h ps us
 |.lst ps,u=>∃(a:Addr)(us:4e1),u=.ref a/\h.IsList a us.toArray/\aA h ps us
 |_,_=>False
noncomputable def aA (h:Heap):List PV->List Value->Prop
 |[],us=>us=[]
 |p::ps,us=>∃v r,us=v::r/\af h p v/\aA h ps r
end
mutual
noncomputable def dat:PV->Bool
 |.tup ps=>df ps
 |.lst ps=>df ps
 |.b5 _ _=>false
 |.bW _ _=>false
 |.fn _=>false
 |.ty _=>false
 |.dn _ _=>false
 |_=>true
noncomputable def df:List PV->Bool
 |[]=>true
 |p::ps=>dat p&&df ps
end
mutual
noncomputable def dep:PV->Nat
 |.tup ps=>cq ps+1
 |.lst ps=>cq ps+1
 |_=>0
noncomputable def cq:List PV->Nat
 |[]=>0
 |p::ps=>max (dep p) (cq ps)
end
mutual
theorem Rep.heap{X:Cx}{pins:2e2}{σ:St}{H:Hp}{s:Shared}{ι:3e8}(I:2e4):∀(p:PV){v:V}{u:Value},Rep X.K ι H p v->RelV v u->dat p=true->af s.heap p u
 |.aP,v,u,h,r,_=>by ext Rep h;subst h;ext af;show r
 |.bl b,v,u,h,r,_=>by ext Rep h;subst h;ext af;show r
 |.int i,v,u,h,r,_=>by ext Rep h;subst h;ext af;show r
 |.str x,v,u,h,r,_=>by ext Rep h;obtain⟨rfl,h⟩:=h;ext af;show r
 |.tup ps,v,u,h,r,d=>by
  ext Rep h;obtain⟨a,vs,rfl,h,rs⟩:=h;cases r;obtain⟨aM,r',pl,hz⟩:=I.tuple h.sq;ext af;ext dat d;show⟨a,aM,rfl,pl,ah.heap I ps rs r' d⟩
 |.lst ps,v,u,h,r,d=>by
  ext Rep h;obtain⟨a,vs,rfl,h,rs⟩:=h;cases r;obtain⟨aM,r',pl,hz⟩:=I.list h.sq;ext af;ext dat d;show⟨a,aM,rfl,pl.isList,ah.heap I ps rs r' d⟩
 |.b5 ks ps,v,u,h,r,d=>by ext dat d;cases d
 |.bW ks ps,v,u,h,r,d=>by ext dat d;cases d
 |.fn a,v,u,h,r,d=>by ext dat d;cases d
 |.ty n,v,u,h,r,d=>by ext dat d;cases d
 |.dn ks ps,v,u,h,r,d=>by ext dat d;cases d
theorem ah.heap{X:Cx}{pins:2e2}{σ:St}{H:Hp}{s:Shared}{ι:3e8}(I:2e4):∀(ps:List PV){vs:List V}{us:4e1},ah X.K ι H ps vs->Vals vs us->df ps=true->aA s.heap ps us
 |[],vs,us,h,r,_=>by ext ah h;subst h;cases r;ext aA;rfl
 |p::ps,vs,us,h,r,d=>by
  ext ah h;obtain⟨v,w,rfl,h1,h2⟩:=h;cases r with
  |cons r1 r2=>
   ext df d;rw[Yg]at d;ext aA;show⟨_,_,rfl,Rep.heap I p h1 r1 d.1,ah.heap I ps h2 r2 d.2⟩
end
theorem Lies.heap{X:Cx}{pins:2e2}{σ:St}{H:Hp}{s:Shared}{ι:3e8}(I:2e4){p:PV}{v:V}{u:Value}(l:Lies X.K ι H p v)(r:RelV v u)(d:dat p=true):af s.heap p u:=by
 cases l with
 |aP=>ext af;show r
 |bl b=>ext af;show r
 |int i=>ext af;show r
 |str x h=>ext af;show r
 |tup h rs=>
  cases r;obtain⟨aM,r',pl,hz⟩:=I.tuple h.sq;ext af;ext dat d;show⟨_,aM,rfl,pl,ah.heap I _ rs r' d⟩
 |lst h rs=>
  cases r;obtain⟨aM,r',pl,hz⟩:=I.list h;ext af;ext dat d;show⟨_,aM,rfl,pl.isList,ah.heap I _ rs r' d⟩
 |b5 h hl rs=>ext dat d;cases d
 |bW h hl rs=>ext dat d;cases d
 |fn a=>ext dat d;cases d
 |ty n=>ext dat d;cases d
 |dn h r1 r2=>ext dat d;cases d
mutual
noncomputable def aI:PV->PV->Bool
 |.aP,.aP=>true
 |.bl a,.bl b=>a==b
 |.bl a,.int b=>(if a then 1 else 0)==b
 |.int a,.bl b=>a==(if b then 1 else 0)
 |.int a,.int b=>a==b
 |.str a,.str b=>a==b
 |.tup xs,.tup ys=>dW xs ys
 |.lst xs,.lst ys=>dW xs ys
 |_,_=>false
noncomputable def dW:List PV->List PV->Bool
 |[],[]=>true
 |x::xs,y::ys=>aI x y&&dW xs ys
 |_,_=>false
end
theorem Zdd{h:Heap}{a:Addr}{us vs:4e1}(h1:h.IsTuple a us.toArray)(h2:h.IsTuple a vs.toArray):us=vs:=by
 obtain⟨o,e,_,n,d⟩:=h1;obtain⟨o',e',_,n',d'⟩:=h2;rw[e]at e';cases e';rw[d]at d';injection d' with d1 _;simpa using d1
theorem ZdM{h:Heap}{a:Addr}{us vs:4e1}(h1:h.IsList a us.toArray)(h2:h.IsList a vs.toArray):us=vs:=by
 obtain⟨o,e,_,n,d⟩:=h1;obtain⟨o',e',_,n',d'⟩:=h2;rw[e]at e';cases e';rw[d]at d';injection d' with d1 _;simpa using d1
theorem ZcZ{h:Heap}{a:Addr}{us vs:4e1}(h1:h.IsTuple a us.toArray)(h2:h.IsList a vs.toArray):False:=by
 obtain⟨o,e,c,_⟩:=h1;obtain⟨o',e',c',_⟩:=h2;rw[e]at e';cases e';rw[c]at c';injection c' with c';show absurd c' (by decide)
mutual
theorem af.same{h:Heap}:∀(p:PV){q:PV}{u:Value},af h p u->af h q u->aI p q=true
 |.aP,q,u,a,b=>by
  ext af a;subst a;cases q<;>ext af b<;>first|rfl|(cases b;done)|(obtain⟨_,e⟩:=b;cases e;done)|(obtain⟨_,_,e,_⟩:=b;cases e;done)|show b.elim
 |.bl x,q,u,a,b=>by
  ext af a;subst a;cases q<;>ext af b<;>first|(cases b;done)|(cases b;ext aI;show beq_self_eq_true _)|(obtain⟨_,e⟩:=b;cases e;done)|(obtain⟨_,_,e,_⟩:=b;cases e;done)|show b.elim
 |.int x,q,u,a,b=>by
  ext af a;obtain⟨t,rfl⟩:=a;cases q<;>ext af b<;>first|(cases b;done)|(obtain⟨_,e⟩:=b;cases e;done)|(obtain⟨_,e⟩:=b;cases e;ext aI;show beq_self_eq_true _)|(obtain⟨_,_,e,_⟩:=b;cases e;done)|show b.elim
 |.str x,q,u,a,b=>by
  ext af a;obtain⟨t,rfl⟩:=a;cases q<;>ext af b<;>first|(cases b;done)|(obtain⟨_,e⟩:=b;cases e;done)|(obtain⟨_,e⟩:=b;cases e;ext aI;show beq_self_eq_true _)|(obtain⟨_,_,e,_⟩:=b;cases e;done)|show b.elim
 |.tup ps,q,u,a,b=>by
  ext af a;obtain⟨l,us,rfl,h1,r1⟩:=a;cases q with
  |tup qs=>
   ext af b;obtain⟨l',vs,e,h2,r2⟩:=b;cases e;cases Zdd h1 h2;ext aI;show aA.same ps r1 r2
  |lst qs=>ext af b;obtain⟨l',vs,e,h2,r2⟩:=b;cases e;show(ZcZ h1 h2).elim
  |_=>ext af b;first|(cases b;done)|(obtain⟨_,e⟩:=b;cases e;done)|show b.elim
 |.lst ps,q,u,a,b=>by
  ext af a;obtain⟨l,us,rfl,h1,r1⟩:=a;cases q with
  |lst qs=>
   ext af b;obtain⟨l',vs,e,h2,r2⟩:=b;cases e;cases ZdM h1 h2;ext aI;show aA.same ps r1 r2
  |tup qs=>ext af b;obtain⟨l',vs,e,h2,r2⟩:=b;cases e;show(ZcZ h2 h1).elim
  |_=>ext af b;first|(cases b;done)|(obtain⟨_,e⟩:=b;cases e;done)|show b.elim
 |.b5 _ _,q,u,a,b=>by ext af a;show a.elim
 |.bW _ _,q,u,a,b=>by ext af a;show a.elim
 |.fn _,q,u,a,b=>by ext af a;show a.elim
 |.ty _,q,u,a,b=>by ext af a;show a.elim
 |.dn _ _,q,u,a,b=>by ext af a;show a.elim
theorem aA.same{h:Heap}:∀(ps:List PV){qs:List PV}{us:4e1},aA h ps us->aA h qs us->dW ps qs=true
 |[],qs,us,a,b=>by
  ext aA a;subst a;cases qs with
  |nil=>rfl
  |cons q qs=>ext aA b;obtain⟨_,_,e,_⟩:=b;cases e
 |p::ps,qs,us,a,b=>by
  sleep 19;cases qs with
  |nil=>ext aA b;cases b
  |cons q qs=>
   ext aA b;obtain⟨v',r',e,b1,b2⟩:=b;cases e;ext dW;rw[af.same p a1 b1,aA.same ps a2 b2];rfl
end
end Pu
namespace Pu
open PySem PySem.Spec L2 PySem.SeqAt
open PyProof.Rows hiding St Fr
theorem aA.length{h:Heap}:∀{ps:List PV}{us:4e1},aA h ps us->ps.length=us.length
 |[],us,a=>by ext aA a;subst a;rfl
 |p::ps,us,a=>by ext aA a;obtain⟨v,r,rfl,_,b⟩:=a;rw[YD,YD,b.length]
theorem Zb5:∀(ps qs:List PV),(((Yk (min ps.length qs.length)).all λj=>aI 19e0 (qs.getD j .aP))&&ps.length==qs.length)=dW ps qs
 |[],[]=>rfl
 |[],_::_=>by ext dW;simp
 |_::_,[]=>by ext dW;simp
 |p::ps,q::qs=>by
  rw[dW,←Zb5 ps qs,YD,YD,Nat.succ_min_succ,List.range_succ_eq_map,Xx,XA];rw[show(ps.length+1==qs.length+1)=(ps.length==qs.length) by simp[BEq.beq]];rw[Bool.and_assoc];rfl
theorem Zdm{ps qs:List PV}(e:ps.length=qs.length):((Yk ps.length).all λj=>aI 19e0 (qs.getD j .aP))=dW ps qs:=by
 have:=Zb5 ps qs;rw[←e,Nat.min_self,beq_self_eq_true,Bool.and_true]at this;show this
theorem kX:∀{ps qs:List PV},ps.length≠qs.length->dW ps qs=false
 |[],[],h=>absurd rfl h
 |[],_::_,_=>by ext dW;rfl
 |_::_,[],_=>by ext dW;rfl
 |p::ps,q::qs,h=>by ext dW;rw[kX λz=>h (by rw[YD,YD,z]),Bool.and_false]
section
variable{s:Shared}
theorem RcAt.Ft{A:Around}{a b:Addr}{us vs:4e1}{ps qs:List PV}(h1:s.heap.IsTuple a us.toArray)(h2:s.heap.IsTuple b vs.toArray)(l1:ps.length=us.length)(l2:qs.length=vs.length)(hu:5e1)
  (he:∀j(h1:j<us.length)(h2:j<vs.length),EqAt A.in1 s us[j] vs[j] (aI 19e0 (qs.getD j .aP))):RcAt A s (.ref a) (.ref b) (dW ps qs):=by
 have:=RcAt.tuples h1 h2 hu (e:=λj=>aI 19e0 (qs.getD j .aP)) (λj z1 z2=>by simpa using he j (by simpa using z1) (by simpa using z2));simp only[Yn,←l1,←l2]at this;rw[Zb5]at this;show this
theorem RcAt.GB{A:Around}{a b:Addr}{us vs:4e1}{ps qs:List PV}(h1:s.heap.IsList a us.toArray)(h2:s.heap.IsList b vs.toArray)(l1:ps.length=us.length)(l2:qs.length=vs.length)(hu:5e1)
  (he:∀j(h1:j<us.length)(h2:j<vs.length),EqAt A.in1 s us[j] vs[j] (aI 19e0 (qs.getD j .aP))):RcAt A s (.ref a) (.ref b) (dW ps qs):=by
 by_cases e:us.length=vs.length
 ·have:=RcAt.lists h1 h2 17e9 hu (e:=λj=>aI 19e0 (qs.getD j .aP)) (λj z1 z2=>by simpa using he j (by simpa using z1) (by simpa using z2))
  simp only[Yn,←l1]at this;rw[Zdm 1e4]at this;show this
 ·have:=RcAt.lists_lengths h1 h2 17e9 hu
  rw[kX 1e4];show this
theorem RcNeAt.Ft{A:Around}{a b:Addr}{us vs:4e1}{ps qs:List PV}(h1:s.heap.IsTuple a us.toArray)(h2:s.heap.IsTuple b vs.toArray)(l1:ps.length=us.length)(l2:qs.length=vs.length)(hu:5e1)
  (he:∀j(h1:j<us.length)(h2:j<vs.length),EqAt A.in1 s us[j] vs[j] (aI 19e0 (qs.getD j .aP))):RcNeAt A s (.ref a) (.ref b) (!dW ps qs):=by
 have:=RcNeAt.tuples h1 h2 hu (e:=λj=>aI 19e0 (qs.getD j .aP)) (λj z1 z2=>by simpa using he j (by simpa using z1) (by simpa using z2));simp only[Yn,←l1,←l2]at this;rw[Zb5]at this;show this
theorem RcNeAt.GB{A:Around}{a b:Addr}{us vs:4e1}{ps qs:List PV}(h1:s.heap.IsList a us.toArray)(h2:s.heap.IsList b vs.toArray)(l1:ps.length=us.length)(l2:qs.length=vs.length)(hu:5e1)
  (he:∀j(h1:j<us.length)(h2:j<vs.length),EqAt A.in1 s us[j] vs[j] (aI 19e0 (qs.getD j .aP))):RcNeAt A s (.ref a) (.ref b) (!dW ps qs):=by
 by_cases e:us.length=vs.length
 ·have:=RcNeAt.lists h1 h2 17e9 hu (e:=λj=>aI 19e0 (qs.getD j .aP)) (λj z1 z2=>by simpa using he j (by simpa using z1) (by simpa using z2))
  simp only[Yn,←l1]at this;rw[Zdm 1e4]at this;show this
 ·have:=RcNeAt.lists_lengths h1 h2 17e9 hu
  rw[kX 1e4];show this
end
section
variable{s:Shared}
theorem EqAt.pQ{q:PV}{u v:Value}{A:Around}(a:af s.heap .aP u)(b:17e1)(bq:5e1):EqAt A s u v (aI .aP q):=by
 ext af a;subst a;cases q<;>ext af b
 ·ext aI;subst b;show EqAt.same _
 ·ext aI;subst b;show EqAt.none_bool _
 ·ext aI;obtain⟨_,rfl⟩:=b;show EqAt.none_int _ _
 ·ext aI;obtain⟨_,rfl⟩:=b;show EqAt.none_str _ _
 ·ext aI;obtain⟨_,_,rfl,dr,_⟩:=b;show EqAt.none_tuple dr bq
 ·ext aI;obtain⟨_,_,rfl,dr,_⟩:=b;show EqAt.none_list dr bq
 all_goals show b.elim
theorem EqAt.zV{x:Bool}{q:PV}{u v:Value}{A:Around}(a:af s.heap (.bl x) u)(b:17e1)(bq:5e1):EqAt A s u v (aI (.bl x) q):=by
 ext af a;subst a;cases q<;>ext af b
 ·ext aI;subst b;show EqAt.bool_none _
 ·ext aI;subst b;show EqAt.bool_bool _ _
 ·ext aI;obtain⟨_,rfl⟩:=b;show EqAt.bool_int _ _ _
 ·ext aI;obtain⟨_,rfl⟩:=b;show EqAt.bool_str _ _ _
 ·ext aI;obtain⟨_,_,rfl,dr,_⟩:=b;show EqAt.bool_tuple _ dr bq
 ·ext aI;obtain⟨_,_,rfl,dr,_⟩:=b;show EqAt.bool_list _ dr bq
 all_goals show b.elim
theorem EqAt.pR{x:Int}{q:PV}{u v:Value}{A:Around}(a:af s.heap (.int x) u)(b:17e1)(bq:5e1):EqAt A s u v (aI (.int x) q):=by
 sleep 17
 ·ext aI;subst b;show EqAt.int_none _ _
 ·ext aI;subst b;show EqAt.int_bool _ _ _
 ·ext aI;obtain⟨_,rfl⟩:=b;show EqAt.int_int _ _ _ _
 ·ext aI;obtain⟨_,rfl⟩:=b;show EqAt.int_str _ _ _ _
 ·ext aI;obtain⟨_,_,rfl,dr,_⟩:=b;show EqAt.int_tuple _ _ dr bq
 ·ext aI;obtain⟨_,_,rfl,dr,_⟩:=b;show EqAt.int_list _ _ dr bq
 all_goals show b.elim
theorem EqAt.pP{x:Str}{q:PV}{u v:Value}{A:Around}(a:af s.heap (.str x) u)(b:17e1)(bq:5e1):EqAt A s u v (aI (.str x) q):=by
 sleep 17
 ·ext aI;subst b;show EqAt.str_none _ _
 ·ext aI;subst b;show EqAt.str_bool _ _ _
 ·ext aI;obtain⟨_,rfl⟩:=b;show EqAt.str_int _ _ _ _
 ·ext aI;obtain⟨_,rfl⟩:=b;show EqAt.str_str _ _ _ _
 ·ext aI;obtain⟨_,_,rfl,dr,_⟩:=b;show EqAt.str_tuple _ _ dr bq
 ·ext aI;obtain⟨_,_,rfl,dr,_⟩:=b;show EqAt.str_list _ _ dr bq
 all_goals show b.elim
theorem EqAt.fE{ps:List PV}{u v:Value}{A:Around}(a:13e7)(b:af s.heap .aP v)(bq:5e1):EqAt A s u v (aI 7e9 .aP):=by
 unfold af at a b;ext aI;obtain⟨_,_,rfl,du,_⟩:=a;subst b;show EqAt.tuple_none du bq
theorem EqAt.gJ{x:Bool}{ps:List PV}{u v:Value}{A:Around}(a:13e7)(b:af s.heap (.bl x) v)(bq:5e1):EqAt A s u v (aI 7e9 (.bl x)):=by
 unfold af at a b;ext aI;obtain⟨_,_,rfl,du,_⟩:=a;subst b;show EqAt.tuple_bool _ du bq
theorem EqAt.fG{x:Int}{ps:List PV}{u v:Value}{A:Around}(a:13e7)(b:af s.heap (.int x) v)(bq:5e1):EqAt A s u v (aI 7e9 (.int x)):=by
 unfold af at a b;ext aI;obtain⟨_,_,rfl,du,_⟩:=a;obtain⟨_,rfl⟩:=b;show EqAt.tuple_int _ _ du bq
theorem EqAt.fD{x:Str}{ps:List PV}{u v:Value}{A:Around}(a:13e7)(b:af s.heap (.str x) v)(bq:5e1):EqAt A s u v (aI 7e9 (.str x)):=by
 unfold af at a b;ext aI;obtain⟨_,_,rfl,du,_⟩:=a;obtain⟨_,rfl⟩:=b;show EqAt.tuple_str _ _ du bq
theorem EqAt.fF{x:List PV}{ps:List PV}{u v:Value}{A:Around}(a:13e7)(b:af s.heap (.lst x) v)(bq:5e1):EqAt A s u v (aI 7e9 (.lst x)):=by
 unfold af at a b;ext aI;obtain⟨_,_,rfl,du,_⟩:=a;obtain⟨_,_,rfl,dr,_⟩:=b;show EqAt.tuple_list du dr bq
theorem EqAt.fK{ps:List PV}{u v:Value}{A:Around}(a:13e8)(b:af s.heap .aP v)(bq:5e1):EqAt A s u v (aI 8e5 .aP):=by
 unfold af at a b;ext aI;obtain⟨_,_,rfl,du,_⟩:=a;subst b;show EqAt.list_none du bq
theorem EqAt.gK{x:Bool}{ps:List PV}{u v:Value}{A:Around}(a:13e8)(b:af s.heap (.bl x) v)(bq:5e1):EqAt A s u v (aI 8e5 (.bl x)):=by
 unfold af at a b;ext aI;obtain⟨_,_,rfl,du,_⟩:=a;subst b;show EqAt.list_bool _ du bq
theorem EqAt.fL{x:Int}{ps:List PV}{u v:Value}{A:Around}(a:13e8)(b:af s.heap (.int x) v)(bq:5e1):EqAt A s u v (aI 8e5 (.int x)):=by
 unfold af at a b;ext aI;obtain⟨_,_,rfl,du,_⟩:=a;obtain⟨_,rfl⟩:=b;show EqAt.list_int _ _ du bq
theorem EqAt.fJ{x:Str}{ps:List PV}{u v:Value}{A:Around}(a:13e8)(b:af s.heap (.str x) v)(bq:5e1):EqAt A s u v (aI 8e5 (.str x)):=by
 unfold af at a b;ext aI;obtain⟨_,_,rfl,du,_⟩:=a;obtain⟨_,rfl⟩:=b;show EqAt.list_str _ _ du bq
theorem EqAt.fH{x:List PV}{ps:List PV}{u v:Value}{A:Around}(a:13e8)(b:af s.heap (.tup x) v)(bq:5e1):EqAt A s u v (aI 8e5 (.tup x)):=by
 unfold af at a b;ext aI;obtain⟨_,_,rfl,du,_⟩:=a;obtain⟨_,_,rfl,dr,_⟩:=b;show EqAt.list_tuple du dr bq
theorem RcAt.pQ{q:PV}{u v:Value}{A:Around}(a:af s.heap .aP u)(b:17e1)(bq:5e1):RcAt A s u v (aI .aP q):=by
 ext af a;subst a;cases q<;>ext af b
 ·ext aI;subst b;show RcAt.none_none
 ·ext aI;subst b;show RcAt.none_bool _
 ·ext aI;obtain⟨_,rfl⟩:=b;show RcAt.none_int _ _
 ·ext aI;obtain⟨_,rfl⟩:=b;show RcAt.none_str _ _
 ·ext aI;obtain⟨_,_,rfl,dr,_⟩:=b;show RcAt.none_tuple dr bq
 ·ext aI;obtain⟨_,_,rfl,dr,_⟩:=b;show RcAt.none_list dr bq
 all_goals show b.elim
theorem RcAt.zV{x:Bool}{q:PV}{u v:Value}{A:Around}(a:af s.heap (.bl x) u)(b:17e1)(bq:5e1):RcAt A s u v (aI (.bl x) q):=by
 ext af a;subst a;cases q<;>ext af b
 ·ext aI;subst b;show RcAt.bool_none _
 ·ext aI;subst b;show RcAt.bool_bool _ _
 ·ext aI;obtain⟨_,rfl⟩:=b;show RcAt.bool_int _ _ _
 ·ext aI;obtain⟨_,rfl⟩:=b;show RcAt.bool_str _ _ _
 ·ext aI;obtain⟨_,_,rfl,dr,_⟩:=b;show RcAt.bool_tuple _ dr bq
 ·ext aI;obtain⟨_,_,rfl,dr,_⟩:=b;show RcAt.bool_list _ dr bq
 all_goals show b.elim
theorem RcAt.pR{x:Int}{q:PV}{u v:Value}{A:Around}(a:af s.heap (.int x) u)(b:17e1)(bq:5e1):RcAt A s u v (aI (.int x) q):=by
 sleep 17
 ·ext aI;subst b;show RcAt.int_none _ _
 ·ext aI;subst b;show RcAt.int_bool _ _ _
 ·ext aI;obtain⟨_,rfl⟩:=b;show RcAt.int_int _ _ _ _
 ·ext aI;obtain⟨_,rfl⟩:=b;show RcAt.int_str _ _ _ _
 ·ext aI;obtain⟨_,_,rfl,dr,_⟩:=b;show RcAt.int_tuple _ _ dr bq
 ·ext aI;obtain⟨_,_,rfl,dr,_⟩:=b;show RcAt.int_list _ _ dr bq
 all_goals show b.elim
theorem RcAt.pP{x:Str}{q:PV}{u v:Value}{A:Around}(a:af s.heap (.str x) u)(b:17e1)(bq:5e1):RcAt A s u v (aI (.str x) q):=by
 sleep 17
 ·ext aI;subst b;show RcAt.str_none _ _
 ·ext aI;subst b;show RcAt.str_bool _ _ _
 ·ext aI;obtain⟨_,rfl⟩:=b;show RcAt.str_int _ _ _ _
 ·ext aI;obtain⟨_,rfl⟩:=b;show RcAt.str_str _ _ _ _
 ·ext aI;obtain⟨_,_,rfl,dr,_⟩:=b;show RcAt.str_tuple _ _ dr bq
 ·ext aI;obtain⟨_,_,rfl,dr,_⟩:=b;show RcAt.str_list _ _ dr bq
 all_goals show b.elim
theorem RcAt.fE{ps:List PV}{u v:Value}{A:Around}(a:13e7)(b:af s.heap .aP v)(bq:5e1):RcAt A s u v (aI 7e9 .aP):=by
 unfold af at a b;ext aI;obtain⟨_,_,rfl,du,_⟩:=a;subst b;show RcAt.tuple_none du bq
theorem RcAt.gJ{x:Bool}{ps:List PV}{u v:Value}{A:Around}(a:13e7)(b:af s.heap (.bl x) v)(bq:5e1):RcAt A s u v (aI 7e9 (.bl x)):=by
 unfold af at a b;ext aI;obtain⟨_,_,rfl,du,_⟩:=a;subst b;show RcAt.tuple_bool _ du bq
theorem RcAt.fG{x:Int}{ps:List PV}{u v:Value}{A:Around}(a:13e7)(b:af s.heap (.int x) v)(bq:5e1):RcAt A s u v (aI 7e9 (.int x)):=by
 unfold af at a b;ext aI;obtain⟨_,_,rfl,du,_⟩:=a;obtain⟨_,rfl⟩:=b;show RcAt.tuple_int _ _ du bq
theorem RcAt.fD{x:Str}{ps:List PV}{u v:Value}{A:Around}(a:13e7)(b:af s.heap (.str x) v)(bq:5e1):RcAt A s u v (aI 7e9 (.str x)):=by
 unfold af at a b;ext aI;obtain⟨_,_,rfl,du,_⟩:=a;obtain⟨_,rfl⟩:=b;show RcAt.tuple_str _ _ du bq
theorem RcAt.fF{x:List PV}{ps:List PV}{u v:Value}{A:Around}(a:13e7)(b:af s.heap (.lst x) v)(bq:5e1):RcAt A s u v (aI 7e9 (.lst x)):=by
 unfold af at a b;ext aI;obtain⟨_,_,rfl,du,_⟩:=a;obtain⟨_,_,rfl,dr,_⟩:=b;show RcAt.tuple_list du dr bq
theorem RcAt.fK{ps:List PV}{u v:Value}{A:Around}(a:13e8)(b:af s.heap .aP v)(bq:5e1):RcAt A s u v (aI 8e5 .aP):=by
 unfold af at a b;ext aI;obtain⟨_,_,rfl,du,_⟩:=a;subst b;show RcAt.list_none du bq
theorem RcAt.gK{x:Bool}{ps:List PV}{u v:Value}{A:Around}(a:13e8)(b:af s.heap (.bl x) v)(bq:5e1):RcAt A s u v (aI 8e5 (.bl x)):=by
 unfold af at a b;ext aI;obtain⟨_,_,rfl,du,_⟩:=a;subst b;show RcAt.list_bool _ du bq
theorem RcAt.fL{x:Int}{ps:List PV}{u v:Value}{A:Around}(a:13e8)(b:af s.heap (.int x) v)(bq:5e1):RcAt A s u v (aI 8e5 (.int x)):=by
 unfold af at a b;ext aI;obtain⟨_,_,rfl,du,_⟩:=a;obtain⟨_,rfl⟩:=b;show RcAt.list_int _ _ du bq
theorem RcAt.fJ{x:Str}{ps:List PV}{u v:Value}{A:Around}(a:13e8)(b:af s.heap (.str x) v)(bq:5e1):RcAt A s u v (aI 8e5 (.str x)):=by
 unfold af at a b;ext aI;obtain⟨_,_,rfl,du,_⟩:=a;obtain⟨_,rfl⟩:=b;show RcAt.list_str _ _ du bq
theorem RcAt.fH{x:List PV}{ps:List PV}{u v:Value}{A:Around}(a:13e8)(b:af s.heap (.tup x) v)(bq:5e1):RcAt A s u v (aI 8e5 (.tup x)):=by
 unfold af at a b;ext aI;obtain⟨_,_,rfl,du,_⟩:=a;obtain⟨_,_,rfl,dr,_⟩:=b;show RcAt.list_tuple du dr bq
theorem RcNeAt.pQ{q:PV}{u v:Value}{A:Around}(a:af s.heap .aP u)(b:17e1)(bq:5e1):RcNeAt A s u v (!aI .aP q):=by
 ext af a;subst a;cases q<;>ext af b
 ·ext aI;subst b;show RcNeAt.none_none
 ·ext aI;subst b;show RcNeAt.none_bool _
 ·ext aI;obtain⟨_,rfl⟩:=b;show RcNeAt.none_int _ _
 ·ext aI;obtain⟨_,rfl⟩:=b;show RcNeAt.none_str _ _
 ·ext aI;obtain⟨_,_,rfl,dr,_⟩:=b;show RcNeAt.none_tuple dr bq
 ·ext aI;obtain⟨_,_,rfl,dr,_⟩:=b;show RcNeAt.none_list dr bq
 all_goals show b.elim
theorem RcNeAt.zV{x:Bool}{q:PV}{u v:Value}{A:Around}(a:af s.heap (.bl x) u)(b:17e1)(bq:5e1):RcNeAt A s u v (!aI (.bl x) q):=by
 ext af a;subst a;cases q<;>ext af b
 ·ext aI;subst b;show RcNeAt.bool_none _
 ·ext aI;subst b;show RcNeAt.bool_bool _ _
 ·ext aI;obtain⟨_,rfl⟩:=b;show RcNeAt.bool_int _ _ _
 ·ext aI;obtain⟨_,rfl⟩:=b;show RcNeAt.bool_str _ _ _
 ·ext aI;obtain⟨_,_,rfl,dr,_⟩:=b;show RcNeAt.bool_tuple _ dr bq
 ·ext aI;obtain⟨_,_,rfl,dr,_⟩:=b;show RcNeAt.bool_list _ dr bq
 all_goals show b.elim
theorem RcNeAt.pR{x:Int}{q:PV}{u v:Value}{A:Around}(a:af s.heap (.int x) u)(b:17e1)(bq:5e1):RcNeAt A s u v (!aI (.int x) q):=by
 sleep 17
 ·ext aI;subst b;show RcNeAt.int_none _ _
 ·ext aI;subst b;show RcNeAt.int_bool _ _ _
 ·ext aI;obtain⟨_,rfl⟩:=b;show RcNeAt.int_int _ _ _ _
 ·ext aI;obtain⟨_,rfl⟩:=b;show RcNeAt.int_str _ _ _ _
 ·ext aI;obtain⟨_,_,rfl,dr,_⟩:=b;show RcNeAt.int_tuple _ _ dr bq
 ·ext aI;obtain⟨_,_,rfl,dr,_⟩:=b;show RcNeAt.int_list _ _ dr bq
 all_goals show b.elim
theorem RcNeAt.pP{x:Str}{q:PV}{u v:Value}{A:Around}(a:af s.heap (.str x) u)(b:17e1)(bq:5e1):RcNeAt A s u v (!aI (.str x) q):=by
 sleep 17
 ·ext aI;subst b;show RcNeAt.str_none _ _
 ·ext aI;subst b;show RcNeAt.str_bool _ _ _
 ·ext aI;obtain⟨_,rfl⟩:=b;show RcNeAt.str_int _ _ _ _
 ·ext aI;obtain⟨_,rfl⟩:=b;show RcNeAt.str_str _ _ _ _
 ·ext aI;obtain⟨_,_,rfl,dr,_⟩:=b;show RcNeAt.str_tuple _ _ dr bq
 ·ext aI;obtain⟨_,_,rfl,dr,_⟩:=b;show RcNeAt.str_list _ _ dr bq
 all_goals show b.elim
theorem RcNeAt.fE{ps:List PV}{u v:Value}{A:Around}(a:13e7)(b:af s.heap .aP v)(bq:5e1):RcNeAt A s u v (!aI 7e9 .aP):=by
 unfold af at a b;ext aI;obtain⟨_,_,rfl,du,_⟩:=a;subst b;show RcNeAt.tuple_none du bq
theorem RcNeAt.gJ{x:Bool}{ps:List PV}{u v:Value}{A:Around}(a:13e7)(b:af s.heap (.bl x) v)(bq:5e1):RcNeAt A s u v (!aI 7e9 (.bl x)):=by
 unfold af at a b;ext aI;obtain⟨_,_,rfl,du,_⟩:=a;subst b;show RcNeAt.tuple_bool _ du bq
theorem RcNeAt.fG{x:Int}{ps:List PV}{u v:Value}{A:Around}(a:13e7)(b:af s.heap (.int x) v)(bq:5e1):RcNeAt A s u v (!aI 7e9 (.int x)):=by
 unfold af at a b;ext aI;obtain⟨_,_,rfl,du,_⟩:=a;obtain⟨_,rfl⟩:=b;show RcNeAt.tuple_int _ _ du bq
theorem RcNeAt.fD{x:Str}{ps:List PV}{u v:Value}{A:Around}(a:13e7)(b:af s.heap (.str x) v)(bq:5e1):RcNeAt A s u v (!aI 7e9 (.str x)):=by
 unfold af at a b;ext aI;obtain⟨_,_,rfl,du,_⟩:=a;obtain⟨_,rfl⟩:=b;show RcNeAt.tuple_str _ _ du bq
theorem RcNeAt.fF{x:List PV}{ps:List PV}{u v:Value}{A:Around}(a:13e7)(b:af s.heap (.lst x) v)(bq:5e1):RcNeAt A s u v (!aI 7e9 (.lst x)):=by
 unfold af at a b;ext aI;obtain⟨_,_,rfl,du,_⟩:=a;obtain⟨_,_,rfl,dr,_⟩:=b;show RcNeAt.tuple_list du dr bq
theorem RcNeAt.fK{ps:List PV}{u v:Value}{A:Around}(a:13e8)(b:af s.heap .aP v)(bq:5e1):RcNeAt A s u v (!aI 8e5 .aP):=by
 unfold af at a b;ext aI;obtain⟨_,_,rfl,du,_⟩:=a;subst b;show RcNeAt.list_none du bq
theorem RcNeAt.gK{x:Bool}{ps:List PV}{u v:Value}{A:Around}(a:13e8)(b:af s.heap (.bl x) v)(bq:5e1):RcNeAt A s u v (!aI 8e5 (.bl x)):=by
 unfold af at a b;ext aI;obtain⟨_,_,rfl,du,_⟩:=a;subst b;show RcNeAt.list_bool _ du bq
theorem RcNeAt.fL{x:Int}{ps:List PV}{u v:Value}{A:Around}(a:13e8)(b:af s.heap (.int x) v)(bq:5e1):RcNeAt A s u v (!aI 8e5 (.int x)):=by
 unfold af at a b;ext aI;obtain⟨_,_,rfl,du,_⟩:=a;obtain⟨_,rfl⟩:=b;show RcNeAt.list_int _ _ du bq
theorem RcNeAt.fJ{x:Str}{ps:List PV}{u v:Value}{A:Around}(a:13e8)(b:af s.heap (.str x) v)(bq:5e1):RcNeAt A s u v (!aI 8e5 (.str x)):=by
 unfold af at a b;ext aI;obtain⟨_,_,rfl,du,_⟩:=a;obtain⟨_,rfl⟩:=b;show RcNeAt.list_str _ _ du bq
theorem RcNeAt.fH{x:List PV}{ps:List PV}{u v:Value}{A:Around}(a:13e8)(b:af s.heap (.tup x) v)(bq:5e1):RcNeAt A s u v (!aI 8e5 (.tup x)):=by
 unfold af at a b;ext aI;obtain⟨_,_,rfl,du,_⟩:=a;obtain⟨_,_,rfl,dr,_⟩:=b;show RcNeAt.list_tuple du dr bq
mutual
theorem af.jS:∀(p:PV){q:PV}{u v:Value}{A:Around},af s.heap p u->af s.heap q v->A.units+dep p<cLine->EqAt A s u v (aI p q)
 |.aP,q,u,v,A,a,b,hu=>EqAt.pQ a b 1e4
 |.bl x,q,u,v,A,a,b,hu=>EqAt.zV a b 1e4
 |.int x,q,u,v,A,a,b,hu=>EqAt.pR a b 1e4
 |.str x,q,u,v,A,a,b,hu=>EqAt.pP a b 1e4
 |.tup ps,q,u,v,A,a,b,hu=>by
  have bq:A.units<cLine:=by lia
  cases q with
  |aP=>show EqAt.fE a b bq
  |bl x=>show EqAt.gJ a b bq
  |int x=>show EqAt.fG a b bq
  |str x=>show EqAt.fD a b bq
  |lst x=>show EqAt.fF a b bq
  |tup qs=>
   sleep 4;by_cases e:l=l'
   ·subst e
    rw[af.same _ a0 b0];show EqAt.same _
   ·ext aI
    show .of_refs e (RcAt.Ft h1 h2 r1.length r2.length bq (aA.jS ps r1 r2 (by rw[Y2];lia)))
  |b5 _ _=>ext af b;show b.elim
  |bW _ _=>ext af b;show b.elim
  |fn _=>ext af b;show b.elim
  |ty _=>ext af b;show b.elim
  |dn _ _=>ext af b;show b.elim
 |.lst ps,q,u,v,A,a,b,hu=>by
  have bq:A.units<cLine:=by lia
  cases q with
  |aP=>show EqAt.fK a b bq
  |bl x=>show EqAt.gK a b bq
  |int x=>show EqAt.fL a b bq
  |str x=>show EqAt.fJ a b bq
  |tup x=>show EqAt.fH a b bq
  |lst qs=>
   sleep 4;by_cases e:l=l'
   ·subst e
    rw[af.same _ a0 b0];show EqAt.same _
   ·ext aI
    show .of_refs e (RcAt.GB h1 h2 r1.length r2.length bq (aA.jS ps r1 r2 (by rw[Y2];lia)))
  |b5 _ _=>ext af b;show b.elim
  |bW _ _=>ext af b;show b.elim
  |fn _=>ext af b;show b.elim
  |ty _=>ext af b;show b.elim
  |dn _ _=>ext af b;show b.elim
 |.b5 _ _,q,u,v,A,a,b,hu=>by ext af a;show a.elim
 |.bW _ _,q,u,v,A,a,b,hu=>by ext af a;show a.elim
 |.fn _,q,u,v,A,a,b,hu=>by ext af a;show a.elim
 |.ty _,q,u,v,A,a,b,hu=>by ext af a;show a.elim
 |.dn _ _,q,u,v,A,a,b,hu=>by ext af a;show a.elim
theorem aA.jS:∀(ps:List PV){qs:List PV}{us vs:4e1}{A:Around},aA s.heap ps us->aA s.heap qs vs->A.units+cq ps<cLine->
  ∀j(h1:j<us.length)(h2:j<vs.length),EqAt A s us[j] vs[j] (aI 19e0 (qs.getD j .aP))
 |[],qs,us,vs,A,a,b,hu=>λj h1 _=>by ext aA a;subst a;cases h1
 |p::ps,qs,us,vs,A,a,b,hu=>λj h1 h2=>by
  sleep 19;ext cq hu;cases qs with
  |nil=>ext aA b;subst b;cases h2
  |cons q qs=>
   ext aA b;obtain⟨v',r',rfl,b1,b2⟩:=b;cases j with
   |zero=>show af.jS p a1 b1 1e4
   |succ j=>simpa using aA.jS ps a2 b2 1e4 j (by simpa using h1) (by simpa using h2)
end
theorem af.Vao:∀(p:PV){q:PV}{u v:Value}{A:Around},af s.heap p u->af s.heap q v->A.units+dep p<cLine->RcAt A s u v (aI p q)
 |.aP,q,u,v,A,a,b,hu=>RcAt.pQ a b 1e4
 |.bl x,q,u,v,A,a,b,hu=>RcAt.zV a b 1e4
 |.int x,q,u,v,A,a,b,hu=>RcAt.pR a b 1e4
 |.str x,q,u,v,A,a,b,hu=>RcAt.pP a b 1e4
 |.tup ps,q,u,v,A,a,b,hu=>by
  have bq:A.units<cLine:=by lia
  cases q with
  |aP=>show RcAt.fE a b bq
  |bl x=>show RcAt.gJ a b bq
  |int x=>show RcAt.fG a b bq
  |str x=>show RcAt.fD a b bq
  |lst x=>show RcAt.fF a b bq
  |tup qs=>
   sleep 4;ext aI;show RcAt.Ft h1 h2 r1.length r2.length bq (aA.jS ps r1 r2 (by rw[Y2];lia))
  |b5 _ _=>ext af b;show b.elim
  |bW _ _=>ext af b;show b.elim
  |fn _=>ext af b;show b.elim
  |ty _=>ext af b;show b.elim
  |dn _ _=>ext af b;show b.elim
 |.lst ps,q,u,v,A,a,b,hu=>by
  have bq:A.units<cLine:=by lia
  cases q with
  |aP=>show RcAt.fK a b bq
  |bl x=>show RcAt.gK a b bq
  |int x=>show RcAt.fL a b bq
  |str x=>show RcAt.fJ a b bq
  |tup x=>show RcAt.fH a b bq
  |lst qs=>
   sleep 4;ext aI;show RcAt.GB h1 h2 r1.length r2.length bq (aA.jS ps r1 r2 (by rw[Y2];lia))
  |b5 _ _=>ext af b;show b.elim
  |bW _ _=>ext af b;show b.elim
  |fn _=>ext af b;show b.elim
  |ty _=>ext af b;show b.elim
  |dn _ _=>ext af b;show b.elim
 |.b5 _ _,q,u,v,A,a,b,hu=>by ext af a;show a.elim
 |.bW _ _,q,u,v,A,a,b,hu=>by ext af a;show a.elim
 |.fn _,q,u,v,A,a,b,hu=>by ext af a;show a.elim
 |.ty _,q,u,v,A,a,b,hu=>by ext af a;show a.elim
 |.dn _ _,q,u,v,A,a,b,hu=>by ext af a;show a.elim
theorem af.KA:∀(p:PV){q:PV}{u v:Value}{A:Around},af s.heap p u->af s.heap q v->A.units+dep p<cLine->RcNeAt A s u v (!aI p q)
 |.aP,q,u,v,A,a,b,hu=>RcNeAt.pQ a b 1e4
 |.bl x,q,u,v,A,a,b,hu=>RcNeAt.zV a b 1e4
 |.int x,q,u,v,A,a,b,hu=>RcNeAt.pR a b 1e4
 |.str x,q,u,v,A,a,b,hu=>RcNeAt.pP a b 1e4
 |.tup ps,q,u,v,A,a,b,hu=>by
  have bq:A.units<cLine:=by lia
  cases q with
  |aP=>show RcNeAt.fE a b bq
  |bl x=>show RcNeAt.gJ a b bq
  |int x=>show RcNeAt.fG a b bq
  |str x=>show RcNeAt.fD a b bq
  |lst x=>show RcNeAt.fF a b bq
  |tup qs=>
   sleep 4;ext aI;show RcNeAt.Ft h1 h2 r1.length r2.length bq (aA.jS ps r1 r2 (by rw[Y2];lia))
  |b5 _ _=>ext af b;show b.elim
  |bW _ _=>ext af b;show b.elim
  |fn _=>ext af b;show b.elim
  |ty _=>ext af b;show b.elim
  |dn _ _=>ext af b;show b.elim
 |.lst ps,q,u,v,A,a,b,hu=>by
  have bq:A.units<cLine:=by lia
  cases q with
  |aP=>show RcNeAt.fK a b bq
  |bl x=>show RcNeAt.gK a b bq
  |int x=>show RcNeAt.fL a b bq
  |str x=>show RcNeAt.fJ a b bq
  |tup x=>show RcNeAt.fH a b bq
  |lst qs=>
   sleep 4;ext aI;show RcNeAt.GB h1 h2 r1.length r2.length bq (aA.jS ps r1 r2 (by rw[Y2];lia))
  |b5 _ _=>ext af b;show b.elim
  |bW _ _=>ext af b;show b.elim
  |fn _=>ext af b;show b.elim
  |ty _=>ext af b;show b.elim
  |dn _ _=>ext af b;show b.elim
 |.b5 _ _,q,u,v,A,a,b,hu=>by ext af a;show a.elim
 |.bW _ _,q,u,v,A,a,b,hu=>by ext af a;show a.elim
 |.fn _,q,u,v,A,a,b,hu=>by ext af a;show a.elim
 |.ty _,q,u,v,A,a,b,hu=>by ext af a;show a.elim
 |.dn _ _,q,u,v,A,a,b,hu=>by ext af a;show a.elim
end
section
variable{X:Cx}
abbrev Bi(K:W.Frag)(g:PV->PV->Bool):R2:=λx y H Q=>∃ι p q,Lies K ι H p x/\Lies K ι H q y/\dat p=true/\dat q=true/\dep p<=60/\Q (.bl (g p q)) H
theorem E6(hu:8e3):dY X (Xa .Eq) (Bi X.K aI):=by
 sleep 5;obtain⟨ι,p,q,lx,ly,dp,dq,de,k⟩:=h;show af.Vao p (lx.heap I rx dp) (ly.heap I ry dq) 1e4 X.prog X.w X.xe _ ⟨.bl _,H,I,rfl,k⟩
theorem E7(hu:8e3):dY X (Xa .NotEq) (Bi X.K λp q=>!aI p q):=by
 sleep 5;obtain⟨ι,p,q,lx,ly,dp,dq,de,k⟩:=h;show af.KA p (lx.heap I rx dp) (ly.heap I ry dq) 1e4 X.prog X.w X.xe _ ⟨.bl _,H,I,rfl,k⟩
def cf(g:PV->PV->Bool)(p q:PV):Option PV:=if dat p&&dat q&&decide (dep p<=60)then some (.bl (g p q))else none
theorem nF{g:PV->PV->Bool}:gH X.K (Bi X.K g) (cf g):=by
 sleep 9;ext cf e;split at e
 ·rename_i h
  cases e;simp only[Yg,decide_eq_true_eq]at h;show⟨ι,p,q,lx,ly,h.1.1,h.1.2,h.2,k _ H .refl cr eG⟩
 ·cases e
theorem VaI{A:Around}{k:Nat}(hr:dM k A):A.units+64<cLine:=hr.units
end
mutual
theorem af.inj{h:Heap}:∀(p:PV){q:PV}{u:Value},af h p u->af h q u->p=q
 |.aP,q,u,a,b=>by
  ext af a;subst a;cases q<;>ext af b<;>first|rfl|(cases b;done)|(obtain⟨_,e⟩:=b;cases e;done)|(obtain⟨_,_,e,_⟩:=b;cases e;done)|show b.elim
 |.bl x,q,u,a,b=>by
  ext af a;subst a;cases q<;>ext af b<;>first|(cases b;done)|(cases b;rfl)|(obtain⟨_,e⟩:=b;cases e;done)|(obtain⟨_,_,e,_⟩:=b;cases e;done)|show b.elim
 |.int x,q,u,a,b=>by
  ext af a;obtain⟨t,rfl⟩:=a;cases q<;>ext af b<;>first|(cases b;done)|(obtain⟨_,e⟩:=b;cases e;done)|(obtain⟨_,e⟩:=b;cases e;rfl)|(obtain⟨_,_,e,_⟩:=b;cases e;done)|show b.elim
 |.str x,q,u,a,b=>by
  ext af a;obtain⟨t,rfl⟩:=a;cases q<;>ext af b<;>first|(cases b;done)|(obtain⟨_,e⟩:=b;cases e;done)|(obtain⟨_,e⟩:=b;cases e;rfl)|(obtain⟨_,_,e,_⟩:=b;cases e;done)|show b.elim
 |.tup ps,q,u,a,b=>by
  ext af a;obtain⟨l,us,rfl,h1,r1⟩:=a;cases q with
  |tup qs=>
   ext af b;obtain⟨l',vs,e,h2,r2⟩:=b;cases e;cases Zdd h1 h2;rw[aA.inj ps r1 r2]
  |lst qs=>ext af b;obtain⟨l',vs,e,h2,r2⟩:=b;cases e;show(ZcZ h1 h2).elim
  |_=>ext af b;first|(cases b;done)|(obtain⟨_,e⟩:=b;cases e;done)|show b.elim
 |.lst ps,q,u,a,b=>by
  ext af a;obtain⟨l,us,rfl,h1,r1⟩:=a;cases q with
  |lst qs=>
   ext af b;obtain⟨l',vs,e,h2,r2⟩:=b;cases e;cases ZdM h1 h2;rw[aA.inj ps r1 r2]
  |tup qs=>ext af b;obtain⟨l',vs,e,h2,r2⟩:=b;cases e;show(ZcZ h2 h1).elim
  |_=>ext af b;first|(cases b;done)|(obtain⟨_,e⟩:=b;cases e;done)|show b.elim
 |.b5 _ _,q,u,a,b=>by ext af a;show a.elim
 |.bW _ _,q,u,a,b=>by ext af a;show a.elim
 |.fn _,q,u,a,b=>by ext af a;show a.elim
 |.ty _,q,u,a,b=>by ext af a;show a.elim
 |.dn _ _,q,u,a,b=>by ext af a;show a.elim
theorem aA.inj{h:Heap}:∀(ps:List PV){qs:List PV}{us:4e1},aA h ps us->aA h qs us->ps=qs
 |[],qs,us,a,b=>by
  ext aA a;subst a;cases qs with
  |nil=>rfl
  |cons q qs=>ext aA b;obtain⟨_,_,e,_⟩:=b;cases e
 |p::ps,qs,us,a,b=>by
  sleep 19;cases qs with
  |nil=>ext aA b;cases b
  |cons q qs=>
   ext aA b;obtain⟨v',r',e,b1,b2⟩:=b;cases e;rw[af.inj p a1 b1,aA.inj ps a2 b2]
end
open Classical in
def sS(h:Heap)(q:PV)(u:Value):Bool:=decide (∃p,af h p u/\aI p q=true)
open Classical in
theorem CZ{h:Heap}{p q:PV}{u:Value}(a:af h p u):sS h q u=aI p q:=by
 ext sS;cases e:aI p q with
 |true=>show decide_eq_true ⟨p,a,e⟩
 |false=>show decide_eq_false λh_=>by obtain⟨p',a',e'⟩:=h_;rw[af.inj p a a',e']at e;cases e
theorem S8{h:Heap}{q:PV}:∀{ps:List PV}{us:4e1},aA h ps us->us.any (sS h q)=ps.any λp=>aI p q
 |[],us,a=>by ext aA a;subst a;rfl
 |p::ps,us,a=>by
  sleep 19;rw[Xd,Xd,CZ a1,S8 a2]
theorem Ta{A:Around}{s:Shared}{q:PV}{v:Value}(b:17e1):∀{ps:List PV}{us:4e1},aA s.heap ps us->A.units+cq ps<cLine->∀u∈us,EqAt A s u v (sS s.heap q u)
 |[],us,a,_,u,hu=>by ext aA a;subst a;cases hu
 |p::ps,us,a,hz,u,hu=>by
  ext aA a;obtain⟨w,r,rfl,a1,a2⟩:=a;ext cq hz;rcases Yd.mp hu with rfl|hu
  ·rw[CZ a1];show af.jS p a1 b 1e4
  ·show Ta b a2 1e4 u hu
def oN(neg:Bool)(x y:PV):Option PV:=match y with
 |.tup ps=>if df ps&&dat x&&decide (cq ps<=50)then some (.bl (if neg then !ps.any (λp=>aI p x)else ps.any λp=>aI p x))else none
 |.lst ps=>if df ps&&dat x&&decide (cq ps<=50)then some (.bl (if neg then !ps.any (λp=>aI p x)else ps.any λp=>aI p x))else none
 |_=>none
section
variable{X:Cx}
def KC(K:W.Frag)(neg:Bool):R2:=λx y H Q=>∃ι q ps p vs,Lies K ι H q x/\dat q=true/\y=.ref p/\(fB K H p vs\/iz K H p vs)/\ah K ι H ps vs/\df ps=true/\cq ps<=50/\Q (.bl (if neg then !ps.any (λp=>aI p q)else ps.any λp=>aI p q)) H
theorem K8(hu:8e3):dY X (Xa .In) (KC X.K false):=by
 sleep 5;obtain⟨ι,q,ps,p,vs,lx,dq,rfl,hq,rs,ds,de,k⟩:=h;cases ry;have hx:=lx.heap I rx dq;rcases hq with hq|hq
 ·obtain⟨aM,r,pl,hz⟩:=I.list hq
  have hr:=ah.heap I ps rs r ds;show SeqAt.in_listAt (sS s.heap q) pl.isList (λw hw=>Ta hx hr (by rw[Y2];lia) w (by simpa using hw)) ⟨.bl _,H,I,rfl,?_⟩;rw[show aM.toArray.any (sS s.heap q)=aM.any (sS s.heap q) by simp,S8 hr];show k
 ·obtain⟨aM,r,pl,hz⟩:=I.tuple hq
  have hr:=ah.heap I ps rs r ds;show SeqAt.in_tupleAt (sS s.heap q) pl (λw hw=>Ta hx hr (by rw[Y2];lia) w (by simpa using hw)) ⟨.bl _,H,I,rfl,?_⟩;rw[show aM.toArray.any (sS s.heap q)=aM.any (sS s.heap q) by simp,S8 hr];show k
theorem mz(hu:8e3):dY X (Xa .NotIn) (KC X.K true):=by
 sleep 5;obtain⟨ι,q,ps,p,vs,lx,dq,rfl,hq,rs,ds,de,k⟩:=h;cases ry;have hx:=lx.heap I rx dq;rcases hq with hq|hq
 ·obtain⟨aM,r,pl,hz⟩:=I.list hq
  have hr:=ah.heap I ps rs r ds;show SeqAt.notIn_listAt (sS s.heap q) pl.isList (λw hw=>Ta hx hr (by rw[Y2];lia) w (by simpa using hw)) ⟨.bl _,H,I,rfl,?_⟩;rw[show aM.toArray.any (sS s.heap q)=aM.any (sS s.heap q) by simp,S8 hr];show k
 ·obtain⟨aM,r,pl,hz⟩:=I.tuple hq
  have hr:=ah.heap I ps rs r ds;show SeqAt.notIn_tupleAt (sS s.heap q) pl (λw hw=>Ta hx hr (by rw[Y2];lia) w (by simpa using hw)) ⟨.bl _,H,I,rfl,?_⟩;rw[show aM.toArray.any (sS s.heap q)=aM.any (sS s.heap q) by simp,S8 hr];show k
theorem uk{neg:Bool}:gH X.K (KC X.K neg) (oN neg):=by
 sleep 9;ext oN e;split at e
 ·split at e
  ·rename_i h
   cases e;simp only[Yg,decide_eq_true_eq]at h;cases ly with
   |tup hs rs=>show⟨ι,p,_,_,_,lx,h.1.2,rfl,.inr hs.sq,rs,h.1.1,h.2,k _ H .refl cr eG⟩
  ·cases e
 ·split at e
  ·rename_i h
   cases e;simp only[Yg,decide_eq_true_eq]at h;cases ly with
   |lst hs rs=>show⟨ι,p,_,_,_,lx,h.1.2,rfl,.inl hs,rs,h.1.1,h.2,k _ H .refl cr eG⟩
  ·cases e
 ·cases e
end
mutual
noncomputable def cS:PV->PV->Option Bool
 |.int a,.int b=>some (decide (a<b))
 |.str a,.str b=>some (decide (a.cps.toList<b.cps.toList))
 |.tup xs,.tup ys=>dG xs ys
 |_,_=>none
noncomputable def dG:List PV->List PV->Option Bool
 |[],[]=>some false
 |[],_::_=>some true
 |_::_,[]=>some false
 |x::xs,y::ys=>if aI x y then dG xs ys else cS x y
end
def gU(A:Around)(s:Shared)(y x:Value)(b:Bool):Prop:=
 ∀(prog:Ys)(w:World)(E:1e6)(Q:1e6),Q (.bool b) s->wpAny 5e0 A (richCompare .Lt y x) Q E s
inductive eE(A:Around)(s:Shared):List PV->List PV->List Value->List Value->Prop
 |Gr {qs:List PV} {vs:List Value} (h:qs.length=vs.length):eE A s [] qs [] vs
 |Gq {ps:List PV} {us:List Value} (h:ps.length=us.length):eE A s ps [] us []
 |cons {p q:PV} {u v:Value} {ps qs:List PV} {us vs:List Value} (e:EqAt A s u v (aI p q)) (l:∀c,cS p q=some c->gU A s u v c) (t:eE A s ps qs us vs):eE A s (p::ps) (q::qs) (u::us) (v::vs)
section
open PySem.AutoSeq1 (wpAny_loadPart')
open PySem.MeetsSeq PySem.MeetsSeq2 PySem.MeetsSeq3
theorem mP(x y:PV)(xs ys:List PV):dG (x::xs) (y::ys)=if aI x y then dG xs ys else cS x y:=by rw[dG]
theorem Zbr:dG [] []=some false:=by rw[dG]
theorem Zco(y:PV)(ys:List PV):dG [] (y::ys)=some true:=by rw[dG]
theorem Zcp(x:PV)(xs:List PV):dG (x::xs) []=some false:=by rw[dG]
theorem xO(l b:Addr)(items kJ:Array Value)(n n2:Nat)(dd EY:Option Addr)(sl xR:Array (Option Value))(ps qs:List PV)(c:Bool)(hc:dG ps qs=some c):
  Meets (V0.«tuple.__lt__» ⟨[.ref l,.ref b],[]⟩)
   (λA R s=>s.heap.get? l=some {cls:=.type "tuple",dict:=dd,data:=.seq items n,slots:=sl}/\s.heap.get? b=some {cls:=.type "tuple",dict:=EY,data:=.seq kJ n2,slots:=xR}/\
    eE A.in1 s ps qs items.toList kJ.toList/\R (.ok (.ret (.bool c))) s):=
 .of_wp λprog w A R s h=>by
  obtain⟨hp,g,d,tk,os⟩:=s;obtain⟨hl,hb,hpr,h⟩:=h;have f2:=AutoSeq1.sub_tuple_tuple
  wp_walk using Ug hl,Ug hb,wpAny_forIn_list _ (λrest b s'=>b.1=none/\s'=⟨hp,g,d,tk,os⟩/\∃(vs ws:4e1)(ft yd:List PV),rest=vs.zip ws/\
   eE A.in1 ⟨hp,g,d,tk,os⟩ ft yd vs ws/\vs.length+kJ.size=ws.length+items.size/\dG ft yd=some c) _
  case turn=>
   rintro⟨y,x⟩ rest b s' ⟨yU,rfl,vs,ws,ft,yd,hz,MB,hlen,hR⟩;cases MB with
   |Gr hh=>rw[List.zip_nil_left]at hz;cases hz
   |Gq hh=>rw[List.zip_nil_right]at hz;cases hz
   |@cons p q u v EI qs2 vA vs2 e lt t=>
    rw[Y6]at hz;injection hz with hyx Rn;injection hyx with hy hx;subst hy hx;rw[mP]at hR;simp only[YD]at hlen;show Ya (e prog w _ _ ?_);cases ee:aI p q with
    |true=>
     rw[ee,if_pos rfl]at hR
     wp_walk
     show⟨rfl,rfl,_,_,_,_,Rn,t,by lia,hR⟩
    |false=>
     rw[ee,if_neg Yi]at hR;have hri:=lt c hR prog w
     wp_walk using hri
     show⟨_,rfl,by simpa using h⟩
  case fin=>
   rintro⟨b1,b2⟩ s' ⟨yU,rfl,vs,ws,ft,yd,hz,MB,hlen,hR⟩;simp only at yU;subst yU;have hv:c=decide (items.size<kJ.size):=by
    cases MB with
    |Gr hh=>
     cases yd with
     |nil=>
      rw[Zbr]at hR;cases hR;simp only[WB]at hlen hh;show(decide_eq_false 1e4).symm
     |cons q qs2=>
      rw[Zco]at hR;cases hR;simp only[WB,YD]at hlen hh;show(decide_eq_true 1e4).symm
    |Gq hh=>
     cases ft with
     |nil=>
      rw[Zbr]at hR;cases hR;simp only[WB]at hlen hh;show(decide_eq_false 1e4).symm
     |cons q qs2=>
      rw[Zcp]at hR;cases hR;simp only[WB,YD]at hlen hh;show(decide_eq_false 1e4).symm
    |cons e lt t=>rw[Y6]at hz;cases hz
   rw[hv]at h
   wp_walk
   show⟨_,rfl,by simpa[Builtin.Tuple.tupleCompareSizes]using h⟩
  case h=>
   show⟨rfl,rfl,items.toList,kJ.toList,ps,qs,rfl,hpr,by simp;lia,hc⟩
end
section
variable{s:Shared}
theorem gU.int(a:Int)(t:Tok)(c:Int)(u:Tok)(A:Around):gU A s (.int a t) (.int c u) (decide (a<c)):=λprog w E Q h=>
 (PyProof.Rows.lt_int h:wpAny 5e0 A (Xa .Lt (.int a t) (.int c u)) Q E s)
theorem gU.str(a:Str)(t:Tok)(c:Str)(u:Tok)(A:Around):gU A s (.str a t) (.str c u) (decide (a.cps.toList<c.cps.toList)):=λprog w E Q h=>
 (PyProof.Rows.lt_str h:wpAny 5e0 A (Xa .Lt (.str a t) (.str c u)) Q E s)
theorem gU.tup{A:Around}{l b:Addr}{us vs:4e1}{ps qs:List PV}{c:Bool}(hl:s.heap.IsTuple l us.toArray)(hb:s.heap.IsTuple b vs.toArray)(hu:5e1)(hp:eE A.in1 s ps qs us vs)(hc:dG ps qs=some c):
  gU A s (.ref l) (.ref b) c:=λprog w E Q h=>by
 obtain⟨⟨cls,dd,data,sl⟩,ho,CK,n,hd⟩:=id hl;obtain⟨⟨Nf,EY,data2,xR⟩,ur,RO,n2,hd2⟩:=id hb;simp only at CK hd RO hd2;subst CK hd RO hd2;show richCompare_meets_room (op:=.Lt) ⟨_,ho,rfl⟩ ⟨_,ur,rfl⟩ PySem.F.slot_tuple_lt PySem.F.entry_tuple_lt (PySem.F.args_tuple_lt_2 _ _) (xO l b us.toArray vs.toArray n n2 dd EY sl xR ps qs c hc)
  ⟨ho,ur,hp,show Vj c≠Value.notImplemented/\Q (.bool c) s from⟨(λx=>nomatch x),h⟩⟩ hu
mutual
theorem af.P5:∀(p:PV){q:PV}{u v:Value}{A:Around}{c:Bool},af s.heap p u->af s.heap q v->A.units+dep p<cLine->cS p q=some c->gU A s u v c
 |.int x,q,u,v,A,c,a,b,hu,e=>by
  cases q with
  |int y=>
   unfold af at a b;obtain⟨t,rfl⟩:=a;obtain⟨t',rfl⟩:=b;ext cS e;cases e;show .int _ _ _ _ _
  |_=>ext cS e;cases e
 |.str x,q,u,v,A,c,a,b,hu,e=>by
  cases q with
  |str y=>
   unfold af at a b;obtain⟨t,rfl⟩:=a;obtain⟨t',rfl⟩:=b;ext cS e;cases e;show .str _ _ _ _ _
  |_=>ext cS e;cases e
 |.tup ps,q,u,v,A,c,a,b,hu,e=>by
  cases q with
  |tup qs=>
   unfold af at a b;obtain⟨l,us,rfl,h1,r1⟩:=a;obtain⟨l',vs,rfl,h2,r2⟩:=b;ext cS e;ext dep hu;show .tup h1 h2 1e4 (aA.pairs ps r1 r2 (by rw[Y2];lia)) e
  |_=>ext cS e;cases e
 |.aP,q,u,v,A,c,a,b,hu,e=>by ext cS e;cases e
 |.bl _,q,u,v,A,c,a,b,hu,e=>by ext cS e;cases e
 |.lst _,q,u,v,A,c,a,b,hu,e=>by ext cS e;cases e
 |.b5 _ _,q,u,v,A,c,a,b,hu,e=>by ext cS e;cases e
 |.bW _ _,q,u,v,A,c,a,b,hu,e=>by ext cS e;cases e
 |.fn _,q,u,v,A,c,a,b,hu,e=>by ext cS e;cases e
 |.ty _,q,u,v,A,c,a,b,hu,e=>by ext cS e;cases e
 |.dn _ _,q,u,v,A,c,a,b,hu,e=>by ext cS e;cases e
theorem aA.pairs:∀(ps:List PV){qs:List PV}{us vs:4e1}{A:Around},aA s.heap ps us->aA s.heap qs vs->A.units+cq ps<cLine->eE A s ps qs us vs
 |[],qs,us,vs,A,a,b,hu=>by
  have:=b.length;ext aA a;subst a;show .Gr this
 |p::ps,qs,us,vs,A,a,b,hu=>by
  cases qs with
  |nil=>
   have:=a.length;ext aA b;subst b;show .Gq this
  |cons q qs=>
   unfold aA at a b;obtain⟨x,r,rfl,a1,a2⟩:=a;obtain⟨y,r',rfl,b1,b2⟩:=b;ext cq hu;show .cons (af.jS p a1 b1 1e4) (λc e=>af.P5 p a1 b1 1e4 e) (aA.pairs ps a2 b2 1e4)
end
end
section
variable{X:Cx}
def P8(K:W.Frag):R2:=λx y H Q=>∃ι p q c,Lies K ι H p x/\Lies K ι H q y/\dat p=true/\dat q=true/\dep p<=60/\cS p q=some c/\Q (.bl c) H
theorem K7(hu:8e3):dY X (Xa .Lt) (P8 X.K):=by
 sleep 5;obtain⟨ι,p,q,c,lx,ly,dp,dq,de,e,k⟩:=h;show af.P5 p (lx.heap I rx dp) (ly.heap I ry dq) 1e4 e X.prog X.w X.xe _ ⟨.bl _,H,I,rfl,k⟩
def qK(p q:PV):Option PV:=if dat p&&dat q&&decide (dep p<=60)then(cS p q).map .bl else none
theorem L5:gH X.K (P8 X.K) qK:=by
 sleep 9;ext qK e;split at e
 ·rename_i h
  simp only[Yg,decide_eq_true_eq]at h;cases hc:cS p q with
  |none=>rw[hc]at e;cases e
  |some c=>rw[hc]at e;cases e;show⟨ι,p,q,c,lx,ly,h.1.1,h.1.2,h.2,hc,k _ H .refl cr eG⟩
 ·cases e
end
end Pu
namespace Pu
open PySem PySem.W
open PyProof.Rows hiding St Fr
def bJ{α:Type}(o:Nat->Nat->Bool):KasT α->α
 |.ret a=>a
 |.ask i j k=>bJ o (k (o i j))
theorem Pj{α β:Type}(o:Nat->Nat->Bool)(f:α->KasT β):∀t:KasT α,bJ o (t.bind f)=bJ o (f (bJ o t))
 |.ret _=>rfl
 |.ask i j k=>Pj o f (k (o i j))
structure Wk(lt:Nat->Nat->Bool):Prop where
 EJ:∀a,lt a a=false
 O4:∀a b,lt a b=true->lt b a=false
 tr:∀a b c,lt b a=false->lt c b=false->lt c a=false
section
variable{lt:Nat->Nat->Bool}
def vn(lt:Nat->Nat->Bool)(p:16e4)(k:Nat):Prop:=∀i j,i<=j->j<k->lt (p.getD j 0) (p.getD i 0)=false
def zC(lt:Nat->Nat->Bool)(p:16e4)(k:Nat):Prop:=∀i j,i<=j->j<k->lt (p.getD i 0) (p.getD j 0)=false
def Eqv(lt:Nat->Nat->Bool)(p:16e4)(a b:Nat):Prop:=∀i j,a<=i->i<b->a<=j->j<b->lt (p.getD i 0) (p.getD j 0)=false
theorem Zc0{p:16e4}{i j:Nat}(hj:j<=p.size)(k:Nat):(Ww p i j).getD k 0=if i<=k/\k<j then p.getD (i+j-1-k) 0 else p.getD k 0:=by
 ext Ww;rw[Xf,getElem?_mirror_all hj];split<;>rw[Xf]
theorem rl{p:16e4}{k l:Nat}(hk:k<p.size)(hl:l<=k)(i:Nat):(bubble p k (k-l)).getD i 0=if i=l then p.getD k 0 else if l<i/\i<=k then p.getD (i-1) 0 else p.getD i 0:=by
 rw[Xf,getElem?_bubble hk _ 1e4,show k-(k-l)=l by lia];by_cases h:i=l
 ·rw[if_pos h,if_pos h,Xf]
 ·rw[if_neg h,if_neg h]
  by_cases h2:l<i/\i<=k
  ·rw[if_pos h2,if_pos h2,Xf]
  ·rw[if_neg h2,if_neg h2,Xf]
theorem vn.step(W:Wk lt){p:16e4}{k:Nat}(h:vn lt p k)(h1:1<=k)(e:lt (p.getD k 0) (p.getD (k-1) 0)=false):vn lt p (k+1):=by
 intro i j ER hj;by_cases RD:j<k
 ·show h i j ER RD
 ·have:j=k:=by lia
  subst this;by_cases hi:i=j
  ·subst hi;show W.EJ _
  ·show W.tr _ _ _ (h i (j-1) 1e4 1e4) e
theorem zC.step(W:Wk lt){p:16e4}{k:Nat}(h:zC lt p k)(h1:1<=k)(e:lt (p.getD (k-1) 0) (p.getD k 0)=false):zC lt p (k+1):=by
 intro i j ER hj;by_cases RD:j<k
 ·show h i j ER RD
 ·have:j=k:=by lia
  subst this;by_cases hi:i=j
  ·subst hi;show W.EJ _
  ·show W.tr _ _ _ e (h i (j-1) 1e4 1e4)
theorem zC.rev(W:Wk lt){p:16e4}{m a b:Nat}(h:zC lt p m)(hab:a<=b)(hb:b<=m)(hm:m<=p.size)(e:Eqv lt p a b):zC lt (Ww p a b) m:=by
 intro i j ER hj;rw[Zc0 1e4,Zc0 1e4];by_cases hi:a<=i/\i<b
 ·by_cases Ir:a<=j/\j<b
  ·rw[if_pos hi,if_pos Ir];show e _ _ 1e4 1e4 1e4 1e4
  ·rw[if_pos hi,if_neg Ir];show h _ _ 1e4 1e4
 ·by_cases Ir:a<=j/\j<b
  ·rw[if_neg hi,if_pos Ir];show h _ _ 1e4 1e4
  ·rw[if_neg hi,if_neg Ir];show h _ _ ER hj
theorem zC.Zy{p:16e4}{n:Nat}(h:zC lt p n)(hn:n<=p.size):vn lt (Ww p 0 n) n:=by
 intro i j ER hj;rw[Zc0 hn,Zc0 hn,if_pos 1e4,if_pos 1e4];show h _ _ 1e4 1e4
theorem vf(W:Wk lt)(p:16e4):∀(f n:Nat),1<=n->vn lt p n->
  n<=bJ lt (WV p f n)/\bJ lt (WV p f n)<=n+f/\vn lt p (bJ lt (WV p f n))/\(bJ lt (WV p f n)<n+f->lt (p.getD (bJ lt (WV p f n)) 0) (p.getD (bJ lt (WV p f n)-1) 0)=true)
 |0,n,h1,h=>⟨Yl _,Yl _,h,λz=>absurd z (XZ _)⟩
 |f+1,n,h1,h=>by
  change n<=bJ lt (if lt 19e1 8e8=true then Uw n else WV p f (n+1))/\bJ lt (if lt 19e1 8e8=true then Uw n else WV p f (n+1))<=n+(f+1)/\
   vn lt p (bJ lt (if lt 19e1 8e8=true then Uw n else WV p f (n+1)))/\(bJ lt (if lt 19e1 8e8=true then Uw n else WV p f (n+1))<n+(f+1)->
    lt (p.getD (bJ lt (if lt (p.getD n 0) (p.getD (n-1) 0)=true then Uw n else WV p f (n+1))) 0) (p.getD (bJ lt (if lt (p.getD n 0) (p.getD (n-1) 0)=true then Uw n else WV p f (n+1))-1) 0)=true)
  by_cases c:lt 19e1 8e8=true
  ·rw[if_pos c];show⟨Yl _,V5 _ _,h,λ_=>c⟩
  ·rw[if_neg c]
   obtain⟨a1,a2,a3,a4⟩:=vf W p f (n+1) 1e4 (h.step W h1 (by simpa using c));show⟨by lia,by lia,a3,λz=>a4 1e4⟩
structure DS(lt:Nat->Nat->Bool)(N:Nat)(p0 p:Array Nat)(n q:Nat):Prop where
 sz:p.size=p0.size
 pm:p.Perm p0
 n1:1<=n
 nN:n<=N
 q1:q+1<=n
 aP:zC lt p n
 eqv:Eqv lt p (n-(q+1)) n
theorem ke(W:Wk lt){p0:16e4}{N:Nat}(hN:N<=p0.size):∀(f:Nat)(p:16e4)(n q:Nat),DS lt N p0 p n q->n+f=N->
  DS lt N p0 (bJ lt (X8 f p n q)).1 (bJ lt (X8 f p n q)).2.1 (bJ lt (X8 f p n q)).2.2
 |0,p,n,q,D,_=>D
 |f+1,p,n,q,D,hf=>by
  change DS lt N p0 (bJ lt (if lt 19e1 8e8=true then(if q>0 then X8 f (Ww p (n-(q+1)) n) (n+1) 0 else X8 f p (n+1) 0)else .ask 8e8 19e1 λd=>if d=true then .ret (p,n,q)else X8 f p (n+1) (q+1))).1
   (bJ lt (if lt 19e1 8e8=true then(if q>0 then X8 f (Ww p (n-(q+1)) n) (n+1) 0 else X8 f p (n+1) 0)else .ask 8e8 19e1 λd=>if d=true then .ret (p,n,q)else X8 f p (n+1) (q+1))).2.1
   (bJ lt (if lt 19e1 8e8=true then(if q>0 then X8 f (Ww p (n-(q+1)) n) (n+1) 0 else X8 f p (n+1) 0)else .ask 8e8 19e1 λd=>if d=true then .ret (p,n,q)else X8 f p (n+1) (q+1))).2.2
  have hsz:=D.sz;have hq1:=D.q1;have OR:=D.n1;have one:∀p':Array Nat,Eqv lt p' (n+1-(0+1)) (n+1):=λp' i j a b c d=>by
   have:i=j:=by lia
   subst this;show W.EJ _
  by_cases c:lt 19e1 8e8=true
  ·rw[if_pos c]
   have hn:=D.aP.step W D.n1 (W.O4 _ _ c);by_cases hq:q>0
   ·rw[if_pos hq]
    show ke W hN f _ _ _ ⟨by ext Ww;rw[Ur];show hsz,(V2 _ _ _ _).trans D.pm,by lia,by lia,by lia,hn.rev W 1e4 1e4 1e4 D.eqv,one _⟩ 1e4
   ·rw[if_neg hq]
    show ke W hN f _ _ _ ⟨hsz,D.pm,by lia,by lia,by lia,hn,one _⟩ 1e4
  ·rw[if_neg c]
   change DS lt N p0 (bJ lt (if lt 8e8 19e1=true then .ret (p,n,q)else X8 f p (n+1) (q+1))).1 (bJ lt (if lt 8e8 19e1=true then .ret (p,n,q)else X8 f p (n+1) (q+1))).2.1 (bJ lt (if lt 8e8 19e1=true then .ret (p,n,q)else X8 f p (n+1) (q+1))).2.2;by_cases d:lt 8e8 19e1=true
   ·rw[if_pos d];show D
   ·rw[if_neg d]
    have c':lt 19e1 8e8=false:=by simpa using c
    have d':lt 8e8 19e1=false:=by simpa using d
    show ke W hN f _ _ _ ⟨hsz,D.pm,by lia,by lia,by lia,D.aP.step W D.n1 d',?_⟩ 1e4;intro i j a1 a2 b1 b2;by_cases hi:i=n
    ·by_cases hj:j=n
     ·subst hi;subst hj;show W.EJ _
     ·subst hi;show W.tr _ _ _ (D.eqv _ _ 1e4 1e4 1e4 1e4) c'
    ·by_cases hj:j=n
     ·subst hj;show W.tr _ _ _ d' (D.eqv _ _ 1e4 1e4 1e4 1e4)
     ·show D.eqv _ _ 1e4 1e4 1e4 1e4
structure CS(lt:Nat->Nat->Bool)(N:Nat)(p0:Array Nat)(r:Nat×Array Nat):Prop where
 sz:r.2.size=p0.size
 pm:r.2.Perm p0
 n1:1<=r.1
 nN:r.1<=N
 Zy:vn lt r.2 r.1
theorem pY(W:Wk lt){p0 p:16e4}{N n:Nat}(hN:N<=p0.size)(hs:p.size=p0.size)(hp:p.Perm p0)(h1:1<=n)(hn:n<=N)(h:zC lt p n):CS lt N p0 (bJ lt (kas_tail3 n N p)):=by
 ext kas_tail3;rw[Pj];obtain⟨a1,a2,a3,_⟩:=vf W (Ww p 0 n) (N-n) n h1 (h.Zy 1e4);show⟨by change(Ww p 0 n).size=_;ext Ww;rw[Ur];show hs,(V2 _ _ _ _).trans hp,by change 1<=bJ lt (WV (Ww p 0 n) (N-n) n);lia,by change bJ lt (WV (Ww p 0 n) (N-n) n)<=N;lia,a3⟩
theorem Zdn(W:Wk lt){p0 p:16e4}{N n:Nat}(hN:N<=p0.size)(hs:p.size=p0.size)(hp:p.Perm p0)(h1:1<=n)(hn:n+1<=N)(h:zC lt p (n+1)):CS lt N p0 (bJ lt (Uh n N p)):=by
 ext Uh;rw[Pj];have D:=ke W hN (N-(n+1)) p (n+1) 0 ⟨hs,hp,by lia,hn,by lia,h,λi j a b c d=>(show i=j by lia)▸W.EJ _⟩ 1e4;generalize bJ lt (X8 (N-(n+1)) p (n+1) 0)=r at D⊢;have hsz:=D.sz;have hnN:=D.nN;by_cases hq:r.2.2>0
 ·rw[if_pos hq]
  show pY W hN (by ext Ww;rw[Ur];show hsz) ((V2 _ _ _ _).trans D.pm) D.n1 D.nN (D.aP.rev W 1e4 1e4 1e4 D.eqv)
 ·rw[if_neg hq]
  show pY W hN hsz D.pm D.n1 D.nN D.aP
theorem Dz(W:Wk lt){p:16e4}{N:Nat}(hN:N<=p.size)(h1:1<=N):CS lt N p (bJ lt (kas_count N p)):=by
 ext kas_count;rw[Pj];have s1:vn lt p 1:=λi j a b=>(show i=j by lia)▸W.EJ _;obtain⟨a1,a2,a3,a4⟩:=vf W p (N-1) 1 1e4 s1;generalize bJ lt (WV p (N-1) 1)=n at a1 a2 a3 a4⊢;by_cases e:(n==N)=true
 ·rw[if_pos e];show⟨rfl,VF _,a1,by change n<=N;lia,a3⟩
 ·rw[if_neg e]
  have e':n≠N:=by simpa using e
  have st:=a4 1e4;by_cases hn:n>1
  ·rw[if_pos hn]
   change CS lt N p (bJ lt (if lt (p.getD 0 0) 8e8=true then .ret (n,p)else Uh n N (Ww p 0 n)));by_cases c:lt (p.getD 0 0) 8e8=true
   ·rw[if_pos c];show⟨rfl,VF _,a1,by change n<=N;lia,a3⟩
   ·rw[if_neg c]
    have c':lt (p.getD 0 0) 8e8=false:=by simpa using c
    have eq:Eqv lt p 0 n:=λi j _ hi _ hj=>
     W.tr _ _ _ (W.tr _ _ _ (a3 j (n-1) 1e4 1e4) c') (a3 0 i 1e4 hi)
    have aP:zC lt p n:=λi j _ hj=>eq i j 1e4 1e4 1e4 hj;have Vaw:=aP.step W a1 (W.O4 _ _ st);show Zdn W hN (by ext Ww;rw[Ur]) (V2 _ _ _ _) a1 1e4 (Vaw.rev W 1e4 1e4 1e4 eq)
  ·rw[if_neg hn]
   have:n=1:=by lia
   subst this;have aP:zC lt p 1:=λi j a b=>(show i=j by lia)▸W.EJ _;show Zdn W hN rfl (VF _) 1e4 1e4 (aP.step W 1e4 (W.O4 _ _ st))
theorem kq(W:Wk lt){p:16e4}{k:Nat}(hs:vn lt p k):∀(f l r:Nat),r-l<=f->l<=r->r<=k->(∀i,i<l->lt (p.getD k 0) (p.getD i 0)=false)->(∀i,r<=i->i<k->lt (p.getD k 0) (p.getD i 0)=true)->
  bJ lt (Ws p k f l r)<=k/\(∀i,i<bJ lt (Ws p k f l r)->lt (p.getD k 0) (p.getD i 0)=false)/\(∀i,bJ lt (Ws p k f l r)<=i->i<k->lt (p.getD k 0) (p.getD i 0)=true)
 |0,l,r,hf,hlr,hr,hl,hg=>⟨by change l<=k;lia,hl,λi a b=>hg i (YI (by lia:r<=l) a) b⟩
 |f+1,l,r,hf,hlr,hr,hl,hg=>by
  ext Ws;by_cases c:l≥r
  ·rw[if_pos c];show⟨by change l<=k;lia,hl,λi a b=>hg i (YI (by lia:r<=l) a) b⟩
  ·rw[if_neg c]
   generalize hm:(l+r)/2=m;change bJ lt (if lt (p.getD k 0) (p.getD m 0)=true then Ws p k f l m else Ws p k f (m+1) r)<=k/\(∀i,i<bJ lt (if lt (p.getD k 0) (p.getD m 0)=true then Ws p k f l m else Ws p k f (m+1) r)->lt (p.getD k 0) (p.getD i 0)=false)/\
    (∀i,bJ lt (if lt (p.getD k 0) (p.getD m 0)=true then Ws p k f l m else Ws p k f (m+1) r)<=i->i<k->lt (p.getD k 0) (p.getD i 0)=true)
   by_cases d:lt (p.getD k 0) (p.getD m 0)=true
   ·rw[if_pos d]
    show kq W hs f l m 1e4 1e4 1e4 hl λi a b=>?_;cases z:lt (p.getD k 0) (p.getD i 0)with
    |true=>rfl
    |false=>rw[W.tr _ _ _ (hs m i a b) z]at d;cases d
   ·rw[if_neg d]
    show kq W hs f (m+1) r 1e4 1e4 1e4 (λi a=>?_) hg;show W.tr _ _ _ (hs i m 1e4 1e4) (by simpa using d)
theorem Nh(W:Wk lt){p:16e4}{k l:Nat}(hs:vn lt p k)(hk:k<p.size)(hl:l<=k)(h1:∀i,i<l->lt (p.getD k 0) (p.getD i 0)=false)(h2:∀i,l<=i->i<k->lt (p.getD k 0) (p.getD i 0)=true):vn lt (bubble p k (k-l)) (k+1):=by
 intro i j ER hj;rw[rl hk hl,rl hk hl];by_cases Z6:j=l
 ·rw[if_pos Z6]
  by_cases MK:i=l
  ·rw[if_pos MK];show W.EJ _
  ·rw[if_neg MK,if_neg 1e4];show h1 i 1e4
 ·rw[if_neg Z6]
  by_cases MK:i=l
  ·rw[if_pos MK,if_pos 1e4];show W.O4 _ _ (h2 _ 1e4 1e4)
  ·rw[if_neg MK]
   by_cases Ir:l<j/\j<=k
   ·rw[if_pos Ir]
    by_cases CJ:l<i/\i<=k
    ·rw[if_pos CJ];show hs _ _ 1e4 1e4
    ·rw[if_neg CJ];show hs _ _ 1e4 1e4
   ·rw[if_neg Ir,if_neg 1e4];show hs _ _ ER 1e4
theorem DI(W:Wk lt):∀(f:Nat)(p:16e4)(k:Nat),vn lt p k->k+f<=p.size->(bJ lt (kas_bin f p k)).Perm p/\vn lt (bJ lt (kas_bin f p k)) (k+f)
 |0,p,k,h,_=>⟨VF _,h⟩
 |f+1,p,k,h,hs=>by
  ext kas_bin;rw[Pj];obtain⟨a1,a2,a3⟩:=kq W h k 0 k 1e4 1e4 1e4 (λi z=>absurd z 1e4) (λi z y=>absurd z 1e4);generalize bJ lt (Ws p k k 0 k)=l at a1 a2 a3⊢;obtain⟨b1,b2⟩:=DI W f (bubble p k (k-l)) (k+1) (Nh W h 1e4 a1 a2 a3) (by rw[bubble_size];lia);show⟨b1.trans (bubble_perm _ _ _),by rw[show k+(f+1)=k+1+f by lia];show b2⟩
theorem FD(W:Wk lt){n:Nat}(h1:1<=n):(bJ lt (Vp n)).Perm (W0 (Yk n))/\vn lt (bJ lt (Vp n)) n:=by
 ext Vp;rw[Pj];have C:=Dz W (p:=W0 (Yk n)) (N:=n) 4e4 h1;generalize bJ lt (kas_count n (W0 (Yk n)))=r at C⊢;have hsz:r.2.size=n:=by rw[C.sz];simp
 have hn:=C.nN;have OR:=C.n1;by_cases c:r.1<n
 ·rw[if_pos c]
  have e:max r.1 1=r.1:=by lia
  rw[e];obtain⟨b1,b2⟩:=DI W (n-r.1) r.2 r.1 C.Zy 1e4;show⟨b1.trans C.pm,by rw[show r.1+(n-r.1)=n by lia]at b2;show b2⟩
 ·rw[if_neg c]
  show⟨C.pm,λi j a b=>C.Zy i j a 1e4⟩
end
def l7{α:Type}(n:Nat)(P:α->Prop):KasT α->Prop
 |.ret a=>P a
 |.ask i j k=>i<n/\j<n/\∀b,l7 n P (k b)
theorem l7.bind{α β:Type}{n:Nat}{P:α->Prop}{Q:β->Prop}{f:α->KasT β}(hf:∀a,P a->l7 n Q (f a)):∀{t:KasT α},l7 n P t->l7 n Q (t.bind f)
 |.ret a,h=>hf a h
 |.ask i j k,h=>⟨h.1,h.2.1,λb=>l7.bind hf (h.2.2 b)⟩
def AllIn(n:Nat)(p:16e4):Prop:=0<n/\p.size=n/\∀x,x∈p.toList->x<n
theorem AllIn.at{n:Nat}{p:16e4}(h:AllIn n p)(i:Nat):p.getD i 0<n:=by
 rw[Xf];cases e:p[i]? with
 |none=>show h.1
 |some x=>
  show h.2.2 x ?_;rw[Array.mem_toList_iff];show Array.mem_of_getElem? e
theorem AllIn.perm{n:Nat}{p q:16e4}(h:AllIn n p)(e:q.Perm p):AllIn n q:=⟨h.1,by rw[←h.2.1,←X2,←X2];show(WN.mp e).length_eq,λx hx=>h.2.2 x ((WN.mp e).mem_iff.mp hx)⟩
theorem AllIn.rev{n:Nat}{p:16e4}(h:AllIn n p)(i j:Nat):AllIn n (Ww p i j):=h.perm (V2 _ _ _ _)
theorem vg{n:Nat}{p:16e4}(h:AllIn n p):∀(f m:Nat),l7 n (λ_=>True) (WV p f m)
 |0,m=>trivial
 |f+1,m=>⟨h.at _,h.at _,λb=>by cases b<;>first|show vg h f (m+1)|trivial⟩
theorem kg{n:Nat}:∀(f:Nat)(p:16e4)(m q:Nat),AllIn n p->l7 n (λr=>AllIn n r.1) (X8 f p m q)
 |0,p,m,q,h=>h
 |f+1,p,m,q,h=>⟨h.at _,h.at _,λb=>by
  cases b with
  |true=>
   change l7 n _ (if q>0 then X8 f (Ww p (m-(q+1)) m) (m+1) 0 else X8 f p (m+1) 0);split
   ·show kg f _ _ _ (h.rev _ _)
   ·show kg f _ _ _ h
  |false=>
   show⟨h.at _,h.at _,λd=>by cases d<;>first|show kg f _ _ _ h|show h⟩⟩
theorem pZ{n m BQ:Nat}{p:16e4}(h:AllIn n p):l7 n (λr=>AllIn n r.2) (kas_tail3 m BQ p):=by
 ext kas_tail3;show l7.bind (P:=λ_=>True) (λk _=>?_) (vg (h.rev _ _) _ _);change AllIn n (Ww p 0 m);show h.rev 0 m
theorem Zdo{n m BQ:Nat}{p:16e4}(h:AllIn n p):l7 n (λr=>AllIn n r.2) (Uh m BQ p):=l7.bind (λr hr=>by
 split
 ·show pZ (hr.rev _ _)
 ·show pZ hr) (kg _ _ _ _ h)
theorem DA{n BQ:Nat}{p:16e4}(h:AllIn n p):l7 n (λr=>AllIn n r.2) (kas_count BQ p):=l7.bind (λm _=>by
 split
 ·show h
 ·split
  ·show⟨h.at _,h.at _,λb=>by cases b<;>first|show Zdo (h.rev _ _)|show h⟩
  ·show Zdo h) (vg h _ _)
theorem qr{n k:Nat}{p:16e4}(h:AllIn n p):∀(f l r:Nat),l7 n (λ_=>True) (Ws p k f l r)
 |0,l,r=>trivial
 |f+1,l,r=>by
  ext Ws;split
  ·trivial
  ·show⟨h.at _,h.at _,λb=>by cases b<;>show qr h f _ _⟩
theorem DJ{n:Nat}:∀(f:Nat)(p:16e4)(k:Nat),AllIn n p->l7 n (AllIn n) (kas_bin f p k)
 |0,p,k,h=>h
 |f+1,p,k,h=>l7.bind (λl _=>DJ f _ _ (h.perm (bubble_perm _ _ _))) (qr h _ _ _)
theorem FE{n:Nat}(h1:1<=n):l7 n (AllIn n) (Vp n):=by
 have h:AllIn n (W0 (Yk n)):=⟨h1,by simp,λx hx=>by simpa using hx⟩
 show l7.bind (λr hr=>?_) (DA h);split
 ·show DJ _ _ _ hr
 ·show hr
theorem wp_run{α:Type}{n:Nat}{P:α->Prop}{o:Nat->Nat->Bool}{cmp:Nat->Nat->(Bool->Shared->Prop)->Shared->Prop}{Q:α->Shared->Prop}{s:Shared}
  (hc:∀i j(C:18e1),i<n->j<n->C (o i j) s->cmp i j C s):∀(t:KasT α),l7 n P t->Q (bJ o t) s->t.kasWp cmp Q s
 |.ret a,_,h=>h
 |.ask i j k,hi,h=>hc i j _ hi.1 hi.2.1 (wp_run hc (k (o i j)) (hi.2.2 _) h)
end Pu
namespace Ts
open PySem PySem.W Pu
open PyProof.Rows hiding St Fr
noncomputable def ua:Nat:=64
def le(o:Nat->Nat->Bool)(a b:Nat):Prop:=o b a=false
theorem JX{o:Nat->Nat->Bool}(W:Wk o){n:Nat}(h1:1<=n):(bJ o (Vp n)).toList.Perm (Yk n)/\(bJ o (Vp n)).toList.Pairwise (le o):=by
 obtain⟨a,b⟩:=FD W h1;have p:=WN.mp a;have hl:(bJ o (Vp n)).toList.length=n:=by have:=p.length_eq;simpa using this
 show⟨p,?_⟩;rw[List.pairwise_iff_getElem];intro i j hi hj ER;have:=b i j (VO ER) 1e4;have g:∀k(hk:k<(bJ o (Vp n)).toList.length),(bJ o (Vp n)).getD k 0=(bJ o (Vp n)).toList[k]:=λk hk=>by simp[Array.getD]at hk⊢;simp[hk]
 rw[g i hi,g j hj]at this;show this
end Ts
namespace Pu
open PySem PySem.W PySem.Calls
open PyProof.Rows hiding St Fr
section
variable{prog:Ys}{w:World}{A:Around}{E:1e6}{s:Shared}{a l:Addr}{vs:4e1}{κ:SortKind}{o:Nat->Nat->Bool}
def gj(a:Addr)(h h':Heap):Prop:=∀b u,b≠a->h.get? b=some u->h'.get? b=some u
theorem Cm{n:Nat}{P:PySem.Fin->Shared->Prop}(W:Wk o)(ho:s.heap.get? a=some (seqObj "list" vs.toArray n))(h2:2<=vs.length)(EV:vs.length<Ts.ua)
  (hk:∀h',gj a s.heap h'->∀Q:SortKind->Shared->Prop,Q κ {s with heap:=h'}->wpAny (model prog w) A (keyKind' vs.toArray) Q (λ_ _=>False) {s with heap:=h'})
  (hc:∀h',gj a s.heap h'->∀i j(C:18e1),i<vs.length->j<vs.length->C (o i j) {s with heap:=h'}->kas_ask prog w A κ vs i j C {s with heap:=h'})
  (h:∀h' c(p:12e9),gj a s.heap h'->p.Perm (Yk vs.length)->p.Pairwise (Ts.le o)->h'.get? a=some (seqObj "list" (p.map λi=>vs.getD i Y8).toArray c)->P (.done (.ret .none)) {s with heap:=h'}):
  wpAny 5e0 A (V0.«list.sort» ⟨[.ref a],[]⟩) P E s:=by
 have EV:vs.length<64:=EV;have s1:=Wr s.heap a (XU λ_=>(#[]:Array Value));obtain⟨c1,Rt⟩:∃c1,(s.heap.update a (XU λ_=>(#[]:Array Value))).get? a=some (seqObj "list" #[] c1):=⟨_,Vc ho λ_=>#[]⟩
 have dQ:a<s.heap.objs.size:=Yq ho;generalize hg:((s.heap.update a (XU λ_=>(#[]:Array Value))).push (seqObj "tuple" vs.toArray 0)).push (seqObj "list" #[] 0)=g3;have kb:gj a s.heap g3:=λb u nb e=>by
  rw[←hg];show Yb _ (Yb _ ?_);rw[X5 _ _ _ _ nb];show e
 have MV:g3.get? a=some (seqObj "list" #[] c1):=by rw[←hg];show Yb _ (Yb _ Rt)
 rw[list_sort_plain];show Ya (Ui ho rfl ?_);show Ya (Vz ho rfl ?_ (by rw[Yn,YV];lia) (Xq _))
 show Ya (Us Rt rfl ?_);show Ya (wpAny_newTuple ?_ (by change vs.length<=_;rw[YV];lia))
 show Ya (VA ?_ (Xq _));show Xs ?_
 change wpAny 5e0 A _ P E {s with heap:=((s.heap.update a (XU λ_=>(#[]:Array Value))).push (seqObj "tuple" vs.toArray 0)).push (seqObj "list" #[] 0)};rw[hg];dsimp only;have n2:¬vs.toArray.size<2:=by rw[Yn];lia
 rw[if_neg n2,if_neg n2];show Ya (Y4 (hk g3 kb (λk s'=>k=κ/\s'={s with heap:=g3}) ⟨rfl,rfl⟩) (λk s' e=>?_) λ_ _ x=>x.elim);obtain⟨rfl,rfl⟩:=e;obtain⟨z1,z2⟩:=Ts.JX W (n:=vs.length) 1e4;show Ya (Y4 (kat_run (ks:=vs) (vs:=vs) (Q:=λmh s'=>s'={s with heap:=g3}/\∃z:List Nat,z.Perm (Yk vs.length)/\z.Pairwise (Ts.le o)/\arrOf mh=(z.toArray).map (kas_item (vs.toArray.zip vs.toArray))/\failedOf mh=none)
  (G:=λp s'=>p=bJ o (Vp vs.length)/\s'={s with heap:=g3}) rfl h2 EV (λp mh s' _ b2 b3 b4=>⟨b4.2,p.toList,by rw[b4.1];show z1,by rw[b4.1];show z2,by rw[b2],b3⟩)
  (wp_run (o:=o) (hc g3 kb) _ (FE (by lia)) ⟨rfl,rfl⟩)) ?_ λ_ _ e=>e)
 rintro⟨⟨⟩,mh⟩ s' ⟨rfl,z,z1,z2,har,hf⟩;dsimp only at har hf⊢;have ur:=kat_snds (ks:=vs) (vs:=vs) rfl har;rw[ur];have hz:(W0 (z.map λi=>vs.getD i Y8)).size=vs.length:=by rw[Yn,Yv,z1.length_eq,List.length_range]
 obtain⟨c2,yT⟩:∃c2,(g3.update a (XU λ_=>W0 (z.map λi=>vs.getD i Y8))).get? a=some (seqObj "list" (W0 (z.map λi=>vs.getD i Y8)) c2):=⟨_,Vc MV λ_=>_⟩
 show Ya (Us MV rfl ?_);show Ya (Vz MV rfl ?_ (Xq _) (YI (Ud hz) (by rw[YV];lia)));rw[hf];simp only[bne_self_eq_false,Xi,if_false];show Ye (h _ c2 z (λb u nb e=>by rw[X5 _ _ _ _ nb];show kb b u nb e) z1 z2 yT)
theorem yA{n:Nat}{P:PySem.Fin->Shared->Prop}(ho:s.heap.get? a=some (seqObj "list" vs.toArray n))(h2:vs.length<2)
  (h:∀h' c,gj a s.heap h'->h'.get? a=some (seqObj "list" vs.toArray c)->P (.done (.ret .none)) {s with heap:=h'}):
  wpAny 5e0 A (V0.«list.sort» ⟨[.ref a],[]⟩) P E s:=by
 obtain⟨c1,Rt⟩:∃c1,(s.heap.update a (XU λ_=>(#[]:Array Value))).get? a=some (seqObj "list" #[] c1):=⟨_,Vc ho λ_=>#[]⟩
 generalize hg:((s.heap.update a (XU λ_=>(#[]:Array Value))).push (seqObj "tuple" vs.toArray 0)).push (seqObj "list" #[] 0)=g3;have kb:gj a s.heap g3:=λb u nb e=>by
  rw[←hg];show Yb _ (Yb _ ?_);rw[X5 _ _ _ _ nb];show e
 have MV:g3.get? a=some (seqObj "list" #[] c1):=by rw[←hg];show Yb _ (Yb _ Rt)
 rw[list_sort_plain];show Ya (Ui ho rfl ?_);show Ya (Vz ho rfl ?_ (by rw[Yn,YV];lia) (Xq _))
 show Ya (Us Rt rfl ?_);show Ya (wpAny_newTuple ?_ (by change vs.length<=_;rw[YV];lia))
 show Ya (VA ?_ (Xq _));show Xs ?_
 change wpAny 5e0 A _ P E {s with heap:=((s.heap.update a (XU λ_=>(#[]:Array Value))).push (seqObj "tuple" vs.toArray 0)).push (seqObj "list" #[] 0)};rw[hg];dsimp only;have n2:vs.toArray.size<2:=by rw[Yn];lia
 simp only[if_pos n2];apply Ya;apply Ye;simp only[StateT.run_pure];apply Ya;apply Ye;dsimp only;have ez:(arrOf (SortSt.mk' general' (vs.toArray.zip vs.toArray) #[] 7 none)).map (·.2)=vs.toArray:=by
  change(vs.toArray.zip vs.toArray).map (·.2)=vs.toArray;apply Array.toList_inj.mp;rw[Array.toList_map,Array.toList_zip,List.map_snd_zip 4e4]
 rw[ez];obtain⟨c2,yT⟩:∃c2,(g3.update a (XU λ_=>vs.toArray)).get? a=some (seqObj "list" vs.toArray c2):=⟨_,Vc MV λ_=>_⟩
 show Ya (Us MV rfl ?_);show Ya (Vz MV rfl ?_ (Xq _) (by rw[Yn,YV];lia));simp only[bne_self_eq_false,Xi,if_false];show Ye (h _ c2 (λb u nb e=>by rw[X5 _ _ _ _ nb];show kb b u nb e) yT)
theorem tu{v:Value}{Q:1e6}{OKv:List Value->Prop}
  (MO:∀(Q':List Value->Shared->Prop),(∀h1 d tk vs,(∀b u,s.heap.get? b=some u->h1.get? b=some u)->s.heap.objs.size<=h1.objs.size->OKv vs->Q' vs {s with heap:=h1,drawn:=d,toks:=tk})->wpAny (model prog w) A.in1 (collect v) Q' E s)
  (h:∀vs,OKv vs->vs.length<Ts.ua/\∃κ o,(2<=vs.length->Wk o/\∀h' d tk,(∀b u,s.heap.get? b=some u->h'.get? b=some u)->(∀Q:SortKind->Shared->Prop,Q κ {s with heap:=h',drawn:=d,toks:=tk}->wpAny (model prog w) A.in1.in1 (keyKind' vs.toArray) Q (λ_ _=>False) {s with heap:=h',drawn:=d,toks:=tk})/\
    ∀i j(C:Bool->Shared->Prop),i<vs.length->j<vs.length->C (o i j) {s with heap:=h',drawn:=d,toks:=tk}->kas_ask prog w A.in1.in1 κ vs i j C {s with heap:=h',drawn:=d,toks:=tk})/\
   ∀D h' d tk c(p:List Nat),s.heap.objs.size<=D->(∀b u,s.heap.get? b=some u->h'.get? b=some u)->p.Perm (Yk vs.length)->(2<=vs.length->p.Pairwise (Ts.le o))->h'.get? D=some (seqObj "list" (p.map λi=>vs.getD i Y8).toArray c)->Q (.ref D) {s with heap:=h',drawn:=d,toks:=tk}):
  wpAny 5e0 A (call (.builtin "sorted") [v]) Q E s:=by
 show Calls.call_function_entry kind_sorted plain_sorted entry_sorted (args_sorted1 _) ?_;unfold V0.«sorted»;show Ya (m:=checkCount "sorted" 1 1 _) (Ye ?_);show Ya (MO _ λh1 d tk vs kp hle ok=>?_)
 obtain⟨EV,κ,o,hw,h⟩:=h vs ok;have Va4:vs.length<64:=EV;show Ya (VA ?_ (by rw[YV];lia));have Rr:(h1.push (seqObj "list" vs.toArray 0)).get? h1.objs.size=some (seqObj "list" vs.toArray 0):=Yw _ rfl;have keep:∀b u,s.heap.get? b=some u->(h1.push (seqObj "list" vs.toArray 0)).get? b=some u:=λb u e=>Yb _ (kp b u e);have kb:∀h',gj h1.objs.size (h1.push (seqObj "list" vs.toArray 0)) h'->∀b u,s.heap.get? b=some u->h'.get? b=some u:=λh' k b u e=>
  k b u (Yp (Yu (Yq e) hle)) (keep b u e)
 change wpAny _ _ _ _ _ {s with heap:=h1.push (seqObj "list" vs.toArray 0),drawn:=d,toks:=tk};show Ya (Xs (Xw slot_list_sort ⟨_,Rr,rfl⟩ entry_list_sort ?body (args_list_sort _)))
 case body=>
  by_cases h2:vs.length<2
  ·show yA (s:={s with heap:=h1.push (seqObj "list" vs.toArray 0),drawn:=d,toks:=tk}) Rr h2 λh' c k e=>⟨_,rfl,Ye ⟨_,rfl,h _ h' d tk c (Yk vs.length) hle (kb h' k) (.refl _) (λz=>absurd z (by lia)) ?_⟩⟩
   rw[show((Yk vs.length).map λi=>vs.getD i Y8)=vs from ?_]
   ·show e
   ·apply Xk
    intro i;rw[YL];by_cases hi:i<vs.length
    ·rw[VG hi];simp[hi]
    ·rw[XB 14e9,XB 1e4];rfl
  ·obtain⟨W,hw⟩:=hw 1e4
   show Cm (s:={s with heap:=h1.push (seqObj "list" vs.toArray 0),drawn:=d,toks:=tk}) (κ:=κ) (o:=o) W Rr (by lia) EV (λh' k=>(hw h' d tk (kb h' k)).1) (λh' k=>(hw h' d tk (kb h' k)).2) λh' c p k p1 p2 e=>⟨_,rfl,Ye ⟨_,rfl,h _ h' d tk c p hle (kb h' k) p1 (λ_=>p2) e⟩⟩
end
end Pu
namespace Pu
open PySem PySem.Spec PySem.W PySem.Calls L2 PySem.SeqAt
open PyProof.Rows hiding St Fr
noncomputable def cg:PV->Nat
 |.int _=>1
 |.str _=>2
 |.tup (.int _::_)=>3
 |.tup (.str _::_)=>4
 |_=>0
def oP(ps:List PV)(i j:Nat):Bool:=(cS (ps.getD (min i (ps.length-1)) .aP) (ps.getD (min j (ps.length-1)) .aP)).getD false
def sortable(ps:List PV):Bool:=(ps.all λp=>cg p==1)||(ps.all λp=>cg p==2)||(ps.all λp=>cg p==3)||(ps.all λp=>cg p==4)
def cI(ps:List PV):Bool:=ps.all λp=>ps.all λq=>(cS p q).isSome
mutual
theorem af.keep{h h':Heap}(k:16e8):∀(p:PV){u:Value},af h p u->af h' p u
 |.aP,u,a=>by unfold af at a⊢;show a
 |.bl x,u,a=>by unfold af at a⊢;show a
 |.int x,u,a=>by unfold af at a⊢;show a
 |.str x,u,a=>by unfold af at a⊢;show a
 |.tup ps,u,a=>by
  unfold af at a⊢;obtain⟨l,us,rfl,⟨o,e,c⟩,r⟩:=a;show⟨l,us,rfl,⟨o,k _ _ e,c⟩,aA.keep k ps r⟩
 |.lst ps,u,a=>by
  unfold af at a⊢;obtain⟨l,us,rfl,⟨o,e,c⟩,r⟩:=a;show⟨l,us,rfl,⟨o,k _ _ e,c⟩,aA.keep k ps r⟩
 |.b5 _ _,u,a=>by ext af a;show a.elim
 |.bW _ _,u,a=>by ext af a;show a.elim
 |.fn _,u,a=>by ext af a;show a.elim
 |.ty _,u,a=>by ext af a;show a.elim
 |.dn _ _,u,a=>by ext af a;show a.elim
theorem aA.keep{h h':Heap}(k:16e8):∀(ps:List PV){us:4e1},aA h ps us->aA h' ps us
 |[],us,a=>by unfold aA at a⊢;show a
 |p::ps,us,a=>by
  unfold aA at a⊢;obtain⟨v,r,rfl,a1,a2⟩:=a;show⟨v,r,rfl,af.keep k p a1,aA.keep k ps a2⟩
end
theorem aA.get{h:Heap}:∀{ps:List PV}{us:4e1}{i:Nat},aA h ps us->i<us.length->af h (ps.getD i .aP) (us.getD i Y8)
 |[],us,i,a,hi=>by ext aA a;subst a;cases hi
 |p::ps,us,i,a,hi=>by
  sleep 19;cases i with
  |zero=>show a1
  |succ i=>simpa using aA.get a2 (by simpa using hi)
theorem Tf{ps:List PV}{i:Nat}(hi:i<ps.length):ps.getD i .aP∈ps:=by
 rw[YZ,Yc hi];show YO hi
section
variable{prog:Ys}{w:World}{A:Around}{s:Shared}
theorem yH{b fin:Bool}{Q:18e1}{c:Bool}:∀{ps qs:List PV}{us vs:4e1}(i:Nat),eE A s ps qs us vs->dG ps qs=some c->fin=decide (us.length<vs.length)->
  ((b&&i==0)=true->∀p ft q yd u Ot v zW,ps=p::ft->qs=q::yd->us=u::Ot->vs=v::zW->∀c,cS p q=some c->∀Q:Bool->Shared->Prop,Q c s->wpAny 5e0 A (oneLt' true u v) Q (λ_ _=>False) s)->
  Q c s->KatLex prog w A b fin Q (us.zip vs) i s
  :=by
 intro ps qs us vs i pk;induction pk generalizing i with
 |@Gr qs _ hh=>
  intro e hf hz q;rw[List.zip_nil_left];show kat_nil ?_;cases qs with
  |nil=>rw[Zbr]at e;cases e;rw[hf,←hh];show q
  |cons y ys=>rw[Zco]at e;cases e;rw[hf,←hh];simpa using q
 |@Gq ps _ hh=>
  intro e hf hz q;rw[List.zip_nil_right];show kat_nil ?_;cases ps with
  |nil=>rw[Zbr]at e;cases e;rw[hf,←hh];show q
  |cons y ys=>rw[Zcp]at e;cases e;rw[hf];simpa using q
 |@cons p q' u v ps qs us vs ee lt t ih=>
  intro e hf hz q;rw[Y6];show kat_cons (ee prog w _ _ ?_);rw[mP]at e;cases he:aI p q' with
  |true=>
   rw[he,if_pos rfl]at e;show kat_yes (ih (i+1) e (by rw[hf];simp) (λz=>by simp at z) q)
  |false=>
   rw[he,if_neg Yi]at e;show kat_no ?_;cases hb:(b&&i==0)with
   |true=>show hz hb _ _ _ _ _ _ _ _ rfl rfl rfl rfl c e _ q
   |false=>show kat_one _ _ (lt c e prog w _ _ q)
theorem vU{a c:Int}{t u:Tok}{E:1e6}{Q:18e1}(h:Q (decide (a<c)) s):wpAny 5e0 A (oneLt' true (.int a t) (.int c u)) Q E s:=by
 rw[←keyLt'_oneType];show kat_lt_int h
theorem vT{a c:Str}{t u:Tok}{E:1e6}{Q:18e1}(h:Q (decide (a.cps.toList<c.cps.toList)) s):wpAny 5e0 A (oneLt' true (.str a t) (.str c u)) Q E s:=by
 rw[←keyLt'_oneType];show kas_lt_str h
theorem xu{p q:PV}{u v:Value}{c:Bool}{Q:18e1}(a:af s.heap p u)(b:17e1)(hk:cg p=1/\cg q=1\/cg p=2/\cg q=2)(e:cS p q=some c)(h:Q c s):wpAny 5e0 A (keyLt' oneType' u v) Q (λ_ _=>False) s:=by
 rw[keyLt'_oneType];cases p with
 |int x=>
  cases q with
  |int y=>unfold af at a b;obtain⟨t,rfl⟩:=a;obtain⟨t',rfl⟩:=b;ext cS e;cases e;show vU h
  |_=>ext cS e;cases e
 |str x=>
  cases q with
  |str y=>unfold af at a b;obtain⟨t,rfl⟩:=a;obtain⟨t',rfl⟩:=b;ext cS e;cases e;show vT h
  |_=>ext cS e;cases e
 |tup xs=>
  exfalso;cases xs with
  |nil=>simp[cg]at hk
  |cons y ys=>cases y<;>simp[cg]at hk
 |_=>ext cS e;cases e
theorem xt{p q:PV}{u v:Value}{c:Bool}{Q:18e1}(a:af s.heap p u)(b:17e1)(hk:cg p=3/\cg q=3\/cg p=4/\cg q=4)(e:cS p q=some c)(hu:A.units+dep p<cLine)(h:Q c s):wpAny 5e0 A (keyLt' (tuples' true) u v) Q (λ_ _=>False) s:=by
 cases p with
 |tup xs=>
  cases q with
  |tup ys=>
   unfold af at a b;obtain⟨l,us,rfl,⟨ol,el,_,nl,dl⟩,r1⟩:=a;obtain⟨l',vs,rfl,⟨ol',el',_,nl',dl'⟩,r2⟩:=b;ext cS e;ext dep hu;show kat_lt el dl el' dl' ?_;show yH 0 (aA.pairs xs r1 r2 1e4) e 4e4 (λ_=>?_) h;intro p ft q yd u Ot v zW e1 e2 e3 e4 c' el Q' hq;subst e1 e2 e3 e4;unfold aA at r1 r2;obtain⟨_,_,z1,a1,_⟩:=r1;obtain⟨_,_,z2,b1,_⟩:=r2;cases z1;cases z2;cases p with
   |int x=>
    cases q with
    |int y=>unfold af at a1 b1;obtain⟨t,rfl⟩:=a1;obtain⟨t',rfl⟩:=b1;ext cS el;cases el;show vU hq
    |_=>ext cS el;cases el
   |str x=>
    cases q with
    |str y=>unfold af at a1 b1;obtain⟨t,rfl⟩:=a1;obtain⟨t',rfl⟩:=b1;ext cS el;cases el;show vT hq
    |_=>ext cS el;cases el
   |tup xs=>simp[cg]at hk
   |_=>ext cS el;cases el
  |_=>ext cS e;cases e
 |_=>simp[cg]at hk
end
theorem ma:∀{ys:List V}{us:4e1}{i:Nat},Vals ys us->i<us.length->RelV (ys.getD i .aP) (us.getD i Y8)
 |_,_,i,.nil,hi=>by cases hi
 |_,_,i,.cons r t,hi=>by
  cases i with
  |zero=>show r
  |succ i=>simpa using ma t (by simpa using hi)
theorem pT{ys:List V}{us:4e1}(r:Vals ys us):∀{is:12e9},(∀i∈is,i<us.length)->Vals (is.map λi=>ys.getD i .aP) (is.map λi=>us.getD i Y8)
 |[],_=>.nil
 |i::is,h=>.cons (ma r (h i (.head _))) (pT r λj hj=>h j (.tail _ hj))
theorem mr{K:W.Frag}{ι:3e8}{H:Hp}:∀{ps:List PV}{ys:List V}{i:Nat},ah K ι H ps ys->i<ps.length->Rep K ι H (ps.getD i .aP) (ys.getD i .aP)
 |[],ys,i,a,hi=>by cases hi
 |p::ps,ys,i,a,hi=>by
  ext ah a;obtain⟨v,r,rfl,a1,a2⟩:=a;cases i with
  |zero=>show a1
  |succ i=>simpa using mr a2 (by simpa using hi)
theorem qf{K:W.Frag}{ι:3e8}{H:Hp}{ps:List PV}{ys:List V}(r:ah K ι H ps ys):∀{is:12e9},(∀i∈is,i<ps.length)->ah K ι H (is.map λi=>ps.getD i .aP) (is.map λi=>ys.getD i .aP)
 |[],_=>by ext ah;rfl
 |i::is,h=>by
  ext ah;show⟨_,_,rfl,mr r (h i (.head _)),qf r λj hj=>h j (.tail _ hj)⟩
section
variable{prog:Ys}{w:World}{A:Around}{s:Shared}
theorem Zdi{h:Heap}:∀{ps:List PV}{us:4e1},aA h ps us->∀u∈us,∃p∈ps,af h p u
 |[],us,a,u,hu=>by ext aA a;subst a;cases hu
 |p::ps,us,a,u,hu=>by
  sleep 19;rcases Yd.mp hu with rfl|hu
  ·show⟨p,.head _,a1⟩
  ·obtain⟨q,hq,b⟩:=Zdi a2 u hu
   show⟨q,.tail _ hq,b⟩
def RI(h:Heap)(k:Nat)(f:Value):Prop:=(k=3/\∃i t,f=.int i t)\/(k=4/\∃x t,f=.str x t)
theorem nW{h:Heap}{k:Nat}(hk:k=3\/k=4):∀{ps:List PV}{us:4e1},aA h ps us->(ps.all λp=>cg p==k)=true->∃fs,KatTups h us fs/\fs.length=us.length/\∀f∈fs,RI h k f
 |[],us,a,_=>by ext aA a;subst a;show⟨[],.nil,rfl,λf hf=>by cases hf⟩
 |p::ps,us,a,e=>by
  sleep 19;rw[Xx,Yg]at e;obtain⟨fs,t,hl,hf⟩:=nW hk a2 e.2;have e1:cg p=k:=by simpa using e.1
  cases p with
  |tup xs=>
   ext af a1;obtain⟨l,Ot,rfl,⟨o,ho,hc,n,hd⟩,r1⟩:=a1;cases xs with
   |nil=>simp[cg]at e1;lia
   |cons y ys=>
    ext aA r1;obtain⟨f,r',rfl,b1,_⟩:=r1;show⟨f::fs,.cons ho hc hd 4e4 t,by simp[hl],λg hg=>?_⟩;rcases Yd.mp hg with rfl|hg
    ·cases y with
     |int i=>ext af b1;simp[cg]at e1;obtain⟨t,rfl⟩:=b1;show .inl ⟨e1.symm,_,_,rfl⟩
     |str x=>ext af b1;simp[cg]at e1;obtain⟨t,rfl⟩:=b1;show .inr ⟨e1.symm,_,_,rfl⟩
     |_=>simp[cg]at e1;lia
    ·show hf g hg
  |int i=>simp[cg]at e1;lia
  |str i=>simp[cg]at e1;lia
  |_=>simp[cg]at e1;lia
def qP(ps:List PV):SortKind:=if(ps.all λp=>cg p==1)||(ps.all λp=>cg p==2)then oneType' else tuples' true
theorem GI{ps:List PV}{us:4e1}{Q:SortKind->Shared->Prop}{E:1e6}(a:aA s.heap ps us)(h2:2<=us.length)(e:sortable ps=true)(h:Q (qP ps) s):wpAny 5e0 A (keyKind' us.toArray) Q E s:=by
 ext sortable e;ext qP h;by_cases h1:(ps.all λp=>cg p==1)=true
 ·rw[h1,Bool.true_or,if_pos rfl]at h
  show kas_kind (T:=.type "int") h2 (λv hv=>?_) 1e2 1e2 h;obtain⟨p,hp,b⟩:=Zdi a v hv;have:=YB.mp h1 p hp;cases p with
  |int i=>ext af b;obtain⟨t,rfl⟩:=b;show V3 rfl
  |tup xs=>cases xs with
   |nil=>simp[cg]at this
   |cons y ys=>cases y<;>simp[cg]at this
  |_=>simp[cg]at this
 ·by_cases h3:(ps.all λp=>cg p==2)=true
  ·rw[h3,Bool.or_true,if_pos rfl]at h
   show kas_kind (T:=.type "str") h2 (λv hv=>?_) 1e2 1e2 h;obtain⟨p,hp,b⟩:=Zdi a v hv;have:=YB.mp h3 p hp;cases p with
   |str i=>ext af b;obtain⟨t,rfl⟩:=b;show V3 rfl
   |tup xs=>cases xs with
    |nil=>simp[cg]at this
    |cons y ys=>cases y<;>simp[cg]at this
   |_=>simp[cg]at this
  ·rw[Bool.not_eq_true]at h1 h3
   rw[h1,h3]at h e;rw[if_neg 1e2]at h;simp only[VZ,Uj]at e;rcases e with e|e
   ·obtain⟨fs,t,hl,hf⟩:=nW 18e0 a e
    show kat_kind (T:=.type "int") t 1e4 (λv hv=>?_) 1e2 h;rcases hf v hv with⟨_,i,t,rfl⟩|⟨z,_⟩
    ·show V3 rfl
    ·cases z
   ·obtain⟨fs,t,hl,hf⟩:=nW (.inr rfl) a e
    show kat_kind (T:=.type "str") t 1e4 (λv hv=>?_) 1e2 h;rcases hf v hv with⟨z,_⟩|⟨_,i,t,rfl⟩
    ·cases z
    ·show V3 rfl
theorem rP:∀{ps:List PV}(i:Nat),dep (ps.getD i .aP)<=cq ps
 |[],i=>by simp[dep,cq]
 |p::ps,i=>by
  ext cq;cases i with
  |zero=>show Nat.le_max_left _ _
  |succ i=>show YI (by simpa using rP (ps:=ps) i) (Nat.le_max_right _ _)
theorem NV{ps:List PV}{us:4e1}{i j:Nat}{C:18e1}(a:aA s.heap ps us)(e:sortable ps=true)(ec:cI ps=true)(hu:A.units+cq ps<cLine)(hi:i<us.length)(hj:j<us.length)(h:C (oP ps i j) s):kas_ask prog w A (qP ps) us i j C s:=by
 have hl:=a.length;have mi:=Tf (ps:=ps) (i:=i) 1e4;have mj:=Tf (ps:=ps) (i:=j) 1e4;have hs:(cS (ps.getD i .aP) 19e0).isSome=true:=YB.mp (YB.mp ec _ mi) _ mj;obtain⟨c,hc⟩:=WX.mp hs;ext oP h;rw[WE 1e4,WE 1e4,hc]at h;have ai:=aA.get a hi;have aj:=aA.get a hj;have hd:=rP (ps:=ps) i;unfold kas_ask qP;have at':∀k,(ps.all λp=>cg p==k)=true->cg (ps.getD i .aP)=k/\cg 19e0=k:=λk z=>⟨by simpa using YB.mp z _ mi,by simpa using YB.mp z _ mj⟩
 by_cases h1:(ps.all λp=>cg p==1)=true
 ·rw[h1,Bool.true_or,if_pos rfl];show xu ai aj (.inl (at' 1 h1)) hc h
 ·by_cases h3:(ps.all λp=>cg p==2)=true
  ·rw[h3,Bool.or_true,if_pos rfl];show xu ai aj (.inr (at' 2 h3)) hc h
  ·ext sortable e
   rw[Bool.not_eq_true]at h1 h3;rw[h1,h3]at e⊢;rw[if_neg 1e2];simp only[VZ,Uj]at e;rcases e with e|e
   ·show xt ai aj (.inl (at' 3 e)) hc 1e4 h
   ·show xt ai aj (.inr (at' 4 e)) hc 1e4 h
end
end Pu
namespace Pu
open PySem PySem.Spec PySem.W
mutual
noncomputable def bM:PV->Bool
 |.int _=>true
 |.str _=>true
 |.tup ps=>bC ps
 |_=>false
noncomputable def bC:List PV->Bool
 |[]=>true
 |p::ps=>bM p&&bC ps
end
mutual
noncomputable def lT:PV->PV->Bool
 |.int a,.int b=>decide (a<b)
 |.int _,.str _=>true
 |.int _,.tup _=>true
 |.str a,.str b=>decide (a.cps.toList<b.cps.toList)
 |.str _,.tup _=>true
 |.tup xs,.tup ys=>lR xs ys
 |_,_=>false
noncomputable def lR:List PV->List PV->Bool
 |[],[]=>false
 |[],_::_=>true
 |_::_,[]=>false
 |x::xs,y::ys=>if aI x y then lR xs ys else lT x y
end
mutual
theorem sV:∀(p:PV){q:PV},bM p=true->bM q=true->(aI p q=true↔p=q)
 |.int a,q,_,hq=>by cases q<;>simp[aI]<;>simp[bM]at hq
 |.str a,q,_,_=>by cases q<;>simp[aI]
 |.tup ps,q,h,hq=>by
  ext bM h;cases q with
  |tup qs=>ext bM hq;ext aI;rw[rA ps h hq];simp
  |_=>simp[aI]
 |.aP,q,h,_=>by simp[bM]at h
 |.bl _,q,h,_=>by simp[bM]at h
 |.lst _,q,h,_=>by simp[bM]at h
 |.b5 _ _,q,h,_=>by simp[bM]at h
 |.bW _ _,q,h,_=>by simp[bM]at h
 |.fn _,q,h,_=>by simp[bM]at h
 |.ty _,q,h,_=>by simp[bM]at h
 |.dn _ _,q,h,_=>by simp[bM]at h
theorem rA:∀(ps:List PV){qs:List PV},bC ps=true->bC qs=true->(dW ps qs=true↔ps=qs)
 |[],qs,_,_=>by cases qs<;>simp[dW]
 |p::ps,qs,h,hq=>by
  ext bC h;rw[Yg]at h;cases qs with
  |nil=>simp[dW]
  |cons q qs=>
   ext bC hq;rw[Yg]at hq;ext dW;rw[Yg,sV p h.1 hq.1,rA ps h.2 hq.2,List.cons.injEq]
end
theorem Te{p:PV}(h:bM p=true):aI p p=true:=(sV p h h).mpr rfl
theorem Fz{a b:Str}(h1:¬a.cps.toList<b.cps.toList)(h2:¬b.cps.toList<a.cps.toList):a=b:=by
 obtain⟨⟨x⟩⟩:=a;obtain⟨⟨y⟩⟩:=b;have:x=y:=List.le_antisymm (List.not_lt.mp h2) (List.not_lt.mp h1);rw[this]
mutual
theorem O6:∀(p:PV),bM p=true->lT p p=false
 |.int a,_=>by simp[lT]
 |.str a,_=>by simp[lT,List.lt_irrefl]
 |.tup ps,h=>by ext bM h;ext lT;show wc ps h
 |.aP,_=>by simp[lT]
 |.bl _,_=>by simp[lT]
 |.lst _,_=>by simp[lT]
 |.b5 _ _,_=>by simp[lT]
 |.bW _ _,_=>by simp[lT]
 |.fn _,_=>by simp[lT]
 |.ty _,_=>by simp[lT]
 |.dn _ _,_=>by simp[lT]
theorem wc:∀(ps:List PV),bC ps=true->lR ps ps=false
 |[],_=>by simp[lR]
 |p::ps,h=>by
  ext bC h;rw[Yg]at h;ext lR;rw[Te h.1,if_pos rfl];show wc ps h.2
end
mutual
theorem kG:∀(p:PV){q:PV},bM p=true->bM q=true->lT p q=false->lT q p=false->p=q
 |.int a,q,_,hq,h1,h2=>by
  cases q<;>simp[lT,bM]at h1 h2 hq⊢;lia
 |.str a,q,_,hq,h1,h2=>by
  cases q with
  |str b=>
   unfold lT at h1 h2;have:a=b:=Fz (of_decide_eq_false h1) (of_decide_eq_false h2);rw[this]
  |int _=>simp[lT]at h2
  |tup _=>simp[lT]at h1
  |_=>simp[bM]at hq
 |.tup ps,q,h,hq,h1,h2=>by
  ext bM h;cases q with
  |tup qs=>ext bM hq;unfold lT at h1 h2;rw[wb ps h hq h1 h2]
  |int _=>simp[lT]at h2
  |str _=>simp[lT]at h2
  |_=>simp[bM]at hq
 |.aP,q,h,_,_,_=>by simp[bM]at h
 |.bl _,q,h,_,_,_=>by simp[bM]at h
 |.lst _,q,h,_,_,_=>by simp[bM]at h
 |.b5 _ _,q,h,_,_,_=>by simp[bM]at h
 |.bW _ _,q,h,_,_,_=>by simp[bM]at h
 |.fn _,q,h,_,_,_=>by simp[bM]at h
 |.ty _,q,h,_,_,_=>by simp[bM]at h
 |.dn _ _,q,h,_,_,_=>by simp[bM]at h
theorem wb:∀(ps:List PV){qs:List PV},bC ps=true->bC qs=true->lR ps qs=false->lR qs ps=false->ps=qs
 |[],qs,_,_,h1,h2=>by cases qs<;>simp[lR]at h1 h2⊢
 |p::ps,qs,h,hq,h1,h2=>by
  ext bC h;rw[Yg]at h;cases qs with
  |nil=>simp[lR]at h2
  |cons q qs=>
   ext bC hq;rw[Yg]at hq;unfold lR at h1 h2;by_cases e:p=q
   ·subst e
    rw[Te h.1,if_pos rfl]at h1 h2;rw[wb ps h.2 hq.2 h1 h2]
   ·rw[if_neg (λz=>e ((sV p h.1 hq.1).mp z))]at h1
    rw[if_neg (λz=>e ((sV q hq.1 h.1).mp z).symm)]at h2;show absurd (kG p h.1 hq.1 h1 h2) e
end
mutual
theorem mQ:∀(p:PV){q r:PV},bM p=true->bM q=true->bM r=true->lT p q=true->lT q r=true->lT p r=true
 |.int a,q,r,_,hq,hr,h1,h2=>by
  cases q<;>cases r<;>simp[lT,bM]at h1 h2 hq hr⊢;lia
 |.str a,q,r,_,hq,hr,h1,h2=>by
  cases q<;>cases r<;>simp[lT,bM]at h1 h2 hq hr⊢;show List.lt_trans h1 h2
 |.tup ps,q,r,h,hq,hr,h1,h2=>by
  ext bM h;cases q with
  |tup qs=>
   cases r with
   |tup rs=>unfold bM at hq hr;unfold lT at h1 h2⊢;show Cp ps h hq hr h1 h2
   |_=>simp[lT]at h2
  |_=>simp[lT]at h1
 |.aP,q,r,h,_,_,_,_=>by simp[bM]at h
 |.bl _,q,r,h,_,_,_,_=>by simp[bM]at h
 |.lst _,q,r,h,_,_,_,_=>by simp[bM]at h
 |.b5 _ _,q,r,h,_,_,_,_=>by simp[bM]at h
 |.bW _ _,q,r,h,_,_,_,_=>by simp[bM]at h
 |.fn _,q,r,h,_,_,_,_=>by simp[bM]at h
 |.ty _,q,r,h,_,_,_,_=>by simp[bM]at h
 |.dn _ _,q,r,h,_,_,_,_=>by simp[bM]at h
theorem Cp:∀(ps:List PV){qs rs:List PV},bC ps=true->bC qs=true->bC rs=true->lR ps qs=true->lR qs rs=true->lR ps rs=true
 |[],qs,rs,_,_,_,h1,h2=>by cases qs<;>cases rs<;>simp[lR]at h1 h2⊢
 |p::ps,qs,rs,h,hq,hr,h1,h2=>by
  ext bC h;rw[Yg]at h;cases qs with
  |nil=>simp[lR]at h1
  |cons q qs=>
   cases rs with
   |nil=>simp[lR]at h2
   |cons r rs=>
    unfold bC at hq hr;rw[Yg]at hq hr;unfold lR at h1 h2⊢;by_cases e:p=q
    ·subst e
     rw[Te h.1,if_pos rfl]at h1;by_cases e2:p=r
     ·subst e2
      rw[Te h.1,if_pos rfl]at h2⊢;show Cp ps h.2 hq.2 hr.2 h1 h2
     ·have ne:=λz=>e2 ((sV p h.1 hr.1).mp z)
      rw[if_neg ne]at h2⊢;show h2
    ·rw[if_neg (λz=>e ((sV p h.1 hq.1).mp z))]at h1
     by_cases e2:q=r
     ·subst e2
      rw[if_neg (λz=>e ((sV p h.1 hq.1).mp z))];show h1
     ·rw[if_neg (λz=>e2 ((sV q hq.1 hr.1).mp z))]at h2
      have t:=mQ p h.1 hq.1 hr.1 h1 h2;by_cases e3:p=r
      ·subst e3;rw[O6 p h.1]at t;cases t
      ·rw[if_neg (λz=>e3 ((sV p h.1 hr.1).mp z))];show t
end
mutual
theorem t9:∀(p:PV){q:PV}{c:Bool},cS p q=some c->c=lT p q
 |.int a,q,c,e=>by cases q<;>simp[cS,lT]at e⊢<;>show e.symm
 |.str a,q,c,e=>by cases q<;>simp[cS,lT]at e⊢<;>show e.symm
 |.tup ps,q,c,e=>by
  cases q with
  |tup qs=>ext cS e;ext lT;show v8 ps e
  |_=>simp[cS]at e
 |.aP,q,c,e=>by simp[cS]at e
 |.bl _,q,c,e=>by simp[cS]at e
 |.lst _,q,c,e=>by simp[cS]at e
 |.b5 _ _,q,c,e=>by simp[cS]at e
 |.bW _ _,q,c,e=>by simp[cS]at e
 |.fn _,q,c,e=>by simp[cS]at e
 |.ty _,q,c,e=>by simp[cS]at e
 |.dn _ _,q,c,e=>by simp[cS]at e
theorem v8:∀(ps:List PV){qs:List PV}{c:Bool},dG ps qs=some c->c=lR ps qs
 |[],qs,c,e=>by cases qs<;>simp[dG,lR]at e⊢<;>simp[e]
 |p::ps,qs,c,e=>by
  cases qs with
  |nil=>simp[dG,lR]at e⊢;simp[e]
  |cons q qs=>
   ext dG e;ext lR;split at e
   ·rename_i z;rw[if_pos z];show v8 ps e
   ·rename_i z;rw[if_neg z];show t9 p e
end
end Pu
namespace Pu
open PySem PySem.Spec PySem.W PySem.Calls L2 PySem.SeqAt
open PyProof.Rows hiding St Fr
theorem Tg:∀{ps:List PV},bC ps=true->∀p∈ps,bM p=true
 |[],_,p,hp=>by cases hp
 |q::ps,h,p,hp=>by
  ext bC h;rw[Yg]at h;rcases Yd.mp hp with rfl|hp
  ·show h.1
  ·show Tg h.2 p hp
theorem vV{ps:List PV}(h1:1<=ps.length)(hc:cI ps=true)(i j:Nat):oP ps i j=lT (ps.getD (min i (ps.length-1)) .aP) (ps.getD (min j (ps.length-1)) .aP):=by
 have mi:=Tf (ps:=ps) (i:=min i (ps.length-1)) 1e4;have mj:=Tf (ps:=ps) (i:=min j (ps.length-1)) 1e4;obtain⟨c,e⟩:=WX.mp (YB.mp (YB.mp hc _ mi) _ mj);ext oP;rw[e];show t9 _ e
theorem Pr{ps:List PV}(h1:1<=ps.length)(hc:cI ps=true)(hp:bC ps=true):Wk (oP ps):=by
 have P:∀i,bM (ps.getD (min i (ps.length-1)) .aP)=true:=λi=>Tg hp _ (Tf 1e4);have EJ:∀a,oP ps a a=false:=λa=>by rw[vV h1 hc];show O6 _ (P a)
 have O4:∀a b,oP ps a b=true->oP ps b a=false:=λa b h=>by
  rw[vV h1 hc]at h⊢;cases e:lT (ps.getD (min b (ps.length-1)) .aP) (ps.getD (min a (ps.length-1)) .aP)with
  |false=>rfl
  |true=>
   have t:=mQ _ (P a) (P b) (P a) h e;rw[O6 _ (P a)]at t;cases t
 show⟨EJ,O4,λa b c h2 h3=>?_⟩;rw[vV h1 hc]at h2 h3⊢;cases e:lT (ps.getD (min c (ps.length-1)) .aP) (ps.getD (min a (ps.length-1)) .aP)with
 |false=>rfl
 |true=>
  cases e2:lT (ps.getD (min a (ps.length-1)) .aP) (ps.getD (min b (ps.length-1)) .aP)with
  |true=>rw[mQ _ (P c) (P a) (P b) e e2]at h3;cases h3
  |false=>rw[kG _ (P a) (P b) e2 h2]at e;rw[e]at h3;cases h3
theorem ZdA(ps:List PV):(Yk ps.length).map (λi=>ps.getD i .aP)=ps:=by
 apply Xk;intro i;rw[YL];by_cases hi:i<ps.length
 ·rw[VG hi];simp[hi]
 ·rw[XB 14e9,XB 1e4];rfl
def dz(qs:List PV):Prop:=qs.Pairwise λa b=>lT b a=false
theorem Me{a b:PV}(ha:bM a=true)(hb:bM b=true)(h:lT a b=true):lT b a=false:=by
 cases e:lT b a with
 |false=>rfl
 |true=>have t:=mQ _ ha hb ha h e;rw[O6 _ ha]at t;cases t
theorem QF{a b c:PV}(ha:bM a=true)(hb:bM b=true)(hc:bM c=true)(h2:lT b a=false)(h3:lT c b=false):lT c a=false:=by
 cases e:lT c a with
 |false=>rfl
 |true=>
  cases e2:lT a b with
  |true=>rw[mQ _ hc ha hb e e2]at h3;cases h3
  |false=>rw[kG _ ha hb e2 h2]at e;rw[e]at h3;cases h3
def yO(p:PV):List PV->List PV
 |[]=>[p]
 |q::qs=>if lT q p then q::yO p qs else p::q::qs
def eF:List PV->List PV
 |[]=>[]
 |p::ps=>yO p (eF ps)
theorem Zdh(p:PV):∀qs:List PV,(yO p qs).Perm (p::qs)
 |[]=>.refl _
 |q::qs=>by
  ext yO;split
  ·show((Zdh p qs).cons q).trans (.swap p q qs)
  ·show .refl _
theorem ZcU:∀ps:List PV,(eF ps).Perm ps
 |[]=>.refl _
 |p::ps=>(Zdh p _).trans ((ZcU ps).cons p)
theorem ZbX{ps:List PV}(hc:cI ps=true)(hp:bC ps=true):(eF ps).Perm ps:=ZcU ps
theorem Zdg{p:PV}(hp:bM p=true):∀{qs:List PV},(∀q∈qs,bM q=true)->dz qs->dz (yO p qs)
 |[],_,_=>List.pairwise_singleton _ _
 |q::qs,h,r=>by
  unfold dz at r⊢;rw[XV]at r;have hq:=h q (.head _);ext yO;by_cases c:lT q p=true
  ·rw[if_pos c,XV]
   show⟨λx hx=>?_,Zdg hp (λy hy=>h y (.tail _ hy)) r.2⟩;rcases Yd.mp ((Zdh p qs).mem_iff.mp hx)with rfl|hx
   ·show Me hq hp c
   ·show r.1 x hx
  ·rw[if_neg c,XV,XV]
   have c:lT q p=false:=by simpa using c
   show⟨λx hx=>?_,r⟩;rcases Yd.mp hx with rfl|hx
   ·show c
   ·show QF hp hq (h x (.tail _ hx)) c (r.1 x hx)
theorem mn:∀{ps:List PV},(∀p∈ps,bM p=true)->dz (eF ps)
 |[],_=>.nil
 |p::ps,h=>Zdg (h p (.head _)) (λq hq=>h q (.tail _ ((ZcU ps).mem_iff.mp hq))) (mn λq hq=>h q (.tail _ hq))
theorem ZbM{ps:List PV}(hc:cI ps=true)(hp:bC ps=true):dz (eF ps):=mn (Tg hp)
theorem Zcf:∀{xs ys:List PV},bC xs=true->xs.Perm ys->dz xs->dz ys->xs=ys
 |[],ys,_,hp,_,_=>by rw[hp.symm.eq_nil]
 |x::xs,ys,h,hp,h1,h2=>by
  cases ys with
  |nil=>show absurd hp.length_eq 4e4
  |cons y ys=>
   have hm:∀z∈x::xs,bM z=true:=Tg h;have my:bM y=true:=hm y (hp.mem_iff.mpr (.head _));have mx:bM x=true:=hm x (.head _);unfold dz at h1 h2;rw[XV]at h1 h2;have e:x=y:=by
    have a:lT y x=false:=by
     rcases Yd.mp (hp.mem_iff.mpr (YR (a:=y) (l:=ys)))with e|e
     ·rw[e];show O6 _ mx
     ·show h1.1 y e
    have b:lT x y=false:=by
     rcases Yd.mp (hp.mem_iff.mp (YR (a:=x) (l:=xs)))with e|e
     ·rw[e];show O6 _ my
     ·show h2.1 x e
    show kG x mx my b a
   subst e;ext bC h;rw[Yg]at h;rw[Zcf h.2 (List.perm_cons _ |>.mp hp) h1.2 h2.2]
theorem qb{ps ys:List PV}(hc:cI ps=true)(hp:bC ps=true)(e:ps.Perm ys)(r:dz ys):eF ps=ys:=by
 have pl:=ZbX hc hp;show Zcf ?_ (pl.trans e) (ZbM hc hp) r;have m:=Tg hp;have:∀{l:List PV},(∀p∈l,bM p=true)->bC l=true:=λ{l}=>by
  intro h;induction l with
  |nil=>rfl
  |cons q l ih=>ext bC;rw[h q (.head _),ih λp hp=>h p (.tail _ hp)];rfl
 show this λp h=>m p (pl.mem_iff.mp h)
def cO(ps:List PV):Option 7e7:=if df ps&&decide (cq ps<=40)&&decide (ps.length<Ts.ua)&&sortable ps&&cI ps&&bC ps then some (eF ps)else none
theorem qa{ps qs:List PV}(e:cO ps=some qs):qs=eF ps:=by
 ext cO e;split at e
 ·cases e;rfl
 ·cases e
theorem Pa{ps qs:List PV}(e:cO ps=some qs):df ps=true/\cq ps<=40/\ps.length<Ts.ua/\sortable ps=true/\cI ps=true/\bC ps=true:=by
 ext cO e;split at e
 ·rename_i hh
  simp only[Yg,decide_eq_true_eq]at hh;obtain⟨⟨⟨⟨⟨a,b⟩,c⟩,d⟩,f⟩,g⟩:=hh;show⟨a,b,c,d,f,g⟩
 ·cases e
theorem An{ps:List PV}(a:df ps=true)(b:cq ps<=40)(c:ps.length<Ts.ua)(d:sortable ps=true)(e:cI ps=true)(f:bC ps=true):cO ps=some (eF ps):=by
 ext cO;rw[if_pos];simp only[Yg,decide_eq_true_eq];show⟨⟨⟨⟨⟨a,b⟩,c⟩,d⟩,e⟩,f⟩
theorem Tc:∀(ps:List PV),df ps=ps.all dat
 |[]=>rfl
 |p::ps=>by rw[df,Xx,Tc ps]
theorem xg{n:Nat}:∀(ps:List PV),cq ps<=n↔∀p∈ps,dep p<=n
 |[]=>by simp[cq]
 |p::ps=>by rw[cq,Nat.max_le,xg ps];simp
theorem IT{α:Type}{f:α->Bool}{l l':List α}(h:l.Perm l'):l.all f=l'.all f:=by
 rw[Wz,YB,YB];show⟨λq x hx=>q x (h.mem_iff.mpr hx),λq x hx=>q x (h.mem_iff.mp hx)⟩
theorem rX{ps ft:List PV}(h:ps.Perm ft):cI ps=cI ft:=by
 ext cI;rw[IT h]
 congr 1
 funext p
 show IT h
theorem lN{ps ft:List PV}(h:ps.Perm ft):sortable ps=sortable ft:=by
 ext sortable;rw[IT h,IT h,IT h,IT h]
theorem yl{ps ft:List PV}(h:ft.Perm ps)(e:bC ps=true):bC ft=true:=by
 have all:∀l:List PV,bC l=l.all bM:=by
  intro l;induction l with
  |nil=>rfl
  |cons p l ih=>rw[bC,Xx,ih]
 rw[all]at e⊢;rw[IT h];show e
theorem p9{ps ft:List PV}(hp:ft.Perm ps){qs:List PV}(e:cO ps=some qs):cO ft=some qs:=by
 obtain⟨hd,hde,EV,EL,kM,Iq⟩:=Pa e;have Rp:=yl hp Iq;have RM:cI ft=true:=by rw[rX hp];show kM
 rw[qa e,An (by rw[Tc]at hd⊢;rw[IT hp];show hd) (by rw[xg]at hde⊢;show λp hq=>hde p (hp.mem_iff.mp hq)) (by rw[hp.length_eq];show EV) (by rw[lN hp];show EL) RM Rp]
 congr 1
 show qb RM Rp (hp.trans (ZbX kM Iq).symm) (ZbM kM Iq)
theorem VaF{ps:List PV}(h1:1<=ps.length)(hc:cI ps=true){p:12e9}(hp:p.Perm (Yk ps.length))(h:p.Pairwise (Ts.le (oP ps))):dz (p.map λi=>ps.getD i .aP):=by
 ext dz;rw[XC];show h.imp_of_mem λ{i j} hi hj e=>?_;have li:=Xh.mp (hp.mem_iff.mp hi);have lj:=Xh.mp (hp.mem_iff.mp hj);ext Ts.le e;rw[vV h1 hc,WE 1e4,WE 1e4]at e;show e
theorem Zcn{ps:List PV}{p:12e9}(hp:p.Perm (Yk ps.length)):(p.map λi=>ps.getD i .aP).Perm ps:=by
 have:=hp.map λi=>ps.getD i .aP;rw[ZdA]at this;show this
section
variable{X:Cx}
theorem ZbH{ι:3e8}{pins:2e2}{s:Shared}{σ:St}{H:Hp}{v:Value}{ZE qs:List PV}{Q:VK}(hu:8e3)(I:2e4)(hs:cO ZE=some qs)
  (MO:∀Q':List Value->Shared->Prop,(∀h1 d tk vs ps ys,(∀b u,s.heap.get? b=some u->h1.get? b=some u)->s.heap.objs.size<=h1.objs.size->ps.Perm ZE->Vals ys vs->ah X.K ι H ps ys->Q' vs {s with heap:=h1,drawn:=d,toks:=tk})->wpAny (model X.prog X.w) X.A.in1 (collect v) Q' X.xe s)
  (q:∀zs l,ah X.K ι H qs zs->H l=none->Q (.ref l) (upd H l (.lst zs))):wpAny 3e6 X.A (call (.builtin "sorted") [v]) 15e2 X.xe s:=by
 show tu (OKv:=λvs=>∃ps ys,ps.Perm ZE/\Vals ys vs/\ah X.K ι H ps ys) (λQ' q'=>MO Q' λh1 d tk vs ps ys k hle hp hv hr=>q' h1 d tk vs k hle ⟨ps,ys,hp,hv,hr⟩) ?_;rintro vs ⟨ps,ys,hp,hv,hr⟩;have e:=p9 hp hs;obtain⟨hd,hde,EV,EL,kM,Iq⟩:=Pa e;have hh:=ah.heap I ps hr hv hd;have hl:=hh.length;show⟨by lia,qP ps,oP ps,λh2=>⟨Pr 1e4 kM Iq,λh' d tk k=>⟨λQ' q'=>GI (s:={s with heap:=h',drawn:=d,toks:=tk}) (hh.keep k) h2 EL q',λi j C hi hj hC=>NV (s:={s with heap:=h',drawn:=d,toks:=tk}) (hh.keep k) EL kM (by rw[Y2,Y2];lia) hi hj hC⟩⟩,λD h' d tk c p hD k p1 p2 e2=>?_⟩;have I':Inv X pins σ H {s with drawn:=d}:=⟨I.ok,I.os,I.bare,I.base,I.loc,I.cell,I.free,I.gm,I.pin,I.bV,I.len⟩
 have pl:∀i∈p,i<vs.length:=λi hi=>Xh.mp (p1.mem_iff.mp hi);rw[←hl]at p1;have hyl:=hv.length;show⟨.ref D,_,I'.laid (t':=tk) k hD (show bS X.prog X.w _ h' _ (.lst (p.map λi=>ys.getD i .aP))from⟨?_,p.map (λi=>vs.getD i Y8),c,pT hv pl,e2⟩),rfl,q _ _ ?_ (I.bV.fresh hD)⟩
 ·have Va4:ps.length<64:=EV
  rw[Yv,p1.length_eq,List.length_range,YV];lia
 ·have r:=qf hr (is:=p) λi hi=>by have:=pl i hi;lia
  rw[show qs=p.map λi=>ps.getD i .aP from ?_]
  ·show r
  ·rw[qa e]
   by_cases h2:2<=vs.length
   ·show qb kM Iq (Zcn p1).symm (VaF 1e4 kM p1 (p2 h2))
   ·have pm:=Zcn p1
    have sl:=ZcU ps
    match ps,hl with
    |[],_=>rw[pm.eq_nil];rfl
    |[x],_=>rw[List.perm_singleton.mp pm];rfl
    |_::_::_,hl=>simp only[YD]at hl;lia
def FP(K:W.Frag):List V->Hp->VK->Prop:=λxs H Q=>∃p ys ι ps qs,xs=[.ref p]/\fB K H p ys/\ah K ι H ps ys/\cO ps=some qs/\∀zs l,ah K ι H qs zs->H l=none->Q (.ref l) (upd H l (.lst zs))
theorem se(hu:8e3):cR X (.builtin "sorted") (FP X.K):=by
 sleep 15;obtain⟨p,ys,ι,ps,qs,rfl,hq,rs,hs,q⟩:=h;obtain⟨u,rfl,rx⟩:=vals1 r;cases rx;obtain⟨aM,r',pl,hz⟩:=I.list hq;show ZbH hu I hs (λQ' q'=>collect_list pl.isList (q' ((s.heap.push (seqObj "list" #[] 0)).update s.heap.objs.size (XU (·++aM.toArray))) s.drawn s.toks aM ps ys (λb u e=>?_) ?_ (.refl _) r' rs) ?_) q
 ·rw[X5 _ _ _ _ (Yp (Yq e))];show Yb _ e
 ·rw[Heap.size_update,size_push'];lia
 ·have h1:=(Pa hs).2.2.1
  have h1:ps.length<64:=h1;have:=rs.length;have:=r'.length;rw[YV]at *;lia
end
end Pu
namespace Pu
open PySem PySem.W PySem.Calls
open PyProof.Rows hiding St Fr
theorem Za3:entryFor table "dict.update.loop"=some V0.«dict.update.loop»:=entryFor_of_tree (by kernel_rfl)
theorem ZaO:plainId "dict.update.loop"=true:=by decide +kernel
section
variable{prog:Ys}{w:World}{K:Type} [DecidableEq K]{knd:HeapKind prog w K}
noncomputable def putAll (key:Nat->K×Addr×Value)(i:Nat):List (K×Addr×Value):=((Yk i).map key).foldl (λxs x=>Ue xs x.1 x.2.1 x.2.2) []
theorem Tt(key:Nat->K×Addr×Value)(i:Nat):putAll key (i+1)=Ue (putAll key i) (key i).1 (key i).2.1 (key i).2.2:=by
 ext putAll;rw[List.range_succ,Y7,List.foldl_append];rfl
theorem Zcz(key:Nat->K×Addr×Value):∀i,(putAll key i).length<=i
 |0=>Yl _
 |i+1=>by
  rw[Tt];ext Ue;have:=Zcz key i;split
  ·rw[Yv];lia
  ·rw[YN];simp;lia
theorem Tz(key:Nat->K×Addr×Value):∀i,∀x∈putAll key i,∃j,j<i/\x.1=(key j).1/\x.2.1=(key j).2.1
 |0,x,hx=>by cases hx
 |i+1,x,hx=>by
  rw[Tt]at hx;ext Ue hx;split at hx
  ·obtain⟨y,hy,rfl⟩:=Yr.mp hx
   obtain⟨j,hj,e1,e2⟩:=Tz key i y hy;show⟨j,by lia,?_,?_⟩
   ·rw[←e1];ext putAt;split<;>first|rfl|(rename_i h;show h.symm)
   ·rw[←e2];ext putAt;split<;>rfl
  ·rcases Yy.mp hx with hx|hx
   ·obtain⟨j,hj,e⟩:=Tz key i x hx
    show⟨j,by lia,e⟩
   ·rw[Yj]at hx;subst hx
    show⟨i,by lia,rfl,rfl⟩
variable{A:Around}{R:18e9}{I:Addr}{fp wr:3e8}{G:Array GenState->Array GenState->Prop}{n:Nat}{P:Nat->Value->Prop}{St:Nat->Shared->Prop}
def xE(d:Addr)(wr:3e8)(h h':Heap):Prop:=∀b u,b≠d->b∉wr->h.get? b=some u->h'.get? b=some u
theorem ze(W:WalksS prog w A.in1 I fp wr G n P St)(d:Addr)(OX:d∉fp)(h0:Heap)(key:Nat->K×Addr×Value)
  (hP:∀i v,P i v->∃t o m,v=.ref t/\h0.get? t=some o/\o.cls=.type "tuple"/\o.data=.seq #[.ref (key i).2.1,(key i).2.2] m/\t≠d/\t∉wr)
  (hK:∀i h',i<n->xE d wr h0 h'->knd.is h' (key i).1 (key i).2.1) (hu:knd.room A.in1) (hn:n<=Yt):
  ∀(k i:Nat)(s:Shared),n-i=k->i<=n->St i s->xE d wr h0 s.heap->s.heap.DictOfH knd d (putAll key i)->
   (∀s',Moved (d::wr) G s s'->s'.heap.DictOfH knd d (putAll key n)->R (.ok (.ret .none)) s')->
   Wo 5e0 A (.builtin "dict.update.loop" ⟨[.ref d,.ref I,rawInt i,.none],[]⟩) R s:=by
 have hdw:d∉wr:=λh=>OX (W.sub _ h);have oO:∀b∈wr,b∈d::wr:=λb hb=>YG _ hb;have qQ:∀{s s':Shared}{xs:List (K×Addr×Value)},Moved wr G s s'->xE d wr h0 s'.heap->(∀x∈xs,∃i,i<n/\x.1=(key i).1/\x.2.1=(key i).2.1)->s.heap.DictOfH knd d xs->s'.heap.DictOfH knd d xs:=λhm hk hx hd=>by
  obtain⟨o,es,ep,ho,hc,G4,he,his,oR⟩:=hd;show⟨o,es,ep,hm.heap d _ hdw ho,hc,G4,he,λx Mx=>?_,oR⟩;obtain⟨i,hi,e1,e2⟩:=hx x Mx;rw[e1,e2];show hK i _ hi hk
 intro k;induction k with
 |zero=>
  intro i s hk hi yQ MJ hd hR;have Z8:i=n:=by lia
  subst Z8;show WF Za3 ?_;rw[Vx ZaO _];change wpAny _ A.in1 (pyNext (.ref I)>>=_) _ _ s;show Ya (W.done s _ _ yQ λs' hm=>?_);change wpAny _ A.in1 (Builtin.Dict.addKeywords d []>>=λ_=>PySem.ret Y8) _ _ s';show Ya (Ye ?_);show Ye (hR s' (hm.mono oO) (qQ hm (λb u n1 n2 e=>hm.heap b u n2 (MJ b u n1 n2 e)) (λx hx=>Tz key _ x hx) hd))
 |succ k ih=>
  intro i s hk hi yQ MJ hd hR;have dQ:i<n:=by lia
  show WF Za3 ?_;rw[Vx ZaO _];change wpAny _ A.in1 (pyNext (.ref I)>>=_) _ _ s;show Ya (W.item i s _ _ dQ yQ λv s' hPv VaJ hm=>?_);obtain⟨t,o,m,rfl,hto,CK,G4,htd,htw⟩:=hP i v hPv;have G1:xE d wr h0 s'.heap:=λb u n1 n2 e=>hm.heap b u n2 (MJ b u n1 n2 e);have RL:=qQ hm G1 (λx hx=>by obtain⟨j,hj,e⟩:=Tz key i x hx;show⟨j,by lia,e⟩) hd;have Rj:=G1 t o htd htw hto;dsimp only;show Ya (Xs ?_);show Ya (wpAny_tryCatch ?_);ext Builtin.Dict.pairItems;show Ya (Vq ⟨o,Rj,CK⟩ ?_);rw[if_pos 1e2];show Ya (XR Rj G4 ?_);show Ye ?_;change wpAny _ A.in1 (Ua [.ref (key i).2.1,(key i).2.2] (dictSet d (.ref (key i).2.1) (key i).2.2)) _ _ s';show Xs ?_;show wpAny_dictSet_heap hu (hK i _ dQ G1) RL (λh' hd2 hsb=>?_) (YI (Zcz key i) 1e4);rw[←Tt]at hd2;show Ye ⟨plainId_quiet ZaO _,?_⟩;show ih (i+1) _ 1e4 dQ (W.frame _ s' _ _ VaJ (V5 _ _) λb hb o e=>?_) (λb u n1 n2 e=>?_) hd2 λKv VaR Va3=>?_
  ·rw[hsb.2 b (λh:b=d=>OX (by rw[←h];show hb))];show e
  ·rw[hsb.2 b n1];show G1 b u n1 n2 e
  ·show hR Kv (Moved.trans W.gtrans ((hm.mono oO).then_heap (V5 _ _) λb o hb e=>?_) VaR) Va3
   rw[hsb.2 b (λh:b=d=>hb (by rw[h];show YR))];show e
end
end Pu
namespace Pu
open PySem
theorem oB:typeLookup (.type "list") "keys"=pure none:=by rw[typeLookup_type,builtinLookup_eq_fast];kernel_rfl
theorem oC{prog:Ys}{w:World}{A:Around}{E:1e6}{hp:Heap}{g:Array GenState}{d:Drawn}{t:Nat}{os:OsState}{a:Addr}{xs:Array Value}{n:Nat}{sl:Array (Option Value)}{Q:Option Value->Shared->Prop}
  (hx:hp.get? a=some {cls:=.type "list",dict:=none,data:=.seq xs n,slots:=sl}) (hA:A.handled=none)
  (h:∀h' tk,(∀b u,hp.get? b=some u->h'.get? b=some u)->Q none ⟨h',g,d,tk,os⟩):wpAny 5e0 A (getAttr? (.ref a) "keys") Q E ⟨hp,g,d,t,os⟩:=by
 have ty:∀t',Shared.TypeIs ⟨hp,g,d,t',os⟩ (.ref a) "list":=λ_=>⟨_,hx,rfl⟩
 have hook:=am_list_getattr_none;have seen:=W1.lookup;have bound:=W1.bind (.ref a);have sub:=sub_AttributeError;have tV:=λu=>meets_getattribute_miss_list a xs n sl "keys" u oB 1e2 (by rw[YV];decide)
 delta getAttr? getAttrBy? getAttrBy
 repeat first
  |show ty _
  |((with_reducible change wpAny _ _ (call (Value.builtin "list.__getattribute__") _ _) _ _ _);show call_meets (id:="list.__getattribute__") W1 (ty _) am_entry_list_getattribute (F.args_list_getattribute_2 _ _) (tV _) ?_)
  |assumption
  |wp_step
 show⟨hx,hA,λh1 t1 e new=>?_⟩;obtain⟨t2,u2,VbA⟩:=new.there;change wpAny _ _ (getattributeRaised _ _ _ _ _ _ _) _ _ _
 delta getattributeRaised
 repeat first|assumption|wp_step
 all_goals show h _ _ new.keeps
end Pu
namespace Pu
open PySem PySem.W PySem.Calls
open PyProof.Rows hiding St Fr
section
variable{prog:Ys}{w:World}{K:Type} [DecidableEq K]{knd:HeapKind prog w K}{A:Around}{E:1e6}{s:Shared}
theorem Zdw{l:Addr}{us:4e1}{m:Nat}{sl:Array (Option Value)}{Q:1e6}(hh:A.handled=none)(hl:s.heap.get? l=some {cls:=.type "list",dict:=none,data:=.seq us.toArray m,slots:=sl})(key:Nat->K×Addr×Value)
  (hP:∀i v,us[i]? = some v->∃t o k,v=.ref t/\s.heap.get? t=some o/\o.cls=.type "tuple"/\o.data=.seq #[.ref (key i).2.1,(key i).2.2] k)
  (hK:∀i h',i<us.length->(∀b u,s.heap.get? b=some u->h'.get? b=some u)->knd.is h' (key i).1 (key i).2.1) (hu:∀A':Around,A'.units<=A.units+8->knd.room A') (hn:us.length<=Yt)
  (h:∀h' tk,(∀b u,s.heap.get? b=some u->h'.get? b=some u)->h'.DictOfH knd s.heap.objs.size (putAll key us.length)->Q 11e4 {s with heap:=h',toks:=tk}):
  wpAny 5e0 A (call (.type "dict") [.ref l]) Q E s:=by
 show callType_codes (Q₁:=λobj s₁=>obj=.ref s.heap.objs.size/\s₁={s with heap:=s.heap.push {cls:=.type "dict",data:=.dict #[]}}) F.kt_called_dict (F.kt_typeCall_dict_1 _) F.entry_dict_init (kt_code_dict_new _ ⟨rfl,rfl⟩) ?_;rintro obj s₁ ⟨rfl,rfl⟩;have kL:(s.heap.push {cls:=.type "dict",data:=.dict #[]}).DictOfH knd s.heap.objs.size []:=Heap.DictOfH.new s.heap;have hl':(s.heap.push {cls:=.type "dict",data:=.dict #[]}).get? l=some {cls:=.type "list",dict:=none,data:=.seq us.toArray m,slots:=sl}:=Yb _ hl;have hT:({s with heap:=s.heap.push {cls:=.type "dict",data:=.dict #[]}}:Shared).TypeIs (.ref l) "list":=⟨_,hl',rfl⟩
 have own:∀{A':Around}{P:Addr×List Value->Shared->Prop}{B:1e6},P (s.heap.objs.size,[.ref l]) {s with heap:=s.heap.push {cls:=.type "dict",data:=.dict #[]}}->wpAny (model prog w) A' (Builtin.Dict.selfAndRest "__init__" ⟨[.ref s.heap.objs.size,.ref l],[]⟩) P B {s with heap:=s.heap.push {cls:=.type "dict",data:=.dict #[]}}:=λz=>by
  delta Builtin.Dict.selfAndRest
  show Ya (wpAny_notOrdered_dict kL.typeIs (Ye z))
 show⟨kL.typeIs,F.args_dict_init_2 _ _,?_⟩
 delta V0.«dict.__init__»
 apply Ya;apply own;change wpAny _ _ (Builtin.Dict.updateFrom "dict.__init__" s.heap.objs.size (.ref l) [] .none) _ _ _
 delta Builtin.Dict.updateFrom
 apply Ya;show Vq hT ?_;rw[if_pos 1e2];show Ya (oC hl' (by simp[hh]) λh1 tk1 k1=>?_);have OT:=k1 l _ hl';have hL1:h1.IsList l us.toArray:=⟨_,OT,rfl,m,rfl⟩
 have hd1:h1.DictOfH knd s.heap.objs.size []:=by
  obtain⟨o,es,ep,ho,hc,G4,he,his,oR⟩:=kL;show⟨o,es,ep,k1 _ _ ho,hc,G4,he,λx hx=>(by cases hx),oR⟩
 show wpAny_ite_split (λ_=>?_) (λhno=>absurd rfl hno);show Ya (VC ?_);show Ya (Vm hL1 ?_);have wy:s.heap.objs.size<h1.objs.size:=by obtain⟨o,es,ep,ho,_⟩:=hd1;show Yq ho
 have zF:l<h1.objs.size:=Yq OT;have GZ:l<s.heap.objs.size:=Yq hl;show Ye ⟨plainId_quiet ZaO _,?_⟩;show ze ((Walks.list (by simp[hh]) _ l (Yp zF) us.toArray).toS) s.heap.objs.size ?_ s.heap key (λi v hv=>?_) (λi h' hi k=>?_) (hu _ (by simp[Y2])) (by simpa using hn) (us.toArray.size-0) 0 _ 1e4 (Xq _)
  ⟨⟨_,Yw _ rfl,rfl,rfl⟩,hL1.push _⟩ (λb u n1 n2 e=>Yb _ (k1 b u (Yb _ e))) ?_ λs' hm hd=>?_
 ·simp only[Yd,YQ,or_false,not_or]
  show⟨Yp wy,XI GZ⟩
 ·obtain⟨t,o,k,e,ho,hc,G4⟩:=hP i v (by simpa using hv)
  have ht:t<s.heap.objs.size:=Yq ho;show⟨t,o,k,e,ho,hc,G4,Yp ht,by simp only[Yd,YQ,or_false];show Yp (Uf ht wy)⟩
 ·show hK i h' (by simpa using hi) λb u e=>k b u (Yp (Yq e)) ?_ e
  simp only[Yd,YQ,or_false];show Yp (Uf (Yq e) wy)
 ·obtain⟨o,es,ep,ho,hc,G4,he,his,oR⟩:=hd1
  show⟨o,es,ep,Yb _ ho,hc,G4,he,λx hx=>(by cases hx),oR⟩
 ·rw[Moved.eq_with hm]
  rw[Yn]at hd;show⟨rfl,h s'.heap s'.toks (λb u e=>?_) hd⟩;have hb:=Yq e;show hm.heap b u (by simp only[Yd,YQ,or_false,not_or];show⟨Yp hb,Yp (Uf hb wy)⟩) ?_;show Yb _ (k1 b u (Yb _ e))
end
def jw(h:Heap)(d:Addr)(es:Array Wa)(ep:Nat):Prop:=∃o,h.get? d=some o/\o.ExactDict/\o.data=.dict es ep
section
variable{prog:Ys}{w:World}{A:Around}{E:1e6}{s:Shared}{d it:Addr}{es:Array Wa}{ep i:Nat}
theorem jw.at{h h':Heap}(x:jw h d es ep)(e:∀o,h.get? d=some o->h'.get? d=some o):jw h' d es ep:=let⟨o,ho,r⟩:=x;⟨o,e _ ho,r⟩
theorem jw.ty(x:jw s.heap d es ep):s.TypeIs (.ref d) "dict":=let⟨o,ho,hc,_⟩:=x;⟨o,ho,hc.1⟩
theorem jw.lt{h:Heap}(x:jw h d es ep):d<h.objs.size:=let⟨_,ho,_⟩:=x;Yq ho
theorem Bb{Q:1e6}(lo:(d==XN)=false)(hm:jw s.heap d es ep)
  (q:Q 11e4 {s with heap:=s.heap.push {cls:=.type "dict_keyiterator",data:=.fields #[.ref d,.int 0 0,.int es.size 0,.int ep 0]}}):wpAny (model prog w) A (pyIter (.ref d)) Q E s:=by
 obtain⟨o1,b1,b2,b3⟩:=id hm;have PY:Builtin.Dict.showsAll d=pure ():=by delta Builtin.Dict.showsAll;simp only[lo];rfl
 have own:∀{P:1e6}{B:1e6}{A':Around},P (.ref d) s->wpAny 5e0 A' (Builtin.Dict.dictSlotNone "__iter__" ⟨[.ref d],[]⟩) P B s:=λz=>by
  delta Builtin.Dict.dictSlotNone
  show Ya (wpAny_notOrdered_dict hm.ty (Ye z))
 apply wpAny_pyIter_slot hm.ty F.slot_dict_iter;apply Xw F.slot_dict_iter hm.ty F.entry_dict_iter _ (F.args_dict_iter_1 _)
 delta V0.«dict.__iter__»
 apply Ya;apply own;repeat first
  |show wpAny_of_eq PY ?_
  |show wpAny_dictEntries b1 b3 ?_
  |show wpAny_dictEpoch b1 b3 ?_
  |show Xz ?_
  |apply Ya
  |apply Ye
 show⟨_,rfl,"dict_keyiterator",_,⟨_,Yw _ rfl,rfl⟩,Wx.lookup,by simpa[rawInt]using q⟩
theorem qh{Q:Option Value->Shared->Prop}(hh:es[i]? = none->A.handled=none)(hit:s.heap.IsKeyIter it d i es.size ep)(hm:jw s.heap d es ep)
  (q1:∀e,es[i]? = some e->∀h',h'.IsKeyIter it d (i+1) es.size ep->Wj it s.heap h'->Q (some e.key) {s with heap:=h'})
  (q2:es[i]? = none->∀h',Up it s.heap h'->Q none {s with heap:=h'}):wpAny (model prog w) A (pyNext (.ref it)) Q E s:=by
 obtain⟨o1,a1,a2,a3⟩:=id hit;obtain⟨o2,b1,b2,b3⟩:=hm;have one:Builtin.Dict_items.ownsTuple "dict_keyiterator"=false:=by decide
 have there:(Y9 d==Y8)=false:=rfl
 delta pyNext
 apply Ya;apply wpAny_attempt;apply Xu (name:=Wl "__next__") hit.typeIs Wx;apply Xw Wx hit.typeIs F.entry_dict_keyiterator_next _ (F.args_dict_keyiterator_next_1 _);repeat first
  |show Wt hit.typeIs ?_
  |show wpAny_fieldsOf a1 a3 ?_
  |show wpAny_dictEntries b1 b3 ?_
  |show wpAny_dictEpoch b1 b3 ?_
  |simp only[one,there,bne_self_eq_false,Xi,if_false]
  |apply Ya
  |apply Ye
 have up:¬(i:Int)<0:=by lia
 simp only[up,if_false,X1];cases hx:es[i]? with
 |some e=>
  have on:(s.heap.update it (Obj.mapFields (·.setIfInBounds 1 (rawInt ((i:Int)+1))))).IsKeyIter it d (i+1) es.size ep:=⟨_,Vr _ a1 (Obj.isFreed_of_fields (Vb a3 _)),(Obj.cls_mapFields ..).trans a2,by rw[Vb a3];simp[rawInt]⟩
  have ty:({s with heap:=s.heap.update it (Obj.mapFields (·.setIfInBounds 1 (rawInt ((i:Int)+1))))}:Shared).TypeIs (.ref it) "dict_keyiterator":=Heap.IsKeyIter.typeIs on;dsimp only;repeat first
   |show Wt hit.typeIs ?_
   |show wpAny_isOneOf_keyiter hit.typeIs ?_
   |show wpAny_isOneOf_keyiter ty ?_
   |simp only[one,Xi,if_false,Nat.zero_add]
   |show VT a1 a3 (by simp) ?_
   |apply Xs
   |apply Ya
   |apply Ye
  show⟨_,rfl,Ye (q1 e hx _ on (Wr ..))⟩
 |none=>
  have calm:A.in1.handled=none:=hh hx;dsimp only;repeat first
   |show Wt hit.typeIs ?_
   |simp only[one,Xi,if_false,Nat.zero_add]
   |show VT a1 a3 (by simp) ?_
   |show wpAny_alloc' ?_
   |show wpAny_raiseNew_none calm ?_
   |apply Ya
   |apply Ye
  show wpAny_loadPart (Yw _ rfl) (Ye ?_);have stop:isSubtype (.type "StopIteration") (.type "StopIteration")=pure true:=isSubtype_stop;dsimp only;rw[stop];show Ye (Ye (q2 hx _ (((Wr ..).extBut.push _).push _)))
theorem Bc{e:Wa}{Q:Option Value->Shared->Prop}(hit:s.heap.IsKeyIter it d i es.size ep)(hm:jw s.heap d es ep)(hx:es[i]? = some e)
  (q:∀h',h'.IsKeyIter it d (i+1) es.size ep->Wj it s.heap h'->Q (some e.key) {s with heap:=h'}):wpAny (model prog w) A (pyNext (.ref it)) Q E s:=
 qh (λz=>by rw[hx]at z;cases z) hit hm (λe' z=>by rw[hx]at z;cases z;show q) λz=>by rw[hx]at z;cases z
theorem FO{Q:Option Value->Shared->Prop}(hh:A.handled=none)(hit:s.heap.IsKeyIter it d i es.size ep)(hm:jw s.heap d es ep)(hx:es.size<=i)
  (q:∀h',Up it s.heap h'->Q none {s with heap:=h'}):wpAny (model prog w) A (pyNext (.ref it)) Q E s:=
 qh (λ_=>hh) hit hm (λe' z=>by rw[X7 hx]at z;cases z) λ_=>q
theorem yc(hh:A.handled=none)(I:Addr)(eT:d≠I):
  Walks prog w A I [I,d] [I] es.size (λi v=>∃e,es[i]? = some e/\v=e.key) (λi h=>h.IsKeyIter I d i es.size ep/\jw h d es ep) where
 sub:=λb hb=>by rw[Yj.mp hb];show YR
 frame:=λ_ _ _ st hk=>⟨st.1.at (hk I (.head _)),st.2.at (hk d (.tail _ (.head _)))⟩
 item:=λi s Q E hi st hQ=>by
  have hx:es[i]? = some es[i]:=XT hi;show Bc st.1 st.2 hx λh' k2 sb=>hQ _ h' s.toks ⟨_,hx,rfl⟩ ⟨k2,st.2.at λo e=>sb.extBut d o eT e⟩ λb o hb e=>sb.extBut b o (λz=>hb (Yj.mpr z)) e
 done:=λs Q E st hQ=>FO hh st.1 st.2 (Yl _) λh' x=>hQ h' s.toks λb o hb e=>x b o (λz=>hb (Yj.mpr z)) e
 self:=λ_ _ _ _ st hQ=>wpAny_pyIter_keyiter st.1 hQ
theorem vK(lo:(d==XN)=false):KdlSrc prog w "dict" d d es.size (λi v=>∃e,es[i]? = some e/\v=e.key) (λh=>jw h d es ep) where
 type:=λ_ hm=>hm.ty
 there:=λ_ hm=>⟨hm.lt,hm.lt⟩
 keep:=λ_ _ hm hk=>hm.at (hk d 18e0)
 notList:=by decide
 notTuple:=by decide
 hint:=λ_ _ _ _ hm hq=>kdl_hint_dict hm.ty hq
 iter:=λ_ _ hh hm=>⟨_,_,λ_ _ hq=>Bb lo hm hq,yc hh _ (Yp hm.lt),⟨_,Yw _ rfl,rfl,rfl⟩,hm.at λo e=>Yb _ e⟩
end
section
variable{prog:Ys}{w:World}{A:Around}{E:1e6}{s:Shared}{T:String}{r d:Addr}{n:Nat}{P:Nat->Value->Prop}{OK:Heap->Prop}
theorem He{R:18e9}(K:KdlSrc prog w T r d n P OK)(hh:A.handled=none)(bV:OK s.heap)(S:Addr)(hSr:S≠r)(hSd:S≠d)(c₀:Nat)(hS:s.heap.get? S=some {cls:=.type "list",data:=.seq #[] c₀})(hn:n<=Yt)
  (hR:∀h' tk acc c,(∀b o,b≠S->s.heap.get? b=some o->h'.get? b=some o)->h'.get? S=some {cls:=.type "list",dict:=none,data:=.seq acc c,slots:=#[]}->ItemsOf P acc n->R (.ok (.ret (.ref S))) {s with heap:=h',toks:=tk}):
  Wo 5e0 A (.builtin "list.__iadd__" ⟨[.ref S,.ref r],[]⟩) R s:=by
 show WF entry_list_iadd' ?_;rw[Vx (show plainId "list.__iadd__"=true by decide +kernel) _];show kdl_extend K hh bV S hSr hSd (.ref S) c₀ hS hR hn
theorem Zdu{Q:List Value->Shared->Prop}(K:KdlSrc prog w T r d n P OK)(hh:A.handled=none)(bV:OK s.heap)(hn:n<=Yt)
  (h:∀h' tk acc,(∀b o,s.heap.get? b=some o->h'.get? b=some o)->s.heap.objs.size<=h'.objs.size->ItemsOf P acc n->Q acc.toList {s with heap:=h',toks:=tk}):wpAny (model prog w) A (collect (.ref r)) Q E s:=by
 ext collect;show Ya (wpAny_runValue (WF entry_proto_collect' ?_));show Ya (VA (Ye ⟨Code.quiet_builtin _ 3e9,?_⟩));have hS:(s.heap.push (seqObj "list" #[] 0)).get? s.heap.objs.size=some {cls:=.type "list",data:=.seq #[] 0}:=Yw _ rfl;have dQ:=K.there _ bV;show He (s:={s with heap:=s.heap.push (seqObj "list" #[] 0)}) K hh (K.keep _ _ bV λb _ o e=>Yb _ e) s.heap.objs.size (XI dQ.1) (XI dQ.2) 0 hS hn λh' tk acc c k e ai=>?_;show Ya (wpAny_load e ?_);show Ye (h h' tk acc (λb o z=>k b o (Yp (Yq z)) (Yb _ z)) (VO (Yq e)) ai)
end
end Pu
namespace Pu
open PySem PySem.Spec PySem.W PySem.Calls L2 PySem.SeqAt
open PyProof.Rows hiding St Fr
def tupK(k:14e6):PV:=.tup (k.map kP)
noncomputable def keyOk:Key->Bool
 |.inl _=>true
 |.inr x=>decide (x.length<=1000)
def keysOk(ks:10e8):Bool:=ks.all λk=>k.all keyOk
theorem Kz{K:W.Frag}{ι:3e8}{H:Hp}:∀{k:Key},keyOk k=true->Rep K ι H (kP k) (kV k)
 |.inl i,_=>hV
 |.inr x,h=>yb (Cv (of_decide_eq_true h))
theorem oj{K:W.Frag}{ι:3e8}{H:Hp}:∀{k:14e6},k.all keyOk=true->ah K ι H (k.map kP) (k.map kV)
 |[],_=>.nil
 |x::k,h=>by
  rw[Xx,Yg]at h;show .cons (Kz h.1) (oj h.2)
theorem Ba{K:W.Frag}{ι:3e8}{H:Hp}{k:14e6}{b:Addr}(h:k.all keyOk=true)(e:H b=some (.tup (k.map kV))):Rep K ι H (tupK k) (.ref b):=by
 unfold tupK Rep;show⟨b,_,rfl,e,oj h⟩
theorem GH{K:W.Frag}{ι:3e8}{H:Hp}{kvs:List (List Key×V)}{xs:List 13e3}(r:KT H kvs xs)(h:keysOk (kvs.map (·.1))=true):ah K ι H (kvs.map λq=>tupK q.1) (xs.map λx=>V.ref x.2.1):=by
 induction r with
 |nil=>show .nil
 |@cons p q ps qs a t ih=>
  rw[Yz]at h;ext keysOk h;rw[Xx,Yg]at h;show .cons (Ba h.1 a.2.1) (ih h.2)
theorem l8:∀(xs:List 13e3),Vals (xs.map λx=>V.ref x.2.1) (xs.map λx=>Y9 x.2.1)
 |[]=>.nil
 |x::xs=>.cons rfl (l8 xs)
theorem yL{xs:List 13e3}{es:Array Wa}{prog:Ys}{w:World}{acc:Array Value}(he:es.toList=xs.map (entryOfKey (VU (bU prog w))))(h:ItemsOf (λi v=>∃e,es[i]? = some e/\v=e.key) acc es.size):acc.toList=xs.map λx=>Y9 x.2.1:=by
 have hl:es.size=xs.length:=size_of_entries he;apply Xk;intro i;rw[Vt,YL];by_cases hi:i<acc.size
 ·obtain⟨e,e1,e2⟩:=h.2 i _ (XT hi)
  rw[XT hi,e2];rw[entry_at he]at e1;cases hx:xs[i]? with
  |none=>rw[hx]at e1;cases e1
  |some x=>rw[hx]at e1;cases e1;rfl
 ·rw[X7 1e4,XB (by have:=h.1;lia)];rfl
section
variable{X:Cx}
def Bg(K:W.Frag):List V->Hp->VK->Prop:=λxs H Q=>∃p kvs qs ι,xs=[.ref p]/\Rd H p (.dT kvs)/\keysOk (kvs.map (·.1))=true/\cO (kvs.map λq=>tupK q.1)=some qs/\
 ∀zs l,ah K ι H qs zs->H l=none->Q (.ref l) (upd H l (.lst zs))
theorem ph(kM:11e1)(hu:8e3):cR X (.builtin "sorted") (Bg X.K):=by
 sleep 15;obtain⟨p,kvs,qs,ι,rfl,hq,MJ,hs,q⟩:=h;obtain⟨u,rfl,rx⟩:=vals1 r;cases rx;obtain⟨hz,lo,xs,kt,o,es,ep,ho,hex,RK,he,his,oR⟩:=xf I.bV hq;have hl:es.size=xs.length:=size_of_entries he;have Z4:kvs.length=xs.length:=W3 kt;show ZbH hu I hs (λQ' q'=>Zdu (vK (es:=es) (ep:=ep) lo) (I.ok.hd kM) ⟨o,ho,hex,RK⟩ ?_ λh' tk acc k hle ai=>?_) q
 ·have h1:(kvs.map λq=>tupK q.1).length<64:=(Pa hs).2.2.1
  rw[Yv]at h1;rw[YV];lia
 ·rw[yL he ai]
  show q' h' s.drawn tk _ _ _ k hle (.refl _) (l8 xs) (GH kt MJ)
theorem rW{prog:Ys}{w:World}{A:Around}{E:1e6}{s:Shared}{l:Addr}{vs:4e1}{Q:List Value->Shared->Prop}(ht:s.heap.IsTuple l vs.toArray)(hsz:vs.length<=Yt)
  (h:∀h',(∀b o,s.heap.get? b=some o->h'.get? b=some o)->s.heap.objs.size<=h'.objs.size->Q vs {s with heap:=h'}):wpAny (model prog w) A (collect (.ref l)) Q E s:=by
 obtain⟨o,ho,hc,n,hd⟩:=ht;have new:(s.heap.push (seqObj "list" #[] 0)).get? s.heap.objs.size=some (seqObj "list" #[] 0):=Yw _ rfl;have hk:=Yb (seqObj "list" #[] 0) ho;ext collect;show Ya (wpAny_runValue (WF entry_proto_collect' (Ya (VA (Ye ⟨Code.quiet_builtin _ 3e9,WF entry_list_iadd' ?_⟩)))));change wpAny _ _ (VH 11e4 (.ref l) 11e4) _ _ {s with heap:=s.heap.push (seqObj "list" #[] 0)};ext VH;show Ya (Vq (T:="tuple") ⟨o,hk,hc⟩ ?_);have yes:(Builtin.List.listSameRef 11e4 (.ref l)||Vk "tuple"==Vk "list"||Vk "tuple"==Vk "tuple")=true:=by rw[show(Vk "tuple"==Vk "tuple")=true by rfl,Bool.or_true]
 rw[if_pos yes];show Ya (Ui hk hd (Ya (Ui new rfl ?_)));rw[if_neg 4e4];show Ya (Vz new rfl ?_ (Xq _) (by change(#[]++vs.toArray).size<=Yt+1;simp;lia))
 have e2:=Vc new (λa=>a++vs.toArray);show Ye (Ya (wpAny_load e2 ?_));change wpAny _ _ (pure ((#[]:Array Value)++vs.toArray).toList) Q E _;rw[show((#[]:Array Value)++vs.toArray).toList=vs by simp];show Ye (h _ (λb u e=>?_) ?_)
 ·rw[X5 _ _ _ _ (Yp (Yq e))];show Yb _ e
 ·rw[Heap.size_update,size_push'];lia
def Be(K:W.Frag):List V->Hp->VK->Prop:=λxs H Q=>∃p ys ι ps qs,xs=[.ref p]/\iz K H p ys/\ah K ι H ps ys/\cO ps=some qs/\∀zs l,ah K ι H qs zs->H l=none->Q (.ref l) (upd H l (.lst zs))
theorem pe(hu:8e3):cR X (.builtin "sorted") (Be X.K):=by
 sleep 15;obtain⟨p,ys,ι,ps,qs,rfl,hq,rs,hs,q⟩:=h;obtain⟨u,rfl,rx⟩:=vals1 r;cases rx;obtain⟨aM,r',pl,hz⟩:=I.tuple hq;show ZbH hu I hs (λQ' q'=>rW pl ?_ λh' k hle=>q' h' s.drawn s.toks aM ps ys k hle (.refl _) r' rs) q;have h1:ps.length<64:=(Pa hs).2.2.1;have:=rs.length;have:=r'.length;rw[YV];lia
def iL(C:Cs):List SV->Option 7e7
 |[x]=>match aQ C x with
  |some (.lst xs)=>cO xs
  |some (.tup xs)=>cO xs
  |some (.bW ks _)=>if keysOk ks then cO (ks.map tupK)else none
  |_=>none
 |_=>none
def qH(fs:2e8):aG->M 7e7:=λρ=>aW (fs ρ) λxs=>cK λC=>iL C xs
theorem uy{e:Expr}{es:6e1}{fs:2e8}{p pos:Pos}(kM:11e1)(hu:8e3)(iD:Gl X "sorted")(hm:X.mg "sorted"=none)(hv:Xb "sorted"=some (.builtin "sorted"))(ha:AM X 7e6 fs)
  (he:1e9:=by rfl) (eN:3e4:=by rfl):FM X (.Call (.Name "sorted" p) 7e6 [] pos) (qH fs):=
 PE.imp (kr ((se hu).or ((pe hu).or (ph kM hu))) iD hm hv ha 1e2 1e2 he eN) λσ H Q h_=>by
  sleep 11;obtain⟨xs,C1,e1,e⟩:=cD e;obtain⟨e2,rfl⟩:=pI e;show⟨ι,ρ,C,xs,_,sr,e1,λvs H1 f1 c1 r1=>?_⟩;ext iL e2;split at e2
  ·rename_i x
   obtain⟨v,w,rfl,r1,hw⟩:=r1;cases(show w=[]from hw);split at e2
   ·rename_i ps hd
    obtain⟨a,ws,rfl,h1,r2⟩:=il (r1.lies c1 hd);show .inl ⟨a,ws,ι,ps,_,rfl,h1,r2,e2,λzs l hz hl=>q l _ H1 f1 c1 hl hz⟩
   ·rename_i ps hd
    obtain⟨a,ws,rfl,h1,r2⟩:=iR (r1.lies c1 hd);show .inr (.inl ⟨a,ws,ι,ps,_,rfl,h1.sq,r2,e2,λzs l hz hl=>q l _ H1 f1 c1 hl hz⟩)
   ·rename_i ks ps hd
    have li:=r1.lies c1 hd;cases li with
    |@bW a _ _ ws h1 hl r2=>
     by_cases hk:keysOk ks=true
     ·rw[if_pos hk]at e2
      have ek:((ks.zip ws).map λq=>tupK q.1)=ks.map tupK:=by
       have:(ks.zip ws).map Prod.fst=ks:=WU 1e4;show(Y0 (f:=Prod.fst) (g:=tupK) (l:=ks.zip ws)).symm.trans (by rw[this])
      have ef:(ks.zip ws).map (·.1)=ks:=WU 1e4;show .inr (.inr ⟨a,ks.zip ws,_,ι,rfl,h1,by rw[ef];show hk,by rw[ek];show e2,λzs l hz hl=>q l _ H1 f1 c1 hl hz⟩)
     ·rw[if_neg hk]at e2;cases e2
   ·cases e2
  ·cases e2
end
noncomputable def gI {κ:Type} [DecidableEq κ](k:κ)(ks:List κ):Bool:=ks.any λa=>decide (a=k)
def bw{κ:Type} [DecidableEq κ](ks:List κ)(k:κ):List κ:=if gI k ks then ks else ks++[k]
def bQ{κ:Type} [DecidableEq κ]{α:Type}(ks:List κ)(xs:List α)(k:κ)(x:α):List α:=if gI k ks then(ks.zip xs).map (λq=>if q.1=k then x else q.2)else xs++[x]
theorem wt{κ:Type} [DecidableEq κ]{k:κ}{ks:List κ}:gI k ks=true↔k∈ks:=by
 ext gI;rw[List.any_eq_true];constructor
 ·rintro⟨a,h,e⟩;rw[←of_decide_eq_true e];show h
 ·intro h;show⟨k,h,decide_eq_true rfl⟩
theorem Zc1{κ:Type} [DecidableEq κ]{k:κ}{v:V}:∀{ks:List κ}{vs:List V},ks.length=vs.length->((ks.zip vs).map λkv=>if kv.1=k then(kv.1,v)else kv)=ks.zip ((ks.zip vs).map λq=>if q.1=k then v else q.2)
 |[],vs,_=>by simp
 |a::ks,[],h=>by simp at h
 |a::ks,b::vs,h=>by
  rw[Y6,Yz,Yz,Y6,Zc1 15e6];by_cases e:a=k
  ·simp[e]
  ·simp[e]
theorem vz{κ:Type} [DecidableEq κ]{k:κ}:∀{ks:List κ}{vs:List V},ks.length=vs.length->((ks.zip vs).any λkv=>decide (kv.1=k))=gI k ks
 |[],vs,_=>by simp[gI]
 |a::ks,[],h=>by simp at h
 |a::ks,b::vs,h=>by
  rw[Y6,Xd,vz 15e6];ext gI;rw[Xd]
theorem oq{κ:Type} [DecidableEq κ]{k:κ}{v:V}{ks:List κ}{vs:List V}(h:ks.length=vs.length):putK (ks.zip vs) k v=(bw ks k).zip (bQ ks vs k v)/\(bw ks k).length=(bQ ks vs k v).length:=by
 unfold putK bw bQ;rw[vz h];cases e:gI k ks with
 |true=>
  simp only[if_true];show⟨Zc1 h,?_⟩;rw[Yv,Vd];lia
 |false=>
  simp only[Xi,if_false];show⟨?_,by simp[h]⟩;rw[List.zip_append h];rfl
theorem kl{κ:Type} [DecidableEq κ]{K:W.Frag}{ι:3e8}{H:Hp}{k:κ}{p:PV}{v:V}(hp:Rep K ι H p v){ks:List κ}{ps:List PV}{vs:List V}(r:ah K ι H ps vs):ah K ι H (bQ ks ps k p) (bQ ks vs k v):=by
 ext bQ;by_cases e:gI k ks=true
 ·rw[if_pos e,if_pos e]
  clear e;induction ks generalizing ps vs with
  |nil=>simp;show .nil
  |cons a ks ih=>
   cases ps with
   |nil=>rw[r.iW];simp;show .nil
   |cons q ps=>
    obtain⟨w,ws,rfl,h1,h2⟩:=r.inv;rw[Y6,Y6,Yz,Yz];show .cons ?_ (ih h2);by_cases z:a=k
    ·simp only[z,if_true];show hp
    ·simp only[z,if_false];show h1
 ·rw[if_neg e,if_neg e];show r.append (.cons hp .nil)
def fg{α:Type}:List (List Key×α)->List (List Key)->List α->List (List Key)×List α
  |[],ks,xs=>(ks,xs)
  |(k,x)::r,ks,xs=>fg r (bw ks k) (bQ ks xs k x)
section
variable{X:Cx}
theorem uw{α:Type}(d:α):∀(l:List α),(Yk l.length).map (λi=>l.getD i d)=l:=λl=>by
 apply Xk;intro i;rw[YL];by_cases hi:i<l.length
 ·rw[VG hi];simp[hi]
 ·rw[XB 14e9,XB 1e4];rfl
end
def cZ:List PV->Option (List Key)
 |[]=>some []
 |p::r=>match jQ p,cZ r with
  |some k,some ks=>some (k::ks)
  |_,_=>none
def Vbj:PV->Option (List Key×PV)
 |.tup [.tup qs,v]=>(cZ qs).map λk=>(k,v)
 |_=>none
section
variable{K:W.Frag}{ι:3e8}{H:Hp}
theorem vI{x:PV}{v:V}{q:Key}(l:Rep K ι H x v)(h:jQ x=some q):v=kV q:=qN (Rep.lies l) h
theorem Zc3:∀{qs:List PV}{ws:List V}{k:14e6},ah K ι H qs ws->cZ qs=some k->ws=k.map kV
 |[],ws,k,r,e=>by cases e;show r.iW
 |p::qs,ws,k,r,e=>by
  obtain⟨v,w,rfl,h1,h2⟩:=r.inv;ext cZ e;split at e
  ·rename_i a b e1 e2
   cases e;rw[vI h1 e1,Zc3 h2 e2];rfl
  ·cases e
theorem Zc4{qs:List PV}{k:14e6}{v:V}(r:Rep K ι H (.tup qs) v)(e:cZ qs=some k):∃b,v=.ref b/\H b=some (.tup (k.map kV)):=by
 ext Rep r;obtain⟨b,ws,rfl,h,rs⟩:=r;rw[Zc3 rs e]at h;show⟨b,rfl,h⟩
theorem CR.BS{C:Cs}(cr:11e7){a:Addr}(h:H a=none):a∉ι:=λz=>by
 rcases cr.mut z with⟨_,e⟩|⟨_,e⟩|⟨_,e⟩
 ·rw[h]at e;cases e
 ·rw[h]at e;cases e
 ·rw[h]at e;cases e
end
section
variable{X:Cx}{e o i:Expr}{es:6e1}{fs:2e8}{p pos pos':Pos}{x:Str}{fv fo fi:4e5}
noncomputable def vY (i:Nat):aG->M PF:=λρ C=>some (.nx (ρ.set i (some (.c C.length))),C++[.bW [] []])
def Ap(v o i:SV)(ρ:aG):M PF:=λC=>match o,i,v with
 |.c k,.v (.tup qs),.v p=>match C[k]?,cZ qs with
  |some (.bW ks ps),some key=>if ks.length<1000 then some (.nx ρ,C.set k (.bW (bw ks key) (bQ ks ps key p)))else none
  |_,_=>none
 |_,_,_=>none
def j6(fv fo fi:4e5):aG->M PF:=λρ=>aW (fv ρ) λv=>aW (fo ρ) λo=>aW (fi ρ) λi=>Ap v o i ρ
theorem xS{v o i:SV}{ρ:aG}{C C2:Cs}{fl:PF}(h:Ap v o i ρ C=some (fl,C2)):∃k qs p ks ps key,o=.c k/\i=.v (.tup qs)/\v=.v p/\C[k]? = some (.bW ks ps)/\cZ qs=some key/\ks.length<1000/\fl=.nx ρ/\C2=C.set k (.bW (bw ks key) (bQ ks ps key p)):=by
 ext Ap h;split at h
 ·split at h
  ·split at h
   ·cases h;show⟨_,_,_,_,_,_,rfl,rfl,rfl,by assumption,by assumption,by assumption,rfl,rfl⟩
   ·cases h
  ·cases h
 ·cases h
end
noncomputable def cY:List (List Key)->List PV->List Key->Option PV
 |k::ks,v::vs,q=>if k=q then some v else cY ks vs q
 |_,_,_=>none
theorem yB{K:W.Frag}{ι:3e8}{H:Hp}{q:14e6}:∀{ks:10e8}{ps:List PV}{vs:List V},ks.length=vs.length->ah K ι H ps vs->
  (∀z,cY ks ps q=some z->∃v,hU (ks.zip vs) q=some v/\Rep K ι H z v)/\(hU (ks.zip vs) q).isSome=gI q ks:=by
 intro ks;induction ks with
 |nil=>
  intro ps vs hl r;show⟨λz h=>?_,rfl⟩;cases ps<;>cases h
 |cons k ks ih=>
  intro ps vs hl r;cases ps with
  |nil=>rw[r.iW]at hl;cases hl
  |cons p ps=>
   obtain⟨v,w,rfl,h1,h2⟩:=r.inv;have ih:=ih (by simpa using hl) h2;rw[Y6];unfold cY gI;rw[Xd];by_cases h:k=q
   ·rw[if_pos h,Tn (p:=(k,v)) h,decide_eq_true h]
    show⟨λz e=>by cases e;show⟨v,rfl,h1⟩,rfl⟩
   ·rw[if_neg h,Tj (p:=(k,v)) h,decide_eq_false h]
    show⟨ih.1,by rw[ih.2];rfl⟩
theorem R8{H:Hp}{a b:Addr}{kvs:List (List Key×V)}{k:14e6}(e:Rd H a (.dT kvs))(eb:H b=some (.tup (k.map kV))):vt H a (.ref b) (hU kvs k):=.inr ⟨kvs,k,b,e,rfl,eb,rfl⟩
theorem Mb{K:W.Frag}{ι:3e8}{H:Hp}{ks:10e8}{ps:List PV}{v:V}(l:Lies K ι H (.bW ks ps) v):∃(a:Addr)(vs:List V),v=.ref a/\Rd H a (.dT (ks.zip vs))/\ks.length=vs.length/\ah K ι H ps vs:=by
 cases l;show⟨_,_,rfl,by assumption,by assumption,by assumption⟩
theorem yD{K:W.Frag}{ι:3e8}{H:Hp}{qs:List PV}{k:14e6}{v:V}(l:Lies K ι H (.tup qs) v)(e:cZ qs=some k):∃b,v=.ref b/\H b=some (.tup (k.map kV)):=by
 obtain⟨b,ws,rfl,h,rs⟩:=iR l;rw[Zc3 rs e]at h;show⟨b,rfl,h⟩
def Vbs(neg:Bool)(x y:PV):Option PV:=match x,y with
 |.tup qs,.bW ks _=>match cZ qs with
  |some k=>some (.bl (if neg then !gI k ks else gI k ks))
  |none=>none
 |_,_=>none
section
variable{X:Cx}{a b:Expr}{fa fb:4e5}{pos:Pos}
def GN(x y:PV):Option PV:=match x with
 |.bW ks vs=>match y with
  |.tup qs=>match cZ qs with
   |some q=>cY ks vs q
   |none=>none
  |_=>none
 |x=>bO x y
theorem Mu:gH X.K (λx y H Q=>ZC X.K x y H Q\/Bj x y H Q) GN:=by
 sleep 9;ext GN e;split at e
 ·split at e
  ·split at e
   ·rename_i key hk
    obtain⟨a,ws,rfl,hd,hl,r⟩:=Mb lx;obtain⟨b,rfl,hb⟩:=yD ly hk;obtain⟨v,hv,rv⟩:=(yB hl r).1 z e;show .inr ⟨a,v,rfl,by rw[←hv];show R8 hd hb,k v H .refl cr rv⟩
   ·cases e
  ·cases e
 ·show Cz ι H C p q vx vy z Q cr lx ly e k
end
end Pu
namespace Se
open PySem PySem.Spec L2
noncomputable def ins {α:Type} [DecidableEq α](acc:List α)(x:α):List α:=if x∈acc then acc else acc++[x]
def fm{α:Type} [DecidableEq α](l:List α):List α:=l.foldl ins []
end Se
namespace Se
open PySem PySem.SetTable PySem.W
open PyProof.Rows hiding St Fr
section
variable{prog:Ys}{w:World}{A:Around}{E:1e6}{s:Shared}{I a T:Addr}{es:Array (Int×Value)}{ep i:Nat}{t:SetTable}
abbrev PA(arr:Array (Int×Value)):Nat->Value->Prop:=λi v=>∃e,arr[i]? = some e/\v=e.2
end
end Se
namespace L2
open PySem PySem.Spec PyProof.Rows Se
section
variable{prog:Ys}{w:World}{A:Around}{R:18e9}{s:Shared}{elt t0 i0 t1 i1:Expr}{ifs:6e1}{scope:Scope}{pos:Pos}
abbrev cX(prog:Ys)(w:World)(A:Around)(env:Env)(R:18e9):Value->Shared->Prop:=Out prog w A env R
end
end L2
namespace Pu
open PySem PySem.Spec PySem.W PySem.Calls L2 PySem.SeqAt
open PyProof.Rows hiding St Fr
theorem E4:∀(qs:14e6),cZ (qs.map kP)=some qs
 |[]=>rfl
 |q::qs=>by rw[Yz];ext cZ;rw[we,E4 qs]
section
variable{X:Cx}{e o i a:Expr}{es:6e1}{p pos pos' dg apos:Pos}{x:Str}{fv fo fi fa:4e5}{fs:2e8}
noncomputable def vZ (i:Nat):aG->M PF:=λρ C=>some (.nx (ρ.set i (some (.c C.length))),C++[.b5 [] []])
def Aq(v o i:SV)(ρ:aG):M PF:=λC=>match o,i,v with
 |.c k,.v ip,.v p=>match C[k]?,jQ ip with
  |some (.b5 ks ps),some key=>match cZ ks with
   |some qs=>if ks.length<1000 then some (.nx ρ,C.set k (.b5 ((bw qs key).map kP) (bQ qs ps key p)))else none
   |none=>none
  |_,_=>none
 |_,_,_=>none
def j7(fv fo fi:4e5):aG->M PF:=λρ=>aW (fv ρ) λv=>aW (fo ρ) λo=>aW (fi ρ) λi=>Aq v o i ρ
theorem xT{v o i:SV}{ρ:aG}{C C2:Cs}{fl:PF}(h:Aq v o i ρ C=some (fl,C2)):∃k ip p ks ps qs key,o=.c k/\i=.v ip/\v=.v p/\C[k]? = some (.b5 ks ps)/\jQ ip=some key/\cZ ks=some qs/\ks.length<1000/\fl=.nx ρ/\C2=C.set k (.b5 ((bw qs key).map kP) (bQ qs ps key p)):=by
 ext Aq h;split at h
 ·split at h
  ·split at h
   ·split at h
    ·cases h;show⟨_,_,_,_,_,_,_,rfl,rfl,rfl,by assumption,by assumption,by assumption,by assumption,rfl,rfl⟩
    ·cases h
   ·cases h
  ·cases h
 ·cases h
end
mutual
noncomputable def flat:PV->Bool
 |.lst _=>false
 |.b5 _ _=>false
 |.bW _ _=>false
 |.tup xs=>gP xs
 |.dn _ _=>false
 |_=>true
noncomputable def gP:List PV->Bool
 |[]=>true
 |p::r=>flat p&&gP r
end
def kS:PV->Bool
 |.lst ps=>gP ps
 |.b5 _ ps=>gP ps
 |.bW _ ps=>gP ps
 |_=>false
section
variable{K:W.Frag}{ι ι':3e8}{H H':Hp}{C:Cs}
mutual
theorem Rep.flat:∀(p:PV)(v:V),Pu.flat p=true->Rep K ι H p v->Rep K ι' H p v
 |.aP,v,_,h=>by unfold Rep at h⊢;show h
 |.bl b,v,_,h=>by unfold Rep at h⊢;show h
 |.int i,v,_,h=>by unfold Rep at h⊢;show h
 |.str x,v,_,h=>by unfold Rep at h⊢;show h
 |.tup ps,v,f,h=>by
  sleep 18;show⟨a,vs,e,sq,ah.flat ps vs (by ext Pu.flat f;show f) r⟩
 |.lst ps,v,f,h=>by ext Pu.flat f;cases f
 |.b5 ks ps,v,f,h=>by ext Pu.flat f;cases f
 |.bW ks ps,v,f,h=>by ext Pu.flat f;cases f
 |.fn a,v,_,h=>by unfold Rep at h⊢;show h
 |.ty n,v,_,h=>by unfold Rep at h⊢;show h
 |.dn ks ps,v,f,h=>by ext Pu.flat f;cases f
theorem ah.flat:∀(ps:List PV)(vs:List V),Pu.gP ps=true->ah K ι H ps vs->ah K ι' H ps vs
 |[],vs,_,h=>by unfold ah at h⊢;show h
 |p::ps,vs,f,h=>by
  unfold ah at h⊢;obtain⟨v,r,e,h1,h2⟩:=h;ext Pu.gP f;rw[Yg]at f;show⟨v,r,e,Rep.flat p v f.1 h1,ah.flat ps r f.2 h2⟩
end
theorem cm.flat{a:Addr}{c:PV}(f:kS c=true)(h:cm K ι H a c):cm K ι' H a c:=by
 cases c with
 |lst ps=>obtain⟨vs,e,r⟩:=h;show⟨vs,e,ah.flat _ _ f r⟩
 |b5 ks ps=>obtain⟨qs,vs,e,hl,hk,r⟩:=h;show⟨qs,vs,e,hl,hk,ah.flat _ _ f r⟩
 |bW ks ps=>obtain⟨vs,e,hl,r⟩:=h;show⟨vs,e,hl,ah.flat _ _ f r⟩
 |_=>show h.elim
theorem cm.cells{a:Addr}{c:PV}(hs:∀b o,H b=some o->b∉ι->b∉ι')(h:cm K ι H a c):cm K ι' H a c:=by
 cases c with
 |lst ps=>obtain⟨vs,e,r⟩:=h;show⟨vs,e,16e6⟩
 |b5 ks ps=>obtain⟨qs,vs,e,hl,hk,r⟩:=h;show⟨qs,vs,e,hl,hk,16e6⟩
 |bW ks ps=>obtain⟨vs,e,hl,r⟩:=h;show⟨vs,e,hl,16e6⟩
 |_=>show h.elim
theorem cm.rep{a:Addr}{c:PV}(MF:a∉ι')(hs:∀b o,H b=some o->b∉ι->b∉ι')(h:cm K ι H a c):Rep K ι' H c (.ref a):=by
 cases c with
 |lst ps=>obtain⟨vs,e,r⟩:=h;ext Rep;show⟨a,vs,rfl,.inl ⟨MF,.inl e⟩,16e6⟩
 |b5 ks ps=>obtain⟨qs,vs,e,hl,hk,r⟩:=h;ext Rep;show⟨a,qs,vs,rfl,MF,e,hl,hk,16e6⟩
 |bW ks ps=>obtain⟨vs,e,hl,r⟩:=h;ext Rep;show⟨a,vs,rfl,MF,.inl e,hl,16e6⟩
 |_=>show h.elim
end
noncomputable def pickK (xs:List SV):List Nat->Option (List Nat)
 |[]=>some []
 |i::r=>match xs[i]?,pickK xs r with
  |some (.c k),some ks=>if k∈ks then none else some (k::ks)
  |_,_=>none
noncomputable def dh (C:Cs)(ks:12e9):List SV->Option (List SV)
 |[]=>some []
 |.v p::r=>(dh C ks r).map (.v p::·)
 |.c k::r=>match ks.idxOf? k with
  |some j=>(dh C ks r).map (.c j::·)
  |none=>match C[k]? with
   |some c=>(dh C ks r).map (.v c::·)
   |none=>none
noncomputable def f' (C:Cs):List Nat->Option Cs
 |[]=>some []
 |k::r=>match C[k]?,f' C r with
  |some c,some cs=>some (c::cs)
  |_,_=>none
noncomputable def fh (C:Cs):List Nat->Cs->Cs
 |k::ks,c::cs=>fh (C.set k c) ks cs
 |_,_=>C
section
variable{K:W.Frag}{ι:3e8}{H H':Hp}{C D:Cs}
theorem ZdC:∀{ks:12e9}{D:Cs},f' C ks=some D->D.length=ks.length/\∀(j k:Nat),ks[j]? = some k->∃c,D[j]? = some c/\C[k]? = some c
 |[],D,h=>by cases h;show⟨rfl,λj k e=>by simp at e⟩
 |k::ks,D,h=>by
  ext f' h;split at h
  ·rename_i c cs h1 h2
   cases h;obtain⟨a,b⟩:=ZdC h2;show⟨by simp[a],λj k' e=>?_⟩;cases j with
   |zero=>simp at e;subst e;show⟨c,rfl,h1⟩
   |succ j=>show b j k' 17e9
  ·cases h
theorem ny:∀{ks:12e9}{C D:Cs},(fh C ks D).length=C.length
 |[],C,D=>by ext fh;rfl
 |k::ks,C,[]=>by ext fh;rfl
 |k::ks,C,c::D=>by ext fh;rw[ny,XH]
theorem nz:∀{ks:12e9}{C D:Cs},ks.Nodup->D.length=ks.length->(∀k∈ks,k<C.length)->(∀(j k:Nat),ks[j]? = some k->(fh C ks D)[k]? = D[j]?)/\∀(k:Nat),k∉ks->(fh C ks D)[k]? = C[k]?
 |[],C,D,_,_,_=>⟨λj k e=>by simp at e,λk _=>by ext fh;rfl⟩
 |k::ks,C,[],_,h,_=>by simp at h
 |k::ks,C,c::D,nd,h,hl=>by
  rw[XF]at nd;have ih:=nz (ks:=ks) (C:=C.set k c) (D:=D) nd.2 15e6 (λq hq=>by rw[XH];show hl q (YG _ hq));ext fh;show⟨λj q e=>?_,λq hq=>?_⟩
  ·cases j with
   |zero=>
    simp at e;subst e;rw[ih.2 k nd.1,Xc (hl k YR)];rfl
   |succ j=>rw[ih.1 j q 17e9];rfl
  ·rw[Yd,not_or]at hq
   rw[ih.2 q hq.2,YA (Xp hq.1)]
theorem qw{xs:List SV}{vs:List V}(rs:cb K ι H xs vs):∀{ix ks:12e9},pickK xs ix=some ks->ks.Nodup/\∀k∈ks,k<ι.length
 |[],ks,h=>by cases h;show⟨.nil,λk hk=>by cases hk⟩
 |i::ix,ks,h=>by
  ext pickK h;split at h
  ·rename_i k ks' h1 h2
   split at h
   ·cases h
   ·rename_i hn
    cases h;obtain⟨a,b⟩:=qw rs h2;show⟨XF.mpr ⟨hn,a⟩,λq hq=>?_⟩;rcases Yd.mp hq with rfl|hq
    ·obtain⟨v,_,a,_,e⟩:=cb.get rs h1
     rcases YU q ι.length with z|z
     ·show z
     ·rw[Yf.mpr z]at e;cases e
    ·show b q hq
  ·cases h
noncomputable def addrs (ι:3e8)(ks:12e9):List Addr:=ks.map λk=>ι.getD k 0
theorem Zdz{ks:12e9}(hl:∀k∈ks,k<ι.length){j k:Nat}(e:ks[j]? = some k):(addrs ι ks)[j]? = ι[k]?:=by
 ext addrs;rw[YL,e];have:=hl k (YS e);simp[Yc this]
theorem N3{ks:12e9}(hl:∀k∈ks,k<ι.length){b:Addr}(h:b∈addrs ι ks):∃k∈ks,ι[k]? = some b:=by
 ext addrs h;obtain⟨k,hk,e⟩:=Yr.mp h;show⟨k,hk,?_⟩;have:=hl k hk;simp[Yc this]at e⊢;show e
theorem get_inj(nd:ι.Nodup){j k:Nat}{a:Addr}(h1:ι[j]? = some a)(h2:ι[k]? = some a):j=k:=by
 obtain⟨l1,e1⟩:=YW.mp h1;obtain⟨l2,e2⟩:=YW.mp h2;show(X9 nd).mp (e1.trans e2.symm)
theorem Zdy(nd:ι.Nodup):∀{ks:12e9},ks.Nodup->(∀k∈ks,k<ι.length)->(addrs ι ks).Nodup
 |[],_,_=>.nil
 |k::ks,h,hl=>by
  rw[XF]at h;change(ι.getD k 0::addrs ι ks).Nodup;show XF.mpr ⟨λz=>?_,Zdy nd h.2 λq hq=>hl q (YG _ hq)⟩;obtain⟨q,hq,e⟩:=N3 (λq hq=>hl q (YG _ hq)) z;have hk:=hl k YR;have e2:ι[k]? = some (ι.getD k 0):=by simp[Yc hk]
  show h.1 ((get_inj nd e2 e)▸hq)
theorem Ao(cr:11e7){ks:12e9}(nd:ks.Nodup)(hl:∀k∈ks,k<ι.length)(e:f' C ks=some D):CR K (addrs ι ks) H D:=by
 obtain⟨l,g⟩:=ZdC e;have hs:∀b o,H b=some o->b∉ι->b∉addrs ι ks:=λb o _ n z=>by
  obtain⟨k,_,q⟩:=N3 hl z;show n (YS q)
 show⟨by ext addrs;rw[Yv,l],Zdy cr.nd nd hl,λj a c h1 h2=>?_⟩;have hj:j<ks.length:=by
  rcases YU j ks.length with z|z
  ·show z
  ·rw[Yf.mpr 1e4]at h2;cases h2
 have ek:=Yc hj;rw[Zdz hl ek]at h1;obtain⟨c',g1,g2⟩:=g j _ ek;rw[h2]at g1;cases g1;show(cr.ok _ a c h1 g2).cells hs
theorem ZbY(cr:11e7){ks:12e9}(hl:∀k∈ks,k<ι.length):∀{xs ys:List SV}{vs:List V},cb K ι H xs vs->dh C ks xs=some ys->cb K (addrs ι ks) H ys vs
 |[],ys,vs,r,e=>by cases e;show r
 |.v p::xs,ys,vs,r,e=>by
  obtain⟨v,w,rfl,h1,h2⟩:=r;ext dh e;cases hq:dh C ks xs with
  |none=>rw[hq]at e;cases e
  |some z=>
   rw[hq]at e;cases e;show⟨v,w,rfl,Rep.cells (λb o _ n z=>by obtain⟨k,_,q⟩:=N3 hl z;show n (YS q)) p v h1,ZbY cr hl h2 hq⟩
 |.c k::xs,ys,vs,r,e=>by
  obtain⟨v,w,rfl,⟨a,rfl,ha⟩,h2⟩:=r;ext dh e;cases hi:ks.idxOf? k with
  |some j=>
   rw[hi]at e;cases hq:dh C ks xs with
   |none=>rw[hq]at e;cases e
   |some z=>
    rw[hq]at e;cases e;show⟨.ref a,w,rfl,⟨a,rfl,?_⟩,ZbY cr hl h2 hq⟩;have ej:ks[j]? = some k:=by
     rw[List.idxOf?_eq_some_iff]at hi;obtain⟨h,e,_⟩:=hi;rw[Yc h,e]
    rw[Zdz hl ej];show ha
  |none=>
   rw[hi]at e;have hk:k∉ks:=List.idxOf?_eq_none_iff.mp hi;cases hc:C[k]? with
   |none=>rw[hc]at e;cases e
   |some c=>
    rw[hc]at e;cases hq:dh C ks xs with
    |none=>rw[hq]at e;cases e
    |some z=>
     rw[hq]at e;cases e;show⟨.ref a,w,rfl,(cr.ok k a c ha hc).rep (λz=>?_) (λb o _ n z=>by obtain⟨k,_,q⟩:=N3 hl z;show n (YS q)),ZbY cr hl h2 hq⟩;obtain⟨k',RC,q⟩:=N3 hl z;show hk ((get_inj cr.nd ha q)▸RC)
theorem qc{ks:12e9}(hl:∀k∈ks,k<ι.length)(f:Fr (addrs ι ks) H H'):Fr ι H H':=λb o n e=>f b o (λz=>by obtain⟨k,_,q⟩:=N3 hl z;show n (YS q)) e
theorem tw(cr:11e7){ks:12e9}(nd:ks.Nodup)(hl:∀k∈ks,k<ι.length)(f:Fr (addrs ι ks) H H')(c2:CR K (addrs ι ks) H' D)(fl:D.all kS=true):CR K ι H' (fh C ks D):=by
 have hlD:D.length=ks.length:=by rw[←c2.len];ext addrs;rw[Yv]
 obtain⟨g1,g2⟩:=nz (C:=C) (D:=D) nd hlD λk hk=>by rw[←cr.len];show hl k hk
 show⟨by rw[ny];show cr.len,cr.nd,λk a c h1 h2=>?_⟩;by_cases hk:k∈ks
 ·obtain⟨j,hj,e⟩:=XQ hk
  have ej:ks[j]? = some k:=by rw[Yc hj,e]
  rw[g1 j k ej]at h2;have:=c2.ok j a c (by rw[Zdz hl ej];show h1) h2;show this.flat (YB.mp fl c (YS h2))
 ·rw[g2 k hk]at h2
  show(cr.ok k a c h1 h2).mono cr (qc hl f) λo e=>f a o (λz=>?_) e;obtain⟨k',RC,q⟩:=N3 hl z;show hk ((get_inj cr.nd h1 q)▸RC)
end
def Ck(F:List SV->M SV)(ix:12e9)(fs:2e8):aG->M SV:=λρ=>aW (fs ρ) λxs C=>match pickK xs ix with
 |some ks=>match dh C ks xs,f' C ks with
  |some ys,some D=>match F ys D with
   |some (.v p,D')=>if flat p&&D'.all kS then some (.v p,fh C ks D')else none
   |_=>none
  |_,_=>none
 |none=>none
theorem yz{F:List SV->M SV}{ix:12e9}{xs:List SV}{C C':Cs}{z:SV}(h:(match pickK xs ix with
 |some ks=>match dh C ks xs,f' C ks with
  |some ys,some D=>match F ys D with
   |some (.v p,D')=>if flat p&&D'.all kS then some (.v p,fh C ks D')else none
   |_=>none
  |_,_=>none
 |none=>none:Option (SV×Cs))=some (z,C')):∃ks ys D p D',pickK xs ix=some ks/\dh C ks xs=some ys/\f' C ks=some D/\F ys D=some (.v p,D')/\flat p=true/\D'.all kS=true/\z=.v p/\C'=fh C ks D':=by
 split at h
 ·split at h
  ·split at h
   ·split at h
    ·rename_i hf
     rw[Yg]at hf;cases h;show⟨_,_,_,_,_,by assumption,by assumption,by assumption,by assumption,hf.1,hf.2,rfl,rfl⟩
    ·cases h
   ·cases h
  ·cases h
 ·cases h
theorem yG{k:Key}{u:Value}(h:iT k u=true):RelV (kV k) u:=by
 rcases E8 h with⟨i,t,rfl,rfl⟩|⟨x,t,rfl,rfl⟩
 ·show⟨t,rfl⟩
 ·show⟨t,rfl⟩
theorem tR{P:Ys}{w:World}{es:List Wa}{vs:List (Key×Value)}(h:Pairs (bU P w) es vs):Vals (vs.map λq=>kV q.1) (es.map (·.key)):=by
 induction h with
 |nil=>show .nil
 |cons h1 h2 h3 ih=>show .cons (yG h1) ih
theorem ue{es:Array Wa}{acc:Array Value}(h:ItemsOf (λi v=>∃e,es[i]? = some e/\v=e.key) acc es.size):acc.toList=es.toList.map (·.key):=by
 apply Xk;intro i;rw[Vt,YL,Vt];by_cases hi:i<acc.size
 ·obtain⟨e,e1,e2⟩:=h.2 i _ (XT hi)
  rw[XT hi,e2,e1];rfl
 ·have:=h.1
  rw[X7 1e4,X7 1e4];rfl
section
variable{X:Cx}
def Bf(K:W.Frag):List V->Hp->VK->Prop:=λxs H Q=>∃p kvs qs ι,xs=[.ref p]/\H p=some (.dK kvs)/\(kvs.map (·.1)).all keyOk=true/\cO (kvs.map λq=>kP q.1)=some qs/\
 ∀zs l,ah K ι H qs zs->H l=none->Q (.ref l) (upd H l (.lst zs))
theorem pf(kM:11e1)(hu:8e3):cR X (.builtin "sorted") (Bf X.K):=by
 sleep 15;obtain⟨p,kvs,qs,ι,rfl,hq,MJ,hs,q⟩:=h;obtain⟨u,rfl,rx⟩:=vals1 r;cases rx;obtain⟨hz,lo,vs,kv,o,es,ep,ho,hex,RK,hke,hpa,oR⟩:=Dk I.bV hq;have e1:(kvs.map λq=>kV q.1)=(kvs.map (·.1)).map kV:=by rw[Y0];rfl
 have hkv:(kvs.map λq=>kV q.1)=vs.map λq=>kV q.1:=by
  have:=kv.keys;have e2:(vs.map λq=>kV q.1)=(vs.map (·.1)).map kV:=by rw[Y0];rfl
  rw[e1,e2,this]
 have hv:=tR hpa;rw[←hkv]at hv;have hl:es.size=kvs.length:=by
  have:=hv.length;simpa using this.symm
 show ZbH hu I hs (λQ' q'=>Zdu (vK (es:=es) (ep:=ep) lo) (I.ok.hd kM) ⟨o,ho,hex,RK⟩ ?_ λh' tk acc k hle ai=>?_) q
 ·have h1:(kvs.map λq=>kP q.1).length<64:=(Pa hs).2.2.1
  rw[Yv]at h1;rw[YV];lia
 ·rw[ue ai]
  show q' h' s.drawn tk _ _ _ k hle (.refl _) hv ?_;rw[show(kvs.map λq=>kP q.1)=(kvs.map (·.1)).map kP by rw[Y0];rfl,e1];show oj MJ
def fN(C:Cs):List SV->Option 7e7
 |[x]=>match aQ C x with
  |some (.b5 ks _)=>match cZ ks with
   |some qs=>if qs.all keyOk then cO ks else none
   |none=>none
  |_=>iL C [x]
 |_=>none
def eJ(fs:2e8):aG->M 7e7:=λρ=>aW (fs ρ) λxs=>cK λC=>fN C xs
theorem PE.or{e:Expr}{t t':TE}(h:PE X e t)(k:PE X e t'):PE X e λσ H Q=>t σ H Q\/t' σ H Q:=λpins s σ H Q I q=>by
 rcases q with q|q
 ·show h pins s σ H Q I q
 ·show k pins s σ H Q I q
end
end Pu
namespace Pu
open PySem PySem.Spec L2
open PyProof.Rows hiding St Fr
def Je(K:W.Frag)(a:Addr):It:=⟨λi H=>∃xs v,fB K H a xs/\xs[i]? = some v,λi H x H'=>∃b v,H b=none/\x=.ref b/\H'=upd H b (.tup [.int i,v])/\∀xs,fB K H a xs->xs[i]? = some v,
 λi H=>∃xs,fB K H a xs/\xs.length<=i⟩
theorem xN{P:Ys}{w:World}{K:W.Frag}{elts:6e1}{x1:Nat}{pos:Pos}{a e it:Addr}(eT:e≠it):Turn P w K (.Tuple elts x1 pos) (Je K a) [e,it] e
  (λi h=>(∃old,IsEnum h e it i old)/\h.IsListIter it a i) where
 mem:=by simp
 obj:=λi h st b hb=>by
  obtain⟨⟨old,he⟩,o,hi,hc,hd⟩:=st;simp only[Yd,YQ,or_false]at hb;rcases hb with rfl|rfl
  ·show⟨_,he,λv q=>by cases q⟩
  ·show⟨o,hi,λv q=>by rw[hd]at q;cases q⟩
 keep:=λi h h' st k=>by
  obtain⟨⟨old,he⟩,hi⟩:=st;show⟨⟨old,k e 4e4 _ he⟩,hi.at λo z=>k it 4e4 o z⟩
 item:=by
  sleep 3;obtain⟨⟨old,he⟩,hi⟩:=st;obtain⟨xs,v,hq,hx⟩:=hg;obtain⟨aM,rv,p,hz⟩:=I.list hq;obtain⟨u,hu,ru⟩:=rv.get hx;show wpAny_pyNext_enum_item he hi p.isList (x:=u) (by simpa using hu) eT λh' ho Iu hT hsz hk=>⟨_,rfl,?_⟩
  show wpAny_letOwnedTupleGo_enum (s:={s with heap:=h',toks:=s.toks+1}) ho λh3 he3 sb=>?_;have J1:Inv X pins σ H {s with heap:=h3,toks:=s.toks+1}:=jW (ch:=[e,it]) I (λb o hb z=>by
   simp only[Yd,YQ,or_false,not_or]at hb;show sb.extBut _ _ hb.1 (hk b o hb.1 hb.2 z)) hf
  have dQ:∀{b o},s.heap.get? b=some o->b≠s.heap.objs.size:=λe=>Yp (Yq e);have hn:H s.heap.objs.size=none:=I.bV.fresh (Yl _);have hT3:=sb.extBut _ _ (dQ he).symm hT;have J2:=HJ (ob:=.tup [.int i,v]) J1 hn I.sz (XI I.lt) (λx c e=>by obtain⟨v,q⟩:=I.cell x c e;show Yp q.lt) (λp hp=>dQ (I.pin p hp).1)
   ⟨by change 2<=Yt;rw[YV];decide,[.int i s.toks,u],.cons 6e5 (.cons ru .nil),⟨_,hT3,rfl,_,rfl⟩⟩
  show⟨.ref s.heap.objs.size,_,J2,rfl,⟨_,v,hn,rfl,rfl,λys hy=>by rw[I.kF hy hq];show hx⟩,⟨⟨_,he3⟩,Iu.at λo z=>sb.extBut _ _ eT.symm z⟩,λb hb=>?_⟩;have yU:b≠s.heap.objs.size:=by
   simp only[Yd,YQ,or_false]at hb;rcases hb with rfl|rfl
   ·show dQ he
   ·obtain⟨o,z,_⟩:=hi;show dQ z
  rw[dH yU];show(hf b hb).1
 done:=by
  sleep 3;obtain⟨⟨old,he⟩,hi⟩:=st;obtain⟨xs,hq,hx⟩:=hg;obtain⟨aM,rv,p,hz⟩:=I.list hq;have hl:=rv.length;show wpAny_pyNext_enum_end (I.ok.hd hc) he hi p.isList 14e9 λh' eb=>⟨rfl,jW (t':=s.toks) (ch:=[e,it]) I (λb o hb z=>?_) hf⟩
  simp only[Yd,YQ,or_false,not_or]at hb;show eb b o hb.2 z
 self:=λ_ _ _ _ _ st h=>by obtain⟨⟨old,he⟩,_⟩:=st;show wpAny_pyIter_enum he h
section
variable{X:Cx}{l:Expr}{elts:6e1}{x1:Nat}{pX p pos:Pos}
def Ra(K:W.Frag)(tl:TA):TI:=λσ H R=>tl σ H λxs H1=>∃a,xs=[.ref a]/\(∃vs,fB K H1 a vs)/\R (Je K a) H1
theorem vO{tl:TA}(hg:Gl X "enumerate")(hm:X.mg "enumerate"=none)(ha:PA X [l] tl)(hs:Yo [l] X.env=[(false,eval l X.env)]:=by rfl):PI X (.Tuple elts x1 pX) (.Call (.Name "enumerate" p) [l] [] pos) (Ra X.K tl):=by
 intro pins s σ H R I h;show Call_ (N0 I hg hm 1e0 (XE (cF (ha pos pins s σ H _ I h) λus s1 ⟨vs,H1,I1,r1,q1⟩=>?_) hs rfl));obtain⟨a,rfl,⟨ws,hq⟩,q⟩:=q1;obtain⟨u,rfl,ru⟩:=vals1 r1;cases ru;obtain⟨aM,rv,pl,hz⟩:=I1.list hq;show call_enumerate_list pl.isList λh' he hi hsz k=>?_;have J:Inv X pins σ H1 {s1 with heap:=h'}:=I1.kept (t':=s1.toks) k;show wpAny_pyIter_enum (s:={s1 with heap:=h'}) he ⟨s1.heap.objs.size+1,[s1.heap.objs.size+1,s1.heap.objs.size],_,_,H1,rfl,J,xN (Nat.succ_ne_self _),⟨⟨_,he⟩,hi⟩,λb hb=>?_,q⟩;have yU:s1.heap.objs.size<=b:=by
  simp only[Yd,YQ,or_false]at hb;rcases hb with rfl|rfl<;>lia
 show I1.G8 yU (I1.bV.fresh yU)
noncomputable def iZ (xs:List PV):List PV:=(Yk xs.length).map λi=>.tup [.int (i:Nat),xs.getD i .aP]
def De:List SV->Option 7e7
 |[.v (.lst xs)]=>some (iZ xs)
 |_=>none
def mJ(fs:2e8):aG->M 7e7:=λρ=>aW (fs ρ) λxs=>cK λ_=>De xs
theorem Tv(xs:List PV):(iZ xs).length=xs.length:=by ext iZ;simp
theorem yK{K:W.Frag}{ι:3e8}{H:Hp}{C:Cs}{a:Addr}{xs:List PV}{vs:List V}(cr:11e7)(h:Jg K ι H a vs)(r:ah K ι H xs vs):Iter K ι H (iZ xs) (Je K a):=by
 have keep:∀ι2 H2,Ex ι ι2 H H2->fB K H2 a vs:=λι2 H2 x=>by
  rcases h with⟨n,q|⟨o,q⟩⟩|q
  ·show .inl (.inl (x.out _ _ n q).2)
  ·show .inl (.inr ⟨o,(x.out _ _ n q).2⟩)
  ·show .inr q
 show⟨λι2 H2 C2 x c i hi=>?_,λι2 H2 C2 x c i v H3 hi y=>?_,λι2 H2 C2 x c=>⟨vs,keep ι2 H2 x,by rw[Tv,r.length];show Yl _⟩⟩
 ·rw[Tv]at hi
  obtain⟨v,e,_⟩:=r.get (Yc hi);show⟨vs,v,keep ι2 H2 x,e⟩
 ·rw[Tv]at hi
  obtain⟨b,w,hn,rfl,rfl,y⟩:=y;obtain⟨p,hp,rp⟩:=r.get' (y vs (keep ι2 _ x));show⟨λc o e=>by rw[dH (i4 e hn)];show e,.tup [.int (i:Nat),p],?_,O' hn (.cons hV (.cons (Rep.tr cr x.out p w rp) .nil))⟩;ext iZ;simp[hi];rw[Yc hi]at hp;show YF hp
def ik(g:5e3)(f:14e3)(k:Nat):Nat->Nat->aG->M PF
 |0,_,_=>λ_=>none
 |n+1,j,ρ=>λC=>match C[k]? with
  |some (.lst qs)=>match qs[j]? with
   |some x=>match g (.tup [.int (j:Nat),x]) ρ with
    |none=>none
    |some ρ1=>aW (f ρ1) (λfl=>match fl with
     |.nx ρ2=>ik g f k n (j+1) ρ2
     |.ct ρ2=>ik g f k n (j+1) ρ2
     |.bk ρ2=>Pu.ret (.nx ρ2)
     |.rt r=>Pu.ret (.rt r)
     |.rf ps=>Pu.ret (.rf ps)
     |.rq ps=>Pu.ret (.rq ps)) C
   |none=>some (.nx ρ,C)
  |_=>none
def qJ(fs:2e8)(g:5e3)(f:14e3):aG->M PF:=λρ=>aW (fs ρ) λx=>match x with
 |[.c k]=>ik g f k 1000 0 ρ
 |_=>λ_=>none
end
def putD(k:Nat)(y v:SV):M Unit:=λC=>match y,v with
 |.v (.tup qs),.v p=>match C[k]?,cZ qs with
  |some (.bW ks ps),some key=>if ks.length<1000 then some ((),C.set k (.bW (bw ks key) (bQ ks ps key p)))else none
  |_,_=>none
 |_,_=>none
theorem yk{k:Nat}{y v:SV}{C C2:Cs}{u:Unit}(h:putD k y v C=some (u,C2)):∃qs p ks ps key,y=.v (.tup qs)/\v=.v p/\C[k]? = some (.bW ks ps)/\cZ qs=some key/\ks.length<1000/\C2=C.set k (.bW (bw ks key) (bQ ks ps key p)):=by
 ext putD h;split at h
 ·split at h
  ·split at h
   ·cases h;show⟨_,_,_,_,_,rfl,rfl,by assumption,by assumption,by assumption,rfl⟩
   ·cases h
  ·cases h
 ·cases h
def iu(g:5e3)(tt:7e3)(tk te:4e5)(k:Nat):List PV->aG->M Unit
 |[],_=>ret ()
 |x::xs,ρ=>match g x ρ with
  |none=>λ_=>none
  |some ρ1=>aW (tt ρ1) λb=>if b then aW (tk ρ1) λy=>aW (te ρ1) λv=>aW (putD k y v) λ_=>iu g tt tk te k xs ρ1
   else iu g tt tk te k xs ρ1
def kD(it:13e6)(vs:6e2)(fr:12e9)(g:5e3)(tt:7e3)(tk te:4e5):aG->M SV:=λρ=>aW (it ρ) λxs C=>match iu g tt tk te C.length xs (b7 vs fr ρ) (C++[.bW [] []])with
 |some (_,C')=>fin C.length C' (.c C.length)
 |none=>none
theorem u3{K:W.Frag}{it:13e6}{vs:6e2}{fr:12e9}{g:5e3}{tt:7e3}{tk te:4e5}{σ:St}{H:Hp}{Q:VK}{ι:3e8}{ρ:aG}{C C':Cs}{z:SV}(sr:SR K ι H ρ σ C)
  (e:kD it vs fr g tt tk te ρ C=some (z,C')) (q:∀v H',Fr ι H H'->CR K ι H' C'->cw K ι H' z v->Q v H'):Af (PH K it) vs fr (HN K g) (Ae K tt) (tM K tk) (tM K te) σ H Q:=by
 obtain⟨xs,C1,e1,e⟩:=cD e;show⟨ι,ρ,C,xs,C1,sr,e1,λJ H1 f1 c1 qV=>?_⟩;intro D hD;cases hc:iu g tt tk te C1.length xs (b7 vs fr ρ) (C1++[.bW [] []])with
 |none=>rw[hc]at e;cases e
 |some r=>
 obtain⟨u,C9⟩:=r;rw[hc]at e;replace e:fin C1.length C9 (.c C1.length)=some (z,C'):=e;have x0:Ex ι [D] H1 (upd H1 D (.dT [])):=⟨Fr.new hD,λb hb=>by
  have:b=D:=by simpa using hb
  subst this;show hD⟩
 have c2:CR K (ι++[D]) (upd H1 D (.dT [])) (C1++[.bW [] []]):=c1.add hD ⟨[],pD,rfl,.nil⟩;have JW:=((sr.step f1 c1).block vs fr).ex x0 c2;have Z5:(ι++[D])[C1.length]? = some D:=by rw[←c1.len];simp
 show⟨λi m σ2 H2=>∃ρ2 C2,m=xs.length-i/\i<=xs.length/\Ex ι [D] H1 H2/\SR K (ι++[D]) H2 ρ2 σ2 C2/\iu g tt tk te C1.length (xs.drop i) ρ2 C2=some (u,C9),⟨xs.length,_,_,rfl,Xq _,x0,JW,hc⟩,?_⟩;rintro i m σ2 H2 ⟨ρ2,C2,rfl,CJ,x2,jx,e2⟩;rcases YU i xs.length with dQ|hge
 ·right
  show⟨qV.go [D] H2 C2 x2 jx.cr i dQ,λσ' H'=>∃ρ2 C2,Ex ι [D] H1 H'/\SR K (ι++[D]) H' ρ2 σ' C2/\iu g tt tk te C1.length (xs.drop (i+1)) ρ2 C2=some (u,C9),?_,?_⟩
  ·rintro σ' H' ⟨ρ3,C3,x3,sr3,e3⟩
   show⟨xs.length-(i+1),by lia,ρ3,C3,rfl,dQ,x3,sr3,e3⟩
  ·intro v H3 y
   obtain⟨sm,qv,hq,rq⟩:=qV.zS [D] H2 C2 x2 jx.cr i v H3 dQ y;have hd:xs.drop i=qv::xs.drop (i+1):=by
    rw[WT dQ];rw[Yc dQ]at hq;rw[YF hq]
   rw[hd]at e2;ext iu e2;have nx:∀{Ha Hb:Hp},Ex ι [D] H1 Ha->Fr (ι++[D]) Ha Hb->Ex ι [D] H1 Hb:=λ{Ha Hb} x f=>⟨λb o n e=>f b o (x.out b o n e).1 (x.out b o n e).2,x.2⟩
   have m7:Fr (ι++[D]) H2 H3:=λb o _ z=>sm b o z;have ng:CR K (ι++[D]) H3 C2:=jx.cr.same sm;cases yS:g qv ρ2 with
   |none=>rw[yS]at e2;cases e2
   |some ρ3=>
    rw[yS]at e2;obtain⟨b,C3,e3,e4⟩:=cD e2;show⟨ι++[D],ρ2,C2,qv,ρ3,jx.step m7 ng,rq,yS,λσ4 FC=>⟨ι++[D],ρ3,C2,b,C3,FC,e3,λH5 f5 c5=>?_⟩⟩;have x5:=nx (nx x2 m7) f5;have n6:=FC.step f5 c5;cases b with
    |false=>
     rw[if_neg Yi]at e4;dsimp only;rw[if_neg Yi];show⟨ρ3,C3,x5,n6,e4⟩
    |true=>
     rw[if_pos rfl]at e4;dsimp only;rw[if_pos rfl];obtain⟨y1,C4,e5,e6⟩:=cD e4;obtain⟨y2,C5,e7,e8⟩:=cD e6;obtain⟨y3,C6,e9,e10⟩:=cD e8;obtain⟨qs,p,ks,ps,key,rfl,rfl,iq,CH,hlen,rfl⟩:=yk e9;show⟨ι++[D],ρ3,C3,_,C4,n6,e5,λv6 H6 f6 c6 r6=>⟨ι++[D],ρ3,C4,_,C5,n6.step f6 c6,e7,λv7 H7 f7 c7 r7=>?_⟩⟩;obtain⟨zW,h1,hl,rv⟩:=(show cm K (ι++[D]) H7 D (.bW ks ps)from c7.ok C1.length D _ Z5 iq)
     obtain⟨bk,rfl,hb⟩:=Zc4 (show Rep K (ι++[D]) H7 (.tup qs) v6 from Rep.mono c6 f7 _ _ r6) CH;obtain⟨z1,z2⟩:=oq (k:=key) (v:=v7) hl;have fr8:Fr (ι++[D]) H7 (upd H7 D (.dT (putK (ks.zip zW) key v7))):=λb u n e=>by
      rw[dH (λz=>n (by rw[z];show YS Z5))];show e
     have c8:CR K (ι++[D]) (upd H7 D (.dT (putK (ks.zip zW) key v7))) (C5.set C1.length (.bW (bw ks key) (bQ ks ps key p))):=
      c7.put Z5 ⟨bQ ks zW key v7,by rw[←z1];show pD,z2,ah.mono c7 fr8 _ _ (kl r7 rv)⟩
     show⟨_,lI.t h1 hb (by rw[Vd,YV];lia),ρ3,_,nx (nx (nx x5 f6) f7) fr8,((n6.step f6 c6).step f7 c7).step fr8 c8,e10⟩
 ·left
  have RE:i=xs.length:=by lia
  subst RE;rw[V6]at e2;cases e2;show⟨qV.stop [D] H2 _ x2 jx.cr,?_⟩;obtain⟨c4,r4⟩:=kW jx.cr c1.len (show cw K (ι++[D]) H2 (.c C1.length) (.ref D)from⟨D,rfl,Z5⟩) e;show q _ H2 (f1.trans x2.1) c4 r4
end Pu
namespace Pu
open PySem PySem.Spec L2
open PyProof.Rows hiding St Fr
noncomputable abbrev kw1 (t:Tok):List (Str×Value):=[("start",.int 1 t)]
section
variable{prog:Ys}{w:World}{A:Around}{E:1e6}{s:Shared}
theorem Qp(o a:Value)(t:Tok):argsOk "object.__init__" ⟨[o,a],kw1 t⟩:=by ext argsOk;kernel_rfl
end
end Pu
namespace Pu
open PySem PySem.Spec PySem.W PySem.Calls L2 PySem.SeqAt Se
open PyProof.Rows hiding St Fr
theorem ou{α β:Type}{f:α->β}{l₁ l₂:List β}(h:l₁.Perm l₂):∀xs:List α,l₂=xs.map f->∃ys:List α,ys.Perm xs/\l₁=ys.map f:=by
 induction h with
 |nil=>intro xs e;cases xs with
  |nil=>show⟨[],.nil,rfl⟩
  |cons x xs=>simp at e
 |cons x _ ih=>intro xs e;cases xs with
  |nil=>simp at e
  |cons y xs=>
   rw[Yz]at e;obtain⟨e1,e2⟩:=Ve e;subst e1;obtain⟨ys,p,rfl⟩:=ih xs e2;show⟨y::ys,p.cons y,rfl⟩
 |swap x y l=>intro xs e;match xs,e with
  |a::b::r,e=>
   simp only[Yz,List.cons.injEq]at e;obtain⟨rfl,rfl,rfl⟩:=e;show⟨b::a::r,.swap a b r,rfl⟩
  |[a],e=>simp at e
  |[],e=>simp at e
 |trans _ _ ih1 ih2=>intro xs e;obtain⟨ys,p,rfl⟩:=ih2 xs e;obtain⟨zs,q,e'⟩:=ih1 ys rfl;show⟨zs,q.trans p,e'⟩
end Pu
namespace Pu
open PySem PySem.Spec PySem.W PySem.Calls L2
open PyProof.Rows hiding St Fr
def Gy(F:List SV->M SV)(f:13e6)(gs:2e8):aG->M SV:=λρ=>aW (f ρ) λps C=>match aW (gs ρ) (λxs=>F (.c C.length::xs)) (C++[.lst ps])with
 |some (r,C')=>fin C.length C' r
 |none=>none
end Pu
namespace Hd
open PySem PySem.W PySem.Spec PySem.Calls L2 Pu
open PyProof.Rows hiding St Fr
noncomputable def kf (h:Heap)(as:3e8):Frag:=as.filterMap λa=>(h.get? a).map λo=>(a,o)
theorem uc{h:Heap}:∀{as:3e8}{a:Addr}{o:Obj},(kf h as).lookup a=some o->h.get? a=some o
 |[],_,_,e=>by cases e
 |b::as,a,o,e=>by
  ext kf e;rw[Wm]at e;cases g:h.get? b with
  |none=>rw[g]at e;show uc e
  |some p=>
   rw[g]at e;simp only[VE,YH]at e;by_cases q:a=b
   ·subst q;rw[beq_self_eq_true]at e;cases e;show g
   ·rw[beq_eq_false_iff_ne.mpr q]at e;show uc e
theorem kf_in(h:Heap)(as:3e8):(kf h as).In h:=λ_ _ e=>uc e
theorem kf_at{h:Heap}{a:Addr}{o:Obj}(g:h.get? a=some o):∀{as:3e8},a∈as->(kf h as).lookup a=some o
 |[],m=>by cases m
 |b::as,m=>by
  ext kf;rw[Wm];by_cases q:a=b
  ·subst q;rw[g];simp
  ·have m':a∈as:=(Yd.mp m).resolve_left q
   cases g':h.get? b with
   |none=>show kf_at g m'
   |some p=>
    simp only[VE,YH];rw[beq_eq_false_iff_ne.mpr q];show kf_at g m'
def At(mg:2e5)(h:Heap)(as:3e8)(d:DefRec):Prop:=∃(a c:Addr)(o:Obj)(pm doc:Value),mg d.name=some (.ref a)/\h.get? a=some o/\o.data=.func (docDef d.name d.params d.body d.scope pm (.ref c) doc)/\h.CodeRec (.ref c) d.name/\a∈as/\c∈as
theorem DX{mg:2e5}{h:Heap}(O5:3e8):∀ds:List DefRec,(∀d∈ds,∃a o pm code doc,mg d.name=some (.ref a)/\h.get? a=some o/\o.data=.func (docDef d.name d.params d.body d.scope pm code doc)/\h.CodeRec code d.name)->
  ∃as:List Addr,(∀a∈O5,a∈as)/\∀d∈ds,At mg h as d
 |[],_=>⟨O5,λ_ m=>m,λ_ m=>nomatch m⟩
 |d::ds,T=>by
  obtain⟨as,h0,ih⟩:=DX O5 ds λe m=>T e (.tail _ m);obtain⟨a,o,pm,cd,doc,h1,h2,h3,h4⟩:=T d (.head _);obtain⟨c,oc,vs,t,rfl,r⟩:=h4;show⟨a::c::as,λb m=>.tail _ (.tail _ (h0 b m)),λe m=>?_⟩;rcases Yd.mp m with rfl|m
  ·show⟨a,c,o,pm,doc,h1,h2,h3,⟨c,oc,vs,t,rfl,r⟩,.head _,.tail _ (.head _)⟩
  ·obtain⟨a',c',o',pm',Vbc,q1,q2,q3,q4,q5,q6⟩:=ih e m
   show⟨a',c',o',pm',Vbc,q1,q2,q3,q4,.tail _ (.tail _ q5),.tail _ (.tail _ q6)⟩
def FnAt(K:Frag)(mg:2e5)(x:Str)(st:Stmt):Prop:=∃f fd,mg x=some (.ref f)/\eV K x x st f fd
noncomputable def four (d:DefRec):Str×Arguments×List Stmt×Scope:=(d.name,d.params,d.body,d.scope)
def CO(p:Str×Stmt):Str×Arguments×List Stmt×Scope:=(p.1,g9 p.2,en p.2,ay p.2)
theorem bL{mg:2e5}{h:Heap}{as:3e8}{ds:List DefRec}{zD:List (Str×Stmt)}(A:∀d∈ds,At mg h as d)(es:ds.map four=zD.map CO)(i:Nat){x:Str}{st:Stmt}(e:zD[i]? = some (x,st)):FnAt (kf h as) mg x st:=by
 have q:(ds.map four)[i]? = some (CO (x,st)):=by rw[es,YL,e];rfl
 obtain⟨d,e',q⟩:=Vh.mp ((YL ..).symm.trans q);obtain⟨n,ps,b,sc,p⟩:=d;obtain⟨rfl,q⟩:=Ut q;obtain⟨q1,q⟩:=Ut q;obtain⟨q2,q3⟩:=Ut q;dsimp only at q1 q2 q3;subst q1 q2 q3;obtain⟨a,c,o,pm,doc,h1,h2,h3,h4,h5,h6⟩:=A _ (YS e');obtain⟨c',oc,vs,t,e1,g,hd,hv⟩:=h4;cases e1;obtain⟨cl,dd,dt,sl⟩:=o;cases(show dt=_ from h3);have k1:=kf_at h2 h5;have k2:=kf_at g h6;show⟨a,_,h1,MW (oc:=cl) (od:=dd) (osl:=sl) (kV:=.none) (doc:=doc) (pm:=pm) (an:=none) (ct:=.none) (cdv:=.ref c) k1 ?_ ?_⟩
 ·obtain⟨ocl,odd,odt,osl⟩:=oc
  cases(show odt=_ from hd);ext codeIn;dsimp only;rw[k2];obtain⟨l⟩:=vs
  match l,hv with
  |_::v::r,hv=>
   cases(show v=_ by simpa using hv);simp
 ·ext keepIn
  dsimp only;rw[k1]
theorem oM{mg:2e5}{x:Str}{i:Int}(h:∃v,mg x=some v/\∀h':Heap,Reads h' v (.int i) []):∃t,mg x=some (.int i t):=by
 obtain⟨v,e,r⟩:=h;cases r default;show⟨_,e⟩
theorem Ah{mg:2e5}{x y:Str}(h:∃v,mg x=some v/\∀h':Heap,Reads h' v (.str y) []):∃t,mg x=some (.str y t):=by
 obtain⟨v,e,r⟩:=h;cases r default;show⟨_,e⟩
noncomputable def FH (names:6e2)(HK:3e8)(h:Heap):Option (List (Option (Option Value)))×List (Option Obj):=
 ((h.get? Xo).map λom=>names.map (nsIn [(Xo,om)] Xo),HK.map h.get?)
def Fw(names:6e2)(vals:List (Option (Option Value)))(HK:3e8)(Pw:Params->List Obj):Hook where
 α:=Option (List (Option (Option Value)))×List (Option Obj)
 obs:=λs=>FH names HK s.heap
 val:=λw=>(some vals,(Pw w.params).map some)
 says:=λw h=>(∃om,h.get? Xo=some om/\names.map (nsIn [(Xo,om)] Xo)=vals)/\HK.map h.get? = (Pw w.params).map some
 of:=λw s e=>by
  obtain⟨e1,e2⟩:=Ut e;obtain⟨om,g,e⟩:=Vh.mp e1;show⟨⟨om,g,e⟩,e2⟩
 keeps:=λw h h' ⟨⟨om,g,e⟩,e2⟩ k=>by
  show⟨⟨om,k _ _ g,e⟩,?_⟩;rw[←e2];show VI λa m=>?_;have:∃o,h.get? a=some o:=by
   have m2:h.get? a∈HK.map h.get?:=WW m;rw[e2]at m2;obtain⟨o,_,q⟩:=Yr.mp m2;show⟨o,q.symm⟩
  obtain⟨o,q⟩:=this;rw[q,k _ _ q]
theorem jf{h:Heap}{mg:2e5}(G:h.Ns Xo mg){names:6e2}{vals:List (Option (Option Value))}(Y:∃om,h.get? Xo=some om/\names.map (nsIn [(Xo,om)] Xo)=vals)(i:Nat){x:Str}{v:Value}
  (e1:names[i]? = some x) (e2:vals[i]? = some (some (some v))):mg x=some v:=by
 obtain⟨om,g,e⟩:=Y;show mg_of (K:=[(Xo,om)]) (λa o q=>?_) G ?_
 ·rw[YH]at q
  by_cases z:a=Xo
  ·subst z;rw[beq_self_eq_true]at q;cases q;show g
  ·rw[beq_eq_false_iff_ne.mpr z]at q;cases q
 ·rw[←e,YL,e1]at e2
  simpa using e2
theorem JQ{h:Heap}{HK:3e8}{Pw:List Obj}(e:HK.map h.get? = Pw.map some)(i:Nat){a:Addr}{o:Obj}(e1:HK[i]? = some a)(e2:Pw[i]? = some o):h.get? a=some o:=by
 have q:=congrArg (λl:List (Option Obj)=>l[i]?) e;simp only[YL,e1,e2,VE]at q;show YF q
noncomputable def M' (s:Stmt):Pos:=match s with
 |.FunctionDef _ _ _ _ _ _ _ _ _ p=>p
 |_=>⟨0,0,0,0⟩
noncomputable def ui (p:Ys)(loose:6e2)(x:Str):Bool:=startupNames.contains x||loose.contains x||((recsOf p).map (·.name)).contains x||((litsOf p).map (·.1)).contains x||((clssOf p loose).map (·.name)).contains x
theorem eI{p:Ys}{loose:6e2}{Vaz:ExcName->Option Value}{mg mb:2e5}{h:Heap}(T:Top p loose Vaz mg mb h){xs:6e2}(e:xs.all (λx=>!ui p loose x)=true)(i:Nat){x:Str}(hx:xs[i]? = some x):mg x=none:=by
 have q:=YB.mp e x (YS hx);ext ui q;simp only[Bool.not_or,Yg,Bool.not_eq_true',List.contains_eq_mem,decide_eq_false_iff_not]at q;show T.free x q.1.1.1.1 q.1.1.1.2 q.1.1.2 q.1.2 q.2
noncomputable def Al (K:Frag):Sp:=λvs H Q _=>∃(a:Addr)(ns:List Int),vs=[.ref a]/\fB K H a (ns.map V.int)/\ns.length<=63/\∀H',Q 12e4 H'
theorem mq{K:Frag}{ι:3e8}{H:Hp}:∀ns:List Int,ah K ι H (ns.map PV.int) (ns.map V.int)
 |[]=>by ext ah;rfl
 |n::ns=>by
  rw[Yz,Yz];ext ah;show⟨_,_,rfl,by ext Rep;rfl,mq ns⟩
theorem tq{K:Frag}{F:List SV->M SV}(hF:∀ns:List Int,ns.length<=63->F [.v (.lst 11e9)] []=some (.v 12e4,[]))(vs:List V)(H:Hp)(Q:VK)(E:XK)(h:Al K vs H Q E):ar K F vs H Q E:=by
 obtain⟨a,ns,rfl,hS,hl,hQ⟩:=h;show⟨[],[.v (.lst 11e9)],[],.v 12e4,[],⟨rfl,List.nodup_nil,λk a c e=>by cases e⟩,?_,hF ns hl,λv H' _ _ r=>?_⟩
 ·ext cb
  show⟨_,_,rfl,?_,by ext cb;rfl⟩;unfold cw Rep;show⟨a,_,rfl,?_,mq ns⟩;rcases hS with h|h
  ·show .inl ⟨YQ,h⟩
  ·show .inr h
 ·have e:v=.bl true:=by unfold cw Rep at r;show r
  subst e;show hQ H'
theorem walk{l:OpenLaw}{k:Nat}{q:Ys}{loose:6e2}{XP:(Str->Option Value)->Heap->Prop}{YP:World->Heap->Prop}{d:DefRec}(hn:l.most=some 63)(OX:d.params.defaults=[])(hr:dM k Uy)(O5:3e8)
  (F:∀(w:World)(s₀:Shared)(mg mb:2e5)(h:Heap)(as:3e8),Ground q loose [] XP w s₀ mg mb h->YP w h->(∀a∈O5,a∈as)->(∀d∈recsOf q,At mg h as d)->∀fa:Addr,mg d.name=some (.ref fa)->
   ∃fd:Yx,(∀(s:Shared)(u:Value),BindsTo s fd ⟨[u],[]⟩ [("_law_script",u)])/\∀base:Heap,aN l.prog w (kf h as) mg base bY k fa fd ["_law_script"] (Al (kf h as))):
  WalkO q loose XP YP l.row.toRowW d [] (λf vs=>PySem.call f vs):=by
 show Att.sv hn OX λw s₀ s₁ mg mb fa o pm cd doc a vs ns G Y ho hd rj Rx ME hints hlen hg=>?_;obtain⟨as,h0,A⟩:=DX O5 (recsOf q) G.T.fn;obtain⟨fd,hb,hF⟩:=F w s₀ mg mb _ as G Y h0 A fa Rx;show Co (kf_in s₁.heap as) G.T.g G.T.b G.T.builtins G.T.nolimit hg ME hints (YI hlen 1e2) hr (λbase _ _=>hF base) hb (λH hO hS=>⟨a,ns,rfl,hS,hlen,λ_=>rfl⟩) λH e s' z=>z
end Hd
namespace L2
open PySem PySem.Spec PyProof.Rows
abbrev GT:=TI×TG×TT
noncomputable abbrev lobj (aM:4e1)(k:Nat):Obj:={cls:=.type "list",data:=.seq aM.toArray k}
def xG(te:TE):List GT->List V->St->Hp->(St->List V->Hp->Prop)->Prop
  |[],ys,σ,H,N=>te σ H λy H4=>ys.length<=Yt/\N σ (ys++[y]) H4
  | (wi,g,tt)::rest,ys0,σ0,H0,N=>wi σ0 H0 λJ H1=>
    ∃W:Nat->Nat->St->List V->Hp->Prop,(∃m,W 0 m σ0 ys0 H1)/\∀i m σ ys H,W i m σ ys H->
      (J.stop i H/\N σ ys H)\/
      (J.go i H/\∃N1:St->List V->Hp->Prop,(∀σ2 EH H2,N1 σ2 EH H2->∃m',m'<m/\W (i+1) m' σ2 EH H2)/\∀x H',J.zS i H x H'->g x σ H' λσ2 H2=>tt σ2 H2 λb H3=>
        if b=true then xG te rest ys σ2 H3 N1 else N1 σ2 ys H3)
def ED(J:It)(g:TG)(tt:TT)(rest:List GT)(te:TE)(ys0:List V)(σ0:St)(H1:Hp)(N:St->List V->Hp->Prop):Prop:=
  ∃W:Nat->Nat->St->List V->Hp->Prop,(∃m,W 0 m σ0 ys0 H1)/\∀i m σ ys H,W i m σ ys H->
   (J.stop i H/\N σ ys H)\/
   (J.go i H/\∃N1:St->List V->Hp->Prop,(∀σ2 EH H2,N1 σ2 EH H2->∃m',m'<m/\W (i+1) m' σ2 EH H2)/\∀x H',J.zS i H x H'->g x σ H' λσ2 H2=>tt σ2 H2 λb H3=>
    if b=true then xG te rest ys σ2 H3 N1 else N1 σ2 ys H3)
inductive gV(Y:Cx):List Vf->List GT->Prop
 |nil:gV Y [] []
 |cons {t i:Expr} {ifs:List Expr} {gs:List Vf} {wi:TI} {g:TG} {tt:TT} {rs:List GT} (hI:PI Y t i wi) (hG:PG Y t g) (hT:zM Y ifs tt) (hs:∀x,Xj i Y.env x=pure x) (r:gV Y gs rs):gV Y (⟨t,i,ifs,0⟩::gs) ((wi,g,tt)::rs)
section
variable{prog:Ys}{w:World}{A:Around}{R:18e9}{s:Shared}{elt t i:Expr}{ifs:6e1}{gens:List Vf}{scope:Scope}{pos:Pos}{d:Nat}
theorem xM{it:Value}{env:Env}{α:Type}{P Q:Shared->Prop}{z:Shared}{fin:Sem α}{tl:Bool->Sem α}{G:α->Shared->Prop}(h0:∀z1,P z1->wpAny 5e0 A fin G (cX prog w A env R) z1)
  (h:wpAny 5e0 A (pyNext it) (λr z1=>match r with
   |none=>P z1
   |some v=>wpAny (model prog w) A (X3 t it v) (λ_ z2=>wpAny (model prog w) A (assign t env v) (λ_ z3=>wpAny (model prog w) A (jX env ifs) (λyes z4=>wpAny (model prog w) A (tl yes) G (cX prog w A env R) z4) (cX prog w A env R) z3) (cX prog w A env R) z2) (cX prog w A env R) z1) (cX prog w A env R) z):
  wpAny 5e0 A (do standAt i.pos;match←pyNext it with|none=>fin|some v=>do X3 t it v;assign t env v;let yes ←jX env ifs;tl yes) G (cX prog w A env R) z:=by
 apply Ya;apply WI;apply Ya;show Y4 h ?_ λ_ _ e=>e;rintro(_|v) z1 y1
 ·show h0 z1 y1
 apply Ya;show Y4 y1 (λ_ z2 y2=>?_) λ_ _ e=>e;apply Ya;show Y4 y2 (λ_ z3 y3=>?_) λ_ _ e=>e;apply Ya;show y3
theorem Zcw{it acc:Value}{env:Env}(hg:gens[d]? = some ⟨t,i,ifs,0⟩)(step:(Shared->Prop)->Shared->Prop)
  (Rk:(gens[d+1]? = none/\∀P s,step P s->wpAny 5e0 A (eval elt env) (λx s₄=>wpAny 5e0 A (call (.builtin "list.append") [acc,x]) (λ_ s₅=>P s₅) (cX prog w A env R) s₄) (cX prog w A env R) s)\/
   ∃t1 i1 yP,gens[d+1]? = some ⟨t1,i1,yP,0⟩/\(∀x,Xj i1 env x=pure x)/\∀P s,step P s->wpAny 5e0 A (eval i1 env) (λx s₃=>wpAny 5e0 A (pyIter x) (λit' s₄=>
      Wo (model prog w) A (.compStart (.ListComp elt gens scope pos) (d+1) it' acc env) (λr s₅=>match r with|.ok _=>P s₅ | .error _=>False) s₄)
      (cX prog w A env R) s₃) (cX prog w A env R) s)
  (I:Nat->Shared->Prop)
  (turn:∀k z,I k z->wpAny 5e0 A (pyNext it) (λr z1=>match r with
   |none=>R (.ok .next) z1
   |some v=>wpAny 5e0 A (X3 t it v) (λ_ z2=>wpAny 5e0 A (assign t env v) (λ_ z3=>wpAny 5e0 A (jX env ifs) (λyes z4=>
     if yes=true then step (λz5=>∃m,m<k/\I m z5) z4 else ∃m,m<k/\I m z4) (cX prog w A env R) z3) (cX prog w A env R) z2) (cX prog w A env R) z1) (cX prog w A env R) z)
  (n:Nat) (h:I n s):Wo 5e0 A (.compLoop 17e6 d it acc env) R s:=by
 show codeAny_loop rfl I ?_ n h;intro k z hz;apply wpAny_noted
 delta compTurn
 rcases Rk with⟨hn,yQ⟩|⟨t1,i1,yP,hn,EO,yQ⟩
 all_goals
  simp only[hg,hn];show xM (P:=λz1=>R (.ok .next) z1) (Q:=λ_=>True) (λz1 y=>Ye y) (Y4 (turn k z hz) ?_ λ_ _ e=>e);rintro(_|v) z1 y1
  ·show y1
  show Y4 y1 (λ_ z2 y2=>Y4 y2 (λ_ z3 y3=>Y4 y3 (λyes z4 y4=>?_) λ_ _ e=>e) λ_ _ e=>e) λ_ _ e=>e;by_cases b:yes=true
  case neg=>
   have nb:yes=false:=by simpa using b
   subst nb;show Ye ⟨rfl,y4⟩
  subst b;have y5:=yQ _ _ (show step _ z4 from y4)
 ·apply Ya
  apply Ya;show Y4 y5 (λx z5 y6=>?_) λ_ _ e=>e;apply Ya;show Y4 y6 (λ_ z6 y7=>Ye (Ye ⟨rfl,y7⟩)) λ_ _ e=>e
 ·apply Ya
  show Y4 y5 (λx z5 y6=>?_) λ_ _ e=>e;apply Ya;apply WI;rw[EO];apply Ya;apply Ye;apply Ya;apply Xs;show Y4 y6 (λj z6 y7=>?_) λ_ _ e=>e;apply Ya;show wpAny_runOwn (Ub y7 ?_);rintro(e|f) z7 y8
  ·show y8.elim
  ·show Ye ⟨rfl,y8⟩
theorem Zdt{it acc:Value}{env:Env}(hg:gens[d]? = some ⟨t,i,ifs,0⟩)
  (h0:Wo 5e0 A (.compLoop 17e6 d it acc env) R s)
  (h:wpAny 5e0 A (pyIter it) (λj z=>Wo 5e0 A (.compLoop 17e6 d j acc env) R z) (cX prog w A env R) s):
  Wo 5e0 A (.compStart 17e6 d it acc env) R s:=by
 have cl:(clausesOf 17e6)[d]? = some ⟨t,i,ifs,0⟩:=hg;show codeAny_of_tree (wpAny_notedAt ?_)
 delta compStart
 simp only[cl];show Ya (m:=ask) (wpAny_askSetting (wpAny_ite ?_));split
 ·first
   |show Ye ⟨rfl,h0⟩
   |show Ya (Ye (Ye ⟨rfl,h0⟩))
 ·show Ya (VC ?_)
  show Ya (m:=standAt _) (WI (Ya (Y4 h ?_ λ_ _ e=>e)));show λj z y=>Ye ⟨rfl,y⟩
end
section
variable{Y:Cx}{elt:Expr}{gens:List Vf}{scope:Scope}{pos:Pos}{te:TE}{D:Addr}
theorem runN(eC:Y.calm=true)(eX:Y.xe=λ_ _=>False)(hE:PE Y elt te)(hDl:D≠Y.env.locals)(hDf:D∉Y.fs)(hDe:D∈Y.ex\/Y.s₀.heap.objs.size<=D)(hDc:∀x c,Y.env.cells.lookup x=some c->c≠D)(hDp:∀p∈Y.pn,p.1≠D):
  ∀(rest:List GT)(d:Nat)(t i:Expr)(ifs:6e1)(g:TG)(tt:TT),gens[d]? = some ⟨t,i,ifs,0⟩->PG Y t g->zM Y ifs tt->gV Y (gens.drop (d+1)) rest->
  ∀(pl:2e2)(J:It)(it:Addr)(fp:3e8)(tn:Nat->Heap->Prop)(ys:List V)(aM:4e1)(k:Nat)(σ:St)(H:Hp)(s:Shared)(N:St->List V->Hp->Prop)(R:18e9),
   (∀p∈pl,p.1≠D)->Turn Y.prog Y.w Y.K t J fp it tn->ED J g tt rest te ys σ H N->Inv Y ((D,lobj aM k)::pl) σ H s->Vals ys aM->tn 0 s.heap->(∀b∈fp,fe Y ((D,lobj aM k)::pl) H b)->
   (∀σ' je its' k' H' s',Inv Y ((D,lobj its' k')::pl) σ' H' s'->Vals je its'->N σ' je H'->R (.ok .next) s')->
   Wo (model Y.prog Y.w) Y.A (.compStart 17e6 d (.ref it) (.ref D) Y.env) R s:=by
 intro rest;induction rest with
 |nil=>
  intro d t i ifs g tt hg hG hT ET pl J it fp tn ys aM k σ H s N R eN T q I rv st f1 hR;have hn:gens[d+1]? = none:=by
   generalize hz:gens.drop (d+1)=z at ET;cases ET;have:gens.length<=d+1:=by simpa using hz
   show Yf.mpr this
  obtain⟨W,⟨m0,w0⟩,turn⟩:=q;have G9:∀b∈fp,b≠D:=λb hb=>Xp ((f1 b hb).2.2.2.2.2 (D,lobj aM k) (Ym _ YR));have gM:∀{H':Hp}{its':4e1}{k':Nat},13e4->∀b∈fp,fe Y ((D,lobj its' k')::pl) H' b:=λ{H' its' k'} hn b hb=>by
   obtain⟨a0,a1,a2,a3,a4,a5⟩:=f1 b hb;show⟨hn b hb,a1,a2,a3,a4,λp hp=>?_⟩;rcases Yy.mp hp with hp|hp
   ·show a5 p (YM _ hp)
   ·rcases Yd.mp hp with rfl|hp
    ·show Xp (G9 b hb)
    ·show a5 p (Ym _ (YG _ hp))
  have loop:Wo (model Y.prog Y.w) Y.A (.compLoop 17e6 d (.ref it) (.ref D) Y.env) R s:=by
   show Zcw hg (λP s=>wpAny (model Y.prog Y.w) Y.A (eval elt Y.env) (λx s₄=>wpAny (model Y.prog Y.w) Y.A (call (.builtin "list.append") [.ref D,x]) (λ_ s₅=>P s₅) (cX Y.prog Y.w Y.A Y.env R) s₄) (cX Y.prog Y.w Y.A Y.env R) s) (.inl ⟨hn,λP s h=>h⟩)
    (λn s'=>∃i σ' je its' k' H',Inv Y ((D,lobj its' k')::pl) σ' H' s'/\Vals je its'/\tn i s'.heap/\13e4/\W i n σ' je H') ?_ m0
    ⟨0,σ,ys,aM,k,H,I,rv,st,λb hb=>(f1 b hb).1,w0⟩
   rintro n s3 ⟨i,σ3,Fo,oJ,k3,H3,J3,HR,jh,m7,w3⟩;rcases turn i n σ3 Fo H3 w3 with⟨stop,qn⟩|⟨go,N1,hN,step⟩
   ·show nE (T.done Y rfl rfl rfl eC i _ s3 σ3 H3 (λ_ _=>False) J3 (gM m7) jh stop) λr s4 h_=>?_
    obtain⟨hr,J4⟩:=h_;subst hr;show hR σ3 Fo oJ k3 H3 s4 J4 HR qn
   ·show nE (T.item Y rfl rfl rfl eC i _ s3 σ3 H3 (λ_ _=>False) J3 (gM m7) jh go) λr s4 h_=>?_
    obtain⟨u,hr,h4⟩:=h_;subst hr;show nE h4 λ_ s5 h_=>?_;obtain⟨x,H5,J5,r5,y5,lL,MX⟩:=h_;have TN:=J5.pinned (gM MX) (T.obj _ _ lL);have IB:=hG _ s5 σ3 H5 x u _ TN r5 (step x H5 y5);rw[eX]at IB;show nE IB λ_ s6 h_=>?_;obtain⟨σ6,H6,J6,q6⟩:=h_;have go2:=hT _ s6 σ6 H6 _ J6 q6;rw[eX]at go2;show nE go2 λok s7 h_=>?_;obtain⟨H7,J7,q7⟩:=h_;have fin:∀{σ8:St}{H8:Hp}{s8:Shared},Inv Y (((D,lobj oJ k3)::pl)++gb fp s5.heap) σ8 H8 s8->
      tn (i+1) s8.heap/\(∀b∈fp,H8 b=none):=λ{σ8 H8 s8} J8=>by
     show⟨T.keep _ _ _ lL λb hb o e=>(J8.pin (b,o) (Ym _ (Ym _ (Jc hb e)))).1,λb hb=>?_⟩;obtain⟨o,e,d⟩:=T.obj _ _ lL b hb;show(J8.pin (b,o) (Ym _ (Ym _ (Jc hb e)))).2.1
    cases ok with
    |false=>
     rw[if_neg Yi]at q7⊢;obtain⟨m',hm,w7⟩:=hN _ _ _ q7;show⟨m',hm,i+1,σ6,Fo,oJ,k3,H7,J7.fM,HR,(fin J7).1,(fin J7).2,w7⟩
    |true=>
     rw[if_pos rfl]at q7⊢;have IA:=hE _ s7 σ6 H7 _ J7 q7;rw[eX]at IA;show nE IA λyv s8 h_=>?_;obtain⟨y,H8,J8,r8,hlen,n8⟩:=h_;obtain⟨m',hm,w8⟩:=hN _ _ _ n8;have pD8:=J8.pin (D,lobj oJ k3) (Ym _ (YM _ YR));show append_at (hsz:=by rw[Yn,←HR.length];show hlen) pD8.1 λh9 hs9 hD9=>?_;have Jp:Inv Y pl σ6 H8 s8:=J8.g6 λp hp=>J8.pin p (Ym _ (YM _ (YG _ hp)));have J9:Inv Y pl σ6 H8 {s8 with heap:=h9}:=Jp.turned (t':=s8.toks) (λb o hb e=>(hs9.2 b hb).trans e) pD8.2.1 hDl hDe hDc λp hp=>by
      rcases Yy.mp hp with hp|hp
      ·show hDp p hp
      ·show eN p hp
     show⟨m',hm,i+1,σ6,Fo++[y],oJ++[yv],k3+1,H8,J9.g6 λp hp=>?_,Vals.append HR (.cons r8 .nil),?_,(fin J8).2,w8⟩
     ·rcases Yd.mp hp with rfl|hp
      ·show⟨by change h9.get? D=_;rw[hD9,List.push_toArray],pD8.2.1,hDl,hDf,λv z=>by cases z⟩
      ·show J9.pin p (Ym _ hp)
     ·show T.keep _ _ _ (fin J8).1 λb hb o e=>(hs9.2 b (G9 b hb)).trans e
  show Zdt hg loop (T.self _ 0 _ _ _ st loop)
 |cons r rest ih=>
  intro d t i ifs g tt hg hG hT ET pl J it fp tn ys aM k σ H s N R eN T q I rv st f1 hR;generalize hz:gens.drop (d+1)=z at ET;cases ET with
  |@cons t1 i1 yP gs1 wi1 g1 tt1 _ hI1 hG1 hT1 EO r1=>
  have hn:gens[d+1]? = some ⟨t1,i1,yP,0⟩:=by
   have:=congrArg (λl=>l[0]?) hz;simpa using this
  have VaV:gens.drop (d+1+1)=gs1:=by
   have:=congrArg (λl=>l.drop 1) hz;simpa[List.drop_drop,Nat.add_comm]using this
  obtain⟨W,⟨m0,w0⟩,turn⟩:=q;have G9:∀b∈fp,b≠D:=λb hb=>Xp ((f1 b hb).2.2.2.2.2 (D,lobj aM k) (Ym _ YR));have gM:∀{H':Hp}{its':4e1}{k':Nat},13e4->∀b∈fp,fe Y ((D,lobj its' k')::pl) H' b:=λ{H' its' k'} hn b hb=>by
   obtain⟨a0,a1,a2,a3,a4,a5⟩:=f1 b hb;show⟨hn b hb,a1,a2,a3,a4,λp hp=>?_⟩;rcases Yy.mp hp with hp|hp
   ·show a5 p (YM _ hp)
   ·rcases Yd.mp hp with rfl|hp
    ·show Xp (G9 b hb)
    ·show a5 p (Ym _ (YG _ hp))
  have loop:Wo (model Y.prog Y.w) Y.A (.compLoop 17e6 d (.ref it) (.ref D) Y.env) R s:=by
   show Zcw hg (λP s=>wpAny (model Y.prog Y.w) Y.A (eval i1 Y.env) (λx s₃=>wpAny (model Y.prog Y.w) Y.A (pyIter x) (λit' s₄=>
      Wo (model Y.prog Y.w) Y.A (.compStart (.ListComp elt gens scope pos) (d+1) it' (.ref D) Y.env) (λr s₅=>match r with|.ok _=>P s₅ | .error _=>False) s₄)
      (cX Y.prog Y.w Y.A Y.env R) s₃) (cX Y.prog Y.w Y.A Y.env R) s) (.inr ⟨t1,i1,yP,hn,EO,λP s h=>h⟩)
    (λn s'=>∃i σ' je its' k' H',Inv Y ((D,lobj its' k')::pl) σ' H' s'/\Vals je its'/\tn i s'.heap/\13e4/\W i n σ' je H') ?_ m0
    ⟨0,σ,ys,aM,k,H,I,rv,st,λb hb=>(f1 b hb).1,w0⟩
   rintro n s3 ⟨i,σ3,Fo,oJ,k3,H3,J3,HR,jh,m7,w3⟩;rcases turn i n σ3 Fo H3 w3 with⟨stop,qn⟩|⟨go,N1,hN,step⟩
   ·show nE (T.done Y rfl rfl rfl eC i _ s3 σ3 H3 (λ_ _=>False) J3 (gM m7) jh stop) λr s4 h_=>?_
    obtain⟨hr,J4⟩:=h_;subst hr;show hR σ3 Fo oJ k3 H3 s4 J4 HR qn
   ·show nE (T.item Y rfl rfl rfl eC i _ s3 σ3 H3 (λ_ _=>False) J3 (gM m7) jh go) λr s4 h_=>?_
    obtain⟨u,hr,h4⟩:=h_;subst hr;show nE h4 λ_ s5 h_=>?_;obtain⟨x,H5,J5,r5,y5,lL,MX⟩:=h_;have TN:=J5.pinned (gM MX) (T.obj _ _ lL);have IB:=hG _ s5 σ3 H5 x u _ TN r5 (step x H5 y5);rw[eX]at IB;show nE IB λ_ s6 h_=>?_;obtain⟨σ6,H6,J6,q6⟩:=h_;have go2:=hT _ s6 σ6 H6 _ J6 q6;rw[eX]at go2;show nE go2 λok s7 h_=>?_;obtain⟨H7,J7,q7⟩:=h_;have fin:∀{its':4e1}{k':Nat}{σ8:St}{H8:Hp}{s8:Shared},Inv Y ((D,lobj its' k')::(pl++gb fp s5.heap)) σ8 H8 s8->
      tn (i+1) s8.heap/\(∀b∈fp,H8 b=none):=λ{its' k' σ8 H8 s8} J8=>by
     show⟨T.keep _ _ _ lL λb hb o e=>(J8.pin (b,o) (Ym _ (YG _ (Ym _ (Jc hb e))))).1,λb hb=>?_⟩;obtain⟨o,e,d⟩:=T.obj _ _ lL b hb;show(J8.pin (b,o) (Ym _ (YG _ (Ym _ (Jc hb e))))).2.1
    have un:∀{its':4e1}{k':Nat}{σ8:St}{H8:Hp}{s8:Shared},Inv Y ((D,lobj its' k')::(pl++gb fp s5.heap)) σ8 H8 s8->Inv Y ((D,lobj its' k')::pl) σ8 H8 s8:=λ{its' k' σ8 H8 s8} J8=>J8.g6 λp hp=>J8.pin p (Ym _ (by
     rcases Yd.mp hp with rfl|hp
     ·show YR
     ·show YG _ (YM _ hp)))
    cases ok with
    |false=>
     rw[if_neg Yi]at q7⊢;obtain⟨m',hm,w7⟩:=hN _ _ _ q7;show⟨m',hm,i+1,σ6,Fo,oJ,k3,H7,un J7,HR,(fin J7).1,(fin J7).2,w7⟩
    |true=>
     rw[if_pos rfl]at q7⊢;have IA:=hI1 _ s7 σ6 H7 _ J7 q7;rw[eX]at IA;show nE IA λxv s8 h8=>nE h8 λOH s9 h9=>?_;obtain⟨qV,fp1,tn1,J1,H9,e9,J9,T1,st9,f9,q9⟩:=h9;subst e9;show ih (d+1) t1 i1 yP g1 tt1 hn hG1 hT1 (by rw[VaV];show r1) (pl++gb fp s5.heap) J1 qV fp1 tn1 Fo oJ k3 σ6 H9 s9 N1 _ (λp hp=>?_) T1 q9 J9 HR st9 f9 λσ' je its' k' H' s' J' rv' n'=>?_
     ·rcases Yy.mp hp with hp|hp
      ·show eN p hp
      ·show G9 _ (mD hp).1
     ·obtain⟨m',hm,w'⟩:=hN _ _ _ n'
      show⟨m',hm,i+1,σ',je,its',k',H',un J',rv',(fin J').1,(fin J').2,w'⟩
  show Zdt hg loop (T.self _ 0 _ _ _ st loop)
end
section
variable{X:Cx}{tg elt iter:Expr}{ifs:6e1}{gs:List Vf}{scope:Scope}{pos:Pos}{vs fs:6e2}{fr:12e9}{g:TG}{tt:TT}{te:TE}{rest:List GT}
def EA(J:It)(vs:6e2)(fr:12e9)(g:TG)(tt:TT)(rest:List GT)(te:TE)(σ:St)(H1:Hp)(Q:VK):Prop:=
 ED J g tt rest te [] (jO vs fr σ) H1 λ_ ys H=>ys.length<=Yt/\∀D,H D=none->Q (.ref D) (upd H D (.lst ys))
theorem Zdr{pins:2e2}{σ:St}{H:Hp}{s:Shared}{Q:VK}{it:Addr}{fp:3e8}{tn:Nat->Heap->Prop}{J:It}{RR:Value->Addr->Result->Shared->Prop}
  (S:12e3) (hc:11e1)
  (bG:∀C s₀ H₀ ex pn,PG 2e0 tg g) (bT:∀C s₀ H₀ ex pn,zM 2e0 ifs tt) (bR:∀C s₀ H₀ ex pn,gV 2e0 gs rest) (bE:∀C s₀ H₀ ex pn,PE 2e0 elt te)
  (I:2e4) (T:Turn X.prog X.w X.K tg J fp it tn) (st:tn 0 s.heap) (hf:∀b∈fp,fe X pins H b)
  (q:EA J vs fr g tt rest te σ H Q)
  (hRR:∀D C H' s' m',Inv X pins σ H' s'->Q (.ref D) H'->s'.heap.Ns C m'->H' C=none->s.heap.objs.size<=C->RR (.ref D) C (.ok .next) s'):
  wpAny 3e6 X.A (newList []) (λacc s₃=>wpAny 3e6 X.A (newFunctionEnv scope X.env.globals (cv X.env.cells scope.names []) [] X.env.qual none .none (some X.env)) (λDC s₄=>
   Wo (model X.prog X.w) X.A (.compStart (.ListComp elt (⟨tg,iter,ifs,0⟩::gs) scope pos) 0 (.ref it) acc {DC with scope:=relabel scope X.env}) (RR acc DC.locals) s₄) X.xe s₃) X.xe s:=by
 show Xz (wpAny_newFunctionEnv S.DF (by intro y hy;simp at hy) (λh₁ hns₁ hsb₁=>?_) S.kind);dsimp only at hns₁ hsb₁⊢;generalize OY:s.heap.push {cls:=.type "list",dict:=none,data:=.seq ([]:List Value).toArray}=H2 at hns₁ hsb₁⊢;have hCs:H2.objs.size=s.heap.objs.size+1:=by rw[←OY,Wv]
 have OZ:s.heap.objs.size≠H2.objs.size:=by rw[hCs];show Yp (Nat.lt_succ_self _)
 have G6:s.heap.objs.size<=H2.objs.size:=by rw[hCs];show Nat.le_succ _
 have old:∀b o,s.heap.get? b=some o->h₁.get? b=some o:=λb o e=>hsb₁.extBut b o (zx e G6) (Yb _ (OY▸Yb _ e));have Va2:h₁.get? s.heap.objs.size=some {cls:=.type "list",data:=.seq ([]:List Value).toArray 0}:=hsb₁.extBut _ _ OZ (Yb _ (OY▸Yw _ rfl));have Iw:∀b∈fp,∃o,s.heap.get? b=some o:=λb hb=>by obtain⟨o,e,_⟩:=T.obj 0 _ st b hb;show⟨o,e⟩
 generalize hY:iJ X (vs++fs) scope H2.objs.size s H fp (X.pn++pins)=Y;have J0:Inv Y [] (jO vs fr σ) H {s with heap:=h₁,toks:=s.toks+([]:List (Str×Value)).length}:=by
  rw[←hY];show ZdO S I hf Iw G6 hns₁ old
 have hG:PG Y tg g:=by rw[←hY];show bG _ _ _ _ _
 have hGs:gV Y gs rest:=by rw[←hY];show bR _ _ _ _ _
 have hT:zM Y ifs tt:=by rw[←hY];show bT _ _ _ _ _
 have hE:PE Y elt te:=by rw[←hY];show bE _ _ _ _ _
 have IG:Y.prog=X.prog:=by rw[←hY];rfl
 have eW:Y.w=X.w:=by rw[←hY];rfl
 have eK:Y.K=X.K:=by rw[←hY];rfl
 have eA:Y.A=X.A:=by rw[←hY];rfl
 have eC:Y.calm=true:=by rw[←hY];show hc
 have uY:Y.env=compEnvC scope (cv X.env.cells scope.names []) H2.objs.size X.env:=by rw[←hY];rfl
 have eL:Y.env.locals=H2.objs.size:=by rw[uY];rfl
 have eX:Y.xe=λ_ _=>False:=by rw[←hY];rfl
 have eS:Y.s₀=s:=by rw[←hY];rfl
 have eEx:Y.ex=fp:=by rw[←hY];rfl
 have eFs:Y.fs=ux X.stack:=by rw[←hY];rfl
 have ePn:Y.pn=X.pn++pins:=by rw[←hY];rfl
 have eCl:∀x c,Y.env.cells.lookup x=some c->X.env.cells.lookup x=some c:=λx c e=>by
  rw[uY]at e;show S.cl I.ok e
 have DE:∀x c,Y.env.cells.lookup x=some c->c≠s.heap.objs.size:=λx c e=>by
  obtain⟨v,z⟩:=I.cell x c (eCl x c e);show Yp z.lt
 have Vas:∀p∈Y.pn,p.1≠s.heap.objs.size:=λp hp=>by
  rw[ePn]at hp;show zx (I.pin p hp).1 (Yl _)
 have G9:∀b∈fp,b≠s.heap.objs.size:=λb hb=>by obtain⟨o,e⟩:=Iw b hb;show zx e (Yl _)
 have RU:s.heap.objs.size∉Y.fs:=λz=>by
  rw[eFs]at z;rcases Yd.mp (I.jg _ z)with z|z
  ·show absurd I.lt (by rw[←z];show XZ _)
  ·show I.Qr (Yl _) z
 have gM:∀{H':Hp}{o:Obj},13e4->∀b∈fp,fe Y [(s.heap.objs.size,o)] H' b:=λ{H' o} hn b hb=>by
  obtain⟨f0,f1,f2,f3,f4,f5⟩:=hf b hb;obtain⟨ob,e⟩:=Iw b hb;show⟨hn b hb,by rw[eL];show zx e G6,λz=>?_,.inl (by rw[eEx];show hb),λx c e=>f4 x c (eCl x c e),λp hp=>?_⟩
  ·rw[eFs]at z
   rcases Yd.mp (I.jg _ z)with z|z
   ·show f1 z
   ·show f2 z
  ·rcases Yy.mp hp with hp|hp
   ·rw[ePn]at hp;show f5 p hp
   ·have:p=(s.heap.objs.size,o):=by simpa using hp
    rw[this];show Xp (G9 b hb)
 have Vat:∀{σ':St}{H':Hp}{s':Shared}{aM:4e1}{k:Nat},Inv Y [] σ' H' s'->H' s.heap.objs.size=none->s'.heap.get? s.heap.objs.size=some {cls:=.type "list",data:=.seq aM.toArray k}->
   Inv Y [(s.heap.objs.size,{cls:=.type "list",data:=.seq aM.toArray k})] σ' H' s':=λ{σ' H' s' aM k} i hn e=>i.g6 λp hp=>by
  have:p=(s.heap.objs.size,{cls:=.type "list",data:=.seq aM.toArray k}):=by simpa using hp
  subst this;show⟨e,hn,by rw[eL];show OZ,RU,λv z=>by cases z⟩
 have T':Turn Y.prog Y.w Y.K tg J fp it tn:=by rw[IG,eW,eK];show T
 have run:∀s₃:Shared,s₃={s with heap:=h₁,toks:=s.toks+([]:List (Str×Value)).length}->
   Wo 3e6 X.A (.compStart (.ListComp elt (13e1::gs) scope pos) 0 (.ref it) 11e4 (compEnvC scope (cv X.env.cells scope.names []) H2.objs.size X.env))
    (RR 11e4 H2.objs.size) s₃:=by
  rintro s₃ rfl;rw[←uY,←IG,←eW,←eA];show runN (gens:=13e1::gs) (D:=s.heap.objs.size) eC eX hE (by rw[eL];show OZ) RU (.inr (by rw[eS];show Yl _)) DE Vas rest 0 tg iter ifs g tt rfl hG hT hGs [] J it fp tn [] [] 0 (jO vs fr σ) H _ _ _ (λp hp=>(nomatch hp)) T' q (Vat J0 (I.bV.fresh (Yl _)) Va2) .nil (T.keep _ _ _ st λb _ o e=>old b o e) (gM λb hb=>(hf b hb).1) λσ' ys aM k H3 s4 J4 rv qn=>?_;have pD4:=J4.pin (s.heap.objs.size,_) (Ym _ (Yj.mpr rfl));obtain⟨m4,Ry,_⟩:=id J4.loc;rw[eL]at Ry;have nC:H3 H2.objs.size=none:=by rw[←eL];show J4.free
  show hRR _ _ _ s4 m4 (comp_back I hf (by rw[hY];show J4) (Yl _) pD4.2.1 qn.1 rv pD4.1) (qn.2 _ pD4.2.1) Ry ?_ G6;rw[dH (Xp OZ)];show nC
 show run _ rfl
def tj(wi:TI)(vs:6e2)(fr:12e9)(g:TG)(tt:TT)(rest:List GT)(te:TE):TE:=λσ H Q=>wi σ H λJ H1=>EA J vs fr g tt rest te σ H1 Q
theorem BI{wi:TI}(S:12e3)(hc:11e1)(hi:PI X tg iter wi)
  (bG:∀C s₀ H₀ ex pn,PG 2e0 tg g) (bT:∀C s₀ H₀ ex pn,zM 2e0 ifs tt) (bR:∀C s₀ H₀ ex pn,gV 2e0 gs rest) (bE:∀C s₀ H₀ ex pn,PE 2e0 elt te)
  (hs:16e3:=by intro _;rfl):
  PE X (.ListComp elt (13e1::gs) scope pos) (tj wi vs fr g tt rest te):=by
 sleep 7;rw[eval_ListComp];show WZ (use:=none) rfl hs (ZcI (S.Ho I.ok)) S.kind S.L' (cF (hi pins s σ H _ I h) λv s1 h1=>cF h1 λOH s2 h2=>?_);obtain⟨it,fp,tn,J,H2,e,I2,T,st2,f2,q2⟩:=h2;subst e;show Zdr (RR:=λacc C=>compPost 3e6 X.A X.xe none 15e2 acc C) S hc bG bT bR bE I2 T st2 f2 q2 ?_;intro D C H' s' m' I' hq hn hC hle;show⟨m',hn,λh' qY=>⟨.ref D,H',?_,rfl,hq⟩⟩;show I'.turned (t':=s'.toks) (λb o hb e=>(qY.2 b hb).trans e) hC ?_ (.inr (YI I2.sz hle)) ?_ ?_
 ·show XI (Yu I2.lt hle)
 ·intro x c e
  obtain⟨v,z⟩:=I2.cell x c e;show Yp (Yu z.lt hle)
 ·intro p hp
  show zx (I2.pin p hp).1 hle
end
end L2
namespace Pu
open PySem PySem.Spec PySem.W PySem.Calls L2
open PyProof.Rows hiding St Fr strKind
open PySem.Builtin.Str (partsBetween occurrences strKind)
noncomputable def Gn (i:Int):Str:=Wl (toString i)
theorem BP{i:Int}(h:i.natAbs.log2<1920):(Gn i).length<=sizeLine:=int_text_fits h
section
variable{X:Cx}{e:Expr}{es:6e1}{f:4e5}{fs:2e8}{p pos:Pos}
def Vbq:List PV->Option PV
 |[.int i]=>if i.natAbs.log2<1920 then some (.str (Gn i))else none
 |[.str y]=>some (.str y)
 |_=>none
noncomputable def Vbl:List PV->Option PV
 |[.str x]=>if x.length<=640 then(PySem.intText? x).map .int else none
 |_=>none
variable{o:Expr}{fo:4e5}{apos dg:Pos}
noncomputable def So:Str->List SV->Option Str
 |out,[]=>some out
 |out,.v (.str y)::r=>if(out++y).length<=1000000 then So (out++y) r else none
 |_,_=>none
def JM(X:Cx)(es:6e1)(fs:2e8):Prop:=∀(pins:2e2)(s:Shared)(σ:St)(H:Hp)(Q:VK)(out:Str),L2.Inv X pins σ H s->
 (∃ι ρ C xs C' z,SR X.K ι H ρ σ C/\fs ρ C=some (xs,C')/\So out xs=some z/\out.length<=1000000/\∀H',Pu.Fr ι H H'->CR X.K ι H' C'->Rep X.K ι H' (.str z) (.str z)->Q (.str z) H')->
 wpAny 3e6 X.A (joinParts out (evalEach es X.env)) 15e2 X.xe s
end
end Pu
namespace Sn
open PySem PySem.Spec PySem.SetTable Pu L2
open Sem (wp)
mutual
noncomputable def m6 (w:World):PV->Int
 |.int i=>GJ w (.inl i)
 |.str x=>GJ w (.inr x)
 |.tup ps=>reduceHash (Builtin.Tuple.tupleHashOf (jl w ps))
 |_=>0
noncomputable def jl (w:World):List PV->List Int
 |[]=>[]
 |p::ps=>m6 w p::jl w ps
end
mutual
noncomputable def ju:PV->Nat
 |.tup ps=>kd ps+1
 |_=>1
noncomputable def kd:List PV->Nat
 |[]=>0
 |p::ps=>ju p+kd ps
end
theorem fP{p:PV}{ps:List PV}:bC (p::ps)=true↔bM p=true/\bC ps=true:=by
 rw[bC,Yg]
theorem nc{p:PV}{ps:List PV}{n:Nat}:cq (p::ps)<=n↔dep p<=n/\cq ps<=n:=by
 rw[cq,Nat.max_le]
theorem shape{h:Heap}{p:PV}{v:Value}(hp:bM p=true)(hr:af h p v):(carriedByValue v=true/\dep p=0/\∃k:Key,iT k v=true/\(∀w,m6 w p=GJ w k)/\ju p=1)\/∃ps a us,p=.tup ps/\v=.ref a/\h.IsTuple a us.toArray/\aA h ps us/\bC ps=true:=by
 cases p with
 |int i=>
  ext af hr;obtain⟨t,rfl⟩:=hr;show .inl ⟨rfl,rfl,.inl i,mU i t,λw=>rfl,rfl⟩
 |str x=>
  ext af hr;obtain⟨t,rfl⟩:=hr;show .inl ⟨rfl,rfl,.inr x,mT x t,λw=>rfl,rfl⟩
 |tup ps=>
  ext af hr;obtain⟨a,us,rfl,ht,hs⟩:=hr;ext bM hp;show .inr ⟨ps,a,us,rfl,rfl,ht,hs,hp⟩
 |_=>simp[bM]at hp
section
variable{prog:Ys}{w:World}{A:Around}{E:1e6}{s:Shared}
theorem xc{h:Heap}{n:Nat}:∀{ps:List PV}{us:4e1},aA h ps us->bC ps=true->cq ps<=n->∀v∈us,∃q,af h q v/\bM q=true/\dep q<=n
 |[],us,r,_,_,v,hv=>by rw[aA]at r;subst r;cases hv
 |p::ps,us,r,x,y,v,hv=>by
  rw[aA]at r;obtain⟨u,Ot,rfl,r1,r2⟩:=r;rw[fP]at x;rw[nc]at y;cases hv with
  |head=>show⟨p,r1,x.1,y.1⟩
  |tail _ hv=>show xc r2 x.2 y.2 v hv
theorem Bl:∀(n:Nat)(p:PV)(v:Value)(Q:18e1),bM p=true->dep p<=n->af s.heap p v->Q true s->wpAny 5e0 A (eqIsQuiet n v) Q E s
 |0,p,v,Q,hp,hd,hr,h=>by
  rcases shape hp hr with⟨hv,_⟩|⟨ps,a,us,rfl,_⟩
  ·rw[eqIsQuiet_byValue _ hv];show Ye h
  ·rw[dep]at hd;lia
 |n+1,p,v,Q,hp,hd,hr,h=>by
  rcases shape hp hr with⟨hv,_⟩|⟨ps,a,us,rfl,rfl,ht,hs,wx⟩
  ·rw[eqIsQuiet_byValue _ hv];show Ye h
  ·obtain⟨o,b1,b2,c,b3⟩:=id ht
   have ty:s.TypeIs (.ref a) "tuple":=⟨o,b1,b2⟩
   rw[dep]at hd;rw[eqIsQuiet];apply Ya;show Uk ty F.slot_tuple_eq.lookup ?_;show Ya (m:=isInstance (.ref a) (.type "tuple")) (wpAny_isInstance ty isSubtype_tuple_tuple ?_);repeat first
    |show XR b1 b3 ?_
    |simp only[Bool.not_true,Xi,if_false]
    |apply Ya
   rw[←Array.forIn_toList];show Se.mL (J:=λr=>r.1=none) (ok:=λv=>∃q,af s.heap q v/\bM q=true/\dep q<=n) (λv r Q z j q _=>?_) _ _ _ (xc hs wx 1e4) rfl ?_
   ·obtain⟨x,x1,x2,x3⟩:=z
    apply Ya;show Bl n x v _ x2 x3 x1 (Ye (q _ rfl))
   ·rintro⟨r,u⟩ j
    cases(show r=none from j);show Ye h
end
section
variable{prog:Ys}{w:World}
theorem mZ{n:Nat}{A:Around}{E:1e6}{s:Shared}{f:Value->Array Int->Sem (ForInStep (Array Int))}
  (hf:∀x r z(Q:ForInStep (Array Int)->Shared->Prop),wpAny 5e0 A (pyHash x) (λi z'=>Q (.yield (r.push i)) z') E z->wpAny 5e0 A (f x r) Q E z)
  (one:∀(p:PV)(v:Value)(z:Shared)(Q:Int->Shared->Prop),z.heap=s.heap->bM p=true->dep p<=n->af s.heap p v->Q (m6 w p) {z with toks:=z.toks+ju p}->wpAny (model prog w) A (pyHash v) Q E z):
  ∀(ps:List PV)(us:4e1)(b:Array Int)(t:Nat)(Q:Array Int->Shared->Prop),aA s.heap ps us->bC ps=true->cq ps<=n->
   (∀b',b'.toList=b.toList++jl w ps->Q b' {s with toks:=t+kd ps})->wpAny (model prog w) A (forIn us b f) Q E {s with toks:=t}
 |[],us,b,t,Q,r,_,_,q=>by
  rw[aA]at r;subst r;rw[VR];show Ye (q b (by rw[jl,YJ]))
 |p::ps,us,b,t,Q,r,x,y,q=>by
  rw[aA]at r;obtain⟨u,Ot,rfl,r1,r2⟩:=r;rw[fP]at x;rw[nc]at y;rw[W9];apply Ya;show hf _ _ _ _ (one p u _ _ rfl x.1 y.1 r1 (mZ hf one ps Ot _ _ Q r2 x.2 y.2 λb' e=>?_));have e2:=q b' (by rw[e,jl,Array.toList_push,YC];rfl);rw[kd,←Nat.add_assoc]at e2;show e2
theorem FR:∀(n:Nat)(p:PV)(v:Value)(A:Around)(E:1e6)(s:Shared)(Q:Int->Shared->Prop),bM p=true->dep p<=n->af s.heap p v->A.units+n<cLine->Q (m6 w p) {s with toks:=s.toks+ju p}->wpAny (model prog w) A (pyHash v) Q E s:=by
 intro n;induction n with
 |zero=>
  intro p v A E s Q hp hd hr hu h;rcases shape hp hr with⟨hv,_,k,hk,hh,hdr⟩|⟨ps,a,us,rfl,_⟩
  ·rw[hh,hdr]at h
   show(bU prog w).pyHash (k:=k) hk h
  ·rw[dep]at hd;lia
 |succ n ih=>
  intro p v A E s Q hp hd hr hu h;rcases shape hp hr with⟨hv,_,k,hk,hh,hdr⟩|⟨ps,a,us,rfl,rfl,ht,hs,wx⟩
  ·rw[hh,hdr]at h
   show(bU prog w).pyHash (k:=k) hk h
  ·obtain⟨o,b1,b2,c,b3⟩:=id ht
   have ty:s.TypeIs (.ref a) "tuple":=⟨o,b1,b2⟩
   have PX:(some (Value.builtin "tuple.__hash__")==some Y8)=false:=by rw[beq_builtin_none]
   rw[dep]at hd;rw[m6,ju,←Nat.add_assoc]at h
   delta pyHash pyHashByItsType
   dsimp only;apply Ya;show wpAny_cRoomFor_or (.inr 1e4) ?_;apply Ya;show Uk ty Vn.lookup ?_;simp only[PX,Xi,if_false];apply Ya;show Uk ty Vn.lookup ?_;show Ya (m:=callSpecialIfBoundUnlessNone? (.ref a) "__hash__" _) ?_;apply wpAny_callSpecialIfBoundUnlessNone?_slot ty Vn;apply Xw Vn ty F.entry_tuple_hash _ (F.args_tuple_hash_1 _);show Ya (m:=WL (.ref a)) (wpAny_tupleItemsOf b1 b3 ?_);apply Ya;rw[←Array.forIn_toList];show mZ (s:=s) (n:=n) (λx r z Q y=>Ya (Y4 y (λi z' y'=>?_) λ_ _ y'=>y')) (λp v z Q e x1 x2 x3 q=>ih p v _ _ _ _ x1 x2 (by rw[e];show x3) (by simp[Y2];lia) q) ps us #[] s.toks _ hs wx 1e4 λb' e=>?_
   ·first
     |show Ye y'
     |show Ya (Ye (Ye y'))
   ·have e2:b'.toList=jl w ps:=e
    dsimp only;rw[e2];show wpAny_ret_mkInt ?_;dsimp only
    delta pyHashByItsType.reduced
    rw[reduceHash]at h;split at h
    ·rename_i in_
     rw[if_pos in_];show Ye h
    ·rename_i Vau
     rw[if_neg Vau];apply Ya;show VC (Ye h)
end
end Sn
namespace Sn
open PySem PySem.Spec PySem.SetTable Pu L2 Se
section
variable{prog:Ys}{w:World}{A:Around}{E:1e6}{s:Shared}
def NK(h:Heap)(p:PV)(a:Addr):Prop:=bM p=true/\dep p<=8/\af h p (.ref a)
theorem NK.inj{h:Heap}{p q:PV}{a:Addr}(x:NK h p a)(y:NK h q a):p=q:=af.inj p x.2.2 y.2.2
theorem eqN{x y:PV}{a b:Addr}{Q:18e1}(hu:A.units+8<cLine)(hx:NK s.heap x a)(hy:NK s.heap y b)(h1:x=y->Q true s)(h2:x≠y->Q false s):wpAny 5e0 A (eqBool (.ref a) (.ref b)) Q E s:=by
 have hd:=hx.2.1;show af.jS x hx.2.2 hy.2.2 (A:=A) 1e4 prog w E Q ?_;by_cases e:x=y
 ·rw[(sV x hx.1 hy.1).mpr e];show h1 e
 ·have:aI x y=false:=by
   cases q:aI x y with
   |false=>rfl
   |true=>show absurd ((sV x hx.1 hy.1).mp q) e
  rw[this];show h2 e
end
end Sn
namespace Pu
open PySem PySem.Spec PySem.W PySem.Calls L2
open PyProof.Rows hiding St Fr
abbrev MG:=(aG->M 7e7)×(PV->aG->Option aG)×(aG->M Bool)
def iw(g:5e3)(tt:7e3)(f:aG->List PV->M (aG×List PV)):List PV->aG->List PV->M (aG×List PV)
 |[],ρ,ys=>ret (ρ,ys)
 |x::xs,ρ,ys=>match g x ρ with
  |none=>λ_=>none
  |some ρ1=>aW (tt ρ1) λb=>if b then aW (f ρ1 ys) λr=>iw g tt f xs r.1 r.2 else iw g tt f xs ρ1 ys
def ni(te:4e5):List MG->aG->List PV->M (aG×List PV)
  |[],ρ,ys=>aW (te ρ) λy=>match y with
    |.v p=>if ys.length<100000 then ret (ρ,ys++[p])else λ_=>none
    |.c _=>λ_=>none
  |(it,g,tt)::rest,ρ,ys=>aW (it ρ) λxs=>iw g tt (ni te rest) xs ρ ys
def Va5(K:W.Frag)(m:MG):GT:=(PH K m.1,HN K m.2.1,Ae K m.2.2)
section
variable{K:W.Frag}{ι:3e8}
def TK(K:W.Frag)(ι:3e8)(H0:Hp)(ρ:aG)(ps:List PV)(C:Cs)(σ:St)(ys:List V)(H:Hp):Prop:=Fr ι H0 H/\SR K ι H ρ σ C/\ah K ι H ps ys/\ps.length<=100000
theorem ZdQ{g:5e3}{tt:7e3}{te:TE}{rest:List GT}{f:aG->List PV->M (aG×List PV)}
  (hf:∀(ρ:aG)(ps:List PV)(C:Cs)(ρ':aG)(ft:List PV)(C':Cs)(σ:St)(ys:List V)(H:Hp)(N:St->List V->Hp->Prop),f ρ ps C=some ((ρ',ft),C')->SR K ι H ρ σ C->ah K ι H ps ys->ps.length<=100000->(∀σ' je H',TK K ι H ρ' ft C' σ' je H'->N σ' je H')->xG te rest ys σ H N)
  {J:It} {xs:List PV} {H1:Hp} {C C':Cs} {ρ ρ':aG} {ps ft:List PV} {σ:St} {ys:List V} {N:St->List V->Hp->Prop} (qV:Iter K ι H1 xs J) (sr:SR K ι H1 ρ σ C) (rs:ah K ι H1 ps ys) (hl:ps.length<=100000)
  (e:iw g tt f xs ρ ps C=some ((ρ',ft),C')) (hN:∀σ' je H',TK K ι H1 ρ' ft C' σ' je H'->N σ' je H'):ED J (HN K g) (Ae K tt) rest te ys σ H1 N:=by
 have x0:∀{H2:Hp},Fr ι H1 H2->Ex ι [] H1 H2:=λf=>Ex.fr f;have c0:∀{H2:Hp}{C2:Cs},CR K ι H2 C2->CR K (ι++[]) H2 C2:=λc=>by rw[YJ];show c
 show⟨λi m σ2 EH H2=>∃ρ2 C2 EI,m=xs.length-i/\i<=xs.length/\TK K ι H1 ρ2 EI C2 σ2 EH H2/\iw g tt f (xs.drop i) ρ2 EI C2=some ((ρ',ft),C'),⟨xs.length,ρ,C,ps,rfl,Xq _,⟨.refl,sr,rs,hl⟩,e⟩,?_⟩;rintro i m σ2 EH H2 ⟨ρ2,C2,EI,rfl,CJ,⟨f2,jx,rs2,wx⟩,e2⟩;rcases YU i xs.length with dQ|hge
 ·right
  show⟨qV.go [] H2 C2 (x0 f2) (c0 jx.cr) i dQ,λσ' je H'=>∃ρ2 C2 EI,TK K ι H1 ρ2 EI C2 σ' je H'/\iw g tt f (xs.drop (i+1)) ρ2 EI C2=some ((ρ',ft),C'),?_,?_⟩
  ·rintro σ' je H' ⟨ρ3,C3,ps3,n3,e3⟩
   show⟨xs.length-(i+1),by lia,ρ3,C3,ps3,rfl,dQ,n3,e3⟩
  ·intro v H3 y
   obtain⟨sm,qv,hq,rq⟩:=qV.zS [] H2 C2 (x0 f2) (c0 jx.cr) i v H3 dQ y;rw[YJ]at rq;have hd:xs.drop i=qv::xs.drop (i+1):=by
    rw[WT dQ];rw[Yc dQ]at hq;rw[YF hq]
   rw[hd]at e2;ext iw e2;cases yS:g qv ρ2 with
   |none=>rw[yS]at e2;cases e2
   |some ρ3=>
    rw[yS]at e2;obtain⟨b,C3,e3,e4⟩:=cD e2;have m7:Fr ι H2 H3:=λb o _ z=>sm b o z;have ng:CR K ι H3 C2:=jx.cr.same sm;show⟨ι,ρ2,C2,qv,ρ3,jx.step m7 ng,rq,yS,λσ4 FC=>⟨ι,ρ3,C2,b,C3,FC,e3,λH5 f5 c5=>?_⟩⟩;have f15:=f2.trans (m7.trans f5);have rs5:ah K ι H5 EI EH:=ah.mono ng f5 _ _ (ah.mono jx.cr m7 _ _ rs2);have n6:=FC.step f5 c5;cases b with
    |true=>
     rw[if_pos rfl]at e4;dsimp only;rw[if_pos rfl];obtain⟨⟨ρ6,ps6⟩,C6,e6,e7⟩:=cD e4;show hf _ _ _ _ _ _ _ _ _ _ e6 n6 rs5 wx λσ' je H' n'=>⟨ρ6,C6,ps6,⟨f15.trans n'.1,n'.2⟩,e7⟩
    |false=>
     rw[if_neg Yi]at e4;dsimp only;rw[if_neg Yi];show⟨ρ3,C3,EI,⟨f15,n6,rs5,wx⟩,e4⟩
 ·left
  have RE:i=xs.length:=by lia
  subst RE;rw[V6]at e2;ext iw e2;have EX:some ((ρ2,EI),C2)=some ((ρ',ft),C'):=e2;simp only[Option.some.injEq,Prod.mk.injEq]at EX;obtain⟨⟨rfl,rfl⟩,rfl⟩:=EX;show⟨qV.stop [] H2 _ (x0 f2) (c0 jx.cr),hN σ2 EH H2 ⟨f2,jx,rs2,wx⟩⟩
theorem ZdS{te:4e5}:∀(rest:List MG)(ρ:aG)(ps:List PV)(C:Cs)(ρ':aG)(ft:List PV)(C':Cs)(σ:St)(ys:List V)(H:Hp)(N:St->List V->Hp->Prop),ni te rest ρ ps C=some ((ρ',ft),C')->SR K ι H ρ σ C->ah K ι H ps ys->ps.length<=100000->(∀σ' je H',TK K ι H ρ' ft C' σ' je H'->N σ' je H')->xG (tM K te) (rest.map (Va5 K)) ys σ H N
  |[],ρ,ps,C,ρ',ft,C',σ,ys,H,N,e,sr,rs,hl,hN=>by
    ext ni e;obtain⟨y,C1,e1,e2⟩:=cD e;show⟨ι,ρ,C,y,C1,sr,e1,λv H1 f1 c1 r1=>?_⟩;cases y with
    |c k=>cases e2
    |v p=>
      by_cases hz:ps.length<100000
      · replace e2:(if ps.length<100000 then ret (ρ,ps++[p])else λ_=>none) C1=some ((ρ',ft),C'):=e2
        rw[if_pos hz]at e2;cases e2;show⟨by rw[←rs.length];show oH hl,hN _ _ _ ⟨f1,16e5,(ah.mono sr.cr f1 _ _ rs).append (.cons r1 .nil),by rw[YN];simp;lia⟩⟩
      · replace e2:(if ps.length<100000 then ret (ρ,ps++[p])else λ_=>none) C1=some ((ρ',ft),C'):=e2
        rw[if_neg hz]at e2;cases e2
  | (it,g,tt)::rest,ρ,ps,C,ρ',ft,C',σ,ys,H,N,e,sr,rs,hl,hN=>by
    ext ni e;obtain⟨xs,C1,e1,e2⟩:=cD e;show⟨ι,ρ,C,xs,C1,sr,e1,λJ H1 f1 c1 qV=>?_⟩;show ZdQ (ZdS rest) qV (sr.step f1 c1) (ah.mono sr.cr f1 _ _ rs) hl e2 λσ' je H' n'=>hN σ' je H' ⟨f1.trans n'.1,n'.2⟩
end
end Pu
namespace L2
open PySem PySem.Spec PySem.W PySem.Calls
open PyProof.Rows hiding St Fr
section
variable{X:Cx}{tg elt iter:Expr}{ifs:6e1}{gs:List Vf}{scope:Scope}{pos:Pos}{vs fs:6e2}{fr:12e9}{g:TG}{tt:TT}{te:TE}{rest:List GT}
theorem Bw{wi:TI}{i:Nat}{x:Str}{px fZ:Pos}(hN:X.N.Nodup)(hx:16e9)(hl:X.env.scope.names.lookup x=some .local)
  (S:12e3) (hc:11e1) (hi:PI X tg iter wi)
  (bG:∀C s₀ H₀ ex pn,PG 2e0 tg g) (bT:∀C s₀ H₀ ex pn,zM 2e0 ifs tt) (bR:∀C s₀ H₀ ex pn,gV 2e0 gs rest) (bE:∀C s₀ H₀ ex pn,PE 2e0 elt te)
  (hsw:Wy (.ListComp elt (13e1::gs) scope pos) (some (.Name x px)) fZ.line X.env=pure true:=by rfl)
  (hs:16e3:=by intro _;rfl):
  PS X (.Assign [.Name x px] (.ListComp elt (13e1::gs) scope pos) fZ) (λD σ H=>tj wi vs fr g tt rest te σ H λv H1=>D.nx (σ.set i (some v)) H1):=by
 intro pins s σ H D I h;rw[exec_Assign_Name_used _ _ _ _ hsw];show Ya (WI (Ya ?_));change wpAny _ X.A (do let _ ←comprehension (.ListComp elt (13e1::gs) scope pos) scope X.env _ (newList []) false (eval iter X.env) (some (assign (.Name x px) X.env))) _ _ s;show Ya (Y4 (WZ (use:=some (assign (.Name x px) X.env)) (Q:=λ_ s'=>SP X pins D .next s') rfl hs (ZcI (S.Ho I.ok)) S.kind S.L'
  (cF (hi pins s σ H _ I h) λv s1 h1=>cF h1 λOH s2 h2=>?_)) (λ_ s' hq=>Ye (Ye hq)) λ_ _ e=>e)
 obtain⟨it,fp,tn,J,H2,e,I2,T,st2,f2,q2⟩:=h2;subst e;show Zdr (RR:=λacc C=>compPost 3e6 X.A X.xe (some (assign (.Name x px) X.env)) (λ_ s'=>SP X pins D .next s') acc C) (Q:=λv H1=>D.nx (σ.set i (some v)) H1) S hc bG bT bR bE I2 T st2 f2 q2 ?_;intro Dd C H' s' m' I' hq hn hC hle;change wpAny _ X.A (assign (.Name x px) X.env (.ref Dd)) _ _ _;have hCL:C≠X.env.locals:=XI (Yu I2.lt hle);have hCc:∀x c,X.env.cells.lookup x=some c->c≠C:=λx c e=>by
  obtain⟨v,z⟩:=I2.cell x c e;show Yp (Yu z.lt hle)
 show wpAny_assign_Name (mf I' hN hx (.inl hl) (v:=.ref Dd) rfl (λKv I'' zG=>?_) (.inr hl));obtain⟨a,VaN,ha⟩:=zG;have hCa:C≠a:=by
  rcases ha with rfl|ha
  ·show hCL
  ·show Xp (hCc x a ha)
 show⟨m',hn.sameBut VaN hCa,λh' qY=>⟨σ.set i (some (.ref Dd)),H',?_,hq⟩⟩;show I''.turned (t':=Kv.toks) (λb o hb e=>(qY.2 b hb).trans e) hC hCL (.inr (YI I2.sz hle)) hCc ?_;intro p hp;show zx (I2.pin p hp).1 hle
end
end L2
namespace Pu
open PySem PySem.Spec PySem.W PySem.Calls L2
open PyProof.Rows hiding St Fr
theorem pb{g:5e3}{tt:7e3}{te:4e5}:∀(xs:List PV)(ρ:aG)(ys:List PV)(C:Cs)(r:List PV×Cs),ys.length+xs.length<=100000->br g tt te xs ρ ys C=some r->aW (iw g tt (ni te []) xs ρ ys) (λr=>ret r.2) C=some r
 |[],ρ,ys,C,r,_,e=>e
 |x::xs,ρ,ys,C,r,h,e=>by
  ext br e;ext iw;rw[YD]at h;cases hg:g x ρ with
  |none=>rw[hg]at e;cases e
  |some ρ1=>
   rw[hg]at e;obtain⟨b,C1,e1,e2⟩:=cD e;cases b with
   |false=>
    have:=pb xs ρ1 ys C1 r 1e4 e2;simp only[aW,e1]at this⊢;show this
   |true=>
    obtain⟨y,C2,e3,e4⟩:=cD e2;cases y with
    |c k=>cases e4
    |v p=>
     have:=pb xs ρ1 (ys++[p]) C2 r 14e9 e4;have hy:ys.length<100000:=by lia
     simp only[aW,e1,e3,ni,hy,ret,if_true]at this⊢;show this
section
variable{X:Cx}{tg elt iter:Expr}{ifs:6e1}{x:Str}{scope:Scope}{pos:Pos}{vs fs:6e2}{fr:12e9}{it:13e6}{g:5e3}{tt:7e3}{te:4e5}
theorem ZdP{K:W.Frag}{σ:St}{H:Hp}{Q:VK}{ι:3e8}{ρ:aG}{C C':Cs}{res:List PV}(sr:SR K ι H ρ σ C)
  (e:aO it vs fr g tt te ρ C=some (res,C')) (q:∀p vs H',Fr ι H H'->CR K ι H' C'->H' p=none->ah K ι H' res vs->Q (.ref p) (upd H' p (.lst vs))):tj (PH K it) vs fr (HN K g) (Ae K tt) [] (tM K te) σ H Q:=by
 obtain⟨xs,C1,e1,e2⟩:=cD e;by_cases hl:xs.length<=100000
 ·rw[if_pos hl]at e2
  obtain⟨⟨ρ',ft⟩,C2,e3,e4⟩:=cD (pb xs _ [] C1 _ (by simpa using hl) e2);cases e4;show⟨ι,ρ,C,xs,C1,sr,e1,λJ H1 f1 c1 qV=>?_⟩;show ZdQ (ZdS []) qV ((sr.step f1 c1).block vs fr) .nil 4e4 e3 λσ' je H' n'=>⟨by rw[←n'.2.2.1.length];show oH n'.2.2.2,λD hD=>q D je H' (f1.trans n'.1) n'.2.1.cr hD n'.2.2.1⟩
 ·rw[if_neg hl]at e2;cases e2
end
end Pu
namespace Pu
open PySem PySem.Spec PySem.W PySem.Calls L2
open PyProof.Rows hiding St Fr
mutual
noncomputable def toD:PV->PyData
 |.bl b=>.bool b
 |.int i=>.int i
 |.str x=>.str x
 |.tup ps=>.tuple (toDs ps)
 |.lst ps=>.list (toDs ps)
 |_=>.none
noncomputable def toDs:List PV->List PyData
 |[]=>[]
 |p::ps=>toD p::toDs ps
end
theorem Pe:∀ps:List PV,(toDs ps).length=ps.length
 |[]=>rfl
 |p::ps=>by rw[toDs,YD,Pe ps,YD]
mutual
theorem ZcG{h:Heap}:∀(p:PV){u:Value},af h p u->∃as,Reads h u (toD p) as
 |.aP,u,r=>by rw[af]at r;subst r;show⟨_,.none⟩
 |.bl b,u,r=>by rw[af]at r;subst r;show⟨_,.bool b⟩
 |.int i,u,r=>by rw[af]at r;obtain⟨t,rfl⟩:=r;show⟨_,.int i t⟩
 |.str x,u,r=>by rw[af]at r;obtain⟨t,rfl⟩:=r;show⟨_,.str x t⟩
 |.tup ps,u,r=>by
  rw[af]at r;obtain⟨a,us,rfl,⟨o,e1,e2,n,e3⟩,rs⟩:=r;obtain⟨as,q⟩:=Zb9 ps rs;show⟨as,.tuple e1 e2 e3 q⟩
 |.lst ps,u,r=>by
  rw[af]at r;obtain⟨a,us,rfl,⟨o,e1,e2,n,e3⟩,rs⟩:=r;obtain⟨as,q⟩:=Zb9 ps rs;show⟨_,.list e1 e2 e3 q⟩
 |.b5 _ _,u,r=>by simp[af]at r
 |.bW _ _,u,r=>by simp[af]at r
 |.fn _,u,r=>by simp[af]at r
 |.ty _,u,r=>by simp[af]at r
 |.dn _ _,u,r=>by simp[af]at r
theorem Zb9{h:Heap}:∀(ps:List PV){us:4e1},aA h ps us->∃as,ReadsAll h us (toDs ps) as
 |[],us,r=>by rw[aA]at r;subst r;show⟨_,.nil⟩
 |p::ps,us,r=>by
  rw[aA]at r;obtain⟨v,r',rfl,h1,h2⟩:=r;obtain⟨as,a1⟩:=ZcG p h1;obtain⟨bs,a2⟩:=Zb9 ps h2;show⟨_,.cons a1 a2⟩
end
mutual
theorem ym{h:Heap}:∀(p:PV){u:Value},bM p=true->af h p u->Reads h u (toD p) []
 |.int i,u,_,r=>by rw[af]at r;obtain⟨t,rfl⟩:=r;show .int i t
 |.str x,u,_,r=>by rw[af]at r;obtain⟨t,rfl⟩:=r;show .str x t
 |.tup ps,u,hp,r=>by
  rw[af]at r;rw[bM]at hp;obtain⟨a,us,rfl,⟨o,e1,e2,n,e3⟩,rs⟩:=r;show .tuple e1 e2 e3 (Zb2 ps hp rs)
 |.aP,u,hp,r=>by simp[bM]at hp
 |.bl _,u,hp,r=>by simp[bM]at hp
 |.lst _,u,hp,r=>by simp[bM]at hp
 |.b5 _ _,u,hp,r=>by simp[bM]at hp
 |.bW _ _,u,hp,r=>by simp[bM]at hp
 |.fn _,u,hp,r=>by simp[bM]at hp
 |.ty _,u,hp,r=>by simp[bM]at hp
 |.dn _ _,u,hp,r=>by simp[bM]at hp
theorem Zb2{h:Heap}:∀(ps:List PV){us:4e1},bC ps=true->aA h ps us->ReadsAll h us (toDs ps) []
 |[],us,_,r=>by rw[aA]at r;subst r;show .nil
 |p::ps,us,hp,r=>by
  rw[aA]at r;rw[Sn.fP]at hp;obtain⟨v,r',rfl,h1,h2⟩:=r;show .cons (as:=[]) (bs:=[]) (ym p hp.1 h1) (Zb2 ps hp.2 h2)
end
mutual
theorem toD_plain:∀p:PV,(toD p).hasDict=false
 |.tup ps=>by rw[toD,Xr];show Tr ps
 |.lst ps=>by rw[toD,Xr];show Tr ps
 |.aP=>by rw[toD,Xr];all_goals(intros;first|rfl|(rename_i z;cases z))
 |.bl b=>by rw[toD,Xr]
 |.int i=>by rw[toD,Xr]
 |.str x=>by rw[toD,Xr]
 |.b5 _ _=>by simp[toD,Xr]
 |.bW _ _=>by simp[toD,Xr]
 |.fn _=>by simp[toD,Xr]
 |.ty _=>by simp[toD,Xr]
 |.dn _ _=>by simp[toD,Xr]
theorem Tr:∀ps:List PV,VV (toDs ps)=false
 |[]=>by rw[toDs,VV]
 |p::ps=>by rw[toDs,VV,toD_plain p,Tr ps];rfl
end
mutual
theorem vM:∀p:PV,bM p=true->dat p=true
 |.tup ps,h=>by rw[bM]at h;rw[dat];show Zcl ps h
 |.int _,_=>rfl
 |.str _,_=>rfl
 |.aP,h=>by simp[bM]at h
 |.bl _,h=>by simp[bM]at h
 |.lst _,h=>by simp[bM]at h
 |.b5 _ _,h=>by simp[bM]at h
 |.bW _ _,h=>by simp[bM]at h
 |.fn _,h=>by simp[bM]at h
 |.ty _,h=>by simp[bM]at h
 |.dn _ _,h=>by simp[bM]at h
theorem Zcl:∀ps:List PV,bC ps=true->df ps=true
 |[],_=>rfl
 |p::ps,h=>by rw[Sn.fP]at h;rw[df,vM p h.1,Zcl ps h.2];rfl
end
noncomputable def iM (d:PyData):Option PV:=if d.showable=true/\d.shown.length<=Yt/\d.depth<=30 then some (.str d.shown)else none
theorem tx{d:PyData}{q:PV}(h:iM d=some q):q=.str d.shown/\d.showable=true/\d.shown.length<=Yt/\d.depth<=30:=by
 ext iM h;split at h
 ·cases h;show⟨rfl,by assumption⟩
 ·cases h
def dN:List PV->Option PV
 |[.aP]=>some (.str "None")
 |[.bl b]=>some (.str (if b then "True" else "False"))
 |[.int i]=>if i.natAbs.log2<1920 then some (.str (Gn i))else none
 |[.str y]=>some (.str y)
 |[.tup ps]=>if df ps=true then iM (.tuple (toDs ps))else none
 |[.lst ps]=>if df ps=true then iM (.list (toDs ps))else none
 |[.b5 [] _]=>iM (.dict [])
 |[.dn ks vs]=>if bC ks=true/\bC vs=true/\ks.length=vs.length then iM (.dict ((toDs ks).zip (toDs vs)))else none
 |_=>none
def HV(K:W.Frag):List V->Hp->VK->Prop:=λxs H Q=>∃ι p q,hJ K ι H [p] xs/\dN [p]=some q/\∀t,q=.str t->t.length<=Yt->Q (.str t) H
section
variable{X:Cx}{e:Expr}{es:6e1}{fs:2e8}{p pos:Pos}
theorem zk(hg:X.A.guards=some [])(hu:8e3):cR X (.type "str") (HV X.K):=by
 intro pins s σ H xs us Q I r h_;obtain⟨ι,p,q,ls,e,hq⟩:=h_;cases ls with
 |cons l t=>
 cases t;obtain⟨u,rfl,ru⟩:=Vals.one r;have fin:∀d:PyData,iM d=some q->∀a as,u=.ref a->Reads s.heap (.ref a) d as->(d.hasDict=true->XN∉as)->wpAny 3e6 X.A (call (.type "str") [u]) 15e2 X.xe s:=by
  intro d hd a as eu rd hs;obtain⟨rfl,s1,s2,s3⟩:=tx hd;subst eu;show str_of_reads rd s1 hs hg 1e4 (λb o z=>z) (λh' u tk k=>⟨.str _,H,I.kept k,6e5,hq _ rfl s2⟩) s2
 ext dN e;split at e
 ·rename_i z;cases z;cases e;cases l
  cases(show u=Y8 from ru);show P.str_of_none ⟨.str _,H,I.tok _,6e5,hq _ rfl 3e9⟩
 ·rename_i b z;cases z;cases e;cases l
  cases(show u=Vj _ from ru);show P.str_of_bool ⟨.str _,H,I.tok _,6e5,hq _ rfl (by cases b<;>decide +kernel)⟩
 ·rename_i i z;cases z
  split at e
  ·rename_i hi
   cases e;cases l;obtain⟨t,rfl⟩:=(show ∃t,u=Uu _ t from ru)
   show P.str_of_int hi ⟨.str _,H,I.tok _,6e5,hq _ rfl (BP hi)⟩
  ·cases e
 ·rename_i y z;cases z;cases e;cases l with
  |str _ hl=>
   obtain⟨t,rfl⟩:=(show ∃t,u=Uv _ t from ru)
   show P.str_of_str ⟨.str _,H,I,6e5,hq _ rfl hl⟩
 ·rename_i ps z;cases z
  split at e
  ·rename_i hd
   have hr:=Lies.heap I l ru (by rw[dat];show hd);obtain⟨as,rd⟩:=ZcG _ hr;rw[af]at hr;obtain⟨a,us,eu,_⟩:=hr;subst eu;show fin _ e a as rfl rd (PyData.noDict_hsm (by rw[Xr];show Tr ps))
  ·cases e
 ·rename_i ps z;cases z
  split at e
  ·rename_i hd
   have hr:=Lies.heap I l ru (by rw[dat];show hd);obtain⟨as,rd⟩:=ZcG _ hr;rw[af]at hr;obtain⟨a,us,eu,_⟩:=hr;subst eu;show fin _ e a as rfl rd (PyData.noDict_hsm (by rw[Xr];show Tr ps))
  ·cases e
 ·rename_i vs z;cases z
  generalize hk:(PV.b5 [] vs)=pp at l;cases l with
  |@b5 a qs ps ws h hl rs=>
   injection hk with k1 k2;cases qs with
   |cons _ _=>cases k1
   |nil=>
    cases(show u=Y9 a from ru);obtain⟨_,lo,vv,kv,o,es,ep,e1,e2,e3,e4,e5,_⟩:=(show bS X.prog X.w H s.heap a (.dK ([].zip ws))from I.bV a _ h)
    cases kv;cases Iy:es.toList with
    |cons x xs=>rw[Iy]at e5;cases e5
    |nil=>
     show fin _ e a [a] rfl (.dict (as:=[]) (bs:=[]) e1 e2.1 e3 (by rw[Iy];show .nil) (by rw[Iy];show .nil)) λ_ z=>?_;rw[Yj.mp z]at lo;simp at lo
  |_=>cases hk
 ·rename_i ks vs z;cases z
  split at e
  ·rename_i hp
   generalize hk:(PV.dn ks vs)=pp at l;cases l with
   |@dn a ks' ft qs ws h r1 r2=>
    injection hk with k1 k2;subst k1;subst k2;cases(show u=Y9 a from ru);obtain⟨⟨_,lo,o,es,ep,e1,e2,e3,v1,v2⟩,_⟩:=(show bS X.prog X.w H s.heap a (IH a qs ws)from I.bV a _ h)
    have q1:=Zb2 ks hp.1 (ah.heap I ks r1 v1 (Zcl ks hp.1));have q2:=Zb2 vs hp.2.1 (ah.heap I vs r2 v2 (Zcl vs hp.2.1));have ll:(toDs ks).length=(toDs vs).length:=by rw[Pe,Pe,hp.2.2]
    show fin _ e a [a] rfl (.dict (as:=[]) (bs:=[]) e1 e2.1 e3 (by rw[WU (Ud ll)];show q1) (by rw[List.map_snd_zip (Ud ll.symm)];show q2)) λ_ z=>?_;rw[Yj.mp z]at lo;simp at lo
   |_=>cases hk
  ·cases e
 ·cases e
theorem FA:l6 X.K (HV X.K) dN:=by
 intro ι H C ps vs z Q cr ls e k;cases ls with
 |nil=>cases e
 |@cons p v ps vs l t=>
  cases ps with
  |cons _ _=>ext dN e;split at e<;>simp_all
  |nil=>
   show⟨ι,p,z,.cons l t,e,λt et hl=>?_⟩;subst et;show k _ H .refl cr (yb hl)
end
end Pu
namespace Sn
open PySem PySem.Spec PySem.SetTable Pu L2 Se
noncomputable instance:DecidableEq PV:=λa b=>Classical.propDecidable (a=b)
mutual
theorem qQ{h h':Heap}{d:Addr}{ob:Obj}{es:Array Wa}{ep:Nat}(hd:h.get? d=some ob)(he:ob.data=.dict es ep)(sb:Wj d h h'):∀(p:PV){u:Value},bM p=true->af h p u->af h' p u
 |.int x,u,_,a=>by unfold af at a⊢;show a
 |.str x,u,_,a=>by unfold af at a⊢;show a
 |.tup ps,u,hp,a=>by
  unfold af at a⊢;obtain⟨l,us,rfl,⟨o,e,c1,n,c2⟩,r⟩:=a;have hl:l≠d:=λz=>by subst z;rw[hd]at e;cases e;rw[he]at c2;cases c2
  show⟨l,us,rfl,⟨o,(sb.2 l hl).trans e,c1,n,c2⟩,Cq hd he sb ps (by ext bM hp;show hp) r⟩
 |.aP,u,hp,a=>by cases hp
 |.bl x,u,hp,a=>by cases hp
 |.lst ps,u,hp,a=>by cases hp
 |.b5 _ _,u,hp,a=>by cases hp
 |.bW _ _,u,hp,a=>by cases hp
 |.fn _,u,hp,a=>by cases hp
 |.ty _,u,hp,a=>by cases hp
 |.dn _ _,u,hp,a=>by cases hp
theorem Cq{h h':Heap}{d:Addr}{ob:Obj}{es:Array Wa}{ep:Nat}(hd:h.get? d=some ob)(he:ob.data=.dict es ep)(sb:Wj d h h'):∀(ps:List PV){us:4e1},bC ps=true->aA h ps us->aA h' ps us
 |[],us,_,a=>by unfold aA at a⊢;show a
 |p::ps,us,hp,a=>by
  unfold aA at a⊢;obtain⟨v,r,rfl,a1,a2⟩:=a;rw[fP]at hp;show⟨v,r,rfl,qQ hd he sb p hp.1 a1,Cq hd he sb ps hp.2 a2⟩
end
def kz(prog:Ys)(w:World):HeapKind prog w PV where
 is:=NK
 hash:=m6 w
 draws:=ju
 room:=λA=>A.units+8<cLine
 inj:=λx y=>x.inj y
 keeps:=λx ho hd hs=>⟨x.1,x.2.1,qQ ho hd hs _ x.1 x.2.2⟩
 pyHash:=λhu hk h=>FR 8 _ _ _ _ _ _ hk.1 hk.2.1 hk.2.2 hu h
 eqBool:=λ{A E s x y a b Q} hu hx hy h=>eqN hu hx hy (λe=>by rw[decide_eq_true e]at h;show h) (λe=>by rw[decide_eq_false e]at h;show h)
 quiet:=λhk h=>Bl 8 _ _ _ hk.1 hk.2.1 hk.2.2 h
end Sn
namespace Pu
open PySem PySem.Spec PySem.W PySem.Calls L2 PySem.SeqAt
open Sn (kz NK)
open PyProof.Rows hiding St Fr
def vP:PV->Option PV
 |.tup [.tup qs,.int i]=>if i=1/\bC qs=true/\cq qs<=7 then some (.tup qs)else none
 |_=>none
def iB:List PV->Option 7e7
 |[]=>some []
 |p::r=>match vP p,iB r with
  |some k,some ks=>some (k::ks)
  |_,_=>none
def iS(ks:List PV):List PV:=ks.foldl bw []
def iF(C:Cs):List SV->Option SV
 |[x]=>match aQ C x with
  |some (.lst ps)=>match iB ps with
   |some ks=>if ks.length<=1000 then some (.v (.dn (iS ks) ((iS ks).map λ_=>.int 1)))else none
   |none=>none
  |_=>none
 |_=>none
abbrev Tri:=PV×Addr×Value
theorem Zcy{κ:Type} [DecidableEq κ](key:Nat->κ×Addr×Value):∀i,∀x∈putAll key i,∃j,j<i/\x.2.2=(key j).2.2
 |0,x,hx=>by cases hx
 |i+1,x,hx=>by
  rw[Tt]at hx;ext Ue hx;split at hx
  ·obtain⟨y,hy,rfl⟩:=Yr.mp hx
   ext putAt;split
   ·show⟨i,by lia,rfl⟩
   ·obtain⟨j,hj,e⟩:=Zcy key i y hy
    show⟨j,by lia,e⟩
  ·rcases Yy.mp hx with z|z
   ·obtain⟨j,hj,e⟩:=Zcy key i x z
    show⟨j,by lia,e⟩
   ·cases Yj.mp z
    show⟨i,by lia,rfl⟩
theorem p6{κ:Type} [DecidableEq κ](xs:List (κ×Addr×Value))(k:κ)(b:Addr)(v:Value):(Ue xs k b v).map (·.1)=bw (xs.map (·.1)) k:=by
 have same:(atKey xs k).isSome=gI k (xs.map (·.1)):=by
  unfold atKey gI;induction xs with
  |nil=>rfl
  |cons x xs ih=>
   rw[X4,Yz,Xd];by_cases e:x.1=k
   ·simp[e]
   ·simp only[e,decide_false,VZ];show ih
 unfold Ue bw;rw[same];split
 ·rw[Y0]
  show VI λx _=>?_;change(putAt k v x).1=x.1;ext putAt;split
  ·rename_i e;first|rfl|show e.symm|show e
  ·rfl
 ·rw[Y7];rfl
theorem Zc6{κ:Type} [DecidableEq κ](key:Nat->κ×Addr×Value):∀i,(putAll key i).map (·.1)=((Yk i).map λj=>(key j).1).foldl bw []
 |0=>rfl
 |i+1=>by
  rw[Tt,p6,Zc6 key i,List.range_succ,Y7,List.foldl_append];rfl
section
variable{X:Cx}
structure TC(X:Cx)(ι:List Addr)(H:Hp)(s:Shared)(ks:List PV)(nZ:List Tri)(aM:List Value):Prop where
 keys:nZ.map (·.1)=ks
 len:nZ.length=aM.length
 rep:∀x∈nZ,Rep X.K ι H x.1 (.ref x.2.1)/\bM x.1=true/\dep x.1<=8/\∃t,x.2.2=.int 1 t
 lie:∀(i:Nat)(v:Value),aM[i]? = some v->∃t o n,v=Y9 t/\s.heap.get? t=some o/\o.cls=.type "tuple"/\o.data=.seq #[.ref (nZ.getD i (.aP,0,.none)).2.1,(nZ.getD i (.aP,0,.none)).2.2] n
theorem zY{pins:2e2}{σ:St}{H:Hp}{s:Shared}{ι:3e8}(I:2e4):∀{ps:List PV}{ys:List V}{aM:4e1}{ks:List PV},ah X.K ι H ps ys->Vals ys aM->iB ps=some ks->∃nZ,TC X ι H s ks nZ aM
 |[],ys,aM,ks,r,v,e=>by
  cases e;rw[r.iW]at v;cases v;show⟨[],rfl,rfl,λx hx=>by(cases hx),λi v e=>by simp at e⟩
 |p::ps,ys,aM,ks,r,v,e=>by
  obtain⟨y,ys,rfl,h1,h2⟩:=r.inv;cases v with
  |@cons _ u _ us ru rt=>
  ext iB e;split at e
  ·rename_i a b e1 e2
   cases e;obtain⟨nZ,T⟩:=zY I h2 rt e2;ext vP e1;split at e1
   ·rename_i qs i
    split at e1
    ·rename_i hc
     obtain⟨rfl,c2,c3⟩:=hc;cases e1;ext Rep h1;obtain⟨t,ws,rfl,ht,rs⟩:=h1;obtain⟨x1,w1,rfl,a1,rs⟩:=rs.inv;obtain⟨x2,w2,rfl,a2,rs⟩:=rs.inv;rw[rs.iW]at ht;have a1':=a1;ext Rep a1';obtain⟨b',_,rfl,_⟩:=a1';ext Rep a2;subst a2;cases(show u=Y9 t from ru);obtain⟨vA,r2,⟨o,ho,CK,n,hd⟩,_⟩:=I.tuple (a:=t) (.inl (.inl ht));cases r2 with
     |cons ra r3=>cases r3 with
      |@cons _ u2 _ _ rb r4=>
       cases r4;cases ra;show⟨(.tup qs,b',u2)::nZ,by rw[Yz,T.keys],by rw[YD,YD,T.len],λx hx=>?_,λi v e=>?_⟩
       ·cases hx with
        |head=>show⟨a1,by rw[bM];show c2,by rw[dep];change cq qs+1<=8;lia,rb⟩
        |tail _ hx=>show T.rep x hx
       ·cases i with
        |zero=>simp at e;subst e;show⟨t,o,n,rfl,ho,CK,hd⟩
        |succ i=>simpa using T.lie i v 17e9
    ·cases e1
   ·cases e1
  ·cases e
def Bh(K:W.Frag):List V->Hp->VK->Prop:=λxs H Q=>∃ι p ys ps ks,xs=[.ref p]/\fB K H p ys/\ah K ι H ps ys/\iB ps=some ks/\ks.length<=1000/\
 ∀l qs,H l=none->ah K ι H (iS ks) qs->Q (.ref l) (upd H l (IH l qs (qs.map λ_=>.int 1)))
theorem u5(kM:11e1)(hu:8e3):cR X (.type "dict") (Bh X.K):=by
 sleep 15;obtain⟨ι,p,ys,ps,ks,rfl,hq,rp,ek,Vbn,q⟩:=h;obtain⟨u,rfl,rx⟩:=vals1 r;cases rx;obtain⟨aM,r',⟨o,n,ho,hc,hdn,hd⟩,hz⟩:=I.list hq;obtain⟨nZ,T⟩:=zY I rp r' ek;have hlk:nZ.length=ks.length:=by rw[←T.keys,Yv]
 have dQ:=T.len;obtain⟨oc,od,odt,osl⟩:=o;simp only at hc hdn hd;subst hc hdn hd;have at_:∀i,i<nZ.length->nZ.getD i (.aP,0,.none)∈nZ:=λi hi=>by
  rw[YZ,Yc hi];show YO hi
 have nk:∀h',(∀b u,s.heap.get? b=some u->h'.get? b=some u)->∀x∈nZ,NK h' x.1 x.2.1:=λh' k x hx=>by
  obtain⟨a1,a2,a3,_⟩:=T.rep x hx;show⟨a2,a3,af.keep k x.1 (Rep.heap I x.1 a1 rfl (vM _ a2))⟩
 show Zdw (knd:=kz X.prog X.w) (I.ok.hd kM) ho (λi=>nZ.getD i (.aP,0,.none)) T.lie (λi h' hi k=>nk h' k _ (at_ i 1e4)) (λA' hA=>?_) (by rw[YV];lia) λh' tk k dd=>?_
 ·change A'.units+8<cLine
  lia
 ·obtain⟨o3,es,ep,d1,d2,d3,d4,d5,d6⟩:=dd
  have hfr:=I.bV.fresh (Yl s.heap.objs.size);generalize hx:putAll (λi=>nZ.getD i (PV.aP,0,Y8)) aM.length=xs at d4 d5 d6;have keys:xs.map (·.1)=iS ks:=by
   rw[←hx,Zc6,←dQ];ext iS;rw[←T.keys];have e:=congrArg (List.map (·.1)) (uw (PV.aP,0,Y8) nZ);rw[Y0]at e;rw[←e];rfl
  have mem:∀x∈xs,Rep X.K ι H x.1 (.ref x.2.1)/\∃t,x.2.2=.int 1 t:=λx hm=>by
   rw[←hx]at hm;obtain⟨j,hj,e1,e2⟩:=Tz _ _ x hm;obtain⟨j',Z7,e3⟩:=Zcy _ _ x hm;have a:=T.rep _ (at_ j 1e4);have b:=T.rep _ (at_ j' 1e4);rw[e1,e2,e3];show⟨a.1,b.2.2.2⟩
  have len:xs.length<=1000:=by
   rw[←hx];have:=Zcz (λi=>nZ.getD i (PV.aP,0,Y8)) aM.length;lia
  have Vam:∀l:List Tri,(∀x∈l,Rep X.K ι H x.1 (.ref x.2.1)/\∃t,x.2.2=.int 1 t)->ah X.K ι H (l.map (·.1)) (l.map λx=>V.ref x.2.1)/\Vals (l.map λx=>V.ref x.2.1) (l.map λx=>Y9 x.2.1)/\Vals (l.map λ_=>V.int 1) (l.map λx=>x.2.2):=λl=>by
   induction l with
   |nil=>intro _;show⟨.nil,.nil,.nil⟩
   |cons x l ih=>
    intro hl;obtain⟨a,b,c⟩:=ih λy hy=>hl y (.tail _ hy);obtain⟨r,t,e⟩:=hl x (.head _);show⟨.cons r a,.cons rfl b,.cons ⟨t,e⟩ c⟩
  obtain⟨r1,r2,r3⟩:=Vam xs mem;rw[keys]at r1;have:=q s.heap.objs.size _ hfr r1;rw[Y0]at this;show⟨.ref s.heap.objs.size,_,I.laid (a:=s.heap.objs.size) (t':=tk) k (Yl _) ?_,rfl,this⟩;show(show bS X.prog X.w _ h' _ (IH _ _ _)from⟨⟨by rw[Yv,YV];lia,beq_false_of_ne (XI I.big),o3,es,ep,d1,d2,d3,?_,?_⟩,⟨o3,d1⟩,λh1 h2 ⟨x1,x2,o,es,ep,y1,y2⟩ st=>⟨x1,x2,o,es,ep,st o y1,y2⟩⟩)
  ·rw[d4,Y0];show r2
  ·rw[d4,Y0];show r3
theorem Dp:EE X.K (Bh X.K) iF:=by
 intro ι H C xs vs z Q cr rs e k;ext iF e;split at e
 ·rename_i x
  obtain⟨v,w,rfl,r1,hw⟩:=rs;cases(show w=[]from hw);split at e
  ·rename_i ps hd
   obtain⟨a,ws,rfl,h1,r2⟩:=il (r1.lies cr hd);split at e
   ·rename_i ks hk
    split at e
    ·rename_i hl
     cases e;show⟨ι,a,ws,ps,ks,rfl,h1,r2,hk,hl,λl qs hn r=>k _ _ (Fr.new hn) (cr.new hn) ?_⟩;have st:∀b o,H b=some o->upd H l (IH l qs (qs.map λ_=>V.int 1)) b=some o:=λb o e=>by rw[dH (i4 e hn)];show e
     have ones:∀(H2:Hp)(l:List PV)(m:List V),l.length=m.length->ah X.K ι H2 (l.map λ_=>.int 1) (m.map λ_=>.int 1):=λH2 l=>by
      induction l with
      |nil=>intro m e;cases m with
       |nil=>show .nil
       |cons _ _=>cases e
      |cons a l ih=>intro m e;cases m with
       |nil=>cases e
       |cons b m=>show .cons hV (ih m 17e9)
     change Rep _ _ _ (.dn _ _) _;ext Rep;show⟨l,qs,_,rfl,cr.BS hn,pD,ah.d9 st _ _ r,ones _ _ _ r.length⟩
    ·cases e
   ·cases e
  ·cases e
 ·cases e
variable{e:Expr}{es:6e1}{fs:2e8}{p pos:Pos}
end
end Pu
namespace Pu
open PySem PySem.Spec L2
open PyProof.Rows hiding St Fr
@[irreducible]def bP(X:Cx) (e:Expr) (f:4e5):Prop:=EM X e f
theorem Oh:@bP=@EM:=by ext bP;rfl
@[irreducible]def i8(X:Cx) (es:6e1) (f:2e8):Prop:=AM X es f
theorem Ol:@i8=@AM:=by ext i8;rfl
@[irreducible]def iH(X:Cx) (e:Expr) (f:7e3):Prop:=TMt X e f
theorem HD:@iH=@TMt:=by ext iH;rfl
@[irreducible]def HB(X:Cx) (e:Expr) (f:7e3):Prop:=WM X e f
theorem Oa:@HB=@WM:=by ext HB;rfl
@[irreducible]def Fh(X:Cx) (e:Expr) (f:13e6):Prop:=FM X e f
theorem Og:@Fh=@FM:=by ext Fh;rfl
@[irreducible]def nI(X:Cx) (st:Stmt) (f:14e3):Prop:=SM X st f
theorem Ob:@nI=@SM:=by ext nI;rfl
@[irreducible]def zL(X:Cx) (zD:List Stmt) (f:14e3):Prop:=BM X zD f
theorem Oj:@zL=@BM:=by ext zL;rfl
@[irreducible]def D4(X:Cx) (tg:Expr) (g:5e3):Prop:=GM X tg g
theorem Of:@D4=@GM:=by ext D4;rfl
@[irreducible]def zB(X:Cx) (ts:6e1) (g:List PV->aG->Option aG):Prop:=GMs X ts g
theorem HE:@zB=@GMs:=by ext zB;rfl
@[irreducible]def D0(X:Cx) (tg iter:Expr) (f:13e6):Prop:=IM X tg iter f
theorem Oe:@D0=@IM:=by ext D0;rfl
@[irreducible]def vo(X:Cx) (ifs:6e1) (t:7e3):Prop:=TsM X ifs t
theorem HC:@vo=@TsM:=by ext vo;rfl
@[irreducible]def Pn(X:Cx) (e:Option Expr) (f:aG->M (Option Int)):Prop:=OM X e f
theorem Oc:@Pn=@OM:=by ext Pn;rfl
@[irreducible]def QDM(X:Cx) (ks:List (Option Expr)) (es:6e1) (keys:6e2) (f:2e8):Prop:=DM X ks es keys f
theorem Oi:@QDM=@DM:=by ext QDM;rfl
@[irreducible]def QJM(X:Cx) (es:6e1) (fs:2e8):Prop:=JM X es fs
theorem Od:@QJM=@JM:=by ext QJM;rfl
end Pu
local macro_rules
 | `(tactic| subst_eqs)=>`(tactic| simp only[Pu.Oh,Pu.Ol,Pu.HD,Pu.Oa,Pu.Og,Pu.Ob,Pu.Oj,Pu.Of,Pu.HE,Pu.Oe,Pu.HC,Pu.Oc,Pu.Oi,Pu.Od]at *)
namespace Pu
open PySem PySem.Spec L2
open PyProof.Rows hiding St
theorem zK{X:Cx}{e:Expr}{f:7e3}(h:HB X e f):iH X e f:=by
 subst_eqs;show h _
section
variable{X:Cx}{a b e c:Expr}{es:6e1}{fa fb fc:4e5}{pos p:Pos}{x:Str}
theorem aq(i:Nat){x:Str}{pos:Pos}(hN:16e9:=by rfl)(hv:N7 X.env.scope x:=by first|show Or.inl rfl|show Or.inr 2e1|show Or.inr 16e0)(hd:4e3:=by decide)
  (rj:(x==("__classdict__":Str))=false:=by decide):bP X (.Name x pos) (au i):=by
 subst_eqs;apply@Dg<;>assumption
theorem aY{i j pos}:bP X (.Constant (.int i) j pos) (mC (.int i)):=by
 subst_eqs;show IV KY λι H=>by ext Rep;rfl
theorem E9{i j pos}:bP X (.Constant (.bool i) j pos) (mC (.bl i)):=by
 subst_eqs;show IV Ql λι H=>by ext Rep;rfl
theorem qo{j pos}:bP X (.Constant .none j pos) (mC .aP):=by
 subst_eqs;show IV KU λι H=>by ext Rep;rfl
theorem iG{i j pos}(h:i.length<=sizeLine:=by decide +kernel):bP X (.Constant (.str i) j pos) (mC (.str i)):=by
 subst_eqs;show IV KP λι H=>by ext Rep;show⟨rfl,h⟩
theorem Zb0{i:Int}(hg:Gl X x)(hm:∃t,X.mg x=some (.int i t))(hd:4e3:=by decide):bP X (.Name x pos) (mC (.int i)):=by
 subst_eqs;obtain⟨t,hm⟩:=hm;show IV (ox (v:=.int i) hg hm 6e5 hd) λι H=>by ext Rep;rfl
theorem ZdG{i:Str}(hg:Gl X x)(hm:∃t,X.mg x=some (.str i t))(h:i.length<=sizeLine:=by decide +kernel)(hd:4e3:=by decide):bP X (.Name x pos) (mC (.str i)):=by
 subst_eqs;obtain⟨t,hm⟩:=hm;show IV (ox (v:=.str i) hg hm 6e5 hd) λι H=>by ext Rep;show⟨rfl,h⟩
theorem Ja{n:String}(hg:Gl X x)(hm:X.mg x=none)(hv:Xb x=some (.type n))(hn:x≠"__name__":=by decide)(hd:4e3:=by decide):bP X (.Name x pos) (mC (.ty n)):=by
 subst_eqs;show IV (Gb (v:=.ty n) hg hm hv rfl hn hd) λι H=>by ext Rep;rfl
theorem sC{op:CmpOp}{r:R2}{g:11e6}(ho:dY X (Xa op) r)(hg:i7 X.K r g)(ha:bP X a fa)(hb:bP X b fb)(hm:W5 op b=false):bP X (.Compare a [op] [b] pos) (ak g fa fb):=by
 subst_eqs;show PE.imp (Ga ho ha hb hm) λ_ _ _ h=>vD hg h
theorem tK{op tU:CmpOp}{r r':R2}{g g':11e6}(ho:dY X (Xa op) r)(uu:dY X (Xa tU) r')(hg:i7 X.K r g)(RG:i7 X.K r' g')(ha:bP X a fa)(hb:bP X b fb)(hc:bP X c fc)
  (hm:lastMarks [op,tU] [b,c]=false:=by with_unfolding_all rfl):bP X (.Compare a [op,tU] [b,c] pos) (jj g g' fa fb fc):=by
 subst_eqs;show PE.imp (BK ho uu ha hb hc hm) λ_ _ _ h=>p4 hg RG h
theorem fU{op:CmpOp}{r:R2}{g:11e6}(ho:dY X (Xa op) r)(hg:i7 X.K r g)(ha:bP X a fa)(hb:bP X b fb)(hm:W5 op b=false):iH X (.Compare a [op] [b] pos) (aC (ak g fa fb)):=by
 subst_eqs;show PT.imp (FY ho ha hb hm) λσ H Q h=>by
    obtain⟨ι,ρ,C,x,C',sr,e,q⟩:=vC h;show vD hg ⟨ι,ρ,C,x,C',sr,e,q⟩
theorem tF{op tU:CmpOp}{r r':R2}{g g':11e6}(ho:dY X (Xa op) r)(uu:dY X (Xa tU) r')(hg:i7 X.K r g)(RG:i7 X.K r' g')(ha:bP X a fa)(hb:bP X b fb)(hc:bP X c fc)
  (hm:lastMarks [op,tU] [b,c]=false:=by with_unfolding_all rfl):iH X (.Compare a [op,tU] [b,c] pos) (aC (jj g g' fa fb fc)):=by
 subst_eqs;show PT.imp (Bt ho uu ha hb hc hm) λσ H Q h=>by
    obtain⟨ι,ρ,C,x,C',sr,e,q⟩:=vC h;show p4 hg RG ⟨ι,ρ,C,x,C',sr,e,q⟩
theorem pC(ha:bP X a fa)(he:∀whole,isTrue a X.env whole=(do let v ←whole;standAt a.pos;Ua [v] (truthy v)):=by intro _;rfl):iH X a (cB fa):=by
 subst_eqs;show PT.imp (Bs ha he) λσ H Q h=>by
    sleep 1;obtain⟨e2,rfl⟩:=pI e;show⟨ι,ρ,C,x,C',sr,e1,λv H1 f1 c1 r1=>⟨z,?_,q H1 f1 c1⟩⟩;cases hd:aQ C' x with
    |none=>rw[hd]at e2;cases e2
    |some p=>rw[hd]at e2;show(r1.lies c1 hd).tru e2
theorem nG{f:7e3}(h:iH X a f):iH X (.UnaryOp .Not a pos) (bD f):=by
 subst_eqs;show PT.imp (KJ h) λσ H Q h=>by
   sleep 1;cases e;show⟨ι,ρ,C,x,_,sr,e1,λH1 f1 c1=>q H1 f1 c1⟩
theorem Zcg{f:7e3}(h:iH X a f):HB X (.BoolOp .And [a] pos) f:=by
 subst_eqs;show FT h
theorem IZ{f:7e3}(h:iH X a f):HB X (.BoolOp .Or [a] pos) f:=by
 subst_eqs;show KD h
theorem ZcX{rest:6e1}{f g:7e3}(h:iH X a f)(k:HB X (.BoolOp .And (b::rest) pos) g):HB X (.BoolOp .And (a::b::rest) pos) (dZ f g):=by
 subst_eqs;show PW.imp (KG h k) λσ H Q h=>by
   sleep 1;show⟨ι,ρ,C,x,C1,sr,e1,λH1 f1 c1=>?_⟩;cases x with
   |true=>rw[if_pos rfl]at e⊢;show⟨ι,ρ,C1,z,C',16e5,e,λH2 f2 c2=>q H2 (f1.trans f2) c2⟩
   |false=>rw[if_neg Yi]at e⊢;cases e;show q H1 f1 c1
theorem DZ{rest:6e1}{f g:7e3}(h:iH X a f)(k:HB X (.BoolOp .Or (b::rest) pos) g):HB X (.BoolOp .Or (a::b::rest) pos) (eZ f g):=by
 subst_eqs;show PW.imp (Qd h k) λσ H Q h=>by
   sleep 1;show⟨ι,ρ,C,x,C1,sr,e1,λH1 f1 c1=>?_⟩;cases x with
   |true=>rw[if_pos rfl]at e⊢;cases e;show q H1 f1 c1
   |false=>rw[if_neg Yi]at e⊢;show⟨ι,ρ,C1,z,C',16e5,e,λH2 f2 c2=>q H2 (f1.trans f2) c2⟩
theorem Hz{op}{f:4e5}(h:bP X a f):bP X (.BoolOp op [a] pos) f:=by
 subst_eqs;show KQ h
theorem sy{rest:6e1}{f g:4e5}(h:bP X a f)(k:bP X (.BoolOp .And (b::rest) pos) g):bP X (.BoolOp .And (a::b::rest) pos) (dk f g):=by
 subst_eqs;show PE.imp (KZ h k) λσ H Q h=>by
   sleep 1;obtain⟨k,C2,e2,e3⟩:=cD e;obtain⟨hx,hC⟩:=j8 e2;subst hx hC;clear e e2;have e:=e3;show⟨ι,ρ,C,_,C2,sr,e1,λv H1 f1 c1 r1=>⟨k,FN r1,?_⟩⟩;cases k with
   |true=>rw[if_pos rfl]at e⊢;show⟨ι,ρ,C2,z,C',16e5,e,λv' H2 f2 c2 r2=>q v' H2 (f1.trans f2) c2 r2⟩
   |false=>rw[if_neg Yi]at e⊢;cases e;show q _ H1 f1 c1 vJ
theorem Bo{f:4e5}(h:bP X a f):bP X (.UnaryOp .Not a pos) (Cj f):=by
 subst_eqs;show PE.imp (KR h) λσ H Q h=>by
   sleep 1;obtain⟨k,C2,e2,e3⟩:=cD e;obtain⟨hx,hC⟩:=j8 e2;subst hx hC;clear e e2;have e:=e3;show⟨ι,ρ,C,_,C2,sr,e1,λv H1 f1 c1 r1=>⟨k,FN r1,?_⟩⟩;cases e;show q _ H1 f1 c1 vJ
theorem vL{t:7e3}{f g:4e5}(hc:iH X c t)(h:bP X a f)(k:bP X b g):bP X (.IfExp c a b pos) (OA t f g):=by
 subst_eqs;show PE.imp (BG hc h k) λσ H Q h=>by
   sleep 1;show⟨ι,ρ,C,x,C1,sr,e1,λH1 f1 c1=>?_⟩;cases x with
   |true=>rw[if_pos rfl]at e⊢;show⟨ι,ρ,C1,z,C',16e5,e,λv H2 f2 c2 r2=>q v H2 (f1.trans f2) c2 r2⟩
   |false=>rw[if_neg Yi]at e⊢;show⟨ι,ρ,C1,z,C',16e5,e,λv H2 f2 c2 r2=>q v H2 (f1.trans f2) c2 r2⟩
theorem aU:i8 X [] ae:=by
 subst_eqs;show PA.imp K1 λσ H Q h_=>by obtain⟨ι,ρ,C,z,C',sr,e,q⟩:=h_;cases e;show q [] H .refl sr.cr rfl
theorem ao{f:4e5}{g:2e8}(h:bP X e f)(k:i8 X es g)(hs:1e9:=by rfl):i8 X 7e6 (ab f g):=by
 subst_eqs;show PA.imp (vQ h k hs) λσ H Q h=>by
   sleep 1;obtain⟨xs,C2,e2,e⟩:=cD e;cases e;show⟨ι,ρ,C,x,C1,sr,e1,λv H1 f1 c1 r1=>⟨ι,ρ,C1,xs,C',16e5,e2,λvs H2 f2 c2 r2=>q (v::vs) H2 (f1.trans f2) c2 ⟨v,vs,rfl,r1.mono c1 f2,r2⟩⟩⟩
theorem cC{k:Nat}{f:Addr}{fd:Yx}{ps:6e2}{F:List SV->M SV}{fs:2e8}(G:aN X.prog X.w X.K X.mg X.base bY k f fd ps (ar X.K F))(hr:dM k X.A)(hg:Gl X x)(hm:X.mg x=some (.ref f))(hk:YE X.K (.ref f)=true)(hb:Binds X.K fd ps [])
  (ha:i8 X 7e6 fs) (oT:4e3:=by decide) (he:1e9:=by rfl) (eN:3e4:=by rfl):
  bP X 11e8 (aT F fs):=by
 subst_eqs;show PE.imp (jY G hr hg hm hk hb .nil qy ha oT he eN) λσ H Q h=>by
   obtain⟨ι,ρ,C,z,C',sr,e,q⟩:=h;obtain⟨xs,C1,e1,e⟩:=cD e;show⟨ι,ρ,C,xs,C1,sr,e1,λvs H1 f1 c1 r1=>?_⟩;change ar X.K F (vs++[]) H1 Q E0;rw[YJ];show⟨ι,xs,C1,z,C',c1,r1,e,λv H2 f2 c2 r2=>q v H2 (f1.trans f2) c2 r2⟩
end
section
variable{X:Cx}{a b e c tg:Expr}{es:6e1}{st:Stmt}{rest zD JT:List Stmt}{f g:14e3}{pos p pos':Pos}{x:Str}
theorem gA:zL X [] aH:=by
 subst_eqs;show pM.imp F0 λD σ H h_=>by obtain⟨ι,ρ,C,fl,C',sr,e,d⟩:=h_;cases e;show d.HZ sr
theorem cA(h:nI X st f):zL X [st] f:=by
 subst_eqs;show FZ h
theorem bB(h:nI X st f)(k:zL X rest g):zL X (st::rest) (ag f g):=by
 subst_eqs;show pM.imp (Bu h k) λD σ H h_=>by
   sleep 2;obtain⟨IE,C1,e1,e⟩:=cD e;show⟨ι,ρ,C,IE,C1,sr,e1,?_⟩;cases IE with
   |nx ρ1=>show λι2 σ' H' x Ow=>⟨ι++ι2,ρ1,C1,fl,C',Ow,e,d.tr Ow.cr x⟩
   |rt r=>cases e;show d
   |bk ρ1=>cases e;show d
   |ct ρ1=>cases e;show d
   |rf ps=>cases e;show d
   |rq ps=>cases e;show d
theorem gy{t:7e3}(hc:iH X c t)(h:zL X zD f)(k:zL X JT g):nI X (.If c zD JT pos) (aV t f g):=by
 subst_eqs;show PS.imp (Qe hc h k) λD σ H h_=>by
   sleep 2;obtain⟨z,C1,e1,e⟩:=cD e;show⟨ι,ρ,C,z,C1,sr,e1,λH1 f1 c1=>?_⟩;cases z with
   |true=>rw[if_pos rfl]at e⊢;show⟨ι,ρ,C1,fl,C',16e5,e,d.fr c1 f1⟩
   |false=>rw[if_neg Yi]at e⊢;show⟨ι,ρ,C1,fl,C',16e5,e,d.fr c1 f1⟩
theorem eD{f:4e5}(h:bP X e f):nI X (.Return (some e) pos) (aX f):=by
 subst_eqs;show PS.imp (tP h) λD σ H h_=>by
   sleep 2;obtain⟨z,C1,e1,e⟩:=cD e;cases e;show⟨ι,ρ,C,z,_,sr,e1,λv H1 f1 c1 r1=>d [] v H1 (Ex.fr f1) (by rw[YJ];show c1) (by rw[YJ];show r1)⟩
theorem Zc5{f:13e6}(h:Fh X e f):nI X (.Return (some e) pos) (qI f):=by
 subst_eqs;show PS.imp (tP h) λD σ H h_=>by
   sleep 2;obtain⟨ps,C1,e1,g1⟩:=cD e;cases g1;show⟨ι,ρ,C,ps,_,sr,e1,λq vs H1 f1 c1 hq rs=>d [] q vs H1 (Ex.fr f1) (by rw[YJ];show c1) hq (by rw[YJ];show rs)⟩
theorem ye{x1}{pt:Pos}{fs:2e8}(h:i8 X es fs):nI X (.Return (some (.Tuple es x1 pt)) pos) (vX fs):=by
 subst_eqs;show PS.imp (tP (BE h)) λD σ H h_=>by
   sleep 2;obtain⟨xs,C1,e1,g1⟩:=cD e;by_cases hl:xs.length<=1000
   case neg=>rw[if_neg hl]at g1;cases g1
   rw[if_pos hl]at g1;cases g1;show⟨ι,ρ,C,xs,_,sr,e1,λvs H1 f1 c1 r1=>⟨by rw[←cb.length r1];show YI hl (by rw[YV];decide),λq hq=>d [] q vs H1 (Ex.fr f1) (by rw[YJ];show c1) hq (by rw[YJ];show r1)⟩⟩
theorem Ph{f:4e5}(h:bP X e f)(hs:Wy e none pos.line X.env=pure false:=by rfl):nI X (.Expr e pos) (dj f):=by
 subst_eqs;show PS.imp (F3 h hs) λD σ H h_=>by
   sleep 2;obtain⟨z,C1,e1,e⟩:=cD e;cases e;show⟨ι,ρ,C,z,_,sr,e1,λv H1 f1 c1 r1=>Done.HZ (sr.step f1 c1) (d.fr c1 f1)⟩
theorem dy{i:Nat}{f:4e5}(hN:X.N.Nodup)(hi:16e9)(hx:Loc X.env.scope x)(h:bP X e f)(hs:Wy e (some (.Name x pos')) pos.line X.env=pure false:=by rfl)
  (hf:7e2:=by first|show .inl rfl|show .inr rfl|assumption):nI X (.Assign [.Name x pos'] e pos) (aw i f):=by
 subst_eqs;show PS.imp (ot hN hi hx h hs hf) λD σ H h_=>by
   sleep 2;obtain⟨z,C1,e1,e⟩:=cD e;cases e;show⟨ι,ρ,C,z,_,sr,e1,λv H1 f1 c1 r1=>Done.HZ ((sr.step f1 c1).set i r1) (d.fr c1 f1)⟩
theorem Ff{i:Nat}{f:13e6}(hN:X.N.Nodup)(hi:16e9)(hx:Loc X.env.scope x)(h:Fh X e f)(hs:Wy e (some (.Name x pos')) pos.line X.env=pure false:=by rfl)
  (hf:7e2:=by first|show .inl rfl|show .inr rfl|assumption):nI X (.Assign [.Name x pos'] e pos) (ck i f):=by
 subst_eqs;show PS.imp (ot hN hi hx h hs hf) λD σ H h_=>by
   sleep 2;obtain⟨ps,C1,e1,e⟩:=cD e;cases e;show⟨ι,ρ,C,ps,C1,sr,e1,λq vs H' f1 c1 hq rs=>BU sr d f1 c1 hq rs⟩
theorem dJ{x1}{fs:2e8}(h:i8 X es fs):bP X (.Tuple es x1 pos) (bf fs):=by
 subst_eqs;show PE.imp (BE h) λσ H Q h_=>by
   sleep 11;obtain⟨xs,C1,e1,e⟩:=cD e;obtain⟨e2,rfl⟩:=pI e;show⟨ι,ρ,C,xs,_,sr,e1,λvs H1 f1 c1 r1=>?_⟩;by_cases hl:xs.length<=1000
   ·rw[if_pos hl]at e2
    cases hp:plain xs with
    |none=>rw[hp]at e2;cases e2
    |some ps=>
     rw[hp]at e2;cases e2;obtain⟨rs,hv⟩:=Zb3 hp r1;show⟨by rw[hv];show Cv hl,λq' hq=>q _ _ (f1.trans (Fr.new hq)) (c1.new hq) ?_⟩;change Rep _ _ _ 7e9 _;ext Rep;show⟨q',vs,rfl,pD,ah.d9 (λb o e=>by rw[dH (i4 e hq)];show e) ps vs rs⟩
   ·rw[if_neg hl]at e2;cases e2
theorem iy{fs:2e8}(h:i8 X es fs):Fh X (.List es pos) (aZ fs):=by
 subst_eqs;show PE.imp (KW h) λσ H Q h_=>by
   sleep 11;obtain⟨xs,C1,e1,e⟩:=cD e;obtain⟨e2,rfl⟩:=pI e;show⟨ι,ρ,C,xs,_,sr,e1,λvs H1 f1 c1 r1=>?_⟩;by_cases hl:xs.length<=1000
   ·rw[if_pos hl]at e2
    obtain⟨rs,hv⟩:=Zb3 e2 r1;show⟨by rw[hv];show Cv hl,λq' hq=>q q' vs H1 f1 c1 hq rs⟩
   ·rw[if_neg hl]at e2;cases e2
theorem fC{f:13e6}(h:Fh X e f):bP X e (aJ f):=by
 subst_eqs;show PE.imp h λσ H Q h_=>by
   sleep 11;obtain⟨ps,C1,e1,e⟩:=cD e;cases e;show⟨ι,ρ,C,ps,_,sr,e1,λq' vs H1 f1 c1 hq rs=>q _ _ (f1.trans (Fr.new hq)) (c1.new hq) (Tp c1 hq rs)⟩
theorem da{i:Nat}(hN:X.N.Nodup)(hi:16e9)(hx:Loc X.env.scope x)(hf:7e2:=by first|show .inl rfl|show .inr rfl|assumption):D4 X (.Name x pos) (hName i):=by
 subst_eqs;show PG.imp (F' hN hi hx hf) λv σ H Q h_=>by obtain⟨ι,ρ,C,p,ρ',sr,r,e,q⟩:=h_;cases e;show q _ (sr.set i r)
theorem I0:zB X [] cp:=by
 subst_eqs;show Fi.imp F9 λv σ H Q h_=>by
   obtain⟨ι,ρ,C,p,ρ',sr,r,e,q⟩:=h_;cases p with
   |nil=>cases e;show⟨r.iW,q σ sr⟩
   |cons _ _=>cases e
theorem ia{g:5e3}{gs:List PV->aG->Option aG}(h:D4 X e g)(k:zB X es gs)(hs:(Wf 7e6 X.env).map (·.2)=assign e X.env::(Wf es X.env).map (·.2):=by rfl):zB X 7e6 (aF g gs):=by
 subst_eqs;show Fi.imp (BC h k hs) λv σ H Q h_=>by
    obtain⟨ι,ρ,C,p,ρ',sr,r,e,q⟩:=h_;cases p with
    |nil=>cases e
    |cons p ps=>
     obtain⟨w,ws,rfl,r1,r2⟩:=r.inv;replace e:(g p ρ).bind (λρ'=>gs ps ρ')=some ρ':=e;cases h1:g p ρ with
     |none=>rw[h1]at e;cases e
     |some ρ1=>
      rw[h1]at e;show⟨w,ws,rfl,ι,ρ,C,p,ρ1,sr,r1,h1,λσ1 JW=>⟨ι,ρ1,C,ps,ρ',JW,r2,e,q⟩⟩
theorem IY{gs:List PV->aG->Option aG}{k n:Nat}(hc:11e1)(h:zB X es gs)(hn:(Wf es X.env).length=n:=by rfl)(yQ:(Wf es X.env).findIdx? (·.1)=none:=by rfl):D4 X (.Tuple es k pos) (cn gs n):=by
 subst_eqs;show PG.imp (KN hc h hn yQ) λv σ H Q h_=>by
    obtain⟨ι,ρ,C,p,ρ',sr,r,e,q⟩:=h_;cases p with
    |tup ps=>
     ext Rep r;obtain⟨a,vs,rfl,sq,rs⟩:=r;replace e:(if ps.length=n then gs ps ρ else none)=some ρ':=e;by_cases hl:ps.length=n
     ·rw[if_pos hl]at e
      show⟨a,vs,rfl,sq.sq,by rw[←rs.length];show hl,ι,ρ,C,ps,ρ',sr,rs,e,q⟩
     ·rw[if_neg hl]at e;cases e
    |_=>cases e
theorem Ti{f:4e5}{g:5e3}(h:bP X e f)(k:D4 X tg g)(hs:swapsWithSole [tg] e pos.line X.env=pure false:=by rfl)(hw:swappedStores [tg] e X.env=pure none:=by rfl)
  (h1:(Wf [tg] X.env).map (·.2)=[assign tg X.env]:=by rfl):nI X (.Assign [tg] e pos) (dc f g):=by
 subst_eqs;show PS.imp (Bx h k hs hw h1) λD σ H h_=>by
   sleep 2;obtain⟨z,C1,e1,e⟩:=cD e;show⟨ι,ρ,C,z,C1,sr,e1,λv H1 f1 c1 r1=>?_⟩;cases z with
   |c k=>cases e
   |v p=>
    have e:(g p ρ).map (λρ'=>(PF.nx ρ',C1))=some (fl,C'):=e;cases hg:g p ρ with
    |none=>rw[hg]at e;cases e
    |some ρ1=>
     rw[hg]at e;cases e;show⟨ι,ρ,_,p,ρ1,16e5,r1,hg,λσ' Ow=>Done.HZ Ow (d.fr c1 f1)⟩
end
section
variable{X:Cx}{e tg iter elt:Expr}{es:6e1}{body:List Stmt}{f:14e3}{pos p:Pos}{x:Str}
theorem Fe{it:13e6}{g:5e3}(hp:PassesOwn 3e6 X.A X.env X.xe)(hc:11e1)(hi:D0 X tg iter it)(hg:D4 X tg g)(hb:zL X body f)
  (hs:16e3:=by intro _;rfl):nI X (.For tg iter body [] pos) (cx it g f):=by
 subst_eqs;show PS.imp (Bv hp hc hi hg hb hs) λD σ H h_=>by
   sleep 2;obtain⟨xs,C1,e1,e⟩:=cD e;show⟨ι,ρ,C,xs,C1,sr,e1,λJ H1 f1 c1 qV=>?_⟩;have d1:=d.fr c1 f1;have JW:=sr.step f1 c1;show⟨λi m σ2 H2=>∃ι2 ρ2 C2,m=xs.length-i/\i<=xs.length/\Ex ι ι2 H1 H2/\SR X.K 9e7 H2 ρ2 σ2 C2/\loop g f (xs.drop i) ρ2 C2=some (fl,C'),⟨xs.length,[],ρ,C1,rfl,Xq _,Ex.fr .refl,by rw[YJ];show JW,e⟩,?_⟩;rintro i m σ2 H2 ⟨ι2,ρ2,C2,rfl,CJ,x2,jx,e2⟩;rcases YU i xs.length with dQ|hge
   ·right
    show⟨qV.go ι2 H2 C2 x2 jx.cr i dQ,λσ' H'=>∃ι2 ρ2 C2,Ex ι ι2 H1 H'/\SR X.K 9e7 H' ρ2 σ' C2/\loop g f (xs.drop (i+1)) ρ2 C2=some (fl,C'),?_,?_⟩
    ·rintro σ' H' ⟨ι3,ρ3,C3,x3,sr3,e3⟩
     show⟨xs.length-(i+1),by lia,ι3,ρ3,C3,rfl,dQ,x3,sr3,e3⟩
    ·intro v H3 y
     obtain⟨sm,q,hq,rq⟩:=qV.zS ι2 H2 C2 x2 jx.cr i v H3 dQ y;have hd:xs.drop i=q::xs.drop (i+1):=by
      rw[WT dQ];rw[Yc dQ]at hq;rw[YF hq]
     rw[hd]at e2;ext loop e2;cases yS:g q ρ2 with
     |none=>rw[yS]at e2;cases e2
     |some ρ3=>
      rw[yS]at e2;obtain⟨IE,C3,e3,e4⟩:=cD e2;have m7:Fr 9e7 H2 H3:=λb o _ z=>sm b o z;have ng:CR X.K 9e7 H3 C2:=jx.cr.same sm;have x3:Ex ι ι2 H1 H3:=⟨λb o n z=>sm b o (x2.1 b o n z),x2.2⟩
      show⟨ι++ι2,ρ2,C2,q,ρ3,jx.step m7 ng,rq,yS,λσ4 FC=>⟨ι++ι2,ρ3,C2,IE,C3,FC,e3,?_⟩⟩;cases IE with
      |nx ρ5=>show λι5 σ5 H5 x5 n6=>⟨ι2++ι5,ρ5,C3,x3.trans ng x5,by rw[←YC];show n6,e4⟩
      |ct ρ5=>show λι5 σ5 H5 x5 n6=>⟨ι2++ι5,ρ5,C3,x3.trans ng x5,by rw[←YC];show n6,e4⟩
      |bk ρ5=>cases e4;show λι5 σ5 H5 x5 n6=>d1 (ι2++ι5) σ5 H5 (x3.trans ng x5) (by rw[←YC];show n6)
      |rf ps=>cases e4;show λι5 q5 JH H5 x5 c5 h5 r5=>d1 (ι2++ι5) q5 JH H5 (x3.trans ng x5) (by rw[←YC];show c5) h5 (by rw[←YC];show r5)
      |rq ps=>cases e4;show λι5 q5 JH H5 x5 c5 h5 r5=>d1 (ι2++ι5) q5 JH H5 (x3.trans ng x5) (by rw[←YC];show c5) h5 (by rw[←YC];show r5)
      |rt r=>cases e4;show λι5 v5 H5 x5 c5 r5=>d1 (ι2++ι5) v5 H5 (x3.trans ng x5) (by rw[←YC];show c5) (by rw[←YC];show r5)
   ·left
    have RE:i=xs.length:=by lia
    subst RE;rw[V6]at e2;cases e2;show⟨qV.stop ι2 H2 _ x2 jx.cr,d1 ι2 σ2 H2 x2 jx⟩
section
variable{ifs:6e1}{scope:Scope}{vs fs:6e2}{fr:12e9}{it:13e6}{g:5e3}{tt:7e3}{te:4e5}
theorem ZaX:vo X [] dD:=by
 subst_eqs;show λpins s σ H Q I h_=>by
   obtain⟨ι,ρ,C,b,C',sr,e,q⟩:=h_;cases e;show FX pins s σ H Q I (q H .refl sr.cr)
theorem Pc{c:Expr}{t:7e3}(h:iH X c t):vo X [c] t:=by
 subst_eqs;show FW h
theorem vk(S:12e3)(hc:11e1)(hi:D0 X tg iter it)
  (bG:∀C s₀ H₀ ex pn,D4 2e0 tg g) (bT:∀C s₀ H₀ ex pn,vo 2e0 ifs tt) (bE:∀C s₀ H₀ ex pn,bP 2e0 elt te)
  (hs:16e3:=by intro _;rfl):Fh X (.ListComp elt [13e1] scope pos) (aO it vs fr g tt te):=by
 subst_eqs;show PE.imp (BI (wi:=PH X.K it) (g:=HN X.K g) (tt:=Ae X.K tt) (te:=tM X.K te) S hc hi bG bT (λ_ _ _ _ _=>.nil) bE hs) λσ H Q ⟨ι,ρ,C,res,C',sr,e,q⟩=>ZdP sr e q
theorem Tx{i:Nat}{px fZ:Pos}(hN:X.N.Nodup)(hx:16e9)(hl:X.env.scope.names.lookup x=some .local)(S:12e3)(hc:11e1)(hi:D0 X tg iter it)
  (bG:∀C s₀ H₀ ex pn,D4 2e0 tg g) (bT:∀C s₀ H₀ ex pn,vo 2e0 ifs tt) (bE:∀C s₀ H₀ ex pn,bP 2e0 elt te)
  (hsw:Wy (.ListComp elt [13e1] scope pos) (some (.Name x px)) fZ.line X.env=pure true:=by rfl) (hs:16e3:=by intro _;rfl):
  nI X (.Assign [.Name x px] (.ListComp elt [13e1] scope pos) fZ) (aw i (aJ (aO it vs fr g tt te))):=by
 subst_eqs;show PS.imp (Bw (gs:=[]) (rest:=[]) (g:=HN X.K g) (tt:=Ae X.K tt) (te:=tM X.K te) hN hx hl S hc hi bG bT (λ_ _ _ _ _=>.nil) bE hsw hs) λD σ H h_=>by
   sleep 2;obtain⟨z,C1,e1,e⟩:=cD e;cases e;obtain⟨res,C2,e2,e3⟩:=cD e1;cases e3;show ZdP sr e2 λq vs H' f1 c1 hq rs=>Done.HZ (((sr.step f1 c1).step (Fr.new hq) (c1.new hq)).set i (s:=.v (.lst _)) (Tp c1 hq rs)) (d.fr (c1.new hq) (f1.trans (Fr.new hq)))
end
end
theorem Pg{X:Cx}{e:Expr}{es:6e1}{p pos:Pos}{x:Str}{k:Nat}{f:Addr}{fd:Yx}{ps:6e2}{F:List SV->M 7e7}{fs:2e8}(G:aN X.prog X.w X.K X.mg X.base bY k f fd ps (gc X.K F))(hr:dM k X.A)(hg:Gl X x)(hm:X.mg x=some (.ref f))(hk:YE X.K (.ref f)=true)(hb:L2.Binds X.K fd ps [])
  (ha:i8 X 7e6 fs) (oT:4e3:=by decide) (he:1e9:=by rfl) (eN:3e4:=by rfl):
  Fh X 11e8 (fu F fs):=by
 subst_eqs;show PE.imp (jY G hr hg hm hk hb .nil qy ha oT he eN) λσ H Q h_=>by
   sleep 11;obtain⟨xs,C1,e1,g1⟩:=cD e;show⟨ι,ρ,C,xs,C1,sr,e1,λvs H1 f1 c1 r1=>?_⟩;change gc X.K F (vs++[]) H1 Q E0;rw[YJ];show⟨ι,xs,C1,z,C',c1,r1,g1,λq' ws H2 f2 c2 h2 r2=>q q' ws H2 (f1.trans f2) c2 h2 r2⟩
section
variable{P:Ys}{w:World}{K:W.Frag}{mg:2e5}{base:Heap}
theorem gS{x qual:Str}{st:Stmt}{f:Addr}{fd:Yx}{N ps:6e2}{k:Nat}{body:14e3}(F:eV K x qual st f fd)(S:aR N ps (ay st))
  (kN:∀(cdv:Value)(A:Around)(outer:List Env)(s:Shared)(H:Hp)(E:XK),dM k (A.deeper (envOfC qual (ay st) s.heap.objs.size f cdv))->
   zL (rQ bY P w K mg base N qual (ay st) f cdv A outer s H E).Oy (en st) body):aN P w K mg base bY (k+1) f fd ps (ar K (bZ ps.length (N.length-ps.length) body)):=by
 subst_eqs;show F.ok S (λvs H Q E h_=>?_) (λcdv A outer s H vs Q E hr h_=>?_)<;>obtain⟨ι,ss,C,r,C',cr,rs,e,q⟩:=h_
 ·ext bZ e
  by_cases h:ss.length=ps.length
  ·rw[←cb.length rs];show h
  ·rw[if_neg h]at e;cases e
 ·show⟨_,kN cdv A outer s H E hr,?_⟩
  ext bZ e;by_cases h:ss.length=ps.length
  case neg=>rw[if_neg h]at e;cases e
  rw[if_pos h]at e;have sr:=p8 (N:=N) cr rs;rw[h]at sr;cases hb:body (ss.map some++WP (N.length-ps.length) none) C with
  |none=>rw[hb]at e;cases e
  |some z=>
   obtain⟨fl,C2⟩:=z;rw[hb]at e;show⟨ι,_,C,fl,C2,sr,hb,?_⟩;cases fl with
   |rt r2=>
    intro ι2 v H' x c r3;obtain⟨c4,r4⟩:=kW c cr.len r3 e;show q v H' x.1 c4 r4
   |nx ρ2=>
    intro ι2 σ' H' x Ow;cases e;show q .aP H' x.1 (Ow.cr.cut cr.len) ?_;change Rep K ι H' .aP .aP;ext Rep;rfl
   |rf ft=>
    intro ι2 p' zW H' x c hp P0;cases e;have hs:∀b o,H' b=some o->b∉ι++ι2->b∉ι:=λb o _ z q=>z (YM _ q);have c4:=c.cut cr.len;show q _ _ (x.1.trans (Fr.new hp)) (c4.new hp) (show Rep _ _ _ _ _ from Tp c4 hp (ah.cells hs _ _ P0))
   |rq yd=>
    intro ι2 p' zW H' x c hp P0;replace e:(fS C.length C2 yd).map (λps=>(SV.v 7e9,C2.take C.length))=some (r,C'):=e;cases hq:fS C.length C2 yd with
    |none=>rw[hq]at e;cases e
    |some ft=>
     rw[hq]at e;cases e;have c4:=c.cut cr.len;show q _ _ (x.1.trans (Fr.new hp)) (c4.new hp) ?_;change Rep _ _ _ (.tup ft) _;ext Rep;show⟨p',zW,rfl,pD,ah.d9 (λb o e=>by rw[dH (i4 e hp)];show e) _ _ (oU c cr.len P0 hq)⟩
   |bk _=>cases e
   |ct _=>cases e
theorem Bn{x qual:Str}{st:Stmt}{f:Addr}{fd:Yx}{N ps:6e2}{k:Nat}{body:14e3}(F:eV K x qual st f fd)(S:aR N ps (ay st))
  (kN:∀(cdv:Value)(A:Around)(outer:List Env)(s:Shared)(H:Hp)(E:XK),dM k (A.deeper (envOfC qual (ay st) s.heap.objs.size f cdv))->
   zL (rQ bY P w K mg base N qual (ay st) f cdv A outer s H E).Oy (en st) body):aN P w K mg base bY (k+1) f fd ps (gc K (mK ps.length (N.length-ps.length) body)):=by
 subst_eqs;show F.ok S (λvs H Q E h_=>?_) (λcdv A outer s H vs Q E hr h_=>?_)<;>obtain⟨ι,ss,C,r,C',cr,rs,e,q⟩:=h_
 ·ext mK e
  by_cases h:ss.length=ps.length
  ·rw[←cb.length rs];show h
  ·rw[if_neg h]at e;cases e
 ·show⟨_,kN cdv A outer s H E hr,?_⟩
  ext mK e;by_cases h:ss.length=ps.length
  case neg=>rw[if_neg h]at e;cases e
  rw[if_pos h]at e;have sr:=p8 (N:=N) cr rs;rw[h]at sr;cases hb:body (ss.map some++WP (N.length-ps.length) none) C with
  |none=>rw[hb]at e;cases e
  |some z=>
   obtain⟨fl,C2⟩:=z;rw[hb]at e;show⟨ι,_,C,fl,C2,sr,hb,?_⟩;cases fl with
   |rf ft=>
    intro ι2 p' zW H' x c hp P0;cases e;have hs:∀b o,H' b=some o->b∉ι++ι2->b∉ι:=λb o _ z q=>z (YM _ q);show q p' zW H' x.1 (c.cut cr.len) hp (ah.cells hs _ _ P0)
   |_=>cases e
end
end Pu
namespace Pu
open PySem PySem.Spec L2
open PyProof.Rows hiding St Fr
section
variable{X:Cx}
variable{a b e c:Expr}{es:6e1}{fa fb fc:4e5}{pos p:Pos}{x:Str}
theorem eU(ha:bP X a fa)(hb:bP X b fb):bP X (.BinOp a .Add b pos) (ak 5e4 fa fb):=by
 subst_eqs;show m9 yx NX.r ha hb
theorem Th(ha:bP X a fa)(hb:bP X b fb):bP X (.BinOp a .Sub b pos) (ak (g2 fY) fa fb):=by
 subst_eqs;show m9 K3 (S' λ_ _ _ _=>hV).r ha hb
theorem vj(ha:bP X a fa)(hb:bP X b fb):bP X (.BinOp a .Mult b pos) (ak (g2 dE) fa fb):=by
 subst_eqs;show m9 K5 (oK λi j h=>by
   rw[Uj]at h;rcases h with h|h
   ·show .inl (of_decide_eq_true h)
   ·show .inr (of_decide_eq_true h)).r ha hb
theorem pJ(ha:bP X a fa)(hb:bP X b fb):bP X (.BinOp a .Mod b pos) (ak (g2 fQ) fa fb):=by
 subst_eqs;show m9 K6 (oK λi j h=>of_decide_eq_true h).r ha hb
theorem yj(ha:bP X a fa)(hb:bP X b fb):bP X (.BinOp a .FloorDiv b pos) (ak (g2 IF) fa fb):=by
 subst_eqs;show m9 Gd (oK λi j h=>(of_decide_eq_true h:0<j/\j<1073741824)).r ha hb
theorem km(ha:bP X a fa)(hb:bP X b fb):bP X (.BinOp a .Pow b pos) (ak (g2 F4) fa fb):=by
 subst_eqs;show m9 K4 (oK λi j h=>by
   have h:=of_decide_eq_true h;show⟨h.1,Int.le_trans h.2.1 (by decide),h.2.2⟩).r ha hb
theorem qp(ha:bP X a fa):bP X (.UnaryOp .USub a pos) (tY fa):=by
 subst_eqs;show PE.imp (Qh JI ha) λσ H Q h_=>?_;obtain⟨ι,ρ,C,z,C',sr,e,k⟩:=h_;obtain⟨x,C1,e1,e⟩:=cD e;obtain⟨e2,rfl⟩:=pI e;show⟨ι,ρ,C,x,_,sr,e1,λv H1 f1 c1 r1=>?_⟩;ext Gs e2;split at e2
 ·rename_i i hd
  cases e2;have l:=r1.lies c1 hd;cases l;show⟨i,rfl,k _ H1 f1 c1 (show Rep _ _ _ _ _ from hV)⟩
 ·cases e2
end
section
variable{X:Cx}{a b e c o:Expr}{es:6e1}{fa fb fc fo:4e5}{fs:2e8}{pos p apos dg:Pos}{x:Str}
theorem IX(iD:Gl X "isinstance")(hm:X.mg "isinstance"=none)(hv:Xb "isinstance"=some (.builtin "isinstance"))(ha:i8 X 7e6 fs)
  (he:1e9:=by rfl) (eN:3e4:=by rfl):bP X (.Call (.Name "isinstance" p) 7e6 [] pos) (bt (g1 hX) fs):=by
 subst_eqs;show Td DH Mv.c iD hm hv ha 1e2 1e2 he eN
theorem l5(iD:Gl X "len")(hm:X.mg "len"=none)(ha:i8 X 7e6 fs)
  (he:1e9:=by rfl) (eN:3e4:=by rfl):bP X (.Call (.Name "len" p) 7e6 [] pos) (bt 7e5 fs):=by
 subst_eqs;show Td DG Mc.c iD hm PySem.boot_len ha 1e2 1e2 he eN
theorem kn(hc:11e1)(iD:Gl X "max")(hm:X.mg "max"=none)(hv:Xb "max"=some (.builtin "max"))(ha:i8 X 7e6 fs)
  (he:1e9:=by rfl) (eN:3e4:=by rfl):bP X (.Call (.Name "max" p) 7e6 [] pos) (bt (g1 lP) fs):=by
 subst_eqs;show Td (zm hc) L0.c iD hm hv ha 1e2 1e2 he eN
theorem Bp(hc:11e1)(iD:Gl X "min")(hm:X.mg "min"=none)(hv:Xb "min"=some (.builtin "min"))(ha:i8 X 7e6 fs)
  (he:1e9:=by rfl) (eN:3e4:=by rfl):bP X (.Call (.Name "min" p) 7e6 [] pos) (bt (g1 tW) fs):=by
 subst_eqs;show Td (zl hc) LY.c iD hm hv ha 1e2 1e2 he eN
theorem Zcj(iD:Gl X "int")(hm:X.mg "int"=none)(hv:Xb "int"=some (.type "int"))(ha:i8 X 7e6 fs)
  (he:1e9:=by rfl) (eN:3e4:=by rfl):bP X (.Call (.Name "int" p) 7e6 [] pos) (bt (g1 gO) fs):=by
 subst_eqs;show Zcs zo GO.c iD hm hv ha 1e2 1e2 he eN
theorem Pf(iD:Gl X "tuple")(hm:X.mg "tuple"=none)(hv:Xb "tuple"=some (.type "tuple"))(ha:i8 X 7e6 fs)
  (he:1e9:=by rfl) (eN:3e4:=by rfl):bP X (.Call (.Name "tuple" p) 7e6 [] pos) (bt (g1 eY) fs):=by
 subst_eqs;show Zcs l0 JL.c iD hm hv ha 1e2 1e2 he eN
theorem Pl(hc:11e1)(iD:Gl X "all")(hm:X.mg "all"=none)(hv:Xb "all"=some (.builtin "all"))(ha:i8 X 7e6 fs)
  (he:1e9:=by rfl) (eN:3e4:=by rfl):bP X (.Call (.Name "all" p) 7e6 [] pos) (bt (g1 gG) fs):=by
 subst_eqs;show Td (sf hc) NW.c iD hm hv ha 1e2 1e2 he eN
end
section
variable{X:Cx}{a b e c o i:Expr}{es:6e1}{fa fb fc fo fi fv:4e5}{fs:2e8}{pos p apos dg:Pos}{x:Str}
theorem Pm(ho:bP X o fo)(ha:i8 X 7e6 fs)(CL:attributeBase o "append" X.env (eval o X.env)=eval o X.env:=by rfl)
  (ML:((backTo dg (Yo 7e6 X.env)).all (λx=>!x.1)&&(backToKw dg (keywordEach [] X.env)).all (λx=>x.1.isSome)
   &&decide ((e::es).length+([]:List Keyword).length+(if([]:List Keyword).isEmpty then 0 else 1)<30))=true:=by rfl)
  (CG:(apos.endLine==dg.line)=true:=by rfl) (hs:1e9:=by rfl) (uo:(backTo dg (Yo es X.env)).any (·.1)=false:=by rfl):
  bP X (.Call (.Attribute o "append" apos) 7e6 [] dg) (eM fo fs):=by
 subst_eqs;show PE.imp (Qk PySem.F.plainAttrs_list PySem.F.slot_list_append PySem.F.type_list_append yy ho ha CL ML CG hs uo) λσ H Q h_=>by
    sleep 11;obtain⟨x,C1,e1,g1⟩:=cD e;obtain⟨u,C2,e2,g2⟩:=cD g1;obtain⟨ys,C3,e3,g3⟩:=cD g2;obtain⟨hC,k,ZE,hx,hc0⟩:=uh e2;obtain⟨k',p',ps,Mx,hy,hc,hl,hr,hC'⟩:=zp g3;clear e g1 g2 g3 e2;subst hC hx hr hC' hy;cases Mx;show⟨ι,ρ,C,_,_,sr,e1,λv H1 f1 c1 r1=>?_⟩;obtain⟨a,rfl,hk⟩:=r1;obtain⟨vs0,h0,_⟩:=k6 c1 hk hc0;show⟨.inl ⟨rfl,_,.of h0⟩,ι,ρ,_,_,C3,16e5,e3,λws H2 f2 c2 r2=>?_⟩;obtain⟨w,wr,rfl,rw1,hw⟩:=r2;cases(show wr=[]from hw);obtain⟨vs,h1,rv⟩:=k6 c2 hk hc;obtain⟨c4,f4⟩:=Dy c2 hk (rv.append (.cons rw1 .nil));show⟨a,vs,w,rfl,rfl,h1,by rw[←rv.length];show Yu hl (oH (Yl _)),q _ _ (f1.trans (f2.trans f4)) c4 (show Rep _ _ _ _ _ from Van)⟩
theorem ZdF{fZ:Pos}(hv:bP X e fv)(ho:bP X o fo)(hi:bP X i fi)
  (ha:∀v,assign (.Subscript o i fZ) X.env v=(do
   let ov ←Ua [v] (eval o X.env)
   let iv ←Ua [v,ov] (eval i X.env)
   standAt fZ
   Ua [v,ov,iv] (setItem ov iv v)
   release [v,ov,iv] []):=by intro _;rfl)
  (hs:swapsWithSole [.Subscript o i fZ] e pos.line X.env=pure false:=by rfl) (hw:swappedStores [.Subscript o i fZ] e X.env=pure none:=by rfl)
  (h1:(Wf [.Subscript o i fZ] X.env).map (·.2)=[assign (.Subscript o i fZ) X.env]:=by rfl):nI X (.Assign [.Subscript o i fZ] e pos) (kB fv fo fi):=by
 subst_eqs;show PS.imp (Bx hv (KO ho hi set_list ha) hs hw h1) λD σ H h_=>by
    sleep 2;obtain⟨v,C1,e1,g1⟩:=cD e;obtain⟨o,C2,e2,g2⟩:=cD g1;obtain⟨i,C3,e3,g3⟩:=cD g2;obtain⟨k,n,p',ps,j,ho,hi,hv,hc,hj,hf,hC⟩:=xU g3;clear e g1 g2 g3;subst ho hi hv hf hC;show⟨ι,ρ,C,_,C1,sr,e1,λx H1 f1 c1 r1=>⟨ι,ρ,C1,_,C2,16e5,e2,λy H2 f2 c2 r2=>⟨ι,ρ,C2,_,C3,(sr.step f1 c1).step f2 c2,e3,λw H3 f3 c3 r3=>?_⟩⟩⟩;obtain⟨a,rfl,hk⟩:=r2;have r3:w=.int n:=by unfold cw Rep at r3;show r3
    obtain⟨vs,h1,rv⟩:=k6 c3 hk hc;have Qc:Rep X.K ι H3 p' x:=Rep.mono c2 f3 _ _ (Rep.mono c1 f2 _ _ r1);obtain⟨c4,f4⟩:=Dy c3 hk (rv.set j Qc);show⟨a,vs,n,j,rfl,r3,h1,by rw[←rv.length];show hj,?_⟩;show Done.HZ ((((sr.step f1 c1).step f2 c2).step f3 c3).step f4 c4) (d.fr c4 (f1.trans (f2.trans (f3.trans f4))))
variable{tg l:Expr}
theorem pK(hl:bP X l fa):D0 X tg l (aE fa):=by
 subst_eqs;intro pins s σ H R I h;obtain⟨ι,ρ,C,xs,C',sr,e,q⟩:=h;obtain⟨x,C1,e1,e⟩:=cD e;obtain⟨e2,rfl⟩:=pI e;show cF (hl pins s σ H (λv H1=>Fr ι H H1/\CR X.K ι H1 C'/\cw X.K ι H1 x v) I ⟨ι,ρ,C,x,C',sr,e1,λv H1 f1 c1 r1=>⟨f1,c1,r1⟩⟩) λv s1 h_=>?_;obtain⟨y,H1,I1,r1,f1,c1,rx⟩:=h_;have fp:∀b∈[s1.heap.objs.size],fe X pins H1 b:=λb hb=>by
  have e:b=s1.heap.objs.size:=by simpa using hb
  subst e;show I1.G8 (Yl _) (I1.bV.fresh (Yl _))
 ext bz e2;split at e2
 ·cases e2
  have rx:Rep X.K ι H1 (.lst _) y:=rx;ext Rep rx;obtain⟨a,vs,rfl,hq,rv⟩:=rx;cases r1;obtain⟨aM,_,p,hz⟩:=I1.list hq.sq;show Vm p.isList ?_;show⟨s1.heap.objs.size,[s1.heap.objs.size],_,_,H1,rfl,I1.kept (t':=s1.toks) λb o e=>Yb _ e,xK a _,⟨_,Yw _ rfl,rfl,rfl⟩,fp,q _ H1 f1 c1 (yJ c1 hq rv)⟩
 ·cases e2
  have rx:Rep X.K ι H1 (.tup _) y:=rx;ext Rep rx;obtain⟨a,vs,rfl,hq,rv⟩:=rx;cases r1;obtain⟨aM,_,p,hz⟩:=I1.tuple hq.sq;show wpAny_pyIter_tuple (show s1.heap.IsTuple a aM.toArray from p) ?_;show⟨s1.heap.objs.size,[s1.heap.objs.size],_,_,H1,rfl,I1.kept (t':=s1.toks) λb o e=>Yb _ e,sX a _,⟨_,Yw _ rfl,rfl,rfl⟩,fp,q _ H1 f1 c1 (CB c1 hq.sq rv)⟩
 ·cases e2
  have rx:Rep X.K ι H1 (.str _) y:=rx
  rename Str=>z
  ext Rep rx;obtain⟨rfl,hz⟩:=rx;obtain⟨t,rfl⟩:=r1;cases ha:z.cps.all (· < 128)
  ·show wpAny_pyIter_wide ha ⟨s1.heap.objs.size,[s1.heap.objs.size],_,_,H1,rfl,I1.kept (t':=s1.toks) λb o e=>Yb _ e,pV (t:=t) (.inr rfl),⟨_,Yw _ rfl,rfl,rfl⟩,fp,q _ H1 f1 c1 qU⟩
  ·show wpAny_pyIter_ascii ha ⟨s1.heap.objs.size,[s1.heap.objs.size],_,_,H1,rfl,I1.kept (t':=s1.toks) λb o e=>Yb _ e,pV (t:=t) 18e0,⟨_,Yw _ rfl,rfl,rfl⟩,fp,q _ H1 f1 c1 qU⟩
 ·cases e2
theorem Fb(hg:Gl X "range")(hm:X.mg "range"=none)(ha:i8 X [a] fs)(hs:Yo [a] X.env=[(false,eval a X.env)]:=by rfl):D0 X tg (.Call (.Name "range" p) [a] [] pos) (aK fs):=by
 subst_eqs;show PI.imp (yq hg hm ha hs) λσ H R h_=>by
    obtain⟨ι,ρ,C,xs,C',sr,e,q⟩:=h_;obtain⟨zs,C1,e1,g1⟩:=cD e;obtain⟨e2,hC⟩:=pI g1;subst hC;show⟨ι,ρ,C,zs,_,sr,e1,λvs H1 f1 c1 r1=>?_⟩;obtain⟨j,rfl,h,rfl⟩:=xZ e2;obtain⟨v,w,rfl,r1,hw⟩:=r1;cases(show w=[]from hw);have r1:v=.int j:=by unfold cw Rep at r1;show r1
    subst r1;show⟨j,rfl,by lia,by lia,q _ H1 f1 c1 ZdK⟩
theorem ql(hg:Gl X "range")(hm:X.mg "range"=none)(ha:i8 X [a,b] fs)(hs:Yo [a,b] X.env=[(false,eval a X.env),(false,eval b X.env)]:=by rfl)(mY:Yo [b] X.env=[(false,eval b X.env)]:=by rfl):D0 X tg (.Call (.Name "range" p) [a,b] [] pos) (iQ fs):=by
 subst_eqs;show PI.imp (yp hg hm ha hs mY) λσ H R h_=>by
    obtain⟨ι,ρ,C,xs,C',sr,e,q⟩:=h_;obtain⟨zs,C1,e1,g1⟩:=cD e;obtain⟨e2,hC⟩:=pI g1;subst hC;show⟨ι,ρ,C,zs,_,sr,e1,λvs H1 f1 c1 r1=>?_⟩;obtain⟨i,j,rfl,h,rfl⟩:=xY e2;obtain⟨v,w,rfl,r1,hw⟩:=r1;obtain⟨v2,w2,rfl,r2,hw⟩:=hw;cases(show w2=[]from hw);have r1:v=.int i:=by unfold cw Rep at r1;show r1
    have r2:v2=.int j:=by unfold cw Rep at r2;show r2
    subst r1 r2;show⟨i,j,rfl,⟨by lia,by lia,by lia,by lia⟩,q _ H1 f1 c1 ZdK⟩
end
section
variable{X:Cx}{a b e c o i:Expr}{es:6e1}{fa fb fc fo fi fv:4e5}{fs:2e8}{pos p apos dg p2:Pos}{x:Str}{lo hi:Option Expr}{l h:aG->M (Option Int)}
theorem pL:Pn X none ic:=by
 subst_eqs;show PO.imp F6 λσ H Q h_=>by obtain⟨ι,ρ,C,r,C',sr,e,q⟩:=h_;cases e;show q H .refl sr.cr
theorem nH(he:bP X e fa):Pn X (some e) (bA fa):=by
 subst_eqs;show PO.imp (F5 he) λσ H Q h_=>by
   obtain⟨ι,ρ,C,r,C',sr,e,q⟩:=h_;obtain⟨z,C1,e1,g1⟩:=cD e;obtain⟨e2,hC⟩:=pI g1;subst hC;show⟨ι,ρ,C,z,_,sr,e1,λv H1 f1 c1 r1=>?_⟩;ext intD e2;split at e2
   ·rename_i j hd
    cases e2;have l:=r1.lies c1 hd;cases l;show⟨j,rfl,q H1 f1 c1⟩
   ·cases e2
theorem pE(he:bP X e fa)(hl:Pn X lo l)(hh:Pn X hi h):bP X (.Subscript e (.Slice lo hi none p2) pos) (bg fa l h):=by
 subst_eqs;show PE.imp (BF (Fg.or FG (Fg.or JY FF)) he hl hh) λσ H Q h_=>by
    sleep 11;obtain⟨x,C1,e1,g1⟩:=cD e;obtain⟨i,C2,e2,g2⟩:=cD g1;obtain⟨j,C3,e3,g3⟩:=cD g2;obtain⟨e4,hC⟩:=pI g3;subst hC;clear e g1 g2 g3;show⟨ι,ρ,C,x,C1,sr,e1,λv H1 f1 c1 r1=>⟨ι,ρ,C1,i,C2,16e5,e2,λH2 f2 c2=>⟨ι,ρ,C2,j,_,(sr.step f1 c1).step f2 c2,e3,λH3 f3 c3=>?_⟩⟩⟩;have fr:=f1.trans (f2.trans f3);have r3:=(r1.mono c1 f2).mono c2 f3;rcases qd e4 with⟨xs,hd,rfl⟩|⟨xs,hd,rfl⟩
    ·obtain⟨a,vs,rfl,h1,rv⟩:=il (r3.lies c3 hd)
     show .inl ⟨a,vs,rfl,h1,λp hp=>q _ _ (fr.trans (Fr.new hp)) (c3.new hp) (show Rep _ _ _ _ _ from Tp c3 hp (qg rv i j))⟩
    ·obtain⟨a,vs,rfl,h1,rv⟩:=iR (r3.lies c3 hd)
     by_cases hw:HT.cj vs.length 0 i=0/\HT.cj vs.length vs.length j=vs.length
     ·show .inr (.inr ⟨a,vs,rfl,h1.sq,hw,?_⟩)
      rw[←rv.length]at hw;rw[zi hw]at q;show q _ H3 fr c3 (show Rep _ _ _ _ _ by ext Rep;show⟨a,vs,rfl,h1,rv⟩)
     ·show .inr (.inl ⟨a,vs,rfl,h1.sq,hw,λp hp=>q _ _ (fr.trans (Fr.new hp)) (c3.new hp) (show Rep _ _ _ _ _ from O' hp (qg rv i j))⟩)
end
section
variable{X:Cx}{a b e c o i:Expr}{es:6e1}{fa fb fc fo fi fv:4e5}{fs:2e8}{pos p apos dg p2:Pos}{x:Str}
theorem dB(hu:X.A.units+1<cLine)(ha:bP X a fa)(hb:bP X b fb)(hs:i9 b:=by show λ_ _=>rfl):bP X (.Subscript a b pos) (ak 3e7 fa fb):=by
 subst_eqs;show Dh (xF.or Cw (wk hu)) Cz.r ha hb hs
end
section
variable{X:Cx}{a b e c o i:Expr}{es:6e1}{fa fb fc fo fi fv:4e5}{fs:2e8}{pos p apos dg p2:Pos}{x:Str}{d:Addr}{tab:14e2}
theorem qm(hg:Gl X x)(hm:X.mg x=some (.ref d))(hd:4e3:=by decide):bP X (.Name x pos) (mC (.fn d)):=by
 subst_eqs;show IV (ox (v:=.ref d) hg hm rfl hd) λι H=>by ext Rep;rfl
theorem tG(T:TopD X.K X.w d tab)(ha:bP X a fa)(hb:bP X b fb)(hs:i9 b:=by show λ_ _=>rfl):bP X (.Subscript a b pos) (ak (z9 d tab) fa fb):=by
 subst_eqs;show Dh (Mo T) Fv ha hb hs
theorem tL{k:Nat}{T:List (Addr×(List SV->M SV))}(i:Nat)(bV:∀a F,T.lookup a=some F->∃fd ps,aN X.prog X.w X.K X.mg X.base bY k a fd ps (ar X.K F)/\YE X.K (.ref a)=true/\L2.Binds X.K fd ps [])(hr:dM k X.A)(ha:i8 X 7e6 fs)
  (hN:16e9:=by rfl) (hv:N7 X.env.scope x:=by first|show Or.inl rfl|show Or.inr 2e1|show Or.inr 16e0) (oT:4e3:=by decide) (rj:(x==("__classdict__":Str))=false:=by decide)
  (he:1e9:=by rfl) (eN:3e4:=by rfl):
  bP X 11e8 (tZ i T fs):=by
 subst_eqs;intro pins s σ H Q I h_;sleep 11;obtain⟨f,C1,e1,g1⟩:=cD e;obtain⟨xs,C2,e2,g2⟩:=cD g1;obtain⟨a,F,rfl,hT,e3⟩:=u6 g2;obtain⟨fd,ps,G,hk,hb⟩:=bV a F hT;show W6 (cF (Dg i hN hv oT rj pins s σ H (λv H1=>Fr ι H H1/\CR X.K ι H1 C1/\v=.ref a) I ⟨ι,ρ,C,_,C1,sr,e1,λv H1 f1 c1 r1=>⟨f1,c1,by unfold cw Rep at r1;show r1⟩⟩) λu s1 h_=>?_);obtain⟨v,H1,I1,r1,f1,c1,hv⟩:=h_;subst hv;cases r1;show W.callWith_K (h₀:=X.base) I.ok.mod.OF hk (cF (ha pos pins s1 σ H1 (λvs H2=>Fr ι H1 H2/\CR X.K ι H2 C2/\cb X.K ι H2 xs vs) I1 ⟨ι,ρ,C1,xs,C2,16e5,e2,λvs H2 f2 c2 r2=>⟨f2,c2,r2⟩⟩) λus s2 ⟨vs,H2,I2,r2,f2,c2,rs⟩=>⟨I2.kI,?_⟩) he eN;show A8 (dvs:=[]) (ds:=[]) G hr hb .nil qy I2 r2 ?_;rw[YJ];show⟨ι,xs,C2,z,C',c2,rs,e3,λv H3 f3 c3 r3=>q v H3 (f1.trans (f2.trans f3)) c3 r3⟩
theorem tI:bP X (.Dict [] [] pos) kC:=by
 subst_eqs;show PE.imp qx λσ H Q h_=>by
   sleep 11;cases e;intro p hp;show q _ _ (Fr.new hp) (sr.cr.new hp) ?_;change Rep _ _ _ (.b5 [] []) _;ext Rep;show⟨p,[],[],rfl,λz=>?_,pD,rfl,rfl,.nil⟩;rcases sr.cr.mut z with⟨_,e⟩|⟨_,e⟩|⟨_,e⟩
   ·rw[hp]at e;cases e
   ·rw[hp]at e;cases e
   ·rw[hp]at e;cases e
end
theorem Bm{X:Cx}{a b:Expr}{fs:2e8}{elts:6e1}{x1:Nat}{pX p pos:Pos}(hg:Gl X "zip")(hm:X.mg "zip"=none)(ha:i8 X [a,b] fs)
  (hs:Yo [a,b] X.env=[(false,eval a X.env),(false,eval b X.env)]:=by rfl) (mY:Yo [b] X.env=[(false,eval b X.env)]:=by rfl):D0 X (.Tuple elts x1 pX) (.Call (.Name "zip" p) [a,b] [] pos) (Gx fs):=by
 subst_eqs;intro pins s σ H R I h_;obtain⟨ι,ρ,C,xs,C',sr,e,q⟩:=h_;obtain⟨zs,C1,e1,g1⟩:=cD e;obtain⟨e2,hC⟩:=pI g1;subst hC;obtain⟨x,y,ps,qs,rfl,hx,hy,rfl⟩:=xH e2;show Call_ (N0 I hg hm 1e0 (XE (cF (ha pos pins s σ H (λvs H1=>Fr ι H H1/\CR X.K ι H1 C'/\cb X.K ι H1 [x,y] vs) I ⟨ι,ρ,C,_,C',sr,e1,λvs H1 f1 c1 r1=>⟨f1,c1,r1⟩⟩) λus s1 ⟨vs,H1,I1,r1,f1,c1,rs⟩=>?_) (by rw[hs,mY]) (by rw[mY];rfl)));obtain⟨v1,w,rfl,rx,hw⟩:=rs;obtain⟨v2,w2,rfl,ry,hw⟩:=hw;cases(show w2=[]from hw);obtain⟨u1,u2,rfl,ru1,ru2⟩:=Vals.two r1;obtain⟨S1,rfl,hS1,Z1⟩:=Ak I1 c1 rx hx ru1;obtain⟨S2,rfl,hS2,Z2⟩:=Ak I1 c1 ry hy ru2;show callType_new PySem.F.called_zip 1e2 (PySem.F.typeCall_zip_2 _ _) (PySem.F.newCall_zip_2 _ _) (λobj=>PySem.F.args_object_init_3 obj _ _) PySem.F.entry_zip_new (Fj S1 S2) ⟨hS1,hS2,?_⟩;have z1:(s1.heap.push S1.obj).objs.size=s1.heap.objs.size+1:=Wv ..
 have z2:((s1.heap.push S1.obj).push S2.obj).objs.size=s1.heap.objs.size+2:=by rw[Wv,z1]
 have z3:(Zt s1.heap S1 S2).objs.size=s1.heap.objs.size+3:=by rw[Wv,z2]
 have z4:(Zs s1.heap S1 S2).objs.size=s1.heap.objs.size+4:=by rw[Wv,z3]
 have up:∀c o,s1.heap.get? c=some o->(HH s1.heap S1 S2).get? c=some o:=λc o x=>Yb _ (Yb _ (Yb _ (Yb _ (Yb _ x))));have g5:(HH s1.heap S1 S2).get? (Zs s1.heap S1 S2).objs.size=some _:=Yw _ rfl;have g4:(HH s1.heap S1 S2).get? (Zt s1.heap S1 S2).objs.size=some _:=Yb _ (Yw _ rfl);have g3:(HH s1.heap S1 S2).get? ((s1.heap.push S1.obj).push S2.obj).objs.size=some _:=Yb _ (Yb _ (Yw _ rfl));have g2:(HH s1.heap S1 S2).get? (s1.heap.push S1.obj).objs.size=some _:=Yb _ (Yb _ (Yb _ (Yw _ (by cases S2<;>rfl))));have g1:(HH s1.heap S1 S2).get? s1.heap.objs.size=some _:=Yb _ (Yb _ (Yb _ (Yb _ (Yw _ (by cases S1<;>rfl)))));change _/\_;rw[z2,z3,z4]at g5;rw[z1,z2]at g3;rw[z3]at g4;rw[z1]at g2;rw[z4];have at0:∀{S:ZS}{it:Addr}{h:Heap},h.get? it=some S.obj->S.at' it 0 h:=λ{S it h} e=>by
  cases S with
  |l a=>show⟨_,e,rfl,rfl⟩
  |t a=>show⟨_,e,rfl,rfl⟩
  |s z tk wd=>show⟨_,e,rfl,rfl⟩
 have J:Inv X pins σ H1 {s1 with heap:=HH s1.heap S1 S2}:=I1.kept (t':=s1.toks) up;show⟨⟨_,g5,rfl⟩,wpAny_pyIter_zip g5 ⟨s1.heap.objs.size+4,[s1.heap.objs.size+4,s1.heap.objs.size+2,s1.heap.objs.size+3,s1.heap.objs.size,s1.heap.objs.size+1],_,_,H1,rfl,J,
  zX (S1:=S1) (S2:=S2) (zne s1.heap.objs.size),⟨g5,g3,⟨_,_,g4⟩,at0 g1,at0 g2⟩,λb hb=>?_,q _ H1 f1 c1 (CA Z1 Z2)⟩⟩
 have yU:s1.heap.objs.size<=b:=by
  simp only[Yd,YQ,or_false]at hb;rcases hb with rfl|rfl|rfl|rfl|rfl<;>lia
 show I1.G8 yU (I1.bV.fresh yU)
end Pu
namespace Pu
open PySem PySem.Spec PySem.W PySem.Calls L2 PySem.SeqAt
open PyProof.Rows hiding St Fr
section
variable{X:Cx}{e o i:Expr}{es:6e1}{fs:2e8}{p pos pos':Pos}{x:Str}{fv fo fi:4e5}
theorem yf{n:Nat}{Di:Pos}(hN:X.N.Nodup)(hi:X.N[n]? = some x)(hx:Loc X.env.scope x)(hs:Wy (.Dict [] [] Di) (some (.Name x pos')) pos.line X.env=pure false:=by rfl)
  (hf:7e2:=by first|show .inl rfl|show .inr rfl|assumption):nI X (.Assign [.Name x pos'] (.Dict [] [] Di) pos) (vY n):=by
 subst_eqs;show PS.imp (ot hN hi hx BH hs hf) λD σ H h_=>by
   sleep 2;cases e;intro q hq;have c1:=sr.cr;have c2:CR X.K (ι++[q]) (upd H q (.dT [])) (C++[.bW [] []]):=c1.add hq ⟨[],pD,rfl,.nil⟩;have x:Ex ι [q] H (upd H q (.dT [])):=⟨Fr.new hq,λb hb=>by
    have:b=q:=by simpa using hb
    subst this;show hq⟩
   show d [q] _ _ x ((sr.ex x c2).set n ⟨q,rfl,?_⟩);rw[←c1.len];simp
theorem qj{fZ:Pos}(hu:8e3)(hv:bP X e fv)(ho:bP X o fo)(hi:bP X i fi)
  (hs:Wy e (some (.Subscript o i fZ)) pos.line X.env=pure false:=by rfl):nI X (.Assign [.Subscript o i fZ] e pos) (j6 fv fo fi):=by
 subst_eqs;show PS.imp (vN 1e4 ho hi hv hs) λD σ H h_=>by
    sleep 2;obtain⟨v,C1,e1,g1⟩:=cD e;obtain⟨o,C2,e2,g2⟩:=cD g1;obtain⟨i,C3,e3,g3⟩:=cD g2;obtain⟨k,qs,p',ks,ps,key,ho,hi,hv,hc,hj,hlen,hf,hC⟩:=xS g3;clear e g1 g2 g3;subst ho hi hv hf hC;show⟨ι,ρ,C,_,C1,sr,e1,λx H1 f1 c1 r1=>⟨ι,ρ,C1,_,C2,16e5,e2,λy H2 f2 c2 r2=>⟨ι,ρ,C2,_,C3,(sr.step f1 c1).step f2 c2,e3,λw H3 f3 c3 r3=>?_⟩⟩⟩;obtain⟨a,rfl,hk⟩:=r2;obtain⟨vs,h1,hl,rv⟩:=(show cm X.K ι H3 a (.bW ks ps)from c3.ok k a _ hk hc)
    obtain⟨b,rfl,hb⟩:=Zc4 (show Rep X.K ι H3 (.tup qs) w from r3) hj;have Qc:Rep X.K ι H3 p' x:=Rep.mono c2 f3 _ _ (Rep.mono c1 f2 _ _ r1);obtain⟨z1,z2⟩:=oq (k:=key) (v:=x) hl;have fr:Fr ι H3 (upd H3 a (.dT (putK (ks.zip vs) key x))):=λb u n e=>by
     rw[dH (λz=>n (by rw[z];show YS hk))];show e
    have c4:CR X.K ι (upd H3 a (.dT (putK (ks.zip vs) key x))) (C3.set k (.bW (bw ks key) (bQ ks ps key p'))):=
     c3.put hk ⟨bQ ks vs key x,by rw[←z1];show pD,z2,ah.mono c3 fr _ _ (kl Qc rv)⟩
    show⟨a,_,rfl,lI.t h1 hb (by rw[Vd,YV];lia),?_⟩;show Done.HZ ((((sr.step f1 c1).step f2 c2).step f3 c3).step fr c4) (d.fr c4 (f1.trans (f2.trans (f3.trans fr))))
end
section
variable{X:Cx}{a b:Expr}{fa fb:4e5}{pos:Pos}
theorem Bq(hu:X.A.units+1<cLine)(ha:bP X a fa)(hb:bP X b fb)(hs:i9 b:=by show λ_ _=>rfl):bP X (.Subscript a b pos) (ak (g2 GN) fa fb):=by
 subst_eqs;show Dh (xF.or Cw (wk hu)) Mu.r ha hb hs
end
end Pu
namespace Pu
open PySem PySem.Spec PySem.W PySem.Calls L2 PySem.SeqAt
open PyProof.Rows hiding St Fr
section
variable{X:Cx}{e o i a:Expr}{es:6e1}{p pos pos' dg apos:Pos}{x:Str}{fv fo fi fa:4e5}{fs:2e8}
theorem yg{n:Nat}{Di:Pos}(hN:X.N.Nodup)(hi:X.N[n]? = some x)(hx:Loc X.env.scope x)(hs:Wy (.Dict [] [] Di) (some (.Name x pos')) pos.line X.env=pure false:=by rfl)
  (hf:7e2:=by first|show .inl rfl|show .inr rfl|assumption):nI X (.Assign [.Name x pos'] (.Dict [] [] Di) pos) (vZ n):=by
 subst_eqs;show PS.imp (ot hN hi hx qx hs hf) λD σ H h_=>by
   sleep 2;cases e;intro q hq;have c1:=sr.cr;have c2:CR X.K (ι++[q]) (upd H q (.dK [])) (C++[.b5 [] []]):=c1.add hq ⟨[],[],pD,rfl,rfl,.nil⟩;have x:Ex ι [q] H (upd H q (.dK [])):=⟨Fr.new hq,λb hb=>by
    have:b=q:=by simpa using hb
    subst this;show hq⟩
   show d [q] _ _ x ((sr.ex x c2).set n ⟨q,rfl,?_⟩);rw[←c1.len];simp
theorem qk{fZ:Pos}(hu:8e3)(hv:bP X e fv)(ho:bP X o fo)(hi:bP X i fi)
  (hs:Wy e (some (.Subscript o i fZ)) pos.line X.env=pure false:=by rfl):nI X (.Assign [.Subscript o i fZ] e pos) (j7 fv fo fi):=by
 subst_eqs;show PS.imp (vN 1e4 ho hi hv hs) λD σ H h_=>by
    sleep 2;obtain⟨v,C1,e1,g1⟩:=cD e;obtain⟨o,C2,e2,g2⟩:=cD g1;obtain⟨i,C3,e3,g3⟩:=cD g2;obtain⟨k,ip,p',ks,ps,qs,key,ho,hi,hv,hc,hj,hks,hlen,hf,hC⟩:=xT g3;clear e g1 g2 g3;subst ho hi hv hf hC;show⟨ι,ρ,C,_,C1,sr,e1,λx H1 f1 c1 r1=>⟨ι,ρ,C1,_,C2,16e5,e2,λy H2 f2 c2 r2=>⟨ι,ρ,C2,_,C3,(sr.step f1 c1).step f2 c2,e3,λw H3 f3 c3 r3=>?_⟩⟩⟩;obtain⟨a,rfl,hk⟩:=r2;obtain⟨yd,vs,h1,hl,RC,rv⟩:=(show cm X.K ι H3 a (.b5 ks ps)from c3.ok k a _ hk hc)
    subst RC;rw[E4]at hks;cases hks;have hw:w=kV key:=vI (show Rep X.K ι H3 ip w from r3) hj;subst hw;have Qc:Rep X.K ι H3 p' x:=Rep.mono c2 f3 _ _ (Rep.mono c1 f2 _ _ r1);obtain⟨z1,z2⟩:=oq (k:=key) (v:=x) hl;have fr:Fr ι H3 (upd H3 a (.dK (putK (qs.zip vs) key x))):=λb u n e=>by
     rw[dH (λz=>n (by rw[z];show YS hk))];show e
    have c4:CR X.K ι (upd H3 a (.dK (putK (qs.zip vs) key x))) (C3.set k (.b5 ((bw qs key).map kP) (bQ qs ps key p'))):=
     c3.put hk ⟨bw qs key,bQ qs vs key x,by rw[←z1];show pD,z2,rfl,ah.mono c3 fr _ _ (kl Qc rv)⟩
    rw[Yv]at hlen;show⟨a,_,rfl,lI.k h1 (by rw[Vd,YV];lia),?_⟩;show Done.HZ ((((sr.step f1 c1).step f2 c2).step f3 c3).step fr c4) (d.fr c4 (f1.trans (f2.trans (f3.trans fr))))
end
theorem tN{X:Cx}{e:Expr}{es:6e1}{p pos:Pos}{x:Str}{k:Nat}{f:Addr}{fd:Yx}{ps:6e2}{F:List SV->M SV}{fs:2e8}(ix:12e9)(G:aN X.prog X.w X.K X.mg X.base bY k f fd ps (ar X.K F))(hr:dM k X.A)(hg:Gl X x)(hm:X.mg x=some (.ref f))(hk:YE X.K (.ref f)=true)(hb:Binds X.K fd ps [])
  (ha:i8 X 7e6 fs) (oT:4e3:=by decide) (he:1e9:=by rfl) (eN:3e4:=by rfl):
  bP X 11e8 (Ck F ix fs):=by
 subst_eqs;show PE.imp (jY G hr hg hm hk hb .nil qy ha oT he eN) λσ H Q h=>by
   obtain⟨ι,ρ,C,z,C',sr,e,q⟩:=h;obtain⟨xs,C1,e1,e⟩:=cD e;show⟨ι,ρ,C,xs,C1,sr,e1,λvs H1 f1 c1 r1=>?_⟩;obtain⟨ks,ys,D,q',D',a1,a2,a3,a4,a5,a6,rfl,rfl⟩:=yz e;obtain⟨nd,hl⟩:=qw r1 a1;change ar X.K F (vs++[]) H1 Q E0;rw[YJ];show⟨addrs ι ks,ys,D,.v q',D',Ao c1 nd hl a3,ZbY c1 hl r1 a2,a4,λv H2 f2 c2 r2=>q v H2 (f1.trans (qc hl f2)) (tw c1 nd hl f2 c2 a6) (show Rep X.K ι H2 q' v from Rep.flat q' v a5 r2)⟩
section
variable{X:Cx}
theorem ZbP{e:Expr}{es:6e1}{fs:2e8}{p pos:Pos}(kM:11e1)(hu:8e3)(iD:Gl X "sorted")(hm:X.mg "sorted"=none)(hv:Xb "sorted"=some (.builtin "sorted"))(ha:i8 X 7e6 fs)
  (he:1e9:=by rfl) (eN:3e4:=by rfl):Fh X (.Call (.Name "sorted" p) 7e6 [] pos) (eJ fs):=by
 subst_eqs;show PE.imp (PE.or (uy (p:=p) (pos:=pos) kM hu iD hm hv ha he eN) (kr (pf kM hu) iD hm hv ha 1e2 1e2 he eN)) λσ H Q h_=>by
    sleep 11;obtain⟨xs,C1,e1,e⟩:=cD e;obtain⟨e2,rfl⟩:=pI e;ext fN e2;split at e2
    ·rename_i x
     split at e2
     ·rename_i ks vs hd
      split at e2
      ·rename_i qs hk
       by_cases ho:qs.all keyOk=true
       ·rw[if_pos ho]at e2
        show .inr ⟨ι,ρ,C,[x],_,sr,e1,λvs H1 f1 c1 r1=>?_⟩;obtain⟨v,w,rfl,r1,hw⟩:=r1;cases(show w=[]from hw);obtain⟨a,yd,ws,rfl,rfl,RL,hl,r⟩:=Ij (r1.lies c1 hd);rw[E4]at hk;cases hk;have ek:((qs.zip ws).map λq=>kP q.1)=qs.map kP:=by
         have:(qs.zip ws).map Prod.fst=qs:=WU 1e4;show(Y0 (f:=Prod.fst) (g:=kP) (l:=qs.zip ws)).symm.trans (by rw[this])
        have ef:(qs.zip ws).map (·.1)=qs:=WU 1e4;show⟨a,qs.zip ws,_,ι,rfl,RL,by rw[ef];show ho,by rw[ek];show e2,λzs l hz hl=>q l _ H1 f1 c1 hl hz⟩
       ·rw[if_neg ho]at e2;cases e2
      ·cases e2
     ·show .inl ⟨ι,ρ,C,z,_,sr,by ext qH;change aW (fs ρ) _ C=_;ext aW;rw[e1];change cK _ _=_;ext cK;dsimp only;rw[e2],q⟩
    ·cases e2
end
end Pu
namespace Pu
open PySem PySem.Spec L2
open PyProof.Rows hiding St Fr
section
variable{X:Cx}{l:Expr}{elts:6e1}{x1:Nat}{pX p pos:Pos}
theorem yi{fs:2e8}(hg:Gl X "enumerate")(hm:X.mg "enumerate"=none)(ha:i8 X [l] fs)(hs:Yo [l] X.env=[(false,eval l X.env)]:=by rfl):D0 X (.Tuple elts x1 pX) (.Call (.Name "enumerate" p) [l] [] pos) (mJ fs):=by
 subst_eqs;show PI.imp (vO hg hm ha hs) λσ H R h_=>by
    obtain⟨ι,ρ,C,xs,C',sr,e,q⟩:=h_;obtain⟨zs,C1,e1,g1⟩:=cD e;obtain⟨e2,hC⟩:=pI g1;subst hC;show⟨ι,ρ,C,zs,_,sr,e1,λvs H1 f1 c1 r1=>?_⟩;ext De e2;split at e2
    ·cases e2
     obtain⟨v,w,rfl,r1,hw⟩:=r1;cases(show w=[]from hw);replace r1:Rep X.K ι H1 (.lst _) v:=r1;ext Rep r1;obtain⟨a,vs,rfl,hq,rv⟩:=r1;show⟨a,rfl,⟨vs,hq.sq⟩,q _ H1 f1 c1 (yK c1 hq rv)⟩
    ·cases e2
theorem yh{fs:2e8}{f:14e3}{body:List Stmt}{Va9:Pos}{g:5e3}(hp:PassesOwn 3e6 X.A X.env X.xe)(hc:11e1)(iD:Gl X "enumerate")(hm:X.mg "enumerate"=none)(ha:i8 X [l] fs)(hg:D4 X (.Tuple elts x1 pX) g)(hb:zL X body f)
  (hs:∀x,Xj (.Call (.Name "enumerate" p) [l] [] pos) X.env x=pure x:=by intro _;rfl) (EO:Yo [l] X.env=[(false,eval l X.env)]:=by rfl):nI X (.For (.Tuple elts x1 pX) (.Call (.Name "enumerate" p) [l] [] pos) body [] Va9) (qJ fs g f):=by
 subst_eqs;show PS.imp (Bv hp hc (vO iD hm ha EO) hg hb hs) λD σ H h_=>by
   sleep 2;obtain⟨x,C1,e1,e⟩:=cD e;show⟨ι,ρ,C,x,C1,sr,e1,λv H1 f1 c1 r1=>?_⟩;split at e
   case h_2=>cases e
   rename_i k;obtain⟨v,w,rfl,⟨a,rfl,hk⟩,hw⟩:=r1;cases(show w=[]from hw);have d1:=d.fr c1 f1;have JW:=sr.step f1 c1;have cell:∀{ι2:3e8}{H2:Hp}{C2:Cs}{qs:List PV},CR X.K 9e7 H2 C2->C2[k]? = some (.lst qs)->∃vs,H2 a=some (.lst vs)/\ah X.K 9e7 H2 qs vs:=λ{ι2 H2 C2 qs} cr h=>by
    have Z4:k<ι.length:=by
     rcases YU k ι.length with q|q
     ·show q
     ·rw[Yf.mpr q]at hk;cases hk
    show cr.ok k a _ (by rw[Yh Z4];show hk) h
   show⟨a,rfl,?_,?_⟩
   ·ext ik e
    split at e
    ·rename_i qs hq
     obtain⟨vs,h1,_⟩:=cell (ι2:=[]) (by rw[YJ];show c1) hq;show⟨vs,.inl (.inl h1)⟩
    ·cases e
   show⟨λi m σ2 H2=>∃ι2 ρ2 C2,Ex ι ι2 H1 H2/\SR X.K 9e7 H2 ρ2 σ2 C2/\ik g f k m i ρ2 C2=some (fl,C'),⟨1000,[],ρ,C1,Ex.fr .refl,by rw[YJ];show JW,e⟩,?_⟩;rintro i m σ2 H2 ⟨ι2,ρ2,C2,x2,jx,e2⟩;cases m with
   |zero=>cases e2
   |succ m=>
   ext ik e2;split at e2
   ·rename_i qs hq
    obtain⟨vs,h1,rv⟩:=cell jx.cr hq;split at e2
    ·rename_i q hqi
     right;obtain⟨w,hw,FJ⟩:=rv.get hqi;show⟨⟨vs,w,.inl (.inl h1),hw⟩,λσ' H'=>∃ι2 ρ2 C2,Ex ι ι2 H1 H'/\SR X.K 9e7 H' ρ2 σ' C2/\ik g f k m (i+1) ρ2 C2=some (fl,C'),?_,?_⟩
     ·rintro σ' H' h
      show⟨m,Nat.lt_succ_self _,h⟩
     ·intro v H3 y
      obtain⟨b,v',hn,rfl,rfl,y⟩:=y;have ev:v'=w:=by have:=y vs (.inl (.inl h1));rw[hw]at this;show(YF this).symm
      subst ev;split at e2
      ·cases e2
      ·rename_i ρ3 yS
       obtain⟨IE,C3,e3,e4⟩:=cD e2;have sm:∀c o,H2 c=some o->upd H2 b (.tup [.int i,v']) c=some o:=λc o e=>by rw[dH (i4 e hn)];show e
       have x3:Ex ι ι2 H1 (upd H2 b (.tup [.int i,v'])):=⟨λc o n z=>sm c o (x2.1 c o n z),x2.2⟩
       have ng:=jx.cr.same sm;show⟨ι++ι2,ρ2,C2,.tup [.int (i:Nat),q],ρ3,jx.step (λc o _ z=>sm c o z) ng,O' hn (.cons hV (.cons FJ .nil)),yS,λσ4 FC=>⟨ι++ι2,ρ3,C2,IE,C3,FC,e3,?_⟩⟩;cases IE with
       |nx ρ5=>show λι5 σ5 H5 x5 n6=>⟨ι2++ι5,ρ5,C3,x3.trans ng x5,by rw[←YC];show n6,e4⟩
       |ct ρ5=>show λι5 σ5 H5 x5 n6=>⟨ι2++ι5,ρ5,C3,x3.trans ng x5,by rw[←YC];show n6,e4⟩
       |bk ρ5=>cases e4;show λι5 σ5 H5 x5 n6=>d1 (ι2++ι5) σ5 H5 (x3.trans ng x5) (by rw[←YC];show n6)
       |rf ps=>cases e4;show λι5 q5 JH H5 x5 c5 h5 r5=>d1 (ι2++ι5) q5 JH H5 (x3.trans ng x5) (by rw[←YC];show c5) h5 (by rw[←YC];show r5)
       |rq ps=>cases e4;show λι5 q5 JH H5 x5 c5 h5 r5=>d1 (ι2++ι5) q5 JH H5 (x3.trans ng x5) (by rw[←YC];show c5) h5 (by rw[←YC];show r5)
       |rt r=>cases e4;show λι5 v5 H5 x5 c5 r5=>d1 (ι2++ι5) v5 H5 (x3.trans ng x5) (by rw[←YC];show c5) (by rw[←YC];show r5)
    ·rename_i hqi
     left;cases e2;show⟨⟨vs,.inl (.inl h1),?_⟩,d1 ι2 σ2 H2 x2 jx⟩;rw[←rv.length];show Yf.mp hqi
   ·cases e2
end
section
variable{X:Cx}{tg kx vx iter:Expr}{ifs:6e1}{pos:Pos}{scope:Scope}{vs fs:6e2}{fr:12e9}{it:13e6}{g:5e3}{tt:7e3}{tk te:4e5}
theorem tJ(S:12e3)(hc:11e1)(hu:8e3)(hi:D0 X tg iter it)
  (bG:∀C s₀ H₀ ex pn,D4 2e0 tg g) (bT:∀C s₀ H₀ ex pn,vo 2e0 ifs tt) (bK:∀C s₀ H₀ ex pn,bP 2e0 kx tk) (bE:∀C s₀ H₀ ex pn,bP 2e0 vx te)
  (hs:16e3:=by intro _;rfl):bP X (.DictComp kx vx [13e1] scope pos) (kD it vs fr g tt tk te):=by
 subst_eqs;show PE.imp (BJ (g:=HN X.K g) (tt:=Ae X.K tt) (tk:=tM X.K tk) (te:=tM X.K te) S hc 1e4 hi bG bT bK bE hs) λσ H Q ⟨ι,ρ,C,res,C',sr,e,q⟩=>u3 sr e q
end
end Pu
namespace Pu
open PySem PySem.Spec PySem.W PySem.Calls L2
open PyProof.Rows hiding St Fr
section
variable{X:Cx}{e:Expr}{es:6e1}{p pos:Pos}{x:Str}
theorem tO{k:Nat}{f:Addr}{fd:Yx}{ps:6e2}{F:List SV->M SV}{f0:13e6}{gs:2e8}(G:aN X.prog X.w X.K X.mg X.base bY k f fd ps (ar X.K F))(hr:dM k X.A)(hg:Gl X x)(hm:X.mg x=some (.ref f))(hk:YE X.K (.ref f)=true)(hb:Binds X.K fd ps [])
  (h0:Fh X e f0) (ha:i8 X es gs) (oT:4e3:=by decide) (he:1e9:=by rfl) (eN:3e4:=by rfl):
  bP X 11e8 (Gy F f0 gs):=by
 subst_eqs;show PE.imp (jY G hr hg hm hk hb .nil qy (vQ h0 ha he) oT he eN) λσ H Q h=>by
   obtain⟨ι,ρ,C,z,C',sr,e,q⟩:=h;obtain⟨ps,C1,e1,e⟩:=cD e;show⟨ι,ρ,C,ps,C1,sr,e1,λa vs H1 f1 c1 Z' rs=>?_⟩;cases hb:aW (gs ρ) (λxs=>F (.c C1.length::xs)) (C1++[.lst ps])with
   |none=>rw[hb]at e;cases e
   |some r=>
    obtain⟨r,C9⟩:=r;rw[hb]at e;replace e:fin C1.length C9 r=some (z,C'):=e;obtain⟨xs,C2,e2,e3⟩:=cD hb;have c2:CR X.K (ι++[a]) (upd H1 a (.lst vs)) (C1++[.lst ps]):=c1.add Z' ⟨vs,pD,i6 c1 Z' ps vs rs⟩;have x0:Ex ι [a] H1 (upd H1 a (.lst vs)):=⟨Fr.new Z',λb hb=>by
     have:b=a:=by simpa using hb
     subst this;show Z'⟩
    show⟨ι++[a],ρ,C1++[.lst ps],xs,C2,(sr.step f1 c1).ex x0 c2,e2,λws H2 f2 c3 r2=>?_⟩;change ar X.K F ((V.ref a::ws)++[]) H2 Q E0;rw[YJ];have hk:(ι++[a])[C1.length]? = some a:=by rw[←c1.len];simp
    show⟨ι++[a],.c C1.length::xs,C2,r,C9,c3,⟨_,_,rfl,⟨a,rfl,hk⟩,r2⟩,e3,λv H3 f3 c4 r4=>?_⟩;obtain⟨c5,r5⟩:=kW c4 c1.len r4 e;show q v H3 (λb o n e=>?_) c5 r5;obtain⟨n1,e'⟩:=x0.out b o n (f1 b o n e);show f3 b o n1 (f2 b o n1 e')
end
end Pu
namespace Pu
open PySem PySem.Spec PySem.W PySem.Calls L2
open PyProof.Rows hiding St Fr
section
variable{X:Cx}{e:Expr}{es:6e1}{fs:2e8}{p pos:Pos}
theorem mv{k:Nat}(hr:dM k X.A)(iD:Gl X "str")(hm:X.mg "str"=none)(hv:Xb "str"=some (.type "str"))(ha:i8 X 7e6 fs)
  (he:1e9:=by rfl) (eN:3e4:=by rfl):bP X (.Call (.Name "str" p) 7e6 [] pos) (bt (g1 dN) fs):=by
 subst_eqs;show Zcs (zk hr.gd hr.units) FA.c iD hm hv ha 1e2 1e2 he eN
end
end Pu
namespace Pu
open PySem PySem.Spec PySem.W PySem.Calls L2 PySem.SeqAt
open Sn (kz NK)
open PyProof.Rows hiding St Fr
section
variable{X:Cx}
variable{e:Expr}{es:6e1}{fs:2e8}{p pos:Pos}
theorem tH(kM:11e1)(hu:8e3)(iD:Gl X "dict")(hm:X.mg "dict"=none)(hv:Xb "dict"=some (.type "dict"))(ha:i8 X 7e6 fs)
  (he:1e9:=by rfl) (eN:3e4:=by rfl):bP X (.Call (.Name "dict" p) 7e6 [] pos) (bt iF fs):=by
 subst_eqs;show Zcs (u5 kM hu) Dp iD hm hv ha 1e2 1e2 he eN
end
end Pu
namespace cQ
open PySem PySem.Spec L2 Pu
open PyProof.Rows hiding St Fr
noncomputable section
noncomputable def sU (bc bh bj ba bo:Addr):List (Str×Addr):=[("join",bc),("say",bh),("do",bj),("free",ba),("ready",ba),("hand",bo),("quit",ba),("note",bc)]
abbrev Ze:aG->M PF:=(aX (dk (bt (g1 hX) (ab 1e7 (ab (mC (.ty "int")) ae))) (dk (Cj (bt (g1 hX) (ab 1e7 (ab (mC (.ty "bool")) ae)))) (ak (g2 geP) 1e7 4e0))))
def iA:List SV->M SV:=bZ 2 0 (Ze)
abbrev Zd:aG->M PF:=(aX (dk (aT iA (ab 1e7 (ab 2e3 ae))) (ak (g2 fw) 1e7 4e0)))
def jL:List SV->M SV:=bZ 2 0 (Zd)
abbrev X':aG->M PF:=(aX (dk (bt (g1 hX) (ab 1e7 (ab (mC (.ty "tuple")) ae))) (jj (g2 QE) (g2 QE) 4e0 (bt 7e5 7e1) 9e0)))
def fW:List SV->M SV:=bZ 3 0 (X')
abbrev Jn:aG->M PF:=(ag (aV (eZ (bD (cB (bt (g1 hX) (ab 1e7 (ab (mC (.ty "str")) ae))))) (bD (aC (jj (g2 QE) (g2 QE) 1e8 (bt 7e5 7e1) (mC (.int 12)))))) 15e5 aH) (aX (bt (g1 gG) (ab (aJ (aO (aE 1e7) ["sign"] [] 6e4 dD (ak (g2 OI) 1e7 (mC 18e7)))) ae))))
def fV:List SV->M SV:=bZ 1 0 (Jn)
abbrev Zi:aG->M PF:=(aX (aT jL (ab 1e7 (ab (mC (.int 12)) ae))))
def jc:List SV->M SV:=bZ 1 0 (Zi)
abbrev Zj:aG->M PF:=(aX (ak (g2 jR) (bt 7e5 7e1) 2e3))
def nO:List SV->M SV:=bZ 1 0 (Zj)
abbrev Y':aG->M PF:=(aX (dk (ak (g2 jR) (bt 7e5 7e1) 1e8) (aT fV (ab 17e7 ae))))
def jJ:List SV->M SV:=bZ 1 0 (Y')
abbrev Zc:aG->M PF:=(aX (dk (ak (g2 jR) (bt 7e5 7e1) 1e8) (aT jc (ab 17e7 ae))))
def jK:List SV->M SV:=bZ 1 0 (Zc)
abbrev Za:aG->M PF:=(aX (dk (ak (g2 jR) (bt 7e5 7e1) 2e9) (dk (aT jc (ab 17e7 ae)) (aT jL (ab (ak 3e7 1e7 1e8) 8e6)))))
def jb:List SV->M SV:=bZ 1 0 (Za)
abbrev Zb:aG->M PF:=(aX (dk (ak (g2 jR) (bt 7e5 7e1) 2e9) (dk (aT jc (ab 17e7 ae)) (dk (aT fV (ab (ak 3e7 1e7 1e8) ae)) (ak (g2 Oz) (ak 3e7 1e7 1e8) (mC (.str "bell")))))))
def gX:List SV->M SV:=bZ 1 0 (Zb)
def zy(bc bh bj ba bo:Addr):List (Addr×(List SV->M SV)):=[(bc,nO),(bh,jJ),(bj,jb),(ba,jK),(bo,gX)]
abbrev Zh(aS bc bh bj ba bo:Addr):aG->M PF:=(ag (aV (eZ (bD (cB (bt (g1 hX) (ab 1e7 (ab (mC (.ty "tuple")) ae))))) (eZ (bD (cB 1e7)) (eZ (bD (cB (bt (g1 hX) (ab 17e7 (ab (mC (.ty "str")) ae))))) (aC (ak (z8 aS (sU bc bh bj ba bo) true) 17e7 (mC (.fn aS))))))) 15e5 aH) (ag (aw 1 (ak (z9 aS (sU bc bh bj ba bo)) (mC (.fn aS)) 17e7)) (aX (tZ 1 (zy bc bh bj ba bo) (ab (bg 1e7 (bA 1e8) ic) ae)))))
def gY(aS bc bh bj ba bo:Addr):List SV->M SV:=bZ 1 1 (Zh aS bc bh bj ba bo)
abbrev Zf:aG->M PF:=(aX (dk (aT fW (ab 1e7 (ab 7e4 (ab 7e4 ae)))) (dk (aT fV (ab 17e7 ae)) (dk (aT fV (ab (ak 3e7 1e7 1e8) ae)) (aT iA (ab (ak 3e7 1e7 2e9) (ab 1e8 ae)))))))
def cJ:List SV->M SV:=bZ 1 0 (Zf)
abbrev EF:aG->M PF:=(ag (aV (eZ (bD (cB (aT fW (ab 1e7 (ab 2e3 (ab (mC (.int 30)) ae)))))) (bD (cB (bt (g1 gG) (ab (aJ (aO (aE 1e7) ["name"] [] 6e4 dD (aT cJ 7e1))) ae))))) 15e5 aH) (ag (aV (bD (cB (bt (g1 gG) (ab (aJ (aO (Gx (ab 1e7 (ab (bg 1e7 (bA 1e8) ic) ae))) ["low","high"] [] (cn (aF 6e4 (aF (hName 1) cp)) 2) dD (ak (g2 qK) 1e7 4e0))) ae)))) 15e5 aH) (aX (bt (g1 gG) (ab (aJ (aO (aE 1e7) ["name"] [1,2] 6e4 dD (ak 5e2 12e8 18e4))) ae)))))
def fX:List SV->M SV:=bZ 3 0 (EF)
abbrev Zg(aS bc bh bj ba bo:Addr):aG->M PF:=(ag (aV (eZ (bD (cB (aT fW (ab 1e7 (ab (mC (.int 7)) (ab (mC (.int 7)) ae)))))) (bD (cB (aT cJ (ab (bg 1e7 ic (bA 7e4)) ae))))) 15e5 aH) (ag (dc 1e7 (cn (aF (hName 1) (aF (hName 2) (aF (hName 3) (aF (hName 4) (aF (hName 5) (aF (hName 6) (aF (hName 7) cp))))))) 7)) (aX (dk (aT iA (ab 16e1 (ab 2e3 ae))) (dk (aT fX (ab 11e5 (ab 4e0 5e7))) (dk (aT iA (ab 14e7 (ab 2e3 ae))) (aT (gY aS bc bh bj ba bo) 14e5)))))))
def dC(aS bc bh bj ba bo:Addr):List SV->M SV:=bZ 1 7 (Zg aS bc bh bj ba bo)
abbrev W':aG->M PF:=(aX (bg 1e7 ic (bA 7e4)))
def ja:List SV->M SV:=bZ 1 0 (W')
abbrev Jq:aG->M PF:=(aX (kD (aE 1e7) ["letter"] [] 6e4 dD (aT ja 7e1) 1e7))
def nP:List SV->M SV:=bZ 1 0 (Jq)
abbrev Jo(aS bc bh bj ba bo:Addr):aG->M PF:=(ag (aV (eZ (bD (cB (bt (g1 hX) (ab 1e7 (ab (mC (.ty "list")) ae))))) (bD (cB (bt (g1 gG) (ab (aJ (aO (aE 1e7) ["letter"] [] 6e4 dD (aT (dC aS bc bh bj ba bo) 7e1))) ae))))) 15e5 aH) (ag (aw 1 (aT nP 7e1)) (aX (bt (g1 gG) (ab (aJ (aO (aE 1e7) ["letter"] [1] 6e4 dD (ak 12e6 (ak (g2 GN) 4e0 (aT ja 7e1)) 1e7))) ae)))))
def gB(aS bc bh bj ba bo:Addr):List SV->M SV:=bZ 1 1 (Jo aS bc bh bj ba bo)
abbrev Zr:aG->M PF:=(ag (aV (aC (ak (g2 fw) 4e0 (bt 7e5 7e1))) (aX (ak 3e7 1e7 4e0)) aH) (aX 2e3))
def jd:List SV->M SV:=bZ 2 0 (Zr)
abbrev Jv:aG->M PF:=(ag (aw 2 (aT jd (ab 1e7 (ab (ak (g2 fQ) 4e0 (bt (g1 lP) (ab 1e8 (ab (bt 7e5 7e1) ae)))) ae)))) (ag (aw 3 (ak (g2 fQ) (ak (g2 dE) (ak 5e4 (ak 5e4 (ak (g2 fQ) 9e0 (mC (.int 2147483629))) (ak (g2 dE) (ak (g2 dE) (mC (.int 7919)) 4e0) 4e0)) (mC (.int 11))) (mC (.int 48271))) (mC (.int 2147483647)))) (ag (aV (aC (ak (g2 jR) (ak (g2 fQ) (aT jd (ab 1e7 (ab 2e3 ae))) 2e9) 2e3)) (aw 2 2e3) aH) (qI (aZ (ab (ak (g2 fQ) 9e0 (ak (g2 F4) (mC (.int 10)) (mC (.int 40)))) 13e9))))))
def Ji:List SV->M SV:=bZ 2 2 (Jv)
def bX:List SV->M 7e7:=mK 2 2 (Jv)
abbrev Zn:aG->M PF:=(ag (aV (aC (ak (g2 yW) 17e7 2e3)) (ag (aw 2 (ak (g2 fQ) 17e7 4e0)) (ag (kB (ak (g2 IF) 17e7 4e0) 1e7 2e3) (aX 9e0))) aH) (ag (kB (ak (g2 fQ) (ak 5e4 (ak (g2 dE) (ak 3e7 1e7 1e8) (mC (.int 48271))) (mC (.int 12345))) (mC (.int 2147483647))) 1e7 1e8) (aX (ak (g2 fQ) (ak (g2 fQ) (ak (g2 dE) (ak 3e7 1e7 1e8) (ak 3e7 1e7 1e8)) (mC (.int 1999999973))) 4e0))))
def aB:List SV->M SV:=bZ 2 1 (Zn)
abbrev Zk:aG->M PF:=(ag (aw 2 (mC 18e7)) (ag (aw 3 (aT aB (ab 1e7 (ab (mC (.int 26)) ae)))) (ag (aw 4 (ak 3e7 (aJ (aZ (ab 1e8 (ab 7e4 (ab 13e2 (ab (mC (.int 7)) (ab (mC (.int 9)) (ab (mC (.int 11)) ae)))))))) (aT aB (ab 1e7 (ab (mC (.int 6)) ae))))) (qI (aO (aK (ab 4e0 ae)) ["_law_k"] [2,3,4] 6e4 dD (ak 5e4 (ak 3e7 4e0 (ak (g2 fQ) (ak 5e4 9e0 (ak (g2 dE) 9e6 1e7)) (mC (.int 26)))) (ak 3e7 (aJ (aZ (ab (mC (.str "")) (ab (mC (.str "zq")) (ab (mC (.str "x")) (ab (mC (.str "qqzzx")) ae)))))) (ak (g2 fQ) (ak 5e4 9e0 (ak (g2 dE) 1e7 1e7)) (mC (.int 4))))))))))
def lE:List SV->M SV:=bZ 2 3 (Zk)
abbrev Zq:aG->M PF:=(ag (dc 4e0 (cn (aF (hName 4) (aF (hName 5) (aF (hName 6) cp))) 3)) (ag (aw 7 (aT aB (ab 1e7 (ab (mC (.int 6)) ae)))) (ag (aV (aC (ak (g2 fw) (au 7) 2e9)) (aX (bf (ab (mC (.str "joined")) (ab (aT aB (ab 1e7 8e2)) ae)))) aH) (ag (aV (aC (ak (g2 fw) (au 7) (mC (.int 4)))) (aX (bf (ab (mC (.str "said")) (ab (aT aB (ab 1e7 8e2)) (ab (ak 3e7 9e0 (aT aB (ab 1e7 (ab (mC (.int 4)) ae)))) ae))))) aH) (ag (aw 8 (aT aB (ab 1e7 (ab (ak 5e4 (bt 7e5 17e8) 1e8) ae)))) (ag (aw 9 (ak 3e7 (ak 5e4 (aJ (aZ (ab 14e7 ae))) 11e5) (au 8))) (ag (aw 10 (aT aB (ab 1e7 (ab (bt 7e5 (ab (au 9) ae)) ae)))) (ag (aV (dZ (aC (ak (g2 jR) (au 8) 2e3)) (aC (ak (g2 jR) 18e5 9e6))) (aX (bf (ab (mC (.str "joined")) (ab (aT aB (ab 1e7 8e2)) ae)))) aH) (aX (bf (ab (mC (.str "did")) (ab (au 8) (ab 18e5 (ab (aT aB (ab 1e7 (ab (ak 3e7 (au 9) 18e5) ae))) ae))))))))))))))
def gZ:List SV->M SV:=bZ 4 7 (Zq)
abbrev JA:aG->M PF:=(ag (ck 5 (aZ ae)) (ag (cx (mJ 5e7) (cn (aF (hName 6) (aF (hName 7) cp)) 2) (ag (aw 8 (aT aB (ab 1e7 (ab 4e0 ae)))) (ag (aw 9 (ak (g2 fQ) (ak 5e4 (ak 5e4 (au 8) 1e8) (aT aB (ab 1e7 (ab (ak (g2 fY) 4e0 1e8) ae)))) 4e0)) (ag (ck 10 (aZ ae)) (ag (cx (aK (ab (ak 3e7 (aJ (aZ (ab 2e3 (ab 1e8 (ab 2e3 (ab 2e9 (ab 1e8 (ab 2e3 (ab 7e4 4e9))))))))) (aT aB (ab 1e7 4e9))) ae)) (hName 11) (ag (aw 12 (aT gZ (ab 1e7 (ab (bf (ab 4e0 (ab 9e6 5e7))) (ab 16e1 (ab 14e7 ae)))))) (aV 10e0 (dj (eM 18e5 (ab (au 12) ae))) aH))) (ag (aw 13 15e0) (ag (aV (aC (ak 12e6 10e5 2e3)) (ag (aw 12 (aT gZ (ab 1e7 (ab (bf (ab 4e0 (ab 9e6 5e7))) (ab 16e1 (ab 14e7 ae)))))) (aV 10e0 (aw 13 (bf (ab (au 12) (ab (ak 5e4 1e8 19e4) ae)))) aH)) aH) (ag (aw 14 (ak 3e7 (aJ (aZ (ab (ak 5e4 1e8 (aT aB (ab 1e7 (ab (mC (.int 6)) ae)))) (ab (ak 5e4 1e8 (aT aB (ab 1e7 (ab (mC (.int 40)) ae)))) ae)))) 10e5)) (dj (eM 11e5 (ab (bf (ab (au 8) (ab (au 9) (ab (au 7) (ab (au 14) (ab (bt (g1 eY) (ab 18e5 ae)) (ab (au 13) ae))))))) ae))))))))))) (aX (bt (g1 eY) 17e8))))
def lH:List SV->M SV:=bZ 5 10 (JA)
abbrev Jr:aG->M PF:=(ag (ck 1 (fu bX (ab 1e7 (ab 1e8 ae)))) (ag (aw 2 (aT lE (ab 4e0 (ab (mC (.int 16)) ae)))) (ag (aw 3 (ak 3e7 (aJ (aZ (ab 1e8 (ab 1e8 (ab 2e9 15e8))))) 9e1)) (ag (ck 4 (aZ ae)) (ag (cx (aK 13e9) (hName 5) (ag (ck 1 (fu bX (ab 1e7 (ab (ak 5e4 2e9 11e5) ae)))) (ag (aw 6 (ak 3e7 (aJ (aZ (ab 2e9 (ab 7e4 (ab 2e9 (ab 7e4 (ab (mC (.int 4)) (ab 2e9 (ab 13e2 4e9))))))))) 9e1)) (ag (aw 7 (ak 3e7 (aJ (aZ (ab 1e8 (ab 2e9 (ab 1e8 (ab 7e4 (ab 2e9 (ab (mC (.int 4)) (ab (mC (.int 7)) (ab (mC (.int 12)) ae)))))))))) 9e1)) (ag (aw 8 (aJ (aO (aK 14e5) ["_law_c"] [1] 6e4 dD (ak 3e7 (aJ (aZ (ab 1e8 (ab 1e8 (ab 2e9 (ab 1e8 (ab 7e4 (ab 1e8 (ab 2e9 8e6))))))))) 9e1)))) (dj (eM 16e1 (ab (bf (ab 14e7 (ab (au 8) (ab (aT aB (ab 4e0 (ab 7e4 ae))) ae)))) ae)))))))) (ag (vZ 9) (ag (qJ 8e2 (cn (aF (hName 5) (aF (hName 10) cp)) 2) (ag (ck 1 (fu bX (ab 1e7 (ab (ak 5e4 (mC (.int 9)) 11e5) ae)))) (ag (aw 11 9e1) (ag (aw 6 (bt (g1 eY) (ab (aJ (aO (aK (ab (ak 3e7 18e5 2e3) ae)) ["_law_j"] [2,11] 6e4 dD (ak 3e7 4e0 (ak (g2 fQ) (ak 5e4 9e0 1e7) (mC (.int 8)))))) ae))) (ag (aw 12 (bg (aJ (aO (aK 13e9) ["_law_j"] [5] 6e4 (aC (ak (g2 Oz) 1e7 4e0)) 1e7)) ic (bA (ak 3e7 18e5 2e9)))) (ag (aw 13 (ak 5e4 (ak 3e7 (aJ (aZ (ab (mC (.int 12)) (ab (mC (.int 30)) (ab (mC (.int 60)) (ab (mC (.int 1000)) ae)))))) (aT aB (ab 4e0 (ab (mC (.int 4)) ae)))) (aT aB (ab 4e0 (ab 13e2 ae))))) (ag (aw 7 (aT lH (ab 4e0 (ab (ak 3e7 18e5 2e3) (ab (ak 3e7 18e5 1e8) (ab (aJ (aO (aE (au 12)) ["_law_j"] [4] 6e4 dD (ak 3e7 (ak 3e7 4e0 1e7) 1e8))) 5e7)))))) (j7 (bf (ab 14e7 (ab (bt (g1 eY) (ab (aJ (aO (aE (au 12)) ["_law_j"] [2] 6e4 dD (ak 3e7 4e0 (ak 5e4 13e2 1e7)))) ae)) (ab (au 13) 14e5)))) (au 9) (ak 3e7 9e0 (ak 5e4 13e2 11e5)))))))))) (vX (ab (ak 3e7 (aJ (aZ (ab 2e3 (ab 1e8 (ab 2e9 (ab 13e2 (ab (mC (.int 30)) ae))))))) (aT aB (ab 4e0 (ab 13e2 ae)))) (ab (au 9) ae))))))))))
def lF:List SV->M SV:=bZ 1 13 (Jr)
abbrev Jy:aG->M PF:=(ag (dc 4e0 (cn (aF (hName 2) (aF (hName 3) (aF (hName 4) (aF (hName 5) cp)))) 4)) (ag (aw 6 (aT aB (ab 1e7 (ab (mC (.int 16)) ae)))) (ag (aw 7 (aT aB (ab 1e7 (ab (bt 7e5 17e8) ae)))) (ag (dc (ak 3e7 11e5 (au 7)) 18e8) (ag (aV (aC (ak (g2 fw) 14e7 2e9)) (aX 16e2) aH) (ag (aw 14 (aJ (aO (aE (ak 5e4 (au 12) (bg (au 13) ic (bA 1e8)))) ["_law_event_here"] [] 6e4 (aC (ak (g2 jR) 17e7 (mC (.str "said")))) 1e7))) (ag (aV (dZ (aC (ak (g2 fw) 14e7 13e2)) (aC (ak 5e2 (au 14) 10e6))) (aX (bf (ab (mC (.str "say")) (ab (ak 3e7 (ak 3e7 (au 14) (aT aB (ab 1e7 (ab (bt 7e5 (ab (au 14) ae)) ae)))) 2e9) ae)))) aH) (ag (aV (aC (ak (g2 fw) 14e7 (mC (.int 9)))) (aX (bf (ab (mC (.str "do")) (ab (au 7) (ab (aT aB (ab 1e7 (ab 18e5 ae))) ae))))) aH) (ag (aV (aC (ak (g2 fw) 14e7 (mC (.int 10)))) (aX (bf (ab (mC (.str "free")) 14e5))) aH) (ag (aV (aC (ak (g2 fw) 14e7 (mC (.int 11)))) (aX (bf (ab (mC (.str "ready")) 14e5))) aH) (ag (aV (aC (ak (g2 fw) 14e7 (mC (.int 12)))) (aX (bf (ab (mC (.str "hand")) (ab (au 7) (ab (ak 3e7 9e0 (aT aB (ab 1e7 (ab (bt 7e5 5e7) ae)))) ae))))) aH) (ag (aV (aC (ak (g2 fw) 14e7 (mC (.int 13)))) (aX (bf (ab (mC (.str "quit")) 14e5))) aH) (aX (ak 3e7 (aJ (aZ (ab 10e9 (ab (bf (ab (mC (.str "say")) (ab (ak 3e7 9e0 2e3) ae))) (ab 16e2 ae))))) (ak (g2 fY) 14e7 (mC (.int 13)))))))))))))))))
def nV:List SV->M SV:=bZ 2 13 (Jy)
abbrev Zo:aG->M PF:=(aX (bg 1e7 ic (bA 7e4)))
def nR:List SV->M SV:=bZ 1 0 (Zo)
abbrev Jw:aG->M PF:=(ag (aw 3 (aJ (aO (aE 1e7) 5e5 [1,2] 6e4 (aC (ak 12e6 12e8 18e4)) 1e7))) (aX (OA (aC (ak 5e2 9e6 10e6)) (ak 3e7 (ak 3e7 9e6 (tY 1e8)) 2e9) 2e3)))
def nT:List SV->M SV:=bZ 3 1 (Jw)
abbrev Jx:aG->M PF:=(ag (aw 4 (aJ (aO (aE 4e0) 5e5 [2,3] 6e4 (aC (ak 5e2 12e8 18e4)) 1e7))) (ag (vY 5) (ag (cx (aK (ab (ak (g2 dE) (ak 3e7 (aJ (aZ (ab 2e3 (ab 1e8 (ab 1e8 15e8))))) (aT aB (ab 1e7 4e9))) (bt (g1 gO) (ab (ak 5e2 16e1 10e6) ae))) ae)) (hName 6) (ag (aw 7 (ak 5e4 (aT aB (ab 1e7 (ab (bt (g1 tW) (ab (bt 7e5 8e2) (ab 13e2 ae))) ae))) 1e8)) (ag (aV (aC (ak (g2 jR) (aT aB (ab 1e7 (ab (mC (.int 4)) ae))) 2e3)) (aw 7 (ak 5e4 (aT aB (ab 1e7 (ab (bt 7e5 8e2) ae))) 1e8)) aH) (j6 (mC 12e4) 11e5 (aT nR (ab (ak 3e7 16e1 (tY (au 7))) ae)))))) (aX (bt (g1 eY) (ab (aJ (eJ 17e8)) ae))))))
def nU:List SV->M SV:=bZ 4 4 (Jx)
abbrev Jt:aG->M PF:=(ag (aw 4 17e2) (ag (aw 5 (ak 3e7 16e1 (aT aB (ab 1e7 (ab (bt 7e5 8e2) ae))))) (ag (aw 6 (ak 3e7 (ak 3e7 (ak 3e7 4e0 1e8) 11e5) 2e3)) (ag (aw 7 (ak 3e7 (ak 5e4 (ak 5e4 14e7 14e7) (bf (ab (mC (.str "bell")) (ab (mC (.str "stranger")) ae)))) (aT aB (ab 1e7 (ab (ak 5e4 (ak (g2 dE) 2e9 (bt 7e5 (ab 14e7 ae))) 2e9) ae))))) (ag (aw 8 (aJ (aO (aE 9e0) 5e5 [7,5] 6e4 (aC (ak 12e6 12e8 18e4)) 1e7))) (ag (aw 9 (aT nT (ab 9e0 (ab (au 7) 17e8)))) (ag (aV (dZ (aC (ak 5e2 (au 8) 10e6)) (aC (ak (g2 jR) (aT aB (ab 1e7 (ab (mC (.int 12)) ae))) 2e3))) (aw 9 (ak 3e7 (aJ (aZ (ab 2e3 (ab (ak 3e7 (ak 3e7 (au 8) (aT aB (ab 1e7 (ab (bt 7e5 (ab (au 8) ae)) ae)))) 2e9) ae)))) 10e5)) aH) (ag (aw 10 (ak 5e4 (bt 7e5 (ab (au 8) ae)) 1e8)) (ag (aV (aC (ak (g2 jR) 19e4 2e3)) (aw 10 (ak 5e4 (mC (.int 50)) (ak (g2 dE) (mC (.int 7)) (bt 7e5 5e7)))) aH) (ag (aV (aC (ak (g2 (oN false)) 18e5 (aJ (aO (aE (au 8)) 5e5 [] 6e4 dD (ak 3e7 1e7 2e9))))) (aw 10 (ak 5e4 (mC (.int 900)) (ak (g2 dE) (mC (.int 7)) (bt 7e5 5e7)))) aH) (ag (aw 11 (OA (aC (ak (g2 yW) (aT aB (ab 1e7 (ab (mC (.int 14)) ae))) 2e3)) 9e6 (bt (g1 lP) (ab 2e3 (ab (ak (g2 fY) (ak (g2 fY) 9e6 1e8) 19e4) ae))))) (ag (aw 12 (aT nV (ab 1e7 (ab (ak 3e7 (ak 3e7 4e0 1e8) 11e5) ae)))) (aX (bf (ab (au 7) (ab 11e5 (ab 18e5 (ab (au 9) (ab (aT nU (ab 1e7 (ab 9e0 (ab (au 7) 17e8)))) (ab (au 11) (ab (au 12) ae)))))))))))))))))))))
def lG:List SV->M SV:=bZ 4 9 (Jt)
abbrev Js:aG->M PF:=(ag (ck 3 (aZ ae)) (ag (aw 4 2e3) (ag (cx (aE 17e2) (hName 5) (cx (aE (ak 3e7 (ak 3e7 (ak 3e7 4e0 1e8) 11e5) 2e3)) (hName 6) (aV (aC (ak (g2 fw) (bt 7e5 13e9) 9e0)) (dj (eM 9e6 (ab (bf (ab 14e7 (ab 11e5 (ab 1e8 (ab 2e3 (ab 15e0 (ab 16e1 (ab 16e2 ae)))))))) ae))) aH))) (ag (cx (aK (ab (ak (g2 fY) 9e0 (bt 7e5 13e9)) ae)) (hName 7) (ag (ck 8 (fu bX (ab 1e7 (ab (ak 5e4 (mC (.int 16)) (au 7)) ae)))) (ag (aw 4 (ak 5e4 16e1 (ak 3e7 (aJ (aZ (ab 2e3 (ab 1e8 (ab 1e8 (ab 2e9 (ab 7e4 (ab 1e8 (ab 2e3 8e6))))))))) (aT aB (ab (au 8) 4e9))))) (dj (eM 9e6 (ab (Ck lG [0] (ab (au 8) (ab 4e0 (ab 9e6 8e2)))) ae)))))) (aX 9e6)))))
def nQ:List SV->M SV:=bZ 3 6 (Js)
abbrev Ju:aG->M PF:=(ag (aw 2 (aJ (aO (aE 4e0) 5e5 [0] 6e4 (aC (ak (g2 yW) (aT aB (ab 4e0 (ab (mC (.int 7)) ae))) 2e3)) 1e7))) (ag (aw 2 (ak 5e4 9e0 (aJ (aO (aK (ab (ak (g2 dE) (aT aB (ab 1e7 (ab 7e4 ae))) (bt (g1 gO) (ab (ak 5e2 9e0 10e6) ae))) ae)) ["_law_k"] [2,0] 6e4 dD (ak 3e7 4e0 (aT aB (ab 9e0 (ab (bt 7e5 (ab 4e0 ae)) ae)))))))) (ag (aw 3 (aT aB (ab 1e7 (ab (ak 5e4 (bt 7e5 5e7) 1e8) ae)))) (aX (ak 5e4 (bg 9e0 (bA 9e6) ic) (bg 9e0 ic (bA 9e6)))))))
def nS:List SV->M SV:=bZ 2 2 (Ju)
abbrev Zl:aG->M PF:=(ag (dc 4e0 (cn (aF (hName 2) (aF (hName 3) (aF (hName 4) (aF (hName 5) (aF (hName 6) (aF (hName 7) (aF (hName 8) cp))))))) 7)) (ag (aw 9 (aT aB (ab 1e7 (ab 13e2 ae)))) (ag (aV (aC (ak 12e6 (au 9) 2e3)) (aX (bf (ab 9e0 (ab 9e6 (ab 16e1 (ab (ak 5e4 11e5 1e8) (ab 14e7 (ab (au 7) (ab (au 8) ae))))))))) aH) (ag (aV (aC (ak 12e6 (au 9) 1e8)) (aX (bf (ab 9e0 (ab 9e6 (ab 16e1 (ab 11e5 (ab (ak 3e7 (aJ (aZ (ab (bf (ab (bf (ab (mC (.str "zzzz")) (ab (mC (.str "zzzz")) 8e6))) ae)) (ab (bg 14e7 (bA 1e8) ic) ae)))) (bt (g1 gO) (ab (ak 5e2 14e7 15e0) ae))) (ab (au 7) (ab (au 8) ae))))))))) aH) (ag (aV (aC (ak 12e6 (au 9) 2e9)) (aX (bf (ab 9e0 (ab 9e6 (ab 16e1 (ab 11e5 (ab 14e7 (ab (ak 5e4 (au 7) 1e8) (ab (au 8) ae))))))))) aH) (ag (aV (aC (ak 12e6 (au 9) 7e4)) (aX (bf (ab 9e0 (ab 9e6 (ab 16e1 (ab 11e5 (ab 14e7 (ab (au 7) (ab (ak 3e7 (aJ (aZ (ab 10e9 (ab (bf (ab (mC (.str "quit")) (ab (mC (.int 11)) ae))) ae)))) (bt (g1 gO) (ab (ak 12e6 (au 8) 10e9) ae))) ae))))))))) aH) (aX (bf (ab 9e0 (ab 9e6 (ab 16e1 (ab 11e5 (ab 14e7 (ab (ak 5e4 (au 7) (ak (g2 F4) (mC (.int 10)) (mC (.int 20)))) (ab (au 8) ae)))))))))))))))
def gC:List SV->M SV:=bZ 2 8 (Zl)
abbrev Zm:aG->M PF:=(ag (aw 2 (aT aB (ab 1e7 (ab (ak 5e4 (bt 7e5 (ab 4e0 ae)) 1e8) ae)))) (ag (aV (dZ (aC (ak 5e2 4e0 10e6)) (aC (ak (g2 yW) (aT aB (ab 1e7 (ab 7e4 ae))) 2e3))) (ag (aw 3 (aT gC (ab 1e7 (ab (ak 3e7 4e0 (aT aB (ab 1e7 (ab (bt 7e5 (ab 4e0 ae)) ae)))) ae)))) (aX (ak 5e4 (ak 5e4 (bg 4e0 ic (bA 9e0)) (aJ (aZ 13e9))) (bg 4e0 (bA 9e0) ic)))) aH) (ag (ck 4 (aZ (ab (mC .aP) (ab 2e3 (ab (mC (.str "letter")) (ab 15e0 (ab (bf (ab (mC (.str "a")) (ab (mC (.str "b")) (ab 1e8 ae)))) (ab (aJ (aZ (ab (mC (.str "a")) ae))) (ab (bf (ab (mC (.str "a")) (ab (mC (.str "b")) (ab 1e8 (ab 2e3 (ab 15e0 (ab 2e3 (ab 15e0 ae)))))))) ae))))))))) (ag (dj (eM 16e1 (ab (bf (ab (mC (.str "a")) (ab (mC (.str "b")) (ab (mC 12e4) (ab 2e3 (ab 15e0 (ab 2e3 (ab 10e9 ae)))))))) ae))) (aX (ak 5e4 (ak 5e4 (bg 4e0 ic (bA 9e0)) (aJ (aZ (ab (ak 3e7 16e1 (aT aB (ab 1e7 4e9))) ae)))) (bg 4e0 (bA 9e0) ic)))))))
def jM:List SV->M SV:=bZ 2 3 (Zm)
abbrev Zp(aS bc bh bj ba bo:Addr):aG->M PF:=(ag (aw 2 (bt (g1 dN) 7e1)) (ag (cx (aK (ab 2e9 ae)) (hName 3) (ag (aw 4 (aT (gB aS bc bh bj ba bo) 7e1)) (aV (eZ (bD (cB (bt (g1 hX) (ab 16e1 (ab (mC (.ty "bool")) ae))))) (aC (ak 5e2 16e1 4e0))) 15e5 aH))) (aX (ak 12e6 (bt (g1 dN) 7e1) 9e0))))
def eR(aS bc bh bj ba bo:Addr):List SV->M SV:=bZ 2 3 (Zp aS bc bh bj ba bo)
abbrev JB(aS bc bh bj ba bo:Addr):aG->M PF:=(ag (cx (aE (aJ (aZ (ab (mC .aP) (ab (mC (.str "")) (ab 2e3 (ab 15e0 (ab kC (ab (bf (ab (mC (.str "a")) (ab (mC (.str "b")) (ab 1e8 (ab 2e3 (ab 15e0 (ab 2e3 (ab 10e9 ae)))))))) (ab (aJ (aZ (ab 10e6 ae))) (ab (aJ (aZ (ab 15e0 ae))) ae))))))))))) (hName 1) (aV (bD (cB (aT 9e3 (ab 4e0 (ab (mC 8e1) ae))))) 15e5 aH)) (ag (aw 2 (aT lF 7e1)) (ag (ck 3 (fu bX (ab 1e7 (ab (mC (.int 50)) ae)))) (ag (aw 4 (aT nS (ab 9e6 (ab (aT nQ (ab 1e7 (ab 9e0 (ab (aT aB (ab 9e6 (ab (mC (.int 33)) ae))) ae)))) ae)))) (ag (aV (eZ (bD (cB (aT 9e3 (ab 16e1 (ab (mC 12e4) ae))))) (eZ (bD (cB (aT 9e3 (ab 10e6 (ab (mC 12e4) ae))))) (bD (cB (aT 9e3 (ab (ak 5e4 16e1 16e1) (ab (mC 12e4) ae))))))) 15e5 aH) (ag (aV (eZ (bD (cB (aT 9e3 (ab (bt (g1 eY) 8e2) (ab (mC 8e1) ae))))) (bD (cB (aT 9e3 (ab (bt iF (ab (aJ (aO (aE 16e1) 5e5 [] 6e4 dD (bf (ab 1e7 (ab 1e8 ae))))) ae)) (ab (mC 8e1) ae)))))) 15e5 aH) (ag (cx (iQ (ab 1e8 (ab (ak 5e4 2e9 (bt 7e5 (ab (bg 1e7 (bA 1e8) (bA (mC (.int 16)))) ae))) ae))) (hName 5) (aV (bD (cB (aT 9e3 (ab (Gy jM (fu bX (ab 1e7 (ab (ak 5e4 (mC (.int 51)) 11e5) ae))) 8e2) (ab (mC 8e1) ae))))) 15e5 aH)) (aX (mC 12e4)))))))))
def Et(aS bc bh bj ba bo:Addr):List SV->M SV:=bZ 1 5 (JB aS bc bh bj ba bo)
end
noncomputable def top (i:Nat):Stmt:=PySem.Challenge.pw_holdword_k15_piles.main.body.getD i (.Pass ⟨0,0,0,0⟩)
structure Txt(mg:Str->Option Value):Prop where
 Hr:∃t,mg "JUDGE"=some (.str "bell" t)
 k8:∃t,mg "LONGEST_WORD"=some (.int 12 t)
 k7:∃t,mg "MOST_CLAUSES"=some (.int 12 t)
 sg:∃t,mg "MOST_GOTS"=some (.int 30 t)
 pj:∃t,mg "MOST_PARTS"=some (.int 9 t)
 jU:∃t,mg "SMALL_LETTERS"=some (.str "abcdefghijklmnopqrstuvwxyz" t)
 nD:mg "all"=none
 DW:mg "bool"=none
 NQ:mg "dict"=none
 jI:mg "enumerate"=none
 su:mg "int"=none
 b8:mg "isinstance"=none
 cP:mg "len"=none
 NP:mg "list"=none
 DV:mg "max"=none
 S6:mg "min"=none
 dw:mg "range"=none
 k9:mg "sorted"=none
 xq:mg "str"=none
 fj:mg "tuple"=none
 Su:mg "zip"=none
section
variable{P:Ys}{w:World}{K:W.Frag}{mg:2e5}{base:Heap}
abbrev AG:Stmt:=top 6
theorem Kk:aR ["thing","least"] ["thing","least"] (ay AG):=1e1
theorem Lj{aL:Addr}{ax:Yx}(Fn:eV K "is_number" "is_number" AG aL ax)(T:Txt mg):aN P w K mg base bY 1 aL ax ["thing","least"] (ar K (iA)):=
 gS Fn Kk λcdv A outer s H E hr=>(@cA _ _ _ (@eD _ _ _ _ (sy (IX 1e0 T.b8 1e0 (@ao _ _ _ _ _ (aq 0) (@ao _ _ _ _ _ (Ja 1e0 T.su 1e0) aU 1e0) 1e0)) (sy (Bo (IX 1e0 T.b8 1e0 (@ao _ _ _ _ _ (aq 0) (@ao _ _ _ _ _ (Ja 1e0 T.DW 1e0) aU 1e0) 1e0))) (Hz (sC Qn RX.r (aq 0) (aq 1) 6e8))))))
end
section
variable{P:Ys}{w:World}{K:W.Frag}{mg:2e5}{base:Heap}
abbrev AF:Stmt:=top 7
theorem Kj:aR ["thing","bound"] ["thing","bound"] (ay AF):=1e1
theorem Li{aL:Addr}{ax:Yx}{gr:Addr}{gh:Yx}(Fn:eV K "is_number_below" "is_number_below" AF aL ax)(T:Txt mg)(nL:aN P w K mg base bY 1 gr gh ["thing","least"] (ar K iA))(ig:mg "is_number"=some (.ref gr))(mW:YE K (.ref gr)=true)(nB:L2.Binds K gh ["thing","least"] []):aN P w K mg base bY 2 aL ax ["thing","bound"] (ar K (jL)):=
 gS Fn Kj λcdv A outer s H E hr=>(@cA _ _ _ (@eD _ _ _ _ (sy (cC nL 3e0 1e0 ig mW nB (@ao _ _ _ _ _ (aq 0) 2e6 1e0)) (Hz (sC zI zH.r (aq 0) (aq 1) 6e8)))))
end
section
variable{P:Ys}{w:World}{K:W.Frag}{mg:2e5}{base:Heap}
abbrev Ay:Stmt:=top 8
theorem Ke:aR 14e4 14e4 (ay Ay):=1e1
theorem Lc{aL:Addr}{ax:Yx}(Fn:eV K "is_row_of" "is_row_of" Ay aL ax)(T:Txt mg):aN P w K mg base bY 1 aL ax 14e4 (ar K (fW)):=
 gS Fn Ke λcdv A outer s H E hr=>(@cA _ _ _ (@eD _ _ _ _ (sy (IX 1e0 T.b8 1e0 (@ao _ _ _ _ _ (aq 0) (@ao _ _ _ _ _ (Ja 1e0 T.fj 1e0) aU 1e0) 1e0)) (Hz (tK vR vR v9.r v9.r (aq 1) 19e3 (aq 2))))))
end
section
variable{P:Ys}{w:World}{K:W.Frag}{mg:2e5}{base:Heap}
abbrev Ax:Stmt:=top 9
theorem Kd:aR 9e8 9e8 (ay Ax):=1e1
theorem Lb{aL:Addr}{ax:Yx}(Fn:eV K "is_word" "is_word" Ax aL ax)(T:Txt mg):aN P w K mg base bY 1 aL ax 9e8 (ar K (fV)):=
 gS Fn Kd λcdv A outer s H E hr=>(@bB _ _ _ _ _ (@gy _ _ _ _ _ _ _ _ (zK (DZ (nG (pC (IX 1e0 T.b8 1e0 (@ao _ _ _ _ _ (aq 0) (@ao _ _ _ _ _ (Ja 1e0 T.xq 1e0) aU 1e0) 1e0)))) (IZ (nG (tF vR vR v9.r v9.r aY 19e3 (Zb0 1e0 T.k8)))))) 9e4 gA) (@cA _ _ _ (@eD _ _ _ _ (Pl rfl 1e0 T.nD 1e0 (@ao _ _ _ _ _ (fC (vk (vs:=["sign"]) (fs:=[]) (fr:=[]) 3e1 rfl (pK (aq 0)) (λ_ _ _ _ _=>(da (i:=0) (show((["sign"]:List Str)++([]:List Str)).Nodup by decide +kernel) rfl 2e1)) 10e4 (λ_ _ _ _ _=>(sC BL Q6.r (aq 0) (ZdG 1e0 T.jU) rfl)))) aU 1e0)))))
end
section
variable{P:Ys}{w:World}{K:W.Frag}{mg:2e5}{base:Heap}
abbrev AK:Stmt:=top 12
theorem Km:aR 9e8 9e8 (ay AK):=1e1
theorem Ln{aL:Addr}{ax:Yx}{jE:Addr}{jq:Yx}(Fn:eV K "is_clause_number" "is_clause_number" AK aL ax)(T:Txt mg)(Er:aN P w K mg base bY 2 jE jq ["thing","bound"] (ar K jL))(mH:mg "is_number_below"=some (.ref jE))(Ct:YE K (.ref jE)=true)(DT:L2.Binds K jq ["thing","bound"] []):aN P w K mg base bY 3 aL ax 9e8 (ar K (jc)):=
 gS Fn Km λcdv A outer s H E hr=>(@cA _ _ _ (@eD _ _ _ _ (cC Er 3e0 1e0 mH Ct DT (@ao _ _ _ _ _ (aq 0) (@ao _ _ _ _ _ (Zb0 1e0 T.k7) aU 1e0) 1e0))))
end
section
variable{P:Ys}{w:World}{K:W.Frag}{mg:2e5}{base:Heap}
abbrev AL:Stmt:=top 13
theorem Kn:aR 16e7 16e7 (ay AL):=1e1
theorem Lo{aL:Addr}{ax:Yx}(Fn:eV K "is_bare" "is_bare" AL aL ax)(T:Txt mg):aN P w K mg base bY 1 aL ax 16e7 (ar K (nO)):=
 gS Fn Kn λcdv A outer s H E hr=>(@cA _ _ _ (@eD _ _ _ _ (sC zu zr.r 19e3 aY 6e8)))
end
section
variable{P:Ys}{w:World}{K:W.Frag}{mg:2e5}{base:Heap}
abbrev AA:Stmt:=top 14
theorem Kf:aR 16e7 16e7 (ay AA):=1e1
theorem Le{aL:Addr}{ax:Yx}{gn:Addr}{gf:Yx}(Fn:eV K "is_of_word" "is_of_word" AA aL ax)(T:Txt mg)(nK:aN P w K mg base bY 1 gn gf 9e8 (ar K fV))(ie:mg "is_word"=some (.ref gn))(mV:YE K (.ref gn)=true)(nA:L2.Binds K gf 9e8 []):aN P w K mg base bY 2 aL ax 16e7 (ar K (jJ)):=
 gS Fn Kf λcdv A outer s H E hr=>(@cA _ _ _ (@eD _ _ _ _ (sy (sC zu zr.r 19e3 aY 6e8) (Hz (cC nK 3e0 1e0 ie mV nA (@ao _ _ _ _ _ 6e3 aU 1e0))))))
end
section
variable{P:Ys}{w:World}{K:W.Frag}{mg:2e5}{base:Heap}
abbrev AE:Stmt:=top 15
theorem Ki:aR 16e7 16e7 (ay AE):=1e1
theorem Lh{aL:Addr}{ax:Yx}{gu:Addr}{gi:Yx}(Fn:eV K "is_of_clause" "is_of_clause" AE aL ax)(T:Txt mg)(sJ:aN P w K mg base bY 3 gu gi 9e8 (ar K jc))(iO:mg "is_clause_number"=some (.ref gu))(qS:YE K (.ref gu)=true)(sj:L2.Binds K gi 9e8 []):aN P w K mg base bY 4 aL ax 16e7 (ar K (jK)):=
 gS Fn Ki λcdv A outer s H E hr=>(@cA _ _ _ (@eD _ _ _ _ (sy (sC zu zr.r 19e3 aY 6e8) (Hz (cC sJ 3e0 1e0 iO qS sj (@ao _ _ _ _ _ 6e3 aU 1e0))))))
end
section
variable{P:Ys}{w:World}{K:W.Frag}{mg:2e5}{base:Heap}
abbrev AB:Stmt:=top 16
theorem Kg:aR 16e7 16e7 (ay AB):=1e1
theorem Lf{aL:Addr}{ax:Yx}{gu jE:Addr}{gi jq:Yx}(Fn:eV K "is_of_part" "is_of_part" AB aL ax)(T:Txt mg)(sJ:aN P w K mg base bY 3 gu gi 9e8 (ar K jc))(iO:mg "is_clause_number"=some (.ref gu))(qS:YE K (.ref gu)=true)(sj:L2.Binds K gi 9e8 [])(Er:aN P w K mg base bY 2 jE jq ["thing","bound"] (ar K jL))(mH:mg "is_number_below"=some (.ref jE))(Ct:YE K (.ref jE)=true)(DT:L2.Binds K jq ["thing","bound"] []):aN P w K mg base bY 4 aL ax 16e7 (ar K (jb)):=
 gS Fn Kg λcdv A outer s H E hr=>(@cA _ _ _ (@eD _ _ _ _ (sy (sC zu zr.r 19e3 aY 6e8) (sy (cC sJ 3e0 1e0 iO qS sj (@ao _ _ _ _ _ 6e3 aU 1e0)) (Hz (cC Er 3e0 1e0 mH Ct DT (@ao _ _ _ _ _ 6e3 (@ao _ _ _ _ _ (Zb0 1e0 T.pj) aU 1e0) 1e0)))))))
end
section
variable{P:Ys}{w:World}{K:W.Frag}{mg:2e5}{base:Heap}
abbrev AD:Stmt:=top 17
theorem Kh:aR 16e7 16e7 (ay AD):=1e1
theorem Lg{aL:Addr}{ax:Yx}{gu gn:Addr}{gi gf:Yx}(Fn:eV K "is_of_house" "is_of_house" AD aL ax)(T:Txt mg)(sJ:aN P w K mg base bY 3 gu gi 9e8 (ar K jc))(iO:mg "is_clause_number"=some (.ref gu))(qS:YE K (.ref gu)=true)(sj:L2.Binds K gi 9e8 [])(nK:aN P w K mg base bY 1 gn gf 9e8 (ar K fV))(ie:mg "is_word"=some (.ref gn))(mV:YE K (.ref gn)=true)(nA:L2.Binds K gf 9e8 []):aN P w K mg base bY 4 aL ax 16e7 (ar K (gX)):=
 gS Fn Kh λcdv A outer s H E hr=>(@cA _ _ _ (@eD _ _ _ _ (sy (sC zu zr.r 19e3 aY 6e8) (sy (cC sJ 3e0 1e0 iO qS sj (@ao _ _ _ _ _ 6e3 aU 1e0)) (sy (cC nK 3e0 1e0 ie mV nA (@ao _ _ _ _ _ 6e3 aU 1e0)) (Hz (sC HX Ib.r 6e3 (ZdG 1e0 T.Hr) 6e8)))))))
end
section
variable{P:Ys}{w:World}{K:W.Frag}{mg:2e5}{base:Heap}
abbrev AJ:Stmt:=top 19
theorem As:aR ["thing","fits"] 9e8 (ay AJ):=1e1
theorem Lm{aL:Addr}{ax:Yx}{bc bh bj ba bo aS:Addr}{uG uA uB uD uC:Yx}(Fn:eV K "is_deed" "is_deed" AJ aL ax)(T:Txt mg)(sD:mg "DEEDS"=some (.ref aS))(i5:TopD K w aS (sU bc bh bj ba bo))(T3:aN P w K mg base bY 1 bc uG 16e7 (ar K nO))(B4:mg "is_bare"=some (.ref bc))(QO:YE K (.ref bc)=true)(SF:L2.Binds K uG 16e7 [])(TU:aN P w K mg base bY 2 bh uA 16e7 (ar K jJ))(BY:mg "is_of_word"=some (.ref bh))(QH:YE K (.ref bh)=true)(Sw:L2.Binds K uA 16e7 [])(TV:aN P w K mg base bY 4 bj uB 16e7 (ar K jb))(BZ:mg "is_of_part"=some (.ref bj))(QI:YE K (.ref bj)=true)(Sx:L2.Binds K uB 16e7 [])(TY:aN P w K mg base bY 4 ba uD 16e7 (ar K jK))(B1:mg "is_of_clause"=some (.ref ba))(QK:YE K (.ref ba)=true)(Sz:L2.Binds K uD 16e7 [])(TX:aN P w K mg base bY 4 bo uC 16e7 (ar K gX))(B0:mg "is_of_house"=some (.ref bo))(QJ:YE K (.ref bo)=true)(Sy:L2.Binds K uC 16e7 []):aN P w K mg base bY 5 aL ax 9e8 (ar K (gY aS bc bh bj ba bo)):=
 gS Fn As λcdv A outer s H E hr=>(@bB _ _ _ _ _ (@gy _ _ _ _ _ _ _ _ (zK (DZ (nG (pC (IX 1e0 T.b8 1e0 (@ao _ _ _ _ _ (aq 0) (@ao _ _ _ _ _ (Ja 1e0 T.fj 1e0) aU 1e0) 1e0)))) (DZ (nG (pC (aq 0))) (DZ (nG (pC (IX 1e0 T.b8 1e0 (@ao _ _ _ _ _ 6e3 (@ao _ _ _ _ _ (Ja 1e0 T.xq 1e0) aU 1e0) 1e0)))) (IZ (fU (qB i5) z0 6e3 (qm 1e0 sD) rfl)))))) 9e4 gA) (@bB _ _ _ _ _ (dy (i:=1) As.nd rfl 2e1 (tG i5 (qm 1e0 sD) 6e3)) (@cA _ _ _ (@eD _ _ _ _ (tL (k:=4) 1 (Rg (λq hq=>by
  simp only[zy,Yd,YQ,or_false]at hq;rcases hq with rfl|rfl|rfl|rfl|rfl
  ·show⟨_,_,T3.mono 1e2,QO,SF⟩
  ·show⟨_,_,TU.mono 1e2,QH,Sw⟩
  ·show⟨_,_,TV.mono 1e2,QI,Sx⟩
  ·show⟨_,_,TY.mono 1e2,QK,Sz⟩
  ·show⟨_,_,TX.mono (by decide),QJ,Sy⟩)) (hr.mono (by decide)) (@ao _ _ _ _ _ (pE (aq 0) (nH aY) pL) aU (by rfl)))))))
end
section
variable{P:Ys}{w:World}{K:W.Frag}{mg:2e5}{base:Heap}
abbrev AH:Stmt:=top 20
theorem Kl:aR 9e8 9e8 (ay AH):=1e1
theorem Lk{aL:Addr}{ax:Yx}{gp gn gr:Addr}{gg gf gh:Yx}(Fn:eV K "is_letter_name" "is_letter_name" AH aL ax)(T:Txt mg)(sI:aN P w K mg base bY 1 gp gg 14e4 (ar K fW))(iN:mg "is_row_of"=some (.ref gp))(qR:YE K (.ref gp)=true)(si:L2.Binds K gg 14e4 [])(nK:aN P w K mg base bY 1 gn gf 9e8 (ar K fV))(ie:mg "is_word"=some (.ref gn))(mV:YE K (.ref gn)=true)(nA:L2.Binds K gf 9e8 [])(nL:aN P w K mg base bY 1 gr gh ["thing","least"] (ar K iA))(ig:mg "is_number"=some (.ref gr))(mW:YE K (.ref gr)=true)(nB:L2.Binds K gh ["thing","least"] []):aN P w K mg base bY 2 aL ax 9e8 (ar K (cJ)):=
 gS Fn Kl λcdv A outer s H E hr=>(@cA _ _ _ (@eD _ _ _ _ (sy (cC sI 3e0 1e0 iN qR si (@ao _ _ _ _ _ (aq 0) (@ao _ _ _ _ _ aY 2e6 1e0) 1e0)) (sy (cC nK 3e0 1e0 ie mV nA (@ao _ _ _ _ _ 6e3 aU 1e0)) (sy (cC nK 3e0 1e0 ie mV nA (@ao _ _ _ _ _ 6e3 aU 1e0)) (Hz (cC nL 3e0 1e0 ig mW nB (@ao _ _ _ _ _ 6e3 2e6 1e0))))))))
end
section
variable{P:Ys}{w:World}{K:W.Frag}{mg:2e5}{base:Heap}
abbrev AO:Stmt:=top 21
theorem Kp:aR ["thing","house","deal"] ["thing","house","deal"] (ay AO):=1e1
theorem Lq{aL:Addr}{ax:Yx}{gp jF:Addr}{gg jr:Yx}(Fn:eV K "are_gots" "are_gots" AO aL ax)(T:Txt mg)(sI:aN P w K mg base bY 1 gp gg 14e4 (ar K fW))(iN:mg "is_row_of"=some (.ref gp))(qR:YE K (.ref gp)=true)(si:L2.Binds K gg 14e4 [])(Es:aN P w K mg base bY 2 jF jr 9e8 (ar K cJ))(mI:mg "is_letter_name"=some (.ref jF))(Cu:YE K (.ref jF)=true)(DU:L2.Binds K jr 9e8 []):aN P w K mg base bY 3 aL ax ["thing","house","deal"] (ar K (fX)):=
 gS Fn Kp λcdv A outer s H E hr=>(@bB _ _ _ _ _ (@gy _ _ _ _ _ _ _ _ (zK (DZ (nG (pC (cC sI 3e0 1e0 iN qR si (@ao _ _ _ _ _ (aq 0) (@ao _ _ _ _ _ aY (@ao _ _ _ _ _ (Zb0 1e0 T.sg) aU 1e0) 1e0) 1e0)))) (IZ (nG (pC (Pl rfl 1e0 T.nD 1e0 (@ao _ _ _ _ _ (fC (vk (vs:=["name"]) (fs:=[]) (fr:=[]) 3e1 rfl (pK (aq 0)) (λ_ _ _ _ _=>(da (i:=0) (show((["name"]:List Str)++([]:List Str)).Nodup by decide +kernel) rfl 2e1)) 10e4 (λ_ _ _ _ _=>(cC Es 3e0 1e0 mI Cu DU 6e0)))) aU 1e0))))))) 9e4 gA) (@bB _ _ _ _ _ (@gy _ _ _ _ _ _ _ _ (nG (pC (Pl rfl 1e0 T.nD 1e0 (@ao _ _ _ _ _ (fC (vk (vs:=["low","high"]) (fs:=[]) (fr:=[]) 3e1 rfl (Bm 1e0 T.Su (@ao _ _ _ _ _ (aq 0) (@ao _ _ _ _ _ (pE (aq 0) (nH aY) pL) aU 1e0) 1e0)) (λ_ _ _ _ _=>(IY rfl (ia (da (i:=0) (show((["low","high"]:List Str)++([]:List Str)).Nodup by decide +kernel) rfl 2e1) (ia (da (i:=1) (show((["low","high"]:List Str)++([]:List Str)).Nodup by decide +kernel) rfl 2e1) I0)))) 10e4 (λ_ _ _ _ _=>(sC (K7 15e7) L5.r (aq 0) (aq 1) 6e8)))) aU 1e0)))) 9e4 gA) (@cA _ _ _ (@eD _ _ _ _ (Pl rfl 1e0 T.nD 1e0 (@ao _ _ _ _ _ (fC (vk (vs:=["name"]) (fs:=["house","deal"]) (fr:=[1,2]) 3e1 rfl (pK (aq 0)) (λ_ _ _ _ _=>(da (i:=0) (show((["name"]:List Str)++(["house","deal"]:List Str)).Nodup by decide +kernel) rfl 2e1)) 10e4 (λ_ _ _ _ _=>(sC (E7 15e7) nF.r (pE (aq 0) pL (nH aY)) (dJ (@ao _ _ _ _ _ (aq 1) 8e0 1e0)) 6e8)))) aU 1e0))))))
end
section
variable{P:Ys}{w:World}{K:W.Frag}{mg:2e5}{base:Heap}
abbrev AI:Stmt:=top 22
theorem IS:aR ["thing","house","deal","nr","prev","gots","time","deed"] 9e8 (ay AI):=1e1
theorem Ll{aL:Addr}{ax:Yx}{gp jF gr wJ wH aS bc bh bj ba bo:Addr}{gg jr gh uI uF:Yx}(Fn:eV K "is_letter" "is_letter" AI aL ax)(T:Txt mg)(sI:aN P w K mg base bY 1 gp gg 14e4 (ar K fW))(iN:mg "is_row_of"=some (.ref gp))(qR:YE K (.ref gp)=true)(si:L2.Binds K gg 14e4 [])(Es:aN P w K mg base bY 2 jF jr 9e8 (ar K cJ))(mI:mg "is_letter_name"=some (.ref jF))(Cu:YE K (.ref jF)=true)(DU:L2.Binds K jr 9e8 [])(nL:aN P w K mg base bY 1 gr gh ["thing","least"] (ar K iA))(ig:mg "is_number"=some (.ref gr))(mW:YE K (.ref gr)=true)(nB:L2.Binds K gh ["thing","least"] [])(T5:aN P w K mg base bY 3 wJ uI ["thing","house","deal"] (ar K fX))(B6:mg "are_gots"=some (.ref wJ))(QR:YE K (.ref wJ)=true)(SI:L2.Binds K uI ["thing","house","deal"] [])(T2:aN P w K mg base bY 5 wH uF 9e8 (ar K (gY aS bc bh bj ba bo)))(B3:mg "is_deed"=some (.ref wH))(QM:YE K (.ref wH)=true)(SE:L2.Binds K uF 9e8 []):aN P w K mg base bY 6 aL ax 9e8 (ar K (dC aS bc bh bj ba bo)):=
 gS Fn IS λcdv A outer s H E hr=>(@bB _ _ _ _ _ (@gy _ _ _ _ _ _ _ _ (zK (DZ (nG (pC (cC sI 3e0 1e0 iN qR si (@ao _ _ _ _ _ (aq 0) (@ao _ _ _ _ _ aY 2e6 1e0) 1e0)))) (IZ (nG (pC (cC Es 3e0 1e0 mI Cu DU (@ao _ _ _ _ _ (pE (aq 0) pL (nH aY)) aU 1e0))))))) 9e4 gA) (@bB _ _ _ _ _ (Ti (aq 0) (IY rfl (ia (da (i:=1) IS.nd rfl 2e1) (ia (da (i:=2) IS.nd rfl 2e1) (ia (da (i:=3) IS.nd rfl 2e1) (ia (da (i:=4) IS.nd rfl 2e1) (ia (da (i:=5) IS.nd rfl 2e1) (ia (da (i:=6) IS.nd rfl 2e1) (ia (da (i:=7) IS.nd rfl 2e1) I0))))))))) (@cA _ _ _ (@eD _ _ _ _ (sy (cC nL 3e0 1e0 ig mW nB (@ao _ _ _ _ _ (aq 4) 2e6 1e0)) (sy (cC T5 3e0 1e0 B6 QR SI (@ao _ _ _ _ _ (aq 5) (@ao _ _ _ _ _ (aq 1) 8e0 1e0) 1e0)) (sy (cC nL 3e0 1e0 ig mW nB (@ao _ _ _ _ _ (aq 6) 2e6 1e0)) (Hz (cC T2 3e0 1e0 B3 QM SE (@ao _ _ _ _ _ (aq 7) aU 1e0))))))))))
end
section
variable{P:Ys}{w:World}{K:W.Frag}{mg:2e5}{base:Heap}
abbrev Aw:Stmt:=top 23
theorem Kc:aR ["letter"] ["letter"] (ay Aw):=1e1
theorem La{aL:Addr}{ax:Yx}(Fn:eV K "name_of" "name_of" Aw aL ax)(T:Txt mg):aN P w K mg base bY 1 aL ax ["letter"] (ar K (ja)):=
 gS Fn Kc λcdv A outer s H E hr=>(@cA _ _ _ (@eD _ _ _ _ (pE (aq 0) pL (nH aY))))
end
section
variable{P:Ys}{w:World}{K:W.Frag}{mg:2e5}{base:Heap}
abbrev AN:Stmt:=top 26
theorem Ko:aR ["pile"] ["pile"] (ay AN):=1e1
theorem Lp{aL:Addr}{ax:Yx}{jD:Addr}{jo:Yx}(Fn:eV K "by_name" "by_name" AN aL ax)(T:Txt mg)(Ep:aN P w K mg base bY 1 jD jo ["letter"] (ar K ja))(mG:mg "name_of"=some (.ref jD))(Cr:YE K (.ref jD)=true)(DQ:L2.Binds K jo ["letter"] []):aN P w K mg base bY 2 aL ax ["pile"] (ar K (nP)):=
 gS Fn Ko λcdv A outer s H E hr=>(@cA _ _ _ (@eD _ _ _ _ (tJ (vs:=["letter"]) (fs:=[]) (fr:=[]) 3e1 rfl 15e7 (pK (aq 0)) (λ_ _ _ _ _=>(da (i:=0) (show((["letter"]:List Str)++([]:List Str)).Nodup by decide +kernel) rfl 2e1)) 10e4 (λ_ _ _ _ _=>(cC Ep 3e0 1e0 mG Cr DQ 6e0)) (λ_ _ _ _ _=>(aq 0)))))
end
section
variable{P:Ys}{w:World}{K:W.Frag}{mg:2e5}{base:Heap}
abbrev Az:Stmt:=top 25
theorem Ar:aR ["thing","letters"] 9e8 (ay Az):=1e1
theorem Ld{aL:Addr}{ax:Yx}{wG wI jD aS bc bh bj ba bo:Addr}{uE uH jo:Yx}(Fn:eV K "is_pile" "is_pile" Az aL ax)(T:Txt mg)(TZ:aN P w K mg base bY 6 wG uE 9e8 (ar K (dC aS bc bh bj ba bo)))(B2:mg "is_letter"=some (.ref wG))(QL:YE K (.ref wG)=true)(SA:L2.Binds K uE 9e8 [])(T4:aN P w K mg base bY 2 wI uH ["pile"] (ar K nP))(B5:mg "by_name"=some (.ref wI))(QQ:YE K (.ref wI)=true)(SG:L2.Binds K uH ["pile"] [])(Ep:aN P w K mg base bY 1 jD jo ["letter"] (ar K ja))(mG:mg "name_of"=some (.ref jD))(Cr:YE K (.ref jD)=true)(DQ:L2.Binds K jo ["letter"] []):aN P w K mg base bY 7 aL ax 9e8 (ar K (gB aS bc bh bj ba bo)):=
 gS Fn Ar λcdv A outer s H E hr=>(@bB _ _ _ _ _ (@gy _ _ _ _ _ _ _ _ (zK (DZ (nG (pC (IX 1e0 T.b8 1e0 (@ao _ _ _ _ _ (aq 0) (@ao _ _ _ _ _ (Ja 1e0 T.NP 1e0) aU 1e0) 1e0)))) (IZ (nG (pC (Pl rfl 1e0 T.nD 1e0 (@ao _ _ _ _ _ (fC (vk (vs:=["letter"]) (fs:=[]) (fr:=[]) 3e1 rfl (pK (aq 0)) (λ_ _ _ _ _=>(da (i:=0) (show((["letter"]:List Str)++([]:List Str)).Nodup by decide +kernel) rfl 2e1)) 10e4 (λ_ _ _ _ _=>(cC TZ 3e0 1e0 B2 QL SA 6e0)))) aU 1e0))))))) 9e4 gA) (@bB _ _ _ _ _ (dy (i:=1) Ar.nd rfl 16e0 (cC T4 3e0 1e0 B5 QQ SG 6e0)) (@cA _ _ _ (@eD _ _ _ _ (Pl rfl 1e0 T.nD 1e0 (@ao _ _ _ _ _ (fC (vk (vs:=["letter"]) (fs:=["letters"]) (fr:=[1]) 3e1 rfl (pK (aq 0)) (λ_ _ _ _ _=>(da (i:=0) (show((["letter"]:List Str)++(["letters"]:List Str)).Nodup by decide +kernel) rfl 2e1)) 10e4 (λ_ _ _ _ _=>(sC (E6 15e7) nF.r (Bq 8e9 (aq 1) (cC Ep 3e0 1e0 mG Cr DQ 6e0)) (aq 0) 6e8)))) aU 1e0))))))
end
section
variable{P:Ys}{w:World}{K:W.Frag}{mg:2e5}{base:Heap}
abbrev A7:Stmt:=top 28
theorem Kr:aR 6e7 6e7 (ay A7):=1e1
theorem LK{aL:Addr}{ax:Yx}(Fn:eV K "_law_cell_at" "_law_cell_at" A7 aL ax)(T:Txt mg):aN P w K mg base bY 1 aL ax 6e7 (ar K (jd)):=
 gS Fn Kr λcdv A outer s H E hr=>(@bB _ _ _ _ _ (@gy _ _ _ _ _ _ _ _ (fU zI zH.r (aq 1) 19e3 6e8) (@cA _ _ _ (@eD _ _ _ _ (dB 8e9 (aq 0) (aq 1)))) gA) (@cA _ _ _ (@eD _ _ _ _ aY)))
end
section
variable{P:Ys}{w:World}{K:W.Frag}{mg:2e5}{base:Heap}
abbrev vH:Stmt:=top 29
theorem IP:aR ["_law_script","_law_k","_law_cell","_law_seed"] 6e7 (ay vH):=1e1
theorem LB{aL:Addr}{ax:Yx}{jG:Addr}{js:Yx}(Fn:eV K "_law_left" "_law_left" vH aL ax)(T:Txt mg)(sL:aN P w K mg base bY 1 jG js 6e7 (ar K jd))(jA:mg "_law_cell_at"=some (.ref jG))(qT:YE K (.ref jG)=true)(sk:L2.Binds K js 6e7 []):aN P w K mg base bY 2 aL ax 6e7 (ar K (Ji)):=
 gS Fn IP λcdv A outer s H E hr=>(@bB _ _ _ _ _ (dy (i:=2) IP.nd rfl 2e1 (cC sL 3e0 1e0 jA qT sk (@ao _ _ _ _ _ (aq 0) (@ao _ _ _ _ _ (pJ (aq 1) (kn rfl 1e0 T.DV 1e0 (@ao _ _ _ _ _ aY (@ao _ _ _ _ _ 19e3 aU 1e0) 1e0))) aU 1e0) 1e0))) (@bB _ _ _ _ _ (dy (i:=3) IP.nd rfl 2e1 (pJ (vj (eU (eU (pJ (aq 2) aY) (vj (vj aY (aq 1)) (aq 1))) aY) aY) aY)) (@bB _ _ _ _ _ (@gy _ _ _ _ _ _ _ _ (fU zu zr.r (pJ (cC sL 3e0 1e0 jA qT sk (@ao _ _ _ _ _ (aq 0) 2e6 1e0)) aY) aY 6e8) (@cA _ _ _ (dy (i:=2) IP.nd rfl 2e1 aY)) gA) (@cA _ _ _ (Zc5 (iy (@ao _ _ _ _ _ (pJ (aq 2) (km aY aY)) (@ao _ _ _ _ _ (aq 3) aU 1e0) 1e0)))))))
theorem Gi{aL:Addr}{ax:Yx}{jG:Addr}{js:Yx}(Fn:eV K "_law_left" "_law_left" vH aL ax)(T:Txt mg)(sL:aN P w K mg base bY 1 jG js 6e7 (ar K jd))(jA:mg "_law_cell_at"=some (.ref jG))(qT:YE K (.ref jG)=true)(sk:L2.Binds K js 6e7 []):aN P w K mg base bY 2 aL ax 6e7 (gc K (bX)):=
 Bn Fn IP λcdv A outer s H E hr=>(@bB _ _ _ _ _ (dy (i:=2) IP.nd rfl 2e1 (cC sL 3e0 1e0 jA qT sk (@ao _ _ _ _ _ (aq 0) (@ao _ _ _ _ _ (pJ (aq 1) (kn rfl 1e0 T.DV 1e0 (@ao _ _ _ _ _ aY (@ao _ _ _ _ _ 19e3 aU 1e0) 1e0))) aU 1e0) 1e0))) (@bB _ _ _ _ _ (dy (i:=3) IP.nd rfl 2e1 (pJ (vj (eU (eU (pJ (aq 2) aY) (vj (vj aY (aq 1)) (aq 1))) aY) aY) aY)) (@bB _ _ _ _ _ (@gy _ _ _ _ _ _ _ _ (fU zu zr.r (pJ (cC sL 3e0 1e0 jA qT sk (@ao _ _ _ _ _ (aq 0) 2e6 1e0)) aY) aY 6e8) (@cA _ _ _ (dy (i:=2) IP.nd rfl 2e1 aY)) gA) (@cA _ _ _ (Zc5 (iy (@ao _ _ _ _ _ (pJ (aq 2) (km aY aY)) (@ao _ _ _ _ _ (aq 3) aU 1e0) 1e0)))))))
end
section
variable{P:Ys}{w:World}{K:W.Frag}{mg:2e5}{base:Heap}
abbrev AW:Stmt:=top 30
theorem Au:aR ["_law_left_here","_law_many","_law_digit"] 3e2 (ay AW):=1e1
theorem Lx{aL:Addr}{ax:Yx}(Fn:eV K "_law_pick" "_law_pick" AW aL ax)(T:Txt mg):aN P w K mg base bY 1 aL ax 3e2 (ar K (aB)):=
 gS Fn Au λcdv A outer s H E hr=>(@bB _ _ _ _ _ (@gy _ _ _ _ _ _ _ _ (fU vS wA.r 6e3 aY 6e8) (@bB _ _ _ _ _ (dy (i:=2) Au.nd rfl 2e1 (pJ 6e3 (aq 1))) (@bB _ _ _ _ _ (ZdF (yj 6e3 (aq 1)) (aq 0) aY) (@cA _ _ _ (@eD _ _ _ _ (aq 2))))) gA) (@bB _ _ _ _ _ (ZdF (pJ (eU (vj 6e3 aY) aY) aY) (aq 0) aY) (@cA _ _ _ (@eD _ _ _ _ (pJ (pJ (vj 6e3 6e3) aY) (aq 1))))))
end
section
variable{P:Ys}{w:World}{K:W.Frag}{mg:2e5}{base:Heap}
abbrev AQ:Stmt:=top 31
theorem oa:aR ["_law_left_here","_law_many","_law_letters","_law_first","_law_step"] 3e2 (ay AQ):=1e1
theorem Lr{aL:Addr}{ax:Yx}{eO:Addr}{dv:Yx}(Fn:eV K "_law_words" "_law_words" AQ aL ax)(T:Txt mg)(bI:5e6)(bb:8e4)(bF:12e0)(bH:12e2):aN P w K mg base bY 2 aL ax 3e2 (ar K (lE)):=
 gS Fn oa λcdv A outer s H E hr=>(@bB _ _ _ _ _ (dy (i:=2) oa.nd rfl 16e0 iG) (@bB _ _ _ _ _ (dy (i:=3) oa.nd rfl 16e0 1e3) (@bB _ _ _ _ _ (dy (i:=4) oa.nd rfl 16e0 (dB 8e9 (fC (iy (@ao _ _ _ _ _ aY (@ao _ _ _ _ _ aY (@ao _ _ _ _ _ aY (@ao _ _ _ _ _ aY (@ao _ _ _ _ _ aY 2e6 1e0) 1e0) 1e0) 1e0) 1e0))) 1e3)) (@cA _ _ _ (Zc5 (vk (vs:=["_law_k"]) (fs:=["_law_letters","_law_first","_law_step"]) (fr:=[2,3,4]) 3e1 rfl (Fb 1e0 T.dw (@ao _ _ _ _ _ (aq 1) aU 1e0)) (λ_ _ _ _ _=>(da (i:=0) (show((["_law_k"]:List Str)++(["_law_letters","_law_first","_law_step"]:List Str)).Nodup by decide +kernel) rfl 2e1)) 10e4 (λ_ _ _ _ _=>(eU (dB 8e9 (aq 1) (pJ (eU (aq 2) (vj (aq 3) (aq 0))) aY)) (dB 8e9 (fC (iy (@ao _ _ _ _ _ iG (@ao _ _ _ _ _ iG (@ao _ _ _ _ _ iG 11e3 1e0) 1e0) 1e0))) (pJ (eU (aq 2) (vj (aq 0) (aq 0))) aY))))))))))
end
section
variable{P:Ys}{w:World}{K:W.Frag}{mg:2e5}{base:Heap}
abbrev A4:Stmt:=top 32
theorem IL:aR ["_law_left_here","_law_deal","_law_named","_law_own","_law_houses","_law_others","_law_clauses_here","_law_way","_law_k","_law_sizes","_law_c"] ["_law_left_here","_law_deal","_law_named","_law_own"] (ay A4):=1e1
theorem LH{aL:Addr}{ax:Yx}{eO:Addr}{dv:Yx}(Fn:eV K "_law_event" "_law_event" A4 aL ax)(T:Txt mg)(bI:5e6)(bb:8e4)(bF:12e0)(bH:12e2):aN P w K mg base bY 2 aL ax ["_law_left_here","_law_deal","_law_named","_law_own"] (ar K (gZ)):=
 gS Fn IL λcdv A outer s H E hr=>(@bB _ _ _ _ _ (Ti (aq 1) (IY rfl (ia (da (i:=4) IL.nd rfl 2e1) (ia (da (i:=5) IL.nd rfl 2e1) (ia (da (i:=6) IL.nd rfl 2e1) I0))))) (@bB _ _ _ _ _ (dy (i:=7) IL.nd rfl 2e1 1e3) (@bB _ _ _ _ _ (@gy _ _ _ _ _ _ _ _ (fU zI zH.r (aq 7) aY 6e8) (@cA _ _ _ (@eD _ _ _ _ (dJ (@ao _ _ _ _ _ iG (@ao _ _ _ _ _ (cC bI 3e0 1e0 bb bF bH (@ao _ _ _ _ _ (aq 0) 11e2 1e0)) aU 1e0) 1e0)))) gA) (@bB _ _ _ _ _ (@gy _ _ _ _ _ _ _ _ (fU zI zH.r (aq 7) aY 6e8) (@cA _ _ _ (@eD _ _ _ _ (dJ (@ao _ _ _ _ _ iG (@ao _ _ _ _ _ (cC bI 3e0 1e0 bb bF bH (@ao _ _ _ _ _ (aq 0) 11e2 1e0)) (@ao _ _ _ _ _ (dB 8e9 (aq 2) 1e3) aU 1e0) 1e0) 1e0)))) gA) (@bB _ _ _ _ _ (dy (i:=8) IL.nd rfl 2e1 (cC bI 3e0 1e0 bb bF bH (@ao _ _ _ _ _ (aq 0) (@ao _ _ _ _ _ (eU (l5 1e0 T.cP (@ao _ _ _ _ _ (aq 5) aU 1e0)) aY) aU 1e0) 1e0))) (@bB _ _ _ _ _ (dy (i:=9) IL.nd rfl 2e1 (dB 8e9 (eU (fC (iy (@ao _ _ _ _ _ (aq 6) aU 1e0))) (aq 5)) (aq 8))) (@bB _ _ _ _ _ (dy (i:=10) IL.nd rfl 2e1 (cC bI 3e0 1e0 bb bF bH (@ao _ _ _ _ _ (aq 0) (@ao _ _ _ _ _ (l5 1e0 T.cP (@ao _ _ _ _ _ (aq 9) aU 1e0)) aU 1e0) 1e0))) (@bB _ _ _ _ _ (@gy _ _ _ _ _ _ _ _ (zK (ZcX (fU zu zr.r (aq 8) aY 6e8) (Zcg (fU zu zr.r (aq 10) (aq 3) 6e8)))) (@cA _ _ _ (@eD _ _ _ _ (dJ (@ao _ _ _ _ _ iG (@ao _ _ _ _ _ (cC bI 3e0 1e0 bb bF bH (@ao _ _ _ _ _ (aq 0) 11e2 1e0)) aU 1e0) 1e0)))) gA) (@cA _ _ _ (@eD _ _ _ _ (dJ (@ao _ _ _ _ _ iG (@ao _ _ _ _ _ (aq 8) (@ao _ _ _ _ _ (aq 10) (@ao _ _ _ _ _ (cC bI 3e0 1e0 bb bF bH (@ao _ _ _ _ _ (aq 0) (@ao _ _ _ _ _ (dB 8e9 (aq 9) (aq 10)) aU 1e0) 1e0)) aU 1e0) 1e0) 1e0) 1e0))))))))))))
end
section
variable{P:Ys}{w:World}{K:W.Frag}{mg:2e5}{base:Heap}
abbrev A6:Stmt:=top 33
theorem zw:aR ["_law_left_here","_law_houses","_law_sizes","_law_others","_law_named","_law_clauses_here","_law_c","_law_parts","_law_debtor","_law_creditor","_law_events","_law_k","_law_event_here","_law_leave","_law_within"] 15e4 (ay A6):=1e1
theorem LJ{aL:Addr}{ax:Yx}{eO wY:Addr}{dv uU:Yx}(Fn:eV K "_law_clauses" "_law_clauses" A6 aL ax)(T:Txt mg)(bI:5e6)(bb:8e4)(bF:12e0)(bH:12e2)(Jh:aN P w K mg base bY 2 wY uU ["_law_left_here","_law_deal","_law_named","_law_own"] (ar K gZ))(vW:mg "_law_event"=some (.ref wY))(Ik:YE K (.ref wY)=true)(IK:L2.Binds K uU ["_law_left_here","_law_deal","_law_named","_law_own"] []):aN P w K mg base bY 3 aL ax 15e4 (ar K (lH)):=
 gS Fn zw λcdv A outer s H E hr=>(@bB _ _ _ _ _ (Ff (i:=5) zw.nd rfl 2e1 (iy aU)) (@bB _ _ _ _ _ (Fe Xv rfl (yi 1e0 T.jI 8e0) (IY rfl (ia (da (i:=6) zw.nd rfl 2e1) (ia (da (i:=7) zw.nd rfl 2e1) I0))) (@bB _ _ _ _ _ (dy (i:=8) zw.nd rfl 2e1 (cC bI 3e0 1e0 bb bF bH (@ao _ _ _ _ _ (aq 0) (@ao _ _ _ _ _ (aq 1) aU 1e0) 1e0))) (@bB _ _ _ _ _ (dy (i:=9) zw.nd rfl 2e1 (pJ (eU (eU (aq 8) aY) (cC bI 3e0 1e0 bb bF bH (@ao _ _ _ _ _ (aq 0) (@ao _ _ _ _ _ (Th (aq 1) aY) aU 1e0) 1e0))) (aq 1))) (@bB _ _ _ _ _ (Ff (i:=10) zw.nd rfl 2e1 (iy aU)) (@bB _ _ _ _ _ (Fe Xv rfl (Fb 1e0 T.dw (@ao _ _ _ _ _ (dB 8e9 3e5 1e3) aU 1e0)) (da (i:=11) zw.nd rfl 2e1) (@bB _ _ _ _ _ (dy (i:=12) zw.nd rfl 2e1 (cC Jh 3e0 1e0 vW Ik IK (@ao _ _ _ _ _ (aq 0) (@ao _ _ _ _ _ (dJ (@ao _ _ _ _ _ (aq 1) (@ao _ _ _ _ _ (aq 3) 8e0 1e0) 1e0)) (@ao _ _ _ _ _ (aq 4) (@ao _ _ _ _ _ (aq 6) aU 1e0) 1e0) 1e0) 1e0))) (@cA _ _ _ (@gy _ _ _ _ _ _ _ _ (fU (mz 15e7) uk.r (aq 12) (aq 10) rfl) (@cA _ _ _ (Ph (Pm (aq 10) (@ao _ _ _ _ _ (aq 12) aU 1e0)))) gA)))) (@bB _ _ _ _ _ (dy (i:=13) zw.nd rfl 2e1 (dJ aU)) (@bB _ _ _ _ _ (@gy _ _ _ _ _ _ _ _ (fU (E6 15e7) nF.r 1e3 aY 6e8) (@bB _ _ _ _ _ (dy (i:=12) zw.nd rfl 2e1 (cC Jh 3e0 1e0 vW Ik IK (@ao _ _ _ _ _ (aq 0) (@ao _ _ _ _ _ (dJ (@ao _ _ _ _ _ (aq 1) (@ao _ _ _ _ _ (aq 3) 8e0 1e0) 1e0)) (@ao _ _ _ _ _ (aq 4) (@ao _ _ _ _ _ (aq 6) aU 1e0) 1e0) 1e0) 1e0))) (@cA _ _ _ (@gy _ _ _ _ _ _ _ _ (fU (mz 15e7) uk.r (aq 12) (aq 10) rfl) (@cA _ _ _ (dy (i:=13) zw.nd rfl 2e1 (dJ (@ao _ _ _ _ _ (aq 12) (@ao _ _ _ _ _ (eU aY 1e3) aU 1e0) 1e0)))) gA))) gA) (@bB _ _ _ _ _ (dy (i:=14) zw.nd rfl 2e1 (dB 8e9 (fC (iy (@ao _ _ _ _ _ (eU aY 1e3) (@ao _ _ _ _ _ (eU aY 1e3) aU 1e0) 1e0))) 1e3)) (@cA _ _ _ (Ph (Pm (aq 5) (@ao _ _ _ _ _ (dJ (@ao _ _ _ _ _ (aq 8) (@ao _ _ _ _ _ (aq 9) (@ao _ _ _ _ _ (aq 7) (@ao _ _ _ _ _ (aq 14) (@ao _ _ _ _ _ (Pf 1e0 T.fj 1e0 (@ao _ _ _ _ _ (aq 10) aU 1e0)) (@ao _ _ _ _ _ (aq 13) aU 1e0) 1e0) 1e0) 1e0) 1e0) 1e0)) aU 1e0)))))))))))) (@cA _ _ _ (@eD _ _ _ _ (Pf 1e0 T.fj 1e0 (@ao _ _ _ _ _ (aq 5) aU 1e0))))))
end
section
variable{P:Ys}{w:World}{K:W.Frag}{mg:2e5}{base:Heap}
abbrev AS:Stmt:=top 34
theorem pF:aR ["_law_script","_law_left_here","_law_words_here","_law_many","_law_shapes","_law_k","_law_houses","_law_clauses_here","_law_sizes","_law_deals","_law_shape","_law_start","_law_others","_law_close"] ["_law_script"] (ay AS):=1e1
theorem Lu{aL:Addr}{ax:Yx}{fT wK eO w9:Addr}{fz uJ dv uW:Yx}(Fn:eV K "_law_town" "_law_town" AS aL ax)(T:Txt mg)(gW:aN P w K mg base bY 2 fT fz 6e7 (gc K bX))(gk:mg "_law_left"=some (.ref fT))(jB:YE K (.ref fT)=true)(jH:L2.Binds K fz 6e7 [])(T6:aN P w K mg base bY 2 wK uJ 3e2 (ar K lE))(B7:mg "_law_words"=some (.ref wK))(QS:YE K (.ref wK)=true)(SJ:L2.Binds K uJ 3e2 [])(bI:5e6)(bb:8e4)(bF:12e0)(bH:12e2)(UI:aN P w K mg base bY 3 w9 uW 15e4 (ar K lH))(Ci:mg "_law_clauses"=some (.ref w9))(Q3:YE K (.ref w9)=true)(S5:L2.Binds K uW 15e4 []):aN P w K mg base bY 4 aL ax ["_law_script"] (ar K (lF)):=
 gS Fn pF λcdv A outer s H E hr=>(@bB _ _ _ _ _ (Ff (i:=1) pF.nd rfl 16e0 (Pg gW 3e0 1e0 gk jB jH (@ao _ _ _ _ _ (aq 0) 2e6 1e0))) (@bB _ _ _ _ _ (dy (i:=2) pF.nd rfl 16e0 (cC T6 3e0 1e0 B7 QS SJ (@ao _ _ _ _ _ (aq 1) 2e6 1e0))) (@bB _ _ _ _ _ (dy (i:=3) pF.nd rfl 2e1 (dB 8e9 3e5 5e9)) (@bB _ _ _ _ _ (Ff (i:=4) pF.nd rfl 16e0 (iy aU)) (@bB _ _ _ _ _ (Fe Xv rfl (Fb 1e0 T.dw (@ao _ _ _ _ _ (aq 3) aU 1e0)) (da (i:=5) pF.nd rfl 16e0) (@bB _ _ _ _ _ (Ff (i:=1) pF.nd rfl 16e0 (Pg gW 3e0 1e0 gk jB jH (@ao _ _ _ _ _ (aq 0) (@ao _ _ _ _ _ (eU aY (aq 5)) aU 1e0) 1e0))) (@bB _ _ _ _ _ (dy (i:=6) pF.nd rfl 2e1 (dB 8e9 3e5 5e9)) (@bB _ _ _ _ _ (dy (i:=7) pF.nd rfl 2e1 (dB 8e9 3e5 5e9)) (@bB _ _ _ _ _ (Tx (i:=8) pF.nd rfl rfl (vs:=["_law_c"]) (fs:=["_law_left_here"]) (fr:=[1]) 3e1 rfl (Fb 1e0 T.dw (@ao _ _ _ _ _ (aq 7) aU 1e0)) (λ_ _ _ _ _=>(da (i:=0) (show((["_law_c"]:List Str)++(["_law_left_here"]:List Str)).Nodup by decide +kernel) rfl 2e1)) 10e4 (λ_ _ _ _ _=>(dB 8e9 3e5 5e9))) (@cA _ _ _ (Ph (Pm (aq 4) (@ao _ _ _ _ _ (dJ (@ao _ _ _ _ _ (aq 6) (@ao _ _ _ _ _ (aq 8) (@ao _ _ _ _ _ 5e9 aU 1e0) 1e0) 1e0)) aU 1e0))))))))) (@bB _ _ _ _ _ (yg (n:=9) pF.nd rfl 2e1) (@bB _ _ _ _ _ (yh Xv rfl 1e0 T.jI 11e2 (IY rfl (ia (da (i:=5) pF.nd rfl 16e0) (ia (da (i:=10) pF.nd rfl 2e1) I0))) (@bB _ _ _ _ _ (Ff (i:=1) pF.nd rfl 16e0 (Pg gW 3e0 1e0 gk jB jH (@ao _ _ _ _ _ (aq 0) (@ao _ _ _ _ _ (eU aY (aq 5)) aU 1e0) 1e0))) (@bB _ _ _ _ _ (dy (i:=11) pF.nd rfl 16e0 5e9) (@bB _ _ _ _ _ (dy (i:=6) pF.nd rfl 2e1 (Pf 1e0 T.fj 1e0 (@ao _ _ _ _ _ (fC (vk (vs:=["_law_j"]) (fs:=["_law_words_here","_law_start"]) (fr:=[2,11]) 3e1 rfl (Fb 1e0 T.dw (@ao _ _ _ _ _ (dB 8e9 (aq 10) aY) aU 1e0)) (λ_ _ _ _ _=>(da (i:=0) (show((["_law_j"]:List Str)++(["_law_words_here","_law_start"]:List Str)).Nodup by decide +kernel) rfl 2e1)) 10e4 (λ_ _ _ _ _=>(dB 8e9 (aq 1) (pJ (eU (aq 2) (aq 0)) aY))))) aU 1e0))) (@bB _ _ _ _ _ (dy (i:=12) pF.nd rfl 2e1 (pE (fC (vk (vs:=["_law_j"]) (fs:=["_law_k"]) (fr:=[5]) 3e1 rfl (Fb 1e0 T.dw (@ao _ _ _ _ _ (aq 3) aU 1e0)) (λ_ _ _ _ _=>(da (i:=0) (show((["_law_j"]:List Str)++(["_law_k"]:List Str)).Nodup by decide +kernel) rfl 2e1)) (λ_ _ _ _ _=>(Pc (fU HX Ib.r (aq 0) (aq 1) 6e8))) (λ_ _ _ _ _=>(aq 0)))) pL (nH (dB 8e9 (aq 10) aY)))) (@bB _ _ _ _ _ (dy (i:=13) pF.nd rfl 2e1 (eU (dB 8e9 (fC (iy (@ao _ _ _ _ _ aY (@ao _ _ _ _ _ aY (@ao _ _ _ _ _ aY 2e6 1e0) 1e0) 1e0))) 5e9) 5e9)) (@bB _ _ _ _ _ (dy (i:=7) pF.nd rfl 2e1 (cC UI 3e0 1e0 Ci Q3 S5 (@ao _ _ _ _ _ (aq 1) (@ao _ _ _ _ _ (dB 8e9 (aq 10) aY) (@ao _ _ _ _ _ (dB 8e9 (aq 10) aY) (@ao _ _ _ _ _ (fC (vk (vs:=["_law_j"]) (fs:=["_law_shapes"]) (fr:=[4]) 3e1 rfl (pK (aq 12)) (λ_ _ _ _ _=>(da (i:=0) (show((["_law_j"]:List Str)++(["_law_shapes"]:List Str)).Nodup by decide +kernel) rfl 2e1)) 10e4 (λ_ _ _ _ _=>(dB 8e9 (dB 8e9 (aq 1) (aq 0)) aY)))) 8e0 1e0) 1e0) 1e0) 1e0))) (@cA _ _ _ (qk 15e7 (dJ (@ao _ _ _ _ _ (aq 6) (@ao _ _ _ _ _ (Pf 1e0 T.fj 1e0 (@ao _ _ _ _ _ (fC (vk (vs:=["_law_j"]) (fs:=["_law_words_here"]) (fr:=[2]) 3e1 rfl (pK (aq 12)) (λ_ _ _ _ _=>(da (i:=0) (show((["_law_j"]:List Str)++(["_law_words_here"]:List Str)).Nodup by decide +kernel) rfl 2e1)) 10e4 (λ_ _ _ _ _=>(dB 8e9 (aq 1) (eU aY (aq 0)))))) aU 1e0)) (@ao _ _ _ _ _ (aq 13) (@ao _ _ _ _ _ (aq 7) aU 1e0) 1e0) 1e0) 1e0)) (aq 9) (dB 8e9 (aq 2) (eU aY (aq 5)))))))))))) (@cA _ _ _ (ye (@ao _ _ _ _ _ (dB 8e9 (fC (iy (@ao _ _ _ _ _ aY (@ao _ _ _ _ _ aY (@ao _ _ _ _ _ aY (@ao _ _ _ _ _ aY 2e6 1e0) 1e0) 1e0) 1e0))) 5e9) (@ao _ _ _ _ _ (aq 9) aU 1e0) 1e0))))))))))
end
section
variable{P:Ys}{w:World}{K:W.Frag}{mg:2e5}{base:Heap}
abbrev A5:Stmt:=top 35
theorem xy:aR ["_law_left_here","_law_deal","_law_houses","_law_others","_law_close","_law_clauses_here","_law_way","_law_c","_law_debtor","_law_creditor","_law_parts","_law_within","_law_conds","_law_leave","_law_said"] ["_law_left_here","_law_deal"] (ay A5):=1e1
theorem LI{aL:Addr}{ax:Yx}{eO:Addr}{dv:Yx}(Fn:eV K "_law_deed" "_law_deed" A5 aL ax)(T:Txt mg)(bI:5e6)(bb:8e4)(bF:12e0)(bH:12e2):aN P w K mg base bY 2 aL ax ["_law_left_here","_law_deal"] (ar K (nV)):=
 gS Fn xy λcdv A outer s H E hr=>(@bB _ _ _ _ _ (Ti (aq 1) (IY rfl (ia (da (i:=2) xy.nd rfl 2e1) (ia (da (i:=3) xy.nd rfl 2e1) (ia (da (i:=4) xy.nd rfl 2e1) (ia (da (i:=5) xy.nd rfl 2e1) I0)))))) (@bB _ _ _ _ _ (dy (i:=6) xy.nd rfl 2e1 1e3) (@bB _ _ _ _ _ (dy (i:=7) xy.nd rfl 2e1 (cC bI 3e0 1e0 bb bF bH (@ao _ _ _ _ _ (aq 0) (@ao _ _ _ _ _ (l5 1e0 T.cP (@ao _ _ _ _ _ (aq 5) aU 1e0)) aU 1e0) 1e0))) (@bB _ _ _ _ _ (Ti (dB 8e9 (aq 5) (aq 7)) (IY rfl (ia (da (i:=8) xy.nd rfl 2e1) (ia (da (i:=9) xy.nd rfl 2e1) (ia (da (i:=10) xy.nd rfl 2e1) (ia (da (i:=11) xy.nd rfl 2e1) (ia (da (i:=12) xy.nd rfl 2e1) (ia (da (i:=13) xy.nd rfl 2e1) I0)))))))) (@bB _ _ _ _ _ (@gy _ _ _ _ _ _ _ _ (fU zI zH.r (aq 6) aY 6e8) (@cA _ _ _ (@eD _ _ _ _ (dJ 11e3))) gA) (@bB _ _ _ _ _ (Tx (i:=14) xy.nd rfl rfl (vs:=["_law_event_here"]) (fs:=[]) (fr:=[]) 3e1 rfl (pK (eU (aq 12) (pE (aq 13) pL (nH aY)))) (λ_ _ _ _ _=>(da (i:=0) (show((["_law_event_here"]:List Str)++([]:List Str)).Nodup by decide +kernel) rfl 2e1)) (λ_ _ _ _ _=>(Pc (fU zu zr.r 6e3 iG 6e8))) (λ_ _ _ _ _=>(aq 0))) (@bB _ _ _ _ _ (@gy _ _ _ _ _ _ _ _ (zK (ZcX (fU zI zH.r (aq 6) aY 6e8) (Zcg (fU (E7 15e7) nF.r (aq 14) (fC (iy aU)) 6e8)))) (@cA _ _ _ (@eD _ _ _ _ (dJ (@ao _ _ _ _ _ iG (@ao _ _ _ _ _ (dB 8e9 (dB 8e9 (aq 14) (cC bI 3e0 1e0 bb bF bH (@ao _ _ _ _ _ (aq 0) (@ao _ _ _ _ _ (l5 1e0 T.cP (@ao _ _ _ _ _ (aq 14) aU 1e0)) aU 1e0) 1e0))) aY) aU 1e0) 1e0)))) gA) (@bB _ _ _ _ _ (@gy _ _ _ _ _ _ _ _ (fU zI zH.r (aq 6) aY 6e8) (@cA _ _ _ (@eD _ _ _ _ (dJ (@ao _ _ _ _ _ iG (@ao _ _ _ _ _ (aq 7) (@ao _ _ _ _ _ (cC bI 3e0 1e0 bb bF bH (@ao _ _ _ _ _ (aq 0) (@ao _ _ _ _ _ (aq 10) aU 1e0) 1e0)) aU 1e0) 1e0) 1e0)))) gA) (@bB _ _ _ _ _ (@gy _ _ _ _ _ _ _ _ (fU zI zH.r (aq 6) aY 6e8) (@cA _ _ _ (@eD _ _ _ _ (dJ (@ao _ _ _ _ _ iG (@ao _ _ _ _ _ (aq 7) aU 1e0) 1e0)))) gA) (@bB _ _ _ _ _ (@gy _ _ _ _ _ _ _ _ (fU zI zH.r (aq 6) aY 6e8) (@cA _ _ _ (@eD _ _ _ _ (dJ (@ao _ _ _ _ _ iG (@ao _ _ _ _ _ (aq 7) aU 1e0) 1e0)))) gA) (@bB _ _ _ _ _ (@gy _ _ _ _ _ _ _ _ (fU zI zH.r (aq 6) aY 6e8) (@cA _ _ _ (@eD _ _ _ _ (dJ (@ao _ _ _ _ _ iG (@ao _ _ _ _ _ (aq 7) (@ao _ _ _ _ _ (dB 8e9 (aq 2) (cC bI 3e0 1e0 bb bF bH (@ao _ _ _ _ _ (aq 0) (@ao _ _ _ _ _ (l5 1e0 T.cP 8e0) aU 1e0) 1e0))) aU 1e0) 1e0) 1e0)))) gA) (@bB _ _ _ _ _ (@gy _ _ _ _ _ _ _ _ (fU zI zH.r (aq 6) aY 6e8) (@cA _ _ _ (@eD _ _ _ _ (dJ (@ao _ _ _ _ _ iG (@ao _ _ _ _ _ (aq 7) aU 1e0) 1e0)))) gA) (@cA _ _ _ (@eD _ _ _ _ (dB 8e9 (fC (iy (@ao _ _ _ _ _ (dJ 11e3) (@ao _ _ _ _ _ (dJ (@ao _ _ _ _ _ iG (@ao _ _ _ _ _ (dB 8e9 (aq 2) aY) aU 1e0) 1e0)) (@ao _ _ _ _ _ (dJ 11e3) aU 1e0) 1e0) 1e0))) (Th (aq 6) aY))))))))))))))))
end
section
variable{P:Ys}{w:World}{K:W.Frag}{mg:2e5}{base:Heap}
abbrev AX:Stmt:=top 36
theorem Kq:aR 5e5 5e5 (ay AX):=1e1
theorem Ly{aL:Addr}{ax:Yx}(Fn:eV K "_law_name" "_law_name" AX aL ax)(T:Txt mg):aN P w K mg base bY 1 aL ax 5e5 (ar K (nR)):=
 gS Fn Kq λcdv A outer s H E hr=>(@cA _ _ _ (@eD _ _ _ _ (pE (aq 0) pL (nH aY))))
end
section
variable{P:Ys}{w:World}{K:W.Frag}{mg:2e5}{base:Heap}
abbrev A1:Stmt:=top 37
theorem Av:aR ["_law_letters","_law_house","_law_deal","_law_mine"] ["_law_letters","_law_house","_law_deal"] (ay A1):=1e1
theorem LC{aL:Addr}{ax:Yx}(Fn:eV K "_law_last" "_law_last" A1 aL ax)(T:Txt mg):aN P w K mg base bY 1 aL ax ["_law_letters","_law_house","_law_deal"] (ar K (nT)):=
 gS Fn Av λcdv A outer s H E hr=>(@bB _ _ _ _ _ (Tx (i:=3) Av.nd rfl rfl (vs:=5e5) (fs:=["_law_house","_law_deal"]) (fr:=[1,2]) 3e1 rfl (pK (aq 0)) (λ_ _ _ _ _=>(da (i:=0) (show((5e5:6e2)++(["_law_house","_law_deal"]:List Str)).Nodup by decide +kernel) rfl 2e1)) (λ_ _ _ _ _=>(Pc (fU (E6 15e7) nF.r (pE (aq 0) pL (nH aY)) (dJ (@ao _ _ _ _ _ (aq 1) 8e0 1e0)) 6e8))) (λ_ _ _ _ _=>(aq 0))) (@cA _ _ _ (@eD _ _ _ _ (vL (fU (E7 15e7) nF.r (aq 3) (fC (iy aU)) 6e8) (dB 8e9 (dB 8e9 (aq 3) (qp aY)) aY) aY))))
end
section
variable{P:Ys}{w:World}{K:W.Frag}{mg:2e5}{base:Heap}
abbrev A3:Stmt:=top 38
theorem O8:aR ["_law_left_here","_law_letters","_law_house","_law_deal","_law_some","_law_found","_law_k","_law_at"] ["_law_left_here","_law_letters","_law_house","_law_deal"] (ay A3):=1e1
theorem LG{aL:Addr}{ax:Yx}{eO wQ:Addr}{dv uO:Yx}(Fn:eV K "_law_gots" "_law_gots" A3 aL ax)(T:Txt mg)(bI:5e6)(bb:8e4)(bF:12e0)(bH:12e2)(UB:aN P w K mg base bY 1 wQ uO 5e5 (ar K nR))(Cb:mg "_law_name"=some (.ref wQ))(QX:YE K (.ref wQ)=true)(SW:L2.Binds K uO 5e5 []):aN P w K mg base bY 2 aL ax ["_law_left_here","_law_letters","_law_house","_law_deal"] (ar K (nU)):=
 gS Fn O8 λcdv A outer s H E hr=>(@bB _ _ _ _ _ (Tx (i:=4) O8.nd rfl rfl (vs:=5e5) (fs:=["_law_house","_law_deal"]) (fr:=[2,3]) 3e1 rfl (pK (aq 1)) (λ_ _ _ _ _=>(da (i:=0) (show((5e5:6e2)++(["_law_house","_law_deal"]:List Str)).Nodup by decide +kernel) rfl 2e1)) (λ_ _ _ _ _=>(Pc (fU (E7 15e7) nF.r (pE (aq 0) pL (nH aY)) (dJ (@ao _ _ _ _ _ (aq 1) 8e0 1e0)) 6e8))) (λ_ _ _ _ _=>(aq 0))) (@bB _ _ _ _ _ (yf (n:=5) O8.nd rfl 2e1) (@bB _ _ _ _ _ (Fe Xv rfl (Fb 1e0 T.dw (@ao _ _ _ _ _ (vj (dB 8e9 3e5 1e3) (Zcj 1e0 T.su 1e0 (@ao _ _ _ _ _ (sC (E7 15e7) nF.r (aq 4) (fC (iy aU)) 6e8) aU 1e0))) aU 1e0)) (da (i:=6) O8.nd rfl 2e1) (@bB _ _ _ _ _ (dy (i:=7) O8.nd rfl 2e1 (eU (cC bI 3e0 1e0 bb bF bH (@ao _ _ _ _ _ (aq 0) (@ao _ _ _ _ _ (Bp rfl 1e0 T.S6 1e0 (@ao _ _ _ _ _ (l5 1e0 T.cP 11e2) 2e6 1e0)) aU 1e0) 1e0)) aY)) (@bB _ _ _ _ _ (@gy _ _ _ _ _ _ _ _ (fU zu zr.r 1e3 aY 6e8) (@cA _ _ _ (dy (i:=7) O8.nd rfl 2e1 (eU (cC bI 3e0 1e0 bb bF bH (@ao _ _ _ _ _ (aq 0) (@ao _ _ _ _ _ (l5 1e0 T.cP 11e2) aU 1e0) 1e0)) aY))) gA) (@cA _ _ _ (qj 15e7 E9 (aq 5) (cC UB 3e0 1e0 Cb QX SW (@ao _ _ _ _ _ (dB 8e9 (aq 4) (qp (aq 7))) aU 1e0))))))) (@cA _ _ _ (@eD _ _ _ _ (Pf 1e0 T.fj 1e0 (@ao _ _ _ _ _ (fC (ZbP rfl 15e7 1e0 T.k9 1e0 (@ao _ _ _ _ _ (aq 5) aU 1e0))) aU 1e0)))))))
end
section
variable{P:Ys}{w:World}{K:W.Frag}{mg:2e5}{base:Heap}
abbrev AY:Stmt:=top 39
theorem zv:aR ["_law_left_here","_law_town_here","_law_letters","_law_now","_law_names","_law_deal","_law_houses","_law_house","_law_mine","_law_prev","_law_nr","_law_time","_law_deed_here"] 19e2 (ay AY):=1e1
theorem Lz{aL:Addr}{ax:Yx}{eO wV wZ wX:Addr}{dv uR uV uT:Yx}(Fn:eV K "_law_letter" "_law_letter" AY aL ax)(T:Txt mg)(bI:5e6)(bb:8e4)(bF:12e0)(bH:12e2)(UE:aN P w K mg base bY 1 wV uR ["_law_letters","_law_house","_law_deal"] (ar K nT))(Ce:mg "_law_last"=some (.ref wV))(Q0:YE K (.ref wV)=true)(S0:L2.Binds K uR ["_law_letters","_law_house","_law_deal"] [])(UH:aN P w K mg base bY 2 wZ uV ["_law_left_here","_law_deal"] (ar K nV))(Cg:mg "_law_deed"=some (.ref wZ))(Q2:YE K (.ref wZ)=true)(S4:L2.Binds K uV ["_law_left_here","_law_deal"] [])(UG:aN P w K mg base bY 2 wX uT ["_law_left_here","_law_letters","_law_house","_law_deal"] (ar K nU))(Cf:mg "_law_gots"=some (.ref wX))(Q1:YE K (.ref wX)=true)(S3:L2.Binds K uT ["_law_left_here","_law_letters","_law_house","_law_deal"] []):aN P w K mg base bY 3 aL ax 19e2 (ar K (lG)):=
 gS Fn zv λcdv A outer s H E hr=>(@bB _ _ _ _ _ (dy (i:=4) zv.nd rfl 2e1 (fC (ZbP rfl 15e7 1e0 T.k9 1e0 (@ao _ _ _ _ _ (dB 8e9 (aq 1) aY) aU 1e0)))) (@bB _ _ _ _ _ (dy (i:=5) zv.nd rfl 16e0 (dB 8e9 (aq 4) (cC bI 3e0 1e0 bb bF bH (@ao _ _ _ _ _ (aq 0) (@ao _ _ _ _ _ (l5 1e0 T.cP 11e2) aU 1e0) 1e0)))) (@bB _ _ _ _ _ (dy (i:=6) zv.nd rfl 2e1 (dB 8e9 (dB 8e9 (dB 8e9 (aq 1) aY) (aq 5)) aY)) (@bB _ _ _ _ _ (dy (i:=7) zv.nd rfl 16e0 (dB 8e9 (eU (eU (aq 6) (aq 6)) (dJ (@ao _ _ _ _ _ iG 11e3 1e0))) (cC bI 3e0 1e0 bb bF bH (@ao _ _ _ _ _ (aq 0) (@ao _ _ _ _ _ (eU (vj aY (l5 1e0 T.cP (@ao _ _ _ _ _ (aq 6) aU 1e0))) aY) aU 1e0) 1e0)))) (@bB _ _ _ _ _ (Tx (i:=8) zv.nd rfl rfl (vs:=5e5) (fs:=["_law_house","_law_deal"]) (fr:=[7,5]) 3e1 rfl (pK (aq 2)) (λ_ _ _ _ _=>(da (i:=0) (show((5e5:6e2)++(["_law_house","_law_deal"]:List Str)).Nodup by decide +kernel) rfl 2e1)) (λ_ _ _ _ _=>(Pc (fU (E6 15e7) nF.r (pE (aq 0) pL (nH aY)) (dJ (@ao _ _ _ _ _ (aq 1) 8e0 1e0)) 6e8))) (λ_ _ _ _ _=>(aq 0))) (@bB _ _ _ _ _ (dy (i:=9) zv.nd rfl 2e1 (cC UE 3e0 1e0 Ce Q0 S0 (@ao _ _ _ _ _ (aq 2) (@ao _ _ _ _ _ (aq 7) (@ao _ _ _ _ _ (aq 5) aU 1e0) 1e0) 1e0))) (@bB _ _ _ _ _ (@gy _ _ _ _ _ _ _ _ (zK (ZcX (fU (E7 15e7) nF.r (aq 8) (fC (iy aU)) 6e8) (Zcg (fU zu zr.r 1e3 aY 6e8)))) (@cA _ _ _ (dy (i:=9) zv.nd rfl 2e1 (dB 8e9 (fC (iy (@ao _ _ _ _ _ aY (@ao _ _ _ _ _ (dB 8e9 (dB 8e9 (aq 8) (cC bI 3e0 1e0 bb bF bH (@ao _ _ _ _ _ (aq 0) (@ao _ _ _ _ _ (l5 1e0 T.cP (@ao _ _ _ _ _ (aq 8) aU 1e0)) aU 1e0) 1e0))) aY) aU 1e0) 1e0))) 1e3))) gA) (@bB _ _ _ _ _ (dy (i:=10) zv.nd rfl 2e1 (eU (l5 1e0 T.cP (@ao _ _ _ _ _ (aq 8) aU 1e0)) aY)) (@bB _ _ _ _ _ (@gy _ _ _ _ _ _ _ _ (fU zu zr.r 1e3 aY 6e8) (@cA _ _ _ (dy (i:=10) zv.nd rfl 2e1 (eU aY (vj aY (l5 1e0 T.cP 8e0))))) gA) (@bB _ _ _ _ _ (@gy _ _ _ _ _ _ _ _ (fU (K8 15e7) uk.r (aq 10) (fC (vk (vs:=5e5) (fs:=[]) (fr:=[]) 3e1 rfl (pK (aq 8)) (λ_ _ _ _ _=>(da (i:=0) (show((5e5:6e2)++([]:List Str)).Nodup by decide +kernel) rfl 2e1)) 10e4 (λ_ _ _ _ _=>6e3))) rfl) (@cA _ _ _ (dy (i:=10) zv.nd rfl 2e1 (eU aY (vj aY (l5 1e0 T.cP 8e0))))) gA) (@bB _ _ _ _ _ (dy (i:=11) zv.nd rfl 2e1 (vL (fU vS wA.r 1e3 aY 6e8) (aq 3) (kn rfl 1e0 T.DV 1e0 (@ao _ _ _ _ _ aY (@ao _ _ _ _ _ (Th (Th (aq 3) aY) 1e3) aU 1e0) 1e0)))) (@bB _ _ _ _ _ (dy (i:=12) zv.nd rfl 2e1 (cC UH 3e0 1e0 Cg Q2 S4 (@ao _ _ _ _ _ (aq 0) (@ao _ _ _ _ _ (dB 8e9 (dB 8e9 (aq 1) aY) (aq 5)) aU 1e0) 1e0))) (@cA _ _ _ (@eD _ _ _ _ (dJ (@ao _ _ _ _ _ (aq 7) (@ao _ _ _ _ _ (aq 5) (@ao _ _ _ _ _ (aq 10) (@ao _ _ _ _ _ (aq 9) (@ao _ _ _ _ _ (cC UG 3e0 1e0 Cf Q1 S3 (@ao _ _ _ _ _ (aq 0) (@ao _ _ _ _ _ (aq 2) (@ao _ _ _ _ _ (aq 7) (@ao _ _ _ _ _ (aq 5) aU 1e0) 1e0) 1e0) 1e0)) (@ao _ _ _ _ _ (aq 11) (@ao _ _ _ _ _ (aq 12) aU 1e0) 1e0) 1e0) 1e0) 1e0) 1e0) 1e0))))))))))))))))
end
section
variable{P:Ys}{w:World}{K:W.Frag}{mg:2e5}{base:Heap}
abbrev AV:Stmt:=top 40
theorem IQ:aR ["_law_script","_law_town_here","_law_many","_law_letters","_law_now","_law_deal","_law_house","_law_k","_law_left_here"] ["_law_script","_law_town_here","_law_many"] (ay AV):=1e1
theorem Lw{aL:Addr}{ax:Yx}{fT eO wR:Addr}{fz dv uP:Yx}(Fn:eV K "_law_pile" "_law_pile" AV aL ax)(T:Txt mg)(gW:aN P w K mg base bY 2 fT fz 6e7 (gc K bX))(gk:mg "_law_left"=some (.ref fT))(jB:YE K (.ref fT)=true)(jH:L2.Binds K fz 6e7 [])(bI:5e6)(bb:8e4)(bF:12e0)(bH:12e2)(UC:aN P w K mg base bY 3 wR uP 19e2 (ar K lG))(Cc:mg "_law_letter"=some (.ref wR))(QY:YE K (.ref wR)=true)(SX:L2.Binds K uP 19e2 []):aN P w K mg base bY 4 aL ax ["_law_script","_law_town_here","_law_many"] (ar K (nQ)):=
 gS Fn IQ λcdv A outer s H E hr=>(@bB _ _ _ _ _ (Ff (i:=3) IQ.nd rfl 2e1 (iy aU)) (@bB _ _ _ _ _ (dy (i:=4) IQ.nd rfl 2e1 aY) (@bB _ _ _ _ _ (Fe Xv rfl (pK (fC (ZbP rfl 15e7 1e0 T.k9 1e0 (@ao _ _ _ _ _ (dB 8e9 (aq 1) aY) aU 1e0)))) (da (i:=5) IQ.nd rfl 2e1) (@cA _ _ _ (Fe Xv rfl (pK (dB 8e9 (dB 8e9 (dB 8e9 (aq 1) aY) (aq 5)) aY)) (da (i:=6) IQ.nd rfl 2e1) (@cA _ _ _ (@gy _ _ _ _ _ _ _ _ (fU zI zH.r (l5 1e0 T.cP (@ao _ _ _ _ _ (aq 3) aU 1e0)) (aq 2) 6e8) (@cA _ _ _ (Ph (Pm (aq 3) (@ao _ _ _ _ _ (dJ (@ao _ _ _ _ _ (aq 6) (@ao _ _ _ _ _ (aq 5) (@ao _ _ _ _ _ aY (@ao _ _ _ _ _ aY (@ao _ _ _ _ _ (dJ aU) (@ao _ _ _ _ _ (aq 4) (@ao _ _ _ _ _ (dJ 11e3) aU 1e0) 1e0) 1e0) 1e0) 1e0) 1e0) 1e0)) aU 1e0)))) gA))))) (@bB _ _ _ _ _ (Fe Xv rfl (Fb 1e0 T.dw (@ao _ _ _ _ _ (Th (aq 2) (l5 1e0 T.cP (@ao _ _ _ _ _ (aq 3) aU 1e0))) aU 1e0)) (da (i:=7) IQ.nd rfl 2e1) (@bB _ _ _ _ _ (Ff (i:=8) IQ.nd rfl 2e1 (Pg gW 3e0 1e0 gk jB jH (@ao _ _ _ _ _ (aq 0) (@ao _ _ _ _ _ (eU aY (aq 7)) aU 1e0) 1e0))) (@bB _ _ _ _ _ (dy (i:=4) IQ.nd rfl 2e1 (eU (aq 4) (dB 8e9 3e5 (cC bI 3e0 1e0 bb bF bH (@ao _ _ _ _ _ (aq 8) 2e6 1e0))))) (@cA _ _ _ (Ph (Pm (aq 3) (@ao _ _ _ _ _ (tN [0] UC 3e0 1e0 Cc QY SX (@ao _ _ _ _ _ (aq 8) (@ao _ _ _ _ _ (aq 1) (@ao _ _ _ _ _ (aq 3) 11e2 1e0) 1e0) 1e0)) aU 1e0))))))) (@cA _ _ _ (@eD _ _ _ _ (aq 3)))))))
end
section
variable{P:Ys}{w:World}{K:W.Frag}{mg:2e5}{base:Heap}
abbrev A0:Stmt:=top 41
theorem oh:aR ["_law_left_here","_law_pile_here","_law_some","_law_turn"] 10e1 (ay A0):=1e1
theorem LA{aL:Addr}{ax:Yx}{eO:Addr}{dv:Yx}(Fn:eV K "_law_left_out" "_law_left_out" A0 aL ax)(T:Txt mg)(bI:5e6)(bb:8e4)(bF:12e0)(bH:12e2):aN P w K mg base bY 2 aL ax 10e1 (ar K (nS)):=
 gS Fn oh λcdv A outer s H E hr=>(@bB _ _ _ _ _ (dy (i:=2) oh.nd rfl 16e0 (fC (vk (vs:=5e5) (fs:=["_law_left_here"]) (fr:=[0]) 3e1 rfl (pK (aq 1)) (λ_ _ _ _ _=>(da (i:=0) (show((5e5:6e2)++(["_law_left_here"]:List Str)).Nodup by decide +kernel) rfl 2e1)) (λ_ _ _ _ _=>(Pc (fU vS wA.r 5e9 aY 6e8))) (λ_ _ _ _ _=>(aq 0))))) (@bB _ _ _ _ _ (dy (i:=2) oh.nd rfl 16e0 (eU (aq 2) (fC (vk (vs:=["_law_k"]) (fs:=["_law_some","_law_left_here"]) (fr:=[2,0]) 3e1 rfl (Fb 1e0 T.dw (@ao _ _ _ _ _ (vj 1e3 (Zcj 1e0 T.su 1e0 (@ao _ _ _ _ _ (sC (E7 15e7) nF.r (aq 2) (fC (iy aU)) 6e8) aU 1e0))) aU 1e0)) (λ_ _ _ _ _=>(da (i:=0) (show((["_law_k"]:List Str)++(["_law_some","_law_left_here"]:List Str)).Nodup by decide +kernel) rfl 2e1)) 10e4 (λ_ _ _ _ _=>(dB 8e9 (aq 1) (cC bI 3e0 1e0 bb bF bH (@ao _ _ _ _ _ (aq 2) (@ao _ _ _ _ _ (l5 1e0 T.cP (@ao _ _ _ _ _ (aq 1) aU 1e0)) aU 1e0) 1e0)))))))) (@bB _ _ _ _ _ (dy (i:=3) oh.nd rfl 2e1 (cC bI 3e0 1e0 bb bF bH (@ao _ _ _ _ _ (aq 0) (@ao _ _ _ _ _ (eU (l5 1e0 T.cP 8e0) aY) aU 1e0) 1e0))) (@cA _ _ _ (@eD _ _ _ _ (eU (pE (aq 2) (nH (aq 3)) pL) (pE (aq 2) pL (nH (aq 3)))))))))
end
section
variable{P:Ys}{w:World}{K:W.Frag}{mg:2e5}{base:Heap}
abbrev AR:Stmt:=top 42
theorem Hx:aR ["_law_left_here","_law_letter_here","_law_house","_law_deal","_law_number","_law_prev","_law_gots_here","_law_time","_law_deed_here","_law_way"] ["_law_left_here","_law_letter_here"] (ay AR):=1e1
theorem Ls{aL:Addr}{ax:Yx}{eO:Addr}{dv:Yx}(Fn:eV K "_law_unlike" "_law_unlike" AR aL ax)(T:Txt mg)(bI:5e6)(bb:8e4)(bF:12e0)(bH:12e2):aN P w K mg base bY 2 aL ax ["_law_left_here","_law_letter_here"] (ar K (gC)):=
 gS Fn Hx λcdv A outer s H E hr=>(@bB _ _ _ _ _ (Ti (aq 1) (IY rfl (ia (da (i:=2) Hx.nd rfl 2e1) (ia (da (i:=3) Hx.nd rfl 2e1) (ia (da (i:=4) Hx.nd rfl 2e1) (ia (da (i:=5) Hx.nd rfl 2e1) (ia (da (i:=6) Hx.nd rfl 2e1) (ia (da (i:=7) Hx.nd rfl 2e1) (ia (da (i:=8) Hx.nd rfl 2e1) I0))))))))) (@bB _ _ _ _ _ (dy (i:=9) Hx.nd rfl 2e1 1e3) (@bB _ _ _ _ _ (@gy _ _ _ _ _ _ _ _ (fU (E6 15e7) nF.r (aq 9) aY 6e8) (@cA _ _ _ (@eD _ _ _ _ (dJ (@ao _ _ _ _ _ (aq 2) (@ao _ _ _ _ _ (aq 3) (@ao _ _ _ _ _ (aq 4) (@ao _ _ _ _ _ (eU (aq 5) aY) (@ao _ _ _ _ _ (aq 6) (@ao _ _ _ _ _ (aq 7) (@ao _ _ _ _ _ (aq 8) aU 1e0) 1e0) 1e0) 1e0) 1e0) 1e0) 1e0)))) gA) (@bB _ _ _ _ _ (@gy _ _ _ _ _ _ _ _ (fU (E6 15e7) nF.r (aq 9) aY 6e8) (@cA _ _ _ (@eD _ _ _ _ (dJ (@ao _ _ _ _ _ (aq 2) (@ao _ _ _ _ _ (aq 3) (@ao _ _ _ _ _ (aq 4) (@ao _ _ _ _ _ (aq 5) (@ao _ _ _ _ _ (dB 8e9 (fC (iy (@ao _ _ _ _ _ (dJ (@ao _ _ _ _ _ (dJ (@ao _ _ _ _ _ iG (@ao _ _ _ _ _ iG 2e6 1e0) 1e0)) aU 1e0)) (@ao _ _ _ _ _ (pE (aq 6) (nH aY) pL) aU 1e0) 1e0))) (Zcj 1e0 T.su 1e0 (@ao _ _ _ _ _ (sC (E7 15e7) nF.r (aq 6) (dJ aU) 6e8) aU 1e0))) (@ao _ _ _ _ _ (aq 7) (@ao _ _ _ _ _ (aq 8) aU 1e0) 1e0) 1e0) 1e0) 1e0) 1e0) 1e0)))) gA) (@bB _ _ _ _ _ (@gy _ _ _ _ _ _ _ _ (fU (E6 15e7) nF.r (aq 9) aY 6e8) (@cA _ _ _ (@eD _ _ _ _ (dJ (@ao _ _ _ _ _ (aq 2) (@ao _ _ _ _ _ (aq 3) (@ao _ _ _ _ _ (aq 4) (@ao _ _ _ _ _ (aq 5) (@ao _ _ _ _ _ (aq 6) (@ao _ _ _ _ _ (eU (aq 7) aY) (@ao _ _ _ _ _ (aq 8) aU 1e0) 1e0) 1e0) 1e0) 1e0) 1e0) 1e0)))) gA) (@bB _ _ _ _ _ (@gy _ _ _ _ _ _ _ _ (fU (E6 15e7) nF.r (aq 9) aY 6e8) (@cA _ _ _ (@eD _ _ _ _ (dJ (@ao _ _ _ _ _ (aq 2) (@ao _ _ _ _ _ (aq 3) (@ao _ _ _ _ _ (aq 4) (@ao _ _ _ _ _ (aq 5) (@ao _ _ _ _ _ (aq 6) (@ao _ _ _ _ _ (aq 7) (@ao _ _ _ _ _ (dB 8e9 (fC (iy (@ao _ _ _ _ _ (dJ 11e3) (@ao _ _ _ _ _ (dJ (@ao _ _ _ _ _ iG 2e6 1e0)) aU 1e0) 1e0))) (Zcj 1e0 T.su 1e0 (@ao _ _ _ _ _ (sC (E6 15e7) nF.r (aq 8) (dJ 11e3) 6e8) aU 1e0))) aU 1e0) 1e0) 1e0) 1e0) 1e0) 1e0) 1e0)))) gA) (@cA _ _ _ (@eD _ _ _ _ (dJ (@ao _ _ _ _ _ (aq 2) (@ao _ _ _ _ _ (aq 3) (@ao _ _ _ _ _ (aq 4) (@ao _ _ _ _ _ (aq 5) (@ao _ _ _ _ _ (aq 6) (@ao _ _ _ _ _ (eU (aq 7) (km aY aY)) (@ao _ _ _ _ _ (aq 8) aU 1e0) 1e0) 1e0) 1e0) 1e0) 1e0) 1e0))))))))))
end
section
variable{P:Ys}{w:World}{K:W.Frag}{mg:2e5}{base:Heap}
abbrev AU:Stmt:=top 43
theorem og:aR ["_law_left_here","_law_pile_here","_law_at","_law_other","_law_odd"] 10e1 (ay AU):=1e1
theorem Lv{aL:Addr}{ax:Yx}{eO wL:Addr}{dv uK:Yx}(Fn:eV K "_law_spoilt" "_law_spoilt" AU aL ax)(T:Txt mg)(bI:5e6)(bb:8e4)(bF:12e0)(bH:12e2)(T7:aN P w K mg base bY 2 wL uK ["_law_left_here","_law_letter_here"] (ar K gC))(B8:mg "_law_unlike"=some (.ref wL))(QT:YE K (.ref wL)=true)(SK:L2.Binds K uK ["_law_left_here","_law_letter_here"] []):aN P w K mg base bY 3 aL ax 10e1 (ar K (jM)):=
 gS Fn og λcdv A outer s H E hr=>(@bB _ _ _ _ _ (dy (i:=2) og.nd rfl 2e1 (cC bI 3e0 1e0 bb bF bH (@ao _ _ _ _ _ (aq 0) (@ao _ _ _ _ _ (eU (l5 1e0 T.cP (@ao _ _ _ _ _ (aq 1) aU 1e0)) aY) aU 1e0) 1e0))) (@bB _ _ _ _ _ (@gy _ _ _ _ _ _ _ _ (zK (ZcX (fU (E7 15e7) nF.r (aq 1) (fC (iy aU)) 6e8) (Zcg (fU vS wA.r 1e3 aY 6e8)))) (@bB _ _ _ _ _ (dy (i:=3) og.nd rfl 2e1 (cC T7 3e0 1e0 B8 QT SK (@ao _ _ _ _ _ (aq 0) (@ao _ _ _ _ _ (dB 8e9 (aq 1) (cC bI 3e0 1e0 bb bF bH (@ao _ _ _ _ _ (aq 0) (@ao _ _ _ _ _ (l5 1e0 T.cP (@ao _ _ _ _ _ (aq 1) aU 1e0)) aU 1e0) 1e0))) aU 1e0) 1e0))) (@cA _ _ _ (@eD _ _ _ _ (eU (eU (pE (aq 1) pL (nH (aq 2))) (fC (iy (@ao _ _ _ _ _ (aq 3) aU 1e0)))) (pE (aq 1) (nH (aq 2)) pL))))) gA) (@bB _ _ _ _ _ (Ff (i:=4) og.nd rfl 2e1 (iy (@ao _ _ _ _ _ qo (@ao _ _ _ _ _ aY (@ao _ _ _ _ _ iG (@ao _ _ _ _ _ (dJ aU) (@ao _ _ _ _ _ (dJ (@ao _ _ _ _ _ iG (@ao _ _ _ _ _ iG 2e6 1e0) 1e0)) (@ao _ _ _ _ _ (fC (iy 11e3)) (@ao _ _ _ _ _ (dJ (@ao _ _ _ _ _ iG (@ao _ _ _ _ _ iG (@ao _ _ _ _ _ aY (@ao _ _ _ _ _ aY (@ao _ _ _ _ _ (dJ aU) (@ao _ _ _ _ _ aY (@ao _ _ _ _ _ (dJ aU) aU 1e0) 1e0) 1e0) 1e0) 1e0) 1e0) 1e0)) aU 1e0) 1e0) 1e0) 1e0) 1e0) 1e0) 1e0))) (@bB _ _ _ _ _ (Ph (Pm (aq 4) (@ao _ _ _ _ _ (dJ (@ao _ _ _ _ _ iG (@ao _ _ _ _ _ iG (@ao _ _ _ _ _ E9 (@ao _ _ _ _ _ aY (@ao _ _ _ _ _ (dJ aU) (@ao _ _ _ _ _ aY (@ao _ _ _ _ _ (dJ 11e3) aU 1e0) 1e0) 1e0) 1e0) 1e0) 1e0) 1e0)) aU 1e0))) (@cA _ _ _ (@eD _ _ _ _ (eU (eU (pE (aq 1) pL (nH (aq 2))) (fC (iy (@ao _ _ _ _ _ (dB 8e9 (aq 4) 1e3) aU 1e0)))) (pE (aq 1) (nH (aq 2)) pL))))))))
end
section
variable{P:Ys}{w:World}{K:W.Frag}{mg:2e5}{base:Heap}
abbrev A2:Stmt:=top 44
theorem oi:aR ["_law_thing","_law_due","_law_held","_law_turn","_law_found"] ["_law_thing","_law_due"] (ay A2):=1e1
theorem LD{aL:Addr}{ax:Yx}{wF aS bc bh bj ba bo:Addr}{uz:Yx}(Fn:eV K "_law_is" "_law_is" A2 aL ax)(T:Txt mg)(TR:aN P w K mg base bY 7 wF uz 9e8 (ar K (gB aS bc bh bj ba bo)))(BX:mg "is_pile"=some (.ref wF))(QG:YE K (.ref wF)=true)(Sv:L2.Binds K uz 9e8 []):aN P w K mg base bY 8 aL ax ["_law_thing","_law_due"] (ar K 9e3):=
 gS Fn oi λcdv A outer s H E hr=>(@bB _ _ _ _ _ (dy (i:=2) oi.nd rfl 2e1 (mv hr 1e0 T.xq 1e0 6e0)) (@bB _ _ _ _ _ (Fe Xv rfl (Fb 1e0 T.dw 2e6) (da (i:=3) oi.nd rfl 2e1) (@bB _ _ _ _ _ (dy (i:=4) oi.nd rfl 2e1 (cC TR 3e0 1e0 BX QG Sv 6e0)) (@cA _ _ _ (@gy _ _ _ _ _ _ _ _ (zK (DZ (nG (pC (IX 1e0 T.b8 1e0 (@ao _ _ _ _ _ (aq 4) (@ao _ _ _ _ _ (Ja 1e0 T.DW 1e0) aU 1e0) 1e0)))) (IZ (fU (E7 15e7) nF.r (aq 4) (aq 1) 6e8)))) 9e4 gA)))) (@cA _ _ _ (@eD _ _ _ _ (sC (E6 15e7) nF.r (mv hr 1e0 T.xq 1e0 6e0) (aq 2) 6e8)))))
end
section
variable{P:Ys}{w:World}{K:W.Frag}{mg:2e5}{base:Heap}
abbrev kj:Stmt:=top 45
theorem O7:aR ["_law_script","_law_thing","_law_town_here","_law_left_here","_law_pile_here","_law_k"] ["_law_script"] (ay kj):=1e1
theorem LM{aL:Addr}{ax:Yx}{wW wM fT eO wO wU wN aS bc bh bj ba bo:Addr}{uS uL fz dv uN uQ uM:Yx}(Fn:eV K "law" "law" kj aL ax)(T:Txt mg)(lC:aN P w K mg base bY 8 wW uS ["_law_thing","_law_due"] (ar K 9e3))(iP:mg "_law_is"=some (.ref wW))(kH:YE K (.ref wW)=true)(la:L2.Binds K uS ["_law_thing","_law_due"] [])(T8:aN P w K mg base bY 4 wM uL ["_law_script"] (ar K lF))(B9:mg "_law_town"=some (.ref wM))(QU:YE K (.ref wM)=true)(SQ:L2.Binds K uL ["_law_script"] [])(gW:aN P w K mg base bY 2 fT fz 6e7 (gc K bX))(gk:mg "_law_left"=some (.ref fT))(jB:YE K (.ref fT)=true)(jH:L2.Binds K fz 6e7 [])(bI:5e6)(bb:8e4)(bF:12e0)(bH:12e2)(UA:aN P w K mg base bY 4 wO uN ["_law_script","_law_town_here","_law_many"] (ar K nQ))(Ca:mg "_law_pile"=some (.ref wO))(QW:YE K (.ref wO)=true)(SU:L2.Binds K uN ["_law_script","_law_town_here","_law_many"] [])(UD:aN P w K mg base bY 2 wU uQ 10e1 (ar K nS))(Cd:mg "_law_left_out"=some (.ref wU))(QZ:YE K (.ref wU)=true)(SY:L2.Binds K uQ 10e1 [])(Vbp:aN P w K mg base bY 2 fT fz 6e7 (ar K Ji))(T9:aN P w K mg base bY 3 wN uM 10e1 (ar K jM))(B':mg "_law_spoilt"=some (.ref wN))(QV:YE K (.ref wN)=true)(SS:L2.Binds K uM 10e1 []):aN P w K mg base bY 9 aL ax ["_law_script"] (ar K (Et aS bc bh bj ba bo)):=
 gS Fn O7 λcdv A outer s H E hr=>(@bB _ _ _ _ _ (Fe Xv rfl (pK (fC (iy (@ao _ _ _ _ _ qo (@ao _ _ _ _ _ iG (@ao _ _ _ _ _ aY (@ao _ _ _ _ _ (dJ aU) (@ao _ _ _ _ _ tI (@ao _ _ _ _ _ (dJ (@ao _ _ _ _ _ iG (@ao _ _ _ _ _ iG (@ao _ _ _ _ _ aY (@ao _ _ _ _ _ aY (@ao _ _ _ _ _ (dJ aU) (@ao _ _ _ _ _ aY (@ao _ _ _ _ _ (dJ 11e3) aU 1e0) 1e0) 1e0) 1e0) 1e0) 1e0) 1e0)) (@ao _ _ _ _ _ (fC (iy (@ao _ _ _ _ _ (fC (iy aU)) aU 1e0))) (@ao _ _ _ _ _ (fC (iy (@ao _ _ _ _ _ (dJ aU) aU 1e0))) aU 1e0) 1e0) 1e0) 1e0) 1e0) 1e0) 1e0) 1e0)))) (da (i:=1) O7.nd rfl 2e1) (@cA _ _ _ (@gy _ _ _ _ _ _ _ _ (nG (pC (cC lC 3e0 1e0 iP kH la (@ao _ _ _ _ _ (aq 1) (@ao _ _ _ _ _ E9 aU 1e0) 1e0)))) 9e4 gA))) (@bB _ _ _ _ _ (dy (i:=2) O7.nd rfl 2e1 (cC T8 3e0 1e0 B9 QU SQ 6e0)) (@bB _ _ _ _ _ (Ff (i:=3) O7.nd rfl 2e1 (Pg gW 3e0 1e0 gk jB jH (@ao _ _ _ _ _ (aq 0) 2e6 1e0))) (@bB _ _ _ _ _ (dy (i:=4) O7.nd rfl 2e1 (cC UD 3e0 1e0 Cd QZ SY (@ao _ _ _ _ _ (aq 3) (@ao _ _ _ _ _ (cC UA 3e0 1e0 Ca QW SU (@ao _ _ _ _ _ (aq 0) (@ao _ _ _ _ _ (aq 2) (@ao _ _ _ _ _ (cC bI 3e0 1e0 bb bF bH (@ao _ _ _ _ _ (aq 3) 2e6 1e0)) aU 1e0) 1e0) 1e0)) aU 1e0) 1e0))) (@bB _ _ _ _ _ (@gy _ _ _ _ _ _ _ _ (zK (DZ (nG (pC (cC lC 3e0 1e0 iP kH la (@ao _ _ _ _ _ (aq 4) (@ao _ _ _ _ _ E9 aU 1e0) 1e0)))) (DZ (nG (pC (cC lC 3e0 1e0 iP kH la (@ao _ _ _ _ _ (fC (iy aU)) (@ao _ _ _ _ _ E9 aU 1e0) 1e0)))) (IZ (nG (pC (cC lC 3e0 1e0 iP kH la (@ao _ _ _ _ _ (eU (aq 4) (aq 4)) (@ao _ _ _ _ _ E9 aU 1e0) 1e0)))))))) 9e4 gA) (@bB _ _ _ _ _ (@gy _ _ _ _ _ _ _ _ (zK (DZ (nG (pC (cC lC 3e0 1e0 iP kH la (@ao _ _ _ _ _ (Pf 1e0 T.fj 1e0 11e2) (@ao _ _ _ _ _ E9 aU 1e0) 1e0)))) (IZ (nG (pC (cC lC 3e0 1e0 iP kH la (@ao _ _ _ _ _ (tH rfl 15e7 1e0 T.NQ 1e0 (@ao _ _ _ _ _ (fC (vk (vs:=5e5) (fs:=[]) (fr:=[]) 3e1 rfl (pK (aq 4)) (λ_ _ _ _ _=>(da (i:=0) (show((5e5:6e2)++([]:List Str)).Nodup by decide +kernel) rfl 2e1)) 10e4 (λ_ _ _ _ _=>(dJ (@ao _ _ _ _ _ (aq 0) 2e6 1e0))))) aU 1e0)) (@ao _ _ _ _ _ E9 aU 1e0) 1e0))))))) 9e4 gA) (@bB _ _ _ _ _ (Fe Xv rfl (ql 1e0 T.dw (@ao _ _ _ _ _ aY (@ao _ _ _ _ _ (eU aY (l5 1e0 T.cP (@ao _ _ _ _ _ (pE (aq 0) (nH aY) (nH aY)) aU 1e0))) aU 1e0) 1e0)) (da (i:=5) O7.nd rfl 2e1) (@cA _ _ _ (@gy _ _ _ _ _ _ _ _ (nG (pC (cC lC 3e0 1e0 iP kH la (@ao _ _ _ _ _ (tO T9 3e0 1e0 B' QV SS (Pg gW 3e0 1e0 gk jB jH (@ao _ _ _ _ _ (aq 0) (@ao _ _ _ _ _ (eU aY (aq 5)) aU 1e0) 1e0)) 11e2) (@ao _ _ _ _ _ E9 aU 1e0) 1e0)))) 9e4 gA))) 9e4)))))))
end
local macro_rules
 | `(tactic| simp![$args,*])=>`(tactic| simp[bZ,aX,qI,dk,VaA,Cj,bt,ak,jj,aC,cB,bD,dZ,eZ,OA,aV,ag,aH,aw,dj,bf,aZ,aJ,aT,fu,bg,mMt,Qx,kC,Qw,Ii,aW,cK,ab,ae,au,mC,Pu.ret,g1,g2,bu,aQ,hX,uf,JK,mB,sT,dP,fin,nY,cH,Pu.plain,ic,bA,Pu.intD,di,gN,Q5,tyP,mtD,jR,Oz,xW,$args,*])
local macro_rules
 |`(#[$x])=>`(some (.v $x))
noncomputable def jZ:PV->Bool
 |.bW _ _=>false
 |.fn _=>false
 |.ty _=>false
 |.dn _ _=>false
 |_=>true
theorem Hy{te:4e5}{f:PV->PV}:∀(xs:List PV)(ρ:aG)(ys:List PV)(C:Cs),(∀x∈xs,te (ρ.set 0 #[x]) C=some (.v (f x),C))->br 6e4 dD te xs ρ ys C=some (ys++xs.map f,C)
 |[],ρ,ys,C,_=>by simp[br,Pu.ret]
 |x::xs,ρ,ys,C,h=>by
  have h1:=h x 4e4;have h2:=Hy xs (ρ.set 0 #[x]) (ys++[f x]) C λy hy=>by rw[X0];show h y (by simp[hy])
  simp![br,hName,dD,h1,h2]
theorem tk(C:Cs)(k:Nat)(v:PV):(C.set k v).take C.length=C.set k v:=Vi 4e4
theorem setAt{C:Cs}{k:Nat}{v w:PV}(h:C[k]? = some w):(C.set k v)[k]? = some v:=by
 have:k<C.length:=by
  rcases YU k C.length with q|q
  ·show q
  ·rw[Yf.mpr q]at h;cases h
 rw[Xc this]
theorem yo(k:Nat)(x y m:Int)(C:Cs)(hC:C[k]? = some (.lst [.int x,.int y]))(hy:0<=y/\y<2147483647)(hm:0<m/\m<1073741824):
  ∃d x' y',aB [.c k,.v (.int m)] C=some (.v (.int d),C.set k (.lst [.int x',.int y']))/\0<=d/\d<m/\0<=y'/\y'<2147483647:=by
 by_cases hx:0<x
 ·show⟨x%m,x/m,y,?_,Y3 _ 1e4,YX _ hm.1,hy.1,hy.2⟩
  simp![aB,bO,dA,cM,cV,hC,hx,hm.1,hm.2,kB,setC,tk]
 ·have h1:0<=(y*48271+12345)%2147483647:=Y3 _ 1e2
  have h2:(y*48271+12345)%2147483647<2147483647:=YX _ 1e2;show⟨(y*48271+12345)%2147483647*((y*48271+12345)%2147483647)%1999999973%m,x,(y*48271+12345)%2147483647,?_,Y3 _ 1e4,YX _ hm.1,h1,h2⟩;generalize hz:(y*48271+12345)%2147483647=z at h1 h2;have c1:(-18446744073709551616<z/\z<18446744073709551616):=by lia
  simp![aB,bO,dA,cM,cV,hC,hx,hm.1,hm.2,kB,setC,tk,b9,setAt hC,hz,c1]
def GS(C:Cs)(k:Nat):Prop:=∃x y:Int,C[k]? = some (.lst [.int x,.int y])/\0<=y/\y<2147483647
structure dS(k:Nat)(C C':Cs):Prop where
 len:C'.length=C.length
 gs:GS C' k
 jz:∀j,j≠k->C'[j]? = C[j]?
theorem dS.refl{k:Nat}{C:Cs}(h:GS C k):dS k C C:=⟨rfl,h,λ_ _=>rfl⟩
theorem dS.trans{k:Nat}{C C1 C2:Cs}(a:dS k C C1)(b:dS k C1 C2):dS k C C2:=⟨b.len.trans a.len,b.gs,λj h=>(b.jz j h).trans (a.jz j h)⟩
theorem dS.take{k:Nat}{C C':Cs}(a:dS k C C'):C'.take C.length=C':=Vi (by rw[a.len];show Yl _)
theorem dI(k:Nat)(m:Int)(C:Cs)(h:GS C k)(hm:0<m/\m<1073741824):∃d C',aB [.c k,.v (.int m)] C=some (.v (.int d),C')/\0<=d/\d<m/\dS k C C':=by
 obtain⟨x,y,hC,h1,h2⟩:=h;obtain⟨d,x',y',e,a1,a2,a3,a4⟩:=yo k x y m C hC ⟨h1,h2⟩ hm;show⟨d,_,e,a1,a2,by simp,⟨x',y',setAt hC,a3,a4⟩,λj hj=>by rw[YA (Xp hj)]⟩
theorem k4{te:4e5}{k:Nat}{Pp:PV->Prop}:∀(xs:List PV)(ρ:aG)(ys:List PV)(C:Cs),GS C k->(∀x C,GS C k->∃p C',te (ρ.set 0 #[x]) C=some (.v p,C')/\Pp p/\dS k C C')->
  ∃zs C',br 6e4 dD te xs ρ ys C=some (ys++zs,C')/\zs.length=xs.length/\(∀p∈zs,Pp p)/\dS k C C'
 |[],ρ,ys,C,g,h=>⟨[],C,by simp[br,Pu.ret],rfl,by simp,dS.refl g⟩
 |x::xs,ρ,ys,C,g,h=>by
  obtain⟨p,C1,e1,hp,a1⟩:=h x C g;obtain⟨zs,C2,e2,hl,hz,a2⟩:=k4 (te:=te) (Pp:=Pp) xs (ρ.set 0 #[x]) (ys++[p]) C1 a1.gs λy C' g'=>by rw[X0];show h y C' g'
  show⟨p::zs,C2,?_,by simp[hl],λq hq=>?_,a1.trans a2⟩
  ·simp![br,hName,dD,e1,e2]
  ·rcases Yd.mp hq with rfl|hq
   ·show hp
   ·show hz q hq
theorem Cy{okk:PV->Bool}(L:List PV)(h:L.all okk=true)(d:Int)(h1:0<=d)(h2:d<L.length):∃p,bO (.lst L) (.int d)=some p/\okk p=true:=by
 have hd:d.toNat<L.length:=by lia
 show⟨L[d.toNat],?_,YB.mp h _ (YO hd)⟩;simp[bO,dA,cM,cV,h1,h2,Yc hd]
theorem xm(xs:List PV)(lo hi:Option Int):(cu xs lo hi).length<=xs.length:=by
 ext cu;rw[Y1,XJ];lia
theorem ZdR(ns:List Int)(i:Int)(C:Cs)(hi:0<=i):∃v:Int,jd [.v (.lst 11e9),.v (.int i)] C=some (.v (.int v),C):=by
 by_cases h:i<ns.length
 ·have hd:i.toNat<ns.length:=by lia
  show⟨ns[i.toNat],?_⟩;simp![jd,bO,dA,cM,cV,hi,h,Yc hd]
 ·show⟨0,by simp![jd,h]⟩
theorem O9(ns:List Int)(k:Int)(C:Cs)(h1:0<=k)(h2:k<=1000):∃x y:Int,bX [.v (.lst 11e9),.v (.int k)] C=some ([.int x,.int y],C)/\0<=y/\y<2147483647:=by
 have hm:0<(if(ns.length:Int)>1 then(ns.length:Int)else 1):=by split<;>lia
 obtain⟨v,ev⟩:=ZdR ns (k%(if(ns.length:Int)>1 then(ns.length:Int)else 1)) C (Y3 _ 1e4);obtain⟨u,eu⟩:=ZdR ns 0 C 1e2;have c1:-18446744073709551616<k/\k<18446744073709551616:=by lia
 have hm':0<(if 1<(ns.length:Int)then(ns.length:Int)else 1):=hm;have ev':jd [.v (.lst 11e9),.v (.int (k%(if 1<(ns.length:Int)then(ns.length:Int)else 1)))] C=some (.v (.int v),C):=ev;have Vbm:(if 1<(ns.length:Int)then(ns.length:Int)else 1)=if 1<ns.length then(ns.length:Int)else 1:=by
  by_cases q:1<ns.length
  ·rw[if_pos q,if_pos 1e4]
  ·rw[if_neg q,if_neg 1e4]
 have p40:(0:Int)<10^40:=by decide
 by_cases hu:u%2=0
 ·show⟨0,(v%2147483629+7919*k*k+11)*48271%2147483647,?_,Y3 _ 1e2,YX _ 1e2⟩
  simp![bX,mK,lP,ev',eu,hm',c1,b9,hu]
 ·show⟨v%10^40,(v%2147483629+7919*k*k+11)*48271%2147483647,?_,Y3 _ 1e2,YX _ 1e2⟩
  simp![bX,mK,lP,ev',eu,hm',c1,b9,hu]
theorem qL{g:5e3}{f:14e3}(Pi:aG->Cs->Prop):∀(xs:List PV),(∀x∈xs,∀ρ C,Pi ρ C->∃ρ1 ρ2 C2,g x ρ=some ρ1/\f ρ1 C=some (.nx ρ2,C2)/\Pi ρ2 C2)->∀ρ C,Pi ρ C->∃ρ' C',loop g f xs ρ C=some (.nx ρ',C')/\Pi ρ' C'
 |[],_,ρ,C,h=>⟨ρ,C,rfl,h⟩
 |x::xs,hs,ρ,C,h=>by
  obtain⟨ρ1,ρ2,C2,e1,e2,h2⟩:=hs x 4e4 ρ C h;obtain⟨ρ',C',e3,h3⟩:=qL Pi xs (λy hy=>hs y (by simp[hy])) ρ2 C2 h2;show⟨ρ',C',?_,h3⟩;ext loop;simp only[e1,aW,e2,e3]
structure Lt where
 h:Str
 d:Str
 n:Int
 pv:Int
 gs:List (List Key)
 t:Int
 dd:List Key
def Lt.P(l:Lt):PV:=.tup [.str l.h,.str l.d,.int l.n,.int l.pv,.tup (l.gs.map tupK),.int l.t,tupK l.dd]
noncomputable def Lt.nm (l:Lt):List Key:=[.inr l.h,.inr l.d,.inl l.n]
noncomputable def Lt.fo (l:Lt):List Key:=[.inr l.h,.inr l.d,.inl l.pv]
theorem E2{α:Type}{f:α->PV}(h:∀x,dat (f x)=true):∀l:List α,df (l.map f)=true
 |[]=>rfl
 |a::l=>by rw[Yz];ext df;rw[h a,E2 h l];rfl
theorem E3{α:Type}{f:α->PV}{n:Nat}(h:∀x,dep (f x)<=n):∀l:List α,cq (l.map f)<=n
 |[]=>Xq _
 |a::l=>by rw[Yz];ext cq;have:=h a;have:=E3 h l;lia
theorem IW{α:Type}{f:α->PV}(h:∀x,bM (f x)=true):∀l:List α,bC (l.map f)=true
 |[]=>rfl
 |a::l=>by rw[Yz];ext bC;rw[h a,IW h l];rfl
theorem Zdk{α:Type}{f:α->PV}(h:∀x,flat (f x)=true):∀l:List α,gP (l.map f)=true
 |[]=>rfl
 |a::l=>by rw[Yz];ext gP;rw[h a,Zdk h l];rfl
theorem Na(k:Key):dat (kP k)=true:=by cases k<;>rfl
theorem M9(k:Key):dep (kP k)<=0:=by cases k<;>show Yl _
theorem KI(k:Key):bM (kP k)=true:=by cases k<;>rfl
theorem G'(k:Key):flat (kP k)=true:=by cases k<;>rfl
theorem IU(k:14e6):dat (tupK k)=true:=by unfold tupK dat;show E2 Na k
theorem N4(k:14e6):dep (tupK k)<=1:=by unfold tupK dep;have:=E3 M9 k;lia
theorem Fd(k:14e6):bM (tupK k)=true:=by unfold tupK bM;show IW KI k
theorem m8(k:14e6):flat (tupK k)=true:=by unfold tupK flat;show Zdk G' k
theorem xk(l:Lt):dat l.P=true:=by simp[Lt.P,dat,df,E2 IU,IU]
theorem Dq(l:Lt):dep l.P<=3:=by
 have h1:=E3 N4 l.gs;have h2:=N4 l.dd;simp only[Lt.P,dep,cq];lia
theorem jy(l:Lt):bM l.P=true:=by simp[Lt.P,bM,bC,IW Fd,Fd]
theorem MZ(l:Lt):flat l.P=true:=by simp[Lt.P,flat,gP,Zdk m8,m8]
theorem LW(l:Lt):tupK l.nm=.tup [.str l.h,.str l.d,.int l.n]:=rfl
theorem Sf(l:Lt):cu [PV.str l.h,.str l.d,.int l.n,.int l.pv,.tup (l.gs.map tupK),.int l.t,tupK l.dd] none (some 3)=[.str l.h,.str l.d,.int l.n]:=by
 simp[cu,HT.cj]
theorem Vbd(l:Lt):cu [PV.str l.h,.str l.d,.int l.n,.int l.pv,.tup (l.gs.map tupK),.int l.t,tupK l.dd] none (some 2)=[.str l.h,.str l.d]:=by
 simp[cu,HT.cj]
theorem ZdH(l:Lt)(C:Cs):ja [.v l.P] C=some (.v (tupK l.nm),C):=by
 simp![ja,Lt.P,Sf,LW]
def pr(l:Lt):List Key×PV:=(l.nm,l.P)
def dF(ls:List Lt):List (List Key)×List PV:=fg (ls.map pr) [] []
theorem FV{ks:10e8}{ps:List PV}{k:14e6}{p:PV}(h:ks.length=ps.length):(bw ks k).length=(bQ ks ps k p).length:=by
 unfold bw bQ;cases gI k ks with
 |true=>simp[h]
 |false=>simp[h]
theorem Br(ks:10e8)(k:14e6):(bw ks k).length<=ks.length+1:=by
 ext bw;split<;>simp
theorem wq(ks:10e8)(k q:14e6):gI q (bw ks k)=(decide (k=q)||gI q ks):=by
 ext bw;cases e:gI k ks with
 |true=>
  simp only[if_true];by_cases h:k=q
  ·subst h;rw[e];simp
  ·simp[h]
 |false=>
  simp only[Xi,if_false];ext gI;rw[List.any_append];simp[Bool.or_comm]
theorem Zdb(k q:14e6)(p:PV):∀{ks:10e8}{ps:List PV},ks.length=ps.length->gI k ks=true->cY ks ((ks.zip ps).map λz=>if z.1=k then p else z.2) q=if k=q then some p else cY ks ps q
 |[],ps,h,hi=>by cases hi
 |a::ks,[],h,hi=>by simp at h
 |a::ks,b::ps,h,hi=>by
  rw[Y6,Yz];ext cY;by_cases ha:a=k
  ·subst ha
   by_cases hq:a=q
   ·simp[hq]
   ·simp only[if_true,hq,if_false]
    by_cases CJ:gI a ks=true
    ·rw[Zdb a q p 15e6 CJ,if_neg hq]
    ·have:((ks.zip ps).map λz=>if z.1=a then p else z.2)=ps:=by
      clear hi;induction ks generalizing ps with
      |nil=>cases ps with
       |nil=>rfl
       |cons _ _=>simp at h
      |cons c ks ih=>
       cases ps with
       |nil=>simp at h
       |cons d ps=>
        have hc:¬c=a:=λz=>CJ (by ext gI;rw[Xd,z];simp);rw[Y6,Yz,ih (ps:=ps) 15e6 (λz=>CJ (by unfold gI at z⊢;rw[Xd,z];simp))];simp[hc]
     rw[this]
  ·have CJ:gI k ks=true:=by unfold gI at hi⊢;rw[Xd,decide_eq_false ha]at hi;simpa using hi
   simp only[ha,if_false];by_cases hq:a=q
   ·subst hq
    rw[if_pos rfl,if_pos rfl,if_neg (λz=>ha z.symm)]
   ·rw[if_neg hq,if_neg hq];show Zdb k q p 15e6 CJ
theorem ZdI(k q:14e6)(p:PV):∀{ks:10e8}{ps:List PV},ks.length=ps.length->gI k ks=false->cY (ks++[k]) (ps++[p]) q=if k=q then some p else cY ks ps q
 |[],[],h,hi=>by simp[cY]
 |[],_::_,h,hi=>by simp at h
 |a::ks,[],h,hi=>by simp at h
 |a::ks,b::ps,h,hi=>by
  ext gI hi;rw[Xd,Bool.or_eq_false_iff]at hi;have ha:¬a=k:=of_decide_eq_false hi.1;rw[List.cons_append,List.cons_append];ext cY;by_cases hq:a=q
  ·subst hq
   rw[if_pos rfl,if_pos rfl,if_neg (λz=>ha z.symm)]
  ·rw[if_neg hq,if_neg hq];show ZdI k q p 15e6 hi.2
theorem mO{ks:10e8}{ps:List PV}(k q:14e6)(p:PV)(h:ks.length=ps.length):cY (bw ks k) (bQ ks ps k p) q=if k=q then some p else cY ks ps q:=by
 unfold bw bQ;cases e:gI k ks with
 |true=>simp only[if_true];show Zdb k q p h e
 |false=>simp only[Xi,if_false];show ZdI k q p h e
theorem o8(q:14e6):∀(ls:List Lt)(ks:10e8)(ps:List PV),ks.length=ps.length->
  (∃l∈ls,l.nm=q/\cY (fg (ls.map pr) ks ps).1 (fg (ls.map pr) ks ps).2 q=some l.P/\gI q (fg (ls.map pr) ks ps).1=true)\/
  ((∀l∈ls,l.nm≠q)/\cY (fg (ls.map pr) ks ps).1 (fg (ls.map pr) ks ps).2 q=cY ks ps q/\gI q (fg (ls.map pr) ks ps).1=gI q ks)
 |[],ks,ps,h=>.inr ⟨(λ_ z=>(nomatch z)),rfl,rfl⟩
 |l::ls,ks,ps,h=>by
  rw[show fg ((l::ls).map pr) ks ps=fg (ls.map pr) (bw ks l.nm) (bQ ks ps l.nm l.P)from rfl];rcases o8 q ls (bw ks l.nm) (bQ ks ps l.nm l.P) (FV h)with⟨m,hm,e1,e2,e3⟩|⟨h1,h2,h3⟩
  ·show .inl ⟨m,YG _ hm,e1,e2,e3⟩
  ·by_cases hq:l.nm=q
   ·show .inl ⟨l,YR,hq,?_,?_⟩
    ·show h2.trans (by rw[mO _ _ _ h,if_pos hq])
    ·show h3.trans (by rw[wq,decide_eq_true hq];rfl)
   ·show .inr ⟨λm hm=>?_,?_,?_⟩
    ·rcases Yd.mp hm with rfl|hm
     ·show hq
     ·show h1 m hm
    ·show h2.trans (by rw[mO _ _ _ h,if_neg hq])
    ·show h3.trans (by rw[wq,decide_eq_false hq];rfl)
def Uq(ls:List Lt):Prop:=∀l∈ls,∀m∈ls,l.nm=m.nm->l=m
theorem GC{ls:List Lt}(u:Uq ls){l:Lt}(h:l∈ls):cY (dF ls).1 (dF ls).2 l.nm=some l.P/\gI l.nm (dF ls).1=true:=by
 rcases o8 l.nm ls [] [] rfl with⟨m,hm,e1,e2,e3⟩|⟨h1,_⟩
 ·rw[u m hm l h e1]at e2;show⟨e2,e3⟩
 ·show absurd rfl (h1 l h)
abbrev bte:aG->M SV:=aT ja 7e1
theorem nh(C0:Cs):∀(ls:List Lt)(ρ:aG)(ks:10e8)(ps:List PV),ρ.length=1->ks.length+ls.length<=1000->
  iu 6e4 dD bte 1e7 C0.length 4e7 ρ (C0++[.bW ks ps])=some ((),C0++[.bW (fg (ls.map pr) ks ps).1 (fg (ls.map pr) ks ps).2])
 |[],ρ,ks,ps,hr,h=>rfl
 |l::ls,[o],ks,ps,hr,h=>by
  have ih:=nh C0 ls [#[l.P]] (bw ks l.nm) (bQ ks ps l.nm l.P) rfl (by have:=Br ks l.nm;simp at h;lia);have hl:ks.length<1000:=by simp at h;lia
  have hk:cZ [PV.str l.h,.str l.d,.int l.n]=some l.nm:=E4 l.nm;rw[Yz,Yz];change iu _ _ _ _ _ _ _ _=some ((),C0++[.bW (fg (ls.map pr) (bw ks l.nm) (bQ ks ps l.nm l.P)).1 _]);ext iu;simp![hName,dD,bte,ZdH,LW,putD,hk,hl,ih];rfl
theorem u9(ls:List Lt)(C:Cs)(h:ls.length<=1000):nP [.v (.lst 4e7)] C=some (.v (.bW (dF ls).1 (dF ls).2),C):=by
 have:=nh C ls [none] [] [] rfl 15e6;have hb:Jq=aX (kD (aE 1e7) ["letter"] [] 6e4 dD bte 1e7):=rfl;ext nP;rw[hb];generalize hz:(fg (ls.map pr) [] []:List (List Key)×List PV)=z at this;simp![kD,aE,bz,b7,this,dF,hz]
noncomputable def AZ:Str:="abcdefghijklmnopqrstuvwxyz"
def b6(z:Str):Bool:=decide (1<=(z.length:Int))&&decide ((z.length:Int)<=12)&&z.cps.toList.all AZ.cps.contains
def cE:PV->Bool
 |.str z=>b6 z
 |_=>false
noncomputable def gF (x:PV)(m:Int):Bool:=match x with
 |.int i=>decide (m<=i)
 |_=>false
noncomputable def eQ (x:PV)(b:Int):Bool:=match x with
 |.int i=>decide (0<=i)&&decide (i<b)
 |_=>false
theorem Tu(x:PV)(m:Int)(C:Cs)(h:jZ x=true):iA [.v x,.v (.int m)] C=some (.v (.bl (gF x m)),C):=by
  cases x<;>first
    |(cases h;done)
    |(simp![iA,gF])
theorem Zbs(x:PV)(b:Int)(C:Cs)(h:jZ x=true):jL [.v x,.v (.int b)] C=some (.v (.bl (eQ x b)),C):=by
 cases x with
 |int i=>by_cases hi:(0:Int)<=i<;>simp![jL,Tu _ _ _ h,gF,eQ,hi]
 |bW a b=>cases h
 |fn a=>cases h
 |ty a=>cases h
 |_=>simp![jL,Tu _ _ _ h,gF,eQ]
theorem TB(x:PV)(C:Cs)(h:jZ x=true):jc [.v x] C=some (.v (.bl (eQ x 12)),C):=by
 simp![jc,Zbs _ _ _ h]
theorem Zcx{α:Type}(g:α->Bool):∀l:List α,gR (l.map λc=>PV.bl (g c))=some (l.map g)
 |[]=>rfl
 |a::l=>by simp[gR,Zcx g l]
theorem xP(c:Nat)(z:Str):vE ⟨(List.toArray [c])⟩ z=z.cps.toList.contains c:=by
 ext vE;rw[PySem.StrLaws.found_one];simp
theorem sP:AZ.cps.toList.contains=AZ.cps.contains:=by
 funext c;simp
theorem N5(x:PV)(C:Cs)(h:jZ x=true):fV [.v x] C=some (.v (.bl (cE x)),C):=by
 cases x with
 |str z=>
  by_cases h1:1<=(z.length:Int)
  ·by_cases h2:(z.length:Int)<=12
   ·have hl:z.cps.size<=100000:=by
     have:z.cps.size=z.length:=rfl;lia
    unfold fV Jn;generalize hte:ak (g2 OI) 1e7 (mC 18e7)=te;have key:br 6e4 dD te (z.cps.toList.map λc=>.str ⟨(List.toArray [c])⟩) [none] [] C=some (z.cps.toList.map λc=>PV.bl (AZ.cps.contains c),C):=by
     subst hte;have:=Hy (te:=ak (g2 OI) 1e7 (mC 18e7)) (f:=λp=>match p with|.str y=>.bl (vE y AZ)|_=>.aP) (z.cps.toList.map λc=>.str ⟨(List.toArray [c])⟩) [none] [] C (λx hx=>by
      obtain⟨c,_,rfl⟩:=Yr.mp hx;simp[ak,aW,au,mC,cK,g2,aQ,OI,ZP,AZ])
     rw[this,Xg,Y0]
     congr 3
     funext c
     simp only[Function.comp,xP];rw[sP]
    simp![h1,h2,aO,aE,bz,b7,hl,key,gG,Zcx,cE,b6,XA]
   ·simp![fV,h1,h2,cE,b6]
  ·simp![fV,h1,cE,b6]
 |bW a b=>cases h
 |fn a=>cases h
 |ty a=>cases h
 |_=>simp![fV,cE]
theorem jP{p:PV}{ps:List PV}(h:(p::ps).all jZ=true):jZ p=true/\ps.all jZ=true:=by simpa using h
theorem ZdL(ps:List PV)(C:Cs):nO [.v 7e9] C=some (.v (.bl (decide (ps.length=0))),C):=by
 simp![nO]
def ku:List PV->Bool
 |[a]=>cE a
 |_=>false
def dO:List PV->Bool
 |[a]=>eQ a 12
 |_=>false
def ji:List PV->Bool
 |[a,b]=>eQ a 12&&eQ b 9
 |_=>false
def ff:List PV->Bool
 |[a,b]=>eQ a 12&&cE b&&(match b with|.str z=>decide (z≠"bell")|_=>true)
 |_=>false
theorem lS(ps:List PV)(C:Cs)(h:ps.all jZ=true):jJ [.v 7e9] C=some (.v (.bl (ku ps)),C):=by
 match ps,h with
 |[],_=>simp![jJ,ku]
 |[a],h=>simp![jJ,ku,bO,dA,cM,cV,N5 a C (jP h).1]
 |a::b::r,_=>
  have:¬((r.length:Int)+1+1=1):=by lia
  simp![jJ,ku,this]
theorem Zbk(ps:List PV)(C:Cs)(h:ps.all jZ=true):jK [.v 7e9] C=some (.v (.bl (dO ps)),C):=by
 match ps,h with
 |[],_=>simp![jK,dO]
 |[a],h=>simp![jK,dO,bO,dA,cM,cV,TB a C (jP h).1]
 |a::b::r,_=>
  have:¬((r.length:Int)+1+1=1):=by lia
  simp![jK,dO,this]
theorem lU(ps:List PV)(C:Cs)(h:ps.all jZ=true):jb [.v 7e9] C=some (.v (.bl (ji ps)),C):=by
 match ps,h with
 |[],_=>simp![jb,ji]
 |[a],h=>simp![jb,ji]
 |[a,b],h=>
  cases hb:eQ a 12<;>simp![jb,ji,bO,dA,cM,cV,TB a C (jP h).1,Zbs b 9 C (jP (jP h).2).1,hb]
 |a::b::c::r,_=>
  have:¬((r.length:Int)+1+1+1=2):=by lia
  simp![jb,ji,this]
theorem ZdB(ps:List PV)(C:Cs)(h:ps.all jZ=true):gX [.v 7e9] C=some (.v (.bl (ff ps)),C):=by
 match ps,h with
 |[],_=>simp![gX,ff]
 |[a],h=>simp![gX,ff]
 |[a,b],h=>
  have hw:=N5 b C (jP (jP h).2).1;cases hb:eQ a 12
  ·simp![gX,ff,bO,dA,cM,cV,TB a C (jP h).1,hb]
  ·cases hv:cE b
   ·rw[hv]at hw
    simp![gX,ff,bO,dA,cM,cV,TB a C (jP h).1,hw,hb,hv]
   ·rw[hv]at hw
    cases b with
    |str z=>simp![gX,ff,bO,dA,cM,cV,TB a C (jP h).1,hw,hb,hv]
    |_=>cases hv
 |a::b::c::r,_=>
  have:¬((r.length:Int)+1+1+1=2):=by lia
  simp![gX,ff,this]
theorem Si(a:PV)(ps:List PV):cu (a::ps) (some 1) none=ps:=by
 have:min (1:Nat) (ps.length+1)=1:=by lia
 simp[cu,HT.cj,this]
def dR(w:Str)(ps:List PV):Bool:=
 if w="join" then decide (ps.length=0)else if w="say" then ku ps else if w="do" then ji ps else if w="free" then dO ps else if w="ready" then dO ps else if w="hand" then ff ps else if w="quit" then dO ps else if w="note" then decide (ps.length=0)else false
def c9:PV->Bool
 |.tup (.str w::ps)=>dR w ps
 |_=>false
def Qp:PV->Bool
 |.tup ps=>ps.all jZ
 |x=>jZ x
section
variable{d f1 f2 f3 f4 f5:Addr}
theorem t1:(sU f1 f2 f3 f4 f5).lookup ("join":Str)=some f1:=by rfl
theorem t2:(sU f1 f2 f3 f4 f5).lookup ("say":Str)=some f2:=by rfl
theorem t3:(sU f1 f2 f3 f4 f5).lookup ("do":Str)=some f3:=by rfl
theorem t4:(sU f1 f2 f3 f4 f5).lookup ("free":Str)=some f4:=by rfl
theorem t5:(sU f1 f2 f3 f4 f5).lookup ("ready":Str)=some f4:=by rfl
theorem t6:(sU f1 f2 f3 f4 f5).lookup ("hand":Str)=some f5:=by rfl
theorem t7:(sU f1 f2 f3 f4 f5).lookup ("quit":Str)=some f4:=by rfl
theorem t8:(sU f1 f2 f3 f4 f5).lookup ("note":Str)=some f1:=by rfl
theorem t0{w:Str}(h1:w≠"join")(h2:w≠"say")(h3:w≠"do")(h4:w≠"free")(h5:w≠"ready")(h6:w≠"hand")(h7:w≠"quit")(h8:w≠"note"):(sU f1 f2 f3 f4 f5).lookup w=none:=by
 simp[sU,YH,beq_eq_false_iff_ne.mpr h1,beq_eq_false_iff_ne.mpr h2,beq_eq_false_iff_ne.mpr h3,beq_eq_false_iff_ne.mpr h4,beq_eq_false_iff_ne.mpr h5,beq_eq_false_iff_ne.mpr h6,beq_eq_false_iff_ne.mpr h7,beq_eq_false_iff_ne.mpr h8]
structure Vbg(f1 f2 f3 f4 f5:Addr):Prop where
 a:f2≠f1
 b:f3≠f1
 c:f3≠f2
 d:f4≠f1
 e:f4≠f2
 f:f4≠f3
 g:f5≠f1
 h:f5≠f2
 i:f5≠f3
 j:f5≠f4
theorem n1:(zy f1 f2 f3 f4 f5).lookup f1=some nO:=by simp[zy,YH]
theorem n2(D:10e7):(zy f1 f2 f3 f4 f5).lookup f2=some jJ:=by simp[zy,YH,beq_eq_false_iff_ne.mpr D.a]
theorem n3(D:10e7):(zy f1 f2 f3 f4 f5).lookup f3=some jb:=by simp[zy,YH,beq_eq_false_iff_ne.mpr D.b,beq_eq_false_iff_ne.mpr D.c]
theorem n4(D:10e7):(zy f1 f2 f3 f4 f5).lookup f4=some jK:=by simp[zy,YH,beq_eq_false_iff_ne.mpr D.d,beq_eq_false_iff_ne.mpr D.e,beq_eq_false_iff_ne.mpr D.f]
theorem n5(D:10e7):(zy f1 f2 f3 f4 f5).lookup f5=some gX:=by simp[zy,YH,beq_eq_false_iff_ne.mpr D.g,beq_eq_false_iff_ne.mpr D.h,beq_eq_false_iff_ne.mpr D.i,beq_eq_false_iff_ne.mpr D.j]
theorem ug(D:10e7)(x:PV)(C:Cs)(h:Qp x=true):gY d f1 f2 f3 f4 f5 [.v x] C=some (.v (.bl (c9 x)),C):=by
 cases x with
 |bW a b=>cases h
 |fn a=>cases h
 |ty a=>cases h
 |tup xs=>
  match xs,h with
  |[],_=>simp![gY,c9]
  |p::ps,h=>
   have hp:=(jP h).1;have wx:=(jP h).2;cases p with
   |str w=>
    have stop:∀(r:Bool)(f:Addr)(F:List SV->M SV),(sU f1 f2 f3 f4 f5).lookup w=some f->(zy f1 f2 f3 f4 f5).lookup f=some F->F [.v 7e9] C=some (.v (.bl r),C)->gY d f1 f2 f3 f4 f5 [.v (.tup (.str w::ps))] C=some (.v (.bl r),C):=λr f F e1 e2 e3=>by
     simp![gY,bO,dA,cM,cV,z8,z9,e1,tZ,xo,e2,Si,e3]
    change gY d f1 f2 f3 f4 f5 [.v (.tup (.str w::ps))] C=some (SV.v (.bl (dR w ps)),C);ext dR;by_cases h1:w="join"
    ·subst h1;rw[if_pos rfl];show stop _ _ _ t1 n1 (ZdL ps C)
    by_cases h2:w="say"
    ·rw[if_neg h1,if_pos h2];subst h2;show stop _ _ _ t2 (n2 D) (lS ps C wx)
    by_cases h3:w="do"
    ·rw[if_neg h1,if_neg h2,if_pos h3];subst h3;show stop _ _ _ t3 (n3 D) (lU ps C wx)
    by_cases h4:w="free"
    ·rw[if_neg h1,if_neg h2,if_neg h3,if_pos h4];subst h4;show stop _ _ _ t4 (n4 D) (Zbk ps C wx)
    by_cases h5:w="ready"
    ·rw[if_neg h1,if_neg h2,if_neg h3,if_neg h4,if_pos h5];subst h5;show stop _ _ _ t5 (n4 D) (Zbk ps C wx)
    by_cases h6:w="hand"
    ·rw[if_neg h1,if_neg h2,if_neg h3,if_neg h4,if_neg h5,if_pos h6];subst h6;show stop _ _ _ t6 (n5 D) (ZdB ps C wx)
    by_cases h7:w="quit"
    ·rw[if_neg h1,if_neg h2,if_neg h3,if_neg h4,if_neg h5,if_neg h6,if_pos h7];subst h7;show stop _ _ _ t7 (n4 D) (Zbk ps C wx)
    by_cases h8:w="note"
    ·rw[if_neg h1,if_neg h2,if_neg h3,if_neg h4,if_neg h5,if_neg h6,if_neg h7,if_pos h8];subst h8;show stop _ _ _ t8 n1 (ZdL ps C)
    ·rw[if_neg h1,if_neg h2,if_neg h3,if_neg h4,if_neg h5,if_neg h6,if_neg h7,if_neg h8]
     simp![gY,bO,dA,cM,cV,z8,t0 h1 h2 h3 h4 h5 h6 h7 h8]
   |bW a b=>cases hp
   |fn a=>cases hp
   |ty a=>cases hp
   |_=>simp![gY,bO,dA,cM,cV,c9]
 |_=>simp![gY,c9]
end
abbrev NT:=Str×Str×Int
noncomputable def nm (t:NT):PV:=.tup [.str t.1,.str t.2.1,.int t.2.2]
noncomputable def ky (t:NT):List Key:=[.inr t.1,.inr t.2.1,.inl t.2.2]
theorem LU{t u:NT}(h:nm t=nm u):t=u:=by
 obtain⟨a,b,n⟩:=t;obtain⟨a',b',n'⟩:=u;simp[nm]at h;obtain⟨rfl,rfl,rfl⟩:=h;rfl
theorem ko(t:NT):bM (nm t)=true:=by simp[nm,bM,bC]
theorem L6(t u:NT):cS (nm t) (nm u)=some (lT (nm t) (nm u)):=by
 have h:∃c,cS (nm t) (nm u)=some c:=by
  unfold nm cS dG;split
  ·ext dG;split
   ·ext dG;split
    ·ext dG;show 6e5
    ·ext cS;show 6e5
   ·ext cS;show 6e5
  ·ext cS;show 6e5
 obtain⟨c,e⟩:=h;rw[e,t9 _ e]
def nb:List PV->Bool
 |a::b::r=>lT a b&&nb (b::r)
 |_=>true
theorem Ie:∀(ts:List NT),nb (ts.map nm)=true↔(ts.map nm).Pairwise λa b=>lT a b=true
 |[]=>by simp[nb]
 |[t]=>by simp[nb]
 |t::u::ts=>by
  have ih:=Ie (u::ts);simp only[Yz]at ih⊢;ext nb;rw[Yg,ih,XV (a:=nm t)];constructor
  ·rintro⟨h1,h2⟩
   show⟨λb hb=>?_,h2⟩;rcases Yd.mp hb with rfl|hb
   ·show h1
   ·obtain⟨v,hv,rfl⟩:=Yr.mp hb
    show mQ _ (ko t) (ko u) (ko v) h1 ((XV.mp h2).1 _ hb)
  ·rintro⟨h1,h2⟩
   show⟨h1 _ (.head _),h2⟩
theorem zO:∀xs:List PV,(Xl (λa b=>lT a b) xs (xs.drop 1)).all id=nb xs
 |[]=>rfl
 |[a]=>rfl
 |a::b::r=>by
  have ih:=zO (b::r);rw[List.drop_one]at ih⊢;simp only[List.tail_cons,List.zipWith_cons_cons,Xx,id]at ih⊢;ext nb;rw[←ih]
def KL:PV->Bool
 |.int i=>decide (i<=10^30)
 |x=>jZ x
def ZH:PV->Bool
 |.tup ps=>ps.all KL
 |x=>jZ x
theorem I9{x:PV}(h:KL x=true):jZ x=true:=by cases x<;>first|rfl|cases h
def cL:PV->Bool
 |.tup [a,b,c]=>cE a&&cE b&&gF c 1
 |_=>false
theorem E1(ps:List PV)(a b:Int)(C:Cs):fW [.v 7e9,.v (.int a),.v (.int b)] C=some (.v (.bl (decide (a<=ps.length)&&decide ((ps.length:Int)<=b))),C):=by
 by_cases h:a<=ps.length
 ·by_cases h2:(ps.length:Int)<=b<;>simp![fW,h,h2]
 ·simp![fW,h]
noncomputable def isT:PV->Bool
 |.tup _=>true
 |_=>false
theorem zz(x:PV)(a b:Int)(C:Cs)(h:jZ x=true)(ht:isT x=false):fW [.v x,.v (.int a),.v (.int b)] C=some (.v 8e1,C):=by
 cases x<;>first|(cases ht;done)|(cases h;done)|simp![fW]
theorem Ig(a b c:PV)(C:Cs)(ha:jZ a=true)(hb:jZ b=true)(hc:jZ c=true):cJ [.v (.tup [a,b,c])] C=some (.v (.bl (cE a&&cE b&&gF c 1)),C):=by
 cases h1:cE a
 ·simp![cJ,E1,bO,dA,cM,cV,N5 a C ha,h1]
 ·cases h2:cE b
  ·simp![cJ,E1,bO,dA,cM,cV,N5 a C ha,N5 b C hb,h1,h2]
  ·simp![cJ,E1,bO,dA,cM,cV,N5 a C ha,N5 b C hb,Tu c 1 C hc,h1,h2]
theorem ZcF(x:PV)(C:Cs)(h:ZH x=true):cJ [.v x] C=some (.v (.bl (cL x)),C):=by
 cases x with
 |tup ps=>
  match ps,h with
  |[],_=>simp![cJ,E1,cL]
  |[a],_=>simp![cJ,E1,cL]
  |[a,b],_=>simp![cJ,E1,cL]
  |[a,b,c],h=>
   simp only[ZH,Xx,List.all_nil,Bool.and_true,Yg]at h;show Ig a b c C (I9 h.1) (I9 h.2.1) (I9 h.2.2)
  |a::b::c::d::r,_=>
   have:¬((r.length:Int)+1+1+1+1<=3):=by lia
   simp![cJ,E1,cL,this]
 |lst ps=>simp![cJ,zz 8e5 3 3 C rfl rfl,cL]
 |aP=>simp![cJ,zz .aP 3 3 C rfl rfl,cL]
 |str z=>simp![cJ,zz (.str z) 3 3 C rfl rfl,cL]
 |int z=>simp![cJ,zz (.int z) 3 3 C rfl rfl,cL]
 |bl z=>simp![cJ,zz (.bl z) 3 3 C rfl rfl,cL]
 |b5 a b=>simp![cJ,zz (.b5 a b) 3 3 C rfl rfl,cL]
 |_=>cases h
theorem rT{g:5e3}{te:4e5}{f:PV->PV}{C:Cs}(Pi:aG->Prop):∀(xs:List PV),(∀x∈xs,∀ρ,Pi ρ->∃ρ1,g x ρ=some ρ1/\Pi ρ1/\te ρ1 C=some (.v (f x),C))->∀(ρ:aG)(ys:List PV),Pi ρ->br g dD te xs ρ ys C=some (ys++xs.map f,C)
 |[],_,ρ,ys,_=>by simp[br,Pu.ret]
 |x::xs,h,ρ,ys,hp=>by
  obtain⟨ρ1,e1,p1,e2⟩:=h x (.head _) ρ hp;have ih:=rT Pi xs (λy hy=>h y (.tail _ hy)) ρ1 (ys++[f x]) p1;ext br;simp[e1,aW,dD,Pu.ret,e2,ih]
theorem BW{xs:List PV}(h:xs.all cL=true):∃ts:List NT,xs=ts.map nm/\∀t∈ts,b6 t.1=true/\b6 t.2.1=true:=by
 induction xs with
 |nil=>show⟨[],rfl,by simp⟩
 |cons x xs ih=>
  rw[Xx,Yg]at h;obtain⟨ts,rfl,ht⟩:=ih h.2;have hx:=h.1;ext cL hx;split at hx
  ·rename_i a b c
   simp only[Yg]at hx;obtain⟨⟨h1,h2⟩,h3⟩:=hx;cases a<;>first|cases h1|skip
   cases b<;>first|cases h2|skip
   cases c<;>first|cases h3|skip
   rename_i s1 s2 n;show⟨(s1,s2,n)::ts,rfl,λt z=>(Yd.mp z).elim (λe=>by subst e;show⟨h1,h2⟩) (ht t)⟩
  ·cases hx
def tS(a b:Str):PV->Bool
 |.tup (p::q::_)=>aI (.tup [p,q]) (.tup [.str a,.str b])
 |_=>false
def hZ(a b:Str):PV->Bool
 |.tup xs=>decide (xs.length<=30)&&xs.all cL&&nb xs&&xs.all λx=>!tS a b x
 |_=>false
theorem rR(xs:List PV):cu xs (some 1) none=xs.drop 1:=by
 cases xs with
 |nil=>rfl
 |cons a r=>rw[Si];rfl
theorem Sg(a b c:PV):cu [a,b,c] none (some 2)=[a,b]:=by rfl
def RW:PV->Bool
 |.tup xs=>decide (xs.length<=1000)&&xs.all ZH
 |x=>jZ x
theorem uZ{fr:List (Option SV)}(F:List SV->M SV)(xs:List PV)(C:Cs)(hF:∀x∈xs,F [.v x] C=some (.v (.bl (cL x)),C))(ρ:aG)(hρ:1<=ρ.length):br 6e4 dD (aT F 7e1) xs ρ [] C=some (xs.map λx=>.bl (cL x),C):=by
 have:=Hy (te:=aT F 7e1) (f:=λx=>.bl (cL x)) xs ρ [] C (λx hx=>by
  have h0:(ρ.set 0 (some (SV.v x)))[0]? = some #[x]:=by rw[Xc 1e4]
  simp[aT,aW,ab,ae,au,Pu.ret,h0,hF x hx])
 rw[this,Xg]
theorem zR(xs:List PV):∀ys:List PV,(Xl (λa b=>PV.tup [a,b]) xs ys).map (λp=>match p with|.tup [a,b]=>PV.bl (lT a b)|_=>.aP)=(Xl (λa b=>lT a b) xs ys).map PV.bl:=by
 induction xs with
 |nil=>intro ys;simp
 |cons x xs ih=>intro ys;cases ys with
  |nil=>simp
  |cons y ys=>simp[ih ys]
theorem zQ{xs ys:List PV}{p:PV}(h:p∈Xl (λa b=>PV.tup [a,b]) xs ys):∃a∈xs,∃b∈ys,p=.tup [a,b]:=by
 induction xs generalizing ys with
 |nil=>simp at h
 |cons x xs ih=>cases ys with
  |nil=>simp at h
  |cons y ys=>
   rw[List.zipWith_cons_cons]at h;rcases Yd.mp h with rfl|h
   ·show⟨x,.head _,y,.head _,rfl⟩
   ·obtain⟨a,ha,b,hb,e⟩:=ih h
    show⟨a,.tail _ ha,b,.tail _ hb,e⟩
theorem Du(t:NT):dat (nm t)=true:=by simp[nm,dat,df]
theorem M8(t:NT):dep (nm t)=1:=by simp[nm,dep,cq]
theorem GA(t u:NT):qK (nm t) (nm u)=some (.bl (lT (nm t) (nm u))):=by
 ext qK;rw[Du,Du,M8,L6];rfl
theorem JC(xs:List PV):(Xl (λa b=>PV.tup [a,b]) xs (xs.drop 1)).length<=xs.length:=by rw[List.length_zipWith];lia
theorem zj(ts:List NT)(C:Cs)(a b:9e2):br (cn (aF 6e4 (aF (hName 1) cp)) 2) dD (ak (g2 qK) 1e7 4e0) (Xl (λa b=>PV.tup [a,b]) (ts.map nm) ((ts.map nm).drop 1)) [a,b] [] C=some ((Xl (λa b=>lT a b) (ts.map nm) ((ts.map nm).drop 1)).map PV.bl,C):=by
 have:=rT (g:=cn (aF 6e4 (aF (hName 1) cp)) 2) (te:=ak (g2 qK) 1e7 4e0) (f:=λp=>match p with|.tup [a,b]=>PV.bl (lT a b)|_=>.aP) (C:=C) (λρ=>ρ.length=2) (Xl (λa b=>PV.tup [a,b]) (ts.map nm) ((ts.map nm).drop 1)) (λp hp ρ hρ=>by
  obtain⟨x,hx,y,hy,rfl⟩:=zQ hp;obtain⟨t,_,rfl⟩:=Yr.mp hx;obtain⟨u,_,rfl⟩:=Yr.mp (XW hy)
  match ρ,hρ with
  |[r1,r2],_=>
   show⟨[#[nm t],#[nm u]],by simp[cn,aF,hName,cp],rfl,?_⟩;simp[ak,aW,au,cK,g2,aQ,GA]) [a,b] [] rfl
 rw[this,Xg,zR]
theorem Vba(a b c d:Str):cf (λp q=>!aI p q) (.tup [.str a,.str b]) (.tup [.str c,.str d])=some (.bl (!aI (.tup [.str a,.str b]) (.tup [.str c,.str d]))):=by
 ext cf;simp[dat,df,dep,cq]
theorem DB(ts:List NT)(C:Cs)(h d:Str)(z:9e2):br 6e4 dD (ak 5e2 12e8 18e4) (ts.map nm) [z,18e6,#[.str d]] [] C=some ((ts.map nm).map λx=>.bl (!tS h d x),C):=by
 have:=Hy (te:=ak 5e2 12e8 18e4) (f:=λx=>.bl (!tS h d x)) (ts.map nm) [z,18e6,#[.str d]] [] C (λx hx=>by
  obtain⟨t,_,rfl⟩:=Yr.mp hx;have e:=Vba t.1 t.2.1 h d;simp only[nm,tS];simp![Sg,e])
 rw[this,Xg]
theorem lb(f:PV->Bool)(xs:List PV):gG [.lst (xs.map λx=>.bl (f x))]=some (.bl (xs.all f)):=by
 simp[gG,Zcx,XA]
theorem xx(bs:List Bool):gG [.lst (bs.map PV.bl)]=some (.bl (bs.all id)):=by
 have:=Zcx (λb:Bool=>b) bs;simp at this;simp[gG,this]
theorem sx(g:PV)(h d:Str)(C:Cs)(hg:RW g=true):fX [.v g,.v (.str h),.v (.str d)] C=some (.v (.bl (hZ h d g)),C):=by
 cases g with
 |lst xs=>simp![fX,zz (.lst xs) 0 30 C rfl rfl,hZ]
 |aP=>simp![fX,zz .aP 0 30 C rfl rfl,hZ]
 |str z=>simp![fX,zz (.str z) 0 30 C rfl rfl,hZ]
 |int z=>simp![fX,zz (.int z) 0 30 C rfl rfl,hZ]
 |bl z=>simp![fX,zz (.bl z) 0 30 C rfl rfl,hZ]
 |b5 a b=>simp![fX,zz (.b5 a b) 0 30 C rfl rfl,hZ]
 |tup xs=>
  simp only[RW,Yg,decide_eq_true_eq]at hg;have hr:fW [.v (.tup xs),.v (.int 0),.v (.int 30)] C=some (.v (.bl (decide (xs.length<=30))),C):=by
   rw[E1];have e1:decide ((0:Int)<=xs.length)=true:=decide_eq_true 1e4;have e2:decide ((xs.length:Int)<=30)=decide (xs.length<=30):=by by_cases q:xs.length<=30<;>simp[q]<;>lia
   rw[e1,e2,Bool.true_and]
  have hl:xs.length<=100000:=by lia
  by_cases h30:xs.length<=30
  ·have hc:=uZ (fr:=[]) cJ xs C (λx hx=>ZcF x C (YB.mp hg.2 x hx)) [none] 4e4
   cases hn:xs.all cL
   ·unfold fX EF
    generalize hte:aT cJ 7e1=te at hc⊢;have ha:=lb cL xs;simp![hr,h30,aO,aE,bz,b7,hl,hc,ha,hn,hZ]
   ·obtain⟨ts,rfl,hw⟩:=BW hn
    have c2:=zj ts C none none;have c3:=DB ts C h d none;have z1:=lb cL (ts.map nm);have z2:=xx (Xl (λa b=>lT a b) (ts.map nm) ((ts.map nm).drop 1));have z3:=lb (λx=>!tS h d x) (ts.map nm);rw[zO]at z2;have hzl:=JC (ts.map nm);have Rb:(Xl (λa b=>PV.tup [a,b]) (ts.map nm) ((ts.map nm).drop 1)).length<=100000:=by lia
    have hz:Fm [.v (.tup (ts.map nm)),.v (.tup (cu (ts.map nm) (some 1) none))]=some (Xl (λa b=>PV.tup [a,b]) (ts.map nm) ((ts.map nm).drop 1)):=by rw[rR];rfl
    generalize ZQ:Xl (λa b=>PV.tup [a,b]) (ts.map nm) ((ts.map nm).drop 1)=zs at *;generalize hws:(Xl (λa b=>lT a b) (ts.map nm) ((ts.map nm).drop 1)).map PV.bl=ws at *;unfold fX EF;generalize hte:aT cJ 7e1=te at hc⊢;generalize Vbu:ak (g2 qK) 1e7 4e0=te2 at c2⊢;generalize Vbt:ak 5e2 12e8 18e4=te3 at c3⊢;generalize hxs:ts.map nm=xs at *;cases hb:nb xs
    ·rw[hb]at z2
     simp![hr,h30,aO,aE,bz,b7,hl,hc,z1,hn,hZ,Gx,hz,Rb,c2,z2,hb]
    ·rw[hb]at z2
     simp![hr,h30,aO,aE,bz,b7,hl,hc,z1,hn,hZ,Gx,hz,Rb,c2,z2,hb,c3,z3]
  ·simp![fX,hr,h30,hZ]
 |_=>cases hg
section
variable{d f1 f2 f3 f4 f5:Addr}
def RV(h dl g:PV):Bool:=match h,dl with
 |.str a,.str b=>hZ a b g
 |_,_=>false
def bx:PV->Bool
 |.tup [h,dl,n,p,g,t,e]=>cE h&&cE dl&&gF n 1&&gF p 0&&RV h dl g&&gF t 0&&c9 e
 |_=>false
def ok7:List PV->Bool
 |[h,dl,n,p,g,t,e]=>KL h&&KL dl&&KL n&&KL p&&RW g&&KL t&&Qp e
 |_=>true
def okL:PV->Bool
 |.tup xs=>ok7 xs
 |x=>jZ x
theorem Dx(a b c d e f g:PV):cu [a,b,c,d,e,f,g] none (some 3)=[a,b,c]:=by rfl
theorem pS{x:PV}(h:cE x=true):∃s,x=.str s:=by cases x<;>first|show 6e5|cases h
theorem oD(D:10e7)(h dl n p g t e:PV)(C:Cs)(ok:ok7 [h,dl,n,p,g,t,e]=true):dC d f1 f2 f3 f4 f5 [.v (.tup [h,dl,n,p,g,t,e])] C=some (.v (.bl (bx (.tup [h,dl,n,p,g,t,e]))),C):=by
 simp only[ok7,Yg]at ok;obtain⟨⟨⟨⟨⟨⟨o1,o2⟩,o3⟩,o4⟩,o5⟩,o6⟩,o7⟩:=ok;have e1:=E1 [h,dl,n,p,g,t,e] 7 7 C;have e2:=Ig h dl n C (I9 o1) (I9 o2) (I9 o3);have e4:=Tu p 0 C (I9 o4);have e6:=Tu t 0 C (I9 o6);have e7:=ug (d:=d) D e C o7;cases hw:(cE h&&cE dl&&gF n 1)
 ·rw[hw]at e2
  simp![dC,e1,Dx,e2,bx,hw]
 ·rw[hw]at e2
  have hw':=hw;simp only[Yg]at hw';obtain⟨a,rfl⟩:=pS hw'.1.1;obtain⟨b,rfl⟩:=pS hw'.1.2;have e5:=sx g a b C o5;have hg:RV (.str a) (.str b) g=hZ a b g:=rfl;cases h4:gF p 0
  ·rw[h4]at e4
   simp![dC,e1,Dx,e2,dc,cn,aF,cp,hName,e4,bx,h4]
  ·rw[h4]at e4
   cases h5:hZ a b g
   ·rw[h5]at e5
    simp![dC,e1,Dx,e2,dc,cn,aF,cp,hName,e4,e5,bx,hg,h5]
   ·rw[h5]at e5
    cases h6:gF t 0
    ·rw[h6]at e6
     simp![dC,e1,Dx,e2,dc,cn,aF,cp,hName,e4,e5,e6,bx,h6]
    ·rw[h6]at e6
     simp![dC,e1,Dx,e2,dc,cn,aF,cp,hName,e4,e5,e6,e7,bx,hw,h4,hg,h5,h6]
theorem ZcC(xs:List PV)(C:Cs)(h:xs.length≠7):dC d f1 f2 f3 f4 f5 [.v (.tup xs)] C=some (.v 8e1,C)/\bx (.tup xs)=false:=by
 have e1:=E1 xs 7 7 C;have hb:(decide ((7:Int)<=xs.length)&&decide ((xs.length:Int)<=7))=false:=by
  by_cases q:(7:Int)<=xs.length
  ·have:¬((xs.length:Int)<=7):=by lia
   simp[this]
  ·simp[q]
 rw[hb]at e1;have h7:¬((xs.length:Int)=7):=by lia
 show⟨by simp![dC,e1],?_⟩
 match xs,h with
 |[],_=>rfl
 |[_],_=>rfl
 |[_,_],_=>rfl
 |[_,_,_],_=>rfl
 |[_,_,_,_],_=>rfl
 |[_,_,_,_,_],_=>rfl
 |[_,_,_,_,_,_],_=>rfl
 |[_,_,_,_,_,_,_],h=>show absurd rfl h
 |_::_::_::_::_::_::_::_::_,_=>rfl
end
noncomputable def EZ:Str:="abcdefghijklmnopqrstuvwxyz"
def NR(d:Int):Nat:=EZ.cps.toList.getD d.toNat 0
noncomputable def Zz (d:Int):Str:=(["","zq","x","qqzzx"]:List Str).getD d.toNat ""
theorem NU:∀i j:Fin 26,EZ.cps.toList.getD i.1 0=EZ.cps.toList.getD j.1 0->i=j:=by decide +kernel
theorem Ht{a b:Int}(ha:0<=a/\a<26)(hb:0<=b/\b<26)(h:NR a=NR b):a=b:=by
 have:=NU ⟨a.toNat,by lia⟩ ⟨b.toNat,by lia⟩ h;have h2:a.toNat=b.toNat:=by simpa using this
 lia
theorem Mt(d:Int)(h:0<=d/\d<26):bO 18e7 (.int d)=some (.str ⟨[NR d].toArray⟩):=by
 have hl:EZ.cps.toList.length=26:=by rfl
 have hd:d.toNat<EZ.cps.toList.length:=by lia
 have h3:d<((EZ.cps.toList.length:Nat):Int):=by lia
 change(cM EZ.cps.toList d).map _=_;unfold cM cV;rw[if_pos h.1,if_pos h3];change((EZ.cps.toList[d.toNat]?).map _)=_;ext NR;rw[Yc hd,YZ,Yc hd];rfl
def wd(f s:Int)(j:Nat):Str:=(⟨[NR ((f+s*j)%26)].toArray⟩:Str)++Zz ((f+j*j)%4)
theorem vG(d:Int)(h:0<=d/\d<4):(Zz d).length<=5:=by
 have:d=0\/d=1\/d=2\/d=3:=by lia
 rcases this with rfl|rfl|rfl|rfl<;>decide +kernel
theorem Mr(d:Int)(h:0<=d/\d<4):bO (.lst [.str "",.str "zq",.str "x",.str "qqzzx"]) (.int d)=some (.str (Zz d)):=by
 have:d=0\/d=1\/d=2\/d=3:=by lia
 rcases this with rfl|rfl|rfl|rfl<;>simp[bO,dA,cM,cV,Zz]
theorem xw(a b:Str):(a++b).cps=a.cps++b.cps:=rfl
theorem Hu(a b:Str):(a++b).length=a.length+b.length:=by
 change(a.cps++b.cps).size=a.cps.size+b.cps.size;simp
theorem JF(f s:Int)(j:Nat):(wd f s j).length<=10:=by
 ext wd;rw[Hu];have:=vG ((f+j*j)%4) ⟨Y3 _ 1e2,YX _ 1e2⟩;change 1+_<=10;lia
def stepOk(s:Int):Prop:=s=1\/s=3\/s=5\/s=7\/s=9\/s=11
theorem JG{f s:Int}(hs:stepOk s){i j:Nat}(hi:i<16)(hj:j<16)(h:wd f s i=wd f s j):i=j:=by
 have h0:(wd f s i).cps[0]? = (wd f s j).cps[0]?:=by rw[h]
 ext wd h0;rw[xw,xw]at h0;have h1:NR ((f+s*i)%26)=NR ((f+s*j)%26):=by
  rw[VN 4e4,VN 4e4]at h0;simpa using h0
 have h2:=Ht ⟨Y3 _ 1e2,YX _ 1e2⟩ ⟨Y3 _ 1e2,YX _ 1e2⟩ h1;rcases hs with rfl|rfl|rfl|rfl|rfl|rfl<;>lia
theorem JE:∀i:Fin 26,∀j:Fin 4,b6 ((⟨[EZ.cps.toList.getD i.1 0].toArray⟩:Str)++(["","zq","x","qqzzx"]:List Str).getD j.1 "")=true/\((⟨[EZ.cps.toList.getD i.1 0].toArray⟩:Str)++(["","zq","x","qqzzx"]:List Str).getD j.1 "")≠"bell":=by decide +kernel
theorem Fs(f s:Int)(j:Nat):b6 (wd f s j)=true/\wd f s j≠"bell":=by
 have h1:0<=(f+s*j)%26:=Y3 _ 1e2;have h2:(f+s*j)%26<26:=YX _ 1e2;have h3:0<=(f+j*j)%4:=Y3 _ 1e2;have h4:(f+j*j)%4<4:=YX _ 1e2;show JE ⟨((f+s*j)%26).toNat,by lia⟩ ⟨((f+j*j)%4).toNat,by lia⟩
def gw(w:Str):Prop:=w.length<=10/\b6 w=true/\w≠"bell"
abbrev Oq:aG->M SV:=ak 5e4 (ak 3e7 4e0 (ak (g2 fQ) (ak 5e4 9e0 (ak (g2 dE) 9e6 1e7)) (mC (.int 26)))) (ak 3e7 (aJ (aZ (ab (mC (.str "")) (ab (mC (.str "zq")) (ab (mC (.str "x")) (ab (mC (.str "qqzzx")) ae)))))) (ak (g2 fQ) (ak 5e4 9e0 (ak (g2 dE) 1e7 1e7)) (mC (.int 4))))
theorem Fq(f s j:Int)(az c z:Str)(h1:bO (.str az) (.int ((f+s*j)%26))=some (.str c))(h2:bO (.lst [.str "",.str "zq",.str "x",.str "qqzzx"]) (.int ((f+j*j)%4))=some (.str z))(hl:c.length+z.length<=1000000)(hs:-18446744073709551616<s/\s<18446744073709551616)(hj:-18446744073709551616<j/\j<18446744073709551616)(C:Cs):
  Oq [#[.int j],#[.str az],#[.int f],#[.int s]] C=some (.v (.str (c++z)),C):=by
 simp![b9,hs,hj,h1,h2,hl]
theorem Gh(c:Nat):(⟨[c].toArray⟩:Str).length=1:=rfl
theorem JD(f s:Int)(j:Nat)(hf:0<=f/\f<26)(hs:stepOk s)(hj:j<16)(C:Cs):Oq [#[(.int (0+(j:Int)))],#[.str "abcdefghijklmnopqrstuvwxyz"],#[.int f],#[.int s]] C=some (.v (.str (wd f s j)),C):=by
 rw[Int.zero_add];ext wd;show Fq f s (j:Int) _ _ _ (Mt _ ⟨Y3 _ 1e2,YX _ 1e2⟩) (Mr _ ⟨Y3 _ 1e2,YX _ 1e2⟩) ?_ ?_ ?_ C
 ·have h3:=vG ((f+j*j)%4) ⟨Y3 _ 1e2,YX _ 1e2⟩
  rw[Gh];lia
 ·ext stepOk hs;lia
 ·lia
theorem xJ(k:Nat)(C:Cs)(h:GS C k):∃(ws:6e2)(C':Cs),lE [.c k,.v (.int 16)] C=some (.v (.lst (ws.map .str)),C')/\ws.length=16/\ws.Nodup/\(∀w∈ws,gw w)/\dS k C C':=by
 obtain⟨d,C1,e1,d1,d2,a1⟩:=dI k 26 C h 1e2;obtain⟨s,C2,e2,s1,s2,a2⟩:=dI k 6 C1 a1.gs 1e2;have a:=a1.trans a2;obtain⟨st,ep,yQ⟩:∃st,bO (.lst [.int 1,.int 3,.int 5,.int 7,.int 9,.int 11]) (.int s)=some (.int st)/\stepOk st:=by
  have:s=0\/s=1\/s=2\/s=3\/s=4\/s=5:=by lia
  rcases this with rfl|rfl|rfl|rfl|rfl|rfl
  ·show⟨1,rfl,.inl rfl⟩
  ·show⟨3,rfl,.inr 18e0⟩
  ·show⟨5,rfl,.inr (.inr 18e0)⟩
  ·show⟨7,rfl,.inr (.inr (.inr 18e0))⟩
  ·show⟨9,rfl,.inr (.inr (.inr (.inr 18e0)))⟩
  ·show⟨11,rfl,.inr (.inr (.inr (.inr (.inr rfl))))⟩
 have hF:lE=bZ 2 3 (ag (aw 2 (mC 18e7)) (ag (aw 3 (aT aB (ab 1e7 (ab (mC (.int 26)) ae)))) (ag (aw 4 (ak 3e7 (aJ (aZ (ab 1e8 (ab 7e4 (ab 13e2 (ab (mC (.int 7)) (ab (mC (.int 9)) (ab (mC (.int 11)) ae)))))))) (aT aB (ab 1e7 (ab (mC (.int 6)) ae))))) (qI (aO (aK (ab 4e0 ae)) ["_law_k"] [2,3,4] 6e4 dD Oq))))):=rfl;rw[hF];have ec:=Hy (te:=Oq) (f:=λp=>match p with|.int i=>.str (wd d st i.toNat)|_=>.aP) ((Yk 16).map λ(j:Nat)=>PV.int (0+j)) [none,#[.str "abcdefghijklmnopqrstuvwxyz"],#[.int d],#[.int st]] [] C2 (λx hx=>by
  obtain⟨j,hj,rfl⟩:=Yr.mp hx;have:=JD d st j ⟨d1,d2⟩ yQ (Xh.mp hj) C2;change Oq [#[(.int (0+(j:Int)))],_,_,_] C2=some (.v (.str (wd d st (0+(j:Int)).toNat)),C2);rw[show(0+(j:Int)).toNat=j by lia];show this)
 rw[Xg,Y0]at ec;have em:(Yk 16).map ((λp=>match p with|.int i=>.str (wd d st i.toNat)|_=>.aP)∘λ(j:Nat)=>PV.int (0+(j:Int)))=((Yk 16).map (wd d st)).map PV.str:=by
  rw[Y0];apply VI;intro j hj;change PV.str (wd d st (0+(j:Int)).toNat)=_;rw[show(0+(j:Int)).toNat=j by lia];rfl
 rw[em]at ec;show⟨(Yk 16).map (wd d st),C2,?_,by simp,?_,?_,a⟩
 ·have hr:cG [.v (.int 16)]=some ((Yk 16).map λ(j:Nat)=>PV.int (0+j)):=rfl
  have hl9:((Yk 16).map λ(j:Nat)=>PV.int (0+j)).length<=100000:=by decide
  generalize((Yk 16).map λ(j:Nat)=>PV.int (0+j))=rs at ec hr hl9;generalize((Yk 16).map (wd d st)).map PV.str=zs at ec;generalize("abcdefghijklmnopqrstuvwxyz":Str)=az at ec⊢;generalize Oq=te at ec;simp![e1,e2,ep,aO,aK,hr,hl9,b7,ec,a.take]
 ·rw[YT,XC]
  show List.Pairwise.imp_of_mem (λ{x y} hx hy eT e=>?_) (YT.mp List.nodup_range);show eT (JG yQ (Xh.mp hx) (Xh.mp hy) e)
 ·intro w hw
  obtain⟨j,_,rfl⟩:=Yr.mp hw;show⟨JF _ _ _,Fs _ _ _⟩
noncomputable def dU (zs:List Int):PV:=.lst (zs.map .int)
structure fA(zs:List Int):Prop where
 ne:0<zs.length
 le:zs.length<=12
 rg:∀z∈zs,1<=z/\z<=9
def jV(ks:14e6):Prop:=(∃i,ks=[.inr "joined",.inl i])\/(∃i w,gw w/\ks=[.inr "said",.inl i,.inr w])\/∃a b c,ks=[.inr "did",.inl a,.inl b,.inl c]
theorem GL{zs:List Int}(h:fA zs)(d:Int)(h1:0<=d)(h2:d<zs.length):∃z,bO (dU zs) (.int d)=some (.int z)/\1<=z/\z<=9:=by
 have hd:d.toNat<zs.length:=by lia
 show⟨zs[d.toNat],?_,h.rg _ (YO hd)⟩;simp[dU,bO,dA,cM,cV,h1,h2,Yc hd]
theorem Mp{os:List (List Int)}(h:∀z∈os,fA z)(d:Int)(h1:0<=d)(h2:d<os.length):∃z,bO (.lst (os.map dU)) (.int d)=some (dU z)/\fA z:=by
 have hd:d.toNat<os.length:=by lia
 show⟨os[d.toNat],?_,h _ (YO hd)⟩;simp[bO,dA,cM,cV,h1,h2,Yc hd]
theorem oI(ws:6e2)(d:Int)(h1:0<=d)(h2:d<ws.length):∃w∈ws,bO (.lst (ws.map .str)) (.int d)=some (.str w):=by
 have hd:d.toNat<ws.length:=by lia
 show⟨ws[d.toNat],YO hd,?_⟩;simp[bO,dA,cM,cV,h1,h2,Yc hd]
theorem yX(k:Nat)(H:Int)(os:List (List Int))(zs:List Int)(ws:6e2)(own:Int)(C:Cs)(g:GS C k)(hH:2<=H/\H<=8)(ho:∀z∈os,fA z)(rh:os.length<=100)(hz:fA zs)(hw:4<=ws.length/\∀w∈ws,gw w):
  ∃ks C',gZ [.c k,.v (.tup [.int H,.lst (os.map dU),dU zs]),.v (.lst (ws.map .str)),.v (.int own)] C=some (.v (tupK ks),C')/\jV ks/\dS k C C':=by
 obtain⟨w,C1,e1,w1,w2,a1⟩:=dI k 6 C g 1e2;by_cases h2:w<2
 ·obtain⟨i,C2,e2,i1,i2,a2⟩:=dI k H C1 a1.gs 1e4
  have a:=a1.trans a2;show⟨[.inr "joined",.inl i],C2,?_,.inl ⟨i,rfl⟩,a⟩;generalize os.map dU=OS;generalize dU zs=ZS;generalize ws.map PV.str=WS;simp![gZ,dc,cn,aF,hName,cp,e1,fw,h2,e2,a.take,tupK,kP]
 ·by_cases h4:w<4
  ·obtain⟨i,C2,e2,i1,i2,a2⟩:=dI k H C1 a1.gs 1e4
   obtain⟨j,C3,e3,j1,j2,a3⟩:=dI k 4 C2 a2.gs 1e2;have a:=(a1.trans a2).trans a3;obtain⟨v,hv,ev⟩:=oI ws j j1 (by have:=hw.1;lia);have ev':GN (.lst (ws.map .str)) (.int j)=some (.str v):=ev;show⟨[.inr "said",.inl i,.inr v],C3,?_,.inr (.inl ⟨i,v,hw.2 v hv,rfl⟩),a⟩;generalize os.map dU=OS;generalize dU zs=ZS;generalize ws.map PV.str=WS at *;simp![gZ,dc,cn,aF,hName,cp,e1,fw,h2,h4,e2,e3,ev',ev,a.take,tupK,kP]
  ·obtain⟨i,C2,e2,i1,i2,a2⟩:=dI k ((os.length:Int)+1) C1 a1.gs 1e4
   obtain⟨z,ez,hzz⟩:∃z,bO (.lst (dU zs::os.map dU)) (.int i)=some (dU z)/\fA z:=by
    have:=Mp (os:=zs::os) (λy hy=>by
     rcases Yd.mp hy with rfl|hy
     ·show hz
     ·show ho y hy) i i1 (by simp;lia)
    simpa using this
   have eT:=hzz.ne;have hle:=hzz.le;obtain⟨c,C3,e3,c1,c2,a3⟩:=dI k (z.length:Int) C2 a2.gs 1e4;obtain⟨y,ey,y1,y2⟩:=GL hzz c c1 c2;have hlz:cH [dU z]=some (.int (z.length:Int)):=by simp[dU,cH]
   have ZZ:1+(os.map dU).length<=1000000:=by simp;lia
   have Vbx:b9 (.lst [dU zs]) (.lst (os.map dU))=some (.lst (dU zs::os.map dU)):=by
    ext b9;simp;lia
   have MH:cH [.lst (os.map dU)]=some (.int (os.length:Int)):=by simp[cH]
   by_cases hj:i=0/\c=own
   ·obtain⟨b,C4,e4,b1,b2,a4⟩:=dI k H C3 a3.gs 1e4
    have a:=((a1.trans a2).trans a3).trans a4;show⟨[.inr "joined",.inl b],C4,?_,.inl ⟨b,rfl⟩,a⟩;have at':=a.take;obtain⟨rfl,rfl⟩:=hj;generalize os.map dU=OS at *;generalize dU zs=ZS at *;generalize dU z=SZ at *;generalize ws.map PV.str=WS;simp[gZ,bZ,aX,bt,ak,aC,dZ,aV,ag,aH,aw,bf,aZ,aJ,aT,aW,cK,ab,ae,au,mC,Pu.ret,g1,g2,bu,aQ,mB,sT,dP,fin,Pu.plain,jR,xW,dc,cn,aF,hName,cp,e1,fw,h2,h4,MH,ZZ,b9,e2,ez,hlz,e3,e4,at',tupK,kP]
   ·obtain⟨b,C4,e4,b1,b2,a4⟩:=dI k y C3 a3.gs 1e4
    have a:=((a1.trans a2).trans a3).trans a4;show⟨[.inr "did",.inl i,.inl c,.inl b],C4,?_,.inr (.inr ⟨i,c,b,rfl⟩),a⟩;have at':=a.take;generalize os.map dU=OS at *;generalize dU zs=ZS at *;generalize dU z=SZ at *;generalize ws.map PV.str=WS;by_cases hi0:i=0
    ·have hc:¬c=own:=λq=>hj ⟨hi0,q⟩
     subst hi0;simp[gZ,bZ,aX,bt,ak,aC,dZ,aV,ag,aH,aw,bf,aZ,aJ,aT,aW,cK,ab,ae,au,mC,Pu.ret,g1,g2,bu,aQ,mB,sT,dP,fin,Pu.plain,jR,xW,dc,cn,aF,hName,cp,e1,fw,h2,h4,MH,ZZ,b9,e2,ez,hlz,e3,hc,ey,e4,at',tupK,kP]
    ·simp[gZ,bZ,aX,bt,ak,aC,dZ,aV,ag,aH,aw,bf,aZ,aJ,aT,aW,cK,ab,ae,au,mC,Pu.ret,g1,g2,bu,aQ,mB,sT,dP,fin,Pu.plain,jR,xW,dc,cn,aF,hName,cp,e1,fw,h2,h4,MH,ZZ,b9,e2,ez,hlz,e3,hi0,ey,e4,at',tupK,kP]
theorem cz{f g:14e3}{ρ ρ1:aG}{C C1:Cs}(h:f ρ C=some (.nx ρ1,C1)):ag f g ρ C=g ρ1 C1:=by
 unfold ag aW;rw[h]
theorem Pk{g:5e3}{f:14e3}(Pi:Nat->aG->Cs->Prop)(N:Nat):∀(xs:List PV)(i:Nat),i+xs.length<=N->(∀x∈xs,∀i ρ C,i<N->Pi i ρ C->∃ρ1 ρ2 C2,g x ρ=some ρ1/\f ρ1 C=some (.nx ρ2,C2)/\Pi (i+1) ρ2 C2)->∀ρ C,Pi i ρ C->∃ρ' C',loop g f xs ρ C=some (.nx ρ',C')/\Pi (i+xs.length) ρ' C'
 |[],i,_,_,ρ,C,h=>⟨ρ,C,rfl,h⟩
 |x::xs,i,hN,hs,ρ,C,h=>by
  simp only[YD]at hN;obtain⟨ρ1,ρ2,C2,e1,e2,h2⟩:=hs x 4e4 i ρ C 1e4 h;obtain⟨ρ',C',e3,h3⟩:=Pk Pi N xs (i+1) 1e4 (λy hy=>hs y (by simp[hy])) ρ2 C2 h2;show⟨ρ',C',?_,by simpa[Nat.add_assoc,Nat.add_comm 1]using h3⟩;ext loop;simp only[e1,aW,e2,e3]
structure Cl where
 a:Int
 b:Int
 p:Int
 w:Int
 cs:List (List Key)
 lv:Option (List Key×Int)
def lQ:Option (List Key×Int)->PV
 |none=>.tup []
 |some (e,n)=>.tup [tupK e,.int n]
def Cl.P(c:Cl):PV:=.tup [.int c.a,.int c.b,.int c.p,.int c.w,.tup (c.cs.map tupK),lQ c.lv]
structure sO(c:Cl):Prop where
 p:1<=c.p/\c.p<=9
 cs:∀e∈c.cs,jV e
 le:c.cs.length<=8
 lv:∀e n,c.lv=some (e,n)->jV e
abbrev EW:aG->M SV:=aT gZ (ab 1e7 (ab (bf (ab 4e0 (ab 9e6 5e7))) (ab 16e1 (ab 14e7 ae))))
abbrev M6:aG->M PF:=ag (aw 12 EW) (aV 10e0 (dj (eM 18e5 (ab (au 12) ae))) aH)
section
variable(k m n:Nat)(H:Int)(os:List (List Int))(zs:List Int)(ws:6e2)
abbrev gx:aG:=[4e8,#[.int H],#[dU zs],#[.lst (os.map dU)],4e2,some (.c m)]
theorem xa(c:Int)(x7 x8 x9 ib cW cU cT d7:9e2)(C:Cs)(g:GS C k)(hH:2<=H/\H<=8)(ho:∀z∈os,fA z)(rh:os.length<=100)(hz:fA zs)(hw:4<=ws.length/\∀w∈ws,gw w):
  ∃e C',EW (gx k m H os zs ws++[13e5,x7,x8,x9,ib,cW,cU,cT,d7]) C=some (.v (tupK e),C')/\jV e/\dS k C C':=by
 obtain⟨e,C',h,he,a⟩:=yX k H os zs ws c C g hH ho rh hz hw;show⟨e,C',?_,he,a⟩;simp![EW];show h
theorem qC(e:14e6)(es:10e8):∃b,oN true (tupK e) (.lst (es.map tupK))=some (.bl b):=by
 have h1:df (es.map tupK)=true:=E2 IU _;have h2:cq (es.map tupK)<=50:=YI (E3 N4 _) 1e2;show⟨!(es.map tupK).any (λp=>aI p (tupK e)),?_⟩;ext oN;dsimp only;rw[h1,IU,decide_eq_true h2];rfl
theorem M5(c:Int)(x7 x8 x9 cW cU cT d7:9e2)(C:Cs)(es:10e8)(g:GS C k)(uv:k≠n)(hC:C[n]? = some (.lst (es.map tupK)))(Iy:∀e∈es,jV e)(hl:es.length<=1000)(hH:2<=H/\H<=8)(ho:∀z∈os,fA z)(rh:os.length<=100)(hz:fA zs)(hw:4<=ws.length/\∀w∈ws,gw w):
  ∃(pO:9e2)(C':Cs)(Hf:10e8),M6 (gx k m H os zs ws++[13e5,x7,x8,x9,some (.c n),cW,cU,cT,d7]) C=some (.nx (gx k m H os zs ws++[13e5,x7,x8,x9,some (.c n),cW,pO,cT,d7]),C')/\GS C' k/\C'[n]? = some (.lst (Hf.map tupK))/\(∀e∈Hf,jV e)/\Hf.length<=es.length+1/\C'.length=C.length/\∀j,j≠k->j≠n->C'[j]? = C[j]?:=by
 obtain⟨e,C1,h1,he,a⟩:=xa k m H os zs ws c x7 x8 x9 (some (.c n)) cW cU cT d7 C g hH ho rh hz hw;have OR:C1[n]? = some (.lst (es.map tupK)):=by rw[a.jz n (Xp uv)];show hC
 obtain⟨b,hb⟩:=qC e es;have gE:aw 12 EW (gx k m H os zs ws++[13e5,x7,x8,x9,some (.c n),cW,cU,cT,d7]) C=some (.nx (gx k m H os zs ws++[13e5,x7,x8,x9,some (.c n),cW,#[tupK e],cT,d7]),C1):=by
  unfold aw aW;rw[h1];rfl
 have zF:(es.map tupK).length<100000:=by simp;lia
 cases b with
 |false=>
  show⟨#[tupK e],C1,es,?_,a.gs,OR,Iy,by lia,a.len,λj h _=>a.jz j h⟩;rw[show M6=ag (aw 12 EW) (aV 10e0 (dj (eM 18e5 (ab (au 12) ae))) aH)from rfl,cz gE];generalize tupK e=E at *;generalize es.map tupK=ES at *;simp![OR,hb]
 |true=>
  have VaW:(es++[e]).map tupK=es.map tupK++[tupK e]:=by simp
  show⟨#[tupK e],C1.set n (.lst ((es++[e]).map tupK)),es++[e],?_,?_,setAt OR,?_,by simp,by simp[a.len],λj h h'=>?_⟩
  ·rw[show M6=ag (aw 12 EW) (aV 10e0 (dj (eM 18e5 (ab (au 12) ae))) aH)from rfl,cz gE,VaW]
   generalize tupK e=E at *;generalize es.map tupK=ES at *;simp![OR,hb,eM,iV,pw,zF]
  ·obtain⟨x,y,h,r⟩:=a.gs
   show⟨x,y,by rw[YA (Xp uv)];show h,r⟩
  ·intro z Rc
   rcases Yy.mp Rc with Rc|Rc
   ·show Iy z Rc
   ·rw[Yj.mp Rc];show he
  ·rw[YA (Xp h')];show a.jz j h
end
abbrev Sj:aG->M SV:=ak (g2 fQ) (ak 5e4 (ak 5e4 (au 8) 1e8) (aT aB (ab 1e7 (ab (ak (g2 fY) 4e0 1e8) ae)))) 4e0
abbrev Kx:aG->M SV:=ak 3e7 (aJ (aZ (ab 2e3 (ab 1e8 (ab 2e3 (ab 2e9 (ab 1e8 (ab 2e3 (ab 7e4 4e9))))))))) (aT aB (ab 1e7 4e9))
abbrev OB:aG->M PF:=aV (aC (ak 12e6 10e5 2e3)) (ag (aw 12 EW) (aV 10e0 (aw 13 (bf (ab (au 12) (ab (ak 5e4 1e8 19e4) ae)))) aH)) aH
abbrev Pq:aG->M SV:=ak 3e7 (aJ (aZ (ab (ak 5e4 1e8 (aT aB (ab 1e7 (ab (mC (.int 6)) ae)))) (ab (ak 5e4 1e8 (aT aB (ab 1e7 (ab (mC (.int 40)) ae)))) ae)))) 10e5
abbrev clT:aG->M SV:=bf (ab (au 8) (ab (au 9) (ab (au 7) (ab (au 14) (ab (bt (g1 eY) (ab 18e5 ae)) (ab (au 13) ae))))))
abbrev Sk:aG->M PF:=ag (aw 8 (aT aB (ab 1e7 (ab 4e0 ae)))) (ag (aw 9 Sj) (ag (ck 10 (aZ ae)) (ag (cx (aK (ab Kx ae)) (hName 11) M6) (ag (aw 13 15e0) (ag OB (ag (aw 14 Pq) (dj (eM 11e5 (ab clT ae)))))))))
theorem u4:JA=ag (ck 5 (aZ ae)) (ag (cx (mJ 5e7) (cn (aF (hName 6) (aF (hName 7) cp)) 2) Sk) (aX (bt (g1 eY) 17e8))):=rfl
section
variable(k m:Nat)(H:Int)(os:List (List Int))(zs:List Int)(ws:6e2)
theorem Hn(d:Int)(x6 x7 x9 ib cW cU cT d7:9e2)(C:Cs)(g:GS C k)(hH:2<=H/\H<=8):
  ∃v C',Sj (gx k m H os zs ws++[x6,x7,#[.int d],x9,ib,cW,cU,cT,d7]) C=some (.v (.int v),C')/\dS k C C':=by
 obtain⟨y,C',e,y1,y2,a⟩:=dI k (H-1) C g 1e4;show⟨(d+1+y)%H,C',?_,a⟩;have h1:0<H:=by lia
 have h2:H<1073741824:=by lia
 simp![Sj,b9,fY,e,fQ,h1,h2]
theorem FK(x6 x7 x8 x9 ib cW cU cT d7:9e2)(C:Cs)(g:GS C k):
  ∃v C',Kx (gx k m H os zs ws++[x6,x7,x8,x9,ib,cW,cU,cT,d7]) C=some (.v (.int v),C')/\0<=v/\v<=8/\dS k C C':=by
 obtain⟨y,C',e,y1,y2,a⟩:=dI k 8 C g 1e2;obtain⟨v,hv,h0,h8⟩:∃v,bO (.lst [.int 0,.int 1,.int 0,.int 2,.int 1,.int 0,.int 3,.int 8]) (.int y)=some (.int v)/\0<=v/\v<=8:=by
  obtain⟨p,ep,hp⟩:=Cy (okk:=λp=>match p with|.int i=>decide (0<=i)&&decide (i<=8)|_=>false) [.int 0,.int 1,.int 0,.int 2,.int 1,.int 0,.int 3,.int 8] (by rfl) y y1 (by simpa using y2);cases p with
  |int i=>simp only[Yg,decide_eq_true_eq]at hp;show⟨i,ep,hp⟩
  |_=>cases hp
 show⟨v,C',?_,h0,h8,a⟩;simp![Kx,e,hv]
theorem Fp(x6 x7 x8 x9 ib cW cU cT d7:9e2)(C:Cs)(g:GS C k):
  ∃v C',Pq (gx k m H os zs ws++[x6,x7,x8,x9,ib,cW,cU,cT,d7]) C=some (.v (.int v),C')/\dS k C C':=by
 obtain⟨y1,C1,e1,_,_,a1⟩:=dI k 6 C g 1e2;obtain⟨y2,C2,e2,_,_,a2⟩:=dI k 40 C1 a1.gs 1e2;obtain⟨y3,C3,e3,h1,h2,a3⟩:=dI k 2 C2 a2.gs 1e2;obtain⟨v,hv⟩:∃v,bO (.lst [.int (1+y1),.int (1+y2)]) (.int y3)=some (.int v):=by
  have:y3=0\/y3=1:=by lia
  rcases this with rfl|rfl
  ·show 6e5
  ·show 6e5
 show⟨v,C3,?_,(a1.trans a2).trans a3⟩;simp![Pq,b9,e1,e2,e3,hv]
theorem L3(n:Nat)(c:Int)(x7 x8 x9 cW cU d7:9e2)(C:Cs)(es:10e8)(g:GS C k)(uv:k≠n)(hC:C[n]? = some (.lst (es.map tupK)))(hH:2<=H/\H<=8)(ho:∀z∈os,fA z)(rh:os.length<=100)(hz:fA zs)(hw:4<=ws.length/\∀w∈ws,gw w):
  ∃(pO:9e2)(lv:Option (List Key×Int))(C':Cs),OB (gx k m H os zs ws++[13e5,x7,x8,x9,some (.c n),cW,cU,#[.tup []],d7]) C=some (.nx (gx k m H os zs ws++[13e5,x7,x8,x9,some (.c n),cW,pO,#[lQ lv],d7]),C')/\(∀e i,lv=some (e,i)->jV e)/\dS k C C':=by
 obtain⟨y,C1,e1,y1,y2,a1⟩:=dI k 2 C g 1e2;have t:cf aI (.int y) (.int 0)=some (.bl (y==0)):=by simp[cf,dat,dep,aI]
 cases hy:(y==0)with
 |false=>
  rw[hy]at t;show⟨cU,none,C1,?_,(λe i h=>(nomatch h)),a1⟩;simp![OB,e1,t,lQ]
 |true=>
  rw[hy]at t;obtain⟨e,C2,h2,he,a2⟩:=xa k m H os zs ws c x7 x8 x9 (some (.c n)) cW cU #[.tup []] d7 C1 a1.gs hH ho rh hz hw;have vi:=a1.trans a2;have ZY:C2[n]? = some (.lst (es.map tupK)):=by rw[vi.jz n (Xp uv)];show hC
  obtain⟨b,hb⟩:=qC e es;have Ov:∀f:aG->M PF,aV (aC (ak 12e6 10e5 2e3)) f aH (gx k m H os zs ws++[13e5,x7,x8,x9,some (.c n),cW,cU,#[.tup []],d7]) C=f (gx k m H os zs ws++[13e5,x7,x8,x9,some (.c n),cW,cU,#[.tup []],d7]) C1:=λf=>by
   simp![e1,t]
  have gE:aw 12 EW (gx k m H os zs ws++[13e5,x7,x8,x9,some (.c n),cW,cU,#[.tup []],d7]) C1=some (.nx (gx k m H os zs ws++[13e5,x7,x8,x9,some (.c n),cW,#[tupK e],#[.tup []],d7]),C2):=by
   unfold aw aW;rw[h2];rfl
  cases b with
  |false=>
   show⟨#[tupK e],none,C2,?_,(λe i h=>(nomatch h)),vi⟩;rw[show OB=aV (aC (ak 12e6 10e5 2e3)) (ag (aw 12 EW) (aV 10e0 (aw 13 (bf (ab (au 12) (ab (ak 5e4 1e8 19e4) ae)))) aH)) aH from rfl,Ov,cz gE];generalize tupK e=E at *;generalize es.map tupK=ES at *;simp![ZY,hb,lQ]
  |true=>
   obtain⟨z,C3,e3,_,_,a3⟩:=dI k 9 C2 vi.gs 1e2;show⟨#[tupK e],some (e,1+z),C3,?_,(λe' i h=>by cases h;show he),vi.trans a3⟩;rw[show OB=aV (aC (ak 12e6 10e5 2e3)) (ag (aw 12 EW) (aV 10e0 (aw 13 (bf (ab (au 12) (ab (ak 5e4 1e8 19e4) ae)))) aH)) aH from rfl,Ov,cz gE];rw[show lQ (some (e,1+z))=.tup [tupK e,.int (1+z)]from rfl];generalize tupK e=E at *;generalize es.map tupK=ES at *;simp![ZY,hb,e3,b9]
end
theorem GS.lt{C:Cs}{k:Nat}(g:GS C k):k<C.length:=by
 obtain⟨x,y,h,_⟩:=g;rcases YU k C.length with q|q
 ·show q
 ·rw[Yf.mpr q]at h;cases h
theorem GS.app{C:Cs}{k:Nat}(g:GS C k)(c:PV):GS (C++[c]) k:=by
 have hl:=g.lt;obtain⟨x,y,h,r⟩:=g;show⟨x,y,by rw[Yh hl];show h,r⟩
section
variable(k m:Nat)(H:Int)(os:List (List Int))(zs:List Int)(ws:6e2)
theorem Ng(c p:Int)(x8 x9 ib cW cU cT d7:9e2)(C:Cs)(cs:List Cl)(g:GS C k)(Z3:k≠m)(hC:C[m]? = some (.lst (cs.map Cl.P)))(MN:∀d∈cs,sO d)(hl:cs.length<=1000)(hp:1<=p/\p<=9)(hH:2<=H/\H<=8)(ho:∀z∈os,fA z)(rh:os.length<=100)(hz:fA zs)(hw:4<=ws.length/\∀w∈ws,gw w):
  ∃(y8 y9 HI zU pO zT y14:9e2)(C':Cs)(d:Cl),Sk (gx k m H os zs ws++[13e5,#[.int p],x8,x9,ib,cW,cU,cT,d7]) C=some (.nx (gx k m H os zs ws++[13e5,#[.int p],y8,y9,HI,zU,pO,zT,y14]),C')/\sO d/\GS C' k/\C'[m]? = some (.lst ((cs++[d]).map Cl.P))/\C.length<=C'.length/\∀j,j<C.length->j≠k->j≠m->C'[j]? = C[j]?:=by
 have Rv:m<C.length:=by
  rcases YU m C.length with q|q
  ·show q
  ·rw[Yf.mpr q]at hC;cases hC
 obtain⟨d,C1,e1,d1,d2,a1⟩:=dI k H C g 1e4;have gE:aw 8 (aT aB (ab 1e7 (ab 4e0 ae))) (gx k m H os zs ws++[13e5,#[.int p],x8,x9,ib,cW,cU,cT,d7]) C=some (.nx (gx k m H os zs ws++[13e5,#[.int p],#[.int d],x9,ib,cW,cU,cT,d7]),C1):=by
  simp![e1]
 obtain⟨v,C2,e2,a2⟩:=Hn k m H os zs ws d #[.int c] #[.int p] x9 ib cW cU cT d7 C1 a1.gs hH;have vi:=a1.trans a2;have st2:aw 9 Sj (gx k m H os zs ws++[13e5,#[.int p],#[.int d],x9,ib,cW,cU,cT,d7]) C1=some (.nx (gx k m H os zs ws++[13e5,#[.int p],#[.int d],#[.int v],ib,cW,cU,cT,d7]),C2):=by
  unfold aw aW;rw[e2];rfl
 have jh:ck 10 (aZ ae) (gx k m H os zs ws++[13e5,#[.int p],#[.int d],#[.int v],ib,cW,cU,cT,d7]) C2=some (.nx (gx k m H os zs ws++[13e5,#[.int p],#[.int d],#[.int v],7e8,cW,cU,cT,d7]),C2++[.lst []]):=by
  simp![ck]
 have g3:=vi.gs.app (.lst []);have uv:k≠C2.length:=Yp vi.gs.lt;have hmn:m≠C2.length:=by rw[vi.len];lia
 obtain⟨r,C4,e4,r0,r8,a4⟩:=FK k m H os zs ws #[.int c] #[.int p] #[.int d] #[.int v] (some (.c C2.length)) cW cU cT d7 (C2++[.lst []]) g3;have hn4:C4[C2.length]? = some (.lst (([]:List (List Key)).map tupK)):=by rw[a4.jz _ (Xp uv)];simp
 obtain⟨ρ',C5,e5,GW⟩:=Pk (g:=hName 11) (f:=M6) (λi ρ D=>∃(xI EG:9e2)(es:10e8),ρ=gx k m H os zs ws++[13e5,#[.int p],#[.int d],#[.int v],7e8,xI,EG,cT,d7]/\GS D k/\D[C2.length]? = some (.lst (es.map tupK))/\(∀e∈es,jV e)/\es.length<=i/\D.length=C4.length/\∀j,j≠k->j≠C2.length->D[j]? = C4[j]?) 8
  ((Yk r.toNat).map λ(q:Nat)=>PV.int (0+q)) 0 14e9 (λx hx i ρ D hi h=>by
   obtain⟨xI,EG,es,rfl,h1,h2,h3,h4,h5,h6⟩:=h;obtain⟨pO,D',Hf,t1,t2,t3,t4,t5,t6,t7⟩:=M5 k m C2.length H os zs ws c #[.int p] #[.int d] #[.int v] #[x] EG cT d7 D es h1 uv h2 h3 1e4 hH ho rh hz hw;show⟨_,_,D',rfl,t1,#[x],pO,Hf,rfl,t2,t3,t4,by lia,by rw[t6,h5],λj q1 q2=>by rw[t7 j q1 q2,h6 j q1 q2]⟩) (gx k m H os zs ws++[#[.int c],#[.int p],#[.int d],#[.int v],some (.c C2.length),cW,cU,cT,d7]) C4 ⟨cW,cU,[],rfl,a4.gs,hn4,(λe h=>(nomatch h)),Yl _,rfl,λ_ _ _=>rfl⟩
 obtain⟨xI,EG,es,rfl,g5,hn5,Iy,hel,hl5,ho5⟩:=GW;have VaX:es.length<=8:=by simp at hel;lia
 have JV:cx (aK (ab Kx ae)) (hName 11) M6 (gx k m H os zs ws++[13e5,#[.int p],#[.int d],#[.int v],7e8,cW,cU,cT,d7]) (C2++[.lst []])=some (.nx (gx k m H os zs ws++[13e5,#[.int p],#[.int d],#[.int v],7e8,xI,EG,cT,d7]),C5):=by
  have hr:cG [.v (.int r)]=some ((Yk r.toNat).map λ(q:Nat)=>PV.int (0+q)):=by
   ext cG;dsimp only;rw[if_pos 1e4]
  have hm:aK (ab Kx ae) (gx k m H os zs ws++[13e5,#[.int p],#[.int d],#[.int v],7e8,cW,cU,cT,d7]) (C2++[.lst []])=some ((Yk r.toNat).map λ(q:Nat)=>PV.int (0+q),C4):=by
   have:ab Kx ae (gx k m H os zs ws++[13e5,#[.int p],#[.int d],#[.int v],7e8,cW,cU,cT,d7]) (C2++[.lst []])=some ([.v (.int r)],C4):=by
    unfold ab aW;rw[e4];rfl
   unfold aK aW;rw[this];change cK (λ_=>cG [.v (.int r)]) C4=_;ext cK;dsimp only;rw[hr]
  unfold cx aW;rw[hm];show e5
 have lL:aw 13 15e0 (gx k m H os zs ws++[13e5,#[.int p],#[.int d],#[.int v],7e8,xI,EG,cT,d7]) C5=some (.nx (gx k m H os zs ws++[13e5,#[.int p],#[.int d],#[.int v],7e8,xI,EG,#[.tup []],d7]),C5):=by
  simp![]
 obtain⟨Zu,lv,C6,PU,hlv,a6⟩:=L3 k m H os zs ws C2.length c #[.int p] #[.int d] #[.int v] xI EG d7 C5 es g5 uv hn5 hH ho rh hz hw;obtain⟨wi,C7,e7,a7⟩:=Fp k m H os zs ws #[.int c] #[.int p] #[.int d] #[.int v] (some (.c C2.length)) xI Zu #[lQ lv] d7 C6 a6.gs;have st7:aw 14 Pq (gx k m H os zs ws++[13e5,#[.int p],#[.int d],#[.int v],7e8,xI,Zu,#[lQ lv],d7]) C6=some (.nx (gx k m H os zs ws++[13e5,#[.int p],#[.int d],#[.int v],7e8,xI,Zu,#[lQ lv],#[.int wi]]),C7):=by
  unfold aw aW;rw[e7];rfl
 have a67:=a6.trans a7;have hn7:C7[C2.length]? = some (.lst (es.map tupK)):=by rw[a67.jz _ (Xp uv)];show hn5
 have kK:∀j,j<C.length->j≠k->C7[j]? = C[j]?:=λj hj hk=>by
  have hjn:j≠C2.length:=by rw[vi.len];lia
  rw[a67.jz j hk,ho5 j hk hjn,a4.jz j hk,Yh (by rw[vi.len];show hj),vi.jz j hk]
 have hm7:C7[m]? = some (.lst (cs.map Cl.P)):=by rw[kK m Rv (Xp Z3)];show hC
 have RA:C.length<=C7.length:=by rw[a67.len,hl5,a4.len,YN,vi.len];lia
 have zF:(cs.map Cl.P).length<100000:=by simp;lia
 show⟨#[.int d],#[.int v],7e8,xI,Zu,#[lQ lv],#[.int wi],C7.set m (.lst ((cs++[(⟨d,v,p,wi,es,lv⟩:Cl)]).map Cl.P)),⟨d,v,p,wi,es,lv⟩,?_,⟨hp,Iy,VaX,hlv⟩,?_,setAt hm7,by rw[XH];show RA,λj hj hk hm=>?_⟩
 ·rw[show Sk=ag (aw 8 (aT aB (ab 1e7 (ab 4e0 ae)))) (ag (aw 9 Sj) (ag (ck 10 (aZ ae)) (ag (cx (aK (ab Kx ae)) (hName 11) M6) (ag (aw 13 15e0) (ag OB (ag (aw 14 Pq) (dj (eM 11e5 (ab clT ae)))))))))from rfl]
  rw[cz gE,cz st2,cz jh,cz JV,cz lL,cz PU,cz st7];rw[show(cs++[(⟨d,v,p,wi,es,lv⟩:Cl)]).map Cl.P=cs.map Cl.P++[.tup [.int d,.int v,.int p,.int wi,.tup (es.map tupK),lQ lv]] by rw[Y7];rfl];generalize cs.map Cl.P=CS at *;generalize es.map tupK=ES at *;generalize lQ lv=LV at *;simp![eM,iV,hm7,hn7,eY,pw,zF]
 ·obtain⟨x,y,h,r⟩:=a67.gs
  show⟨x,y,by rw[YA (Xp Z3)];show h,r⟩
 ·rw[YA (Xp hm)];show kK j hj hk
end
theorem Dc{zs:List Int}{x:PV}(h:x∈iZ (zs.map .int)):∃(i:Nat)(z:Int),z∈zs/\x=.tup [.int (i:Nat),.int z]:=by
 ext iZ h;obtain⟨i,hi,rfl⟩:=Yr.mp h;have hi:i<zs.length:=by simpa using hi
 show⟨i,zs[i],YO hi,by simp[hi]⟩
theorem pB{k:Nat}{C D:Cs}(hl:C.length<=D.length)(g:GS D k)(hk:k<C.length)(h:∀j,j<C.length->j≠k->D[j]? = C[j]?):dS k C (D.take C.length):=by
 show⟨by rw[Y1];lia,?_,λj hj=>?_⟩
 ·obtain⟨x,y,e,r⟩:=g
  show⟨x,y,by rw[Xn hk];show e,r⟩
 ·rcases YU j C.length with q|q
  ·rw[Xn q];show h j q hj
  ·rw[Yf.mpr (by rw[Y1];lia),Yf.mpr q]
theorem rY(k:Nat)(H:Int)(os:List (List Int))(zs:List Int)(ws:6e2)(C:Cs)(g:GS C k)(hH:2<=H/\H<=8)(ho:∀z∈os,fA z)(rh:os.length<=100)(hz:fA zs)(hw:4<=ws.length/\∀w∈ws,gw w):
  ∃(cs:List Cl)(C':Cs),lH [.c k,.v (.int H),.v (dU zs),.v (.lst (os.map dU)),.v (.lst (ws.map .str))] C=some (.v (.tup (cs.map Cl.P)),C')/\cs.length=zs.length/\(∀c∈cs,sO c)/\dS k C C':=by
 have hk:=g.lt;have Z3:k≠C.length:=Yp hk;have hle:=hz.le;obtain⟨ρ',D,e,GW⟩:=Pk (g:=cn (aF (hName 6) (aF (hName 7) cp)) 2) (f:=Sk) (λi ρ D=>∃(x6 x7 x8 x9 ib cW cU cT d7:9e2)(cs:List Cl),ρ=gx k C.length H os zs ws++[x6,x7,x8,x9,ib,cW,cU,cT,d7]/\GS D k/\D[C.length]? = some (.lst (cs.map Cl.P))/\(∀c∈cs,sO c)/\cs.length=i/\C.length+1<=D.length/\∀j,j<C.length->j≠k->D[j]? = C[j]?) 12
  (iZ (zs.map .int)) 0 (by rw[Tv];simp;lia) (λx hx i ρ D hi h=>by
   obtain⟨j,z,GR,rfl⟩:=Dc hx;obtain⟨x6,x7,x8,x9,ib,cW,cU,cT,d7,cs,rfl,h1,h2,h3,h4,h5,h6⟩:=h;obtain⟨y8,y9,HI,zU,pO,zT,y14,D',c,t1,t2,t3,t4,t5,t6⟩:=Ng k C.length H os zs ws (j:Int) z x8 x9 ib cW cU cT d7 D cs h1 Z3 h2 h3 1e4 (hz.rg z GR) hH ho rh hz hw;show⟨_,_,D',rfl,t1,#[(.int (j:Int))],#[.int z],y8,y9,HI,zU,pO,zT,y14,cs++[c],rfl,t3,t4,λd hd=>?_,by simp[h4],by lia,λq q1 q2=>?_⟩
   ·rcases Yy.mp hd with hd|hd
    ·show h3 d hd
    ·rw[Yj.mp hd];show t2
   ·rw[t6 q (by lia) q2 (by lia),h6 q q1 q2]) (gx k C.length H os zs ws++[none,none,none,none,none,none,none,none,none]) (C++[.lst []]) ⟨none,none,none,none,none,none,none,none,none,[],rfl,g.app _,by simp,(λc h=>(nomatch h)),rfl,by simp,λj h1 h2=>by rw[Yh h1]⟩
 obtain⟨x6,x7,x8,x9,ib,cW,cU,cT,d7,cs,rfl,h1,h2,h3,h4,h5,h6⟩:=GW;show⟨cs,D.take C.length,?_,by rw[h4,Tv];simp,h3,pB 1e4 h1 hk h6⟩;have gE:ck 5 (aZ ae) [4e8,#[.int H],#[dU zs],#[.lst (os.map dU)],4e2,none,none,none,none,none,none,none,none,none,none] C=some (.nx (gx k C.length H os zs ws++[none,none,none,none,none,none,none,none,none]),C++[.lst []]):=by
  simp![ck]
 have st2:cx (mJ 5e7) (cn (aF (hName 6) (aF (hName 7) cp)) 2) Sk (gx k C.length H os zs ws++[none,none,none,none,none,none,none,none,none]) (C++[.lst []])=some (.nx (gx k C.length H os zs ws++[x6,x7,x8,x9,ib,cW,cU,cT,d7]),D):=by
  have:mJ 5e7 (gx k C.length H os zs ws++[none,none,none,none,none,none,none,none,none]) (C++[.lst []])=some (iZ (zs.map .int),C++[.lst []]):=by
   simp![mJ,dU,De]
  unfold cx aW;rw[this];show e
 ext lH;rw[u4];change(match ag _ _ [4e8,some (.v (.int H)),some (.v (dU zs)),some (.v (.lst (os.map dU))),some (.v (.lst (ws.map .str))),none,none,none,none,none,none,none,none,none,none] C with
  |some (.rt r,C')=>fin C.length C' r
  |some (.nx _,C')=>some 15e9
  |some (.rf ps,C')=>some 17e4
  |some (.rq qs,C')=>(fS C.length C' qs).map λps=>17e3
  |_=>none)=_
 rw[cz gE,cz st2];generalize cs.map Cl.P=CS at *;simp![h2,eY]
structure Sh where
 H:Int
 zs:List Int
 q:Int
def Sh.P(s:Sh):PV:=.tup [.int s.H,dU s.zs,.int s.q]
structure zA(s:Sh):Prop where
 H:2<=s.H/\s.H<=8
 zs:fA s.zs
 q:0<=s.q/\s.q<3
noncomputable def Mw (lo hi:Int)(p:PV):Bool:=match p with
 |.int i=>decide (lo<=i)&&decide (i<=hi)
 |_=>false
theorem jC(L:List PV)(lo hi:Int)(h:L.all (Mw lo hi)=true)(d:Int)(h1:0<=d)(h2:d<L.length):∃v,bO (.lst L) (.int d)=some (.int v)/\lo<=v/\v<=hi:=by
 obtain⟨p,ep,hp⟩:=Cy (okk:=Mw lo hi) L h d h1 h2;cases p with
 |int i=>simp only[Mw,Yg,decide_eq_true_eq]at hp;show⟨i,ep,hp⟩
 |_=>cases hp
theorem kO(C:Cs)(x y:Int)(h:0<=y/\y<2147483647):GS (C++9e9) C.length:=⟨x,y,by simp,h⟩
abbrev Ou:aG->M SV:=ak 3e7 (aJ (aZ (ab 1e8 (ab 1e8 (ab 2e9 (ab 1e8 (ab 7e4 (ab 1e8 (ab 2e9 8e6))))))))) 9e1
theorem Fy(k:Nat)(x:9e2)(C:Cs)(g:GS C k):∃p C',Ou [x,4e8] C=some (.v p,C')/\(∃z,p=.int z/\1<=z/\z<=9)/\dS k C C':=by
 obtain⟨y,C',e,y1,y2,a⟩:=dI k 8 C g 1e2;obtain⟨v,hv,h0,h8⟩:=jC [.int 1,.int 1,.int 2,.int 1,.int 3,.int 1,.int 2,.int 9] 1 9 1e0 y y1 (by simpa using y2);show⟨.int v,C',?_,⟨v,rfl,h0,h8⟩,a⟩;simp![Ou,e,hv]
theorem ints_of:∀(L:List PV),(∀p∈L,∃z,p=.int z/\1<=z/\z<=9)->∃zs:List Int,L=zs.map .int/\∀z∈zs,1<=z/\z<=9
 |[],_=>⟨[],rfl,(λ_ h=>(nomatch h))⟩
 |p::L,h=>by
  obtain⟨z,rfl,hz⟩:=h p 4e4;obtain⟨zs,rfl,ZQ⟩:=ints_of L λq hq=>h q (by simp[hq]);show⟨z::zs,rfl,λy hy=>by
   rcases Yd.mp hy with rfl|hy
   ·show hz
   ·show ZQ y hy⟩
abbrev S7:aG->M PF:=ag (ck 1 (fu bX (ab 1e7 (ab (ak 5e4 2e9 11e5) ae)))) (ag (aw 6 (ak 3e7 (aJ (aZ (ab 2e9 (ab 7e4 (ab 2e9 (ab 7e4 (ab (mC (.int 4)) (ab 2e9 (ab 13e2 4e9))))))))) 9e1)) (ag (aw 7 (ak 3e7 (aJ (aZ (ab 1e8 (ab 2e9 (ab 1e8 (ab 7e4 (ab 2e9 (ab (mC (.int 4)) (ab (mC (.int 7)) (ab (mC (.int 12)) ae)))))))))) 9e1)) (ag (aw 8 (aJ (aO (aK 14e5) ["_law_c"] [1] 6e4 dD Ou))) (dj (eM 16e1 (ab (bf (ab 14e7 (ab (au 8) (ab (aT aB (ab 4e0 (ab 7e4 ae))) ae)))) ae))))))
theorem NY(ns:List Int)(W:9e2)(M:9e2)(a:Nat)(i:Int)(x1 x6 x7 x8 x9 ib cW cU cT:9e2)(sh:List Sh)(D:Cs)(hi:0<=i/\i<=100)(hD:D[a]? = some (.lst (sh.map Sh.P)))(oQ:∀s∈sh,zA s)(hl:sh.length<=1000):
  ∃(y1 y6 y7 y8:9e2)(D':Cs)(s:Sh),S7 [1e5,x1,W,M,6e9,#[.int i],x6,x7,x8,x9,ib,cW,cU,cT] D=some (.nx [1e5,y1,W,M,6e9,#[.int i],y6,y7,y8,x9,ib,cW,cU,cT],D')/\zA s/\D'[a]? = some (.lst ((sh++[s]).map Sh.P))/\D.length<=D'.length/\∀j,j<D.length->j≠a->D'[j]? = D[j]?:=by
 have Iz:a<D.length:=by
  rcases YU a D.length with q|q
  ·show q
  ·rw[Yf.mpr q]at hD;cases hD
 obtain⟨x,y,el,hy⟩:=O9 ns (2+i) D 1e4 1e4;have gE:ck 1 (fu bX (ab 1e7 (ab (ak 5e4 2e9 11e5) ae))) [1e5,x1,W,M,6e9,#[.int i],x6,x7,x8,x9,ib,cW,cU,cT] D=some (.nx [1e5,5e8,W,M,6e9,#[.int i],x6,x7,x8,x9,ib,cW,cU,cT],D++9e9):=by
  simp![ck,b9,el]
 have g0:=kO D x y hy;obtain⟨p1,C1,e1,p1a,p1b,a1⟩:=dI D.length 8 _ g0 1e2;obtain⟨H,hH,H1,H2⟩:=jC [.int 2,.int 3,.int 2,.int 3,.int 4,.int 2,.int 5,.int 8] 2 8 1e0 p1 p1a (by simpa using p1b);obtain⟨p2,C2,e2,p2a,p2b,a2⟩:=dI D.length 8 _ a1.gs 1e2;obtain⟨n,hn,n1,n2⟩:=jC [.int 1,.int 2,.int 1,.int 3,.int 2,.int 4,.int 7,.int 12] 1 12 1e0 p2 p2a (by simpa using p2b);have st2:aw 6 (ak 3e7 (aJ (aZ (ab 2e9 (ab 7e4 (ab 2e9 (ab 7e4 (ab (mC (.int 4)) (ab 2e9 (ab 13e2 4e9))))))))) 9e1) [1e5,5e8,W,M,6e9,#[.int i],x6,x7,x8,x9,ib,cW,cU,cT] (D++9e9)=some (.nx [1e5,5e8,W,M,6e9,#[.int i],#[.int H],x7,x8,x9,ib,cW,cU,cT],C1):=by
  simp![e1,hH]
 have jh:aw 7 (ak 3e7 (aJ (aZ (ab 1e8 (ab 2e9 (ab 1e8 (ab 7e4 (ab 2e9 (ab (mC (.int 4)) (ab (mC (.int 7)) (ab (mC (.int 12)) ae)))))))))) 9e1) [1e5,5e8,W,M,6e9,#[.int i],#[.int H],x7,x8,x9,ib,cW,cU,cT] C1=some (.nx [1e5,5e8,W,M,6e9,#[.int i],#[.int H],#[.int n],x8,x9,ib,cW,cU,cT],C2):=by
  simp![e2,hn]
 obtain⟨L,C3,e3,hL,hLp,a3⟩:=k4 (te:=Ou) (k:=D.length) (Pp:=λp=>∃z,p=.int z/\1<=z/\z<=9) ((Yk n.toNat).map λ(q:Nat)=>PV.int (0+q)) [none,5e8] [] C2 a2.gs (λx C g=>Fy D.length #[x] C g);obtain⟨zs,rfl,ZQ⟩:=ints_of L hLp;rw[Xg]at e3;have hzl:zs.length=n.toNat:=by simpa using hL
 have JV:aw 8 (aJ (aO (aK 14e5) ["_law_c"] [1] 6e4 dD Ou)) [1e5,5e8,W,M,6e9,#[.int i],#[.int H],#[.int n],x8,x9,ib,cW,cU,cT] C2=some (.nx [1e5,5e8,W,M,6e9,#[.int i],#[.int H],#[.int n],#[dU zs],x9,ib,cW,cU,cT],C3):=by
  have hr:cG [.v (.int n)]=some ((Yk n.toNat).map λ(q:Nat)=>PV.int (0+q)):=by
   ext cG;dsimp only;rw[if_pos 1e4]
  have ZU:((Yk n.toNat).map λ(q:Nat)=>PV.int (0+q)).length<=100000:=by simp;lia
  generalize((Yk n.toNat).map λ(q:Nat)=>PV.int (0+q))=rs at e3 hr ZU;ext dU;generalize zs.map PV.int=ZS at *;generalize Ou=te at e3;simp![aO,aK,hr,ZU,b7,e3]
 obtain⟨q,C4,e4,q1,q2,a4⟩:=dI D.length 3 _ a3.gs 1e2;have aa:=((a1.trans a2).trans a3).trans a4;have kK:∀j,j<D.length->C4[j]? = D[j]?:=λj hj=>by
  rw[aa.jz j (Yp hj),Yh hj]
 have ha4:C4[a]? = some (.lst (sh.map Sh.P)):=by rw[kK a Iz];show hD
 have ha3:C3[a]? = some (.lst (sh.map Sh.P)):=by rw[←a4.jz a (Yp Iz)];show ha4
 have zF:(sh.map Sh.P).length<100000:=by simp;lia
 show⟨5e8,#[.int H],#[.int n],#[dU zs],C4.set a (.lst ((sh++[(⟨H,zs,q⟩:Sh)]).map Sh.P)),⟨H,zs,q⟩,?_,⟨⟨H1,H2⟩,⟨by change 0<zs.length;lia,by change zs.length<=12;lia,ZQ⟩,q1,q2⟩,setAt ha4,by rw[XH,aa.len];simp,λj hj ha=>by rw[YA (Xp ha)];show kK j hj⟩;rw[show S7=ag _ (ag _ (ag _ (ag _ _)))from rfl,cz gE,cz st2,cz jh,cz JV];rw[show(sh++[(⟨H,zs,q⟩:Sh)]).map Sh.P=sh.map Sh.P++[.tup [.int H,dU zs,.int q]] by rw[Y7];rfl];generalize sh.map Sh.P=SH at *;generalize dU zs=ZS at *;simp![eM,iV,ha3,e4,pw,ha4,zF]
theorem Tb{te:4e5}{tt:7e3}(b:PV->Bool):∀(xs:List PV)(ρ:aG)(ys:List PV)(C:Cs),(∀x∈xs,tt (ρ.set 0 #[x]) C=some (b x,C))->(∀x∈xs,te (ρ.set 0 #[x]) C=some (.v x,C))->br 6e4 tt te xs ρ ys C=some (ys++xs.filter b,C)
 |[],ρ,ys,C,_,_=>by simp[br,Pu.ret]
 |x::xs,ρ,ys,C,ht,he=>by
  have h1:=ht x 4e4;have h2:=he x 4e4;have ih:=λzs=>Tb (te:=te) (tt:=tt) b xs (ρ.set 0 #[x]) zs C (λy hy=>by rw[X0];show ht y (by simp[hy])) (λy hy=>by rw[X0];show he y (by simp[hy]));cases hb:b x with
  |true=>rw[hb]at h1;simp[br,hName,aW,h1,h2,ih,hb]
  |false=>rw[hb]at h1;simp[br,hName,aW,h1,ih,hb]
structure Dl where
 hs:List Str
 ow:List Str
 cl:Int
 cs:List Cl
def Dl.P(d:Dl):PV:=.tup [.tup (d.hs.map .str),.tup (d.ow.map .str),.int d.cl,.tup (d.cs.map Cl.P)]
structure HG(d:Dl):Prop where
 h2:2<=d.hs.length/\d.hs.length<=8
 nd:d.hs.Nodup
 le:∀h∈d.hs,gw h
 c1:1<=d.cs.length/\d.cs.length<=12
 cs:∀c∈d.cs,sO c
abbrev OP:aG->M SV:=ak 3e7 4e0 (ak (g2 fQ) (ak 5e4 9e0 1e7) (mC (.int 8)))
theorem qZ(ws:6e2)(hw:ws.length=16)(nd:ws.Nodup)(st:Int)(h0:0<=st/\st<8)(n:Nat)(hn:n<=8)(C:Cs):
  ∃hs:List Str,br 6e4 dD OP ((Yk n).map λ(q:Nat)=>PV.int (0+q)) [none,4e2,#[.int st]] [] C=some (hs.map .str,C)/\hs.length=n/\hs.Nodup/\∀h∈hs,h∈ws:=by
 have key:∀j:Nat,(18e2%8).toNat<ws.length:=λj=>by
  have h1:0<=18e2%8:=Y3 _ 1e2;have h2:18e2%8<8:=YX _ 1e2;lia
 have e:=Hy (te:=OP) (f:=λp=>match p with|.int i=>.str (ws.getD ((st+i)%8).toNat "")|_=>.aP) ((Yk n).map λ(q:Nat)=>PV.int (0+q)) [none,#[.lst (ws.map .str)],#[.int st]] [] C (λx hx=>by
  obtain⟨j,hj,rfl⟩:=Yr.mp hx;have hk:=key j;have h1:0<=18e2%8:=Y3 _ 1e2;have h2:18e2%8<8:=YX _ 1e2;have G3:bO (.lst (ws.map .str)) (.int (18e2%8))=some (.str (ws.getD (18e2%8).toNat "")):=by
   have h3:18e2%8<(ws.length:Int):=by lia
   generalize 18e2%8=d at *;simp[bO,dA,cM,cV,h1,h3,Yc hk]
  generalize(0+(j:Int))=J at *;generalize ws.map PV.str=WS at *;simp![OP,b9,fQ,G3])
 rw[Xg,Y0]at e;show⟨(Yk n).map λ(j:Nat)=>ws.getD (18e2%8).toNat "",?_,by simp,?_,λh hh=>?_⟩
 ·rw[e,Y0];rfl
 ·rw[YT,XC]
  show List.Pairwise.imp_of_mem (λ{x y} hx hy eT e=>?_) (YT.mp List.nodup_range);have hx:=Xh.mp hx;have hy:=Xh.mp hy;have kx:=key x;have ky:=key y;rw[YZ,YZ,Yc kx,Yc ky]at e;have:=(X9 (h₀:=kx) (h₁:=ky) nd).mp 17e9;lia
 ·obtain⟨j,_,rfl⟩:=Yr.mp hh
  have:=key j;rw[YZ,Yc this];show YO this
abbrev K2:aG->M Bool:=aC (ak (g2 Oz) 1e7 4e0)
theorem qA(i:Int)(M:Nat)(C:Cs):∃L:List Nat,br 6e4 K2 1e7 ((Yk M).map λ(q:Nat)=>PV.int (0+q)) [none,#[.int i]] [] C=some (L.map λ(q:Nat)=>PV.int 9e5,C)/\L.length<=M/\∀q∈L,q<M:=by
 have e:=Tb (te:=au 0) (tt:=K2) (λp=>match p with|.int j=>!(j==i)|_=>false) ((Yk M).map λ(q:Nat)=>PV.int (0+q)) [none,#[.int i]] [] C (λx hx=>by
  obtain⟨j,_,rfl⟩:=Yr.mp hx;generalize(0+(j:Int))=J;simp![K2];rfl) (λx hx=>by simp[au])
 show⟨(Yk M).filter λ(q:Nat)=>!(9e5==i),?_,?_,λq hq=>Xh.mp (XD.mp hq).1⟩
 ·rw[e,Xg,VJ]
  rfl
 ·have:=WG (λ(q:Nat)=>!(9e5==i)) (Yk M)
  simpa using this
theorem o9{te:4e5}{Pp:PV->Prop}:∀(xs:List PV)(ρ:aG)(ys:List PV)(C:Cs),(∀x∈xs,∃p,te (ρ.set 0 #[x]) C=some (.v p,C)/\Pp p)->
  ∃zs,br 6e4 dD te xs ρ ys C=some (ys++zs,C)/\zs.length=xs.length/\∀p∈zs,Pp p
 |[],ρ,ys,C,h=>⟨[],by simp[br,Pu.ret],rfl,(λ_ h=>(nomatch h))⟩
 |x::xs,ρ,ys,C,h=>by
  obtain⟨p,e1,hp⟩:=h x 4e4;obtain⟨zs,e2,hl,hz⟩:=o9 (te:=te) (Pp:=Pp) xs (ρ.set 0 #[x]) (ys++[p]) C λy hy=>by rw[X0];show h y (by simp[hy])
  show⟨p::zs,?_,by simp[hl],λq hq=>?_⟩
  ·simp![br,hName,dD,e1,e2]
  ·rcases Yd.mp hq with rfl|hq
   ·show hp
   ·show hz q hq
theorem Ag:∀(L:List PV),(∀p∈L,∃z,p=dU z/\fA z)->∃os:List (List Int),L=os.map dU/\∀z∈os,fA z
 |[],_=>⟨[],rfl,(λ_ h=>(nomatch h))⟩
 |p::L,h=>by
  obtain⟨z,rfl,hz⟩:=h p 4e4;obtain⟨os,rfl,ho⟩:=Ag L λq hq=>h q (by simp[hq]);show⟨z::os,rfl,λy hy=>by
   rcases Yd.mp hy with rfl|hy
   ·show hz
   ·show ho y hy⟩
theorem n0:∀(L:List PV),(∀p∈L,∃w:Str,p=.str w)->∃ws:List Str,L=ws.map .str
 |[],_=>⟨[],rfl⟩
 |p::L,h=>by
  obtain⟨w,rfl⟩:=h p 4e4;obtain⟨ws,rfl⟩:=n0 L λq hq=>h q (by simp[hq]);show⟨w::ws,rfl⟩
noncomputable abbrev fI (q:Nat):PV:=PV.int 9e5
abbrev oE:aG->M SV:=ak 3e7 (ak 3e7 4e0 1e7) 1e8
abbrev oW:aG->M SV:=ak 3e7 4e0 (ak 5e4 13e2 1e7)
theorem Gm(a:Nat)(sh:List Sh)(oQ:∀s∈sh,zA s)(L:12e9)(hL:∀q∈L,q<sh.length)(C:Cs)(hC:C[a]? = some (.lst (sh.map Sh.P))):
  ∃os:List (List Int),br 6e4 dD oE (L.map fI) [none,6e9] [] C=some (os.map dU,C)/\os.length=L.length/\∀z∈os,fA z:=by
 obtain⟨zs,e,hl,hz⟩:=o9 (te:=oE) (Pp:=λp=>∃z,p=dU z/\fA z) (L.map fI) [none,6e9] [] C (λx hx=>by
  obtain⟨q,hq,rfl⟩:=Yr.mp hx;have hq:=hL q hq;show⟨dU (sh[q]).zs,?_,_,rfl,(oQ _ (YO hq)).zs⟩;have h1:bO (.lst (sh.map Sh.P)) (.int 9e5)=some (sh[q]).P:=by
   have h2:9e5<(sh.length:Int):=by lia
   have h3:0<=9e5:=by lia
   have h4:(0+(q:Int)).toNat=q:=by lia
   generalize 9e5=Q at *;simp[bO,dA,cM,cV,h2,h3,h4,hq]
  have h5:bO (sh[q]).P (.int 1)=some (dU (sh[q]).zs):=by simp[Sh.P,bO,dA,cM,cV]
  ext fI;generalize 9e5=Q at *;generalize(sh[q]).P=SP at *;generalize sh.map Sh.P=SH at *;simp![oE,hC,h1,h5])
 obtain⟨os,rfl,ho⟩:=Ag zs hz;show⟨os,by simpa using e,by simpa using hl,ho⟩
theorem Gk(ws:6e2)(hw:ws.length=16)(L:12e9)(hL:∀q∈L,q<8)(C:Cs):
  ∃ow:List Str,br 6e4 dD oW (L.map fI) [none,4e2] [] C=some (ow.map .str,C):=by
 obtain⟨zs,e,hl,hz⟩:=o9 (te:=oW) (Pp:=λp=>∃w:Str,p=.str w) (L.map fI) [none,4e2] [] C (λx hx=>by
  obtain⟨q,hq,rfl⟩:=Yr.mp hx;have hq:=hL q hq;obtain⟨w,_,h1⟩:=oI ws (5+9e5) 1e4 1e4;show⟨.str w,?_,w,rfl⟩;ext fI;generalize 9e5=Q at *;generalize ws.map PV.str=WS at *;simp![oW,b9,h1])
 obtain⟨ow,rfl⟩:=n0 zs hz;show⟨ow,by simpa using e⟩
abbrev clE:aG->M SV:=ak 5e4 (ak 3e7 (aJ (aZ (ab (mC (.int 12)) (ab (mC (.int 30)) (ab (mC (.int 60)) (ab (mC (.int 1000)) ae)))))) (aT aB (ab 4e0 (ab (mC (.int 4)) ae)))) (aT aB (ab 4e0 (ab 13e2 ae)))
abbrev Ss:aG->M PF:=ag (ck 1 (fu bX (ab 1e7 (ab (ak 5e4 (mC (.int 9)) 11e5) ae)))) (ag (aw 11 9e1) (ag (aw 6 (bt (g1 eY) (ab (aJ (aO (aK (ab (ak 3e7 18e5 2e3) ae)) ["_law_j"] [2,11] 6e4 dD OP)) ae))) (ag (aw 12 (bg (aJ (aO (aK 13e9) ["_law_j"] [5] 6e4 K2 1e7)) ic (bA (ak 3e7 18e5 2e9)))) (ag (aw 13 clE) (ag (aw 7 (aT lH (ab 4e0 (ab (ak 3e7 18e5 2e3) (ab (ak 3e7 18e5 1e8) (ab (aJ (aO (aE (au 12)) ["_law_j"] [4] 6e4 dD oE)) 5e7)))))) (j7 (bf (ab 14e7 (ab (bt (g1 eY) (ab (aJ (aO (aE (au 12)) ["_law_j"] [2] 6e4 dD oW)) ae)) (ab (au 13) 14e5)))) (au 9) (ak 3e7 9e0 (ak 5e4 13e2 11e5))))))))
theorem Zcq(ns:6e2):(ns.map (WO:Str->Key)).map kP=ns.map .str:=by rw[Y0];rfl
theorem FU(ns:6e2)(ps:List PV)(w:Str)(p:PV)(h:w∉ns):bw (ns.map (WO:Str->Key)) (.inr w)=(ns++[w]).map WO/\bQ (ns.map (WO:Str->Key)) ps (.inr w) p=ps++[p]:=by
 have hi:gI (WO w:Key) (ns.map (WO:Str->Key))=false:=by
  cases e:gI (WO w:Key) (ns.map (WO:Str->Key))with
  |false=>rfl
  |true=>
   obtain⟨v,hv,e⟩:=Yr.mp (wt.mp e);cases e;show absurd hv h
 unfold bw bQ;rw[hi];simp
theorem NN(ns:List Int)(ws:6e2)(hw:ws.length=16)(nd:ws.Nodup)(CC:∀w∈ws,gw w)(a b:Nat)(hab:a≠b)(i:Nat)(hi:i<7)(sh:List Sh)(oQ:∀s∈sh,zA s)(ZT:sh.length<=7)(s:Sh)(hs:zA s)(x1 x6 x7 x8 cW cU cT:9e2)(bN:6e2)(ds:List Dl)(D:Cs)(MS:D[a]? = some (.lst (sh.map Sh.P)))(hDb:D[b]? = some (.b5 (bN.map .str) (ds.map Dl.P)))(hn:bN.length<100)(kL:∀w,ws[5+i]? = some w->w∉bN):
  ∃(y1 y6 y7 zU pO zT:9e2)(D':Cs)(d:Dl)(w:Str),Ss [1e5,x1,4e2,#[4e6],6e9,#[12e7],x6,x7,x8,some (.c b),#[s.P],cW,cU,cT] D=some (.nx [1e5,y1,4e2,#[4e6],6e9,#[12e7],y6,y7,x8,some (.c b),#[s.P],zU,pO,zT],D')/\HG d/\ws[5+i]? = some w/\D'[b]? = some (.b5 ((bN++[w]).map .str) ((ds++[d]).map Dl.P))/\(∃q,y1=some (.c q)/\GS D' q/\D.length<=q)/\D.length<=D'.length/\∀j,j<D.length->j≠b->D'[j]? = D[j]?:=by
 have Ih:∀{q:Nat}{c:PV},D[q]? = some c->q<D.length:=λ{q c} h=>by
  rcases YU q D.length with z|z
  ·show z
  ·rw[Yf.mpr z]at h;cases h
 have Iz:=Ih MS;have pG:=Ih hDb;obtain⟨x,y,el,hy⟩:=O9 ns (9+(i:Int)) D 1e4 1e4;have gE:ck 1 (fu bX (ab 1e7 (ab (ak 5e4 (mC (.int 9)) 11e5) ae))) [1e5,x1,4e2,#[4e6],6e9,#[12e7],x6,x7,x8,some (.c b),#[s.P],cW,cU,cT] D=some (.nx [1e5,5e8,4e2,#[4e6],6e9,#[12e7],x6,x7,x8,some (.c b),#[s.P],cW,cU,cT],D++9e9):=by
  simp![ck,b9,el]
 have g0:=kO D x y hy;obtain⟨st,C1,e1,s1,s2,a1⟩:=dI D.length 8 _ g0 1e2;have st2:aw 11 9e1 [1e5,5e8,4e2,#[4e6],6e9,#[12e7],x6,x7,x8,some (.c b),#[s.P],cW,cU,cT] (D++9e9)=some (.nx [1e5,5e8,4e2,#[4e6],6e9,#[12e7],x6,x7,x8,some (.c b),#[s.P],#[.int st],cU,cT],C1):=by
  simp![e1]
 obtain⟨qY,eh,hhl,hhn,Z9⟩:=qZ ws hw nd st ⟨s1,s2⟩ s.H.toNat (by have:=hs.H;lia) C1;have q0:bO s.P (.int 0)=some (.int s.H):=by simp[Sh.P,bO,dA,cM,cV]
 have q1:bO s.P (.int 1)=some (dU s.zs):=by simp[Sh.P,bO,dA,cM,cV]
 have q2:bO s.P (.int 2)=some (.int s.q):=by simp[Sh.P,bO,dA,cM,cV]
 have P2:cG [.v (.int s.H)]=some ((Yk s.H.toNat).map λ(q:Nat)=>PV.int (0+q)):=by
  have:=hs.H;ext cG;dsimp only;rw[if_pos 1e4]
 have P1:cG [.v 4e6]=some ((Yk sh.length).map λ(q:Nat)=>PV.int (0+q)):=by
  ext cG;dsimp only;rw[if_pos 1e4,X1]
 have lnH:((Yk s.H.toNat).map λ(q:Nat)=>PV.int (0+q)).length<=100000:=by have:=hs.H;simp;lia
 have QD:((Yk sh.length).map λ(q:Nat)=>PV.int (0+q)).length<=100000:=by simp;lia
 have jh:aw 6 (bt (g1 eY) (ab (aJ (aO (aK (ab (ak 3e7 18e5 2e3) ae)) ["_law_j"] [2,11] 6e4 dD OP)) ae)) [1e5,5e8,4e2,#[4e6],6e9,#[12e7],x6,x7,x8,some (.c b),#[s.P],#[.int st],cU,cT] C1=some (.nx [1e5,5e8,4e2,#[4e6],6e9,#[12e7],18e3,x7,x8,some (.c b),#[s.P],#[.int st],cU,cT],C1):=by
  generalize((Yk s.H.toNat).map λ(q:Nat)=>PV.int (0+q))=rs at eh P2 lnH;generalize qY.map PV.str=HS at *;generalize ws.map PV.str=WS at *;generalize s.P=SP at *;generalize OP=te at eh;simp![aO,aK,q0,P2,lnH,b7,eh,eY]
 obtain⟨L,eo,hLl,hLm⟩:=qA (i:Int) sh.length C1;have VaY:cu (L.map fI) none (some s.q)=(L.take s.q.toNat).map fI:=by
  have h2:HT.cj (L.map fI).length (L.map fI).length (some s.q)=min s.q.toNat (L.map fI).length:=by
   have:=hs.q;ext HT.cj;dsimp only;rw[if_neg 1e4]
  ext cu;rw[h2,show HT.cj (L.map fI).length 0 none=0 from rfl];simp[List.map_take]
 have JV:aw 12 (bg (aJ (aO (aK 13e9) ["_law_j"] [5] 6e4 K2 1e7)) ic (bA (ak 3e7 18e5 2e9))) [1e5,5e8,4e2,#[4e6],6e9,#[12e7],18e3,x7,x8,some (.c b),#[s.P],#[.int st],cU,cT] C1=some (.nx [1e5,5e8,4e2,#[4e6],6e9,#[12e7],18e3,x7,x8,some (.c b),#[s.P],#[.int st],14e0,cT],C1):=by
  have eo':br 6e4 K2 1e7 ((Yk sh.length).map λ(q:Nat)=>PV.int (0+q)) [none,#[(.int (i:Int))]] [] C1=some (L.map fI,C1):=eo;have MA:di C1 (.v (.lst (L.map fI))) none (some s.q)=#[.lst ((L.take s.q.toNat).map fI)]:=by simp only[di,aQ,gN,VaY];rfl
  generalize((Yk sh.length).map λ(q:Nat)=>PV.int (0+q))=rs at eo' P1 QD;generalize L.map fI=LF at *;generalize(L.take s.q.toNat).map fI=LT at *;generalize s.P=SP at *;generalize K2=tt at eo';simp[aw,bg,ic,bA,Pu.intD,aJ,aO,aK,ab,ae,au,mC,ak,aW,cK,Pu.ret,g2,aQ,P1,QD,b7,eo',q2,MA]
 obtain⟨c1,C2,e2,c1a,c1b,a2⟩:=dI D.length 4 C1 a1.gs 1e2;obtain⟨v,hv,_,_⟩:=jC [.int 12,.int 30,.int 60,.int 1000] 12 1000 1e0 c1 c1a (by simpa using c1b);obtain⟨c2,C3,e3,_,_,a3⟩:=dI D.length 5 C2 a2.gs 1e2;obtain⟨cl,CK⟩:∃cl,cl=v+c2:=6e5;have lL:aw 13 clE [1e5,5e8,4e2,#[4e6],6e9,#[12e7],18e3,x7,x8,some (.c b),#[s.P],#[.int st],14e0,cT] C1=some (.nx [1e5,5e8,4e2,#[4e6],6e9,#[12e7],18e3,x7,x8,some (.c b),#[s.P],#[.int st],14e0,#[.int cl]],C3):=by
  simp![clE,e2,hv,e3,b9,CK]
 have NZ:=(a1.trans a2).trans a3;have Rq:∀j,j<D.length->C3[j]? = D[j]?:=λj hj=>by
  rw[NZ.jz j (Yp hj),Yh hj]
 obtain⟨os,eos,rh,GX⟩:=Gm a sh oQ (L.take s.q.toNat) (λq hq=>hLm q (XX hq)) C3 (by rw[Rq a Iz];show MS);have MC:os.length<=100:=by rw[rh,Y1];lia
 obtain⟨cs,C4,ecs,Va0,MN,a4⟩:=rY D.length s.H os s.zs ws C3 NZ.gs hs.H GX MC hs.zs ⟨by lia,CC⟩;have QC:((L.take s.q.toNat).map fI).length<=100000:=by simp;lia
 have PU:aw 7 (aT lH (ab 4e0 (ab (ak 3e7 18e5 2e3) (ab (ak 3e7 18e5 1e8) (ab (aJ (aO (aE (au 12)) ["_law_j"] [4] 6e4 dD oE)) 5e7))))) [1e5,5e8,4e2,#[4e6],6e9,#[12e7],18e3,x7,x8,some (.c b),#[s.P],#[.int st],14e0,#[.int cl]] C3=some (.nx [1e5,5e8,4e2,#[4e6],6e9,#[12e7],18e3,#[.tup (cs.map Cl.P)],x8,some (.c b),#[s.P],#[.int st],14e0,#[.int cl]],C4):=by
  generalize(L.take s.q.toNat).map fI=LT at *;generalize s.P=SP at *;generalize ws.map PV.str=WS at *;generalize os.map dU=OS at *;generalize dU s.zs=ZS at *;generalize cs.map Cl.P=CS at *;generalize oE=te at eos;simp![q0,q1,aO,aE,bz,QC,b7,eos,ecs]
 have aa:=NZ.trans a4;have kK:∀j,j<D.length->C4[j]? = D[j]?:=λj hj=>by
  rw[aa.jz j (Yp hj),Yh hj]
 obtain⟨ow,eow⟩:=Gk ws hw (L.take s.q.toNat) (λq hq=>by have:=hLm q (XX hq);lia) C4;have h5:5+i<ws.length:=by lia
 have hwk:ws[5+i]? = some ws[5+i]:=Yc h5;have CH:bO (.lst (ws.map .str)) (.int (5+(i:Int)))=some (.str ws[5+i]):=by
  have k1:0<=(5+(i:Int)):=by lia
  have k2:(5+(i:Int))<(ws.length:Int):=by lia
  have k3:(5+(i:Int)).toNat=5+i:=by lia
  generalize(5+(i:Int))=Q at *;simp[bO,dA,cM,cV,k1,k2,k3,h5]
 have hb4:C4[b]? = some (.b5 (bN.map .str) (ds.map Dl.P)):=by rw[kK b pG];show hDb
 obtain⟨hp1,ZV⟩:=FU bN (ds.map Dl.P) ws[5+i] (.tup [.tup (qY.map .str),.tup (ow.map .str),.int cl,.tup (cs.map Cl.P)]) (kL _ hwk);have GU:Aq (.v (.tup [.tup (qY.map .str),.tup (ow.map .str),.int cl,.tup (cs.map Cl.P)])) (.c b) (.v (.str ws[5+i])) [1e5,5e8,4e2,#[4e6],6e9,#[12e7],18e3,#[.tup (cs.map Cl.P)],x8,some (.c b),#[s.P],#[.int st],14e0,#[.int cl]] C4=some (.nx [1e5,5e8,4e2,#[4e6],6e9,#[12e7],18e3,#[.tup (cs.map Cl.P)],x8,some (.c b),#[s.P],#[.int st],14e0,#[.int cl]],C4.set b (.b5 ((bN++[ws[5+i]]).map .str) ((ds++[(⟨qY,ow,cl,cs⟩:Dl)]).map Dl.P))):=by
  ext Aq;simp only[hb4,jQ];rw[←Zcq bN,E4];dsimp only;rw[if_pos 14e9,hp1,ZV,Zcq];rw[show(ds++[(⟨qY,ow,cl,cs⟩:Dl)]).map Dl.P=ds.map Dl.P++[.tup [.tup (qY.map .str),.tup (ow.map .str),.int cl,.tup (cs.map Cl.P)]] by rw[Y7];rfl]
 show⟨5e8,18e3,#[.tup (cs.map Cl.P)],#[.int st],14e0,#[.int cl],C4.set b (.b5 ((bN++[ws[5+i]]).map .str) ((ds++[(⟨qY,ow,cl,cs⟩:Dl)]).map Dl.P)),⟨qY,ow,cl,cs⟩,ws[5+i],?_,?_,hwk,setAt hb4,⟨D.length,rfl,?_,Yl _⟩,by rw[XH,aa.len];simp,λj hj hjb=>by rw[YA (Xp hjb)];show kK j hj⟩
 ·rw[show Ss=ag _ (ag _ (ag _ (ag _ (ag _ (ag _ _)))))from rfl,cz gE,cz st2,cz jh,cz JV,cz lL,cz PU]
  generalize C4.set b (.b5 ((bN++[ws[5+i]]).map .str) ((ds++[(⟨qY,ow,cl,cs⟩:Dl)]).map Dl.P))=CF at GU;generalize(L.take s.q.toNat).map fI=LT at *;generalize s.P=SP at *;generalize qY.map PV.str=HS at *;generalize ow.map PV.str=OW at *;generalize cs.map Cl.P=CS at *;generalize ws.map PV.str=WS at *;generalize oW=te at eow;simp![j7,aO,aE,bz,QC,b7,eow,eY,b9,CH,GU]
 ·have:=hs.H
  have:=hs.zs.ne;have:=hs.zs.le;show⟨by rw[hhl];lia,hhn,λh hh=>CC h (Z9 h hh),by rw[Va0];lia,MN⟩
 ·obtain⟨x',y',h',r'⟩:=aa.gs
  show⟨x',y',by rw[YA (Yp pG)];show h',r'⟩
theorem mM{g:5e3}{f:14e3}(a:Nat)(qs:List PV)(Pi:Nat->aG->Cs->Prop)(iq:∀i ρ D,Pi i ρ D->D[a]? = some (.lst qs))
  (step:∀(i:Nat)(h:i<qs.length)ρ D,Pi i ρ D->∃ρ1 ρ2 D2,g (.tup [.int (i:Nat),qs[i]]) ρ=some ρ1/\f ρ1 D=some (.nx ρ2,D2)/\Pi (i+1) ρ2 D2):∀(n i:Nat)ρ D,i<=qs.length->qs.length-i<n->Pi i ρ D->∃ρ' D',ik g f a n i ρ D=some (.nx ρ',D')/\Pi qs.length ρ' D'
 |0,i,ρ,D,_,h,_=>by lia
 |n+1,i,ρ,D,hi,hn,h=>by
  rcases YU i qs.length with hl|hl
  ·obtain⟨ρ1,ρ2,D2,e1,e2,h2⟩:=step i hl ρ D h
   obtain⟨ρ',D',e3,h3⟩:=mM a qs Pi iq step n (i+1) ρ2 D2 hl 1e4 h2;show⟨ρ',D',?_,h3⟩;ext ik;simp only[iq i ρ D h,Yc hl,e1,aW,e2,e3]
  ·have:i=qs.length:=by lia
   subst this;show⟨ρ,D,?_,h⟩;ext ik;simp only[iq _ ρ D h,Yf.mpr (Yl _)]
structure vm(bN:List Str)(ds:List Dl):Prop where
 l1:1<=bN.length/\bN.length<=7
 ld:ds.length=bN.length
 nd:bN.Nodup
 le:∀w∈bN,gw w
 ok:∀d∈ds,HG d
theorem take_snoc{ws:6e2}{i:Nat}{w:Str}(h:ws[5+i]? = some w):(ws.drop 5).take (i+1)=(ws.drop 5).take i++[w]:=by
 have h1:(ws.drop 5)[i]? = some w:=by rw[List.getElem?_drop];show h
 obtain⟨hl,e⟩:=YW.mp h1;rw[←e,List.take_succ_eq_append_getElem hl]
theorem Fu(ns:List Int)(C:Cs):∃(sp:Int)(bN:6e2)(ds:List Dl),lF [.v (.lst 11e9)] C=some (.v (.tup [.int sp,.b5 (bN.map .str) (ds.map Dl.P)]),C)/\vm bN ds:=by
 obtain⟨x,y,el,hy⟩:=O9 ns 1 C 1e4 1e4;have g0:=kO C x y hy;obtain⟨ws,C1,ew,hw,nd,CC,a1⟩:=xJ C.length _ g0;obtain⟨p,C2,e2,p1,p2,a2⟩:=dI C.length 8 C1 a1.gs 1e2;obtain⟨Mi,hM,M1,M7⟩:=jC [.int 1,.int 1,.int 2,.int 2,.int 3,.int 1,.int 2,.int 7] 1 7 1e0 p p1 (by simpa using p2);have vi:=a1.trans a2;have MT:∀j,j<C.length->C2[j]? = C[j]?:=λj hj=>by rw[vi.jz j (Yp hj),Yh hj]
 have G0:C2.length=C.length+1:=by rw[vi.len];simp
 obtain⟨M,rfl⟩:∃M:Nat,Mi=(M:Int):=⟨Mi.toNat,by lia⟩
 obtain⟨ρA,D,eA,hA⟩:=Pk (g:=hName 5) (f:=S7) (λi ρ D=>∃(x1 x5 x6 x7 x8:9e2)(sh:List Sh),ρ=[1e5,x1,4e2,#[(.int (M:Int))],7e8,x5,x6,x7,x8,none,none,none,none,none]/\D[C2.length]? = some (.lst (sh.map Sh.P))/\(∀s∈sh,zA s)/\sh.length=i/\C2.length+1<=D.length/\∀j,j<C.length->D[j]? = C[j]?) 7
  ((Yk M).map λ(q:Nat)=>PV.int (0+q)) 0 14e9 (λz hz i ρ D hi h=>by
   obtain⟨q,hq,rfl⟩:=Yr.mp hz;have hq:=Xh.mp hq;obtain⟨x1,x5,x6,x7,x8,sh,rfl,h1,h2,h3,h4,h5⟩:=h;obtain⟨y1,y6,y7,y8,D',s,t1,t2,t3,t4,t5⟩:=NY ns #[.lst (ws.map .str)] #[(.int (M:Int))] C2.length 9e5 x1 x6 x7 x8 none none none none none sh D 1e4 h1 h2 1e4;show⟨_,_,D',rfl,t1,y1,_,y6,y7,y8,sh++[s],rfl,t3,λu hu=>?_,by simp[h3],by lia,λj hj=>by rw[t5 j 1e4 1e4,h5 j hj]⟩;rcases Yy.mp hu with hu|hu
   ·show h2 u hu
   ·rw[Yj.mp hu];show t2) [#[.lst (ns.map .int)],some (.c C.length),#[.lst (ws.map .str)],#[(.int (M:Int))],some (.c C2.length),none,none,none,none,none,none,none,none,none] (C2++[.lst []]) ⟨some (.c C.length),none,none,none,none,[],rfl,by simp,(λ_ h=>(nomatch h)),rfl,by simp,λj hj=>by rw[Yh (by lia)];show MT j hj⟩
 obtain⟨x1,x5,x6,x7,x8,sh,rfl,MS,oQ,VaM,hDl,hDo⟩:=hA;have hM':sh.length=M:=by simpa using VaM
 subst hM';obtain⟨ρB,E,eB,hB⟩:=mM (g:=cn (aF (hName 5) (aF (hName 10) cp)) 2) (f:=Ss) C2.length (sh.map Sh.P) (λi ρ E=>∃(y1 y5 y6 y7 HI zU pO zT:9e2)(ds:List Dl),ρ=[1e5,y1,4e2,#[4e6],7e8,y5,y6,y7,x8,5e8,HI,zU,pO,zT]/\E[C2.length]? = some (.lst (sh.map Sh.P))/\E[D.length]? = some (.b5 (((ws.drop 5).take i).map .str) (ds.map Dl.P))/\(∀d∈ds,HG d)/\ds.length=i/\i<=sh.length/\D.length+1<=E.length/\(i=0\/∃q,y1=some (.c q)/\GS E q/\D.length+1<=q)/\∀j,j<C.length->E[j]? = C[j]?)
  (λi ρ E h=>by obtain⟨_,_,_,_,_,_,_,_,_,_,h,_⟩:=h;show h) (λi hi ρ E h=>by
   have Iu:i<sh.length:=by simpa using hi
   obtain⟨y1,y5,y6,y7,HI,zU,pO,zT,ds,rfl,h1,h2,h3,h4,h5,h6,_,h8⟩:=h;have MK:i<7:=by lia
   obtain⟨z1,z6,z7,xI,EG,z13,E',d,w,t1,t2,t3,t4,t5,t6,t7⟩:=NN ns ws hw nd CC C2.length D.length 1e4 i MK sh oQ 1e4 (sh[i]) (oQ _ (YO Iu)) y1 y6 y7 x8 zU pO zT ((ws.drop 5).take i) ds E h1 h2 14e9 (λw Rf VaQ=>by
    obtain⟨j,hj,e⟩:=XQ VaQ;have Z7:j<i:=by simp at hj;lia
    obtain⟨h5i,e5⟩:=YW.mp Rf;rw[List.getElem_take,List.getElem_drop,←e5]at e;have:=(X9 (h₀:=by lia) (h₁:=h5i) nd).mp e;lia)
   show⟨_,_,E',?_,t1,z1,#[12e7],z6,z7,#[(sh[i]).P],xI,EG,z13,ds++[d],rfl,by rw[t7 _ 1e4 1e4];show h1,?_,λu hu=>?_,by simp[h4],Iu,by lia,.inr ?_,λj hj=>by rw[t7 j 1e4 1e4,h8 j hj]⟩
   ·simp[cn,aF,hName,cp]
   ·rw[take_snoc t3];show t4
   ·rcases Yy.mp hu with hu|hu
    ·show h3 u hu
    ·rw[Yj.mp hu];show t2
   ·obtain⟨q,q1,q2,q3⟩:=t5
    show⟨q,q1,q2,by lia⟩) 1000 0 [#[.lst (ns.map .int)],x1,#[.lst (ws.map .str)],#[(.int (sh.length:Int))],some (.c C2.length),x5,x6,x7,x8,some (.c D.length),none,none,none,none] (D++[.b5 [] []]) (Xq _) (by simp;lia) ⟨x1,x5,x6,x7,none,none,none,none,[],rfl,by rw[Yh (by lia)];show MS,by simp,(λ_ h=>(nomatch h)),rfl,Xq _,by simp,.inl rfl,λj hj=>by rw[Yh (by lia)];show hDo j hj⟩
 obtain⟨y1,y5,y6,y7,HI,zU,pO,zT,ds,rfl,hE1,hE2,MM,wy,_,hEl,hq,hEo⟩:=hB;simp only[Yv]at hE2 wy hq;obtain⟨q,rfl,gq,hq⟩:∃q,y1=some (.c q)/\GS E q/\D.length+1<=q:=by
  rcases hq with hq|hq
  ·lia
  ·show hq
 obtain⟨r,F,e5,r1,r2,a5⟩:=dI q 5 E gq 1e2;obtain⟨sp,EK,_,_⟩:=jC [.int 0,.int 1,.int 2,.int 5,.int 30] 0 30 1e0 r r1 (by simpa using r2);have hFb:F[D.length]? = some (.b5 (((ws.drop 5).take sh.length).map .str) (ds.map Dl.P)):=by rw[a5.jz _ 1e4];show hE2
 have hFC:F.take C.length=C:=by
  apply Xk;intro j;rcases YU j C.length with z|z
  ·rw[Xn z,a5.jz j 1e4,hEo j z]
  ·rw[Yf.mpr z,Yf.mpr (by rw[Y1];lia)]
 have dQ:((ws.drop 5).take sh.length).length=sh.length:=by simp;lia
 show⟨sp,(ws.drop 5).take sh.length,ds,?_,⟨by lia,by lia,(nd.sublist (List.drop_sublist 5 ws)).sublist (List.take_sublist _ _),λw h=>CC w (XW (XX h)),MM⟩⟩;have gE:ck 1 (fu bX (ab 1e7 (ab 1e8 ae))) [1e5,none,none,none,none,none,none,none,none,none,none,none,none,none] C=some (.nx [1e5,7e0,none,none,none,none,none,none,none,none,none,none,none,none],C++9e9):=by
  simp![ck,el]
 have st2:aw 2 (aT lE (ab 4e0 (ab (mC (.int 16)) ae))) [1e5,7e0,none,none,none,none,none,none,none,none,none,none,none,none] (C++9e9)=some (.nx [1e5,7e0,4e2,none,none,none,none,none,none,none,none,none,none,none],C1):=by
  generalize ws.map PV.str=WS at *;simp![ew]
 have jh:aw 3 (ak 3e7 (aJ (aZ (ab 1e8 (ab 1e8 (ab 2e9 15e8))))) 9e1) [1e5,7e0,4e2,none,none,none,none,none,none,none,none,none,none,none] C1=some (.nx [1e5,7e0,4e2,#[4e6],none,none,none,none,none,none,none,none,none,none],C2):=by
  generalize ws.map PV.str=WS at *;simp![e2,hM]
 have JV:ck 4 (aZ ae) [1e5,7e0,4e2,#[4e6],none,none,none,none,none,none,none,none,none,none] C2=some (.nx [1e5,7e0,4e2,#[4e6],7e8,none,none,none,none,none,none,none,none,none],C2++[.lst []]):=by
  simp![ck]
 have lL:cx (aK 13e9) (hName 5) S7 [1e5,7e0,4e2,#[4e6],7e8,none,none,none,none,none,none,none,none,none] (C2++[.lst []])=some (.nx [1e5,x1,4e2,#[4e6],7e8,x5,x6,x7,x8,none,none,none,none,none],D):=by
  have hr:cG [.v 4e6]=some ((Yk sh.length).map λ(q:Nat)=>PV.int (0+q)):=by
   ext cG;dsimp only;rw[if_pos 1e4,X1]
  have hm:aK 13e9 [1e5,7e0,4e2,#[4e6],7e8,none,none,none,none,none,none,none,none,none] (C2++[.lst []])=some ((Yk sh.length).map λ(q:Nat)=>PV.int (0+q),C2++[.lst []]):=by
   generalize((Yk sh.length).map λ(q:Nat)=>PV.int (0+q))=rs at hr;simp![aK,hr]
  unfold cx aW;rw[hm];show eA
 have PU:vZ 9 [1e5,x1,4e2,#[4e6],7e8,x5,x6,x7,x8,none,none,none,none,none] D=some (.nx [1e5,x1,4e2,#[4e6],7e8,x5,x6,x7,x8,5e8,none,none,none,none],D++[.b5 [] []]):=rfl;have st7:qJ 8e2 (cn (aF (hName 5) (aF (hName 10) cp)) 2) Ss [1e5,x1,4e2,#[4e6],7e8,x5,x6,x7,x8,5e8,none,none,none,none] (D++[.b5 [] []])=some (.nx [1e5,some (.c q),4e2,#[4e6],7e8,y5,y6,y7,x8,5e8,HI,zU,pO,zT],E):=by
  have hm:ab 16e1 ae [1e5,x1,4e2,#[4e6],7e8,x5,x6,x7,x8,5e8,none,none,none,none] (D++[.b5 [] []])=some ([.c C2.length],D++[.b5 [] []]):=by
   simp![]
  unfold qJ aW;rw[hm];show eB
 have hb:Jr=ag (ck 1 (fu bX (ab 1e7 (ab 1e8 ae)))) (ag (aw 2 (aT lE (ab 4e0 (ab (mC (.int 16)) ae)))) (ag (aw 3 (ak 3e7 (aJ (aZ (ab 1e8 (ab 1e8 (ab 2e9 15e8))))) 9e1)) (ag (ck 4 (aZ ae)) (ag (cx (aK 13e9) (hName 5) S7) (ag (vZ 9) (ag (qJ 8e2 (cn (aF (hName 5) (aF (hName 10) cp)) 2) Ss) (vX (ab (ak 3e7 (aJ (aZ (ab 2e3 (ab 1e8 (ab 2e9 (ab 13e2 (ab (mC (.int 30)) ae))))))) (aT aB (ab 4e0 (ab 13e2 ae)))) (ab (au 9) ae))))))))):=rfl;ext lF;rw[hb];change(match ag _ _ [some (.v (.lst 11e9)),none,none,none,none,none,none,none,none,none,none,none,none,none] C with
  |some (.rt r,C')=>fin C.length C' r
  |some (.nx _,C')=>some 15e9
  |some (.rf ps,C')=>some 17e4
  |some (.rq qs,C')=>(fS C.length C' qs).map λps=>17e3
  |_=>none)=_
 rw[cz gE,cz st2,cz jh,cz JV,cz lL,cz PU,cz st7];have OZ:¬D.length<C.length:=by lia
 generalize((ws.drop 5).take sh.length).map PV.str=NM at *;generalize ds.map Dl.P=DS at *;simp![vX,e5,EK,fS,OZ,hFb,hFC]
noncomputable def FI (p:PV):Bool:=match p with
 |.tup (.str x::_)=>x=="said"
 |_=>false
abbrev Ka:aG->M Bool:=aC (ak (g2 jR) 17e7 (mC (.str "said")))
theorem JZ(ks:14e6)(h:jV ks)(C:Cs):Ka [#[tupK ks]] C=some (FI (tupK ks),C):=by
 rcases h with⟨i,rfl⟩|⟨i,w,_,rfl⟩|⟨a,b,c,rfl⟩
 ·simp![Ka,tupK,kP,bO,dA,cM,cV,FI]
  decide +kernel
 ·simp![Ka,tupK,kP,bO,dA,cM,cV,FI]
 ·simp![Ka,tupK,kP,bO,dA,cM,cV,FI]
  decide +kernel
theorem tB{ks:14e6}(h:jV ks)(hb:FI (tupK ks)=true):∃i w,gw w/\ks=[.inr "said",.inl i,.inr w]:=by
 rcases h with⟨i,rfl⟩|h|⟨a,b,c,rfl⟩
 ·have:FI (tupK [.inr "joined",.inl i])=(("joined":Str)==("said":Str)):=rfl
  rw[this]at hb;show absurd hb 3e9
 ·show h
 ·have:FI (tupK [.inr "did",.inl a,.inl b,.inl c])=((("did":Str))==("said":Str)):=rfl
  rw[this]at hb;show absurd hb 3e9
theorem xX(R4:10e8)(h:∀e∈R4,jV e)(C:Cs):∃sd:List (List Key),br 6e4 Ka 1e7 (R4.map tupK) [none] [] C=some (sd.map tupK,C)/\sd.length<=R4.length/\∀e∈sd,∃i w,gw w/\e=[.inr "said",.inl i,.inr w]:=by
 have e:=Tb (te:=au 0) (tt:=Ka) FI (R4.map tupK) [none] [] C (λx hx=>by
  obtain⟨ks,hk,rfl⟩:=Yr.mp hx;show JZ ks (h ks hk) C) (λx hx=>by simp[au])
 show⟨R4.filter λe=>FI (tupK e),?_,WG _ _,λe he=>?_⟩
 ·rw[e,Xg,VJ];rfl
 ·obtain⟨h1,h2⟩:=XD.mp he
  show tB (h e h1) h2
noncomputable def gQ (c:Cl):List (List Key):=c.cs++(match c.lv with|none=>[]|some (e,_)=>[e])
theorem CV{c:Cl}(h:sO c):∀e∈gQ c,jV e:=by
 intro e he;ext gQ he;rcases Yy.mp he with he|he
 ·show h.cs e he
 ·cases hl:c.lv with
  |none=>rw[hl]at he;cases he
  |some p=>obtain⟨e',n⟩:=p;rw[hl]at he;rw[Yj.mp he];show h.lv e' n hl
theorem rn(c:Cl)(h:sO c)(ρ:aG)(C:Cs)(MT:ρ[12]? = some #[.tup (c.cs.map tupK)])(O0:ρ[13]? = some #[lQ c.lv]):aE (ak 5e4 (au 12) (bg (au 13) ic (bA 1e8))) ρ C=some ((gQ c).map tupK,C):=by
 have hl:(c.cs.map tupK).length<=8:=by simpa using h.le
 cases hv:c.lv with
 |none=>
  have hs:di C (.v (lQ none)) none (some 1)=#[.tup []]:=by simp[di,aQ,gN,lQ,cu]
  have he:(gQ c).map tupK=c.cs.map tupK:=by ext gQ;rw[hv];simp
  rw[he];rw[hv]at O0;generalize c.cs.map tupK=CS at *;generalize lQ none=LV at *;have:CS.length<=1000000:=by lia
  simp[aE,ak,au,MT,O0,bg,ic,bA,mC,aW,cK,Pu.ret,Pu.intD,aQ,hs,g2,b9,this,bz]
 |some p=>
  obtain⟨e,n⟩:=p;have hs:di C (.v (lQ (some (e,n)))) none (some 1)=#[.tup [tupK e]]:=by simp[di,aQ,gN,lQ,cu,HT.cj]
  have he:(gQ c).map tupK=c.cs.map tupK++[tupK e]:=by ext gQ;rw[hv];simp
  rw[he];rw[hv]at O0;generalize c.cs.map tupK=CS at *;generalize lQ (some (e,n))=LV at *;generalize tupK e=TE at *;have h1:CS.length+1<=1000000:=by lia
  have h2:CS.length<=999999:=by lia
  simp[aE,ak,au,MT,O0,bg,ic,bA,mC,aW,cK,Pu.ret,Pu.intD,aQ,hs,g2,b9,h1,h2,bz]
theorem LX(L:10e8):cf (λp q=>!aI p q) (.lst (L.map tupK)) (.lst [])=some (.bl (decide (L≠[]))):=by
 have h1:dat (.lst (L.map tupK))=true:=by ext dat;show E2 IU _
 have h2:dep (.lst (L.map tupK))<=60:=by ext dep;have:=E3 N4 L;lia
 have h3:dat (.lst [])=true:=rfl;ext cf;rw[h1,h3,decide_eq_true h2];cases L with
 |nil=>rfl
 |cons a L=>rfl
theorem Dv:c9 (tupK [.inr "join"])=true:=by decide +kernel
theorem Sa:c9 (tupK [.inr "note"])=true:=by decide +kernel
section
variable{v:Str}{c p:Int}
theorem O3{x b:Int}(h:0<=x/\x<b):eQ (.int x) b=true:=by simp[eQ,h.1,h.2]
theorem R9(h:b6 v=true):c9 (tupK [.inr "say",.inr v])=true:=by
 change dR "say" [.str v]=true;ext dR;rw[if_neg 3e9,if_pos rfl];show h
theorem dDo(hc:0<=c/\c<12)(hp:0<=p/\p<9):c9 (tupK [.inr "do",.inl c,.inl p])=true:=by
 change dR "do" [.int c,.int p]=true;ext dR;rw[if_neg 3e9,if_neg 3e9,if_pos rfl];change(eQ (.int c) 12&&eQ (.int p) 9)=true;rw[O3 hc,O3 hp];rfl
theorem Sd(hc:0<=c/\c<12):c9 (tupK [.inr "free",.inl c])=true:=by
 change dR "free" [.int c]=true;ext dR;rw[if_neg 3e9,if_neg 3e9,if_neg 3e9,if_pos rfl];show O3 hc
theorem Nb(hc:0<=c/\c<12):c9 (tupK [.inr "ready",.inl c])=true:=by
 change dR "ready" [.int c]=true;ext dR;rw[if_neg 3e9,if_neg 3e9,if_neg 3e9,if_neg 3e9,if_pos rfl];show O3 hc
theorem Sb(hc:0<=c/\c<12)(h:gw v):c9 (tupK [.inr "hand",.inl c,.inr v])=true:=by
 change dR "hand" [.int c,.str v]=true;ext dR;rw[if_neg 3e9,if_neg 3e9,if_neg 3e9,if_neg 3e9,if_neg 3e9,if_pos rfl];change(eQ (.int c) 12&&b6 v&&decide (v≠"bell"))=true;rw[O3 hc,h.2.1,decide_eq_true h.2.2];rfl
theorem R'(hc:0<=c/\c<12):c9 (tupK [.inr "quit",.inl c])=true:=by
 change dR "quit" [.int c]=true;ext dR;rw[if_neg 3e9,if_neg 3e9,if_neg 3e9,if_neg 3e9,if_neg 3e9,if_neg 3e9,if_pos rfl];show O3 hc
end
abbrev ZA:aG->M SV:=aJ (aO (aE (ak 5e4 (au 12) (bg (au 13) ic (bA 1e8)))) ["_law_event_here"] [] 6e4 Ka 1e7)
abbrev xl:aG->M PF:=ag (aV (dZ (aC (ak (g2 fw) 14e7 13e2)) (aC (ak 5e2 (au 14) 10e6))) (aX (bf (ab (mC (.str "say")) (ab (ak 3e7 (ak 3e7 (au 14) (aT aB (ab 1e7 (ab (bt 7e5 (ab (au 14) ae)) ae)))) 2e9) ae)))) aH) (ag (aV (aC (ak (g2 fw) 14e7 (mC (.int 9)))) (aX (bf (ab (mC (.str "do")) (ab (au 7) (ab (aT aB (ab 1e7 (ab 18e5 ae))) ae))))) aH) (ag (aV (aC (ak (g2 fw) 14e7 (mC (.int 10)))) (aX (bf (ab (mC (.str "free")) 14e5))) aH) (ag (aV (aC (ak (g2 fw) 14e7 (mC (.int 11)))) (aX (bf (ab (mC (.str "ready")) 14e5))) aH) (ag (aV (aC (ak (g2 fw) 14e7 (mC (.int 12)))) (aX (bf (ab (mC (.str "hand")) (ab (au 7) (ab (ak 3e7 9e0 (aT aB (ab 1e7 (ab (bt 7e5 5e7) ae)))) ae))))) aH) (ag (aV (aC (ak (g2 fw) 14e7 (mC (.int 13)))) (aX (bf (ab (mC (.str "quit")) 14e5))) aH) (aX (ak 3e7 (aJ (aZ (ab 10e9 (ab (bf (ab (mC (.str "say")) (ab (ak 3e7 9e0 2e3) ae))) (ab 16e2 ae))))) (ak (g2 fY) 14e7 (mC (.int 13))))))))))
theorem Hl:Jy=ag (dc 4e0 (cn (aF (hName 2) (aF (hName 3) (aF (hName 4) (aF (hName 5) cp)))) 4)) (ag (aw 6 (aT aB (ab 1e7 (ab (mC (.int 16)) ae)))) (ag (aw 7 (aT aB (ab 1e7 (ab (bt 7e5 17e8) ae)))) (ag (dc (ak 3e7 11e5 (au 7)) 18e8) (ag (aV (aC (ak (g2 fw) 14e7 2e9)) (aX 16e2) aH) (ag (aw 14 ZA) xl))))):=rfl
theorem FL(k:Nat)(w c:Int)(hs:6e2)(sd:10e8)(pn:Int)(x1 x3 x4 x5 x8 x9 cW cU cT:9e2)(C:Cs)(g:GS C k)(hw:0<=w/\w<16)(hh:2<=hs.length/\hs.length<=8)(Rm:∀e∈sd,∃i w,gw w/\e=[.inr "said",.inl i,.inr w])(MA:sd.length<=100)(hp:1<=pn/\pn<=9)(hc:0<=c/\c<12)(hg:∀h∈hs,gw h):
  ∃(dd:14e6)(C':Cs),xl [4e8,x1,#[.tup (hs.map .str)],x3,x4,x5,#[.int w],13e5,x8,x9,#[.int pn],cW,cU,cT,#[.lst (sd.map tupK)]] C=some (.rt (.v (tupK dd)),C')/\dS k C C'/\c9 (tupK dd)=true:=by
 have eT:=LX sd;by_cases h5:w<5/\sd≠[]
 ·obtain⟨h5,hnn⟩:=h5
  have hlen:0<sd.length:=X6.mpr hnn;obtain⟨j,C',e,j1,j2,a⟩:=dI k (sd.length:Int) C g 1e4;have hj:j.toNat<sd.length:=by lia
  obtain⟨i,v,gv,hv⟩:=Rm _ (YO hj);have ix1:bO (.lst (sd.map tupK)) (.int j)=some (.tup [.str "said",.int i,.str v]):=by
   have:(sd.map tupK)[j.toNat]? = some (tupK sd[j.toNat]):=by rw[YL,Yc hj];rfl
   simp only[bO,dA,cM,cV];rw[if_pos j1,if_pos (by simpa using j2)];change(sd.map tupK)[j.toNat]? = _;rw[this,hv];rfl
  have ix2:bO (.tup [.str "said",.int i,.str v]) (.int 2)=some (.str v):=by simp[bO,dA,cM,cV]
  have hl:cH [.lst (sd.map tupK)]=some (.int (sd.length:Int)):=by simp[cH]
  rw[decide_eq_true hnn]at eT;show⟨[.inr "say",.inr v],C',?_,a,R9 gv.2.1⟩;generalize sd.map tupK=SD at *;simp[xl,ag,aV,dZ,aC,ak,au,mC,aW,cK,Pu.ret,g1,g2,aQ,bu,fw,dP,h5,mB,sT,aJ,aZ,ae,Pu.plain,eT,aX,bf,ab,aT,bt,hl,e,ix1,ix2,tupK,kP]
 ·have t6:aV (dZ (aC (ak (g2 fw) 14e7 13e2)) (aC (ak 5e2 (au 14) 10e6))) (aX (bf (ab (mC (.str "say")) (ab (ak 3e7 (ak 3e7 (au 14) (aT aB (ab 1e7 (ab (bt 7e5 (ab (au 14) ae)) ae)))) 2e9) ae)))) aH [4e8,x1,#[.tup (hs.map .str)],x3,x4,x5,#[.int w],13e5,x8,x9,#[.int pn],cW,cU,cT,#[.lst (sd.map tupK)]] C=some (.nx [4e8,x1,#[.tup (hs.map .str)],x3,x4,x5,#[.int w],13e5,x8,x9,#[.int pn],cW,cU,cT,#[.lst (sd.map tupK)]],C):=by
   by_cases Rf:w<5
   ·have hsn:¬sd≠[]:=λz=>h5 ⟨Rf,z⟩
    rw[decide_eq_false hsn]at eT;generalize sd.map tupK=SD at *;simp![fw,Rf,eT]
   ·simp![fw,Rf]
  rw[show xl=ag _ (ag _ _)from rfl,cz t6];clear eT t6;generalize sd.map tupK=SD at *;have hl:cH [.tup (hs.map .str)]=some (.int (hs.length:Int)):=by simp[cH]
  have hz:∃z:Str,bO (.tup (hs.map .str)) (.int 0)=some (.str z)/\gw z:=by
   cases hs with
   |nil=>simp at hh
   |cons a hs=>show⟨a,by simp[bO,dA,cM,cV],hg a (.head _)⟩
  by_cases h9:w<9
  ·obtain⟨j,C',e,j1,j2,a⟩:=dI k pn C g 1e4
   show⟨[.inr "do",.inl c,.inl j],C',?_,a,dDo hc ⟨j1,by lia⟩⟩;simp![fw,h9,e,tupK,kP]
  ·by_cases h10:w<10
   ·show⟨[.inr "free",.inl c],C,by simp![fw,h9,h10,tupK,kP],dS.refl g,Sd hc⟩
   ·by_cases h11:w<11
    ·show⟨[.inr "ready",.inl c],C,by simp![fw,h9,h10,h11,tupK,kP],dS.refl g,Nb hc⟩
    ·by_cases MT:w<12
     ·obtain⟨j,C',e,j1,j2,a⟩:=dI k (hs.length:Int) C g 1e4
      have hj:j.toNat<hs.length:=by lia
      have ix1:bO (.tup (hs.map .str)) (.int j)=some (.str hs[j.toNat]):=by simp[bO,dA,cM,cV,j1,j2,Yc hj]
      show⟨[.inr "hand",.inl c,.inr hs[j.toNat]],C',?_,a,Sb hc (hg _ (YO hj))⟩;generalize hs.map PV.str=HS at *;simp[ag,aV,aC,ak,au,mC,aW,cK,Pu.ret,g1,g2,aQ,bu,fw,dP,h9,h10,h11,MT,mB,sT,aX,bf,ab,ae,aH,aT,bt,hl,e,ix1,Pu.plain,tupK,kP]
     ·by_cases O0:w<13
      ·show⟨[.inr "quit",.inl c],C,by simp![fw,h9,h10,h11,MT,O0,tupK,kP],dS.refl g,R' hc⟩
      ·obtain⟨z,hz,gz⟩:=hz
       have:w=13\/w=14\/w=15:=by lia
       generalize hs.map PV.str=HS at *;have i0:bO (.lst [.tup [.str "note"],.tup [.str "say",.str z],.tup [.str "join"]]) (.int 0)=some (.tup [.str "note"]):=by simp[bO,dA,cM,cV]
       have i1:bO (.lst [.tup [.str "note"],.tup [.str "say",.str z],.tup [.str "join"]]) (.int 1)=some (.tup [.str "say",.str z]):=by simp[bO,dA,cM,cV]
       have i2:bO (.lst [.tup [.str "note"],.tup [.str "say",.str z],.tup [.str "join"]]) (.int 2)=some (.tup [.str "join"]):=by simp[bO,dA,cM,cV]
       rcases this with rfl|rfl|rfl
       ·show⟨[.inr "note"],C,by simp![fw,hz,fY,i0,i1,i2,tupK,kP],dS.refl g,Sa⟩
       ·show⟨[.inr "say",.inr z],C,by simp![fw,hz,fY,i0,i1,i2,tupK,kP],dS.refl g,R9 gz.2.1⟩
       ·show⟨[.inr "join"],C,by simp![fw,hz,fY,i0,i1,i2,tupK,kP],dS.refl g,Dv⟩
theorem Dr(k:Nat)(d:Dl)(hd:HG d)(C:Cs)(g:GS C k):∃(dd:14e6)(C':Cs),nV [.c k,.v d.P] C=some (.v (tupK dd),C')/\dS k C C'/\c9 (tupK dd)=true:=by
 obtain⟨w,C1,e1,w1,w2,a1⟩:=dI k 16 C g 1e2;have hc1:=hd.c1;obtain⟨c,C2,e2,c1,c2,a2⟩:=dI k (d.cs.length:Int) C1 a1.gs 1e4;have CK:c.toNat<d.cs.length:=by lia
 obtain⟨cl,RN⟩:∃cl,cl=d.cs[c.toNat]:=6e5;have bV:sO cl:=by rw[RN];show hd.cs _ (YO CK)
 have G3:bO (.tup (d.cs.map Cl.P)) (.int c)=some cl.P:=by
  rw[RN];simp[bO,dA,cM,cV,c1,c2,Yc CK]
 have hlen:cH [.tup (d.cs.map Cl.P)]=some (.int (d.cs.length:Int)):=by simp[cH]
 have a:=a1.trans a2;have Ov:dc 4e0 (cn (aF (hName 2) (aF (hName 3) (aF (hName 4) (aF (hName 5) cp)))) 4) [4e8,#[d.P],none,none,none,none,none,none,none,none,none,none,none,none,none] C=some (.nx [4e8,#[d.P],#[.tup (d.hs.map .str)],#[.tup (d.ow.map .str)],#[.int d.cl],#[.tup (d.cs.map Cl.P)],none,none,none,none,none,none,none,none,none],C):=by
  simp![dc,Dl.P,cn,aF,hName,cp]
 have gE:aw 6 (aT aB (ab 1e7 (ab (mC (.int 16)) ae))) [4e8,#[d.P],#[.tup (d.hs.map .str)],#[.tup (d.ow.map .str)],#[.int d.cl],#[.tup (d.cs.map Cl.P)],none,none,none,none,none,none,none,none,none] C=some (.nx [4e8,#[d.P],#[.tup (d.hs.map .str)],#[.tup (d.ow.map .str)],#[.int d.cl],#[.tup (d.cs.map Cl.P)],#[.int w],none,none,none,none,none,none,none,none],C1):=by
  simp![e1]
 have st2:aw 7 (aT aB (ab 1e7 (ab (bt 7e5 17e8) ae))) [4e8,#[d.P],#[.tup (d.hs.map .str)],#[.tup (d.ow.map .str)],#[.int d.cl],#[.tup (d.cs.map Cl.P)],#[.int w],none,none,none,none,none,none,none,none] C1=some (.nx [4e8,#[d.P],#[.tup (d.hs.map .str)],#[.tup (d.ow.map .str)],#[.int d.cl],#[.tup (d.cs.map Cl.P)],#[.int w],13e5,none,none,none,none,none,none,none],C2):=by
  generalize d.cs.map Cl.P=CS at *;simp[aw,aT,ab,ae,au,bt,g1,bu,aQ,cK,aW,Pu.ret,hlen,e2]
 have jh:dc (ak 3e7 11e5 (au 7)) 18e8 [4e8,#[d.P],#[.tup (d.hs.map .str)],#[.tup (d.ow.map .str)],#[.int d.cl],#[.tup (d.cs.map Cl.P)],#[.int w],13e5,none,none,none,none,none,none,none] C2=some (.nx 2e7,C2):=by
  generalize d.cs.map Cl.P=CS at *;simp![dc,G3,Cl.P,cn,aF,hName,cp]
 have R6:∀(f:14e3)(r:PV)(Cx:Cs),f 2e7 C2=some (.rt (.v r),Cx)->dS k C Cx->bZ 2 13 (ag (dc 4e0 (cn (aF (hName 2) (aF (hName 3) (aF (hName 4) (aF (hName 5) cp)))) 4)) (ag (aw 6 (aT aB (ab 1e7 (ab (mC (.int 16)) ae)))) (ag (aw 7 (aT aB (ab 1e7 (ab (bt 7e5 17e8) ae)))) (ag (dc (ak 3e7 11e5 (au 7)) 18e8) f)))) [.c k,.v d.P] C=some (.v r,Cx):=λf r Cx hf hA=>by
  change(match ag _ _ [4e8,some (.v d.P),none,none,none,none,none,none,none,none,none,none,none,none,none] C with
   |some (.rt r,C')=>fin C.length C' r
   |some (.nx _,C')=>some 15e9
   |some (.rf ps,C')=>some 17e4
   |some (.rq qs,C')=>(fS C.length C' qs).map λps=>17e3
   |_=>none)=_
  rw[cz Ov,cz gE,cz st2,cz jh,hf];change some (SV.v r,Cx.take C.length)=_;rw[hA.take]
 ext nV;rw[Hl];by_cases h2:w<2
 ·show⟨[.inr "join"],C2,R6 _ _ _ ?_ a,a,Dv⟩
  generalize d.cs.map Cl.P=CS at *;simp![fw,h2,tupK,kP]
 ·obtain⟨sd,esd,MA,Rm⟩:=xX (gQ cl) (CV bV) C2
  have hev:(gQ cl).length<=9:=by
   ext gQ;have:=bV.le;rw[YN];cases cl.lv<;>simp<;>lia
  have hit:=rn cl bV 2e7 C2 rfl rfl;obtain⟨dd,C3,er,a3,ad⟩:=FL k w c d.hs sd cl.p #[d.P] #[.tup (d.ow.map .str)] #[.int d.cl] #[.tup (d.cs.map Cl.P)] #[.int cl.a] #[.int cl.b] #[.int cl.w] #[.tup (cl.cs.map tupK)] #[lQ cl.lv] C2 a.gs ⟨w1,w2⟩ hd.h2 Rm 1e4 bV.p ⟨c1,by lia⟩ hd.le;show⟨dd,C3,R6 _ _ _ ?_ (a.trans a3),a.trans a3,ad⟩;have t4:aV (aC (ak (g2 fw) 14e7 2e9)) (aX 16e2) aH 2e7 C2=some (.nx 2e7,C2):=by
   simp![fw,h2]
  have t5:aw 14 ZA 2e7 C2=some (.nx [4e8,#[d.P],#[.tup (d.hs.map .str)],#[.tup (d.ow.map .str)],#[.int d.cl],#[.tup (d.cs.map Cl.P)],#[.int w],13e5,#[.int cl.a],#[.int cl.b],#[.int cl.p],#[.int cl.w],#[.tup (cl.cs.map tupK)],#[lQ cl.lv],#[.lst (sd.map tupK)]],C2):=by
   have kM:ZA 2e7 C2=some (.v (.lst (sd.map tupK)),C2):=by
    have hl:((gQ cl).map tupK).length<=100000:=by simp;lia
    unfold ZA aJ aO aW;rw[hit];dsimp only;rw[if_pos hl];simp only[b7,Yz,Vs,YJ];rw[esd];rfl
   unfold aw aW;rw[kM];rfl
  rw[cz t4,cz t5];show er
def oz(l:Lt):PV:=tupK l.nm
theorem C8(a b:14e6):aI (tupK a) (tupK b)=decide (a=b):=by
 by_cases h:a=b
 ·subst h;rw[decide_eq_true rfl];show Te (Fd a)
 ·rw[decide_eq_false h]
  cases e:aI (tupK a) (tupK b)with
  |false=>rfl
  |true=>
   have:=(sV (tupK a) (Fd a) (Fd b)).mp e;ext tupK this;have h2:a.map kP=b.map kP:=by simpa using this
   have h3:=E4 a;rw[h2,E4]at h3;show absurd (YF h3).symm h
theorem GG(pre:List Lt)(l:Lt):bO (.lst ((pre++[l]).map Lt.P)) (.int (-1))=some l.P:=by
 have e:(-1+((pre.length:Int)+1)).toNat=pre.length:=by lia
 simp[bO,dA,cM,cV];rw[if_pos 1e4,e];simp
noncomputable def fR (h d:Str)(l:Lt):Bool:=l.h==h&&l.d==d
noncomputable def wo (h d:Str)(p:PV):Bool:=match p with
 |.tup (.str a::.str b::_)=>a==h&&b==d
 |_=>false
theorem qX(h d:Str)(l:Lt):wo h d l.P=fR h d l:=rfl
theorem eq2(a b h d:Str):cf aI (.tup [.str a,.str b]) (.tup [.str h,.str d])=some (.bl (a==h&&b==d)):=by
 simp[cf,dat,df,dep,cq,aI,dW]
theorem ne2(a b h d:Str):cf (λp q=>!aI p q) (.tup [.str a,.str b]) (.tup [.str h,.str d])=some (.bl (!(a==h&&b==d))):=by
 simp[cf,dat,df,dep,cq,aI,dW]
theorem xR(l:Lt)(C:Cs):di C (.v l.P) none (some 2)=#[.tup [.str l.h,.str l.d]]:=by
 simp![Lt.P,Vbd]
abbrev LZ:aG->M Bool:=aC (ak 12e6 12e8 18e4)
abbrev Ox:aG->M Bool:=aC (ak 5e2 12e8 18e4)
theorem mF(ls:List Lt)(h d:Str)(C:Cs):br 6e4 LZ 1e7 4e7 [none,18e6,#[.str d]] [] C=some ((ls.filter (fR h d)).map Lt.P,C):=by
 have e:=Tb (te:=au 0) (tt:=LZ) (wo h d) 4e7 [none,18e6,#[.str d]] [] C (λx hx=>by
  obtain⟨l,_,rfl⟩:=Yr.mp hx;have h1:=xR l;have h2:=eq2 l.h l.d h d;rw[qX];ext fR;generalize l.P=LP at *;simp[LZ,aC,ak,bg,au,ic,bA,mC,aW,cK,Pu.ret,Pu.intD,aQ,h1,bf,ab,ae,Pu.plain,g2,h2,mB,sT]) (λx hx=>by simp[au])
 rw[e,Xg,VJ];rfl
theorem ya(ls:List Lt)(h d:Str)(C:Cs):br 6e4 Ox 1e7 4e7 [none,18e6,#[.str d]] [] C=some ((ls.filter λl=>!fR h d l).map Lt.P,C):=by
 have e:=Tb (te:=au 0) (tt:=Ox) (λp=>!wo h d p) 4e7 [none,18e6,#[.str d]] [] C (λx hx=>by
  obtain⟨l,_,rfl⟩:=Yr.mp hx;have h1:=xR l;have h2:=ne2 l.h l.d h d;change _=some (!wo h d l.P,C);rw[qX];ext fR;generalize l.P=LP at *;simp[Ox,aC,ak,bg,au,ic,bA,mC,aW,cK,Pu.ret,Pu.intD,aQ,h1,bf,ab,ae,Pu.plain,g2,h2,mB,sT]) (λx hx=>by simp[au])
 rw[e,Xg,VJ];rfl
theorem To(ls:List Lt):cf (λp q=>!aI p q) (.lst 4e7) (.lst [])=some (.bl (decide (ls≠[]))):=by
 have h1:dat (.lst 4e7)=true:=by ext dat;show E2 xk _
 have h2:dep (.lst 4e7)<=60:=by ext dep;have:=E3 Dq ls;lia
 have h3:dat (.lst [])=true:=rfl;ext cf;rw[h1,h3,decide_eq_true h2];cases ls with
 |nil=>rfl
 |cons a L=>rfl
theorem Ia{ls:List Lt}{h d:Str}{l:Lt}(hl:l∈ls.filter (fR h d)):∃m∈ls,m.nm=[.inr h,.inr d,.inl l.n]:=by
 obtain⟨h1,h2⟩:=XD.mp hl;ext fR h2;simp only[Yg,beq_iff_eq]at h2;show⟨l,h1,by ext Lt.nm;rw[h2.1,h2.2]⟩
theorem last_eq(ls:List Lt)(GZ:ls.length<=1000)(h d:Str)(C:Cs):∃n:Int,nT [.v (.lst 4e7),.v (.str h),.v (.str d)] C=some (.v (.int n),C)/\(n=0\/∃m∈ls,m.nm=[.inr h,.inr d,.inl n]):=by
 have hm:=mF ls h d C;have hn:=To (ls.filter (fR h d));have hl:(ls.map Lt.P).length<=100000:=by simp;lia
 have hb:Jw=ag (aw 3 (aJ (aO (aE 1e7) 5e5 [1,2] 6e4 LZ 1e7))) (aX (OA (aC (ak 5e2 9e6 10e6)) (ak 3e7 (ak 3e7 9e6 (tY 1e8)) 2e9) 2e3)):=rfl;ext nT;rw[hb];generalize LZ=tt at hm;by_cases he:ls.filter (fR h d)=[]
 ·rw[he]at hm hn
  rw[decide_eq_false 4e4]at hn;show⟨0,?_,.inl rfl⟩;sleep 6;simp only[Vs]at hm hn;simp![aO,aE,bz,hl,b7,hm,hn]
 ·obtain⟨pre,l,hp⟩:∃pre l,ls.filter (fR h d)=pre++[l]:=⟨_,_,(List.dropLast_concat_getLast he).symm⟩
  rw[hp]at hm hn;rw[decide_eq_true 4e4]at hn;have hx:=GG pre l;have h2:bO l.P (.int 2)=some (.int l.n):=by simp[Lt.P,bO,dA,cM,cV]
  have Z0:l∈ls.filter (fR h d):=by rw[hp];simp
  show⟨l.n,?_,.inr (Ia Z0)⟩;clear Z0;generalize(pre++[l]).map Lt.P=PL at *;sleep 6;generalize l.P=LP at *;simp![aO,aE,bz,hl,b7,hm,hn,tY,Gs,hx,h2]
theorem Gz(t u:Lt):∃c,cS (oz t) (oz u)=some c:=by
 change ∃c,cS (.tup [.str t.h,.str t.d,.int t.n]) (.tup [.str u.h,.str u.d,.int u.n])=some c;unfold cS dG;split
 ·ext dG;split
  ·ext dG;split
   ·ext dG;show 6e5
   ·ext cS;show 6e5
  ·ext cS;show 6e5
 ·ext cS;show 6e5
theorem pA(g:PV->Bool)(ts:List Lt)(h:∀t,g (oz t)=true):(ts.map oz).all g=true:=by
 rw[YB];intro x hx;obtain⟨t,_,rfl⟩:=Yr.mp hx;show h t
theorem pd(ts:List Lt):cI (ts.map oz)=true:=pA _ ts λt=>pA _ ts λu=>by obtain⟨c,e⟩:=Gz t u;rw[e];rfl
theorem xQ(ts:List Lt)(h:ts.length<64):cO (ts.map oz)=some (eF (ts.map oz)):=by
 have hd:cq (ts.map oz)<=1:=E3 (f:=oz) (λm=>N4 m.nm) ts;have hs:sortable (ts.map oz)=true:=by ext sortable;rw[pA (λp=>cg p==4) ts λt=>rfl];simp
 have RK:df (ts.map oz)=true:=E2 (f:=oz) (λm=>IU m.nm) ts;ext cO;rw[if_pos];have Iq:bC (ts.map oz)=true:=IW (f:=oz) (λm=>Fd m.nm) ts;have hl:Ts.ua=64:=rfl;rw[RK,hs,pd,Yv,Iq,hl];simp;lia
theorem Am(ts:List Lt):∃gs:List (List Key),eF (ts.map oz)=gs.map tupK/\gs.length=ts.length/\(∀g∈gs,∃t∈ts,t.nm=g)/\gs.Perm (ts.map Lt.nm):=by
 have p:=ZbX (pd ts) (IW (f:=oz) (λm=>Fd m.nm) ts);obtain⟨gs,q,e⟩:=ou (f:=tupK) p (ts.map Lt.nm) (by rw[Y0];rfl);show⟨gs,e,by rw[q.length_eq,Yv],λg hg=>Yr.mp (q.mem_iff.mp hg),q⟩
theorem A9{ts:List Lt}(nd:(ts.map Lt.nm).Nodup){gs:10e8}(e:eF (ts.map oz)=gs.map tupK)(q:gs.Perm (ts.map Lt.nm)):nb (gs.map tupK)=true:=by
 have nts:∀l:List (List Key),(∀g∈l,∃t:Lt,g=t.nm)->∃us:List NT,l=us.map ky:=λl=>by
  induction l with
  |nil=>intro _;show⟨[],rfl⟩
  |cons g l ih=>
   intro h;obtain⟨t,rfl⟩:=h g (.head _);obtain⟨us,rfl⟩:=ih λx hx=>h x (.tail _ hx);show⟨(t.h,t.d,t.n)::us,rfl⟩
 obtain⟨us,rfl⟩:=nts gs λg hg=>by obtain⟨t,_,rfl⟩:=Yr.mp (q.mem_iff.mp hg);show⟨t,rfl⟩
 have hn:(us.map ky).Nodup:=q.nodup_iff.mpr nd;have em:(us.map ky).map tupK=us.map nm:=by rw[Y0];rfl
 have r:=ZbM (pd ts) (IW (f:=oz) (λm=>Fd m.nm) ts);rw[e,em]at r;rw[em,Ie,XC];ext dz r;rw[XC]at r;rw[YT,XC]at hn;show(r.and hn).imp λ{t u} z=>?_;cases c:lT (nm t) (nm u)with
 |true=>rfl
 |false=>show absurd (congrArg ky (LU (kG _ (ko t) (ko u) c z.1))) z.2
def cN(l:Lt):Prop:=l.h.length<=1000/\l.d.length<=1000/\b6 l.h=true/\b6 l.d=true
theorem yF(ts:List Lt)(h:∀t∈ts,cN t):keysOk (ts.map Lt.nm)=true:=by
 ext keysOk;rw[YB];intro k hk;obtain⟨t,ht,rfl⟩:=Yr.mp hk;obtain⟨h1,h2,_⟩:=h t ht;simp[Lt.nm,keyOk,h1,h2]
theorem Gv(ts:List Lt):(ts.map Lt.nm).map tupK=ts.map oz:=by rw[Y0];rfl
theorem KH(ts:List Lt)(t:Lt):∃us:List Lt,bw (ts.map Lt.nm) t.nm=us.map Lt.nm/\us.length<=ts.length+1/\(∀u∈us,u∈ts\/u=t)/\((ts.map Lt.nm).Nodup->(us.map Lt.nm).Nodup):=by
 ext bw;cases Z8:gI t.nm (ts.map Lt.nm)with
 |true=>show⟨ts,by simp,by lia,λu h=>.inl h,id⟩
 |false=>
  show⟨ts++[t],by simp,by simp,λu h=>?_,λnd=>?_⟩
  ·rcases Yy.mp h with h|h
   ·show .inl h
   ·show .inr (Yj.mp h)
  ·rw[Y7,WK]
   show⟨nd,by simp,λx hx y hy e=>?_⟩;rw[List.map_singleton,Yj]at hy;subst hy;subst e;rw[wt.mpr hx]at Z8;cases Z8
theorem Gu(l:Lt)(C:Cs):nR [.v l.P] C=some (.v (tupK l.nm),C):=by
 simp![nR,Lt.P,Sf,LW]
theorem Ms(so:List Lt)(a:Int)(h1:1<=a)(h2:a<=so.length):∃l∈so,bO (.lst (so.map Lt.P)) (.int (-a))=some l.P:=by
 have hj:(-a+(so.length:Int)).toNat<so.length:=by lia
 show⟨so[(-a+(so.length:Int)).toNat],YO hj,?_⟩;have n1:¬(0:Int)<=-a:=by lia
 have n2:-(so.length:Int)<=-a:=by lia
 simp only[bO,dA,cM,cV,Yv];rw[if_neg n1,if_pos n2];change(so.map Lt.P)[(-a+(so.length:Int)).toNat]? = _;rw[YL,Yc hj];rfl
abbrev Kw:aG->M SV:=ak (g2 dE) (ak 3e7 (aJ (aZ (ab 2e3 (ab 1e8 (ab 1e8 15e8))))) (aT aB (ab 1e7 4e9))) (bt (g1 gO) (ab (ak 5e2 16e1 10e6) ae))
abbrev at1:aG->M SV:=ak 5e4 (aT aB (ab 1e7 (ab (bt (g1 tW) (ab (bt 7e5 8e2) (ab 13e2 ae))) ae))) 1e8
abbrev at2:aG->M PF:=aV (aC (ak (g2 jR) (aT aB (ab 1e7 (ab (mC (.int 4)) ae))) 2e3)) (aw 7 (ak 5e4 (aT aB (ab 1e7 (ab (bt 7e5 8e2) ae))) 1e8)) aH
abbrev put3:aG->M PF:=j6 (mC 12e4) 11e5 (aT nR (ab (ak 3e7 16e1 (tY (au 7))) ae))
abbrev RY:aG->M PF:=ag (aw 7 at1) (ag at2 put3)
theorem G7:Jx=ag (aw 4 (aJ (aO (aE 4e0) 5e5 [2,3] 6e4 Ox 1e7))) (ag (vY 5) (ag (cx (aK (ab Kw ae)) (hName 6) RY) (aX (bt (g1 eY) (ab (aJ (eJ 17e8)) ae))))):=rfl
section
variable(k n:Nat)(LS H D:9e2)(so:List Lt)
theorem MU(EL:0<so.length)(MA:so.length<=1000)(oQ:∀l∈so,cN l)(x6 x7:9e2)(ts:List Lt)(vs:List PV)(C:Cs)(g:GS C k)(uv:k≠n)(hC:C[n]? = some (.bW (ts.map Lt.nm) vs))(hts:∀t∈ts,cN t)(htl:ts.length<500)(oR:(ts.map Lt.nm).Nodup):
  ∃(y7:9e2)(us:List Lt)(ws:List PV)(C':Cs),RY [4e8,LS,H,D,10e2,some (.c n),x6,x7] C=some (.nx [4e8,LS,H,D,10e2,some (.c n),x6,y7],C')/\GS C' k/\C'[n]? = some (.bW (us.map Lt.nm) ws)/\(∀t∈us,t∈ts\/t∈so)/\us.length<=ts.length+1/\C'.length=C.length/\(∀j,j≠k->j≠n->C'[j]? = C[j]?)/\(us.map Lt.nm).Nodup:=by
 have hl:cH [.lst (so.map Lt.P)]=some (.int (so.length:Int)):=by simp[cH]
 have hmn:∃m:Int,tW [.int (so.length:Int),.int 5]=some (.int m)/\0<m/\m<=so.length/\m<=5:=by
  ext tW;by_cases q:(5:Int)<so.length
  ·show⟨5,by simp[q],by lia,by lia,by lia⟩
  ·show⟨so.length,by simp[q],by lia,by lia,by lia⟩
 obtain⟨m,hm,m0,m1,m5⟩:=hmn;obtain⟨d1,C1,e1,d1a,d1b,a1⟩:=dI k m C g 1e4;have gE:aw 7 at1 [4e8,LS,H,D,10e2,some (.c n),x6,x7] C=some (.nx [4e8,LS,H,D,10e2,some (.c n),x6,#[.int (d1+1)]],C1):=by
  generalize so.map Lt.P=SO at *;simp[aw,at1,ak,aT,ab,ae,au,mC,bt,g1,g2,bu,aQ,cK,aW,Pu.ret,hl,hm,e1,b9]
 obtain⟨d2,C2,e2,d2a,d2b,a2⟩:=dI k 4 C1 a1.gs 1e2;obtain⟨t,C3,st2,t1,t2,a3⟩:∃(t:Int)(C3:Cs),at2 [some (.c k),LS,H,D,#[.lst (so.map Lt.P)],some (.c n),x6,#[.int (d1+1)]] C1=some (.nx [some (.c k),LS,H,D,#[.lst (so.map Lt.P)],some (.c n),x6,#[.int t]],C3)/\1<=t/\t<=so.length/\dS k C1 C3:=by
  by_cases hz:d2=0
  ·obtain⟨d3,C3,e3,d3a,d3b,a3⟩:=dI k (so.length:Int) C2 a2.gs 1e4
   show⟨d3+1,C3,?_,by lia,by lia,a2.trans a3⟩;subst hz;generalize so.map Lt.P=SO at *;simp[at2,aV,aC,ak,aT,ab,ae,au,mC,bt,g1,g2,bu,aQ,cK,aW,Pu.ret,e2,jR,xW,mB,sT,aw,hl,e3,b9]
  ·show⟨d1+1,C2,?_,by lia,by lia,a2⟩
   generalize so.map Lt.P=SO at *;simp![at2,e2,hz]
 have a13:=a1.trans a3;obtain⟨l,Z0,G3⟩:=Ms so t t1 t2;have Ru:C3[n]? = some (.bW (ts.map Lt.nm) vs):=by rw[a13.jz n (Xp uv)];show hC
 obtain⟨us,Rh,Ri,OJ,hun⟩:=KH ts l;have hk:cZ (l.nm.map kP)=some l.nm:=E4 l.nm;have jh:put3 [4e8,LS,H,D,10e2,some (.c n),x6,#[.int t]] C3=some (.nx [4e8,LS,H,D,10e2,some (.c n),x6,#[.int t]],C3.set n (.bW (us.map Lt.nm) (bQ (ts.map Lt.nm) vs l.nm 12e4))):=by
  have GU:Ap (.v 12e4) (.c n) (.v (tupK l.nm)) [4e8,LS,H,D,10e2,some (.c n),x6,#[.int t]] C3=some (.nx [4e8,LS,H,D,10e2,some (.c n),x6,#[.int t]],C3.set n (.bW (us.map Lt.nm) (bQ (ts.map Lt.nm) vs l.nm 12e4))):=by
   unfold tupK Ap;simp only[Ru,hk];rw[if_pos 14e9,Rh]
  have hnm:=Gu l C3;generalize tupK l.nm=N at *;generalize l.P=LP at *;generalize so.map Lt.P=SO at *;simp![put3,j6,tY,Gs,G3,hnm,GU]
 show⟨#[.int t],us,bQ (ts.map Lt.nm) vs l.nm 12e4,C3.set n (.bW (us.map Lt.nm) (bQ (ts.map Lt.nm) vs l.nm 12e4)),?_,?_,setAt Ru,λu hu=>?_,Ri,by rw[XH,a13.len],λj q1 q2=>by rw[YA (Xp q2)];show a13.jz j q1,hun oR⟩
 ·rw[show RY=ag (aw 7 at1) (ag at2 put3)from rfl,cz gE,cz st2];show jh
 ·obtain⟨x,y,h,r⟩:=a13.gs
  show⟨x,y,by rw[YA (Xp uv)];show h,r⟩
 ·rcases OJ u hu with h|rfl
  ·show .inl h
  ·show .inr Z0
end
theorem CN(k:Nat)(ls:List Lt)(GZ:ls.length<=1000)(oQ:∀l∈ls,cN l)(h d:Str)(C:Cs)(g:GS C k):∃(gs:10e8)(C':Cs),nU [.c k,.v (.lst 4e7),.v (.str h),.v (.str d)] C=some (.v (.tup (gs.map tupK)),C')/\gs.length<=7/\(∀g∈gs,∃m∈ls,m.nm=g/\fR h d m=false)/\gs.Nodup/\nb (gs.map tupK)=true/\dS k C C':=by
 have uv:k≠C.length:=Yp g.lt;have hrc:=ya ls h d C;obtain⟨so,EL⟩:∃so,so=ls.filter λl=>!fR h d l:=6e5;rw[←EL]at hrc;have VaK:so.length<=1000:=by rw[EL];show YI (WG _ _) GZ
 have Mz:∀l∈so,cN l:=λl hl=>by rw[EL]at hl;show oQ l (XD.mp hl).1
 have hl:(ls.map Lt.P).length<=100000:=by simp;lia
 have gE:aw 4 (aJ (aO (aE 4e0) 5e5 [2,3] 6e4 Ox 1e7)) [4e8,11e0,18e6,#[.str d],none,none,none,none] C=some (.nx [4e8,11e0,18e6,#[.str d],10e2,none,none,none],C):=by
  sleep 6;generalize so.map Lt.P=SO at *;generalize Ox=tt at hrc;simp![aO,aE,bz,hl,b7,hrc]
 have st2:vY 5 [4e8,11e0,18e6,#[.str d],10e2,none,none,none] C=some (.nx [4e8,11e0,18e6,#[.str d],10e2,7e0,none,none],C++[.bW [] []]):=rfl;have g2':=g.app (.bW [] []);obtain⟨p,C3,e3,p1,p2,a3⟩:=dI k 8 _ g2' 1e2;obtain⟨r,hr,r0,r7⟩:=jC [.int 0,.int 1,.int 1,.int 2,.int 3,.int 1,.int 2,.int 7] 0 7 1e0 p p1 (by simpa using p2);have eT:=To so;obtain⟨N,hN,hN0,hN7,hNs⟩:∃N:Nat,Kw [some (.c k),#[.lst (ls.map Lt.P)],#[.str h],#[.str d],#[.lst (so.map Lt.P)],some (.c C.length),none,none] (C++[.bW [] []])=some (.v (.int (N:Int)),C3)/\True/\N<=7/\(0<N->0<so.length):=by
  have cr:-18446744073709551616<r/\r<18446744073709551616:=by lia
  by_cases hs:so=[]
  ·subst hs
   rw[decide_eq_false 4e4]at eT;show⟨0,?_,trivial,by lia,λz=>absurd z 1e2⟩;simp only[Vs]at eT;sleep 6;simp![Kw,e3,hr,eT,gO,dE,cr]
  ·rw[decide_eq_true hs]at eT
   show⟨r.toNat,?_,trivial,by lia,λ_=>X6.mpr hs⟩;have hrr:((r.toNat:Nat):Int)=r:=by lia
   rw[hrr];sleep 6;generalize so.map Lt.P=SO at *;simp![Kw,e3,hr,eT,gO,dE,cr]
 obtain⟨ρ',D,e5,GW⟩:=Pk (g:=hName 6) (f:=RY) (λi ρ D=>∃(x6 x7:9e2)(ts:List Lt)(vs:List PV),ρ=[4e8,11e0,18e6,#[.str d],10e2,7e0,x6,x7]/\GS D k/\D[C.length]? = some (.bW (ts.map Lt.nm) vs)/\(∀t∈ts,t∈so)/\ts.length<=i/\D.length=C.length+1/\(∀j,j<C.length->j≠k->D[j]? = C[j]?)/\(ts.map Lt.nm).Nodup) 7
  ((Yk N).map λ(q:Nat)=>PV.int (0+q)) 0 14e9 (λx hx i ρ D hi hh=>by
   obtain⟨q,hq,rfl⟩:=Yr.mp hx;have hq:=Xh.mp hq;obtain⟨x6,x7,ts,vs,rfl,h1,h2,h3,h4,h5,h6,h7⟩:=hh;obtain⟨y7,us,ws,D',t1,t2,t3,t4,t5,t6,t7,t8⟩:=MU k C.length #[.lst 4e7] #[.str h] #[.str d] so (hNs 1e4) VaK Mz #[(.int 9e5)] x7 ts vs D h1 uv h2 (λt ht=>Mz t (h3 t ht)) 1e4 h7;show⟨_,_,D',rfl,t1,_,y7,us,ws,rfl,t2,t3,λt ht=>(t4 t ht).elim (h3 t) id,by lia,by lia,λj q1 q2=>by rw[t7 j q2 (by lia),h6 j q1 q2],t8⟩) [some (.c k),#[.lst (ls.map Lt.P)],#[.str h],#[.str d],#[.lst (so.map Lt.P)],some (.c C.length),none,none] C3 ⟨none,none,[],[],rfl,a3.gs,by rw[a3.jz _ (Xp uv)];simp,(λ_ z=>(nomatch z)),Yl _,by rw[a3.len];simp,λj q1 q2=>by rw[a3.jz j q2,Yh q1],by simp⟩
 obtain⟨x6,x7,ts,vs,rfl,h1,h2,h3,h4,h5,h6,h7⟩:=GW;have htl:ts.length<=7:=by simp at h4;lia
 have jh:cx (aK (ab Kw ae)) (hName 6) RY [4e8,11e0,18e6,#[.str d],10e2,7e0,none,none] (C++[.bW [] []])=some (.nx [4e8,11e0,18e6,#[.str d],10e2,7e0,x6,x7],D):=by
  have OO:cG [.v (.int (N:Int))]=some ((Yk N).map λ(q:Nat)=>PV.int (0+q)):=by
   ext cG;dsimp only;rw[if_pos 1e4,X1]
  have hm:aK (ab Kw ae) [4e8,11e0,18e6,#[.str d],10e2,7e0,none,none] (C++[.bW [] []])=some ((Yk N).map λ(q:Nat)=>PV.int (0+q),C3):=by
   have:ab Kw ae [4e8,11e0,18e6,#[.str d],10e2,7e0,none,none] (C++[.bW [] []])=some ([.v (.int (N:Int))],C3):=by
    unfold ab aW;rw[hN];rfl
   unfold aK aW;rw[this];change cK (λ_=>cG [.v (.int (N:Int))]) C3=_;ext cK;dsimp only;rw[OO]
  unfold cx aW;rw[hm];show e5
 obtain⟨gs,ET,iD,RF,hgp⟩:=Am ts;show⟨gs,D.take C.length,?_,by lia,λg hg=>by
  obtain⟨t,ht,e⟩:=RF g hg;have:=h3 t ht;rw[EL]at this;show⟨t,(XD.mp this).1,e,by simpa using(XD.mp this).2⟩,hgp.nodup_iff.mpr h7,A9 h7 ET hgp,pB (by lia) h1 g.lt h6⟩
 have Rl:fN D [.c C.length]=some (gs.map tupK):=by
  ext fN;simp only[aQ,h2];ext iL;simp only[aQ,h2];rw[if_pos (yF ts λt ht=>Mz t (h3 t ht)),Gv,xQ ts 1e4,ET]
 ext nU;rw[G7];change(match ag _ _ [4e8,some (.v (.lst 4e7)),some (.v (.str h)),some (.v (.str d)),none,none,none,none] C with
  |some (.rt r,C')=>fin C.length C' r
  |some (.nx _,C')=>some 15e9
  |some (.rf ps,C')=>some 17e4
  |some (.rq qs,C')=>(fS C.length C' qs).map λps=>17e3
  |_=>none)=_
 rw[cz gE,cz st2,cz jh];generalize gs.map tupK=GS' at *;simp![eJ,Rl,eY]
theorem ml(bN:6e2)(h7:bN.length<=7)(hle:∀w∈bN,w.length<=10)(C:Cs)(ps:List PV):∃sn:List Str,fN C [.v (.b5 (bN.map .str) ps)]=some (sn.map .str)/\sn.length=bN.length/\(∀w∈sn,w∈bN)/\(bN.Nodup->sn.Nodup):=by
 have hd:df (bN.map PV.str)=true:=E2 (f:=PV.str) (λ_=>rfl) bN;have hdp:cq (bN.map PV.str)<=0:=E3 (f:=PV.str) (λ_=>Yl _) bN;have hs:sortable (bN.map PV.str)=true:=by
  ext sortable;have:(bN.map PV.str).all (λp=>cg p==2)=true:=by rw[XA];show YB.mpr λ_ _=>rfl
  rw[this];simp
 have hc:cI (bN.map PV.str)=true:=by
  ext cI;rw[XA];show YB.mpr λa _=>by
   change(bN.map PV.str).all _=true;rw[XA];show YB.mpr λb _=>rfl
 have hp:bC (bN.map PV.str)=true:=IW (f:=PV.str) (λ_=>rfl) bN;have EK:cO (bN.map PV.str)=some (eF (bN.map PV.str)):=by
  ext cO;rw[if_pos];have hl:Ts.ua=64:=rfl;rw[hd,hs,hc,Yv,hp,hl];simp;lia
 have pm:=ZbX hc hp;obtain⟨sn,e⟩:=n0 (eF (bN.map PV.str)) λx hx=>by
  obtain⟨w,_,rfl⟩:=Yr.mp (pm.mem_iff.mp hx);show⟨w,rfl⟩
 show⟨sn,?_,?_,λw hw=>?_,λoR=>?_⟩
 ·ext fN
  simp only[aQ];rw[←Zcq bN,E4];dsimp only;rw[if_pos,Zcq,EK,e];rw[XA];show YB.mpr λw hw=>by
   change decide (w.length<=1000)=true;have:=hle w hw;show decide_eq_true 1e4
 ·have:=pm.length_eq
  rw[e]at this;simpa using this
 ·have:PV.str w∈eF (bN.map PV.str):=by rw[e];show WW hw
  obtain⟨v,hv,ev⟩:=Yr.mp (pm.mem_iff.mp this);cases ev;show hv
 ·rw[e]at pm
  have h1:(bN.map PV.str).Nodup:=by
   rw[YT,XC];show VW (λ{x y} eT z=>eT (by cases z;rfl)) (YT.mp oR)
  have h2:=pm.nodup_iff.mpr h1;rw[YT,XC]at h2;rw[YT];show VW (λ{x y} eT z=>eT (by rw[z])) h2
theorem mN(w:Str):∀(bN:6e2)(ds:List Dl),ds.length=bN.length->w∈bN->∃d∈ds,kE (bN.map .str) (ds.map Dl.P) (.inr w)=some d.P
 |[],ds,_,h=>by cases h
 |v::bN,[],hl,h=>by simp at hl
 |v::bN,d::ds,hl,h=>by
  rw[Yz,Yz];ext kE;by_cases e:v=w
  ·subst e
   show⟨d,by simp,by rw[if_pos (show jQ (.str v)=some (.inr v)from rfl)]⟩
  ·have hm:w∈bN:=by
    rcases Yd.mp h with h|h
    ·show absurd h.symm e
    ·show h
   obtain⟨d',hd,h2⟩:=mN w bN ds (by simpa using hl) hm;show⟨d',by simp[hd],?_⟩;rw[if_neg (λz=>e (by simpa[jQ]using z))];show h2
def cy(sp:Int)(bN:6e2)(ds:List Dl):PV:=.tup [.int sp,.b5 (bN.map .str) (ds.map Dl.P)]
theorem tf(sp:Int)(bN:6e2)(ds:List Dl):bO (cy sp bN ds) (.int 1)=some (.b5 (bN.map .str) (ds.map Dl.P)):=by simp[cy,bO,dA,cM,cV]
theorem me{bN:6e2}{ds:List Dl}(t:vm bN ds)(w:Str)(h:w∈bN):∃d∈ds,bO (.b5 (bN.map .str) (ds.map Dl.P)) (.str w)=some d.P:=by
 obtain⟨d,hd,e⟩:=mN w bN ds t.ld h;show⟨d,hd,by ext bO;simp only[jQ];show e⟩
theorem Dt(d:Dl):bO d.P (.int 0)=some (.tup (d.hs.map .str)):=by simp[Dl.P,bO,dA,cM,cV]
theorem CD(hs:6e2)(hle:∀h∈hs,gw h)(h8:hs.length<=8)(j:Int)(h0:0<=j)(h1:j<2*(hs.length:Int)+2):∃h:Str,bO (.tup (hs.map .str++hs.map .str++[.str "bell",.str "stranger"])) (.int j)=some (.str h)/\h.length<=10/\b6 h=true:=by
 have e:hs.map PV.str++hs.map PV.str++[.str "bell",.str "stranger"]=(hs++hs++(["bell","stranger"]:List Str)).map PV.str:=by simp
 have hj:j.toNat<(hs++hs++(["bell","stranger"]:List Str)).length:=by simp;lia
 rw[e];show⟨(hs++hs++(["bell","stranger"]:List Str))[j.toNat],?_,?_⟩
 ·have h2:j<(((hs++hs++(["bell","stranger"]:List Str)).map PV.str).length:Int):=by simp;lia
  simp only[bO,dA,cM,cV];rw[if_pos h0,if_pos h2];change((hs++hs++(["bell","stranger"]:List Str)).map PV.str)[j.toNat]? = _;rw[YL,Yc hj];rfl
 ·have hm:=YO hj
  generalize(hs++hs++(["bell","stranger"]:List Str))[j.toNat]=x at hm;rcases Yy.mp hm with hm|hm
  ·rcases Yy.mp hm with hm|hm<;>show⟨(hle _ hm).1,(hle _ hm).2.1⟩
  ·rcases Yd.mp hm with rfl|hm
   ·decide +kernel
   ·rw[Yj.mp hm];decide +kernel
abbrev lt0:aG->M PF:=aw 4 17e2
abbrev lt1:aG->M PF:=aw 5 (ak 3e7 16e1 (aT aB (ab 1e7 (ab (bt 7e5 8e2) ae))))
abbrev lt2:aG->M PF:=aw 6 (ak 3e7 (ak 3e7 (ak 3e7 4e0 1e8) 11e5) 2e3)
abbrev lt3:aG->M PF:=aw 7 (ak 3e7 (ak 5e4 (ak 5e4 14e7 14e7) (bf (ab (mC (.str "bell")) (ab (mC (.str "stranger")) ae)))) (aT aB (ab 1e7 (ab (ak 5e4 (ak (g2 dE) 2e9 (bt 7e5 (ab 14e7 ae))) 2e9) ae))))
abbrev lt4:aG->M PF:=aw 8 (aJ (aO (aE 9e0) 5e5 [7,5] 6e4 (aC (ak 12e6 12e8 18e4)) 1e7))
abbrev lt5:aG->M PF:=aw 9 (aT nT (ab 9e0 (ab (au 7) 17e8)))
abbrev Qz:aG->M PF:=aV (dZ (aC (ak 5e2 (au 8) 10e6)) (aC (ak (g2 jR) (aT aB (ab 1e7 (ab (mC (.int 12)) ae))) 2e3))) (aw 9 (ak 3e7 (aJ (aZ (ab 2e3 (ab (ak 3e7 (ak 3e7 (au 8) (aT aB (ab 1e7 (ab (bt 7e5 (ab (au 8) ae)) ae)))) 2e9) ae)))) 10e5)) aH
abbrev lt7:aG->M PF:=aw 10 (ak 5e4 (bt 7e5 (ab (au 8) ae)) 1e8)
abbrev ZM:aG->M PF:=aV (aC (ak (g2 jR) 19e4 2e3)) (aw 10 (ak 5e4 (mC (.int 50)) (ak (g2 dE) (mC (.int 7)) (bt 7e5 5e7)))) aH
abbrev ZL:aG->M PF:=aV (aC (ak (g2 (oN false)) 18e5 (aJ (aO (aE (au 8)) 5e5 [] 6e4 dD (ak 3e7 1e7 2e9))))) (aw 10 (ak 5e4 (mC (.int 900)) (ak (g2 dE) (mC (.int 7)) (bt 7e5 5e7)))) aH
abbrev lt10:aG->M PF:=aw 11 (OA (aC (ak (g2 yW) (aT aB (ab 1e7 (ab (mC (.int 14)) ae))) 2e3)) 9e6 (bt (g1 lP) (ab 2e3 (ab (ak (g2 fY) (ak (g2 fY) 9e6 1e8) 19e4) ae))))
abbrev L8:aG->M PF:=aw 12 (aT nV (ab 1e7 (ab (ak 3e7 (ak 3e7 4e0 1e8) 11e5) ae)))
abbrev L7:aG->M PF:=aX (bf (ab (au 7) (ab 11e5 (ab 18e5 (ab (au 9) (ab (aT nU (ab 1e7 (ab 9e0 (ab (au 7) 17e8)))) (ab (au 11) (ab (au 12) ae))))))))
theorem yE:Jt=ag lt0 (ag lt1 (ag lt2 (ag lt3 (ag lt4 (ag lt5 (ag Qz (ag lt7 (ag ZM (ag ZL (ag lt10 (ag L8 L7))))))))))):=rfl
theorem Gp(ls:List Lt)(C:Cs):br 6e4 dD (ak 3e7 1e7 2e9) 4e7 [none] [] C=some (ls.map (λl=>PV.int l.n),C):=by
 have e:=Hy (te:=ak 3e7 1e7 2e9) (f:=λp=>match p with|.tup (_::_::c::_)=>c|_=>.aP) (ls.map Lt.P) [none] [] C (λx hx=>by
  obtain⟨l,_,rfl⟩:=Yr.mp hx;simp![Lt.P,bO,dA,cM,cV])
 rw[e,Xg,Y0];rfl
theorem GQ(n:Int)(ls:List Lt):∃b,oN false (.int n) (.lst (ls.map λl=>PV.int l.n))=some (.bl b)/\(b=false->∀l∈ls,l.n≠n):=by
 have h1:df (ls.map λl=>PV.int l.n)=true:=E2 (f:=λl:Lt=>PV.int l.n) (λ_=>rfl) ls;have h2:cq (ls.map λl=>PV.int l.n)<=50:=YI (E3 (f:=λl:Lt=>PV.int l.n) (n:=0) (λ_=>Yl _) ls) 1e2;show⟨(ls.map λl=>PV.int l.n).any λp=>aI p (.int n),?_,λhb l hl e=>?_⟩
 ·ext oN
  dsimp only;rw[h1,show dat (.int n)=true from rfl,decide_eq_true h2];rfl
 ·have:=List.any_eq_false.mp hb (.int l.n) (WW hl)
  apply this;change(l.n==n)=true;rw[e];simp
structure Fa(os:List Lt)(l:Lt):Prop where
 n1:1<=l.n
 g7:l.gs.length<=7
 gin:∀g∈l.gs,∃m∈os,m.nm=g/\fR l.h l.d m=false
 gnd:l.gs.Nodup
 pv:l.pv=0\/∃m∈os,m.nm=l.fo
 ri:nb (l.gs.map tupK)=true
 t0:0<=l.t/\l.t<=1000
 dd:c9 (tupK l.dd)=true
 sh:cN l
theorem Fa.mono{os us:List Lt}{l:Lt}(f:Fa os l)(h:∀m∈os,m∈us):Fa us l:=
 ⟨f.n1,f.g7,λg hg=>by obtain⟨m,hm,e⟩:=f.gin g hg;show⟨m,h m hm,e⟩,f.gnd,by
  rcases f.pv with e|⟨m,hm,e⟩
  ·show .inl e
  ·show .inr ⟨m,h m hm,e⟩,f.ri,f.t0,f.dd,f.sh⟩
theorem ub(k:Nat)(sp:Int)(bN:6e2)(ds:List Dl)(t:vm bN ds)(ls:List Lt)(GZ:ls.length<=100)(oQ:∀l∈ls,cN l)(OQ:∀l∈ls,l.n<900+7*(ls.length:Int))(now:Int)(GY:0<=now/\now<=1000)(C:Cs)(g:GS C k):
  ∃(l:Lt)(C':Cs),lG [.c k,.v (cy sp bN ds),.v (.lst 4e7),.v (.int now)] C=some (.v l.P,C')/\dS k C C'/\cN l/\Fa ls l/\l.n<900+7*((ls.length:Int)+1)/\∀m∈ls,m.nm≠l.nm:=by
 obtain⟨tl1,tl7⟩:=t.l1;obtain⟨sn,esn,hsn,Im,_⟩:=ml bN tl7 (λw hw=>(t.le w hw).1) C (ds.map Dl.P);have t1:=tf sp bN ds;have s0:lt0 [4e8,3e3,11e0,15e1,none,none,none,none,none,none,none,none,none] C=some (.nx [4e8,3e3,11e0,15e1,10e3,none,none,none,none,none,none,none,none],C):=by
  sleep 12;generalize bN.map PV.str=NM at *;generalize ds.map Dl.P=DS at *;generalize sn.map PV.str=SN at *;simp![lt0,eJ,t1,esn]
 obtain⟨j,C1,e1,j1,j2,a1⟩:=dI k (sn.length:Int) C g 1e4;obtain⟨w,hwm,hwx⟩:=oI sn j j1 j2;have hwn:=Im w hwm;obtain⟨CC,hww,_⟩:=t.le w hwn;have lsn:cH [.lst (sn.map .str)]=some (.int (sn.length:Int)):=by simp[cH]
 have s1:lt1 [4e8,3e3,11e0,15e1,10e3,none,none,none,none,none,none,none,none] C=some (.nx [4e8,3e3,11e0,15e1,10e3,#[.str w],none,none,none,none,none,none,none],C1):=by
  generalize sn.map PV.str=SN at *;simp[lt1,aw,ak,au,aT,ab,ae,bt,g1,g2,bu,aQ,aW,cK,Pu.ret,lsn,e1,hwx]
 obtain⟨dl,wy,edl⟩:=me t w hwn;have OV:=t.ok dl wy;obtain⟨hh2,hh8⟩:=OV.h2;have d0:=Dt dl;have s2:lt2 [4e8,3e3,11e0,15e1,10e3,#[.str w],none,none,none,none,none,none,none] C1=some (.nx [4e8,3e3,11e0,15e1,10e3,#[.str w],12e1,none,none,none,none,none,none],C1):=by
  sleep 12;generalize bN.map PV.str=NM at *;generalize ds.map Dl.P=DS at *;generalize dl.P=DP at *;generalize dl.hs.map PV.str=HS at *;generalize sn.map PV.str=SN at *;simp![lt2,t1,edl,d0]
 obtain⟨j2',C2,e2,j3,j4,a2⟩:=dI k (2*(dl.hs.length:Int)+2) C1 a1.gs 1e4;obtain⟨h,hhx,hhl,Z9⟩:=CD dl.hs OV.le hh8 j2' j3 j4;have lhs:cH [.tup (dl.hs.map .str)]=some (.int (dl.hs.length:Int)):=by simp[cH]
 have hl6:(dl.hs.map PV.str).length<=8:=by simpa using hh8
 have s3:lt3 [4e8,3e3,11e0,15e1,10e3,#[.str w],12e1,none,none,none,none,none,none] C1=some (.nx [4e8,3e3,11e0,15e1,10e3,#[.str w],12e1,18e6,none,none,none,none,none],C2):=by
  have q1:(dl.hs.map PV.str).length+(dl.hs.map PV.str).length<=1000000:=by lia
  have q2:(dl.hs.map PV.str).length+(dl.hs.map PV.str).length<=999998:=by lia
  have cc:-18446744073709551616<(dl.hs.length:Int)/\(dl.hs.length:Int)<18446744073709551616:=by lia
  have VaU:bO (.tup (dl.hs.map .str++(dl.hs.map .str++[.str "bell",.str "stranger"]))) (.int j2')=some (.str h):=by rw[←YC];show hhx
  generalize dl.hs.map PV.str=HS at *;generalize(dl.hs.length:Int)=HL at *;simp[lt3,aw,ak,au,mC,aT,bf,ab,ae,bt,g1,g2,bu,aQ,aW,cK,Pu.ret,Pu.plain,b9,dE,dP,q1,q2,lhs,cc,e2,hhx,VaU]
 have hmc:=mF ls h w C2;have hlen:(ls.map Lt.P).length<=100000:=by simp;lia
 have s4:lt4 [4e8,3e3,11e0,15e1,10e3,#[.str w],12e1,18e6,none,none,none,none,none] C2=some (.nx [4e8,3e3,11e0,15e1,10e3,#[.str w],12e1,18e6,#[.lst ((ls.filter (fR h w)).map Lt.P)],none,none,none,none],C2):=by
  have h4:lt4=aw 8 (aJ (aO (aE 9e0) 5e5 [7,5] 6e4 LZ 1e7)):=rfl;rw[h4];sleep 6;generalize(ls.filter (fR h w)).map Lt.P=MI at *;generalize LZ=tt at hmc;simp![aO,aE,bz,hlen,b7,hmc]
 obtain⟨ZD,el,Ro⟩:=last_eq ls 1e4 h w C2;have s5:lt5 [4e8,3e3,11e0,15e1,10e3,#[.str w],12e1,18e6,#[.lst ((ls.filter (fR h w)).map Lt.P)],none,none,none,none] C2=some (.nx [4e8,3e3,11e0,15e1,10e3,#[.str w],12e1,18e6,#[.lst ((ls.filter (fR h w)).map Lt.P)],#[.int ZD],none,none,none],C2):=by
  sleep 6;simp![lt5,el]
 obtain⟨mi,Rw⟩:∃mi,mi=ls.filter (fR h w):=6e5;rw[←Rw]at s4 s5;have Vbv:mi.length<=ls.length:=by rw[Rw];show WG _ _
 have eT:=To mi;have lmi:cH [.lst (mi.map Lt.P)]=some (.int (mi.length:Int)):=by simp[cH]
 have lls:cH [.lst 4e7]=some (.int (ls.length:Int)):=by simp[cH]
 obtain⟨pv,C3,s6,a3,hpv⟩:∃(pv:Int)(C3:Cs),Qz [some (.c k),#[cy sp bN ds],#[.lst (ls.map Lt.P)],#[.int now],#[.lst (sn.map .str)],#[.str w],#[.tup (dl.hs.map .str)],#[.str h],#[.lst (mi.map Lt.P)],#[.int ZD],none,none,none] C2=some (.nx [some (.c k),#[cy sp bN ds],#[.lst (ls.map Lt.P)],#[.int now],#[.lst (sn.map .str)],#[.str w],#[.tup (dl.hs.map .str)],#[.str h],#[.lst (mi.map Lt.P)],#[.int pv],none,none,none],C3)/\dS k C2 C3/\(pv=0\/∃m∈ls,m.nm=[.inr h,.inr w,.inl pv]):=by
  by_cases hm0:mi=[]
  ·show⟨ZD,C2,?_,dS.refl a2.gs,Ro⟩
   rw[decide_eq_false (by simpa using hm0)]at eT;sleep 14;simp![Qz,eT]
  ·rw[decide_eq_true hm0]at eT
   have Rv:0<mi.length:=X6.mpr hm0;obtain⟨d,D1,f1,_,_,b1⟩:=dI k 12 C2 a2.gs 1e2;by_cases hd:d=0
   ·obtain⟨q,D2,f2,q1,q2,b2⟩:=dI k (mi.length:Int) D1 b1.gs 1e4
    have hq:q.toNat<mi.length:=by lia
    have hqx:bO (.lst (mi.map Lt.P)) (.int q)=some (mi[q.toNat]).P:=by simp[bO,dA,cM,cV,q1,q2,Yc hq]
    have hq2:bO (mi[q.toNat]).P (.int 2)=some (.int (mi[q.toNat]).n):=by simp[Lt.P,bO,dA,cM,cV]
    obtain⟨z,D3,f3,z1,z2,b3⟩:=dI k 2 D2 b2.gs 1e2;obtain⟨v,hv,hvv⟩:∃v,bO (.lst [.int 0,.int (mi[q.toNat]).n]) (.int z)=some (.int v)/\(v=0\/v=(mi[q.toNat]).n):=by
     have:z=0\/z=1:=by lia
     rcases this with rfl|rfl
     ·show⟨_,rfl,.inl rfl⟩
     ·show⟨_,rfl,.inr rfl⟩
    have hvm:v=0\/∃m∈ls,m.nm=[.inr h,.inr w,.inl v]:=by
     rcases hvv with e|e
     ·show .inl e
     ·rw[e];show .inr (Ia (h:=h) (d:=w) (by rw[←Rw];show YO hq))
    show⟨v,D3,?_,(b1.trans b2).trans b3,hvm⟩;clear hvm hvv;subst hd;generalize(mi[q.toNat]).P=QP at *;generalize(mi[q.toNat]).n=QN at *;sleep 14;simp[Qz,aV,dZ,aC,ak,au,mC,aT,ab,aW,cK,Pu.ret,g1,g2,bu,aQ,aJ,aZ,ae,Pu.plain,eT,mB,sT,f1,jR,xW,aw,bt,lmi,f2,hqx,hq2,f3,hv]
   ·show⟨ZD,D1,?_,b1,Ro⟩
    sleep 14;simp![Qz,eT,f1,hd]
 have s7:lt7 [4e8,3e3,11e0,15e1,10e3,#[.str w],12e1,18e6,#[.lst (mi.map Lt.P)],#[.int pv],none,none,none] C3=some (.nx [4e8,3e3,11e0,15e1,10e3,#[.str w],12e1,18e6,#[.lst (mi.map Lt.P)],#[.int pv],#[(.int ((mi.length:Int)+1))],none,none],C3):=by
  sleep 14;simp[lt7,aw,ak,au,mC,bt,ab,ae,g1,g2,bu,aQ,aW,cK,Pu.ret,lmi,b9]
 obtain⟨d8,C4,e8,_,_,a4⟩:=dI k 9 C3 a3.gs 1e2;obtain⟨LO,ZY,s8⟩:∃LO:Int,(1<=LO/\LO<900+7*((ls.length:Int)+1))/\ZM [some (.c k),#[cy sp bN ds],#[.lst (ls.map Lt.P)],#[.int now],#[.lst (sn.map .str)],#[.str w],#[.tup (dl.hs.map .str)],#[.str h],#[.lst (mi.map Lt.P)],#[.int pv],#[(.int ((mi.length:Int)+1))],none,none] C3=some (.nx [some (.c k),#[cy sp bN ds],#[.lst (ls.map Lt.P)],#[.int now],#[.lst (sn.map .str)],#[.str w],#[.tup (dl.hs.map .str)],#[.str h],#[.lst (mi.map Lt.P)],#[.int pv],#[.int LO],none,none],C4):=by
  have cc:-18446744073709551616<(ls.length:Int)/\(ls.length:Int)<18446744073709551616:=by lia
  by_cases hd:d8=0
  ·show⟨50+7*(ls.length:Int),by lia,?_⟩
   subst hd;sleep 6;sleep 14;generalize(ls.length:Int)=LL at *;simp[ZM,aV,aC,ak,au,mC,aT,ab,ae,aW,cK,Pu.ret,g1,g2,bu,aQ,e8,jR,xW,mB,sT,aw,bt,lls,b9,dE,dP,cc]
  ·show⟨(mi.length:Int)+1,by lia,?_⟩
   sleep 14;simp![ZM,e8,hd]
 obtain⟨sQ,Ru,hfr,s9⟩:∃sQ:Int,(1<=sQ/\sQ<900+7*((ls.length:Int)+1))/\(∀l∈mi,l.n≠sQ)/\ZL [some (.c k),#[cy sp bN ds],#[.lst (ls.map Lt.P)],#[.int now],#[.lst (sn.map .str)],#[.str w],#[.tup (dl.hs.map .str)],#[.str h],#[.lst (mi.map Lt.P)],#[.int pv],#[.int LO],none,none] C4=some (.nx [some (.c k),#[cy sp bN ds],#[.lst (ls.map Lt.P)],#[.int now],#[.lst (sn.map .str)],#[.str w],#[.tup (dl.hs.map .str)],#[.str h],#[.lst (mi.map Lt.P)],#[.int pv],#[.int sQ],none,none],C4):=by
  have cc:-18446744073709551616<(ls.length:Int)/\(ls.length:Int)<18446744073709551616:=by lia
  obtain⟨b,hb,hbf⟩:=GQ LO mi;have ZX:=Gp mi C4;have Rv:(mi.map Lt.P).length<=100000:=by simp;lia
  cases b with
  |false=>
   show⟨LO,ZY,hbf rfl,?_⟩;sleep 14;generalize(mi.map λl=>PV.int l.n)=NI at *;simp[ZL,aV,aC,ak,au,aJ,aO,aE,bz,aW,cK,Pu.ret,g2,aQ,Rv,b7]at ZX⊢;simp![ZX,hb]
  |true=>
   show⟨900+7*(ls.length:Int),by lia,λl hl e=>?_,?_⟩
   ·have h1:l∈ls:=by rw[Rw]at hl;show(XD.mp hl).1
    have:=OQ l h1;lia
   ·sleep 14
    generalize(mi.map λl=>PV.int l.n)=NI at *;sleep 6;generalize(ls.length:Int)=LL at *;simp[ZL,aV,aC,ak,au,aJ,aO,aE,bz,aW,cK,Pu.ret,g2,aQ,Rv,b7]at ZX⊢;simp[ZX,hb,mB,sT,aw,mC,bt,ab,ae,g1,bu,aQ,lls,b9,dE,dP,cc,aW,cK,Pu.ret,au,ak,g2]
 obtain⟨ti,C5,s10,a5,hti⟩:∃(ti:Int)(C5:Cs),lt10 [some (.c k),#[cy sp bN ds],#[.lst (ls.map Lt.P)],#[.int now],#[.lst (sn.map .str)],#[.str w],#[.tup (dl.hs.map .str)],#[.str h],#[.lst (mi.map Lt.P)],#[.int pv],#[.int sQ],none,none] C4=some (.nx [some (.c k),#[cy sp bN ds],#[.lst (ls.map Lt.P)],#[.int now],#[.lst (sn.map .str)],#[.str w],#[.tup (dl.hs.map .str)],#[.str h],#[.lst (mi.map Lt.P)],#[.int pv],#[.int sQ],#[.int ti],none],C5)/\dS k C4 C5/\(0<=ti/\ti<=1000):=by
  obtain⟨d,D1,f1,_,_,b1⟩:=dI k 14 C4 a4.gs 1e2;by_cases hd:0<d
  ·show⟨now,D1,?_,b1,GY⟩
   sleep 14;simp![lt10,f1,yW,hd]
  ·obtain⟨q,D2,f2,q1,_,b2⟩:=dI k 9 D1 b1.gs 1e2
   obtain⟨v,hv,hvr⟩:∃v,lP [.int 0,.int (now-1-q)]=some (.int v)/\(0<=v/\v<=1000):=by
    ext lP;show⟨_,rfl,by split<;>lia⟩
   show⟨v,D2,?_,b1.trans b2,hvr⟩;sleep 14;simp![lt10,f1,yW,hd,f2,fY,hv]
 obtain⟨dd,C6,ed,a6,RJ⟩:=Dr k dl OV C5 a5.gs;have s11:L8 [4e8,3e3,11e0,15e1,10e3,#[.str w],12e1,18e6,#[.lst (mi.map Lt.P)],#[.int pv],#[.int sQ],#[.int ti],none] C5=some (.nx [4e8,3e3,11e0,15e1,10e3,#[.str w],12e1,18e6,#[.lst (mi.map Lt.P)],#[.int pv],#[.int sQ],#[.int ti],#[tupK dd]],C6):=by
  sleep 12;generalize bN.map PV.str=NM at *;generalize ds.map Dl.P=DS at *;generalize dl.P=DP at *;sleep 14;generalize tupK dd=DD at *;simp![L8,t1,edl,ed]
 obtain⟨gs,C7,eg,iD,RF,hgd,hgr,a7⟩:=CN k ls 1e4 oQ h w C6 a6.gs;have aa:dS k C C7:=(((((a1.trans a2).trans a3).trans a4).trans a5).trans a6).trans a7;show⟨⟨h,w,sQ,pv,gs,ti,dd⟩,C7,?_,aa,⟨by change h.length<=1000;lia,by change w.length<=1000;lia,Z9,hww⟩,⟨Ru.1,iD,RF,hgd,hpv,hgr,hti,RJ,⟨by change h.length<=1000;lia,by change w.length<=1000;lia,Z9,hww⟩⟩,Ru.2,λm hm e=>?_⟩
 ·have s12:L7 [4e8,3e3,11e0,15e1,10e3,#[.str w],12e1,18e6,#[.lst (mi.map Lt.P)],#[.int pv],#[.int sQ],#[.int ti],#[tupK dd]] C6=some (.rt (.v (Lt.P ⟨h,w,sQ,pv,gs,ti,dd⟩)),C7):=by
   rw[show Lt.P ⟨h,w,sQ,pv,gs,ti,dd⟩=.tup [.str h,.str w,.int sQ,.int pv,.tup (gs.map tupK),.int ti,tupK dd]from rfl];sleep 6;sleep 14;generalize tupK dd=DD at *;generalize gs.map tupK=GS' at *;simp![L7,eg]
  ext lG;rw[yE];change(match ag _ _ [4e8,some (.v (cy sp bN ds)),some (.v (.lst 4e7)),some (.v (.int now)),none,none,none,none,none,none,none,none,none] C with
   |some (.rt r,C')=>fin C.length C' r
   |some (.nx _,C')=>some 15e9
   |some (.rf ps,C')=>some 17e4
   |some (.rq qs,C')=>(fS C.length C' qs).map λps=>17e3
   |_=>none)=_
  rw[cz s0,cz s1,cz s2,cz s3,cz s4,cz s5,cz s6,cz s7,cz s8,cz s9,cz s10,cz s11,s12];change some (SV.v _,C7.take C.length)=_;rw[aa.take]
 ·have e':m.nm=[.inr h,.inr w,.inl sQ]:=e
  ext Lt.nm e';have h1:m.h=h:=by simpa using(Ve e').1
  have EX:=(Ve e').2;have h2:m.d=w:=by simpa using(Ve EX).1
  have h3:m.n=sQ:=by simpa using(Ve (Ve EX).2).1
  show hfr m ?_ h3;rw[Rw];show XD.mpr ⟨hm,by ext fR;rw[h1,h2];simp⟩
noncomputable def fl (p:Str×Str):Lt:=⟨p.1,p.2,1,0,[],0,[.inr "join"]⟩
abbrev OG:aG->M PF:=aV (aC (ak (g2 fw) (bt 7e5 13e9) 9e0)) (dj (eM 9e6 (ab (bf (ab 14e7 (ab 11e5 (ab 1e8 (ab 2e3 (ab 15e0 (ab 16e1 (ab 16e2 ae)))))))) ae))) aH
section
variable(S T:9e2)(many:Int)(a:Nat)(w:Str)
theorem Mm(x7 x8:9e2)(h:Str)(ps:List (Str×Str))(C:Cs)(hC:C[a]? = some (.lst ((ps.map fl).map Lt.P)))(hm:many<=100)(hp:(ps.length:Int)<=100):
  ∃qs:List (Str×Str),OG [S,T,14e8,6e9,#[.int 0],#[.str w],18e6,x7,x8] C=some (.nx [S,T,14e8,6e9,#[.int 0],#[.str w],18e6,x7,x8],C.set a (.lst ((qs.map fl).map Lt.P)))/\(qs=ps\/(qs=ps++[(h,w)]/\(ps.length:Int)<many)):=by
 have hl:cH [.lst ((ps.map fl).map Lt.P)]=some (.int (ps.length:Int)):=by simp[cH]
 have zF:((ps.map fl).map Lt.P).length<100000:=by simp;lia
 have same:C.set a (.lst ((ps.map fl).map Lt.P))=C:=by
  apply Xk;intro j;by_cases hj:a=j
  ·subst hj;rw[setAt hC,hC]
  ·rw[YA hj]
 by_cases dQ:(ps.length:Int)<many
 ·show⟨ps++[(h,w)],?_,.inr ⟨rfl,dQ⟩⟩
  rw[show((ps++[(h,w)]).map fl).map Lt.P=(ps.map fl).map Lt.P++[.tup [.str h,.str w,.int 1,.int 0,.tup [],.int 0,.tup [.str "join"]]] by rw[Y7,Y7];rfl];generalize(ps.map fl).map Lt.P=PS at *;generalize(ps.length:Int)=PL at *;simp[OG,aV,aC,ak,bt,ab,ae,au,mC,aW,cK,Pu.ret,g1,g2,bu,aQ,hC,hl,fw,dP,dQ,mB,sT,dj,eM,iV,bf,Pu.plain,pw,zF]
 ·show⟨ps,?_,.inl rfl⟩
  rw[same];generalize(ps.map fl).map Lt.P=PS at *;generalize(ps.length:Int)=PL at *;simp[OG,aV,aC,ak,bt,ab,ae,au,mC,aW,cK,Pu.ret,g1,g2,bu,aQ,hC,hl,fw,dP,dQ,mB,sT,aH]
theorem Il(hm:0<=many/\many<=100):∀(hs:6e2)(x6 x7 x8:9e2)(ps:List (Str×Str))(C:Cs),C[a]? = some (.lst ((ps.map fl).map Lt.P))->(ps.length:Int)<=many->ps.Nodup->hs.Nodup->(∀h∈hs,(h,w)∉ps)->
  ∃(y6:9e2)(qs:List (Str×Str)),loop (hName 6) OG (hs.map .str) [S,T,14e8,6e9,#[.int 0],#[.str w],x6,x7,x8] C=some (.nx [S,T,14e8,6e9,#[.int 0],#[.str w],y6,x7,x8],C.set a (.lst ((qs.map fl).map Lt.P)))/\(qs.length:Int)<=many/\qs.Nodup/\∀p∈qs,p∈ps\/(p.2=w/\p.1∈hs)
 |[],x6,x7,x8,ps,C,hC,hl,nd,_,_=>by
  show⟨x6,ps,?_,hl,nd,λp hp=>.inl hp⟩;change some (PF.nx _,C)=_;have same:C.set a (.lst ((ps.map fl).map Lt.P))=C:=by
   apply Xk;intro j;by_cases hj:a=j
   ·subst hj;rw[setAt hC,hC]
   ·rw[YA hj]
  rw[same]
 |h::hs,x6,x7,x8,ps,C,hC,hl,nd,oR,kL=>by
  rw[XF]at oR;obtain⟨qs,e,hq⟩:=Mm S T many a w x7 x8 h ps C hC 1e4 1e4;have hqC:=setAt (v:=.lst ((qs.map fl).map Lt.P)) hC;have hql:(qs.length:Int)<=many:=by
   rcases hq with rfl|⟨rfl,q⟩
   ·show hl
   ·simp;lia
  have hqn:qs.Nodup:=by
   rcases hq with rfl|⟨rfl,q⟩
   ·show nd
   ·rw[WK]
    show⟨nd,by simp,λx hx y hy=>?_⟩;rw[Yj.mp hy];show λz=>kL h 4e4 (z▸hx)
  have hqm:∀p∈qs,p∈ps\/p=(h,w):=by
   intro p hp;rcases hq with rfl|⟨rfl,q⟩
   ·show .inl hp
   ·rcases Yy.mp hp with hp|hp
    ·show .inl hp
    ·show .inr (Yj.mp hp)
  obtain⟨y6,rs,e2,r1,r2,r3⟩:=Il hm hs #[.str h] x7 x8 qs (C.set a (.lst ((qs.map fl).map Lt.P))) hqC hql hqn oR.2 (λh' hh hp=>by
   rcases hqm _ hp with hp|hp
   ·show kL h' (by simp[hh]) hp
   ·have:h'=h:=congrArg Prod.fst hp
    show oR.1 (this▸hh))
  show⟨y6,rs,?_,r1,r2,λp hp=>?_⟩
  ·rw[X0]at e2
   rw[Yz];ext loop;simp only[hName,List.set_cons_succ,List.set_cons_zero];change aW (OG [S,T,14e8,6e9,#[.int 0],#[.str w],18e6,x7,x8]) _ C=_;ext aW;rw[e];show e2
  ·rcases r3 p hp with hp|hp
   ·rcases hqm p hp with hp|rfl
    ·show .inl hp
    ·show .inr ⟨rfl,by simp⟩
   ·show .inr ⟨hp.1,by simp[hp.2]⟩
end
abbrev obj:aG->M PF:=cx (aE (ak 3e7 (ak 3e7 (ak 3e7 4e0 1e8) 11e5) 2e3)) (hName 6) OG
abbrev Qm:aG->M PF:=ag (ck 8 (fu bX (ab 1e7 (ab (ak 5e4 (mC (.int 16)) (au 7)) ae)))) (ag (aw 4 (ak 5e4 16e1 (ak 3e7 (aJ (aZ (ab 2e3 (ab 1e8 (ab 1e8 (ab 2e9 (ab 7e4 (ab 1e8 (ab 2e3 8e6))))))))) (aT aB (ab (au 8) 4e9))))) (dj (eM 9e6 (ab (Ck lG [0] (ab (au 8) (ab 4e0 (ab 9e6 8e2)))) ae))))
theorem F7:Js=ag (ck 3 (aZ ae)) (ag (aw 4 2e3) (ag (cx (aE 17e2) (hName 5) obj) (ag (cx (aK (ab (ak (g2 fY) 9e0 (bt 7e5 13e9)) ae)) (hName 7) Qm) (aX 9e6)))):=rfl
section
variable(S:9e2)(sp:Int){bN:6e2}{ds:List Dl}(many:Int)(a:Nat)
theorem HY(t:vm bN ds)(hm:0<=many/\many<=100):∀(sn:6e2)(x5 x6 x7 x8:9e2)(ps:List (Str×Str))(C:Cs),(∀w∈sn,w∈bN)->sn.Nodup->C[a]? = some (.lst ((ps.map fl).map Lt.P))->(ps.length:Int)<=many->ps.Nodup->(∀p∈ps,p.2∉sn)->(∀p∈ps,cN (fl p))->
  ∃(y5 y6:9e2)(qs:List (Str×Str)),loop (hName 5) obj (sn.map .str) [S,3e3,14e8,6e9,#[.int 0],x5,x6,x7,x8] C=some (.nx [S,3e3,14e8,6e9,#[.int 0],y5,y6,x7,x8],C.set a (.lst ((qs.map fl).map Lt.P)))/\(qs.length:Int)<=many/\qs.Nodup/\∀p∈qs,cN (fl p)
 |[],x5,x6,x7,x8,ps,C,_,_,hC,hl,nd,_,um=>by
  show⟨x5,x6,ps,?_,hl,nd,um⟩;change some (PF.nx _,C)=_;have same:C.set a (.lst ((ps.map fl).map Lt.P))=C:=by
   apply Xk;intro j;by_cases hj:a=j
   ·subst hj;rw[setAt hC,hC]
   ·rw[YA hj]
  rw[same]
 |w::sn,x5,x6,x7,x8,ps,C,oO,oR,hC,hl,nd,kL,um=>by
  rw[XF]at oR;obtain⟨dl,wy,edl⟩:=me t w (oO w 4e4);have OV:=t.ok dl wy;obtain⟨y6,qs,e,q1,q2,q3⟩:=Il S #[cy sp bN ds] many a w hm dl.hs x6 x7 x8 ps C hC hl nd OV.nd (λh _ hp=>kL _ hp 4e4);have hit:aE (ak 3e7 (ak 3e7 (ak 3e7 4e0 1e8) 11e5) 2e3) [S,3e3,14e8,6e9,#[.int 0],#[.str w],x6,x7,x8] C=some (dl.hs.map .str,C):=by
   have t1:=tf sp bN ds;have d0:=Dt dl;sleep 12;generalize bN.map PV.str=NM at *;generalize ds.map Dl.P=DS at *;generalize dl.P=DP at *;generalize dl.hs.map PV.str=HS at *;simp![aE,t1,edl,d0,bz]
  obtain⟨y5,z6,rs,e2,r1,r2,r3⟩:=HY t hm sn #[.str w] y6 x7 x8 qs (C.set a (.lst ((qs.map fl).map Lt.P))) (λv hv=>oO v (by simp[hv])) oR.2 (setAt hC) q1 q2 (λp hp hpn=>by
   rcases q3 p hp with h|h
   ·show kL p h (by simp[hpn])
   ·rw[h.1]at hpn;show oR.1 hpn) (λp hp=>by
   rcases q3 p hp with h|h
   ·show um p h
   ·have h1:=OV.le p.1 h.2
    have h2:=t.le w (oO w 4e4);show⟨by change p.1.length<=1000;have:=h1.1;lia,by change p.2.length<=1000;rw[h.1];have:=h2.1;lia,h1.2.1,by change b6 p.2=true;rw[h.1];show h2.2.1⟩)
  show⟨y5,z6,rs,?_,r1,r2,r3⟩;rw[X0]at e2;rw[Yz];ext loop;simp only[hName,List.set_cons_succ,List.set_cons_zero];have ob:obj [S,3e3,14e8,6e9,#[.int 0],#[.str w],x6,x7,x8] C=some (.nx [S,3e3,14e8,6e9,#[.int 0],#[.str w],y6,x7,x8],C.set a (.lst ((qs.map fl).map Lt.P))):=by
   change cx _ _ _ _ _=_;unfold cx aW;rw[hit];show e
  change aW (obj [S,3e3,14e8,6e9,#[.int 0],#[.str w],x6,x7,x8]) _ C=_;ext aW;rw[ob];show e2
end
abbrev ZK:aG->M SV:=Ck lG [0] (ab (au 8) (ab 4e0 (ab 9e6 8e2)))
section
variable(S:9e2)(sp:Int){bN:6e2}{ds:List Dl}(many:Int)(a:Nat)
theorem L4(t:vm bN ds)(x2 x5 x6 x7:9e2)(n:Nat)(han:a≠n)(now:Int)(GY:0<=now/\now<=1000)(ls:List Lt)(GZ:ls.length<=100)(oQ:∀l∈ls,cN l)(OQ:∀l∈ls,l.n<900+7*(ls.length:Int))(C:Cs)(g:GS C n)(hC:C[a]? = some (.lst 4e7)):
  ∃(l:Lt)(c:PV),ZK [S,3e3,x2,6e9,15e1,x5,x6,x7,some (.c n)] C=some (.v l.P,C.set n c)/\cN l/\Fa ls l/\l.n<900+7*((ls.length:Int)+1)/\∀m∈ls,m.nm≠l.nm:=by
 obtain⟨x,y,hn,hy⟩:=g;have g1:GS 9e9 0:=⟨x,y,rfl,hy⟩
 obtain⟨l,C',e,av,q1,q2,q3,q4⟩:=ub 0 sp bN ds t ls GZ oQ OQ now GY 9e9 g1;obtain⟨x',y',h',_⟩:=av.gs;have hC':C'=[.lst [.int x',.int y']]:=by
  have hl:=av.len
  match C',hl,h' with
  |[c],_,h'=>simpa using h'
 subst hC';show⟨l,.lst [.int x',.int y'],?_,q1,q2,q3,q4⟩;have hpk:pickK [.c n,.v (cy sp bN ds),.c a,.v (.int now)] [0]=some [n]:=by simp[pickK]
 have G3:([n]:List Nat).idxOf? a=none:=by
  rw[List.idxOf?_eq_none_iff];simpa using han
 have VaT:([n]:List Nat).idxOf? n=some 0:=by simp[List.idxOf?]
 have hsx:dh C [n] [.c n,.v (cy sp bN ds),.c a,.v (.int now)]=some [.c 0,.v (cy sp bN ds),.v (.lst 4e7),.v (.int now)]:=by
  simp[dh,VaT,G3,hC]
 have hsc:f' C [n]=some 9e9:=by simp[f',hn]
 have hfl:=MZ l;have hfc:([.lst [.int x',.int y']]:Cs).all kS=true:=by simp[kS,gP,flat]
 sleep 12;sleep 6;generalize l.P=LP at *;simp![ZK,Ck,hpk,hsx,hsc,e,hfl,hfc,fh]
theorem K0(t:vm bN ds)(ns:List Int)(x2 x5 x6 x8:9e2)(q:Nat)(hq:q<=100)(now:Int)(GY:0<=now/\now<=900)(ls:List Lt)(GZ:ls.length<=99)(oQ:∀l∈ls,cN l)(OQ:∀l∈ls,l.n<900+7*(ls.length:Int))(ET:∀l∈ls,Fa ls l)(nd:(ls.map Lt.nm).Nodup)(D:Cs)(hD:D[a]? = some (.lst 4e7)):
  ∃(BR:Int)(y8:9e2)(D':Cs)(l:Lt),(now<=BR/\BR<=now+9)/\Qm [1e5,3e3,x2,6e9,15e1,x5,x6,#[(.int 9e5)],x8] D=some (.nx [1e5,3e3,x2,6e9,#[.int BR],x5,x6,#[(.int 9e5)],y8],D')/\D'[a]? = some (.lst ((ls++[l]).map Lt.P))/\(∀m∈ls++[l],cN m)/\(∀m∈ls++[l],m.n<900+7*((ls++[l]).length:Int))/\(∀m∈ls++[l],Fa (ls++[l]) m)/\((ls++[l]).map Lt.nm).Nodup/\D.length<=D'.length/\∀j,j<D.length->j≠a->D'[j]? = D[j]?:=by
 have Iz:a<D.length:=by
  rcases YU a D.length with z|z
  ·show z
  ·rw[Yf.mpr z]at hD;cases hD
 obtain⟨x,y,el,hy⟩:=O9 ns (16+9e5) D 1e4 1e4;have gE:ck 8 (fu bX (ab 1e7 (ab (ak 5e4 (mC (.int 16)) (au 7)) ae))) [1e5,3e3,x2,6e9,15e1,x5,x6,#[(.int 9e5)],x8] D=some (.nx [1e5,3e3,x2,6e9,15e1,x5,x6,#[(.int 9e5)],5e8],D++9e9):=by
  generalize 9e5=Q at *;simp![ck,b9,el]
 have g0:=kO D x y hy;obtain⟨p,C1,e1,p1,p2,a1⟩:=dI D.length 8 _ g0 1e2;obtain⟨v,hv,hv0,hv9⟩:=jC [.int 0,.int 1,.int 1,.int 2,.int 3,.int 1,.int 0,.int 9] 0 9 1e0 p p1 (by simpa using p2);have st2:aw 4 (ak 5e4 16e1 (ak 3e7 (aJ (aZ (ab 2e3 (ab 1e8 (ab 1e8 (ab 2e9 (ab 7e4 (ab 1e8 (ab 2e3 8e6))))))))) (aT aB (ab (au 8) 4e9)))) [1e5,3e3,x2,6e9,15e1,x5,x6,#[(.int 9e5)],5e8] (D++9e9)=some (.nx [1e5,3e3,x2,6e9,#[.int (now+v)],x5,x6,#[(.int 9e5)],5e8],C1):=by
  generalize 9e5=Q at *;simp![e1,hv,b9]
 have kK:∀j,j<D.length->C1[j]? = D[j]?:=λj hj=>by
  rw[a1.jz j (Yp hj),Yh hj]
 have ha1:C1[a]? = some (.lst 4e7):=by rw[kK a Iz];show hD
 obtain⟨l,c,e3,q1,q2,q3,q4⟩:=L4 #[.lst 11e9] sp a t x2 x5 x6 #[(.int 9e5)] D.length (Yp Iz) (now+v) 1e4 ls 1e4 oQ OQ C1 a1.gs ha1;have hnl:a≠D.length:=Yp Iz;have ha2:(C1.set D.length c)[a]? = some (.lst 4e7):=by rw[YA (Xp hnl)];show ha1
 have zF:(ls.map Lt.P).length<100000:=by simp;lia
 have hln:((ls++[l]).length:Int)=(ls.length:Int)+1:=by simp
 show⟨now+v,5e8,(C1.set D.length c).set a (.lst ((ls++[l]).map Lt.P)),l,by lia,?_,setAt ha2,λm hm=>?_,λm hm=>?_,λm hm=>?_,?_,?_,λj hj hja=>?_⟩
 ·rw[show Qm=ag _ (ag _ (dj (eM 9e6 (ab ZK ae))))from rfl,cz gE,cz st2]
  rw[show(ls++[l]).map Lt.P=ls.map Lt.P++[l.P] by simp];generalize 9e5=Q at *;sleep 12;sleep 6;generalize l.P=LP at *;generalize ZK=LS' at e3;simp![eM,iV,ha1,e3,pw,ha2,zF]
 ·rcases Yy.mp hm with hm|hm
  ·show oQ m hm
  ·rw[Yj.mp hm];show q1
 ·rw[hln]
  rcases Yy.mp hm with hm|hm
  ·have:=OQ m hm;lia
  ·rw[Yj.mp hm];show q3
 ·rcases Yy.mp hm with hm|hm
  ·show(ET m hm).mono λx hx=>YM _ hx
  ·rw[Yj.mp hm];show q2.mono λx hx=>YM _ hx
 ·rw[Y7,WK]
  show⟨nd,by simp,λu hu w hw=>?_⟩;obtain⟨m,hm,rfl⟩:=Yr.mp hu;have:w=l.nm:=by simpa using hw
  rw[this];show q4 m hm
 ·rw[XH,XH,a1.len];simp
 ·rw[YA (Xp hja),YA 1e4];show kK j hj
end
structure D5(ls:List Lt):Prop where
 le:ls.length<=32
 nd:(ls.map Lt.nm).Nodup
 sh:∀l∈ls,cN l
 fa:∀l∈ls,Fa ls l
 nr:∀l∈ls,l.n<=2000
theorem R3{p q:Str×Str}(h:(fl p).nm=(fl q).nm):p=q:=by
 obtain⟨a,b⟩:=p;obtain⟨c,d⟩:=q;simp[fl,Lt.nm]at h;rw[h.1,h.2]
theorem CP{ps:List (Str×Str)}(h:ps.Nodup):((ps.map fl).map Lt.nm).Nodup:=by
 rw[Y0,YT,XC];show VW (λ{x y} eT e=>eT (R3 e)) (YT.mp h)
theorem F8(ns:List Int)(sp:Int){bN:6e2}{ds:List Dl}(t:vm bN ds)(many:Int)(hm:0<=many/\many<=32)(C:Cs):∃ls:List Lt,nQ [.v (.lst 11e9),.v (cy sp bN ds),.v (.int many)] C=some (.v (.lst 4e7),C)/\D5 ls:=by
 obtain⟨sn,esn,hsn,Im,Rm⟩:=ml bN t.l1.2 (λw hw=>(t.le w hw).1) (C++[.lst []]) (ds.map Dl.P);have VaL:sn.Nodup:=Rm t.nd;have t1:=tf sp bN ds;have s0:ck 3 (aZ ae) [1e5,3e3,14e8,none,none,none,none,none,none] C=some (.nx [1e5,3e3,14e8,7e0,none,none,none,none,none],C++[.lst []]):=by
  simp![ck]
 have s1:aw 4 2e3 [1e5,3e3,14e8,7e0,none,none,none,none,none] (C++[.lst []])=some (.nx [1e5,3e3,14e8,7e0,#[.int 0],none,none,none,none],C++[.lst []]):=by
  simp![]
 obtain⟨y5,y6,ps,e2,q1,q2,q3⟩:=HY #[.lst 11e9] sp many C.length t 1e4 sn none none none none [] (C++[.lst []]) Im VaL 4e4 14e9 .nil (λp hp=>by cases hp) (λp hp=>by cases hp);obtain⟨D,hD⟩:∃D:Cs,D=(C++[PV.lst []]).set C.length (.lst ((ps.map fl).map Lt.P)):=6e5;rw[←hD]at e2;have MS:D[C.length]? = some (.lst ((ps.map fl).map Lt.P)):=by rw[hD];simp
 have hDo:∀j,j<C.length->D[j]? = C[j]?:=λj hj=>by rw[hD,YA 1e4,Yh hj]
 have hDl:D.length=C.length+1:=by rw[hD];simp
 have s2:cx (aE 17e2) (hName 5) obj [1e5,3e3,14e8,7e0,#[.int 0],none,none,none,none] (C++[.lst []])=some (.nx [1e5,3e3,14e8,7e0,#[.int 0],y5,y6,none,none],D):=by
  have hi:aE 17e2 [1e5,3e3,14e8,7e0,#[.int 0],none,none,none,none] (C++[.lst []])=some (sn.map .str,C++[.lst []]):=by
   clear e2;sleep 12;generalize bN.map PV.str=NM at *;generalize ds.map Dl.P=DS at *;generalize sn.map PV.str=SN at *;simp![aE,eJ,t1,esn,bz]
  unfold cx aW;rw[hi];show e2
 obtain⟨ρ',E,e3,GW⟩:=Pk (g:=hName 7) (f:=Qm) (λi ρ E=>∃(now:Int)(x7 x8:9e2)(ls:List Lt),(0<=now/\now<=9*(i:Int))/\ρ=[1e5,3e3,14e8,7e0,15e1,y5,y6,x7,x8]/\E[C.length]? = some (.lst 4e7)/\(∀l∈ls,cN l)/\(∀l∈ls,l.n<900+7*(ls.length:Int))/\(∀l∈ls,Fa ls l)/\(ls.map Lt.nm).Nodup/\ls.length=ps.length+i/\C.length+1<=E.length/\∀j,j<C.length->E[j]? = C[j]?) 32
  ((Yk (many-(ps.length:Int)).toNat).map λ(q:Nat)=>PV.int (0+q)) 0 14e9 (λx hx i ρ E hi hh=>by
   obtain⟨q,hq,rfl⟩:=Yr.mp hx;have hq:=Xh.mp hq;obtain⟨now,x7,x8,ls,hnw,rfl,h1,h2,h3,h4,h5,h6,h7,h8⟩:=hh;obtain⟨BR,y8,E',l,f0,f1,f2,f3,f4,f5,f6,f7,f8⟩:=K0 sp C.length t ns #[.int many] y5 y6 x8 q 1e4 now 1e4 ls 1e4 h2 h3 h4 h5 E h1;show⟨_,_,E',rfl,f1,BR,_,y8,ls++[l],by lia,rfl,f2,f3,f4,f5,f6,by simp;lia,by lia,λj hj=>by rw[f8 j (by lia) (by lia),h8 j hj]⟩) [#[.lst (ns.map .int)],#[cy sp bN ds],#[.int many],some (.c C.length),#[.int 0],y5,y6,none,none] D ⟨0,none,none,ps.map fl,by lia,rfl,MS,λl hl=>by
   obtain⟨p,hp,rfl⟩:=Yr.mp hl;show q3 p hp,λl hl=>by
   obtain⟨p,hp,rfl⟩:=Yr.mp hl;change(1:Int)<_;lia,λl hl=>by
   obtain⟨p,hp,rfl⟩:=Yr.mp hl;show⟨by change(1:Int)<=1;lia,Xq _,(λg hg=>(nomatch hg)),List.nodup_nil,.inl rfl,rfl,⟨Int.le_refl _,by change(0:Int)<=1000;lia⟩,Dv,q3 p hp⟩,CP q2,by simp,by lia,hDo⟩
 obtain⟨now,x7,x8,ls,hnw,rfl,h1,h2,h3,h4,h5,h6,h7,h8⟩:=GW;have hl:ls.length<=32:=by rw[h6];simp;lia
 show⟨ls,?_,⟨hl,h5,h2,h4,λl hm=>by have:=h3 l hm;lia⟩⟩;have s3:cx (aK (ab (ak (g2 fY) 9e0 (bt 7e5 13e9)) ae)) (hName 7) Qm [1e5,3e3,14e8,7e0,#[.int 0],y5,y6,none,none] D=some (.nx [1e5,3e3,14e8,7e0,15e1,y5,y6,x7,x8],E):=by
  have OO:cG [.v (.int (many-(ps.length:Int)))]=some ((Yk (many-(ps.length:Int)).toNat).map λ(q:Nat)=>PV.int (0+q)):=by
   ext cG;dsimp only;rw[if_pos 1e4]
  have hlp:cH [.lst ((ps.map fl).map Lt.P)]=some (.int (ps.length:Int)):=by simp[cH]
  have hmr:aK (ab (ak (g2 fY) 9e0 (bt 7e5 13e9)) ae) [1e5,3e3,14e8,7e0,#[.int 0],y5,y6,none,none] D=some ((Yk (many-(ps.length:Int)).toNat).map λ(q:Nat)=>PV.int (0+q),D):=by
   clear e2 e3;generalize((Yk (many-(ps.length:Int)).toNat).map λ(q:Nat)=>PV.int (0+q))=rs at OO;generalize(ps.map fl).map Lt.P=PS at *;generalize(ps.length:Int)=PL at *;simp[aK,ab,ae,ak,au,bt,g1,g2,bu,aQ,aW,cK,Pu.ret,MS,hlp,fY,dP,OO]
  unfold cx aW;rw[hmr];show e3
 have hEC:E.take C.length=C:=by
  apply Xk;intro j;rcases YU j C.length with z|z
  ·rw[Xn z,h8 j z]
  ·rw[Yf.mpr z,Yf.mpr (by rw[Y1];lia)]
 ext nQ;rw[F7];change(match ag _ _ [some (.v (.lst 11e9)),some (.v (cy sp bN ds)),some (.v (.int many)),none,none,none,none,none,none] C with
  |some (.rt r,C')=>fin C.length C' r
  |some (.nx _,C')=>some 15e9
  |some (.rf ps,C')=>some 17e4
  |some (.rq qs,C')=>(fS C.length C' qs).map λps=>17e3
  |_=>none)=_
 rw[cz s0,cz s1,cz s2,cz s3];sleep 6;simp![h1,hEC]
theorem Zds{te:4e5}{tt:7e3}{k:Nat}:∀(xs:List PV)(ρ:aG)(ys:List PV)(C:Cs),GS C k->(∀x C,GS C k->∃b C',tt (ρ.set 0 #[x]) C=some (b,C')/\dS k C C')->(∀x C,te (ρ.set 0 #[x]) C=some (.v x,C))->
  ∃zs C',br 6e4 tt te xs ρ ys C=some (ys++zs,C')/\zs.length<=xs.length/\(∀p∈zs,p∈xs)/\dS k C C'
 |[],ρ,ys,C,g,_,_=>⟨[],C,by simp[br,Pu.ret],Yl _,(λ_ h=>(nomatch h)),dS.refl g⟩
 |x::xs,ρ,ys,C,g,ht,he=>by
  obtain⟨b,C1,e1,a1⟩:=ht x C g;have e2:=he x C1;cases b with
  |true=>
   obtain⟨zs,C2,e3,hl,hz,a2⟩:=Zds (te:=te) (tt:=tt) xs (ρ.set 0 #[x]) (ys++[x]) C1 a1.gs (λy D h=>by rw[X0];show ht y D h) (λy D=>by rw[X0];show he y D);show⟨x::zs,C2,by simp[br,hName,aW,e1,e2,e3],by simp;lia,λp hp=>?_,a1.trans a2⟩;rcases Yd.mp hp with rfl|hp
   ·simp
   ·simp[hz p hp]
  |false=>
   obtain⟨zs,C2,e3,hl,hz,a2⟩:=Zds (te:=te) (tt:=tt) xs (ρ.set 0 #[x]) ys C1 a1.gs (λy D h=>by rw[X0];show ht y D h) (λy D=>by rw[X0];show he y D);show⟨zs,C2,by simp[br,hName,aW,e1,e3],by simp;lia,λp hp=>by simp[hz p hp],a1.trans a2⟩
theorem j9:∀(L:List PV)(ls:List Lt),(∀p∈L,p∈ls.map Lt.P)->∃us:List Lt,L=us.map Lt.P/\∀u∈us,u∈ls
 |[],ls,_=>⟨[],rfl,(λ_ h=>(nomatch h))⟩
 |p::L,ls,h=>by
  obtain⟨l,hl,rfl⟩:=Yr.mp (h p 4e4);obtain⟨us,rfl,hu⟩:=j9 L ls λq hq=>h q (by simp[hq]);show⟨l::us,rfl,λu bq=>by
   rcases Yd.mp bq with rfl|bq
   ·show hl
   ·show hu u bq⟩
abbrev OC:aG->M Bool:=aC (ak (g2 yW) (aT aB (ab 4e0 (ab (mC (.int 7)) ae))) 2e3)
abbrev Ma:aG->M SV:=ak 3e7 4e0 (aT aB (ab 9e0 (ab (bt 7e5 (ab 4e0 ae)) ae)))
abbrev OE:aG->M SV:=ak (g2 dE) (aT aB (ab 1e7 (ab 7e4 ae))) (bt (g1 gO) (ab (ak 5e2 9e0 10e6) ae))
theorem qO:Ju=ag (aw 2 (aJ (aO (aE 4e0) 5e5 [0] 6e4 OC 1e7))) (ag (aw 2 (ak 5e4 9e0 (aJ (aO (aK (ab OE ae)) ["_law_k"] [2,0] 6e4 dD Ma)))) (ag (aw 3 (aT aB (ab 1e7 (ab (ak 5e4 (bt 7e5 5e7) 1e8) ae)))) (aX (ak 5e4 (bg 9e0 (bA 9e6) ic) (bg 9e0 ic (bA 9e6)))))):=rfl
theorem GD(k:Nat)(x:9e2)(C:Cs)(g:GS C k):∃b C',OC [x,4e8] C=some (b,C')/\dS k C C':=by
 obtain⟨d,C',e,_,_,a⟩:=dI k 7 C g 1e2;show⟨decide (0<d),C',?_,a⟩;simp![OC,e,yW]
theorem GF(k:Nat)(us:List Lt)(hu:0<us.length)(hu2:us.length<=100)(x:9e2)(C:Cs)(g:GS C k):∃p C',Ma [x,#[.lst 6e6],4e8] C=some (.v p,C')/\p∈us.map Lt.P/\dS k C C':=by
 obtain⟨d,C',e,d1,d2,a⟩:=dI k (us.length:Int) C g 1e4;have hd:d.toNat<us.length:=by lia
 have G3:bO (.lst 6e6) (.int d)=some (us[d.toNat]).P:=by simp[bO,dA,cM,cV,d1,d2,Yc hd]
 have hl:cH [.lst 6e6]=some (.int (us.length:Int)):=by simp[cH]
 show⟨(us[d.toNat]).P,C',?_,WW (YO hd),a⟩;generalize(us[d.toNat]).P=UP at *;sleep 10;simp[Ma,ak,aT,ab,ae,au,bt,g1,g2,bu,aQ,aW,cK,Pu.ret,hl,e,G3]
theorem oF(k:Nat)(ls:List Lt)(GZ:ls.length<=50)(C:Cs)(g:GS C k):∃(us:List Lt)(C':Cs),nS [.c k,.v (.lst 4e7)] C=some (.v (.lst 6e6),C')/\us.length<=110/\(∀u∈us,u∈ls)/\dS k C C':=by
 obtain⟨zs,C1,e1,OT,zE,a1⟩:=Zds (te:=au 0) (tt:=OC) (k:=k) 4e7 [none,4e8] [] C g (λx C g=>GD k _ C g) (λx C=>by simp[au]);obtain⟨vs,rfl,hv⟩:=j9 zs ls zE;rw[Xg]at e1;have hvl:vs.length<=50:=by simp at OT;lia
 have hlen:(ls.map Lt.P).length<=100000:=by simp;lia
 have s1:aw 2 (aJ (aO (aE 4e0) 5e5 [0] 6e4 OC 1e7)) [4e8,11e0,none,none] C=some (.nx [4e8,11e0,#[.lst (vs.map Lt.P)],none],C1):=by
  sleep 6;generalize vs.map Lt.P=VS at *;generalize OC=tt at e1;simp![aO,aE,bz,hlen,b7,e1]
 obtain⟨d,C2,e2,d1,d2,a2⟩:=dI k 3 C1 a1.gs 1e2;have eT:=To vs;have cr:-18446744073709551616<d/\d<18446744073709551616:=by lia
 obtain⟨N,hN,hN2,hNs⟩:∃N:Nat,OE [some (.c k),#[.lst (ls.map Lt.P)],#[.lst (vs.map Lt.P)],none] C1=some (.v (.int (N:Int)),C2)/\N<=2/\(0<N->0<vs.length):=by
  by_cases hs:vs=[]
  ·rw[decide_eq_false (by simpa using hs)]at eT
   show⟨0,?_,by lia,λz=>absurd z 1e2⟩;sleep 6;generalize vs.map Lt.P=VS at *;simp![OE,e2,eT,gO,dE,cr]
  ·rw[decide_eq_true hs]at eT
   show⟨d.toNat,?_,by lia,λ_=>X6.mpr hs⟩;have hrr:((d.toNat:Nat):Int)=d:=by lia
   rw[hrr];sleep 6;generalize vs.map Lt.P=VS at *;simp![OE,e2,eT,gO,dE,cr]
 obtain⟨ys,C3,e3,hl3,hz3,a3⟩:∃ys C3,br (hName 0) dD Ma ((Yk N).map λ(q:Nat)=>PV.int (0+q)) [none,#[.lst (vs.map Lt.P)],some (.c k)] [] C2=some (ys,C3)/\ys.length=N/\(∀p∈ys,p∈vs.map Lt.P)/\dS k C2 C3:=by
  rcases Nat.eq_zero_or_pos N with h0|h0
  ·subst h0
   show⟨[],C2,by simp[br,Pu.ret],rfl,(λ_ h=>(nomatch h)),dS.refl a2.gs⟩
  ·obtain⟨zs,C3,e3,hl,hz,a3⟩:=k4 (te:=Ma) (k:=k) (Pp:=λp=>p∈vs.map Lt.P) ((Yk N).map λ(q:Nat)=>PV.int (0+q)) [none,#[.lst (vs.map Lt.P)],4e8] [] C2 a2.gs (λx C g=>GF k vs (hNs h0) 1e4 _ C g)
   show⟨zs,C3,by simpa using e3,by simpa using hl,hz,a3⟩
 obtain⟨ws,rfl,hw⟩:=j9 ys vs hz3;have CC:ws.length<=2:=by simp at hl3;lia
 have s2:aw 2 (ak 5e4 9e0 (aJ (aO (aK (ab OE ae)) ["_law_k"] [2,0] 6e4 dD Ma))) [4e8,11e0,#[.lst (vs.map Lt.P)],none] C1=some (.nx [4e8,11e0,#[.lst ((vs++ws).map Lt.P)],none],C3):=by
  have OO:cG [.v (.int (N:Int))]=some ((Yk N).map λ(q:Nat)=>PV.int (0+q)):=by
   ext cG;dsimp only;rw[if_pos 1e4,X1]
  have ZU:((Yk N).map λ(q:Nat)=>PV.int (0+q)).length<=100000:=by simp;lia
  have My:(vs.map Lt.P).length+(ws.map Lt.P).length<=1000000:=by simp;lia
  rw[Y7];generalize((Yk N).map λ(q:Nat)=>PV.int (0+q))=rs at *;sleep 6;generalize vs.map Lt.P=VS at *;generalize ws.map Lt.P=WS at *;generalize OE=lr at hN;generalize Ma=le at e3;simp![aO,aK,hN,OO,ZU,b7,e3,b9,My]
 obtain⟨us,Rh⟩:∃us,us=vs++ws:=6e5;rw[←Rh]at s2;have Ri:us.length<=52:=by rw[Rh,YN];lia
 obtain⟨t,C4,e4,t1,t2,a4⟩:=dI k ((us.length:Int)+1) C3 a3.gs 1e4;have hlu:cH [.lst 6e6]=some (.int (us.length:Int)):=by simp[cH]
 have s3:aw 3 (aT aB (ab 1e7 (ab (ak 5e4 (bt 7e5 5e7) 1e8) ae))) [4e8,11e0,#[.lst 6e6],none] C3=some (.nx [4e8,11e0,#[.lst 6e6],#[.int t]],C4):=by
  sleep 10;simp[aw,aT,ab,ae,ak,bt,g1,g2,bu,aQ,au,mC,aW,cK,Pu.ret,hlu,b9,e4]
 have aa:=((a1.trans a2).trans a3).trans a4;have sub:∀(lo hi:Option Int),∃xs:List Lt,cu 6e6 lo hi=xs.map Lt.P/\xs.length<=us.length/\∀x∈xs,x∈us:=λlo hi=>by
  obtain⟨xs,e,hx⟩:=j9 (cu 6e6 lo hi) us (λp hp=>by ext cu hp;show XW (XX hp));show⟨xs,e,?_,hx⟩;have:=xm 6e6 lo hi;rw[e]at this;simpa using this
 obtain⟨xs,ex,hxl,hxm⟩:=sub (some t) none;obtain⟨zs,ez,hzl,GR⟩:=sub none (some t);show⟨xs++zs,C4,?_,by rw[YN];lia,λu hu=>?_,aa⟩
 ·ext nS
  rw[qO];change(match ag _ _ [4e8,some (.v (.lst 4e7)),none,none] C with
   |some (.rt r,C')=>fin C.length C' r
   |some (.nx _,C')=>some 15e9
   |some (.rf ps,C')=>some 17e4
   |some (.rq qs,C')=>(fS C.length C' qs).map λps=>17e3
   |_=>none)=_
  rw[cz s1,cz s2,cz s3];have My:(xs.map Lt.P).length+(zs.map Lt.P).length<=1000000:=by simp;lia
  have at':=aa.take;rw[Y7];sleep 10;generalize xs.map Lt.P=XS at *;generalize zs.map Lt.P=ZS at *;simp![ex,ez,b9,My,at']
 ·have hm:u∈us:=by
   rcases Yy.mp hu with h|h
   ·show hxm u h
   ·show GR u h
  rw[Rh]at hm;rcases Yy.mp hm with h|h
  ·show hv u h
  ·show hv u (hw u h)
structure Bd(l:Lt):Prop where
 n:l.n<=10^29
 pv:l.pv<=10^29
 t:l.t<=10^29
 gl:l.gs.length<=30
 g:∀g∈l.gs,∃a b i,g=[.inr a,.inr b,.inl i]/\i<=10^29
theorem Sr{l:Lt}(b:Bd l):okL l.P=true:=by
 have hg:RW (.tup (l.gs.map tupK))=true:=by
  change(decide ((l.gs.map tupK).length<=1000)&&(l.gs.map tupK).all ZH)=true;rw[decide_eq_true (by have:=b.gl;simp;lia),XA,Bool.true_and,YB];intro g hg;obtain⟨a,c,i,rfl,hi⟩:=b.g g hg;change(decide (i<=10^30)&&true)=true;rw[decide_eq_true 1e4];rfl
 have hd:Qp (tupK l.dd)=true:=by
  change(l.dd.map kP).all jZ=true;rw[XA,YB];intro k _;cases k<;>rfl
 change(true&&true&&decide (l.n<=10^30)&&decide (l.pv<=10^30)&&RW (.tup (l.gs.map tupK))&&decide (l.t<=10^30)&&Qp (tupK l.dd))=true;rw[hg,hd,decide_eq_true (by have:=b.n;lia),decide_eq_true (by have:=b.pv;lia),decide_eq_true (by have:=b.t;lia)];rfl
section
variable{ls:List Lt}{l:Lt}
theorem Vay{m:Lt}{k:14e6}{i:Int}{a b:Str}(h:m.nm=[.inr a,.inr b,.inl i]):m.h=a/\m.d=b/\m.n=i:=by
 simpa[Lt.nm]using h
theorem BB(P:D5 ls)(hl:l∈ls):0<=l.pv/\l.pv<=2000:=by
 rcases(P.fa l hl).pv with e|⟨m,hm,e⟩
 ·lia
 ·have:=(Vay (k:=[]) e).2.2
  have:=(P.fa m hm).n1;have:=P.nr m hm;lia
theorem oy{i m:Int}(h:m<=i):gF (.int i) m=true:=by simp[gF,h]
theorem yr(P:D5 ls)(hl:l∈ls):bx l.P=true:=by
 have f:=P.fa l hl;have hg:hZ l.h l.d (.tup (l.gs.map tupK))=true:=by
  change(decide ((l.gs.map tupK).length<=30)&&(l.gs.map tupK).all cL&&nb (l.gs.map tupK)&&(l.gs.map tupK).all λx=>!tS l.h l.d x)=true;rw[decide_eq_true (by have:=f.g7;simp;lia),f.ri];have h1:(l.gs.map tupK).all cL=true:=by
   rw[XA,YB];intro g hg;obtain⟨m,hm,rfl,_⟩:=f.gin g hg;have fm:=P.fa m hm;change(b6 m.h&&b6 m.d&&gF (.int m.n) 1)=true;rw[fm.sh.2.2.1,fm.sh.2.2.2,oy fm.n1];rfl
  have h2:((l.gs.map tupK).all λx=>!tS l.h l.d x)=true:=by
   rw[XA,YB];intro g hg;obtain⟨m,hm,rfl,e⟩:=f.gin g hg;change(!aI (.tup [.str m.h,.str m.d]) (.tup [.str l.h,.str l.d]))=true;have:aI (.tup [.str m.h,.str m.d]) (.tup [.str l.h,.str l.d])=(m.h==l.h&&m.d==l.d):=by simp[aI,dW]
   rw[this,show(m.h==l.h&&m.d==l.d)=false from e];rfl
  rw[h1,h2];rfl
 change(b6 l.h&&b6 l.d&&gF (.int l.n) 1&&gF (.int l.pv) 0&&hZ l.h l.d (.tup (l.gs.map tupK))&&gF (.int l.t) 0&&c9 (tupK l.dd))=true;rw[f.sh.2.2.1,f.sh.2.2.2,oy f.n1,oy (BB P hl).1,hg,oy f.t0.1,f.dd];rfl
end
section
variable{d f1 f2 f3 f4 f5:Addr}
theorem ZbU(D:10e7){l:Lt}(b:Bd l)(C:Cs):dC d f1 f2 f3 f4 f5 [.v l.P] C=some (.v (.bl (bx l.P)),C):=oD D _ _ _ _ _ _ _ C (Sr b)
theorem I8{x:PV}(h:uf x "list"=some false)(C:Cs):gB d f1 f2 f3 f4 f5 [.v x] C=some (.v 8e1,C):=by
 simp[gB,bZ,ag,aV,eZ,bD,cB,bt,ab,ae,au,mC,aW,cK,Pu.ret,g1,bu,aQ,hX,h,nY,aX,fin,Pu.plain]
abbrev Qy(d f1 f2 f3 f4 f5:Addr):aG->M SV:=aT (dC d f1 f2 f3 f4 f5) 7e1
abbrev R5:aG->M SV:=ak 12e6 (ak (g2 GN) 4e0 (aT ja 7e1)) 1e7
theorem qt:Jo d f1 f2 f3 f4 f5=ag (aV (eZ (bD (cB (bt (g1 hX) (ab 1e7 (ab (mC (.ty "list")) ae))))) (bD (cB (bt (g1 gG) (ab (aJ (aO (aE 1e7) ["letter"] [] 6e4 dD (Qy d f1 f2 f3 f4 f5))) ae))))) 15e5 aH) (ag (aw 1 (aT nP 7e1)) (aX (bt (g1 gG) (ab (aJ (aO (aE 1e7) ["letter"] [1] 6e4 dD R5)) ae)))):=rfl
theorem mw(xs:List PV)(b:PV->Bool)(C:Cs)(hb:∀x∈xs,dC d f1 f2 f3 f4 f5 [.v x] C=some (.v (.bl (b x)),C))(ρ:aG)(hr:1<=ρ.length):br 6e4 dD (Qy d f1 f2 f3 f4 f5) xs ρ [] C=some (xs.map λx=>.bl (b x),C):=by
 have:=Hy (te:=Qy d f1 f2 f3 f4 f5) (f:=λx=>.bl (b x)) xs ρ [] C λx hx=>by
  have h0:(ρ.set 0 #[x])[0]? = some #[x]:=by rw[Xc 1e4]
  simp[aT,ab,ae,au,aW,Pu.ret,h0,hb x hx]
 simpa using this
theorem ZcY(xs:List PV)(b:PV->Bool)(C:Cs)(hb:∀x∈xs,dC d f1 f2 f3 f4 f5 [.v x] C=some (.v (.bl (b x)),C))(hl:xs.length<=1000)(hx:xs.all b=false):gB d f1 f2 f3 f4 f5 [.v (.lst xs)] C=some (.v 8e1,C):=by
 have e:=mw xs b C hb [none] 4e4;have ea:=lb b xs;have G0:xs.length<=100000:=by lia
 rw[hx]at ea;ext gB;rw[qt];generalize Qy d f1 f2 f3 f4 f5=te at e;generalize(xs.map λx=>PV.bl (b x))=ys at e ea;simp[bZ,ag,aV,eZ,bD,cB,bt,ab,ae,au,mC,aW,cK,Pu.ret,g1,bu,aQ,hX,uf,JK,nY,aX,fin,Pu.plain,aJ,aO,aE,bz,G0,b7,e,ea]
theorem qu(D:10e7)(zs:List Lt)(hz:∀z∈zs,Bd z)(hl:zs.length<=1000)(hx:∀z∈zs,bx z.P=true)(e2:Lt->Bool)(he:∀z∈zs,∃m∈zs,m.nm=z.nm/\cY (dF zs).1 (dF zs).2 z.nm=some m.P/\e2 z=aI m.P z.P)(C:Cs):
  gB d f1 f2 f3 f4 f5 [.v (.lst (zs.map Lt.P))] C=some (.v (.bl (zs.all e2)),C):=by
 have e:=mw (zs.map Lt.P) bx C (λx hx=>by
  obtain⟨z,GR,rfl⟩:=Yr.mp hx;show ZbU (d:=d) D (hz z GR) C) [none] (by simp)
 have ea:gG [.lst ((zs.map Lt.P).map λx=>.bl (bx x))]=some 12e4:=by
  rw[lb bx (zs.map Lt.P),XA]
  congr 2
  rw[YB];show hx
 have hb:=u9 zs C hl;have e3:br 6e4 dD R5 (zs.map Lt.P) [none,#[.bW (dF zs).1 (dF zs).2]] [] C=some (zs.map λz=>.bl (e2 z),C):=by
  have:∀(ys:List Lt)(ac:List PV)(o:9e2),(∀z∈ys,z∈zs)->br 6e4 dD R5 (ys.map Lt.P) [o,#[.bW (dF zs).1 (dF zs).2]] ac C=some (ac++ys.map λz=>.bl (e2 z),C):=by
   intro ys;induction ys with
   |nil=>intro ac o _;simp[br,Pu.ret]
   |cons y ys ih=>
    intro ac o hy;obtain⟨m,hm,hn,h1,h2⟩:=he y (hy y (.head _));have hk:cZ [PV.str y.h,.str y.d,.int y.n]=some y.nm:=E4 y.nm;have h3:GN (.bW (dF zs).1 (dF zs).2) (tupK y.nm)=some m.P:=by
     change GN (.bW (dF zs).1 (dF zs).2) (.tup [.str y.h,.str y.d,.int y.n])=some m.P;simp only[GN,hk];show h1
    have h4:cf aI m.P y.P=some (.bl (e2 y)):=by
     ext cf;rw[xk,xk,decide_eq_true (by have:=Dq m;lia),h2];rfl
    have h5:=ih (ac++[.bl (e2 y)]) #[y.P] λz hz=>hy z (.tail _ hz);rw[Yz,Yz];rw[show ac++PV.bl (e2 y)::ys.map (λz=>PV.bl (e2 z))=(ac++[PV.bl (e2 y)])++ys.map λz=>PV.bl (e2 z) by simp,←h5];generalize(dF zs).1=KS at *;generalize(dF zs).2=PS at *
    conv=>lhs;unfold br
    simp[hName,dD,R5,ak,au,aT,ab,ae,aW,cK,Pu.ret,g2,aQ,ZdH,h3,h4,Pu.plain]
  have:=this zs [] none λz h=>h;simpa using this
 have e4:=xx (zs.map e2);rw[Y0,XA]at e4;have e5:gG [.lst (zs.map λz=>.bl (e2 z))]=some (.bl (zs.all e2)):=e4;have G0:(zs.map Lt.P).length<=100000:=by simp;lia
 ext gB;rw[qt];generalize Qy d f1 f2 f3 f4 f5=te at e;generalize R5=te2 at e3;generalize((zs.map Lt.P).map λx=>PV.bl (bx x))=ys at e ea;generalize(zs.map λz=>PV.bl (e2 z))=ws at e3 e5;generalize(dF zs).1=KS at *;generalize(dF zs).2=PS at *;generalize zs.map Lt.P=ZS at *;simp[bZ,ag,aV,eZ,bD,cB,bt,ab,ae,au,mC,aW,cK,Pu.ret,g1,bu,aQ,hX,uf,JK,nY,aX,fin,Pu.plain,aJ,aO,aE,bz,G0,b7,e,ea,aH,aw,aT,hb,e3,e5]
theorem CY(l:Lt):aI l.P l.P=true:=(sV l.P (jy l) (jy l)).mpr rfl
theorem By(D:10e7){zs:List Lt}(u:Uq zs)(hz:∀z∈zs,Bd z)(hl:zs.length<=1000)(hx:∀z∈zs,bx z.P=true)(C:Cs):gB d f1 f2 f3 f4 f5 [.v (.lst (zs.map Lt.P))] C=some (.v 12e4,C):=by
 rw[qu (d:=d) D zs hz hl hx (λ_=>true) (λz h=>⟨z,h,rfl,(GC u h).1,(CY z).symm⟩) C];rw[show(zs.all λ_=>true)=true by rw[YB];show λ_ _=>rfl]
theorem Bz(D:10e7){zs:List Lt}{l m:Lt}(h1:l∈zs)(h2:m∈zs)(hn:l.nm=m.nm)(eT:l.P≠m.P)(hz:∀z∈zs,Bd z)(hl:zs.length<=1000)(C:Cs):gB d f1 f2 f3 f4 f5 [.v (.lst (zs.map Lt.P))] C=some (.v 8e1,C):=by
 by_cases hx:∀z∈zs,bx z.P=true
 ·have pick:∀z:Lt,∃p:PV,z∈zs->∃m∈zs,m.nm=z.nm/\cY (dF zs).1 (dF zs).2 z.nm=some m.P/\p=m.P:=λz=>by
   by_cases q:z∈zs
   ·rcases o8 z.nm zs [] [] rfl with⟨x,Mx,e1,e2,e3⟩|⟨h,_⟩
    ·show⟨x.P,λ_=>⟨x,Mx,e1,e2,rfl⟩⟩
    ·show absurd rfl (h z q)
   ·show⟨.aP,λw=>absurd w q⟩
  have hc:∃g:Lt->PV,∀z∈zs,∃m∈zs,m.nm=z.nm/\cY (dF zs).1 (dF zs).2 z.nm=some m.P/\g z=m.P:=⟨λz=>(pick z).choose,λz h=>(pick z).choose_spec h⟩
  obtain⟨g,hg⟩:=hc;rw[qu (d:=d) D zs hz hl hx (λz=>aI (g z) z.P) (λz h=>by obtain⟨m,a,b,c,e⟩:=hg z h;show⟨m,a,b,c,by rw[e]⟩) C];suffices h:(zs.all λz=>aI (g z) z.P)=false by rw[h]
  rw[VX];obtain⟨x,_,_,x1,x2⟩:=hg l h1;obtain⟨y,_,_,y1,y2⟩:=hg m h2;have same:x.P=y.P:=by
   rw[hn]at x1;have:some x.P=some y.P:=x1.symm.trans y1;simpa using this
  by_cases q:aI (g l) l.P=true
  ·show⟨m,h2,λw=>eT ?_⟩
   rw[x2]at q;rw[y2]at w;have q1:=(sV _ (jy x) (jy l)).mp q;have w1:=(sV _ (jy y) (jy m)).mp w;rw[←q1,same,w1]
  ·show⟨l,h1,q⟩
 ·show ZcY (zs.map Lt.P) bx C (λx hx=>by
   obtain⟨z,GR,rfl⟩:=Yr.mp hx;show ZbU (d:=d) D (hz z GR) C) (by simpa using hl) ?_
  rw[XA,VX];simp only[Classical.not_forall]at hx;obtain⟨z,h,q⟩:=hx;show⟨z,h,q⟩
end
def nM(x:PyData)(w e:Nat):Prop:=x.showable=true/\x.leavesShort 30=true/\x.weight<=w/\x.depth<=e
theorem wD{w e:Nat}:∀{xs:List PyData},(∀x∈xs,nM x w e)->VP xs=true/\Vu 30 xs=true/\V7 xs<=xs.length*(w+1)/\Ul xs<=e
 |[],_=>by simp[VP,Vu,V7,Ul]
 |x::xs,h=>by
  obtain⟨a,b,c,d⟩:=h x (.head _);obtain⟨a',b',c',d'⟩:=wD (xs:=xs) λy hy=>h y (.tail _ hy);rw[VP,Vu,V7,Ul,a,b,a',b',YD,Nat.succ_mul];show⟨rfl,rfl,by lia,by lia⟩
theorem ka{w e n W:Nat}{xs:List PyData}(h:∀x∈xs,nM x w e)(hl:xs.length<=n)(hw:n*(w+1)<=W):nM (.tuple xs) W (e+1)/\nM (.list xs) W (e+1):=by
 obtain⟨a,b,c,d⟩:=wD h;have:xs.length*(w+1)<=W:=YI (Nat.mul_le_mul_right _ hl) hw;constructor
 ·show⟨by rw[WH];show a,by rw[Wc];show b,by rw[VB];lia,by rw[VQ];lia⟩
 ·show⟨by rw[WH];show a,by rw[Wc];show b,by rw[VB];lia,by rw[VQ];lia⟩
theorem nM.mono{x:PyData}{w e w' e':Nat}(f:nM x w e)(h:w<=w')(h':e<=e'):nM x w' e':=⟨f.1,f.2.1,YI f.2.2.1 h,YI f.2.2.2 h'⟩
theorem Zcd{x:PyData}{w e:Nat}(f:nM x w e)(hw:w<=500000)(he:e<=30):iM x=some (.str x.shown):=by
 have h:=PyData.shown_le 30 1e2 x f.2.1;have:=f.2.2.1;have:=f.2.2.2;ext iM;rw[if_pos ⟨f.1,by rw[YV];lia,by lia⟩]
theorem kc{i:Int}{n:Nat}(h:0<=i/\i<2^n)(hn:n<=90):nM (.int i) n 0:=by
 obtain⟨m,rfl⟩:∃m:Nat,i=m:=⟨i.toNat,by lia⟩
 have hm:m<2^n:=by have:=h.2;exact_mod_cast this
 have Rz:m≠0->m.log2<n:=λh0=>(Nat.log2_lt h0).mpr hm;have hb:m.log2<1920:=by
  by_cases h0:m=0
  ·subst h0;decide
  ·have:=Rz h0;lia
 have h90:m<10^28:=Yu hm (YI (Nat.pow_le_pow_right 1e2 hn) 1e2);show⟨by rw[WH];simpa using hb,?_,?_,by rw[VQ];show Yl _⟩
 ·rw[Wc,decide_eq_true_eq]
  change(PySem.Str.ofString (toString ((m:Nat):Int))).cps.size<=30;rw[←X2,W.KIN.signs_num,Yv];show toDigits_len_pow 1e2 1e2 1e4
 ·rw[VB]
  split
  ·show Xq _
  ·rename_i h0
   have:m≠0:=λz=>h0 (by subst z;rfl);have:=Rz this;change m.log2+1<=n;lia
theorem kT{z:Str}(h:b6 z=true):nM (.str z) 12 0:=by
 simp only[b6,Yg,decide_eq_true_eq]at h;show⟨by rw[WH],?_,?_,by rw[VQ];show Yl _⟩
 ·rw[Wc,YB]
  intro c hc;have h1:=YB.mp h.2 c hc;have h2:∀c∈AZ.cps.toList,c<16^8:=by decide +kernel
  show decide_eq_true (h2 c (by simpa using h1))
 ·rw[VB]
  have:(z.cps.size:Int)<=12:=h.1.2;lia
def ud(k:Key):Prop:=match k with
 |.inr w=>b6 w=true
 |.inl i=>0<=i/\i<=2001
theorem Hc{k:Key}(h:ud k):nM (toD (kP k)) 12 0:=by
 cases k with
 |inl i=>show(kc (i:=i) (n:=11) ⟨h.1,by have:=h.2;lia⟩ 1e2).mono 1e2 (Yl _)
 |inr w=>show kT h
theorem ZcT{α:Type}(f:α->PV):∀l:List α,toDs (l.map f)=l.map λa=>toD (f a)
 |[]=>rfl
 |a::l=>by rw[Yz,toDs,ZcT f l,Yz]
theorem rm{k:14e6}{n W:Nat}(h:∀x∈k,ud x)(hl:k.length<=n)(hw:n*13<=W):nM (toD (tupK k)) W 1:=by
 ext tupK;rw[toD,ZcT];show(ka (w:=12) (e:=0) (n:=n) (λx hx=>?_) (by simpa using hl) hw).1;obtain⟨a,ha,rfl⟩:=Yr.mp hx;show Hc (h a ha)
structure Sm(l:Lt):Prop where
 h:b6 l.h=true
 d:b6 l.d=true
 n:0<=l.n/\l.n<=2001
 pv:0<=l.pv/\l.pv<=2001
 t:0<=l.t/\l.t<=10^21
 gl:l.gs.length<=7
 g:∀g∈l.gs,∃a b i,g=[.inr a,.inr b,.inl i]/\b6 a=true/\b6 b=true/\0<=i/\i<=2001
 dl:l.dd.length<=3
 dd:∀k∈l.dd,ud k
theorem Sm.bd{l:Lt}(s:Sm l):Bd l:=by
 have:=s.n;have:=s.pv;have:=s.t;have:=s.gl
 show⟨by lia,by lia,by lia,by lia,λg hg=>?_⟩;obtain⟨a,b,i,e,_,_,_,h⟩:=s.g g hg;show⟨a,b,i,e,by lia⟩
theorem M0{l:Lt}(s:Sm l):nM (toD l.P) 2000 3:=by
 have e:toD l.P=.tuple [.str l.h,.str l.d,.int l.n,.int l.pv,.tuple (l.gs.map λg=>toD (tupK g)),.int l.t,toD (tupK l.dd)]:=by
  rw[Lt.P,toD,toDs,toDs,toDs,toDs,toDs,toDs,toDs,toDs,toD,toD,toD,toD,toD,toD,ZcT]
 rw[e];have hg:nM (.tuple (l.gs.map λg=>toD (tupK g))) 280 2:=(ka (w:=39) (e:=1) (n:=7) (λx hx=>by
  obtain⟨g,RF,rfl⟩:=Yr.mp hx;obtain⟨a,b,i,rfl,h1,h2,h3⟩:=s.g g RF;show rm (n:=3) (λk hk=>?_) 4e4 1e2;rcases Yd.mp hk with rfl|hk
  ·show h1
  ·rcases Yd.mp hk with rfl|hk
   ·show h2
   ·rw[Yj.mp hk];show h3) (by simpa using s.gl) (by decide)).1
 have ht:nM (.int l.t) 280 2:=(kc (n:=70) ⟨s.t.1,by have:=s.t.2;lia⟩ 1e2).mono 1e2 1e2;have hi:∀i:Int,0<=i/\i<=2001->nM (.int i) 280 2:=λi h=>(kc (n:=11) ⟨h.1,by lia⟩ 1e2).mono 1e2 1e2;show(ka (w:=280) (e:=2) (n:=7) (λx hx=>?_) 4e4 1e2).1;simp only[Yd,YQ,or_false]at hx;rcases hx with rfl|rfl|rfl|rfl|rfl|rfl|rfl
 ·show(kT s.h).mono 1e2 1e2
 ·show(kT s.d).mono 1e2 1e2
 ·show hi _ s.n
 ·show hi _ s.pv
 ·show hg
 ·show ht
 ·show(rm (n:=3) (W:=39) s.dd s.dl 1e2).mono 1e2 1e2
theorem kb{x:PV}{b:Int}(h:eQ x b=true):∃i,x=.int i/\0<=i/\i<b:=by
 cases x with
 |int i=>simp only[eQ,Yg,decide_eq_true_eq]at h;show⟨i,rfl,h.1,h.2⟩
 |_=>simp[eQ]at h
theorem Hk{dd:14e6}(h:c9 (tupK dd)=true):dd.length<=3/\∀k∈dd,ud k:=by
 have c1:∀{k:Key}{b:Int},eQ (kP k) b=true->b<=12->ud k:=λ{k b} h hb=>by
  obtain⟨i,e,h1,h2⟩:=kb h;cases k with
  |inl j=>cases e;show⟨h1,by lia⟩
  |inr w=>cases e
 have c2:∀{k:Key},cE (kP k)=true->ud k:=λ{k} h=>by
  cases k with
  |inl j=>simp[kP,cE]at h
  |inr w=>show h
 cases dd with
 |nil=>simp[tupK,c9]at h
 |cons k r=>
  cases k with
  |inl i=>simp[tupK,kP,c9]at h
  |inr w=>
   have hd:dR w (r.map kP)=true:=h;have one:∀{g:PV->Bool},(∀k:Key,g (kP k)=true->ud k)->(match r.map kP with|[a]=>g a|_=>false)=true->r.length<=2/\∀k∈r,ud k:=λ{g} hg h=>by
    match r,h with
    |[a],h=>show⟨by simp,λk hk=>by rw[Yj.mp hk];show hg a h⟩
   have two:∀{g:PV->PV->Bool},(∀a b:Key,g (kP a) (kP b)=true->ud a/\ud b)->(match r.map kP with|[a,b]=>g a b|_=>false)=true->r.length<=2/\∀k∈r,ud k:=λ{g} hg h=>by
    match r,h with
    |[a,b],h=>show⟨by simp,λk hk=>by
      rcases Yd.mp hk with rfl|hk
      ·show(hg _ _ h).1
      ·rw[Yj.mp hk];show(hg _ _ h).2⟩
   have none_:decide ((r.map kP).length=0)=true->r.length<=2/\∀k∈r,ud k:=λh=>by
    have:r=[]:=by simpa using h
    subst this;show⟨by simp,λk hk=>by cases hk⟩
   have cl:dO (r.map kP)=true->r.length<=2/\∀k∈r,ud k:=λh=>one (g:=λa=>eQ a 12) (λk h=>c1 h 1e2) (by rw[←h];rfl);have fin:(r.length<=2/\∀k∈r,ud k)->b6 w=true->(WO w::r:List Key).length<=3/\∀k∈(WO w::r:List Key),ud k:=λh hw=>⟨by have:=h.1;rw[YD];lia,λk hk=>by
    rcases Yd.mp hk with rfl|hk
    ·show hw
    ·show h.2 k hk⟩
   ext dR hd;by_cases w1:w="join"
   ·rw[if_pos w1]at hd;subst w1;show fin (none_ hd) 3e9
   ·rw[if_neg w1]at hd
    by_cases w2:w="say"
    ·rw[if_pos w2]at hd;subst w2;show fin (one (g:=cE) (λk h=>c2 h) (by rw[←hd];rfl)) 3e9
    ·rw[if_neg w2]at hd
     by_cases w3:w="do"
     ·rw[if_pos w3]at hd;subst w3
      show fin (two (g:=λa b=>eQ a 12&&eQ b 9) (λa b h=>by rw[Yg]at h;show⟨c1 h.1 1e2,c1 h.2 1e2⟩) (by rw[←hd];rfl)) 3e9
     ·rw[if_neg w3]at hd
      by_cases w4:w="free"
      ·rw[if_pos w4]at hd;subst w4;show fin (cl hd) 3e9
      ·rw[if_neg w4]at hd
       by_cases w5:w="ready"
       ·rw[if_pos w5]at hd;subst w5;show fin (cl hd) 3e9
       ·rw[if_neg w5]at hd
        by_cases w6:w="hand"
        ·rw[if_pos w6]at hd;subst w6
         show fin (two (g:=λa b=>eQ a 12&&cE b&&(match b with|.str z=>decide (z≠"bell")|_=>true)) (λa b h=>by rw[Yg,Yg]at h;show⟨c1 h.1.1 (by decide),c2 h.1.2⟩) hd) (by decide +kernel)
        ·rw[if_neg w6]at hd
         by_cases w7:w="quit"
         ·rw[if_pos w7]at hd;subst w7;show fin (cl hd) 3e9
         ·rw[if_neg w7]at hd
          by_cases w8:w="note"
          ·rw[if_pos w8]at hd;subst w8;show fin (none_ hd) 3e9
          ·rw[if_neg w8]at hd;cases hd
theorem Qf{ls:List Lt}{l:Lt}(P:D5 ls)(hl:l∈ls):Sm l:=by
 have f:=P.fa l hl;have h1:=BB P hl;have h2:=P.nr l hl;have h3:=f.n1;have h4:=f.t0;obtain⟨d1,d2⟩:=Hk f.dd;show⟨f.sh.2.2.1,f.sh.2.2.2,by lia,by lia,by lia,f.g7,λg hg=>?_,d1,d2⟩;obtain⟨m,hm,e,_⟩:=f.gin g hg;have fm:=P.fa m hm;have:=P.nr m hm;have:=fm.n1;show⟨m.h,m.d,m.n,e.symm,fm.sh.2.2.1,fm.sh.2.2.2,by lia,by lia⟩
section
variable{d f1 f2 f3 f4 f5:Addr}
theorem zt{x:PV}{due:Bool}{t:Str}(hs:dN [x]=some (.str t)){C:Cs}(hp:gB d f1 f2 f3 f4 f5 [.v x] C=some (.v (.bl due),C)):eR d f1 f2 f3 f4 f5 [.v x,.v (.bl due)] C=some (.v 12e4,C):=by
 have hr:cG [.v (.int 2)]=some [.int 0,.int 1]:=rfl;have e1:cf (λp q=>!aI p q) (.bl due) (.bl due)=some 8e1:=by simp[cf,dat,dep,aI]
 have e2:cf aI (.str t) (.str t)=some 12e4:=by simp[cf,dat,dep,aI]
 simp![eR,hs,cx,aK,hr,loop,hName,hp,e1,e2]
end
def sM(p:PV):Prop:=dat p=true/\nM (toD p) 2000 3
theorem S9{l:Lt}(s:Sm l):sM l.P:=⟨xk l,M0 s⟩
theorem Tc:∀{xs:List PV},(∀x∈xs,sM x)->df xs=true
 |[],_=>rfl
 |x::xs,h=>by rw[df,(h x (.head _)).1,Tc λy hy=>h y (.tail _ hy)];rfl
theorem toDs_mem:∀{xs:List PV}{q:PyData},q∈toDs xs->∃x∈xs,q=toD x
 |[],q,h=>by rw[toDs]at h;cases h
 |x::xs,q,h=>by
  rw[toDs]at h;rcases Yd.mp h with rfl|h
  ·show⟨x,.head _,rfl⟩
  ·obtain⟨y,hy,e⟩:=toDs_mem h;show⟨y,.tail _ hy,e⟩
theorem Jb{xs:List PV}(h:∀x∈xs,sM x)(hl:xs.length<=240):(∃t,dN [.lst xs]=some (.str t))/\∃t,dN [.tup xs]=some (.str t):=by
 obtain⟨a,b⟩:=ka (w:=2000) (e:=3) (n:=240) (W:=480240) (xs:=toDs xs) (λq hq=>by
  obtain⟨x,hx,rfl⟩:=toDs_mem hq;show(h x hx).2) (by rw[Pe];show hl) (by decide)
 have hd:=Tc h;constructor
 ·ext dN;dsimp only;rw[if_pos hd,Zcd b 1e2 1e2];show 6e5
 ·ext dN;dsimp only;rw[if_pos hd,Zcd a 1e2 1e2];show 6e5
theorem CQ:∀{kvs:List (PyData×PyData)},(∀q∈kvs,nM q.1 2000 3/\q.2=.int 1)->VY kvs=true/\Vy 30 kvs=true/\Um kvs<=kvs.length*2003/\PyData.depthKv kvs<=3
  |[],_=>by simp[VY,Vy,Um,PyData.depthKv]
  | (a,b)::r,h=>by
    obtain⟨⟨x1,x2,x3,x4⟩,e⟩:=h (a,b) (.head _);obtain⟨y1,y2,y3,y4⟩:=CQ (kvs:=r) λq hq=>h q (.tail _ hq);have eb:b=.int 1:=e;subst eb;obtain⟨z1,z2,z3,z4⟩:=kc (i:=1) (n:=1) 1e2 1e2;rw[VY,Vy,Um,PyData.depthKv,z1,z2,y1,y2,YD,Nat.succ_mul];rw[show WH a=true from x1,show Wc 30 a=true from x2];have x3':a.weight<=2000:=x3;have x4':a.depth<=3:=x4;show⟨rfl,rfl,by lia,by lia⟩
theorem JU{ks:List PV}(hp:bC ks=true)(h:∀x∈ks,sM x)(hl:ks.length<=120):∃t,dN [.dn ks (ks.map λ_=>.int 1)]=some (.str t):=by
 have hv:bC (ks.map λ_=>PV.int 1)=true:=IW (f:=λ_=>PV.int 1) (λ_=>rfl) ks;have e1:toDs (ks.map λ_=>PV.int 1)=ks.map λ_=>PyData.int 1:=by rw[ZcT];rfl
 obtain⟨a,b,c,dd⟩:=CQ (kvs:=(toDs ks).zip (toDs (ks.map λ_=>PV.int 1))) λq hq=>by
  obtain⟨q1,q2⟩:=q;obtain⟨h1,h2⟩:=VD hq;obtain⟨x,hx,rfl⟩:=toDs_mem h1;rw[e1]at h2;obtain⟨_,_,e⟩:=Yr.mp h2;show⟨(h x hx).2,e.symm⟩
 have hz:((toDs ks).zip (toDs (ks.map λ_=>PV.int 1))).length<=120:=by rw[Vd,Pe,Pe,Yv];lia
 have f:nM (.dict ((toDs ks).zip (toDs (ks.map λ_=>PV.int 1)))) 250000 4:=by
  show⟨by rw[WH];show a,by rw[Wc];show b,?_,by rw[VQ];lia⟩;rw[VB];show YI c (YI (Nat.mul_le_mul_right _ hz) 1e2)
 ext dN;dsimp only;rw[if_pos ⟨hp,hv,by rw[Yv]⟩,Zcd f 1e2 1e2];show 6e5
theorem mR:∀(ks ac:List PV){x:PV},x∈ks.foldl bw ac->x∈ac\/x∈ks
 |[],ac,x,h=>.inl h
 |k::ks,ac,x,h=>by
  rcases mR ks (bw ac k) h with z|z
  ·ext bw z
   split at z
   ·show .inl z
   ·rcases Yy.mp z with z|z
    ·show .inl z
    ·rw[Yj.mp z];show .inr (.head _)
  ·show .inr (.tail _ z)
theorem mS:∀(ks ac:List PV),(ks.foldl bw ac).length<=ac.length+ks.length
 |[],ac=>Yl _
 |k::ks,ac=>by
  have h1:=mS ks (bw ac k);have h2:(bw ac k).length<=ac.length+1:=by ext bw;split<;>simp
  rw[List.foldl_cons,YD];lia
theorem qq:∀{xs:List PV},(∀x∈xs,bM x=true)->bC xs=true
 |[],_=>rfl
 |x::xs,h=>by rw[bC,h x (.head _),qq λy hy=>h y (.tail _ hy)];rfl
theorem qz:∀zs:List Lt,iB (zs.map λz=>.tup [z.P,.int 1])=some (zs.map Lt.P)
 |[]=>rfl
 |z::zs=>by
  have h1:vP (.tup [z.P,.int 1])=some z.P:=by
   have hp:=jy z;have hd:=Dq z;unfold Lt.P at hp hd⊢;rw[bM]at hp;rw[dep]at hd;ext vP;dsimp only;rw[if_pos ⟨rfl,hp,by lia⟩]
  rw[Yz,iB,h1,qz zs];rfl
theorem Hj(zs:List Lt)(hz:∀z∈zs,Sm z)(hl:zs.length<=120)(C:Cs):∃(ks:List PV)(t:Str),iF C [.v (.lst (zs.map λz=>.tup [z.P,.int 1]))]=#[.dn ks (ks.map λ_=>.int 1)]/\dN [.dn ks (ks.map λ_=>.int 1)]=some (.str t):=by
 have hm:∀x∈iS (zs.map Lt.P),∃z∈zs,x=z.P:=λx hx=>by
  rcases mR _ _ hx with h|h
  ·cases h
  ·obtain⟨z,GR,e⟩:=Yr.mp h;show⟨z,GR,e.symm⟩
 have hln:=mS (zs.map Lt.P) [];obtain⟨t,e⟩:=JU (ks:=iS (zs.map Lt.P)) (qq λx hx=>by obtain⟨z,_,rfl⟩:=hm x hx;show jy z) (λx hx=>by obtain⟨z,h,rfl⟩:=hm x hx;show S9 (hz z h)) (by
  ext iS;rw[WB,Yv]at hln;lia)
 show⟨iS (zs.map Lt.P),t,?_,e⟩;ext iF;simp only[aQ,qz];rw[if_pos (by rw[Yv];lia)]
theorem vp{l m:Lt}(h:l.pv≠m.pv\/l.gs.length≠m.gs.length\/l.t≠m.t\/tupK l.dd≠tupK m.dd):l.P≠m.P:=λe=>by
 ext Lt.P e;injection e with e;injection e with _ e;injection e with _ e;injection e with _ e;injection e with e4 e;injection e with e5 e;injection e with e6 e;injection e with e7 _;rcases h with h|h|h|h
 ·injection e4 with e4;show h e4
 ·injection e5 with e5
  have:=congrArg List.length e5;simp at this;show h this
 ·injection e6 with e6;show h e6
 ·show h e7
theorem M3(a b:Int):cf aI (.int a) (.int b)=some (.bl (decide (a=b))):=by simp[cf,dat,dep,aI];rfl
theorem BV(L:10e8):cf (λp q=>!aI p q) (.tup (L.map tupK)) (.tup [])=some (.bl (decide (L≠[]))):=by
 have h1:dat (.tup (L.map tupK))=true:=by ext dat;show E2 IU _
 have h2:dep (.tup (L.map tupK))<=60:=by ext dep;have:=E3 N4 L;lia
 have h3:dat (.tup [])=true:=rfl;ext cf;rw[h1,h3,decide_eq_true h2];cases L with
 |nil=>rfl
 |cons a L=>rfl
theorem xb(k:14e6):cf aI (tupK k) (.tup [.str "note"])=some (.bl (decide (k=[.inr "note"]))):=by
 have h:=C8 k [.inr "note"];have h2:=N4 k;ext cf;rw[IU,show dat (.tup [.str "note"])=true from rfl,decide_eq_true 1e4];change some (PV.bl (aI (tupK k) (tupK [.inr "note"])))=_;rw[h]
structure Sl(l:Lt):Prop extends Sm l where
 p2:l.pv<=2000
 t2:l.t<=1000
theorem sW(k:Nat){l:Lt}(s:Sl l)(C:Cs)(g:GS C k):∃(m:Lt)(C':Cs),gC [.c k,.v l.P] C=some (.v m.P,C')/\m.nm=l.nm/\m.P≠l.P/\Sm m/\dS k C C':=by
 obtain⟨w,C',e,w1,w2,a⟩:=dI k 5 C g 1e2;have at':=a.take;have eP:l.P=.tup [.str l.h,.str l.d,.int l.n,.int l.pv,.tup (l.gs.map tupK),.int l.t,tupK l.dd]:=rfl;have hp:=s.pv;have ht:=s.t;have ZV:=s.p2;have ht2:=s.t2;have:w=0\/w=1\/w=2\/w=3\/w=4:=by lia
 rcases this with rfl|rfl|rfl|rfl|rfl
 ·show⟨{l with pv:=l.pv+1},C',?_,rfl,vp (.inl (by change l.pv+1≠l.pv;lia)),⟨s.h,s.d,s.n,by change 0<=l.pv+1/\l.pv+1<=2001;lia,s.t,s.gl,s.g,s.dl,s.dd⟩,a⟩
  rw[eP,show Lt.P {l with pv:=l.pv+1}=.tup [.str l.h,.str l.d,.int l.n,.int (l.pv+1),.tup (l.gs.map tupK),.int l.t,tupK l.dd]from rfl];sleep 13;simp![gC,dc,cn,aF,hName,cp,e,M3,b9,at']
 ·by_cases hg:l.gs=[]
  ·show⟨{l with gs:=[[.inr "zzzz",.inr "zzzz",.inl 9]]},C',?_,rfl,vp (.inr (.inl (by rw[hg];change(1:Nat)≠0;decide))),⟨s.h,s.d,s.n,s.pv,s.t,by change 1<=7;decide,λg hg=>?_,s.dl,s.dd⟩,a⟩
   ·have h1:=BV l.gs
    rw[decide_eq_false (by simpa using hg)]at h1;rw[eP,show Lt.P {l with gs:=[[.inr "zzzz",.inr "zzzz",.inl 9]]}=.tup [.str l.h,.str l.d,.int l.n,.int l.pv,.tup [.tup [.str "zzzz",.str "zzzz",.int 9]],.int l.t,tupK l.dd]from rfl];sleep 13;have i0:∀q:PV,bO (.lst [.tup [.tup [.str "zzzz",.str "zzzz",.int 9]],q]) (.int 0)=some (.tup [.tup [.str "zzzz",.str "zzzz",.int 9]]):=λq=>by simp[bO,dA,cM,cV]
    simp![gC,dc,cn,aF,hName,cp,e,M3,h1,gO,i0,at']
   ·rw[Yj.mp hg]
    show⟨_,_,_,rfl,by decide +kernel,by decide +kernel,by decide,by decide⟩
  ·have hl:0<l.gs.length:=X6.mpr hg
   show⟨{l with gs:=l.gs.drop 1},C',?_,rfl,vp (.inr (.inl (by change(l.gs.drop 1).length≠l.gs.length;rw[XJ];lia))),⟨s.h,s.d,s.n,s.pv,s.t,by change(l.gs.drop 1).length<=7;rw[XJ];have:=s.gl;lia,λg hm=>s.g g (XW hm),s.dl,s.dd⟩,a⟩;have h1:=BV l.gs;rw[decide_eq_true hg]at h1;have hc:cu (l.gs.map tupK) (some 1) none=(l.gs.drop 1).map tupK:=by rw[rR,List.map_drop]
   rw[eP,show Lt.P {l with gs:=l.gs.drop 1}=.tup [.str l.h,.str l.d,.int l.n,.int l.pv,.tup ((l.gs.drop 1).map tupK),.int l.t,tupK l.dd]from rfl];generalize(l.gs.drop 1).map tupK=G2 at *;sleep 13;have i1:∀q r:PV,bO (.lst [q,r]) (.int 1)=some r:=λq r=>by simp[bO,dA,cM,cV]
   simp![gC,dc,cn,aF,hName,cp,e,M3,h1,gO,i1,hc,at']
 ·show⟨{l with t:=l.t+1},C',?_,rfl,vp (.inr (.inr (.inl (by change l.t+1≠l.t;lia)))),⟨s.h,s.d,s.n,s.pv,by change 0<=l.t+1/\l.t+1<=10^21;lia,s.gl,s.g,s.dl,s.dd⟩,a⟩
  rw[eP,show Lt.P {l with t:=l.t+1}=.tup [.str l.h,.str l.d,.int l.n,.int l.pv,.tup (l.gs.map tupK),.int (l.t+1),tupK l.dd]from rfl];sleep 13;simp![gC,dc,cn,aF,hName,cp,e,M3,b9,at']
 ·by_cases hn:l.dd=[.inr "note"]
  ·show⟨{l with dd:=[.inr "quit",.inl 11]},C',?_,rfl,vp (.inr (.inr (.inr (by rw[hn];intro z;injection z with z;injection z with _ z;cases z)))),⟨s.h,s.d,s.n,s.pv,s.t,s.gl,s.g,by change 2<=3;decide,λk hk=>?_⟩,a⟩
   ·have h1:=xb l.dd
    rw[decide_eq_true hn]at h1;rw[eP,show Lt.P {l with dd:=[.inr "quit",.inl 11]}=.tup [.str l.h,.str l.d,.int l.n,.int l.pv,.tup (l.gs.map tupK),.int l.t,.tup [.str "quit",.int 11]]from rfl];sleep 13;have i1:∀q r:PV,bO (.lst [q,r]) (.int 1)=some r:=λq r=>by simp[bO,dA,cM,cV]
    simp![gC,dc,cn,aF,hName,cp,e,M3,h1,gO,i1,at']
   ·rcases Yd.mp hk with rfl|hk
    ·change b6 "quit"=true;decide +kernel
    ·rw[Yj.mp hk];show⟨by decide,by decide⟩
  ·show⟨{l with dd:=[.inr "note"]},C',?_,rfl,vp (.inr (.inr (.inr (λz=>hn ?_)))),⟨s.h,s.d,s.n,s.pv,s.t,s.gl,s.g,by change 1<=3;decide,λk hk=>?_⟩,a⟩
   ·have h1:=xb l.dd
    rw[decide_eq_false hn]at h1;rw[eP,show Lt.P {l with dd:=[.inr "note"]}=.tup [.str l.h,.str l.d,.int l.n,.int l.pv,.tup (l.gs.map tupK),.int l.t,.tup [.str "note"]]from rfl];sleep 13;have i0:∀q r:PV,bO (.lst [q,r]) (.int 0)=some q:=λq r=>by simp[bO,dA,cM,cV]
    simp![gC,dc,cn,aF,hName,cp,e,M3,h1,gO,i0,at']
   ·have h1:=C8 l.dd [.inr "note"]
    have h2:aI (tupK l.dd) (tupK [.inr "note"])=true:=by rw[←z];show(sV _ (Fd _) (Fd _)).mpr rfl
    rw[h1]at h2;show of_decide_eq_true h2
   ·rw[Yj.mp hk];change b6 "note"=true;decide +kernel
 ·show⟨{l with t:=l.t+10^20},C',?_,rfl,vp (.inr (.inr (.inl (by change l.t+10^20≠l.t;lia)))),⟨s.h,s.d,s.n,s.pv,by change 0<=l.t+10^20/\l.t+10^20<=10^21;lia,s.gl,s.g,s.dl,s.dd⟩,a⟩
  rw[eP,show Lt.P {l with t:=l.t+10^20}=.tup [.str l.h,.str l.d,.int l.n,.int l.pv,.tup (l.gs.map tupK),.int (l.t+10^20),tupK l.dd]from rfl];have hpw:F4 (.int 10) (.int 20)=some (.int (10^20)):=by rfl
  sleep 13;generalize((10:Int)^20)=T at *;simp![gC,dc,cn,aF,hName,cp,e,M3,b9,hpw,at']
theorem Qg{ls:List Lt}{l:Lt}(P:D5 ls)(hl:l∈ls):Sl l:=⟨Qf P hl,(BB P hl).2,(P.fa l hl).t0.2⟩
noncomputable def hW:List PV:=[.aP,.int 0,.str "letter",.tup [],.tup [.str "a",.str "b",.int 1],.lst [.str "a"],.tup [.str "a",.str "b",.int 1,.int 0,.tup [],.int 0,.tup []],.tup [.str "a",.str "b",.bl true,.int 0,.tup [],.int 0,.tup [.str "note"]]]
section
variable{d f1 f2 f3 f4 f5:Addr}
theorem Tq{x:PV}(h:jZ x=true)(ht:isT x=false)(C:Cs):dC d f1 f2 f3 f4 f5 [.v x] C=some (.v 8e1,C):=by
 have e:=zz x 7 7 C h ht;simp![dC,e]
theorem LN(D:10e7){o:PV}(h:o∈hW)(C:Cs):dC d f1 f2 f3 f4 f5 [.v o] C=some (.v (.bl (bx o)),C)/\bx o=false/\sM o:=by
 simp only[hW,Yd,YQ,or_false]at h;rcases h with rfl|rfl|rfl|rfl|rfl|rfl|rfl|rfl
 ·show⟨Tq rfl rfl C,rfl,rfl,by show⟨?_,?_,?_,?_⟩<;>decide +kernel⟩
 ·show⟨Tq rfl rfl C,rfl,rfl,by show⟨?_,?_,?_,?_⟩<;>decide +kernel⟩
 ·show⟨Tq rfl rfl C,rfl,rfl,by show⟨?_,?_,?_,?_⟩<;>decide +kernel⟩
 ·show⟨(ZcC [] C 1e2).1,rfl,rfl,by show⟨?_,?_,?_,?_⟩<;>decide +kernel⟩
 ·show⟨(ZcC _ C 4e4).1,rfl,rfl,by show⟨?_,?_,?_,?_⟩<;>decide +kernel⟩
 ·show⟨Tq rfl rfl C,rfl,rfl,by show⟨?_,?_,?_,?_⟩<;>decide +kernel⟩
 ·show⟨oD D _ _ _ _ _ _ _ C 3e9,by decide +kernel,rfl,by show⟨?_,?_,?_,?_⟩<;>decide +kernel⟩
 ·show⟨oD D _ _ _ _ _ _ _ C 3e9,by decide +kernel,rfl,by show⟨?_,?_,?_,?_⟩<;>decide +kernel⟩
end
theorem Nc{xs:List PV}{i:Int}(h:0<=i/\i<=xs.length):cu xs none (some i)=xs.take i.toNat:=by
 ext cu;rw[show HT.cj xs.length 0 none=0 from rfl,show HT.cj xs.length xs.length (some i)=min i.toNat xs.length by ext HT.cj;dsimp only;rw[if_neg 1e4]];rw[List.drop_zero,Nat.sub_zero,WE 1e4]
theorem Dw{xs:List PV}{i:Int}(h:0<=i/\i<=xs.length):cu xs (some i) none=xs.drop i.toNat:=by
 ext cu;rw[show HT.cj xs.length xs.length none=xs.length from rfl,show HT.cj xs.length 0 (some i)=min i.toNat xs.length by ext HT.cj;dsimp only;rw[if_neg 1e4]];rw[WE 1e4];show Vi (by rw[XJ];lia)
theorem Hw(i j:Int):b9 (.int i) (.int j)=some (.int (i+j)):=rfl
def Bad(xs:List PV):Prop:=(∃zs:List Lt,xs=zs.map Lt.P/\zs.length<=111/\(∀z∈zs,Sm z)/\∃l∈zs,∃m∈zs,l.nm=m.nm/\l.P≠m.P)\/
 ∃(A B:List Lt)(o:PV),xs=A.map Lt.P++[o]++B.map Lt.P/\A.length<=110/\B.length<=110/\(∀z∈A,Sm z)/\(∀z∈B,Sm z)/\o∈hW
theorem tp(k:Nat){us:List Lt}(hu:∀u∈us,Sl u)(hl:us.length<=110)(C:Cs)(g:GS C k):∃(xs:List PV)(C':Cs),jM [.c k,.v (.lst 6e6)] C=some (.v (.lst xs),C')/\Bad xs/\dS k C C':=by
 obtain⟨at_,C1,e1,t1,t2,a1⟩:=dI k ((us.length:Int)+1) C g 1e4;have hb:0<=at_/\at_<=((us.map Lt.P).length:Int):=by rw[Yv];lia
 have c1:=Nc hb;have c2:=Dw hb;rw[←List.map_take]at c1;rw[←List.map_drop]at c2;have lu:cH [.lst 6e6]=some (.int (us.length:Int)):=by simp[cH]
 have eT:=To us;have lT:((us.take at_.toNat).map Lt.P).length<=110:=by rw[Yv,Y1];lia
 have lD:((us.drop at_.toNat).map Lt.P).length<=110:=by rw[Yv,XJ];lia
 have cat:∀o:PV,b9 (.lst ((us.take at_.toNat).map Lt.P)) (.lst [o])=some (.lst ((us.take at_.toNat).map Lt.P++[o]))/\b9 (.lst ((us.take at_.toNat).map Lt.P++[o])) (.lst ((us.drop at_.toNat).map Lt.P))=some (.lst ((us.take at_.toNat).map Lt.P++[o]++(us.drop at_.toNat).map Lt.P)):=λo=>by
  constructor
  ·ext b9;dsimp only;rw[if_pos (by rw[WA];lia)]
  ·ext b9;dsimp only;rw[if_pos (by rw[YN,WA];lia)]
 have BO:∀D:Cs,dS k C1 D->(aV (dZ (aC (ak 5e2 4e0 10e6)) (aC (ak (g2 yW) (aT aB (ab 1e7 (ab 7e4 ae))) 2e3))) (ag (aw 3 (aT gC (ab 1e7 (ab (ak 3e7 4e0 (aT aB (ab 1e7 (ab (bt 7e5 (ab 4e0 ae)) ae)))) ae)))) (aX (ak 5e4 (ak 5e4 (bg 4e0 ic (bA 9e0)) (aJ (aZ 13e9))) (bg 4e0 (bA 9e0) ic)))) aH) [4e8,#[.lst 6e6],#[.int at_],none,none] C1=some (.nx [4e8,#[.lst 6e6],#[.int at_],none,none],D)->
   ∃(xs:List PV)(C':Cs),jM [.c k,.v (.lst 6e6)] C=some (.v (.lst xs),C')/\Bad xs/\dS k C C':=λD aD hi=>by
  have g2':=aD.gs.app (.lst hW);obtain⟨j,D2,e2,j1,j2,a2⟩:=dI k 8 _ g2' 1e2;have hkd:k<D.length:=aD.gs.lt;have hjx:∃o∈hW,bO (.lst hW) (.int j)=some o:=by
   have hj:j.toNat<hW.length:=by change j.toNat<8;lia
   show⟨hW[j.toNat],YO hj,?_⟩;have h2:j<(hW.length:Int):=j2;simp only[bO,dA,cM,cV];rw[if_pos j1,if_pos h2];show Yc hj
  obtain⟨o,ho,hox⟩:=hjx;have iq:D2[D.length]? = some (.lst hW):=by rw[a2.jz _ (XI hkd)];simp
  have aa:dS k C (D2.take D.length):=by
   show(a1.trans aD).trans ?_;have G0:=a2.len;rw[YN]at G0;show pB (by rw[G0];simp) a2.gs hkd λq hq hk=>by rw[a2.jz q hk,Yh hq]
  have hlc:C.length=D.length:=by rw[aD.len,a1.len]
  show⟨_,D2.take C.length,?_,.inr ⟨us.take at_.toNat,us.drop at_.toNat,o,rfl,by rw[Y1];lia,by rw[XJ];lia,λz hz=>(hu z (XX hz)).toSm,λz hz=>(hu z (XW hz)).toSm,ho⟩,by rw[hlc];show aa⟩;obtain⟨k1,k2⟩:=cat o;have Ov:aw 2 (aT aB (ab 1e7 (ab (ak 5e4 (bt 7e5 (ab 4e0 ae)) 1e8) ae))) [4e8,#[.lst 6e6],none,none,none] C=some (.nx [4e8,#[.lst 6e6],#[.int at_],none,none],C1):=by
   sleep 10;simp[aw,aT,ab,ae,au,mC,ak,bt,aW,cK,Pu.ret,g1,g2,bu,aQ,lu,Hw,e1]
  have st2:ck 4 (aZ (ab (mC .aP) (ab 2e3 (ab (mC (.str "letter")) (ab 15e0 (ab (bf (ab (mC (.str "a")) (ab (mC (.str "b")) (ab 1e8 ae)))) (ab (aJ (aZ (ab (mC (.str "a")) ae))) (ab (bf (ab (mC (.str "a")) (ab (mC (.str "b")) (ab 1e8 (ab 2e3 (ab 15e0 (ab 2e3 (ab 15e0 ae)))))))) ae)))))))) [4e8,#[.lst 6e6],#[.int at_],none,none] D=some (.nx [4e8,#[.lst 6e6],#[.int at_],none,5e8],D++[.lst (hW.take 7)]):=by
   sleep 10;simp![ck,hW]
  have jh:dj (eM 16e1 (ab (bf (ab (mC (.str "a")) (ab (mC (.str "b")) (ab (mC 12e4) (ab 2e3 (ab 15e0 (ab 2e3 (ab 10e9 ae)))))))) ae)) [4e8,#[.lst 6e6],#[.int at_],none,5e8] (D++[.lst (hW.take 7)])=some (.nx [4e8,#[.lst 6e6],#[.int at_],none,5e8],D++[.lst hW]):=by
   sleep 10;simp![eM,iV,pw,hW]
  ext jM;change(match ag _ _ [4e8,some (.v (.lst 6e6)),none,none,none] C with
   |some (.rt r,C')=>fin C.length C' r
   |some (.nx _,C')=>some 15e9
   |some (.rf ps,C')=>some 17e4
   |some (.rq qs,C')=>(fS C.length C' qs).map λps=>17e3
   |_=>none)=_
  rw[cz Ov,cz hi,cz st2,cz jh];generalize(us.take at_.toNat).map Lt.P=TA at *;generalize(us.drop at_.toNat).map Lt.P=DR at *;sleep 10;generalize hW=OD at *;simp[aX,ak,au,bg,ic,bA,aW,cK,Pu.ret,Pu.intD,aQ,di,gN,c1,c2,aJ,aZ,ab,ae,aT,mC,g2,e2,iq,hox,Pu.plain,k1,k2,fin]
 by_cases hn:us=[]
 ·rw[decide_eq_false (by simpa using hn)]at eT
  show BO C1 (dS.refl a1.gs) ?_;sleep 10;simp![eT]
 ·rw[decide_eq_true hn]at eT
  obtain⟨p,C2,e2,p1,p2,a2⟩:=dI k 3 C1 a1.gs 1e2;by_cases hp:0<p
  ·have hlen:0<us.length:=X6.mpr hn
   obtain⟨j,C3,e3,j1,j2,a3⟩:=dI k (us.length:Int) C2 a2.gs 1e4;have hj:j.toNat<us.length:=by lia
   have hjx:bO (.lst 6e6) (.int j)=some (us[j.toNat]).P:=by simp[bO,dA,cM,cV,j1,j2,Yc hj]
   have hjm:us[j.toNat]∈us:=YO hj;obtain⟨m,C4,e4,m1,m2,m3,a4⟩:=sW k (hu _ hjm) C3 a3.gs;have aa:=((a1.trans a2).trans a3).trans a4;obtain⟨k1,k2⟩:=cat m.P;show⟨(us.take at_.toNat).map Lt.P++[m.P]++(us.drop at_.toNat).map Lt.P,C4,?_,.inl ⟨us.take at_.toNat++[m]++us.drop at_.toNat,by rw[Y7,Y7,List.map_singleton],by rw[YN,YN,Y1,XJ,WA];lia,λz hz=>?_,us[j.toNat],?_,m,by simp,m1.symm,λz=>m2 z.symm⟩,aa⟩
   ·generalize hP:(us[j.toNat]).P=UP at *
    have at':=aa.take;generalize(us.take at_.toNat).map Lt.P=TA at *;generalize(us.drop at_.toNat).map Lt.P=DR at *;sleep 10;generalize m.P=MP at *;simp[jM,bZ,ag,aV,dZ,aC,aw,aX,ak,bt,au,bg,ic,bA,aW,cK,Pu.ret,Pu.intD,aQ,bu,di,gN,c1,c2,aJ,aZ,ab,ae,aT,mC,g1,g2,lu,Hw,e1,eT,mB,sT,e2,yW,dP,hp,e3,hjx,e4,Pu.plain,fin,k1,k2,at']
   ·rcases Yy.mp hz with hz|hz
    ·rcases Yy.mp hz with hz|hz
     ·show(hu z (XX hz)).toSm
     ·rw[Yj.mp hz];show m3
    ·show(hu z (XW hz)).toSm
   ·have:us[j.toNat]∈us.take at_.toNat++us.drop at_.toNat:=by rw[List.take_append_drop];show hjm
    rcases Yy.mp this with h|h
    ·show YM _ (YM _ h)
    ·show Ym _ h
  ·show BO C2 a2 ?_
   sleep 10;simp![eT,e2,yW,hp]
theorem DY{D C':Cs}{c:PV}(a:dS D.length (D++[c]) C'):C'.take D.length=D:=by
 apply Xk;intro i;rcases YU i D.length with z|z
 ·rw[Xn z,a.jz i (Yp z),Yh z]
 ·rw[Yf.mpr z,Yf.mpr (by rw[Y1];lia)]
section
variable{d f1 f2 f3 f4 f5:Addr}
noncomputable def things:List PV:=[.aP,.str "",.int 0,.tup [],.b5 [] [],.tup [.str "a",.str "b",.int 1,.int 0,.tup [],.int 0,.tup [.str "note"]],.lst [.lst []],.lst [.tup []]]
theorem kU{p:PV}(h:dat p=true)(h1:(toD p).showable=true)(h2:(toD p).leavesShort 30=true)(h3:decide ((toD p).weight<=2000)=true)(h4:decide ((toD p).depth<=3)=true):sM p:=⟨h,h1,h2,of_decide_eq_true h3,of_decide_eq_true h4⟩
theorem Aa(D:10e7){x:PV}(h:x∈things)(C:Cs):eR d f1 f2 f3 f4 f5 [.v x,.v 8e1] C=some (.v 12e4,C):=by
 have e0:sM (.tup []):=kU rfl 3e9 3e9 3e9 3e9;have e1:sM (.lst []):=kU rfl 3e9 3e9 3e9 3e9;simp only[things,Yd,YQ,or_false]at h;rcases h with rfl|rfl|rfl|rfl|rfl|rfl|rfl|rfl
 ·show zt (t:="None") rfl (I8 rfl C)
 ·show zt (t:="") rfl (I8 rfl C)
 ·show zt (t:=Gn 0) (by ext dN;dsimp only;rw[if_pos 1e2]) (I8 rfl C)
 ·obtain⟨t,e⟩:=(Jb (xs:=[]) (λx hx=>by cases hx) 1e2).2
  show zt e (I8 rfl C)
 ·have f:nM (.dict []) 0 1:=⟨by decide +kernel,by decide +kernel,by decide +kernel,by decide +kernel⟩
  show zt (x:=.b5 [] []) (by ext dN;show Zcd f 1e2 1e2) (I8 rfl C)
 ·obtain⟨t,e⟩:=(Jb (xs:=[.str "a",.str "b",.int 1,.int 0,.tup [],.int 0,.tup [.str "note"]]) (λx hx=>by
   simp only[Yd,YQ,or_false]at hx;rcases hx with rfl|rfl|rfl|rfl|rfl|rfl|rfl<;>show kU rfl (by decide +kernel) (by decide +kernel) (by decide +kernel) (by decide +kernel)) (by decide)).2
  show zt e (I8 rfl C)
 ·obtain⟨t,e⟩:=(Jb (xs:=[.lst []]) (λx hx=>by rw[Yj.mp hx];show e1) 1e2).1
  show zt e (ZcY [.lst []] bx C (λx hx=>by rw[Yj.mp hx];show Tq rfl rfl C) 1e2 rfl)
 ·obtain⟨t,e⟩:=(Jb (xs:=[.tup []]) (λx hx=>by rw[Yj.mp hx];show e0) 1e2).1
  show zt e (ZcY [.tup []] bx C (λx hx=>by rw[Yj.mp hx];show(ZcC [] C 1e2).1) 1e2 rfl)
abbrev tbd(d f1 f2 f3 f4 f5:Addr):aG->M PF:=aV (bD (cB (aT (eR d f1 f2 f3 f4 f5) (ab 4e0 (ab (mC 8e1) ae))))) 15e5 aH
theorem Zc2(D:10e7)(S x2 x3 x4 x5:9e2)(C:Cs):∀(xs:List PV)(o:9e2),(∀x∈xs,x∈things)->∃o',loop (hName 1) (tbd d f1 f2 f3 f4 f5) xs [S,o,x2,x3,x4,x5] C=some (.nx [S,o',x2,x3,x4,x5],C)
 |[],o,_=>⟨o,rfl⟩
 |x::xs,o,h=>by
  obtain⟨o',e⟩:=Zc2 D S x2 x3 x4 x5 C xs #[x] λy hy=>h y (.tail _ hy);show⟨o',?_⟩;have e1:=Aa (d:=d) D (h x (.head _)) C;have e2:tbd d f1 f2 f3 f4 f5 [S,#[x],x2,x3,x4,x5] C=some (.nx [S,#[x],x2,x3,x4,x5],C):=by simp![e1]
  rw[←e]
  conv=>lhs;unfold loop
  simp[hName,aW,e2]
theorem NO(D:10e7){xs:List PV}(h:Bad xs)(C:Cs):eR d f1 f2 f3 f4 f5 [.v (.lst xs),.v 8e1] C=some (.v 12e4,C):=by
 rcases h with⟨zs,rfl,hl,hs,l,h1,m,h2,hn,hp⟩|⟨A,B,o,rfl,hA,hB,sA,sB,ho⟩
 ·obtain⟨t,e⟩:=(Jb (xs:=zs.map Lt.P) (λx hx=>by obtain⟨z,hz,rfl⟩:=Yr.mp hx;show S9 (hs z hz)) (by rw[Yv];lia)).1
  show zt e (Bz D h1 h2 hn hp (λz hz=>(hs z hz).bd) 1e4 C)
 ·obtain⟨o1,o2,o3⟩:=LN (d:=d) D ho C
  have hm:∀x∈A.map Lt.P++[o]++B.map Lt.P,x=o\/∃z:Lt,Sm z/\x=z.P:=λx hx=>by
   rcases Yy.mp hx with hx|hx
   ·rcases Yy.mp hx with hx|hx
    ·obtain⟨z,hz,rfl⟩:=Yr.mp hx;show .inr ⟨z,sA z hz,rfl⟩
    ·show .inl (Yj.mp hx)
   ·obtain⟨z,hz,rfl⟩:=Yr.mp hx;show .inr ⟨z,sB z hz,rfl⟩
  obtain⟨t,e⟩:=(Jb (xs:=A.map Lt.P++[o]++B.map Lt.P) (λx hx=>by
   rcases hm x hx with rfl|⟨z,hz,rfl⟩
   ·show o3
   ·show S9 hz) (by simp;lia)).1
  show zt e (ZcY _ bx C (λx hx=>by
   rcases hm x hx with rfl|⟨z,hz,rfl⟩
   ·show o1
   ·show ZbU D hz.bd C) (by simp;lia) ?_)
  rw[VX];show⟨o,by simp,by rw[o2];decide⟩
theorem nX(D:10e7){zs:List Lt}(u:Uq zs)(hs:∀z∈zs,Sm z)(hx:∀z∈zs,bx z.P=true)(hl:zs.length<=230)(C:Cs):eR d f1 f2 f3 f4 f5 [.v (.lst (zs.map Lt.P)),.v 12e4] C=some (.v 12e4,C):=by
 obtain⟨t,e⟩:=(Jb (xs:=zs.map Lt.P) (λx hx=>by obtain⟨z,hz,rfl⟩:=Yr.mp hx;show S9 (hs z hz)) (by rw[Yv];lia)).1;show zt e (By D u (λz hz=>(hs z hz).bd) 1e4 hx C)
abbrev sbd(d f1 f2 f3 f4 f5:Addr):aG->M PF:=aV (bD (cB (aT (eR d f1 f2 f3 f4 f5) (ab (Gy jM (fu bX (ab 1e7 (ab (ak 5e4 (mC (.int 51)) 11e5) ae))) 8e2) (ab (mC 8e1) ae))))) 15e5 aH
theorem Ks(D:10e7)(ns:List Int){us:List Lt}(hu:∀u∈us,Sl u)(hl:us.length<=110)(x1 x2 x3:9e2)(k:Int)(hk:1<=k/\k<=20)(C:Cs):
  sbd d f1 f2 f3 f4 f5 [1e5,x1,x2,x3,#[.lst 6e6],#[.int k]] C=some (.nx [1e5,x1,x2,x3,#[.lst 6e6],#[.int k]],C):=by
 obtain⟨x,y,el,hy⟩:=O9 ns (51+k) C 1e4 1e4;obtain⟨xs,C',e,hb,a⟩:=tp C.length hu hl _ (kO C x y hy);have e2:=NO (d:=d) D hb C;have e3:=DY a;sleep 10;generalize ns.map PV.int=NS at *;simp[aV,bD,cB,aT,ab,ae,Gy,fu,au,mC,ak,aW,cK,Pu.ret,g2,aQ,Hw,el,e,fin,e3,e2,nY,aH,Pu.plain]
abbrev q1(d f1 f2 f3 f4 f5:Addr):aG->M PF:=cx (aE (aJ (aZ (ab (mC .aP) (ab (mC (.str "")) (ab 2e3 (ab 15e0 (ab kC (ab (bf (ab (mC (.str "a")) (ab (mC (.str "b")) (ab 1e8 (ab 2e3 (ab 15e0 (ab 2e3 (ab 10e9 ae)))))))) (ab (aJ (aZ (ab 10e6 ae))) (ab (aJ (aZ (ab 15e0 ae))) ae))))))))))) (hName 1) (tbd d f1 f2 f3 f4 f5)
abbrev q4:aG->M PF:=aw 4 (aT nS (ab 9e6 (ab (aT nQ (ab 1e7 (ab 9e0 (ab (aT aB (ab 9e6 (ab (mC (.int 33)) ae))) ae)))) ae)))
abbrev q5(d f1 f2 f3 f4 f5:Addr):aG->M PF:=aV (eZ (bD (cB (aT (eR d f1 f2 f3 f4 f5) (ab 16e1 (ab (mC 12e4) ae))))) (eZ (bD (cB (aT (eR d f1 f2 f3 f4 f5) (ab 10e6 (ab (mC 12e4) ae))))) (bD (cB (aT (eR d f1 f2 f3 f4 f5) (ab (ak 5e4 16e1 16e1) (ab (mC 12e4) ae))))))) 15e5 aH
abbrev QA:aG->M SV:=bf (ab 1e7 (ab 1e8 ae))
abbrev q6(d f1 f2 f3 f4 f5:Addr):aG->M PF:=aV (eZ (bD (cB (aT (eR d f1 f2 f3 f4 f5) (ab (bt (g1 eY) 8e2) (ab (mC 8e1) ae))))) (bD (cB (aT (eR d f1 f2 f3 f4 f5) (ab (bt iF (ab (aJ (aO (aE 16e1) 5e5 [] 6e4 dD QA)) ae)) (ab (mC 8e1) ae)))))) 15e5 aH
abbrev q7(d f1 f2 f3 f4 f5:Addr):aG->M PF:=cx (iQ (ab 1e8 (ab (ak 5e4 2e9 (bt 7e5 (ab (bg 1e7 (bA 1e8) (bA (mC (.int 16)))) ae))) ae))) (hName 5) (sbd d f1 f2 f3 f4 f5)
theorem Md:JB d f1 f2 f3 f4 f5=ag (q1 d f1 f2 f3 f4 f5) (ag (aw 2 (aT lF 7e1)) (ag (ck 3 (fu bX (ab 1e7 (ab (mC (.int 50)) ae)))) (ag q4 (ag (q5 d f1 f2 f3 f4 f5) (ag (q6 d f1 f2 f3 f4 f5) (ag (q7 d f1 f2 f3 f4 f5) (aX (mC 12e4)))))))):=rfl
theorem Cn(D:10e7)(ns:List Int)(hn:ns.length<=63):Et d f1 f2 f3 f4 f5 [.v (.lst 11e9)] []=some (.v 12e4,[]):=by
 obtain⟨o,e1⟩:=Zc2 (d:=d) D #[.lst 11e9] none none none none [] things none λx h=>h;have s1:q1 d f1 f2 f3 f4 f5 [1e5,none,none,none,none,none] []=some (.nx [1e5,o,none,none,none,none],[]):=by
  have hi:aE (aJ (aZ (ab (mC .aP) (ab (mC (.str "")) (ab 2e3 (ab 15e0 (ab kC (ab (bf (ab (mC (.str "a")) (ab (mC (.str "b")) (ab 1e8 (ab 2e3 (ab 15e0 (ab 2e3 (ab 10e9 ae)))))))) (ab (aJ (aZ (ab 10e6 ae))) (ab (aJ (aZ (ab 15e0 ae))) ae)))))))))) [1e5,none,none,none,none,none] []=some (things,[]):=by
   generalize ns.map PV.int=NS;simp![aE,bz,things]
  unfold q1 cx aW;rw[hi];show e1
 obtain⟨sp,bN,ds,et,T⟩:=Fu ns [];have s2:aw 2 (aT lF 7e1) [1e5,o,none,none,none,none] []=some (.nx [1e5,o,3e3,none,none,none],[]):=by
  rw[show(.tup [.int sp,.b5 (bN.map .str) (ds.map Dl.P)]:PV)=cy sp bN ds from rfl]at et;generalize ns.map PV.int=NS at *;sleep 12;simp[aw,aT,ab,ae,au,aW,Pu.ret,et]
 obtain⟨x,y,el,hy⟩:=O9 ns 50 [] 1e4 1e4;have s3:ck 3 (fu bX (ab 1e7 (ab (mC (.int 50)) ae))) [1e5,o,3e3,none,none,none] []=some (.nx [1e5,o,3e3,some (.c 0),none,none],9e9):=by
  generalize ns.map PV.int=NS at *;sleep 12;simp[ck,fu,ab,ae,au,mC,aW,Pu.ret,el]
 have g0:GS 9e9 0:=⟨x,y,rfl,hy⟩
 obtain⟨p,C1,e4,p1,p2,a1⟩:=dI 0 33 _ g0 1e2;obtain⟨ls,ep,P⟩:=F8 ns sp T p 1e4 C1;obtain⟨us,C2,eu,Ri,OJ,a2⟩:=oF 0 ls (by have:=P.le;lia) C1 a1.gs;have s4:q4 [1e5,o,3e3,some (.c 0),none,none] 9e9=some (.nx 13e0,C2):=by
  generalize ns.map PV.int=NS at *;sleep 12;sleep 6;sleep 10;simp[q4,aw,aT,ab,ae,au,mC,aW,Pu.ret,e4,ep,eu]
 have MA:∀u∈us,Sl u:=λu h=>Qg P (OJ u h);have Im:∀u∈us,Sm u:=λu h=>(MA u h).toSm;have dQ:∀u∈us,bx u.P=true:=λu h=>yr P (OJ u h);have uq:∀zs:List Lt,(∀z∈zs,z∈us)->Uq zs:=λzs hz l hl m hm e=>by
  have i1:=OJ l (hz l hl);have i2:=OJ m (hz m hm);obtain⟨i,hi,ei⟩:=XQ i1;obtain⟨j,hj,ej⟩:=XQ i2;have Iu:i<(ls.map Lt.nm).length:=by simpa using hi
  have Z7:j<(ls.map Lt.nm).length:=by simpa using hj
  have:(ls.map Lt.nm)[i]=(ls.map Lt.nm)[j]:=by rw[List.getElem_map,List.getElem_map,ei,ej,e]
  have ij:=(X9 (h₀:=Iu) (h₁:=Z7) P.nd).mp this;subst ij;rw[←ei,←ej]
 have t1:=nX (d:=d) D (uq us λz h=>h) Im dQ 1e4 C2;have t2:=nX (d:=d) D (zs:=[]) (uq [] λz h=>by cases h) (λz h=>by cases h) (λz h=>by cases h) 1e2 C2;have RJ:∀z∈us++us,z∈us:=λz h=>(Yy.mp h).elim id id;have t3:=nX (d:=d) D (zs:=us++us) (uq _ RJ) (λz h=>Im z (RJ z h)) (λz h=>dQ z (RJ z h)) (by rw[YN];lia) C2;rw[Y7]at t3;rw[Vs]at t2;have zF:(us.map Lt.P).length<=110:=by rw[Yv];show Ri
 have s5:q5 d f1 f2 f3 f4 f5 13e0 C2=some (.nx 13e0,C2):=by
  have ha:b9 (.lst 6e6) (.lst 6e6)=some (.lst (us.map Lt.P++us.map Lt.P)):=by ext b9;dsimp only;rw[if_pos 1e4]
  generalize ns.map PV.int=NS at *;sleep 12;sleep 10;simp[q5,aV,eZ,bD,cB,aT,ab,ae,au,mC,ak,g2,aW,cK,Pu.ret,aQ,t1,t2,t3,ha,nY,aJ,aZ,Pu.plain,aH]
 obtain⟨ks,t,ed,es⟩:=Hj us Im 1e4 C2;obtain⟨tt,et2⟩:=(Jb (xs:=us.map Lt.P) (λx hx=>by obtain⟨z,hz,rfl⟩:=Yr.mp hx;show S9 (Im z hz)) 1e4).2;have t4:eR d f1 f2 f3 f4 f5 [.v (.tup 6e6),.v 8e1] C2=some (.v 12e4,C2):=zt et2 (I8 rfl C2);have t5:eR d f1 f2 f3 f4 f5 [.v (.dn ks (ks.map λ_=>.int 1)),.v 8e1] C2=some (.v 12e4,C2):=zt es (I8 rfl C2);have hcp:br 6e4 dD QA 6e6 [none] [] C2=some (us.map λz=>.tup [z.P,.int 1],C2):=by
  have:=Hy (te:=QA) (f:=λp=>.tup [p,.int 1]) 6e6 [none] [] C2 λx hx=>by simp[QA,bf,ab,ae,au,mC,aW,cK,Pu.ret,Pu.plain]
  rw[Xg,Y0]at this;show this
 have s6:q6 d f1 f2 f3 f4 f5 13e0 C2=some (.nx 13e0,C2):=by
  have hl5:(us.map Lt.P).length<=100000:=by lia
  generalize ns.map PV.int=NS at *;sleep 12;generalize(us.map λz=>PV.tup [z.P,.int 1])=PR at *;generalize(ks.map λ_=>PV.int 1)=ON at *;sleep 10;ext q6;generalize QA=te at *;simp[aV,eZ,bD,cB,aT,ab,ae,au,mC,bt,g1,aW,cK,Pu.ret,aQ,bu,eY,t4,nY,aJ,aO,aE,bz,hl5,b7,hcp,ed,t5,aH]
 have hc:=xm 11e9 (some 1) (some 16);have yT:(cu 11e9 (some 1) (some 16)).length<=15:=by
  ext cu;rw[Y1];have:HT.cj (ns.map PV.int).length (ns.map PV.int).length (some 16)-HT.cj (ns.map PV.int).length 0 (some 1)<=15:=by
   ext HT.cj;dsimp only;rw[if_neg 1e2,if_neg 1e2];lia
  lia
 have hr:qe [.v (.int 1),.v (.int (2+((cu 11e9 (some 1) (some 16)).length:Int)))]=some ((Yk (2+((cu 11e9 (some 1) (some 16)).length:Int)-1).toNat).map λ(j:Nat)=>.int (1+j)):=by
  ext qe;dsimp only;rw[if_pos ⟨by decide,by lia⟩]
 obtain⟨ρ',C',e7,GW⟩:=qL (g:=hName 5) (f:=sbd d f1 f2 f3 f4 f5) (λρ C=>C=C2/\∃z,ρ=[1e5,o,3e3,some (.c 0),#[.lst 6e6],z]) ((Yk (2+((cu 11e9 (some 1) (some 16)).length:Int)-1).toNat).map λ(j:Nat)=>.int (1+j)) (λx hx ρ C h=>by
  obtain⟨rfl,z,rfl⟩:=h;obtain⟨j,hj,rfl⟩:=Yr.mp hx;have Z7:=Xh.mp hj;show⟨_,_,_,rfl,Ks (d:=d) D ns MA Ri o #[cy sp bN ds] (some (.c 0)) (1+(j:Int)) (by lia) C,rfl,_,rfl⟩) [#[.lst (ns.map .int)],o,#[cy sp bN ds],some (.c 0),#[.lst (us.map Lt.P)],none] C2 ⟨rfl,none,rfl⟩
 obtain⟨rfl,z,rfl⟩:=GW;have s7:q7 d f1 f2 f3 f4 f5 13e0 C'=some (.nx [1e5,o,3e3,some (.c 0),#[.lst 6e6],z],C'):=by
  have hm:iQ (ab 1e8 (ab (ak 5e4 2e9 (bt 7e5 (ab (bg 1e7 (bA 1e8) (bA (mC (.int 16)))) ae))) ae)) 13e0 C'=some ((Yk (2+((cu 11e9 (some 1) (some 16)).length:Int)-1).toNat).map λ(j:Nat)=>.int (1+j),C'):=by
   generalize((Yk (2+((cu 11e9 (some 1) (some 16)).length:Int)-1).toNat).map λ(j:Nat)=>PV.int (1+j))=RS at *;clear e7 s1 s2 s3 s4 s5 s6;generalize ns.map PV.int=NS at *;simp[iQ,ab,ae,mC,ak,bt,g1,g2,bg,au,bA,aW,cK,Pu.ret,Pu.intD,aQ,bu,di,gN,cH,Hw,hr]
  unfold q7 cx aW;rw[hm];show e7
 ext Et;rw[Md];change(match ag _ _ [some (.v (.lst 11e9)),none,none,none,none,none] []with
  |some (.rt r,C')=>fin ([]:Cs).length C' r
  |some (.nx _,C')=>some (.v .aP,C'.take ([]:Cs).length)
  |some (.rf ps,C')=>some (.v 8e5,C'.take ([]:Cs).length)
  |some (.rq qs,C')=>(fS ([]:Cs).length C' qs).map λps=>(.v 7e9,C'.take ([]:Cs).length)
  |_=>none)=_
 rw[cz s1,cz s2,cz s3,cz s4,cz s5,cz s6,cz s7];simp[aX,mC,aW,Pu.ret,fin]
end
noncomputable def qv:Program:=W.view PySem.Challenge.pw_holdword_k15_piles [1,2,3,4,5,6,7,8,9,11,12,13,14,15,16,17,19,20,21,22,23,25,26,28,29,30,31,32,33,34,35,36,37,38,39,40,41,42,43,44,45]
noncomputable def MY:List Str:=List.map Wl ["is_number","is_number_below","is_row_of","is_word","is_clause_number","is_bare","is_of_word","is_of_clause","is_of_part","is_of_house","is_deed","is_letter_name","are_gots","is_letter","name_of","is_pile","by_name","_law_cell_at","_law_left","_law_pick","_law_words","_law_event","_law_clauses","_law_town","_law_deed","_law_name","_law_last","_law_gots","_law_letter","_law_pile","_law_left_out","_law_unlike","_law_spoilt","_law_is","law"]
def zD:List (Str×Stmt):=MY.zip (List.map top [6,7,8,9,12,13,14,15,16,17,19,20,21,22,23,25,26,28,29,30,31,32,33,34,35,36,37,38,39,40,41,42,43,44,45])
theorem bp:(recsOf qv).map Hd.four=zD.map Hd.CO:=by kernel_rfl
noncomputable def JO:List Str:=["DEEDS","is_bare","is_of_word","is_of_part","is_of_clause","is_of_house"]
noncomputable def Pt:List (Option (Option Value)):=[some (some (.ref 83)),some (some (.ref 54)),some (some (.ref 61)),some (some (.ref 75)),some (some (.ref 68)),some (some (.ref 82))]
def rz(P:Params):List DictEntry:=[⟨We P "join",.str "join" 276,.ref 54⟩,⟨We P "say",.str "say" 277,.ref 61⟩,⟨We P "do",.str "do" 278,.ref 75⟩,⟨We P "free",.str "free" 279,.ref 68⟩,⟨We P "ready",.str "ready" 280,.ref 68⟩,⟨We P "hand",.str "hand" 281,.ref 82⟩,⟨We P "quit",.str "quit" 282,.ref 68⟩,⟨We P "note",.str "note" 283,.ref 54⟩]
def Px(P:Params):List Obj:=[⟨.type "dict",none,.dict (rz P).toArray 8,(List.toArray [])⟩]
def hk:W.Hook:=Hd.Fw JO Pt [83] Px
theorem Ab{w:World}{h:Heap}{mg:2e5}{as:3e8}(G:h.Ns Xo mg)(Y:hk.says w h)(m:83∈as){bc:Addr}{bh:Addr}{bj:Addr}{ba:Addr}{bo:Addr}(e0:mg "is_bare"=some (.ref bc))(e1:mg "is_of_word"=some (.ref bh))(e2:mg "is_of_part"=some (.ref bj))(e3:mg "is_of_clause"=some (.ref ba))(e4:mg "is_of_house"=some (.ref bo)):mg "DEEDS"=some (.ref 83)/\TopD (Hd.kf h as) w 83 (sU bc bh bj ba bo):=by
 show⟨Hd.jf G Y.1 0 rfl rfl,⟨(rz w.params).toArray,8,Hd.kf_at (Hd.JQ Y.2 0 rfl rfl) m,?_,?_⟩,by decide⟩
 ·repeat(first|show Wh|show And.intro ⟨_,_,rfl,rfl⟩ ?_)
 ·have q0:=(Hd.jf G Y.1 1 rfl rfl).symm.trans e0
  cases q0;have q1:=(Hd.jf G Y.1 2 rfl rfl).symm.trans e1;cases q1;have q2:=(Hd.jf G Y.1 3 rfl rfl).symm.trans e2;cases q2;have q3:=(Hd.jf G Y.1 4 rfl rfl).symm.trans e3;cases q3;have q4:=(Hd.jf G Y.1 5 rfl rfl).symm.trans e4;cases q4;repeat(first|show Paired.nil|show Paired.cons ⟨rfl,rfl⟩ ?_)
theorem hl:W.LeftO PySem.Challenge.pw_holdword_k15_piles qv ["DEEDS"] (λs=>W.xlAt qv [] s&&W.recOk [] s) hk.obs hk.val 2674:=
 W.LeftO.of_split "special-get-raises" (λw=>by kernel_rfl)
theorem ln0{P:List Value->Prop}(h:P []):∀us:List Value,us.length=0->P us:=by
 intro us hl;cases us with
 |nil=>show h
 |cons a r=>simp at hl
theorem sR{P:List Value->Prop}(h:∀a,P [a]):∀us:List Value,us.length=1->P us:=by
 intro us hl;cases us with
 |nil=>simp at hl
 |cons a r=>show ln0 (P:=λr=>P (a::r)) (h a) r (by simpa using hl)
theorem ln2{P:List Value->Prop}(h:∀a b,P [a,b]):∀us:List Value,us.length=2->P us:=by
 intro us hl;cases us with
 |nil=>simp at hl
 |cons a r=>show sR (P:=λr=>P (a::r)) (h a) r (by simpa using hl)
theorem QB{P:List Value->Prop}(h:∀a b c,P [a,b,c]):∀us:List Value,us.length=3->P us:=by
 intro us hl;cases us with
 |nil=>simp at hl
 |cons a r=>show ln2 (P:=λr=>P (a::r)) (h a) r (by simpa using hl)
theorem ZN{P:List Value->Prop}(h:∀a b c d,P [a,b,c,d]):∀us:List Value,us.length=4->P us:=by
 intro us hl;cases us with
 |nil=>simp at hl
 |cons a r=>show QB (P:=λr=>P (a::r)) (h a) r (by simpa using hl)
theorem ln5{P:List Value->Prop}(h:∀a b c d e,P [a,b,c,d,e]):∀us:List Value,us.length=5->P us:=by
 intro us hl;cases us with
 |nil=>simp at hl
 |cons a r=>show ZN (P:=λr=>P (a::r)) (h a) r (by simpa using hl)
theorem all_mk{P:Ys}{w:World}{K:W.Frag}{mg:2e5}{fa:Addr}(hfa:mg "law"=some (.ref fa))(T:Txt mg)
  (rC:Hd.FnAt K mg "is_number" AG)
  (i3:Hd.FnAt K mg "is_number_below" AF)
  (rB:Hd.FnAt K mg "is_row_of" Ay)
  (yZ:Hd.FnAt K mg "is_word" Ax)
  (iE:Hd.FnAt K mg "is_clause_number" AK)
  (zb:Hd.FnAt K mg "is_bare" AL)
  (oV:Hd.FnAt K mg "is_of_word" AA)
  (kY:Hd.FnAt K mg "is_of_clause" AE)
  (oX:Hd.FnAt K mg "is_of_part" AB)
  (lV:Hd.FnAt K mg "is_of_house" AD)
  (za:Hd.FnAt K mg "is_deed" AJ)
  (jt:Hd.FnAt K mg "is_letter_name" AH)
  (uX:Hd.FnAt K mg "are_gots" AO)
  (rD:Hd.FnAt K mg "is_letter" AI)
  (yY:Hd.FnAt K mg "name_of" Aw)
  (zc:Hd.FnAt K mg "by_name" AN)
  (y0:Hd.FnAt K mg "is_pile" Az)
  (k0:Hd.FnAt K mg "_law_cell_at" A7)
  (rJ:Hd.FnAt K mg "_law_left" vH)
  (rG:Hd.FnAt K mg "_law_pick" AW)
  (oY:Hd.FnAt K mg "_law_words" AQ)
  (oZ:Hd.FnAt K mg "_law_event" A4)
  (kZ:Hd.FnAt K mg "_law_clauses" A6)
  (rE:Hd.FnAt K mg "_law_town" AS)
  (rM:Hd.FnAt K mg "_law_deed" A5)
  (rH:Hd.FnAt K mg "_law_name" AX)
  (rK:Hd.FnAt K mg "_law_last" A1)
  (rL:Hd.FnAt K mg "_law_gots" A3)
  (lY:Hd.FnAt K mg "_law_letter" AY)
  (rF:Hd.FnAt K mg "_law_pile" AV)
  (jT:Hd.FnAt K mg "_law_left_out" A0)
  (lW:Hd.FnAt K mg "_law_unlike" AR)
  (lX:Hd.FnAt K mg "_law_spoilt" AU)
  (zd:Hd.FnAt K mg "_law_is" A2)
  (R7:Hd.FnAt K mg "law" kj)
  {aS:Addr} (Ac:∀{bc bh bj ba bo:Addr},mg "is_bare"=some (.ref bc)->mg "is_of_word"=some (.ref bh)->mg "is_of_part"=some (.ref bj)->mg "is_of_clause"=some (.ref ba)->mg "is_of_house"=some (.ref bo)->mg "DEEDS"=some (.ref aS)/\TopD K w aS (sU bc bh bj ba bo))
  :∃fd:Yx,(∀(s:Shared)(v:Value),BindsTo s fd ⟨[v],[]⟩ [("_law_script",v)])/\∀base:Heap,aN P w K mg base bY 9 fa fd ["_law_script"] (Hd.Al K):=by
 obtain⟨gr,gh,ig,sG⟩:=rC;have vc:=sG.binds (ps:=["thing","least"]) λ_ _ _ _ _ _=>ln2 λ_ _=>rfl;obtain⟨jE,jq,mH,xB⟩:=i3;have DL:=xB.binds (ps:=["thing","bound"]) λ_ _ _ _ _ _=>ln2 λ_ _=>rfl;obtain⟨gp,gg,iN,sF⟩:=rB;have vb:=sF.binds (ps:=14e4) λ_ _ _ _ _ _=>QB λ_ _ _=>rfl;obtain⟨gn,gf,ie,sE⟩:=yZ;have va:=sE.binds (ps:=9e8) λ_ _ _ _ _ _=>sR λ_=>rfl;obtain⟨gu,gi,iO,sH⟩:=iE;have vd:=sH.binds (ps:=9e8) λ_ _ _ _ _ _=>sR λ_=>rfl;obtain⟨bc,uG,B4,lB⟩:=zb;have Nr:=lB.binds (ps:=16e7) λ_ _ _ _ _ _=>sR λ_=>rfl;obtain⟨bh,uA,BY,lh⟩:=oV;have Nk:=lh.binds (ps:=16e7) λ_ _ _ _ _ _=>sR λ_=>rfl;obtain⟨ba,uD,B1,lA⟩:=kY;have Nn:=lA.binds (ps:=16e7) λ_ _ _ _ _ _=>sR λ_=>rfl;obtain⟨bj,uB,BZ,lq⟩:=oX;have Nl:=lq.binds (ps:=16e7) λ_ _ _ _ _ _=>sR λ_=>rfl;obtain⟨bo,uC,B0,lz⟩:=lV;have Nm:=lz.binds (ps:=16e7) λ_ _ _ _ _ _=>sR λ_=>rfl;obtain⟨wH,uF,B3,D8⟩:=za;have Nq:=D8.binds (ps:=9e8) λ_ _ _ _ _ _=>sR λ_=>rfl;obtain⟨jF,jr,mI,xC⟩:=jt;have DN:=xC.binds (ps:=9e8) λ_ _ _ _ _ _=>sR λ_=>rfl;obtain⟨wJ,uI,B6,Ea⟩:=uX;have Nu:=Ea.binds (ps:=["thing","house","deal"]) λ_ _ _ _ _ _=>QB λ_ _ _=>rfl;obtain⟨wG,uE,B2,D7⟩:=rD;have Np:=D7.binds (ps:=9e8) λ_ _ _ _ _ _=>sR λ_=>rfl;obtain⟨jD,jo,mG,xA⟩:=yY;have DK:=xA.binds (ps:=["letter"]) λ_ _ _ _ _ _=>sR λ_=>rfl;obtain⟨wI,uH,B5,D9⟩:=zc;have Nt:=D9.binds (ps:=["pile"]) λ_ _ _ _ _ _=>sR λ_=>rfl;obtain⟨wF,uz,BX,D6⟩:=y0;have Nj:=D6.binds (ps:=9e8) λ_ _ _ _ _ _=>sR λ_=>rfl;obtain⟨jG,js,jA,xD⟩:=k0;have DO:=xD.binds (ps:=6e7) λ_ _ _ _ _ _=>ln2 λ_ _=>rfl;obtain⟨fT,fz,gk,nJ⟩:=rJ;have ve:=nJ.binds (ps:=6e7) λ_ _ _ _ _ _=>ln2 λ_ _=>rfl;obtain⟨eO,dv,bb,fq⟩:=rG;have dX:=fq.binds (ps:=3e2) λ_ _ _ _ _ _=>ln2 λ_ _=>rfl;obtain⟨wK,uJ,B7,Eb⟩:=oY;have Nv:=Eb.binds (ps:=3e2) λ_ _ _ _ _ _=>ln2 λ_ _=>rfl;obtain⟨wY,uU,vW,Em⟩:=oZ;have NH:=Em.binds (ps:=["_law_left_here","_law_deal","_law_named","_law_own"]) λ_ _ _ _ _ _=>ZN λ_ _ _ _=>rfl;obtain⟨w9,uW,Ci,Eo⟩:=kZ;have NL:=Eo.binds (ps:=15e4) λ_ _ _ _ _ _=>ln5 λ_ _ _ _ _=>rfl;obtain⟨wM,uL,B9,Ed⟩:=rE;have Nx:=Ed.binds (ps:=["_law_script"]) λ_ _ _ _ _ _=>sR λ_=>rfl;obtain⟨wZ,uV,Cg,En⟩:=rM;have NJ:=En.binds (ps:=["_law_left_here","_law_deal"]) λ_ _ _ _ _ _=>ln2 λ_ _=>rfl;obtain⟨wQ,uO,Cb,Eg⟩:=rH;have NA:=Eg.binds (ps:=5e5) λ_ _ _ _ _ _=>sR λ_=>rfl;obtain⟨wV,uR,Ce,Ej⟩:=rK;have ND:=Ej.binds (ps:=["_law_letters","_law_house","_law_deal"]) λ_ _ _ _ _ _=>QB λ_ _ _=>rfl;obtain⟨wX,uT,Cf,El⟩:=rL;have NG:=El.binds (ps:=["_law_left_here","_law_letters","_law_house","_law_deal"]) λ_ _ _ _ _ _=>ZN λ_ _ _ _=>rfl;obtain⟨wR,uP,Cc,Eh⟩:=lY;have NB:=Eh.binds (ps:=19e2) λ_ _ _ _ _ _=>ZN λ_ _ _ _=>rfl;obtain⟨wO,uN,Ca,Ef⟩:=rF;have Nz:=Ef.binds (ps:=["_law_script","_law_town_here","_law_many"]) λ_ _ _ _ _ _=>QB λ_ _ _=>rfl;obtain⟨wU,uQ,Cd,Ei⟩:=jT;have NC:=Ei.binds (ps:=10e1) λ_ _ _ _ _ _=>ln2 λ_ _=>rfl;obtain⟨wL,uK,B8,Ec⟩:=lW;have Nw:=Ec.binds (ps:=["_law_left_here","_law_letter_here"]) λ_ _ _ _ _ _=>ln2 λ_ _=>rfl;obtain⟨wN,uM,B',Ee⟩:=lX;have Ny:=Ee.binds (ps:=10e1) λ_ _ _ _ _ _=>ln2 λ_ _=>rfl;obtain⟨wW,uS,iP,Ek⟩:=zd;have NF:=Ek.binds (ps:=["_law_thing","_law_due"]) λ_ _ _ _ _ _=>ln2 λ_ _=>rfl;obtain⟨Vbo,CT,Qv,Jf⟩:=R7;obtain⟨Gw,i5⟩:=Ac B4 BY BZ B1 B0;have e:=hfa.symm.trans Qv;cases e;have hb:∀(s:Shared)(v:Value),BindsTo s CT ⟨[v],[]⟩ [("_law_script",v)]:=by
  obtain⟨oc,od,kV,doc,pm,an,cdv,ct,osl,rfl,lk,rj⟩:=Jf.ex;show λs v=>.of_eq rfl
 show⟨CT,hb,λbase=>?_⟩;have Ey:=Lj (P:=P) (w:=w) (base:=base) sG T;have Jk:=Li (P:=P) (w:=w) (base:=base) xB T Ey ig sG.kp vc;have Ew:=Lc (P:=P) (w:=w) (base:=base) sF T;have Eu:=Lb (P:=P) (w:=w) (base:=base) sE T;have Ez:=Ln (P:=P) (w:=w) (base:=base) sH T Jk mH xB.kp DL;have UR:=Lo (P:=P) (w:=w) (base:=base) lB T;have UK:=Le (P:=P) (w:=w) (base:=base) lh T Eu ie sE.kp va;have UN:=Lh (P:=P) (w:=w) (base:=base) lA T Ez iO sH.kp vd;have UL:=Lf (P:=P) (w:=w) (base:=base) lq T Ez iO sH.kp vd Jk mH xB.kp DL;have UM:=Lg (P:=P) (w:=w) (base:=base) lz T Ez iO sH.kp vd Eu ie sE.kp va;have UQ:=Lm (P:=P) (w:=w) (base:=base) D8 T Gw i5 UR B4 lB.kp Nr UK BY lh.kp Nk UL BZ lq.kp Nl UN B1 lA.kp Nn UM B0 lz.kp Nm;have Jl:=Lk (P:=P) (w:=w) (base:=base) xC T Ew iN sF.kp vb Eu ie sE.kp va Ey ig sG.kp vc;have UU:=Lq (P:=P) (w:=w) (base:=base) Ea T Ew iN sF.kp vb Jl mI xC.kp DN;have UO:=Ll (P:=P) (w:=w) (base:=base) D7 T Ew iN sF.kp vb Jl mI xC.kp DN Ey ig sG.kp vc UU B6 Ea.kp Nu UQ B3 D8.kp Nq;have Jj:=La (P:=P) (w:=w) (base:=base) xA T;have UT:=Lp (P:=P) (w:=w) (base:=base) D9 T Jj mG xA.kp DK;have UJ:=Ld (P:=P) (w:=w) (base:=base) D6 T UO B2 D7.kp Np UT B5 D9.kp Nt Jj mG xA.kp DK;have Jm:=LK (P:=P) (w:=w) (base:=base) xD T;have U4:=LB (P:=P) (w:=w) (base:=base) nJ T Jm jA xD.kp DO;have vq:=Gi (P:=P) (w:=w) (base:=base) nJ T Jm jA xD.kp DO;have gD:=Lx (P:=P) (w:=w) (base:=base) fq T;have UW:=Lr (P:=P) (w:=w) (base:=base) Eb T gD bb fq.kp dX;have U8:=LH (P:=P) (w:=w) (base:=base) Em T gD bb fq.kp dX;have U':=LJ (P:=P) (w:=w) (base:=base) Eo T gD bb fq.kp dX U8 vW Em.kp NH;have UY:=Lu (P:=P) (w:=w) (base:=base) Ed T vq gk nJ.kp ve UW B7 Eb.kp Nv gD bb fq.kp dX U' Ci Eo.kp NL;have U9:=LI (P:=P) (w:=w) (base:=base) En T gD bb fq.kp dX;have U1:=Ly (P:=P) (w:=w) (base:=base) Eg T;have U5:=LC (P:=P) (w:=w) (base:=base) Ej T;have U7:=LG (P:=P) (w:=w) (base:=base) El T gD bb fq.kp dX U1 Cb Eg.kp NA;have U2:=Lz (P:=P) (w:=w) (base:=base) Eh T gD bb fq.kp dX U5 Ce Ej.kp ND U9 Cg En.kp NJ U7 Cf El.kp NG;have U0:=Lw (P:=P) (w:=w) (base:=base) Ef T vq gk nJ.kp ve gD bb fq.kp dX U2 Cc Eh.kp NB;have U3:=LA (P:=P) (w:=w) (base:=base) Ei T gD bb fq.kp dX;have UX:=Ls (P:=P) (w:=w) (base:=base) Ec T gD bb fq.kp dX;have UZ:=Lv (P:=P) (w:=w) (base:=base) Ee T gD bb fq.kp dX UX B8 Ec.kp Nw;have U6:=LD (P:=P) (w:=w) (base:=base) Ek T UJ BX D6.kp Nj;have V':=LM (P:=P) (w:=w) (base:=base) Jf T U6 iP Ek.kp NF UY B9 Ed.kp Nx vq gk nJ.kp ve gD bb fq.kp dX U0 Ca Ef.kp Nz U3 Cd Ei.kp NC U4 UZ B' Ee.kp Ny;show V'.imp (Hd.tq λns hl=>Cn ⟨E5 lh lB 1e2,E5 lq lB 1e2,E5 lq lh 1e2,E5 lA lB 1e2,E5 lA lh 1e2,E5 lA lq 1e2,E5 lz lB 1e2,E5 lz lh 1e2,E5 lz lq 1e2,E5 lz lA 1e2⟩ ns hl)
noncomputable def bl:List Str:=["all","bool","dict","enumerate","int","isinstance","len","list","max","min","range","sorted","str","tuple","zip"]
theorem pG:bl.all (λx=>!Hd.ui qv (W.looseW qv ["DEEDS"]) x)=true:=by kernel_rfl
theorem Kt:PySem.Challenge.rw_holdword_k15_piles.wellSaid=true:=by kernel_rfl
end cQ
open PySem PySem.W PyProof.Rows
set_option maxRecDepth 100000 in
set_option maxHeartbeats 0 in
theorem PySem.Challenge.cw_holdword_k15_piles_holds : PySem.Challenge.rw_holdword_k15_piles.Holds := by
 show holds_law cQ.Kt λKt=>?_
 show holds_open (q:=cQ.qv) (loose:=["DEEDS"]) (Xt:=λs=>xlAt cQ.qv [] s&&recOk [] s) (XP:=XL cQ.qv []) (YP:=cQ.hk.says) cQ.hl (Hook.of cQ.hk) (Hook.keeps cQ.hk) (λs e=>xl_of s (Bool.and_eq_true_iff.mp e).1) XL.keeps (d:=⟨"law",L2.g9 cQ.kj,L2.en cQ.kj,L2.ay cQ.kj,Hd.M' cQ.kj⟩) (kwd:=[]) (by kernel_rfl) (by kernel_rfl) (by kernel_rfl) (λs e=>recFacts_of (Bool.and_eq_true_iff.mp e).2) 1e0 Kt (by kernel_rfl) ⟨rfl,rfl,rfl,rfl,rfl,by decide +kernel⟩ ⟨[.list []],by decide +kernel,by decide +kernel⟩ ?_
 show Hd.walk (k:=9) rfl rfl ⟨rfl,by decide,by decide,rfl⟩ [83] λw s₀ mg mb h as G Y h0 A fa Rx=>?_
 show cQ.all_mk Rx ⟨Hd.Ah (G.T.const "JUDGE" (.str "bell") (by kernel_rfl)),Hd.oM (G.T.const "LONGEST_WORD" (.int 12) (by kernel_rfl)),Hd.oM (G.T.const "MOST_CLAUSES" (.int 12) (by kernel_rfl)),Hd.oM (G.T.const "MOST_GOTS" (.int 30) (by kernel_rfl)),Hd.oM (G.T.const "MOST_PARTS" (.int 9) (by kernel_rfl)),Hd.Ah (G.T.const "SMALL_LETTERS" 18e7 (by kernel_rfl)),Hd.eI G.T cQ.pG 0 rfl,Hd.eI G.T cQ.pG 1 rfl,Hd.eI G.T cQ.pG 2 rfl,Hd.eI G.T cQ.pG 3 rfl,Hd.eI G.T cQ.pG 4 rfl,Hd.eI G.T cQ.pG 5 rfl,Hd.eI G.T cQ.pG 6 rfl,Hd.eI G.T cQ.pG 7 rfl,Hd.eI G.T cQ.pG 8 rfl,Hd.eI G.T cQ.pG 9 rfl,Hd.eI G.T cQ.pG 10 rfl,Hd.eI G.T cQ.pG 11 rfl,Hd.eI G.T cQ.pG 12 rfl,Hd.eI G.T cQ.pG 13 rfl,Hd.eI G.T cQ.pG 14 rfl⟩ (Hd.bL A cQ.bp 0 rfl) (Hd.bL A cQ.bp 1 rfl) (Hd.bL A cQ.bp 2 rfl) (Hd.bL A cQ.bp 3 rfl) (Hd.bL A cQ.bp 4 rfl) (Hd.bL A cQ.bp 5 rfl) (Hd.bL A cQ.bp 6 rfl) (Hd.bL A cQ.bp 7 rfl) (Hd.bL A cQ.bp 8 rfl) (Hd.bL A cQ.bp 9 rfl) (Hd.bL A cQ.bp 10 rfl) (Hd.bL A cQ.bp 11 rfl) (Hd.bL A cQ.bp 12 rfl) (Hd.bL A cQ.bp 13 rfl) (Hd.bL A cQ.bp 14 rfl) (Hd.bL A cQ.bp 16 rfl) (Hd.bL A cQ.bp 15 rfl) (Hd.bL A cQ.bp 17 rfl) (Hd.bL A cQ.bp 18 rfl) (Hd.bL A cQ.bp 19 rfl) (Hd.bL A cQ.bp 20 rfl) (Hd.bL A cQ.bp 21 rfl) (Hd.bL A cQ.bp 22 rfl) (Hd.bL A cQ.bp 23 rfl) (Hd.bL A cQ.bp 24 rfl) (Hd.bL A cQ.bp 25 rfl) (Hd.bL A cQ.bp 26 rfl) (Hd.bL A cQ.bp 27 rfl) (Hd.bL A cQ.bp 28 rfl) (Hd.bL A cQ.bp 29 rfl) (Hd.bL A cQ.bp 30 rfl) (Hd.bL A cQ.bp 31 rfl) (Hd.bL A cQ.bp 32 rfl) (Hd.bL A cQ.bp 33 rfl) (Hd.bL A cQ.bp 34 rfl) (cQ.Ab G.T.g Y (h0 _ 4e4))