import PyProof.Rows.All
import KE.KDictList
import KE.KIntText
import KE.KIsAll
import KE.KSortTup
import PySem.Challenge.RW_holdword_k81_no_letters
open Option renaming some→ae,none→af
open Bool renaming true→ag,false→ah
noncomputable section
set_option hygiene false
local macro_rules
|`(#[$a,$b])=>`(⟨$a,$b⟩)
|`(#[$a,$b,$c,*])=>`(⟨$a,$b,$c,*⟩)
open Lean in
local macro_rules
|`(tactic|let#[$a,*]:=$e)=>do
 let p←a.getElems.mapM λx=>if x.raw.isIdent then`(rcasesPat|$(⟨x.raw⟩):ident)else`(rcasesPat|_)
 `(tactic|obtain⟨$[$p:rcasesPat],*⟩:=$e)
local macro_rules
|`(tactic|let $x:ident:=$e)=>`(tactic|generalize $e=$x at *)
local macro_rules
|`(tactic|erw[$[$a:term],*]$[$l:location]?)=>`(tactic|simp only[$[$a:term],*]$[$l:location]?)
local macro_rules
|`(tactic|ext $x:ident)=>`(tactic|unfold $x)
|`(tactic|ext $x:ident $h:ident)=>`(tactic|unfold $x at $h:ident)
local macro_rules
|`(tactic|show $t)=>`(tactic|refine $t)
local macro_rules
|`(1e0)=>`((by rfl))
|`(1e1)=>`(#[rfl,rfl,rfl,by decide +kernel,rfl,by decide +kernel,by decide +kernel])
|`(1e2)=>`((hr.mono 2e7))
|`(1e3)=>`(Yg 4e8 X.env=(ah,eval e X.env)::Yg es X.env)
|`(1e4)=>`((aV 0))
|`(1e5)=>`((cP iZ 1e2 1e0 eR iT iW (@aJ _ _ _ _ _ (aN 0) 6e3 1e0)))
|`(1e6)=>`((@aJ _ _ _ _ _ (aN 0) bD 1e0))
|`(1e7)=>`((Or.inl rfl))
|`(1e8)=>`((mC (.int 1)))
|`(1e9)=>`((g2 (cn λp q=>!aZ p q)))
|`(2e0)=>`(f1≠f2/\f1≠f3/\f1≠f4/\f1≠f5/\f2≠f3/\f2≠f4/\f2≠f5/\f3≠f4/\f3≠f5/\f4≠f5)
|`(2e1)=>`((iJ 14e6 (aN 0) bW))
|`(2e2)=>`(List Str)
|`(2e3)=>`(Inv X pins σ H s)
|`(2e4)=>`((ak 1e4 ao))
|`(2e5)=>`((g2 (cn aZ)))
|`(2e6)=>`((mC (.int 0)))
|`(2e7)=>`((by decide))
|`(2e8)=>`(aM->M (List SV))
|`(2e9)=>`(Value->Shared->Prop)
|`(3e0)=>`((model X.prog X.w))
|`(3e1)=>`((by show#[rfl,rfl,rfl,rfl,rfl,rfl,rfl]))
|`(3e2)=>`(List (Addr×Obj))
|`(3e3)=>`((g2 dN))
|`(3e4)=>`((backTo pos (Yg es X.env)).any (·.1)=ah)
local macro_rules
|`(3e5)=>`((by lia))
|`(3e6)=>`(aM->M SV)
|`(3e7)=>`((by simp))
|`(3e8)=>`((Hb _))
|`(3e9)=>`((aV 1))
|`(4e0)=>`((@aJ _ _ _ _ _ (aN 1) bD 1e0))
|`(4e1)=>`((x==("__debug__":Str))=ah)
|`(4e2)=>`((ws.map .str))
|`(4e3)=>`((@aJ _ _ _ _ _ cV bD 1e0))
|`(4e4)=>`(List Value)
|`(4e5)=>`((mC (.int 2)))
|`(4e6)=>`((ZaI (nR hr)))
|`(4e7)=>`(A.units<cLine)
|`(4e8)=>`((e::es))
|`(4e9)=>`(#[h,g,d,t,os])
|`(5e0)=>`((model prog w))
|`(5e1)=>`(Str->Option Value)
|`(5e2)=>`((cB (g1 fG) 2e4))
|`(5e3)=>`((LS aA az ay ax aw av au ar))
|`(5e4)=>`((KO aA az ay ax aw av au ar))
|`(5e5)=>`((List PV))
|`(5e6)=>`((ak 3e9 ao))
|`(5e7)=>`((iP X (vs++fs) scope C s₀ H₀ ex pn))
|`(5e8)=>`(PV->aM->Option aM)
|`(5e9)=>`((@aJ _ _ _ _ _ 2e1 bD 1e0))
local macro_rules
|`(6e0)=>`((aD 3e3 1e4 2e6))
|`(6e1)=>`((aV 2))
|`(6e2)=>`(X.fn x=ag\/X.env.scope.names.lookup x=ae .local)
|`(6e3)=>`((@aJ _ _ _ _ _ bW bD 1e0))
|`(6e4)=>`((KN 1e0 T.gV 1e6))
|`(6e5)=>`((iJ 14e6 (aN 1) bW))
|`(6e6)=>`(⟨(List.toArray [c])⟩)
|`(6e7)=>`((bw cL (ak 1e4 (ak (mC (.int 4)) ao))))
|`(6e8)=>`(List Addr)
|`(6e9)=>`((aV 4))
|`(7e0)=>`(List Expr)
|`(7e1)=>`(aM->Cs->Prop)
|`(7e2)=>`(#[_,rfl])
|`(7e3)=>`(aM->M Bool)
|`(7e4)=>`((mC (.int 3)))
|`(7e5)=>`((backTo cc (Yg es X.env)).any (·.1)=ah)
|`(7e6)=>`(["_law_left_here"])
|`(7e7)=>`(ae (.c k))
|`(7e8)=>`([t0,t1,t2,t3,t4,t5,t6,t7].Nodup)
|`(7e9)=>`(ae (.c C.length))
|`(8e0)=>`((gs.map Nm.P))
|`(8e1)=>`(∀w∈ws,w.length<=60)
|`(8e2)=>`((gJ (jA P w) P w K mg base N qual scope f cd A outer s H E))
|`(8e3)=>`((.str k::r.map .str))
|`(8e4)=>`((.ListComp elt [#[tg,iter,ifs,0]] scope pos))
local macro_rules
|`(8e5)=>`((g2 fm))
|`(8e6)=>`((hName 0))
|`(8e7)=>`((xE aB aA az ay ax aw av au ar))
|`(8e8)=>`((k'==Xi&&env.scope.kind==.function&&env.kindOf n==ae .cell))
|`(8e9)=>`(aM->M PF)
|`(9e0)=>`((by decide +kernel))
|`(9e1)=>`((λ_ _ _ _ _=>ZaU))
|`(9e2)=>`((aV 3))
|`(9e3)=>`((.bl ah))
|`(9e4)=>`(#[.str "abcdefghijklmnopqrstuvwxyz"])
|`(9e5)=>`(sr.step f1 c1)
|`(9e6)=>`((ι++ι2))
|`(9e7)=>`((.str "abcdefghijklmnopqrstuvwxyz"))
|`(9e8)=>`((apos.endLine==cc.line)=ag)
|`(9e9)=>`((("got":Str)::(us++("at":Str)::q)))
|`(10e0)=>`((ak (aD 3e3 1e4 1e8) ao))
|`(10e1)=>`((A.deeper (envOfC qual 12e5 s.heap.objs.size f cdv)))
|`(10e2)=>`(aq s.heap (.tup ps) u)
|`(10e3)=>`(aq s.heap 17e3 u)
|`(10e4)=>`((by repeat(first|show WV|show Wz 7e2 ?_)))
|`(10e5)=>`(List (Str×Addr))
|`(10e6)=>`(Bool->Shared->Prop)
|`(10e7)=>`((Za4 (nR hr)))
|`(10e8)=>`((.bl ag))
|`(10e9)=>`((mC (.str "at")))
local macro_rules
|`(11e0)=>`((mC (.str "to")))
|`(11e1)=>`((dS W F C.length #[.str f] #[.str w]))
|`(11e2)=>`((mC .aS))
|`(11e3)=>`([.Subscript o1 i1 p1,.Subscript o2 i2 p2])
|`(11e4)=>`(Option SV)
|`(11e5)=>`(Cs->SV->SV->Option SV)
|`(11e6)=>`((.Call (.Name x p) 4e8 [] pos))
|`(11e7)=>`(X.N[i]? = ae x)
|`(11e8)=>`((gY aX bC bF bH bB bI aB aA az ay ax aw av au ar eV))
|`(11e9)=>`((fN m))
|`(12e0)=>`(X.calm=ag)
|`(12e1)=>`(["_law_script","_law_k"])
|`(12e2)=>`(aM->M 5e5)
|`(12e3)=>`((ak 6e1 ao))
|`(12e4)=>`((ha pins s σ H _ I h))
|`(12e5)=>`((aK st))
|`(12e6)=>`(["_law_found","_law_due_here"])
|`(12e7)=>`((@cZ _ _ _ (@fL _ _ _ _ Zbs)))
|`(12e8)=>`(((a::b::n::T).map PV.str))
|`(12e9)=>`((List Key×Addr×Value))
|`(13e0)=>`(Option Value->Shared->Prop)
|`(13e1)=>`(["word"])
|`(13e2)=>`(CR K ι H C)
|`(13e3)=>`(["_law_word_here"])
|`(13e4)=>`(List (Addr×List Str))
local macro_rules
|`(13e5)=>`(zM X 4e8 fs)
|`(13e6)=>`(Xv e (ae (.Name x pos')) pos.line X.env=pure ah)
|`(13e7)=>`((dj (aD (g2 pL) (cB (g1 fG) 5e6) 4e5) (dj (aD 2e5 (aD 3e3 3e9 2e6) 10e9) (pE "str" wH (aD 3e3 3e9 1e8) (ak (mC (.str ":")) ao)))))
|`(13e8)=>`(#[#[a,b,n],p,gs,aT 11e9,ps])
|`(13e9)=>`(⟨(List.toArray [32])⟩)
|`(14e0)=>`(["DEEDS","HoldError","NoTown","NoPile","NoLetter","NoRow","DEED_FORMS"])
|`(14e1)=>`((zE bW))
|`(14e2)=>`(Unit->Shared->Prop)
|`(14e3)=>`(CSc X scope vs fs fr)
|`(14e4)=>`(List PV->aM->Option aM)
|`(14e5)=>`((bf (hName 1) fZ))
|`(14e6)=>`((Zav hr))
|`(14e7)=>`((@aJ _ _ _ _ _ bW 6e3 1e0))
|`(14e8)=>`((XO nm q C N Ab bs sn sub ab col dd k0 k1 k2 k3 k5))
|`(14e9)=>`((by simp;lia))
|`(15e0)=>`((@aJ _ _ _ _ _ (aN 2) bD 1e0))
|`(15e1)=>`((bw cL (ak 1e4 (ak (mC (.int 6)) ao))))
|`(15e2)=>`((λx=>x.1.isSome))
|`(15e3)=>`((ak (aV 6) ao))
|`(15e4)=>`(∀x,XH iter X.env x=pure x)
|`(15e5)=>`(V->List V->Hp->VK->Prop)
|`(15e6)=>`(k _ H .refl cr C9)
|`(15e7)=>`(X.env.frame=ae X.env.locals)
|`(15e8)=>`(["thing"])
|`(15e9)=>`(["parts"])
local macro_rules
|`(16e0)=>`((@cZ _ _ _ (@fL _ _ _ _ xv)))
|`(16e1)=>`((US L x1 #[x.P] x3 x4 #[p] #[.lst 8e0] #[t] #[d]))
|`(16e2)=>`((bz 4e5))
|`(16e3)=>`(∀b u,h.get? b=ae u->h'.get? b=ae u)
|`(16e4)=>`(List V->Hp->VK->Prop)
|`(16e5)=>`((k==Xi&&env.scope.kind==.function&&env.kindOf n==ae .cell))
|`(16e6)=>`(aq s.heap q v)
|`(16e7)=>`((by simp[ZS.us]))
|`(16e8)=>`((@aJ _ _ _ _ _ (xw (aN 1) 14e1 jm) bD 1e0))
|`(16e9)=>`((Ex.jA P w))
|`(17e0)=>`(["_law_name_here"])
|`(17e1)=>`(⟨(List.toArray [58])⟩)
|`(17e2)=>`((@aJ _ _ _ _ _ (OD 1e0 T.q8 1e0) bD 1e0))
|`(17e3)=>`((.lst ps))
|`(17e4)=>`((ak (mC (.ty "str")) ao))
|`(17e5)=>`((@aJ _ _ _ _ _ cV (@aJ _ _ _ _ _ cV (@aJ _ _ _ _ _ cV (@aJ _ _ _ _ _ cV (@aJ _ _ _ _ _ cV 4e3 1e0) 1e0) 1e0) 1e0) 1e0))
|`(17e6)=>`(["_law_word_here","_law_least","_law_most"])
|`(17e7)=>`((fX EK EJ.r (KN 1e0 T.gV 4e0) bW 3e8))
|`(17e8)=>`((by kernel_rfl))
|`(17e9)=>`((.inl rfl))
|`(18e0)=>`((EP X pins σ Q))
|`(18e1)=>`((ps.getD j .aS))
|`(18e2)=>`((mC (.str "")))
|`(18e3)=>`(["words"])
|`(18e4)=>`((C++[.lst ys]))
local macro_rules
|`(18e5)=>`(aM->M (Option Int))
|`(18e6)=>`((λp q=>!aZ p q))
|`(18e7)=>`(∀σ H Q,t' σ H Q->t σ H Q)
local macro_rules
|`(tactic|sleep 1)=>`(tactic|(let#[ι,ρ,C,z,C',sr,e,q]:=h;let#[x,C1,e1,e]:=dI e))
|`(tactic|sleep 2)=>`(tactic|(intro X hP hw hK hc i pins s σ H E I hf st hg;subst hP hw hK))
|`(tactic|sleep 3)=>`(tactic|intro pins s σ H x y v u Q I rx ry h)
|`(tactic|sleep 4)=>`(tactic|let#[ι,ρ,C,z,C',sr,e,q]:=h_)
|`(tactic|sleep 5)=>`(tactic|(have a0:=a;have b0:=b;unfold aq at a b;let#[l,us,rfl,h1,r1]:=a;let#[l',vs,rfl,h2,r2]:=b;ext dep hu))
|`(tactic|sleep 6)=>`(tactic|let#[ι,ρ,C,fl,C',sr,e,d]:=h_)
|`(tactic|sleep 7)=>`(tactic|intro ι H C p q vx vy z Q cr lx ly e k)
|`(tactic|sleep 8)=>`(tactic|intro pins s σ H Q I h)
|`(tactic|sleep 9)=>`(tactic|let#[t,rfl]:=rx)
|`(tactic|sleep 10)=>`(tactic|let G:=r.map PV.str)
|`(tactic|sleep 11)=>`(tactic|let WS:=ws.map PV.str)
|`(tactic|sleep 12)=>`(tactic|let#[f0,f1,f2,f3,f4,f5]:=hf it 3e7)
|`(tactic|sleep 13)=>`(tactic|let G:=ws.map PV.str)
|`(tactic|sleep 14)=>`(tactic|(ext aq a;let#[_,rfl]:=a;cases q<;>ext aq b))
|`(tactic|sleep 15)=>`(tactic|(ext aU a;let#[v,r,rfl,a1,a2]:=a))
set_option hygiene true
open Array renaming length_toList→YO,toList_append→Y5,getElem?_eq_some_iff→XF,getElem?_eq_getElem→W0,getElem?_eq_none→Vm,perm_iff_toList_perm→VW,append_assoc→VX,toList_inj→Uj
open Bool renaming and_eq_true→Yl,false_ne_true→Yt,false_eq_true→XR,and_eq_true_iff→Wg,or_eq_true→Wp,false_or→VI,true_or→V1,and_false→V3,not_eq_true'→V8,eq_false_iff→V9
open False renaming elim→Xu
open ForInStep renaming yield→WN
open Int renaming emod_lt_of_pos→X9,emod_nonneg→Wq,toNat_natCast→WT
open List renaming getElem?_eq_getElem→Yd,mem_cons→Ye,map_cons→Yi,size_toArray→Yj,length_map→Yk,lookup_cons→Ym,not_mem_nil→Yq,getElem?_append_left→Yu,append_nil→Yv,append_assoc→Yx,getElem?_eq_none_iff→YA,length_cons→YB,all_eq_true→YE,replicate→YG,getElem?_eq_some_iff→YJ,range→YL,mem_append_right→YM,eq_nil_of_length_eq_zero→YN,mem_cons_of_mem→YQ,getElem?_map→YS,length_append→YT,mem_map→YV,getElem?_append_right→YW,mem_of_getElem?→YY,mem_append→YZ,getElem?_set_ne→Y3,getElem?_set_self→Y7,length_take→Y8,mem_append_left→Xg,take_of_length_le→Xh,getElem?_take_of_lt→Xj,all_cons→Xm,mem_cons_self→Xn,zip_cons_cons→Xo,mem_singleton→Xp,filterMap_cons→Xq,getElem?_eq_none→Xw,any_cons→Xz,nil_append→XA,getElem_mem→XU,map_map→XX,getD_eq_getElem?_getD→X1,drop_eq_getElem_cons→Wd,mem_of_mem_drop→Wh,mem_of_mem_take→Wi,find?_cons→Wn,length_nil→Wo,map_nil→Wt,replicate_succ→Wy,length_drop→WA,filter_cons→WC,findIdx?_cons→WG,nodup_cons→WK,length_set→WL,mem_range→WW,getElem_of_mem→W2,zipWith→W7,map_append→Vi,nodup_append→Vr,ext_getElem?→Vt,contains_iff_mem→Vx,getElem_inj→Vz,cons_append→VB,take_append_of_le_length→VC,mem_map_of_mem→VP,mem_filterMap→VZ,toArray→V2,length_range→Ub,length→Ud,mem_filter→Um,of_mem_zip→Up,forIn_cons→Ut,all_map→Uu,drop→UA,getD→UB
open Nat renaming le_refl→Yo,lt_of_lt_of_le→Yr,le_trans→YC,ne_of_lt→YK,lt_or_ge→Y2,lt_irrefl→XJ,zero_le→XZ,ne_of_gt→Wr,min_eq_left→WP,le_of_lt→VY,not_lt→UD
open Ne renaming symm→XD
open Option renaming map_some→XN,map_eq_some_iff→Vj,isSome_map→V7
open Option.some renaming inj→Yz
open Prod.mk renaming inj→VO
open PyProof.Rows renaming slot_tuple_getitem→Xa,callWith_type1→Xy,get?_update_seq→VR,AllBare→Uc,listUpdate_at→Uf,seqEpoch_at→UE,SortKind→UI
open PySem renaming wpAny_bind→Yb,starEach→Yg,wpAny_pure→Yh,sizeLine→Yp,Spec→Yw,Program→Yy,sizeLine_eq→YH,wpAny_loadPart_at→YU,bootBuiltins→Y0,assignEach→Y1,treeTable→Y4,compareOp→Y6,mainGlobals→Xb,wpAny_holding→Xc,wpAny_field→Xd,wpAny_mono→Xf,wpAny_callSpecial?_slot→Xl,wpAny_truthy_bool→Xs,swapsWith→Xv,wpAny_call_entry→XB,sysModules→XG,foldedSetIterable→XH,wpAny_newObj_type→XI,attributeBase→XM,wpAny_setField_rec→X7,keywordEach→Wb,Keyword→Wc,wpAny_seqItems→We,binaryOp→Wu,mem_of_lookup→Ww,wpAny_typeNameOfWhole_keyiter→WB,wpAny_Call_Name_kw→WE,DictEntry→WI,wpAny_execs_nil→WJ,wpAny_standAt→WQ,FuncData→WR,typeLookup→WU,wpAny_setField→WZ,wpAny_execs_cons→W1,Builtin→W3,wpAny_isSubtype_exc→W5,letOwnedTupleGo→Va,wpAny_passesOwn→Vb,behindInMarks→Vc,NameKind→Vd,holding→Vo,sliceBounds→Vp,wpAny_pyIter_list→Vq,backToKw→Vv,lookupAlong_cons→VA,wpAny_updateSeq_pair→VD,codeAny_call_builtin→VE,swapsWithSole→VG,swappedStores→VH,Value→VM,excClassObj→VN,codeAny→VQ,lookupAlong→VS,codeAny_mono→V0,intText?→V4,wpAny_Assign_Name→V6,wpAny_onRaise→Ue,wpAny_newList→Ug,noFill_tuple_add→Ui,checkBuiltinCall→Uk,tupleKind→Ul,concat_meets→Uq,getItem→Ur,wpAny_typeOf→Us,wpAny_loadPart'→Uv,isSubtype→Uw,codeAny_builtin→Ux,wpAny_mroOf_exc→Uy,call_meets→UC,Arguments→UG,seqIndex?→UH,noteFrame→UJ,setFlight→UK,standAt→UN,callerA→UO,valueAt→UQ
open PySem.Around renaming in1_units→Xk,under→Uo
open PySem.Builtin.Slice renaming slicePlaces→Wa,sliceAdjust→WX,sliceApplied→VU
open PySem.Builtin.SmallTypes renaming nextOf→YR,ownedTupleIsFree→Xr,ownedTupleHandOut→WY
open PySem.Builtin.Str renaming occurrences→Wv
open PySem.Builtin.Tuple renaming tupleExact→Wm,tupleItemsOf→VV
open PySem.Calls renaming Name_function_global→VT
open PySem.Code renaming quiet_builtin→Vg
open PySem.F renaming slot_tuple_iterator_next→XE,plainAttrs_list→XW,slot_dict_keyiterator_next→WH,slot_zip_next→WO,args_tuple_add_2→W6,args_tuple_iterator_next_1→W9,entry_tuple_add→Ve,entry_tuple_iterator_next→Vf,slot_tuple_add→Vk,plainAttrs_str→Vn,attr_ValueError→Ua
open PySem.Heap renaming get?_push_of_some→Yc,get?_push_size→Yn,lt_size→Ys,get?_update_ne→X0,SameBut→X5,get?_update_self→X6,get?_none_of_le→Wf,size_push→WD,get?_update_other→Vl,ExtBut→Vs
open PySem.Heap.SameBut renaming update→W4
open PySem.NameKind renaming free→Xi,cell→Wx
open PySem.Obj renaming mapSeq→X2,data_mapFields→X8,isFreed_of_fields→Vw,mapFields→VJ
open PySem.Paired renaming cons→Wz,nil→WV,length→VF
open PySem.PassesOwn renaming never→Vh
open PySem.PyData renaming keyHash→YF
open PySem.Str renaming ofString→Ws,length_append→Vu
open PySem.Value renaming ref→YI,ref→YX,none→Y9,int→Xx,isStrOf→XV,str→Wj,none→Vy,bool→VL
open PySem.W renaming keepIn→YD,fencedOpening→XY,kia_one→Wk,topFrom→V5,hideAll→UF
open PySem.W.KIN renaming signs_num→Uz
open PySem.W.Looks renaming of_pure→Uh
open Sum renaming inl→UL,inr→UM
open True renaming intro→Wl
set_option backward.eqns.nonrecursive false
set_option genSizeOf false
set_option compiler.extract_closed false
set_option bootstrap.genMatcherCode false
set_option Elab.async false
set_option linter.all false
set_option maxRecDepth 100000
variable{K:PySem.W.Frag}{u v:VM}{aY a f b it:PySem.Addr}{aL fd:PySem.FuncData}{x z qual name:PySem.Str}{ι fp ch ι2 as:List PySem.Addr}{n i:Nat}{h base h':PySem.Heap}{w:PySem.World}{pos kq cc:PySem.Pos}{pins:List (PySem.Addr×PySem.Obj)}{ws loose:List PySem.Str}{mg mA:PySem.Str->Option VM}{E Q:VM->PySem.Shared->Prop}{st:PySem.Stmt}{e tg:PySem.Expr}{α κ:Type}{scope:PySem.Scope}{items:Array VM}{ba:List VM}{es elts rest:List PySem.Expr}{lo hi:Option Int}{env:PySem.Env}{sl:Array (Option VM)}
theorem aE{c:Prop}{h:Decidable c}(k:c){α:Sort _}{t e:α}:ite c t e=t:=if_pos k
theorem aI{c:Prop}{h:Decidable c}(k:¬c){α:Sort _}{t e:α}:ite c t e=e:=if_neg k
theorem eF{p:Prop} [h:Decidable p](k:p):decide p=ag:=decide_eq_true k
theorem dm{p:Prop} [h:Decidable p](k:¬p):decide p=ah:=decide_eq_false k
theorem g6{p:Prop} [Decidable p]:(decide p=ag)=p:=decide_eq_true_eq
theorem kT{p:Prop} [h:Decidable p](k:decide p=ag):p:=of_decide_eq_true k
namespace L2
open PySem
noncomputable def fh (s:Stmt):Arguments:=match s with
 |.FunctionDef _ a _ _ _ _ _ _ _ _=>a
 |_=>{posonlyargs:=[],args:=[],vararg:=none,kwonlyargs:=[],kw_defaults:=[],kwarg:=none,defaults:=[]}
noncomputable def cO (s:Stmt):List Stmt:=match s with
 |.FunctionDef _ _ b _ _ _ _ _ _ _=>b
 |_=>[]
noncomputable def aK (s:Stmt):Scope:=match s with
 |.FunctionDef _ _ _ _ _ _ sc _ _ _=>sc
 |_=>{kind:=.function,names:=[],isGenerator:=false,isCoroutine:=false}
end L2
namespace Ex
open PySem PySem.Spec
noncomputable abbrev jb:List Value:=[.type "ValueError",.type "Exception",.type "BaseException",.type "object"]
noncomputable def kG (nm:Str)(C N:Addr)(bs bm sub:4e4)(k0:Addr)(t2 t3:Tok):Obj:=VN nm nm C N bs bm ag [] sub ah af af (ae (.ref k0)) af (ae (.str nm t2)) (ae (.str nm t3)) (ae (.bool ag)) "ValueError.__new__"
end Ex
namespace Hd
open PySem PySem.W
noncomputable def Mg (names:2e2)(OU:6e8)(h:Heap):Option (List (Option (Option Value)))×List (Option Obj):=
 ((h.get? Xb).map λom=>names.map (nsIn [(Xb,om)] Xb),OU.map h.get?)
def L9(names:2e2)(vals:List (Option (Option Value)))(OU:6e8)(tos:Params->List Obj):Hook where
 α:=Option (List (Option (Option Value)))×List (Option Obj)
 obs:=λs=>Mg names OU s.heap
 val:=λw=>(ae vals,(tos w.params).map ae)
 says:=λw h=>(∃om,h.get? Xb=ae om/\names.map (nsIn [(Xb,om)] Xb)=vals)/\OU.map h.get? = (tos w.params).map ae
 of:=λw s e=>by
  let#[e1,e2]:=VO e;let#[om,g,e]:=Vj.mp e1;show#[#[om,g,e],e2]
 keeps:=λw h h' #[#[om,g,e],e2] k=>by
  show#[#[om,k _ _ g,e],?_];rw[←e2];show List.map_congr_left λa m=>?_;have:∃o,h.get? a=ae o:=by
   have m2:h.get? a∈OU.map h.get?:=VP m;rw[e2]at m2;let#[o,_,q]:=YV.mp m2;show#[o,q.symm]
  let#[o,q]:=this;rw[q,k _ _ q]
end Hd
namespace jz
open PySem
set_option maxHeartbeats 4000000
noncomputable def top (i:Nat):Stmt:=PySem.Challenge.pw_holdword_k81_no_letters.main.body.getD i (.Pass #[0,0,0,0])
noncomputable def qv:Program:=W.view PySem.Challenge.pw_holdword_k81_no_letters [1,2,3,4,5,6,7,8,9,11,12,13,14,15,16,17,19,20,21,22,30,31,32,35,36,37,38,39,40,41,42,44,45,46,47,48,49,50,51,52,53,54,55,56,57,58,59,60,61,62,63]
def Bj:Stmt:=match top 24 with|.ClassDef _ _ _ b _ _ _ _ _ _ _=>b.getD 0 (.Pass #[0,0,0,0])|s=>s
noncomputable def vA (P:Params):Obj:=#[.type "dict",af,.dict [#[YF P "__module__",.str "__module__" 396,Wj {cps:=[104,111,108,100,119,111,114,100,46,101,114,114,111,114,115].toArray} 328],#[YF P "__firstlineno__",.str "__firstlineno__" 400,Xx 59 399],#[YF P "__static_attributes__",.str "__static_attributes__" 401,YX 162],#[YF P "__doc__",.str "__doc__" 402,Vy]].toArray 2,#[]]
noncomputable def sP (P:Params):Obj:=#[.type "dict",af,.dict [#[YF P "__module__",.str "__module__" 337,Wj {cps:=[104,111,108,100,119,111,114,100,46,101,114,114,111,114,115].toArray} 328],#[YF P "__firstlineno__",.str "__firstlineno__" 341,Xx 51 340],#[YF P "__init__",.str "__init__" 349,YX 124],#[YF P "__static_attributes__",.str "__static_attributes__" 351,YX 125],#[YF P "__weakref__",.str "__weakref__" 353,YX 128],#[YF P "__doc__",.str "__doc__" 354,Vy]].toArray 3,#[]]
def VcD:Obj:=#[.type "function",af,.func (W.fnOf "__init__" "HoldError.__init__" (L2.fh Bj) (L2.cO Bj) (L2.aK Bj) (.ref 117) .none .none (Wj {cps:=[104,111,108,100,119,111,114,100,46,101,114,114,111,114,115].toArray} 328) af (.ref 123) .none),#[]]
noncomputable def Vdc:Obj:=#[.type "code",af,.fields [Wj {cps:=[95,95,105,110,105,116,95,95].toArray} 342,  Wj {cps:=[72,111,108,100,69,114,114,111,114,46,95,95,105,110,105,116,95,95].toArray} 343,  Wj {cps:=[47,99,108,97,105,109,47,99,117,116,46,112,121].toArray} 344,Xx 53 0,  Xx 2 0,Xx 0 0,Xx 0 0,Xx 3 0,YX 118,  PySem.Value.bool ag,Xx 181 0,YX 119,Vy,YX 120,  YX 121,YX 122,Xx 347 0,Xx 53 0,  Wj {cps:=[47,99,108,97,105,109,47,99,117,116,46,112,121].toArray} 348].toArray,#[]]
noncomputable def Su:List Str:=["NoLetter","HoldError","NoTown","NoPile","NoRow","DEEDS","is_bare","is_of_word","is_of_part","is_of_clause","is_of_house","DEED_FORMS"]
noncomputable def VbI:List (Option (Option Value)):=[ae (ae (.ref 164)),ae (ae (.ref 127)),ae (ae (.ref 140)),ae (ae (.ref 152)),ae (ae (.ref 176)),ae (ae (.ref 83)),ae (ae (.ref 54)),ae (ae (.ref 61)),ae (ae (.ref 75)),ae (ae (.ref 68)),ae (ae (.ref 82)),ae (ae (.ref 189))]
noncomputable def wG (P:Params):List DictEntry:=[#[YF P "join",.str "join" 276,.ref 54],#[YF P "say",.str "say" 277,.ref 61],#[YF P "do",.str "do" 278,.ref 75],#[YF P "free",.str "free" 279,.ref 68],#[YF P "ready",.str "ready" 280,.ref 68],#[YF P "hand",.str "hand" 281,.ref 82],#[YF P "quit",.str "quit" 282,.ref 68],#[YF P "note",.str "note" 283,.ref 54]]
noncomputable def Zcv (P:Params):List DictEntry:=[#[YF P "join",.str "join" 439,.ref 190],#[YF P "say",.str "say" 440,.ref 191],#[YF P "do",.str "do" 442,.ref 192],#[YF P "free",.str "free" 445,.ref 193],#[YF P "ready",.str "ready" 447,.ref 194],#[YF P "hand",.str "hand" 449,.ref 195],#[YF P "quit",.str "quit" 453,.ref 196],#[YF P "note",.str "note" 455,.ref 197]]
def VbJ(P:Params):List Obj:=[#[.type "dict",af,.dict (wG P).toArray 8,#[]],#[.type "dict",af,.dict (Zcv P).toArray 8,#[]],#[.type "tuple",af,.seq #[],#[]],#[.type "tuple",af,.seq #[.str "word" 441],#[]],#[.type "tuple",af,.seq [.str "number" 443,.str "number" 444].toArray,#[]],#[.type "tuple",af,.seq #[.str "number" 446],#[]],#[.type "tuple",af,.seq #[.str "number" 448],#[]],#[.type "tuple",af,.seq [.str "number" 450,.str "to" 451,.str "word" 452].toArray,#[]],#[.type "tuple",af,.seq #[.str "number" 454],#[]],#[.type "tuple",af,.seq #[],#[]],Ex.kG "NoLetter" 164 163 [YX 127] (.ref 127::Ex.jb) [] 155 389 397,Ex.kG "HoldError" 127 126 [PySem.Value.type "ValueError"] Ex.jb [YX 140,YX 152,YX 164,YX 176] 110 330 338,Ex.kG "NoTown" 140 139 [YX 127] (.ref 127::Ex.jb) [] 131 357 365,Ex.kG "NoPile" 152 151 [YX 127] (.ref 127::Ex.jb) [] 143 373 381,Ex.kG "NoRow" 176 175 [YX 127] (.ref 127::Ex.jb) [] 167 405 413,vA P,sP P,VcD,Vdc,#[.type "tuple",af,.seq #[Vy] 0,#[]]]
def hk:W.Hook:=Hd.L9 Su VbI [83,189,190,191,192,193,194,195,196,197,164,127,140,152,176,163,126,124,123,117] VbJ
theorem Du{p q:Yy}{Xt:Shared->Bool}{Yf:Shared->α}{Ya:World->α}{N:Nat}{g0:Bool}(row:String)(h:∀(b:Bool)(w:World),(XY Y4 p w N).bind (λs₀=>(V5 Y4 p (w.withFollow row b) N s₀).map (λs=>(W.openSeen q loose (PySem.importedModules p.main.body) Xt g0 s,Yf s)))=ae (W.openGood q loose,Ya (w.withFollow row b))):W.LeftO p q loose Xt Yf Ya N g0:=λw=>by
 have k:=h (w.params.followText row) w;rw[World.withFollow_self w row]at k;ext W.openEnds;cases a:XY Y4 p w N with
 |none=>rw[a]at k;cases k
 |some s₀=>rw[a]at k;show k
theorem Qm{a:Option Shared}{t:Shared->Option Shared}{β γ δ:Type}{A:Shared->α×β×Bool×γ}{Y:Shared->δ}{g:α×β×Bool×γ}{y:δ}(h1:a.bind (λs₀=>(t s₀).map λs=>((A s).1,Y s))=ae (g.1,y))(h2:a.bind (λs₀=>(t s₀).map λs=>((A s).2.1,(A s).2.2.2))=ae (g.2.1,g.2.2.2))(h3:a.bind (λs₀=>(t s₀).map λs=>(A s).2.2.1)=ae g.2.2.1):a.bind (λs₀=>(t s₀).map λs=>(A s,Y s))=ae (g,y):=by
 cases a with
 |none=>cases h1
 |some s₀=>
  cases e:t s₀ with
  |none=>simp[e]at h1
  |some s=>
   erw[Option.bind_some,e,XN,Option.some.injEq,Prod.mk.injEq]at h1 h2 h3⊢
   let#[a1,a3]:=h1;let#[b1,b2]:=h2;show#[Prod.ext a1 (Prod.ext b1 (Prod.ext h3 b2)),a3]
def sA(s:Shared):=W.openSeen qv 14e0 (PySem.importedModules (PySem.Challenge.pw_holdword_k81_no_letters).main.body) (λs=>W.xlAt qv [] s&&W.recOk [] s) ag s
def sG:=W.openGood qv 14e0
theorem VeQ(w:World):(XY Y4 PySem.Challenge.pw_holdword_k81_no_letters w 5652).bind (λs₀=>(V5 Y4 PySem.Challenge.pw_holdword_k81_no_letters (w.withFollow "special-get-raises" ah) 5652 s₀).map (λs=>((sA s).1,hk.obs s)))=ae (sG.1,hk.val (w.withFollow "special-get-raises" ah)):=by kernel_rfl
theorem VeP(w:World):(XY Y4 PySem.Challenge.pw_holdword_k81_no_letters w 5652).bind (λs₀=>(V5 Y4 PySem.Challenge.pw_holdword_k81_no_letters (w.withFollow "special-get-raises" ah) 5652 s₀).map (λs=>((sA s).2.1,(sA s).2.2.2)))=ae (sG.2.1,sG.2.2.2):=by kernel_rfl
theorem VeO(w:World):(XY Y4 PySem.Challenge.pw_holdword_k81_no_letters w 5652).bind (λs₀=>(V5 Y4 PySem.Challenge.pw_holdword_k81_no_letters (w.withFollow "special-get-raises" ah) 5652 s₀).map (λs=>(sA s).2.2.1))=ae sG.2.2.1:=by kernel_rfl
theorem VeN(w:World):(XY Y4 PySem.Challenge.pw_holdword_k81_no_letters w 5652).bind (λs₀=>(V5 Y4 PySem.Challenge.pw_holdword_k81_no_letters (w.withFollow "special-get-raises" ag) 5652 s₀).map (λs=>((sA s).1,hk.obs s)))=ae (sG.1,hk.val (w.withFollow "special-get-raises" ag)):=by kernel_rfl
theorem VeM(w:World):(XY Y4 PySem.Challenge.pw_holdword_k81_no_letters w 5652).bind (λs₀=>(V5 Y4 PySem.Challenge.pw_holdword_k81_no_letters (w.withFollow "special-get-raises" ag) 5652 s₀).map (λs=>((sA s).2.1,(sA s).2.2.2)))=ae (sG.2.1,sG.2.2.2):=by kernel_rfl
theorem VeL(w:World):(XY Y4 PySem.Challenge.pw_holdword_k81_no_letters w 5652).bind (λs₀=>(V5 Y4 PySem.Challenge.pw_holdword_k81_no_letters (w.withFollow "special-get-raises" ag) 5652 s₀).map (λs=>(sA s).2.2.1))=ae sG.2.2.1:=by kernel_rfl
theorem hl:W.LeftO PySem.Challenge.pw_holdword_k81_no_letters qv 14e0 (λs=>W.xlAt qv [] s&&W.recOk [] s) hk.obs hk.val 5652:=
 Du "special-get-raises" λb w=>match b with
  |false=>Qm (VeQ w) (VeP w) (VeO w)
  |true=>Qm (VeN w) (VeM w) (VeL w)
theorem Tc:PySem.Challenge.rw_holdword_k81_no_letters.wellSaid=ag:=by kernel_rfl
end jz
namespace L2
open PySem PySem.Spec PyProof.Rows
abbrev Key:=Sum Int Str
noncomputable def qE:Key->Value->Bool
 |.inl k,v=>Value.isInt k v
 |.inr x,v=>XV x v
noncomputable def Vez (w:World):Key->Int
 |.inl k=>hashInt k
 |.inr x=>hashStr w x
theorem OE:∀{k:Key}{v:Value},qE k v=ag->(∃i t,k=UL i/\v=Value.int i t)\/(∃x t,k=UM x/\v=Value.str x t)
 |.inl i,v,h=>by
  let#[t,e]:=Value.isInt_shape (k:=i) (v:=v) h;show .inl #[i,t,rfl,e]
 |.inr x,v,h=>by
  let#[t,e]:=Value.isStrOf_shape (x:=x) (v:=v) h;show .inr #[x,t,rfl,e]
theorem DJ(i:Int)(t:Tok):qE (.inl i) (.int i t)=ag:=by simp[qE,Value.isInt]
theorem DI(x:Str)(t:Tok):qE (.inr x) (.str x t)=ag:=by simp[qE,XV]
theorem ZU(a b:Int):decide ((UL a:Key)=UL b)=(a==b):=by
 by_cases e:a=b
 .subst e;simp
 .have h:¬(UL a:Key)=UL b:=λq=>e (Sum.inl.inj q)
  rw[dm h];show(beq_eq_false_iff_ne.mpr e).symm
theorem ZQ(a b:Str):decide ((UM a:Key)=UM b)=decide (a=b):=by
 by_cases e:a=b
 .subst e;simp
 .have h:¬(UM a:Key)=UM b:=λq=>e (Sum.inr.inj q)
  rw[dm h,dm e]
theorem ZT(a:Int)(b:Str):decide ((UL a:Key)=UM b)=ah:=dm (λq=>nomatch q)
theorem ZR(a:Str)(b:Int):decide ((UM a:Key)=UL b)=ah:=dm (λq=>nomatch q)
def dF(prog:Yy)(w:World):PySem.KeyKind prog w Key where
 is:=qE
 hash:=Vez w
 inj:=λv a b ha hb=>by
  rcases OE ha with⟨i,t,rfl,rfl⟩|⟨x,t,rfl,rfl⟩
  .rcases OE hb with⟨j,u,rfl,e⟩|⟨y,u,rfl,e⟩
   .injection e with e1 _;rw[e1]
   .show nomatch e
  .rcases OE hb with⟨j,u,rfl,e⟩|⟨y,u,rfl,e⟩
   .show nomatch e
   .injection e with e1 _;rw[e1]
 byValue:=λk v h=>by
  rcases OE h with⟨i,t,rfl,rfl⟩|⟨x,t,rfl,rfl⟩<;>rfl
 pyHash:=λhv h=>by
  rcases OE hv with⟨i,t,rfl,rfl⟩|⟨x,t,rfl,rfl⟩
  .show wpAny_pyHash_int h
  .show wpAny_pyHash_str h
 eqBool:=λhu hv h=>by
  rcases OE hu with⟨i,t,rfl,rfl⟩|⟨x,t,rfl,rfl⟩
  .rcases OE hv with⟨j,u,rfl,rfl⟩|⟨y,u,rfl,rfl⟩
   .rw[ZU]at h;show wpAny_eqBool_int h
   .rw[ZT]at h;show SeqAt.EqAt.int_str i t y u _ _ _ _ h
  .rcases OE hv with⟨j,u,rfl,rfl⟩|⟨y,u,rfl,rfl⟩
   .rw[ZR]at h;show SeqAt.EqAt.str_int x t j u _ _ _ _ h
   .rw[ZQ]at h;show wpAny_eqBool_str h
 «strs»:=λk x t v h=>by
  rcases OE h with⟨i,u,rfl,e⟩|⟨y,u,rfl,e⟩
  .show nomatch e
  .injection e with e1 _
   subst e1;cases v<;>rfl
theorem vH(prog:Yy)(w:World)(i:Int)(t:Tok):(dF prog w).is (.inl i) (.int i t)=ag:=DJ i t
theorem vG(prog:Yy)(w:World)(x:Str)(t:Tok):(dF prog w).is (.inr x) (.str x t)=ag:=DI x t
inductive V where
 |aS|bl (b:Bool)|int (i:Int)|str (x:Str)|byt (b:Array UInt8)|flt (b:UInt64)|ref (a:Addr)|ty (n:String)
 deriving DecidableEq
def RelV:V->Value->Prop
 |.aS,u=>u=Y9
 |.bl b,u=>u=VL b
 |.int i,u=>∃t,u=Value.int i t
 |.str x,u=>∃t,u=Value.str x t
 |.byt b,u=>∃t,u=Value.bytes b t
 |.flt b,u=>∃t,u=Value.float b t
 |.ref a,u=>u=YI a
 |.ty n,u=>u=Value.type n
abbrev Vals:List V->List Value->Prop:=Paired RelV
theorem Vals.length{xs:List V}{us:4e4}(r:Vals xs us):xs.length=us.length:=VF r
theorem Vals.get:∀{xs:List V}{us:4e4}{i:Nat}{x:V},Vals xs us->xs[i]? = ae x->∃u,us[i]? = ae u/\RelV x u
 |_,_,_,_,.nil,e=>by simp at e
 |_,_,0,_,.cons r _,e=>by simp at e;subst e;show#[_,rfl,r]
 |_,_,i+1,x,.cons _ t,e=>by
  let#[u,h1,h2]:=Vals.get (i:=i) (x:=x) t (by simpa using e);show#[u,by simpa using h1,h2]
theorem Vals.set{x:V}{u:Value}(r:RelV x u):∀{xs:List V}{us:4e4}(i:Nat),Vals xs us->Vals (xs.set i x) (us.set i u)
 |_,_,_,.nil=>.nil
 |_,_,0,.cons _ t=>.cons r t
 |_,_,i+1,.cons q t=>.cons q (Vals.set r i t)
theorem Vals.append:∀{xs ys:List V}{us ws:4e4},Vals xs us->Vals ys ws->Vals (xs++ys) (us++ws)
 |_,_,_,_,.nil,s=>s
 |_,_,_,_,.cons r t,s=>.cons r (Vals.append t s)
theorem Vals.take:∀{xs:List V}{us:4e4}(n:Nat),Vals xs us->Vals (xs.take n) (us.take n)
 |_,_,0,_=>.nil
 |_,_,_+1,.nil=>.nil
 |_,_,n+1,.cons r t=>.cons r (Vals.take n t)
theorem Vals.drop:∀{xs:List V}{us:4e4}(n:Nat),Vals xs us->Vals (xs.drop n) (us.drop n)
 |_,_,0,r=>r
 |_,_,_+1,.nil=>.nil
 |_,_,n+1,.cons _ t=>Vals.drop n t
def oE:Option V->Option Value->Prop
 |some v,ae u=>RelV v u
 |none,af=>True
 |_,_=>False
def KV{κ:Type}:List (κ×V)->List (κ×Value)->Prop:=Paired λ(p:κ×V) (q:κ×Value)=>p.1=q.1/\RelV p.2 q.2
noncomputable def kV:Key->V
 |.inl i=>.int i
 |.inr x=>.str x
inductive HO where
  |lst (xs:List V)
  |tup (xs:List V)
  |dK (bA:List (Key×V))|dT (bA:List (List Key×V))
  |set (S:Int->Bool) (n:Nat)
  |ins (C dx:Addr) (fs:List (Str×V))
  |own (x:Addr)
  |xd (fs:List (Str×V))
  |met (f x:Addr)
  |rng (lo hi:Int)
  |yX (o:Obj) (u:HO)
  |OT (ps:Array Value)
  |ext (φ:Heap->Prop)
abbrev Hp:=Addr->Option HO
noncomputable def upd (H:Hp)(a:Addr)(o:HO):Hp:=λb=>if b=a then ae o else H b
theorem oz{H:Hp}{o:HO}:upd H a o a=ae o:=by ext upd;rw[aE rfl]
theorem fS{H:Hp}{o:HO}(h:b≠a):upd H a o b=H b:=by ext upd;rw[aI h]
theorem LY{H:Hp}{o u:HO}:upd (upd H a o) a u=upd H a u:=by
 funext b;ext upd;split<;>rfl
theorem Vcr{H:Hp}{o u:HO}(h:H a=ae o)(h':H b=ae u)(d:o≠u):a≠b:=by
 intro e;subst e;rw[h]at h';show d (Yz h')
theorem kI{H:Hp}{o:HO}(h:H a=ae o)(h':H b=af):a≠b:=by
 intro e;subst e;rw[h]at h';cases h'
section
variable(P:Yy)(w:World)
def cw(H:Hp)(h:Heap)(a:Addr):HO->Prop
 |.lst xs=>xs.length<=Yp/\∃(ba:4e4)(n:Nat),Vals xs ba/\h.get? a=ae {cls:=.type "list",data:=.seq ba.toArray n}
 |.tup xs=>xs.length<=Yp/\∃ba:List Value,Vals xs ba/\IsTup h a ba.toArray
 |.dK bA=>bA.length<=Yp/\(a==XG)=ah/\∃vs,KV bA vs/\h.DictOf (dF P w) a vs
 |.dT bA=>bA.length<=Yp/\(a==XG)=ah/\∃xs:List 12e9,
   Paired (λ(p:List Key×V) (q:List Key×Addr×Value)=>p.1=q.1/\H q.2.1=ae (.tup (p.1.map kV))/\RelV p.2 q.2.2) bA xs/\
   ∃o es ep,h.get? a=ae o/\o.ExactDict/\o.data=.dict es ep/\es.toList=xs.map (entryOfKey (Ul (dF P w)))/\(xs.map (·.1)).Nodup
 |.set S n=>h.SetOf (intKind P w) a S n
 |.ins C dx fs=>H dx=ae (.own a)/\fs.length<=1000/\dx≠a/\h.get? a=ae (W.instObj C dx)/\
   ∃mA,h.Ns1 dx mA/\(∀f,oE (fs.lookup f) (mA f))/\PySem.Within mA (fs.map (·.1))
 |.own _=>∃o,h.get? a=ae o
 |.xd fs=>∃mA,h.Ns1 a mA/\∀f,oE (fs.lookup f) (mA f)
 |.rng lo hi=>∃t u v,h.get? a=ae {cls:=.type "range",data:=.fields [.int lo t,.int hi u,.int 1 v].toArray}
 |.yX o u=>h.get? a=ae o/\cw H h a u
 |.OT ps=>h.get? a=ae {cls:=.none,data:=.fields ps}
 |.met f x=>h.get? a=ae (W.methodObj (.ref f) (.ref x))
 |.ext φ=>φ h/\(∃o,h.get? a=ae o)/\∀h1 h2:Heap,φ h1->(∀o,h1.get? a=ae o->h2.get? a=ae o)->φ h2
def ke(H:Hp)(h:Heap):Prop:=∀a o,H a=ae o->cw P w H h a o
end
section
variable{P:Yy}{w:World}{H H':Hp}{h h':Heap}{a:Addr}{o:HO}
theorem cw.lt(x:cw P w H h a o):a<h.objs.size:=by
 cases o with
 |lst xs=>let#[_,_,_,_,e]:=x;show Ys e
 |tup xs=>let#[_,_,_,p]:=x;show p.lt
 |dK bA=>let#[_,_,_,_,o,_,_,e,_]:=x;show Ys e
 |dT bA=>let#[_,_,_,_,o,_,_,e,_]:=x;show Ys e
 |set S n=>let#[o,_,_,_,e,_]:=x;show Ys e
 |ins C dx fs=>let#[_,_,_,e,_]:=x;show Ys e
 |own y=>let#[_,e]:=x;show Ys e
 |xd fs=>obtain⟨_,⟨_,_,_,e,_⟩,_⟩:=x;show Ys e
 |rng lo hi=>let#[_,_,_,e]:=x;show Ys e
 |yX ob u=>let#[e,_]:=x;show Ys e
 |OT ps=>show Ys (show h.get? a=ae _ from x)
 |met f y=>show Ys (show h.get? a=ae _ from x)
 |ext φ=>obtain⟨_,⟨_,e⟩,_⟩:=x;show Ys e
theorem Paired.ZE{α β:Type}{F G:α->β->Prop}:∀{l₁:List α}{l₂:List β},Paired F l₁ l₂->(∀a b,F a b->G a b)->Paired G l₁ l₂
 |_,_,.nil,_=>.nil
 |_,_,.cons r t,f=>.cons (f _ _ r) (Paired.ZE t f)
theorem cw.fE(x:cw P w H h a o)(k:∀b u,(b=a\/H b=ae (.own a))->h.get? b=ae u->h'.get? b=ae u)
  (ho:∀b,H b=ae (.own a)->H' b=ae (.own a)) (ht:∀b xs,H b=ae (.tup xs)->H' b=ae (.tup xs)):cw P w H' h' a o:=by
 induction o with
 |lst xs=>let#[z,ba,n,r,e]:=x;show#[z,ba,n,r,k _ _ 17e9 e]
 |tup xs=>let#[z,ba,r,ob,e,c]:=x;show#[z,ba,r,ob,k _ _ 17e9 e,c]
 |dK bA=>let#[z,y,vs,r,ob,es,ep,e,c]:=x;show#[z,y,vs,r,ob,es,ep,k _ _ 17e9 e,c]
 |dT bA=>
  let#[z,y,xs,r,ob,es,ep,e,c]:=x;show#[z,y,xs,Paired.ZE r λp q z=>#[z.1,ht _ _ z.2.1,z.2.2],ob,es,ep,k _ _ 17e9 e,c]
 |set S n=>let#[ob,es,ep,t,e,c]:=x;show#[ob,es,ep,t,k _ _ 17e9 e,c]
 |ins C dx fs=>
  obtain⟨d,z,ne,e,mA,⟨od,es,ep,e2,c⟩,r⟩:=x;show#[ho _ d,z,ne,k _ _ 17e9 e,mA,#[od,es,ep,k _ _ (.inr d) e2,c],r]
 |own y=>let#[ob,e]:=x;show#[ob,k _ _ 17e9 e]
 |xd fs=>obtain⟨mA,⟨od,es,ep,e,c⟩,r⟩:=x;show#[mA,#[od,es,ep,k _ _ 17e9 e,c],r]
 |rng lo hi=>let#[t,u,v,e]:=x;show#[t,u,v,k _ _ 17e9 e]
 |yX ob u ih=>let#[e,q]:=x;show#[k _ _ 17e9 e,ih q]
 |OT ps=>
  have e:h.get? a=ae {cls:=.none,data:=.fields ps}:=x;change h'.get? a=ae {cls:=.none,data:=.fields ps};show k a _ 17e9 e
 |met f y=>
  have e:h.get? a=ae (W.methodObj (.ref f) (.ref y)):=x;change h'.get? a=ae (W.methodObj (.ref f) (.ref y));show k a _ 17e9 e
 |ext φ=>obtain⟨p,⟨o,e⟩,st⟩:=x;show#[st _ _ p λo q=>k _ _ 17e9 q,#[o,k _ _ 17e9 e],st]
theorem ke.lt(x:ke P w H h)(e:H a=ae o):a<h.objs.size:=(x a o e).lt
theorem ke.fresh(x:ke P w H h)(e:h.objs.size<=a):H a=af:=by
 cases q:H a with
 |none=>rfl
 |some u=>show absurd (Yr (x.lt q) e) (XJ _)
theorem ke.kept(x:ke P w H h)(k:16e3):ke P w H h':=λa o e=>
 (x a o e).fE (λb u _ q=>k b u q) (λ_ q=>q) λ_ _ q=>q
theorem ke.laid(x:ke P w H h)(k:16e3)(hp:h.objs.size<=a)(new:cw P w (upd H a o) h' a o):ke P w (upd H a o) h':=λb u e=>by
 have hn:=x.fresh hp;by_cases hb:b=a
 .subst hb;rw[oz]at e;cases e;show new
 .rw[fS hb]at e
  show(x b u e).fE (λc v _ q=>k c v q) (λc q=>by rw[fS (kI q hn)];show q) λc xs q=>by rw[fS (kI q hn)];show q
end
def Rd(H:Hp)(a:Addr)(u:HO):Prop:=H a=ae u\/∃o,H a=ae (.yX o u)
theorem Rd.ok{P:Yy}{H:Hp}{u:HO}(r:Rd H a u)(x:ke P w H h):cw P w H h a u:=by
 rcases r with r|⟨o,r⟩
 .show x a u r
 .let#[_,q]:=x a _ r
  show q
def Mut:Option HO->Prop
 |some (.lst _)=>True
 |some (.dK _)=>True
 |some (.dT _)=>True
 |some (.set _ _)=>True
 |some (.ins _ _ _)=>True
 |some (.ext _)=>True
 |_=>False
section
variable{P:Yy}{w:World}{H:Hp}{h h':Heap}{x e:Addr}{o':HO}
theorem ke.write(ok:ke P w H h)(mu:Mut (H x))(he:e=x\/H e=ae (.own x))(k:∀b u,b≠e->h.get? b=ae u->h'.get? b=ae u)(heo:∃u,h'.get? e=ae u)
  (new:cw P w (upd H x o') h' x o'):ke P w (upd H x o') h':=λb u q=>by
 have Vcq:∀c y,H c=ae (.own y)->c≠x:=λc y r z=>by subst z;rw[r]at mu;show mu
 have Vet:∀c xs,H c=ae (.tup xs)->c≠x:=λc xs r z=>by subst z;rw[r]at mu;show mu
 by_cases hb:b=x
 .subst hb;rw[oz]at q;cases q;show new
 .rw[fS hb]at q
  by_cases hbe:b=e
  .have q':H b=ae (.own x):=by
    rcases he with z|z
    .show absurd (hbe.trans z) hb
    .rw[hbe];show z
   rw[q]at q';cases q';let#[v,hv]:=heo;show#[v,by rw[hbe];show hv]
  .show(ok b u q).fE (λc v hc r=>k c v ?_ r) (λc r=>by rw[fS (Vcq c b r)];show r) λc xs r=>by rw[fS (Vet c xs r)];show r
   rcases hc with rfl|hc
   .show hbe
   .rintro rfl
    rcases he with z|z
    .show Vcq c b hc z
    .rw[hc]at z;cases z;show hb rfl
end
structure Un(fs ex:List Addr)(H H':Hp)(h h':Heap):Prop where
 keep:∀b o,h.get? b=ae o->H b=af->b∉fs->b∉ex->h'.get? b=ae o
 slot:∀b o,h.get? b=ae o->H b=af->b∈fs->b∉ex->∃sl,h'.get? b=ae {o with slots:=sl}
 free:∀b o,h.get? b=ae o->H b=af->b∉ex->H' b=af
 there:∀b o,h.get? b=ae o->b∉ex->∃o',h'.get? b=ae o'
 gp:∀b xs,H b=ae (.tup xs)->H' b=ae (.tup xs)
 gi:∀b o u,H b=ae (.yX o u)->H' b=ae (.yX o u)
 hJ:∀b ps,H b=ae (.OT ps)->∃more,H' b=ae (.OT (ps++more))
section
variable{fs fs' ex ex':6e8}{H H1 H2:Hp}{h h1 h2 h':Heap}{a x e:Addr}{o:HO}
theorem Un.any(u:Un fs ex H H1 h h1){ob:Obj}(q:h.get? b=ae ob)(n:H b=af)(hx:b∉ex):∃sl,h1.get? b=ae {ob with slots:=sl}:=by
 by_cases hb:b∈fs
 .show u.slot b ob q n hb hx
 .show#[ob.slots,u.keep b ob q n hb hx]
theorem Un.trans(a:Un fs ex H H1 h h1)(b:Un fs ex H1 H2 h1 h2):Un fs ex H H2 h h2 where
 keep:=λc ob q n hc hx=>b.keep c ob (a.keep c ob q n hc hx) (a.free c ob q n hx) hc hx
 slot:=λc ob q n hc hx=>by
  let#[sl,e1]:=a.slot c ob q n hc hx;let#[CQ,e2]:=b.slot c _ e1 (a.free c ob q n hx) hc hx;show#[CQ,e2]
 free:=λc ob q n hx=>by
  let#[o',e1]:=a.there c ob q hx;show b.free c o' e1 (a.free c ob q n hx) hx
 there:=λc ob q hx=>by
  let#[o',e1]:=a.there c ob q hx;show b.there c o' e1 hx
 gp:=λc xs q=>b.gp c xs (a.gp c xs q)
 gi:=λc ob xs q=>b.gi c ob xs (a.gi c ob xs q)
 hJ:=λc ps q=>by
  let#[m1,e1]:=a.hJ c ps q;let#[m2,e2]:=b.hJ c _ e1;show#[m1++m2,by rw[e2,VX]]
theorem Un.kept(k:16e3):Un fs ex H H h h':=
 #[λb ob q _ _ _=>k b ob q,λb ob q _ _ _=>#[ob.slots,k b ob q],λ_ _ _ n _=>n,λb ob q _=>#[ob,k b ob q],λ_ _ q=>q,λ_ _ _ q=>q,λ_ ps q=>#[#[],by rw[q];simp]]
theorem Un.refl:Un fs ex H H h h:=Un.kept λ_ _ q=>q
theorem Un.laid(k:16e3)(hp:h.objs.size<=a)(hn:H a=af):Un fs ex H (upd H a o) h h' where
 keep:=λb u q _ _ _=>k b u q
 slot:=λb u q _ _ _=>#[u.slots,k b u q]
 free:=λb u q n _=>by rw[fS (YK (Yr (Ys q) hp))];show n
 there:=λb u q _=>#[u,k b u q]
 gp:=λb xs q=>by rw[fS (kI q hn)];show q
 gi:=λb u xs q=>by rw[fS (kI q hn)];show q
 hJ:=λb ps q=>#[#[],by rw[fS (kI q hn),q];simp]
theorem Un.write(mu:Mut (H x))(he:e=x\/H e=ae (.own x))(k:∀b u,b≠e->h.get? b=ae u->h'.get? b=ae u)(heo:∃u,h'.get? e=ae u):Un fs ex H (upd H x o) h h':=by
 have hx:∀b,H b=af->b≠x:=λb n z=>by subst z;rw[n]at mu;show mu
 have hb:∀b,H b=af->b≠e:=λb n z=>by
  subst z;rcases he with r|r
  .show hx b n r
  .rw[n]at r;cases r
 have hm:∀b u,H b=ae u->¬Mut (ae u)->b≠x:=λb u q nm z=>by subst z;rw[q]at mu;show nm mu
 show#[λb u q n _ _=>k b u (hb b n) q,λb u q n _ _=>#[u.slots,k b u (hb b n) q],λb u q n _=>by rw[fS (hx b n)];show n,λb u q _=>?_,
  λb xs q=>by rw[fS (hm b _ q λz=>z)];show q,λb u xs q=>by rw[fS (hm b _ q λz=>z)];show q,λb ps q=>#[#[],by rw[fS (hm b _ q λz=>z),q];simp]]
 by_cases hbe:b=e
 .subst hbe;show heo
 .show#[u,k b u hbe q]
theorem Un.mono(u:Un fs ex H H1 h h1)(hs:∀b∈fs,b∈fs')(hx:∀b∈ex,b∈ex'):Un fs' ex' H H1 h h1:=
 #[λb ob q n hb he=>u.keep b ob q n (λz=>hb (hs b z)) λz=>he (hx b z),λ_ _ q n _ he=>u.any q n λz=>he (hx _ z),λb ob q n he=>u.free b ob q n λz=>he (hx b z),λb ob q he=>u.there b ob q λz=>he (hx b z),u.gp,u.gi,u.hJ]
end
noncomputable def trk (h:Heap)(H:Hp):List Addr:=(YL h.objs.size).filter λa=>(H a).isSome
def tj(h:Heap)(H:Hp):Heap:=W.hideAll h (trk h H)
theorem DU(h:Heap)(H:Hp):(tj h H).objs.size=h.objs.size:=W.hideAll_size _ _
theorem HK{H:Hp}{o:Obj}(e:h.get? b=ae o)(n:H b=af):(tj h H).get? b=ae o:=
 W.hideAll_get _ e λhm=>by
  have q:(H b).isSome=ag:=(Um.mp hm).2;rw[n]at q;simp at q
theorem MS{H:Hp}{o:Obj}(e:(tj h H).get? b=ae o):h.get? b=ae o/\H b=af:=by
 have e':h.get? b=ae o:=W.of_hideAll (trk h H) e;show#[e',?_];cases q:H b with
 |none=>rfl
 |some x=>
  have hm:b∈trk h H:=Um.mpr #[WW.mpr (Ys e'),by simp[q]];have z:(tj h H).get? b=af:=W.hideAll_none (trk h H) hm;rw[z]at e;cases e
structure Mod(K:W.Frag)(mg:Str->Option Value)(base:Heap):Prop where
 Nb:K.In base
 glob:base.Ns Xb mg
 blt:∃mb,base.Ns builtinsNs mb/\∀x:Str,x≠"__name__"->mb x=Y0 x
 nolimit:base.NoLimit
structure Cx where
 prog:Yy
 w:World
 K:W.Frag
 mg:Str->Option Value
 base:Heap
 A:Around
 N:List Str
 s₀:Shared
 H₀:Hp
 env:Env
 outer:List Env
 stack:List Env
 ex:List Addr
 fn:Str->Bool
 calm:Bool
 pn:List (Addr×Obj)
 xe:Value->Shared->Prop
noncomputable def gw (l:List Env):List Addr:=l.filterMap (·.frame)
abbrev Cx.fs(X:Cx):List Addr:=gw X.outer
def Eo(sc:Scope)(x:Str):Prop:=sc.names.lookup x=ae .local\/sc.names.lookup x=ae .cell\/sc.names.lookup x=ae .free
def Loc(sc:Scope)(x:Str):Prop:=sc.names.lookup x=ae .local\/sc.names.lookup x=ae .cell
def Look(env:Env)(h:Heap)(m:5e1)(x:Str)(u:Value):Prop:=
 (env.kindOf x=ae .local/\m x=ae u)\/((env.kindOf x=ae .cell\/env.kindOf x=ae .free)/\∃c,env.cells.lookup x=ae c/\h.IsCell c (ae u))
structure Cx.Ok(X:Cx):Prop where
 mod:Mod X.K X.mg X.base
 kind:X.env.scope.kind=.function
 glob:X.env.globals=Xb
 blt:X.env.builtins=builtinsNs
 above:X.s₀.heap.objs.size<=X.env.locals
 inj:∀x y c,X.env.cells.lookup x=ae c->X.env.cells.lookup y=ae c->x=y
 has:∀x,(X.env.kindOf x=ae .cell\/X.env.kindOf x=ae .free)->∃c,X.env.cells.lookup x=ae c
 cab:∀x c,X.fn x=ag->X.env.cells.lookup x=ae c->X.s₀.heap.objs.size<=c
 hd:X.calm=ag->X.A.handled=af
 frames:X.A.frames=ae X.stack
 stk:X.stack=X.outer\/(X.stack=X.env::X.outer/\X.env.frame=ae X.env.locals)
 exf:∀b∈X.ex,b≠X.env.locals/\∀x c,X.env.cells.lookup x=ae c->c≠b
 bs:∀b o,X.base.get? b=ae o->X.s₀.heap.get? b=ae o/\X.H₀ b=af
 J':X.base.objs.size<=X.s₀.heap.objs.size
 sR:∀b o,X.base.get? b=ae o->b∉X.ex
 D0:∀b∈X.ex,b∉X.fs
 k9:X.s₀.heap.FunFrames X.base X.outer
 QE:∀b∈X.fs,X.H₀ b=af
structure Inv(X:Cx)(pins:List (Addr×Obj))(σ:List (Option V))(H:Hp)(s:Shared):Prop where
 ok:X.Ok
 os:s.os=X.s₀.os
 bare:Uc s.gens
 base:Un X.fs X.ex X.H₀ H X.s₀.heap s.heap
 loc:∃m,s.heap.Ns X.env.locals m/\∀(i:Nat)(x:Str)(v:V),X.N[i]? = ae x->σ[i]? = ae (ae v)->Eo X.env.scope x->∃u,RelV v u/\Look X.env s.heap m x u
 cell:∀x c,X.env.cells.lookup x=ae c->∃v,s.heap.IsCell c v
 free:H X.env.locals=af
 iB:∀x c,X.env.cells.lookup x=ae c->H c=af
 pin:∀p∈X.pn++pins,s.heap.get? p.1=ae p.2/\H p.1=af/\p.1≠X.env.locals/\p.1∉X.fs/\∀v,p.2.data≠.cell v
 cR:ke X.prog X.w H s.heap
 len:σ.length=X.N.length
section
variable{X:Cx}{pins:3e2}{σ:List (Option V)}{H H':Hp}{s:Shared}{h':Heap}
theorem Cx.Ok.Veu(ok:X.Ok){o:Obj}(e:X.base.get? b=ae o):b∉X.fs:=λhb=>by
 have:=(ok.k9.mem hb).1;rw[e]at this;cases this
theorem Inv.bs(I:2e3):∀b o,X.base.get? b=ae o->s.heap.get? b=ae o/\H b=af:=λb o e=>
 #[I.base.keep b o (I.ok.bs b o e).1 (I.ok.bs b o e).2 (I.ok.Veu e) (I.ok.sR b o e),I.base.free b o (I.ok.bs b o e).1 (I.ok.bs b o e).2 (I.ok.sR b o e)]
theorem Inv.bk(I:2e3):∀b o,X.base.get? b=ae o->s.heap.get? b=ae o:=λb o e=>(I.bs b o e).1
theorem Inv.mod(I:2e3):Mod X.K X.mg X.base:=I.ok.mod
theorem Inv.jY(I:2e3):X.K.In s.heap:=I.ok.mod.Nb.keeps I.bk
theorem Inv.lt(I:2e3):X.env.locals<s.heap.objs.size:=let#[_,hn,_]:=I.loc;hn.lt
theorem Inv.sz(I:2e3):X.s₀.heap.objs.size<=s.heap.objs.size:=YC I.ok.above (VY I.lt)
theorem Inv.Zu(I:2e3)(h:s.heap.objs.size<=a):a∉X.fs:=λhb=>by
 let#[_,o,ho,_]:=I.ok.k9.mem hb;show absurd (Yr (Ys ho) (YC I.sz h)) (XJ _)
theorem Inv.Oi(I:2e3):∀x c,X.env.cells.lookup x=ae c->c≠X.env.locals:=λx c e z=>by
 let#[v,o,ho,hd]:=I.cell x c e;obtain⟨m,⟨o',es,ep,pK,ED,_⟩,_⟩:=I.loc;rw[z,pK]at ho;cases ho;rw[ED]at hd;cases hd
theorem Inv.k9(I:2e3):s.heap.FunFrames X.base X.outer:=by
 have all:∀(l:List Env),(∀b∈gw l,b∈X.fs)->X.s₀.heap.FunFrames X.base l->s.heap.FunFrames X.base l:=by
  intro l;induction l with
  |nil=>intro _ _;trivial
  |cons env r ih=>
   intro hs hl;obtain⟨hk,⟨L,o,hf,hn,ho,hd⟩,hr⟩:=hl;have hL:L∈X.fs:=hs L (by ext gw;rw[Xq,hf];show Xn);let#[sl,e]:=I.base.slot L o ho (I.ok.QE L hL) hL λz=>I.ok.D0 L z hL;show#[hk,#[L,_,hf,hn,e,hd],ih (λb hb=>hs b (by ext gw;rw[Xq,hf];show YQ _ hb)) hr]
 show all X.outer (λ_ hb=>hb) I.ok.k9
theorem Inv.stack(I:2e3):s.heap.FunFrames X.base X.stack:=by
 rcases I.ok.stk with e|⟨e,hf⟩
 .rw[e];show I.k9
 .rw[e]
  let#[m,hn,_]:=I.loc;show .cons (by rw[I.ok.kind];decide) hf hn ?_ I.k9;show Wf (YC I.ok.J' I.ok.above)
theorem Inv.jU(I:2e3):∀b∈gw X.stack,b∈X.env.locals::X.fs:=λb hb=>by
 rcases I.ok.stk with e|⟨e,hf⟩
 .rw[e]at hb;show YQ _ hb
 .rw[e]at hb
  ext gw hb;rw[Xq,hf]at hb;show hb
theorem Inv.ko(I:2e3):∀b∈gw X.stack,H b=af:=λb hb=>by
 rcases Ye.mp (I.jU b hb)with e|hb
 .rw[e];show I.free
 .let#[_,o,ho,_]:=I.ok.k9.mem hb
  show I.base.free b o ho (I.ok.QE b hb) λz=>I.ok.D0 b z hb
theorem Inv.step{g':Array GenState}{t':Nat}{d':Drawn}(I:2e3)
  (Bp:∀b∈ch,(b∈X.ex\/X.s₀.heap.objs.size<=b)/\b≠X.env.locals/\(∀x c,X.env.cells.lookup x=ae c->c≠b)/\∀p∈X.pn++pins,p.1≠b)
  (keep:∀b o,b≠X.env.locals->b∉X.fs->b∉ch->s.heap.get? b=ae o->H b=af->h'.get? b=ae o)
  (slot:∀b o,b≠X.env.locals->b∈X.fs->b∉ch->s.heap.get? b=ae o->H b=af->∃sl,h'.get? b=ae {o with slots:=sl}) (free:∀b o,b∉ch->s.heap.get? b=ae o->H b=af->H' b=af)
  (there:∀b o,b∉ch->s.heap.get? b=ae o->∃o',h'.get? b=ae o')
  (gp:∀b xs,H b=ae (.tup xs)->H' b=ae (.tup xs)) (gi:∀b o u,H b=ae (.yX o u)->H' b=ae (.yX o u)) (hJ:∀b ps,H b=ae (.OT ps)->∃more,H' b=ae (.OT (ps++more)))
  (ns:∀m,s.heap.Ns X.env.locals m->h'.Ns X.env.locals m) (cR:ke X.prog X.w H' h') (hg:Uc g'):
  Inv X pins σ H' {s with heap:=h',gens:=g',drawn:=d',toks:=t'}:=by
 have neL:∀b o,X.s₀.heap.get? b=ae o->b≠X.env.locals:=λb o e=>YK (Yr (Ys e) I.ok.above);have neC:∀b o,X.s₀.heap.get? b=ae o->b∉X.ex->b∉ch:=λb o e hx hb=>by
  rcases(Bp b hb).1 with z|z
  .show hx z
  .show absurd (Yr (Ys e) z) (XJ _)
 have cellK:∀x c,X.env.cells.lookup x=ae c->∀v,s.heap.IsCell c v->h'.IsCell c v:=λx c e v h_=>by
  let#[o,ho,hd]:=h_;have nch:c∉ch:=λz=>(Bp c z).2.2.1 x c e rfl;by_cases hc:c∈X.fs
  .let#[sl,q]:=slot c o (I.Oi x c e) hc nch ho (I.iB x c e)
   show#[_,q,hd]
  .show#[o,keep c o (I.Oi x c e) hc nch ho (I.iB x c e),hd]
 show#[I.ok,I.os,hg,#[λb o e n hb hx=>?_,λb o e n hb hx=>?_,λb o e n hx=>?_,λb o e hx=>?_,λb xs e=>gp b xs (I.base.gp b xs e),λb o xs e=>gi b o xs (I.base.gi b o xs e),λb ps e=>?_],?_,λx c e=>?_,?_,λx c e=>?_,λp hp=>?_,cR,I.len]
 .show keep b o (neL b o e) hb (neC b o e hx) (I.base.keep b o e n hb hx) (I.base.free b o e n hx)
 .let#[sl,e1]:=I.base.slot b o e n hb hx
  let#[CQ,e2]:=slot b _ (neL b o e) hb (neC b o e hx) e1 (I.base.free b o e n hx);show#[CQ,e2]
 .let#[o',e1]:=I.base.there b o e hx
  show free b o' (neC b o e hx) e1 (I.base.free b o e n hx)
 .let#[o',e1]:=I.base.there b o e hx
  show there b o' (neC b o e hx) e1
 .let#[m1,e1]:=I.base.hJ b ps e
  let#[m2,e2]:=hJ b _ e1;show#[m1++m2,by rw[e2,VX]]
 .let#[m,hn,hl]:=I.loc
  show#[m,ns m hn,λi x v e1 e2 e3=>?_];let#[u,r,l]:=hl i x v e1 e2 e3;show#[u,r,?_];rcases l with l|⟨k,c,e,z⟩
  .show .inl l
  .show .inr #[k,c,e,cellK x c e _ z]
 .let#[v,z]:=I.cell x c e
  show#[v,cellK x c e v z]
 .obtain⟨m,⟨o,_,_,ho,_⟩,_⟩:=I.loc
  show free _ o (λz=>(Bp _ z).2.1 rfl) ho I.free
 .let#[v,o,ho,hd]:=I.cell x c e
  show free c o (λz=>(Bp c z).2.2.1 x c e rfl) ho (I.iB x c e)
 .let#[e,n,ne,nf,d]:=I.pin p hp
  have nch:p.1∉ch:=λz=>(Bp p.1 z).2.2.2 p hp rfl;show#[keep p.1 p.2 ne nf nch e n,free p.1 p.2 nch e n,ne,nf,d]
theorem Inv.un{t':Nat}(I:2e3)(u:Un X.fs [] H H' s.heap h')(cR:ke X.prog X.w H' h'):Inv X pins σ H' {s with heap:=h',toks:=t'}:=by
 obtain⟨m,⟨o,es,ep,ho,r⟩,_⟩:=id I.loc;let#[sl,hL]:=u.any ho I.free 3e7;show I.step (g':=s.gens) (d':=s.drawn) (ch:=[]) (λ_ z=>nomatch z) (λb o _ hb _ e n=>u.keep b o e n hb 3e7) (λb o _ hb _ e n=>u.slot b o e n hb 3e7) (λb o _ e n=>u.free b o e n 3e7) (λb o _ e=>u.there b o e 3e7) u.gp u.gi u.hJ (λm' hm=>by
  let#[o',es',ep',pK,r']:=hm;rw[ho]at pK;cases pK;show#[_,es',ep',hL,r']) cR I.bare
theorem Inv.call{g':Array GenState}{t':Nat}{d':Drawn}(I:2e3)(u:Un (gw X.stack) ch H H' s.heap h')(cR:ke X.prog X.w H' h')(hg:Uc g')
  (Bp:∀b∈ch,(b∈X.ex\/X.s₀.heap.objs.size<=b)/\b≠X.env.locals/\(∀x c,X.env.cells.lookup x=ae c->c≠b)/\∀p∈X.pn++pins,p.1≠b):
  Inv X pins σ H' {s with heap:=h',gens:=g',drawn:=d',toks:=t'}:=by
 obtain⟨m,⟨o,es,ep,ho,r⟩,_⟩:=id I.loc;let#[sl,hL]:=u.any ho I.free λz=>(Bp _ z).2.1 rfl;show I.step (ch:=ch) Bp (λb o hL hb hc e n=>u.keep b o e n (λz=>(Ye.mp (I.jU b z)).elim hL hb) hc) (λb o _ _ hc e n=>u.any e n hc) (λb o hc e n=>u.free b o e n hc) (λb o hc e=>u.there b o e hc) u.gp u.gi u.hJ (λm' hm=>by
  let#[o',es',ep',pK,r']:=hm;rw[ho]at pK;cases pK;show#[_,es',ep',hL,r']) cR hg
theorem Inv.turned{t':Nat}(I:2e3)(k:∀b o,b≠it->s.heap.get? b=ae o->h'.get? b=ae o)(hn:H it=af)(hL:it≠X.env.locals)
  (h1:it∈X.ex\/X.s₀.heap.objs.size<=it) (h2:∀x c,X.env.cells.lookup x=ae c->c≠it) (h3:∀p∈X.pn++pins,p.1≠it):Inv X pins σ H {s with heap:=h',toks:=t'}:=by
 have nit:∀b u,H b=ae u->b≠it:=λb u e z=>by rw[z,hn]at e;cases e
 show I.step (g':=s.gens) (d':=s.drawn) (ch:=[it]) (λb hb=>?_) (λb o _ _ hc e _=>k b o (λz=>hc (by simp[z])) e) (λb o _ _ hc e _=>#[o.slots,k b o (λz=>hc (by simp[z])) e]) (λ_ _ _ _ n=>n)
  (λb o hc e=>#[o,k b o (λz=>hc (by simp[z])) e]) (λ_ _ e=>e) (λ_ _ _ e=>e) (λb ps e=>#[#[],by rw[e];simp]) (λm hm=>?_) (λb u e=>?_) I.bare
 .have e:b=it:=by simpa using hb
  subst e;show#[h1,hL,h2,h3]
 .let#[o,es,ep,ho,r]:=hm
  show#[o,es,ep,k _ o (XD hL) ho,r]
 .show(I.cR b u e).fE (λc v hc q=>k c v ?_ q) (λ_ q=>q) λ_ _ q=>q
  rcases hc with z|z
  .rw[z];show nit b u e
  .show nit c _ z
theorem Inv.tok(I:2e3)(t:Nat):Inv X pins σ H {s with toks:=t}:=I.un (h':=s.heap) (t':=t) Un.refl I.cR
theorem Inv.kept{t':Nat}(I:2e3)(k:∀b u,s.heap.get? b=ae u->h'.get? b=ae u):Inv X pins σ H {s with heap:=h',toks:=t'}:=I.un (Un.kept k) (I.cR.kept k)
theorem Inv.laid{a:Addr}{o:HO}{t':Nat}(I:2e3)(k:∀b u,s.heap.get? b=ae u->h'.get? b=ae u)(hp:s.heap.objs.size<=a)(new:cw X.prog X.w (upd H a o) h' a o):
  Inv X pins σ (upd H a o) {s with heap:=h',toks:=t'}:=I.un (Un.laid k hp (I.cR.fresh hp)) (I.cR.laid k hp new)
theorem Inv.write{x e:Addr}{o:HO}{t':Nat}(I:2e3)(mu:Mut (H x))(he:e=x\/H e=ae (.own x))(k:∀b u,b≠e->s.heap.get? b=ae u->h'.get? b=ae u)(heo:∃u,h'.get? e=ae u)
  (new:cw X.prog X.w (upd H x o) h' x o):Inv X pins σ (upd H x o) {s with heap:=h',toks:=t'}:=I.un (Un.write mu he k heo) (I.cR.write mu he k heo new)
theorem Inv.mw{pins':3e2}(I:2e3)(h:∀p∈pins',s.heap.get? p.1=ae p.2/\H p.1=af/\p.1≠X.env.locals/\p.1∉X.fs/\∀v,p.2.data≠.cell v):Inv X pins' σ H s:=
 #[I.ok,I.os,I.bare,I.base,I.loc,I.cell,I.free,I.iB,λp hp=>(YZ.mp hp).elim (λz=>I.pin p (Xg _ z)) (h p),I.cR,I.len]
theorem nk{N:2e2}(hN:N.Nodup){j:Nat}(a:N[i]? = ae x)(b:N[j]? = ae x):i=j:=by
 let#[h1,e1]:=YJ.mp a;let#[h2,e2]:=YJ.mp b;show(Vz hN).mp (e1.trans e2.symm)
theorem pW{M:Model}{A:Around}{v:V}{Q:14e2}(I:2e3)(hN:X.N.Nodup)(hi:11e7)(hx:Loc X.env.scope x)(r:RelV v u)
  (h:∀s',Inv X pins (σ.set i (ae v)) H s'->(∃a,X5 a s.heap s'.heap/\(a=X.env.locals\/X.env.cells.lookup x=ae a))->Q () s') (hf:6e2:=by first|show .inl rfl|show .inr rfl|assumption):wpAny M A (storeName X.env x u) Q E s:=by
 let#[m,hn,hl]:=id I.loc;have Vac:(X.env.scope.kind==.class||(X.env.scope.kind==.module&&X.env.locals != X.env.globals))=ah:=by rw[I.ok.kind];rfl
 have hiσ:i<σ.length:=by rw[I.len];show(YJ.mp hi).1
 have Oi:=I.Oi;have tracked:∀{a:Addr}{h':Heap},(∃o,s.heap.get? a=ae o/\H a=af)->X5 a s.heap h'->ke X.prog X.w H h':=λ{a h'} ha hs b ob e=>by
  let#[_,_,Qx]:=ha;show(I.cR b ob e).fE (λc w' hc q=>(hs.2 c ?_).trans q) (λ_ q=>q) λ_ _ q=>q;rintro rfl;rcases hc with rfl|hc
  .rw[Qx]at e;cases e
  .rw[Qx]at hc;cases hc
 rcases hx with hk|hk
 .show wpAny_storeName_local hk hn (λh' hn' hs=>?_) Vac
  let#[oL,_,_,hoL,_]:=id hn;show h _ #[I.ok,I.os,I.bare,#[λb o e n hb hx=>?_,λb o e n hb hx=>?_,I.base.free,λb o e hx=>?_,I.base.gp,I.base.gi,I.base.hJ],#[_,hn',λj y v' e1 e2 e3=>?_],λy c e=>?_,I.free,I.iB,λp hp=>?_,tracked #[oL,hoL,I.free] hs,by simpa using I.len] #[_,hs,.inl rfl]
  .show(hs.2 b (YK (Yr (Ys e) I.ok.above))).trans (I.base.keep b o e n hb hx)
  .let#[sl,e1]:=I.base.slot b o e n hb hx
   show#[sl,(hs.2 b (YK (Yr (Ys e) I.ok.above))).trans e1]
  .let#[o',e1]:=I.base.there b o e hx
   show#[o',(hs.2 b (YK (Yr (Ys e) I.ok.above))).trans e1]
  .by_cases hj:j=i
   .subst hj
    rw[hi]at e1;cases e1;rw[Y7 hiσ]at e2;cases e2;show#[u,r,.inl #[hk,by simp]]
   .rw[Y3 (XD hj)]at e2
    let#[u',r',q]:=hl j y v' e1 e2 e3;show#[u',r',?_];rcases q with⟨k,e⟩|⟨k,c,e,z⟩
    .show .inl #[k,?_]
     have:y≠x:=λe=>hj (nk hN e1 (e▸hi));simp[this,e]
    .show .inr #[k,c,e,z.sameBut hs (Oi y c e)]
  .let#[w',z]:=I.cell y c e
   show#[w',z.sameBut hs (Oi y c e)]
  .let#[e,n,ne,nf,d]:=I.pin p hp
   show#[(hs.2 p.1 ne).trans e,n,ne,nf,d]
 .have hfn:X.fn x=ag:=by
   rcases hf with z|z
   .show z
   .rw[z]at hk;cases hk
  let#[c,hc]:=I.ok.has x (.inl hk);let#[w',z]:=I.cell x c hc;show wpAny_storeName_cell I.ok.kind hk hc z (λh' LG hs=>?_);let#[oc,Qv,VeG]:=id z;show h {s with heap:=h'} #[I.ok,I.os,I.bare,#[λb o e n hb hx=>?_,λb o e n hb hx=>?_,I.base.free,λb o e hx=>?_,I.base.gp,I.base.gi,I.base.hJ],#[m,hn.sameBut hs (XD (Oi x c hc)),λj y v' e1 e2 e3=>?_],λy c' e=>?_,I.free,I.iB,λp hp=>?_,tracked #[oc,Qv,I.iB x c hc] hs,by simpa using I.len] #[c,hs,.inr hc]
  .show(hs.2 b (YK (Yr (Ys e) (I.ok.cab x c hfn hc)))).trans (I.base.keep b o e n hb hx)
  .let#[sl,e1]:=I.base.slot b o e n hb hx
   show#[sl,(hs.2 b (YK (Yr (Ys e) (I.ok.cab x c hfn hc)))).trans e1]
  .let#[o',e1]:=I.base.there b o e hx
   show#[o',(hs.2 b (YK (Yr (Ys e) (I.ok.cab x c hfn hc)))).trans e1]
  .by_cases hj:j=i
   .subst hj
    rw[hi]at e1;cases e1;rw[Y7 hiσ]at e2;cases e2;show#[u,r,.inr #[.inl hk,c,hc,LG]]
   .rw[Y3 (XD hj)]at e2
    let#[u',r',q]:=hl j y v' e1 e2 e3;show#[u',r',?_];rcases q with q|⟨k,c',e,z'⟩
    .show .inl q
    .show .inr #[k,c',e,z'.sameBut hs ?_]
     rintro rfl;show hj (nk hN e1 (I.ok.inj _ _ _ e hc▸hi))
  .by_cases hcc:c'=c
   .subst hcc;show#[_,LG]
   .let#[w2,z2]:=I.cell y c' e
    show#[w2,z2.sameBut hs hcc]
  .let#[e,n,ne,nf,d]:=I.pin p hp
   show#[(hs.2 p.1 ?_).trans e,n,ne,nf,d];intro q;rw[q,Qv]at e;have q':oc=p.2:=Yz e;show d w' (by rw[←q'];show VeG)
theorem ZcW{M:Model}{A:Around}{v:V}{Q:14e2}(I:2e3)(hN:X.N.Nodup)(hi:11e7)(hx:Loc X.env.scope x)(r:RelV v u)
  (h:∀s',Inv X pins (σ.set i (ae v)) H s'->Q () s') (hf:6e2:=by first|show .inl rfl|show .inr rfl|assumption):wpAny M A (storeName X.env x u) Q E s:=
 pW I hN hi hx r (λs' I' _=>h s' I') hf
theorem Inv.JZ{s':Shared}(I:2e3)(ho:s'.os=s.os)(u:Un (gw X.stack) ch H H' s.heap s'.heap)(cR:ke X.prog X.w H' s'.heap)(hg:Uc s'.gens)
  (Bp:∀b∈ch,(b∈X.ex\/X.s₀.heap.objs.size<=b)/\b≠X.env.locals/\(∀x c,X.env.cells.lookup x=ae c->c≠b)/\∀p∈X.pn++pins,p.1≠b):Inv X pins σ H' s':=by
 let#[h',g',d',t',o']:=s';have e:o'=s.os:=ho;subst e;show I.call (g':=g') (t':=t') (d':=d') u cR hg Bp
end
abbrev XK:=Value->Option Addr->Hp->Prop
abbrev St:=List (Option V)
abbrev VK:=V->Hp->Prop
abbrev TE:=St->Hp->VK->Prop
abbrev TT:=St->Hp->(Bool->Hp->Prop)->Prop
abbrev TA:=St->Hp->(List V->Hp->Prop)->Prop
structure Ends where
 nx:St->Hp->Prop
 rt:VK
 bk:St->Hp->Prop:=λ_ _=>False
 ct:St->Hp->Prop:=λ_ _=>False
abbrev TS:=Ends->St->Hp->Prop
def EP(X:Cx)(pins:3e2)(σ:St)(Q:VK)(u:Value)(s':Shared):Prop:=∃v H',Inv X pins σ H' s'/\RelV v u/\Q v H'
def TP(X:Cx)(pins:3e2)(σ:St)(Q:Bool->Hp->Prop)(b:Bool)(s':Shared):Prop:=∃H',Inv X pins σ H' s'/\Q b H'
def AP(X:Cx)(pins:3e2)(σ:St)(Q:List V->Hp->Prop)(us:4e4)(s':Shared):Prop:=∃vs H',Inv X pins σ H' s'/\Vals vs us/\Q vs H'
def SP(X:Cx)(pins:3e2)(D:Ends)(f:Flow)(s':Shared):Prop:=
 match f with
 |.next=>∃σ' H',Inv X pins σ' H' s'/\D.nx σ' H'
 |.brk=>∃σ' H',Inv X pins σ' H' s'/\D.bk σ' H'
 |.cont=>∃σ' H',Inv X pins σ' H' s'/\D.ct σ' H'
 |.ret u=>∃v σ' H',Inv X pins σ' H' s'/\RelV v u/\D.rt v H'
def PE(X:Cx)(e:Expr)(t:TE):Prop:=
 ∀(pins:3e2)(s:Shared)(σ:St)(H:Hp)(Q:VK),Inv X pins σ H s->t σ H Q->wpAny 3e0 X.A (eval e X.env) 18e0 X.xe s
def PT(X:Cx)(e:Expr)(t:TT):Prop:=
 ∀(pins:3e2)(s:Shared)(σ:St)(H:Hp)(Q:Bool->Hp->Prop),Inv X pins σ H s->t σ H Q->wpAny 3e0 X.A (isTrue e X.env (eval e X.env)) (TP X pins σ Q) X.xe s
def PW(X:Cx)(e:Expr)(t:TT):Prop:=
 ∀(whole:Sem Value)(pins:3e2)(s:Shared)(σ:St)(H:Hp)(Q:Bool->Hp->Prop),Inv X pins σ H s->t σ H Q->wpAny 3e0 X.A (isTrue e X.env whole) (TP X pins σ Q) X.xe s
theorem PW.pt{X:Cx}{t:TT}(h:PW X e t):PT X e t:=h _
def PA(X:Cx)(es:7e0)(t:TA):Prop:=
 ∀(pos:Pos)(pins:3e2)(s:Shared)(σ:St)(H:Hp)(Q:List V->Hp->Prop),Inv X pins σ H s->t σ H Q->wpAny 3e0 X.A (spliced (backTo pos (Yg es X.env))) (AP X pins σ Q) X.xe s
def PS(X:Cx)(st:Stmt)(t:TS):Prop:=
 ∀(pins:3e2)(s:Shared)(σ:St)(H:Hp)(D:Ends),Inv X pins σ H s->t D σ H->wpAny 3e0 X.A (exec st X.env) (SP X pins D) X.xe s
def i8(X:Cx)(st:List Stmt)(t:TS):Prop:=
 ∀(pins:3e2)(s:Shared)(σ:St)(H:Hp)(D:Ends),Inv X pins σ H s->t D σ H->wpAny 3e0 X.A (execs st X.env) (SP X pins D) X.xe s
theorem dz{t:Sem α}{Q Q':α->Shared->Prop}{M:Model}{A:Around}{s:Shared}(h:wpAny M A t Q E s)(hQ:∀a s,Q a s->Q' a s):wpAny M A t Q' E s:=Xf h hQ λ_ _ x=>x
section
variable{X:Cx}
noncomputable def Sx (i:Nat):TE:=λσ H Q=>∃v,σ[i]? = ae (ae v)/\Q v H
noncomputable def tC (v:V):TE:=λ_ H Q=>Q v H
theorem sJ(hN:11e7)(hv:Eo X.env.scope x)(hd:4e1:=by decide)(me:(x==("__classdict__":Str))=ah:=by decide):PE X (.Name x pos) (Sx i):=by
 sleep 8;let#[v,e,h]:=h;let#[m,hn,hl]:=I.loc;let#[u,r,l]:=hl i x v hN e hv;have fin:EP X pins σ Q u s:=#[v,H,I,r,h]
 rcases l with⟨hk,hm⟩|⟨hk,c,hc,Qy⟩
 .show wpAny_Name (wpAny_loadName_local I.ok.kind hk hn hm fin) hd
 .rcases hk with hk|hk
  .show wpAny_Name (wpAny_loadName_cell I.ok.kind hk hc Qy fin) hd
  .show wpAny_Name (wpAny_loadName_free I.ok.kind hk hc Qy fin me) hd
theorem TL{i j pos}:PE X (.Constant (.int i) j pos) (tC (.int i)):=λ_ _ _ H _ I h=>wpAny_Constant_int #[.int i,H,I.tok _,7e2,h]
theorem Vcl{b j pos}:PE X (.Constant (.bool b) j pos) (tC (.bl b)):=λ_ _ _ H _ I h=>Constant_bool #[.bl b,H,I,rfl,h]
theorem ni{j pos}:PE X (.Constant .none j pos) (tC .aS):=λ_ _ _ H _ I h=>Constant_none #[.aS,H,I,rfl,h]
theorem GQ{x j pos}:PE X (.Constant (.str x) j pos) (tC (.str x)):=λ_ _ _ H _ I h=>Calls.Constant_str #[.str x,H,I.tok _,7e2,h]
def Gl(X:Cx)(x:Str):Prop:=X.env.kindOf x=ae .globalImplicit
theorem mE{s:Shared}{σ:St}{H:Hp}(I:2e3)(hg:Gl X x)(hm:X.mg x=ae u)(h:Q u s)
  (hd:4e1:=by decide):wpAny 3e0 X.A (eval (.Name x pos) X.env) Q E s:=
 VT I.ok.kind hg (Calls.loadGlobal_global (by rw[I.ok.glob];show I.mod.glob.keeps I.bk) hm h) hd
theorem Zdt{s:Shared}{σ:St}{H:Hp}(I:2e3)(hg:Gl X x)(hm:X.mg x=af)(hv:Y0 x=ae u)(h:Q u s)
  (hn:x≠"__name__":=by decide) (hd:4e1:=by decide):wpAny 3e0 X.A (eval (.Name x pos) X.env) Q E s:=by
 let#[mb,h1,h2]:=I.mod.blt;show VT I.ok.kind hg (Calls.loadGlobal_builtin (by rw[I.ok.glob];show I.mod.glob.keeps I.bk) hm (by rw[I.ok.blt];show h1.keeps I.bk) ((h2 x hn).trans hv) h) hd
theorem Zcg{v:V}(hg:Gl X x)(hm:X.mg x=ae u)(r:RelV v u)(hd:4e1:=by decide):PE X (.Name x pos) (tC v):=
 λ_ _ _ H _ I h=>mE I hg hm #[v,H,I,r,h] hd
theorem Ao{v:V}(hg:Gl X x)(hm:X.mg x=af)(hv:Y0 x=ae u)(r:RelV v u)(hn:x≠"__name__":=by decide)(hd:4e1:=by decide):PE X (.Name x pos) (tC v):=
 λ_ _ _ H _ I h=>Zdt I hg hm hv #[v,H,I,r,h] hn hd
variable{a b:Expr}{ta tb:TE}{pos:Pos}
variable{tA tB':TT}{rest:7e0}
noncomputable def Vei (t u:TT):TT:=λσ H Q=>t σ H λc H1=>if c=ag then u σ H1 Q else Q ah H1
noncomputable def tOr (t u:TT):TT:=λσ H Q=>t σ H λc H1=>if c=ag then Q ag H1 else u σ H1 Q
noncomputable def Ved (t:TT):TT:=λσ H Q=>t σ H λc H1=>Q (!c) H1
theorem Mv(ha:PT X a tA):PW X (.BoolOp .And [a] pos) tA:=by
 intro wh pins s σ H Q I h;show isTrue_and (dz (ha pins s σ H Q I h) λc s1 e=>?_);cases c with
 |true=>show isTrue_and_nil e
 |false=>show e
theorem Gz(ha:PT X a tA):PW X (.BoolOp .Or [a] pos) tA:=by
 intro wh pins s σ H Q I h;show isTrue_or (dz (ha pins s σ H Q I h) λc s1 e=>?_);cases c with
 |false=>show isTrue_or_nil e
 |true=>show e
theorem Tx(ha:PT X a tA)(hb:PW X (.BoolOp .And (b::rest) pos) tB'):PW X (.BoolOp .And (a::b::rest) pos) (Vei tA tB'):=by
 intro wh pins s σ H Q I h;show isTrue_and (dz 12e4 λc s1 h_=>?_);let#[H1,I1,q1]:=h_;cases c with
 |true=>show hb wh pins s1 σ H1 Q I1 q1
 |false=>show#[H1,I1,q1]
theorem P1(ha:PT X a tA)(hb:PW X (.BoolOp .Or (b::rest) pos) tB'):PW X (.BoolOp .Or (a::b::rest) pos) (tOr tA tB'):=by
 intro wh pins s σ H Q I h;show isTrue_or (dz 12e4 λc s1 h_=>?_);let#[H1,I1,q1]:=h_;cases c with
 |true=>show#[H1,I1,q1]
 |false=>show hb wh pins s1 σ H1 Q I1 q1
theorem yy(ha:PT X a tA):PT X (.UnaryOp .Not a pos) (Ved tA):=by
 sleep 8;show isTrue_not (ha pins s σ H (λc H1=>Q (!c) H1) I h)
noncomputable def VbS (ta tb:TE):TE:=λσ H Q=>ta σ H λx H1=>∃c,x=.bl c/\if c=ag then tb σ H1 Q else Q 9e3 H1
noncomputable def Vec (ta tb:TE):TE:=λσ H Q=>ta σ H λx H1=>∃c,x=.bl c/\if c=ag then Q 10e8 H1 else tb σ H1 Q
noncomputable def VbL (ta:TE):TE:=λσ H Q=>ta σ H λx H1=>∃c,x=.bl c/\Q (.bl (!c)) H1
theorem TH{op}{t:TE}(h:PE X a t):PE X (.BoolOp op [a] pos) t:=λpins s σ H Q I hw=>BoolOp_one (h pins s σ H Q I hw)
theorem TN(ha:PE X a ta)(hb:PE X (.BoolOp .And (b::rest) pos) tb):PE X (.BoolOp .And (a::b::rest) pos) (VbS ta tb):=by
 sleep 8;show BoolOp_and (dz 12e4 λv s1 h_=>?_);let#[x,H1,I1,r1,q1]:=h_;let#[c,rfl,q1]:=q1;cases r1;show Xs ?_;cases c with
 |true=>show hb pins s1 σ H1 Q I1 q1
 |false=>show#[.bl ah,H1,I1,rfl,q1]
theorem Vci(ha:PE X a ta)(hb:PE X (.BoolOp .Or (b::rest) pos) tb):PE X (.BoolOp .Or (a::b::rest) pos) (Vec ta tb):=by
 sleep 8;show BoolOp_or (dz 12e4 λv s1 h_=>?_);let#[x,H1,I1,r1,q1]:=h_;let#[c,rfl,q1]:=q1;cases r1;show Xs ?_;cases c with
 |false=>show hb pins s1 σ H1 Q I1 q1
 |true=>show#[.bl ag,H1,I1,rfl,q1]
theorem TJ(ha:PE X a ta):PE X (.UnaryOp .Not a pos) (VbL ta):=by
 sleep 8;show UnaryOp_ (dz 12e4 λv s1 h_=>?_);let#[x,H1,I1,r1,q1]:=h_;let#[c,rfl,q1]:=q1;cases r1;show not_of (Xs #[.bl (!c),H1,I1,rfl,q1])
noncomputable def tIf (t:TT)(ta tb:TE):TE:=λσ H Q=>t σ H λc H1=>if c=ag then ta σ H1 Q else tb σ H1 Q
theorem vo{c:Expr}(hc:PT X c tA)(ha:PE X a ta)(hb:PE X b tb):PE X (.IfExp c a b pos) (tIf tA ta tb):=by
 sleep 8;show wpAny_IfExp (dz (hc pins s σ H _ I h) λd s1 h_=>?_);let#[H1,I1,q1]:=h_;cases d with
 |true=>show ha pins s1 σ H1 Q I1 q1
 |false=>show hb pins s1 σ H1 Q I1 q1
end
def gL(K:W.Frag)(H:Hp)(a:Addr)(xs:List V):Prop:=
 Rd H a (.lst xs)\/
  ∃(o:Obj)(ba:Array Value)(n:Nat),K.lookup a=ae o/\o.cls=.type "list"/\o.dict=af/\o.data=.seq ba n/\ba.size<=Yp/\Vals xs ba.toList
def jr(K:W.Frag)(H:Hp)(a:Addr)(xs:List V):Prop:=
 Rd H a (.tup xs)\/
  ∃(o:Obj)(ba:Array Value)(n:Nat),K.lookup a=ae o/\o.cls=.type "tuple"/\o.data=.seq ba n/\ba.size<=Yp/\Vals xs ba.toList
noncomputable def Vfd:Value->Option V
 |.none=>ae .aS
 |.bool b=>ae (.bl b)
 |.int i _=>ae (.int i)
 |.str x _=>ae (.str x)
 |.bytes b _=>ae (.byt b)
 |.float b _=>ae (.flt b)
 |.ref a=>ae (.ref a)
 |.type n=>ae (.ty n)
 |_=>af
theorem RelV.abs{x:V}(r:RelV x u):Vfd u=ae x:=by
 cases x with
 |aS=>cases r;rfl
 |bl _=>cases r;rfl
 |int _=>let#[t,rfl]:=r;rfl
 |str _=>let#[t,rfl]:=r;rfl
 |byt _=>let#[t,rfl]:=r;rfl
 |flt _=>let#[t,rfl]:=r;rfl
 |ref _=>cases r;rfl
 |ty _=>cases r;rfl
theorem RelV.inj{x y:V}{u:Value}(r:RelV x u)(q:RelV y u):x=y:=Yz (r.abs.symm.trans q.abs)
theorem Vals.inj:∀{xs ys:List V}{us:4e4},Vals xs us->Vals ys us->xs=ys
 |_,_,_,.nil,.nil=>rfl
 |_,_,_,.cons r t,.cons r' t'=>by rw[r.inj r',Vals.inj t t']
section
variable{X:Cx}{pins:3e2}{σ:St}{H:Hp}{s:Shared}{a:Addr}{xs ys:List V}
theorem gL.of(h:H a=ae (.lst xs)):gL K H a xs:=.inl (.inl h)
theorem jr.of(h:H a=ae (.tup xs)):jr K H a xs:=.inl (.inl h)
theorem Inv.list(I:2e3)(h:gL X.K H a xs):∃ba:List Value,Vals xs ba/\PlainL s.heap a ba.toArray/\xs.length<=sizeLine:=by
 rcases h with h|⟨o,ba,n,hk,hc,hd,hs,hz,r⟩
 .let#[z,ba,n,r,e]:=h.ok I.cR
  show#[ba,r,#[_,n,e,rfl,rfl,rfl],z]
 .show#[ba.toList,r,#[o,n,I.jY a o hk,hc,hd,by simpa using hs],?_]
  have e:=r.length
  erw[YO]at e
  lia
theorem Inv.tuple(I:2e3)(h:jr X.K H a xs):∃ba:List Value,Vals xs ba/\IsTup s.heap a ba.toArray/\xs.length<=sizeLine:=by
 rcases h with h|⟨o,ba,n,hk,hc,hs,hz,r⟩
 .let#[z,ba,r,p]:=h.ok I.cR
  show#[ba,r,p,z]
 .show#[ba.toList,r,#[o,I.jY a o hk,hc,n,by simpa using hs],?_]
  have e:=r.length
  erw[YO]at e
  lia
theorem Inv.nG(I:2e3)(h:gL X.K H a xs)(h':gL X.K H a ys):xs=ys:=by
 obtain⟨ba,r,⟨o,n,e,_,_,d⟩,_⟩:=I.list h;obtain⟨its',r',⟨o',n',e',_,_,d'⟩,_⟩:=I.list h';rw[e]at e';cases e';rw[d]at d';injection d' with d1 _;have:ba=its':=by simpa using congrArg Array.toList d1
 subst this;show r.inj r'
theorem Inv.pU(I:2e3)(h:jr X.K H a xs)(h':jr X.K H a ys):xs=ys:=by
 obtain⟨ba,r,⟨o,e,_,n,d⟩,_⟩:=I.tuple h;obtain⟨its',r',⟨o',e',_,n',d'⟩,_⟩:=I.tuple h';rw[e]at e';cases e';rw[d]at d';injection d' with d1 _;have:ba=its':=by simpa using congrArg Array.toList d1
 subst this;show r.inj r'
end
noncomputable abbrev Cx.gc (X:Cx)(E:2e9):Cx:={X with xe:=E}
abbrev Cx.Ey(X:Cx):Cx:=X.gc λ_ _=>False
theorem Cx.Ok.gc{X:Cx}(ok:X.Ok)(E:2e9):(X.gc E).Ok:=
 #[ok.mod,ok.kind,ok.glob,ok.blt,ok.above,ok.inj,ok.has,ok.cab,ok.hd,ok.frames,ok.stk,ok.exf,ok.bs,ok.J',ok.sR,ok.D0,ok.k9,ok.QE]
theorem Cx.Ok.dM{X:Cx}(ok:(X.gc E).Ok):X.Ok:=
 #[ok.mod,ok.kind,ok.glob,ok.blt,ok.above,ok.inj,ok.has,ok.cab,ok.hd,ok.frames,ok.stk,ok.exf,ok.bs,ok.J',ok.sR,ok.D0,ok.k9,ok.QE]
section
variable{X:Cx}{pins:3e2}{σ:St}{H:Hp}{s:Shared}{E:2e9}
theorem Inv.gc(I:2e3)(E:2e9):Inv (X.gc E) pins σ H s:=#[I.ok.gc E,I.os,I.bare,I.base,I.loc,I.cell,I.free,I.iB,I.pin,I.cR,I.len]
theorem Inv.dM(I:Inv (X.gc E) pins σ H s):Inv X pins σ H s:=#[I.ok.dM,I.os,I.bare,I.base,I.loc,I.cell,I.free,I.iB,I.pin,I.cR,I.len]
theorem SP.dM{D:Ends}{f:Flow}{s':Shared}(h:SP (X.gc E) pins D f s'):SP X pins D f s':=by
 cases f with
 |next=>let#[σ',H',I,q]:=h;show#[σ',H',I.dM,q]
 |brk=>let#[σ',H',I,q]:=h;show#[σ',H',I.dM,q]
 |cont=>let#[σ',H',I,q]:=h;show#[σ',H',I.dM,q]
 |ret u=>let#[v,σ',H',I,r,q]:=h;show#[v,σ',H',I.dM,r,q]
theorem PE.Ey{t:TE}(h:PE X.Ey e t):PE X e t:=λpins s σ H Q I hw=>
 Xf (h pins s σ H Q (I.gc _) hw) (λ_ _ #[v,H',I',r,q]=>#[v,H',I'.dM,r,q]) λ_ _ z=>Xu z
theorem i8.Ey{st:List Stmt}{t:TS}(h:i8 X.Ey st t):i8 X st t:=λpins s σ H D I hw=>
 Xf (h pins s σ H D (I.gc _) hw) (λ_ _ q=>q.dM) λ_ _ z=>Xu z
end
section
variable{X:Cx}{st:Stmt}{rest:List Stmt}{t u:TS}{e:Expr}{te:TE}{pos:Pos}
noncomputable def VbM:TS:=λD σ H=>D.nx σ H
noncomputable def Vea (t u:TS):TS:=λD σ H=>t {D with nx:=u D} σ H
theorem mr:i8 X [] VbM:=λ_ _ σ H _ I h=>WJ #[σ,H,I,h]
theorem KJ(h1:PS X st t)(h2:i8 X rest u):i8 X (st::rest) (Vea t u):=by
 intro pins s σ H D I h;show W1 (dz (h1 pins s σ H {D with nx:=u D} I h) λf s1 q=>?_);cases f with
 |next=>
  let#[σ',H',I',q]:=q;show h2 pins s1 σ' H' D I' q
 |ret v=>show q
 |brk=>show q
 |cont=>show q
theorem sF(h1:PS X st t):i8 X [st] t:=by
 intro pins s σ H D I h;show W1 (dz (h1 pins s σ H D I h) λf s1 q=>?_);cases f with
 |next=>show WJ q
 |ret v=>show q
 |brk=>show q
 |cont=>show q
theorem Inv.quiet{σ:St}{H:Hp}{s:Shared}(I:2e3):interactive X.env=ah:=by simp[interactive,I.ok.kind]
noncomputable def VbO (te:TE):TS:=λD σ H=>te σ H λ_ H1=>D.nx σ H1
theorem Al(he:PE X e te)(hs:Xv e af pos.line X.env=pure ah:=by rfl):PS X (.Expr e pos) (VbO te):=by
 intro pins s σ H D I h;show wpAny_Expr_any (dz (he pins s σ H _ I h) λv s1 #[x,H1,I1,r1,q1]=>#[σ,H1,I1,q1]) I.quiet hs
noncomputable def Veb (te:TE):TS:=λD σ H=>te σ H D.rt
theorem sH(he:PE X e te):PS X (.Return (ae e) pos) (Veb te):=by
 intro pins s σ H D I h;show wpAny_Return_some (dz (he pins s σ H _ I h) λv s1 #[x,H1,I1,r1,q1]=>#[x,σ,H1,I1,r1,q1])
noncomputable def Veh (c:TT)(t u:TS):TS:=λD σ H=>c σ H λb H1=>if b=ag then t D σ H1 else u D σ H1
theorem qk{c:Expr}{a b:List Stmt}{tc:TT}(hc:PT X c tc)(ha:i8 X a t)(hb:i8 X b u):PS X (.If c a b pos) (Veh tc t u):=by
 intro pins s σ H D I h;show wpAny_If (dz (hc pins s σ H _ I h) λd s1 h_=>?_);let#[H1,I1,q1]:=h_;cases d with
 |true=>show ha pins s1 σ H1 D I1 q1
 |false=>show hb pins s1 σ H1 D I1 q1
noncomputable def Sy:TS:=λ_ _ _=>False
theorem Zbt{lC:List Stmt}:i8 X lC Sy:=λ_ _ _ _ _ _ h=>h.elim
end
abbrev TG:=V->St->Hp->(St->Hp->Prop)->Prop
abbrev KS:=List V->St->Hp->(St->Hp->Prop)->Prop
def PG(X:Cx)(target:Expr)(t:TG):Prop:=
 ∀(pins:3e2)(s:Shared)(σ:St)(H:Hp)(v:V)(u:Value)(Q:St->Hp->Prop),Inv X pins σ H s->RelV v u->t v σ H Q->
  wpAny 3e0 X.A (assign target X.env u) (λ_ s'=>∃σ' H',Inv X pins σ' H' s'/\Q σ' H') X.xe s
def KY(X:Cx)(ts:7e0)(t:KS):Prop:=
 ∀(pins:3e2)(s:Shared)(σ:St)(H:Hp)(vs:List V)(us:4e4)(Q:St->Hp->Prop),Inv X pins σ H s->Vals vs us->t vs σ H Q->
  wpAny 3e0 X.A (assignInOrder ((Y1 ts X.env).map (·.2)) us) (λ_ s'=>∃σ' H',Inv X pins σ' H' s'/\Q σ' H') X.xe s
abbrev Vbm:=V->V->V->Hp->(Hp->Prop)->Prop
def Vdk(X:Cx)(t:Vbm):Prop:=
 ∀(pins:3e2)(s:Shared)(σ:St)(H:Hp)(o i v:V)(ov iv u:Value)(Q:Hp->Prop),Inv X pins σ H s->RelV o ov->RelV i iv->RelV v u->t o i v H Q->
  wpAny 3e0 X.A (setItem ov iv u) (λ_ s'=>∃H',Inv X pins σ H' s'/\Q H') X.xe s
section
variable{X:Cx}{pos:Pos}
noncomputable def QC (i:Nat):TG:=λv σ H Q=>Q (σ.set i (ae v)) H
theorem MI(hN:X.N.Nodup)(hi:11e7)(hx:Loc X.env.scope x)(hf:6e2:=by first|show .inl rfl|show .inr rfl|assumption):PG X (.Name x pos) (QC i):=by
 intro pins s σ H v u Q I r h;show wpAny_assign_Name (ZcW I hN hi hx r (λs' I'=>#[_,H,I',h]) hf)
noncomputable def Ve7:KS:=λvs σ H Q=>vs=[]/\Q σ H
noncomputable def VcX (t:TG)(u:KS):KS:=λvs σ H Q=>∃v r,vs=v::r/\t v σ H λσ' H'=>u r σ' H' Q
theorem Am:KY X [] Ve7:=by
 intro pins s σ H vs us Q I r h;let#[e,h]:=h;subst e;cases r;show assignInOrder_nil #[σ,H,I,h]
theorem m9{t:TG}{u:KS}(h1:PG X e t)(h2:KY X es u)
  (hs:(Y1 4e8 X.env).map (·.2)=assign e X.env::(Y1 es X.env).map (·.2):=by rfl):KY X 4e8 (VcX t u):=by
 intro pins s σ H vs us Q I r h;let#[v,vr,e1,h]:=h;subst e1;cases r with
 |cons r rr=>
  rw[hs];show assignInOrder_cons (dz (h1 pins s σ H _ _ _ I r h) λ_ s1 h_=>?_);let#[σ1,H1,I1,q1]:=h_;show h2 pins s1 σ1 H1 _ _ Q I1 rr q1
noncomputable def Ve6 (K:W.Frag)(n:Nat)(t:KS):TG:=λv σ H Q=>∃a xs,v=.ref a/\jr K H a xs/\xs.length=n/\t xs σ H Q
theorem GO{k:Nat}{t:KS}(hc:12e0)(h:KY X es t)
  (hn:(Y1 es X.env).length=n:=by rfl) (jk:(Y1 es X.env).findIdx? (·.1)=af:=by rfl):PG X (.Tuple es k pos) (Ve6 X.K n t):=by
 intro pins s σ H v u Q I r hw;let#[a,xs,e1,hq,hl,hw]:=hw;subst e1;cases r;let#[ba,rv,ht,hz]:=I.tuple hq;show assign_Tuple_tuple (I.ok.hd hc) ht (by simp[hn,←hl,rv.length]) jk λh' hx=>?_;have I1:Inv X pins σ H {s with heap:=h'}:=I.kept (t':=s.toks) λb o e=>hx b o (YK (Ys e)) e;show h pins _ σ H xs _ Q I1 (by simpa using rv) hw
noncomputable def VcW (to ti:TE)(t:Vbm):TG:=λv σ H Q=>to σ H λo H1=>ti σ H1 λi H2=>t o i v H2 λH3=>Q σ H3
theorem yA{o i:Expr}{to ti:TE}{t:Vbm}(ho:PE X o to)(hi:PE X i ti)(hs:Vdk X t)
  (ha:∀v,assign (.Subscript o i pos) X.env v=(do
   let ov ←Vo [v] (eval o X.env)
   let iv ←Vo [v,ov] (eval i X.env)
   UN pos
   Vo [v,ov,iv] (setItem ov iv v)
   release [v,ov,iv] []):=by intro _;rfl):PG X (.Subscript o i pos) (VcW to ti t):=by
 intro pins s σ H v u Q I r h;rw[ha];show Yb (Xc (dz (ho pins s σ H _ I h) λov s1 h_=>?_));let#[x,H1,I1,r1,q1]:=h_;show Yb (Xc (dz (hi pins s1 σ H1 _ I1 q1) λiv s2 h_=>?_));let#[y,H2,I2,r2,q2]:=h_;show Yb (WQ (Yb (Xc (dz (hs pins s2 σ H2 x y v ov iv u _ I2 r1 r2 r q2) λ_ s3 h_=>?_))));let#[H3,I3,q3]:=h_;show wpAny_release #[σ,H3,I3,q3]
noncomputable def VbR (te:TE)(g:TG):TS:=λD σ H=>te σ H λx H1=>g x σ H1 D.nx
theorem sI{te:TE}{g:TG}(he:PE X e te)(hg:PG X tg g)(hs:VG [tg] e pos.line X.env=pure ah:=by rfl)(hw:VH [tg] e X.env=pure af:=by rfl)
  (h1:(Y1 [tg] X.env).map (·.2)=[assign tg X.env]:=by rfl):PS X (.Assign [tg] e pos) (VbR te g):=by
 intro pins s σ H D I h;show wpAny_Assign_stores (dz (he pins s σ H _ I h) λv s1 #[x,H1,I1,r1,q1]=>?_) hs hw;rw[h1];show dz (hg pins s1 σ H1 x v _ I1 r1 q1) λ_ s2 q=>q
theorem ZdU{te:TE}{pos':Pos}(hN:X.N.Nodup)(hi:11e7)(hx:Loc X.env.scope x)(he:PE X e te)(hs:13e6:=by rfl)(hf:6e2:=by first|show .inl rfl|show .inr rfl|assumption):
  PS X (.Assign [.Name x pos'] e pos) (VbR te (QC i)):=by
 intro pins s σ H D I h;show V6 (dz (he pins s σ H _ I h) λv s1 #[y,H1,I1,r1,q1]=>?_) hs;show ZcW I1 hN hi hx r1 (λs2 I2=>#[_,H1,I2,q1]) hf
end
structure It where
 go:Nat->Hp->Prop
 Lo:Nat->Hp->V->Hp->Prop
 stop:Nat->Hp->Prop
def jE(X:Cx)(pins:3e2)(H:Hp)(b:Addr):Prop:=
 H b=af/\b≠X.env.locals/\b∉X.fs/\(b∈X.ex\/X.s₀.heap.objs.size<=b)/\(∀x c,X.env.cells.lookup x=ae c->c≠b)/\∀p∈X.pn++pins,p.1≠b
theorem Inv.NI{X:Cx}{σ:St}{H H':Hp}{s:Shared}(I:2e3)(hb:s.heap.objs.size<=b)(hn:H' b=af):jE X pins H' b:=by
 show#[hn,Wr (Yr I.lt hb),I.Zu hb,.inr (YC I.sz hb),λx c e z=>?_,λp hp z=>?_]
 .let#[v,q]:=I.cell x c e
  show absurd (Yr q.lt (by rw[z];show hb)) (XJ _)
 .show absurd (Yr (Ys (I.pin p hp).1) (by rw[z];show hb)) (XJ _)
structure Turn(P:Yy)(w:World)(K:W.Frag)(tg:Expr)(J:It)(fp:List Addr)(it:Addr)(tn:Nat->Heap->Prop):Prop where
 mem:it∈fp
 obj:∀i h,tn i h->∀b∈fp,∃o,h.get? b=ae o/\∀v,o.data≠.cell v
 keep:∀i h h',tn i h->(∀b∈fp,∀o,h.get? b=ae o->h'.get? b=ae o)->tn i h'
 item:∀(X:Cx),X.prog=P->X.w=w->X.K=K->X.calm=ag->∀(i:Nat)(pins:3e2)(s:Shared)(σ:St)(H:Hp)(E:2e9),Inv X pins σ H s->(∀b∈fp,jE X pins H b)->tn i s.heap->J.go i H->
  wpAny (model P w) X.A (pyNext (.ref it)) (λr s1=>∃u,r=ae u/\
   wpAny (model P w) X.A (Va tg (.ref it) u) (λ_ s2=>∃x H',Inv X pins σ H' s2/\RelV x u/\J.Lo i H x H'/\tn (i+1) s2.heap/\∀b∈fp,H' b=af) E s1) E s
 done:∀(X:Cx),X.prog=P->X.w=w->X.K=K->X.calm=ag->∀(i:Nat)(pins:3e2)(s:Shared)(σ:St)(H:Hp)(E:2e9),Inv X pins σ H s->(∀b∈fp,jE X pins H b)->tn i s.heap->J.stop i H->
  wpAny (model P w) X.A (pyNext (.ref it)) (λr s1=>r=af/\Inv X pins σ H s1) E s
 self:∀(A:Around)(i:Nat)(s:Shared)(Q:2e9)(E:2e9),tn i s.heap->Q (.ref it) s->wpAny (model P w) A (pyIter (.ref it)) Q E s
abbrev TI:=St->Hp->(It->Hp->Prop)->Prop
def PIE(X:Cx)(pins:3e2)(σ:St)(tg:Expr)(R:It->Hp->Prop)(itv:Value)(s2:Shared):Prop:=
 ∃(it:Addr)(fp:6e8)(tn:Nat->Heap->Prop)(J:It)(H':Hp),itv=.ref it/\Inv X pins σ H' s2/\Turn X.prog X.w X.K tg J fp it tn/\tn 0 s2.heap/\(∀b∈fp,jE X pins H' b)/\R J H'
def PI(X:Cx)(tg iter:Expr)(wi:TI):Prop:=
 ∀(pins:3e2)(s:Shared)(σ:St)(H:Hp)(R:It->Hp->Prop),Inv X pins σ H s->wi σ H R->
  wpAny 3e0 X.A (eval iter X.env) (λv s1=>wpAny 3e0 X.A (pyIter v) (PIE X pins σ tg R) X.xe s1) X.xe s
theorem Bt{M:Model}{A:Around}{s:Shared}{o:Obj}{n:String}{vs:Array Value}{Q:14e2}(ho:s.heap.get? it=ae o)(hc:o.cls=.type n)(hd:o.data=.fields vs)
    (hn:["enumerate","zip","dict_itemiterator","dict_reverseitemiterator","odict_iterator","itertools.zip_longest","itertools.pairwise"].contains n=ah) (hQ:Q () s):wpAny M A (Va tg (.ref it) u) Q E s:=by
  ext Va;cases tg<;>first
    |show Yh hQ
    | (cases u<;>first
        |show Yh hQ
        | (show Yb (wpAny_load ho ?_)
           rw[hc,hd];change wpAny M A (if(["enumerate","zip","dict_itemiterator","dict_reverseitemiterator","odict_iterator","itertools.zip_longest","itertools.pairwise"].contains n&&vs[0]?==ae (rawInt _))=ag then _ else _) Q E s;rw[aI (by intro h;rw[hn,Bool.false_and]at h;cases h)];show Yh hQ))
noncomputable def Itl (K:W.Frag)(a:Addr):It:=
 ⟨λi H=>∃xs x,gL K H a xs/\xs[i]? = ae x,λi H x H'=>H'=H/\∀xs,gL K H a xs->xs[i]? = ae x,λi H=>∃xs,gL K H a xs/\xs.length<=i⟩
noncomputable def Itt (K:W.Frag)(a:Addr):It:=
 ⟨λi H=>∃xs x,jr K H a xs/\xs[i]? = ae x,λi H x H'=>H'=H/\∀xs,jr K H a xs->xs[i]? = ae x,λi H=>∃xs,jr K H a xs/\xs.length<=i⟩
noncomputable def Itr (lo:Int)(n:Nat):It:=#[λi _=>i<n,λi H x H'=>H'=H/\x=.int (lo+i),λi _=>n<=i]
theorem CG{P:Yy}(a it:Addr):Turn P w K tg (Itl K a) [it] it (λi h=>h.IsListIter it a i) where
 mem:=by simp
 obj:=λi h st b hb=>by
  have e:b=it:=by simpa using hb
  subst e;let#[o,e,c,d]:=st;show#[o,e,λv z=>by rw[d]at z;cases z]
 keep:=λi h h' st k=>st.at λo e=>k it 3e7 o e
 item:=by
  sleep 2;let#[xs,x,hq,hx]:=hg;let#[ba,rv,p,hz]:=I.list hq;let#[u,hu,ru]:=rv.get hx;sleep 12;show wpAny_pyNext_list_item st p.isList (x:=u) (by simpa using hu) λh' pX sb=>?_;have I1:Inv X pins σ H {s with heap:=h'}:=I.turned (t':=s.toks) (λb o hb e=>(sb.2 b hb).trans e) f0 f1 f3 f4 f5;let#[o,e,c,d]:=id pX;show#[u,rfl,Bt (s:={s with heap:=h'}) e c d (by decide) #[x,H,I1,ru,#[rfl,λys hy=>by rw[I.nG hy hq];show hx],pX,λb hb=>(hf b hb).1]]
 done:=by
  sleep 2;let#[xs,hq,hx]:=hg;let#[ba,rv,p,hz]:=I.list hq;sleep 12;have hl:=rv.length;show wpAny_pyNext_list_end (I.ok.hd hc) st p.isList 14e9 λh' eb=>#[rfl,I.turned (t':=s.toks) (λb o hb e=>eb b o hb e) f0 f1 f3 f4 f5]
 self:=λ_ _ _ _ _ st h=>wpAny_pyIter_listiter st h
theorem xS{P:Yy}(a it:Addr):Turn P w K tg (Itt K a) [it] it (λi h=>h.IsTupleIter it a i) where
 mem:=by simp
 obj:=λi h st b hb=>by
  have e:b=it:=by simpa using hb
  subst e;let#[o,e,c,d]:=st;show#[o,e,λv z=>by rw[d]at z;cases z]
 keep:=λi h h' st k=>st.at λo e=>k it 3e7 o e
 item:=by
  sleep 2;let#[xs,x,hq,hx]:=hg;let#[ba,rv,p,hz]:=I.tuple hq;let#[u,hu,ru]:=rv.get hx;sleep 12;show wpAny_pyNext_tuple_item st (show s.heap.IsTuple a ba.toArray from p) (x:=u) (by simpa using hu) λh' pX sb=>?_;have I1:Inv X pins σ H {s with heap:=h'}:=I.turned (t':=s.toks) (λb o hb e=>(sb.2 b hb).trans e) f0 f1 f3 f4 f5;let#[o,e,c,d]:=id pX;show#[u,rfl,Bt (s:={s with heap:=h'}) e c d (by decide) #[x,H,I1,ru,#[rfl,λys hy=>by rw[I.pU hy hq];show hx],pX,λb hb=>(hf b hb).1]]
 done:=by
  sleep 2;let#[xs,hq,hx]:=hg;let#[ba,rv,p,hz]:=I.tuple hq;sleep 12;have hl:=rv.length;show wpAny_pyNext_tuple_end (I.ok.hd hc) st (show s.heap.IsTuple a ba.toArray from p) 14e9 λh' eb=>#[rfl,I.turned (t':=s.toks) (λb o hb e=>eb b o hb e) f0 f1 f3 f4 f5]
 self:=λ_ _ _ _ _ st h=>wpAny_pyIter_tupleiter st h
theorem xT{P:Yy}(it:Addr)(lo:Int)(n:Nat):Turn P w K tg (Itr lo n) [it] it (λi h=>IsRangeIter h it (lo+(i:Nat)*1) ((n:Int)-(i:Nat)) 1) where
 mem:=by simp
 obj:=λi h st b hb=>by
  have e:b=it:=by simpa using hb
  subst e;show#[_,st,λv z=>by
   have z':Data.fields _=Data.cell v:=z;cases z']
 keep:=λi h h' st k=>k it 3e7 _ st
 item:=by
  sleep 2;sleep 12;have W:=Walks.range (prog:=X.prog) (w:=X.w) (I.ok.hd hc) it lo 1 n;show W.item i s _ _ hg st λv h' tk hv pX kk=>?_;let#[t,rfl]:=hv;have I1:Inv X pins σ H {s with heap:=h',toks:=tk}:=I.turned (λb o hb e=>kk b o (by simpa using hb) e) f0 f1 f3 f4 f5;show#[_,rfl,Bt (s:={s with heap:=h',toks:=tk}) (n:="range_iterator") pX rfl rfl (by decide) #[.int (lo+i),H,I1,#[t,?_],#[rfl,rfl],pX,λb hb=>(hf b hb).1]];rw[Int.mul_one]
 done:=by
  sleep 2;sleep 12;show wpAny_pyNext_range_end (I.ok.hd hc) st (by have:n<=i:=hg;lia) λh' eb=>#[rfl,I.turned (t':=s.toks) (λb o hb e=>eb b o hb e) f0 f1 f3 f4 f5]
 self:=λ_ _ _ _ _ st h=>wpAny_pyIter_rangeiter st h
section
variable{X:Cx}{tg:Expr}
theorem vg{σ:St}{H:Hp}{s:Shared}{R:It->Hp->Prop}{lo hi:Int}{t u v:Tok}{tk:Nat}(I:2e3)(h1:-(2^62)<=lo)(h2:lo<2^62)(h3:-(2^62)<=hi)(h4:hi<2^62)
  (q:R (Itr lo (hi-lo).toNat) H):wpAny 3e0 X.A (pyIter (.ref s.heap.objs.size)) (PIE X pins σ tg R) E {s with heap:=s.heap.push {cls:=.type "range",data:=.fields [.int lo t,.int hi u,.int 1 v].toArray},toks:=tk}:=by
 show wpAny_pyIter_range (IsRange.new ..) (small_one h1 h2 h3 h4) ?_;have I1:Inv X pins σ H {s with heap:=s.heap.push {cls:=.type "range",data:=.fields [.int lo t,.int hi u,.int 1 v].toArray},toks:=tk}:=I.kept λb o e=>Yc _ e;show#[(s.heap.push {cls:=.type "range",data:=.fields [.int lo t,.int hi u,.int 1 v].toArray}).objs.size,[(s.heap.push {cls:=.type "range",data:=.fields [.int lo t,.int hi u,.int 1 v].toArray}).objs.size],_,_,H,rfl,
  I1.kept (t':=tk) λb o e=>Yc _ e,xT _ lo (hi-lo).toNat,?_,λb hb=>?_,q]
 .have e1:lo+((0:Nat):Int)*1=lo:=by simp
  have e2:(((hi-lo).toNat:Nat):Int)-((0:Nat):Int)=Builtin.Range.rangeSize lo hi 1:=by rw[rangeSize_one];split<;>lia
  change IsRangeIter _ _ (lo+((0:Nat):Int)*1) ((((hi-lo).toNat:Nat):Int)-((0:Nat):Int)) 1;rw[e1,e2];show Yn _ rfl
 .have e:b=(s.heap.push {cls:=.type "range",data:=.fields [.int lo t,.int hi u,.int 1 v].toArray}).objs.size:=by simpa using hb
  subst e;show I1.NI (Yo _) (I1.cR.fresh (Yo _))
def VcG(ta:TA):TI:=λσ H R=>ta σ H λvs H1=>∃j:Int,vs=[.int j]/\-(2^62)<=j/\j<2^62/\R (Itr 0 j.toNat) H1
def VcF(ta:TA):TI:=λσ H R=>ta σ H λvs H1=>∃i j:Int,vs=[.int i,.int j]/\(-(2^62)<=i/\i<2^62/\-(2^62)<=j/\j<2^62)/\R (Itr i (j-i).toNat) H1
theorem Dp{a:Expr}{ta:TA}{p:Pos}(hg:Gl X "range")(hm:X.mg "range"=af)(ha:PA X [a] ta)(hs:Yg [a] X.env=[(ah,eval a X.env)]:=by rfl):PI X tg (.Call (.Name "range" p) [a] [] pos) (VcG ta):=by
 intro pins s σ H R I h;show Call_ (Zdt I hg hm boot_range (Xy (dz (ha pos pins s σ H _ I h) λus s1 #[vs,H1,I1,r1,q1]=>?_) hs rfl));let#[j,e,q1,q2,q]:=q1;subst e;cases r1 with
 |cons r rr=>
  cases rr;let#[t,rfl]:=r;show call_range_1 (vg I1 3e5 3e5 q1 q2 (by simpa using q))
theorem Dn{a b:Expr}{ta:TA}{p:Pos}(hg:Gl X "range")(hm:X.mg "range"=af)(ha:PA X [a,b] ta)(hs:Yg [a,b] X.env=[(ah,eval a X.env),(ah,eval b X.env)]:=by rfl)(pJ:Yg [b] X.env=[(ah,eval b X.env)]:=by rfl):
  PI X tg (.Call (.Name "range" p) [a,b] [] pos) (VcF ta):=by
 intro pins s σ H R I h;show Call_ (Zdt I hg hm boot_range (Xy (dz (ha pos pins s σ H _ I h) λus s1 #[vs,H1,I1,r1,q1]=>?_) (by rw[hs,pJ]) (by rw[pJ];rfl)));obtain⟨i,j,e,⟨q1,q2,q3,q4⟩,q⟩:=q1;subst e;cases r1 with
 |cons r rr=>
  cases rr with
  |cons r' rr=>
   cases rr;let#[t,rfl]:=r;let#[t',rfl]:=r';show call_range_2 (vg I1 q1 q2 q3 q4 q)
noncomputable def VbN (wi:TI)(g:TG)(tb:TS):TS:=λD σ H=>wi σ H λJ H1=>∃W:Nat->Nat->St->Hp->Prop,(∃m,W 0 m σ H1)/\∀i m σ H,W i m σ H->
 (J.stop i H/\D.nx σ H)\/(J.go i H/\∃N:St->Hp->Prop,(∀σ' H',N σ' H'->∃m',m'<m/\W (i+1) m' σ' H')/\∀x H',J.Lo i H x H'->g x σ H' λσ2 H2=>tb {D with nx:=N,ct:=N,bk:=D.nx} σ2 H2)
noncomputable def mZ (fp:6e8)(h:Heap):List (Addr×Obj):=fp.filterMap λb=>(h.get? b).map λo=>(b,o)
theorem Zb5{o:Obj}(hb:b∈fp)(e:h.get? b=ae o):(b,o)∈mZ fp h:=VZ.mpr #[b,hb,by rw[e];rfl]
theorem Dv{p:Addr×Obj}(hp:p∈mZ fp h):p.1∈fp/\h.get? p.1=ae p.2:=by
 let#[b,hb,e]:=VZ.mp hp;cases q:h.get? b with
 |none=>rw[q]at e;cases e
 |some o=>
  rw[q]at e;have e':(b,o)=p:=Yz e;subst e';show#[hb,q]
theorem Inv.pinned{σ:St}{H:Hp}{s:Shared}(I:2e3)(hf:∀b∈fp,jE X pins H b)(ho:∀b∈fp,∃o,s.heap.get? b=ae o/\∀v,o.data≠.cell v):Inv X (pins++mZ fp s.heap) σ H s:=
 I.mw λp hp=>(YZ.mp hp).elim (λz=>I.pin p (YM _ z)) λz=>by
  let#[hb,e]:=Dv z;let#[f0,f1,f2,_]:=hf p.1 hb;let#[o,e',d]:=ho p.1 hb;rw[e]at e';cases e';show#[e,f0,f1,f2,d]
theorem Inv.kj{pl:3e2}{σ:St}{H:Hp}{s:Shared}(I:Inv X (pins++pl) σ H s):Inv X pins σ H s:=I.mw λp hp=>I.pin p (YM _ (Xg _ hp))
theorem GF{iter:Expr}{body:List Stmt}{wi:TI}{g:TG}{tb:TS}(hp:PassesOwn 3e0 X.A X.env X.xe)(hc:12e0)(hi:PI X tg iter wi)(hg:PG X tg g)(hb:i8 X body tb)
  (hs:15e4:=by intro _;rfl):PS X (.For tg iter body [] pos) (VbN wi g tb):=by
 intro pins s σ H D I h;show wpAny_For (dz (hi pins s σ H _ I h) λv s1 h1=>dz h1 λitv s2 h2=>?_) hs;obtain⟨it,fp,tn,J,H2,e,I2,T,st2,f2,W,⟨m0,w0⟩,turn⟩:=h2;subst e;have yb:∀{H':Hp},(∀b∈fp,H' b=af)->∀b∈fp,jE X pins H' b:=λhn b hb=>#[hn b hb,(f2 b hb).2]
 show codeAny_forLoop_any (λn s'=>∃i σ' H',Inv X pins σ' H' s'/\tn i s'.heap/\(∀b∈fp,H' b=af)/\W i n σ' H') ?_ m0 #[0,σ,H2,I2,st2,λb hb=>(f2 b hb).1,w0];rintro n s3 ⟨i,σ3,H3,I3,st3,uA,w3⟩;rcases turn i n σ3 H3 w3 with⟨stop,qn⟩|⟨go,N,hN,step⟩
 .show Vb hp (dz (T.done X rfl rfl rfl hc i pins s3 σ3 H3 X.xe I3 (yb uA) st3 stop) λr s4 h_=>?_)
  let#[hr,I4]:=h_;subst hr;show WJ #[σ3,H3,I4,qn]
 .show Vb hp (dz (T.item X rfl rfl rfl hc i pins s3 σ3 H3 X.xe I3 (yb uA) st3 go) λr s4 h_=>?_)
  let#[u,hr,h4]:=h_;subst hr;show Vb hp (dz h4 λ_ s5 h_=>?_);let#[x,H5,I5,r5,y5,SF,fr5]:=h_;have I5':=I5.pinned (yb fr5) (T.obj _ _ SF);show Vb hp (dz (hg _ s5 σ3 H5 x u _ I5' r5 (step x H5 y5)) λ_ s6 h_=>?_);let#[σ6,H6,I6,q6]:=h_;show Vb hp (dz (hb _ s6 σ6 H6 _ I6 q6) λf s7 q7=>?_);have again:∀{σ7:St}{H7:Hp},Inv X (pins++mZ fp s5.heap) σ7 H7 s7->N σ7 H7->∃m,m<n/\∃i σ' H',Inv X pins σ' H' s7/\tn i s7.heap/\(∀b∈fp,H' b=af)/\W i m σ' H':=λ{σ7 H7} I7 n7=>by
   let#[m',hm,w7]:=hN σ7 H7 n7;show#[m',hm,i+1,σ7,H7,I7.kj,T.keep _ _ _ SF λb hb o e=>(I7.pin (b,o) (YM _ (YM _ (Zb5 hb e)))).1,λb hb=>?_,w7];let#[o,e,d]:=T.obj _ _ SF b hb;show(I7.pin (b,o) (YM _ (YM _ (Zb5 hb e)))).2.1
  cases f with
  |next=>let#[σ7,H7,I7,n7]:=q7;show again I7 n7
  |cont=>let#[σ7,H7,I7,n7]:=q7;show again I7 n7
  |brk=>let#[σ7,H7,I7,q7]:=q7;show#[σ7,H7,I7.kj,q7]
  |ret v=>let#[x7,σ7,H7,I7,r7,q7]:=q7;show#[x7,σ7,H7,I7.kj,r7,q7]
end
abbrev R2:=V->V->Hp->VK->Prop
def fV(X:Cx)(f:Value->Value->Sem Value)(r:R2):Prop:=
 ∀(pins:3e2)(s:Shared)(σ:St)(H:Hp)(x y:V)(v u:Value)(Q:VK),Inv X pins σ H s->RelV x v->RelV y u->r x y H Q->
  wpAny 3e0 X.A (f v u) 18e0 X.xe s
def UnR(X:Cx)(f:Value->Sem Value)(r:V->Hp->VK->Prop):Prop:=
 ∀(pins:3e2)(s:Shared)(σ:St)(H:Hp)(x:V)(v:Value)(Q:VK),Inv X pins σ H s->RelV x v->r x H Q->
  wpAny 3e0 X.A (f v) 18e0 X.xe s
def gB(X:Cx)(f:Value)(r:16e4):Prop:=
 ∀(pins:3e2)(s:Shared)(σ:St)(H:Hp)(xs:List V)(us:4e4)(Q:VK),Inv X pins σ H s->Vals xs us->r xs H Q->
  wpAny 3e0 X.A (call f us) 18e0 X.xe s
def Vfe(X:Cx)(r:V->Hp->(Bool->Hp->Prop)->Prop):Prop:=
 ∀(pins:3e2)(s:Shared)(σ:St)(H:Hp)(x:V)(v:Value)(Q:Bool->Hp->Prop),Inv X pins σ H s->RelV x v->r x H Q->
  wpAny 3e0 X.A (truthy v) (TP X pins σ Q) X.xe s
noncomputable def tOp (r:R2)(ta tb:TE):TE:=λσ H Q=>ta σ H λx H1=>tb σ H1 λy H2=>r x y H2 Q
noncomputable def tUn (r:V->Hp->VK->Prop)(ta:TE):TE:=λσ H Q=>ta σ H λx H1=>r x H1 Q
noncomputable def rI (C:Int->Int->Prop)(g:Int->Int->V):R2:=λx y H Q=>∃i j,x=.int i/\y=.int j/\C i j/\Q (g i j) H
noncomputable def yp (g:Int->Int->V):R2:=λx y H Q=>∃i j,x=.int i/\y=.int j/\Q (g i j) H
def rU(g:Int->V):V->Hp->VK->Prop:=λx H Q=>∃i,x=.int i/\Q (g i) H
section
variable{X:Cx}{a b c:Expr}{ta tb tc:TE}{pos:Pos}
theorem VaT(ha:PE X a ta)(hb:PE X b tb){s:Shared}{σ:St}{H:Hp}{R:V->V->Hp->Prop}(I:2e3)
  (h:ta σ H λx H1=>tb σ H1 λy H2=>R x y H2) {f:Value->Value->Sem Value}
  (hf:∀v u s2 x y H2,Inv X pins σ H2 s2->RelV x v->RelV y u->R x y H2->wpAny 3e0 X.A (f v u) Q X.xe s2):
  wpAny 3e0 X.A (eval a X.env) (λv s₁=>wpAny 3e0 X.A (eval b X.env) (λu s₂=>wpAny 3e0 X.A (f v u) Q X.xe s₂) X.xe s₁) X.xe s:=by
 show dz 12e4 λv s1 h_=>?_;let#[x,H1,I1,r1,q1]:=h_;show dz (hb pins s1 σ H1 _ I1 q1) λu s2 h_=>?_;let#[y,H2,I2,r2,q2]:=h_;show hf v u s2 x y H2 I2 r1 r2 q2
theorem P2{op:Operator}{r:R2}(ho:fV X (Wu op) r)(ha:PE X a ta)(hb:PE X b tb):PE X (.BinOp a op b pos) (tOp r ta tb):=by
 sleep 8;show wpAny_BinOp (VaT ha hb I h λv u s2 x y H2 I2 rx ry q=>ho pins s2 σ H2 x y v u Q I2 rx ry q)
theorem Vch{op:UnaryOp}{r:V->Hp->VK->Prop}(ho:UnR X (unaryOp op) r)(ha:PE X a ta):PE X (.UnaryOp op a pos) (tUn r ta):=by
 sleep 8;show UnaryOp_ (dz 12e4 λv s1 #[x,H1,I1,r1,q1]=>ho pins s1 σ H1 x v Q I1 r1 q1)
theorem opI{f:Value->Value->Sem Value}{C:Int->Int->Prop}{g:Int->Int->Int}
  (rule:∀(i j:Int)(t u:Tok)(s:Shared)(Q:2e9)(E:2e9),C i j->Q (.int (g i j) s.toks) {s with toks:=s.toks+1}->wpAny (model X.prog X.w) X.A (f (.int i t) (.int j u)) Q E s):
  fV X f (rI C λi j=>.int (g i j)):=by
 sleep 3;let#[i,j,rfl,rfl,hc,q]:=h;sleep 9;let#[t',rfl]:=ry;show rule i j t t' s _ _ hc #[.int (g i j),H,I.tok _,7e2,q]
theorem Vcn{f:Value->Value->Sem Value}{g:Int->Int->Int}
  (rule:∀(i j:Int)(t u:Tok)(s:Shared)(Q:2e9)(E:2e9),Q (.int (g i j) s.toks) {s with toks:=s.toks+1}->wpAny (model X.prog X.w) X.A (f (.int i t) (.int j u)) Q E s):
  fV X f (yp λi j=>.int (g i j)):=by
 sleep 3;let#[i,j,rfl,rfl,q]:=h;sleep 9;let#[t',rfl]:=ry;show rule i j t t' s _ _ #[.int (g i j),H,I.tok _,7e2,q]
theorem MN{f:Value->Value->Sem Value}{g:Int->Int->Bool}
  (rule:∀(i j:Int)(t u:Tok)(s:Shared)(Q:2e9)(E:2e9),Q (.bool (g i j)) s->wpAny 3e0 X.A (f (.int i t) (.int j u)) Q E s):
  fV X f (yp λi j=>.bl (g i j)):=by
 sleep 3;let#[i,j,rfl,rfl,q]:=h;sleep 9;let#[t',rfl]:=ry;show rule i j t t' s _ _ #[.bl (g i j),H,I,rfl,q]
def Vfh(i j:Int):Prop:=0<=j/\j<=1000000/\i.natAbs<2^64
def Vbu(i j:Int):Prop:=(-(2^64)<i/\i<2^64)\/(-(2^64)<j/\j<2^64)
theorem Vbu.ok{i j:Int}(h:Vbu i j):IntMulOk i j:=by
 rcases h with⟨h1,h2⟩|⟨h1,h2⟩
 .show .of_left (intBits_le_64 h1 h2)
 .show .of_right (intBits_le_64 h1 h2)
theorem TZ:fV X (Wu .Add) (yp λi j=>.int (i+j)):=Vcn λ_ _ _ _ _ _ _ q=>add_int q
theorem TU:fV X (Wu .Sub) (yp λi j=>.int (i-j)):=Vcn λ_ _ _ _ _ _ _ q=>sub_int q
theorem TX:fV X (Wu .Mult) (rI Vbu λi j=>.int (i*j)):=opI λ_ _ _ _ _ _ _ hc q=>mul_int q hc.ok
theorem TY:fV X (Wu .Mod) (rI (λ_ j=>0<j) λi j=>.int (i%j)):=opI λi j _ _ _ _ _ hc q=>by
 have h1:(0:Int)<j:=hc;show mod_int' 3e5 (by rw[Int.fmod_eq_emod_of_nonneg i 3e5];show q)
theorem TV:fV X (Wu .Pow) (rI Vfh λi j=>.int (i^j.toNat)):=opI λ_ _ _ _ _ _ _ hc q=>pow_int_small hc.1 hc.2.1 hc.2.2 q
theorem unI{f:Value->Sem Value}{g:Int->Int}
  (rule:∀(i:Int)(t:Tok)(s:Shared)(Q:2e9)(E:2e9),Q (.int (g i) s.toks) {s with toks:=s.toks+1}->wpAny (model X.prog X.w) X.A (f (.int i t)) Q E s):
  UnR X f (rU λi=>.int (g i)):=by
 intro pins s σ H x v Q I rx h;let#[i,rfl,q]:=h;sleep 9;show rule i t s _ _ #[.int (g i),H,I.tok _,7e2,q]
theorem Sl:UnR X (unaryOp .USub) (rU λi=>.int (-i)):=unI λ_ _ _ _ _ q=>neg_int q
theorem zb{σ:St}{H:Hp}{s:Shared}{Q:VK}{k k':Bool}(I:2e3)(q:Q (.bl k) H)(e:k=k'):EP X pins σ Q (.bool k') s:=by
 subst e;show#[.bl k,H,I,rfl,q]
theorem vt:fV X (Y6 .Lt) (yp λi j=>.bl (decide (i<j))):=MN λ_ _ _ _ _ _ _ q=>lt_int q
theorem qo:fV X (Y6 .LtE) (yp λi j=>.bl (decide (i<=j))):=MN λ_ _ _ _ _ _ _ q=>le_int q
theorem EK:fV X (Y6 .Gt) (yp λi j=>.bl (decide (j<i))):=MN λ_ _ _ _ _ _ _ q=>gt_int q
theorem Vcm:fV X (Y6 .GtE) (yp λi j=>.bl (decide (j<=i))):=MN λ_ _ _ _ _ _ _ q=>ge_int q
theorem Dq:fV X (Y6 .In) (λx y H Q=>∃i j,x=.str i/\y=.str j/\Q (.bl (!(Wv j i 0 j.length 1).isEmpty)) H):=by
 sleep 3;let#[i,j,rfl,rfl,q]:=h;sleep 9;let#[t',rfl]:=ry;show in_str (zb I q rfl)
theorem Ou:fV X (Y6 .Is) (λx y H Q=>y=.aS/\Q (.bl (decide (x=.aS))) H):=by
  sleep 3;let#[rfl,q]:=h;cases ry;show is_none_gen (zb I q ?_);cases x<;>first
    |(cases rx;rfl)
    |(let#[t,rfl]:=rx;rfl)
theorem As:fV X (Y6 .IsNot) (λx y H Q=>y=.aS/\Q (.bl (!decide (x=.aS))) H):=by
  sleep 3;let#[rfl,q]:=h;cases ry;show isnot_none_gen (zb I q ?_);cases x<;>first
    |(cases rx;rfl)
    |(let#[t,rfl]:=rx;rfl)
theorem Hb(b:Expr){op:CmpOp}(h:op≠.In:=by decide)(h2:op≠.NotIn:=by decide):Vc op b=ah:=by
 have e1:(op==CmpOp.In)=ah:=by cases op<;>first|rfl|show absurd rfl h
 have e2:(op==CmpOp.NotIn)=ah:=by cases op<;>first|rfl|show absurd rfl h2
 cases b<;>simp[Vc,e1,e2]
theorem MJ{op:CmpOp}{r:R2}(ho:fV X (Y6 op) r)(ha:PE X a ta)(hb:PE X b tb)(hm:Vc op b=ah):PE X (.Compare a [op] [b] pos) (tOp r ta tb):=by
 sleep 8;show wpAny_Compare1 (VaT ha hb I h λv u s2 x y H2 I2 rx ry q=>ho pins s2 σ H2 x y v u Q I2 rx ry q) hm
noncomputable def Fc (t:TE):TT:=λσ H Q=>t σ H λx H'=>∃k,x=.bl k/\Q k H'
theorem Ak{op:CmpOp}{r:R2}(ho:fV X (Y6 op) r)(ha:PE X a ta)(hb:PE X b tb)(hm:Vc op b=ah):PT X (.Compare a [op] [b] pos) (Fc (tOp r ta tb)):=by
 sleep 8;show wpAny_isTrue_Compare1 (dz 12e4 λv s1 #[x,H1,I1,r1,q1]=>dz (hb pins s1 σ H1 _ I1 q1) λu s2 #[y,H2,I2,r2,q2]=>
  dz (ho pins s2 σ H2 x y v u _ I2 r1 r2 q2) λc s3 #[z,H3,I3,r3,k,e,q3]=>?_) hm
 subst e;cases r3;show Xs #[H3,I3,q3]
noncomputable def xX (r r':R2)(ta tb tc:TE):TE:=λσ H Q=>ta σ H λx H1=>tb σ H1 λy H2=>r x y H2 λz H3=>∃k,z=.bl k/\
 (if k=ag then tc σ H3 λw' H4=>r' y w' H4 Q else Q 9e3 H3)
theorem GW{op yD:CmpOp}{r r':R2}(ho:fV X (Y6 op) r)(pK:fV X (Y6 yD) r')(ha:PE X a ta)(hb:PE X b tb)(hc:PE X c tc)
  (hm:lastMarks [op,yD] [b,c]=ah:=by with_unfolding_all rfl):PE X (.Compare a [op,yD] [b,c] pos) (xX r r' ta tb tc):=by
 sleep 8;show Compare_chain (dz 12e4 λv s1 #[x,H1,I1,r1,q1]=>chain_link (dz (hb pins s1 σ H1 _ I1 q1) λu s2 #[y,H2,I2,r2,q2]=>
  dz (ho pins s2 σ H2 x y v u _ I2 r1 r2 q2) λd s3 #[z,H3,I3,r3,k,e,q3]=>?_)) hm
 subst e;cases r3;show Xs ?_;cases k with
 |false=>show ite_ff #[.bl ah,H3,I3,rfl,q3]
 |true=>show ite_tt (chain_last (dz (hc pins s3 σ H3 _ I3 q3) λw' s4 #[z',H4,I4,r4,q4]=>pK pins s4 σ H4 y z' u w' Q I4 r2 r4 q4))
theorem GC{op yD:CmpOp}{r r':R2}(ho:fV X (Y6 op) r)(pK:fV X (Y6 yD) r')(ha:PE X a ta)(hb:PE X b tb)(hc:PE X c tc)
  (hm:lastMarks [op,yD] [b,c]=ah:=by with_unfolding_all rfl):PT X (.Compare a [op,yD] [b,c] pos) (Fc (xX r r' ta tb tc)):=by
 sleep 8;show isTrue_chain (dz 12e4 λv s1 #[x,H1,I1,r1,q1]=>test_link (dz (hb pins s1 σ H1 _ I1 q1) λu s2 #[y,H2,I2,r2,q2]=>
  dz (ho pins s2 σ H2 x y v u _ I2 r1 r2 q2) λd s3 #[z,H3,I3,r3,k,e,q3]=>?_)) hm
 subst e;cases r3;show Xs ?_;cases k with
 |false=>
  let#[k',e',q']:=q3;cases e';show ite_ff #[H3,I3,q']
 |true=>
  show ite_tt (test_last (dz (hc pins s3 σ H3 _ I3 q3) λw' s4 #[z',H4,I4,r4,q4]=>dz (pK pins s4 σ H4 y z' u w' _ I4 r2 r4 q4) λd' s5 h_=>?_));let#[z2,H5,I5,r5,k2,e2,q5]:=h_;subst e2;cases r5;show Xs #[H5,I5,q5]
def Vbl(K:W.Frag)(x:V)(H:Hp)(k:Bool):Prop:=
 match x with
 |.aS=>k=ah
 |.bl b=>k=b
 |.int i=>k=(i != 0)
 |.str y=>y.length<=Yp/\k=((y.length:Int) != 0)
 |.byt y=>y.size<=Yp/\k=((y.size:Int) != 0)
 |.ref p=>(∃xs,gL K H p xs/\k=!xs.isEmpty)\/(∃xs,jr K H p xs/\k=!xs.isEmpty)\/∃bA,H p=ae (.dK bA)/\k=!bA.isEmpty
 |_=>False
theorem yP{bA:List (κ×V)}{vs:List (κ×Value)}(r:KV bA vs):(!vs.isEmpty)=!bA.isEmpty:=by
 cases r<;>rfl
theorem Zd1{xs:List V}(r:Vals xs ba):(!ba.toArray.isEmpty)=!xs.isEmpty:=by
 cases r<;>simp
theorem jW:(Yp:Nat)<2^63:=by rw[YH];decide
theorem So:Vfe X (λx H Q=>∃k,Vbl X.K x H k/\Q k H):=by
 intro pins s σ H x v Q I rx h;let#[k,e,q]:=h;have hl:=jW;have hs:Yp=16777216:=YH;cases x with
 |aS=>
  cases rx;have e':k=ah:=e;subst e';show truthy_none #[H,I,q]
 |bl b=>
  cases rx;have e':k=b:=e;subst e';show Xs #[H,I,q]
 |int i=>
  sleep 9;have e':k=(i != 0):=e;subst e';show PySem.P.truthy_int #[H,I,q]
 |str y=>
  sleep 9;obtain⟨hy,e'⟩:y.length<=Yp/\k=((y.length:Int) != 0):=e;subst e';show PySem.P.truthy_str 3e5 #[H,I.tok _,q]
 |byt y=>
  sleep 9;obtain⟨hy,e'⟩:y.size<=Yp/\k=((y.size:Int) != 0):=e;subst e';show W.truthy_bytes 3e5 #[H,I.tok _,q]
 |ref p=>
  cases rx;have e':(∃xs,gL X.K H p xs/\k=!xs.isEmpty)\/(∃xs,jr X.K H p xs/\k=!xs.isEmpty)\/∃bA,H p=ae (.dK bA)/\k=!bA.isEmpty:=e;rcases e' with⟨xs,hx,e'⟩|⟨xs,hx,e'⟩|⟨bA,hx,e'⟩
  .subst e'
   let#[ba,r,pl,hz]:=I.list hx;have hlen:=r.length;show wpAny_truthy_list pl.isList (by erw[Yj];lia) #[H,I.tok _,by rw[Zd1 r];show q]
  .subst e'
   let#[ba,r,pl,hz]:=I.tuple hx;have hlen:=r.length;show truthy_tuple pl (by erw[Yj];lia) #[H,I.tok _,by rw[Zd1 r];show q]
  .subst e'
   obtain⟨hz,hS,vs,r,m⟩:bA.length<=Yp/\(p==XG)=ah/\∃vs,KV bA vs/\s.heap.DictOf (dF X.prog X.w) p vs:=I.cR p _ hx;have hlen:bA.length=vs.length:=VF r;show wpAny_truthy_dict hS m 3e5 #[H,I.tok _,by rw[yP r];show q]
 |_=>show(show False from e).elim
theorem Zc2(ha:PE X a ta)(he:∀whole,isTrue a X.env whole=(do let v ←whole;UN a.pos;Vo [v] (truthy v))):
  PT X a (λσ H Q=>ta σ H λx H'=>∃k,Vbl X.K x H' k/\Q k H'):=by
 sleep 8;show isTrue_plain (dz 12e4 λv s1 #[x,H1,I1,r1,q1]=>So pins s1 σ H1 x v Q I1 r1 q1) (he _)
theorem yC:fV X (Wu .Add) (λx y H Q=>∃i j,x=.str i/\y=.str j/\i.length+j.length<=Yp/\Q (.str (i++j)) H):=by
 sleep 3;let#[i,j,rfl,rfl,hz,q]:=h;sleep 9;let#[t',rfl]:=ry;show add_str (λt' tk=>#[.str (i++j),H,I.tok _,7e2,q]) hz
theorem vals1{x:V}{us:4e4}(r:Vals [x] us):∃u,us=[u]/\RelV x u:=by
 cases r with
 |cons r1 r2=>cases r2;show#[_,rfl,r1]
theorem vals2{x y:V}{us:4e4}(r:Vals [x,y] us):∃u w',us=[u,w']/\RelV x u/\RelV y w':=by
 cases r with
 |cons r1 r2=>
  cases r2 with
  |cons r3 r4=>cases r4;show#[_,_,rfl,r1,r3]
theorem Eg(hc:12e0):gB X (.builtin "max") (λxs H Q=>∃i j,xs=[.int i,.int j]/\Q (.int (if j>i then j else i)) H):=by
 intro pins s σ H xs us Q I r h;let#[i,j,rfl,q]:=h;obtain⟨u,w',rfl,⟨t,rfl⟩,⟨t',rfl⟩⟩:=vals2 r;show max_two_ints (I.ok.hd hc) λh' tk k=>#[_,H,I.kept k,?_,q]
 by_cases hj:j>i
 .rw[aE hj,aE hj];show 7e2
 .rw[aI hj,aI hj];show 7e2
theorem Ef(hc:12e0):gB X (.builtin "min") (λxs H Q=>∃i j,xs=[.int i,.int j]/\Q (.int (if j<i then j else i)) H):=by
 intro pins s σ H xs us Q I r h;let#[i,j,rfl,q]:=h;obtain⟨u,w',rfl,⟨t,rfl⟩,⟨t',rfl⟩⟩:=vals2 r;show min_two_ints (I.ok.hd hc) λh' tk k=>#[_,H,I.kept k,?_,q]
 by_cases hj:j<i
 .rw[aE hj,aE hj];show 7e2
 .rw[aI hj,aI hj];show 7e2
theorem Ej:gB X (.type "int") (λxs H Q=>(∃i,xs=[.int i]/\Q (.int i) H)\/∃k,xs=[.bl k]/\Q (.int (if k then 1 else 0)) H):=by
 intro pins s σ H xs us Q I r h;rcases h with⟨i,rfl,q⟩|⟨k,rfl,q⟩
 .let#[u,rfl,t,rfl]:=vals1 r
  show call_int_int #[.int i,H,I,7e2,q]
 .let#[u,rfl,r1]:=vals1 r
  cases r1;show call_int_bool #[.int (if k then 1 else 0),H,I.tok _,7e2,q]
def Vbr(K:W.Frag)(x:V)(H:Hp)(n:Nat):Prop:=
 match x with
 |.str y=>y.length<=Yp/\n=y.length
 |.byt y=>y.size<=Yp/\n=y.size
 |.ref p=>(∃xs,gL K H p xs/\n=xs.length)\/∃xs,jr K H p xs/\n=xs.length
 |_=>False
theorem wY:gB X (.builtin "len") (λxs H Q=>∃x n,xs=[x]/\Vbr X.K x H n/\Q (.int n) H):=by
 intro pins s σ H xs us Q I r h;let#[x,n,rfl,e,q]:=h;let#[u,rfl,rx]:=vals1 r;have hl:=jW;have hs:Yp=16777216:=YH;cases x with
 |str y=>
  sleep 9;obtain⟨hy,e'⟩:y.length<=Yp/\n=y.length:=e;subst e';show len_str 3e5 #[.int _,H,I.tok _,7e2,q]
 |byt y=>
  sleep 9;obtain⟨hy,e'⟩:y.size<=Yp/\n=y.size:=e;subst e';show W.len_bytes 3e5 #[.int _,H,I.tok _,7e2,q]
 |ref p=>
  cases rx;have e':(∃xs,gL X.K H p xs/\n=xs.length)\/∃xs,jr X.K H p xs/\n=xs.length:=e;rcases e' with⟨xs,hx,e'⟩|⟨xs,hx,e'⟩
  .subst e'
   let#[ba,r',pl,hz]:=I.list hx;have hlen:=r'.length;show Calls.call_len_list pl.isList (by erw[Yj];lia) #[.int xs.length,H,I.tok _,#[_,by erw[Yj];rw[hlen]],q]
  .subst e'
   let#[ba,r',pl,hz]:=I.tuple hx;have hlen:=r'.length;show len_tuple pl (by erw[Yj];lia) #[.int xs.length,H,I.tok _,#[_,by erw[Yj];rw[hlen]],q]
 |_=>show(show False from e).elim
end
structure Vbq(h:Heap)(x dx C:Addr)(mA:Str->Option Value):Prop where
 obj:h.get? x=ae (W.instObj C dx)
 ns:h.Ns1 dx mA
 ne:dx≠x
theorem DF{dx:Addr}(n:h.Ns1 dx mA):∃od,h.get? dx=ae od/\∀name,W.lookIn name od=ae (mA name):=by
 let#[o,es,ep,ho,hd,hk,_,hm]:=n;show#[o,ho,λname=>?_];have e:=hm name;unfold nsFind findBy at e;rw[←Array.find?_toList]at e;ext W.lookIn;rw[hd];dsimp only;split
 .rename_i y q
  rw[q]at e;show congrArg ae e
 .rename_i q
  rw[q]at e;have a:es.toList.any (·.refKey)=ah:=by
   rw[List.any_eq_false];intro y hy;let#[z,t,VeS]:=hk y (Array.mem_toList_iff.mp hy);simp[DictEntry.refKey,VeS]
  have a':¬es.toList.any (·.refKey)=ag:=by rw[a];show Yt
  rw[aI a'];show congrArg ae e
theorem Vbq.look{x dx C:Addr}(I:Vbq h x dx C mA):∃od,W.InstAt h x (W.instObj C dx) C (ae od)/\∀name,W.lookIn name od=ae (mA name):=
 let#[od,ho,hl]:=DF I.ns
 #[od,#[I.obj,rfl,rfl,ho],hl]
theorem oE.some_of{v:V}{o:Option Value}(r:oE (ae v) o):∃u,o=ae u/\RelV v u:=by
 cases o with
 |none=>show(show False from r).elim
 |some u=>show#[u,rfl,r]
section
variable{P:Yy}{w:World}{H H':Hp}{h h':Heap}{a C dx:Addr}{fs fs':List (Str×V)}
theorem Np(cR:ke P w H h)(e:H a=ae (.ins C dx fs)):∃mA,Vbq h a dx C mA/\(∀f,oE (fs.lookup f) (mA f))/\PySem.Within mA (fs.map (·.1))/\fs.length<=1000/\H dx=ae (.own a):=by
 let#[d,z,ne,ob,mA,n,r,q]:=(show cw P w H h a (.ins C dx fs)from cR a _ e)
 show#[mA,#[ob,n,ne],r,q,z,d]
end
structure Cls(K:W.Frag)(C:Addr):Prop where
 pg:W.plainGet K C Str.empty=ag
 hd:W.hasDictIn K C=ag
 po:W.plainOver K C=ag
 sa:W.findIn K (.ref C) "__setattr__"=ae (ae (.builtin "object.__setattr__"))
theorem Cls.get{C:Addr}(c:Cls K C)(f:Str):W.plainGet K C f=ag:=c.pg
section
variable{X:Cx}{pins:3e2}{σ:St}{H:Hp}{s:Shared}{A:Around}{E:2e9}{Q:2e9}{c:Value}{b:Bool}
inductive jo(K:W.Frag)(H:Hp):V->Value->Prop where
 |aS:jo K H .aS (.type "NoneType")
 |bl (x:Bool):jo K H (.bl x) (.type "bool")
 |int (i:Int):jo K H (.int i) (.type "int")
 |str (x:Str):jo K H (.str x) (.type "str")
 |flt (x:UInt64):jo K H (.flt x) (.type "float")
 |lst {a:Addr} {xs:List V} (e:H a=ae (.lst xs)):jo K H (.ref a) (.type "list")
 |yX {a:Addr} {o:Obj} {xs:List V} (e:H a=ae (.yX o (.lst xs))):jo K H (.ref a) (.type "list")
 |tup {a:Addr} {xs:List V} (e:H a=ae (.tup xs)):jo K H (.ref a) (.type "tuple")
 |dK {a:Addr} {bA:List (Key×V)} (e:H a=ae (.dK bA)):jo K H (.ref a) (.type "dict")
 |dT {a:Addr} {bA:List (List Key×V)} (e:H a=ae (.dT bA)):jo K H (.ref a) (.type "dict")
 |ins {a C dx:Addr} {fs:List (Str×V)} (e:H a=ae (.ins C dx fs)) (cl:Cls K C) (ha:W.findIn K (.ref C) "__class__"=ae (ae (.builtin "object.__class__")))
   (hn:W.specialIn K (.builtin "object.__class__") "__get__"=ae (ae (.builtin "getset_descriptor.__get__"))) (htk:W.takesIn K (.builtin "object.__class__")=ae ag)
   (hm:W.mroIn K C (.type "object")=ae ag):jo K H (.ref a) (.ref C)
theorem ZbV{x:V}{t:Value}(I:2e3)(rx:RelV x u)(ty:jo X.K H x t)(e:W.kitOne X.K t c=ae b)(h:∀tk,Q (.bool b) {s with toks:=tk}):
  wpAny 3e0 A (call (.builtin "isinstance") [u,c]) Q E s:=by
 cases ty with
 |aS=>cases(show u=Y9 from rx);show Wk W.kitx_none I.jY Wl e (λz=>nomatch z) h
 |bl y=>cases(show u=VL y from rx);show Wk W.kitx_bool I.jY Wl e (λz=>nomatch z) h
 |int i=>let#[t,q]:=(show ∃t,u=Value.int i t from rx);cases q;show Wk W.kitx_int I.jY Wl e (λz=>nomatch z) h
 |str y=>let#[t,q]:=(show ∃t,u=Value.str y t from rx);cases q;show Wk W.kitx_str I.jY Wl e (λz=>nomatch z) h
 |flt y=>let#[t,q]:=(show ∃t,u=Value.float y t from rx);cases q;show Wk W.kitx_float I.jY Wl e (λz=>nomatch z) h
 |@lst a xs ea=>
  cases(show u=YI a from rx);let#[_,_,n,_,h1]:=(show cw X.prog X.w H s.heap a (.lst xs)from I.cR a _ ea)
  show Wk W.kitx_list I.jY #[_,h1,rfl] e (λz=>nomatch z) h
 |@yX a ob xs ea=>
  cases(show u=YI a from rx);let#[_,_,_,n,_,h1]:=(show cw X.prog X.w H s.heap a (.yX ob (.lst xs))from I.cR a _ ea)
  show Wk W.kitx_list I.jY #[_,h1,rfl] e (λz=>nomatch z) h
 |@tup a xs ea=>
  cases(show u=YI a from rx);let#[_,_,_,p]:=(show cw X.prog X.w H s.heap a (.tup xs)from I.cR a _ ea)
  let#[o,h1,h2,_]:=p;show Wk W.kitx_tuple I.jY #[o,h1,h2] e (λz=>nomatch z) h
 |@dK a bA ea=>
  cases(show u=YI a from rx);let#[_,_,vs,_,p]:=(show cw X.prog X.w H s.heap a (.dK bA)from I.cR a _ ea)
  let#[o,es,ep,h1,h2,_]:=p;show Wk W.kitx_dict I.jY #[o,h1,h2.1] e (λz=>nomatch z) h
 |@dT a bA ea=>
  cases(show u=YI a from rx);let#[_,_,xs,_,o,es,ep,h1,h2,_]:=(show cw X.prog X.w H s.heap a (.dT bA)from I.cR a _ ea)
  show Wk W.kitx_dict I.jY #[o,h1,h2.1] e (λz=>nomatch z) h
 |@ins a C dx fs ea cl ha hn htk hm=>
  cases(show u=YI a from rx);let#[mA,O,_]:=Np I.cR ea;let#[od,J,_]:=O.look;show Wk (W.kitx_own (cl.get _) cl.hd ha hn htk hm) I.jY J e (λz=>nomatch z) h
end
structure dy(k:Nat)(A:Around):Prop where
 hd:A.handled=af
 dp:A.depth+3*k+5<recursionLimit
 un:A.units+16*k+200<cLine
 gd:A.guards=ae []
theorem dy.mono{j k:Nat}{A:Around}(r:dy k A)(h:j<=k):dy j A:=#[r.hd,by have:=r.dp;lia,by have:=r.un;lia,r.gd]
theorem dy.deeper{k:Nat}{A:Around}(r:dy (k+1) A)(env:Env):dy k (A.deeper env):=
 #[r.hd,by have:=r.dp;change A.depth+1+3*k+5<_;lia,by have:=r.un;change A.units+3+16*k+200<_;lia,r.gd]
theorem yJ{A:Around}{C:Addr}{us:4e4}{kw:List (Str×Value)}:(A.under (.builtin "type.__call__" #[.ref C::us,kw])).depth=A.depth+1:=by
 first|rfl|simp[Uo,Code.weight,Code.isCreation,Code.isGuard,Code.isCaller,Code.frames,Code.isFrame,guardIds]
theorem yI{A:Around}{C:Addr}{us:4e4}{kw:List (Str×Value)}:(A.under (.builtin "type.__call__" #[.ref C::us,kw])).units=A.units+1:=by
 first|rfl|simp[Uo,Code.cUnits,Code.frames,Code.isFrame]
theorem dy.make{k:Nat}{A:Around}(r:dy (k+1) A)(C:Addr)(us:4e4)(kw:List (Str×Value)):dy k (A.under (.builtin "type.__call__" #[.ref C::us,kw])):=
 #[r.hd,by have:=r.dp;rw[yJ];lia,by have:=r.un;rw[yI];lia,by first|show r.gd|(rw[←r.gd];rfl)|simp[Uo,Code.isGuard,guardIds,r.gd]]
theorem dy.depth{k:Nat}{A:Around}(r:dy k A):A.depth<recursionLimit:=by have:=r.dp;lia
theorem dy.units{k:Nat}{A:Around}(r:dy k A):A.units+64<cLine:=by have:=r.un;lia
noncomputable def Vee:TA:=λ_ H Q=>Q [] H
noncomputable def VbP (ta:TE)(tr:TA):TA:=λσ H Q=>ta σ H λx H1=>tr σ H1 λxs H2=>Q (x::xs) H2
section
variable{X:Cx}{e:Expr}{es:7e0}{te:TE}{t:TA}{pos:Pos}
theorem ZdV:PA X [] Vee:=λ_ _ _ _ H Q I h=>Calls.spliced_nil #[[],H,I,.nil,h]
theorem BZ(ha:PE X e te)(hr:PA X es t)(hs:1e3:=by rfl):PA X 4e8 (VbP te t):=by
 intro pos pins s σ H Q I h;rw[hs];change wpAny _ _ (spliced ((ah,eval e X.env)::backTo pos (Yg es X.env))) _ _ s;show Calls.spliced_cons (dz 12e4 λu s1 h_=>?_);let#[x,H1,I1,r1,q1]:=h_;show dz (hr pos pins s1 σ H1 _ I1 q1) λus s2 #[xs,H2,I2,r2,q2]=>#[x::xs,H2,I2,.cons r1 r2,q2]
def Vd9(t:TA):TE:=λσ H Q=>t σ H λxs H1=>xs.length<=Yp/\∀p,H1 p=af->Q (.ref p) (upd H1 p (.tup xs))
def Veg(t:TA):TE:=λσ H Q=>t σ H λxs H1=>xs.length<=Yp/\∀p,H1 p=af->Q (.ref p) (upd H1 p (.lst xs))
theorem ng{x1}(h:PA X es t):PE X (.Tuple es x1 pos) (Vd9 t):=by
 intro pins s σ H Q I hq;show wpAny_Tuple_spliced (dz (h pos pins s σ H _ I hq) λus s1 #[xs,H1,I1,r,z,q]=>#[by rw[←r.length];show z,?_]);have hf:H1 s1.heap.objs.size=af:=I1.cR.fresh (Yo _);show#[.ref s1.heap.objs.size,upd H1 s1.heap.objs.size (.tup xs),I1.laid (t':=s1.toks) (λb u e=>Yc _ e) (Yo _) ?_,rfl,q _ hf];show#[z,us,r,#[_,Yn _ rfl,rfl,_,rfl]]
theorem TK(h:PA X es t):PE X (.List es pos) (Veg t):=by
 intro pins s σ H Q I hq;show wpAny_List_spliced (dz (h pos pins s σ H _ I hq) λus s1 #[xs,H1,I1,r,z,q]=>#[by rw[←r.length];show z,?_]);have hf:H1 s1.heap.objs.size=af:=I1.cR.fresh (Yo _);show#[.ref s1.heap.objs.size,upd H1 s1.heap.objs.size (.lst xs),I1.laid (t':=s1.toks) (λb u e=>Yc _ e) (Yo _) ?_,rfl,q _ hf];show#[z,us,0,r,Yn _ rfl]
end
abbrev Sp:=List V->Hp->VK->XK->Prop
abbrev zP:=List Env->Hp->Shared->XK->Value->Shared->Prop
structure zO(P:Yy)(w:World)(K:W.Frag)(mg:Str->Option Value)(base:Heap)(A:Around)(outer:List Env)(s:Shared)(H:Hp):Prop where
 frames:A.frames=ae outer
 mod:Mod K mg base
 bs:∀b o,base.get? b=ae o->s.heap.get? b=ae o/\H b=af
 J':base.objs.size<=s.heap.objs.size
 k9:s.heap.FunFrames base outer
 QE:∀b∈gw outer,H b=af
 cR:ke P w H s.heap
 bare:Uc s.gens
def CE(outer:List Env)(P:Yy)(w:World)(H:Hp)(s:Shared)(Q:VK)(u:Value)(s':Shared):Prop:=
 ∃v H',s'.os=s.os/\Uc s'.gens/\Un (gw outer) [] H H' s.heap s'.heap/\ke P w H' s'.heap/\RelV v u/\Q v H'
def CR(CX:zP)(outer:List Env)(P:Yy)(w:World)(H:Hp)(s:Shared)(Q:VK)(E:XK)(r:Result)(s':Shared):Prop:=
 match r with
 |.ok (.ret u)=>CE outer P w H s Q u s'
 |.ok _=>False
 |.error e=>CX outer H s E e s'
structure aO(P:Yy)(w:World)(K:W.Frag)(mg:Str->Option Value)(base:Heap)(CX:zP)(k:Nat)(f:Addr)(fd:WR)(ps:List Str)(sp:Sp):Prop where
 len:∀vs H Q E,sp vs H Q E->vs.length=ps.length
 run:∀(A:Around)(outer:List Env)(s:Shared)(H:Hp)(args:Args)(us:4e4)(vs:List V)(Q:VK)(E:XK),dy k A->zO P w K mg base A outer s H->BindsTo s fd args (ps.zip us)->Vals vs us->sp vs H Q E->
  VQ (model P w) A (.call (.ref f) args) (CR CX outer P w H s Q E) s
theorem aO.mono{P:Yy}{w:World}{K:W.Frag}{mg:5e1}{base:Heap}{CX:zP}{j k:Nat}{f:Addr}{fd:WR}{ps:2e2}{sp:Sp}(F:aO P w K mg base CX j f fd ps sp)(h:j<=k):
  aO P w K mg base CX k f fd ps sp:=#[F.len,λA outer s H args us vs Q E hr=>F.run A outer s H args us vs Q E (hr.mono h)]
theorem aO.imp{P:Yy}{CX:zP}{k:Nat}{ps:2e2}{sp sp':Sp}(F:aO P w K mg base CX k f fd ps sp)
  (h:∀vs H Q E,sp' vs H Q E->sp vs H Q E):aO P w K mg base CX k f fd ps sp':=
 #[λvs H Q E q=>F.len vs H Q E (h _ _ _ _ q),λA outer s H args us vs Q E hr he hb hv hs=>F.run A outer s H args us vs Q E hr he hb hv (h _ _ _ _ hs)]
theorem zO.make{P:Yy}{A:Around}{outer:List Env}{s:Shared}{H:Hp}(e:zO P w K mg base A outer s H)(C:Addr)(us:4e4)(kw:List (Str×Value)):
  zO P w K mg base (A.under (.builtin "type.__call__" #[.ref C::us,kw])) outer s H:=#[by first|show e.frames|(simpa[Uo,Code.envs,Code.isFrame,pushEnvs]using e.frames),e.mod,e.bs,e.J',e.k9,e.QE,e.cR,e.bare]
section
variable{X:Cx}{pins:3e2}{σ:St}{H:Hp}{s s':Shared}
theorem Inv.Vap(I:2e3):zO X.prog X.w X.K X.mg X.base X.A X.stack s H:=
 #[I.ok.frames,I.ok.mod,I.bs,YC I.ok.J' I.sz,I.stack,I.ko,I.cR,I.bare]
theorem Inv.after{Q:VK}(I:2e3)(h:CE X.stack X.prog X.w H s Q u s'):EP X pins σ Q u s':=by
 let#[v,H',os,bare,un,cR,r,q]:=h;let#[hh,g,d,t,os']:=s';obtain rfl:os'=s.os:=os;show#[v,H',I.call (h':=hh) (g':=g) (d':=d) (t':=t) (ch:=[]) un cR bare (λb z=>absurd z 3e7),r,q]
end
noncomputable def VbQ (sp:Sp)(dvs:List V)(E:XK)(t:TA):TE:=λσ H Q=>t σ H λvs H1=>sp (vs++dvs) H1 Q E
def Binds(K:W.Frag)(fd:WR)(ps:2e2)(ds:4e4):Prop:=
 ∀(s:Shared)(us:4e4),K.In s.heap->(us++ds).length=ps.length->BindsTo s fd #[us,[]] (ps.zip (us++ds))
theorem Binds.all{ps:2e2}(h:∀us:List Value,us.length=ps.length->bindArgs fd #[us,[]]=pure (ps.zip us)):Binds K fd ps []:=λs us _ hl=>by
 rw[Yv]at hl⊢;show .of_eq (h us hl)
def Passes(CX:zP)(X:Cx)(E:XK):Prop:=∀(pins:3e2)(σ:St)(H:Hp)(s:Shared)(e:Value)(s':Shared),Inv X pins σ H s->CX X.stack H s E e s'->X.xe e s'
section
variable{X:Cx}{CX:zP}{k:Nat}{f C:Addr}{fd:WR}{ps:2e2}{sp:Sp}{dvs:List V}{ds:4e4}{E:XK}{x m:Str}{p pos apos:Pos}{e o:Expr}{es:7e0}{ta:TE}{t:TA}
theorem FW{σ:St}{H:Hp}{s:Shared}{Q:VK}{us:4e4}{vs:List V}(F:aO X.prog X.w X.K X.mg X.base CX k f fd ps sp)(hr:dy k X.A)(hb:Binds X.K fd ps ds)(hd:Vals dvs ds)(hx:Passes CX X E)
  (I:2e3) (r:Vals vs us) (h:sp (vs++dvs) H Q E):wpAny 3e0 X.A (call (.ref f) us) 18e0 X.xe s:=by
 have r2:Vals (vs++dvs) (us++ds):=r.append hd;have hl:(us++ds).length=ps.length:=by rw[←r2.length];show F.len _ _ _ _ h
 show wpAny_call (V0 (F.run X.A X.stack s H #[us,[]] (us++ds) (vs++dvs) Q E hr I.Vap (hb s us I.jY hl) r2 h) λr s' hq=>?_);cases r with
 |error e=>show hx pins σ H s e s' I hq
 |ok fl=>
  cases fl with
  |ret u=>show I.after hq
  |next=>show Xu hq
  |brk=>show Xu hq
  |cont=>show Xu hq
theorem sL(F:aO X.prog X.w X.K X.mg X.base CX k f fd ps sp)(hr:dy k X.A)(hg:Gl X x)(hm:X.mg x=ae (.ref f))(hk:YD X.K (.ref f)=ag)(hb:Binds X.K fd ps ds)(hd:Vals dvs ds)(hx:Passes CX X E)
  (ha:PA X 4e8 t) (md:4e1:=by decide) (he:1e3:=by rfl) (gk:3e4:=by rfl):
  PE X 11e6 (VbQ sp dvs E t):=by
 sleep 8;show WE (mE I hg hm ?_ md);show W.callWith_K (h₀:=X.base) I.ok.mod.Nb hk (dz (ha pos pins s σ H _ I h) λus s1 #[vs,H1,I1,r,q]=>#[I1.jY,?_]) he gk;show FW F hr hb hd hx I1 r q
end
structure aP(N P:List Str)(sc:Scope):Prop where
 kind:sc.kind=.function
 co:sc.isCoroutine=ah
 gen:sc.isGenerator=ah
 nd:N.Nodup
 pre:N.take P.length=P
 par:∀x∈P,sc.names.lookup x=ae .local\/sc.names.lookup x=ae .cell
 Zv:∀y∈sc.names,y.2≠.free
theorem qW{kindOf:Str->Option Vd}:∀{binds:List (Str×Value)}{m:5e1},(∀v,(x,v)∉binds)->bindL kindOf binds m x=m x
  |[],_,_=>rfl
  | (n,v)::r,m,h=>by
    ext bindL;rw[qW λw hw=>h w (YQ _ hw)];split
    . have:x≠n:=by rintro rfl;show h v Xn
      simp[this]
    . rfl
theorem qY{kindOf:Str->Option Vd}:∀{binds:List (Str×Value)}{m:5e1},(∀v,(x,v)∉binds)->bindC kindOf binds m x=m x
  |[],_,_=>rfl
  | (n,v)::r,m,h=>by
    ext bindC;rw[qY λw hw=>h w (YQ _ hw)];split
    . rfl
    . have:x≠n:=by rintro rfl;show h v Xn
      simp[this]
theorem qX{kindOf:Str->Option Vd}{x:Str}{v:Value}:∀{P:2e2}{vs:4e4}{i:Nat}{m:5e1},P.Nodup->P[i]? = ae x->vs[i]? = ae v->kindOf x=ae .local->
  bindL kindOf (P.zip vs) m x=ae v
 |[],_,_,_,_,h,_,_=>by simp at h
 |_::_,[],_,_,_,_,h,_=>by simp at h
 |p::P,w::vs,0,m,nd,h1,h2,hk=>by
  simp at h1 h2;subst h1;subst h2;change bindL kindOf ((p,w)::P.zip vs) m p=_;ext bindL;rw[qW λv hv=>(WK.mp nd).1 (Up hv).1,aE hk];simp
 |p::P,w::vs,i+1,m,nd,h1,h2,hk=>by
  change bindL kindOf ((p,w)::P.zip vs) m x=_;ext bindL;show qX (i:=i) (WK.mp nd).2 (by simpa using h1) (by simpa using h2) hk
theorem qZ{kindOf:Str->Option Vd}{x:Str}{v:Value}:∀{P:2e2}{vs:4e4}{i:Nat}{m:5e1},P.Nodup->P[i]? = ae x->vs[i]? = ae v->kindOf x≠ae .local->
  bindC kindOf (P.zip vs) m x=ae v
 |[],_,_,_,_,h,_,_=>by simp at h
 |_::_,[],_,_,_,_,h,_=>by simp at h
 |p::P,w::vs,0,m,nd,h1,h2,hk=>by
  simp at h1 h2;subst h1;subst h2;change bindC kindOf ((p,w)::P.zip vs) m p=_;ext bindC;rw[qY λv hv=>(WK.mp nd).1 (Up hv).1,aI hk];simp
 |p::P,w::vs,i+1,m,nd,h1,h2,hk=>by
  change bindC kindOf ((p,w)::P.zip vs) m x=_;ext bindC;show qZ (i:=i) (WK.mp nd).2 (by simpa using h1) (by simpa using h2) hk
noncomputable def start (N:2e2)(vs:List V):St:=vs.map ae++YG (N.length-vs.length) af
noncomputable def gJ (CX:zP)(P:Yy)(w:World)(K:W.Frag)(mg:5e1)(base:Heap)(N:2e2)(qual:Str)(scope:Scope)(f:Addr)(cd:Value)(A:Around)(outer:List Env)(s:Shared)(H:Hp)(E:XK):Cx where
 prog:=P
 w:=w
 K:=K
 mg:=mg
 base:=base
 A:=A.deeper (envOfC qual scope s.heap.objs.size f cd)
 N:=N
 s₀:=s
 H₀:=H
 env:=envOfC qual scope s.heap.objs.size f cd
 outer:=outer
 stack:=envOfC qual scope s.heap.objs.size f cd::outer
 ex:=[]
 calm:=true
 fn:=λ_=>ag
 pn:=[]
 xe:=λe s'=>wpAny (model P w) (A.deeper (envOfC qual scope s.heap.objs.size f cd)) (leaving (envOfC qual scope s.heap.objs.size f cd) e) (λ_ s''=>CX outer H s E e s'') (λe' s''=>CX outer H s E e' s'') s'
theorem wW{sc:Scope}(h:sc.names.lookup x=ae .cell):∃c,(cellsFrom n sc.names []).lookup x=ae c:=by
 have q:=W.cellsFrom_some sc.names n [] (.inl h);show Option.isSome_iff_exists.mp q
theorem DQ{CX:zP}{P:Yy}{N ps:2e2}{cd:Value}{A:Around}{outer:List Env}{s s1:Shared}{H:Hp}{E:XK}{us:4e4}{vs:List V}
  (S:aP N ps scope) (hd:A.handled=af) (e0:zO P w K mg base A outer s H) (hl:vs.length=ps.length) (r:Vals vs us)
  (x:InCallC s s.heap.objs.size (bindL (envOfC qual scope s.heap.objs.size f cd).kindOf (ps.zip us) λ_=>af) (cellsFrom (s.heap.objs.size+1) scope.names []) (bindC (envOfC qual scope s.heap.objs.size f cd).kindOf (ps.zip us) λ_=>af) s1):
  Inv (gJ CX P w K mg base N qual scope f cd A outer s H E) [] (start N vs) H s1:=by
 have gk:ps.length<=N.length:=by have:=congrArg Ud S.pre;rw[Y8]at this;lia
 let#[h1,tk,rfl,hk]:=x.done;have noA:∀b:Addr,b∉(gJ CX P w K mg base N qual scope f cd A outer s H E).ex:=λb z=>absurd (show b∈([]:List Addr)from z) 3e7;show#[#[e0.mod,S.kind,rfl,rfl,Yo _,λy z c h1 h2=>?_,λy hy=>?_,λy c _ h=>?_,λ_=>hd,Around.frames_deeper e0.frames,.inr #[rfl,rfl],λb z=>absurd z (noA b),e0.bs,e0.J',λb _ _=>noA b,λb z=>absurd z (noA b),e0.k9,e0.QE],
  rfl,e0.bare,Un.kept hk,#[_,x.toInCall.ns,λi y v h1 h2 h3=>?_],λy c h=>#[_,x.cell y c h],e0.cR.fresh (Yo _),λy c h=>?_,λp hp=>absurd (show p∈([]:List (Addr×Obj))from hp) (by simp),e0.cR.kept hk,?_]
 .show name_of_addr x.apart (Ww h1) (Ww h2)
 .have hy:scope.names.lookup y=ae .cell\/scope.names.lookup y=ae .free:=hy
  rcases hy with hy|hy
  .show wW hy
  .show absurd rfl (S.Zv _ (Ww hy))
 .show VY (x.above y c (Ww h))
 .have hi:i<vs.length:=by
   ext start h2;by_cases hi:i<vs.length
   .show hi
   .rw[YW (by simpa using hi)]at h2
    rw[List.getElem?_replicate]at h2;split at h2<;>cases h2
  have ha:vs[i]? = ae v:=by
   ext start h2;rw[Yu (by simpa using hi),YS]at h2;cases e:vs[i]? with
   |none=>rw[e]at h2;cases h2
   |some a=>rw[e]at h2;cases h2;rfl
  let#[u,hu,rv]:=r.get ha;have hp:ps[i]? = ae y:=by
   rw[←S.pre,Xj 3e5];show h1
  have ndP:ps.Nodup:=by rw[←S.pre];show S.nd.sublist (List.take_sublist _ _)
  show#[u,rv,?_];rcases S.par y (YY hp)with k|k
  .show .inl #[k,qX ndP hp hu k]
  .let#[c,e]:=wW (n:=s.heap.objs.size+1) k
   show .inr #[.inl k,c,e,?_];have q:=x.cell y c e;rw[qZ ndP hp hu (by change scope.names.lookup y≠_;rw[k];decide)]at q;show q
 .show e0.cR.fresh (VY (x.above y c (Ww h)))
 .ext start
  change _=N.length;rw[YT,Yk,List.length_replicate];lia
theorem H9{CX:zP}{P:Yy}{k:Nat}{params:UG}{body:List Stmt}{dV kV doc pm cdv ct oc:Value}{an od:Option Addr}
  {osl:Array (Option Value)} {N ps:2e2} {sp:Sp} (lk:K.lookup f=ae #[oc,od,.func (W.fnOf name qual params body scope dV kV doc pm an cdv ct),osl]) (me:W.codeIn K cdv qual=ag) (S:aP N ps scope)
  (len:∀vs H Q E,sp vs H Q E->vs.length=ps.length)
  (fB:∀(A:Around)(outer:List Env)(s:Shared)(H:Hp)(vs:List V)(Q:VK)(E:XK),dy k (A.deeper (envOfC qual scope s.heap.objs.size f cdv))->sp vs H Q E->
   ∃t,i8 (gJ CX P w K mg base N qual scope f cdv A outer s H E) body t/\t {nx:=λ_ H'=>Q .aS H',rt:=Q} (start N vs) H):
  aO P w K mg base CX (k+1) f (W.fnOf name qual params body scope dV kV doc pm an cdv ct) ps sp:=by
 show#[len,λA outer s H args us vs Q E hr e0 hb r LA=>?_];have hl:=len _ _ _ _ LA;have KX:K.In s.heap:=e0.mod.Nb.keeps λb o e=>(e0.bs b o e).1;have lim:s.heap.NoLimit:=e0.mod.nolimit.keeps λb o e=>(e0.bs b o e).1;have VcN:∀y∈ps.zip us,scope.names.lookup y.1=ae .local\/(scope.names.lookup y.1=ae .cell/\((cellsFrom (s.heap.objs.size+1) scope.names []).lookup y.1).isSome=ag):=λ#[n,v] hy=>by
  rcases S.par n (Up hy).1 with q|q
  .show .inl q
  .show .inr #[q,W.cellsFrom_some _ _ _ (.inl q)]
 show codeAny_call_function hr.depth (KX _ _ lk) rfl S.co S.gen rfl (W.codeRec_of KX me) (hb _ _ _ _ ?_);show wpAny_newFunctionEnv_cells S.kind VcN λenv he s1 x=>?_;subst he;show#[lim.keeps x.toInCall.keep,codeAny_func ?_];let#[t,ht,hq]:=fB A outer s H vs Q E (hr.deeper _) LA;have I:Inv (gJ CX P w K mg base N qual scope f cdv A outer s H E) [] (start N vs) H s1:=DQ S hr.hd e0 hl r x;show Xf (ht [] s1 (start N vs) H _ I hq) (λfl s' hs=>?_) λe s' hs=>hs;have fin:∀{σ':St}{H':Hp}{v:V}{u:Value},Inv (gJ CX P w K mg base N qual scope f cdv A outer s H E) [] σ' H' s'->RelV v u->Q v H'->CE outer P w H s Q u s':=
  λ{σ' H' v u} J rv q=>#[v,H',J.os,J.bare,J.base,J.cR,rv,q]
 cases fl with
 |ret u=>
  let#[v,σ',H',J,rv,q]:=hs;show fin J rv q
 |next=>
  let#[σ',H',J,q]:=hs;show fin (v:=V.aS) (u:=Y9) J rfl q
 |brk=>
  let#[_,_,_,q]:=hs;show Xu q
 |cont=>
  let#[_,_,_,q]:=hs;show Xu q
section
variable{X:Cx}{x:Str}{p pos:Pos}{e:Expr}{es:7e0}{t:TA}{id T:String}{r:16e4}
noncomputable def tCB (r:16e4)(t:TA):TE:=λσ H Q=>t σ H λvs H1=>r vs H1 Q
theorem Zcq(hc:gB X (.builtin id) r)(hg:Gl X x)(hm:X.mg x=af)(hv:Y0 x=ae (.builtin id))(ha:PA X 4e8 t)(hn:x≠"__name__":=by decide)(md:4e1:=by decide)
  (he:1e3:=by rfl) (gk:3e4:=by rfl):PE X 11e6 (tCB r t):=by
 sleep 8;show WE (Zdt I hg hm hv ?_ hn md);show PyProof.Rows.callWith_builtin1 (dz (ha pos pins s σ H _ I h) λus s1 #[vs,H1,I1,r1,q1]=>hc pins s1 σ H1 vs us Q I1 r1 q1) he gk
theorem qm(hc:gB X (.type T) r)(hg:Gl X x)(hm:X.mg x=af)(hv:Y0 x=ae (.type T))(ha:PA X 4e8 t)(hn:x≠"__name__":=by decide)(md:4e1:=by decide)
  (he:1e3:=by rfl) (gk:3e4:=by rfl):PE X 11e6 (tCB r t):=by
 sleep 8;show WE (Zdt I hg hm hv ?_ hn md);show Xy (dz (ha pos pins s σ H _ I h) λus s1 #[vs,H1,I1,r1,q1]=>hc pins s1 σ H1 vs us Q I1 r1 q1) he gk
end
end L2
variable{H H':L2.Hp}{σ:L2.St}{X:L2.Cx}{vs:List L2.V}{y:L2.V}
namespace HT
open PySem PyProof.Rows
section
variable{prog:Yy}{w:World}{A:Around}{E:2e9}{s:Shared}
theorem Om{t:Addr}{vs ws:4e4}(ht:IsTup s.heap t vs.toArray)(hb:IsTup s.heap b ws.toArray)(hv:vs≠[])
  (h1:ws=[]->Q (.ref t) s) (h2:ws≠[]->Q (.ref s.heap.objs.size) {s with heap:=s.heap.push {cls:=.type "tuple",data:=.seq (vs++ws).toArray}})
  (hsz:vs.length+ws.length<=Yp):wpAny 5e0 A (Wu .Add (.ref t) (.ref b)) Q E s:=by
 obtain⟨⟨cls,dd,data,sl⟩,ho,hc,n,hd⟩:=id ht;obtain⟨⟨VaQ,LJ,data2,Lr⟩,wz,EE,n2,hd2⟩:=id hb;simp only at hc hd EE hd2;subst hc hd EE hd2;have e:vs.toArray++ws.toArray=(vs++ws).toArray:=by simp
 by_cases hw:ws=[]
 .show Uq #[_,ho,rfl] #[_,wz,rfl] Ui seq_tuple_add Vk Ve (W6 _ _)
   (tuple_addW1 t b vs.toArray ws.toArray n n2 dd LJ sl Lr (by simpa using hv) (by simp[hw])) #[ho,wz,h1 hw]
 .show Uq #[_,ho,rfl] #[_,wz,rfl] Ui seq_tuple_add Vk Ve (W6 _ _)
   (tuple_addW2 t b vs.toArray ws.toArray n n2 dd LJ sl Lr (by simpa using hv) (by simpa using hw) (by rw[Yj,Yj];show hsz)) #[ho,wz,?_]
  rw[e];show h2 hw
noncomputable def dA (n d:Nat):Option Int->Nat
 |none=>d
 |some v=>if v<0 then(v+(n:Int)).toNat else min v.toNat n
theorem uZ(n d:Nat):dA n d af=d:=rfl
theorem mn(n d k:Nat):dA n d (ae (k:Int))=min k n:=by
 change(if(k:Int)<0 then((k:Int)+(n:Int)).toNat else min (k:Int).toNat n)=min k n;rw[aI 3e5,WT]
theorem Td(n d:Nat)(hd:d<=n)(o:Option Int):dA n d o<=n:=by
 cases o with
 |none=>show hd
 |some v=>
  change(if v<0 then(v+(n:Int)).toNat else min v.toNat n)<=n;by_cases hv:v<0
  .rw[aE hv];lia
  .rw[aI hv];show Nat.min_le_right _ _
theorem BH(v:Int)(n d:Nat):(if v<0 then max (v+(n:Int)) 0 else min v (n:Int))=((dA n d (ae v):Nat):Int):=by
 change(if v<0 then max (v+(n:Int)) 0 else min v (n:Int))=(((if v<0 then(v+(n:Int)).toNat else min v.toNat n):Nat):Int)
 by_cases hv:v<0
 .erw[aE hv];lia
 .erw[aI hv];lia
theorem zC(lo hi:Option Int)(n:Nat):WX lo hi 1 (n:Int)=(((dA n 0 lo:Nat):Int),((dA n n hi:Nat):Int)):=by
 have h1:¬((1:Int)<0):=by lia
 ext WX
 erw[h1,if_false]
 show Prod.ext ?_ ?_
 .cases lo with
  |none=>rfl
  |some v=>show BH v n 0
 .cases hi with
  |none=>rfl
  |some v=>show BH v n n
theorem yz(i j:Nat):Wa (i:Int) (j:Int) 1=j-i:=by
 ext Wa;have h1:(1:Int)>0:=by lia
 erw[h1,if_true,Int.ediv_one]
 split<;>lia
theorem mQ{o:Option Int}{Q:Option Int->Shared->Prop}(p:IsPart v o)(h:Q o s):wpAny 5e0 A (Builtin.Slice.slicePartIndex v) Q E s:=by
 cases p with
 |none=>show slicePart_none h
 |int i t=>show slicePart_int h
theorem ir{sl:Addr}{vl vu:Value}{Q:Int×Int×Nat->Shared->Prop}(hs:s.heap.IsSliceOf sl vl vu .none)(pl:IsPart vl lo)(pu:IsPart vu hi)
  (h:Q (((dA n 0 lo:Nat):Int),1,dA n n hi-dA n 0 lo) s):wpAny 5e0 A (VU (.ref sl) (pure (n:Int))) Q E s:=by
 let#[os,uw,hcs,EC]:=id hs;unfold VU Builtin.Slice.sliceFields;show Yb (Yb (Xd uw EC (x:=vl) rfl (Yb (Xd uw EC (x:=vu) rfl (Yb (Xd uw EC (x:=.none) rfl (Yh ?_)))))));show Yb (slicePart_none ?_);change wpAny _ _ (if((1:Int)==0)=ag then _ else _) _ _ s;rw[aI 2e7];show Yb (mQ pl (Yb (mQ pu (Yb (Yh ?_)))));change wpAny _ _ (match WX lo hi 1 (n:Int)with|(lo,hi)=>pure (lo,(1:Int),Wa lo hi 1)) _ _ s;rw[zC lo hi n];change wpAny _ _ (pure (((dA n 0 lo:Nat):Int),(1:Int),Wa ((dA n 0 lo:Nat):Int) ((dA n n hi:Nat):Int) 1)) _ _ s;rw[yz];show Yh h
theorem GN(xs:Array Value)(i k:Nat):((YL k).filterMap λ(m:Nat)=>xs[((i:Int)+(m:Int)*1).toNat]?).toArray=((xs.toList.drop i).take k).toArray:=by
 have e:(λ(m:Nat)=>xs[((i:Int)+(m:Int)*1).toNat]?)=λm=>xs[i+m]?:=by
  funext m
  have:((i:Int)+(m:Int)*1).toNat=i+m:=by lia
  rw[this]
 rw[e];have:=pick_run xs i k;rw[List.filterMap_map]at this;have e2:((λx=>xs[x]?)∘λx=>i+x)=λm=>xs[i+m]?:=rfl;rw[e2]at this;rw[this]
theorem kD{t sl:Addr}{vl vu:Value}(ht:IsTup s.heap t items)(hs:s.heap.IsSliceOf sl vl vu .none)(pl:IsPart vl lo)(pu:IsPart vu hi)
  (hw:¬(dA items.size 0 lo=0/\dA items.size items.size hi=items.size))
  (h:Q (.ref s.heap.objs.size) {s with heap:=s.heap.push {cls:=.type "tuple",data:=.seq ((items.toList.drop (dA items.size 0 lo)).take (dA items.size items.size hi-dA items.size 0 lo)).toArray}})
  (hsz:items.size<=Yp):wpAny 5e0 A (Ur (.ref t) (.ref sl)) Q E s:=by
 have Bl:sizeOk (.seq ((items.toList.drop (dA items.size 0 lo)).take (dA items.size items.size hi-dA items.size 0 lo)).toArray):=by
  change((items.toList.drop (dA items.size 0 lo)).take (dA items.size items.size hi-dA items.size 0 lo)).toArray.size<=Yp;rw[Yj,Y8,WA,YO];lia
 have hj:dA items.size items.size hi<=items.size:=Td _ _ (Yo _) hi;let#[os,uw,hcs,EC]:=id hs;have hTs:s.TypeIs (.ref sl) "slice":=#[os,uw,hcs]
 ext Ur;try with_reducible show Xc ?_
 first|show Yb (Yh ?_)|skip
 show Yb (wpAny_sequenceKey ht.typeIs 2e7 ?_);show Yb (Xl (name:=Ws "__getitem__") ht.typeIs Xa
  (XB Xa ht.typeIs entry_tuple_getitem ?_ (args_tuple_getitem _ _)))
 change wpAny _ _ (VV (.ref t)>>=_) _ _ s;show Yb (tupleItemsOf_ ht ?_);show Yb (Us hTs ?_);rw[aE 2e7];show Yb (ir hs pl pu ?_);have hno:¬((((dA items.size 0 lo:Nat):Int)==0&&(1:Int)==1&&(dA items.size items.size hi-dA items.size 0 lo)==items.size)=ag):=by
  intro q;rw[Yl,Yl]at q;have q1:((dA items.size 0 lo:Nat):Int)=0:=eq_of_beq q.1.1;have q2:dA items.size items.size hi-dA items.size 0 lo=items.size:=eq_of_beq q.2;show hw #[by lia,by lia]
 change wpAny _ _ (if(((dA items.size 0 lo:Nat):Int)==0&&(1:Int)==1&&(dA items.size items.size hi-dA items.size 0 lo)==items.size)=ag then _ else _) _ _ s;rw[aI hno,GN];first
  |show Yb (m:=Wm _) (XI (Yh #[_,rfl,Yh h]) Bl)
  |show Yb (m:=Wm _) (XI (Yb (Yh (Yh #[_,rfl,Yh h]))) Bl)
  |show Yb (Yb (m:=Wm _) (XI (Yh (Yh #[_,rfl,Yh h])) Bl))
  |show Yb (Yb (m:=Wm _) (XI (Yh #[_,rfl,Yh h]) Bl))
end
end HT
namespace L2
open PySem PySem.Spec PyProof.Rows
abbrev TO:=St->Hp->(Option Int->Hp->Prop)->Prop
def PO(X:Cx)(e:Option Expr)(t:TO):Prop:=
 ∀(pins:3e2)(s:Shared)(σ:St)(H:Hp)(Q:Option Int->Hp->Prop),Inv X pins σ H s->t σ H Q->
  wpAny 3e0 X.A (evalPart e X.env) (λu s'=>∃o H',Inv X pins σ H' s'/\IsPart u o/\Q o H') X.xe s
noncomputable def Ma:TO:=λ_ H Q=>Q af H
noncomputable def VbK (t:TE):TO:=λσ H Q=>t σ H λx H1=>∃i,x=.int i/\Q (ae i) H1
section
variable{X:Cx}{e:Expr}{te:TE}{lo hi:Option Expr}{tl th:TO}{pos p2:Pos}
theorem MG:PO X af Ma:=by
 sleep 8;rw[evalPart_none];show Yh #[af,H,I,.none,h]
theorem MF(h:PE X e te):PO X (ae e) (VbK te):=by
 intro pins s σ H Q I hw;rw[evalPart_some];show dz (h pins s σ H _ I hw) λu s1 h_=>?_;let#[x,H1,I1,r1,q1]:=h_;let#[i,rfl,q]:=q1;let#[t,rfl]:=r1;show#[ae i,H1,I1,.int i t,q]
def B2(X:Cx)(r:V->Option Int->Option Int->Hp->VK->Prop):Prop:=
 ∀(pins:3e2)(s:Shared)(σ:St)(H:Hp)(x:V)(v vl vu:Value)(lo hi:Option Int)(sl:Addr)(Q:VK),Inv X pins σ H s->RelV x v->s.heap.IsSliceOf sl vl vu .none->IsPart vl lo->IsPart vu hi->r x lo hi H Q->
  ∃T id,WU (.type T) "__getitem__"=pure (ae (.builtin id))/\s.TypeIs v T/\wpAny 3e0 X.A (Ur v (.ref sl)) 18e0 X.xe s
theorem B2.or{r r':V->Option Int->Option Int->Hp->VK->Prop}(h:B2 X r)(h':B2 X r'):B2 X (λx lo hi H Q=>r x lo hi H Q\/r' x lo hi H Q):=by
 intro pins s σ H x v vl vu lo hi sl Q I rx hs pl pu q;rcases q with q|q
 .show h pins s σ H x v vl vu lo hi sl Q I rx hs pl pu q
 .show h' pins s σ H x v vl vu lo hi sl Q I rx hs pl pu q
noncomputable def tSl (r:V->Option Int->Option Int->Hp->VK->Prop)(te:TE)(tl th:TO):TE:=λσ H Q=>te σ H λx H1=>tl σ H1 λl H2=>th σ H2 λu H3=>r x l u H3 Q
theorem nh{r:V->Option Int->Option Int->Hp->VK->Prop}(hr:B2 X r)(he:PE X e te)(hl:PO X lo tl)(hu:PO X hi th):PE X (.Subscript e (.Slice lo hi af p2) pos) (tSl r te tl th):=by
 sleep 8;show Subscript_ (dz (he pins s σ H _ I h) λv s1 h_=>?_);let#[x,H1,I1,r1,q1]:=h_;show wpAny_Slice (dz (hl pins s1 σ H1 _ I1 q1) λvl s2 #[l,H2,I2,pl,q2]=>dz (hu pins s2 σ H2 _ I2 q2) λvu s3 h_=>?_);let#[u,H3,I3,pu,q3]:=h_;rw[evalPart_none];show Yh ?_;have I4:Inv X pins σ H3 {s3 with heap:=s3.heap.push {cls:=.type "slice",data:=.fields [vl,vu,.none].toArray}}:=I3.kept (t':=s3.toks) λb ob q=>Yc _ q;let#[T,id,hT,ht,hg]:=hr pins {s3 with heap:=s3.heap.push {cls:=.type "slice",data:=.fields [vl,vu,.none].toArray}} σ H3 x v vl vu l u s3.heap.objs.size Q I4 r1 (Heap.IsSliceOf.new ..) pl pu q3;change wpAny 3e0 X.A (subscriptTail e (.Slice lo hi af p2) v (.ref s3.heap.objs.size)) 18e0 X.xe {s3 with heap:=s3.heap.push {cls:=.type "slice",data:=.fields [vl,vu,.none].toArray}};show tail_any (ops:=[.ref s3.heap.objs.size,v]) ht hT hg (by with_unfolding_all rfl)
def wQ(xs:List V)(lo hi:Option Int):List V:=(xs.drop (HT.dA xs.length 0 lo)).take (HT.dA xs.length xs.length hi-HT.dA xs.length 0 lo)
theorem ZdJ(xs:List V)(lo hi:Option Int):(wQ xs lo hi).length<=xs.length:=by
 ext wQ;rw[Y8,WA];lia
def Ven(K:W.Frag):V->Option Int->Option Int->Hp->VK->Prop:=λx lo hi H Q=>∃a xs,x=.ref a/\jr K H a xs/\
 ¬(HT.dA xs.length 0 lo=0/\HT.dA xs.length xs.length hi=xs.length)/\∀p,H p=af->Q (.ref p) (upd H p (.tup (wQ xs lo hi)))
theorem Fq:B2 X (Ven X.K):=by
 intro pins s σ H x v vl vu lo hi sl Q I rx hs pl pu h;let#[a,xs,rfl,hx,hw,q]:=h;cases rx;let#[ba,r,ht,hz]:=I.tuple hx;have hlen:ba.toArray.size=xs.length:=by rw[Yj];show r.length.symm
 show#["tuple",_,Xa.lookup,ht.typeIs,?_];show HT.kD ht hs pl pu (by rw[hlen];show hw) ?_ (by rw[hlen];show hz);rw[hlen];show#[.ref s.heap.objs.size,_,I.laid (t':=s.toks) (o:=.tup (wQ xs lo hi)) (λb ob q=>Yc _ q) (Yo _) ?_,rfl,q _ (I.cR.fresh (Yo _))];show#[YC (ZdJ xs lo hi) hz,_,(r.drop (HT.dA xs.length 0 lo)).take (HT.dA xs.length xs.length hi-HT.dA xs.length 0 lo),IsTup.new _ _]
def Vcd(K:W.Frag):R2:=λx y H Q=>∃a b xs ys,x=.ref a/\y=.ref b/\jr K H a xs/\jr K H b ys/\xs≠[]/\xs.length+ys.length<=Yp/\
 (ys=[]->Q (.ref a) H)/\(ys≠[]->∀p,H p=af->Q (.ref p) (upd H p (.tup (xs++ys))))
theorem Vals.mx{xs:List V}{us:4e4}(r:Vals xs us):us=[]↔xs=[]:=by
 cases r with
 |nil=>simp
 |cons _ _=>simp
theorem MM:fV X (Wu .Add) (Vcd X.K):=by
 sleep 3;let#[a,b,xs,ys,rfl,rfl,ha,hb,hx,hz,q1,q2]:=h;cases rx;cases ry;let#[ba,r1,p1,_]:=I.tuple ha;let#[DL,r2,p2,_]:=I.tuple hb;show HT.Om p1 p2 (λz=>hx (r1.mx.mp z)) (λz=>#[.ref a,H,I,rfl,q1 (r2.mx.mp z)]) (λz=>?_) (by rw[←r1.length,←r2.length];show hz);show#[.ref s.heap.objs.size,_,I.laid (t':=s.toks) (o:=.tup (xs++ys)) (λb ob q=>Yc _ q) (Yo _) ?_,rfl,q2 (λw=>z (r2.mx.mpr w)) _ (I.cR.fresh (Yo _))];show#[by rw[YT];show hz,_,r1.append r2,IsTup.new _ _]
end
noncomputable def dW (n:Nat)(i:Int):Option Nat:=if 0<=i then(if i<n then ae i.toNat else af)else if -(n:Int)<=i then ae (i+n).toNat else af
def eo{α:Type}(xs:List α)(i:Int):Option α:=(dW xs.length i).bind λj=>xs[j]?
theorem Bi{i:Int}{j:Nat}(h:dW n i=ae j):UH i n=ae j/\j<n/\-(n:Int)<=i/\i<n:=by
 ext dW h;by_cases h0:0<=i
 .rw[aE h0]at h
  by_cases h1:i<n
  .rw[aE h1]at h
   have e:i.toNat=j:=Yz h;show#[by rw[seqIndex_of h0 h1,e],by lia,by lia,h1]
  .rw[aI h1]at h;cases h
 .rw[aI h0]at h
  by_cases h1:-(n:Int)<=i
  .rw[aE h1]at h
   have e:(i+n).toNat=j:=Yz h;show#[by rw[seqIndex_neg 3e5 h1,e],by lia,h1,by lia]
  .rw[aI h1]at h;cases h
theorem tX{xs:List α}{i:Int}{v:α}(h:eo xs i=ae v):∃j,UH i xs.length=ae j/\xs[j]? = ae v/\j<xs.length/\-(xs.length:Int)<=i/\i<xs.length:=by
 ext eo h;cases e:dW xs.length i with
 |none=>rw[e]at h;cases h
 |some j=>
  rw[e]at h;let#[h1,h2,h3,h4]:=Bi e;show#[j,h1,h,h2,h3,h4]
def mJ(b:Expr):Prop:=∀o i,subscripted b ah o i=operate [o,i] (Ur o i)
def Et(X:Cx)(r:R2):Prop:=
 ∀(value slice:Expr)(pins:3e2)(s:Shared)(σ:St)(H:Hp)(x y:V)(v u:Value)(Q:VK),Inv X pins σ H s->RelV x v->RelV y u->r x y H Q->
  subscripted slice ah v u=operate [v,u] (Ur v u)->wpAny 3e0 X.A (subscriptTail value slice v u) 18e0 X.xe s
def MtR(X:Cx)(id:String)(r:15e5):Prop:=
 ∀(pins:3e2)(s:Shared)(σ:St)(H:Hp)(x:V)(xs:List V)(v:Value)(us:4e4)(Q:VK),Inv X pins σ H s->RelV x v->Vals xs us->r x xs H Q->
  wpAny 3e0 X.A (call (.builtin id) (v::us)) 18e0 X.xe s
section
variable{X:Cx}{a b:Expr}{ta tb:TE}{pos:Pos}
theorem Et.or{r r':R2}(h:Et X r)(h':Et X r'):Et X (λx y H Q=>r x y H Q\/r' x y H Q):=by
 intro value slice pins s σ H x y v u Q I rx ry q hs;rcases q with q|q
 .show h value slice pins s σ H x y v u Q I rx ry q hs
 .show h' value slice pins s σ H x y v u Q I rx ry q hs
theorem Vcj{r:R2}(hr:Et X r)(ha:PE X a ta)(hb:PE X b tb)(hs:mJ b):PE X (.Subscript a b pos) (tOp r ta tb):=by
 sleep 8;show Subscript_ (VaT ha hb I h λv u s2 x y H2 I2 rx ry q=>hr a b pins s2 σ H2 x y v u Q I2 rx ry q (hs _ _))
def Vcb(K:W.Frag):R2:=λx y H Q=>∃p xs i v,x=.ref p/\y=.int i/\gL K H p xs/\eo xs i=ae v/\Q v H
def Vb9(K:W.Frag):R2:=λx y H Q=>∃p xs i v,x=.ref p/\y=.int i/\jr K H p xs/\eo xs i=ae v/\Q v H
def Vca:R2:=λx y H Q=>∃z i c,x=.str z/\y=.int i/\z.length<=Yp/\eo z.cps.toList i=ae c/\Q (.str ⟨#[c]⟩) H
theorem Ng:Et X (Vcb X.K):=by
 intro value slice pins s σ H x y v u Q I rx ry h hs;let#[p,xs,i,z,rfl,rfl,hq,he,q]:=h;cases rx;let#[t,rfl]:=ry;let#[ba,r,pl,hz]:=I.list hq;let#[j,h1,h2,h3,h4,h5]:=tX he;let#[w,ew,FQ]:=r.get h2;have hl:=r.length;have hn:=jW;have fin:EP X pins σ Q w s:=#[z,H,I,FQ,q]
 by_cases h0:0<=i
 .have hj:i.toNat=j:=by
   rw[seqIndex_of h0 h5]at h1;show Yz h1
  show item_listR pl.isList h0 3e5 (by rw[hj];simpa using ew) fin hs
 .have hj:(i+(ba.toArray.size:Int)).toNat=j:=by
   rw[seqIndex_neg 3e5 h4]at h1;rw[Yj,←hl];show Yz h1
  show subscriptTail_builtinR (x:=w) pl.isList.typeIs slot_list_getitem.lookup
   (wpAny_getItem_list_neg (Q:=λr s'=>r=w/\EP X pins σ Q r s') pl.isList 3e5 (by rw[Yj]<;>lia) 3e5 (by rw[hj];simpa using ew) #[rfl,fin]) hs
theorem ZV:Et X (Vb9 X.K):=by
 intro value slice pins s σ H x y v u Q I rx ry h hs;let#[p,xs,i,z,rfl,rfl,hq,he,q]:=h;cases rx;let#[t,rfl]:=ry;let#[ba,r,pl,hz]:=I.tuple hq;let#[j,h1,h2,h3,h4,h5]:=tX he;let#[w,ew,FQ]:=r.get h2;have hl:=r.length;have hn:=jW;have fin:EP X pins σ Q w s:=#[z,H,I,FQ,q]
 show subscriptTail_builtinR (x:=w) pl.typeIs slot_tuple_getitem.lookup
  (getItem_tuple (j:=j) (Q:=λr s'=>r=w/\EP X pins σ Q r s') pl 3e5 3e5 (by rw[Yj,←hl];show h1) (by simpa using ew) #[rfl,fin]) hs
theorem ZX:Et X Vca:=by
 intro value slice pins s σ H x y v u Q I rx ry h hs;let#[z,i,c,rfl,rfl,hz,he,q]:=h;sleep 9;let#[t',rfl]:=ry;let#[j,h1,h2,h3,h4,h5]:=tX he;have hl:z.cps.toList.length=z.length:=by simp[Str.length]
 rw[hl]at h1 h4 h5;have hn:=jW;show tail_any (typeIs_str s z t) slot_str_getitem.lookup (getItem_str (c:=c) (by
  have e1:decide (i < -(2^63:Int))=ah:=dm 3e5;have e2:decide (i≥2^63)=ah:=dm 3e5;rw[e1,e2,Bool.or_false]) (by rw[h1];simpa using h2) #[.str ⟨#[c]⟩,H,I.tok _,#[_,rfl],q]) hs
def rIx(K:W.Frag):R2:=λx y H Q=>Vcb K x y H Q\/Vb9 K x y H Q\/Vca x y H Q
theorem ZY:Et X (rIx X.K):=Ng.or (ZV.or ZX)
theorem yH(ba:4e4)(n j:Nat)(u:Value):X2 (·.setIfInBounds j u) {cls:=.type "list",data:=.seq ba.toArray n}={cls:=.type "list",data:=.seq (ba.set j u).toArray n}:=by
 simp[X2]
theorem Inv.lst{pins:3e2}{σ:St}{H:Hp}{s:Shared}{p:Addr}{xs:List V}(I:2e3)(h:H p=ae (.lst xs)):
  ∃(ba:4e4)(n:Nat),Vals xs ba/\s.heap.get? p=ae {cls:=.type "list",data:=.seq ba.toArray n}/\xs.length<=sizeLine:=by
 let#[z,ba,n,r,e]:=I.cR p _ h;show#[ba,n,r,e,z]
theorem Inv.ZI{s:Shared}{p:Addr}{xs ys:List V}{its':4e4}{n':Nat}{f:Obj->Obj}(I:2e3)(h:H p=ae (.lst xs))
  (ho:s.heap.get? p=ae {cls:=.type "list",data:=.seq ba.toArray n}) (hf:f {cls:=.type "list",data:=.seq ba.toArray n}={cls:=.type "list",data:=.seq its'.toArray n'}) (r:Vals ys its') (hz:ys.length<=Yp) (t:Nat):
  Inv X pins σ (upd H p (.lst ys)) {s with heap:=s.heap.update p f,toks:=t}:=by
 have e:(s.heap.update p f).get? p=ae {cls:=.type "list",data:=.seq its'.toArray n'}:=by
  rw[X6 f ho (by rw[hf]<;>rfl),hf]
 show I.write (x:=p) (e:=p) (by rw[h];trivial) 17e9 (λb u hb q=>(Vl _ _ (XD hb)).trans q) #[_,e] ?_;show#[hz,its',n',r,e]
def PK:V->V->V->Hp->(Hp->Prop)->Prop:=λo i v H Q=>∃p xs k j,o=.ref p/\i=.int k/\H p=ae (.lst xs)/\dW xs.length k=ae j/\Q (upd H p (.lst (xs.set j v)))
theorem set_list:Vdk X PK:=by
 intro pins s σ H o i v ov iv u Q I ro ri rv h;let#[p,xs,k,j,rfl,rfl,hp,hj,q]:=h;cases ro;let#[t,rfl]:=ri;let#[ba,n,r,ho,hz]:=I.lst hp;let#[h1,h2,h3,h4]:=Bi hj;have hl:=r.length;have hn:=jW;have I':Inv X pins σ (upd H p (.lst (xs.set j v))) {s with heap:=s.heap.update p (X2 (·.setIfInBounds j u))}:=
  I.ZI hp ho (yH ba n j u) (r.set rv j) (by rw[WL];show hz) s.toks
 by_cases h0:0<=k
 .have hk:k.toNat=j:=by
   rw[seqIndex_of h0 h4]at h1;show Yz h1
  show W.ki_setAt ho h0 3e5 (by rw[Yj,←hl];show h4) (by rw[hk];show#[_,I',q])
 .have hk:(k+(ba.toArray.size:Int)).toNat=j:=by
   rw[seqIndex_neg 3e5 h3]at h1;rw[Yj,←hl];show Yz h1
  show W.ki_setBack ho 3e5 (by rw[Yj,←hl];show h3) 3e5 (by rw[hk];show#[_,I',q])
theorem si(lo hi:Option Int)(n:Nat):(Vp lo hi af n).1=((HT.dA n 0 lo:Nat):Int)/\(Vp lo hi af n).2.1=((HT.dA n n hi:Nat):Int)/\(Vp lo hi af n).2.2=1:=by
 show#[?_,?_,rfl]
 .cases lo with
  |none=>simp[Vp,HT.dA]
  |some i=>
   erw[Vp,HT.dA,Option.getD_none,show(1:Int)>0 by decide,if_true]
   by_cases h:i<0
   .erw[h,if_true]<;>lia
   .erw[h,if_false]<;>lia
 .cases hi with
  |none=>simp[Vp,HT.dA]
  |some i=>
   erw[Vp,HT.dA,Option.getD_none,show(1:Int)>0 by decide,if_true]
   by_cases h:i<0
   .erw[h,if_true]<;>lia
   .erw[h,if_false]<;>lia
theorem pe(ba:4e4)(lo hi:Option Int):slicePick ba.toArray lo hi af=((ba.drop (HT.dA ba.length 0 lo)).take (HT.dA ba.length ba.length hi-HT.dA ba.length 0 lo)).toArray:=by
 let#[h1,h2,h3]:=si lo hi ba.toArray.size;ext slicePick;rw[h1,h2,h3]
 erw[sliceRange_one,pick_run,Yj]<;>rfl
def Vep(K:W.Frag):V->Option Int->Option Int->Hp->VK->Prop:=λx lo hi H Q=>∃a xs,x=.ref a/\gL K H a xs/\∀p,H p=af->Q (.ref p) (upd H p (.lst (wQ xs lo hi)))
theorem Af:B2 X (Vep X.K):=by
 intro pins s σ H x v vl vu lo hi sl Q I rx hs pl pu h;let#[a,xs,rfl,hx,q]:=h;cases rx;let#[ba,r,ht,hz]:=I.list hx;have hlen:=r.length;show#["list",_,slot_list_getitem.lookup,ht.isList.typeIs,?_];show wpAny_getItem_list_slice ht.isList hs pl pu .none 3e7 ?_ (by rw[Yj]<;>lia);rw[pe,←hlen];show#[.ref s.heap.objs.size,_,I.laid (t':=s.toks) (o:=.lst (wQ xs lo hi)) (λb ob q=>Yc _ q) (Yo _) ?_,rfl,q _ (I.cR.fresh (Yo _))];show#[YC (ZdJ xs lo hi) hz,_,0,(r.drop (HT.dA xs.length 0 lo)).take (HT.dA xs.length xs.length hi-HT.dA xs.length 0 lo),Yn _ rfl]
noncomputable def iV:V->Bool
 |.aS=>ag
 |.bl _=>ag
 |.int _=>ag
 |.str _=>ag
 |_=>ah
noncomputable def EF:V->V->Bool
 |.aS,.aS=>ag
 |.bl a,.bl b=>a==b
 |.bl a,.int b=>(if a then 1 else 0)==b
 |.int a,.bl b=>a==(if b then 1 else 0)
 |.int a,.int b=>a==b
 |.str a,.str b=>a==b
 |_,_=>ah
theorem Vao{A:Around}{s:Shared}{x:V}(ry:RelV y u)(rx:RelV x v)(fy:iV y=ag)(fx:iV x=ag):SeqAt.EqAt A s u v (EF y x):=by
 cases y with
 |aS=>
  cases ry;cases x with
  |aS=>cases rx;show SeqAt.EqAt.same _
  |bl b=>cases rx;show SeqAt.EqAt.none_bool b
  |int b=>let#[t,rfl]:=rx;show SeqAt.EqAt.none_int b t
  |str b=>let#[t,rfl]:=rx;show SeqAt.EqAt.none_str b t
  |_=>show absurd (show ah=ag from fx) Yt
 |bl a=>
  cases ry;cases x with
  |aS=>cases rx;show SeqAt.EqAt.bool_none a
  |bl b=>cases rx;show SeqAt.EqAt.bool_bool a b
  |int b=>let#[t,rfl]:=rx;show SeqAt.EqAt.bool_int a b t
  |str b=>let#[t,rfl]:=rx;show SeqAt.EqAt.bool_str a b t
  |_=>show absurd (show ah=ag from fx) Yt
 |int a=>
  let#[t',rfl]:=ry;cases x with
  |aS=>cases rx;show SeqAt.EqAt.int_none a t'
  |bl b=>cases rx;show SeqAt.EqAt.int_bool a t' b
  |int b=>let#[t,rfl]:=rx;show SeqAt.EqAt.int_int a t' b t
  |str b=>let#[t,rfl]:=rx;show SeqAt.EqAt.int_str a t' b t
  |_=>show absurd (show ah=ag from fx) Yt
 |str a=>
  let#[t',rfl]:=ry;cases x with
  |aS=>cases rx;show SeqAt.EqAt.str_none a t'
  |bl b=>cases rx;show SeqAt.EqAt.str_bool a t' b
  |int b=>let#[t,rfl]:=rx;show SeqAt.EqAt.str_int a t' b t
  |str b=>let#[t,rfl]:=rx;show SeqAt.EqAt.str_str a t' b t
  |_=>show absurd (show ah=ag from fx) Yt
 |_=>show absurd (show ah=ag from fy) Yt
def Jx(x:V)(u:Value):Bool:=match u with
 |.none=>EF .aS x
 |.bool b=>EF (.bl b) x
 |.int i _=>EF (.int i) x
 |.str z _=>EF (.str z) x
 |_=>ah
theorem zg{x:V}(r:RelV y u)(f:iV y=ag):Jx x u=EF y x:=by
 cases y with
 |aS=>cases r;rfl
 |bl b=>cases r;rfl
 |int i=>let#[t,rfl]:=r;rfl
 |str z=>let#[t,rfl]:=r;rfl
 |_=>show absurd (show ah=ag from f) Yt
theorem tZ{x:V}:∀{xs:List V}{us:4e4},Vals xs us->xs.all iV=ag->us.any (Jx x)=xs.any λy=>EF y x
 |_,_,.nil,_=>rfl
 |y::xs,u::us,.cons r t,f=>by
  rw[Xm,Yl]at f;rw[Xz,Xz,zg r f.1,tZ t f.2]
theorem Zc5{A:Around}{s:Shared}{x:V}{v:Value}(rx:RelV x v)(fx:iV x=ag):∀{xs:List V}{us:4e4},Vals xs us->xs.all iV=ag->∀u∈us,SeqAt.EqAt A s u v (Jx x u)
 |_,_,.nil,_=>λu hu=>by cases hu
 |y::xs,u::us,.cons r t,f=>λu' hu=>by
  rw[Xm,Yl]at f;rcases Ye.mp hu with rfl|hu
  .rw[zg r f.1];show Vao r rx f.1 fx
  .show Zc5 rx fx t f.2 u' hu
def inV(x:V)(xs:List V):Bool:=xs.any λy=>EF y x
def rIn(K:W.Frag)(neg:Bool):R2:=λx y H Q=>∃p xs,y=.ref p/\(gL K H p xs\/jr K H p xs)/\iV x=ag/\xs.all iV=ag/\Q (.bl (if neg then !inV x xs else inV x xs)) H
theorem Dr:fV X (Y6 .In) (rIn X.K ah):=by
 sleep 3;let#[p,xs,rfl,hq,fx,fs,q]:=h;cases ry;rcases hq with hq|hq
 .let#[ba,r,pl,hz]:=I.list hq
  show SeqAt.in_listAt (Jx x) pl.isList (λw hw=>Zc5 rx fx r fs w (by simpa using hw)) #[.bl _,H,I,rfl,?_];rw[show ba.toArray.any (Jx x)=ba.any (Jx x) by simp,tZ r fs];show q
 .let#[ba,r,pl,hz]:=I.tuple hq
  show SeqAt.in_tupleAt (Jx x) pl (λw hw=>Zc5 rx fx r fs w (by simpa using hw)) #[.bl _,H,I,rfl,?_];rw[show ba.toArray.any (Jx x)=ba.any (Jx x) by simp,tZ r fs];show q
theorem Zcz:gB X (.type "tuple") (λxs H Q=>∃p ys,xs=[.ref p]/\((gL X.K H p ys/\∀l,H l=af->Q (.ref l) (upd H l (.tup ys)))\/(jr X.K H p ys/\Q (.ref p) H))):=by
 intro pins s σ H xs us Q I r h;let#[p,ys,rfl,h]:=h;let#[u,rfl,rx]:=vals1 r;cases rx;rcases h with⟨hq,q⟩|⟨hq,q⟩
 .let#[ba,r',pl,hz]:=I.list hq
  have hlen:=r'.length;show call_tuple_list pl.isList (λh' kp=>?_) (by erw[Yj]<;>lia);have I1:Inv X pins σ H {s with heap:=h'}:=I.kept (t':=s.toks) kp;have I2:Inv X pins σ (upd H h'.objs.size (.tup ys)) {s with heap:=h'.push {cls:=.type "tuple",data:=.seq ba.toArray}}:=
   I1.laid (t':=s.toks) (λb o e=>Yc _ e) (Yo _) (show cw X.prog X.w _ _ _ (.tup ys)from#[hz,ba,r',IsTup.new _ _])
  show#[.ref h'.objs.size,_,I2,rfl,q _ (I1.cR.fresh (Yo _))]
 .let#[ba,r',pl,hz]:=I.tuple hq
  show call_tuple_same pl #[.ref p,H,I,rfl,q]
def tyV(K:W.Frag)(T:String)(x:V)(H:Hp):Prop:=match x with
 |.str _=>T="str"
 |.int _=>T="int"
 |.ref p=>(T="list"/\∃xs,gL K H p xs)\/(T="tuple"/\∃o,K.lookup p=ae o/\o.cls=.type "tuple"/\o.dict=af)\/
   (T="dict"/\((∃bA,H p=ae (.dK bA))\/∃bA,H p=ae (.dT bA)))\/(T="set"/\∃S n,H p=ae (.set S n))
 |_=>False
theorem EZ{s:Shared}{T:String}{x:V}(I:2e3)(r:RelV x v)(ty:tyV X.K T x H):
  s.TypeIs v T/\∀a,v=.ref a->∃ob,s.heap.get? a=ae ob/\ob.dict=af:=by
 cases x with
 |str z=>
  let#[t,rfl]:=r;cases(show T="str" from ty);show#[typeIs_str s z t,λ_ e=>nomatch e]
 |int i=>
  let#[t,rfl]:=r;cases(show T="int" from ty);show#[typeIs_int s i t,λ_ e=>nomatch e]
 |ref p=>
  cases r;rcases ty with⟨rfl,xs,hq⟩|⟨rfl,o,hk,hc,hd⟩|⟨rfl,hk⟩|⟨rfl,S,n,hk⟩
  .let#[ba,_,pl,_]:=I.list hq
   show#[pl.isList.typeIs,λa e=>?_];cases e;let#[o,n,e,c,hd,_]:=pl;show#[o,e,hd]
  .show#[#[o,I.jY p o hk,hc],λa e=>?_]
   cases e;show#[o,I.jY _ o hk,hd]
  .have z:∃o,s.heap.get? p=ae o/\o.ExactDict:=by
    rcases hk with⟨bA,hk⟩|⟨bA,hk⟩
    .let#[_,_,_,_,o,_,_,e,ex,_]:=I.cR p _ hk
     show#[o,e,ex]
    .let#[_,_,_,_,o,_,_,e,ex,_]:=I.cR p _ hk
     show#[o,e,ex]
   let#[o,e,ex]:=z;show#[#[o,e,ex.1],λa e2=>?_];cases e2;show#[o,e,ex.2.1]
  .let#[o,_,_,_,e,ex,_]:=I.cR p _ hk
   show#[#[o,e,ex.1],λa e2=>?_];cases e2;show#[o,e,ex.2.1]
 |_=>show Xu ty
noncomputable def tBM (K:W.Frag)(T:String)(r:15e5)(to:TE)(t:TA):TE:=λσ H Q=>to σ H λx H1=>tyV K T x H1/\t σ H1 λxs H2=>r x xs H2 Q
variable{o e:Expr}{es:7e0}{to:TE}{t:TA}{name:Str}{apos cc:Pos}{T id:String}{r:15e5}
theorem An(pa:PlainAttrs T)(slot:Slot T name id)(Lz:typeOf (.builtin id)=pure (.type "method_descriptor"))(hm:MtR X id r)(ho:PE X o to)(ha:PA X 4e8 t)
  (eO:XM o name X.env (eval o X.env)=eval o X.env:=by rfl)
  (hX:((backTo cc (Yg 4e8 X.env)).all (λx=>!x.1)&&(Vv cc (Wb [] X.env)).all 15e2
   &&decide ((e::es).length+([]:List Wc).length+(if([]:List Wc).isEmpty then 0 else 1)<30))=ag:=by rfl)
  (eN:9e8:=by rfl) (hs:1e3:=by rfl) (dg:7e5:=by rfl):
  PE X (.Call (.Attribute o name apos) 4e8 [] cc) (tBM X.K T r to t):=by
 sleep 8;show wpAny_Call_method_late eO hX eN rfl (dz (ho pins s σ H _ I h) λv s1 h_=>?_);let#[x,H1,I1,r1,ty,q1]:=h_;let#[h1,h2]:=EZ I1 r1 ty;show#[T,id,pa,slot,Lz,h1,h2,?_];have hA:=ha cc pins s1 σ H1 _ I1 q1;rw[hs]at hA⊢;show Calls.callWith_builtin (by change(ah||(backTo cc (Yg es X.env)).any (·.1))=ah;rw[dg]<;>rfl) (Calls.evalArgs_plain ?_);show dz hA λus s2 #[vs,H2,I2,r2,q2]=>hm pins s2 σ H2 x vs v us Q I2 r1 r2 q2
end
def MtM(X:Cx)(id:String)(r:15e5):Prop:=
 ∀(pins:3e2)(s:Shared)(σ:St)(H:Hp)(x:V)(xs:List V)(v:Value)(us:4e4)(Q:VK),Inv X pins σ H s->RelV x v->Vals xs us->r x xs H Q->
  wpAny 3e0 X.A (call (.builtin id) (v::us)) 18e0 X.xe s
theorem Vals.one:∀{x:V}{us:4e4},Vals [x] us->∃u,us=[u]/\RelV x u:=by
 intro x us r;cases r with
 |cons r t=>cases t;show#[_,rfl,r]
theorem Vals.two{x:V}{us:4e4}(h:Vals [x,y] us):∃u v,us=[u,v]/\RelV x u/\RelV y v:=by
 cases h with
 |cons r h=>cases h with
  |cons q h=>cases h;show#[_,_,rfl,r,q]
theorem Vals.eraseIdx:∀{xs:List V}{us:4e4}(i:Nat),Vals xs us->Vals (xs.eraseIdx i) (us.eraseIdx i)
 |_,_,_,.nil=>.nil
 |_,_,0,.cons _ t=>t
 |_,_,i+1,.cons r t=>.cons r (Vals.eraseIdx i t)
theorem qC{α:Type}:∀(l:List α)(i:Nat),(l.eraseIdx i).length<=l.length
 |[],_=>Yo _
 |_::_,0=>Nat.le_succ _
 |_::r,i+1=>Nat.succ_le_succ (qC r i)
section
variable{X:Cx}{pins:3e2}{σ:St}{H:Hp}{s:Shared}{l b:Addr}{xs ys zs:List V}
theorem Inv.ZK{its':4e4}{f:Array Value->Array Value}{t':Nat}(I:2e3)(hH:H l=ae (.lst xs))
  (e:s.heap.get? l=ae {cls:=.type "list",data:=.seq ba.toArray n}) (hf:f ba.toArray=its'.toArray) (hv:Vals ys its') (hz:ys.length<=Yp):
  Inv X pins σ (upd H l (.lst ys)) {s with heap:=s.heap.update l (X2 f),toks:=t'}:=by
 have q:=PySem.IsL.update e f;rw[hf]at q;show I.write (x:=l) (e:=l) (by rw[hH];show trivial) 17e9 (λb' u hb hu=>(Vl s.heap (X2 f) (XD hb)).trans hu) #[_,q] ?_;show#[hz,its',_,hv,q]
theorem Inv.Vex{t':Nat}(I:2e3)(hv:Vals ys ba)(hz:ys.length<=Yp):
  Inv X pins σ (upd H s.heap.objs.size (.lst ys)) {s with heap:=s.heap.push {cls:=.type "list",data:=.seq ba.toArray},toks:=t'}:=
 I.laid (λ_ _ q=>Yc _ q) (Yo _) #[hz,ba,0,hv,Yn _ rfl]
theorem Inv.fresh(I:2e3):H s.heap.objs.size=af:=I.cR.fresh (Yo _)
theorem Inv.ZJ(I:2e3)(hH:H l=ae (.lst xs)):xs.length<=Yp/\∃(ba:4e4)(n:Nat),Vals xs ba/\xs.length=ba.length/\s.heap.get? l=ae {cls:=.type "list",data:=.seq ba.toArray n}:=by
 let#[z,ba,n,r,e]:=I.cR l _ hH;show#[z,ba,n,r,r.length,e]
end
section
variable{X:Cx}
def Mt:V->List V->Hp->VK->Prop:=λx vs H Q=>∃l xs y,x=.ref l/\vs=[y]/\H l=ae (.lst xs)/\xs.length<Yp/\Q .aS (upd H l (.lst (xs++[y])))
theorem qw:MtM X "list.append" Mt:=by
 intro pins s σ H x vs v us Q I rx rv h;let#[l,xs,y,rfl,rfl,hH,hz,q]:=h;cases rx;let#[u,rfl,ru]:=rv.one;let#[z,ba,n,r,hl,e]:=I.ZJ hH;show UC F.slot_list_append #[_,e,rfl] F.entry_list_append (F.args_list_append_2 _ _) (PySem.list_append l ba.toArray n u (by rw[Yj];lia)) #[e,?_];show#[.aS,_,I.ZK (its':=ba++[u]) hH e 3e7 (r.append (.cons ru .nil)) ?_,rfl,q];rw[YT,List.length_singleton];lia
def Tu:V->List V->Hp->VK->Prop:=λx vs H Q=>∃l xs i k y,x=.ref l/\vs=[.int i]/\H l=ae (.lst xs)/\-(2^63)<=i/\i<2^63/\UH i xs.length=ae k/\xs[k]? = ae y/\Q y (upd H l (.lst (xs.eraseIdx k)))
theorem Hj:MtM X "list.pop" Tu:=by
 intro pins s σ H x vs v us Q I rx rv h;let#[l,xs,i,k,y,rfl,rfl,hH,h1,h2,hk,hy,q]:=h;cases rx;let#[u,rfl,ru]:=rv.one;let#[t,rfl]:=ru;let#[z,ba,n,r,hl,e]:=I.ZJ hH;let#[w,hw,FQ]:=r.get hy;show UC F.slot_list_pop #[_,e,rfl] F.entry_list_pop (F.args_list_pop_2 _ _)
  (MeetsSeq.list_pop_at l ba.toArray n i t k w (fitsIndex_both h1 h2) (by rw[Yj,←hl];show hk) (by rw[←Array.getElem?_toList];show hw) (by rw[Yj];lia)) #[e,?_]
 show#[y,_,I.ZK (its':=ba.eraseIdx k) hH e ?_ (r.eraseIdx k) ?_,FQ,q]
 .change ba.toArray.eraseIdxIfInBounds k=(ba.eraseIdx k).toArray
  rw[List.eraseIdxIfInBounds_toArray]
 .have:=qC xs k
  lia
end
end L2
namespace Att
open PySem PySem.W PySem.Calls PyProof.Rows
theorem Zdw{P:Params}:∀(ns:List Int)(vs:4e4),WellAll P h vs (ns.map WData.int)->IntsAre vs ns:=by
 intro ns;induction ns with
 |nil=>
  intro vs w;rw[Wt]at w;cases w;show .nil
 |cons n ns ih=>
  intro vs w;rw[Yi]at w;cases w with
  |cons a b=>
   cases a;show .cons _ _ (ih _ b)
theorem CT{l:OpenLaw}(hn:l.most=ae n){P:Params}{args:List WData}{vals:4e4}
    (Nw:l.row.toRowW.claim.pre args=ag) (hwl:WellAll P h vals args):
    ∃a vs ns,vals=[YI a]/\args=[WData.list (ns.map WData.int)]/\h.get? a=ae {cls:=.type "list",data:=.seq vs.toArray}/\IntsAre vs ns/\ns.length<=n:=by
  have hsh:WShape.hasAll [] args [.list .int]=ag:=(pre_splitW Nw).1;have hc:l.pre.holds [] {args:=args}=ag:=(pre_splitW Nw).2;let#[d,r,rfl,h1,h2]:=hasAllW_cons hsh;obtain rfl:=hasAllW_nil h2;let#[xs,rfl,h3]:=hasW_list h1;let#[ns,rfl]:=items_int h3;have hlen:ns.length<=n:=by
    ext OpenLaw.pre hc;have h4:(WTm.not (.lt (.lit (.int (n:Int))) (.len (.arg 0)))).holds [] {args:=[.list (ns.map .int)]}=ag:=by
      have h4:=(holds_andW hc).1;rw[hn]at h4;show h4
    have h5:=condW_of h4 (w_not (w_lt w_lit (w_len_list (w_arg rfl))));rw[Yk]at h5;show Nat.le_of_not_lt λq=>?_;have q':(n:Int)<((ns.length:Nat):Int):=by lia
    first
      |(rw[eF q']at h5;show absurd h5 (by decide))
      |(simp at h5;lia)
  cases hwl with
  |cons w1 w2=>
    cases w2;cases w1 with
    |list ho VeZ=>show#[_,_,ns,rfl,rfl,ho,Zdw ns _ VeZ,hlen]
theorem Dk(l:OpenLaw)(args:List WData):l.row.toRowW.claim.post args (.bool ag) args=ag:=
 postW_of (r:=l.row.toRowW) (X:=(ag==ag))
  (show WShape.has [] (.bool ag) .bool=ag by first|rfl|decide|simp[WShape.has,WShape.arms,WShape.armsAll])
  (show(WTm.eq .res (.lit (.bool ag))).value [] {args:=args,res:=some (.bool ag),after:=args}=ae (.bool (ag==ag))from w_eq_bool (w_res rfl) w_lit) rfl
theorem xj{l:OpenLaw}{q:Yy}{XP:(Str->Option Value)->Heap->Prop}{YP:World->Heap->Prop}{d:DefRec}
  (hn:l.most=ae n) (hdf:d.params.defaults=[])
  (call:∀(w:World)(s₀ s₁:Shared)(mg mb:5e1)(fa:Addr)(o:Obj)(pm cd doc:Value)(a:Addr)(vs:4e4)(ns:List Int),
   Ground q loose [] XP w s₀ mg mb s₁.heap->YP w s₁.heap->
   s₁.heap.get? fa=ae o->o.data=.func (docDef d.name d.params d.body d.scope pm cd doc)->s₁.heap.CodeRec cd d.name->mg d.name=ae (.ref fa)->
   s₁.heap.get? a=ae {cls:=.type "list",data:=.seq vs.toArray}->IntsAre vs ns->ns.length<=n->s₁.gens=#[]->
   VQ (model l.prog w) UO (.call (.ref fa) #[[.ref a],[]]) (λr s'=>r=.ok (.ret (.bool ag))/\OldK s₁.heap s'.heap/\s'.os=s₁.os/\Uc s'.gens) s₁):
  WalkO q loose XP YP l.row.toRowW d [] (λf vs=>PySem.call f vs):=by
 intro w s₀ s₁ mg mb G Y fa o pm cd doc dV kV ho hd me hD HJ hg args vals as Nw Vfm hrd hwl Qw;obtain rfl:dV=.none:=Dflts.none hD hdf;obtain rfl:kV=.none:=Dflts.noKw hD;let#[a,vs,ns,rfl,rfl,Vab,hints,hlen]:=CT hn Nw hwl;show enter_call (V0 (call w s₀ s₁ mg mb fa o pm cd doc a vs ns G Y ho (fd_plain hd) me HJ Vab hints hlen hg) λr s' hq=>?_);let#[rfl,h2,h3,h4]:=hq;show#[.inl #[.bool ag,.bool ag,[],rfl,λ_=>rfl,.bool ag,Dk l _,λ_=>#[List.Pairwise.nil,λ_ hm=>(nomatch hm)]],h2,h3,h4]
end Att
namespace L2
open PySem PySem.Spec PyProof.Rows
theorem pS:∀{vs:4e4}{ns:List Int},IntsAre vs ns->Vals (ns.map V.int) vs
 |_,_,.nil=>.nil
 |_,_,.cons n t h=>.cons #[t,rfl] (pS h)
def Vdl(H:Hp):Prop:=∀b,H b=af\/∃o xs,H b=ae (.yX o (.lst xs))
theorem Hq{P:Yy}{mb:5e1}{CX:zP}{k:Nat}{fa:Addr}{sp:Sp}{s₁:Shared}{vs:4e4}{ns:List Int}
  (KX:K.In s₁.heap) (hns:s₁.heap.Ns Xb mg) (hb:s₁.heap.Ns builtinsNs mb) (hbb:∀x:Str,x≠"__name__"->mb x=Y0 x) (VeK:s₁.heap.NoLimit) (hg:s₁.gens=#[])
  (ha:s₁.heap.get? a=ae {cls:=.type "list",data:=.seq vs.toArray}) (hi:IntsAre vs ns) (hl:ns.length<=Yp) (hr:dy k UO)
  (F:∀base:Heap,K.In base->base.Ns Xb mg->aO P w K mg base CX k fa fd [x] sp) (VcQ:∀(s:Shared)(u:Value),BindsTo s fd #[[u],[]] [(x,u)])
  (LA:∀H:Hp,Vdl H->gL K H a (ns.map V.int)->sp [.ref a] H (λv _=>v=.bl ag) λ_ _ _=>False)
  (hCX:∀H e s',CX [] H s₁ (λ_ _ _=>False) e s'->False):
  VQ (model P w) UO (.call (.ref fa) #[[.ref a],[]]) (λr s'=>r=.ok (.ret (.bool ag))/\OldK s₁.heap s'.heap/\s'.os=s₁.os/\Uc s'.gens) s₁:=by
 have rv:=pS hi;have Vey:=hi.length;have core:∀H:Hp,Vdl H->gL K H a (ns.map V.int)->ke P w H s₁.heap->(∀b,H b≠af->b=a)->(H a≠af->K.lookup a=af)->
   VQ (model P w) UO (.call (.ref fa) #[[.ref a],[]]) (λr s'=>r=.ok (.ret (.bool ag))/\OldK s₁.heap s'.heap/\s'.os=s₁.os/\Uc s'.gens) s₁:=by
  intro H hO hS cR hA hK;have BJ:∀{b:Addr}{o:Obj},s₁.heap.get? b=ae o->H b=af->(tj s₁.heap H).get? b=ae o:=λe n=>HK e n;have noA:∀{b:Addr}{o:Obj}{es:Array WI}{ep:Nat},s₁.heap.get? b=ae o->o.data=.dict es ep->H b=af:=λ{b o es ep} e d=>by
   cases q:H b with
   |none=>rfl
   |some u=>
    have e':b=a:=hA b (by rw[q];simp);subst e';rw[ha]at e;cases e;have d':Data.seq vs.toArray _=Data.dict es ep:=d;cases d'
  have nsK:∀{b:Addr}{m:5e1},s₁.heap.Ns b m->(tj s₁.heap H).Ns b m:=λ{b m} #[o,es,ep,e,d,r]=>#[o,es,ep,BJ e (noA e d),d,r]
  have hKb:K.In (tj s₁.heap H):=λb o e=>BJ (KX b o e) (by
   cases q:H b with
   |none=>rfl
   |some u=>
    have e':b=a:=hA b (by rw[q];simp);subst e';rw[hK (by rw[q];simp)]at e;cases e)
  have hM:Mod K mg (tj s₁.heap H):=#[hKb,nsK hns,#[mb,nsK hb,hbb],let#[mc,h1,h2]:=VeK;#[mc,nsK h1,h2]]
  have e0:zO P w K mg (tj s₁.heap H) UO [] s₁ H:=#[rfl,hM,λb o e=>MS e,Nat.le_of_eq (DU _ _),trivial,λb hb=>absurd (show b∈([]:List Addr)from hb) 3e7,cR,.of_eq hg]
  show V0 ((F _ hKb (nsK hns)).run UO [] s₁ H #[[.ref a],[]] [.ref a] [.ref a] _ _ hr e0 (VcQ s₁ (.ref a)) (.cons rfl .nil) (LA H hO hS)) λr s' h=>?_;cases r with
  |error e=>show(hCX H e s' h).elim
  |ok fl=>
   cases fl with
   |next=>show Xu h
   |brk=>show Xu h
   |cont=>show Xu h
   |ret u=>
    let#[v,H',os,bare,un,VeF,r',q]:=h;have q':v=.bl ag:=q;subst q';obtain rfl:u=VL ag:=r';show#[rfl,OldK.of_keep λb o e=>?_,os,bare];cases q:H b with
    |none=>show un.keep b o e q (by intro z;show absurd (show b∈([]:List Addr)from z) 3e7) 3e7
    |some u=>
     rcases hO b with z|⟨ob,xs,z⟩
     .rw[q]at z;cases z
     .have z2:=un.gi b ob _ z
      let#[e1,_]:=cR b _ z;let#[e2,_]:=VeF b _ z2;rw[e]at e1;cases e1;show e2
 cases hk:K.lookup a with
 |some o=>
  have e:=KX a o hk;rw[ha]at e;cases e;show core (λ_=>af) (λ_=>.inl rfl) (.inr #[_,vs.toArray,_,hk,rfl,rfl,rfl,by rw[Yj,Vey];show hl,by simpa using rv]) (λb u z=>by have z':(af:Option HO)=ae u:=z;cases z') (λb z=>absurd rfl z) λz=>absurd rfl z
 |none=>
  show core (λb=>if b=a then ae (.yX {cls:=.type "list",data:=.seq vs.toArray} (.lst (ns.map V.int)))else af) (λb=>?_) (.inl (.inr #[{cls:=.type "list",data:=.seq vs.toArray},aE rfl])) (λb u z=>?_) (λb z=>?_) λ_=>hk
  .by_cases hb:b=a
   .show .inr #[_,_,aE hb]
   .show .inl (aI hb)
  .by_cases hb:b=a
   .have z':=(aE hb).symm.trans z
    cases z';subst hb;show#[ha,by rw[Yk];show hl,vs,_,rv,ha]
   .have z':=(aI hb).symm.trans z
    cases z'
  .by_cases hb:b=a
   .show hb
   .show absurd (aI hb) z
noncomputable abbrev cu:zP:=λ_ _ _ _ _ _=>False
noncomputable abbrev E0:XK:=λ_ _ _=>False
theorem Ap:Passes cu X E0:=λ_ _ _ _ _ _ _ h=>h.elim
structure eD(K:W.Frag)(x qual:Str)(st:Stmt)(f:Addr)(fd:WR):Prop where
 ex:∃(oc:Value)(od:Option Addr)(kV doc pm:Value)(an:Option Addr)(cdv ct:Value)(osl:Array (Option Value)),
  fd=W.fnOf x qual (fh st) (cO st) 12e5 .none kV doc pm an cdv ct/\K.lookup f=ae #[oc,od,.func fd,osl]/\W.codeIn K cdv qual=ag
 kp:YD K (.ref f)=ag
section
variable{P:Yy}{w:World}{K:W.Frag}{mg:5e1}{base:Heap}
theorem eD.ok{N ps:2e2}{k:Nat}{sp:Sp}(F:eD K x qual st f fd)(S:aP N ps 12e5)(len:∀vs H Q E,sp vs H Q E->vs.length=ps.length)
  (fB:∀(cdv:Value)(A:Around)(outer:List Env)(s:Shared)(H:Hp)(vs:List V)(Q:VK)(E:XK),dy k 10e1->sp vs H Q E->
   ∃t,i8 (gJ cu P w K mg base N qual (aK st) f cdv A outer s H E).Ey (cO st) t/\t {nx:=λ_ H'=>Q .aS H',rt:=Q} (start N vs) H):aO P w K mg base cu (k+1) f fd ps sp:=by
 let#[oc,od,kV,doc,pm,an,cdv,ct,osl,rfl,lk,me]:=F.ex;show H9 lk me S len λA outer s H vs Q E hr LA=>?_;let#[t,h,q]:=fB cdv A outer s H vs Q E hr LA;show#[t,h.Ey,q]
theorem eD.binds{ps:2e2}(F:eD K x qual st f fd)
  (h:∀(kV doc pm:Value)(an:Option Addr)(cdv ct:Value)(us:4e4),us.length=ps.length->bindArgs (W.fnOf x qual (fh st) (cO st) 12e5 .none kV doc pm an cdv ct) #[us,[]]=pure (ps.zip us)):Binds K fd ps []:=by
 let#[oc,od,kV,doc,pm,an,cdv,ct,osl,rfl,lk,me]:=F.ex;show .all (h kV doc pm an cdv ct)
theorem Vai{oc:Value}{od an:Option Addr}{osl:Array (Option Value)}{kV doc pm cdv ct:Value}(l:K.lookup f=ae #[oc,od,.func (W.fnOf x qual (fh st) (cO st) 12e5 .none kV doc pm an cdv ct),osl])
  (c:W.codeIn K cdv qual=ag) (k:YD K (.ref f)=ag):eD K x qual st f (W.fnOf x qual (fh st) (cO st) 12e5 .none kV doc pm an cdv ct):=#[#[oc,od,kV,doc,pm,an,cdv,ct,osl,rfl,l,c],k]
end
theorem Zav{A:Around}{k:Nat}(hr:dy k A):A.units+1<cLine:=Nat.lt_of_le_of_lt (Nat.add_le_add_left (by decide:1<=64) _) hr.units
section
variable{X:Cx}
theorem pv(i:Nat)(hN:11e7:=by rfl)(hv:Eo X.env.scope x:=by first|show Or.inl rfl|show Or.inr 1e7|show Or.inr (Or.inr rfl))(hd:4e1:=by decide)
  (me:(x==("__classdict__":Str))=ah:=by decide):PE X (.Name x pos) (Sx i):=sJ hN hv hd me
end
theorem Nj{A B:Prop}(h:B):if ah=ag then A else B:=by
 rw[aI Yt];show h
theorem VcC{A B:Prop}(h:A):if ag=ag then A else B:=by
 rw[aE rfl];show h
end L2
set_option maxHeartbeats 4000000
namespace L2
open PySem PySem.Spec PyProof.Rows
section
variable{κ:Type} [DecidableEq κ]
noncomputable def kW (bA:List (κ×V))(k:κ):Option V:=(bA.find? λkv=>decide (kv.1=k)).map (·.2)
noncomputable def putK (bA:List (κ×V))(k:κ)(v:V):List (κ×V):=
 if(bA.any λkv=>decide (kv.1=k))=ag then bA.map (λkv=>if kv.1=k then(kv.1,v)else kv)else bA++[(k,v)]
theorem ZcU{p:κ×V}{r:List (κ×V)}{k:κ}(e:p.1=k):kW (p::r) k=ae p.2:=by simp[kW,Wn,e]
theorem ZcV{p:κ×V}{r:List (κ×V)}{k:κ}(e:¬p.1=k):kW (p::r) k=kW r k:=by simp[kW,Wn,e]
theorem uM(k:κ):∀bA:List (κ×V),(bA.any λkv=>decide (kv.1=k))=(kW bA k).isSome
 |[]=>rfl
 |p::r=>by
  rw[Xz];by_cases e:p.1=k
  .erw[ZcU e,eF e,V1,Option.isSome_some]
  .rw[ZcV e,dm e,VI];show uM k r
theorem Zds(bA:List (κ×V))(k:κ)(v:V):(putK bA k v).length<=bA.length+1:=by
 ext putK;split
 .rw[Yk];lia
 .rw[YT,YB,Wo];lia
theorem oE.DP{o:Option V}{u:Option Value}(r:oE o u):o.isSome=u.isSome:=by
 cases o with
 |none=>cases u with
  |none=>rfl
  |some _=>show(show False from r).elim
 |some _=>cases u with
  |none=>show(show False from r).elim
  |some _=>rfl
theorem KV.val{bA:List (κ×V)}{vs:List (κ×Value)}(r:KV bA vs)(k:κ):oE (kW bA k) (UQ vs k):=by
 ext KV r;induction r with
 |nil=>show Wl
 |@cons p q ps qs h t ih=>
  let#[h1,h2]:=h;by_cases e:p.1=k
  .have e':q.1=k:=h1.symm.trans e
   have b:UQ (q::qs) k=ae q.2:=by simp[UQ,Wn,e']
   rw[ZcU e,b];show h2
  .have e':¬q.1=k:=λz=>e (h1.trans z)
   have b:UQ (q::qs) k=UQ qs k:=by simp[UQ,Wn,e']
   rw[ZcV e,b];show ih
theorem KV.any{bA:List (κ×V)}{vs:List (κ×Value)}(r:KV bA vs)(k:κ):(bA.any λkv=>decide (kv.1=k))=vs.any λkv=>decide (kv.1=k):=by
 ext KV r;induction r with
 |nil=>rfl
 |cons h t ih=>rw[Xz,Xz,ih,h.1]
theorem KV.Ti{bA:List (κ×V)}{vs:List (κ×Value)}(r:KV bA vs)(k:κ)(ry:RelV y u):
  KV (bA.map λkv=>if kv.1=k then(kv.1,y)else kv) (vs.map λkv=>if kv.1=k then(kv.1,u)else kv):=by
 unfold KV at r⊢;induction r with
 |nil=>show .nil
 |@cons p q ps qs h t ih=>
  rw[Yi,Yi];show .cons ?_ ih;let#[h1,h2]:=h;by_cases e:p.1=k
  .rw[aE e,aE (h1.symm.trans e)];show#[h1,ry]
  .rw[aI e,aI (λz=>e (h1.trans z))];show#[h1,h2]
theorem KV.put{bA:List (κ×V)}{vs:List (κ×Value)}(r:KV bA vs)(k:κ)(ry:RelV y u):KV (putK bA k y) (stored vs k u):=by
 unfold putK stored;rw[r.any k];by_cases e:(vs.any λkv=>decide (kv.1=k))=ag
 .rw[aE e,aE e];show r.Ti k ry
 .rw[aI e,aI e];show Paired.snoc r #[rfl,ry]
theorem KV.length{bA:List (κ×V)}{vs:List (κ×Value)}(r:KV bA vs):bA.length=vs.length:=VF r
end
theorem Hz{P:Yy}{k:Key}(r:RelV (kV k) u):(dF P w).is k u=ag:=by
 cases k with
 |inl i=>let#[t,e]:=(show ∃t,u=Value.int i t from r);subst e;show vH P w i t
 |inr x=>let#[t,e]:=(show ∃t,u=Value.str x t from r);subst e;show vG P w x t
theorem qI{P:Yy}{w:World}:∀{ks:List Key}{us:4e4},Vals (ks.map kV) us->ItemsAre (dF P w) ks us
 |[],_,r=>by rw[Wt]at r;cases r;show .nil
 |k::ks,_,r=>by
  rw[Yi]at r;cases r with
  |cons h t=>show .cons (Hz h) (qI t)
abbrev KT(H:Hp):List (List Key×V)->List 12e9->Prop:=Paired λp q=>p.1=q.1/\H q.2.1=ae (.tup (p.1.map kV))/\RelV p.2 q.2.2
theorem KT.val{bA:List (List Key×V)}{xs:List 12e9}(r:KT H bA xs)(k:List Key):oE (kW bA k) ((atKey xs k).map (·.2)):=by
 induction r with
 |nil=>show Wl
 |@cons p q ps qs h t ih=>
  let#[h1,_,h2]:=h;by_cases e:p.1=k
  .have e':q.1=k:=h1.symm.trans e
   have b:atKey (q::qs) k=ae q.2:=by simp[atKey,Wn,e']
   rw[ZcU e,b];show h2
  .have e':¬q.1=k:=λz=>e (h1.trans z)
   have b:atKey (q::qs) k=atKey qs k:=by simp[atKey,Wn,e']
   rw[ZcV e,b];show ih
theorem KT.Ti{bA:List (List Key×V)}{xs:List 12e9}(r:KT H bA xs)(k:List Key)(ry:RelV y u):
  KT H (bA.map λkv=>if kv.1=k then(kv.1,y)else kv) (xs.map (putAt k u)):=by
 induction r with
 |nil=>show .nil
 |@cons p q ps qs h t ih=>
  rw[Yi,Yi];show .cons ?_ ih;let#[h1,h2,h3]:=h;ext putAt;by_cases e:p.1=k
  .rw[aE e,aE (h1.symm.trans e)];show#[h1,h2,ry]
  .rw[aI e,aI (λz=>e (h1.trans z))];show#[h1,h2,h3]
theorem KT.put{bA:List (List Key×V)}{xs:List 12e9}(r:KT H bA xs)(k:List Key)(hb:H b=ae (.tup (k.map kV)))(ry:RelV y u):
  KT H (putK bA k y) (storedH xs k b u):=by
 have e:(bA.any λkv=>decide (kv.1=k))=(atKey xs k).isSome:=by
  rw[uM,(r.val k).DP,V7]
 unfold putK storedH;rw[e];by_cases q:(atKey xs k).isSome=ag
 .rw[aE q,aE q];show r.Ti k ry
 .rw[aI q,aI q];show Paired.snoc r #[rfl,hb,ry]
theorem KT.keeps{bA:List (List Key×V)}{xs:List 12e9}(r:KT H bA xs)(ht:∀b ys,H b=ae (.tup ys)->H' b=ae (.tup ys)):KT H' bA xs:=
 Paired.ZE r λ_ _ z=>#[z.1,ht _ _ z.2.1,z.2.2]
section
variable{P:Yy}{w:World}{H:Hp}{h:Heap}{a:Addr}
theorem PJ{u:HO}(ok:ke P w H h)(e:Rd H a u):cw P w H h a u:=e.ok ok
theorem BD{bA:List (Key×V)}(ok:ke P w H h)(e:Rd H a (.dK bA)):bA.length<=Yp/\(a==XG)=ah/\∃vs,KV bA vs/\h.DictOf (dF P w) a vs:=
 show cw P w H h a (.dK bA)from PJ ok e
theorem Vc8{bA:List (Key×V)}(ok:ke P w H h)(e:H a=ae (.dK bA)):bA.length<=Yp/\(a==XG)=ah/\∃vs,KV bA vs/\h.DictOf (dF P w) a vs:=BD ok (.inl e)
theorem yN{ks:List Key}(ok:ke P w H h)(e:H a=ae (.tup (ks.map kV))):(Ul (dF P w)).is h ks a:=by
 let#[_,ba,r,o,h1,h2,n,h3]:=(show cw P w H h a (.tup (ks.map kV))from ok a _ e)
 show#[o,ba.toArray,n,h1,h2,h3,by simpa using qI r]
theorem wI{bA:List (List Key×V)}(ok:ke P w H h)(e:Rd H a (.dT bA)):bA.length<=Yp/\(a==XG)=ah/\
  ∃xs,KT H bA xs/\h.DictOfH (Ul (dF P w)) a xs:=by
 let#[z,y,xs,r,o,es,ep,h1,h2,h3,h4,h5]:=(show cw P w H h a (.dT bA)from PJ ok e)
 show#[z,y,xs,r,o,es,ep,h1,h2,h3,h4,λx hx=>?_,h5];have all:∀{l:List (List Key×V)}{m:List 12e9},KT H l m->∀x∈m,(Ul (dF P w)).is h x.1 x.2.1:=by
  intro l m q;induction q with
  |nil=>intro x hx;show nomatch hx
  |@cons p q ps qs hq t ih=>
   intro x hx;rcases Ye.mp hx with e|hx
   .subst e
    show yN ok (by rw[←hq.1];show hq.2.1)
   .show ih x hx
 show all r x hx
theorem Vc5{bA:List (List Key×V)}(ok:ke P w H h)(e:H a=ae (.dT bA)):bA.length<=Yp/\(a==XG)=ah/\
  ∃xs,KT H bA xs/\h.DictOfH (Ul (dF P w)) a xs:=wI ok (.inl e)
end
def Eu(H:Hp)(a:Addr)(y:V)(r:Option V):Prop:=
 (∃bA k,Rd H a (.dK bA)/\y=kV k/\r=kW bA k)\/∃bA k b,Rd H a (.dT bA)/\y=.ref b/\H b=ae (.tup (k.map kV))/\r=kW bA k
def Ll(H:Hp)(a:Addr)(y v:V)(H':Hp):Prop:=
 (∃bA k,H a=ae (.dK bA)/\y=kV k/\bA.length<Yp/\H'=upd H a (.dK (putK bA k v)))\/
 ∃bA k b,H a=ae (.dT bA)/\y=.ref b/\H b=ae (.tup (k.map kV))/\bA.length<Yp/\H'=upd H a (.dT (putK bA k v))
theorem Eu.k{bA:List (Key×V)}{k:Key}(e:H a=ae (.dK bA)):Eu H a (kV k) (kW bA k):=.inl #[bA,k,.inl e,rfl,rfl]
theorem Ll.t{bA:List (List Key×V)}{k:List Key}{v:V}(e:H a=ae (.dT bA))(eb:H b=ae (.tup (k.map kV)))(hl:bA.length<Yp):
  Ll H a (.ref b) v (upd H a (.dT (putK bA k v))):=.inr #[bA,k,b,e,rfl,eb,hl,rfl]
section
variable{X:Cx}{pins:3e2}{σ:St}{H:Hp}{s:Shared}{a:Addr}{y v:V}{u r:Value}{o:Option V}{A:Around}{E:2e9}
theorem Inv.big(I:2e3):XG<s.heap.objs.size:=by
 have h:Xb<s.heap.objs.size:=(I.mod.glob.keeps I.bk).lt;show Nat.lt_trans 2e7 h
theorem Ec(hu:A.units+1<cLine)(I:2e3)(g:Eu H a y (ae v))(ry:RelV y u)(h:∀w' s',Inv X pins σ H s'->RelV v w'->Q w' s'):
  wpAny 3e0 A (Ur (.ref a) u) Q E s:=by
 rcases g with⟨bA,k,e,ey,l⟩|⟨bA,k,b,e,ey,eb,l⟩
 .subst ey
  let#[z,hd,vs,rel,dd]:=BD I.cR e;let#[w',hw,FQ]:=oE.some_of (v:=v) (o:=UQ vs k) (by rw[l];show rel.val k);show wpAny_getItem_of (Hz ry) dd.mapOf hw (h w' _ (I.tok _) FQ)
 .subst ey
  cases(show u=YI b from ry);let#[z,hd,xs,rel,dd]:=wI I.cR e;let#[w',hw,FQ]:=oE.some_of (v:=v) (o:=(atKey xs k).map (·.2)) (by rw[l];show rel.val k);let#[p,hp,hp2]:=Vj.mp hw;show wpAny_getItem_heap (tupleKind_room_in1 hu) (yN I.cR eb) dd hp ?_;rw[hp2];show h w' _ (I.tok _) FQ
theorem BG{t':Nat}{ob:HO}(I:2e3)(mu:Mut (H a))(hs:X5 a s.heap h')(he:∃q,h'.get? a=ae q)(new:cw X.prog X.w (upd H a ob) h' a ob):
  Inv X pins σ (upd H a ob) {s with heap:=h',toks:=t'}:=
 I.write (x:=a) (e:=a) mu 17e9 (λb q hb z=>(hs.2 b hb).trans z) he new
theorem VaE{P:Yy}{bA:List (Key×V)}{vs:List (Key×Value)}(z:bA.length<=Yp)(hd:(a==XG)=ah)(rel:KV bA vs)(dd:h'.DictOf (dF P w) a vs):
  cw P w H' h' a (.dK bA):=#[z,hd,vs,rel,dd]
theorem Eb{Q:14e2}(hu:A.units+1<cLine)(I:2e3)(g:Ll H a y v H')(ry:RelV y u)(rv:RelV v r)(h:∀s',Inv X pins σ H' s'->Q () s'):
  wpAny 3e0 A (setItem (.ref a) u r) Q E s:=by
 rcases g with⟨bA,k,e,ey,l,eH⟩|⟨bA,k,b,e,ey,eb,l,eH⟩
 .subst ey eH
  let#[z,hd,vs,rel,dd]:=Vc8 I.cR e;have hz:vs.length<=sizeLine:=by rw[←rel.length];show z
  have hl:(putK bA k v).length<=sizeLine:=by have:=Zds bA k v;lia
  show wpAny_setItem_pairs (hsz:=hz) (Hz ry) dd λh' dd' hs=>h _ ?_;have he:∃q,h'.get? a=ae q:=let#[q,_,_,hq,_]:=dd';#[q,hq]
  show BG I (by rw[e];show Wl) hs he (VaE hl hd (rel.put k rv) dd')
 .subst ey eH
  cases(show u=YI b from ry);let#[z,hd,xs,rel,dd]:=Vc5 I.cR e;have hz:xs.length<=sizeLine:=by rw[←VF rel];show z
  have hl:(putK bA k v).length<=sizeLine:=by have:=Zds bA k v;lia
  show wpAny_setItem_heap (hsz:=hz) (tupleKind_room_in1 hu) (yN I.cR eb) dd λh' dd' hs=>h _ ?_;let#[q,es,ep,hq,h2,h3,h4,_,h5]:=dd';show BG I (by rw[e];show Wl) hs #[q,hq] #[hl,hd,_,(rel.put k eb rv).keeps λc ys ec=>?_,q,es,ep,hq,h2,h3,h4,h5];rw[fS (Vcr ec e (λz=>nomatch z))];show ec
end
theorem wK{s:Shared}{o:Option V}(I:2e3)(g:Eu H a y o):s.TypeIs (.ref a) "dict":=by
 rcases g with⟨bA,k,e,_,_⟩|⟨bA,k,b,e,_,_,_⟩
 .let#[_,_,vs,_,dd]:=BD I.cR e
  show dd.typeIs
 .let#[_,_,xs,_,dd]:=wI I.cR e
  show dd.typeIs
noncomputable def VbW (td ty tv:TE):TS:=λD σ H=>tv σ H λv H1=>td σ H1 λx H2=>ty σ H2 λy H3=>∃a H4,x=.ref a/\Ll H3 a y v H4/\D.nx σ H4
section
variable{X:Cx}{o i e value:Expr}{pos pos' CJ:Pos}{td ty tv:TE}
theorem MD(hu:X.A.units+1<cLine)(ho:PE X o td)(hi:PE X i ty)(hv:PE X value tv)(hs:Xv value (ae (.Subscript o i pos')) pos.line X.env=pure ah):
  PS X (.Assign [.Subscript o i pos'] value pos) (VbW td ty tv):=by
 intro pins s σ H D I h;show wpAny_Assign_Subscript (dz (hv pins s σ H _ I h) λr s1 #[v,H1,I1,rv,q1]=>dz (ho pins s1 σ H1 _ I1 q1) λu s2 #[x,H2,I2,rx,q2]=>dz (hi pins s2 σ H2 _ I2 q2) λiv s3 #[y,H3,I3,ry,a,H4,ex,g,q3]=>?_) hs;subst ex;obtain rfl:u=YI a:=rx;show Eb hu I3 g ry rv λs4 I4=>#[σ,H4,I4,q3]
end
theorem JK{P:Yy}(h:Heap)(hb:XG<h.objs.size):cw P w H (h.push {cls:=.type "dict",data:=.dict #[]}) h.objs.size (.dK []):=
 #[XZ _,beq_eq_false_iff_ne.mpr (XD (YK hb)),[],.nil,Heap.DictOf.new h]
theorem JG{P:Yy}(h:Heap)(hb:XG<h.objs.size):cw P w H (h.push {cls:=.type "dict",data:=.dict #[]}) h.objs.size (.dT []):=
 #[XZ _,beq_eq_false_iff_ne.mpr (XD (YK hb)),[],.nil,_,#[],0,Yn _ rfl,#[rfl,rfl,rfl],rfl,rfl,List.nodup_nil]
def SD:TE:=λ_ H Q=>∀p,H p=af->Q (.ref p) (upd H p (.dK []))
def SA:TE:=λ_ H Q=>∀p,H p=af->Q (.ref p) (upd H p (.dT []))
section
variable{X:Cx}{pos:Pos}
theorem GV:PE X (.Dict [] [] pos) SD:=λpins s σ H Q I h=>
 wpAny_Dict_empty #[.ref s.heap.objs.size,_,I.laid (a:=s.heap.objs.size) (o:=.dK []) (t':=s.toks) (λ_ _ q=>Yc _ q) (Yo _) (JK s.heap I.big),rfl,h _ (I.cR.fresh (Yo _))]
theorem GU:PE X (.Dict [] [] pos) SA:=λpins s σ H Q I h=>
 wpAny_Dict_empty #[.ref s.heap.objs.size,_,I.laid (a:=s.heap.objs.size) (o:=.dT []) (t':=s.toks) (λ_ _ q=>Yc _ q) (Yo _) (JG s.heap I.big),rfl,h _ (I.cR.fresh (Yo _))]
end
def IsD(H:Hp)(a:Addr):Prop:=(∃bA,Rd H a (.dK bA))\/∃bA,Rd H a (.dT bA)
theorem Z3{s:Shared}(I:2e3)(d:IsD H a):
  s.TypeIs (.ref a) "dict"/\(∀b,YI a=.ref b->∃ob,s.heap.get? b=ae ob/\ob.dict=af)/\(a==XG)=ah:=by
 rcases d with⟨bA,e⟩|⟨bA,e⟩
 .let#[_,hd,vs,_,dd]:=BD I.cR e
  show#[dd.typeIs,λb q=>?_,hd];cases q;let#[ob,_,_,h1,h2,_]:=dd;show#[ob,h1,h2.2.1]
 .let#[_,hd,xs,_,dd]:=wI I.cR e
  show#[dd.typeIs,λb q=>?_,hd];cases q;let#[ob,_,_,h1,h2,_]:=dd;show#[ob,h1,h2.2.1]
noncomputable def eg (cells:10e5):List (Str×Vd)->List (Str×Addr)->List (Str×Addr)
  |[],cs=>cs
  |(n,k)::r,cs=>eg cells r (if k=.free then(n,(cells.lookup n).getD 0)::cs else cs)
theorem ZdL{cells:10e5}:∀{names:List (Str×Vd)}{cs:10e5},(∀y∈names,y.2=.free->∃c,cells.lookup y.1=ae c)->(∀x c,cs.lookup x=ae c->cells.lookup x=ae c)->
    ∀x c,(eg cells names cs).lookup x=ae c->cells.lookup x=ae c
  |[],_,_,h,x,c,e=>h x c e
  | (n,k)::r,cs,hn,h,x,c,e=>by
    ext eg e;show ZdL (λy hy=>hn y (YQ _ hy)) (λy d q=>?_) x c e;by_cases hk:k=.free
    . rw[aE hk]at q
      let#[c',LG]:=hn (n,k) Xn hk;rw[Ym]at q;by_cases hy:y==n
      . rw[hy]at q
        have:y=n:=by simpa using hy
        subst this;rw[show cells.lookup y=ae c' from LG]at q⊢;simpa using q
      . have hy':(y==n)=ah:=by simpa using hy
        rw[hy']at q;show h y d q
    . rw[aI hk]at q
      show h y d q
theorem ZcR{cells:10e5}:∀{names:List (Str×Vd)}{cs:10e5},(∃c,cs.lookup x=ae c)->∃c,(eg cells names cs).lookup x=ae c
  |[],_,h=>h
  | (n,k)::r,cs,h=>by
    ext eg;show ZcR ?_;by_cases hk:k=.free
    . rw[aE hk,Ym]
      by_cases hy:x==n
      . rw[hy];show 7e2
      . have hy':(x==n)=ah:=by simpa using hy
        rw[hy'];show h
    . rw[aI hk];show h
theorem ZcK{cells:10e5}{x:Str}:∀{names:List (Str×Vd)}{cs:10e5},(x,Xi)∈names->∃c,(eg cells names cs).lookup x=ae c
  |[],_,h=>nomatch h
  | (n,k)::r,cs,h=>by
    ext eg;rcases Ye.mp h with e|h
    . cases e
      show ZcR ?_;rw[aE rfl,Ym];simp
    . show ZcK h
theorem Zd2(h:∀y∈scope.names,y.2=.free->∃c,env.cells.lookup y.1=ae c):closureFor scope env=pure (eg env.cells scope.names []):=by
 erw[closureFor]
 have key:∀(names:List (Str×Vd))(cs:10e5),(∀y∈names,y.2=.free->∃c,env.cells.lookup y.1=ae c)->
   (forIn names cs λx r=>if(x.2==Xi)=ag then do let a ←cellOf env x.1;pure (WN ((x.1,a)::r))else pure (WN r):Sem (List (Str×Addr)))=pure (eg env.cells names cs):=by
  intro names;induction names with
  |nil=>intro cs _;rfl
  |cons y r ih=>
   intro cs hn;let#[n,k]:=y;rw[Ut];by_cases hk:k=.free
   .let#[c,hc]:=hn (n,k) Xn hk
    have LG:env.cells.lookup n=ae c:=hc;subst hk;have e1:cellOf env n=pure c:=by ext cellOf;rw[LG]
    change(_>>=_)=_
    erw[beq_self_eq_true,if_true,e1]
    ext eg;rw[aE rfl,LG];show ih _ λy hy=>hn y (YQ _ hy)
   .have e2:(k==Xi)=ah:=by simpa using hk
    change(_>>=_)=_
    erw[e2,XR,if_false]
    ext eg;rw[aI hk];show ih _ λy hy=>hn y (YQ _ hy)
 rw[key scope.names [] h];rfl
section
variable{prog:Yy}{w:World}{A:Around}{R:Result->Shared->Prop}{s:Shared}
abbrev Out(prog:Yy)(w:World)(A:Around)(env:Env)(R:Result->Shared->Prop):Value->Shared->Prop:=notedBy 5e0 A env λe s'=>R (.error e) s'
noncomputable abbrev L8 (env:Env)(ifs:7e0):Sem Bool:=forIn ifs ag λc r=>if r=ag then do let ok ←isTrue c env (eval c env);pure (WN ok)else pure (WN r)
theorem tQ{elt target iter:Expr}{ifs:7e0}{it acc:Value}(I:Nat->Shared->Prop)
  (turn:∀k z,I k z->wpAny 5e0 A (pyNext it) (λr z1=>match r with
   |none=>R (.ok .next) z1
   |some v=>wpAny 5e0 A (Va target it v) (λ_ z2=>wpAny 5e0 A (assign target env v) (λ_ z3=>wpAny 5e0 A (L8 env ifs) (λyes z4=>
     if yes=ag then wpAny 5e0 A (eval elt env) (λx z5=>wpAny 5e0 A (call (.builtin "list.append") [acc,x]) (λ_ z6=>∃m,m<k/\I m z6) (Out prog w A env R) z5) (Out prog w A env R) z4
     else ∃m,m<k/\I m z4) (Out prog w A env R) z3) (Out prog w A env R) z2) (Out prog w A env R) z1) (Out prog w A env R) z)
  (n:Nat) (h:I n s):VQ 5e0 A (.compLoop (.ListComp elt [#[target,iter,ifs,0]] scope pos) 0 it acc env) R s:=by
 show codeAny_loop rfl I ?_ n h;intro k z hz;show wpAny_noted ?_;rw[compTurn_list];apply Yb;apply WQ;apply Yb;show Xf (turn k z hz) ?_ λ_ _ e=>e;rintro(_|v) z1 y1
 .show Yh y1
 apply Yb;show Xf y1 (λ_ z2 y2=>?_) λ_ _ e=>e;apply Yb;show Xf y2 (λ_ z3 y3=>?_) λ_ _ e=>e;apply Yb;show Xf y3 (λyes z4 y4=>?_) λ_ _ e=>e;by_cases b:yes=ag
 .subst b
  apply Yb;apply Yb;show Xf y4 (λx z5 y5=>?_) λ_ _ e=>e;apply Yb;show Xf y5 (λ_ z6 y6=>Yh (Yh #[rfl,y6])) λ_ _ e=>e
 .have nb:yes=ah:=by simpa using b
  subst nb;show Yh #[rfl,y4]
end
def iP(X:Cx)(N':2e2)(scope:Scope)(C:Addr)(s₀:Shared)(H₀:Hp)(ex:6e8)(pn:3e2):Cx:=
 {X with N:=N',s₀:=s₀,H₀:=H₀,env:=compEnvC scope (eg X.env.cells scope.names []) C X.env,outer:=X.stack,ex:=ex,fn:=λ_=>ah,pn:=pn,xe:=λ_ _=>False}
structure CSc(X:Cx)(scope:Scope)(vs fs:List Str)(fr:List Nat):Prop where
 kind:scope.kind=.function
 cell:(scope.names.all λy=>y.2 != .cell)=ag
 free:(scope.names.all λy=>y.2 != .free||(X.env.kindOf y.1==ae .cell||X.env.kindOf y.1==ae .free))=ag
 loc:(scope.names.all λy=>y.2 != .local||scope.names.lookup y.1==ae .local)=ag
 fre:(scope.names.all λy=>y.2 != .free||scope.names.lookup y.1==ae .free)=ag
 fsf:(fs.all λx=>scope.names.lookup x==ae .free)=ag
 at':fr.map (λi=>X.N[i]?)=fs.map ae
def PTs(X:Cx)(ifs:7e0)(t:TT):Prop:=
 ∀(pins:3e2)(s:Shared)(σ:St)(H:Hp)(Q:Bool->Hp->Prop),Inv X pins σ H s->t σ H Q->
  wpAny 3e0 X.A (forIn ifs ag λc r=>if r=ag then do let ok ←isTrue c X.env (eval c X.env);pure (WN ok)else pure (WN r)) (TP X pins σ Q) X.xe s
noncomputable def Vd8:TT:=λ_ H Q=>Q ag H
theorem MA:PTs X [] Vd8:=λ_ _ _ H _ I h=>wpAny_tests_nil #[H,I,h]
theorem Mz{c:Expr}{t:TT}(h:PT X c t):PTs X [c] t:=λpins s σ H Q I q=>wpAny_tests_one (h pins s σ H Q I q)
noncomputable def se (vs:2e2)(fr:List Nat)(σ:St):St:=vs.map (λ_=>af)++fr.map λi=>(σ[i]?).join
def R5(J:It)(vs:2e2)(fr:List Nat)(g:TG)(tt:TT)(te:TE)(σ:St)(H1:Hp)(Q:VK):Prop:=
 ∃W:Nat->Nat->St->List V->Hp->Prop,(∃m,W 0 m (se vs fr σ) [] H1)/\∀i m σ' ys H,W i m σ' ys H->
  (J.stop i H/\ys.length<=Yp/\∀D,H D=af->Q (.ref D) (upd H D (.lst ys)))\/
  (J.go i H/\ys.length<=Yp/\∃N:St->List V->Hp->Prop,(∀σ2 ys2 H2,N σ2 ys2 H2->∃m',m'<m/\W (i+1) m' σ2 ys2 H2)/\∀x H',J.Lo i H x H'->g x σ' H' λσ2 H2=>tt σ2 H2 λb H3=>
   if b=ag then te σ2 H3 λy H4=>N σ2 (ys++[y]) H4 else N σ2 ys H3)
noncomputable def z8 (wi:TI)(vs:2e2)(fr:List Nat)(g:TG)(tt:TT)(te:TE):TE:=λσ H Q=>wi σ H λJ H1=>R5 J vs fr g tt te σ H1 Q
section
variable{X:Cx}{tg elt iter:Expr}{ifs:7e0}{scope:Scope}{pos:Pos}{vs fs:2e2}{fr:List Nat}
theorem my{p:α->Bool}{l:List α}(h:l.all p=ag){x:α}(hx:x∈l):p x=ag:=YE.mp h x hx
theorem CSc.QN(S:14e3):∀y∈scope.names,y.2≠.cell:=λy hy e=>by have:=my S.cell hy;rw[e]at this;simp at this
theorem CSc.QF(S:14e3):∀y∈scope.names,y.2=.free->X.env.kindOf y.1=ae .cell\/X.env.kindOf y.1=ae .free:=λy hy e=>by
 have:=my S.free hy;rw[e]at this;simpa using this
theorem CSc.Vcx(S:14e3):∀y∈scope.names,y.2=.local->scope.names.lookup y.1=ae .local:=λy hy e=>by
 have:=my S.loc hy;rw[e]at this;simpa using this
theorem lookup_mem{β:Type} [BEq α] [LawfulBEq α]:∀{l:List (α×β)}{x:α}{k:β},l.lookup x=ae k->(x,k)∈l
  |[],_,_,h=>by simp at h
  | (n,k')::r,x,k,h=>by
    rw[Ym]at h;cases e:x==n with
    |true=>rw[e]at h;cases h;rw[eq_of_beq e];show Xn
    |false=>rw[e]at h;show YQ _ (lookup_mem h)
theorem ZbO{env:Env}{x:Str}:∀{names:List (Str×Vd)}{k:Vd},
    (names.map λ(n,k)=>if 16e5 then(n,Wx)else(n,k)).lookup x=ae k->
    names.lookup x=ae k\/(k=.cell/\names.lookup x=ae .free)
  |[],_,h=>by simp at h
  | (n,k')::r,k,h=>by
    have ih:=@ZbO env x r k;have h':List.lookup x ((if 8e8=ag then(n,Wx)else(n,k'))::(r.map λ(n,k)=>if 16e5 then(n,Wx)else(n,k)))=ae k:=h;cases hx:x==n with
    |true=>
      by_cases hc:8e8=ag
      . rw[aE hc]at h'
        erw[Ym,hx]at h'⊢
        cases h';have:k'=.free:=by simp at hc;show hc.1.1
        show .inr #[rfl,by rw[this]]
      . rw[aI hc]at h'
        erw[Ym,hx]at h'⊢
        show .inl h'
    |false=>
      by_cases hc:8e8=ag
      . rw[aE hc]at h'
        erw[Ym,hx]at h'⊢
        show ih h'
      . rw[aI hc]at h'
        erw[Ym,hx]at h'⊢
        show ih h'
theorem ZcP{env:Env}{x:Str}:∀{names:List (Str×Vd)},names.lookup x=ae .free->
    let l:=(names.map λ(n,k)=>if 16e5 then(n,Wx)else(n,k)).lookup x
    l=ae .cell\/l=ae .free
  |[],h=>by simp at h
  | (n,k')::r,h=>by
    have ih:=@ZcP env x r;change List.lookup x ((if 8e8=ag then(n,Wx)else(n,k'))::(r.map λ(n,k)=>if 16e5 then(n,Wx)else(n,k)))=ae .cell\/
      List.lookup x ((if 8e8=ag then(n,Wx)else(n,k'))::(r.map λ(n,k)=>if 16e5 then(n,Wx)else(n,k)))=ae .free
    cases hx:x==n with
    |true=>
      erw[Ym,hx]at h
      have h:k'=.free:=Yz h;by_cases hc:8e8=ag
      . rw[aE hc,Ym,hx];show .inl rfl
      . rw[aI hc,Ym,hx,h];show .inr rfl
    |false=>
      erw[Ym,hx]at h
      by_cases hc:8e8=ag
      . rw[aE hc];erw[Ym,hx];show ih h
      . rw[aI hc];erw[Ym,hx];show ih h
theorem CSc.VaR(S:14e3)(ok:X.Ok):∀y∈scope.names,y.2=.free->∃c,X.env.cells.lookup y.1=ae c:=λy hy e=>ok.has y.1 (S.QF y hy e)
theorem CSc.cl(S:14e3)(ok:X.Ok){c:Addr}(e:(eg X.env.cells scope.names []).lookup x=ae c):X.env.cells.lookup x=ae c:=
 ZdL (S.VaR ok) (λ_ _ q=>by simp at q) x c e
theorem Oy{o:Obj}(e:h.get? b=ae o)(hn:h.objs.size<=n):b≠n:=YK (Yr (Ys e) hn)
theorem zo{s:Shared}{C:Addr}{h1:Heap}{tk:Nat}{m1:5e1}(S:14e3)(I:2e3)
  (hf:∀b∈fp,jE X pins H b) (hfo:∀b∈fp,∃o,s.heap.get? b=ae o) (hC:s.heap.objs.size<=C) (hn:h1.Ns C m1) (old:∀b o,s.heap.get? b=ae o->h1.get? b=ae o):
  Inv (iP X (vs++fs) scope C s H fp (X.pn++pins)) [] (se vs fr σ) H {s with heap:=h1,toks:=tk}:=by
 have cl:=λx c e=>S.cl I.ok (x:=x) (c:=c) e;have VcI:=I.jU;have JW:∀x c,X.env.cells.lookup x=ae c->c<s.heap.objs.size:=λx c e=>by let#[v,q]:=I.cell x c e;show q.lt
 show#[#[I.ok.mod,S.kind,I.ok.glob,I.ok.blt,hC,λx y c e1 e2=>I.ok.inj x y c (cl x c e1) (cl y c e2),λx hx=>?_,λ_ _ z _=>(nomatch z),I.ok.hd,I.ok.frames,.inl rfl,λb hb=>?_,I.bs,YC I.ok.J' I.sz,λb o e hb=>?_,λb hb z=>?_,I.stack,I.ko],
  rfl,I.bare,Un.kept old,#[m1,hn,λi x v e1 e2 e3=>?_],λx c e=>?_,I.cR.fresh hC,λx c e=>I.iB x c (cl x c e),λp hp=>?_,I.cR.kept old,?_]
 .-- has
  have Z8:(relabel scope X.env).names.lookup x=ae .cell\/(relabel scope X.env).names.lookup x=ae .free:=hx;have:scope.names.lookup x=ae .free:=by
   rcases Z8 with q|q
   .rcases ZbO q with q|⟨_,q⟩
    .show absurd rfl (S.QN _ (lookup_mem q))
    .show q
   .rcases ZbO q with q|⟨q,_⟩
    .show q
    .cases q
  show ZcK (lookup_mem this)
 .-- exf
  let#[o,ho]:=hfo b hb;let#[f0,f1,f2,f3,f4,f5]:=hf b hb;show#[Oy ho hC,λx c e=>f4 x c (cl x c e)]
 .-- sR
  have e':=(I.ok.bs b o e).1;let#[_,_,_,f3,_,_]:=hf b hb;rcases f3 with z|z
  .show I.ok.sR b o e z
  .show absurd (Yr (Ys e') z) (XJ _)
 .-- D0
  let#[_,f1,f2,_]:=hf b hb;rcases Ye.mp (VcI b z)with q|q
  .show f1 q
  .show f2 q
 .-- loc
  have e1:(vs++fs)[i]? = ae x:=e1;ext se e2;by_cases hi:i<vs.length
  .rw[Yu (by simpa using hi)]at e2
   simp[hi]at e2
  .rw[YW (by simpa using hi),Yk,YS]at e2
   rw[YW (by simpa using hi)]at e1;obtain⟨j,hj⟩:∃j,fr[i-vs.length]? = ae j:=by
    cases q:fr[i-vs.length]? with
    |none=>rw[q]at e2;cases e2
    |some j=>show#[j,rfl]
   rw[hj]at e2;have e2':(σ[j]?).join=ae v:=Yz e2;have hσ:σ[j]? = ae (ae v):=by
    cases q:σ[j]? with
    |none=>rw[q]at e2';cases e2'
    |some r=>rw[q]at e2';show congrArg ae e2'
   have hN:X.N[j]? = ae x:=by
    have:=congrArg (λl=>l[i-vs.length]?) S.at'
    erw[YS,hj,e1,XN]at this
    show Yz this
   have hxf:scope.names.lookup x=ae .free:=by
    have:=my S.fsf (YY e1);simpa using this
   have hk:=S.QF _ (lookup_mem hxf) rfl;let#[m,hm,hl]:=I.loc;have VeC:Eo X.env.scope x:=by
    rcases hk with k|k
    .show .inr (.inl k)
    .show .inr (.inr k)
   let#[u,ru,lk]:=hl j x v hN hσ VeC;show#[u,ru,?_];rcases lk with⟨k,_⟩|⟨_,c,hc,hv⟩
   .have k':X.env.kindOf x=ae .local:=k
    rcases hk with z|z
    .have z':X.env.kindOf x=ae .cell:=z
     rw[k']at z';cases z'
    .have z':X.env.kindOf x=ae .free:=z
     rw[k']at z';cases z'
   .let#[c',LG]:=ZcK (cells:=X.env.cells) (cs:=[]) (lookup_mem hxf)
    have:=cl x c' LG;rw[hc]at this;cases this;show .inr #[ZcP hxf,c,LG,?_];let#[o,ho,hd]:=hv;show#[o,old c o ho,hd]
 .-- cell
  let#[v,o,ho,hd]:=I.cell x c (cl x c e);show#[v,o,old c o ho,hd]
 .-- pin
  have hp':p∈X.pn++pins:=by simpa[iP]using hp
  let#[e,n,ne,nf,d]:=I.pin p hp';show#[old _ _ e,n,Oy e hC,λz=>?_,d];rcases Ye.mp (VcI _ z)with q|q
  .show ne q
  .show nf q
 .change(se vs fr σ).length=(vs++fs).length
  have:=congrArg Ud S.at'
  erw[Yk]at this
  ext se;simp[this]
theorem comp_back{σ':St}{s s':Shared}{C D:Addr}{ys:List V}{pl:3e2}(I:2e3)
  (hf:∀b∈fp,jE X pins H b) (J:Inv (iP X (vs++fs) scope C s H fp (X.pn++pins)) pl σ' H' s')
  (hD:s.heap.objs.size<=D) (hDn:H' D=af) (hl:ys.length<=Yp) (r:Vals ys ba) (ho:s'.heap.get? D=ae {cls:=.type "list",data:=.seq ba.toArray n}):Inv X pins σ (upd H' D (.lst ys)) s':=by
 have ne:∀b o,s.heap.get? b=ae o->b≠D:=λb o e=>Oy e hD;have u:Un (gw X.stack) fp H H' s.heap s'.heap:=J.base;show I.JZ (ch:=fp) J.os #[u.keep,u.slot,λb o e q hx=>?_,u.there,λb xs e=>?_,λb o xs e=>?_,λb ps e=>?_] (λb o e=>?_) J.bare λb hb=>?_
 .rw[fS (ne b o e)];show u.free b o e q hx
 .rw[fS (kI (u.gp b xs e) hDn)];show u.gp b xs e
 .rw[fS (kI (u.gi b o xs e) hDn)];show u.gi b o xs e
 .let#[more,q]:=u.hJ b ps e
  show#[more,by rw[fS (kI q hDn)];show q]
 .by_cases hb:b=D
  .subst hb
   rw[oz]at e;cases e;show#[hl,ba,n,r,ho]
  .rw[fS hb]at e
   show(J.cR b o e).fE (λ_ _ _ q=>q) (λc q=>by rw[fS (kI q hDn)];show q) λc xs q=>by rw[fS (kI q hDn)];show q
 .let#[f0,f1,f2,f3,f4,f5]:=hf b hb
  show#[f3,f1,f4,f5]
end
section
variable{X:Cx}
noncomputable def Its (z:Str):It:=⟨λi _=>i<z.cps.size,λi H x H'=>H'=H/\∃c,z.cps[i]? = ae c/\x=.str ⟨#[c]⟩,λi _=>i=z.cps.size⟩
theorem uN{P:Yy}{t:Tok}{ty:String}(Lz:ty="str_ascii_iterator"\/ty="str_iterator"):Turn P w K tg (Its z) [it] it (λi h=>h.IsStrIter it ty z t i) where
 mem:=by simp
 obj:=λi h st b hb=>by
  have e:b=it:=by simpa using hb
  subst e;let#[o,e,c,d]:=st;show#[o,e,λv z=>by rw[d]at z;cases z]
 keep:=λi h h' st k=>by
  let#[o,e,c,d]:=st;show#[o,k it 3e7 o e,c,d]
 item:=by
  sleep 2;sleep 12;have fin:∀v h' tk,SignAt z i v->h'.IsStrIter it ty z t (i+1)->(∀b o,b∉[it]->s.heap.get? b=ae o->h'.get? b=ae o)->
    ∃u,ae v=ae u/\wpAny 3e0 X.A (Va tg (.ref it) u) (λ_ s2=>∃x H',Inv X pins σ H' s2/\RelV x u/\(Its z).Lo i H x H'/\s2.heap.IsStrIter it ty z t (i+1)/\∀b∈[it],H' b=af) E {s with heap:=h',toks:=tk}:=λv h' tk hv pX kk=>by
   let#[c,u,hcx,rfl]:=hv;have I1:Inv X pins σ H {s with heap:=h',toks:=tk}:=I.turned (λb o hb e=>kk b o (by simpa using hb) e) f0 f1 f3 f4 f5;let#[o,e,oc,d]:=id pX;show#[_,rfl,Bt (s:={s with heap:=h',toks:=tk}) e oc d (by rcases Lz with rfl|rfl<;>decide) #[.str ⟨#[c]⟩,H,I1,#[u,rfl],#[rfl,c,hcx,rfl],pX,λb hb=>(hf b hb).1]]
  rcases Lz with rfl|rfl
  .show(Walks.strAscii (prog:=X.prog) (w:=X.w) (I.ok.hd hc) it z t).item i s _ _ hg st fin
  .show(Walks.strWide (prog:=X.prog) (w:=X.w) (I.ok.hd hc) it z t).item i s _ _ hg st fin
 done:=by
  sleep 2;sleep 12;have hg:i=z.cps.size:=hg;subst hg;have fin:∀h' tk,(∀b o,b∉[it]->s.heap.get? b=ae o->h'.get? b=ae o)->(af:Option Value)=af/\Inv X pins σ H {s with heap:=h',toks:=tk}:=λh' tk kk=>
   #[rfl,I.turned (λb o hb e=>kk b o (by simpa using hb) e) f0 f1 f3 f4 f5]
  rcases Lz with rfl|rfl
  .show(Walks.strAscii (prog:=X.prog) (w:=X.w) (I.ok.hd hc) it z t).done s _ _ st fin
  .show(Walks.strWide (prog:=X.prog) (w:=X.w) (I.ok.hd hc) it z t).done s _ _ st fin
 self:=λ_ _ _ _ _ st h=>by
  rcases Lz with rfl|rfl
  .show wpAny_pyIter_striter_ascii st h
  .show wpAny_pyIter_striter_wide st h
theorem range_all(bs:List Bool):((YL bs.length).all λi=>bs.getD i ah)=bs.all id:=by
 rw[Bool.eq_iff_iff]
 erw[YE,WW]
 constructor
 .intro h b hb
  let#[i,hi,e]:=W2 hb;have:=h i hi;rw[X1,Yd hi]at this;subst e;simpa using this
 .intro h i hi
  rw[X1,Yd hi];simpa using h _ (XU hi)
theorem wZ(hc:12e0):gB X (.builtin "all") (λxs H Q=>∃(a:Addr)(bs:List Bool),xs=[.ref a]/\gL X.K H a (bs.map V.bl)/\Q (.bl (bs.all id)) H):=by
 intro pins s σ H xs us Q I r h;let#[a,bs,rfl,hq,q]:=h;let#[u,rfl,ru]:=Vals.one r;cases(show u=YI a from ru);let#[ba,rv,p,hz]:=I.list hq;have gG:a<s.heap.objs.size:=by let#[o,e,_]:=p.isList;show Ys e
 show call_all_walk (Vq p.isList ?_);have hlen:ba.toArray.size=bs.length:=by have:=rv.length;simp at this;simp[this]
 show#[s.heap.objs.size,_,_,ba.toArray.size,_,_,λi=>bs.getD i ah,rfl,Walks.list (by show I.ok.hd hc) s.heap.objs.size a (YK gG) ba.toArray,#[#[_,Yn _ rfl,rfl,rfl],p.isList.push _],?_,?_]
 .intro i v s' Q' E' hv hQ'
  have hi:i<bs.length:=by
   rw[←hlen];show(XF.mp hv).1
  let#[u,e1,r1]:=rv.get (i:=i) (x:=V.bl bs[i]) (by simp[hi]);have e2:ba[i]? = ae v:=by simpa using hv
  rw[e1]at e2;have e3:u=v:=Yz e2;have e4:u=VL bs[i]:=r1;rw[←e3,e4];show Xs ?_;have:bs.getD i ah=bs[i]:=by rw[X1,Yd hi];rfl
  have hQ2:Q' (bs.getD i ah) s':=hQ';rw[this]at hQ2;show hQ2
 .intro h' tk kk
  show#[.bl _,H,I.kept λb o e=>kk b o (λz=>?_) (Yc _ e),?_,q]
  .have:b=s.heap.objs.size:=by simpa using z
   show absurd this (YK (Ys e))
  .change VL _=VL _
   rw[hlen,range_all]
theorem ZdN:∀{ys:2e2}{us:4e4},Vals (ys.map V.str) us->StrsAre us ys
 |[],_,.nil=>.nil
 |_::_,_,.cons r t=>by
  let#[k,rfl]:=r;show .cons _ _ (ZdN t)
theorem M0:MtR X "str.join" (λx xs H Q=>∃(z:Str)(p:Addr)(ys:2e2),x=.str z/\xs=[.ref p]/\gL X.K H p (ys.map V.str)/\(ys.map (·.length)).sum+ys.length*z.length<=16777216/\Q (.str (Txt.join z ys)) H):=by
 intro pins s σ H x xs v us Q I rx rs h;let#[z,p,ys,rfl,rfl,hq,hw,q]:=h;sleep 9;let#[u,rfl,ru]:=Vals.one rs;cases(show u=YI p from ru);let#[ba,rv,pl,hz]:=I.list hq;show join_list pl.isList (ZdN (by simpa using rv)) hw λt' k=>#[.str _,H,I.tok k,#[t',rfl],q]
end
end L2
namespace Pu
open PySem PySem.Spec PyProof.Rows L2
inductive PV where
 |aS|bl (b:Bool)|int (i:Int)|str (x:Str)|tup (xs:List PV)|lst (xs:List PV)|gH (ks vs:List PV)|fz (ks:List (List Key)) (vs:List PV)|fn (a:Addr)|ty (n:String)|dn (ks vs:List PV)
noncomputable def kP:Key->PV
 |.inl i=>.int i
 |.inr x=>.str x
def Rx(K:W.Frag)(ι:6e8)(H:Hp)(a:Addr)(vs:List V):Prop:=
 (a∉ι/\Rd H a (.lst vs))\/
  ∃(o:Obj)(ba:Array Value)(n:Nat),K.lookup a=ae o/\o.cls=.type "list"/\o.dict=af/\o.data=.seq ba n/\ba.size<=Yp/\Vals vs ba.toList
theorem Rx.sq(h:Rx K ι H a vs):gL K H a vs:=by
 rcases h with⟨_,h⟩|h
 .show .inl h
 .show .inr h
def Rc(H:Hp)(a:Addr)(vs:List V):Prop:=H a=ae (.tup vs)
theorem Rc.sq(h:Rc H a vs):jr K H a vs:=.inl (.inl h)
noncomputable def dvO (a:Addr)(ks vs:List V):HO:=.ext λh=>ks.length<=Yp/\(a==XG)=ah/\∃(o:Obj)(es:Array WI)(ep:Nat),h.get? a=ae o/\o.ExactDict/\o.data=.dict es ep/\Vals ks (es.toList.map (·.key))/\Vals vs (es.toList.map (·.val))
mutual
noncomputable def Rep (K:W.Frag)(ι:6e8)(H:Hp):PV->V->Prop
 |.aS,v=>v=.aS
 |.bl b,v=>v=.bl b
 |.int i,v=>v=.int i
 |.str x,v=>v=.str x/\x.length<=Yp
 |.tup ps,v=>∃a vs,v=.ref a/\Rc H a vs/\aG K ι H ps vs
 |.lst ps,v=>∃a vs,v=.ref a/\Rx K ι H a vs/\aG K ι H ps vs
 |.gH ks ps,v=>∃(a:Addr)(qs:List Key)(vs:List V),v=.ref a/\a∉ι/\H a=ae (.dK (qs.zip vs))/\qs.length=vs.length/\ks=qs.map kP/\aG K ι H ps vs
 |.fz ks ps,v=>∃(a:Addr)(vs:List V),v=.ref a/\a∉ι/\Rd H a (.dT (ks.zip vs))/\ks.length=vs.length/\aG K ι H ps vs
 |.fn a,v=>v=.ref a
 |.ty n,v=>v=.ty n
 |.dn ks ps,v=>∃(a:Addr)(qs vs:List V),v=.ref a/\a∉ι/\H a=ae (dvO a qs vs)/\aG K ι H ks qs/\aG K ι H ps vs
noncomputable def aG (K:W.Frag)(ι:6e8)(H:Hp):List PV->List V->Prop
 |[],vs=>vs=[]
 |p::ps,vs=>∃v r,vs=v::r/\Rep K ι H p v/\aG K ι H ps r
end
inductive SV where
 |v (p:PV)|c (k:Nat)
abbrev Cs:=List PV
def cH(K:W.Frag)(ι:6e8)(H:Hp):SV->V->Prop
 |.v p,x=>Rep K ι H p x
 |.c k,x=>∃a,x=.ref a/\ι[k]? = ae a
def dc(K:W.Frag)(ι:6e8)(H:Hp):List SV->List V->Prop
 |[],vs=>vs=[]
 |p::ps,vs=>∃v r,vs=v::r/\cH K ι H p v/\dc K ι H ps r
def ia(K:W.Frag)(ι:6e8)(H:Hp)(a:Addr):PV->Prop
 |.lst ps=>∃vs,H a=ae (.lst vs)/\aG K ι H ps vs
 |.gH ks ps=>∃(qs:List Key)(vs:List V),H a=ae (.dK (qs.zip vs))/\qs.length=vs.length/\ks=qs.map kP/\aG K ι H ps vs
 |.fz ks ps=>∃(vs:List V),H a=ae (.dT (ks.zip vs))/\ks.length=vs.length/\aG K ι H ps vs
 |_=>False
structure CR(K:W.Frag)(ι:List Addr)(H:Hp)(C:Cs):Prop where
 len:ι.length=C.length
 nd:ι.Nodup
 ok:∀(k:Nat)(a:Addr)(c:PV),ι[k]? = ae a->C[k]? = ae c->ia K ι H a c
def Fr(ι:6e8)(H H':Hp):Prop:=∀b o,b∉ι->H b=ae o->H' b=ae o
theorem Fr.refl:Fr ι H H:=λ_ _ _ h=>h
theorem Fr.trans{H1 H2:Hp}(a:Fr ι H H1)(b:Fr ι H1 H2):Fr ι H H2:=λc o n h=>b c o n (a c o n h)
theorem Fr.new{p:Addr}{o:HO}(h:H p=af):Fr ι H (upd H p o):=λb u _ e=>by rw[fS (kI e h)];show e
section
variable{K:W.Frag}{ι:6e8}{H H':Hp}{C:Cs}
theorem CR.at'(cr:13e2)(h:a∈ι):∃(k:Nat)(c:PV),ι[k]? = ae a/\C[k]? = ae c/\ia K ι H a c:=by
 let#[k,hk,e]:=W2 h;have h1:ι[k]? = ae a:=by rw[Yd hk,e]
 have hk2:k<C.length:=by rw[←cr.len];show hk
 show#[k,C[k],h1,Yd hk2,cr.ok k a _ h1 (Yd hk2)]
theorem CR.mut(cr:13e2)(h:a∈ι):(∃vs,H a=ae (.lst vs))\/(∃bA,H a=ae (.dK bA))\/∃bA,H a=ae (.dT bA):=by
 let#[k,c,_,_,ok]:=cr.at' h;cases c with
 |lst ps=>let#[vs,e,_]:=ok;show .inl #[vs,e]
 |gH ks ps=>let#[qs,vs,e,_]:=ok;show .inr (.inl #[_,e])
 |fz ks ps=>let#[vs,e,_]:=ok;show .inr (.inr #[_,e])
 |_=>show ok.elim
theorem CR.qp(cr:13e2){o:HO}(e:H a=ae o)(h1:∀vs,o≠.lst vs)(h2:∀bA,o≠.dK bA)(h3:∀bA,o≠.dT bA:=by intro bA z;cases z):a∉ι:=λh=>by
 rcases cr.mut h with⟨vs,z⟩|⟨bA,z⟩|⟨bA,z⟩
 .rw[e]at z;show h1 vs (Yz z)
 .rw[e]at z;show h2 bA (Yz z)
 .rw[e]at z;show h3 bA (Yz z)
theorem E2(cr:13e2)(fr:Fr ι H H')(h:Rc H a vs):Rc H' a vs:=
 fr _ _ (cr.qp h (λ_ e=>nomatch e) λ_ e=>nomatch e) h
theorem Rx.mono(fr:Fr ι H H')(h:Rx K ι H a vs):Rx K ι H' a vs:=by
 rcases h with⟨n,h|⟨o,h⟩⟩|h
 .show .inl #[n,.inl (fr _ _ n h)]
 .show .inl #[n,.inr #[o,fr _ _ n h]]
 .show .inr h
theorem sD{u:HO}(k:∀o,H a=ae o->H' a=ae o)(h:Rd H a u):Rd H' a u:=by
 rcases h with h|⟨o,h⟩
 .show .inl (k _ h)
 .show .inr #[o,k _ h]
mutual
theorem Rep.mono(cr:13e2)(fr:Fr ι H H'):∀(p:PV)(v:V),Rep K ι H p v->Rep K ι H' p v
 |.aS,v,h=>by unfold Rep at h⊢;show h
 |.bl b,v,h=>by unfold Rep at h⊢;show h
 |.int i,v,h=>by unfold Rep at h⊢;show h
 |.str x,v,h=>by unfold Rep at h⊢;show h
 |.tup ps,v,h=>by
  unfold Rep at h⊢;let#[a,vs,e,sq,r]:=h;show#[a,vs,e,E2 cr fr sq,aG.mono cr fr ps vs r]
 |.lst ps,v,h=>by
  unfold Rep at h⊢;let#[a,vs,e,sq,r]:=h;show#[a,vs,e,sq.mono fr,aG.mono cr fr ps vs r]
 |.gH ks ps,v,h=>by
  unfold Rep at h⊢;let#[a,qs,vs,e,n,hd,hl,hk,r]:=h;show#[a,qs,vs,e,n,fr _ _ n hd,hl,hk,aG.mono cr fr ps vs r]
 |.fz ks ps,v,h=>by
  unfold Rep at h⊢;let#[a,vs,e,n,hd,hl,r]:=h;show#[a,vs,e,n,sD (λo e=>fr _ o n e) hd,hl,aG.mono cr fr ps vs r]
 |.fn a,v,h=>by unfold Rep at h⊢;show h
 |.ty n,v,h=>by unfold Rep at h⊢;show h
 |.dn ks ps,v,h=>by
  unfold Rep at h⊢;let#[a,qs,vs,e,n,hd,r1,r2]:=h;show#[a,qs,vs,e,n,fr _ _ n hd,aG.mono cr fr ks qs r1,aG.mono cr fr ps vs r2]
theorem aG.mono(cr:13e2)(fr:Fr ι H H'):∀(ps:List PV)(vs:List V),aG K ι H ps vs->aG K ι H' ps vs
 |[],vs,h=>by unfold aG at h⊢;show h
 |p::ps,vs,h=>by
  unfold aG at h⊢;let#[v,r,e,h1,h2]:=h;show#[v,r,e,Rep.mono cr fr p v h1,aG.mono cr fr ps r h2]
end
theorem cH.mono(cr:13e2)(fr:Fr ι H H'){s:SV}{v:V}(h:cH K ι H s v):cH K ι H' s v:=by
 cases s with
 |v p=>show Rep.mono cr fr p v h
 |c k=>show h
mutual
theorem Rep.fE(sm:∀b o,H b=ae o->H' b=ae o):∀(p:PV)(v:V),Rep K ι H p v->Rep K ι H' p v
 |.aS,v,h=>by unfold Rep at h⊢;show h
 |.bl b,v,h=>by unfold Rep at h⊢;show h
 |.int i,v,h=>by unfold Rep at h⊢;show h
 |.str x,v,h=>by unfold Rep at h⊢;show h
 |.tup ps,v,h=>by
  unfold Rep at h⊢;let#[a,vs,e,sq,r]:=h;show#[a,vs,e,sm _ _ sq,aG.fE sm ps vs r]
 |.lst ps,v,h=>by
  unfold Rep at h⊢;let#[a,vs,e,sq,r]:=h;show#[a,vs,e,sq.mono (λb o _ e=>sm b o e),aG.fE sm ps vs r]
 |.gH ks ps,v,h=>by
  unfold Rep at h⊢;let#[a,qs,vs,e,n,hd,hl,hk,r]:=h;show#[a,qs,vs,e,n,sm _ _ hd,hl,hk,aG.fE sm ps vs r]
 |.fz ks ps,v,h=>by
  unfold Rep at h⊢;let#[a,vs,e,n,hd,hl,r]:=h;show#[a,vs,e,n,sD (λo e=>sm _ o e) hd,hl,aG.fE sm ps vs r]
 |.fn a,v,h=>by unfold Rep at h⊢;show h
 |.ty n,v,h=>by unfold Rep at h⊢;show h
 |.dn ks ps,v,h=>by
  unfold Rep at h⊢;let#[a,qs,vs,e,n,hd,r1,r2]:=h;show#[a,qs,vs,e,n,sm _ _ hd,aG.fE sm ks qs r1,aG.fE sm ps vs r2]
theorem aG.fE(sm:∀b o,H b=ae o->H' b=ae o):∀(ps:List PV)(vs:List V),aG K ι H ps vs->aG K ι H' ps vs
 |[],vs,h=>by unfold aG at h⊢;show h
 |p::ps,vs,h=>by
  unfold aG at h⊢;let#[v,r,e,h1,h2]:=h;show#[v,r,e,Rep.fE sm p v h1,aG.fE sm ps r h2]
end
mutual
theorem Rep.cells{ι':6e8}(hs:∀b o,H b=ae o->b∉ι->b∉ι'):∀(p:PV)(v:V),Rep K ι H p v->Rep K ι' H p v
 |.aS,v,h=>by unfold Rep at h⊢;show h
 |.bl b,v,h=>by unfold Rep at h⊢;show h
 |.int i,v,h=>by unfold Rep at h⊢;show h
 |.str x,v,h=>by unfold Rep at h⊢;show h
 |.tup ps,v,h=>by
  unfold Rep at h⊢;let#[a,vs,e,sq,r]:=h;show#[a,vs,e,sq,aG.cells hs ps vs r]
 |.lst ps,v,h=>by
  unfold Rep at h⊢;let#[a,vs,e,sq,r]:=h;show#[a,vs,e,?_,aG.cells hs ps vs r];rcases sq with⟨n,q|⟨o,q⟩⟩|q
  .show .inl #[hs _ _ q n,.inl q]
  .show .inl #[hs _ _ q n,.inr #[o,q]]
  .show .inr q
 |.gH ks ps,v,h=>by
  unfold Rep at h⊢;let#[a,qs,vs,e,n,hd,hl,hk,r]:=h;show#[a,qs,vs,e,hs _ _ hd n,hd,hl,hk,aG.cells hs ps vs r]
 |.fz ks ps,v,h=>by
  unfold Rep at h⊢;let#[a,vs,e,n,hd,hl,r]:=h;show#[a,vs,e,by rcases id hd with q|⟨o,q⟩<;>show hs _ _ q n,hd,hl,aG.cells hs ps vs r]
 |.fn a,v,h=>by unfold Rep at h⊢;show h
 |.ty n,v,h=>by unfold Rep at h⊢;show h
 |.dn ks ps,v,h=>by
  unfold Rep at h⊢;let#[a,qs,vs,e,n,hd,r1,r2]:=h;show#[a,qs,vs,e,hs _ _ hd n,hd,aG.cells hs ks qs r1,aG.cells hs ps vs r2]
theorem aG.cells{ι':6e8}(hs:∀b o,H b=ae o->b∉ι->b∉ι'):∀(ps:List PV)(vs:List V),aG K ι H ps vs->aG K ι' H ps vs
 |[],vs,h=>by unfold aG at h⊢;show h
 |p::ps,vs,h=>by
  unfold aG at h⊢;let#[v,r,e,h1,h2]:=h;show#[v,r,e,Rep.cells hs p v h1,aG.cells hs ps r h2]
end
theorem aG.nil:aG K ι H [] []:=by ext aG;rfl
theorem aG.cons{p:PV}{v:V}{ps:List PV}{vs:List V}(h:Rep K ι H p v)(t:aG K ι H ps vs):aG K ι H (p::ps) (v::vs):=by ext aG;show#[v,vs,rfl,h,t]
theorem aG.inv{p:PV}{ps:List PV}(h:aG K ι H (p::ps) vs):∃v r,vs=v::r/\Rep K ι H p v/\aG K ι H ps r:=by ext aG h;show h
theorem aG.kC(h:aG K ι H [] vs):vs=[]:=by ext aG h;show h
theorem aG.length:∀{ps:List PV}{vs:List V},aG K ι H ps vs->ps.length=vs.length
 |[],vs,h=>by rw[h.kC];rfl
 |p::ps,vs,h=>by let#[v,r,rfl,_,t]:=h.inv;rw[YB,YB,t.length]
theorem aG.append:∀{ps qs:List PV}{vs ws:List V},aG K ι H ps vs->aG K ι H qs ws->aG K ι H (ps++qs) (vs++ws)
 |[],_,vs,_,h,t=>by rw[h.kC];show t
 |p::ps,_,vs,_,h,t=>by let#[v,r,rfl,h1,h2]:=h.inv;show .cons h1 (h2.append t)
theorem aG.get:∀{ps:List PV}{vs:List V}{i:Nat}{p:PV},aG K ι H ps vs->ps[i]? = ae p->∃v,vs[i]? = ae v/\Rep K ι H p v
 |[],_,_,_,h,e=>by simp at e
 |q::ps,vs,0,p,h,e=>by
  let#[v,r,rfl,h1,h2]:=h.inv;simp at e;subst e;show#[v,rfl,h1]
 |q::ps,vs,i+1,p,h,e=>by
  let#[v,r,rfl,h1,h2]:=h.inv;let#[w,e1,r1]:=h2.get (i:=i) (by simpa using e);show#[w,by simpa using e1,r1]
theorem aG.get':∀{ps:List PV}{vs:List V}{i:Nat}{v:V},aG K ι H ps vs->vs[i]? = ae v->∃p,ps[i]? = ae p/\Rep K ι H p v:=λ{ps vs i v} h e=>by
 have hi:i<ps.length:=by
  rw[h.length];rcases Y2 i vs.length with q|q
  .show q
  .rw[YA.mpr q]at e;cases e
 let#[w,e1,r]:=h.get (Yd hi);rw[e]at e1;cases e1;show#[_,Yd hi,r]
theorem aG.take:∀{ps:List PV}{vs:List V}(n:Nat),aG K ι H ps vs->aG K ι H (ps.take n) (vs.take n)
 |_,_,0,_=>by simp;show .nil
 |[],vs,n+1,h=>by rw[h.kC];simp;show .nil
 |p::ps,vs,n+1,h=>by let#[v,r,rfl,h1,h2]:=h.inv;erw[List.take_succ_cons];show .cons h1 (h2.take n)
theorem aG.drop:∀{ps:List PV}{vs:List V}(n:Nat),aG K ι H ps vs->aG K ι H (ps.drop n) (vs.drop n)
 |_,_,0,h=>by simpa using h
 |[],vs,n+1,h=>by rw[h.kC];simp;show .nil
 |p::ps,vs,n+1,h=>by let#[v,r,rfl,h1,h2]:=h.inv;simpa using h2.drop n
theorem aG.set:∀{ps:List PV}{vs:List V}(i:Nat){p:PV}{v:V},aG K ι H ps vs->Rep K ι H p v->aG K ι H (ps.set i p) (vs.set i v)
 |[],vs,i,p,v,h,_=>by rw[h.kC];simp;show .nil
 |q::ps,vs,0,p,v,h,hp=>by let#[w,r,rfl,h1,h2]:=h.inv;simp;show .cons hp h2
 |q::ps,vs,i+1,p,v,h,hp=>by let#[w,r,rfl,h1,h2]:=h.inv;simp;show .cons h1 (h2.set i hp)
theorem ia.mono(cr:13e2)(fr:Fr ι H H'){a:Addr}{c:PV}(ha:∀o,H a=ae o->H' a=ae o)(h:ia K ι H a c):ia K ι H' a c:=by
 cases c with
 |lst ps=>let#[vs,e,r]:=h;show#[vs,ha _ e,aG.mono cr fr _ _ r]
 |gH ks ps=>let#[qs,vs,e,hl,hk,r]:=h;show#[qs,vs,ha _ e,hl,hk,aG.mono cr fr _ _ r]
 |fz ks ps=>let#[vs,e,hl,r]:=h;show#[vs,ha _ e,hl,aG.mono cr fr _ _ r]
 |_=>show h.elim
theorem CR.same(cr:13e2)(sm:∀b o,H b=ae o->H' b=ae o):CR K ι H' C:=
 #[cr.len,cr.nd,λk a c h1 h2=>(cr.ok k a c h1 h2).mono cr (λb o _ e=>sm b o e) λo e=>sm a o e]
theorem CR.new(cr:13e2){p:Addr}{o:HO}(h:H p=af):CR K ι (upd H p o) C:=cr.same λb u e=>by rw[fS (kI e h)];show e
theorem CR.put(cr:13e2){k:Nat}{c:PV}{o:HO}(hk:ι[k]? = ae a)(ok:ia K ι (upd H a o) a c):CR K ι (upd H a o) (C.set k c):=by
 have fr:Fr ι H (upd H a o):=λb u n e=>by
  rw[fS (λz=>n (by rw[z];show YY hk))];show e
 show#[by rw[WL];show cr.len,cr.nd,λj b d h1 h2=>?_];by_cases hj:j=k
 .subst hj
  rw[hk]at h1;cases h1;have gG:j<C.length:=by
   rw[←cr.len];rcases Y2 j ι.length with q|q
   .show q
   .rw[YA.mpr q]at hk;cases hk
  rw[Y7 gG]at h2;cases h2;show ok
 .rw[Y3 (XD hj)]at h2
  show(cr.ok j b d h1 h2).mono cr fr λu e=>?_;have hb:b≠a:=λz=>by
   subst z;have hjl:j<ι.length:=by
    rcases Y2 j ι.length with q|q
    .show q
    .rw[YA.mpr q]at h1;cases h1
   have hkl:k<ι.length:=by
    rcases Y2 k ι.length with q|q
    .show q
    .rw[YA.mpr q]at hk;cases hk
   have e1:=(YJ.mp h1).2;have e2:=(YJ.mp hk).2;show hj ((Vz cr.nd).mp (e1.trans e2.symm))
  rw[fS hb];show e
theorem Vb0{p:Addr}(hp:H p=af):∀b u,H b=ae u->b∉ι->b∉ι++[p]:=λb u e n z=>by
 rcases YZ.mp z with z|z
 .show n z
 .show kI e hp (by simpa using z)
theorem mH(cr:13e2){p:Addr}{o:HO}(hp:H p=af)(q:List PV)(v:List V)(r:aG K ι H q v):aG K (ι++[p]) (upd H p o) q v:=by
 show aG.fE (λb u e=>by rw[fS (kI e hp)];show e) q v (aG.cells (ι':=ι++[p]) (Vb0 hp) q v r)
theorem CR.add(cr:13e2){p:Addr}{c:PV}{o:HO}(hp:H p=af)(ok:ia K (ι++[p]) (upd H p o) p c):CR K (ι++[p]) (upd H p o) (C++[c]):=by
 have hni:p∉ι:=λz=>by
  rcases cr.mut z with⟨vs,e⟩|⟨bA,e⟩|⟨bA,e⟩
  .rw[hp]at e;cases e
  .rw[hp]at e;cases e
  .rw[hp]at e;cases e
 have hc:∀b u,(upd H p o) b=ae u->b∉ι->b≠p->b∉ι++[p]:=λb u _ n1 n2 z=>by
  rcases YZ.mp z with z|z
  .show n1 z
  .show n2 (by simpa using z)
 have up:∀b u,H b=ae u->(upd H p o) b=ae u:=λb u e=>by rw[fS (kI e hp)];show e
 have lift:∀(b:Addr)(d:PV),ia K ι H b d->ia K (ι++[p]) (upd H p o) b d:=λb d h=>by
  have hs:∀b u,H b=ae u->b∉ι->b∉ι++[p]:=λb u e n=>hc b u (up b u e) n (kI e hp);have cr':CR K ι (upd H p o) C:=cr.new hp;cases d with
  |lst ps=>
   let#[vs,e,r]:=h;show#[vs,up _ _ e,mH cr hp ps vs r]
  |gH ks ps=>
   let#[qs,vs,e,hl,hk,r]:=h;show#[qs,vs,up _ _ e,hl,hk,mH cr hp ps vs r]
  |fz ks ps=>
   let#[vs,e,hl,r]:=h;show#[vs,up _ _ e,hl,mH cr hp ps vs r]
  |_=>show h.elim
 show#[by simp[cr.len],?_,λk a d h1 h2=>?_]
 .rw[Vr]
  show#[cr.nd,by simp,λa ha b hb=>?_];have:b=p:=by simpa using hb
  subst this;show λz=>hni (z▸ha)
 .rcases Y2 k ι.length with hk|hk
  .rw[Yu hk]at h1
   rw[Yu (by rw[←cr.len];show hk)]at h2;show lift a d (cr.ok k a d h1 h2)
  .rw[YW hk]at h1
   rw[YW (by rw[←cr.len];show hk)]at h2;rw[←cr.len]at h2;cases hz:k-ι.length with
   |zero=>
    rw[hz]at h1 h2;simp at h1 h2;subst h1 h2;show ok
   |succ j=>rw[hz]at h1;simp at h1
end
end Pu
namespace Pu
open PySem PySem.Spec L2
open PyProof.Rows hiding St
abbrev M(α:Type):=Cs->Option (α×Cs)
noncomputable def ret {α:Type}(a:α):M α:=λC=>ae (a,C)
noncomputable def bP {α β:Type}(x:M α)(f:α->M β):M β:=λC=>match x C with
 |none=>af
 |some (a,C')=>f a C'
noncomputable def i7 {α:Type}(g:Cs->Option α):M α:=λC=>match g C with
 |none=>af
 |some a=>ae (a,C)
theorem dI{β:Type}{x:M α}{f:α->M β}{C C2:Cs}{b:β}(h:bP x f C=ae (b,C2)):∃a C1,x C=ae (a,C1)/\f a C1=ae (b,C2):=by
 ext bP h;cases e:x C with
 |none=>rw[e]at h;cases h
 |some p=>let#[a,C1]:=p;rw[e]at h;show#[a,C1,rfl,h]
theorem oW{g:Cs->Option α}{C C2:Cs}{b:α}(h:i7 g C=ae (b,C2)):g C=ae b/\C2=C:=by
 ext i7 h;cases e:g C with
 |none=>rw[e]at h;cases h
 |some p=>rw[e]at h;cases h;show#[rfl,rfl]
abbrev aM:=List (Option SV)
noncomputable def asB:SV->Option Bool
 |.v (.bl b)=>ae b
 |_=>af
def mB(x:SV):M Bool:=i7 λ_=>asB x
theorem Zdr{x:SV}{C C2:Cs}{b:Bool}(h:mB x C=ae (b,C2)):x=.v (.bl b)/\C2=C:=by
 let#[h,e]:=oW h;show#[?_,e];cases x with
 |c k=>cases h
 |v p=>cases p<;>first|(cases h;rfl)|cases h
theorem F8{b:Bool}{v:V}(h:cH K ι H (.v (.bl b)) v):v=.bl b:=by unfold cH Rep at h;show h
theorem qh{b:Bool}:cH K ι H (.v (.bl b)) (.bl b):=by unfold cH Rep;rfl
inductive PF where
 |nx (ρ:aM)|rt (r:SV)|bk (ρ:aM)|ct (ρ:aM)|rf (ps:List PV)|rq (qs:List SV)
structure SR(K:W.Frag)(ι:List Addr)(H:Hp)(ρ:aM)(σ:St)(C:Cs):Prop where
 cr:CR K ι H C
 len:ρ.length=σ.length
 loc:∀(i:Nat)(s:SV),ρ[i]? = ae (ae s)->∃v,σ[i]? = ae (ae v)/\cH K ι H s v
section
variable{K:W.Frag}{ι:6e8}{H H':Hp}{C C':Cs}{ρ:aM}{σ:St}
theorem SR.step(sr:SR K ι H ρ σ C)(fr:Fr ι H H')(cr:CR K ι H' C'):SR K ι H' ρ σ C':=
 #[cr,sr.len,λi s e=>by let#[v,h1,h2]:=sr.loc i s e;show#[v,h1,h2.mono sr.cr fr]]
theorem SR.set(sr:SR K ι H ρ σ C){s:SV}{v:V}(i:Nat)(r:cH K ι H s v):SR K ι H (ρ.set i (ae s)) (σ.set i (ae v)) C:=by
 show#[sr.cr,by simp[sr.len],λj t e=>?_];by_cases hj:i=j
 .subst hj
  have hi:i<ρ.length:=by
   rcases Y2 i ρ.length with q|q
   .show q
   .rw[YA.mpr (by simpa using q)]at e;cases e
  rw[Y7 hi]at e;cases e;show#[v,by rw[Y7 (by rw[←sr.len];show hi)],r]
 .rw[Y3 hj]at e
  rw[Y3 hj];show sr.loc j t e
end
noncomputable def tM (K:W.Frag)(f:3e6):TE:=λσ H Q=>∃ι ρ C r C',SR K ι H ρ σ C/\f ρ C=ae (r,C')/\∀v H',Fr ι H H'->CR K ι H' C'->cH K ι H' r v->Q v H'
noncomputable def tMA (K:W.Frag)(f:2e8):TA:=λσ H Q=>∃ι ρ C r C',SR K ι H ρ σ C/\f ρ C=ae (r,C')/\∀v H',Fr ι H H'->CR K ι H' C'->dc K ι H' r v->Q v H'
noncomputable def Mb (K:W.Frag)(f:7e3):TT:=λσ H Q=>∃ι ρ C r C',SR K ι H ρ σ C/\f ρ C=ae (r,C')/\∀H',Fr ι H H'->CR K ι H' C'->Q r H'
def tMF(K:W.Frag)(f:12e2):TE:=λσ H Q=>∃ι ρ C ps C',SR K ι H ρ σ C/\f ρ C=ae (ps,C')/\∀p vs H',Fr ι H H'->CR K ι H' C'->H' p=af->aG K ι H' ps vs->Q (.ref p) (upd H' p (.lst vs))
def EM(X:Cx)(e:Expr)(f:3e6):Prop:=PE X e (tM X.K f)
def AM(X:Cx)(es:7e0)(f:2e8):Prop:=PA X es (tMA X.K f)
def TMt(X:Cx)(e:Expr)(f:7e3):Prop:=PT X e (Mb X.K f)
def WM(X:Cx)(e:Expr)(f:7e3):Prop:=PW X e (Mb X.K f)
def FM(X:Cx)(e:Expr)(f:12e2):Prop:=PE X e (tMF X.K f)
theorem PE.imp{t t':TE}(h:PE X e t)(k:18e7):PE X e t':=λpins s σ H Q I q=>h pins s σ H Q I (k σ H Q q)
theorem PT.imp{t t':TT}(h:PT X e t)(k:18e7):PT X e t':=λpins s σ H Q I q=>h pins s σ H Q I (k σ H Q q)
theorem PW.imp{t t':TT}(h:PW X e t)(k:18e7):PW X e t':=λwh pins s σ H Q I q=>h wh pins s σ H Q I (k σ H Q q)
theorem PA.imp{e:7e0}{t t':TA}(h:PA X e t)(k:18e7):PA X e t':=λpos pins s σ H Q I q=>h pos pins s σ H Q I (k σ H Q q)
theorem PS.imp{e:Stmt}{t t':TS}(h:PS X e t)(k:∀D σ H,t' D σ H->t D σ H):PS X e t':=λpins s σ H D I q=>h pins s σ H D I (k D σ H q)
theorem i8.imp{e:List Stmt}{t t':TS}(h:i8 X e t)(k:∀D σ H,t' D σ H->t D σ H):i8 X e t':=λpins s σ H D I q=>h pins s σ H D I (k D σ H q)
theorem PI.imp{t t':TI}(h:PI X tg e t)(k:18e7):PI X tg e t':=λpins s σ H Q I q=>h pins s σ H Q I (k σ H Q q)
section
variable{X:Cx}{a b e c:Expr}{es:7e0}{fa fb fc:3e6}{pos p:Pos}{x:Str}
noncomputable def aV (i:Nat):aM->M SV:=λρ C=>match ρ[i]? with
 |some (ae s)=>ae (s,C)
 |_=>af
theorem zh(i:Nat){x:Str}{pos:Pos}(hN:11e7:=by rfl)(hv:Eo X.env.scope x:=by first|show Or.inl rfl|show Or.inr 1e7|show Or.inr (Or.inr rfl))(hd:4e1:=by decide)
  (me:(x==("__classdict__":Str))=ah:=by decide):EM X (.Name x pos) (aV i):=by
 show PE.imp (sJ hN hv hd me) λσ H Q h_=>?_;let#[ι,ρ,C,r,C',sr,e,q]:=h_;ext aV e;cases e1:ρ[i]? with
 |none=>rw[e1]at e;cases e
 |some o=>
  cases o with
  |none=>rw[e1]at e;cases e
  |some s=>
   rw[e1]at e;cases e;let#[v,h1,h2]:=sr.loc i _ e1;show#[v,h1,q v H .refl sr.cr h2]
noncomputable def mC (p:PV):aM->M SV:=λ_ C=>ae (.v p,C)
theorem Q8{v:V}{q:PV}(h:PE X e (tC v))(r:∀ι H,Rep X.K ι H q v):EM X e (mC q):=by
 show PE.imp h λσ H Q h_=>?_;let#[ι,ρ,C,z,C',sr,e,k]:=h_;cases e;show k v H .refl sr.cr (r ι H)
def aD(g:11e5)(fa fb:3e6):aM->M SV:=λρ=>bP (fa ρ) λx=>bP (fb ρ) λy=>i7 λC=>g C x y
def j'(K:W.Frag)(r:R2)(g:11e5):Prop:=
 ∀(ι:6e8)(H:Hp)(C:Cs)(x y:SV)(vx vy:V)(z:SV)(Q:VK),CR K ι H C->cH K ι H x vx->cH K ι H y vy->g C x y=ae z->(∀v H',Fr ι H H'->CR K ι H' C->cH K ι H' z v->Q v H')->r vx vy H Q
theorem zZ{r:R2}{g:11e5}(hg:j' K r g){Q:VK}(h:tM K (aD g fa fb) σ H Q):tOp r (tM K fa) (tM K fb) σ H Q:=by
 sleep 1;let#[y,C2,e2,e]:=dI e;let#[e3,rfl]:=oW e;show#[ι,ρ,C,x,C1,sr,e1,λvx H1 f1 c1 r1=>#[ι,ρ,C1,y,C',9e5,e2,λvy H2 f2 c2 r2=>hg ι H2 C' x y vx vy z _ c2 (r1.mono c1 f2) r2 e3 λv H3 f3 c3 r3=>q v H3 (f1.trans (f2.trans f3)) c3 r3]]
theorem lV{op:Operator}{r:R2}{g:11e5}(ho:fV X (Wu op) r)(hg:j' X.K r g)(ha:EM X a fa)(hb:EM X b fb):EM X (.BinOp a op b pos) (aD g fa fb):=
 PE.imp (P2 ho ha hb) λ_ _ _ h=>zZ hg h
theorem QH{r:R2}{g:11e5}(hr:Et X r)(hg:j' X.K r g)(ha:EM X a fa)(hb:EM X b fb)(hs:mJ b):EM X (.Subscript a b pos) (aD g fa fb):=
 PE.imp (Vcj hr ha hb hs) λ_ _ _ h=>zZ hg h
def ji(g g':11e5)(fa fb fc:3e6):aM->M SV:=λρ=>bP (fa ρ) λx=>bP (fb ρ) λy=>bP (i7 λC=>g C x y) λz=>bP (mB z) λb=>
 if b then bP (fc ρ) λw=>i7 λC=>g' C y w else ret (.v 9e3)
theorem uS{r r':R2}{g g':11e5}(hg:j' K r g)(hg':j' K r' g'){Q:VK}(h:tM K (ji g g' fa fb fc) σ H Q):xX r r' (tM K fa) (tM K fb) (tM K fc) σ H Q:=by
 sleep 1;let#[y,C2,e2,e]:=dI e;let#[z1,C3,e3,e']:=dI e;let#[e3g,hC3]:=oW e3;let#[k,C4,e4,e9]:=dI e';let#[Bk,hC4]:=Zdr e4;subst Bk hC4 hC3;clear e' e4 e3 e;have e:=e9;show#[ι,ρ,C,x,C1,sr,e1,λvx H1 f1 c1 r1=>#[ι,ρ,C1,y,C4,9e5,e2,λvy H2 f2 c2 r2=>hg ι H2 C4 x y vx vy _ _ c2 (r1.mono c1 f2) r2 e3g λv H3 f3 c3 r3=>?_]];show#[k,F8 r3,?_];cases k with
 |true=>
  rw[aE rfl]at e⊢;let#[w,C5,e5,e]:=dI e;let#[e6,rfl]:=oW e;show#[ι,ρ,C4,w,C',((sr.step f1 c1).step f2 c2).step f3 c3,e5,λvw H4 f4 c4 r4=>hg' ι H4 C' y w vy vw z _ c4 ((r2.mono c2 f3).mono c3 f4) r4 e6 λv' H5 f5 c5 r5=>
   q v' H5 (f1.trans (f2.trans (f3.trans (f4.trans f5)))) c5 r5]
 |false=>
  rw[aI Yt]at e⊢;cases e;show q _ H3 (f1.trans (f2.trans f3)) c3 qh
def aH(f:3e6):aM->M Bool:=λρ=>bP (f ρ) mB
theorem zY{f:3e6}{Q:Bool->Hp->Prop}(h:Mb K (aH f) σ H Q):Fc (tM K f) σ H Q:=by
 sleep 1;let#[rfl,rfl]:=Zdr e;show#[ι,ρ,C,_,C',sr,e1,λv H1 f1 c1 r1=>#[_,F8 r1,q H1 f1 c1]]
noncomputable def cE (C:Cs):SV->Option PV
 |.v p=>ae p
 |.c k=>C[k]?
noncomputable def Sq:PV->Option Bool
 |.aS=>ae ah
 |.bl b=>ae b
 |.int i=>ae (i != 0)
 |.str y=>ae ((y.length:Int) != 0)
 |.tup xs=>ae (!xs.isEmpty)
 |.lst xs=>ae (!xs.isEmpty)
 |.gH ks _=>ae (!ks.isEmpty)
 |_=>af
def eM(f:3e6):aM->M Bool:=λρ=>bP (f ρ) λx=>i7 λC=>(cE C x).bind Sq
inductive Lies(K:W.Frag)(ι:List Addr)(H:Hp):PV->V->Prop
 |aS:Lies K ι H .aS .aS
 |bl (b:Bool):Lies K ι H (.bl b) (.bl b)
 |int (i:Int):Lies K ι H (.int i) (.int i)
 |str (x:Str) (h:x.length<=Yp):Lies K ι H (.str x) (.str x)
 |tup {a:Addr} {ps:List PV} {vs:List V} (h:Rc H a vs) (r:aG K ι H ps vs):Lies K ι H (.tup ps) (.ref a)
 |lst {a:Addr} {ps:List PV} {vs:List V} (h:gL K H a vs) (r:aG K ι H ps vs):Lies K ι H (.lst ps) (.ref a)
 |gH {a:Addr} {qs:List Key} {ps:List PV} {vs:List V} (h:H a=ae (.dK (qs.zip vs))) (hl:qs.length=vs.length) (r:aG K ι H ps vs):Lies K ι H (.gH (qs.map kP) ps) (.ref a)
 |fz {a:Addr} {ks:List (List Key)} {ps:List PV} {vs:List V} (h:Rd H a (.dT (ks.zip vs))) (hl:ks.length=vs.length) (r:aG K ι H ps vs):Lies K ι H (.fz ks ps) (.ref a)
 |fn (a:Addr):Lies K ι H (.fn a) (.ref a)
 |ty (n:String):Lies K ι H (.ty n) (.ty n)
 |dn {a:Addr} {ks ps:List PV} {qs vs:List V} (h:H a=ae (dvO a qs vs)) (r1:aG K ι H ks qs) (r2:aG K ι H ps vs):Lies K ι H (.dn ks ps) (.ref a)
theorem Rep.lies:∀{p:PV}{v:V},Rep K ι H p v->Lies K ι H p v
 |.aS,v,h=>by ext Rep h;subst h;show .aS
 |.bl b,v,h=>by ext Rep h;subst h;show .bl b
 |.int i,v,h=>by ext Rep h;subst h;show .int i
 |.str x,v,h=>by ext Rep h;let#[rfl,h]:=h;show .str x h
 |.tup ps,v,h=>by ext Rep h;let#[a,vs,rfl,h,r]:=h;show .tup h r
 |.lst ps,v,h=>by ext Rep h;let#[a,vs,rfl,h,r]:=h;show .lst h.sq r
 |.gH ks ps,v,h=>by ext Rep h;let#[a,qs,vs,rfl,n,hd,hl,rfl,r]:=h;show .gH hd hl r
 |.fz ks ps,v,h=>by ext Rep h;let#[a,vs,rfl,n,hd,hl,r]:=h;show .fz hd hl r
 |.fn a,v,h=>by ext Rep h;subst h;show .fn a
 |.ty n,v,h=>by ext Rep h;subst h;show .ty n
 |.dn ks ps,v,h=>by ext Rep h;let#[a,qs,vs,rfl,n,hd,r1,r2]:=h;show .dn hd r1 r2
theorem cH.lies{K:W.Frag}{ι:6e8}{H:Hp}{C:Cs}(cr:13e2){x:SV}{p:PV}{v:V}(r:cH K ι H x v)(e:cE C x=ae p):Lies K ι H p v:=by
 cases x with
 |v q=>cases e;show Rep.lies r
 |c k=>
  let#[a,rfl,hk]:=r;have ok:=cr.ok k a p hk e;cases p with
  |lst ps=>let#[vs,h,r]:=ok;show .lst (.of h) r
  |gH ks ps=>let#[qs,vs,h,hl,rfl,r]:=ok;show .gH h hl r
  |fz ks ps=>let#[vs,h,hl,r]:=ok;show .fz (.inl h) hl r
  |_=>show ok.elim
theorem aG.isEmpty{ps:List PV}(r:aG K ι H ps vs):ps.isEmpty=vs.isEmpty:=by
 have:=r.length;cases ps<;>cases vs<;>simp at this⊢
theorem Lies.tru{p:PV}{v:V}{k:Bool}(l:Lies K ι H p v)(e:Sq p=ae k):Vbl K v H k:=by
 cases l with
 |aS=>cases e;rfl
 |bl b=>cases e;rfl
 |int i=>cases e;rfl
 |str x h=>cases e;show#[h,rfl]
 |tup h r=>cases e;show .inr (.inl #[_,h.sq,by rw[r.isEmpty]])
 |lst h r=>cases e;show .inl #[_,h,by rw[r.isEmpty]]
 |@gH a qs ps vs h hl r=>
  cases e;show .inr (.inr #[_,h,?_]);cases qs<;>cases vs<;>simp at hl⊢
 |fz h hl r=>cases e
 |fn a=>cases e
 |ty n=>cases e
 |dn h r1 r2=>cases e
def dG(f:7e3):aM->M Bool:=λρ=>bP (f ρ) λb=>ret (!b)
def d8(f g:7e3):aM->M Bool:=λρ=>bP (f ρ) λb=>if b then g ρ else ret ah
def dY(f g:7e3):aM->M Bool:=λρ=>bP (f ρ) λb=>if b then ret ag else g ρ
def dj(f g:3e6):aM->M SV:=λρ=>bP (f ρ) λx=>bP (mB x) λb=>if b then g ρ else ret (.v 9e3)
def ZF(f g:3e6):aM->M SV:=λρ=>bP (f ρ) λx=>bP (mB x) λb=>if b then ret (.v 10e8)else g ρ
def A6(f:3e6):aM->M SV:=λρ=>bP (f ρ) λx=>bP (mB x) λb=>ret (.v (.bl !b))
def ZG(t:7e3)(f g:3e6):aM->M SV:=λρ=>bP (t ρ) λb=>if b then f ρ else g ρ
def ao:aM->M (List SV):=λ_=>ret []
def ak(f:3e6)(g:2e8):aM->M (List SV):=λρ=>bP (f ρ) λx=>bP (g ρ) λxs=>ret (x::xs)
theorem KG:AM X [] ao:=PA.imp ZdV λσ H Q h_=>by let#[ι,ρ,C,z,C',sr,e,q]:=h_;cases e;show q [] H .refl sr.cr rfl
theorem BY{f:3e6}{g:2e8}(h:EM X e f)(k:AM X es g)(hs:1e3:=by rfl):AM X 4e8 (ak f g):=PA.imp (BZ h k hs) λσ H Q h=>by
 sleep 1;let#[xs,C2,e2,e]:=dI e;cases e;show#[ι,ρ,C,x,C1,sr,e1,λv H1 f1 c1 r1=>#[ι,ρ,C1,xs,C',9e5,e2,λvs H2 f2 c2 r2=>q (v::vs) H2 (f1.trans f2) c2 #[v,vs,rfl,r1.mono c1 f2,r2]]]
def ON(K:W.Frag)(r:16e4)(g:Cs->List SV->Option SV):Prop:=
 ∀(ι:6e8)(H:Hp)(C:Cs)(xs:List SV)(vs:List V)(z:SV)(Q:VK),CR K ι H C->dc K ι H xs vs->g C xs=ae z->(∀v H',Fr ι H H'->CR K ι H' C->cH K ι H' z v->Q v H')->r vs H Q
def cB(g:Cs->List SV->Option SV)(fs:2e8):aM->M SV:=λρ=>bP (fs ρ) λxs=>i7 λC=>g C xs
theorem OV{r:16e4}{g:Cs->List SV->Option SV}{fs:2e8}(hg:ON K r g){Q:VK}(h:tM K (cB g fs) σ H Q):tCB r (tMA K fs) σ H Q:=by
 let#[ι,ρ,C,z,C',sr,e,q]:=h;let#[xs,C1,e1,e]:=dI e;let#[e2,rfl]:=oW e;show#[ι,ρ,C,xs,C',sr,e1,λvs H1 f1 c1 r1=>hg ι H1 C' xs vs z _ c1 r1 e2 λv H2 f2 c2 r2=>q v H2 (f1.trans f2) c2 r2]
theorem Zb9{id:String}{r:16e4}{g:Cs->List SV->Option SV}{fs:2e8}(hc:gB X (.builtin id) r)(hg:ON X.K r g)(jL:Gl X x)(hm:X.mg x=af)(hv:Y0 x=ae (.builtin id))(ha:AM X 4e8 fs)(hn:x≠"__name__":=by decide)(md:4e1:=by decide)
  (he:1e3:=by rfl) (gk:3e4:=by rfl):EM X 11e6 (cB g fs):=
 PE.imp (Zcq hc jL hm hv ha hn md he gk) λ_ _ _ h=>OV hg h
theorem Zcw{T:String}{r:16e4}{g:Cs->List SV->Option SV}{fs:2e8}(hc:gB X (.type T) r)(hg:ON X.K r g)(jL:Gl X x)(hm:X.mg x=af)(hv:Y0 x=ae (.type T))(ha:AM X 4e8 fs)(hn:x≠"__name__":=by decide)(md:4e1:=by decide)
  (he:1e3:=by rfl) (gk:3e4:=by rfl):EM X 11e6 (cB g fs):=
 PE.imp (qm hc jL hm hv ha hn md he gk) λ_ _ _ h=>OV hg h
noncomputable def aF (K:W.Frag)(F:List SV->M SV):Sp:=λvs H Q _=>∃ι ss C r C',CR K ι H C/\dc K ι H ss vs/\F ss C=ae (r,C')/\∀v H',Fr ι H H'->CR K ι H' C'->cH K ι H' r v->Q v H'
def bw(F:List SV->M SV)(fs:2e8):aM->M SV:=λρ=>bP (fs ρ) F
end
def Ex(ι ι2:6e8)(H H':Hp):Prop:=Fr ι H H'/\∀b∈ι2,H b=af
section
variable{K:W.Frag}{ι ι2 ι3 ι':6e8}{H H1 H2 H':Hp}{C C' C1:Cs}{ρ:aM}{σ:St}
mutual
theorem Rep.tr(cr:13e2)(h:∀b o,b∉ι->H b=ae o->b∉ι'/\H' b=ae o):∀(p:PV)(v:V),Rep K ι H p v->Rep K ι' H' p v
 |.aS,v,q=>by unfold Rep at q⊢;show q
 |.bl b,v,q=>by unfold Rep at q⊢;show q
 |.int i,v,q=>by unfold Rep at q⊢;show q
 |.str x,v,q=>by unfold Rep at q⊢;show q
 |.tup ps,v,q=>by
  unfold Rep at q⊢;let#[a,vs,e,sq,r]:=q;show#[a,vs,e,(h _ _ (cr.qp sq (λ_ e=>nomatch e) λ_ e=>nomatch e) sq).2,aG.tr cr h ps vs r]
 |.lst ps,v,q=>by
  unfold Rep at q⊢;let#[a,vs,e,sq,r]:=q;show#[a,vs,e,?_,aG.tr cr h ps vs r];rcases sq with⟨n,z|⟨o,z⟩⟩|z
  .show .inl #[(h _ _ n z).1,.inl (h _ _ n z).2]
  .show .inl #[(h _ _ n z).1,.inr #[o,(h _ _ n z).2]]
  .show .inr z
 |.gH ks ps,v,q=>by
  unfold Rep at q⊢;let#[a,qs,vs,e,n,hd,hl,hk,r]:=q;show#[a,qs,vs,e,(h _ _ n hd).1,(h _ _ n hd).2,hl,hk,aG.tr cr h ps vs r]
 |.fz ks ps,v,q=>by
  unfold Rep at q⊢;let#[a,vs,e,n,hd,hl,r]:=q;show#[a,vs,e,by rcases id hd with q|⟨o,q⟩<;>show(h _ _ n q).1,sD (λo q=>(h _ o n q).2) hd,hl,aG.tr cr h ps vs r]
 |.fn a,v,q=>by unfold Rep at q⊢;show q
 |.ty n,v,q=>by unfold Rep at q⊢;show q
 |.dn ks ps,v,q=>by
  unfold Rep at q⊢;let#[a,qs,vs,e,n,hd,r1,r2]:=q;show#[a,qs,vs,e,(h _ _ n hd).1,(h _ _ n hd).2,aG.tr cr h ks qs r1,aG.tr cr h ps vs r2]
theorem aG.tr(cr:13e2)(h:∀b o,b∉ι->H b=ae o->b∉ι'/\H' b=ae o):∀(ps:List PV)(vs:List V),aG K ι H ps vs->aG K ι' H' ps vs
 |[],vs,q=>by unfold aG at q⊢;show q
 |p::ps,vs,q=>by
  unfold aG at q⊢;let#[v,r,e,h1,h2]:=q;show#[v,r,e,Rep.tr cr h p v h1,aG.tr cr h ps r h2]
end
theorem Ex.fr(f:Fr ι H H'):Ex ι [] H H':=#[f,λ_ z=>nomatch z]
theorem Ex.out(x:Ex ι ι2 H H'):∀b o,b∉ι->H b=ae o->b∉ι++ι2/\H' b=ae o:=λb o n e=>by
 show#[λz=>?_,x.1 b o n e];rcases YZ.mp z with z|z
 .show n z
 .rw[x.2 b z]at e;cases e
theorem Ex.trans(c:CR K 9e6 H1 C1)(x:Ex ι ι2 H H1)(y:Ex 9e6 ι3 H1 H2):Ex ι (ι2++ι3) H H2:=by
 show#[λb o n e=>(y.out b o (x.out b o n e).1 (x.out b o n e).2).2,λb hb=>?_];rcases YZ.mp hb with hb|hb
 .show x.2 b hb
 .cases e:H b with
  |none=>rfl
  |some o=>
   by_cases n:b∈ι
   .rcases c.mut (Xg _ n)with⟨vs,z⟩|⟨vs,z⟩|⟨vs,z⟩
    .rw[y.2 b hb]at z;cases z
    .rw[y.2 b hb]at z;cases z
    .rw[y.2 b hb]at z;cases z
   .have:=x.1 b o n e
    rw[y.2 b hb]at this;cases this
theorem cH.ex(cr:13e2)(x:Ex ι ι2 H H'){s:SV}{v:V}(r:cH K ι H s v):cH K 9e6 H' s v:=by
 cases s with
 |v p=>show Rep.tr cr x.out p v r
 |c k=>
  let#[a,e,hk]:=r;show#[a,e,?_];have hl:k<ι.length:=by
   rcases Y2 k ι.length with q|q
   .show q
   .rw[YA.mpr q]at hk;cases hk
  rw[Yu hl];show hk
theorem SR.ex(sr:SR K ι H ρ σ C)(x:Ex ι ι2 H H')(c:CR K 9e6 H' C'):SR K 9e6 H' ρ σ C':=
 #[c,sr.len,λi s e=>by let#[v,h1,h2]:=sr.loc i s e;show#[v,h1,h2.ex sr.cr x]]
end
theorem dc.length{K:W.Frag}{ι:6e8}{H:Hp}:∀{ss:List SV}{vs:List V},dc K ι H ss vs->ss.length=vs.length
 |[],vs,h=>by rw[show vs=[]from h];rfl
 |s::ss,vs,h=>by let#[v,r,rfl,_,t]:=h;rw[YB,YB,dc.length t]
def Done(K:W.Frag)(ι:6e8)(H:Hp)(D:Ends)(C':Cs):PF->Prop
 |.nx ρ=>∀ι2 σ' H',Ex ι ι2 H H'->SR K 9e6 H' ρ σ' C'->D.nx σ' H'
 |.rt r=>∀ι2 v H',Ex ι ι2 H H'->CR K 9e6 H' C'->cH K 9e6 H' r v->D.rt v H'
 |.bk ρ=>∀ι2 σ' H',Ex ι ι2 H H'->SR K 9e6 H' ρ σ' C'->D.bk σ' H'
 |.ct ρ=>∀ι2 σ' H',Ex ι ι2 H H'->SR K 9e6 H' ρ σ' C'->D.ct σ' H'
 |.rf ps=>∀ι2 p vs H',Ex ι ι2 H H'->CR K 9e6 H' C'->H' p=af->aG K 9e6 H' ps vs->D.rt (.ref p) (upd H' p (.lst vs))
 |.rq qs=>∀ι2 p vs H',Ex ι ι2 H H'->CR K 9e6 H' C'->H' p=af->dc K 9e6 H' qs vs->D.rt (.ref p) (upd H' p (.tup vs))
noncomputable def tMS (K:W.Frag)(f:8e9):TS:=λD σ H=>∃ι ρ C fl C',SR K ι H ρ σ C/\f ρ C=ae (fl,C')/\Done K ι H D C' fl
def SM(X:Cx)(st:Stmt)(f:8e9):Prop:=PS X st (tMS X.K f)
def BM(X:Cx)(lC:List Stmt)(f:8e9):Prop:=i8 X lC (tMS X.K f)
section
variable{K:W.Frag}{ι ι2:6e8}{H H':Hp}{C C' C1:Cs}{ρ:aM}{σ:St}{D:Ends}{fl:PF}
theorem Done.tr(c:CR K 9e6 H' C1)(x:Ex ι ι2 H H')(d:Done K ι H D C' fl):Done K 9e6 H' D C' fl:=by
 cases fl with
 |nx ρ=>intro ι3 σ' H2 y sr;rw[Yx]at sr;show d _ σ' H2 (x.trans c y) sr
 |rt r=>intro ι3 v H2 y cr rr;rw[Yx]at cr rr;show d _ v H2 (x.trans c y) cr rr
 |bk ρ=>intro ι3 σ' H2 y sr;rw[Yx]at sr;show d _ σ' H2 (x.trans c y) sr
 |ct ρ=>intro ι3 σ' H2 y sr;rw[Yx]at sr;show d _ σ' H2 (x.trans c y) sr
 |rf ps=>intro ι3 p vs H2 y cr hp rs;rw[Yx]at cr rs;show d _ p vs H2 (x.trans c y) cr hp rs
 |rq ps=>intro ι3 p vs H2 y cr hp rs;rw[Yx]at cr rs;show d _ p vs H2 (x.trans c y) cr hp rs
theorem Done.fr(c:CR K ι H' C1)(f:Fr ι H H')(d:Done K ι H D C' fl):Done K ι H' D C' fl:=by
 have:=Done.tr (ι2:=[]) (by rw[Yv];show c) (Ex.fr f) d;rw[Yv]at this;show this
theorem Done.P4(sr:SR K ι H ρ σ C')(d:Done K ι H D C' (.nx ρ)):D.nx σ H:=d [] σ H (Ex.fr .refl) (by rw[Yv];show sr)
end
section
variable{X:Cx}{a b e c tg:Expr}{es:7e0}{st:Stmt}{rest lC xY:List Stmt}{f g:8e9}{pos p pos':Pos}{x:Str}
def bo:aM->M PF:=λρ=>ret (.nx ρ)
def aC(f g:8e9):aM->M PF:=λρ=>bP (f ρ) λfl=>match fl with
 |.nx ρ'=>g ρ'
 |fl=>ret fl
def bx(t:7e3)(f g:8e9):aM->M PF:=λρ=>bP (t ρ) λb=>if b then f ρ else g ρ
def bj(f:3e6):aM->M PF:=λρ=>bP (f ρ) λr=>ret (.rt r)
def vP(f:12e2):aM->M PF:=λρ=>bP (f ρ) λr=>ret (.rf r)
def cb(f:3e6):aM->M PF:=λρ=>bP (f ρ) λ_=>ret (.nx ρ)
def bg(i:Nat)(f:3e6):aM->M PF:=λρ=>bP (f ρ) λr=>ret (.nx (ρ.set i (ae r)))
theorem Fp{i:Nat}{f:3e6}(hN:X.N.Nodup)(hi:11e7)(hx:Loc X.env.scope x)(h:EM X e f)(hs:13e6:=by rfl)
  (hf:6e2:=by first|show .inl rfl|show .inr rfl|assumption):SM X (.Assign [.Name x pos'] e pos) (bg i f):=PS.imp (ZdU hN hi hx h hs hf) λD σ H h_=>by
 sleep 6;let#[z,C1,e1,e]:=dI e;cases e;show#[ι,ρ,C,z,_,sr,e1,λv H1 f1 c1 r1=>Done.P4 ((sr.step f1 c1).set i r1) (d.fr c1 f1)]
def gg(i:Nat)(f:12e2):aM->M PF:=λρ=>bP (f ρ) λps=>λC=>ae (.nx (ρ.set i (ae (.c C.length))),C++[.lst ps])
theorem Hf{ρ:aM}{C C1:Cs}{D:Ends}{ps:List PV}{q:Addr}(sr:SR K ι H ρ σ C)(d:Done K ι H D (C1++[.lst ps]) (.nx (ρ.set i (ae (.c C1.length)))))
  (f1:Fr ι H H') (c1:CR K ι H' C1) (hq:H' q=af) (rs:aG K ι H' ps vs):D.nx (σ.set i (ae (.ref q))) (upd H' q (.lst vs)):=by
 have c2:CR K (ι++[q]) (upd H' q (.lst vs)) (C1++[.lst ps]):=c1.add hq #[vs,oz,mH c1 hq ps vs rs];have x:Ex ι [q] H (upd H' q (.lst vs)):=#[f1.trans (Fr.new hq),λb hb=>by
  have:b=q:=by simpa using hb
  subst this;cases e:H b with
  |none=>rfl
  |some o=>
   by_cases n:b∈ι
   .rcases c1.mut n with⟨vs,z⟩|⟨vs,z⟩|⟨vs,z⟩
    .rw[hq]at z;cases z
    .rw[hq]at z;cases z
    .rw[hq]at z;cases z
   .have:=f1 b o n e;rw[hq]at this;cases this]
 show d [q] _ _ x ((sr.ex x c2).set i #[q,rfl,?_]);rw[←c1.len];simp
noncomputable def plain:List SV->Option 5e5
 |[]=>ae []
 |.v p::r=>(plain r).map (p::·)
 |.c _::_=>af
theorem Zb3{K:W.Frag}{ι:6e8}{H:Hp}:∀{xs:List SV}{ps:List PV}{vs:List V},plain xs=ae ps->dc K ι H xs vs->aG K ι H ps vs/\vs.length=xs.length
 |[],ps,vs,e,r=>by cases e;rw[show vs=[]from r];show#[.nil,rfl]
 |.v p::xs,ps,vs,e,r=>by
  let#[v,w,rfl,h1,h2]:=r;ext plain e;cases h:plain xs with
  |none=>rw[h]at e;cases e
  |some qs=>
   rw[h]at e;cases e;show#[.cons h1 (Zb3 h h2).1,by rw[YB,YB,(Zb3 h h2).2]]
 |.c _::_,ps,vs,e,r=>by cases e
theorem HA(h:n<=1000):n<=sizeLine:=YC h (by rw[YH];decide)
def cj(fs:2e8):aM->M SV:=λρ=>bP (fs ρ) λxs=>i7 λ_=>if xs.length<=1000 then(plain xs).map λps=>.v (.tup ps)else af
def bQ(fs:2e8):aM->M 5e5:=λρ=>bP (fs ρ) λxs=>i7 λ_=>if xs.length<=1000 then plain xs else af
def bh(f:12e2):aM->M SV:=λρ=>bP (f ρ) λps=>ret (.v 17e3)
theorem Zch{C:Cs}{ps:List PV}{q:Addr}(c1:13e2)(hq:H q=af)(rs:aG K ι H ps vs):Rep K ι (upd H q (.lst vs)) 17e3 (.ref q):=by
 ext Rep;show#[q,vs,rfl,.inl #[λz=>?_,.inl oz],aG.fE (λb o e=>by rw[fS (kI e hq)];show e) ps vs rs];rcases c1.mut z with⟨_,e⟩|⟨_,e⟩|⟨_,e⟩
 .rw[hq]at e;cases e
 .rw[hq]at e;cases e
 .rw[hq]at e;cases e
noncomputable def Sz (K:W.Frag)(g:5e8):TG:=λv σ H Q=>∃ι ρ C p ρ',SR K ι H ρ σ C/\Rep K ι H p v/\g p ρ=ae ρ'/\∀σ',SR K ι H ρ' σ' C->Q σ' H
noncomputable def Vef (K:W.Frag)(g:14e4):KS:=λv σ H Q=>∃ι ρ C p ρ',SR K ι H ρ σ C/\aG K ι H p v/\g p ρ=ae ρ'/\∀σ',SR K ι H ρ' σ' C->Q σ' H
def GM(X:Cx)(tg:Expr)(g:5e8):Prop:=PG X tg (Sz X.K g)
def GMs(X:Cx)(ts:7e0)(g:14e4):Prop:=KY X ts (Vef X.K g)
theorem PG.imp{t t':TG}(h:PG X tg t)(k:∀v σ H Q,t' v σ H Q->t v σ H Q):PG X tg t':=λpins s σ H v u Q I r q=>h pins s σ H v u Q I r (k v σ H Q q)
theorem KY.imp{t t':KS}(h:KY X es t)(k:∀v σ H Q,t' v σ H Q->t v σ H Q):KY X es t':=λpins s σ H v u Q I r q=>h pins s σ H v u Q I r (k v σ H Q q)
noncomputable def hName (i:Nat):PV->aM->Option aM:=λp ρ=>ae (ρ.set i (ae (.v p)))
noncomputable def fZ:List PV->aM->Option aM
 |[],ρ=>ae ρ
 |_::_,_=>af
noncomputable def bf (g:5e8)(gs:14e4):List PV->aM->Option aM
 |[],_=>af
 |p::ps,ρ=>(g p ρ).bind λρ'=>gs ps ρ'
noncomputable def eP (gs:14e4)(n:Nat):PV->aM->Option aM
 |.tup ps,ρ=>if ps.length=n then gs ps ρ else af
 |_,_=>af
def fQ(f:3e6)(g:5e8):aM->M PF:=λρ=>bP (f ρ) λr=>match r with
 |.v p=>λC=>(g p ρ).map λρ'=>(.nx ρ',C)
 |.c _=>λ_=>af
end
structure Iter(K:W.Frag)(ι:List Addr)(H1:Hp)(xs:List PV)(J:It):Prop where
 go:∀ι2 H2 C2,Ex ι ι2 H1 H2->CR K 9e6 H2 C2->∀i,i<xs.length->J.go i H2
 Lo:∀ι2 H2 C2,Ex ι ι2 H1 H2->CR K 9e6 H2 C2->∀i v H3,i<xs.length->J.Lo i H2 v H3->(∀b o,H2 b=ae o->H3 b=ae o)/\∃p,xs[i]? = ae p/\Rep K 9e6 H3 p v
 stop:∀ι2 H2 C2,Ex ι ι2 H1 H2->CR K 9e6 H2 C2->J.stop xs.length H2
noncomputable def tMI (K:W.Frag)(f:12e2):TI:=λσ H R=>∃ι ρ C xs C',SR K ι H ρ σ C/\f ρ C=ae (xs,C')/\∀J H1,Fr ι H H1->CR K ι H1 C'->Iter K ι H1 xs J->R J H1
def IM(X:Cx)(tg iter:Expr)(f:12e2):Prop:=PI X tg iter (tMI X.K f)
section
variable{X:Cx}{e tg iter elt:Expr}{es:7e0}{body:List Stmt}{f:8e9}{pos p:Pos}{x:Str}
def loop(g:5e8)(f:8e9):List PV->aM->M PF
 |[],ρ=>ret (.nx ρ)
 |x::xs,ρ=>match g x ρ with
  |none=>λ_=>af
  |some ρ1=>bP (f ρ1) λfl=>match fl with
   |.nx ρ2=>loop g f xs ρ2
   |.ct ρ2=>loop g f xs ρ2
   |.bk ρ2=>ret (.nx ρ2)
   |.rt r=>ret (.rt r)
   |.rf ps=>ret (.rf ps)
   |.rq ps=>ret (.rq ps)
def ix(it:12e2)(g:5e8)(f:8e9):aM->M PF:=λρ=>bP (it ρ) λxs=>loop g f xs ρ
noncomputable def di (vs:2e2)(fr:List Nat)(ρ:aM):aM:=vs.map (λ_=>af)++fr.map λi=>(ρ[i]?).join
def bN(g:5e8)(tt:7e3)(te:3e6):List PV->aM->List PV->M 5e5
 |[],_,ys=>ret ys
 |x::xs,ρ,ys=>match g x ρ with
  |none=>λ_=>af
  |some ρ1=>bP (tt ρ1) λb=>if b then bP (te ρ1) λy=>match y with
    |.v p=>bN g tt te xs ρ1 (ys++[p])
    |.c _=>λ_=>af
   else bN g tt te xs ρ1 ys
def br(it:12e2)(vs:2e2)(fr:List Nat)(g:5e8)(tt:7e3)(te:3e6):aM->M 5e5:=λρ=>bP (it ρ) λxs=>if xs.length<=100000 then bN g tt te xs (di vs fr ρ) []else λ_=>af
theorem SR.block{ρ:aM}{C:Cs}(sr:SR K ι H ρ σ C)(vs:2e2)(fr:List Nat):SR K ι H (di vs fr ρ) (se vs fr σ) C:=by
 show#[sr.cr,by simp[di,se],λi s e=>?_];ext di e;ext se;rcases Y2 i vs.length with h|h
 .rw[Yu (by simpa using h)]at e
  simp at e
 .rw[YW (by simpa using h)]at e
  rw[YW (by simpa using h)]
  erw[Yk,YS]at e⊢
  cases hj:fr[i-vs.length]? with
  |none=>rw[hj]at e;cases e
  |some j=>
   rw[hj]at e;have e':(ρ[j]?).join=ae s:=by simpa using e
   have e2:ρ[j]? = ae (ae s):=by
    cases hr:ρ[j]? with
    |none=>rw[hr]at e';cases e'
    |some o=>rw[hr]at e';simp at e';rw[e']
   let#[v,h1,h2]:=sr.loc j s e2;show#[v,?_,h2];simp[h1]
theorem sY(h:n<=100000):n<=sizeLine:=YC h (by rw[YH];decide)
theorem qQ{it:12e2}{vs:2e2}{fr:List Nat}{g:5e8}{tt:7e3}{te:3e6}{Q:VK}{ρ:aM}{C C':Cs}{res:List PV}(sr:SR K ι H ρ σ C)
  (e:br it vs fr g tt te ρ C=ae (res,C')) (q:∀p vs H',Fr ι H H'->CR K ι H' C'->H' p=af->aG K ι H' res vs->Q (.ref p) (upd H' p (.lst vs))):z8 (tMI K it) vs fr (Sz K g) (Mb K tt) (tM K te) σ H Q:=by
 let#[xs,C1,e1,e]:=dI e;show#[ι,ρ,C,xs,C1,sr,e1,λJ H1 f1 c1 Lw=>?_];by_cases hz:xs.length<=100000
 case neg=>rw[aI hz]at e;cases e
 rw[aE hz]at e;have CO:=(sr.step f1 c1).block vs fr;have x0:∀{H2:Hp},Fr ι H1 H2->Ex ι [] H1 H2:=λf=>Ex.fr f;have c0:∀{H2:Hp}{C2:Cs},CR K ι H2 C2->CR K (ι++[]) H2 C2:=λc=>by rw[Yv];show c
 show⟨λi m σ2 ys H2=>∃ρ2 C2 ps,m=xs.length-i/\i<=xs.length/\Fr ι H1 H2/\SR K ι H2 ρ2 σ2 C2/\aG K ι H2 ps ys/\ps.length<=i/\bN g tt te (xs.drop i) ρ2 ps C2=ae (res,C'),#[xs.length,_,C1,[],rfl,XZ _,.refl,CO,.nil,Yo _,e],?_⟩;rintro i m σ2 ys H2 ⟨ρ2,C2,ps,rfl,hi2,f2,jF,Te,EA,e2⟩;have hys:ys.length<=sizeLine:=by rw[←Te.length];show sY (YC (YC EA hi2) hz)
 rcases Y2 i xs.length with gG|hge
 .right
  show⟨Lw.go [] H2 C2 (x0 f2) (c0 jF.cr) i gG,hys,λσ' CD H'=>∃ρ2 C2 ps,Fr ι H1 H'/\SR K ι H' ρ2 σ' C2/\aG K ι H' ps CD/\ps.length<=i+1/\bN g tt te (xs.drop (i+1)) ρ2 ps C2=ae (res,C'),?_,?_⟩
  .rintro σ' CD H' ⟨ρ3,C3,ps3,f3,Lq,rs3,h3,e3⟩
   show#[xs.length-(i+1),by lia,ρ3,C3,ps3,rfl,gG,f3,Lq,rs3,h3,e3]
  .intro v H3 y
   let#[sm,qv,hq,rq]:=Lw.Lo [] H2 C2 (x0 f2) (c0 jF.cr) i v H3 gG y;rw[Yv]at rq;have hd:xs.drop i=qv::xs.drop (i+1):=by
    rw[Wd gG];rw[Yd gG]at hq;rw[Yz hq]
   rw[hd]at e2;ext bN e2;cases Bn:g qv ρ2 with
   |none=>rw[Bn]at e2;cases e2
   |some ρ3=>
    rw[Bn]at e2;let#[b,C3,e3,e4]:=dI e2;have uA:Fr ι H2 H3:=λb o _ z=>sm b o z;have zm:CR K ι H3 C2:=jF.cr.same sm;show#[ι,ρ2,C2,qv,ρ3,jF.step uA zm,rq,Bn,λσ4 xN=>#[ι,ρ3,C2,b,C3,xN,e3,λH5 f5 c5=>?_]];have f15:=f2.trans (uA.trans f5);have rs5:aG K ι H5 ps ys:=aG.mono zm f5 _ _ (aG.mono jF.cr uA _ _ Te);cases b with
    |true=>
     rw[aE rfl]at e4;dsimp only;rw[aE rfl];let#[y1,C6,e6,e7]:=dI e4;show#[ι,ρ3,C3,y1,C6,xN.step f5 c5,e6,λv7 H7 f7 c7 r7=>?_];cases y1 with
     |c k=>cases e7
     |v p7=>show#[ρ3,C6,ps++[p7],f15.trans f7,(xN.step f5 c5).step f7 c7,(aG.mono c5 f7 _ _ rs5).append (.cons r7 .nil),by simp;show EA,e7]
    |false=>
     rw[aI Yt]at e4;dsimp only;rw[aI Yt];show#[ρ3,C3,ps,f15,xN.step f5 c5,rs5,Nat.le_succ_of_le EA,e4]
 .left
  have hi3:i=xs.length:=by lia
  subst hi3;rw[List.drop_length]at e2;cases e2;show#[Lw.stop [] H2 _ (x0 f2) (c0 jF.cr),hys,λD hD=>q D ys H2 (f1.trans f2) jF.cr hD Te]
section
variable{ifs:7e0}{scope:Scope}{vs fs:2e2}{fr:List Nat}{it:12e2}{g:5e8}{tt:7e3}{te:3e6}
def TsM(X:Cx)(ifs:7e0)(t:7e3):Prop:=PTs X ifs (Mb X.K t)
def gq:aM->M Bool:=λ_=>ret ag
end
end
theorem CR.cut{C:Cs}(c:CR K 9e6 H C)(hn:ι.length=n):CR K ι H (C.take n):=by
 have hlen:(ι++ι2).length=C.length:=c.len;rw[YT]at hlen;have hs:∀b o,H b=ae o->b∉ι++ι2->b∉ι:=λb o _ z q=>z (Xg _ q);show#[by rw[Y8];lia,(Vr.mp c.nd).1,λk a d h1 h2=>?_];have hk:k<ι.length:=by
  rcases Y2 k ι.length with q|q
  .show q
  .rw[YA.mpr q]at h1;cases h1
 rw[Xj 3e5]at h2;have ok:=c.ok k a d (by rw[Yu hk];show h1) h2;cases d with
 |lst ps=>let#[vs,e,r]:=ok;show#[vs,e,aG.cells hs _ _ r]
 |gH ks ps=>let#[qs,vs,e,hl,hk,r]:=ok;show#[qs,vs,e,hl,hk,aG.cells hs _ _ r]
 |fz ks ps=>let#[vs,e,hl,r]:=ok;show#[vs,e,hl,aG.cells hs _ _ r]
 |_=>show ok.elim
noncomputable def fin (n:Nat)(C':Cs):SV->Option (SV×Cs)
 |.v p=>ae (.v p,C'.take n)
 |.c k=>if k<n then ae (.c k,C'.take n)else(C'[k]?).map λc=>(.v c,C'.take n)
noncomputable def pM (n:Nat)(C':Cs):List SV->Option 5e5
 |[]=>ae []
 |.v p::r=>(pM n C' r).map (p::·)
 |.c k::r=>if k<n then af else(C'[k]?).bind λc=>(pM n C' r).map (c::·)
def cK(n pad:Nat)(body:8e9):List SV->M SV:=λss C=>if ss.length=n then(match body (ss.map ae++YG pad af) C with
 |some (.rt r,C')=>fin C.length C' r
 |some (.nx _,C')=>ae (.v .aS,C'.take C.length)
 |some (.rf ps,C')=>ae (.v 17e3,C'.take C.length)
 |some (.rq qs,C')=>(pM C.length C' qs).map λps=>(.v (.tup ps),C'.take C.length)
 |_=>af)else af
noncomputable def qz (n pad:Nat)(body:8e9):List SV->M 5e5:=λss C=>if ss.length=n then(match body (ss.map ae++YG pad af) C with
 |some (.rf ps,C')=>ae (ps,C'.take C.length)
 |_=>af)else af
def gP(K:W.Frag)(F:List SV->M 5e5):Sp:=λvs H Q _=>∃ι ss C ps C',CR K ι H C/\dc K ι H ss vs/\F ss C=ae (ps,C')/\∀p vs H',Fr ι H H'->CR K ι H' C'->H' p=af->aG K ι H' ps vs->Q (.ref p) (upd H' p (.lst vs))
def pG(F:List SV->M 5e5)(fs:2e8):aM->M 5e5:=λρ=>bP (fs ρ) F
theorem za{C' C2:Cs}{r r':SV}{v:V}(c:CR K 9e6 H C')(hn:ι.length=n)(rr:cH K 9e6 H r v)(e:fin n C' r=ae (r',C2)):CR K ι H C2/\cH K ι H r' v:=by
 have hs:∀b o,H b=ae o->b∉ι++ι2->b∉ι:=λb o _ z q=>z (Xg _ q);cases r with
 |v p=>cases e;show#[c.cut hn,Rep.cells hs p v rr]
 |c k=>
  let#[a,rfl,hk]:=rr;replace e:(if k<n then ae (SV.c k,C'.take n)else(C'[k]?).map λc=>(SV.v c,C'.take n))=ae (r',C2):=e;by_cases h:k<n
  .rw[aE h]at e
   cases e;show#[c.cut hn,a,rfl,?_];rw[Yu 3e5]at hk;show hk
  .rw[aI h]at e
   cases hd:C'[k]? with
   |none=>rw[hd]at e;cases e
   |some d=>
    rw[hd]at e;cases e;show#[c.cut hn,?_];have ok:=c.ok k a d hk hd;have hna:a∉ι:=λz=>by
     let#[j,hj,ej]:=W2 z;have hjk:(ι++ι2)[j]? = ae a:=by rw[Yu hj,Yd hj,ej]
     have hkl:k<(ι++ι2).length:=by
      rcases Y2 k (ι++ι2).length with q|q
      .show q
      .rw[YA.mpr q]at hk;cases hk
     have hjl:j<(ι++ι2).length:=by rw[YT];lia
     have e1:=(YJ.mp hjk).2;have e2:=(YJ.mp hk).2;have:=(Vz c.nd).mp (e1.trans e2.symm);lia
    change Rep K ι H d (.ref a);cases d with
    |lst ps=>let#[vs,e,r]:=ok;ext Rep;show#[a,vs,rfl,.inl #[hna,.inl e],aG.cells hs _ _ r]
    |gH ks ps=>let#[qs,vs,e,hl,hk,r]:=ok;ext Rep;show#[a,qs,vs,rfl,hna,e,hl,hk,aG.cells hs _ _ r]
    |fz ks ps=>let#[vs,e,hl,r]:=ok;ext Rep;show#[a,vs,rfl,hna,.inl e,hl,aG.cells hs _ _ r]
    |_=>show ok.elim
theorem tF{K:W.Frag}{ι ι2:6e8}{H:Hp}{C':Cs}{n:Nat}(c:CR K 9e6 H C')(hn:ι.length=n):∀{qs:List SV}{ps:List PV}{vs:List V},dc K 9e6 H qs vs->pM n C' qs=ae ps->aG K ι H ps vs
 |[],ps,vs,r,e=>by cases e;rw[show vs=[]from r];show .nil
 |.v p::qs,ps,vs,r,e=>by
  let#[v,w,rfl,h1,h2]:=r;ext pM e;cases hq:pM n C' qs with
  |none=>rw[hq]at e;cases e
  |some z=>
   rw[hq]at e;cases e;show .cons (za (r:=.v p) (r':=.v p) c hn h1 rfl).2 (tF c hn h2 hq)
 |.c k::qs,ps,vs,r,e=>by
  let#[v,w,rfl,h1,h2]:=r;ext pM e;by_cases hk:k<n
  .rw[aE hk]at e;cases e
  .rw[aI hk]at e
   cases hc:C'[k]? with
   |none=>rw[hc]at e;cases e
   |some d=>
    cases hq:pM n C' qs with
    |none=>rw[hc,hq]at e;cases e
    |some z=>
     rw[hc,hq]at e;cases e;show .cons (za (r:=.c k) (r':=.v d) c hn h1 (show(if k<n then ae (SV.c k,C'.take n)else(C'[k]?).map λc=>(SV.v c,C'.take n))=ae (.v d,C'.take n) by rw[aI hk,hc];rfl)).2 (tF c hn h2 hq)
theorem dc.get{K:W.Frag}{ι:6e8}{H:Hp}:∀{ss:List SV}{vs:List V}{i:Nat}{s:SV},dc K ι H ss vs->ss[i]? = ae s->∃v,vs[i]? = ae v/\cH K ι H s v
 |[],_,_,_,h,e=>by simp at e
 |q::ss,vs,0,s,h,e=>by
  let#[v,r,rfl,h1,h2]:=h;simp at e;subst e;show#[v,rfl,h1]
 |q::ss,vs,i+1,s,h,e=>by
  let#[v,r,rfl,h1,h2]:=h;let#[w,e1,r1]:=dc.get (i:=i) h2 (by simpa using e);show#[w,by simpa using e1,r1]
theorem Zck{C:Cs}{ss:List SV}{N:2e2}(cr:13e2)(rs:dc K ι H ss vs):SR K ι H (ss.map ae++YG (N.length-ss.length) af) (L2.start N vs) C:=by
 have hl:=dc.length rs;show#[cr,by ext L2.start;simp[hl],λi s e=>?_];ext L2.start;rcases Y2 i ss.length with h|h
 .rw[Yu (by simpa using h),YS]at e
  rw[Yu (by rw[Yk,←hl];show h),YS];cases hs:ss[i]? with
  |none=>rw[hs]at e;cases e
  |some s'=>
   rw[hs]at e;have:s'=s:=by simpa using e
   subst this;let#[v,h1,h2]:=dc.get rs hs;show#[v,by rw[h1];rfl,h2]
 .rw[YW (by simpa using h),List.getElem?_replicate]at e
  split at e<;>cases e
end Pu
variable{ps qs xs:List Pu.PV}{C D C2:Pu.Cs}{q p:Pu.PV}{ρ:Pu.aM}{ft:Pu.aM->Pu.M Bool}{g:Pu.aM->Pu.M Pu.PF}{F:List Pu.SV->Pu.M Pu.SV}
namespace Pu
open PySem PySem.Spec L2
open PyProof.Rows hiding St Fr
def g2(h:PV->PV->Option PV):Cs->SV->SV->Option SV:=λC x y=>match cE C x,cE C y with
 |some p,ae q=>(h p q).map .v
 |_,_=>af
def iL(K:W.Frag)(r:R2)(h:PV->PV->Option PV):Prop:=
 ∀(ι:6e8)(H:Hp)(C:Cs)(p q:PV)(vx vy:V)(z:PV)(Q:VK),CR K ι H C->Lies K ι H p vx->Lies K ι H q vy->h p q=ae z->(∀v H',Fr ι H H'->CR K ι H' C->Rep K ι H' z v->Q v H')->r vx vy H Q
theorem iL.r{r:R2}{h:PV->PV->Option PV}(k:iL K r h):j' K r (g2 h):=by
 intro ι H C x y vx vy z Q cr rx ry e q;ext g2 e;cases hx:cE C x with
 |none=>rw[hx]at e;cases e
 |some p=>
  cases hy:cE C y with
  |none=>rw[hx,hy]at e;cases e
  |some p2=>
   rw[hx,hy]at e;cases hz:h p p2 with
   |none=>simp[hz]at e
   |some z2=>
    simp[hz]at e;subst e;show k ι H C p p2 vx vy z2 Q cr (rx.lies cr hx) (ry.lies cr hy) hz q
theorem fV.or{f:Value->Value->Sem Value}{r r':R2}(h:fV X f r)(h':fV X f r'):fV X f (λx y H Q=>r x y H Q\/r' x y H Q):=by
 intro pins s σ H x y v u Q I rx ry q;rcases q with q|q
 .show h pins s σ H x y v u Q I rx ry q
 .show h' pins s σ H x y v u Q I rx ry q
section
variable{K:W.Frag}{ι:6e8}{H:Hp}{C:Cs}{Q:VK}{z:PV}
theorem gQ{v:V}{i:Str}(h:Lies K ι H (.str i) v):v=.str i/\i.length<=sizeLine:=by cases h;show#[rfl,by assumption]
theorem lM{v:V}(h:Lies K ι H (.tup ps) v):∃a vs,v=.ref a/\Rc H a vs/\aG K ι H ps vs:=by cases h;show#[_,_,rfl,by assumption,by assumption]
theorem gR{v:V}(h:Lies K ι H 17e3 v):∃a vs,v=.ref a/\gL K H a vs/\aG K ι H ps vs:=by cases h;show#[_,_,rfl,by assumption,by assumption]
theorem C9{i:Int}:Rep K ι H (.int i) (.int i):=by ext Rep;rfl
theorem fA{i:Bool}:Rep K ι H (.bl i) (.bl i):=by ext Rep;rfl
theorem VbZ:Rep K ι H .aS .aS:=by ext Rep;rfl
theorem ma{i:Str}(h:i.length<=Yp):Rep K ι H (.str i) (.str i):=by ext Rep;show#[rfl,h]
theorem iy(h:n<=1000000):n<=sizeLine:=YC h (by rw[YH];decide)
theorem ZcJ{q:Addr}(hq:H q=af)(rs:aG K ι H ps vs):Rep K ι (upd H q (.tup vs)) (.tup ps) (.ref q):=by
 ext Rep;show#[q,vs,rfl,oz,aG.fE (λb o e=>by rw[fS (kI e hq)];show e) ps vs rs]
end
noncomputable def fm:PV->PV->Option PV
 |.int i,.int j=>ae (.int (i+j))
 |.str i,.str j=>if i.length+j.length<=1000000 then ae (.str (i++j))else af
 |.lst a,.lst b=>if a.length+b.length<=1000000 then ae (.lst (a++b))else af
 |.tup a,.tup b=>if a.length+b.length<=1000000 then ae (.tup (a++b))else af
 |_,_=>af
def Gn(K:W.Frag):R2:=λx y H Q=>∃l b xs zs,x=.ref l/\y=.ref b/\gL K H l xs/\gL K H b zs/\xs.length+zs.length<=Yp/\∀p,H p=af->Q (.ref p) (upd H p (.lst (xs++zs)))
section
variable{X:Cx}
theorem Au:fV X (Wu .Add) (Gn X.K):=by
 sleep 3;let#[l,b,xs,zs,rfl,rfl,hH,hB,hz,q]:=h;cases rx;cases ry;let#[ba,r,pl,_]:=I.list hH;let#[DL,r2,pl2,_]:=I.list hB;obtain⟨⟨cls,dd,data,sl⟩,ho,hc,n,hd⟩:=id pl.isList;obtain⟨⟨VaQ,LJ,data2,Lr⟩,wz,EE,n2,hd2⟩:=id pl2.isList;simp only at hc hd EE hd2;subst hc hd EE hd2;have h1:=r.length;have h2:=r2.length;have ea:ba.toArray++DL.toArray=(ba++DL).toArray:=by simp
 show Uq #[_,ho,rfl] #[_,wz,rfl] noFill_list_add seq_list_add PySem.F.slot_list_add PySem.F.entry_list_add (PySem.F.args_list_add_2 _ _) (list_addW l b ba.toArray DL.toArray n n2 dd LJ sl Lr 14e9) #[ho,wz,?_];rw[ea];show#[.ref _,_,I.Vex (t':=s.toks) (r.append r2) (by rw[YT];lia),rfl,q _ I.fresh]
def yq(K:W.Frag):R2:=λx y H Q=>∃a b xs ys,x=.ref a/\y=.ref b/\jr K H a xs/\jr K H b ys/\xs.length+ys.length<=Yp/\
 (xs=[]->Q (.ref b) H)/\(xs≠[]->ys=[]->Q (.ref a) H)/\(xs≠[]->ys≠[]->∀p,H p=af->Q (.ref p) (upd H p (.tup (xs++ys))))
theorem GZ:fV X (Wu .Add) (yq X.K):=by
 sleep 3;let#[a,b,xs,ys,rfl,rfl,ha,hb,hz,q0,q1,q2]:=h;by_cases hx:xs=[]
 .cases rx
  cases ry;let#[ba,r1,p1,_]:=I.tuple ha;let#[DL,r2,p2,_]:=I.tuple hb;obtain⟨⟨cls,dd,data,sl⟩,ho,hc,n,hd⟩:=id p1;obtain⟨⟨VaQ,LJ,data2,Lr⟩,wz,EE,n2,hd2⟩:=id p2;simp only at hc hd EE hd2;subst hc hd EE hd2;show Uq #[_,ho,rfl] #[_,wz,rfl] Ui seq_tuple_add Vk Ve (W6 _ _)
   (tuple_addW0 a b ba.toArray DL.toArray n n2 dd LJ sl Lr (by simp[r1.mx.mpr hx])) #[ho,wz,#[.ref b,H,I,rfl,q0 hx]]
 .show MM pins s σ H _ _ v u Q I rx ry #[a,b,xs,ys,rfl,rfl,ha,hb,hx,hz,q1 hx,q2 hx]
theorem Ds:fV X (Wu .Add) (λx y H Q=>(yp λi j=>.int (i+j)) x y H Q\/(∃i j,x=.str i/\y=.str j/\i.length+j.length<=Yp/\Q (.str (i++j)) H)\/Gn X.K x y H Q\/yq X.K x y H Q):=
 fV.or TZ (fV.or yC (fV.or Au GZ))
theorem uV(i j:Str):(i++j).length=i.length+j.length:=by
 change(i.cps++j.cps).size=_;rw[Array.size_append];rfl
theorem Vbk:iL X.K (λx y H Q=>(yp λi j=>.int (i+j)) x y H Q\/(∃i j,x=.str i/\y=.str j/\i.length+j.length<=Yp/\Q (.str (i++j)) H)\/Gn X.K x y H Q\/yq X.K x y H Q) fm:=by
 sleep 7;ext fm e;split at e
 .cases e;cases lx;cases ly
  show .inl #[_,_,rfl,rfl,15e6]
 .split at e
  .rename_i hl
   cases e;cases lx;cases ly;show .inr (.inl #[_,_,rfl,rfl,iy hl,k _ H .refl cr (ma (by rw[uV];show iy hl))])
  .cases e
 .split at e
  .rename_i hl
   cases e;let#[a,vs,rfl,h1,r1]:=gR lx;let#[b,ws,rfl,h2,r2]:=gR ly;show .inr (.inr (.inl #[a,b,vs,ws,rfl,rfl,h1,h2,by rw[←r1.length,←r2.length];show iy hl,λp hp=>k _ _ (Fr.new hp) (cr.new hp) (Zch cr hp (r1.append r2))]))
  .cases e
 .split at e
  .rename_i hl
   cases e;rename_i xs ys;let#[a,vs,rfl,h1,r1]:=lM lx;let#[b,ws,rfl,h2,r2]:=lM ly;show .inr (.inr (.inr #[a,b,vs,ws,rfl,rfl,h1.sq,h2.sq,by rw[←r1.length,←r2.length];show iy hl,λe=>?_,λ_ e=>?_,λ_ _ p hp=>k _ _ (Fr.new hp) (cr.new hp) (ZcJ hp (r1.append r2))]))
   .subst e
    have:=r1.length;have hx:xs=[]:=YN this;subst hx;show k _ H .refl cr (by ext Rep;show#[b,ws,rfl,h2,r2])
   .subst e
    have:=r2.length;have hy:ys=[]:=YN this;subst hy;rw[Yv]at k;show k _ H .refl cr (by ext Rep;show#[a,vs,rfl,h1,r1])
  .cases e
 .cases e
variable{a b e c:Expr}{es:7e0}{fa fb fc:3e6}{pos p:Pos}{x:Str}
noncomputable def jZ (c:Int->Int->Bool)(f:Int->Int->PV):PV->PV->Option PV
 |.int i,.int j=>if c i j then ae (f i j)else af
 |_,_=>af
theorem tf{C0:Int->Int->Prop}{f:Int->Int->Int}{c:Int->Int->Bool}(h:∀i j,c i j=ag->C0 i j):iL X.K (rI C0 λi j=>.int (f i j)) (jZ c λi j=>.int (f i j)):=by
 sleep 7;ext jZ e;split at e
 .split at e
  .rename_i hc
   cases e;cases lx;cases ly;show#[_,_,rfl,rfl,h _ _ hc,15e6]
  .cases e
 .cases e
theorem Zdx{f:Int->Int->V}{g:Int->Int->PV}(h:∀i j,∀ι H,Rep X.K ι H (g i j) (f i j)):iL X.K (yp f) (jZ (λ_ _=>ag) g):=by
 sleep 7;ext jZ e;split at e
 .erw[if_true]at e
  cases e;cases lx;cases ly;show#[_,_,rfl,rfl,k _ H .refl cr (h _ _ _ _)]
 .cases e
abbrev gD:=jZ (λ_ _=>ag) λi j=>.int (i-j)
abbrev vF:=jZ (λi j=>decide (-(2^64)<i/\i<2^64)||decide (-(2^64)<j/\j<2^64)) λi j=>.int (i*j)
abbrev jV:=jZ (λ_ j=>decide (0<j)) λi j=>.int (i%j)
abbrev mY:=jZ (λi j=>decide (0<=j/\j<=1000/\i.natAbs<2^64)) λi j=>.int (i^j.toNat)
abbrev Ez:=jZ (λ_ _=>ag) λi j=>.bl (decide (i<j))
abbrev Lv:=jZ (λ_ _=>ag) λi j=>.bl (decide (i<=j))
abbrev pL:=jZ (λ_ _=>ag) λi j=>.bl (decide (j<i))
abbrev geP:=jZ (λ_ _=>ag) λi j=>.bl (decide (j<=i))
def yF(C:Cs)(x:SV):Option SV:=match cE C x with
 |some (.int i)=>ae (.v (.int (-i)))
 |_=>af
def jh(f:3e6):aM->M SV:=λρ=>bP (f ρ) λx=>i7 λC=>yF C x
theorem vR:iL X.K (yp λi j=>.bl (decide (i<j))) Ez:=Zdx λ_ _ _ _=>fA
theorem qD:iL X.K (yp λi j=>.bl (decide (i<=j))) Lv:=Zdx λ_ _ _ _=>fA
theorem EJ:iL X.K (yp λi j=>.bl (decide (j<i))) pL:=Zdx λ_ _ _ _=>fA
theorem VcV:iL X.K (yp λi j=>.bl (decide (j<=i))) geP:=Zdx λ_ _ _ _=>fA
noncomputable def gv:PV->PV->Option PV
 |.aS,.aS=>ae 10e8
 |_,.aS=>ae 9e3
 |_,_=>af
noncomputable def kr:PV->PV->Option PV
 |.aS,.aS=>ae 9e3
 |_,.aS=>ae 10e8
 |_,_=>af
theorem Q5:iL X.K (λx y H Q=>y=.aS/\Q (.bl (decide (x=.aS))) H) gv:=by
 sleep 7;ext gv e;split at e
 .cases e;cases lx;cases ly;show#[rfl,k _ H .refl cr fA]
 .rename_i hp
  cases e;cases ly;show#[rfl,?_];have:decide (vx=V.aS)=ah:=by cases lx<;>first|show(hp rfl).elim|simp
  rw[this];show k _ H .refl cr fA
 .cases e
theorem Az:iL X.K (λx y H Q=>y=.aS/\Q (.bl (!decide (x=.aS))) H) kr:=by
 sleep 7;ext kr e;split at e
 .cases e;cases lx;cases ly;show#[rfl,k _ H .refl cr fA]
 .rename_i hp
  cases e;cases ly;show#[rfl,?_];have:(!decide (vx=V.aS))=ag:=by cases lx<;>first|show(hp rfl).elim|simp
  rw[this];show k _ H .refl cr fA
 .cases e
def fW:PV->PV->Option PV
 |.lst xs,.int i=>eo xs i
 |.tup xs,.int i=>eo xs i
 |.str z,.int i=>(eo z.cps.toList i).map λc=>.str ⟨#[c]⟩
 |_,_=>af
theorem BU{i:Int}{z:PV}(r:aG K ι H ps vs)(e:eo ps i=ae z):∃v,eo vs i=ae v/\Rep K ι H z v:=by
 unfold eo at e⊢;rw[←r.length];cases h:dW ps.length i with
 |none=>rw[h]at e;cases e
 |some j=>rw[h]at e;show r.get e
theorem VcB:iL X.K (rIx X.K) fW:=by
 sleep 7;ext fW e;split at e
 .let#[a,vs,rfl,h1,r1]:=gR lx
  cases ly;let#[v,e1,r]:=BU r1 e;show .inl #[a,vs,_,v,rfl,rfl,h1,e1,k v H .refl cr r]
 .let#[a,vs,rfl,h1,r1]:=lM lx
  cases ly;let#[v,e1,r]:=BU r1 e;show .inr (.inl #[a,vs,_,v,rfl,rfl,h1.sq,e1,k v H .refl cr r])
 .let#[rfl,hz]:=gQ lx
  cases ly;rename_i z' i;cases hc:eo z'.cps.toList i with
  |none=>rw[hc]at e;cases e
  |some c=>
   rw[hc]at e;cases e;show .inr (.inr #[_,_,c,rfl,rfl,hz,hc,k _ H .refl cr (ma (by change 1<=Yp;rw[YH];decide))])
 .cases e
noncomputable def tyN:PV->Option String
 |.aS=>ae "NoneType"
 |.bl _=>ae "bool"
 |.int _=>ae "int"
 |.str _=>ae "str"
 |.tup _=>ae "tuple"
 |.lst _=>ae "list"
 |.gH _ _=>ae "dict"
 |.dn _ _=>ae "dict"
 |_=>af
def HF(p:PV)(n:String):Option Bool:=match tyN p with
 |none=>af
 |some t=>if n="int" then ae (t=="int"||t=="bool")else if n="str"\/n="bool"\/n="tuple"\/n="list"\/n="dict" then ae (t==n)else af
theorem ZO{t n:String}{b:Bool}(ht:t="NoneType"\/t="bool"\/t="int"\/t="str"\/t="tuple"\/t="list"\/t="dict")(hn:n="int"\/n="str"\/n="bool"\/n="tuple"\/n="list"\/n="dict")
  (e:(if n="int" then ae (t=="int"||t=="bool")else if n="str"\/n="bool"\/n="tuple"\/n="list"\/n="dict" then ae (t==n)else af)=ae b):W.kitOne K (.type t) (.type n)=ae b:=by
 rcases ht with rfl|rfl|rfl|rfl|rfl|rfl|rfl<;>rcases hn with rfl|rfl|rfl|rfl|rfl|rfl<;>(simp at e;subst e;rfl)
end
inductive jx(K:W.Frag)(ι:List Addr)(H:Hp):List PV->List V->Prop
 |nil:jx K ι H [] []
 |cons {p:PV} {v:V} {ps:List PV} {vs:List V} (h:Lies K ι H p v) (t:jx K ι H ps vs):jx K ι H (p::ps) (v::vs)
def gy(C:Cs):List SV->Option 5e5
 |[]=>ae []
 |x::xs=>match cE C x,gy C xs with
  |some p,ae ps=>ae (p::ps)
  |_,_=>af
theorem Zcj{K:W.Frag}{ι:6e8}{H:Hp}{C:Cs}(cr:13e2):∀{xs:List SV}{ps:List PV}{vs:List V},dc K ι H xs vs->gy C xs=ae ps->jx K ι H ps vs
 |[],ps,vs,r,e=>by cases e;rw[show vs=[]from r];show .nil
 |x::xs,ps,vs,r,e=>by
  let#[v,w,rfl,h1,h2]:=r;ext gy e;split at e
  .rename_i p qs hp hq
   cases e;show .cons (h1.lies cr hp) (Zcj cr h2 hq)
  .cases e
def g1(h:List PV->Option PV):Cs->List SV->Option SV:=λC xs=>match gy C xs with
 |some ps=>(h ps).map .v
 |none=>af
def mh(K:W.Frag)(r:16e4)(h:List PV->Option PV):Prop:=
 ∀(ι:6e8)(H:Hp)(C:Cs)(ps:List PV)(vs:List V)(z:PV)(Q:VK),CR K ι H C->jx K ι H ps vs->h ps=ae z->(∀v H',Fr ι H H'->CR K ι H' C->Rep K ι H' z v->Q v H')->r vs H Q
theorem mh.c{r:16e4}{h:List PV->Option PV}(k:mh K r h):ON K r (g1 h):=by
 intro ι H C xs vs z Q cr rs e q;ext g1 e;cases hd:gy C xs with
 |none=>rw[hd]at e;cases e
 |some ps=>
  rw[hd]at e;cases hz:h ps with
  |none=>simp[hz]at e
  |some z2=>
   simp[hz]at e;subst e;show k ι H C ps vs z2 Q cr (Zcj cr rs hd) hz q
section
variable{X:Cx}{a b e c o:Expr}{es:7e0}{fa fb fc fo:3e6}{fs:2e8}{pos p apos cc:Pos}{x:Str}
def TyV(K:W.Frag)(H:Hp)(x:V)(t:String):Prop:=match x with
 |.aS=>t="NoneType"
 |.bl _=>t="bool"
 |.int _=>t="int"
 |.str _=>t="str"
 |.ref a=>(t="tuple"/\∃vs,jr K H a vs)\/(t="list"/\∃vs,gL K H a vs)\/(t="dict"/\∃bA,H a=ae (.dK bA))\/(t="dict"/\∃qs vs,H a=ae (dvO a qs vs))
 |_=>False
theorem JY:gB X (.builtin "isinstance") (λxs H Q=>∃x n t b,xs=[x,.ty n]/\TyV X.K H x t/\W.kitOne X.K (.type t) (.type n)=ae b/\Q (.bl b) H):=by
 intro pins s σ H xs us Q I r h;let#[x,n,t,b,rfl,ty,e,q]:=h;let#[u,v,rfl,ru,rv]:=Vals.two r;cases(show v=Value.type n from rv);have fin:∀tk,EP X pins σ Q (.bool b) {s with toks:=tk}:=λtk=>#[.bl b,H,I.tok tk,rfl,q]
 cases x with
 |aS=>cases(show t="NoneType" from ty);show ZbV I ru (jo.aS) e fin
 |bl y=>cases(show t="bool" from ty);show ZbV I ru (jo.bl y) e fin
 |int y=>cases(show t="int" from ty);show ZbV I ru (jo.int y) e fin
 |str y=>cases(show t="str" from ty);show ZbV I ru (jo.str y) e fin
 |ref a=>
  cases(show u=YI a from ru);rcases(show _ from ty)with⟨rfl,vs,h⟩|⟨rfl,vs,h⟩|⟨rfl,bA,h⟩|⟨rfl,qs,vs,h⟩
  .obtain⟨ba,_,⟨o,h1,h2,_⟩,_⟩:=I.tuple h
   show Wk W.kitx_tuple I.jY #[o,h1,h2] e (λz=>nomatch z) fin
  .obtain⟨ba,_,⟨o,n,h1,h2,_⟩,_⟩:=I.list h
   show Wk W.kitx_list I.jY #[o,h1,h2] e (λz=>nomatch z) fin
  .show ZbV I ru (jo.dK h) e fin
  .obtain⟨⟨_,_,o,_,_,h1,h2,_⟩,_⟩:=(show cw X.prog X.w H s.heap a (dvO a qs vs)from I.cR a _ h)
   show Wk W.kitx_dict I.jY #[o,h1,h2.1] e (λz=>nomatch z) fin
 |_=>show(show False from ty).elim
def gu:List PV->Option PV
 |[p,.ty n]=>(HF p n).map .bl
 |_=>af
theorem Z0:mh X.K (λxs H Q=>∃x n t b,xs=[x,.ty n]/\TyV X.K H x t/\W.kitOne X.K (.type t) (.type n)=ae b/\Q (.bl b) H) gu:=by
 intro ι H C ps vs z Q cr ls e k;ext gu e;split at e
 .rename_i p n
  cases ls with
  |cons l1 ls=>cases ls with
   |cons l2 ls=>
    cases ls;cases l2;cases hb:HF p n with
    |none=>rw[hb]at e;cases e
    |some b=>
     rw[hb]at e;cases e;ext HF hb;cases ht:tyN p with
     |none=>rw[ht]at hb;cases hb
     |some t=>
      rw[ht]at hb;dsimp only at hb;have hn:n="int"\/n="str"\/n="bool"\/n="tuple"\/n="list"\/n="dict":=by
       by_cases h1:n="int"
       .show .inl h1
       .rw[aI h1]at hb
        by_cases h2:n="str"\/n="bool"\/n="tuple"\/n="list"\/n="dict"
        .show .inr h2
        .rw[aI h2]at hb;cases hb
      show#[_,n,t,b,rfl,?_,ZO ?_ hn hb,k _ H .refl cr fA]
      .cases l1<;>(ext tyN ht;first|(cases ht;rfl)|(cases ht;show .inl #[rfl,_,Rc.sq (by assumption)])|(cases ht;show .inr (.inl #[rfl,_,by assumption]))|(cases ht;show .inr (.inr (.inl #[rfl,_,by assumption])))|(cases ht;show .inr (.inr (.inr #[rfl,_,_,by assumption])))|cases ht)
      .cases p<;>(ext tyN ht;first|(cases ht;simp)|cases ht)
 .cases e
noncomputable def fG:List PV->Option PV
 |[.str z]=>ae (.int z.length)
 |[.lst xs]=>ae (.int xs.length)
 |[.tup xs]=>ae (.int xs.length)
 |_=>af
theorem ZL:mh X.K (λxs H Q=>∃x n,xs=[x]/\Vbr X.K x H n/\Q (.int n) H) fG:=by
 intro ι H C ps vs z Q cr ls e k;ext fG e;split at e
 .cases e;cases ls with
  |cons l t=>cases t;let#[rfl,hz]:=gQ l;show#[_,_,rfl,#[hz,rfl],15e6]
 .cases e;cases ls with
  |cons l t=>cases t;let#[a,ws,rfl,h1,r1]:=gR l;show#[_,_,rfl,.inl #[ws,h1,r1.length],15e6]
 .cases e;cases ls with
  |cons l t=>cases t;let#[a,ws,rfl,h1,r1]:=lM l;show#[_,_,rfl,.inr #[ws,h1.sq,r1.length],15e6]
 .cases e
noncomputable def Dz:List PV->Option PV
 |[.int i,.int j]=>ae (.int (if j>i then j else i))
 |_=>af
noncomputable def Dy:List PV->Option PV
 |[.int i,.int j]=>ae (.int (if j<i then j else i))
 |_=>af
theorem ZD:mh X.K (λxs H Q=>∃i j,xs=[.int i,.int j]/\Q (.int (if j>i then j else i)) H) Dz:=by
 intro ι H C ps vs z Q cr ls e k;ext Dz e;split at e
 .cases e;cases ls with
  |cons l t=>cases t with
   |cons l2 t=>cases t;cases l;cases l2;show#[_,_,rfl,15e6]
 .cases e
theorem ZA:mh X.K (λxs H Q=>∃i j,xs=[.int i,.int j]/\Q (.int (if j<i then j else i)) H) Dy:=by
 intro ι H C ps vs z Q cr ls e k;ext Dy e;split at e
 .cases e;cases ls with
  |cons l t=>cases t with
   |cons l2 t=>cases t;cases l;cases l2;show#[_,_,rfl,15e6]
 .cases e
noncomputable def iA:List PV->Option PV
 |[.int i]=>ae (.int i)
 |[.bl k]=>ae (.int (if k then 1 else 0))
 |_=>af
theorem Nl:mh X.K (λxs H Q=>(∃i,xs=[.int i]/\Q (.int i) H)\/∃k,xs=[.bl k]/\Q (.int (if k then 1 else 0)) H) iA:=by
 intro ι H C ps vs z Q cr ls e k;ext iA e;split at e
 .cases e;cases ls with
  |cons l t=>cases t;cases l;show .inl #[_,rfl,15e6]
 .cases e;cases ls with
  |cons l t=>cases t;cases l;show .inr #[_,rfl,15e6]
 .cases e
noncomputable def g9:List PV->Option PV
 |[.lst xs]=>ae (.tup xs)
 |[.tup xs]=>ae (.tup xs)
 |_=>af
theorem Sm:mh X.K (λxs H Q=>∃p ys,xs=[.ref p]/\((gL X.K H p ys/\∀l,H l=af->Q (.ref l) (upd H l (.tup ys)))\/(jr X.K H p ys/\Q (.ref p) H))) g9:=by
 intro ι H C ps vs z Q cr ls e k;ext g9 e;split at e
 .cases e;cases ls with
  |cons l t=>cases t;let#[a,ws,rfl,h1,r1]:=gR l;show#[a,ws,rfl,.inl #[h1,λq hq=>k _ _ (Fr.new hq) (cr.new hq) (ZcJ hq r1)]]
 .cases e;cases ls with
  |cons l t=>cases t;let#[a,ws,rfl,h1,r1]:=lM l;show#[a,ws,rfl,.inr #[h1.sq,k _ H .refl cr (by ext Rep;show#[a,ws,rfl,h1,r1])]]
 .cases e
def P6(C:Cs):List SV->Option 5e5
 |[x]=>match cE C x with
  |some (.lst xs)=>ae xs
  |some (.tup xs)=>ae xs
  |_=>af
 |_=>af
def Vcv(fs:2e8):aM->M 5e5:=λρ=>bP (fs ρ) λxs=>i7 λC=>P6 C xs
noncomputable def iH:List PV->Option (List Bool)
 |[]=>ae []
 |.bl b::r=>(iH r).map (b::·)
 |_::_=>af
theorem qV{K:W.Frag}{ι:6e8}{H:Hp}:∀{ps:List PV}{vs:List V}{bs:List Bool},aG K ι H ps vs->iH ps=ae bs->vs=bs.map V.bl
 |[],vs,bs,r,e=>by cases e;rw[r.kC];rfl
 |p::ps,vs,bs,r,e=>by
  let#[v,w,rfl,h1,h2]:=r.inv;cases p with
  |bl b=>
   ext iH e;cases hb:iH ps with
   |none=>rw[hb]at e;cases e
   |some cs=>
    rw[hb]at e;cases e;have h1:v=.bl b:=by ext Rep h1;show h1
    rw[h1,qV h2 hb];rfl
  |_=>cases e
def iC:List PV->Option PV
 |[.lst xs]=>(iH xs).map λbs=>.bl (bs.all id)
 |_=>af
theorem Vbj:mh X.K (λxs H Q=>∃(a:Addr)(bs:List Bool),xs=[.ref a]/\gL X.K H a (bs.map V.bl)/\Q (.bl (bs.all id)) H) iC:=by
 intro ι H C ps vs z Q cr ls e k;ext iC e;split at e
 .rename_i xs
  cases ls with
  |cons l t=>
   cases t;let#[a,ws,rfl,h1,r1]:=gR l;cases hb:iH xs with
   |none=>rw[hb]at e;cases e
   |some bs=>
    rw[hb]at e;cases e;show#[a,bs,rfl,by rw[←qV r1 hb];show h1,k _ H .refl cr fA]
 .cases e
end
section
variable{X:Cx}{a b e c o i:Expr}{es:7e0}{fa fb fc fo fi fv:3e6}{fs:2e8}{pos p apos cc:Pos}{x:Str}
noncomputable def gT (x:SV):M Unit:=λC=>match x with
 |.c k=>match C[k]? with
  |some (.lst _)=>ae ((),C)
  |_=>af
 |_=>af
theorem Zb7{x:SV}(h:gT x C=ae ((),C2)):C2=C/\∃k ps,x=.c k/\C[k]? = ae 17e3:=by
 ext gT h;split at h
 .split at h
  .rename_i k _ ps e;cases h;show#[rfl,k,ps,rfl,e]
  .cases h
 .cases h
noncomputable def KD (x:SV)(ys:List SV):M SV:=λC=>match x,ys with
 |.c k,[.v p]=>match C[k]? with
  |some (.lst ps)=>if ps.length<100000 then ae (.v .aS,C.set k (.lst (ps++[p])))else af
  |_=>af
 |_,_=>af
theorem El{x:SV}{ys:List SV}{r:SV}(h:KD x ys C=ae (r,C2)):∃k p ps,x=.c k/\ys=[.v p]/\C[k]? = ae 17e3/\ps.length<100000/\r=.v .aS/\C2=C.set k (.lst (ps++[p])):=by
 ext KD h;split at h
 .split at h
  .split at h
   .cases h;show#[_,_,_,rfl,rfl,by assumption,by assumption,rfl,rfl]
   .cases h
  .cases h
 .cases h
def yK(fo:3e6)(fs:2e8):aM->M SV:=λρ=>bP (fo ρ) λx=>bP (gT x) λ_=>bP (fs ρ) λys=>KD x ys
theorem Ox{k:Nat}{a:Addr}(cr:13e2)(hk:ι[k]? = ae a)(hc:C[k]? = ae 17e3):∃vs,H a=ae (.lst vs)/\aG K ι H ps vs:=cr.ok k a _ hk hc
theorem oi{k:Nat}{a:Addr}(cr:13e2)(hk:ι[k]? = ae a)(r:aG K ι H ps vs):CR K ι (upd H a (.lst vs)) (C.set k 17e3)/\Fr ι H (upd H a (.lst vs)):=by
 have fr:Fr ι H (upd H a (.lst vs)):=λb u n e=>by
  rw[fS (λz=>n (by rw[z];show YY hk))];show e
 show#[cr.put hk #[vs,oz,aG.mono cr fr _ _ r],fr]
def setC(v o i:SV)(ρ:aM):M PF:=λC=>match o,i,v with
 |.c k,.v (.int n),.v p=>match C[k]? with
  |some (.lst ps)=>match dW ps.length n with
   |some j=>ae (.nx ρ,C.set k (.lst (ps.set j p)))
   |none=>af
  |_=>af
 |_,_,_=>af
theorem qa{v o i:SV}{fl:PF}(h:setC v o i ρ C=ae (fl,C2)):∃k n p ps j,o=.c k/\i=.v (.int n)/\v=.v p/\C[k]? = ae 17e3/\dW ps.length n=ae j/\fl=.nx ρ/\C2=C.set k (.lst (ps.set j p)):=by
 ext setC h;split at h
 .split at h
  .split at h
   .cases h;show#[_,_,_,_,_,rfl,rfl,rfl,by assumption,by assumption,rfl,rfl]
   .cases h
  .cases h
 .cases h
def fe(fv fo fi:3e6):aM->M PF:=λρ=>bP (fv ρ) λv=>bP (fo ρ) λo=>bP (fi ρ) λi=>setC v o i ρ
noncomputable def bY:SV->Option 5e5
 |.v (.lst xs)=>ae xs
 |.v (.tup xs)=>ae xs
 |.v (.str z)=>ae (z.cps.toList.map λc=>.str ⟨#[c]⟩)
 |_=>af
def bu(f:3e6):aM->M 5e5:=λρ=>bP (f ρ) λx=>i7 λ_=>bY x
theorem DM{a:Addr}(cr:13e2)(h:Rx K ι H a vs)(r:aG K ι H xs vs):Iter K ι H xs (Itl K a):=by
 have keep:∀ι2 H2,Ex ι ι2 H H2->gL K H2 a vs:=λι2 H2 x=>by
  rcases h with⟨n,q|⟨o,q⟩⟩|q
  .show .inl (.inl (x.out _ _ n q).2)
  .show .inl (.inr #[o,(x.out _ _ n q).2])
  .show .inr q
 show#[λι2 H2 C2 x c i hi=>?_,λι2 H2 C2 x c i v H3 hi y=>?_,λι2 H2 C2 x c=>#[vs,keep ι2 H2 x,by rw[r.length];show Yo _]]
 .let#[v,e,_]:=r.get (Yd hi)
  show#[vs,v,keep ι2 H2 x,e]
 .let#[rfl,y]:=y
  let#[p,hp,rp]:=r.get' (y vs (keep ι2 _ x));show#[λb o e=>e,p,hp,Rep.tr cr x.out p v rp]
theorem HE{a:Addr}(cr:13e2)(h:jr K H a vs)(r:aG K ι H xs vs):Iter K ι H xs (Itt K a):=by
 have keep:∀ι2 H2,Ex ι ι2 H H2->jr K H2 a vs:=λι2 H2 x=>by
  rcases h with(q|⟨o,q⟩)|q
  .show .inl (.inl (x.out _ _ (cr.qp q (λ_ e=>nomatch e) λ_ e=>nomatch e) q).2)
  .show .inl (.inr #[o,(x.out _ _ (cr.qp q (λ_ e=>nomatch e) λ_ e=>nomatch e) q).2])
  .show .inr q
 show#[λι2 H2 C2 x c i hi=>?_,λι2 H2 C2 x c i v H3 hi y=>?_,λι2 H2 C2 x c=>#[vs,keep ι2 H2 x,by rw[r.length];show Yo _]]
 .let#[v,e,_]:=r.get (Yd hi)
  show#[vs,v,keep ι2 H2 x,e]
 .let#[rfl,y]:=y
  let#[p,hp,rp]:=r.get' (y vs (keep ι2 _ x));show#[λb o e=>e,p,hp,Rep.tr cr x.out p v rp]
theorem wu:Iter K ι H (z.cps.toList.map λc=>.str ⟨#[c]⟩) (Its z):=by
 show#[λι2 H2 C2 x c i hi=>by change i<z.cps.size;simpa using hi,λι2 H2 C2 x c i v H3 hi y=>?_,λι2 H2 C2 x c=>by change _=_;simp];let#[rfl,d,hd,rfl]:=y;show#[λb o e=>e,.str ⟨#[d]⟩,by simp[hd],?_];show ma (by change 1<=Yp;rw[YH];decide)
theorem ZdZ{lo:Int}:Iter K ι H ((YL n).map λ(k:Nat)=>.int (lo+k)) (Itr lo n):=by
 show#[λι2 H2 C2 x c i hi=>by change i<n;simpa using hi,λι2 H2 C2 x c i v H3 hi y=>?_,λι2 H2 C2 x c=>by change n<=_;simp];let#[rfl,rfl]:=y;have hi':i<n:=by simpa using hi
 show#[λb o e=>e,.int (lo+i),by simp[hi'],C9]
variable{tg l:Expr}
noncomputable def jd:List SV->Option 5e5
 |[.v (.int j)]=>if -1000000<=j/\j<=1000000 then ae ((YL j.toNat).map λ(k:Nat)=>.int (0+k))else af
 |_=>af
noncomputable def u9:List SV->Option 5e5
 |[.v (.int i),.v (.int j)]=>if(-1000000<=i/\i<=1000000)/\(-1000000<=j/\j<=1000000)then ae ((YL (j-i).toNat).map λ(k:Nat)=>.int (i+k))else af
 |_=>af
def cN(fs:2e8):aM->M 5e5:=λρ=>bP (fs ρ) λxs=>i7 λ_=>jd xs
def kz(fs:2e8):aM->M 5e5:=λρ=>bP (fs ρ) λxs=>i7 λ_=>u9 xs
theorem C8{xs:List SV}{ys:List PV}(h:jd xs=ae ys):∃j,xs=[.v (.int j)]/\(-1000000<=j/\j<=1000000)/\ys=(YL j.toNat).map λ(k:Nat)=>.int (0+k):=by
 ext jd h;split at h
 .split at h
  .cases h;show#[_,rfl,by assumption,rfl]
  .cases h
 .cases h
theorem CZ{xs:List SV}{ys:List PV}(h:u9 xs=ae ys):∃i j,xs=[.v (.int i),.v (.int j)]/\((-1000000<=i/\i<=1000000)/\(-1000000<=j/\j<=1000000))/\ys=(YL (j-i).toNat).map λ(k:Nat)=>.int (i+k):=by
 ext u9 h;split at h
 .split at h
  .cases h;show#[_,_,rfl,by assumption,rfl]
  .cases h
 .cases h
end
section
variable{prog:Yy}{w:World}{A:Around}{E:2e9}{s:Shared}
theorem Zci{t sl:Addr}{vl vu:Value}(ht:IsTup s.heap t items)(hs:s.heap.IsSliceOf sl vl vu .none)(pl:IsPart vl lo)(pu:IsPart vu hi)
  (hw:HT.dA items.size 0 lo=0/\HT.dA items.size items.size hi=items.size) (h:Q (.ref t) s):wpAny 5e0 A (Ur (.ref t) (.ref sl)) Q E s:=by
 let#[os,uw,hcs,EC]:=id hs;have hTs:s.TypeIs (.ref sl) "slice":=#[os,uw,hcs]
 ext Ur;try with_reducible show Xc ?_
 first|show Yb (Yh ?_)|skip
 show Yb (wpAny_sequenceKey ht.typeIs 2e7 ?_);show Yb (Xl (name:=Ws "__getitem__") ht.typeIs Xa
  (XB Xa ht.typeIs entry_tuple_getitem ?_ (args_tuple_getitem _ _)))
 change wpAny _ _ (VV (.ref t)>>=_) _ _ s;show Yb (tupleItemsOf_ ht ?_);show Yb (Us hTs ?_);rw[aE 2e7];show Yb (HT.ir hs pl pu ?_);have VeB:(((HT.dA items.size 0 lo:Nat):Int)==0&&(1:Int)==1&&(HT.dA items.size items.size hi-HT.dA items.size 0 lo)==items.size)=ag:=by
  rw[hw.1,hw.2];simp
 change wpAny _ _ (if(((HT.dA items.size 0 lo:Nat):Int)==0&&(1:Int)==1&&(HT.dA items.size items.size hi-HT.dA items.size 0 lo)==items.size)=ag then _ else _) _ _ s;rw[aE VeB];ext Builtin.Tuple.tupleIsExact;show Yb (Yb (Us ht.typeIs (Yh ?_)));rw[aE 2e7];show Yb (wpAny_rule ?_);show Yb (Yh (Yh #[_,rfl,Yh h]))
end
def Vb7(K:W.Frag):V->Option Int->Option Int->Hp->VK->Prop:=λx lo hi H Q=>∃a xs,x=.ref a/\jr K H a xs/\(HT.dA xs.length 0 lo=0/\HT.dA xs.length xs.length hi=xs.length)/\Q (.ref a) H
noncomputable def tMO (K:W.Frag)(f:18e5):TO:=λσ H Q=>∃ι ρ C r C',SR K ι H ρ σ C/\f ρ C=ae (r,C')/\∀H',Fr ι H H'->CR K ι H' C'->Q r H'
def OM(X:Cx)(e:Option Expr)(f:18e5):Prop:=PO X e (tMO X.K f)
def eB:aM->M (Option Int):=λ_=>ret af
def intD(C:Cs)(x:SV):Option (Option Int):=match cE C x with
 |some (.int i)=>ae (ae i)
 |_=>af
def bz(f:3e6):aM->M (Option Int):=λρ=>bP (f ρ) λx=>i7 λC=>intD C x
def cG(xs:List PV)(lo hi:Option Int):List PV:=(xs.drop (HT.dA xs.length 0 lo)).take (HT.dA xs.length xs.length hi-HT.dA xs.length 0 lo)
def yh(lo hi:Option Int):PV->Option PV
 |.lst xs=>ae (.lst (cG xs lo hi))
 |.tup xs=>ae (.tup (cG xs lo hi))
 |_=>af
def kY(C:Cs)(x:SV)(lo hi:Option Int):Option SV:=match cE C x with
 |some p=>(yh lo hi p).map .v
 |none=>af
def bU(f:3e6)(l h:18e5):aM->M SV:=λρ=>bP (f ρ) λx=>bP (l ρ) λlo=>bP (h ρ) λhi=>i7 λC=>kY C x lo hi
theorem ZcY(r:aG K ι H ps vs)(lo hi:Option Int):aG K ι H (cG ps lo hi) (wQ vs lo hi):=by
 unfold cG wQ;rw[r.length];show(r.drop _).take _
theorem Zdd{x z:SV}(h:kY C x lo hi=ae z):(∃xs,cE C x=ae (.lst xs)/\z=.v (.lst (cG xs lo hi)))\/∃xs,cE C x=ae (.tup xs)/\z=.v (.tup (cG xs lo hi)):=by
 ext kY h;split at h
 .rename_i p hd
  cases p with
  |lst xs=>cases h;show .inl #[xs,hd,rfl]
  |tup xs=>cases h;show .inr #[xs,hd,rfl]
  |_=>cases h
 .cases h
section
variable{X:Cx}{a b e c o i:Expr}{es:7e0}{fa fb fc fo fi fv:3e6}{fs:2e8}{pos p apos cc p2:Pos}{x:Str}{lo hi:Option Expr}{l h:18e5}
theorem PO.imp{e:Option Expr}{t t':TO}(h:PO X e t)(k:18e7):PO X e t':=λpins s σ H Q I q=>h pins s σ H Q I (k σ H Q q)
theorem Ae:B2 X (Vb7 X.K):=by
 intro pins s σ H x v vl vu lo hi sl Q I rx hs pl pu h;let#[a,xs,rfl,hx,hw,q]:=h;cases rx;let#[ba,r,ht,hz]:=I.tuple hx;have hlen:ba.toArray.size=xs.length:=by rw[Yj];show r.length.symm
 show#["tuple",_,Xa.lookup,ht.typeIs,Zci ht hs pl pu (by rw[hlen];show hw) #[.ref a,H,I,rfl,q]]
theorem qO{lo hi:Option Int}(h:HT.dA xs.length 0 lo=0/\HT.dA xs.length xs.length hi=xs.length):cG xs lo hi=xs:=by
 ext cG;rw[h.1,h.2];simp
noncomputable def eU:PV->Bool
 |.aS=>ag
 |.bl _=>ag
 |.int _=>ag
 |.str _=>ag
 |_=>ah
noncomputable def tI:PV->PV->Bool
 |.aS,.aS=>ag
 |.bl a,.bl b=>a==b
 |.bl a,.int b=>(if a then 1 else 0)==b
 |.int a,.bl b=>a==(if b then 1 else 0)
 |.int a,.int b=>a==b
 |.str a,.str b=>a==b
 |_,_=>ah
noncomputable def pV (i j:Str):Bool:=!(Wv j i 0 j.length 1).isEmpty
def Qp(x:PV):PV->Option Bool
 |.str j=>match x with
  |.str i=>ae (pV i j)
  |_=>af
 |.lst xs=>if eU x&&xs.all eU then ae (xs.any λy=>tI y x)else af
 |.tup xs=>if eU x&&xs.all eU then ae (xs.any λy=>tI y x)else af
 |_=>af
def j6(x y:PV):Option PV:=(Qp x y).map .bl
theorem Zc6{v:V}(r:Lies K ι H q v)(h:eU q=ag):iV v=ag:=by cases r<;>first|rfl|cases h
theorem By{r:PV}{v w:V}(h1:Lies K ι H q v)(h2:Lies K ι H r w)(f1:eU q=ag)(f2:eU r=ag):EF v w=tI q r:=by
 cases h1<;>first|(cases f1;done)|(cases h2<;>first|rfl|cases f2)
theorem Zcu{K:W.Frag}{ι:6e8}{H:Hp}{x:PV}{vx:V}(lx:Lies K ι H x vx)(fx:eU x=ag):∀{ps:List PV}{vs:List V},aG K ι H ps vs->ps.all eU=ag->vs.all iV=ag/\inV vx vs=ps.any λy=>tI y x
 |[],vs,r,h=>by rw[r.kC];show#[rfl,rfl]
 |q::ps,vs,r,h=>by
  let#[v,w,rfl,h1,h2]:=r.inv;rw[Xm,Yl]at h;let#[k1,k2]:=Zcu lx fx h2 h.2;show#[by rw[Xm,Zc6 (Rep.lies h1) h.1,k1];rfl,?_];unfold inV at k2⊢;rw[Xz,Xz,k2,By (Rep.lies h1) lx h.1 fx]
theorem nO:iL X.K (λx y H Q=>(∃i j,x=.str i/\y=.str j/\Q (.bl (!(Wv j i 0 j.length 1).isEmpty)) H)\/rIn X.K ah x y H Q) j6:=by
 sleep 7;ext j6 e;cases hb:Qp p q with
 |none=>rw[hb]at e;cases e
 |some b=>
  rw[hb]at e;cases e;ext Qp hb;split at hb
  .split at hb
   .cases hb;cases lx;cases ly;show .inl #[_,_,rfl,rfl,k _ H .refl cr fA]
   .cases hb
  .split at hb
   .rename_i xs hf
    cases hb;rw[Yl]at hf;let#[a,vs,rfl,h1,rv]:=gR ly;let#[k1,k2]:=Zcu lx hf.1 rv hf.2;show .inr #[a,vs,rfl,.inl h1,Zc6 lx hf.1,k1,by rw[aI Yt,k2];show k _ H .refl cr fA]
   .cases hb
  .split at hb
   .rename_i xs hf
    cases hb;rw[Yl]at hf;let#[a,vs,rfl,h1,rv]:=lM ly;let#[k1,k2]:=Zcu lx hf.1 rv hf.2;show .inr #[a,vs,rfl,.inr h1.sq,Zc6 lx hf.1,k1,by rw[aI Yt,k2];show k _ H .refl cr fA]
   .cases hb
  .cases hb
theorem ZbI:fV X (Y6 .In) (λx y H Q=>(∃i j,x=.str i/\y=.str j/\Q (.bl (!(Wv j i 0 j.length 1).isEmpty)) H)\/rIn X.K ah x y H Q):=fV.or Dq Dr
def K8(K:W.Frag)(r:15e5)(h:PV->List PV->Option PV):Prop:=
 ∀(ι:6e8)(H:Hp)(C:Cs)(q:PV)(v:V)(ps:List PV)(vs:List V)(z:PV)(Q:VK),CR K ι H C->Lies K ι H q v->jx K ι H ps vs->h q ps=ae z->(∀v H',Fr ι H H'->CR K ι H' C->Rep K ι H' z v->Q v H')->r v vs H Q
noncomputable def tyP (T:String):PV->Bool
 |.str _=>T=="str"
 |.int _=>T=="int"
 |.lst _=>T=="list"
 |.gH _ _=>T=="dict"
 |.fz _ _=>T=="dict"
 |_=>ah
def Nk(T:String)(x:SV):M Unit:=λC=>match cE C x with
 |some q=>if tyP T q then ae ((),C)else af
 |none=>af
def mtD(h:PV->List PV->Option PV)(C:Cs)(x:SV)(xs:List SV):Option SV:=match cE C x,gy C xs with
 |some q,ae ps=>(h q ps).map .v
 |_,_=>af
def pE(T:String)(h:PV->List PV->Option PV)(fo:3e6)(fs:2e8):aM->M SV:=λρ=>bP (fo ρ) λx=>bP (Nk T x) λ_=>bP (fs ρ) λxs=>i7 λC=>mtD h C x xs
def tyW(K:W.Frag)(T:String)(x:V)(H:Hp):Prop:=tyV K T x H\/(T="dict"/\∃a,x=.ref a/\∃bA,Rd H a (.dT bA))
noncomputable def tBW (K:W.Frag)(T:String)(r:15e5)(to:TE)(t:TA):TE:=λσ H Q=>to σ H λx H1=>tyW K T x H1/\t σ H1 λxs H2=>r x xs H2 Q
theorem Vck{to:TE}{t:TA}{T id:String}{r:15e5}(pa:PlainAttrs T)(slot:Slot T name id)(Lz:typeOf (.builtin id)=pure (.type "method_descriptor"))(hm:MtR X id r)(ho:PE X o to)(ha:PA X 4e8 t)
  (eO:XM o name X.env (eval o X.env)=eval o X.env:=by rfl)
  (hX:((backTo cc (Yg 4e8 X.env)).all (λx=>!x.1)&&(Vv cc (Wb [] X.env)).all 15e2
   &&decide ((e::es).length+([]:List Wc).length+(if([]:List Wc).isEmpty then 0 else 1)<30))=ag:=by rfl)
  (eN:9e8:=by rfl) (hs:1e3:=by rfl) (dg:7e5:=by rfl):
  PE X (.Call (.Attribute o name apos) 4e8 [] cc) (tBW X.K T r to t):=by
 sleep 8;show wpAny_Call_method_late eO hX eN rfl (dz (ho pins s σ H _ I h) λv s1 h_=>?_);let#[x,H1,I1,r1,ty,q1]:=h_;obtain⟨h1,h2⟩:s1.TypeIs v T/\∀a,v=.ref a->∃ob,s1.heap.get? a=ae ob/\ob.dict=af:=by
  rcases ty with ty|⟨rfl,a,rfl,bA,hd⟩
  .show EZ I1 r1 ty
  .cases r1
   let#[z1,z2,_]:=Z3 I1 (.inr #[bA,hd]);show#[z1,z2]
 show#[T,id,pa,slot,Lz,h1,h2,?_];have hA:=ha cc pins s1 σ H1 _ I1 q1;rw[hs]at hA⊢;show Calls.callWith_builtin (by change(ah||(backTo cc (Yg es X.env)).any (·.1))=ah;rw[dg]<;>rfl) (Calls.evalArgs_plain ?_);show dz hA λus s2 #[vs,H2,I2,r2,q2]=>hm pins s2 σ H2 x vs v us Q I2 r1 r2 q2
theorem M7{T:String}{v:V}(l:Lies K ι H q v)(h:tyP T q=ag):tyW K T v H:=by
 cases l with
 |str y hy=>show .inl (eq_of_beq (by simpa[tyP]using h))
 |int y=>show .inl (eq_of_beq (by simpa[tyP]using h))
 |lst h1 r=>show .inl (.inl #[eq_of_beq (by simpa[tyP]using h),_,h1])
 |gH h1 hl r=>show .inl (.inr (.inr (.inl #[eq_of_beq (by simpa[tyP]using h),.inl #[_,h1]])))
 |fz h1 hl r=>show .inr #[eq_of_beq (by simpa[tyP]using h),_,rfl,_,h1]
 |_=>cases h
theorem BB{T id:String}{r:15e5}{h:PV->List PV->Option PV}(pa:PlainAttrs T)(slot:Slot T name id)(Lz:typeOf (.builtin id)=pure (.type "method_descriptor"))(hm:MtR X id r)(hk:K8 X.K r h)
  (ho:EM X o fo) (ha:AM X 4e8 fs) (eO:XM o name X.env (eval o X.env)=eval o X.env:=by rfl)
  (hX:((backTo cc (Yg 4e8 X.env)).all (λx=>!x.1)&&(Vv cc (Wb [] X.env)).all 15e2
   &&decide ((e::es).length+([]:List Wc).length+(if([]:List Wc).isEmpty then 0 else 1)<30))=ag:=by rfl)
  (eN:9e8:=by rfl) (hs:1e3:=by rfl) (dg:7e5:=by rfl):
  EM X (.Call (.Attribute o name apos) 4e8 [] cc) (pE T h fo fs):=
 PE.imp (Vck pa slot Lz hm ho ha eO hX eN hs dg) λσ H Q h_=>by
  sleep 4;let#[x,C1,e1,g1]:=dI e;let#[u,C2,e2,g2]:=dI g1;let#[xs,C3,e3,g3]:=dI g2;let#[e4,hC]:=oW g3;subst hC;clear e g1 g2 g3;show#[ι,ρ,C,x,C1,sr,e1,λv H1 f1 c1 r1=>?_];ext Nk e2;split at e2
  .rename_i q0 hd0
   split at e2
   .rename_i ht
    cases e2;show#[M7 (r1.lies c1 hd0) ht,ι,ρ,_,xs,_,9e5,e3,λvs H2 f2 c2 r2=>?_];ext mtD e4;split at e4
    .rename_i q1 ps hd1 EC
     cases hz:h q1 ps with
     |none=>rw[hz]at e4;cases e4
     |some z1=>
      rw[hz]at e4;cases e4;show hk ι H2 _ q1 v ps vs z1 Q c2 ((r1.mono c1 f2).lies c2 hd1) (Zcj c2 r2 EC) hz λv' H3 f3 c3 r3=>q v' H3 (f1.trans (f2.trans f3)) c3 r3
    .cases e4
   .cases e2
  .cases e2
end
section
variable{X:Cx}{a b e c o i:Expr}{es:7e0}{fa fb fc fo fi fv:3e6}{fs:2e8}{pos p apos cc p2:Pos}{x:Str}
noncomputable def mP:List PV->Option (List Str)
 |[]=>ae []
 |.str b::r=>(mP r).map (b::·)
 |_::_=>af
theorem uT{K:W.Frag}{ι:6e8}{H:Hp}:∀{ps:List PV}{vs:List V}{bs:2e2},aG K ι H ps vs->mP ps=ae bs->vs=bs.map V.str
 |[],vs,bs,r,e=>by cases e;rw[r.kC];rfl
 |p::ps,vs,bs,r,e=>by
  let#[v,w,rfl,h1,h2]:=r.inv;cases p with
  |str b=>
   ext mP e;cases hb:mP ps with
   |none=>rw[hb]at e;cases e
   |some cs=>
    rw[hb]at e;cases e;have h1:v=.str b:=by ext Rep h1;show h1.1
    rw[h1,uT h2 hb];rfl
  |_=>cases e
def iz:PV->List PV->Option PV
 |.str z,[.lst xs]=>match mP xs with
  |some ys=>if(ys.map (·.length)).sum+ys.length*z.length<=1000000 then ae (.str (Txt.join z ys))else af
  |none=>af
 |_,_=>af
theorem HB(z:Str)(ys:2e2):(Txt.join z ys).length<=(ys.map (·.length)).sum+ys.length*z.length:=by
 have e:(Txt.join z ys).length=(ys.map (·.length)).sum+(ys.length-1)*z.length:=size_glued z ys;rw[e];show Nat.add_le_add_left (Nat.mul_le_mul_right _ (Nat.sub_le _ _)) _
theorem Nf:K8 X.K (λx xs H Q=>∃(z:Str)(p:Addr)(ys:2e2),x=.str z/\xs=[.ref p]/\gL X.K H p (ys.map V.str)/\(ys.map (·.length)).sum+ys.length*z.length<=16777216/\Q (.str (Txt.join z ys)) H) iz:=by
 intro ι H C q v ps vs z Q cr lq ls e k;ext iz e;split at e
 .rename_i z0 xs
  split at e
  .rename_i ys hy
   split at e
   .rename_i hl
    cases e;cases ls with
    |cons l t=>
     cases t;let#[rfl,hz]:=gQ lq;let#[a,ws,rfl,h1,r1]:=gR l;show#[_,a,ys,rfl,rfl,by rw[←uT r1 hy];show h1,YC hl 2e7,k _ H .refl cr (ma (YC (HB _ _) (iy hl)))]
   .cases e
  .cases e
 .cases e
def jj:PV->List PV->Option PV
 |.lst xs,[x]=>if eU x&&xs.all eU then(xs.findIdx? λy=>tI y x).map λ(j:Nat)=>.int j else af
 |_,_=>af
def Gk(K:W.Frag):V->List V->Hp->VK->Prop:=λx vs H Q=>∃p xs y j,x=.ref p/\vs=[y]/\gL K H p xs/\iV y=ag/\xs.all iV=ag/\(xs.findIdx? λz=>EF z y)=ae j/\Q (.int j) H
theorem Hk:MtR X "list.index" (Gk X.K):=by
 intro pins s σ H x vs v us Q I rx rv h;let#[p,xs,y,j,rfl,rfl,hq,fy,fs,hj,q]:=h;cases rx;let#[u,rfl,ru]:=rv.one;let#[ba,r,pl,hz]:=I.list hq;obtain⟨⟨cls,dd,data,sl⟩,ho,hc,n,hd⟩:=id pl.isList;simp only at hc hd;subst hc hd;have hl:=r.length;let#[hjl,hit,hno]:=List.findIdx?_eq_some_iff_getElem.mp hj;have get:∀(m:Nat)(hm:m<ba.toArray.size),Jx y ba.toArray[m]=EF (xs[m]'(by simpa[hl]using hm)) y:=λm hm=>by
  have hm2:m<xs.length:=by simpa[hl]using hm
  let#[w,ew,FQ]:=r.get (i:=m) (x:=xs[m]) (Yd hm2);have e1:ba.toArray[m]=w:=by
   have:ba[m]? = ae w:=ew;have hm3:m<ba.length:=by simpa using hm
   rw[Yd hm3]at this;simpa using Yz this
  rw[e1];show zg FQ (YE.mp fs _ (XU hm2))
 have hn:=jW;have hsl:Yp=16777216:=YH;show UC PySem.F.slot_list_index #[_,ho,rfl] PySem.F.entry_list_index (PySem.F.args_list_index_2 _ _) (SeqAt.list_indexAt p ba.toArray n dd sl u (Jx y) j (by simpa[←hl]using hjl) 3e5 ?_ ?_) #[ho,?_,?_]
 .rw[get];show hit
 .intro m hm hmj
  rw[get];simpa using hno m hmj
 .intro w hw
  show Zc5 ru fy r fs w (by simpa using hw)
 .show#[.int j,H,I.tok _,7e2,q]
theorem wF{K:W.Frag}{ι:6e8}{H:Hp}{x:PV}{vx:V}(lx:Lies K ι H x vx)(fx:eU x=ag):∀{ps:List PV}{vs:List V},aG K ι H ps vs->ps.all eU=ag->(vs.findIdx? λz=>EF z vx)=ps.findIdx? λy=>tI y x
 |[],vs,r,h=>by rw[r.kC];rfl
 |q::ps,vs,r,h=>by
  let#[v,w,rfl,h1,h2]:=r.inv;rw[Xm,Yl]at h;rw[WG,WG,By (Rep.lies h1) lx h.1 fx,wF lx fx h2 h.2]
theorem HG:K8 X.K (Gk X.K) jj:=by
 intro ι H C q v ps vs z Q cr lq ls e k;ext jj e;split at e
 .rename_i xs y
  split at e
  .rename_i hf
   rw[Yl]at hf;cases hj:xs.findIdx? (λz=>tI z y)with
   |none=>rw[hj]at e;cases e
   |some j=>
    rw[hj]at e;cases e;cases ls with
    |cons l t=>
     cases t;let#[a,ws,rfl,h1,r1]:=gR lq;show#[a,ws,_,j,rfl,rfl,h1,Zc6 l hf.1,(Zcu l hf.1 r1 hf.2).1,by rw[wF l hf.1 r1 hf.2];show hj,15e6]
  .cases e
 .cases e
noncomputable def DH:PV->Option Key
 |.int i=>ae (.inl i)
 |.str z=>ae (.inr z)
 |_=>af
theorem Nd(k:Key):DH (kP k)=ae k:=by cases k<;>rfl
def vU:List PV->List PV->Key->Option PV
 |k::ks,v::vs,q=>if DH k=ae q then ae v else vU ks vs q
 |_,_,_=>af
theorem vT{K:W.Frag}{ι:6e8}{H:Hp}{q:Key}:∀{qs:List Key}{ps:List PV}{vs:List V},qs.length=vs.length->aG K ι H ps vs->
  (∀z,vU (qs.map kP) ps q=ae z->∃v,kW (qs.zip vs) q=ae v/\Rep K ι H z v)/\(vU (qs.map kP) ps q=af->kW (qs.zip vs) q=af)
 |[],ps,vs,hl,r=>by
  show#[λz h=>?_,λ_=>rfl];cases ps<;>cases h
 |k::qs,[],vs,hl,r=>by rw[r.kC]at hl;cases hl
 |k::qs,p::ps,vs,hl,r=>by
  let#[v,w,rfl,h1,h2]:=r.inv;have ih:=vT (q:=q) (qs:=qs) (ps:=ps) (vs:=w) (by simpa using hl) h2;rw[Yi,Xo];ext vU;rw[Nd];by_cases h:k=q
  .subst h
   rw[aE rfl,ZcU (p:=(k,v)) rfl];show#[λz e=>by cases e;show#[v,rfl,h1],λe=>nomatch e]
  .rw[aI (λe=>h (Yz e)),ZcV (p:=(k,v)) h]
   show ih
theorem vW{x:PV}{v:V}{q:Key}(l:Lies K ι H x v)(h:DH x=ae q):v=kV q:=by
 cases l<;>first|(cases h;rfl)|cases h
theorem Vcy{ks:List PV}{v:V}(l:Lies K ι H (.gH ks ps) v):∃(a:Addr)(qs:List Key)(vs:List V),v=.ref a/\ks=qs.map kP/\H a=ae (.dK (qs.zip vs))/\qs.length=vs.length/\aG K ι H ps vs:=by
 cases l;show#[_,_,_,rfl,rfl,by assumption,by assumption,by assumption]
noncomputable def PN:R2:=λx y H Q=>∃a v,x=.ref a/\Eu H a y (ae v)/\Q v H
theorem Nh(hu:X.A.units+1<cLine):Et X PN:=by
 intro value slice pins s σ H x y v u Q I rx ry h hs;let#[a,w,rfl,g,q]:=h;cases rx;show tail_any (wK I g) PySem.F.slot_dict_getitem.lookup (Ec hu I g ry λw' s' I' r'=>#[w,H,I',r',q]) hs
def dN(x y:PV):Option PV:=match x with
 |.gH ks vs=>match DH y with
  |some q=>vU ks vs q
  |none=>af
 |x=>fW x y
theorem ZZ:iL X.K (λx y H Q=>rIx X.K x y H Q\/PN x y H Q) dN:=by
 sleep 7;ext dN e;split at e
 .rename_i ks vs
  split at e
  .rename_i key hk
   let#[a,qs,ws,rfl,rfl,hd,hl,r]:=Vcy lx;let#[v,hv,rv]:=(vT hl r).1 z e;rw[vW ly hk];show .inr #[a,v,rfl,by rw[←hv];show Eu.k hd,k v H .refl cr rv]
  .cases e
 .show .inl (VcB ι H C p q vx vy z Q cr lx ly e k)
theorem OR{s:Shared}{d:Addr}{ob:HO}(I:2e3)(hn:H d=af)(hd:X.s₀.heap.objs.size<=d)(hL:d≠X.env.locals)(hc:∀x c,X.env.cells.lookup x=ae c->c≠d)
  (hp:∀p∈X.pn++pins,p.1≠d) (new:cw X.prog X.w (upd H d ob) s.heap d ob):Inv X pins σ (upd H d ob) s:=by
 have u:=I.base;show#[I.ok,I.os,I.bare,#[u.keep,u.slot,λb o e q hx=>?_,u.there,λb xs e=>?_,λb o xs e=>?_,λb ps e=>?_],I.loc,I.cell,?_,λx c e=>?_,λp hp'=>?_,λb o e=>?_,I.len]
 .rw[fS (YK (Yr (Ys e) hd))];show u.free b o e q hx
 .rw[fS (kI (u.gp b xs e) hn)];show u.gp b xs e
 .rw[fS (kI (u.gi b o xs e) hn)];show u.gi b o xs e
 .let#[more,q]:=u.hJ b ps e
  show#[more,by rw[fS (kI q hn)];show q]
 .rw[fS (XD hL)];show I.free
 .rw[fS (hc x c e)];show I.iB x c e
 .let#[h1,h2,h3]:=I.pin p hp'
  show#[h1,by rw[fS (hp p hp')];show h2,h3]
 .by_cases hb:b=d
  .subst hb
   rw[oz]at e;cases e;show new
  .rw[fS hb]at e
   show(I.cR b o e).fE (λ_ _ _ q=>q) (λc q=>by rw[fS (kI q hn)];show q) λc xs q=>by rw[fS (kI q hn)];show q
def Vcw(keys:2e2)(fs:2e8):aM->M SV:=λρ=>bP (fs ρ) λxs=>i7 λ_=>(plain xs).map λps=>.v (.gH (keys.map PV.str) ps)
end
structure TopD(K:W.Frag)(w:World)(d:Addr)(tab:List (Str×Addr)):Prop where
 ex:∃(es:Array WI)(n:Nat),K.lookup d=ae #[.type "dict",af,.dict es n,#[]]/\W.KeysLit w.params es.toList/\Paired (λ(p:Str×Addr) (e:WI)=>XV p.1 e.key=ag/\e.val=.ref p.2) tab es.toList
 lo:(d==XG)=ah
theorem wy{y:Str}(h:XV y v=ag):XV x v=decide (x=y):=by
 let#[t,rfl]:=Value.isStrOf_shape h;by_cases e:x=y
 .subst e;simp[XV]
 .have:¬(y=x):=λz=>e z.symm
  simp[XV,e,this]
theorem uR{x:Str}:∀{tab:10e5}{es:List WI},Paired (λ(p:Str×Addr) (e:WI)=>XV p.1 e.key=ag/\e.val=.ref p.2) tab es->
    (es.find? λd=>XV x d.key).map (·.val)=(tab.lookup x).map YI
  |_,_,.nil=>rfl
  | (k,f)::tab,e::es,.cons h t=>by
    have ih:=uR (x:=x) t;rw[Wn,Ym,wy h.1];by_cases hx:x=k
    . subst hx
      rw[eF rfl,beq_self_eq_true];simp[h.2]
    . rw[dm hx,beq_eq_false_iff_ne.mpr hx]
      show ih
theorem TopD.map{K:W.Frag}{w:World}{d:Addr}{tab:10e5}(T:TopD K w d tab)(prog:Yy){h:Heap}(X:K.In h):h.MapOf (strKind prog w) d (λk=>(tab.lookup k).map YI):=by
 let#[es,n,hl,hk,hp]:=T.ex;have m:=W.mapOf_K (prog:=prog) X hl hk;have e:(λk=>findBy XV es k)=λk=>(tab.lookup k).map Value.ref:=by
  funext k
  rw[←uR hp];obtain⟨l⟩:=es;ext findBy;rw[List.find?_toArray]
 rw[←e];show m
section
variable{X:Cx}{a b e c o i:Expr}{es:7e0}{fa fb fc fo fi fv:3e6}{fs:2e8}{pos p apos cc p2:Pos}{x:Str}{d:Addr}{tab:10e5}
def rZ(d:Addr)(tab:10e5)(C:Cs)(x y:SV):Option SV:=match x,cE C y with
 |.v (.fn d'),ae (.str k)=>if d'=d then(tab.lookup k).map λf=>.v (.fn f)else af
 |_,_=>af
def mL(d:Addr)(tab:10e5)(neg:Bool)(C:Cs)(x y:SV):Option SV:=match y,cE C x with
 |.v (.fn d'),ae (.str k)=>if d'=d then ae (.v (.bl (if neg then !(tab.lookup k).isSome else(tab.lookup k).isSome)))else af
 |_,_=>af
theorem ZW(T:TopD X.K X.w d tab):Et X (λx y H Q=>∃k f,x=.ref d/\y=.str k/\tab.lookup k=ae f/\Q (.ref f) H):=by
 intro value slice pins s σ H x y v u Q I rx ry h hs;let#[k,f,rfl,rfl,hk,q]:=h;cases rx;let#[t,rfl]:=ry;have m:=T.map X.prog I.jY;show tail_any m.typeIs slot_dict_getitem.lookup (wpAny_getItem_of (strKind_is X.prog X.w k t) m (by rw[hk];rfl) #[.ref f,H,I.tok _,rfl,q]) hs
theorem L5:j' K (λx y H Q=>∃k f,x=.ref d/\y=.str k/\tab.lookup k=ae f/\Q (.ref f) H) (rZ d tab):=by
 intro ι H C x y vx vy z Q cr rx ry e k;ext rZ e;split at e
 .rename_i d' key hy
  split at e
  .rename_i hd
   subst hd;cases hf:tab.lookup key with
   |none=>rw[hf]at e;cases e
   |some f=>
    rw[hf]at e;cases e;have rx:vx=.ref d':=by unfold cH Rep at rx;show rx
    let#[rfl,_]:=gQ (ry.lies cr hy);show#[key,f,rx,rfl,hf,k _ H .refl cr (by unfold cH Rep;rfl)]
  .cases e
 .cases e
theorem nj(T:TopD X.K X.w d tab):fV X (Y6 .In) (λx y H Q=>∃k,y=.ref d/\x=.str k/\Q (.bl (tab.lookup k).isSome) H):=by
 sleep 3;let#[k,rfl,rfl,q]:=h;cases ry;sleep 9;show wpAny_in_of (strKind_is X.prog X.w k t) T.lo (T.map X.prog I.jY) ?_;rw[V7];show#[.bl _,H,I.tok _,rfl,q]
theorem vq(T:TopD X.K X.w d tab):fV X (Y6 .NotIn) (λx y H Q=>∃k,y=.ref d/\x=.str k/\Q (.bl (!(tab.lookup k).isSome)) H):=by
 sleep 3;let#[k,rfl,rfl,q]:=h;cases ry;sleep 9;show wpAny_notIn_of (strKind_is X.prog X.w k t) T.lo (T.map X.prog I.jY) ?_;rw[V7];show#[.bl _,H,I.tok _,rfl,q]
theorem rY:j' K (λx y H Q=>∃k,y=.ref d/\x=.str k/\Q (.bl (tab.lookup k).isSome) H) (mL d tab ah):=by
 intro ι H C x y vx vy z Q cr rx ry e k;ext mL e;split at e
 .rename_i d' key hy
  split at e
  .rename_i hd
   subst hd;cases e;have ry:vy=.ref d':=by unfold cH Rep at ry;show ry
   let#[rfl,_]:=gQ (rx.lies cr hy);show#[key,ry,rfl,k _ H .refl cr qh]
  .cases e
 .cases e
theorem E3:j' K (λx y H Q=>∃k,y=.ref d/\x=.str k/\Q (.bl (!(tab.lookup k).isSome)) H) (mL d tab ag):=by
 intro ι H C x y vx vy z Q cr rx ry e k;ext mL e;split at e
 .rename_i d' key hy
  split at e
  .rename_i hd
   subst hd;cases e;have ry:vy=.ref d':=by unfold cH Rep at ry;show ry
   let#[rfl,_]:=gQ (rx.lies cr hy);show#[key,ry,rfl,k _ H .refl cr qh]
  .cases e
 .cases e
noncomputable def qU (T:List (Addr×(List SV->M SV)))(f:SV)(xs:List SV):M SV:=λC=>match f with
 |.v (.fn a)=>match T.lookup a with
  |some F=>F xs C
  |none=>af
 |_=>af
def k6(i:Nat)(T:List (Addr×(List SV->M SV)))(fs:2e8):aM->M SV:=λρ=>bP (aV i ρ) λf=>bP (fs ρ) λxs=>qU T f xs
theorem zr{T:List (Addr×(List SV->M SV))}{f:SV}{xs:List SV}{r:SV}(h:qU T f xs C=ae (r,C2)):∃a F,f=.v (.fn a)/\T.lookup a=ae F/\F xs C=ae (r,C2):=by
 ext qU h;split at h
 .split at h
  .show#[_,_,rfl,by assumption,h]
  .cases h
 .cases h
theorem Qr{T:List (Addr×(List SV->M SV))}{Pd:Addr->(List SV->M SV)->Prop}(h:∀q∈T,Pd q.1 q.2):∀a F,T.lookup a=ae F->Pd a F:=λa F e=>h (a,F) (lookup_mem e)
def nD:aM->M SV:=λ_=>ret (.v (.gH [] []))
theorem LK{x1 x2 q1 q2:Str}{s1 s2:Stmt}{f1 f2:Addr}{d1 d2:WR}(F1:eD K x1 q1 s1 f1 d1)(F2:eD K x2 q2 s2 f2 d2)(h:x1≠x2):f1≠f2:=by
 let#[oc,od,kV,doc,pm,an,cdv,ct,osl,e1,l1,_]:=F1.ex;let#[Zr,od2,kV2,Vfq,pm2,an2,Vfr,ct2,Vfl,e2,l2,_]:=F2.ex;intro e;subst e;rw[l1]at l2;injection l2 with l2;injection l2 with _ _ l3 _;injection l3 with l4;rw[e1,e2]at l4;show h (congrArg FuncData.name l4)
end
structure kc(P:Yy)(w:World)(it:Addr)(us:List Addr)(R:Value->Prop)(st pX:Heap->Prop):Prop where
 item:∀(A:Around)(E:2e9)(s:Shared)(Q:2e9),st s.heap->(∀u h' tk,R u->pX h'->X5 it s.heap h'->Q u {s with heap:=h',toks:=tk})->wpAny (model P w) A (YR (.ref it)) Q E s
 keep:∀h h':Heap,st h->(∀b∈us,∀o,h.get? b=ae o->h'.get? b=ae o)->st h'
 Bc:∀h h':Heap,pX h->(∀b∈us,∀o,h.get? b=ae o->h'.get? b=ae o)->pX h'
structure xG(P:Yy)(w:World)(it:Addr)(us:List Addr)(st:Heap->Prop):Prop where
 done:∀(A:Around)(E:2e9)(s:Shared)(Q:2e9),A.handled=af->st s.heap->(∀h' e,Vs it s.heap h'->(∃o,h'.get? e=ae o/\o.cls=.type "StopIteration")->E (.ref e) {s with heap:=h'})->wpAny (model P w) A (YR (.ref it)) Q E s
 keep:∀h h':Heap,st h->(∀b∈us,∀o,h.get? b=ae o->h'.get? b=ae o)->st h'
structure lz(z TI TO i1 i2:Addr)(xM xR:List Addr):Prop where
 a1:TI≠z
 a2:TO≠z
 a3:i1≠z
 a4:i2≠z
 a5:TI≠TO
 a6:TI≠i1
 a7:TI≠i2
 a8:TO≠i1
 a9:TO≠i2
 b1:z∉xM
 b2:TO∉xM
 b3:i2∉xM
 c1:z∉xR
 c2:TO∉xR
 c3:i1∉xR
section
variable{P:Yy}{w:World}{A:Around}{E:2e9}{s:Shared}{z TI TO i1 i2:Addr}{xM xR:6e8}{R1 R2:Value->Prop}{CN o9 st2 Fg:Heap->Prop}
theorem EU{a b:Value}(D:lz z TI TO i1 i2 xM xR)(N1:kc P w i1 xM R1 CN o9)(N2:kc P w i2 xR R2 st2 Fg)
  (hz:IsZip s.heap z TI TO .none) (uz:IsPair s.heap TI (.ref i1) (.ref i2)) (wB:IsPair s.heap TO a b) (h1:CN s.heap) (h2:st2 s.heap)
  (hQ:∀x y h' tk,R1 x->R2 y->IsZip h' z TI TO (rawInt s.heap.objs.size)->IsPair h' TO x y->o9 h'->Fg h'->IsPair h' s.heap.objs.size x y->h'.objs.size=s.heap.objs.size+1->
   (∀c o,c≠z->c≠TO->c≠i1->c≠i2->s.heap.get? c=ae o->h'.get? c=ae o)->Q (.ref s.heap.objs.size) {s with heap:=h',toks:=tk}):
  wpAny (model P w) A (W3.«zip.__next__» #[[.ref z],[]]) (λfin s'=>∃v,fin=.done (.ret v)/\Q v s') E s:=by
 change wpAny _ _ (field (.ref z) 2>>=_) _ _ _;show Yb (Xd hz rfl (x:=.bool ah) rfl ?_)
 change wpAny _ _ (field (.ref z) 3>>=_) _ _ _;show Yb (Xd hz rfl (x:=.ref TI) rfl ?_)
 show Yb (We uz rfl ?_);change wpAny _ _ (Xr (.ref z)>>=_) _ _ _;show Yb ?_;ext Xr;show Yb (Xd hz rfl (x:=.none) rfl (Yh ?_));erw[if_true];show Yb (wpAny_rule ?_);show Yb (Xd hz rfl (x:=.ref TO) rfl ?_)
 show Yb (X7 hz 3e7 λg1 Bk Qu=>?_);replace Bk:IsZip g1 z TI TO .ellipsis:=Bk;show Yb ?_;erw[List.zipIdx_cons,List.zipIdx_nil,Ut,List.forIn_nil];show Yb (Yb (Ue ?_));change wpAny _ _ (YR (.ref i1)>>=_) _ _ _;have k1:∀c o,c≠z->s.heap.get? c=ae o->g1.get? c=ae o:=λc o n e=>Qu.extBut _ _ n e;show Yb (N1.item _ _ _ _ (N1.keep _ _ h1 λb hb o e=>k1 b o (λq=>D.b1 (q▸hb)) e) λx g2 tk2 rx h1' pJ=>Yh ?_);have k2:∀c o,c≠z->c≠i1->s.heap.get? c=ae o->g2.get? c=ae o:=λc o n1 n2 e=>pJ.extBut _ _ n2 (k1 c o n1 e);have HN:IsPair g2 TO a b:=k2 _ _ D.a2 D.a8 wB;show Yb (We HN rfl ?_);show Yb (VD HN λg3 DZ LC=>?_);replace DZ:IsPair g3 TO x b:=DZ
 have k3:∀c o,c≠z->c≠i1->c≠TO->s.heap.get? c=ae o->g3.get? c=ae o:=λc o n1 n2 n3 e=>LC.extBut _ _ n3 (k2 c o n1 n2 e);show Yb (wpAny_letGo (Yh ?_));show Yb (Yb (Ue ?_));change wpAny _ _ (YR (.ref i2)>>=_) _ _ _
 show Yb (N2.item _ _ _ _ (N2.keep _ _ h2 λb hb o e=>k3 b o (λq=>D.c1 (q▸hb)) (λq=>D.c3 (q▸hb)) (λq=>D.c2 (q▸hb)) e) λy g4 tk4 ry h2' Qt=>Yh ?_);have VcR:IsPair g4 TO x b:=Qt.extBut _ _ D.a9 DZ;show Yb (We VcR rfl ?_);show Yb (VD VcR λg5 Ny Qs=>?_);replace Ny:IsPair g5 TO x y:=Ny
 show Yb (wpAny_letGo (Yh (Yh ?_)));show Yb (We Ny rfl ?_);show Yb (wpAny_newTuple ?_)
 have e1:=Qu.1;have e2:=pJ.1;have e3:=LC.1;have e4:=Qt.1;have e5:=Qs.1
 have hsz:g5.objs.size=s.heap.objs.size:=by simp only at e2 e4;rw[e5,e4,e3,e2,e1]
 have k5:∀c o,c≠z->c≠TO->c≠i1->c≠i2->s.heap.get? c=ae o->g5.get? c=ae o:=λc o n1 n2 n3 n4 e=>Qs.extBut _ _ n2 (Qt.extBut _ _ n4 (k3 c o n1 n3 n2 e));have hz5:IsZip g5 z TI TO .ellipsis:=Qs.extBut _ _ D.a2.symm (Qt.extBut _ _ D.a4.symm (LC.extBut _ _ D.a2.symm (pJ.extBut _ _ D.a3.symm Bk)));have q1:o9 g5:=N1.Bc _ _ h1' λb hb o e=>Qs.extBut _ _ (λq=>D.b2 (q▸hb)) (Qt.extBut _ _ (λq=>D.b3 (q▸hb)) (LC.extBut _ _ (λq=>D.b2 (q▸hb)) e));have q2:Fg g5:=N2.Bc _ _ h2' λb hb o e=>Qs.extBut _ _ (λq=>D.c2 (q▸hb)) e;have ltz:z<g5.objs.size:=Ys hz5;change wpAny _ _ (WY (.ref z) (.ref g5.objs.size)>>=_) _ _ _;show Yb ?_;ext WY;have hz6:IsZip (g5.push {cls:=.type "tuple",data:=.seq [x,y].toArray}) z TI TO .ellipsis:=Yc _ hz5;show Yb (X7 hz6 3e7 λg7 hz7 hs7=>?_);replace hz7:IsZip g7 z TI TO (rawInt g5.objs.size):=hz7;show X7 hz7 3e7 λg8 hz8 hs8=>?_;replace hz8:IsZip g8 z TI TO (rawInt g5.objs.size):=hz8;have up:∀c o,c≠z->g5.get? c=ae o->g8.get? c=ae o:=λc o n e=>hs8.extBut _ _ n (hs7.extBut _ _ n (Yc _ e));have hT8:IsPair g8 g5.objs.size x y:=hs8.extBut _ _ (Wr ltz) (hs7.extBut _ _ (Wr ltz) (Yn _ rfl));have sz8:g8.objs.size=g5.objs.size+1:=by rw[hs8.1,hs7.1,WD]
 rw[hsz]at hz8 hT8 sz8;show Yh #[_,rfl,?_];change Q (.ref g5.objs.size) _;rw[hsz]
 show hQ x y g8 _ rx ry hz8 (up _ _ D.a2 Ny) (N1.Bc _ _ q1 λb hb o e=>up b o (λq=>D.b1 (q▸hb)) e) (N2.Bc _ _ q2 λb hb o e=>up b o (λq=>D.c1 (q▸hb)) e) hT8 sz8 λc o n1 n2 n3 n4 e=>up c o n1 (k5 c o n1 n2 n3 n4 e)
theorem LW{a b:Value}{Q:Fin->Shared->Prop}(hh:A.handled=af)(D:lz z TI TO i1 i2 xM xR)
  (N:xG P w i1 xM CN\/∃R1 o9,kc P w i1 xM R1 CN o9/\xG P w i2 xR st2)
  (hz:IsZip s.heap z TI TO .none) (uz:IsPair s.heap TI (.ref i1) (.ref i2)) (wB:IsPair s.heap TO a b) (h1:CN s.heap) (h2:st2 s.heap)
  (hE:∀h' e tk,(∀c o,c≠z->c≠TO->c≠i1->c≠i2->s.heap.get? c=ae o->h'.get? c=ae o)->(∃o,h'.get? e=ae o/\o.cls=.type "StopIteration")->E (.ref e) {s with heap:=h',toks:=tk}):
  wpAny (model P w) A (W3.«zip.__next__» #[[.ref z],[]]) Q E s:=by
 change wpAny _ _ (field (.ref z) 2>>=_) _ _ _;show Yb (Xd hz rfl (x:=.bool ah) rfl ?_)
 change wpAny _ _ (field (.ref z) 3>>=_) _ _ _;show Yb (Xd hz rfl (x:=.ref TI) rfl ?_)
 show Yb (We uz rfl ?_);change wpAny _ _ (Xr (.ref z)>>=_) _ _ _;show Yb ?_;ext Xr;show Yb (Xd hz rfl (x:=.none) rfl (Yh ?_));erw[if_true];show Yb (wpAny_rule ?_);show Yb (Xd hz rfl (x:=.ref TO) rfl ?_)
 show Yb (X7 hz 3e7 λg1 Bk Qu=>?_);replace Bk:IsZip g1 z TI TO .ellipsis:=Bk;show Yb ?_;erw[List.zipIdx_cons,List.zipIdx_nil,Ut,List.forIn_nil];show Yb (Yb (Ue ?_));change wpAny _ _ (YR (.ref i1)>>=_) _ _ _;have k1:∀c o,c≠z->s.heap.get? c=ae o->g1.get? c=ae o:=λc o n e=>Qu.extBut _ _ n e;rcases N with N1|⟨R1,o9,N1,N2⟩
 .show Yb (N1.done _ _ _ _ hh (N1.keep _ _ h1 λb hb o e=>k1 b o (λq=>D.b1 (q▸hb)) e) λg2 e pJ he=>?_)
  let#[oe,hoe,hce]:=he;have hz2:IsZip g2 z TI TO .ellipsis:=pJ _ _ D.a3.symm Bk;have hez:e≠z:=λx=>by subst x;rw[hz2]at hoe;cases hoe;simp at hce
  show X7 hz2 3e7 λg3 _ LC=>hE g3 e s.toks (λc o n1 _ n3 _ x=>LC.extBut _ _ n1 (pJ _ _ n3 (k1 c o n1 x))) #[oe,LC.extBut _ _ hez hoe,hce]
 .show Yb (N1.item _ _ _ _ (N1.keep _ _ h1 λb hb o e=>k1 b o (λq=>D.b1 (q▸hb)) e) λx g2 tk2 rx h1' pJ=>Yh ?_)
  have k2:∀c o,c≠z->c≠i1->s.heap.get? c=ae o->g2.get? c=ae o:=λc o n1 n2 e=>pJ.extBut _ _ n2 (k1 c o n1 e);have HN:IsPair g2 TO a b:=k2 _ _ D.a2 D.a8 wB;show Yb (We HN rfl ?_);show Yb (VD HN λg3 DZ LC=>?_);replace DZ:IsPair g3 TO x b:=DZ
  have k3:∀c o,c≠z->c≠i1->c≠TO->s.heap.get? c=ae o->g3.get? c=ae o:=λc o n1 n2 n3 e=>LC.extBut _ _ n3 (k2 c o n1 n2 e);show Yb (wpAny_letGo (Yh ?_));show Yb (Yb (Ue ?_));change wpAny _ _ (YR (.ref i2)>>=_) _ _ _
  show Yb (N2.done _ _ _ _ hh (N2.keep _ _ h2 λb hb o e=>k3 b o (λq=>D.c1 (q▸hb)) (λq=>D.c3 (q▸hb)) (λq=>D.c2 (q▸hb)) e) λg4 e Qt he=>?_);let#[oe,hoe,hce]:=he;have hz4:IsZip g4 z TI TO .ellipsis:=Qt _ _ D.a4.symm (LC.extBut _ _ D.a2.symm (pJ.extBut _ _ D.a3.symm Bk));have hez:e≠z:=λx=>by subst x;rw[hz4]at hoe;cases hoe;simp at hce
  show X7 hz4 3e7 λg5 _ Qs=>hE g5 e tk2 (λc o n1 n2 n3 n4 x=>Qs.extBut _ _ n1 (Qt _ _ n4 (k3 c o n1 n3 n2 x))) #[oe,Qs.extBut _ _ hez hoe,hce]
theorem ET{a b:Value}{Q:13e0}(D:lz z TI TO i1 i2 xM xR)(N1:kc P w i1 xM R1 CN o9)(N2:kc P w i2 xR R2 st2 Fg)
  (hz:IsZip s.heap z TI TO .none) (uz:IsPair s.heap TI (.ref i1) (.ref i2)) (wB:IsPair s.heap TO a b) (h1:CN s.heap) (h2:st2 s.heap)
  (hQ:∀x y h' tk,R1 x->R2 y->IsZip h' z TI TO (rawInt s.heap.objs.size)->IsPair h' TO x y->o9 h'->Fg h'->IsPair h' s.heap.objs.size x y->h'.objs.size=s.heap.objs.size+1->
   (∀c o,c≠z->c≠TO->c≠i1->c≠i2->s.heap.get? c=ae o->h'.get? c=ae o)->Q (ae (.ref s.heap.objs.size)) {s with heap:=h',toks:=tk}):
  wpAny (model P w) A (pyNext (.ref z)) Q E s:=by
 have hT:s.TypeIs (.ref z) "zip":=#[_,hz,rfl]
 ext pyNext;show Yb (wpAny_attempt (Xl (name:=Ws "__next__") hT WO (XB WO hT PySem.F.entry_zip_next
   (EU D N1 N2 hz uz wB h1 h2 λx y h' tk a1 a2 a3 a4 a5 a6 a7 a8 a9=>Yh (hQ x y h' tk a1 a2 a3 a4 a5 a6 a7 a8 a9)) (PySem.F.args_zip_next_1 _))))
theorem uD{a b:Value}{Q:13e0}(hh:A.handled=af)(D:lz z TI TO i1 i2 xM xR)
  (N:xG P w i1 xM CN\/∃R1 o9,kc P w i1 xM R1 CN o9/\xG P w i2 xR st2)
  (hz:IsZip s.heap z TI TO .none) (uz:IsPair s.heap TI (.ref i1) (.ref i2)) (wB:IsPair s.heap TO a b) (h1:CN s.heap) (h2:st2 s.heap)
  (hQ:∀h' tk,(∀c o,c≠z->c≠TO->c≠i1->c≠i2->s.heap.get? c=ae o->h'.get? c=ae o)->Q af {s with heap:=h',toks:=tk}):wpAny (model P w) A (pyNext (.ref z)) Q E s:=by
 have hT:s.TypeIs (.ref z) "zip":=#[_,hz,rfl]
 ext pyNext;show Yb (wpAny_attempt (Xl (name:=Ws "__next__") hT WO (XB WO hT PySem.F.entry_zip_next (LW hh D N hz uz wB h1 h2 λh' e tk hk he=>?_) (PySem.F.args_zip_next_1 _))));let#[o,ho,hc]:=he;show Yb (wpAny_isInstance (T:="StopIteration") (b:=true) #[o,ho,hc] isSubtype_stop (Yh (hQ _ _ hk)))
theorem xU{t:Addr}{x:Value}(hit:s.heap.IsTupleIter it t i)(ht:s.heap.IsTuple t items)(hx:items[i]? = ae x)
  (hQ:∀h',h'.IsTupleIter it t (i+1)->X5 it s.heap h'->Q x {s with heap:=h'}):wpAny (model P w) A (YR (.ref it)) Q E s:=by
 let#[o,ho,hc,hd]:=id hit;let#[ol,hol,_,nl,hdl]:=ht;ext YR;show Yb (Xl (name:=Ws "__next__") hit.typeIs XE (XB XE hit.typeIs Vf ?_ (W9 _)));change wpAny _ _ (field (.ref it) 0>>=_) _ _ s;show Yb (Xd ho hd (x:=.ref t) rfl ?_)
 change wpAny _ _ (if(YI t==Y9)=ag then _ else _) _ _ s;rw[aI (show¬((YI t==Y9)=ag)from Yt)];change wpAny _ _ (field (.ref it) 1>>=_) _ _ s;show Yb (Xd ho hd (x:=.int i 0) rfl ?_)
 change wpAny _ _ (seqItems? (.ref t)>>=_) _ _ s;show Yb (We hol hdl ?_);erw[WT,hx]
 show Yb (WZ ho hd 3e7 (Yh #[x,rfl,Yh (hQ _ ?_ (W4 ..))]));show#[_,X6 _ ho (Vw (X8 hd _)),(Obj.cls_mapFields ..).trans hc,by rw[X8 hd];simp[rawInt]]
theorem uO{t:Addr}(hh:A.handled=af)(hit:s.heap.IsTupleIter it t i)(ht:s.heap.IsTuple t items)(hx:items[i]? = af)
  (hE:∀h' e,Vs it s.heap h'->(∃o,h'.get? e=ae o/\o.cls=.type "StopIteration")->E (.ref e) {s with heap:=h'}):wpAny (model P w) A (YR (.ref it)) Q E s:=by
 let#[o,ho,hc,hd]:=id hit;let#[ol,hol,_,nl,hdl]:=ht;ext YR;show Yb (Xl (name:=Ws "__next__") hit.typeIs XE (XB XE hit.typeIs Vf ?_ (W9 _)));change wpAny _ _ (field (.ref it) 0>>=_) _ _ s;show Yb (Xd ho hd (x:=.ref t) rfl ?_)
 change wpAny _ _ (if(YI t==Y9)=ag then _ else _) _ _ s;rw[aI (show¬((YI t==Y9)=ag)from Yt)];change wpAny _ _ (field (.ref it) 1>>=_) _ _ s;show Yb (Xd ho hd (x:=.int i 0) rfl ?_)
 change wpAny _ _ (seqItems? (.ref t)>>=_) _ _ s;show Yb (We hol hdl ?_);erw[WT,hx]
 show Yb (wpAny_rule (Yb (WZ ho hd 3e7 ?_)));change wpAny _ _ (newExc (.type "StopIteration") []>>=_) _ _ _;show Yb ?_;erw[newExc,newTuple];show Yb (XI ?_ (by size_fits))
 show Yb (m:=firstArgMember _ _) (wpAny_of_eq (a:=Y9) (by first|rfl|(erw[firstArgMember];rfl)) ?_);show XI ?_ (by size_fits)
 erw[raiseNew];show Yb (wpAny_handled ?_);first|rw[show A.in1.handled=af from hh]|rw[hh]
 show Yb (Yh (wpAny_throw ?_));show hE _ _ (((W4 ..).extBut.push _).push _) #[_,Yn _ rfl,rfl]
end
inductive ZS where
 |l (a:Addr)|t (a:Addr)|s (z:Str) (tk:Tok) (wd:Bool)
def ZS.at'(S:ZS)(it:Addr)(i:Nat)(h:Heap):Prop:=match S with
 |.l a=>h.IsListIter it a i
 |.t a=>h.IsTupleIter it a i
 |.s z tk wd=>h.IsStrIter it (if wd then "str_iterator" else "str_ascii_iterator") z tk i
def ZS.has(K:W.Frag)(H:Hp)(S:ZS)(i:Nat)(v:V):Prop:=match S with
 |.l a=>∃xs,gL K H a xs/\xs[i]? = ae v
 |.t a=>∃xs,jr K H a xs/\xs[i]? = ae v
 |.s z _ _=>∃c,z.cps[i]? = ae c/\v=.str ⟨#[c]⟩
def ZS.ends(K:W.Frag)(H:Hp)(S:ZS)(i:Nat):Prop:=match S with
 |.l a=>∃xs,gL K H a xs/\xs.length<=i
 |.t a=>∃xs,jr K H a xs/\xs.length<=i
 |.s z _ _=>z.cps.size<=i
noncomputable def ZS.us (S:ZS)(it:Addr):List Addr:=match S with
 |.l a=>[it,a]
 |.t a=>[it,a]
 |.s _ _ _=>[it]
theorem ZS.jX{S:ZS}(x:S.at' it i h)(k:∀o,h.get? it=ae o->h'.get? it=ae o):S.at' it i h':=by
 cases S with
 |l a=>show Heap.IsListIter.at x k
 |t a=>show Heap.IsTupleIter.at x k
 |s z tk wd=>let#[o,e,r]:=x;show#[o,k o e,r]
section
variable{X:Cx}{pins:3e2}{σ:St}{H:Hp}{s:Shared}
theorem sS{S:ZS}{v:V}(I:2e3)(hs:S.has X.K H i v)(ne:∀b∈S.us it,b=it\/b≠it)(HI:∀a,(S=.l a\/S=.t a)->a≠it):
  ∃st:Heap->Prop,(S.at' it i s.heap->st s.heap)/\kc X.prog X.w it (S.us it) (λu=>RelV v u) st (λh=>S.at' it (i+1) h):=by
 cases S with
 |l a=>
  let#[xs,hq,hx]:=hs;let#[ba,rv,p,hz]:=I.list hq;let#[u,hu,ru]:=rv.get hx;show#[λh=>h.IsListIter it a i/\h.IsList a ba.toArray,λx=>#[x,p.isList],#[λA E s Q st hQ=>?_,λh h' st k=>#[st.1.at λo e=>k it 16e7 o e,st.2.at λo e=>k a 16e7 o e],λh h' st k=>Heap.IsListIter.at st λo e=>k it 16e7 o e]];show wpAny_nextOf_list_item st.1 st.2 (x:=u) (by simpa using hu) λh' a1 a2=>hQ u h' s.toks ru a1 a2
 |t a=>
  let#[xs,hq,hx]:=hs;let#[ba,rv,p,hz]:=I.tuple hq;let#[u,hu,ru]:=rv.get hx;show#[λh=>h.IsTupleIter it a i/\h.IsTuple a ba.toArray,λx=>#[x,p],#[λA E s Q st hQ=>?_,λh h' st k=>#[st.1.at λo e=>k it 16e7 o e,st.2.at λo e=>k a 16e7 o e],λh h' st k=>Heap.IsTupleIter.at st λo e=>k it 16e7 o e]];show xU st.1 st.2 (x:=u) (by simpa using hu) λh' a1 a2=>hQ u h' s.toks ru a1 a2
 |s z tk wd=>
  let#[c,hc,rfl]:=hs;show#[λh=>ZS.at' (.s z tk wd) it i h,λx=>x,#[λA E s Q st hQ=>?_,λh h' st k=>ZS.jX st λo e=>k it 16e7 o e,λh h' st k=>ZS.jX (S:=.s z tk wd) st λo e=>k it 16e7 o e]];cases wd with
  |true=>show wpAny_nextOf_wide_item st hc λh' a1 a2=>hQ _ h' _ 7e2 a1 a2
  |false=>show wpAny_nextOf_ascii_item st hc λh' a1 a2=>hQ _ h' _ 7e2 a1 a2
theorem JA{S:ZS}(I:2e3)(hs:S.ends X.K H i):∃st:Heap->Prop,(S.at' it i s.heap->st s.heap)/\xG X.prog X.w it (S.us it) st:=by
 cases S with
 |l a=>
  let#[xs,hq,hx]:=hs;let#[ba,rv,p,hz]:=I.list hq;have hl:=rv.length;show#[λh=>h.IsListIter it a i/\h.IsList a ba.toArray,λx=>#[x,p.isList],#[λA E s Q hh st hE=>wpAny_nextOf_list_end hh st.1 st.2 14e9 hE,λh h' st k=>#[st.1.at λo e=>k it 16e7 o e,st.2.at λo e=>k a 16e7 o e]]]
 |t a=>
  let#[xs,hq,hx]:=hs;let#[ba,rv,p,hz]:=I.tuple hq;have hl:=rv.length;show#[λh=>h.IsTupleIter it a i/\h.IsTuple a ba.toArray,λx=>#[x,p],#[λA E s Q hh st hE=>uO hh st.1 st.2 14e9 hE,λh h' st k=>#[st.1.at λo e=>k it 16e7 o e,st.2.at λo e=>k a 16e7 o e]]]
 |s z tk wd=>
  show#[λh=>ZS.at' (.s z tk wd) it i h,λx=>x,#[λA E s Q hh st hE=>?_,λh h' st k=>ZS.jX st λo e=>k it 16e7 o e]];have hx:z.cps[i]? = af:=Vm hs;cases wd with
  |true=>show wpAny_nextOf_wide_end hh st hx hE
  |false=>show wpAny_nextOf_ascii_end hh st hx hE
end
noncomputable def ZS.val:ZS->Value
 |.l a=>.ref a
 |.t a=>.ref a
 |.s z tk _=>.str z tk
noncomputable def ZS.obj:ZS->Obj
 |.l a=>{cls:=.type "list_iterator",data:=.fields [.ref a,.int 0 0].toArray}
 |.t a=>{cls:=.type "tuple_iterator",data:=.fields [.ref a,.int 0 0].toArray}
 |.s z tk wd=>{cls:=.type (if wd then "str_iterator" else "str_ascii_iterator"),data:=.fields [.str z tk,.int 0 0].toArray}
def ZS.src(S:ZS)(h:Heap):Prop:=match S with
 |.l a=>∃ba,h.IsList a ba
 |.t a=>∃ba,h.IsTuple a ba
 |.s z _ wd=>wd=!(z.cps.all (· < 128))
theorem ZS.Fh{S:ZS}(x:S.src h)(o:Obj):S.src (h.push o):=by
 cases S with
 |l a=>let#[ba,e]:=x;show#[ba,Heap.IsList.push e _]
 |t a=>let#[ba,e]:=x;show#[ba,Heap.IsTuple.at e λo e=>Yc _ e]
 |s z tk wd=>show x
theorem ZS.iter{S:ZS}{P:Yy}{A:Around}{s:Shared}(x:S.src s.heap)(hQ:Q (.ref s.heap.objs.size) {s with heap:=s.heap.push S.obj}):
  wpAny (model P w) A (pyIter S.val) Q E s:=by
 cases S with
 |l a=>let#[ba,e]:=x;show Vq e hQ
 |t a=>let#[ba,e]:=x;show wpAny_pyIter_tuple e hQ
 |s z tk wd=>
  cases ha:z.cps.all (· < 128)with
  |true=>
   have:wd=ah:=by rw[show wd=!(z.cps.all (· < 128))from x,ha];rfl
   subst this;show wpAny_pyIter_ascii ha hQ
  |false=>
   have:wd=ag:=by rw[show wd=!(z.cps.all (· < 128))from x,ha];rfl
   subst this;show wpAny_pyIter_wide ha hQ
abbrev zH3(h:Heap)(S1 S2:ZS):Heap:=((h.push S1.obj).push S2.obj).push {cls:=.type "tuple",data:=.seq [.ref h.objs.size,.ref (h.push S1.obj).objs.size].toArray}
abbrev zH4(h:Heap)(S1 S2:ZS):Heap:=(zH3 h S1 S2).push {cls:=.type "tuple",data:=.seq [.none,.none].toArray}
abbrev OO(h:Heap)(S1 S2:ZS):Heap:=(zH4 h S1 S2).push {cls:=.type "zip",data:=.fields [.none,.bool ah,.bool ah,.ref ((h.push S1.obj).push S2.obj).objs.size,.ref (zH3 h S1 S2).objs.size].toArray}
theorem LV(S1 S2:ZS):Meets (W3.«zip.__new__» #[[.type "zip",S1.val,S2.val],[]]) (λ_ R s=>S1.src s.heap/\S2.src s.heap/\R (.ok (.ret (.ref (zH4 s.heap S1 S2).objs.size))) {s with heap:=OO s.heap S1 S2}):=
 .of_wp λprog w A R #[hp,g,d,tk,os] #[Bm,EB,h]=>by
  have below:=sub_zip;have hL1:S1.src (Shared.heap #[hp,g,d,tk,os]):=Bm;have hL2:S2.src (Shared.heap #[hp.push S1.obj,g,d,tk,os]):=ZS.Fh EB _
  wp_walk using ZS.iter hL1,ZS.iter hL2
  show#[_,rfl,h]
section
variable{X:Cx}{pins:3e2}{σ:St}{H:Hp}{s:Shared}
theorem mm{t':Nat}(I:2e3)(k:∀b o,b∉ch->s.heap.get? b=ae o->h'.get? b=ae o)(hf:∀b∈ch,jE X pins H b):Inv X pins σ H {s with heap:=h',toks:=t'}:=by
 have nit:∀b u,H b=ae u->b∉ch:=λb u e z=>by rw[(hf b z).1]at e;cases e
 show I.step (g':=s.gens) (d':=s.drawn) (ch:=ch) (λb hb=>#[(hf b hb).2.2.2.1,(hf b hb).2.1,(hf b hb).2.2.2.2.1,(hf b hb).2.2.2.2.2]) (λb o _ _ hc e _=>k b o hc e) (λb o _ _ hc e _=>#[o.slots,k b o hc e]) (λ_ _ _ _ n=>n)
  (λb o hc e=>#[o,k b o hc e]) (λ_ _ e=>e) (λ_ _ _ e=>e) (λb ps e=>#[#[],by rw[e];simp]) (λm hm=>?_) (λb u e=>?_) I.bare
 .let#[o,es,ep,ho,r]:=hm
  show#[o,es,ep,k _ o (λz=>(hf _ z).2.1 rfl) ho,r]
 .show(I.cR b u e).fE (λc v hc q=>k c v ?_ q) (λ_ q=>q) λ_ _ q=>q
  rcases hc with z|z
  .rw[z];show nit b u e
  .show nit c _ z
theorem Zc0{xs:List V}(I:2e3)(h:gL X.K H a xs)(f:jE X pins H b):a≠b:=by
 rintro rfl;rcases h with(h|⟨o,h⟩)|⟨o,ba,n,hk,_⟩
 .rw[f.1]at h;cases h
 .rw[f.1]at h;cases h
 .have hb:=I.ok.mod.Nb _ _ hk
  rcases f.2.2.2.1 with z|z
  .show I.ok.sR _ _ hb z
  .show absurd (Yr (Ys hb) (YC I.ok.J' z)) (XJ _)
theorem ZcZ{xs:List V}(I:2e3)(h:jr X.K H a xs)(f:jE X pins H b):a≠b:=by
 rintro rfl;rcases h with(h|⟨o,h⟩)|⟨o,ba,n,hk,_⟩
 .rw[f.1]at h;cases h
 .rw[f.1]at h;cases h
 .have hb:=I.ok.mod.Nb _ _ hk
  rcases f.2.2.2.1 with z|z
  .show I.ok.sR _ _ hb z
  .show absurd (Yr (Ys hb) (YC I.ok.J' z)) (XJ _)
def ZS.rd(S:ZS)(K:W.Frag)(H:Hp):Prop:=match S with
 |.l a=>∃xs,gL K H a xs
 |.t a=>∃xs,jr K H a xs
 |.s _ _ _=>True
theorem EH{S:ZS}(I:2e3)(r:S.rd X.K H)(f:jE X pins H b)(hb:it≠b):b∉S.us it:=by
 cases S with
 |l a=>
  let#[xs,h]:=r;intro z;rcases Ye.mp z with z|z
  .show hb z.symm
  .show Zc0 I h f (Xp.mp z).symm
 |t a=>
  let#[xs,h]:=r;intro z;rcases Ye.mp z with z|z
  .show hb z.symm
  .show ZcZ I h f (Xp.mp z).symm
 |s z tk wd=>
  intro q;show hb (Xp.mp q).symm
theorem Bq{S:ZS}{u v:V}(I:2e3)(h:S.has X.K H i u)(h':S.has X.K H i v):u=v:=by
 cases S with
 |l a=>
  let#[xs,h1,h2]:=h;let#[ys,h3,h4]:=h';rw[I.nG h1 h3,h4]at h2;show(Yz h2).symm
 |t a=>
  let#[xs,h1,h2]:=h;let#[ys,h3,h4]:=h';rw[I.pU h1 h3,h4]at h2;show(Yz h2).symm
 |s z tk wd=>
  let#[c,h1,rfl]:=h;let#[d,h2,rfl]:=h';rw[h1]at h2;cases h2;rfl
theorem ZS.k8{S:ZS}{v:V}(h:S.has K H i v):S.rd K H:=by
 cases S with
 |l a=>let#[xs,h,_]:=h;show#[xs,h]
 |t a=>let#[xs,h,_]:=h;show#[xs,h]
 |s z tk wd=>trivial
end
structure ZNe(z TI TO i1 i2:Addr):Prop where
 a1:TI≠z
 a2:TO≠z
 a3:i1≠z
 a4:i2≠z
 a5:TI≠TO
 a6:TI≠i1
 a7:TI≠i2
 a8:TO≠i1
 a9:TO≠i2
 Ot:i1≠i2
theorem zne(n:Nat):ZNe (n+4) (n+2) (n+3) n (n+1):=by
 have h:∀a b:Nat,a≠b->n+a≠n+b:=λa b h e=>h (Nat.add_left_cancel e);show#[h 2 4 2e7,h 3 4 2e7,h 0 4 2e7,h 1 4 2e7,h 2 3 2e7,h 2 0 2e7,h 2 1 2e7,h 3 0 2e7,h 3 1 2e7,h 0 1 2e7]
def Jz(K:W.Frag)(S1 S2:ZS):It:=⟨λi H=>(∃v,S1.has K H i v)/\∃v,S2.has K H i v,λi H x H'=>∃a u v,H a=af/\x=.ref a/\H'=upd H a (.tup [u,v])/\(∀u',S1.has K H i u'->u'=u)/\∀v',S2.has K H i v'->v'=v,
 λi H=>S1.rd K H/\S2.rd K H/\(S1.ends K H i\/((∃v,S1.has K H i v)/\S2.ends K H i))⟩
theorem E1{P:Yy}{x1:Nat}{S1 S2:ZS}{z TI TO i1 i2:Addr}(N:ZNe z TI TO i1 i2):Turn P w K (.Tuple elts x1 pos) (Jz K S1 S2) [z,TI,TO,i1,i2] z
  (λi h=>IsZip h z TI TO .none/\IsPair h TI (.ref i1) (.ref i2)/\(∃a b,IsPair h TO a b)/\S1.at' i1 i h/\S2.at' i2 i h) where
 mem:=by simp
 obj:=λi h st b hb=>by
  obtain⟨hz,uz,⟨a,c,wB⟩,h1,h2⟩:=st;have it:∀{S:ZS}{it:Addr},S.at' it i h->∃o,h.get? it=ae o/\∀v,o.data≠.cell v:=λ{S it} x=>by
   cases S with
   |l a=>let#[o,e,_,d]:=x;show#[o,e,λv q=>by rw[d]at q;cases q]
   |t a=>let#[o,e,_,d]:=x;show#[o,e,λv q=>by rw[d]at q;cases q]
   |s z tk wd=>let#[o,e,_,d]:=x;show#[o,e,λv q=>by rw[d]at q;cases q]
  erw[Ye,Yq,or_false]at hb
  rcases hb with rfl|rfl|rfl|rfl|rfl
  .show#[_,hz,λv q=>by cases q]
  .show#[_,uz,λv q=>by cases q]
  .show#[_,wB,λv q=>by cases q]
  .show it h1
  .show it h2
 keep:=λi h h' st k=>by
  obtain⟨hz,uz,⟨a,c,wB⟩,h1,h2⟩:=st;show#[k z 3e7 _ hz,k TI 3e7 _ uz,#[a,c,k TO 3e7 _ wB],ZS.jX h1 λo e=>k i1 3e7 o e,ZS.jX h2 λo e=>k i2 3e7 o e]
 item:=by
  sleep 2;obtain⟨hz,uz,⟨a,c,wB⟩,h1,h2⟩:=st;obtain⟨⟨v1,g1⟩,⟨v2,g2⟩⟩:=hg;have f:=λb hb=>hf b hb;let#[CN,e1,N1]:=sS (it:=i1) I g1 (λb _=>Classical.em _) (λa ha=>by rcases ha with rfl|rfl;show Zc0 I g1.choose_spec.1 (f i1 (by simp));show ZcZ I g1.choose_spec.1 (f i1 (by simp)));let#[st2,e2,N2]:=sS (it:=i2) I g2 (λb _=>Classical.em _) (λa ha=>by rcases ha with rfl|rfl;show Zc0 I g2.choose_spec.1 (f i2 (by simp));show ZcZ I g2.choose_spec.1 (f i2 (by simp)));have D:lz z TI TO i1 i2 (S1.us i1) (S2.us i2):=#[N.a1,N.a2,N.a3,N.a4,N.a5,N.a6,N.a7,N.a8,N.a9,EH I (ZS.k8 g1) (f z 3e7) N.a3,EH I (ZS.k8 g1) (f TO 3e7) N.a8.symm,EH I (ZS.k8 g1) (f i2 3e7) N.Ot,
   EH I (ZS.k8 g2) (f z (by simp)) N.a4,EH I (ZS.k8 g2) (f TO (by simp)) N.a9.symm,EH I (ZS.k8 g2) (f i1 (by simp)) N.Ot.symm]
  show ET D N1 N2 hz uz wB (e1 h1) (e2 h2) λx y h' tk rx ry a1 a2 a3 a4 a5 a6 a7=>#[_,rfl,?_]
  show wpAny_letOwnedTupleGo_zip (s:={s with heap:=h',toks:=tk}) a1 λh3 hz3 sb=>?_;have gG:∀{b o},s.heap.get? b=ae o->b≠s.heap.objs.size:=λe=>YK (Ys e);have J1:Inv X pins σ H {s with heap:=h3,toks:=tk}:=mm (ch:=[z,TI,TO,i1,i2]) I (λb o hb e=>by
   erw[Ye,Yq,or_false,not_or]at hb
   show sb.extBut _ _ hb.1 (a7 b o hb.1 hb.2.2.1 hb.2.2.2.1 hb.2.2.2.2 e)) hf
  have hn:H s.heap.objs.size=af:=I.cR.fresh (Yo _);have ltz:=gG hz;have hT:IsPair h3 s.heap.objs.size x y:=sb.extBut _ _ ltz.symm a5;have J2:=OR (ob:=.tup [v1,v2]) J1 hn I.sz (Wr I.lt) (λx c e=>by let#[v,q]:=I.cell x c e;show YK q.lt) (λp hp=>gG (I.pin p hp).1)
   #[by change 2<=Yp;rw[YH];decide,[x,y],.cons rx (.cons ry .nil),#[_,hT,rfl,_,rfl]]
  show#[.ref s.heap.objs.size,_,J2,rfl,#[_,v1,v2,hn,rfl,rfl,λu' q=>Bq I q g1,λu' q=>Bq I q g2],#[hz3,sb.extBut _ _ N.a1 (a7 TI _ N.a1 N.a5 N.a6 N.a7 uz),#[_,_,sb.extBut _ _ N.a2 a2],ZS.jX a3 λo e=>sb.extBut _ _ N.a3 e,ZS.jX a4 λo e=>sb.extBut _ _ N.a4 e],λb hb=>?_];have uy:b≠s.heap.objs.size:=by
   erw[Ye,Yq,or_false]at hb
   have it:∀{S:ZS}{it:Addr},S.at' it i s.heap->it≠s.heap.objs.size:=λ{S it} x=>by
    cases S with
    |l a=>let#[o,e,_]:=x;show gG e
    |t a=>let#[o,e,_]:=x;show gG e
    |s z tk wd=>let#[o,e,_]:=x;show gG e
   rcases hb with rfl|rfl|rfl|rfl|rfl
   .show gG hz
   .show gG uz
   .show gG wB
   .show it h1
   .show it h2
  rw[fS uy];show(hf b hb).1
 done:=by
  sleep 2;obtain⟨hz,uz,⟨a,c,wB⟩,h1,h2⟩:=st;let#[r1,r2,hg]:=hg;have f:=λb hb=>hf b hb;have D:lz z TI TO i1 i2 (S1.us i1) (S2.us i2):=#[N.a1,N.a2,N.a3,N.a4,N.a5,N.a6,N.a7,N.a8,N.a9,EH I r1 (f z 3e7) N.a3,EH I r1 (f TO 3e7) N.a8.symm,EH I r1 (f i2 3e7) N.Ot,
   EH I r2 (f z (by simp)) N.a4,EH I r2 (f TO (by simp)) N.a9.symm,EH I r2 (f i1 (by simp)) N.Ot.symm]
  have fin:∀h' tk,(∀c o,c≠z->c≠TO->c≠i1->c≠i2->s.heap.get? c=ae o->h'.get? c=ae o)->(af:Option Value)=af/\Inv X pins σ H {s with heap:=h',toks:=tk}:=λh' tk k=>#[rfl,mm (ch:=[z,TI,TO,i1,i2]) I (λb o hb e=>by
   erw[Ye,Yq,or_false,not_or]at hb
   show k b o hb.1 hb.2.2.1 hb.2.2.2.1 hb.2.2.2.2 e) hf]
  rcases hg with g1|⟨⟨v1,g1⟩,g2⟩
  .let#[CN,e1,N1]:=JA (it:=i1) I g1
   show uD (st2:=λ_=>True) (I.ok.hd hc) D (.inl N1) hz uz wB (e1 h1) trivial fin
  .let#[CN,e1,N1]:=sS (it:=i1) I g1 (λb _=>Classical.em _) (λa ha=>by rcases ha with rfl|rfl;show Zc0 I g1.choose_spec.1 (f i1 (by simp));show ZcZ I g1.choose_spec.1 (f i1 (by simp)))
   let#[st2,e2,N2]:=JA (it:=i2) I g2;show uD (I.ok.hd hc) D (.inr #[_,_,N1,N2]) hz uz wB (e1 h1) (e2 h2) fin
 self:=λ_ _ _ _ _ st h=>wpAny_pyIter_zip st.1 h
structure KR(K:W.Frag)(ι:List Addr)(H:Hp)(S:ZS)(ps:List PV):Prop where
 rd:∀ι2 H2,Ex ι ι2 H H2->S.rd K H2
 has:∀ι2 H2,Ex ι ι2 H H2->∀i p,ps[i]? = ae p->∃v,S.has K H2 i v/\Rep K 9e6 H2 p v
 ends:∀ι2 H2,Ex ι ι2 H H2->∀i,ps.length<=i->S.ends K H2 i
section
variable{X:Cx}{pins:3e2}{σ:St}{H:Hp}{s:Shared}
theorem yd{x:SV}{v:V}(I:2e3)(cr:CR X.K ι H C)(r:cH X.K ι H x v)(e:bY x=ae ps)(ru:RelV v u):∃S:ZS,u=S.val/\S.src s.heap/\KR X.K ι H S ps:=by
 ext bY e;split at e
 .cases e
  replace r:Rep X.K ι H (.lst _) v:=r;ext Rep r;let#[a,vs,rfl,hq,rv]:=r;let#[ba,_,p,_]:=I.list hq.sq;have keep:∀ι2 H2,Ex ι ι2 H H2->gL X.K H2 a vs:=λι2 H2 x=>by
   rcases hq with⟨n,q|⟨o,q⟩⟩|q
   .show .inl (.inl (x.out _ _ n q).2)
   .show .inl (.inr #[o,(x.out _ _ n q).2])
   .show .inr q
  show#[.l a,ru,#[_,p.isList],λι2 H2 x=>#[vs,keep ι2 H2 x],λι2 H2 x i p hp=>?_,λι2 H2 x i hi=>#[vs,keep ι2 H2 x,by rw[←rv.length];show hi]];let#[w,e1,r1]:=rv.get hp;show#[w,#[vs,keep ι2 H2 x,e1],Rep.tr cr x.out p w r1]
 .cases e
  replace r:Rep X.K ι H (.tup _) v:=r;ext Rep r;let#[a,vs,rfl,hq,rv]:=r;let#[ba,_,p,_]:=I.tuple hq.sq;have keep:∀ι2 H2,Ex ι ι2 H H2->jr X.K H2 a vs:=λι2 H2 x=>by
   rcases hq.sq (K:=X.K)with(q|⟨o,q⟩)|q
   .show .inl (.inl (x.out _ _ (cr.qp q (λ_ e=>nomatch e) λ_ e=>nomatch e) q).2)
   .show .inl (.inr #[o,(x.out _ _ (cr.qp q (λ_ e=>nomatch e) λ_ e=>nomatch e) q).2])
   .show .inr q
  show#[.t a,ru,#[_,p],λι2 H2 x=>#[vs,keep ι2 H2 x],λι2 H2 x i p hp=>?_,λι2 H2 x i hi=>#[vs,keep ι2 H2 x,by rw[←rv.length];show hi]];let#[w,e1,r1]:=rv.get hp;show#[w,#[vs,keep ι2 H2 x,e1],Rep.tr cr x.out p w r1]
 .cases e
  rename Str=>z
  replace r:Rep X.K ι H (.str z) v:=r;ext Rep r;let#[rfl,hz]:=r;let#[t,rfl]:=ru;show#[.s z t (!(z.cps.all (· < 128))),rfl,rfl,λ_ _ _=>trivial,λι2 H2 x i p hp=>?_,λι2 H2 x i hi=>by change z.cps.size<=i;simpa using hi];rw[YS]at hp;cases hc:z.cps.toList[i]? with
  |none=>rw[hc]at hp;cases hp
  |some d=>
   rw[hc]at hp;cases hp;show#[.str ⟨#[d]⟩,#[d,by simpa using hc,rfl],ma (by change 1<=Yp;rw[YH];decide)]
 .cases e
theorem HD{S1 S2:ZS}(Z1:KR K ι H S1 ps)(Z2:KR K ι H S2 qs):Iter K ι H (W7 (λa b=>.tup [a,b]) ps qs) (Jz K S1 S2):=by
 have hl:(W7 (λa b=>PV.tup [a,b]) ps qs).length=min ps.length qs.length:=by simp
 show#[λι2 H2 C2 x c i hi=>?_,λι2 H2 C2 x c i v H3 hi y=>?_,λι2 H2 C2 x c=>?_]
 .rw[hl]at hi
  have h1:i<ps.length:=by lia
  have h2:i<qs.length:=by lia
  let#[v,g1,_]:=Z1.has ι2 H2 x i _ (Yd h1);let#[u,g2,_]:=Z2.has ι2 H2 x i _ (Yd h2);show#[#[v,g1],#[u,g2]]
 .rw[hl]at hi
  have h1:i<ps.length:=by lia
  have h2:i<qs.length:=by lia
  let#[v1,g1,r1]:=Z1.has ι2 H2 x i _ (Yd h1);let#[v2,g2,r2]:=Z2.has ι2 H2 x i _ (Yd h2);let#[a,u,w,hn,rfl,rfl,e1,e2]:=y;rw[←e1 v1 g1,←e2 v2 g2];show#[λb o e=>by rw[fS (kI e hn)];show e,.tup [ps[i],qs[i]],?_,ZcJ hn (.cons r1 (.cons r2 .nil))];rw[List.getElem?_zipWith,Yd h1,Yd h2]
 .show#[Z1.rd ι2 H2 x,Z2.rd ι2 H2 x,?_]
  rw[hl];rcases Nat.le_total ps.length qs.length with h|h
  .show .inl (Z1.ends ι2 H2 x _ 3e5)
  .by_cases he:ps.length<=qs.length
   .show .inl (Z1.ends ι2 H2 x _ 3e5)
   .right
    have h1:min ps.length qs.length<ps.length:=by lia
    let#[v,g1,_]:=Z1.has ι2 H2 x _ _ (Yd h1);show#[#[v,g1],Z2.ends ι2 H2 x _ 3e5]
end
mutual
noncomputable def aq (h:Heap):PV->Value->Prop
 |.aS,u=>u=.none
 |.bl b,u=>u=.bool b
 |.int i,u=>∃t,u=.int i t
 |.str x,u=>∃t,u=.str x t
 |.tup ps,u=>∃(a:Addr)(us:4e4),u=.ref a/\h.IsTuple a us.toArray/\aU h ps us
 |.lst ps,u=>∃(a:Addr)(us:4e4),u=.ref a/\h.IsList a us.toArray/\aU h ps us
 |_,_=>False
noncomputable def aU (h:Heap):List PV->List Value->Prop
 |[],us=>us=[]
 |p::ps,us=>∃v r,us=v::r/\aq h p v/\aU h ps r
end
mutual
noncomputable def dat:PV->Bool
 |.tup ps=>c9 ps
 |.lst ps=>c9 ps
 |.gH _ _=>ah
 |.fz _ _=>ah
 |.fn _=>ah
 |.ty _=>ah
 |.dn _ _=>ah
 |_=>ag
noncomputable def c9:List PV->Bool
 |[]=>ag
 |p::ps=>dat p&&c9 ps
end
mutual
noncomputable def dep:PV->Nat
 |.tup ps=>cS ps+1
 |.lst ps=>cS ps+1
 |_=>0
noncomputable def cS:List PV->Nat
 |[]=>0
 |p::ps=>max (dep p) (cS ps)
end
mutual
theorem Rep.heap{X:Cx}{pins:3e2}{σ:St}{H:Hp}{s:Shared}{ι:6e8}(I:2e3):∀(p:PV){v:V}{u:Value},Rep X.K ι H p v->RelV v u->dat p=ag->aq s.heap p u
 |.aS,v,u,h,r,_=>by ext Rep h;subst h;ext aq;show r
 |.bl b,v,u,h,r,_=>by ext Rep h;subst h;ext aq;show r
 |.int i,v,u,h,r,_=>by ext Rep h;subst h;ext aq;show r
 |.str x,v,u,h,r,_=>by ext Rep h;let#[rfl,h]:=h;ext aq;show r
 |.tup ps,v,u,h,r,d=>by
  ext Rep h;let#[a,vs,rfl,h,rs]:=h;cases r;let#[ba,r',pl,hz]:=I.tuple h.sq;ext aq;ext dat d;show#[a,ba,rfl,pl,aG.heap I ps rs r' d]
 |.lst ps,v,u,h,r,d=>by
  ext Rep h;let#[a,vs,rfl,h,rs]:=h;cases r;let#[ba,r',pl,hz]:=I.list h.sq;ext aq;ext dat d;show#[a,ba,rfl,pl.isList,aG.heap I ps rs r' d]
 |.gH ks ps,v,u,h,r,d=>by ext dat d;cases d
 |.fz ks ps,v,u,h,r,d=>by ext dat d;cases d
 |.fn a,v,u,h,r,d=>by ext dat d;cases d
 |.ty n,v,u,h,r,d=>by ext dat d;cases d
 |.dn ks ps,v,u,h,r,d=>by ext dat d;cases d
theorem aG.heap{X:Cx}{pins:3e2}{σ:St}{H:Hp}{s:Shared}{ι:6e8}(I:2e3):∀(ps:List PV){vs:List V}{us:4e4},aG X.K ι H ps vs->Vals vs us->c9 ps=ag->aU s.heap ps us
 |[],vs,us,h,r,_=>by ext aG h;subst h;cases r;ext aU;rfl
 |p::ps,vs,us,h,r,d=>by
  ext aG h;let#[v,w,rfl,h1,h2]:=h;cases r with
  |cons r1 r2=>
   ext c9 d;rw[Yl]at d;ext aU;show#[_,_,rfl,Rep.heap I p h1 r1 d.1,aG.heap I ps h2 r2 d.2]
end
theorem Lies.heap{X:Cx}{pins:3e2}{σ:St}{H:Hp}{s:Shared}{ι:6e8}(I:2e3){p:PV}{v:V}{u:Value}(l:Lies X.K ι H p v)(r:RelV v u)(d:dat p=ag):aq s.heap p u:=by
 cases l with
 |aS=>ext aq;show r
 |bl b=>ext aq;show r
 |int i=>ext aq;show r
 |str x h=>ext aq;show r
 |tup h rs=>
  cases r;let#[ba,r',pl,hz]:=I.tuple h.sq;ext aq;ext dat d;show#[_,ba,rfl,pl,aG.heap I _ rs r' d]
 |lst h rs=>
  cases r;let#[ba,r',pl,hz]:=I.list h;ext aq;ext dat d;show#[_,ba,rfl,pl.isList,aG.heap I _ rs r' d]
 |gH h hl rs=>ext dat d;cases d
 |fz h hl rs=>ext dat d;cases d
 |fn a=>ext dat d;cases d
 |ty n=>ext dat d;cases d
 |dn h r1 r2=>ext dat d;cases d
mutual
noncomputable def aZ:PV->PV->Bool
 |.aS,.aS=>ag
 |.bl a,.bl b=>a==b
 |.bl a,.int b=>(if a then 1 else 0)==b
 |.int a,.bl b=>a==(if b then 1 else 0)
 |.int a,.int b=>a==b
 |.str a,.str b=>a==b
 |.tup xs,.tup ys=>eQ xs ys
 |.lst xs,.lst ys=>eQ xs ys
 |_,_=>ah
noncomputable def eQ:List PV->List PV->Bool
 |[],[]=>ag
 |x::xs,y::ys=>aZ x y&&eQ xs ys
 |_,_=>ah
end
theorem Zdv{us vs:4e4}(h1:h.IsTuple a us.toArray)(h2:h.IsTuple a vs.toArray):us=vs:=by
 let#[o,e,_,n,d]:=h1;let#[o',e',_,n',d']:=h2;rw[e]at e';cases e';rw[d]at d';injection d' with d1 _;simpa using d1
theorem Zd0{us vs:4e4}(h1:h.IsList a us.toArray)(h2:h.IsList a vs.toArray):us=vs:=by
 let#[o,e,_,n,d]:=h1;let#[o',e',_,n',d']:=h2;rw[e]at e';cases e';rw[d]at d';injection d' with d1 _;simpa using d1
theorem Zc4{us vs:4e4}(h1:h.IsTuple a us.toArray)(h2:h.IsList a vs.toArray):False:=by
 let#[o,e,c,_]:=h1;let#[o',e',c',_]:=h2;rw[e]at e';cases e';rw[c]at c';injection c' with c';show absurd c' (by decide)
mutual
theorem aq.same{h:Heap}:∀(p:PV){q:PV}{u:Value},aq h p u->aq h q u->aZ p q=ag
 |.aS,q,u,a,b=>by
  ext aq a;subst a;cases q<;>ext aq b<;>first|rfl|(cases b;done)|(let#[_,e]:=b;cases e;done)|(let#[_,_,e,_]:=b;cases e;done)|show b.elim
 |.bl x,q,u,a,b=>by
  ext aq a;subst a;cases q<;>ext aq b<;>first|(cases b;done)|(cases b;ext aZ;show beq_self_eq_true _)|(let#[_,e]:=b;cases e;done)|(let#[_,_,e,_]:=b;cases e;done)|show b.elim
 |.int x,q,u,a,b=>by
  ext aq a;let#[t,rfl]:=a;cases q<;>ext aq b<;>first|(cases b;done)|(let#[_,e]:=b;cases e;done)|(let#[_,e]:=b;cases e;ext aZ;show beq_self_eq_true _)|(let#[_,_,e,_]:=b;cases e;done)|show b.elim
 |.str x,q,u,a,b=>by
  ext aq a;let#[t,rfl]:=a;cases q<;>ext aq b<;>first|(cases b;done)|(let#[_,e]:=b;cases e;done)|(let#[_,e]:=b;cases e;ext aZ;show beq_self_eq_true _)|(let#[_,_,e,_]:=b;cases e;done)|show b.elim
 |.tup ps,q,u,a,b=>by
  ext aq a;let#[l,us,rfl,h1,r1]:=a;cases q with
  |tup qs=>
   ext aq b;let#[l',vs,e,h2,r2]:=b;cases e;cases Zdv h1 h2;ext aZ;show aU.same ps r1 r2
  |lst qs=>ext aq b;let#[l',vs,e,h2,r2]:=b;cases e;show(Zc4 h1 h2).elim
  |_=>ext aq b;first|(cases b;done)|(let#[_,e]:=b;cases e;done)|show b.elim
 |.lst ps,q,u,a,b=>by
  ext aq a;let#[l,us,rfl,h1,r1]:=a;cases q with
  |lst qs=>
   ext aq b;let#[l',vs,e,h2,r2]:=b;cases e;cases Zd0 h1 h2;ext aZ;show aU.same ps r1 r2
  |tup qs=>ext aq b;let#[l',vs,e,h2,r2]:=b;cases e;show(Zc4 h2 h1).elim
  |_=>ext aq b;first|(cases b;done)|(let#[_,e]:=b;cases e;done)|show b.elim
 |.gH _ _,q,u,a,b=>by ext aq a;show a.elim
 |.fz _ _,q,u,a,b=>by ext aq a;show a.elim
 |.fn _,q,u,a,b=>by ext aq a;show a.elim
 |.ty _,q,u,a,b=>by ext aq a;show a.elim
 |.dn _ _,q,u,a,b=>by ext aq a;show a.elim
theorem aU.same{h:Heap}:∀(ps:List PV){qs:List PV}{us:4e4},aU h ps us->aU h qs us->eQ ps qs=ag
 |[],qs,us,a,b=>by
  ext aU a;subst a;cases qs with
  |nil=>rfl
  |cons q qs=>ext aU b;let#[_,_,e,_]:=b;cases e
 |p::ps,qs,us,a,b=>by
  sleep 15;cases qs with
  |nil=>ext aU b;cases b
  |cons q qs=>
   ext aU b;let#[v',r',e,b1,b2]:=b;cases e;ext eQ;rw[aq.same p a1 b1,aU.same ps a2 b2];rfl
end
end Pu
namespace Pu
open PySem PySem.Spec L2 PySem.SeqAt
open PyProof.Rows hiding St Fr
theorem aU.length{h:Heap}:∀{ps:List PV}{us:4e4},aU h ps us->ps.length=us.length
 |[],us,a=>by ext aU a;subst a;rfl
 |p::ps,us,a=>by ext aU a;let#[v,r,rfl,_,b]:=a;rw[YB,YB,b.length]
theorem Zb8:∀(ps qs:List PV),(((YL (min ps.length qs.length)).all λj=>aZ 18e1 (qs.getD j .aS))&&ps.length==qs.length)=eQ ps qs
 |[],[]=>rfl
 |[],_::_=>by ext eQ;simp
 |_::_,[]=>by ext eQ;simp
 |p::ps,q::qs=>by
  rw[eQ,←Zb8 ps qs,YB,YB,Nat.succ_min_succ,List.range_succ_eq_map,Xm,Uu];rw[show(ps.length+1==qs.length+1)=(ps.length==qs.length) by simp[BEq.beq]];rw[Bool.and_assoc];rfl
theorem ZdE(e:ps.length=qs.length):((YL ps.length).all λj=>aZ 18e1 (qs.getD j .aS))=eQ ps qs:=by
 have:=Zb8 ps qs;rw[←e,Nat.min_self,beq_self_eq_true,Bool.and_true]at this;show this
theorem nZ:∀{ps qs:List PV},ps.length≠qs.length->eQ ps qs=ah
 |[],[],h=>absurd rfl h
 |[],_::_,_=>by ext eQ;rfl
 |_::_,[],_=>by ext eQ;rfl
 |p::ps,q::qs,h=>by ext eQ;rw[nZ λz=>h (by rw[YB,YB,z]),V3]
section
variable{s:Shared}
theorem RcAt.L4{A:Around}{us vs:4e4}(h1:s.heap.IsTuple a us.toArray)(h2:s.heap.IsTuple b vs.toArray)(l1:ps.length=us.length)(l2:qs.length=vs.length)(hu:4e7)
  (he:∀j(h1:j<us.length)(h2:j<vs.length),EqAt A.in1 s us[j] vs[j] (aZ 18e1 (qs.getD j .aS))):RcAt A s (.ref a) (.ref b) (eQ ps qs):=by
 have:=RcAt.tuples h1 h2 hu (e:=λj=>aZ 18e1 (qs.getD j .aS)) (λj z1 z2=>by simpa using he j (by simpa using z1) (by simpa using z2));simp only[Yj,←l1,←l2]at this;rw[Zb8]at this;show this
theorem RcAt.M6{A:Around}{us vs:4e4}(h1:s.heap.IsList a us.toArray)(h2:s.heap.IsList b vs.toArray)(l1:ps.length=us.length)(l2:qs.length=vs.length)(hu:4e7)
  (he:∀j(h1:j<us.length)(h2:j<vs.length),EqAt A.in1 s us[j] vs[j] (aZ 18e1 (qs.getD j .aS))):RcAt A s (.ref a) (.ref b) (eQ ps qs):=by
 by_cases e:us.length=vs.length
 .have:=RcAt.lists h1 h2 (by simpa using e) hu (e:=λj=>aZ 18e1 (qs.getD j .aS)) (λj z1 z2=>by simpa using he j (by simpa using z1) (by simpa using z2))
  simp only[Yj,←l1]at this;rw[ZdE 3e5]at this;show this
 .have:=RcAt.lists_lengths h1 h2 (by simpa using e) hu
  rw[nZ 3e5];show this
theorem RcNeAt.L4{A:Around}{us vs:4e4}(h1:s.heap.IsTuple a us.toArray)(h2:s.heap.IsTuple b vs.toArray)(l1:ps.length=us.length)(l2:qs.length=vs.length)(hu:4e7)
  (he:∀j(h1:j<us.length)(h2:j<vs.length),EqAt A.in1 s us[j] vs[j] (aZ 18e1 (qs.getD j .aS))):RcNeAt A s (.ref a) (.ref b) (!eQ ps qs):=by
 have:=RcNeAt.tuples h1 h2 hu (e:=λj=>aZ 18e1 (qs.getD j .aS)) (λj z1 z2=>by simpa using he j (by simpa using z1) (by simpa using z2));simp only[Yj,←l1,←l2]at this;rw[Zb8]at this;show this
theorem RcNeAt.M6{A:Around}{us vs:4e4}(h1:s.heap.IsList a us.toArray)(h2:s.heap.IsList b vs.toArray)(l1:ps.length=us.length)(l2:qs.length=vs.length)(hu:4e7)
  (he:∀j(h1:j<us.length)(h2:j<vs.length),EqAt A.in1 s us[j] vs[j] (aZ 18e1 (qs.getD j .aS))):RcNeAt A s (.ref a) (.ref b) (!eQ ps qs):=by
 by_cases e:us.length=vs.length
 .have:=RcNeAt.lists h1 h2 (by simpa using e) hu (e:=λj=>aZ 18e1 (qs.getD j .aS)) (λj z1 z2=>by simpa using he j (by simpa using z1) (by simpa using z2))
  simp only[Yj,←l1]at this;rw[ZdE 3e5]at this;show this
 .have:=RcNeAt.lists_lengths h1 h2 (by simpa using e) hu
  rw[nZ 3e5];show this
theorem EqAt.uF{A:Around}(a:aq s.heap .aS u)(b:16e6)(bV:4e7):EqAt A s u v (aZ .aS q):=by
 ext aq a;subst a;cases q<;>ext aq b
 .ext aZ;subst b;show EqAt.same _
 .ext aZ;subst b;show EqAt.none_bool _
 .ext aZ;let#[_,rfl]:=b;show EqAt.none_int _ _
 .ext aZ;let#[_,rfl]:=b;show EqAt.none_str _ _
 .ext aZ;let#[_,_,rfl,ff,_]:=b;show EqAt.none_tuple ff bV
 .ext aZ;let#[_,_,rfl,ff,_]:=b;show EqAt.none_list ff bV
 all_goals show b.elim
theorem EqAt.EW{x:Bool}{A:Around}(a:aq s.heap (.bl x) u)(b:16e6)(bV:4e7):EqAt A s u v (aZ (.bl x) q):=by
 ext aq a;subst a;cases q<;>ext aq b
 .ext aZ;subst b;show EqAt.bool_none _
 .ext aZ;subst b;show EqAt.bool_bool _ _
 .ext aZ;let#[_,rfl]:=b;show EqAt.bool_int _ _ _
 .ext aZ;let#[_,rfl]:=b;show EqAt.bool_str _ _ _
 .ext aZ;let#[_,_,rfl,ff,_]:=b;show EqAt.bool_tuple _ ff bV
 .ext aZ;let#[_,_,rfl,ff,_]:=b;show EqAt.bool_list _ ff bV
 all_goals show b.elim
theorem EqAt.uG{x:Int}{A:Around}(a:aq s.heap (.int x) u)(b:16e6)(bV:4e7):EqAt A s u v (aZ (.int x) q):=by
 sleep 14
 .ext aZ;subst b;show EqAt.int_none _ _
 .ext aZ;subst b;show EqAt.int_bool _ _ _
 .ext aZ;let#[_,rfl]:=b;show EqAt.int_int _ _ _ _
 .ext aZ;let#[_,rfl]:=b;show EqAt.int_str _ _ _ _
 .ext aZ;let#[_,_,rfl,ff,_]:=b;show EqAt.int_tuple _ _ ff bV
 .ext aZ;let#[_,_,rfl,ff,_]:=b;show EqAt.int_list _ _ ff bV
 all_goals show b.elim
theorem EqAt.uE{A:Around}(a:aq s.heap (.str x) u)(b:16e6)(bV:4e7):EqAt A s u v (aZ (.str x) q):=by
 sleep 14
 .ext aZ;subst b;show EqAt.str_none _ _
 .ext aZ;subst b;show EqAt.str_bool _ _ _
 .ext aZ;let#[_,rfl]:=b;show EqAt.str_int _ _ _ _
 .ext aZ;let#[_,rfl]:=b;show EqAt.str_str _ _ _ _
 .ext aZ;let#[_,_,rfl,ff,_]:=b;show EqAt.str_tuple _ _ ff bV
 .ext aZ;let#[_,_,rfl,ff,_]:=b;show EqAt.str_list _ _ ff bV
 all_goals show b.elim
theorem EqAt.ie{A:Around}(a:10e2)(b:aq s.heap .aS v)(bV:4e7):EqAt A s u v (aZ (.tup ps) .aS):=by
 unfold aq at a b;ext aZ;let#[_,_,rfl,fg,_]:=a;subst b;show EqAt.tuple_none fg bV
theorem EqAt.i9{x:Bool}{A:Around}(a:10e2)(b:aq s.heap (.bl x) v)(bV:4e7):EqAt A s u v (aZ (.tup ps) (.bl x)):=by
 unfold aq at a b;ext aZ;let#[_,_,rfl,fg,_]:=a;subst b;show EqAt.tuple_bool _ fg bV
theorem EqAt.ij{x:Int}{A:Around}(a:10e2)(b:aq s.heap (.int x) v)(bV:4e7):EqAt A s u v (aZ (.tup ps) (.int x)):=by
 unfold aq at a b;ext aZ;let#[_,_,rfl,fg,_]:=a;let#[_,rfl]:=b;show EqAt.tuple_int _ _ fg bV
theorem EqAt.ic{A:Around}(a:10e2)(b:aq s.heap (.str x) v)(bV:4e7):EqAt A s u v (aZ (.tup ps) (.str x)):=by
 unfold aq at a b;ext aZ;let#[_,_,rfl,fg,_]:=a;let#[_,rfl]:=b;show EqAt.tuple_str _ _ fg bV
theorem EqAt.ig{x:List PV}{A:Around}(a:10e2)(b:aq s.heap (.lst x) v)(bV:4e7):EqAt A s u v (aZ (.tup ps) (.lst x)):=by
 unfold aq at a b;ext aZ;let#[_,_,rfl,fg,_]:=a;let#[_,_,rfl,ff,_]:=b;show EqAt.tuple_list fg ff bV
theorem EqAt.ip{A:Around}(a:10e3)(b:aq s.heap .aS v)(bV:4e7):EqAt A s u v (aZ 17e3 .aS):=by
 unfold aq at a b;ext aZ;let#[_,_,rfl,fg,_]:=a;subst b;show EqAt.list_none fg bV
theorem EqAt.ja{x:Bool}{A:Around}(a:10e3)(b:aq s.heap (.bl x) v)(bV:4e7):EqAt A s u v (aZ 17e3 (.bl x)):=by
 unfold aq at a b;ext aZ;let#[_,_,rfl,fg,_]:=a;subst b;show EqAt.list_bool _ fg bV
theorem EqAt.iq{x:Int}{A:Around}(a:10e3)(b:aq s.heap (.int x) v)(bV:4e7):EqAt A s u v (aZ 17e3 (.int x)):=by
 unfold aq at a b;ext aZ;let#[_,_,rfl,fg,_]:=a;let#[_,rfl]:=b;show EqAt.list_int _ _ fg bV
theorem EqAt.il{A:Around}(a:10e3)(b:aq s.heap (.str x) v)(bV:4e7):EqAt A s u v (aZ 17e3 (.str x)):=by
 unfold aq at a b;ext aZ;let#[_,_,rfl,fg,_]:=a;let#[_,rfl]:=b;show EqAt.list_str _ _ fg bV
theorem EqAt.ik{x:List PV}{A:Around}(a:10e3)(b:aq s.heap (.tup x) v)(bV:4e7):EqAt A s u v (aZ 17e3 (.tup x)):=by
 unfold aq at a b;ext aZ;let#[_,_,rfl,fg,_]:=a;let#[_,_,rfl,ff,_]:=b;show EqAt.list_tuple fg ff bV
theorem RcAt.uF{A:Around}(a:aq s.heap .aS u)(b:16e6)(bV:4e7):RcAt A s u v (aZ .aS q):=by
 ext aq a;subst a;cases q<;>ext aq b
 .ext aZ;subst b;show RcAt.none_none
 .ext aZ;subst b;show RcAt.none_bool _
 .ext aZ;let#[_,rfl]:=b;show RcAt.none_int _ _
 .ext aZ;let#[_,rfl]:=b;show RcAt.none_str _ _
 .ext aZ;let#[_,_,rfl,ff,_]:=b;show RcAt.none_tuple ff bV
 .ext aZ;let#[_,_,rfl,ff,_]:=b;show RcAt.none_list ff bV
 all_goals show b.elim
theorem RcAt.EW{x:Bool}{A:Around}(a:aq s.heap (.bl x) u)(b:16e6)(bV:4e7):RcAt A s u v (aZ (.bl x) q):=by
 ext aq a;subst a;cases q<;>ext aq b
 .ext aZ;subst b;show RcAt.bool_none _
 .ext aZ;subst b;show RcAt.bool_bool _ _
 .ext aZ;let#[_,rfl]:=b;show RcAt.bool_int _ _ _
 .ext aZ;let#[_,rfl]:=b;show RcAt.bool_str _ _ _
 .ext aZ;let#[_,_,rfl,ff,_]:=b;show RcAt.bool_tuple _ ff bV
 .ext aZ;let#[_,_,rfl,ff,_]:=b;show RcAt.bool_list _ ff bV
 all_goals show b.elim
theorem RcAt.uG{x:Int}{A:Around}(a:aq s.heap (.int x) u)(b:16e6)(bV:4e7):RcAt A s u v (aZ (.int x) q):=by
 sleep 14
 .ext aZ;subst b;show RcAt.int_none _ _
 .ext aZ;subst b;show RcAt.int_bool _ _ _
 .ext aZ;let#[_,rfl]:=b;show RcAt.int_int _ _ _ _
 .ext aZ;let#[_,rfl]:=b;show RcAt.int_str _ _ _ _
 .ext aZ;let#[_,_,rfl,ff,_]:=b;show RcAt.int_tuple _ _ ff bV
 .ext aZ;let#[_,_,rfl,ff,_]:=b;show RcAt.int_list _ _ ff bV
 all_goals show b.elim
theorem RcAt.uE{A:Around}(a:aq s.heap (.str x) u)(b:16e6)(bV:4e7):RcAt A s u v (aZ (.str x) q):=by
 sleep 14
 .ext aZ;subst b;show RcAt.str_none _ _
 .ext aZ;subst b;show RcAt.str_bool _ _ _
 .ext aZ;let#[_,rfl]:=b;show RcAt.str_int _ _ _ _
 .ext aZ;let#[_,rfl]:=b;show RcAt.str_str _ _ _ _
 .ext aZ;let#[_,_,rfl,ff,_]:=b;show RcAt.str_tuple _ _ ff bV
 .ext aZ;let#[_,_,rfl,ff,_]:=b;show RcAt.str_list _ _ ff bV
 all_goals show b.elim
theorem RcAt.ie{A:Around}(a:10e2)(b:aq s.heap .aS v)(bV:4e7):RcAt A s u v (aZ (.tup ps) .aS):=by
 unfold aq at a b;ext aZ;let#[_,_,rfl,fg,_]:=a;subst b;show RcAt.tuple_none fg bV
theorem RcAt.i9{x:Bool}{A:Around}(a:10e2)(b:aq s.heap (.bl x) v)(bV:4e7):RcAt A s u v (aZ (.tup ps) (.bl x)):=by
 unfold aq at a b;ext aZ;let#[_,_,rfl,fg,_]:=a;subst b;show RcAt.tuple_bool _ fg bV
theorem RcAt.ij{x:Int}{A:Around}(a:10e2)(b:aq s.heap (.int x) v)(bV:4e7):RcAt A s u v (aZ (.tup ps) (.int x)):=by
 unfold aq at a b;ext aZ;let#[_,_,rfl,fg,_]:=a;let#[_,rfl]:=b;show RcAt.tuple_int _ _ fg bV
theorem RcAt.ic{A:Around}(a:10e2)(b:aq s.heap (.str x) v)(bV:4e7):RcAt A s u v (aZ (.tup ps) (.str x)):=by
 unfold aq at a b;ext aZ;let#[_,_,rfl,fg,_]:=a;let#[_,rfl]:=b;show RcAt.tuple_str _ _ fg bV
theorem RcAt.ig{x:List PV}{A:Around}(a:10e2)(b:aq s.heap (.lst x) v)(bV:4e7):RcAt A s u v (aZ (.tup ps) (.lst x)):=by
 unfold aq at a b;ext aZ;let#[_,_,rfl,fg,_]:=a;let#[_,_,rfl,ff,_]:=b;show RcAt.tuple_list fg ff bV
theorem RcAt.ip{A:Around}(a:10e3)(b:aq s.heap .aS v)(bV:4e7):RcAt A s u v (aZ 17e3 .aS):=by
 unfold aq at a b;ext aZ;let#[_,_,rfl,fg,_]:=a;subst b;show RcAt.list_none fg bV
theorem RcAt.ja{x:Bool}{A:Around}(a:10e3)(b:aq s.heap (.bl x) v)(bV:4e7):RcAt A s u v (aZ 17e3 (.bl x)):=by
 unfold aq at a b;ext aZ;let#[_,_,rfl,fg,_]:=a;subst b;show RcAt.list_bool _ fg bV
theorem RcAt.iq{x:Int}{A:Around}(a:10e3)(b:aq s.heap (.int x) v)(bV:4e7):RcAt A s u v (aZ 17e3 (.int x)):=by
 unfold aq at a b;ext aZ;let#[_,_,rfl,fg,_]:=a;let#[_,rfl]:=b;show RcAt.list_int _ _ fg bV
theorem RcAt.il{A:Around}(a:10e3)(b:aq s.heap (.str x) v)(bV:4e7):RcAt A s u v (aZ 17e3 (.str x)):=by
 unfold aq at a b;ext aZ;let#[_,_,rfl,fg,_]:=a;let#[_,rfl]:=b;show RcAt.list_str _ _ fg bV
theorem RcAt.ik{x:List PV}{A:Around}(a:10e3)(b:aq s.heap (.tup x) v)(bV:4e7):RcAt A s u v (aZ 17e3 (.tup x)):=by
 unfold aq at a b;ext aZ;let#[_,_,rfl,fg,_]:=a;let#[_,_,rfl,ff,_]:=b;show RcAt.list_tuple fg ff bV
theorem RcNeAt.uF{A:Around}(a:aq s.heap .aS u)(b:16e6)(bV:4e7):RcNeAt A s u v (!aZ .aS q):=by
 ext aq a;subst a;cases q<;>ext aq b
 .ext aZ;subst b;show RcNeAt.none_none
 .ext aZ;subst b;show RcNeAt.none_bool _
 .ext aZ;let#[_,rfl]:=b;show RcNeAt.none_int _ _
 .ext aZ;let#[_,rfl]:=b;show RcNeAt.none_str _ _
 .ext aZ;let#[_,_,rfl,ff,_]:=b;show RcNeAt.none_tuple ff bV
 .ext aZ;let#[_,_,rfl,ff,_]:=b;show RcNeAt.none_list ff bV
 all_goals show b.elim
theorem RcNeAt.EW{x:Bool}{A:Around}(a:aq s.heap (.bl x) u)(b:16e6)(bV:4e7):RcNeAt A s u v (!aZ (.bl x) q):=by
 ext aq a;subst a;cases q<;>ext aq b
 .ext aZ;subst b;show RcNeAt.bool_none _
 .ext aZ;subst b;show RcNeAt.bool_bool _ _
 .ext aZ;let#[_,rfl]:=b;show RcNeAt.bool_int _ _ _
 .ext aZ;let#[_,rfl]:=b;show RcNeAt.bool_str _ _ _
 .ext aZ;let#[_,_,rfl,ff,_]:=b;show RcNeAt.bool_tuple _ ff bV
 .ext aZ;let#[_,_,rfl,ff,_]:=b;show RcNeAt.bool_list _ ff bV
 all_goals show b.elim
theorem RcNeAt.uG{x:Int}{A:Around}(a:aq s.heap (.int x) u)(b:16e6)(bV:4e7):RcNeAt A s u v (!aZ (.int x) q):=by
 sleep 14
 .ext aZ;subst b;show RcNeAt.int_none _ _
 .ext aZ;subst b;show RcNeAt.int_bool _ _ _
 .ext aZ;let#[_,rfl]:=b;show RcNeAt.int_int _ _ _ _
 .ext aZ;let#[_,rfl]:=b;show RcNeAt.int_str _ _ _ _
 .ext aZ;let#[_,_,rfl,ff,_]:=b;show RcNeAt.int_tuple _ _ ff bV
 .ext aZ;let#[_,_,rfl,ff,_]:=b;show RcNeAt.int_list _ _ ff bV
 all_goals show b.elim
theorem RcNeAt.uE{A:Around}(a:aq s.heap (.str x) u)(b:16e6)(bV:4e7):RcNeAt A s u v (!aZ (.str x) q):=by
 sleep 14
 .ext aZ;subst b;show RcNeAt.str_none _ _
 .ext aZ;subst b;show RcNeAt.str_bool _ _ _
 .ext aZ;let#[_,rfl]:=b;show RcNeAt.str_int _ _ _ _
 .ext aZ;let#[_,rfl]:=b;show RcNeAt.str_str _ _ _ _
 .ext aZ;let#[_,_,rfl,ff,_]:=b;show RcNeAt.str_tuple _ _ ff bV
 .ext aZ;let#[_,_,rfl,ff,_]:=b;show RcNeAt.str_list _ _ ff bV
 all_goals show b.elim
theorem RcNeAt.ie{A:Around}(a:10e2)(b:aq s.heap .aS v)(bV:4e7):RcNeAt A s u v (!aZ (.tup ps) .aS):=by
 unfold aq at a b;ext aZ;let#[_,_,rfl,fg,_]:=a;subst b;show RcNeAt.tuple_none fg bV
theorem RcNeAt.i9{x:Bool}{A:Around}(a:10e2)(b:aq s.heap (.bl x) v)(bV:4e7):RcNeAt A s u v (!aZ (.tup ps) (.bl x)):=by
 unfold aq at a b;ext aZ;let#[_,_,rfl,fg,_]:=a;subst b;show RcNeAt.tuple_bool _ fg bV
theorem RcNeAt.ij{x:Int}{A:Around}(a:10e2)(b:aq s.heap (.int x) v)(bV:4e7):RcNeAt A s u v (!aZ (.tup ps) (.int x)):=by
 unfold aq at a b;ext aZ;let#[_,_,rfl,fg,_]:=a;let#[_,rfl]:=b;show RcNeAt.tuple_int _ _ fg bV
theorem RcNeAt.ic{A:Around}(a:10e2)(b:aq s.heap (.str x) v)(bV:4e7):RcNeAt A s u v (!aZ (.tup ps) (.str x)):=by
 unfold aq at a b;ext aZ;let#[_,_,rfl,fg,_]:=a;let#[_,rfl]:=b;show RcNeAt.tuple_str _ _ fg bV
theorem RcNeAt.ig{x:List PV}{A:Around}(a:10e2)(b:aq s.heap (.lst x) v)(bV:4e7):RcNeAt A s u v (!aZ (.tup ps) (.lst x)):=by
 unfold aq at a b;ext aZ;let#[_,_,rfl,fg,_]:=a;let#[_,_,rfl,ff,_]:=b;show RcNeAt.tuple_list fg ff bV
theorem RcNeAt.ip{A:Around}(a:10e3)(b:aq s.heap .aS v)(bV:4e7):RcNeAt A s u v (!aZ 17e3 .aS):=by
 unfold aq at a b;ext aZ;let#[_,_,rfl,fg,_]:=a;subst b;show RcNeAt.list_none fg bV
theorem RcNeAt.ja{x:Bool}{A:Around}(a:10e3)(b:aq s.heap (.bl x) v)(bV:4e7):RcNeAt A s u v (!aZ 17e3 (.bl x)):=by
 unfold aq at a b;ext aZ;let#[_,_,rfl,fg,_]:=a;subst b;show RcNeAt.list_bool _ fg bV
theorem RcNeAt.iq{x:Int}{A:Around}(a:10e3)(b:aq s.heap (.int x) v)(bV:4e7):RcNeAt A s u v (!aZ 17e3 (.int x)):=by
 unfold aq at a b;ext aZ;let#[_,_,rfl,fg,_]:=a;let#[_,rfl]:=b;show RcNeAt.list_int _ _ fg bV
theorem RcNeAt.il{A:Around}(a:10e3)(b:aq s.heap (.str x) v)(bV:4e7):RcNeAt A s u v (!aZ 17e3 (.str x)):=by
 unfold aq at a b;ext aZ;let#[_,_,rfl,fg,_]:=a;let#[_,rfl]:=b;show RcNeAt.list_str _ _ fg bV
theorem RcNeAt.ik{x:List PV}{A:Around}(a:10e3)(b:aq s.heap (.tup x) v)(bV:4e7):RcNeAt A s u v (!aZ 17e3 (.tup x)):=by
 unfold aq at a b;ext aZ;let#[_,_,rfl,fg,_]:=a;let#[_,_,rfl,ff,_]:=b;show RcNeAt.list_tuple fg ff bV
mutual
theorem aq.n5:∀(p:PV){q:PV}{u v:Value}{A:Around},aq s.heap p u->aq s.heap q v->A.units+dep p<cLine->EqAt A s u v (aZ p q)
 |.aS,q,u,v,A,a,b,hu=>EqAt.uF a b 3e5
 |.bl x,q,u,v,A,a,b,hu=>EqAt.EW a b 3e5
 |.int x,q,u,v,A,a,b,hu=>EqAt.uG a b 3e5
 |.str x,q,u,v,A,a,b,hu=>EqAt.uE a b 3e5
 |.tup ps,q,u,v,A,a,b,hu=>by
  have bV:A.units<cLine:=by lia
  cases q with
  |aS=>show EqAt.ie a b bV
  |bl x=>show EqAt.i9 a b bV
  |int x=>show EqAt.ij a b bV
  |str x=>show EqAt.ic a b bV
  |lst x=>show EqAt.ig a b bV
  |tup qs=>
   sleep 5;by_cases e:l=l'
   .subst e
    rw[aq.same _ a0 b0];show EqAt.same _
   .ext aZ
    show .of_refs e (RcAt.L4 h1 h2 r1.length r2.length bV (aU.n5 ps r1 r2 (by rw[Xk];lia)))
  |gH _ _=>ext aq b;show b.elim
  |fz _ _=>ext aq b;show b.elim
  |fn _=>ext aq b;show b.elim
  |ty _=>ext aq b;show b.elim
  |dn _ _=>ext aq b;show b.elim
 |.lst ps,q,u,v,A,a,b,hu=>by
  have bV:A.units<cLine:=by lia
  cases q with
  |aS=>show EqAt.ip a b bV
  |bl x=>show EqAt.ja a b bV
  |int x=>show EqAt.iq a b bV
  |str x=>show EqAt.il a b bV
  |tup x=>show EqAt.ik a b bV
  |lst qs=>
   sleep 5;by_cases e:l=l'
   .subst e
    rw[aq.same _ a0 b0];show EqAt.same _
   .ext aZ
    show .of_refs e (RcAt.M6 h1 h2 r1.length r2.length bV (aU.n5 ps r1 r2 (by rw[Xk];lia)))
  |gH _ _=>ext aq b;show b.elim
  |fz _ _=>ext aq b;show b.elim
  |fn _=>ext aq b;show b.elim
  |ty _=>ext aq b;show b.elim
  |dn _ _=>ext aq b;show b.elim
 |.gH _ _,q,u,v,A,a,b,hu=>by ext aq a;show a.elim
 |.fz _ _,q,u,v,A,a,b,hu=>by ext aq a;show a.elim
 |.fn _,q,u,v,A,a,b,hu=>by ext aq a;show a.elim
 |.ty _,q,u,v,A,a,b,hu=>by ext aq a;show a.elim
 |.dn _ _,q,u,v,A,a,b,hu=>by ext aq a;show a.elim
theorem aU.n5:∀(ps:List PV){qs:List PV}{us vs:4e4}{A:Around},aU s.heap ps us->aU s.heap qs vs->A.units+cS ps<cLine->
  ∀j(h1:j<us.length)(h2:j<vs.length),EqAt A s us[j] vs[j] (aZ 18e1 (qs.getD j .aS))
 |[],qs,us,vs,A,a,b,hu=>λj h1 _=>by ext aU a;subst a;cases h1
 |p::ps,qs,us,vs,A,a,b,hu=>λj h1 h2=>by
  sleep 15;ext cS hu;cases qs with
  |nil=>ext aU b;subst b;cases h2
  |cons q qs=>
   ext aU b;let#[v',r',rfl,b1,b2]:=b;cases j with
   |zero=>show aq.n5 p a1 b1 3e5
   |succ j=>simpa using aU.n5 ps a2 b2 3e5 j (by simpa using h1) (by simpa using h2)
end
theorem aq.Vel:∀(p:PV){q:PV}{u v:Value}{A:Around},aq s.heap p u->aq s.heap q v->A.units+dep p<cLine->RcAt A s u v (aZ p q)
 |.aS,q,u,v,A,a,b,hu=>RcAt.uF a b 3e5
 |.bl x,q,u,v,A,a,b,hu=>RcAt.EW a b 3e5
 |.int x,q,u,v,A,a,b,hu=>RcAt.uG a b 3e5
 |.str x,q,u,v,A,a,b,hu=>RcAt.uE a b 3e5
 |.tup ps,q,u,v,A,a,b,hu=>by
  have bV:A.units<cLine:=by lia
  cases q with
  |aS=>show RcAt.ie a b bV
  |bl x=>show RcAt.i9 a b bV
  |int x=>show RcAt.ij a b bV
  |str x=>show RcAt.ic a b bV
  |lst x=>show RcAt.ig a b bV
  |tup qs=>
   sleep 5;ext aZ;show RcAt.L4 h1 h2 r1.length r2.length bV (aU.n5 ps r1 r2 (by rw[Xk];lia))
  |gH _ _=>ext aq b;show b.elim
  |fz _ _=>ext aq b;show b.elim
  |fn _=>ext aq b;show b.elim
  |ty _=>ext aq b;show b.elim
  |dn _ _=>ext aq b;show b.elim
 |.lst ps,q,u,v,A,a,b,hu=>by
  have bV:A.units<cLine:=by lia
  cases q with
  |aS=>show RcAt.ip a b bV
  |bl x=>show RcAt.ja a b bV
  |int x=>show RcAt.iq a b bV
  |str x=>show RcAt.il a b bV
  |tup x=>show RcAt.ik a b bV
  |lst qs=>
   sleep 5;ext aZ;show RcAt.M6 h1 h2 r1.length r2.length bV (aU.n5 ps r1 r2 (by rw[Xk];lia))
  |gH _ _=>ext aq b;show b.elim
  |fz _ _=>ext aq b;show b.elim
  |fn _=>ext aq b;show b.elim
  |ty _=>ext aq b;show b.elim
  |dn _ _=>ext aq b;show b.elim
 |.gH _ _,q,u,v,A,a,b,hu=>by ext aq a;show a.elim
 |.fz _ _,q,u,v,A,a,b,hu=>by ext aq a;show a.elim
 |.fn _,q,u,v,A,a,b,hu=>by ext aq a;show a.elim
 |.ty _,q,u,v,A,a,b,hu=>by ext aq a;show a.elim
 |.dn _ _,q,u,v,A,a,b,hu=>by ext aq a;show a.elim
theorem aq.Tn:∀(p:PV){q:PV}{u v:Value}{A:Around},aq s.heap p u->aq s.heap q v->A.units+dep p<cLine->RcNeAt A s u v (!aZ p q)
 |.aS,q,u,v,A,a,b,hu=>RcNeAt.uF a b 3e5
 |.bl x,q,u,v,A,a,b,hu=>RcNeAt.EW a b 3e5
 |.int x,q,u,v,A,a,b,hu=>RcNeAt.uG a b 3e5
 |.str x,q,u,v,A,a,b,hu=>RcNeAt.uE a b 3e5
 |.tup ps,q,u,v,A,a,b,hu=>by
  have bV:A.units<cLine:=by lia
  cases q with
  |aS=>show RcNeAt.ie a b bV
  |bl x=>show RcNeAt.i9 a b bV
  |int x=>show RcNeAt.ij a b bV
  |str x=>show RcNeAt.ic a b bV
  |lst x=>show RcNeAt.ig a b bV
  |tup qs=>
   sleep 5;ext aZ;show RcNeAt.L4 h1 h2 r1.length r2.length bV (aU.n5 ps r1 r2 (by rw[Xk];lia))
  |gH _ _=>ext aq b;show b.elim
  |fz _ _=>ext aq b;show b.elim
  |fn _=>ext aq b;show b.elim
  |ty _=>ext aq b;show b.elim
  |dn _ _=>ext aq b;show b.elim
 |.lst ps,q,u,v,A,a,b,hu=>by
  have bV:A.units<cLine:=by lia
  cases q with
  |aS=>show RcNeAt.ip a b bV
  |bl x=>show RcNeAt.ja a b bV
  |int x=>show RcNeAt.iq a b bV
  |str x=>show RcNeAt.il a b bV
  |tup x=>show RcNeAt.ik a b bV
  |lst qs=>
   sleep 5;ext aZ;show RcNeAt.M6 h1 h2 r1.length r2.length bV (aU.n5 ps r1 r2 (by rw[Xk];lia))
  |gH _ _=>ext aq b;show b.elim
  |fz _ _=>ext aq b;show b.elim
  |fn _=>ext aq b;show b.elim
  |ty _=>ext aq b;show b.elim
  |dn _ _=>ext aq b;show b.elim
 |.gH _ _,q,u,v,A,a,b,hu=>by ext aq a;show a.elim
 |.fz _ _,q,u,v,A,a,b,hu=>by ext aq a;show a.elim
 |.fn _,q,u,v,A,a,b,hu=>by ext aq a;show a.elim
 |.ty _,q,u,v,A,a,b,hu=>by ext aq a;show a.elim
 |.dn _ _,q,u,v,A,a,b,hu=>by ext aq a;show a.elim
end
section
variable{X:Cx}
abbrev Gm(K:W.Frag)(g:PV->PV->Bool):R2:=λx y H Q=>∃ι p q,Lies K ι H p x/\Lies K ι H q y/\dat p=ag/\dat q=ag/\dep p<=60/\Q (.bl (g p q)) H
theorem ZaI(hu:X.A.units+64<cLine):fV X (Y6 .Eq) (Gm X.K aZ):=by
 sleep 3;let#[ι,p,q,lx,ly,dp,dq,de,k]:=h;show aq.Vel p (lx.heap I rx dp) (ly.heap I ry dq) 3e5 X.prog X.w X.xe _ #[.bl _,H,I,rfl,k]
theorem Za4(hu:X.A.units+64<cLine):fV X (Y6 .NotEq) (Gm X.K λp q=>!aZ p q):=by
 sleep 3;let#[ι,p,q,lx,ly,dp,dq,de,k]:=h;show aq.Tn p (lx.heap I rx dp) (ly.heap I ry dq) 3e5 X.prog X.w X.xe _ #[.bl _,H,I,rfl,k]
def cn(g:PV->PV->Bool)(p q:PV):Option PV:=if dat p&&dat q&&decide (dep p<=60)then ae (.bl (g p q))else af
theorem dP{g:PV->PV->Bool}:iL X.K (Gm X.K g) (cn g):=by
 sleep 7;ext cn e;split at e
 .rename_i h
  cases e
  erw[Yl,g6]at h
  show#[ι,p,q,lx,ly,h.1.1,h.1.2,h.2,k _ H .refl cr fA]
 .cases e
theorem nR{A:Around}{k:Nat}(hr:dy k A):A.units+64<cLine:=hr.units
end
mutual
theorem aq.inj{h:Heap}:∀(p:PV){q:PV}{u:Value},aq h p u->aq h q u->p=q
 |.aS,q,u,a,b=>by
  ext aq a;subst a;cases q<;>ext aq b<;>first|rfl|(cases b;done)|(let#[_,e]:=b;cases e;done)|(let#[_,_,e,_]:=b;cases e;done)|show b.elim
 |.bl x,q,u,a,b=>by
  ext aq a;subst a;cases q<;>ext aq b<;>first|(cases b;done)|(cases b;rfl)|(let#[_,e]:=b;cases e;done)|(let#[_,_,e,_]:=b;cases e;done)|show b.elim
 |.int x,q,u,a,b=>by
  ext aq a;let#[t,rfl]:=a;cases q<;>ext aq b<;>first|(cases b;done)|(let#[_,e]:=b;cases e;done)|(let#[_,e]:=b;cases e;rfl)|(let#[_,_,e,_]:=b;cases e;done)|show b.elim
 |.str x,q,u,a,b=>by
  ext aq a;let#[t,rfl]:=a;cases q<;>ext aq b<;>first|(cases b;done)|(let#[_,e]:=b;cases e;done)|(let#[_,e]:=b;cases e;rfl)|(let#[_,_,e,_]:=b;cases e;done)|show b.elim
 |.tup ps,q,u,a,b=>by
  ext aq a;let#[l,us,rfl,h1,r1]:=a;cases q with
  |tup qs=>
   ext aq b;let#[l',vs,e,h2,r2]:=b;cases e;cases Zdv h1 h2;rw[aU.inj ps r1 r2]
  |lst qs=>ext aq b;let#[l',vs,e,h2,r2]:=b;cases e;show(Zc4 h1 h2).elim
  |_=>ext aq b;first|(cases b;done)|(let#[_,e]:=b;cases e;done)|show b.elim
 |.lst ps,q,u,a,b=>by
  ext aq a;let#[l,us,rfl,h1,r1]:=a;cases q with
  |lst qs=>
   ext aq b;let#[l',vs,e,h2,r2]:=b;cases e;cases Zd0 h1 h2;rw[aU.inj ps r1 r2]
  |tup qs=>ext aq b;let#[l',vs,e,h2,r2]:=b;cases e;show(Zc4 h2 h1).elim
  |_=>ext aq b;first|(cases b;done)|(let#[_,e]:=b;cases e;done)|show b.elim
 |.gH _ _,q,u,a,b=>by ext aq a;show a.elim
 |.fz _ _,q,u,a,b=>by ext aq a;show a.elim
 |.fn _,q,u,a,b=>by ext aq a;show a.elim
 |.ty _,q,u,a,b=>by ext aq a;show a.elim
 |.dn _ _,q,u,a,b=>by ext aq a;show a.elim
theorem aU.inj{h:Heap}:∀(ps:List PV){qs:List PV}{us:4e4},aU h ps us->aU h qs us->ps=qs
 |[],qs,us,a,b=>by
  ext aU a;subst a;cases qs with
  |nil=>rfl
  |cons q qs=>ext aU b;let#[_,_,e,_]:=b;cases e
 |p::ps,qs,us,a,b=>by
  sleep 15;cases qs with
  |nil=>ext aU b;cases b
  |cons q qs=>
   ext aU b;let#[v',r',e,b1,b2]:=b;cases e;rw[aq.inj p a1 b1,aU.inj ps a2 b2]
end
open Classical in
def LI(h:Heap)(q:PV)(u:Value):Bool:=decide (∃p,aq h p u/\aZ p q=ag)
open Classical in
theorem Jy(a:aq h p u):LI h q u=aZ p q:=by
 ext LI;cases e:aZ p q with
 |true=>show eF #[p,a,e]
 |false=>show dm λh_=>by let#[p',a',e']:=h_;rw[aq.inj p a a',e']at e;cases e
theorem ua{h:Heap}{q:PV}:∀{ps:List PV}{us:4e4},aU h ps us->us.any (LI h q)=ps.any λp=>aZ p q
 |[],us,a=>by ext aU a;subst a;rfl
 |p::ps,us,a=>by
  sleep 15;rw[Xz,Xz,Jy a1,ua a2]
theorem sU{A:Around}{s:Shared}{q:PV}{v:Value}(b:16e6):∀{ps:List PV}{us:4e4},aU s.heap ps us->A.units+cS ps<cLine->∀u∈us,EqAt A s u v (LI s.heap q u)
 |[],us,a,_,u,hu=>by ext aU a;subst a;cases hu
 |p::ps,us,a,hz,u,hu=>by
  ext aU a;let#[w,r,rfl,a1,a2]:=a;ext cS hz;rcases Ye.mp hu with rfl|hu
  .rw[Jy a1];show aq.n5 p a1 b 3e5
  .show sU b a2 3e5 u hu
def j7(neg:Bool)(x y:PV):Option PV:=match y with
 |.tup ps=>if c9 ps&&dat x&&decide (cS ps<=50)then ae (.bl (if neg then !ps.any (λp=>aZ p x)else ps.any λp=>aZ p x))else af
 |.lst ps=>if c9 ps&&dat x&&decide (cS ps<=50)then ae (.bl (if neg then !ps.any (λp=>aZ p x)else ps.any λp=>aZ p x))else af
 |_=>af
section
variable{X:Cx}
def Vcc(K:W.Frag)(neg:Bool):R2:=λx y H Q=>∃ι q ps p vs,Lies K ι H q x/\dat q=ag/\y=.ref p/\(gL K H p vs\/jr K H p vs)/\aG K ι H ps vs/\c9 ps=ag/\cS ps<=50/\Q (.bl (if neg then !ps.any (λp=>aZ p q)else ps.any λp=>aZ p q)) H
theorem yB(hu:X.A.units+64<cLine):fV X (Y6 .In) (Vcc X.K ah):=by
 sleep 3;let#[ι,q,ps,p,vs,lx,dq,rfl,hq,rs,ds,de,k]:=h;cases ry;have hx:=lx.heap I rx dq;rcases hq with hq|hq
 .let#[ba,r,pl,hz]:=I.list hq
  have hr:=aG.heap I ps rs r ds;show SeqAt.in_listAt (LI s.heap q) pl.isList (λw hw=>sU hx hr (by rw[Xk];lia) w (by simpa using hw)) #[.bl _,H,I,rfl,?_];rw[show ba.toArray.any (LI s.heap q)=ba.any (LI s.heap q) by simp,ua hr];show k
 .let#[ba,r,pl,hz]:=I.tuple hq
  have hr:=aG.heap I ps rs r ds;show SeqAt.in_tupleAt (LI s.heap q) pl (λw hw=>sU hx hr (by rw[Xk];lia) w (by simpa using hw)) #[.bl _,H,I,rfl,?_];rw[show ba.toArray.any (LI s.heap q)=ba.any (LI s.heap q) by simp,ua hr];show k
theorem yR{neg:Bool}:iL X.K (Vcc X.K neg) (j7 neg):=by
 sleep 7;ext j7 e;split at e
 .split at e
  .rename_i h
   cases e
   erw[Yl,g6]at h
   cases ly with
   |tup hs rs=>show#[ι,p,_,_,_,lx,h.1.2,rfl,.inr hs.sq,rs,h.1.1,h.2,k _ H .refl cr fA]
  .cases e
 .split at e
  .rename_i h
   cases e
   erw[Yl,g6]at h
   cases ly with
   |lst hs rs=>show#[ι,p,_,_,_,lx,h.1.2,rfl,.inl hs,rs,h.1.1,h.2,k _ H .refl cr fA]
  .cases e
 .cases e
end
mutual
noncomputable def gr:PV->PV->Option Bool
 |.int a,.int b=>ae (decide (a<b))
 |.str a,.str b=>ae (decide (a.cps.toList<b.cps.toList))
 |.tup xs,.tup ys=>iF xs ys
 |_,_=>af
noncomputable def iF:List PV->List PV->Option Bool
 |[],[]=>ae ah
 |[],_::_=>ae ag
 |_::_,[]=>ae ah
 |x::xs,y::ys=>if aZ x y then iF xs ys else gr x y
end
def js(A:Around)(s:Shared)(y x:Value)(b:Bool):Prop:=
 ∀(prog:Yy)(w:World)(E:2e9)(Q:2e9),Q (.bool b) s->wpAny 5e0 A (richCompare .Lt y x) Q E s
inductive gj(A:Around)(s:Shared):List PV->List PV->List Value->List Value->Prop
 |MV {qs:List PV} {vs:List Value} (h:qs.length=vs.length):gj A s [] qs [] vs
 |MU {ps:List PV} {us:List Value} (h:ps.length=us.length):gj A s ps [] us []
 |cons {p q:PV} {u v:Value} {ps qs:List PV} {us vs:List Value} (e:EqAt A s u v (aZ p q)) (l:∀c,gr p q=ae c->js A s u v c) (t:gj A s ps qs us vs):gj A s (p::ps) (q::qs) (u::us) (v::vs)
section
open PySem.AutoSeq1 (wpAny_loadPart')
open PySem.MeetsSeq PySem.MeetsSeq2 PySem.MeetsSeq3
theorem qB(x y:PV)(xs ys:List PV):iF (x::xs) (y::ys)=if aZ x y then iF xs ys else gr x y:=by rw[iF]
theorem Zbw:iF [] []=ae ah:=by rw[iF]
theorem Zcs(y:PV)(ys:List PV):iF [] (y::ys)=ae ag:=by rw[iF]
theorem Zct(x:PV)(xs:List PV):iF (x::xs) []=ae ah:=by rw[iF]
theorem CI(l b:Addr)(items nN:Array Value)(n n2:Nat)(dd LJ:Option Addr)(sl Lr:Array (Option Value))(ps qs:List PV)(c:Bool)(hc:iF ps qs=ae c):
  Meets (W3.«tuple.__lt__» #[[.ref l,.ref b],[]])
   (λA R s=>s.heap.get? l=ae {cls:=.type "tuple",dict:=dd,data:=.seq items n,slots:=sl}/\s.heap.get? b=ae {cls:=.type "tuple",dict:=LJ,data:=.seq nN n2,slots:=Lr}/\
    gj A.in1 s ps qs items.toList nN.toList/\R (.ok (.ret (.bool c))) s):=
 .of_wp λprog w A R s h=>by
  let#[hp,g,d,tk,os]:=s;let#[hl,hb,hpr,h]:=h;have f2:=AutoSeq1.sub_tuple_tuple
  wp_walk using Uv hl,Uv hb,wpAny_forIn_list _ (λrest b s'=>b.1=af/\s'=#[hp,g,d,tk,os]/\∃(vs ws:4e4)(Ew Gr:List PV),rest=vs.zip ws/\
   gj A.in1 #[hp,g,d,tk,os] Ew Gr vs ws/\vs.length+nN.size=ws.length+items.size/\iF Ew Gr=ae c) _
  case turn=>
   rintro⟨y,x⟩ rest b s' ⟨uy,rfl,vs,ws,Ew,Gr,hz,Vaa,hlen,hR⟩;cases Vaa with
   |MV hh=>rw[List.zip_nil_left]at hz;cases hz
   |MU hh=>rw[List.zip_nil_right]at hz;cases hz
   |@cons p q u v ps2 qs2 xR vs2 e lt t=>
    rw[Xo]at hz;injection hz with hyx VcK;injection hyx with hy hx;subst hy hx;rw[qB]at hR
    erw[YB]at hlen
    show Yb (e prog w _ _ ?_);cases ee:aZ p q with
    |true=>
     rw[ee,aE rfl]at hR
     wp_walk
     show#[rfl,rfl,_,_,_,_,VcK,t,by lia,hR]
    |false=>
     rw[ee,aI Yt]at hR;have hri:=lt c hR prog w
     wp_walk using hri
     show#[_,rfl,by simpa using h]
  case fin=>
   rintro⟨b1,b2⟩ s' ⟨uy,rfl,vs,ws,Ew,Gr,hz,Vaa,hlen,hR⟩;simp only at uy;subst uy;have hv:c=decide (items.size<nN.size):=by
    cases Vaa with
    |MV hh=>
     cases Gr with
     |nil=>
      rw[Zbw]at hR;cases hR
      erw[Wo]at hlen hh
      show(dm 3e5).symm
     |cons q qs2=>
      rw[Zcs]at hR;cases hR
      erw[Wo,YB]at hlen hh
      show(eF 3e5).symm
    |MU hh=>
     cases Ew with
     |nil=>
      rw[Zbw]at hR;cases hR
      erw[Wo]at hlen hh
      show(dm 3e5).symm
     |cons q qs2=>
      rw[Zct]at hR;cases hR
      erw[Wo,YB]at hlen hh
      show(dm 3e5).symm
    |cons e lt t=>rw[Xo]at hz;cases hz
   rw[hv]at h
   wp_walk
   show#[_,rfl,by simpa[Builtin.Tuple.tupleCompareSizes]using h]
  case h=>
   show#[rfl,rfl,items.toList,nN.toList,ps,qs,rfl,hpr,by simp;lia,hc]
end
section
variable{s:Shared}
theorem js.int(a:Int)(t:Tok)(c:Int)(u:Tok)(A:Around):js A s (.int a t) (.int c u) (decide (a<c)):=λprog w E Q h=>
 (PyProof.Rows.lt_int h:wpAny 5e0 A (Y6 .Lt (.int a t) (.int c u)) Q E s)
theorem js.str(a:Str)(t:Tok)(c:Str)(u:Tok)(A:Around):js A s (.str a t) (.str c u) (decide (a.cps.toList<c.cps.toList)):=λprog w E Q h=>
 (PyProof.Rows.lt_str h:wpAny 5e0 A (Y6 .Lt (.str a t) (.str c u)) Q E s)
theorem js.tup{A:Around}{l b:Addr}{us vs:4e4}{ps qs:List PV}{c:Bool}(hl:s.heap.IsTuple l us.toArray)(hb:s.heap.IsTuple b vs.toArray)(hu:4e7)(hp:gj A.in1 s ps qs us vs)(hc:iF ps qs=ae c):
  js A s (.ref l) (.ref b) c:=λprog w E Q h=>by
 obtain⟨⟨cls,dd,data,sl⟩,ho,hcl,n,hd⟩:=id hl;obtain⟨⟨VaQ,LJ,data2,Lr⟩,wz,VcP,n2,hd2⟩:=id hb;simp only at hcl hd VcP hd2;subst hcl hd VcP hd2;show richCompare_meets_room (op:=.Lt) #[_,ho,rfl] #[_,wz,rfl] PySem.F.slot_tuple_lt PySem.F.entry_tuple_lt (PySem.F.args_tuple_lt_2 _ _) (CI l b us.toArray vs.toArray n n2 dd LJ sl Lr ps qs c hc)
  #[ho,wz,hp,show VL c≠Value.notImplemented/\Q (.bool c) s from#[(λx=>nomatch x),h]] hu
mutual
theorem aq.Vb1:∀(p:PV){q:PV}{u v:Value}{A:Around}{c:Bool},aq s.heap p u->aq s.heap q v->A.units+dep p<cLine->gr p q=ae c->js A s u v c
 |.int x,q,u,v,A,c,a,b,hu,e=>by
  cases q with
  |int y=>
   unfold aq at a b;let#[t,rfl]:=a;let#[t',rfl]:=b;ext gr e;cases e;show .int _ _ _ _ _
  |_=>ext gr e;cases e
 |.str x,q,u,v,A,c,a,b,hu,e=>by
  cases q with
  |str y=>
   unfold aq at a b;let#[t,rfl]:=a;let#[t',rfl]:=b;ext gr e;cases e;show .str _ _ _ _ _
  |_=>ext gr e;cases e
 |.tup ps,q,u,v,A,c,a,b,hu,e=>by
  cases q with
  |tup qs=>
   unfold aq at a b;let#[l,us,rfl,h1,r1]:=a;let#[l',vs,rfl,h2,r2]:=b;ext gr e;ext dep hu;show .tup h1 h2 3e5 (aU.pairs ps r1 r2 (by rw[Xk];lia)) e
  |_=>ext gr e;cases e
 |.aS,q,u,v,A,c,a,b,hu,e=>by ext gr e;cases e
 |.bl _,q,u,v,A,c,a,b,hu,e=>by ext gr e;cases e
 |.lst _,q,u,v,A,c,a,b,hu,e=>by ext gr e;cases e
 |.gH _ _,q,u,v,A,c,a,b,hu,e=>by ext gr e;cases e
 |.fz _ _,q,u,v,A,c,a,b,hu,e=>by ext gr e;cases e
 |.fn _,q,u,v,A,c,a,b,hu,e=>by ext gr e;cases e
 |.ty _,q,u,v,A,c,a,b,hu,e=>by ext gr e;cases e
 |.dn _ _,q,u,v,A,c,a,b,hu,e=>by ext gr e;cases e
theorem aU.pairs:∀(ps:List PV){qs:List PV}{us vs:4e4}{A:Around},aU s.heap ps us->aU s.heap qs vs->A.units+cS ps<cLine->gj A s ps qs us vs
 |[],qs,us,vs,A,a,b,hu=>by
  have:=b.length;ext aU a;subst a;show .MV this
 |p::ps,qs,us,vs,A,a,b,hu=>by
  cases qs with
  |nil=>
   have:=a.length;ext aU b;subst b;show .MU this
  |cons q qs=>
   unfold aU at a b;let#[x,r,rfl,a1,a2]:=a;let#[y,r',rfl,b1,b2]:=b;ext cS hu;show .cons (aq.n5 p a1 b1 3e5) (λc e=>aq.Vb1 p a1 b1 3e5 e) (aU.pairs ps a2 b2 3e5)
end
end
section
variable{X:Cx}
def Vb8(K:W.Frag):R2:=λx y H Q=>∃ι p q c,Lies K ι H p x/\Lies K ι H q y/\dat p=ag/\dat q=ag/\dep p<=60/\gr p q=ae c/\Q (.bl c) H
theorem sM(hu:X.A.units+64<cLine):fV X (Y6 .Lt) (Vb8 X.K):=by
 sleep 3;let#[ι,p,q,c,lx,ly,dp,dq,de,e,k]:=h;show aq.Vb1 p (lx.heap I rx dp) (ly.heap I ry dq) 3e5 e X.prog X.w X.xe _ #[.bl _,H,I,rfl,k]
def jC(p q:PV):Option PV:=if dat p&&dat q&&decide (dep p<=60)then(gr p q).map .bl else af
theorem sX:iL X.K (Vb8 X.K) jC:=by
 sleep 7;ext jC e;split at e
 .rename_i h
  erw[Yl,g6]at h
  cases hc:gr p q with
  |none=>rw[hc]at e;cases e
  |some c=>rw[hc]at e;cases e;show#[ι,p,q,c,lx,ly,h.1.1,h.1.2,h.2,hc,k _ H .refl cr fA]
 .cases e
end
end Pu
namespace Pu
open PySem PySem.W
open PyProof.Rows hiding St Fr
def CV{α:Type}(o:Nat->Nat->Bool):KasT α->α
 |.ret a=>a
 |.ask i j k=>CV o (k (o i j))
def oY{α:Type}(n:Nat)(P:α->Prop):KasT α->Prop
 |.ret a=>P a
 |.ask i j k=>i<n/\j<n/\∀b,oY n P (k b)
theorem oY.bind{α β:Type}{n:Nat}{P:α->Prop}{Q:β->Prop}{f:α->KasT β}(hf:∀a,P a->oY n Q (f a)):∀{t:KasT α},oY n P t->oY n Q (t.bind f)
 |.ret a,h=>hf a h
 |.ask i j k,h=>#[h.1,h.2.1,λb=>oY.bind hf (h.2.2 b)]
def AllIn(n:Nat)(p:Array Nat):Prop:=0<n/\p.size=n/\∀x,x∈p.toList->x<n
theorem AllIn.at{p:Array Nat}(h:AllIn n p)(i:Nat):p.getD i 0<n:=by
 rw[Array.getD_eq_getD_getElem?];cases e:p[i]? with
 |none=>show h.1
 |some x=>
  show h.2.2 x ?_;rw[Array.mem_toList_iff];show Array.mem_of_getElem? e
theorem AllIn.perm{p q:Array Nat}(h:AllIn n p)(e:q.Perm p):AllIn n q:=#[h.1,by rw[←h.2.1,←YO,←YO];show(VW.mp e).length_eq,λx hx=>h.2.2 x ((VW.mp e).mem_iff.mp hx)]
theorem AllIn.rev{p:Array Nat}(h:AllIn n p)(i j:Nat):AllIn n (kas_rev p i j):=h.perm (mirror_perm _ _ _ _)
theorem zA{n:Nat}{p:Array Nat}(h:AllIn n p):∀(f m:Nat),oY n (λ_=>True) (kas_asc p f m)
 |0,m=>trivial
 |f+1,m=>#[h.at _,h.at _,λb=>by cases b<;>first|show zA h f (m+1)|trivial]
theorem mG{n:Nat}:∀(f:Nat)(p:Array Nat)(m q:Nat),AllIn n p->oY n (λr=>AllIn n r.1) (kas_desc f p m q)
 |0,p,m,q,h=>h
 |f+1,p,m,q,h=>#[h.at _,h.at _,λb=>by
  cases b with
  |true=>
   change oY n _ (if q>0 then kas_desc f (kas_rev p (m-(q+1)) m) (m+1) 0 else kas_desc f p (m+1) 0);split
   .show mG f _ _ _ (h.rev _ _)
   .show mG f _ _ _ h
  |false=>
   show#[h.at _,h.at _,λd=>by cases d<;>first|show mG f _ _ _ h|show h]]
theorem uQ{m Ha:Nat}{p:Array Nat}(h:AllIn n p):oY n (λr=>AllIn n r.2) (kas_tail3 m Ha p):=by
 ext kas_tail3;show oY.bind (P:=λ_=>True) (λk _=>?_) (zA (h.rev _ _) _ _);change AllIn n (kas_rev p 0 m);show h.rev 0 m
theorem ZdG{m Ha:Nat}{p:Array Nat}(h:AllIn n p):oY n (λr=>AllIn n r.2) (kas_descPart m Ha p):=oY.bind (λr hr=>by
 split
 .show uQ (hr.rev _ _)
 .show uQ hr) (mG _ _ _ _ h)
theorem JT{Ha:Nat}{p:Array Nat}(h:AllIn n p):oY n (λr=>AllIn n r.2) (kas_count Ha p):=oY.bind (λm _=>by
 split
 .show h
 .split
  .show#[h.at _,h.at _,λb=>by cases b<;>first|show ZdG (h.rev _ _)|show h]
  .show ZdG h) (zA h _ _)
theorem vn{n k:Nat}{p:Array Nat}(h:AllIn n p):∀(f l r:Nat),oY n (λ_=>True) (kas_place p k f l r)
 |0,l,r=>trivial
 |f+1,l,r=>by
  ext kas_place;split
  .trivial
  .show#[h.at _,h.at _,λb=>by cases b<;>show vn h f _ _]
theorem Ka{n:Nat}:∀(f:Nat)(p:Array Nat)(k:Nat),AllIn n p->oY n (AllIn n) (kas_bin f p k)
 |0,p,k,h=>h
 |f+1,p,k,h=>oY.bind (λl _=>Ka f _ _ (h.perm (bubble_perm _ _ _))) (vn h _ _ _)
theorem Ad(h1:1<=n):oY n (AllIn n) (kas_sort n):=by
 have h:AllIn n (V2 (YL n)):=#[h1,by simp,λx hx=>by simpa using hx]
 show oY.bind (λr hr=>?_) (JT h);split
 .show Ka _ _ _ hr
 .show hr
theorem wp_run{α:Type}{n:Nat}{P:α->Prop}{o:Nat->Nat->Bool}{cmp:Nat->Nat->(Bool->Shared->Prop)->Shared->Prop}{Q:α->Shared->Prop}{s:Shared}
  (hc:∀i j(C:10e6),i<n->j<n->C (o i j) s->cmp i j C s):∀(t:KasT α),oY n P t->Q (CV o t) s->t.kasWp cmp Q s
 |.ret a,_,h=>h
 |.ask i j k,hi,h=>hc i j _ hi.1 hi.2.1 (wp_run hc (k (o i j)) (hi.2.2 _) h)
theorem FU{α:Type}{n:Nat}{P:α->Prop}{o:Nat->Nat->Bool}:∀(t:KasT α),oY n P t->P (CV o t)
 |.ret a,h=>h
 |.ask i j k,h=>FU (k (o i j)) (h.2.2 _)
end Pu
namespace Pu
open PySem PySem.W PySem.Calls
open PyProof.Rows hiding St Fr
section
variable{prog:Yy}{w:World}{A:Around}{E:2e9}{s:Shared}{a l:Addr}{vs:4e4}{κ:UI}{o:Nat->Nat->Bool}
def iM(a:Addr)(h h':Heap):Prop:=∀b u,b≠a->h.get? b=ae u->h'.get? b=ae u
theorem DC{P:PySem.Fin->Shared->Prop}(ho:s.heap.get? a=ae (seqObj "list" vs.toArray n))(h2:vs.length<2)
  (h:∀h' c,iM a s.heap h'->h'.get? a=ae (seqObj "list" vs.toArray c)->P (.done (.ret .none)) {s with heap:=h'}):
  wpAny 5e0 A (W3.«list.sort» #[[.ref a],[]]) P E s:=by
 obtain⟨c1,ho1⟩:∃c1,(s.heap.update a (X2 λ_=>(#[]:Array Value))).get? a=ae (seqObj "list" #[] c1):=#[_,VR ho λ_=>#[]]
 generalize hg:((s.heap.update a (X2 λ_=>(#[]:Array Value))).push (seqObj "tuple" vs.toArray 0)).push (seqObj "list" #[] 0)=g3;have kb:iM a s.heap g3:=λb u nb e=>by
  rw[←hg];show Yc _ (Yc _ ?_);rw[X0 _ _ _ _ nb];show e
 have g3a:g3.get? a=ae (seqObj "list" #[] c1):=by rw[←hg];show Yc _ (Yc _ ho1)
 rw[list_sort_plain];show Yb (listItems_at ho rfl ?_);show Yb (Uf ho rfl ?_ (by rw[Yj,YH];lia) (XZ _))
 show Yb (UE ho1 rfl ?_);show Yb (wpAny_newTuple ?_ (by change vs.length<=_;rw[YH];lia))
 show Yb (Ug ?_ (XZ _));show Xc ?_
 change wpAny 5e0 A _ P E {s with heap:=((s.heap.update a (X2 λ_=>(#[]:Array Value))).push (seqObj "tuple" vs.toArray 0)).push (seqObj "list" #[] 0)};rw[hg];dsimp only;have n2:vs.toArray.size<2:=by rw[Yj];lia
 erw[aE n2]
 apply Yb;apply Yh
 erw[StateT.run_pure]
 apply Yb;apply Yh;dsimp only;have ez:(arrOf (SortSt.mk' general' (vs.toArray.zip vs.toArray) #[] 7 af)).map (·.2)=vs.toArray:=by
  change(vs.toArray.zip vs.toArray).map (·.2)=vs.toArray;apply Uj.mp;rw[Array.toList_map,Array.toList_zip,List.map_snd_zip 3e7]
 rw[ez];obtain⟨c2,EE⟩:∃c2,(g3.update a (X2 λ_=>vs.toArray)).get? a=ae (seqObj "list" vs.toArray c2):=#[_,VR g3a λ_=>_]
 show Yb (UE g3a rfl ?_);show Yb (Uf g3a rfl ?_ (XZ _) (by rw[Yj,YH];lia))
 erw[bne_self_eq_false,XR,if_false]
 show Yh (h _ c2 (λb u nb e=>by rw[X0 _ _ _ _ nb];show kb b u nb e) EE)
end
end Pu
namespace Pu
open PySem PySem.Spec PySem.W PySem.Calls L2 PySem.SeqAt
open PyProof.Rows hiding St Fr
noncomputable def du:PV->Nat
 |.int _=>1
 |.str _=>2
 |.tup (.int _::_)=>3
 |.tup (.str _::_)=>4
 |_=>0
def oP(ps:List PV)(i j:Nat):Bool:=(gr (ps.getD (min i (ps.length-1)) .aS) (ps.getD (min j (ps.length-1)) .aS)).getD ah
def sortable(ps:List PV):Bool:=(ps.all λp=>du p==1)||(ps.all λp=>du p==2)||(ps.all λp=>du p==3)||(ps.all λp=>du p==4)
def zp(ps:List PV):Bool:=ps.all λp=>ps.all λq=>(gr p q).isSome
mutual
theorem aq.keep{h h':Heap}(k:16e3):∀(p:PV){u:Value},aq h p u->aq h' p u
 |.aS,u,a=>by unfold aq at a⊢;show a
 |.bl x,u,a=>by unfold aq at a⊢;show a
 |.int x,u,a=>by unfold aq at a⊢;show a
 |.str x,u,a=>by unfold aq at a⊢;show a
 |.tup ps,u,a=>by
  unfold aq at a⊢;obtain⟨l,us,rfl,⟨o,e,c⟩,r⟩:=a;show#[l,us,rfl,#[o,k _ _ e,c],aU.keep k ps r]
 |.lst ps,u,a=>by
  unfold aq at a⊢;obtain⟨l,us,rfl,⟨o,e,c⟩,r⟩:=a;show#[l,us,rfl,#[o,k _ _ e,c],aU.keep k ps r]
 |.gH _ _,u,a=>by ext aq a;show a.elim
 |.fz _ _,u,a=>by ext aq a;show a.elim
 |.fn _,u,a=>by ext aq a;show a.elim
 |.ty _,u,a=>by ext aq a;show a.elim
 |.dn _ _,u,a=>by ext aq a;show a.elim
theorem aU.keep{h h':Heap}(k:16e3):∀(ps:List PV){us:4e4},aU h ps us->aU h' ps us
 |[],us,a=>by unfold aU at a⊢;show a
 |p::ps,us,a=>by
  unfold aU at a⊢;let#[v,r,rfl,a1,a2]:=a;show#[v,r,rfl,aq.keep k p a1,aU.keep k ps a2]
end
theorem aU.get{h:Heap}:∀{ps:List PV}{us:4e4}{i:Nat},aU h ps us->i<us.length->aq h (ps.getD i .aS) (us.getD i Y9)
 |[],us,i,a,hi=>by ext aU a;subst a;cases hi
 |p::ps,us,i,a,hi=>by
  sleep 15;cases i with
  |zero=>show a1
  |succ i=>simpa using aU.get a2 (by simpa using hi)
theorem mem_getD(hi:i<ps.length):ps.getD i .aS∈ps:=by
 rw[X1,Yd hi];show XU hi
section
variable{prog:Yy}{w:World}{A:Around}{s:Shared}
theorem DK{b fin:Bool}{Q:10e6}{c:Bool}:∀{ps qs:List PV}{us vs:4e4}(i:Nat),gj A s ps qs us vs->iF ps qs=ae c->fin=decide (us.length<vs.length)->
  ((b&&i==0)=ag->∀p Ew q Gr u ml v Lp,ps=p::Ew->qs=q::Gr->us=u::ml->vs=v::Lp->∀c,gr p q=ae c->∀Q:Bool->Shared->Prop,Q c s->wpAny 5e0 A (oneLt' ag u v) Q (λ_ _=>False) s)->
  Q c s->KatLex prog w A b fin Q (us.zip vs) i s
  :=by
 intro ps qs us vs i pk;induction pk generalizing i with
 |@MV qs _ hh=>
  intro e hf hz q;rw[List.zip_nil_left];show kat_nil ?_;cases qs with
  |nil=>rw[Zbw]at e;cases e;rw[hf,←hh];show q
  |cons y ys=>rw[Zcs]at e;cases e;rw[hf,←hh];simpa using q
 |@MU ps _ hh=>
  intro e hf hz q;rw[List.zip_nil_right];show kat_nil ?_;cases ps with
  |nil=>rw[Zbw]at e;cases e;rw[hf,←hh];show q
  |cons y ys=>rw[Zct]at e;cases e;rw[hf];simpa using q
 |@cons p q' u v ps qs us vs ee lt t ih=>
  intro e hf hz q;rw[Xo];show kat_cons (ee prog w _ _ ?_);rw[qB]at e;cases he:aZ p q' with
  |true=>
   rw[he,aE rfl]at e;show kat_yes (ih (i+1) e (by rw[hf];simp) (λz=>by simp at z) q)
  |false=>
   rw[he,aI Yt]at e;show kat_no ?_;cases hb:(b&&i==0)with
   |true=>show hz hb _ _ _ _ _ _ _ _ rfl rfl rfl rfl c e _ q
   |false=>show kat_one _ _ (lt c e prog w _ _ q)
theorem Aw{a c:Int}{t u:Tok}{Q:10e6}(h:Q (decide (a<c)) s):wpAny 5e0 A (oneLt' ag (.int a t) (.int c u)) Q E s:=by
 rw[←keyLt'_oneType];show kat_lt_int h
theorem Av{a c:Str}{t u:Tok}{Q:10e6}(h:Q (decide (a.cps.toList<c.cps.toList)) s):wpAny 5e0 A (oneLt' ag (.str a t) (.str c u)) Q E s:=by
 rw[←keyLt'_oneType];show kas_lt_str h
theorem BW{c:Bool}{Q:10e6}(a:aq s.heap p u)(b:16e6)(hk:du p=1/\du q=1\/du p=2/\du q=2)(e:gr p q=ae c)(h:Q c s):wpAny 5e0 A (keyLt' oneType' u v) Q (λ_ _=>False) s:=by
 rw[keyLt'_oneType];cases p with
 |int x=>
  cases q with
  |int y=>unfold aq at a b;let#[t,rfl]:=a;let#[t',rfl]:=b;ext gr e;cases e;show Aw h
  |_=>ext gr e;cases e
 |str x=>
  cases q with
  |str y=>unfold aq at a b;let#[t,rfl]:=a;let#[t',rfl]:=b;ext gr e;cases e;show Av h
  |_=>ext gr e;cases e
 |tup xs=>
  exfalso;cases xs with
  |nil=>simp[du]at hk
  |cons y ys=>cases y<;>simp[du]at hk
 |_=>ext gr e;cases e
theorem BV{c:Bool}{Q:10e6}(a:aq s.heap p u)(b:16e6)(hk:du p=3/\du q=3\/du p=4/\du q=4)(e:gr p q=ae c)(hu:A.units+dep p<cLine)(h:Q c s):wpAny 5e0 A (keyLt' (tuples' ag) u v) Q (λ_ _=>False) s:=by
 cases p with
 |tup xs=>
  cases q with
  |tup ys=>
   unfold aq at a b;obtain⟨l,us,rfl,⟨ol,el,_,nl,dl⟩,r1⟩:=a;obtain⟨l',vs,rfl,⟨ol',el',_,nl',dl'⟩,r2⟩:=b;ext gr e;ext dep hu;show kat_lt el dl el' dl' ?_;show DK 0 (aU.pairs xs r1 r2 3e5) e 3e7 (λ_=>?_) h;intro p Ew q Gr u ml v Lp e1 e2 e3 e4 c' el Q' hq;subst e1 e2 e3 e4;unfold aU at r1 r2;let#[_,_,z1,a1,_]:=r1;let#[_,_,z2,b1,_]:=r2;cases z1;cases z2;cases p with
   |int x=>
    cases q with
    |int y=>unfold aq at a1 b1;let#[t,rfl]:=a1;let#[t',rfl]:=b1;ext gr el;cases el;show Aw hq
    |_=>ext gr el;cases el
   |str x=>
    cases q with
    |str y=>unfold aq at a1 b1;let#[t,rfl]:=a1;let#[t',rfl]:=b1;ext gr el;cases el;show Av hq
    |_=>ext gr el;cases el
   |tup xs=>simp[du]at hk
   |_=>ext gr el;cases el
  |_=>ext gr e;cases e
 |_=>simp[du]at hk
end
theorem pT:∀{ys:List V}{us:4e4}{i:Nat},Vals ys us->i<us.length->RelV (ys.getD i .aS) (us.getD i Y9)
 |_,_,i,.nil,hi=>by cases hi
 |_,_,i,.cons r t,hi=>by
  cases i with
  |zero=>show r
  |succ i=>simpa using pT t (by simpa using hi)
theorem uL{ys:List V}{us:4e4}(r:Vals ys us):∀{is:List Nat},(∀i∈is,i<us.length)->Vals (is.map λi=>ys.getD i .aS) (is.map λi=>us.getD i Y9)
 |[],_=>.nil
 |i::is,h=>.cons (pT r (h i (.head _))) (uL r λj hj=>h j (.tail _ hj))
theorem qg{K:W.Frag}{ι:6e8}{H:Hp}:∀{ps:List PV}{ys:List V}{i:Nat},aG K ι H ps ys->i<ps.length->Rep K ι H (ps.getD i .aS) (ys.getD i .aS)
 |[],ys,i,a,hi=>by cases hi
 |p::ps,ys,i,a,hi=>by
  ext aG a;let#[v,r,rfl,a1,a2]:=a;cases i with
  |zero=>show a1
  |succ i=>simpa using qg a2 (by simpa using hi)
theorem vb{K:W.Frag}{ι:6e8}{H:Hp}{ps:List PV}{ys:List V}(r:aG K ι H ps ys):∀{is:List Nat},(∀i∈is,i<ps.length)->aG K ι H (is.map λi=>ps.getD i .aS) (is.map λi=>ys.getD i .aS)
 |[],_=>by ext aG;rfl
 |i::is,h=>by
  ext aG;show#[_,_,rfl,qg r (h i (.head _)),vb r λj hj=>h j (.tail _ hj)]
section
variable{prog:Yy}{w:World}{A:Around}{s:Shared}
theorem Zdy{h:Heap}:∀{ps:List PV}{us:4e4},aU h ps us->∀u∈us,∃p∈ps,aq h p u
 |[],us,a,u,hu=>by ext aU a;subst a;cases hu
 |p::ps,us,a,u,hu=>by
  sleep 15;rcases Ye.mp hu with rfl|hu
  .show#[p,.head _,a1]
  .let#[q,hq,b]:=Zdy a2 u hu
   show#[q,.tail _ hq,b]
def VcO(h:Heap)(k:Nat)(f:Value):Prop:=(k=3/\∃i t,f=.int i t)\/(k=4/\∃x t,f=.str x t)
theorem rX{h:Heap}{k:Nat}(hk:k=3\/k=4):∀{ps:List PV}{us:4e4},aU h ps us->(ps.all λp=>du p==k)=ag->∃fs,KatTups h us fs/\fs.length=us.length/\∀f∈fs,VcO h k f
 |[],us,a,_=>by ext aU a;subst a;show#[[],.nil,rfl,λf hf=>by cases hf]
 |p::ps,us,a,e=>by
  sleep 15;rw[Xm,Yl]at e;let#[fs,t,hl,hf]:=rX hk a2 e.2;have e1:du p=k:=by simpa using e.1
  cases p with
  |tup xs=>
   ext aq a1;obtain⟨l,ml,rfl,⟨o,ho,hc,n,hd⟩,r1⟩:=a1;cases xs with
   |nil=>simp[du]at e1;lia
   |cons y ys=>
    ext aU r1;let#[f,r',rfl,b1,_]:=r1;show#[f::fs,.cons ho hc hd 3e7 t,by simp[hl],λg hg=>?_];rcases Ye.mp hg with rfl|hg
    .cases y with
     |int i=>ext aq b1;simp[du]at e1;let#[t,rfl]:=b1;show .inl #[e1.symm,_,_,rfl]
     |str x=>ext aq b1;simp[du]at e1;let#[t,rfl]:=b1;show .inr #[e1.symm,_,_,rfl]
     |_=>simp[du]at e1;lia
    .show hf g hg
  |int i=>simp[du]at e1;lia
  |str i=>simp[du]at e1;lia
  |_=>simp[du]at e1;lia
def vY(ps:List PV):SortKind:=if(ps.all λp=>du p==1)||(ps.all λp=>du p==2)then oneType' else tuples' ag
theorem Na{us:4e4}{Q:UI->Shared->Prop}(a:aU s.heap ps us)(h2:2<=us.length)(e:sortable ps=ag)(h:Q (vY ps) s):wpAny 5e0 A (keyKind' us.toArray) Q E s:=by
 ext sortable e;ext vY h;by_cases h1:(ps.all λp=>du p==1)=ag
 .rw[h1,V1,aE rfl]at h
  show kas_kind (T:=.type "int") h2 (λv hv=>?_) 2e7 2e7 h;let#[p,hp,b]:=Zdy a v hv;have:=YE.mp h1 p hp;cases p with
  |int i=>ext aq b;let#[t,rfl]:=b;show Uh rfl
  |tup xs=>cases xs with
   |nil=>simp[du]at this
   |cons y ys=>cases y<;>simp[du]at this
  |_=>simp[du]at this
 .by_cases h3:(ps.all λp=>du p==2)=ag
  .rw[h3,Bool.or_true,aE rfl]at h
   show kas_kind (T:=.type "str") h2 (λv hv=>?_) 2e7 2e7 h;let#[p,hp,b]:=Zdy a v hv;have:=YE.mp h3 p hp;cases p with
   |str i=>ext aq b;let#[t,rfl]:=b;show Uh rfl
   |tup xs=>cases xs with
    |nil=>simp[du]at this
    |cons y ys=>cases y<;>simp[du]at this
   |_=>simp[du]at this
  .rw[Bool.not_eq_true]at h1 h3
   rw[h1,h3]at h e;rw[aI 2e7]at h
   erw[VI,Wp]at e
   rcases e with e|e
   .let#[fs,t,hl,hf]:=rX 17e9 a e
    show kat_kind (T:=.type "int") t 3e5 (λv hv=>?_) 2e7 h;rcases hf v hv with⟨_,i,t,rfl⟩|⟨z,_⟩
    .show Uh rfl
    .cases z
   .let#[fs,t,hl,hf]:=rX (.inr rfl) a e
    show kat_kind (T:=.type "str") t 3e5 (λv hv=>?_) 2e7 h;rcases hf v hv with⟨z,_⟩|⟨_,i,t,rfl⟩
    .cases z
    .show Uh rfl
theorem wL:∀{ps:List PV}(i:Nat),dep (ps.getD i .aS)<=cS ps
 |[],i=>by simp[dep,cS]
 |p::ps,i=>by
  ext cS;cases i with
  |zero=>show Nat.le_max_left _ _
  |succ i=>show YC (by simpa using wL (ps:=ps) i) (Nat.le_max_right _ _)
theorem Vbi{us:4e4}{j:Nat}{C:10e6}(a:aU s.heap ps us)(e:sortable ps=ag)(ec:zp ps=ag)(hu:A.units+cS ps<cLine)(hi:i<us.length)(hj:j<us.length)(h:C (oP ps i j) s):kas_ask prog w A (vY ps) us i j C s:=by
 have hl:=a.length;have mi:=mem_getD (ps:=ps) (i:=i) 3e5;have mj:=mem_getD (ps:=ps) (i:=j) 3e5;have hs:(gr (ps.getD i .aS) 18e1).isSome=ag:=YE.mp (YE.mp ec _ mi) _ mj;let#[c,hc]:=Option.isSome_iff_exists.mp hs;ext oP h;rw[WP 3e5,WP 3e5,hc]at h;have ai:=aU.get a hi;have aj:=aU.get a hj;have hd:=wL (ps:=ps) i;unfold kas_ask vY;have at':∀k,(ps.all λp=>du p==k)=ag->du (ps.getD i .aS)=k/\du 18e1=k:=λk z=>#[by simpa using YE.mp z _ mi,by simpa using YE.mp z _ mj]
 by_cases h1:(ps.all λp=>du p==1)=ag
 .rw[h1,V1,aE rfl];show BW ai aj (.inl (at' 1 h1)) hc h
 .by_cases h3:(ps.all λp=>du p==2)=ag
  .rw[h3,Bool.or_true,aE rfl];show BW ai aj (.inr (at' 2 h3)) hc h
  .ext sortable e
   rw[Bool.not_eq_true]at h1 h3;rw[h1,h3]at e⊢;rw[aI 2e7]
   erw[VI,Wp]at e
   rcases e with e|e
   .show BV ai aj (.inl (at' 3 e)) hc 3e5 h
   .show BV ai aj (.inr (at' 4 e)) hc 3e5 h
end
end Pu
namespace Pu
open PySem PySem.W PySem.Calls
open PyProof.Rows hiding St Fr
def lA(h:Heap)(d:Addr)(es:Array WI)(ep:Nat):Prop:=∃o,h.get? d=ae o/\o.ExactDict/\o.data=.dict es ep
section
variable{prog:Yy}{w:World}{A:Around}{E:2e9}{s:Shared}{d it:Addr}{es:Array WI}{ep i:Nat}
theorem lA.at(x:lA h d es ep)(e:∀o,h.get? d=ae o->h'.get? d=ae o):lA h' d es ep:=let#[o,ho,r]:=x;#[o,e _ ho,r]
theorem lA.ty(x:lA s.heap d es ep):s.TypeIs (.ref d) "dict":=let#[o,ho,hc,_]:=x;#[o,ho,hc.1]
theorem lA.lt(x:lA h d es ep):d<h.objs.size:=let#[_,ho,_]:=x;Ys ho
theorem Ga(lo:(d==XG)=ah)(hm:lA s.heap d es ep)
  (q:Q (.ref s.heap.objs.size) {s with heap:=s.heap.push {cls:=.type "dict_keyiterator",data:=.fields [.ref d,.int 0 0,.int es.size 0,.int ep 0].toArray}}):wpAny (model prog w) A (pyIter (.ref d)) Q E s:=by
 let#[o1,b1,b2,b3]:=id hm;have VbU:Builtin.Dict.showsAll d=pure ():=by delta Builtin.Dict.showsAll;erw[lo];rfl
 have own:∀{P:2e9}{B:2e9}{A':Around},P (.ref d) s->wpAny 5e0 A' (Builtin.Dict.dictSlotNone "__iter__" #[[.ref d],[]]) P B s:=λz=>by
  delta Builtin.Dict.dictSlotNone
  show Yb (wpAny_notOrdered_dict hm.ty (Yh z))
 apply wpAny_pyIter_slot hm.ty F.slot_dict_iter;apply XB F.slot_dict_iter hm.ty F.entry_dict_iter _ (F.args_dict_iter_1 _)
 delta W3.«dict.__iter__»
 apply Yb;apply own;repeat first
  |show wpAny_of_eq VbU ?_
  |show wpAny_dictEntries b1 b3 ?_
  |show wpAny_dictEpoch b1 b3 ?_
  |show XI ?_
  |apply Yb
  |apply Yh
 show#[_,rfl,"dict_keyiterator",_,#[_,Yn _ rfl,rfl],WH.lookup,by simpa[rawInt]using q]
theorem vf{Q:13e0}(hh:es[i]? = af->A.handled=af)(hit:s.heap.IsKeyIter it d i es.size ep)(hm:lA s.heap d es ep)
  (q1:∀e,es[i]? = ae e->∀h',h'.IsKeyIter it d (i+1) es.size ep->X5 it s.heap h'->Q (ae e.key) {s with heap:=h'})
  (q2:es[i]? = af->∀h',Vs it s.heap h'->Q af {s with heap:=h'}):wpAny (model prog w) A (pyNext (.ref it)) Q E s:=by
 let#[o1,a1,a2,a3]:=id hit;let#[o2,b1,b2,b3]:=hm;have one:Builtin.Dict_items.ownsTuple "dict_keyiterator"=ah:=by decide
 have there:(YI d==Y9)=ah:=rfl
 delta pyNext
 apply Yb;apply wpAny_attempt;apply Xl (name:=Ws "__next__") hit.typeIs WH;apply XB WH hit.typeIs F.entry_dict_keyiterator_next _ (F.args_dict_keyiterator_next_1 _);repeat first
  |show WB hit.typeIs ?_
  |show wpAny_fieldsOf a1 a3 ?_
  |show wpAny_dictEntries b1 b3 ?_
  |show wpAny_dictEpoch b1 b3 ?_
  |erw[one,there,bne_self_eq_false,XR,if_false]
  |apply Yb
  |apply Yh
 have up:¬(i:Int)<0:=by lia
 erw[up,if_false,WT]
 cases hx:es[i]? with
 |some e=>
  have on:(s.heap.update it (VJ (·.setIfInBounds 1 (rawInt ((i:Int)+1))))).IsKeyIter it d (i+1) es.size ep:=#[_,X6 _ a1 (Vw (X8 a3 _)),(Obj.cls_mapFields ..).trans a2,by rw[X8 a3];simp[rawInt]]
  have ty:({s with heap:=s.heap.update it (VJ (·.setIfInBounds 1 (rawInt ((i:Int)+1))))}:Shared).TypeIs (.ref it) "dict_keyiterator":=Heap.IsKeyIter.typeIs on;dsimp only;repeat first
   |show WB hit.typeIs ?_
   |show wpAny_isOneOf_keyiter hit.typeIs ?_
   |show wpAny_isOneOf_keyiter ty ?_
   |erw[one,XR,if_false,Nat.zero_add]
   |show WZ a1 a3 (by simp) ?_
   |apply Xc
   |apply Yb
   |apply Yh
  show#[_,rfl,Yh (q1 e hx _ on (W4 ..))]
 |none=>
  have calm:A.in1.handled=af:=hh hx;dsimp only;repeat first
   |show WB hit.typeIs ?_
   |erw[one,XR,if_false,Nat.zero_add]
   |show WZ a1 a3 (by simp) ?_
   |show wpAny_alloc' ?_
   |show wpAny_raiseNew_none calm ?_
   |apply Yb
   |apply Yh
  show wpAny_loadPart (Yn _ rfl) (Yh ?_);have stop:Uw (.type "StopIteration") (.type "StopIteration")=pure ag:=isSubtype_stop;dsimp only;rw[stop];show Yh (Yh (q2 hx _ (((W4 ..).extBut.push _).push _)))
theorem Gb{e:WI}{Q:13e0}(hit:s.heap.IsKeyIter it d i es.size ep)(hm:lA s.heap d es ep)(hx:es[i]? = ae e)
  (q:∀h',h'.IsKeyIter it d (i+1) es.size ep->X5 it s.heap h'->Q (ae e.key) {s with heap:=h'}):wpAny (model prog w) A (pyNext (.ref it)) Q E s:=
 vf (λz=>by rw[hx]at z;cases z) hit hm (λe' z=>by rw[hx]at z;cases z;show q) λz=>by rw[hx]at z;cases z
theorem Mo{Q:13e0}(hh:A.handled=af)(hit:s.heap.IsKeyIter it d i es.size ep)(hm:lA s.heap d es ep)(hx:es.size<=i)
  (q:∀h',Vs it s.heap h'->Q af {s with heap:=h'}):wpAny (model prog w) A (pyNext (.ref it)) Q E s:=
 vf (λ_=>hh) hit hm (λe' z=>by rw[Vm hx]at z;cases z) λ_=>q
theorem Dc(hh:A.handled=af)(I:Addr)(HI:d≠I):
  Walks prog w A I [I,d] [I] es.size (λi v=>∃e,es[i]? = ae e/\v=e.key) (λi h=>h.IsKeyIter I d i es.size ep/\lA h d es ep) where
 sub:=λb hb=>by rw[Xp.mp hb];show Xn
 frame:=λ_ _ _ st hk=>#[st.1.at (hk I (.head _)),st.2.at (hk d (.tail _ (.head _)))]
 item:=λi s Q E hi st hQ=>by
  have hx:es[i]? = ae es[i]:=W0 hi;show Gb st.1 st.2 hx λh' k2 sb=>hQ _ h' s.toks #[_,hx,rfl] #[k2,st.2.at λo e=>sb.extBut d o HI e] λb o hb e=>sb.extBut b o (λz=>hb (Xp.mpr z)) e
 done:=λs Q E st hQ=>Mo hh st.1 st.2 (Yo _) λh' x=>hQ h' s.toks λb o hb e=>x b o (λz=>hb (Xp.mpr z)) e
 self:=λ_ _ _ _ st hQ=>wpAny_pyIter_keyiter st.1 hQ
theorem Mn(lo:(d==XG)=ah):KdlSrc prog w "dict" d d es.size (λi v=>∃e,es[i]? = ae e/\v=e.key) (λh=>lA h d es ep) where
 type:=λ_ hm=>hm.ty
 there:=λ_ hm=>#[hm.lt,hm.lt]
 keep:=λ_ _ hm hk=>hm.at (hk d 17e9)
 notList:=by decide
 notTuple:=by decide
 hint:=λ_ _ _ _ hm hq=>kdl_hint_dict hm.ty hq
 iter:=λ_ _ hh hm=>#[_,_,λ_ _ hq=>Ga lo hm hq,Dc hh _ (YK hm.lt),#[_,Yn _ rfl,rfl,rfl],hm.at λo e=>Yc _ e]
end
section
variable{prog:Yy}{w:World}{A:Around}{E:2e9}{s:Shared}{T:String}{r d:Addr}{n:Nat}{P:Nat->Value->Prop}{OK:Heap->Prop}
theorem NK{R:Result->Shared->Prop}(K:KdlSrc prog w T r d n P OK)(hh:A.handled=af)(cR:OK s.heap)(S:Addr)(hSr:S≠r)(hSd:S≠d)(c₀:Nat)(hS:s.heap.get? S=ae {cls:=.type "list",data:=.seq #[] c₀})(hn:n<=Yp)
  (hR:∀h' tk acc c,(∀b o,b≠S->s.heap.get? b=ae o->h'.get? b=ae o)->h'.get? S=ae {cls:=.type "list",dict:=none,data:=.seq acc c,slots:=#[]}->ItemsOf P acc n->R (.ok (.ret (.ref S))) {s with heap:=h',toks:=tk}):
  VQ 5e0 A (.builtin "list.__iadd__" #[[.ref S,.ref r],[]]) R s:=by
 show Ux entry_list_iadd' ?_;rw[Around.under_plainId (show plainId "list.__iadd__"=ag by decide +kernel) _];show kdl_extend K hh cR S hSr hSd (.ref S) c₀ hS hR hn
theorem wV{Q:List Value->Shared->Prop}(K:KdlSrc prog w T r d n P OK)(hh:A.handled=af)(cR:OK s.heap)(hn:n<=Yp)
  (h:∀h' tk acc,(∀b o,s.heap.get? b=ae o->h'.get? b=ae o)->s.heap.objs.size<=h'.objs.size->ItemsOf P acc n->Q acc.toList {s with heap:=h',toks:=tk}):wpAny (model prog w) A (collect (.ref r)) Q E s:=by
 ext collect;show Yb (wpAny_runValue (Ux entry_proto_collect' ?_));show Yb (Ug (Yh #[Vg _ 9e0,?_]));have hS:(s.heap.push (seqObj "list" #[] 0)).get? s.heap.objs.size=ae {cls:=.type "list",data:=.seq #[] 0}:=Yn _ rfl;have gG:=K.there _ cR;show NK (s:={s with heap:=s.heap.push (seqObj "list" #[] 0)}) K hh (K.keep _ _ cR λb _ o e=>Yc _ e) s.heap.objs.size (Wr gG.1) (Wr gG.2) 0 hS hn λh' tk acc c k e ai=>?_;show Yb (wpAny_load e ?_);show Yh (h h' tk acc (λb o z=>k b o (YK (Ys z)) (Yc _ z)) (VY (Ys e)) ai)
end
end Pu
namespace Pu
open PySem PySem.Spec PySem.W PySem.Calls L2 PySem.SeqAt
open PyProof.Rows hiding St Fr
def tupK(k:List Key):PV:=.tup (k.map kP)
noncomputable def keyOk:Key->Bool
 |.inl _=>ag
 |.inr x=>decide (x.length<=1000)
def keysOk(ks:List (List Key)):Bool:=ks.all λk=>k.all keyOk
theorem Tj:∀{k:Key},keyOk k=ag->Rep K ι H (kP k) (kV k)
 |.inl i,_=>C9
 |.inr x,h=>ma (HA (kT h))
theorem Ah{K:W.Frag}{ι:6e8}{H:Hp}:∀{k:List Key},k.all keyOk=ag->aG K ι H (k.map kP) (k.map kV)
 |[],_=>.nil
 |x::k,h=>by
  rw[Xm,Yl]at h;show .cons (Tj h.1) (Ah h.2)
theorem F7{k:List Key}(h:k.all keyOk=ag)(e:H b=ae (.tup (k.map kV))):Rep K ι H (tupK k) (.ref b):=by
 unfold tupK Rep;show#[b,_,rfl,e,Ah h]
theorem M'{bA:List (List Key×V)}{xs:List 12e9}(r:KT H bA xs)(h:keysOk (bA.map (·.1))=ag):aG K ι H (bA.map λq=>tupK q.1) (xs.map λx=>V.ref x.2.1):=by
 induction r with
 |nil=>show .nil
 |@cons p q ps qs a t ih=>
  rw[Yi]at h;ext keysOk h;rw[Xm,Yl]at h;show .cons (F7 h.1 a.2.1) (ih h.2)
theorem ZbM:∀(xs:List 12e9),Vals (xs.map λx=>V.ref x.2.1) (xs.map λx=>YI x.2.1)
 |[]=>.nil
 |x::xs=>.cons rfl (ZbM xs)
theorem DO{xs:List 12e9}{es:Array WI}{prog:Yy}{acc:Array Value}(he:es.toList=xs.map (entryOfKey (Ul (dF prog w))))(h:ItemsOf (λi v=>∃e,es[i]? = ae e/\v=e.key) acc es.size):acc.toList=xs.map λx=>YI x.2.1:=by
 have hl:es.size=xs.length:=size_of_entries he;apply Vt;intro i;rw[Array.getElem?_toList,YS];by_cases hi:i<acc.size
 .let#[e,e1,e2]:=h.2 i _ (W0 hi)
  rw[W0 hi,e2];rw[entry_at he]at e1;cases hx:xs[i]? with
  |none=>rw[hx]at e1;cases e1
  |some x=>rw[hx]at e1;cases e1;rfl
 .rw[Vm 3e5,Xw (by have:=h.1;lia)];rfl
noncomputable def Lx {κ:Type} [DecidableEq κ](k:κ)(ks:List κ):Bool:=ks.any λa=>decide (a=k)
def lD{κ:Type} [DecidableEq κ](ks:List κ)(k:κ):List κ:=if Lx k ks then ks else ks++[k]
def iQ{κ:Type} [DecidableEq κ]{α:Type}(ks:List κ)(xs:List α)(k:κ)(x:α):List α:=if Lx k ks then(ks.zip xs).map (λq=>if q.1=k then x else q.2)else xs++[x]
theorem Nu[DecidableEq κ]{k:κ}{ks:List κ}:Lx k ks=ag↔k∈ks:=by
 ext Lx;rw[List.any_eq_true];constructor
 .rintro⟨a,h,e⟩;rw[←kT e];show h
 .intro h;show#[k,h,eF rfl]
theorem Zc8{κ:Type} [DecidableEq κ]{k:κ}{v:V}:∀{ks:List κ}{vs:List V},ks.length=vs.length->((ks.zip vs).map λkv=>if kv.1=k then(kv.1,v)else kv)=ks.zip ((ks.zip vs).map λq=>if q.1=k then v else q.2)
 |[],vs,_=>by simp
 |a::ks,[],h=>by simp at h
 |a::ks,b::vs,h=>by
  rw[Xo,Yi,Yi,Xo,Zc8 (by simpa using h)];by_cases e:a=k
  .simp[e]
  .simp[e]
theorem zQ{κ:Type} [DecidableEq κ]{k:κ}:∀{ks:List κ}{vs:List V},ks.length=vs.length->((ks.zip vs).any λkv=>decide (kv.1=k))=Lx k ks
 |[],vs,_=>by simp[Lx]
 |a::ks,[],h=>by simp at h
 |a::ks,b::vs,h=>by
  rw[Xo,Xz,zQ (by simpa using h)];ext Lx;rw[Xz]
theorem Mw[DecidableEq κ]{k:κ}{v:V}{ks:List κ}(h:ks.length=vs.length):putK (ks.zip vs) k v=(lD ks k).zip (iQ ks vs k v)/\(lD ks k).length=(iQ ks vs k v).length:=by
 unfold putK lD iQ;rw[zQ h];cases e:Lx k ks with
 |true=>
  erw[if_true]
  show#[Zc8 h,?_];rw[Yk,List.length_zip];lia
 |false=>
  erw[XR,if_false]
  show#[?_,by simp[h]];rw[List.zip_append h];rfl
theorem F6[DecidableEq κ]{k:κ}{v:V}(hp:Rep K ι H p v){ks:List κ}(r:aG K ι H ps vs):aG K ι H (iQ ks ps k p) (iQ ks vs k v):=by
 ext iQ;by_cases e:Lx k ks=ag
 .rw[aE e,aE e]
  clear e;induction ks generalizing ps vs with
  |nil=>simp;show .nil
  |cons a ks ih=>
   cases ps with
   |nil=>rw[r.kC];simp;show .nil
   |cons q ps=>
    let#[w,ws,rfl,h1,h2]:=r.inv;rw[Xo,Xo,Yi,Yi];show .cons ?_ (ih h2);by_cases z:a=k
    .erw[z,if_true];show hp
    .erw[z,if_false];show h1
 .rw[aI e,aI e];show r.append (.cons hp .nil)
def lO:List PV->Option (List Key)
 |[]=>ae []
 |p::r=>match DH p,lO r with
  |some k,ae ks=>ae (k::ks)
  |_,_=>af
def Vfi:PV->Option (List Key×PV)
 |.tup [.tup qs,v]=>(lO qs).map λk=>(k,v)
 |_=>af
section
variable{K:W.Frag}{ι:6e8}{H:Hp}
theorem Ml{x:PV}{v:V}{q:Key}(l:Rep K ι H x v)(h:DH x=ae q):v=kV q:=vW (Rep.lies l) h
theorem qe:∀{qs:List PV}{ws:List V}{k:List Key},aG K ι H qs ws->lO qs=ae k->ws=k.map kV
 |[],ws,k,r,e=>by cases e;show r.kC
 |p::qs,ws,k,r,e=>by
  let#[v,w,rfl,h1,h2]:=r.inv;ext lO e;split at e
  .rename_i a b e1 e2
   cases e;rw[Ml h1 e1,qe h2 e2];rfl
  .cases e
theorem vd{k:List Key}{v:V}(r:Rep K ι H (.tup qs) v)(e:lO qs=ae k):∃b,v=.ref b/\H b=ae (.tup (k.map kV)):=by
 ext Rep r;let#[b,ws,rfl,h,rs]:=r;rw[qe rs e]at h;show#[b,rfl,h]
end
section
variable{X:Cx}{e o i:Expr}{es:7e0}{fs:2e8}{p pos pos':Pos}{x:Str}{fv fo fi:3e6}
noncomputable def A7 (i:Nat):aM->M PF:=λρ C=>ae (.nx (ρ.set i (ae (.c C.length))),C++[.fz [] []])
def Ft(v o i:SV)(ρ:aM):M PF:=λC=>match o,i,v with
 |.c k,.v (.tup qs),.v p=>match C[k]?,lO qs with
  |some (.fz ks ps),ae key=>if ks.length<1000 then ae (.nx ρ,C.set k (.fz (lD ks key) (iQ ks ps key p)))else af
  |_,_=>af
 |_,_,_=>af
def mD(fv fo fi:3e6):aM->M PF:=λρ=>bP (fv ρ) λv=>bP (fo ρ) λo=>bP (fi ρ) λi=>Ft v o i ρ
theorem CS{v o i:SV}{fl:PF}(h:Ft v o i ρ C=ae (fl,C2)):∃k qs p ks ps key,o=.c k/\i=.v (.tup qs)/\v=.v p/\C[k]? = ae (.fz ks ps)/\lO qs=ae key/\ks.length<1000/\fl=.nx ρ/\C2=C.set k (.fz (lD ks key) (iQ ks ps key p)):=by
 ext Ft h;split at h
 .split at h
  .split at h
   .cases h;show#[_,_,_,_,_,_,rfl,rfl,rfl,by assumption,by assumption,by assumption,rfl,rfl]
   .cases h
  .cases h
 .cases h
end
end Pu
namespace Pu
open PySem PySem.Spec PySem.W PySem.Calls L2
open PyProof.Rows hiding St Fr
noncomputable def gO (x y:PV):Option PV:=match x,y with
 |.str z,.int n=>if z.length=1/\n<1000/\-1000<n then ae (.str (Txt.mul z n))else af
 |_,_=>af
theorem ZdB(c:Array Nat):∀(k:Nat)(acc:Array Nat),((YG k c).foldl (·++·) acc).toList=acc.toList++(YG k c.toList).flatten
 |0,acc=>by simp
 |k+1,acc=>by
  rw[Wy,List.foldl_cons,ZdB c k,Wy,List.flatten_cons,Y5,Yx]
theorem qu{c:Nat}(hz:z.cps.toList=[c])(n:Int):(Txt.mul z n).cps.toList=YG n.toNat c:=by
 ext Txt.mul;by_cases h:n<1
 .rw[aE h,show n.toNat=0 by lia];rfl
 .rw[aI h]
  have hl:z.length=1:=by change z.cps.size=1;rw[←YO,hz];rfl
  by_cases h1:n=1
  .subst h1;simp[hz]
  .rw[aI (by simp[h1,hl])]
   change((YG n.toNat z.cps).foldl (·++·) #[]).toList=_;rw[ZdB,hz];simp[List.flatten_replicate_singleton]
theorem vE(hz:z.length=1)(n:Int):(Txt.mul z n).length=n.toNat:=by
 have:z.cps.toList.length=1:=by rw[YO];show hz
 obtain⟨c,e⟩:∃c,z.cps.toList=[c]:=by
  match z.cps.toList,this with
  |[c],_=>show#[c,rfl]
 change(Txt.mul z n).cps.size=_;rw[←YO,qu e];simp
section
variable{X:Cx}{a b e:Expr}{fa fb:3e6}{pos p:Pos}{es:7e0}{fs:2e8}
noncomputable def PM:R2:=λx y H Q=>∃z n,x=.str z/\y=.int n/\z.length=1/\n<1000/\-1000<n/\Q (.str (Txt.mul z n)) H
theorem ML:fV X (Wu .Mult) PM:=by
 sleep 3;let#[z,n,rfl,rfl,hz,h1,h2,q]:=h;let#[t,rfl]:=(show ∃t,v=.str z t from rx)
 let#[t',rfl]:=(show ∃t,u=.int n t from ry)
 show SB.mul #[?_,λg _=>?_,λg _=>?_] λt2 k=>#[.str (Txt.mul z n),H,I.tok _,7e2,q]
 .simp;lia
 .rw[hz]
  have:(1:Int)<=(2^63-1)/n:=by
   rw[Int.le_ediv_iff_mul_le 3e5];lia
  lia
 .have:z.length*n.toNat<=sizeLine:=by rw[hz,YH];lia
  show dm (UD.mpr this)
theorem MZ:iL X.K PM gO:=by
 sleep 7;ext gO e;split at e
 .split at e
  .rename_i s n hc
   cases e;let#[rfl,hs]:=gQ lx;cases ly;show#[_,_,rfl,rfl,hc.1,hc.2.1,hc.2.2,k _ H .refl cr ?_];ext Rep;show#[rfl,by rw[vE hc.1,YH];lia]
  .cases e
 .cases e
end
end Pu
namespace Pu
open PySem PySem.Spec L2
open PyProof.Rows hiding St Fr
def Je(K:W.Frag)(a:Addr):It:=⟨λi H=>∃xs v,gL K H a xs/\xs[i]? = ae v,λi H x H'=>∃b v,H b=af/\x=.ref b/\H'=upd H b (.tup [.int i,v])/\∀xs,gL K H a xs->xs[i]? = ae v,
 λi H=>∃xs,gL K H a xs/\xs.length<=i⟩
theorem CH{P:Yy}{x1:Nat}{e:Addr}(HI:e≠it):Turn P w K (.Tuple elts x1 pos) (Je K a) [e,it] e
  (λi h=>(∃old,IsEnum h e it i old)/\h.IsListIter it a i) where
 mem:=by simp
 obj:=λi h st b hb=>by
  obtain⟨⟨old,he⟩,o,hi,hc,hd⟩:=st
  erw[Ye,Yq,or_false]at hb
  rcases hb with rfl|rfl
  .show#[_,he,λv q=>by cases q]
  .show#[o,hi,λv q=>by rw[hd]at q;cases q]
 keep:=λi h h' st k=>by
  obtain⟨⟨old,he⟩,hi⟩:=st;show#[#[old,k e 3e7 _ he],hi.at λo z=>k it 3e7 o z]
 item:=by
  sleep 2;obtain⟨⟨old,he⟩,hi⟩:=st;let#[xs,v,hq,hx]:=hg;let#[ba,rv,p,hz]:=I.list hq;let#[u,hu,ru]:=rv.get hx;show wpAny_pyNext_enum_item he hi p.isList (x:=u) (by simpa using hu) HI λh' ho hi' hT hsz hk=>#[_,rfl,?_]
  show wpAny_letOwnedTupleGo_enum (s:={s with heap:=h',toks:=s.toks+1}) ho λh3 he3 sb=>?_;have J1:Inv X pins σ H {s with heap:=h3,toks:=s.toks+1}:=mm (ch:=[e,it]) I (λb o hb z=>by
   erw[Ye,Yq,or_false,not_or]at hb
   show sb.extBut _ _ hb.1 (hk b o hb.1 hb.2 z)) hf
  have gG:∀{b o},s.heap.get? b=ae o->b≠s.heap.objs.size:=λe=>YK (Ys e);have hn:H s.heap.objs.size=af:=I.cR.fresh (Yo _);have hT3:=sb.extBut _ _ (gG he).symm hT;have J2:=OR (ob:=.tup [.int i,v]) J1 hn I.sz (Wr I.lt) (λx c e=>by let#[v,q]:=I.cell x c e;show YK q.lt) (λp hp=>gG (I.pin p hp).1)
   #[by change 2<=Yp;rw[YH];decide,[.int i s.toks,u],.cons 7e2 (.cons ru .nil),#[_,hT3,rfl,_,rfl]]
  show#[.ref s.heap.objs.size,_,J2,rfl,#[_,v,hn,rfl,rfl,λys hy=>by rw[I.nG hy hq];show hx],#[#[_,he3],hi'.at λo z=>sb.extBut _ _ HI.symm z],λb hb=>?_];have uy:b≠s.heap.objs.size:=by
   erw[Ye,Yq,or_false]at hb
   rcases hb with rfl|rfl
   .show gG he
   .let#[o,z,_]:=hi;show gG z
  rw[fS uy];show(hf b hb).1
 done:=by
  sleep 2;obtain⟨⟨old,he⟩,hi⟩:=st;let#[xs,hq,hx]:=hg;let#[ba,rv,p,hz]:=I.list hq;have hl:=rv.length;show wpAny_pyNext_enum_end (I.ok.hd hc) he hi p.isList 14e9 λh' eb=>#[rfl,mm (t':=s.toks) (ch:=[e,it]) I (λb o hb z=>?_) hf]
  erw[Ye,Yq,or_false,not_or]at hb
  show eb b o hb.2 z
 self:=λ_ _ _ _ _ st h=>by obtain⟨⟨old,he⟩,_⟩:=st;show wpAny_pyIter_enum he h
section
variable{X:Cx}{l:Expr}{elts:7e0}{x1:Nat}{CJ p pos:Pos}
def VcH(K:W.Frag)(tl:TA):TI:=λσ H R=>tl σ H λxs H1=>∃a,xs=[.ref a]/\(∃vs,gL K H1 a vs)/\R (Je K a) H1
theorem MH{tl:TA}(hg:Gl X "enumerate")(hm:X.mg "enumerate"=af)(ha:PA X [l] tl)(hs:Yg [l] X.env=[(ah,eval l X.env)]:=by rfl):PI X (.Tuple elts x1 CJ) (.Call (.Name "enumerate" p) [l] [] pos) (VcH X.K tl):=by
 intro pins s σ H R I h;show Call_ (Zdt I hg hm 1e0 (Xy (dz (ha pos pins s σ H _ I h) λus s1 #[vs,H1,I1,r1,q1]=>?_) hs rfl));obtain⟨a,rfl,⟨ws,hq⟩,q⟩:=q1;let#[u,rfl,ru]:=vals1 r1;cases ru;let#[ba,rv,pl,hz]:=I1.list hq;show call_enumerate_list pl.isList λh' he hi hsz k=>?_;have J:Inv X pins σ H1 {s1 with heap:=h'}:=I1.kept (t':=s1.toks) k;show wpAny_pyIter_enum (s:={s1 with heap:=h'}) he #[s1.heap.objs.size+1,[s1.heap.objs.size+1,s1.heap.objs.size],_,_,H1,rfl,J,CH (Nat.succ_ne_self _),#[#[_,he],hi],λb hb=>?_,q];have uy:s1.heap.objs.size<=b:=by
  erw[Ye,Yq,or_false]at hb
  rcases hb with rfl|rfl<;>lia
 show I1.NI uy (I1.cR.fresh uy)
noncomputable def n6 (xs:List PV):List PV:=(YL xs.length).map λi=>.tup [.int (i:Nat),xs.getD i .aS]
def QG:List SV->Option 5e5
 |[.v (.lst xs)]=>ae (n6 xs)
 |_=>af
def A8(fs:2e8):aM->M 5e5:=λρ=>bP (fs ρ) λxs=>i7 λ_=>QG xs
theorem ZdF(xs:List PV):(n6 xs).length=xs.length:=by ext n6;simp
theorem DN(cr:13e2)(h:Rx K ι H a vs)(r:aG K ι H xs vs):Iter K ι H (n6 xs) (Je K a):=by
 have keep:∀ι2 H2,Ex ι ι2 H H2->gL K H2 a vs:=λι2 H2 x=>by
  rcases h with⟨n,q|⟨o,q⟩⟩|q
  .show .inl (.inl (x.out _ _ n q).2)
  .show .inl (.inr #[o,(x.out _ _ n q).2])
  .show .inr q
 show#[λι2 H2 C2 x c i hi=>?_,λι2 H2 C2 x c i v H3 hi y=>?_,λι2 H2 C2 x c=>#[vs,keep ι2 H2 x,by rw[ZdF,r.length];show Yo _]]
 .rw[ZdF]at hi
  let#[v,e,_]:=r.get (Yd hi);show#[vs,v,keep ι2 H2 x,e]
 .rw[ZdF]at hi
  let#[b,w,hn,rfl,rfl,y]:=y;let#[p,hp,rp]:=r.get' (y vs (keep ι2 _ x));show#[λc o e=>by rw[fS (kI e hn)];show e,.tup [.int (i:Nat),p],?_,ZcJ hn (.cons C9 (.cons (Rep.tr cr x.out p w rp) .nil))];ext n6;simp[hi];rw[Yd hi]at hp;show Yz hp
end
end Pu
namespace Pu
open PySem PySem.Spec L2
open PyProof.Rows hiding St Fr
section
variable{X:Cx}{e o:Expr}{es:7e0}{fo:3e6}{fs:2e8}{apos cc:Pos}
variable{a b:Expr}{fa fb:3e6}{pos:Pos}
theorem NJ{P:Yy}{k:Nat}{ps:2e2}:aO P w K mg base cu k f fd ps (aF K λ_ _=>af):=
 #[λvs H Q E h=>(by let#[_,_,_,_,_,_,_,e,_]:=h;cases e),λA outer s H args us vs Q E _ _ _ _ h=>by let#[_,_,_,_,_,_,_,e,_]:=h;cases e]
end
end Pu
namespace Hd
open PySem PySem.W PySem.Spec PySem.Calls L2 Pu
open PyProof.Rows hiding St Fr
noncomputable def kf (h:Heap)(as:6e8):Frag:=as.filterMap λa=>(h.get? a).map λo=>(a,o)
theorem yM{h:Heap}:∀{as:6e8}{a:Addr}{o:Obj},(kf h as).lookup a=ae o->h.get? a=ae o
 |[],_,_,e=>by cases e
 |b::as,a,o,e=>by
  ext kf e;rw[Xq]at e;cases g:h.get? b with
  |none=>rw[g]at e;show yM e
  |some p=>
   rw[g]at e
   erw[XN,Ym]at e
   by_cases q:a=b
   .subst q;rw[beq_self_eq_true]at e;cases e;show g
   .rw[beq_eq_false_iff_ne.mpr q]at e;show yM e
theorem kf_in(h:Heap)(as:6e8):(kf h as).In h:=λ_ _ e=>yM e
theorem kf_at{h:Heap}{a:Addr}{o:Obj}(g:h.get? a=ae o):∀{as:6e8},a∈as->(kf h as).lookup a=ae o
 |[],m=>by cases m
 |b::as,m=>by
  ext kf;rw[Xq];by_cases q:a=b
  .subst q;rw[g];simp
  .have m':a∈as:=(Ye.mp m).resolve_left q
   cases g':h.get? b with
   |none=>show kf_at g m'
   |some p=>
    erw[XN,Ym]
    rw[beq_eq_false_iff_ne.mpr q];show kf_at g m'
def At(mg:5e1)(h:Heap)(as:6e8)(d:DefRec):Prop:=∃(a c:Addr)(o:Obj)(pm doc:Value),mg d.name=ae (.ref a)/\h.get? a=ae o/\o.data=.func (docDef d.name d.params d.body d.scope pm (.ref c) doc)/\h.CodeRec (.ref c) d.name/\a∈as/\c∈as
theorem KA{mg:5e1}{h:Heap}(as0:6e8):∀ds:List DefRec,(∀d∈ds,∃a o pm code doc,mg d.name=ae (.ref a)/\h.get? a=ae o/\o.data=.func (docDef d.name d.params d.body d.scope pm code doc)/\h.CodeRec code d.name)->
  ∃as:List Addr,(∀a∈as0,a∈as)/\∀d∈ds,At mg h as d
 |[],_=>#[as0,λ_ m=>m,λ_ m=>nomatch m]
 |d::ds,T=>by
  let#[as,h0,ih]:=KA as0 ds λe m=>T e (.tail _ m);let#[a,o,pm,cd,doc,h1,h2,h3,h4]:=T d (.head _);let#[c,oc,vs,t,rfl,r]:=h4;show#[a::c::as,λb m=>.tail _ (.tail _ (h0 b m)),λe m=>?_];rcases Ye.mp m with rfl|m
  .show#[a,c,o,pm,doc,h1,h2,h3,#[c,oc,vs,t,rfl,r],.head _,.tail _ (.head _)]
  .let#[a',c',o',pm',Vfb,q1,q2,q3,q4,q5,q6]:=ih e m
   show#[a',c',o',pm',Vfb,q1,q2,q3,q4,.tail _ (.tail _ q5),.tail _ (.tail _ q6)]
def FnAt(K:Frag)(mg:5e1)(x:Str)(st:Stmt):Prop:=∃f fd,mg x=ae (.ref f)/\eD K x x st f fd
noncomputable def four (d:DefRec):Str×UG×List Stmt×Scope:=(d.name,d.params,d.body,d.scope)
def HZ(p:Str×Stmt):Str×UG×List Stmt×Scope:=(p.1,fh p.2,cO p.2,aK p.2)
theorem VcY{ds:List DefRec}{lC:List (Str×Stmt)}(A:∀d∈ds,At mg h as d)(es:ds.map four=lC.map HZ)(i:Nat)(e:lC[i]? = ae (x,st)):FnAt (kf h as) mg x st:=by
 have q:(ds.map four)[i]? = ae (HZ (x,st)):=by rw[es,YS,e];rfl
 let#[d,e',q]:=Vj.mp ((YS ..).symm.trans q);let#[n,ps,b,sc,p]:=d;let#[rfl,q]:=VO q;let#[q1,q]:=VO q;let#[q2,q3]:=VO q;dsimp only at q1 q2 q3;subst q1 q2 q3;let#[a,c,o,pm,doc,h1,h2,h3,h4,h5,h6]:=A _ (YY e');let#[c',oc,vs,t,e1,g,hd,hv]:=h4;cases e1;let#[cl,dd,dt,sl]:=o;cases(show dt=_ from h3);have k1:=kf_at h2 h5;have k2:=kf_at g h6;show#[a,_,h1,Vai (oc:=cl) (od:=dd) (osl:=sl) (kV:=.none) (doc:=doc) (pm:=pm) (an:=none) (ct:=.none) (cdv:=.ref c) k1 ?_ ?_]
 .let#[ocl,odd,odt,osl]:=oc
  cases(show odt=_ from hd);ext codeIn;dsimp only;rw[k2];obtain⟨l⟩:=vs
  match l,hv with
  |_::v::r,hv=>
   cases(show v=_ by simpa using hv);simp
 .ext keepIn
  dsimp only;rw[k1]
theorem iG{i:Int}(h:∃v,mg x=ae v/\∀h':Heap,Reads h' v (.int i) []):∃t,mg x=ae (.int i t):=by
 let#[v,e,r]:=h;cases r default;show#[_,e]
theorem xZ{y:Str}(h:∃v,mg x=ae v/\∀h':Heap,Reads h' v (.str y) []):∃t,mg x=ae (.str y t):=by
 let#[v,e,r]:=h;cases r default;show#[_,e]
theorem fY(G:h.Ns Xb mg){names:2e2}{vals:List (Option (Option Value))}(Y:∃om,h.get? Xb=ae om/\names.map (nsIn [(Xb,om)] Xb)=vals)(i:Nat)
  (e1:names[i]? = ae x) (e2:vals[i]? = ae (ae (ae v))):mg x=ae v:=by
 let#[om,g,e]:=Y;show mg_of (K:=[(Xb,om)]) (λa o q=>?_) G ?_
 .rw[Ym]at q
  by_cases z:a=Xb
  .subst z;rw[beq_self_eq_true]at q;cases q;show g
  .rw[beq_eq_false_iff_ne.mpr z]at q;cases q
 .rw[←e,YS,e1]at e2
  simpa using e2
theorem dr{OU:6e8}{tos:List Obj}(e:OU.map h.get? = tos.map ae)(i:Nat){o:Obj}(e1:OU[i]? = ae a)(e2:tos[i]? = ae o):h.get? a=ae o:=by
 have q:=congrArg (λl:List (Option Obj)=>l[i]?) e
 erw[YS,e1,e2,XN]at q
 show Yz q
noncomputable def VaG (s:Stmt):Pos:=match s with
 |.FunctionDef _ _ _ _ _ _ _ _ _ p=>p
 |_=>#[0,0,0,0]
noncomputable def yO (p:Yy)(loose:2e2)(x:Str):Bool:=startupNames.contains x||loose.contains x||((recsOf p).map (·.name)).contains x||((litsOf p).map (·.1)).contains x||((clssOf p loose).map (·.name)).contains x
theorem gN{p:Yy}{Vev:ExcName->Option Value}{mb:5e1}(T:Top p loose Vev mg mb h){xs:2e2}(e:xs.all (λx=>!yO p loose x)=ag)(i:Nat)(hx:xs[i]? = ae x):mg x=af:=by
 have q:=YE.mp e x (YY hx);ext yO q
 erw[Bool.not_or,Yl,V8,List.contains_eq_mem,decide_eq_false_iff_not]at q
 show T.free x q.1.1.1.1 q.1.1.1.2 q.1.1.2 q.1.2 q.2
noncomputable def Fm (K:Frag):Sp:=λvs H Q _=>∃(a:Addr)(ns:List Int),vs=[.ref a]/\gL K H a (ns.map V.int)/\ns.length<=63/\∀H',Q 10e8 H'
theorem qf{K:Frag}{ι:6e8}{H:Hp}:∀ns:List Int,aG K ι H (ns.map PV.int) (ns.map V.int)
 |[]=>by ext aG;rfl
 |n::ns=>by
  rw[Yi,Yi];ext aG;show#[_,_,rfl,by ext Rep;rfl,qf ns]
theorem yf{K:Frag}(hF:∀ns:List Int,ns.length<=63->F [.v (.lst (ns.map .int))] []=ae (.v 10e8,[]))(vs:List V)(H:Hp)(Q:VK)(E:XK)(h:Fm K vs H Q E):aF K F vs H Q E:=by
 let#[a,ns,rfl,hS,hl,hQ]:=h;show#[[],[.v (.lst (ns.map .int))],[],.v 10e8,[],#[rfl,List.nodup_nil,λk a c e=>by cases e],?_,hF ns hl,λv H' _ _ r=>?_]
 .ext dc
  show#[_,_,rfl,?_,by ext dc;rfl];unfold cH Rep;show#[a,_,rfl,?_,qf ns];rcases hS with h|h
  .show .inl #[Yq,h]
  .show .inr h
 .have e:v=.bl ag:=by unfold cH Rep at r;show r
  subst e;show hQ H'
theorem walk{l:OpenLaw}{k:Nat}{q:Yy}{XP:(Str->Option Value)->Heap->Prop}{YP:World->Heap->Prop}{d:DefRec}(hn:l.most=ae 63)(hdf:d.params.defaults=[])(hr:dy k UO)(as0:6e8)
  (F:∀(w:World)(s₀:Shared)(mg mb:5e1)(h:Heap)(as:6e8),Ground q loose [] XP w s₀ mg mb h->YP w h->(∀a∈as0,a∈as)->(∀d∈recsOf q,At mg h as d)->∀fa:Addr,mg d.name=ae (.ref fa)->
   ∃fd:WR,(∀(s:Shared)(u:Value),BindsTo s fd #[[u],[]] [("_law_script",u)])/\∀base:Heap,aO l.prog w (kf h as) mg base cu k fa fd ["_law_script"] (Fm (kf h as))):
  WalkO q loose XP YP l.row.toRowW d [] (λf vs=>PySem.call f vs):=by
 show Att.xj hn hdf λw s₀ s₁ mg mb fa o pm cd doc a vs ns G Y ho hd me HJ Vab hints hlen hg=>?_;let#[as,h0,A]:=KA as0 (recsOf q) G.T.fn;let#[fd,hb,hF]:=F w s₀ mg mb _ as G Y h0 A fa HJ;show Hq (kf_in s₁.heap as) G.T.g G.T.b G.T.builtins G.T.nolimit hg Vab hints (YC hlen 2e7) hr (λbase _ _=>hF base) hb (λH hO hS=>#[a,ns,rfl,hS,hlen,λ_=>rfl]) λH e s' z=>z
end Hd
namespace Pu
open PySem PySem.Spec PySem.W PySem.Calls L2
open PyProof.Rows hiding St Fr strKind
open PySem.Builtin.Str (partsBetween occurrences strKind)
noncomputable def mNo:aM->M PF:=λ_ _=>af
noncomputable def c8 (i:Int):Str:=Ws (toString i)
theorem G8{i:Int}(h:i.natAbs.log2<1920):(c8 i).length<=sizeLine:=int_text_fits h
section
variable{X:Cx}{e:Expr}{es:7e0}{f:3e6}{fs:2e8}{p pos:Pos}
def gf:List PV->Option PV
 |[.int i]=>if i.natAbs.log2<1920 then ae (.str (c8 i))else af
 |[.str y]=>ae (.str y)
 |_=>af
theorem Ee:gB X (.type "str") (λxs H Q=>(∃i:Int,xs=[.int i]/\i.natAbs.log2<1920/\Q (.str (c8 i)) H)\/∃y,xs=[.str y]/\Q (.str y) H):=by
 intro pins s σ H xs us Q I r h;rcases h with⟨i,rfl,hi,q⟩|⟨y,rfl,q⟩
 .let#[u,rfl,t,rfl]:=Vals.one r
  show P.str_of_int hi #[.str _,H,I.tok _,7e2,q]
 .let#[u,rfl,t,rfl]:=Vals.one r
  show P.str_of_str #[.str _,H,I,7e2,q]
theorem Mc:mh X.K (λxs H Q=>(∃i:Int,xs=[.int i]/\i.natAbs.log2<1920/\Q (.str (c8 i)) H)\/∃y,xs=[.str y]/\Q (.str y) H) gf:=by
 intro ι H C ps vs z Q cr ls e k;ext gf e;split at e
 .split at e
  .rename_i i hi
   cases e;cases ls with
   |cons l t=>cases t;cases l;show .inl #[_,rfl,hi,k _ H .refl cr (ma (G8 hi))]
  .cases e
 .cases e
  cases ls with
  |cons l t=>cases t;cases l;show .inr #[_,rfl,k _ H .refl cr (ma (by assumption))]
 .cases e
noncomputable def iU:List PV->Option PV
 |[.str x]=>if x.length<=640 then(V4 x).map .int else af
 |_=>af
theorem Ei:gB X (.type "int") (λxs H Q=>∃x n,xs=[.str x]/\V4 x=ae n/\x.length<=640/\Q (.int n) H):=by
 intro pins s σ H xs us Q I r h;let#[x,n,rfl,hn,hl,q]:=h;let#[u,rfl,t,rfl]:=Vals.one r;show KIN.call_text hn hl #[.int _,H,I.tok _,7e2,q]
theorem Nn:mh X.K (λxs H Q=>∃x n,xs=[.str x]/\V4 x=ae n/\x.length<=640/\Q (.int n) H) iU:=by
 intro ι H C ps vs z Q cr ls e k;ext iU e;split at e
 .split at e
  .rename_i x hx
   cases hn:V4 x with
   |none=>rw[hn]at e;cases e
   |some n=>
    rw[hn]at e;cases e;cases ls with
    |cons l t=>cases t;cases l;show#[_,_,rfl,hn,hx,15e6]
  .cases e
 .cases e
theorem Fj{prog:Yy}{A:Around}{s:Shared}{y:Str}{t u:Tok}(hy:(y.length==0)=ah)
  (h:∀l k,l.map (·.1)=Txt.split x y->Q (.ref s.heap.objs.size) {s with heap:=s.heap.push {cls:=.type "list",data:=.seq (strValues l).toArray},toks:=k})
  (hsz:x.length+2<=Yp):wpAny 5e0 A (call (.builtin "str.split") [.str x t,.str y u]) Q E s:=by
 have go:∀{S:Yw},Meets (W3.«str.split» #[[.str x t,.str y u],[]]) S->S A (wants Q E) s->wpAny 5e0 A (call (.builtin "str.split") [.str x t,.str y u]) Q E s:=UC F.slot_str_split (typeIs_str _ _ _) F.entry_str_split (F.args_str_split_2 _ _);have itself:Txt.split x y=[x]->listOfItself x t A (wants Q E) s:=λz=>h [(x,t)] s.toks z.symm;by_cases far:(decide (x.length<y.length)||decide (strKind x<strKind y))=ag
 .show go (meets_str_split_cannot_occur x y t u far) (itself (aE far))
 have near:(decide (x.length<y.length)||decide (strKind x<strKind y))=ah:=V9.mpr far;by_cases no:(occurrences x y 0 x.length (x.length+1)).isEmpty=ag
 .show go (meets_str_split_not_found x y t u near hy no) (itself ((aI far).trans (aE no)))
 have parts:Txt.split x y=partsBetween x (occurrences x y 0 x.length (x.length+1)) y.length:=(aI far).trans (aI no);have few:(partsBetween x (occurrences x y 0 x.length (x.length+1)) y.length).length<=sizeLine:=by
  rw[length_partsBetween];show YC (Nat.add_le_add_right (StrLaws.occ_length_le x y 0 x.length (x.length+1)) 1) 3e5
 show go (meets_str_split_sep x y t u near hy (V9.mpr no) 3e5 few) ?_;have z:=h (numbered s.toks (partsBetween x (occurrences x y 0 x.length (x.length+1)) y.length)) (s.toks+(partsBetween x (occurrences x y 0 x.length (x.length+1)) y.length).length) ((numbered_texts _ _).trans parts.symm);rw[←strsFrom_eq]at z;show z
theorem pR:∀l:List (Str×Tok),Vals ((l.map (·.1)).map V.str) (strValues l)
 |[]=>.nil
 |p::r=>.cons 7e2 (pR r)
theorem qd{K:W.Frag}{ι:6e8}{H:Hp}:∀l:List Str,(∀a∈l,a.length<=Yp)->aG K ι H (l.map PV.str) (l.map V.str)
 |[],_=>by ext aG;rfl
 |a::r,h=>by ext aG;show#[_,_,rfl,ma (h a (.head _)),qd r λb hb=>h b (.tail _ hb)]
theorem pZ(x y:Str):(Txt.split x y).length<=x.length+2:=by
 ext Txt.split;split
 .simp
 .split
  .simp
  .rw[length_partsBetween]
   have:=StrLaws.occ_length_le x y 0 x.length (x.length+1);lia
def Gj:V->List V->Hp->VK->Prop:=λx xs H Q=>∃z y:Str,x=.str z/\xs=[.str y]/\(y.length==0)=ah/\z.length<=100000/\∀p,H p=af->Q (.ref p) (upd H p (.lst ((Txt.split z y).map V.str)))
theorem Hi:MtR X "str.split" Gj:=by
 intro pins s σ H x xs v us Q I rx r h;let#[z,y,rfl,rfl,hy,hz,q]:=h;sleep 9;let#[u,rfl,t',rfl]:=Vals.one r;show Fj hy (λl k hl=>?_) (by rw[YH];lia);have e:=pR l;rw[hl]at e;show#[.ref _,_,I.laid (t':=k) (o:=.lst ((Txt.split z y).map V.str)) (λb ob q=>Yc _ q) (Yo _) #[?_,_,0,e,Yn _ rfl],rfl,q _ (I.cR.fresh (Yo _))];have:=pZ z y;rw[Yk,YH];lia
noncomputable def hU:PV->List PV->Option PV
 |.str z,[.str y]=>if 1<=y.length/\z.length<=100000 then ae (.lst ((Txt.split z y).map .str))else af
 |_,_=>af
theorem Fi:K8 X.K Gj hU:=by
 intro ι H C q v ps vs z Q cr lq ls e k;ext hU e;split at e
 .split at e
  .rename_i x y hy
   cases e;cases ls with
   |cons l t=>
    cases t;let#[rfl,hz]:=gQ lq;let#[rfl,hy']:=gQ l;show#[_,_,rfl,rfl,by have:=hy.1;simp;lia,hy.2,λp hp=>k _ _ (.new hp) (cr.new hp) (Zch cr hp (qd _ λa ha=>YC (part_short ha) hz))]
  .cases e
 .cases e
variable{o:Expr}{fo:3e6}{apos cc:Pos}
def Vfp(C:Cs)(x:SV):Option SV:=match cE C x with
 |some (.int i)=>if i.natAbs.log2<1920 then ae (.v (.str (c8 i)))else af
 |some (.str y)=>ae (.v (.str y))
 |_=>af
noncomputable def qr (x y:PV):Option PV:=match x,y with
 |.str z,.int n=>if z.length<=1000/\n<1000/\-1000<n then ae (.str (Txt.mul z n))else af
 |_,_=>af
theorem Dx(z:Str)(n:Int):(Txt.mul z n).cps.toList=(YG n.toNat z.cps.toList).flatten:=by
 ext Txt.mul;by_cases h:n<1
 .rw[aE h,show n.toNat=0 by lia];rfl
 .rw[aI h]
  split
  .rename_i h1
   rcases(Wp _ _).mp h1 with h1|h1
   .have:n=1:=by simpa using h1
    subst this;simp
   .have h2:z.cps.toList=[]:=by
     have:z.cps.size=0:=by have:=kT h1;show this
     simpa[←YO]using this
    simp[h2]
  .change((YG n.toNat z.cps).foldl (·++·) #[]).toList=_
   rw[ZdB];simp
theorem Hh(z:Str)(n:Int):(Txt.mul z n).length=n.toNat * z.length:=by
 change(Txt.mul z n).cps.size=_;rw[←YO,Dx];simp[List.length_flatten];rfl
noncomputable def PL:R2:=λx y H Q=>∃z n,x=.str z/\y=.int n/\z.length<=1000/\n<1000/\-1000<n/\Q (.str (Txt.mul z n)) H
theorem MK:fV X (Wu .Mult) PL:=by
 sleep 3;let#[z,n,rfl,rfl,hz,h1,h2,q]:=h;let#[t,rfl]:=(show ∃t,v=.str z t from rx)
 let#[t',rfl]:=(show ∃t,u=.int n t from ry)
 show SB.mul #[?_,λg _=>?_,λg _=>?_] λt2 k=>#[.str (Txt.mul z n),H,I.tok _,7e2,q]
 .simp;lia
 .have:(1000:Int)<=(2^63-1)/n:=by
   rw[Int.le_ediv_iff_mul_le 3e5];lia
  lia
 .have:z.length*n.toNat<=1000*1000:=Nat.mul_le_mul hz 3e5
  show dm (UD.mpr (YC this (by rw[YH];lia)))
theorem MY:iL X.K PL qr:=by
 sleep 7;ext qr e;split at e
 .split at e
  .rename_i s n hc
   cases e;let#[rfl,hs]:=gQ lx;cases ly;show#[_,_,rfl,rfl,hc.1,hc.2.1,hc.2.2,k _ H .refl cr ?_];ext Rep;show#[rfl,?_];have:n.toNat * s.length<=1000 * 1000:=Nat.mul_le_mul 3e5 hc.1;rw[Hh,YH];lia
  .cases e
 .cases e
def Veo:V->Option Int->Option Int->Hp->VK->Prop:=λx lo hi H Q=>∃z:Str,x=.str z/\z.length<=Yp/\Q (.str (Txt.slice z lo hi)) H
theorem Fs:B2 X Veo:=by
 intro pins s σ H x v vl vu lo hi sl Q I rx hs pl pu h;let#[z,rfl,hz,q]:=h;let#[t,rfl]:=(show ∃t,v=.str z t from rx)
 show#["str",_,PySem.F.slot_str_getitem.lookup,typeIs_str _ _ _,?_];have k:∀(l u:Option (Int×Tok)),vl=partValue l->vu=partValue u->l.map (·.1)=lo->u.map (·.1)=hi->wpAny 3e0 X.A (Ur (.str z t) (.ref sl)) 18e0 X.xe s:=by
  rintro l u rfl rfl rfl rfl;show wpAny_getItem_str_slice (l:=l) (u:=u) (st:=none) hs rfl (post_val_or_str #[YC (Txt.slice_le z _ _) hz,λt' k=>#[.str _,H,I.tok _,7e2,q]])
 cases pl<;>cases pu
 .show k af af rfl rfl rfl rfl
 .show k af (ae (_,_)) rfl rfl rfl rfl
 .show k (ae (_,_)) af rfl rfl rfl rfl
 .show k (ae (_,_)) (ae (_,_)) rfl rfl rfl rfl
def sj(C:Cs)(x:SV)(lo hi:Option Int):Option SV:=match cE C x with
 |some (.str z)=>ae (.v (.str (Txt.slice z lo hi)))
 |_=>af
def mz(f:3e6)(l h:18e5):aM->M SV:=λρ=>bP (f ρ) λx=>bP (l ρ) λlo=>bP (h ρ) λhi=>i7 λC=>sj C x lo hi
abbrev Ib:=jZ (λ_ j=>decide (0<j/\j<2^200)) λi j=>.int (i/j)
theorem GY:fV X (Wu .FloorDiv) (rI (λ_ j=>0<j/\j<2^200) λi j=>.int (i/j)):=opI λi j _ _ _ _ _ hc q=>by
 have h1:(0:Int)<j:=hc.1;have h2:j<2^200:=hc.2;show floordiv_int 3e5 (by rw[Int.fdiv_eq_ediv_of_nonneg i 3e5];show q) (.inl (PyProof.noPylong_of_log2 ?_));have:j.natAbs<2^200:=by lia
 have h0:j.natAbs≠0:=by lia
 show Nat.lt_trans ((Nat.log2_lt h0).mpr this) 2e7
end
end Pu
namespace Pu
open PySem PySem.Spec PySem.W PySem.Calls L2
open PyProof.Rows hiding St Fr
section
variable{X:Cx}{e o:Expr}{es:7e0}{f fo fa:3e6}{fs:2e8}{p pos apos cc:Pos}
noncomputable def wH:PV->List PV->Option PV
 |.str z,[.str y]=>ae (.bl (Txt.endswith z y))
 |_,_=>af
theorem M1:MtR X "str.endswith" (λx xs H Q=>∃(z y:Str),x=.str z/\xs=[.str y]/\Q (.bl (Txt.endswith z y)) H):=by
 intro pins s σ H x xs v us Q I rx rs h;let#[z,y,rfl,rfl,q]:=h;sleep 9;let#[u,rfl,t2,rfl]:=Vals.one rs;show SC.endswith #[.bl _,H,I,rfl,q]
theorem NQ:K8 X.K (λx xs H Q=>∃(z y:Str),x=.str z/\xs=[.str y]/\Q (.bl (Txt.endswith z y)) H) wH:=by
 intro ι H C q v ps vs z Q cr lq ls e k;ext wH e;split at e
 .cases e
  cases ls with
  |cons l t=>
   cases t;let#[rfl,hz]:=gQ lq;let#[rfl,hy]:=gQ l;show#[_,_,rfl,rfl,k _ H .refl cr fA]
 .cases e
def Vfs(C:Cs)(x y:SV):Option SV:=match x,cE C y with
 |.v (.str a),ae (.str b)=>if a.length+b.length<=1000000 then ae (.v (.str (a++b)))else af
 |_,_=>af
def Veq:V->List V->Hp->VK->Prop:=λx vs H Q=>∃l xs n y,x=.ref l/\vs=[.int n,y]/\H l=ae (.lst xs)/\0<=n/\n<=xs.length/\xs.length<1000000/\Q .aS (upd H l (.lst (xs.take n.toNat++y::xs.drop n.toNat)))
theorem Zz:MtM X "list.insert" Veq:=by
 intro pins s σ H x vs v us Q I rx rv h;let#[l,xs,n,y,rfl,rfl,hH,h0,h1,hz,q]:=h;cases rx;cases rv with
 |cons ra rr=>
  cases rr with
  |cons rb rn=>
   cases rn;let#[t,rfl]:=ra;let#[z,ba,m,r,hl,e]:=I.ZJ hH;show UC PySem.F.slot_list_insert #[_,e,rfl] PySem.F.entry_list_insert (PySem.F.args_list_insert_3 _ _ _) (PySem.AutoListH.list_insert_list_int_val_1 l ba.toArray m n t _ ?_ (by rw[Yj];lia)) #[e,?_]
   .ext Builtin.List.listFitsIndex
    simp;lia
   .show#[.aS,_,I.ZK (its':=ba.take n.toNat++_::ba.drop n.toNat) hH e ?_ ((r.take _).append (.cons rb (r.drop _))) ?_,rfl,q]
    .have hk:min n.toNat ba.length=n.toNat:=by lia
     erw[aI (show¬n<0 by lia),Yj,hk]
     apply Uj.mp;simp;show Xh 3e7
    .rw[YH];simp;lia
noncomputable def yQ (x:SV)(ys:List SV):M SV:=λC=>match x,ys with
 |.c k,[.v (.int n),.v p]=>match C[k]? with
  |some (.lst ps)=>if 0<=n/\n<=ps.length/\ps.length<100000 then ae (.v .aS,C.set k (.lst (ps.take n.toNat++p::ps.drop n.toNat)))else af
  |_=>af
 |_,_=>af
theorem DR{x:SV}{ys:List SV}{r:SV}(h:yQ x ys C=ae (r,C2)):∃k n p ps,x=.c k/\ys=[.v (.int n),.v p]/\C[k]? = ae 17e3/\(0<=n/\n<=ps.length/\ps.length<100000)/\r=.v .aS/\C2=C.set k (.lst (ps.take n.toNat++p::ps.drop n.toNat)):=by
 ext yQ h;split at h
 .split at h
  .split at h
   .cases h
    show#[_,_,_,_,rfl,rfl,by assumption,by assumption,rfl,rfl]
   .cases h
  .cases h
 .cases h
def pF(fo:3e6)(fs:2e8):aM->M SV:=λρ=>bP (fo ρ) λx=>bP (gT x) λ_=>bP (fs ρ) λys=>yQ x ys
def cW(C:Cs)(x:SV)(lo hi:Option Int):Option SV:=match cE C x with
 |some (.str z)=>ae (.v (.str (Txt.slice z lo hi)))
 |some p=>(yh lo hi p).map .v
 |none=>af
def aQ(f:3e6)(l h:18e5):aM->M SV:=λρ=>bP (f ρ) λx=>bP (l ρ) λlo=>bP (h ρ) λhi=>i7 λC=>cW C x lo hi
def wX(C:Cs)(x y:SV):Option 5e5:=match cE C x,cE C y with
 |some (.lst a),ae (.lst b)=>if a.length+b.length<=100000 then ae (a++b)else af
 |_,_=>af
def jJ(fa fb:3e6):aM->M 5e5:=λρ=>bP (fa ρ) λx=>bP (fb ρ) λy=>i7 λC=>wX C x y
end
end Pu
namespace Pu
open PySem PySem.Spec L2
open PyProof.Rows hiding St Fr
def xx(K:W.Frag)(TT:13e4):Prop:=∀a xs,TT.lookup a=ae xs->∃(o:Obj)(ba:Array Value)(n:Nat),K.lookup a=ae o/\o.cls=.type "tuple"/\o.data=.seq ba n/\ba.size<=Yp/\Vals (xs.map V.str) ba.toList/\∀x∈xs,x.length<=Yp
theorem xx.sq{TT:13e4}(h:xx K TT){xs:2e2}(e:TT.lookup a=ae xs)(H:Hp):jr K H a (xs.map V.str):=by
 let#[o,ba,n,h1,h2,h3,h4,h5,_]:=h a xs e;show .inr #[o,ba,n,h1,h2,h3,h4,h5]
section
variable{X:Cx}{e:Expr}{es:7e0}{fs:2e8}{p pos:Pos}{TT:13e4}
noncomputable def lN (TT:13e4):List PV->Option PV
 |[.fn a]=>(TT.lookup a).map λxs=>.int xs.length
 |_=>af
theorem M8(hT:xx X.K TT):mh X.K (λxs H Q=>∃x n,xs=[x]/\Vbr X.K x H n/\Q (.int n) H) (lN TT):=by
 intro ι H C ps vs z Q cr ls e k;ext lN e;split at e
 .rename_i a
  cases hx:TT.lookup a with
  |none=>rw[hx]at e;cases e
  |some xs=>
   rw[hx]at e;cases e;cases ls with
   |cons l t=>cases t;cases l;show#[_,_,rfl,.inr #[_,hT.sq hx H,by simp],15e6]
 .cases e
end
noncomputable def k7 (TT:13e4):SV->Option 5e5
 |.v (.fn a)=>(TT.lookup a).map λxs=>xs.map .str
 |_=>af
theorem OW{s:Shared}{TT:13e4}(hT:xx X.K TT){x:SV}{v:V}(I:L2.Inv X pins σ H s)(r:cH X.K ι H x v)(e:k7 TT x=ae ps)(ru:L2.RelV v u):∃S:ZS,u=S.val/\S.src s.heap/\KR X.K ι H S ps:=by
 ext k7 e;split at e
 .rename_i a
  cases hx:TT.lookup a with
  |none=>rw[hx]at e;cases e
  |some xs=>
   rw[hx]at e;cases e;have hv:v=.ref a:=by unfold cH Rep at r;show r
   subst hv;let#[ba,_,p,_]:=I.tuple (hT.sq hx H);let#[_,_,_,_,_,_,_,_,hl]:=hT a xs hx;show#[.t a,ru,#[_,p],λι2 H2 x=>#[_,hT.sq hx H2],λι2 H2 x i p hp=>?_,λι2 H2 x i hi=>#[_,hT.sq hx H2,by simpa using hi]];rw[YS]at hp;cases hi:xs[i]? with
   |none=>rw[hi]at hp;cases hp
   |some y=>
    rw[hi]at hp;cases hp;show#[.str y,#[_,hT.sq hx H2,by rw[YS,hi];rfl],ma (hl y (YY hi))]
 .cases e
end Pu
namespace Pu
open PySem PySem.Spec PySem.Calls L2
open PyProof.Rows hiding St Fr
section
variable{prog:Yy}{w:World}{A:Around}{E:2e9}{s:Shared}
theorem qL{it t:Addr}{items:Array Value}(HI:t≠it):∀(l:4e4)(i:Nat)(s:Shared)(Q:List Value->Shared->Prop),items.toList.drop i=l->s.heap.IsListIter it t i->s.heap.IsList t items->
  (∀h',h'.IsListIter it t (i+l.length)->X5 it s.heap h'->Q l {s with heap:=h'})->wpAny (model prog w) A (draw (.ref it) l.length) Q E s
 |[],i,s,Q,_,a,_,q=>Yh (q s.heap a (Heap.SameBut.refl ..))
 |x::r,i,s,Q,e,a,b,q=>by
  have one:items[i]? = ae x:=by
   have:=congrArg List.head? e;rw[List.head?_drop]at this;simpa using this
  have two:items.toList.drop (i+1)=r:=by
   rw[←List.tail_drop,e];rfl
  apply Yb (m:=pyNext (.ref it));show wpAny_pyNext_list_item a b one λh1 a1 b1=>?_;apply Yb;apply Xc;show qL HI r (i+1) _ _ two a1 (b.extBut b1.extBut HI) λh2 a2 b2=>Yh (q h2 ?_ (b1.trans b2));rw[YB,Nat.add_comm r.length,←Nat.add_assoc];show a2
theorem ZcT{t:Addr}{Q:List Value->Shared->Prop}(hh:A.handled=af)(ht:s.heap.IsList t items)
  (hQ:∀h',Vs s.heap.objs.size s.heap h'->Q items.toList {s with heap:=h'}):wpAny (model prog w) A (unpackItems (.ref t) items.size af) Q E s:=by
 have new:t≠s.heap.objs.size:=λz=>by
  let#[o,ho,_]:=ht;show XJ _ (z▸Ys ho)
 have iter:∀{P:10e6}{B:2e9},P ah s->wpAny 5e0 A (notIterableAtAll (.ref t)) P B s:=λz=>by
  delta notIterableAtAll
  apply Yb;show wpAny_specialOf ht.typeIs slot_list_iter.lookup (Yh z)
 have len:items.toList.length=items.size:=by simp
 delta unpackItems
 apply Yb;apply iter;apply Yb;apply Xc;show Vq ht ?_;apply Yb;apply Xc;have all:=qL (prog:=prog) (w:=w) (A:=A) (E:=E) (it:=s.heap.objs.size) (items:=items) new items.toList 0;rw[len]at all;show all _ _ 3e7 #[_,Yn _ rfl,rfl,rfl] (ht.push _) λh1 a1 b1=>?_;have Fd:h1.IsList t items:=(ht.push _).extBut b1.extBut new;have whole:¬items.toList.length<items.size:=by lia
 erw[whole,if_false]
 apply Yb;apply Xc;show wpAny_pyNext_list_end hh a1 Fd 3e7 λh2 b2=>?_;show Yh (hQ h2 λb o z y=>b2 b o z (b1.extBut b o z (Yc _ y)))
theorem ZcL{x1}{t:Addr}{Q:14e2}(hh:A.handled=af)(ht:s.heap.IsList t items)
  (hn:(Y1 elts env).length=items.size) (VcJ:(Y1 elts env).findIdx? (·.1)=af)
  (h:∀h',Vs s.heap.objs.size s.heap h'->wpAny 5e0 A (assignInOrder ((Y1 elts env).map (·.2)) items.toList) Q E {s with heap:=h'}):
  wpAny 5e0 A (assign (.Tuple elts x1 pos) env (.ref t)) Q E s:=by
 have spread:∀{P:List Value->Shared->Prop},(∀h',Vs s.heap.objs.size s.heap h'->P items.toList {s with heap:=h'})->wpAny (model prog w) A (unpackItems (.ref t) items.size af) P E s:=λq=>ZcT hh ht q;rw[assign_Tuple];apply Yb;apply WQ
 delta unpack
 rw[VcJ,hn];apply Yb;apply Xc;show spread h
end
section
variable{X:Cx}{es:7e0}{pos:Pos}
noncomputable def Ve8 (K:W.Frag)(n:Nat)(t:KS):TG:=λv σ H Q=>∃a xs,v=.ref a/\gL K H a xs/\xs.length=n/\t xs σ H Q
theorem TF{k:Nat}{t:KS}(hc:12e0)(h:KY X es t)
  (hn:(Y1 es X.env).length=n:=by rfl) (jk:(Y1 es X.env).findIdx? (·.1)=af:=by rfl):PG X (.Tuple es k pos) (Ve8 X.K n t):=by
 intro pins s σ H v u Q I r hw;let#[a,xs,e1,hq,hl,hw]:=hw;subst e1;cases r;let#[ba,rv,ht,hz]:=I.list hq;show ZcL (I.ok.hd hc) ht.isList (by simp[hn,←hl,rv.length]) jk λh' hx=>?_;have I1:L2.Inv X pins σ H {s with heap:=h'}:=I.kept (t':=s.toks) λb o e=>hx b o (YK (Ys e)) e;show h pins _ σ H xs _ Q I1 (by simpa using rv) hw
noncomputable def HP (gs:14e4)(n:Nat):PV->aM->Option aM
 |.lst ps,ρ=>if ps.length=n then gs ps ρ else af
 |_,_=>af
end
end Pu
namespace Pu
open PySem PySem.Spec PySem.W PySem.Calls L2
open PyProof.Rows hiding St Fr
noncomputable def ME (x:SV)(ys:List SV):M SV:=λC=>match x,ys with
 |.c k,[.v (.int n)]=>match C[k]? with
  |some (.lst ps)=>match ps[n.toNat]? with
   |some p=>if 0<=n/\ps.length<100000 then ae (.v p,C.set k (.lst (ps.take n.toNat++ps.drop (n.toNat+1))))else af
   |none=>af
  |_=>af
 |_,_=>af
theorem Dl{x:SV}{ys:List SV}{r:SV}(h:ME x ys C=ae (r,C2)):∃k n p ps,x=.c k/\ys=[.v (.int n)]/\C[k]? = ae 17e3/\ps[n.toNat]? = ae p/\(0<=n/\ps.length<100000)/\r=.v p/\C2=C.set k (.lst (ps.take n.toNat++ps.drop (n.toNat+1))):=by
 ext ME h;split at h
 .split at h
  .split at h
   .split at h
    .cases h
     show#[_,_,_,_,rfl,rfl,by assumption,by assumption,by assumption,rfl,rfl]
    .cases h
   .cases h
  .cases h
 .cases h
def M5(fo:3e6)(fs:2e8):aM->M SV:=λρ=>bP (fo ρ) λx=>bP (gT x) λ_=>bP (fs ρ) λys=>ME x ys
end Pu
namespace Pu
open PySem PySem.Spec L2
open PyProof.Rows hiding St
section
variable{X:Cx}{o1 i1 o2 i2 a b:Expr}{f1 g1 f2 g2:3e6}{fs:2e8}{pos p1 p2 pt pt2:Pos}{kt k2}
def A5(v:SV)(fo fi:3e6):aM->M PF:=λρ=>bP (fo ρ) λo=>bP (fi ρ) λi=>setC v o i ρ
theorem Zde{fo fi:3e6}{v:SV}{x:V}{C':Cs}{fl:PF}{Q:St->Hp->Prop}(sr:SR K ι H ρ σ C)(r:cH K ι H v x)(e:A5 v fo fi ρ C=ae (fl,C'))
  (q:∀H',Fr ι H H'->CR K ι H' C'->Q σ H'):fl=.nx ρ/\VcW (tM K fo) (tM K fi) PK x σ H Q:=by
 let#[o,C2,e2,h2]:=dI e;let#[i,C3,e3,h3]:=dI h2;let#[k,n,p',ps,j,ho,hi,hv,hc,hj,hf,hC]:=qa h3;clear e h2 h3;subst ho hi hv hf hC;show#[rfl,ι,ρ,C,_,C2,sr,e2,λy H2 f2 c2 r2=>#[ι,ρ,C2,_,C3,sr.step f2 c2,e3,λw H3 f3 c3 r3=>?_]];let#[a,rfl,hk]:=r2;have r3:w=.int n:=by unfold cH Rep at r3;show r3
 let#[vs,h1,rv]:=Ox c3 hk hc;have r1':Rep K ι H3 p' x:=Rep.mono c2 f3 _ _ (Rep.mono sr.cr f2 _ _ r);let#[c4,f4]:=oi c3 hk (rv.set j r1');show#[a,vs,n,j,rfl,r3,h1,by rw[←rv.length];show hj,q _ (f2.trans (f3.trans f4)) c4]
def A4(fs:2e8)(f1 g1 f2 g2:3e6):aM->M PF:=λρ=>bP (fs ρ) λxs=>match xs with
 |[x,y]=>bP (A5 x f1 g1 ρ) λ_=>A5 y f2 g2 ρ
 |_=>λ_=>af
end
noncomputable def vQ (n pad:Nat)(body:8e9):List SV->M 5e5:=λss C=>if ss.length=n then(match body (ss.map ae++YG pad af) C with
 |some (.rt (.c k),C')=>if k<C.length then af else match C'[k]? with
  |some (.lst ps)=>ae (ps,C'.take C.length)
  |_=>af
 |_=>af)else af
theorem DE{k:Nat}(c:CR K 9e6 H C)(hk:(ι++ι2)[k]? = ae a)(hC:C[k]? = ae 17e3)(hn:ι.length<=k):
  ∃vs Hx,H=upd Hx a (.lst vs)/\Hx a=af/\CR K ι Hx (C.take ι.length)/\aG K ι Hx ps vs/\∀b o,b≠a->H b=ae o->Hx b=ae o:=by
 let#[vs,h1,rv]:=c.ok k a _ hk hC;have nd:=c.nd;have hai:a∉ι:=λz=>by
  let#[j,hj,ej]:=W2 z;have hjk:(ι++ι2)[j]? = ae a:=by rw[Yu hj,Yd hj,ej]
  have e1:=(YJ.mp hjk)
  have e2:=(YJ.mp hk)
  have:=(Vz nd).mp (e1.2.trans e2.2.symm);lia
 have sm:∀b o,b≠a->H b=ae o->(λb=>if b=a then af else H b) b=ae o:=λb o hb z=>by
  change(if b=a then af else H b)=ae o;rw[aI hb];show z
 have tr:∀b o,b∉ι++ι2->H b=ae o->b∉ι/\(λb=>if b=a then af else H b) b=ae o:=λb o hb z=>#[λq=>hb (Xg _ q),sm b o (λq=>hb (by rw[q];show YY hk)) z]
 show#[vs,λb=>if b=a then af else H b,?_,by simp,?_,aG.tr c tr _ _ rv,sm]
 .funext b
  ext upd;by_cases hb:b=a
  .rw[aE hb,hb,h1]
  .rw[aI hb];dsimp only;rw[aI hb]
 .have hlen:(ι++ι2).length=C.length:=c.len
  rw[YT]at hlen;show#[by rw[Y8];lia,(Vr.mp nd).1,λj b d e1 e2=>?_];have hj:j<ι.length:=by
   rcases Y2 j ι.length with q|q
   .show q
   .rw[YA.mpr q]at e1;cases e1
  rw[Xj hj]at e2;have hb:b≠a:=λz=>hai (z▸YY e1);have ok:=c.ok j b d (by rw[Yu hj];show e1) e2;cases d with
  |lst ps=>let#[vs,e,r]:=ok;show#[vs,sm _ _ hb e,aG.tr c tr _ _ r]
  |gH ks ps=>let#[qs,vs,e,hl,hk,r]:=ok;show#[qs,vs,sm _ _ hb e,hl,hk,aG.tr c tr _ _ r]
  |fz ks ps=>let#[vs,e,hl,r]:=ok;show#[vs,sm _ _ hb e,hl,aG.tr c tr _ _ r]
  |_=>show ok.elim
end Pu
namespace Sn
open PySem PySem.Spec PySem.SetTable Pu L2
noncomputable instance:DecidableEq PV:=λa b=>Classical.propDecidable (a=b)
end Sn
namespace Pu
open PySem PySem.Spec L2
open PyProof.Rows hiding St Fr
section
variable{X:Cx}{e o st:Expr}{fa fo fs:3e6}{p p2 pos apos cc:Pos}
def Aa(C:Cs)(x k:SV):Option 5e5:=match cE C x,k with
 |some (.lst [a,b,c,d]),.v (.int i)=>if i=2 then ae [a,c]else af
 |_,_=>af
def sV(fa fs:3e6):aM->M 5e5:=λρ=>bP (fa ρ) λx=>bP (fs ρ) λk=>i7 λC=>Aa C x k
theorem ya{x k:SV}{z:List PV}(h:Aa C x k=ae z):∃a b c d,cE C x=ae (.lst [a,b,c,d])/\k=.v (.int 2)/\z=[a,c]:=by
 ext Aa h;split at h
 .split at h
  .rename_i hi
   subst hi;cases h;show#[_,_,_,_,by assumption,rfl,rfl]
  .cases h
 .cases h
theorem VbY{a b c d:PV}(h:aG K ι H [a,b,c,d] vs):∃w x y z,vs=[w,x,y,z]/\aG K ι H [a,c] [w,y]:=by
 let#[w,_,rfl,h1,t]:=h.inv;let#[x,_,rfl,h2,t]:=t.inv;let#[y,_,rfl,h3,t]:=t.inv;let#[z,_,rfl,h4,t]:=t.inv;cases t.kC;show#[w,x,y,z,rfl,.cons h1 (.cons h3 .nil)]
theorem vals4{w x z:V}{us:4e4}(h:Vals [w,x,y,z] us):∃a b c d,us=[a,b,c,d]/\Vals [w,y] [a,c]:=by
 cases h with|cons h1 h=>cases h with|cons h2 h=>cases h with|cons h3 h=>cases h with|cons h4 h=>cases h;show#[_,_,_,_,rfl,.cons h1 (.cons h3 .nil)]
end
end Pu
namespace Pu
open PySem PySem.Spec L2
open PyProof.Rows hiding St Fr
@[irreducible]def cf(X:Cx) (e:Expr) (f:3e6):Prop:=EM X e f
theorem oF:@cf=@EM:=by ext cf;rfl
@[irreducible]def zM(X:Cx) (es:7e0) (f:2e8):Prop:=AM X es f
theorem uh:@zM=@AM:=by ext zM;rfl
@[irreducible]def i4(X:Cx) (e:Expr) (f:7e3):Prop:=TMt X e f
theorem mI:@i4=@TMt:=by ext i4;rfl
@[irreducible]def OI(X:Cx) (e:Expr) (f:7e3):Prop:=WM X e f
theorem Vbn:@OI=@WM:=by ext OI;rfl
@[irreducible]def KW(X:Cx) (e:Expr) (f:12e2):Prop:=FM X e f
theorem Vbp:@KW=@FM:=by ext KW;rfl
@[irreducible]def pO(X:Cx) (st:Stmt) (f:8e9):Prop:=SM X st f
theorem uf:@pO=@SM:=by ext pO;rfl
@[irreducible]def B4(X:Cx) (lC:List Stmt) (f:8e9):Prop:=BM X lC f
theorem zL:@B4=@BM:=by ext B4;rfl
@[irreducible]def Es(X:Cx) (tg:Expr) (g:5e8):Prop:=GM X tg g
theorem ug:@Es=@GM:=by ext Es;rfl
@[irreducible]def zK(X:Cx) (ts:7e0) (g:14e4):Prop:=GMs X ts g
theorem OJ:@zK=@GMs:=by ext zK;rfl
@[irreducible]def ES(X:Cx) (tg iter:Expr) (f:12e2):Prop:=IM X tg iter f
theorem zJ:@ES=@IM:=by ext ES;rfl
@[irreducible]def zH(X:Cx) (ifs:7e0) (t:7e3):Prop:=TsM X ifs t
theorem B3:@zH=@TsM:=by ext zH;rfl
@[irreducible]def LU(X:Cx) (e:Option Expr) (f:18e5):Prop:=OM X e f
theorem Vbo:@LU=@OM:=by ext LU;rfl
end Pu
local macro_rules
 | `(tactic| subst_eqs)=>`(tactic| erw[Pu.oF,Pu.uh,Pu.mI,Pu.Vbn,Pu.Vbp,Pu.uf,Pu.zL,Pu.ug,Pu.OJ,Pu.zJ,Pu.B3,Pu.Vbo]at *)
namespace Pu
open PySem PySem.Spec L2
open PyProof.Rows hiding St
theorem ub{f:7e3}(h:OI X e f):i4 X e f:=by
 subst_eqs;show h _
section
variable{X:Cx}{a b e c:Expr}{es:7e0}{fa fb fc:3e6}{pos p:Pos}{x:Str}
theorem aN(i:Nat)(hN:11e7:=by rfl)(hv:Eo X.env.scope x:=by first|show Or.inl rfl|show Or.inr 1e7|show Or.inr (Or.inr rfl))(hd:4e1:=by decide)
  (me:(x==("__classdict__":Str))=ah:=by decide):cf X (.Name x pos) (aV i):=by
 subst_eqs;apply@zh<;>assumption
theorem bW{i j pos}:cf X (.Constant (.int i) j pos) (mC (.int i)):=by
 subst_eqs;show Q8 TL λι H=>by ext Rep;rfl
theorem Zbs{i j pos}:cf X (.Constant (.bool i) j pos) (mC (.bl i)):=by
 subst_eqs;show Q8 Vcl λι H=>by ext Rep;rfl
theorem xv{j pos}:cf X (.Constant .none j pos) 11e2:=by
 subst_eqs;show Q8 ni λι H=>by ext Rep;rfl
theorem cV{i j pos}(h:i.length<=sizeLine:=by decide +kernel):cf X (.Constant (.str i) j pos) (mC (.str i)):=by
 subst_eqs;show Q8 GQ λι H=>by ext Rep;show#[rfl,h]
theorem Zb2{i:Int}(hg:Gl X x)(hm:∃t,X.mg x=ae (.int i t))(hd:4e1:=by decide):cf X (.Name x pos) (mC (.int i)):=by
 subst_eqs;let#[t,hm]:=hm;show Q8 (Zcg (v:=.int i) hg hm 7e2 hd) λι H=>by ext Rep;rfl
theorem ZcG{i:Str}(hg:Gl X x)(hm:∃t,X.mg x=ae (.str i t))(h:i.length<=sizeLine:=by decide +kernel)(hd:4e1:=by decide):cf X (.Name x pos) (mC (.str i)):=by
 subst_eqs;let#[t,hm]:=hm;show Q8 (Zcg (v:=.str i) hg hm 7e2 hd) λι H=>by ext Rep;show#[rfl,h]
theorem OD{n:String}(hg:Gl X x)(hm:X.mg x=af)(hv:Y0 x=ae (.type n))(hn:x≠"__name__":=by decide)(hd:4e1:=by decide):cf X (.Name x pos) (mC (.ty n)):=by
 subst_eqs;show Q8 (Ao (v:=.ty n) hg hm hv rfl hn hd) λι H=>by ext Rep;rfl
theorem fX{op:CmpOp}{r:R2}{g:11e5}(ho:fV X (Y6 op) r)(hg:j' X.K r g)(ha:cf X a fa)(hb:cf X b fb)(hm:Vc op b=ah):cf X (.Compare a [op] [b] pos) (aD g fa fb):=by
 subst_eqs;show PE.imp (MJ ho ha hb hm) λ_ _ _ h=>zZ hg h
theorem ZdS{op yD:CmpOp}{r r':R2}{g g':11e5}(ho:fV X (Y6 op) r)(pK:fV X (Y6 yD) r')(hg:j' X.K r g)(hg':j' X.K r' g')(ha:cf X a fa)(hb:cf X b fb)(hc:cf X c fc)
  (hm:lastMarks [op,yD] [b,c]=ah:=by with_unfolding_all rfl):cf X (.Compare a [op,yD] [b,c] pos) (ji g g' fa fb fc):=by
 subst_eqs;show PE.imp (GW ho pK ha hb hc hm) λ_ _ _ h=>uS hg hg' h
theorem eG{op:CmpOp}{r:R2}{g:11e5}(ho:fV X (Y6 op) r)(hg:j' X.K r g)(ha:cf X a fa)(hb:cf X b fb)(hm:Vc op b=ah):i4 X (.Compare a [op] [b] pos) (aH (aD g fa fb)):=by
 subst_eqs;show PT.imp (Ak ho ha hb hm) λσ H Q h=>by
    let#[ι,ρ,C,x,C',sr,e,q]:=zY h;show zZ hg #[ι,ρ,C,x,C',sr,e,q]
theorem ZdQ{op yD:CmpOp}{r r':R2}{g g':11e5}(ho:fV X (Y6 op) r)(pK:fV X (Y6 yD) r')(hg:j' X.K r g)(hg':j' X.K r' g')(ha:cf X a fa)(hb:cf X b fb)(hc:cf X c fc)
  (hm:lastMarks [op,yD] [b,c]=ah:=by with_unfolding_all rfl):i4 X (.Compare a [op,yD] [b,c] pos) (aH (ji g g' fa fb fc)):=by
 subst_eqs;show PT.imp (GC ho pK ha hb hc hm) λσ H Q h=>by
    let#[ι,ρ,C,x,C',sr,e,q]:=zY h;show uS hg hg' #[ι,ρ,C,x,C',sr,e,q]
theorem oX(ha:cf X a fa)(he:∀whole,isTrue a X.env whole=(do let v ←whole;UN a.pos;Vo [v] (truthy v)):=by intro _;rfl):i4 X a (eM fa):=by
 subst_eqs;show PT.imp (Zc2 ha he) λσ H Q h=>by
    sleep 1;let#[e2,rfl]:=oW e;show#[ι,ρ,C,x,C',sr,e1,λv H1 f1 c1 r1=>#[z,?_,q H1 f1 c1]];cases hd:cE C' x with
    |none=>rw[hd]at e2;cases e2
    |some p=>rw[hd]at e2;show(r1.lies c1 hd).tru e2
theorem uC{f:7e3}(h:i4 X a f):i4 X (.UnaryOp .Not a pos) (dG f):=by
 subst_eqs;show PT.imp (yy h) λσ H Q h=>by
   sleep 1;cases e;show#[ι,ρ,C,x,_,sr,e1,λH1 f1 c1=>q H1 f1 c1]
theorem Zbr{f:7e3}(h:i4 X a f):OI X (.BoolOp .And [a] pos) f:=by
 subst_eqs;show Mv h
theorem ER{f:7e3}(h:i4 X a f):OI X (.BoolOp .Or [a] pos) f:=by
 subst_eqs;show Gz h
theorem KQ{f g:7e3}(h:i4 X a f)(k:OI X (.BoolOp .And (b::rest) pos) g):OI X (.BoolOp .And (a::b::rest) pos) (d8 f g):=by
 subst_eqs;show PW.imp (Tx h k) λσ H Q h=>by
   sleep 1;show#[ι,ρ,C,x,C1,sr,e1,λH1 f1 c1=>?_];cases x with
   |true=>rw[aE rfl]at e⊢;show#[ι,ρ,C1,z,C',9e5,e,λH2 f2 c2=>q H2 (f1.trans f2) c2]
   |false=>rw[aI Yt]at e⊢;cases e;show q H1 f1 c1
theorem rj{f g:7e3}(h:i4 X a f)(k:OI X (.BoolOp .Or (b::rest) pos) g):OI X (.BoolOp .Or (a::b::rest) pos) (dY f g):=by
 subst_eqs;show PW.imp (P1 h k) λσ H Q h=>by
   sleep 1;show#[ι,ρ,C,x,C1,sr,e1,λH1 f1 c1=>?_];cases x with
   |true=>rw[aE rfl]at e⊢;cases e;show q H1 f1 c1
   |false=>rw[aI Yt]at e⊢;show#[ι,ρ,C1,z,C',9e5,e,λH2 f2 c2=>q H2 (f1.trans f2) c2]
theorem xr{op}{f:3e6}(h:cf X a f):cf X (.BoolOp op [a] pos) f:=by
 subst_eqs;show TH h
theorem kJ{f g:3e6}(h:cf X a f)(k:cf X (.BoolOp .And (b::rest) pos) g):cf X (.BoolOp .And (a::b::rest) pos) (dj f g):=by
 subst_eqs;show PE.imp (TN h k) λσ H Q h=>by
   sleep 1;let#[k,C2,e2,e3]:=dI e;let#[hx,hC]:=Zdr e2;subst hx hC;clear e e2;have e:=e3;show#[ι,ρ,C,_,C2,sr,e1,λv H1 f1 c1 r1=>#[k,F8 r1,?_]];cases k with
   |true=>rw[aE rfl]at e⊢;show#[ι,ρ,C2,z,C',9e5,e,λv' H2 f2 c2 r2=>q v' H2 (f1.trans f2) c2 r2]
   |false=>rw[aI Yt]at e⊢;cases e;show q _ H1 f1 c1 qh
theorem Mu{f g:3e6}(h:cf X a f)(k:cf X (.BoolOp .Or (b::rest) pos) g):cf X (.BoolOp .Or (a::b::rest) pos) (ZF f g):=by
 subst_eqs;show PE.imp (Vci h k) λσ H Q h=>by
   sleep 1;let#[k,C2,e2,e3]:=dI e;let#[hx,hC]:=Zdr e2;subst hx hC;clear e e2;have e:=e3;show#[ι,ρ,C,_,C2,sr,e1,λv H1 f1 c1 r1=>#[k,F8 r1,?_]];cases k with
   |false=>rw[aI Yt]at e⊢;show#[ι,ρ,C2,z,C',9e5,e,λv' H2 f2 c2 r2=>q v' H2 (f1.trans f2) c2 r2]
   |true=>rw[aE rfl]at e⊢;cases e;show q _ H1 f1 c1 qh
theorem vm{f:3e6}(h:cf X a f):cf X (.UnaryOp .Not a pos) (A6 f):=by
 subst_eqs;show PE.imp (TJ h) λσ H Q h=>by
   sleep 1;let#[k,C2,e2,e3]:=dI e;let#[hx,hC]:=Zdr e2;subst hx hC;clear e e2;have e:=e3;show#[ι,ρ,C,_,C2,sr,e1,λv H1 f1 c1 r1=>#[k,F8 r1,?_]];cases e;show q _ H1 f1 c1 qh
theorem mq{t:7e3}{f g:3e6}(hc:i4 X c t)(h:cf X a f)(k:cf X b g):cf X (.IfExp c a b pos) (ZG t f g):=by
 subst_eqs;show PE.imp (vo hc h k) λσ H Q h=>by
   sleep 1;show#[ι,ρ,C,x,C1,sr,e1,λH1 f1 c1=>?_];cases x with
   |true=>rw[aE rfl]at e⊢;show#[ι,ρ,C1,z,C',9e5,e,λv H2 f2 c2 r2=>q v H2 (f1.trans f2) c2 r2]
   |false=>rw[aI Yt]at e⊢;show#[ι,ρ,C1,z,C',9e5,e,λv H2 f2 c2 r2=>q v H2 (f1.trans f2) c2 r2]
theorem bD:zM X [] ao:=by
 subst_eqs;apply@KG<;>assumption
theorem aJ{f:3e6}{g:2e8}(h:cf X e f)(k:zM X es g)(hs:1e3:=by rfl):zM X 4e8 (ak f g):=by
 subst_eqs;apply@BY<;>assumption
theorem cP{k:Nat}{ps:2e2}{fs:2e8}(G:aO X.prog X.w X.K X.mg X.base cu k f fd ps (aF X.K F))(hr:dy k X.A)(hg:Gl X x)(hm:X.mg x=ae (.ref f))(hk:YD X.K (.ref f)=ag)(hb:Binds X.K fd ps [])
  (ha:13e5) (md:4e1:=by decide) (he:1e3:=by rfl) (gk:3e4:=by rfl):
  cf X 11e6 (bw F fs):=by
 subst_eqs;show PE.imp (sL G hr hg hm hk hb .nil Ap ha md he gk) λσ H Q h=>by
   let#[ι,ρ,C,z,C',sr,e,q]:=h;let#[xs,C1,e1,e]:=dI e;show#[ι,ρ,C,xs,C1,sr,e1,λvs H1 f1 c1 r1=>?_];change aF X.K F (vs++[]) H1 Q E0;rw[Yv];show#[ι,xs,C1,z,C',c1,r1,e,λv H2 f2 c2 r2=>q v H2 (f1.trans f2) c2 r2]
end
section
variable{X:Cx}{a b e c tg:Expr}{es:7e0}{st:Stmt}{rest lC xY:List Stmt}{f g:8e9}{pos p pos':Pos}{x:Str}
theorem iK:B4 X [] bo:=by
 subst_eqs;show i8.imp mr λD σ H h_=>by let#[ι,ρ,C,fl,C',sr,e,d]:=h_;cases e;show d.P4 sr
theorem cZ(h:pO X st f):B4 X [st] f:=by
 subst_eqs;show sF h
theorem cD(h:pO X st f)(k:B4 X rest g):B4 X (st::rest) (aC f g):=by
 subst_eqs;show i8.imp (KJ h k) λD σ H h_=>by
   sleep 6;let#[fl1,C1,e1,e]:=dI e;show#[ι,ρ,C,fl1,C1,sr,e1,?_];cases fl1 with
   |nx ρ1=>show λι2 σ' H' x sr'=>#[ι++ι2,ρ1,C1,fl,C',sr',e,d.tr sr'.cr x]
   |rt r=>cases e;show d
   |bk ρ1=>cases e;show d
   |ct ρ1=>cases e;show d
   |rf ps=>cases e;show d
   |rq ps=>cases e;show d
theorem gm{t:7e3}(hc:i4 X c t)(h:B4 X lC f)(k:B4 X xY g):pO X (.If c lC xY pos) (bx t f g):=by
 subst_eqs;show PS.imp (qk hc h k) λD σ H h_=>by
   sleep 6;let#[z,C1,e1,e]:=dI e;show#[ι,ρ,C,z,C1,sr,e1,λH1 f1 c1=>?_];cases z with
   |true=>rw[aE rfl]at e⊢;show#[ι,ρ,C1,fl,C',9e5,e,d.fr c1 f1]
   |false=>rw[aI Yt]at e⊢;show#[ι,ρ,C1,fl,C',9e5,e,d.fr c1 f1]
theorem fL{f:3e6}(h:cf X e f):pO X (.Return (ae e) pos) (bj f):=by
 subst_eqs;show PS.imp (sH h) λD σ H h_=>by
   sleep 6;let#[z,C1,e1,e]:=dI e;cases e;show#[ι,ρ,C,z,_,sr,e1,λv H1 f1 c1 r1=>d [] v H1 (Ex.fr f1) (by rw[Yv];show c1) (by rw[Yv];show r1)]
theorem qj{f:12e2}(h:KW X e f):pO X (.Return (ae e) pos) (vP f):=by
 subst_eqs;show PS.imp (sH h) λD σ H h_=>by
   sleep 6;let#[ps,C1,e1,g1]:=dI e;cases g1;show#[ι,ρ,C,ps,_,sr,e1,λq vs H1 f1 c1 hq rs=>d [] q vs H1 (Ex.fr f1) (by rw[Yv];show c1) hq (by rw[Yv];show rs)]
theorem kS{f:3e6}(h:cf X e f)(hs:Xv e af pos.line X.env=pure ah:=by rfl):pO X (.Expr e pos) (cb f):=by
 subst_eqs;show PS.imp (Al h hs) λD σ H h_=>by
   sleep 6;let#[z,C1,e1,e]:=dI e;cases e;show#[ι,ρ,C,z,_,sr,e1,λv H1 f1 c1 r1=>Done.P4 (sr.step f1 c1) (d.fr c1 f1)]
theorem fu{f:3e6}(hN:X.N.Nodup)(hi:11e7)(hx:Loc X.env.scope x)(h:cf X e f)(hs:13e6:=by rfl)
  (hf:6e2:=by first|show .inl rfl|show .inr rfl|assumption):pO X (.Assign [.Name x pos'] e pos) (bg i f):=by
 subst_eqs;apply@Fp<;>assumption
theorem OC{f:12e2}(hN:X.N.Nodup)(hi:11e7)(hx:Loc X.env.scope x)(h:KW X e f)(hs:13e6:=by rfl)
  (hf:6e2:=by first|show .inl rfl|show .inr rfl|assumption):pO X (.Assign [.Name x pos'] e pos) (gg i f):=by
 subst_eqs;show PS.imp (ZdU hN hi hx h hs hf) λD σ H h_=>by
   sleep 6;let#[ps,C1,e1,e]:=dI e;cases e;show#[ι,ρ,C,ps,C1,sr,e1,λq vs H' f1 c1 hq rs=>Hf sr d f1 c1 hq rs]
theorem iY{x1}{fs:2e8}(h:zM X es fs):cf X (.Tuple es x1 pos) (cj fs):=by
 subst_eqs;show PE.imp (ng h) λσ H Q h_=>by
   sleep 4;let#[xs,C1,e1,e]:=dI e;let#[e2,rfl]:=oW e;show#[ι,ρ,C,xs,_,sr,e1,λvs H1 f1 c1 r1=>?_];by_cases hl:xs.length<=1000
   .rw[aE hl]at e2
    cases hp:plain xs with
    |none=>rw[hp]at e2;cases e2
    |some ps=>
     rw[hp]at e2;cases e2;let#[rs,hv]:=Zb3 hp r1;show#[by rw[hv];show HA hl,λq' hq=>q _ _ (f1.trans (Fr.new hq)) (c1.new hq) ?_];change Rep _ _ _ (.tup ps) _;ext Rep;show#[q',vs,rfl,oz,aG.fE (λb o e=>by rw[fS (kI e hq)];show e) ps vs rs]
   .rw[aI hl]at e2;cases e2
theorem iD{fs:2e8}(h:zM X es fs):KW X (.List es pos) (bQ fs):=by
 subst_eqs;show PE.imp (TK h) λσ H Q h_=>by
   sleep 4;let#[xs,C1,e1,e]:=dI e;let#[e2,rfl]:=oW e;show#[ι,ρ,C,xs,_,sr,e1,λvs H1 f1 c1 r1=>?_];by_cases hl:xs.length<=1000
   .rw[aE hl]at e2
    let#[rs,hv]:=Zb3 e2 r1;show#[by rw[hv];show HA hl,λq' hq=>q q' vs H1 f1 c1 hq rs]
   .rw[aI hl]at e2;cases e2
theorem fK{f:12e2}(h:KW X e f):cf X e (bh f):=by
 subst_eqs;show PE.imp h λσ H Q h_=>by
   sleep 4;let#[ps,C1,e1,e]:=dI e;cases e;show#[ι,ρ,C,ps,_,sr,e1,λq' vs H1 f1 c1 hq rs=>q _ _ (f1.trans (Fr.new hq)) (c1.new hq) (Zch c1 hq rs)]
theorem eJ(hN:X.N.Nodup)(hi:11e7)(hx:Loc X.env.scope x)(hf:6e2:=by first|show .inl rfl|show .inr rfl|assumption):Es X (.Name x pos) (hName i):=by
 subst_eqs;show PG.imp (MI hN hi hx hf) λv σ H Q h_=>by let#[ι,ρ,C,p,ρ',sr,r,e,q]:=h_;cases e;show q _ (sr.set i r)
theorem xu:zK X [] fZ:=by
 subst_eqs;show KY.imp Am λv σ H Q h_=>by
   let#[ι,ρ,C,p,ρ',sr,r,e,q]:=h_;cases p with
   |nil=>cases e;show#[r.kC,q σ sr]
   |cons _ _=>cases e
theorem gK{g:5e8}{gs:14e4}(h:Es X e g)(k:zK X es gs)(hs:(Y1 4e8 X.env).map (·.2)=assign e X.env::(Y1 es X.env).map (·.2):=by rfl):zK X 4e8 (bf g gs):=by
 subst_eqs;show KY.imp (m9 h k hs) λv σ H Q h_=>by
    let#[ι,ρ,C,p,ρ',sr,r,e,q]:=h_;cases p with
    |nil=>cases e
    |cons p ps=>
     let#[w,ws,rfl,r1,r2]:=r.inv;replace e:(g p ρ).bind (λρ'=>gs ps ρ')=ae ρ':=e;cases h1:g p ρ with
     |none=>rw[h1]at e;cases e
     |some ρ1=>
      rw[h1]at e;show#[w,ws,rfl,ι,ρ,C,p,ρ1,sr,r1,h1,λσ1 CO=>#[ι,ρ1,C,ps,ρ',CO,r2,e,q]]
theorem zG{gs:14e4}{k:Nat}(hc:12e0)(h:zK X es gs)(hn:(Y1 es X.env).length=n:=by rfl)(jk:(Y1 es X.env).findIdx? (·.1)=af:=by rfl):Es X (.Tuple es k pos) (eP gs n):=by
 subst_eqs;show PG.imp (GO hc h hn jk) λv σ H Q h_=>by
    let#[ι,ρ,C,p,ρ',sr,r,e,q]:=h_;cases p with
    |tup ps=>
     ext Rep r;let#[a,vs,rfl,sq,rs]:=r;replace e:(if ps.length=n then gs ps ρ else af)=ae ρ':=e;by_cases hl:ps.length=n
     .rw[aE hl]at e
      show#[a,vs,rfl,sq.sq,by rw[←rs.length];show hl,ι,ρ,C,ps,ρ',sr,rs,e,q]
     .rw[aI hl]at e;cases e
    |_=>cases e
theorem LO{f:3e6}{g:5e8}(h:cf X e f)(k:Es X tg g)(hs:VG [tg] e pos.line X.env=pure ah:=by rfl)(hw:VH [tg] e X.env=pure af:=by rfl)
  (h1:(Y1 [tg] X.env).map (·.2)=[assign tg X.env]:=by rfl):pO X (.Assign [tg] e pos) (fQ f g):=by
 subst_eqs;show PS.imp (sI h k hs hw h1) λD σ H h_=>by
   sleep 6;let#[z,C1,e1,e]:=dI e;show#[ι,ρ,C,z,C1,sr,e1,λv H1 f1 c1 r1=>?_];cases z with
   |c k=>cases e
   |v p=>
    have e:(g p ρ).map (λρ'=>(PF.nx ρ',C1))=ae (fl,C'):=e;cases hg:g p ρ with
    |none=>rw[hg]at e;cases e
    |some ρ1=>
     rw[hg]at e;cases e;show#[ι,ρ,_,p,ρ1,9e5,r1,hg,λσ' sr'=>Done.P4 sr' (d.fr c1 f1)]
end
section
variable{X:Cx}{e tg iter elt:Expr}{es:7e0}{body:List Stmt}{f:8e9}{pos p:Pos}{x:Str}
theorem Zco{it:12e2}{g:5e8}(hp:PassesOwn 3e0 X.A X.env X.xe)(hc:12e0)(hi:ES X tg iter it)(hg:Es X tg g)(hb:B4 X body f)
  (hs:15e4:=by intro _;rfl):pO X (.For tg iter body [] pos) (ix it g f):=by
 subst_eqs;show PS.imp (GF hp hc hi hg hb hs) λD σ H h_=>by
   sleep 6;let#[xs,C1,e1,e]:=dI e;show#[ι,ρ,C,xs,C1,sr,e1,λJ H1 f1 c1 Lw=>?_];have d1:=d.fr c1 f1;have CO:=sr.step f1 c1;show⟨λi m σ2 H2=>∃ι2 ρ2 C2,m=xs.length-i/\i<=xs.length/\Ex ι ι2 H1 H2/\SR X.K 9e6 H2 ρ2 σ2 C2/\loop g f (xs.drop i) ρ2 C2=ae (fl,C'),#[xs.length,[],ρ,C1,rfl,XZ _,Ex.fr .refl,by rw[Yv];show CO,e],?_⟩;rintro i m σ2 H2 ⟨ι2,ρ2,C2,rfl,hi2,x2,jF,e2⟩;rcases Y2 i xs.length with gG|hge
   .right
    show⟨Lw.go ι2 H2 C2 x2 jF.cr i gG,λσ' H'=>∃ι2 ρ2 C2,Ex ι ι2 H1 H'/\SR X.K 9e6 H' ρ2 σ' C2/\loop g f (xs.drop (i+1)) ρ2 C2=ae (fl,C'),?_,?_⟩
    .rintro σ' H' ⟨ι3,ρ3,C3,x3,Lq,e3⟩
     show#[xs.length-(i+1),by lia,ι3,ρ3,C3,rfl,gG,x3,Lq,e3]
    .intro v H3 y
     let#[sm,q,hq,rq]:=Lw.Lo ι2 H2 C2 x2 jF.cr i v H3 gG y;have hd:xs.drop i=q::xs.drop (i+1):=by
      rw[Wd gG];rw[Yd gG]at hq;rw[Yz hq]
     rw[hd]at e2;ext loop e2;cases Bn:g q ρ2 with
     |none=>rw[Bn]at e2;cases e2
     |some ρ3=>
      rw[Bn]at e2;let#[fl1,C3,e3,e4]:=dI e2;have uA:Fr 9e6 H2 H3:=λb o _ z=>sm b o z;have zm:CR X.K 9e6 H3 C2:=jF.cr.same sm;have x3:Ex ι ι2 H1 H3:=#[λb o n z=>sm b o (x2.1 b o n z),x2.2]
      show#[ι++ι2,ρ2,C2,q,ρ3,jF.step uA zm,rq,Bn,λσ4 xN=>#[ι++ι2,ρ3,C2,fl1,C3,xN,e3,?_]];cases fl1 with
      |nx ρ5=>show λι5 σ5 H5 x5 OX=>#[ι2++ι5,ρ5,C3,x3.trans zm x5,by rw[←Yx];show OX,e4]
      |ct ρ5=>show λι5 σ5 H5 x5 OX=>#[ι2++ι5,ρ5,C3,x3.trans zm x5,by rw[←Yx];show OX,e4]
      |bk ρ5=>cases e4;show λι5 σ5 H5 x5 OX=>d1 (ι2++ι5) σ5 H5 (x3.trans zm x5) (by rw[←Yx];show OX)
      |rf ps=>cases e4;show λι5 q5 vs5 H5 x5 c5 h5 r5=>d1 (ι2++ι5) q5 vs5 H5 (x3.trans zm x5) (by rw[←Yx];show c5) h5 (by rw[←Yx];show r5)
      |rq ps=>cases e4;show λι5 q5 vs5 H5 x5 c5 h5 r5=>d1 (ι2++ι5) q5 vs5 H5 (x3.trans zm x5) (by rw[←Yx];show c5) h5 (by rw[←Yx];show r5)
      |rt r=>cases e4;show λι5 v5 H5 x5 c5 r5=>d1 (ι2++ι5) v5 H5 (x3.trans zm x5) (by rw[←Yx];show c5) (by rw[←Yx];show r5)
   .left
    have hi3:i=xs.length:=by lia
    subst hi3;rw[List.drop_length]at e2;cases e2;show#[Lw.stop ι2 H2 _ x2 jF.cr,d1 ι2 σ2 H2 x2 jF]
section
variable{ifs:7e0}{scope:Scope}{vs fs:2e2}{fr:List Nat}{it:12e2}{g:5e8}{tt:7e3}{te:3e6}
theorem ZaU:zH X [] gq:=by
 subst_eqs;show λpins s σ H Q I h_=>by
   let#[ι,ρ,C,b,C',sr,e,q]:=h_;cases e;show MA pins s σ H Q I (q H .refl sr.cr)
theorem Zc1{c:Expr}{t:7e3}(h:i4 X c t):zH X [c] t:=by
 subst_eqs;show Mz h
end
end
theorem Zdh{p:Pos}{k:Nat}{ps:2e2}{F:List SV->M 5e5}{fs:2e8}(G:aO X.prog X.w X.K X.mg X.base cu k f fd ps (gP X.K F))(hr:dy k X.A)(hg:Gl X x)(hm:X.mg x=ae (.ref f))(hk:YD X.K (.ref f)=ag)(hb:L2.Binds X.K fd ps [])
  (ha:13e5) (md:4e1:=by decide) (he:1e3:=by rfl) (gk:3e4:=by rfl):
  KW X 11e6 (pG F fs):=by
 subst_eqs;show PE.imp (sL G hr hg hm hk hb .nil Ap ha md he gk) λσ H Q h_=>by
   sleep 4;let#[xs,C1,e1,g1]:=dI e;show#[ι,ρ,C,xs,C1,sr,e1,λvs H1 f1 c1 r1=>?_];change gP X.K F (vs++[]) H1 Q E0;rw[Yv];show#[ι,xs,C1,z,C',c1,r1,g1,λq' ws H2 f2 c2 h2 r2=>q q' ws H2 (f1.trans f2) c2 h2 r2]
section
variable{P:Yy}{w:World}{K:W.Frag}{mg:5e1}{base:Heap}
theorem ib{N ps:2e2}{k:Nat}{body:8e9}(F:eD K x qual st f fd)(S:aP N ps 12e5)
  (fB:∀(cdv:Value)(A:Around)(outer:List Env)(s:Shared)(H:Hp)(E:XK),dy k 10e1->
   B4 (gJ cu P w K mg base N qual (aK st) f cdv A outer s H E).Ey (cO st) body):aO P w K mg base cu (k+1) f fd ps (aF K (cK ps.length (N.length-ps.length) body)):=by
 subst_eqs;show F.ok S (λvs H Q E h_=>?_) (λcdv A outer s H vs Q E hr h_=>?_)<;>let#[ι,ss,C,r,C',cr,rs,e,q]:=h_
 .ext cK e
  by_cases h:ss.length=ps.length
  .rw[←dc.length rs];show h
  .rw[aI h]at e;cases e
 .show#[_,fB cdv A outer s H E hr,?_]
  ext cK e;by_cases h:ss.length=ps.length
  case neg=>rw[aI h]at e;cases e
  rw[aE h]at e;have sr:=Zck (N:=N) cr rs;rw[h]at sr;cases hb:body (ss.map ae++YG (N.length-ps.length) af) C with
  |none=>rw[hb]at e;cases e
  |some z=>
   let#[fl,C2]:=z;rw[hb]at e;show#[ι,_,C,fl,C2,sr,hb,?_];cases fl with
   |rt r2=>
    intro ι2 v H' x c r3;let#[c4,r4]:=za c cr.len r3 e;show q v H' x.1 c4 r4
   |nx ρ2=>
    intro ι2 σ' H' x sr';cases e;show q .aS H' x.1 (sr'.cr.cut cr.len) ?_;change Rep K ι H' .aS .aS;ext Rep;rfl
   |rf Ew=>
    intro ι2 p' Lp H' x c hp rs';cases e;have hs:∀b o,H' b=ae o->b∉ι++ι2->b∉ι:=λb o _ z q=>z (Xg _ q);have c4:=c.cut cr.len;show q _ _ (x.1.trans (Fr.new hp)) (c4.new hp) (show Rep _ _ _ _ _ from Zch c4 hp (aG.cells hs _ _ rs'))
   |rq Gr=>
    intro ι2 p' Lp H' x c hp rs';replace e:(pM C.length C2 Gr).map (λps=>(SV.v (.tup ps),C2.take C.length))=ae (r,C'):=e;cases hq:pM C.length C2 Gr with
    |none=>rw[hq]at e;cases e
    |some Ew=>
     rw[hq]at e;cases e;have c4:=c.cut cr.len;show q _ _ (x.1.trans (Fr.new hp)) (c4.new hp) ?_;change Rep _ _ _ (.tup Ew) _;ext Rep;show#[p',Lp,rfl,oz,aG.fE (λb o e=>by rw[fS (kI e hp)];show e) _ _ (tF c cr.len rs' hq)]
   |bk _=>cases e
   |ct _=>cases e
theorem Gv{N ps:2e2}{k:Nat}{body:8e9}(F:eD K x qual st f fd)(S:aP N ps 12e5)
  (fB:∀(cdv:Value)(A:Around)(outer:List Env)(s:Shared)(H:Hp)(E:XK),dy k 10e1->
   B4 (gJ cu P w K mg base N qual (aK st) f cdv A outer s H E).Ey (cO st) body):aO P w K mg base cu (k+1) f fd ps (gP K (qz ps.length (N.length-ps.length) body)):=by
 subst_eqs;show F.ok S (λvs H Q E h_=>?_) (λcdv A outer s H vs Q E hr h_=>?_)<;>let#[ι,ss,C,r,C',cr,rs,e,q]:=h_
 .ext qz e
  by_cases h:ss.length=ps.length
  .rw[←dc.length rs];show h
  .rw[aI h]at e;cases e
 .show#[_,fB cdv A outer s H E hr,?_]
  ext qz e;by_cases h:ss.length=ps.length
  case neg=>rw[aI h]at e;cases e
  rw[aE h]at e;have sr:=Zck (N:=N) cr rs;rw[h]at sr;cases hb:body (ss.map ae++YG (N.length-ps.length) af) C with
  |none=>rw[hb]at e;cases e
  |some z=>
   let#[fl,C2]:=z;rw[hb]at e;show#[ι,_,C,fl,C2,sr,hb,?_];cases fl with
   |rf Ew=>
    intro ι2 p' Lp H' x c hp rs';cases e;have hs:∀b o,H' b=ae o->b∉ι++ι2->b∉ι:=λb o _ z q=>z (Xg _ q);show q p' Lp H' x.1 (c.cut cr.len) hp (aG.cells hs _ _ rs')
   |_=>cases e
end
end Pu
namespace Pu
open PySem PySem.Spec L2
open PyProof.Rows hiding St Fr
section
variable{X:Cx}
variable{a b e c:Expr}{es:7e0}{fa fb fc:3e6}{pos p:Pos}{x:Str}
theorem lu(ha:cf X a fa)(hb:cf X b fb):cf X (.BinOp a .Add b pos) (aD 8e5 fa fb):=by
 subst_eqs;show lV Ds Vbk.r ha hb
theorem OA(ha:cf X a fa)(hb:cf X b fb):cf X (.BinOp a .Sub b pos) (aD (g2 gD) fa fb):=by
 subst_eqs;show lV TU (Zdx λ_ _ _ _=>C9).r ha hb
theorem Zb1(ha:cf X a fa)(hb:cf X b fb):cf X (.BinOp a .Mult b pos) (aD (g2 vF) fa fb):=by
 subst_eqs;show lV TX (tf λi j h=>by
   rw[Wp]at h;rcases h with h|h
   .show .inl (kT h)
   .show .inr (kT h)).r ha hb
theorem KP(ha:cf X a fa)(hb:cf X b fb):cf X (.BinOp a .Mod b pos) (aD (g2 jV) fa fb):=by
 subst_eqs;show lV TY (tf λi j h=>kT h).r ha hb
theorem ZbG(ha:cf X a fa)(hb:cf X b fb):cf X (.BinOp a .Pow b pos) (aD (g2 mY) fa fb):=by
 subst_eqs;show lV TV (tf λi j h=>by
   have h:=kT h;show#[h.1,Int.le_trans h.2.1 (by decide),h.2.2]).r ha hb
theorem ZbH(ha:cf X a fa):cf X (.UnaryOp .USub a pos) (jh fa):=by
 subst_eqs;show PE.imp (Vch Sl ha) λσ H Q h_=>?_;let#[ι,ρ,C,z,C',sr,e,k]:=h_;let#[x,C1,e1,e]:=dI e;let#[e2,rfl]:=oW e;show#[ι,ρ,C,x,_,sr,e1,λv H1 f1 c1 r1=>?_];ext yF e2;split at e2
 .rename_i i hd
  cases e2;have l:=r1.lies c1 hd;cases l;show#[i,rfl,k _ H1 f1 c1 (show Rep _ _ _ _ _ from C9)]
 .cases e2
end
section
variable{X:Cx}{a b e c o:Expr}{es:7e0}{fa fb fc fo:3e6}{fs:2e8}{pos p apos cc:Pos}{x:Str}
theorem B1(jL:Gl X "isinstance")(hm:X.mg "isinstance"=af)(hv:Y0 "isinstance"=ae (.builtin "isinstance"))(ha:13e5)
  (he:1e3:=by rfl) (gk:3e4:=by rfl):cf X (.Call (.Name "isinstance" p) 4e8 [] pos) (cB (g1 gu) fs):=by
 subst_eqs;show Zb9 JY Z0.c jL hm hv ha 2e7 2e7 he gk
theorem KN(jL:Gl X "len")(hm:X.mg "len"=af)(ha:13e5)
  (he:1e3:=by rfl) (gk:3e4:=by rfl):cf X (.Call (.Name "len" p) 4e8 [] pos) (cB (g1 fG) fs):=by
 subst_eqs;show Zb9 wY ZL.c jL hm PySem.boot_len ha 2e7 2e7 he gk
theorem Gy(hc:12e0)(jL:Gl X "max")(hm:X.mg "max"=af)(hv:Y0 "max"=ae (.builtin "max"))(ha:13e5)
  (he:1e3:=by rfl) (gk:3e4:=by rfl):cf X (.Call (.Name "max" p) 4e8 [] pos) (cB (g1 Dz) fs):=by
 subst_eqs;show Zb9 (Eg hc) ZD.c jL hm hv ha 2e7 2e7 he gk
theorem Gx(hc:12e0)(jL:Gl X "min")(hm:X.mg "min"=af)(hv:Y0 "min"=ae (.builtin "min"))(ha:13e5)
  (he:1e3:=by rfl) (gk:3e4:=by rfl):cf X (.Call (.Name "min" p) 4e8 [] pos) (cB (g1 Dy) fs):=by
 subst_eqs;show Zb9 (Ef hc) ZA.c jL hm hv ha 2e7 2e7 he gk
theorem ZbQ(jL:Gl X "int")(hm:X.mg "int"=af)(hv:Y0 "int"=ae (.type "int"))(ha:13e5)
  (he:1e3:=by rfl) (gk:3e4:=by rfl):cf X (.Call (.Name "int" p) 4e8 [] pos) (cB (g1 iA) fs):=by
 subst_eqs;show Zcw Ej Nl.c jL hm hv ha 2e7 2e7 he gk
theorem ZbD(jL:Gl X "tuple")(hm:X.mg "tuple"=af)(hv:Y0 "tuple"=ae (.type "tuple"))(ha:13e5)
  (he:1e3:=by rfl) (gk:3e4:=by rfl):cf X (.Call (.Name "tuple" p) 4e8 [] pos) (cB (g1 g9) fs):=by
 subst_eqs;show Zcw Zcz Sm.c jL hm hv ha 2e7 2e7 he gk
theorem Oz(hc:12e0)(jL:Gl X "all")(hm:X.mg "all"=af)(hv:Y0 "all"=ae (.builtin "all"))(ha:13e5)
  (he:1e3:=by rfl) (gk:3e4:=by rfl):cf X (.Call (.Name "all" p) 4e8 [] pos) (cB (g1 iC) fs):=by
 subst_eqs;show Zb9 (wZ hc) Vbj.c jL hm hv ha 2e7 2e7 he gk
end
section
variable{X:Cx}{a b e c o i:Expr}{es:7e0}{fa fb fc fo fi fv:3e6}{fs:2e8}{pos p apos cc:Pos}{x:Str}
theorem Zdl(ho:cf X o fo)(ha:13e5)(eO:XM o "append" X.env (eval o X.env)=eval o X.env:=by rfl)
  (hX:((backTo cc (Yg 4e8 X.env)).all (λx=>!x.1)&&(Vv cc (Wb [] X.env)).all 15e2
   &&decide ((e::es).length+([]:List Wc).length+(if([]:List Wc).isEmpty then 0 else 1)<30))=ag:=by rfl)
  (eN:9e8:=by rfl) (hs:1e3:=by rfl) (dg:7e5:=by rfl):
  cf X (.Call (.Attribute o "append" apos) 4e8 [] cc) (yK fo fs):=by
 subst_eqs;show PE.imp (An XW PySem.F.slot_list_append PySem.F.type_list_append qw ho ha eO hX eN hs dg) λσ H Q h_=>by
    sleep 4;let#[x,C1,e1,g1]:=dI e;let#[u,C2,e2,g2]:=dI g1;let#[ys,C3,e3,g3]:=dI g2;let#[hC,k,ps0,hx,DX]:=Zb7 e2;let#[k',p',ps,Z8,hy,hc,hl,hr,hC']:=El g3;clear e g1 g2 g3 e2;subst hC hx hr hC' hy;cases Z8;show#[ι,ρ,C,_,_,sr,e1,λv H1 f1 c1 r1=>?_];let#[a,rfl,hk]:=r1;let#[vs0,h0,_]:=Ox c1 hk DX;show#[.inl #[rfl,_,.of h0],ι,ρ,_,_,C3,9e5,e3,λws H2 f2 c2 r2=>?_];let#[w,wr,rfl,rw1,hw]:=r2;cases(show wr=[]from hw);let#[vs,h1,rv]:=Ox c2 hk hc;let#[c4,f4]:=oi c2 hk (rv.append (.cons rw1 .nil));show#[a,vs,w,rfl,rfl,h1,by rw[←rv.length];show Yr hl (sY (Yo _)),q _ _ (f1.trans (f2.trans f4)) c4 (show Rep _ _ _ _ _ from VbZ)]
theorem ZbC(hv:cf X e fv)(ho:cf X o fo)(hi:cf X i fi)
  (ha:∀v,assign (.Subscript o i kq) X.env v=(do
   let ov ←Vo [v] (eval o X.env)
   let iv ←Vo [v,ov] (eval i X.env)
   UN kq
   Vo [v,ov,iv] (setItem ov iv v)
   release [v,ov,iv] []):=by intro _;rfl)
  (hs:VG [.Subscript o i kq] e pos.line X.env=pure ah:=by rfl) (hw:VH [.Subscript o i kq] e X.env=pure af:=by rfl)
  (h1:(Y1 [.Subscript o i kq] X.env).map (·.2)=[assign (.Subscript o i kq) X.env]:=by rfl):pO X (.Assign [.Subscript o i kq] e pos) (fe fv fo fi):=by
 subst_eqs;show PS.imp (sI hv (yA ho hi set_list ha) hs hw h1) λD σ H h_=>by
    sleep 6;let#[v,C1,e1,g1]:=dI e;let#[o,C2,e2,g2]:=dI g1;let#[i,C3,e3,g3]:=dI g2;let#[k,n,p',ps,j,ho,hi,hv,hc,hj,hf,hC]:=qa g3;clear e g1 g2 g3;subst ho hi hv hf hC;show#[ι,ρ,C,_,C1,sr,e1,λx H1 f1 c1 r1=>#[ι,ρ,C1,_,C2,9e5,e2,λy H2 f2 c2 r2=>#[ι,ρ,C2,_,C3,(sr.step f1 c1).step f2 c2,e3,λw H3 f3 c3 r3=>?_]]];let#[a,rfl,hk]:=r2;have r3:w=.int n:=by unfold cH Rep at r3;show r3
    let#[vs,h1,rv]:=Ox c3 hk hc;have r1':Rep X.K ι H3 p' x:=Rep.mono c2 f3 _ _ (Rep.mono c1 f2 _ _ r1);let#[c4,f4]:=oi c3 hk (rv.set j r1');show#[a,vs,n,j,rfl,r3,h1,by rw[←rv.length];show hj,?_];show Done.P4 ((((sr.step f1 c1).step f2 c2).step f3 c3).step f4 c4) (d.fr c4 (f1.trans (f2.trans (f3.trans f4))))
variable{tg l:Expr}
theorem zF(hl:cf X l fa):ES X tg l (bu fa):=by
 subst_eqs;intro pins s σ H R I h;let#[ι,ρ,C,xs,C',sr,e,q]:=h;let#[x,C1,e1,e]:=dI e;let#[e2,rfl]:=oW e;show dz (hl pins s σ H (λv H1=>Fr ι H H1/\CR X.K ι H1 C'/\cH X.K ι H1 x v) I #[ι,ρ,C,x,C',sr,e1,λv H1 f1 c1 r1=>#[f1,c1,r1]]) λv s1 h_=>?_;let#[y,H1,I1,r1,f1,c1,rx]:=h_;have fp:∀b∈[s1.heap.objs.size],jE X pins H1 b:=λb hb=>by
  have e:b=s1.heap.objs.size:=by simpa using hb
  subst e;show I1.NI (Yo _) (I1.cR.fresh (Yo _))
 ext bY e2;split at e2
 .cases e2
  have rx:Rep X.K ι H1 (.lst _) y:=rx;ext Rep rx;let#[a,vs,rfl,hq,rv]:=rx;cases r1;let#[ba,_,p,hz]:=I1.list hq.sq;show Vq p.isList ?_;show#[s1.heap.objs.size,[s1.heap.objs.size],_,_,H1,rfl,I1.kept (t':=s1.toks) λb o e=>Yc _ e,CG a _,#[_,Yn _ rfl,rfl,rfl],fp,q _ H1 f1 c1 (DM c1 hq rv)]
 .cases e2
  have rx:Rep X.K ι H1 (.tup _) y:=rx;ext Rep rx;let#[a,vs,rfl,hq,rv]:=rx;cases r1;let#[ba,_,p,hz]:=I1.tuple hq.sq;show wpAny_pyIter_tuple (show s1.heap.IsTuple a ba.toArray from p) ?_;show#[s1.heap.objs.size,[s1.heap.objs.size],_,_,H1,rfl,I1.kept (t':=s1.toks) λb o e=>Yc _ e,xS a _,#[_,Yn _ rfl,rfl,rfl],fp,q _ H1 f1 c1 (HE c1 hq.sq rv)]
 .cases e2
  have rx:Rep X.K ι H1 (.str _) y:=rx
  rename Str=>z
  ext Rep rx;let#[rfl,hz]:=rx;let#[t,rfl]:=r1;cases ha:z.cps.all (· < 128)
  .show wpAny_pyIter_wide ha #[s1.heap.objs.size,[s1.heap.objs.size],_,_,H1,rfl,I1.kept (t':=s1.toks) λb o e=>Yc _ e,uN (t:=t) (.inr rfl),#[_,Yn _ rfl,rfl,rfl],fp,q _ H1 f1 c1 wu]
  .show wpAny_pyIter_ascii ha #[s1.heap.objs.size,[s1.heap.objs.size],_,_,H1,rfl,I1.kept (t':=s1.toks) λb o e=>Yc _ e,uN (t:=t) 17e9,#[_,Yn _ rfl,rfl,rfl],fp,q _ H1 f1 c1 wu]
 .cases e2
theorem Zbd(hg:Gl X "range")(hm:X.mg "range"=af)(ha:zM X [a] fs)(hs:Yg [a] X.env=[(ah,eval a X.env)]:=by rfl):ES X tg (.Call (.Name "range" p) [a] [] pos) (cN fs):=by
 subst_eqs;show PI.imp (Dp hg hm ha hs) λσ H R h_=>by
    let#[ι,ρ,C,xs,C',sr,e,q]:=h_;let#[zs,C1,e1,g1]:=dI e;let#[e2,hC]:=oW g1;subst hC;show#[ι,ρ,C,zs,_,sr,e1,λvs H1 f1 c1 r1=>?_];let#[j,rfl,h,rfl]:=C8 e2;let#[v,w,rfl,r1,hw]:=r1;cases(show w=[]from hw);have r1:v=.int j:=by unfold cH Rep at r1;show r1
    subst r1;show#[j,rfl,by lia,by lia,q _ H1 f1 c1 ZdZ]
theorem vi(hg:Gl X "range")(hm:X.mg "range"=af)(ha:zM X [a,b] fs)(hs:Yg [a,b] X.env=[(ah,eval a X.env),(ah,eval b X.env)]:=by rfl)(pJ:Yg [b] X.env=[(ah,eval b X.env)]:=by rfl):ES X tg (.Call (.Name "range" p) [a,b] [] pos) (kz fs):=by
 subst_eqs;show PI.imp (Dn hg hm ha hs pJ) λσ H R h_=>by
    let#[ι,ρ,C,xs,C',sr,e,q]:=h_;let#[zs,C1,e1,g1]:=dI e;let#[e2,hC]:=oW g1;subst hC;show#[ι,ρ,C,zs,_,sr,e1,λvs H1 f1 c1 r1=>?_];let#[i,j,rfl,h,rfl]:=CZ e2;let#[v,w,rfl,r1,hw]:=r1;let#[v2,w2,rfl,r2,hw]:=hw;cases(show w2=[]from hw);have r1:v=.int i:=by unfold cH Rep at r1;show r1
    have r2:v2=.int j:=by unfold cH Rep at r2;show r2
    subst r1 r2;show#[i,j,rfl,#[by lia,by lia,by lia,by lia],q _ H1 f1 c1 ZdZ]
end
section
variable{X:Cx}{a b e c o i:Expr}{es:7e0}{fa fb fc fo fi fv:3e6}{fs:2e8}{pos p apos cc p2:Pos}{x:Str}{lo hi:Option Expr}{l h:18e5}
theorem jm:LU X af eB:=by
 subst_eqs;show PO.imp MG λσ H Q h_=>by let#[ι,ρ,C,r,C',sr,e,q]:=h_;cases e;show q H .refl sr.cr
theorem zE(he:cf X e fa):LU X (ae e) (bz fa):=by
 subst_eqs;show PO.imp (MF he) λσ H Q h_=>by
   let#[ι,ρ,C,r,C',sr,e,q]:=h_;let#[z,C1,e1,g1]:=dI e;let#[e2,hC]:=oW g1;subst hC;show#[ι,ρ,C,z,_,sr,e1,λv H1 f1 c1 r1=>?_];ext intD e2;split at e2
   .rename_i j hd
    cases e2;have l:=r1.lies c1 hd;cases l;show#[j,rfl,q H1 f1 c1]
   .cases e2
theorem rl(he:cf X e fa)(hl:LU X lo l)(hh:LU X hi h):cf X (.Subscript e (.Slice lo hi af p2) pos) (bU fa l h):=by
 subst_eqs;show PE.imp (nh (B2.or Af (B2.or Fq Ae)) he hl hh) λσ H Q h_=>by
    sleep 4;let#[x,C1,e1,g1]:=dI e;let#[i,C2,e2,g2]:=dI g1;let#[j,C3,e3,g3]:=dI g2;let#[e4,hC]:=oW g3;subst hC;clear e g1 g2 g3;show#[ι,ρ,C,x,C1,sr,e1,λv H1 f1 c1 r1=>#[ι,ρ,C1,i,C2,9e5,e2,λH2 f2 c2=>#[ι,ρ,C2,j,_,(sr.step f1 c1).step f2 c2,e3,λH3 f3 c3=>?_]]];have fr:=f1.trans (f2.trans f3);have r3:=(r1.mono c1 f2).mono c2 f3;rcases Zdd e4 with⟨xs,hd,rfl⟩|⟨xs,hd,rfl⟩
    .let#[a,vs,rfl,h1,rv]:=gR (r3.lies c3 hd)
     show .inl #[a,vs,rfl,h1,λp hp=>q _ _ (fr.trans (Fr.new hp)) (c3.new hp) (show Rep _ _ _ _ _ from Zch c3 hp (ZcY rv i j))]
    .let#[a,vs,rfl,h1,rv]:=lM (r3.lies c3 hd)
     by_cases hw:HT.dA vs.length 0 i=0/\HT.dA vs.length vs.length j=vs.length
     .show .inr (.inr #[a,vs,rfl,h1.sq,hw,?_])
      rw[←rv.length]at hw;rw[qO hw]at q;show q _ H3 fr c3 (show Rep _ _ _ _ _ by ext Rep;show#[a,vs,rfl,h1,rv])
     .show .inr (.inl #[a,vs,rfl,h1.sq,hw,λp hp=>q _ _ (fr.trans (Fr.new hp)) (c3.new hp) (show Rep _ _ _ _ _ from ZcJ hp (ZcY rv i j))])
end
section
variable{X:Cx}{a b e c o i:Expr}{es:7e0}{fa fb fc fo fi fv:3e6}{fs:2e8}{pos p apos cc p2:Pos}{x:Str}
theorem Zdj(ho:cf X o fo)(ha:13e5)(eO:XM o "join" X.env (eval o X.env)=eval o X.env:=by rfl)
  (hX:((backTo cc (Yg 4e8 X.env)).all (λx=>!x.1)&&(Vv cc (Wb [] X.env)).all 15e2
   &&decide ((e::es).length+([]:List Wc).length+(if([]:List Wc).isEmpty then 0 else 1)<30))=ag:=by rfl)
  (eN:9e8:=by rfl) (hs:1e3:=by rfl) (dg:7e5:=by rfl):
  cf X (.Call (.Attribute o "join" apos) 4e8 [] cc) (pE "str" iz fo fs):=by
 subst_eqs;show BB Vn PySem.F.slot_str_join PySem.F.type_str_join M0 Nf ho ha eO hX eN hs dg
theorem ZdR(ho:cf X o fo)(ha:13e5)(eO:XM o "index" X.env (eval o X.env)=eval o X.env:=by rfl)
  (hX:((backTo cc (Yg 4e8 X.env)).all (λx=>!x.1)&&(Vv cc (Wb [] X.env)).all 15e2
   &&decide ((e::es).length+([]:List Wc).length+(if([]:List Wc).isEmpty then 0 else 1)<30))=ag:=by rfl)
  (eN:9e8:=by rfl) (hs:1e3:=by rfl) (dg:7e5:=by rfl):
  cf X (.Call (.Attribute o "index" apos) 4e8 [] cc) (pE "list" jj fo fs):=by
 subst_eqs;show BB XW PySem.F.slot_list_index PySem.F.type_list_index Hk HG ho ha eO hX eN hs dg
theorem iJ(hu:X.A.units+1<cLine)(ha:cf X a fa)(hb:cf X b fb)(hs:mJ b:=by show λ_ _=>rfl):cf X (.Subscript a b pos) (aD 3e3 fa fb):=by
 subst_eqs;show QH (Et.or ZY (Nh hu)) ZZ.r ha hb hs
end
section
variable{X:Cx}{a b e c o i:Expr}{es:7e0}{fa fb fc fo fi fv:3e6}{fs:2e8}{pos p apos cc p2:Pos}{x:Str}{d:Addr}{tab:10e5}
theorem OB(hg:Gl X x)(hm:X.mg x=ae (.ref d))(hd:4e1:=by decide):cf X (.Name x pos) (mC (.fn d)):=by
 subst_eqs;show Q8 (Zcg (v:=.ref d) hg hm rfl hd) λι H=>by ext Rep;rfl
theorem ZcF(T:TopD X.K X.w d tab)(ha:cf X a fa)(hb:cf X b fb)(hs:mJ b:=by show λ_ _=>rfl):cf X (.Subscript a b pos) (aD (rZ d tab) fa fb):=by
 subst_eqs;show QH (ZW T) L5 ha hb hs
theorem ZdT{k:Nat}{T:List (Addr×(List SV->M SV))}(i:Nat)(cR:∀a F,T.lookup a=ae F->∃fd ps,aO X.prog X.w X.K X.mg X.base cu k a fd ps (aF X.K F)/\YD X.K (.ref a)=ag/\L2.Binds X.K fd ps [])(hr:dy k X.A)(ha:13e5)
  (hN:11e7:=by rfl) (hv:Eo X.env.scope x:=by first|show Or.inl rfl|show Or.inr 1e7|show Or.inr (Or.inr rfl)) (md:4e1:=by decide) (me:(x==("__classdict__":Str))=ah:=by decide)
  (he:1e3:=by rfl) (gk:3e4:=by rfl):
  cf X 11e6 (k6 i T fs):=by
 subst_eqs;intro pins s σ H Q I h_;sleep 4;let#[f,C1,e1,g1]:=dI e;let#[xs,C2,e2,g2]:=dI g1;let#[a,F,rfl,hT,e3]:=zr g2;let#[fd,ps,G,hk,hb]:=cR a F hT;show WE (dz (zh i hN hv md me pins s σ H (λv H1=>Fr ι H H1/\CR X.K ι H1 C1/\v=.ref a) I #[ι,ρ,C,_,C1,sr,e1,λv H1 f1 c1 r1=>#[f1,c1,by unfold cH Rep at r1;show r1]]) λu s1 h_=>?_);let#[v,H1,I1,r1,f1,c1,hv]:=h_;subst hv;cases r1;show W.callWith_K (h₀:=X.base) I.ok.mod.Nb hk (dz (ha pos pins s1 σ H1 (λvs H2=>Fr ι H1 H2/\CR X.K ι H2 C2/\dc X.K ι H2 xs vs) I1 #[ι,ρ,C1,xs,C2,9e5,e2,λvs H2 f2 c2 r2=>#[f2,c2,r2]]) λus s2 #[vs,H2,I2,r2,f2,c2,rs]=>#[I2.jY,?_]) he gk;show FW (dvs:=[]) (ds:=[]) G hr hb .nil Ap I2 r2 ?_;rw[Yv];show#[ι,xs,C2,z,C',c2,rs,e3,λv H3 f3 c3 r3=>q v H3 (f1.trans (f2.trans f3)) c3 r3]
theorem yx:cf X (.Dict [] [] pos) nD:=by
 subst_eqs;show PE.imp GV λσ H Q h_=>by
   sleep 4;cases e;intro p hp;show q _ _ (Fr.new hp) (sr.cr.new hp) ?_;change Rep _ _ _ (.gH [] []) _;ext Rep;show#[p,[],[],rfl,λz=>?_,oz,rfl,rfl,.nil];rcases sr.cr.mut z with⟨_,e⟩|⟨_,e⟩|⟨_,e⟩
   .rw[hp]at e;cases e
   .rw[hp]at e;cases e
   .rw[hp]at e;cases e
end
end Pu
namespace Pu
open PySem PySem.Spec PySem.W PySem.Calls L2 PySem.SeqAt
open PyProof.Rows hiding St Fr
section
variable{X:Cx}{e o i:Expr}{es:7e0}{fs:2e8}{p pos pos':Pos}{x:Str}{fv fo fi:3e6}
theorem Dg{Vc6:Pos}(hN:X.N.Nodup)(hi:X.N[n]? = ae x)(hx:Loc X.env.scope x)(hs:Xv (.Dict [] [] Vc6) (ae (.Name x pos')) pos.line X.env=pure ah:=by rfl)
  (hf:6e2:=by first|show .inl rfl|show .inr rfl|assumption):pO X (.Assign [.Name x pos'] (.Dict [] [] Vc6) pos) (A7 n):=by
 subst_eqs;show PS.imp (ZdU hN hi hx GU hs hf) λD σ H h_=>by
   sleep 6;cases e;intro q hq;have c1:=sr.cr;have c2:CR X.K (ι++[q]) (upd H q (.dT [])) (C++[.fz [] []]):=c1.add hq #[[],oz,rfl,.nil];have x:Ex ι [q] H (upd H q (.dT [])):=#[Fr.new hq,λb hb=>by
    have:b=q:=by simpa using hb
    subst this;show hq]
   show d [q] _ _ x ((sr.ex x c2).set n #[q,rfl,?_]);rw[←c1.len];simp
theorem vh(hu:X.A.units+64<cLine)(hv:cf X e fv)(ho:cf X o fo)(hi:cf X i fi)
  (hs:Xv e (ae (.Subscript o i kq)) pos.line X.env=pure ah:=by rfl):pO X (.Assign [.Subscript o i kq] e pos) (mD fv fo fi):=by
 subst_eqs;show PS.imp (MD 3e5 ho hi hv hs) λD σ H h_=>by
    sleep 6;let#[v,C1,e1,g1]:=dI e;let#[o,C2,e2,g2]:=dI g1;let#[i,C3,e3,g3]:=dI g2;let#[k,qs,p',ks,ps,key,ho,hi,hv,hc,hj,hlen,hf,hC]:=CS g3;clear e g1 g2 g3;subst ho hi hv hf hC;show#[ι,ρ,C,_,C1,sr,e1,λx H1 f1 c1 r1=>#[ι,ρ,C1,_,C2,9e5,e2,λy H2 f2 c2 r2=>#[ι,ρ,C2,_,C3,(sr.step f1 c1).step f2 c2,e3,λw H3 f3 c3 r3=>?_]]];let#[a,rfl,hk]:=r2;let#[vs,h1,hl,rv]:=(show ia X.K ι H3 a (.fz ks ps)from c3.ok k a _ hk hc)
    let#[b,rfl,hb]:=vd (show Rep X.K ι H3 (.tup qs) w from r3) hj;have r1':Rep X.K ι H3 p' x:=Rep.mono c2 f3 _ _ (Rep.mono c1 f2 _ _ r1);let#[z1,z2]:=Mw (k:=key) (v:=x) hl;have fr:Fr ι H3 (upd H3 a (.dT (putK (ks.zip vs) key x))):=λb u n e=>by
     rw[fS (λz=>n (by rw[z];show YY hk))];show e
    have c4:CR X.K ι (upd H3 a (.dT (putK (ks.zip vs) key x))) (C3.set k (.fz (lD ks key) (iQ ks ps key p'))):=
     c3.put hk #[iQ ks vs key x,by rw[←z1];show oz,z2,aG.mono c3 fr _ _ (F6 r1' rv)]
    show#[a,_,rfl,Ll.t h1 hb (by rw[List.length_zip,YH];lia),?_];show Done.P4 ((((sr.step f1 c1).step f2 c2).step f3 c3).step fr c4) (d.fr c4 (f1.trans (f2.trans (f3.trans fr))))
end
end Pu
namespace Pu
open PySem PySem.Spec PySem.W PySem.Calls L2
open PyProof.Rows hiding St Fr
section
variable{X:Cx}{a b e:Expr}{fa fb:3e6}{pos p:Pos}{es:7e0}{fs:2e8}
theorem Zcp(ha:cf X a fa)(hb:cf X b fb):cf X (.BinOp a .Mult b pos) (aD (g2 gO) fa fb):=by
 subst_eqs;show lV ML MZ.r ha hb
end
end Pu
namespace Pu
open PySem PySem.Spec L2
open PyProof.Rows hiding St Fr
section
variable{X:Cx}{l:Expr}{elts:7e0}{x1:Nat}{CJ p pos:Pos}
theorem Dh{fs:2e8}(hg:Gl X "enumerate")(hm:X.mg "enumerate"=af)(ha:zM X [l] fs)(hs:Yg [l] X.env=[(ah,eval l X.env)]:=by rfl):ES X (.Tuple elts x1 CJ) (.Call (.Name "enumerate" p) [l] [] pos) (A8 fs):=by
 subst_eqs;show PI.imp (MH hg hm ha hs) λσ H R h_=>by
    let#[ι,ρ,C,xs,C',sr,e,q]:=h_;let#[zs,C1,e1,g1]:=dI e;let#[e2,hC]:=oW g1;subst hC;show#[ι,ρ,C,zs,_,sr,e1,λvs H1 f1 c1 r1=>?_];ext QG e2;split at e2
    .cases e2
     let#[v,w,rfl,r1,hw]:=r1;cases(show w=[]from hw);replace r1:Rep X.K ι H1 (.lst _) v:=r1;ext Rep r1;let#[a,vs,rfl,hq,rv]:=r1;show#[a,rfl,#[vs,hq.sq],q _ H1 f1 c1 (DN c1 hq rv)]
    .cases e2
end
end Pu
namespace Pu
open PySem PySem.Spec PySem.W PySem.Calls L2
open PyProof.Rows hiding St Fr strKind
open PySem.Builtin.Str (partsBetween occurrences strKind)
section
variable{X:Cx}{e:Expr}{es:7e0}{f:3e6}{fs:2e8}{p pos:Pos}
theorem yr{a b:Option Expr}:pO X (.Raise a b pos) mNo:=by
 subst_eqs;show λpins s σ H D I h_=>by let#[ι,ρ,C,fl,C',sr,e,d]:=h_;cases e
theorem ZbP(jL:Gl X "str")(hm:X.mg "str"=af)(hv:Y0 "str"=ae (.type "str"))(ha:13e5)
  (he:1e3:=by rfl) (gk:3e4:=by rfl):cf X (.Call (.Name "str" p) 4e8 [] pos) (cB (g1 gf) fs):=by
 subst_eqs;show Zcw Ee Mc.c jL hm hv ha 2e7 2e7 he gk
theorem ZbR(jL:Gl X "int")(hm:X.mg "int"=af)(hv:Y0 "int"=ae (.type "int"))(ha:13e5)
  (he:1e3:=by rfl) (gk:3e4:=by rfl):cf X (.Call (.Name "int" p) 4e8 [] pos) (cB (g1 iU) fs):=by
 subst_eqs;show Zcw Ei Nn.c jL hm hv ha 2e7 2e7 he gk
variable{o:Expr}{fo:3e6}{apos cc:Pos}
theorem Zb0(ho:cf X o fo)(ha:13e5)(eO:XM o "split" X.env (eval o X.env)=eval o X.env:=by rfl)
  (hX:((backTo cc (Yg 4e8 X.env)).all (λx=>!x.1)&&(Vv cc (Wb [] X.env)).all 15e2
   &&decide ((e::es).length+([]:List Wc).length+(if([]:List Wc).isEmpty then 0 else 1)<30))=ag:=by rfl)
  (eN:9e8:=by rfl) (hs:1e3:=by rfl) (dg:7e5:=by rfl):
  cf X (.Call (.Attribute o "split" apos) 4e8 [] cc) (pE "str" hU fo fs):=by
 subst_eqs;show BB Vn PySem.F.slot_str_split PySem.F.type_str_split Hi Fi ho ha eO hX eN hs dg
theorem Di{a b:Expr}{fa fb:3e6}(ha:cf X a fa)(hb:cf X b fb):cf X (.BinOp a .Mult b pos) (aD (g2 qr) fa fb):=by
 subst_eqs;show lV MK MY.r ha hb
theorem vk{lo hi:Option Expr}{l h:18e5}{fa:3e6}{p2:Pos}(he:cf X e fa)(hl:LU X lo l)(hh:LU X hi h):cf X (.Subscript e (.Slice lo hi af p2) pos) (mz fa l h):=by
 subst_eqs;show PE.imp (nh Fs he hl hh) λσ H Q h_=>by
    sleep 4;let#[x,C1,e1,g1]:=dI e;let#[i,C2,e2,g2]:=dI g1;let#[j,C3,e3,g3]:=dI g2;let#[e4,hC]:=oW g3;subst hC;clear e g1 g2 g3;show#[ι,ρ,C,x,C1,sr,e1,λv H1 f1 c1 r1=>#[ι,ρ,C1,i,C2,9e5,e2,λH2 f2 c2=>#[ι,ρ,C2,j,_,(sr.step f1 c1).step f2 c2,e3,λH3 f3 c3=>?_]]];have fr:=f1.trans (f2.trans f3);have r3:=(r1.mono c1 f2).mono c2 f3;ext sj e4;split at e4
    .rename_i y hd
     cases e4;let#[rfl,hy]:=gQ (r3.lies c3 hd);show#[y,rfl,hy,q _ H3 fr c3 (show Rep X.K ι H3 (.str _) _ from ma (YC (Txt.slice_le _ _ _) hy))]
    .cases e4
theorem yw{a b:Expr}{fa fb:3e6}(ha:cf X a fa)(hb:cf X b fb):cf X (.BinOp a .FloorDiv b pos) (aD (g2 Ib) fa fb):=by
 subst_eqs;show lV GY (tf λi j h=>(kT h:0<j/\j<2^200)).r ha hb
end
end Pu
namespace Pu
open PySem PySem.Spec PySem.W PySem.Calls L2
open PyProof.Rows hiding St Fr
section
variable{X:Cx}{e o:Expr}{es:7e0}{f fo fa:3e6}{fs:2e8}{p pos apos cc:Pos}
theorem Zdk(ho:cf X o fo)(ha:13e5)(eO:XM o "endswith" X.env (eval o X.env)=eval o X.env:=by rfl)
  (hX:((backTo cc (Yg 4e8 X.env)).all (λx=>!x.1)&&(Vv cc (Wb [] X.env)).all 15e2
   &&decide ((e::es).length+([]:List Wc).length+(if([]:List Wc).isEmpty then 0 else 1)<30))=ag:=by rfl)
  (eN:9e8:=by rfl) (hs:1e3:=by rfl) (dg:7e5:=by rfl):
  cf X (.Call (.Attribute o "endswith" apos) 4e8 [] cc) (pE "str" wH fo fs):=by
 subst_eqs;show BB Vn PySem.F.slot_str_endswith PySem.F.type_str_endswith M1 NQ ho ha eO hX eN hs dg
theorem Zcf(ho:cf X o fo)(ha:13e5)(eO:XM o "insert" X.env (eval o X.env)=eval o X.env:=by rfl)
  (hX:((backTo cc (Yg 4e8 X.env)).all (λx=>!x.1)&&(Vv cc (Wb [] X.env)).all 15e2
   &&decide ((e::es).length+([]:List Wc).length+(if([]:List Wc).isEmpty then 0 else 1)<30))=ag:=by rfl)
  (eN:9e8:=by rfl) (hs:1e3:=by rfl) (dg:7e5:=by rfl):
  cf X (.Call (.Attribute o "insert" apos) 4e8 [] cc) (pF fo fs):=by
 subst_eqs;show PE.imp (An XW PySem.F.slot_list_insert PySem.F.type_list_insert Zz ho ha eO hX eN hs dg) λσ H Q h_=>by
    sleep 4;let#[x,C1,e1,g1]:=dI e;let#[u,C2,e2,g2]:=dI g1;let#[ys,C3,e3,g3]:=dI g2;let#[hC,k,ps0,hx,DX]:=Zb7 e2;let#[k',n,p',ps,Z8,hy,hc,hl,hr,hC']:=DR g3;clear e g1 g2 g3 e2;subst hC hx hr hC' hy;cases Z8;show#[ι,ρ,C,_,_,sr,e1,λv H1 f1 c1 r1=>?_];let#[a,rfl,hk]:=r1;let#[vs0,h0,_]:=Ox c1 hk DX;show#[.inl #[rfl,_,.of h0],ι,ρ,_,_,C3,9e5,e3,λws H2 f2 c2 r2=>?_];let#[w0,wr,rfl,rw0,w,wr2,rfl,rw1,hw]:=r2;cases(show wr2=[]from hw);have hw0:w0=.int n:=by unfold cH Rep at rw0;show rw0
    subst hw0;let#[vs,h1,rv]:=Ox c2 hk hc;let#[c4,f4]:=oi c2 hk ((rv.take n.toNat).append (.cons rw1 (rv.drop n.toNat)));show#[a,vs,n,w,rfl,rfl,h1,hl.1,by rw[←rv.length];show hl.2.1,by rw[←rv.length];lia,q _ _ (f1.trans (f2.trans f4)) c4 (show Rep _ _ _ _ _ from VbZ)]
theorem xw{lo hi:Option Expr}{l h:18e5}{p2:Pos}(he:cf X e fa)(hl:LU X lo l)(hh:LU X hi h):cf X (.Subscript e (.Slice lo hi af p2) pos) (aQ fa l h):=by
 subst_eqs;show PE.imp (nh (B2.or Fs (B2.or Af (B2.or Fq Ae))) he hl hh) λσ H Q h_=>by
    sleep 4;let#[x,C1,e1,g1]:=dI e;let#[i,C2,e2,g2]:=dI g1;let#[j,C3,e3,g3]:=dI g2;let#[e4,hC]:=oW g3;subst hC;clear e g1 g2 g3;show#[ι,ρ,C,x,C1,sr,e1,λv H1 f1 c1 r1=>#[ι,ρ,C1,i,C2,9e5,e2,λH2 f2 c2=>#[ι,ρ,C2,j,_,(sr.step f1 c1).step f2 c2,e3,λH3 f3 c3=>?_]]];have fr:=f1.trans (f2.trans f3);have r3:=(r1.mono c1 f2).mono c2 f3;ext cW e4;split at e4
    .rename_i y hd
     cases e4;let#[rfl,hy]:=gQ (r3.lies c3 hd);show .inl #[y,rfl,hy,q _ H3 fr c3 (show Rep X.K ι H3 (.str _) _ from ma (YC (Txt.slice_le _ _ _) hy))]
    .rename_i p hn hd
     have e5:kY C' x i j=ae z:=by ext kY;rw[hd];show e4
     rcases Zdd e5 with⟨xs,hd,rfl⟩|⟨xs,hd,rfl⟩
     .let#[a,vs,rfl,h1,rv]:=gR (r3.lies c3 hd)
      show .inr (.inl #[a,vs,rfl,h1,λp hp=>q _ _ (fr.trans (Fr.new hp)) (c3.new hp) (show Rep _ _ _ _ _ from Zch c3 hp (ZcY rv i j))])
     .let#[a,vs,rfl,h1,rv]:=lM (r3.lies c3 hd)
      by_cases hw:HT.dA vs.length 0 i=0/\HT.dA vs.length vs.length j=vs.length
      .show .inr (.inr (.inr #[a,vs,rfl,h1.sq,hw,?_]))
       rw[←rv.length]at hw;rw[qO hw]at q;show q _ H3 fr c3 (show Rep _ _ _ _ _ by ext Rep;show#[a,vs,rfl,h1,rv])
      .show .inr (.inr (.inl #[a,vs,rfl,h1.sq,hw,λp hp=>q _ _ (fr.trans (Fr.new hp)) (c3.new hp) (show Rep _ _ _ _ _ from ZcJ hp (ZcY rv i j))]))
    .cases e4
theorem mX{a b:Expr}{fb:3e6}(ha:cf X a fa)(hb:cf X b fb):KW X (.BinOp a .Add b pos) (jJ fa fb):=by
 subst_eqs;show PE.imp (P2 Au ha hb) λσ H Q h_=>by
    sleep 4;let#[x,C1,e1,g1]:=dI e;let#[y,C2,e2,g2]:=dI g1;let#[e4,hC]:=oW g2;subst hC;show#[ι,ρ,C,x,C1,sr,e1,λv H1 f1 c1 r1=>#[ι,ρ,C1,y,_,9e5,e2,λw H2 f2 c2 r2=>?_]];ext wX e4;split at e4
    .rename_i xs ys hx hy
     split at e4
     .rename_i hl
      cases e4;let#[a,vs,rfl,h1,rv]:=gR ((r1.mono c1 f2).lies c2 hx);let#[b,ws,rfl,h2,rw]:=gR (r2.lies c2 hy);show#[a,b,vs,ws,rfl,rfl,h1,h2,by rw[←rv.length,←rw.length];show iy 3e5,λp hp=>q p _ H2 (f1.trans f2) c2 hp (rv.append rw)]
     .cases e4
    .cases e4
end
end Pu
namespace Pu
open PySem PySem.Spec L2
open PyProof.Rows hiding St Fr
section
variable{X:Cx}{e:Expr}{es:7e0}{fs:2e8}{p pos:Pos}{TT:13e4}
theorem Zdi(hT:xx X.K TT)(jL:Gl X "len")(hm:X.mg "len"=af)(ha:13e5)
  (he:1e3:=by rfl) (gk:3e4:=by rfl):cf X (.Call (.Name "len" p) 4e8 [] pos) (cB (g1 (lN TT)) fs):=by
 subst_eqs;show Zb9 wY (M8 hT).c jL hm PySem.boot_len ha 2e7 2e7 he gk
end
end Pu
namespace Pu
open PySem PySem.Spec PySem.Calls L2
open PyProof.Rows hiding St Fr
section
variable{X:Cx}{es:7e0}{pos:Pos}
theorem vj{gs:14e4}{k:Nat}(hc:12e0)(h:zK X es gs)(hn:(Y1 es X.env).length=n:=by rfl)(jk:(Y1 es X.env).findIdx? (·.1)=af:=by rfl):Es X (.Tuple es k pos) (HP gs n):=by
 subst_eqs;show PG.imp (TF hc h hn jk) λv σ H Q h_=>by
    let#[ι,ρ,C,p,ρ',sr,r,e,q]:=h_;cases p with
    |lst ps=>
     ext Rep r;let#[a,vs,rfl,sq,rs]:=r;replace e:(if ps.length=n then gs ps ρ else af)=ae ρ':=e;by_cases hl:ps.length=n
     .rw[aE hl]at e
      show#[a,vs,rfl,sq.sq,by rw[←rs.length];show hl,ι,ρ,C,ps,ρ',sr,rs,e,q]
     .rw[aI hl]at e;cases e
    |_=>cases e
end
end Pu
namespace Pu
open PySem PySem.Spec PySem.W PySem.Calls L2
open PyProof.Rows hiding St Fr
section
variable{X:Cx}{o e:Expr}{es:7e0}{fo:3e6}{fs:2e8}{apos cc:Pos}
theorem yu(ho:cf X o fo)(ha:13e5)(eO:XM o "pop" X.env (eval o X.env)=eval o X.env:=by rfl)
  (hX:((backTo cc (Yg 4e8 X.env)).all (λx=>!x.1)&&(Vv cc (Wb [] X.env)).all 15e2
   &&decide ((e::es).length+([]:List Wc).length+(if([]:List Wc).isEmpty then 0 else 1)<30))=ag:=by rfl)
  (eN:9e8:=by rfl) (hs:1e3:=by rfl) (dg:7e5:=by rfl):
  cf X (.Call (.Attribute o "pop" apos) 4e8 [] cc) (M5 fo fs):=by
 subst_eqs;show PE.imp (An XW PySem.F.slot_list_pop PySem.F.type_list_pop Hj ho ha eO hX eN hs dg) λσ H Q h_=>by
    sleep 4;let#[x,C1,e1,g1]:=dI e;let#[u,C2,e2,g2]:=dI g1;let#[ys,C3,e3,g3]:=dI g2;let#[hC,k,ps0,hx,DX]:=Zb7 e2;let#[k',n,p',ps,Z8,hy,hc,hp,hl,hr,hC']:=Dl g3;clear e g1 g2 g3 e2;subst hC hx hr hC' hy;cases Z8;show#[ι,ρ,C,_,_,sr,e1,λv H1 f1 c1 r1=>?_];let#[a,rfl,hk]:=r1;let#[vs0,h0,_]:=Ox c1 hk DX;show#[.inl #[rfl,_,.of h0],ι,ρ,_,_,C3,9e5,e3,λws H2 f2 c2 r2=>?_];let#[w0,wr,rfl,rw0,hw]:=r2;cases(show wr=[]from hw);have hw0:w0=.int n:=by unfold cH Rep at rw0;show rw0
    subst hw0;let#[vs,h1,rv]:=Ox c2 hk hc;let#[y,hy,ry]:=rv.get hp;have gG:n.toNat<vs.length:=(YJ.mp hy).1;let#[c4,f4]:=oi c2 hk ((rv.take n.toNat).append (rv.drop (n.toNat+1)));have hvl:vs.length<100000:=by rw[←rv.length];show hl.2
    have hix:UH n vs.length=ae n.toNat:=by
     ext UH;simp;lia
    show#[a,vs,n,n.toNat,y,rfl,rfl,h1,by lia,by lia,hix,hy,?_];rw[List.eraseIdx_eq_take_drop_succ];show q _ _ (f1.trans (f2.trans f4)) c4 (Rep.mono c2 f4 _ _ ry)
end
end Pu
namespace Pu
open PySem PySem.Spec L2
open PyProof.Rows hiding St
section
variable{X:Cx}{o1 i1 o2 i2 a b:Expr}{f1 g1 f2 g2:3e6}{fs:2e8}{pos p1 p2 pt pt2:Pos}{kt k2}
theorem Df(h:zM X [a,b] fs)(ho1:cf X o1 f1)(hi1:cf X i1 g1)(wz:cf X o2 f2)(hi2:cf X i2 g2)(hc:12e0:=by rfl)
  (ha1:∀v,assign (.Subscript o1 i1 p1) X.env v=(do
   let ov ←Vo [v] (eval o1 X.env)
   let iv ←Vo [v,ov] (eval i1 X.env)
   UN p1
   Vo [v,ov,iv] (setItem ov iv v)
   release [v,ov,iv] []):=by intro _;rfl)
  (ha2:∀v,assign (.Subscript o2 i2 p2) X.env v=(do
   let ov ←Vo [v] (eval o2 X.env)
   let iv ←Vo [v,ov] (eval i2 X.env)
   UN p2
   Vo [v,ov,iv] (setItem ov iv v)
   release [v,ov,iv] []):=by intro _;rfl)
  (hs:VG [.Tuple 11e3 kt pt] (.Tuple [a,b] k2 pt2) pos.line X.env=pure ah:=by rfl) (hw:VH [.Tuple 11e3 kt pt] (.Tuple [a,b] k2 pt2) X.env=pure af:=by rfl)
  (h1:(Y1 [.Tuple 11e3 kt pt] X.env).map (·.2)=[assign (.Tuple 11e3 kt pt) X.env]:=by rfl)
  (h2:(Y1 11e3 X.env).map (·.2)=assign (.Subscript o1 i1 p1) X.env::(Y1 [.Subscript o2 i2 p2] X.env).map (·.2):=by rfl)
  (h3:(Y1 [.Subscript o2 i2 p2] X.env).map (·.2)=assign (.Subscript o2 i2 p2) X.env::(Y1 [] X.env).map (·.2):=by rfl)
  (h4:(Y1 11e3 X.env).length=2:=by rfl) (h5:(Y1 11e3 X.env).findIdx? (·.1)=af:=by rfl):
  pO X (.Assign [.Tuple 11e3 kt pt] (.Tuple [a,b] k2 pt2) pos) (A4 fs f1 g1 f2 g2):=by
 subst_eqs;show PS.imp (sI (ng h) (GO hc (m9 (yA ho1 hi1 set_list ha1) (m9 (yA wz hi2 set_list ha2) Am h3) h2) h4 h5) hs hw h1) λD σ H h_=>by
    sleep 6;let#[xs,C1,e1,e]:=dI e
    match xs,e1,e with
    |[x,y],e1,e=>
     let#[fl1,C2,e2,e3]:=dI e;show#[ι,ρ,C,[x,y],C1,sr,e1,λvs H1 r1 c1 rs=>?_];let#[v,ws,rfl,rx,w,us,rfl,ry,hu]:=rs;cases(show us=[]from hu);show#[by change 2<=Yp;rw[YH];decide,λt ht=>#[t,[v,w],rfl,.inl (.inl oz),rfl,v,[w],rfl,?_]];have f0:Fr ι H1 (upd H1 t (.tup [v,w])):=Fr.new ht;have c0:=c1.new (o:=.tup [v,w]) ht;have CO:=(sr.step r1 c1).step f0 c0;show(Zde CO (rx.mono c1 f0) e2 λH2 f2 c2=>#[w,[],rfl,?_]).2;have jF:=CO.step f2 c2;show(Zde jF ((ry.mono c1 f0).mono c0 f2) e3 λH3 f3 c3=>#[rfl,?_]).2;cases(Zde (Q:=λ_ _=>True) jF ((ry.mono c1 f0).mono c0 f2) e3 λ_ _ _=>trivial).1;show Done.P4 (jF.step f3 c3) (d.fr c3 (r1.trans (f0.trans (f2.trans f3))))
end
section
variable{P:Yy}{w:World}{K:W.Frag}{mg:5e1}{base:Heap}
theorem Gu{N ps:2e2}{k:Nat}{body:8e9}(F:eD K x qual st f fd)(S:aP N ps 12e5)
  (fB:∀(cdv:Value)(A:Around)(outer:List Env)(s:Shared)(H:Hp)(E:XK),dy k 10e1->
   B4 (gJ cu P w K mg base N qual (aK st) f cdv A outer s H E).Ey (cO st) body):aO P w K mg base cu (k+1) f fd ps (gP K (vQ ps.length (N.length-ps.length) body)):=by
 subst_eqs;show F.ok S (λvs H Q E h_=>?_) (λcdv A outer s H vs Q E hr h_=>?_)<;>let#[ι,ss,C,r,C',cr,rs,e,q]:=h_
 .ext vQ e
  by_cases h:ss.length=ps.length
  .rw[←dc.length rs];show h
  .rw[aI h]at e;cases e
 .show#[_,fB cdv A outer s H E hr,?_]
  ext vQ e;by_cases h:ss.length=ps.length
  case neg=>rw[aI h]at e;cases e
  rw[aE h]at e;have sr:=Zck (N:=N) cr rs;rw[h]at sr;cases hb:body (ss.map ae++YG (N.length-ps.length) af) C with
  |none=>rw[hb]at e;cases e
  |some z=>
   let#[fl,C2]:=z;rw[hb]at e;show#[ι,_,C,fl,C2,sr,hb,?_];cases fl with
   |rt r2=>
    cases r2 with
    |v p=>cases e
    |c j=>
     intro ι2 v H' x c h_;let#[a,hv,ha]:=h_;subst hv;dsimp only at e;by_cases hj:j<C.length
     .rw[aE hj]at e;cases e
     .rw[aI hj]at e
      cases hd:C2[j]? with
      |none=>rw[hd]at e;cases e
      |some d=>
       rw[hd]at e;cases d with
       |lst qs=>
        cases e;let#[Lp,Hx,e1,e2,e3,e4,e5]:=DE c ha hd (by rw[cr.len];lia);rw[cr.len]at e3;have hai:a∈ι2:=by
         rw[YW (by rw[cr.len];lia)]at ha;show YY ha
        rw[e1];show q a Lp Hx (λb o n z=>e5 b o (λw=>by rw[w,x.2 a hai]at z;cases z) (x.1 b o n z)) e3 e2 e4
       |_=>cases e
   |_=>cases e
end
end Pu
namespace Pu
open PySem PySem.Spec L2
open PyProof.Rows hiding St Fr
section
variable{X:Cx}{e o st:Expr}{fa fo fs:3e6}{p p2 pos apos cc:Pos}
theorem yt(he:cf X e fa)(hs:cf X st fs):KW X (.Subscript e (.Slice af af (ae st) p2) pos) (sV fa fs):=by
 subst_eqs;intro pins s σ H Q I h_;let#[ι,ρ,C,z,C',sr,e0,q]:=h_;let#[x,C1,e1,g1]:=dI e0;let#[k,C2,e2,g2]:=dI g1;let#[e3,hC]:=oW g2;subst hC;let#[pa,pb,pc,pd,hd,rfl,rfl]:=ya e3;show Subscript_ (dz (he pins s σ H (λv H1=>Pu.Fr ι H H1/\CR X.K ι H1 C1/\cH X.K ι H1 x v) I #[ι,ρ,C,x,C1,sr,e1,λv H1 f1 c1 r1=>#[f1,c1,r1]]) λv s1 h_=>?_);let#[y,H1,I1,r1,f1,c1,rx]:=h_;show wpAny_Slice ?_;rw[evalPart_none];show Yh (Yh ?_);rw[evalPart_some];show dz (hs pins s1 σ H1 (λv H2=>Pu.Fr ι H1 H2/\CR X.K ι H2 C'/\cH X.K ι H2 (.v (.int 2)) v) I1 #[ι,ρ,C1,_,C',9e5,e2,λv H2 f2 c2 r2=>#[f2,c2,r2]]) λu s2 h_=>?_;let#[y2,H2,I2,r2,f2,c2,rk]:=h_;have hk:y2=.int 2:=by unfold cH Rep at rk;show rk
 subst hk;let#[t,rfl]:=r2;let#[a,vs,rfl,h1,rv]:=gR ((rx.mono c1 f2).lies c2 hd);let#[v1,v2,v3,v4,rfl,rv2]:=VbY rv;cases r1;have I4:Inv X pins σ H2 {s2 with heap:=s2.heap.push {cls:=.type "slice",data:=.fields [.none,.none,.int 2 t].toArray}}:=I2.kept (t':=s2.toks) λb ob q=>Yc _ q;let#[ba,r,ht,hz]:=I4.list h1;let#[u1,u2,u3,u4,rfl,r2]:=vals4 r;show tail_any (ops:=[.ref a,.ref s2.heap.objs.size]) ht.isList.typeIs slot_list_getitem.lookup ?_ (by with_unfolding_all rfl);show wpAny_getItem_list_slice ht.isList (Heap.IsSliceOf.new ..) .none .none (.int 2 t) 3e7 ?_ (by rw[Yj];show hz);rw[show slicePick [u1,u2,u3,u4].toArray af af (ae 2)=[u1,u3].toArray by first|kernel_rfl|(with_unfolding_all rfl)];show#[.ref _,_,I4.laid (t':=s2.toks) (o:=.lst [v1,v3]) (λb ob q=>Yc _ q) (Yo _) ?_,rfl,q _ [v1,v3] H2 (f1.trans f2) c2 (I4.cR.fresh (Yo _)) rv2];show#[by rw[YH];simp,[u1,u3],0,r2,Yn _ rfl]
end
end Pu
namespace Ex
open PySem PySem.Spec
open Sem (wp)
abbrev XO(nm q:Str)(C N Ab:Addr)(bs:4e4)(sn:2e2)(sub:4e4)(ab:Bool)(col:Option Bool)(dd:Option Addr)(k0 k1 k2 k3 k5:Option Value):Obj:=VN nm q C N bs (.ref Ab::jb) ag sn sub ab col dd k0 k1 k2 k3 k5 "ValueError.__new__"
noncomputable abbrev NM (t:Addr):Data:=.fields [.ref t,.none,.none,.none,.bool ah,.none].toArray
def pN(h:Heap)(C:Addr):Heap:=(h.push {cls:=.type "tuple",data:=.seq #[]}).push {cls:=.ref C,data:=NM h.objs.size}
theorem Sk:ExcBaseFacts "ValueError" "ValueError.__new__" "ValueError.__init__" jb:=PySem.F.excBase_ValueError
section
variable{prog:Yy}{w:World}{A:Around}{M:Model}{R:Result->Shared->Prop}{E:2e9}{h:Heap}{g:Array GenState}{d:Drawn}{t:Nat}{os:OsState}
 {nm q:Str} {C N Ab:Addr} {bs:4e4} {sn:2e2} {sub:4e4} {ab:Bool} {col:Option Bool} {dd:Option Addr} {k0 k1 k2 k3 k5:Option Value}
section
variable{HL:Bool}{newId:String}(hC:h.get? C=ae (VN nm q C N bs (.ref Ab::jb) HL sn sub ab col dd k0 k1 k2 k3 k5 newId))
include hC
theorem mO{X:String}{b:Bool}{Q:10e6}(hb:jb.contains (.type X)=b)(hq:Q b 4e9):wpAny M A (Uw (.ref C) (.type X)) Q E 4e9:=
 W5 hC (show Q (jb.contains (.type X)) _ by rw[hb];show hq)
end
variable(hC:h.get? C=ae 14e8)
include hC
theorem Zy(hq:R (.ok (.ret (.ref (h.objs.size+1)))) #[pN h C,g,d,t,os]):VQ 5e0 A (.builtin "ValueError.__new__" #[[.ref C],[]]) R 4e9:=by
 show codeAny_builtinAt Sk.entry ?_
 delta W3.«BaseException.__new__»
 have hw:("ValueError.__new__":String).endsWith ".__new__"=ag:=Sk.ends;show wpAt_bind (Q:=_) (show wpAt _ _ _ (stack>>=_) _ _ _ from wpAt_bind (wpAt_stack λ_ _=>wpAt_of_wpAny ?_))
 erw[hw,if_true,Sk.owner]
 show Yh (wpAt_of_wpAny ?_);repeat first
  |show hq
  |with_reducible show mO hC (by decide:jb.contains _=ag) ?_
  |with_reducible show mO hC (by decide:jb.contains _=ah) ?_
  |with_reducible show wpAny_madeHere_exc Sk.canon hC ?_
  |with_reducible show YU hC ?_
  |wp_step
 dsimp only;rw[WD];show hq
omit hC in
theorem Zd4(C:Addr):∀b o,h.get? b=ae o->(pN h C).get? b=ae o:=λ_ _ e=>Yc _ (Yc _ e)
omit hC in
theorem BI(C:Addr):(pN h C).get? (h.objs.size+1)=ae {cls:=.ref C,data:=NM h.objs.size}:=by ext pN;heap_get
theorem Nr{mN:5e1}{c0:Value}{da:Option Addr}{cd:ClassData}{Q:13e0}(hn:h.Ns N mN)(hni:mN "__init__"=af)
  (hA:h.get? Ab=ae {cls:=c0,dict:=da,data:=.cls cd,slots:=sl}) (DT:h.Ns cd.ns mA) (hi:mA "__init__"=ae v) (hq:Q (ae v) 4e9):wpAny M A (WU (.ref C) "__init__") Q E 4e9:=by
 have two:wpAny M A (VS (.ref Ab::jb) "__init__") Q E 4e9:=by
  rw[VA];show Yb (wpAny_classOwn_cls hA DT (by rw[hi];show Yh hq))
 have one:wpAny M A (VS (.ref C::.ref Ab::jb) "__init__") Q E 4e9:=by
  rw[VA];show Yb (wpAny_classOwn_exc hC hn (by rw[hni];show two))
 rw[typeLookup_eq];show Yb (Uy hC one)
theorem JX{mN:5e1}{c0:Value}{da:Option Addr}{cd:ClassData}{fI:Addr}{oI:Obj}(hn:h.Ns N mN)(hni:mN "__init__"=af)
  (hA:h.get? Ab=ae {cls:=c0,dict:=da,data:=.cls cd,slots:=sl}) (DT:h.Ns cd.ns mA) (hi:mA "__init__"=ae (.ref fI)) (hfI:h.get? fI=ae oI) (hfc:oI.cls=.type "function")
  (hq:wpAny 5e0 (A.under (.builtin "type.__call__" #[[.ref C],[]])) (call (.ref fI) [.ref (h.objs.size+1)]) (λr s'=>r=.none/\Q (.ref (h.objs.size+1)) s') E #[pN h C,g,d,t,os]):
  wpAny 5e0 A (call (.ref C) []) Q E 4e9:=by
 have kp:=Zd4 (h:=h) C;have inner:wpAny 5e0 (A.under (.builtin "type.__call__" #[[.ref C],[]])) (W3.«type.__call__» #[[.ref C],[]]) (λf s'=>∃u,f=.done (.ret u)/\Q u s') E 4e9:=by
  delta W3.«type.__call__»
  repeat first
   |with_reducible show wpAny_madeBy_exc hC ?_
   |with_reducible show YU hC ?_
   |wp_step
  show codeAny_call_builtin_code (Vg _ Sk.quiet) (wpAny_check_new_subU Sk (bmB:=.ref Ab::jb) rfl .base hC (Zy hC ?_));have hC1:=kp _ _ hC;have ho:=BI (h:=h) C;have VbV:∀{Q:10e6},Q ag #[pN h C,g,d,t,os]->wpAny 5e0 (A.under (.builtin "type.__call__" #[[.ref C],[]])) (Uw (.ref C) (.ref C)) Q E #[pN h C,g,d,t,os]:=λz=>W5 hC1 (by simpa using z);dsimp only
  delta isInstance callSpecial? specialOf
  repeat first
   |with_reducible show VbV ?_
   |with_reducible show YU ho ?_
   |with_reducible show Nr hC1 (hn.keeps kp) hni (kp _ _ hA) (DT.keeps kp) hi ?_
   |wp_step
  delta bindSpecial
  have hf:(#[pN h C,g,d,t,os]:Shared).TypeIs (.ref fI) "function":=#[oI,kp _ _ hfI,hfc]
  show Yb (Us hf ?_)
  erw[beq_self_eq_true,V1,if_true]
  show Yh (Yb (Xf hq ?_ λ_ _ z=>z));rintro r s' ⟨rfl,z⟩;repeat wp_step
  show#[_,rfl,z]
 have lk:=tc_lookup;have bd:=tc_bind (.ref C);have ty:(4e9:Shared).TypeIs (.ref C) "type":=#[_,hC,rfl]
 show wpAny_call (codeAny_of_tree (show wpAny _ _ (callAny (.ref C) _) _ _ _ from ?_))
 delta callAny
 repeat any_goals first
  |assumption
  |with_reducible show YU hC ?_
  |wp_step
 have quiet:(Code.builtin "type.__call__" #[[.ref C],[]]).quiet=ag:=Vg _ 9e0;show#[rfl,codeAny_call_builtin_at quiet entry_typeCall (wpAny_check_type_call_sub hC (Xf inner ?_ λ_ _ z=>z))];rintro f s' ⟨u,rfl,z⟩;show z
end
section
variable{prog:Yy}{w:World}{A:Around}{E:2e9}{s:Shared}{env:Env}
 {nm q:Str} {C N Ab:Addr} {bs:4e4} {sn:2e2} {sub:4e4} {ab:Bool} {col:Option Bool} {dd:Option Addr} {k0 k1 k2 k3 k5:Option Value}
def ue(C:Addr)(cl:Obj)(E:2e9)(v:Value)(s:Shared):Prop:=∃e t dx sl,v=.ref e/\s.heap.get? C=ae cl/\s.heap.get? e=ae {cls:=.ref C,dict:=dx,data:=NM t,slots:=sl}/\E v s
theorem thrown{M:Model}{x:Sem Value}{Q:Flow->Shared->Prop}(hh:A.handled=af)(h:wpAny M A x (ue C 14e8 E) E s):wpAny M A (raiseStmt env (ae x) af) Q E s:=by
 delta raiseStmt
 show Yb (Xf h ?_ λ_ _ z=>z);rintro _ ⟨hp,g,d,tk,os⟩ ⟨e,t,dx,sl,rfl,hC,he,hE⟩;repeat first
  |with_reducible show mO hC (rfl:jb.contains (.type "BaseException")=ag) ?_
  |with_reducible show YU hC ?_
  |with_reducible show YU he ?_
  |wp_step
 show wpAny_raiseNew_none hh hE
theorem De{mN:5e1}{fI:Addr}{c0:Value}{da:Option Addr}{cd:ClassData}{oI:Obj}{np:Pos}{Q:Flow->Shared->Prop}
  (hh:A.handled=af) (hni:mN "__init__"=af) (hi:mA "__init__"=ae (.ref fI)) (hfc:oI.cls=.type "function")
  (h:wpAny 5e0 A (eval (.Name x np) env) (λf s₁=>f=.ref C/\s₁.heap.get? C=ae 14e8/\s₁.heap.Ns N mN/\
    s₁.heap.get? Ab=ae {cls:=c0,dict:=da,data:=.cls cd,slots:=sl}/\s₁.heap.Ns cd.ns mA/\s₁.heap.get? fI=ae oI/\
    wpAny (model prog w) (A.under (.builtin "type.__call__" #[[.ref C],[]])) (call (.ref fI) [.ref (s₁.heap.objs.size+1)]) (λr s'=>r=.none/\ue C (XO nm q C N Ab bs sn sub ab col dd k0 k1 k2 k3 k5) E (.ref (s₁.heap.objs.size+1)) s') E {s₁ with heap:=pN s₁.heap C}) E s):
  wpAny 5e0 A (exec (.Raise (ae (.Call (.Name x np) [] [] cc)) af pos) env) Q E s:=by
 rw[arm_exec_Raise];show Yb (WQ ?_);have made:wpAny 5e0 A (eval (.Call (.Name x np) [] [] cc) env) (ue C 14e8 E) E s:=by
  show wpAny_Call_ofName (Xf h ?_ λ_ _ z=>z);rintro _ ⟨hp,g,d,tk,os⟩ ⟨rfl,hC,hn,hA,DT,hfI,hc⟩
  delta callWith
  show Yb (Xc ?_);show PySem.evalArgs_none (Yb (WQ (Yb (wpAny_keeperOf_exc hC ?_))));show Yb (Xf (JX hC hn hni hA DT hi hfI hfc hc) ?_ λ_ _ z=>z);show λr s' z=>Yb (Xc (wpAny_point (Yh z)))
 have all:wpAny 5e0 A (do let v ←eval (.Call (.Name x np) [] [] cc) env;UN pos;pure v) (ue C 14e8 E) E s:=
  Yb (Xf made (λr s' z=>Yb (WQ (Yh z))) λ_ _ z=>z)
 show thrown hh all
end
end Ex
namespace Ex
open PySem PySem.Spec Builtin Builtin.ObjectAttr
open Sem (wp)
section
variable{prog:Yy}{w:World}{A:Around}{M:Model}{E:2e9}{h:Heap}{g:Array GenState}{d:Drawn}{t:Nat}{os:OsState}
 {nm q:Str} {C N Ab:Addr} {bs:4e4} {sn:2e2} {sub:4e4} {ab:Bool} {col:Option Bool} {dd:Option Addr} {k0 k1 k2 k3 k5:Option Value}
 {mN mA:5e1} {name:Str} {v:Value} {c0:Value} {da:Option Addr} {cd:ClassData} {sl:Array (Option Value)} {sa owner:String} {e k:Addr}
theorem sQ{HL:Bool}{newId:String}(hC:h.get? C=ae (VN nm q C N bs (.ref Ab::jb) HL sn sub ab col dd k0 k1 k2 k3 k5 newId))(hn:h.Ns N mN)(hA:h.get? Ab=ae {cls:=c0,dict:=da,data:=.cls cd,slots:=sl})(DT:h.Ns cd.ns mA){y:Option Value}{Q:13e0}(h1:mN name=af)(h2:mA name=af)(hB:WU (.type "ValueError") name=pure y)(hq:Q y 4e9):wpAny M A (WU (.ref C) name) Q E 4e9:=by
 rw[typeLookup_eq,Sk.mroIs]at hB;have two:wpAny M A (VS (.ref Ab::jb) name) Q E 4e9:=by
  rw[VA];show Yb (wpAny_classOwn_cls hA DT ?_);rw[h2];change wpAny M A (VS jb name) Q E _;rw[show VS jb name=pure y from hB];show Yh hq
 have one:wpAny M A (VS (.ref C::.ref Ab::jb) name) Q E 4e9:=by
  rw[VA];show Yb (wpAny_classOwn_exc hC hn (by rw[h1];show two))
 rw[typeLookup_eq];show Yb (Uy hC one)
variable(S:StoreFacts "ValueError" jb sa owner)
 (hC:h.get? C=ae 14e8) (hn:h.Ns N mN) (hA:h.get? Ab=ae {cls:=c0,dict:=da,data:=.cls cd,slots:=sl}) (DT:h.Ns cd.ns mA)
def ui(h h':Heap)(C e k:Addr):Prop:=(∃dx,h'.get? e=ae {cls:=.ref C,dict:=some dx,data:=NM k})/\∀b o,b≠e->h.get? b=ae o->h'.get? b=ae o
noncomputable abbrev uI (h:Heap)(e:Addr):Heap:=(h.push {cls:=.type "dict",data:=.dict #[]}).update e λo=>{cls:=o.cls,dict:=some h.objs.size,data:=o.data,slots:=o.slots}
section
variable(ho:h.get? e=ae {cls:=.ref C,data:=NM k})
include ho
theorem OP:h.objs.size≠e:=λz=>XJ _ (z▸Ys ho)
theorem Vd6:(uI h e).get? e=ae {cls:=.ref C,dict:=some h.objs.size,data:=NM k}:=X6 _ (Yc _ ho) rfl
theorem Vd7:(uI h e).Ns1 h.objs.size λ_=>af:=by
 have at':(uI h e).get? h.objs.size=ae {cls:=.type "dict",data:=.dict #[]}:=by
  rw[X0 _ _ _ _ (OP ho)];show Heap.get?_push_at rfl rfl
 show .of_empty #[_,#[],_,at',rfl,by simp[StrKeys],λ_=>rfl]
theorem EY:∀b o,b≠e->h.get? b=ae o->(uI h e).get? b=ae o:=λb o hb z=>by
 rw[X0 _ _ _ _ hb];show Yc _ z
theorem marked(hs:X5 h.objs.size (uI h e) h'):ui h h' C e k:=
 #[#[_,(hs.2 e (OP ho).symm).trans (Vd6 ho)],λb o hb z=>(hs.2 b (YK (Ys z))).trans (EY ho b o hb z)]
end
include S hC hn hA DT in
theorem Mx{tk:Tok}{Q:Fin->Shared->Prop}(h1:mN name=af)(h2:mA name=af)(hB:WU (.type "ValueError") name=pure af)(ho:h.get? e=ae {cls:=.ref C,data:=NM k})
  (hq:∀h' OS,ui h h' C e k->Q (.done (.ret .none)) #[h',g,d,OS,os]):wpAny 5e0 A (W3.«object.__setattr__» #[[.ref e,.str name tk,v],[]]) Q E 4e9:=by
 have away:refuseLoop (.ref e) "__setattr__" (.ref C::.ref Ab::jb)=pure ():=by rw[refuseLoop_ref,refuseLoop_ref];show S.passes _
 delta W3.«object.__setattr__»
 repeat first
  |rw[refuse_eq]
  |rw[away]
  |with_reducible show Uy hC ?_
  |with_reducible show sQ hC hn hA DT h1 h2 hB ?_
  |with_reducible show YU ho ?_
  |with_reducible show wpAny_nsSet1 (Vd7 ho) λh' hn' hs=>?_
  |wp_step
 let#[oD,es,ep,z1,z2,z3]:=hn'.count (Within.cons name v Within.nil);have fit:oD.data.pastItsLine=af:=by rw[z2];show pastItsLine_dict (YC z3 (by rw[YH];show Nat.succ_le_succ (XZ _)))
 show wpAny_loadPart z1 ?_;rw[fit];show Yh (Yh (hq _ _ (marked ho hs)))
include S hC in
theorem Dj{nv:Value}{Q:14e2}(ho:h.get? e=ae {cls:=.ref C,data:=NM k})(hq:Q () 4e9):wpAny M A (Uk sa #[[.ref e,nv,v],[]]) Q E 4e9:=by
 have arg:argsOk sa #[[.ref e,nv,v],[]]:=S.args _ _ _
 delta Uk
 erw[S.kind,S.split]
 delta isInstance
 repeat first
  |with_reducible show mO hC S.hasOwner ?_
  |with_reducible show YU ho ?_
  |wp_step
 ext argsOk arg;split
 .rename_i sig z
  rw[z]at arg;rw[show Bind.checkArgs sa sig #[[.ref e,nv,v],[]]=pure ()from arg];show Yh hq
 .show Yh hq
include S hC hn hA DT in
theorem My{Q:14e2}(Qu:mN "__setattr__"=af)(pJ:mA "__setattr__"=af)(h1:mN name=af)(h2:mA name=af)(hB:WU (.type "ValueError") name=pure af)(ho:h.get? e=ae {cls:=.ref C,data:=NM k})
  (hq:∀h' OS,ui h h' C e k->Q () #[h',g,d,OS,os]):wpAny 5e0 A (setAttr (.ref e) name v) Q E 4e9:=by
 have sb:=S.slot.bind (.ref e);have code:∀{R:Result->Shared->Prop}{tk:Tok},(∀h' OS,ui h h' C e k->R (.ok (.ret .none)) #[h',g,d,OS,os])->VQ 5e0 A (.call (.builtin sa) #[[.ref e,.str name tk,v],[]]) R #[h,g,d,t+1,os]:=λz=>VE S.slot.plain S.entry (Dj S hC ho (Mx S hC hn hA DT h1 h2 hB ho z))
 delta setAttr callSpecial? specialOf
 repeat any_goals first
  |assumption
  |with_reducible show YU ho ?_
  |with_reducible show sQ hC hn hA DT Qu pJ S.slot.lookup ?_
  |wp_step
 show code λh' OS z=>Yh (Yh (hq h' OS z))
end
end Ex
namespace Ex
open PySem PySem.Spec L2
open Sem (wp)
def XC(h:Heap)(C Ab fI:Addr):Prop:=∃nm q N bs sn sub ab col dd k0 k1 k2 k3 k5 mN mA c0 da cd sl oI,
 h.get? C=ae (VN nm q C N bs (.ref Ab::jb) ag sn sub ab col dd k0 k1 k2 k3 k5 "ValueError.__new__")/\h.Ns N mN/\mN "__init__"=af/\mN "__setattr__"=af/\mN "row"=af/\
 h.get? Ab=ae {cls:=c0,dict:=da,data:=.cls cd,slots:=sl}/\h.Ns cd.ns mA/\mA "__init__"=ae (.ref fI)/\mA "__setattr__"=af/\mA "row"=af/\h.get? fI=ae oI/\oI.cls=.type "function"
theorem XC.keeps{h h':Heap}{C Ab fI:Addr}(x:XC h C Ab fI)(kp:∀b o,h.get? b=ae o->h'.get? b=ae o):XC h' C Ab fI:=by
 let#[nm,q,N,bs,sn,sub,ab,col,dd,k0,k1,k2,k3,k5,mN,mA,c0,da,cd,sl,oI,a1,a2,a3,a4,a5,a6,a7,a8,a9,Ot,a11,a12]:=x;show#[nm,q,N,bs,sn,sub,ab,col,dd,k0,k1,k2,k3,k5,mN,mA,c0,da,cd,sl,oI,kp _ _ a1,a2.keeps kp,a3,a4,a5,kp _ _ a6,a7.keeps kp,a8,a9,Ot,kp _ _ a11,a12]
noncomputable def exN (C e t:Addr):HO:=.ext λh=>h.get? e=ae {cls:=.ref C,data:=.fields [.ref t,.none,.none,.none,.bool ah,.none].toArray}
noncomputable def D6 (C e t:Addr):HO:=.ext λh=>∃dx sl,h.get? e=ae {cls:=.ref C,dict:=dx,data:=.fields [.ref t,.none,.none,.none,.bool ah,.none].toArray,slots:=sl}
theorem Van{P:Yy}{C e t:Addr}(x:h.get? e=ae {cls:=.ref C,data:=.fields [.ref t,.none,.none,.none,.bool ah,.none].toArray}):cw P w H h e (exN C e t):=
 #[x,#[_,x],λh1 h2 a b=>b _ a]
theorem Vam{P:Yy}{C e t:Addr}{dx:Option Addr}(x:h.get? e=ae {cls:=.ref C,dict:=dx,data:=.fields [.ref t,.none,.none,.none,.bool ah,.none].toArray,slots:=sl}):cw P w H h e (D6 C e t):=
 #[#[dx,sl,x],#[_,x],λh1 h2 #[a,b,c] k=>#[a,b,k _ c]]
theorem F4:WU (.type "ValueError") "row"=pure af:=by rw[typeLookup_type,builtinLookup_eq_fast];kernel_rfl
section
variable{X:Cx}{pins:3e2}{σ:St}{H:Hp}{s:Shared}{C Ab fI e t:Addr}{A:Around}{E:2e9}
theorem Mf{Q:14e2}(I:2e3)(x:XC X.base C Ab fI)(he:H e=ae (exN C e t))
  (h:∀s',Inv X pins σ (upd H e (D6 C e t)) s'->Q () s'):wpAny 3e0 A (setAttr (.ref e) "row" u) Q E s:=by
 let#[nm,q,N,bs,sn,sub,ab,col,dd,k0,k1,k2,k3,k5,mN,mA,c0,da,cd,sl,oI,a1,a2,a3,a4,a5,a6,a7,a8,a9,Ot,a11,a12]:=x.keeps I.bk;have ho:s.heap.get? e=ae {cls:=.ref C,data:=.fields [.ref t,.none,.none,.none,.bool ah,.none].toArray}:=(show cw X.prog X.w H s.heap e (exN C e t)from I.cR e _ he).1;let#[hp,g,d,tk,os]:=s;show My PySem.F.store_ValueError a1 a2 a6 a7 a4 a9 a5 Ot F4 ho λh' OS #[#[dx,e1],hk]=>?_;show h _ (I.write (x:=e) (e:=e) (by rw[he];show Wl) 17e9 hk #[_,e1] (Vam e1))
end
def Vek(C:Addr)(ta tv:TE):TS:=λD σ H=>tv σ H λ_ H1=>ta σ H1 λx H2=>∃e t,x=.ref e/\H2 e=ae (exN C e t)/\D.nx σ (upd H2 e (D6 C e t))
def FP(X:Cx)(C:Addr):TS:=λ_ σ H=>∀pins e t s',H e=af->X.s₀.heap.get? e=af->Inv X pins σ (upd H e (D6 C e t)) s'->X.xe (.ref e) s'
def spI(C:Addr):Sp:=λvs H Q _=>∃e t y,vs=[.ref e,y]/\H e=ae (exN C e t)/\Q .aS (upd H e (D6 C e t))
section
variable{X:Cx}{C Ab fI:Addr}{o value:Expr}{ta tv:TE}{pos pos' np cc:Pos}{CX:zP}{k:Nat}{fd:WR}{ps:2e2}{x:Str}
theorem TB(hx:X.K.In X.base->XC X.base C Ab fI)(ha:PE X o ta)(hv:PE X value tv)(hs:Xv value (ae (.Attribute o "row" pos')) pos.line X.env=pure ah):PS X (.Assign [.Attribute o "row" pos'] value pos) (Vek C ta tv):=by
 intro pins s σ H D I h;show plainObj_wpAny_Assign_Attribute (dz (hv pins s σ H _ I h) λu s1 #[y,H1,I1,ry,q]=>dz (ha pins s1 σ H1 _ I1 q) λov s2 #[x,H2,I2,rx,e,t,ex,ea,q2]=>?_) hs;subst ex;obtain rfl:ov=YI e:=rx;show Mf I2 (hx I2.ok.mod.Nb) ea λs3 I3=>#[σ,_,I3,q2]
theorem GD(hx:X.K.In X.base->XC X.base C Ab fI)(F:aO X.prog X.w X.K X.mg X.base CX k fI fd ps (spI C))(hr:dy (k+1) X.A)(hh:X.A.handled=af)(hg:Gl X x)(hm:X.mg x=ae (.ref C))(hb:Binds X.K fd ps [.none])(hp:Passes CX X E0)
  (EA:ps.length=2) (md:4e1:=by decide):PS X (.Raise (ae (.Call (.Name x np) [] [] cc)) af pos) (FP X C):=by
 intro pins s σ H D I h;let#[nm,q,N,bs,sn,sub,ab,col,dd,k0,k1,k2,k3,k5,mN,mA,c0,da,cd,sl,oI,a1,a2,a3,a4,a5,a6,a7,a8,a9,Ot,a11,a12]:=hx I.ok.mod.Nb;show De (C:=C) (Ab:=Ab) (fI:=fI) hh a3 a8 a12 (mE I hg hm #[rfl,I.bk _ _ a1,a2.keeps I.bk,I.bk _ _ a6,a7.keeps I.bk,I.bk _ _ a11,?_] md);have hz:s.heap.objs.size<=s.heap.objs.size+1:=Nat.le_succ _;have ht:=BI (h:=s.heap) C;generalize hed:s.heap.objs.size+1=e at *;generalize htd:s.heap.objs.size=t at ht;have he:H e=af:=I.cR.fresh hz;have I2:Inv X pins σ (upd H e (exN C e t)) {s with heap:=pN s.heap C}:=I.laid (t':=s.toks) (Zd4 C) hz (Van ht);have r2:Vals [V.ref e,.aS] [YI e,.none]:=.cons rfl (.cons rfl .nil);have hq:spI C [V.ref e,.aS] (upd H e (exN C e t)) (λv H2=>v=.aS/\H2=upd H e (D6 C e t)) E0:=#[e,t,.aS,rfl,oz,rfl,LY]
 show wpAny_call (V0 (F.run _ X.stack _ _ #[[YI e],[]] [YI e,.none] _ _ E0 (hr.make C [] []) (I2.Vap.make C [] []) (hb _ [YI e] I2.jY (by rw[EA];rfl)) r2 hq) λr s' hq'=>?_);cases r with
 |error e'=>show hp pins σ _ _ e' s' I2 hq'
 |ok fl=>
  cases fl with
  |ret u=>
   let#[v,H',I3,rv,ev,q3]:=I2.after hq';subst ev q3;have hu:u=Value.none:=rv;subst hu;let#[dx,CQ,ho]:=(show cw X.prog X.w _ s'.heap e (D6 C e t)from I3.cR e _ oz).1;show#[rfl,e,t,dx,CQ,rfl,I3.bk _ _ a1,ho,h pins e t s' he (Wf (YC I.sz hz)) I3]
  |next=>show Xu hq'
  |brk=>show Xu hq'
  |cont=>show Xu hq'
end
end Ex
namespace Ex
open PySem PySem.Spec PySem.W L2
open PyProof.Rows hiding St Fr
open Sem (wp)
noncomputable def D7 (C e:Addr):HO:=.ext λh=>∃o vs,h.get? e=ae o/\o.cls=.ref C/\o.data=.fields vs
theorem Jw{P:Yy}{C e:Addr}{o:Obj}{vs:Array Value}(x:h.get? e=ae o)(y:o.cls=.ref C)(z:o.data=.fields vs):cw P w H h e (D7 C e):=
 #[#[o,vs,x,y,z],#[_,x],λh1 h2 #[a,b,c,d] k=>#[a,b,k _ c,d]]
def kK(B:Heap)(l:List Env)(e:Addr)(cls:Value)(h:Heap):Prop:=B.StaysIn h/\B.get? e=af/\h.FunFrames B l/\∃a0 fl,h.TracedAtW B e cls a0 fl
section
variable{M:Model}{A:Around}{E:2e9}{s:Shared}{B:Heap}{env NP:Env}{outer l:List Env}{L e:Addr}{cls:Value}{Q:14e2}
theorem wA{T:Addr}{oe oT:Obj}{vs ts:Array Value}{f0 a0:Value}(hkb:B.StaysIn h)(hen:B.get? e=af)(hl:h.FunFrames B l)(he:h.get? e=ae oe)(hcl:oe.cls=cls/\vs[0]? = ae a0)(hd:oe.data=.fields vs)(h1:vs[1]? = ae (.ref T))
  (hnT:B.get? T=af) (yS:T≠e) (hT:h.get? T=ae oT) (hdT:oT.data=.fields ts) (h3:ts[3]? = ae f0):
  kK B l e cls (h.update T (VJ (·.setIfInBounds 3 u)))/\h.UpToSlots (h.update T (VJ (·.setIfInBounds 3 u))):=by
 generalize hh:h.update T (VJ (·.setIfInBounds 3 u))=h';have same:∀b o,b≠T->h.get? b=ae o->h'.get? b=ae o:=λb o z k=>by rw[←hh,Vl _ _ z.symm];show k
 have plain:∀b o,h.get? b=ae o->(∀vs,o.data≠.fields vs)->h'.get? b=ae o:=λb o k nf=>same b o (λz=>by subst z;rw[hT]at k;cases k;show nf ts hdT) k;have at3:h'.get? T=ae (oT.mapFields (·.setIfInBounds 3 u)):=by rw[←hh];show X6 _ hT (Vw (X8 hdT _))
 have sz:3<ts.size:=(XF.mp h3).1;show#[#[λb o k=>same b o (λz=>by subst z;rw[hnT]at k;cases k) (hkb b o k),hen,hl.of_keeps λb o k nf=>#[o,plain b o k nf,rfl],a0,u,?_],λb o k nf=>#[o.slots,plain b o k nf]];show#[oe,vs,T,_,_,same e oe yS.symm he,hcl,hd,h1,hnT,yS,at3,X8 hdT _,by simp[sz]]
theorem Zc3(ux:A.frames=ae (env::outer))(hf:env.frame=ae L)(hf':NP.frame=ae L)(hh:kK B (env::outer) e cls s.heap)
  (h:∀h',kK B (env::outer) e cls h'->s.heap.UpToSlots h'->Q () {s with heap:=h'}):wpAny M A (UJ (.ref e) NP) Q E s:=by
 let#[k1,k2,k3,a0,fl,oe,vs,T,oT,ts,t1,t2,t3,t4,t5,t6,t7,t8,t9]:=id hh;have tn:(YI T != Y9)=ag:=by simp
 have fr:PySem.frameOf NP=PySem.frameOf env:=by ext PySem.frameOf;rw[hf,hf']
 delta UJ
 erw[hf']
 show Yb (Xd t1 t3 t4 (Yb (Xd t7 t8 t9 ?_)));by_cases q:(fl==rawInt L)=ag
 .erw[q,if_true]
  show Yh (h _ hh λb o z _=>#[o.slots,z])
 let#[n1,n2]:=wA (u:=.none) k1 k2 k3 t1 t2 t3 t4 t5 t6 t7 t8 t9;obtain⟨m1,_,m3,b0,_,oe',Lp,_,_,_,r1,⟨r2,r0⟩,r3,r4,_⟩:=n1;subst r2
 erw[q,if_false,fr]
 show Yb (WZ t7 t8 (XF.mp t9).1 ?_);show wpAny_entryW ux m3 hf r1 m1 k2 r3 (XF.mp r4).1 r0 λh' #[x1,x2,x3,x4]=>h h' #[x1,k2,x2,b0,_,x3] λb o z nf=>?_;let#[sl,y]:=n2 b o z nf;let#[CQ,y']:=x4 b _ y nf;show#[CQ,y']
theorem ZbF{fl:Option Addr}(hh:kK B l e cls s.heap)(h:∀h',kK B l e cls h'->s.heap.UpToSlots h'->Q () {s with heap:=h'}):wpAny M A (UK (.ref e) fl) Q E s:=by
 let#[k1,k2,k3,a0,f0,oe,vs,T,oT,ts,t1,t2,t3,t4,t5,t6,t7,t8,t9]:=hh;let#[n1,n2]:=wA (u:=fl.elim Y9 λf=>rawInt f) k1 k2 k3 t1 t2 t3 t4 t5 t6 t7 t8 t9;have tn:(YI T != Y9)=ag:=by simp
 delta UK
 show Yb (Xd t1 t3 t4 ?_)
 erw[tn,if_true]
 show WZ t7 t8 (XF.mp t9).1 (h _ n1 n2)
theorem GX{Q:α->Shared->Prop}{Vd5:String}(hh:kK B l e cls s.heap)(h:∀h',kK B l e cls h'->s.heap.UpToSlots h'->E (.ref e) {s with heap:=h'}):wpAny M A (PySem.passOn Vd5 (.ref e) NP:Sem α) Q E s:=by
 let#[_,_,_,a0,f0,oe,vs,T,oT,ts,he,Vac,hd,h1,_]:=id hh;ext PySem.passOn;show Yb (Xd he hd h1 ?_);rw[aI (show¬((YI T==Y9)=ag)from by simp)];show Yb (ZbF hh λh' a b=>wpAny_throw (h h' a b))
end
theorem Ay{P:Yy}{o:HO}(x:cw P w H h a o):∃ob,h.get? a=ae ob:=by
 cases o with
 |lst xs=>let#[_,_,_,_,e]:=x;show#[_,e]
 |tup xs=>let#[_,_,_,o,e,_]:=x;show#[o,e]
 |dK bA=>let#[_,_,_,_,o,_,_,e,_]:=x;show#[_,e]
 |dT bA=>let#[_,_,_,_,o,_,_,e,_]:=x;show#[_,e]
 |set S n=>let#[o,_,_,_,e,_]:=x;show#[_,e]
 |ins C dx fs=>let#[_,_,_,e,_]:=x;show#[_,e]
 |own y=>show x
 |xd fs=>obtain⟨_,⟨_,_,_,e,_⟩,_⟩:=x;show#[_,e]
 |rng lo hi=>let#[_,_,_,e]:=x;show#[_,e]
 |yX ob u=>let#[e,_]:=x;show#[_,e]
 |OT ps=>show#[_,(show h.get? a=ae _ from x)]
 |met f y=>show#[_,(show h.get? a=ae _ from x)]
 |ext φ=>obtain⟨_,⟨_,e⟩,_⟩:=x;show#[_,e]
structure xC(P:Yy)(w:World)(l:List Env)(H:Hp)(h:Heap)(B:Heap)(e C:Addr)(H':Hp)(h':Heap):Prop where
 un:Un (gw l) [] H H' h h'
 ok:ke P w H' h'
 at':H' e=ae (D7 C e)
 new:h.get? e=af
 held:kK B l e (.ref C) h'
 fr:∀b∈gw l,H' b=af
 cov:∀b o,h'.get? b=ae o->b≠e->b∉gw l->(H' b≠af\/h.get? b≠af)->B.get? b=ae o
section
variable{P:Yy}{w:World}{l:List Env}{H H0 H':Hp}{h h0 h' h2:Heap}{B:Heap}{e C:Addr}
theorem Zdc{x:Option α}{y:α}(h:x=ae y):x≠af:=by rw[h];simp
theorem xC.ne(F:xC P w l H h B e C H' h'){o:Obj}(q:h.get? b=ae o):b≠e:=λz=>by rw[z,F.new]at q;cases q
theorem xC.turn(F:xC P w l H h B e C H' h')(hd:kK B l e (.ref C) h2)(up:h'.UpToSlots h2):xC P w l H h B e C H' h2:=by
 have nn:∀b:Addr,b∉([]:List Addr):=λb z=>by cases z
 have frm:∀b o,h'.get? b=ae o->b∈gw l->∃sl,h2.get? b=ae {o with slots:=sl}:=λb o q hb=>by
  let#[_,o',pK,ED]:=F.held.2.2.1.mem hb;rw[q]at pK;cases pK;show up b o q ED
 have kp:∀b o,h'.get? b=ae o->b≠e->b∉gw l->(H' b≠af\/h.get? b≠af)->h2.get? b=ae o:=λb o q h1 h2 h3=>hd.1 b o (F.cov b o q h1 h2 h3);have u:=F.un;show#[#[λb o q n hb _=>kp b o (u.keep b o q n hb (nn b)) (F.ne q) hb (.inr (Zdc q)),λb o q n hb _=>?_,u.free,λb o q _=>?_,u.gp,u.gi,u.hJ],λb o q=>?_,F.at',F.new,hd,F.fr,λb o q hb hn hr=>?_]
 .let#[sl,k1]:=u.slot b o q n hb (nn b)
  let#[CQ,k2]:=frm b _ k1 hb;show#[CQ,k2]
 .let#[o',k1]:=u.there b o q (nn b)
  by_cases hb:b∈gw l
  .let#[sl,k2]:=frm b o' k1 hb;show#[_,k2]
  .show#[o',kp b o' k1 (F.ne q) hb (.inr (Zdc q))]
 .by_cases hb:b=e
  .subst hb
   rw[F.at']at q;cases q;obtain⟨_,_,_,_,_,oe,vs,T,oT,ts,y1,⟨y2,_⟩,y3,_⟩:=hd;show Jw y1 y2 y3
  .show(F.ok b o q).fE (λc v hc g=>kp c v g ?_ (λz=>?_) (.inl ?_)) (λc hc=>hc) λc xs hc=>hc
   .rcases hc with rfl|hc
    .show hb
    .intro z;rw[z,F.at']at hc;cases hc
   .have:=F.fr c z
    rcases hc with rfl|hc
    .rw[q]at this;cases this
    .rw[hc]at this;cases this
   .rcases hc with rfl|hc
    .show Zdc q
    .show Zdc hc
 .have hh:∃o',h'.get? b=ae o':=by
   rcases hr with hr|hr
   .cases hH:H' b with
    |none=>show absurd hH hr
    |some v=>show Ay (F.ok b v hH)
   .cases hq:h.get? b with
    |none=>show absurd hq hr
    |some o'=>show u.there b o' hq (nn b)
  let#[o',q']:=hh;have k1:=F.cov b o' q' hb hn hr;have k2:=hd.1 b o' k1;rw[q]at k2;cases k2;show k1
theorem xC.back{ex:6e8}(F:xC P w l H h B e C H' h')(u:Un (gw l) ex H0 H h0 h)(d:∀b o,h0.get? b=ae o->b∉ex):xC P w l H0 h0 B e C H' h':=by
 have nn:∀b:Addr,b∉([]:List Addr):=λb z=>by cases z
 have t0:∀b o,h0.get? b=ae o->∃o',h.get? b=ae o':=λb o q=>u.there b o q (d b o q);show#[#[λb o q n hb _=>F.un.keep b o (u.keep b o q n hb (d b o q)) (u.free b o q n (d b o q)) hb (nn b),λb o q n hb _=>?_,λb o q n _=>?_,λb o q _=>?_,λb xs q=>F.un.gp b xs (u.gp b xs q),λb o v q=>F.un.gi b o v (u.gi b o v q),λb ps q=>?_],
  F.ok,F.at',?_,F.held,F.fr,λb o q hb hn hr=>F.cov b o q hb hn (hr.imp id λhr=>?_)]
 .let#[sl,k1]:=u.slot b o q n hb (d b o q)
  let#[CQ,k2]:=F.un.slot b _ k1 (u.free b o q n (d b o q)) hb (nn b);show#[CQ,k2]
 .let#[o',k1]:=t0 b o q
  show F.un.free b o' k1 (u.free b o q n (d b o q)) (nn b)
 .let#[o',k1]:=t0 b o q
  show F.un.there b o' k1 (nn b)
 .let#[m1,k1]:=u.hJ b ps q
  let#[m2,k2]:=F.un.hJ b _ k1;show#[m1++m2,by rw[k2,VX]]
 .cases q:h0.get? e with
  |none=>rfl
  |some o=>let#[o',k1]:=t0 e o q;show absurd rfl (F.ne k1)
 .cases hq:h0.get? b with
  |none=>show absurd hq hr
  |some o'=>let#[o1,k1]:=t0 b o' hq;show Zdc k1
theorem xC.pop{L:Addr}(F:xC P w (env::l) H h B e C H' h')(hf:env.frame=ae L)(hL:h.get? L=af):xC P w l H h B e C H' h':=by
 have nn:∀b:Addr,b∉([]:List Addr):=λb z=>by cases z
 have hfs:gw (env::l)=L::gw l:=by ext gw;rw[Xq,hf]
 have no:∀b o,h.get? b=ae o->b∉gw l->b∉gw (env::l):=λb o q n z=>by
  rw[hfs]at z;rcases Ye.mp z with z|z
  .rw[z,hL]at q;cases q
  .show n z
 have sub:∀b∈gw l,b∈gw (env::l):=λb hb=>by rw[hfs];show YQ _ hb
 show#[#[λb o q n hb _=>F.un.keep b o q n (no b o q hb) (nn b),λb o q n hb _=>F.un.slot b o q n (sub b hb) (nn b),F.un.free,F.un.there,F.un.gp,F.un.gi,F.un.hJ],F.ok,F.at',F.new,#[F.held.1,F.held.2.1,F.held.2.2.1.2.2,F.held.2.2.2],λb hb=>F.fr b (sub b hb),λb o q hb hn hr=>F.cov b o q hb (λz=>?_) hr];rw[hfs]at z;rcases Ye.mp z with z|z
 .rcases hr with hr|hr
  .show hr (F.fr b (by rw[hfs,z];show Xn))
  .rw[z]at hr;show hr hL
 .show hn z
end
noncomputable def jA (P:Yy)(w:World):zP:=λl H s E ev s'=>∃e C B H',ev=.ref e/\s'.os=s.os/\Uc s'.gens/\xC P w l H s.heap B e C H' s'.heap/\E (.ref C) (ae e) H'
def XP(X:Cx)(E:XK):Prop:=∀ev s',jA X.prog X.w X.stack X.H₀ X.s₀ E ev s'->X.xe ev s'
section
variable{X:Cx}{pins:3e2}{σ:St}{H:Hp}{s s':Shared}{E:XK}{ev:Value}
theorem Zdm(I:2e3):∀b∈X.fs,b∈gw X.stack:=λb hb=>by
 rcases I.ok.stk with q|⟨q,hf⟩
 .rw[q];show hb
 .rw[q];ext gw;rw[Xq,hf];show YQ _ hb
theorem wN(I:2e3)(hd:∀b∈X.ex,X.s₀.heap.get? b=af)(h:jA X.prog X.w X.stack H s E ev s'):jA X.prog X.w X.stack X.H₀ X.s₀ E ev s':=by
 let#[e,C,B,H',rfl,uw,hb,F,hE]:=h;show#[e,C,B,H',rfl,uw.trans I.os,hb,F.back (I.base.mono (Zdm I) λb hb=>hb) λb o q z=>(by rw[hd b z]at q;cases q),hE]
theorem XP.passes(h:XP X E)(hd:∀b∈X.ex,X.s₀.heap.get? b=af):Passes (jA X.prog X.w) X E:=λpins σ H s e s' I hx=>h e s' (wN I hd hx)
end
section
variable{X:Cx}{pins:3e2}{σ:St}{H:Hp}{s:Shared}{C e t:Addr}{Q:14e2}{E:2e9}
theorem vX(I:Inv X pins σ (upd H e (D6 C e t)) s)(hex:X.ex=[])(jk:X.stack=X.env::X.outer)(hf:15e7)(hs0:X.s₀.heap.get? e=af)
  (h:∀h' B,xC X.prog X.w X.outer X.H₀ X.s₀.heap B e C (upd H e (D7 C e)) h'->Q () {s with heap:=h'}):
  wpAny 3e0 X.A (leaving X.env (.ref e)) Q E s:=by
 let#[dx,sl,ho]:=(show cw X.prog X.w _ s.heap e (D6 C e t)from I.cR e _ oz).1;have he:upd H e (D6 C e t) e=ae (D6 C e t):=oz;have VeH:∀env∈X.env::X.outer,∀b,env.frame=ae b->b∈e::gw X.stack:=λenv hm b hb=>YQ _ (by rw[jk];show VZ.mpr #[env,hm,hb]);have hl:s.heap.FunFrames (UF s.heap (e::gw X.stack)) (X.env::X.outer):=funFrames_hide (by rw[←jk];show I.stack) VeH;show wpAny_leaving_firstW (base:=UF s.heap (e::gw X.stack)) (oe:=_) (a0:=.ref t) (by rw[I.ok.frames,jk]) hl hf ho (λb o q=>of_hideAll _ q) (hideAll_none _ (.head _)) rfl rfl rfl λh' hL=>?_;let#[x1,x2,x3,x4]:=hL;obtain⟨oe,vs,T,oT,ts,y1,⟨y2,_⟩,y3,_⟩:=id x3;have nx:∀b:Addr,b∉X.ex:=λb z=>by rw[hex]at z;cases z
 have ka:∀b o,s.heap.get? b=ae o->b≠e->b∉gw X.stack->h'.get? b=ae o:=λb o q hb hn=>x1 b o (hideAll_get _ q λz=>(Ye.mp z).elim hb hn);have kb:∀b o,s.heap.get? b=ae o->b∈gw X.stack->∃sl,h'.get? b=ae {o with slots:=sl}:=λb o q hb=>by
  let#[_,o',pK,ED]:=(I.stack).mem hb;rw[q]at pK;cases pK;show x4 b o q ED
 have LZ:∀b,b≠e->upd H e (D7 C e) b=upd H e (D6 C e t) b:=λb hb=>by rw[fS hb,fS hb]
 have sfr:∀b∈gw X.stack,b≠e:=λb hb z=>by have:=I.ko b hb;rw[z,he]at this;cases this
 have nst:∀b o,X.s₀.heap.get? b=ae o->b∉X.fs->b∉gw X.stack:=λb o q hb z=>by
  rcases Ye.mp (I.jU b z)with r|r
  .have h1:=Ys q;rw[r]at h1;show absurd h1 (UD.mpr I.ok.above)
  .show hb r
 have kh:∀b o,X.s₀.heap.get? b=ae o->b≠e:=λb o q z=>by rw[z,hs0]at q;cases q
 have u:=I.base;have x2':h'.FunFrames (UF s.heap (e::gw X.stack)) X.stack:=by
  generalize UF s.heap (e::gw X.stack)=B at x2;rw[jk];show x2
 have fl:xC X.prog X.w (X.env::X.outer) X.H₀ X.s₀.heap (UF s.heap (e::gw X.stack)) e C (upd H e (D7 C e)) h':=by
  rw[←jk];show#[#[λb o q n hb _=>?_,λb o q n hb _=>?_,λb o q n _=>?_,λb o q _=>?_,λb xs q=>?_,λb o v q=>?_,λb qs q=>?_],λb o q=>?_,oz,hs0,#[x1,hideAll_none _ (.head _),x2',_,_,x3],λb hb=>by rw[LZ b (sfr b hb)];show I.ko b hb,λb o q hb hn hr=>?_]
  .show ka b o (u.keep b o q n (λz=>hb (Zdm I b z)) (nx b)) (kh b o q) hb
  .let#[sl,k1]:=u.any q n (nx b)
   let#[CQ,k2]:=kb b _ k1 hb;show#[CQ,k2]
  .rw[LZ b (kh b o q)];show u.free b o q n (nx b)
  .let#[o',k1]:=u.there b o q (nx b)
   by_cases hb:b∈gw X.stack
   .let#[sl,k2]:=kb b o' k1 hb;show#[_,k2]
   .show#[o',ka b o' k1 (kh b o q) hb]
  .have:=u.gp b xs q
   rw[LZ b (λz=>by rw[z,he]at this;cases this)];show this
  .have:=u.gi b o v q
   rw[LZ b (λz=>by rw[z,he]at this;cases this)];show this
  .let#[more,this]:=u.hJ b qs q
   show#[more,by rw[LZ b (λz=>by rw[z,he]at this;cases this)];show this]
  .by_cases hb:b=e
   .subst hb;rw[oz]at q;cases q;show Jw y1 y2 y3
   .rw[LZ b hb]at q
    show(I.cR b o q).fE (λc v hc g=>ka c v g ?_ (λz=>?_)) (λc hc=>?_) λc xs hc=>?_
    .rcases hc with rfl|hc
     .show hb
     .intro z;rw[z,he]at hc;cases hc
    .have:=I.ko c z
     rcases hc with rfl|hc
     .rw[q]at this;cases this
     .rw[hc]at this;cases this
    .rw[LZ c (λz=>by rw[z,he]at hc;cases hc)];show hc
    .rw[LZ c (λz=>by rw[z,he]at hc;cases hc)];show hc
  .have hold:∃o',s.heap.get? b=ae o':=by
    rcases hr with hr|hr
    .rw[LZ b hb]at hr
     cases hH:upd H e (D6 C e t) b with
     |none=>show absurd hH hr
     |some v=>show Ay (I.cR b v hH)
    .cases hq:X.s₀.heap.get? b with
     |none=>show absurd hq hr
     |some o'=>show u.there b o' hq (nx b)
   let#[o',q']:=hold;have:=ka b o' q' hb hn;rw[q]at this;cases this;show hideAll_get _ q' λz=>(Ye.mp z).elim hb hn
 show h h' _ (fl.pop hf (Wf I.ok.above))
end
section
variable{P:Yy}{w:World}{K:W.Frag}{mg:5e1}{base:Heap}{N:2e2}{qual:Str}{scope:Scope}{f:Addr}{cd:Value}{A:Around}{outer:List Env}{s:Shared}{H:Hp}{E:XK}{C:Addr}
theorem xQ{H1:Hp}{s1:Shared}(I:Inv 8e2 pins σ H1 s1):XP 8e2 E:=by
 rintro ev s' ⟨e,C,B,H',rfl,uw,hb,F,hE⟩;ext gJ;dsimp only;ext leaving;show Yb (Zc3 I.ok.frames rfl rfl F.held λh1 d1 u1=>?_);show ZbF d1 λh2 d2 u2=>?_;show#[e,C,B,H',rfl,uw,hb,((F.turn d1 u1).turn d2 u2).pop (L:=s.heap.objs.size) rfl (Wf (Yo _)),hE]
theorem ck:Passes (jA P w) 8e2 E:=λpins σ H1 s1 e s' I hx=>
 XP.passes (xQ I) (λb z=>by cases z) pins σ H1 s1 e s' I hx
theorem Sh{D:Ends}{H1:Hp}(h:∀e,H1 e=af->E (.ref C) (ae e) (upd H1 e (D7 C e))):FP 8e2 C D σ H1:=by
 intro pins e t s' he hs0 I;show vX (X:=gJ (jA P w) P w K mg base N qual scope f cd A outer s H E) I rfl rfl rfl hs0 λh' B fl=>?_;show#[e,C,B,upd H1 e (D7 C e),rfl,I.os,I.bare,fl,h e he]
end
end Ex
namespace Ex
open PySem PySem.Spec PySem.W L2
open PyProof.Rows hiding St Fr
section
variable{P:Yy}{w:World}{K:W.Frag}{mg:5e1}{base:Heap}
theorem NG{N ps:2e2}{k:Nat}{sp:Sp}(F:eD K x qual st f fd)(S:aP N ps 12e5)(len:∀vs H Q E,sp vs H Q E->vs.length=ps.length)
  (fB:∀(cdv:Value)(A:Around)(outer:List Env)(s:Shared)(H:Hp)(vs:List V)(Q:VK)(E:XK),dy k 10e1->sp vs H Q E->
   ∃t,i8 (gJ (jA P w) P w K mg base N qual (aK st) f cdv A outer s H E) (cO st) t/\t {nx:=λ_ H'=>Q .aS H',rt:=Q} (start N vs) H):aO P w K mg base (jA P w) (k+1) f fd ps sp:=by
 let#[oc,od,kV,doc,pm,an,cdv,ct,osl,rfl,lk,me]:=F.ex;show H9 lk me S len λA outer s H vs Q E hr LA=>fB cdv A outer s H vs Q E hr LA
end
section
variable{P:Yy}{w:World}{K:W.Frag}{mg:5e1}{base:Heap}{CX:zP}
theorem Nq{k:Nat}{C Ab:Addr}{params:UG}{dV kV doc pm cdv ct oc:Value}{an od:Option Addr}{osl:Array (Option Value)}{p1 p2 p3 p4:Pos}
  (lk:K.lookup f=ae #[oc,od,.func (W.fnOf name qual params [.Assign [.Attribute (.Name "self" p1) "row" p2] (.Name "row" p3) p4] scope dV kV doc pm an cdv ct),osl]) (me:W.codeIn K cdv qual=ag)
  (S:aP ["self","row"] ["self","row"] scope) (hx:K.In base->XC base C Ab f) (v0:Eo scope "self") (v1:Eo scope "row")
  (hs:∀env:Env,Xv (.Name "row" p3) (ae (.Attribute (.Name "self" p1) "row" p2)) p4.line env=pure ah):
  aO P w K mg base CX (k+1) f (W.fnOf name qual params [.Assign [.Attribute (.Name "self" p1) "row" p2] (.Name "row" p3) p4] scope dV kV doc pm an cdv ct) ["self","row"] (spI C):=by
 show H9 lk me S (λvs H Q E h_=>by let#[e,t,y,q,_]:=h_;rw[q];rfl) λA outer s H vs Q E hr LA=>?_;let#[e,t,y,rfl,he,q]:=LA;show#[_,sF (TB (X:=gJ CX P w K mg base ["self","row"] qual scope f cdv A outer s H E) hx (pv 0 rfl v0) (pv 1 rfl v1) (hs _)),?_];show#[y,rfl,.ref e,rfl,e,t,rfl,he,q]
end
end Ex
namespace Ex
open PySem PySem.Spec PySem.W L2 Pu
open PyProof.Rows hiding St Fr
def oA(K:W.Frag)(E:XK)(c:Addr)(ι:6e8)(H:Hp)(C:Cs):Prop:=∀e H',Pu.Fr ι H H'->Pu.CR K ι H' C->H' e=ae (D7 c e)->E (.ref c) (ae e) H'
noncomputable def tR (K:W.Frag)(E:XK)(c:Addr)(r:7e1):TE:=λσ H _=>∃ι ρ C,SR K ι H ρ σ C/\r ρ C/\oA K E c ι H C
noncomputable def mM (K:W.Frag)(E:XK)(c:Addr)(r:7e1):TS:=λ_ σ H=>∃ι ρ C,SR K ι H ρ σ C/\r ρ C/\oA K E c ι H C
noncomputable def dC (K:W.Frag)(c:Addr)(R:List SV->Cs->Prop):Sp:=λvs H _ E=>∃ι ss C,Pu.CR K ι H C/\dc K ι H ss vs/\R ss C/\oA K E c ι H C
theorem oA.mono{E:XK}{c:Addr}{H1:Hp}(w:oA K E c ι H C)(f:Pu.Fr ι H H1):oA K E c ι H1 C:=λe H' f' c' h=>w e H' (f.trans f') c' h
section
variable{P:Yy}{w:World}{K:W.Frag}{mg:5e1}{base:Heap}{N:2e2}{qual:Str}{scope:Scope}{f:Addr}{cd:Value}{A:Around}{outer:List Env}{s:Shared}{H:Hp}{E:XK}{C Ab fI:Addr}
theorem Ms{k:Nat}{ps:2e2}{np:Pos}(hx:K.In base->XC base C Ab fI)(F:aO P w K mg base cu k fI fd ps (spI C))(hr:dy (k+1) (gJ (jA P w) P w K mg base N qual scope f cd A outer s H E).A)(hh:(gJ (jA P w) P w K mg base N qual scope f cd A outer s H E).A.handled=af)
  (hg:Gl 8e2 x) (hm:mg x=ae (.ref C)) (hb:Binds K fd ps [.none]) (EA:ps.length=2) (md:4e1:=by decide):
  PS 8e2 (.Raise (ae (.Call (.Name x np) [] [] cc)) af pos) (mM K E C λ_ _=>True):=
 PS.imp (GD (X:=gJ (jA P w) P w K mg base N qual scope f cd A outer s H E) hx F hr hh hg hm hb Ap EA md) λD σ H1 #[ι,ρ,C1,sr,_,wi]=>Sh λe he=>wi e _ (Fr.new he) (sr.cr.new he) oz
end
section
variable{X:Cx}{E:XK}{c:Addr}{e:Expr}{es:7e0}{x:Str}{p pos:Pos}
theorem Ts{k:Nat}{ps:2e2}{R:List SV->Cs->Prop}{fs:2e8}(G:aO X.prog X.w X.K X.mg X.base (jA X.prog X.w) k f fd ps (dC X.K c R))(hp:Passes (jA X.prog X.w) X E)(hr:dy k X.A)(hg:Gl X x)(hm:X.mg x=ae (.ref f))(hk:YD X.K (.ref f)=ag)(hb:Binds X.K fd ps [])
  (ha:AM X 4e8 fs) (md:4e1:=by decide) (he:1e3:=by rfl) (gk:3e4:=by rfl):
  PE X 11e6 (tR X.K E c λρ C=>∃xs,fs ρ C=ae (xs,C)/\R xs C):=PE.imp (sL G hr hg hm hk hb .nil hp ha md he gk) λσ H Q #[ι,ρ,C,sr,#[xs,e1,hR],wi]=>
 #[ι,ρ,C,xs,C,sr,e1,λvs H1 f1 c1 r1=>by
  change dC X.K c R (vs++[]) H1 Q E;rw[Yv];show#[ι,xs,C,c1,r1,hR,wi.mono f1]]
theorem Tq{r:7e1}(h:PE X e (tR X.K E c r))(hs:Xv e af pos.line X.env=pure ah:=by rfl):PS X (.Expr e pos) (mM X.K E c r):=PS.imp (Al h hs) λD σ H q=>q
theorem Tp{rest:List Stmt}{r:7e1}(h:PS X st (mM X.K E c r)):i8 X (st::rest) (mM X.K E c r):=λpins s σ H D I q=>KJ (PS.imp (t':=λD σ H=>mM X.K E c r D σ H) h λ_ _ _ z=>z) Zbt pins s σ H D I q
end
section
variable{X:Cx}{E:XK}{c:Addr}{e:Expr}{es:7e0}{x:Str}{p pos pos':Pos}{r:7e1}
theorem Vb3(hN:X.N.Nodup)(hi:11e7)(hx:Loc X.env.scope x)(h:PE X e (tR X.K E c r))(hs:13e6:=by rfl)
  (hf:6e2:=by first|show .inl rfl|show .inr rfl|assumption):PS X (.Assign [.Name x pos'] e pos) (mM X.K E c r):=PS.imp (ZdU hN hi hx h hs hf) λD σ H q=>q
theorem Vb4(h:PE X e (tR X.K E c r)):PS X (.Return (ae e) pos) (mM X.K E c r):=PS.imp (sH h) λD σ H q=>q
theorem Vem{t:Expr}{a b:List Stmt}(ht:TMt X t ft)(ha:i8 X a (mM X.K E c r)):PS X (.If t a b pos) (mM X.K E c λρ C=>ft ρ C=ae (ag,C)/\r ρ C):=
 PS.imp (qk ht ha Zbt) λD σ H #[ι,ρ,C,sr,#[e1,hr],wi]=>#[ι,ρ,C,ag,C,sr,e1,λH1 f1 c1=>VcC #[ι,ρ,C,9e5,hr,wi.mono f1]]
theorem Tr{t:Expr}{a b:List Stmt}(ht:TMt X t ft)(hb:i8 X b (mM X.K E c r)):PS X (.If t a b pos) (mM X.K E c λρ C=>ft ρ C=ae (ah,C)/\r ρ C):=
 PS.imp (qk ht Zbt hb) λD σ H #[ι,ρ,C,sr,#[e1,hr],wi]=>#[ι,ρ,C,ah,C,sr,e1,λH1 f1 c1=>Nj #[ι,ρ,C,9e5,hr,wi.mono f1]]
theorem To{rest:List Stmt}{f:8e9}(h:SM X st f)(h2:i8 X rest (mM X.K E c r)):i8 X (st::rest) (mM X.K E c λρ C=>∃ρ1,f ρ C=ae (.nx ρ1,C)/\r ρ1 C):=λpins s σ H D I #[ι,ρ,C,sr,#[ρ1,e1,hr],wi]=>
 KJ h h2 pins s σ H D I #[ι,ρ,C,.nx ρ1,C,sr,e1,λι3 σ' H2 x2 jF=>by
  have h3:ι3=[]:=by
   have a1:=jF.cr.len;have a2:=sr.cr.len;rw[YT]at a1;show YN 3e5
  subst h3;rw[Yv]at jF;show#[ι,ρ1,C,jF,hr,wi.mono x2.1]]
end
section
variable{P:Yy}{w:World}{K:W.Frag}{mg:5e1}{base:Heap}{c:Addr}
theorem Vak{N ps:2e2}{k:Nat}{r:7e1}(F:eD K x qual st f fd)(S:aP N ps 12e5)
  (fB:∀(cdv:Value)(A:Around)(outer:List Env)(s:Shared)(H:Hp)(E:XK),dy k 10e1->
   i8 (gJ (jA P w) P w K mg base N qual (aK st) f cdv A outer s H E) (cO st) (mM K E c r)):
  aO P w K mg base (jA P w) (k+1) f fd ps (dC K c λss C=>ss.length=ps.length/\r (ss.map ae++YG (N.length-ps.length) af) C):=by
 show NG F S (λvs H Q E #[ι,ss,C,cr,rs,#[hl,_],_]=>?_) (λcdv A outer s H vs Q E hr #[ι,ss,C,cr,rs,#[hl,hR],wi]=>#[_,fB cdv A outer s H E hr,?_])
 .rw[←dc.length rs];show hl
 .have sr:=Zck (N:=N) cr rs
  rw[hl]at sr;show#[ι,_,C,sr,hR,wi]
end
noncomputable def tRA (K:W.Frag)(E:XK)(c:Addr)(r:7e1):TA:=λσ H _=>∃ι ρ C,SR K ι H ρ σ C/\r ρ C/\oA K E c ι H C
section
variable{X:Cx}{E:XK}{c:Addr}{e a b:Expr}{es:7e0}{x:Str}{p pos:Pos}{r:7e1}
theorem PA.imp'{t t':TA}(h:PA X es t)(k:18e7):PA X es t':=λpos pins s σ H Q I q=>h pos pins s σ H Q I (k σ H Q q)
theorem Mq(h:PE X e (tR X.K E c r))(hr:∃t,PA X es t)(hs:1e3:=by rfl):PA X 4e8 (tRA X.K E c r):=by
 let#[t,hr]:=hr;show PA.imp' (BZ h hr hs) λσ H Q q=>q
theorem Mp{f:3e6}(h:EM X e f)(hr:PA X es (tRA X.K E c r))(hs:1e3:=by rfl):PA X 4e8 (tRA X.K E c λρ C=>∃z,f ρ C=ae (z,C)/\r ρ C):=
 PA.imp' (BZ h hr hs) λσ H Q #[ι,ρ,C,sr,#[z,e1,hR],wi]=>#[ι,ρ,C,z,C,sr,e1,λv H1 f1 c1 r1=>#[ι,ρ,C,9e5,hR,wi.mono f1]]
theorem Vb2{x1}(h:PA X es (tRA X.K E c r)):PE X (.Tuple es x1 pos) (tR X.K E c r):=PE.imp (ng h) λσ H Q q=>q
theorem GR:PE X e λ_ _ _=>False:=λ_ _ _ _ _ _ h=>h.elim
theorem Vb5{t:Expr}(ht:TMt X t ft)(ha:PE X a (tR X.K E c r)):PE X (.IfExp t a b pos) (tR X.K E c λρ C=>ft ρ C=ae (ag,C)/\r ρ C):=
 PE.imp (vo ht ha GR) λσ H Q #[ι,ρ,C,sr,#[e1,hr],wi]=>#[ι,ρ,C,ag,C,sr,e1,λH1 f1 c1=>VcC #[ι,ρ,C,9e5,hr,wi.mono f1]]
theorem i8.or'{st:List Stmt}{r':7e1}(h:i8 X st (mM X.K E c r))(k:i8 X st (mM X.K E c r')):i8 X st (mM X.K E c λρ C=>r ρ C\/r' ρ C):=λpins s σ H D I #[ι,ρ,C,sr,q,wi]=>
 q.elim (λq=>h pins s σ H D I #[ι,ρ,C,sr,q,wi]) λq=>k pins s σ H D I #[ι,ρ,C,sr,q,wi]
end
end Ex
namespace Ex
open PySem PySem.Spec PySem.W L2
open PyProof.Rows hiding St Fr
abbrev rS(X:Cx)(N:2e2)(scope:Scope)(E:XK)(C:Addr)(s₀:Shared)(H₀:Hp)(ex:6e8)(pn:3e2):Cx:=
 (iP X N scope C s₀ H₀ ex pn).gc λev s'=>∃pl σ8 H8 s8,Inv (iP X N scope C s₀ H₀ ex pn) pl σ8 H8 s8/\jA X.prog X.w X.stack H8 s8 E ev s'
theorem tP{N:2e2}{E:XK}{C:Addr}{s₀:Shared}{H₀:Hp}{ex:6e8}{pn:3e2}:Passes (jA X.prog X.w) (rS X N scope E C s₀ H₀ ex pn) E:=
 λpl σ8 H8 s8 ev s' I hx=>#[pl,σ8,H8,s8,I.dM,hx]
theorem Bw{h h' B B':Heap}:∀{l:List Env},h.FunFrames B l->(∀b∈gw l,∀o,h.get? b=ae o->h'.get? b=ae o)->(∀b,B.get? b=af->B'.get? b=af)->h'.FunFrames B' l
 |[],_,_,_=>trivial
 |env::l,hl,hs,hb=>by
  obtain⟨hk,⟨L,o,hf,hn,ho,hd⟩,hr⟩:=hl;have hfs:gw (env::l)=L::gw l:=by ext gw;rw[Xq,hf]
  show#[hk,#[L,o,hf,hb L hn,hs L (by rw[hfs];show Xn) o ho,hd],Bw hr (λb hm=>hs b (by rw[hfs];show YQ _ hm)) hb]
section
variable{P:Yy}{w:World}{l:List Env}{H H':Hp}{h h1 h':Heap}{B:Heap}{e C c:Addr}
theorem xC.Vew(F:xC P w l H h B e C H' h1)(hc:h.get? c=af)(hn:H' c=af)(hl:c∉gw l)(sm:∀b,b≠c->h'.get? b=h1.get? b)(hd:∃o es n,h1.get? c=ae o/\o.data=.dict es n):xC P w l H h (UF B [c]) e C H' h':=by
 have nc:∀b o,h.get? b=ae o->b≠c:=λb o q z=>by rw[z,hc]at q;cases q
 have nH:∀b o,H' b=ae o->b≠c:=λb o q z=>by rw[z,hn]at q;cases q
 have nf:∀b o vs,h1.get? b=ae o->o.data=.fields vs->b≠c:=λb o vs q z y=>by
  let#[o',es,n,q',z']:=hd;rw[y,q']at q;cases q;rw[z']at z;cases z
 have hB:∀b,B.get? b=af->(UF B [c]).get? b=af:=λb z=>by
  cases q:(UF B [c]).get? b with
  |none=>rfl
  |some o=>rw[of_hideAll _ q]at z;cases z
 have u:=F.un;let#[d1,d2,d3,a0,fl,oe,vs,T,oT,ts,y1,y2,y3,y4,y5,y6,y7,y8,y9]:=F.held;have nn:∀b:Addr,b∉([]:List Addr):=λb z=>by cases z
 show#[#[λb o q n hb hx=>(sm b (nc b o q)).trans (u.keep b o q n hb hx),λb o q n hb hx=>?_,u.free,λb o q hx=>?_,u.gp,u.gi,u.hJ],λb o q=>?_,F.at',F.new,#[λb o q=>?_,hB e d2,Bw d3 (λb hb o q=>(sm b λz=>hl (z▸hb)).trans q) hB,a0,fl,oe,vs,T,oT,ts,(sm e (nH e _ F.at')).trans y1,y2,y3,y4,hB T y5,y6,(sm T (nf T oT ts y7 y8)).trans y7,y8,y9],F.fr,λb o q hb hm hr=>?_]
 .let#[sl,k]:=u.slot b o q n hb hx
  show#[sl,(sm b (nc b o q)).trans k]
 .let#[o',k]:=u.there b o q hx
  show#[o',(sm b (nc b o q)).trans k]
 .show(F.ok b o q).fE (λx v hx g=>(sm x ?_).trans g) (λ_ z=>z) λ_ _ z=>z
  rcases hx with rfl|hx
  .show nH _ _ q
  .show nH _ _ hx
 .have hb:b≠c:=λz=>by rw[z,hideAll_none _ (.head _)]at q;cases q
  show(sm b hb).trans (d1 b o (of_hideAll _ q))
 .have hbc:b≠c:=λz=>by
   rcases hr with hr|hr
   .rw[z]at hr;show hr hn
   .rw[z]at hr;show hr hc
  rw[sm b hbc]at q;show hideAll_get _ (F.cov b o q hb hm hr) λz=>hbc (by simpa using z)
end
section
variable{X:Cx}{tg elt iter:Expr}{ifs:7e0}{scope:Scope}{pos:Pos}{vs fs:2e2}{fr:List Nat}{g:TG}{tt:TT}{te:TE}
def OF(X:Cx)(E:XK)(N:2e2)(scope:Scope):Prop:=∀{pins:3e2}{σ:St}{H:Hp}{s:Shared}{fp:6e8}{C:Addr}{pn pl:3e2}{σ8:St}{H8:Hp}{s8 s9:Shared}{ev acc:Value}{cl:10e5}{use:Option (Value->Sem Unit)}{Q:2e9},Inv X pins σ H s->(∀b∈fp,jE X pins H b)->Inv (iP X N scope C s H fp pn) pl σ8 H8 s8->jA X.prog X.w X.stack H8 s8 E ev s9->s.heap.objs.size<=C->
  notedBy 3e0 X.A (compEnvC scope cl C X.env) (λe s'=>compPost 3e0 X.A X.xe use Q acc C (.error e) s') ev s9
theorem Hc{N:2e2}:OF X (λ_ _ _=>False) N scope:=λ_ _ _ hx _=>by
 let#[_,_,_,_,_,_,_,_,h]:=hx;show h.elim
theorem JU{E:XK}{N:2e2}(hex:X.ex=[])(jk:X.stack=X.env::X.outer)(ux:15e7)(xp:∀{pins σ H s},Inv X pins σ H s->XP X E):OF X E N scope:=λ{pins σ H s fp C pn pl σ8 H8 s8 s9 ev acc cl use Q} I hf J hx hC=>by
 replace xp:XP X E:=xp I;let#[e,C1,B,H',rfl,uw,hb,F,hE]:=hx;ext notedBy;show Zc3 (env:=X.env) (outer:=X.outer) (L:=X.env.locals) (by rw[I.ok.frames,jk]) ux ux (by rw[←jk];show F.held) λh1 d1 u1=>?_;have F1:=F.turn (by rw[jk];show d1) u1;let#[m,hm,_]:=id J.loc;have hm:s8.heap.Ns C m:=hm;let#[oC,es,ep,hoC,hdC,hrC]:=id hm;have hCs:C∉gw X.stack:=λz=>by
  rcases Ye.mp (I.jU C z)with q|q
  .show absurd I.lt (by rw[←q];show UD.mpr hC)
  .show I.Zu hC q
 have hH8:H8 C=af:=J.free;have k1:h1.get? C=ae oC:=F1.un.keep C oC hoC hH8 hCs 3e7;have hn1:h1.Ns C m:=#[oC,es,ep,k1,hdC,hrC]
 have u8:Un (gw X.stack) fp X.H₀ H8 X.s₀.heap s8.heap:=(I.base.mono (Zdm I) (λb hb=>by rw[hex]at hb;cases hb)).trans J.base;have F2:=F1.back u8 λb o q z=>by
  let#[_,_,_,f3,_]:=hf b z;rcases f3 with z|z
  .rw[hex]at z;cases z
  .show absurd (Ys q) (UD.mpr z)
 have key:∃m,h1.Ns C m/\∀h',X5 C h1 h'->∀Ed:Env,Ed.locals=C->wpAny 3e0 X.A (PySem.passOn "comprehension.variables-let-go" (.ref e) Ed:Sem Value) (λ_ _=>False) X.xe {s9 with heap:=h'}:=by
  show#[m,hn1,λh' hs Ed _=>?_];have F3:=F2.Vew (c:=C) (h':=h') (Wf (YC I.sz hC)) (F1.un.free C oC hoC hH8 3e7) hCs (λb hb=>hs.2 b hb) #[oC,es,ep,k1,hdC];show GX F3.held λh2 d2 u2=>xp _ _ #[e,C1,_,H',rfl,uw.trans (J.os.trans I.os),hb,F3.turn d2 u2,hE]
 cases use<;>show key
theorem vB{M:Model}{A:Around}{t:Sem α}{Q Q':α->Shared->Prop}{s:Shared}(h:wpAny M A t Q (λ_ _=>False) s)(hQ:∀a s,Q a s->Q' a s):wpAny M A t Q' E s:=
 Xf h hQ λ_ _ f=>Xu f
theorem ZdK{E:XK}{s:Shared}{Q:VK}{tn:Nat->Heap->Prop}{J:It}{RR:Value->Addr->Result->Shared->Prop}
  (S:14e3) (hc:12e0)
  (bG:∀C s₀ H₀ ex pn,PG 5e7 tg g) (bT:∀C s₀ H₀ ex pn,PTs 5e7 ifs tt) (bE:∀C s₀ H₀ ex pn,PE (rS X (vs++fs) scope E C s₀ H₀ ex pn) elt te)
  (I:2e3) (T:Turn X.prog X.w X.K tg J fp it tn) (st:tn 0 s.heap) (hf:∀b∈fp,jE X pins H b)
  (q:R5 J vs fr g tt te σ H Q)
  (hRX:∀(C:Addr)(pl:3e2)(σ8:St)(H8:Hp)(s8:Shared)(ev:Value)(s9:Shared),Inv (iP X (vs++fs) scope C s H fp (X.pn++pins)) pl σ8 H8 s8->jA X.prog X.w X.stack H8 s8 E ev s9->s.heap.objs.size<=C->
   notedBy (model X.prog X.w) X.A (compEnvC scope (eg X.env.cells scope.names []) C X.env) (λe s'=>RR (.ref s.heap.objs.size) C (.error e) s') ev s9)
  (hRR:∀D C H' s' m',Inv X pins σ H' s'->Q (.ref D) H'->s'.heap.Ns C m'->H' C=af->s.heap.objs.size<=C->RR (.ref D) C (.ok .next) s'):
  wpAny 3e0 X.A (newList []) (λacc s₃=>wpAny 3e0 X.A (newFunctionEnv scope X.env.globals (eg X.env.cells scope.names []) [] X.env.qual af .none (ae X.env)) (λEd s₄=>
   VQ (model X.prog X.w) X.A (.compStart (.ListComp elt [#[tg,iter,ifs,0]] scope pos) 0 (.ref it) acc {Ed with scope:=relabel scope X.env}) (RR acc Ed.locals) s₄) X.xe s₃) X.xe s:=by
 obtain⟨W,⟨m0,w0⟩,turn⟩:=q;show XI (wpAny_newFunctionEnv S.QN (by intro y hy;simp at hy) (λh₁ hns₁ hsb₁=>?_) S.kind);dsimp only at hns₁ hsb₁⊢;generalize hH2:s.heap.push {cls:=.type "list",dict:=none,data:=.seq ([]:List Value).toArray}=H2 at hns₁ hsb₁⊢;have hCs:H2.objs.size=s.heap.objs.size+1:=by rw[←hH2,WD]
 have hDC:s.heap.objs.size≠H2.objs.size:=by rw[hCs];show YK (Nat.lt_succ_self _)
 have HQ:s.heap.objs.size<=H2.objs.size:=by rw[hCs];show Nat.le_succ _
 have old:∀b o,s.heap.get? b=ae o->h₁.get? b=ae o:=λb o e=>hsb₁.extBut b o (Oy e HQ) (Yc _ (hH2▸Yc _ e));have Ve0:h₁.get? s.heap.objs.size=ae {cls:=.type "list",data:=.seq ([]:List Value).toArray 0}:=hsb₁.extBut _ _ hDC (Yc _ (hH2▸Yn _ rfl));have hfo:∀b∈fp,∃o,s.heap.get? b=ae o:=λb hb=>by let#[o,e,_]:=T.obj 0 _ st b hb;show#[o,e]
 generalize hY:iP X (vs++fs) scope H2.objs.size s H fp (X.pn++pins)=Y;have J0:Inv Y [] (se vs fr σ) H {s with heap:=h₁,toks:=s.toks+([]:List (Str×Value)).length}:=by
  rw[←hY];show zo S I hf hfo HQ hns₁ old
 have hG:PG Y tg g:=by rw[←hY];show bG _ _ _ _ _
 have hT:PTs Y ifs tt:=by rw[←hY];show bT _ _ _ _ _
 have hE:PE (Y.gc λev s9=>∃pl σ8 H8 s8,Inv Y pl σ8 H8 s8/\jA X.prog X.w X.stack H8 s8 E ev s9) elt te:=by rw[←hY];show bE _ _ _ _ _
 have ePr:Y.prog=X.prog:=by rw[←hY];rfl
 have eW:Y.w=X.w:=by rw[←hY];rfl
 have eK:Y.K=X.K:=by rw[←hY];rfl
 have eA:Y.A=X.A:=by rw[←hY];rfl
 have eC:Y.calm=ag:=by rw[←hY];show hc
 have NU:Y.env=compEnvC scope (eg X.env.cells scope.names []) H2.objs.size X.env:=by rw[←hY];rfl
 have eL:Y.env.locals=H2.objs.size:=by rw[NU];rfl
 have eX:Y.xe=λ_ _=>False:=by rw[←hY];rfl
 have eS:Y.s₀=s:=by rw[←hY];rfl
 have eEx:Y.ex=fp:=by rw[←hY];rfl
 have eFs:Y.fs=gw X.stack:=by rw[←hY];rfl
 have ePn:Y.pn=X.pn++pins:=by rw[←hY];rfl
 have eCl:∀x c,Y.env.cells.lookup x=ae c->X.env.cells.lookup x=ae c:=λx c e=>by
  rw[NU]at e;show S.cl I.ok e
 have JW:∀x c,Y.env.cells.lookup x=ae c->c≠s.heap.objs.size:=λx c e=>by
  let#[v,z]:=I.cell x c (eCl x c e);show YK z.lt
 have Ver:∀p∈Y.pn,p.1≠s.heap.objs.size:=λp hp=>by
  rw[ePn]at hp;show Oy (I.pin p hp).1 (Yo _)
 have fpD:∀b∈fp,b≠s.heap.objs.size:=λb hb=>by let#[o,e]:=hfo b hb;show Oy e (Yo _)
 have Ve1:s.heap.objs.size∉Y.fs:=λz=>by
  rw[eFs]at z;rcases Ye.mp (I.jU _ z)with z|z
  .show absurd I.lt (by rw[←z];show XJ _)
  .show I.Zu (Yo _) z
 have yb:∀{H':Hp}{o:Obj},(∀b∈fp,H' b=af)->∀b∈fp,jE Y [(s.heap.objs.size,o)] H' b:=λ{H' o} hn b hb=>by
  let#[f0,f1,f2,f3,f4,f5]:=hf b hb;let#[ob,e]:=hfo b hb;show#[hn b hb,by rw[eL];show Oy e HQ,λz=>?_,.inl (by rw[eEx];show hb),λx c e=>f4 x c (eCl x c e),λp hp=>?_]
  .rw[eFs]at z
   rcases Ye.mp (I.jU _ z)with z|z
   .show f1 z
   .show f2 z
  .rcases YZ.mp hp with hp|hp
   .rw[ePn]at hp;show f5 p hp
   .have:p=(s.heap.objs.size,o):=by simpa using hp
    rw[this];show XD (fpD b hb)
 have Vcg:∀{σ':St}{H':Hp}{s':Shared}{ba:4e4}{k:Nat},Inv Y [] σ' H' s'->H' s.heap.objs.size=af->s'.heap.get? s.heap.objs.size=ae {cls:=.type "list",data:=.seq ba.toArray k}->
   Inv Y [(s.heap.objs.size,{cls:=.type "list",data:=.seq ba.toArray k})] σ' H' s':=λ{σ' H' s' ba k} i hn e=>i.mw λp hp=>by
  have:p=(s.heap.objs.size,{cls:=.type "list",data:=.seq ba.toArray k}):=by simpa using hp
  subst this;show#[e,hn,by rw[eL];show hDC,Ve1,λv z=>by cases z]
 have loop:∀s₃:Shared,s₃={s with heap:=h₁,toks:=s.toks+([]:List (Str×Value)).length}->
   VQ 3e0 X.A (.compLoop 8e4 0 (.ref it) (.ref s.heap.objs.size) (compEnvC scope (eg X.env.cells scope.names []) H2.objs.size X.env))
    (RR (.ref s.heap.objs.size) H2.objs.size) s₃:=by
  rintro s₃ rfl;rw[←NU,←ePr,←eW,←eA];show tQ (λn s'=>∃i σ' ys ba k H',Inv Y [(s.heap.objs.size,{cls:=.type "list",data:=.seq ba.toArray k})] σ' H' s'/\Vals ys ba/\tn i s'.heap/\(∀b∈fp,H' b=af)/\W i n σ' ys H') ?_ m0
   #[0,_,[],[],0,H,Vcg J0 (I.cR.fresh (Yo _)) Ve0,.nil,T.keep _ _ _ st λb _ o e=>old b o e,λb hb=>(hf b hb).1,w0]
  rintro n s3 ⟨i,σ3,ys,ba,k,H3,J3,rv,st3,uA,w3⟩;have pD:=J3.pin (s.heap.objs.size,_) (YM _ (Xp.mpr rfl));have eI:=rv.length;rcases turn i n σ3 ys H3 w3 with⟨stop,hlen,qn⟩|⟨go,hlen,N,hN,step⟩
  .have dn:=T.done Y ePr eW eK eC i _ s3 σ3 H3 (λ_ _=>False) J3 (yb uA) st3 stop
   rw[←ePr,←eW]at dn;show vB dn λr s4 h_=>?_;let#[hr,J4]:=h_;subst hr;have pD4:=J4.pin (s.heap.objs.size,_) (YM _ (Xp.mpr rfl));let#[m4,hm4,_]:=id J4.loc;rw[eL]at hm4;have nC:H3 H2.objs.size=af:=by rw[←eL];show J4.free
   show hRR _ _ _ s4 m4 (comp_back I hf (by rw[hY];show J4) (Yo _) pD4.2.1 hlen rv pD4.1) (qn _ pD4.2.1) hm4 ?_ HQ;rw[fS (XD hDC)];show nC
  .have im:=T.item Y ePr eW eK eC i _ s3 σ3 H3 (λ_ _=>False) J3 (yb uA) st3 go
   rw[←ePr,←eW]at im;show vB im λr s4 h_=>?_;let#[u,hr,h4]:=h_;subst hr;show vB h4 λ_ s5 h_=>?_;let#[x,H5,J5,r5,y5,SF,fr5]:=h_;have J5':=J5.pinned (yb fr5) (T.obj _ _ SF);have go1:=hG _ s5 σ3 H5 x u _ J5' r5 (step x H5 y5);rw[eX]at go1;show vB go1 λ_ s6 h_=>?_;let#[σ6,H6,J6,q6]:=h_;have go2:=hT _ s6 σ6 H6 _ J6 q6;rw[eX]at go2;show vB go2 λok s7 h_=>?_;let#[H7,J7,q7]:=h_;have fin:∀{σ8:St}{H8:Hp}{s8:Shared},Inv Y ([(s.heap.objs.size,{cls:=.type "list",data:=.seq ba.toArray k})]++mZ fp s5.heap) σ8 H8 s8->
     tn (i+1) s8.heap/\(∀b∈fp,H8 b=af):=λ{σ8 H8 s8} J8=>by
    show#[T.keep _ _ _ SF λb hb o e=>(J8.pin (b,o) (YM _ (YM _ (Zb5 hb e)))).1,λb hb=>?_];let#[o,e,d]:=T.obj _ _ SF b hb;show(J8.pin (b,o) (YM _ (YM _ (Zb5 hb e)))).2.1
   cases ok with
   |false=>
    rw[aI Yt]at q7⊢;let#[m',hm,w7]:=hN _ _ _ q7;show#[m',hm,i+1,σ6,ys,ba,k,H7,J7.kj,rv,(fin J7).1,(fin J7).2,w7]
   |true=>
    rw[aE rfl]at q7⊢;show Xf (hE _ s7 σ6 H7 _ (J7.gc _) q7) (λyv s8 #[y,H8,J8,r8,n8]=>?_) λev s9 #[pl,σ8,H8,s8,J8,hx]=>?xo
    case xo=>
     have:=hRX H2.objs.size pl σ8 H8 s8 ev s9 (by rw[hY];show J8) hx HQ;rw[←NU,←ePr,←eW,←eA]at this;show this
    replace J8:=J8.dM;let#[m',hm,w8]:=hN _ _ _ n8;have pD8:=J8.pin (s.heap.objs.size,_) (YM _ (Xg _ (Xp.mpr rfl)));show append_at (hsz:=by rw[Yj,←eI];show hlen) pD8.1 λh9 hs9 hD9=>?_;have J9:Inv Y [] σ6 H8 {s8 with heap:=h9}:=(J8.mw (pins':=[]) λp hp=>absurd hp (by simp)).turned (t':=s8.toks) (λb o hb e=>(hs9.2 b hb).trans e) pD8.2.1 (by rw[eL];show hDC)
     (.inr (by rw[eS];show Yo _)) JW λp hp=>Ver p (by simpa using hp)
    show#[m',hm,i+1,σ6,ys++[y],ba++[yv],k+1,H8,Vcg J9 pD8.2.1 (by rw[hD9,List.push_toArray]),Vals.append rv (.cons r8 .nil),?_,(fin J8).2,w8];show T.keep _ _ _ (fin J8).1 λb hb o e=>(hs9.2 b (fpD b hb)).trans e
 show codeAny_compStart_list (loop _ rfl) (T.self _ 0 _ _ _ (T.keep _ _ _ st λb _ o e=>old b o e) (loop _ rfl))
theorem vp{E:XK}{wi:TI}(S:14e3)(hc:12e0)(hi:PI X tg iter wi)
  (bG:∀C s₀ H₀ ex pn,PG 5e7 tg g) (bT:∀C s₀ H₀ ex pn,PTs 5e7 ifs tt) (bE:∀C s₀ H₀ ex pn,PE (rS X (vs++fs) scope E C s₀ H₀ ex pn) elt te) (xo:OF X E (vs++fs) scope)
  (hs:15e4:=by intro _;rfl):
  PE X 8e4 (z8 wi vs fr g tt te):=by
 sleep 8;rw[eval_ListComp];show wpAny_comprehension_free (use:=none) rfl hs (Zd2 (S.VaR I.ok)) S.kind S.Vcx (dz (hi pins s σ H _ I h) λv s1 h1=>dz h1 λitv s2 h2=>?_);let#[it,fp,tn,J,H2,e,I2,T,st2,f2,q2]:=h2;subst e;show ZdK (RR:=λacc C=>compPost 3e0 X.A X.xe af 18e0 acc C) S hc bG bT bE I2 T st2 f2 q2 (λC pl σ8 H8 s8 ev s9 J8 hx hC=>xo I2 f2 J8 hx hC) ?_;intro D C H' s' m' I' hq hn hC hle;show#[m',hn,λh' hs'=>#[.ref D,H',?_,rfl,hq]];show I'.turned (t':=s'.toks) (λb o hb e=>(hs'.2 b hb).trans e) hC ?_ (.inr (YC I2.sz hle)) ?_ ?_
 .show Wr (Yr I2.lt hle)
 .intro x c e
  let#[v,z]:=I2.cell x c e;show YK (Yr z.lt hle)
 .intro p hp
  show Oy (I2.pin p hp).1 hle
theorem GH{E:XK}{wi:TI}{px:Pos}(hN:X.N.Nodup)(hx:11e7)(hl:X.env.scope.names.lookup x=ae .local)
  (S:14e3) (hc:12e0) (hi:PI X tg iter wi)
  (bG:∀C s₀ H₀ ex pn,PG 5e7 tg g) (bT:∀C s₀ H₀ ex pn,PTs 5e7 ifs tt) (bE:∀C s₀ H₀ ex pn,PE (rS X (vs++fs) scope E C s₀ H₀ ex pn) elt te) (xo:OF X E (vs++fs) scope)
  (Z':Xv 8e4 (ae (.Name x px)) kq.line X.env=pure ag:=by rfl)
  (hs:15e4:=by intro _;rfl):
  PS X (.Assign [.Name x px] 8e4 kq) (λD σ H=>z8 wi vs fr g tt te σ H λv H1=>D.nx (σ.set i (ae v)) H1):=by
 intro pins s σ H D I h;rw[exec_Assign_Name_used _ _ _ _ Z'];show Yb (WQ (Yb ?_));change wpAny _ X.A (do let _ ←comprehension 8e4 scope X.env _ (newList []) ah (eval iter X.env) (ae (assign (.Name x px) X.env))) _ _ s;show Yb (Xf (wpAny_comprehension_free (use:=some (assign (.Name x px) X.env)) (Q:=λ_ s'=>SP X pins D .next s') rfl hs (Zd2 (S.VaR I.ok)) S.kind S.Vcx
  (dz (hi pins s σ H _ I h) λv s1 h1=>dz h1 λitv s2 h2=>?_)) (λ_ s' hq=>Yh (Yh hq)) λ_ _ e=>e)
 let#[it,fp,tn,J,H2,e,I2,T,st2,f2,q2]:=h2;subst e;show ZdK (RR:=λacc C=>compPost 3e0 X.A X.xe (ae (assign (.Name x px) X.env)) (λ_ s'=>SP X pins D .next s') acc C) (Q:=λv H1=>D.nx (σ.set i (ae v)) H1) S hc bG bT bE I2 T st2 f2 q2 (λC pl σ8 H8 s8 ev s9 J8 hx hC=>xo I2 f2 J8 hx hC) ?_;intro Dd C H' s' m' I' hq hn hC hle;change wpAny _ X.A (assign (.Name x px) X.env (.ref Dd)) _ _ _;have hCL:C≠X.env.locals:=Wr (Yr I2.lt hle);have hCc:∀x c,X.env.cells.lookup x=ae c->c≠C:=λx c e=>by
  let#[v,z]:=I2.cell x c e;show YK (Yr z.lt hle)
 show wpAny_assign_Name (pW I' hN hx (.inl hl) (v:=.ref Dd) rfl (λs'' I'' Bp=>?_) (.inr hl));let#[a,VeE,ha]:=Bp;have hCa:C≠a:=by
  rcases ha with rfl|ha
  .show hCL
  .show XD (hCc x a ha)
 show#[m',hn.sameBut VeE hCa,λh' hs'=>#[σ.set i (ae (.ref Dd)),H',?_,hq]];show I''.turned (t':=s''.toks) (λb o hb e=>(hs'.2 b hb).trans e) hC hCL (.inr (YC I2.sz hle)) hCc ?_;intro p hp;show Oy (I2.pin p hp).1 hle
end
end Ex
namespace Ex
open PySem PySem.Spec PySem.W L2 Pu
open PyProof.Rows hiding St Fr
def i6(r r':7e1):aM->Cs->Prop:=λρ C=>r ρ C\/r' ρ C
def cz(f:8e9)(r:7e1):aM->Cs->Prop:=λρ C=>∃ρ1,f ρ C=ae (.nx ρ1,C)/\r ρ1 C
def Lu(ft:7e3)(b:Bool)(r:7e1):aM->Cs->Prop:=λρ C=>ft ρ C=ae (b,C)/\r ρ C
def bZ(fs:2e8)(R:List SV->Cs->Prop):aM->Cs->Prop:=λρ C=>∃xs,fs ρ C=ae (xs,C)/\R xs C
def Vb6:aM->Cs->Prop:=λ_ _=>True
def hV(f:3e6)(r:7e1):aM->Cs->Prop:=λρ C=>∃z,f ρ C=ae (z,C)/\r ρ C
def qR(g:5e8)(tt:7e3)(te:3e6)(re:7e1):List PV->aM->Cs->Prop
 |[],_,_=>False
 |x::r,ρ,C=>∃ρ1,g x ρ=ae ρ1/\((tt ρ1 C=ae (ag,C)/\(re ρ1 C\/∃p,te ρ1 C=ae (.v p,C)/\qR g tt te re r ρ1 C))\/(tt ρ1 C=ae (ah,C)/\qR g tt te re r ρ1 C))
def Aj(it:12e2)(vs:2e2)(fr:List Nat)(g:5e8)(tt:7e3)(te:3e6)(re:7e1):aM->Cs->Prop:=
 λρ C=>∃xs,it ρ C=ae (xs,C)/\xs.length<=100000/\qR g tt te re xs (di vs fr ρ) C
def iS(n pad:Nat)(r:7e1):List SV->Cs->Prop:=λss C=>ss.length=n/\r (ss.map ae++YG pad af) C
@[irreducible]def zI(X:Cx) (E:XK) (c:Addr) (e:Expr) (r:7e1):Prop:=PE X e (tR X.K E c r)
@[irreducible]def KU(X:Cx) (E:XK) (c:Addr) (es:7e0) (r:7e1):Prop:=PA X es (tRA X.K E c r)
@[irreducible]def Ep(X:Cx) (E:XK) (c:Addr) (st:Stmt) (r:7e1):Prop:=PS X st (mM X.K E c r)
@[irreducible]def Er(X:Cx) (E:XK) (c:Addr) (lC:List Stmt) (r:7e1):Prop:=i8 X lC (mM X.K E c r)
theorem EL:@zI=λX E c e r=>PE X e (tR X.K E c r):=by ext zI;rfl
theorem Zd5:@KU=λX E c e r=>PA X e (tRA X.K E c r):=by ext KU;rfl
theorem Ow:@Ep=λX E c e r=>PS X e (mM X.K E c r):=by ext Ep;rfl
theorem ZdM:@Er=λX E c e r=>i8 X e (mM X.K E c r):=by ext Er;rfl
def VdG(P:Yy)(w:World)(K:W.Frag)(mg:5e1)(base:Heap)(k:Nat)(x:Str)(c:Addr):Prop:=
 ∃(Ab fI:Addr)(fd:WR),(K.In base->XC base c Ab fI)/\aO P w K mg base cu k fI fd ["self","row"] (spI c)/\mg x=ae (.ref c)/\Binds K fd ["self","row"] [.none]
section
variable{X:Cx}{E:XK}{c:Addr}{e a b t:Expr}{es:7e0}{x:Str}{p pos pos':Pos}{r r':7e1}{st:Stmt}{lC xY rest:List Stmt}
theorem bS{k:Nat}{ps:2e2}{R:List SV->Cs->Prop}{fs:2e8}(G:aO X.prog X.w X.K X.mg X.base (jA X.prog X.w) k f fd ps (dC X.K c R))(hp:Passes (jA X.prog X.w) X E)(hr:dy k X.A)(hg:Gl X x)(hm:X.mg x=ae (.ref f))(hk:YD X.K (.ref f)=ag)(hb:L2.Binds X.K fd ps [])
  (ha:13e5) (md:4e1:=by decide) (he:1e3:=by rfl) (gk:3e4:=by rfl):
  zI X E c 11e6 (bZ fs R):=by
 rw[uh]at ha;rw[EL];show Ts G hp hr hg hm hk hb ha md he gk
theorem dQ(h:zI X E c e r)(hs:Xv e af pos.line X.env=pure ah:=by rfl):Ep X E c (.Expr e pos) r:=by
 rw[EL]at h;rw[Ow];show Tq h hs
theorem sv(hN:X.N.Nodup)(hi:11e7)(hx:Loc X.env.scope x)(h:zI X E c e r)(hs:13e6:=by rfl)
  (hf:6e2:=by first|show .inl rfl|show .inr rfl|assumption):Ep X E c (.Assign [.Name x pos'] e pos) r:=by
 rw[EL]at h;rw[Ow];show Vb3 hN hi hx h hs hf
theorem FX(h:zI X E c e r):Ep X E c (.Return (ae e) pos) r:=by
 rw[EL]at h;rw[Ow];show Vb4 h
theorem PD(ht:i4 X t ft)(ha:Er X E c lC r):Ep X E c (.If t lC xY pos) (Lu ft ag r):=by
 rw[mI]at ht;rw[ZdM]at ha;rw[Ow];show Vem ht ha
theorem Mj(ht:i4 X t ft)(hb:Er X E c xY r):Ep X E c (.If t lC xY pos) (Lu ft ah r):=by
 rw[mI]at ht;rw[ZdM]at hb;rw[Ow];show Tr ht hb
theorem Th(ht:i4 X t ft)(ha:zI X E c a r):zI X E c (.IfExp t a b pos) (Lu ft ag r):=by
 rw[mI]at ht;rw[EL]at ha⊢;show Vb5 ht ha
theorem Tf(h:Ep X E c st r)(k:Ep X E c st r'):Ep X E c st (i6 r r'):=by
 rw[Ow]at h k⊢;show λpins s σ H D I #[ι,ρ,C,sr,q,wi]=>q.elim (λq=>h pins s σ H D I #[ι,ρ,C,sr,q,wi]) λq=>k pins s σ H D I #[ι,ρ,C,sr,q,wi]
theorem gM(h:Er X E c lC r)(k:Er X E c lC r'):Er X E c lC (i6 r r'):=by
 rw[ZdM]at h k⊢;show i8.or' h k
theorem cg(h:Ep X E c st r):Er X E c (st::rest) r:=by
 rw[Ow]at h;rw[ZdM];show Tp h
theorem cM{f:8e9}(h:pO X st f)(h2:Er X E c rest r):Er X E c (st::rest) (cz f r):=by
 rw[uf]at h;rw[ZdM]at h2⊢;show To h h2
theorem yj{x1}(h:KU X E c es r):zI X E c (.Tuple es x1 pos) r:=by
 rw[Zd5]at h;rw[EL];show Vb2 h
theorem TQ:∀es:List Expr,∃t,PA X es t:=λes=>#[λ_ _ _=>False,λ_ _ _ _ _ _ _ h=>h.elim]
theorem iu(h:zI X E c e r)(hs:1e3:=by rfl):KU X E c 4e8 r:=by
 rw[EL]at h;rw[Zd5];show Mq h (TQ es) hs
theorem fO{f:3e6}(h:cf X e f)(hr:KU X E c es r)(hs:1e3:=by rfl):KU X E c 4e8 (hV f r):=by
 rw[oF]at h;rw[Zd5]at hr⊢;show Mp h hr hs
end
section
variable{P:Yy}{w:World}{K:W.Frag}{mg:5e1}{base:Heap}{c:Addr}
theorem FY{N:2e2}{cd:Value}{A:Around}{outer:List Env}{s:Shared}{E:XK}{k:Nat}{np:Pos}(G:VdG P w K mg base k x c)(hr:dy (k+1) (gJ (jA P w) P w K mg base N qual scope f cd A outer s H E).A)(hh:(gJ (jA P w) P w K mg base N qual scope f cd A outer s H E).A.handled=af)
  (hg:Gl 8e2 x) (md:4e1:=by decide):
  Ep 8e2 E c (.Raise (ae (.Call (.Name x np) [] [] cc)) af pos) Vb6:=by
 rw[Ow];let#[Ab,fI,fd,hx,F,m,bd]:=G;show Ms hx F hr hh hg m bd rfl md
end
section
variable{X:Cx}{E:XK}{c:Addr}{tg elt iter:Expr}{ifs:7e0}{scope:Scope}{vs fs:2e2}{fr:List Nat}{x:Str}{it:12e2}{g:5e8}{tt:7e3}{te:3e6}{re:7e1}{pos px kq:Pos}
theorem VaO{Q:VK}(sr:SR K ι H ρ σ C)(h:Aj it vs fr g tt te re ρ C)(wi:oA K E c ι H C):
  z8 (tMI K it) vs fr (Sz K g) (Mb K tt) (λσ H Q=>tM K te σ H Q\/tR K E c re σ H Q) σ H Q:=by
 let#[xs,e1,hz,hc]:=h;show#[ι,ρ,C,xs,C,sr,e1,λJ H1 f1 c1 Lw=>?_];have CO:=(sr.step f1 c1).block vs fr;show⟨λi m σ2 ys H2=>∃ρ2 ps,m=xs.length-i/\Pu.Fr ι H1 H2/\SR K ι H2 ρ2 σ2 C/\aG K ι H2 ps ys/\ps.length<=i/\qR g tt te re (xs.drop i) ρ2 C,#[xs.length,_,[],rfl,.refl,CO,.nil,Yo _,hc],?_⟩;rintro i m σ2 ys H2 ⟨ρ2,ps,rfl,f2,jF,Te,EA,e2⟩;have gG:i<xs.length:=by
  rcases Y2 i xs.length with q|q
  .show q
  .rw[List.drop_eq_nil_of_le q]at e2;show e2.elim
 have hys:ys.length<=sizeLine:=by rw[←Te.length];show sY (YC EA (YC (VY gG) hz))
 have x0:∀{H3:Hp},Pu.Fr ι H1 H3->Pu.Ex ι [] H1 H3:=λf=>Pu.Ex.fr f;have c0:∀{H3:Hp}{C2:Cs},Pu.CR K ι H3 C2->Pu.CR K (ι++[]) H3 C2:=λc=>by rw[Yv];show c
 show .inr ⟨Lw.go [] H2 C (x0 f2) (c0 jF.cr) i gG,hys,λσ' CD H'=>∃ρ2 ps,Pu.Fr ι H1 H'/\SR K ι H' ρ2 σ' C/\aG K ι H' ps CD/\ps.length<=i+1/\qR g tt te re (xs.drop (i+1)) ρ2 C,?_,?_⟩
 .rintro σ' CD H' ⟨ρ3,ps3,f3,Lq,rs3,h3,e3⟩
  show#[xs.length-(i+1),by lia,ρ3,ps3,rfl,f3,Lq,rs3,h3,e3]
 intro v H3 y;let#[sm,qv,hq,rq]:=Lw.Lo [] H2 C (x0 f2) (c0 jF.cr) i v H3 gG y;rw[Yv]at rq;have hd:xs.drop i=qv::xs.drop (i+1):=by
  rw[Wd gG];rw[Yd gG]at hq;rw[Yz hq]
 rw[hd]at e2;let#[ρ3,Bn,e2]:=e2;have uA:Pu.Fr ι H2 H3:=λb o _ z=>sm b o z;have zm:Pu.CR K ι H3 C:=jF.cr.same sm;rcases e2 with⟨e3,e4⟩|⟨e3,e4⟩
 .show#[ι,ρ2,C,qv,ρ3,jF.step uA zm,rq,Bn,λσ4 xN=>#[ι,ρ3,C,ag,C,xN,e3,λH5 f5 c5=>?_]]
  have f15:=f2.trans (uA.trans f5);dsimp only;rw[aE rfl];rcases e4 with e4|⟨p,e6,e7⟩
  .show .inr #[ι,ρ3,C,xN.step f5 c5,e4,wi.mono (f1.trans f15)]
  .show .inl #[ι,ρ3,C,.v p,C,xN.step f5 c5,e6,λv7 H7 f7 c7 r7=>?_]
   show#[ρ3,ps++[p],f15.trans f7,(xN.step f5 c5).step f7 c7,(aG.mono c5 f7 _ _ (aG.mono zm f5 _ _ (aG.mono jF.cr uA _ _ Te))).append (.cons r7 .nil),by simp;show EA,e7]
 .show#[ι,ρ2,C,qv,ρ3,jF.step uA zm,rq,Bn,λσ4 xN=>#[ι,ρ3,C,ah,C,xN,e3,λH5 f5 c5=>?_]]
  dsimp only;rw[aI Yt];show#[ρ3,ps,f2.trans (uA.trans f5),xN.step f5 c5,aG.mono zm f5 _ _ (aG.mono jF.cr uA _ _ Te),Nat.le_succ_of_le EA,e4]
theorem FZ(S:14e3)(hc:12e0)(hi:ES X tg iter it)
  (bG:∀C s₀ H₀ ex pn,Es 5e7 tg g) (bT:∀C s₀ H₀ ex pn,zH 5e7 ifs tt) (bE:∀C s₀ H₀ ex pn,cf (rS X (vs++fs) scope E C s₀ H₀ ex pn) elt te) (bR:∀C s₀ H₀ ex pn,zI (rS X (vs++fs) scope E C s₀ H₀ ex pn) E c elt re)
  (hex:X.ex=[]) (jk:X.stack=X.env::X.outer) (ux:15e7) (xp:∀{pins σ H s},Inv X pins σ H s->XP X E)
  (hs:15e4:=by intro _;rfl):
  zI X E c 8e4 (Aj it vs fr g tt te re):=by
 erw[zJ,ug,B3,oF,EL]at hi bG bT bE bR
 rw[EL];show λpins s σ H Q I #[ι,ρ,C,sr,h,wi]=>vp (g:=Sz X.K g) (tt:=Mb X.K tt) (te:=λσ H Q=>tM X.K te σ H Q\/tR X.K E c re σ H Q) S hc hi bG bT (λC s₀ H₀ ex pn pins s σ H Q I h=>h.elim (bE C s₀ H₀ ex pn pins s σ H Q I) (bR C s₀ H₀ ex pn pins s σ H Q I)) (JU hex jk ux xp) hs pins s σ H Q I (VaO sr h wi)
end
section
variable{P:Yy}{w:World}{K:W.Frag}{mg:5e1}{base:Heap}{c:Addr}
theorem jc{N ps:2e2}{k:Nat}{r:7e1}(F:eD K x qual st f fd)(S:aP N ps 12e5)
  (fB:∀(cdv:Value)(A:Around)(outer:List Env)(s:Shared)(H:Hp)(E:XK),dy k 10e1->
   Er (gJ (jA P w) P w K mg base N qual (aK st) f cdv A outer s H E) E c (cO st) r):
  aO P w K mg base (jA P w) (k+1) f fd ps (dC K c (iS ps.length (N.length-ps.length) r)):=by
 rw[ZdM]at fB;show Vak F S fB
end
end Ex
namespace Ex
open PySem PySem.Spec PySem.W L2
open PyProof.Rows hiding St Fr
open Sem (wp)
def Ry(h:Heap)(C N:Addr)(bm:4e4):Prop:=∃nm q bs HL sn sub ab col dd k0 k1 k2 k3 k5 i,h.get? C=ae (VN nm q C N bs bm HL sn sub ab col dd k0 k1 k2 k3 k5 i)
noncomputable def mW:List Str:=["__getattribute__","__getattr__","__class__"]
def XQ(h:Heap)(C Ab:Addr):Prop:=∃N NA mN mA,Ry h C N (.ref Ab::jb)/\Ry h Ab NA jb/\h.Ns N mN/\h.Ns NA mA/\∀n∈mW,mN n=af/\mA n=af
theorem vV:WU (.type "ValueError") "__class__"=pure (ae (.builtin "object.__class__")):=by rw[typeLookup_type,builtinLookup_eq_fast];kernel_rfl
theorem q3c:("__class__":Str)∈mW:=.tail _ (.tail _ (.head _))
theorem q3a:("__getattribute__":Str)∈mW:=.head _
theorem q3b:("__getattr__":Str)∈mW:=.tail _ (.head _)
section
variable{prog:Yy}{w:World}{M:Model}{A:Around}{E:2e9}{h:Heap}{g:Array GenState}{d:Drawn}{t:Nat}{os:OsState}{e C Ab N NA:Addr}{o:Obj}{vs:Array Value}{mN mA:5e1}
theorem rT{n:Str}{y:Option Value}{Q:13e0}(x:XQ h C Ab)(hn:n∈mW)(hB:WU (.type "ValueError") n=pure y)(hq:Q y 4e9):wpAny M A (WU (.ref C) n) Q E 4e9:=by
 obtain⟨N,NA,mN,mA,⟨nm,q,bs,hd,sn,sub,ab,col,dd,k0,k1,k2,k3,k5,i,hC⟩,⟨nm',q',bs',ED,sn',VbT,ab',Vdb,dd',j0,j1,j2,j3,j5,i',hA⟩,hN,hNA,qt⟩:=x;show sQ hC hN (mA:=mA) (cd:={name:=nm',bases:=bs',mro:=.ref Ab::jb,ns:=NA,qualname:=q',hasDict:=ED,slotNames:=sn',subclasses:=VbT,abstract:=ab',collection:=Vdb,hasDel:=false}) hA hNA (qt n hn).1 (qt n hn).2 hB hq
theorem EV{T:String}{Q:10e6}(x:XQ h C Ab)(ht:jb.contains (.type T)=ag)(hq:Q ag 4e9):wpAny M A (Uw (.ref C) (.type T)) Q E 4e9:=by
 obtain⟨N,NA,mN,mA,⟨nm,q,bs,hd,sn,sub,ab,col,dd,k0,k1,k2,k3,k5,i,hC⟩,_⟩:=x;show mO hC ht hq
theorem Ol{R:Result->Shared->Prop}(x:XQ h C Ab)(hx:h.get? e=ae o)(hc:o.cls=.ref C)(hq:R (.ok (.ret (.ref C))) 4e9):
    VQ 5e0 A (.call (.builtin "getset_descriptor.__get__") #[[.builtin "object.__class__",.ref e,.ref C],[]]) R 4e9:=by
  have own:=F.owner_object_class;let#[oc,od,odt,osl]:=o;obtain rfl:oc=.ref C:=hc;show VE F.slot_gs_get.plain F.entry_gs_get (F.slot_gs_get.check _ _ _ _ _ _ _ _ F.typeOf_object_class (F.args_gs_get _ _ _) ?_);repeat any_goals first
    |assumption
    |with_reducible show YU hx ?_
    |(rw[own];with_reducible show EV x rfl ?_)
    |wp_step
  have Fd:(Code.builtin "object.__class__" #[[.ref e],[]]).quiet=ag:=Vg _ 9e0;show#[Fd,Ux F.entry_object_class ?_];repeat any_goals first
    |assumption
    |with_reducible show YU hx ?_
    |wp_step
theorem Oj{tk:Tok}{R:Result->Shared->Prop}(x:XQ h C Ab)(hx:h.get? e=ae o)(hc:o.cls=.ref C)(hq:R (.ok (.ret (.ref C))) 4e9):
    VQ 5e0 A (.call (.builtin "BaseException.__getattribute__") #[[.ref e,.str "__class__" tk],[]]) R 4e9:=by
  have arg:=F.args_bexc_ga (.ref e) (.str "__class__" tk);have a1:=F.typeOf_object_class;have a2:=F.slot_gs_get.lookup;have a3:=F.slot_gs_set.lookup;let#[oc,od,odt,osl]:=o;obtain rfl:oc=.ref C:=hc;show VE Ua.ga.plain F.entry_bexc_ga ?_;have kd:(builtinKind "BaseException.__getattribute__",splitId "BaseException.__getattribute__")=(ae .slot,ae ("BaseException","__getattribute__")):=by decide +kernel
  delta Uk
  erw[(VO kd).1,(VO kd).2]
  delta isInstance
  repeat any_goals first
    |assumption
    |with_reducible show EV x rfl ?_
    |(with_reducible show YU hx ?_;dsimp only)
    |with_reducible show rT x q3c vV ?_
    |wp_step
  show Ol x hx rfl ?_;repeat any_goals first
    |assumption
    |wp_step
theorem JV{Q:13e0}(x:XQ h C Ab)(hx:h.get? e=ae o)(hc:o.cls=.ref C)(hq:Q (ae (.ref C)) #[h,g,d,t+1,os]):wpAny 5e0 A (getAttr? (.ref e) "__class__") Q E 4e9:=by
  have bd:=Ua.ga.bind (.ref e);have ne:(Value.builtin "BaseException.__getattribute__"==.builtin "object.__getattribute__")=ah:=by decide +kernel
  have ne2:(onTheHeap (.ref C)&&Value.builtin "BaseException.__getattribute__"==.builtin "object.__getattribute__")=ah:=by rw[ne,V3]
  let#[oc,od,odt,osl]:=o;obtain rfl:oc=.ref C:=hc
  delta getAttr? getAttrBy?
  repeat any_goals first
    |assumption
    |(with_reducible show YU hx ?_;dsimp only)
    |with_reducible show rT x q3a Ua.ga.lookup ?_
    |with_reducible show rT x q3b F.attrBase_ValueError.noGetattr ?_
    |wp_step
  show Oj x hx rfl ?_;repeat any_goals first
    |assumption
    |wp_step
theorem Jv{Q:10e6}(x:XQ h C Ab)(hx:h.get? e=ae o)(hc:o.cls=.ref C)(hq:Q ag 4e9):wpAny M A (excMatches (.ref e) (.ref Ab)) Q E 4e9:=by
 obtain⟨N,NA,mN,mA,⟨nm,q,bs,hd,sn,sub,ab,col,dd,k0,k1,k2,k3,k5,i,hC⟩,⟨nm',q',bs',ED,sn',VbT,ab',Vdb,dd',j0,j1,j2,j3,j5,i',hA⟩,_⟩:=x;have no:=tc_notTuple;have up:∀{Q:10e6},Q ag 4e9->wpAny M A (Uw (.ref C) (.ref Ab)) Q E 4e9:=λz=>W5 hC (by simpa using z);have ex:∀{Q:10e6},Q ag 4e9->wpAny M A (Uw (.ref Ab) (.type "BaseException")) Q E 4e9:=λz=>W5 hA z;let#[oc,od,odt,osl]:=o;obtain rfl:oc=.ref C:=hc
 delta excMatches
 repeat first
  |show hq
  |with_reducible show up ?_
  |with_reducible show ex ?_
  |with_reducible show YU hA ?_
  |with_reducible show YU hx ?_
  |wp_step
end
def Vfg(C e:Addr)(h:Heap):Prop:=∃o,h.get? e=ae o/\o.cls=.ref C
theorem nI{e C Ab:Addr}(hx:∀h:Heap,K.In h->XQ h C Ab):KitX K (.ref e) (.ref C) (Vfg C e) where
 ty:=λM h _ #[o,h1,h2]=>h2▸(Looks.ld h1).andThen .now
 it:=λM h X _=>by
  obtain⟨N,NA,mN,mA,⟨nm,q,bs,hd,sn,sub,ab,col,dd,k0,k1,k2,k3,k5,i,hC⟩,_⟩:=hx h X;intro A' Q' E' s' k q;unfold isType loadHead;show Yb (wpAny_loadPart (k _ _ hC) (Yh q))
 ne:=λh tp dd ba n sl X htp=>by
  obtain⟨N,NA,mN,mA,⟨nm,q,bs,hd,sn,sub,ab,col,dd,k0,k1,k2,k3,k5,i,hC⟩,_⟩:=hx h X;show V9.mpr λq=>?_;have e:C=tp:=Value.ref.inj (beq_iff_eq.mp q);subst e;have z:=congrArg Obj.data (Yz (hC.symm.trans htp));cases z
 ca:=λ{_ _ _ _ _ s} X #[o,h1,h2] k=>by let#[h,g,d,t,os]:=s;show JV (hx h X) h1 h2 k
end Ex
namespace Ex
open PySem PySem.Spec PySem.W L2 Pu
open PyProof.Rows hiding St Fr
noncomputable abbrev inX (X:Cx)(e:Addr):Cx:={X with A:=X.A.mark (ae (.ref e)),calm:=false}
section
variable{X:Cx}{pins:3e2}{σ:St}{H:Hp}{s s':Shared}{n y cl:Str}{jn jy:Nat}{c Ab:Addr}
theorem Z5{e:Addr}(I:2e3):Inv (inX X e) pins σ H s:=
 #[#[I.ok.mod,I.ok.kind,I.ok.glob,I.ok.blt,I.ok.above,I.ok.inj,I.ok.has,I.ok.cab,λz=>(nomatch z),I.ok.frames,I.ok.stk,I.ok.exf,I.ok.bs,I.ok.J',I.ok.sR,I.ok.D0,I.ok.k9,I.ok.QE],I.os,I.bare,I.base,I.loc,I.cell,I.free,I.iB,I.pin,I.cR,I.len]
theorem Dw{M:Model}{A:Around}{Q:14e2}(I:2e3)(hN:X.N.Nodup)(hj:X.N[jn]? = ae n)(hl:X.env.scope.names.lookup n=ae .local)
  (h:∀s',Inv X pins (σ.set jn af) H s'->Q () s'):wpAny M A (do bindName X.env n .none;unbindBehindTheSuite X.env n pos) Q E s:=by
 let#[m,hn,hlk]:=id I.loc;let#[oL,_,_,hoL,_]:=id hn;show wpAny_nameGoes_keeps hl hn (by rw[I.ok.kind];rfl) λh' v hn' hs=>h _ ?_;have nL:∀b o,X.s₀.heap.get? b=ae o->b≠X.env.locals:=λb o e=>YK (Yr (Ys e) I.ok.above);have u:=I.base;show#[I.ok,I.os,I.bare,#[λb o e n hb hx=>(hs.2 b (nL b o e)).trans (u.keep b o e n hb hx),λb o e n hb hx=>?_,u.free,λb o e hx=>?_,u.gp,u.gi,u.hJ],#[_,hn',λi x v' e1 e2 e3=>?_],λy c e=>?_,I.free,I.iB,λp hp=>?_,λb ob e=>?_,by rw[WL];show I.len]
 .let#[sl,e1]:=u.slot b o e n hb hx
  show#[sl,(hs.2 b (nL b o e)).trans e1]
 .let#[o',e1]:=u.there b o e hx
  show#[o',(hs.2 b (nL b o e)).trans e1]
 .have hij:jn≠i:=λz=>by
   subst z;by_cases hi:jn<σ.length
   .rw[Y7 hi]at e2;cases e2
   .rw[YA.mpr (by rw[WL];lia)]at e2;cases e2
  rw[Y3 hij]at e2;let#[u',r',q]:=hlk i x v' e1 e2 e3;show#[u',r',?_];rcases q with⟨k,e⟩|⟨k,c,e,z⟩
  .show .inl #[k,?_]
   have:x≠n:=λe=>hij (nk hN hj (e▸e1));simp[this,e]
  .show .inr #[k,c,e,z.sameBut hs (I.Oi x c e)]
 .let#[w',z]:=I.cell y c e
  show#[w',z.sameBut hs (I.Oi y c e)]
 .let#[e,n,ne,nf,d]:=I.pin p hp
  show#[(hs.2 p.1 ne).trans e,n,ne,nf,d]
 .show(I.cR b ob e).fE (λc w' hc q=>(hs.2 c ?_).trans q) (λ_ q=>q) λ_ _ q=>q
  rintro rfl;have:=I.free;rcases hc with rfl|hc
  .rw[e]at this;cases this
  .rw[hc]at this;cases this
theorem zf{M:Model}{A:Around}{v:V}(I:2e3)(hj:X.N[jn]? = ae n)(hl:X.env.scope.names.lookup n=ae .local)(hv:σ[jn]? = ae (ae v))(h:∀u,RelV v u->Q u s)
  (hd:(n==("__debug__":Str))=ah:=by decide):wpAny M A (eval (.Name n pos) X.env) Q E s:=by
 let#[m,hn,hlk]:=I.loc;let#[u,r,l]:=hlk jn n v hj hv (.inl hl);rcases l with⟨hk,hm⟩|⟨hk,_⟩
 .show wpAny_Name (wpAny_loadName_local I.ok.kind hk hn hm (h u r)) hd
 .have hl':X.env.kindOf n=ae .local:=hl
  rw[hl']at hk;rcases hk with hk|hk<;>cases hk
theorem VaS{W:Addr->Hp->Prop}{ev:Value}{Q:Flow->Shared->Prop}{Xe:2e9}{p5 p6 p7 p8 p9:Pos}(I:2e3)(jk:X.stack=X.env::X.outer)(ux:15e7)(hN:X.N.Nodup)(hjn:X.N[jn]? = ae n)(Nx:X.env.scope.names.lookup n=ae .local)
  (hjy:X.N[jy]? = ae y) (hly:X.env.scope.names.lookup y=ae .local) (hg:Gl X cl) (HJ:X.mg cl=ae (.ref Ab)) (Ly:∀h:Heap,X.K.In h->XQ h c Ab)
  (hx:jA X.prog X.w X.stack H s (λcv ea H'=>∃e,cv=.ref c/\ea=ae e/\W e H') ev s')
  (k:∀e H' s2,W e H'->Inv X pins (((σ.set jn (ae (.ref e))).set jy (ae (.ref e))).set jn af) H' s2->Q .next s2)
  (hs:Xv (.Name n p7) (ae (.Name y p6)) p8.line X.env=pure ah:=by rfl) (hd:(n==("__debug__":Str))=ah:=by decide) (hdc:(cl==("__debug__":Str))=ah:=by decide):
  wpAny 3e0 X.A (UJ ev X.env) (λ_ s₂=>wpAny 3e0 X.A (UK ev af) (λ_ s₃=>wpAny 3e0 X.A (handleBy ev X.env [.ExceptHandler (ae (.Name cl p5)) (ae n) [.Assign [.Name y p6] (.Name n p7) p8] p9]) Q Xe s₃) Xe s₂) Xe s':=by
 let#[e,C1,B,H',rfl,uw,hb,F,e',h1,h2,hW]:=hx;cases h1;cases h2;show Zc3 (env:=X.env) (outer:=X.outer) (L:=X.env.locals) (by rw[I.ok.frames,jk]) ux ux (by rw[←jk];show F.held) λg1 d1 u1=>?_;have F1:=F.turn (by rw[jk];show d1) u1;show ZbF d1 λg2 d2 u2=>?_;have F2:=F1.turn (by rw[jk];show d2) u2;have I2:Inv X pins σ H' {s' with heap:=g2}:=I.JZ (ch:=[]) uw F2.un F2.ok hb (λb z=>absurd z (by simp));let#[o,ws,ho,Qv,hod]:=(show cw X.prog X.w H' g2 e (D7 c e)from I2.cR e _ F2.at').1;show wpAny_handleBy_cons (codeAny_handlers_test (mE (X:=inX X e) (Z5 I2) hg HJ ?_ hdc)) (by intro q;cases q);show Jv (Ly _ I2.jY) ho Qv (codeAny_handlers_suite_as ?_);show ZbF d2 λg3 d3 u3=>?_;have F3:=F2.turn (by rw[jk];show d3) u3;have I3:Inv X pins σ H' {s' with heap:=g3}:=I.JZ (ch:=[]) uw F3.un F3.ok hb (λb z=>absurd z (by simp));show ZcW I3 hN hjn (.inl Nx) (v:=.ref e) rfl (λs4 I4=>?_) (.inr Nx);have hlen:jn<σ.length:=by rw[I.len];show(YJ.mp hjn).1
 show W1 (V6 (zf I4 hjn Nx (v:=.ref e) (Y7 hlen) (λu r=>?_) hd) hs);obtain rfl:u=YI e:=r;show ZcW I4 hN hjy (.inl hly) (v:=.ref e) rfl (λs5 I5=>?_) (.inr hly);show WJ ?_;show Dw I5 hN hjn Nx λs6 I6=>k e H' s6 hW I6
end
theorem FV{CX:zP}{k:Nat}{ps:2e2}{sp:Sp}{E:XK}{s:Shared}{Q:VK}{us:4e4}{Xe:2e9}(F:aO X.prog X.w X.K X.mg X.base CX k f fd ps sp)(hr:dy k X.A)(hb:Binds X.K fd ps [])
  (I:2e3) (r:Vals vs us) (h:sp vs H Q E) (hx:∀e s',CX X.stack H s E e s'->Xe e s'):wpAny 3e0 X.A (call (.ref f) us) 18e0 Xe s:=by
 have hl:(us++[]).length=ps.length:=by rw[Yv,←r.length];show F.len _ _ _ _ h
 have uy:=hb s us I.jY hl;rw[Yv]at uy;show wpAny_call (V0 (F.run X.A X.stack s H #[us,[]] us vs Q E hr I.Vap uy r h) λr s' hq=>?_);cases r with
 |error e=>show hx e s' hq
 |ok fl=>
  cases fl with
  |ret u=>show I.after hq
  |next=>show Xu hq
  |brk=>show Xu hq
  |cont=>show Xu hq
section
variable{X:Cx}{n y cl x g:Str}{jn jy i:Nat}{c Ab:Addr}{a:Expr}{as:7e0}{fs:2e8}{p1 p2 p3 p4 p5 p6 p7 p8 p9 p10:Pos}{k:Nat}{T:List (Addr×(List SV->Cs->Prop))}
theorem MC(cR:∀f R,T.lookup f=ae R->∃fd ps,aO X.prog X.w X.K X.mg X.base (jA X.prog X.w) k f fd ps (dC X.K c R)/\YD X.K (.ref f)=ag/\L2.Binds X.K fd ps [])(hr:dy k X.A)(ha:∀Xe,zM (X.gc Xe) (a::as) fs)(hi:X.N[i]? = ae g)
  (jk:X.stack=X.env::X.outer) (ux:15e7) (hN:X.N.Nodup) (hjn:X.N[jn]? = ae n) (Nx:X.env.scope.names.lookup n=ae .local)
  (hjy:X.N[jy]? = ae y) (hly:X.env.scope.names.lookup y=ae .local) (hg:Gl X cl) (HJ:X.mg cl=ae (.ref Ab)) (Ly:∀h:Heap,X.K.In h->XQ h c Ab)
  (hv:Eo X.env.scope g:=by first|show Or.inl rfl|show Or.inr 1e7|show Or.inr (Or.inr rfl)) (Z':∀env:Env,Xv (.Call (.Name g p2) (a::as) [] p3) (ae (.Name x p1)) p4.line env=pure ah:=by intro _;rfl) (hs:∀env:Env,Xv (.Name n p7) (ae (.Name y p6)) p8.line env=pure ah:=by intro _;rfl)
  (hd:(n==("__debug__":Str))=ah:=by decide) (hdc:(cl==("__debug__":Str))=ah:=by decide) (hdg:(g==("__debug__":Str))=ah:=by decide) (me:(g==("__classdict__":Str))=ah:=by decide)
  (he:Yg (a::as) X.env=(ah,eval a X.env)::Yg as X.env:=by rfl) (gk:(backTo p3 (Yg as X.env)).any (·.1)=ah:=by rfl):
  PS X (.Try [.Assign [.Name x p1] (.Call (.Name g p2) (a::as) [] p3) p4] [.ExceptHandler (ae (.Name cl p5)) (ae n) [.Assign [.Name y p6] (.Name n p7) p8] p9] [] [] p10)
   (λD σ H=>∃ι ρ C f xs R,SR X.K ι H ρ σ C/\ρ[i]? = ae (ae (.v (.fn f)))/\T.lookup f=ae R/\fs ρ C=ae (xs,C)/\R xs C/\
    ∀e H',Pu.Fr ι H H'->Pu.CR X.K ι H' C->H' e=ae (D7 c e)->D.nx (((σ.set jn (ae (.ref e))).set jy (ae (.ref e))).set jn af) H'):=by
 intro pins s σ H D I h_;let#[ι,ρ,C,f,xs,R,sr,e1,hT,e2,hR,q]:=h_;let#[fd,ps,G,hk,hb]:=cR f R hT;let#[v,hv1,rv]:=sr.loc i _ e1;have hvf:v=.ref f:=by unfold cH Rep at rv;show rv
 subst hvf;show wpAny_Try_except ?_;generalize hXe:(λ(e:Value) (s₁:Shared)=>wpAny 3e0 X.A (UJ e X.env) (λ_ s₂=>wpAny 3e0 X.A (UK e af) (λ_ s₃=>wpAny 3e0 X.A (handleBy e X.env [.ExceptHandler (ae (.Name cl p5)) (ae n) [.Assign [.Name y p6] (.Name n p7) p8] p9]) (SP X pins D) X.xe s₃) X.xe s₂) X.xe s₁)=Xe;have hA:=ha Xe;rw[uh]at hA;show W1 (V6 ?_ (Z' _));show WE ?_;have ev:=sJ (X:=X.gc Xe) (pos:=p2) hi hv hdg me pins s σ H (λv H1=>v=.ref f/\H1=H) (I.gc Xe) #[.ref f,hv1,rfl,rfl];show dz ev λu s1 h_=>?_;let#[v,H1,I1,r1,hv,hH]:=h_;subst hv hH;cases r1;show W.callWith_K (h₀:=X.base) I.ok.mod.Nb hk (dz (hA p3 pins s1 σ H1 (λvs H2=>Pu.Fr ι H1 H2/\Pu.CR X.K ι H2 C/\dc X.K ι H2 xs vs) I1 #[ι,ρ,C,xs,C,sr,e2,λvs H2 f2 c2 r2=>#[f2,c2,r2]]) λus s2 #[vs,H2,I2,r2,f2,c2,rs]=>#[I2.jY,?_]) he gk;have I2':=I2.dM;show dz (FV (Q:=λ_ _=>False) (E:=λcv ea H'=>∃e,cv=.ref c/\ea=ae e/\(Pu.Fr ι H2 H'/\Pu.CR X.K ι H' C/\H' e=ae (D7 c e))) G hr hb I2' r2 #[ι,xs,C,c2,rs,hR,λe H' f3 c3 h3=>#[e,rfl,rfl,f3,c3,h3]] λev s' hx=>?_) λu s3 #[_,_,_,_,z]=>z.elim;rw[←hXe];show VaS (Q:=SP X pins D) I2' jk ux hN hjn Nx hjy hly hg HJ Ly hx (λe H' s3 #[f3,c3,h3] I3=>#[_,H',I3,q e H' (f2.trans f3) c3 h3]) (hs _) hd hdc
theorem Me{f:3e6}{EC:ExceptHandler}(h:∀Xe,cf (X.gc Xe) e f)(hN:X.N.Nodup)(hj:11e7)(hl:X.env.scope.names.lookup x=ae .local)(Z':∀env:Env,Xv e (ae (.Name x p1)) p4.line env=pure ah:=by intro _;rfl):
  pO X (.Try [.Assign [.Name x p1] e p4] [EC] [] [] p10) (bg i f):=by
 rw[uf];intro pins s σ H D I hq;have hq':=hq;show wpAny_Try_except ?_;generalize hXe:(λ(e:Value) (s₁:Shared)=>wpAny 3e0 X.A (UJ e X.env) (λ_ s₂=>wpAny 3e0 X.A (UK e af) (λ_ s₃=>wpAny 3e0 X.A (handleBy e X.env [EC]) (SP X pins D) X.xe s₃) X.xe s₂) X.xe s₁)=Xe;have hA:=h Xe;rw[oF]at hA;have st:SM (X.gc Xe) (.Assign [.Name x p1] e p4) (bg i f):=Fp hN hj (.inl hl) hA (Z' _) (.inr hl);show W1 (dz (st pins s σ H D (I.gc Xe) hq) λfl s1 q=>?_);cases fl with
 |next=>show WJ (WJ (SP.dM q))
 |ret u=>show SP.dM q
 |brk=>show SP.dM q
 |cont=>show SP.dM q
end
section
variable{X:Cx}{c Ab:Addr}
theorem ZbM:∀{ds:6e8}{us:4e4},Vals (ds.map V.ref) us->us=ds.map YI
 |[],_,h=>by cases h;rfl
 |a::ds,_,h=>by
  cases h with
  |cons r t=>
   rw[ZbM t];obtain rfl:_=YI a:=r;rfl
def VeA(K:W.Frag)(c:Addr):List V->Hp->VK->Prop:=λxs H Q=>∃e cv b,xs=[.ref e,cv]/\H e=ae (D7 c e)/\
 ((∃D,cv=.ref D/\kitOne K (.ref c) (.ref D)=ae b)\/(∃n,cv=.ty n/\kitOne K (.ref c) (.type n)=ae b)\/∃(tp:Addr)(ds:6e8),cv=.ref tp/\H tp=ae (.tup (ds.map V.ref))/\kitAny K (.ref c) (ds.map YI)=ae b)/\Q (.bl b) H
theorem Eh(Ly:∀h:Heap,X.K.In h->XQ h c Ab):gB X (.builtin "isinstance") (VeA X.K c):=by
 rintro pins s σ H xs us Q I r ⟨e,cv,b,rfl,he,hc,q⟩;let#[u,v,rfl,ru,rv]:=Vals.two r;cases(show u=YI e from ru);have fin:∀tk,EP X pins σ Q (.bool b) {s with toks:=tk}:=λtk=>#[.bl b,H,I.tok tk,rfl,q]
 let#[o,ws,ho,Qv,hod]:=(show cw X.prog X.w H s.heap e (D7 c e)from I.cR e _ he).1;rcases hc with⟨D,rfl,hk⟩|⟨n,rfl,hk⟩|⟨tp,ds,rfl,ht,hk⟩
 .cases(show v=YI D from rv)
  show kia_one (nI Ly) I.jY #[o,ho,Qv] hk (λz=>nomatch z) fin
 .cases(show v=Value.type n from rv)
  show kia_one (nI Ly) I.jY #[o,ho,Qv] hk (λz=>nomatch z) fin
 .cases(show v=YI tp from rv)
  obtain⟨ba,ri,⟨ot,h1,h2,n,h3⟩,_⟩:=I.tuple (jr.of ht);rw[ZbM ri]at h3;let#[cl,dd,dt,sl]:=ot;cases(show cl=_ from h2);cases(show dt=_ from h3);show kia_tup (nI Ly) I.jY #[o,ho,Qv] h1 hk (λz=>nomatch z) fin
end
noncomputable def orM (F G:List SV->M SV):List SV->M SV:=λss C=>match F ss C with
 |some r=>ae r
 |none=>G ss C
theorem TR{P:Yy}{k:Nat}{ps:2e2}{G:List SV->M SV}(a:aO P w K mg base cu k f fd ps (aF K F))(b:aO P w K mg base cu k f fd ps (aF K G)):aO P w K mg base cu k f fd ps (aF K (orM F G)):=by
 have key:∀vs H Q E,aF K (orM F G) vs H Q E->aF K F vs H Q E\/aF K G vs H Q E:=λvs H Q E h_=>by
  let#[ι,ss,C,r,C',cr,rs,e,q]:=h_;ext orM e;cases hF:F ss C with
  |some z=>rw[hF]at e;cases e;show .inl #[ι,ss,C,r,C',cr,rs,hF,q]
  |none=>rw[hF]at e;show .inr #[ι,ss,C,r,C',cr,rs,e,q]
 show#[λvs H Q E h=>(key vs H Q E h).elim (a.len vs H Q E) (b.len vs H Q E),λA outer s H args us vs Q E hr e0 hb r h=>(key vs H Q E h).elim (a.run A outer s H args us vs Q E hr e0 hb r) (b.run A outer s H args us vs Q E hr e0 hb r)]
open Classical in
noncomputable def qy (T:List (Addr×(List SV->Cs->Prop))):List SV->M SV:=λss C=>match ss with
 |[.v (.fn f),x]=>if ∃R,T.lookup f=ae R/\R [x] C then ae (.v (.tup [.str "none",.aS]),C)else af
 |_=>af
theorem ZdY{T:List (Addr×(List SV->Cs->Prop))}{ss:List SV}{C':Cs}{r:SV}(h:qy T ss C=ae (r,C')):∃f x R,ss=[.v (.fn f),x]/\T.lookup f=ae R/\R [x] C/\r=.v (.tup [.str "none",.aS])/\C'=C:=by
 ext qy h;split at h
 .split at h
  .rename_i hc
   let#[R,h1,h2]:=hc;cases h;show#[_,_,R,rfl,h1,h2,rfl,rfl]
  .cases h
 .cases h
noncomputable def km:List Str:=["_law_gone","_law_text_here","_law_found","_law_caught","e"]
section
variable{X:Cx}{c Ab a1 a2 a3:Addr}{k:Nat}{T:List (Addr×(List SV->Cs->Prop))}{n1 n2 n3 n4:Str}{b1 b2 b3:List Stmt}
 {q1 q2 q3 q4 q5 q6 p1 p2 p3 p4 p5 p6 p7 p8 p9 p10 r1 r2 r3 r4 r5 t1 t2 t3 t4 t5 t6 t7 t8 t9 t10 t11 t12 u1 u2 u3 u4 u5 u6 u7 u8 v1 v2 v3 v4 pt:Pos} {j1 j2 j3 j4 j5 u0 v0}
theorem xV(cR:∀f R,T.lookup f=ae R->∃fd ps,aO X.prog X.w X.K X.mg X.base (jA X.prog X.w) k f fd ps (dC X.K c R)/\YD X.K (.ref f)=ag/\L2.Binds X.K fd ps [])(hr:dy k X.A)
  (jk:X.stack=X.env::X.outer) (ux:15e7) (hNN:X.N=km) (hN:X.N.Nodup) (hl:∀x∈X.N,X.env.scope.names.lookup x=ae .local)
  (hg:Gl X "HoldError") (HJ:X.mg "HoldError"=ae (.ref Ab)) (Ly:∀h:Heap,X.K.In h->XQ h c Ab) (hgi:Gl X "isinstance") (hmi:X.mg "isinstance"=af) (hgv:Gl X "ValueError") (hmv:X.mg "ValueError"=af)
  (Bn:Gl X n1) (hm1:X.mg n1=ae (.ref c)) (hk1:kitOne X.K (.ref c) (.ref c)=ae ag) (hkv:kitOne X.K (.ref c) (.type "ValueError")=ae ag)
  (hg2:Gl X n2) (hm2:X.mg n2=ae (.ref a1)) (hg3:Gl X n3) (hm3:X.mg n3=ae (.ref a2)) (hg4:Gl X n4) (hm4:X.mg n4=ae (.ref a3)) (hka:kitAny X.K (.ref c) [.ref a1,.ref a2,.ref a3]=ae ah)
  (d1:(n1==("__debug__":Str))=ah:=by decide) (d2:(n2==("__debug__":Str))=ah:=by decide) (d3:(n3==("__debug__":Str))=ah:=by decide) (d4:(n4==("__debug__":Str))=ah:=by decide):
  i8 X [.Assign [.Name "_law_found" q1] (.Constant .none j1 q2) q3,.Assign [.Name "_law_caught" q4] (.Constant .none j2 q5) q6,
   .Try [.Assign [.Name "_law_found" p1] (.Call (.Name "_law_gone" p2) [.Name "_law_text_here" pt] [] p3) p4] [.ExceptHandler (ae (.Name "HoldError" p5)) (ae "e") [.Assign [.Name "_law_caught" p6] (.Name "e" p7) p8] p9] [] [] p10,
   .If (.Compare (.Name "_law_caught" r1) [.Is] [.Constant .none j3 r2] r3) b1 [] r4,
   .If (.BoolOp .Or [.UnaryOp .Not (.Call (.Name "isinstance" t1) [.Name "_law_caught" t2,.Name n1 t3] [] t4) t5,.UnaryOp .Not (.Call (.Name "isinstance" t6) [.Name "_law_caught" t7,.Name "ValueError" t8] [] t9) t10] t11) b2 [] t12,
   .If (.Call (.Name "isinstance" u1) [.Name "_law_caught" u2,.Tuple [.Name n2 u3,.Name n3 u4,.Name n4 u5] u0 u6] [] u7) b3 [] u8,
   .Return (ae (.Tuple [.Constant (.str "none") j4 v1,.Constant .none j5 v2] v0 v3)) v4]
   (λD σ H=>∃ι C f x R,SR X.K ι H [ae (.v (.fn f)),ae x,af,af,af] σ C/\T.lookup f=ae R/\R [x] C/\
    ∀v H',Pu.Fr ι H H'->Pu.CR X.K ι H' C->cH X.K ι H' (.v (.tup [.str "none",.aS])) v->D.rt v H'):=by
 have hi:∀(i:Nat)(x:Str),km[i]? = ae x->X.N[i]? = ae x:=λi x z=>by rw[hNN];show z
 have Qw:∀x,x∈km->X.env.scope.names.lookup x=ae .local:=λx z=>hl x (by rw[hNN];show z);have vs:∀x,x∈km->Eo X.env.scope x:=λx z=>.inl (Qw x z);have vc:∀{p:Pos},PE X (.Name "_law_caught" p) (Sx 3):=λ{p}=>sJ (hi 3 _ rfl) (vs _ 9e0);have ci:=Eh (X:=X) Ly;have hbi:Y0 "isinstance"=ae (.builtin "isinstance"):=by rfl
 have hbv:Y0 "ValueError"=ae (.type "ValueError"):=by rfl
 have am:∀Xe,zM (X.gc Xe) [.Name "_law_text_here" pt] 5e6:=λXe=>by
  rw[uh];show BY (zh (X:=X.gc Xe) 1 (hi 1 _ rfl) (vs _ 9e0)) KG
 show λpins s σ H D I h=>KJ (ZdU (i:=2) hN (hi 2 _ rfl) (.inl (Qw _ 9e0)) ni rfl (.inr (Qw _ 9e0)))
  (KJ (ZdU (i:=3) hN (hi 3 _ rfl) (.inl (Qw _ 9e0)) ni rfl (.inr (Qw _ 9e0)))
  (KJ (MC (i:=0) (jn:=4) (jy:=3) cR hr am (hi 0 _ rfl) jk ux hN (hi 4 _ rfl) (Qw _ 9e0) (hi 3 _ rfl) (Qw _ 9e0) hg HJ Ly (vs _ 9e0))
  (KJ (qk (Ak Ou vc ni 3e8) Zbt mr)
  (KJ (qk (PW.pt (P1 (yy (Zc2 (Zcq ci hgi hmi hbi (BZ vc (BZ (Zcg (v:=.ref c) Bn hm1 rfl d1) ZdV))) (by intro _;rfl))) (Gz (yy (Zc2 (Zcq ci hgi hmi hbi (BZ vc (BZ (Ao (v:=.ty "ValueError") hgv hmv hbv rfl) ZdV))) (by intro _;rfl)))))) Zbt mr)
  (KJ (qk (Zc2 (Zcq ci hgi hmi hbi (BZ vc (BZ (ng (BZ (Zcg (v:=.ref a1) hg2 hm2 rfl d2) (BZ (Zcg (v:=.ref a2) hg3 hm3 rfl d3) (BZ (Zcg (v:=.ref a3) hg4 hm4 rfl d4) ZdV)))) ZdV))) (by intro _;rfl)) Zbt mr)
  (sF (sH (ng (BZ GQ (BZ ni ZdV))))))))))
  pins s σ H D I ?_
 let#[ι,C,f,x,R,sr,hT,hR,q]:=h;let#[v0,w0,hv0]:=sr.loc 0 _ rfl;let#[v1,w1,hv1]:=sr.loc 1 _ rfl;have hlen:σ.length=5:=sr.len.symm;have rn:cH X.K ι H (.v .aS) .aS:=by unfold cH Rep;rfl
 show#[ι,_,C,f,[x],R,(sr.set 2 (s:=.v .aS) (v:=.aS) rn).set 3 (s:=.v .aS) (v:=.aS) rn,rfl,hT,rfl,hR,λe H' f1 c1 he=>?_];have h3:((((((σ.set 2 (ae V.aS)).set 3 (ae V.aS)).set 4 (ae (.ref e))).set 3 (ae (.ref e))).set 4 af))[3]? = ae (ae (.ref e)):=by
  rw[Y3 2e7,Y7 (by simp[hlen])]
 show#[_,h3,rfl,_,rfl,?_];show Nj ?_;show#[_,h3,?_];show#[e,_,ag,rfl,he,.inl #[c,rfl,hk1],ag,rfl,?_];change if(!ag)=ag then _ else _
 rw[aI 2e7];show#[_,h3,e,_,ag,rfl,he,.inr (.inl #[_,rfl,hkv]),ag,rfl,?_];show Nj ?_;show#[_,h3,(by change 3<=Yp;rw[YH];decide),λtp htp=>?_];show#[e,_,ah,rfl,by rw[fS (kI he htp)];show he,.inr (.inr #[tp,[a1,a2,a3],rfl,oz,hka]),ah,rfl,?_];show Nj ?_;show#[(by change 2<=Yp;rw[YH];decide),λtq htq=>?_];have up:∀b o,H' b=ae o->upd H' tp (.tup ([a1,a2,a3].map V.ref)) b=ae o:=λb o z=>by rw[fS (kI z htp)];show z
 show q _ _ (f1.trans (Pu.Fr.trans (Fr.new htp) (Fr.new htq))) ((c1.new htp).new htq) ?_;unfold cH Rep;show#[tq,_,rfl,oz,.cons ?_ (.cons ?_ .nil)]
 .ext Rep;show#[rfl,by decide +kernel]
 .ext Rep;rfl
end
noncomputable def nsQ (o:Obj)(names:2e2):Bool:=match o.data with
 |.dict es _=>es.all (λe=>match e.key with|.str _ _=>ag|_=>ah)&&names.all λn=>(nsFind es n).isNone
 |_=>ah
noncomputable def nsI (o:Obj)(n:Str):Option Value:=match o.data with
 |.dict es _=>nsFind es n
 |_=>af
theorem G9{N:Addr}{o:Obj}{names:2e2}(g:h.get? N=ae o)(q:nsQ o names=ag):∃m,h.Ns N m/\(∀n∈names,m n=af)/\∀n,m n=nsI o n:=by
 ext nsQ q;cases hd:o.data with
 |dict es k=>
  rw[hd]at q;let#[q1,q2]:=Wg.mp q;have e:∀n,h.nsMap N n=nsI o n:=λn=>by unfold Heap.nsMap nsI;rw[g];dsimp only;rw[hd]
  show#[h.nsMap N,.of_isNs (by ext Heap.isNs;rw[g];dsimp only;rw[hd];show q1),λn hn=>?_,e];rw[e];ext nsI;rw[hd];show Option.isNone_iff_eq_none.mp (YE.mp q2 n hn)
 |_=>rw[hd]at q;cases q
noncomputable def Gp:List Str:=["__init__","__setattr__","row","__getattribute__","__getattr__","__class__"]
noncomputable def Gq:List Str:=["__setattr__","row","__getattribute__","__getattr__","__class__"]
structure OL(P:Yy)(w:World)(K:W.Frag)(mg:Str->Option Value)(base:Heap)(x:Str)(y1 y2 y3:Str)(c:Addr):Prop where
 cx:VdG P w K mg base 1 x c
 ct:∃Ab a1 a2 a3,mg "HoldError"=ae (.ref Ab)/\(∀h:Heap,K.In h->XQ h c Ab)/\mg y1=ae (.ref a1)/\mg y2=ae (.ref a2)/\mg y3=ae (.ref a3)/\kitOne K (.ref c) (.type "ValueError")=ae ag/\kitAny K (.ref c) [.ref a1,.ref a2,.ref a3]=ae ah
section
variable{P:Yy}{w:World}{K:W.Frag}{mg:5e1}{base:Heap}{c N Ab NA fI a1 a2 a3 N1 N2 N3 k0 k1 k2 k3 k4 df cdA:Addr}{n0 n1 n2 n3 n4 x y1 y2 y3:Str}{b0 b1 b2 b3 b4 s0 s1 s2 s3 s4 m2 m3 m4:4e4}{t0 t1 t2 t3 t4 u0 u1 u2 u3 u4:Tok}{oN oNA odf:Obj}{st:Stmt}{kV doc pm ct:Value}{an od:Option Addr}{osl:Array (Option Value)}{p1 p2 p3 p4:Pos}{kn:Nat}
theorem Vbw(hC:K.lookup c=ae (kG n0 c N b0 (.ref Ab::jb) s0 k0 t0 u0))(hA:K.lookup Ab=ae (kG n1 Ab NA b1 jb s1 k1 t1 u1))(hN:K.lookup N=ae oN)(hNA:K.lookup NA=ae oNA)(qN:nsQ oN Gp=ag)(qA:nsQ oNA Gq=ag)(qi:nsI oNA "__init__"=ae (.ref fI))
  {oI:Obj} (hI:K.lookup fI=ae oI) (hIc:oI.cls=.type "function") (h:Heap) (X:K.In h):XC h c Ab fI/\XQ h c Ab:=by
 let#[mN,e1,e2,_]:=G9 (X _ _ hN) qN;let#[mA,e3,e4,e5]:=G9 (X _ _ hNA) qA;show#[#[_,_,_,_,_,_,_,_,_,_,_,_,_,_,mN,mA,_,_,_,_,oI,X _ _ hC,e1,e2 _ 9e0,e2 _ 9e0,e2 _ 9e0,X _ _ hA,e3,(e5 _).trans qi,e4 _ 9e0,e4 _ 9e0,X _ _ hI,hIc],
  N,NA,mN,mA,#[_,_,_,_,_,_,_,_,_,_,_,_,_,_,_,X _ _ hC],#[_,_,_,_,_,_,_,_,_,_,_,_,_,_,_,X _ _ hA],e1,e3,λn hn=>#[e2 n ?_,e4 n ?_]]
 .show .tail _ (.tail _ (.tail _ hn))
 .show .tail _ (.tail _ hn)
theorem NL(hC:K.lookup c=ae (kG n0 c N b0 (.ref Ab::jb) s0 k0 t0 u0))(hA:K.lookup Ab=ae (kG n1 Ab NA b1 jb s1 k1 t1 u1))(h1:K.lookup a1=ae (kG n2 a1 N1 b2 m2 s2 k2 t2 u2))(h2:K.lookup a2=ae (kG n3 a2 N2 b3 m3 s3 k3 t3 u3))(h3:K.lookup a3=ae (kG n4 a3 N3 b4 m4 s4 k4 t4 u4))
  (hN:K.lookup N=ae oN) (hNA:K.lookup NA=ae oNA) (qN:nsQ oN Gp=ag) (qA:nsQ oNA Gq=ag) (qi:nsI oNA "__init__"=ae (.ref fI))
  (hI:K.lookup fI=ae #[.type "function",od,.func (fnOf "__init__" "HoldError.__init__" (fh st) (cO st) 12e5 (.ref df) kV doc pm an (.ref cdA) ct),osl]) (me:codeIn K (.ref cdA) "HoldError.__init__"=ag)
  (hdf:K.lookup df=ae odf) (EC:odf.data=.seq #[.none] kn) (S:aP ["self","row"] ["self","row"] 12e5) (v0:Eo 12e5 "self") (v1:Eo 12e5 "row") (hbd:cO st=[.Assign [.Attribute (.Name "self" p1) "row" p2] (.Name "row" p3) p4])
  (hb:∀u:Value,∃kk:Option (Array Value)->Sem (List (Str×Value)),bindArgs (fnOf "__init__" "HoldError.__init__" (fh st) (cO st) 12e5 (.ref df) kV doc pm an (.ref cdA) ct) #[[u],[]]=seqItems? (.ref df)>>=kk/\kk (ae #[.none])=pure (List.zip (["self","row"]:List Str) [u,.none]))
  (e0:mg x=ae (.ref c)) (eA:mg "HoldError"=ae (.ref Ab)) (e1:mg y1=ae (.ref a1)) (e2:mg y2=ae (.ref a2)) (e3:mg y3=ae (.ref a3)) (d:[c,Ab,a1,a2,a3].Nodup):OL P w K mg base x y1 y2 y3 c:=by
 have key:=Vbw hC hA hN hNA qN qA qi hI rfl;have cl:∀{a N':Addr}{n':Str}{b' m' s':4e4}{k':Addr}{t' u':Tok},K.lookup a=ae (kG n' a N' b' m' s' k' t' u')->((clsIn K a).isSome&&typeIn K (.ref a)==ae (.type "type"))=ag:=λ{a _ _ _ _ _ _ _ _} h=>by
  have z1:(clsIn K a).isSome=ag:=by ext clsIn;rw[h];rfl
  have z2:typeIn K (.ref a)=ae (.type "type"):=by change(K.lookup a).map (·.cls)=_;rw[h];rfl
  rw[z1,z2];rfl
 have mro:∀v,subIn K (.ref c) v=ae ((YI c::.ref Ab::jb).contains v):=λv=>by
  change mroIn K c v=_;unfold mroIn clsIn;rw[hC];rfl
 have no:∀a,c≠a->Ab≠a->(YI c::YI Ab::jb).contains (.ref a)=ah:=λa z1 z2=>by simp[jb,XD z1,XD z2]
 have one:∀{a N':Addr}{n':Str}{b' m' s':4e4}{k':Addr}{t' u':Tok},K.lookup a=ae (kG n' a N' b' m' s' k' t' u')->c≠a->Ab≠a->kitOne K (.ref c) (.ref a)=ae ah:=λ{a _ _ _ _ _ _ _ _} h z1 z2=>by
  ext kitOne;rw[aI (by simpa using z1)];ext kitCls;dsimp only;rw[aE (cl h),mro,no a z1 z2]
 erw[WK,Ye,Yq,or_false,not_or]at d
 obtain⟨⟨d1,d2,d3,d4⟩,⟨d5,d6,d7⟩,_⟩:=d;show#[#[Ab,fI,fnOf "__init__" "HoldError.__init__" (fh st) (cO st) 12e5 (.ref df) kV doc pm an (.ref cdA) ct,λX=>(key base X).1,?_,e0,?_],Ab,a1,a2,a3,eA,λh X=>(key h X).2,e1,e2,e3,?_,?_]
 .have hI':=hI
  rw[hbd]at hI';have:=Nq (P:=P) (w:=w) (mg:=mg) (base:=base) (CX:=cu) (k:=0) (C:=c) (Ab:=Ab) hI' me S (λX=>(key base X).1) v0 v1 λ_=>rfl;rw[←hbd]at this;show this
 .intro s us X hl
  obtain⟨u,rfl⟩:∃u,us=[u]:=by
   rw[YT]at hl;show List.length_eq_one_iff.mp (Nat.add_right_cancel (m:=1) hl)
  let#[kk,hk1,hk2]:=hb u;show BindsTo.of_defaults rfl (X _ _ hdf) EC hk1 hk2
 .ext kitOne
  rw[aI 3e7];ext kitCls;dsimp only;rw[aE 1e0,mro];rfl
 .unfold kitAny kitAny kitAny kitAny
  rw[one h1 d2 d5,one h2 d3 d6,one h3 d4 d7]
end
theorem L6{P:Yy}{k:Nat}{T:List (Addr×(List SV->Cs->Prop))}(F:eD K "_law_told" "_law_told" st f fd)(S:aP km ["_law_gone","_law_text_here"] 12e5)
  (fB:∀(cdv:Value)(A:Around)(outer:List Env)(s:Shared)(H:Hp)(E:XK),dy k (A.deeper (envOfC "_law_told" 12e5 s.heap.objs.size f cdv))->
   i8 (gJ cu P w K mg base km "_law_told" 12e5 f cdv A outer s H E).Ey (cO st) (λD σ H=>∃ι C f x R,SR K ι H [ae (.v (.fn f)),ae x,af,af,af] σ C/\T.lookup f=ae R/\R [x] C/\
    ∀v H',Pu.Fr ι H H'->Pu.CR K ι H' C->cH K ι H' (.v (.tup [.str "none",.aS])) v->D.rt v H')):
  aO P w K mg base cu (k+1) f fd ["_law_gone","_law_text_here"] (aF K (qy T)):=by
 show F.ok S (λvs H Q E #[ι,ss,C,r,C',cr,rs,e,q]=>?_) (λcdv A outer s H vs Q E hr #[ι,ss,C,r,C',cr,rs,e,q]=>?_)
 .let#[g,x,R,rfl,_]:=ZdY e
  rw[←dc.length rs];rfl
 .let#[g,x,R,rfl,hT,hR,rfl,rfl]:=ZdY e
  have sr:=Zck (N:=km) cr rs;show#[_,fB cdv A outer s H E hr,ι,C',g,x,R,sr,hT,hR,q]
end Ex
namespace Ex
open PySem
theorem Z9{T:List (Addr×α)}{Pd:Addr->α->Prop}(h:∀q∈T,Pd q.1 q.2):∀a F,T.lookup a=ae F->Pd a F:=λa F e=>h (a,F) (L2.lookup_mem e)
end Ex
namespace Ex
open PySem L2 Pu
theorem Vdd{lC:List Stmt}:B4 X lC mNo:=by
 rw[zL];show λpins s σ H D I h_=>by let#[ι,ρ,C,fl,C',sr,e,d]:=h_;cases e
end Ex
namespace Ex
open PySem PySem.Spec PySem.W L2 Pu
open PyProof.Rows hiding St Fr
abbrev oG(X:Cx)(E:XK):Cx:=X.gc λev s'=>jA X.prog X.w X.stack X.H₀ X.s₀ E ev s'
theorem kA{E:XK}(hex:X.ex=[]):Passes (jA X.prog X.w) (oG X E) E:=
 λpins σ H s e s' I hx=>wN I.dM (λb z=>by rw[hex]at z;cases z) hx
theorem Hm{E:XK}{s:Shared}(I:2e3)(jk:X.stack=X.env::X.outer)(ux:15e7):
  PassesOwn 3e0 X.A X.env λev s'=>jA X.prog X.w X.stack X.H₀ X.s₀ E ev s':=by
 rintro ev s' ⟨e,C,B,H',rfl,uw,hb,F,hE⟩;ext notedBy;show Zc3 (env:=X.env) (outer:=X.outer) (L:=X.env.locals) (by rw[I.ok.frames,jk]) ux ux (by rw[←jk];show F.held) λh1 d1 u1=>?_;rw[←jk]at d1;have F1:=F.turn d1 u1;let#[_,_,_,a0,f0,oe,vs,T,oT,ts,he,Vac,hd,h1',_]:=id d1;ext cameBackBy;show Yb (Xd he hd h1' ?_);rw[aI (show¬((YI T==Y9)=ag)from by simp)];show ZbF d1 λh2 d2 u2=>#[e,C,B,H',rfl,uw,hb,F1.turn d2 u2,hE]
theorem oA.own{E:XK}{c:Addr}(wi:oA K E c ι H C)(hl:ι.length=C.length)(x:Pu.Ex ι ι2 H H'):oA K E c 9e6 H' (C++D):=λe H2 f2 c2 h2=>
 wi e H2 (λb o n q=>f2 b o (x.out b o n q).1 (x.out b o n q).2) (by have:=c2.cut hl;rwa[List.take_left']at this;rfl) h2
def nE(C0:Cs)(g:5e8)(fb:8e9)(rb:7e1):List PV->aM->Cs->Prop
 |[],_,_=>False
 |x::r,ρ,C=>∃ρ1,g x ρ=ae ρ1/\(rb ρ1 C\/∃ρ2 D2,fb ρ1 C=ae (.nx ρ2,C0++D2)/\nE C0 g fb rb r ρ2 (C0++D2))
def sE(f1:8e9)(it:12e2)(g:5e8)(fb:8e9)(rb:7e1):aM->Cs->Prop:=
 λρ C=>∃ρ1 D1 xs,f1 ρ C=ae (.nx ρ1,C++D1)/\it ρ1 (C++D1)=ae (xs,C++D1)/\nE C g fb rb xs ρ1 (C++D1)
section
variable{X:Cx}{E:XK}{c:Addr}{tg iter:Expr}{st:Stmt}{body rest:List Stmt}{it:12e2}{g:5e8}{f1 fb:8e9}{rb:7e1}{pos:Pos}
theorem CW(h1:pO X st f1)(hc:12e0)(hi:ES (oG X E) tg iter it)(hg:Es (oG X E) tg g)(hb:B4 (oG X E) body fb)(hr:Er (oG X E) E c body rb)
  (hex:X.ex=[]) (jk:X.stack=X.env::X.outer) (ux:15e7) (xp:∀{pins σ H s},Inv X pins σ H s->XP X E) (hs:15e4:=by intro _;rfl):
  Er X E c (st::.For tg iter body [] pos::rest) (sE f1 it g fb rb):=by
 rw[uf]at h1;rw[zJ]at hi;rw[ug]at hg;rw[zL]at hb;rw[ZdM]at hr⊢;have hor:i8 (oG X E) body (λD σ H=>tMS X.K fb D σ H\/mM X.K E c rb D σ H):=λpins s σ H D I q=>q.elim (hb pins s σ H D I) (hr pins s σ H D I);have hF:PS X (.For tg iter body [] pos) (VbN (tMI X.K it) (Sz X.K g) λD σ H=>tMS X.K fb D σ H\/mM X.K E c rb D σ H):=λpins s σ H D I q=>
  Xf (GF (X:=oG X E) (show PassesOwn 3e0 X.A X.env _ from Hm (X:=X) I jk ux) hc hi hg hor hs pins s σ H D (I.gc _) q) (λ_ _ z=>z.dM) (xp I)
 intro pins s σ H D I #[ι,ρ,C,sr,#[ρ1,D1,xs,e1,e2,hl],wi];show KJ h1 (KJ hF Zbt) pins s σ H D I #[ι,ρ,C,.nx ρ1,C++D1,sr,e1,λι2 σ1 H1 x1 CO=>?_];show#[ι++ι2,ρ1,C++D1,xs,C++D1,CO,e2,λJ H2 f2 c2 it2=>?_];have jF:=CO.step f2 c2;have x2:Pu.Ex ι ι2 H H2:=#[λb o n q=>f2 b o (x1.out b o n q).1 (x1.out b o n q).2,x1.2]
 show⟨λi m σ3 H3=>∃ι3 ρ3 D3,m=xs.length-i/\Pu.Ex 9e6 ι3 H2 H3/\SR X.K (ι++ι2++ι3) H3 ρ3 σ3 (C++D3)/\nE C g fb rb (xs.drop i) ρ3 (C++D3),#[xs.length,[],ρ1,D1,rfl,Ex.fr .refl,by rw[Yv];show jF,hl],?_⟩;rintro i m σ3 H3 ⟨ι3,ρ3,D3,rfl,x3,Lq,e3⟩;have gG:i<xs.length:=by
  rcases Y2 i xs.length with q|q
  .show q
  .rw[List.drop_eq_nil_of_le q]at e3;show e3.elim
 show .inr ⟨it2.go ι3 H3 _ x3 Lq.cr i gG,λσ' H'=>∃ι4 ρ4 D4,Pu.Ex 9e6 ι4 H2 H'/\SR X.K (ι++ι2++ι4) H' ρ4 σ' (C++D4)/\nE C g fb rb (xs.drop (i+1)) ρ4 (C++D4),?_,?_⟩
 .rintro σ' H' ⟨ι4,ρ4,D4,x4,xN,e4⟩
  show#[xs.length-(i+1),by lia,ι4,ρ4,D4,rfl,x4,xN,e4]
 intro v H4 y;let#[sm,q,hq,rq]:=it2.Lo ι3 H3 _ x3 Lq.cr i v H4 gG y;have hd:xs.drop i=q::xs.drop (i+1):=by
  rw[Wd gG];rw[Yd gG]at hq;rw[Yz hq]
 rw[hd]at e3;let#[ρ4,Bn,e4]:=e3;have fr4:Pu.Fr (ι++ι2++ι3) H3 H4:=λb o _ z=>sm b o z;have cr4:=Lq.cr.same sm;have x4:Pu.Ex 9e6 ι3 H2 H4:=#[λb o n z=>sm b o (x3.1 b o n z),x3.2]
 show#[ι++ι2++ι3,ρ3,_,q,ρ4,Lq.step fr4 cr4,rq,Bn,λσ5 OX=>?_];rcases e4 with e4|⟨ρ5,D5,e5,e6⟩
 .have x5:Pu.Ex ι (ι2++ι3) H H4:=x2.trans c2 x4
  show .inr #[ι++ι2++ι3,ρ4,_,OX,e4,by rw[Yx];show wi.own sr.cr.len x5]
 .show .inl #[ι++ι2++ι3,ρ4,_,.nx ρ5,C++D5,OX,e5,λι6 σ6 H6 x6 sr6=>#[ι3++ι6,ρ5,D5,x4.trans cr4 x6,by rw[←Yx];show sr6,e6]]
end
section
variable{X:Cx}{E:XK}{c:Addr}{e tg:Expr}{es:7e0}{r r':7e1}{pos:Pos}{g:5e8}
theorem Tg(h:KU X E c es r)(k:KU X E c es r'):KU X E c es (i6 r r'):=by
 rw[Zd5]at h k⊢;show λpos pins s σ H Q I #[ι,ρ,C,sr,q,wi]=>q.elim (λq=>h pos pins s σ H Q I #[ι,ρ,C,sr,q,wi]) λq=>k pos pins s σ H Q I #[ι,ρ,C,sr,q,wi]
theorem F0(h:zI X E c e r)(k:Es X tg g)(hs:VG [tg] e pos.line X.env=pure ah:=by rfl)(hw:VH [tg] e X.env=pure af:=by rfl)
  (h1:(Y1 [tg] X.env).map (·.2)=[assign tg X.env]:=by rfl):Ep X E c (.Assign [tg] e pos) r:=by
 rw[EL]at h;rw[ug]at k;rw[Ow];show PS.imp (sI h k hs hw h1) λD σ H q=>q
theorem Mi{p:Pos}(jL:Gl X "tuple")(hm:X.mg "tuple"=af)(hv:Y0 "tuple"=ae (.type "tuple"))(ha:KU X E c 4e8 r)
  (he:1e3:=by rfl) (gk:3e4:=by rfl):zI X E c (.Call (.Name "tuple" p) 4e8 [] pos) r:=by
 rw[Zd5]at ha;rw[EL];show PE.imp (qm Zcz jL hm hv ha 2e7 2e7 he gk) λσ H Q q=>q
def Tv(fo:3e6)(r:7e1):aM->Cs->Prop:=λρ C=>∃x,fo ρ C=ae (x,C)/\gT x C=ae ((),C)/\r ρ C
theorem CY{o:Expr}{fo:3e6}{apos:Pos}(ho:cf X o fo)(ha:KU X E c 4e8 r)(eO:XM o "append" X.env (eval o X.env)=eval o X.env:=by rfl)
  (hX:((backTo cc (Yg 4e8 X.env)).all (λx=>!x.1)&&(Vv cc (Wb [] X.env)).all 15e2
   &&decide ((e::es).length+([]:List Wc).length+(if([]:List Wc).isEmpty then 0 else 1)<30))=ag:=by rfl)
  (eN:9e8:=by rfl) (hs:1e3:=by rfl) (dg:7e5:=by rfl):
  zI X E c (.Call (.Attribute o "append" apos) 4e8 [] cc) (Tv fo r):=by
 rw[oF]at ho;rw[Zd5]at ha;rw[EL];show PE.imp (An XW PySem.F.slot_list_append PySem.F.type_list_append qw ho ha eO hX eN hs dg) λσ H Q #[ι,ρ,C,sr,#[x,e1,e2,hR],wi]=>?_;let#[_,k,ps0,hx,DX]:=Zb7 e2;subst hx;show#[ι,ρ,C,_,C,sr,e1,λv H1 f1 c1 r1=>?_];let#[a,rfl,hk]:=r1;let#[vs0,h0,_]:=Ox c1 hk DX;show#[.inl #[rfl,_,.of h0],ι,ρ,C,9e5,hR,wi.mono f1]
end
end Ex
namespace Ex
open PySem PySem.Spec L2 Pu
open Sem (wp)
section
variable{X:Cx}{tg elt iter:Expr}{ifs:7e0}{scope:Scope}{pos:Pos}{vs fs:2e2}{fr:List Nat}{it:12e2}{g:5e8}{tt:7e3}{te:3e6}{x:Str}
theorem b9(S:14e3)(hc:12e0)(hi:ES X tg iter it)
  (bG:∀C s₀ H₀ ex pn,Es 5e7 tg g) (bT:∀C s₀ H₀ ex pn,zH 5e7 ifs tt) (bE:∀C s₀ H₀ ex pn,cf 5e7 elt te)
  (hs:15e4:=by intro _;rfl):KW X 8e4 (br it vs fr g tt te):=by
 subst_eqs;show PE.imp (vp (g:=Sz X.K g) (tt:=Mb X.K tt) (te:=tM X.K te) S hc hi bG bT (λC s₀ H₀ ex pn=>PE.Ey (bE C s₀ H₀ ex pn)) Hc hs) λσ H Q #[ι,ρ,C,res,C',sr,e,q]=>qQ sr e q
theorem pQ{px:Pos}(hN:X.N.Nodup)(hx:11e7)(hl:X.env.scope.names.lookup x=ae .local)(S:14e3)(hc:12e0)(hi:ES X tg iter it)
  (bG:∀C s₀ H₀ ex pn,Es 5e7 tg g) (bT:∀C s₀ H₀ ex pn,zH 5e7 ifs tt) (bE:∀C s₀ H₀ ex pn,cf 5e7 elt te)
  (Z':Xv 8e4 (ae (.Name x px)) kq.line X.env=pure ag:=by rfl) (hs:15e4:=by intro _;rfl):
  pO X (.Assign [.Name x px] 8e4 kq) (bg i (bh (br it vs fr g tt te))):=by
 subst_eqs;show PS.imp (GH (g:=Sz X.K g) (tt:=Mb X.K tt) (te:=tM X.K te) hN hx hl S hc hi bG bT (λC s₀ H₀ ex pn=>PE.Ey (bE C s₀ H₀ ex pn)) Hc Z' hs) λD σ H h_=>?_;sleep 6;let#[z,C1,e1,e]:=dI e;cases e;let#[res,C2,e2,e3]:=dI e1;cases e3;show qQ sr e2 λq vs H' f1 c1 hq rs=>Done.P4 (((sr.step f1 c1).step (Fr.new hq) (c1.new hq)).set i (s:=.v (.lst _)) (Zch c1 hq rs)) (d.fr (c1.new hq) (f1.trans (Fr.new hq)))
end
end Ex
namespace Pu
open PySem PySem.Spec PySem.W PySem.Calls L2 PySem.SeqAt
open PyProof.Rows hiding St Fr
def kX(o:Nat->Nat->Bool)(n:Nat):List Nat:=if n<2 then YL n else(CV o (kas_sort n)).toList
theorem sf(o:Nat->Nat->Bool)(n:Nat):(kX o n).length=n/\∀i∈kX o n,i<n:=by
 ext kX;by_cases h:n<2
 .rw[aE h];show#[by simp,λi hi=>WW.mp hi]
 .rw[aI h]
  have:=FU (o:=o) (kas_sort n) (Ad 3e5);show#[by rw[YO];show this.2.1,this.2.2]
section
variable{prog:Yy}{w:World}{A:Around}{E:2e9}{s:Shared}{a l:Addr}{vs:4e4}{κ:UI}{o:Nat->Nat->Bool}
theorem DB{P:PySem.Fin->Shared->Prop}(ho:s.heap.get? a=ae (seqObj "list" vs.toArray n))(h2:¬vs.length<2)(h64:vs.length<64)
  (hk:∀h',iM a s.heap h'->∀Q:UI->Shared->Prop,Q κ {s with heap:=h'}->wpAny (model prog w) A (keyKind' vs.toArray) Q (λ_ _=>False) {s with heap:=h'})
  (hc:∀h',iM a s.heap h'->∀i j(C:10e6),i<vs.length->j<vs.length->C (o i j) {s with heap:=h'}->kas_ask prog w A κ vs i j C {s with heap:=h'})
  (h:∀h' c,iM a s.heap h'->h'.get? a=ae (seqObj "list" ((kX o vs.length).map λi=>vs.getD i Y9).toArray c)->P (.done (.ret .none)) {s with heap:=h'}):
  wpAny 5e0 A (W3.«list.sort» #[[.ref a],[]]) P E s:=by
 obtain⟨c1,ho1⟩:∃c1,(s.heap.update a (X2 λ_=>(#[]:Array Value))).get? a=ae (seqObj "list" #[] c1):=#[_,VR ho λ_=>#[]]
 generalize hg:((s.heap.update a (X2 λ_=>(#[]:Array Value))).push (seqObj "tuple" vs.toArray 0)).push (seqObj "list" #[] 0)=g3;have kb:iM a s.heap g3:=λb u nb e=>by
  rw[←hg];show Yc _ (Yc _ ?_);rw[X0 _ _ _ _ nb];show e
 have g3a:g3.get? a=ae (seqObj "list" #[] c1):=by rw[←hg];show Yc _ (Yc _ ho1)
 rw[list_sort_plain];show Yb (listItems_at ho rfl ?_);show Yb (Uf ho rfl ?_ (by rw[Yj,YH];lia) (XZ _))
 show Yb (UE ho1 rfl ?_);show Yb (wpAny_newTuple ?_ (by change vs.length<=_;rw[YH];lia))
 show Yb (Ug ?_ (XZ _));show Xc ?_
 change wpAny 5e0 A _ P E {s with heap:=((s.heap.update a (X2 λ_=>(#[]:Array Value))).push (seqObj "tuple" vs.toArray 0)).push (seqObj "list" #[] 0)};rw[hg];dsimp only;have n2:¬vs.toArray.size<2:=by rw[Yj];lia
 rw[aI n2,aI n2];show Yb (Xf (hk g3 kb (λk s'=>k=κ/\s'={s with heap:=g3}) #[rfl,rfl]) (λk s' e=>?_) λ_ _ x=>x.elim);let#[rfl,rfl]:=e;have Nv:kX o vs.length=(CV o (kas_sort vs.length)).toList:=aI h2;have Bk:=(sf o vs.length).1;let z:=kX o vs.length;show Yb (Xf (kat_run (ks:=vs) (vs:=vs) (Q:=λpX s'=>s'={s with heap:=g3}/\arrOf pX=(z.toArray).map (kas_item (vs.toArray.zip vs.toArray))/\failedOf pX=af)
  (G:=λp s'=>p=CV o (kas_sort vs.length)/\s'={s with heap:=g3}) rfl (by lia) h64 (λp pX s' _ b2 b3 b4=>#[b4.2,by rw[b2,Nv,b4.1],b3])
  (wp_run (o:=o) (hc g3 kb) _ (Ad (by lia)) #[rfl,rfl])) ?_ λ_ _ e=>e)
 rintro⟨⟨⟩,pX⟩ s' ⟨rfl,har,hf⟩;dsimp only at har hf⊢;have wz:=kat_snds (ks:=vs) (vs:=vs) rfl har;rw[wz];have hz:(V2 (z.map λi=>vs.getD i Y9)).size=vs.length:=by rw[Yj,Yk,Bk]
 obtain⟨c2,EE⟩:∃c2,(g3.update a (X2 λ_=>V2 (z.map λi=>vs.getD i Y9))).get? a=ae (seqObj "list" (V2 (z.map λi=>vs.getD i Y9)) c2):=#[_,VR g3a λ_=>_]
 show Yb (UE g3a rfl ?_);show Yb (Uf g3a rfl ?_ (XZ _) (YC (Nat.le_of_eq hz) (by rw[YH];lia)));rw[hf]
 erw[bne_self_eq_false,XR,if_false]
 show Yh (h _ c2 (λb u nb e=>by rw[X0 _ _ _ _ nb];show kb b u nb e) EE)
theorem yg
  (VeU:∀(Q':List Value->Shared->Prop),(∀h1 tk,(∀b u,s.heap.get? b=ae u->h1.get? b=ae u)->s.heap.objs.size<=h1.objs.size->Q' vs {s with heap:=h1,toks:=tk})->wpAny (model prog w) A.in1 (collect v) Q' E s) (h64:vs.length<64)
  (hw:¬vs.length<2->∀h' tk,(∀b u,s.heap.get? b=ae u->h'.get? b=ae u)->(∀Q:UI->Shared->Prop,Q κ {s with heap:=h',toks:=tk}->wpAny (model prog w) A.in1.in1 (keyKind' vs.toArray) Q (λ_ _=>False) {s with heap:=h',toks:=tk})/\
    ∀i j(C:Bool->Shared->Prop),i<vs.length->j<vs.length->C (o i j) {s with heap:=h',toks:=tk}->kas_ask prog w A.in1.in1 κ vs i j C {s with heap:=h',toks:=tk})
  (h:∀D h' tk c,s.heap.objs.size<=D->(∀b u,s.heap.get? b=ae u->h'.get? b=ae u)->h'.get? D=ae (seqObj "list" ((kX o vs.length).map λi=>vs.getD i Y9).toArray c)->Q (.ref D) {s with heap:=h',toks:=tk}):
  wpAny 5e0 A (call (.builtin "sorted") [v]) Q E s:=by
 show Calls.call_function_entry kind_sorted plain_sorted entry_sorted (args_sorted1 _) ?_;unfold W3.«sorted»;show Yb (m:=checkCount "sorted" 1 1 _) (Yh ?_);show Yb (VeU _ λh1 tk kp hle=>?_)
 show Yb (Ug ?_ (by rw[YH];lia));have hoL:(h1.push (seqObj "list" vs.toArray 0)).get? h1.objs.size=ae (seqObj "list" vs.toArray 0):=Yn _ rfl;have kb:∀h',iM h1.objs.size (h1.push (seqObj "list" vs.toArray 0)) h'->∀b u,s.heap.get? b=ae u->h'.get? b=ae u:=λh' k b u e=>
  k b u (YK (Yr (Ys e) hle)) (Yc _ (kp b u e))
 change wpAny _ _ _ _ _ {s with heap:=h1.push (seqObj "list" vs.toArray 0),toks:=tk};show Yb (Xc (XB slot_list_sort #[_,hoL,rfl] entry_list_sort ?body (args_list_sort _)))
 case body=>
  by_cases h2:vs.length<2
  .show DC (s:={s with heap:=h1.push (seqObj "list" vs.toArray 0),toks:=tk}) hoL h2 λh' c k e=>#[_,rfl,Yh #[_,rfl,h _ h' tk c hle (kb h' k) ?_]]
   rw[show((kX o vs.length).map λi=>vs.getD i Y9)=vs from ?_]
   .show e
   .ext kX
    rw[aE h2];apply Vt;intro i;rw[YS];by_cases hi:i<vs.length
    .rw[List.getElem?_range hi];simp[hi]
    .rw[Xw 14e9,Xw 3e5];rfl
  .have hw:=hw h2
   show DB (s:={s with heap:=h1.push (seqObj "list" vs.toArray 0),toks:=tk}) (κ:=κ) (o:=o) hoL h2 h64 (λh' k=>(hw h' tk (kb h' k)).1) (λh' k=>(hw h' tk (kb h' k)).2) λh' c k e=>#[_,rfl,Yh #[_,rfl,h _ h' tk c hle (kb h' k) e]]
end
section
variable{X:Cx}
def sortI(ps:List PV):Option 5e5:=if c9 ps&&decide (cS ps<=40)&&decide (ps.length<64)&&sortable ps&&zp ps then ae ((kX (oP ps) ps.length).map λi=>ps.getD i .aS)else af
def Tt(K:W.Frag):List V->Hp->VK->Prop:=λxs H Q=>∃p bA qs ι,xs=[.ref p]/\Rd H p (.dT bA)/\keysOk (bA.map (·.1))=ag/\sortI (bA.map λq=>tupK q.1)=ae qs/\
 ∀zs l,aG K ι H qs zs->H l=af->Q (.ref l) (upd H l (.lst zs))
theorem zq(hcm:12e0)(hu:X.A.units+64<cLine):gB X (.builtin "sorted") (Tt X.K):=by
 intro pins s σ H xs us Q I r h;let#[p,bA,qs,ι,rfl,hq,hko,hs,q]:=h;let#[u,rfl,rx]:=vals1 r;cases rx;let#[hz,lo,xs,kt,o,es,ep,ho,hex,hda,he,his,hnd]:=wI I.cR hq;have hl:es.size=xs.length:=size_of_entries he;have hkl:bA.length=xs.length:=VF kt;have hr:=M' (K:=X.K) (ι:=ι) kt hko;have hv:=ZbM xs;ext sortI hs;split at hs
 .rename_i hc
  erw[Yl,g6]at hc
  obtain⟨⟨⟨⟨hd,hde⟩,h64⟩,hso⟩,VeV⟩:=hc;cases hs;generalize EA:(bA.map λq=>tupK q.1)=ps at *;have hh:=aG.heap I ps hr hv hd;have Nx:=hh.length;have Vae:=h64;rw[Nx]at Vae;show yg (κ:=vY ps) (o:=oP ps) (λQ' q'=>wV (Mn (es:=es) (ep:=ep) lo) (I.ok.hd hcm) #[o,ho,hex,hda] (by rw[YH];simp at Vae;lia) λh' tk acc k hle ai=>by rw[DO he ai];show q' h' tk k hle) Vae (λh2 h' tk k=>#[λQ' q'=>Na (s:={s with heap:=h',toks:=tk}) (hh.keep k) (by lia) hso q',λi j C hi hj hC=>Vbi (s:={s with heap:=h',toks:=tk}) (hh.keep k) hso VeV (by rw[Xk,Xk];lia) hi hj hC]) λD h' tk c hD k e2=>?_;let#[p1,pl]:=sf (oP ps) ps.length;rw[←Nx]at e2;let z:=kX (oP ps) ps.length;show#[.ref D,_,I.laid (t':=tk) k hD (show cw X.prog X.w _ h' _ (.lst (z.map λi=>(xs.map λx=>V.ref x.2.1).getD i .aS))from#[?_,_,c,uL hv (λi hi=>by have:=pl i hi;lia),e2]),rfl,q _ _ (vb hr pl) (I.cR.fresh hD)];rw[Yk,p1,YH];lia
 .cases hs
def sh(C:Cs):List SV->Option 5e5
 |[x]=>match cE C x with
  |some (.fz ks _)=>if keysOk ks then sortI (ks.map tupK)else af
  |_=>af
 |_=>af
def sW(fs:2e8):aM->M 5e5:=λρ=>bP (fs ρ) λxs=>i7 λC=>sh C xs
theorem xP{fs:2e8}{p:Pos}(hcm:12e0)(hu:X.A.units+64<cLine)(jL:Gl X "sorted")(hm:X.mg "sorted"=af)(hv:Y0 "sorted"=ae (.builtin "sorted"))(ha:13e5)
  (he:1e3:=by rfl) (gk:3e4:=by rfl):KW X (.Call (.Name "sorted" p) 4e8 [] pos) (sW fs):=by
 subst_eqs;show PE.imp (Zcq (zq hcm hu) jL hm hv ha 2e7 2e7 he gk) λσ H Q h_=>?_;sleep 4;let#[xs,C1,e1,e]:=dI e;let#[e2,rfl]:=oW e;show#[ι,ρ,C,xs,_,sr,e1,λvs H1 f1 c1 r1=>?_];ext sh e2;split at e2
 .rename_i x
  let#[v,w,rfl,r1,hw]:=r1;cases(show w=[]from hw);split at e2
  .rename_i ks ps hd
   have li:=r1.lies c1 hd;cases li with
   |@fz a _ _ ws h1 hl r2=>
    by_cases hk:keysOk ks=ag
    .rw[aE hk]at e2
     have ek:((ks.zip ws).map λq=>tupK q.1)=ks.map tupK:=by
      have:(ks.zip ws).map Prod.fst=ks:=List.map_fst_zip 3e5;show(XX (f:=Prod.fst) (g:=tupK) (l:=ks.zip ws)).symm.trans (by rw[this])
     have ef:(ks.zip ws).map (·.1)=ks:=List.map_fst_zip 3e5;show#[a,ks.zip ws,_,ι,rfl,h1,by rw[ef];show hk,by rw[ek];show e2,λzs l hz hl=>q l _ H1 f1 c1 hl hz]
    .rw[aI hk]at e2;cases e2
  .cases e2
 .cases e2
end
end Pu
namespace Pu
open PySem PySem.Spec L2
open PyProof.Rows hiding St Fr
def xO(it:SV->Option 5e5):List SV->Option 5e5
 |[x,y]=>match it x,bY y with
  |some ps,ae qs=>ae (W7 (λa b=>.tup [a,b]) ps qs)
  |_,_=>af
 |_=>af
theorem CC{it:SV->Option 5e5}{xs:List SV}{ys:List PV}(h:xO it xs=ae ys):∃x y ps qs,xs=[x,y]/\it x=ae ps/\bY y=ae qs/\ys=W7 (λa b=>.tup [a,b]) ps qs:=by
 ext xO h;split at h
 .split at h
  .cases h;show#[_,_,_,_,rfl,by assumption,by assumption,rfl]
  .cases h
 .cases h
def jg(it:SV->Option 5e5)(fs:2e8):aM->M 5e5:=λρ=>bP (fs ρ) λxs=>i7 λ_=>xO it xs
theorem ki{it:SV->Option 5e5}(hT:∀{pins:3e2}{σ:St}{H:Hp}{s:Shared}{ι:6e8}{C:Cs}{x:SV}{ps:List PV}{v:V}{u:Value},L2.Inv X pins σ H s->CR X.K ι H C->cH X.K ι H x v->it x=ae ps->L2.RelV v u->∃S:ZS,u=S.val/\S.src s.heap/\KR X.K ι H S ps){a b:Expr}{fs:2e8}{x1:Nat}{CJ p:Pos}(hg:Gl X "zip")(hm:X.mg "zip"=af)(ha:zM X [a,b] fs)
  (hs:Yg [a,b] X.env=[(ah,eval a X.env),(ah,eval b X.env)]:=by rfl) (pJ:Yg [b] X.env=[(ah,eval b X.env)]:=by rfl):ES X (.Tuple elts x1 CJ) (.Call (.Name "zip" p) [a,b] [] pos) (jg it fs):=by
 subst_eqs;intro pins s σ H R I h_;let#[ι,ρ,C,xs,C',sr,e,q]:=h_;let#[zs,C1,e1,g1]:=dI e;let#[e2,hC]:=oW g1;subst hC;let#[x,y,ps,qs,rfl,hx,hy,rfl]:=CC e2;show Call_ (Zdt I hg hm 1e0 (Xy (dz (ha pos pins s σ H (λvs H1=>Fr ι H H1/\CR X.K ι H1 C'/\dc X.K ι H1 [x,y] vs) I #[ι,ρ,C,_,C',sr,e1,λvs H1 f1 c1 r1=>#[f1,c1,r1]]) λus s1 #[vs,H1,I1,r1,f1,c1,rs]=>?_) (by rw[hs,pJ]) (by rw[pJ];rfl)));let#[v1,w,rfl,rx,hw]:=rs;let#[v2,w2,rfl,ry,hw]:=hw;cases(show w2=[]from hw);let#[u1,u2,rfl,ru1,ru2]:=Vals.two r1;let#[S1,rfl,hS1,Z1]:=hT I1 c1 rx hx ru1;let#[S2,rfl,hS2,Z2]:=yd I1 c1 ry hy ru2;show callType_new PySem.F.called_zip 2e7 (PySem.F.typeCall_zip_2 _ _) (PySem.F.newCall_zip_2 _ _) (λobj=>PySem.F.args_object_init_3 obj _ _) PySem.F.entry_zip_new (LV S1 S2) #[hS1,hS2,?_];have z1:(s1.heap.push S1.obj).objs.size=s1.heap.objs.size+1:=WD ..
 have z2:((s1.heap.push S1.obj).push S2.obj).objs.size=s1.heap.objs.size+2:=by rw[WD,z1]
 have z3:(zH3 s1.heap S1 S2).objs.size=s1.heap.objs.size+3:=by rw[WD,z2]
 have z4:(zH4 s1.heap S1 S2).objs.size=s1.heap.objs.size+4:=by rw[WD,z3]
 have up:∀c o,s1.heap.get? c=ae o->(OO s1.heap S1 S2).get? c=ae o:=λc o x=>Yc _ (Yc _ (Yc _ (Yc _ (Yc _ x))));have g5:(OO s1.heap S1 S2).get? (zH4 s1.heap S1 S2).objs.size=ae _:=Yn _ rfl;have g4:(OO s1.heap S1 S2).get? (zH3 s1.heap S1 S2).objs.size=ae _:=Yc _ (Yn _ rfl);have g3:(OO s1.heap S1 S2).get? ((s1.heap.push S1.obj).push S2.obj).objs.size=ae _:=Yc _ (Yc _ (Yn _ rfl));have g2:(OO s1.heap S1 S2).get? (s1.heap.push S1.obj).objs.size=ae _:=Yc _ (Yc _ (Yc _ (Yn _ (by cases S2<;>rfl))));have g1:(OO s1.heap S1 S2).get? s1.heap.objs.size=ae _:=Yc _ (Yc _ (Yc _ (Yc _ (Yn _ (by cases S1<;>rfl)))));change _/\_;rw[z2,z3,z4]at g5;rw[z1,z2]at g3;rw[z3]at g4;rw[z1]at g2;rw[z4];have at0:∀{S:ZS}{it:Addr}{h:Heap},h.get? it=ae S.obj->S.at' it 0 h:=λ{S it h} e=>by
  cases S with
  |l a=>show#[_,e,rfl,rfl]
  |t a=>show#[_,e,rfl,rfl]
  |s z tk wd=>show#[_,e,rfl,rfl]
 have J:Inv X pins σ H1 {s1 with heap:=OO s1.heap S1 S2}:=I1.kept (t':=s1.toks) up;show#[#[_,g5,rfl],wpAny_pyIter_zip g5 #[s1.heap.objs.size+4,[s1.heap.objs.size+4,s1.heap.objs.size+2,s1.heap.objs.size+3,s1.heap.objs.size,s1.heap.objs.size+1],_,_,H1,rfl,J,
  E1 (S1:=S1) (S2:=S2) (zne s1.heap.objs.size),#[g5,g3,#[_,_,g4],at0 g1,at0 g2],λb hb=>?_,q _ H1 f1 c1 (HD Z1 Z2)]]
 have uy:s1.heap.objs.size<=b:=by
  erw[Ye,Yq,or_false]at hb
  rcases hb with rfl|rfl|rfl|rfl|rfl<;>lia
 show I1.NI uy (I1.cR.fresh uy)
theorem EG(a b:Int):cn aZ (.int a) (.int b)=ae (.bl (decide (a=b))):=by
 by_cases h:a=b<;>simp[cn,dat,dep,aZ,h]
theorem deS(a b:Str):cn aZ (.str a) (.str b)=ae (.bl (decide (a=b))):=by
 by_cases h:a=b<;>simp[cn,dat,dep,aZ,h]
theorem QM(a b:Str):cn 18e6 (.str a) (.str b)=ae (.bl (decide (a≠b))):=by
 by_cases h:a=b<;>simp[cn,dat,dep,aZ,h]
theorem dnI(a b:Int):cn 18e6 (.int a) (.int b)=ae (.bl (decide (a≠b))):=by
 by_cases h:a=b<;>simp[cn,dat,dep,aZ,h]
end Pu
namespace jz
open PySem PySem.Spec L2 Pu
open PyProof.Rows hiding St Fr
noncomputable section
noncomputable def ZbB (bC bF bH bB bI:Addr):List (Str×Addr):=[("join",bC),("say",bF),("do",bH),("free",bB),("ready",bB),("hand",bI),("quit",bB),("note",bC)]
noncomputable def LS (aA az ay ax aw av au ar:Addr):List (Str×Addr):=[("join",aA),("say",az),("do",ay),("free",ax),("ready",aw),("hand",av),("quit",au),("note",ar)]
noncomputable def KO (aA az ay ax aw av au ar:Addr):List (Addr×List Str):=[(aA,[]),(az,13e1),(ay,["number","number"]),(ax,["number"]),(aw,["number"]),(av,["number","to","word"]),(au,["number"]),(ar,[])]
abbrev VdR:aM->M PF:=(bj (dj (cB (g1 gu) (ak 1e4 (ak (mC (.ty "int")) ao))) (dj (A6 (cB (g1 gu) (ak 1e4 (ak (mC (.ty "bool")) ao)))) (aD (g2 geP) 1e4 3e9))))
def l0:List SV->M SV:=cK 2 0 (VdR)
abbrev VdQ:aM->M PF:=(bj (dj (bw l0 (ak 1e4 (ak 2e6 ao))) (aD (g2 Ez) 1e4 3e9)))
def rM:List SV->M SV:=cK 2 0 (VdQ)
abbrev VdL:aM->M PF:=(bj (dj (cB (g1 gu) (ak 1e4 (ak (mC (.ty "tuple")) ao))) (ji (g2 Lv) (g2 Lv) 3e9 5e2 6e1)))
def jR:List SV->M SV:=cK 3 0 (VdL)
abbrev R9:aM->M PF:=(aC (bx (dY (dG (eM (cB (g1 gu) (ak 1e4 17e4)))) (dG (aH (ji (g2 Lv) (g2 Lv) 1e8 5e2 (mC (.int 12)))))) (bj (mC 9e3)) bo) (bj (cB (g1 iC) (ak (bh (br (bu 1e4) ["sign"] [] 8e6 gq (aD (g2 j6) 1e4 (mC 9e7)))) ao))))
def jQ:List SV->M SV:=cK 1 0 (R9)
abbrev VdV:aM->M PF:=(bj (bw rM (ak 1e4 (ak (mC (.int 12)) ao))))
def oK:List SV->M SV:=cK 1 0 (VdV)
abbrev VdW:aM->M PF:=(bj (aD 2e5 5e2 2e6))
def rO:List SV->M SV:=cK 1 0 (VdW)
abbrev VdM:aM->M PF:=(bj (dj (aD 2e5 5e2 1e8) (bw jQ (ak 6e0 ao))))
def rH:List SV->M SV:=cK 1 0 (VdM)
abbrev VdP:aM->M PF:=(bj (dj (aD 2e5 5e2 1e8) (bw oK (ak 6e0 ao))))
def rL:List SV->M SV:=cK 1 0 (VdP)
abbrev VdN:aM->M PF:=(bj (dj (aD 2e5 5e2 4e5) (dj (bw oK (ak 6e0 ao)) (bw rM (ak (aD 3e3 1e4 1e8) (ak (mC (.int 9)) ao))))))
def rJ:List SV->M SV:=cK 1 0 (VdN)
abbrev VdO:aM->M PF:=(bj (dj (aD 2e5 5e2 4e5) (dj (bw oK (ak 6e0 ao)) (dj (bw jQ 10e0) (aD 1e9 (aD 3e3 1e4 1e8) (mC (.str "bell")))))))
def rK:List SV->M SV:=cK 1 0 (VdO)
def En(bC bF bH bB bI:Addr):List (Addr×(List SV->M SV)):=[(bC,rO),(bF,rH),(bH,rJ),(bB,rL),(bI,rK)]
abbrev VdU(aX bC bF bH bB bI:Addr):aM->M PF:=(aC (bx (dY (dG (eM (cB (g1 gu) (ak 1e4 (ak (mC (.ty "tuple")) ao))))) (dY (dG (eM 1e4)) (dY (dG (eM (cB (g1 gu) (ak 6e0 17e4)))) (aH (aD (mL aX (ZbB bC bF bH bB bI) ag) 6e0 (mC (.fn aX))))))) (bj (mC 9e3)) bo) (aC (bg 1 (aD (rZ aX (ZbB bC bF bH bB bI)) (mC (.fn aX)) 6e0)) (bj (k6 1 (En bC bF bH bB bI) (ak (bU 1e4 (bz 1e8) eB) ao)))))
def rN(aX bC bF bH bB bI:Addr):List SV->M SV:=cK 1 1 (VdU aX bC bF bH bB bI)
abbrev VdS:aM->M PF:=(bj (dj (bw jR (ak 1e4 (ak 7e4 (ak 7e4 ao)))) (dj (bw jQ (ak 6e0 ao)) (dj (bw jQ 10e0) (bw l0 (ak (aD 3e3 1e4 4e5) (ak 1e8 ao)))))))
def jS:List SV->M SV:=cK 1 0 (VdS)
abbrev Sa:aM->M PF:=(aC (bx (dY (dG (eM (bw jR (ak 1e4 (ak 2e6 (ak (mC (.int 30)) ao)))))) (dG (eM (cB (g1 iC) (ak (bh (br (bu 1e4) ["name"] [] 8e6 gq (bw jS 2e4))) ao))))) (bj (mC 9e3)) bo) (aC (bx (dG (eM (cB (g1 iC) (ak (bh (br (jg bY (ak 1e4 (ak (bU 1e4 (bz 1e8) eB) ao))) ["low","high"] [] (eP (bf 8e6 14e5) 2) gq (aD (g2 jC) 1e4 3e9))) ao)))) (bj (mC 9e3)) bo) (bj (cB (g1 iC) (ak (bh (br (bu 1e4) ["name"] [1,2] 8e6 gq (aD 1e9 (bU 1e4 eB 16e2) (cj (ak 3e9 12e3))))) ao)))))
def xF:List SV->M SV:=cK 3 0 (Sa)
abbrev VdT(aX bC bF bH bB bI:Addr):aM->M PF:=(aC (bx (dY (dG (eM (bw jR (ak 1e4 (ak (mC (.int 7)) (ak (mC (.int 7)) ao)))))) (dG (eM (bw jS (ak (bU 1e4 eB (bz 7e4)) ao))))) (bj (mC 9e3)) bo) (aC (fQ 1e4 (eP (bf (hName 1) (bf (hName 2) (bf (hName 3) (bf (hName 4) (bf (hName 5) (bf (hName 6) (bf (hName 7) fZ))))))) 7)) (bj (dj (bw l0 (ak 6e9 (ak 2e6 ao))) (dj (bw xF (ak (aV 5) (ak 3e9 12e3))) (dj (bw l0 (ak (aV 6) (ak 2e6 ao))) (bw (rN aX bC bF bH bB bI) (ak (aV 7) ao))))))))
def l5(aX bC bF bH bB bI:Addr):List SV->M SV:=cK 1 7 (VdT aX bC bF bH bB bI)
abbrev R7:aM->M PF:=(vP (br (bu (pE "str" hU 1e4 (ak (mC (.str " ")) ao))) 13e1 [] 8e6 (eM 1e4) 1e4))
def xD:List SV->M SV:=cK 1 0 (R7)
abbrev R':aM->M PF:=(bj (ZF (aD 2e5 1e4 (mC (.str "0"))) (dj (aD 1e9 1e4 18e2) (dj (aD 1e9 6e0 (mC (.str "0"))) (cB (g1 iC) (ak (bh (br (bu 1e4) ["sign"] [] 8e6 gq (aD (g2 j6) 1e4 (mC (.str "0123456789"))))) ao))))))
def kN:List SV->M SV:=cK 1 0 (R')
abbrev VdK:aM->M PF:=(bx (dG (eM 1e4)) mNo bo)
def cC:List SV->Cs->Prop:=Ex.iS 1 0 (Ex.Lu (dG (eM 1e4)) ag Ex.Vb6)
def cA:List SV->M SV:=cK 1 0 (VdK)
abbrev R6:aM->M PF:=(aC (cb (bw cA (ak (cB (g1 gu) (ak 1e4 17e4)) ao))) (bj (bw xD 2e4)))
def gA:List SV->Cs->Prop:=Ex.iS 1 0 (Ex.bZ (ak (cB (g1 gu) (ak 1e4 17e4)) ao) cC)
def jO:List SV->M SV:=cK 1 0 (R6)
abbrev VdI:aM->M PF:=(aC (cb (bw cA (ak (bw kN 2e4) ao))) (bj (cB (g1 iU) 2e4)))
def bL:List SV->Cs->Prop:=Ex.iS 1 0 (Ex.bZ (ak (bw kN 2e4) ao) cC)
def eE:List SV->M SV:=cK 1 0 (VdI)
abbrev VdJ:aM->M PF:=(aC (bg 1 (pE "str" hU 1e4 (ak (mC (.str ".")) ao))) (aC (cb (bw cA (ak (aD 2e5 (cB (g1 fG) 5e6) 7e4) ao))) (bj (cj (ak (aD 3e3 3e9 2e6) (ak (aD 3e3 3e9 1e8) (ak (bw eE (ak (aD 3e3 3e9 4e5) ao)) ao)))))))
def fU:List SV->Cs->Prop:=Ex.iS 1 1 (Ex.cz (bg 1 (pE "str" hU 1e4 (ak (mC (.str ".")) ao))) (Ex.i6 (Ex.bZ (ak (aD 2e5 (cB (g1 fG) 5e6) 7e4) ao) cC) (Ex.cz (cb (bw cA (ak (aD 2e5 (cB (g1 fG) 5e6) 7e4) ao))) (Ex.hV (aD 3e3 3e9 2e6) (Ex.hV (aD 3e3 3e9 1e8) (Ex.bZ (ak (aD 3e3 3e9 4e5) ao) bL))))))
def kM:List SV->M SV:=cK 1 1 (VdJ)
abbrev VdH:aM->M PF:=(aC (bx (aH (aD 1e9 (bU 1e4 eB (bz 1e8)) (bh (bQ (ak (mC (.str "after")) ao))))) (bj (cj (ak 2e6 2e4))) bo) (aC (cb (bw cA (ak (aD (g2 pL) 5e2 1e8) ao))) (aC (bg 1 (bw eE 10e0)) (aC (cb (bw cA (ak (aD (g2 pL) 3e9 2e6) ao))) (bj (cj (ak 3e9 (ak (bU 1e4 16e2 eB) ao))))))))
def fT:List SV->Cs->Prop:=Ex.iS 1 1 (Ex.cz (bx (aH (aD 1e9 (bU 1e4 eB (bz 1e8)) (bh (bQ (ak (mC (.str "after")) ao))))) (bj (cj (ak 2e6 2e4))) bo) (Ex.i6 (Ex.bZ (ak (aD (g2 pL) 5e2 1e8) ao) cC) (Ex.cz (cb (bw cA (ak (aD (g2 pL) 5e2 1e8) ao))) (Ex.i6 (Ex.bZ 10e0 bL) (Ex.cz (bg 1 (bw eE 10e0)) (Ex.bZ (ak (aD (g2 pL) 3e9 2e6) ao) cC))))))
def gX:List SV->M SV:=cK 1 1 (VdH)
abbrev xJ:aM->M PF:=(aC (bx (aH (aD 1e9 (bU 1e4 eB (bz 1e8)) (bh (bQ (ak (mC (.str "got")) ao))))) (bj (cj (ak (cj ao) 2e4))) bo) (aC (cb (bw cA (ak (aD (g2 j6) 10e9 1e4) ao))) (aC (bg 1 (pE "list" jj 1e4 (ak 10e9 ao))) (aC (cb (bw cA (ak (aD (g2 pL) 3e9 1e8) ao))) (bj (cj (ak (cB (g1 g9) (ak (bh (br (bu (bU 1e4 (bz 1e8) (bz 3e9))) 13e1 [] 8e6 gq (bw kM 2e4))) ao)) (ak (bU 1e4 (bz 3e9) eB) ao))))))))
def eY:List SV->Cs->Prop:=Ex.iS 1 1 (Ex.cz (bx (aH (aD 1e9 (bU 1e4 eB (bz 1e8)) (bh (bQ (ak (mC (.str "got")) ao))))) (bj (cj (ak (cj ao) 2e4))) bo) (Ex.i6 (Ex.bZ (ak (aD (g2 j6) 10e9 1e4) ao) cC) (Ex.cz (cb (bw cA (ak (aD (g2 j6) 10e9 1e4) ao))) (Ex.cz (bg 1 (pE "list" jj 1e4 (ak 10e9 ao))) (Ex.i6 (Ex.bZ (ak (aD (g2 pL) 3e9 1e8) ao) cC) (Ex.cz (cb (bw cA (ak (aD (g2 pL) 3e9 1e8) ao))) (Ex.Aj (bu (bU 1e4 (bz 1e8) (bz 3e9))) 13e1 [] 8e6 gq (bw kM 2e4) (Ex.bZ 2e4 fU))))))))
def jP:List SV->M SV:=cK 1 1 (xJ)
abbrev xK(aB aA az ay ax aw av au ar:Addr):aM->M PF:=(aC (cb (bw cA (ak (aD (mL aB 5e3 ah) 6e0 (mC (.fn aB))) ao))) (aC (bg 1 (aD (rZ aB 5e3) (mC (.fn aB)) 6e0)) (aC (cb (bw cA (ak (aD 2e5 5e2 (aD 8e5 (cB (g1 (lN 5e4)) 5e6) 1e8)) ao))) (aC (gg 2 (bQ (ak 6e0 ao))) (aC (ix (jg (k7 5e4) (ak 3e9 (ak (bU 1e4 (bz 1e8) eB) ao))) (eP (bf (hName 3) (bf (hName 4) fZ)) 2) (bx (aH (aD 2e5 9e2 11e0)) (cb (bw cA (ak (aD 2e5 6e9 11e0) ao))) (cb (yK 6e1 (ak (ZG (aH (aD 2e5 9e2 (mC (.str "number")))) (bw eE (ak 6e9 ao)) 6e9) ao))))) (bj (cB (g1 g9) 12e3)))))))
def er(aB aA az ay ax aw av au ar:Addr):List SV->Cs->Prop:=Ex.iS 1 4 (Ex.i6 (Ex.bZ (ak (aD (mL aB 5e3 ah) 6e0 (mC (.fn aB))) ao) cC) (Ex.cz (cb (bw cA (ak (aD (mL aB 5e3 ah) 6e0 (mC (.fn aB))) ao))) (Ex.cz (bg 1 (aD (rZ aB 5e3) (mC (.fn aB)) 6e0)) (Ex.i6 (Ex.bZ (ak (aD 2e5 5e2 (aD 8e5 (cB (g1 (lN 5e4)) 5e6) 1e8)) ao) cC) (Ex.cz (cb (bw cA (ak (aD 2e5 5e2 (aD 8e5 (cB (g1 (lN 5e4)) 5e6) 1e8)) ao))) (Ex.sE (gg 2 (bQ (ak 6e0 ao))) (jg (k7 5e4) (ak 3e9 (ak (bU 1e4 (bz 1e8) eB) ao))) (eP (bf (hName 3) (bf (hName 4) fZ)) 2) (bx (aH (aD 2e5 9e2 11e0)) (cb (bw cA (ak (aD 2e5 6e9 11e0) ao))) (cb (yK 6e1 (ak (ZG (aH (aD 2e5 9e2 (mC (.str "number")))) (bw eE (ak 6e9 ao)) 6e9) ao)))) (Ex.i6 (Ex.Lu (aH (aD 2e5 9e2 11e0)) ag (Ex.bZ (ak (aD 2e5 6e9 11e0) ao) cC)) (Ex.Lu (aH (aD 2e5 9e2 11e0)) ah (Ex.Tv 6e1 (Ex.Lu (aH (aD 2e5 9e2 (mC (.str "number")))) ag (Ex.bZ (ak 6e9 ao) bL)))))))))))
def xE(aB aA az ay ax aw av au ar:Addr):List SV->M SV:=cK 1 4 (xK aB aA az ay ax aw av au ar)
abbrev xI(aX bC bF bH bB bI aB aA az ay ax aw av au ar:Addr):aM->M PF:=(aC (bg 1 (bw jO 2e4)) (aC (cb (bw cA (ak (aD (g2 pL) (cB (g1 fG) 5e6) 7e4) ao))) (aC (fQ (aQ 3e9 eB 16e2) (HP (bf (hName 2) (bf (hName 3) fZ)) 2)) (aC (bg 4 (bw eE (ak (aD 3e3 3e9 4e5) ao))) (aC (fQ (bw gX (ak (aQ 3e9 (bz 7e4) eB) ao)) (eP (bf (hName 5) 14e5) 2)) (aC (fQ (bw jP 5e6) (eP (bf (hName 6) 14e5) 2)) (aC (cb (bw cA (ak 13e7 ao))) (aC (bg 7 (cj (ak 6e1 (ak 9e2 (ak 6e9 (ak (aV 5) (ak (aV 6) (ak (bw eE (ak (aQ (aD 3e3 3e9 1e8) eB (bz (jh 1e8))) ao)) (ak (bw 8e7 (ak (aQ 3e9 16e2 eB) ao)) ao))))))))) (aC (cb (bw cA (ak (bw (l5 aX bC bF bH bB bI) (ak (aV 7) ao)) ao))) (bj (aV 7)))))))))))
def dJ(aX bC bF bH bB bI aB aA az ay ax aw av au ar:Addr):List SV->Cs->Prop:=Ex.iS 1 7 (Ex.i6 (Ex.bZ 2e4 gA) (Ex.cz (bg 1 (bw jO 2e4)) (Ex.i6 (Ex.bZ (ak (aD (g2 pL) (cB (g1 fG) 5e6) 7e4) ao) cC) (Ex.cz (cb (bw cA (ak (aD (g2 pL) (cB (g1 fG) 5e6) 7e4) ao))) (Ex.cz (fQ (aQ 3e9 eB 16e2) (HP (bf (hName 2) (bf (hName 3) fZ)) 2)) (Ex.i6 (Ex.bZ (ak (aD 3e3 3e9 4e5) ao) bL) (Ex.cz (bg 4 (bw eE (ak (aD 3e3 3e9 4e5) ao))) (Ex.i6 (Ex.bZ (ak (aQ 3e9 (bz 7e4) eB) ao) fT) (Ex.cz (fQ (bw gX (ak (aQ 3e9 (bz 7e4) eB) ao)) (eP (bf (hName 5) 14e5) 2)) (Ex.i6 (Ex.bZ 5e6 eY) (Ex.cz (fQ (bw jP 5e6) (eP (bf (hName 6) 14e5) 2)) (Ex.i6 (Ex.bZ (ak 13e7 ao) cC) (Ex.cz (cb (bw cA (ak 13e7 ao))) (Ex.i6 (Ex.hV 6e1 (Ex.hV 9e2 (Ex.hV 6e9 (Ex.hV (aV 5) (Ex.hV (aV 6) (Ex.i6 (Ex.bZ (ak (aQ (aD 3e3 3e9 1e8) eB (bz (jh 1e8))) ao) bL) (Ex.hV (bw eE (ak (aQ (aD 3e3 3e9 1e8) eB (bz (jh 1e8))) ao)) (Ex.bZ (ak (aQ 3e9 16e2 eB) ao) (er aB aA az ay ax aw av au ar))))))))) (Ex.cz (bg 7 (cj (ak 6e1 (ak 9e2 (ak 6e9 (ak (aV 5) (ak (aV 6) (ak (bw eE (ak (aQ (aD 3e3 3e9 1e8) eB (bz (jh 1e8))) ao)) (ak (bw 8e7 (ak (aQ 3e9 16e2 eB) ao)) ao))))))))) (Ex.bZ (ak (bw (l5 aX bC bF bH bB bI) (ak (aV 7) ao)) ao) cC))))))))))))))))
def jv(aX bC bF bH bB bI aB aA az ay ax aw av au ar:Addr):List SV->M SV:=cK 1 7 (xI aX bC bF bH bB bI aB aA az ay ax aw av au ar)
abbrev Vd4:aM->M PF:=(aC (bx (aH (aD (g2 Ez) 3e9 5e2)) (bj (aD 3e3 1e4 3e9)) bo) (bj 2e6))
def l8:List SV->M SV:=cK 2 0 (Vd4)
abbrev Vd2:aM->M PF:=(aC (bg 2 (bw l8 (ak 1e4 (ak (aD (g2 jV) 3e9 (cB (g1 Dz) (ak 1e8 (ak 5e2 ao)))) ao)))) (aC (bg 3 (aD (g2 jV) (aD (g2 vF) (aD 8e5 (aD 8e5 (aD (g2 jV) 6e1 (mC (.int 2147483629))) (aD (g2 vF) (aD (g2 vF) (mC (.int 7919)) 3e9) 3e9)) (mC (.int 11))) (mC (.int 48271))) (mC (.int 2147483647)))) (aC (bx (aH (aD 2e5 (aD (g2 jV) (bw l8 (ak 1e4 (ak 2e6 ao))) 4e5) 2e6)) (bg 2 2e6) bo) (vP (bQ (ak (aD (g2 jV) 6e1 (aD (g2 mY) (mC (.int 10)) (mC (.int 40)))) (ak 9e2 ao)))))))
def kg:List SV->M 5e5:=qz 2 2 (Vd2)
abbrev VdX:aM->M PF:=(aC (bx (aH (aD (g2 pL) 6e0 2e6)) (aC (bg 2 (aD (g2 jV) 6e0 3e9)) (aC (fe (aD (g2 Ib) 6e0 3e9) 1e4 2e6) (bj 6e1))) bo) (aC (fe (aD (g2 jV) (aD 8e5 (aD (g2 vF) (aD 3e3 1e4 1e8) (mC (.int 48271))) (mC (.int 12345))) (mC (.int 2147483647))) 1e4 1e8) (bj (aD (g2 jV) (aD (g2 jV) (aD (g2 vF) (aD 3e3 1e4 1e8) (aD 3e3 1e4 1e8)) (mC (.int 1999999973))) 3e9))))
def cL:List SV->M SV:=cK 2 1 (VdX)
abbrev VdY:aM->M PF:=(aC (bg 1 (aD 3e3 (bh (bQ (ak (mC (.int 9)) (ak (mC (.int 100)) (ak (aD (g2 mY) (mC (.int 10)) (mC (.int 27))) (ak (aD (g2 mY) (mC (.int 10)) (mC (.int 28))) ao)))))) 6e7)) (bj (aD 3e3 (bh (bQ (ak (bw cL (ak 1e4 5e6)) (ak (aD (g2 gD) (aD (g2 gD) 3e9 1e8) (bw cL (ak 1e4 (ak 7e4 ao)))) ao)))) (bw cL (ak 1e4 (ak 4e5 ao))))))
def kO:List SV->M SV:=cK 1 1 (VdY)
abbrev Sb:aM->M PF:=(aC (bg 1 (mC 9e7)) (aC (bg 2 (bh (bQ (ak (mC (.str "bell")) (ak 10e9 (ak (mC (.str "got")) (ak (mC (.str "after")) (ak 11e0 (ak (mC (.str "join")) (ak (mC (.str "say")) (ak (mC (.str "do")) (ak (mC (.str "free")) (ak (mC (.str "hand")) (ak (mC (.str "note")) (ak (mC (.str "held")) (ak (mC (.str "twin")) (ak (mC (.str "a")) ao))))))))))))))))) (aC (bg 3 (aD 3e3 (bh (bQ (ak 1e8 (ak 4e5 (ak 7e4 (ak (mC (.int 12)) (ak (aD 8e5 1e8 (bw cL (ak 1e4 (ak (mC (.int 12)) ao)))) ao))))))) (bw cL (ak 1e4 (ak (mC (.int 5)) ao))))) (aC (bg 4 (pE "str" iz 18e2 (ak (bh (br (cN (ak (mC (.int 4)) ao)) ["_law_k"] [1,0] 8e6 gq (aD 3e3 3e9 (bw cL (ak 6e1 (ak (mC (.int 26)) ao)))))) ao))) (bj (aD 3e3 (bh (bQ (ak (mz (aD (g2 qr) 6e9 7e4) eB (bz 9e2)) (ak (aD 3e3 6e1 (bw cL (ak 1e4 (ak (mC (.int 14)) ao)))) ao)))) (cB (g1 iA) (ak (aD 2e5 6e7 2e6) ao))))))))
def oM:List SV->M SV:=cK 1 4 (Sb)
abbrev Vd1:aM->M PF:=(aC (bg 1 (bw oM 2e4)) (aC (bg 2 (bw oM 2e4)) (bj (cj (ak 3e9 (ak 6e1 (ak (aD 8e5 1e8 (aD (g2 jV) (bw kO 2e4) (aD (g2 gD) (aD (g2 mY) (mC (.int 10)) (mC (.int 30))) 1e8))) ao)))))))
def l7:List SV->M SV:=cK 1 2 (Vd1)
abbrev Vd3:aM->M PF:=(aC (bg 1 (bw cL (ak 1e4 (ak (mC (.int 12)) ao)))) (aC (bg 2 (bw cL (ak 1e4 (ak (mC (.int 9)) ao)))) (aC (bg 3 (bw oM 2e4)) (aC (bg 4 (aD 3e3 (bh (bQ (ak 9e2 (ak (mC (.str "belle")) ao)))) (cB (g1 iA) (ak (aD 2e5 9e2 (mC (.str "bell"))) ao)))) (aC (bg 5 (bh (bQ (ak (cj (ak (mC (.str "join")) ao)) (ak (cj (ak (mC (.str "say")) (ak 9e2 ao))) (ak (cj (ak (mC (.str "do")) (ak 3e9 12e3))) (ak (cj (ak (mC (.str "free")) 5e6)) (ak (cj (ak (mC (.str "ready")) 5e6)) (ak (cj (ak (mC (.str "hand")) (ak 3e9 (ak 6e9 ao)))) ao))))))))) (bj (aD 3e3 (aD 8e5 (aV 5) (bh (bQ (ak (cj (ak (mC (.str "quit")) 5e6)) (ak (cj (ak (mC (.str "note")) ao)) ao))))) (bw cL (ak 1e4 (ak (mC (.int 8)) ao))))))))))
def oR:List SV->M SV:=cK 1 5 (Vd3)
abbrev CA:aM->M PF:=(aC (fQ (bw l7 2e4) (eP (bf (hName 1) (bf (hName 2) (bf (hName 3) fZ))) 3)) (aC (bg 4 (aD 3e3 (bh (bQ (ak 2e6 (ak (bw kO 2e4) (ak 2e6 (ak 1e8 ao)))))) 6e7)) (aC (A7 5) (aC (ix (cN (ak (aD 3e3 (bh (bQ (ak 2e6 (ak 1e8 (ak 2e6 (ak 4e5 (ak (mC (.int 7)) (ak (mC (.int 30)) ao)))))))) 15e1) ao)) (hName 6) (aC (bg 7 (bw l7 2e4)) (aC (bx (aH (aD 2e5 (aD (g2 jV) (aV 6) 7e4) 4e5)) (bg 7 (cj (ak (aD 3e3 (aV 7) 2e6) (ak (aD 8e5 6e1 (aD (g2 gO) (mC (.str "b")) (cB (g1 iA) (ak (aD (g2 Ez) (cB (g1 fG) 12e3) (mC (.int 12))) ao)))) (ak (aD 3e3 (aV 7) 4e5) ao))))) bo) (bx (aH (aD 1e9 (bU (aV 7) eB 16e2) (cj (ak 3e9 12e3)))) (mD (mC 10e8) (aV 5) (aV 7)) bo)))) (bj (cj (ak 3e9 (ak 6e1 (ak 9e2 (ak 6e9 (ak (cB (g1 g9) (ak (bh (sW (ak (aV 5) ao))) ao)) (ak (bw kO 2e4) (ak (bw oR 2e4) ao)))))))))))))
def rR:List SV->M SV:=cK 1 7 (CA)
abbrev Vd0:aM->M PF:=(bj (pE "str" iz (mC (.str ".")) (ak (bh (br (bu 1e4) ["_law_part"] [] 8e6 gq (cB (g1 gf) 2e4))) ao)))
def l6:List SV->M SV:=cK 1 0 (Vd0)
abbrev Cz:aM->M PF:=(aC (fQ 1e4 (eP (bf (hName 1) (bf (hName 2) (bf (hName 3) (bf (hName 4) (bf (hName 5) (bf (hName 6) (bf (hName 7) fZ))))))) 7)) (aC (gg 8 (bQ (ak 3e9 (ak 6e1 (ak (cB (g1 gf) (ak 9e2 ao)) ao))))) (aC (bx (aH (aD 1e9 6e9 2e6)) (gg 8 (jJ (aV 8) (bh (bQ (ak (mC (.str "after")) (ak (cB (g1 gf) (ak 6e9 ao)) ao)))))) bo) (aC (bx (aH (aD 1e9 (aV 5) (cj ao))) (gg 8 (jJ (aD 8e5 (aV 8) (bh (bQ (ak (mC (.str "got")) ao)))) (bh (br (bu (aV 5)) 17e0 [] 8e6 gq (bw l6 2e4))))) bo) (aC (gg 8 (jJ (aD 8e5 (aV 8) (bh (bQ (ak 10e9 (ak (aD 8e5 (cB (g1 gf) 15e3) (mC (.str ":"))) ao))))) (bh (br (bu (aV 7)) ["_law_part"] [] 8e6 gq (cB (g1 gf) 2e4))))) (aC (bx (aH (aD 2e5 (aD 3e3 (aV 7) 2e6) (mC (.str "hand")))) (cb (pF (aV 8) (ak (aD (g2 gD) (cB (g1 fG) (ak (aV 8) ao)) 1e8) (ak 11e0 ao)))) bo) (bj (aV 8))))))))
def iN:List SV->M 5e5:=vQ 1 8 (Cz)
abbrev Cw:aM->M PF:=(aC (bg 2 (aD (g2 gO) (mC (.str " ")) (aD 3e3 (bh (bQ (ak 2e6 (ak 1e8 (ak 2e6 (ak 7e4 ao)))))) 6e7))) (aC (ix (A8 5e6) (eP (bf (hName 3) (bf (hName 4) fZ)) 2) (bg 2 (aD 8e5 (aD 8e5 6e1 (aD (g2 gO) (mC (.str " ")) (aD (g2 vF) (cB (g1 iA) (ak (aD (g2 pL) 9e2 2e6) ao)) (aD 3e3 (bh (bQ (ak 1e8 (ak 1e8 (ak 4e5 (ak (mC (.int 4)) ao)))))) 6e7)))) 6e9))) (bj (aD 8e5 6e1 (aD (g2 gO) (mC (.str " ")) (aD 3e3 (bh (bQ (ak 2e6 (ak 2e6 (ak 1e8 (ak 4e5 ao)))))) 6e7))))))
def rP:List SV->M SV:=cK 2 3 (Cw)
def Q9(aX bC bF bH bB bI aB aA az ay ax aw av au ar eV:Addr):List (Addr×(List SV->M SV)):=[(eV,(jv aX bC bF bH bB bI aB aA az ay ax aw av au ar))]
noncomputable def Zcn (aX bC bF bH bB bI aB aA az ay ax aw av au ar eV:Addr):List (Addr×(List SV->Cs->Prop)):=[(eV,(dJ aX bC bF bH bB bI aB aA az ay ax aw av au ar))]
abbrev Cv(aX bC bF bH bB bI aB aA az ay ax aw av au ar eV:Addr):aM->M PF:=(aC (bg 2 11e2) (aC (bg 3 11e2) (aC (bg 2 (k6 0 (Q9 aX bC bF bH bB bI aB aA az ay ax aw av au ar eV) 5e6)) (aC (bx (aH (aD (g2 gv) 9e2 11e2)) (bj (cj (ak (mC (.str "read")) 12e3))) bo) mNo))))
def gY(aX bC bF bH bB bI aB aA az ay ax aw av au ar eV:Addr):List SV->M SV:=Ex.orM (cK 2 3 (Cv aX bC bF bH bB bI aB aA az ay ax aw av au ar eV)) (Ex.qy (Zcn aX bC bF bH bB bI aB aA az ay ax aw av au ar eV))
abbrev Sd(Z:List SV->M SV):aM->M PF:=(aC (bx (eM (cB (g1 gu) (ak 3e9 (ak (mC (.ty "tuple")) ao)))) (aC (bx (dY (dG (eM (cB (g1 gu) (ak 1e4 (ak (mC (.ty "tuple")) ao))))) (aH (aD 1e9 5e2 (cB (g1 fG) 5e6)))) (bj (mC 9e3)) bo) (bj (cB (g1 iC) (ak (bh (br (jg bY (ak 1e4 5e6)) ["_law_one","_law_other"] [] (eP (bf 8e6 14e5) 2) gq (bw Z (ak 1e4 5e6)))) ao)))) bo) (aC (bx (eM (cB (g1 gu) (ak 3e9 17e4))) (bj (dj (cB (g1 gu) (ak 1e4 17e4)) (aD 2e5 1e4 3e9))) bo) (bj (dj (cB (g1 gu) (ak 1e4 (ak (mC (.ty "int")) ao))) (dj (A6 (cB (g1 gu) (ak 1e4 (ak (mC (.ty "bool")) ao)))) (aD 2e5 1e4 3e9))))))
def dU:Nat->List SV->M SV
 |0=>λ_ _=>af
 |n+1=>cK 2 0 (Sd (dU n))
abbrev Se:aM->M PF:=(bj (dj (ji (g2 Ez) (g2 Ez) 2e6 5e2 (mC (.int 13))) (cB (g1 iC) (ak (bh (br (bu 1e4) ["_law_sign"] [] 8e6 gq (aD (g2 j6) 1e4 (mC 9e7)))) ao))))
def jT:List SV->M SV:=cK 1 0 (Se)
abbrev Cu:aM->M PF:=(aC (bx (dY (aH (aD 2e5 1e4 18e2)) (dY (dG (eM (cB (g1 iC) (ak (bh (br (bu 1e4) ["_law_sign"] [] 8e6 gq (aD (g2 j6) 1e4 (mC (.str "0123456789"))))) ao)))) (d8 (aH (aD 1e9 1e4 (mC (.str "0")))) (aH (aD 2e5 6e0 (mC (.str "0"))))))) (bj 11e2) bo) (bj (ZG (aH (ji (g2 Lv) (g2 Lv) 3e9 (cB (g1 iU) 2e4) 6e1)) (cB (g1 iU) 2e4) 11e2)))
def gb:List SV->M SV:=cK 3 0 (Cu)
abbrev VdZ:aM->M PF:=(aC (bx (dY (aH (aD 1e9 5e2 7e4)) (dY (dG (eM (bw jT (ak 6e0 ao)))) (dG (eM (bw jT 10e0))))) (bj 11e2) bo) (aC (bg 1 (bw gb (ak (aD 3e3 1e4 4e5) (ak 1e8 (ak (aD (g2 mY) (mC (.int 10)) (mC (.int 60))) ao))))) (bj (ZG (aH (aD (g2 gv) 3e9 11e2)) 11e2 (cj (ak 6e0 (ak (aD 3e3 1e4 1e8) 5e6)))))))
def i3:List SV->M SV:=cK 1 1 (VdZ)
abbrev Ln:aM->M PF:=(aC (bx (aH (aD (g2 (j7 ah)) 1e4 (cj (ak (bh (bQ (ak (mC (.str "join")) ao))) (ak (bh (bQ (ak (mC (.str "note")) ao))) ao))))) (bj (cj (ak 6e0 ao))) bo) (aC (bx (d8 (aH (aD 2e5 5e2 4e5)) (d8 (aH (aD 2e5 6e0 (mC (.str "say")))) (eM (bw jT 10e0)))) (bj (cj (ak (mC (.str "say")) 10e0))) bo) (aC (bx (dY (aH (aD (g2 jC) 5e2 4e5)) (aH (aD (g2 gv) (bw gb (ak (aD 3e3 1e4 1e8) (ak 2e6 (ak (mC (.int 11)) ao)))) 11e2))) (bj 11e2) bo) (aC (bg 1 (cB (g1 iU) 10e0)) (aC (bx (d8 (aH (aD 2e5 5e2 4e5)) (aH (aD (g2 (j7 ah)) 6e0 (cj (ak (mC (.str "free")) (ak (mC (.str "ready")) (ak (mC (.str "quit")) ao))))))) (bj (cj (ak 6e0 5e6))) bo) (aC (bx (d8 (aH (aD 2e5 5e2 7e4)) (d8 (aH (aD 2e5 6e0 (mC (.str "do")))) (aH (aD (g2 kr) (bw gb (ak (aD 3e3 1e4 4e5) (ak 2e6 (ak (mC (.int 8)) ao)))) 11e2)))) (bj (cj (ak (mC (.str "do")) (ak 3e9 (ak (cB (g1 iU) (ak (aD 3e3 1e4 4e5) ao)) ao))))) bo) (aC (bx (d8 (aH (aD 2e5 5e2 (mC (.int 4)))) (d8 (aH (aD 2e5 (bh (sV 1e4 4e5)) (bh (bQ (ak (mC (.str "hand")) (ak 11e0 ao)))))) (d8 (eM (bw jT (ak (aD 3e3 1e4 7e4) ao))) (aH (aD 1e9 (aD 3e3 1e4 7e4) (mC (.str "bell"))))))) (bj (cj (ak (mC (.str "hand")) (ak 3e9 (ak (aD 3e3 1e4 7e4) ao))))) bo) (bj 11e2))))))))
def oQ:List SV->M SV:=cK 1 1 (Ln)
abbrev Lm:aM->M PF:=(aC (bg 1 (bh (br (kz (ak (mC (.int 4)) (ak 5e2 ao))) ["_law_k"] [0] 8e6 (d8 (aH (aD 2e5 (aQ (aD 3e3 3e9 1e4) (bz (jh 1e8)) eB) (mC (.str ":")))) (aH (aD 2e5 (aD 3e3 3e9 (aD (g2 gD) 1e4 1e8)) 10e9))) 1e4))) (aC (bg 2 (bw i3 (ak (aQ 1e4 eB (bz 7e4)) ao))) (aC (bx (dY (aH (aD 2e5 3e9 (bh (bQ ao)))) (aH (aD (g2 gv) 6e1 11e2))) (bj 11e2) bo) (aC (bg 3 (aD 3e3 3e9 2e6)) (aC (bg 4 (aQ 1e4 (bz 7e4) (bz (aD (g2 gD) 9e2 1e8)))) (aC (bg 5 2e6) (aC (bx (aH (aD 2e5 (aQ 6e9 eB (bz 1e8)) (bh (bQ (ak (mC (.str "after")) ao))))) (aC (bg 5 (bw gb (ak (aD 3e3 (aD 8e5 6e9 (bh (bQ (ak 18e2 ao)))) 1e8) (ak 1e8 (ak (aD (g2 mY) (mC (.int 10)) (mC (.int 60))) ao))))) (bg 4 (aQ 6e9 16e2 eB))) bo) (aC (bg 6 (bh (bQ ao))) (aC (bx (aH (aD 1e9 6e9 (bh (bQ ao)))) (aC (bg 6 (bh (br (bu (aQ 6e9 (bz 1e8) eB)) 13e3 [] 8e6 gq (bw i3 (ak (pE "str" hU 1e4 (ak (mC (.str ".")) ao)) ao))))) (bx (dY (aH (aD 1e9 (aD 3e3 6e9 2e6) (mC (.str "got")))) (dY (aH (aD 2e5 (aV 6) (bh (bQ ao)))) (dY (aH (aD (g2 pL) (cB (g1 fG) 15e3) (mC (.int 30)))) (aH (aD (g2 (j7 ah)) 11e2 (aV 6)))))) (bj 11e2) bo)) bo) (aC (bg 7 (bw gb (ak (aQ (aD 3e3 1e4 9e2) eB (bz (jh 1e8))) (ak 2e6 (ak (aD (g2 mY) (mC (.int 10)) (mC (.int 60))) ao))))) (aC (bg 8 (bw oQ (ak (aQ 1e4 (bz (aD 8e5 9e2 1e8)) eB) ao))) (aC (bx (dY (aH (aD (g2 gv) (aV 5) 11e2)) (dY (aH (aD (g2 gv) (aV 7) 11e2)) (dY (aH (aD (g2 gv) (aV 8) 11e2)) (aH (aD 1e9 (bh (br (bu (aV 6)) ["_law_got"] [2] 8e6 (aH (aD 2e5 (aQ 1e4 eB 16e2) (aQ 3e9 eB 16e2))) 1e4)) (bh (bQ ao))))))) (bj 11e2) bo) (aC (bx (dG (eM (cB (g1 iC) (ak (bh (br (cN (ak (aD (g2 gD) (cB (g1 fG) 15e3) 1e8) ao)) ["_law_k"] [6] 8e6 gq (aD (g2 jC) (aD 3e3 3e9 1e4) (aD 3e3 3e9 (aD 8e5 1e4 1e8))))) ao)))) (bj 11e2) bo) (bj (aD 8e5 6e1 (cj (ak (aV 5) (ak (cB (g1 g9) 15e3) (ak (aV 7) (ak (aV 8) ao))))))))))))))))))))
def oO:List SV->M SV:=cK 1 8 (Lm)
abbrev Cy:aM->M PF:=(aC (gg 2 (pG iN 5e6)) (aC (bg 3 (bw cL (ak 1e4 (ak (mC (.int 10)) ao)))) (aC (bg 4 (bw cL (ak 1e4 (ak (cB (g1 fG) 12e3) ao)))) (aC (bg 5 (bh (bQ (ak (mC (.str "0")) (ak (mC (.str "01")) (ak (mC (.str "-1")) (ak (mC (.str "12")) (ak (mC (.str "9")) (ak 18e2 (ak (mC (.str "x")) (ak (mC (.str "X")) (ak (mC (.str "a1")) (ak (mC (.str "abcdefghijklm")) (ak (mC (.str "bell")) (ak (mC (.str "got")) (ak (mC (.str "after")) (ak 10e9 (ak (mC (.str "5:")) (ak 11e0 ao))))))))))))))))))) (aC (bg 5 (aD 8e5 (aV 5) (bh (bQ (ak (pE "str" iz (mC (.str ".")) (ak (bU 6e1 eB (bz 7e4)) ao)) (ak (mC (.str "a.b")) (ak (mC (.str "a.b.0")) (ak (mC (.str "a.b.c")) (ak (mC (.str "a.b.1.2")) (ak (mC (.str "A.b.1")) (ak (mC (.str "a..1")) (ak (mC (.str "a.b.01")) (ak (aD 3e3 6e1 (jh 1e8)) ao))))))))))))) (aC (bx (aH (aD 2e5 9e2 2e6)) (cb (M5 6e1 (ak 6e9 ao))) (bx (aH (aD 2e5 9e2 1e8)) (cb (pF 6e1 (ak 6e9 (ak (aD 3e3 6e1 6e9) ao)))) (bx (aH (aD 2e5 9e2 4e5)) (A4 (ak (aD 3e3 6e1 (aD (g2 gD) 6e9 1e8)) (ak (aD 3e3 6e1 6e9) ao)) 6e1 6e9 6e1 (aD (g2 gD) 6e9 1e8)) (bx (aH (aD (g2 jC) 9e2 (mC (.int 6)))) (fe (aD 3e3 (aV 5) (bw cL (ak 1e4 (ak (mC (.int 25)) ao)))) 6e1 6e9) (bx (aH (aD 2e5 9e2 (mC (.int 6)))) (cb (pF 6e1 (ak 6e9 (ak (aD 3e3 (aV 5) (bw cL (ak 1e4 (ak (mC (.int 25)) ao)))) ao)))) (bx (aH (aD 2e5 9e2 (mC (.int 7)))) (fe (aD 8e5 (aD 3e3 6e1 6e9) (aD 3e3 (bh (bQ (ak (mC (.str "0")) (ak (mC (.str ":")) (ak (mC (.str ".")) (ak (mC (.str "a")) (ak (mC (.str "\n")) (ak (mC (.str "-")) ao)))))))) 15e1)) 6e1 6e9) (bx (aH (aD 2e5 9e2 (mC (.int 8)))) (fe (aD 8e5 (aD 3e3 (bh (bQ (ak (mC (.str "0")) (ak (mC (.str ":")) (ak (mC (.str ".")) (ak (mC (.str "A")) (ak (mC (.str "\n")) (ak (mC (.str "-")) ao)))))))) 15e1) (aD 3e3 6e1 6e9)) 6e1 6e9) (aC (bg 6 (bh (br (cN (ak (mC (.int 31)) ao)) ["_law_k"] [] 8e6 gq (cj (ak (mC (.str "a")) (ak (mC (.str "zz")) (ak (aD 8e5 1e8 1e4) ao))))))) (bx (aH (aD 1e9 (bU 3e9 eB 16e2) (cj (ak (mC (.str "a")) (ak (mC (.str "zz")) ao))))) (gg 2 (pG iN (ak (aD 8e5 (aD 8e5 (bU 3e9 eB (bz (mC (.int 4)))) (cj (ak (cB (g1 g9) (ak (bU (aV 6) (bz (bw cL (ak 1e4 (ak 4e5 ao)))) eB) ao)) ao))) (bU 3e9 (bz (mC (.int 5))) eB)) ao))) bo))))))))) (bj 6e1)))))))
def rQ:List SV->M SV:=cK 2 5 (Cy)
abbrev CB(aX bC bF bH bB bI aB aA az ay ax aw av au ar eV:Addr):aM->M PF:=(aC (ix (cN (ak (aD 8e5 1e8 (cB (g1 Dy) (ak (mC (.int 30)) (ak 5e2 ao)))) ao)) (hName 1) (aC (gg 2 (pG kg (ak 1e4 5e6))) (aC (bg 3 (bw rQ (ak 6e1 (ak (bw rR 12e3) ao)))) (aC (bg 4 (bw oO (ak (bh (br (bu 9e2) 13e3 [] 8e6 (aH (aD 1e9 1e4 18e2)) 1e4)) ao))) (aC (bg 5 (bw rP (ak 6e1 (ak 9e2 ao)))) (aC (ix (cN (ak 4e5 ao)) (hName 6) (aC (fQ (bw 11e8 (ak (mC (.fn eV)) (ak (aV 5) ao))) (eP (bf (hName 7) (bf (hName 8) fZ)) 2)) (bx (dY (aH (aD 1e9 (aV 7) (aD 3e3 (bh (bQ (ak (mC (.str "read")) (ak (mC (.str "none")) ao)))) (cB (g1 iA) (ak (aD (g2 gv) 6e9 11e2) ao))))) (d8 (aH (aD (g2 kr) 6e9 11e2)) (dG (eM (bw (dU 12) (ak (aV 8) (ak 6e9 ao))))))) (bj (mC 9e3)) bo))) (aC (bg 9 (bh (bQ (ak 18e2 (ak (mC (.str " ")) (ak (mC (.str "\n")) (ak 11e2 (ak (mC (.int 5)) (ak (mC 10e8) (ak 9e2 (ak (cB (g1 g9) (ak 9e2 ao)) (ak nD ao)))))))))))) (bx (aH (aD 1e9 (aD 3e3 (bw 11e8 (ak (mC (.fn eV)) (ak (aD 3e3 (aV 9) (bw cL (ak 6e1 (ak (mC (.int 9)) ao)))) ao))) 2e6) (mC (.str "none")))) (bj (mC 9e3)) bo)))))))) (bj (mC 10e8)))
def Lf(aX bC bF bH bB bI aB aA az ay ax aw av au ar eV:Addr):List SV->M SV:=cK 1 9 (CB aX bC bF bH bB bI aB aA az ay ax aw av au ar eV)
end
structure Txt(mg:Str->Option Value):Prop where
 Ek:∃t,mg "FIGURES"=ae (.str "0123456789" t)
 Oo:∃t,mg "JUDGE"=ae (.str "bell" t)
 oo:∃t,mg "LONGEST_WORD"=ae (.int 12 t)
 oj:∃t,mg "MOST_CLAUSES"=ae (.int 12 t)
 w6:∃t,mg "MOST_GOTS"=ae (.int 30 t)
 tT:∃t,mg "MOST_PARTS"=ae (.int 9 t)
 mf:∃t,mg "SMALL_LETTERS"=ae (.str "abcdefghijklmnopqrstuvwxyz" t)
 tV:mg "ValueError"=af
 kH:mg "all"=af
 Kx:mg "bool"=af
 xi:mg "enumerate"=af
 iX:mg "int"=af
 bK:mg "isinstance"=af
 gV:mg "len"=af
 Vdh:mg "max"=af
 Vdg:mg "min"=af
 iI:mg "range"=af
 Kq:mg "sorted"=af
 q8:mg "str"=af
 fk:mg "tuple"=af
 BK:mg "zip"=af
section
variable{P:Yy}{w:World}{K:W.Frag}{mg:5e1}{base:Heap}
variable{IY IX IV I9 bC bF bH bB bI aX IW IZ Ja I8 cX gU IU nY kF Bx aB aA az ay ax aw av au ar lQ lS lT lU nX Jt Ji Jb Jj Jm Js Jl eV Ju Jc Jk Jr Jn Jp Jo Jg Jq Jf Jd Jh:Addr}{Im Il Ie Iq Ir Ih Ii Ik Ij Ig Io Iu Ip gx Ic nW j8 zd lg lh lj lp nV IQ IC Iv ID IG IP IF ze IS Iw IE IL IH IJ II IA IK Iz Iy IB:WR}
variable(T:Txt mg)(oJ:aO P w K mg base cu 1 IY Im ["thing","least"] (aF K l0))(jf:mg "is_number"=ae (.ref IY))(nK:YD K (.ref IY)=ag)(ow:L2.Binds K Im ["thing","least"] [])(Co:aO P w K mg base cu 2 IX Il ["thing","bound"] (aF K rM))(nu:mg "is_number_below"=ae (.ref IX))(Be:YD K (.ref IX)=ag)(BO:L2.Binds K Il ["thing","bound"] [])(oH:aO P w K mg base cu 1 IV Ie 15e8 (aF K jQ))(je:mg "is_word"=ae (.ref IV))(nJ:YD K (.ref IV)=ag)(ou:L2.Binds K Ie 15e8 [])(rF:aO P w K mg base cu 3 I9 Iq 15e8 (aF K oK))(jH:mg "is_clause_number"=ae (.ref I9))(qG:YD K (.ref I9)=ag)(rg:L2.Binds K Iq 15e8 [])(oB:mg "DEEDS"=ae (.ref aX))(jq:TopD K w aX (ZbB bC bF bH bB bI))(RE:aO P w K mg base cu 1 bC Ir 15e9 (aF K rO))(AN:mg "is_bare"=ae (.ref bC))(Qc:YD K (.ref bC)=ag)(QU:L2.Binds K Ir 15e9 [])(Rz:aO P w K mg base cu 2 bF Ih 15e9 (aF K rH))(AH:mg "is_of_word"=ae (.ref bF))(P8:YD K (.ref bF)=ag)(QO:L2.Binds K Ih 15e9 [])(RA:aO P w K mg base cu 4 bH Ii 15e9 (aF K rJ))(AI:mg "is_of_part"=ae (.ref bH))(P9:YD K (.ref bH)=ag)(QP:L2.Binds K Ii 15e9 [])(RC:aO P w K mg base cu 4 bB Ik 15e9 (aF K rL))(AK:mg "is_of_clause"=ae (.ref bB))(Qa:YD K (.ref bB)=ag)(QR:L2.Binds K Ik 15e9 [])(RB:aO P w K mg base cu 4 bI Ij 15e9 (aF K rK))(AJ:mg "is_of_house"=ae (.ref bI))(P':YD K (.ref bI)=ag)(QQ:L2.Binds K Ij 15e9 [])(rE:aO P w K mg base cu 1 IW Ig ["thing","least","most"] (aF K jR))(jG:mg "is_row_of"=ae (.ref IW))(qF:YD K (.ref IW)=ag)(q9:L2.Binds K Ig ["thing","least","most"] [])(Cp:aO P w K mg base cu 2 IZ Io 15e8 (aF K jS))(ny:mg "is_letter_name"=ae (.ref IZ))(Bf:YD K (.ref IZ)=ag)(BQ:L2.Binds K Io 15e8 [])(RF:aO P w K mg base cu 3 Ja Iu ["thing","house","deal"] (aF K xF))(AO:mg "are_gots"=ae (.ref Ja))(Qd:YD K (.ref Ja)=ag)(QV:L2.Binds K Iu ["thing","house","deal"] [])(RD:aO P w K mg base cu 5 I8 Ip 15e8 (aF K (rN aX bC bF bH bB bI)))(AL:mg "is_deed"=ae (.ref I8))(Qb:YD K (.ref I8)=ag)(QT:L2.Binds K Ip 15e8 [])(XT:Ex.OL P w K mg base "NoLetter" "NoTown" "NoPile" "NoRow" cX)(cF:aO P w K mg base cu 3 gU gx ["holds"] (aF K cA))(bq:mg "need"=ae (.ref gU))(bM:YD K (.ref gU)=ag)(bO:L2.Binds K gx ["holds"] [])(K9:aO P w K mg base cu 1 IU Ic ["line"] (aF K xD))(qx:mg "words_in"=ae (.ref IU))(Hs:YD K (.ref IU)=ag)(Kr:L2.Binds K Ic ["line"] [])(cQ:aO P w K mg base 16e9 3 gU gx ["holds"] (Ex.dC K cX cC))(Cr:aO P w K mg base cu 1 nY nW 13e1 (aF K kN))(nB:mg "is_figures"=ae (.ref nY))(Bh:YD K (.ref nY)=ag)(BS:L2.Binds K nW 13e1 [])(fD:aO P w K mg base cu 4 kF j8 13e1 (aF K eE))(cU:mg "read_number"=ae (.ref kF))(d9:YD K (.ref kF)=ag)(eh:L2.Binds K j8 13e1 [])(cy:aO P w K mg base 16e9 4 kF j8 13e1 (Ex.dC K cX bL))(Ck:aO P w K mg base cu 5 Bx zd 13e1 (aF K kM))(lH:mg "read_name"=ae (.ref Bx))(wc:YD K (.ref Bx)=ag)(xb:L2.Binds K zd 13e1 [])(kL:aO P w K mg base 16e9 5 Bx zd 13e1 (Ex.dC K cX fU))(dh:mg "DEED_FORMS"=ae (.ref aB))(cq:TopD K w aB 5e3)(cp:xx K 5e4)(Ci:aO P w K mg base cu 4 lQ lg ["text"] (aF K jO))(lF:mg "words_of"=ae (.ref lQ))(vZ:YD K (.ref lQ)=ag)(w9:L2.Binds K lg ["text"] [])(Cj:aO P w K mg base cu 5 lS lh 18e3 (aF K gX))(lG:mg "read_prev"=ae (.ref lS))(v9:YD K (.ref lS)=ag)(xa:L2.Binds K lh 18e3 [])(Cm:aO P w K mg base cu 6 lT lj 18e3 (aF K jP))(lI:mg "read_gots"=ae (.ref lT))(we:YD K (.ref lT)=ag)(xc:L2.Binds K lj 18e3 [])(Cn:aO P w K mg base cu 5 lU lp 18e3 (aF K 8e7))(lJ:mg "read_deed"=ae (.ref lU))(wg:YD K (.ref lU)=ag)(xf:L2.Binds K lp 18e3 [])(Cq:aO P w K mg base cu 6 nX nV 15e8 (aF K (l5 aX bC bF bH bB bI)))(nA:mg "is_letter"=ae (.ref nX))(Bg:YD K (.ref nX)=ag)(BR:L2.Binds K nV 15e8 [])(Ld:aO P w K mg base cu 1 Jt IQ 12e1 (aF K l8))(vO:mg "_law_cell_at"=ae (.ref Jt))(Hy:YD K (.ref Jt)=ag)(Kw:L2.Binds K IQ 12e1 [])(iZ:aO P w K mg base cu 1 Ji IC ["_law_left_here","_law_many"] (aF K cL))(eR:mg "_law_pick"=ae (.ref Ji))(iT:YD K (.ref Ji)=ag)(iW:L2.Binds K IC ["_law_left_here","_law_many"] [])(xy:aO P w K mg base cu 2 Jb Iv 7e6 (aF K oM))(lK:mg "_law_word"=ae (.ref Jb))(wj:YD K (.ref Jb)=ag)(xg:L2.Binds K Iv 7e6 [])(xA:aO P w K mg base cu 2 Jj ID 7e6 (aF K kO))(lL:mg "_law_number"=ae (.ref Jj))(wm:YD K (.ref Jj)=ag)(xh:L2.Binds K ID 7e6 [])(Lc:aO P w K mg base cu 3 Jm IG 7e6 (aF K l7))(vM:mg "_law_name"=ae (.ref Jm))(Hv:YD K (.ref Jm)=ag)(Ku:L2.Binds K IG 7e6 [])(RM:aO P w K mg base cu 3 Js IP 7e6 (aF K oR))(A3:mg "_law_deed"=ae (.ref Js))(Ql:YD K (.ref Js)=ag)(Q3:L2.Binds K IP 7e6 [])(RI:aO P w K mg base cu 1 Jl IF 17e0 (aF K l6))(AS:mg "_law_name_text"=ae (.ref Jl))(Qg:YD K (.ref Jl)=ag)(QY:L2.Binds K IF 17e0 [])(K':aO P w K mg base cu 7 eV ze ["text"] (aF K (jv aX bC bF bH bB bI aB aA az ay ax aw av au ar)))(nq:mg "read_letter"=ae (.ref eV))(Bd:YD K (.ref eV)=ag)(BN:L2.Binds K ze ["text"] [])(ju:aO P w K mg base 16e9 7 eV ze ["text"] (Ex.dC K cX (dJ aX bC bF bH bB bI aB aA az ay ax aw av au ar)))(rG:aO P w K mg base cu 1 Ju IS 13e3 (aF K jT))(ku:mg "_law_called"=ae (.ref Ju))(qH:YD K (.ref Ju)=ag)(rh:L2.Binds K IS 13e3 [])(lZ:aO P w K mg base cu 1 Jc Iw 17e6 (aF K gb))(iR:mg "_law_whole"=ae (.ref Jc))(lP:YD K (.ref Jc)=ag)(lX:L2.Binds K Iw 17e6 [])(Lb:aO P w K mg base cu 2 Jk IE ["_law_parts"] (aF K i3))(vL:mg "_law_named"=ae (.ref Jk))(Hu:YD K (.ref Jk)=ag)(Kt:L2.Binds K IE ["_law_parts"] [])(RL:aO P w K mg base cu 2 Jr IL ["_law_words"] (aF K oQ))(AY:mg "_law_done"=ae (.ref Jr))(Qk:YD K (.ref Jr)=ag)(Q2:L2.Binds K IL ["_law_words"] [])(zN:aO P w K mg base cu 2 Jn IH ["_law_letter_here"] (gP K iN))(vN:mg "_law_letter_words"=ae (.ref Jn))(Hw:YD K (.ref Jn)=ag)(Kv:L2.Binds K IH ["_law_letter_here"] [])(Le:aO P w K mg base cu 2 Jp IJ 12e1 (gP K kg))(AV:mg "_law_left"=ae (.ref Jp))(Qi:YD K (.ref Jp)=ag)(Q0:L2.Binds K IJ 12e1 [])(RJ:aO P w K mg base cu 4 Jo II 7e6 (aF K rR))(AU:mg "_law_letter"=ae (.ref Jo))(Qh:YD K (.ref Jo)=ag)(QZ:L2.Binds K II 7e6 [])(RH:aO P w K mg base cu 3 Jg IA ["_law_left_here","_law_letter_here"] (aF K rQ))(AR:mg "_law_spoilt"=ae (.ref Jg))(Qf:YD K (.ref Jg)=ag)(QX:L2.Binds K IA ["_law_left_here","_law_letter_here"] [])(RK:aO P w K mg base cu 3 Jq IK ["_law_words"] (aF K oO))(AX:mg "_law_due"=ae (.ref Jq))(Qj:YD K (.ref Jq)=ag)(Q1:L2.Binds K IK ["_law_words"] [])(RG:aO P w K mg base cu 2 Jf Iz ["_law_left_here","_law_words"] (aF K rP))(AQ:mg "_law_text"=ae (.ref Jf))(Qe:YD K (.ref Jf)=ag)(QW:L2.Binds K Iz ["_law_left_here","_law_words"] [])(La:aO P w K mg base cu 8 Jd Iy ["_law_gone","_law_text_here"] (aF K 11e8))(vK:mg "_law_told"=ae (.ref Jd))(Ht:YD K (.ref Jd)=ag)(Ks:L2.Binds K Iy ["_law_gone","_law_text_here"] [])(Ct:aO P w K mg base cu 13 Jh IB 12e6 (aF K (dU 12)))(jI:mg "_law_same"=ae (.ref Jh))(nM:YD K (.ref Jh)=ag)(ox:L2.Binds K IB 12e6 [])
abbrev O6:Stmt:=top 6
theorem SY:aP ["thing","least"] ["thing","least"] (aK O6):=1e1
include T in
theorem U1(Fn:eD K "is_number" "is_number" O6 aY aL):aO P w K mg base cu 1 aY aL ["thing","least"] (aF K (l0)):=
 ib Fn SY λcdv A outer s H E hr=>(@cZ _ _ _ (@fL _ _ _ _ (kJ (B1 1e0 T.bK 1e0 (@aJ _ _ _ _ _ (aN 0) (@aJ _ _ _ _ _ (OD 1e0 T.iX 1e0) bD 1e0) 1e0)) (kJ (vm (B1 1e0 T.bK 1e0 (@aJ _ _ _ _ _ (aN 0) (@aJ _ _ _ _ _ (OD 1e0 T.Kx 1e0) bD 1e0) 1e0))) (xr (fX Vcm VcV.r (aN 0) (aN 1) 3e8))))))
abbrev O5:Stmt:=top 7
theorem SX:aP ["thing","bound"] ["thing","bound"] (aK O5):=1e1
include T oJ jf nK ow in
theorem U0(Fn:eD K "is_number_below" "is_number_below" O5 aY aL):aO P w K mg base cu 2 aY aL ["thing","bound"] (aF K (rM)):=
 ib Fn SX λcdv A outer s H E hr=>(@cZ _ _ _ (@fL _ _ _ _ (kJ (cP oJ 1e2 1e0 jf nK ow (@aJ _ _ _ _ _ (aN 0) 6e3 1e0)) (xr (fX vt vR.r (aN 0) (aN 1) 3e8)))))
abbrev O0:Stmt:=top 8
theorem SN:aP ["thing","least","most"] ["thing","least","most"] (aK O0):=1e1
include T in
theorem UU(Fn:eD K "is_row_of" "is_row_of" O0 aY aL):aO P w K mg base cu 1 aY aL ["thing","least","most"] (aF K (jR)):=
 ib Fn SN λcdv A outer s H E hr=>(@cZ _ _ _ (@fL _ _ _ _ (kJ (B1 1e0 T.bK 1e0 (@aJ _ _ _ _ _ (aN 0) (@aJ _ _ _ _ _ (OD 1e0 T.fk 1e0) bD 1e0) 1e0)) (xr (ZdS qo qo qD.r qD.r (aN 1) 6e4 (aN 2))))))
abbrev OZ:Stmt:=top 9
theorem SK:aP 15e8 15e8 (aK OZ):=1e1
include T in
theorem UT(Fn:eD K "is_word" "is_word" OZ aY aL):aO P w K mg base cu 1 aY aL 15e8 (aF K (jQ)):=
 ib Fn SK λcdv A outer s H E hr=>(@cD _ _ _ _ _ (@gm _ _ _ _ _ _ _ _ (ub (rj (uC (oX (B1 1e0 T.bK 1e0 (@aJ _ _ _ _ _ (aN 0) 17e2 1e0)))) (ER (uC (ZdQ qo qo qD.r qD.r bW 6e4 (Zb2 1e0 T.oo)))))) 12e7 iK) (@cZ _ _ _ (@fL _ _ _ _ (Oz rfl 1e0 T.kH 1e0 (@aJ _ _ _ _ _ (fK (Ex.b9 (vs:=["sign"]) (fs:=[]) (fr:=[]) 3e1 rfl (zF (aN 0)) (λ_ _ _ _ _=>(eJ (i:=0) (show((["sign"]:List Str)++([]:List Str)).Nodup by decide +kernel) rfl 1e7)) 9e1 (λ_ _ _ _ _=>(fX ZbI nO.r (aN 0) (ZcG 1e0 T.mf) rfl)))) bD 1e0)))))
abbrev Pa:Stmt:=top 12
theorem S4:aP 15e8 15e8 (aK Pa):=1e1
include T Co nu Be BO in
theorem U6(Fn:eD K "is_clause_number" "is_clause_number" Pa aY aL):aO P w K mg base cu 3 aY aL 15e8 (aF K (oK)):=
 ib Fn S4 λcdv A outer s H E hr=>(@cZ _ _ _ (@fL _ _ _ _ (cP Co 1e2 1e0 nu Be BO (@aJ _ _ _ _ _ (aN 0) (@aJ _ _ _ _ _ (Zb2 1e0 T.oj) bD 1e0) 1e0))))
abbrev Pb:Stmt:=top 13
theorem S5:aP 15e9 15e9 (aK Pb):=1e1
include T in
theorem U7(Fn:eD K "is_bare" "is_bare" Pb aY aL):aO P w K mg base cu 1 aY aL 15e9 (aF K (rO)):=
 ib Fn S5 λcdv A outer s H E hr=>(@cZ _ _ _ (@fL _ _ _ _ (fX 4e6 dP.r 6e4 bW 3e8)))
abbrev O1:Stmt:=top 14
theorem SO:aP 15e9 15e9 (aK O1):=1e1
include T oH je nJ ou in
theorem UW(Fn:eD K "is_of_word" "is_of_word" O1 aY aL):aO P w K mg base cu 2 aY aL 15e9 (aF K (rH)):=
 ib Fn SO λcdv A outer s H E hr=>(@cZ _ _ _ (@fL _ _ _ _ (kJ (fX 4e6 dP.r 6e4 bW 3e8) (xr (cP oH 1e2 1e0 je nJ ou 5e9)))))
abbrev O4:Stmt:=top 15
theorem SW:aP 15e9 15e9 (aK O4):=1e1
include T rF jH qG rg in
theorem UZ(Fn:eD K "is_of_clause" "is_of_clause" O4 aY aL):aO P w K mg base cu 4 aY aL 15e9 (aF K (rL)):=
 ib Fn SW λcdv A outer s H E hr=>(@cZ _ _ _ (@fL _ _ _ _ (kJ (fX 4e6 dP.r 6e4 bW 3e8) (xr (cP rF 1e2 1e0 jH qG rg 5e9)))))
abbrev O2:Stmt:=top 16
theorem SQ:aP 15e9 15e9 (aK O2):=1e1
include T Co nu Be BO rF jH qG rg in
theorem UX(Fn:eD K "is_of_part" "is_of_part" O2 aY aL):aO P w K mg base cu 4 aY aL 15e9 (aF K (rJ)):=
 ib Fn SQ λcdv A outer s H E hr=>(@cZ _ _ _ (@fL _ _ _ _ (kJ (fX 4e6 dP.r 6e4 bW 3e8) (kJ (cP rF 1e2 1e0 jH qG rg 5e9) (xr (cP Co 1e2 1e0 nu Be BO (@aJ _ _ _ _ _ 2e1 (@aJ _ _ _ _ _ (Zb2 1e0 T.tT) bD 1e0) 1e0)))))))
abbrev O3:Stmt:=top 17
theorem SU:aP 15e9 15e9 (aK O3):=1e1
include T oH je nJ ou rF jH qG rg in
theorem UY(Fn:eD K "is_of_house" "is_of_house" O3 aY aL):aO P w K mg base cu 4 aY aL 15e9 (aF K (rK)):=
 ib Fn SU λcdv A outer s H E hr=>(@cZ _ _ _ (@fL _ _ _ _ (kJ (fX 4e6 dP.r 6e4 bW 3e8) (kJ (cP rF 1e2 1e0 jH qG rg 5e9) (kJ (cP oH 1e2 1e0 je nJ ou 5e9) (xr (fX 10e7 dP.r 2e1 (ZcG 1e0 T.Oo) 3e8)))))))
abbrev O':Stmt:=top 19
theorem Fx:aP ["thing","fits"] 15e8 (aK O'):=1e1
include T oB jq RE AN Qc QU Rz AH P8 QO RA AI P9 QP RC AK Qa QR RB AJ P' QQ in
theorem U5(Fn:eD K "is_deed" "is_deed" O' aY aL):aO P w K mg base cu 5 aY aL 15e8 (aF K (rN aX bC bF bH bB bI)):=
 ib Fn Fx λcdv A outer s H E hr=>(@cD _ _ _ _ _ (@gm _ _ _ _ _ _ _ _ (ub (rj (uC (oX (B1 1e0 T.bK 1e0 (@aJ _ _ _ _ _ (aN 0) (@aJ _ _ _ _ _ (OD 1e0 T.fk 1e0) bD 1e0) 1e0)))) (rj (uC (oX (aN 0))) (rj (uC (oX (B1 1e0 T.bK 1e0 (@aJ _ _ _ _ _ 2e1 17e2 1e0)))) (ER (eG (vq jq) E3 2e1 (OB 1e0 oB) rfl)))))) 12e7 iK) (@cD _ _ _ _ _ (fu (i:=1) Fx.nd rfl 1e7 (ZcF jq (OB 1e0 oB) 2e1)) (@cZ _ _ _ (@fL _ _ _ _ (ZdT (k:=4) 1 (Qr (λq hq=>by
  erw[En,Ye,Yq,or_false]at hq
  rcases hq with rfl|rfl|rfl|rfl|rfl
  .show#[_,_,RE.mono 2e7,Qc,QU]
  .show#[_,_,Rz.mono 2e7,P8,QO]
  .show#[_,_,RA.mono 2e7,P9,QP]
  .show#[_,_,RC.mono 2e7,Qa,QR]
  .show#[_,_,RB.mono (by decide),P',QQ])) (hr.mono (by decide)) (@aJ _ _ _ _ _ (rl (aN 0) (zE bW) jm) bD (by rfl)))))))
abbrev O7:Stmt:=top 20
theorem S0:aP 15e8 15e8 (aK O7):=1e1
include T oJ jf nK ow oH je nJ ou rE jG qF q9 in
theorem U2(Fn:eD K "is_letter_name" "is_letter_name" O7 aY aL):aO P w K mg base cu 2 aY aL 15e8 (aF K (jS)):=
 ib Fn S0 λcdv A outer s H E hr=>(@cZ _ _ _ (@fL _ _ _ _ (kJ (cP rE 1e2 1e0 jG qF q9 (@aJ _ _ _ _ _ (aN 0) 14e7 1e0)) (kJ (cP oH 1e2 1e0 je nJ ou 5e9) (kJ (cP oH 1e2 1e0 je nJ ou 5e9) (xr (cP oJ 1e2 1e0 jf nK ow (@aJ _ _ _ _ _ 2e1 6e3 1e0))))))))
abbrev Pc:Stmt:=top 21
theorem S6:aP ["thing","house","deal"] ["thing","house","deal"] (aK Pc):=1e1
include T rE jG qF q9 Cp ny Bf BQ in
theorem U8(Fn:eD K "are_gots" "are_gots" Pc aY aL):aO P w K mg base cu 3 aY aL ["thing","house","deal"] (aF K (xF)):=
 ib Fn S6 λcdv A outer s H E hr=>(@cD _ _ _ _ _ (@gm _ _ _ _ _ _ _ _ (ub (rj (uC (oX (cP rE 1e2 1e0 jG qF q9 (@aJ _ _ _ _ _ (aN 0) (@aJ _ _ _ _ _ bW (@aJ _ _ _ _ _ (Zb2 1e0 T.w6) bD 1e0) 1e0) 1e0)))) (ER (uC (oX (Oz rfl 1e0 T.kH 1e0 (@aJ _ _ _ _ _ (fK (Ex.b9 (vs:=["name"]) (fs:=[]) (fr:=[]) 3e1 rfl (zF (aN 0)) (λ_ _ _ _ _=>(eJ (i:=0) (show((["name"]:List Str)++([]:List Str)).Nodup by decide +kernel) rfl 1e7)) 9e1 (λ_ _ _ _ _=>(cP Cp 1e2 1e0 ny Bf BQ 1e6)))) bD 1e0))))))) 12e7 iK) (@cD _ _ _ _ _ (@gm _ _ _ _ _ _ _ _ (uC (oX (Oz rfl 1e0 T.kH 1e0 (@aJ _ _ _ _ _ (fK (Ex.b9 (vs:=["low","high"]) (fs:=[]) (fr:=[]) 3e1 rfl (Pu.ki yd 1e0 T.BK (@aJ _ _ _ _ _ (aN 0) (@aJ _ _ _ _ _ (rl (aN 0) 14e1 jm) bD 1e0) 1e0)) (λ_ _ _ _ _=>(zG rfl (gK (eJ (i:=0) (show((["low","high"]:List Str)++([]:List Str)).Nodup by decide +kernel) rfl 1e7) (gK (eJ (i:=1) (show((["low","high"]:List Str)++([]:List Str)).Nodup by decide +kernel) rfl 1e7) xu)))) 9e1 (λ_ _ _ _ _=>(fX (sM (nR hr)) sX.r (aN 0) (aN 1) 3e8)))) bD 1e0)))) 12e7 iK) (@cZ _ _ _ (@fL _ _ _ _ (Oz rfl 1e0 T.kH 1e0 (@aJ _ _ _ _ _ (fK (Ex.b9 (vs:=["name"]) (fs:=["house","deal"]) (fr:=[1,2]) 3e1 rfl (zF (aN 0)) (λ_ _ _ _ _=>(eJ (i:=0) (show((["name"]:List Str)++(["house","deal"]:List Str)).Nodup by decide +kernel) rfl 1e7)) 9e1 (λ_ _ _ _ _=>(fX 10e7 dP.r (rl (aN 0) jm 14e1) (iY (@aJ _ _ _ _ _ (aN 1) 15e0 1e0)) 3e8)))) bD 1e0))))))
abbrev O8:Stmt:=top 22
theorem Q7:aP ["thing","house","deal","nr","prev","gots","time","deed"] 15e8 (aK O8):=1e1
include T oJ jf nK ow rE jG qF q9 Cp ny Bf BQ RF AO Qd QV RD AL Qb QT in
theorem U3(Fn:eD K "is_letter" "is_letter" O8 aY aL):aO P w K mg base cu 6 aY aL 15e8 (aF K (l5 aX bC bF bH bB bI)):=
 ib Fn Q7 λcdv A outer s H E hr=>(@cD _ _ _ _ _ (@gm _ _ _ _ _ _ _ _ (ub (rj (uC (oX (cP rE 1e2 1e0 jG qF q9 (@aJ _ _ _ _ _ (aN 0) 14e7 1e0)))) (ER (uC (oX (cP Cp 1e2 1e0 ny Bf BQ (@aJ _ _ _ _ _ (rl (aN 0) jm 14e1) bD 1e0))))))) 12e7 iK) (@cD _ _ _ _ _ (LO (aN 0) (zG rfl (gK (eJ (i:=1) Q7.nd rfl 1e7) (gK (eJ (i:=2) Q7.nd rfl 1e7) (gK (eJ (i:=3) Q7.nd rfl 1e7) (gK (eJ (i:=4) Q7.nd rfl 1e7) (gK (eJ (i:=5) Q7.nd rfl 1e7) (gK (eJ (i:=6) Q7.nd rfl 1e7) (gK (eJ (i:=7) Q7.nd rfl 1e7) xu))))))))) (@cZ _ _ _ (@fL _ _ _ _ (kJ (cP oJ 1e2 1e0 jf nK ow (@aJ _ _ _ _ _ (aN 4) 6e3 1e0)) (kJ (cP RF 1e2 1e0 AO Qd QV (@aJ _ _ _ _ _ (aN 5) (@aJ _ _ _ _ _ (aN 1) 15e0 1e0) 1e0)) (kJ (cP oJ 1e2 1e0 jf nK ow (@aJ _ _ _ _ _ (aN 6) 6e3 1e0)) (xr (cP RD 1e2 1e0 AL Qb QT (@aJ _ _ _ _ _ (aN 7) bD 1e0))))))))))
abbrev OY:Stmt:=top 31
theorem SJ:aP ["line"] ["line"] (aK OY):=1e1
include T in
theorem T4(Fn:eD K "words_in" "words_in" OY aY aL):aO P w K mg base cu 1 aY aL ["line"] (aF K (xD)):=
 ib Fn SJ λcdv A outer s H E hr=>(@cZ _ _ _ (qj (Ex.b9 (vs:=13e1) (fs:=[]) (fr:=[]) 3e1 rfl (zF (Zb0 (aN 0) 4e3)) (λ_ _ _ _ _=>(eJ (i:=0) (show((13e1:List Str)++([]:List Str)).Nodup by decide +kernel) rfl 1e7)) (λ_ _ _ _ _=>(Zc1 (oX (aN 0)))) (λ_ _ _ _ _=>(aN 0)))))
abbrev O9:Stmt:=top 32
theorem S3:aP 13e1 13e1 (aK O9):=1e1
include T in
theorem U4(Fn:eD K "is_figures" "is_figures" O9 aY aL):aO P w K mg base cu 1 aY aL 13e1 (aF K (kN)):=
 ib Fn S3 λcdv A outer s H E hr=>(@cZ _ _ _ (@fL _ _ _ _ (Mu (fX 4e6 dP.r (aN 0) cV 3e8) (xr (kJ (fX 10e7 dP.r (aN 0) cV 3e8) (kJ (fX 10e7 dP.r 2e1 cV 3e8) (xr (Oz rfl 1e0 T.kH 1e0 (@aJ _ _ _ _ _ (fK (Ex.b9 (vs:=["sign"]) (fs:=[]) (fr:=[]) 3e1 rfl (zF (aN 0)) (λ_ _ _ _ _=>(eJ (i:=0) (show((["sign"]:List Str)++([]:List Str)).Nodup by decide +kernel) rfl 1e7)) 9e1 (λ_ _ _ _ _=>(fX ZbI nO.r (aN 0) (ZcG 1e0 T.Ek) rfl)))) bD 1e0)))))))))
abbrev FL:Stmt:=top 35
theorem Fw:aP ["holds"] ["holds"] (aK FL):=1e1
include T XT in
theorem G3(Fn:eD K "need" "need" FL aY aL):aO P w K mg base 16e9 3 aY aL ["holds"] (Ex.dC K cX (cC)):=
 Ex.jc Fn Fw λcdv A outer s H E hr=>(Ex.cg (Ex.PD (uC (oX (aN 0))) (Ex.cg (Ex.FY XT.cx 1e2 hr.hd 1e0))))
include T in
theorem UR(Fn:eD K "need" "need" FL aY aL):aO P w K mg base cu 3 aY aL ["holds"] (aF K (cA)):=
 ib Fn Fw λcdv A outer s H E hr=>(@cZ _ _ _ (@gm _ _ _ _ _ _ _ _ (uC (oX (aN 0))) (@cZ _ _ _ yr) iK))
abbrev FD:Stmt:=top 36
theorem Fu:aP ["text"] ["text"] (aK FD):=1e1
include T cF bq bM bO K9 qx Hs Kr cQ in
theorem sN(Fn:eD K "words_of" "words_of" FD aY aL):aO P w K mg base 16e9 4 aY aL ["text"] (Ex.dC K cX (gA)):=
 Ex.jc Fn Fu λcdv A outer s H E hr=>(Ex.cg (Ex.dQ (Ex.bS cQ Ex.ck 1e2 1e0 bq bM bO (@aJ _ _ _ _ _ (B1 1e0 T.bK 1e0 (@aJ _ _ _ _ _ (aN 0) 17e2 1e0)) bD 1e0))))
include T cF bq bM bO K9 qx Hs Kr in
theorem T3(Fn:eD K "words_of" "words_of" FD aY aL):aO P w K mg base cu 4 aY aL ["text"] (aF K (jO)):=
 ib Fn Fu λcdv A outer s H E hr=>(@cD _ _ _ _ _ (kS (cP cF 1e2 1e0 bq bM bO (@aJ _ _ _ _ _ (B1 1e0 T.bK 1e0 (@aJ _ _ _ _ _ (aN 0) 17e2 1e0)) bD 1e0))) (@cZ _ _ _ (@fL _ _ _ _ (cP K9 1e2 1e0 qx Hs Kr 1e6))))
abbrev FF:Stmt:=top 37
theorem Fv:aP 13e1 13e1 (aK FF):=1e1
theorem Zdn{cX:Addr}{nY gU:Addr}{nW gx:WR}(Fn:eD K "read_number" "read_number" FF aY aL)(T:Txt mg)(Cr:aO P w K mg base cu 1 nY nW 13e1 (aF K kN))(nB:mg "is_figures"=ae (.ref nY))(Bh:YD K (.ref nY)=ag)(BS:L2.Binds K nW 13e1 [])(cF:aO P w K mg base cu 3 gU gx ["holds"] (aF K cA))(bq:mg "need"=ae (.ref gU))(bM:YD K (.ref gU)=ag)(bO:L2.Binds K gx ["holds"] [])(cQ:aO P w K mg base 16e9 3 gU gx ["holds"] (Ex.dC K cX cC)):aO P w K mg base 16e9 4 aY aL 13e1 (Ex.dC K cX (bL)):=
 Ex.jc Fn Fv λcdv A outer s H E hr=>(Ex.cg (Ex.dQ (Ex.bS cQ Ex.ck 1e2 1e0 bq bM bO (@aJ _ _ _ _ _ (cP Cr 1e2 1e0 nB Bh BS 1e6) bD 1e0))))
include T cF bq bM bO Cr nB Bh BS in
theorem T6(Fn:eD K "read_number" "read_number" FF aY aL):aO P w K mg base cu 4 aY aL 13e1 (aF K (eE)):=
 ib Fn Fv λcdv A outer s H E hr=>(@cD _ _ _ _ _ (kS (cP cF 1e2 1e0 bq bM bO (@aJ _ _ _ _ _ (cP Cr 1e2 1e0 nB Bh BS 1e6) bD 1e0))) (@cZ _ _ _ (@fL _ _ _ _ (ZbR 1e0 T.iX 1e0 1e6))))
abbrev FH:Stmt:=top 38
theorem sk:aP ["word","parts"] 13e1 (aK FH):=1e1
include T cF bq bM bO cQ fD cU d9 eh cy in
theorem pz(Fn:eD K "read_name" "read_name" FH aY aL):aO P w K mg base 16e9 5 aY aL 13e1 (Ex.dC K cX (fU)):=
 Ex.jc Fn sk λcdv A outer s H E hr=>(Ex.cM (fu (i:=1) sk.nd rfl 1e7 (Zb0 (aN 0) 4e3)) (Ex.gM (Ex.cg (Ex.dQ (Ex.bS cQ Ex.ck 1e2 1e0 bq bM bO (@aJ _ _ _ _ _ (fX 4e6 dP.r (KN 1e0 T.gV 4e0) bW 3e8) bD 1e0)))) (Ex.cM (kS (cP cF 1e2 1e0 bq bM bO (@aJ _ _ _ _ _ (fX 4e6 dP.r (KN 1e0 T.gV 4e0) bW 3e8) bD 1e0))) (Ex.cg (Ex.FX (Ex.yj (Ex.fO 6e5 (Ex.fO 6e5 (Ex.iu (Ex.bS cy Ex.ck 1e2 1e0 cU d9 eh (@aJ _ _ _ _ _ 6e5 bD 1e0)))))))))))
include T cF bq bM bO fD cU d9 eh in
theorem T7(Fn:eD K "read_name" "read_name" FH aY aL):aO P w K mg base cu 5 aY aL 13e1 (aF K (kM)):=
 ib Fn sk λcdv A outer s H E hr=>(@cD _ _ _ _ _ (fu (i:=1) sk.nd rfl 1e7 (Zb0 (aN 0) 4e3)) (@cD _ _ _ _ _ (kS (cP cF 1e2 1e0 bq bM bO (@aJ _ _ _ _ _ (fX 4e6 dP.r (KN 1e0 T.gV 4e0) bW 3e8) bD 1e0))) (@cZ _ _ _ (@fL _ _ _ _ (iY (@aJ _ _ _ _ _ 6e5 (@aJ _ _ _ _ _ 6e5 (@aJ _ _ _ _ _ (cP fD 1e2 1e0 cU d9 eh (@aJ _ _ _ _ _ 6e5 bD 1e0)) bD 1e0) 1e0) 1e0))))))
abbrev FE:Stmt:=top 39
theorem mS:aP ["words","prev"] 18e3 (aK FE):=1e1
include T cF bq bM bO cQ fD cU d9 eh cy in
theorem pw(Fn:eD K "read_prev" "read_prev" FE aY aL):aO P w K mg base 16e9 5 aY aL 18e3 (Ex.dC K cX (fT)):=
 Ex.jc Fn mS λcdv A outer s H E hr=>(Ex.cM (@gm _ _ _ _ _ _ _ _ (eG 10e7 dP.r (rl (aN 0) jm 14e1) (fK (iD 4e3)) 3e8) (@cZ _ _ _ (@fL _ _ _ _ (iY (@aJ _ _ _ _ _ bW 1e6 1e0)))) iK) (Ex.gM (Ex.cg (Ex.dQ (Ex.bS cQ Ex.ck 1e2 1e0 bq bM bO (@aJ _ _ _ _ _ (fX EK EJ.r 6e4 bW 3e8) bD 1e0)))) (Ex.cM (kS (cP cF 1e2 1e0 bq bM bO (@aJ _ _ _ _ _ (fX EK EJ.r 6e4 bW 3e8) bD 1e0))) (Ex.gM (Ex.cg (Ex.sv (i:=1) mS.nd rfl 1e7 (Ex.bS cy Ex.ck 1e2 1e0 cU d9 eh 5e9))) (Ex.cM (fu (i:=1) mS.nd rfl 1e7 (cP fD 1e2 1e0 cU d9 eh 5e9)) (Ex.cg (Ex.dQ (Ex.bS cQ Ex.ck 1e2 1e0 bq bM bO (@aJ _ _ _ _ _ (fX EK EJ.r (aN 1) bW 3e8) bD 1e0)))))))))
include T cF bq bM bO fD cU d9 eh in
theorem T5(Fn:eD K "read_prev" "read_prev" FE aY aL):aO P w K mg base cu 5 aY aL 18e3 (aF K (gX)):=
 ib Fn mS λcdv A outer s H E hr=>(@cD _ _ _ _ _ (@gm _ _ _ _ _ _ _ _ (eG 10e7 dP.r (rl (aN 0) jm 14e1) (fK (iD 4e3)) 3e8) (@cZ _ _ _ (@fL _ _ _ _ (iY (@aJ _ _ _ _ _ bW 1e6 1e0)))) iK) (@cD _ _ _ _ _ (kS (cP cF 1e2 1e0 bq bM bO (@aJ _ _ _ _ _ (fX EK EJ.r 6e4 bW 3e8) bD 1e0))) (@cD _ _ _ _ _ (fu (i:=1) mS.nd rfl 1e7 (cP fD 1e2 1e0 cU d9 eh 5e9)) (@cD _ _ _ _ _ (kS (cP cF 1e2 1e0 bq bM bO (@aJ _ _ _ _ _ (fX EK EJ.r (aN 1) bW 3e8) bD 1e0))) (@cZ _ _ _ (@fL _ _ _ _ (iY (@aJ _ _ _ _ _ (aN 1) (@aJ _ _ _ _ _ (rl (aN 0) 14e1 jm) bD 1e0) 1e0))))))))
abbrev FJ:Stmt:=top 40
theorem so:aP ["words","cut"] 18e3 (aK FJ):=1e1
include T cF bq bM bO cQ Ck lH wc xb kL in
theorem pA(Fn:eD K "read_gots" "read_gots" FJ aY aL):aO P w K mg base 16e9 6 aY aL 18e3 (Ex.dC K cX (eY)):=
 Ex.jc Fn so λcdv A outer s H E hr=>(Ex.cM (@gm _ _ _ _ _ _ _ _ (eG 10e7 dP.r (rl (aN 0) jm 14e1) (fK (iD 4e3)) 3e8) (@cZ _ _ _ (@fL _ _ _ _ (iY (@aJ _ _ _ _ _ (iY bD) 1e6 1e0)))) iK) (Ex.gM (Ex.cg (Ex.dQ (Ex.bS cQ Ex.ck 1e2 1e0 bq bM bO (@aJ _ _ _ _ _ (fX ZbI nO.r cV (aN 0) rfl) bD 1e0)))) (Ex.cM (kS (cP cF 1e2 1e0 bq bM bO (@aJ _ _ _ _ _ (fX ZbI nO.r cV (aN 0) rfl) bD 1e0))) (Ex.cM (fu (i:=1) so.nd rfl 1e7 (ZdR (aN 0) 4e3)) (Ex.gM (Ex.cg (Ex.dQ (Ex.bS cQ Ex.ck 1e2 1e0 bq bM bO (@aJ _ _ _ _ _ (fX EK EJ.r (aN 1) bW 3e8) bD 1e0)))) (Ex.cM (kS (cP cF 1e2 1e0 bq bM bO (@aJ _ _ _ _ _ (fX EK EJ.r (aN 1) bW 3e8) bD 1e0))) (Ex.cg (Ex.FX (Ex.yj (Ex.iu (Ex.Mi 1e0 T.fk 1e0 (Ex.iu (Ex.FZ (vs:=13e1) (fs:=[]) (fr:=[]) 3e1 rfl (zF (rl (aN 0) 14e1 (zE (aN 1)))) (λ_ _ _ _ _=>(eJ (i:=0) (show((13e1:List Str)++([]:List Str)).Nodup by decide +kernel) rfl 1e7)) 9e1 (λ_ _ _ _ _=>(cP Ck 1e2 1e0 lH wc xb 1e6)) (λ_ _ _ _ _=>(Ex.bS kL Ex.tP 1e2 1e0 lH wc xb 1e6)) rfl rfl rfl (λ{_ _ _ _} I=>Ex.xQ I))))))))))))))
include T cF bq bM bO Ck lH wc xb in
theorem T9(Fn:eD K "read_gots" "read_gots" FJ aY aL):aO P w K mg base cu 6 aY aL 18e3 (aF K (jP)):=
 ib Fn so λcdv A outer s H E hr=>(@cD _ _ _ _ _ (@gm _ _ _ _ _ _ _ _ (eG 10e7 dP.r (rl (aN 0) jm 14e1) (fK (iD 4e3)) 3e8) (@cZ _ _ _ (@fL _ _ _ _ (iY (@aJ _ _ _ _ _ (iY bD) 1e6 1e0)))) iK) (@cD _ _ _ _ _ (kS (cP cF 1e2 1e0 bq bM bO (@aJ _ _ _ _ _ (fX ZbI nO.r cV (aN 0) rfl) bD 1e0))) (@cD _ _ _ _ _ (fu (i:=1) so.nd rfl 1e7 (ZdR (aN 0) 4e3)) (@cD _ _ _ _ _ (kS (cP cF 1e2 1e0 bq bM bO (@aJ _ _ _ _ _ (fX EK EJ.r (aN 1) bW 3e8) bD 1e0))) (@cZ _ _ _ (@fL _ _ _ _ (iY (@aJ _ _ _ _ _ (ZbD 1e0 T.fk 1e0 (@aJ _ _ _ _ _ (fK (Ex.b9 (vs:=13e1) (fs:=[]) (fr:=[]) 3e1 rfl (zF (rl (aN 0) 14e1 (zE (aN 1)))) (λ_ _ _ _ _=>(eJ (i:=0) (show((13e1:List Str)++([]:List Str)).Nodup by decide +kernel) rfl 1e7)) 9e1 (λ_ _ _ _ _=>(cP Ck 1e2 1e0 lH wc xb 1e6)))) bD 1e0)) (@aJ _ _ _ _ _ (rl (aN 0) (zE (aN 1)) jm) bD 1e0) 1e0))))))))
abbrev FK:Stmt:=top 41
theorem LM:aP ["words","form","deed","kind","word"] 18e3 (aK FK):=1e1
include T cF bq bM bO cQ fD cU d9 eh cy dh cq cp in
theorem pB(Fn:eD K "read_deed" "read_deed" FK aY aL):aO P w K mg base 16e9 5 aY aL 18e3 (Ex.dC K cX (er aB aA az ay ax aw av au ar)):=
 Ex.jc Fn LM λcdv A outer s H E hr=>(Ex.gM (Ex.cg (Ex.dQ (Ex.bS cQ Ex.ck 1e2 1e0 bq bM bO (@aJ _ _ _ _ _ (fX (nj cq) rY 2e1 (OB 1e0 dh) rfl) bD 1e0)))) (Ex.cM (kS (cP cF 1e2 1e0 bq bM bO (@aJ _ _ _ _ _ (fX (nj cq) rY 2e1 (OB 1e0 dh) rfl) bD 1e0))) (Ex.cM (fu (i:=1) LM.nd rfl 1e7 (ZcF cq (OB 1e0 dh) 2e1)) (Ex.gM (Ex.cg (Ex.dQ (Ex.bS cQ Ex.ck 1e2 1e0 bq bM bO (@aJ _ _ _ _ _ (fX 4e6 dP.r 6e4 (lu (Zdi cp 1e0 T.gV 4e0) bW) 3e8) bD 1e0)))) (Ex.cM (kS (cP cF 1e2 1e0 bq bM bO (@aJ _ _ _ _ _ (fX 4e6 dP.r 6e4 (lu (Zdi cp 1e0 T.gV 4e0) bW) 3e8) bD 1e0))) (Ex.CW (OC (i:=2) LM.nd rfl 1e7 (iD 5e9)) rfl (Pu.ki (λI _=>OW cp I) 1e0 T.BK (@aJ _ _ _ _ _ (aN 1) (@aJ _ _ _ _ _ (rl (aN 0) 14e1 jm) bD 1e0) 1e0)) (zG rfl (gK (eJ (i:=3) LM.nd rfl 1e7) (gK (eJ (i:=4) LM.nd rfl 1e7) xu))) (@cZ _ _ _ (@gm _ _ _ _ _ _ _ _ (eG 4e6 dP.r (aN 3) cV 3e8) (@cZ _ _ _ (kS (cP cF 1e2 1e0 bq bM bO (@aJ _ _ _ _ _ (fX 4e6 dP.r (aN 4) cV 3e8) bD 1e0)))) (@cZ _ _ _ (kS (Zdl (aN 2) (@aJ _ _ _ _ _ (mq (eG 4e6 dP.r (aN 3) cV 3e8) (cP fD 1e2 1e0 cU d9 eh (@aJ _ _ _ _ _ (aN 4) bD 1e0)) (aN 4)) bD 1e0)))))) (Ex.cg (Ex.Tf (Ex.PD (eG 4e6 dP.r (aN 3) cV 3e8) (Ex.cg (Ex.dQ (Ex.bS cQ (Ex.kA rfl) 1e2 1e0 bq bM bO (@aJ _ _ _ _ _ (fX 4e6 dP.r (aN 4) cV 3e8) bD 1e0))))) (Ex.Mj (eG 4e6 dP.r (aN 3) cV 3e8) (Ex.cg (Ex.dQ (Ex.CY (aN 2) (Ex.iu (Ex.Th (eG 4e6 dP.r (aN 3) cV 3e8) (Ex.bS cy (Ex.kA rfl) 1e2 1e0 cU d9 eh (@aJ _ _ _ _ _ (aN 4) bD 1e0)))))))))) rfl rfl rfl (λ{_ _ _ _} I=>Ex.xQ I)))))))
include T cF bq bM bO fD cU d9 eh dh cq cp in
theorem T'(Fn:eD K "read_deed" "read_deed" FK aY aL):aO P w K mg base cu 5 aY aL 18e3 (aF K 8e7):=
 ib Fn LM λcdv A outer s H E hr=>(@cD _ _ _ _ _ (kS (cP cF 1e2 1e0 bq bM bO (@aJ _ _ _ _ _ (fX (nj cq) rY 2e1 (OB 1e0 dh) rfl) bD 1e0))) (@cD _ _ _ _ _ (fu (i:=1) LM.nd rfl 1e7 (ZcF cq (OB 1e0 dh) 2e1)) (@cD _ _ _ _ _ (kS (cP cF 1e2 1e0 bq bM bO (@aJ _ _ _ _ _ (fX 4e6 dP.r 6e4 (lu (Zdi cp 1e0 T.gV 4e0) bW) 3e8) bD 1e0))) (@cD _ _ _ _ _ (OC (i:=2) LM.nd rfl 1e7 (iD 5e9)) (@cD _ _ _ _ _ (Zco Vh rfl (Pu.ki (λI _=>OW cp I) 1e0 T.BK (@aJ _ _ _ _ _ (aN 1) (@aJ _ _ _ _ _ (rl (aN 0) 14e1 jm) bD 1e0) 1e0)) (zG rfl (gK (eJ (i:=3) LM.nd rfl 1e7) (gK (eJ (i:=4) LM.nd rfl 1e7) xu))) (@cZ _ _ _ (@gm _ _ _ _ _ _ _ _ (eG 4e6 dP.r (aN 3) cV 3e8) (@cZ _ _ _ (kS (cP cF 1e2 1e0 bq bM bO (@aJ _ _ _ _ _ (fX 4e6 dP.r (aN 4) cV 3e8) bD 1e0)))) (@cZ _ _ _ (kS (Zdl (aN 2) (@aJ _ _ _ _ _ (mq (eG 4e6 dP.r (aN 3) cV 3e8) (cP fD 1e2 1e0 cU d9 eh (@aJ _ _ _ _ _ (aN 4) bD 1e0)) (aN 4)) bD 1e0))))))) (@cZ _ _ _ (@fL _ _ _ _ (ZbD 1e0 T.fk 1e0 15e0))))))))
abbrev FI:Stmt:=top 42
theorem lr:aP ["text","words","house","deal","nr","prev","gots","letter"] ["text"] (aK FI):=1e1
theorem Zdo{cX:Addr}{lQ gU kF lS lT lU nX aX bC bF bH bB bI aB aA az ay ax aw av au ar:Addr}{lg gx j8 lh lj lp nV:WR}(Fn:eD K "read_letter" "read_letter" FI aY aL)(T:Txt mg)(Ci:aO P w K mg base cu 4 lQ lg ["text"] (aF K jO))(lF:mg "words_of"=ae (.ref lQ))(vZ:YD K (.ref lQ)=ag)(w9:L2.Binds K lg ["text"] [])(cF:aO P w K mg base cu 3 gU gx ["holds"] (aF K cA))(bq:mg "need"=ae (.ref gU))(bM:YD K (.ref gU)=ag)(bO:L2.Binds K gx ["holds"] [])(fD:aO P w K mg base cu 4 kF j8 13e1 (aF K eE))(cU:mg "read_number"=ae (.ref kF))(d9:YD K (.ref kF)=ag)(eh:L2.Binds K j8 13e1 [])(Cj:aO P w K mg base cu 5 lS lh 18e3 (aF K gX))(lG:mg "read_prev"=ae (.ref lS))(v9:YD K (.ref lS)=ag)(xa:L2.Binds K lh 18e3 [])(Cm:aO P w K mg base cu 6 lT lj 18e3 (aF K jP))(lI:mg "read_gots"=ae (.ref lT))(we:YD K (.ref lT)=ag)(xc:L2.Binds K lj 18e3 [])(Cn:aO P w K mg base cu 5 lU lp 18e3 (aF K 8e7))(lJ:mg "read_deed"=ae (.ref lU))(wg:YD K (.ref lU)=ag)(xf:L2.Binds K lp 18e3 [])(Cq:aO P w K mg base cu 6 nX nV 15e8 (aF K (l5 aX bC bF bH bB bI)))(nA:mg "is_letter"=ae (.ref nX))(Bg:YD K (.ref nX)=ag)(BR:L2.Binds K nV 15e8 [])(xB:aO P w K mg base 16e9 4 lQ lg ["text"] (Ex.dC K cX gA))(cQ:aO P w K mg base 16e9 3 gU gx ["holds"] (Ex.dC K cX cC))(cy:aO P w K mg base 16e9 4 kF j8 13e1 (Ex.dC K cX bL))(uj:aO P w K mg base 16e9 5 lS lh 18e3 (Ex.dC K cX fT))(uk:aO P w K mg base 16e9 6 lT lj 18e3 (Ex.dC K cX eY))(uo:aO P w K mg base 16e9 5 lU lp 18e3 (Ex.dC K cX (er aB aA az ay ax aw av au ar))):aO P w K mg base 16e9 7 aY aL ["text"] (Ex.dC K cX (dJ aX bC bF bH bB bI aB aA az ay ax aw av au ar)):=
 Ex.jc Fn lr λcdv A outer s H E hr=>(Ex.gM (Ex.cg (Ex.sv (i:=1) lr.nd rfl 1e7 (Ex.bS xB Ex.ck 1e2 1e0 lF vZ w9 1e6))) (Ex.cM (fu (i:=1) lr.nd rfl 1e7 (cP Ci 1e2 1e0 lF vZ w9 1e6)) (Ex.gM (Ex.cg (Ex.dQ (Ex.bS cQ Ex.ck 1e2 1e0 bq bM bO (@aJ _ _ _ _ _ 17e7 bD 1e0)))) (Ex.cM (kS (cP cF 1e2 1e0 bq bM bO (@aJ _ _ _ _ _ 17e7 bD 1e0))) (Ex.cM (LO (xw (aN 1) jm 14e1) (vj rfl (gK (eJ (i:=2) lr.nd rfl 1e7) (gK (eJ (i:=3) lr.nd rfl 1e7) xu)))) (Ex.gM (Ex.cg (Ex.sv (i:=4) lr.nd rfl 1e7 (Ex.bS cy Ex.ck 1e2 1e0 cU d9 eh (@aJ _ _ _ _ _ 6e5 bD 1e0)))) (Ex.cM (fu (i:=4) lr.nd rfl 1e7 (cP fD 1e2 1e0 cU d9 eh (@aJ _ _ _ _ _ 6e5 bD 1e0))) (Ex.gM (Ex.cg (Ex.F0 (Ex.bS uj Ex.ck 1e2 1e0 lG v9 xa 16e8) (zG rfl (gK (eJ (i:=5) lr.nd rfl 1e7) (gK (eJ (i:=1) lr.nd rfl 1e7) xu))))) (Ex.cM (LO (cP Cj 1e2 1e0 lG v9 xa 16e8) (zG rfl (gK (eJ (i:=5) lr.nd rfl 1e7) (gK (eJ (i:=1) lr.nd rfl 1e7) xu)))) (Ex.gM (Ex.cg (Ex.F0 (Ex.bS uk Ex.ck 1e2 1e0 lI we xc 4e0) (zG rfl (gK (eJ (i:=6) lr.nd rfl 1e7) (gK (eJ (i:=1) lr.nd rfl 1e7) xu))))) (Ex.cM (LO (cP Cm 1e2 1e0 lI we xc 4e0) (zG rfl (gK (eJ (i:=6) lr.nd rfl 1e7) (gK (eJ (i:=1) lr.nd rfl 1e7) xu)))) (Ex.gM (Ex.cg (Ex.dQ (Ex.bS cQ Ex.ck 1e2 1e0 bq bM bO (@aJ _ _ _ _ _ (kJ 17e7 (kJ (fX 4e6 dP.r 6e5 cV 3e8) (xr (Zdk 6e5 4e3)))) bD 1e0)))) (Ex.cM (kS (cP cF 1e2 1e0 bq bM bO (@aJ _ _ _ _ _ (kJ 17e7 (kJ (fX 4e6 dP.r 6e5 cV 3e8) (xr (Zdk 6e5 4e3)))) bD 1e0))) (Ex.gM (Ex.cg (Ex.sv (i:=7) lr.nd rfl 1e7 (Ex.yj (Ex.fO (aN 2) (Ex.fO (aN 3) (Ex.fO (aN 4) (Ex.fO (aN 5) (Ex.fO (aN 6) (Ex.Tg (Ex.iu (Ex.bS cy Ex.ck 1e2 1e0 cU d9 eh (@aJ _ _ _ _ _ (xw 6e5 jm (zE (ZbH bW))) bD 1e0))) (Ex.fO (cP fD 1e2 1e0 cU d9 eh (@aJ _ _ _ _ _ (xw 6e5 jm (zE (ZbH bW))) bD 1e0)) (Ex.iu (Ex.bS uo Ex.ck 1e2 1e0 lJ wg xf 16e8)))))))))))) (Ex.cM (fu (i:=7) lr.nd rfl 1e7 (iY (@aJ _ _ _ _ _ (aN 2) (@aJ _ _ _ _ _ (aN 3) (@aJ _ _ _ _ _ (aN 4) (@aJ _ _ _ _ _ (aN 5) (@aJ _ _ _ _ _ (aN 6) (@aJ _ _ _ _ _ (cP fD 1e2 1e0 cU d9 eh (@aJ _ _ _ _ _ (xw 6e5 jm (zE (ZbH bW))) bD 1e0)) (@aJ _ _ _ _ _ (cP Cn 1e2 1e0 lJ wg xf 16e8) bD 1e0) 1e0) 1e0) 1e0) 1e0) 1e0) 1e0))) (Ex.cg (Ex.dQ (Ex.bS cQ Ex.ck 1e2 1e0 bq bM bO (@aJ _ _ _ _ _ (cP Cq 1e2 1e0 nA Bg BR (@aJ _ _ _ _ _ (aN 7) bD 1e0)) bD 1e0)))))))))))))))))))
include T cF bq bM bO fD cU d9 eh Ci lF vZ w9 Cj lG v9 xa Cm lI we xc Cn lJ wg xf Cq nA Bg BR in
theorem T8(Fn:eD K "read_letter" "read_letter" FI aY aL):aO P w K mg base cu 7 aY aL ["text"] (aF K (jv aX bC bF bH bB bI aB aA az ay ax aw av au ar)):=
 ib Fn lr λcdv A outer s H E hr=>(@cD _ _ _ _ _ (fu (i:=1) lr.nd rfl 1e7 (cP Ci 1e2 1e0 lF vZ w9 1e6)) (@cD _ _ _ _ _ (kS (cP cF 1e2 1e0 bq bM bO (@aJ _ _ _ _ _ 17e7 bD 1e0))) (@cD _ _ _ _ _ (LO (xw (aN 1) jm 14e1) (vj rfl (gK (eJ (i:=2) lr.nd rfl 1e7) (gK (eJ (i:=3) lr.nd rfl 1e7) xu)))) (@cD _ _ _ _ _ (fu (i:=4) lr.nd rfl 1e7 (cP fD 1e2 1e0 cU d9 eh (@aJ _ _ _ _ _ 6e5 bD 1e0))) (@cD _ _ _ _ _ (LO (cP Cj 1e2 1e0 lG v9 xa 16e8) (zG rfl (gK (eJ (i:=5) lr.nd rfl 1e7) (gK (eJ (i:=1) lr.nd rfl 1e7) xu)))) (@cD _ _ _ _ _ (LO (cP Cm 1e2 1e0 lI we xc 4e0) (zG rfl (gK (eJ (i:=6) lr.nd rfl 1e7) (gK (eJ (i:=1) lr.nd rfl 1e7) xu)))) (@cD _ _ _ _ _ (kS (cP cF 1e2 1e0 bq bM bO (@aJ _ _ _ _ _ (kJ 17e7 (kJ (fX 4e6 dP.r 6e5 cV 3e8) (xr (Zdk 6e5 4e3)))) bD 1e0))) (@cD _ _ _ _ _ (fu (i:=7) lr.nd rfl 1e7 (iY (@aJ _ _ _ _ _ (aN 2) (@aJ _ _ _ _ _ (aN 3) (@aJ _ _ _ _ _ (aN 4) (@aJ _ _ _ _ _ (aN 5) (@aJ _ _ _ _ _ (aN 6) (@aJ _ _ _ _ _ (cP fD 1e2 1e0 cU d9 eh (@aJ _ _ _ _ _ (xw 6e5 jm (zE (ZbH bW))) bD 1e0)) (@aJ _ _ _ _ _ (cP Cn 1e2 1e0 lJ wg xf 16e8) bD 1e0) 1e0) 1e0) 1e0) 1e0) 1e0) 1e0))) (@cD _ _ _ _ _ (kS (cP cF 1e2 1e0 bq bM bO (@aJ _ _ _ _ _ (cP Cq 1e2 1e0 nA Bg BR (@aJ _ _ _ _ _ (aN 7) bD 1e0)) bD 1e0))) (@cZ _ _ _ (@fL _ _ _ _ (aN 7))))))))))))
abbrev PB:Stmt:=top 44
theorem Ta:aP 12e1 12e1 (aK PB):=1e1
include T in
theorem Zj(Fn:eD K "_law_cell_at" "_law_cell_at" PB aY aL):aO P w K mg base cu 1 aY aL 12e1 (aF K (l8)):=
 ib Fn Ta λcdv A outer s H E hr=>(@cD _ _ _ _ _ (@gm _ _ _ _ _ _ _ _ (eG vt vR.r (aN 1) 6e4 3e8) (@cZ _ _ _ (@fL _ _ _ _ (iJ 14e6 (aN 0) (aN 1)))) iK) (@cZ _ _ _ (@fL _ _ _ _ bW)))
abbrev Pw:Stmt:=top 45
theorem su:aP ["_law_script","_law_k","_law_cell","_law_seed"] 12e1 (aK Pw):=1e1
include T Ld vO Hy Kw in
theorem MP(Fn:eD K "_law_left" "_law_left" Pw aY aL):aO P w K mg base cu 2 aY aL 12e1 (gP K (kg)):=
 Gv Fn su λcdv A outer s H E hr=>(@cD _ _ _ _ _ (fu (i:=2) su.nd rfl 1e7 (cP Ld 1e2 1e0 vO Hy Kw (@aJ _ _ _ _ _ (aN 0) (@aJ _ _ _ _ _ (KP (aN 1) (Gy rfl 1e0 T.Vdh 1e0 (@aJ _ _ _ _ _ bW (@aJ _ _ _ _ _ 6e4 bD 1e0) 1e0))) bD 1e0) 1e0))) (@cD _ _ _ _ _ (fu (i:=3) su.nd rfl 1e7 (KP (Zb1 (lu (lu (KP (aN 2) bW) (Zb1 (Zb1 bW (aN 1)) (aN 1))) bW) bW) bW)) (@cD _ _ _ _ _ (@gm _ _ _ _ _ _ _ _ (eG 4e6 dP.r (KP (cP Ld 1e2 1e0 vO Hy Kw (@aJ _ _ _ _ _ (aN 0) 6e3 1e0)) bW) bW 3e8) (@cZ _ _ _ (fu (i:=2) su.nd rfl 1e7 bW)) iK) (@cZ _ _ _ (qj (iD (@aJ _ _ _ _ _ (KP (aN 2) (ZbG bW bW)) (@aJ _ _ _ _ _ (aN 3) bD 1e0) 1e0)))))))
abbrev Pj:Stmt:=top 46
theorem Fy:aP ["_law_left_here","_law_many","_law_digit"] ["_law_left_here","_law_many"] (aK Pj):=1e1
include T in
theorem Za(Fn:eD K "_law_pick" "_law_pick" Pj aY aL):aO P w K mg base cu 1 aY aL ["_law_left_here","_law_many"] (aF K (cL)):=
 ib Fn Fy λcdv A outer s H E hr=>(@cD _ _ _ _ _ (@gm _ _ _ _ _ _ _ _ (eG EK EJ.r 2e1 bW 3e8) (@cD _ _ _ _ _ (fu (i:=2) Fy.nd rfl 1e7 (KP 2e1 (aN 1))) (@cD _ _ _ _ _ (ZbC (yw 2e1 (aN 1)) (aN 0) bW) (@cZ _ _ _ (@fL _ _ _ _ (aN 2))))) iK) (@cD _ _ _ _ _ (ZbC (KP (lu (Zb1 2e1 bW) bW) bW) (aN 0) bW) (@cZ _ _ _ (@fL _ _ _ _ (KP (KP (Zb1 2e1 2e1) bW) (aN 1))))))
abbrev Pk:Stmt:=top 47
theorem Fz:aP ["_law_left_here","_law_most"] 7e6 (aK Pk):=1e1
include T iZ eR iT iW in
theorem Zb(Fn:eD K "_law_number" "_law_number" Pk aY aL):aO P w K mg base cu 2 aY aL 7e6 (aF K (kO)):=
 ib Fn Fz λcdv A outer s H E hr=>(@cD _ _ _ _ _ (fu (i:=1) Fz.nd rfl 1e7 (iJ 14e6 (fK (iD (@aJ _ _ _ _ _ bW (@aJ _ _ _ _ _ bW (@aJ _ _ _ _ _ (ZbG bW bW) (@aJ _ _ _ _ _ (ZbG bW bW) bD 1e0) 1e0) 1e0) 1e0))) 1e5)) (@cZ _ _ _ (@fL _ _ _ _ (iJ 14e6 (fK (iD (@aJ _ _ _ _ _ (cP iZ 1e2 1e0 eR iT iW (@aJ _ _ _ _ _ (aN 0) 4e0 1e0)) (@aJ _ _ _ _ _ (OA (OA (aN 1) bW) 1e5) bD 1e0) 1e0))) 1e5))))
abbrev Pe:Stmt:=top 48
theorem mT:aP ["_law_left_here","_law_letters","_law_kept","_law_size","_law_stem"] 7e6 (aK Pe):=1e1
include T iZ eR iT iW in
theorem U9(Fn:eD K "_law_word" "_law_word" Pe aY aL):aO P w K mg base cu 2 aY aL 7e6 (aF K (oM)):=
 ib Fn mT λcdv A outer s H E hr=>(@cD _ _ _ _ _ (fu (i:=1) mT.nd rfl (Or.inr rfl) cV) (@cD _ _ _ _ _ (fu (i:=2) mT.nd rfl 1e7 (fK (iD (@aJ _ _ _ _ _ cV (@aJ _ _ _ _ _ cV (@aJ _ _ _ _ _ cV (@aJ _ _ _ _ _ cV (@aJ _ _ _ _ _ cV (@aJ _ _ _ _ _ cV (@aJ _ _ _ _ _ cV (@aJ _ _ _ _ _ cV 17e5 1e0) 1e0) 1e0) 1e0) 1e0) 1e0) 1e0) 1e0)))) (@cD _ _ _ _ _ (fu (i:=3) mT.nd rfl 1e7 (iJ 14e6 (fK (iD (@aJ _ _ _ _ _ bW (@aJ _ _ _ _ _ bW (@aJ _ _ _ _ _ bW (@aJ _ _ _ _ _ bW (@aJ _ _ _ _ _ (lu bW 1e5) bD 1e0) 1e0) 1e0) 1e0) 1e0))) 1e5)) (@cD _ _ _ _ _ (fu (i:=4) mT.nd rfl 1e7 (Zdj cV (@aJ _ _ _ _ _ (fK (Ex.b9 (vs:=["_law_k"]) (fs:=["_law_letters","_law_left_here"]) (fr:=[1,0]) 3e1 rfl (Zbd 1e0 T.iI 6e3) (λ_ _ _ _ _=>(eJ (i:=0) (show((["_law_k"]:List Str)++(["_law_letters","_law_left_here"]:List Str)).Nodup by decide +kernel) rfl 1e7)) 9e1 (λ_ _ _ _ _=>(iJ 14e6 (aN 1) (cP iZ 1e2 1e0 eR iT iW (@aJ _ _ _ _ _ (aN 2) 6e3 1e0)))))) bD 1e0))) (@cZ _ _ _ (@fL _ _ _ _ (iJ 14e6 (fK (iD (@aJ _ _ _ _ _ (vk (Di (aN 4) bW) jm (zE (aN 3))) (@aJ _ _ _ _ _ (iJ 14e6 (aN 2) 1e5) bD 1e0) 1e0))) (ZbQ 1e0 T.iX 1e0 (@aJ _ _ _ _ _ (fX 4e6 dP.r 1e5 bW 3e8) bD 1e0)))))))))
abbrev Pn:Stmt:=top 49
theorem yi:aP ["_law_left_here","_law_house","_law_deal"] 7e6 (aK Pn):=1e1
include T xy lK wj xg xA lL wm xh in
theorem Ze(Fn:eD K "_law_name" "_law_name" Pn aY aL):aO P w K mg base cu 3 aY aL 7e6 (aF K (l7)):=
 ib Fn yi λcdv A outer s H E hr=>(@cD _ _ _ _ _ (fu (i:=1) yi.nd rfl 1e7 (cP xy 1e2 1e0 lK wj xg 1e6)) (@cD _ _ _ _ _ (fu (i:=2) yi.nd rfl 1e7 (cP xy 1e2 1e0 lK wj xg 1e6)) (@cZ _ _ _ (@fL _ _ _ _ (iY (@aJ _ _ _ _ _ (aN 1) (@aJ _ _ _ _ _ (aN 2) (@aJ _ _ _ _ _ (lu bW (KP (cP xA 1e2 1e0 lL wm xh 1e6) (OA (ZbG bW bW) bW))) bD 1e0) 1e0) 1e0))))))
abbrev Pz:Stmt:=top 50
theorem ZdP:aP ["_law_left_here","_law_c","_law_p","_law_word_here","_law_house","_law_some"] 7e6 (aK Pz):=1e1
include T iZ eR iT iW xy lK wj xg in
theorem Zi(Fn:eD K "_law_deed" "_law_deed" Pz aY aL):aO P w K mg base cu 3 aY aL 7e6 (aF K (oR)):=
 ib Fn ZdP λcdv A outer s H E hr=>(@cD _ _ _ _ _ (fu (i:=1) ZdP.nd rfl 1e7 1e5) (@cD _ _ _ _ _ (fu (i:=2) ZdP.nd rfl 1e7 1e5) (@cD _ _ _ _ _ (fu (i:=3) ZdP.nd rfl 1e7 (cP xy 1e2 1e0 lK wj xg 1e6)) (@cD _ _ _ _ _ (fu (i:=4) ZdP.nd rfl 1e7 (iJ 14e6 (fK (iD (@aJ _ _ _ _ _ (aN 3) 4e3 1e0))) (ZbQ 1e0 T.iX 1e0 (@aJ _ _ _ _ _ (fX 4e6 dP.r (aN 3) cV 3e8) bD 1e0)))) (@cD _ _ _ _ _ (fu (i:=5) ZdP.nd rfl 1e7 (fK (iD (@aJ _ _ _ _ _ (iY 4e3) (@aJ _ _ _ _ _ (iY (@aJ _ _ _ _ _ cV (@aJ _ _ _ _ _ (aN 3) bD 1e0) 1e0)) (@aJ _ _ _ _ _ (iY (@aJ _ _ _ _ _ cV (@aJ _ _ _ _ _ (aN 1) 15e0 1e0) 1e0)) (@aJ _ _ _ _ _ (iY (@aJ _ _ _ _ _ cV 4e0 1e0)) (@aJ _ _ _ _ _ (iY (@aJ _ _ _ _ _ cV 4e0 1e0)) (@aJ _ _ _ _ _ (iY (@aJ _ _ _ _ _ cV (@aJ _ _ _ _ _ (aN 1) (@aJ _ _ _ _ _ (aN 4) bD 1e0) 1e0) 1e0)) bD 1e0) 1e0) 1e0) 1e0) 1e0) 1e0)))) (@cZ _ _ _ (@fL _ _ _ _ (iJ 14e6 (lu (aN 5) (fK (iD (@aJ _ _ _ _ _ (iY (@aJ _ _ _ _ _ cV 4e0 1e0)) (@aJ _ _ _ _ _ (iY 4e3) bD 1e0) 1e0)))) 1e5))))))))
abbrev Pr:Stmt:=top 51
theorem Ov:aP ["_law_left_here","_law_house","_law_deal","_law_number_here","_law_prev","_law_gots","_law_k","_law_name_here"] 7e6 (aK Pr):=1e1
include T iZ eR iT iW xA lL wm xh Lc vM Hv Ku RM A3 Ql Q3 in
theorem Zf(Fn:eD K "_law_letter" "_law_letter" Pr aY aL):aO P w K mg base cu 4 aY aL 7e6 (aF K (rR)):=
 ib Fn Ov λcdv A outer s H E hr=>(@cD _ _ _ _ _ (LO (cP Lc 1e2 1e0 vM Hv Ku 1e6) (zG rfl (gK (eJ (i:=1) Ov.nd rfl 1e7) (gK (eJ (i:=2) Ov.nd rfl 1e7) (gK (eJ (i:=3) Ov.nd rfl 1e7) xu))))) (@cD _ _ _ _ _ (fu (i:=4) Ov.nd rfl 1e7 (iJ 14e6 (fK (iD (@aJ _ _ _ _ _ bW (@aJ _ _ _ _ _ (cP xA 1e2 1e0 lL wm xh 1e6) 14e7 1e0) 1e0))) 1e5)) (@cD _ _ _ _ _ (Dg (n:=5) Ov.nd rfl 1e7) (@cD _ _ _ _ _ (Zco Vh rfl (Zbd 1e0 T.iI (@aJ _ _ _ _ _ (iJ 14e6 (fK (iD (@aJ _ _ _ _ _ bW (@aJ _ _ _ _ _ bW (@aJ _ _ _ _ _ bW (@aJ _ _ _ _ _ bW 14e7 1e0) 1e0) 1e0) 1e0))) 1e5) bD 1e0)) (eJ (i:=6) Ov.nd rfl 1e7) (@cD _ _ _ _ _ (fu (i:=7) Ov.nd rfl 1e7 (cP Lc 1e2 1e0 vM Hv Ku 1e6)) (@cD _ _ _ _ _ (@gm _ _ _ _ _ _ _ _ (eG 4e6 dP.r (KP (aN 6) bW) bW 3e8) (@cZ _ _ _ (fu (i:=7) Ov.nd rfl 1e7 (iY (@aJ _ _ _ _ _ (iJ 14e6 (aN 7) bW) (@aJ _ _ _ _ _ (lu (aN 2) (Zcp cV (ZbQ 1e0 T.iX 1e0 (@aJ _ _ _ _ _ (fX vt vR.r (KN 1e0 T.gV 15e0) bW 3e8) bD 1e0)))) (@aJ _ _ _ _ _ (iJ 14e6 (aN 7) bW) bD 1e0) 1e0) 1e0)))) iK) (@cZ _ _ _ (@gm _ _ _ _ _ _ _ _ (eG 10e7 dP.r (rl (aN 7) jm 14e1) (iY (@aJ _ _ _ _ _ (aN 1) 15e0 1e0)) 3e8) (@cZ _ _ _ (vh (nR hr) Zbs (aN 5) (aN 7))) iK))))) (@cZ _ _ _ (@fL _ _ _ _ (iY (@aJ _ _ _ _ _ (aN 1) (@aJ _ _ _ _ _ (aN 2) (@aJ _ _ _ _ _ (aN 3) (@aJ _ _ _ _ _ (aN 4) (@aJ _ _ _ _ _ (ZbD 1e0 T.fk 1e0 (@aJ _ _ _ _ _ (fK (Pu.xP rfl (nR hr) 1e0 T.Kq 1e0 (@aJ _ _ _ _ _ (aN 5) bD 1e0))) bD 1e0)) (@aJ _ _ _ _ _ (cP xA 1e2 1e0 lL wm xh 1e6) (@aJ _ _ _ _ _ (cP RM 1e2 1e0 A3 Ql Q3 1e6) bD 1e0) 1e0) 1e0) 1e0) 1e0) 1e0) 1e0))))))))
abbrev Pm:Stmt:=top 52
theorem S':aP 17e0 17e0 (aK Pm):=1e1
include T in
theorem Zd(Fn:eD K "_law_name_text" "_law_name_text" Pm aY aL):aO P w K mg base cu 1 aY aL 17e0 (aF K (l6)):=
 ib Fn S' λcdv A outer s H E hr=>(@cZ _ _ _ (@fL _ _ _ _ (Zdj cV (@aJ _ _ _ _ _ (fK (Ex.b9 (vs:=["_law_part"]) (fs:=[]) (fr:=[]) 3e1 rfl (zF (aN 0)) (λ_ _ _ _ _=>(eJ (i:=0) (show((["_law_part"]:List Str)++([]:List Str)).Nodup by decide +kernel) rfl 1e7)) 9e1 (λ_ _ _ _ _=>(ZbP 1e0 T.q8 1e0 1e6)))) bD 1e0))))
abbrev Po:Stmt:=top 53
theorem EO:aP ["_law_letter_here","_law_house","_law_deal","_law_number_here","_law_prev","_law_gots","_law_time","_law_deed_here","_law_words"] ["_law_letter_here"] (aK Po):=1e1
include T RI AS Qg QY in
theorem MO(Fn:eD K "_law_letter_words" "_law_letter_words" Po aY aL):aO P w K mg base cu 2 aY aL ["_law_letter_here"] (gP K (iN)):=
 Gu Fn EO λcdv A outer s H E hr=>(@cD _ _ _ _ _ (LO (aN 0) (zG rfl (gK (eJ (i:=1) EO.nd rfl 1e7) (gK (eJ (i:=2) EO.nd rfl 1e7) (gK (eJ (i:=3) EO.nd rfl 1e7) (gK (eJ (i:=4) EO.nd rfl 1e7) (gK (eJ (i:=5) EO.nd rfl 1e7) (gK (eJ (i:=6) EO.nd rfl 1e7) (gK (eJ (i:=7) EO.nd rfl 1e7) xu))))))))) (@cD _ _ _ _ _ (OC (i:=8) EO.nd rfl 1e7 (iD (@aJ _ _ _ _ _ (aN 1) (@aJ _ _ _ _ _ (aN 2) (@aJ _ _ _ _ _ (ZbP 1e0 T.q8 1e0 (@aJ _ _ _ _ _ (aN 3) bD 1e0)) bD 1e0) 1e0) 1e0))) (@cD _ _ _ _ _ (@gm _ _ _ _ _ _ _ _ (eG 10e7 dP.r (aN 4) bW 3e8) (@cZ _ _ _ (OC (i:=8) EO.nd rfl 1e7 (mX (aN 8) (fK (iD (@aJ _ _ _ _ _ cV (@aJ _ _ _ _ _ (ZbP 1e0 T.q8 1e0 (@aJ _ _ _ _ _ (aN 4) bD 1e0)) bD 1e0) 1e0)))))) iK) (@cD _ _ _ _ _ (@gm _ _ _ _ _ _ _ _ (eG 10e7 dP.r (aN 5) (iY bD) 3e8) (@cZ _ _ _ (OC (i:=8) EO.nd rfl 1e7 (mX (lu (aN 8) (fK (iD 4e3))) (fK (Ex.b9 (vs:=17e0) (fs:=[]) (fr:=[]) 3e1 rfl (zF (aN 5)) (λ_ _ _ _ _=>(eJ (i:=0) (show((17e0:List Str)++([]:List Str)).Nodup by decide +kernel) rfl 1e7)) 9e1 (λ_ _ _ _ _=>(cP RI 1e2 1e0 AS Qg QY 1e6))))))) iK) (@cD _ _ _ _ _ (OC (i:=8) EO.nd rfl 1e7 (mX (lu (aN 8) (fK (iD (@aJ _ _ _ _ _ cV (@aJ _ _ _ _ _ (lu (ZbP 1e0 T.q8 1e0 (@aJ _ _ _ _ _ (aN 6) bD 1e0)) cV) bD 1e0) 1e0)))) (fK (Ex.b9 (vs:=["_law_part"]) (fs:=[]) (fr:=[]) 3e1 rfl (zF (aN 7)) (λ_ _ _ _ _=>(eJ (i:=0) (show((["_law_part"]:List Str)++([]:List Str)).Nodup by decide +kernel) rfl 1e7)) 9e1 (λ_ _ _ _ _=>(ZbP 1e0 T.q8 1e0 1e6)))))) (@cD _ _ _ _ _ (@gm _ _ _ _ _ _ _ _ (eG 4e6 dP.r (iJ 14e6 (aN 7) bW) cV 3e8) (@cZ _ _ _ (kS (Zcf (aN 8) (@aJ _ _ _ _ _ (OA (KN 1e0 T.gV (@aJ _ _ _ _ _ (aN 8) bD 1e0)) bW) 4e3 1e0)))) iK) (@cZ _ _ _ (@fL _ _ _ _ (aN 8)))))))))
abbrev Pg:Stmt:=top 54
theorem mU:aP ["_law_left_here","_law_words","_law_text_here","_law_k","_law_word_here"] ["_law_left_here","_law_words"] (aK Pg):=1e1
include T iZ eR iT iW in
theorem W'(Fn:eD K "_law_text" "_law_text" Pg aY aL):aO P w K mg base cu 2 aY aL ["_law_left_here","_law_words"] (aF K (rP)):=
 ib Fn mU λcdv A outer s H E hr=>(@cD _ _ _ _ _ (fu (i:=2) mU.nd rfl 1e7 (Zcp cV (iJ 14e6 (fK (iD (@aJ _ _ _ _ _ bW (@aJ _ _ _ _ _ bW 14e7 1e0) 1e0))) 1e5))) (@cD _ _ _ _ _ (Zco Vh rfl (Dh 1e0 T.xi 4e0) (zG rfl (gK (eJ (i:=3) mU.nd rfl 1e7) (gK (eJ (i:=4) mU.nd rfl 1e7) xu))) (@cZ _ _ _ (fu (i:=2) mU.nd rfl 1e7 (lu (lu (aN 2) (Zcp cV (Zb1 (ZbQ 1e0 T.iX 1e0 (@aJ _ _ _ _ _ (fX EK EJ.r (aN 3) bW 3e8) bD 1e0)) (iJ 14e6 (fK (iD (@aJ _ _ _ _ _ bW (@aJ _ _ _ _ _ bW 14e7 1e0) 1e0))) 1e5)))) (aN 4))))) (@cZ _ _ _ (@fL _ _ _ _ (lu (aN 2) (Zcp cV (iJ 14e6 (fK (iD (@aJ _ _ _ _ _ bW (@aJ _ _ _ _ _ bW 14e7 1e0) 1e0))) 1e5)))))))
abbrev FN:Stmt:=top 55
theorem ZdO:aP Ex.km ["_law_gone","_law_text_here"] (aK FN):=1e1
include T XT K' nq Bd BN ju in
theorem V'(Fn:eD K "_law_told" "_law_told" FN aY aL):aO P w K mg base cu 8 aY aL ["_law_gone","_law_text_here"] (aF K 11e8):=
 Ex.TR (ib Fn ZdO λcdv A outer s H E hr=>(@cD _ _ _ _ _ (fu (i:=2) ZdO.nd rfl 1e7 xv) (@cD _ _ _ _ _ (fu (i:=3) ZdO.nd rfl 1e7 xv) (@cD _ _ _ _ _ (Ex.Me (i:=2) (λ_=>(ZdT (k:=7) 0 (Qr (λq hq=>by
  erw[Q9,Ye,Yq,or_false]at hq
  rcases hq with rfl
  .show#[_,_,K'.mono (by decide),Bd,BN])) (hr.mono (by decide)) (@aJ _ _ _ _ _ (aN 1) bD (by rfl)))) ZdO.nd rfl rfl) (@cD _ _ _ _ _ (@gm _ _ _ _ _ _ _ _ (eG Ou Q5.r (aN 3) xv (Hb _)) (@cZ _ _ _ (@fL _ _ _ _ (iY (@aJ _ _ _ _ _ cV (@aJ _ _ _ _ _ (aN 2) bD (by rfl)) (by rfl))))) iK) Ex.Vdd))))) (Ex.L6 Fn ZdO λcdv A outer s H E hr=>by
  let#[Ab,a1,a2,a3,z1,z2,z3,z4,z5,z6,z7]:=XT.ct;let#[_,_,_,_,_,z0,_]:=XT.cx;show Ex.xV (k:=7) (Ex.Z9 (λq hq=>by
  erw[Zcn,Ye,Yq,or_false]at hq
  rcases hq with rfl
  .show#[_,_,ju.mono (by decide),Bd,BN])) (hr.mono (by decide)) rfl rfl rfl ZdO.nd (show ∀x∈Ex.km,(aK FN).names.lookup x=ae .local by decide +kernel) (by rfl) z1 z2 (by rfl) T.bK (by rfl) T.tV (by rfl) z0 (by ext W.kitOne;rw[aE (by simp)]) z6 (by rfl) z3 (by rfl) z4 (by rfl) z5 z7)
abbrev FO:Stmt:=top 56
theorem S9:aP 12e6 12e6 (aK FO):=1e1
theorem ZdW{aY:Addr}{aL:WR}(Fn:eD K "_law_same" "_law_same" FO aY aL)(T:Txt mg)(jI:mg "_law_same"=ae (.ref aY))(nM:YD K (.ref aY)=ag)(ox:L2.Binds K aL 12e6 []):∀n:Nat,aO P w K mg base cu (1+n) aY aL 12e6 (aF K (dU n))
 |0=>NJ
 |n+1=>by
  have Ct:=ZdW Fn T jI nM ox n;show ib Fn S9 λcdv A outer s H E hr=>(@cD _ _ _ _ _ (@gm _ _ _ _ _ _ _ _ (oX (B1 1e0 T.bK 1e0 (@aJ _ _ _ _ _ (aN 1) (@aJ _ _ _ _ _ (OD 1e0 T.fk 1e0) bD 1e0) 1e0))) (@cD _ _ _ _ _ (@gm _ _ _ _ _ _ _ _ (ub (rj (uC (oX (B1 1e0 T.bK 1e0 (@aJ _ _ _ _ _ (aN 0) (@aJ _ _ _ _ _ (OD 1e0 T.fk 1e0) bD 1e0) 1e0)))) (ER (eG 10e7 dP.r 6e4 (KN 1e0 T.gV 4e0) 3e8)))) 12e7 iK) (@cZ _ _ _ (@fL _ _ _ _ (Oz rfl 1e0 T.kH 1e0 (@aJ _ _ _ _ _ (fK (Ex.b9 (vs:=["_law_one","_law_other"]) (fs:=[]) (fr:=[]) 3e1 rfl (Pu.ki yd 1e0 T.BK (@aJ _ _ _ _ _ (aN 0) 4e0 1e0)) (λ_ _ _ _ _=>(zG rfl (gK (eJ (i:=0) (show((["_law_one","_law_other"]:List Str)++([]:List Str)).Nodup by decide +kernel) rfl 1e7) (gK (eJ (i:=1) (show((["_law_one","_law_other"]:List Str)++([]:List Str)).Nodup by decide +kernel) rfl 1e7) xu)))) 9e1 (λ_ _ _ _ _=>(cP Ct (hr.mono (by change _<=1+n;lia)) 1e0 jI nM ox (@aJ _ _ _ _ _ (aN 0) 4e0 1e0))))) bD 1e0))))) iK) (@cD _ _ _ _ _ (@gm _ _ _ _ _ _ _ _ (oX (B1 1e0 T.bK 1e0 (@aJ _ _ _ _ _ (aN 1) 17e2 1e0))) (@cZ _ _ _ (@fL _ _ _ _ (kJ (B1 1e0 T.bK 1e0 (@aJ _ _ _ _ _ (aN 0) 17e2 1e0)) (xr (fX 4e6 dP.r (aN 0) (aN 1) 3e8))))) iK) (@cZ _ _ _ (@fL _ _ _ _ (kJ (B1 1e0 T.bK 1e0 (@aJ _ _ _ _ _ (aN 0) (@aJ _ _ _ _ _ (OD 1e0 T.iX 1e0) bD 1e0) 1e0)) (kJ (vm (B1 1e0 T.bK 1e0 (@aJ _ _ _ _ _ (aN 0) (@aJ _ _ _ _ _ (OD 1e0 T.Kx 1e0) bD 1e0) 1e0))) (xr (fX 4e6 dP.r (aN 0) (aN 1) 3e8))))))))
theorem Y'(Fn:eD K "_law_same" "_law_same" FO aY aL)(T:Txt mg)(jI:mg "_law_same"=ae (.ref aY))(nM:YD K (.ref aY)=ag)(ox:L2.Binds K aL 12e6 []):aO P w K mg base cu 13 aY aL 12e6 (aF K (dU 12)):=
 ZdW Fn T jI nM ox 12
abbrev PC:Stmt:=top 57
theorem Tb:aP 13e3 13e3 (aK PC):=1e1
include T in
theorem Zk(Fn:eD K "_law_called" "_law_called" PC aY aL):aO P w K mg base cu 1 aY aL 13e3 (aF K (jT)):=
 ib Fn Tb λcdv A outer s H E hr=>(@cZ _ _ _ (@fL _ _ _ _ (kJ (ZdS vt vt vR.r vR.r bW 6e4 bW) (xr (Oz rfl 1e0 T.kH 1e0 (@aJ _ _ _ _ _ (fK (Ex.b9 (vs:=["_law_sign"]) (fs:=[]) (fr:=[]) 3e1 rfl (zF (aN 0)) (λ_ _ _ _ _=>(eJ (i:=0) (show((["_law_sign"]:List Str)++([]:List Str)).Nodup by decide +kernel) rfl 1e7)) 9e1 (λ_ _ _ _ _=>(fX ZbI nO.r (aN 0) cV rfl)))) bD 1e0))))))
abbrev Pf:Stmt:=top 58
theorem S8:aP 17e6 17e6 (aK Pf):=1e1
include T in
theorem U'(Fn:eD K "_law_whole" "_law_whole" Pf aY aL):aO P w K mg base cu 1 aY aL 17e6 (aF K (gb)):=
 ib Fn S8 λcdv A outer s H E hr=>(@cD _ _ _ _ _ (@gm _ _ _ _ _ _ _ _ (ub (rj (eG 4e6 dP.r (aN 0) cV 3e8) (rj (uC (oX (Oz rfl 1e0 T.kH 1e0 (@aJ _ _ _ _ _ (fK (Ex.b9 (vs:=["_law_sign"]) (fs:=[]) (fr:=[]) 3e1 rfl (zF (aN 0)) (λ_ _ _ _ _=>(eJ (i:=0) (show((["_law_sign"]:List Str)++([]:List Str)).Nodup by decide +kernel) rfl 1e7)) 9e1 (λ_ _ _ _ _=>(fX ZbI nO.r (aN 0) cV rfl)))) bD 1e0)))) (ER (ub (KQ (eG 10e7 dP.r (aN 0) cV 3e8) (Zbr (eG 4e6 dP.r 2e1 cV 3e8)))))))) 16e0 iK) (@cZ _ _ _ (@fL _ _ _ _ (mq (ZdQ qo qo qD.r qD.r (aN 1) (ZbR 1e0 T.iX 1e0 1e6) (aN 2)) (ZbR 1e0 T.iX 1e0 1e6) xv))))
abbrev Pl:Stmt:=top 59
theorem FA:aP ["_law_parts","_law_number_here"] ["_law_parts"] (aK Pl):=1e1
include T rG ku qH rh lZ iR lP lX in
theorem Zc(Fn:eD K "_law_named" "_law_named" Pl aY aL):aO P w K mg base cu 2 aY aL ["_law_parts"] (aF K (i3)):=
 ib Fn FA λcdv A outer s H E hr=>(@cD _ _ _ _ _ (@gm _ _ _ _ _ _ _ _ (ub (rj (eG 10e7 dP.r 6e4 bW 3e8) (rj (uC (oX (cP rG 1e2 1e0 ku qH rh 5e9))) (ER (uC (oX (cP rG 1e2 1e0 ku qH rh 5e9))))))) 16e0 iK) (@cD _ _ _ _ _ (fu (i:=1) FA.nd rfl 1e7 (cP lZ 1e2 1e0 iR lP lX (@aJ _ _ _ _ _ 2e1 (@aJ _ _ _ _ _ bW (@aJ _ _ _ _ _ (ZbG bW bW) bD 1e0) 1e0) 1e0))) (@cZ _ _ _ (@fL _ _ _ _ (mq (eG Ou Q5.r (aN 1) xv 3e8) xv (iY (@aJ _ _ _ _ _ 2e1 (@aJ _ _ _ _ _ 2e1 4e0 1e0) 1e0)))))))
abbrev Py:Stmt:=top 60
theorem FC:aP ["_law_words","_law_c"] ["_law_words"] (aK Py):=1e1
include T rG ku qH rh lZ iR lP lX in
theorem Zh(Fn:eD K "_law_done" "_law_done" Py aY aL):aO P w K mg base cu 2 aY aL ["_law_words"] (aF K (oQ)):=
 ib Fn FC λcdv A outer s H E hr=>(@cD _ _ _ _ _ (@gm _ _ _ _ _ _ _ _ (eG (yB (nR hr)) yR.r (aN 0) (iY (@aJ _ _ _ _ _ (fK (iD 4e3)) (@aJ _ _ _ _ _ (fK (iD 4e3)) bD 1e0) 1e0)) rfl) (@cZ _ _ _ (@fL _ _ _ _ (iY 5e9))) iK) (@cD _ _ _ _ _ (@gm _ _ _ _ _ _ _ _ (ub (KQ (eG 4e6 dP.r 6e4 bW 3e8) (KQ (eG 4e6 dP.r 2e1 cV 3e8) (Zbr (oX (cP rG 1e2 1e0 ku qH rh 5e9)))))) (@cZ _ _ _ (@fL _ _ _ _ (iY (@aJ _ _ _ _ _ cV 5e9 1e0)))) iK) (@cD _ _ _ _ _ (@gm _ _ _ _ _ _ _ _ (ub (rj (eG (sM (nR hr)) sX.r 6e4 bW 3e8) (ER (eG Ou Q5.r (cP lZ 1e2 1e0 iR lP lX (@aJ _ _ _ _ _ 2e1 14e7 1e0)) xv 3e8)))) 16e0 iK) (@cD _ _ _ _ _ (fu (i:=1) FC.nd rfl 1e7 (ZbR 1e0 T.iX 1e0 5e9)) (@cD _ _ _ _ _ (@gm _ _ _ _ _ _ _ _ (ub (KQ (eG 4e6 dP.r 6e4 bW 3e8) (Zbr (eG (yB (nR hr)) yR.r 2e1 (iY (@aJ _ _ _ _ _ cV (@aJ _ _ _ _ _ cV 4e3 1e0) 1e0)) rfl)))) (@cZ _ _ _ (@fL _ _ _ _ (iY (@aJ _ _ _ _ _ 2e1 4e0 1e0)))) iK) (@cD _ _ _ _ _ (@gm _ _ _ _ _ _ _ _ (ub (KQ (eG 4e6 dP.r 6e4 bW 3e8) (KQ (eG 4e6 dP.r 2e1 cV 3e8) (Zbr (eG As Az.r (cP lZ 1e2 1e0 iR lP lX (@aJ _ _ _ _ _ 2e1 14e7 1e0)) xv 3e8))))) (@cZ _ _ _ (@fL _ _ _ _ (iY (@aJ _ _ _ _ _ cV (@aJ _ _ _ _ _ (aN 1) (@aJ _ _ _ _ _ (ZbR 1e0 T.iX 1e0 5e9) bD 1e0) 1e0) 1e0)))) iK) (@cD _ _ _ _ _ (@gm _ _ _ _ _ _ _ _ (ub (KQ (eG 4e6 dP.r 6e4 bW 3e8) (KQ (eG 4e6 dP.r (fK (yt (aN 0) bW)) (fK (iD (@aJ _ _ _ _ _ cV 4e3 1e0))) 3e8) (KQ (oX (cP rG 1e2 1e0 ku qH rh 5e9)) (Zbr (eG 10e7 dP.r 2e1 cV 3e8)))))) (@cZ _ _ _ (@fL _ _ _ _ (iY (@aJ _ _ _ _ _ cV (@aJ _ _ _ _ _ (aN 1) 5e9 1e0) 1e0)))) iK) 16e0)))))))
abbrev Px:Stmt:=top 61
theorem EN:aP ["_law_words","_law_ends","_law_name_here","_law_at","_law_middle","_law_prev","_law_gots","_law_time","_law_deed_here"] ["_law_words"] (aK Px):=1e1
include T lZ iR lP lX Lb vL Hu Kt RL AY Qk Q2 in
theorem Zg(Fn:eD K "_law_due" "_law_due" Px aY aL):aO P w K mg base cu 3 aY aL ["_law_words"] (aF K (oO)):=
 ib Fn EN λcdv A outer s H E hr=>(@cD _ _ _ _ _ (Ex.pQ (i:=1) EN.nd rfl rfl (vs:=["_law_k"]) (fs:=["_law_words"]) (fr:=[0]) 3e1 rfl (vi 1e0 T.iI (@aJ _ _ _ _ _ bW (@aJ _ _ _ _ _ 6e4 bD 1e0) 1e0)) (λ_ _ _ _ _=>(eJ (i:=0) (show((["_law_k"]:List Str)++(["_law_words"]:List Str)).Nodup by decide +kernel) rfl 1e7)) (λ_ _ _ _ _=>(Zc1 (ub (KQ (eG 4e6 dP.r (xw (iJ 14e6 (aN 1) (aN 0)) (zE (ZbH bW)) jm) cV 3e8) (Zbr (eG 4e6 dP.r (iJ 14e6 (aN 1) (OA (aN 0) bW)) cV 3e8)))))) (λ_ _ _ _ _=>(aN 0))) (@cD _ _ _ _ _ (fu (i:=2) EN.nd rfl (Or.inr rfl) (cP Lb 1e2 1e0 vL Hu Kt (@aJ _ _ _ _ _ (xw (aN 0) jm 14e1) bD 1e0))) (@cD _ _ _ _ _ (@gm _ _ _ _ _ _ _ _ (ub (rj (eG 4e6 dP.r (aN 1) (fK (iD bD)) 3e8) (ER (eG Ou Q5.r (aN 2) xv 3e8)))) 16e0 iK) (@cD _ _ _ _ _ (fu (i:=3) EN.nd rfl 1e7 6e5) (@cD _ _ _ _ _ (fu (i:=4) EN.nd rfl 1e7 (xw (aN 0) 14e1 (zE (OA (aN 3) bW)))) (@cD _ _ _ _ _ (fu (i:=5) EN.nd rfl 1e7 bW) (@cD _ _ _ _ _ (@gm _ _ _ _ _ _ _ _ (eG 4e6 dP.r (xw (aN 4) jm 14e1) (fK (iD 4e3)) 3e8) (@cD _ _ _ _ _ (fu (i:=5) EN.nd rfl 1e7 (cP lZ 1e2 1e0 iR lP lX (@aJ _ _ _ _ _ (iJ 14e6 (lu (aN 4) (fK (iD 4e3))) bW) (@aJ _ _ _ _ _ bW (@aJ _ _ _ _ _ (ZbG bW bW) bD 1e0) 1e0) 1e0))) (@cZ _ _ _ (fu (i:=4) EN.nd rfl 1e7 (xw (aN 4) 14e1 jm)))) iK) (@cD _ _ _ _ _ (fu (i:=6) EN.nd rfl (Or.inr rfl) (fK (iD bD))) (@cD _ _ _ _ _ (@gm _ _ _ _ _ _ _ _ (eG 10e7 dP.r (aN 4) (fK (iD bD)) 3e8) (@cD _ _ _ _ _ (fu (i:=6) EN.nd rfl (Or.inr rfl) (fK (Ex.b9 (vs:=13e3) (fs:=[]) (fr:=[]) 3e1 rfl (zF (xw (aN 4) 14e1 jm)) (λ_ _ _ _ _=>(eJ (i:=0) (show((13e3:List Str)++([]:List Str)).Nodup by decide +kernel) rfl 1e7)) 9e1 (λ_ _ _ _ _=>(cP Lb 1e2 1e0 vL Hu Kt (@aJ _ _ _ _ _ (Zb0 (aN 0) 4e3) bD 1e0)))))) (@cZ _ _ _ (@gm _ _ _ _ _ _ _ _ (ub (rj (eG 10e7 dP.r (iJ 14e6 (aN 4) bW) cV 3e8) (rj (eG 4e6 dP.r (aN 6) (fK (iD bD)) 3e8) (rj (eG EK EJ.r (KN 1e0 T.gV (@aJ _ _ _ _ _ (aN 6) bD 1e0)) bW 3e8) (ER (eG (yB (nR hr)) yR.r xv (aN 6) rfl)))))) 16e0 iK))) iK) (@cD _ _ _ _ _ (fu (i:=7) EN.nd rfl 1e7 (cP lZ 1e2 1e0 iR lP lX (@aJ _ _ _ _ _ (xw (iJ 14e6 (aN 0) (aN 3)) jm (zE (ZbH bW))) (@aJ _ _ _ _ _ bW (@aJ _ _ _ _ _ (ZbG bW bW) bD 1e0) 1e0) 1e0))) (@cD _ _ _ _ _ (fu (i:=8) EN.nd rfl 1e7 (cP RL 1e2 1e0 AY Qk Q2 (@aJ _ _ _ _ _ (xw (aN 0) (zE (lu (aN 3) bW)) jm) bD 1e0))) (@cD _ _ _ _ _ (@gm _ _ _ _ _ _ _ _ (ub (rj (eG Ou Q5.r (aN 5) xv 3e8) (rj (eG Ou Q5.r (aN 7) xv 3e8) (rj (eG Ou Q5.r (aN 8) xv 3e8) (ER (eG 10e7 dP.r (fK (Ex.b9 (vs:=["_law_got"]) (fs:=17e0) (fr:=[2]) 3e1 rfl (zF (aN 6)) (λ_ _ _ _ _=>(eJ (i:=0) (show((["_law_got"]:List Str)++(17e0:List Str)).Nodup by decide +kernel) rfl 1e7)) (λ_ _ _ _ _=>(Zc1 (eG 4e6 dP.r (xw (aN 0) jm 14e1) (xw (aN 1) jm 14e1) 3e8))) (λ_ _ _ _ _=>(aN 0)))) (fK (iD bD)) 3e8)))))) 16e0 iK) (@cD _ _ _ _ _ (@gm _ _ _ _ _ _ _ _ (uC (oX (Oz rfl 1e0 T.kH 1e0 (@aJ _ _ _ _ _ (fK (Ex.b9 (vs:=["_law_k"]) (fs:=["_law_gots"]) (fr:=[6]) 3e1 rfl (Zbd 1e0 T.iI (@aJ _ _ _ _ _ (OA (KN 1e0 T.gV (@aJ _ _ _ _ _ (aN 6) bD 1e0)) bW) bD 1e0)) (λ_ _ _ _ _=>(eJ (i:=0) (show((["_law_k"]:List Str)++(["_law_gots"]:List Str)).Nodup by decide +kernel) rfl 1e7)) 9e1 (λ_ _ _ _ _=>(fX (sM (nR hr)) sX.r (iJ 14e6 (aN 1) (aN 0)) (iJ 14e6 (aN 1) (lu (aN 0) bW)) 3e8)))) bD 1e0)))) 16e0 iK) (@cZ _ _ _ (@fL _ _ _ _ (lu (aN 2) (iY (@aJ _ _ _ _ _ (aN 5) (@aJ _ _ _ _ _ (ZbD 1e0 T.fk 1e0 (@aJ _ _ _ _ _ (aN 6) bD 1e0)) (@aJ _ _ _ _ _ (aN 7) (@aJ _ _ _ _ _ (aN 8) bD 1e0) 1e0) 1e0) 1e0))))))))))))))))))
abbrev Ph:Stmt:=top 62
theorem Q6:aP ["_law_left_here","_law_letter_here","_law_words","_law_way","_law_at","_law_some","_law_names"] ["_law_left_here","_law_letter_here"] (aK Ph):=1e1
include T iZ eR iT iW zN vN Hw Kv in
theorem X'(Fn:eD K "_law_spoilt" "_law_spoilt" Ph aY aL):aO P w K mg base cu 3 aY aL ["_law_left_here","_law_letter_here"] (aF K (rQ)):=
 ib Fn Q6 λcdv A outer s H E hr=>(@cD _ _ _ _ _ (OC (i:=2) Q6.nd rfl 1e7 (Zdh zN 1e2 1e0 vN Hw Kv 4e0)) (@cD _ _ _ _ _ (fu (i:=3) Q6.nd rfl 1e7 1e5) (@cD _ _ _ _ _ (fu (i:=4) Q6.nd rfl 1e7 (cP iZ 1e2 1e0 eR iT iW (@aJ _ _ _ _ _ (aN 0) (@aJ _ _ _ _ _ (KN 1e0 T.gV 15e0) bD 1e0) 1e0))) (@cD _ _ _ _ _ (fu (i:=5) Q6.nd rfl 1e7 (fK (iD (@aJ _ _ _ _ _ cV (@aJ _ _ _ _ _ cV (@aJ _ _ _ _ _ cV (@aJ _ _ _ _ _ cV (@aJ _ _ _ _ _ cV (@aJ _ _ _ _ _ cV (@aJ _ _ _ _ _ cV (@aJ _ _ _ _ _ cV (@aJ _ _ _ _ _ cV (@aJ _ _ _ _ _ cV 17e5 1e0) 1e0) 1e0) 1e0) 1e0) 1e0) 1e0) 1e0) 1e0) 1e0)))) (@cD _ _ _ _ _ (fu (i:=5) Q6.nd rfl 1e7 (lu (aN 5) (fK (iD (@aJ _ _ _ _ _ (Zdj cV (@aJ _ _ _ _ _ (rl (aN 2) jm 14e1) bD 1e0)) (@aJ _ _ _ _ _ cV (@aJ _ _ _ _ _ cV (@aJ _ _ _ _ _ cV (@aJ _ _ _ _ _ cV (@aJ _ _ _ _ _ cV (@aJ _ _ _ _ _ cV (@aJ _ _ _ _ _ cV (@aJ _ _ _ _ _ (iJ 14e6 (aN 2) (ZbH bW)) bD 1e0) 1e0) 1e0) 1e0) 1e0) 1e0) 1e0) 1e0) 1e0))))) (@cD _ _ _ _ _ (@gm _ _ _ _ _ _ _ _ (eG 4e6 dP.r (aN 3) bW 3e8) (@cZ _ _ _ (kS (yu (aN 2) (@aJ _ _ _ _ _ (aN 4) bD 1e0)))) (@cZ _ _ _ (@gm _ _ _ _ _ _ _ _ (eG 4e6 dP.r (aN 3) bW 3e8) (@cZ _ _ _ (kS (Zcf (aN 2) (@aJ _ _ _ _ _ (aN 4) (@aJ _ _ _ _ _ (iJ 14e6 (aN 2) (aN 4)) bD 1e0) 1e0)))) (@cZ _ _ _ (@gm _ _ _ _ _ _ _ _ (eG 4e6 dP.r (aN 3) bW 3e8) (@cZ _ _ _ (Df (@aJ _ _ _ _ _ (iJ 14e6 (aN 2) (OA (aN 4) bW)) (@aJ _ _ _ _ _ (iJ 14e6 (aN 2) (aN 4)) bD 1e0) 1e0) (aN 2) (aN 4) (aN 2) (OA (aN 4) bW))) (@cZ _ _ _ (@gm _ _ _ _ _ _ _ _ (eG (sM (nR hr)) sX.r (aN 3) bW 3e8) (@cZ _ _ _ (ZbC (iJ 14e6 (aN 5) 1e5) (aN 2) (aN 4))) (@cZ _ _ _ (@gm _ _ _ _ _ _ _ _ (eG 4e6 dP.r (aN 3) bW 3e8) (@cZ _ _ _ (kS (Zcf (aN 2) (@aJ _ _ _ _ _ (aN 4) (@aJ _ _ _ _ _ (iJ 14e6 (aN 5) 1e5) bD 1e0) 1e0)))) (@cZ _ _ _ (@gm _ _ _ _ _ _ _ _ (eG 4e6 dP.r (aN 3) bW 3e8) (@cZ _ _ _ (ZbC (lu (iJ 14e6 (aN 2) (aN 4)) (iJ 14e6 (fK (iD 17e5)) 1e5)) (aN 2) (aN 4))) (@cZ _ _ _ (@gm _ _ _ _ _ _ _ _ (eG 4e6 dP.r (aN 3) bW 3e8) (@cZ _ _ _ (ZbC (lu (iJ 14e6 (fK (iD 17e5)) 1e5) (iJ 14e6 (aN 2) (aN 4))) (aN 2) (aN 4))) (@cD _ _ _ _ _ (Ex.pQ (i:=6) Q6.nd rfl rfl (vs:=["_law_k"]) (fs:=[]) (fr:=[]) 3e1 rfl (Zbd 1e0 T.iI 6e3) (λ_ _ _ _ _=>(eJ (i:=0) (show((["_law_k"]:List Str)++([]:List Str)).Nodup by decide +kernel) rfl 1e7)) 9e1 (λ_ _ _ _ _=>(iY (@aJ _ _ _ _ _ cV (@aJ _ _ _ _ _ cV (@aJ _ _ _ _ _ (lu bW (aN 0)) bD 1e0) 1e0) 1e0)))) (@cZ _ _ _ (@gm _ _ _ _ _ _ _ _ (eG 10e7 dP.r (rl (aN 1) jm 14e1) (iY (@aJ _ _ _ _ _ cV 4e3 1e0)) 3e8) (@cZ _ _ _ (OC (i:=2) Q6.nd rfl 1e7 (Zdh zN 1e2 1e0 vN Hw Kv (@aJ _ _ _ _ _ (lu (lu (rl (aN 1) jm 14e1) (iY (@aJ _ _ _ _ _ (ZbD 1e0 T.fk 1e0 (@aJ _ _ _ _ _ (rl (aN 6) (zE 1e5) jm) bD 1e0)) bD 1e0))) (rl (aN 1) 14e1 jm)) bD 1e0)))) iK)))))))))))))))) (@cZ _ _ _ (@fL _ _ _ _ (aN 2)))))))))
abbrev qc:Stmt:=top 63
theorem LL:aP ["_law_script","_law_k","_law_left_here","_law_words","_law_due_here","_law_text_here","_law_turn","_law_word_here","_law_found","_law_some"] ["_law_script"] (aK qc):=1e1
include T iZ eR iT iW K' nq Bd BN Le AV Qi Q0 RJ AU Qh QZ RH AR Qf QX RK AX Qj Q1 RG AQ Qe QW La vK Ht Ks Ct jI nM ox in
theorem Zl(Fn:eD K "law" "law" qc aY aL):aO P w K mg base cu 14 aY aL ["_law_script"] (aF K (Lf aX bC bF bH bB bI aB aA az ay ax aw av au ar eV)):=
 ib Fn LL λcdv A outer s H E hr=>(@cD _ _ _ _ _ (Zco Vh rfl (Zbd 1e0 T.iI (@aJ _ _ _ _ _ (lu bW (Gx rfl 1e0 T.Vdg 1e0 (@aJ _ _ _ _ _ bW (@aJ _ _ _ _ _ 6e4 bD 1e0) 1e0))) bD 1e0)) (eJ (i:=1) LL.nd rfl 1e7) (@cD _ _ _ _ _ (OC (i:=2) LL.nd rfl 1e7 (Zdh Le 1e2 1e0 AV Qi Q0 (@aJ _ _ _ _ _ (aN 0) 4e0 1e0))) (@cD _ _ _ _ _ (fu (i:=3) LL.nd rfl 1e7 (cP RH 1e2 1e0 AR Qf QX (@aJ _ _ _ _ _ (aN 2) (@aJ _ _ _ _ _ (cP RJ 1e2 1e0 AU Qh QZ 15e0) bD 1e0) 1e0))) (@cD _ _ _ _ _ (fu (i:=4) LL.nd rfl 1e7 (cP RK 1e2 1e0 AX Qj Q1 (@aJ _ _ _ _ _ (fK (Ex.b9 (vs:=13e3) (fs:=[]) (fr:=[]) 3e1 rfl (zF (aN 3)) (λ_ _ _ _ _=>(eJ (i:=0) (show((13e3:List Str)++([]:List Str)).Nodup by decide +kernel) rfl 1e7)) (λ_ _ _ _ _=>(Zc1 (eG 10e7 dP.r (aN 0) cV 3e8))) (λ_ _ _ _ _=>(aN 0)))) bD 1e0))) (@cD _ _ _ _ _ (fu (i:=5) LL.nd rfl 1e7 (cP RG 1e2 1e0 AQ Qe QW (@aJ _ _ _ _ _ (aN 2) (@aJ _ _ _ _ _ (aN 3) bD 1e0) 1e0))) (@cD _ _ _ _ _ (Zco Vh rfl (Zbd 1e0 T.iI 6e3) (eJ (i:=6) LL.nd rfl 1e7) (@cD _ _ _ _ _ (LO (cP La 1e2 1e0 vK Ht Ks (@aJ _ _ _ _ _ (OB 1e0 nq) (@aJ _ _ _ _ _ (aN 5) bD 1e0) 1e0)) (zG rfl (gK (eJ (i:=7) LL.nd rfl 1e7) (gK (eJ (i:=8) LL.nd rfl 1e7) xu)))) (@cZ _ _ _ (@gm _ _ _ _ _ _ _ _ (ub (rj (eG 10e7 dP.r (aN 7) (iJ 14e6 (fK (iD (@aJ _ _ _ _ _ cV 4e3 1e0))) (ZbQ 1e0 T.iX 1e0 (@aJ _ _ _ _ _ (fX Ou Q5.r (aN 4) xv 3e8) bD 1e0))) 3e8) (ER (ub (KQ (eG As Az.r (aN 4) xv 3e8) (Zbr (uC (oX (cP Ct 1e2 1e0 jI nM ox (@aJ _ _ _ _ _ (aN 8) (@aJ _ _ _ _ _ (aN 4) bD 1e0) 1e0)))))))))) 12e7 iK)))) (@cD _ _ _ _ _ (fu (i:=9) LL.nd rfl 1e7 (fK (iD (@aJ _ _ _ _ _ cV (@aJ _ _ _ _ _ cV (@aJ _ _ _ _ _ cV (@aJ _ _ _ _ _ xv (@aJ _ _ _ _ _ bW (@aJ _ _ _ _ _ Zbs (@aJ _ _ _ _ _ (aN 3) (@aJ _ _ _ _ _ (ZbD 1e0 T.fk 1e0 (@aJ _ _ _ _ _ (aN 3) bD 1e0)) (@aJ _ _ _ _ _ yx bD 1e0) 1e0) 1e0) 1e0) 1e0) 1e0) 1e0) 1e0) 1e0)))) (@cZ _ _ _ (@gm _ _ _ _ _ _ _ _ (eG 10e7 dP.r (iJ 14e6 (cP La 1e2 1e0 vK Ht Ks (@aJ _ _ _ _ _ (OB 1e0 nq) (@aJ _ _ _ _ _ (iJ 14e6 (aN 9) (cP iZ 1e2 1e0 eR iT iW (@aJ _ _ _ _ _ (aN 2) 6e3 1e0))) bD 1e0) 1e0)) bW) cV 3e8) 12e7 iK))))))))) 12e7)
end
local macro_rules
 | `(tactic| simp![$args,*])=>`(tactic| simp[cK,bj,vP,dj,ZF,A6,cB,aD,ji,aH,eM,dG,d8,dY,ZG,bx,aC,bo,bg,cb,cj,bQ,bh,bw,pG,bU,pE,Vcw,nD,Vcv,P6,bP,i7,ak,ao,aV,mC,Pu.ret,g1,g2,gy,cE,gu,HF,tyN,mB,asB,jZ,fin,Sq,fG,Pu.plain,eB,bz,Pu.intD,kY,yh,Nk,tyP,mtD,EG,deS,QM,dnI,$args,*])
local macro_rules
 |`(#[$x])=>`(ae (.v $x))
noncomputable def AZ:Str:="abcdefghijklmnopqrstuvwxyz"
def bc(z:Str):Bool:=decide (1<=(z.length:Int))&&decide ((z.length:Int)<=12)&&z.cps.toList.all AZ.cps.contains
def Vbx:PV->Bool
 |.str z=>bc z
 |_=>ah
noncomputable def oq (i b:Int):Bool:=decide (0<=i)&&decide (i<b)
theorem Zbx(i m:Int)(C:Cs):l0 [.v (.int i),.v (.int m)] C=ae (.v (.bl (decide (m<=i))),C):=by
 simp![l0]
theorem Zby(i b:Int)(C:Cs):rM [.v (.int i),.v (.int b)] C=ae (.v (.bl (oq i b)),C):=by
 have e:=Zbx i 0 C;ext oq;generalize decide (0<=i)=q at *;cases q<;>simp![rM,e]
theorem Zc7{te:3e6}{f:PV->PV}:∀(xs:List PV)(ρ:aM)(ys:List PV)(C:Cs),(∀x∈xs,te (ρ.set 0 #[x]) C=ae (.v (f x),C))->bN 8e6 gq te xs ρ ys C=ae (ys++xs.map f,C)
 |[],ρ,ys,C,_=>by simp[bN,Pu.ret]
 |x::xs,ρ,ys,C,h=>by
  have h1:=h x 3e7;have h2:=Zc7 xs (ρ.set 0 #[x]) (ys++[f x]) C λy hy=>by rw[List.set_set];show h y (by simp[hy])
  simp[bN,hName,bP,gq,Pu.ret,h1,h2]
theorem ZcA{α:Type}(g:α->Bool):∀l:List α,iH (l.map λc=>PV.bl (g c))=ae (l.map g)
 |[]=>rfl
 |a::l=>by simp[iH,ZcA g l]
theorem Zdb(c:Nat)(z:Str):pV 6e6 z=z.cps.toList.contains c:=by
 ext pV;rw[PySem.StrLaws.found_one];simp
theorem jw:AZ.cps.toList.contains=AZ.cps.contains:=by
 funext c;simp
theorem Zb6(z:Str)(C:Cs):jQ [.v (.str z)] C=ae (.v (.bl (bc z)),C):=by
 by_cases h1:1<=(z.length:Int)
 .by_cases h2:(z.length:Int)<=12
  .have hl:z.cps.size<=100000:=by
    have:z.cps.size=z.length:=rfl;lia
   unfold jQ R9;generalize hte:aD (g2 j6) 1e4 (mC 9e7)=te;have key:bN 8e6 gq te (z.cps.toList.map λc=>.str 6e6) [af] [] C=ae (z.cps.toList.map λc=>PV.bl (AZ.cps.contains c),C):=by
    subst hte;have:=Zc7 (te:=aD (g2 j6) 1e4 (mC 9e7)) (f:=λp=>match p with|.str y=>.bl (pV y AZ)|_=>.aS) (z.cps.toList.map λc=>.str ⟨(List.toArray [c])⟩) [af] [] C (λx hx=>by
     let#[c,_,rfl]:=YV.mp hx;simp[aD,bP,aV,mC,i7,g2,cE,j6,Qp,AZ])
    rw[this,XA,XX]
    congr 3
    funext c
    erw[Function.comp,Zdb]
    rw[jw]
   simp![h1,h2,br,bu,bY,di,hl,key,iC,ZcA,bc,Uu]
  .simp![jQ,h1,h2,bc]
 .simp![jQ,h1,bc]
theorem sx(ps:List PV)(a b:Int)(C:Cs):jR [.v (.tup ps),.v (.int a),.v (.int b)] C=ae (.v (.bl (decide (a<=ps.length)&&decide ((ps.length:Int)<=b))),C):=by
 by_cases h:a<=ps.length
 .by_cases h2:(ps.length:Int)<=b<;>simp![jR,h,h2]
 .simp![jR,h]
theorem tk(C:Cs)(k:Nat)(v:PV):(C.set k v).take C.length=C.set k v:=Xh 3e7
theorem setAt{k:Nat}{v w:PV}(h:C[k]? = ae w):(C.set k v)[k]? = ae v:=by
 have:k<C.length:=by
  rcases Y2 k C.length with q|q
  .show q
  .rw[YA.mpr q]at h;cases h
 rw[Y7 this]
theorem Dm(k:Nat)(x y m:Int)(C:Cs)(hC:C[k]? = ae (.lst [.int x,.int y]))(hy:0<=y/\y<2147483647)(hm:0<m/\m<1606938044258990275541962092341162602522202993782792835301376):
  ∃d x' y',cL [.c k,.v (.int m)] C=ae (.v (.int d),C.set k (.lst [.int x',.int y']))/\0<=d/\d<m/\0<=y'/\y'<2147483647:=by
 by_cases hx:0<x
 .show#[x%m,x/m,y,?_,Wq _ 3e5,X9 _ hm.1,hy.1,hy.2]
  simp![cL,dN,fW,eo,dW,hC,hx,hm.1,hm.2,fe,setC,tk]
 .have h1:0<=(y*48271+12345)%2147483647:=Wq _ 2e7
  have h2:(y*48271+12345)%2147483647<2147483647:=X9 _ 2e7;show#[(y*48271+12345)%2147483647*((y*48271+12345)%2147483647)%1999999973%m,x,(y*48271+12345)%2147483647,?_,Wq _ 3e5,X9 _ hm.1,h1,h2];generalize hz:(y*48271+12345)%2147483647=z at h1 h2;have c1:(-18446744073709551616<z/\z<18446744073709551616):=by lia
  simp![cL,dN,fW,eo,dW,hC,hx,hm.1,hm.2,fe,setC,tk,fm,setAt hC,hz,c1]
def GS(C:Cs)(k:Nat):Prop:=∃x y:Int,C[k]? = ae (.lst [.int x,.int y])/\0<=y/\y<2147483647
structure lB(k:Nat)(C C':Cs):Prop where
 len:C'.length=C.length
 gs:GS C' k
 Ar:∀j,j≠k->C'[j]? = C[j]?
theorem lB.refl{k:Nat}(h:GS C k):lB k C C:=#[rfl,h,λ_ _=>rfl]
theorem lB.trans{k:Nat}{C C1 C2:Cs}(a:lB k C C1)(b:lB k C1 C2):lB k C C2:=#[b.len.trans a.len,b.gs,λj h=>(b.Ar j h).trans (a.Ar j h)]
theorem lB.take{k:Nat}{C':Cs}(a:lB k C C'):C'.take C.length=C':=Xh (by rw[a.len];show Yo _)
theorem uc(k:Nat)(m:Int)(C:Cs)(h:GS C k)(hm:0<m/\m<1606938044258990275541962092341162602522202993782792835301376):∃d C',cL [.c k,.v (.int m)] C=ae (.v (.int d),C')/\0<=d/\d<m/\lB k C C':=by
 let#[x,y,hC,h1,h2]:=h;let#[d,x',y',e,a1,a2,a3,a4]:=Dm k x y m C hC #[h1,h2] hm;show#[d,_,e,a1,a2,by simp,#[x',y',setAt hC,a3,a4],λj hj=>by rw[Y3 (XD hj)]]
theorem wU{te:3e6}{k:Nat}{Pp:PV->Prop}:∀(xs:List PV)(ρ:aM)(ys:List PV)(C:Cs),GS C k->(∀x C,GS C k->∃p C',te (ρ.set 0 #[x]) C=ae (.v p,C')/\Pp p/\lB k C C')->
  ∃zs C',bN 8e6 gq te xs ρ ys C=ae (ys++zs,C')/\zs.length=xs.length/\(∀p∈zs,Pp p)/\lB k C C'
 |[],ρ,ys,C,g,h=>#[[],C,by simp[bN,Pu.ret],rfl,by simp,lB.refl g]
 |x::xs,ρ,ys,C,g,h=>by
  let#[p,C1,e1,hp,a1]:=h x C g;let#[zs,C2,e2,hl,hz,a2]:=wU (te:=te) (Pp:=Pp) xs (ρ.set 0 #[x]) (ys++[p]) C1 a1.gs λy C' g'=>by rw[List.set_set];show h y C' g'
  show#[p::zs,C2,?_,by simp[hl],λq hq=>?_,a1.trans a2]
  .simp![bN,hName,gq,e1,e2]
  .rcases Ye.mp hq with rfl|hq
   .show hp
   .show hz q hq
theorem Zd3(ns:List Int)(i:Int)(C:Cs)(hi:0<=i):∃v:Int,l8 [.v (.lst (ns.map .int)),.v (.int i)] C=ae (.v (.int v),C):=by
 by_cases h:i<ns.length
 .have hd:i.toNat<ns.length:=by lia
  show#[ns[i.toNat],?_];simp![l8,dN,fW,eo,dW,hi,h,Yd hd]
 .show#[0,by simp![l8,h]]
theorem M9(ns:List Int)(k:Int)(C:Cs)(h1:0<=k)(h2:k<=1000):∃x y:Int,kg [.v (.lst (ns.map .int)),.v (.int k)] C=ae ([.int x,.int y],C)/\0<=y/\y<2147483647:=by
 have hm:0<(if(ns.length:Int)>1 then(ns.length:Int)else 1):=by split<;>lia
 let#[v,ev]:=Zd3 ns (k%(if(ns.length:Int)>1 then(ns.length:Int)else 1)) C (Wq _ 3e5);let#[u,eu]:=Zd3 ns 0 C 2e7;have c1:-18446744073709551616<k/\k<18446744073709551616:=by lia
 have hm':0<(if 1<(ns.length:Int)then(ns.length:Int)else 1):=hm;have ev':l8 [.v (.lst (ns.map .int)),.v (.int (k%(if 1<(ns.length:Int)then(ns.length:Int)else 1)))] C=ae (.v (.int v),C):=ev;have Vfj:(if 1<(ns.length:Int)then(ns.length:Int)else 1)=if 1<ns.length then(ns.length:Int)else 1:=by
  by_cases q:1<ns.length
  .rw[aE q,aE 3e5]
  .rw[aI q,aI 3e5]
 have p40:(0:Int)<10^40:=by decide
 by_cases hu:u%2=0
 .show#[0,(v%2147483629+7919*k*k+11)*48271%2147483647,?_,Wq _ 2e7,X9 _ 2e7]
  simp![kg,qz,Dz,ev',eu,hm',c1,fm,hu]
 .show#[v%10^40,(v%2147483629+7919*k*k+11)*48271%2147483647,?_,Wq _ 2e7,X9 _ 2e7]
  simp![kg,qz,Dz,ev',eu,hm',c1,fm,hu]
theorem vS{g:5e8}{f:8e9}(Pi:7e1):∀(xs:List PV),(∀x∈xs,∀ρ C,Pi ρ C->∃ρ1 ρ2 C2,g x ρ=ae ρ1/\f ρ1 C=ae (.nx ρ2,C2)/\Pi ρ2 C2)->∀ρ C,Pi ρ C->∃ρ' C',loop g f xs ρ C=ae (.nx ρ',C')/\Pi ρ' C'
 |[],_,ρ,C,h=>#[ρ,C,rfl,h]
 |x::xs,hs,ρ,C,h=>by
  let#[ρ1,ρ2,C2,e1,e2,h2]:=hs x 3e7 ρ C h;let#[ρ',C',e3,h3]:=vS Pi xs (λy hy=>hs y (by simp[hy])) ρ2 C2 h2;show#[ρ',C',?_,h3];ext loop
  erw[e1,bP,e2,e3]
noncomputable def kQ (c:Nat):List Nat->List (List Nat)
 |[]=>[[]]
 |x::r=>if x=c then[]::kQ c r else(x::(kQ c r).headD [])::(kQ c r).tail
theorem Fl(c:Nat):∀l,kQ c l≠[]
 |[]=>by simp[kQ]
 |x::r=>by ext kQ;split<;>simp
theorem ht{l:List (List Nat)}(h:l≠[]):l.headD []::l.tail=l:=by cases l<;>simp_all
theorem ZcX{c:Nat}:∀{w:List Nat},c∉w->kQ c w=[w]
 |[],_=>rfl
 |x::r,h=>by
  erw[Ye,not_or]at h
  ext kQ;rw[aI (XD h.1),ZcX h.2];rfl
theorem sg(c:Nat)(b:List Nat):∀a,kQ c (a++c::b)=kQ c a++kQ c b
 |[]=>by simp[kQ]
 |x::r=>by
  have e:=sg c b r;have:=Fl c r;change(if x=c then[]::kQ c (r++c::b)else(x::(kQ c (r++c::b)).headD [])::(kQ c (r++c::b)).tail)=(if x=c then[]::kQ c r else(x::(kQ c r).headD [])::(kQ c r).tail)++kQ c b;split
  .rw[e];rfl
  .rw[e]
   cases h:kQ c r with
   |nil=>show absurd h this
   |cons p q=>rfl
noncomputable def glue (c:Nat):List (List Nat)->List Nat
 |[]=>[]
 |[p]=>p
 |p::q=>p++c::glue c q
theorem uW{c:Nat}:∀{ps:List (List Nat)},ps≠[]->(∀p∈ps,c∉p)->kQ c (glue c ps)=ps
 |[],h,_=>absurd rfl h
 |[p],_,h=>ZcX (h p 3e7)
 |p::q::r,_,h=>by
  change kQ c (p++c::glue c (q::r))=_;rw[sg,ZcX (h p 3e7),uW 3e7 λz hz=>h z (by simp[hz])];rfl
theorem LR(a b:Str):(a++b).cps=a.cps++b.cps:=rfl
theorem Zdu(c:Nat):∀ps:List Str,(Str.join 6e6 ps).cps.toList=glue c (ps.map (·.cps.toList))
 |[]=>rfl
 |[p]=>rfl
 |p::q::r=>by
  rw[join_cons_cons,LR,LR,Y5,Y5,Zdu c (q::r)];change p.cps.toList++[c]++_=p.cps.toList++c::glue c ((q::r).map _);simp
theorem pY(c:Nat)(x:Str):(Txt.split x 6e6).map (·.cps.toList)=kQ c x.cps.toList:=by
 have h1:=StrLaws.join_split x 6e6;have h2:=StrLaws.split_free x c;have h3:=split_pos x 6e6;let P:=Txt.split x 6e6;rw[←h1,Zdu,uW]
 .intro e
  rw[List.map_eq_nil_iff]at e;subst e;simp at h3
 .intro p hp
  let#[q,hq,rfl]:=YV.mp hp;show h2 q hq
theorem ZcD{a b:Str}(h:a.cps.toList=b.cps.toList):a=b:=by
 cases a;cases b
 congr 1
 show Uj.mp h
theorem map_inj:∀{P R:2e2},P.map (·.cps.toList)=R.map (·.cps.toList)->P=R
 |[],[],_=>rfl
 |[],_::_,h=>by simp at h
 |_::_,[],h=>by simp at h
 |a::P,b::R,h=>by
  erw[Yi,List.cons.injEq]at h
  rw[ZcD h.1,map_inj h.2]
noncomputable def kh (x:Str):Bool:=decide (x.length≠0)
def uK(c:Nat)(l:List Nat):List (List Nat):=(kQ c l).filter λp=>!p.isEmpty
theorem rW(c:Nat)(a b:List Nat):uK c (a++c::b)=uK c a++uK c b:=by ext uK;rw[sg,List.filter_append]
theorem zT(c:Nat):uK c []=[]:=rfl
theorem zS{c:Nat}{w:List Nat}(h:c∉w)(hw:w≠[]):uK c w=[w]:=by
 ext uK;rw[ZcX h];simp[hw]
theorem ZcC(c:Nat)(l:List Nat):∀k,uK c (YG k c++l)=uK c l
 |0=>rfl
 |k+1=>by
  have:=rW c [] (YG k c++l);rw[Wy,VB];rw[XA,zT,XA]at this;rw[this,ZcC c l k]
theorem zU(c:Nat)(l:List Nat):∀k,uK c (l++YG k c)=uK c l
 |0=>by simp
 |k+1=>by
  rw[Wy,rW];have:=ZcC c [] k;rw[Yv]at this;rw[this,zT,Yv]
theorem tG(x:Str)(c:Nat)(ps:2e2)(h:uK c x.cps.toList=ps.map (·.cps.toList)):(Txt.split x 6e6).filter kh=ps:=by
 apply map_inj;rw[←h];ext uK;rw[←pY,List.filter_map]
 congr 1
 apply List.filter_congr;intro p hp;ext kh;change decide (p.cps.size≠0)=!p.cps.toList.isEmpty;rw[←YO];cases p.cps.toList<;>simp
theorem wJ(m:Nat)(h0:m≠0):∃c r,Nat.toDigits 10 m=c::r/\c≠'0':=by
 rcases Y2 m 10 with h|h
 .have fir:∀k:Fin 10,k.1≠0->Nat.digitChar k.1≠'0':=by decide
  show#[_,[],Nat.toDigits_of_lt_base h,fir #[m,h] h0]
 .let#[c,r,e,hc]:=wJ (m/10) 3e5
  have last:=Nat.toDigits_append_toDigits (b:=10) (n:=m/10) (d:=m%10) 2e7 3e5 3e5;rw[Nat.div_add_mod,e]at last;show#[c,_,last.symm,hc]
termination_by m
decreasing_by lia
def Ve9(z:Str):Prop:=∀c∈z.cps.toList,48<=c/\c<=57
theorem vz{n:Int}(h0:0<=n):Ve9 (c8 n):=by
 obtain⟨m,rfl⟩:∃m:Nat,n=m:=#[n.toNat,by lia]
 intro c hc;rw[c8,Uz,YV]at hc;let#[ch,Bp,rfl]:=hc;show digit_range (Nat.isDigit_of_mem_toDigits 2e7 2e7 Bp)
theorem ZcI{n:Int}(h0:0<=n)(h1:n<10^30):(c8 n).length<=30:=by
 let#[m,rfl]:=Int.eq_ofNat_of_zero_le h0;change(c8 (m:Int)).cps.size<=30;ext c8;rw[←YO,Uz,Yk];show toDigits_len_pow 2e7 2e7 3e5
theorem Zt{n:Int}(h0:0<=n):(c8 n).cps.toList≠[]:=by
 obtain⟨m,rfl⟩:∃m:Nat,n=m:=#[n.toNat,by lia]
 rw[c8,Uz];by_cases z:m=0
 .subst z;decide
 .let#[c,r,q,_]:=wJ m z
  rw[q];show λe=>nomatch e
noncomputable def FG:Str:="0123456789"
theorem xq(C:Cs):cA [.v 10e8] C=ae (.v .aS,C):=by simp![cA]
theorem zD(L:List PV)(d:Int)(h1:0<=d)(h2:d<L.length):∃p∈L,dN (.lst L) (.int d)=ae p:=by
 have hd:d.toNat<L.length:=by lia
 show#[L[d.toNat],XU hd,?_];simp[dN,fW,eo,dW,h1,h2,Yd hd]
theorem ZcH(k:Nat)(C:Cs)(g:GS C k):∃n C',kO [.c k] C=ae (.v (.int n),C')/\0<=n/\n<10^30/\lB k C C':=by
 let#[d,C1,e1,h1,h2,a1]:=uc k 4 C g 2e7;let#[p,hp,e2]:=zD [.int 9,.int 100,.int 1000000000000000000000000000,.int 10000000000000000000000000000] d h1 (by simpa using h2);obtain⟨m,rfl,hm1,hm2⟩:∃m:Int,p=.int m/\9<=m/\m<=1000000000000000000000000000000:=by
  erw[Ye,Yq,or_false]at hp
  rcases hp with rfl|rfl|rfl|rfl<;>show#[_,rfl,by decide,by decide]
 let#[a,C2,e3,h3,h4,a2]:=uc k m C1 a1.gs 3e5;let#[b,C3,e4,h5,h6,a3]:=uc k 3 C2 a2.gs 2e7;let#[c,C4,e5,h7,h8,a4]:=uc k 2 C3 a3.gs 2e7;let#[q,hq,e6]:=zD [.int a,.int (m-1-b)] c h7 (by simpa using h8);have a5:=((a1.trans a2).trans a3).trans a4;obtain⟨n,rfl,hn⟩:∃n:Int,q=.int n/\0<=n/\n<10^30:=by
  erw[Ye,Yq,or_false]at hq
  rcases hq with rfl|rfl
  .show#[_,rfl,by lia,by lia]
  .show#[_,rfl,by lia,by lia]
 show#[n,C4,?_,hn.1,hn.2,a5];simp![kO,e1,e2,e3,e4,e5,e6,a5.take]
theorem Vdi(d:Int)(h1:0<=d)(h2:d<26):∃c,dN 9e7 (.int d)=ae (.str 6e6)/\AZ.cps.contains c=ag:=by
 have hl:("abcdefghijklmnopqrstuvwxyz":Str).cps.toList.length=26:=by rfl
 have hd:d.toNat<("abcdefghijklmnopqrstuvwxyz":Str).cps.toList.length:=by lia
 have h3:d<(("abcdefghijklmnopqrstuvwxyz":Str).cps.toList.length:Int):=by lia
 show#[("abcdefghijklmnopqrstuvwxyz":Str).cps.toList[d.toNat],?_,?_]
 .change(eo ("abcdefghijklmnopqrstuvwxyz":Str).cps.toList d).map _=_
  unfold eo dW;rw[aE h1,aE h3];change((("abcdefghijklmnopqrstuvwxyz":Str).cps.toList[d.toNat]?).map _)=_;rw[Yd hd];rfl
 .rw[←jw]
  show Vx.mpr (XU hd)
noncomputable def one (c:Nat):Str:=6e6
theorem ones:∀{zs:List PV},(∀p∈zs,∃c,p=.str 6e6/\AZ.cps.contains c=ag)->∃cs:List Nat,zs=cs.map (λc=>.str (one c))/\∀c∈cs,AZ.cps.contains c=ag
 |[],_=>#[[],rfl,by simp]
 |p::zs,h=>by
  let#[c,rfl,hc]:=h p 3e7;let#[cs,rfl,hs]:=ones (zs:=zs) λq hq=>h q (YQ _ hq);show#[c::cs,rfl,λz hz=>(Ye.mp hz).elim (λe=>e▸hc) (hs z)]
noncomputable def CM (a b c d:Nat):Str:=⟨[a,b,c,d].toArray⟩
def Si:aM->M SV:=aD 3e3 3e9 (bw cL (ak 6e1 (ak (mC (.int 26)) ao)))
def VbB:aM->M 5e5:=cN (ak (mC (.int 4)) ao)
def Sj:aM->M 5e5:=br VbB ["_law_k"] [1,0] 8e6 gq Si
theorem Ff(k:Nat)(C:Cs)(g:GS C k)(x2 x3 x4:11e4):∃a b c d C',Sj [7e7,9e4,x2,x3,x4] C=ae ([.str (one a),.str (one b),.str (one c),.str (one d)],C')/\(∀z∈[a,b,c,d],AZ.cps.contains z=ag)/\lB k C C':=by
 let#[zs,C',e,hl,hz,a]:=wU (te:=Si) (Pp:=λp=>∃c,p=.str 6e6/\AZ.cps.contains c=ag) [.int 0,.int 1,.int 2,.int 3] [af,9e4,7e7] [] C g (λx C g=>by
  let#[d,C1,e1,h1,h2,a1]:=uc k 26 C g 2e7;let#[c,e2,hc]:=Vdi d h1 h2;show#[_,C1,?_,#[c,rfl,hc],a1];simp![Si,e1,e2,a1.take])
 let#[cs,rfl,hcs]:=ones hz;have hr:VbB [7e7,9e4,x2,x3,x4] C=ae ([.int 0,.int 1,.int 2,.int 3],C):=by rfl
 match cs,hl with
 |[a1,a2,a3,a4],_=>
  show#[a1,a2,a3,a4,C',?_,hcs,a];simp at e;simp[Sj,br,bP,hr,di,Pu.ret,e]
theorem CK(a b c d:Nat):iz (.str "") [.lst [.str (one a),.str (one b),.str (one c),.str (one d)]]=ae (.str (CM a b c d)):=by
 rfl
theorem Fe(a b c d:Nat):qr (.str (CM a b c d)) (.int 3)=ae (.str ⟨[a,b,c,d,a,b,c,d,a,b,c,d].toArray⟩):=by
 rfl
theorem JS(a b c d:Nat)(s:Int)(h1:1<=s)(h2:s<=12)(h:∀z∈[a,b,c,d],AZ.cps.contains z=ag):∃w,Txt.slice ⟨[a,b,c,d,a,b,c,d,a,b,c,d].toArray⟩ af (ae s)=w/\bc w=ag:=by
 show#[_,rfl,?_];have e:=slice_closes_toL (x:=⟨[a,b,c,d,a,b,c,d,a,b,c,d].toArray⟩) (j:=s) 3e5 (show s<=((12:Nat):Int) by lia);rw[eq_of_beq e]
 erw[Ye,Yq,or_false,forall_eq_or_imp,forall_eq]at h
 ext bc;have hl:(⟨((UA (0:Int).toNat [a,b,c,d,a,b,c,d,a,b,c,d]).take (s-0).toNat).toArray⟩:Str).length=s.toNat:=by
  change Array.size (V2 _)=_;simp;lia
 have ha:(((UA (0:Int).toNat [a,b,c,d,a,b,c,d,a,b,c,d]).take (s-0).toNat)).all AZ.cps.contains=ag:=by
  rw[YE];intro x hx;have:=Wh (Wi hx)
  erw[Ye,Yq,or_false]at this
  let#[p,q,r,t]:=h;rcases this with rfl|rfl|rfl|rfl|rfl|rfl|rfl|rfl|rfl|rfl|rfl|rfl<;>assumption
 change(decide (1<=(((⟨((UA (0:Int).toNat [a,b,c,d,a,b,c,d,a,b,c,d]).take (s-0).toNat).toArray⟩:Str).length:Nat):Int))&&decide ((((⟨((UA (0:Int).toNat [a,b,c,d,a,b,c,d,a,b,c,d]).take (s-0).toNat).toArray⟩:Str).length:Nat):Int)<=12)&&_)=ag;rw[hl,show(⟨((UA (0:Int).toNat [a,b,c,d,a,b,c,d,a,b,c,d]).take (s-0).toNat).toArray⟩:Str).cps.toList=(UA (0:Int).toNat [a,b,c,d,a,b,c,d,a,b,c,d]).take (s-0).toNat from rfl,ha];simp;lia
theorem dw{f:8e9}{ρ1:aM}{C1:Cs}(h:f ρ C=ae (.nx ρ1,C1)):aC f g ρ C=g ρ1 C1:=by
 unfold aC bP;rw[h]
theorem KL{f:8e9}{r:SV}(h:f ρ C=ae (.rt r,C)):aC f g ρ C=ae (.rt r,C):=by
 unfold aC bP;rw[h];rfl
theorem pI{c:7e3}{a b:8e9}{C1:Cs}(h:c ρ C=ae (ag,C1)):bx c a b ρ C=a ρ C1:=by
 unfold bx bP;rw[h];rfl
theorem EI{c:7e3}{a:8e9}{C1:Cs}(h:c ρ C=ae (ah,C1)):bx c a bo ρ C=ae (.nx ρ,C1):=by
 unfold bx bP;rw[h];rfl
theorem mR{c:7e3}{a:8e9}{b:Bool}{x z:PV}(hc:c ρ C=ae (b,C))(h:b=ag->a ρ C=ae (.rt (.v x),C))(k:b=ah->g ρ C=ae (.rt (.v z),C)):aC (bx c a bo) g ρ C=ae (.rt (.v (if b=ag then x else z)),C):=by
 cases b
 .show(dw (EI hc)).trans (k rfl)
 .show KL ((pI hc).trans (h rfl))
section
variable{ρ:aM}{C C':Cs}{f g:3e6}{s t:7e3}{a b:Bool}{n pad:Nat}{body:8e9}{ss:List SV}{r:PV}
theorem BF(hl:ss.length=n)(h:body (ss.map ae++YG pad af) C=ae (.rt (.v r),C')):cK n pad body ss C=ae (.v r,C'.take C.length):=by
 ext cK;rw[aE hl,h];rfl
theorem oh(hl:ss.length=n)(h:body (ss.map ae++YG pad af) C=ae (.rt (.v r),C)):cK n pad body ss C=ae (.v r,C):=by
 have:=BF hl h;rwa[List.take_length]at this
theorem zk(h:body (ss.map ae++YG pad af) C=af):cK n pad body ss C=af:=by
 ext cK;rw[h];split<;>rfl
theorem VbX{x:SV}(h:f ρ C=ae (x,C)):bj f ρ C=ae (.rt x,C):=by
 unfold bj bP;rw[h];rfl
theorem OQ(h:f ρ C=ae (.v (.bl b),C)):eM f ρ C=ae (b,C):=by
 simp![h]
theorem P5(h:t ρ C=ae (b,C)):dG t ρ C=ae (!b,C):=by
 unfold dG bP;rw[h];rfl
theorem Ves(h:s ρ C=ae (a,C))(k:a=ah->t ρ C=ae (b,C)):dY s t ρ C=ae (a||b,C):=by
 unfold dY bP;rw[h];cases a
 .show k rfl
 .rfl
theorem zB(h:f ρ C=ae (.v (.bl a),C))(k:a=ag->g ρ C=ae (.v (.bl b),C)):dj f g ρ C=ae (.v (.bl (a&&b)),C):=by
 cases a
 .simp![h]
 .have:=k rfl
  simp![h,this]
end
noncomputable def Cg:List PV:=[.str "bell",.str "at",.str "got",.str "after",.str "to",.str "join",.str "say",.str "do",.str "free",.str "hand",.str "note",.str "held",.str "twin",.str "a"]
def w1:aM->M PF:=bg 1 (mC 9e7)
def w2:aM->M PF:=bg 2 (bh (bQ (ak (mC (.str "bell")) (ak 10e9 (ak (mC (.str "got")) (ak (mC (.str "after")) (ak 11e0 (ak (mC (.str "join")) (ak (mC (.str "say")) (ak (mC (.str "do")) (ak (mC (.str "free")) (ak (mC (.str "hand")) (ak (mC (.str "note")) (ak (mC (.str "held")) (ak (mC (.str "twin")) (ak (mC (.str "a")) ao))))))))))))))))
def w3:aM->M PF:=bg 3 (aD 3e3 (bh (bQ (ak 1e8 (ak 4e5 (ak 7e4 (ak (mC (.int 12)) (ak (aD 8e5 1e8 (bw cL (ak 1e4 (ak (mC (.int 12)) ao)))) ao))))))) (bw cL (ak 1e4 (ak (mC (.int 5)) ao))))
def w4:aM->M PF:=bg 4 (pE "str" iz 18e2 (ak (bh Sj) ao))
def w5:aM->M PF:=bj (aD 3e3 (bh (bQ (ak (mz (aD (g2 qr) 6e9 7e4) eB (bz 9e2)) (ak (aD 3e3 6e1 (bw cL (ak 1e4 (ak (mC (.int 14)) ao)))) ao)))) (cB (g1 iA) (ak (aD 2e5 6e7 2e6) ao)))
theorem LX:Sb=aC w1 (aC w2 (aC w3 (aC w4 w5))):=rfl
theorem ZN:∀p∈Cg,∃w,p=.str w/\bc w=ag:=by
 have:Cg.all Vbx=ag:=by decide +kernel
 intro p hp;have h:=YE.mp this p hp;cases p<;>first|show#[_,rfl,h]|cases h
theorem mK(k:Nat)(C:Cs)(g:GS C k):∃w C',oM [.c k] C=ae (.v (.str w),C')/\bc w=ag/\lB k C C':=by
 let#[d1,C1,e1,h1,h2,a1]:=uc k 12 C g 2e7;let#[d2,C2,e2,h3,h4,a2]:=uc k 5 C1 a1.gs 2e7;let#[p,hp,e3]:=zD [.int 1,.int 2,.int 3,.int 12,.int (1+d1)] d2 h3 (by simpa using h4);obtain⟨s,rfl,Qu,pJ⟩:∃s:Int,p=.int s/\1<=s/\s<=12:=by
  erw[Ye,Yq,or_false]at hp
  rcases hp with rfl|rfl|rfl|rfl|rfl<;>show#[_,rfl,by lia,by lia]
 let#[a,b,c,d,C3,e4,hz,a3]:=Ff k C2 a2.gs #[.lst Cg] #[.int s] af;let#[d4,C4,e5,h5,h6,a4]:=uc k 14 C3 a3.gs 2e7;let#[q,hq,e6]:=zD Cg d4 h5 (by simpa[Cg]using h6);let#[v,rfl,hv]:=ZN q hq;let#[d5,C5,e7,h7,h8,a5]:=uc k 4 C4 a4.gs 2e7;let#[u,e8,hu]:=JS a b c d s Qu pJ hz;have uB:=((((a1.trans a2).trans a3).trans a4).trans a5)
 have s2:w2 [7e7,9e4,af,af,af] C=ae (.nx [7e7,9e4,#[.lst Cg],af,af],C):=by rfl
 have s3:w3 [7e7,9e4,#[.lst Cg],af,af] C=ae (.nx [7e7,9e4,#[.lst Cg],#[.int s],af],C2):=by
  let KK:=Cg;simp![w3,fm,e1,e2,e3,a1.take,a2.take]
 have hj:=CK a b c d;have s4:w4 [7e7,9e4,#[.lst Cg],#[.int s],af] C2=ae (.nx [7e7,9e4,#[.lst Cg],#[.int s],#[.str (CM a b c d)]],C3):=by
  let KK:=Cg;let ST:=CM a b c d;simp![w4,e4,hj]
 have hm:=Fe a b c d;obtain⟨z,Bk,hz2⟩:∃z,dN (.lst [.str u,.str v]) (.int (if d5=0 then 1 else 0))=ae (.str z)/\bc z=ag:=by
  split
  .show#[v,rfl,hv]
  .show#[u,rfl,hu]
 show#[z,C5,?_,hz2,uB];have s5:w5 [7e7,9e4,#[.lst Cg],#[.int s],#[.str (CM a b c d)]] C3=ae (.rt (.v (.str z)),C5):=by
  let KK:=Cg;let ST:=CM a b c d;generalize(⟨[a,b,c,d,a,b,c,d,a,b,c,d].toArray⟩:Str)=SM at *;simp![w5,mz,sj,hm,e8,e5,e6,e7,a4.take,a5.take,iA,Bk]
 ext oM;rw[LX];have run:aC w1 (aC w2 (aC w3 (aC w4 w5))) [7e7,af,af,af,af] C=ae (.rt (.v (.str z)),C5):=by
  rw[dw (show w1 [7e7,af,af,af,af] C=ae (.nx [7e7,9e4,af,af,af],C)from rfl),dw s2,dw s3,dw s4,s5]
 let bl:=aC w1 (aC w2 (aC w3 (aC w4 w5)));simp![run,uB.take]
structure Nm where
 h:Str
 d:Str
 n:Int
noncomputable def Nm.P (x:Nm):PV:=.tup [.str x.h,.str x.d,.int x.n]
structure Nm.Ok(x:Nm):Prop where
 h:bc x.h=ag
 d:bc x.d=ag
 n0:1<=x.n
 n1:x.n<10^30
theorem vD(k:Nat)(C:Cs)(g:GS C k):∃(x:Nm)(C':Cs),l7 [.c k] C=ae (.v x.P,C')/\x.Ok/\lB k C C':=by
 let#[h,C1,e1,h1,a1]:=mK k C g;let#[d,C2,e2,h2,a2]:=mK k C1 a1.gs;let#[n,C3,e3,h3,h4,a3]:=ZcH k C2 a2.gs;have uB:=(a1.trans a2).trans a3;show#[#[h,d,1+n%999999999999999999999999999999],C3,?_,#[h1,h2,?_,?_],uB]
 .simp![l7,fm,e1,e2,e3,a1.take,a2.take,a3.take,uB.take,Nm.P]
 .have:=Wq n (show(999999999999999999999999999999:Int)≠0 by decide)
  change 1<=1+n%_;lia
 .have:=X9 n (show(0:Int)<999999999999999999999999999999 by decide)
  change 1+n%_<_;lia
inductive Pt where
 |st (k:Str)|nm (x:Nm)|num (n:Int)
def Nm.T(x:Nm):Str:=Str.join ⟨(List.toArray [46])⟩ [x.h,x.d,c8 x.n]
def Pt.P:Pt->PV
 |.st k=>.str k
 |.nm x=>x.P
 |.num n=>.int n
def Pt.T:Pt->Str
 |.st k=>k
 |.nm x=>x.T
 |.num n=>c8 n
def Pt.Ok:Pt->Prop
 |.st k=>bc k=ag
 |.nm x=>x.Ok
 |.num n=>0<=n/\n<10^30
theorem nF{n:Int}(h0:0<=n)(h1:n<10^30):n.natAbs.log2<1920:=by
 by_cases h:n.natAbs=0
 .rw[h];decide
 .show Yr ((Nat.log2_lt h).mpr (show n.natAbs<2^100 by lia)) 2e7
theorem join_eq(z:Str)(ys:2e2):Txt.join z ys=Str.join z ys:=by
 cases ys with
 |nil=>rfl
 |cons a r=>show StrLaws.glued_cons z r a
theorem strs_map:∀ys:List Str,mP (ys.map .str)=ae ys
 |[]=>rfl
 |a::r=>by simp[mP,strs_map r]
theorem wo(z:Str)(ys:2e2)(h:(ys.map (·.length)).sum+ys.length*z.length<=1000000):iz (.str z) [.lst (ys.map .str)]=ae (.str (Str.join z ys)):=by
 ext iz
 erw[strs_map,aE h,join_eq]
theorem Ky{c:Nat}(h:AZ.cps.contains c=ag):97<=c/\c<=122:=by
 have:AZ.cps.all (λc=>decide (97<=c/\c<=122))=ag:=by decide +kernel
 rw[Array.all_eq_true_iff_forall_mem]at this;have:=this c (by simpa using h);simpa using this
theorem rV{w:Str}(h:bc w=ag):∀c∈w.cps.toList,97<=c/\c<=122:=by
 ext bc h
 erw[Yl]at h
 intro c hc;show Ky (YE.mp h.2 c hc)
theorem LQ{w:Str}(h:bc w=ag):1<=w.length/\w.length<=12:=by
 ext bc h
 erw[Yl,g6]at h
 lia
theorem yG{x:Nm}(h:x.Ok):∀p∈[x.h,x.d,c8 x.n],(∀c∈p.cps.toList,c≠46/\c≠32):=by
 intro p hp
 erw[Ye,Yq,or_false]at hp
 intro c hc;rcases hp with rfl|rfl|rfl
 .have:=rV h.h c hc;lia
 .have:=rV h.d c hc;lia
 .have:=vz (n:=x.n) (by have:=h.n0;lia) c hc;lia
theorem qq{x:Nm}:x.T.cps.toList=x.h.cps.toList++46::(x.d.cps.toList++46::(c8 x.n).cps.toList):=by
 ext Nm.T;rw[Zdu];rfl
theorem B0(w:Str):w.length=w.cps.toList.length:=by rw[YO];rfl
theorem Tz{p:Pt}(h:p.Ok):1<=p.T.length/\p.T.length<=56:=by
 cases p with
 |st k=>have:=LQ h;show#[this.1,by change k.length<=56;lia]
 |nm x=>
  have h1:=LQ h.h;have h2:=LQ h.d;have h3:=ZcI (n:=x.n) (by have:=h.n0;lia) h.n1;change 1<=x.T.length/\x.T.length<=56;rw[B0]at h1 h2 h3⊢;rw[qq]
  erw[YT,YB]
  lia
 |num n=>
  have h1:=ZcI h.1 h.2;have h2:=Zt h.1;change 1<=(c8 n).length/\(c8 n).length<=56;rw[B0]at h1⊢;cases e:(c8 n).cps.toList with
  |nil=>show absurd e h2
  |cons a r=>rw[e]at h1;simp at h1⊢;lia
theorem MB{p:Pt}(h:p.Ok):32∉p.T.cps.toList:=by
 intro hc;cases p with
 |st k=>have:=rV h 32 hc;lia
 |nm x=>
  change 32∈x.T.cps.toList at hc;rw[qq]at hc
  erw[YZ,Ye]at hc
  have k:=yG h;rcases hc with hc|hc|hc|hc|hc
  .show(k x.h 3e7 32 hc).2 rfl
  .cases hc
  .show(k x.d 3e7 32 hc).2 rfl
  .cases hc
  .show(k (c8 x.n) 3e7 32 hc).2 rfl
 |num n=>have:=vz h.1 32 hc;lia
theorem Zcx{α:Type}{te:3e6}{g f:α->PV}:∀(l:List α)(ρ:aM)(ys:List PV)(C:Cs),(∀a∈l,te (ρ.set 0 #[g a]) C=ae (.v (f a),C))->bN 8e6 gq te (l.map g) ρ ys C=ae (ys++l.map f,C)
 |[],ρ,ys,C,_=>by simp[bN,Pu.ret]
 |x::xs,ρ,ys,C,h=>by
  have h1:=h x 3e7;have h2:=Zcx (te:=te) (g:=g) (f:=f) xs (ρ.set 0 #[g x]) (ys++[f x]) C λy hy=>by rw[List.set_set];show h y (by simp[hy])
  simp![bN,hName,gq,h1,h2]
theorem sT{x:Nm}(h:x.Ok)(C:Cs):l6 [.v x.P] C=ae (.v (.str x.T),C):=by
 have hl:=nF (n:=x.n) (by have:=h.n0;lia) h.n1;have h1:=LQ h.h;have h2:=LQ h.d;have h3:=ZcI (n:=x.n) (by have:=h.n0;lia) h.n1;have e:=wo ⟨(List.toArray [46])⟩ [x.h,x.d,c8 x.n] (by simp[Str.length]at *;lia)
 erw[Yi,Wt]at e
 have e':iz (.str ".") [.lst [.str x.h,.str x.d,.str (c8 x.n)]]=ae (.str x.T):=e;simp![l6,Nm.P,br,bu,bY,di,bN,hName,gq,gf,hl,e']
def og(z:Str):Bool:=z.cps.toList.all FG.cps.toList.contains
def bJ(z:Str):Bool:=decide (z="0")||(decide (z≠"")&&decide (z.cps.toList.head?≠ae 48)&&og z)
theorem Ia(h:og z=ag):PySem.NumText.AllDigits z.cps.toList:=by
 intro c hc;have h1:=YE.mp h c hc;have h2:FG.cps.toList.all (λc=>decide (48<=c/\c<=57))=ag:=by decide +kernel
 have:=YE.mp h2 c (by simpa using h1);simpa using this
noncomputable def aT (z:Str):Int:=((PySem.NumText.digitsVal z.cps.toList:Nat):Int)
theorem QL:∀(cs:List Nat)(a:Nat),PySem.NumText.AllDigits cs->cs.foldl (λacc c=>acc*10+(c-48)) a<(a+1)*10^cs.length
 |[],a,_=>by simp
 |c::cs,a,h=>by
  have h1:=h.head;have:=QL cs (a*10+(c-48)) h.tail
  erw[List.foldl_cons,YB,Nat.pow_succ]
  show Yr this ?_;have:a*10+(c-48)+1<=(a+1)*10:=by lia
  calc _<=(a+1)*10*10^cs.length:=Nat.mul_le_mul_right _ this
   _=_:=by rw[Nat.mul_assoc,Nat.mul_comm 10]
theorem G7(h:og z=ag)(hl:z.length<=60):0<=aT z/\aT z<10^60:=by
 have h1:=QL z.cps.toList 0 (Ia h);rw[←B0]at h1;have h2:10^z.length<=10^60:=Nat.pow_le_pow_right 2e7 hl;unfold aT PySem.NumText.digitsVal;show#[Int.natCast_nonneg _,?_];have h3:(z.cps.toList.foldl (λacc c=>acc*10+(c-48)) 0)<10^60:=by lia
 exact_mod_cast h3
theorem tH(h:bJ z=ag):og z=ag/\z.cps.toList≠[]:=by
 ext bJ h
 erw[Wp,Yl,g6]at h
 rcases h with rfl|⟨⟨h1,_⟩,h2⟩
 .decide +kernel
 .show#[h2,λe=>h1 ?_]
  show ZcD (by rw[e];rfl)
theorem iG(h:bJ z=ag)(hl:z.length<=60):iU [.str z]=ae (.int (aT z)):=by
 let#[h1,h2]:=tH h;ext iU;dsimp only;have l1:z.length<=640:=YC hl 2e7;have l2:z.length<=4300:=YC hl 2e7;rw[aE l1,intText_digits (Ia h1) h2 l2];rfl
theorem BE(z:Str)(C:Cs):bN 8e6 gq (aD (g2 j6) 1e4 (mC (.str "0123456789"))) (z.cps.toList.map λc=>.str 6e6) [af] [] C=ae (z.cps.toList.map λc=>PV.bl (FG.cps.toList.contains c),C):=by
 have:=Zc7 (te:=aD (g2 j6) 1e4 (mC (.str "0123456789"))) (f:=λp=>match p with|.str y=>.bl (pV y FG)|_=>.aS) (z.cps.toList.map λc=>.str ⟨(List.toArray [c])⟩) [af] [] C (λx hx=>by
  let#[c,_,rfl]:=YV.mp hx;simp[aD,bP,aV,mC,i7,g2,cE,j6,Qp,FG])
 rw[this,XA,XX]
 congr 3
 funext c
 erw[Function.comp,Zdb]
theorem Vbe(z:Str)(C:Cs):bN 8e6 gq (aD (g2 j6) 1e4 (mC 9e7)) (z.cps.toList.map λc=>.str 6e6) [af] [] C=ae (z.cps.toList.map λc=>PV.bl (AZ.cps.contains c),C):=by
 have:=Zc7 (te:=aD (g2 j6) 1e4 (mC 9e7)) (f:=λp=>match p with|.str y=>.bl (pV y AZ)|_=>.aS) (z.cps.toList.map λc=>.str ⟨(List.toArray [c])⟩) [af] [] C (λx hx=>by
  let#[c,_,rfl]:=YV.mp hx;simp[aD,bP,aV,mC,i7,g2,cE,j6,Qp,AZ])
 rw[this,XA,XX]
 congr 3
 funext c
 erw[Function.comp,Zdb]
 rw[jw]
theorem Bo(h:z≠""):∃c,dN (.str z) (.int 0)=ae (.str 6e6)/\(z.cps.toList.head? = ae 48↔(6e6:Str)="0"):=by
 cases e:z.cps.toList with
 |nil=>show absurd (ZcD (by rw[e];rfl)) h
 |cons c r=>
  show#[c,?_,?xo]
  case xo=>
   have h48:("0":Str)=⟨(List.toArray [48])⟩:=by decide +kernel
   rw[h48];simp
  have hp:(0:Int)<(z.cps.toList.length:Int):=by rw[e];simp
  change(eo z.cps.toList 0).map _=_;unfold eo dW;rw[aE 2e7,aE hp,e];rfl
theorem Zbv(l:List α)(g:α->Bool):iC [.lst (l.map λc=>PV.bl (g c))]=ae (.bl (l.all g)):=by
 ext iC;simp[ZcA,Uu]
theorem ZdD(z:Str)(hl:z.length<=1000)(C:Cs):kN [.v (.str z)] C=ae (.v (.bl (bJ z)),C):=by
 by_cases Nv:z="0"
 .subst Nv
  simp![kN,bJ]
 .by_cases h1:z=""
  .subst h1
   simp![kN,bJ,Nv]
  .let#[c,h2,hh]:=Bo h1
   have hs:z.cps.size<=100000:=by
    have:z.cps.size=z.length:=rfl;lia
   have key:=BE z C;have ha:=Zbv z.cps.toList FG.cps.toList.contains;have hf:bJ z=(!decide ((6e6:Str)="0")&&og z):=by simp[bJ,Nv,h1,hh]
   rw[hf];unfold kN R' og;generalize aD (g2 j6) 1e4 (mC (.str "0123456789"))=te at *;generalize z.cps.toList.all FG.cps.toList.contains=bb at *;generalize(z.cps.toList.map λc=>PV.bl (FG.cps.toList.contains c))=BL at *;by_cases h3:(6e6:Str)="0"
   .simp![Nv,h1,h2,h3]
   .simp![Nv,h1,h2,h3,br,bu,bY,di,hs,key,ha]
theorem Em(C:Cs):cA [.v 9e3] C=af:=by simp![cA,mNo]
theorem eZ(C:Cs):cC [.v 9e3] C:=by
 show#[rfl,?_,trivial];simp![]
theorem ZaS(z:Str)(hl:z.length<=60)(C:Cs):eE [.v (.str z)] C=if bJ z=ag then ae (.v (.int (aT z)),C)else af:=by
 have e:=ZdD z 3e5 C;by_cases h:bJ z=ag
 .have e2:=iG h hl
  rw[aE h];rw[h]at e;simp![eE,e,xq,e2]
 .have h':bJ z=ah:=by simpa using h
  rw[aI h];rw[h']at e;simp![eE,e,Em]
theorem Zbh(hl:z.length<=60)(h:bJ z=ah)(C:Cs):bL [.v (.str z)] C:=by
 have e:=ZdD z 3e5 C;rw[h]at e;show#[rfl,[.v 9e3],?_,eZ C];simp![e]
theorem Zcy(z:Str)(hl:z.length<=1000)(C:Cs):jT [.v (.str z)] C=ae (.v (.bl (bc z)),C):=by
 have hs:z.cps.size<=100000:=by
  have:z.cps.size=z.length:=rfl;lia
 have key:=Vbe z C;have ha:=Zbv z.cps.toList AZ.cps.contains;have hw:bc z=(decide (0<(z.length:Int))&&decide ((z.length:Int)<13)&&z.cps.toList.all AZ.cps.contains):=by
  ext bc;have e1:decide (1<=(z.length:Int))=decide (0<(z.length:Int)):=by erw[decide_eq_decide];lia
  have e2:decide ((z.length:Int)<=12)=decide ((z.length:Int)<13):=by erw[decide_eq_decide];lia
  rw[e1,e2]
 rw[hw];unfold jT Se;let te:=aD (g2 j6) 1e4 (mC 9e7);let bb:=z.cps.toList.all AZ.cps.contains;generalize(z.cps.toList.map λc=>PV.bl (AZ.cps.contains c))=BL at *;by_cases h1:0<z.length
 .by_cases h2:(z.length:Int)<13
  .simp![Ez,h1,h2,br,bu,bY,di,hs,key,ha]
  .simp![Ez,h1,h2]
 .simp![Ez,h1]
def cI(z:Str)(lo hi:Int):PV:=if bJ z=ag/\lo<=aT z/\aT z<=hi then .int (aT z)else .aS
theorem ZbZ(z:Str)(hl:z.length<=60)(lo hi:Int)(C:Cs):gb [.v (.str z),.v (.int lo),.v (.int hi)] C=ae (.v (cI z lo hi),C):=by
 have hs:z.cps.size<=100000:=by
  have:z.cps.size=z.length:=rfl;lia
 by_cases h1:z=""
 .subst h1
  have:bJ ""=ah:=by decide +kernel
  simp![gb,cI,this]
 .have key:=BE z C
  have ha:=Zbv z.cps.toList FG.cps.toList.contains;let#[c,h2,hh]:=Bo h1;by_cases hd:og z=ag
  .by_cases hb:z≠"0"/\(6e6:Str)="0"
   .have hf:bJ z=ah:=by simp[bJ,hb.1,hh,hb.2]
    have hv:cI z lo hi=.aS:=by simp[cI,hf]
    rw[hv];let#[hb1,hb2]:=hb;ext og hd;rw[hd]at ha;unfold gb Cu;generalize aD (g2 j6) 1e4 (mC (.str "0123456789"))=te at *;generalize(z.cps.toList.map λc=>PV.bl (FG.cps.toList.contains c))=BL at *;simp![h1,h2,hb1,hb2,br,bu,bY,di,hs,key,ha]
   .have hf:bJ z=ag:=by
     by_cases q:z="0"
     .simp[bJ,q]
     .have:(6e6:Str)≠"0":=λw=>hb #[q,w]
      simp[bJ,q,h1,hh,this,hd]
    have e2:=iG hf hl;ext og hd;rw[hd]at ha;ext cI;unfold gb Cu;generalize aD (g2 j6) 1e4 (mC (.str "0123456789"))=te at *;generalize(z.cps.toList.map λc=>PV.bl (FG.cps.toList.contains c))=BL at *;generalize aT z=nv at *;have hor:z="0"\/(z≠"0"/\(6e6:Str)≠"0"):=by
     by_cases q:z="0"
     .show .inl q
     .show .inr #[q,λw=>hb #[q,w]]
    rcases hor with hq|⟨hq,LD⟩
    .clear hb hh
     generalize("0":Str)=o at *;subst hq;by_cases b1:lo<=nv
     .by_cases b2:nv<=hi
      .simp![h1,br,bu,bY,di,hs,key,ha,e2,b1,b2,hf,Lv]
      .simp![h1,br,bu,bY,di,hs,key,ha,e2,b1,b2,hf,Lv]
     .simp![h1,br,bu,bY,di,hs,key,ha,e2,b1,hf,Lv]
    .by_cases b1:lo<=nv
     .by_cases b2:nv<=hi
      .simp![h1,h2,hq,LD,br,bu,bY,di,hs,key,ha,e2,b1,b2,hf]
      .simp![h1,h2,hq,LD,br,bu,bY,di,hs,key,ha,e2,b1,b2,hf]
     .simp![h1,h2,hq,LD,br,bu,bY,di,hs,key,ha,e2,b1,hf]
  .have ED:og z=ah:=by simpa using hd
   have Nv:z≠"0":=by
    rintro rfl;show hd 9e0
   have hf:bJ z=ah:=by simp[bJ,Nv,ED]
   have hv:cI z lo hi=.aS:=by simp[cI,hf]
   rw[hv];ext og ED;rw[ED]at ha;unfold gb Cu;generalize aD (g2 j6) 1e4 (mC (.str "0123456789"))=te at *;generalize(z.cps.toList.map λc=>PV.bl (FG.cps.toList.contains c))=BL at *;simp![h1,br,bu,bY,di,hs,key,ha]
inductive Pq where
 |num (n:Int)|nam (a b:Str) (n:Int)
noncomputable def Pq.P:Pq->PV
 |.num n=>.int n
 |.nam a b n=>.tup [.str a,.str b,.int n]
noncomputable def dv (z:Str):List Str:=Txt.split z ⟨(List.toArray [46])⟩
theorem Ac(c:Nat):∀(l:List Nat),∀p∈kQ c l,p.length<=l.length
 |[],p,h=>by simp[kQ]at h;subst h;simp
 |x::r,p,h=>by
  have ih:=Ac c r;ext kQ h;split at h
  .rcases Ye.mp h with rfl|h
   .simp
   .have:=ih p h;simp;lia
  .rcases Ye.mp h with rfl|h
   .have hn:=Fl c r
    cases e:kQ c r with
    |nil=>show absurd e hn
    |cons q s=>
     have:=ih q (by rw[e];simp);simp;lia
   .have:=ih p (List.mem_of_mem_tail h);simp;lia
theorem oa{p:Str}(h:p∈dv z):p.length<=z.length:=by
 have e:=pY 46 z;rw[B0,B0];show Ac 46 z.cps.toList _ ?_;rw[←e];show VP h
theorem ZcE(z:Str)(hl:z.length<=60):hU (.str z) [.str "."]=ae (.lst ((dv z).map .str)):=by
 change(if 1<=(⟨(List.toArray [46])⟩:Str).length/\z.length<=100000 then ae (PV.lst ((Txt.split z ⟨(List.toArray [46])⟩).map .str))else af)=_;rw[aE #[by decide,by lia]];rfl
def fP(ps:2e2):Option Pq:=match ps with
 |[a,b,n]=>if bJ n=ag then ae (.nam a b (aT n))else af
 |_=>af
theorem Zb4{ps:2e2}(h:ps.length=3):∃a b n,ps=[a,b,n]:=by
 match ps,h with
 |[a,b,n],_=>show#[a,b,n,rfl]
theorem ZdX{ps:2e2}(h:ps.length≠3):fP ps=af:=by
 ext fP;split
 .simp at h
 .rfl
theorem ph(z:Str)(hl:z.length<=60)(C:Cs):kM [.v (.str z)] C=(fP (dv z)).map λp=>(.v p.P,C):=by
 have e:=ZcE z hl;by_cases h3:(dv z).length=3
 .let#[a,b,n,hd]:=Zb4 h3
  have hn:n.length<=60:=by
   have:=oa (z:=z) (p:=n) (by rw[hd];simp);lia
  have r:=ZaS n hn C;rw[hd]at e⊢
  erw[fP]
  by_cases hf:bJ n=ag
  .rw[aE hf]at r⊢
   let nv:=aT n;simp![kM,e,xq,dN,fW,eo,dW,r,Pq.P]
  .rw[aI hf]at r⊢
   simp![kM,e,xq,dN,fW,eo,dW,r]
 .rw[ZdX h3]
  have h3':((dv z).length:Int)≠3:=by lia
  have hm:((dv z).map PV.str).length=(dv z).length:=by simp
  generalize(dv z).map PV.str=D at *;have h4:(D.length:Int)≠3:=by lia
  have h5:D.length≠3:=by lia
  simp![kM,e,Em,h4,h5]
theorem yl(hl:z.length<=60)(h:fP (dv z)=af)(C:Cs):fU [.v (.str z)] C:=by
 have e:=ZcE z hl;by_cases h3:(dv z).length=3
 .let#[a,b,n,hd]:=Zb4 h3
  have hn:n.length<=60:=by
   have:=oa (z:=z) (p:=n) (by rw[hd];simp);lia
  rw[hd]at e h;have hf:bJ n=ah:=by
   erw[fP]at h
   by_cases hf:bJ n=ag
   .rw[aE hf]at h;cases h
   .simpa using hf
  show#[rfl,[#[.str z],#[.lst [.str a,.str b,.str n]]],?_,.inr #[[#[.str z],#[.lst [.str a,.str b,.str n]]],?_,.v (.str a),?_,.v (.str b),?_,[.v (.str n)],?_,Zbh hn hf C]]
  .simp![e]
  .simp![xq]
  .simp![dN,fW,eo,dW]
  .simp![dN,fW,eo,dW]
  .simp![dN,fW,eo,dW]
 .have hm:((dv z).map PV.str).length=(dv z).length:=by simp
  generalize(dv z).map PV.str=D at *;have h4:(D.length:Int)≠3:=by lia
  have h5:D.length≠3:=by lia
  show#[rfl,[#[.str z],#[.lst D]],?_,.inl #[[.v 9e3],?_,eZ C]]
  .simp![e]
  .simp![h4,h5]
def fw(l:List Pt):PV:=.tup (l.map Pt.P)
inductive Dd:Str->List Pt->Prop
 |join:Dd "join" []
 |say (w:Str) (hw:bc w=ag):Dd "say" [.st w]
 |zj (c p:Int) (h0:0<=c) (h1:c<12) (h2:0<=p) (h3:p<9):Dd "do" [.num c,.num p]
 |free (c:Int) (h0:0<=c) (h1:c<12):Dd "free" [.num c]
 |ready (c:Int) (h0:0<=c) (h1:c<12):Dd "ready" [.num c]
 |hand (c:Int) (w:Str) (h0:0<=c) (h1:c<12) (hw:bc w=ag) (hb:w≠"bell"):Dd "hand" [.num c,.st w]
 |quit (c:Int) (h0:0<=c) (h1:c<12):Dd "quit" [.num c]
 |note:Dd "note" []
theorem JM(k:Nat)(C:Cs)(g:GS C k):∃(kd:Str)(ps:List Pt)(C':Cs),oR [.c k] C=ae (.v (fw (.st kd::ps)),C')/\Dd kd ps/\lB k C C':=by
 let#[c,C1,e1,DX,hc1,a1]:=uc k 12 C g 2e7;let#[p,C2,e2,hp0,hp1,a2]:=uc k 9 C1 a1.gs 2e7;let#[w,C3,e3,hw,a3]:=mK k C2 a2.gs;let#[d,C4,e4,hd0,hd1,a4]:=uc k 8 C3 a3.gs 2e7;have uB:=((a1.trans a2).trans a3).trans a4;obtain⟨v,hv,hvw,hvb⟩:∃v:Str,dN (.lst [.str w,.str "belle"]) (.int (if w="bell" then 1 else 0))=ae (.str v)/\bc v=ag/\v≠"bell":=by
  split
  .show#["belle",rfl,by decide +kernel,by decide +kernel]
  .show#[w,rfl,hw,by assumption]
 let#[q,hq,e5]:=zD [.tup [.str "join"],.tup [.str "say",.str w],.tup [.str "do",.int c,.int p],.tup [.str "free",.int c],.tup [.str "ready",.int c],.tup [.str "hand",.int c,.str v],.tup [.str "quit",.int c],.tup [.str "note"]] d hd0 (by simpa using hd1);have run:oR [.c k] C=ae (.v q,C4):=by
  simp![oR,fm,iA,e1,e2,e3,e4,e5,hv,a1.take,a2.take,a3.take,a4.take,uB.take]
 rw[run]
 erw[Ye,Yq,or_false]at hq
 rcases hq with rfl|rfl|rfl|rfl|rfl|rfl|rfl|rfl
 .show#["join",[],C4,rfl,.join,uB]
 .show#["say",[.st w],C4,rfl,.say w hw,uB]
 .show#["do",[.num c,.num p],C4,rfl,.zj c p DX hc1 hp0 hp1,uB]
 .show#["free",[.num c],C4,rfl,.free c DX hc1,uB]
 .show#["ready",[.num c],C4,rfl,.ready c DX hc1,uB]
 .show#["hand",[.num c,.st v],C4,rfl,.hand c v DX hc1 hvw hvb,uB]
 .show#["quit",[.num c],C4,rfl,.quit c DX hc1,uB]
 .show#["note",[],C4,rfl,.note,uB]
def gz(kd:Str)(ps:List Pt):List Str:=if kd="hand" then(match ps with|[a,b]=>["hand",a.T,"to",b.T]|_=>[])else kd::ps.map Pt.T
theorem JP{k:Str}{ps:List Pt}(h:Dd k ps):(∀p∈ps,p.Ok)/\bc k=ag/\ps.length<=2:=by
 cases h<;>show#[?_,by decide +kernel,by simp]<;>simp[Pt.Ok]<;>first|assumption|(show#[?_,?_]<;>first|assumption|lia|(show#[?_,?_]<;>first|assumption|lia))|skip
theorem JO{k:Str}{ps:List Pt}(h:Dd k ps):∀p∈ps,∀x,p≠.nm x:=by
 cases h<;>simp
noncomputable def ky (t:Nm):List Key:=[.inr t.h,.inr t.d,.inl t.n]
def Bb(t u:Nm):Bool:=(gr t.P u.P).getD ah
theorem Hl(t u:Nm):gr t.P u.P=ae (Bb t u):=by
 have h:∃c,gr t.P u.P=ae c:=by
  unfold Nm.P gr iF;split
  .ext iF;split
   .ext iF;split
    .ext iF;show 7e2
    .ext gr;show 7e2
   .ext gr;show 7e2
  .ext gr;show 7e2
 let#[c,e]:=h;ext Bb;rw[e];rfl
theorem ZcM(g:PV->Bool)(ts:List Nm)(h:∀t:Nm,g t.P=ag):(ts.map Nm.P).all g=ag:=by
 rw[YE];intro x hx;let#[t,_,rfl]:=YV.mp hx;show h t
theorem VaP(ts:List Nm):zp (ts.map Nm.P)=ag:=ZcM _ ts λt=>ZcM _ ts λu=>by rw[Hl];rfl
theorem tL:∀ts:List Nm,c9 (ts.map Nm.P)=ag
 |[]=>rfl
 |t::ts=>by rw[Yi];ext c9;rw[tL ts];simp[Nm.P,dat,c9]
theorem tJ:∀ts:List Nm,cS (ts.map Nm.P)<=1
 |[]=>by simp[cS]
 |t::ts=>by rw[Yi];ext cS;have:=tJ ts;simp[Nm.P,dep,cS];lia
theorem uY(ts:List Nm):sortable (ts.map Nm.P)=ag:=by
 ext sortable;rw[ZcM (λp=>du p==4) ts λt=>rfl];simp
theorem Fo(ts:List Nm)(h:ts.length<64):∃us:List Nm,sortI (ts.map Nm.P)=ae (us.map Nm.P)/\us.length=ts.length/\∀u∈us,u∈ts:=by
 let#[h1,h2]:=sf (oP (ts.map Nm.P)) (ts.map Nm.P).length;have h3:=tJ ts;have e:sortI (ts.map Nm.P)=ae ((kX (oP (ts.map Nm.P)) (ts.map Nm.P).length).map λi=>(ts.map Nm.P).getD i .aS):=by
  ext sortI;rw[aE (by erw[tL,uY,VaP,Yk,Bool.and_true,Bool.true_and,Yl,g6];lia)]
 rw[e];generalize kX (oP (ts.map Nm.P)) (ts.map Nm.P).length=z at *;rw[Yk]at h1 h2;show#[z.map λi=>ts.getD i #["","",0],?_,by rw[Yk,h1],λu hu=>?_]
 .rw[XX]
  congr 1
  show List.map_congr_left λi hi=>?_;have:=h2 i hi;simp[UB,this]
 .let#[i,hi,rfl]:=YV.mp hu
  have:=h2 i hi;simp[UB,this]
theorem GB(us:List Nm)(t:Nm)(hn:us.Nodup):∃ml:List Nm,lD (us.map ky) (ky t)=ml.map ky/\ml.length<=us.length+1/\ml.Nodup/\∀u∈ml,u∈us\/u=t:=by
 ext lD;by_cases h:Lx (ky t) (us.map ky)=ag
 .rw[aE h];show#[us,rfl,by lia,hn,λu hu=>.inl hu]
 .rw[aI h]
  show#[us++[t],by simp,by simp,?_,λu hu=>by simpa using hu];rw[Vr];show#[hn,by simp,λa ha b hb e=>?_];have hb:b=t:=by simpa using hb
  subst hb e;show h (Nu.mpr (VP ha))
theorem vJ(us:List Nm):(us.map ky).map tupK=us.map Nm.P:=by rw[XX];rfl
structure Lt where
 x:Nm
 prev:Int
 cY:List Nm
 time:Int
 kd:Str
 ps:List Pt
def Lt.P(l:Lt):PV:=.tup [.str l.x.h,.str l.x.d,.int l.x.n,.int l.prev,.tup (l.cY.map Nm.P),.int l.time,fw (.st l.kd::l.ps)]
structure Lt.Ok(l:Lt):Prop where
 x:l.x.Ok
 p0:0<=l.prev
 p1:l.prev<10^30
 g:∀y∈l.cY,y.Ok/\(y.h=l.x.h->y.d≠l.x.d)
 gn:l.cY.length<=31
 t0:0<=l.time
 t1:l.time<10^30
 d:Dd l.kd l.ps
theorem qP{g:5e8}{te:3e6}{C:Cs}(I:aM->Prop):∀(xs:List PV),(∀x∈xs,∀ρ,I ρ->∃ρ',g x ρ=ae ρ'/\I ρ'/\te ρ' C=ae (.v 10e8,C))->∀ρ ys,I ρ->bN g gq te xs ρ ys C=ae (ys++xs.map λ_=>.bl ag,C)
 |[],_,ρ,ys,_=>by simp[bN,Pu.ret]
 |x::xs,h,ρ,ys,i=>by
  let#[ρ',e1,i',e2]:=h x (.head _) ρ i;have e:=qP I xs (λy hy=>h y (.tail _ hy)) ρ' (ys++[.bl ag]) i';simp[bN,gq,bP,Pu.ret,e1,e2,e]
theorem all_true(xs:List PV):iC [.lst (xs.map λ_=>.bl ag)]=ae 10e8:=by
 have:=ZcA (λ_:PV=>ag) xs;simp[iC,this]
theorem JQ(t:Nm):dat t.P=ag:=by simp[Nm.P,dat,c9]
theorem VaF(t:Nm):dep t.P=1:=by simp[Nm.P,dep,cS]
theorem A9(t u:Nm):jC t.P u.P=ae (.bl (Bb t u)):=by
 ext jC;rw[JQ,JQ,VaF,Hl];rfl
theorem ne2{a b c d:Str}(h:a=c->b≠d):cn 18e6 (.tup [.str a,.str b]) (.tup [.str c,.str d])=ae 10e8:=by
 ext cn;simp[dat,c9,dep,cS,aZ,eQ];by_cases q:a=c
 .show .inr (h q)
 .show .inl q
theorem VaN(x:Nm):cG [.str x.h,.str x.d,.int x.n] af (ae 2)=[.str x.h,.str x.d]:=rfl
theorem wO(xs:List PV):cG xs (ae 1) af=xs.drop 1:=by
 simp[cG,HT.dA];rcases xs with _|⟨a,l⟩
 .rfl
 .simp
def Lt.tm(l:Lt):Str:=c8 l.time++(17e1:Str)
def Lt.tW(l:Lt):List Str:=("at":Str)::l.tm::gz l.kd l.ps
def Lt.gW(l:Lt):List Str:=(if l.cY=[]then[]else("got":Str)::l.cY.map Nm.T)++l.tW
def Lt.aW(l:Lt):List Str:=(if l.prev=0 then[]else[("after":Str),c8 l.prev])++l.gW
def Lt.W(l:Lt):List Str:=l.x.h::l.x.d::c8 l.x.n::l.aW
theorem ne1(a:Str)(r:List PV)(b:Str):cn 18e6 (.lst (cG (.str a::r) af (ae 1))) (.lst [.str b])=ae (.bl (decide (a≠b))):=by
 have:cG (.str a::r) af (ae 1)=[.str a]:=by simp[cG,HT.dA]
 rw[this];ext cn;simp[dat,c9,dep,cS,aZ,eQ];by_cases h:a=b<;>simp[h]
theorem KC:¬(("at":Str)="after"):=by decide +kernel
theorem Vbg:¬(("at":Str)="got"):=by decide +kernel
theorem HV:¬(("got":Str)="at"):=by decide +kernel
theorem tN(a b:PV)(r:List PV):cG (a::b::r) (ae 2) af=r:=by
 simp[cG,HT.dA]
theorem Kz(hw:∀w∈ws,w≠"at")(b:Str)(hb:b≠"at")(r:2e2):jj (.lst ((b::(ws++("at":Str)::r)).map .str)) [.str "at"]=ae (.int ((ws.length+1:Nat):Int)):=by
 have hf:((b::(ws++("at":Str)::r)).map PV.str).all eU=ag:=by
  rw[YE];intro x hx;let#[z,_,rfl]:=YV.mp hx;rfl
 have hi:((b::(ws++("at":Str)::r)).map PV.str).findIdx? (λy=>tI y (.str "at"))=ae (ws.length+1):=by
  rw[Yi,WG];have:tI (.str b) (.str "at")=ah:=by simp[tI,hb]
  rw[this];have k:∀ws:List Str,(∀w∈ws,w≠"at")->((ws++("at":Str)::r).map PV.str).findIdx? (λy=>tI y (.str "at"))=ae ws.length:=by
   intro ws;induction ws with
   |nil=>intro _;simp[WG,tI]
   |cons w ws ih=>
    intro hw;have hw1:tI (.str w) (.str "at")=ah:=by simp[tI,hw w (.head _)]
    rw[VB,Yi,WG,hw1,ih λz hz=>hw z (.tail _ hz)];simp
  rw[k ws hw];simp
 ext jj;dsimp only;rw[hf,hi];rfl
theorem Vdj(xs r:List PV)(h:xs.all eU=ag)(h2:r.all eU=ag):j6 (.str "at") (.lst (xs++.str "at"::r))=ae 10e8:=by
 unfold j6 Qp;have:(xs++.str "at"::r).all eU=ag:=by
  rw[List.all_append,h,Xm,h2];rfl
 erw[this]
 simp[eU,tI]
theorem Og(a:PV)(ws r:List PV):cG (a::(ws++r)) (ae 1) (ae ((ws.length+1:Nat):Int))=ws:=by
 simp[cG,HT.dA];rw[aI 3e5];simp
theorem Oh(a:PV)(ws r:List PV):cG (a::(ws++r)) (ae ((ws.length+1:Nat):Int)) af=r:=by
 simp[cG,HT.dA];rw[aI 3e5];simp
theorem ZdC(ws:2e2):(ws.map PV.str).all eU=ag:=by
 rw[YE];intro x hx;let#[z,_,rfl]:=YV.mp hx;rfl
def ST(l:Lt)(v:11e4):aM:=[#[l.P],#[.str l.x.h],#[.str l.x.d],#[.int l.x.n],#[.int l.prev],#[.tup (l.cY.map Nm.P)],#[.int l.time],#[fw (.st l.kd::l.ps)],v]
def u0:aM->M PF:=fQ 1e4 (eP (bf (hName 1) (bf (hName 2) (bf (hName 3) (bf (hName 4) (bf (hName 5) (bf (hName 6) (bf (hName 7) fZ))))))) 7)
theorem VbH(l:Lt)(C:Cs):u0 [#[l.P],af,af,af,af,af,af,af,af] C=ae (.nx (ST l af),C):=by
 unfold ST Lt.P;generalize fw (.st l.kd::l.ps)=DD;generalize l.cY.map Nm.P=GG;simp![u0,fQ,eP,bf,hName,fZ]
structure W8(C0 D:Cs)(n:Nat)(ws:List Str):Prop where
 cell:D[n]? = ae (.lst 4e2)
 tk:D.take C0.length=C0
 le:C0.length<=n
theorem W8.lt{C0:Cs}(h:W8 C0 D n ws):n<D.length:=by
 rcases Y2 n D.length with q|q
 .show q
 .have:=h.cell;rw[YA.mpr q]at this;cases this
theorem W8.mk'{C0:Cs}(h1:D.take C0.length=C0)(h2:C0.length<=D.length)(us:2e2):W8 C0 (D++[.lst (us.map .str)]) D.length us:=
 #[by simp,by rw[VC h2];show h1,h2]
theorem W8.new{C0:Cs}(h:W8 C0 D n ws)(us:2e2):W8 C0 (D++[.lst (us.map .str)]) D.length us:=.mk' h.tk (by have:=h.lt;have:=h.le;lia) us
theorem MW{f:12e2}{l:Lt}{v:11e4}(h:f (ST l v) D=ae (ps,D)):gg 8 f (ST l v) D=ae (.nx (ST l (ae (.c D.length))),D++[.lst ps]):=by
 unfold gg bP;rw[h];rfl
def v1:aM->M 5e5:=bQ (ak 3e9 (ak 6e1 (ak (cB (g1 gf) (ak 9e2 ao)) ao)))
def v2:aM->M 5e5:=jJ (aV 8) (bh (bQ (ak (mC (.str "after")) (ak (cB (g1 gf) (ak 6e9 ao)) ao))))
def v3:aM->M 5e5:=jJ (aD 8e5 (aV 8) (bh (bQ (ak (mC (.str "got")) ao)))) (bh (br (bu (aV 5)) 17e0 [] 8e6 gq (bw l6 2e4)))
def v4:aM->M 5e5:=jJ (aD 8e5 (aV 8) (bh (bQ (ak 10e9 (ak (aD 8e5 (cB (g1 gf) 15e3) (mC (.str ":"))) ao))))) (bh (br (bu (aV 7)) ["_law_part"] [] 8e6 gq (cB (g1 gf) 2e4)))
def u1:aM->M PF:=gg 8 v1
def u2:aM->M PF:=bx (aH (aD 1e9 6e9 2e6)) (gg 8 v2) bo
def u3:aM->M PF:=bx (aH (aD 1e9 (aV 5) (cj ao))) (gg 8 v3) bo
def u4:aM->M PF:=gg 8 v4
def u5:aM->M PF:=bx (aH (aD 2e5 (aD 3e3 (aV 7) 2e6) (mC (.str "hand")))) (cb (pF (aV 8) (ak (aD (g2 gD) (cB (g1 fG) (ak (aV 8) ao)) 1e8) (ak 11e0 ao)))) bo
theorem EX:Cz=aC u0 (aC u1 (aC u2 (aC u3 (aC u4 (aC u5 (bj (aV 8))))))):=rfl
theorem VbG{l:Lt}(o:l.Ok)(C:Cs):∃n D,u1 (ST l af) C=ae (.nx (ST l (ae (.c n))),D)/\W8 C D n [l.x.h,l.x.d,c8 l.x.n]:=by
 have hl:=nF (n:=l.x.n) (by have:=o.x.n0;lia) o.x.n1;show#[_,_,MW (ps:=[l.x.h,l.x.d,c8 l.x.n].map .str) ?_,.mk' 3e7 (Yo _) _];ext ST;simp![v1,gf,hl]
theorem VbF{l:Lt}(o:l.Ok)(h:W8 C D n ws)(hw:ws.length<=100):∃n' D',u2 (ST l (ae (.c n))) D=ae (.nx (ST l (ae (.c n'))),D')/\W8 C D' n' (ws++if l.prev=0 then[]else[("after":Str),c8 l.prev]):=by
 have hl:=nF o.p0 o.p1;by_cases hp:l.prev=0
 .show#[n,D,EI ?_,by rw[aE hp,Yv];show h]
  ext ST;simp![hp]
 .have e:aH (aD 1e9 6e9 2e6) (ST l (ae (.c n))) D=ae (ag,D):=by
   ext ST;simp![hp]
  show#[_,_,(pI e).trans (MW (ps:=(ws++[("after":Str),c8 l.prev]).map .str) ?_),by rw[aI hp];show h.new _];have hc:=h.cell;have hx:(ws.map PV.str).length+2<=100000:=by simp;lia
  rw[Vi];sleep 11;ext ST;simp![v2,gf,hl,jJ,wX,hc,hx]
theorem MX(gs:List Nm):cn 18e6 (.tup 8e0) (.tup [])=ae (.bl (decide (gs≠[]))):=by
 have h1:=tL gs;have h2:=tJ gs;ext cn;rw[aE]
 .cases gs<;>simp[aZ,eQ]
 .erw[dat,h1,dep]
  simp[c9];lia
theorem VbE{l:Lt}(o:l.Ok)(h:W8 C D n ws)(hw:ws.length<=100):∃n' D',u3 (ST l (ae (.c n))) D=ae (.nx (ST l (ae (.c n'))),D')/\W8 C D' n' (ws++if l.cY=[]then[]else("got":Str)::l.cY.map Nm.T):=by
 have en:=MX l.cY;by_cases hp:l.cY=[]
 .show#[n,D,EI ?_,by rw[aE hp,Yv];show h]
  rw[dm (by simp[hp])]at en;ext ST;let GG:=l.cY.map Nm.P;simp![en]
 .rw[eF hp]at en
  have e:aH (aD 1e9 (aV 5) (cj ao)) (ST l (ae (.c n))) D=ae (ag,D):=by
   ext ST;let GG:=l.cY.map Nm.P;simp![en]
  show#[_,_,(pI e).trans (MW (ps:=(ws++("got":Str)::l.cY.map Nm.T).map .str) ?_),by rw[aI hp];show h.new _];have hc:=h.cell;have hgn:=o.gn;have hk:=Zcx (te:=bw l6 2e4) (g:=Nm.P) (f:=λx:Nm=>PV.str x.T) l.cY [af] [] D (λx hx=>by
   have e:=sT (o.g x hx).1 D;simp[bw,bP,ak,ao,aV,Pu.ret,e])
  have hm:(l.cY.map λx:Nm=>PV.str x.T)=(l.cY.map Nm.T).map .str:=by rw[XX];rfl
  rw[hm,XA]at hk;have hx:(ws.map PV.str).length+1<=1000000:=by simp;lia
  have hl:(l.cY.map Nm.P).length<=100000:=by simp;lia
  have hy:(ws.map PV.str).length+1+((l.cY.map Nm.T).map PV.str).length<=100000:=by simp;lia
  rw[Vi,Yi];unfold ST v3;sleep 11;generalize(l.cY.map Nm.T).map PV.str=GT at *;let GP:=l.cY.map Nm.P;let te:=bw l6 2e4;simp![jJ,wX,hc,fm,hx,br,bu,bY,di,hl,hk,hy]
theorem uU{p:Pt}(h:p.Ok)(hn:∀x,p≠.nm x)(C:Cs):cB (g1 gf) 2e4 [#[p.P]] C=ae (.v (.str p.T),C):=by
 cases p with
 |st k=>simp![Pt.P,Pt.T,gf]
 |nm x=>show absurd rfl (hn x)
 |num n=>
  have hl:=nF h.1 h.2;simp![Pt.P,Pt.T,gf,hl]
theorem VbD{l:Lt}(o:l.Ok)(h:W8 C D n ws)(hw:ws.length<=100):∃n' D',u4 (ST l (ae (.c n))) D=ae (.nx (ST l (ae (.c n'))),D')/\W8 C D' n' (ws++("at":Str)::l.tm::l.kd::l.ps.map Pt.T):=by
 have hlg:=nF o.t0 o.t1;have hnl:=ZcI o.t0 o.t1;let#[ho,hwd,gk]:=JP o.d;have hpn:=JO o.d;show#[_,_,MW (ps:=(ws++("at":Str)::l.tm::l.kd::l.ps.map Pt.T).map .str) ?_,h.new _];have hc:=h.cell;have hk:bN 8e6 gq (cB (g1 gf) 2e4) (.str l.kd::l.ps.map Pt.P) [af] [] D=ae ((l.kd::l.ps.map Pt.T).map .str,D):=by
  have:=Zcx (te:=cB (g1 gf) 2e4) (g:=Pt.P) (f:=λp:Pt=>PV.str p.T) (.st l.kd::l.ps) [af] [] D (λp hp=>by
   rcases Ye.mp hp with rfl|hp
   .show uU (p:=.st l.kd) hwd 3e7 D
   .show uU (ho p hp) (hpn p hp) D)
  rw[XA]at this;rw[Yi,XX];show this
 have hx:(ws.map PV.str).length+2<=1000000:=by simp;lia
 have hl:(l.ps.map Pt.P).length<=99999:=by simp;lia
 have hy:(ws.map PV.str).length+2+((l.kd::l.ps.map Pt.T).map PV.str).length<=100000:=by simp;lia
 have ht:fm (.str (c8 l.time)) (.str ":")=ae (.str l.tm):=by
  change(if(c8 l.time).length+(17e1:Str).length<=1000000 then ae (PV.str (c8 l.time++17e1))else af)=_;rw[aE (by change _+1<=_;lia)];rfl
 rw[Vi,Yi,Yi];unfold ST v4 fw
 erw[Yi (f:=Pt.P),Pt.P]
 let TM:=l.tm;generalize(l.kd::l.ps.map Pt.T).map PV.str=DW at *;sleep 11;let PP:=l.ps.map Pt.P;generalize hte:cB (g1 gf) 2e4=te at *;have h6:cB (g1 gf) 15e3 [#[l.P],#[.str l.x.h],#[.str l.x.d],#[.int l.x.n],#[.int l.prev],#[.tup (l.cY.map Nm.P)],#[.int l.time],#[.tup (.str l.kd::PP)],ae (.c n)] D=ae (.v (.str (c8 l.time)),D):=by
  simp![gf,hlg]
 have ha:fm (.lst WS) (.lst [.str "at",.str TM])=ae (.lst (WS++[.str "at",.str TM])):=by
  simp[fm,hx]
 let t6:=cB (g1 gf) 15e3;simp![jJ,wX,hc,ht,h6,ha,br,bu,bY,di,hl,hk];rw[aE hy]
theorem xW(l:Lt):l.tm.cps.toList=(c8 l.time).cps.toList++[58]:=by
 ext Lt.tm;rw[LR,Y5]
theorem Sv(l:Lt):l.tm.length=(c8 l.time).length+1:=by
 rw[B0,xW,B0];simp
theorem tw{k:Str}{ps:List Pt}(h:Dd k ps)(hk:k="hand"):∃(c:Int)(w:Str),ps=[.num c,.st w]:=by
 cases h<;>first|show#[_,_,rfl]|show absurd hk 9e0
theorem VaI{k:Str}{ps:List Pt}(h:Dd k ps):1<=(gz k ps).length/\(gz k ps).length<=4:=by
 let#[_,_,hl]:=JP h;ext gz;split
 .rename_i hk
  let#[c,w,rfl]:=tw h hk;simp
 .simp;lia
theorem Ni(k:Str)(ps:List Pt):dN (fw (.st k::ps)) (.int 0)=ae (.str k):=by
 ext fw;simp[dN,fW,eo,dW,Pt.P]
theorem VbC{l:Lt}(o:l.Ok)(hw:ws.length<=100)(h:W8 C D n (ws++("at":Str)::l.tm::l.kd::l.ps.map Pt.T)):∃D',u5 (ST l (ae (.c n))) D=ae (.nx (ST l (ae (.c n))),D')/\W8 C D' n (ws++("at":Str)::l.tm::gz l.kd l.ps):=by
 have ei:=Ni l.kd l.ps;by_cases hk:l.kd="hand"
 .let#[c,w,hp]:=tw o.d hk
  have e:aH (aD 2e5 (aD 3e3 (aV 7) 2e6) (mC (.str "hand"))) (ST l (ae (.c n))) D=ae (ag,D):=by
   ext ST;generalize fw (.st l.kd::l.ps)=DD at *;simp![ei,hk]
  obtain⟨A,hA,hAl⟩:∃A:List PV,(ws++("at":Str)::l.tm::l.kd::l.ps.map Pt.T).map PV.str=A++[.str w]/\A=(ws++[("at":Str),l.tm,"hand",c8 c]).map PV.str:=by
   show#[_,?_,rfl];rw[hp,hk];simp[Pt.T]
  have hl:A.length<=1000:=by rw[hAl];simp;lia
  have hc:=h.cell;rw[hA]at hc;show#[D.set n (.lst (A++[.str "to",.str w])),(pI e).trans ?_,?_,?_,h.le]
  .have t1:(A++[PV.str w]).take A.length=A:=by simp
   have t2:(A++[PV.str w]).drop A.length=[.str w]:=by simp
   have i1:(0:Int)<=((A++[PV.str w]).length:Int)-1/\((A++[PV.str w]).length:Int)-1<=(A++[PV.str w]).length/\(A++[PV.str w]).length<100000:=by simp;lia
   have i2:(((A++[PV.str w]).length:Int)-1).toNat=A.length:=by simp
   have VeT:yQ (.c n) [.v (.int (((A++[PV.str w]).length:Int)-1)),.v (.str "to")] D=ae (.v .aS,D.set n (.lst (A++[.str "to",.str w]))):=by
    ext yQ
    erw[hc]
    rw[aE i1,i2,t1,t2]
   let AW:=A++[PV.str w];ext ST;simp![pF,gT,hc,gD,VeT]
  .rw[setAt hc,hk,hp,hAl]
   simp[gz,Pt.T]
  .rw[List.take_set,List.set_eq_of_length_le]
   .show h.tk
   .have:=h.le;rw[Y8];lia
 .show#[D,EI ?_,?_]
  .ext ST
   generalize fw (.st l.kd::l.ps)=DD at *;simp![ei,hk]
  .ext gz
   rw[aI hk];show h
theorem ZbT{l:Lt}(o:l.Ok)(C:Cs):iN [.v l.P] C=ae (l.W.map .str,C):=by
 have hgn:=o.gn;let#[n1,D1,e1,h1]:=VbG o C;let#[n2,D2,e2,h2]:=VbF o h1 3e7;let#[n3,D3,e3,h3]:=VbE o h2 (by split<;>simp);let#[n4,D4,e4,h4]:=VbD o h3 (by split<;>split<;>simp<;>lia);let#[D5,e5,h5]:=VbC o (by split<;>split<;>simp<;>lia) h4;have hW:[l.x.h,l.x.d,c8 l.x.n]++(if l.prev=0 then[]else[("after":Str),c8 l.prev])++(if l.cY=[]then[]else("got":Str)::l.cY.map Nm.T)++("at":Str)::l.tm::gz l.kd l.ps=l.W:=by
  unfold Lt.W Lt.aW Lt.gW Lt.tW
  erw[Yx];rfl
 rw[hW]at h5;have run:Cz [#[l.P],af,af,af,af,af,af,af,af] C=ae (.rt (.c n4),D5):=by
  rw[EX,dw (VbH l C),dw e1,dw e2,dw e3,dw e4,dw e5];rfl
 have hle:¬n4<C.length:=by have:=h5.le;lia
 have hce:=h5.cell;have htk:=h5.tk;ext iN;let bb:=Cz;let LP:=l.P;let WS:=l.W.map PV.str;simp[vQ,run,hle,hce,htk]
abbrev Gw(w:Str):Prop:=32∉w.cps.toList/\w.cps.toList≠[]/\w.length<=56
theorem nS{p:Pt}(h:p.Ok):Gw p.T:=by
 have h1:=Tz h;show#[MB h,λe=>?_,h1.2];have:=h1.1;rw[B0,e]at this;simp at this
theorem yT{n:Int}(h0:0<=n)(h1:n<10^30):Gw (c8 n):=nS (p:=.num n) #[h0,h1]
theorem tx{w:Str}(h:bc w=ag):Gw w:=nS (p:=.st w) h
theorem Nz{k:Str}{ps:List Pt}(h:Dd k ps):∀w∈gz k ps,Gw w:=by
 let#[ho,hwd,gk]:=JP h;intro w hw;ext gz hw;split at hw
 .rename_i hk
  let#[c,v,rfl]:=tw h hk;have g1:=nS (ho (.num c) 3e7);have g2:=nS (ho (.st v) 3e7)
  erw[Ye,Yq,or_false]at hw
  rcases hw with rfl|rfl|rfl|rfl
  .decide +kernel
  .show g1
  .decide +kernel
  .show g2
 .rcases Ye.mp hw with rfl|hw
  .show tx hwd
  .let#[p,hp,rfl]:=YV.mp hw
   show nS (ho p hp)
theorem ll(a b:Str):(a++b).length=a.length+b.length:=Vu a b
theorem VcS{l:Lt}(o:l.Ok):Gw l.tm:=by
 let#[h1,h2,h3]:=yT o.t0 o.t1;have hn:=ZcI o.t0 o.t1;show#[?_,?_,?_]
 .rw[xW];simp[h1]
 .rw[xW];simp
 .rw[Sv];lia
def Lt.A(l:Lt):List Str:=if l.prev=0 then[]else[("after":Str),c8 l.prev]
def Lt.G(l:Lt):List Str:=if l.cY=[]then[]else("got":Str)::l.cY.map Nm.T
theorem Ve4{l:Lt}(o:l.Ok):∀w∈l.A,Gw w:=by
 intro w hw;ext Lt.A hw;split at hw
 .simp at hw
 .erw[Ye,Yq,or_false]at hw
  rcases hw with rfl|rfl
  .decide +kernel
  .show yT o.p0 o.p1
theorem Ve3{l:Lt}(o:l.Ok):∀w∈l.G,Gw w:=by
 intro w hw;ext Lt.G hw;split at hw
 .simp at hw
 .rcases Ye.mp hw with rfl|hw
  .decide +kernel
  .let#[x,hx,rfl]:=YV.mp hw
   show nS (p:=.nm x) (o.g x hx).1
theorem Ve2{l:Lt}(o:l.Ok):∀w∈[l.x.h,l.x.d,c8 l.x.n],Gw w:=by
 intro w hw
 erw[Ye,Yq,or_false]at hw
 rcases hw with rfl|rfl|rfl
 .show tx o.x.h
 .show tx o.x.d
 .show yT (by have:=o.x.n0;lia) o.x.n1
theorem ud(l:Lt):[l.x.h,l.x.d,c8 l.x.n]++l.A++l.G++("at":Str)::l.tm::gz l.kd l.ps=l.W:=by
 unfold Lt.W Lt.aW Lt.gW Lt.tW Lt.A Lt.G
 erw[Yx];rfl
theorem VcT{l:Lt}(o:l.Ok):∀w∈l.W,Gw w:=by
 intro w hw;rw[←ud]at hw
 erw[YZ]at hw
 rcases hw with((hw|hw)|hw)|hw
 .show Ve2 o w hw
 .show Ve4 o w hw
 .show Ve3 o w hw
 .rcases Ye.mp hw with rfl|hw
  .decide +kernel
  .rcases Ye.mp hw with rfl|hw
   .show VcS o
   .show Nz o.d w hw
theorem VcA(l:Lt):l.A.length<=2:=by ext Lt.A;split<;>simp
theorem Vcz{l:Lt}(o:l.Ok):l.G.length<=32:=by
 have:=o.gn;ext Lt.G;split
 .simp
 .simp;lia
theorem P7{l:Lt}(o:l.Ok):1<=l.W.length/\l.W.length<=50:=by
 have h1:=VcA l;have h2:=Vcz o;have h3:=VaI o.d;rw[←ud]
 erw[YT,YB,Wo];lia
theorem eq2(a b:Str):cn 18e6 (.tup [.str a,.str b]) (.tup [.str a,.str b])=ae 9e3:=by
 ext cn;simp[dat,c9,dep,cS,aZ,eQ]
theorem VaH{d:Str}(h:bc d=ag):∃b e,gO (.str "b") (.int (if(d.length:Int)<12 then 1 else 0))=ae (.str b)/\fm (.str d) (.str b)=ae (.str e)/\bc e=ag:=by
 have hl:=LQ h;have k:∀b:Str,b.length<=1->fm (.str d) (.str b)=ae (.str (d++b)):=λb hb=>by
  change(if _ then ae (PV.str _)else af)=_;rw[aE 3e5]
 by_cases q:(d.length:Int)<12
 .rw[aE q]
  show#["b",d++"b",congrArg (λz=>ae (PV.str z)) (by decide +kernel:Txt.mul "b" 1="b"),k _ 2e7,?_];unfold bc at h⊢;rw[ll,show("b":Str).length=1 from rfl,LR,Y5,List.all_append]
  erw[Yl,g6]at h⊢
  show#[#[by lia,by lia],h.2,by decide +kernel]
 .rw[aI q]
  show#["",d++"",congrArg (λz=>ae (PV.str z)) (by decide +kernel:Txt.mul "b" 0=""),k _ 2e7,?_];have:d++("":Str)=d:=by
   apply ZcD;rw[LR,Y5];show Yv _
  rw[this];show h
structure DA(k n:Nat)(h d:Str)(C0 C:Cs)(us:List Nm):Prop where
 len:C.length=C0.length
 gs:GS C k
 Ar:∀i,i≠k->i≠n->C[i]? = C0[i]?
 cell:∃vs,C[n]? = ae (.fz (us.map ky) vs)
 good:∀t∈us,t.Ok/\(t.h=h->t.d≠d)
 nd:us.Nodup
theorem DA.Q4{k:Nat}{h d:Str}{C0 C':Cs}{us:List Nm}(A:DA k n h d C0 C us)(LF:n≠k)(a:lB k C C'):DA k n h d C0 C' us:=
 #[a.len.trans A.len,a.gs,λi h1 h2=>(a.Ar i h1).trans (A.Ar i h1 h2),by let#[vs,e]:=A.cell;show#[vs,by rw[a.Ar n LF];show e],A.good,A.nd]
def q1:aM->M PF:=bg 7 (bw l7 2e4)
def q2:aM->M PF:=bx (aH (aD 2e5 (aD (g2 jV) (aV 6) 7e4) 4e5)) (bg 7 (cj (ak (aD 3e3 (aV 7) 2e6) (ak (aD 8e5 6e1 (aD (g2 gO) (mC (.str "b")) (cB (g1 iA) (ak (aD (g2 Ez) (cB (g1 fG) 12e3) (mC (.int 12))) ao)))) (ak (aD 3e3 (aV 7) 4e5) ao))))) bo
def q3:aM->M PF:=bx (aH (aD 1e9 (bU (aV 7) eB 16e2) (cj (ak 3e9 12e3)))) (mD (mC 10e8) (aV 5) (aV 7)) bo
def qb:aM->M PF:=aC q1 (aC q2 q3)
section
variable(k n:Nat)(h d:Str)(X3 X4:11e4)
noncomputable def QS (x6 x7:11e4):aM:=[7e7,#[.str h],#[.str d],X3,X4,ae (.c n),x6,x7]
theorem Vcf(hd:bc d=ag)(i:Int)(h0:0<=i)(t:Nm)(ht:t.Ok)(C:Cs):∃u:Nm,q2 (QS k n h d X3 X4 #[.int i] #[t.P]) C=ae (.nx (QS k n h d X3 X4 #[.int i] #[u.P]),C)/\u.Ok:=by
 let#[b,e,e1,e2,hw]:=VaH hd;have hm:jV (.int i) (.int 3)=ae (.int (i%3)):=by
  simp[jV,jZ]
 by_cases q:i%3=2
 .show#[#[t.h,e,t.n],?_,ht.h,hw,ht.n0,ht.n1]
  unfold QS Nm.P;by_cases ql:(d.length:Int)<12
  .rw[aE ql]at e1
   simp![q2,hm,q,dN,fW,eo,dW,Ez,iA,ql,e1,e2]
  .rw[aI ql]at e1
   simp![q2,hm,q,dN,fW,eo,dW,Ez,iA,ql,e1,e2]
 .show#[t,?_,ht]
  ext QS;simp![q2,hm,q]
theorem Tw(LF:n≠k)(hd:bc d=ag)(i:Int)(h0:0<=i)(x7:11e4)(C0 C:Cs)(us:List Nm)(A:DA k n h d C0 C us)(hu:us.length<100):
  ∃ml C' y7,qb (QS k n h d X3 X4 #[.int i] x7) C=ae (.nx (QS k n h d X3 X4 #[.int i] y7),C')/\DA k n h d C0 C' ml/\ml.length<=us.length+1:=by
 let#[t,C1,e1,ht,a1]:=vD k C A.gs;have s1:q1 (QS k n h d X3 X4 #[.int i] x7) C=ae (.nx (QS k n h d X3 X4 #[.int i] #[t.P]),C1):=by
  ext QS;simp![q1,e1]
 let#[u,s2,hu2]:=Vcf k n h d X3 X4 hd i h0 t ht C1;have A1:=A.Q4 LF a1;let#[vs,hn]:=A1.cell;by_cases hb:u.h=h/\u.d=d
 .show#[us,C1,#[u.P],?_,A1,by lia]
  ext qb;rw[dw s1,dw s2];show EI ?_;have ed:=eq2 h d;unfold QS Nm.P;rw[hb.1,hb.2];simp![show cG [.str h,.str d,.int u.n] af (ae 2)=[.str h,.str d]from rfl,ed]
 .have HI:u.h=h->u.d≠d:=λq1 q2=>hb #[q1,q2]
  have ed:=ne2 HI;let#[ml,eu,hl',hnd,hm]:=GB us u A1.nd;show#[ml,C1.set n (.fz (ml.map ky) (iQ (us.map ky) vs (ky u) 10e8)),#[u.P],?_,#[?_,?_,λj h1 h2=>?_,?_,λt ht=>?_,hnd],hl']
  .ext qb
   rw[dw s1,dw s2];have et:aH (aD 1e9 (bU (aV 7) eB 16e2) (cj (ak 3e9 12e3))) (QS k n h d X3 X4 #[.int i] #[u.P]) C1=ae (ag,C1):=by
    unfold QS Nm.P;simp![VaN,ed]
   show(pI et).trans ?_;have hk:lO [.str u.h,.str u.d,.int u.n]=ae (ky u):=rfl;have VeD:∀ρ,Ft (.v 10e8) (.c n) (.v u.P) ρ C1=ae (.nx ρ,C1.set n (.fz (ml.map ky) (iQ (us.map ky) vs (ky u) 10e8))):=λρ=>by
    unfold Ft Nm.P
    erw[hn,hk]
    rw[aE (by rw[Yk];lia),eu]
   ext QS;let UP:=u.P;simp![mD,VeD]
  .rw[WL];show A1.len
  .let#[y1,y2,p1,p2,p3]:=A1.gs
   show#[y1,y2,by rw[Y3 LF];show p1,p2,p3]
  .rw[Y3 (XD h2)];show A1.Ar j h1 h2
  .show#[_,setAt hn]
  .rcases hm t ht with q|rfl
   .show A1.good t q
   .show#[hu2,HI]
theorem Gs(LF:n≠k)(hd:bc d=ag)(C0:Cs):∀(xs:List Int)(us:List Nm)(C:Cs)(x6 x7:11e4),(∀i∈xs,0<=i)->DA k n h d C0 C us->us.length+xs.length<60->
  ∃ml C' y6 y7,loop (hName 6) qb (xs.map .int) (QS k n h d X3 X4 x6 x7) C=ae (.nx (QS k n h d X3 X4 y6 y7),C')/\DA k n h d C0 C' ml/\ml.length<=us.length+xs.length
 |[],us,C,x6,x7,_,A,_=>#[us,C,x6,x7,rfl,A,by simp]
 |y::xs,us,C,x6,x7,hx,A,hl=>by
  rw[YB]at hl;let#[xM,C1,z1,e1,A1,l1]:=Tw k n h d X3 X4 LF hd y (hx y (.head _)) x7 C0 C us A 3e5;let#[xR,C2,x2,z2,e2,A2,l2]:=Gs LF hd C0 xs xM C1 #[.int y] z1 (λi hi=>hx i (.tail _ hi)) A1 3e5;show#[xR,C2,x2,z2,?_,A2,by rw[YB];lia];rw[Yi];ext loop;have hh:hName 6 (.int y) (QS k n h d X3 X4 x6 x7)=ae (QS k n h d X3 X4 #[.int y] x7):=rfl
  erw[hh,bP,e1,e2]
end
theorem Br{k:Nat}(h:GS C k):k<C.length:=by
 let#[x,y,g,_]:=h;rcases Y2 k C.length with q|q
 .show q
 .rw[YA.mpr q]at g;cases g
theorem Vaf{k:Nat}(h:GS C k)(v:PV):GS (C++[v]) k:=by
 have hk:=Br h;let#[x,y,g,g1,g2]:=h;show#[x,y,by rw[Yu hk];show g,g1,g2]
theorem Nc(us:List Nm)(h:∀t∈us,t.Ok):keysOk (us.map ky)=ag:=by
 ext keysOk;rw[YE];intro k hk;let#[t,ht,rfl]:=YV.mp hk;have h1:=(LQ (h t ht).h).2;have h2:=(LQ (h t ht).d).2;have h3:t.h.length<=1000:=by lia
 have h4:t.d.length<=1000:=by lia
 simp[ky,keyOk,h3,h4]
theorem uX(us:List Nm)(vs:List PV)(C:Cs)(n:Nat)(hc:C[n]? = ae (.fz (us.map ky) vs))(h:∀t∈us,t.Ok):sh C [.c n]=sortI (us.map Nm.P):=by
 ext sh
 erw[cE,hc]
 rw[aE (Nc us h),vJ]
def a1:aM->M PF:=fQ (bw l7 2e4) (eP (bf (hName 1) (bf (hName 2) (bf (hName 3) fZ))) 3)
def a2:aM->M PF:=bg 4 (aD 3e3 (bh (bQ (ak 2e6 (ak (bw kO 2e4) (ak 2e6 (ak 1e8 ao)))))) 6e7)
def aR:aM->M 5e5:=cN (ak (aD 3e3 (bh (bQ (ak 2e6 (ak 1e8 (ak 2e6 (ak 4e5 (ak (mC (.int 7)) (ak (mC (.int 30)) ao)))))))) 15e1) ao)
def a5:aM->M PF:=bj (cj (ak 3e9 (ak 6e1 (ak 9e2 (ak 6e9 (ak (cB (g1 g9) (ak (bh (sW (ak (aV 5) ao))) ao)) (ak (bw kO 2e4) (ak (bw oR 2e4) ao))))))))
theorem DG:CA=aC a1 (aC a2 (aC (A7 5) (aC (ix aR (hName 6) qb) a5))):=rfl
theorem yL(k:Nat)(C:Cs)(g:GS C k):∃(l:Lt)(C':Cs),rR [.c k] C=ae (.v l.P,C')/\l.Ok/\lB k C C':=by
 let#[x,C1,e1,hx,b1]:=vD k C g;have s1:a1 [7e7,af,af,af,af,af,af,af] C=ae (.nx [7e7,#[.str x.h],#[.str x.d],#[.int x.n],af,af,af,af],C1):=by
  ext Nm.P e1;simp![a1,fQ,e1,eP,bf,hName,fZ]
 let#[p,C2,e2,hp0,hp1,b2]:=ZcH k C1 b1.gs;let#[j,C3,e3,hj0,hj1,b3]:=uc k 4 C2 b2.gs 2e7;let#[pv,hpv,e4]:=zD [.int 0,.int p,.int 0,.int 1] j hj0 (by simpa using hj1);obtain⟨pr,rfl,hr0,hr1⟩:∃b:Int,pv=.int b/\0<=b/\b<10^30:=by
  erw[Ye,Yq,or_false]at hpv
  rcases hpv with rfl|rfl|rfl|rfl
  .show#[_,rfl,by decide,by decide]
  .show#[_,rfl,hp0,hp1]
  .show#[_,rfl,by decide,by decide]
  .show#[_,rfl,by decide,by decide]
 have s2:a2 [7e7,#[.str x.h],#[.str x.d],#[.int x.n],af,af,af,af] C1=ae (.nx [7e7,#[.str x.h],#[.str x.d],#[.int x.n],#[.int pr],af,af,af],C3):=by
  simp![a2,e2,e3,e4]
 have b13:=(b1.trans b2).trans b3;have s3:A7 5 [7e7,#[.str x.h],#[.str x.d],#[.int x.n],#[.int pr],af,af,af] C3=ae (.nx (QS k C3.length x.h x.d #[.int x.n] #[.int pr] af af),C3++[.fz [] []]):=rfl;have g3:=Vaf b3.gs (.fz [] []);let#[m,C4,e5,hm0,hm1,b4]:=uc k 6 _ g3 2e7;let#[mv,hmv,e6]:=zD [.int 0,.int 1,.int 0,.int 2,.int 7,.int 30] m hm0 (by simpa using hm1);obtain⟨r,rfl,hr⟩:∃r:Nat,mv=.int (r:Int)/\r<=30:=by
  erw[Ye,Yq,or_false]at hmv
  rcases hmv with rfl|rfl|rfl|rfl|rfl|rfl
  .show#[0,rfl,by decide]
  .show#[1,rfl,by decide]
  .show#[0,rfl,by decide]
  .show#[2,rfl,by decide]
  .show#[7,rfl,by decide]
  .show#[30,rfl,by decide]
 have hk:=Br b3.gs;have LF:C3.length≠k:=by lia
 have A0:DA k C3.length x.h x.d (C3++[.fz [] []]) C4 []:=DA.Q4 #[rfl,g3,λ_ _ _=>rfl,#[[],by simp],by simp,by simp] LF b4;have hrg:jd [.v (.int (r:Int))]=ae (((YL r).map λ(q:Nat)=>(0+q:Int)).map PV.int):=by
  ext jd;dsimp only;rw[aE 3e5,WT,XX];rfl
 have hl0:((YL r).map λ(q:Nat)=>(0+q:Int)).length<=30:=by simp;lia
 have Bm:∀i∈(YL r).map λ(q:Nat)=>(0+q:Int),0<=i:=λi hi=>by
  let#[q,_,rfl]:=YV.mp hi;lia
 generalize((YL r).map λ(q:Nat)=>(0+q:Int))=rs at hrg hl0 Bm;let#[us,C5,y6,y7,e7,A1,l1]:=Gs k C3.length x.h x.d #[.int x.n] #[.int pr] LF hx.d (C3++[.fz [] []]) rs [] C4 af af Bm A0 14e9;have s4:ix aR (hName 6) qb (QS k C3.length x.h x.d #[.int x.n] #[.int pr] af af) (C3++[.fz [] []])=ae (.nx (QS k C3.length x.h x.d #[.int x.n] #[.int pr] y6 y7),C5):=by
  have:aR (QS k C3.length x.h x.d #[.int x.n] #[.int pr] af af) (C3++[.fz [] []])=ae (rs.map .int,C4):=by
   ext QS;let RS:=rs.map PV.int;simp![aR,cN,e5,e6,hrg]
  unfold ix bP;rw[this];show e7
 rw[Wo]at l1;let#[vs,hc]:=A1.cell;have es:=uX us vs C5 C3.length hc (λt ht=>(A1.good t ht).1);let#[ts,e8,l2,m2]:=Fo us 3e5;rw[e8]at es;let#[tm,C6,e9,ht0,ht1,b6]:=ZcH k C5 A1.gs;let#[kd,ps,C7,e10,hd,b7]:=JM k C6 b6.gs;have hlen:C5.length=C.length+1:=by rw[A1.len,YT,b13.len];rfl
 have VcL:C7.length=C.length+1:=by rw[b7.len,b6.len,hlen]
 show#[#[x,pr,ts,tm,kd,ps],C7.take C.length,?_,#[hx,hr0,hr1,λy hy=>A1.good y (m2 y hy),by change ts.length<=31;lia,ht0,ht1,hd],?_]
 .have s5:a5 (QS k C3.length x.h x.d #[.int x.n] #[.int pr] y6 y7) C5=ae (.rt (.v (Lt.P #[x,pr,ts,tm,kd,ps])),C7):=by
   unfold QS Lt.P;let TS:=ts.map Nm.P;generalize fw (.st kd::ps)=DD at *;simp![a5,sW,es,g9,e9,e10]
  have run:CA [7e7,af,af,af,af,af,af,af] C=ae (.rt (.v (Lt.P #[x,pr,ts,tm,kd,ps])),C7):=by
   rw[DG,dw s1,dw s2,dw s3,dw s4];show s5
  ext rR;let bb:=CA;generalize Lt.P #[x,pr,ts,tm,kd,ps]=LP at *;simp![run]
 .have hk0:=Br g
  show#[by rw[Y8,VcL];lia,?_,λj hj=>?_]
  .let#[z,y,q,q1,q2]:=b7.gs
   show#[z,y,by rw[Xj hk0];show q,q1,q2]
  .rcases Y2 j C.length with q|q
   .rw[Xj q,b7.Ar j hj,b6.Ar j hj,A1.Ar j hj (by rw[b13.len];lia),Yu (by rw[b13.len];show q),b13.Ar j hj]
   .rw[YA.mpr (by rw[Y8];lia),YA.mpr q]
def QB(w:Str):Prop:=32∉w.cps.toList/\w.length<=57
def gd:PV->Prop
 |.str w=>QB w
 |_=>False
theorem blanks(m:Int)(h0:0<=m)(h1:m<=10):∃b,gO (.str " ") (.int m)=ae (.str b)/\b.cps.toList=YG m.toNat 32/\b.length<=10:=by
 show#[Txt.mul " " m,?_,qu (c:=32) rfl m,?_]
 .ext gO
  dsimp only;rw[aE #[rfl,by lia,by lia]]
 .rw[vE rfl];lia
def txB:aM->M PF:=bg 2 (aD 8e5 (aD 8e5 6e1 (aD (g2 gO) (mC (.str " ")) (aD (g2 vF) (cB (g1 iA) (ak (aD (g2 pL) 9e2 2e6) ao)) (aD 3e3 (bh (bQ (ak 1e8 (ak 1e8 (ak 4e5 (ak (mC (.int 4)) ao)))))) 6e7)))) 6e9)
structure TI(i:Nat)(done:List (List Nat))(t:Str):Prop where
 w:uK 32 t.cps.toList=done
 z:i=0->∃j,t.cps.toList=YG j 32
 l:t.length<=10+100*i
noncomputable def nz (l:List Nat):Bool:=!l.isEmpty
theorem Vcp{l:List Nat}(h:nz l=ag):l≠[]:=λe=>by subst e;cases h
theorem Zs{l:List Nat}(h:¬nz l=ag):l=[]:=by cases l with|nil=>rfl|cons=>show absurd rfl h
theorem L0(k:Nat)(C:Cs)(g:GS C k)(W:11e4)(i:Nat)(hi:i<=100)(t w:Str)(done:List (List Nat))(I:TI i done t)(hw:32∉w.cps.toList)(hl:w.length<=57):
  ∃t' C',txB [7e7,W,#[.str t],#[(.int (i:Int))],#[.str w]] C=ae (.nx [7e7,W,#[.str t'],#[(.int (i:Int))],#[.str w]],C')/\TI (i+1) (done++[w.cps.toList].filter nz) t'/\lB k C C':=by
 let#[d,C1,e1,h1,h2,a1]:=uc k 4 C g 2e7;let#[p,hp,e2]:=zD [.int 1,.int 1,.int 2,.int 4] d h1 (by simpa using h2);obtain⟨b,rfl,hb0,hb1⟩:∃b:Int,p=.int b/\1<=b/\b<=4:=by
  erw[Ye,Yq,or_false]at hp
  rcases hp with rfl|rfl|rfl|rfl<;>show#[_,rfl,by decide,by decide]
 obtain⟨m,hm,hm0,hm1⟩:∃m:Int,(if 0<(i:Int)then(1:Int)else 0)*b=m/\(i=0->m=0)/\(0<i->1<=m/\m<=4)/\0<=m/\m<=10:=by
  show#[_,rfl,?_];by_cases h:i=0
  .subst h;simp
  .rw[aE 3e5];lia
 let#[bl,e3,tu,hbn]:=blanks m 3e5 3e5;have gG:=I.l;have ll:∀a b:Str,(a++b).length=a.length+b.length:=λa b=>Vu a b;show#[t++bl++w,C1,?_,#[?_,λh=>absurd h 3e5,?_],a1]
 .have c1:t.length+bl.length<=1000000:=by lia
  have c2:(t++bl).length+w.length<=1000000:=by rw[ll];lia
  have hb:-18446744073709551616<b/\b<18446744073709551616:=by lia
  by_cases h:i=0
  .subst h
   have hm':=hm0 rfl;subst hm';simp![txB,iA,fm,e1,e2,hb,e3,c1,c2,a1.take]
  .have h':0<i:=by lia
   have hm':b=m:=by rw[←hm,aE 3e5];lia
   subst hm';simp![txB,iA,fm,e1,e2,hb,e3,c1,c2,a1.take,h']
 .rw[LR,LR,Y5,Y5,tu]
  by_cases hz:nz w.cps.toList=ag
  .have hn:=Vcp hz
   rw[show[w.cps.toList].filter nz=[w.cps.toList] by simp[hz]];by_cases h:i=0
   .let#[j,hj]:=I.z h
    have hd:done=[]:=by
     rw[←I.w,hj];have:=ZcC 32 [] j;rw[Yv]at this;show this
    rw[hm0 h,hj,hd];change uK 32 (YG j 32++[]++w.cps.toList)=_;rw[Yv,ZcC,zS hw hn];rfl
   .obtain⟨q,hq⟩:∃q,m.toNat=q+1:=#[m.toNat-1,by lia]
    rw[hq,Wy,Yx,VB,rW,I.w,ZcC,zS hw hn]
  .rw[Zs hz,Yv,zU,I.w]
   simp[nz]
 .rw[ll,ll];lia
noncomputable def sO:Nat->List Str->List PV
 |_,[]=>[]
 |i,w::r=>.tup [.int (i:Nat),.str w]::sO (i+1) r
theorem vv:∀(ws:2e2)(i j:Nat),(sO i ws)[j]? = ws[j]?.map λw=>.tup [.int ((i+j:Nat):Int),.str w]
 |[],i,j=>by simp[sO]
 |w::r,i,0=>by simp[sO]
 |w::r,i,j+1=>by
  erw[sO,List.getElem?_cons_succ,vv r (i+1) j]
  congr 2
  funext w
  rw[show i+1+j=i+(j+1) by lia]
theorem D8(ws:2e2):n6 4e2=sO 0 ws:=by
 apply Vt;intro j;rw[vv];ext n6;by_cases h:j<ws.length
 .simp[h,UB]
 .simp[h]
def hE:PV->aM->Option aM:=eP (bf (hName 3) (bf (hName 4) fZ)) 2
theorem zV(k:Nat)(W:11e4):∀(rest:2e2)(i:Nat)(done:List (List Nat))(t:Str)(x3 x4:11e4)(C:Cs),i+rest.length<=100->(∀w∈rest,QB w)->TI i done t->GS C k->
  ∃t' x3' x4' C',loop hE txB (sO i rest) [7e7,W,#[.str t],x3,x4] C=ae (.nx [7e7,W,#[.str t'],x3',x4'],C')/\TI (i+rest.length) (done++(rest.map (·.cps.toList)).filter nz) t'/\lB k C C'
 |[],i,done,t,x3,x4,C,_,_,I,g=>#[t,x3,x4,C,rfl,by simpa using I,lB.refl g]
 |w::r,i,done,t,x3,x4,C,hi,hw,I,g=>by
  erw[YB]at hi
  let#[a,c]:=hw w 3e7;let#[t1,C1,e1,I1,a1]:=L0 k C g W i 3e5 t w done I a c;let#[t2,y3,y4,C2,e2,I2,a2]:=zV k W r (i+1) _ t1 #[(.int (i:Nat))] #[.str w] C1 3e5 (λz hz=>hw z (by simp[hz])) I1 a1.gs;show#[t2,y3,y4,C2,?_,?_,a1.trans a2]
  .erw[sO,loop]
   rw[show hE (.tup [.int (i:Nat),.str w]) [7e7,W,#[.str t],x3,x4]=ae [7e7,W,#[.str t],#[(.int (i:Nat))],#[.str w]]from rfl]
   erw[bP,e1,e2]
  .rw[show i+(w::r).length=i+1+r.length by simp;lia]
   have:(done++[w.cps.toList].filter nz)++(r.map (·.cps.toList)).filter nz=done++((w::r).map (·.cps.toList)).filter nz:=by
    rw[Yx,←List.filter_append];rfl
   rw[←this];show I2
def tu1:aM->M PF:=bg 2 (aD (g2 gO) (mC (.str " ")) (aD 3e3 (bh (bQ (ak 2e6 (ak 1e8 (ak 2e6 (ak 7e4 ao)))))) 6e7))
def tu2:aM->M PF:=ix (A8 5e6) hE txB
def tu3:aM->M PF:=bj (aD 8e5 6e1 (aD (g2 gO) (mC (.str " ")) (aD 3e3 (bh (bQ (ak 2e6 (ak 2e6 (ak 1e8 (ak 4e5 ao)))))) 6e7)))
theorem L7:Cw=aC tu1 (aC tu2 tu3):=rfl
theorem E6(k:Nat)(C:Cs)(g:GS C k)(ws:2e2)(hn:ws.length<=60)(hw:∀w∈ws,QB w):
  ∃z C',rP [.c k,.v (.lst 4e2)] C=ae (.v (.str z),C')/\uK 32 z.cps.toList=(ws.map (·.cps.toList)).filter nz/\z.length<=90000/\lB k C C':=by
 let#[d,C1,e1,h1,h2,a1]:=uc k 4 C g 2e7;let#[p,hp,e2]:=zD [.int 0,.int 1,.int 0,.int 3] d h1 (by simpa using h2);obtain⟨m,rfl,hm0,hm1⟩:∃b:Int,p=.int b/\0<=b/\b<=10:=by
  erw[Ye,Yq,or_false]at hp
  rcases hp with rfl|rfl|rfl|rfl<;>show#[_,rfl,by decide,by decide]
 let#[bl,e3,tu,hbn]:=blanks m hm0 hm1;have I0:TI 0 [] bl:=#[by
  rw[tu];have:=ZcC 32 [] m.toNat;rw[Yv]at this;show this,λ_=>#[_,tu],by lia]
 let#[t',x3,x4,C2,e4,I2,a2]:=zV k #[.lst 4e2] ws 0 [] bl af af C1 3e5 hw I0 a1.gs;let#[d',C3,e5,h3,h4,a3]:=uc k 4 C2 a2.gs 2e7;let#[q,hq,e6]:=zD [.int 0,.int 0,.int 1,.int 2] d' h3 (by simpa using h4);obtain⟨m',rfl,VeJ,VeI⟩:∃b:Int,q=.int b/\0<=b/\b<=10:=by
  erw[Ye,Yq,or_false]at hq
  rcases hq with rfl|rfl|rfl|rfl<;>show#[_,rfl,by decide,by decide]
 let#[bl',e7,VeW,Vfn]:=blanks m' VeJ VeI;have uB:=(a1.trans a2).trans a3;have ll:∀a b:Str,(a++b).length=a.length+b.length:=λa b=>Vu a b;have hl:=I2.l;have EB:t'.length<=10000:=by lia
 show#[t'++bl',C3,?_,?_,by rw[ll];lia,uB]
 .have hen:=D8 ws
  sleep 11;have s1:tu1 [7e7,#[.lst WS],af,af,af] C=ae (.nx [7e7,#[.lst WS],#[.str bl],af,af],C1):=by
   simp![tu1,e1,e2,e3,a1.take]
  have s2:tu2 [7e7,#[.lst WS],#[.str bl],af,af] C1=ae (.nx [7e7,#[.lst WS],#[.str t'],x3,x4],C2):=by
   have:A8 5e6 [7e7,#[.lst WS],#[.str bl],af,af] C1=ae (sO 0 ws,C1):=by rw[←hen];rfl
   unfold tu2 ix bP;rw[this];show e4
  have c1:t'.length+bl'.length<=1000000:=by lia
  have s3:tu3 [7e7,#[.lst WS],#[.str t'],x3,x4] C2=ae (.rt (.v (.str (t'++bl'))),C3):=by
   simp![tu3,fm,e5,e6,e7,c1,a3.take]
  have run:Cw [7e7,#[.lst WS],af,af,af] C=ae (.rt (.v (.str (t'++bl'))),C3):=by
   rw[L7,dw s1,dw s2,s3]
  ext rP;let bb:=Cw;simp![run,uB.take]
 .rw[LR,Y5,VeW,zU,I2.w]
  rfl
def cT(ws:2e2):Option (Int×List Str):=match ws with
 |[]=>ae (0,[])
 |a::r=>if a="after" then(match r with
  |[]=>af
  |z::q=>if bJ z=ag/\0<aT z then ae (aT z,q)else af)else ae (0,a::r)
noncomputable def pvP (x:Int×List Str):PV:=.tup [.int x.1,.lst (x.2.map .str)]
theorem Vct(b:Str):cn 18e6 (.lst (cG [] af (ae 1))) (.lst [.str b])=ae 10e8:=by
 rw[show cG [] af (ae 1)=([]:List PV)from rfl];ext cn;simp[dat,c9,dep,cS,aZ,eQ]
theorem pf(ws:2e2)(hw:8e1)(C:Cs):gX [.v (.lst 4e2)] C=(cT ws).map λx=>(.v (pvP x),C):=by
 cases ws with
 |nil=>
  have e1:=Vct "after";simp![gX,e1,cT,pvP]
 |cons a r=>
  have e1:=ne1 a (r.map .str) "after";by_cases ha:a="after"
  .subst ha
   erw[ne_eq,not_true_eq_false,decide_false]at e1
   cases r with
   |nil=>
    rw[Wt]at e1;simp![gX,e1,cT,Em]
   |cons z q=>
    have e2:=ZaS z (hw z 3e7) C;have e3:=tN (.str "after") (.str z) (q.map .str)
    erw[Yi]at e1⊢
    by_cases hf:bJ z=ag
    .rw[aE hf]at e2
     generalize hN:aT z=N at *;have hg:(1:Int)<((q.map PV.str).length:Int)+1+1:=by lia
     by_cases hp:0<N
     .have ep:cT ("after"::z::q)=ae (N,q):=by simp[cT,hf,hN,hp]
      rw[ep];change _=ae (SV.v (PV.tup [.int N,.lst (q.map .str)]),C);let G:=q.map PV.str;simp![gX,e1,xq,dN,fW,eo,dW,e2,e3,hp,hg]
     .have ep:cT ("after"::z::q)=af:=by simp[cT,hf,hN,hp]
      rw[ep];let G:=q.map PV.str;simp![gX,e1,xq,Em,dN,fW,eo,dW,e2,e3,hp,hg]
    .rw[aI hf]at e2
     have hg:(1:Int)<((q.map PV.str).length:Int)+1+1:=by lia
     have ep:cT ("after"::z::q)=af:=by simp[cT,hf]
     rw[ep];let G:=q.map PV.str;simp![gX,e1,xq,dN,fW,eo,dW,e2,hg]
  .rw[eF ha]at e1
   have ep:cT (a::r)=ae (0,a::r):=by simp[cT,ha]
   rw[ep];ext pvP
   erw[Yi,XN]at e1⊢
   sleep 10;simp![gX,e1]
theorem yk(hw:8e1)(h:cT ws=af)(C:Cs):fT [.v (.lst 4e2)] C:=by
 cases ws with
 |nil=>cases h
 |cons a r=>
  have e1:=ne1 a (r.map .str) "after";by_cases ha:a="after"
  .subst ha
   erw[ne_eq,not_true_eq_false,decide_false]at e1
   cases r with
   |nil=>
    rw[Wt]at e1;show#[rfl,[#[.lst [.str "after"]],af],?_,.inl #[[.v 9e3],?_,eZ C]]
    .simp![e1]
    .simp![]
   |cons z q=>
    have hz:=hw z 3e7;have e2:=ZaS z hz C
    erw[Yi]at e1⊢
    have hg:(1:Int)<((q.map PV.str).length:Int)+1+1:=by lia
    show#[rfl,[#[.lst (.str "after"::.str z::q.map .str)],af],?_,.inr #[[#[.lst (.str "after"::.str z::q.map .str)],af],?_,?_]]
    .let G:=q.map PV.str
     simp![e1]
    .let G:=q.map PV.str
     simp![xq,hg]
    .by_cases hf:bJ z=ag
     .rw[aE hf]at e2
      have hp:¬0<aT z:=λhp=>by simp[cT,hf,hp]at h
      show .inr #[[#[.lst (.str "after"::.str z::q.map .str)],#[.int (aT z)]],?_,[.v 9e3],?_,eZ C]
      .let G:=q.map PV.str
       let N:=aT z;simp![dN,fW,eo,dW,e2,hg]
      .let N:=aT z
       simp![hp]
     .show .inl #[[.v (.str z)],?_,Zbh hz (by simpa using hf) C]
      let G:=q.map PV.str;simp![dN,fW,eo,dW,hg]
  .simp[cT,ha]at h
def nmE:aM->M SV:=bw kM 2e4
def nmR:aM->Cs->Prop:=Ex.bZ 2e4 fU
def bX:List Str->Option (List Pq)
 |[]=>ae []
 |z::r=>match fP (dv z)with
  |none=>af
  |some p=>(bX r).map (p::·)
theorem He(z:Str)(hl:z.length<=60)(C:Cs):nmE [#[.str z]] C=(fP (dv z)).map λp=>(.v p.P,C):=by
 have e:=ph z hl C;unfold nmE bw
 erw[bP,ak,ao,aV,Pu.ret]
 show e
theorem AB:∀(ws:2e2)(x:11e4)(ys:List PV)(C:Cs),(∀w∈ws,w.length<=60)->bN 8e6 gq nmE 4e2 [x] ys C=(bX ws).map λps=>(ys++ps.map Pq.P,C)
 |[],x,ys,C,_=>by simp[bN,Pu.ret,bX]
 |z::r,x,ys,C,h=>by
  have e:=He z (h z 3e7) C
  erw[Yi,bN,hName,List.set_cons_zero,bX]
  erw[bP,gq,Pu.ret,if_true]
  cases hp:fP (dv z)with
  |none=>rw[hp]at e;simp[e]
  |some p=>
   rw[hp]at e;have ih:=AB r #[.str z] (ys++[p.P]) C λw hw=>h w (by simp[hw])
   erw[XN]at e
   rw[e];simp only;rw[ih];cases bX r<;>simp
theorem vC:∀(ws:2e2)(x:11e4)(C:Cs),(∀w∈ws,w.length<=60)->bX ws=af->Ex.qR 8e6 gq nmE nmR 4e2 [x] C
 |[],x,C,_,h=>by simp[bX]at h
 |z::r,x,C,hl,h=>by
  show#[[#[.str z]],rfl,.inl #[rfl,?_]];cases hp:fP (dv z)with
  |none=>show .inl #[[.v (.str z)],rfl,yl (hl z 3e7) hp C]
  |some p=>
   show .inr #[p.P,?_,vC r _ C (λw hw=>hl w (by simp[hw])) ?_]
   .rw[He z (hl z 3e7) C,hp];rfl
   .erw[bX,hp]at h
    simpa using h
noncomputable def kR:List Str->Option (List Str×List Str)
 |[]=>af
 |w::r=>if w="at" then ae ([],r)else(kR r).map λx=>(w::x.1,x.2)
theorem Zcb:∀{ws us q:2e2},kR ws=ae (us,q)->ws=us++("at":Str)::q/\∀w∈us,w≠"at"
 |w::r,us,q,h=>by
  ext kR h;by_cases hw:w="at"
  .rw[aE hw]at h
   cases h;show#[by rw[hw];rfl,λ_ z=>nomatch z]
  .rw[aI hw]at h
   cases hr:kR r with
   |none=>rw[hr]at h;cases h
   |some x=>
    rw[hr]at h;cases h;let#[a,b]:=Zcb (us:=x.1) (q:=x.2) hr;show#[by rw[a];rfl,λz hz=>?_];rcases Ye.mp hz with rfl|hz
    .show hw
    .show b z hz
theorem xk:∀{ws:2e2},kR ws=af->∀w∈ws,w≠"at"
 |[],_=>λ_ z=>nomatch z
 |w::r,h=>by
  ext kR h;by_cases hw:w="at"
  .rw[aE hw]at h;cases h
  .rw[aI hw]at h
   have hr:kR r=af:=by cases q:kR r with|none=>rfl|some x=>rw[q]at h;cases h
   intro z hz;rcases Ye.mp hz with rfl|hz
   .show hw
   .show xk hr z hz
theorem Vbf(ws:2e2)(h:∀w∈ws,w≠"at"):j6 (.str "at") (.lst 4e2)=ae 9e3:=by
 unfold j6 Qp;have hf:=ZdC ws
 erw[hf]
 have:(ws.map PV.str).any (tI (.str "at"))=ah/\(ws.map PV.str).any (λy=>tI y (.str "at"))=ah:=by
  constructor<;>
  .rw[List.any_eq_false];intro x hx;let#[z,hz,rfl]:=YV.mp hx
   have:=h z hz;simp[tI,this,XD this]
 simp[eU,this.1,this.2,tI];intro x hx e;show absurd e (h x hx)
def dk(ws:2e2):Option (List Pq×List Str):=match ws with
 |[]=>ae ([],[])
 |a::r=>if a="got" then(match kR r with
  |none=>af
  |some (us,q)=>if us=[]then af else(bX us).map λps=>(ps,("at":Str)::q))else ae ([],a::r)
def yU(x:List Pq×List Str):PV:=.tup [.tup (x.1.map Pq.P),.lst (x.2.map .str)]
def Qz:aM->M PF:=bx (aH (aD 1e9 (bU 1e4 eB (bz 1e8)) (bh (bQ (ak (mC (.str "got")) ao))))) (bj (cj (ak (cj ao) 2e4))) bo
def gg2:aM->M PF:=cb (bw cA (ak (aD (g2 j6) 10e9 1e4) ao))
def gg3:aM->M PF:=bg 1 (pE "list" jj 1e4 (ak 10e9 ao))
def gg4:aM->M PF:=cb (bw cA (ak (aD (g2 pL) 3e9 1e8) ao))
def gI:aM->M 5e5:=bu (bU 1e4 (bz 1e8) (bz 3e9))
def gC:aM->M 5e5:=br gI 13e1 [] 8e6 gq nmE
def gg5:aM->M PF:=bj (cj (ak (cB (Pu.g1 g9) (ak (bh gC) ao)) (ak (bU 1e4 (bz 3e9) eB) ao)))
theorem ZdA:xJ=aC Qz (aC gg2 (aC gg3 (aC gg4 gg5))):=rfl
theorem HU:eY=Ex.iS 1 1 (Ex.cz Qz (Ex.i6 (Ex.bZ (ak (aD (g2 j6) 10e9 1e4) ao) cC) (Ex.cz gg2 (Ex.cz gg3 (Ex.i6 (Ex.bZ (ak (aD (g2 pL) 3e9 1e8) ao) cC) (Ex.cz gg4 (Ex.Aj gI 13e1 [] 8e6 gq nmE nmR))))))):=rfl
theorem rm{f:8e9}(h:f ρ C=af):aC f g ρ C=af:=by
 unfold aC bP;rw[h]
noncomputable def gS (ws:2e2)(x:11e4):aM:=[#[.lst 4e2],x]
theorem mF(r:2e2)(C:Cs):Qz (gS (("got":Str)::r) af) C=ae (.nx (gS (("got":Str)::r) af),C):=by
 have e1:=ne1 "got" (r.map .str) "got"
 erw[ne_eq,not_true_eq_false,decide_false]at e1
 ext gS;rw[Yi];sleep 10;simp![Qz,e1]
theorem NF(C:Cs):Qz (gS [] af) C=ae (.rt (.v (yU ([],[]))),C):=by
 have e1:=Vct "got";simp![Qz,gS,yU,e1]
theorem ND{a:Str}(ha:a≠"got")(r:2e2)(C:Cs):Qz (gS (a::r) af) C=ae (.rt (.v (yU ([],a::r))),C):=by
 have e1:=ne1 a (r.map .str) "got";rw[eF ha]at e1;unfold gS yU
 erw[Yi,Wt]
 sleep 10;simp![Qz,e1]
theorem Z6(us q:2e2):j6 (.str "at") (.lst ((("got":Str)::(us++("at":Str)::q)).map .str))=ae 10e8:=by
 have:=Vdj ((("got":Str)::us).map .str) (q.map .str) (ZdC _) (ZdC _);simpa using this
theorem tD(us q:2e2)(C:Cs):gg2 (gS 9e9 af) C=ae (.nx (gS 9e9 af),C):=by
 have e:=Z6 us q;ext gS;generalize(("got":Str)::(us++("at":Str)::q)).map PV.str=G at *;simp![gg2,e,xq]
theorem Qo{r:2e2}(h:kR r=af):j6 (.str "at") (.lst ((("got":Str)::r).map .str))=ae 9e3:=
 Vbf _ λw hw=>by
  rcases Ye.mp hw with rfl|hw
  .show HV
  .show xk h w hw
theorem Vah{r:2e2}(h:kR r=af)(C:Cs):gg2 (gS (("got":Str)::r) af) C=af:=by
 have e:=Qo h;ext gS;generalize(("got":Str)::r).map PV.str=G at *;simp![gg2,e,Em]
theorem yV{us:2e2}(hu:∀w∈us,w≠"at")(q:2e2)(C:Cs):gg3 (gS 9e9 af) C=ae (.nx (gS 9e9 #[(.int ((us.length+1:Nat):Int))]),C):=by
 have e:=Kz hu "got" HV q;ext gS;generalize(("got":Str)::(us++("at":Str)::q)).map PV.str=G at *;generalize((us.length+1:Nat):Int)=n at *;simp![gg3,e]
theorem Bu(ws:2e2){n:Int}(h:1<n)(C:Cs):gg4 (gS ws #[.int n]) C=ae (.nx (gS ws #[.int n]),C):=by
 ext gS;sleep 13;simp![gg4,h,xq]
theorem Vag(ws:2e2){n:Int}(h:¬1<n)(C:Cs):gg4 (gS ws #[.int n]) C=af:=by
 ext gS;sleep 13;simp![gg4,h,Em]
theorem QD(us q:2e2)(C:Cs):gI (gS 9e9 #[(.int ((us.length+1:Nat):Int))]) C=ae (us.map .str,C):=by
 have c1:=Og (.str "got") (us.map .str) ((("at":Str)::q).map .str);rw[Yk,←Vi,←Yi]at c1;ext gS;generalize(("got":Str)::(us++("at":Str)::q)).map PV.str=G at *;generalize us.map PV.str=U at *;generalize((us.length+1:Nat):Int)=n at *;simp![gI,bu,bY,c1]
theorem NC{us:2e2}(hl:us.length<=1000)(hw:∀w∈us,w.length<=60)(q:2e2)(C:Cs):gg5 (gS 9e9 #[(.int ((us.length+1:Nat):Int))]) C=(bX us).map λps=>(.rt (.v (yU (ps,("at":Str)::q))),C):=by
 have e:=QD us q C;have e2:=AB us af [] C hw;have c2:=Oh (.str "got") (us.map .str) ((("at":Str)::q).map .str);rw[Yk,←Vi,←Yi]at c2;have EB:(us.map PV.str).length<=100000:=by simp;lia
 have sC:gC (gS 9e9 #[(.int ((us.length+1:Nat):Int))]) C=(bX us).map λps=>(ps.map Pq.P,C):=by
  unfold gC br bP;rw[e];dsimp only;rw[aE EB];rw[show di 13e1 [] (gS 9e9 #[(.int ((us.length+1:Nat):Int))])=[af]from rfl,e2];cases bX us<;>rfl
 ext gg5;change _=(bX us).map λps=>(PF.rt (.v (PV.tup [.tup (ps.map Pq.P),.lst (((("at":Str)::q)).map .str)])),C);unfold gS at sC⊢;generalize gC=te at *;generalize(("got":Str)::(us++("at":Str)::q)).map PV.str=G at *;generalize(("at":Str)::q).map PV.str=Q at *;generalize((us.length+1:Nat):Int)=n at *;cases hp:bX us with
 |none=>rw[hp]at sC;simp at sC;simp![sC]
 |some ps=>
  rw[hp]at sC
  erw[XN]at sC⊢
  let PS:=ps.map Pq.P;simp![sC,g9,c2]
theorem nT(ws:2e2)(C:Cs){r:PV}(h:xJ (gS ws af) C=ae (.rt (.v r),C)):jP [.v (.lst 4e2)] C=ae (.v r,C):=oh rfl h
theorem Zdz(ws:2e2)(C:Cs)(h:xJ (gS ws af) C=af):jP [.v (.lst 4e2)] C=af:=zk h
theorem pj(ws:2e2)(hl:ws.length<=1000)(hw:8e1)(C:Cs):jP [.v (.lst 4e2)] C=(dk ws).map λx=>(.v (yU x),C):=by
 cases ws with
 |nil=>show nT [] C (by rw[ZdA];show KL (NF C))
 |cons a r=>
  by_cases ha:a="got"
  .subst ha
   have e0:dk (("got":Str)::r)=match kR r with
    |none=>af
    |some (us,q)=>if us=[]then af else(bX us).map λps=>(ps,("at":Str)::q):=by simp[dk]
   rw[e0];cases h:kR r with
   |none=>show Zdz _ C (by rw[ZdA,dw (mF r C)];show rm (Vah h C))
   |some x=>
    let#[us,q]:=x;let#[hr,hu]:=Zcb h;subst hr;have hn:us.length<=1000:=by simp at hl;lia
    have Qq:∀w∈us,w.length<=60:=λw hw'=>hw w (by simp[hw']);dsimp only;by_cases h0:us=[]
    .subst h0
     rw[aE rfl];show Zdz _ C (by rw[ZdA,dw (mF _ C),dw (tD [] q C),dw (yV hu q C)];show rm (Vag _ 3e7 C))
    .rw[aI h0]
     have hp:0<us.length:=List.length_pos_iff.mpr h0;have s5:=NC hn Qq q C;have run:xJ (gS 9e9 af) C=(bX us).map λps=>(.rt (.v (yU (ps,("at":Str)::q))),C):=by
      rw[ZdA,dw (mF _ C),dw (tD us q C),dw (yV hu q C),dw (Bu _ 3e5 C)];show s5
     cases hm:bX us with
     |none=>rw[hm]at run;show Zdz _ C run
     |some ps=>rw[hm]at run;show nT _ C run
  .rw[show dk (a::r)=ae ([],a::r) by simp[dk,ha]]
   show nT _ C (by rw[ZdA];show KL (ND ha r C))
theorem ym(hl:ws.length<=1000)(hw:8e1)(h:dk ws=af)(C:Cs):eY [.v (.lst 4e2)] C:=by
 cases ws with
 |nil=>cases h
 |cons a r=>
  by_cases ha:a="got"
  .subst ha
   have e0:dk (("got":Str)::r)=match kR r with
    |none=>af
    |some (us,q)=>if us=[]then af else(bX us).map λps=>(ps,("at":Str)::q):=by simp[dk]
   rw[e0]at h;rw[HU];show#[rfl,gS (("got":Str)::r) af,mF r C,?_];cases hx:kR r with
   |none=>
    have e:=Qo hx;show .inl #[[.v 9e3],?_,eZ C];ext gS;generalize(("got":Str)::r).map PV.str=G at *;simp![e]
   |some x=>
    let#[us,q]:=x;let#[hr,hu]:=Zcb hx;rw[hx]at h;dsimp only at h;subst hr;have hn:us.length<=1000:=by simp at hl;lia
    have Qq:∀w∈us,w.length<=60:=λw hw'=>hw w (by simp[hw']);show .inr #[_,tD us q C,_,yV hu q C,?_];by_cases h0:us=[]
    .subst h0
     show .inl #[[.v 9e3],?_,eZ C];ext gS;generalize(("got":Str)::([]++("at":Str)::q)).map PV.str=G at *;simp![]
    .rw[aI h0]at h
     have hp:0<us.length:=List.length_pos_iff.mpr h0;show .inr #[_,Bu _ 3e5 C,us.map .str,QD us q C,by simp;lia,?_];show vC us af C Qq (by cases hm:bX us with|none=>rfl|some ps=>rw[hm]at h;cases h)
  .rw[show dk (a::r)=ae ([],a::r) by simp[dk,ha]]at h
   cases h
theorem nt:¬(("number":Str)="to"):=by decide +kernel
def dD:List Str->List Str->Option (List Pt)
 |[],_=>ae []
 |_::_,[]=>ae []
 |f::fs,w::ws=>if f="to" then(if w="to" then dD fs ws else af)
  else if f="number" then(if bJ w=ag then(dD fs ws).map (Pt.num (aT w)::·)else af)
  else(dD fs ws).map (Pt.st w::·)
def dH:PV->aM->Option aM:=eP (bf (hName 3) (bf (hName 4) fZ)) 2
def dB:aM->M PF:=bx (aH (aD 2e5 9e2 11e0)) (cb (bw cA (ak (aD 2e5 6e9 11e0) ao))) (cb (yK 6e1 (ak (ZG (aH (aD 2e5 9e2 (mC (.str "number")))) (bw eE (ak 6e9 ao)) 6e9) ao)))
def dR:aM->Cs->Prop:=Ex.i6 (Ex.Lu (aH (aD 2e5 9e2 11e0)) ag (Ex.bZ (ak (aD 2e5 6e9 11e0) ao) cC)) (Ex.Lu (aH (aD 2e5 9e2 11e0)) ah (Ex.Tv 6e1 (Ex.Lu (aH (aD 2e5 9e2 (mC (.str "number")))) ag (Ex.bZ (ak 6e9 ao) bL))))
def dS(W F:PV)(n:Nat)(x3 x4:11e4):aM:=[#[W],#[F],ae (.c n),x3,x4]
def dZ:List Str->List Str->List PV
 |f::fs,w::ws=>.tup [.str f,.str w]::dZ fs ws
 |_,_=>[]
theorem wM(f w:Str)(W F:PV)(n:Nat)(x3 x4:11e4):dH (.tup [.str f,.str w]) (dS W F n x3 x4)=ae (dS W F n #[.str f] #[.str w]):=rfl
theorem Vc9(W F:PV)(C:Cs)(ys:List PV):dB (dS W F C.length #[.str "to"] #[.str "to"]) 18e4=ae (.nx (dS W F C.length #[.str "to"] #[.str "to"]),C++[.lst ys]):=by
 simp![dB,dS,xq]
theorem VaK{w:Str}(hw:w≠"to")(W F:PV)(C D:Cs)(n:Nat):dB (dS W F n #[.str "to"] #[.str w]) D=af:=by
 simp![dB,dS,Em,hw]
theorem VaJ{w:Str}(hl:w.length<=60)(W F:PV)(C:Cs)(ys:List PV)(hy:ys.length<=100):dB (dS W F C.length #[.str "number"] #[.str w]) 18e4=if bJ w=ag then ae (.nx (dS W F C.length #[.str "number"] #[.str w]),C++[.lst (ys++[.int (aT w)])])else af:=by
 have e:=ZaS w hl 18e4;have Z7:ys.length<100000:=by lia
 by_cases h:bJ w=ag
 .rw[aE h]at e⊢
  let N:=aT w;simp![dB,dS,nt,e,yK,gT,KD,Z7]
 .rw[aI h]at e⊢
  simp![dB,dS,nt,e,yK,gT]
theorem Of{f:Str}(h1:¬f="to")(h2:¬f="number")(w:Str)(W F:PV)(C:Cs)(ys:List PV)(hy:ys.length<=100):dB 11e1 18e4=ae (.nx 11e1,C++[.lst (ys++[.str w])]):=by
 have Z7:ys.length<100000:=by lia
 simp![dB,dS,h1,h2,yK,gT,KD,Z7]
theorem zl(W F:PV)(C:Cs):∀(fs ws:2e2)(ys:List PV)(x3 x4:11e4),(∀w∈ws,w.length<=60)->ys.length+fs.length<=100->match dD fs ws with
  |none=>loop dH dB (dZ fs ws) (dS W F C.length x3 x4) 18e4=af/\Ex.nE C dH dB dR (dZ fs ws) (dS W F C.length x3 x4) 18e4
  |some ps=>∃y3 y4,loop dH dB (dZ fs ws) (dS W F C.length x3 x4) 18e4=ae (.nx (dS W F C.length y3 y4),C++[.lst (ys++ps.map Pt.P)])
 |[],ws,ys,x3,x4,_,_=>#[x3,x4,by simp[dZ,loop,Pu.ret]]
 |f::fs,[],ys,x3,x4,_,_=>#[x3,x4,by simp[dZ,loop,Pu.ret]]
 |f::fs,w::ws,ys,x3,x4,hw,hy=>by
  erw[YB]at hy
  have hwl:=hw w 3e7;have ih:=λCD hy'=>zl W F C fs ws CD #[.str f] #[.str w] (λz hz=>hw z (by simp[hz])) hy';have stp:∀{CD},dB 11e1 18e4=ae (.nx 11e1,C++[.lst CD])->
    loop dH dB (dZ (f::fs) (w::ws)) (dS W F C.length x3 x4) 18e4=loop dH dB (dZ fs ws) 11e1 (C++[.lst CD]):=λe=>by
   erw[dZ,loop,wM,bP,e]
  have stn:dB 11e1 18e4=af->loop dH dB (dZ (f::fs) (w::ws)) (dS W F C.length x3 x4) 18e4=af:=λe=>by
   erw[dZ,loop,wM,bP,e]
  have on:∀{CD},dB 11e1 18e4=ae (.nx 11e1,C++[.lst CD])->
    Ex.nE C dH dB dR (dZ fs ws) 11e1 (C++[.lst CD])->Ex.nE C dH dB dR (dZ (f::fs) (w::ws)) (dS W F C.length x3 x4) 18e4:=λe h=>
   #[_,wM f w W F _ x3 x4,.inr #[_,_,e,h]]
  ext dD;by_cases h1:f="to"
  .subst h1
   rw[aE rfl];by_cases h2:w="to"
   .subst h2
    rw[aE rfl];have e:=Vc9 W F C ys;have ih:=ih ys 3e5;cases hp:dD fs ws with
    |none=>rw[hp]at ih;show#[(stp e).trans ih.1,on e ih.2]
    |some ps=>rw[hp]at ih;let#[y3,y4,q]:=ih;show#[y3,y4,(stp e).trans q]
   .rw[aI h2]
    show#[stn (VaK h2 W F C _ _),_,wM _ w W F _ x3 x4,.inl (.inl #[?_,[.v 9e3],?_,eZ _])]
    .simp![dS]
    .simp![dS,h2]
  .rw[aI h1]
   by_cases h2:f="number"
   .subst h2
    rw[aE rfl];have e:=VaJ hwl W F C ys 3e5;by_cases hf:bJ w=ag
    .rw[aE hf]at e⊢
     have ih:=ih (ys++[.int (aT w)]) 14e9;cases hp:dD fs ws with
     |none=>rw[hp]at ih;show#[(stp e).trans ih.1,on e ih.2]
     |some ps=>rw[hp]at ih;let#[y3,y4,q]:=ih;show#[y3,y4,by rw[stp e,q];simp[Pt.P]]
    .rw[aI hf]at e⊢
     show#[stn e,_,wM _ w W F _ x3 x4,.inl (.inr #[?_,.c C.length,?_,?_,?_,[.v (.str w)],?_,Zbh hwl (by simpa using hf) _])]
     .simp![dS,nt]
     .simp![dS]
     .simp[gT]
     .simp![dS]
     .simp![dS]
   .rw[aI h2]
    have e:=Of h1 h2 w W F C ys 3e5;have ih:=ih (ys++[.str w]) 14e9;cases hp:dD fs ws with
    |none=>rw[hp]at ih;show#[(stp e).trans ih.1,on e ih.2]
    |some ps=>rw[hp]at ih;let#[y3,y4,q]:=ih;show#[y3,y4,by rw[stp e,q];simp[Pt.P]]
def a_1(d:Addr)(T1:10e5):aM->M (List SV):=ak (aD (mL d T1 ah) 6e0 (mC (.fn d))) ao
def a_3(T2:13e4):aM->M (List SV):=ak (aD 2e5 5e2 (aD 8e5 (cB (g1 (lN T2)) 5e6) 1e8)) ao
def e_1(d:Addr)(T1:10e5):aM->M PF:=cb (bw cA (a_1 d T1))
def e_2(d:Addr)(T1:10e5):aM->M PF:=bg 1 (aD (rZ d T1) (mC (.fn d)) 6e0)
def e_3(T2:13e4):aM->M PF:=cb (bw cA (a_3 T2))
def e_4:aM->M PF:=gg 2 (bQ (ak 6e0 ao))
def e_Z(T2:13e4):aM->M 5e5:=jg (k7 T2) (ak 3e9 (ak (bU 1e4 (bz 1e8) eB) ao))
def e_6:aM->M PF:=bj (cB (g1 g9) 12e3)
section
variable{d2 t0 t1 t2 t3 t4 t5 t6 t7:Addr}
theorem tK:xK d2 t0 t1 t2 t3 t4 t5 t6 t7=aC (e_1 d2 (LS t0 t1 t2 t3 t4 t5 t6 t7)) (aC (e_2 d2 (LS t0 t1 t2 t3 t4 t5 t6 t7)) (aC (e_3 (KO t0 t1 t2 t3 t4 t5 t6 t7)) (aC e_4 (aC (ix (e_Z (KO t0 t1 t2 t3 t4 t5 t6 t7)) dH dB) e_6)))):=rfl
theorem JN:er d2 t0 t1 t2 t3 t4 t5 t6 t7=Ex.iS 1 4 (Ex.i6 (Ex.bZ (a_1 d2 (LS t0 t1 t2 t3 t4 t5 t6 t7)) cC) (Ex.cz (e_1 d2 (LS t0 t1 t2 t3 t4 t5 t6 t7)) (Ex.cz (e_2 d2 (LS t0 t1 t2 t3 t4 t5 t6 t7)) (Ex.i6 (Ex.bZ (a_3 (KO t0 t1 t2 t3 t4 t5 t6 t7)) cC) (Ex.cz (e_3 (KO t0 t1 t2 t3 t4 t5 t6 t7)) (Ex.sE e_4 (e_Z (KO t0 t1 t2 t3 t4 t5 t6 t7)) dH dB dR)))))):=rfl
end
noncomputable def eS (k:Str)(r:2e2)(x:11e4):aM:=[#[.lst 8e3],x,af,af,af]
section
variable{d:Addr}{T1:10e5}{T2:13e4}{k:Str}{r:2e2}{f:Addr}{fs:2e2}
theorem KI(C:Cs):a_1 d T1 (eS k r af) C=ae ([.v (.bl (T1.lookup k).isSome)],C):=by
 ext eS;sleep 10;have hg:(0:Int)<(G.length:Int)+1:=by lia
 simp![a_1,dN,fW,eo,dW,mL,hg]
theorem Vc3(h:T1.lookup k=af)(C:Cs):e_1 d T1 (eS k r af) C=af:=by
 have e:=KI (d:=d) (T1:=T1) (k:=k) (r:=r) C;rw[h]at e;ext e_1;let aa:=a_1 d T1;simp at e;simp![e,Em]
theorem zi(h:T1.lookup k=ae f)(C:Cs):e_1 d T1 (eS k r af) C=ae (.nx (eS k r af),C):=by
 have e:=KI (d:=d) (T1:=T1) (k:=k) (r:=r) C;rw[h]at e;ext e_1;let aa:=a_1 d T1;simp at e;simp![e,xq]
theorem JC(h:T1.lookup k=ae f)(C:Cs):e_2 d T1 (eS k r af) C=ae (.nx (eS k r #[.fn f]),C):=by
 ext eS;sleep 10;have hg:(0:Int)<(G.length:Int)+1:=by lia
 simp![e_2,dN,fW,eo,dW,rZ,hg,h]
theorem KH(h:T2.lookup f=ae fs)(C:Cs):a_3 T2 (eS k r #[.fn f]) C=ae ([.v (.bl (decide (r.length=fs.length)))],C):=by
 have hl:(r.map PV.str).length=r.length:=Yk _;ext eS;sleep 10;have:(decide ((G.length:Int)+1=(fs.length:Int)+1))=decide (r.length=fs.length):=by
  rw[decide_eq_decide];lia
 rw[←this];simp![a_3,lN,h,fm]
theorem Vc2(h:T2.lookup f=ae fs)(hl:¬r.length=fs.length)(C:Cs):e_3 T2 (eS k r #[.fn f]) C=af:=by
 have e:=KH (k:=k) (r:=r) h C;rw[dm hl]at e;ext e_3;let aa:=a_3 T2;simp![e,Em]
theorem JB(h:T2.lookup f=ae fs)(hl:r.length=fs.length)(C:Cs):e_3 T2 (eS k r #[.fn f]) C=ae (.nx (eS k r #[.fn f]),C):=by
 have e:=KH (k:=k) (r:=r) h C;rw[eF hl]at e;ext e_3;let aa:=a_3 T2;simp![e,xq]
theorem QJ(C:Cs):e_4 (eS k r #[.fn f]) C=ae (.nx (dS (.lst 8e3) (.fn f) C.length af af),C++[.lst [.str k]]):=by
 unfold eS dS;sleep 10;have hg:(0:Int)<(G.length:Int)+1:=by lia
 simp![e_4,dN,fW,eo,dW,gg,hg]
theorem JR:∀fs ws:List Str,dZ fs ws=W7 (λa b=>PV.tup [a,b]) (fs.map .str) 4e2
 |[],ws=>by cases ws<;>rfl
 |f::fs,[]=>rfl
 |f::fs,w::ws=>by simp[dZ,JR fs ws]
theorem QI(h:T2.lookup f=ae fs)(D:Cs)(n:Nat):e_Z T2 (dS (.lst 8e3) (.fn f) n af af) D=ae (dZ fs r,D):=by
 have hc:=wO 8e3;rw[List.drop_one,List.tail_cons]at hc;rw[JR];ext dS;sleep 10;simp![e_Z,jg,xO,k7,bY,h,hc]
theorem Vc1(W F:PV)(C:Cs)(y3 y4:11e4)(l:List PV):e_6 (dS W F C.length y3 y4) (C++[.lst l])=ae (.rt (.v (.tup l)),C++[.lst l]):=by
 simp![e_6,dS,g9]
end
noncomputable def FT:List (Str×List Str):=[("join",[]),("say",13e1),("do",["number","number"]),("free",["number"]),("ready",["number"]),("hand",["number","to","word"]),("quit",["number"]),("note",[])]
def yZ(k:Str):Option (List Str):=FT.lookup k
theorem Hn{α:Type}:∀{T:List (Str×α)}{k:Str}{x:α},T.lookup k=ae x->(k,x)∈T
  | (a,y)::T,k,x,h=>by
    rw[Ym]at h;by_cases q:k=a
    . subst q;simp at h;rw[h];show .head _
    . rw[beq_eq_false_iff_ne.mpr q]at h;show .tail _ (Hn h)
theorem wD{k:Str}{fs:2e2}(h:yZ k=ae fs):(k="join"/\fs=[])\/(k="say"/\fs=(13e1:List Str))\/(k="do"/\fs=(["number","number"]:List Str))\/(k="free"/\fs=(["number"]:List Str))\/(k="ready"/\fs=(["number"]:List Str))\/(k="hand"/\fs=(["number","to","word"]:List Str))\/(k="quit"/\fs=(["number"]:List Str))\/(k="note"/\fs=[]):=by
 have:=Hn h;simpa[FT]using this
def dE(k:Str)(r:2e2):Option (List Pt):=match yZ k with
 |none=>af
 |some fs=>if r.length=fs.length then(dD fs r).map (Pt.st k::·)else af
section
variable{d2 t0 t1 t2 t3 t4 t5 t6 t7:Addr}
theorem Ba{α β:Type}:∀{S:List (Str×α)}{T:List (Str×β)}{k:Str},S.map (·.1)=T.map (·.1)->S.lookup k=af->T.lookup k=af
  |[],[],k,_,_=>rfl
  | (a,x)::S,(b,y)::T,k,e,h=>by
    obtain⟨rfl,e2⟩:a=b/\S.map (·.1)=T.map (·.1):=by simpa using e
    rw[Ym]at h⊢;cases q:k==a
    . rw[q]at h;show Ba e2 h
    . rw[q]at h;cases h
theorem Bv{k:Str}(h:yZ k=af):(LS t0 t1 t2 t3 t4 t5 t6 t7).lookup k=af:=Ba (S:=FT) rfl h
theorem kB{β:Type}:∀{T:List (Addr×β)}(i:Nat){f:Addr}{y:β},(T.map (·.1)).Nodup->T[i]? = ae (f,y)->T.lookup f=ae y
  | (a,x)::T,0,f,y,_,e=>by
    obtain⟨rfl,rfl⟩:a=f/\x=y:=by simpa using e
    simp[Ym]
  | (a,x)::T,i+1,f,y,n,e=>by
    have e':T[i]? = ae (f,y):=by simpa using e
    erw[Yi,WK]at n
    have hm:f∈T.map (·.1):=YV.mpr #[(f,y),YY e',rfl];have:f≠a:=λq=>n.1 (q▸hm);rw[Ym,beq_eq_false_iff_ne.mpr this];show kB i n.2 e'
theorem wC(hd:7e8){k:Str}{fs:2e2}(h:yZ k=ae fs):fs.length<=3/\∃f,(LS t0 t1 t2 t3 t4 t5 t6 t7).lookup k=ae f/\(KO t0 t1 t2 t3 t4 t5 t6 t7).lookup f=ae fs:=by
 rcases wD h with⟨rfl,rfl⟩|⟨rfl,rfl⟩|⟨rfl,rfl⟩|⟨rfl,rfl⟩|⟨rfl,rfl⟩|⟨rfl,rfl⟩|⟨rfl,rfl⟩|⟨rfl,rfl⟩
 .show#[by decide,t0,rfl,kB 0 hd rfl]
 .show#[by decide,t1,rfl,kB 1 hd rfl]
 .show#[by decide,t2,rfl,kB 2 hd rfl]
 .show#[by decide,t3,rfl,kB 3 hd rfl]
 .show#[by decide,t4,rfl,kB 4 hd rfl]
 .show#[by decide,t5,rfl,kB 5 hd rfl]
 .show#[by decide,t6,rfl,kB 6 hd rfl]
 .show#[by decide,t7,rfl,kB 7 hd rfl]
theorem JL{k:Str}{r:2e2}{x:PV}(h:xK d2 t0 t1 t2 t3 t4 t5 t6 t7 (eS k r af) C=ae (.rt (.v p),C++[x])):xE d2 t0 t1 t2 t3 t4 t5 t6 t7 [.v (.lst 8e3)] C=ae (.v p,C):=by
 have:=BF (n:=1) (pad:=4) (ss:=[.v (.lst 8e3)]) rfl h;rwa[List.take_left]at this
theorem ZdH{k:Str}{r:2e2}(h:xK d2 t0 t1 t2 t3 t4 t5 t6 t7 (eS k r af) C=af):xE d2 t0 t1 t2 t3 t4 t5 t6 t7 [.v (.lst 8e3)] C=af:=zk h
theorem pq(hd:7e8)(k:Str)(r:2e2)(hw:∀w∈r,w.length<=60)(C:Cs):xE d2 t0 t1 t2 t3 t4 t5 t6 t7 [.v (.lst 8e3)] C=(dE k r).map λps=>(.v (fw ps),C):=by
 ext dE;cases hk:yZ k with
 |none=>show ZdH (by rw[tK];show rm (Vc3 (Bv hk) C))
 |some fs=>
  let#[h3,f,hf,hT]:=wC hd hk;dsimp only;by_cases hl:r.length=fs.length
  .rw[aE hl]
   have hL:=zl (.lst 8e3) (.fn f) C fs r [.str k] af af hw 14e9;have hF:ix (e_Z (KO t0 t1 t2 t3 t4 t5 t6 t7)) dH dB (dS (.lst 8e3) (.fn f) C.length af af) (C++[.lst [.str k]])=loop dH dB (dZ fs r) (dS (.lst 8e3) (.fn f) C.length af af) (C++[.lst [.str k]]):=by
    unfold ix bP;rw[QI hT]
   have to5:xK d2 t0 t1 t2 t3 t4 t5 t6 t7 (eS k r af) C=aC (ix (e_Z (KO t0 t1 t2 t3 t4 t5 t6 t7)) dH dB) e_6 (dS (.lst 8e3) (.fn f) C.length af af) (C++[.lst [.str k]]):=by
    rw[tK,dw (zi hf C),dw (JC hf C),dw (JB hT hl C),dw (QJ C)]
   cases hp:dD fs r with
   |none=>
    rw[hp]at hL;show ZdH (by rw[to5];show rm (hF.trans hL.1))
   |some ps=>
    rw[hp]at hL;let#[y3,y4,q]:=hL;show JL (by rw[to5,dw (hF.trans q)];show Vc1 _ _ _ _ _ _)
  .rw[aI hl]
   show ZdH (by rw[tK,dw (zi hf C),dw (JC hf C)];show rm (Vc2 hT hl C))
theorem yn(hd:7e8){k:Str}{r:2e2}(hw:∀w∈r,w.length<=60)(h:dE k r=af)(C:Cs):er d2 t0 t1 t2 t3 t4 t5 t6 t7 [.v (.lst 8e3)] C:=by
 rw[JN];ext dE h;show#[rfl,?_];change Ex.i6 _ _ (eS k r af) C;cases hk:yZ k with
 |none=>
  have e:=KI (d:=d2) (T1:=LS t0 t1 t2 t3 t4 t5 t6 t7) (k:=k) (r:=r) C;rw[Bv hk]at e;show .inl #[_,e,eZ C]
 |some fs=>
  let#[h3,f,hf,hT]:=wC hd hk;rw[hk]at h;dsimp only at h;show .inr #[_,zi hf C,_,JC hf C,?_];by_cases hl:r.length=fs.length
  .rw[aE hl]at h
   have hL:=zl (.lst 8e3) (.fn f) C fs r [.str k] af af hw 14e9;have hp:dD fs r=af:=by cases q:dD fs r with|none=>rfl|some ps=>rw[q]at h;cases h
   rw[hp]at hL;show .inr #[_,JB hT hl C,_,[.lst [.str k]],_,QJ C,QI hT _ _,hL.2]
  .have e:=KH (k:=k) (r:=r) hT C
   rw[dm hl]at e;show .inl #[_,e,eZ C]
end
inductive DS:Str->List Str->List Pt->Prop
 |join:DS "join" [] [.st "join"]
 |note:DS "note" [] [.st "note"]
 |say (w:Str):DS "say" [w] [.st "say",.st w]
 |zj (c p:Str) (h1:bJ c=ag) (h2:bJ p=ag):DS "do" [c,p] [.st "do",.num (aT c),.num (aT p)]
 |free (c:Str) (h1:bJ c=ag):DS "free" [c] [.st "free",.num (aT c)]
 |ready (c:Str) (h1:bJ c=ag):DS "ready" [c] [.st "ready",.num (aT c)]
 |quit (c:Str) (h1:bJ c=ag):DS "quit" [c] [.st "quit",.num (aT c)]
 |hand (c w:Str) (h1:bJ c=ag):DS "hand" [c,"to",w] [.st "hand",.num (aT c),.st w]
theorem wt:¬(("word":Str)="to"):=by decide +kernel
theorem wn:¬(("word":Str)="number"):=by decide +kernel
theorem zc{r:2e2}{ps:List Pt}(hl:r.length=1)(h:dD ["number"] r=ae ps):∃c,r=[c]/\bJ c=ag/\ps=[.num (aT c)]:=by
 match r,hl with
 |[c],_=>
  erw[dD,nt,if_false,if_true]at h
  by_cases hf:bJ c=ag
  .rw[aE hf]at h;cases h;show#[c,rfl,hf,rfl]
  .rw[aI hf]at h;cases h
theorem Zca{k:Str}{r:2e2}{ps:List Pt}(h:dE k r=ae ps):DS k r ps:=by
 ext dE h;cases hk:yZ k with
 |none=>rw[hk]at h;cases h
 |some fs=>
  rw[hk]at h;dsimp only at h;by_cases hl:r.length=fs.length
  .rw[aE hl]at h
   cases hq:dD fs r with
   |none=>rw[hq]at h;cases h
   |some qs=>
    rw[hq]at h;cases h;rcases wD hk with⟨rfl,rfl⟩|⟨rfl,rfl⟩|⟨rfl,rfl⟩|⟨rfl,rfl⟩|⟨rfl,rfl⟩|⟨rfl,rfl⟩|⟨rfl,rfl⟩|⟨rfl,rfl⟩
    .cases YN hl
     cases hq;show .join
    .match r,hl with
     |[w],_=>erw[dD,wt,wn,if_false]at hq;cases hq;show .say w
    .match r,hl with
     |[c,p],_=>
      erw[dD,nt,if_false,if_true]at hq
      by_cases hf:bJ c=ag
      .by_cases hg:bJ p=ag
       .rw[aE hf,aE hg]at hq;cases hq;show .zj c p hf hg
       .rw[aE hf,aI hg]at hq;cases hq
      .rw[aI hf]at hq;cases hq
    .let#[c,rfl,hf,rfl]:=zc hl hq
     show .free c hf
    .let#[c,rfl,hf,rfl]:=zc hl hq
     show .ready c hf
    .match r,hl with
     |[c,t,w],_=>
      erw[dD,nt,wt,wn,if_false,if_true]at hq
      by_cases hf:bJ c=ag
      .by_cases hg:t="to"
       .subst hg
        rw[aE hf,aE rfl]at hq;cases hq;show .hand c w hf
       .rw[aE hf,aI hg]at hq;cases hq
      .rw[aI hf]at hq;cases hq
    .let#[c,rfl,hf,rfl]:=zc hl hq
     show .quit c hf
    .cases YN hl
     cases hq;show .note
  .rw[aI hl]at h;cases h
def qT(c:Int):Bool:=oq c 12
def lW:List Pt->Bool
 |[.st _]=>ag
 |[.st _,.st w]=>bc w
 |[.st _,.num c]=>qT c
 |[.st _,.num c,.num p]=>qT c&&oq p 9
 |[.st _,.num c,.st w]=>qT c&&(bc w&&decide (w≠"bell"))
 |_=>ah
theorem Zbe(c:Int)(C:Cs):oK [.v (.int c)] C=ae (.v (.bl (qT c)),C):=by
 have e:=Zby c 12 C;change _=ae (SV.v (.bl (oq c 12)),C);let b:=oq c 12;simp![oK,e]
def says(F:List SV->M SV)(ps:List Pt)(b:Bool):Prop:=∀C,F [.v (.tup (ps.map Pt.P))] C=ae (.v (.bl b),C)
theorem Ax:says rO [] ag:=by
 intro C;simp![rO]
theorem MQ(w:Str):says rH [.st w] (bc w):=by
 intro C;have e1:=Zb6 w C;let b:=bc w;simp![rH,Pt.P,dN,fW,eo,dW,e1]
theorem Zdp(c:Int):says rL [.num c] (qT c):=by
 intro C;have e2:=Zbe c C;let b:=qT c;simp![rL,Pt.P,dN,fW,eo,dW,e2]
theorem MR(c p:Int):says rJ [.num c,.num p] (qT c&&oq p 9):=by
 intro C;have e1:=Zbe c C;have e2:=Zby p 9 C;let b:=qT c;let b2:=oq p 9;cases b<;>simp![rJ,Pt.P,dN,fW,eo,dW,e1,e2]
theorem G4(c:Int)(w:Str):says rK [.num c,.st w] (qT c&&(bc w&&decide (w≠"bell"))):=by
 intro C;have e1:=Zbe c C;have e2:=Zb6 w C;let b:=qT c;let b2:=bc w;cases b<;>cases b2<;>simp![rK,Pt.P,dN,fW,eo,dW,e1,e2]
section
variable{d1 f1 f2 f3 f4 f5:Addr}
theorem Ra{k:Str}{ps:List Pt}{b:Bool}(h1:(ZbB f1 f2 f3 f4 f5).lookup k=ae f)(h2:(En f1 f2 f3 f4 f5).lookup f=ae F)(h3:says F ps b)(C:Cs):rN d1 f1 f2 f3 f4 f5 [.v (fw (.st k::ps))] C=ae (.v (.bl b),C):=by
 have hc:cG (.str k::ps.map Pt.P) (ae 1) af=ps.map Pt.P:=by
  simp[cG,HT.dA];show Xh 3e7
 have e:=h3 C;ext fw
 erw[Yi,Pt.P]
 let PS:=ps.map Pt.P;simp![rN,dN,fW,eo,dW,mL,rZ,h1,k6,qU,h2,hc,e]
theorem wx(h:2e0){k:Str}{r:2e2}{ps:List Pt}(hd:DS k r ps)(C:Cs):rN d1 f1 f2 f3 f4 f5 [.v (fw ps)] C=ae (.v (.bl (lW ps)),C):=by
 let#[h12,h13,h14,h15,h23,h24,h25,h34,h35,h45]:=h;have g1:(En f1 f2 f3 f4 f5).lookup f1=ae rO:=by simp[En,Ym]
 have g2:(En f1 f2 f3 f4 f5).lookup f2=ae rH:=by simp[En,Ym,beq_eq_false_iff_ne.mpr (XD h12)]
 have g3:(En f1 f2 f3 f4 f5).lookup f3=ae rJ:=by simp[En,Ym,beq_eq_false_iff_ne.mpr (XD h13),beq_eq_false_iff_ne.mpr (XD h23)]
 have g4:(En f1 f2 f3 f4 f5).lookup f4=ae rL:=by simp[En,Ym,beq_eq_false_iff_ne.mpr (XD h14),beq_eq_false_iff_ne.mpr (XD h24),beq_eq_false_iff_ne.mpr (XD h34)]
 have g5:(En f1 f2 f3 f4 f5).lookup f5=ae rK:=by simp[En,Ym,beq_eq_false_iff_ne.mpr (XD h15),beq_eq_false_iff_ne.mpr (XD h25),beq_eq_false_iff_ne.mpr (XD h35),beq_eq_false_iff_ne.mpr (XD h45)]
 cases hd with
 |join=>show Ra 1e0 g1 Ax C
 |note=>show Ra 1e0 g1 Ax C
 |say w=>show Ra 1e0 g2 (MQ w) C
 |zj c p _ _=>show Ra 1e0 g3 (MR _ _) C
 |free c _=>show Ra 1e0 g4 (Zdp _) C
 |ready c _=>show Ra 1e0 g4 (Zdp _) C
 |quit c _=>show Ra 1e0 g4 (Zdp _) C
 |hand c w _=>show Ra 1e0 g5 (G4 _ _) C
end
def lE(y:Nm):Bool:=bc y.h&&(bc y.d&&decide (1<=y.n))
theorem ZbU(y:Nm)(C:Cs):jS [.v y.P] C=ae (.v (.bl (lE y)),C):=by
 have e0:=sx [.str y.h,.str y.d,.int y.n] 3 3 C;have e1:=Zb6 y.h C;have e2:=Zb6 y.d C;have e3:=Zbx y.n 1 C;simp at e0;unfold lE Nm.P;let wa:=bc y.h;let wb:=bc y.d;cases wa
 .simp![jS,dN,fW,eo,dW,e0,e1]
 .cases wb
  .simp![jS,dN,fW,eo,dW,e0,e1,e2]
  .simp![jS,dN,fW,eo,dW,e0,e1,e2,e3]
theorem ZbY{α:Type}(P:α->PV)(b:α->Bool){g:5e8}{te:3e6}{C:Cs}(I:aM->Prop):∀(xs:List α),(∀x∈xs,∀ρ,I ρ->∃ρ',g (P x) ρ=ae ρ'/\I ρ'/\te ρ' C=ae (.v (.bl (b x)),C))->∀ρ ys,I ρ->bN g gq te (xs.map P) ρ ys C=ae (ys++xs.map (λx=>.bl (b x)),C)
 |[],_,ρ,ys,_=>by simp[bN,Pu.ret]
 |x::xs,h,ρ,ys,i=>by
  let#[ρ',e1,i',e2]:=h x (.head _) ρ i;have e:=ZbY P b I xs (λy hy=>h y (.tail _ hy)) ρ' (ys++[.bl (b x)]) i';simp[bN,gq,bP,Pu.ret,e1,e2,e]
noncomputable def gE (h d:Str)(y:Nm):Bool:=decide (¬(y.h=h/\y.d=d))
theorem Vcs(a b c d:Str):cn 18e6 (.tup [.str a,.str b]) (.tup [.str c,.str d])=ae (.bl (decide (¬(a=c/\b=d)))):=by
 by_cases h:a=c/\b=d
 .let#[rfl,rfl]:=h
  rw[eq2,dm 3e7]
 .rw[ne2 (λe1 e2=>h #[e1,e2]),eF h]
def nU(us:List Nm)(h d:Str):Bool:=decide (us.length<=30)&&(us.all lE&&((us.zip (us.drop 1)).all (λx=>Bb x.1 x.2)&&us.all (gE h d)))
theorem Sf(us:List Nm):W7 (λa b=>PV.tup [a,b]) (us.map Nm.P) ((us.map Nm.P).drop 1)=(us.zip (us.drop 1)).map λx=>PV.tup [x.1.P,x.2.P]:=by
 rw[←List.map_drop,List.zipWith_map,List.zip,List.map_zipWith]
theorem tY(us:List Nm)(h d:Str)(hn:us.length<=1000)(C:Cs):xF [.v (.tup (us.map Nm.P)),.v (.str h),.v (.str d)] C=ae (.v (.bl (nU us h d)),C):=by
 have e0:jR [.v (.tup (us.map Nm.P)),.v (.int 0),.v (.int 30)] C=ae (.v (.bl (decide (us.length<=30))),C):=by
  rw[sx];have e1:decide ((0:Int)<=(us.map Nm.P).length)=ag:=eF 3e5;have e2:decide (((us.map Nm.P).length:Int)<=30)=decide (us.length<=30):=by rw[Yk,decide_eq_decide];lia
  rw[e1,e2];rfl
 have c1:=ZbY Nm.P lE (g:=hName 0) (te:=bw jS 2e4) (C:=C) (λρ=>ρ.length=1) us (λt ht ρ hρ=>by
  have e:=ZbU t C
  match ρ,hρ with
  |[r1],_=>show#[_,rfl,rfl,by simp[bw,bP,ak,ao,aV,Pu.ret,e]]) [af] [] rfl
 have c2:=ZbY (λx:Nm×Nm=>PV.tup [x.1.P,x.2.P]) (λx=>Bb x.1 x.2) (g:=eP (bf 8e6 14e5) 2) (te:=aD (g2 jC) 1e4 3e9) (C:=C) (λρ=>ρ.length=2) (us.zip (us.drop 1)) (λx hx ρ hρ=>by
  have e:=A9 x.1 x.2
  match ρ,hρ with
  |[r1,r2],_=>show#[_,rfl,rfl,by simp[aD,bP,aV,i7,g2,cE,e]]) [af,af] [] rfl
 have c3:=ZbY Nm.P (gE h d) (g:=hName 0) (te:=aD 1e9 (bU 1e4 eB 16e2) (cj (ak 3e9 12e3))) (C:=C) (λρ=>∃r,ρ=[r,#[.str h],#[.str d]]) us (λt ht ρ hρ=>by
  have e:=Vcs t.h t.d h d;let#[r,rfl]:=hρ;show#[_,rfl,7e2,?_];ext Nm.P;change _=ae (SV.v (.bl (decide (¬(t.h=h/\t.d=d)))),C);generalize decide (¬(t.h=h/\t.d=d))=bb at *;simp![VaN,e]) [af,#[.str h],#[.str d]] [] #[_,rfl]
 have hl:(us.map Nm.P).length<=100000:=by rw[Yk];lia
 have hz:xO bY [.v (.tup (us.map Nm.P)),.v (.tup (cG (us.map Nm.P) (ae 1) af))]=ae ((us.zip (us.drop 1)).map λx=>PV.tup [x.1.P,x.2.P]):=by rw[wO,←Sf];rfl
 have hzl:((us.zip (us.drop 1)).map λx:Nm×Nm=>PV.tup [x.1.P,x.2.P]).length<=100000:=by simp;lia
 have z1:=Zbv us lE;have z2:=Zbv (us.zip (us.drop 1)) (λx=>Bb x.1 x.2);have z3:=Zbv us (gE h d);ext nU;generalize(us.zip (us.drop 1)).all (λx=>Bb x.1 x.2)=b2 at *;let b1:=us.all lE;let b3:=us.all (gE h d);generalize decide (us.length<=30)=b0 at *;generalize((us.zip (us.drop 1)).map λx:Nm×Nm=>PV.tup [x.1.P,x.2.P])=zs at *;generalize((us.zip (us.drop 1)).map λx:Nm×Nm=>PV.bl (Bb x.1 x.2))=zt at *;let xs:=us.map Nm.P;generalize(us.map λx=>PV.bl (lE x))=xt at *;generalize(us.map λx=>PV.bl (gE h d x))=xo at *;unfold xF Sa;generalize bw jS 2e4=te at c1⊢;generalize aD (g2 jC) 1e4 3e9=te2 at c2⊢;generalize aD 1e9 (bU 1e4 eB 16e2) (cj (ak 3e9 12e3))=te3 at c3⊢;cases b0
 .simp![e0]
 .cases b1
  .simp![e0,br,bu,bY,di,hl,c1,z1]
  .cases b2
   .simp![e0,br,bu,bY,di,hl,c1,z1,jg,hz,hzl,c2,z2]
   .simp![e0,br,bu,bY,di,hl,c1,z1,jg,hz,hzl,c2,z2,c3,z3]
structure Rl where
 x:Nm
 prev:Int
 cY:List Nm
 time:Int
 ps:List Pt
def Rl.P(l:Rl):PV:=.tup [.str l.x.h,.str l.x.d,.int l.x.n,.int l.prev,.tup (l.cY.map Nm.P),.int l.time,fw l.ps]
def Rl.B(l:Rl):Bool:=lE l.x&&(decide (0<=l.prev)&&(nU l.cY l.x.h l.x.d&&(decide (0<=l.time)&&lW l.ps)))
section
variable{d1 f1 f2 f3 f4 f5:Addr}
theorem pH(h:2e0)(l:Rl){k:Str}{r:2e2}(hd:DS k r l.ps)(hn:l.cY.length<=1000)(C:Cs):l5 d1 f1 f2 f3 f4 f5 [.v l.P] C=ae (.v (.bl l.B),C):=by
 have e0:=sx [.str l.x.h,.str l.x.d,.int l.x.n,.int l.prev,.tup (l.cY.map Nm.P),.int l.time,fw l.ps] 7 7 C;have e1:=ZbU l.x C;have e2:=Zbx l.prev 0 C;have e3:=tY l.cY l.x.h l.x.d hn C;have e4:=Zbx l.time 0 C;have e5:=wx (d1:=d1) h hd C;have h0:jR [.v l.P,.v (.int 7),.v (.int 7)] C=ae (.v 10e8,C):=e0;have h2:l5 d1 f1 f2 f3 f4 f5 [.v l.P] C=ae (.v (if(!ag||!lE l.x)=ag then .bl ah else .bl (decide (0<=l.prev)&&(nU l.cY l.x.h l.x.d&&(decide (0<=l.time)&&lW l.ps)))),C):=
  oh rfl (mR (Ves (P5 (OQ h0)) λ_=>P5 (OQ e1)) (λ_=>rfl) λ_=>(dw (ρ1:=[#[l.P],#[.str l.x.h],#[.str l.x.d],#[.int l.x.n],#[.int l.prev],#[.tup (l.cY.map Nm.P)],#[.int l.time],#[fw l.ps]]) (C1:=C) rfl).trans (VbX (zB e2 λ_=>zB e3 λ_=>zB e4 λ_=>e5)))
 rw[h2];ext Rl.B;cases lE l.x<;>rfl
end
noncomputable def fH (m:Str):Bool:=Txt.endswith m 17e1
noncomputable def fN (m:Str):Str:=Txt.slice m af (ae (-1))
theorem NR(m:Str):wH (.str m) [.str ":"]=ae (.bl (fH m)):=rfl
theorem tS{m:Str}(h:fH m=ag):m.cps.toList=(fN m).cps.toList++[58]/\(fN m).length+1=m.length:=by
 unfold fH Txt.endswith at h;have h1:(17e1:Str).length=1:=rfl;rw[h1]at h
 erw[Yl,g6]at h
 let#[h0,hs]:=h;have h2:=(PySem.StrLaws.subAt_one m 58 (m.length-1)).mp #[by lia,hs];have e:=slice_closes_to_neg (x:=m) (j:=-1) (k:=((m.length-1:Nat):Int)) 2e7 3e5 3e5;have e2:fN m=_:=eq_of_beq e;have hl:m.cps.toList.length=m.length:=by rw[←B0]
 have h3:(fN m).cps.toList=m.cps.toList.take (m.length-1):=by rw[e2];simp
 show#[?_,?_]
 .rw[h3]
  have:=List.take_append_drop (m.length-1) m.cps.toList;have hd:m.cps.toList.drop (m.length-1)=[58]:=by
   have hd2:(m.cps.toList.drop (m.length-1)).length=1:=by rw[WA,hl];lia
   match hq:m.cps.toList.drop (m.length-1),hd2 with
   |[c],_=>
    have:m.cps.toList[m.length-1]? = ae c:=by
     have:=congrArg (·[0]?) hq;simpa[List.getElem?_drop]using this
    rw[this]at h2;simp at h2;rw[h2]
  rw[←hd];show this.symm
 .rw[B0 11e9,h3,Y8,hl];lia
def ra2:aM->M (List SV):=ak (aD (g2 pL) (cB (g1 fG) 5e6) 7e4) ao
def ra4:aM->M (List SV):=ak (aD 3e3 3e9 4e5) ao
def ra5:aM->M (List SV):=ak (aQ 3e9 (bz 7e4) eB) ao
def ra6:aM->M (List SV):=ak 3e9 ao
def Ls:aM->M (List SV):=ak 13e7 ao
def Mr:aM->M (List SV):=ak (aQ (aD 3e3 3e9 1e8) eB (bz (jh 1e8))) ao
def rb8:aM->M (List SV):=ak (aQ 3e9 16e2 eB) ao
def r1:aM->M PF:=bg 1 (bw jO 2e4)
def r2:aM->M PF:=cb (bw cA ra2)
def r3:aM->M PF:=fQ (aQ 3e9 eB 16e2) (HP (bf (hName 2) (bf (hName 3) fZ)) 2)
def r4:aM->M PF:=bg 4 (bw eE ra4)
def r5:aM->M PF:=fQ (bw gX ra5) (eP (bf (hName 5) 14e5) 2)
def r6:aM->M PF:=fQ (bw jP ra6) (eP (bf (hName 6) 14e5) 2)
def r7:aM->M PF:=cb (bw cA Ls)
section
variable(d1 f1 f2 f3 f4 f5 d2 t0 t1 t2 t3 t4 t5 t6 t7:Addr)
def r8:aM->M PF:=bg 7 (cj (ak 6e1 (ak 9e2 (ak 6e9 (ak (aV 5) (ak (aV 6) (ak (bw eE Mr) (ak (bw (xE d2 t0 t1 t2 t3 t4 t5 t6 t7) rb8) ao))))))))
def ra9:aM->M (List SV):=ak (bw (l5 d1 f1 f2 f3 f4 f5) (ak (aV 7) ao)) ao
def r9:aM->M PF:=cb (bw cA (ra9 d1 f1 f2 f3 f4 f5))
end
section
variable{d1 f1 f2 f3 f4 f5 d2 t0 t1 t2 t3 t4 t5 t6 t7:Addr}
theorem Ai:xI d1 f1 f2 f3 f4 f5 d2 t0 t1 t2 t3 t4 t5 t6 t7=aC r1 (aC r2 (aC r3 (aC r4 (aC r5 (aC r6 (aC r7 (aC (r8 d2 t0 t1 t2 t3 t4 t5 t6 t7) (aC (r9 d1 f1 f2 f3 f4 f5) (bj (aV 7)))))))))):=rfl
theorem ve:dJ d1 f1 f2 f3 f4 f5 d2 t0 t1 t2 t3 t4 t5 t6 t7=Ex.iS 1 7 (Ex.i6 (Ex.bZ 2e4 gA) (Ex.cz r1 (Ex.i6 (Ex.bZ ra2 cC) (Ex.cz r2 (Ex.cz r3 (Ex.i6 (Ex.bZ ra4 bL) (Ex.cz r4 (Ex.i6 (Ex.bZ ra5 fT) (Ex.cz r5 (Ex.i6 (Ex.bZ ra6 eY) (Ex.cz r6 (Ex.i6 (Ex.bZ Ls cC) (Ex.cz r7 (Ex.i6 (Ex.hV 6e1 (Ex.hV 9e2 (Ex.hV 6e9 (Ex.hV (aV 5) (Ex.hV (aV 6) (Ex.i6 (Ex.bZ Mr bL) (Ex.hV (bw eE Mr) (Ex.bZ rb8 (er d2 t0 t1 t2 t3 t4 t5 t6 t7))))))))) (Ex.cz (r8 d2 t0 t1 t2 t3 t4 t5 t6 t7) (Ex.bZ (ra9 d1 f1 f2 f3 f4 f5) cC)))))))))))))))):=rfl
end
def RS(z:Str)(W:List PV)(x2 x3 x4 x5 x6 x7:11e4):aM:=[#[.str z],#[.lst W],x2,x3,x4,x5,x6,x7]
theorem Vda(a b c:PV)(r:List PV):cG (a::b::c::r) (ae 3) af=r:=by
 simp[cG,HT.dA]
theorem VaL(a b:PV)(r:List PV):cG (a::b::r) af (ae 2)=[a,b]:=by
 simp[cG,HT.dA]
section
variable(z:Str)(W R:List PV)(x2 x3 x4 x5 x6 x7:11e4)(C:Cs)
theorem Gi:ra2 (RS z W x2 x3 x4 x5 x6 x7) C=ae ([.v (.bl (decide (3<W.length)))],C):=by
 have:decide (3<W.length)=decide ((3:Int)<(W.length:Int)):=by rw[decide_eq_decide];lia
 rw[this];simp![ra2,RS]
theorem P0:r2 (RS z W x2 x3 x4 x5 x6 x7) C=if 3<W.length then ae (.nx (RS z W x2 x3 x4 x5 x6 x7),C)else af:=by
 have e:=Gi z W x2 x3 x4 x5 x6 x7 C;ext r2;let aa:=ra2;by_cases h:3<W.length
 .rw[aE h];rw[eF h]at e
  simp![e,xq]
 .rw[aI h];rw[dm h]at e
  simp![e,Em]
theorem PZ(a b:Str):r3 (RS z (.str a::.str b::R) x2 x3 x4 x5 x6 x7) C=ae (.nx (RS z (.str a::.str b::R) #[.str a] #[.str b] x4 x5 x6 x7),C):=by
 have c1:=VaL (.str a) (.str b) R;simp![r3,RS,aQ,cW,fQ,HP,bf,hName,fZ,c1]
theorem Gh(a b n:PV):ra4 (RS z (a::b::n::R) x2 x3 x4 x5 x6 x7) C=ae ([.v n],C):=by
 have hg:(2:Int)<(R.length:Int)+1+1+1:=by lia
 simp![ra4,RS,dN,fW,eo,dW,hg]
theorem PY(a b:PV)(n:Str)(hl:n.length<=60):r4 (RS z (a::b::.str n::R) x2 x3 x4 x5 x6 x7) C=if bJ n=ag then ae (.nx (RS z (a::b::.str n::R) x2 x3 #[.int (aT n)] x5 x6 x7),C)else af:=by
 have e:=Gh z R x2 x3 x4 x5 x6 x7 C a b (.str n);have e2:=ZaS n hl C;ext r4;let aa:=ra4;unfold RS at e⊢;by_cases h:bJ n=ag
 .rw[aE h]at e2⊢
  let N:=aT n;simp![e,e2]
 .rw[aI h]at e2⊢
  simp![e,e2]
theorem Gg(a b n:PV):ra5 (RS z (a::b::n::R) x2 x3 x4 x5 x6 x7) C=ae ([.v (.lst R)],C):=by
 have c2:=Vda a b n R;simp![ra5,RS,aQ,cW,c2]
theorem PX(a b n:PV)(ws:2e2)(hw:8e1):r5 (RS z (a::b::n::ws.map .str) x2 x3 x4 x5 x6 x7) C=(cT ws).map λx=>(.nx (RS z (x.2.map .str) x2 x3 x4 #[.int x.1] x6 x7),C):=by
 have e:=Gg z 4e2 x2 x3 x4 x5 x6 x7 C a b n;have e2:=pf ws hw C;ext r5;let aa:=ra5;cases hp:cT ws with
 |none=>
  rw[hp]at e2;sleep 13;unfold RS at e⊢;simp at e2;simp![e,e2,fQ]
 |some x=>
  rw[hp]at e2;change _=ae (PF.nx (RS z (x.2.map .str) x2 x3 x4 #[.int x.1] x6 x7),C);replace e2:gX [.v (.lst 4e2)] C=ae (.v (.tup [.int x.1,.lst (x.2.map .str)]),C):=e2;sleep 13;let G2:=x.2.map PV.str;unfold RS at e⊢;simp![e,e2,fQ,eP,bf,hName,fZ]
theorem PU(ws:2e2)(hl:ws.length<=1000)(hw:8e1):r6 (RS z 4e2 x2 x3 x4 x5 x6 x7) C=(dk ws).map λx=>(.nx (RS z (x.2.map .str) x2 x3 x4 x5 #[.tup (x.1.map Pq.P)] x7),C):=by
 have e2:=pj ws hl hw C;unfold r6 ra6;cases hp:dk ws with
 |none=>
  rw[hp]at e2;sleep 13;ext RS;simp at e2;simp![e2,fQ]
 |some x=>
  rw[hp]at e2;change _=ae (PF.nx (RS z (x.2.map .str) x2 x3 x4 x5 #[.tup (x.1.map Pq.P)] x7),C);replace e2:jP [.v (.lst 4e2)] C=ae (.v (.tup [.tup (x.1.map Pq.P),.lst (x.2.map .str)]),C):=e2;sleep 13;let G2:=x.2.map PV.str;let G1:=x.1.map Pq.P;ext RS;simp![e2,fQ,eP,bf,hName,fZ]
end
def jD:List Str->Bool
 |t::m::_::_=>decide (t="at")&&fH m
 |_=>ah
section
variable(z:Str)(x2 x3 x4 x5 x6 x7:11e4)(C:Cs)
theorem Gf(ws:2e2):Ls (RS z 4e2 x2 x3 x4 x5 x6 x7) C=ae ([.v (.bl (jD ws))],C):=by
 match ws with
 |[]=>simp![Ls,RS,jD]
 |[a]=>simp![Ls,RS,jD]
 |[a,b]=>simp![Ls,RS,jD]
 |t::m::k::r=>
  have e:=NR m
  erw[Yi,jD]
  let cm:=fH m;sleep 10;have h1:(2:Int)<(G.length:Int)+1+1+1:=by lia
  have h2:(0:Int)<(G.length:Int)+1+1+1:=by lia
  have h3:(1:Int)<(G.length:Int)+1+1+1:=by lia
  by_cases ht:t="at"
  .subst ht
   simp![Ls,RS,dN,fW,eo,dW,h1,h2,h3,e]
  .simp![Ls,RS,dN,fW,eo,dW,h1,h2,h3,ht]
theorem PR(ws:2e2):r7 (RS z 4e2 x2 x3 x4 x5 x6 x7) C=if jD ws=ag then ae (.nx (RS z 4e2 x2 x3 x4 x5 x6 x7),C)else af:=by
 have e:=Gf z x2 x3 x4 x5 x6 x7 C ws;ext r7;let aa:=Ls;cases h:jD ws
 .rw[h]at e
  rw[aI 3e7];simp![e,Em]
 .rw[h]at e
  rw[aE rfl];simp![e,xq]
theorem Ge(t m:Str)(R:List PV):Mr (RS z (.str t::.str m::R) x2 x3 x4 x5 x6 x7) C=ae ([.v (.str 11e9)],C):=by
 have h3:(1:Int)<(R.length:Int)+1+1:=by lia
 simp![Mr,RS,dN,fW,eo,dW,h3,aQ,cW,jh,yF,fN]
theorem F'(t m:PV)(R:List PV):rb8 (RS z (t::m::R) x2 x3 x4 x5 x6 x7) C=ae ([.v (.lst R)],C):=by
 have c3:=tN t m R;simp![rb8,RS,aQ,cW,c3]
end
section
variable{d1 f1 f2 f3 f4 f5 d2 t0 t1 t2 t3 t4 t5 t6 t7:Addr}
variable(z:Str)(a b:Str)(n p:Int)(G:List PV)(C:Cs)
def R8(z:Str)(W:List PV)(a b:Str)(n p:Int)(G:List PV)(x7:11e4):aM:=RS z W #[.str a] #[.str b] #[.int n] #[.int p] #[.tup G] x7
theorem PQ(hd:7e8)(t m k:Str)(r:2e2)(hm:(fN m).length<=60)(hw:∀w∈r,w.length<=60):r8 d2 t0 t1 t2 t3 t4 t5 t6 t7 (R8 z (.str t::.str m::.str k::r.map .str) a b n p G af) C =
  if bJ 11e9=ag then(dE k r).map λps=>(.nx (R8 z (.str t::.str m::.str k::r.map .str) a b n p G #[.tup [.str a,.str b,.int n,.int p,.tup G,.int (aT 11e9),fw ps]]),C)else af:=by
 have e1:=Ge z #[.str a] #[.str b] #[.int n] #[.int p] #[.tup G] af C t m 8e3;have e2:=F' z #[.str a] #[.str b] #[.int n] #[.int p] #[.tup G] af C (.str t) (.str m) 8e3;have e3:=ZaS 11e9 hm C;have e4:=pq (d2:=d2) hd k r hw C;unfold R8 r8;let aa:=Mr;let ab:=rb8;let um:=fN m;let RR:=r.map PV.str;unfold RS at e1 e2⊢;by_cases hf:bJ um=ag
 .rw[aE hf]at e3⊢
  let N:=aT um;cases hp:dE k r with
  |none=>
   rw[hp]at e4;simp at e4;simp![e1,e2,e3,e4]
  |some ps=>
   rw[hp]at e4
   erw[XN]at e4⊢
   let DD:=fw ps;simp![e1,e2,e3,e4]
 .rw[aI hf]at e3⊢
  simp![e1,e3]
theorem Gd(hf:2e0)(W:List PV)(G':List PV)(l:Rl){k:Str}{r:2e2}(hs:DS k r l.ps)(hn:l.cY.length<=1000):ra9 d1 f1 f2 f3 f4 f5 (R8 z W a b n p G' #[l.P]) C=ae ([.v (.bl l.B)],C):=by
 have e:=pH (d1:=d1) hf l hs hn C;unfold R8 RS ra9;let LP:=l.P;let LB:=l.B;simp![e]
theorem Vce(hf:2e0)(W:List PV)(G':List PV)(l:Rl){k:Str}{r:2e2}(hs:DS k r l.ps)(hn:l.cY.length<=1000):r9 d1 f1 f2 f3 f4 f5 (R8 z W a b n p G' #[l.P]) C=if l.B=ag then ae (.nx (R8 z W a b n p G' #[l.P]),C)else af:=by
 have e:=Gd (d1:=d1) z a b n p C hf W G' l hs hn;ext r9;let aa:=ra9 d1 f1 f2 f3 f4 f5;cases h:l.B
 .rw[h]at e
  rw[aI 3e7];simp![e,Em]
 .rw[h]at e
  rw[aE rfl];simp![e,xq]
end
noncomputable def Pq.N:Pq->Nm
 |.nam a b n=>#[a,b,n]
 |.num n=>#["","",n]
theorem Hg{ps:2e2}{p:Pq}(h:fP ps=ae p):p.P=p.N.P:=by
 ext fP h;split at h
 .split at h
  .cases h;rfl
  .cases h
 .cases h
theorem AF:∀{ws:2e2}{ps:List Pq},bX ws=ae ps->ps.map Pq.P=(ps.map Pq.N).map Nm.P/\ps.length=ws.length
 |[],ps,h=>by cases h;show#[rfl,rfl]
 |z::r,ps,h=>by
  ext bX h;cases hz:fP (dv z)with
  |none=>rw[hz]at h;cases h
  |some p=>
   rw[hz]at h;cases hr:bX r with
   |none=>rw[hr]at h;cases h
   |some qs=>
    rw[hr]at h;cases h;let#[a,b]:=AF hr;show#[by erw[Yi];rw[a,Hg hz],by simp[b]]
theorem GJ{q:2e2}{p:Int}(h:cT ws=ae (p,q)):(∀w∈q,w∈ws)/\q.length<=ws.length:=by
 cases ws with
 |nil=>cases h;show#[λ_ z=>z,Yo _]
 |cons a r=>
  ext cT h;dsimp only at h;split at h
  .cases r with
   |nil=>cases h
   |cons z q'=>
    dsimp only at h;split at h
    .cases h;show#[λw hw=>by simp[hw],by simp;lia]
    .cases h
  .cases h;show#[λ_ z=>z,Yo _]
theorem HS{q:2e2}{gs:List Pq}(h:dk ws=ae (gs,q)):gs.map Pq.P=(gs.map Pq.N).map Nm.P/\gs.length<=ws.length/\(∀w∈q,w∈ws):=by
 cases ws with
 |nil=>cases h;show#[rfl,Yo _,λ_ z=>z]
 |cons a r=>
  ext dk h;dsimp only at h;split at h
  .cases hx:kR r with
   |none=>rw[hx]at h;cases h
   |some x=>
    let#[us,q']:=x;let#[hr,_]:=Zcb hx;rw[hx]at h;dsimp only at h;split at h
    .cases h
    .cases hn:bX us with
     |none=>rw[hn]at h;cases h
     |some ps=>
      rw[hn]at h;cases h;let#[a1,a2]:=AF hn;subst hr;show#[a1,by simp;lia,λw hw=>by simp at hw⊢;rcases hw with h|h<;>simp[h]]
  .cases h;show#[rfl,XZ _,λ_ z=>z]
def kE(l:Rl):Option Rl:=if l.B=ag then ae l else af
def dX(x:Nm)(p:Int)(gs:List Nm)(ws:2e2):Option Rl:=match ws with
 |t::m::k::r=>if jD (t::m::k::r)=ag then(if bJ 11e9=ag then(match dE k r with
  |none=>af
  |some ps=>kE #[x,p,gs,aT (fN m),ps])else af)else af
 |_=>af
section
variable{d1 f1 f2 f3 f4 f5 d2 t0 t1 t2 t3 t4 t5 t6 t7:Addr}
theorem BA{t m k:Str}{r:2e2}(h:jD (t::m::k::r)=ag):fH m=ag:=by
 ext jD h;simp at h;show h.2
theorem E9(hf:2e0)(hd:7e8)(z a b:Str)(n p:Int)(gs:List Nm)(hg:gs.length<=1000)(ws:2e2)(hw:8e1)(C:Cs):
  aC r7 (aC (r8 d2 t0 t1 t2 t3 t4 t5 t6 t7) (aC (r9 d1 f1 f2 f3 f4 f5) (bj (aV 7)))) (R8 z 4e2 a b n p 8e0 af) C=(dX #[a,b,n] p gs ws).map λl=>(.rt (.v l.P),C):=by
 have e7:=PR z #[.str a] #[.str b] #[.int n] #[.int p] #[.tup 8e0] af C ws
 match ws,hw with
 |[],_=>show rm e7
 |[_],_=>show rm e7
 |[_,_],_=>show rm e7
 |t::m::k::r,hw=>
  ext dX;dsimp only;by_cases he:jD (t::m::k::r)=ag
  .rw[aE he]at e7⊢
   have hm:(fN m).length<=60:=by have:=(tS (BA he)).2;have:=hw m 3e7;lia
   have e8:=PQ (d2:=d2) z a b n p 8e0 C hd t m k r hm (λw h=>hw w (by simp[h]));show(dw e7).trans ?_;by_cases hu:bJ 11e9=ag
   .rw[aE hu]at e8⊢
    cases hp:dE k r with
    |none=>rw[hp]at e8;show rm e8
    |some ps=>
     rw[hp]at e8;show(dw e8).trans ?_;have e9:=Vce (d1:=d1) z a b n p C hf (.str t::.str m::.str k::r.map .str) 8e0 13e8 (Zca hp) hg;change _=(kE 13e8).map _;ext kE;by_cases hB:Rl.B 13e8=ag
     .rw[aE hB]at e9⊢
      show(dw e9).trans rfl
     .rw[aI hB]at e9⊢
      show rm e9
   .rw[aI hu]at e8⊢
    show rm e8
  .rw[aI he]at e7⊢
   show rm e7
theorem Sw(hf:2e0)(hd:7e8)(z a b:Str)(n p:Int)(gs:List Nm)(hg:gs.length<=1000)(ws:2e2)(hw:8e1)(h:dX #[a,b,n] p gs ws=af)(C:Cs):
  (Ex.i6 (Ex.bZ Ls cC) (Ex.cz r7 (Ex.i6 (Ex.hV 6e1 (Ex.hV 9e2 (Ex.hV 6e9 (Ex.hV (aV 5) (Ex.hV (aV 6) (Ex.i6 (Ex.bZ Mr bL) (Ex.hV (bw eE Mr) (Ex.bZ rb8 (er d2 t0 t1 t2 t3 t4 t5 t6 t7))))))))) (Ex.cz (r8 d2 t0 t1 t2 t3 t4 t5 t6 t7) (Ex.bZ (ra9 d1 f1 f2 f3 f4 f5) cC))))) (R8 z 4e2 a b n p 8e0 af) C:=by
 have e7:=PR z #[.str a] #[.str b] #[.int n] #[.int p] #[.tup 8e0] af C ws;have a7:=Gf z #[.str a] #[.str b] #[.int n] #[.int p] #[.tup 8e0] af C ws
 match ws,hw with
 |[],_=>show .inl #[_,a7,eZ C]
 |[_],_=>show .inl #[_,a7,eZ C]
 |[_,_],_=>show .inl #[_,a7,eZ C]
 |t::m::k::r,hw=>
  ext dX h;dsimp only at h;by_cases he:jD (t::m::k::r)=ag
  .rw[aE he]at e7 h
   show .inr #[_,e7,?_];have hm:(fN m).length<=60:=by have:=(tS (BA he)).2;have:=hw m 3e7;lia
   have hwr:∀w∈r,w.length<=60:=λw h=>hw w (by simp[h]);have e8:=PQ (d2:=d2) z a b n p 8e0 C hd t m k r hm hwr;have a8:=Ge z #[.str a] #[.str b] #[.int n] #[.int p] #[.tup 8e0] af C t m 8e3;have b8:=F' z #[.str a] #[.str b] #[.int n] #[.int p] #[.tup 8e0] af C (.str t) (.str m) 8e3;by_cases hu:bJ 11e9=ag
   .rw[aE hu]at e8 h
    have e3:=ZaS 11e9 hm C;rw[aE hu]at e3;have m8:bw eE Mr (R8 z (.str t::.str m::.str k::r.map .str) a b n p 8e0 af) C=ae (.v (.int (aT 11e9)),C):=by
     unfold bw bP R8;rw[a8];show e3
    cases hp:dE k r with
    |none=>show .inl #[_,rfl,_,rfl,_,rfl,_,rfl,_,rfl,.inr #[_,m8,_,b8,yn hd hwr hp C]]
    |some ps=>
     rw[hp]at e8 h;have a9:=Gd (d1:=d1) z a b n p C hf (.str t::.str m::.str k::r.map .str) 8e0 13e8 (Zca hp) hg;have h':kE 13e8=af:=h;ext kE h';have hB:Rl.B 13e8=ah:=by
      by_cases q:Rl.B 13e8=ag
      .rw[aE q]at h';cases h'
      .simpa using q
     rw[hB]at a9;show .inr #[_,e8,_,a9,eZ C]
   .show .inl #[_,rfl,_,rfl,_,rfl,_,rfl,_,rfl,.inl #[_,a8,Zbh hm (by simpa using hu) C]]
  .have he':jD (t::m::k::r)=ah:=by simpa using he
   rw[he']at a7;show .inl #[_,a7,eZ C]
end
theorem wR:∀(xs:2e2)(ρ0:11e4)(ys:List PV)(C:Cs),bN 8e6 (eM 1e4) 1e4 (xs.map .str) [ρ0] ys C=ae (ys++(xs.filter kh).map .str,C)
 |[],ρ0,ys,C=>by simp[bN,Pu.ret]
 |x::xs,ρ0,ys,C=>by
  have e:=λys=>wR xs #[.str x] ys C;by_cases hx:x.length=0
  .simp![bN,hName,kh,hx,e]
  .simp![bN,hName,kh,hx,e]
theorem uH(z:Str)(ws:2e2)(hl:z.length<=90000)(h:(Txt.split z 13e9).filter kh=ws)(C:Cs):xD [.v (.str z)] C=ae (.v (.lst 4e2),C):=by
 have e:hU (.str z) [.str " "]=ae (.lst ((Txt.split z 13e9).map .str)):=by
  change(if 1<=(13e9:Str).length/\z.length<=100000 then ae (PV.lst ((Txt.split z 13e9).map .str))else af)=_;rw[aE #[by decide,by lia]]
 have hf:=wR (Txt.split z 13e9) af [] C;have hn:=pZ z 13e9;have hn2:((Txt.split z 13e9).map PV.str).length<=100000:=by simp;lia
 rw[h,XA]at hf;generalize(Txt.split z 13e9).map PV.str=SP at *;sleep 11;unfold xD R7;generalize ht:(eM 1e4)=t at *;generalize hv:1e4=v at *;have hvv:v [#[.str z]] C=ae (.v (.str z),C):=by rw[←hv];rfl
 simp[cK,vP,br,bu,pE,bP,hvv,i7,Nk,cE,tyP,ak,ao,mC,Pu.ret,mtD,gy,e,bY,hn2,di,hf,fin]
theorem Zc9(z:Str)(ws:2e2)(hl:z.length<=90000)(h:(Txt.split z 13e9).filter kh=ws)(C:Cs):jO [.v (.str z)] C=ae (.v (.lst 4e2),C):=by
 have e:=uH z ws hl h C;simp![jO,xq,e]
theorem CF(x:PV)(h:gu [x,.ty "str"]=ae 9e3)(C:Cs):gA [.v x] C:=by
 show#[rfl,[.v 9e3],?_,eZ C];unfold cB ak ao aV mC;simp[bP,Pu.ret,i7,g1,gy,cE,h]
def kZ(x:Nm)(ws:2e2):Option Rl:=match cT ws with
 |none=>af
 |some (p,q)=>match dk q with
  |none=>af
  |some (gs,q2)=>dX x p (gs.map Pq.N) q2
def f6(ws:2e2):Option Rl:=match ws with
 |a::b::n::c::r=>if bJ n=ag then kZ #[a,b,aT n] (c::r)else af
 |_=>af
structure Rb(z:Str)(ws:List Str):Prop where
 l:z.length<=90000
 s:(Txt.split z 13e9).filter kh=ws
 n:ws.length<=1000
 w:∀w∈ws,w.length<=60
section
variable{d1 f1 f2 f3 f4 f5 d2 t0 t1 t2 t3 t4 t5 t6 t7:Addr}
theorem M3(hf:2e0)(hd:7e8)(z a b:Str)(n:Int)(u v w:PV)(ws:2e2)(hn:ws.length<=1000)(hw:8e1)(C:Cs):
  aC r5 (aC r6 (aC r7 (aC (r8 d2 t0 t1 t2 t3 t4 t5 t6 t7) (aC (r9 d1 f1 f2 f3 f4 f5) (bj (aV 7)))))) (RS z (u::v::w::ws.map .str) #[.str a] #[.str b] #[.int n] af af af) C=(kZ #[a,b,n] ws).map λl=>(.rt (.v l.P),C):=by
 have e5:=PX z #[.str a] #[.str b] #[.int n] af af af C u v w ws hw;ext kZ;cases hp:cT ws with
 |none=>rw[hp]at e5;show rm e5
 |some x=>
  let#[p,q]:=x;let#[q1,q2]:=GJ hp;rw[hp]at e5;show(dw e5).trans ?_;have e6:=PU z #[.str a] #[.str b] #[.int n] #[.int p] af af C q 3e5 (λy hy=>hw y (q1 y hy));dsimp only;cases hg:dk q with
  |none=>rw[hg]at e6;show rm e6
  |some y=>
   let#[gs,q3]:=y;let#[g1,g2,g3]:=HS hg;rw[hg]at e6;show(dw e6).trans ?_;dsimp only;rw[g1];show E9 hf hd z a b n p (gs.map Pq.N) (by rw[Yk];lia) q3 (λy hy=>hw y (q1 y (g3 y hy))) C
theorem F9(hf:2e0)(hd:7e8)(h:Rb z ws)(C:Cs):
  xI d1 f1 f2 f3 f4 f5 d2 t0 t1 t2 t3 t4 t5 t6 t7 [#[.str z],af,af,af,af,af,af,af] C=(f6 ws).map λl=>(.rt (.v l.P),C):=by
 have e1:=Zc9 z ws h.l h.s C;have s1:r1 [#[.str z],af,af,af,af,af,af,af] C=ae (.nx (RS z 4e2 af af af af af af),C):=by
  ext RS;sleep 13;simp![r1,e1]
 have e2:=P0 z 4e2 af af af af af af C;rw[Ai];show(dw s1).trans ?_;rw[Yk]at e2;have hn:=h.n;have hw:=h.w
 match ws,e2,hn,hw with
 |[],e2,_,_=>show rm e2
 |[_],e2,_,_=>show rm e2
 |[_,_],e2,_,_=>show rm e2
 |[_,_,_],e2,_,_=>show rm e2
 |a::b::n::c::r,e2,hn,hw=>
  rw[aE 3e7]at e2;show(dw e2).trans ?_;show(dw (PZ z (.str n::(c::r).map .str) af af af af af af C a b)).trans ?_;have e4:=PY z ((c::r).map .str) #[.str a] #[.str b] af af af af C (.str a) (.str b) n (hw n 3e7);ext f6;dsimp only;by_cases hu:bJ n=ag
  .rw[aE hu]at e4⊢
   show(dw e4).trans ?_;show M3 hf hd z a b (aT n) _ _ _ (c::r) (by simp at hn⊢;lia) (λy hy=>hw y (by simp at hy⊢;rcases hy with h|h<;>simp[h])) C
  .rw[aI hu]at e4⊢
   show rm e4
theorem Zdg(hf:2e0)(hd:7e8)(h:Rb z ws)(C:Cs):
  jv d1 f1 f2 f3 f4 f5 d2 t0 t1 t2 t3 t4 t5 t6 t7 [.v (.str z)] C=(f6 ws).map λl=>(.v l.P,C):=by
 have run:=F9 (d1:=d1) (d2:=d2) hf hd h C;cases hr:f6 ws with
 |none=>rw[hr]at run;show zk run
 |some l=>rw[hr]at run;show oh rfl run
theorem sy(hf:2e0)(hd:7e8)(h:Rb z ws)(hr:f6 ws=af)(C:Cs):dJ d1 f1 f2 f3 f4 f5 d2 t0 t1 t2 t3 t4 t5 t6 t7 [.v (.str z)] C:=by
 have e1:=Zc9 z ws h.l h.s C;have s1:r1 [#[.str z],af,af,af,af,af,af,af] C=ae (.nx (RS z 4e2 af af af af af af),C):=by
  ext RS;sleep 13;simp![r1,e1]
 have e2:=P0 z 4e2 af af af af af af C;have a2:=Gi z 4e2 af af af af af af C;rw[ve];show#[rfl,.inr #[_,s1,?_]];rw[Yk]at e2 a2;have hn:=h.n;have hw:=h.w
 match ws,e2,a2,hn,hw,hr with
 |[],_,a2,_,_,_=>show .inl #[_,a2,eZ C]
 |[_],_,a2,_,_,_=>show .inl #[_,a2,eZ C]
 |[_,_],_,a2,_,_,_=>show .inl #[_,a2,eZ C]
 |[_,_,_],_,a2,_,_,_=>show .inl #[_,a2,eZ C]
 |a::b::n::c::r,e2,_,hn,hw,hr=>
  rw[aE 3e7]at e2;show .inr #[_,e2,_,PZ z (.str n::(c::r).map .str) af af af af af af C a b,?_];have hnl:=hw n 3e7;have e4:=PY z ((c::r).map .str) #[.str a] #[.str b] af af af af C (.str a) (.str b) n hnl;have a4:=Gh z ((c::r).map .str) #[.str a] #[.str b] af af af af C (.str a) (.str b) (.str n);ext f6 hr;dsimp only at hr;by_cases hu:bJ n=ag
  .rw[aE hu]at e4 hr
   show .inr #[_,e4,?_];have hwr:∀w∈c::r,w.length<=60:=λy hy=>hw y (by simp at hy⊢;rcases hy with h|h<;>simp[h]);have hnr:(c::r).length<=1000:=by simp at hn⊢;lia
   have e5:=PX z #[.str a] #[.str b] #[.int (aT n)] af af af C (.str a) (.str b) (.str n) (c::r) hwr;have a5:=Gg z ((c::r).map .str) #[.str a] #[.str b] #[.int (aT n)] af af af C (.str a) (.str b) (.str n);ext kZ hr;cases hp:cT (c::r)with
   |none=>show .inl #[_,a5,yk hwr hp C]
   |some x=>
    let#[p,q]:=x;let#[q1,q2]:=GJ hp;rw[hp]at e5 hr;dsimp only at hr;show .inr #[_,e5,?_];have hwq:∀w∈q,w.length<=60:=λy hy=>hwr y (q1 y hy);have e6:=PU z #[.str a] #[.str b] #[.int (aT n)] #[.int p] af af C q 3e5 hwq;cases hg:dk q with
    |none=>show .inl #[_,rfl,ym 3e5 hwq hg C]
    |some y=>
     let#[gs,q3]:=y;let#[g1,g2,g3]:=HS hg;rw[hg]at e6 hr;dsimp only at hr;show .inr #[_,e6,?_];dsimp only;rw[g1];show Sw hf hd z a b (aT n) p (gs.map Pq.N) (by rw[Yk];lia) q3 (λy hy=>hwq y (g3 y hy)) hr C
  .show .inl #[_,a4,Zbh hnl (by simpa using hu) C]
end
theorem GK:mY (.int 10) (.int 60)=ae (.int (10^60)):=by rfl
def fF(ps:2e2):PV:=match ps with
 |[a,b,n]=>if bc a=ag/\bc b=ag/\bJ n=ag/\1<=aT n then .tup [.str a,.str b,.int (aT n)]else .aS
 |_=>.aS
theorem named_eq(ps:2e2)(hl:∀p∈ps,p.length<=60)(C:Cs):i3 [.v (.lst (ps.map .str))] C=ae (.v (fF ps),C):=by
 have hp:=GK;by_cases h3:ps.length=3
 .let#[a,b,n,rfl]:=Zb4 h3
  have e1:=Zcy a (by have:=hl a 3e7;lia) C;have e2:=Zcy b (by have:=hl b 3e7;lia) C;have hn:=hl n 3e7;have e3:=ZbZ n hn 1 (10^60) C;have hw:cI n 1 (10^60)=if bJ n=ag/\1<=aT n then .int (aT n)else .aS:=by
   ext cI;by_cases hf:bJ n=ag
   .have:=G7 (tH hf).1 hn
    by_cases h1:1<=aT n
    .rw[aE #[hf,h1,by lia],aE #[hf,h1]]
    .rw[aI (λq=>h1 q.2.1),aI (λq=>h1 q.2)]
   .rw[aI (λq=>hf q.1),aI (λq=>hf q.1)]
  rw[hw]at e3
  erw[fF,Yi,Wt]
  generalize((10:Int)^60)=M at *;by_cases ha:bc a=ag
  .rw[ha]at e1
   by_cases hb:bc b=ag
   .rw[hb]at e2
    by_cases hc:bJ n=ag/\1<=aT n
    .rw[aE hc]at e3
     rw[aE #[ha,hb,hc]];let nv:=aT n;simp![i3,dN,fW,eo,dW,e1,e2,e3,hp,gv]
    .rw[aI hc]at e3
     rw[aI (λq=>hc q.2.2)];simp![i3,dN,fW,eo,dW,e1,e2,e3,hp,gv]
   .have uy:bc b=ah:=by simpa using hb
    rw[uy]at e2;rw[aI (λq=>hb q.2.1)];simp![i3,dN,fW,eo,dW,e1,e2]
  .have ha':bc a=ah:=by simpa using ha
   rw[ha']at e1;rw[aI (λq=>ha q.1)];simp![i3,dN,fW,eo,dW,e1]
 .have hv:fF ps=.aS:=by
   ext fF;split
   .simp at h3
   .rfl
  rw[hv];have hm:(ps.map PV.str).length=ps.length:=by simp
  let D:=ps.map PV.str;have h4:(D.length:Int)≠3:=by lia
  have h5:D.length≠3:=by lia
  simp![i3,h4,h5]
theorem de2(a b c d:Str):cn aZ (.lst [.str a,.str b]) (.lst [.str c,.str d])=ae (.bl (decide (a=c)&&decide (b=d))):=by
 by_cases h:a=c<;>by_cases h':b=d<;>simp[cn,dat,c9,dep,cS,aZ,eQ,h,h']
theorem ltI(a b:Int):jC (.int a) (.int b)=ae (.bl (decide (a<b))):=by
 by_cases h:a<b<;>simp[jC,dat,dep,gr,h]
theorem ZdI:∀ws:List Str,c9 4e2=ag
 |[]=>rfl
 |w::r=>by simp[c9,dat,ZdI r]
theorem qM:∀ws:List Str,cS 4e2<=1
 |[]=>by simp[cS]
 |w::r=>by have:=qM r;simp[cS,dep];lia
noncomputable def bare (ws:2e2):Bool:=match ws with
 |[k]=>decide (k="join")||decide (k="note")
 |_=>ah
theorem Nt(ws:2e2):j7 ah (.lst 4e2) (.tup [.lst [.str "join"],.lst [.str "note"]])=ae (.bl (bare ws)):=by
 have h:=ZdI ws;ext j7
 match ws with
 |[]=>simp[c9,dat,cS,dep,aZ,eQ,bare]
 |[k]=>
  have e:∀a:Str,(a==k)=decide (k=a):=λa=>by by_cases q:k=a<;>simp[q];show λz=>q z.symm
  simp[c9,dat,cS,dep,aZ,eQ,bare,e]
 |k::c::r=>simp[c9,dat,cS,dep,aZ,eQ,bare]at h⊢;show h
theorem HH(k:Str):j7 ah (.str k) (.tup [.str "free",.str "ready",.str "quit"])=ae (.bl (decide (k="free")||(decide (k="ready")||decide (k="quit")))):=by
 have e:∀a:Str,(a==k)=decide (k=a):=λa=>by by_cases q:k=a<;>simp[q];show λz=>q z.symm
 simp[j7,c9,dat,cS,dep,aZ,e]
def o1:aM->M PF:=bx (aH (aD (g2 (j7 ah)) 1e4 (cj (ak (bh (bQ (ak (mC (.str "join")) ao))) (ak (bh (bQ (ak (mC (.str "note")) ao))) ao))))) (bj (cj (ak 6e0 ao))) bo
def Zr:aM->M Bool:=d8 (aH (aD 2e5 5e2 4e5)) (d8 (aH (aD 2e5 6e0 (mC (.str "say")))) (eM (bw jT 10e0)))
def o2:aM->M PF:=bx Zr (bj (cj (ak (mC (.str "say")) 10e0))) bo
def oc3:aM->M Bool:=dY (aH (aD (g2 jC) 5e2 4e5)) (aH (aD (g2 gv) (bw gb (ak (aD 3e3 1e4 1e8) (ak 2e6 (ak (mC (.int 11)) ao)))) 11e2))
def o3:aM->M PF:=bx oc3 (bj 11e2) bo
def o4:aM->M PF:=bg 1 (cB (g1 iU) 10e0)
def oc5:aM->M Bool:=d8 (aH (aD 2e5 5e2 4e5)) (aH (aD (g2 (j7 ah)) 6e0 (cj (ak (mC (.str "free")) (ak (mC (.str "ready")) (ak (mC (.str "quit")) ao))))))
def o5:aM->M PF:=bx oc5 (bj (cj (ak 6e0 5e6))) bo
def oc6:aM->M Bool:=d8 (aH (aD 2e5 5e2 7e4)) (d8 (aH (aD 2e5 6e0 (mC (.str "do")))) (aH (aD (g2 kr) (bw gb (ak (aD 3e3 1e4 4e5) (ak 2e6 (ak (mC (.int 8)) ao)))) 11e2)))
def o6:aM->M PF:=bx oc6 (bj (cj (ak (mC (.str "do")) (ak 3e9 (ak (cB (g1 iU) (ak (aD 3e3 1e4 4e5) ao)) ao))))) bo
def oc7:aM->M Bool:=d8 (aH (aD 2e5 5e2 (mC (.int 4)))) (d8 (aH (aD 2e5 (bh (sV 1e4 4e5)) (bh (bQ (ak (mC (.str "hand")) (ak 11e0 ao)))))) (d8 (eM (bw jT (ak (aD 3e3 1e4 7e4) ao))) (aH (aD 1e9 (aD 3e3 1e4 7e4) (mC (.str "bell"))))))
def o7:aM->M PF:=bx oc7 (bj (cj (ak (mC (.str "hand")) (ak 3e9 (ak (aD 3e3 1e4 7e4) ao))))) bo
theorem Oa:Ln=aC o1 (aC o2 (aC o3 (aC o4 (aC o5 (aC o6 (aC o7 (bj 11e2))))))):=rfl
def kU(z:Str)(hi:Int):Bool:=decide (bJ z=ag/\0<=aT z/\aT z<=hi)
theorem zR(z:Str)(hi:Int):cI z 0 hi=if kU z hi=ag then .int (aT z)else .aS:=by
 unfold cI kU;by_cases h:bJ z=ag/\0<=aT z/\aT z<=hi
 .rw[aE h,aE (eF h)]
 .rw[aI h,aI (by simpa using h)]
noncomputable def oS (L:List PV)(x:11e4):aM:=[#[.lst L],x]
theorem VcE{c:7e3}{a:8e9}{b:Bool}{r:SV}(h:c ρ C=ae (b,C))(h2:a ρ C=ae (.rt r,C)):bx c a bo ρ C=if b=ag then ae (.rt r,C)else ae (.nx ρ,C):=by
 cases b
 .show EI h
 .rw[pI h,h2];rfl
section
variable{k c:Str}{R:List PV}{x:11e4}(C:Cs)
theorem Zq(hc:c.length<=60):Zr (oS (.str k::.str c::R) x) C=ae (decide (R.length=0)&&(decide (k="say")&&bc c),C):=by
 have e:=Zcy c 3e5 C;have hl:decide ((R.length:Int)+1+1=2)=decide (R.length=0):=by rw[decide_eq_decide];lia
 have Bm:(1:Int)<(R.length:Int)+1+1:=by lia
 have hl0:(0:Int)<(R.length:Int)+1+1:=by lia
 ext oS;let b:=bc c;by_cases h:R.length=0
 .rw[eF h]at hl⊢
  by_cases hk:k="say"<;>simp![Zr,EG,deS,hl,dN,fW,eo,dW,e,hk,hl0,Bm]
 .rw[dm h]at hl⊢
  simp![Zr,EG,hl]
theorem Zp(hc:c.length<=60):oc3 (oS (.str k::.str c::R) x) C=ae (!kU c 11,C):=by
 have e:=ZbZ c hc 0 11 C;rw[zR]at e;have Bm:(1:Int)<(R.length:Int)+1+1:=by lia
 have hl:decide ((R.length:Int)+1+1<2)=ah:=dm 3e5;ext oS;let b:=kU c 11;cases b<;>simp at e<;>simp![oc3,ltI,hl,dN,fW,eo,dW,e,Bm,gv]
theorem Vco(hc:c.length<=60)(hf:bJ c=ag):o4 (oS (.str k::.str c::R) x) C=ae (.nx (oS (.str k::.str c::R) #[.int (aT c)]),C):=by
 have e:=iG hf hc;have Bm:(1:Int)<(R.length:Int)+1+1:=by lia
 ext oS;simp![o4,dN,fW,eo,dW,e,Bm]
theorem Zo:oc5 (oS (.str k::.str c::R) x) C=ae (decide (R.length=0)&&(decide (k="free")||(decide (k="ready")||decide (k="quit"))),C):=by
 have e:=HH k;have hl:decide ((R.length:Int)+1+1=2)=decide (R.length=0):=by rw[decide_eq_decide];lia
 have hl0:(0:Int)<(R.length:Int)+1+1:=by lia
 ext oS;generalize(decide (k="free")||(decide (k="ready")||decide (k="quit")))=b at *;by_cases h:R.length=0
 .rw[eF h]at hl⊢
  simp![oc5,EG,hl,dN,fW,eo,dW,e,hl0]
 .rw[dm h]at hl⊢
  simp![oc5,EG,hl]
def c6(k:Str):List Str->Bool
 |[p]=>decide (k="do")&&kU p 8
 |_=>ah
def v6(n:Int):List Str->PV
 |[p]=>.tup [.str "do",.int n,.int (aT p)]
 |_=>.aS
def c7(k:Str):List Str->Bool
 |[t,w]=>(decide (k="hand")&&decide (t="to"))&&(bc w&&decide (w≠"bell"))
 |_=>ah
noncomputable def v7 (n:Int):List Str->PV
 |[_,w]=>.tup [.str "hand",.int n,.str w]
 |_=>.aS
theorem G5(h:R.length≠1):oc6 (oS (.str k::.str c::R) x) C=ae (ah,C):=by
 have hl:decide ((R.length:Int)+1+1=3)=ah:=dm 3e5;ext oS;simp![oc6,EG,hl]
theorem Zn(r:2e2)(hr:∀w∈r,w.length<=60):oc6 (oS (.str k::.str c::r.map .str) x) C=ae (c6 k r,C):=by
 match r,hr with
 |[],_=>show G5 C 3e7
 |[p],hr=>
  have e:=ZbZ p (hr p 3e7) 0 8 C;rw[zR]at e;change _=ae (decide (k="do")&&kU p 8,C);ext oS;generalize kU p 8=b at *;by_cases hk:k="do"<;>cases b<;>simp at e<;>simp![oc6,EG,deS,dN,fW,eo,dW,e,hk,kr]
 |_::_::_,_=>show G5 C 3e7
theorem yE(h:R.length≠2):oc7 (oS (.str k::.str c::R) x) C=ae (ah,C):=by
 have hl:decide ((R.length:Int)+1+1=4)=ah:=dm 3e5;ext oS;simp![oc7,EG,hl]
theorem Zm(r:2e2)(hr:∀w∈r,w.length<=60):oc7 (oS (.str k::.str c::r.map .str) x) C=ae (c7 k r,C):=by
 match r,hr with
 |[],_=>show yE C 3e7
 |[_],_=>show yE C 3e7
 |[t,w],hr=>
  have e:=Zcy w (by have:=hr w 3e7;lia) C;have e2:=de2 k t "hand" "to";have e3:=QM w "bell";change _=ae ((decide (k="hand")&&decide (t="to"))&&(bc w&&decide (w≠"bell")),C);ext oS;generalize bc w=b at *;generalize decide (w≠"bell")=b2 at *;generalize(decide (k="hand")&&decide (t="to"))=b3 at *;cases b3<;>cases b<;>simp![oc7,EG,sV,Aa,e2,e3,dN,fW,eo,dW,e]
 |_::_::_::_,_=>show yE C 3e7
end
def JJ(ws:2e2):PV:=match ws with
 |[]=>.aS
 |[k]=>if bare [k]=ag then .tup [.str k]else .aS
 |k::c::r=>if(decide (r.length=0)&&(decide (k="say")&&bc c))=ag then .tup [.str "say",.str c]else if(!kU c 11)=ag then .aS else
  if(decide (r.length=0)&&(decide (k="free")||(decide (k="ready")||decide (k="quit"))))=ag then .tup [.str k,.int (aT c)]else if c6 k r=ag then v6 (aT c) r else if c7 k r=ag then v7 (aT c) r else .aS
theorem JH{L:List PV}{r:PV}(h:Ln (oS L af) C=ae (.rt (.v r),C)):oQ [.v (.lst L)] C=ae (.v r,C):=oh rfl h
theorem JI(ws:2e2)(hw:8e1)(C:Cs):oQ [.v (.lst 4e2)] C=ae (.v (JJ ws),C):=by
 show JH ?_;rw[Oa];have e1:=Nt ws
 match ws,hw,e1 with
 |[],_,e1=>
  have e1':j7 ah (.lst []) (.tup [.lst [.str "join"],.lst [.str "note"]])=ae 9e3:=e1;have s1:o1 (oS [] af) C=ae (.nx (oS [] af),C):=by simp![o1,oS,e1']
  have s2:o2 (oS [] af) C=ae (.nx (oS [] af),C):=by simp![o2,Zr,oS,EG]
  have s3:o3 (oS [] af) C=ae (.rt (.v .aS),C):=by simp![o3,oc3,oS,ltI]
  show(dw s1).trans ((dw s2).trans (KL s3))
 |[k],_,e1=>
  rw[Yi,Wt]at e1⊢;show mR (b:=bare [k]) ?_ (λ_=>rfl) λ_=>?_
  .let b:=bare [k]
   simp![oS,e1]
  .have s2:o2 (oS [.str k] af) C=ae (.nx (oS [.str k] af),C):=by simp![o2,Zr,oS,EG]
   have s3:o3 (oS [.str k] af) C=ae (.rt (.v .aS),C):=by simp![o3,oc3,oS,ltI]
   show(dw s2).trans (KL s3)
 |k::c::r,hw,e1=>
  have hc:=hw c 3e7;have hrw:∀w∈r,w.length<=60:=λw h=>hw w (by simp[h])
  erw[Yi]at e1⊢
  have s1:o1 (oS (.str k::.str c::r.map .str) af) C=ae (.nx (oS (.str k::.str c::r.map .str) af),C):=by
   show EI ?_;sleep 10;rw[show bare (k::c::r)=ah from rfl]at e1;simp![oS,e1]
  have i0:dN (.lst (.str k::.str c::r.map .str)) (.int 0)=ae (.str k):=by
   generalize r.map PV.str=G;have Bm:(0:Int)<(G.length:Int)+1+1:=by lia
   simp[dN,fW,eo,dW,Bm]
  have i1:dN (.lst (.str k::.str c::r.map .str)) (.int 1)=ae (.str c):=by
   generalize r.map PV.str=G;have Bm:(1:Int)<(G.length:Int)+1+1:=by lia
   simp[dN,fW,eo,dW,Bm]
  show(dw s1).trans ?_;have e2:=Zq (k:=k) (R:=r.map .str) (x:=none) C hc;have e5:=λN=>Zo (k:=k) (c:=c) (R:=r.map .str) (x:=#[.int N]) C;rw[Yk]at e2
  erw[Yk]at e5
  show mR e2 (λ_=>?_) λ_=>?_
  .ext oS
   sleep 10;simp![i1]
  show mR (Zp C hc) (λ_=>rfl) λh3=>?_;have hf:bJ c=ag:=(kT (show kU c 11=ag by simpa using h3)).1;show(dw (Vco C hc hf)).trans ?_;show mR (e5 _) (λ_=>?_) λ_=>?_
  .ext oS
   let N:=aT c;sleep 10;simp![i0]
  show mR (Zn C r hrw) (λh6=>?_) λ_=>mR (Zm C r hrw) (λh7=>?_) λ_=>rfl
  .match r,hrw,h6 with
   |[p],hrw,h6=>
    have ei:=iG (kT (Wg.mp h6).2).1 (hrw p 3e7);change _=ae (PF.rt (.v (.tup [.str "do",.int (aT c),.int (aT p)])),C);generalize aT p=M at *;generalize aT c=N at *;simp![oS,dN,fW,eo,dW,ei]
  .match r,h7 with
   |[t,w],h7=>rfl
def fR(ws:2e2):PV:=match ws with
 |[]=>.aS
 |k::r=>match dE k r with
  |none=>.aS
  |some ps=>if lW ps=ag then fw ps else .aS
theorem Oe{k:Str}{r:2e2}{ps:List Pt}(h:DS k r ps):dE k r=ae ps:=by
 cases h with
 |join=>
  have:yZ "join"=ae []:=by decide +kernel
  simp[dE,this,dD]
 |note=>
  have:yZ "note"=ae []:=by decide +kernel
  simp[dE,this,dD]
 |say w=>
  have:yZ "say"=ae (13e1:List Str):=by decide +kernel
  simp[dE,this,dD,wt,wn]
 |zj c p h1 h2=>
  have:yZ "do"=ae (["number","number"]:List Str):=by decide +kernel
  simp[dE,this,dD,nt,h1,h2]
 |free c h1=>
  have:yZ "free"=ae (["number"]:List Str):=by decide +kernel
  simp[dE,this,dD,nt,h1]
 |ready c h1=>
  have:yZ "ready"=ae (["number"]:List Str):=by decide +kernel
  simp[dE,this,dD,nt,h1]
 |quit c h1=>
  have:yZ "quit"=ae (["number"]:List Str):=by decide +kernel
  simp[dE,this,dD,nt,h1]
 |hand c w h1=>
  have:yZ "hand"=ae (["number","to","word"]:List Str):=by decide +kernel
  simp[dE,this,dD,nt,wt,wn,h1]
theorem Oc{k:Str}{r:2e2}(h:JJ (k::r)≠.aS):∃ps,DS k r ps:=by
 match r with
 |[]=>
  have hb:bare [k]=ag:=by
   by_cases q:bare [k]=ag
   .show q
   .show absurd (show JJ [k]=.aS from aI q) h
  erw[bare,Wp,g6]at hb
  rcases hb with rfl|rfl
  .show#[_,.join]
  .show#[_,.note]
 |c::r=>
  ext JJ h;dsimp only at h;split at h
  .rename_i q
   erw[Yl,g6]at q
   let#[q1,rfl,_]:=q;cases YN q1;show#[_,.say c]
  .split at h
   .show absurd rfl h
   .rename_i hw
    have hf:bJ c=ag:=(kT (show kU c 11=ag by simpa using hw)).1;split at h
    .rename_i q
     erw[Yl,Wp,g6]at q
     let#[q1,q2]:=q;cases YN q1;rcases q2 with rfl|rfl|rfl
     .show#[_,.free c hf]
     .show#[_,.ready c hf]
     .show#[_,.quit c hf]
    .split at h
     .rename_i q
      match r,q with
      |[p],q=>
       let#[q1,q2]:=Wg.mp q;cases kT q1;show#[_,.zj c _ hf (kT q2).1]
     .split at h
      .rename_i q
       match r,q with
       |[t,w],q=>
        erw[c7,Yl,g6]at q
        obtain⟨⟨rfl,rfl⟩,_⟩:=q;show#[_,.hand c _ hf]
      .show absurd rfl h
theorem qS{c:Str}(hf:bJ c=ag)(n:Int):oq (aT c) (n+1)=kU c n:=by
 have h0:0<=aT c:=by ext aT;lia
 change(decide (0<=aT c)&&decide (aT c<n+1))=decide (bJ c=ag/\0<=aT c/\aT c<=n);rw[←Bool.decide_and,decide_eq_decide];show#[λq=>#[hf,h0,by lia],λq=>#[h0,by lia]]
theorem sn:decide (("say":Str)="free")=ah/\decide (("say":Str)="ready")=ah/\decide (("say":Str)="quit")=ah/\decide (("free":Str)="say")=ah/\decide (("ready":Str)="say")=ah/\decide (("quit":Str)="say")=ah/\bare ["join"]=ag/\bare ["note"]=ag:=by decide +kernel
theorem Vde(b:Bool)(x y:PV):(if b=ag then x else y)=cond b x y:=by cases b<;>rfl
theorem Vc7{k:Str}{r:2e2}{ps:List Pt}(h:DS k r ps):JJ (k::r)=if lW ps=ag then fw ps else .aS:=by
 let#[a1,a2,a3,a4,a5,a6,a7,a8]:=sn;cases h with
 |join=>show aE (e:=PV.aS) a7
 |note=>show aE (e:=PV.aS) a8
 |say w=>
  change(if _ then _ else _)=if bc w=ag then PV.tup [.str "say",.str w]else .aS
  erw[Vde,a1,a2,a3]
  cases bc w<;>cases kU w 11<;>simp[c6,c7]
 |zj c p h1 h2=>
  have e1:qT (aT c)=kU c 11:=qS h1 11;have e2:oq (aT p) 9=kU p 8:=qS h2 8;rw[show JJ ["do",c,p]=(if(!kU c 11)=ag then .aS else if kU p 8=ag then PV.tup [.str "do",.int (aT c),.int (aT p)]else .aS) by simp[JJ,c6,c7,v6]];change _=if(qT (aT c)&&oq (aT p) 9)=ag then PV.tup [.str "do",.int (aT c),.int (aT p)]else .aS
  rw[e1,e2];cases kU c 11<;>cases kU p 8<;>simp
 |free c h1=>
  have e1:qT (aT c)=kU c 11:=qS h1 11;change(if _ then _ else _)=if qT (aT c)=ag then PV.tup [.str "free",.int (aT c)]else .aS
  rw[e1];cases kU c 11<;>simp
 |ready c h1=>
  have e1:qT (aT c)=kU c 11:=qS h1 11;change(if _ then _ else _)=if qT (aT c)=ag then PV.tup [.str "ready",.int (aT c)]else .aS
  rw[e1];cases kU c 11<;>simp
 |quit c h1=>
  have e1:qT (aT c)=kU c 11:=qS h1 11;change(if _ then _ else _)=if qT (aT c)=ag then PV.tup [.str "quit",.int (aT c)]else .aS
  rw[e1];cases kU c 11<;>simp
 |hand c w h1=>
  have e1:qT (aT c)=kU c 11:=qS h1 11;rw[show JJ ["hand",c,"to",w]=(if(!kU c 11)=ag then .aS else if(bc w&&decide (w≠"bell"))=ag then PV.tup [.str "hand",.int (aT c),.str w]else .aS) by simp[JJ,c6,c7,v7]];change _=if(qT (aT c)&&(bc w&&decide (w≠"bell")))=ag then PV.tup [.str "hand",.int (aT c),.str w]else .aS
  rw[e1];generalize decide (w≠"bell")=b;cases kU c 11<;>cases bc w<;>cases b<;>simp
theorem Od(ws:2e2):JJ ws=fR ws:=by
 cases ws with
 |nil=>rfl
 |cons k r=>
  ext fR;dsimp only;cases h:dE k r with
  |some ps=>show Vc7 (Zca h)
  |none=>
   by_cases q:JJ (k::r)=.aS
   .show q
   .let#[ps,hd]:=Oc q
    rw[Oe hd]at h;cases h
theorem Ob(ws:2e2)(hw:8e1)(C:Cs):oQ [.v (.lst 4e2)] C=ae (.v (fR ws),C):=by
 rw[←Od];show JI ws hw C
theorem VaM(xs:List PV)(b:Nat):cG xs af (ae (b:Int))=xs.take b:=by
 ext cG;rw[HT.mn,HT.uZ,List.drop_zero,Nat.sub_zero];by_cases h:b<=xs.length
 .rw[WP h]
 .rw[Nat.min_eq_right 3e5,Xh (Yo _),Xh 3e5]
theorem cutD(xs:List PV)(a:Nat):cG xs (ae (a:Int)) af=xs.drop a:=by
 ext cG;rw[HT.mn,HT.uZ];rw[Xh (by rw[WA];lia)];by_cases h:a<=xs.length
 .rw[WP h]
 .rw[Nat.min_eq_right 3e5,List.drop_of_length_le (Yo _),List.drop_of_length_le 3e5]
theorem Vfc(xs ys zs:List PV){a b:Int}(ha:a=(xs.length:Nat))(hb:b=((xs.length+ys.length:Nat):Int)):cG (xs++(ys++zs)) (ae a) (ae b)=ys:=by
 subst ha hb;ext cG;rw[HT.mn,HT.mn]
 erw[YT]
 rw[WP 3e5,WP 3e5,List.drop_left,Nat.add_sub_cancel_left,List.take_left]
theorem ixn{L:List PV}(h:L[i]? = ae p):dN (.lst L) (.int (i:Int))=ae p:=by
 have hl:=(YJ.mp h).1;have h1:(i:Int)<L.length:=by lia
 change eo L (i:Int)=ae p;unfold eo dW;rw[aE 3e5,aE h1];show h
theorem ixw(pre:2e2)(w:Str)(r:2e2){i:Int}(hi:i=(pre.length:Nat)):dN (.lst ((pre++w::r).map .str)) (.int i)=ae (.str w):=by
 subst hi;show ixn 3e7
theorem Hr(m:Str):cn aZ (.str (Txt.slice m (ae (-1)) af)) (.str ":")=ae (.bl (fH m)):=by
 rw[deS]
 congr 2
 have hc:(":":Str)=17e1:=by decide +kernel
 rw[hc];by_cases h0:m.length=0
 .have e:m="":=ZcD (by
   have:=B0 m;rw[h0]at this;have:=YN this.symm;rw[this];rfl)
  subst e;decide +kernel
 .have e:=slice_closes_from_neg (x:=m) (i:=-1) (a:=((m.length-1:Nat):Int)) (b:=(m.length:Nat)) 2e7 3e5 3e5 rfl
  have e2:=eq_of_beq e;rw[e2];have hl:m.cps.toList.length=m.length:=by rw[←B0]
  have hd2:(m.cps.toList.drop (m.length-1)).length=1:=by rw[WA,hl];lia
  have e3:((m.cps.toList.drop (((m.length-1:Nat):Int)).toNat).take (((m.length:Nat):Int)-((m.length-1:Nat):Int)).toNat)=m.cps.toList.drop (m.length-1):=by
   rw[show(((m.length-1:Nat):Int)).toNat=m.length-1 by lia];show Xh 3e5
  rw[e3];unfold fH Txt.endswith
  have h1:(17e1:Str).length=1:=rfl;rw[h1,eF (show 1<=m.length by lia),Bool.true_and]
  match hq:m.cps.toList.drop (m.length-1),hd2 with
  |[c],_=>
   have hg:m.cps.toList[m.length-1]? = ae c:=by
    have:=congrArg (·[0]?) hq;simpa[List.getElem?_drop]using this
   have hs:=PySem.StrLaws.subAt_one m 58 (m.length-1);by_cases hc:c=58
   .subst hc
    rw[(hs.mpr hg).2];rfl
   .have:¬PySem.Builtin.Str.subAt m 17e1 (m.length-1)=ag:=λq=>by
     have:=hs.mp #[by lia,q];rw[hg]at this;show hc (by simpa using this)
    rw[show PySem.Builtin.Str.subAt m 17e1 (m.length-1)=ah by simpa using this];rw[dm];intro q;apply hc;have:=congrArg (λs:Str=>s.cps.toList) q;simpa using this
def jM:Nat->List Str->List Nat
 |_,[]=>[]
 |_,[_]=>[]
 |i,w::m::q=>if w="at"/\fH m=ag then i::jM (i+1) (m::q)else jM (i+1) (m::q)
def eT:aM->M Bool:=d8 (aH (aD 2e5 (aQ (aD 3e3 3e9 1e4) (bz (jh 1e8)) eB) (mC (.str ":")))) (aH (aD 2e5 (aD 3e3 3e9 (aD (g2 gD) 1e4 1e8)) 10e9))
theorem VcZ(pre:2e2)(w m:Str)(q:2e2)(C:Cs):eT [#[(.int ((pre.length+1:Nat):Int))],#[.lst ((pre++w::m::q).map .str)]] C=ae (decide (w="at"/\fH m=ag),C):=by
 have e1:dN (.lst ((pre++w::m::q).map .str)) (.int ((pre.length+1:Nat):Int))=ae (.str m):=by
  have:=ixw (pre++[w]) m q (i:=((pre.length+1:Nat):Int)) 3e7;rw[Yx]at this;show this
 have e2:dN (.lst ((pre++w::m::q).map .str)) (.int (((pre.length+1:Nat):Int)-1))=ae (.str w):=ixw pre w (m::q) 3e5;have e3:=Hr m;have e4:=deS w "at";generalize(pre++w::m::q).map PV.str=L at *;generalize((pre.length+1:Nat):Int)=i at *;cases hb:fH m
 .rw[hb]at e3
  simp![eT,aQ,cW,jh,yF,e1,e3]
 .rw[hb]at e3
  simp![eT,aQ,cW,jh,yF,gD,e1,e2,e3,e4]
theorem yo(i n:Nat):(YL (n+1)).map (λ(k:Nat)=>PV.int ((i:Int)+k))=.int (i:Int)::(YL n).map (λ(k:Nat)=>PV.int (((i+1:Nat):Int)+k)):=by
 rw[List.range_succ_eq_map,Yi,XX]
 congr 1
 .simp
  intro k _;lia
theorem qK(ws:2e2)(C:Cs):∀(r pre:2e2)(w:Str)(x:11e4)(ys:List PV),ws=pre++w::r->bN 8e6 eT 1e4 ((YL r.length).map λ(k:Nat)=>PV.int (((pre.length+1:Nat):Int)+k)) [x,#[.lst 4e2]] ys C=ae (ys++(jM (pre.length+1) (w::r)).map (λ(n:Nat)=>.int (n:Int)),C)
 |[],pre,w,x,ys,h=>by simp[bN,Pu.ret,jM]
 |m::q,pre,w,x,ys,h=>by
  have e:=VcZ pre w m q C;rw[←h]at e;have ih:=λx ys=>qK ws C q (pre++[w]) m x ys (by rw[h,Yx];rfl);rw[show(pre++[w]).length=pre.length+1 by simp]at ih;rw[YB,yo];have e0:hName 0 (.int ((pre.length+1:Nat):Int)) [x,#[.lst 4e2]]=ae [#[(.int ((pre.length+1:Nat):Int))],#[.lst 4e2]]:=rfl;ext bN;rw[e0];dsimp only;ext bP;rw[e];dsimp only;ext jM;by_cases hc:w="at"/\fH m=ag
  .rw[aE (eF hc),aE hc]
   change bN _ _ _ _ _ _ _=_;rw[ih];simp
  .rw[aI (by simpa using hc),aI hc]
   show ih _ ys
def atC:List Str->Option (List Str×Str×List Str)
 |[]=>af
 |[_]=>af
 |w::m::q=>if w="at"/\fH m=ag then ae ([],m,q)else(atC (m::q)).map λx=>(w::x.1,x.2)
theorem Bz:∀(T:2e2)(i:Nat),match atC T with
  |none=>jM i T=[]
  |some (us,m,q)=>∃l,jM i T=(i+us.length)::l
 |[],i=>rfl
 |[_],i=>rfl
 |w::m::q,i=>by
  have ih:=Bz (m::q) (i+1);unfold atC jM;by_cases hc:w="at"/\fH m=ag
  .rw[aE hc,aE hc];show 7e2
  .rw[aI hc,aI hc]
   cases h:atC (m::q)with
   |none=>rw[h]at ih;show ih
   |some x=>
    let#[us,m',q']:=x;rw[h]at ih;let#[l,hl]:=ih;show#[l,by rw[hl];simp;lia]
structure AtC(T us:List Str)(m:Str)(q:List Str):Prop where
 e:T=us++("at":Str)::m::q
 c:fH m=ag
 f:∀A v B,us++[("at":Str)]=A++("at":Str)::v::B->fH v=ah
theorem oy:∀{T us:2e2}{m:Str}{q:2e2},atC T=ae (us,m,q)->AtC T us m q
 |[],us,m,q,h=>by simp[atC]at h
 |[_],us,m,q,h=>by simp[atC]at h
 |w::v::r,us,m,q,h=>by
  ext atC h;by_cases hc:w="at"/\fH v=ag
  .rw[aE hc]at h
   cases h;show#[by rw[hc.1];rfl,hc.2,λA v B h=>?_];have:=congrArg Ud h;simp at this;lia
  .rw[aI hc]at h
   cases hr:atC (v::r)with
   |none=>rw[hr]at h;cases h
   |some x=>
    let#[ml,m',q']:=x;rw[hr]at h;cases h;have ih:=oy hr;show#[by rw[ih.e];rfl,ih.c,λA z B h=>?_];cases A with
    |nil=>
     have h1:w="at"/\ml++[("at":Str)]=z::B:=by simpa using h
     have hz:z=v:=by
      have:=ih.e;cases ml with
      |nil=>simp at this h1;rw[←h1.2.1,this.1]
      |cons p ml=>simp at this h1;rw[←h1.2.1,this.1]
     by_cases hb:fH z=ag
     .show absurd #[h1.1,hz▸hb] hc
     .simpa using hb
    |cons p A=>
     have h1:ml++[("at":Str)]=A++("at":Str)::z::B:=by
      have:w=p/\ml++[("at":Str)]=A++("at":Str)::z::B:=by simpa using h
      show this.2
     show ih.f A z B h1
theorem xn:∀{T:2e2},atC T=af->∀A v B,T=A++("at":Str)::v::B->fH v=ah
 |[],h,A,v,B,e=>by simp at e
 |[_],h,A,v,B,e=>by
  have:=congrArg Ud e;simp at this;lia
 |w::m::r,h,A,v,B,e=>by
  ext atC h;by_cases hc:w="at"/\fH m=ag
  .rw[aE hc]at h;cases h
  .rw[aI hc]at h
   have hr:atC (m::r)=af:=by cases q:atC (m::r)with|none=>rfl|some x=>rw[q]at h;cases h
   cases A with
   |nil=>
    have:w="at"/\m=v/\r=B:=by simpa using e
    by_cases hb:fH v=ag
    .show absurd #[this.1,this.2.1▸hb] hc
    .simpa using hb
   |cons p A=>
    have:w=p/\m::r=A++("at":Str)::v::B:=by simpa using e
    show xn hr A v B this.2
def eC:aM->M 5e5:=br (kz (ak (mC (.int 4)) (ak 5e2 ao))) ["_law_k"] [0] 8e6 eT 1e4
def dw1:aM->M PF:=bg 1 (bh eC)
def dw2:aM->M PF:=bg 2 (bw i3 (ak (aQ 1e4 eB (bz 7e4)) ao))
def dw3:aM->M PF:=bx (dY (aH (aD 2e5 3e9 (bh (bQ ao)))) (aH (aD (g2 gv) 6e1 11e2))) (bj 11e2) bo
def dw4:aM->M PF:=bg 3 (aD 3e3 3e9 2e6)
def dw5:aM->M PF:=bg 4 (aQ 1e4 (bz 7e4) (bz (aD (g2 gD) 9e2 1e8)))
def dw6:aM->M PF:=bg 5 2e6
def JE:aM->M Bool:=aH (aD 2e5 (aQ 6e9 eB (bz 1e8)) (bh (bQ (ak (mC (.str "after")) ao))))
def Vat:aM->M PF:=bg 5 (bw gb (ak (aD 3e3 (aD 8e5 6e9 (bh (bQ (ak 18e2 ao)))) 1e8) (ak 1e8 (ak (aD (g2 mY) (mC (.int 10)) (mC (.int 60))) ao))))
def Vas:aM->M PF:=bg 4 (aQ 6e9 16e2 eB)
def dw7:aM->M PF:=bx JE (aC Vat Vas) bo
def dw8:aM->M PF:=bg 6 (bh (bQ ao))
def nlE:aM->M SV:=bw i3 (ak (pE "str" hU 1e4 (ak (mC (.str ".")) ao)) ao)
def nlC:aM->M 5e5:=br (bu (aQ 6e9 (bz 1e8) eB)) 13e3 [] 8e6 gq nlE
def JD:aM->M Bool:=aH (aD 1e9 6e9 (bh (bQ ao)))
def NV:aM->M PF:=bg 6 (bh nlC)
def D9:aM->M Bool:=dY (aH (aD 1e9 (aD 3e3 6e9 2e6) (mC (.str "got")))) (dY (aH (aD 2e5 (aV 6) (bh (bQ ao)))) (dY (aH (aD (g2 pL) (cB (g1 fG) 15e3) (mC (.int 30)))) (aH (aD (g2 (j7 ah)) 11e2 (aV 6)))))
def Vc4:aM->M PF:=bx D9 (bj 11e2) bo
def dw9:aM->M PF:=bx JD (aC NV Vc4) bo
def N6:aM->M PF:=bg 7 (bw gb (ak (aQ (aD 3e3 1e4 9e2) eB (bz (jh 1e8))) (ak 2e6 (ak (aD (g2 mY) (mC (.int 10)) (mC (.int 60))) ao))))
def N4:aM->M PF:=bg 8 (bw oQ (ak (aQ 1e4 (bz (aD 8e5 9e2 1e8)) eB) ao))
def owT:aM->M Bool:=aH (aD 2e5 (aQ 1e4 eB 16e2) (aQ 3e9 eB 16e2))
def owC:aM->M 5e5:=br (bu (aV 6)) ["_law_got"] [2] 8e6 owT 1e4
def BC:aM->M Bool:=aH (aD 1e9 (bh owC) (bh (bQ ao)))
def QK:aM->M Bool:=dY (aH (aD (g2 gv) (aV 5) 11e2)) (dY (aH (aD (g2 gv) (aV 7) 11e2)) (dY (aH (aD (g2 gv) (aV 8) 11e2)) BC))
def VaB:aM->M PF:=bx QK (bj 11e2) bo
def rsE:aM->M SV:=aD (g2 jC) (aD 3e3 3e9 1e4) (aD 3e3 3e9 (aD 8e5 1e4 1e8))
def rsC:aM->M 5e5:=br (cN (ak (aD (g2 gD) (cB (g1 fG) 15e3) 1e8) ao)) ["_law_k"] [6] 8e6 gq rsE
def VaA:aM->M PF:=bx (dG (eM (cB (g1 iC) (ak (bh rsC) ao)))) (bj 11e2) bo
def NX:aM->M PF:=bj (aD 8e5 6e1 (cj (ak (aV 5) (ak (cB (g1 g9) 15e3) (ak (aV 7) (ak (aV 8) ao))))))
theorem VaC:Lm=aC dw1 (aC dw2 (aC dw3 (aC dw4 (aC dw5 (aC dw6 (aC dw7 (aC dw8 (aC dw9 (aC N6 (aC N4 (aC VaB (aC VaA NX)))))))))))):=rfl
noncomputable def US (L:List PV)(x1 x2 x3 x4 x5 x6 x7 x8:11e4):aM:=[#[.lst L],x1,x2,x3,x4,x5,x6,x7,x8]
noncomputable def gF (l:List Nat):List PV:=l.map λ(n:Nat)=>.int (n:Int)
def n9:List Str->List Nat
 |_::_::_::T=>jM 4 T
 |_=>[]
noncomputable def iw:PV->Bool
 |.aS=>ag
 |_=>ah
theorem sZ(v:PV):gv v .aS=ae (.bl (iw v)):=by cases v<;>rfl
section
variable(x1 x2 x3 x4 x5 x6 x7 x8:11e4)(C:Cs)
theorem Vc0(ws:2e2)(hn:ws.length<=1000):eC (US 4e2 x1 x2 x3 x4 x5 x6 x7 x8) C=ae (gF (n9 ws),C):=by
 have hr:kz (ak (mC (.int 4)) (ak 5e2 ao)) (US 4e2 x1 x2 x3 x4 x5 x6 x7 x8) C=ae ((YL (ws.length-4)).map λ(k:Nat)=>PV.int (4+(k:Int)),C):=by
  have hl:(ws.map PV.str).length=ws.length:=Yk _;have hg:u9 [.v (.int 4),.v (.int (ws.length:Int))]=ae ((YL (ws.length-4)).map λ(k:Nat)=>PV.int (4+(k:Int))):=by
   ext u9;dsimp only;rw[aE 3e5,show((ws.length:Int)-4).toNat=ws.length-4 by lia]
  rw[←hl]at hg⊢;ext US;sleep 13;simp![kz,hg]
 unfold eC br bP;rw[hr];dsimp only;rw[aE (by rw[Yk,Ub];lia)];rw[show di ["_law_k"] [0] (US 4e2 x1 x2 x3 x4 x5 x6 x7 x8)=[af,#[.lst 4e2]]from rfl];clear hr hn;rcases ws with _|⟨a,_|⟨b,_|⟨n,_|⟨c,r⟩⟩⟩⟩
 .rfl
 .rfl
 .rfl
 .rfl
 .have:=qK (a::b::n::c::r) C r [a,b,n] c af [] rfl
  rw[show(a::b::n::c::r).length-4=r.length by simp];show this
theorem Vaz(ws:2e2)(hn:ws.length<=1000):dw1 (US 4e2 x1 x2 x3 x4 x5 x6 x7 x8) C=ae (.nx (US 4e2 #[.lst (gF (n9 ws))] x2 x3 x4 x5 x6 x7 x8),C):=by
 have e:=Vc0 x1 x2 x3 x4 x5 x6 x7 x8 C ws hn;unfold US at e⊢;sleep 13;let E:=gF (n9 ws);ext dw1;let te:=eC;simp![e]
theorem Vay(ws:2e2)(hw:8e1):dw2 (US 4e2 x1 x2 x3 x4 x5 x6 x7 x8) C=ae (.nx (US 4e2 x1 #[fF (ws.take 3)] x3 x4 x5 x6 x7 x8),C):=by
 have e:=named_eq (ws.take 3) (λp hp=>hw p (Wi hp)) C;have hc:cG 4e2 af (ae 3)=(ws.take 3).map PV.str:=by rw[List.map_take];show VaM _ 3
 rw[←hc]at e;ext US;sleep 13;let V:=fF (ws.take 3);simp![dw2,aQ,cW,e]
theorem Vax(L:List PV)(es:List Nat)(v:PV):dw3 (US L #[.lst (gF es)] #[v] x3 x4 x5 x6 x7 x8) C=if es=[]\/iw v=ag then ae (.rt (.v .aS),C)else ae (.nx (US L #[.lst (gF es)] #[v] x3 x4 x5 x6 x7 x8),C):=by
 have hb:=sZ v;ext US;cases es with
 |nil=>
  have e:cn aZ (.lst (gF [])) (.lst [])=ae 10e8:=by simp[gF,cn,dat,c9,dep,cS,aZ,eQ]
  simp![dw3,e]
 |cons n r=>
  have hd:∀l,c9 (gF l)=ag:=λl=>by
   induction l with
   |nil=>rfl
   |cons a l ih=>simp[gF,c9,dat]at ih⊢;show ih
  have hp:∀l,cS (gF l)<=1:=λl=>by
   induction l with
   |nil=>simp[gF,cS]
   |cons a l ih=>simp[gF,cS,dep]at ih⊢;lia
  have e:cn aZ (.lst (gF (n::r))) (.lst [])=ae 9e3:=by
   have h2:=hp (n::r);ext cn;rw[aE (by simp[dat,hd,c9,dep];lia)];rfl
  generalize gF (n::r)=E at *;let b:=iw v;cases b<;>simp![dw3,e,hb]
theorem Vaw(L:List PV)(n:Nat)(r:List Nat):dw4 (US L #[.lst (gF (n::r))] x2 x3 x4 x5 x6 x7 x8) C=ae (.nx (US L #[.lst (gF (n::r))] x2 #[(.int (n:Int))] x4 x5 x6 x7 x8),C):=by
 have e:dN (.lst (gF (n::r))) (.int 0)=ae (.int (n:Int)):=ixn (i:=0) rfl;ext US;generalize gF (n::r)=E at *;simp![dw4,e]
theorem Vav(L M:List PV)(i:Int)(h:cG L (ae 3) (ae (i-1))=M):dw5 (US L x1 x2 #[.int i] x4 x5 x6 x7 x8) C=ae (.nx (US L x1 x2 #[.int i] #[.lst M] x5 x6 x7 x8),C):=by
 ext US;simp![dw5,aQ,cW,gD,h]
def iE(us:2e2):PV×List Str:=match us with
 |[]=>(.int 0,[])
 |g::r=>if g="after" then(match r with
  |[]=>(.aS,[])
  |z::q=>(cI z 1 (10^60),q))else(.int 0,g::r)
theorem de1(a:Str)(r:List PV)(b:Str):cn aZ (.lst (cG (.str a::r) af (ae 1))) (.lst [.str b])=ae (.bl (decide (a=b))):=by
 have:cG (.str a::r) af (ae 1)=[.str a]:=VaM _ 1;rw[this];by_cases h:a=b<;>simp[cn,dat,c9,dep,cS,aZ,eQ,h]
theorem Vau(L:List PV)(us:2e2)(hn:us.length<=1000)(hw:∀w∈us,w.length<=60):dw7 (US L x1 x2 x3 #[.lst (us.map .str)] #[.int 0] x6 x7 x8) C=ae (.nx (US L x1 x2 x3 #[.lst ((iE us).2.map .str)] #[(iE us).1] x6 x7 x8),C):=by
 have hp:=GK;ext US;cases us with
 |nil=>
  have e:cn aZ (.lst (cG [] af (ae 1))) (.lst [.str "after"])=ae 9e3:=by
   rw[show cG [] af (ae 1)=([]:List PV)from rfl];simp[cn,dat,c9,dep,cS,aZ,eQ]
  simp![dw7,JE,aQ,cW,e,iE]
 |cons g r=>
  have e:=de1 g (r.map .str) "after";by_cases hg:g="after"
  .subst hg
   rw[eF rfl]at e;cases r with
   |nil=>
    have e3:=ZbZ "" 2e7 1 (10^60) C;have e4:cI "" 1 (10^60)=.aS:=aI (λq=>absurd q.1 9e0);rw[e4]at e3;rw[show iE ["after"]=(.aS,[]) by simp[iE]]
    erw[Yi,Wt]at e⊢
    generalize((10:Int)^60)=M at *;have ec:cG [.str "after"] (ae 2) af=([]:List PV):=cutD _ 2;simp![dw7,JE,Vat,Vas,aQ,cW,e,fm,dN,fW,eo,dW,hp,e3,ec]
   |cons z q=>
    have e3:=ZbZ z (hw z 3e7) 1 (10^60) C;rw[show iE ("after"::z::q)=(cI z 1 (10^60),q) by simp[iE]]
    erw[Yi]at e⊢
    have hl:(q.map PV.str).length<=1000:=by simp at hn⊢;lia
    generalize((10:Int)^60)=M at *;generalize cI z 1 M=V at *;generalize q.map PV.str=Q at *;have ec:cG (.str "after"::.str z::Q) (ae 2) af=Q:=tN _ _ _;have EB:Q.length+1+1+1<=1000000:=by lia
    have ei:dN (.lst (.str "after"::.str z::(Q++[.str ""]))) (.int 1)=ae (.str z):=ixn (i:=1) rfl;simp![dw7,JE,Vat,Vas,aQ,cW,e,fm,EB,ei,hp,e3,ec]
  .rw[dm hg]at e
   rw[show iE (g::r)=(.int 0,g::r) by simp[iE,hg]]
   erw[Yi]at e⊢
   let Q:=r.map PV.str;simp![dw7,JE,aQ,cW,e]
end
def cJ(ps:2e2):Option Nm:=match ps with
 |[a,b,n]=>if bc a=ag/\bc b=ag/\bJ n=ag/\1<=aT n then ae #[a,b,aT n]else af
 |_=>af
def oP:Option Nm->PV
 |some y=>y.P
 |none=>.aS
theorem AG(ps:2e2):fF ps=oP (cJ ps):=by
 unfold fF cJ
 match ps with
 |[a,b,n]=>
  dsimp only;by_cases h:bc a=ag/\bc b=ag/\bJ n=ag/\1<=aT n
  .rw[aE h,aE h];rfl
  .rw[aI h,aI h];rfl
 |[]=>rfl
 |[_]=>rfl
 |[_,_]=>rfl
 |_::_::_::_::_=>rfl
def gh:List Str->Option (List Nm)
 |[]=>ae []
 |v::r=>match cJ (dv v)with
  |none=>af
  |some y=>(gh r).map (y::·)
def gl(vs:2e2):List PV:=vs.map λv=>oP (cJ (dv v))
theorem AD:∀(vs:2e2)(x:11e4)(ys:List PV)(C:Cs),(∀w∈vs,w.length<=60)->bN 8e6 gq nlE (vs.map .str) [x] ys C=ae (ys++gl vs,C)
 |[],x,ys,C,_=>by simp[bN,Pu.ret,gl]
 |z::r,x,ys,C,h=>by
  have hz:=h z 3e7;have e1:=ZcE z hz;have e2:=named_eq (dv z) (λp hp=>by have:=oa hp;lia) C;have ih:=AD r #[.str z] (ys++[fF (dv z)]) C λw hw=>h w (by simp[hw]);have e:nlE [#[.str z]] C=ae (.v (fF (dv z)),C):=by
   generalize(dv z).map PV.str=D at *;let V:=fF (dv z);simp![nlE,e1,e2]
  erw[Yi,bN,hName,List.set_cons_zero]
  erw[bP,gq,Pu.ret,if_true,e]
  rw[ih,AG];simp[gl]
theorem HW:∀vs:List Str,c9 (gl vs)=ag/\cS (gl vs)<=2
 |[]=>by simp[gl,c9,cS]
 |v::r=>by
  have ih:=HW r;have h:dat (oP (cJ (dv v)))=ag/\dep (oP (cJ (dv v)))<=1:=by
   cases cJ (dv v)with
   |none=>simp[oP,dat,dep]
   |some y=>simp[oP,Nm.P,dat,c9,dep,cS]
  unfold gl at ih⊢
  erw[Yi,c9,cS]
  show#[by rw[h.1,ih.1];rfl,?_];lia
theorem BX:∀vs:List Str,(gl vs).any (λp=>aZ p .aS)=(gh vs).isNone
 |[]=>rfl
 |v::r=>by
  have ih:=BX r;unfold gl at ih⊢;ext gh;rw[Yi,Xz,ih];cases cJ (dv v)with
  |none=>rfl
  |some y=>
   change(ah||_)=_;rw[VI];cases gh r<;>rfl
theorem tB:∀{vs:2e2}{gs:List Nm},gh vs=ae gs->gl vs=gs.map Nm.P/\gs.length=vs.length
 |[],gs,h=>by cases h;show#[rfl,rfl]
 |v::r,gs,h=>by
  ext gh h;cases hv:cJ (dv v)with
  |none=>rw[hv]at h;cases h
  |some y=>
   rw[hv]at h;cases hr:gh r with
   |none=>rw[hr]at h;cases h
   |some q=>
    rw[hr]at h;cases h;let#[a,b]:=tB hr;show#[by unfold gl at a⊢;rw[Yi,a,hv];rfl,by simp[b]]
def NB(M:2e2):Option (List Nm):=match M with
 |[]=>ae []
 |g::vs=>if g="got"/\vs≠[]/\vs.length<=30 then gh vs else af
section
variable(x1 x2 x3 x4 x5 x6 x7 x8:11e4)(C:Cs)
theorem AE{L:List PV}(h1:c9 L=ag)(h2:cS L<=50):cn 18e6 (.lst L) (.lst [])=ae (.bl (!L.isEmpty)):=by
 ext cn;rw[aE (by simp[dat,h1,c9,dep];lia)];cases L<;>rfl
theorem NO{L:List PV}(h1:c9 L=ag)(h2:cS L<=50):cn aZ (.lst L) (.lst [])=ae (.bl L.isEmpty):=by
 ext cn;rw[aE (by simp[dat,h1,c9,dep];lia)];cases L<;>rfl
theorem Vaq(L:List PV)(M:2e2)(hn:M.length<=1000)(hw:∀w∈M,w.length<=60):dw9 (US L x1 x2 x3 #[.lst (M.map .str)] x5 #[.lst []] x7 x8) C=match NB M with
  |none=>ae (.rt (.v .aS),C)
  |some gs=>ae (.nx (US L x1 x2 x3 (ae (.v (.lst (M.map .str)))) x5 (ae (.v (.lst 8e0))) x7 x8),C):=by
 have e0:=AE (ZdI M) (by have:=qM M;lia);cases M with
 |nil=>
  have e0':cn 18e6 (.lst []) (.lst [])=ae 9e3:=e0;unfold US NB;simp![dw9,JD,e0']
 |cons g vs=>
  have hv:∀w∈vs,w.length<=60:=λw h=>hw w (by simp[h]);have k:=AD vs af [] C hv;let#[d1,d2]:=HW vs;have hlg:(gl vs).length=vs.length:=by simp[gl]
  have hl:(vs.map PV.str).length<=100000:=by simp at hn⊢;lia
  have hi:bu (aQ 6e9 (bz 1e8) eB) (US L x1 x2 x3 #[.lst ((g::vs).map .str)] x5 #[.lst []] x7 x8) C=ae (vs.map .str,C):=by
   have hc:cG ((g::vs).map .str) (ae 1) af=vs.map PV.str:=cutD _ 1;ext US;generalize(g::vs).map PV.str=G at *;simp![bu,aQ,cW,hc,bY]
  have sC:nlC (US L x1 x2 x3 #[.lst ((g::vs).map .str)] x5 #[.lst []] x7 x8) C=ae (gl vs,C):=by
   unfold nlC br bP;rw[hi];dsimp only;rw[aE hl];show k
  have a1:NV (US L x1 x2 x3 #[.lst ((g::vs).map .str)] x5 #[.lst []] x7 x8) C=ae (.nx (US L x1 x2 x3 #[.lst ((g::vs).map .str)] x5 #[.lst (gl vs)] x7 x8),C):=by
   ext NV;unfold US at sC⊢;generalize(g::vs).map PV.str=G at *;let te:=nlC;simp![sC]
  have c0:JD (US L x1 x2 x3 #[.lst ((g::vs).map .str)] x5 #[.lst []] x7 x8) C=ae (ag,C):=by
   rw[show((g::vs).map PV.str).isEmpty=ah from rfl]at e0;ext US;generalize(g::vs).map PV.str=G at *;simp![JD,e0]
  have i0:dN (.lst ((g::vs).map .str)) (.int 0)=ae (.str g):=ixn (i:=0) rfl;have q1:=QM g "got";have q2:=NO d1 3e5;have q3:j7 ah .aS (.lst (gl vs))=ae (.bl (gh vs).isNone):=by
   ext j7;dsimp only;rw[aE (by simp[d1,dat];lia),←BX];rfl
  have hge:(gl vs).isEmpty=decide (vs=[]):=by cases vs<;>simp[gl]
  have hgt:decide (((gl vs).length:Int)>30)=!decide (vs.length<=30):=by
   rw[hlg];by_cases q:vs.length<=30
   .rw[eF q,dm 3e5];rfl
   .rw[dm q,eF 3e5];rfl
  have c1:D9 (US L x1 x2 x3 #[.lst ((g::vs).map .str)] x5 #[.lst (gl vs)] x7 x8) C=ae (decide (g≠"got")||(decide (vs=[])||(!decide (vs.length<=30)||(gh vs).isNone)),C):=by
   rw[←hge,←hgt];ext US;generalize(g::vs).map PV.str=G at *;generalize gl vs=GL at *;generalize(gh vs).isNone=b4 at *;generalize decide (g≠"got")=b1 at *;generalize GL.isEmpty=b2 at *;cases b1
   .cases b2
    .by_cases h3:(30:Int)<(GL.length:Int)
     .simp![D9,i0,q1,q2,q3,h3]
     .simp![D9,i0,q1,q2,q3,h3]
    .simp![D9,i0,q1,q2]
   .simp![D9,i0,q1]
  change bx JD (aC NV Vc4) bo _ C=_;rw[pI c0];show(dw a1).trans ?_;ext NB;dsimp only;by_cases hb:g="got"/\vs≠[]/\vs.length<=30
  .rw[aE hb]
   let#[h1,h2,h3]:=hb;rw[dm (λq=>q h1),dm h2,eF h3]at c1;cases hg:gh vs with
   |none=>rw[hg]at c1;show pI c1
   |some gs=>rw[hg]at c1;dsimp only;rw[←(tB hg).1];show EI c1
  .rw[aI hb]
   have:(decide (g≠"got")||(decide (vs=[])||(!decide (vs.length<=30)||(gh vs).isNone)))=ag:=by
    by_cases h1:g="got"
    .by_cases h2:vs=[]
     .simp[h2]
     .have h3:¬vs.length<=30:=λq=>hb #[h1,h2,q]
      erw[dm h3,Bool.not_false,V1,Bool.or_true]
    .simp[h1]
   rw[this]at c1;show pI c1
theorem N5(L:List PV)(i:Int)(m:Str)(h:dN (.lst L) (.int i)=ae (.str m))(hm:(fN m).length<=60):N6 (US L x1 x2 #[.int i] x4 x5 x6 x7 x8) C=ae (.nx (US L x1 x2 #[.int i] x4 x5 x6 #[cI 11e9 0 (10^60)] x8),C):=by
 have e:=ZbZ 11e9 hm 0 (10^60) C;have hp:=GK;have hu:Txt.slice m af (ae (-1))=fN m:=rfl;let u:=fN m;ext US;generalize((10:Int)^60)=M at *;let V:=cI u 0 M;simp![N6,aQ,cW,jh,yF,h,hu,hp,e]
theorem N0(L:List PV)(i:Int)(q:2e2)(h:cG L (ae (i+1)) af=q.map .str)(hq:∀w∈q,w.length<=60):N4 (US L x1 x2 #[.int i] x4 x5 x6 x7 x8) C=ae (.nx (US L x1 x2 #[.int i] x4 x5 x6 x7 #[fR q]),C):=by
 have e:=Ob q hq C;rw[←h]at e;ext US;let V:=fR q;simp![N4,aQ,cW,fm,e]
theorem Vfa(a b c d:Str):cn aZ (.tup [.str a,.str b]) (.tup [.str c,.str d])=ae (.bl (!decide (¬(a=c/\b=d)))):=by
 by_cases h:a=c<;>by_cases h':b=d<;>simp[cn,dat,c9,dep,cS,aZ,eQ,h,h']
theorem Aq(x:Nm):∀(gs:List Nm)(y:11e4)(ys:List PV),bN 8e6 owT 1e4 8e0 [y,#[x.P]] ys C=ae (ys++(gs.filter λt=>!gE x.h x.d t).map Nm.P,C)
 |[],y,ys=>by simp[bN,Pu.ret]
 |g::gs,y,ys=>by
  have ih:=λy ys=>Aq x gs y ys;have e:owT [#[g.P],#[x.P]] C=ae (!gE x.h x.d g,C):=by
   have e:=Vfa g.h g.d x.h x.d;ext gE;generalize decide (¬(g.h=x.h/\g.d=x.d))=b at *;ext Nm.P;simp![owT,aQ,cW,VaN,e]
  have e0:hName 0 g.P [y,#[x.P]]=ae [#[g.P],#[x.P]]:=rfl;rw[Yi];ext bN;rw[e0];dsimp only;ext bP;rw[e];dsimp only;by_cases h:gE x.h x.d g=ag
  .rw[aI (by simp[h]),ih];simp[WC,h]
  .have h':gE x.h x.d g=ah:=by simpa using h
   rw[aE (by simp[h'])];change bN _ _ _ _ _ _ _=_;rw[ih];simp[WC,h']
theorem AA:∀gs:List Nm,c9 8e0=ag/\cS 8e0<=2
 |[]=>by simp[c9,cS]
 |y::r=>by
  have ih:=AA r;have h:dat y.P=ag/\dep y.P<=1:=by simp[Nm.P,dat,c9,dep,cS]
  erw[Yi,c9,cS]
  show#[by rw[h.1,ih.1];rfl,?_];lia
theorem NT(gs:List Nm)(f:Nm->Bool):(!((gs.filter λt=>!f t).map Nm.P).isEmpty)=!gs.all f:=by
 induction gs with
 |nil=>rfl
 |cons g r ih=>
  rw[WC,Xm];cases f g
  .rfl
  .show ih
theorem NZ(L:List PV)(x:Nm)(gs:List Nm)(hg:gs.length<=1000)(p t d:PV):VaB 16e1 C=if(iw p||(iw t||(iw d||!gs.all (gE x.h x.d))))=ag then ae (.rt (.v .aS),C)else ae (.nx 16e1,C):=by
 have k:=Aq C x gs af [];have sC:owC 16e1 C=ae ((gs.filter λt=>!gE x.h x.d t).map Nm.P,C):=by
  unfold owC br bP;rw[show bu (aV 6) 16e1 C=ae (gs.map Nm.P,C)from rfl];dsimp only;rw[aE (by rw[Yk];lia)];show k
 let#[d1,d2]:=AA (gs.filter λt=>!gE x.h x.d t);have e4:=AE d1 3e5;rw[NT]at e4;have c4:BC 16e1 C=ae (!gs.all (gE x.h x.d),C):=by
  ext BC;let te:=owC;generalize(gs.filter λt=>!gE x.h x.d t).map Nm.P=F at *;let ρ:=16e1;let b:=gs.all (gE x.h x.d);simp![sC,e4]
 show VcE ?_ rfl;have a1:=sZ p;have a2:=sZ t;have a3:=sZ d;let b:=gs.all (gE x.h x.d);ext QK;let te:=BC;let G:=gs.map Nm.P;unfold US at *;let bp:=iw p;let bt:=iw t;let bd:=iw d;cases bp
 .cases bt
  .cases bd
   .simp![a1,a2,a3,c4]
   .simp![a1,a2,a3]
  .simp![a1,a2]
 .simp![a1]
noncomputable def d0:Nm:=#["","",0]
def F5(gs:List Nm):Bool:=(gs.zip (gs.drop 1)).all λx=>Bb x.1 x.2
theorem Mk(gs:List Nm):gs.zip (gs.drop 1)=(YL (gs.length-1)).map λk=>(gs.getD k d0,gs.getD (k+1) d0):=by
 apply Vt;intro k;by_cases h:k<gs.length-1
 .have h1:k<gs.length:=by lia
  have h2:k+1<gs.length:=by lia
  have h3:1+k<gs.length:=by lia
  simp[List.getElem?_zip_eq_some,List.zip,List.getElem?_zipWith,h,h1,h2,UB,Nat.add_comm 1 k]
 .rw[Xw 14e9,Xw 14e9]
theorem NY(L:List PV)(gs:List Nm)(hg:gs.length<=1000):VaA (US L x1 x2 x3 x4 x5 #[.lst 8e0] x7 x8) C=if F5 gs=ah then ae (.rt (.v .aS),C)else ae (.nx (US L x1 x2 x3 x4 x5 #[.lst 8e0] x7 x8),C):=by
 have hr:cN (ak (aD (g2 gD) (cB (g1 fG) 15e3) 1e8) ao) (US L x1 x2 x3 x4 x5 #[.lst 8e0] x7 x8) C=ae ((YL (gs.length-1)).map λ(k:Nat)=>PV.int (0+k),C):=by
  have hl:(gs.map Nm.P).length=gs.length:=Yk _;have hg:jd [.v (.int ((gs.length:Int)-1))]=ae ((YL (gs.length-1)).map λ(k:Nat)=>PV.int (0+(k:Int))):=by
   ext jd;dsimp only;rw[aE 3e5,show((gs.length:Int)-1).toNat=gs.length-1 by lia]
  rw[←hl]at hg⊢;ext US;let G:=gs.map Nm.P;simp![cN,gD,hg]
 have k:=ZbY (λk:Nat=>PV.int (0+k)) (λk=>Bb (gs.getD k d0) (gs.getD (k+1) d0)) (g:=hName 0) (te:=rsE) (C:=C) (λρ=>∃y,ρ=[y,#[.lst 8e0]]) (YL (gs.length-1)) (λi hi ρ hρ=>by
  let#[y,rfl]:=hρ;have hi:=WW.mp hi;show#[_,rfl,7e2,?_];have i1:dN (.lst 8e0) (.int (0+(i:Int)))=ae (gs.getD i d0).P:=by
   rw[Int.zero_add];show ixn (by simp[UB,Yd (show i<gs.length by lia)])
  have i2:dN (.lst 8e0) (.int (0+(i:Int)+1))=ae (gs.getD (i+1) d0).P:=by
   rw[Int.zero_add];show ixn (i:=i+1) (by simp[UB,Yd (show i+1<gs.length by lia)])
  have e:=A9 (gs.getD i d0) (gs.getD (i+1) d0);let u:=gs.getD i d0;let v:=gs.getD (i+1) d0;let G:=gs.map Nm.P;generalize(0+(i:Int))=j at *;simp![rsE,fm,i1,i2,e]) [af,#[.lst (gs.map Nm.P)]] [] #[_,rfl]
 have sC:rsC (US L x1 x2 x3 x4 x5 #[.lst 8e0] x7 x8) C=ae ((YL (gs.length-1)).map λk=>PV.bl (Bb (gs.getD k d0) (gs.getD (k+1) d0)),C):=by
  unfold rsC br bP;rw[hr];dsimp only;rw[aE (by rw[Yk,Ub];lia)];show k
 have a:=Zbv (YL (gs.length-1)) (λk=>Bb (gs.getD k d0) (gs.getD (k+1) d0));have hB:F5 gs=(YL (gs.length-1)).all (λk=>Bb (gs.getD k d0) (gs.getD (k+1) d0)):=by
  ext F5;rw[Mk,Uu];rfl
 rw[←hB]at a;have c:(dG (eM (cB (g1 iC) (ak (bh rsC) ao)))) (US L x1 x2 x3 x4 x5 #[.lst 8e0] x7 x8) C=ae (!F5 gs,C):=by
  let te:=rsC;generalize((YL (gs.length-1)).map λk=>PV.bl (Bb (gs.getD k d0) (gs.getD (k+1) d0)))=F at *;generalize(US L x1 x2 x3 x4 x5 #[.lst 8e0] x7 x8)=ρ at *;let b:=F5 gs;simp![sC,a]
 have r:=VcE (a:=bj 11e2) (r:=.v .aS) c rfl;cases h:F5 gs
 .rw[h]at r;show r
 .rw[h]at r;show r
theorem NW(L:List PV)(x:Nm)(G:List PV)(p t d:PV):NX (US L x1 #[x.P] x3 x4 #[p] #[.lst G] #[t] #[d]) C=ae (.rt (.v (.tup [.str x.h,.str x.d,.int x.n,p,.tup G,t,d])),C):=by
 unfold US Nm.P;simp![NX,fm,g9]
end
def va(x:Nm)(us:2e2)(m:Str)(q:2e2):PV:=match NB (iE us).2 with
 |none=>.aS
 |some gs=>if(iw (iE us).1||(iw (cI 11e9 0 (10^60))||(iw (fR q)||!gs.all (gE x.h x.d))))=ag then .aS else if F5 gs=ah then .aS else
  .tup [.str x.h,.str x.d,.int x.n,(iE us).1,.tup 8e0,cI 11e9 0 (10^60),fR q]
def lb(x:Nm)(T:2e2):PV:=match atC T with
 |none=>.aS
 |some (us,m,q)=>va x us m q
def N9(ws:2e2):PV:=match ws with
 |a::b::n::T=>match cJ [a,b,n]with
  |none=>.aS
  |some x=>lb x T
 |_=>.aS
theorem GA(us:2e2):∃A,us=A++(iE us).2:=by
 ext iE
 match us with
 |[]=>show#[[],rfl]
 |g::r=>
  dsimp only;split
  .cases r with
   |nil=>show#[[g],rfl]
   |cons z q=>show#[[g,z],rfl]
  .show#[[],rfl]
theorem N7{L:List PV}{r:PV}(h:Lm (US L af af af af af af af af) C=ae (.rt (.v r),C)):oO [.v (.lst L)] C=ae (.v r,C):=oh rfl h
theorem N8(ws:2e2)(hn:ws.length<=1000)(hw:8e1)(C:Cs):oO [.v (.lst 4e2)] C=ae (.v (N9 ws),C):=by
 show N7 ?_;rw[VaC];show(dw (Vaz af af af af af af af af C ws hn)).trans ?_;show(dw (Vay _ af af af af af af af C ws hw)).trans ?_;have e3:=Vax af af af af af af C 4e2 (n9 ws) (fF (ws.take 3));have short:n9 ws=[]->N9 ws=.aS->aC dw3 (aC dw4 (aC dw5 (aC dw6 (aC dw7 (aC dw8 (aC dw9 (aC N6 (aC N4 (aC VaB (aC VaA NX)))))))))) (US 4e2 #[.lst (gF (n9 ws))] #[fF (ws.take 3)] af af af af af af) C=ae (.rt (.v (N9 ws)),C):=λh1 h2=>by
  rw[aE (.inl h1)]at e3;rw[h2];show KL e3
 rcases ws with _|⟨a,_|⟨b,_|⟨n,T⟩⟩⟩
 .show short rfl rfl
 .show short rfl rfl
 .show short rfl rfl
 rw[show(a::b::n::T).take 3=[a,b,n]from rfl,AG]at e3 short⊢;have hE:n9 (a::b::n::T)=jM 4 T:=rfl;have ha:=Bz T 4;change _=ae (PF.rt (.v (match cJ [a,b,n]with|none=>.aS|some x=>lb x T)),C);cases hx:cJ [a,b,n]with
 |none=>
  rw[hx]at e3;rw[aE (.inr rfl)]at e3;show KL e3
 |some x=>
  rw[hx]at e3 short;dsimp only;change _=ae (PF.rt (.v (match atC T with|none=>.aS|some (us,m,q)=>va x us m q)),C);cases hT:atC T with
  |none=>
   rw[hT]at ha;rw[aE (.inl (hE.trans ha))]at e3;show KL e3
  |some y=>
   let#[us,m,q]:=y;rw[hT]at ha;let#[l,hl]:=ha;have A:=oy hT;dsimp only;rw[hE,hl]at e3⊢;have hx2:iw x.P=ah:=rfl;rw[aI (by simp[oP,hx2])]at e3;show(dw e3).trans ?_;change aC dw4 _ (US _ _ #[x.P] af af af af af af) C=_;show(dw (Vaw _ af af af af af af C _ _ l)).trans ?_;have yS:=A.e;have hws:(a::b::n::T).map PV.str=[a,b,n].map PV.str++(us.map PV.str++(("at":Str)::m::q).map PV.str):=by
    rw[yS];simp
   have c5:cG 12e8 (ae 3) (ae (((4+us.length:Nat):Int)-1))=us.map PV.str:=by
    rw[hws];show Vfc _ _ _ rfl 14e9
   show(dw (Vav _ _ af af af af af C _ _ _ c5)).trans ?_;show(dw (show dw6 _ C=ae (.nx (US 12e8 _ #[x.P] _ #[.lst (us.map PV.str)] #[.int 0] af af af),C)from rfl)).trans ?_;have hwT:∀w∈T,w.length<=60:=λw h=>hw w (by simp[h]);have Qq:∀w∈us,w.length<=60:=λw h=>hwT w (by rw[yS];simp[h]);have hnT:us.length+2+q.length<=1000:=by
    rw[yS]at hn;simp at hn;lia
   show(dw (Vau _ _ _ af af af C _ us 3e5 Qq)).trans ?_;show(dw (show dw8 _ C=ae (.nx (US 12e8 _ #[x.P] _ #[.lst ((iE us).2.map PV.str)] #[(iE us).1] #[.lst []] af af),C)from rfl)).trans ?_;let#[B,hB]:=GA us;have hwM:∀w∈(iE us).2,w.length<=60:=λw h=>Qq w (by rw[hB];simp[h]);have hnM:(iE us).2.length<=1000:=by
    have:=congrArg Ud hB;simp at this;lia
   have e9:=Vaq #[.lst (gF ((4+us.length)::l))] #[x.P] #[(.int ((4+us.length:Nat):Int))] #[(iE us).1] af af C 12e8 (iE us).2 hnM hwM;ext va;cases hg:NB (iE us).2 with
   |none=>rw[hg]at e9;show KL e9
   |some gs=>
    rw[hg]at e9;show(dw e9).trans ?_;have jL:gs.length<=1000:=by
     ext NB hg;cases hM:(iE us).2 with
     |nil=>rw[hM]at hg;cases hg;simp
     |cons g vs=>
      rw[hM]at hg;dsimp only at hg;split at hg
      .rename_i h3
       have:=(tB hg).2;lia
      .cases hg
    have i10:dN (.lst 12e8) (.int ((4+us.length:Nat):Int))=ae (.str m):=by
     have:=ixw ([a,b,n]++us++[("at":Str)]) m q (i:=((4+us.length:Nat):Int)) 14e9;rw[yS];rw[show a::b::n::(us++("at":Str)::m::q)=[a,b,n]++us++[("at":Str)]++m::q by simp];show this
    have hm:(fN m).length<=60:=by
     have:=(tS A.c).2;have:=hwT m (by rw[yS];simp);lia
    show(dw (N5 _ _ _ _ _ af af C _ _ m i10 hm)).trans ?_;have c11:cG 12e8 (ae (((4+us.length:Nat):Int)+1)) af=q.map PV.str:=by
     have:=cutD 12e8 (4+us.length+1);rw[show(((4+us.length:Nat):Int)+1)=((4+us.length+1:Nat):Int) by lia,this,yS,←List.map_drop]
     congr 1
     rw[show a::b::n::(us++("at":Str)::m::q)=([a,b,n]++us++[("at":Str),m])++q by simp];show List.drop_left' 14e9
    show(dw (N0 _ _ _ _ _ _ af C _ _ q c11 (λw h=>hwT w (by rw[yS];simp[h])))).trans ?_;have e12:=NZ #[.lst (gF ((4+us.length)::l))] #[(.int ((4+us.length:Nat):Int))] #[.lst ((iE us).2.map PV.str)] C 12e8 x gs jL (iE us).1 (cI 11e9 0 (10^60)) (fR q);dsimp only;split at e12
    .rename_i hc
     rw[aE hc];show KL e12
    .rename_i hc
     rw[aI hc];show(dw e12).trans ?_;have e13:=NY #[.lst (gF ((4+us.length)::l))] #[x.P] #[(.int ((4+us.length:Nat):Int))] #[.lst ((iE us).2.map PV.str)] #[(iE us).1] #[cI 11e9 0 (10^60)] #[fR q] C 12e8 gs jL;split at e13
     .rename_i hr
      rw[aE hr];show KL e13
     .rename_i hr
      rw[aI hr];show(dw e13).trans (NW _ _ _ C _ x _ _ _ _)
def PH:Option Rl->PV
 |some l=>l.P
 |none=>.aS
def Ea(ws:2e2):PV:=PH (f6 ws)
theorem uJ(hl:z.length<=60)(lo:Int):cI z lo (10^60)=if bJ z=ag/\lo<=aT z then .int (aT z)else .aS:=by
 ext cI;by_cases hf:bJ z=ag
 .have:=G7 (tH hf).1 hl
  by_cases h1:lo<=aT z
  .rw[aE #[hf,h1,by lia],aE #[hf,h1]]
  .rw[aI (λq=>h1 q.2.1),aI (λq=>h1 q.2)]
 .rw[aI (λq=>hf q.1),aI (λq=>hf q.1)]
theorem HY{l l':Rl}(h:kE l=ae l'):l'=l/\l.B=ag:=by
 ext kE h;split at h
 .cases h;show#[rfl,by assumption]
 .cases h
theorem Zda{x:Nm}{p:Int}{gs:List Nm}{W:2e2}{l:Rl}(h:dX x p gs W=ae l):(∃m k r,W=("at":Str)::m::k::r/\fH m=ag)/\l.B=ag/\l.x=x/\l.cY=gs:=by
 ext dX h;split at h
 .rename_i t m k r
  split at h
  .rename_i he
   split at h
   .cases hd:dE k r with
    |none=>rw[hd]at h;cases h
    |some ps=>
     rw[hd]at h;let#[rfl,hB]:=HY h;ext jD he
     erw[Yl,g6]at he
     show#[#[m,k,r,by rw[he.1],he.2],hB,rfl,rfl]
   .cases h
  .cases h
 .cases h
theorem zX{x:Nm}{p:Int}{gs:List Nm}{W:2e2}(h:∀v B,W=("at":Str)::v::B->fH v=ah):dX x p gs W=af:=by
 cases e:dX x p gs W with
 |none=>rfl
 |some l=>
  obtain⟨⟨m,k,r,hW,hc⟩,_⟩:=Zda e;rw[h m (k::r) hW]at hc;cases hc
theorem uP{x:Nm}{p:Int}{gs:List Nm}{W:2e2}(h:(decide (gs.length<=30)&&gs.all lE)=ah):dX x p gs W=af:=by
 cases e:dX x p gs W with
 |none=>rfl
 |some l=>
  let#[_,hB,_,rfl]:=Zda e;unfold Rl.B nU at hB
  erw[Yl]at hB
  obtain⟨_,_,⟨h1,h2,_⟩,_⟩:=hB;rw[h1,h2]at h;cases h
theorem Vbh:bJ "at"=ah:=by decide +kernel
theorem Oq:(cJ (dv "at")).isNone=ag:=by decide +kernel
theorem TC(us:2e2)(hw:∀w∈us,w.length<=60)(W:2e2):(∃p,(iE us).1=.int p/\0<=p/\cT (us++("at":Str)::W)=ae (p,(iE us).2++("at":Str)::W))\/((iE us).1=.aS/\cT (us++("at":Str)::W)=af):=by
 match us,hw with
 |[],_=>show .inl #[0,rfl,Int.le_refl 0,by simp[cT,KC,iE]]
 |g::r,hw=>
  by_cases hg:g="after"
  .subst hg
   cases r with
   |nil=>show .inr #[by simp[iE],by simp[cT,Vbh]]
   |cons z q=>
    have e:(iE ("after"::z::q))=(cI z 1 (10^60),q):=by simp[iE]
    have e2:cT (("after":Str)::z::q++("at":Str)::W)=if bJ z=ag/\0<aT z then ae (aT z,q++("at":Str)::W)else af:=by simp[cT]
    have e3:=uJ (hw z 3e7) 1;rw[e,e2];dsimp only;by_cases h:bJ z=ag/\0<aT z
    .rw[aE #[h.1,by lia]]at e3
     show .inl #[aT z,e3,by lia,aE h]
    .rw[aI (λq=>h #[q.1,by lia])]at e3
     show .inr #[e3,aI h]
  .show .inl #[0,by simp[iE,hg],Int.le_refl 0,by simp[cT,hg,iE]]
theorem qJ:∀(vs:2e2),match bX vs with
  |none=>gh vs=af
  |some ps=>ps.length=vs.length/\match gh vs with
   |some gs=>ps.map Pq.N=gs/\gs.all lE=ag
   |none=>(ps.map Pq.N).all lE=ah
 |[]=>#[rfl,rfl,rfl]
 |v::r=>by
  have ih:=qJ r;unfold bX gh;have key:(fP (dv v)=af/\cJ (dv v)=af)\/∃p,fP (dv v)=ae p/\((cJ (dv v)=ae p.N/\lE p.N=ag)\/(cJ (dv v)=af/\lE p.N=ah)):=by
   by_cases h3:(dv v).length=3
   .let#[a,b,n,e]:=Zb4 h3
    rw[e];by_cases hf:bJ n=ag
    .show .inr #[.nam a b (aT n),by simp[fP,hf],?_]
     have en:(Pq.nam a b (aT n)).N=#[a,b,aT n]:=rfl;rw[en];by_cases hc:bc a=ag/\bc b=ag/\1<=aT n
     .show .inl #[aE #[hc.1,hc.2.1,hf,hc.2.2],by simp[lE,hc]]
     .show .inr #[aI (λq=>hc #[q.1,q.2.1,q.2.2.2]),?_]
      cases hk:lE #[a,b,aT n]with
      |false=>rfl
      |true=>
       erw[lE,Yl,g6]at hk
       show absurd hk hc
    .show .inl #[by simp[fP,hf],aI (λq=>hf q.2.2.1)]
   .show .inl #[ZdX h3,?_]
    ext cJ;split
    .rename_i e;rw[e]at h3;show absurd rfl h3
    .rfl
  rcases key with⟨k1,k2⟩|⟨p,k1,k2⟩
  .rw[k1,k2]
  .rw[k1]
   dsimp only;cases hn:bX r with
   |none=>
    rw[hn]at ih;change _=af;rcases k2 with⟨k2,_⟩|⟨k2,_⟩
    .rw[k2,ih];rfl
    .rw[k2]
   |some ps=>
    rw[hn]at ih;let#[i1,i2]:=ih;show#[by simp[i1],?_];rcases k2 with⟨k2,k3⟩|⟨k2,k3⟩
    .rw[k2]
     dsimp only;cases hg:gh r with
     |none=>rw[hg]at i2;change _=ah;rw[Yi,Xm];simp only at i2;rw[i2,V3]
     |some gs=>rw[hg]at i2;show#[by rw[Yi,i2.1],?_];rw[Xm,k3,i2.2];rfl
    .rw[k2]
     change _=ah;rw[Yi,Xm,k3];rfl
theorem Bs:∀{vs:2e2}(v1 v2:2e2),vs=v1++("at":Str)::v2->gh vs=af
 |_,[],v2,rfl=>by
  change(match cJ (dv "at")with|none=>af|some y=>(gh v2).map (y::·))=af;have:=Oq;cases h:cJ (dv "at")with
  |none=>rfl
  |some y=>rw[h]at this;cases this
 |_,v::v1,v2,rfl=>by
  change(match cJ (dv v)with|none=>af|some y=>(gh (v1++("at":Str)::v2)).map (y::·))=af;cases cJ (dv v)with
  |none=>rfl
  |some y=>dsimp only;rw[Bs v1 v2 rfl];rfl
theorem xm:∀{vs:2e2}(W:2e2),kR vs=af->kR (vs++("at":Str)::W)=ae (vs,W)
 |[],W,_=>by simp[kR]
 |v::r,W,h=>by
  ext kR h;by_cases hv:v="at"
  .rw[aE hv]at h;cases h
  .rw[aI hv]at h
   have hr:kR r=af:=by cases q:kR r with|none=>rfl|some x=>rw[q]at h;cases h
   change(if v="at" then _ else(kR (r++("at":Str)::W)).map _)=_;rw[aI hv,xm W hr];rfl
theorem xl:∀(v1 v2 W:2e2),(∀w∈v1,w≠"at")->kR (v1++("at":Str)::v2++W)=ae (v1,v2++W)
 |[],v2,W,_=>by simp[kR]
 |v::v1,v2,W,h=>by
  have hv:=h v 3e7;have ih:=xl v1 v2 W λw hw=>h w (by simp[hw]);change(if v="at" then _ else(kR (v1++("at":Str)::v2++W)).map _)=_;rw[aI hv,ih];rfl
def fJ(x:Nm)(p:Int)(W:2e2):Option Rl:=match dk W with
 |none=>af
 |some (gs,q2)=>dX x p (gs.map Pq.N) q2
theorem VcU(x:Nm)(p:Int)(M W:2e2)(f:∀A v B,M++[("at":Str)]=A++("at":Str)::v::B->fH v=ah):match NB M with
  |none=>fJ x p (M++("at":Str)::W)=af
  |some gs=>fJ x p (M++("at":Str)::W)=dX x p gs (("at":Str)::W)/\gs.all lE=ag/\gs.length<=30:=by
 match M,f with
 |[],_=>show#[by simp[fJ,dk,Vbg],rfl,by simp]
 |g::vs,f=>
  change match(if g="got"/\vs≠[]/\vs.length<=30 then gh vs else af)with
   |none=>fJ x p (g::vs++("at":Str)::W)=af
   |some gs=>fJ x p (g::vs++("at":Str)::W)=dX x p gs (("at":Str)::W)/\gs.all lE=ag/\gs.length<=30
  by_cases hg:g="got"
  .subst hg
   cases ha:kR vs with
   |none=>
    have e0:fJ x p (("got":Str)::vs++("at":Str)::W)=match(if vs=[]then af else(bX vs).map λps=>(ps,("at":Str)::W))with
     |none=>af
     |some (gs,q2)=>dX x p (gs.map Pq.N) q2:=by
     ext fJ;rw[show dk (("got":Str)::vs++("at":Str)::W)=(if vs=[]then af else(bX vs).map λps=>(ps,("at":Str)::W)) by simp[dk,xm W ha]]
    rw[e0];by_cases h0:vs=[]
    .rw[aE h0,aI (λq=>q.2.1 h0)]
    .rw[aI h0]
     have k:=qJ vs;cases hn:bX vs with
     |none=>
      rw[hn]at k;simp only at k;rw[k];split
      .rfl
      .rename_i q;split at q<;>cases q
     |some ps=>
      rw[hn]at k;let#[k1,k2]:=k;change match(if("got":Str)="got"/\vs≠[]/\vs.length<=30 then gh vs else af)with
       |none=>dX x p (ps.map Pq.N) (("at":Str)::W)=af
       |some gs=>dX x p (ps.map Pq.N) (("at":Str)::W)=dX x p gs (("at":Str)::W)/\gs.all lE=ag/\gs.length<=30
      by_cases h3:vs.length<=30
      .rw[aE #[rfl,h0,h3]]
       cases hq:gh vs with
       |none=>
        rw[hq]at k2;show uP (by rw[k2,V3])
       |some gs=>
        rw[hq]at k2;let#[k2,k3]:=k2;show#[by rw[k2],k3,by rw[←k2,Yk];lia]
      .rw[aI (λq=>h3 q.2.2)]
       show uP (by rw[Yk,k1,dm h3];rfl)
   |some y=>
    let#[v1,v2]:=y;let#[hv,h1]:=Zcb ha;have hn:(if("got":Str)="got"/\vs≠[]/\vs.length<=30 then gh vs else af)=af:=by rw[Bs v1 v2 hv];split<;>rfl
    rw[hn];have e0:fJ x p (("got":Str)::vs++("at":Str)::W)=match(if v1=[]then af else(bX v1).map λps=>(ps,("at":Str)::(v2++("at":Str)::W)))with
     |none=>af
     |some (gs,q2)=>dX x p (gs.map Pq.N) q2:=by
     have:=xl v1 v2 (("at":Str)::W) h1;rw[←hv]at this;ext fJ;rw[show dk (("got":Str)::vs++("at":Str)::W)=(if v1=[]then af else(bX v1).map λps=>(ps,("at":Str)::(v2++("at":Str)::W))) by simp only[dk,VB,if_true,this]]
    change _=af;rw[e0];split
    .rfl
    .rename_i gs q2 hq
     have LD:q2=("at":Str)::(v2++("at":Str)::W):=by
      split at hq
      .cases hq
      .cases hz:bX v1 with
       |none=>rw[hz]at hq;cases hq
       |some ps=>rw[hz]at hq;cases hq;rfl
     subst LD;show zX λv B e=>?_;have e':v2++("at":Str)::W=v::B:=by simpa using e
     cases v2 with
     |nil=>
      have:v="at":=by simp at e';show e'.1.symm
      show f (("got":Str)::v1) v [] (by rw[hv,this];simp)
     |cons z v2=>
      have:v=z:=by simp at e';show e'.1.symm
      show f (("got":Str)::v1) v (v2++[("at":Str)]) (by rw[hv,this];simp)
  .rw[aI (λq=>hg q.1)]
   change _=af;have e0:fJ x p (g::vs++("at":Str)::W)=dX x p [] (g::vs++("at":Str)::W):=by
    ext fJ;rw[show dk (g::vs++("at":Str)::W)=ae ([],g::vs++("at":Str)::W) by simp[dk,hg]];rfl
   rw[e0];show zX λv B e=>?_;have e':g="at"/\vs++("at":Str)::W=v::B:=by simpa using e
   cases vs with
   |nil=>
    have:v="at":=by have:=e'.2;simp at this;show this.1.symm
    show f [] v [] (by rw[e'.1,this];simp)
   |cons z vs=>
    have:v=z:=by have:=e'.2;simp at this;show this.1.symm
    show f [] v (vs++[("at":Str)]) (by rw[e'.1,this];simp)
theorem ZC(x:Nm)(T:2e2):kZ x T=match cT T with
 |none=>af
 |some (p,q)=>fJ x p q:=by
 unfold kZ fJ;cases cT T with
 |none=>rfl
 |some y=>let#[p,q]:=y;rfl
theorem GI{q:2e2}{p:Int}(h:cT ws=ae (p,q)):∃A,ws=A++q:=by
 cases ws with
 |nil=>cases h;show#[[],rfl]
 |cons a r=>
  ext cT h;dsimp only at h;split at h
  .cases r with
   |nil=>cases h
   |cons z q'=>
    dsimp only at h;split at h
    .cases h;show#[[a,z],rfl]
    .cases h
  .cases h;show#[[],rfl]
theorem HR{q:2e2}{gs:List Pq}(h:dk ws=ae (gs,q)):∃A,ws=A++q:=by
 cases ws with
 |nil=>cases h;show#[[],rfl]
 |cons a r=>
  ext dk h;dsimp only at h;split at h
  .cases hx:kR r with
   |none=>rw[hx]at h;cases h
   |some y=>
    let#[us,q']:=y;let#[hr,_]:=Zcb hx;rw[hx]at h;dsimp only at h;split at h
    .cases h
    .cases hn:bX us with
     |none=>rw[hn]at h;cases h
     |some ps=>rw[hn]at h;cases h;show#[a::us,by rw[hr];rfl]
  .cases h;show#[[],rfl]
theorem vI{x:Nm}{T:2e2}{l:Rl}(h:kZ x T=ae l):l.B=ag/\l.x=x/\∃A m k r,T=A++("at":Str)::m::k::r/\fH m=ag:=by
 ext kZ h;cases hp:cT T with
 |none=>rw[hp]at h;cases h
 |some y=>
  let#[p,q]:=y;rw[hp]at h;dsimp only at h;let#[A,hA]:=GI hp;cases hg:dk q with
  |none=>rw[hg]at h;cases h
  |some z=>
   let#[gs,q2]:=z;rw[hg]at h;dsimp only at h;let#[B,hB]:=HR hg;obtain⟨⟨m,k,r,hW,hc⟩,b1,b2,_⟩:=Zda h;show#[b1,b2,A++B,m,k,r,by rw[hA,hB,hW];simp,hc]
theorem Fb{x:Nm}{p:Int}{gs:List Nm}{m:Str}{q:2e2}(hx:lE x=ag)(hp:0<=p)(hg:gs.all lE=ag)(h30:gs.length<=30)(hc:fH m=ag)(hm:(fN m).length<=60):
  PH (dX x p gs (("at":Str)::m::q))=if(ah||(iw (cI 11e9 0 (10^60))||(iw (fR q)||!gs.all (gE x.h x.d))))=ag then .aS else if F5 gs=ah then .aS else
  .tup [.str x.h,.str x.d,.int x.n,.int p,.tup 8e0,cI 11e9 0 (10^60),fR q]:=by
 rw[uJ hm 0,VI];cases q with
 |nil=>
  have e:fR []=.aS:=rfl;have:(iw (if bJ 11e9=ag/\0<=aT 11e9 then PV.int (aT 11e9)else .aS)||(iw (fR [])||!gs.all (gE x.h x.d)))=ag:=by
   rw[e];change(_||(ag||_))=ag;simp
  rw[aE this];rfl
 |cons k r=>
  have he:jD (("at":Str)::m::k::r)=ag:=by ext jD;simp[hc]
  have hn:0<=aT 11e9:=by ext aT;lia
  ext dX;dsimp only;rw[aE he];by_cases hf:bJ 11e9=ag
  .have hW:(if bJ 11e9=ag/\0<=aT 11e9 then PV.int (aT 11e9)else .aS)=.int (aT 11e9):=aE #[hf,hn]
   rw[aE hf,hW];have hD:dE k r=af\/∃ps,dE k r=ae ps:=by cases dE k r with|none=>show .inl rfl|some ps=>show .inr #[ps,rfl]
   rcases hD with hd|⟨ps,hd⟩
   .have e1:fR (k::r)=.aS:=by ext fR;erw[hd]
    rw[hd,e1,aE (by change(ah||(ag||_))=ag;simp)];rfl
   .have e1:fR (k::r)=if lW ps=ag then fw ps else .aS:=by ext fR;erw[hd]
    rw[hd,e1];dsimp only;have hB:Rl.B #[x,p,gs,aT 11e9,ps]=(F5 gs&&gs.all (gE x.h x.d)&&lW ps):=by
     unfold Rl.B nU;dsimp only;rw[hx,hg,eF hp,eF h30,eF hn];change(ag&&(ag&&((ag&&(ag&&(F5 gs&&_)))&&(ag&&_))))=_
     erw[Bool.true_and]
    ext kE;rw[hB];have hr:iw (fw ps)=ah:=rfl;have hi:iw (.int (aT 11e9))=ah:=rfl;have ho:iw .aS=ag:=rfl;cases lW ps
    .simp[ho,PH]
    .cases gs.all (gE x.h x.d)
     .simp[PH]
     .cases F5 gs
      .simp[PH]
      .simp[hi,PH,hr,Rl.P]
  .have hW:(if bJ 11e9=ag/\0<=aT 11e9 then PV.int (aT 11e9)else .aS)=.aS:=aI (λq=>hf q.1)
   rw[aI hf,hW];rw[aE (by change(ag||_)=ag;simp)];rfl
theorem yY{x:Nm}(hx:lE x=ag)(T:2e2)(hw:∀w∈T,w.length<=60):lb x T=PH (kZ x T):=by
 ext lb;cases hT:atC T with
 |none=>
  cases hm:kZ x T with
  |none=>rfl
  |some l=>
   let#[_,_,A,m,k,r,e,hc]:=vI hm;rw[xn hT A m (k::r) e]at hc;cases hc
 |some y=>
  let#[us,m,q]:=y;have A:=oy hT;have yS:=A.e;have Qq:∀w∈us,w.length<=60:=λw h=>hw w (by rw[yS];simp[h]);have hm:(fN m).length<=60:=by
   have:=(tS A.c).2;have:=hw m (by rw[yS];simp);lia
  rw[ZC];change va x us m q=_;ext va;let#[B,hB]:=GA us;have fM:∀A' v B',(iE us).2++[("at":Str)]=A'++("at":Str)::v::B'->fH v=ah:=λA' v B' e=>A.f (B++A') v B' (by
   rw[hB,Yx,e,Yx])
  rcases TC us Qq (m::q)with⟨p,h1,h2,h3⟩|⟨h1,h3⟩
  .rw[yS,h3,h1]
   dsimp only;have k:=VcU x p (iE us).2 (m::q) fM;cases hg:NB (iE us).2 with
   |none=>rw[hg]at k;simp only at k;rw[k];rfl
   |some gs=>
    rw[hg]at k;let#[k1,k2,k3]:=k;rw[k1,Fb hx h2 k2 k3 A.c hm];rfl
  .rw[yS,h3,h1]
   cases NB (iE us).2 with
   |none=>rfl
   |some gs=>rfl
theorem JF(ws:2e2)(hw:8e1):N9 ws=Ea ws:=by
 ext Ea
 match ws,hw with
 |[],_=>rfl
 |[_],_=>rfl
 |[_,_],_=>rfl
 |[a,b,n],_=>
  change(match cJ [a,b,n]with|none=>.aS|some x=>lb x [])=PV.aS;cases cJ [a,b,n]<;>rfl
 |a::b::n::c::r,hw=>
  change(match cJ [a,b,n]with|none=>.aS|some x=>lb x (c::r))=PH (if bJ n=ag then kZ #[a,b,aT n] (c::r)else af);have hwT:∀w∈c::r,w.length<=60:=λw h=>hw w (by simp at h⊢;rcases h with h|h<;>simp[h]);by_cases hk:bc a=ag/\bc b=ag/\bJ n=ag/\1<=aT n
  .rw[show cJ [a,b,n]=ae #[a,b,aT n]from aE hk,aE hk.2.2.1]
   show yY (by simp[lE,hk]) _ hwT
  .rw[show cJ [a,b,n]=af from aI hk]
   dsimp only;by_cases hf:bJ n=ag
   .rw[aE hf]
    cases hm:kZ #[a,b,aT n] (c::r)with
    |none=>rfl
    |some l=>
     let#[hB,hx,_]:=vI hm;ext Rl.B hB;rw[hx]at hB
     erw[Yl,lE,g6]at hB
     show absurd #[hB.1.1,hB.1.2.1,hf,hB.1.2.2] hk
   .rw[aI hf];rfl
theorem VaD(ws:2e2)(hn:ws.length<=1000)(hw:8e1)(C:Cs):oO [.v (.lst 4e2)] C=ae (.v (Ea ws),C):=by
 rw[←JF ws hw];show N8 ws hn hw C
structure SI(k:Nat)(C Cx:Cs)(n:Nat)(L:List PV):Prop where
 Q4:lB k C (Cx.take C.length)
 at':Cx[n]? = ae (.lst L)
 n:C.length<=n
 gs:GS Cx k
 kl:k<C.length
theorem SI.len{k n:Nat}{C Cx:Cs}{L:List PV}(s:SI k C Cx n L):C.length<=Cx.length:=by
 have:=s.Q4.len;rw[Y8]at this;lia
theorem SI.go{k:Nat}{Cx:Cs}{L:List PV}(s:SI k C Cx n L)(a:lB k Cx C2):SI k C C2 n L:=by
 have h1:=s.len;have h2:=a.len;have h3:=s.Q4;have hn:=s.n;have hk:=s.kl;show#[#[by rw[Y8];lia,?_,λj hj=>?_],by rw[a.Ar n 3e5];show s.at',s.n,a.gs,s.kl]
 .let#[x,y,e,q]:=a.gs
  show#[x,y,by rw[Xj hk];show e,q]
 .by_cases hj2:j<C.length
  .have:=h3.Ar j hj
   rw[Xj hj2]at this⊢;rw[a.Ar j hj];show this
  .rw[Xw (by rw[Y8];lia),Xw 3e5]
theorem SI.set{k n:Nat}{C Cx:Cs}{L L':List PV}(s:SI k C Cx n L):SI k C (Cx.set n (.lst L')) n L':=by
 have hn:=s.n;have hk:=s.kl;have ht:(Cx.set n (.lst L')).take C.length=Cx.take C.length:=by
  rw[List.take_set,List.set_eq_of_length_le (by rw[Y8];lia)]
 show#[by rw[ht];show s.Q4,setAt s.at',s.n,?_,s.kl];let#[x,y,e,q]:=s.gs;show#[x,y,by rw[Y3 3e5];show e,q]
theorem SI.pick{k:Nat}{Cx:Cs}{L:List PV}(s:SI k C Cx n L)(m:Int)(hm:0<m/\m<1000):∃d C',cL [.c k,.v (.int m)] Cx=ae (.v (.int d),C')/\0<=d/\d<m/\C'.length=Cx.length/\SI k C C' n L:=by
 let#[d,C',e,h1,h2,a]:=uc k m Cx s.gs #[hm.1,by lia];show#[d,C',e,h1,h2,a.len,s.go a]
def sp0:aM->M PF:=cb (M5 6e1 (ak 6e9 ao))
def sp1:aM->M PF:=cb (pF 6e1 (ak 6e9 (ak (aD 3e3 6e1 6e9) ao)))
def sp2:aM->M PF:=A4 (ak (aD 3e3 6e1 (aD (g2 gD) 6e9 1e8)) (ak (aD 3e3 6e1 6e9) ao)) 6e1 6e9 6e1 (aD (g2 gD) 6e9 1e8)
def sp3:aM->M PF:=fe (aD 3e3 (aV 5) (bw cL (ak 1e4 (ak (mC (.int 25)) ao)))) 6e1 6e9
def sp5:aM->M PF:=cb (pF 6e1 (ak 6e9 (ak (aD 3e3 (aV 5) (bw cL (ak 1e4 (ak (mC (.int 25)) ao)))) ao)))
def sp6:aM->M PF:=fe (aD 8e5 (aD 3e3 6e1 6e9) (aD 3e3 (bh (bQ (ak (mC (.str "0")) (ak (mC (.str ":")) (ak (mC (.str ".")) (ak (mC (.str "a")) (ak (mC (.str "\n")) (ak (mC (.str "-")) ao)))))))) 15e1)) 6e1 6e9
def sp7:aM->M PF:=fe (aD 8e5 (aD 3e3 (bh (bQ (ak (mC (.str "0")) (ak (mC (.str ":")) (ak (mC (.str ".")) (ak (mC (.str "A")) (ak (mC (.str "\n")) (ak (mC (.str "-")) ao)))))))) 15e1) (aD 3e3 6e1 6e9)) 6e1 6e9
noncomputable def jB (k:Nat)(cl:PV)(n:Nat)(d a:Int)(SL:List PV)(y:11e4):aM:=[7e7,#[cl],ae (.c n),#[.int d],#[.int a],#[.lst SL],y]
def OG(k:Nat)(C:Cs)(cl:PV)(d a:Int)(SL:List PV)(r:Option (PF×Cs)):Prop:=∃n' Cx' L' y',r=ae (.nx (jB k cl n' d a SL y'),Cx')/\SI k C Cx' n' L'/\L'.length<=60/\∀p∈L',gd p
section
variable{k n:Nat}{C Cx:Cs}{cl:PV}{d a:Int}{SL L:List PV}{y:11e4}(s:SI k C Cx n L)(h0:0<=a)(h1:a<L.length)(hL:L.length<=50)(hg:∀p∈L,∃w,p=.str w/\32∉w.cps.toList/\w.length<=56)(hS:SL.length=25)(LH:∀p∈SL,gd p)
include hg in
theorem yW:∀p∈L,gd p:=λp hp=>by
 let#[w,rfl,h]:=hg p hp;show#[h.1,by lia]
include s h0 h1 in
theorem wq:∃p,p∈L/\dN (.lst L) (.int a)=ae p/\L[a.toNat]? = ae p:=by
 have hd:a.toNat<L.length:=by lia
 show#[L[a.toNat],XU hd,?_,Yd hd];simp[dN,fW,eo,dW,h0,h1,Yd hd]
include s h0 h1 hL hg in
theorem vw0:OG k C cl d a SL (sp0 (jB k cl n d a SL y) Cx):=by
 let#[p,hp,_,e]:=wq s h0 h1;have DY:=s.at';have EB:L.length<100000:=by lia
 show#[n,_,L.take a.toNat++L.drop (a.toNat+1),y,?_,s.set,by simp;lia,λq hq=>?_]
 .simp![sp0,jB,M5,gT,DY,ME,e,h0,EB]
 .rcases YZ.mp hq with hq|hq
  .show yW hg q (Wi hq)
  .show yW hg q (Wh hq)
include s h0 h1 hL hg in
theorem vw1:OG k C cl d a SL (sp1 (jB k cl n d a SL y) Cx):=by
 let#[p,hp,e2,e]:=wq s h0 h1;have DY:=s.at';have EB:L.length<100000:=by lia
 have hl3:a<=L.length:=by lia
 show#[n,_,L.take a.toNat++p::L.drop a.toNat,y,?_,s.set,by simp;lia,λq hq=>?_]
 .simp![sp1,jB,pF,gT,DY,yQ,e2,h0,EB,hl3]
 .rcases YZ.mp hq with hq|hq
  .show yW hg q (Wi hq)
  .rcases Ye.mp hq with rfl|hq
   .show yW hg _ hp
   .show yW hg q (Wh hq)
theorem HC{L:List PV}(hp:0<L.length):dW L.length (-1)=ae (L.length-1):=by
 ext dW;rw[aI 2e7,aE 3e5]
 congr 1
 lia
theorem Zdq{L:List PV}{x:PV}(h:q∈L.set i x):q=x\/q∈L:=by
 have:=List.mem_or_eq_of_mem_set h;show this.symm
include s h0 h1 hL hg in
theorem vw2:OG k C cl d a SL (sp2 (jB k cl n d a SL y) Cx):=by
 let#[p,hp,e2,e]:=wq s h0 h1;have DY:=s.at';obtain⟨j,hj,hjl⟩:∃j,dW L.length (a-1)=ae j/\j<L.length:=by
  by_cases h:a=0
  .subst h
   show#[L.length-1,HC 3e5,by lia]
  .show#[(a-1).toNat,?_,by lia]
   ext dW;rw[aE 3e5,aE 3e5]
 have e3:dN (.lst L) (.int (a-1))=ae L[j]:=by
  change eo L (a-1)=_;ext eo;rw[hj];change L[j]? = _;rw[Yd hjl]
 have hi:dW L.length a=ae a.toNat:=by
  ext dW;rw[aE h0,aE h1]
 have s1:SI k C (Cx.set n (.lst (L.set a.toNat L[j]))) n (L.set a.toNat L[j]):=s.set;have Vad:=s1.at';have hj2:dW (L.set a.toNat L[j]).length (a-1)=ae j:=by rw[WL];show hj
 show#[n,_,(L.set a.toNat L[j]).set j p,y,?_,s1.set,by simp;lia,λq hq=>?_]
 .generalize hq:L[j]=q at *
  generalize hL1:L.set a.toNat q=L1 at *;generalize hC1:Cx.set n (.lst L1)=C1 at *;simp![sp2,jB,A4,A5,gD,DY,e2,e3,setC,hi,hL1,hC1,Vad,hj2]
 .rcases Zdq hq with rfl|hq
  .show yW hg _ hp
  .rcases Zdq hq with rfl|hq
   .show yW hg _ (XU hjl)
   .show yW hg _ hq
include s h0 h1 hL hg hS LH in
theorem vw3:OG k C cl d a SL (sp3 (jB k cl n d a SL y) Cx):=by
 let#[c,C1,e1,b1,b2,hl,s1]:=s.pick 25 2e7;let#[p,hp,e2]:=zD SL c b1 3e5;have DY:=s1.at';have hi:dW L.length a=ae a.toNat:=by
  ext dW;rw[aE h0,aE h1]
 show#[n,_,L.set a.toNat p,y,?_,s1.set,by simp;lia,λq hq=>?_]
 .simp![sp3,jB,fe,e1,e2,setC,DY,hi]
 .rcases Zdq hq with rfl|hq
  .show LH _ hp
  .show yW hg _ hq
include s h0 h1 hL hg hS LH in
theorem vw5:OG k C cl d a SL (sp5 (jB k cl n d a SL y) Cx):=by
 let#[c,C1,e1,b1,b2,hl,s1]:=s.pick 25 2e7;let#[p,hp,e2]:=zD SL c b1 3e5;have HM:=s.at';have DY:=s1.at';have EB:L.length<100000:=by lia
 have hl3:a<=L.length:=by lia
 show#[n,_,L.take a.toNat++p::L.drop a.toNat,y,?_,s1.set,by simp;lia,λq hq=>?_]
 .simp![sp5,jB,pF,gT,HM,DY,yQ,e1,e2,h0,EB,hl3]
 .rcases YZ.mp hq with hq|hq
  .show yW hg q (Wi hq)
  .rcases Ye.mp hq with rfl|hq
   .show LH _ hp
   .show yW hg q (Wh hq)
theorem HX{w c:Str}(h1:32∉w.cps.toList/\w.length<=56)(h2:32∉c.cps.toList)(h3:c.length<=1):QB (w++c)/\QB (c++w):=by
 have ll:∀a b:Str,(a++b).length=a.length+b.length:=λa b=>Vu a b;show#[#[?_,by rw[ll];lia],#[?_,by rw[ll];lia]]
 .rw[LR,Y5]
  erw[YZ,not_or]
  show#[h1.1,h2]
 .rw[LR,Y5]
  erw[YZ,not_or]
  show#[h2,h1.1]
noncomputable def Dt:PV->Bool
 |.str c=>decide (c.length<=1)&&!c.cps.toList.contains 32
 |_=>ah
theorem G0(h:Dt p=ag):∃c,p=.str c/\32∉c.cps.toList/\c.length<=1:=by
 cases p with
 |str c=>
  erw[Dt,Yl,g6,V8]at h
  show#[c,rfl,λq=>by rw[Vx.mpr q]at h;simp at h,h.1]
 |_=>cases h
include s h0 h1 hL hg in
theorem vw6:OG k C cl d a SL (sp6 (jB k cl n d a SL y) Cx):=by
 let#[p,hp,e2,e]:=wq s h0 h1;let#[w,rfl,hw]:=hg p hp;have HM:=s.at';let#[c,C1,e1,b1,b2,hl,s1]:=s.pick 6 2e7;let#[q,hq,e3]:=zD [.str "0",.str ":",.str ".",.str "a",.str "\n",.str "-"] c b1 (by simpa using b2);have LD:Dt q=ag:=YE.mp (show[PV.str "0",.str ":",.str ".",.str "a",.str "\n",.str "-"].all Dt=ag by decide +kernel) q hq;let#[yc,rfl,hy1,Z7]:=G0 LD;have DY:=s1.at';have hi:dW L.length a=ae a.toNat:=by
  ext dW;rw[aE h0,aE h1]
 have hc:w.length+yc.length<=1000000:=by lia
 show#[n,_,L.set a.toNat (.str (w++yc)),y,?_,s1.set,by simp;lia,λq hq=>?_]
 .simp![sp6,jB,fe,HM,e1,e2,e3,fm,hc,setC,DY,hi]
 .rcases Zdq hq with rfl|hq
  .show(HX hw hy1 Z7).1
  .show yW hg _ hq
include s h0 h1 hL hg in
theorem vw7:OG k C cl d a SL (sp7 (jB k cl n d a SL y) Cx):=by
 let#[p,hp,e2,e]:=wq s h0 h1;let#[w,rfl,hw]:=hg p hp;have HM:=s.at';let#[c,C1,e1,b1,b2,hl,s1]:=s.pick 6 2e7;let#[q,hq,e3]:=zD [.str "0",.str ":",.str ".",.str "A",.str "\n",.str "-"] c b1 (by simpa using b2);have LD:Dt q=ag:=YE.mp (show[PV.str "0",.str ":",.str ".",.str "A",.str "\n",.str "-"].all Dt=ag by decide +kernel) q hq;let#[yc,rfl,hy1,Z7]:=G0 LD;have DY:=s1.at';have hi:dW L.length a=ae a.toNat:=by
  ext dW;rw[aE h0,aE h1]
 have hc:yc.length+w.length<=1000000:=by lia
 show#[n,_,L.set a.toNat (.str (yc++w)),y,?_,s1.set,by simp;lia,λq hq=>?_]
 .simp![sp7,jB,fe,HM,e1,e2,e3,fm,hc,setC,DY,hi]
 .rcases Zdq hq with rfl|hq
  .show(HX hw hy1 Z7).2
  .show yW hg _ hq
noncomputable def gdB:PV->Bool
 |.str c=>decide (c.length<=57)&&!c.cps.toList.contains 32
 |_=>ah
theorem QA(h:gdB p=ag):gd p:=by
 cases p with
 |str c=>
  erw[gdB,Yl,g6,V8]at h
  show#[λq=>by rw[Vx.mpr q]at h;simp at h,h.1]
 |_=>cases h
end
noncomputable def pC:List Nm:=(YL 31).map λ(k:Nat)=>#["a","zz",1+(0+(k:Int))]
def nmC:aM->M 5e5:=br (cN (ak (mC (.int 31)) ao)) ["_law_k"] [] 8e6 gq (cj (ak (mC (.str "a")) (ak (mC (.str "zz")) (ak (aD 8e5 1e8 1e4) ao))))
theorem Zx(ρ:aM)(C:Cs):nmC ρ C=ae (pC.map Nm.P,C):=by
 have hr:cN (ak (mC (.int 31)) ao) ρ C=ae ((YL 31).map λ(k:Nat)=>PV.int (0+(k:Int)),C):=by
  have hg:jd [.v (.int 31)]=ae ((YL 31).map λ(k:Nat)=>PV.int (0+(k:Int))):=by
   ext jd;dsimp only;rw[aE 3e5];rfl
  erw[cN,bP,ak,ao,mC,Pu.ret,i7,hg]
 have k:=Zcx (te:=cj (ak (mC (.str "a")) (ak (mC (.str "zz")) (ak (aD 8e5 1e8 1e4) ao)))) (g:=λk:Nat=>PV.int (0+(k:Int))) (f:=λk:Nat=>Nm.P #["a","zz",1+(0+(k:Int))]) (YL 31) [af] [] C (λk _=>rfl);unfold nmC br bP;rw[hr];dsimp only;rw[aE (by rw[Yk,Ub];decide)];show k.trans ?_;rw[XA];ext pC;rw[XX];rfl
def SG:aM->M Bool:=aH (aD 1e9 (bU 3e9 eB 16e2) (cj (ak (mC (.str "a")) (ak (mC (.str "zz")) ao))))
def Md:aM->M SV:=aD 8e5 (aD 8e5 (bU 3e9 eB (bz (mC (.int 4)))) (cj (ak (cB (g1 g9) (ak (bU (aV 6) (bz (bw cL (ak 1e4 (ak 4e5 ao)))) eB) ao)) ao))) (bU 3e9 (bz (mC (.int 5))) eB)
def SH:aM->M PF:=bg 6 (bh nmC)
def Vej:aM->M PF:=bx SG (gg 2 (pG iN (ak Md ao))) bo
def sp9:aM->M PF:=aC SH Vej
theorem Zw{y:Nm}(h:y∈pC):y.Ok/\y.h="a"/\y.d="zz":=by
 ext pC h;let#[k,hk,rfl]:=YV.mp h;have hk:=WW.mp hk;show#[#[by change bc "a"=ag;decide +kernel,by change bc "zz"=ag;decide +kernel,by change(1:Int)<=1+(0+(k:Int));lia,by change 1+(0+(k:Int))<10^30;lia],rfl,rfl]
def Lt.N(l:Lt)(i:Nat):Lt:=#[l.x,l.prev,pC.drop i,l.time,l.kd,l.ps]
theorem MT:pC.length=31:=by simp[pC]
theorem Vff{l:Lt}(o:l.Ok)(h:¬(l.x.h="a"/\l.x.d="zz"))(i:Nat):(l.N i).Ok:=by
 show#[o.x,o.p0,o.p1,λy hy=>?_,?_,o.t0,o.t1,o.d]
 .let#[h1,h2,h3]:=Zw (Wh hy)
  show#[h1,λe e2=>h #[?_,?_]]
  .rw[←h2];show e.symm
  .rw[←h3];show e2.symm
 .change(pC.drop i).length<=31
  rw[WA,MT];lia
theorem Ve5{l:Lt}(o:l.Ok):∀p∈l.W.map PV.str,gd p:=λp hp=>by
 let#[w,hw,rfl]:=YV.mp hp;have:=VcT o w hw;show#[this.1,by lia]
section
variable{k n:Nat}{C Cx:Cs}{l:Lt}{d a:Int}{SL L:List PV}{y:11e4}(s:SI k C Cx n L)(hL:L.length<=50)(hg:∀p∈L,gd p)(o:l.Ok)
include s hL hg o in
theorem vw9:OG k C l.P d a SL (sp9 (jB k l.P n d a SL y) Cx):=by
 have s6:SH (jB k l.P n d a SL y) Cx=ae (.nx (jB k l.P n d a SL #[.lst (pC.map Nm.P)]),Cx):=by
  have e:=Zx (jB k l.P n d a SL y) Cx;unfold jB at e⊢;ext SH;let te:=nmC;let NN:=pC.map Nm.P;let LP:=l.P;simp![e]
 have c:SG (jB k l.P n d a SL #[.lst (pC.map Nm.P)]) Cx=ae (decide (¬(l.x.h="a"/\l.x.d="zz")),Cx):=by
  have e:=Vcs l.x.h l.x.d "a" "zz";unfold jB Lt.P;generalize pC.map Nm.P=NN at *;generalize decide (¬(l.x.h="a"/\l.x.d="zz"))=b at *;generalize l.cY.map Nm.P=GP at *;generalize fw (.st l.kd::l.ps)=DD at *;have hc:∀a b c d e f g:PV,cG [a,b,c,d,e,f,g] af (ae 2)=[a,b]:=λ_ _ _ _ _ _ _=>rfl;simp![SG,hc,e]
 by_cases hz:l.x.h="a"/\l.x.d="zz"
 .rw[dm (λq=>q hz)]at c
  show#[n,Cx,L,_,(dw s6).trans (EI c),s,by lia,hg]
 .rw[eF hz]at c
  let#[i,C1,e1,b1,b2,hl,s1]:=s.pick 2 2e7;have hlen:=s1.len;have hk:=s1.kl;have o':=Vff o hz i.toNat;have ew:=ZbT o' C1;have hi:cG (pC.map Nm.P) (ae i) af=(pC.drop i.toNat).map Nm.P:=by
   have:=cutD (pC.map Nm.P) i.toNat;rw[show((i.toNat:Nat):Int)=i by lia]at this;rw[this,List.map_drop]
  have el:Md (jB k l.P n d a SL #[.lst (pC.map Nm.P)]) Cx=ae (.v (l.N i.toNat).P,C1):=by
   unfold jB Lt.P Lt.N;dsimp only;let NN:=pC.map Nm.P;generalize(pC.drop i.toNat).map Nm.P=N2 at *;let GP:=l.cY.map Nm.P;generalize fw (.st l.kd::l.ps)=DD at *;have h4:∀a b c d e f g:PV,cG [a,b,c,d,e,f,g] af (ae 4)=[a,b,c,d]:=λ_ _ _ _ _ _ _=>rfl;have h5:∀a b c d e f g:PV,cG [a,b,c,d,e,f,g] (ae 5) af=[f,g]:=λ_ _ _ _ _ _ _=>rfl;simp![Md,h4,h5,e1,hi,g9,fm]
  show#[C1.length,C1++[.lst ((l.N i.toNat).W.map PV.str)],(l.N i.toNat).W.map PV.str,#[.lst (pC.map Nm.P)],(dw s6).trans ((pI c).trans ?_),#[?_,by simp,hlen,?_,hk],by have:=(P7 o').2;rw[Yk];lia,Ve5 o']
  .generalize(l.N i.toNat).P=LN at *
   generalize(l.N i.toNat).W.map PV.str=WS at *;let te:=Md;have ea:ak te ao (jB k l.P n d a SL #[.lst (pC.map Nm.P)]) Cx=ae ([.v LN],C1):=by
    unfold ak ao bP;rw[el];rfl
   have ef:pG iN (ak te ao) (jB k l.P n d a SL #[.lst (pC.map Nm.P)]) Cx=ae (WS,C1):=by
    unfold pG bP;rw[ea];show ew
   unfold gg bP;rw[ef];rfl
  .rw[VC hlen];show s1.Q4
  .let#[x,y,e,q]:=s1.gs
   show#[x,y,by rw[Yu 3e5];show e,q]
end
def z1:aM->M PF:=gg 2 (pG iN 5e6)
def z2:aM->M PF:=bg 3 (bw cL (ak 1e4 (ak (mC (.int 10)) ao)))
def z3:aM->M PF:=bg 4 (bw cL (ak 1e4 (ak (cB (g1 fG) 12e3) ao)))
def z4:aM->M PF:=bg 5 (bh (bQ (ak (mC (.str "0")) (ak (mC (.str "01")) (ak (mC (.str "-1")) (ak (mC (.str "12")) (ak (mC (.str "9")) (ak 18e2 (ak (mC (.str "x")) (ak (mC (.str "X")) (ak (mC (.str "a1")) (ak (mC (.str "abcdefghijklm")) (ak (mC (.str "bell")) (ak (mC (.str "got")) (ak (mC (.str "after")) (ak 10e9 (ak (mC (.str "5:")) (ak 11e0 ao))))))))))))))))))
def z5:aM->M PF:=bg 5 (aD 8e5 (aV 5) (bh (bQ (ak (pE "str" iz (mC (.str ".")) (ak (bU 6e1 eB (bz 7e4)) ao)) (ak (mC (.str "a.b")) (ak (mC (.str "a.b.0")) (ak (mC (.str "a.b.c")) (ak (mC (.str "a.b.1.2")) (ak (mC (.str "A.b.1")) (ak (mC (.str "a..1")) (ak (mC (.str "a.b.01")) (ak (aD 3e3 6e1 (jh 1e8)) ao))))))))))))
def Qn(i:Int):aM->M Bool:=aH (aD 2e5 9e2 (mC (.int i)))
def z6:aM->M PF:=bx (Qn 0) sp0 (bx (Qn 1) sp1 (bx (Qn 2) sp2 (bx (aH (aD (g2 jC) 9e2 (mC (.int 6)))) sp3 (bx (Qn 6) sp5 (bx (Qn 7) sp6 (bx (Qn 8) sp7 sp9))))))
theorem CP:Cy=aC z1 (aC z2 (aC z3 (aC z4 (aC z5 (aC z6 (bj 6e1)))))):=rfl
theorem Z4(k:Nat)(cl:PV)(n:Nat)(d a:Int)(SL:List PV)(y:11e4)(i:Int)(C:Cs):Qn i (jB k cl n d a SL y) C=ae (decide (d=i),C):=by
 simp![Qn,jB,EG]
theorem ZH(k:Nat)(cl:PV)(n:Nat)(d a:Int)(SL:List PV)(y:11e4)(C:Cs):aH (aD (g2 jC) 9e2 (mC (.int 6))) (jB k cl n d a SL y) C=ae (decide (d<6),C):=by
 simp![jB,ltI]
theorem nP{c:7e3}{f:8e9}(h:c ρ C=ae (ag,C)):bx c f g ρ C=f ρ C:=by
 unfold bx bP;rw[h];rfl
theorem nQ{c:7e3}{f:8e9}(h:c ρ C=ae (ah,C)):bx c f g ρ C=g ρ C:=by
 unfold bx bP;rw[h];rfl
section
variable{k n:Nat}{C Cx:Cs}{l:Lt}{d a:Int}{SL L:List PV}{y:11e4}(s:SI k C Cx n L)(h0:0<=a)(h1:a<L.length)(hL:L.length<=50)(hg:∀p∈L,∃w,p=.str w/\32∉w.cps.toList/\w.length<=56)(hS:SL.length=25)(LH:∀p∈SL,gd p)(o:l.Ok)
include s h0 h1 hL hg hS LH o in
theorem Vbv:OG k C l.P d a SL (z6 (jB k l.P n d a SL y) Cx):=by
 have e:=λi=>Z4 k l.P n d a SL y i Cx;have el:=ZH k l.P n d a SL y Cx;ext z6;by_cases c0:d=0
 .rw[nP (by rw[e,eF c0])];show vw0 s h0 h1 hL hg
 rw[nQ (by rw[e,dm c0])];by_cases c1:d=1
 .rw[nP (by rw[e,eF c1])];show vw1 s h0 h1 hL hg
 rw[nQ (by rw[e,dm c1])];by_cases c2:d=2
 .rw[nP (by rw[e,eF c2])];show vw2 s h0 h1 hL hg
 rw[nQ (by rw[e,dm c2])];by_cases c3:d<6
 .rw[nP (by rw[el,eF c3])];show vw3 s h0 h1 hL hg hS LH
 rw[nQ (by rw[el,dm c3])];by_cases c5:d=6
 .rw[nP (by rw[e,eF c5])];show vw5 s h0 h1 hL hg hS LH
 rw[nQ (by rw[e,dm c5])];by_cases c6:d=7
 .rw[nP (by rw[e,eF c6])];show vw6 s h0 h1 hL hg
 rw[nQ (by rw[e,dm c6])];by_cases c7:d=8
 .rw[nP (by rw[e,eF c7])];show vw7 s h0 h1 hL hg
 rw[nQ (by rw[e,dm c7])];show vw9 s hL (yW hg) o
end
noncomputable def OH:List PV:=[.str "0",.str "01",.str "-1",.str "12",.str "9",.str "",.str "x",.str "X",.str "a1",.str "abcdefghijklm",.str "bell",.str "got",.str "after",.str "at",.str "5:",.str "to"]
noncomputable def S7:List PV:=[.str "a.b",.str "a.b.0",.str "a.b.c",.str "a.b.1.2",.str "A.b.1",.str "a..1",.str "a.b.01"]
theorem z9:∀{L:List PV},(∀p∈L,gd p)->∃ws:List Str,L=ws.map .str/\∀w∈ws,QB w
 |[],_=>#[[],rfl,by simp]
 |p::L,h=>by
  let#[ws,rfl,hw]:=z9 (L:=L) λq hq=>h q (by simp[hq]);have:=h p 3e7;cases p with
  |str w=>show#[w::ws,rfl,λz hz=>(Ye.mp hz).elim (λe=>e▸this) (hw z)]
  |_=>show this.elim
theorem ye(k:Nat)(C:Cs)(g:GS C k){l:Lt}(o:l.Ok):
  ∃(ws:2e2)(C':Cs),rQ [.c k,.v l.P] C=ae (.v (.lst 4e2),C')/\ws.length<=60/\(∀w∈ws,QB w)/\lB k C C':=by
 have hk:k<C.length:=Br g;have e1:=ZbT o C;let#[hn1,hn2]:=P7 o;have hL:(l.W.map PV.str).length<=50:=by rw[Yk];show hn2
 have hL1:1<=(l.W.map PV.str).length:=by rw[Yk];show hn1
 have hg:∀p∈l.W.map PV.str,∃w,p=.str w/\32∉w.cps.toList/\w.length<=56:=λp hp=>by
  let#[w,hw,rfl]:=YV.mp hp;have:=VcT o w hw;show#[w,rfl,this.1,this.2.2]
 have hj:iz (.str ".") [.lst (cG (l.W.map PV.str) af (ae 3))]=ae (.str l.x.T):=by
  have hc:cG (l.W.map PV.str) af (ae 3)=[.str l.x.h,.str l.x.d,.str (c8 l.x.n)]:=by
   rw[←ud];show(VaM _ 3).trans rfl
  have h1:=LQ o.x.h;have h2:=LQ o.x.d;have h3:=ZcI (n:=l.x.n) (by have:=o.x.n0;lia) o.x.n1;rw[hc];show wo ⟨(List.toArray [46])⟩ [l.x.h,l.x.d,c8 l.x.n] (by simp[Str.length]at *;lia)
 have hjg:gd (.str l.x.T):=by
  have:=nS (p:=.nm l.x) o.x;show#[this.1,by have:=this.2.2;change l.x.T.length<=57;show YC this 2e7]
 let L:=l.W.map PV.str;let jt:=l.x.T;have s0:SI k C (C++[.lst L]) C.length L:=#[by rw[List.take_left];show lB.refl g,by simp,Yo _,by
  let#[x,y,e,q]:=g;show#[x,y,by rw[Yu hk];show e,q],hk]
 let#[d,C1,e2,b1,b2,l1,s1]:=s0.pick 10 2e7;let#[a,C2,e3,b3,b4,l2,s2]:=s1.pick (L.length:Int) 3e5;have VcM:0<L.length:=by lia
 have hix:dN (.lst L) (.int (-1))=ae L[L.length-1]:=by
  change eo L (-1)=_;ext eo;rw[HC VcM];change L[L.length-1]? = _;rw[Yd]
 have jL:=yW hg _ (XU (show L.length-1<L.length by lia));let la:=L[L.length-1];have hS:(OH++(PV.str jt::(S7++[la]))).length=25:=rfl;have LH:∀p∈OH++(PV.str jt::(S7++[la])),gd p:=λp hp=>by
  rcases YZ.mp hp with hp|hp
  .show QA (YE.mp (show OH.all gdB=ag by decide +kernel) p hp)
  .rcases Ye.mp hp with rfl|hp
   .show hjg
   .rcases YZ.mp hp with hp|hp
    .show QA (YE.mp (show S7.all gdB=ag by decide +kernel) p hp)
    .have:p=la:=by simpa using hp
     rw[this];show jL
 have Vad:=s1.at';have VeY:=s2.at';let#[n',C3,L',y',t6,s3,hl6,hg6]:=Vbv (d:=d) (SL:=OH++(PV.str jt::(S7++[la]))) (y:=none) s2 b3 b4 hL hg hS LH o;let cl:=l.P;have t1:z1 [7e7,#[cl],af,af,af,af,af] C=ae (.nx [7e7,#[cl],7e9,af,af,af,af],C++[.lst L]):=by
  simp![z1,gg,e1]
 have t2:z2 [7e7,#[cl],7e9,af,af,af,af] (C++[.lst L])=ae (.nx [7e7,#[cl],7e9,#[.int d],af,af,af],C1):=by
  simp![z2,e2]
 have t3:z3 [7e7,#[cl],7e9,#[.int d],af,af,af] C1=ae (.nx [7e7,#[cl],7e9,#[.int d],#[.int a],af,af],C2):=by
  simp![z3,Vad,e3]
 have t4:z4 [7e7,#[cl],7e9,#[.int d],#[.int a],af,af] C2=ae (.nx [7e7,#[cl],7e9,#[.int d],#[.int a],#[.lst OH],af],C2):=by rfl
 have t5:z5 [7e7,#[cl],7e9,#[.int d],#[.int a],#[.lst OH],af] C2=ae (.nx (jB k cl C.length d a (OH++(PV.str jt::(S7++[la]))) af),C2):=by
  have VeR:OH.length=16:=rfl;unfold jB S7;let SS:=OH;simp![z5,jh,yF,VeY,hix,hj,fm,VeR]
 let#[ws,rfl,hws]:=z9 hg6;have run:Cy [7e7,#[cl],af,af,af,af,af] C=ae (.rt (.c n'),C3):=by
  rw[CP];show(dw t1).trans ((dw t2).trans ((dw t3).trans ((dw t4).trans ((dw t5).trans ((dw t6).trans rfl)))))
 show#[ws,C3.take C.length,?_,by simpa using hl6,hws,s3.Q4];have VeX:=s3.at';have hn3:=s3.n;have hn4:¬n'<C.length:=by lia
 ext rQ;let bl:=Cy;sleep 11;simp![run,hn4,VeX]
def smE(Z:List SV->M SV):aM->M SV:=bw Z (ak 1e4 5e6)
theorem Zdf(n:Nat)(k:Str)(C:Cs):dU (n+1) [.v (.str k),.v (.str k)] C=ae (.v 10e8,C):=by
 simp![dU]
theorem Zcm(n:Nat)(k:Int)(C:Cs):dU (n+1) [.v (.int k),.v (.int k)] C=ae (.v 10e8,C):=by
 simp![dU]
theorem Ag(n:Nat)(x:Nm)(C:Cs):dU (n+2) [.v x.P,.v x.P] C=ae (.v 10e8,C):=by
 have e1:=Zdf n x.h C;have e2:=Zdf n x.d C;have e3:=Zcm n x.n C;ext Nm.P;rw[dU];let Z:=dU (n+1);simp![br,jg,xO,bY,di,bN,eP,bf,hName,fZ,gq,e1,e2,e3,iC,iH]
theorem mV(hl:xs.length<=100000)(C:Cs)(h:∀x∈xs,dU n [.v x,.v x] C=ae (.v 10e8,C)):dU (n+1) [.v (.tup xs),.v (.tup xs)] C=ae (.v 10e8,C):=by
 have c1:=qP (g:=eP (bf 8e6 14e5) 2) (te:=smE (dU n)) (C:=C) (λρ=>ρ.length=2) (xs.map λx=>.tup [x,x]) (λz hz ρ hρ=>by
  let#[x,hx,rfl]:=YV.mp hz;have e:=h x hx
  match ρ,hρ with
  |[r1,r2],_=>show#[_,rfl,rfl,by simp[smE,bw,bP,ak,ao,aV,Pu.ret,e]]) [af,af] [] rfl
 have hz:xO bY [.v (.tup xs),.v (.tup xs)]=ae (xs.map λx=>.tup [x,x]):=by
  change ae (W7 (λa b=>PV.tup [a,b]) xs xs)=_;rw[List.zipWith_self]
 have h1:(xs.map λx=>PV.tup [x,x]).length<=100000:=by rw[Yk];show hl
 have z1:=all_true (xs.map λx=>PV.tup [x,x]);rw[dU];ext smE c1;ext Sd;let Z:=dU n;let te:=bw Z (ak 1e4 5e6);generalize(xs.map λx=>PV.tup [x,x])=ZP at *;generalize(ZP.map λ_=>PV.bl ag)=BP at *;let hh:=eP (bf 8e6 14e5) 2;simp![br,jg,hz,bY,di,h1,c1,z1]
def Rl.L(l:Rl):List PV:=[.str l.x.h,.str l.x.d,.int l.x.n,.int l.prev,.tup (l.cY.map Nm.P),.int l.time,fw l.ps]
theorem Mh(l:Rl)(h1:l.cY.length<=100000)(h2:l.ps.length<=100000)(C:Cs):dU 12 [.v (.tup l.L),.v (.tup l.L)] C=ae (.v 10e8,C):=by
 have hg:dU 11 [.v (.tup (l.cY.map Nm.P)),.v (.tup (l.cY.map Nm.P))] C=ae (.v 10e8,C):=mV (by rw[Yk];lia) C λx hx=>by
  let#[t,_,rfl]:=YV.mp hx;show Ag 8 t C
 have hd:dU 11 [.v (fw l.ps),.v (fw l.ps)] C=ae (.v 10e8,C):=mV (by rw[Yk];lia) C λx hx=>by
  let#[p,hp,rfl]:=YV.mp hx;cases p with
  |st k=>show Zdf 9 k C
  |num k=>show Zcm 9 k C
  |nm x=>show Ag 8 x C
 ext Rl.L;show mV 3e7 C λx hx=>?_
 erw[Ye,Yq,or_false]at hx
 rcases hx with rfl|rfl|rfl|rfl|rfl|rfl|rfl
 .show Zdf 10 _ C
 .show Zdf 10 _ C
 .show Zcm 10 _ C
 .show Zcm 10 _ C
 .show hg
 .show Zcm 10 _ C
 .show hd
theorem NH{l l':Rl}(h:kE l=ae l'){k:Str}{r:2e2}(d:DS k r l.ps):l'.cY.length<=100000/\l'.ps.length<=100000:=by
 let#[rfl,hB]:=HY h;unfold Rl.B nU at hB
 erw[Yl,g6]at hB
 show#[by have:=hB.2.2.1.1;lia,?_];cases hq:l'.ps with
 |nil=>simp
 |cons _ _=>rw[hq]at d;cases d<;>simp
theorem Mm{l:Rl}(h:f6 ws=ae l):l.cY.length<=100000/\l.ps.length<=100000:=by
 ext f6 h;split at h
 .split at h
  .ext kZ h
   split at h
   .cases h
   .split at h
    .cases h
    .ext dX h
     split at h
     .split at h
      .split at h
       .split at h
        .cases h
        .rename_i hq
         show NH h (Zca hq)
       .cases h
      .cases h
     .cases h
  .cases h
 .cases h
theorem CU{l:List PV}(h:(f6 ws).map Rl.L=ae l)(C:Cs):dU 12 [.v (.tup l),.v (.tup l)] C=ae (.v 10e8,C):=by
 cases hr:f6 ws with
 |none=>rw[hr]at h;cases h
 |some r=>
  rw[hr]at h;cases h;let#[a,b]:=Mm hr;show Mh r a b C
section
variable{d1 f1 f2 f3 f4 f5 d2 t0 t1 t2 t3 t4 t5 t6 t7 fr:Addr}(hf:2e0)(hd:7e8)
theorem Ss{x:PV}{l:List PV}(h:jv d1 f1 f2 f3 f4 f5 d2 t0 t1 t2 t3 t4 t5 t6 t7 [.v x] C=ae (.v (.tup l),C)):gY d1 f1 f2 f3 f4 f5 d2 t0 t1 t2 t3 t4 t5 t6 t7 fr [.v (.fn fr),.v x] C=ae (.v (.tup [.str "read",.tup l]),C):=by
 have hl:(Q9 d1 f1 f2 f3 f4 f5 d2 t0 t1 t2 t3 t4 t5 t6 t7 fr).lookup fr=ae (jv d1 f1 f2 f3 f4 f5 d2 t0 t1 t2 t3 t4 t5 t6 t7):=by simp[Q9]
 unfold gY Ex.orM Cv;let FT:=Q9 d1 f1 f2 f3 f4 f5 d2 t0 t1 t2 t3 t4 t5 t6 t7 fr;let FR:=jv d1 f1 f2 f3 f4 f5 d2 t0 t1 t2 t3 t4 t5 t6 t7;simp![k6,qU,hl,h,gv]
theorem E4{x:PV}(h:jv d1 f1 f2 f3 f4 f5 d2 t0 t1 t2 t3 t4 t5 t6 t7 [.v x] C=af)(hr:dJ d1 f1 f2 f3 f4 f5 d2 t0 t1 t2 t3 t4 t5 t6 t7 [.v x] C):gY d1 f1 f2 f3 f4 f5 d2 t0 t1 t2 t3 t4 t5 t6 t7 fr [.v (.fn fr),.v x] C=ae (.v (.tup [.str "none",.aS]),C):=by
 have hl:(Q9 d1 f1 f2 f3 f4 f5 d2 t0 t1 t2 t3 t4 t5 t6 t7 fr).lookup fr=ae (jv d1 f1 f2 f3 f4 f5 d2 t0 t1 t2 t3 t4 t5 t6 t7):=by simp[Q9]
 have h2:cK 2 3 (Cv d1 f1 f2 f3 f4 f5 d2 t0 t1 t2 t3 t4 t5 t6 t7 fr) [.v (.fn fr),.v x] C=af:=by
  ext Cv;let FT:=Q9 d1 f1 f2 f3 f4 f5 d2 t0 t1 t2 t3 t4 t5 t6 t7 fr;let FR:=jv d1 f1 f2 f3 f4 f5 d2 t0 t1 t2 t3 t4 t5 t6 t7;simp![k6,qU,hl,h]
 have h3:Ex.qy (Zcn d1 f1 f2 f3 f4 f5 d2 t0 t1 t2 t3 t4 t5 t6 t7 fr) [.v (.fn fr),.v x] C=ae (.v (.tup [.str "none",.aS]),C):=by
  ext Ex.qy;dsimp only;rw[aE #[_,by simp[Zcn],hr]]
 unfold gY Ex.orM;rw[h2];show h3
def zW(ws:2e2):PV:=match f6 ws with
 |some l=>.tup [.str "read",.tup l.L]
 |none=>.tup [.str "none",.aS]
include hf hd in
theorem sd(h:Rb z ws)(C:Cs):gY d1 f1 f2 f3 f4 f5 d2 t0 t1 t2 t3 t4 t5 t6 t7 fr [.v (.fn fr),.v (.str z)] C=ae (.v (zW ws),C):=by
 have e:=Zdg (d1:=d1) (d2:=d2) hf hd h C;ext zW;cases hr:f6 ws with
 |some l=>rw[hr]at e;show Ss e
 |none=>rw[hr]at e;show E4 e (sy hf hd h hr C)
theorem Sr{x:PV}(hx:HF x "str"=ae ah)(C:Cs):gY d1 f1 f2 f3 f4 f5 d2 t0 t1 t2 t3 t4 t5 t6 t7 fr [.v (.fn fr),.v x] C=ae (.v (.tup [.str "none",.aS]),C):=by
 have hi:gu [x,.ty "str"]=ae 9e3:=by ext gu;simp[hx]
 have hw:jO [.v x] C=af:=by
  have hd:cB (g1 gu) (ak 1e4 17e4) [#[x]] C=ae (.v 9e3,C):=by
   unfold cB ak ao aV mC;simp[bP,Pu.ret,i7,g1,gy,cE,hi]
  unfold jO R6;let te:=cB (g1 gu) (ak 1e4 17e4);simp![hd,Em]
 have s1:r1 [#[x],af,af,af,af,af,af,af] C=af:=by simp![r1,hw]
 show E4 ?_ ?_
 .have run:xI d1 f1 f2 f3 f4 f5 d2 t0 t1 t2 t3 t4 t5 t6 t7 [#[x],af,af,af,af,af,af,af] C=af:=by
   rw[Ai];show rm s1
  ext jv;let bb:=xI d1 f1 f2 f3 f4 f5 d2 t0 t1 t2 t3 t4 t5 t6 t7;simp![run]
 .rw[ve]
  show#[rfl,.inl #[[.v x],rfl,CF x hi C]]
noncomputable def tU (ws:2e2):List PV:=[.str "",.str " ",.str "\n",.aS,.int 5,.bl ag,.lst 4e2,.tup 4e2,.gH [] []]
theorem VbA:Rb "" []:=#[by decide +kernel,by decide +kernel,by decide,by simp]
theorem Vbz:Rb " " []:=#[by decide +kernel,by decide +kernel,by decide,by simp]
theorem Vby:Rb "\n" ["\n"]:=#[by decide +kernel,by decide +kernel,by decide,by simp;decide +kernel]
include hf hd in
theorem E5(hp:p∈tU ws)(C:Cs):gY d1 f1 f2 f3 f4 f5 d2 t0 t1 t2 t3 t4 t5 t6 t7 fr [.v (.fn fr),.v p] C=ae (.v (.tup [.str "none",.aS]),C):=by
 ext tU hp
 erw[Ye,Yq,or_false]at hp
 rcases hp with rfl|rfl|rfl|rfl|rfl|rfl|rfl|rfl|rfl
 .show sd hf hd VbA C
 .show sd hf hd Vbz C
 .rw[sd hf hd Vby C]
  rfl
 all_goals show Sr 1e0 C
end
theorem tE:∀(xs:2e2)(ρ0:11e4)(ys:List PV)(C:Cs),bN 8e6 (aH (aD 1e9 1e4 18e2)) 1e4 (xs.map .str) [ρ0] ys C=ae (ys++(xs.filter kh).map .str,C)
 |[],ρ0,ys,C=>by simp[bN,Pu.ret]
 |x::xs,ρ0,ys,C=>by
  by_cases hx:x=""
  .subst hx
   have e:=tE xs #[.str ""] ys C;have hn:kh ""=ah:=rfl;generalize hs:xs.map PV.str=XS at *;have step:aH (aD 1e9 1e4 18e2) [#[.str ""]] C=ae (ah,C):=by simp![QM]
   rw[WC,hn,Yi,hs];let te:=aH (aD 1e9 1e4 18e2);simp[bN,hName,bP,Pu.ret,step,e]
  .have e:=tE xs #[.str x] (ys++[.str x]) C
   have hn:kh x=ag:=by
    ext kh
    erw[g6]
    intro q;show hx (ZcD (by rw[B0]at q;rw[YN q];rfl))
   generalize hs:xs.map PV.str=XS at *;simp![QM,bN,hName,hn,hx,hs,e]
theorem G6(ws:2e2):(ws.map (·.cps.toList)).filter nz=(ws.filter kh).map (·.cps.toList):=by
 induction ws with
 |nil=>rfl
 |cons w r ih=>
  have:kh w=nz w.cps.toList:=by
   unfold kh nz;rw[B0];cases w.cps.toList<;>simp
  rw[Yi,WC,WC,this];split
  .rw[ih];rfl
  .show ih
theorem Sg(hz:uK 32 z.cps.toList=(ws.map (·.cps.toList)).filter nz)(hl:z.length<=90000)(hn:ws.length<=60)(hw:∀w∈ws,QB w):Rb z (ws.filter kh):=by
 show#[hl,tG z 32 _ (by rw[hz,G6]),?_,λw hq=>?_]
 .have:=List.length_filter_le kh ws
  lia
 .have:=(hw w (Um.mp hq).1).2
  lia
section
variable{d1 f1 f2 f3 f4 f5 d2 t0 t1 t2 t3 t4 t5 t6 t7 fr:Addr}(hf:2e0)(hd:7e8)
def fC:aM->M 5e5:=br (bu 9e2) 13e3 [] 8e6 (aH (aD 1e9 1e4 18e2)) 1e4
def b1:aM->M PF:=gg 2 (pG kg (ak 1e4 5e6))
def b2:aM->M PF:=bg 3 (bw rQ (ak 6e1 (ak (bw rR 12e3) ao)))
def b3:aM->M PF:=bg 4 (bw oO (ak (bh fC) ao))
def b4:aM->M PF:=bg 5 (bw rP (ak 6e1 (ak 9e2 ao)))
def tt5(d1 f1 f2 f3 f4 f5 d2 t0 t1 t2 t3 t4 t5 t6 t7 fr:Addr):aM->M PF:=fQ (bw (gY d1 f1 f2 f3 f4 f5 d2 t0 t1 t2 t3 t4 t5 t6 t7 fr) (ak (mC (.fn fr)) (ak (aV 5) ao))) (eP (bf (hName 7) (bf (hName 8) fZ)) 2)
def c5a:aM->M Bool:=aH (aD 1e9 (aV 7) (aD 3e3 (bh (bQ (ak (mC (.str "read")) (ak (mC (.str "none")) ao)))) (cB (g1 iA) (ak (aD (g2 gv) 6e9 11e2) ao))))
def c5b:aM->M Bool:=d8 (aH (aD (g2 kr) 6e9 11e2)) (dG (eM (bw (dU 12) (ak (aV 8) (ak 6e9 ao)))))
def i5:aM->M PF:=bx (dY c5a c5b) (bj (mC 9e3)) bo
def b5(d1 f1 f2 f3 f4 f5 d2 t0 t1 t2 t3 t4 t5 t6 t7 fr:Addr):aM->M PF:=ix (cN (ak 4e5 ao)) (hName 6) (aC (tt5 d1 f1 f2 f3 f4 f5 d2 t0 t1 t2 t3 t4 t5 t6 t7 fr) i5)
def b6:aM->M PF:=bg 9 (bh (bQ (ak 18e2 (ak (mC (.str " ")) (ak (mC (.str "\n")) (ak 11e2 (ak (mC (.int 5)) (ak (mC 10e8) (ak 9e2 (ak (cB (g1 g9) (ak 9e2 ao)) (ak nD ao)))))))))))
def c7c(d1 f1 f2 f3 f4 f5 d2 t0 t1 t2 t3 t4 t5 t6 t7 fr:Addr):aM->M Bool:=aH (aD 1e9 (aD 3e3 (bw (gY d1 f1 f2 f3 f4 f5 d2 t0 t1 t2 t3 t4 t5 t6 t7 fr) (ak (mC (.fn fr)) (ak (aD 3e3 (aV 9) (bw cL (ak 6e1 (ak (mC (.int 9)) ao)))) ao))) 2e6) (mC (.str "none")))
def bb(d1 f1 f2 f3 f4 f5 d2 t0 t1 t2 t3 t4 t5 t6 t7 fr:Addr):aM->M PF:=aC b1 (aC b2 (aC b3 (aC b4 (aC (b5 d1 f1 f2 f3 f4 f5 d2 t0 t1 t2 t3 t4 t5 t6 t7 fr) (aC b6 (bx (c7c d1 f1 f2 f3 f4 f5 d2 t0 t1 t2 t3 t4 t5 t6 t7 fr) (bj (mC 9e3)) bo))))))
def lR:aM->M 5e5:=cN (ak (aD 8e5 1e8 (cB (g1 Dy) (ak (mC (.int 30)) (ak 5e2 ao)))) ao)
theorem ZM:CB d1 f1 f2 f3 f4 f5 d2 t0 t1 t2 t3 t4 t5 t6 t7 fr=aC (ix lR (hName 1) (bb d1 f1 f2 f3 f4 f5 d2 t0 t1 t2 t3 t4 t5 t6 t7 fr)) (bj (mC 10e8)):=rfl
noncomputable def tO (o:Option 5e5):PV:=match o with
 |some l=>.tup [.str "read",.tup l]
 |none=>.tup [.str "none",.aS]
noncomputable def dO (o:Option 5e5):PV:=match o with
 |some l=>.tup l
 |none=>.aS
theorem L3(o:Option 5e5)(hs:∀l,o=ae l->∀C,dU 12 [.v (.tup l),.v (.tup l)] C=ae (.v 10e8,C))(T:PV)(hT:T=tO o)(D:PV)(hD:D=dO o)(z:Str)(ht:∀C,gY d1 f1 f2 f3 f4 f5 d2 t0 t1 t2 t3 t4 t5 t6 t7 fr [.v (.fn fr),.v (.str z)] C=ae (.v T,C))(y0 y1 y2 y3 y6 y7 y8 y9:11e4)(C:Cs):
  ∃w7 w8,aC (tt5 d1 f1 f2 f3 f4 f5 d2 t0 t1 t2 t3 t4 t5 t6 t7 fr) i5 [y0,y1,y2,y3,#[D],#[.str z],y6,y7,y8,y9] C=ae (.nx [y0,y1,y2,y3,#[D],#[.str z],y6,w7,w8,y9],C):=by
 have e:=ht C;cases o with
 |some l=>
  erw[tO,dO]at hT hD
  subst hT hD;have e2:=hs l rfl C;show#[#[.str "read"],#[.tup l],?_];rw[dw (ρ1:=[y0,y1,y2,y3,#[.tup l],#[.str z],y6,#[.str "read"],#[.tup l],y9]) (C1:=C) (by
   ext tt5;let FT:=gY d1 f1 f2 f3 f4 f5 d2 t0 t1 t2 t3 t4 t5 t6 t7 fr;simp![fQ,e,eP,bf,hName,fZ])]
  show EI ?_;have a1:c5a [y0,y1,y2,y3,#[.tup l],#[.str z],y6,#[.str "read"],#[.tup l],y9] C=ae (ah,C):=by
   simp![c5a,QM,gv,iA,dN,fW,eo,dW]
  have a2:c5b [y0,y1,y2,y3,#[.tup l],#[.str z],y6,#[.str "read"],#[.tup l],y9] C=ae (ah,C):=by
   ext c5b;let FS:=dU 12;simp![kr,e2]
  unfold dY bP;rw[a1];show a2
 |none=>
  erw[tO,dO]at hT hD
  subst hT hD;show#[#[.str "none"],#[.aS],?_];rw[dw (ρ1:=[y0,y1,y2,y3,#[.aS],#[.str z],y6,#[.str "none"],#[.aS],y9]) (C1:=C) (by
   ext tt5;let FT:=gY d1 f1 f2 f3 f4 f5 d2 t0 t1 t2 t3 t4 t5 t6 t7 fr;simp![fQ,e,eP,bf,hName,fZ])]
  show EI ?_;have a1:c5a [y0,y1,y2,y3,#[.aS],#[.str z],y6,#[.str "none"],#[.aS],y9] C=ae (ah,C):=by
   simp![c5a,QM,gv,iA,dN,fW,eo,dW]
  have a2:c5b [y0,y1,y2,y3,#[.aS],#[.str z],y6,#[.str "none"],#[.aS],y9] C=ae (ah,C):=by
   simp![c5b,kr]
  unfold dY bP;rw[a1];show a2
include hf hd in
theorem Vdf(ns:List Int)(i:Int)(h1:0<=i)(h2:i<=1000)(x2 x3 x4 x5 x6 x7 x8 x9:11e4)(C:Cs):∃y2 y3 y4 y5 y6 y7 y8 y9 C',bb d1 f1 f2 f3 f4 f5 d2 t0 t1 t2 t3 t4 t5 t6 t7 fr [#[.lst (ns.map .int)],#[.int i],x2,x3,x4,x5,x6,x7,x8,x9] C=ae (.nx [#[.lst (ns.map .int)],#[.int i],y2,y3,y4,y5,y6,y7,y8,y9],C'):=by
 let#[x,y,e1,hy]:=M9 ns i C h1 h2;have g0:GS (C++[.lst [.int x,.int y]]) C.length:=#[x,y,by simp,hy]
 let#[l,C1,e2,ho,a1]:=yL C.length (C++[.lst [.int x,.int y]]) g0;let#[ws,C2,e3,hn,hw,a2]:=ye C.length C1 a1.gs ho;let#[z,C3,e5,hz,hzl,a3]:=E6 C.length C2 a2.gs ws hn hw;have wk:=Sg hz hzl hn hw;have e4:=VaD (ws.filter kh) wk.n wk.w C2;have ht:=sd (d1:=d1) (d2:=d2) (fr:=fr) hf hd wk;let#[d,C4,e6,hd0,hd1,a4]:=uc C.length 9 C3 a3.gs 2e7;let#[p,hp,e7]:=zD (tU ws) d hd0 (by simpa[tU]using hd1);have e8:=E5 (d1:=d1) (d2:=d2) (fr:=fr) hf hd hp C4;have tn:=L3 (d1:=d1) (d2:=d2) (f1:=f1) (f2:=f2) (f3:=f3) (f4:=f4) (f5:=f5) (t0:=t0) (t1:=t1) (t2:=t2) (t3:=t3) (t4:=t4) (t5:=t5) (t6:=t6) (t7:=t7) (fr:=fr) ((f6 (ws.filter kh)).map Rl.L) (λl hl C=>CU hl C) (zW (ws.filter kh)) (by unfold zW tO;cases f6 (ws.filter kh)<;>rfl) (Ea (ws.filter kh)) (by unfold Ea dO;cases f6 (ws.filter kh)<;>rfl) z ht;have k3:=tE ws af [] C2;have hWl:(ws.map PV.str).length<=100000:=by simp;lia
 have Vfo:(ws.map PV.str).length<=1000000:=by lia
 rw[XA]at k3;let NS:=ns.map PV.int;let CL:=l.P;generalize hDV:Ea (ws.filter kh)=DV at *;have s1:b1 [#[.lst NS],#[.int i],x2,x3,x4,x5,x6,x7,x8,x9] C=ae (.nx [#[.lst NS],#[.int i],7e9,x3,x4,x5,x6,x7,x8,x9],C++[.lst [.int x,.int y]]):=by
  simp![b1,gg,e1]
 have s2:b2 [#[.lst NS],#[.int i],7e9,x3,x4,x5,x6,x7,x8,x9] (C++[.lst [.int x,.int y]])=ae (.nx [#[.lst NS],#[.int i],7e9,#[.lst 4e2],x4,x5,x6,x7,x8,x9],C2):=by
  sleep 11;simp![b2,e2,e3]
 have sC:fC [#[.lst NS],#[.int i],7e9,#[.lst 4e2],x4,x5,x6,x7,x8,x9] C2=ae ((ws.filter kh).map .str,C2):=by
  have hi:bu 9e2 [#[.lst NS],#[.int i],7e9,#[.lst 4e2],x4,x5,x6,x7,x8,x9] C2=ae (ws.map .str,C2):=rfl;unfold fC br;ext bP;rw[hi];dsimp only;rw[aE hWl];show k3
 have s3:b3 [#[.lst NS],#[.int i],7e9,#[.lst 4e2],x4,x5,x6,x7,x8,x9] C2=ae (.nx [#[.lst NS],#[.int i],7e9,#[.lst 4e2],#[DV],x5,x6,x7,x8,x9],C2):=by
  ext b3;let te:=fC;generalize(ws.filter kh).map PV.str=WF at *;sleep 11;simp![sC,e4]
 have s4:b4 [#[.lst NS],#[.int i],7e9,#[.lst 4e2],#[DV],x5,x6,x7,x8,x9] C2=ae (.nx [#[.lst NS],#[.int i],7e9,#[.lst 4e2],#[DV],#[.str z],x6,x7,x8,x9],C3):=by
  sleep 11;simp![b4,e5]
 let#[w7,w8,q1]:=tn #[.lst NS] #[.int i] (ae (.c C.length)) #[.lst 4e2] #[.int 0] x7 x8 x9 C3;let#[v7,v8,q2]:=tn #[.lst NS] #[.int i] (ae (.c C.length)) #[.lst 4e2] #[.int 1] w7 w8 x9 C3;have s5:b5 d1 f1 f2 f3 f4 f5 d2 t0 t1 t2 t3 t4 t5 t6 t7 fr [#[.lst NS],#[.int i],7e9,#[.lst 4e2],#[DV],#[.str z],x6,x7,x8,x9] C3=ae (.nx [#[.lst NS],#[.int i],7e9,#[.lst 4e2],#[DV],#[.str z],#[.int 1],v7,v8,x9],C3):=by
  ext b5;let te:=aC (tt5 d1 f1 f2 f3 f4 f5 d2 t0 t1 t2 t3 t4 t5 t6 t7 fr) i5;have hr:cN (ak 4e5 ao) [#[.lst NS],#[.int i],7e9,#[.lst 4e2],#[DV],#[.str z],x6,x7,x8,x9] C3=ae ([.int 0,.int 1],C3):=by rfl
  ext ix;rw[bP,hr];dsimp only
  erw[loop,hName,List.set,bP,q1,q2]
  rfl
 have s6:b6 [#[.lst NS],#[.int i],7e9,#[.lst 4e2],#[DV],#[.str z],#[.int 1],v7,v8,x9] C3=ae (.nx [#[.lst NS],#[.int i],7e9,#[.lst 4e2],#[DV],#[.str z],#[.int 1],v7,v8,#[.lst (tU ws)]],C3):=by
  ext tU;sleep 11;simp![b6,g9,nD]
 have s7:c7c d1 f1 f2 f3 f4 f5 d2 t0 t1 t2 t3 t4 t5 t6 t7 fr [#[.lst NS],#[.int i],7e9,#[.lst 4e2],#[DV],#[.str z],#[.int 1],v7,v8,#[.lst (tU ws)]] C3=ae (ah,C4):=by
  ext c7c;generalize gY d1 f1 f2 f3 f4 f5 d2 t0 t1 t2 t3 t4 t5 t6 t7 fr=FT at *;generalize tU ws=BL at *;sleep 11;have hx:dN (.tup [.str "none",.aS]) (.int 0)=ae (.str "none"):=rfl;simp![e6,e7,e8,hx,QM]
 show#[7e9,#[.lst 4e2],#[DV],#[.str z],#[.int 1],v7,v8,#[.lst (tU ws)],C4,?_];ext bb;rw[dw s1,dw s2,dw s3,dw s4,dw s5,dw s6,EI s7]
include hf hd in
theorem Ho(ns:List Int)(hn:ns.length<=63):Lf d1 f1 f2 f3 f4 f5 d2 t0 t1 t2 t3 t4 t5 t6 t7 fr [.v (.lst (ns.map .int))] []=ae (.v 10e8,[]):=by
 obtain⟨n,hr,hn2⟩:∃n:Nat,lR [#[.lst (ns.map .int)],af,af,af,af,af,af,af,af,af] []=ae ((YL n).map λ(q:Nat)=>PV.int (0+q),[])/\n<=100:=by
  have hlen:fG [.lst (ns.map .int)]=ae (.int (ns.length:Int)):=by simp[fG]
  let m:=ns.length;let NS:=ns.map PV.int;have hm:Dy [.int 30,.int (m:Int)]=ae (.int (if(m:Int)<30 then(m:Int)else 30)):=rfl;obtain⟨q,hq,LD⟩:∃q:Nat,(if(m:Int)<30 then(m:Int)else 30)=(q:Int)/\q<=30:=by
   split
   .show#[m,rfl,by lia]
   .show#[30,rfl,by lia]
  rw[hq]at hm;have hrg:jd [.v (.int (1+(q:Int)))]=ae ((YL (1+q)).map λ(q:Nat)=>PV.int (0+q)):=by
   ext jd;dsimp only;rw[aE 3e5,show(1+(q:Int)).toNat=1+q by lia]
  show#[1+q,?_,by lia];simp[lR,cN,ak,ao,mC,aD,cB,aV,bP,i7,Pu.ret,g1,g2,gy,cE,fm,hlen,hm,hrg]
 let#[ρ',D,e,hpi]:=vS (g:=hName 1) (f:=bb d1 f1 f2 f3 f4 f5 d2 t0 t1 t2 t3 t4 t5 t6 t7 fr) (λρ D=>∃x1 x2 x3 x4 x5 x6 x7 x8 x9,ρ=[#[.lst (ns.map .int)],x1,x2,x3,x4,x5,x6,x7,x8,x9]) ((YL n).map λ(q:Nat)=>PV.int (0+q)) (λz hz ρ D hh=>by
   let#[q,hq,rfl]:=YV.mp hz;have hq:=WW.mp hq;let#[x1,x2,x3,x4,x5,x6,x7,x8,x9,rfl]:=hh;let#[y2,y3,y4,y5,y6,y7,y8,y9,D',e]:=Vdf (d1:=d1) (d2:=d2) (fr:=fr) hf hd ns (0+(q:Int)) 3e5 3e5 x2 x3 x4 x5 x6 x7 x8 x9 D;show#[_,_,D',rfl,e,_,_,_,_,_,_,_,_,_,rfl]) [#[.lst (ns.map .int)],af,af,af,af,af,af,af,af,af] [] #[af,af,af,af,af,af,af,af,af,rfl]
 have s6:ix lR (hName 1) (bb d1 f1 f2 f3 f4 f5 d2 t0 t1 t2 t3 t4 t5 t6 t7 fr) [#[.lst (ns.map .int)],af,af,af,af,af,af,af,af,af] []=ae (.nx ρ',D):=by
  ext ix;rw[bP,hr];show e
 have run:CB d1 f1 f2 f3 f4 f5 d2 t0 t1 t2 t3 t4 t5 t6 t7 fr [#[.lst (ns.map .int)],af,af,af,af,af,af,af,af,af] []=ae (.rt (.v 10e8),D):=by
  rw[ZM,dw s6];rfl
 ext Lf;let bl:=CB d1 f1 f2 f3 f4 f5 d2 t0 t1 t2 t3 t4 t5 t6 t7 fr;let NS:=ns.map PV.int;simp![run]
end
noncomputable def Vaj:List Str:=List.map Ws ["is_number","is_number_below","is_row_of","is_word","is_clause_number","is_bare","is_of_word","is_of_clause","is_of_part","is_of_house","is_deed","is_letter_name","are_gots","is_letter","words_in","is_figures","need","words_of","read_number","read_name","read_prev","read_gots","read_deed","read_letter","_law_cell_at","_law_left","_law_pick","_law_number","_law_word","_law_name","_law_deed","_law_letter","_law_name_text","_law_letter_words","_law_text","_law_told","_law_same","_law_called","_law_whole","_law_named","_law_done","_law_due","_law_spoilt","law"]
def lC:List (Str×Stmt):=Vaj.zip (List.map top [6,7,8,9,12,13,14,15,16,17,19,20,21,22,31,32,35,36,37,38,39,40,41,42,44,45,46,47,48,49,50,51,52,53,54,55,56,57,58,59,60,61,62,63])
theorem SE:(recsOf qv).map Hd.four=lC.map Hd.HZ:=by kernel_rfl
theorem xt{P:Yy}(G:h.Ns Xb mg)(Y:hk.says w h)(m:∀a∈[164,127,140,152,176,163,126,124,123,117],a∈as)(base:Heap):Ex.OL P w (Hd.kf h as) mg base "NoLetter" "NoTown" "NoPile" "NoRow" 164:=
 Ex.NL (st:=Bj) (Hd.kf_at (Hd.dr Y.2 10 rfl rfl) (m _ 3e7)) (Hd.kf_at (Hd.dr Y.2 11 rfl rfl) (m _ 3e7)) (Hd.kf_at (Hd.dr Y.2 12 rfl rfl) (m _ 3e7)) (Hd.kf_at (Hd.dr Y.2 13 rfl rfl) (m _ 3e7)) (Hd.kf_at (Hd.dr Y.2 14 rfl rfl) (m _ 3e7)) (Hd.kf_at (Hd.dr Y.2 15 rfl rfl) (m _ 3e7)) (Hd.kf_at (Hd.dr Y.2 16 rfl rfl) (m _ 3e7)) 17e8 17e8 17e8 (Hd.kf_at (Hd.dr Y.2 17 rfl rfl) (m _ 3e7)) (by ext W.codeIn;dsimp only;rw[Hd.kf_at (Hd.dr Y.2 18 rfl rfl) (m _ 3e7)];rfl) (Hd.kf_at (Hd.dr Y.2 19 rfl rfl) (m _ 3e7)) rfl 1e1 17e9 17e9 rfl (λu=>#[_,rfl,rfl]) (Hd.fY G Y.1 0 rfl rfl) (Hd.fY G Y.1 1 rfl rfl) (Hd.fY G Y.1 2 rfl rfl) (Hd.fY G Y.1 3 rfl rfl) (Hd.fY G Y.1 4 rfl rfl) 2e7
theorem E7(G:h.Ns Xb mg)(Y:hk.says w h)(m:83∈as){bC:Addr}{bF:Addr}{bH:Addr}{bB:Addr}{bI:Addr}(e0:mg "is_bare"=ae (.ref bC))(e1:mg "is_of_word"=ae (.ref bF))(e2:mg "is_of_part"=ae (.ref bH))(e3:mg "is_of_clause"=ae (.ref bB))(e4:mg "is_of_house"=ae (.ref bI)):mg "DEEDS"=ae (.ref 83)/\TopD (Hd.kf h as) w 83 (ZbB bC bF bH bB bI):=by
 show#[Hd.fY G Y.1 5 rfl rfl,#[(wG w.params).toArray,8,Hd.kf_at (Hd.dr Y.2 0 rfl rfl) m,?_,?_],by decide]
 .repeat(first|show Wl|show And.intro #[_,_,rfl,rfl] ?_)
 .have q0:=(Hd.fY G Y.1 6 rfl rfl).symm.trans e0
  cases q0;have q1:=(Hd.fY G Y.1 7 rfl rfl).symm.trans e1;cases q1;have q2:=(Hd.fY G Y.1 8 rfl rfl).symm.trans e2;cases q2;have q3:=(Hd.fY G Y.1 9 rfl rfl).symm.trans e3;cases q3;have q4:=(Hd.fY G Y.1 10 rfl rfl).symm.trans e4;cases q4;repeat(first|show WV|show Wz #[rfl,rfl] ?_)
theorem oZ(G:h.Ns Xb mg)(Y:hk.says w h)(m:189∈as)(m0:190∈as)(m1:191∈as)(m2:192∈as)(m3:193∈as)(m4:194∈as)(m5:195∈as)(m6:196∈as)(m7:197∈as):mg "DEED_FORMS"=ae (.ref 189)/\TopD (Hd.kf h as) w 189 (LS 190 191 192 193 194 195 196 197)/\xx (Hd.kf h as) (KO 190 191 192 193 194 195 196 197)/\[190,191,192,193,194,195,196,197].Nodup:=by
 show#[Hd.fY G Y.1 11 rfl rfl,#[#[(Zcv w.params).toArray,8,Hd.kf_at (Hd.dr Y.2 1 rfl rfl) m,?_,?_],by decide],?_,by decide]
 .repeat(first|show Wl|show And.intro #[_,_,rfl,rfl] ?_)
 .repeat(first|show WV|show Wz #[rfl,rfl] ?_)
 .intro a xs e
  ext KO e;rw[Ym]at e;by_cases h0:a=190
  .subst h0;rw[beq_self_eq_true]at e;cases e
   show#[_,_,_,Hd.kf_at (Hd.dr Y.2 2 rfl rfl) m0,rfl,rfl,by decide,10e4,by decide]
  rw[beq_eq_false_iff_ne.mpr h0]at e;rw[Ym]at e;by_cases h1:a=191
  .subst h1;rw[beq_self_eq_true]at e;cases e
   show#[_,_,_,Hd.kf_at (Hd.dr Y.2 3 rfl rfl) m1,rfl,rfl,by decide,10e4,by decide]
  rw[beq_eq_false_iff_ne.mpr h1]at e;rw[Ym]at e;by_cases h2:a=192
  .subst h2;rw[beq_self_eq_true]at e;cases e
   show#[_,_,_,Hd.kf_at (Hd.dr Y.2 4 rfl rfl) m2,rfl,rfl,by decide,10e4,by decide]
  rw[beq_eq_false_iff_ne.mpr h2]at e;rw[Ym]at e;by_cases h3:a=193
  .subst h3;rw[beq_self_eq_true]at e;cases e
   show#[_,_,_,Hd.kf_at (Hd.dr Y.2 5 rfl rfl) m3,rfl,rfl,by decide,10e4,by decide]
  rw[beq_eq_false_iff_ne.mpr h3]at e;rw[Ym]at e;by_cases h4:a=194
  .subst h4;rw[beq_self_eq_true]at e;cases e
   show#[_,_,_,Hd.kf_at (Hd.dr Y.2 6 rfl rfl) m4,rfl,rfl,by decide,10e4,by decide]
  rw[beq_eq_false_iff_ne.mpr h4]at e;rw[Ym]at e;by_cases h5:a=195
  .subst h5;rw[beq_self_eq_true]at e;cases e
   show#[_,_,_,Hd.kf_at (Hd.dr Y.2 7 rfl rfl) m5,rfl,rfl,by decide,10e4,by decide]
  rw[beq_eq_false_iff_ne.mpr h5]at e;rw[Ym]at e;by_cases h6:a=196
  .subst h6;rw[beq_self_eq_true]at e;cases e
   show#[_,_,_,Hd.kf_at (Hd.dr Y.2 8 rfl rfl) m6,rfl,rfl,by decide,10e4,by decide]
  rw[beq_eq_false_iff_ne.mpr h6]at e;rw[Ym]at e;by_cases h7:a=197
  .subst h7;rw[beq_self_eq_true]at e;cases e
   show#[_,_,_,Hd.kf_at (Hd.dr Y.2 9 rfl rfl) m7,rfl,rfl,by decide,10e4,by decide]
  rw[beq_eq_false_iff_ne.mpr h7]at e;cases e
theorem hZ(E:Hd.FnAt K mg x st)(ps:2e2)(h:∀(kV doc pm:Value)(an:Option Addr)(cdv ct:Value)(us:4e4),us.length=ps.length->bindArgs (W.fnOf x x (L2.fh st) (L2.cO st) (L2.aK st) .none kV doc pm an cdv ct) #[us,[]]=pure (ps.zip us)):∃f fd,mg x=ae (.ref f)/\L2.eD K x x st f fd/\L2.Binds K fd ps []:=by
 let#[f,fd,m,N]:=E;show#[f,fd,m,N,N.binds h]
theorem ln0{P:List Value->Prop}(h:P []):∀us:List Value,us.length=0->P us:=by
 intro us hl;cases us with
 |nil=>show h
 |cons a r=>simp at hl
theorem jK{P:List Value->Prop}(h:∀a,P [a]):∀us:List Value,us.length=1->P us:=by
 intro us hl;cases us with
 |nil=>simp at hl
 |cons a r=>show ln0 (P:=λr=>P (a::r)) (h a) r (by simpa using hl)
theorem ln2{P:List Value->Prop}(h:∀a b,P [a,b]):∀us:List Value,us.length=2->P us:=by
 intro us hl;cases us with
 |nil=>simp at hl
 |cons a r=>show jK (P:=λr=>P (a::r)) (h a) r (by simpa using hl)
theorem ln3{P:List Value->Prop}(h:∀a b c,P [a,b,c]):∀us:List Value,us.length=3->P us:=by
 intro us hl;cases us with
 |nil=>simp at hl
 |cons a r=>show ln2 (P:=λr=>P (a::r)) (h a) r (by simpa using hl)
theorem all_mk{P:Yy}{fa:Addr}(hfa:mg "law"=ae (.ref fa))(T:Txt mg)
  (E:∀(i:Nat){x:Str}{st:Stmt},lC[i]? = ae (x,st)->Hd.FnAt K mg x st)
  {aX:Addr} (E8:∀{bC bF bH bB bI:Addr},mg "is_bare"=ae (.ref bC)->mg "is_of_word"=ae (.ref bF)->mg "is_of_part"=ae (.ref bH)->mg "is_of_clause"=ae (.ref bB)->mg "is_of_house"=ae (.ref bI)->mg "DEEDS"=ae (.ref aX)/\TopD K w aX (ZbB bC bF bH bB bI))
  {aB aA az ay ax aw av au ar:Addr} (o8:mg "DEED_FORMS"=ae (.ref aB)/\TopD K w aB 5e3/\xx K 5e4/\[aA,az,ay,ax,aw,av,au,ar].Nodup)
  {cX:Addr} (XT:∀base:Heap,Ex.OL P w K mg base "NoLetter" "NoTown" "NoPile" "NoRow" cX)
  :∃fd:WR,(∀(s:Shared)(v:Value),BindsTo s fd #[[v],[]] [("_law_script",v)])/\∀base:Heap,aO P w K mg base cu 14 fa fd ["_law_script"] (Hd.Fm K):=by
 let#[_,_,jf,Cd,zw]:=hZ (E 0 rfl) ["thing","least"] λ_ _ _ _ _ _=>ln2 λ_ _=>rfl;let#[_,_,nu,K0,Ki]:=hZ (E 1 rfl) ["thing","bound"] λ_ _ _ _ _ _=>ln2 λ_ _=>rfl;let#[_,_,jG,Cc,zv]:=hZ (E 2 rfl) ["thing","least","most"] λ_ _ _ _ _ _=>ln3 λ_ _ _=>rfl;let#[_,_,je,Cb,zu]:=hZ (E 3 rfl) 15e8 λ_ _ _ _ _ _=>jK λ_=>rfl;let#[_,_,jH,Ce,zx]:=hZ (E 4 rfl) 15e8 λ_ _ _ _ _ _=>jK λ_=>rfl;let#[_,_,AN,rD,VaZ]:=hZ (E 5 rfl) 15e9 λ_ _ _ _ _ _=>jK λ_=>rfl;let#[_,_,AH,rz,VaU]:=hZ (E 6 rfl) 15e9 λ_ _ _ _ _ _=>jK λ_=>rfl;let#[_,_,AK,rC,VaX]:=hZ (E 7 rfl) 15e9 λ_ _ _ _ _ _=>jK λ_=>rfl;let#[_,_,AI,rA,VaV]:=hZ (E 8 rfl) 15e9 λ_ _ _ _ _ _=>jK λ_=>rfl;let#[_,_,AJ,rB,VaW]:=hZ (E 9 rfl) 15e9 λ_ _ _ _ _ _=>jK λ_=>rfl;let#[_,_,AL,Rf,VaY]:=hZ (E 10 rfl) 15e8 λ_ _ _ _ _ _=>jK λ_=>rfl;let#[_,_,ny,K1,Kj]:=hZ (E 11 rfl) 15e8 λ_ _ _ _ _ _=>jK λ_=>rfl;let#[_,_,AO,Rg,Va0]:=hZ (E 12 rfl) ["thing","house","deal"] λ_ _ _ _ _ _=>ln3 λ_ _ _=>rfl;let#[_,_,nA,K2,Kk]:=hZ (E 13 rfl) 15e8 λ_ _ _ _ _ _=>jK λ_=>rfl;let#[_,_,qx,KZ,Kc]:=hZ (E 14 rfl) ["line"] λ_ _ _ _ _ _=>jK λ_=>rfl;let#[_,_,nB,K3,Kl]:=hZ (E 15 rfl) 13e1 λ_ _ _ _ _ _=>jK λ_=>rfl;let#[_,_,bq,f9,fj]:=hZ (E 16 rfl) ["holds"] λ_ _ _ _ _ _=>jK λ_=>rfl;let#[_,_,lF,B5,Kb]:=hZ (E 17 rfl) ["text"] λ_ _ _ _ _ _=>jK λ_=>rfl;let#[_,_,cU,jN,jl]:=hZ (E 18 rfl) 13e1 λ_ _ _ _ _ _=>jK λ_=>rfl;let#[_,_,lH,B7,Ke]:=hZ (E 19 rfl) 13e1 λ_ _ _ _ _ _=>jK λ_=>rfl;let#[_,_,lG,B6,Kd]:=hZ (E 20 rfl) 18e3 λ_ _ _ _ _ _=>jK λ_=>rfl;let#[_,_,lI,B9,Kg]:=hZ (E 21 rfl) 18e3 λ_ _ _ _ _ _=>jK λ_=>rfl;let#[_,_,lJ,Ca,Kh]:=hZ (E 22 rfl) 18e3 λ_ _ _ _ _ _=>jK λ_=>rfl;let#[_,_,nq,B8,Kf]:=hZ (E 23 rfl) ["text"] λ_ _ _ _ _ _=>jK λ_=>rfl;let#[_,_,vO,Rv,Vbd]:=hZ (E 24 rfl) 12e1 λ_ _ _ _ _ _=>ln2 λ_ _=>rfl;let#[_,_,AV,Rq,Va9]:=hZ (E 25 rfl) 12e1 λ_ _ _ _ _ _=>ln2 λ_ _=>rfl;let#[_,_,eR,lY,j9]:=hZ (E 26 rfl) ["_law_left_here","_law_many"] λ_ _ _ _ _ _=>ln2 λ_ _=>rfl;let#[_,_,lL,K6,Ko]:=hZ (E 27 rfl) 7e6 λ_ _ _ _ _ _=>jK λ_=>rfl;let#[_,_,lK,K4,Km]:=hZ (E 28 rfl) 7e6 λ_ _ _ _ _ _=>jK λ_=>rfl;let#[_,_,vM,Rn,Va6]:=hZ (E 29 rfl) 7e6 λ_ _ _ _ _ _=>jK λ_=>rfl;let#[_,_,A3,Ru,Vbc]:=hZ (E 30 rfl) 7e6 λ_ _ _ _ _ _=>jK λ_=>rfl;let#[_,_,AU,Rp,Va8]:=hZ (E 31 rfl) 7e6 λ_ _ _ _ _ _=>jK λ_=>rfl;let#[_,_,AS,Rm,Va5]:=hZ (E 32 rfl) 17e0 λ_ _ _ _ _ _=>jK λ_=>rfl;let#[_,_,vN,Ro,Va7]:=hZ (E 33 rfl) ["_law_letter_here"] λ_ _ _ _ _ _=>jK λ_=>rfl;let#[_,_,AQ,Ri,Va2]:=hZ (E 34 rfl) ["_law_left_here","_law_words"] λ_ _ _ _ _ _=>ln2 λ_ _=>rfl;let#[_,_,vK,Rh,Va1]:=hZ (E 35 rfl) ["_law_gone","_law_text_here"] λ_ _ _ _ _ _=>ln2 λ_ _=>rfl;let#[_,_,jI,K5,Kn]:=hZ (E 36 rfl) 12e6 λ_ _ _ _ _ _=>ln2 λ_ _=>rfl;let#[_,_,ku,K7,Kp]:=hZ (E 37 rfl) 13e3 λ_ _ _ _ _ _=>jK λ_=>rfl;let#[_,_,iR,Cf,zy]:=hZ (E 38 rfl) 17e6 λ_ _ _ _ _ _=>ln3 λ_ _ _=>rfl;let#[_,_,vL,Rk,Va4]:=hZ (E 39 rfl) ["_law_parts"] λ_ _ _ _ _ _=>jK λ_=>rfl;let#[_,_,AY,Rt,Vbb]:=hZ (E 40 rfl) ["_law_words"] λ_ _ _ _ _ _=>jK λ_=>rfl;let#[_,_,AX,Rr,Vba]:=hZ (E 41 rfl) ["_law_words"] λ_ _ _ _ _ _=>jK λ_=>rfl;let#[_,_,AR,Rj,Va3]:=hZ (E 42 rfl) ["_law_left_here","_law_letter_here"] λ_ _ _ _ _ _=>ln2 λ_ _=>rfl;let#[Vfk,IT,Vcu,Rw]:=E 43 rfl;let#[M4,jq]:=E8 AN AH AI AK AJ;let#[kx,cq,cp,pP]:=o8;have e:=hfa.symm.trans Vcu;cases e;have hb:∀(s:Shared)(v:Value),BindsTo s IT #[[v],[]] [("_law_script",v)]:=by
  let#[oc,od,kV,doc,pm,an,cdv,ct,osl,rfl,lk,me]:=Rw.ex;show λs v=>.of_eq rfl
 show#[IT,hb,λbase=>?_];have Li:=U1 (P:=P) (w:=w) (base:=base) T Cd;have RW:=U0 T Li jf Cd.kp zw K0;have Lh:=UU (P:=P) (w:=w) (base:=base) T Cc;have Lg:=UT (P:=P) (w:=w) (base:=base) T Cb;have Lj:=U6 T RW nu K0.kp Ki Ce;have Vdr:=U7 (P:=P) (w:=w) (base:=base) T rD;have Vdm:=UW T Lg je Cb.kp zu rz;have Vdp:=UZ T Lj jH Ce.kp zx rC;have Vdn:=UX T RW nu K0.kp Ki Lj jH Ce.kp zx rA;have Vdo:=UY T Lg je Cb.kp zu Lj jH Ce.kp zx rB;have Vdq:=U5 T M4 jq Vdr AN rD.kp VaZ Vdm AH rz.kp VaU Vdn AI rA.kp VaV Vdp AK rC.kp VaX Vdo AJ rB.kp VaW Rf;have RX:=U2 T Li jf Cd.kp zw Lg je Cb.kp zu Lh jG Cc.kp zv K1;have Vds:=U8 T Lh jG Cc.kp zv RX ny K1.kp Kj Rg;have RY:=U3 T Li jf Cd.kp zw Lh jG Cc.kp zv RX ny K1.kp Kj Vds AO Rg.kp Va0 Vdq AL Rf.kp VaY K2;have RO:=T4 (P:=P) (w:=w) (base:=base) T KZ;have RZ:=U4 (P:=P) (w:=w) (base:=base) T K3;have iO:=G3 T (XT base) f9;have gZ:=UR (P:=P) (w:=w) (base:=base) T f9;have xH:=sN T gZ bq f9.kp fj RO qx KZ.kp Kc iO B5;have RN:=T3 T gZ bq f9.kp fj RO qx KZ.kp Kc B5;have fq:=Zdn jN T RZ nB K3.kp Kl gZ bq f9.kp fj iO;have l9:=T6 T gZ bq f9.kp fj RZ nB K3.kp Kl jN;have ur:=pz T gZ bq f9.kp fj iO l9 cU jN.kp jl fq B7;have RQ:=T7 T gZ bq f9.kp fj l9 cU jN.kp jl B7;have uq:=pw T gZ bq f9.kp fj iO l9 cU jN.kp jl fq B6;have RP:=T5 T gZ bq f9.kp fj l9 cU jN.kp jl B6;have uu:=pA T gZ bq f9.kp fj iO RQ lH B7.kp Ke ur B9;have RU:=T9 T gZ bq f9.kp fj RQ lH B7.kp Ke B9;have uv:=pB T gZ bq f9.kp fj iO l9 cU jN.kp jl fq kx cq cp Ca;have RV:=T' T gZ bq f9.kp fj l9 cU jN.kp jl kx cq cp Ca;have oV:=Zdo B8 T RN lF B5.kp Kb gZ bq f9.kp fj l9 cU jN.kp jl RP lG B6.kp Kd RU lI B9.kp Kg RV lJ Ca.kp Kh RY nA K2.kp Kk xH iO fq uq uu uv;have RT:=T8 T gZ bq f9.kp fj l9 cU jN.kp jl RN lF B5.kp Kb RP lG B6.kp Kd RU lI B9.kp Kg RV lJ Ca.kp Kh RY nA K2.kp Kk B8;have VdE:=Zj (P:=P) (w:=w) (base:=base) T Rv;have Vbt:=MP T VdE vO Rv.kp Vbd Rq;have oU:=Za (P:=P) (w:=w) (base:=base) T lY;have R3:=Zb T oU eR lY.kp j9 K6;have R0:=U9 T oU eR lY.kp j9 K4;have Vdz:=Ze T R0 lK K4.kp Km R3 lL K6.kp Ko Rn;have VdD:=Zi T oU eR lY.kp j9 R0 lK K4.kp Km Ru;have VdA:=Zf T oU eR lY.kp j9 R3 lL K6.kp Ko Vdz vM Rn.kp Va6 VdD A3 Ru.kp Vbc Rp;have Vdy:=Zd (P:=P) (w:=w) (base:=base) T Rm;have Vbs:=MO T Vdy AS Rm.kp Va5 Ro;have Vdu:=W' T oU eR lY.kp j9 Ri;have Vdt:=V' T (XT base) RT nq B8.kp Kf oV Rh;have Vdw:=Y' (P:=P) (w:=w) (base:=base) K5 T jI K5.kp Kn;have R4:=Zk (P:=P) (w:=w) (base:=base) T K7;have Lk:=U' (P:=P) (w:=w) (base:=base) T Cf;have Vdx:=Zc T R4 ku K7.kp Kp Lk iR Cf.kp zy Rk;have VdC:=Zh T R4 ku K7.kp Kp Lk iR Cf.kp zy Rt;have VdB:=Zg T Lk iR Cf.kp zy Vdx vL Rk.kp Va4 VdC AY Rt.kp Vbb Rr;have Vdv:=X' T oU eR lY.kp j9 Vbs vN Ro.kp Va7 Rj;have VdF:=Zl T oU eR lY.kp j9 RT nq B8.kp Kf Vbt AV Rq.kp Va9 VdA AU Rp.kp Va8 Vdv AR Rj.kp Va3 VdB AX Rr.kp Vba Vdu AQ Ri.kp Va2 Vdt vK Rh.kp Va1 Vdw jI K5.kp Kn Rw;show VdF.imp (Hd.yf λns hl=>Ho #[(LK rD rz 2e7),(LK rD rA 2e7),(LK rD rC 2e7),(LK rD rB 2e7),(LK rz rA 2e7),(LK rz rC 2e7),(LK rz rB 2e7),(LK rA rC 2e7),(LK rA rB 2e7),(LK rC rB 2e7)] pP ns hl)
noncomputable def bl:List Str:=["ValueError","all","bool","enumerate","int","isinstance","len","max","min","range","sorted","str","tuple","zip"]
theorem tu:bl.all (λx=>!Hd.yO qv (W.looseW qv 14e0) x)=ag:=by kernel_rfl
end jz
open PySem PySem.W PyProof.Rows
set_option maxRecDepth 100000 in
set_option maxHeartbeats 0 in
theorem PySem.Challenge.cw_holdword_k81_no_letters_holds : PySem.Challenge.rw_holdword_k81_no_letters.Holds := by
 show holds_law jz.Tc λTc=>?_
 show holds_open (q:=jz.qv) (loose:=14e0) (Xt:=λs=>xlAt jz.qv [] s&&recOk [] s) (XP:=XL jz.qv []) (YP:=jz.hk.says) jz.hl (Hook.of jz.hk) (Hook.keeps jz.hk) (λs e=>xl_of s (Wg.mp e).1) XL.keeps (d:=⟨"law",L2.fh jz.qc,L2.cO jz.qc,L2.aK jz.qc,Hd.VaG jz.qc⟩) (kwd:=[]) 17e8 17e8 17e8 (λs e=>recFacts_of (Wg.mp e).2) 1e0 Tc 17e8 ⟨rfl,rfl,rfl,rfl,rfl,by decide +kernel⟩ ⟨[.list []],by decide +kernel,by decide +kernel⟩ ?_
 show Hd.walk (k:=14) rfl rfl ⟨rfl,by decide,by decide,rfl⟩ [83,189,190,191,192,193,194,195,196,197,164,127,140,152,176,163,126,124,123,117] λw s₀ mg mb h as G Y h0 A fa HJ=>?_
 show jz.all_mk HJ ⟨Hd.xZ (G.T.const "FIGURES" (.str "0123456789") 17e8),Hd.xZ (G.T.const "JUDGE" (.str "bell") 17e8),Hd.iG (G.T.const "LONGEST_WORD" (.int 12) 17e8),Hd.iG (G.T.const "MOST_CLAUSES" (.int 12) 17e8),Hd.iG (G.T.const "MOST_GOTS" (.int 30) 17e8),Hd.iG (G.T.const "MOST_PARTS" (.int 9) 17e8),Hd.xZ (G.T.const "SMALL_LETTERS" 9e7 17e8),Hd.gN G.T jz.tu 0 rfl,Hd.gN G.T jz.tu 1 rfl,Hd.gN G.T jz.tu 2 rfl,Hd.gN G.T jz.tu 3 rfl,Hd.gN G.T jz.tu 4 rfl,Hd.gN G.T jz.tu 5 rfl,Hd.gN G.T jz.tu 6 rfl,Hd.gN G.T jz.tu 7 rfl,Hd.gN G.T jz.tu 8 rfl,Hd.gN G.T jz.tu 9 rfl,Hd.gN G.T jz.tu 10 rfl,Hd.gN G.T jz.tu 11 rfl,Hd.gN G.T jz.tu 12 rfl,Hd.gN G.T jz.tu 13 rfl⟩ (λi=>Hd.VcY A jz.SE i) (jz.E7 G.T.g Y (h0 _ 3e7)) (jz.oZ G.T.g Y (h0 _ 3e7) (h0 _ 3e7) (h0 _ 3e7) (h0 _ 3e7) (h0 _ 3e7) (h0 _ 3e7) (h0 _ 3e7) (h0 _ 3e7) (h0 _ 3e7)) (λbase=>jz.xt G.T.g Y (λa ha=>h0 a (by erw[Ye,Yq,or_false]at ha⊢;simp[ha])) base)