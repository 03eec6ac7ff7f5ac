import PyProof.Rows.All
import Wide.All
import OpenK.AllK
import Wide.FinOn
import Lean
import PyProof.EqAt
import PyProof.EqKinds
import PyProof.TupleCall
import PyProof.DictCompW
import PySem.SetOps
import PyProof.SetScanFacts
import PyProof.SetKind
import PyProof.TupleKey
import PyProof.DictRoadsH
import PyProof.IsRules
import PyProof.Rows.SetFrom
import PyProof.WalksMore
import PyProof.NeKinds
import KE.KSortTup
import KE.KDictOf
import PyProof.DictFindH
import PyProof.AttrMissSeq
import KE.KDictList
import PyProof.CollectWalk
import PyProof.StrBlock2
import PyProof.SeqI3
import PyProof.EnumMake
import PyProof.WalksEnum
import PyProof.DictValues
import PyProof.DictWalks
import KE.KRevSl
import PyProof.ListMulAny
import PyProof.Rows.ListMul
import PyProof.Draws
import PyProof.Rows.IntBool
import KE.KRevIter
import PyProof.Rows.FStr
import PyProof.Rows.StrNews
import PyProof.Rows.StrSplitAre
import PyProof.CallStr
import KE.KIntText
import PyProof.AutoListH
import KE.KPairComp
import PySem.Challenge.RW_holdword_k31_rings_are_loose
noncomputable section
set_option hygiene false
local macro_rules
|`(tactic|ext $x:ident)=>`(tactic|unfold $x)
|`(tactic|ext $x:ident $h:ident)=>`(tactic|unfold $x at $h:ident)
local macro_rules
|`(tactic|show $t)=>`(tactic|refine $t)
local macro_rules
|`(1e0)=>`((by lia))
|`(1e1)=>`(Value->Shared->Prop)
|`(1e2)=>`((dZ X (vs++fs) scope C s₀ H₀ ex pn))
|`(1e3)=>`((model prog w))
|`(1e4)=>`((by rfl))
|`(1e5)=>`(Yt 4e4 X.env=(false,eval e X.env)::Yt es X.env)
|`(1e6)=>`(⟨rfl,rfl,rfl,by decide +kernel,rfl,by decide +kernel,by decide +kernel⟩)
|`(1e7)=>`((by decide))
|`(1e8)=>`(List (Addr×Obj))
|`(1e9)=>`(aq->M (List SV))
|`(2e0)=>`(Inv X pins σ H s)
|`(2e1)=>`(List Addr)
|`(2e2)=>`((model X.prog X.w))
|`(2e3)=>`(aq->M SV)
|`(2e4)=>`((backTo pos (Yt es X.env)).any (·.1)=false)
|`(2e5)=>`(Str->Option Value)
|`(2e6)=>`(List Value)
|`(2e7)=>`(PV->aq->Option aq)
|`(2e8)=>`((au 0))
|`(2e9)=>`((by simp))
|`(3e0)=>`((List PV))
|`(3e1)=>`((gT br 5e0 1e4 (@aK _ _ _ _ _ (ay 0) 8e6 1e4)))
|`(3e2)=>`((x==("__debug__":Str))=false)
|`(3e3)=>`((ls.map Lt.P))
|`(3e4)=>`(List Expr)
local macro_rules
|`(3e5)=>`((Or.inl rfl))
|`(3e6)=>`((bs.map λb=>.lst (dJ b)))
|`(3e7)=>`(Ans prog w A s κ it o)
|`(3e8)=>`(List (List Key×V))
|`(3e9)=>`(List Nat)
|`(4e0)=>`((au 1))
|`(4e1)=>`(aq->M Bool)
|`(4e2)=>`((.lst (ns.map .int)))
|`(4e3)=>`(List Str)
|`(4e4)=>`((e::es))
|`(4e5)=>`((List Key×Addr×Value))
|`(4e6)=>`((.gh ob (.dT ag)))
|`(4e7)=>`(X.fn x=true\/X.env.scope.names.lookup x=some .local)
|`(4e8)=>`(A.units<cLine)
|`(4e9)=>`((.ref s.heap.objs.size))
|`(5e0)=>`((hr.mono 1e7))
|`(5e1)=>`(X.calm=true)
|`(5e2)=>`(Nat->Nat->Bool)
|`(5e3)=>`((by decide +kernel))
|`(5e4)=>`(List (List Key))
|`(5e5)=>`((aa (au 3) af))
|`(5e6)=>`(X.A.units+64<cLine)
|`(5e7)=>`((au 2))
|`(5e8)=>`((by show⟨rfl,rfl,rfl,rfl,rfl,rfl,rfl⟩))
|`(5e9)=>`(A.handled=none)
local macro_rules
|`(6e0)=>`(Array (Int×Value))
|`(6e1)=>`(Bool->Shared->Prop)
|`(6e2)=>`(List (PV×Addr))
|`(6e3)=>`((by simp;lia))
|`(6e4)=>`(⟨_,Yg _ rfl,rfl,rfl⟩)
|`(6e5)=>`((ι++ι2))
|`(6e6)=>`((start t.mask (aN w k)))
|`(6e7)=>`((.head _))
|`(6e8)=>`(List Key)
|`(6e9)=>`((cb ak (aa 2e8 (aa (mC (.int 9)) af))))
|`(7e0)=>`(aq->M 3e0)
|`(7e1)=>`((.Call (.Name x p) 4e4 [] pos))
|`(7e2)=>`((aa 2e8 af))
|`(7e3)=>`(aq->M PF)
|`(7e4)=>`(Result->Shared->Prop)
|`(7e5)=>`((g2 gD))
|`(7e6)=>`((by simpa using h))
|`(7e7)=>`(CR K ι H C)
|`(7e8)=>`((g2 fJ))
|`(7e9)=>`((mC (.int 3)))
|`(8e0)=>`((mC (.int 1)))
|`(8e1)=>`(Lf X scope vs fs fr)
|`(8e2)=>`((k'==XG&&env.scope.kind==.function&&env.kindOf n==some .cell))
|`(8e3)=>`((Zay hr))
|`(8e4)=>`(Option Value->Shared->Prop)
local macro_rules
|`(8e5)=>`((λ_ _ _ _ _ _=>ln2 λ_ _=>rfl))
|`(8e6)=>`((@aK _ _ _ _ _ bD b6 1e4))
|`(8e7)=>`((.lst 3e3))
|`(8e8)=>`((@aK _ _ _ _ _ (ay 3) b6 1e4))
|`(8e9)=>`((@aK _ _ _ _ _ (ay 0) b6 1e4))
|`(9e0)=>`(⟨tg,iter,ifs,0⟩)
|`(9e1)=>`((au 5))
|`(9e2)=>`((KS ls R0 R1 x4 #[aH l] x6 #[aH q]))
|`(9e3)=>`(∀x,Y5 iter X.env x=pure x)
|`(9e4)=>`([.lst L])
|`(9e5)=>`((.lst ps))
|`(9e6)=>`((.inl rfl))
|`(9e7)=>`((.c C.length))
|`(9e8)=>`((apos.endLine==aV.line)=true)
|`(9e9)=>`(⟨rfl,I.turned (t':=s.toks) (λb o hb e=>eb b o hb e) f0 f1 f3 f4 f5⟩)
|`(10e0)=>`((.Call (.Attribute (.Name x p1) "setdefault" ap1) [e1,.List [] lp] [] O8))
|`(10e1)=>`((∀b∈fp,H' b=none))
|`(10e2)=>`(∀n∈p.toList,n<it.size)
|`(10e3)=>`((mC (.int 0)))
local macro_rules
|`(tactic|sleep 1)=>`(tactic|(intro X hP hw hK hc i pins s σ H E I hf st hg;subst hP hw hK))
|`(tactic|sleep 2)=>`(tactic|obtain⟨ι,ρ,C,fl,C',sr,e,d⟩:=h_)
|`(tactic|sleep 3)=>`(tactic|obtain⟨f0,f1,f2,f3,f4,f5⟩:=hf it 2e9)
|`(tactic|sleep 4)=>`(tactic|generalize DD ls=D at *)
|`(tactic|sleep 5)=>`(tactic|obtain⟨ι,ρ,C,z,C',sr,e,q⟩:=h_)
|`(tactic|sleep 6)=>`(tactic|dsimp only)
|`(tactic|sleep 7)=>`(tactic|intro pins s σ H x y v u Q I rx ry h)
|`(tactic|sleep 8)=>`(tactic|obtain⟨ι,ρ,C,z,C',sr,e,q⟩:=h)
set_option hygiene true
open Array renaming getElem?_eq_getElem→Yh,getD_eq_getD_getElem?→YM,getElem?_eq_none→YN,getElem?_toList→YY,length_toList→Xi,mem_toList_iff→VZ,size_setIfInBounds→Uf,forIn_toList→Uz,toList_push→UE,getElem?_setIfInBounds_ne→UG,getElem?_eq_some_iff→Yal,perm_iff_toList_perm→Yam,getElem?_append_left→Yao,replicate→Yca
open Bool renaming false_ne_true→Yw,false_eq_true→Yx,and_eq_true→YI,eq_iff_iff→WJ,not_true→VW,and_false→Rz,or_eq_true→Ycf
open False renaming elim→Vs
open ForInStep renaming yield→VE
open Int renaming emod_lt_of_pos→Xm,emod_nonneg→Xz,toNat_natCast→Wp,zero_add→PZ
open List renaming append_assoc→Yd,getElem?_eq_getElem→Ye,length_append→Yf,length_map→Yi,mem_singleton→Yj,mem_cons→Yk,mem_append→Ym,mem_append_right→Yn,getElem?_append_left→Yo,size_toArray→Yp,map_cons→Yq,getD_eq_getElem?_getD→Ys,length_cons→Yu,getElem?_map→Yy,mem_map→Yz,range→YB,getElem?_append_right→YE,append_nil→YG,mem_of_getElem?→YH,getElem?_eq_none→YJ,mem_cons_of_mem→YK,mem_cons_self→YR,getElem?_eq_none_iff→YS,take_append_drop→YV,all_eq_true→YW,map_append→YX,nodup_iff_pairwise_ne→Y0,mem_range→Y1,mem_append_left→Y2,getElem?_set_ne→Y3,getElem?_eq_some_iff→Y6,mem_map_of_mem→Y7,drop_eq_getElem_cons→Y9,map_map→Xc,getElem?_set_self→Xd,pairwise_append→Xe,nodup_cons→Xg,nodup_append→Xh,lookup_cons→Xj,zip_cons_cons→Xn,length_take→Xo,length_drop→Xp,pairwise_map→Xq,not_mem_nil→Xr,flatten_cons→Xs,ext_getElem?→XA,drop_eq_nil_of_le→XF,getElem?_take_of_lt→XH,getElem_of_mem→XM,perm_append_comm→XQ,take_of_length_le→XX,take_append_of_le_length→XY,length_singleton→X2,getElem?_toArray→X3,reverse_cons→X5,length_range→X6,any_cons→X9,getElem_mem→Wh,map_reverse→Wl,flatMap_cons→Wq,getElem?_zip_eq_some→Wu,length_nil→Wv,perm_middle→WA,getElem?_cons_succ→WE,length_eq_zero_iff→WF,filterMap_cons→WH,take_succ_cons→WN,nil_append→WO,length_zip→WP,map_flatMap→WU,mem_flatMap→WV,pairwise_cons→WY,pairwise_iff_getElem→W5,getElem?_range→Vj,cons_append→Vr,replicate→Vt,mem_filterMap→Vy,find?_cons→VC,foldl_cons→VG,all_cons→VR,drop_drop→V4,any_eq_true→V7,drop_length→V8,mem_filter→Ui,length_set→Uo,getElem_drop→UF,set_append_right→UO,getElem_inj→UR,nodup_range→UT,eq_nil_of_length_eq_zero→UU,take_length→UV,flatten_nil→UW,map_fst_zip→UX,mem_of_mem_take→UY,map_congr_left→Yai,length_eraseIdx_of_lt→Yan,map_singleton→Yaq,append_of_mem→Yat,drop_zero→Ry,drop_sublist→Ybe,of_mem_zip→Ybw,map_nil→Rn,forIn_cons→Ybz
open List.Pairwise renaming imp_of_mem→Ue
open List.Perm renaming of_eq→VH,append_left→VI,trans→Uu
open List.cons renaming inj→XZ,injEq→VJ
open Nat renaming le_refl→Yl,ne_of_lt→Yv,lt_of_lt_of_le→YC,lt_or_ge→YQ,zero_le→Y4,le_trans→Xb,le_of_lt→XI,add_sub_cancel_left→XT,ne_of_gt→XU,zero_add→XV,lt_succ_of_lt→Wn,lt_irrefl→WB,not_lt_zero→WK,exists_eq_add_of_le→Vi,lt_succ_self→Vo,mod_lt→Vu,lt_trans→VD,lt_trichotomy→VQ,lt_of_le_of_lt→Ur,min_eq_left→RC,succ_pos→P0,le_succ→PX,le_of_not_lt→Ybp,max_eq_right→Ybq,le_add_right→Ybr,mod_eq_of_lt→Ybu,sub_self→Rm
open Ne renaming symm→WC
open Option renaming map_eq_some_iff→XE,map_some→VF,isSome_iff_exists→Ub,isSome_map→Ybb
open Option.some renaming inj→YO
open PyProof.Rows renaming wpS_bind→YD,wpS_pure→YL,callWith_type1→Xx,slot_tuple_getitem→Xy,wpS_forRange→XO,pendingOf→X4,wpS_mono→Wa,get?_update_seq→Va,SortKind→Vg,callWith_builtin1→UN,entry_proto_collect'→UZ,reverseSlice'→U2,listUpdate_at→U3,getElem?_mirror_all→Yac,wpS_modify→Mh,wpS_get→DL,entry_list_iadd'→Ybs,AllBare→F0,getElem?_bubble→Ycc,listItems_at→Rl,wpS_lift→KU,seqEpoch_at→Ri
open PyProof.Rows.F renaming plain_set_update_loop→WG,entry_set_update_loop→V2
open PyProof.Rows.SortSt renaming mk'→Wo
open PySem renaming wpAny_bind→Ya,wpAny_pure→Yc,starEach→Yt,sizeLine→YA,Program→YF,Spec→YT,sizeLine_eq→YZ,foldedSetIterable→Y5,wpAny_setState_of→Y8,wpAny_holding→Xf,wpAny_mono→Xk,wpAny_call_entry→Xl,bootBuiltins→XB,wpAny_callSpecial?_slot→XC,wpAny_newObj_type→XD,codeAny_builtin→XN,sysModules→X1,SetTable→X7,attributeBase→X8,Comprehension→Wb,codeAny→Wm,wpAny_setField→Wt,wpAny_ite_split→Ww,wpAny_Call_Name_kw→Wy,FuncData→WD,letOwnedTupleGo→WI,Builtin→WL,wpAny_rule→WR,wpAny_askSetting→WT,compareOp→WW,wpAny_typeOf→WX,builtinLookup_eq_fast→WZ,setSearchFrom→W3,assignEach→W6,wpAny_passesOwn→W7,wpAny_specialOf→Vb,mem_of_lookup→Ve,tupleKind→Vm,swapsWith→Vn,wpAny_typeNameOfWhole_keyiter→Vp,wpAny_typeNameOfWhole_valiter→Vq,wpAny_seqItems→Vv,tupleKind_room_in1→Vz,wpAny_notOrdered_dict→VL,wpAny_truthy_bool→VM,wpAny_standAt→VN,wpAny_pyIter_list→VO,wpAny_attempt→VT,wpAny_dictEntries→VU,isSubtype_type→V3,wpAny_fieldsOf→V5,binaryOp→V6,wpAny_raiseNew_none→V9,wpAny_comprehension_free→Ud,behindInMarks→Uj,NameKind→Ul,DictEntry→Up,plainId_quiet→Us,wpAny_loadPart'→Ut,wpAny_newList→Uv,typeLookup_type→Uw,size_of_entries→Uy,wpAny_Call_method0_late→UA,sliceBounds→UD,wpAny_pyIter_slot→UH,SetTable→UI,carriedByValue→UJ,wpAny_runValue→UK,codeAny_mono→UM,Builtin→U1,wpAny_execs_nil→U6,PassesOwn→U7,keywordEach→U8,Keyword→U9,storedH→zF,isSubtype→Hx,wpAny_dictEpoch→RB,wpAny_updateSeq→RA,evalArgs_none→Yah,holding→Dl,wpAny_loadPart→Rx,isSubtype_stop→Rv,entryOfKey→Mi,ofAClassStatement→Ybc,mainGlobals→PY,unsupported→PU,noFill_tuple_add→Ybo,wpAny_isInstance→Ybt,concat_meets→Ro,wpAny_alloc'→Rk,pickOrder→Mg,codeAny_of_tree→Yci,GenState→KW,setEntries→PQ,wpAny_field→Rj,getItem→Hv,collect→Hu,ItemsOf→Ht,seqIndex?→PN,backToKw→Mf,callerA→KQ,valueAt→KP
open PySem.Around renaming under_plainId→Wg,in1_units→Wj
open PySem.Builtin.Dict renaming showsAll→W0
open PySem.Builtin.Dict_items renaming ownsTuple→VB,newIterator→UQ
open PySem.Builtin.Frozenset renaming updateFrom→U0
open PySem.Builtin.List renaming listExtendWith→XR,listSameRef→Wz,listLengthHint→WQ,listTooLong→W9
open PySem.Builtin.Slice renaming slicePlaces→W4,sliceAdjust→V0,sliceApplied→Yak
open PySem.Builtin.Tuple renaming tupleExact→W8,tupleItemsOf→VY
open PySem.Calls renaming callWith_builtin→Vx,spliced_cons→Uk,spliced_nil→UC,Name_function_global→Yaj
open PySem.Code renaming quiet_builtin→Ux
open PySem.F renaming called_set→Wc,slot_dict_valueiterator_next→Vd,plainAttrs_dict→Vk,plainAttrs_list→Vl,slot_dict_keyiterator_next→VA,slot_tuple_hash→VX,args_tuple_add_2→Uc,slot_list_getattribute→Ug,slot_dict_values→Uh,entry_tuple_add→Um,slot_tuple_add→UB,slot_dict_setdefault→U4
open PySem.Heap renaming get?_push_of_some→Yb,get?_push_size→Yg,lt_size→Yr,get?_update_self→Xu,SameBut→XJ,get?_update_ne→X0,size_push→V1,ExtBut→Mj
open PySem.Heap.SameBut renaming update→Xa
open PySem.NameKind renaming free→XG,cell→Vf
open PySem.Obj renaming data_mapFields→Xv,mapSeq→XS,mapFields→Ws,isFreed_of_fields→Wx,cls_mapFields→VV
open PySem.Paired renaming length→Wr
open PySem.PassesOwn renaming never→We
open PySem.SetFound renaming there→Ru
open PySem.SetTable renaming grown→UL,sizeAbove→Yar,slot→Rt
open PySem.Str renaming ofString→Vc
open PySem.Value renaming ref→YU,none→Xw,type→XW,bool→Ua
open PySem.W renaming kas_item→Vh,keepIn→Hw,kas_rev→FZ
open PySem.W.Looks renaming of_pure→Rr
open Sum renaming inr→Vw,inl→KR
open Sum.inl renaming injEq→Rp
open Sum.inr renaming injEq→Rq
open True renaming intro→U5
set_option backward.eqns.nonrecursive false
set_option genSizeOf false
set_option compiler.extract_closed false
set_option bootstrap.genMatcherCode false
set_option Elab.async false
set_option linter.all false
set_option maxRecDepth 100000
namespace L2
open PySem PySem.Spec PyProof.Rows
abbrev Key:=Sum Int Str
noncomputable def gB:Key->Value->Bool
 |.inl k,v=>Value.isInt k v
 |.inr x,v=>Value.isStrOf x v
noncomputable def E7 (w:World):Key->Int
 |.inl k=>hashInt k
 |.inr x=>hashStr w x
theorem Dh:∀{k:Key}{v:Value},gB k v=true->(∃i t,k=KR i/\v=Value.int i t)\/(∃x t,k=Vw x/\v=Value.str x t)
 |.inl i,v,h=>by
  obtain⟨t,e⟩:=Value.isInt_shape (k:=i) (v:=v) h;show .inl ⟨i,t,rfl,e⟩
 |.inr x,v,h=>by
  obtain⟨t,e⟩:=Value.isStrOf_shape (x:=x) (v:=v) h;show .inr ⟨x,t,rfl,e⟩
theorem lL(i:Int)(t:Tok):gB (.inl i) (.int i t)=true:=by simp[gB,Value.isInt]
theorem ZJ(x:Str)(t:Tok):gB (.inr x) (.str x t)=true:=by simp[gB,Value.isStrOf]
theorem Jm(a b:Int):decide ((KR a:Key)=KR b)=(a==b):=by
 by_cases e:a=b
 ·subst e;simp
 ·have h:¬(KR a:Key)=KR b:=λq=>e (Sum.inl.inj q)
  rw[decide_eq_false h];show(beq_eq_false_iff_ne.mpr e).symm
theorem Jj(a b:Str):decide ((Vw a:Key)=Vw b)=decide (a=b):=by
 by_cases e:a=b
 ·subst e;simp
 ·have h:¬(Vw a:Key)=Vw b:=λq=>e (Sum.inr.inj q)
  rw[decide_eq_false h,decide_eq_false e]
theorem Jl(a:Int)(b:Str):decide ((KR a:Key)=Vw b)=false:=decide_eq_false (λq=>nomatch q)
theorem Jk(a:Str)(b:Int):decide ((Vw a:Key)=KR b)=false:=decide_eq_false (λq=>nomatch q)
def aD(prog:YF)(w:World):PySem.KeyKind prog w Key where
 is:=gB
 hash:=E7 w
 inj:=λv a b ha hb=>by
  rcases Dh ha with⟨i,t,rfl,rfl⟩|⟨x,t,rfl,rfl⟩
  ·rcases Dh hb with⟨j,u,rfl,e⟩|⟨y,u,rfl,e⟩
   ·injection e with e1 _;rw[e1]
   ·show nomatch e
  ·rcases Dh hb with⟨j,u,rfl,e⟩|⟨y,u,rfl,e⟩
   ·show nomatch e
   ·injection e with e1 _;rw[e1]
 byValue:=λk v h=>by
  rcases Dh h with⟨i,t,rfl,rfl⟩|⟨x,t,rfl,rfl⟩<;>rfl
 pyHash:=λhv h=>by
  rcases Dh hv with⟨i,t,rfl,rfl⟩|⟨x,t,rfl,rfl⟩
  ·show wpAny_pyHash_int h
  ·show wpAny_pyHash_str h
 eqBool:=λhu hv h=>by
  rcases Dh hu with⟨i,t,rfl,rfl⟩|⟨x,t,rfl,rfl⟩
  ·rcases Dh hv with⟨j,u,rfl,rfl⟩|⟨y,u,rfl,rfl⟩
   ·rw[Jm]at h;show wpAny_eqBool_int h
   ·rw[Jl]at h;show SeqAt.EqAt.int_str i t y u _ _ _ _ h
  ·rcases Dh hv with⟨j,u,rfl,rfl⟩|⟨y,u,rfl,rfl⟩
   ·rw[Jk]at h;show SeqAt.EqAt.str_int x t j u _ _ _ _ h
   ·rw[Jj]at h;show wpAny_eqBool_str h
 «strs»:=λk x t v h=>by
  rcases Dh h with⟨i,u,rfl,e⟩|⟨y,u,rfl,e⟩
  ·show nomatch e
  ·injection e with e1 _
   subst e1;cases v<;>rfl
theorem pM(prog:YF)(w:World)(i:Int)(t:Tok):(aD prog w).is (.inl i) (.int i t)=true:=lL i t
theorem pL(prog:YF)(w:World)(x:Str)(t:Tok):(aD prog w).is (.inr x) (.str x t)=true:=ZJ x t
inductive V where
 |aF|bl (b:Bool)|int (i:Int)|str (x:Str)|yV (b:Array UInt8)|Zm (b:UInt64)|ref (a:Addr)|ty (n:String)
 deriving DecidableEq
def RelV:V->Value->Prop
 |.aF,u=>u=Xw
 |.bl b,u=>u=Ua b
 |.int i,u=>∃t,u=Value.int i t
 |.str x,u=>∃t,u=Value.str x t
 |.yV b,u=>∃t,u=Value.bytes b t
 |.Zm b,u=>∃t,u=Value.float b t
 |.ref a,u=>u=YU a
 |.ty n,u=>u=XW n
abbrev Vals:List V->List Value->Prop:=Paired RelV
theorem Vals.length{xs:List V}{us:2e6}(r:Vals xs us):xs.length=us.length:=Wr r
theorem Vals.get:∀{xs:List V}{us:2e6}{i:Nat}{x:V},Vals xs us->xs[i]? = some x->∃u,us[i]? = some u/\RelV x u
 |_,_,_,_,.nil,e=>by simp at e
 |_,_,0,_,.cons r _,e=>by simp at e;subst e;show⟨_,rfl,r⟩
 |_,_,i+1,x,.cons _ t,e=>by
  obtain⟨u,h1,h2⟩:=Vals.get (i:=i) (x:=x) t (by simpa using e);show⟨u,by simpa using h1,h2⟩
theorem Vals.set{x:V}{u:Value}(r:RelV x u):∀{xs:List V}{us:2e6}(i:Nat),Vals xs us->Vals (xs.set i x) (us.set i u)
 |_,_,_,.nil=>.nil
 |_,_,0,.cons _ t=>.cons r t
 |_,_,i+1,.cons q t=>.cons q (Vals.set r i t)
theorem Vals.append:∀{xs ys:List V}{us ws:2e6},Vals xs us->Vals ys ws->Vals (xs++ys) (us++ws)
 |_,_,_,_,.nil,s=>s
 |_,_,_,_,.cons r t,s=>.cons r (Vals.append t s)
theorem Vals.take:∀{xs:List V}{us:2e6}(n:Nat),Vals xs us->Vals (xs.take n) (us.take n)
 |_,_,0,_=>.nil
 |_,_,_+1,.nil=>.nil
 |_,_,n+1,.cons r t=>.cons r (Vals.take n t)
theorem Vals.drop:∀{xs:List V}{us:2e6}(n:Nat),Vals xs us->Vals (xs.drop n) (us.drop n)
 |_,_,0,r=>r
 |_,_,_+1,.nil=>.nil
 |_,_,n+1,.cons _ t=>Vals.drop n t
def iJ:Option V->Option Value->Prop
 |some v,some u=>RelV v u
 |none,none=>True
 |_,_=>False
def KV{κ:Type}:List (κ×V)->List (κ×Value)->Prop:=Paired λ(p:κ×V) (q:κ×Value)=>p.1=q.1/\RelV p.2 q.2
noncomputable def kV:Key->V
 |.inl i=>.int i
 |.inr x=>.str x
inductive HO where
  |lst (xs:List V)
  |tup (xs:List V)
  |dK (ag:List (Key×V))|dT (ag:List (List Key×V))
  |set (S:Int->Bool) (n:Nat)
  |ins (C dx:Addr) (fs:List (Str×V))
  |own (x:Addr)
  |xd (fs:List (Str×V))
  |met (f x:Addr)
  |Sa (lo hi:Int)
  |gh (o:Obj) (u:HO)
  |Gd (ps:Array Value)
  |ext (φ:Heap->Prop)
abbrev Hp:=Addr->Option HO
noncomputable def upd (H:Hp)(a:Addr)(o:HO):Hp:=λb=>if b=a then some o else H b
theorem fP{H:Hp}{a:Addr}{o:HO}:upd H a o a=some o:=by ext upd;rw[if_pos rfl]
theorem bf{H:Hp}{a b:Addr}{o:HO}(h:b≠a):upd H a o b=H b:=by ext upd;rw[if_neg h]
theorem A8{H:Hp}{a b:Addr}{o u:HO}(h:H a=some o)(h':H b=some u)(d:o≠u):a≠b:=by
 intro e;subst e;rw[h]at h';show d (YO h')
theorem gu{H:Hp}{a b:Addr}{o:HO}(h:H a=some o)(h':H b=none):a≠b:=by
 intro e;subst e;rw[h]at h';cases h'
section
variable(P:YF)(w:World)
def aZ(H:Hp)(h:Heap)(a:Addr):HO->Prop
 |.lst xs=>xs.length<=YA/\∃(aw:2e6)(n:Nat),Vals xs aw/\h.get? a=some {cls:=.type "list",data:=.seq aw.toArray n}
 |.tup xs=>xs.length<=YA/\∃aw:List Value,Vals xs aw/\IsTup h a aw.toArray
 |.dK ag=>ag.length<=YA/\(a==X1)=false/\∃vs,KV ag vs/\h.DictOf (aD P w) a vs
 |.dT ag=>ag.length<=YA/\(a==X1)=false/\∃xs:List 4e5,
   Paired (λ(p:List Key×V) (q:List Key×Addr×Value)=>p.1=q.1/\H q.2.1=some (.tup (p.1.map kV))/\RelV p.2 q.2.2) ag xs/\
   ∃o es ep,h.get? a=some o/\o.ExactDict/\o.data=.dict es ep/\es.toList=xs.map (Mi (Vm (aD P w)))/\(xs.map (·.1)).Nodup
 |.set S n=>h.SetOf (intKind P w) a S n
 |.ins C dx fs=>H dx=some (.own a)/\fs.length<=1000/\dx≠a/\h.get? a=some (W.instObj C dx)/\
   ∃mA,h.Ns1 dx mA/\(∀f,iJ (fs.lookup f) (mA f))/\PySem.Within mA (fs.map (·.1))
 |.own _=>∃o,h.get? a=some o
 |.xd fs=>∃mA,h.Ns1 a mA/\∀f,iJ (fs.lookup f) (mA f)
 |.Sa lo hi=>∃t u v,h.get? a=some {cls:=.type "range",data:=.fields #[.int lo t,.int hi u,.int 1 v]}
 |.gh o u=>h.get? a=some o/\aZ H h a u
 |.Gd ps=>h.get? a=some {cls:=.none,data:=.fields ps}
 |.met f x=>h.get? a=some (W.methodObj (.ref f) (.ref x))
 |.ext φ=>φ h/\(∃o,h.get? a=some o)/\∀h1 h2:Heap,φ h1->(∀o,h1.get? a=some o->h2.get? a=some o)->φ h2
def gm(H:Hp)(h:Heap):Prop:=∀a o,H a=some o->aZ P w H h a o
end
section
variable{P:YF}{w:World}{H H':Hp}{h h':Heap}{a:Addr}{o:HO}
theorem aZ.lt(x:aZ P w H h a o):a<h.objs.size:=by
 cases o with
 |lst xs=>obtain⟨_,_,_,_,e⟩:=x;show Yr e
 |tup xs=>obtain⟨_,_,_,p⟩:=x;show p.lt
 |dK ag=>obtain⟨_,_,_,_,o,_,_,e,_⟩:=x;show Yr e
 |dT ag=>obtain⟨_,_,_,_,o,_,_,e,_⟩:=x;show Yr e
 |set S n=>obtain⟨o,_,_,_,e,_⟩:=x;show Yr e
 |ins C dx fs=>obtain⟨_,_,_,e,_⟩:=x;show Yr e
 |own y=>obtain⟨_,e⟩:=x;show Yr e
 |xd fs=>obtain⟨_,⟨_,_,_,e,_⟩,_⟩:=x;show Yr e
 |Sa lo hi=>obtain⟨_,_,_,e⟩:=x;show Yr e
 |gh ob u=>obtain⟨e,_⟩:=x;show Yr e
 |Gd ps=>show Yr (show h.get? a=some _ from x)
 |met f y=>show Yr (show h.get? a=some _ from x)
 |ext φ=>obtain⟨_,⟨_,e⟩,_⟩:=x;show Yr e
theorem Paired.IW{α β:Type}{F G:α->β->Prop}:∀{l₁:List α}{l₂:List β},Paired F l₁ l₂->(∀a b,F a b->G a b)->Paired G l₁ l₂
 |_,_,.nil,_=>.nil
 |_,_,.cons r t,f=>.cons (f _ _ r) (Paired.IW t f)
theorem aZ.cW(x:aZ P w H h a o)(k:∀b u,(b=a\/H b=some (.own a))->h.get? b=some u->h'.get? b=some u)
  (ho:∀b,H b=some (.own a)->H' b=some (.own a)) (ht:∀b xs,H b=some (.tup xs)->H' b=some (.tup xs)):aZ P w H' h' a o:=by
 induction o with
 |lst xs=>obtain⟨z,aw,n,r,e⟩:=x;show⟨z,aw,n,r,k _ _ 9e6 e⟩
 |tup xs=>obtain⟨z,aw,r,ob,e,c⟩:=x;show⟨z,aw,r,ob,k _ _ 9e6 e,c⟩
 |dK ag=>obtain⟨z,y,vs,r,ob,es,ep,e,c⟩:=x;show⟨z,y,vs,r,ob,es,ep,k _ _ 9e6 e,c⟩
 |dT ag=>
  obtain⟨z,y,xs,r,ob,es,ep,e,c⟩:=x;show⟨z,y,xs,Paired.IW r λp q z=>⟨z.1,ht _ _ z.2.1,z.2.2⟩,ob,es,ep,k _ _ 9e6 e,c⟩
 |set S n=>obtain⟨ob,es,ep,t,e,c⟩:=x;show⟨ob,es,ep,t,k _ _ 9e6 e,c⟩
 |ins C dx fs=>
  obtain⟨d,z,ne,e,mA,⟨od,es,ep,e2,c⟩,r⟩:=x;show⟨ho _ d,z,ne,k _ _ 9e6 e,mA,⟨od,es,ep,k _ _ (.inr d) e2,c⟩,r⟩
 |own y=>obtain⟨ob,e⟩:=x;show⟨ob,k _ _ 9e6 e⟩
 |xd fs=>obtain⟨mA,⟨od,es,ep,e,c⟩,r⟩:=x;show⟨mA,⟨od,es,ep,k _ _ 9e6 e,c⟩,r⟩
 |Sa lo hi=>obtain⟨t,u,v,e⟩:=x;show⟨t,u,v,k _ _ 9e6 e⟩
 |gh ob u ih=>obtain⟨e,q⟩:=x;show⟨k _ _ 9e6 e,ih q⟩
 |Gd ps=>
  have e:h.get? a=some {cls:=.none,data:=.fields ps}:=x;change h'.get? a=some {cls:=.none,data:=.fields ps};show k a _ 9e6 e
 |met f y=>
  have e:h.get? a=some (W.methodObj (.ref f) (.ref y)):=x;change h'.get? a=some (W.methodObj (.ref f) (.ref y));show k a _ 9e6 e
 |ext φ=>obtain⟨p,⟨o,e⟩,st⟩:=x;show⟨st _ _ p λo q=>k _ _ 9e6 q,⟨o,k _ _ 9e6 e⟩,st⟩
theorem gm.lt(x:gm P w H h)(e:H a=some o):a<h.objs.size:=(x a o e).lt
theorem gm.fresh(x:gm P w H h)(e:h.objs.size<=a):H a=none:=by
 cases q:H a with
 |none=>rfl
 |some u=>show absurd (YC (x.lt q) e) (WB _)
theorem gm.kept(x:gm P w H h)(k:∀b u,h.get? b=some u->h'.get? b=some u):gm P w H h':=λa o e=>
 (x a o e).cW (λb u _ q=>k b u q) (λ_ q=>q) λ_ _ q=>q
theorem gm.laid(x:gm P w H h)(k:∀b u,h.get? b=some u->h'.get? b=some u)(hp:h.objs.size<=a)(new:aZ P w (upd H a o) h' a o):gm P w (upd H a o) h':=λb u e=>by
 have hn:=x.fresh hp;by_cases hb:b=a
 ·subst hb;rw[fP]at e;cases e;show new
 ·rw[bf hb]at e
  show(x b u e).cW (λc v _ q=>k c v q) (λc q=>by rw[bf (gu q hn)];show q) λc xs q=>by rw[bf (gu q hn)];show q
end
def Rd(H:Hp)(a:Addr)(u:HO):Prop:=H a=some u\/∃o,H a=some (.gh o u)
theorem Rd.ok{P:YF}{w:World}{H:Hp}{h:Heap}{a:Addr}{u:HO}(r:Rd H a u)(x:gm P w H h):aZ P w H h a u:=by
 rcases r with r|⟨o,r⟩
 ·show x a u r
 ·obtain⟨_,q⟩:=x a _ r
  show q
def P5:Option HO->Prop
 |some (.lst _)=>True
 |some (.dK _)=>True
 |some (.dT _)=>True
 |some (.set _ _)=>True
 |some (.ins _ _ _)=>True
 |some (.ext _)=>True
 |_=>False
section
variable{P:YF}{w:World}{H:Hp}{h h':Heap}{x e:Addr}{o':HO}
theorem gm.write(ok:gm P w H h)(mu:P5 (H x))(he:e=x\/H e=some (.own x))(k:∀b u,b≠e->h.get? b=some u->h'.get? b=some u)(LA:∃u,h'.get? e=some u)
  (new:aZ P w (upd H x o') h' x o'):gm P w (upd H x o') h':=λb u q=>by
 have Nr:∀c y,H c=some (.own y)->c≠x:=λc y r z=>by subst z;rw[r]at mu;show mu
 have Su:∀c xs,H c=some (.tup xs)->c≠x:=λc xs r z=>by subst z;rw[r]at mu;show mu
 by_cases hb:b=x
 ·subst hb;rw[fP]at q;cases q;show new
 ·rw[bf hb]at q
  by_cases JM:b=e
  ·have q':H b=some (.own x):=by
    rcases he with z|z
    ·show absurd (JM.trans z) hb
    ·rw[JM];show z
   rw[q]at q';cases q';obtain⟨v,hv⟩:=LA;show⟨v,by rw[JM];show hv⟩
  ·show(ok b u q).cW (λc v hc r=>k c v ?_ r) (λc r=>by rw[bf (Nr c b r)];show r) λc xs r=>by rw[bf (Su c xs r)];show r
   rcases hc with rfl|hc
   ·show JM
   ·rintro rfl
    rcases he with z|z
    ·show Nr c b hc z
    ·rw[hc]at z;cases z;show hb rfl
end
structure Un(fs ex:List Addr)(H H':Hp)(h h':Heap):Prop where
 keep:∀b o,h.get? b=some o->H b=none->b∉fs->b∉ex->h'.get? b=some o
 slot:∀b o,h.get? b=some o->H b=none->b∈fs->b∉ex->∃sl,h'.get? b=some {o with slots:=sl}
 free:∀b o,h.get? b=some o->H b=none->b∉ex->H' b=none
 there:∀b o,h.get? b=some o->b∉ex->∃o',h'.get? b=some o'
 g8:∀b xs,H b=some (.tup xs)->H' b=some (.tup xs)
 gg:∀b o u,H b=some (.gh o u)->H' b=some (.gh o u)
 jh:∀b ps,H b=some (.Gd ps)->∃more,H' b=some (.Gd (ps++more))
section
variable{fs fs' ex ex':2e1}{H H1 H2:Hp}{h h1 h2 h':Heap}{a x e:Addr}{o:HO}
theorem Un.any(u:Un fs ex H H1 h h1){b:Addr}{ob:Obj}(q:h.get? b=some ob)(n:H b=none)(hx:b∉ex):∃sl,h1.get? b=some {ob with slots:=sl}:=by
 by_cases hb:b∈fs
 ·show u.slot b ob q n hb hx
 ·show⟨ob.slots,u.keep b ob q n hb hx⟩
theorem Un.kept(k:∀b u,h.get? b=some u->h'.get? b=some u):Un fs ex H H h h':=
 ⟨λb ob q _ _ _=>k b ob q,λb ob q _ _ _=>⟨ob.slots,k b ob q⟩,λ_ _ _ n _=>n,λb ob q _=>⟨ob,k b ob q⟩,λ_ _ q=>q,λ_ _ _ q=>q,λ_ ps q=>⟨#[],by rw[q];simp⟩⟩
theorem Un.refl:Un fs ex H H h h:=Un.kept λ_ _ q=>q
theorem Un.laid(k:∀b u,h.get? b=some u->h'.get? b=some u)(hp:h.objs.size<=a)(hn:H a=none):Un fs ex H (upd H a o) h h' where
 keep:=λb u q _ _ _=>k b u q
 slot:=λb u q _ _ _=>⟨u.slots,k b u q⟩
 free:=λb u q n _=>by rw[bf (Yv (YC (Yr q) hp))];show n
 there:=λb u q _=>⟨u,k b u q⟩
 g8:=λb xs q=>by rw[bf (gu q hn)];show q
 gg:=λb u xs q=>by rw[bf (gu q hn)];show q
 jh:=λb ps q=>⟨#[],by rw[bf (gu q hn),q];simp⟩
theorem Un.write(mu:P5 (H x))(he:e=x\/H e=some (.own x))(k:∀b u,b≠e->h.get? b=some u->h'.get? b=some u)(LA:∃u,h'.get? e=some u):Un fs ex H (upd H x o) h h':=by
 have hx:∀b,H b=none->b≠x:=λb n z=>by subst z;rw[n]at mu;show mu
 have hb:∀b,H b=none->b≠e:=λb n z=>by
  subst z;rcases he with r|r
  ·show hx b n r
  ·rw[n]at r;cases r
 have hm:∀b u,H b=some u->¬P5 (some u)->b≠x:=λb u q nm z=>by subst z;rw[q]at mu;show nm mu
 show⟨λb u q n _ _=>k b u (hb b n) q,λb u q n _ _=>⟨u.slots,k b u (hb b n) q⟩,λb u q n _=>by rw[bf (hx b n)];show n,λb u q _=>?_,
  λb xs q=>by rw[bf (hm b _ q λz=>z)];show q,λb u xs q=>by rw[bf (hm b _ q λz=>z)];show q,λb ps q=>⟨#[],by rw[bf (hm b _ q λz=>z),q];simp⟩⟩
 by_cases JM:b=e
 ·subst JM;show LA
 ·show⟨u,k b u JM q⟩
end
noncomputable def Qa (h:Heap)(H:Hp):List Addr:=(YB h.objs.size).filter λa=>(H a).isSome
def nB(h:Heap)(H:Hp):Heap:=W.hideAll h (Qa h H)
theorem yz(h:Heap)(H:Hp):(nB h H).objs.size=h.objs.size:=W.hideAll_size _ _
theorem B0{h:Heap}{H:Hp}{b:Addr}{o:Obj}(e:h.get? b=some o)(n:H b=none):(nB h H).get? b=some o:=
 W.hideAll_get _ e λhm=>by
  have q:(H b).isSome=true:=(Ui.mp hm).2;rw[n]at q;simp at q
theorem EF{h:Heap}{H:Hp}{b:Addr}{o:Obj}(e:(nB h H).get? b=some o):h.get? b=some o/\H b=none:=by
 have e':h.get? b=some o:=W.of_hideAll (Qa h H) e;show⟨e',?_⟩;cases q:H b with
 |none=>rfl
 |some x=>
  have hm:b∈Qa h H:=Ui.mpr ⟨Y1.mpr (Yr e'),by simp[q]⟩;have z:(nB h H).get? b=none:=W.hideAll_none (Qa h H) hm;rw[z]at e;cases e
structure Mod(K:W.Frag)(mg:Str->Option Value)(base:Heap):Prop where
 SQ:K.In base
 glob:base.Ns PY mg
 blt:∃mb,base.Ns builtinsNs mb/\∀x:Str,x≠"__name__"->mb x=XB x
 nolimit:base.NoLimit
structure Cx where
 prog:YF
 w:World
 K:W.Frag
 mg:Str->Option Value
 base:Heap
 A:Around
 N:List Str
 s₀:Shared
 H₀:Hp
 env:Env
 outer:List Env
 stack:List Env
 ex:List Addr
 fn:Str->Bool
 calm:Bool
 pn:List (Addr×Obj)
 xe:Value->Shared->Prop
noncomputable def ua (l:List Env):List Addr:=l.filterMap (·.frame)
abbrev Cx.fs(X:Cx):List Addr:=ua X.outer
def Ml(sc:Scope)(x:Str):Prop:=sc.names.lookup x=some .local\/sc.names.lookup x=some .cell\/sc.names.lookup x=some .free
def Loc(sc:Scope)(x:Str):Prop:=sc.names.lookup x=some .local\/sc.names.lookup x=some .cell
def Look(env:Env)(h:Heap)(m:2e5)(x:Str)(u:Value):Prop:=
 (env.kindOf x=some .local/\m x=some u)\/((env.kindOf x=some .cell\/env.kindOf x=some .free)/\∃c,env.cells.lookup x=some c/\h.IsCell c (some u))
structure Cx.Ok(X:Cx):Prop where
 mod:Mod X.K X.mg X.base
 kind:X.env.scope.kind=.function
 glob:X.env.globals=PY
 blt:X.env.builtins=builtinsNs
 above:X.s₀.heap.objs.size<=X.env.locals
 inj:∀x y c,X.env.cells.lookup x=some c->X.env.cells.lookup y=some c->x=y
 has:∀x,(X.env.kindOf x=some .cell\/X.env.kindOf x=some .free)->∃c,X.env.cells.lookup x=some c
 O9:∀x c,X.fn x=true->X.env.cells.lookup x=some c->X.s₀.heap.objs.size<=c
 hd:X.calm=true->X.A.handled=none
 frames:X.A.frames=some X.stack
 Qb:X.stack=X.outer\/(X.stack=X.env::X.outer/\X.env.frame=some X.env.locals)
 Zp:∀b∈X.ex,b≠X.env.locals/\∀x c,X.env.cells.lookup x=some c->c≠b
 bs:∀b o,X.base.get? b=some o->X.s₀.heap.get? b=some o/\X.H₀ b=none
 Km:X.base.objs.size<=X.s₀.heap.objs.size
 yb:∀b o,X.base.get? b=some o->b∉X.ex
 Cg:∀b∈X.ex,b∉X.fs
 jS:X.s₀.heap.FunFrames X.base X.outer
 LN:∀b∈X.fs,X.H₀ b=none
structure Inv(X:Cx)(pins:List (Addr×Obj))(σ:List (Option V))(H:Hp)(s:Shared):Prop where
 ok:X.Ok
 os:s.os=X.s₀.os
 bare:F0 s.gens
 base:Un X.fs X.ex X.H₀ H X.s₀.heap s.heap
 loc:∃m,s.heap.Ns X.env.locals m/\∀(i:Nat)(x:Str)(v:V),X.N[i]? = some x->σ[i]? = some (some v)->Ml X.env.scope x->∃u,RelV v u/\Look X.env s.heap m x u
 cell:∀x c,X.env.cells.lookup x=some c->∃v,s.heap.IsCell c v
 free:H X.env.locals=none
 eh:∀x c,X.env.cells.lookup x=some c->H c=none
 pin:∀p∈X.pn++pins,s.heap.get? p.1=some p.2/\H p.1=none/\p.1≠X.env.locals/\p.1∉X.fs/\∀v,p.2.data≠.cell v
 aQ:gm X.prog X.w H s.heap
 len:σ.length=X.N.length
section
variable{X:Cx}{pins:1e8}{σ:List (Option V)}{H H':Hp}{s:Shared}{h':Heap}
theorem Cx.Ok.Sx(ok:X.Ok){b:Addr}{o:Obj}(e:X.base.get? b=some o):b∉X.fs:=λhb=>by
 have:=(ok.jS.mem hb).1;rw[e]at this;cases this
theorem Inv.bs(I:2e0):∀b o,X.base.get? b=some o->s.heap.get? b=some o/\H b=none:=λb o e=>
 ⟨I.base.keep b o (I.ok.bs b o e).1 (I.ok.bs b o e).2 (I.ok.Sx e) (I.ok.yb b o e),I.base.free b o (I.ok.bs b o e).1 (I.ok.bs b o e).2 (I.ok.yb b o e)⟩
theorem Inv.bk(I:2e0):∀b o,X.base.get? b=some o->s.heap.get? b=some o:=λb o e=>(I.bs b o e).1
theorem Inv.mod(I:2e0):Mod X.K X.mg X.base:=I.ok.mod
theorem Inv.Lo(I:2e0):X.K.In s.heap:=I.ok.mod.SQ.keeps I.bk
theorem Inv.nolimit(I:2e0):s.heap.NoLimit:=I.ok.mod.nolimit.keeps I.bk
theorem Inv.lt(I:2e0):X.env.locals<s.heap.objs.size:=let⟨_,hn,_⟩:=I.loc;hn.lt
theorem Inv.sz(I:2e0):X.s₀.heap.objs.size<=s.heap.objs.size:=Xb I.ok.above (XI I.lt)
theorem Inv.IK(I:2e0){a:Addr}(h:s.heap.objs.size<=a):a∉X.fs:=λhb=>by
 obtain⟨_,o,ho,_⟩:=I.ok.jS.mem hb;show absurd (YC (Yr ho) (Xb I.sz h)) (WB _)
theorem Inv.Kk(I:2e0):∀x c,X.env.cells.lookup x=some c->c≠X.env.locals:=λx c e z=>by
 obtain⟨v,o,ho,hd⟩:=I.cell x c e;obtain⟨m,⟨o',es,ep,JD,gq,_⟩,_⟩:=I.loc;rw[z,JD]at ho;cases ho;rw[gq]at hd;cases hd
theorem Inv.jS(I:2e0):s.heap.FunFrames X.base X.outer:=by
 have all:∀(l:List Env),(∀b∈ua l,b∈X.fs)->X.s₀.heap.FunFrames X.base l->s.heap.FunFrames X.base l:=by
  intro l;induction l with
  |nil=>intro _ _;trivial
  |cons env r ih=>
   intro hs hl;obtain⟨hk,⟨L,o,hf,hn,ho,hd⟩,hr⟩:=hl;have hL:L∈X.fs:=hs L (by ext ua;rw[WH,hf];show YR);obtain⟨sl,e⟩:=I.base.slot L o ho (I.ok.LN L hL) hL λz=>I.ok.Cg L z hL;show⟨hk,⟨L,_,hf,hn,e,hd⟩,ih (λb hb=>hs b (by ext ua;rw[WH,hf];show YK _ hb)) hr⟩
 show all X.outer (λ_ hb=>hb) I.ok.jS
theorem Inv.stack(I:2e0):s.heap.FunFrames X.base X.stack:=by
 rcases I.ok.Qb with e|⟨e,hf⟩
 ·rw[e];show I.jS
 ·rw[e]
  obtain⟨m,hn,_⟩:=I.loc;show .cons (by rw[I.ok.kind];decide) hf hn ?_ I.jS;show Heap.get?_none_of_le (Xb I.ok.Km I.ok.above)
theorem Inv.g9(I:2e0):∀b∈ua X.stack,b∈X.env.locals::X.fs:=λb hb=>by
 rcases I.ok.Qb with e|⟨e,hf⟩
 ·rw[e]at hb;show YK _ hb
 ·rw[e]at hb
  ext ua hb;rw[WH,hf]at hb;show hb
theorem Inv.u6(I:2e0):∀b∈ua X.stack,H b=none:=λb hb=>by
 rcases Yk.mp (I.g9 b hb)with e|hb
 ·rw[e];show I.free
 ·obtain⟨_,o,ho,_⟩:=I.ok.jS.mem hb
  show I.base.free b o ho (I.ok.LN b hb) λz=>I.ok.Cg b z hb
theorem Inv.step{g':Array KW}{t':Nat}{d':Drawn}{ch:2e1}(I:2e0)
  (zz:∀b∈ch,(b∈X.ex\/X.s₀.heap.objs.size<=b)/\b≠X.env.locals/\(∀x c,X.env.cells.lookup x=some c->c≠b)/\∀p∈X.pn++pins,p.1≠b)
  (keep:∀b o,b≠X.env.locals->b∉X.fs->b∉ch->s.heap.get? b=some o->H b=none->h'.get? b=some o)
  (slot:∀b o,b≠X.env.locals->b∈X.fs->b∉ch->s.heap.get? b=some o->H b=none->∃sl,h'.get? b=some {o with slots:=sl}) (free:∀b o,b∉ch->s.heap.get? b=some o->H b=none->H' b=none)
  (there:∀b o,b∉ch->s.heap.get? b=some o->∃o',h'.get? b=some o')
  (g8:∀b xs,H b=some (.tup xs)->H' b=some (.tup xs)) (gg:∀b o u,H b=some (.gh o u)->H' b=some (.gh o u)) (jh:∀b ps,H b=some (.Gd ps)->∃more,H' b=some (.Gd (ps++more)))
  (ns:∀m,s.heap.Ns X.env.locals m->h'.Ns X.env.locals m) (aQ:gm X.prog X.w H' h') (hg:F0 g'):
  Inv X pins σ H' {s with heap:=h',gens:=g',drawn:=d',toks:=t'}:=by
 have neL:∀b o,X.s₀.heap.get? b=some o->b≠X.env.locals:=λb o e=>Yv (YC (Yr e) I.ok.above);have Qh:∀b o,X.s₀.heap.get? b=some o->b∉X.ex->b∉ch:=λb o e hx hb=>by
  rcases(zz b hb).1 with z|z
  ·show hx z
  ·show absurd (YC (Yr e) z) (WB _)
 have cellK:∀x c,X.env.cells.lookup x=some c->∀v,s.heap.IsCell c v->h'.IsCell c v:=λx c e v h_=>by
  obtain⟨o,ho,hd⟩:=h_;have Nw:c∉ch:=λz=>(zz c z).2.2.1 x c e rfl;by_cases hc:c∈X.fs
  ·obtain⟨sl,q⟩:=slot c o (I.Kk x c e) hc Nw ho (I.eh x c e)
   show⟨_,q,hd⟩
  ·show⟨o,keep c o (I.Kk x c e) hc Nw ho (I.eh x c e),hd⟩
 show⟨I.ok,I.os,hg,⟨λb o e n hb hx=>?_,λb o e n hb hx=>?_,λb o e n hx=>?_,λb o e hx=>?_,λb xs e=>g8 b xs (I.base.g8 b xs e),λb o xs e=>gg b o xs (I.base.gg b o xs e),λb ps e=>?_⟩,?_,λx c e=>?_,?_,λx c e=>?_,λp hp=>?_,aQ,I.len⟩
 ·show keep b o (neL b o e) hb (Qh b o e hx) (I.base.keep b o e n hb hx) (I.base.free b o e n hx)
 ·obtain⟨sl,e1⟩:=I.base.slot b o e n hb hx
  obtain⟨sl',e2⟩:=slot b _ (neL b o e) hb (Qh b o e hx) e1 (I.base.free b o e n hx);show⟨sl',e2⟩
 ·obtain⟨o',e1⟩:=I.base.there b o e hx
  show free b o' (Qh b o e hx) e1 (I.base.free b o e n hx)
 ·obtain⟨o',e1⟩:=I.base.there b o e hx
  show there b o' (Qh b o e hx) e1
 ·obtain⟨m1,e1⟩:=I.base.jh b ps e
  obtain⟨m2,e2⟩:=jh b _ e1;show⟨m1++m2,by rw[e2,Array.append_assoc]⟩
 ·obtain⟨m,hn,hl⟩:=I.loc
  show⟨m,ns m hn,λi x v e1 e2 e3=>?_⟩;obtain⟨u,r,l⟩:=hl i x v e1 e2 e3;show⟨u,r,?_⟩;rcases l with l|⟨k,c,e,z⟩
  ·show .inl l
  ·show .inr ⟨k,c,e,cellK x c e _ z⟩
 ·obtain⟨v,z⟩:=I.cell x c e
  show⟨v,cellK x c e v z⟩
 ·obtain⟨m,⟨o,_,_,ho,_⟩,_⟩:=I.loc
  show free _ o (λz=>(zz _ z).2.1 rfl) ho I.free
 ·obtain⟨v,o,ho,hd⟩:=I.cell x c e
  show free c o (λz=>(zz c z).2.2.1 x c e rfl) ho (I.eh x c e)
 ·obtain⟨e,n,ne,nf,d⟩:=I.pin p hp
  have Nw:p.1∉ch:=λz=>(zz p.1 z).2.2.2 p hp rfl;show⟨keep p.1 p.2 ne nf Nw e n,free p.1 p.2 Nw e n,ne,nf,d⟩
theorem Inv.un{t':Nat}(I:2e0)(u:Un X.fs [] H H' s.heap h')(aQ:gm X.prog X.w H' h'):Inv X pins σ H' {s with heap:=h',toks:=t'}:=by
 obtain⟨m,⟨o,es,ep,ho,r⟩,_⟩:=id I.loc;obtain⟨sl,hL⟩:=u.any ho I.free 2e9;show I.step (g':=s.gens) (d':=s.drawn) (ch:=[]) (λ_ z=>nomatch z) (λb o _ hb _ e n=>u.keep b o e n hb 2e9) (λb o _ hb _ e n=>u.slot b o e n hb 2e9) (λb o _ e n=>u.free b o e n 2e9) (λb o _ e=>u.there b o e 2e9) u.g8 u.gg u.jh (λm' hm=>by
  obtain⟨o',kJ,ug,JD,r'⟩:=hm;rw[ho]at JD;cases JD;show⟨_,kJ,ug,hL,r'⟩) aQ I.bare
theorem Inv.call{g':Array KW}{t':Nat}{d':Drawn}{ch:2e1}(I:2e0)(u:Un (ua X.stack) ch H H' s.heap h')(aQ:gm X.prog X.w H' h')(hg:F0 g')
  (zz:∀b∈ch,(b∈X.ex\/X.s₀.heap.objs.size<=b)/\b≠X.env.locals/\(∀x c,X.env.cells.lookup x=some c->c≠b)/\∀p∈X.pn++pins,p.1≠b):
  Inv X pins σ H' {s with heap:=h',gens:=g',drawn:=d',toks:=t'}:=by
 obtain⟨m,⟨o,es,ep,ho,r⟩,_⟩:=id I.loc;obtain⟨sl,hL⟩:=u.any ho I.free λz=>(zz _ z).2.1 rfl;show I.step (ch:=ch) zz (λb o hL hb hc e n=>u.keep b o e n (λz=>(Yk.mp (I.g9 b z)).elim hL hb) hc) (λb o _ _ hc e n=>u.any e n hc) (λb o hc e n=>u.free b o e n hc) (λb o hc e=>u.there b o e hc) u.g8 u.gg u.jh (λm' hm=>by
  obtain⟨o',kJ,ug,JD,r'⟩:=hm;rw[ho]at JD;cases JD;show⟨_,kJ,ug,hL,r'⟩) aQ hg
theorem Inv.turned{t':Nat}{it:Addr}(I:2e0)(k:∀b o,b≠it->s.heap.get? b=some o->h'.get? b=some o)(hn:H it=none)(hL:it≠X.env.locals)
  (h1:it∈X.ex\/X.s₀.heap.objs.size<=it) (h2:∀x c,X.env.cells.lookup x=some c->c≠it) (h3:∀p∈X.pn++pins,p.1≠it):Inv X pins σ H {s with heap:=h',toks:=t'}:=by
 have Nv:∀b u,H b=some u->b≠it:=λb u e z=>by rw[z,hn]at e;cases e
 show I.step (g':=s.gens) (d':=s.drawn) (ch:=[it]) (λb hb=>?_) (λb o _ _ hc e _=>k b o (λz=>hc (by simp[z])) e) (λb o _ _ hc e _=>⟨o.slots,k b o (λz=>hc (by simp[z])) e⟩) (λ_ _ _ _ n=>n)
  (λb o hc e=>⟨o,k b o (λz=>hc (by simp[z])) e⟩) (λ_ _ e=>e) (λ_ _ _ e=>e) (λb ps e=>⟨#[],by rw[e];simp⟩) (λm hm=>?_) (λb u e=>?_) I.bare
 ·have e:b=it:=by simpa using hb
  subst e;show⟨h1,hL,h2,h3⟩
 ·obtain⟨o,es,ep,ho,r⟩:=hm
  show⟨o,es,ep,k _ o (WC hL) ho,r⟩
 ·show(I.aQ b u e).cW (λc v hc q=>k c v ?_ q) (λ_ q=>q) λ_ _ q=>q
  rcases hc with z|z
  ·rw[z];show Nv b u e
  ·show Nv c _ z
theorem Inv.tok(I:2e0)(t:Nat):Inv X pins σ H {s with toks:=t}:=I.un (h':=s.heap) (t':=t) Un.refl I.aQ
theorem Inv.kept{t':Nat}(I:2e0)(k:∀b u,s.heap.get? b=some u->h'.get? b=some u):Inv X pins σ H {s with heap:=h',toks:=t'}:=I.un (Un.kept k) (I.aQ.kept k)
theorem Inv.laid{a:Addr}{o:HO}{t':Nat}(I:2e0)(k:∀b u,s.heap.get? b=some u->h'.get? b=some u)(hp:s.heap.objs.size<=a)(new:aZ X.prog X.w (upd H a o) h' a o):
  Inv X pins σ (upd H a o) {s with heap:=h',toks:=t'}:=I.un (Un.laid k hp (I.aQ.fresh hp)) (I.aQ.laid k hp new)
theorem Inv.write{x e:Addr}{o:HO}{t':Nat}(I:2e0)(mu:P5 (H x))(he:e=x\/H e=some (.own x))(k:∀b u,b≠e->s.heap.get? b=some u->h'.get? b=some u)(LA:∃u,h'.get? e=some u)
  (new:aZ X.prog X.w (upd H x o) h' x o):Inv X pins σ (upd H x o) {s with heap:=h',toks:=t'}:=I.un (Un.write mu he k LA) (I.aQ.write mu he k LA new)
theorem Inv.dR{Gp:1e8}(I:2e0)(h:∀p∈Gp,s.heap.get? p.1=some p.2/\H p.1=none/\p.1≠X.env.locals/\p.1∉X.fs/\∀v,p.2.data≠.cell v):Inv X Gp σ H s:=
 ⟨I.ok,I.os,I.bare,I.base,I.loc,I.cell,I.free,I.eh,λp hp=>(Ym.mp hp).elim (λz=>I.pin p (Y2 _ z)) (h p),I.aQ,I.len⟩
theorem pK{N:4e3}(hN:N.Nodup){i j:Nat}{x:Str}(a:N[i]? = some x)(b:N[j]? = some x):i=j:=by
 obtain⟨h1,e1⟩:=Y6.mp a;obtain⟨h2,e2⟩:=Y6.mp b;show(UR hN).mp (e1.trans e2.symm)
theorem kY{M:Model}{A:Around}{E:1e1}{i:Nat}{x:Str}{v:V}{u:Value}{Q:Unit->Shared->Prop}(I:2e0)(hN:X.N.Nodup)(hi:X.N[i]? = some x)(hx:Loc X.env.scope x)(r:RelV v u)
  (h:∀s',Inv X pins (σ.set i (some v)) H s'->(∃a,XJ a s.heap s'.heap/\(a=X.env.locals\/X.env.cells.lookup x=some a))->Q () s') (hf:4e7:=by first|show .inl rfl|show .inr rfl|assumption):wpAny M A (storeName X.env x u) Q E s:=by
 obtain⟨m,hn,hl⟩:=id I.loc;have T4:(X.env.scope.kind==.class||(X.env.scope.kind==.module&&X.env.locals != X.env.globals))=false:=by rw[I.ok.kind];rfl
 have hiσ:i<σ.length:=by rw[I.len];show(Y6.mp hi).1
 have Kk:=I.Kk;have tracked:∀{a:Addr}{h':Heap},(∃o,s.heap.get? a=some o/\H a=none)->XJ a s.heap h'->gm X.prog X.w H h':=λ{a h'} ha hs b ob e=>by
  obtain⟨_,_,wA⟩:=ha;show(I.aQ b ob e).cW (λc w' hc q=>(hs.2 c ?_).trans q) (λ_ q=>q) λ_ _ q=>q;rintro rfl;rcases hc with rfl|hc
  ·rw[wA]at e;cases e
  ·rw[wA]at hc;cases hc
 rcases hx with hk|hk
 ·show wpAny_storeName_local hk hn (λh' Qn hs=>?_) T4
  obtain⟨oL,_,_,N9,_⟩:=id hn;show h _ ⟨I.ok,I.os,I.bare,⟨λb o e n hb hx=>?_,λb o e n hb hx=>?_,I.base.free,λb o e hx=>?_,I.base.g8,I.base.gg,I.base.jh⟩,⟨_,Qn,λj y v' e1 e2 e3=>?_⟩,λy c e=>?_,I.free,I.eh,λp hp=>?_,tracked ⟨oL,N9,I.free⟩ hs,by simpa using I.len⟩ ⟨_,hs,.inl rfl⟩
  ·show(hs.2 b (Yv (YC (Yr e) I.ok.above))).trans (I.base.keep b o e n hb hx)
  ·obtain⟨sl,e1⟩:=I.base.slot b o e n hb hx
   show⟨sl,(hs.2 b (Yv (YC (Yr e) I.ok.above))).trans e1⟩
  ·obtain⟨o',e1⟩:=I.base.there b o e hx
   show⟨o',(hs.2 b (Yv (YC (Yr e) I.ok.above))).trans e1⟩
  ·by_cases hj:j=i
   ·subst hj
    rw[hi]at e1;cases e1;rw[Xd hiσ]at e2;cases e2;show⟨u,r,.inl ⟨hk,by simp⟩⟩
   ·rw[Y3 (WC hj)]at e2
    obtain⟨u',r',q⟩:=hl j y v' e1 e2 e3;show⟨u',r',?_⟩;rcases q with⟨k,e⟩|⟨k,c,e,z⟩
    ·show .inl ⟨k,?_⟩
     have:y≠x:=λe=>hj (pK hN e1 (e▸hi));simp[this,e]
    ·show .inr ⟨k,c,e,z.sameBut hs (Kk y c e)⟩
  ·obtain⟨w',z⟩:=I.cell y c e
   show⟨w',z.sameBut hs (Kk y c e)⟩
  ·obtain⟨e,n,ne,nf,d⟩:=I.pin p hp
   show⟨(hs.2 p.1 ne).trans e,n,ne,nf,d⟩
 ·have TQ:X.fn x=true:=by
   rcases hf with z|z
   ·show z
   ·rw[z]at hk;cases hk
  obtain⟨c,hc⟩:=I.ok.has x (.inl hk);obtain⟨w',z⟩:=I.cell x c hc;show wpAny_storeName_cell I.ok.kind hk hc z (λh' DE hs=>?_);obtain⟨oc,hoc,Tt⟩:=id z;show h {s with heap:=h'} ⟨I.ok,I.os,I.bare,⟨λb o e n hb hx=>?_,λb o e n hb hx=>?_,I.base.free,λb o e hx=>?_,I.base.g8,I.base.gg,I.base.jh⟩,⟨m,hn.sameBut hs (WC (Kk x c hc)),λj y v' e1 e2 e3=>?_⟩,λy c' e=>?_,I.free,I.eh,λp hp=>?_,tracked ⟨oc,hoc,I.eh x c hc⟩ hs,by simpa using I.len⟩ ⟨c,hs,.inr hc⟩
  ·show(hs.2 b (Yv (YC (Yr e) (I.ok.O9 x c TQ hc)))).trans (I.base.keep b o e n hb hx)
  ·obtain⟨sl,e1⟩:=I.base.slot b o e n hb hx
   show⟨sl,(hs.2 b (Yv (YC (Yr e) (I.ok.O9 x c TQ hc)))).trans e1⟩
  ·obtain⟨o',e1⟩:=I.base.there b o e hx
   show⟨o',(hs.2 b (Yv (YC (Yr e) (I.ok.O9 x c TQ hc)))).trans e1⟩
  ·by_cases hj:j=i
   ·subst hj
    rw[hi]at e1;cases e1;rw[Xd hiσ]at e2;cases e2;show⟨u,r,.inr ⟨.inl hk,c,hc,DE⟩⟩
   ·rw[Y3 (WC hj)]at e2
    obtain⟨u',r',q⟩:=hl j y v' e1 e2 e3;show⟨u',r',?_⟩;rcases q with q|⟨k,c',e,z'⟩
    ·show .inl q
    ·show .inr ⟨k,c',e,z'.sameBut hs ?_⟩
     rintro rfl;show hj (pK hN e1 (I.ok.inj _ _ _ e hc▸hi))
  ·by_cases hcc:c'=c
   ·subst hcc;show⟨_,DE⟩
   ·obtain⟨w2,z2⟩:=I.cell y c' e
    show⟨w2,z2.sameBut hs hcc⟩
  ·obtain⟨e,n,ne,nf,d⟩:=I.pin p hp
   show⟨(hs.2 p.1 ?_).trans e,n,ne,nf,d⟩;intro q;rw[q,hoc]at e;have q':oc=p.2:=YO e;show d w' (by rw[←q'];show Tt)
theorem oE{M:Model}{A:Around}{E:1e1}{i:Nat}{x:Str}{v:V}{u:Value}{Q:Unit->Shared->Prop}(I:2e0)(hN:X.N.Nodup)(hi:X.N[i]? = some x)(hx:Loc X.env.scope x)(r:RelV v u)
  (h:∀s',Inv X pins (σ.set i (some v)) H s'->Q () s') (hf:4e7:=by first|show .inl rfl|show .inr rfl|assumption):wpAny M A (storeName X.env x u) Q E s:=
 kY I hN hi hx r (λs' I' _=>h s' I') hf
theorem Inv.G7{s':Shared}{ch:2e1}(I:2e0)(ho:s'.os=s.os)(u:Un (ua X.stack) ch H H' s.heap s'.heap)(aQ:gm X.prog X.w H' s'.heap)(hg:F0 s'.gens)
  (zz:∀b∈ch,(b∈X.ex\/X.s₀.heap.objs.size<=b)/\b≠X.env.locals/\(∀x c,X.env.cells.lookup x=some c->c≠b)/\∀p∈X.pn++pins,p.1≠b):Inv X pins σ H' s':=by
 obtain⟨h',g',d',t',o'⟩:=s';have e:o'=s.os:=ho;subst e;show I.call (g':=g') (t':=t') (d':=d') u aQ hg zz
end
abbrev XK:=Value->Option Addr->Hp->Prop
abbrev St:=List (Option V)
abbrev VK:=V->Hp->Prop
abbrev TE:=St->Hp->VK->Prop
abbrev TT:=St->Hp->(Bool->Hp->Prop)->Prop
abbrev TA:=St->Hp->(List V->Hp->Prop)->Prop
structure Ends where
 nx:St->Hp->Prop
 rt:VK
 bk:St->Hp->Prop:=λ_ _=>False
 ct:St->Hp->Prop:=λ_ _=>False
abbrev TS:=Ends->St->Hp->Prop
def EP(X:Cx)(pins:1e8)(σ:St)(Q:VK)(u:Value)(s':Shared):Prop:=∃v H',Inv X pins σ H' s'/\RelV v u/\Q v H'
def TP(X:Cx)(pins:1e8)(σ:St)(Q:Bool->Hp->Prop)(b:Bool)(s':Shared):Prop:=∃H',Inv X pins σ H' s'/\Q b H'
def AP(X:Cx)(pins:1e8)(σ:St)(Q:List V->Hp->Prop)(us:2e6)(s':Shared):Prop:=∃vs H',Inv X pins σ H' s'/\Vals vs us/\Q vs H'
def SP(X:Cx)(pins:1e8)(D:Ends)(f:Flow)(s':Shared):Prop:=
 match f with
 |.next=>∃σ' H',Inv X pins σ' H' s'/\D.nx σ' H'
 |.brk=>∃σ' H',Inv X pins σ' H' s'/\D.bk σ' H'
 |.cont=>∃σ' H',Inv X pins σ' H' s'/\D.ct σ' H'
 |.ret u=>∃v σ' H',Inv X pins σ' H' s'/\RelV v u/\D.rt v H'
def PE(X:Cx)(e:Expr)(t:TE):Prop:=
 ∀(pins:1e8)(s:Shared)(σ:St)(H:Hp)(Q:VK),Inv X pins σ H s->t σ H Q->wpAny 2e2 X.A (eval e X.env) (EP X pins σ Q) X.xe s
def PT(X:Cx)(e:Expr)(t:TT):Prop:=
 ∀(pins:1e8)(s:Shared)(σ:St)(H:Hp)(Q:Bool->Hp->Prop),Inv X pins σ H s->t σ H Q->wpAny 2e2 X.A (isTrue e X.env (eval e X.env)) (TP X pins σ Q) X.xe s
def PW(X:Cx)(e:Expr)(t:TT):Prop:=
 ∀(whole:Sem Value)(pins:1e8)(s:Shared)(σ:St)(H:Hp)(Q:Bool->Hp->Prop),Inv X pins σ H s->t σ H Q->wpAny 2e2 X.A (isTrue e X.env whole) (TP X pins σ Q) X.xe s
def PA(X:Cx)(es:3e4)(t:TA):Prop:=
 ∀(pos:Pos)(pins:1e8)(s:Shared)(σ:St)(H:Hp)(Q:List V->Hp->Prop),Inv X pins σ H s->t σ H Q->wpAny 2e2 X.A (spliced (backTo pos (Yt es X.env))) (AP X pins σ Q) X.xe s
def PS(X:Cx)(st:Stmt)(t:TS):Prop:=
 ∀(pins:1e8)(s:Shared)(σ:St)(H:Hp)(D:Ends),Inv X pins σ H s->t D σ H->wpAny 2e2 X.A (exec st X.env) (SP X pins D) X.xe s
def kQ(X:Cx)(st:List Stmt)(t:TS):Prop:=
 ∀(pins:1e8)(s:Shared)(σ:St)(H:Hp)(D:Ends),Inv X pins σ H s->t D σ H->wpAny 2e2 X.A (execs st X.env) (SP X pins D) X.xe s
theorem bS{α:Type}{t:Sem α}{Q Q':α->Shared->Prop}{M:Model}{A:Around}{E:1e1}{s:Shared}(h:wpAny M A t Q E s)(hQ:∀a s,Q a s->Q' a s):wpAny M A t Q' E s:=Xk h hQ λ_ _ x=>x
section
variable{X:Cx}
noncomputable def HU (i:Nat):TE:=λσ H Q=>∃v,σ[i]? = some (some v)/\Q v H
noncomputable def tC (v:V):TE:=λ_ H Q=>Q v H
theorem sN{i:Nat}{x:Str}{pos:Pos}(hN:X.N[i]? = some x)(hv:Ml X.env.scope x)(hd:3e2:=by decide)(ou:(x==("__classdict__":Str))=false:=by decide):PE X (.Name x pos) (HU i):=by
 intro pins s σ H Q I h;obtain⟨v,e,h⟩:=h;obtain⟨m,hn,hl⟩:=I.loc;obtain⟨u,r,l⟩:=hl i x v hN e hv;have fin:EP X pins σ Q u s:=⟨v,H,I,r,h⟩
 rcases l with⟨hk,hm⟩|⟨hk,c,hc,wB⟩
 ·show wpAny_Name (wpAny_loadName_local I.ok.kind hk hn hm fin) hd
 ·rcases hk with hk|hk
  ·show wpAny_Name (wpAny_loadName_cell I.ok.kind hk hc wB fin) hd
  ·show wpAny_Name (wpAny_loadName_free I.ok.kind hk hc wB fin ou) hd
theorem Iy{i j pos}:PE X (.Constant (.int i) j pos) (tC (.int i)):=λ_ _ _ H _ I h=>wpAny_Constant_int ⟨.int i,H,I.tok _,⟨_,rfl⟩,h⟩
theorem Iu{x j pos}:PE X (.Constant (.str x) j pos) (tC (.str x)):=λ_ _ _ H _ I h=>Calls.Constant_str ⟨.str x,H,I.tok _,⟨_,rfl⟩,h⟩
def Gl(X:Cx)(x:Str):Prop:=X.env.kindOf x=some .globalImplicit
theorem vX{E:1e1}{pins:1e8}{s:Shared}{σ:St}{H:Hp}{x:Str}{u:Value}{pos:Pos}{Q:1e1}(I:2e0)(hg:Gl X x)(hm:X.mg x=some u)(h:Q u s)
  (hd:3e2:=by decide):wpAny 2e2 X.A (eval (.Name x pos) X.env) Q E s:=
 Yaj I.ok.kind hg (Calls.loadGlobal_global (by rw[I.ok.glob];show I.mod.glob.keeps I.bk) hm h) hd
theorem FQ{E:1e1}{pins:1e8}{s:Shared}{σ:St}{H:Hp}{x:Str}{u:Value}{pos:Pos}{Q:1e1}(I:2e0)(hg:Gl X x)(hm:X.mg x=none)(hv:XB x=some u)(h:Q u s)
  (hn:x≠"__name__":=by decide) (hd:3e2:=by decide):wpAny 2e2 X.A (eval (.Name x pos) X.env) Q E s:=by
 obtain⟨mb,h1,h2⟩:=I.mod.blt;show Yaj I.ok.kind hg (Calls.loadGlobal_builtin (by rw[I.ok.glob];show I.mod.glob.keeps I.bk) hm (by rw[I.ok.blt];show h1.keeps I.bk) ((h2 x hn).trans hv) h) hd
theorem Ez{x:Str}{v:V}{u:Value}{pos:Pos}(hg:Gl X x)(hm:X.mg x=some u)(r:RelV v u)(hd:3e2:=by decide):PE X (.Name x pos) (tC v):=
 λ_ _ _ H _ I h=>vX I hg hm ⟨v,H,I,r,h⟩ hd
variable{a b:Expr}{ta tb:TE}{pos:Pos}
variable{tA tB':TT}{rest:3e4}
noncomputable def RZ (t u:TT):TT:=λσ H Q=>t σ H λc H1=>if c=true then u σ H1 Q else Q false H1
theorem Ej(ha:PT X a tA):PW X (.BoolOp .And [a] pos) tA:=by
 intro wh pins s σ H Q I h;show isTrue_and (bS (ha pins s σ H Q I h) λc s1 e=>?_);cases c with
 |true=>show isTrue_and_nil e
 |false=>show e
theorem Im(ha:PT X a tA)(hb:PW X (.BoolOp .And (b::rest) pos) tB'):PW X (.BoolOp .And (a::b::rest) pos) (RZ tA tB'):=by
 intro wh pins s σ H Q I h;show isTrue_and (bS (ha pins s σ H _ I h) λc s1 h_=>?_);obtain⟨H1,I1,q1⟩:=h_;cases c with
 |true=>show hb wh pins s1 σ H1 Q I1 q1
 |false=>show⟨H1,I1,q1⟩
noncomputable def MO (ta tb:TE):TE:=λσ H Q=>ta σ H λx H1=>∃c,x=.bl c/\if c=true then tb σ H1 Q else Q (.bl false) H1
theorem Iv{op}{t:TE}(h:PE X a t):PE X (.BoolOp op [a] pos) t:=λpins s σ H Q I hw=>BoolOp_one (h pins s σ H Q I hw)
theorem Iz(ha:PE X a ta)(hb:PE X (.BoolOp .And (b::rest) pos) tb):PE X (.BoolOp .And (a::b::rest) pos) (MO ta tb):=by
 intro pins s σ H Q I h;show BoolOp_and (bS (ha pins s σ H _ I h) λv s1 h_=>?_);obtain⟨x,H1,I1,r1,q1⟩:=h_;obtain⟨c,rfl,q1⟩:=q1;cases r1;show VM ?_;cases c with
 |true=>show hb pins s1 σ H1 Q I1 q1
 |false=>show⟨.bl false,H1,I1,rfl,q1⟩
end
def fy(K:W.Frag)(H:Hp)(a:Addr)(xs:List V):Prop:=
 Rd H a (.lst xs)\/
  ∃(o:Obj)(aw:Array Value)(n:Nat),K.lookup a=some o/\o.cls=.type "list"/\o.dict=none/\o.data=.seq aw n/\aw.size<=YA/\Vals xs aw.toList
def kg(K:W.Frag)(H:Hp)(a:Addr)(xs:List V):Prop:=
 Rd H a (.tup xs)\/
  ∃(o:Obj)(aw:Array Value)(n:Nat),K.lookup a=some o/\o.cls=.type "tuple"/\o.data=.seq aw n/\aw.size<=YA/\Vals xs aw.toList
noncomputable def ZD:Value->Option V
 |.none=>some .aF
 |.bool b=>some (.bl b)
 |.int i _=>some (.int i)
 |.str x _=>some (.str x)
 |.bytes b _=>some (.yV b)
 |.float b _=>some (.Zm b)
 |.ref a=>some (.ref a)
 |.type n=>some (.ty n)
 |_=>none
theorem RelV.abs{x:V}{u:Value}(r:RelV x u):ZD u=some x:=by
 cases x with
 |aF=>cases r;rfl
 |bl _=>cases r;rfl
 |int _=>obtain⟨t,rfl⟩:=r;rfl
 |str _=>obtain⟨t,rfl⟩:=r;rfl
 |yV _=>obtain⟨t,rfl⟩:=r;rfl
 |Zm _=>obtain⟨t,rfl⟩:=r;rfl
 |ref _=>cases r;rfl
 |ty _=>cases r;rfl
theorem RelV.inj{x y:V}{u:Value}(r:RelV x u)(q:RelV y u):x=y:=YO (r.abs.symm.trans q.abs)
theorem Vals.inj:∀{xs ys:List V}{us:2e6},Vals xs us->Vals ys us->xs=ys
 |_,_,_,.nil,.nil=>rfl
 |_,_,_,.cons r t,.cons r' t'=>by rw[r.inj r',Vals.inj t t']
section
variable{X:Cx}{pins:1e8}{σ:St}{H:Hp}{s:Shared}{a:Addr}{xs ys:List V}
theorem fy.of{K:W.Frag}(h:H a=some (.lst xs)):fy K H a xs:=.inl (.inl h)
theorem Inv.list(I:2e0)(h:fy X.K H a xs):∃aw:List Value,Vals xs aw/\PlainL s.heap a aw.toArray/\xs.length<=sizeLine:=by
 rcases h with h|⟨o,aw,n,hk,hc,hd,hs,hz,r⟩
 ·obtain⟨z,aw,n,r,e⟩:=h.ok I.aQ
  show⟨aw,r,⟨_,n,e,rfl,rfl,rfl⟩,z⟩
 ·show⟨aw.toList,r,⟨o,n,I.Lo a o hk,hc,hd,by simpa using hs⟩,?_⟩
  have e:=r.length;simp only[Xi]at e;lia
theorem Inv.tuple(I:2e0)(h:kg X.K H a xs):∃aw:List Value,Vals xs aw/\IsTup s.heap a aw.toArray/\xs.length<=sizeLine:=by
 rcases h with h|⟨o,aw,n,hk,hc,hs,hz,r⟩
 ·obtain⟨z,aw,r,p⟩:=h.ok I.aQ
  show⟨aw,r,p,z⟩
 ·show⟨aw.toList,r,⟨o,I.Lo a o hk,hc,n,by simpa using hs⟩,?_⟩
  have e:=r.length;simp only[Xi]at e;lia
theorem Inv.pY(I:2e0)(h:fy X.K H a xs)(h':fy X.K H a ys):xs=ys:=by
 obtain⟨aw,r,⟨o,n,e,_,_,d⟩,_⟩:=I.list h;obtain⟨its',r',⟨o',n',e',_,_,d'⟩,_⟩:=I.list h';rw[e]at e';cases e';rw[d]at d';injection d' with d1 _;have:aw=its':=by simpa using congrArg Array.toList d1
 subst this;show r.inj r'
theorem Inv.xp(I:2e0)(h:kg X.K H a xs)(h':kg X.K H a ys):xs=ys:=by
 obtain⟨aw,r,⟨o,e,_,n,d⟩,_⟩:=I.tuple h;obtain⟨its',r',⟨o',e',_,n',d'⟩,_⟩:=I.tuple h';rw[e]at e';cases e';rw[d]at d';injection d' with d1 _;have:aw=its':=by simpa using congrArg Array.toList d1
 subst this;show r.inj r'
end
noncomputable abbrev Cx.km (X:Cx)(E:1e1):Cx:={X with xe:=E}
abbrev Cx.EG(X:Cx):Cx:=X.km λ_ _=>False
theorem Cx.Ok.km{X:Cx}(ok:X.Ok)(E:1e1):(X.km E).Ok:=
 ⟨ok.mod,ok.kind,ok.glob,ok.blt,ok.above,ok.inj,ok.has,ok.O9,ok.hd,ok.frames,ok.Qb,ok.Zp,ok.bs,ok.Km,ok.yb,ok.Cg,ok.jS,ok.LN⟩
theorem Cx.Ok.fA{X:Cx}{E:1e1}(ok:(X.km E).Ok):X.Ok:=
 ⟨ok.mod,ok.kind,ok.glob,ok.blt,ok.above,ok.inj,ok.has,ok.O9,ok.hd,ok.frames,ok.Qb,ok.Zp,ok.bs,ok.Km,ok.yb,ok.Cg,ok.jS,ok.LN⟩
section
variable{X:Cx}{pins:1e8}{σ:St}{H:Hp}{s:Shared}{E:1e1}
theorem Inv.km(I:2e0)(E:1e1):Inv (X.km E) pins σ H s:=⟨I.ok.km E,I.os,I.bare,I.base,I.loc,I.cell,I.free,I.eh,I.pin,I.aQ,I.len⟩
theorem Inv.fA(I:Inv (X.km E) pins σ H s):Inv X pins σ H s:=⟨I.ok.fA,I.os,I.bare,I.base,I.loc,I.cell,I.free,I.eh,I.pin,I.aQ,I.len⟩
theorem SP.fA{D:Ends}{f:Flow}{s':Shared}(h:SP (X.km E) pins D f s'):SP X pins D f s':=by
 cases f with
 |next=>obtain⟨σ',H',I,q⟩:=h;show⟨σ',H',I.fA,q⟩
 |brk=>obtain⟨σ',H',I,q⟩:=h;show⟨σ',H',I.fA,q⟩
 |cont=>obtain⟨σ',H',I,q⟩:=h;show⟨σ',H',I.fA,q⟩
 |ret u=>obtain⟨v,σ',H',I,r,q⟩:=h;show⟨v,σ',H',I.fA,r,q⟩
theorem kQ.EG{st:List Stmt}{t:TS}(h:kQ X.EG st t):kQ X st t:=λpins s σ H D I hw=>
 Xk (h pins s σ H D (I.km _) hw) (λ_ _ q=>q.fA) λ_ _ z=>Vs z
end
section
variable{X:Cx}{st:Stmt}{rest:List Stmt}{t u:TS}{e:Expr}{te:TE}{pos:Pos}
noncomputable def MH:TS:=λD σ H=>D.nx σ H
noncomputable def RO (t u:TS):TS:=λD σ H=>t {D with nx:=u D} σ H
theorem Ep:kQ X [] MH:=λ_ _ σ H _ I h=>U6 ⟨σ,H,I,h⟩
theorem QX(h1:PS X st t)(h2:kQ X rest u):kQ X (st::rest) (RO t u):=by
 intro pins s σ H D I h;show wpAny_execs_cons (bS (h1 pins s σ H {D with nx:=u D} I h) λf s1 q=>?_);cases f with
 |next=>
  obtain⟨σ',H',I',q⟩:=q;show h2 pins s1 σ' H' D I' q
 |ret v=>show q
 |brk=>show q
 |cont=>show q
theorem mV(h1:PS X st t):kQ X [st] t:=by
 intro pins s σ H D I h;show wpAny_execs_cons (bS (h1 pins s σ H D I h) λf s1 q=>?_);cases f with
 |next=>show U6 q
 |ret v=>show q
 |brk=>show q
 |cont=>show q
theorem Inv.quiet{pins:1e8}{σ:St}{H:Hp}{s:Shared}(I:2e0):interactive X.env=false:=by simp[interactive,I.ok.kind]
noncomputable def ML (te:TE):TS:=λD σ H=>te σ H λ_ H1=>D.nx σ H1
theorem vm(he:PE X e te)(hs:Vn e none pos.line X.env=pure false:=by rfl):PS X (.Expr e pos) (ML te):=by
 intro pins s σ H D I h;show wpAny_Expr_any (bS (he pins s σ H _ I h) λv s1 ⟨x,H1,I1,r1,q1⟩=>⟨σ,H1,I1,q1⟩) I.quiet hs
noncomputable def RQ (te:TE):TS:=λD σ H=>te σ H D.rt
theorem mW(he:PE X e te):PS X (.Return (some e) pos) (RQ te):=by
 intro pins s σ H D I h;show wpAny_Return_some (bS (he pins s σ H _ I h) λv s1 ⟨x,H1,I1,r1,q1⟩=>⟨x,σ,H1,I1,r1,q1⟩)
noncomputable def RV (c:TT)(t u:TS):TS:=λD σ H=>c σ H λb H1=>if b=true then t D σ H1 else u D σ H1
theorem Nh{c:Expr}{a b:List Stmt}{tc:TT}(hc:PT X c tc)(ha:kQ X a t)(hb:kQ X b u):PS X (.If c a b pos) (RV tc t u):=by
 intro pins s σ H D I h;show wpAny_If (bS (hc pins s σ H _ I h) λd s1 h_=>?_);obtain⟨H1,I1,q1⟩:=h_;cases d with
 |true=>show ha pins s1 σ H1 D I1 q1
 |false=>show hb pins s1 σ H1 D I1 q1
end
abbrev TG:=V->St->Hp->(St->Hp->Prop)->Prop
abbrev F1:=List V->St->Hp->(St->Hp->Prop)->Prop
def PG(X:Cx)(target:Expr)(t:TG):Prop:=
 ∀(pins:1e8)(s:Shared)(σ:St)(H:Hp)(v:V)(u:Value)(Q:St->Hp->Prop),Inv X pins σ H s->RelV v u->t v σ H Q->
  wpAny 2e2 X.A (assign target X.env u) (λ_ s'=>∃σ' H',Inv X pins σ' H' s'/\Q σ' H') X.xe s
def DO(X:Cx)(ts:3e4)(t:F1):Prop:=
 ∀(pins:1e8)(s:Shared)(σ:St)(H:Hp)(vs:List V)(us:2e6)(Q:St->Hp->Prop),Inv X pins σ H s->Vals vs us->t vs σ H Q->
  wpAny 2e2 X.A (assignInOrder ((W6 ts X.env).map (·.2)) us) (λ_ s'=>∃σ' H',Inv X pins σ' H' s'/\Q σ' H') X.xe s
abbrev K0:=V->V->V->Hp->(Hp->Prop)->Prop
def P1(X:Cx)(t:K0):Prop:=
 ∀(pins:1e8)(s:Shared)(σ:St)(H:Hp)(o i v:V)(ov iv u:Value)(Q:Hp->Prop),Inv X pins σ H s->RelV o ov->RelV i iv->RelV v u->t o i v H Q->
  wpAny 2e2 X.A (setItem ov iv u) (λ_ s'=>∃H',Inv X pins σ H' s'/\Q H') X.xe s
section
variable{X:Cx}{pos:Pos}
noncomputable def GQ (i:Nat):TG:=λv σ H Q=>Q (σ.set i (some v)) H
theorem Ey{i:Nat}{x:Str}(hN:X.N.Nodup)(hi:X.N[i]? = some x)(hx:Loc X.env.scope x)(hf:4e7:=by first|show .inl rfl|show .inr rfl|assumption):PG X (.Name x pos) (GQ i):=by
 intro pins s σ H v u Q I r h;show wpAny_assign_Name (oE I hN hi hx r (λs' I'=>⟨_,H,I',h⟩) hf)
noncomputable def Zj:F1:=λvs σ H Q=>vs=[]/\Q σ H
noncomputable def OP (t:TG)(u:F1):F1:=λvs σ H Q=>∃v r,vs=v::r/\t v σ H λσ' H'=>u r σ' H' Q
theorem Ew:DO X [] Zj:=by
 intro pins s σ H vs us Q I r h;obtain⟨e,h⟩:=h;subst e;cases r;show assignInOrder_nil ⟨σ,H,I,h⟩
theorem AK{e:Expr}{es:3e4}{t:TG}{u:F1}(h1:PG X e t)(h2:DO X es u)
  (hs:(W6 4e4 X.env).map (·.2)=assign e X.env::(W6 es X.env).map (·.2):=by rfl):DO X 4e4 (OP t u):=by
 intro pins s σ H vs us Q I r h;obtain⟨v,vr,e1,h⟩:=h;subst e1;cases r with
 |cons r rr=>
  rw[hs];show assignInOrder_cons (bS (h1 pins s σ H _ _ _ I r h) λ_ s1 h_=>?_);obtain⟨σ1,H1,I1,q1⟩:=h_;show h2 pins s1 σ1 H1 _ _ Q I1 rr q1
noncomputable def Zh (K:W.Frag)(n:Nat)(t:F1):TG:=λv σ H Q=>∃a xs,v=.ref a/\kg K H a xs/\xs.length=n/\t xs σ H Q
theorem Iq{es:3e4}{k:Nat}{t:F1}{n:Nat}(hc:5e1)(h:DO X es t)
  (hn:(W6 es X.env).length=n:=by rfl) (t7:(W6 es X.env).findIdx? (·.1)=none:=by rfl):PG X (.Tuple es k pos) (Zh X.K n t):=by
 intro pins s σ H v u Q I r hw;obtain⟨a,xs,e1,hq,hl,hw⟩:=hw;subst e1;cases r;obtain⟨aw,rv,ht,hz⟩:=I.tuple hq;show assign_Tuple_tuple (I.ok.hd hc) ht (by simp[hn,←hl,rv.length]) t7 λh' hx=>?_;have I1:Inv X pins σ H {s with heap:=h'}:=I.kept (t':=s.toks) λb o e=>hx b o (Yv (Yr e)) e;show h pins _ σ H xs _ Q I1 (by simpa using rv) hw
noncomputable def Zi (to ti:TE)(t:K0):TG:=λv σ H Q=>to σ H λo H1=>ti σ H1 λi H2=>t o i v H2 λH3=>Q σ H3
theorem Ir{o i:Expr}{to ti:TE}{t:K0}(ho:PE X o to)(hi:PE X i ti)(hs:P1 X t)
  (ha:∀v,assign (.Subscript o i pos) X.env v=(do
   let ov ←Dl [v] (eval o X.env)
   let iv ←Dl [v,ov] (eval i X.env)
   standAt pos
   Dl [v,ov,iv] (setItem ov iv v)
   release [v,ov,iv] []):=by intro _;rfl):PG X (.Subscript o i pos) (Zi to ti t):=by
 intro pins s σ H v u Q I r h;rw[ha];show Ya (Xf (bS (ho pins s σ H _ I h) λov s1 h_=>?_));obtain⟨x,H1,I1,r1,q1⟩:=h_;show Ya (Xf (bS (hi pins s1 σ H1 _ I1 q1) λiv s2 h_=>?_));obtain⟨y,H2,I2,r2,q2⟩:=h_;show Ya (VN (Ya (Xf (bS (hs pins s2 σ H2 x y v ov iv u _ I2 r1 r2 r q2) λ_ s3 h_=>?_))));obtain⟨H3,I3,q3⟩:=h_;show wpAny_release ⟨σ,H3,I3,q3⟩
noncomputable def MN (te:TE)(g:TG):TS:=λD σ H=>te σ H λx H1=>g x σ H1 D.nx
theorem AB{tg e:Expr}{te:TE}{g:TG}(he:PE X e te)(hg:PG X tg g)(hs:swapsWithSole [tg] e pos.line X.env=pure false:=by rfl)(hw:swappedStores [tg] e X.env=pure none:=by rfl)
  (h1:(W6 [tg] X.env).map (·.2)=[assign tg X.env]:=by rfl):PS X (.Assign [tg] e pos) (MN te g):=by
 intro pins s σ H D I h;show wpAny_Assign_stores (bS (he pins s σ H _ I h) λv s1 ⟨x,H1,I1,r1,q1⟩=>?_) hs hw;rw[h1];show bS (hg pins s1 σ H1 x v _ I1 r1 q1) λ_ s2 q=>q
theorem jx{i:Nat}{x:Str}{e:Expr}{te:TE}{pos':Pos}(hN:X.N.Nodup)(hi:X.N[i]? = some x)(hx:Loc X.env.scope x)(he:PE X e te)(hs:Vn e (some (.Name x pos')) pos.line X.env=pure false:=by rfl)(hf:4e7:=by first|show .inl rfl|show .inr rfl|assumption):
  PS X (.Assign [.Name x pos'] e pos) (MN te (GQ i)):=by
 intro pins s σ H D I h;show wpAny_Assign_Name (bS (he pins s σ H _ I h) λv s1 ⟨y,H1,I1,r1,q1⟩=>?_) hs;show oE I1 hN hi hx r1 (λs2 I2=>⟨_,H1,I2,q1⟩) hf
noncomputable def HS (c:TT)(tb:TS):TS:=λD σ H=>∃W:Nat->St->Hp->Prop,(∃m,W m σ H)/\∀m σ H,W m σ H->
 c σ H λb H1=>if b=true then ∃N:St->Hp->Prop,(∀σ' H',N σ' H'->∃m',m'<m/\W m' σ' H')/\tb {D with nx:=N,ct:=N,bk:=D.nx} σ H1 else D.nx σ H1
theorem Az{c:Expr}{body:List Stmt}{tc:TT}{tb:TS}(hp:U7 2e2 X.A X.env X.xe)(hc:PT X c tc)(hb:kQ X body tb):PS X (.While c body [] pos) (HS tc tb):=by
 intro pins s σ H D I h;obtain⟨W,⟨m0,w0⟩,turn⟩:=h;show wpAny_While (codeAny_whileLoop (λn s'=>∃σ' H',Inv X pins σ' H' s'/\W n σ' H') ?_ m0 ⟨σ,H,I,w0⟩);rintro n s1 ⟨σ1,H1,I1,w1⟩;show W7 hp (bS (hc pins s1 σ1 H1 _ I1 (turn n σ1 H1 w1)) λb s2 h_=>?_);obtain⟨H2,I2,q2⟩:=h_;cases b with
 |true=>
  obtain⟨N,hN,q2⟩:=q2;rw[if_pos rfl];show W7 hp (bS (hb pins s2 σ1 H2 _ I2 q2) λf s3 q3=>?_);cases f with
  |next=>
   obtain⟨σ3,H3,I3,n3⟩:=q3;obtain⟨m',hm,w3⟩:=hN σ3 H3 n3;show⟨m',hm,σ3,H3,I3,w3⟩
  |cont=>
   obtain⟨σ3,H3,I3,n3⟩:=q3;obtain⟨m',hm,w3⟩:=hN σ3 H3 n3;show⟨m',hm,σ3,H3,I3,w3⟩
  |brk=>show q3
  |ret v=>show q3
 |false=>
  rw[if_neg Yw];show U6 ⟨σ1,H2,I2,q2⟩
end
structure It where
 go:Nat->Hp->Prop
 uY:Nat->Hp->V->Hp->Prop
 stop:Nat->Hp->Prop
def eV(X:Cx)(pins:1e8)(H:Hp)(b:Addr):Prop:=
 H b=none/\b≠X.env.locals/\b∉X.fs/\(b∈X.ex\/X.s₀.heap.objs.size<=b)/\(∀x c,X.env.cells.lookup x=some c->c≠b)/\∀p∈X.pn++pins,p.1≠b
theorem Inv.yB{X:Cx}{pins:1e8}{σ:St}{H H':Hp}{s:Shared}{b:Addr}(I:2e0)(hb:s.heap.objs.size<=b)(hn:H' b=none):eV X pins H' b:=by
 show⟨hn,XU (YC I.lt hb),I.IK hb,.inr (Xb I.sz hb),λx c e z=>?_,λp hp z=>?_⟩
 ·obtain⟨v,q⟩:=I.cell x c e
  show absurd (YC q.lt (by rw[z];show hb)) (WB _)
 ·show absurd (YC (Yr (I.pin p hp).1) (by rw[z];show hb)) (WB _)
structure Turn(P:YF)(w:World)(K:W.Frag)(tg:Expr)(J:It)(fp:List Addr)(it:Addr)(tn:Nat->Heap->Prop):Prop where
 mem:it∈fp
 obj:∀i h,tn i h->∀b∈fp,∃o,h.get? b=some o/\∀v,o.data≠.cell v
 keep:∀i h h',tn i h->(∀b∈fp,∀o,h.get? b=some o->h'.get? b=some o)->tn i h'
 item:∀(X:Cx),X.prog=P->X.w=w->X.K=K->X.calm=true->∀(i:Nat)(pins:1e8)(s:Shared)(σ:St)(H:Hp)(E:1e1),Inv X pins σ H s->(∀b∈fp,eV X pins H b)->tn i s.heap->J.go i H->
  wpAny (model P w) X.A (pyNext (.ref it)) (λr s1=>∃u,r=some u/\
   wpAny (model P w) X.A (WI tg (.ref it) u) (λ_ s2=>∃x H',Inv X pins σ H' s2/\RelV x u/\J.uY i H x H'/\tn (i+1) s2.heap/\∀b∈fp,H' b=none) E s1) E s
 done:∀(X:Cx),X.prog=P->X.w=w->X.K=K->X.calm=true->∀(i:Nat)(pins:1e8)(s:Shared)(σ:St)(H:Hp)(E:1e1),Inv X pins σ H s->(∀b∈fp,eV X pins H b)->tn i s.heap->J.stop i H->
  wpAny (model P w) X.A (pyNext (.ref it)) (λr s1=>r=none/\Inv X pins σ H s1) E s
 self:∀(A:Around)(i:Nat)(s:Shared)(Q:1e1)(E:1e1),tn i s.heap->Q (.ref it) s->wpAny (model P w) A (pyIter (.ref it)) Q E s
abbrev TI:=St->Hp->(It->Hp->Prop)->Prop
def PIE(X:Cx)(pins:1e8)(σ:St)(tg:Expr)(R:It->Hp->Prop)(Lp:Value)(s2:Shared):Prop:=
 ∃(it:Addr)(fp:2e1)(tn:Nat->Heap->Prop)(J:It)(H':Hp),Lp=.ref it/\Inv X pins σ H' s2/\Turn X.prog X.w X.K tg J fp it tn/\tn 0 s2.heap/\(∀b∈fp,eV X pins H' b)/\R J H'
def PI(X:Cx)(tg iter:Expr)(wi:TI):Prop:=
 ∀(pins:1e8)(s:Shared)(σ:St)(H:Hp)(R:It->Hp->Prop),Inv X pins σ H s->wi σ H R->
  wpAny 2e2 X.A (eval iter X.env) (λv s1=>wpAny 2e2 X.A (pyIter v) (PIE X pins σ tg R) X.xe s1) X.xe s
theorem lP{M:Model}{A:Around}{E:1e1}{s:Shared}{tg:Expr}{it:Addr}{u:Value}{o:Obj}{n:String}{vs:Array Value}{Q:Unit->Shared->Prop}(ho:s.heap.get? it=some o)(hc:o.cls=.type n)(hd:o.data=.fields vs)
    (hn:["enumerate","zip","dict_itemiterator","dict_reverseitemiterator","odict_iterator","itertools.zip_longest","itertools.pairwise"].contains n=false) (hQ:Q () s):wpAny M A (WI tg (.ref it) u) Q E s:=by
  ext WI;cases tg<;>first
    |show Yc hQ
    | (cases u<;>first
        |show Yc hQ
        | (show Ya (wpAny_load ho ?_)
           rw[hc,hd];change wpAny M A (if(["enumerate","zip","dict_itemiterator","dict_reverseitemiterator","odict_iterator","itertools.zip_longest","itertools.pairwise"].contains n&&vs[0]?==some (rawInt _))=true then _ else _) Q E s;rw[if_neg (by intro h;rw[hn,Bool.false_and]at h;cases h)];show Yc hQ))
noncomputable def Itl (K:W.Frag)(a:Addr):It:=
 ⟨λi H=>∃xs x,fy K H a xs/\xs[i]? = some x,λi H x H'=>H'=H/\∀xs,fy K H a xs->xs[i]? = some x,λi H=>∃xs,fy K H a xs/\xs.length<=i⟩
noncomputable def Itt (K:W.Frag)(a:Addr):It:=
 ⟨λi H=>∃xs x,kg K H a xs/\xs[i]? = some x,λi H x H'=>H'=H/\∀xs,kg K H a xs->xs[i]? = some x,λi H=>∃xs,kg K H a xs/\xs.length<=i⟩
noncomputable def RF (lo:Int)(n:Nat):It:=⟨λi _=>i<n,λi H x H'=>H'=H/\x=.int (lo+i),λi _=>n<=i⟩
theorem xl{P:YF}{w:World}{K:W.Frag}{tg:Expr}(a it:Addr):Turn P w K tg (Itl K a) [it] it (λi h=>h.IsListIter it a i) where
 mem:=by simp
 obj:=λi h st b hb=>by
  have e:b=it:=by simpa using hb
  subst e;obtain⟨o,e,c,d⟩:=st;show⟨o,e,λv z=>by rw[d]at z;cases z⟩
 keep:=λi h h' st k=>st.at λo e=>k it 2e9 o e
 item:=by
  sleep 1;obtain⟨xs,x,hq,hx⟩:=hg;obtain⟨aw,rv,p,hz⟩:=I.list hq;obtain⟨u,hu,ru⟩:=rv.get hx;sleep 3;show wpAny_pyNext_list_item st p.isList (x:=u) (by simpa using hu) λh' aC sb=>?_;have I1:Inv X pins σ H {s with heap:=h'}:=I.turned (t':=s.toks) (λb o hb e=>(sb.2 b hb).trans e) f0 f1 f3 f4 f5;obtain⟨o,e,c,d⟩:=id aC;show⟨u,rfl,lP (s:={s with heap:=h'}) e c d (by decide) ⟨x,H,I1,ru,⟨rfl,λys hy=>by rw[I.pY hy hq];show hx⟩,aC,λb hb=>(hf b hb).1⟩⟩
 done:=by
  sleep 1;obtain⟨xs,hq,hx⟩:=hg;obtain⟨aw,rv,p,hz⟩:=I.list hq;sleep 3;have hl:=rv.length;show wpAny_pyNext_list_end (I.ok.hd hc) st p.isList 6e3 λh' eb=>9e9
 self:=λ_ _ _ _ _ st h=>wpAny_pyIter_listiter st h
theorem rO{P:YF}{w:World}{K:W.Frag}{tg:Expr}(a it:Addr):Turn P w K tg (Itt K a) [it] it (λi h=>h.IsTupleIter it a i) where
 mem:=by simp
 obj:=λi h st b hb=>by
  have e:b=it:=by simpa using hb
  subst e;obtain⟨o,e,c,d⟩:=st;show⟨o,e,λv z=>by rw[d]at z;cases z⟩
 keep:=λi h h' st k=>st.at λo e=>k it 2e9 o e
 item:=by
  sleep 1;obtain⟨xs,x,hq,hx⟩:=hg;obtain⟨aw,rv,p,hz⟩:=I.tuple hq;obtain⟨u,hu,ru⟩:=rv.get hx;sleep 3;show wpAny_pyNext_tuple_item st (show s.heap.IsTuple a aw.toArray from p) (x:=u) (by simpa using hu) λh' aC sb=>?_;have I1:Inv X pins σ H {s with heap:=h'}:=I.turned (t':=s.toks) (λb o hb e=>(sb.2 b hb).trans e) f0 f1 f3 f4 f5;obtain⟨o,e,c,d⟩:=id aC;show⟨u,rfl,lP (s:={s with heap:=h'}) e c d (by decide) ⟨x,H,I1,ru,⟨rfl,λys hy=>by rw[I.xp hy hq];show hx⟩,aC,λb hb=>(hf b hb).1⟩⟩
 done:=by
  sleep 1;obtain⟨xs,hq,hx⟩:=hg;obtain⟨aw,rv,p,hz⟩:=I.tuple hq;sleep 3;have hl:=rv.length;show wpAny_pyNext_tuple_end (I.ok.hd hc) st (show s.heap.IsTuple a aw.toArray from p) 6e3 λh' eb=>9e9
 self:=λ_ _ _ _ _ st h=>wpAny_pyIter_tupleiter st h
theorem rP{P:YF}{w:World}{K:W.Frag}{tg:Expr}(it:Addr)(lo:Int)(n:Nat):Turn P w K tg (RF lo n) [it] it (λi h=>IsRangeIter h it (lo+(i:Nat)*1) ((n:Int)-(i:Nat)) 1) where
 mem:=by simp
 obj:=λi h st b hb=>by
  have e:b=it:=by simpa using hb
  subst e;show⟨_,st,λv z=>by
   have z':Data.fields _=Data.cell v:=z;cases z'⟩
 keep:=λi h h' st k=>k it 2e9 _ st
 item:=by
  sleep 1;sleep 3;have W:=Walks.range (prog:=X.prog) (w:=X.w) (I.ok.hd hc) it lo 1 n;show W.item i s _ _ hg st λv h' tk hv aC kk=>?_;obtain⟨t,rfl⟩:=hv;have I1:Inv X pins σ H {s with heap:=h',toks:=tk}:=I.turned (λb o hb e=>kk b o (by simpa using hb) e) f0 f1 f3 f4 f5;show⟨_,rfl,lP (s:={s with heap:=h',toks:=tk}) (n:="range_iterator") aC rfl rfl (by decide) ⟨.int (lo+i),H,I1,⟨t,?_⟩,⟨rfl,rfl⟩,aC,λb hb=>(hf b hb).1⟩⟩;rw[Int.mul_one]
 done:=by
  sleep 1;sleep 3;show wpAny_pyNext_range_end (I.ok.hd hc) st (by have:n<=i:=hg;lia) λh' eb=>9e9
 self:=λ_ _ _ _ _ st h=>wpAny_pyIter_rangeiter st h
section
variable{X:Cx}{tg:Expr}
theorem Ah{pins:1e8}{σ:St}{H:Hp}{s:Shared}{R:It->Hp->Prop}{E:1e1}{lo hi:Int}{t u v:Tok}{tk:Nat}(I:2e0)(h1:-(2^62)<=lo)(h2:lo<2^62)(h3:-(2^62)<=hi)(h4:hi<2^62)
  (q:R (RF lo (hi-lo).toNat) H):wpAny 2e2 X.A (pyIter 4e9) (PIE X pins σ tg R) E {s with heap:=s.heap.push {cls:=.type "range",data:=.fields #[.int lo t,.int hi u,.int 1 v]},toks:=tk}:=by
 show wpAny_pyIter_range (IsRange.new ..) (small_one h1 h2 h3 h4) ?_;have I1:Inv X pins σ H {s with heap:=s.heap.push {cls:=.type "range",data:=.fields #[.int lo t,.int hi u,.int 1 v]},toks:=tk}:=I.kept λb o e=>Yb _ e;show⟨(s.heap.push {cls:=.type "range",data:=.fields #[.int lo t,.int hi u,.int 1 v]}).objs.size,[(s.heap.push {cls:=.type "range",data:=.fields #[.int lo t,.int hi u,.int 1 v]}).objs.size],_,_,H,rfl,
  I1.kept (t':=tk) λb o e=>Yb _ e,rP _ lo (hi-lo).toNat,?_,λb hb=>?_,q⟩
 ·have e1:lo+((0:Nat):Int)*1=lo:=by simp
  have e2:(((hi-lo).toNat:Nat):Int)-((0:Nat):Int)=Builtin.Range.rangeSize lo hi 1:=by rw[rangeSize_one];split<;>lia
  change IsRangeIter _ _ (lo+((0:Nat):Int)*1) ((((hi-lo).toNat:Nat):Int)-((0:Nat):Int)) 1;rw[e1,e2];show Yg _ rfl
 ·have e:b=(s.heap.push {cls:=.type "range",data:=.fields #[.int lo t,.int hi u,.int 1 v]}).objs.size:=by simpa using hb
  subst e;show I1.yB (Yl _) (I1.aQ.fresh (Yl _))
def NY(ta:TA):TI:=λσ H R=>ta σ H λvs H1=>∃j:Int,vs=[.int j]/\-(2^62)<=j/\j<2^62/\R (RF 0 j.toNat) H1
theorem xT{a:Expr}{ta:TA}{p pos:Pos}(hg:Gl X "range")(hm:X.mg "range"=none)(ha:PA X [a] ta)(hs:Yt [a] X.env=[(false,eval a X.env)]:=by rfl):PI X tg (.Call (.Name "range" p) [a] [] pos) (NY ta):=by
 intro pins s σ H R I h;show Call_ (FQ I hg hm boot_range (Xx (bS (ha pos pins s σ H _ I h) λus s1 ⟨vs,H1,I1,r1,q1⟩=>?_) hs rfl));obtain⟨j,e,q1,q2,q⟩:=q1;subst e;cases r1 with
 |cons r rr=>
  cases rr;obtain⟨t,rfl⟩:=r;show call_range_1 (Ah I1 1e0 1e0 q1 q2 (by simpa using q))
noncomputable def RW (wi:TI)(g:TG)(tb:TS):TS:=λD σ H=>wi σ H λJ H1=>∃W:Nat->Nat->St->Hp->Prop,(∃m,W 0 m σ H1)/\∀i m σ H,W i m σ H->
 (J.stop i H/\D.nx σ H)\/(J.go i H/\∃N:St->Hp->Prop,(∀σ' H',N σ' H'->∃m',m'<m/\W (i+1) m' σ' H')/\∀x H',J.uY i H x H'->g x σ H' λσ2 H2=>tb {D with nx:=N,ct:=N,bk:=D.nx} σ2 H2)
noncomputable def eJ (fp:2e1)(h:Heap):List (Addr×Obj):=fp.filterMap λb=>(h.get? b).map λo=>(b,o)
theorem Ho{fp:2e1}{h:Heap}{b:Addr}{o:Obj}(hb:b∈fp)(e:h.get? b=some o):(b,o)∈eJ fp h:=Vy.mpr ⟨b,hb,by rw[e];rfl⟩
theorem lA{fp:2e1}{h:Heap}{p:Addr×Obj}(hp:p∈eJ fp h):p.1∈fp/\h.get? p.1=some p.2:=by
 obtain⟨b,hb,e⟩:=Vy.mp hp;cases q:h.get? b with
 |none=>rw[q]at e;cases e
 |some o=>
  rw[q]at e;have e':(b,o)=p:=YO e;subst e';show⟨hb,q⟩
theorem Inv.pinned{pins:1e8}{σ:St}{H:Hp}{s:Shared}{fp:2e1}(I:2e0)(hf:∀b∈fp,eV X pins H b)(ho:∀b∈fp,∃o,s.heap.get? b=some o/\∀v,o.data≠.cell v):Inv X (pins++eJ fp s.heap) σ H s:=
 I.dR λp hp=>(Ym.mp hp).elim (λz=>I.pin p (Yn _ z)) λz=>by
  obtain⟨hb,e⟩:=lA z;obtain⟨f0,f1,f2,_⟩:=hf p.1 hb;obtain⟨o,e',d⟩:=ho p.1 hb;rw[e]at e';cases e';show⟨e,f0,f1,f2,d⟩
theorem Inv.d7{pins pl:1e8}{σ:St}{H:Hp}{s:Shared}(I:Inv X (pins++pl) σ H s):Inv X pins σ H s:=I.dR λp hp=>I.pin p (Yn _ (Y2 _ hp))
theorem sJ{iter:Expr}{body:List Stmt}{wi:TI}{g:TG}{tb:TS}{pos:Pos}(hp:U7 2e2 X.A X.env X.xe)(hc:5e1)(hi:PI X tg iter wi)(hg:PG X tg g)(hb:kQ X body tb)
  (hs:9e3:=by intro _;rfl):PS X (.For tg iter body [] pos) (RW wi g tb):=by
 intro pins s σ H D I h;show wpAny_For (bS (hi pins s σ H _ I h) λv s1 h1=>bS h1 λLp s2 h2=>?_) hs;obtain⟨it,fp,tn,J,H2,e,I2,T,iM,f2,W,⟨m0,w0⟩,turn⟩:=h2;subst e;have fB:∀{H':Hp},10e1->∀b∈fp,eV X pins H' b:=λhn b hb=>⟨hn b hb,(f2 b hb).2⟩
 show codeAny_forLoop_any (λn s'=>∃i σ' H',Inv X pins σ' H' s'/\tn i s'.heap/\10e1/\W i n σ' H') ?_ m0 ⟨0,σ,H2,I2,iM,λb hb=>(f2 b hb).1,w0⟩;rintro n s3 ⟨i,σ3,H3,I3,zt,ki,w3⟩;rcases turn i n σ3 H3 w3 with⟨stop,qn⟩|⟨go,N,hN,step⟩
 ·show W7 hp (bS (T.done X rfl rfl rfl hc i pins s3 σ3 H3 X.xe I3 (fB ki) zt stop) λr s4 h_=>?_)
  obtain⟨hr,I4⟩:=h_;subst hr;show U6 ⟨σ3,H3,I4,qn⟩
 ·show W7 hp (bS (T.item X rfl rfl rfl hc i pins s3 σ3 H3 X.xe I3 (fB ki) zt go) λr s4 h_=>?_)
  obtain⟨u,hr,h4⟩:=h_;subst hr;show W7 hp (bS h4 λ_ s5 h_=>?_);obtain⟨x,H5,I5,r5,y5,rT,JV⟩:=h_;have I5':=I5.pinned (fB JV) (T.obj _ _ rT);show W7 hp (bS (hg _ s5 σ3 H5 x u _ I5' r5 (step x H5 y5)) λ_ s6 h_=>?_);obtain⟨σ6,H6,I6,q6⟩:=h_;show W7 hp (bS (hb _ s6 σ6 H6 _ I6 q6) λf s7 q7=>?_);have again:∀{σ7:St}{H7:Hp},Inv X (pins++eJ fp s5.heap) σ7 H7 s7->N σ7 H7->∃m,m<n/\∃i σ' H',Inv X pins σ' H' s7/\tn i s7.heap/\10e1/\W i m σ' H':=λ{σ7 H7} I7 n7=>by
   obtain⟨m',hm,w7⟩:=hN σ7 H7 n7;show⟨m',hm,i+1,σ7,H7,I7.d7,T.keep _ _ _ rT λb hb o e=>(I7.pin (b,o) (Yn _ (Yn _ (Ho hb e)))).1,λb hb=>?_,w7⟩;obtain⟨o,e,d⟩:=T.obj _ _ rT b hb;show(I7.pin (b,o) (Yn _ (Yn _ (Ho hb e)))).2.1
  cases f with
  |next=>obtain⟨σ7,H7,I7,n7⟩:=q7;show again I7 n7
  |cont=>obtain⟨σ7,H7,I7,n7⟩:=q7;show again I7 n7
  |brk=>obtain⟨σ7,H7,I7,q7⟩:=q7;show⟨σ7,H7,I7.d7,q7⟩
  |ret v=>obtain⟨x7,σ7,H7,I7,r7,q7⟩:=q7;show⟨x7,σ7,H7,I7.d7,r7,q7⟩
end
abbrev R2:=V->V->Hp->VK->Prop
def fX(X:Cx)(f:Value->Value->Sem Value)(r:R2):Prop:=
 ∀(pins:1e8)(s:Shared)(σ:St)(H:Hp)(x y:V)(v u:Value)(Q:VK),Inv X pins σ H s->RelV x v->RelV y u->r x y H Q->
  wpAny 2e2 X.A (f v u) (EP X pins σ Q) X.xe s
def UnR(X:Cx)(f:Value->Sem Value)(r:V->Hp->VK->Prop):Prop:=
 ∀(pins:1e8)(s:Shared)(σ:St)(H:Hp)(x:V)(v:Value)(Q:VK),Inv X pins σ H s->RelV x v->r x H Q->
  wpAny 2e2 X.A (f v) (EP X pins σ Q) X.xe s
def cL(X:Cx)(f:Value)(r:List V->Hp->VK->Prop):Prop:=
 ∀(pins:1e8)(s:Shared)(σ:St)(H:Hp)(xs:List V)(us:2e6)(Q:VK),Inv X pins σ H s->Vals xs us->r xs H Q->
  wpAny 2e2 X.A (call f us) (EP X pins σ Q) X.xe s
def Vaa(X:Cx)(r:V->Hp->(Bool->Hp->Prop)->Prop):Prop:=
 ∀(pins:1e8)(s:Shared)(σ:St)(H:Hp)(x:V)(v:Value)(Q:Bool->Hp->Prop),Inv X pins σ H s->RelV x v->r x H Q->
  wpAny 2e2 X.A (truthy v) (TP X pins σ Q) X.xe s
noncomputable def ME (r:R2)(ta tb:TE):TE:=λσ H Q=>ta σ H λx H1=>tb σ H1 λy H2=>r x y H2 Q
noncomputable def tUn (r:V->Hp->VK->Prop)(ta:TE):TE:=λσ H Q=>ta σ H λx H1=>r x H1 Q
noncomputable def rI (C:Int->Int->Prop)(g:Int->Int->V):R2:=λx y H Q=>∃i j,x=.int i/\y=.int j/\C i j/\Q (g i j) H
noncomputable def Dy (g:Int->Int->V):R2:=λx y H Q=>∃i j,x=.int i/\y=.int j/\Q (g i j) H
def rU(g:Int->V):V->Hp->VK->Prop:=λx H Q=>∃i,x=.int i/\Q (g i) H
section
variable{X:Cx}{a b c:Expr}{ta tb tc:TE}{pos:Pos}
theorem Kn(ha:PE X a ta)(hb:PE X b tb){pins:1e8}{s:Shared}{σ:St}{H:Hp}{R:V->V->Hp->Prop}(I:2e0)
  (h:ta σ H λx H1=>tb σ H1 λy H2=>R x y H2) {Q:1e1} {f:Value->Value->Sem Value}
  (hf:∀v u s2 x y H2,Inv X pins σ H2 s2->RelV x v->RelV y u->R x y H2->wpAny 2e2 X.A (f v u) Q X.xe s2):
  wpAny 2e2 X.A (eval a X.env) (λv s₁=>wpAny 2e2 X.A (eval b X.env) (λu s₂=>wpAny 2e2 X.A (f v u) Q X.xe s₂) X.xe s₁) X.xe s:=by
 show bS (ha pins s σ H _ I h) λv s1 h_=>?_;obtain⟨x,H1,I1,r1,q1⟩:=h_;show bS (hb pins s1 σ H1 _ I1 q1) λu s2 h_=>?_;obtain⟨y,H2,I2,r2,q2⟩:=h_;show hf v u s2 x y H2 I2 r1 r2 q2
theorem Gq{op:Operator}{r:R2}(ho:fX X (V6 op) r)(ha:PE X a ta)(hb:PE X b tb):PE X (.BinOp a op b pos) (ME r ta tb):=by
 intro pins s σ H Q I h;show wpAny_BinOp (Kn ha hb I h λv u s2 x y H2 I2 rx ry q=>ho pins s2 σ H2 x y v u Q I2 rx ry q)
theorem Nk{op:UnaryOp}{r:V->Hp->VK->Prop}(ho:UnR X (unaryOp op) r)(ha:PE X a ta):PE X (.UnaryOp op a pos) (tUn r ta):=by
 intro pins s σ H Q I h;show UnaryOp_ (bS (ha pins s σ H _ I h) λv s1 ⟨x,H1,I1,r1,q1⟩=>ho pins s1 σ H1 x v Q I1 r1 q1)
theorem Qf{f:Value->Value->Sem Value}{C:Int->Int->Prop}{g:Int->Int->Int}
  (rule:∀(i j:Int)(t u:Tok)(s:Shared)(Q:1e1)(E:1e1),C i j->Q (.int (g i j) s.toks) {s with toks:=s.toks+1}->wpAny (model X.prog X.w) X.A (f (.int i t) (.int j u)) Q E s):
  fX X f (rI C λi j=>.int (g i j)):=by
 sleep 7;obtain⟨i,j,rfl,rfl,hc,q⟩:=h;obtain⟨t,rfl⟩:=rx;obtain⟨t',rfl⟩:=ry;show rule i j t t' s _ _ hc ⟨.int (g i j),H,I.tok _,⟨_,rfl⟩,q⟩
theorem Sr{f:Value->Value->Sem Value}{g:Int->Int->Int}
  (rule:∀(i j:Int)(t u:Tok)(s:Shared)(Q:1e1)(E:1e1),Q (.int (g i j) s.toks) {s with toks:=s.toks+1}->wpAny (model X.prog X.w) X.A (f (.int i t) (.int j u)) Q E s):
  fX X f (Dy λi j=>.int (g i j)):=by
 sleep 7;obtain⟨i,j,rfl,rfl,q⟩:=h;obtain⟨t,rfl⟩:=rx;obtain⟨t',rfl⟩:=ry;show rule i j t t' s _ _ ⟨.int (g i j),H,I.tok _,⟨_,rfl⟩,q⟩
theorem Nn{f:Value->Value->Sem Value}{g:Int->Int->Bool}
  (rule:∀(i j:Int)(t u:Tok)(s:Shared)(Q:1e1)(E:1e1),Q (.bool (g i j)) s->wpAny 2e2 X.A (f (.int i t) (.int j u)) Q E s):
  fX X f (Dy λi j=>.bl (g i j)):=by
 sleep 7;obtain⟨i,j,rfl,rfl,q⟩:=h;obtain⟨t,rfl⟩:=rx;obtain⟨t',rfl⟩:=ry;show rule i j t t' s _ _ ⟨.bl (g i j),H,I,rfl,q⟩
def Vad(i j:Int):Prop:=0<=j/\j<=1000000/\i.natAbs<2^64
def Lg(i j:Int):Prop:=(-(2^64)<i/\i<2^64)\/(-(2^64)<j/\j<2^64)
theorem Lg.ok{i j:Int}(h:Lg i j):IntMulOk i j:=by
 rcases h with⟨h1,h2⟩|⟨h1,h2⟩
 ·show .of_left (intBits_le_64 h1 h2)
 ·show .of_right (intBits_le_64 h1 h2)
theorem IF:fX X (V6 .Add) (Dy λi j=>.int (i+j)):=Sr λ_ _ _ _ _ _ _ q=>add_int q
theorem IC:fX X (V6 .Mult) (rI Lg λi j=>.int (i*j)):=Qf λ_ _ _ _ _ _ _ hc q=>mul_int q hc.ok
theorem ID:fX X (V6 .Mod) (rI (λ_ j=>0<j) λi j=>.int (i%j)):=Qf λi j _ _ _ _ _ hc q=>by
 have h1:(0:Int)<j:=hc;show mod_int' 1e0 (by rw[Int.fmod_eq_emod_of_nonneg i 1e0];show q)
theorem IB:fX X (V6 .Pow) (rI Vad λi j=>.int (i^j.toNat)):=Qf λ_ _ _ _ _ _ _ hc q=>pow_int_small hc.1 hc.2.1 hc.2.2 q
theorem unI{f:Value->Sem Value}{g:Int->Int}
  (rule:∀(i:Int)(t:Tok)(s:Shared)(Q:1e1)(E:1e1),Q (.int (g i) s.toks) {s with toks:=s.toks+1}->wpAny (model X.prog X.w) X.A (f (.int i t)) Q E s):
  UnR X f (rU λi=>.int (g i)):=by
 intro pins s σ H x v Q I rx h;obtain⟨i,rfl,q⟩:=h;obtain⟨t,rfl⟩:=rx;show rule i t s _ _ ⟨.int (g i),H,I.tok _,⟨_,rfl⟩,q⟩
theorem HH:UnR X (unaryOp .USub) (rU λi=>.int (-i)):=unI λ_ _ _ _ _ q=>neg_int q
end
noncomputable def MW:V->V->Bool
 |.aF,.aF=>true | .aF,.int _=>true | .int _,.aF=>true | .aF,.bl _=>true | .bl _,.aF=>true | .aF,.str _=>true | .str _,.aF=>true
 |.int _,.int _=>true | .bl _,.bl _=>true | .str _,.str _=>true | .yV _,.yV _=>true
 |.int _,.str _=>true | .str _,.int _=>true | .bl _,.str _=>true | .str _,.bl _=>true
 |_,_=>false
def rEq:R2:=λx y H Q=>MW x y=true/\Q (.bl (decide (x=y))) H
theorem FC{i j:Int}:decide (V.int i=V.int j)=(i==j):=by
 rw[WJ];simp
theorem Kf{i j:Bool}:decide (V.bl i=V.bl j)=(i==j):=by
 rw[WJ];simp
theorem FA{i j:Str}:decide (V.str i=V.str j)=(i==j):=by
 rw[WJ];simp
theorem FD{i j:Array UInt8}:decide (V.yV i=V.yV j)=(i.toList==j.toList):=by
 rw[WJ];cases i;cases j;simp
section
variable{X:Cx}{a b c:Expr}{ta tb tc:TE}{pos:Pos}
theorem uN{pins:1e8}{σ:St}{H:Hp}{s:Shared}{Q:VK}{k k':Bool}(I:2e0)(q:Q (.bl k) H)(e:k=k'):EP X pins σ Q (.bool k') s:=by
 subst e;show⟨.bl k,H,I,rfl,q⟩
theorem AV:fX X (WW .Eq) rEq:=by
 sleep 7;obtain⟨hs,q⟩:=h;cases x with
 |aF=>
  cases rx;cases y with
  |aF=>cases ry;show PySem.EqNone.eq_none_none (uN I q 2e9)
  |bl j=>cases ry;show PySem.EqNone.eq_none_bool (uN I q 2e9)
  |int j=>obtain⟨t',rfl⟩:=ry;show PySem.EqNone.eq_none_int (uN I q 2e9)
  |str j=>obtain⟨t',rfl⟩:=ry;show PySem.EqNone.eq_none_str (uN I q 2e9)
  |_=>show absurd (show false=true from hs) Yw
 |bl i=>
  cases rx;cases y with
  |aF=>cases ry;show PySem.EqNone.eq_bool_none (uN I q 2e9)
  |bl j=>cases ry;show eq_bool (uN I q Kf)
  |str j=>obtain⟨t',rfl⟩:=ry;show PySem.EqMixed.eq_bool_str (uN I q 2e9)
  |_=>show absurd (show false=true from hs) Yw
 |int i=>
  obtain⟨t,rfl⟩:=rx;cases y with
  |aF=>cases ry;show PySem.EqNone.eq_int_none (uN I q 2e9)
  |int j=>obtain⟨t',rfl⟩:=ry;show eq_int (uN I q FC)
  |str j=>obtain⟨t',rfl⟩:=ry;show PySem.EqMixed.eq_int_str (uN I q 2e9)
  |_=>show absurd (show false=true from hs) Yw
 |str i=>
  obtain⟨t,rfl⟩:=rx;cases y with
  |aF=>cases ry;show PySem.EqNone.eq_str_none (uN I q 2e9)
  |bl j=>cases ry;show PySem.EqMixed.eq_str_bool (uN I q 2e9)
  |int j=>obtain⟨t',rfl⟩:=ry;show PySem.EqMixed.eq_str_int (uN I q 2e9)
  |str j=>obtain⟨t',rfl⟩:=ry;show eq_str (uN I q FA)
  |_=>show absurd (show false=true from hs) Yw
 |yV i=>
  obtain⟨t,rfl⟩:=rx;cases y with
  |yV j=>obtain⟨t',rfl⟩:=ry;show W.eq_bytes (uN I q FD)
  |_=>show absurd (show false=true from hs) Yw
 |_=>cases y<;>show absurd (show false=true from hs) Yw
theorem Gr:fX X (WW .Lt) (Dy λi j=>.bl (decide (i<j))):=Nn λ_ _ _ _ _ _ _ q=>lt_int q
theorem vD:fX X (WW .Gt) (Dy λi j=>.bl (decide (j<i))):=Nn λ_ _ _ _ _ _ _ q=>gt_int q
theorem bZ(b:Expr){op:CmpOp}(h:op≠.In:=by decide)(h2:op≠.NotIn:=by decide):Uj op b=false:=by
 have e1:(op==CmpOp.In)=false:=by cases op<;>first|rfl|show absurd rfl h
 have e2:(op==CmpOp.NotIn)=false:=by cases op<;>first|rfl|show absurd rfl h2
 cases b<;>simp[Uj,e1,e2]
theorem EA{op:CmpOp}{r:R2}(ho:fX X (WW op) r)(ha:PE X a ta)(hb:PE X b tb)(hm:Uj op b=false):PE X (.Compare a [op] [b] pos) (ME r ta tb):=by
 intro pins s σ H Q I h;show wpAny_Compare1 (Kn ha hb I h λv u s2 x y H2 I2 rx ry q=>ho pins s2 σ H2 x y v u Q I2 rx ry q) hm
noncomputable def Ge (t:TE):TT:=λσ H Q=>t σ H λx H'=>∃k,x=.bl k/\Q k H'
theorem Eo{op:CmpOp}{r:R2}(ho:fX X (WW op) r)(ha:PE X a ta)(hb:PE X b tb)(hm:Uj op b=false):PT X (.Compare a [op] [b] pos) (Ge (ME r ta tb)):=by
 intro pins s σ H Q I h;show wpAny_isTrue_Compare1 (bS (ha pins s σ H _ I h) λv s1 ⟨x,H1,I1,r1,q1⟩=>bS (hb pins s1 σ H1 _ I1 q1) λu s2 ⟨y,H2,I2,r2,q2⟩=>
  bS (ho pins s2 σ H2 x y v u _ I2 r1 r2 q2) λc s3 ⟨z,H3,I3,r3,k,e,q3⟩=>?_) hm
 subst e;cases r3;show VM ⟨H3,I3,q3⟩
def KY(K:W.Frag)(x:V)(H:Hp)(k:Bool):Prop:=
 match x with
 |.aF=>k=false
 |.bl b=>k=b
 |.int i=>k=(i != 0)
 |.str y=>y.length<=YA/\k=((y.length:Int) != 0)
 |.yV y=>y.size<=YA/\k=((y.size:Int) != 0)
 |.ref p=>(∃xs,fy K H p xs/\k=!xs.isEmpty)\/(∃xs,kg K H p xs/\k=!xs.isEmpty)\/∃ag,H p=some (.dK ag)/\k=!ag.isEmpty
 |_=>False
theorem tZ{κ:Type}{ag:List (κ×V)}{vs:List (κ×Value)}(r:KV ag vs):(!vs.isEmpty)=!ag.isEmpty:=by
 cases r<;>rfl
theorem ZdW{xs:List V}{aw:2e6}(r:Vals xs aw):(!aw.toArray.isEmpty)=!xs.isEmpty:=by
 cases r<;>simp
theorem hV:(YA:Nat)<2^63:=by rw[YZ];decide
theorem HK:Vaa X (λx H Q=>∃k,KY X.K x H k/\Q k H):=by
 intro pins s σ H x v Q I rx h;obtain⟨k,e,q⟩:=h;have hl:=hV;have hs:YA=16777216:=YZ;cases x with
 |aF=>
  cases rx;have e':k=false:=e;subst e';show truthy_none ⟨H,I,q⟩
 |bl b=>
  cases rx;have e':k=b:=e;subst e';show VM ⟨H,I,q⟩
 |int i=>
  obtain⟨t,rfl⟩:=rx;have e':k=(i != 0):=e;subst e';show PySem.P.truthy_int ⟨H,I,q⟩
 |str y=>
  obtain⟨t,rfl⟩:=rx;obtain⟨hy,e'⟩:y.length<=YA/\k=((y.length:Int) != 0):=e;subst e';show PySem.P.truthy_str 1e0 ⟨H,I.tok _,q⟩
 |yV y=>
  obtain⟨t,rfl⟩:=rx;obtain⟨hy,e'⟩:y.size<=YA/\k=((y.size:Int) != 0):=e;subst e';show W.truthy_bytes 1e0 ⟨H,I.tok _,q⟩
 |ref p=>
  cases rx;have e':(∃xs,fy X.K H p xs/\k=!xs.isEmpty)\/(∃xs,kg X.K H p xs/\k=!xs.isEmpty)\/∃ag,H p=some (.dK ag)/\k=!ag.isEmpty:=e;rcases e' with⟨xs,hx,e'⟩|⟨xs,hx,e'⟩|⟨ag,hx,e'⟩
  ·subst e'
   obtain⟨aw,r,pl,hz⟩:=I.list hx;have hlen:=r.length;show wpAny_truthy_list pl.isList (by simp only[Yp];lia) ⟨H,I.tok _,by rw[ZdW r];show q⟩
  ·subst e'
   obtain⟨aw,r,pl,hz⟩:=I.tuple hx;have hlen:=r.length;show truthy_tuple pl (by simp only[Yp];lia) ⟨H,I.tok _,by rw[ZdW r];show q⟩
  ·subst e'
   obtain⟨hz,hS,vs,r,m⟩:ag.length<=YA/\(p==X1)=false/\∃vs,KV ag vs/\s.heap.DictOf (aD X.prog X.w) p vs:=I.aQ p _ hx;have hlen:ag.length=vs.length:=Wr r;show wpAny_truthy_dict hS m 1e0 ⟨H,I.tok _,by rw[tZ r];show q⟩
 |_=>show(show False from e).elim
theorem Ay(ha:PE X a ta)(he:∀whole,isTrue a X.env whole=(do let v ←whole;standAt a.pos;Dl [v] (truthy v))):
  PT X a (λσ H Q=>ta σ H λx H'=>∃k,KY X.K x H' k/\Q k H'):=by
 intro pins s σ H Q I h;show isTrue_plain (bS (ha pins s σ H _ I h) λv s1 ⟨x,H1,I1,r1,q1⟩=>HK pins s1 σ H1 x v Q I1 r1 q1) (he _)
theorem sQ:fX X (V6 .Add) (λx y H Q=>∃i j,x=.str i/\y=.str j/\i.length+j.length<=YA/\Q (.str (i++j)) H):=by
 sleep 7;obtain⟨i,j,rfl,rfl,hz,q⟩:=h;obtain⟨t,rfl⟩:=rx;obtain⟨t',rfl⟩:=ry;show add_str (λt' tk=>⟨.str (i++j),H,I.tok _,⟨_,rfl⟩,q⟩) hz
theorem vals1{x:V}{us:2e6}(r:Vals [x] us):∃u,us=[u]/\RelV x u:=by
 cases r with
 |cons r1 r2=>cases r2;show⟨_,rfl,r1⟩
theorem vals2{x y:V}{us:2e6}(r:Vals [x,y] us):∃u w',us=[u,w']/\RelV x u/\RelV y w':=by
 cases r with
 |cons r1 r2=>
  cases r2 with
  |cons r3 r4=>cases r4;show⟨_,_,rfl,r1,r3⟩
theorem yS(hc:5e1):cL X (.builtin "max") (λxs H Q=>∃i j,xs=[.int i,.int j]/\Q (.int (if j>i then j else i)) H):=by
 intro pins s σ H xs us Q I r h;obtain⟨i,j,rfl,q⟩:=h;obtain⟨u,w',rfl,⟨t,rfl⟩,⟨t',rfl⟩⟩:=vals2 r;show max_two_ints (I.ok.hd hc) λh' tk k=>⟨_,H,I.kept k,?_,q⟩
 by_cases hj:j>i
 ·rw[if_pos hj,if_pos hj];show⟨_,rfl⟩
 ·rw[if_neg hj,if_neg hj];show⟨_,rfl⟩
def P6(K:W.Frag)(x:V)(H:Hp)(n:Nat):Prop:=
 match x with
 |.str y=>y.length<=YA/\n=y.length
 |.yV y=>y.size<=YA/\n=y.size
 |.ref p=>(∃xs,fy K H p xs/\n=xs.length)\/∃xs,kg K H p xs/\n=xs.length
 |_=>False
theorem CV:cL X (.builtin "len") (λxs H Q=>∃x n,xs=[x]/\P6 X.K x H n/\Q (.int n) H):=by
 intro pins s σ H xs us Q I r h;obtain⟨x,n,rfl,e,q⟩:=h;obtain⟨u,rfl,rx⟩:=vals1 r;have hl:=hV;have hs:YA=16777216:=YZ;cases x with
 |str y=>
  obtain⟨t,rfl⟩:=rx;obtain⟨hy,e'⟩:y.length<=YA/\n=y.length:=e;subst e';show len_str 1e0 ⟨.int _,H,I.tok _,⟨_,rfl⟩,q⟩
 |yV y=>
  obtain⟨t,rfl⟩:=rx;obtain⟨hy,e'⟩:y.size<=YA/\n=y.size:=e;subst e';show W.len_bytes 1e0 ⟨.int _,H,I.tok _,⟨_,rfl⟩,q⟩
 |ref p=>
  cases rx;have e':(∃xs,fy X.K H p xs/\n=xs.length)\/∃xs,kg X.K H p xs/\n=xs.length:=e;rcases e' with⟨xs,hx,e'⟩|⟨xs,hx,e'⟩
  ·subst e'
   obtain⟨aw,r',pl,hz⟩:=I.list hx;have hlen:=r'.length;show Calls.call_len_list pl.isList (by simp only[Yp];lia) ⟨.int xs.length,H,I.tok _,⟨_,by simp only[Yp];rw[hlen]⟩,q⟩
  ·subst e'
   obtain⟨aw,r',pl,hz⟩:=I.tuple hx;have hlen:=r'.length;show len_tuple pl (by simp only[Yp];lia) ⟨.int xs.length,H,I.tok _,⟨_,by simp only[Yp];rw[hlen]⟩,q⟩
 |_=>show(show False from e).elim
end
theorem iJ.some_of{v:V}{o:Option Value}(r:iJ (some v) o):∃u,o=some u/\RelV v u:=by
 cases o with
 |none=>show(show False from r).elim
 |some u=>show⟨u,rfl,r⟩
structure b9(k:Nat)(A:Around):Prop where
 hd:A.handled=none
 dp:A.depth+3*k+5<recursionLimit
 un:A.units+16*k+200<cLine
theorem b9.mono{j k:Nat}{A:Around}(r:b9 k A)(h:j<=k):b9 j A:=⟨r.hd,by have:=r.dp;lia,by have:=r.un;lia⟩
theorem b9.deeper{k:Nat}{A:Around}(r:b9 (k+1) A)(env:Env):b9 k (A.deeper env):=
 ⟨r.hd,by have:=r.dp;change A.depth+1+3*k+5<_;lia,by have:=r.un;change A.units+3+16*k+200<_;lia⟩
theorem b9.depth{k:Nat}{A:Around}(r:b9 k A):A.depth<recursionLimit:=by have:=r.dp;lia
theorem b9.units{k:Nat}{A:Around}(r:b9 k A):A.units+64<cLine:=by have:=r.un;lia
noncomputable def MF:TA:=λ_ H Q=>Q [] H
noncomputable def zW (ta:TE)(tr:TA):TA:=λσ H Q=>ta σ H λx H1=>tr σ H1 λxs H2=>Q (x::xs) H2
section
variable{X:Cx}{e:Expr}{es:3e4}{te:TE}{t:TA}{pos:Pos}
theorem AR:PA X [] MF:=λ_ _ _ _ H Q I h=>UC ⟨[],H,I,.nil,h⟩
theorem iR(ha:PE X e te)(hr:PA X es t)(hs:1e5:=by rfl):PA X 4e4 (zW te t):=by
 intro pos pins s σ H Q I h;rw[hs];change wpAny _ _ (spliced ((false,eval e X.env)::backTo pos (Yt es X.env))) _ _ s;show Uk (bS (ha pins s σ H _ I h) λu s1 h_=>?_);obtain⟨x,H1,I1,r1,q1⟩:=h_;show bS (hr pos pins s1 σ H1 _ I1 q1) λus s2 ⟨xs,H2,I2,r2,q2⟩=>⟨x::xs,H2,I2,.cons r1 r2,q2⟩
def RN(t:TA):TE:=λσ H Q=>t σ H λxs H1=>xs.length<=YA/\∀p,H1 p=none->Q (.ref p) (upd H1 p (.tup xs))
def RU(t:TA):TE:=λσ H Q=>t σ H λxs H1=>xs.length<=YA/\∀p,H1 p=none->Q (.ref p) (upd H1 p (.lst xs))
theorem AL{x1}(h:PA X es t):PE X (.Tuple es x1 pos) (RN t):=by
 intro pins s σ H Q I hq;show wpAny_Tuple_spliced (bS (h pos pins s σ H _ I hq) λus s1 ⟨xs,H1,I1,r,z,q⟩=>⟨by rw[←r.length];show z,?_⟩);have hf:H1 s1.heap.objs.size=none:=I1.aQ.fresh (Yl _);show⟨.ref s1.heap.objs.size,upd H1 s1.heap.objs.size (.tup xs),I1.laid (t':=s1.toks) (λb u e=>Yb _ e) (Yl _) ?_,rfl,q _ hf⟩;show⟨z,us,r,⟨_,Yg _ rfl,rfl,_,rfl⟩⟩
theorem Iw(h:PA X es t):PE X (.List es pos) (RU t):=by
 intro pins s σ H Q I hq;show wpAny_List_spliced (bS (h pos pins s σ H _ I hq) λus s1 ⟨xs,H1,I1,r,z,q⟩=>⟨by rw[←r.length];show z,?_⟩);have hf:H1 s1.heap.objs.size=none:=I1.aQ.fresh (Yl _);show⟨.ref s1.heap.objs.size,upd H1 s1.heap.objs.size (.lst xs),I1.laid (t':=s1.toks) (λb u e=>Yb _ e) (Yl _) ?_,rfl,q _ hf⟩;show⟨z,us,0,r,Yg _ rfl⟩
end
abbrev Sp:=List V->Hp->VK->XK->Prop
abbrev DT:=List Env->Hp->Shared->XK->Value->Shared->Prop
structure F6(P:YF)(w:World)(K:W.Frag)(mg:Str->Option Value)(base:Heap)(A:Around)(outer:List Env)(s:Shared)(H:Hp):Prop where
 frames:A.frames=some outer
 mod:Mod K mg base
 bs:∀b o,base.get? b=some o->s.heap.get? b=some o/\H b=none
 Km:base.objs.size<=s.heap.objs.size
 jS:s.heap.FunFrames base outer
 LN:∀b∈ua outer,H b=none
 aQ:gm P w H s.heap
 bare:F0 s.gens
def CE(outer:List Env)(P:YF)(w:World)(H:Hp)(s:Shared)(Q:VK)(u:Value)(s':Shared):Prop:=
 ∃v H',s'.os=s.os/\F0 s'.gens/\Un (ua outer) [] H H' s.heap s'.heap/\gm P w H' s'.heap/\RelV v u/\Q v H'
def CR(CX:DT)(outer:List Env)(P:YF)(w:World)(H:Hp)(s:Shared)(Q:VK)(E:XK)(r:Result)(s':Shared):Prop:=
 match r with
 |.ok (.ret u)=>CE outer P w H s Q u s'
 |.ok _=>False
 |.error e=>CX outer H s E e s'
structure eY(P:YF)(w:World)(K:W.Frag)(mg:Str->Option Value)(base:Heap)(CX:DT)(k:Nat)(f:Addr)(fd:WD)(ps:List Str)(sp:Sp):Prop where
 len:∀vs H Q E,sp vs H Q E->vs.length=ps.length
 run:∀(A:Around)(outer:List Env)(s:Shared)(H:Hp)(args:Args)(us:2e6)(vs:List V)(Q:VK)(E:XK),b9 k A->F6 P w K mg base A outer s H->BindsTo s fd args (ps.zip us)->Vals vs us->sp vs H Q E->
  Wm (model P w) A (.call (.ref f) args) (CR CX outer P w H s Q E) s
theorem eY.imp{P:YF}{w:World}{K:W.Frag}{mg:2e5}{base:Heap}{CX:DT}{k:Nat}{f:Addr}{fd:WD}{ps:4e3}{sp sp':Sp}(F:eY P w K mg base CX k f fd ps sp)
  (h:∀vs H Q E,sp' vs H Q E->sp vs H Q E):eY P w K mg base CX k f fd ps sp':=
 ⟨λvs H Q E q=>F.len vs H Q E (h _ _ _ _ q),λA outer s H args us vs Q E hr he hb hv hs=>F.run A outer s H args us vs Q E hr he hb hv (h _ _ _ _ hs)⟩
section
variable{X:Cx}{pins:1e8}{σ:St}{H:Hp}{s s':Shared}
theorem Inv.Zr(I:2e0):F6 X.prog X.w X.K X.mg X.base X.A X.stack s H:=
 ⟨I.ok.frames,I.ok.mod,I.bs,Xb I.ok.Km I.sz,I.stack,I.u6,I.aQ,I.bare⟩
theorem Inv.after{Q:VK}{u:Value}(I:2e0)(h:CE X.stack X.prog X.w H s Q u s'):EP X pins σ Q u s':=by
 obtain⟨v,H',os,bare,un,aQ,r,q⟩:=h;obtain⟨hh,g,d,t,Nm⟩:=s';obtain rfl:Nm=s.os:=os;show⟨v,H',I.call (h':=hh) (g':=g) (d':=d) (t':=t) (ch:=[]) un aQ bare (λb z=>absurd z 2e9),r,q⟩
end
noncomputable def MM (sp:Sp)(G3:List V)(E:XK)(t:TA):TE:=λσ H Q=>t σ H λvs H1=>sp (vs++G3) H1 Q E
def Binds(K:W.Frag)(fd:WD)(ps:4e3)(ds:2e6):Prop:=
 ∀(s:Shared)(us:2e6),K.In s.heap->(us++ds).length=ps.length->BindsTo s fd ⟨us,[]⟩ (ps.zip (us++ds))
theorem Binds.all{K:W.Frag}{fd:WD}{ps:4e3}(h:∀us:List Value,us.length=ps.length->bindArgs fd ⟨us,[]⟩=pure (ps.zip us)):Binds K fd ps []:=λs us _ hl=>by
 rw[YG]at hl⊢;show .of_eq (h us hl)
def Passes(CX:DT)(X:Cx)(E:XK):Prop:=∀(pins:1e8)(σ:St)(H:Hp)(s:Shared)(e:Value)(s':Shared),Inv X pins σ H s->CX X.stack H s E e s'->X.xe e s'
section
variable{X:Cx}{CX:DT}{k:Nat}{f C:Addr}{fd:WD}{ps:4e3}{sp:Sp}{G3:List V}{ds:2e6}{E:XK}{x m:Str}{p pos apos:Pos}{e o:Expr}{es:3e4}{ta:TE}{t:TA}
theorem Ih{pins:1e8}{σ:St}{H:Hp}{s:Shared}{Q:VK}{us:2e6}{vs:List V}(F:eY X.prog X.w X.K X.mg X.base CX k f fd ps sp)(hr:b9 k X.A)(hb:Binds X.K fd ps ds)(hd:Vals G3 ds)(hx:Passes CX X E)
  (I:2e0) (r:Vals vs us) (h:sp (vs++G3) H Q E):wpAny 2e2 X.A (call (.ref f) us) (EP X pins σ Q) X.xe s:=by
 have r2:Vals (vs++G3) (us++ds):=r.append hd;have hl:(us++ds).length=ps.length:=by rw[←r2.length];show F.len _ _ _ _ h
 show wpAny_call (UM (F.run X.A X.stack s H ⟨us,[]⟩ (us++ds) (vs++G3) Q E hr I.Zr (hb s us I.Lo hl) r2 h) λr s' hq=>?_);cases r with
 |error e=>show hx pins σ H s e s' I hq
 |ok fl=>
  cases fl with
  |ret u=>show I.after hq
  |next=>show Vs hq
  |brk=>show Vs hq
  |cont=>show Vs hq
theorem iQ(F:eY X.prog X.w X.K X.mg X.base CX k f fd ps sp)(hr:b9 k X.A)(hg:Gl X x)(hm:X.mg x=some (.ref f))(hk:Hw X.K (.ref f)=true)(hb:Binds X.K fd ps ds)(hd:Vals G3 ds)(hx:Passes CX X E)
  (ha:PA X 4e4 t) (iF:3e2:=by decide) (he:1e5:=by rfl) (cD:2e4:=by rfl):
  PE X 7e1 (MM sp G3 E t):=by
 intro pins s σ H Q I h;show Wy (vX I hg hm ?_ iF);show W.callWith_K (h₀:=X.base) I.ok.mod.SQ hk (bS (ha pos pins s σ H _ I h) λus s1 ⟨vs,H1,I1,r,q⟩=>⟨I1.Lo,?_⟩) he cD;show Ih F hr hb hd hx I1 r q
end
structure aJ(N P:List Str)(sc:Scope):Prop where
 kind:sc.kind=.function
 co:sc.isCoroutine=false
 gen:sc.isGenerator=false
 nd:N.Nodup
 pre:N.take P.length=P
 par:∀x∈P,sc.names.lookup x=some .local\/sc.names.lookup x=some .cell
 IL:∀y∈sc.names,y.2≠.free
theorem l5{kindOf:Str->Option Ul}{x:Str}:∀{binds:List (Str×Value)}{m:2e5},(∀v,(x,v)∉binds)->bindL kindOf binds m x=m x
  |[],_,_=>rfl
  | (n,v)::r,m,h=>by
    ext bindL;rw[l5 λw hw=>h w (YK _ hw)];split
    · have:x≠n:=by rintro rfl;show h v YR
      simp[this]
    · rfl
theorem l7{kindOf:Str->Option Ul}{x:Str}:∀{binds:List (Str×Value)}{m:2e5},(∀v,(x,v)∉binds)->bindC kindOf binds m x=m x
  |[],_,_=>rfl
  | (n,v)::r,m,h=>by
    ext bindC;rw[l7 λw hw=>h w (YK _ hw)];split
    · rfl
    · have:x≠n:=by rintro rfl;show h v YR
      simp[this]
theorem l6{kindOf:Str->Option Ul}{x:Str}{v:Value}:∀{P:4e3}{vs:2e6}{i:Nat}{m:2e5},P.Nodup->P[i]? = some x->vs[i]? = some v->kindOf x=some .local->
  bindL kindOf (P.zip vs) m x=some v
 |[],_,_,_,_,h,_,_=>by simp at h
 |_::_,[],_,_,_,_,h,_=>by simp at h
 |p::P,w::vs,0,m,nd,h1,h2,hk=>by
  simp at h1 h2;subst h1;subst h2;change bindL kindOf ((p,w)::P.zip vs) m p=_;ext bindL;rw[l5 λv hv=>(Xg.mp nd).1 (Ybw hv).1,if_pos hk];simp
 |p::P,w::vs,i+1,m,nd,h1,h2,hk=>by
  change bindL kindOf ((p,w)::P.zip vs) m x=_;ext bindL;show l6 (i:=i) (Xg.mp nd).2 (by simpa using h1) (by simpa using h2) hk
theorem l8{kindOf:Str->Option Ul}{x:Str}{v:Value}:∀{P:4e3}{vs:2e6}{i:Nat}{m:2e5},P.Nodup->P[i]? = some x->vs[i]? = some v->kindOf x≠some .local->
  bindC kindOf (P.zip vs) m x=some v
 |[],_,_,_,_,h,_,_=>by simp at h
 |_::_,[],_,_,_,_,h,_=>by simp at h
 |p::P,w::vs,0,m,nd,h1,h2,hk=>by
  simp at h1 h2;subst h1;subst h2;change bindC kindOf ((p,w)::P.zip vs) m p=_;ext bindC;rw[l7 λv hv=>(Xg.mp nd).1 (Ybw hv).1,if_neg hk];simp
 |p::P,w::vs,i+1,m,nd,h1,h2,hk=>by
  change bindC kindOf ((p,w)::P.zip vs) m x=_;ext bindC;show l8 (i:=i) (Xg.mp nd).2 (by simpa using h1) (by simpa using h2) hk
noncomputable def start (N:4e3)(vs:List V):St:=vs.map some++Vt (N.length-vs.length) none
noncomputable def j4 (CX:DT)(P:YF)(w:World)(K:W.Frag)(mg:2e5)(base:Heap)(N:4e3)(qual:Str)(scope:Scope)(f:Addr)(cd:Value)(A:Around)(outer:List Env)(s:Shared)(H:Hp)(E:XK):Cx where
 prog:=P
 w:=w
 K:=K
 mg:=mg
 base:=base
 A:=A.deeper (envOfC qual scope s.heap.objs.size f cd)
 N:=N
 s₀:=s
 H₀:=H
 env:=envOfC qual scope s.heap.objs.size f cd
 outer:=outer
 stack:=envOfC qual scope s.heap.objs.size f cd::outer
 ex:=[]
 calm:=true
 fn:=λ_=>true
 pn:=[]
 xe:=λe s'=>wpAny (model P w) (A.deeper (envOfC qual scope s.heap.objs.size f cd)) (leaving (envOfC qual scope s.heap.objs.size f cd) e) (λ_ D8=>CX outer H s E e D8) (λe' D8=>CX outer H s E e' D8) s'
theorem qH{sc:Scope}{n:Nat}{x:Str}(h:sc.names.lookup x=some .cell):∃c,(cellsFrom n sc.names []).lookup x=some c:=by
 have q:=W.cellsFrom_some sc.names n [] (.inl h);show Ub.mp q
theorem yq{CX:DT}{P:YF}{w:World}{K:W.Frag}{mg:2e5}{base:Heap}{N ps:4e3}{qual:Str}{scope:Scope}{f:Addr}{cd:Value}{A:Around}{outer:List Env}{s s1:Shared}{H:Hp}{E:XK}{us:2e6}{vs:List V}
  (S:aJ N ps scope) (hd:5e9) (e0:F6 P w K mg base A outer s H) (hl:vs.length=ps.length) (r:Vals vs us)
  (x:InCallC s s.heap.objs.size (bindL (envOfC qual scope s.heap.objs.size f cd).kindOf (ps.zip us) λ_=>none) (cellsFrom (s.heap.objs.size+1) scope.names []) (bindC (envOfC qual scope s.heap.objs.size f cd).kindOf (ps.zip us) λ_=>none) s1):
  Inv (j4 CX P w K mg base N qual scope f cd A outer s H E) [] (start N vs) H s1:=by
 have cD:ps.length<=N.length:=by have:=congrArg List.length S.pre;rw[Xo]at this;lia
 obtain⟨h1,tk,rfl,hk⟩:=x.done;have Nt:∀b:Addr,b∉(j4 CX P w K mg base N qual scope f cd A outer s H E).ex:=λb z=>absurd (show b∈([]:List Addr)from z) 2e9;show⟨⟨e0.mod,S.kind,rfl,rfl,Yl _,λy z c h1 h2=>?_,λy hy=>?_,λy c _ h=>?_,λ_=>hd,Around.frames_deeper e0.frames,.inr ⟨rfl,rfl⟩,λb z=>absurd z (Nt b),e0.bs,e0.Km,λb _ _=>Nt b,λb z=>absurd z (Nt b),e0.jS,e0.LN⟩,
  rfl,e0.bare,Un.kept hk,⟨_,x.toInCall.ns,λi y v h1 h2 h3=>?_⟩,λy c h=>⟨_,x.cell y c h⟩,e0.aQ.fresh (Yl _),λy c h=>?_,λp hp=>absurd (show p∈([]:List (Addr×Obj))from hp) (by simp),e0.aQ.kept hk,?_⟩
 ·show name_of_addr x.apart (Ve h1) (Ve h2)
 ·have hy:scope.names.lookup y=some .cell\/scope.names.lookup y=some .free:=hy
  rcases hy with hy|hy
  ·show qH hy
  ·show absurd rfl (S.IL _ (Ve hy))
 ·show XI (x.above y c (Ve h))
 ·have hi:i<vs.length:=by
   ext start h2;by_cases hi:i<vs.length
   ·show hi
   ·rw[YE (by simpa using hi)]at h2
    rw[List.getElem?_replicate]at h2;split at h2<;>cases h2
  have ha:vs[i]? = some v:=by
   ext start h2;rw[Yo (by simpa using hi),Yy]at h2;cases e:vs[i]? with
   |none=>rw[e]at h2;cases h2
   |some a=>rw[e]at h2;cases h2;rfl
  obtain⟨u,hu,rv⟩:=r.get ha;have hp:ps[i]? = some y:=by
   rw[←S.pre,XH 1e0];show h1
  have ndP:ps.Nodup:=by rw[←S.pre];show S.nd.sublist (List.take_sublist _ _)
  show⟨u,rv,?_⟩;rcases S.par y (YH hp)with k|k
  ·show .inl ⟨k,l6 ndP hp hu k⟩
  ·obtain⟨c,e⟩:=qH (n:=s.heap.objs.size+1) k
   show .inr ⟨.inl k,c,e,?_⟩;have q:=x.cell y c e;rw[l8 ndP hp hu (by change scope.names.lookup y≠_;rw[k];decide)]at q;show q
 ·show e0.aQ.fresh (XI (x.above y c (Ve h)))
 ·ext start
  change _=N.length;rw[Yf,Yi,List.length_replicate];lia
theorem OU{CX:DT}{P:YF}{w:World}{K:W.Frag}{mg:2e5}{base:Heap}{k:Nat}{f:Addr}{name qual:Str}{params:Arguments}{body:List Stmt}{scope:Scope}{dV kV doc pm cdv ct oc:Value}{an od:Option Addr}
  {osl:Array (Option Value)} {N ps:4e3} {sp:Sp} (lk:K.lookup f=some ⟨oc,od,.func (W.fnOf name qual params body scope dV kV doc pm an cdv ct),osl⟩) (ou:W.codeIn K cdv qual=true) (S:aJ N ps scope)
  (len:∀vs H Q E,sp vs H Q E->vs.length=ps.length)
  (fm:∀(A:Around)(outer:List Env)(s:Shared)(H:Hp)(vs:List V)(Q:VK)(E:XK),b9 k (A.deeper (envOfC qual scope s.heap.objs.size f cdv))->sp vs H Q E->
   ∃t,kQ (j4 CX P w K mg base N qual scope f cdv A outer s H E) body t/\t {nx:=λ_ H'=>Q .aF H',rt:=Q} (start N vs) H):
  eY P w K mg base CX (k+1) f (W.fnOf name qual params body scope dV kV doc pm an cdv ct) ps sp:=by
 show⟨len,λA outer s H args us vs Q E hr e0 hb r Lv=>?_⟩;have hl:=len _ _ _ _ Lv;have KX:K.In s.heap:=e0.mod.SQ.keeps λb o e=>(e0.bs b o e).1;have lim:s.heap.NoLimit:=e0.mod.nolimit.keeps λb o e=>(e0.bs b o e).1;have Ol:∀y∈ps.zip us,scope.names.lookup y.1=some .local\/(scope.names.lookup y.1=some .cell/\((cellsFrom (s.heap.objs.size+1) scope.names []).lookup y.1).isSome=true):=λ⟨n,v⟩ hy=>by
  rcases S.par n (Ybw hy).1 with q|q
  ·show .inl q
  ·show .inr ⟨q,W.cellsFrom_some _ _ _ (.inl q)⟩
 show codeAny_call_function hr.depth (KX _ _ lk) rfl S.co S.gen rfl (W.codeRec_of KX ou) (hb _ _ _ _ ?_);show wpAny_newFunctionEnv_cells S.kind Ol λenv he s1 x=>?_;subst he;show⟨lim.keeps x.toInCall.keep,codeAny_func ?_⟩;obtain⟨t,ht,hq⟩:=fm A outer s H vs Q E (hr.deeper _) Lv;have I:Inv (j4 CX P w K mg base N qual scope f cdv A outer s H E) [] (start N vs) H s1:=yq S hr.hd e0 hl r x;show Xk (ht [] s1 (start N vs) H _ I hq) (λfl s' hs=>?_) λe s' hs=>hs;have fin:∀{σ':St}{H':Hp}{v:V}{u:Value},Inv (j4 CX P w K mg base N qual scope f cdv A outer s H E) [] σ' H' s'->RelV v u->Q v H'->CE outer P w H s Q u s':=
  λ{σ' H' v u} J rv q=>⟨v,H',J.os,J.bare,J.base,J.aQ,rv,q⟩
 cases fl with
 |ret u=>
  obtain⟨v,σ',H',J,rv,q⟩:=hs;show fin J rv q
 |next=>
  obtain⟨σ',H',J,q⟩:=hs;show fin (v:=V.aF) (u:=Xw) J rfl q
 |brk=>
  obtain⟨_,_,_,q⟩:=hs;show Vs q
 |cont=>
  obtain⟨_,_,_,q⟩:=hs;show Vs q
section
variable{X:Cx}{x:Str}{p pos:Pos}{e:Expr}{es:3e4}{t:TA}{id T:String}{r:List V->Hp->VK->Prop}
noncomputable def RX (r:List V->Hp->VK->Prop)(t:TA):TE:=λσ H Q=>t σ H λvs H1=>r vs H1 Q
theorem jC(hc:cL X (.builtin id) r)(hg:Gl X x)(hm:X.mg x=none)(hv:XB x=some (.builtin id))(ha:PA X 4e4 t)(hn:x≠"__name__":=by decide)(iF:3e2:=by decide)
  (he:1e5:=by rfl) (cD:2e4:=by rfl):PE X 7e1 (RX r t):=by
 intro pins s σ H Q I h;show Wy (FQ I hg hm hv ?_ hn iF);show UN (bS (ha pos pins s σ H _ I h) λus s1 ⟨vs,H1,I1,r1,q1⟩=>hc pins s1 σ H1 vs us Q I1 r1 q1) he cD
theorem lz(hc:cL X (.type T) r)(hg:Gl X x)(hm:X.mg x=none)(hv:XB x=some (.type T))(ha:PA X 4e4 t)(hn:x≠"__name__":=by decide)(iF:3e2:=by decide)
  (he:1e5:=by rfl) (cD:2e4:=by rfl):PE X 7e1 (RX r t):=by
 intro pins s σ H Q I h;show Wy (FQ I hg hm hv ?_ hn iF);show Xx (bS (ha pos pins s σ H _ I h) λus s1 ⟨vs,H1,I1,r1,q1⟩=>hc pins s1 σ H1 vs us Q I1 r1 q1) he cD
end
end L2
namespace HT
open PySem PyProof.Rows
section
variable{prog:YF}{w:World}{A:Around}{E:1e1}{s:Shared}
theorem FI{t b:Addr}{vs ws:2e6}{Q:1e1}(ht:IsTup s.heap t vs.toArray)(hb:IsTup s.heap b ws.toArray)(hv:vs≠[])
  (h1:ws=[]->Q (.ref t) s) (h2:ws≠[]->Q 4e9 {s with heap:=s.heap.push {cls:=.type "tuple",data:=.seq (vs++ws).toArray}})
  (hsz:vs.length+ws.length<=YA):wpAny 1e3 A (V6 .Add (.ref t) (.ref b)) Q E s:=by
 obtain⟨⟨cls,dd,data,sl⟩,ho,hc,n,hd⟩:=id ht;obtain⟨⟨FF,zC,data2,rA⟩,qd,rF,n2,hd2⟩:=id hb;simp only at hc hd rF hd2;subst hc hd rF hd2;have e:vs.toArray++ws.toArray=(vs++ws).toArray:=by simp
 by_cases hw:ws=[]
 ·show Ro ⟨_,ho,rfl⟩ ⟨_,qd,rfl⟩ Ybo seq_tuple_add UB Um (Uc _ _)
   (tuple_addW1 t b vs.toArray ws.toArray n n2 dd zC sl rA (by simpa using hv) (by simp[hw])) ⟨ho,qd,h1 hw⟩
 ·show Ro ⟨_,ho,rfl⟩ ⟨_,qd,rfl⟩ Ybo seq_tuple_add UB Um (Uc _ _)
   (tuple_addW2 t b vs.toArray ws.toArray n n2 dd zC sl rA (by simpa using hv) (by simpa using hw) (by rw[Yp,Yp];show hsz)) ⟨ho,qd,?_⟩
  rw[e];show h2 hw
noncomputable def bI (n d:Nat):Option Int->Nat
 |none=>d
 |some v=>if v<0 then(v+(n:Int)).toNat else min v.toNat n
theorem Ig(n d:Nat)(hd:d<=n)(o:Option Int):bI n d o<=n:=by
 cases o with
 |none=>show hd
 |some v=>
  change(if v<0 then(v+(n:Int)).toNat else min v.toNat n)<=n;by_cases hv:v<0
  ·rw[if_pos hv];lia
  ·rw[if_neg hv];show Nat.min_le_right _ _
theorem wN(v:Int)(n d:Nat):(if v<0 then max (v+(n:Int)) 0 else min v (n:Int))=((bI n d (some v):Nat):Int):=by
 change(if v<0 then max (v+(n:Int)) 0 else min v (n:Int))=(((if v<0 then(v+(n:Int)).toNat else min v.toNat n):Nat):Int)
 by_cases hv:v<0
 ·simp only[if_pos hv];lia
 ·simp only[if_neg hv];lia
theorem uM(lo hi:Option Int)(n:Nat):V0 lo hi 1 (n:Int)=(((bI n 0 lo:Nat):Int),((bI n n hi:Nat):Int)):=by
 have h1:¬((1:Int)<0):=by lia
 ext V0;simp only[h1,if_false];show Prod.ext ?_ ?_
 ·cases lo with
  |none=>rfl
  |some v=>show wN v n 0
 ·cases hi with
  |none=>rfl
  |some v=>show wN v n n
theorem sM(i j:Nat):W4 (i:Int) (j:Int) 1=j-i:=by
 ext W4;have h1:(1:Int)>0:=by lia
 simp only[h1,if_true,Int.ediv_one];split<;>lia
theorem jn{v:Value}{o:Option Int}{Q:Option Int->Shared->Prop}(p:IsPart v o)(h:Q o s):wpAny 1e3 A (Builtin.Slice.slicePartIndex v) Q E s:=by
 cases p with
 |none=>show slicePart_none h
 |int i t=>show slicePart_int h
theorem d8{sl:Addr}{vl vu:Value}{lo hi:Option Int}{n:Nat}{Q:Int×Int×Nat->Shared->Prop}(hs:s.heap.IsSliceOf sl vl vu .none)(pl:IsPart vl lo)(pu:IsPart vu hi)
  (h:Q (((bI n 0 lo:Nat):Int),1,bI n n hi-bI n 0 lo) s):wpAny 1e3 A (Yak (.ref sl) (pure (n:Int))) Q E s:=by
 obtain⟨os,JB,Qy,JJ⟩:=id hs;unfold Yak Builtin.Slice.sliceFields;show Ya (Ya (Rj JB JJ (x:=vl) rfl (Ya (Rj JB JJ (x:=vu) rfl (Ya (Rj JB JJ (x:=.none) rfl (Yc ?_)))))));show Ya (slicePart_none ?_);change wpAny _ _ (if((1:Int)==0)=true then _ else _) _ _ s;rw[if_neg 1e7];show Ya (jn pl (Ya (jn pu (Ya (Yc ?_)))));change wpAny _ _ (match V0 lo hi 1 (n:Int)with|(lo,hi)=>pure (lo,(1:Int),W4 lo hi 1)) _ _ s;rw[uM lo hi n];change wpAny _ _ (pure (((bI n 0 lo:Nat):Int),(1:Int),W4 ((bI n 0 lo:Nat):Int) ((bI n n hi:Nat):Int) 1)) _ _ s;rw[sM];show Yc h
theorem AH(xs:Array Value)(i k:Nat):((YB k).filterMap λ(m:Nat)=>xs[((i:Int)+(m:Int)*1).toNat]?).toArray=((xs.toList.drop i).take k).toArray:=by
 have e:(λ(m:Nat)=>xs[((i:Int)+(m:Int)*1).toNat]?)=λm=>xs[i+m]?:=by
  funext m
  have:((i:Int)+(m:Int)*1).toNat=i+m:=by lia
  rw[this]
 rw[e];have:=pick_run xs i k;rw[List.filterMap_map]at this;have e2:((λx=>xs[x]?)∘λx=>i+x)=λm=>xs[i+m]?:=rfl;rw[e2]at this;rw[this]
theorem gG{t sl:Addr}{items:Array Value}{vl vu:Value}{lo hi:Option Int}{Q:1e1}(ht:IsTup s.heap t items)(hs:s.heap.IsSliceOf sl vl vu .none)(pl:IsPart vl lo)(pu:IsPart vu hi)
  (hw:¬(bI items.size 0 lo=0/\bI items.size items.size hi=items.size))
  (h:Q 4e9 {s with heap:=s.heap.push {cls:=.type "tuple",data:=.seq ((items.toList.drop (bI items.size 0 lo)).take (bI items.size items.size hi-bI items.size 0 lo)).toArray}})
  (hsz:items.size<=YA):wpAny 1e3 A (Hv (.ref t) (.ref sl)) Q E s:=by
 have wx:sizeOk (.seq ((items.toList.drop (bI items.size 0 lo)).take (bI items.size items.size hi-bI items.size 0 lo)).toArray):=by
  change((items.toList.drop (bI items.size 0 lo)).take (bI items.size items.size hi-bI items.size 0 lo)).toArray.size<=YA;rw[Yp,Xo,Xp,Xi];lia
 have hj:bI items.size items.size hi<=items.size:=Ig _ _ (Yl _) hi;obtain⟨os,JB,Qy,JJ⟩:=id hs;have T9:s.TypeIs (.ref sl) "slice":=⟨os,JB,Qy⟩
 ext Hv;try with_reducible show Xf ?_
 first|show Ya (Yc ?_)|skip
 show Ya (wpAny_sequenceKey ht.typeIs 1e7 ?_);show Ya (XC (name:=Vc "__getitem__") ht.typeIs Xy
  (Xl Xy ht.typeIs entry_tuple_getitem ?_ (args_tuple_getitem _ _)))
 change wpAny _ _ (VY (.ref t)>>=_) _ _ s;show Ya (tupleItemsOf_ ht ?_);show Ya (WX T9 ?_);rw[if_pos 1e7];show Ya (d8 hs pl pu ?_);have Tv:¬((((bI items.size 0 lo:Nat):Int)==0&&(1:Int)==1&&(bI items.size items.size hi-bI items.size 0 lo)==items.size)=true):=by
  intro q;rw[YI,YI]at q;have q1:((bI items.size 0 lo:Nat):Int)=0:=eq_of_beq q.1.1;have q2:bI items.size items.size hi-bI items.size 0 lo=items.size:=eq_of_beq q.2;show hw ⟨by lia,by lia⟩
 change wpAny _ _ (if(((bI items.size 0 lo:Nat):Int)==0&&(1:Int)==1&&(bI items.size items.size hi-bI items.size 0 lo)==items.size)=true then _ else _) _ _ s;rw[if_neg Tv,AH];first
  |show Ya (m:=W8 _) (XD (Yc ⟨_,rfl,Yc h⟩) wx)
  |show Ya (m:=W8 _) (XD (Ya (Yc (Yc ⟨_,rfl,Yc h⟩))) wx)
  |show Ya (Ya (m:=W8 _) (XD (Yc (Yc ⟨_,rfl,Yc h⟩)) wx))
  |show Ya (Ya (m:=W8 _) (XD (Yc ⟨_,rfl,Yc h⟩) wx))
end
end HT
namespace L2
open PySem PySem.Spec PyProof.Rows
abbrev TO:=St->Hp->(Option Int->Hp->Prop)->Prop
def PO(X:Cx)(e:Option Expr)(t:TO):Prop:=
 ∀(pins:1e8)(s:Shared)(σ:St)(H:Hp)(Q:Option Int->Hp->Prop),Inv X pins σ H s->t σ H Q->
  wpAny 2e2 X.A (evalPart e X.env) (λu s'=>∃o H',Inv X pins σ H' s'/\IsPart u o/\Q o H') X.xe s
noncomputable def DX:TO:=λ_ H Q=>Q none H
noncomputable def MD (t:TE):TO:=λσ H Q=>t σ H λx H1=>∃i,x=.int i/\Q (some i) H1
section
variable{X:Cx}{e:Expr}{te:TE}{lo hi:Option Expr}{tl th:TO}{pos p2:Pos}
theorem Et:PO X none DX:=by
 intro pins s σ H Q I h;rw[evalPart_none];show Yc ⟨none,H,I,.none,h⟩
theorem Es(h:PE X e te):PO X (some e) (MD te):=by
 intro pins s σ H Q I hw;rw[evalPart_some];show bS (h pins s σ H _ I hw) λu s1 h_=>?_;obtain⟨x,H1,I1,r1,q1⟩:=h_;obtain⟨i,rfl,q⟩:=q1;obtain⟨t,rfl⟩:=r1;show⟨some i,H1,I1,.int i t,q⟩
def DN(X:Cx)(r:V->Option Int->Option Int->Hp->VK->Prop):Prop:=
 ∀(pins:1e8)(s:Shared)(σ:St)(H:Hp)(x:V)(v vl vu:Value)(lo hi:Option Int)(sl:Addr)(Q:VK),Inv X pins σ H s->RelV x v->s.heap.IsSliceOf sl vl vu .none->IsPart vl lo->IsPart vu hi->r x lo hi H Q->
  ∃T id,typeLookup (.type T) "__getitem__"=pure (some (.builtin id))/\s.TypeIs v T/\wpAny 2e2 X.A (Hv v (.ref sl)) (EP X pins σ Q) X.xe s
theorem DN.or{r r':V->Option Int->Option Int->Hp->VK->Prop}(h:DN X r)(h':DN X r'):DN X (λx lo hi H Q=>r x lo hi H Q\/r' x lo hi H Q):=by
 intro pins s σ H x v vl vu lo hi sl Q I rx hs pl pu q;rcases q with q|q
 ·show h pins s σ H x v vl vu lo hi sl Q I rx hs pl pu q
 ·show h' pins s σ H x v vl vu lo hi sl Q I rx hs pl pu q
noncomputable def tSl (r:V->Option Int->Option Int->Hp->VK->Prop)(te:TE)(tl th:TO):TE:=λσ H Q=>te σ H λx H1=>tl σ H1 λl H2=>th σ H2 λu H3=>r x l u H3 Q
theorem AN{r:V->Option Int->Option Int->Hp->VK->Prop}(hr:DN X r)(he:PE X e te)(hl:PO X lo tl)(hu:PO X hi th):PE X (.Subscript e (.Slice lo hi none p2) pos) (tSl r te tl th):=by
 intro pins s σ H Q I h;show Subscript_ (bS (he pins s σ H _ I h) λv s1 h_=>?_);obtain⟨x,H1,I1,r1,q1⟩:=h_;show wpAny_Slice (bS (hl pins s1 σ H1 _ I1 q1) λvl s2 ⟨l,H2,I2,pl,q2⟩=>bS (hu pins s2 σ H2 _ I2 q2) λvu s3 h_=>?_);obtain⟨u,H3,I3,pu,q3⟩:=h_;rw[evalPart_none];show Yc ?_;have I4:Inv X pins σ H3 {s3 with heap:=s3.heap.push {cls:=.type "slice",data:=.fields #[vl,vu,.none]}}:=I3.kept (t':=s3.toks) λb ob q=>Yb _ q;obtain⟨T,id,hT,ht,hg⟩:=hr pins {s3 with heap:=s3.heap.push {cls:=.type "slice",data:=.fields #[vl,vu,.none]}} σ H3 x v vl vu l u s3.heap.objs.size Q I4 r1 (Heap.IsSliceOf.new ..) pl pu q3;change wpAny 2e2 X.A (subscriptTail e (.Slice lo hi none p2) v (.ref s3.heap.objs.size)) (EP X pins σ Q) X.xe {s3 with heap:=s3.heap.push {cls:=.type "slice",data:=.fields #[vl,vu,.none]}};show tail_any (ops:=[.ref s3.heap.objs.size,v]) ht hT hg (by with_unfolding_all rfl)
def qA(xs:List V)(lo hi:Option Int):List V:=(xs.drop (HT.bI xs.length 0 lo)).take (HT.bI xs.length xs.length hi-HT.bI xs.length 0 lo)
theorem Zdw(xs:List V)(lo hi:Option Int):(qA xs lo hi).length<=xs.length:=by
 ext qA;rw[Xo,Xp];lia
def Sg(K:W.Frag):V->Option Int->Option Int->Hp->VK->Prop:=λx lo hi H Q=>∃a xs,x=.ref a/\kg K H a xs/\
 ¬(HT.bI xs.length 0 lo=0/\HT.bI xs.length xs.length hi=xs.length)/\∀p,H p=none->Q (.ref p) (upd H p (.tup (qA xs lo hi)))
theorem Ib:DN X (Sg X.K):=by
 intro pins s σ H x v vl vu lo hi sl Q I rx hs pl pu h;obtain⟨a,xs,rfl,hx,hw,q⟩:=h;cases rx;obtain⟨aw,r,ht,hz⟩:=I.tuple hx;have hlen:aw.toArray.size=xs.length:=by rw[Yp];show r.length.symm
 show⟨"tuple",_,Xy.lookup,ht.typeIs,?_⟩;show HT.gG ht hs pl pu (by rw[hlen];show hw) ?_ (by rw[hlen];show hz);rw[hlen];show⟨.ref s.heap.objs.size,_,I.laid (t':=s.toks) (o:=.tup (qA xs lo hi)) (λb ob q=>Yb _ q) (Yl _) ?_,rfl,q _ (I.aQ.fresh (Yl _))⟩;show⟨Xb (Zdw xs lo hi) hz,_,(r.drop (HT.bI xs.length 0 lo)).take (HT.bI xs.length xs.length hi-HT.bI xs.length 0 lo),IsTup.new _ _⟩
def Nd(K:W.Frag):R2:=λx y H Q=>∃a b xs ys,x=.ref a/\y=.ref b/\kg K H a xs/\kg K H b ys/\xs≠[]/\xs.length+ys.length<=YA/\
 (ys=[]->Q (.ref a) H)/\(ys≠[]->∀p,H p=none->Q (.ref p) (upd H p (.tup (xs++ys))))
theorem Vals.iT{xs:List V}{us:2e6}(r:Vals xs us):us=[]↔xs=[]:=by
 cases r with
 |nil=>simp
 |cons _ _=>simp
theorem EC:fX X (V6 .Add) (Nd X.K):=by
 sleep 7;obtain⟨a,b,xs,ys,rfl,rfl,ha,hb,hx,hz,q1,q2⟩:=h;cases rx;cases ry;obtain⟨aw,r1,p1,_⟩:=I.tuple ha;obtain⟨hW,r2,p2,_⟩:=I.tuple hb;show HT.FI p1 p2 (λz=>hx (r1.iT.mp z)) (λz=>⟨.ref a,H,I,rfl,q1 (r2.iT.mp z)⟩) (λz=>?_) (by rw[←r1.length,←r2.length];show hz);show⟨.ref s.heap.objs.size,_,I.laid (t':=s.toks) (o:=.tup (xs++ys)) (λb ob q=>Yb _ q) (Yl _) ?_,rfl,q2 (λw=>z (r2.iT.mpr w)) _ (I.aQ.fresh (Yl _))⟩;show⟨by rw[Yf];show hz,_,r1.append r2,IsTup.new _ _⟩
end
noncomputable def kH (n:Nat)(i:Int):Option Nat:=if 0<=i then(if i<n then some i.toNat else none)else if -(n:Int)<=i then some (i+n).toNat else none
def gR{α:Type}(xs:List α)(i:Int):Option α:=(kH xs.length i).bind λj=>xs[j]?
theorem wk{n:Nat}{i:Int}{j:Nat}(h:kH n i=some j):PN i n=some j/\j<n/\-(n:Int)<=i/\i<n:=by
 ext kH h;by_cases h0:0<=i
 ·rw[if_pos h0]at h
  by_cases h1:i<n
  ·rw[if_pos h1]at h
   have e:i.toNat=j:=YO h;show⟨by rw[seqIndex_of h0 h1,e],by lia,by lia,h1⟩
  ·rw[if_neg h1]at h;cases h
 ·rw[if_neg h0]at h
  by_cases h1:-(n:Int)<=i
  ·rw[if_pos h1]at h
   have e:(i+n).toNat=j:=YO h;show⟨by rw[seqIndex_neg 1e0 h1,e],by lia,h1,by lia⟩
  ·rw[if_neg h1]at h;cases h
theorem nY{α:Type}{xs:List α}{i:Int}{v:α}(h:gR xs i=some v):∃j,PN i xs.length=some j/\xs[j]? = some v/\j<xs.length/\-(xs.length:Int)<=i/\i<xs.length:=by
 ext gR h;cases e:kH xs.length i with
 |none=>rw[e]at h;cases h
 |some j=>
  rw[e]at h;obtain⟨h1,h2,h3,h4⟩:=wk e;show⟨j,h1,h,h2,h3,h4⟩
def jb(b:Expr):Prop:=∀o i,subscripted b false o i=operate [o,i] (Hv o i)
def zi(X:Cx)(r:R2):Prop:=
 ∀(value slice:Expr)(pins:1e8)(s:Shared)(σ:St)(H:Hp)(x y:V)(v u:Value)(Q:VK),Inv X pins σ H s->RelV x v->RelV y u->r x y H Q->
  subscripted slice false v u=operate [v,u] (Hv v u)->wpAny 2e2 X.A (subscriptTail value slice v u) (EP X pins σ Q) X.xe s
def MtR(X:Cx)(id:String)(r:V->List V->Hp->VK->Prop):Prop:=
 ∀(pins:1e8)(s:Shared)(σ:St)(H:Hp)(x:V)(xs:List V)(v:Value)(us:2e6)(Q:VK),Inv X pins σ H s->RelV x v->Vals xs us->r x xs H Q->
  wpAny 2e2 X.A (call (.builtin id) (v::us)) (EP X pins σ Q) X.xe s
section
variable{X:Cx}{a b:Expr}{ta tb:TE}{pos:Pos}
theorem zi.or{r r':R2}(h:zi X r)(h':zi X r'):zi X (λx y H Q=>r x y H Q\/r' x y H Q):=by
 intro value slice pins s σ H x y v u Q I rx ry q hs;rcases q with q|q
 ·show h value slice pins s σ H x y v u Q I rx ry q hs
 ·show h' value slice pins s σ H x y v u Q I rx ry q hs
theorem Nl{r:R2}(hr:zi X r)(ha:PE X a ta)(hb:PE X b tb)(hs:jb b):PE X (.Subscript a b pos) (ME r ta tb):=by
 intro pins s σ H Q I h;show Subscript_ (Kn ha hb I h λv u s2 x y H2 I2 rx ry q=>hr a b pins s2 σ H2 x y v u Q I2 rx ry q (hs _ _))
def Nb(K:W.Frag):R2:=λx y H Q=>∃p xs i v,x=.ref p/\y=.int i/\fy K H p xs/\gR xs i=some v/\Q v H
def M'(K:W.Frag):R2:=λx y H Q=>∃p xs i v,x=.ref p/\y=.int i/\kg K H p xs/\gR xs i=some v/\Q v H
def Na:R2:=λx y H Q=>∃z i c,x=.str z/\y=.int i/\z.length<=YA/\gR z.cps.toList i=some c/\Q (.str ⟨#[c]⟩) H
theorem E8:zi X (Nb X.K):=by
 intro value slice pins s σ H x y v u Q I rx ry h hs;obtain⟨p,xs,i,z,rfl,rfl,hq,he,q⟩:=h;cases rx;obtain⟨t,rfl⟩:=ry;obtain⟨aw,r,pl,hz⟩:=I.list hq;obtain⟨j,h1,h2,h3,h4,h5⟩:=nY he;obtain⟨w,ew,D9⟩:=r.get h2;have hl:=r.length;have hn:=hV;have fin:EP X pins σ Q w s:=⟨z,H,I,D9,q⟩
 by_cases h0:0<=i
 ·have hj:i.toNat=j:=by
   rw[seqIndex_of h0 h5]at h1;show YO h1
  show item_listR pl.isList h0 1e0 (by rw[hj];simpa using ew) fin hs
 ·have hj:(i+(aw.toArray.size:Int)).toNat=j:=by
   rw[seqIndex_neg 1e0 h4]at h1;rw[Yp,←hl];show YO h1
  show subscriptTail_builtinR (x:=w) pl.isList.typeIs slot_list_getitem.lookup
   (wpAny_getItem_list_neg (Q:=λr s'=>r=w/\EP X pins σ Q r s') pl.isList 1e0 (by rw[Yp]<;>lia) 1e0 (by rw[hj];simpa using ew) ⟨rfl,fin⟩) hs
theorem Jn:zi X (M' X.K):=by
 intro value slice pins s σ H x y v u Q I rx ry h hs;obtain⟨p,xs,i,z,rfl,rfl,hq,he,q⟩:=h;cases rx;obtain⟨t,rfl⟩:=ry;obtain⟨aw,r,pl,hz⟩:=I.tuple hq;obtain⟨j,h1,h2,h3,h4,h5⟩:=nY he;obtain⟨w,ew,D9⟩:=r.get h2;have hl:=r.length;have hn:=hV;have fin:EP X pins σ Q w s:=⟨z,H,I,D9,q⟩
 show subscriptTail_builtinR (x:=w) pl.typeIs slot_tuple_getitem.lookup
  (getItem_tuple (j:=j) (Q:=λr s'=>r=w/\EP X pins σ Q r s') pl 1e0 1e0 (by rw[Yp,←hl];show h1) (by simpa using ew) ⟨rfl,fin⟩) hs
theorem Jo:zi X Na:=by
 intro value slice pins s σ H x y v u Q I rx ry h hs;obtain⟨z,i,c,rfl,rfl,hz,he,q⟩:=h;obtain⟨t,rfl⟩:=rx;obtain⟨t',rfl⟩:=ry;obtain⟨j,h1,h2,h3,h4,h5⟩:=nY he;have hl:z.cps.toList.length=z.length:=by simp[Str.length]
 rw[hl]at h1 h4 h5;have hn:=hV;show tail_any (typeIs_str s z t) slot_str_getitem.lookup (getItem_str (c:=c) (by
  have e1:decide (i < -(2^63:Int))=false:=decide_eq_false 1e0;have e2:decide (i≥2^63)=false:=decide_eq_false 1e0;rw[e1,e2,Bool.or_false]) (by rw[h1];simpa using h2) ⟨.str ⟨#[c]⟩,H,I.tok _,⟨_,rfl⟩,q⟩) hs
def Qe(K:W.Frag):R2:=λx y H Q=>Nb K x y H Q\/M' K x y H Q\/Na x y H Q
theorem BB:zi X (Qe X.K):=E8.or (Jn.or Jo)
theorem tp(aw:2e6)(n j:Nat)(u:Value):XS (·.setIfInBounds j u) {cls:=.type "list",data:=.seq aw.toArray n}={cls:=.type "list",data:=.seq (aw.set j u).toArray n}:=by
 simp[XS]
theorem Inv.lst{pins:1e8}{σ:St}{H:Hp}{s:Shared}{p:Addr}{xs:List V}(I:2e0)(h:H p=some (.lst xs)):
  ∃(aw:2e6)(n:Nat),Vals xs aw/\s.heap.get? p=some {cls:=.type "list",data:=.seq aw.toArray n}/\xs.length<=sizeLine:=by
 obtain⟨z,aw,n,r,e⟩:=I.aQ p _ h;show⟨aw,n,r,e,z⟩
theorem Inv.I8{pins:1e8}{σ:St}{H:Hp}{s:Shared}{p:Addr}{xs ys:List V}{aw its':2e6}{n n':Nat}{f:Obj->Obj}(I:2e0)(h:H p=some (.lst xs))
  (ho:s.heap.get? p=some {cls:=.type "list",data:=.seq aw.toArray n}) (hf:f {cls:=.type "list",data:=.seq aw.toArray n}={cls:=.type "list",data:=.seq its'.toArray n'}) (r:Vals ys its') (hz:ys.length<=YA) (t:Nat):
  Inv X pins σ (upd H p (.lst ys)) {s with heap:=s.heap.update p f,toks:=t}:=by
 have e:(s.heap.update p f).get? p=some {cls:=.type "list",data:=.seq its'.toArray n'}:=by
  rw[Xu f ho (by rw[hf]<;>rfl),hf]
 show I.write (x:=p) (e:=p) (by rw[h];trivial) 9e6 (λb u hb q=>(Heap.get?_update_other _ _ (WC hb)).trans q) ⟨_,e⟩ ?_;show⟨hz,its',n',r,e⟩
def M8:V->V->V->Hp->(Hp->Prop)->Prop:=λo i v H Q=>∃p xs k j,o=.ref p/\i=.int k/\H p=some (.lst xs)/\kH xs.length k=some j/\Q (upd H p (.lst (xs.set j v)))
theorem set_list:P1 X M8:=by
 intro pins s σ H o i v ov iv u Q I ro ri rv h;obtain⟨p,xs,k,j,rfl,rfl,hp,hj,q⟩:=h;cases ro;obtain⟨t,rfl⟩:=ri;obtain⟨aw,n,r,ho,hz⟩:=I.lst hp;obtain⟨h1,h2,h3,h4⟩:=wk hj;have hl:=r.length;have hn:=hV;have I':Inv X pins σ (upd H p (.lst (xs.set j v))) {s with heap:=s.heap.update p (XS (·.setIfInBounds j u))}:=
  I.I8 hp ho (tp aw n j u) (r.set rv j) (by rw[Uo];show hz) s.toks
 by_cases h0:0<=k
 ·have hk:k.toNat=j:=by
   rw[seqIndex_of h0 h4]at h1;show YO h1
  show W.ki_setAt ho h0 1e0 (by rw[Yp,←hl];show h4) (by rw[hk];show⟨_,I',q⟩)
 ·have hk:(k+(aw.toArray.size:Int)).toNat=j:=by
   rw[seqIndex_neg 1e0 h3]at h1;rw[Yp,←hl];show YO h1
  show W.ki_setBack ho 1e0 (by rw[Yp,←hl];show h3) 1e0 (by rw[hk];show⟨_,I',q⟩)
theorem mE(lo hi:Option Int)(n:Nat):(UD lo hi none n).1=((HT.bI n 0 lo:Nat):Int)/\(UD lo hi none n).2.1=((HT.bI n n hi:Nat):Int)/\(UD lo hi none n).2.2=1:=by
 show⟨?_,?_,rfl⟩
 ·cases lo with
  |none=>simp[UD,HT.bI]
  |some i=>
   simp only[UD,HT.bI,Option.getD_none,show(1:Int)>0 by decide,if_true];by_cases h:i<0
   ·simp only[h,if_true]<;>lia
   ·simp only[h,if_false]<;>lia
 ·cases hi with
  |none=>simp[UD,HT.bI]
  |some i=>
   simp only[UD,HT.bI,Option.getD_none,show(1:Int)>0 by decide,if_true];by_cases h:i<0
   ·simp only[h,if_true]<;>lia
   ·simp only[h,if_false]<;>lia
theorem kr(aw:2e6)(lo hi:Option Int):slicePick aw.toArray lo hi none=((aw.drop (HT.bI aw.length 0 lo)).take (HT.bI aw.length aw.length hi-HT.bI aw.length 0 lo)).toArray:=by
 obtain⟨h1,h2,h3⟩:=mE lo hi aw.toArray.size;ext slicePick;rw[h1,h2,h3];simp only[sliceRange_one,pick_run,Yp]<;>rfl
def Sh(K:W.Frag):V->Option Int->Option Int->Hp->VK->Prop:=λx lo hi H Q=>∃a xs,x=.ref a/\fy K H a xs/\∀p,H p=none->Q (.ref p) (upd H p (.lst (qA xs lo hi)))
theorem D6:DN X (Sh X.K):=by
 intro pins s σ H x v vl vu lo hi sl Q I rx hs pl pu h;obtain⟨a,xs,rfl,hx,q⟩:=h;cases rx;obtain⟨aw,r,ht,hz⟩:=I.list hx;have hlen:=r.length;show⟨"list",_,slot_list_getitem.lookup,ht.isList.typeIs,?_⟩;show wpAny_getItem_list_slice ht.isList hs pl pu .none 2e9 ?_ (by rw[Yp]<;>lia);rw[kr,←hlen];show⟨.ref s.heap.objs.size,_,I.laid (t':=s.toks) (o:=.lst (qA xs lo hi)) (λb ob q=>Yb _ q) (Yl _) ?_,rfl,q _ (I.aQ.fresh (Yl _))⟩;show⟨Xb (Zdw xs lo hi) hz,_,0,(r.drop (HT.bI xs.length 0 lo)).take (HT.bI xs.length xs.length hi-HT.bI xs.length 0 lo),Yg _ rfl⟩
theorem cL.or{f:Value}{r r':List V->Hp->VK->Prop}(h:cL X f r)(h':cL X f r'):cL X f (λxs H Q=>r xs H Q\/r' xs H Q):=by
 intro pins s σ H xs us Q I rs q;rcases q with q|q
 ·show h pins s σ H xs us Q I rs q
 ·show h' pins s σ H xs us Q I rs q
theorem nU:cL X (.type "list") (λxs H Q=>∃p ys,xs=[.ref p]/\(fy X.K H p ys\/kg X.K H p ys)/\∀l,H l=none->Q (.ref l) (upd H l (.lst ys))):=by
 intro pins s σ H xs us Q I r h;obtain⟨p,ys,rfl,hq,q⟩:=h;obtain⟨u,rfl,rx⟩:=vals1 r;cases rx;have fin:∀(aw:2e6),Vals ys aw->ys.length<=YA->∀(h':Heap)(c':Nat),(∀b o',s.heap.get? b=some o'->h'.get? b=some o')->
   h'.get? s.heap.objs.size=some {cls:=.type "list",dict:=none,data:=.seq aw.toArray c',slots:=#[]}->EP X pins σ Q 4e9 {s with heap:=h'}:=λaw r' hz h' c' kp e=>
  ⟨.ref s.heap.objs.size,_,I.laid (t':=s.toks) kp (Yl _) (show aZ X.prog X.w _ h' _ (.lst ys)from⟨hz,aw,c',r',e⟩),rfl,q _ (I.aQ.fresh (Yl _))⟩
 rcases hq with hq|hq
 ·obtain⟨aw,r',pl,hz⟩:=I.list hq
  have hlen:=r'.length;obtain⟨o,ho,hc,n,hd⟩:=pl.isList;show call_list_seq p 9e6 ho hc hd (λh' c' kp e=>fin aw r' hz h' c' kp e) (by simp only[Yp]<;>lia)
 ·obtain⟨aw,r',pl,hz⟩:=I.tuple hq
  have hlen:=r'.length;obtain⟨o,ho,hc,n,hd⟩:=pl;show call_list_seq p (.inr rfl) ho hc hd (λh' c' kp e=>fin aw r' hz h' c' kp e) (by simp only[Yp]<;>lia)
def RJ(K:W.Frag)(T:String)(x:V)(H:Hp):Prop:=match x with
 |.str _=>T="str"
 |.int _=>T="int"
 |.ref p=>(T="list"/\∃xs,fy K H p xs)\/(T="tuple"/\∃o,K.lookup p=some o/\o.cls=.type "tuple"/\o.dict=none)\/
   (T="dict"/\((∃ag,H p=some (.dK ag))\/∃ag,H p=some (.dT ag)))\/(T="set"/\∃S n,H p=some (.set S n))
 |_=>False
theorem HI{pins:1e8}{σ:St}{H:Hp}{s:Shared}{T:String}{x:V}{v:Value}(I:2e0)(r:RelV x v)(ty:RJ X.K T x H):
  s.TypeIs v T/\∀a,v=.ref a->∃ob,s.heap.get? a=some ob/\ob.dict=none:=by
 cases x with
 |str z=>
  obtain⟨t,rfl⟩:=r;cases(show T="str" from ty);show⟨typeIs_str s z t,λ_ e=>nomatch e⟩
 |int i=>
  obtain⟨t,rfl⟩:=r;cases(show T="int" from ty);show⟨typeIs_int s i t,λ_ e=>nomatch e⟩
 |ref p=>
  cases r;rcases ty with⟨rfl,xs,hq⟩|⟨rfl,o,hk,hc,hd⟩|⟨rfl,hk⟩|⟨rfl,S,n,hk⟩
  ·obtain⟨aw,_,pl,_⟩:=I.list hq
   show⟨pl.isList.typeIs,λa e=>?_⟩;cases e;obtain⟨o,n,e,c,hd,_⟩:=pl;show⟨o,e,hd⟩
  ·show⟨⟨o,I.Lo p o hk,hc⟩,λa e=>?_⟩
   cases e;show⟨o,I.Lo _ o hk,hd⟩
  ·have z:∃o,s.heap.get? p=some o/\o.ExactDict:=by
    rcases hk with⟨ag,hk⟩|⟨ag,hk⟩
    ·obtain⟨_,_,_,_,o,_,_,e,ex,_⟩:=I.aQ p _ hk
     show⟨o,e,ex⟩
    ·obtain⟨_,_,_,_,o,_,_,e,ex,_⟩:=I.aQ p _ hk
     show⟨o,e,ex⟩
   obtain⟨o,e,ex⟩:=z;show⟨⟨o,e,ex.1⟩,λa e2=>?_⟩;cases e2;show⟨o,e,ex.2.1⟩
  ·obtain⟨o,_,_,_,e,ex,_⟩:=I.aQ p _ hk
   show⟨⟨o,e,ex.1⟩,λa e2=>?_⟩;cases e2;show⟨o,e,ex.2.1⟩
 |_=>show Vs ty
noncomputable def RY (K:W.Frag)(T:String)(r:V->List V->Hp->VK->Prop)(to:TE)(t:TA):TE:=λσ H Q=>to σ H λx H1=>RJ K T x H1/\t σ H1 λxs H2=>r x xs H2 Q
variable{o e:Expr}{es:3e4}{to:TE}{t:TA}{name:Str}{apos aV:Pos}{T id:String}{r:V->List V->Hp->VK->Prop}
theorem pB(pa:PlainAttrs T)(slot:Slot T name id)(Lr:typeOf (.builtin id)=pure (.type "method_descriptor"))(hm:MtR X id r)(ho:PE X o to)(ha:PA X 4e4 t)
  (cF:X8 o name X.env (eval o X.env)=eval o X.env:=by rfl)
  (iE:((backTo aV (Yt 4e4 X.env)).all (λx=>!x.1)&&(Mf aV (U8 [] X.env)).all (λx=>x.1.isSome)
   &&decide ((e::es).length+([]:List U9).length+(if([]:List U9).isEmpty then 0 else 1)<30))=true:=by rfl)
  (cE:9e8:=by rfl) (hs:1e5:=by rfl) (gf:(backTo aV (Yt es X.env)).any (·.1)=false:=by rfl):
  PE X (.Call (.Attribute o name apos) 4e4 [] aV) (RY X.K T r to t):=by
 intro pins s σ H Q I h;show wpAny_Call_method_late cF iE cE rfl (bS (ho pins s σ H _ I h) λv s1 h_=>?_);obtain⟨x,H1,I1,r1,ty,q1⟩:=h_;obtain⟨h1,h2⟩:=HI I1 r1 ty;show⟨T,id,pa,slot,Lr,h1,h2,?_⟩;have hA:=ha aV pins s1 σ H1 _ I1 q1;rw[hs]at hA⊢;show Vx (by change(false||(backTo aV (Yt es X.env)).any (·.1))=false;rw[gf]<;>rfl) (Calls.evalArgs_plain ?_);show bS hA λus s2 ⟨vs,H2,I2,r2,q2⟩=>hm pins s2 σ H2 x vs v us Q I2 r1 r2 q2
end
def MtM(X:Cx)(id:String)(r:V->List V->Hp->VK->Prop):Prop:=
 ∀(pins:1e8)(s:Shared)(σ:St)(H:Hp)(x:V)(xs:List V)(v:Value)(us:2e6)(Q:VK),Inv X pins σ H s->RelV x v->Vals xs us->r x xs H Q->
  wpAny 2e2 X.A (call (.builtin id) (v::us)) (EP X pins σ Q) X.xe s
theorem Vals.one:∀{x:V}{us:2e6},Vals [x] us->∃u,us=[u]/\RelV x u:=by
 intro x us r;cases r with
 |cons r t=>cases t;show⟨_,rfl,r⟩
theorem Vals.eraseIdx:∀{xs:List V}{us:2e6}(i:Nat),Vals xs us->Vals (xs.eraseIdx i) (us.eraseIdx i)
 |_,_,_,.nil=>.nil
 |_,_,0,.cons _ t=>t
 |_,_,i+1,.cons r t=>.cons r (Vals.eraseIdx i t)
theorem lK{α:Type}:∀(l:List α)(i:Nat),(l.eraseIdx i).length<=l.length
 |[],_=>Yl _
 |_::_,0=>PX _
 |_::r,i+1=>Nat.succ_le_succ (lK r i)
section
variable{X:Cx}{pins:1e8}{σ:St}{H:Hp}{s:Shared}{l b:Addr}{xs ys zs:List V}
theorem Inv.Ja{aw its':2e6}{n:Nat}{f:Array Value->Array Value}{t':Nat}(I:2e0)(hH:H l=some (.lst xs))
  (e:s.heap.get? l=some {cls:=.type "list",data:=.seq aw.toArray n}) (hf:f aw.toArray=its'.toArray) (hv:Vals ys its') (hz:ys.length<=YA):
  Inv X pins σ (upd H l (.lst ys)) {s with heap:=s.heap.update l (XS f),toks:=t'}:=by
 have q:=PySem.IsL.update e f;rw[hf]at q;show I.write (x:=l) (e:=l) (by rw[hH];show trivial) 9e6 (λb' u hb hu=>(Heap.get?_update_other s.heap (XS f) (WC hb)).trans hu) ⟨_,q⟩ ?_;show⟨hz,its',_,hv,q⟩
theorem Inv.SJ{aw:2e6}{t':Nat}(I:2e0)(hv:Vals ys aw)(hz:ys.length<=YA):
  Inv X pins σ (upd H s.heap.objs.size (.lst ys)) {s with heap:=s.heap.push {cls:=.type "list",data:=.seq aw.toArray},toks:=t'}:=
 I.laid (λ_ _ q=>Yb _ q) (Yl _) ⟨hz,aw,0,hv,Yg _ rfl⟩
theorem Inv.fresh(I:2e0):H s.heap.objs.size=none:=I.aQ.fresh (Yl _)
theorem Inv.I9(I:2e0)(hH:H l=some (.lst xs)):xs.length<=YA/\∃(aw:2e6)(n:Nat),Vals xs aw/\xs.length=aw.length/\s.heap.get? l=some {cls:=.type "list",data:=.seq aw.toArray n}:=by
 obtain⟨z,aw,n,r,e⟩:=I.aQ l _ hH;show⟨z,aw,n,r,r.length,e⟩
theorem AZ{n:Nat}(h:n<=YA):W9 n=false:=by
 ext W9;show decide_eq_false 1e0
end
section
variable{X:Cx}
def mQ:V->List V->Hp->VK->Prop:=λx vs H Q=>∃l xs y,x=.ref l/\vs=[y]/\H l=some (.lst xs)/\xs.length<YA/\Q .aF (upd H l (.lst (xs++[y])))
theorem lC:MtM X "list.append" mQ:=by
 intro pins s σ H x vs v us Q I rx rv h;obtain⟨l,xs,y,rfl,rfl,hH,hz,q⟩:=h;cases rx;obtain⟨u,rfl,ru⟩:=rv.one;obtain⟨z,aw,n,r,hl,e⟩:=I.I9 hH;show call_meets F.slot_list_append ⟨_,e,rfl⟩ F.entry_list_append (F.args_list_append_2 _ _) (PySem.list_append l aw.toArray n u (by rw[Yp];lia)) ⟨e,?_⟩;show⟨.aF,_,I.Ja (its':=aw++[u]) hH e 2e9 (r.append (.cons ru .nil)) ?_,rfl,q⟩;rw[Yf,X2];lia
def Ik:V->List V->Hp->VK->Prop:=λx vs H Q=>∃l xs i k y,x=.ref l/\vs=[.int i]/\H l=some (.lst xs)/\-(2^63)<=i/\i<2^63/\PN i xs.length=some k/\xs[k]? = some y/\Q y (upd H l (.lst (xs.eraseIdx k)))
theorem Ba:MtM X "list.pop" Ik:=by
 intro pins s σ H x vs v us Q I rx rv h;obtain⟨l,xs,i,k,y,rfl,rfl,hH,h1,h2,hk,hy,q⟩:=h;cases rx;obtain⟨u,rfl,ru⟩:=rv.one;obtain⟨t,rfl⟩:=ru;obtain⟨z,aw,n,r,hl,e⟩:=I.I9 hH;obtain⟨w,hw,D9⟩:=r.get hy;show call_meets F.slot_list_pop ⟨_,e,rfl⟩ F.entry_list_pop (F.args_list_pop_2 _ _)
  (MeetsSeq.list_pop_at l aw.toArray n i t k w (fitsIndex_both h1 h2) (by rw[Yp,←hl];show hk) (by rw[←YY];show hw) (by rw[Yp];lia)) ⟨e,?_⟩
 show⟨y,_,I.Ja (its':=aw.eraseIdx k) hH e ?_ (r.eraseIdx k) ?_,D9,q⟩
 ·change aw.toArray.eraseIdxIfInBounds k=(aw.eraseIdx k).toArray
  rw[List.eraseIdxIfInBounds_toArray]
 ·have:=lK xs k
  lia
end
end L2
namespace Att
open PySem PySem.W PySem.Calls PyProof.Rows
theorem Zdo{P:Params}{h:Heap}:∀(ns:List Int)(vs:2e6),WellAll P h vs (ns.map WData.int)->IntsAre vs ns:=by
 intro ns;induction ns with
 |nil=>
  intro vs w;rw[Rn]at w;cases w;show .nil
 |cons n ns ih=>
  intro vs w;rw[Yq]at w;cases w with
  |cons a b=>
   cases a;show .cons _ _ (ih _ b)
theorem xy{l:OpenLaw}{n:Nat}(hn:l.most=some n){P:Params}{h:Heap}{args:List WData}{vals:2e6}
    (Fb:l.row.toRowW.claim.pre args=true) (S4:WellAll P h vals args):
    ∃a vs ns,vals=[YU a]/\args=[WData.list (ns.map WData.int)]/\h.get? a=some {cls:=.type "list",data:=.seq vs.toArray}/\IntsAre vs ns/\ns.length<=n:=by
  have hsh:WShape.hasAll [] args [.list .int]=true:=(pre_splitW Fb).1;have hc:l.pre.holds [] {args:=args}=true:=(pre_splitW Fb).2;obtain⟨d,r,rfl,h1,h2⟩:=hasAllW_cons hsh;obtain rfl:=hasAllW_nil h2;obtain⟨xs,rfl,h3⟩:=hasW_list h1;obtain⟨ns,rfl⟩:=items_int h3;have hlen:ns.length<=n:=by
    ext OpenLaw.pre hc;have h4:(WTm.not (.lt (.lit (.int (n:Int))) (.len (.arg 0)))).holds [] {args:=[.list (ns.map .int)]}=true:=by
      have h4:=(holds_andW hc).1;rw[hn]at h4;show h4
    have h5:=condW_of h4 (w_not (w_lt w_lit (w_len_list (w_arg rfl))));rw[Yi]at h5;show Ybp λq=>?_;have q':(n:Int)<((ns.length:Nat):Int):=by lia
    first
      |(rw[decide_eq_true q']at h5;show absurd h5 (by decide))
      |(simp at h5;lia)
  cases S4 with
  |cons w1 w2=>
    cases w2;cases w1 with
    |list ho B3=>show⟨_,_,ns,rfl,rfl,ho,Zdo ns _ B3,hlen⟩
theorem xP(l:OpenLaw)(args:List WData):l.row.toRowW.claim.post args (.bool true) args=true:=
 postW_of (r:=l.row.toRowW) (X:=(true==true))
  (show WShape.has [] (.bool true) .bool=true by first|rfl|decide|simp[WShape.has,WShape.arms,WShape.armsAll])
  (show(WTm.eq .res (.lit (.bool true))).value [] {args:=args,res:=some (.bool true),after:=args}=some (.bool (true==true))from w_eq_bool (w_res rfl) w_lit) rfl
theorem qS{l:OpenLaw}{n:Nat}{q:YF}{loose:4e3}{XP:(Str->Option Value)->Heap->Prop}{YP:World->Heap->Prop}{d:DefRec}
  (hn:l.most=some n) (qe:d.params.defaults=[])
  (call:∀(w:World)(s₀ s₁:Shared)(mg mb:2e5)(fa:Addr)(o:Obj)(pm cd doc:Value)(a:Addr)(vs:2e6)(ns:List Int),
   Ground q loose [] XP w s₀ mg mb s₁.heap->YP w s₁.heap->
   s₁.heap.get? fa=some o->o.data=.func (docDef d.name d.params d.body d.scope pm cd doc)->s₁.heap.CodeRec cd d.name->mg d.name=some (.ref fa)->
   s₁.heap.get? a=some {cls:=.type "list",data:=.seq vs.toArray}->IntsAre vs ns->ns.length<=n->s₁.gens=#[]->
   Wm (model l.prog w) KQ (.call (.ref fa) ⟨[.ref a],[]⟩) (λr s'=>r=.ok (.ret (.bool true))/\OldK s₁.heap s'.heap/\s'.os=s₁.os/\F0 s'.gens) s₁):
  WalkO q loose XP YP l.row.toRowW d [] (λf vs=>PySem.call f vs):=by
 intro w s₀ s₁ mg mb G Y fa o pm cd doc dV kV ho hd ou hD Oc hg args vals as Fb Vaq hrd S4 JF;obtain rfl:dV=.none:=Dflts.none hD qe;obtain rfl:kV=.none:=Dflts.noKw hD;obtain⟨a,vs,ns,rfl,rfl,JC,hints,hlen⟩:=xy hn Fb S4;show enter_call (UM (call w s₀ s₁ mg mb fa o pm cd doc a vs ns G Y ho (fd_plain hd) ou Oc JC hints hlen hg) λr s' hq=>?_);obtain⟨rfl,h2,h3,h4⟩:=hq;show⟨.inl ⟨.bool true,.bool true,[],rfl,λ_=>rfl,.bool true,xP l _,λ_=>⟨List.Pairwise.nil,λ_ hm=>(nomatch hm)⟩⟩,h2,h3,h4⟩
end Att
namespace L2
open PySem PySem.Spec PyProof.Rows
theorem kW:∀{vs:2e6}{ns:List Int},IntsAre vs ns->Vals (ns.map V.int) vs
 |_,_,.nil=>.nil
 |_,_,.cons n t h=>.cons ⟨t,rfl⟩ (kW h)
def P2(H:Hp):Prop:=∀b,H b=none\/∃o xs,H b=some (.gh o (.lst xs))
theorem Bx{P:YF}{w:World}{K:W.Frag}{mg mb:2e5}{CX:DT}{k:Nat}{fa a:Addr}{fd:WD}{x:Str}{sp:Sp}{s₁:Shared}{vs:2e6}{ns:List Int}
  (KX:K.In s₁.heap) (hns:s₁.heap.Ns PY mg) (hb:s₁.heap.Ns builtinsNs mb) (hbb:∀x:Str,x≠"__name__"->mb x=XB x) (TF:s₁.heap.NoLimit) (hg:s₁.gens=#[])
  (ha:s₁.heap.get? a=some {cls:=.type "list",data:=.seq vs.toArray}) (hi:IntsAre vs ns) (hl:ns.length<=YA) (hr:b9 k KQ)
  (F:∀base:Heap,K.In base->base.Ns PY mg->eY P w K mg base CX k fa fd [x] sp) (OD:∀(s:Shared)(u:Value),BindsTo s fd ⟨[u],[]⟩ [(x,u)])
  (Lv:∀H:Hp,P2 H->fy K H a (ns.map V.int)->sp [.ref a] H (λv _=>v=.bl true) λ_ _ _=>False)
  (hCX:∀H e s',CX [] H s₁ (λ_ _ _=>False) e s'->False):
  Wm (model P w) KQ (.call (.ref fa) ⟨[.ref a],[]⟩) (λr s'=>r=.ok (.ret (.bool true))/\OldK s₁.heap s'.heap/\s'.os=s₁.os/\F0 s'.gens) s₁:=by
 have rv:=kW hi;have SK:=hi.length;have core:∀H:Hp,P2 H->fy K H a (ns.map V.int)->gm P w H s₁.heap->(∀b,H b≠none->b=a)->(H a≠none->K.lookup a=none)->
   Wm (model P w) KQ (.call (.ref fa) ⟨[.ref a],[]⟩) (λr s'=>r=.ok (.ret (.bool true))/\OldK s₁.heap s'.heap/\s'.os=s₁.os/\F0 s'.gens) s₁:=by
  intro H hO hS aQ hA hK;have wU:∀{b:Addr}{o:Obj},s₁.heap.get? b=some o->H b=none->(nB s₁.heap H).get? b=some o:=λe n=>B0 e n;have Nt:∀{b:Addr}{o:Obj}{es:Array Up}{ep:Nat},s₁.heap.get? b=some o->o.data=.dict es ep->H b=none:=λ{b o es ep} e d=>by
   cases q:H b with
   |none=>rfl
   |some u=>
    have e':b=a:=hA b (by rw[q];simp);subst e';rw[ha]at e;cases e;have d':Data.seq vs.toArray _=Data.dict es ep:=d;cases d'
  have Qg:∀{b:Addr}{m:2e5},s₁.heap.Ns b m->(nB s₁.heap H).Ns b m:=λ{b m} ⟨o,es,ep,e,d,r⟩=>⟨o,es,ep,wU e (Nt e d),d,r⟩
  have hKb:K.In (nB s₁.heap H):=λb o e=>wU (KX b o e) (by
   cases q:H b with
   |none=>rfl
   |some u=>
    have e':b=a:=hA b (by rw[q];simp);subst e';rw[hK (by rw[q];simp)]at e;cases e)
  have hM:Mod K mg (nB s₁.heap H):=⟨hKb,Qg hns,⟨mb,Qg hb,hbb⟩,let⟨mc,h1,h2⟩:=TF;⟨mc,Qg h1,h2⟩⟩
  have e0:F6 P w K mg (nB s₁.heap H) KQ [] s₁ H:=⟨rfl,hM,λb o e=>EF e,Nat.le_of_eq (yz _ _),trivial,λb hb=>absurd (show b∈([]:List Addr)from hb) 2e9,aQ,.of_eq hg⟩
  show UM ((F _ hKb (Qg hns)).run KQ [] s₁ H ⟨[.ref a],[]⟩ [.ref a] [.ref a] _ _ hr e0 (OD s₁ (.ref a)) (.cons rfl .nil) (Lv H hO hS)) λr s' h=>?_;cases r with
  |error e=>show(hCX H e s' h).elim
  |ok fl=>
   cases fl with
   |next=>show Vs h
   |brk=>show Vs h
   |cont=>show Vs h
   |ret u=>
    obtain⟨v,H',os,bare,un,Tr,r',q⟩:=h;have q':v=.bl true:=q;subst q';obtain rfl:u=Ua true:=r';show⟨rfl,OldK.of_keep λb o e=>?_,os,bare⟩;cases q:H b with
    |none=>show un.keep b o e q (by intro z;show absurd (show b∈([]:List Addr)from z) 2e9) 2e9
    |some u=>
     rcases hO b with z|⟨ob,xs,z⟩
     ·rw[q]at z;cases z
     ·have z2:=un.gg b ob _ z
      obtain⟨e1,_⟩:=aQ b _ z;obtain⟨e2,_⟩:=Tr b _ z2;rw[e]at e1;cases e1;show e2
 cases hk:K.lookup a with
 |some o=>
  have e:=KX a o hk;rw[ha]at e;cases e;show core (λ_=>none) (λ_=>.inl rfl) (.inr ⟨_,vs.toArray,_,hk,rfl,rfl,rfl,by rw[Yp,SK];show hl,by simpa using rv⟩) (λb u z=>by have z':(none:Option HO)=some u:=z;cases z') (λb z=>absurd rfl z) λz=>absurd rfl z
 |none=>
  show core (λb=>if b=a then some (.gh {cls:=.type "list",data:=.seq vs.toArray} (.lst (ns.map V.int)))else none) (λb=>?_) (.inl (.inr ⟨{cls:=.type "list",data:=.seq vs.toArray},if_pos rfl⟩)) (λb u z=>?_) (λb z=>?_) λ_=>hk
  ·by_cases hb:b=a
   ·show .inr ⟨_,_,if_pos hb⟩
   ·show .inl (if_neg hb)
  ·by_cases hb:b=a
   ·have z':=(if_pos hb).symm.trans z
    cases z';subst hb;show⟨ha,by rw[Yi];show hl,vs,_,rv,ha⟩
   ·have z':=(if_neg hb).symm.trans z
    cases z'
  ·by_cases hb:b=a
   ·show hb
   ·show absurd (if_neg hb) z
noncomputable def dS (s:Stmt):Arguments:=match s with
 |.FunctionDef _ a _ _ _ _ _ _ _ _=>a
 |_=>{posonlyargs:=[],args:=[],vararg:=none,kwonlyargs:=[],kw_defaults:=[],kwarg:=none,defaults:=[]}
noncomputable def bL (s:Stmt):List Stmt:=match s with
 |.FunctionDef _ _ b _ _ _ _ _ _ _=>b
 |_=>[]
noncomputable def ah (s:Stmt):Scope:=match s with
 |.FunctionDef _ _ _ _ _ _ sc _ _ _=>sc
 |_=>{kind:=.function,names:=[],isGenerator:=false,isCoroutine:=false}
noncomputable abbrev om:DT:=λ_ _ _ _ _ _=>False
noncomputable abbrev E0:XK:=λ_ _ _=>False
theorem vw{X:Cx}:Passes om X E0:=λ_ _ _ _ _ _ _ h=>h.elim
structure DR(K:W.Frag)(x qual:Str)(st:Stmt)(f:Addr)(fd:WD):Prop where
 ex:∃(oc:Value)(od:Option Addr)(kV doc pm:Value)(an:Option Addr)(cdv ct:Value)(osl:Array (Option Value)),
  fd=W.fnOf x qual (dS st) (bL st) (ah st) .none kV doc pm an cdv ct/\K.lookup f=some ⟨oc,od,.func fd,osl⟩/\W.codeIn K cdv qual=true
 kp:Hw K (.ref f)=true
section
variable{P:YF}{w:World}{K:W.Frag}{mg:2e5}{base:Heap}
theorem DR.ok{x qual:Str}{st:Stmt}{f:Addr}{fd:WD}{N ps:4e3}{k:Nat}{sp:Sp}(F:DR K x qual st f fd)(S:aJ N ps (ah st))(len:∀vs H Q E,sp vs H Q E->vs.length=ps.length)
  (fm:∀(cdv:Value)(A:Around)(outer:List Env)(s:Shared)(H:Hp)(vs:List V)(Q:VK)(E:XK),b9 k (A.deeper (envOfC qual (ah st) s.heap.objs.size f cdv))->sp vs H Q E->
   ∃t,kQ (j4 om P w K mg base N qual (ah st) f cdv A outer s H E).EG (bL st) t/\t {nx:=λ_ H'=>Q .aF H',rt:=Q} (start N vs) H):eY P w K mg base om (k+1) f fd ps sp:=by
 obtain⟨oc,od,kV,doc,pm,an,cdv,ct,osl,rfl,lk,ou⟩:=F.ex;show OU lk ou S len λA outer s H vs Q E hr Lv=>?_;obtain⟨t,h,q⟩:=fm cdv A outer s H vs Q E hr Lv;show⟨t,h.EG,q⟩
theorem DR.binds{x qual:Str}{st:Stmt}{f:Addr}{fd:WD}{ps:4e3}(F:DR K x qual st f fd)
  (h:∀(kV doc pm:Value)(an:Option Addr)(cdv ct:Value)(us:2e6),us.length=ps.length->bindArgs (W.fnOf x qual (dS st) (bL st) (ah st) .none kV doc pm an cdv ct) ⟨us,[]⟩=pure (ps.zip us)):Binds K fd ps []:=by
 obtain⟨oc,od,kV,doc,pm,an,cdv,ct,osl,rfl,lk,ou⟩:=F.ex;show .all (h kV doc pm an cdv ct)
theorem JU{x qual:Str}{st:Stmt}{f:Addr}{oc:Value}{od an:Option Addr}{osl:Array (Option Value)}{kV doc pm cdv ct:Value}(l:K.lookup f=some ⟨oc,od,.func (W.fnOf x qual (dS st) (bL st) (ah st) .none kV doc pm an cdv ct),osl⟩)
  (c:W.codeIn K cdv qual=true) (k:Hw K (.ref f)=true):DR K x qual st f (W.fnOf x qual (dS st) (bL st) (ah st) .none kV doc pm an cdv ct):=⟨⟨oc,od,kV,doc,pm,an,cdv,ct,osl,rfl,l,c⟩,k⟩
end
theorem Zay{A:Around}{k:Nat}(hr:b9 k A):A.units+1<cLine:=Ur (Nat.add_le_add_left (by decide:1<=64) _) hr.units
end L2
set_option maxHeartbeats 4000000
namespace L2
open PySem PySem.Spec PyProof.Rows
section
variable{κ:Type} [DecidableEq κ]
noncomputable def dw (ag:List (κ×V))(k:κ):Option V:=(ag.find? λkv=>decide (kv.1=k)).map (·.2)
noncomputable def putK (ag:List (κ×V))(k:κ)(v:V):List (κ×V):=
 if(ag.any λkv=>decide (kv.1=k))=true then ag.map (λkv=>if kv.1=k then(kv.1,v)else kv)else ag++[(k,v)]
theorem Mb{p:κ×V}{r:List (κ×V)}{k:κ}(e:p.1=k):dw (p::r) k=some p.2:=by simp[dw,VC,e]
theorem Ma{p:κ×V}{r:List (κ×V)}{k:κ}(e:¬p.1=k):dw (p::r) k=dw r k:=by simp[dw,VC,e]
theorem oA(k:κ):∀ag:List (κ×V),(ag.any λkv=>decide (kv.1=k))=(dw ag k).isSome
 |[]=>rfl
 |p::r=>by
  rw[X9];by_cases e:p.1=k
  ·simp only[Mb e,decide_eq_true e,Bool.true_or,Option.isSome_some]
  ·rw[Ma e,decide_eq_false e,Bool.false_or];show oA k r
theorem Mc(ag:List (κ×V))(k:κ)(v:V):(putK ag k v).length<=ag.length+1:=by
 ext putK;split
 ·rw[Yi];lia
 ·rw[Yf,Yu,Wv];lia
theorem iJ.d9{o:Option V}{u:Option Value}(r:iJ o u):o.isSome=u.isSome:=by
 cases o with
 |none=>cases u with
  |none=>rfl
  |some _=>show(show False from r).elim
 |some _=>cases u with
  |none=>show(show False from r).elim
  |some _=>rfl
theorem KV.val{ag:List (κ×V)}{vs:List (κ×Value)}(r:KV ag vs)(k:κ):iJ (dw ag k) (KP vs k):=by
 ext KV r;induction r with
 |nil=>show U5
 |@cons p q ps qs h t ih=>
  obtain⟨h1,h2⟩:=h;by_cases e:p.1=k
  ·have e':q.1=k:=h1.symm.trans e
   have b:KP (q::qs) k=some q.2:=by simp[KP,VC,e']
   rw[Mb e,b];show h2
  ·have e':¬q.1=k:=λz=>e (h1.trans z)
   have b:KP (q::qs) k=KP qs k:=by simp[KP,VC,e']
   rw[Ma e,b];show ih
theorem KV.any{ag:List (κ×V)}{vs:List (κ×Value)}(r:KV ag vs)(k:κ):(ag.any λkv=>decide (kv.1=k))=vs.any λkv=>decide (kv.1=k):=by
 ext KV r;induction r with
 |nil=>rfl
 |cons h t ih=>rw[X9,X9,ih,h.1]
theorem KV.Ii{ag:List (κ×V)}{vs:List (κ×Value)}(r:KV ag vs)(k:κ){y:V}{u:Value}(ry:RelV y u):
  KV (ag.map λkv=>if kv.1=k then(kv.1,y)else kv) (vs.map λkv=>if kv.1=k then(kv.1,u)else kv):=by
 unfold KV at r⊢;induction r with
 |nil=>show .nil
 |@cons p q ps qs h t ih=>
  rw[Yq,Yq];show .cons ?_ ih;obtain⟨h1,h2⟩:=h;by_cases e:p.1=k
  ·rw[if_pos e,if_pos (h1.symm.trans e)];show⟨h1,ry⟩
  ·rw[if_neg e,if_neg (λz=>e (h1.trans z))];show⟨h1,h2⟩
theorem KV.put{ag:List (κ×V)}{vs:List (κ×Value)}(r:KV ag vs)(k:κ){y:V}{u:Value}(ry:RelV y u):KV (putK ag k y) (stored vs k u):=by
 unfold putK stored;rw[r.any k];by_cases e:(vs.any λkv=>decide (kv.1=k))=true
 ·rw[if_pos e,if_pos e];show r.Ii k ry
 ·rw[if_neg e,if_neg e];show Paired.snoc r ⟨rfl,ry⟩
theorem KV.keys{ag:List (κ×V)}{vs:List (κ×Value)}(r:KV ag vs):ag.map (·.1)=vs.map (·.1):=by
 ext KV r;induction r with
 |nil=>rfl
 |cons h t ih=>rw[Yq,Yq,ih,h.1]
theorem KV.length{ag:List (κ×V)}{vs:List (κ×Value)}(r:KV ag vs):ag.length=vs.length:=Wr r
end
theorem lM{P:YF}{w:World}{k:Key}{u:Value}(r:RelV (kV k) u):(aD P w).is k u=true:=by
 cases k with
 |inl i=>obtain⟨t,e⟩:=(show ∃t,u=Value.int i t from r);subst e;show pM P w i t
 |inr x=>obtain⟨t,e⟩:=(show ∃t,u=Value.str x t from r);subst e;show pL P w x t
theorem ZI{P:YF}{w:World}:∀{ks:6e8}{us:2e6},Vals (ks.map kV) us->ItemsAre (aD P w) ks us
 |[],_,r=>by rw[Rn]at r;cases r;show .nil
 |k::ks,_,r=>by
  rw[Yq]at r;cases r with
  |cons h t=>show .cons (lM h) (ZI t)
abbrev KT(H:Hp):List (List Key×V)->List 4e5->Prop:=Paired λp q=>p.1=q.1/\H q.2.1=some (.tup (p.1.map kV))/\RelV p.2 q.2.2
theorem KT.val{H:Hp}{ag:3e8}{xs:List 4e5}(r:KT H ag xs)(k:6e8):iJ (dw ag k) ((atKey xs k).map (·.2)):=by
 induction r with
 |nil=>show U5
 |@cons p q ps qs h t ih=>
  obtain⟨h1,_,h2⟩:=h;by_cases e:p.1=k
  ·have e':q.1=k:=h1.symm.trans e
   have b:atKey (q::qs) k=some q.2:=by simp[atKey,VC,e']
   rw[Mb e,b];show h2
  ·have e':¬q.1=k:=λz=>e (h1.trans z)
   have b:atKey (q::qs) k=atKey qs k:=by simp[atKey,VC,e']
   rw[Ma e,b];show ih
theorem KT.Ii{H:Hp}{ag:3e8}{xs:List 4e5}(r:KT H ag xs)(k:6e8){y:V}{u:Value}(ry:RelV y u):
  KT H (ag.map λkv=>if kv.1=k then(kv.1,y)else kv) (xs.map (putAt k u)):=by
 induction r with
 |nil=>show .nil
 |@cons p q ps qs h t ih=>
  rw[Yq,Yq];show .cons ?_ ih;obtain⟨h1,h2,h3⟩:=h;ext putAt;by_cases e:p.1=k
  ·rw[if_pos e,if_pos (h1.symm.trans e)];show⟨h1,h2,ry⟩
  ·rw[if_neg e,if_neg (λz=>e (h1.trans z))];show⟨h1,h2,h3⟩
theorem KT.put{H:Hp}{ag:3e8}{xs:List 4e5}(r:KT H ag xs)(k:6e8){b:Addr}{y:V}{u:Value}(hb:H b=some (.tup (k.map kV)))(ry:RelV y u):
  KT H (putK ag k y) (zF xs k b u):=by
 have e:(ag.any λkv=>decide (kv.1=k))=(atKey xs k).isSome:=by
  rw[oA,(r.val k).d9,Ybb]
 unfold putK zF;rw[e];by_cases q:(atKey xs k).isSome=true
 ·rw[if_pos q,if_pos q];show r.Ii k ry
 ·rw[if_neg q,if_neg q];show Paired.snoc r ⟨rfl,hb,ry⟩
theorem KT.keeps{H H':Hp}{ag:3e8}{xs:List 4e5}(r:KT H ag xs)(ht:∀b ys,H b=some (.tup ys)->H' b=some (.tup ys)):KT H' ag xs:=
 Paired.IW r λ_ _ z=>⟨z.1,ht _ _ z.2.1,z.2.2⟩
section
variable{P:YF}{w:World}{H:Hp}{h:Heap}{a:Addr}
theorem Gm{u:HO}(ok:gm P w H h)(e:Rd H a u):aZ P w H h a u:=e.ok ok
theorem lV{ag:List (Key×V)}(ok:gm P w H h)(e:Rd H a (.dK ag)):ag.length<=YA/\(a==X1)=false/\∃vs,KV ag vs/\h.DictOf (aD P w) a vs:=
 show aZ P w H h a (.dK ag)from Gm ok e
theorem Cw{ag:List (Key×V)}(ok:gm P w H h)(e:H a=some (.dK ag)):ag.length<=YA/\(a==X1)=false/\∃vs,KV ag vs/\h.DictOf (aD P w) a vs:=lV ok (.inl e)
theorem Kw{ks:6e8}(ok:gm P w H h)(e:H a=some (.tup (ks.map kV))):(Vm (aD P w)).is h ks a:=by
 obtain⟨_,aw,r,o,h1,h2,n,h3⟩:=(show aZ P w H h a (.tup (ks.map kV))from ok a _ e)
 show⟨o,aw.toArray,n,h1,h2,h3,by simpa using ZI r⟩
theorem iz{ag:3e8}(ok:gm P w H h)(e:Rd H a (.dT ag)):ag.length<=YA/\(a==X1)=false/\
  ∃xs,KT H ag xs/\h.DictOfH (Vm (aD P w)) a xs:=by
 obtain⟨z,y,xs,r,o,es,ep,h1,h2,h3,h4,h5⟩:=(show aZ P w H h a (.dT ag)from Gm ok e)
 show⟨z,y,xs,r,o,es,ep,h1,h2,h3,h4,λx hx=>?_,h5⟩;have all:∀{l:3e8}{m:List 4e5},KT H l m->∀x∈m,(Vm (aD P w)).is h x.1 x.2.1:=by
  intro l m q;induction q with
  |nil=>intro x hx;show nomatch hx
  |@cons p q ps qs hq t ih=>
   intro x hx;rcases Yk.mp hx with e|hx
   ·subst e
    show Kw ok (by rw[←hq.1];show hq.2.1)
   ·show ih x hx
 show all r x hx
theorem Ct{ag:3e8}(ok:gm P w H h)(e:H a=some (.dT ag)):ag.length<=YA/\(a==X1)=false/\
  ∃xs,KT H ag xs/\h.DictOfH (Vm (aD P w)) a xs:=iz ok (.inl e)
end
def kS(H:Hp)(a:Addr)(y:V)(r:Option V):Prop:=
 (∃ag k,Rd H a (.dK ag)/\y=kV k/\r=dw ag k)\/∃ag k b,Rd H a (.dT ag)/\y=.ref b/\H b=some (.tup (k.map kV))/\r=dw ag k
def rh(H:Hp)(a:Addr)(y v:V)(H':Hp):Prop:=
 (∃ag k,H a=some (.dK ag)/\y=kV k/\ag.length<YA/\H'=upd H a (.dK (putK ag k v)))\/
 ∃ag k b,H a=some (.dT ag)/\y=.ref b/\H b=some (.tup (k.map kV))/\ag.length<YA/\H'=upd H a (.dT (putK ag k v))
theorem kS.k{H:Hp}{a:Addr}{ag:List (Key×V)}{k:Key}(e:H a=some (.dK ag)):kS H a (kV k) (dw ag k):=.inl ⟨ag,k,.inl e,rfl,rfl⟩
theorem rh.t{H:Hp}{a b:Addr}{ag:3e8}{k:6e8}{v:V}(e:H a=some (.dT ag))(eb:H b=some (.tup (k.map kV)))(hl:ag.length<YA):
  rh H a (.ref b) v (upd H a (.dT (putK ag k v))):=.inr ⟨ag,k,b,e,rfl,eb,hl,rfl⟩
section
variable{X:Cx}{pins:1e8}{σ:St}{H:Hp}{s:Shared}{a:Addr}{y v:V}{u r:Value}{o:Option V}{A:Around}{E:1e1}
theorem Inv.big(I:2e0):X1<s.heap.objs.size:=by
 have h:PY<s.heap.objs.size:=(I.mod.glob.keeps I.bk).lt;show VD 1e7 h
theorem yO{Q:1e1}(hu:A.units+1<cLine)(I:2e0)(g:kS H a y (some v))(ry:RelV y u)(h:∀w' s',Inv X pins σ H s'->RelV v w'->Q w' s'):
  wpAny 2e2 A (Hv (.ref a) u) Q E s:=by
 rcases g with⟨ag,k,e,ey,l⟩|⟨ag,k,b,e,ey,eb,l⟩
 ·subst ey
  obtain⟨z,hd,vs,rel,dd⟩:=lV I.aQ e;obtain⟨w',hw,D9⟩:=iJ.some_of (v:=v) (o:=KP vs k) (by rw[l];show rel.val k);show wpAny_getItem_of (lM ry) dd.mapOf hw (h w' _ (I.tok _) D9)
 ·subst ey
  cases(show u=YU b from ry);obtain⟨z,hd,xs,rel,dd⟩:=iz I.aQ e;obtain⟨w',hw,D9⟩:=iJ.some_of (v:=v) (o:=(atKey xs k).map (·.2)) (by rw[l];show rel.val k);obtain⟨p,hp,hp2⟩:=XE.mp hw;show wpAny_getItem_heap (Vz hu) (Kw I.aQ eb) dd hp ?_;rw[hp2];show h w' _ (I.tok _) D9
theorem Zw{Q:1e1}(hu:A.units+1<cLine)(I:2e0)(g:kS H a y o)(ry:RelV y u)(h:∀s',Inv X pins σ H s'->Q (.bool o.isSome) s'):
  wpAny 2e2 A (WW .In u (.ref a)) Q E s:=by
 rcases g with⟨ag,k,e,ey,l⟩|⟨ag,k,b,e,ey,eb,l⟩
 ·subst ey
  obtain⟨z,hd,vs,rel,dd⟩:=lV I.aQ e;show wpAny_in_of (lM ry) hd dd.mapOf ?_;rw[←(rel.val k).d9,←l];show h _ (I.tok _)
 ·subst ey
  cases(show u=YU b from ry);obtain⟨z,hd,xs,rel,dd⟩:=iz I.aQ e;show wpAny_in_heap (Vz hu) (Kw I.aQ eb) hd dd ?_;have q:=(rel.val k).d9;rw[Ybb]at q;rw[←q,←l];show h _ (I.tok _)
theorem FE{Q:1e1}(hu:A.units+1<cLine)(I:2e0)(g:kS H a y o)(ry:RelV y u)(h:∀s',Inv X pins σ H s'->Q (.bool (!o.isSome)) s'):
  wpAny 2e2 A (WW .NotIn u (.ref a)) Q E s:=by
 rcases g with⟨ag,k,e,ey,l⟩|⟨ag,k,b,e,ey,eb,l⟩
 ·subst ey
  obtain⟨z,hd,vs,rel,dd⟩:=lV I.aQ e;show wpAny_notIn_of (lM ry) hd dd.mapOf ?_;rw[←(rel.val k).d9,←l];show h _ (I.tok _)
 ·subst ey
  cases(show u=YU b from ry);obtain⟨z,hd,xs,rel,dd⟩:=iz I.aQ e;show wpAny_notIn_heap (Vz hu) (Kw I.aQ eb) hd dd ?_;have q:=(rel.val k).d9;rw[Ybb]at q;rw[←q,←l];show h _ (I.tok _)
theorem Pg{h':Heap}{t':Nat}{ob:HO}(I:2e0)(mu:P5 (H a))(hs:XJ a s.heap h')(he:∃q,h'.get? a=some q)(new:aZ X.prog X.w (upd H a ob) h' a ob):
  Inv X pins σ (upd H a ob) {s with heap:=h',toks:=t'}:=
 I.write (x:=a) (e:=a) mu 9e6 (λb q hb z=>(hs.2 b hb).trans z) he new
theorem CB{P:YF}{w:World}{H':Hp}{h':Heap}{ag:List (Key×V)}{vs:List (Key×Value)}(z:ag.length<=YA)(hd:(a==X1)=false)(rel:KV ag vs)(dd:h'.DictOf (aD P w) a vs):
  aZ P w H' h' a (.dK ag):=⟨z,hd,vs,rel,dd⟩
theorem yN{H':Hp}{Q:Unit->Shared->Prop}(hu:A.units+1<cLine)(I:2e0)(g:rh H a y v H')(ry:RelV y u)(rv:RelV v r)(h:∀s',Inv X pins σ H' s'->Q () s'):
  wpAny 2e2 A (setItem (.ref a) u r) Q E s:=by
 rcases g with⟨ag,k,e,ey,l,eH⟩|⟨ag,k,b,e,ey,eb,l,eH⟩
 ·subst ey eH
  obtain⟨z,hd,vs,rel,dd⟩:=Cw I.aQ e;have hz:vs.length<=sizeLine:=by rw[←rel.length];show z
  have hl:(putK ag k v).length<=sizeLine:=by have:=Mc ag k v;lia
  show wpAny_setItem_pairs (hsz:=hz) (lM ry) dd λh' CJ hs=>h _ ?_;have he:∃q,h'.get? a=some q:=let⟨q,_,_,hq,_⟩:=CJ;⟨q,hq⟩
  show Pg I (by rw[e];show U5) hs he (CB hl hd (rel.put k rv) CJ)
 ·subst ey eH
  cases(show u=YU b from ry);obtain⟨z,hd,xs,rel,dd⟩:=Ct I.aQ e;have hz:xs.length<=sizeLine:=by rw[←Wr rel];show z
  have hl:(putK ag k v).length<=sizeLine:=by have:=Mc ag k v;lia
  show wpAny_setItem_heap (hsz:=hz) (Vz hu) (Kw I.aQ eb) dd λh' CJ hs=>h _ ?_;obtain⟨q,es,ep,hq,h2,h3,h4,_,h5⟩:=CJ;show Pg I (by rw[e];show U5) hs ⟨q,hq⟩ ⟨hl,hd,_,(rel.put k eb rv).keeps λc ys ec=>?_,q,es,ep,hq,h2,h3,h4,h5⟩;rw[bf (A8 ec e (λz=>nomatch z))];show ec
end
theorem qt{X:Cx}{pins:1e8}{σ:St}{H:Hp}{s:Shared}{a:Addr}{y:V}{o:Option V}(I:2e0)(g:kS H a y o):s.TypeIs (.ref a) "dict":=by
 rcases g with⟨ag,k,e,_,_⟩|⟨ag,k,b,e,_,_,_⟩
 ·obtain⟨_,_,vs,_,dd⟩:=lV I.aQ e
  show dd.typeIs
 ·obtain⟨_,_,xs,_,dd⟩:=iz I.aQ e
  show dd.typeIs
noncomputable def MY (td ty tv:TE):TS:=λD σ H=>tv σ H λv H1=>td σ H1 λx H2=>ty σ H2 λy H3=>∃a H4,x=.ref a/\rh H3 a y v H4/\D.nx σ H4
section
variable{X:Cx}{o i e value:Expr}{pos pos' mD:Pos}{td ty tv:TE}
theorem Er(hu:X.A.units+1<cLine)(ho:PE X o td)(hi:PE X i ty)(hv:PE X value tv)(hs:Vn value (some (.Subscript o i pos')) pos.line X.env=pure false):
  PS X (.Assign [.Subscript o i pos'] value pos) (MY td ty tv):=by
 intro pins s σ H D I h;show wpAny_Assign_Subscript (bS (hv pins s σ H _ I h) λr s1 ⟨v,H1,I1,rv,q1⟩=>bS (ho pins s1 σ H1 _ I1 q1) λu s2 ⟨x,H2,I2,rx,q2⟩=>bS (hi pins s2 σ H2 _ I2 q2) λiv s3 ⟨y,H3,I3,ry,a,H4,ex,g,q3⟩=>?_) hs;subst ex;obtain rfl:u=YU a:=rx;show yN hu I3 g ry rv λs4 I4=>⟨σ,H4,I4,q3⟩
end
theorem qq{P:YF}{w:World}{H:Hp}(h:Heap)(hb:X1<h.objs.size):aZ P w H (h.push {cls:=.type "dict",data:=.dict #[]}) h.objs.size (.dT []):=
 ⟨Y4 _,beq_eq_false_iff_ne.mpr (WC (Yv hb)),[],.nil,_,#[],0,Yg _ rfl,⟨rfl,rfl,rfl⟩,rfl,rfl,List.nodup_nil⟩
def HV:TE:=λ_ H Q=>∀p,H p=none->Q (.ref p) (upd H p (.dT []))
section
variable{X:Cx}{pos:Pos}
theorem jy:PE X (.Dict [] [] pos) HV:=λpins s σ H Q I h=>
 wpAny_Dict_empty ⟨.ref s.heap.objs.size,_,I.laid (a:=s.heap.objs.size) (o:=.dT []) (t':=s.toks) (λ_ _ q=>Yb _ q) (Yl _) (qq s.heap I.big),rfl,h _ (I.aQ.fresh (Yl _))⟩
end
def IsD(H:Hp)(a:Addr):Prop:=(∃ag,Rd H a (.dK ag))\/∃ag,Rd H a (.dT ag)
theorem t4{X:Cx}{pins:1e8}{σ:St}{H:Hp}{s:Shared}{a:Addr}(I:2e0)(d:IsD H a):
  s.TypeIs (.ref a) "dict"/\(∀b,YU a=.ref b->∃ob,s.heap.get? b=some ob/\ob.dict=none)/\(a==X1)=false:=by
 rcases d with⟨ag,e⟩|⟨ag,e⟩
 ·obtain⟨_,hd,vs,_,dd⟩:=lV I.aQ e
  show⟨dd.typeIs,λb q=>?_,hd⟩;cases q;obtain⟨ob,_,_,h1,h2,_⟩:=dd;show⟨ob,h1,h2.2.1⟩
 ·obtain⟨_,hd,xs,_,dd⟩:=iz I.aQ e
  show⟨dd.typeIs,λb q=>?_,hd⟩;cases q;obtain⟨ob,_,_,h1,h2,_⟩:=dd;show⟨ob,h1,h2.2.1⟩
noncomputable def bH (cells:List (Str×Addr)):List (Str×Ul)->List (Str×Addr)->List (Str×Addr)
  |[],cs=>cs
  |(n,k)::r,cs=>bH cells r (if k=.free then(n,(cells.lookup n).getD 0)::cs else cs)
theorem ZdA{cells:List (Str×Addr)}:∀{names:List (Str×Ul)}{cs:List (Str×Addr)},(∀y∈names,y.2=.free->∃c,cells.lookup y.1=some c)->(∀x c,cs.lookup x=some c->cells.lookup x=some c)->
    ∀x c,(bH cells names cs).lookup x=some c->cells.lookup x=some c
  |[],_,_,h,x,c,e=>h x c e
  | (n,k)::r,cs,hn,h,x,c,e=>by
    ext bH e;show ZdA (λy hy=>hn y (YK _ hy)) (λy d q=>?_) x c e;by_cases hk:k=.free
    · rw[if_pos hk]at q
      obtain⟨c',DE⟩:=hn (n,k) YR hk;rw[Xj]at q;by_cases hy:y==n
      · rw[hy]at q
        have:y=n:=by simpa using hy
        subst this;rw[show cells.lookup y=some c' from DE]at q⊢;simpa using q
      · have Jx:(y==n)=false:=by simpa using hy
        rw[Jx]at q;show h y d q
    · rw[if_neg hk]at q
      show h y d q
theorem ZcN{cells:List (Str×Addr)}{x:Str}:∀{names:List (Str×Ul)}{cs:List (Str×Addr)},(∃c,cs.lookup x=some c)->∃c,(bH cells names cs).lookup x=some c
  |[],_,h=>h
  | (n,k)::r,cs,h=>by
    ext bH;show ZcN ?_;by_cases hk:k=.free
    · rw[if_pos hk,Xj]
      by_cases hy:x==n
      · rw[hy];show⟨_,rfl⟩
      · have Jx:(x==n)=false:=by simpa using hy
        rw[Jx];show h
    · rw[if_neg hk];show h
theorem ZX{cells:List (Str×Addr)}{x:Str}:∀{names:List (Str×Ul)}{cs:List (Str×Addr)},(x,XG)∈names->∃c,(bH cells names cs).lookup x=some c
  |[],_,h=>nomatch h
  | (n,k)::r,cs,h=>by
    ext bH;rcases Yk.mp h with e|h
    · cases e
      show ZcN ?_;rw[if_pos rfl,Xj];simp
    · show ZX h
theorem ZY{env:Env}{scope:Scope}(h:∀y∈scope.names,y.2=.free->∃c,env.cells.lookup y.1=some c):closureFor scope env=pure (bH env.cells scope.names []):=by
 simp only[closureFor];have key:∀(names:List (Str×Ul))(cs:List (Str×Addr)),(∀y∈names,y.2=.free->∃c,env.cells.lookup y.1=some c)->
   (forIn names cs λx r=>if(x.2==XG)=true then do let a ←cellOf env x.1;pure (VE ((x.1,a)::r))else pure (VE r):Sem (List (Str×Addr)))=pure (bH env.cells names cs):=by
  intro names;induction names with
  |nil=>intro cs _;rfl
  |cons y r ih=>
   intro cs hn;obtain⟨n,k⟩:=y;rw[Ybz];by_cases hk:k=.free
   ·obtain⟨c,hc⟩:=hn (n,k) YR hk
    have DE:env.cells.lookup n=some c:=hc;subst hk;have e1:cellOf env n=pure c:=by ext cellOf;rw[DE]
    change(_>>=_)=_;simp only[beq_self_eq_true,if_true,e1];ext bH;rw[if_pos rfl,DE];show ih _ λy hy=>hn y (YK _ hy)
   ·have e2:(k==XG)=false:=by simpa using hk
    change(_>>=_)=_;simp only[e2,Yx,if_false];ext bH;rw[if_neg hk];show ih _ λy hy=>hn y (YK _ hy)
 rw[key scope.names [] h];rfl
section
variable{prog:YF}{w:World}{A:Around}{R:7e4}{s:Shared}
abbrev Out(prog:YF)(w:World)(A:Around)(env:Env)(R:7e4):Value->Shared->Prop:=notedBy 1e3 A env λe s'=>R (.error e) s'
noncomputable abbrev iL (env:Env)(ifs:3e4):Sem Bool:=forIn ifs true λc r=>if r=true then do let ok ←isTrue c env (eval c env);pure (VE ok)else pure (VE r)
end
def dZ(X:Cx)(N':4e3)(scope:Scope)(C:Addr)(s₀:Shared)(H₀:Hp)(ex:2e1)(pn:1e8):Cx:=
 {X with N:=N',s₀:=s₀,H₀:=H₀,env:=compEnvC scope (bH X.env.cells scope.names []) C X.env,outer:=X.stack,ex:=ex,fn:=λ_=>false,pn:=pn,xe:=λ_ _=>False}
structure Lf(X:Cx)(scope:Scope)(vs fs:List Str)(fr:List Nat):Prop where
 kind:scope.kind=.function
 cell:(scope.names.all λy=>y.2 != .cell)=true
 free:(scope.names.all λy=>y.2 != .free||(X.env.kindOf y.1==some .cell||X.env.kindOf y.1==some .free))=true
 loc:(scope.names.all λy=>y.2 != .local||scope.names.lookup y.1==some .local)=true
 fre:(scope.names.all λy=>y.2 != .free||scope.names.lookup y.1==some .free)=true
 fsf:(fs.all λx=>scope.names.lookup x==some .free)=true
 at':fr.map (λi=>X.N[i]?)=fs.map some
def zG(X:Cx)(ifs:3e4)(t:TT):Prop:=
 ∀(pins:1e8)(s:Shared)(σ:St)(H:Hp)(Q:Bool->Hp->Prop),Inv X pins σ H s->t σ H Q->
  wpAny 2e2 X.A (forIn ifs true λc r=>if r=true then do let ok ←isTrue c X.env (eval c X.env);pure (VE ok)else pure (VE r)) (TP X pins σ Q) X.xe s
noncomputable def RM:TT:=λ_ H Q=>Q true H
theorem En{X:Cx}:zG X [] RM:=λ_ _ _ H _ I h=>wpAny_tests_nil ⟨H,I,h⟩
theorem Em{X:Cx}{c:Expr}{t:TT}(h:PT X c t):zG X [c] t:=λpins s σ H Q I q=>wpAny_tests_one (h pins s σ H Q I q)
noncomputable def iB (vs:4e3)(fr:3e9)(σ:St):St:=vs.map (λ_=>none)++fr.map λi=>(σ[i]?).join
section
variable{X:Cx}{tg elt iter:Expr}{ifs:3e4}{scope:Scope}{pos:Pos}{vs fs:4e3}{fr:3e9}
theorem iV{α:Type}{p:α->Bool}{l:List α}(h:l.all p=true){x:α}(hx:x∈l):p x=true:=YW.mp h x hx
theorem Lf.CT(S:8e1):∀y∈scope.names,y.2≠.cell:=λy hy e=>by have:=iV S.cell hy;rw[e]at this;simp at this
theorem Lf.GV(S:8e1):∀y∈scope.names,y.2=.free->X.env.kindOf y.1=some .cell\/X.env.kindOf y.1=some .free:=λy hy e=>by
 have:=iV S.free hy;rw[e]at this;simpa using this
theorem Lf.Jd(S:8e1):∀y∈scope.names,y.2=.local->scope.names.lookup y.1=some .local:=λy hy e=>by
 have:=iV S.loc hy;rw[e]at this;simpa using this
theorem PB{α β:Type} [BEq α] [LawfulBEq α]:∀{l:List (α×β)}{x:α}{k:β},l.lookup x=some k->(x,k)∈l
  |[],_,_,h=>by simp at h
  | (n,k')::r,x,k,h=>by
    rw[Xj]at h;cases e:x==n with
    |true=>rw[e]at h;cases h;rw[eq_of_beq e];show YR
    |false=>rw[e]at h;show YK _ (PB h)
theorem ZbE{env:Env}{x:Str}:∀{names:List (Str×Ul)}{k:Ul},
    (names.map λ(n,k)=>if(k==XG&&env.scope.kind==.function&&env.kindOf n==some .cell)then(n,Vf)else(n,k)).lookup x=some k->
    names.lookup x=some k\/(k=.cell/\names.lookup x=some .free)
  |[],_,h=>by simp at h
  | (n,k')::r,k,h=>by
    have ih:=@ZbE env x r k;have h':List.lookup x ((if 8e2=true then(n,Vf)else(n,k'))::(r.map λ(n,k)=>if(k==XG&&env.scope.kind==.function&&env.kindOf n==some .cell)then(n,Vf)else(n,k)))=some k:=h;cases hx:x==n with
    |true=>
      by_cases hc:8e2=true
      · rw[if_pos hc]at h'
        simp only[Xj,hx]at h'⊢;cases h';have:k'=.free:=by simp at hc;show hc.1.1
        show .inr ⟨rfl,by rw[this]⟩
      · rw[if_neg hc]at h'
        simp only[Xj,hx]at h'⊢;show .inl h'
    |false=>
      by_cases hc:8e2=true
      · rw[if_pos hc]at h'
        simp only[Xj,hx]at h'⊢;show ih h'
      · rw[if_neg hc]at h'
        simp only[Xj,hx]at h'⊢;show ih h'
theorem ZcJ{env:Env}{x:Str}:∀{names:List (Str×Ul)},names.lookup x=some .free->
    let l:=(names.map λ(n,k)=>if(k==XG&&env.scope.kind==.function&&env.kindOf n==some .cell)then(n,Vf)else(n,k)).lookup x
    l=some .cell\/l=some .free
  |[],h=>by simp at h
  | (n,k')::r,h=>by
    have ih:=@ZcJ env x r;change List.lookup x ((if 8e2=true then(n,Vf)else(n,k'))::(r.map λ(n,k)=>if(k==XG&&env.scope.kind==.function&&env.kindOf n==some .cell)then(n,Vf)else(n,k)))=some .cell\/
      List.lookup x ((if 8e2=true then(n,Vf)else(n,k'))::(r.map λ(n,k)=>if(k==XG&&env.scope.kind==.function&&env.kindOf n==some .cell)then(n,Vf)else(n,k)))=some .free
    cases hx:x==n with
    |true=>
      simp only[Xj,hx]at h;have h:k'=.free:=YO h;by_cases hc:8e2=true
      · rw[if_pos hc,Xj,hx];show .inl rfl
      · rw[if_neg hc,Xj,hx,h];show .inr rfl
    |false=>
      simp only[Xj,hx]at h;by_cases hc:8e2=true
      · rw[if_pos hc];simp only[Xj,hx];show ih h
      · rw[if_neg hc];simp only[Xj,hx];show ih h
end
section
variable{X:Cx}{tg elt iter:Expr}{ifs:3e4}{scope:Scope}{pos:Pos}{vs fs:4e3}{fr:3e9}
theorem Lf.FG(S:8e1)(ok:X.Ok):∀y∈scope.names,y.2=.free->∃c,X.env.cells.lookup y.1=some c:=λy hy e=>ok.has y.1 (S.GV y hy e)
theorem Lf.cl(S:8e1)(ok:X.Ok){x:Str}{c:Addr}(e:(bH X.env.cells scope.names []).lookup x=some c):X.env.cells.lookup x=some c:=
 ZdA (S.FG ok) (λ_ _ q=>by simp at q) x c e
theorem zd{h:Heap}{b:Addr}{o:Obj}{n:Nat}(e:h.get? b=some o)(hn:h.objs.size<=n):b≠n:=Yv (YC (Yr e) hn)
theorem ZdZ{pins:1e8}{σ:St}{H:Hp}{s:Shared}{fp:2e1}{C:Addr}{h1:Heap}{tk:Nat}{m1:2e5}(S:8e1)(I:2e0)
  (hf:∀b∈fp,eV X pins H b) (GK:∀b∈fp,∃o,s.heap.get? b=some o) (hC:s.heap.objs.size<=C) (hn:h1.Ns C m1) (old:∀b o,s.heap.get? b=some o->h1.get? b=some o):
  Inv (dZ X (vs++fs) scope C s H fp (X.pn++pins)) [] (iB vs fr σ) H {s with heap:=h1,toks:=tk}:=by
 have cl:=λx c e=>S.cl I.ok (x:=x) (c:=c) e;have BR:=I.g9;have CS:∀x c,X.env.cells.lookup x=some c->c<s.heap.objs.size:=λx c e=>by obtain⟨v,q⟩:=I.cell x c e;show q.lt
 show⟨⟨I.ok.mod,S.kind,I.ok.glob,I.ok.blt,hC,λx y c e1 e2=>I.ok.inj x y c (cl x c e1) (cl y c e2),λx hx=>?_,λ_ _ z _=>(nomatch z),I.ok.hd,I.ok.frames,.inl rfl,λb hb=>?_,I.bs,Xb I.ok.Km I.sz,λb o e hb=>?_,λb hb z=>?_,I.stack,I.u6⟩,
  rfl,I.bare,Un.kept old,⟨m1,hn,λi x v e1 e2 e3=>?_⟩,λx c e=>?_,I.aQ.fresh hC,λx c e=>I.eh x c (cl x c e),λp hp=>?_,I.aQ.kept old,?_⟩
 ·-- has
  have rB:(relabel scope X.env).names.lookup x=some .cell\/(relabel scope X.env).names.lookup x=some .free:=hx;have:scope.names.lookup x=some .free:=by
   rcases rB with q|q
   ·rcases ZbE q with q|⟨_,q⟩
    ·show absurd rfl (S.CT _ (PB q))
    ·show q
   ·rcases ZbE q with q|⟨q,_⟩
    ·show q
    ·cases q
  show ZX (PB this)
 ·-- Zp
  obtain⟨o,ho⟩:=GK b hb;obtain⟨f0,f1,f2,f3,f4,f5⟩:=hf b hb;show⟨zd ho hC,λx c e=>f4 x c (cl x c e)⟩
 ·-- yb
  have e':=(I.ok.bs b o e).1;obtain⟨_,_,_,f3,_,_⟩:=hf b hb;rcases f3 with z|z
  ·show I.ok.yb b o e z
  ·show absurd (YC (Yr e') z) (WB _)
 ·-- Cg
  obtain⟨_,f1,f2,_⟩:=hf b hb;rcases Yk.mp (BR b z)with q|q
  ·show f1 q
  ·show f2 q
 ·-- loc
  have e1:(vs++fs)[i]? = some x:=e1;ext iB e2;by_cases hi:i<vs.length
  ·rw[Yo (by simpa using hi)]at e2
   simp[hi]at e2
  ·rw[YE (by simpa using hi),Yi,Yy]at e2
   rw[YE (by simpa using hi)]at e1;obtain⟨j,hj⟩:∃j,fr[i-vs.length]? = some j:=by
    cases q:fr[i-vs.length]? with
    |none=>rw[q]at e2;cases e2
    |some j=>show⟨j,rfl⟩
   rw[hj]at e2;have JZ:(σ[j]?).join=some v:=YO e2;have hσ:σ[j]? = some (some v):=by
    cases q:σ[j]? with
    |none=>rw[q]at JZ;cases JZ
    |some r=>rw[q]at JZ;show congrArg some JZ
   have hN:X.N[j]? = some x:=by
    have:=congrArg (λl=>l[i-vs.length]?) S.at';simp only[Yy,hj,e1,VF]at this;show YO this
   have S0:scope.names.lookup x=some .free:=by
    have:=iV S.fsf (YH e1);simpa using this
   have hk:=S.GV _ (PB S0) rfl;obtain⟨m,hm,hl⟩:=I.loc;have S7:Ml X.env.scope x:=by
    rcases hk with k|k
    ·show .inr (.inl k)
    ·show .inr (.inr k)
   obtain⟨u,ru,lk⟩:=hl j x v hN hσ S7;show⟨u,ru,?_⟩;rcases lk with⟨k,_⟩|⟨_,c,hc,hv⟩
   ·have k':X.env.kindOf x=some .local:=k
    rcases hk with z|z
    ·have z':X.env.kindOf x=some .cell:=z
     rw[k']at z';cases z'
    ·have z':X.env.kindOf x=some .free:=z
     rw[k']at z';cases z'
   ·obtain⟨c',DE⟩:=ZX (cells:=X.env.cells) (cs:=[]) (PB S0)
    have:=cl x c' DE;rw[hc]at this;cases this;show .inr ⟨ZcJ S0,c,DE,?_⟩;obtain⟨o,ho,hd⟩:=hv;show⟨o,old c o ho,hd⟩
 ·-- cell
  obtain⟨v,o,ho,hd⟩:=I.cell x c (cl x c e);show⟨v,o,old c o ho,hd⟩
 ·-- pin
  have JA:p∈X.pn++pins:=by simpa[dZ]using hp
  obtain⟨e,n,ne,nf,d⟩:=I.pin p JA;show⟨old _ _ e,n,zd e hC,λz=>?_,d⟩;rcases Yk.mp (BR _ z)with q|q
  ·show ne q
  ·show nf q
 ·change(iB vs fr σ).length=(vs++fs).length
  have:=congrArg List.length S.at';simp only[Yi]at this;ext iB;simp[this]
theorem comp_back{pins:1e8}{σ σ':St}{H H':Hp}{s s':Shared}{fp:2e1}{C D:Addr}{ys:List V}{aw:2e6}{n:Nat}{pl:1e8}(I:2e0)
  (hf:∀b∈fp,eV X pins H b) (J:Inv (dZ X (vs++fs) scope C s H fp (X.pn++pins)) pl σ' H' s')
  (hD:s.heap.objs.size<=D) (JN:H' D=none) (hl:ys.length<=YA) (r:Vals ys aw) (ho:s'.heap.get? D=some {cls:=.type "list",data:=.seq aw.toArray n}):Inv X pins σ (upd H' D (.lst ys)) s':=by
 have ne:∀b o,s.heap.get? b=some o->b≠D:=λb o e=>zd e hD;have u:Un (ua X.stack) fp H H' s.heap s'.heap:=J.base;show I.G7 (ch:=fp) J.os ⟨u.keep,u.slot,λb o e q hx=>?_,u.there,λb xs e=>?_,λb o xs e=>?_,λb ps e=>?_⟩ (λb o e=>?_) J.bare λb hb=>?_
 ·rw[bf (ne b o e)];show u.free b o e q hx
 ·rw[bf (gu (u.g8 b xs e) JN)];show u.g8 b xs e
 ·rw[bf (gu (u.gg b o xs e) JN)];show u.gg b o xs e
 ·obtain⟨more,q⟩:=u.jh b ps e
  show⟨more,by rw[bf (gu q JN)];show q⟩
 ·by_cases hb:b=D
  ·subst hb
   rw[fP]at e;cases e;show⟨hl,aw,n,r,ho⟩
  ·rw[bf hb]at e
   show(J.aQ b o e).cW (λ_ _ _ q=>q) (λc q=>by rw[bf (gu q JN)];show q) λc xs q=>by rw[bf (gu q JN)];show q
 ·obtain⟨f0,f1,f2,f3,f4,f5⟩:=hf b hb
  show⟨f3,f1,f4,f5⟩
end
section
variable{X:Cx}{tg elt iter:Expr}{ifs:3e4}{scope:Scope}{pos:Pos}{vs fs:4e3}{fr:3e9}{g:TG}{tt:TT}{te:TE}
theorem md{α:Type}{M:Model}{A:Around}{t:Sem α}{Q Q':α->Shared->Prop}{E:1e1}{s:Shared}(h:wpAny M A t Q (λ_ _=>False) s)(hQ:∀a s,Q a s->Q' a s):wpAny M A t Q' E s:=
 Xk h hQ λ_ _ f=>Vs f
end
section
variable{prog:YF}{w:World}{A:Around}{R:7e4}{s:Shared}
theorem kL{kx vx target iter:Expr}{ifs:3e4}{scope:Scope}{pos:Pos}{it:Value}{D:Addr}{env:Env}(I:Nat->Shared->Prop)
  (turn:∀k z,I k z->wpAny 1e3 A (pyNext it) (λr z1=>match r with
   |none=>R (.ok .next) z1
   |some v=>wpAny 1e3 A (WI target it v) (λ_ z2=>wpAny 1e3 A (assign target env v) (λ_ z3=>wpAny 1e3 A (iL env ifs) (λyes z4=>
     if yes=true then wpAny 1e3 A (eval kx env) (λx z5=>wpAny 1e3 A (eval vx env) (λy z6=>wpAny 1e3 A (dictSet D x y) (λ_ z7=>∃m,m<k/\I m z7) (Out prog w A env R) z6) (Out prog w A env R) z5) (Out prog w A env R) z4
     else ∃m,m<k/\I m z4) (Out prog w A env R) z3) (Out prog w A env R) z2) (Out prog w A env R) z1) (Out prog w A env R) z)
  (n:Nat) (h:I n s):Wm 1e3 A (.compLoop (.DictComp kx vx [⟨target,iter,ifs,0⟩] scope pos) 0 it (.ref D) env) R s:=by
 show codeAny_loop rfl I ?_ n h;intro k z hz;show wpAny_noted ?_;rw[compTurn_dict];apply Ya;apply VN;apply Ya;show Xk (turn k z hz) ?_ λ_ _ e=>e;rintro(_|v) z1 y1
 ·show Yc y1
 apply Ya;show Xk y1 (λ_ z2 y2=>?_) λ_ _ e=>e;apply Ya;show Xk y2 (λ_ z3 y3=>?_) λ_ _ e=>e;apply Ya;show Xk y3 (λyes z4 y4=>?_) λ_ _ e=>e;by_cases b:yes=true
 ·subst b
  apply Ya;apply Ya;show Xk y4 (λx z5 y5=>?_) λ_ _ e=>e;apply Ya;apply Xf;show Xk y5 (λy z6 y6=>?_) λ_ _ e=>e;apply Ya;apply VN;apply Xf;show Xk y6 (λ_ z7 y7=>Yc ⟨rfl,y7⟩) λ_ _ e=>e
 ·have nb:yes=false:=by simpa using b
  subst nb;show Yc ⟨rfl,y4⟩
end
section
variable{X:Cx}{pins:1e8}{σ:St}{H:Hp}{s:Shared}{a:Addr}{y v:V}{u r:Value}{A:Around}{E:1e1}
theorem yP{H':Hp}{Q:Unit->Shared->Prop}(hu:A.units+1<cLine)(I:2e0)(g:rh H a y v H')(ry:RelV y u)(rv:RelV v r)(h:∀s',Inv X pins σ H' s'->Q () s'):
  wpAny 2e2 A (dictSet a u r) Q E s:=by
 rcases g with⟨ag,k,e,ey,l,eH⟩|⟨ag,k,b,e,ey,eb,l,eH⟩
 ·subst ey eH
  obtain⟨z,hd,vs,rel,dd⟩:=Cw I.aQ e;have hz:vs.length<=sizeLine:=by rw[←rel.length];show z
  have hl:(putK ag k v).length<=sizeLine:=by have:=Mc ag k v;lia
  show wpAny_dictSet_pairs (hsz:=hz) (lM ry) dd λh' CJ hs=>h _ ?_;have he:∃q,h'.get? a=some q:=let⟨q,_,_,hq,_⟩:=CJ;⟨q,hq⟩
  show Pg I (by rw[e];show U5) hs he (CB hl hd (rel.put k rv) CJ)
 ·subst ey eH
  cases(show u=YU b from ry);obtain⟨z,hd,xs,rel,dd⟩:=Ct I.aQ e;have hz:xs.length<=sizeLine:=by rw[←Wr rel];show z
  have hl:(putK ag k v).length<=sizeLine:=by have:=Mc ag k v;lia
  show wpAny_dictSet_heap (hsz:=hz) (show(Vm (aD X.prog X.w)).room A from by change A.units<cLine;lia) (Kw I.aQ eb) dd λh' CJ hs=>h _ ?_;obtain⟨q,es,ep,hq,h2,h3,h4,_,h5⟩:=CJ;show Pg I (by rw[e];show U5) hs ⟨q,hq⟩ ⟨hl,hd,_,(rel.put k eb rv).keeps λc ys ec=>?_,q,es,ep,hq,h2,h3,h4,h5⟩;rw[bf (A8 ec e (λz=>nomatch z))];show ec
end
def Dt(J:It)(vs:4e3)(fr:3e9)(g:TG)(tt:TT)(tk te:TE)(σ:St)(H1:Hp)(Q:VK):Prop:=
 ∀D,H1 D=none->∃W:Nat->Nat->St->Hp->Prop,(∃m,W 0 m (iB vs fr σ) (upd H1 D (.dT [])))/\∀i m σ' H,W i m σ' H->
  (J.stop i H/\Q (.ref D) H)\/
  (J.go i H/\∃N:St->Hp->Prop,(∀σ2 H2,N σ2 H2->∃m',m'<m/\W (i+1) m' σ2 H2)/\∀x H',J.uY i H x H'->g x σ' H' λσ2 H2=>tt σ2 H2 λb H3=>
   if b=true then tk σ2 H3 λy H4=>te σ2 H4 λv H5=>∃H6,rh H5 D y v H6/\N σ2 H6 else N σ2 H3)
noncomputable def zX (wi:TI)(vs:4e3)(fr:3e9)(g:TG)(tt:TT)(tk te:TE):TE:=λσ H Q=>wi σ H λJ H1=>Dt J vs fr g tt tk te σ H1 Q
section
variable{X:Cx}{tg kx vx iter:Expr}{ifs:3e4}{scope:Scope}{pos:Pos}{vs fs:4e3}{fr:3e9}{g:TG}{tt:TT}{tk te:TE}
theorem uw{pins:1e8}{σ σ':St}{H H':Hp}{s s':Shared}{fp:2e1}{C:Addr}{pl:1e8}(I:2e0)
  (hf:∀b∈fp,eV X pins H b) (J:Inv (dZ X (vs++fs) scope C s H fp (X.pn++pins)) pl σ' H' s'):Inv X pins σ H' s':=by
 have u:Un (ua X.stack) fp H H' s.heap s'.heap:=J.base;show I.G7 (ch:=fp) J.os u J.aQ J.bare λb hb=>?_;obtain⟨f0,f1,f2,f3,f4,f5⟩:=hf b hb;show⟨f3,f1,f4,f5⟩
theorem qC{pins:1e8}{σ:St}{H:Hp}{s:Shared}{Q:VK}{it:Addr}{fp:2e1}{tn:Nat->Heap->Prop}{J:It}{RR:Value->Addr->Result->Shared->Prop}
  (S:8e1) (hc:5e1) (hu:X.A.units+1<cLine)
  (bG:∀C s₀ H₀ ex pn,PG 1e2 tg g) (bT:∀C s₀ H₀ ex pn,zG 1e2 ifs tt) (bK:∀C s₀ H₀ ex pn,PE 1e2 kx tk) (bE:∀C s₀ H₀ ex pn,PE 1e2 vx te)
  (I:2e0) (T:Turn X.prog X.w X.K tg J fp it tn) (st:tn 0 s.heap) (hf:∀b∈fp,eV X pins H b)
  (q:Dt J vs fr g tt tk te σ H Q)
  (Y':∀D C H' s' m',Inv X pins σ H' s'->Q (.ref D) H'->s'.heap.Ns C m'->H' C=none->s.heap.objs.size<=C->RR (.ref D) C (.ok .next) s'):
  wpAny 2e2 X.A newDict (λacc s₃=>wpAny 2e2 X.A (newFunctionEnv scope X.env.globals (bH X.env.cells scope.names []) [] X.env.qual none .none (some X.env)) (λCQ s₄=>
   Wm (model X.prog X.w) X.A (.compStart (.DictComp kx vx [⟨tg,iter,ifs,0⟩] scope pos) 0 (.ref it) acc {CQ with scope:=relabel scope X.env}) (RR acc CQ.locals) s₄) X.xe s₃) X.xe s:=by
 have JN:H s.heap.objs.size=none:=I.aQ.fresh (Yl _);obtain⟨W,⟨m0,w0⟩,turn⟩:=q s.heap.objs.size JN;have I':=I.laid (a:=s.heap.objs.size) (o:=.dT []) (t':=s.toks) (λ_ _ q=>Yb _ q) (Yl _) (qq s.heap I.big);have Ow:∀b∈fp,∃o,s.heap.get? b=some o:=λb hb=>by obtain⟨o,e,_⟩:=T.obj 0 _ st b hb;show⟨o,e⟩
 have Fl:∀b∈fp,b≠s.heap.objs.size:=λb hb=>by obtain⟨o,e⟩:=Ow b hb;show zd e (Yl _)
 have TV:∀b∈fp,eV X pins (upd H s.heap.objs.size (.dT [])) b:=λb hb=>by
  obtain⟨f0,f1,f2,f3,f4,f5⟩:=hf b hb;show⟨by rw[bf (Fl b hb)];show f0,f1,f2,f3,f4,f5⟩
 show XD (wpAny_newFunctionEnv S.CT (by intro y hy;simp at hy) (λh₁ hns₁ hsb₁=>?_) S.kind);dsimp only at hns₁ hsb₁⊢;generalize LF:s.heap.push {cls:=.type "dict",data:=.dict #[]}=H2 at hns₁ hsb₁ I'⊢;have QD:H2.objs.size=s.heap.objs.size+1:=by rw[←LF,V1]
 have old:∀b o,H2.get? b=some o->h₁.get? b=some o:=λb o e=>hsb₁.extBut b o (zd e (Yl _)) (Yb _ e);have IH:∀b o,s.heap.get? b=some o->H2.get? b=some o:=λb o e=>by rw[←LF];show Yb _ e
 have GK:∀b∈fp,∃o,H2.get? b=some o:=λb hb=>by obtain⟨o,e⟩:=Ow b hb;show⟨o,IH b o e⟩
 generalize GF:({s with heap:=H2,toks:=s.toks}:Shared)=s2 at I';have Zq:s2.heap=H2:=by rw[←GF]
 generalize hY:dZ X (vs++fs) scope H2.objs.size s2 (upd H s.heap.objs.size (.dT [])) fp (X.pn++pins)=Y;have J0:Inv Y [] (iB vs fr σ) (upd H s.heap.objs.size (.dT [])) {s with heap:=h₁,toks:=s.toks+([]:List (Str×Value)).length}:=by
  rw[←hY];have:=ZdZ (tk:=s.toks+([]:List (Str×Value)).length) S I' TV (by rw[Zq];show GK) (by rw[Zq];show Yl _) hns₁ (by rw[Zq];show old);rw[←GF]at this⊢;show this
 have hG:PG Y tg g:=by rw[←hY];show bG _ _ _ _ _
 have hT:zG Y ifs tt:=by rw[←hY];show bT _ _ _ _ _
 have hK:PE Y kx tk:=by rw[←hY];show bK _ _ _ _ _
 have hE:PE Y vx te:=by rw[←hY];show bE _ _ _ _ _
 have G2:Y.prog=X.prog:=by rw[←hY];rfl
 have eW:Y.w=X.w:=by rw[←hY];rfl
 have eK:Y.K=X.K:=by rw[←hY];rfl
 have eA:Y.A=X.A:=by rw[←hY];rfl
 have eC:Y.calm=true:=by rw[←hY];show hc
 have ur:Y.env=compEnvC scope (bH X.env.cells scope.names []) H2.objs.size X.env:=by rw[←hY];rfl
 have eL:Y.env.locals=H2.objs.size:=by rw[ur];rfl
 have eX:Y.xe=λ_ _=>False:=by rw[←hY];rfl
 have Zs:Y.ex=fp:=by rw[←hY];rfl
 have QH:Y.fs=ua X.stack:=by rw[←hY];rfl
 have QG:Y.pn=X.pn++pins:=by rw[←hY];rfl
 have QI:∀x c,Y.env.cells.lookup x=some c->X.env.cells.lookup x=some c:=λx c e=>by
  rw[ur]at e;show S.cl I.ok e
 have fB:∀{H':Hp},10e1->∀b∈fp,eV Y [] H' b:=λ{H'} hn b hb=>by
  obtain⟨f0,f1,f2,f3,f4,f5⟩:=hf b hb;obtain⟨ob,e⟩:=GK b hb;show⟨hn b hb,by rw[eL];show zd e (Yl _),λz=>?_,.inl (by rw[Zs];show hb),λx c e=>f4 x c (QI x c e),λp hp=>?_⟩
  ·rw[QH]at z
   rcases Yk.mp (I.g9 _ z)with z|z
   ·show f1 z
   ·show f2 z
  ·rw[YG,QG]at hp;show f5 p hp
 have loop:∀s₃:Shared,s₃={s with heap:=h₁,toks:=s.toks+([]:List (Str×Value)).length}->
   Wm 2e2 X.A (.compLoop (.DictComp kx vx [9e0] scope pos) 0 (.ref it) 4e9 (compEnvC scope (bH X.env.cells scope.names []) H2.objs.size X.env))
    (RR 4e9 H2.objs.size) s₃:=by
  rintro s₃ rfl;rw[←ur,←G2,←eW,←eA];show kL (λn s'=>∃i σ' H',Inv Y [] σ' H' s'/\tn i s'.heap/\10e1/\W i n σ' H') ?_ m0
   ⟨0,_,_,J0,T.keep _ _ _ st λb _ o e=>old b o (IH b o e),λb hb=>(TV b hb).1,w0⟩
  rintro n s3 ⟨i,σ3,H3,J3,zt,ki,w3⟩;rcases turn i n σ3 H3 w3 with⟨stop,qn⟩|⟨go,N,hN,step⟩
  ·have dn:=T.done Y G2 eW eK eC i _ s3 σ3 H3 (λ_ _=>False) J3 (fB ki) zt stop
   rw[←G2,←eW]at dn;show md dn λr s4 h_=>?_;obtain⟨hr,J4⟩:=h_;subst hr;obtain⟨m4,Od,_⟩:=id J4.loc;rw[eL]at Od;have nC:H3 H2.objs.size=none:=by rw[←eL];show J4.free
   show Y' _ _ _ s4 m4 (uw I' TV (by rw[hY];show J4)) qn Od nC (by rw[QD];show PX _)
  ·have im:=T.item Y G2 eW eK eC i _ s3 σ3 H3 (λ_ _=>False) J3 (fB ki) zt go
   rw[←G2,←eW]at im;show md im λr s4 h_=>?_;obtain⟨u,hr,h4⟩:=h_;subst hr;show md h4 λ_ s5 h_=>?_;obtain⟨x,H5,J5,r5,y5,rT,JV⟩:=h_;have P7:=J5.pinned (fB JV) (T.obj _ _ rT);have GP:=hG _ s5 σ3 H5 x u _ P7 r5 (step x H5 y5);rw[eX]at GP;show md GP λ_ s6 h_=>?_;obtain⟨σ6,H6,J6,q6⟩:=h_;have go2:=hT _ s6 σ6 H6 _ J6 q6;rw[eX]at go2;show md go2 λok s7 h_=>?_;obtain⟨H7,J7,q7⟩:=h_;have fin:∀{σ8:St}{H8:Hp}{s8:Shared},Inv Y ([]++eJ fp s5.heap) σ8 H8 s8->
     tn (i+1) s8.heap/\(∀b∈fp,H8 b=none):=λ{σ8 H8 s8} J8=>by
    show⟨T.keep _ _ _ rT λb hb o e=>(J8.pin (b,o) (Yn _ (Yn _ (Ho hb e)))).1,λb hb=>?_⟩;obtain⟨o,e,d⟩:=T.obj _ _ rT b hb;show(J8.pin (b,o) (Yn _ (Yn _ (Ho hb e)))).2.1
   cases ok with
   |false=>
    rw[if_neg Yw]at q7⊢;obtain⟨m',hm,w7⟩:=hN _ _ q7;show⟨m',hm,i+1,σ6,H7,J7.d7,(fin J7).1,(fin J7).2,w7⟩
   |true=>
    rw[if_pos rfl]at q7⊢;have GO:=hK _ s7 σ6 H7 _ J7 q7;rw[eX]at GO;show md GO λkv s8 h_=>?_;obtain⟨y,H8,J8,r8,q8⟩:=h_;have go4:=hE _ s8 σ6 H8 _ J8 q8;rw[eX]at go4;show md go4 λvv s9 h_=>?_;obtain⟨v,H9,J9,r9,H10,pt,n10⟩:=h_;obtain⟨m',hm,w10⟩:=hN _ _ n10;show yP (by rw[eA];show hu) J9 pt r8 r9 λs10 J10=>⟨m',hm,i+1,σ6,H10,J10.d7,(fin J10).1,(fin J10).2,w10⟩
 show codeAny_compStart_dict (loop _ rfl) (T.self _ 0 _ _ _ (T.keep _ _ _ st λb _ o e=>old b o (IH b o e)) (loop _ rfl))
end
section
variable{X:Cx}{tg kx vx iter:Expr}{ifs:3e4}{scope:Scope}{pos:Pos}{vs fs:4e3}{fr:3e9}{g:TG}{tt:TT}{tk te:TE}
theorem AQ{wi:TI}(S:8e1)(hc:5e1)(hu:X.A.units+1<cLine)(hi:PI X tg iter wi)
  (bG:∀C s₀ H₀ ex pn,PG 1e2 tg g) (bT:∀C s₀ H₀ ex pn,zG 1e2 ifs tt) (bK:∀C s₀ H₀ ex pn,PE 1e2 kx tk) (bE:∀C s₀ H₀ ex pn,PE 1e2 vx te)
  (hs:9e3:=by intro _;rfl):
  PE X (.DictComp kx vx [9e0] scope pos) (zX wi vs fr g tt tk te):=by
 intro pins s σ H Q I h;rw[arm_eval_DictComp];show Ud (use:=none) rfl hs (ZY (S.FG I.ok)) S.kind S.Jd (bS (hi pins s σ H _ I h) λv s1 h1=>bS h1 λLp s2 h2=>?_);obtain⟨it,fp,tn,J,H2,e,I2,T,iM,f2,q2⟩:=h2;subst e;show qC (RR:=λacc C=>compPost 2e2 X.A X.xe none (EP X pins σ Q) acc C) S hc hu bG bT bK bE I2 T iM f2 q2 ?_;intro D C H' s' m' I' hq hn hC hle;show⟨m',hn,λh' ed=>⟨.ref D,H',?_,rfl,hq⟩⟩;show I'.turned (t':=s'.toks) (λb o hb e=>(ed.2 b hb).trans e) hC ?_ (.inr (Xb I2.sz hle)) ?_ ?_
 ·show XU (YC I2.lt hle)
 ·intro x c e
  obtain⟨v,z⟩:=I2.cell x c e;show Yv (YC z.lt hle)
 ·intro p hp
  show zd (I2.pin p hp).1 hle
end
section
variable{X:Cx}
noncomputable def Its (z:Str):It:=⟨λi _=>i<z.cps.size,λi H x H'=>H'=H/\∃c,z.cps[i]? = some c/\x=.str ⟨#[c]⟩,λi _=>i=z.cps.size⟩
theorem oB{P:YF}{w:World}{K:W.Frag}{tg:Expr}{it:Addr}{z:Str}{t:Tok}{ty:String}(Lr:ty="str_ascii_iterator"\/ty="str_iterator"):Turn P w K tg (Its z) [it] it (λi h=>h.IsStrIter it ty z t i) where
 mem:=by simp
 obj:=λi h st b hb=>by
  have e:b=it:=by simpa using hb
  subst e;obtain⟨o,e,c,d⟩:=st;show⟨o,e,λv z=>by rw[d]at z;cases z⟩
 keep:=λi h h' st k=>by
  obtain⟨o,e,c,d⟩:=st;show⟨o,k it 2e9 o e,c,d⟩
 item:=by
  sleep 1;sleep 3;have fin:∀v h' tk,SignAt z i v->h'.IsStrIter it ty z t (i+1)->(∀b o,b∉[it]->s.heap.get? b=some o->h'.get? b=some o)->
    ∃u,some v=some u/\wpAny 2e2 X.A (WI tg (.ref it) u) (λ_ s2=>∃x H',Inv X pins σ H' s2/\RelV x u/\(Its z).uY i H x H'/\s2.heap.IsStrIter it ty z t (i+1)/\∀b∈[it],H' b=none) E {s with heap:=h',toks:=tk}:=λv h' tk hv aC kk=>by
   obtain⟨c,u,hcx,rfl⟩:=hv;have I1:Inv X pins σ H {s with heap:=h',toks:=tk}:=I.turned (λb o hb e=>kk b o (by simpa using hb) e) f0 f1 f3 f4 f5;obtain⟨o,e,oc,d⟩:=id aC;show⟨_,rfl,lP (s:={s with heap:=h',toks:=tk}) e oc d (by rcases Lr with rfl|rfl<;>decide) ⟨.str ⟨#[c]⟩,H,I1,⟨u,rfl⟩,⟨rfl,c,hcx,rfl⟩,aC,λb hb=>(hf b hb).1⟩⟩
  rcases Lr with rfl|rfl
  ·show(Walks.strAscii (prog:=X.prog) (w:=X.w) (I.ok.hd hc) it z t).item i s _ _ hg st fin
  ·show(Walks.strWide (prog:=X.prog) (w:=X.w) (I.ok.hd hc) it z t).item i s _ _ hg st fin
 done:=by
  sleep 1;sleep 3;have hg:i=z.cps.size:=hg;subst hg;have fin:∀h' tk,(∀b o,b∉[it]->s.heap.get? b=some o->h'.get? b=some o)->(none:Option Value)=none/\Inv X pins σ H {s with heap:=h',toks:=tk}:=λh' tk kk=>
   ⟨rfl,I.turned (λb o hb e=>kk b o (by simpa using hb) e) f0 f1 f3 f4 f5⟩
  rcases Lr with rfl|rfl
  ·show(Walks.strAscii (prog:=X.prog) (w:=X.w) (I.ok.hd hc) it z t).done s _ _ st fin
  ·show(Walks.strWide (prog:=X.prog) (w:=X.w) (I.ok.hd hc) it z t).done s _ _ st fin
 self:=λ_ _ _ _ _ st h=>by
  rcases Lr with rfl|rfl
  ·show wpAny_pyIter_striter_ascii st h
  ·show wpAny_pyIter_striter_wide st h
theorem range_all(bs:List Bool):((YB bs.length).all λi=>bs.getD i false)=bs.all id:=by
 rw[WJ];simp only[YW,Y1];constructor
 ·intro h b hb
  obtain⟨i,hi,e⟩:=XM hb;have:=h i hi;rw[Ys,Ye hi]at this;subst e;simpa using this
 ·intro h i hi
  rw[Ys,Ye hi];simpa using h _ (Wh hi)
theorem qK(hc:5e1):cL X (.builtin "all") (λxs H Q=>∃(a:Addr)(bs:List Bool),xs=[.ref a]/\fy X.K H a (bs.map V.bl)/\Q (.bl (bs.all id)) H):=by
 intro pins s σ H xs us Q I r h;obtain⟨a,bs,rfl,hq,q⟩:=h;obtain⟨u,rfl,ru⟩:=Vals.one r;cases(show u=YU a from ru);obtain⟨aw,rv,p,hz⟩:=I.list hq;have bA:a<s.heap.objs.size:=by obtain⟨o,e,_⟩:=p.isList;show Yr e
 show call_all_walk (VO p.isList ?_);have hlen:aw.toArray.size=bs.length:=by have:=rv.length;simp at this;simp[this]
 show⟨s.heap.objs.size,_,_,aw.toArray.size,_,_,λi=>bs.getD i false,rfl,Walks.list (by show I.ok.hd hc) s.heap.objs.size a (Yv bA) aw.toArray,⟨6e4,p.isList.push _⟩,?_,?_⟩
 ·intro i v s' Q' E' hv Za
  have hi:i<bs.length:=by
   rw[←hlen];show(Yal.mp hv).1
  obtain⟨u,e1,r1⟩:=rv.get (i:=i) (x:=V.bl bs[i]) (by simp[hi]);have e2:aw[i]? = some v:=by simpa using hv
  rw[e1]at e2;have e3:u=v:=YO e2;have e4:u=Ua bs[i]:=r1;rw[←e3,e4];show VM ?_;have:bs.getD i false=bs[i]:=by rw[Ys,Ye hi];rfl
  have OJ:Q' (bs.getD i false) s':=Za;rw[this]at OJ;show OJ
 ·intro h' tk kk
  show⟨.bl _,H,I.kept λb o e=>kk b o (λz=>?_) (Yb _ e),?_,q⟩
  ·have:b=s.heap.objs.size:=by simpa using z
   show absurd this (Yv (Yr e))
  ·change Ua _=Ua _
   rw[hlen,range_all]
end
end L2
namespace Se
open PySem PySem.SetTable
noncomputable def rJ (mask:Nat)(p:Probe):Probe:=
 if p.more>0 then{p with j:=p.j+1,more:=p.more-1}else
 {p with j:=(leap mask p.i p.perturb).1,more:=runEnd mask (leap mask p.i p.perturb).1-(leap mask p.i p.perturb).1,i:=(leap mask p.i p.perturb).1,perturb:=(leap mask p.i p.perturb).2}
theorem Df(t:X7)(p:Probe):t.advance p=rJ t.mask p:=by unfold SetTable.advance rJ;rfl
def it(mask:Nat):Nat->Probe->Probe
 |0,p=>p
 |n+1,p=>it mask n (rJ mask p)
theorem wm(mask n:Nat):∀p,it mask (n+1) p=rJ mask (it mask n p):=by
 induction n with
 |zero=>intro p;rfl
 |succ n ih=>intro p;show ih (rJ mask p)
theorem Hg(mask a:Nat):∀(b:Nat)(p:Probe),it mask (a+b) p=it mask b (it mask a p):=by
 induction a with
 |zero=>intro b p;rw[XV];rfl
 |succ a ih=>intro b p;rw[Nat.succ_add];show ih b (rJ mask p)
noncomputable def cq (mask i d pt:Nat):Probe:={j:=i+d,more:=runEnd mask i-i-d,i:=i,perturb:=pt,dummy:=none}
noncomputable def len (mask i:Nat):Nat:=runEnd mask i-i
theorem Bu(mask i:Nat):len mask i<=9:=by unfold len runEnd;split<;>lia
theorem uL{mask i d pt:Nat}(h:d<len mask i):rJ mask (cq mask i d pt)=cq mask i (d+1) pt:=by
 ext len h;unfold rJ cq;sleep 6;rw[if_pos 1e0];have e1:i+d+1=i+(d+1):=by lia
 have e2:runEnd mask i-i-d-1=runEnd mask i-i-(d+1):=by lia
 rw[e1,e2]
theorem oa{mask i d pt:Nat}(h:d=len mask i):rJ mask (cq mask i d pt)=cq mask (leap mask i pt).1 0 (leap mask i pt).2:=by
 ext len h;unfold rJ cq;sleep 6;rw[if_neg 1e0];rfl
theorem p8{mask i pt:Nat}:∀(k d:Nat),d+k<=len mask i->it mask k (cq mask i d pt)=cq mask i (d+k) pt
 |0,d,_=>rfl
 |k+1,d,h=>by
  change it mask k (rJ mask (cq mask i d pt))=_;rw[uL 1e0,p8 k (d+1) 1e0];have e:d+1+k=d+(k+1):=by lia
  rw[e]
theorem i4{mask i d pt:Nat}(h:d<=len mask i):it mask (len mask i-d+1) (cq mask i d pt)=cq mask (leap mask i pt).1 0 (leap mask i pt).2:=by
 rw[wm,p8 _ _ 1e0,oa 1e0]
noncomputable def lp (mask:Nat):Nat->Nat×Nat->Nat×Nat
 |0,p=>p
 |n+1,p=>lp mask n (leap mask p.1 p.2)
theorem BF(mask:Nat):∀(k i pt:Nat),∃c,c<=10*k/\it mask c (cq mask i 0 pt)=cq mask (lp mask k (i,pt)).1 0 (lp mask k (i,pt)).2
 |0,i,pt=>⟨0,Y4 _,rfl⟩
 |k+1,i,pt=>by
  obtain⟨c,hc,e⟩:=BF mask k (leap mask i pt).1 (leap mask i pt).2;show⟨(len mask i-0+1)+c,?_,?_⟩
  ·have:=Bu mask i;lia
  ·rw[Hg,i4 (Y4 _),e];rfl
theorem Jc(mask a:Nat):∀(b:Nat)(p:Nat×Nat),lp mask (a+b) p=lp mask b (lp mask a p):=by
 induction a with
 |zero=>intro b p;rw[XV];rfl
 |succ a ih=>intro b p;rw[Nat.succ_add];show ih b _
theorem Bl(mask:Nat):∀(k i pt:Nat),(lp mask k (i,pt)).2=pt/32^k
 |0,i,pt=>by simp[lp]
 |k+1,i,pt=>by
  change(lp mask k (leap mask i pt)).2=_;have:leap mask i pt=((i*5+1+pt/32)%(mask+1),pt/32):=rfl;rw[this,Bl mask k,Nat.div_div_eq_div_mul,Nat.pow_succ,Nat.mul_comm]
theorem Bm(mask:Nat):∀(k i pt:Nat),i<mask+1->(lp mask k (i,pt)).1<mask+1
 |0,i,pt,h=>h
 |k+1,i,pt,h=>Bm mask k _ _ (Vu _ (P0 _))
noncomputable def f (mask i:Nat):Nat:=(i*5+1)%(mask+1)
def fk(mask:Nat):Nat->Nat->Nat
 |0,i=>i
 |n+1,i=>fk mask n (f mask i)
theorem nj(mask:Nat):∀(k i:Nat),lp mask k (i,0)=(fk mask k i,0)
 |0,i=>rfl
 |k+1,i=>by
  change lp mask k (leap mask i 0)=_;have:leap mask i 0=(f mask i,0):=by simp[leap,f]
  rw[this,nj mask k];rfl
theorem ue(mask a:Nat):∀(b i:Nat),fk mask (a+b) i=fk mask b (fk mask a i):=by
 induction a with
 |zero=>intro b i;rw[XV];rfl
 |succ a ih=>intro b i;rw[Nat.succ_add];show ih b _
def Mk(mask:Nat):Prop:=mask=7\/mask=31\/mask=127\/mask=511
def Sq(mask:Nat):Nat->Nat->List Nat
 |0,_=>[]
 |n+1,i=>i::Sq mask n (f mask i)
theorem vB(mask:Nat):∀(n i j:Nat),j∈Sq mask n i->∃k,k<n/\fk mask k i=j
 |0,i,j,h=>by cases h
 |n+1,i,j,h=>by
  rcases Yk.mp h with rfl|h
  ·show⟨0,by lia,rfl⟩
  ·obtain⟨k,hk,e⟩:=vB mask n _ _ h
   show⟨k+1,by lia,e⟩
theorem vC{mask:Nat}(h:Mk mask):(YB (mask+1)).all (λj=>(Sq mask (mask+1) 0).elem j)=true/\fk mask (mask+1) 0=0:=by
 rcases h with rfl|rfl|rfl|rfl<;>show⟨by decide +kernel,by decide +kernel⟩
theorem GU{mask j:Nat}(h:Mk mask)(hj:j<mask+1):∃k,k<mask+1/\fk mask k 0=j:=by
 have:=YW.mp (vC h).1 j (Y1.mpr hj);show vB mask _ _ _ (List.elem_iff.mp this)
theorem ON{mask i j:Nat}(h:Mk mask)(hi:i<mask+1)(hj:j<mask+1):∃k,k<mask+1/\fk mask k i=j:=by
 obtain⟨a,ha,ea⟩:=GU h hi;obtain⟨b,hb,eb⟩:=GU h hj;by_cases gr:a<=b
 ·show⟨b-a,by lia,?_⟩
  rw[←ea,←ue,show a+(b-a)=b by lia,eb]
 ·show⟨b+(mask+1)-a,by lia,?_⟩
  rw[←ea,←ue,show a+(b+(mask+1)-a)=(mask+1)+b by lia,ue,(vC h).2,eb]
theorem meets{mask i d pt j:Nat}(h:Mk mask)(hd:d<=len mask i)(To:pt<2^64)(hj:j<mask+1):∃k,k<10*turns mask/\(it mask k (cq mask i d pt)).j=j:=by
 have e1:=i4 (pt:=pt) hd;obtain⟨c,hc,e2⟩:=BF mask 13 (leap mask i pt).1 (leap mask i pt).2;have hz:(lp mask 13 ((leap mask i pt).1,(leap mask i pt).2)).2=0:=by
  rw[Bl];have:(leap mask i pt).2=pt/32:=rfl;rw[this,Nat.div_div_eq_div_mul];show Nat.div_eq_of_lt (VD To 1e7)
 have hl:(lp mask 13 ((leap mask i pt).1,(leap mask i pt).2)).1<mask+1:=Bm mask 13 _ _ (Vu _ (P0 _));generalize lp mask 13 ((leap mask i pt).1,(leap mask i pt).2)=q at hz hl e2;obtain⟨i2,pt2⟩:=q;dsimp only at hz hl e2;subst hz;obtain⟨k,hk,ek⟩:=ON h hl hj;obtain⟨c2,rF,e3⟩:=BF mask k i2 0;rw[nj,ek]at e3;show⟨(len mask i-d+1)+(c+c2),?_,?_⟩
 ·have:=Bu mask i;ext turns;lia
 ·rw[Hg,e1,Hg,e2,e3];rfl
theorem wR(h:Int):bits h<2^64:=by
 ext bits;have h1:0<=h%(2^64:Int):=Xz _ 1e7;have h2:h%(2^64:Int)<2^64:=Xm _ 1e7;lia
def Wf(mask:Nat)(p:Probe):Prop:=∃i d pt,p=cq mask i d pt/\d<=len mask i/\pt<2^64
theorem Wf.rJ{mask:Nat}{p:Probe}(h:Wf mask p):Wf mask (rJ mask p):=by
 obtain⟨i,d,pt,rfl,hd,hp⟩:=h;by_cases e:d=len mask i
 ·rw[oa e];show⟨_,0,_,rfl,Y4 _,Ur (Nat.div_le_self _ _) hp⟩
 ·rw[uL 1e0];show⟨i,d+1,pt,rfl,by lia,hp⟩
theorem Wf.it{mask:Nat}:∀(n:Nat){p:Probe},Wf mask p->Wf mask (it mask n p)
 |0,p,h=>h
 |n+1,p,h=>Wf.it n h.rJ
theorem Wf.start(mask:Nat)(h:Int):Wf mask (cq mask (bits h%(mask+1)) 0 (bits h)):=⟨_,0,_,rfl,Y4 _,wR h⟩
theorem Wf.meets{mask j:Nat}{p:Probe}(w:Wf mask p)(h:Mk mask)(hj:j<mask+1):∃k,k<10*turns mask/\(Se.it mask k p).j=j:=by
 obtain⟨i,d,pt,rfl,hd,hp⟩:=w;show Se.meets h hd hp hj
theorem Wf.dummy{mask:Nat}{p:Probe}(w:Wf mask p):p.dummy=none:=by obtain⟨i,d,pt,rfl,_⟩:=w;rfl
def aR(xs:Array Nat):Prop:=∀(a b:Nat)(x y:Nat),a<b->xs[a]? = some x->xs[b]? = some y->x<y
theorem j8{xs:Array Nat}{j:Nat}(hr:aR xs):∀(fuel lo hi:Nat),lo<=hi->hi<=xs.size->hi-lo<=fuel->(∀k x,k<lo->xs[k]? = some x->x<j)->(∀k x,hi<=k->xs[k]? = some x->j<=x)->
  (∀k x,k<below.go xs j fuel lo hi->xs[k]? = some x->x<j)/\(∀k x,below.go xs j fuel lo hi<=k->xs[k]? = some x->j<=x)/\below.go xs j fuel lo hi<=xs.size
 |0,lo,hi,h1,h2,h3,ha,hb=>by
  have:hi=lo:=by lia
  subst this;show⟨ha,hb,h2⟩
 |fuel+1,lo,hi,h1,h2,h3,ha,hb=>by
  ext below.go;by_cases bA:lo<hi
  ·rw[if_pos bA]
   have hm:(lo+hi)/2<xs.size:=by lia
   obtain⟨v,hv⟩:∃v,xs[(lo+hi)/2]? = some v:=⟨_,Yh hm⟩
   have hd:xs.getD ((lo+hi)/2) j=v:=by rw[YM,hv];rfl
   sleep 6;rw[hd];by_cases hj:v<j
   ·rw[if_pos hj]
    show j8 hr fuel _ hi 1e0 h2 1e0 (λk x hk hx=>?_) hb;rcases YQ k ((lo+hi)/2)with q|q
    ·show VD (hr k _ x v q hx hv) hj
    ·have:k=(lo+hi)/2:=by lia
     subst this;rw[hv]at hx;cases hx;show hj
   ·rw[if_neg hj]
    show j8 hr fuel lo _ 1e0 1e0 1e0 ha (λk x hk hx=>?_);rcases YQ ((lo+hi)/2) k with q|q
    ·show XI (Ur (Ybp hj) (hr _ k v x q hv hx))
    ·have:k=(lo+hi)/2:=by lia
     subst this;rw[hv]at hx;cases hx;show Ybp hj
  ·rw[if_neg bA]
   have:hi=lo:=by lia
   subst this;show⟨ha,hb,h2⟩
theorem QS{xs:Array Nat}(hr:aR xs)(j:Nat):(∀k x,k<below xs j->xs[k]? = some x->x<j)/\(∀k x,below xs j<=k->xs[k]? = some x->j<=x)/\below xs j<=xs.size:=
 j8 hr _ 0 _ (Y4 _) (Yl _) 1e0 (λk x h=>absurd h (WK _)) (λk x h e=>by rw[YN h]at e;cases e)
theorem below_at{xs:Array Nat}(hr:aR xs){i j:Nat}(e:xs[i]? = some j):below xs j=i:=by
 obtain⟨h1,h2,h3⟩:=QS hr j;rcases VQ (below xs j) i with q|q|q
 ·obtain⟨v,hv⟩:∃v,xs[below xs j]? = some v:=by
   have hi:i<xs.size:=by rcases YQ i xs.size with z|z;show z;rw[YN z]at e;cases e
   show⟨_,Yh 1e0⟩
  have a:=h2 _ _ (Yl _) hv;have b:=hr _ _ _ _ q hv e;lia
 ·show q
 ·have:=h1 i j q e;lia
theorem Rb{t:X7}{i j:Nat}(hr:aR t.place)(e:t.place[i]? = some j):t.slot j=.live i:=by
 ext Rt;rw[below_at hr e];sleep 6;rw[e];simp
theorem lH{t:X7}{i j:Nat}(e:t.slot j=.live i):t.place[i]? = some j:=by
 ext Rt e;dsimp only at e;split at e
 ·rename_i h;cases e;show eq_of_beq h
 ·split at e<;>cases e
theorem has_none(j:Nat):has #[] j=false:=by ext has;simp
theorem xu{t:X7}{j:Nat}(hd:t.dummies=#[])(hn:∀i:Nat,t.place[i]?≠some j):t.slot j=.empty:=by
 ext Rt;sleep 6;rw[if_neg (by simpa using hn _),hd,has_none];simp
theorem yA{t:X7}{j:Nat}(hr:aR t.place)(e:t.slot j=.empty):∀i:Nat,t.place[i]?≠some j:=by
 intro i q;rw[Rb hr q]at e;cases e
theorem xt{t:X7}(hd:t.dummies=#[])(j:Nat):t.slot j≠.dummy:=by
 ext Rt;sleep 6;rw[hd,has_none];split<;>simp
def Vab(t:X7)(hashAt:Nat->Int)(h:Int)(p:Probe)(m:Met):Prop:=
 ∃n,(∀k,k<n->∃i,t.slot (it t.mask k p).j=.live i/\hashAt i≠h)/\
  ((m=.empty (it t.mask n p).j none/\t.slot (it t.mask n p).j=.empty)\/∃i,m=.candidate (it t.mask n p).j i (it t.mask (n+1) p)/\t.slot (it t.mask n p).j=.live i/\hashAt i=h)
theorem wG{t:X7}{hashAt:Nat->Int}{h:Int}(hd:t.dummies=#[]):∀(fuel:Nat)(p:Probe),Wf t.mask p->(∃k,k<fuel/\t.slot (it t.mask k p).j=.empty)->∃m,probe.go t hashAt h fuel p=some m/\Vab t hashAt h p m
 |0,p,_,hk=>by obtain⟨k,hk,_⟩:=hk;show absurd hk (WK _)
 |fuel+1,p,w,hk=>by
  ext probe.go;cases e:t.slot p.j with
  |empty=>show⟨_,rfl,0,λk hk=>absurd hk (WK _),.inl ⟨by rw[w.dummy];rfl,e⟩⟩
  |dummy=>show absurd e (xt hd _)
  |live i=>
   sleep 6;by_cases q:(hashAt i==h)=true
   ·rw[if_pos q]
    show⟨_,rfl,0,λk hk=>absurd hk (WK _),.inr ⟨i,?_,e,eq_of_beq q⟩⟩;rw[Df];rfl
   ·rw[if_neg q,Df]
    obtain⟨k,hk,ek⟩:=hk;have k0:k≠0:=by rintro rfl;rw[show(it t.mask 0 p).j=p.j from rfl,e]at ek;cases ek
    obtain⟨k,rfl⟩:∃k',k=k'+1:=⟨k-1,by lia⟩
    obtain⟨m,em,n,h1,h2⟩:=wG hd fuel (rJ t.mask p) w.rJ ⟨k,by lia,ek⟩;show⟨m,em,n+1,λk hk=>?_,h2⟩;cases k with
    |zero=>show⟨i,e,by simpa using q⟩
    |succ k=>show h1 k 1e0
theorem A9{α:Type} [BEq α] [LawfulBEq α]:∀(l l':List α),l.Nodup->(∀x∈l,x∈l')->l.length<=l'.length
 |[],_,_,_=>Y4 _
 |x::l,l',hn,hs=>by
  obtain⟨h1,h2⟩:=Xg.mp hn;have hx:x∈l':=hs x 6e7;have:=A9 l (l'.erase x) h2 λy hy=>(List.mem_erase_of_ne (by rintro rfl;show h1 hy)).mpr (hs y (.tail _ hy));rw[List.length_erase_of_mem hx]at this;have:=List.length_pos_of_mem hx;simp only[Yu];lia
def start(mask:Nat)(h:Int):Probe:=cq mask (bits h%(mask+1)) 0 (bits h)
structure T0(t:X7)(es:Array (Int×Value)):Prop where
 mm:Mk t.mask
 dm:t.dummies=#[]
 rs:aR t.place
 sz:t.place.size=es.size
 lt:∀i j:Nat,t.place[i]? = some j->j<t.mask+1
 rc:∀(i j:Nat)(e:Int×Value),t.place[i]? = some j->es[i]? = some e->∃n,(it t.mask n (start t.mask e.1)).j=j/\∀m,m<n->∃i':Nat,t.place[i']? = some (it t.mask m (start t.mask e.1)).j
structure TI(t:X7)(es:Array (Int×Value)):Prop extends T0 t es where
 fl:es.size*5<t.mask*3
theorem Zdb{xs:Array Nat}(hr:aR xs){M:Nat}(h:∀j,j<M->∃i:Nat,xs[i]? = some j):∀j,j<M->∃i:Nat,j<=i/\xs[i]? = some j
 |0,hj=>by obtain⟨i,e⟩:=h 0 hj;show⟨i,Y4 _,e⟩
 |j+1,hj=>by
  obtain⟨i,hi,e⟩:=Zdb hr h j 1e0;obtain⟨i',e'⟩:=h (j+1) hj;show⟨i',?_,e'⟩;rcases VQ i i' with q|q|q
  ·lia
  ·subst q;rw[e]at e';show absurd (YO e') 1e0
  ·have:=hr _ _ _ _ q e' e;lia
theorem Mk.pos{mask:Nat}(h:Mk mask):7<=mask/\mask<=511/\mask%2=1:=by rcases h with rfl|rfl|rfl|rfl<;>decide
theorem T0.room{t:X7}{es:6e0}(T:T0 t es)(hs:es.size<t.mask+1):∃j,j<t.mask+1/\t.slot j=.empty:=by
 by_cases h:∃j,j<t.mask+1/\∀i:Nat,t.place[i]?≠some j
 ·obtain⟨j,hj,hn⟩:=h;show⟨j,hj,xu T.dm hn⟩
 ·exfalso
  have h':∀j,j<t.mask+1->∃i:Nat,t.place[i]? = some j:=λj hj=>by
   apply Classical.byContradiction;intro q;show h ⟨j,hj,λi e=>q ⟨i,e⟩⟩
  obtain⟨i,hi,e⟩:=Zdb T.rs h' t.mask 1e0;have:i<t.place.size:=by
   rcases YQ i t.place.size with z|z
   ·show z
   ·rw[YN z]at e;cases e
  have:=T.sz;lia
theorem TI.eo{t:X7}{es:6e0}(T:TI t es):es.size<t.mask:=by have:=T.fl;lia
theorem T0.fits{t:X7}{es:6e0}(T:T0 t es)(h:es.size<=t.mask):t.fits es.size=true:=by
 unfold SetTable.fits SetTable.fill;rw[T.dm,T.sz];simpa using h
theorem wq{α:Type}(xs:Array α)(p:Nat)(x:α)(hp:p<=xs.size)(i:Nat):(insertAt xs p x)[i]? = if i<p then xs[i]? else if i=p then some x else xs[i-1]?:=by
 rw[←YY,SetTable.toList_insertAt];have hl:(xs.toList.take p).length=p:=by simp;lia
 by_cases h:i<p
 ·rw[if_pos h,Yo 1e0,XH h,YY]
 ·rw[if_neg h,YE 1e0,hl]
  by_cases e:i=p
  ·subst e;simp
  ·rw[if_neg e]
   obtain⟨k,hk⟩:∃k,i-p=k+1:=⟨i-p-1,by lia⟩
   rw[hk,WE,List.getElem?_drop,YY]
   congr 1;lia
theorem jP{α:Type}(xs:Array α)(p:Nat)(x:α):(insertAt xs p x).size=xs.size+1:=by
 rw[←Xi,SetTable.toList_insertAt];simp only[Yf,Yu,Xo,Xp,Xi];lia
theorem T0.put{t:X7}{es:6e0}(T:T0 t es){h:Int}{x:Value}{n:Nat}(hn:(it t.mask n (start t.mask h)).j<t.mask+1)(hf:t.slot (it t.mask n (start t.mask h)).j=.empty)(hm:∀m,m<n->∃i:Nat,t.place[i]? = some (it t.mask m (start t.mask h)).j):
  ∀t1 p,t.put (it t.mask n (start t.mask h)).j=(t1,p)->p<=es.size/\t1.mask=t.mask/\t1.led=t.led/\T0 t1 (insertAt es p (h,x)):=by
 intro t1 p e;ext SetTable.put e;dsimp only at e;rw[T.dm,has_none]at e;cases e;have fr:=yA T.rs hf;obtain⟨b1,b2,b3⟩:=QS T.rs (it t.mask n (start t.mask h)).j;generalize hj:(it t.mask n (start t.mask h)).j=j at *;generalize hp:below t.place j=p at *;have hpe:p<=es.size:=by rw[←T.sz];show b3
 have pg:=wq t.place p j b3;have eg:=wq es p (h,x) hpe;have old:∀i v:Nat,t.place[i]? = some v->(insertAt t.place p j)[if i<p then i else i+1]? = some v:=λi v e=>by
  rw[pg];by_cases q:i<p
  ·rw[if_pos q,if_pos q];show e
  ·rw[if_neg q,if_neg 1e0,if_neg 1e0];show e
 show⟨hpe,rfl,rfl,⟨T.mm,rfl,?_,?_,?_,?_⟩⟩
 ·intro a b u v gr hu hv
  have hu:(insertAt t.place p j)[a]? = some u:=hu;have hv:(insertAt t.place p j)[b]? = some v:=hv;rw[pg]at hu hv;split at hu
  ·rename_i ha
   split at hv
   ·show T.rs _ _ _ _ gr hu hv
   ·split at hv
    ·cases hv;show b1 _ _ ha hu
    ·have z:=b2 _ _ (show p<=b-1 by lia) hv
     show YC (b1 _ _ ha hu) z
  ·split at hu
   ·cases hu
    rw[if_neg 1e0,if_neg 1e0]at hv;have z:=b2 _ _ (show p<=b-1 by lia) hv;rcases Nat.lt_or_eq_of_le z with q|q
    ·show q
    ·show absurd (q▸hv) (fr _)
   ·rw[if_neg 1e0,if_neg 1e0]at hv
    show T.rs _ _ _ _ 1e0 hu hv
 ·change(insertAt t.place p j).size=_
  rw[jP,jP,T.sz]
 ·intro i v e
  have e:(insertAt t.place p j)[i]? = some v:=e;rw[pg]at e;split at e
  ·show T.lt _ _ e
  ·split at e
   ·cases e;show hn
   ·show T.lt _ _ e
 ·intro i v e hv he
  have hv:(insertAt t.place p j)[i]? = some v:=hv;rw[pg]at hv;rw[eg]at he;have keep:(∃n,(it t.mask n (start t.mask e.1)).j=v/\∀m,m<n->∃i':Nat,t.place[i']? = some (it t.mask m (start t.mask e.1)).j)->
    ∃n,(it t.mask n (start t.mask e.1)).j=v/\∀m,m<n->∃i':Nat,(insertAt t.place p j)[i']? = some (it t.mask m (start t.mask e.1)).j:=
   λ⟨n,h1,h2⟩=>⟨n,h1,λm hm=>let⟨i',q⟩:=h2 m hm;⟨_,old _ _ q⟩⟩
  split at hv
  ·rename_i q
   rw[if_pos q]at he;show keep (T.rc _ _ _ hv he)
  ·rename_i q
   rw[if_neg q]at he;split at hv
   ·rename_i q2
    rw[if_pos q2]at he;cases hv;cases he;show⟨n,hj,λm DB=>let⟨i',q⟩:=hm m DB;⟨_,old _ _ q⟩⟩
   ·rename_i q2
    rw[if_neg q2]at he;show keep (T.rc _ _ _ hv he)
theorem CO{mask i pt j:Nat}(h:Mk mask)(hi:i<mask+1)(To:pt<2^64)(hj:j<mask+1):∃k,k<turns mask/\(lp mask k (i,pt)).1=j:=by
 have hz:(lp mask 13 (i,pt)).2=0:=by
  rw[Bl];show Nat.div_eq_of_lt (VD To 1e7)
 have hl:=Bm mask 13 i pt hi;generalize e:lp mask 13 (i,pt)=q at hz hl;obtain⟨i2,pt2⟩:=q;dsimp only at hz hl;subst hz;obtain⟨k,hk,ek⟩:=ON h hl hj;show⟨13+k,by ext turns;lia,?_⟩;rw[Jc,e,nj];show ek
noncomputable def own (owner:Array (Option Nat))(j:Nat):Option Nat:=owner.getD j (some 0)
theorem wJ{mask:Nat}{owner:Array (Option Nat)}:∀(fuel i pt:Nat),(∃k,k<fuel/\own owner (lp mask k (i,pt)).1=none)->
  ∃j n,layClean.free mask owner fuel i pt=some j/\(it mask n (cq mask i 0 pt)).j=j/\own owner j=none/\∀m,m<n->own owner (it mask m (cq mask i 0 pt)).j≠none
 |0,i,pt,h=>by obtain⟨k,hk,_⟩:=h;show absurd hk (WK _)
 |fuel+1,i,pt,h=>by
  ext layClean.free;have hle:i<=runEnd mask i:=by ext runEnd;split<;>lia
  cases e:(YB (runEnd mask i+1-i)).find? (λk=>(owner.getD (i+k) (some 0)).isNone)with
  |some k=>
   obtain⟨h1,h2,h3⟩:=List.find?_range_eq_some.mp e;have hk:=Y1.mp h2;have hi:=p8 (mask:=mask) (i:=i) (pt:=pt) k 0 (by ext len;lia);show⟨i+k,k,rfl,?_,?_,λm hm q=>?_⟩
   ·rw[hi,XV];rfl
   ·show Option.isNone_iff_eq_none.mp h1
   ·have:=h3 m hm
    rw[p8 m 0 (by ext len;lia),XV]at q;have q:owner.getD (i+m) (some 0)=none:=q;rw[q]at this;simp at this
  |none=>
   have hn:=List.find?_range_eq_none.mp e;obtain⟨k,hk,ek⟩:=h;have k0:k≠0:=by
    rintro rfl;have ek:owner.getD i (some 0)=none:=ek;have:=hn 0 1e0;rw[Nat.add_zero,ek]at this;simp at this
   obtain⟨k,rfl⟩:∃k',k=k'+1:=⟨k-1,by lia⟩
   obtain⟨j,n,h1,h2,h3,h4⟩:=wJ fuel (leap mask i pt).1 (leap mask i pt).2 ⟨k,by lia,ek⟩;show⟨j,(len mask i-0+1)+n,h1,?_,h3,λm hm=>?_⟩
   ·rw[Hg,i4 (Y4 _)];show h2
   ·by_cases q:m<=len mask i
    ·rw[p8 m 0 1e0,XV]
     have:=hn m (by ext len q;lia);intro z;have z:owner.getD (i+m) (some 0)=none:=z;rw[z]at this;simp at this
    ·obtain⟨m',rfl⟩:∃m',m=(len mask i-0+1)+m':=⟨m-(len mask i+1),by lia⟩
     rw[Hg,i4 (Y4 _)];show h4 m' 1e0
structure OI(mask:Nat)(hs:List Int)(owner:Array (Option Nat)):Prop where
 sz:owner.size=mask+1
 lt:∀j i:Nat,owner[j]? = some (some i)->i<hs.length
 on:∀i,i<hs.length->∃j:Nat,owner[j]? = some (some i)
 inj:∀j j' i:Nat,owner[j]? = some (some i)->owner[j']? = some (some i)->j=j'
 rc:∀(j i:Nat)(h:Int),owner[j]? = some (some i)->hs[i]? = some h->∃n,(it mask n (start mask h)).j=j/\∀m,m<n->∃i':Nat,owner[(it mask m (start mask h)).j]? = some (some i')
theorem pD{owner:Array (Option Nat)}{j:Nat}(hj:j<owner.size)(h:own owner j≠none):∃i:Nat,owner[j]? = some (some i):=by
 ext own h;rw[YM,Yh hj]at h;rw[Yh hj];cases e:owner[j]with
 |none=>rw[e]at h;show absurd rfl h
 |some i=>show⟨i,rfl⟩
theorem AS{owner:Array (Option Nat)}{j:Nat}(h:own owner j=none):j<owner.size/\owner[j]? = some none:=by
 ext own h;rw[YM]at h;rcases YQ j owner.size with q|q
 ·rw[Yh q]at h
  have h:owner[j]=none:=h;show⟨q,by rw[Yh q,h]⟩
 ·rw[YN q]at h;cases h
theorem OI.room{mask:Nat}{hs:List Int}{owner:Array (Option Nat)}(O:OI mask hs owner)(h:hs.length<mask+1):∃j,j<mask+1/\own owner j=none:=by
 apply Classical.byContradiction;intro q;have al:∀j,j<mask+1->∃i:Nat,owner[j]? = some (some i):=λj hj=>pD (by rw[O.sz];show hj) λz=>q ⟨j,hj,z⟩;have g:∀j,j<mask+1->owner[j]? = some (some ((owner.getD j none).getD 0)):=λj hj=>by
  obtain⟨i,e⟩:=al j hj;rw[YM,e];rfl
 have:=A9 ((YB (mask+1)).map λj=>(owner.getD j none).getD 0) (YB hs.length) ?_ ?_
 ·simp at this;lia
 ·show Xq.mpr (Ue (λ{a b} ha hb gr e=>?_) UT)
  have h1:=g a (Y1.mp ha);have h2:=g b (Y1.mp hb);rw[e]at h1;show gr (O.inj _ _ _ h1 h2)
 ·intro x hx
  obtain⟨j,hj,rfl⟩:=Yz.mp hx;show Y1.mpr (O.lt _ _ (g j (Y1.mp hj)))
theorem GD{mask:Nat}{h:Int}(hM:Mk mask)(n:Nat):(it mask n (start mask h)).j<mask+1:=by
 have key:∀n,∃i d pt,it mask n (start mask h)=cq mask i d pt/\d<=len mask i/\i<mask+1:=by
  intro n;induction n with
  |zero=>show⟨_,0,_,rfl,Y4 _,Vu _ (P0 _)⟩
  |succ n ih=>
   obtain⟨i,d,pt,e,hd,hi⟩:=ih;rw[wm,e];by_cases q:d=len mask i
   ·rw[oa q];show⟨_,0,_,rfl,Y4 _,Vu _ (P0 _)⟩
   ·rw[uL 1e0];show⟨i,d+1,pt,rfl,by lia,hi⟩
 obtain⟨i,d,pt,e,hd,hi⟩:=key n;rw[e];change i+d<mask+1;unfold len runEnd at hd;split at hd<;>lia
theorem OI.step{mask:Nat}{hs:List Int}{owner:Array (Option Nat)}(O:OI mask hs owner)(hM:Mk mask)(h:hs.length<mask+1)(hh:Int):
  ∃j,layClean.free mask owner (turns mask) (bits hh%(mask+1)) (bits hh)=some j/\OI mask (hs++[hh]) (owner.setIfInBounds j (some hs.length)):=by
 obtain⟨j0,Oq,e0⟩:=O.room h;obtain⟨k,hk,ek⟩:=CO hM (Vu (bits hh) (P0 mask)) (wR hh) Oq;obtain⟨j,n,h1,h2,h3,h4⟩:=wJ (mask:=mask) (owner:=owner) (turns mask) (bits hh%(mask+1)) (bits hh) ⟨k,hk,by rw[ek];show e0⟩;have h2:(it mask n (start mask hh)).j=j:=h2;obtain⟨hj,hjn⟩:=AS h3;have gs:∀a:Nat,(owner.setIfInBounds j (some hs.length))[a]? = if j=a then some (some hs.length)else owner[a]?:=λa=>by
  rw[Array.getElem?_setIfInBounds];by_cases q:j=a
  ·rw[if_pos q,if_pos q,if_pos hj]
  ·rw[if_neg q,if_neg q]
 have old:∀a i:Nat,owner[a]? = some (some i)->(owner.setIfInBounds j (some hs.length))[a]? = some (some i):=λa i e=>by
  rw[gs,if_neg];show e
  rintro rfl;rw[hjn]at e;cases e
 show⟨j,h1,⟨by simpa using O.sz,λa i e=>?_,λi hi=>?_,λa b i ea eb=>?_,λa i x ea ex=>?_⟩⟩
 ·rw[gs]at e
  split at e
  ·cases e;simp
  ·have:=O.lt _ _ e;simp;lia
 ·by_cases q:i<hs.length
  ·obtain⟨a,e⟩:=O.on i q;show⟨a,old _ _ e⟩
  ·have:i=hs.length:=by simp at hi;lia
   subst this;show⟨j,by rw[gs,if_pos rfl]⟩
 ·rw[gs]at ea eb
  split at ea
  ·rename_i qa
   cases ea;split at eb
   ·rename_i qb;lia
   ·have:=O.lt _ _ eb;lia
  ·split at eb
   ·cases eb;have:=O.lt _ _ ea;lia
   ·show O.inj _ _ _ ea eb
 ·rw[gs]at ea
  split at ea
  ·rename_i qa
   subst qa;cases ea;have:x=hh:=by simpa using ex.symm
   subst this;show⟨n,h2,λm hm=>?_⟩;obtain⟨i',e'⟩:=pD (by rw[O.sz];show GD hM m) (h4 m hm);show⟨i',old _ _ e'⟩
  ·have hl:=O.lt _ _ ea
   rw[Yo hl]at ex;obtain⟨n',q1,q2⟩:=O.rc _ _ _ ea ex;show⟨n',q1,λm hm=>let⟨i',e'⟩:=q2 m hm;⟨i',old _ _ e'⟩⟩
noncomputable def u7 (mask:Nat)(acc:Option (Array (Option Nat)×Nat))(h:Int):Option (Array (Option Nat)×Nat):=do
 let(owner,k) ←acc
 let j ←layClean.free mask owner (turns mask) (bits h%(mask+1)) (bits h)
 pure (owner.setIfInBounds j (some k),k+1)
theorem p3{mask:Nat}(hM:Mk mask)(hashes:Array Int)(h:hashes.size<mask+1):∃owner,layClean mask hashes=some owner/\OI mask hashes.toList owner:=by
 have key:∀(rest pre:List Int)(owner:Array (Option Nat)),OI mask pre owner->pre.length+rest.length<mask+1->∃o',rest.foldl (u7 mask) (some (owner,pre.length))=some (o',pre.length+rest.length)/\OI mask (pre++rest) o':=by
  intro rest;induction rest with
  |nil=>intro pre owner O _;show⟨owner,rfl,by rw[YG];show O⟩
  |cons x rest ih=>
   intro pre owner O hl;simp only[Yu]at hl;obtain⟨j,e,O'⟩:=O.step hM 1e0 x;obtain⟨o',e',O2⟩:=ih (pre++[x]) _ O' 6e3;show⟨o',?_,by rw[List.append_cons];show O2⟩;rw[VG];have:u7 mask (some (owner,pre.length)) x=some (owner.setIfInBounds j (some pre.length),(pre++[x]).length):=by
    ext u7;change(layClean.free mask owner (turns mask) (bits x%(mask+1)) (bits x)).bind _=_;rw[e];simp
   rw[this,e']
   congr 2
   simp;lia
 have O0:OI mask [] (Yca (mask+1) none):=by
  have z:∀j i:Nat,(Yca (mask+1) (none:Option Nat))[j]?≠some (some i):=λj i e=>by
   rw[Array.getElem?_replicate]at e;split at e<;>cases e
  show⟨by simp,λj i e=>absurd e (z _ _),λi hi=>absurd hi (WK _),λj j' i e=>absurd e (z _ _),λj i x e=>absurd e (z _ _)⟩
 obtain⟨o',e',O'⟩:=key hashes.toList [] _ O0 7e6;show⟨o',?_,by simpa using O'⟩;ext layClean;rw[←Array.foldl_toList];change(hashes.toList.foldl (u7 mask) (some (Yca (mask+1) none,0))).map (·.1)=_;have:([]:List Int).length=0:=rfl;rw[this]at e';rw[e'];rfl
theorem Pj:∀(l l':3e9),l.Nodup->l'.Nodup->(∀x,x∈l↔x∈l')->l.Perm l'
 |[],l',_,_,h=>by
  cases l' with
  |nil=>show .nil
  |cons y r=>show absurd ((h y).mpr 6e7) Xr
 |x::l,l',hn,Qn,h=>by
  obtain⟨h1,h2⟩:=Xg.mp hn;have hx:x∈l':=(h x).mp 6e7;show(List.Perm.cons x (Pj l (l'.erase x) h2 (Qn.erase x) λy=>?_)).trans (List.perm_cons_erase hx).symm;rw[Qn.mem_erase_iff];constructor
  ·intro hy;show⟨by rintro rfl;show h1 hy,(h y).mp (.tail _ hy)⟩
  ·rintro⟨q,hy⟩
   show(Yk.mp ((h y).mpr hy)).resolve_left q
theorem qg{α β:Type}(g:α->Option β):∀(l:List α),(∀x∈l,∃y,g x=some y)->∀i:Nat,(l.filterMap g)[i]? = (l[i]?).bind g
 |[],_,i=>by simp
 |x::l,h,i=>by
  obtain⟨y,e⟩:=h x 6e7;rw[List.filterMap_cons_some e];cases i with
  |zero=>simp[e]
  |succ i=>simpa using qg g l (λz hz=>h z (.tail _ hz)) i
noncomputable def live (mask:Nat)(owner:Array (Option Nat)):List (Nat×Nat):=(YB (mask+1)).filterMap λj=>(owner.getD j none).map (j,·)
theorem Bp{mask:Nat}{owner:Array (Option Nat)}(hs:owner.size=mask+1){j i:Nat}:(j,i)∈live mask owner↔owner[j]? = some (some i):=by
 ext live;rw[Vy];constructor
 ·rintro⟨a,ha,e⟩
  obtain⟨b,e1,e2⟩:=XE.mp e;cases e2;rw[YM]at e1;cases q:owner[j]? with
  |none=>rw[q]at e1;cases e1
  |some v=>rw[q]at e1;have e1:v=some i:=e1;rw[e1]
 ·intro e
  have hj:j<mask+1:=by
   rw[←hs];rcases YQ j owner.size with z|z
   ·show z
   ·rw[YN z]at e;cases e
  show⟨j,Y1.mpr hj,by rw[YM,e];rfl⟩
theorem yh(mask:Nat)(owner:Array (Option Nat)):(live mask owner).Pairwise λa b=>a.1<b.1:=by
 ext live;show List.Pairwise.filterMap _ (λa a' h b hb b' rG=>?_) List.pairwise_lt_range;obtain⟨_,_,rfl⟩:=XE.mp hb;obtain⟨_,_,rfl⟩:=XE.mp rG;show h
theorem sI{α:Type}{R:α->α->Prop}{l:List α}(h:l.Pairwise R){a b:Nat}{x y:α}(gr:a<b)(hx:l[a]? = some x)(hy:l[b]? = some y):R x y:=by
 obtain⟨ha,rfl⟩:=Y6.mp hx;obtain⟨hb,rfl⟩:=Y6.mp hy;show W5.mp h a b ha hb gr
theorem EW{mask finger moves:Nat}{led plain:Bool}(hM:Mk mask)(es:6e0)(hs:es.size*5<mask*3):
  ∃t' order,laid mask finger moves led plain (es.map (·.1))=some (t',order)/\(order.filterMap (es[·]?)).size=es.size/\(order.filterMap (es[·]?)).toList.Perm es.toList/\TI t' (order.filterMap (es[·]?))/\t'.mask=mask/\t'.led=led:=by
 obtain⟨owner,e,O⟩:=p3 hM (es.map (·.1)) 6e3;have hlen:(es.map (·.1)).toList.length=es.size:=by simp
 have lm:=@Bp mask owner O.sz;have lr:=yh mask owner;generalize hL:live mask owner=L at lm lr;show⟨_,_,by ext laid;rw[e];rfl,?_⟩;change(((live mask owner).map (·.2)).toArray.filterMap (es[·]?)).size=es.size/\_;have cD:(((YB (mask+1)).filterMap λj=>(owner.getD j none).map (j,·)).map (·.1))=L.map (·.1):=by rw[←hL];rfl
 have hor:(((YB (mask+1)).filterMap λj=>(owner.getD j none).map (j,·)).map (·.2))=L.map (·.2):=by rw[←hL];rfl
 rw[cD,hor,hL];have mZ:(L.map (·.2)).Perm (YB es.size):=by
  show Pj _ _ ?_ UT λx=>?_
  ·show Xq.mpr (Ue (λ{a b} ha hb gr q=>?_) lr)
   obtain⟨a1,a2⟩:=a;obtain⟨b1,b2⟩:=b;have q:a2=b2:=q;subst q;have:=O.inj _ _ _ (lm.mp ha) (lm.mp hb);have gr:a1<b1:=gr;lia
  ·rw[Yz,Y1]
   constructor
   ·rintro⟨⟨a,b⟩,h1,rfl⟩
    have:=O.lt _ _ (lm.mp h1);rw[hlen]at this;show this
   ·intro hx
    obtain⟨j,q⟩:=O.on x (by rw[hlen];show hx);show⟨(j,x),lm.mpr q,rfl⟩
 have jQ:((L.map (·.2)).toArray.filterMap (es[·]?)).toList.Perm es.toList:=by
  rw[Array.toList_filterMap];show(mZ.filterMap _).trans (by rw[filterMap_getElem?_range])
 have hsz:((L.map (·.2)).toArray.filterMap (es[·]?)).size=es.size:=by rw[←Xi,jQ.length_eq,Xi]
 have Oh:L.length=es.size:=by have:=mZ.length_eq;simpa using this
 have eg:∀i:Nat,((L.map (·.2)).toArray.filterMap (es[·]?))[i]? = (L[i]?).bind λp=>es[p.2]?:=λi=>by
  rw[←YY,Array.toList_filterMap];change((L.map (·.2)).filterMap (es[·]?))[i]? = _;rw[qg]
  ·rw[Yy];cases L[i]?<;>rfl
  ·intro x hx
   have hx:=Y1.mp (mZ.mem_iff.mp hx);show⟨_,Yh hx⟩
 have pg:∀i j:Nat,(L.map (·.1)).toArray[i]? = some j->∃k,L[i]? = some (j,k):=λi j q=>by
  rw[X3,Yy]at q;obtain⟨⟨a,k⟩,h1,h2⟩:=XE.mp q;show⟨k,by rw[h1];show congrArg (λz=>some (z,k)) h2⟩
 show⟨hsz,jQ,⟨⟨hM,rfl,?_,?_,?_,?_⟩,?_⟩,rfl,rfl⟩
 ·intro a b x y gr hx hy
  obtain⟨k1,q1⟩:=pg _ _ hx;obtain⟨k2,q2⟩:=pg _ _ hy;show sI lr gr q1 q2
 ·change(L.map (·.1)).toArray.size=_
  rw[hsz];simpa using Oh
 ·intro i j q
  obtain⟨k,q⟩:=pg _ _ q;have:=lm.mp (YH q);change j<mask+1;rw[←O.sz];rcases YQ j owner.size with z|z
  ·show z
  ·rw[YN z]at this;cases this
 ·intro i j x q qx
  obtain⟨k,q⟩:=pg _ _ q;rw[eg,q]at qx;have qx:es[k]? = some x:=qx;have ho:=lm.mp (YH q);obtain⟨n,h1,h2⟩:=O.rc j k x.1 ho (by rw[YY,Array.getElem?_map,qx];rfl);show⟨n,h1,λm hm=>?_⟩;obtain⟨i',q'⟩:=h2 m hm;obtain⟨a,ha,hb⟩:=XM (lm.mpr q');show⟨a,?_⟩;change(L.map (·.1)).toArray[a]? = _;rw[X3,Yy,Ye ha,hb];rfl
 ·change _*5<mask*3
  rw[hsz];show hs
theorem B5{mask n:Nat}(h:Mk mask)(h1:n*5<mask*3)(h2:¬(n+1)*5<mask*3)(h3:n+1<307):Mk (sizeAbove (grown (n+1))-1)/\(n+1)*5<(sizeAbove (grown (n+1))-1)*3:=by
 rcases h with rfl|rfl|rfl|rfl
 ·have:n=4:=by lia
  subst this;show⟨.inr (.inl 1e7),by decide⟩
 ·have:n=18:=by lia
  subst this;show⟨.inr (.inr (.inl 1e7)),by decide⟩
 ·have:n=76:=by lia
  subst this;show⟨.inr (.inr (.inr 1e7)),by decide⟩
 ·lia
section
variable{prog:YF}{w:World}{K:Type} [DecidableEq K]{knd:KeyKind prog w K}{A:Around}{E:1e1}{s:Shared}
theorem ip{v:Value}(n:Nat)(h:UJ v=true):Ybc n v=pure false:=by
 cases v<;>first|(cases n<;>rfl)|(exfalso;revert h;simp[UJ])
theorem fO{M:Model}{β:Type}{J:β->Prop}{ok:Value->Prop}{f:Value->β->Sem (ForInStep β)}
  (step:∀v b(Q:ForInStep β->Shared->Prop),ok v->J b->(∀b',J b'->Q (.yield b') s)->(∀b',J b'->Q (.done b') s)->wpAny M A (f v b) Q E s):
  ∀(xs:2e6)(b:β)(Q:β->Shared->Prop),(∀v∈xs,ok v)->J b->(∀b',J b'->Q b' s)->wpAny M A (forIn xs b f) Q E s
 |[],b,Q,_,j,q=>by rw[List.forIn_nil];show Yc (q b j)
 |v::xs,b,Q,hx,j,q=>by
  rw[Ybz];show Ya (step v b _ (hx v 6e7) j (λb' j'=>fO step xs b' Q (λu z=>hx u (.tail _ z)) j' q) λb' j'=>Yc (q b' j'))
theorem jR{v:Value}(n:Nat)(h:UJ v=true):∃b,hashByValue n v=pure b:=by
 cases v<;>cases n<;>first|show⟨_,rfl⟩|(exfalso;revert h;simp[UJ])
end
section
variable{prog:YF}{w:World}{K:Type} [DecidableEq K]{knd:KeyKind prog w K}{A:Around}{E:1e1}{s:Shared}
theorem T0.AG{t:X7}{es:6e0}(T:T0 t es)(b:Bool):T0 (if b then t else{t with plain:=false}) es:=by
 cases b
 ·show⟨T.mm,T.dm,T.rs,T.sz,T.lt,T.rc⟩
 ·show T
theorem lQ{h:Heap}{a:Addr}{o:Obj}{es:6e0}{ep:Nat}{t:X7}(ho:h.get? a=some o)(hd:o.data=.set es ep t)(kJ:6e0)(t':X7):
  (h.update a (Obj.putSet kJ t')).get? a=some {o with data:=.set kJ (ep+1) t'}:=by
 have q:=Xu (Obj.putSet kJ t') ho (by rw[putSet_of kJ t' hd];rfl);rw[putSet_of kJ t' hd]at q;show q
theorem pA{α:Type}(xs:Array α)(p:Nat)(x:α):(insertAt xs p x).toList.Perm (xs.toList++[x]):=by
 have q:=SetTable.insertAt_perm xs p x;rwa[UE]at q
theorem Bb(t:X7)(b:Bool):(if b then t else{t with plain:=false}).mask=t.mask/\(if b then t else{t with plain:=false}).place=t.place/\(if b then t else{t with plain:=false}).dummies=t.dummies:=by
 cases b<;>show⟨rfl,rfl,rfl⟩
end
end Se
namespace Se
open PySem PySem.Spec
section
variable{prog:YF}{w:World}{A:Around}{R:7e4}{I S:Addr}{fp wr:2e1}{G:Array KW->Array KW->Prop}{n:Nat}{P:Nat->Value->Prop}{Z:Nat->Shared->Prop}{J:Nat->Heap->Prop}
theorem Gv(W:WalksS prog w A.in1 I fp wr G n P Z)(out:S∉fp)
  (add:∀(i:Nat)(v:Value)(s:Shared)(Q:6e1)(E:1e1),i<n->P i v->J i s.heap->(∀b h' tk,XJ S s.heap h'->J (i+1) h'->s.toks<=tk->Q b {s with heap:=h',toks:=tk})->wpAny (model prog w) A.in1 (setAdd S v) Q E s)
  (keep:∀(i:Nat)(h h':Heap),J i h->(∀b o,b∉wr->h.get? b=some o->h'.get? b=some o)->J i h'):
  ∀(m i:Nat)(s:Shared),i+m=n->Z i s->J i s.heap->(∀s',Moved (S::wr) G s s'->J n s'.heap->R (.ok (.ret .none)) s')->
   Wm 1e3 A (.builtin "set.update.loop" ⟨[.ref S,.ref I],[]⟩) R s:=by
 have up:∀b∈wr,b∈S::wr:=λb m=>.tail _ m;intro m;induction m with
 |zero=>
  rintro i s rfl z j r;show XN V2 ?_;rw[Wg WG _];change wpAny 1e3 A.in1 (pyNext (.ref I)>>=_) _ _ s;show Ya (W.done s _ _ z λs' mv=>?_);change wpAny 1e3 A.in1 (ret Xw) _ _ s';show Yc (r s' (mv.mono up) (keep _ _ _ j mv.heap))
 |succ m ih=>
  intro i s e z j r;show XN V2 ?_;rw[Wg WG _];change wpAny 1e3 A.in1 (pyNext (.ref I)>>=_) _ _ s;show Ya (W.item i s _ _ 1e0 z λv s' p z' mv=>?_);change wpAny 1e3 A.in1 (Dl [v] (setAdd S v)>>=_) _ _ s';show Ya (Xf (add i v s' _ _ 1e0 p (keep _ _ _ j mv.heap) λb h' tk sb j' tl=>?_));show Yc ⟨Us WG _,ih (i+1) _ 1e0 (W.frame _ s' _ _ z' tl λc hc o g=>?_) j' λD8 mv2 j2=>?_⟩
  ·rw[sb.2 c (by rintro rfl;show out hc)];show g
  ·show r D8 (Moved.trans W.gtrans ((mv.mono up).then_heap tl λc o hc g=>?_) mv2) j2
   rw[sb.2 c (by rintro rfl;show hc 6e7)];show g
end
theorem HW:Hx (.type "tuple") (.type "set")=pure false:=by rw[V3];kernel_rfl
theorem HX:Hx (.type "tuple") (.type "frozenset")=pure false:=by rw[V3];kernel_rfl
noncomputable abbrev bU (led:Bool):Obj:={cls:=.type "set",dict:=none,data:=.set #[] 0 (.fresh 0 0 led)}
section
variable{prog:YF}{w:World}{A:Around}{E:1e1}{s:Shared}
theorem NX{l D:Addr}{items:Array Value}{J:Nat->Heap->Prop}{led:Bool}{g0:Heap}{P:PySem.Fin->Shared->Prop}(hh:5e9)(src:g0.IsList l items\/g0.IsTuple l items)(hD:D=g0.objs.size)
  (j0:∀h',(∀b o,b<D->g0.get? b=some o->h'.get? b=some o)->h'.get? D=some (bU led)->J 0 h')
  (add:∀(A':Around)(i:Nat)(v:Value)(s:Shared)(Q:6e1)(E:1e1),A'.units<=A.units+4->i<items.size->items[i]? = some v->J i s.heap->(∀b h' tk,XJ D s.heap h'->J (i+1) h'->s.toks<=tk->Q b {s with heap:=h',toks:=tk})->wpAny (model prog w) A' (setAdd D v) Q E s)
  (keep:∀(i:Nat)(h h':Heap),J i h->(∀b o,b≠D+1->h.get? b=some o->h'.get? b=some o)->J i h')
  (hs:s.heap=g0.push (bU led))
  (h:∀h' tk,J items.size h'->(∀b o,b<D->g0.get? b=some o->h'.get? b=some o)->P (.done (.ret .none)) {s with heap:=h',toks:=tk}):
  wpAny 1e3 A (WL.«set.__init__» ⟨[.ref D,.ref l],[]⟩) P E s:=by
 have hgS:s.heap.get? D=some (bU led):=by rw[hs,hD];show Yg _ rfl
 have c9:(XW "list"==XW "dict")=false:=by decide
 have Van:(XW "tuple"==XW "dict")=false:=by decide
 have a1:=PySem.F.sub_list_set;have a2:=PySem.F.sub_list_frozenset;have a3:=HW;have a4:=HX;have hl:l<g0.objs.size:=by rcases src with⟨o,g,_⟩|⟨o,g,_⟩<;>show Yr g
 have hz:s.heap.objs.size=D+1:=by rw[hs,V1,hD]
 have Qp:l<D:=by rw[hD];show hl
 have n1:l≠s.heap.objs.size:=by rw[hz];show Yv (Wn Qp)
 have n2:D∉[s.heap.objs.size,l]:=by
  rw[hz];intro m;rcases Yk.mp m with q|m
  ·show absurd q (Yv (Vo D))
  ·show absurd (Yj.mp m) (XU Qp)
 have n3:∀b:Addr,b<D->b∉[D,s.heap.objs.size]:=λb hb m=>by
  rw[hz]at m;rcases Yk.mp m with q|m
  ·show absurd q (Yv hb)
  ·show absurd (Yj.mp m) (Yv (Wn hb))
 have n4:∀b:Addr,b∉[s.heap.objs.size]->b≠D+1:=λb m q=>m (by rw[hz,q];show .head _);have n5:∀b:Addr,b≠D+1->b∉[s.heap.objs.size]:=λb q m=>q (by rw[hz]at m;show Yj.mp m);have old:∀b o,b<D->g0.get? b=some o->s.heap.get? b=some o:=λb o hb e=>by rw[hs];show Yb _ e
 rcases src with⟨ol,gl,hc,nl,hd⟩|⟨ol,gl,hc,nl,hd⟩
 ·obtain⟨Ss,AX,Nq,sP⟩:=ol
  simp only at hc hd;subst hc hd;have Zf:s.heap.get? l=some ⟨.type "list",AX,.seq items nl,sP⟩:=by rw[hs];show Yb _ gl
  have il:s.heap.IsList l items:=⟨_,Zf,rfl,nl,rfl⟩
  unfold WL.«set.__init__» noKeywords U0;generalize Zb:pyIter=PI
  wp_walk
  subst Zb;show VO il ?_;show Ya (UK ?_)
  show Gv (J:=J) ((Walks.list (by simp[hh]) _ l n1 items).toS) (S:=D) n2 (λi v s Q E hi hv j k=>add _ i v s Q E (by simp[Around.in1]) hi hv j k) (λi h h' j k=>keep i h h' j λb o nb e=>k b o (n5 b nb) e) items.size 0 _ (XV _) ⟨6e4,il.push _⟩ (j0 _ (λb o hb e=>Yb _ (old b o hb e)) (Yb _ hgS)) λs' mv j=>?_;obtain⟨h',g',d',RK,Nm⟩:=s';cases(show g'=s.gens from mv.gens);cases(show d'=s.drawn from mv.drawn);cases(show Nm=s.os from mv.os);change wpAny _ _ _ _ _ _;show Yc ?_;change wpAny 1e3 _ (ret Xw) _ _ _;show Yc (h h' RK j λb o hb e=>mv.heap b o (n3 b hb) (Yb _ (old b o hb e)))
 ·obtain⟨Ss,AX,Nq,sP⟩:=ol
  simp only at hc hd;subst hc hd;have Zf:s.heap.get? l=some ⟨.type "tuple",AX,.seq items nl,sP⟩:=by rw[hs];show Yb _ gl
  have il:s.heap.IsTuple l items:=⟨_,Zf,rfl,nl,rfl⟩
  unfold WL.«set.__init__» noKeywords U0;generalize Zb:pyIter=PI
  wp_walk
  subst Zb;show wpAny_pyIter_tuple il ?_;show Ya (UK ?_)
  show Gv (J:=J) ((Walks.tuple (by simp[hh]) _ l n1 items).toS) (S:=D) n2 (λi v s Q E hi hv j k=>add _ i v s Q E (by simp[Around.in1]) hi hv j k) (λi h h' j k=>keep i h h' j λb o nb e=>k b o (n5 b nb) e) items.size 0 _ (XV _) ⟨6e4,il.push _⟩ (j0 _ (λb o hb e=>Yb _ (old b o hb e)) (Yb _ hgS)) λs' mv j=>?_;obtain⟨h',g',d',RK,Nm⟩:=s';cases(show g'=s.gens from mv.gens);cases(show d'=s.drawn from mv.drawn);cases(show Nm=s.os from mv.os);change wpAny _ _ _ _ _ _;show Yc ?_;change wpAny 1e3 _ (ret Xw) _ _ _;show Yc (h h' RK j λb o hb e=>mv.heap b o (n3 b hb) (Yb _ (old b o hb e)))
end
end Se
namespace Pu
open PySem PySem.Spec PyProof.Rows L2
inductive PV where
 |aF|bl (b:Bool)|int (i:Int)|str (x:Str)|tup (xs:List PV)|lst (xs:List PV)|cV (ks vs:List PV)|aG (ks:List (List Key)) (vs:List PV)|fn (a:Addr)|ty (n:String)
noncomputable def kP:Key->PV
 |.inl i=>.int i
 |.inr x=>.str x
def Hz(K:W.Frag)(ι:2e1)(H:Hp)(a:Addr)(vs:List V):Prop:=
 (a∉ι/\Rd H a (.lst vs))\/
  ∃(o:Obj)(aw:Array Value)(n:Nat),K.lookup a=some o/\o.cls=.type "list"/\o.dict=none/\o.data=.seq aw n/\aw.size<=YA/\Vals vs aw.toList
theorem Hz.sq{K:W.Frag}{ι:2e1}{H:Hp}{a:Addr}{vs:List V}(h:Hz K ι H a vs):fy K H a vs:=by
 rcases h with⟨_,h⟩|h
 ·show .inl h
 ·show .inr h
def KZ(H:Hp)(a:Addr)(vs:List V):Prop:=H a=some (.tup vs)
theorem KZ.sq{K:W.Frag}{H:Hp}{a:Addr}{vs:List V}(h:KZ H a vs):kg K H a vs:=.inl (.inl h)
mutual
noncomputable def Rep (K:W.Frag)(ι:2e1)(H:Hp):PV->V->Prop
 |.aF,v=>v=.aF
 |.bl b,v=>v=.bl b
 |.int i,v=>v=.int i
 |.str x,v=>v=.str x/\x.length<=YA
 |.tup ps,v=>∃a vs,v=.ref a/\KZ H a vs/\ae K ι H ps vs
 |.lst ps,v=>∃a vs,v=.ref a/\Hz K ι H a vs/\ae K ι H ps vs
 |.cV ks ps,v=>∃(a:Addr)(qs:6e8)(vs:List V),v=.ref a/\a∉ι/\H a=some (.dK (qs.zip vs))/\qs.length=vs.length/\ks=qs.map kP/\ae K ι H ps vs
 |.aG ks ps,v=>∃(a:Addr)(vs:List V),v=.ref a/\a∉ι/\Rd H a (.dT (ks.zip vs))/\ks.length=vs.length/\ae K ι H ps vs
 |.fn a,v=>v=.ref a
 |.ty n,v=>v=.ty n
noncomputable def ae (K:W.Frag)(ι:2e1)(H:Hp):List PV->List V->Prop
 |[],vs=>vs=[]
 |p::ps,vs=>∃v r,vs=v::r/\Rep K ι H p v/\ae K ι H ps r
end
inductive SV where
 |v (p:PV)|c (k:Nat)
abbrev Cs:=List PV
def bC(K:W.Frag)(ι:2e1)(H:Hp):SV->V->Prop
 |.v p,x=>Rep K ι H p x
 |.c k,x=>∃a,x=.ref a/\ι[k]? = some a
def aU(K:W.Frag)(ι:2e1)(H:Hp):List SV->List V->Prop
 |[],vs=>vs=[]
 |p::ps,vs=>∃v r,vs=v::r/\bC K ι H p v/\aU K ι H ps r
def aX(K:W.Frag)(ι:2e1)(H:Hp)(a:Addr):PV->Prop
 |.lst ps=>∃vs,H a=some (.lst vs)/\ae K ι H ps vs
 |.cV ks ps=>∃(qs:6e8)(vs:List V),H a=some (.dK (qs.zip vs))/\qs.length=vs.length/\ks=qs.map kP/\ae K ι H ps vs
 |.aG ks ps=>∃(vs:List V),H a=some (.dT (ks.zip vs))/\ks.length=vs.length/\ae K ι H ps vs
 |_=>False
structure CR(K:W.Frag)(ι:List Addr)(H:Hp)(C:Cs):Prop where
 len:ι.length=C.length
 nd:ι.Nodup
 ok:∀(k:Nat)(a:Addr)(c:PV),ι[k]? = some a->C[k]? = some c->aX K ι H a c
def Fr(ι:2e1)(H H':Hp):Prop:=∀b o,b∉ι->H b=some o->H' b=some o
theorem Fr.refl{ι:2e1}{H:Hp}:Fr ι H H:=λ_ _ _ h=>h
theorem Fr.trans{ι:2e1}{H H1 H2:Hp}(a:Fr ι H H1)(b:Fr ι H1 H2):Fr ι H H2:=λc o n h=>b c o n (a c o n h)
theorem Fr.new{ι:2e1}{H:Hp}{p:Addr}{o:HO}(h:H p=none):Fr ι H (upd H p o):=λb u _ e=>by rw[bf (gu e h)];show e
section
variable{K:W.Frag}{ι:2e1}{H H':Hp}{C:Cs}
theorem CR.at'(cr:7e7){a:Addr}(h:a∈ι):∃(k:Nat)(c:PV),ι[k]? = some a/\C[k]? = some c/\aX K ι H a c:=by
 obtain⟨k,hk,e⟩:=XM h;have h1:ι[k]? = some a:=by rw[Ye hk,e]
 have hk2:k<C.length:=by rw[←cr.len];show hk
 show⟨k,C[k],h1,Ye hk2,cr.ok k a _ h1 (Ye hk2)⟩
theorem CR.mut(cr:7e7){a:Addr}(h:a∈ι):(∃vs,H a=some (.lst vs))\/(∃ag,H a=some (.dK ag))\/∃ag,H a=some (.dT ag):=by
 obtain⟨k,c,_,_,ok⟩:=cr.at' h;cases c with
 |lst ps=>obtain⟨vs,e,_⟩:=ok;show .inl ⟨vs,e⟩
 |cV ks ps=>obtain⟨qs,vs,e,_⟩:=ok;show .inr (.inl ⟨_,e⟩)
 |aG ks ps=>obtain⟨vs,e,_⟩:=ok;show .inr (.inr ⟨_,e⟩)
 |_=>show ok.elim
theorem CR.vI(cr:7e7){a:Addr}{o:HO}(e:H a=some o)(h1:∀vs,o≠.lst vs)(h2:∀ag,o≠.dK ag)(h3:∀ag,o≠.dT ag:=by intro ag z;cases z):a∉ι:=λh=>by
 rcases cr.mut h with⟨vs,z⟩|⟨ag,z⟩|⟨ag,z⟩
 ·rw[e]at z;show h1 vs (YO z)
 ·rw[e]at z;show h2 ag (YO z)
 ·rw[e]at z;show h3 ag (YO z)
theorem zS(cr:7e7)(fr:Fr ι H H'){a:Addr}{vs:List V}(h:KZ H a vs):KZ H' a vs:=
 fr _ _ (cr.vI h (λ_ e=>nomatch e) λ_ e=>nomatch e) h
theorem Hz.mono(fr:Fr ι H H'){a:Addr}{vs:List V}(h:Hz K ι H a vs):Hz K ι H' a vs:=by
 rcases h with⟨n,h|⟨o,h⟩⟩|h
 ·show .inl ⟨n,.inl (fr _ _ n h)⟩
 ·show .inl ⟨n,.inr ⟨o,fr _ _ n h⟩⟩
 ·show .inr h
theorem mO{a:Addr}{u:HO}(k:∀o,H a=some o->H' a=some o)(h:Rd H a u):Rd H' a u:=by
 rcases h with h|⟨o,h⟩
 ·show .inl (k _ h)
 ·show .inr ⟨o,k _ h⟩
mutual
theorem Rep.mono(cr:7e7)(fr:Fr ι H H'):∀(p:PV)(v:V),Rep K ι H p v->Rep K ι H' p v
 |.aF,v,h=>by unfold Rep at h⊢;show h
 |.bl b,v,h=>by unfold Rep at h⊢;show h
 |.int i,v,h=>by unfold Rep at h⊢;show h
 |.str x,v,h=>by unfold Rep at h⊢;show h
 |.tup ps,v,h=>by
  unfold Rep at h⊢;obtain⟨a,vs,e,sq,r⟩:=h;show⟨a,vs,e,zS cr fr sq,ae.mono cr fr ps vs r⟩
 |.lst ps,v,h=>by
  unfold Rep at h⊢;obtain⟨a,vs,e,sq,r⟩:=h;show⟨a,vs,e,sq.mono fr,ae.mono cr fr ps vs r⟩
 |.cV ks ps,v,h=>by
  unfold Rep at h⊢;obtain⟨a,qs,vs,e,n,hd,hl,hk,r⟩:=h;show⟨a,qs,vs,e,n,fr _ _ n hd,hl,hk,ae.mono cr fr ps vs r⟩
 |.aG ks ps,v,h=>by
  unfold Rep at h⊢;obtain⟨a,vs,e,n,hd,hl,r⟩:=h;show⟨a,vs,e,n,mO (λo e=>fr _ o n e) hd,hl,ae.mono cr fr ps vs r⟩
 |.fn a,v,h=>by unfold Rep at h⊢;show h
 |.ty n,v,h=>by unfold Rep at h⊢;show h
theorem ae.mono(cr:7e7)(fr:Fr ι H H'):∀(ps:List PV)(vs:List V),ae K ι H ps vs->ae K ι H' ps vs
 |[],vs,h=>by unfold ae at h⊢;show h
 |p::ps,vs,h=>by
  unfold ae at h⊢;obtain⟨v,r,e,h1,h2⟩:=h;show⟨v,r,e,Rep.mono cr fr p v h1,ae.mono cr fr ps r h2⟩
end
theorem bC.mono(cr:7e7)(fr:Fr ι H H'){s:SV}{v:V}(h:bC K ι H s v):bC K ι H' s v:=by
 cases s with
 |v p=>show Rep.mono cr fr p v h
 |c k=>show h
mutual
theorem Rep.cW(sm:∀b o,H b=some o->H' b=some o):∀(p:PV)(v:V),Rep K ι H p v->Rep K ι H' p v
 |.aF,v,h=>by unfold Rep at h⊢;show h
 |.bl b,v,h=>by unfold Rep at h⊢;show h
 |.int i,v,h=>by unfold Rep at h⊢;show h
 |.str x,v,h=>by unfold Rep at h⊢;show h
 |.tup ps,v,h=>by
  unfold Rep at h⊢;obtain⟨a,vs,e,sq,r⟩:=h;show⟨a,vs,e,sm _ _ sq,ae.cW sm ps vs r⟩
 |.lst ps,v,h=>by
  unfold Rep at h⊢;obtain⟨a,vs,e,sq,r⟩:=h;show⟨a,vs,e,sq.mono (λb o _ e=>sm b o e),ae.cW sm ps vs r⟩
 |.cV ks ps,v,h=>by
  unfold Rep at h⊢;obtain⟨a,qs,vs,e,n,hd,hl,hk,r⟩:=h;show⟨a,qs,vs,e,n,sm _ _ hd,hl,hk,ae.cW sm ps vs r⟩
 |.aG ks ps,v,h=>by
  unfold Rep at h⊢;obtain⟨a,vs,e,n,hd,hl,r⟩:=h;show⟨a,vs,e,n,mO (λo e=>sm _ o e) hd,hl,ae.cW sm ps vs r⟩
 |.fn a,v,h=>by unfold Rep at h⊢;show h
 |.ty n,v,h=>by unfold Rep at h⊢;show h
theorem ae.cW(sm:∀b o,H b=some o->H' b=some o):∀(ps:List PV)(vs:List V),ae K ι H ps vs->ae K ι H' ps vs
 |[],vs,h=>by unfold ae at h⊢;show h
 |p::ps,vs,h=>by
  unfold ae at h⊢;obtain⟨v,r,e,h1,h2⟩:=h;show⟨v,r,e,Rep.cW sm p v h1,ae.cW sm ps r h2⟩
end
mutual
theorem Rep.cells{ι':2e1}(hs:∀b o,H b=some o->b∉ι->b∉ι'):∀(p:PV)(v:V),Rep K ι H p v->Rep K ι' H p v
 |.aF,v,h=>by unfold Rep at h⊢;show h
 |.bl b,v,h=>by unfold Rep at h⊢;show h
 |.int i,v,h=>by unfold Rep at h⊢;show h
 |.str x,v,h=>by unfold Rep at h⊢;show h
 |.tup ps,v,h=>by
  unfold Rep at h⊢;obtain⟨a,vs,e,sq,r⟩:=h;show⟨a,vs,e,sq,ae.cells hs ps vs r⟩
 |.lst ps,v,h=>by
  unfold Rep at h⊢;obtain⟨a,vs,e,sq,r⟩:=h;show⟨a,vs,e,?_,ae.cells hs ps vs r⟩;rcases sq with⟨n,q|⟨o,q⟩⟩|q
  ·show .inl ⟨hs _ _ q n,.inl q⟩
  ·show .inl ⟨hs _ _ q n,.inr ⟨o,q⟩⟩
  ·show .inr q
 |.cV ks ps,v,h=>by
  unfold Rep at h⊢;obtain⟨a,qs,vs,e,n,hd,hl,hk,r⟩:=h;show⟨a,qs,vs,e,hs _ _ hd n,hd,hl,hk,ae.cells hs ps vs r⟩
 |.aG ks ps,v,h=>by
  unfold Rep at h⊢;obtain⟨a,vs,e,n,hd,hl,r⟩:=h;show⟨a,vs,e,by rcases id hd with q|⟨o,q⟩<;>show hs _ _ q n,hd,hl,ae.cells hs ps vs r⟩
 |.fn a,v,h=>by unfold Rep at h⊢;show h
 |.ty n,v,h=>by unfold Rep at h⊢;show h
theorem ae.cells{ι':2e1}(hs:∀b o,H b=some o->b∉ι->b∉ι'):∀(ps:List PV)(vs:List V),ae K ι H ps vs->ae K ι' H ps vs
 |[],vs,h=>by unfold ae at h⊢;show h
 |p::ps,vs,h=>by
  unfold ae at h⊢;obtain⟨v,r,e,h1,h2⟩:=h;show⟨v,r,e,Rep.cells hs p v h1,ae.cells hs ps r h2⟩
end
theorem ae.nil:ae K ι H [] []:=by ext ae;rfl
theorem ae.cons{p:PV}{v:V}{ps:List PV}{vs:List V}(h:Rep K ι H p v)(t:ae K ι H ps vs):ae K ι H (p::ps) (v::vs):=by ext ae;show⟨v,vs,rfl,h,t⟩
theorem ae.inv{p:PV}{ps:List PV}{vs:List V}(h:ae K ι H (p::ps) vs):∃v r,vs=v::r/\Rep K ι H p v/\ae K ι H ps r:=by ext ae h;show h
theorem ae.fH{vs:List V}(h:ae K ι H [] vs):vs=[]:=by ext ae h;show h
theorem ae.length:∀{ps:List PV}{vs:List V},ae K ι H ps vs->ps.length=vs.length
 |[],vs,h=>by rw[h.fH];rfl
 |p::ps,vs,h=>by obtain⟨v,r,rfl,_,t⟩:=h.inv;rw[Yu,Yu,t.length]
theorem ae.append:∀{ps qs:List PV}{vs ws:List V},ae K ι H ps vs->ae K ι H qs ws->ae K ι H (ps++qs) (vs++ws)
 |[],_,vs,_,h,t=>by rw[h.fH];show t
 |p::ps,_,vs,_,h,t=>by obtain⟨v,r,rfl,h1,h2⟩:=h.inv;show .cons h1 (h2.append t)
theorem ae.get:∀{ps:List PV}{vs:List V}{i:Nat}{p:PV},ae K ι H ps vs->ps[i]? = some p->∃v,vs[i]? = some v/\Rep K ι H p v
 |[],_,_,_,h,e=>by simp at e
 |q::ps,vs,0,p,h,e=>by
  obtain⟨v,r,rfl,h1,h2⟩:=h.inv;simp at e;subst e;show⟨v,rfl,h1⟩
 |q::ps,vs,i+1,p,h,e=>by
  obtain⟨v,r,rfl,h1,h2⟩:=h.inv;obtain⟨w,e1,r1⟩:=h2.get (i:=i) (by simpa using e);show⟨w,by simpa using e1,r1⟩
theorem ae.get':∀{ps:List PV}{vs:List V}{i:Nat}{v:V},ae K ι H ps vs->vs[i]? = some v->∃p,ps[i]? = some p/\Rep K ι H p v:=λ{ps vs i v} h e=>by
 have hi:i<ps.length:=by
  rw[h.length];rcases YQ i vs.length with q|q
  ·show q
  ·rw[YS.mpr q]at e;cases e
 obtain⟨w,e1,r⟩:=h.get (Ye hi);rw[e]at e1;cases e1;show⟨_,Ye hi,r⟩
theorem ae.take:∀{ps:List PV}{vs:List V}(n:Nat),ae K ι H ps vs->ae K ι H (ps.take n) (vs.take n)
 |_,_,0,_=>by simp;show .nil
 |[],vs,n+1,h=>by rw[h.fH];simp;show .nil
 |p::ps,vs,n+1,h=>by obtain⟨v,r,rfl,h1,h2⟩:=h.inv;simp only[WN];show .cons h1 (h2.take n)
theorem ae.drop:∀{ps:List PV}{vs:List V}(n:Nat),ae K ι H ps vs->ae K ι H (ps.drop n) (vs.drop n)
 |_,_,0,h=>by simpa using h
 |[],vs,n+1,h=>by rw[h.fH];simp;show .nil
 |p::ps,vs,n+1,h=>by obtain⟨v,r,rfl,h1,h2⟩:=h.inv;simpa using h2.drop n
theorem ae.set:∀{ps:List PV}{vs:List V}(i:Nat){p:PV}{v:V},ae K ι H ps vs->Rep K ι H p v->ae K ι H (ps.set i p) (vs.set i v)
 |[],vs,i,p,v,h,_=>by rw[h.fH];simp;show .nil
 |q::ps,vs,0,p,v,h,hp=>by obtain⟨w,r,rfl,h1,h2⟩:=h.inv;simp;show .cons hp h2
 |q::ps,vs,i+1,p,v,h,hp=>by obtain⟨w,r,rfl,h1,h2⟩:=h.inv;simp;show .cons h1 (h2.set i hp)
theorem aX.mono(cr:7e7)(fr:Fr ι H H'){a:Addr}{c:PV}(ha:∀o,H a=some o->H' a=some o)(h:aX K ι H a c):aX K ι H' a c:=by
 cases c with
 |lst ps=>obtain⟨vs,e,r⟩:=h;show⟨vs,ha _ e,ae.mono cr fr _ _ r⟩
 |cV ks ps=>obtain⟨qs,vs,e,hl,hk,r⟩:=h;show⟨qs,vs,ha _ e,hl,hk,ae.mono cr fr _ _ r⟩
 |aG ks ps=>obtain⟨vs,e,hl,r⟩:=h;show⟨vs,ha _ e,hl,ae.mono cr fr _ _ r⟩
 |_=>show h.elim
theorem CR.same(cr:7e7)(sm:∀b o,H b=some o->H' b=some o):CR K ι H' C:=
 ⟨cr.len,cr.nd,λk a c h1 h2=>(cr.ok k a c h1 h2).mono cr (λb o _ e=>sm b o e) λo e=>sm a o e⟩
theorem CR.new(cr:7e7){p:Addr}{o:HO}(h:H p=none):CR K ι (upd H p o) C:=cr.same λb u e=>by rw[bf (gu e h)];show e
theorem CR.put(cr:7e7){k:Nat}{a:Addr}{c:PV}{o:HO}(hk:ι[k]? = some a)(ok:aX K ι (upd H a o) a c):CR K ι (upd H a o) (C.set k c):=by
 have fr:Fr ι H (upd H a o):=λb u n e=>by
  rw[bf (λz=>n (by rw[z];show YH hk))];show e
 show⟨by rw[Uo];show cr.len,cr.nd,λj b d h1 h2=>?_⟩;by_cases hj:j=k
 ·subst hj
  rw[hk]at h1;cases h1;have bA:j<C.length:=by
   rw[←cr.len];rcases YQ j ι.length with q|q
   ·show q
   ·rw[YS.mpr q]at hk;cases hk
  rw[Xd bA]at h2;cases h2;show ok
 ·rw[Y3 (WC hj)]at h2
  show(cr.ok j b d h1 h2).mono cr fr λu e=>?_;have hb:b≠a:=λz=>by
   subst z;have Qs:j<ι.length:=by
    rcases YQ j ι.length with q|q
    ·show q
    ·rw[YS.mpr q]at h1;cases h1
   have nA:k<ι.length:=by
    rcases YQ k ι.length with q|q
    ·show q
    ·rw[YS.mpr q]at hk;cases hk
   have e1:=(Y6.mp h1).2;have e2:=(Y6.mp hk).2;show hj ((UR cr.nd).mp (e1.trans e2.symm))
  rw[bf hb];show e
theorem M3{p:Addr}(hp:H p=none):∀b u,H b=some u->b∉ι->b∉ι++[p]:=λb u e n z=>by
 rcases Ym.mp z with z|z
 ·show n z
 ·show gu e hp (by simpa using z)
theorem gL(cr:7e7){p:Addr}{o:HO}(hp:H p=none)(q:List PV)(v:List V)(r:ae K ι H q v):ae K (ι++[p]) (upd H p o) q v:=by
 show ae.cW (λb u e=>by rw[bf (gu e hp)];show e) q v (ae.cells (ι':=ι++[p]) (M3 hp) q v r)
theorem CR.add(cr:7e7){p:Addr}{c:PV}{o:HO}(hp:H p=none)(ok:aX K (ι++[p]) (upd H p o) p c):CR K (ι++[p]) (upd H p o) (C++[c]):=by
 have hni:p∉ι:=λz=>by
  rcases cr.mut z with⟨vs,e⟩|⟨ag,e⟩|⟨ag,e⟩
  ·rw[hp]at e;cases e
  ·rw[hp]at e;cases e
  ·rw[hp]at e;cases e
 have hc:∀b u,(upd H p o) b=some u->b∉ι->b≠p->b∉ι++[p]:=λb u _ n1 n2 z=>by
  rcases Ym.mp z with z|z
  ·show n1 z
  ·show n2 (by simpa using z)
 have up:∀b u,H b=some u->(upd H p o) b=some u:=λb u e=>by rw[bf (gu e hp)];show e
 have lift:∀(b:Addr)(d:PV),aX K ι H b d->aX K (ι++[p]) (upd H p o) b d:=λb d h=>by
  have hs:∀b u,H b=some u->b∉ι->b∉ι++[p]:=λb u e n=>hc b u (up b u e) n (gu e hp);have cr':CR K ι (upd H p o) C:=cr.new hp;cases d with
  |lst ps=>
   obtain⟨vs,e,r⟩:=h;show⟨vs,up _ _ e,gL cr hp ps vs r⟩
  |cV ks ps=>
   obtain⟨qs,vs,e,hl,hk,r⟩:=h;show⟨qs,vs,up _ _ e,hl,hk,gL cr hp ps vs r⟩
  |aG ks ps=>
   obtain⟨vs,e,hl,r⟩:=h;show⟨vs,up _ _ e,hl,gL cr hp ps vs r⟩
  |_=>show h.elim
 show⟨by simp[cr.len],?_,λk a d h1 h2=>?_⟩
 ·rw[Xh]
  show⟨cr.nd,by simp,λa ha b hb=>?_⟩;have:b=p:=by simpa using hb
  subst this;show λz=>hni (z▸ha)
 ·rcases YQ k ι.length with hk|hk
  ·rw[Yo hk]at h1
   rw[Yo (by rw[←cr.len];show hk)]at h2;show lift a d (cr.ok k a d h1 h2)
  ·rw[YE hk]at h1
   rw[YE (by rw[←cr.len];show hk)]at h2;rw[←cr.len]at h2;cases hz:k-ι.length with
   |zero=>
    rw[hz]at h1 h2;simp at h1 h2;subst h1 h2;show ok
   |succ j=>rw[hz]at h1;simp at h1
end
end Pu
namespace Pu
open PySem PySem.Spec L2
open PyProof.Rows hiding St
abbrev M(α:Type):=Cs->Option (α×Cs)
noncomputable def ret {α:Type}(a:α):M α:=λC=>some (a,C)
def aI{α β:Type}(x:M α)(f:α->M β):M β:=λC=>match x C with
 |none=>none
 |some (a,C')=>f a C'
noncomputable def dM {α:Type}(g:Cs->Option α):M α:=λC=>match g C with
 |none=>none
 |some a=>some (a,C)
theorem bp{α β:Type}{x:M α}{f:α->M β}{C C2:Cs}{b:β}(h:aI x f C=some (b,C2)):∃a C1,x C=some (a,C1)/\f a C1=some (b,C2):=by
 ext aI h;cases e:x C with
 |none=>rw[e]at h;cases h
 |some p=>obtain⟨a,C1⟩:=p;rw[e]at h;show⟨a,C1,rfl,h⟩
theorem kj{α:Type}{g:Cs->Option α}{C C2:Cs}{b:α}(h:dM g C=some (b,C2)):g C=some b/\C2=C:=by
 ext dM h;cases e:g C with
 |none=>rw[e]at h;cases h
 |some p=>rw[e]at h;cases h;show⟨rfl,rfl⟩
abbrev aq:=List (Option SV)
noncomputable def LO:SV->Option Bool
 |.v (.bl b)=>some b
 |_=>none
def mB(x:SV):M Bool:=dM λ_=>LO x
theorem vR{x:SV}{C C2:Cs}{b:Bool}(h:mB x C=some (b,C2)):x=.v (.bl b)/\C2=C:=by
 obtain⟨h,e⟩:=kj h;show⟨?_,e⟩;cases x with
 |c k=>cases h
 |v p=>cases p<;>first|(cases h;rfl)|cases h
theorem M5{K:W.Frag}{ι:2e1}{H:Hp}{b:Bool}{v:V}(h:bC K ι H (.v (.bl b)) v):v=.bl b:=by unfold bC Rep at h;show h
theorem M4{K:W.Frag}{ι:2e1}{H:Hp}{b:Bool}:bC K ι H (.v (.bl b)) (.bl b):=by unfold bC Rep;rfl
inductive PF where
 |nx (ρ:aq)|rt (r:SV)|bk (ρ:aq)|ct (ρ:aq)|rf (ps:List PV)|rq (qs:List SV)
structure SR(K:W.Frag)(ι:List Addr)(H:Hp)(ρ:aq)(σ:St)(C:Cs):Prop where
 cr:CR K ι H C
 len:ρ.length=σ.length
 loc:∀(i:Nat)(s:SV),ρ[i]? = some (some s)->∃v,σ[i]? = some (some v)/\bC K ι H s v
section
variable{K:W.Frag}{ι:2e1}{H H':Hp}{C C':Cs}{ρ:aq}{σ:St}
theorem SR.step(sr:SR K ι H ρ σ C)(fr:Fr ι H H')(cr:CR K ι H' C'):SR K ι H' ρ σ C':=
 ⟨cr,sr.len,λi s e=>by obtain⟨v,h1,h2⟩:=sr.loc i s e;show⟨v,h1,h2.mono sr.cr fr⟩⟩
theorem SR.set(sr:SR K ι H ρ σ C){s:SV}{v:V}(i:Nat)(r:bC K ι H s v):SR K ι H (ρ.set i (some s)) (σ.set i (some v)) C:=by
 show⟨sr.cr,by simp[sr.len],λj t e=>?_⟩;by_cases hj:i=j
 ·subst hj
  have hi:i<ρ.length:=by
   rcases YQ i ρ.length with q|q
   ·show q
   ·rw[YS.mpr (by simpa using q)]at e;cases e
  rw[Xd hi]at e;cases e;show⟨v,by rw[Xd (by rw[←sr.len];show hi)],r⟩
 ·rw[Y3 hj]at e
  rw[Y3 hj];show sr.loc j t e
end
def tM(K:W.Frag)(f:2e3):TE:=λσ H Q=>∃ι ρ C r C',SR K ι H ρ σ C/\f ρ C=some (r,C')/\∀v H',Fr ι H H'->CR K ι H' C'->bC K ι H' r v->Q v H'
def MJ(K:W.Frag)(f:1e9):TA:=λσ H Q=>∃ι ρ C r C',SR K ι H ρ σ C/\f ρ C=some (r,C')/\∀v H',Fr ι H H'->CR K ι H' C'->aU K ι H' r v->Q v H'
def xq(K:W.Frag)(f:4e1):TT:=λσ H Q=>∃ι ρ C r C',SR K ι H ρ σ C/\f ρ C=some (r,C')/\∀H',Fr ι H H'->CR K ι H' C'->Q r H'
def tMF(K:W.Frag)(f:7e0):TE:=λσ H Q=>∃ι ρ C ps C',SR K ι H ρ σ C/\f ρ C=some (ps,C')/\∀p vs H',Fr ι H H'->CR K ι H' C'->H' p=none->ae K ι H' ps vs->Q (.ref p) (upd H' p (.lst vs))
def EM(X:Cx)(e:Expr)(f:2e3):Prop:=PE X e (tM X.K f)
def AM(X:Cx)(es:3e4)(f:1e9):Prop:=PA X es (MJ X.K f)
def TMt(X:Cx)(e:Expr)(f:4e1):Prop:=PT X e (xq X.K f)
def WM(X:Cx)(e:Expr)(f:4e1):Prop:=PW X e (xq X.K f)
def FM(X:Cx)(e:Expr)(f:7e0):Prop:=PE X e (tMF X.K f)
theorem PE.imp{X:Cx}{e:Expr}{t t':TE}(h:PE X e t)(k:∀σ H Q,t' σ H Q->t σ H Q):PE X e t':=λpins s σ H Q I q=>h pins s σ H Q I (k σ H Q q)
theorem PT.imp{X:Cx}{e:Expr}{t t':TT}(h:PT X e t)(k:∀σ H Q,t' σ H Q->t σ H Q):PT X e t':=λpins s σ H Q I q=>h pins s σ H Q I (k σ H Q q)
theorem PW.imp{X:Cx}{e:Expr}{t t':TT}(h:PW X e t)(k:∀σ H Q,t' σ H Q->t σ H Q):PW X e t':=λwh pins s σ H Q I q=>h wh pins s σ H Q I (k σ H Q q)
theorem PA.imp{X:Cx}{e:3e4}{t t':TA}(h:PA X e t)(k:∀σ H Q,t' σ H Q->t σ H Q):PA X e t':=λpos pins s σ H Q I q=>h pos pins s σ H Q I (k σ H Q q)
theorem PS.imp{X:Cx}{e:Stmt}{t t':TS}(h:PS X e t)(k:∀D σ H,t' D σ H->t D σ H):PS X e t':=λpins s σ H D I q=>h pins s σ H D I (k D σ H q)
theorem kQ.imp{X:Cx}{e:List Stmt}{t t':TS}(h:kQ X e t)(k:∀D σ H,t' D σ H->t D σ H):kQ X e t':=λpins s σ H D I q=>h pins s σ H D I (k D σ H q)
theorem PI.imp{X:Cx}{tg e:Expr}{t t':TI}(h:PI X tg e t)(k:∀σ H Q,t' σ H Q->t σ H Q):PI X tg e t':=λpins s σ H Q I q=>h pins s σ H Q I (k σ H Q q)
section
variable{X:Cx}{a b e c:Expr}{es:3e4}{fa fb fc:2e3}{pos p:Pos}{x:Str}
noncomputable def au (i:Nat):aq->M SV:=λρ C=>match ρ[i]? with
 |some (some s)=>some (s,C)
 |_=>none
noncomputable def mC (p:PV):aq->M SV:=λ_ C=>some (.v p,C)
theorem jZ{v:V}{q:PV}(h:PE X e (tC v))(r:∀ι H,Rep X.K ι H q v):EM X e (mC q):=by
 show PE.imp h λσ H Q h_=>?_;obtain⟨ι,ρ,C,z,C',sr,e,k⟩:=h_;cases e;show k v H .refl sr.cr (r ι H)
def aB(g:Cs->SV->SV->Option SV)(fa fb:2e3):aq->M SV:=λρ=>aI (fa ρ) λx=>aI (fb ρ) λy=>dM λC=>g C x y
def zf(K:W.Frag)(r:R2)(g:Cs->SV->SV->Option SV):Prop:=
 ∀(ι:2e1)(H:Hp)(C:Cs)(x y:SV)(vx vy:V)(z:SV)(Q:VK),CR K ι H C->bC K ι H x vx->bC K ι H y vy->g C x y=some z->(∀v H',Fr ι H H'->CR K ι H' C->bC K ι H' z v->Q v H')->r vx vy H Q
theorem u5{K:W.Frag}{r:R2}{g:Cs->SV->SV->Option SV}(hg:zf K r g){σ:St}{H:Hp}{Q:VK}(h:tM K (aB g fa fb) σ H Q):ME r (tM K fa) (tM K fb) σ H Q:=by
 sleep 8;obtain⟨x,C1,e1,e⟩:=bp e;obtain⟨y,C2,e2,e⟩:=bp e;obtain⟨e3,rfl⟩:=kj e;show⟨ι,ρ,C,x,C1,sr,e1,λvx H1 f1 c1 r1=>⟨ι,ρ,C1,y,C',sr.step f1 c1,e2,λvy H2 f2 c2 r2=>hg ι H2 C' x y vx vy z _ c2 (r1.mono c1 f2) r2 e3 λv H3 f3 c3 r3=>q v H3 (f1.trans (f2.trans f3)) c3 r3⟩⟩
theorem ql{op:Operator}{r:R2}{g:Cs->SV->SV->Option SV}(ho:fX X (V6 op) r)(hg:zf X.K r g)(ha:EM X a fa)(hb:EM X b fb):EM X (.BinOp a op b pos) (aB g fa fb):=
 PE.imp (Gq ho ha hb) λ_ _ _ h=>u5 hg h
theorem G1{r:R2}{g:Cs->SV->SV->Option SV}(hr:zi X r)(hg:zf X.K r g)(ha:EM X a fa)(hb:EM X b fb)(hs:jb b):EM X (.Subscript a b pos) (aB g fa fb):=
 PE.imp (Nl hr ha hb hs) λ_ _ _ h=>u5 hg h
def IY(g g':Cs->SV->SV->Option SV)(fa fb fc:2e3):aq->M SV:=λρ=>aI (fa ρ) λx=>aI (fb ρ) λy=>aI (dM λC=>g C x y) λz=>aI (mB z) λb=>
 if b then aI (fc ρ) λw=>dM λC=>g' C y w else ret (.v (.bl false))
def bz(f:2e3):aq->M Bool:=λρ=>aI (f ρ) mB
theorem DY{K:W.Frag}{f:2e3}{σ:St}{H:Hp}{Q:Bool->Hp->Prop}(h:xq K (bz f) σ H Q):Ge (tM K f) σ H Q:=by
 sleep 8;obtain⟨x,C1,e1,e⟩:=bp e;obtain⟨rfl,rfl⟩:=vR e;show⟨ι,ρ,C,_,C',sr,e1,λv H1 f1 c1 r1=>⟨_,M5 r1,q H1 f1 c1⟩⟩
noncomputable def aM (C:Cs):SV->Option PV
 |.v p=>some p
 |.c k=>C[k]?
noncomputable def HM:PV->Option Bool
 |.aF=>some false
 |.bl b=>some b
 |.int i=>some (i != 0)
 |.str y=>some ((y.length:Int) != 0)
 |.tup xs=>some (!xs.isEmpty)
 |.lst xs=>some (!xs.isEmpty)
 |.cV ks _=>some (!ks.isEmpty)
 |_=>none
def pS(f:2e3):aq->M Bool:=λρ=>aI (f ρ) λx=>dM λC=>(aM C x).bind HM
inductive Lies(K:W.Frag)(ι:List Addr)(H:Hp):PV->V->Prop
 |aF:Lies K ι H .aF .aF
 |bl (b:Bool):Lies K ι H (.bl b) (.bl b)
 |int (i:Int):Lies K ι H (.int i) (.int i)
 |str (x:Str) (h:x.length<=YA):Lies K ι H (.str x) (.str x)
 |tup {a:Addr} {ps:List PV} {vs:List V} (h:KZ H a vs) (r:ae K ι H ps vs):Lies K ι H (.tup ps) (.ref a)
 |lst {a:Addr} {ps:List PV} {vs:List V} (h:fy K H a vs) (r:ae K ι H ps vs):Lies K ι H (.lst ps) (.ref a)
 |cV {a:Addr} {qs:List Key} {ps:List PV} {vs:List V} (h:H a=some (.dK (qs.zip vs))) (hl:qs.length=vs.length) (r:ae K ι H ps vs):Lies K ι H (.cV (qs.map kP) ps) (.ref a)
 |aG {a:Addr} {ks:List (List Key)} {ps:List PV} {vs:List V} (h:Rd H a (.dT (ks.zip vs))) (hl:ks.length=vs.length) (r:ae K ι H ps vs):Lies K ι H (.aG ks ps) (.ref a)
 |fn (a:Addr):Lies K ι H (.fn a) (.ref a)
 |ty (n:String):Lies K ι H (.ty n) (.ty n)
theorem Rep.lies{K:W.Frag}{ι:2e1}{H:Hp}:∀{p:PV}{v:V},Rep K ι H p v->Lies K ι H p v
 |.aF,v,h=>by ext Rep h;subst h;show .aF
 |.bl b,v,h=>by ext Rep h;subst h;show .bl b
 |.int i,v,h=>by ext Rep h;subst h;show .int i
 |.str x,v,h=>by ext Rep h;obtain⟨rfl,h⟩:=h;show .str x h
 |.tup ps,v,h=>by ext Rep h;obtain⟨a,vs,rfl,h,r⟩:=h;show .tup h r
 |.lst ps,v,h=>by ext Rep h;obtain⟨a,vs,rfl,h,r⟩:=h;show .lst h.sq r
 |.cV ks ps,v,h=>by ext Rep h;obtain⟨a,qs,vs,rfl,n,hd,hl,rfl,r⟩:=h;show .cV hd hl r
 |.aG ks ps,v,h=>by ext Rep h;obtain⟨a,vs,rfl,n,hd,hl,r⟩:=h;show .aG hd hl r
 |.fn a,v,h=>by ext Rep h;subst h;show .fn a
 |.ty n,v,h=>by ext Rep h;subst h;show .ty n
theorem bC.lies{K:W.Frag}{ι:2e1}{H:Hp}{C:Cs}(cr:7e7){x:SV}{p:PV}{v:V}(r:bC K ι H x v)(e:aM C x=some p):Lies K ι H p v:=by
 cases x with
 |v q=>cases e;show Rep.lies r
 |c k=>
  obtain⟨a,rfl,hk⟩:=r;have ok:=cr.ok k a p hk e;cases p with
  |lst ps=>obtain⟨vs,h,r⟩:=ok;show .lst (.of h) r
  |cV ks ps=>obtain⟨qs,vs,h,hl,rfl,r⟩:=ok;show .cV h hl r
  |aG ks ps=>obtain⟨vs,h,hl,r⟩:=ok;show .aG (.inl h) hl r
  |_=>show ok.elim
theorem ae.isEmpty{K:W.Frag}{ι:2e1}{H:Hp}{ps:List PV}{vs:List V}(r:ae K ι H ps vs):ps.isEmpty=vs.isEmpty:=by
 have:=r.length;cases ps<;>cases vs<;>simp at this⊢
theorem Lies.tru{K:W.Frag}{ι:2e1}{H:Hp}{p:PV}{v:V}{k:Bool}(l:Lies K ι H p v)(e:HM p=some k):KY K v H k:=by
 cases l with
 |aF=>cases e;rfl
 |bl b=>cases e;rfl
 |int i=>cases e;rfl
 |str x h=>cases e;show⟨h,rfl⟩
 |tup h r=>cases e;show .inr (.inl ⟨_,h.sq,by rw[r.isEmpty]⟩)
 |lst h r=>cases e;show .inl ⟨_,h,by rw[r.isEmpty]⟩
 |@cV a qs ps vs h hl r=>
  cases e;show .inr (.inr ⟨_,h,?_⟩);cases qs<;>cases vs<;>simp at hl⊢
 |aG h hl r=>cases e
 |fn a=>cases e
 |ty n=>cases e
def NA(f:4e1):aq->M Bool:=λρ=>aI (f ρ) λb=>ret (!b)
def cZ(f g:4e1):aq->M Bool:=λρ=>aI (f ρ) λb=>if b then g ρ else ret false
def SF(f g:4e1):aq->M Bool:=λρ=>aI (f ρ) λb=>if b then ret true else g ρ
def lE(f g:2e3):aq->M SV:=λρ=>aI (f ρ) λx=>aI (mB x) λb=>if b then g ρ else ret (.v (.bl false))
def SE(f g:2e3):aq->M SV:=λρ=>aI (f ρ) λx=>aI (mB x) λb=>if b then ret (.v (.bl true))else g ρ
def Nz(f:2e3):aq->M SV:=λρ=>aI (f ρ) λx=>aI (mB x) λb=>ret (.v (.bl !b))
def mIf(t:4e1)(f g:2e3):aq->M SV:=λρ=>aI (t ρ) λb=>if b then f ρ else g ρ
def af:aq->M (List SV):=λ_=>ret []
def aa(f:2e3)(g:1e9):aq->M (List SV):=λρ=>aI (f ρ) λx=>aI (g ρ) λxs=>ret (x::xs)
theorem n6:AM X [] af:=PA.imp AR λσ H Q h_=>by obtain⟨ι,ρ,C,z,C',sr,e,q⟩:=h_;cases e;show q [] H .refl sr.cr rfl
theorem n9{f:2e3}{g:1e9}(h:EM X e f)(k:AM X es g)(hs:1e5:=by rfl):AM X 4e4 (aa f g):=PA.imp (iR h k hs) λσ H Q h=>by
 sleep 8;obtain⟨x,C1,e1,e⟩:=bp e;obtain⟨xs,C2,e2,e⟩:=bp e;cases e;show⟨ι,ρ,C,x,C1,sr,e1,λv H1 f1 c1 r1=>⟨ι,ρ,C1,xs,C',sr.step f1 c1,e2,λvs H2 f2 c2 r2=>q (v::vs) H2 (f1.trans f2) c2 ⟨v,vs,rfl,r1.mono c1 f2,r2⟩⟩⟩
def Dv(K:W.Frag)(r:List V->Hp->VK->Prop)(g:Cs->List SV->Option SV):Prop:=
 ∀(ι:2e1)(H:Hp)(C:Cs)(xs:List SV)(vs:List V)(z:SV)(Q:VK),CR K ι H C->aU K ι H xs vs->g C xs=some z->(∀v H',Fr ι H H'->CR K ι H' C->bC K ι H' z v->Q v H')->r vs H Q
def iZ(g:Cs->List SV->Option SV)(fs:1e9):aq->M SV:=λρ=>aI (fs ρ) λxs=>dM λC=>g C xs
theorem Gf{K:W.Frag}{r:List V->Hp->VK->Prop}{g:Cs->List SV->Option SV}{fs:1e9}(hg:Dv K r g){σ:St}{H:Hp}{Q:VK}(h:tM K (iZ g fs) σ H Q):RX r (MJ K fs) σ H Q:=by
 sleep 8;obtain⟨xs,C1,e1,e⟩:=bp e;obtain⟨e2,rfl⟩:=kj e;show⟨ι,ρ,C,xs,C',sr,e1,λvs H1 f1 c1 r1=>hg ι H1 C' xs vs z _ c1 r1 e2 λv H2 f2 c2 r2=>q v H2 (f1.trans f2) c2 r2⟩
theorem QU{id:String}{r:List V->Hp->VK->Prop}{g:Cs->List SV->Option SV}{fs:1e9}(hc:cL X (.builtin id) r)(hg:Dv X.K r g)(i5:Gl X x)(hm:X.mg x=none)(hv:XB x=some (.builtin id))(ha:AM X 4e4 fs)(hn:x≠"__name__":=by decide)(iF:3e2:=by decide)
  (he:1e5:=by rfl) (cD:2e4:=by rfl):EM X 7e1 (iZ g fs):=
 PE.imp (jC hc i5 hm hv ha hn iF he cD) λ_ _ _ h=>Gf hg h
theorem yG{T:String}{r:List V->Hp->VK->Prop}{g:Cs->List SV->Option SV}{fs:1e9}(hc:cL X (.type T) r)(hg:Dv X.K r g)(i5:Gl X x)(hm:X.mg x=none)(hv:XB x=some (.type T))(ha:AM X 4e4 fs)(hn:x≠"__name__":=by decide)(iF:3e2:=by decide)
  (he:1e5:=by rfl) (cD:2e4:=by rfl):EM X 7e1 (iZ g fs):=
 PE.imp (lz hc i5 hm hv ha hn iF he cD) λ_ _ _ h=>Gf hg h
noncomputable def av (K:W.Frag)(F:List SV->M SV):Sp:=λvs H Q _=>∃ι ss C r C',CR K ι H C/\aU K ι H ss vs/\F ss C=some (r,C')/\∀v H',Fr ι H H'->CR K ι H' C'->bC K ι H' r v->Q v H'
def cb(F:List SV->M SV)(fs:1e9):aq->M SV:=λρ=>aI (fs ρ) F
theorem Fu{k:Nat}{f:Addr}{fd:WD}{ps:4e3}{F:List SV->M SV}{fs:1e9}(G:eY X.prog X.w X.K X.mg X.base om k f fd ps (av X.K F))(hr:b9 k X.A)(hg:Gl X x)(hm:X.mg x=some (.ref f))(hk:Hw X.K (.ref f)=true)(hb:Binds X.K fd ps [])
  (ha:AM X 4e4 fs) (iF:3e2:=by decide) (he:1e5:=by rfl) (cD:2e4:=by rfl):
  EM X 7e1 (cb F fs):=PE.imp (iQ G hr hg hm hk hb .nil vw ha iF he cD) λσ H Q h=>by
 sleep 8;obtain⟨xs,C1,e1,e⟩:=bp e;show⟨ι,ρ,C,xs,C1,sr,e1,λvs H1 f1 c1 r1=>?_⟩;change av X.K F (vs++[]) H1 Q E0;rw[YG];show⟨ι,xs,C1,z,C',c1,r1,e,λv H2 f2 c2 r2=>q v H2 (f1.trans f2) c2 r2⟩
end
def Ex(ι ι2:2e1)(H H':Hp):Prop:=Fr ι H H'/\∀b∈ι2,H b=none
section
variable{K:W.Frag}{ι ι2 ι3 ι':2e1}{H H1 H2 H':Hp}{C C' C1:Cs}{ρ:aq}{σ:St}
mutual
theorem Rep.tr(cr:7e7)(h:∀b o,b∉ι->H b=some o->b∉ι'/\H' b=some o):∀(p:PV)(v:V),Rep K ι H p v->Rep K ι' H' p v
 |.aF,v,q=>by unfold Rep at q⊢;show q
 |.bl b,v,q=>by unfold Rep at q⊢;show q
 |.int i,v,q=>by unfold Rep at q⊢;show q
 |.str x,v,q=>by unfold Rep at q⊢;show q
 |.tup ps,v,q=>by
  unfold Rep at q⊢;obtain⟨a,vs,e,sq,r⟩:=q;show⟨a,vs,e,(h _ _ (cr.vI sq (λ_ e=>nomatch e) λ_ e=>nomatch e) sq).2,ae.tr cr h ps vs r⟩
 |.lst ps,v,q=>by
  unfold Rep at q⊢;obtain⟨a,vs,e,sq,r⟩:=q;show⟨a,vs,e,?_,ae.tr cr h ps vs r⟩;rcases sq with⟨n,z|⟨o,z⟩⟩|z
  ·show .inl ⟨(h _ _ n z).1,.inl (h _ _ n z).2⟩
  ·show .inl ⟨(h _ _ n z).1,.inr ⟨o,(h _ _ n z).2⟩⟩
  ·show .inr z
 |.cV ks ps,v,q=>by
  unfold Rep at q⊢;obtain⟨a,qs,vs,e,n,hd,hl,hk,r⟩:=q;show⟨a,qs,vs,e,(h _ _ n hd).1,(h _ _ n hd).2,hl,hk,ae.tr cr h ps vs r⟩
 |.aG ks ps,v,q=>by
  unfold Rep at q⊢;obtain⟨a,vs,e,n,hd,hl,r⟩:=q;show⟨a,vs,e,by rcases id hd with q|⟨o,q⟩<;>show(h _ _ n q).1,mO (λo q=>(h _ o n q).2) hd,hl,ae.tr cr h ps vs r⟩
 |.fn a,v,q=>by unfold Rep at q⊢;show q
 |.ty n,v,q=>by unfold Rep at q⊢;show q
theorem ae.tr(cr:7e7)(h:∀b o,b∉ι->H b=some o->b∉ι'/\H' b=some o):∀(ps:List PV)(vs:List V),ae K ι H ps vs->ae K ι' H' ps vs
 |[],vs,q=>by unfold ae at q⊢;show q
 |p::ps,vs,q=>by
  unfold ae at q⊢;obtain⟨v,r,e,h1,h2⟩:=q;show⟨v,r,e,Rep.tr cr h p v h1,ae.tr cr h ps r h2⟩
end
theorem Ex.fr(f:Fr ι H H'):Ex ι [] H H':=⟨f,λ_ z=>nomatch z⟩
theorem Ex.out(x:Ex ι ι2 H H'):∀b o,b∉ι->H b=some o->b∉ι++ι2/\H' b=some o:=λb o n e=>by
 show⟨λz=>?_,x.1 b o n e⟩;rcases Ym.mp z with z|z
 ·show n z
 ·rw[x.2 b z]at e;cases e
theorem Ex.trans(c:CR K 6e5 H1 C1)(x:Ex ι ι2 H H1)(y:Ex 6e5 ι3 H1 H2):Ex ι (ι2++ι3) H H2:=by
 show⟨λb o n e=>(y.out b o (x.out b o n e).1 (x.out b o n e).2).2,λb hb=>?_⟩;rcases Ym.mp hb with hb|hb
 ·show x.2 b hb
 ·cases e:H b with
  |none=>rfl
  |some o=>
   by_cases n:b∈ι
   ·rcases c.mut (Y2 _ n)with⟨vs,z⟩|⟨vs,z⟩|⟨vs,z⟩
    ·rw[y.2 b hb]at z;cases z
    ·rw[y.2 b hb]at z;cases z
    ·rw[y.2 b hb]at z;cases z
   ·have:=x.1 b o n e
    rw[y.2 b hb]at this;cases this
theorem bC.ex(cr:7e7)(x:Ex ι ι2 H H'){s:SV}{v:V}(r:bC K ι H s v):bC K 6e5 H' s v:=by
 cases s with
 |v p=>show Rep.tr cr x.out p v r
 |c k=>
  obtain⟨a,e,hk⟩:=r;show⟨a,e,?_⟩;have hl:k<ι.length:=by
   rcases YQ k ι.length with q|q
   ·show q
   ·rw[YS.mpr q]at hk;cases hk
  rw[Yo hl];show hk
theorem SR.ex(sr:SR K ι H ρ σ C)(x:Ex ι ι2 H H')(c:CR K 6e5 H' C'):SR K 6e5 H' ρ σ C':=
 ⟨c,sr.len,λi s e=>by obtain⟨v,h1,h2⟩:=sr.loc i s e;show⟨v,h1,h2.ex sr.cr x⟩⟩
end
theorem aU.length{K:W.Frag}{ι:2e1}{H:Hp}:∀{ss:List SV}{vs:List V},aU K ι H ss vs->ss.length=vs.length
 |[],vs,h=>by rw[show vs=[]from h];rfl
 |s::ss,vs,h=>by obtain⟨v,r,rfl,_,t⟩:=h;rw[Yu,Yu,aU.length t]
def Done(K:W.Frag)(ι:2e1)(H:Hp)(D:Ends)(C':Cs):PF->Prop
 |.nx ρ=>∀ι2 σ' H',Ex ι ι2 H H'->SR K 6e5 H' ρ σ' C'->D.nx σ' H'
 |.rt r=>∀ι2 v H',Ex ι ι2 H H'->CR K 6e5 H' C'->bC K 6e5 H' r v->D.rt v H'
 |.bk ρ=>∀ι2 σ' H',Ex ι ι2 H H'->SR K 6e5 H' ρ σ' C'->D.bk σ' H'
 |.ct ρ=>∀ι2 σ' H',Ex ι ι2 H H'->SR K 6e5 H' ρ σ' C'->D.ct σ' H'
 |.rf ps=>∀ι2 p vs H',Ex ι ι2 H H'->CR K 6e5 H' C'->H' p=none->ae K 6e5 H' ps vs->D.rt (.ref p) (upd H' p (.lst vs))
 |.rq qs=>∀ι2 p vs H',Ex ι ι2 H H'->CR K 6e5 H' C'->H' p=none->aU K 6e5 H' qs vs->D.rt (.ref p) (upd H' p (.tup vs))
def RS(K:W.Frag)(f:7e3):TS:=λD σ H=>∃ι ρ C fl C',SR K ι H ρ σ C/\f ρ C=some (fl,C')/\Done K ι H D C' fl
def SM(X:Cx)(st:Stmt)(f:7e3):Prop:=PS X st (RS X.K f)
def BM(X:Cx)(zr:List Stmt)(f:7e3):Prop:=kQ X zr (RS X.K f)
section
variable{K:W.Frag}{ι ι2:2e1}{H H':Hp}{C C' C1:Cs}{ρ:aq}{σ:St}{D:Ends}{fl:PF}
theorem Done.tr(c:CR K 6e5 H' C1)(x:Ex ι ι2 H H')(d:Done K ι H D C' fl):Done K 6e5 H' D C' fl:=by
 cases fl with
 |nx ρ=>intro ι3 σ' H2 y sr;rw[Yd]at sr;show d _ σ' H2 (x.trans c y) sr
 |rt r=>intro ι3 v H2 y cr rr;rw[Yd]at cr rr;show d _ v H2 (x.trans c y) cr rr
 |bk ρ=>intro ι3 σ' H2 y sr;rw[Yd]at sr;show d _ σ' H2 (x.trans c y) sr
 |ct ρ=>intro ι3 σ' H2 y sr;rw[Yd]at sr;show d _ σ' H2 (x.trans c y) sr
 |rf ps=>intro ι3 p vs H2 y cr hp rs;rw[Yd]at cr rs;show d _ p vs H2 (x.trans c y) cr hp rs
 |rq ps=>intro ι3 p vs H2 y cr hp rs;rw[Yd]at cr rs;show d _ p vs H2 (x.trans c y) cr hp rs
theorem Done.fr(c:CR K ι H' C1)(f:Fr ι H H')(d:Done K ι H D C' fl):Done K ι H' D C' fl:=by
 have:=Done.tr (ι2:=[]) (by rw[YG];show c) (Ex.fr f) d;rw[YG]at this;show this
theorem Done.IJ(sr:SR K ι H ρ σ C')(d:Done K ι H D C' (.nx ρ)):D.nx σ H:=d [] σ H (Ex.fr .refl) (by rw[YG];show sr)
end
section
variable{X:Cx}{a b e c tg:Expr}{es:3e4}{st:Stmt}{rest zr HY:List Stmt}{f g:7e3}{pos p pos':Pos}{x:Str}
def dz:aq->M PF:=λρ=>ret (.nx ρ)
def aA(f g:7e3):aq->M PF:=λρ=>aI (f ρ) λfl=>match fl with
 |.nx ρ'=>g ρ'
 |fl=>ret fl
def ft(t:4e1)(f g:7e3):aq->M PF:=λρ=>aI (t ρ) λb=>if b then f ρ else g ρ
def eM(f:2e3):aq->M PF:=λρ=>aI (f ρ) λr=>ret (.rt r)
def cY(f:7e0):aq->M PF:=λρ=>aI (f ρ) λr=>ret (.rf r)
def vN(fs:1e9):aq->M PF:=λρ=>aI (fs ρ) λxs=>if xs.length<=1000 then ret (.rq xs)else λ_=>none
def b7(f:2e3):aq->M PF:=λρ=>aI (f ρ) λ_=>ret (.nx ρ)
def a8(i:Nat)(f:2e3):aq->M PF:=λρ=>aI (f ρ) λr=>ret (.nx (ρ.set i (some r)))
def dO(i:Nat)(f:7e0):aq->M PF:=λρ=>aI (f ρ) λps=>λC=>some (.nx (ρ.set i (some 9e7)),C++[.lst ps])
theorem A7{K:W.Frag}{ι:2e1}{H H':Hp}{ρ:aq}{σ:St}{C C1:Cs}{D:Ends}{i:Nat}{ps:List PV}{q:Addr}{vs:List V}(sr:SR K ι H ρ σ C)(d:Done K ι H D (C1++[.lst ps]) (.nx (ρ.set i (some (.c C1.length)))))
  (f1:Fr ι H H') (c1:CR K ι H' C1) (hq:H' q=none) (rs:ae K ι H' ps vs):D.nx (σ.set i (some (.ref q))) (upd H' q (.lst vs)):=by
 have c2:CR K (ι++[q]) (upd H' q (.lst vs)) (C1++[.lst ps]):=c1.add hq ⟨vs,fP,gL c1 hq ps vs rs⟩;have x:Ex ι [q] H (upd H' q (.lst vs)):=⟨f1.trans (Fr.new hq),λb hb=>by
  have:b=q:=by simpa using hb
  subst this;cases e:H b with
  |none=>rfl
  |some o=>
   by_cases n:b∈ι
   ·rcases c1.mut n with⟨vs,z⟩|⟨vs,z⟩|⟨vs,z⟩
    ·rw[hq]at z;cases z
    ·rw[hq]at z;cases z
    ·rw[hq]at z;cases z
   ·have:=f1 b o n e;rw[hq]at this;cases this⟩
 show d [q] _ _ x ((sr.ex x c2).set i ⟨q,rfl,?_⟩);rw[←c1.len];simp
noncomputable def plain:List SV->Option 3e0
 |[]=>some []
 |.v p::r=>(plain r).map (p::·)
 |.c _::_=>none
theorem PC{K:W.Frag}{ι:2e1}{H:Hp}:∀{xs:List SV}{ps:List PV}{vs:List V},plain xs=some ps->aU K ι H xs vs->ae K ι H ps vs/\vs.length=xs.length
 |[],ps,vs,e,r=>by cases e;rw[show vs=[]from r];show⟨.nil,rfl⟩
 |.v p::xs,ps,vs,e,r=>by
  obtain⟨v,w,rfl,h1,h2⟩:=r;ext plain e;cases h:plain xs with
  |none=>rw[h]at e;cases e
  |some qs=>
   rw[h]at e;cases e;show⟨.cons h1 (PC h h2).1,by rw[Yu,Yu,(PC h h2).2]⟩
 |.c _::_,ps,vs,e,r=>by cases e
theorem wg{n:Nat}(h:n<=1000):n<=sizeLine:=Xb h (by rw[YZ];decide)
def a7(fs:1e9):aq->M SV:=λρ=>aI (fs ρ) λxs=>dM λ_=>if xs.length<=1000 then(plain xs).map λps=>.v (.tup ps)else none
def dg(fs:1e9):aq->M 3e0:=λρ=>aI (fs ρ) λxs=>dM λ_=>if xs.length<=1000 then plain xs else none
theorem B8{fs:1e9}(h:AM X es fs):FM X (.List es pos) (dg fs):=PE.imp (Iw h) λσ H Q h_=>by
 sleep 5;obtain⟨xs,C1,e1,e⟩:=bp e;obtain⟨e2,rfl⟩:=kj e;show⟨ι,ρ,C,xs,_,sr,e1,λvs H1 f1 c1 r1=>?_⟩;by_cases hl:xs.length<=1000
 ·rw[if_pos hl]at e2
  obtain⟨rs,hv⟩:=PC e2 r1;show⟨by rw[hv];show wg hl,λq' hq=>q q' vs H1 f1 c1 hq rs⟩
 ·rw[if_neg hl]at e2;cases e2
def bF(f:7e0):aq->M SV:=λρ=>aI (f ρ) λps=>ret (.v 9e5)
theorem Pk{K:W.Frag}{ι:2e1}{H:Hp}{C:Cs}{ps:List PV}{q:Addr}{vs:List V}(c1:7e7)(hq:H q=none)(rs:ae K ι H ps vs):Rep K ι (upd H q (.lst vs)) 9e5 (.ref q):=by
 ext Rep;show⟨q,vs,rfl,.inl ⟨λz=>?_,.inl fP⟩,ae.cW (λb o e=>by rw[bf (gu e hq)];show e) ps vs rs⟩;rcases c1.mut z with⟨_,e⟩|⟨_,e⟩|⟨_,e⟩
 ·rw[hq]at e;cases e
 ·rw[hq]at e;cases e
 ·rw[hq]at e;cases e
noncomputable def zV (K:W.Frag)(g:2e7):TG:=λv σ H Q=>∃ι ρ C p ρ',SR K ι H ρ σ C/\Rep K ι H p v/\g p ρ=some ρ'/\∀σ',SR K ι H ρ' σ' C->Q σ' H
noncomputable def RT (K:W.Frag)(g:List PV->aq->Option aq):F1:=λv σ H Q=>∃ι ρ C p ρ',SR K ι H ρ σ C/\ae K ι H p v/\g p ρ=some ρ'/\∀σ',SR K ι H ρ' σ' C->Q σ' H
def GM(X:Cx)(tg:Expr)(g:2e7):Prop:=PG X tg (zV X.K g)
def GMs(X:Cx)(ts:3e4)(g:List PV->aq->Option aq):Prop:=DO X ts (RT X.K g)
theorem PG.imp{t t':TG}(h:PG X tg t)(k:∀v σ H Q,t' v σ H Q->t v σ H Q):PG X tg t':=λpins s σ H v u Q I r q=>h pins s σ H v u Q I r (k v σ H Q q)
theorem DO.imp{t t':F1}(h:DO X es t)(k:∀v σ H Q,t' v σ H Q->t v σ H Q):DO X es t':=λpins s σ H v u Q I r q=>h pins s σ H v u Q I r (k v σ H Q q)
noncomputable def hName (i:Nat):PV->aq->Option aq:=λp ρ=>some (ρ.set i (some (.v p)))
noncomputable def nF:List PV->aq->Option aq
 |[],ρ=>some ρ
 |_::_,_=>none
noncomputable def da (g:2e7)(gs:List PV->aq->Option aq):List PV->aq->Option aq
 |[],_=>none
 |p::ps,ρ=>(g p ρ).bind λρ'=>gs ps ρ'
noncomputable def nE (gs:List PV->aq->Option aq)(n:Nat):PV->aq->Option aq
 |.tup ps,ρ=>if ps.length=n then gs ps ρ else none
 |_,_=>none
def ER(f:2e3)(g:2e7):aq->M PF:=λρ=>aI (f ρ) λr=>match r with
 |.v p=>λC=>(g p ρ).map λρ'=>(.nx ρ',C)
 |.c _=>λ_=>none
end
structure Iter(K:W.Frag)(ι:List Addr)(H1:Hp)(xs:List PV)(J:It):Prop where
 go:∀ι2 H2 C2,Ex ι ι2 H1 H2->CR K 6e5 H2 C2->∀i,i<xs.length->J.go i H2
 uY:∀ι2 H2 C2,Ex ι ι2 H1 H2->CR K 6e5 H2 C2->∀i v H3,i<xs.length->J.uY i H2 v H3->(∀b o,H2 b=some o->H3 b=some o)/\∃p,xs[i]? = some p/\Rep K 6e5 H3 p v
 stop:∀ι2 H2 C2,Ex ι ι2 H1 H2->CR K 6e5 H2 C2->J.stop xs.length H2
def MI(K:W.Frag)(f:7e0):TI:=λσ H R=>∃ι ρ C xs C',SR K ι H ρ σ C/\f ρ C=some (xs,C')/\∀J H1,Fr ι H H1->CR K ι H1 C'->Iter K ι H1 xs J->R J H1
def IM(X:Cx)(tg iter:Expr)(f:7e0):Prop:=PI X tg iter (MI X.K f)
section
variable{X:Cx}{e tg iter elt:Expr}{es:3e4}{body:List Stmt}{f:7e3}{pos p:Pos}{x:Str}
def loop(g:2e7)(f:7e3):List PV->aq->M PF
 |[],ρ=>ret (.nx ρ)
 |x::xs,ρ=>match g x ρ with
  |none=>λ_=>none
  |some ρ1=>aI (f ρ1) λfl=>match fl with
   |.nx ρ2=>loop g f xs ρ2
   |.ct ρ2=>loop g f xs ρ2
   |.bk ρ2=>ret (.nx ρ2)
   |.rt r=>ret (.rt r)
   |.rf ps=>ret (.rf ps)
   |.rq ps=>ret (.rq ps)
def bO(it:7e0)(g:2e7)(f:7e3):aq->M PF:=λρ=>aI (it ρ) λxs=>loop g f xs ρ
noncomputable def cX (vs:4e3)(fr:3e9)(ρ:aq):aq:=vs.map (λ_=>none)++fr.map λi=>(ρ[i]?).join
def fZ(g:2e7)(tt:4e1)(te:2e3):List PV->aq->List PV->M 3e0
 |[],_,ys=>ret ys
 |x::xs,ρ,ys=>match g x ρ with
  |none=>λ_=>none
  |some ρ1=>aI (tt ρ1) λb=>if b then aI (te ρ1) λy=>match y with
    |.v p=>fZ g tt te xs ρ1 (ys++[p])
    |.c _=>λ_=>none
   else fZ g tt te xs ρ1 ys
def bW(it:7e0)(vs:4e3)(fr:3e9)(g:2e7)(tt:4e1)(te:2e3):aq->M 3e0:=λρ=>aI (it ρ) λxs=>if xs.length<=100000 then fZ g tt te xs (cX vs fr ρ) []else λ_=>none
theorem SR.block{K:W.Frag}{ι:2e1}{H:Hp}{ρ:aq}{σ:St}{C:Cs}(sr:SR K ι H ρ σ C)(vs:4e3)(fr:3e9):SR K ι H (cX vs fr ρ) (iB vs fr σ) C:=by
 show⟨sr.cr,by simp[cX,iB],λi s e=>?_⟩;ext cX e;ext iB;rcases YQ i vs.length with h|h
 ·rw[Yo 7e6]at e
  simp at e
 ·rw[YE 7e6]at e
  rw[YE 7e6];simp only[Yi,Yy]at e⊢;cases hj:fr[i-vs.length]? with
  |none=>rw[hj]at e;cases e
  |some j=>
   rw[hj]at e;have e':(ρ[j]?).join=some s:=by simpa using e
   have e2:ρ[j]? = some (some s):=by
    cases hr:ρ[j]? with
    |none=>rw[hr]at e';cases e'
    |some o=>rw[hr]at e';simp at e';rw[e']
   obtain⟨v,h1,h2⟩:=sr.loc j s e2;show⟨v,?_,h2⟩;simp[h1]
theorem eO{n:Nat}(h:n<=100000):n<=sizeLine:=Xb h (by rw[YZ];decide)
section
variable{ifs:3e4}{scope:Scope}{vs fs:4e3}{fr:3e9}{it:7e0}{g:2e7}{tt:4e1}{te:2e3}
def RD(X:Cx)(ifs:3e4)(t:4e1):Prop:=zG X ifs (xq X.K t)
def ff:aq->M Bool:=λ_=>ret true
end
end
theorem CR.cut{K:W.Frag}{ι ι2:2e1}{H:Hp}{C:Cs}{n:Nat}(c:CR K 6e5 H C)(hn:ι.length=n):CR K ι H (C.take n):=by
 have hlen:(ι++ι2).length=C.length:=c.len;rw[Yf]at hlen;have hs:∀b o,H b=some o->b∉ι++ι2->b∉ι:=λb o _ z q=>z (Y2 _ q);show⟨by rw[Xo];lia,(Xh.mp c.nd).1,λk a d h1 h2=>?_⟩;have hk:k<ι.length:=by
  rcases YQ k ι.length with q|q
  ·show q
  ·rw[YS.mpr q]at h1;cases h1
 rw[XH 1e0]at h2;have ok:=c.ok k a d (by rw[Yo hk];show h1) h2;cases d with
 |lst ps=>obtain⟨vs,e,r⟩:=ok;show⟨vs,e,ae.cells hs _ _ r⟩
 |cV ks ps=>obtain⟨qs,vs,e,hl,hk,r⟩:=ok;show⟨qs,vs,e,hl,hk,ae.cells hs _ _ r⟩
 |aG ks ps=>obtain⟨vs,e,hl,r⟩:=ok;show⟨vs,e,hl,ae.cells hs _ _ r⟩
 |_=>show ok.elim
noncomputable def fin (n:Nat)(C':Cs):SV->Option (SV×Cs)
 |.v p=>some (.v p,C'.take n)
 |.c k=>if k<n then some (.c k,C'.take n)else(C'[k]?).map λc=>(.v c,C'.take n)
noncomputable def ib (n:Nat)(C':Cs):List SV->Option 3e0
 |[]=>some []
 |.v p::r=>(ib n C' r).map (p::·)
 |.c k::r=>if k<n then none else(C'[k]?).bind λc=>(ib n C' r).map (c::·)
def cN(n pad:Nat)(body:7e3):List SV->M SV:=λss C=>if ss.length=n then(match body (ss.map some++Vt pad none) C with
 |some (.rt r,C')=>fin C.length C' r
 |some (.nx _,C')=>some (.v .aF,C'.take C.length)
 |some (.rf ps,C')=>some (.v 9e5,C'.take C.length)
 |some (.rq qs,C')=>(ib C.length C' qs).map λps=>(.v (.tup ps),C'.take C.length)
 |_=>none)else none
noncomputable def dA (n pad:Nat)(body:7e3):List SV->M 3e0:=λss C=>if ss.length=n then(match body (ss.map some++Vt pad none) C with
 |some (.rf ps,C')=>some (ps,C'.take C.length)
 |_=>none)else none
def bj(K:W.Frag)(F:List SV->M 3e0):Sp:=λvs H Q _=>∃ι ss C ps C',CR K ι H C/\aU K ι H ss vs/\F ss C=some (ps,C')/\∀p vs H',Fr ι H H'->CR K ι H' C'->H' p=none->ae K ι H' ps vs->Q (.ref p) (upd H' p (.lst vs))
def gA(F:List SV->M 3e0)(fs:1e9):aq->M 3e0:=λρ=>aI (fs ρ) F
theorem Fm{X:Cx}{e:Expr}{es:3e4}{p pos:Pos}{x:Str}{k:Nat}{f:Addr}{fd:WD}{ps:4e3}{F:List SV->M 3e0}{fs:1e9}(G:eY X.prog X.w X.K X.mg X.base om k f fd ps (bj X.K F))(hr:b9 k X.A)(hg:Gl X x)(hm:X.mg x=some (.ref f))(hk:Hw X.K (.ref f)=true)(hb:L2.Binds X.K fd ps [])
  (ha:AM X 4e4 fs) (iF:3e2:=by decide) (he:1e5:=by rfl) (cD:2e4:=by rfl):
  FM X 7e1 (gA F fs):=PE.imp (iQ G hr hg hm hk hb .nil vw ha iF he cD) λσ H Q h_=>by
 sleep 5;obtain⟨xs,C1,e1,g1⟩:=bp e;show⟨ι,ρ,C,xs,C1,sr,e1,λvs H1 f1 c1 r1=>?_⟩;change bj X.K F (vs++[]) H1 Q E0;rw[YG];show⟨ι,xs,C1,z,C',c1,r1,g1,λq' ws H2 f2 c2 h2 r2=>q q' ws H2 (f1.trans f2) c2 h2 r2⟩
theorem jV{K:W.Frag}{ι ι2:2e1}{H:Hp}{C' C2:Cs}{n:Nat}{r r':SV}{v:V}(c:CR K 6e5 H C')(hn:ι.length=n)(rr:bC K 6e5 H r v)(e:fin n C' r=some (r',C2)):CR K ι H C2/\bC K ι H r' v:=by
 have hs:∀b o,H b=some o->b∉ι++ι2->b∉ι:=λb o _ z q=>z (Y2 _ q);cases r with
 |v p=>cases e;show⟨c.cut hn,Rep.cells hs p v rr⟩
 |c k=>
  obtain⟨a,rfl,hk⟩:=rr;replace e:(if k<n then some (SV.c k,C'.take n)else(C'[k]?).map λc=>(SV.v c,C'.take n))=some (r',C2):=e;by_cases h:k<n
  ·rw[if_pos h]at e
   cases e;show⟨c.cut hn,a,rfl,?_⟩;rw[Yo 1e0]at hk;show hk
  ·rw[if_neg h]at e
   cases hd:C'[k]? with
   |none=>rw[hd]at e;cases e
   |some d=>
    rw[hd]at e;cases e;show⟨c.cut hn,?_⟩;have ok:=c.ok k a d hk hd;have JE:a∉ι:=λz=>by
     obtain⟨j,hj,ej⟩:=XM z;have Oo:(ι++ι2)[j]? = some a:=by rw[Yo hj,Ye hj,ej]
     have nA:k<(ι++ι2).length:=by
      rcases YQ k (ι++ι2).length with q|q
      ·show q
      ·rw[YS.mpr q]at hk;cases hk
     have Qs:j<(ι++ι2).length:=by rw[Yf];lia
     have e1:=(Y6.mp Oo).2;have e2:=(Y6.mp hk).2;have:=(UR c.nd).mp (e1.trans e2.symm);lia
    change Rep K ι H d (.ref a);cases d with
    |lst ps=>obtain⟨vs,e,r⟩:=ok;ext Rep;show⟨a,vs,rfl,.inl ⟨JE,.inl e⟩,ae.cells hs _ _ r⟩
    |cV ks ps=>obtain⟨qs,vs,e,hl,hk,r⟩:=ok;ext Rep;show⟨a,qs,vs,rfl,JE,e,hl,hk,ae.cells hs _ _ r⟩
    |aG ks ps=>obtain⟨vs,e,hl,r⟩:=ok;ext Rep;show⟨a,vs,rfl,JE,.inl e,hl,ae.cells hs _ _ r⟩
    |_=>show ok.elim
theorem nH{K:W.Frag}{ι ι2:2e1}{H:Hp}{C':Cs}{n:Nat}(c:CR K 6e5 H C')(hn:ι.length=n):∀{qs:List SV}{ps:List PV}{vs:List V},aU K 6e5 H qs vs->ib n C' qs=some ps->ae K ι H ps vs
 |[],ps,vs,r,e=>by cases e;rw[show vs=[]from r];show .nil
 |.v p::qs,ps,vs,r,e=>by
  obtain⟨v,w,rfl,h1,h2⟩:=r;ext ib e;cases hq:ib n C' qs with
  |none=>rw[hq]at e;cases e
  |some z=>
   rw[hq]at e;cases e;show .cons (jV (r:=.v p) (r':=.v p) c hn h1 rfl).2 (nH c hn h2 hq)
 |.c k::qs,ps,vs,r,e=>by
  obtain⟨v,w,rfl,h1,h2⟩:=r;ext ib e;by_cases hk:k<n
  ·rw[if_pos hk]at e;cases e
  ·rw[if_neg hk]at e
   cases hc:C'[k]? with
   |none=>rw[hc]at e;cases e
   |some d=>
    cases hq:ib n C' qs with
    |none=>rw[hc,hq]at e;cases e
    |some z=>
     rw[hc,hq]at e;cases e;show .cons (jV (r:=.c k) (r':=.v d) c hn h1 (show(if k<n then some (SV.c k,C'.take n)else(C'[k]?).map λc=>(SV.v c,C'.take n))=some (.v d,C'.take n) by rw[if_neg hk,hc];rfl)).2 (nH c hn h2 hq)
theorem aU.get{K:W.Frag}{ι:2e1}{H:Hp}:∀{ss:List SV}{vs:List V}{i:Nat}{s:SV},aU K ι H ss vs->ss[i]? = some s->∃v,vs[i]? = some v/\bC K ι H s v
 |[],_,_,_,h,e=>by simp at e
 |q::ss,vs,0,s,h,e=>by
  obtain⟨v,r,rfl,h1,h2⟩:=h;simp at e;subst e;show⟨v,rfl,h1⟩
 |q::ss,vs,i+1,s,h,e=>by
  obtain⟨v,r,rfl,h1,h2⟩:=h;obtain⟨w,e1,r1⟩:=aU.get (i:=i) h2 (by simpa using e);show⟨w,by simpa using e1,r1⟩
theorem oG{K:W.Frag}{ι:2e1}{H:Hp}{C:Cs}{ss:List SV}{vs:List V}{N:4e3}(cr:7e7)(rs:aU K ι H ss vs):SR K ι H (ss.map some++Vt (N.length-ss.length) none) (L2.start N vs) C:=by
 have hl:=aU.length rs;show⟨cr,by ext L2.start;simp[hl],λi s e=>?_⟩;ext L2.start;rcases YQ i ss.length with h|h
 ·rw[Yo 7e6,Yy]at e
  rw[Yo (by rw[Yi,←hl];show h),Yy];cases hs:ss[i]? with
  |none=>rw[hs]at e;cases e
  |some s'=>
   rw[hs]at e;have:s'=s:=by simpa using e
   subst this;obtain⟨v,h1,h2⟩:=aU.get rs hs;show⟨v,by rw[h1];rfl,h2⟩
 ·rw[YE 7e6,List.getElem?_replicate]at e
  split at e<;>cases e
section
variable{P:YF}{w:World}{K:W.Frag}{mg:2e5}{base:Heap}
theorem GW{x qual:Str}{st:Stmt}{f:Addr}{fd:WD}{N ps:4e3}{k:Nat}{body:7e3}(F:DR K x qual st f fd)(S:aJ N ps (ah st))
  (fm:∀(cdv:Value)(A:Around)(outer:List Env)(s:Shared)(H:Hp)(E:XK),b9 k (A.deeper (envOfC qual (ah st) s.heap.objs.size f cdv))->
   BM (j4 om P w K mg base N qual (ah st) f cdv A outer s H E).EG (bL st) body):eY P w K mg base om (k+1) f fd ps (av K (cN ps.length (N.length-ps.length) body)):=by
 show F.ok S (λvs H Q E h_=>?_) (λcdv A outer s H vs Q E hr h_=>?_)<;>obtain⟨ι,ss,C,r,C',cr,rs,e,q⟩:=h_
 ·ext cN e
  by_cases h:ss.length=ps.length
  ·rw[←aU.length rs];show h
  ·rw[if_neg h]at e;cases e
 ·show⟨_,fm cdv A outer s H E hr,?_⟩
  ext cN e;by_cases h:ss.length=ps.length
  case neg=>rw[if_neg h]at e;cases e
  rw[if_pos h]at e;have sr:=oG (N:=N) cr rs;rw[h]at sr;cases hb:body (ss.map some++Vt (N.length-ps.length) none) C with
  |none=>rw[hb]at e;cases e
  |some z=>
   obtain⟨fl,C2⟩:=z;rw[hb]at e;show⟨ι,_,C,fl,C2,sr,hb,?_⟩;cases fl with
   |rt r2=>
    intro ι2 v H' x c r3;obtain⟨c4,r4⟩:=jV c cr.len r3 e;show q v H' x.1 c4 r4
   |nx ρ2=>
    intro ι2 σ' H' x Lj;cases e;show q .aF H' x.1 (Lj.cr.cut cr.len) ?_;change Rep K ι H' .aF .aF;ext Rep;rfl
   |rf dQ=>
    intro ι2 p' uZ H' x c hp MZ;cases e;have hs:∀b o,H' b=some o->b∉ι++ι2->b∉ι:=λb o _ z q=>z (Y2 _ q);have c4:=c.cut cr.len;show q _ _ (x.1.trans (Fr.new hp)) (c4.new hp) (show Rep _ _ _ _ _ from Pk c4 hp (ae.cells hs _ _ MZ))
   |rq zu=>
    intro ι2 p' uZ H' x c hp MZ;replace e:(ib C.length C2 zu).map (λps=>(SV.v (.tup ps),C2.take C.length))=some (r,C'):=e;cases hq:ib C.length C2 zu with
    |none=>rw[hq]at e;cases e
    |some dQ=>
     rw[hq]at e;cases e;have c4:=c.cut cr.len;show q _ _ (x.1.trans (Fr.new hp)) (c4.new hp) ?_;change Rep _ _ _ (.tup dQ) _;ext Rep;show⟨p',uZ,rfl,fP,ae.cW (λb o e=>by rw[bf (gu e hp)];show e) _ _ (nH c cr.len MZ hq)⟩
   |bk _=>cases e
   |ct _=>cases e
theorem JY{x qual:Str}{st:Stmt}{f:Addr}{fd:WD}{N ps:4e3}{k:Nat}{body:7e3}(F:DR K x qual st f fd)(S:aJ N ps (ah st))
  (fm:∀(cdv:Value)(A:Around)(outer:List Env)(s:Shared)(H:Hp)(E:XK),b9 k (A.deeper (envOfC qual (ah st) s.heap.objs.size f cdv))->
   BM (j4 om P w K mg base N qual (ah st) f cdv A outer s H E).EG (bL st) body):eY P w K mg base om (k+1) f fd ps (bj K (dA ps.length (N.length-ps.length) body)):=by
 show F.ok S (λvs H Q E h_=>?_) (λcdv A outer s H vs Q E hr h_=>?_)<;>obtain⟨ι,ss,C,r,C',cr,rs,e,q⟩:=h_
 ·ext dA e
  by_cases h:ss.length=ps.length
  ·rw[←aU.length rs];show h
  ·rw[if_neg h]at e;cases e
 ·show⟨_,fm cdv A outer s H E hr,?_⟩
  ext dA e;by_cases h:ss.length=ps.length
  case neg=>rw[if_neg h]at e;cases e
  rw[if_pos h]at e;have sr:=oG (N:=N) cr rs;rw[h]at sr;cases hb:body (ss.map some++Vt (N.length-ps.length) none) C with
  |none=>rw[hb]at e;cases e
  |some z=>
   obtain⟨fl,C2⟩:=z;rw[hb]at e;show⟨ι,_,C,fl,C2,sr,hb,?_⟩;cases fl with
   |rf dQ=>
    intro ι2 p' uZ H' x c hp MZ;cases e;have hs:∀b o,H' b=some o->b∉ι++ι2->b∉ι:=λb o _ z q=>z (Y2 _ q);show q p' uZ H' x.1 (c.cut cr.len) hp (ae.cells hs _ _ MZ)
   |_=>cases e
end
end Pu
namespace Pu
open PySem PySem.Spec L2
open PyProof.Rows hiding St Fr
def g2(h:PV->PV->Option PV):Cs->SV->SV->Option SV:=λC x y=>match aM C x,aM C y with
 |some p,some q=>(h p q).map .v
 |_,_=>none
def gO(K:W.Frag)(r:R2)(h:PV->PV->Option PV):Prop:=
 ∀(ι:2e1)(H:Hp)(C:Cs)(p q:PV)(vx vy:V)(z:PV)(Q:VK),CR K ι H C->Lies K ι H p vx->Lies K ι H q vy->h p q=some z->(∀v H',Fr ι H H'->CR K ι H' C->Rep K ι H' z v->Q v H')->r vx vy H Q
theorem gO.r{K:W.Frag}{r:R2}{h:PV->PV->Option PV}(k:gO K r h):zf K r (g2 h):=by
 intro ι H C x y vx vy z Q cr rx ry e q;ext g2 e;cases hx:aM C x with
 |none=>rw[hx]at e;cases e
 |some p=>
  cases hy:aM C y with
  |none=>rw[hx,hy]at e;cases e
  |some p2=>
   rw[hx,hy]at e;cases hz:h p p2 with
   |none=>simp[hz]at e
   |some z2=>
    simp[hz]at e;subst e;show k ι H C p p2 vx vy z2 Q cr (rx.lies cr hx) (ry.lies cr hy) hz q
theorem fX.or{X:Cx}{f:Value->Value->Sem Value}{r r':R2}(h:fX X f r)(h':fX X f r'):fX X f (λx y H Q=>r x y H Q\/r' x y H Q):=by
 intro pins s σ H x y v u Q I rx ry q;rcases q with q|q
 ·show h pins s σ H x y v u Q I rx ry q
 ·show h' pins s σ H x y v u Q I rx ry q
section
variable{K:W.Frag}{ι:2e1}{H:Hp}{C:Cs}{Q:VK}{z:PV}
theorem Gx{v:V}{i:Str}(h:Lies K ι H (.str i) v):v=.str i/\i.length<=sizeLine:=by cases h;show⟨rfl,by assumption⟩
theorem iu{v:V}{ps:List PV}(h:Lies K ι H (.tup ps) v):∃a vs,v=.ref a/\KZ H a vs/\ae K ι H ps vs:=by cases h;show⟨_,_,rfl,by assumption,by assumption⟩
theorem dC{v:V}{ps:List PV}(h:Lies K ι H 9e5 v):∃a vs,v=.ref a/\fy K H a vs/\ae K ι H ps vs:=by cases h;show⟨_,_,rfl,by assumption,by assumption⟩
theorem ku{i:Int}:Rep K ι H (.int i) (.int i):=by ext Rep;rfl
theorem ik{i:Bool}:Rep K ι H (.bl i) (.bl i):=by ext Rep;rfl
theorem M1:Rep K ι H .aF .aF:=by ext Rep;rfl
theorem Af{i:Str}(h:i.length<=YA):Rep K ι H (.str i) (.str i):=by ext Rep;show⟨rfl,h⟩
theorem fG{n:Nat}(h:n<=1000000):n<=sizeLine:=Xb h (by rw[YZ];decide)
theorem iU{ps:List PV}{q:Addr}{vs:List V}(hq:H q=none)(rs:ae K ι H ps vs):Rep K ι (upd H q (.tup vs)) (.tup ps) (.ref q):=by
 ext Rep;show⟨q,vs,rfl,fP,ae.cW (λb o e=>by rw[bf (gu e hq)];show e) ps vs rs⟩
end
noncomputable def fJ:PV->PV->Option PV
 |.int i,.int j=>some (.int (i+j))
 |.str i,.str j=>if i.length+j.length<=1000000 then some (.str (i++j))else none
 |.lst a,.lst b=>if a.length+b.length<=1000000 then some (.lst (a++b))else none
 |.tup a,.tup b=>if a.length+b.length<=1000000 then some (.tup (a++b))else none
 |_,_=>none
def An(K:W.Frag):R2:=λx y H Q=>∃l b xs zs,x=.ref l/\y=.ref b/\fy K H l xs/\fy K H b zs/\xs.length+zs.length<=YA/\∀p,H p=none->Q (.ref p) (upd H p (.lst (xs++zs)))
section
variable{X:Cx}
theorem vE:fX X (V6 .Add) (An X.K):=by
 sleep 7;obtain⟨l,b,xs,zs,rfl,rfl,hH,hB,hz,q⟩:=h;cases rx;cases ry;obtain⟨aw,r,pl,_⟩:=I.list hH;obtain⟨hW,r2,Sj,_⟩:=I.list hB;obtain⟨⟨cls,dd,data,sl⟩,ho,hc,n,hd⟩:=id pl.isList;obtain⟨⟨FF,zC,data2,rA⟩,qd,rF,n2,hd2⟩:=id Sj.isList;simp only at hc hd rF hd2;subst hc hd rF hd2;have h1:=r.length;have h2:=r2.length;have ea:aw.toArray++hW.toArray=(aw++hW).toArray:=by simp
 show Ro ⟨_,ho,rfl⟩ ⟨_,qd,rfl⟩ noFill_list_add seq_list_add PySem.F.slot_list_add PySem.F.entry_list_add (PySem.F.args_list_add_2 _ _) (list_addW l b aw.toArray hW.toArray n n2 dd zC sl rA 6e3) ⟨ho,qd,?_⟩;rw[ea];show⟨.ref _,_,I.SJ (t':=s.toks) (r.append r2) (by rw[Yf];lia),rfl,q _ I.fresh⟩
def si(K:W.Frag):R2:=λx y H Q=>∃a b xs ys,x=.ref a/\y=.ref b/\kg K H a xs/\kg K H b ys/\xs.length+ys.length<=YA/\
 (xs=[]->Q (.ref b) H)/\(xs≠[]->ys=[]->Q (.ref a) H)/\(xs≠[]->ys≠[]->∀p,H p=none->Q (.ref p) (upd H p (.tup (xs++ys))))
theorem AW:fX X (V6 .Add) (si X.K):=by
 sleep 7;obtain⟨a,b,xs,ys,rfl,rfl,ha,hb,hz,q0,q1,q2⟩:=h;by_cases hx:xs=[]
 ·cases rx
  cases ry;obtain⟨aw,r1,p1,_⟩:=I.tuple ha;obtain⟨hW,r2,p2,_⟩:=I.tuple hb;obtain⟨⟨cls,dd,data,sl⟩,ho,hc,n,hd⟩:=id p1;obtain⟨⟨FF,zC,data2,rA⟩,qd,rF,n2,hd2⟩:=id p2;simp only at hc hd rF hd2;subst hc hd rF hd2;show Ro ⟨_,ho,rfl⟩ ⟨_,qd,rfl⟩ Ybo seq_tuple_add UB Um (Uc _ _)
   (tuple_addW0 a b aw.toArray hW.toArray n n2 dd zC sl rA (by simp[r1.iT.mpr hx])) ⟨ho,qd,⟨.ref b,H,I,rfl,q0 hx⟩⟩
 ·show EC pins s σ H _ _ v u Q I rx ry ⟨a,b,xs,ys,rfl,rfl,ha,hb,hx,hz,q1 hx,q2 hx⟩
theorem xW:fX X (V6 .Add) (λx y H Q=>(Dy λi j=>.int (i+j)) x y H Q\/(∃i j,x=.str i/\y=.str j/\i.length+j.length<=YA/\Q (.str (i++j)) H)\/An X.K x y H Q\/si X.K x y H Q):=
 fX.or IF (fX.or sQ (fX.or vE AW))
theorem oD(i j:Str):(i++j).length=i.length+j.length:=by
 change(i.cps++j.cps).size=_;rw[Array.size_append];rfl
theorem Ku:gO X.K (λx y H Q=>(Dy λi j=>.int (i+j)) x y H Q\/(∃i j,x=.str i/\y=.str j/\i.length+j.length<=YA/\Q (.str (i++j)) H)\/An X.K x y H Q\/si X.K x y H Q) fJ:=by
 intro ι H C p q vx vy z Q cr lx ly e k;ext fJ e;split at e
 ·cases e;cases lx;cases ly
  show .inl ⟨_,_,rfl,rfl,k _ H .refl cr ku⟩
 ·split at e
  ·rename_i hl
   cases e;cases lx;cases ly;show .inr (.inl ⟨_,_,rfl,rfl,fG hl,k _ H .refl cr (Af (by rw[oD];show fG hl))⟩)
  ·cases e
 ·split at e
  ·rename_i hl
   cases e;obtain⟨a,vs,rfl,h1,r1⟩:=dC lx;obtain⟨b,ws,rfl,h2,r2⟩:=dC ly;show .inr (.inr (.inl ⟨a,b,vs,ws,rfl,rfl,h1,h2,by rw[←r1.length,←r2.length];show fG hl,λp hp=>k _ _ (Fr.new hp) (cr.new hp) (Pk cr hp (r1.append r2))⟩))
  ·cases e
 ·split at e
  ·rename_i hl
   cases e;rename_i xs ys;obtain⟨a,vs,rfl,h1,r1⟩:=iu lx;obtain⟨b,ws,rfl,h2,r2⟩:=iu ly;show .inr (.inr (.inr ⟨a,b,vs,ws,rfl,rfl,h1.sq,h2.sq,by rw[←r1.length,←r2.length];show fG hl,λe=>?_,λ_ e=>?_,λ_ _ p hp=>k _ _ (Fr.new hp) (cr.new hp) (iU hp (r1.append r2))⟩))
   ·subst e
    have:=r1.length;have hx:xs=[]:=UU this;subst hx;show k _ H .refl cr (by ext Rep;show⟨b,ws,rfl,h2,r2⟩)
   ·subst e
    have:=r2.length;have hy:ys=[]:=UU this;subst hy;rw[YG]at k;show k _ H .refl cr (by ext Rep;show⟨a,vs,rfl,h1,r1⟩)
  ·cases e
 ·cases e
variable{a b e c:Expr}{es:3e4}{fa fb fc:2e3}{pos p:Pos}{x:Str}
def iD(c:Int->Int->Bool)(f:Int->Int->PV):PV->PV->Option PV
 |.int i,.int j=>if c i j then some (f i j)else none
 |_,_=>none
theorem ny{C0:Int->Int->Prop}{f:Int->Int->Int}{c:Int->Int->Bool}(h:∀i j,c i j=true->C0 i j):gO X.K (rI C0 λi j=>.int (f i j)) (iD c λi j=>.int (f i j)):=by
 intro ι H C p q vx vy z Q cr lx ly e k;ext iD e;split at e
 ·split at e
  ·rename_i hc
   cases e;cases lx;cases ly;show⟨_,_,rfl,rfl,h _ _ hc,k _ H .refl cr ku⟩
  ·cases e
 ·cases e
theorem wo{f:Int->Int->V}{g:Int->Int->PV}(h:∀i j,∀ι H,Rep X.K ι H (g i j) (f i j)):gO X.K (Dy f) (iD (λ_ _=>true) g):=by
 intro ι H C p q vx vy z Q cr lx ly e k;ext iD e;split at e
 ·simp only[if_true]at e
  cases e;cases lx;cases ly;show⟨_,_,rfl,rfl,k _ H .refl cr (h _ _ _ _)⟩
 ·cases e
abbrev kE:=iD (λi j=>decide (-(2^64)<i/\i<2^64)||decide (-(2^64)<j/\j<2^64)) λi j=>.int (i*j)
abbrev fE:=iD (λ_ j=>decide (0<j)) λi j=>.int (i%j)
abbrev Nj:=iD (λi j=>decide (0<=j/\j<=1000/\i.natAbs<2^64)) λi j=>.int (i^j.toNat)
abbrev SH:=iD (λ_ _=>true) λi j=>.bl (decide (i<j))
abbrev GN:=iD (λ_ _=>true) λi j=>.bl (decide (j<i))
def IS(C:Cs)(x:SV):Option SV:=match aM C x with
 |some (.int i)=>some (.v (.int (-i)))
 |_=>none
def EO(f:2e3):aq->M SV:=λρ=>aI (f ρ) λx=>dM λC=>IS C x
theorem ir:gO X.K (Dy λi j=>.bl (decide (i<j))) SH:=wo λ_ _ _ _=>ik
theorem wD:gO X.K (Dy λi j=>.bl (decide (j<i))) GN:=wo λ_ _ _ _=>ik
noncomputable def Ll:PV->PV->Option Bool
 |.aF,.aF=>some true | .aF,.int _=>some false | .int _,.aF=>some false | .aF,.bl _=>some false | .bl _,.aF=>some false | .aF,.str _=>some false | .str _,.aF=>some false
 |.int i,.int j=>some (decide (i=j)) | .bl i,.bl j=>some (decide (i=j)) | .str i,.str j=>some (decide (i=j))
 |.int _,.str _=>some false | .str _,.int _=>some false | .bl _,.str _=>some false | .str _,.bl _=>some false
 |_,_=>none
def OZ(p q:PV):Option PV:=(Ll p q).map .bl
def neP(p q:PV):Option PV:=(Ll p q).map λb=>.bl (!b)
theorem MX{K:W.Frag}{ι:2e1}{H:Hp}{p q:PV}{vx vy:V}{b:Bool}(lx:Lies K ι H p vx)(ly:Lies K ι H q vy)(e:Ll p q=some b):MW vx vy=true/\decide (vx=vy)=b:=by
  ext Ll e;split at e<;>first
    |(cases e;cases lx;cases ly;show⟨rfl,by simp⟩)
    |cases e
theorem Ci:gO X.K rEq OZ:=by
 intro ι H C p q vx vy z Q cr lx ly e k;ext OZ e;cases hb:Ll p q with
 |none=>rw[hb]at e;cases e
 |some b=>
  rw[hb]at e;cases e;obtain⟨h1,h2⟩:=MX lx ly hb;show⟨h1,by rw[h2];show k _ H .refl cr ik⟩
def yl:PV->PV->Option PV
 |.lst xs,.int i=>gR xs i
 |.tup xs,.int i=>gR xs i
 |.str z,.int i=>(gR z.cps.toList i).map λc=>.str ⟨#[c]⟩
 |_,_=>none
theorem wW{K:W.Frag}{ι:2e1}{H:Hp}{ps:List PV}{vs:List V}{i:Int}{z:PV}(r:ae K ι H ps vs)(e:gR ps i=some z):∃v,gR vs i=some v/\Rep K ι H z v:=by
 unfold gR at e⊢;rw[←r.length];cases h:kH ps.length i with
 |none=>rw[h]at e;cases e
 |some j=>rw[h]at e;show r.get e
theorem NR:gO X.K (Qe X.K) yl:=by
 intro ι H C p q vx vy z Q cr lx ly e k;ext yl e;split at e
 ·obtain⟨a,vs,rfl,h1,r1⟩:=dC lx
  cases ly;obtain⟨v,e1,r⟩:=wW r1 e;show .inl ⟨a,vs,_,v,rfl,rfl,h1,e1,k v H .refl cr r⟩
 ·obtain⟨a,vs,rfl,h1,r1⟩:=iu lx
  cases ly;obtain⟨v,e1,r⟩:=wW r1 e;show .inr (.inl ⟨a,vs,_,v,rfl,rfl,h1.sq,e1,k v H .refl cr r⟩)
 ·obtain⟨rfl,hz⟩:=Gx lx
  cases ly;rename_i z' i;cases hc:gR z'.cps.toList i with
  |none=>rw[hc]at e;cases e
  |some c=>
   rw[hc]at e;cases e;show .inr (.inr ⟨_,_,c,rfl,rfl,hz,hc,k _ H .refl cr (Af (by change 1<=YA;rw[YZ];decide))⟩)
 ·cases e
noncomputable def tyN:PV->Option String
 |.aF=>some "NoneType"
 |.bl _=>some "bool"
 |.int _=>some "int"
 |.str _=>some "str"
 |.tup _=>some "tuple"
 |.lst _=>some "list"
 |.cV _ _=>some "dict"
 |_=>none
def NU(p:PV)(n:String):Option Bool:=match tyN p with
 |none=>none
 |some t=>if n="int" then some (t=="int"||t=="bool")else if n="str"\/n="bool"\/n="tuple"\/n="list"\/n="dict" then some (t==n)else none
end
inductive gN(K:W.Frag)(ι:List Addr)(H:Hp):List PV->List V->Prop
 |nil:gN K ι H [] []
 |cons {p:PV} {v:V} {ps:List PV} {vs:List V} (h:Lies K ι H p v) (t:gN K ι H ps vs):gN K ι H (p::ps) (v::vs)
def gi(C:Cs):List SV->Option 3e0
 |[]=>some []
 |x::xs=>match aM C x,gi C xs with
  |some p,some ps=>some (p::ps)
  |_,_=>none
theorem Zdu{K:W.Frag}{ι:2e1}{H:Hp}{C:Cs}(cr:7e7):∀{xs:List SV}{ps:List PV}{vs:List V},aU K ι H xs vs->gi C xs=some ps->gN K ι H ps vs
 |[],ps,vs,r,e=>by cases e;rw[show vs=[]from r];show .nil
 |x::xs,ps,vs,r,e=>by
  obtain⟨v,w,rfl,h1,h2⟩:=r;ext gi e;split at e
  ·rename_i p qs hp hq
   cases e;show .cons (h1.lies cr hp) (Zdu cr h2 hq)
  ·cases e
def g1(h:List PV->Option PV):Cs->List SV->Option SV:=λC xs=>match gi C xs with
 |some ps=>(h ps).map .v
 |none=>none
def zh(K:W.Frag)(r:List V->Hp->VK->Prop)(h:List PV->Option PV):Prop:=
 ∀(ι:2e1)(H:Hp)(C:Cs)(ps:List PV)(vs:List V)(z:PV)(Q:VK),CR K ι H C->gN K ι H ps vs->h ps=some z->(∀v H',Fr ι H H'->CR K ι H' C->Rep K ι H' z v->Q v H')->r vs H Q
theorem zh.c{K:W.Frag}{r:List V->Hp->VK->Prop}{h:List PV->Option PV}(k:zh K r h):Dv K r (g1 h):=by
 intro ι H C xs vs z Q cr rs e q;ext g1 e;cases hd:gi C xs with
 |none=>rw[hd]at e;cases e
 |some ps=>
  rw[hd]at e;cases hz:h ps with
  |none=>simp[hz]at e
  |some z2=>
   simp[hz]at e;subst e;show k ι H C ps vs z2 Q cr (Zdu cr rs hd) hz q
section
variable{X:Cx}{a b e c o:Expr}{es:3e4}{fa fb fc fo:2e3}{fs:1e9}{pos p apos aV:Pos}{x:Str}
def SX:List PV->Option PV
 |[p,.ty n]=>(NU p n).map .bl
 |_=>none
noncomputable def jN:List PV->Option PV
 |[.str z]=>some (.int z.length)
 |[.lst xs]=>some (.int xs.length)
 |[.tup xs]=>some (.int xs.length)
 |_=>none
theorem Jg:zh X.K (λxs H Q=>∃x n,xs=[x]/\P6 X.K x H n/\Q (.int n) H) jN:=by
 intro ι H C ps vs z Q cr ls e k;ext jN e;split at e
 ·cases e;cases ls with
  |cons l t=>cases t;obtain⟨rfl,hz⟩:=Gx l;show⟨_,_,rfl,⟨hz,rfl⟩,k _ H .refl cr ku⟩
 ·cases e;cases ls with
  |cons l t=>cases t;obtain⟨a,ws,rfl,h1,r1⟩:=dC l;show⟨_,_,rfl,.inl ⟨ws,h1,r1.length⟩,k _ H .refl cr ku⟩
 ·cases e;cases ls with
  |cons l t=>cases t;obtain⟨a,ws,rfl,h1,r1⟩:=iu l;show⟨_,_,rfl,.inr ⟨ws,h1.sq,r1.length⟩,k _ H .refl cr ku⟩
 ·cases e
noncomputable def ye:List PV->Option PV
 |[.int i,.int j]=>some (.int (if j>i then j else i))
 |_=>none
theorem IV:zh X.K (λxs H Q=>∃i j,xs=[.int i,.int j]/\Q (.int (if j>i then j else i)) H) ye:=by
 intro ι H C ps vs z Q cr ls e k;ext ye e;split at e
 ·cases e;cases ls with
  |cons l t=>cases t with
   |cons l2 t=>cases t;cases l;cases l2;show⟨_,_,rfl,k _ H .refl cr ku⟩
 ·cases e
noncomputable def Vak:List PV->Option PV
 |[.lst xs]=>some (.tup xs)
 |[.tup xs]=>some (.tup xs)
 |_=>none
def Bq(C:Cs):List SV->Option 3e0
 |[x]=>match aM C x with
  |some (.lst xs)=>some xs
  |some (.tup xs)=>some xs
  |_=>none
 |_=>none
def vP(fs:1e9):aq->M 3e0:=λρ=>aI (fs ρ) λxs=>dM λC=>Bq C xs
noncomputable def dG:List PV->Option (List Bool)
 |[]=>some []
 |.bl b::r=>(dG r).map (b::·)
 |_::_=>none
theorem ZP{K:W.Frag}{ι:2e1}{H:Hp}:∀{ps:List PV}{vs:List V}{bs:List Bool},ae K ι H ps vs->dG ps=some bs->vs=bs.map V.bl
 |[],vs,bs,r,e=>by cases e;rw[r.fH];rfl
 |p::ps,vs,bs,r,e=>by
  obtain⟨v,w,rfl,h1,h2⟩:=r.inv;cases p with
  |bl b=>
   ext dG e;cases hb:dG ps with
   |none=>rw[hb]at e;cases e
   |some cs=>
    rw[hb]at e;cases e;have h1:v=.bl b:=by ext Rep h1;show h1
    rw[h1,ZP h2 hb];rfl
  |_=>cases e
def uK:List PV->Option PV
 |[.lst xs]=>(dG xs).map λbs=>.bl (bs.all id)
 |_=>none
theorem Kt:zh X.K (λxs H Q=>∃(a:Addr)(bs:List Bool),xs=[.ref a]/\fy X.K H a (bs.map V.bl)/\Q (.bl (bs.all id)) H) uK:=by
 intro ι H C ps vs z Q cr ls e k;ext uK e;split at e
 ·rename_i xs
  cases ls with
  |cons l t=>
   cases t;obtain⟨a,ws,rfl,h1,r1⟩:=dC l;cases hb:dG xs with
   |none=>rw[hb]at e;cases e
   |some bs=>
    rw[hb]at e;cases e;show⟨a,bs,rfl,by rw[←ZP r1 hb];show h1,k _ H .refl cr ik⟩
 ·cases e
end
section
variable{X:Cx}{a b e c o i:Expr}{es:3e4}{fa fb fc fo fi fv:2e3}{fs:1e9}{pos p apos aV:Pos}{x:Str}
noncomputable def fj (x:SV):M Unit:=λC=>match x with
 |.c k=>match C[k]? with
  |some (.lst _)=>some ((),C)
  |_=>none
 |_=>none
theorem Z1{x:SV}{C C2:Cs}(h:fj x C=some ((),C2)):C2=C/\∃k ps,x=.c k/\C[k]? = some 9e5:=by
 ext fj h;split at h
 ·split at h
  ·rename_i k _ ps e;cases h;show⟨rfl,k,ps,rfl,e⟩
  ·cases h
 ·cases h
noncomputable def nZ (x:SV)(ys:List SV):M SV:=λC=>match x,ys with
 |.c k,[.v p]=>match C[k]? with
  |some (.lst ps)=>if ps.length<100000 then some (.v .aF,C.set k (.lst (ps++[p])))else none
  |_=>none
 |_,_=>none
theorem za{x:SV}{ys:List SV}{C C2:Cs}{r:SV}(h:nZ x ys C=some (r,C2)):∃k p ps,x=.c k/\ys=[.v p]/\C[k]? = some 9e5/\ps.length<100000/\r=.v .aF/\C2=C.set k (.lst (ps++[p])):=by
 ext nZ h;split at h
 ·split at h
  ·split at h
   ·cases h;show⟨_,_,_,rfl,rfl,by assumption,by assumption,rfl,rfl⟩
   ·cases h
  ·cases h
 ·cases h
def eN(fo:2e3)(fs:1e9):aq->M SV:=λρ=>aI (fo ρ) λx=>aI (fj x) λ_=>aI (fs ρ) λys=>nZ x ys
theorem KI{K:W.Frag}{ι:2e1}{H:Hp}{C:Cs}{k:Nat}{a:Addr}{ps:List PV}(cr:7e7)(hk:ι[k]? = some a)(hc:C[k]? = some 9e5):∃vs,H a=some (.lst vs)/\ae K ι H ps vs:=cr.ok k a _ hk hc
theorem j5{K:W.Frag}{ι:2e1}{H:Hp}{C:Cs}{k:Nat}{a:Addr}{ps:List PV}{vs:List V}(cr:7e7)(hk:ι[k]? = some a)(r:ae K ι H ps vs):CR K ι (upd H a (.lst vs)) (C.set k 9e5)/\Fr ι H (upd H a (.lst vs)):=by
 have fr:Fr ι H (upd H a (.lst vs)):=λb u n e=>by
  rw[bf (λz=>n (by rw[z];show YH hk))];show e
 show⟨cr.put hk ⟨vs,fP,ae.mono cr fr _ _ r⟩,fr⟩
def setC(v o i:SV)(ρ:aq):M PF:=λC=>match o,i,v with
 |.c k,.v (.int n),.v p=>match C[k]? with
  |some (.lst ps)=>match kH ps.length n with
   |some j=>some (.nx ρ,C.set k (.lst (ps.set j p)))
   |none=>none
  |_=>none
 |_,_,_=>none
theorem xx{v o i:SV}{ρ:aq}{C C2:Cs}{fl:PF}(h:setC v o i ρ C=some (fl,C2)):∃k n p ps j,o=.c k/\i=.v (.int n)/\v=.v p/\C[k]? = some 9e5/\kH ps.length n=some j/\fl=.nx ρ/\C2=C.set k (.lst (ps.set j p)):=by
 ext setC h;split at h
 ·split at h
  ·split at h
   ·cases h;show⟨_,_,_,_,_,rfl,rfl,rfl,by assumption,by assumption,rfl,rfl⟩
   ·cases h
  ·cases h
 ·cases h
def jH(fv fo fi:2e3):aq->M PF:=λρ=>aI (fv ρ) λv=>aI (fo ρ) λo=>aI (fi ρ) λi=>setC v o i ρ
noncomputable def dD:SV->Option 3e0
 |.v (.lst xs)=>some xs
 |.v (.tup xs)=>some xs
 |.v (.str z)=>some (z.cps.toList.map λc=>.str ⟨#[c]⟩)
 |_=>none
def aL(f:2e3):aq->M 3e0:=λρ=>aI (f ρ) λx=>dM λ_=>dD x
theorem yn{K:W.Frag}{ι:2e1}{H:Hp}{C:Cs}{a:Addr}{xs:List PV}{vs:List V}(cr:7e7)(h:Hz K ι H a vs)(r:ae K ι H xs vs):Iter K ι H xs (Itl K a):=by
 have keep:∀ι2 H2,Ex ι ι2 H H2->fy K H2 a vs:=λι2 H2 x=>by
  rcases h with⟨n,q|⟨o,q⟩⟩|q
  ·show .inl (.inl (x.out _ _ n q).2)
  ·show .inl (.inr ⟨o,(x.out _ _ n q).2⟩)
  ·show .inr q
 show⟨λι2 H2 C2 x c i hi=>?_,λι2 H2 C2 x c i v H3 hi y=>?_,λι2 H2 C2 x c=>⟨vs,keep ι2 H2 x,by rw[r.length];show Yl _⟩⟩
 ·obtain⟨v,e,_⟩:=r.get (Ye hi)
  show⟨vs,v,keep ι2 H2 x,e⟩
 ·obtain⟨rfl,y⟩:=y
  obtain⟨p,hp,rp⟩:=r.get' (y vs (keep ι2 _ x));show⟨λb o e=>e,p,hp,Rep.tr cr x.out p v rp⟩
theorem BD{K:W.Frag}{ι:2e1}{H:Hp}{C:Cs}{a:Addr}{xs:List PV}{vs:List V}(cr:7e7)(h:kg K H a vs)(r:ae K ι H xs vs):Iter K ι H xs (Itt K a):=by
 have keep:∀ι2 H2,Ex ι ι2 H H2->kg K H2 a vs:=λι2 H2 x=>by
  rcases h with(q|⟨o,q⟩)|q
  ·show .inl (.inl (x.out _ _ (cr.vI q (λ_ e=>nomatch e) λ_ e=>nomatch e) q).2)
  ·show .inl (.inr ⟨o,(x.out _ _ (cr.vI q (λ_ e=>nomatch e) λ_ e=>nomatch e) q).2⟩)
  ·show .inr q
 show⟨λι2 H2 C2 x c i hi=>?_,λι2 H2 C2 x c i v H3 hi y=>?_,λι2 H2 C2 x c=>⟨vs,keep ι2 H2 x,by rw[r.length];show Yl _⟩⟩
 ·obtain⟨v,e,_⟩:=r.get (Ye hi)
  show⟨vs,v,keep ι2 H2 x,e⟩
 ·obtain⟨rfl,y⟩:=y
  obtain⟨p,hp,rp⟩:=r.get' (y vs (keep ι2 _ x));show⟨λb o e=>e,p,hp,Rep.tr cr x.out p v rp⟩
theorem p7{K:W.Frag}{ι:2e1}{H:Hp}{z:Str}:Iter K ι H (z.cps.toList.map λc=>.str ⟨#[c]⟩) (Its z):=by
 show⟨λι2 H2 C2 x c i hi=>by change i<z.cps.size;simpa using hi,λι2 H2 C2 x c i v H3 hi y=>?_,λι2 H2 C2 x c=>by change _=_;simp⟩;obtain⟨rfl,d,hd,rfl⟩:=y;show⟨λb o e=>e,.str ⟨#[d]⟩,by simp[hd],?_⟩;show Af (by change 1<=YA;rw[YZ];decide)
theorem tR{K:W.Frag}{ι:2e1}{H:Hp}{lo:Int}{n:Nat}:Iter K ι H ((YB n).map λ(k:Nat)=>.int (lo+k)) (RF lo n):=by
 show⟨λι2 H2 C2 x c i hi=>by change i<n;simpa using hi,λι2 H2 C2 x c i v H3 hi y=>?_,λι2 H2 C2 x c=>by change n<=_;simp⟩;obtain⟨rfl,rfl⟩:=y;have JI:i<n:=by simpa using hi
 show⟨λb o e=>e,.int (lo+i),by simp[JI],ku⟩
variable{tg l:Expr}
noncomputable def ij:List SV->Option 3e0
 |[.v (.int j)]=>if -1000000<=j/\j<=1000000 then some ((YB j.toNat).map λ(k:Nat)=>.int (0+k))else none
 |_=>none
def bg(fs:1e9):aq->M 3e0:=λρ=>aI (fs ρ) λxs=>dM λ_=>ij xs
theorem xA{xs:List SV}{ys:List PV}(h:ij xs=some ys):∃j,xs=[.v (.int j)]/\(-1000000<=j/\j<=1000000)/\ys=(YB j.toNat).map λ(k:Nat)=>.int (0+k):=by
 ext ij h;split at h
 ·split at h
  ·cases h;show⟨_,rfl,by assumption,rfl⟩
  ·cases h
 ·cases h
end
section
variable{prog:YF}{w:World}{A:Around}{E:1e1}{s:Shared}
theorem Zb4{t sl:Addr}{items:Array Value}{vl vu:Value}{lo hi:Option Int}{Q:1e1}(ht:IsTup s.heap t items)(hs:s.heap.IsSliceOf sl vl vu .none)(pl:IsPart vl lo)(pu:IsPart vu hi)
  (hw:HT.bI items.size 0 lo=0/\HT.bI items.size items.size hi=items.size) (h:Q (.ref t) s):wpAny 1e3 A (Hv (.ref t) (.ref sl)) Q E s:=by
 obtain⟨os,JB,Qy,JJ⟩:=id hs;have T9:s.TypeIs (.ref sl) "slice":=⟨os,JB,Qy⟩
 ext Hv;try with_reducible show Xf ?_
 first|show Ya (Yc ?_)|skip
 show Ya (wpAny_sequenceKey ht.typeIs 1e7 ?_);show Ya (XC (name:=Vc "__getitem__") ht.typeIs Xy
  (Xl Xy ht.typeIs entry_tuple_getitem ?_ (args_tuple_getitem _ _)))
 change wpAny _ _ (VY (.ref t)>>=_) _ _ s;show Ya (tupleItemsOf_ ht ?_);show Ya (WX T9 ?_);rw[if_pos 1e7];show Ya (HT.d8 hs pl pu ?_);have SY:(((HT.bI items.size 0 lo:Nat):Int)==0&&(1:Int)==1&&(HT.bI items.size items.size hi-HT.bI items.size 0 lo)==items.size)=true:=by
  rw[hw.1,hw.2];simp
 change wpAny _ _ (if(((HT.bI items.size 0 lo:Nat):Int)==0&&(1:Int)==1&&(HT.bI items.size items.size hi-HT.bI items.size 0 lo)==items.size)=true then _ else _) _ _ s;rw[if_pos SY];ext Builtin.Tuple.tupleIsExact;show Ya (Ya (WX ht.typeIs (Yc ?_)));rw[if_pos 1e7];show Ya (WR ?_);show Ya (Yc (Yc ⟨_,rfl,Yc h⟩))
end
def M7(K:W.Frag):V->Option Int->Option Int->Hp->VK->Prop:=λx lo hi H Q=>∃a xs,x=.ref a/\kg K H a xs/\(HT.bI xs.length 0 lo=0/\HT.bI xs.length xs.length hi=xs.length)/\Q (.ref a) H
def tMO(K:W.Frag)(f:aq->M (Option Int)):TO:=λσ H Q=>∃ι ρ C r C',SR K ι H ρ σ C/\f ρ C=some (r,C')/\∀H',Fr ι H H'->CR K ι H' C'->Q r H'
def OM(X:Cx)(e:Option Expr)(f:aq->M (Option Int)):Prop:=PO X e (tMO X.K f)
def iS:aq->M (Option Int):=λ_=>ret none
def intD(C:Cs)(x:SV):Option (Option Int):=match aM C x with
 |some (.int i)=>some (some i)
 |_=>none
def bJ(f:2e3):aq->M (Option Int):=λρ=>aI (f ρ) λx=>dM λC=>intD C x
def fI(xs:List PV)(lo hi:Option Int):List PV:=(xs.drop (HT.bI xs.length 0 lo)).take (HT.bI xs.length xs.length hi-HT.bI xs.length 0 lo)
def gd(lo hi:Option Int):PV->Option PV
 |.lst xs=>some (.lst (fI xs lo hi))
 |.tup xs=>some (.tup (fI xs lo hi))
 |_=>none
def eG(C:Cs)(x:SV)(lo hi:Option Int):Option SV:=match aM C x with
 |some p=>(gd lo hi p).map .v
 |none=>none
def aW(f:2e3)(l h:aq->M (Option Int)):aq->M SV:=λρ=>aI (f ρ) λx=>aI (l ρ) λlo=>aI (h ρ) λhi=>dM λC=>eG C x lo hi
theorem oW{K:W.Frag}{ι:2e1}{H:Hp}{ps:List PV}{vs:List V}(r:ae K ι H ps vs)(lo hi:Option Int):ae K ι H (fI ps lo hi) (qA vs lo hi):=by
 unfold fI qA;rw[r.length];show(r.drop _).take _
theorem oO{C:Cs}{x z:SV}{lo hi:Option Int}(h:eG C x lo hi=some z):(∃xs,aM C x=some (.lst xs)/\z=.v (.lst (fI xs lo hi)))\/∃xs,aM C x=some (.tup xs)/\z=.v (.tup (fI xs lo hi)):=by
 ext eG h;split at h
 ·rename_i p hd
  cases p with
  |lst xs=>cases h;show .inl ⟨xs,hd,rfl⟩
  |tup xs=>cases h;show .inr ⟨xs,hd,rfl⟩
  |_=>cases h
 ·cases h
section
variable{X:Cx}{a b e c o i:Expr}{es:3e4}{fa fb fc fo fi fv:2e3}{fs:1e9}{pos p apos aV p2:Pos}{x:Str}{lo hi:Option Expr}{l h:aq->M (Option Int)}
theorem PO.imp{e:Option Expr}{t t':TO}(h:PO X e t)(k:∀σ H Q,t' σ H Q->t σ H Q):PO X e t':=λpins s σ H Q I q=>h pins s σ H Q I (k σ H Q q)
theorem D5:DN X (M7 X.K):=by
 intro pins s σ H x v vl vu lo hi sl Q I rx hs pl pu h;obtain⟨a,xs,rfl,hx,hw,q⟩:=h;cases rx;obtain⟨aw,r,ht,hz⟩:=I.tuple hx;have hlen:aw.toArray.size=xs.length:=by rw[Yp];show r.length.symm
 show⟨"tuple",_,Xy.lookup,ht.typeIs,Zb4 ht hs pl pu (by rw[hlen];show hw) ⟨.ref a,H,I,rfl,q⟩⟩
theorem yQ{xs:List PV}{lo hi:Option Int}(h:HT.bI xs.length 0 lo=0/\HT.bI xs.length xs.length hi=xs.length):fI xs lo hi=xs:=by
 ext fI;rw[h.1,h.2];simp
noncomputable def tyP (T:String):PV->Bool
 |.str _=>T=="str"
 |.int _=>T=="int"
 |.lst _=>T=="list"
 |.cV _ _=>T=="dict"
 |.aG _ _=>T=="dict"
 |_=>false
def NW(T:String)(x:SV):M Unit:=λC=>match aM C x with
 |some q=>if tyP T q then some ((),C)else none
 |none=>none
def mtD(h:PV->List PV->Option PV)(C:Cs)(x:SV)(xs:List SV):Option SV:=match aM C x,gi C xs with
 |some q,some ps=>(h q ps).map .v
 |_,_=>none
def mMt(T:String)(h:PV->List PV->Option PV)(fo:2e3)(fs:1e9):aq->M SV:=λρ=>aI (fo ρ) λx=>aI (NW T x) λ_=>aI (fs ρ) λxs=>dM λC=>mtD h C x xs
end
section
variable{X:Cx}{a b e c o i:Expr}{es:3e4}{fa fb fc fo fi fv:2e3}{fs:1e9}{pos p apos aV p2:Pos}{x:Str}
noncomputable def Gi:List PV->Option (List Str)
 |[]=>some []
 |.str b::r=>(Gi r).map (b::·)
 |_::_=>none
def Vae:PV->List PV->Option PV
 |.str z,[.lst xs]=>match Gi xs with
  |some ys=>if(ys.map (·.length)).sum+ys.length*z.length<=1000000 then some (.str (Txt.join z ys))else none
  |none=>none
 |_,_=>none
noncomputable def yi:PV->Option Key
 |.int i=>some (.inl i)
 |.str z=>some (.inr z)
 |_=>none
theorem wa(k:Key):yi (kP k)=some k:=by cases k<;>rfl
def pX:List PV->List PV->Key->Option PV
 |k::ks,v::vs,q=>if yi k=some q then some v else pX ks vs q
 |_,_,_=>none
theorem pV{K:W.Frag}{ι:2e1}{H:Hp}{q:Key}:∀{qs:6e8}{ps:List PV}{vs:List V},qs.length=vs.length->ae K ι H ps vs->
  (∀z,pX (qs.map kP) ps q=some z->∃v,dw (qs.zip vs) q=some v/\Rep K ι H z v)/\(pX (qs.map kP) ps q=none->dw (qs.zip vs) q=none)
 |[],ps,vs,hl,r=>by
  show⟨λz h=>?_,λ_=>rfl⟩;cases ps<;>cases h
 |k::qs,[],vs,hl,r=>by rw[r.fH]at hl;cases hl
 |k::qs,p::ps,vs,hl,r=>by
  obtain⟨v,w,rfl,h1,h2⟩:=r.inv;have ih:=pV (q:=q) (qs:=qs) (ps:=ps) (vs:=w) (by simpa using hl) h2;rw[Yq,Xn];ext pX;rw[wa];by_cases h:k=q
  ·subst h
   rw[if_pos rfl,Mb (p:=(k,v)) rfl];show⟨λz e=>by cases e;show⟨v,rfl,h1⟩,λe=>nomatch e⟩
  ·rw[if_neg (λe=>h (YO e)),Ma (p:=(k,v)) h]
   show ih
theorem pZ{K:W.Frag}{ι:2e1}{H:Hp}{x:PV}{v:V}{q:Key}(l:Lies K ι H x v)(h:yi x=some q):v=kV q:=by
 cases l<;>first|(cases h;rfl)|cases h
theorem Gy{K:W.Frag}{ι:2e1}{H:Hp}{ks ps:List PV}{v:V}(l:Lies K ι H (.cV ks ps) v):∃(a:Addr)(qs:6e8)(vs:List V),v=.ref a/\ks=qs.map kP/\H a=some (.dK (qs.zip vs))/\qs.length=vs.length/\ae K ι H ps vs:=by
 cases l;show⟨_,_,_,rfl,rfl,by assumption,by assumption,by assumption⟩
noncomputable def Am:R2:=λx y H Q=>∃a v,x=.ref a/\kS H a y (some v)/\Q v H
theorem wj(hu:X.A.units+1<cLine):zi X Am:=by
 intro value slice pins s σ H x y v u Q I rx ry h hs;obtain⟨a,w,rfl,g,q⟩:=h;cases rx;show tail_any (qt I g) PySem.F.slot_dict_getitem.lookup (yO hu I g ry λw' s' I' r'=>⟨w,H,I',r',q⟩) hs
def gD(x y:PV):Option PV:=match x with
 |.cV ks vs=>match yi y with
  |some q=>pX ks vs q
  |none=>none
 |x=>yl x y
theorem BC:gO X.K (λx y H Q=>Qe X.K x y H Q\/Am x y H Q) gD:=by
 intro ι H C p q vx vy z Q cr lx ly e k;ext gD e;split at e
 ·rename_i ks vs
  split at e
  ·rename_i key hk
   obtain⟨a,qs,ws,rfl,rfl,hd,hl,r⟩:=Gy lx;obtain⟨v,hv,rv⟩:=(pV hl r).1 z e;rw[pZ ly hk];show .inr ⟨a,v,rfl,by rw[←hv];show kS.k hd,k v H .refl cr rv⟩
  ·cases e
 ·show .inl (NR ι H C p q vx vy z Q cr lx ly e k)
theorem zR{pins:1e8}{σ:St}{H:Hp}{s:Shared}{d:Addr}{ob:HO}(I:2e0)(hn:H d=none)(hd:X.s₀.heap.objs.size<=d)(hL:d≠X.env.locals)(hc:∀x c,X.env.cells.lookup x=some c->c≠d)
  (hp:∀p∈X.pn++pins,p.1≠d) (new:aZ X.prog X.w (upd H d ob) s.heap d ob):Inv X pins σ (upd H d ob) s:=by
 have u:=I.base;show⟨I.ok,I.os,I.bare,⟨u.keep,u.slot,λb o e q hx=>?_,u.there,λb xs e=>?_,λb o xs e=>?_,λb ps e=>?_⟩,I.loc,I.cell,?_,λx c e=>?_,λp JA=>?_,λb o e=>?_,I.len⟩
 ·rw[bf (Yv (YC (Yr e) hd))];show u.free b o e q hx
 ·rw[bf (gu (u.g8 b xs e) hn)];show u.g8 b xs e
 ·rw[bf (gu (u.gg b o xs e) hn)];show u.gg b o xs e
 ·obtain⟨more,q⟩:=u.jh b ps e
  show⟨more,by rw[bf (gu q hn)];show q⟩
 ·rw[bf (WC hL)];show I.free
 ·rw[bf (hc x c e)];show I.eh x c e
 ·obtain⟨h1,h2,h3⟩:=I.pin p JA
  show⟨h1,by rw[bf (hp p JA)];show h2,h3⟩
 ·by_cases hb:b=d
  ·subst hb
   rw[fP]at e;cases e;show new
  ·rw[bf hb]at e
   show(I.aQ b o e).cW (λ_ _ _ q=>q) (λc q=>by rw[bf (gu q hn)];show q) λc xs q=>by rw[bf (gu q hn)];show q
theorem oj{P:YF}{w:World}{h:Heap}{d:Addr}(e:h.get? d=some {cls:=.type "dict",data:=.dict #[]}):h.DictOf (aD P w) d []:=by
 have hn:=Heap.DictOf.new (knd:=aD P w) {h with objs:=#[]};obtain⟨o,es,ep,h1,h2,h3,h4⟩:=hn;rw[Yg _ rfl]at h1;cases h1;show⟨_,es,ep,e,h2,h3,h4⟩
def Ld:List Str->List V->List (Value×Value)->Prop
 |[],[],[]=>True
 |k::ks,v::vs,(u,w)::r=>gB (.inr k) u=true/\RelV v w/\Ld ks vs r
 |_,_,_=>False
def DP(X:Cx)(ks:List (Option Expr))(es:3e4)(keys:4e3)(t:TA):Prop:=
 ∀(pos:Pos)(pins:1e8)(s:Shared)(σ:St)(H:Hp)(Q:List V->Hp->Prop),Inv X pins σ H s->t σ H Q->
  wpAny 2e2 X.A (evalPairs (pairTrees ks es X.env pos)) (λus s'=>∃vs H',Inv X pins σ H' s'/\Ld keys vs us/\Q vs H') X.xe s
def DM(X:Cx)(ks:List (Option Expr))(es:3e4)(keys:4e3)(f:1e9):Prop:=DP X ks es keys (MJ X.K f)
def NB(keys:4e3)(fs:1e9):aq->M SV:=λρ=>aI (fs ρ) λxs=>dM λ_=>(plain xs).map λps=>.v (.cV (keys.map PV.str) ps)
theorem mX{P:YF}{w:World}:∀{keys:4e3}{vs:List V}{us:List (Value×Value)},Ld keys vs us->keys.length=vs.length/\us.length=keys.length/\∃ag:List (Key×Value),Carries (aD P w) us ag/\KV ((keys.map Vw).zip vs) ag/\ag.map (·.1)=keys.map Sum.inr:=by
 intro keys;induction keys with
 |nil=>
  intro vs us h;cases vs with
  |nil=>cases us with
   |nil=>show⟨rfl,rfl,[],trivial,.nil,rfl⟩
   |cons _ _=>show h.elim
  |cons _ _=>show h.elim
 |cons k ks ih=>
  intro vs us h;cases vs with
  |nil=>show h.elim
  |cons v vs=>cases us with
   |nil=>show h.elim
   |cons y r=>
    obtain⟨h1,h2,h3⟩:=h;obtain⟨a1,a2,ag,a3,a4,a5⟩:=ih h3;show⟨by simp[a1],by simp[a2],(Vw k,y.2)::ag,⟨h1,rfl,a3⟩,.cons ⟨rfl,h2⟩ a4,by simp[a5]⟩
end
section
variable{X:Cx}{a b e c o i:Expr}{es:3e4}{fa fb fc fo fi fv:2e3}{fs:1e9}{pos p apos aV p2:Pos}{x:Str}{d:Addr}{tab:List (Str×Addr)}
def IX:aq->M SV:=λ_=>ret (.v (.cV [] []))
end
section
variable{X:Cx}{pins:1e8}{σ:St}{H:Hp}{s:Shared}
theorem mr{t':Nat}{h':Heap}{ch:2e1}(I:2e0)(k:∀b o,b∉ch->s.heap.get? b=some o->h'.get? b=some o)(hf:∀b∈ch,eV X pins H b):Inv X pins σ H {s with heap:=h',toks:=t'}:=by
 have Nv:∀b u,H b=some u->b∉ch:=λb u e z=>by rw[(hf b z).1]at e;cases e
 show I.step (g':=s.gens) (d':=s.drawn) (ch:=ch) (λb hb=>⟨(hf b hb).2.2.2.1,(hf b hb).2.1,(hf b hb).2.2.2.2.1,(hf b hb).2.2.2.2.2⟩) (λb o _ _ hc e _=>k b o hc e) (λb o _ _ hc e _=>⟨o.slots,k b o hc e⟩) (λ_ _ _ _ n=>n)
  (λb o hc e=>⟨o,k b o hc e⟩) (λ_ _ e=>e) (λ_ _ _ e=>e) (λb ps e=>⟨#[],by rw[e];simp⟩) (λm hm=>?_) (λb u e=>?_) I.bare
 ·obtain⟨o,es,ep,ho,r⟩:=hm
  show⟨o,es,ep,k _ o (λz=>(hf _ z).2.1 rfl) ho,r⟩
 ·show(I.aQ b u e).cW (λc v hc q=>k c v ?_ q) (λ_ q=>q) λ_ _ q=>q
  rcases hc with z|z
  ·rw[z];show Nv b u e
  ·show Nv c _ z
end
mutual
noncomputable def ab (h:Heap):PV->Value->Prop
 |.aF,u=>u=.none
 |.bl b,u=>u=.bool b
 |.int i,u=>∃t,u=.int i t
 |.str x,u=>∃t,u=.str x t
 |.tup ps,u=>∃(a:Addr)(us:2e6),u=.ref a/\h.IsTuple a us.toArray/\ao h ps us
 |.lst ps,u=>∃(a:Addr)(us:2e6),u=.ref a/\h.IsList a us.toArray/\ao h ps us
 |_,_=>False
noncomputable def ao (h:Heap):List PV->List Value->Prop
 |[],us=>us=[]
 |p::ps,us=>∃v r,us=v::r/\ab h p v/\ao h ps r
end
mutual
noncomputable def dat:PV->Bool
 |.tup ps=>gj ps
 |.lst ps=>gj ps
 |.cV _ _=>false
 |.aG _ _=>false
 |.fn _=>false
 |.ty _=>false
 |_=>true
noncomputable def gj:List PV->Bool
 |[]=>true
 |p::ps=>dat p&&gj ps
end
mutual
noncomputable def dep:PV->Nat
 |.tup ps=>cj ps+1
 |.lst ps=>cj ps+1
 |_=>0
noncomputable def cj:List PV->Nat
 |[]=>0
 |p::ps=>max (dep p) (cj ps)
end
mutual
theorem Rep.heap{X:Cx}{pins:1e8}{σ:St}{H:Hp}{s:Shared}{ι:2e1}(I:2e0):∀(p:PV){v:V}{u:Value},Rep X.K ι H p v->RelV v u->dat p=true->ab s.heap p u
 |.aF,v,u,h,r,_=>by ext Rep h;subst h;ext ab;show r
 |.bl b,v,u,h,r,_=>by ext Rep h;subst h;ext ab;show r
 |.int i,v,u,h,r,_=>by ext Rep h;subst h;ext ab;show r
 |.str x,v,u,h,r,_=>by ext Rep h;obtain⟨rfl,h⟩:=h;ext ab;show r
 |.tup ps,v,u,h,r,d=>by
  ext Rep h;obtain⟨a,vs,rfl,h,rs⟩:=h;cases r;obtain⟨aw,r',pl,hz⟩:=I.tuple h.sq;ext ab;ext dat d;show⟨a,aw,rfl,pl,ae.heap I ps rs r' d⟩
 |.lst ps,v,u,h,r,d=>by
  ext Rep h;obtain⟨a,vs,rfl,h,rs⟩:=h;cases r;obtain⟨aw,r',pl,hz⟩:=I.list h.sq;ext ab;ext dat d;show⟨a,aw,rfl,pl.isList,ae.heap I ps rs r' d⟩
 |.cV ks ps,v,u,h,r,d=>by ext dat d;cases d
 |.aG ks ps,v,u,h,r,d=>by ext dat d;cases d
 |.fn a,v,u,h,r,d=>by ext dat d;cases d
 |.ty n,v,u,h,r,d=>by ext dat d;cases d
theorem ae.heap{X:Cx}{pins:1e8}{σ:St}{H:Hp}{s:Shared}{ι:2e1}(I:2e0):∀(ps:List PV){vs:List V}{us:2e6},ae X.K ι H ps vs->Vals vs us->gj ps=true->ao s.heap ps us
 |[],vs,us,h,r,_=>by ext ae h;subst h;cases r;ext ao;rfl
 |p::ps,vs,us,h,r,d=>by
  ext ae h;obtain⟨v,w,rfl,h1,h2⟩:=h;cases r with
  |cons r1 r2=>
   ext gj d;rw[YI]at d;ext ao;show⟨_,_,rfl,Rep.heap I p h1 r1 d.1,ae.heap I ps h2 r2 d.2⟩
end
theorem Lies.heap{X:Cx}{pins:1e8}{σ:St}{H:Hp}{s:Shared}{ι:2e1}(I:2e0){p:PV}{v:V}{u:Value}(l:Lies X.K ι H p v)(r:RelV v u)(d:dat p=true):ab s.heap p u:=by
 cases l with
 |aF=>ext ab;show r
 |bl b=>ext ab;show r
 |int i=>ext ab;show r
 |str x h=>ext ab;show r
 |tup h rs=>
  cases r;obtain⟨aw,r',pl,hz⟩:=I.tuple h.sq;ext ab;ext dat d;show⟨_,aw,rfl,pl,ae.heap I _ rs r' d⟩
 |lst h rs=>
  cases r;obtain⟨aw,r',pl,hz⟩:=I.list h;ext ab;ext dat d;show⟨_,aw,rfl,pl.isList,ae.heap I _ rs r' d⟩
 |cV h hl rs=>ext dat d;cases d
 |aG h hl rs=>ext dat d;cases d
 |fn a=>ext dat d;cases d
 |ty n=>ext dat d;cases d
mutual
noncomputable def aE:PV->PV->Bool
 |.aF,.aF=>true
 |.bl a,.bl b=>a==b
 |.bl a,.int b=>(if a then 1 else 0)==b
 |.int a,.bl b=>a==(if b then 1 else 0)
 |.int a,.int b=>a==b
 |.str a,.str b=>a==b
 |.tup xs,.tup ys=>dX xs ys
 |.lst xs,.lst ys=>dX xs ys
 |_,_=>false
noncomputable def dX:List PV->List PV->Bool
 |[],[]=>true
 |x::xs,y::ys=>aE x y&&dX xs ys
 |_,_=>false
end
theorem Zdm{h:Heap}{a:Addr}{us vs:2e6}(h1:h.IsTuple a us.toArray)(h2:h.IsTuple a vs.toArray):us=vs:=by
 obtain⟨o,e,_,n,d⟩:=h1;obtain⟨o',e',_,n',d'⟩:=h2;rw[e]at e';cases e';rw[d]at d';injection d' with d1 _;simpa using d1
theorem ZdV{h:Heap}{a:Addr}{us vs:2e6}(h1:h.IsList a us.toArray)(h2:h.IsList a vs.toArray):us=vs:=by
 obtain⟨o,e,_,n,d⟩:=h1;obtain⟨o',e',_,n',d'⟩:=h2;rw[e]at e';cases e';rw[d]at d';injection d' with d1 _;simpa using d1
theorem QW{h:Heap}{a:Addr}{us vs:2e6}(h1:h.IsTuple a us.toArray)(h2:h.IsList a vs.toArray):False:=by
 obtain⟨o,e,c,_⟩:=h1;obtain⟨o',e',c',_⟩:=h2;rw[e]at e';cases e';rw[c]at c';injection c' with c';show absurd c' (by decide)
mutual
theorem ab.same{h:Heap}:∀(p:PV){q:PV}{u:Value},ab h p u->ab h q u->aE p q=true
 |.aF,q,u,a,b=>by
  ext ab a;subst a;cases q<;>ext ab b<;>first|rfl|(cases b;done)|(obtain⟨_,e⟩:=b;cases e;done)|(obtain⟨_,_,e,_⟩:=b;cases e;done)|show b.elim
 |.bl x,q,u,a,b=>by
  ext ab a;subst a;cases q<;>ext ab b<;>first|(cases b;done)|(cases b;ext aE;show beq_self_eq_true _)|(obtain⟨_,e⟩:=b;cases e;done)|(obtain⟨_,_,e,_⟩:=b;cases e;done)|show b.elim
 |.int x,q,u,a,b=>by
  ext ab a;obtain⟨t,rfl⟩:=a;cases q<;>ext ab b<;>first|(cases b;done)|(obtain⟨_,e⟩:=b;cases e;done)|(obtain⟨_,e⟩:=b;cases e;ext aE;show beq_self_eq_true _)|(obtain⟨_,_,e,_⟩:=b;cases e;done)|show b.elim
 |.str x,q,u,a,b=>by
  ext ab a;obtain⟨t,rfl⟩:=a;cases q<;>ext ab b<;>first|(cases b;done)|(obtain⟨_,e⟩:=b;cases e;done)|(obtain⟨_,e⟩:=b;cases e;ext aE;show beq_self_eq_true _)|(obtain⟨_,_,e,_⟩:=b;cases e;done)|show b.elim
 |.tup ps,q,u,a,b=>by
  ext ab a;obtain⟨l,us,rfl,h1,r1⟩:=a;cases q with
  |tup qs=>
   ext ab b;obtain⟨l',vs,e,h2,r2⟩:=b;cases e;cases Zdm h1 h2;ext aE;show ao.same ps r1 r2
  |lst qs=>ext ab b;obtain⟨l',vs,e,h2,r2⟩:=b;cases e;show(QW h1 h2).elim
  |_=>ext ab b;first|(cases b;done)|(obtain⟨_,e⟩:=b;cases e;done)|show b.elim
 |.lst ps,q,u,a,b=>by
  ext ab a;obtain⟨l,us,rfl,h1,r1⟩:=a;cases q with
  |lst qs=>
   ext ab b;obtain⟨l',vs,e,h2,r2⟩:=b;cases e;cases ZdV h1 h2;ext aE;show ao.same ps r1 r2
  |tup qs=>ext ab b;obtain⟨l',vs,e,h2,r2⟩:=b;cases e;show(QW h2 h1).elim
  |_=>ext ab b;first|(cases b;done)|(obtain⟨_,e⟩:=b;cases e;done)|show b.elim
 |.cV _ _,q,u,a,b=>by ext ab a;show a.elim
 |.aG _ _,q,u,a,b=>by ext ab a;show a.elim
 |.fn _,q,u,a,b=>by ext ab a;show a.elim
 |.ty _,q,u,a,b=>by ext ab a;show a.elim
theorem ao.same{h:Heap}:∀(ps:List PV){qs:List PV}{us:2e6},ao h ps us->ao h qs us->dX ps qs=true
 |[],qs,us,a,b=>by
  ext ao a;subst a;cases qs with
  |nil=>rfl
  |cons q qs=>ext ao b;obtain⟨_,_,e,_⟩:=b;cases e
 |p::ps,qs,us,a,b=>by
  ext ao a;obtain⟨v,r,rfl,a1,a2⟩:=a;cases qs with
  |nil=>ext ao b;cases b
  |cons q qs=>
   ext ao b;obtain⟨v',r',e,b1,b2⟩:=b;cases e;ext dX;rw[ab.same p a1 b1,ao.same ps a2 b2];rfl
end
end Pu
namespace Pu
open PySem PySem.Spec L2 PySem.SeqAt
open PyProof.Rows hiding St Fr
theorem ao.length{h:Heap}:∀{ps:List PV}{us:2e6},ao h ps us->ps.length=us.length
 |[],us,a=>by ext ao a;subst a;rfl
 |p::ps,us,a=>by ext ao a;obtain⟨v,r,rfl,_,b⟩:=a;rw[Yu,Yu,b.length]
theorem ZZ:∀(ps qs:List PV),(((YB (min ps.length qs.length)).all λj=>aE (ps.getD j .aF) (qs.getD j .aF))&&ps.length==qs.length)=dX ps qs
 |[],[]=>rfl
 |[],_::_=>by ext dX;simp
 |_::_,[]=>by ext dX;simp
 |p::ps,q::qs=>by
  rw[dX,←ZZ ps qs,Yu,Yu,Nat.succ_min_succ,List.range_succ_eq_map,VR,List.all_map];rw[show(ps.length+1==qs.length+1)=(ps.length==qs.length) by simp[BEq.beq]];rw[Bool.and_assoc];rfl
theorem qi{ps qs:List PV}(e:ps.length=qs.length):((YB ps.length).all λj=>aE (ps.getD j .aF) (qs.getD j .aF))=dX ps qs:=by
 have:=ZZ ps qs;rw[←e,Nat.min_self,beq_self_eq_true,Bool.and_true]at this;show this
theorem qj:∀{ps qs:List PV},ps.length≠qs.length->dX ps qs=false
 |[],[],h=>absurd rfl h
 |[],_::_,_=>by ext dX;rfl
 |_::_,[],_=>by ext dX;rfl
 |p::ps,q::qs,h=>by ext dX;rw[qj λz=>h (by rw[Yu,Yu,z]),Rz]
section
variable{s:Shared}
theorem RcAt.MA{A:Around}{a b:Addr}{us vs:2e6}{ps qs:List PV}(h1:s.heap.IsTuple a us.toArray)(h2:s.heap.IsTuple b vs.toArray)(l1:ps.length=us.length)(l2:qs.length=vs.length)(hu:4e8)
  (he:∀j(h1:j<us.length)(h2:j<vs.length),EqAt A.in1 s us[j] vs[j] (aE (ps.getD j .aF) (qs.getD j .aF))):RcAt A s (.ref a) (.ref b) (dX ps qs):=by
 have:=RcAt.tuples h1 h2 hu (e:=λj=>aE (ps.getD j .aF) (qs.getD j .aF)) (λj z1 z2=>by simpa using he j (by simpa using z1) (by simpa using z2));simp only[Yp,←l1,←l2]at this;rw[ZZ]at this;show this
theorem RcAt.ND{A:Around}{a b:Addr}{us vs:2e6}{ps qs:List PV}(h1:s.heap.IsList a us.toArray)(h2:s.heap.IsList b vs.toArray)(l1:ps.length=us.length)(l2:qs.length=vs.length)(hu:4e8)
  (he:∀j(h1:j<us.length)(h2:j<vs.length),EqAt A.in1 s us[j] vs[j] (aE (ps.getD j .aF) (qs.getD j .aF))):RcAt A s (.ref a) (.ref b) (dX ps qs):=by
 by_cases e:us.length=vs.length
 ·have:=RcAt.lists h1 h2 (by simpa using e) hu (e:=λj=>aE (ps.getD j .aF) (qs.getD j .aF)) (λj z1 z2=>by simpa using he j (by simpa using z1) (by simpa using z2))
  simp only[Yp,←l1]at this;rw[qi 1e0]at this;show this
 ·have:=RcAt.lists_lengths h1 h2 (by simpa using e) hu
  rw[qj 1e0];show this
end
section
variable{s:Shared}
theorem EqAt.zI{q:PV}{u v:Value}{A:Around}(a:ab s.heap .aF u)(b:ab s.heap q v)(a9:4e8):EqAt A s u v (aE .aF q):=by
 ext ab a;subst a;cases q<;>ext ab b
 ·ext aE;subst b;show EqAt.same _
 ·ext aE;subst b;show EqAt.none_bool _
 ·ext aE;obtain⟨_,rfl⟩:=b;show EqAt.none_int _ _
 ·ext aE;obtain⟨_,rfl⟩:=b;show EqAt.none_str _ _
 ·ext aE;obtain⟨_,_,rfl,eQ,_⟩:=b;show EqAt.none_tuple eQ a9
 ·ext aE;obtain⟨_,_,rfl,eQ,_⟩:=b;show EqAt.none_list eQ a9
 ·show b.elim
 ·show b.elim
 ·show b.elim
 ·show b.elim
theorem EqAt.HA{x:Bool}{q:PV}{u v:Value}{A:Around}(a:ab s.heap (.bl x) u)(b:ab s.heap q v)(a9:4e8):EqAt A s u v (aE (.bl x) q):=by
 ext ab a;subst a;cases q<;>ext ab b
 ·ext aE;subst b;show EqAt.bool_none _
 ·ext aE;subst b;show EqAt.bool_bool _ _
 ·ext aE;obtain⟨_,rfl⟩:=b;show EqAt.bool_int _ _ _
 ·ext aE;obtain⟨_,rfl⟩:=b;show EqAt.bool_str _ _ _
 ·ext aE;obtain⟨_,_,rfl,eQ,_⟩:=b;show EqAt.bool_tuple _ eQ a9
 ·ext aE;obtain⟨_,_,rfl,eQ,_⟩:=b;show EqAt.bool_list _ eQ a9
 ·show b.elim
 ·show b.elim
 ·show b.elim
 ·show b.elim
theorem EqAt.zJ{x:Int}{q:PV}{u v:Value}{A:Around}(a:ab s.heap (.int x) u)(b:ab s.heap q v)(a9:4e8):EqAt A s u v (aE (.int x) q):=by
 ext ab a;obtain⟨_,rfl⟩:=a;cases q<;>ext ab b
 ·ext aE;subst b;show EqAt.int_none _ _
 ·ext aE;subst b;show EqAt.int_bool _ _ _
 ·ext aE;obtain⟨_,rfl⟩:=b;show EqAt.int_int _ _ _ _
 ·ext aE;obtain⟨_,rfl⟩:=b;show EqAt.int_str _ _ _ _
 ·ext aE;obtain⟨_,_,rfl,eQ,_⟩:=b;show EqAt.int_tuple _ _ eQ a9
 ·ext aE;obtain⟨_,_,rfl,eQ,_⟩:=b;show EqAt.int_list _ _ eQ a9
 ·show b.elim
 ·show b.elim
 ·show b.elim
 ·show b.elim
theorem EqAt.zH{x:Str}{q:PV}{u v:Value}{A:Around}(a:ab s.heap (.str x) u)(b:ab s.heap q v)(a9:4e8):EqAt A s u v (aE (.str x) q):=by
 ext ab a;obtain⟨_,rfl⟩:=a;cases q<;>ext ab b
 ·ext aE;subst b;show EqAt.str_none _ _
 ·ext aE;subst b;show EqAt.str_bool _ _ _
 ·ext aE;obtain⟨_,rfl⟩:=b;show EqAt.str_int _ _ _ _
 ·ext aE;obtain⟨_,rfl⟩:=b;show EqAt.str_str _ _ _ _
 ·ext aE;obtain⟨_,_,rfl,eQ,_⟩:=b;show EqAt.str_tuple _ _ eQ a9
 ·ext aE;obtain⟨_,_,rfl,eQ,_⟩:=b;show EqAt.str_list _ _ eQ a9
 ·show b.elim
 ·show b.elim
 ·show b.elim
 ·show b.elim
theorem EqAt.gV{ps:List PV}{u v:Value}{A:Around}(a:ab s.heap (.tup ps) u)(b:ab s.heap .aF v)(a9:4e8):EqAt A s u v (aE (.tup ps) .aF):=by
 unfold ab at a b;ext aE;obtain⟨_,_,rfl,eR,_⟩:=a;subst b;show EqAt.tuple_none eR a9
theorem EqAt.je{x:Bool}{ps:List PV}{u v:Value}{A:Around}(a:ab s.heap (.tup ps) u)(b:ab s.heap (.bl x) v)(a9:4e8):EqAt A s u v (aE (.tup ps) (.bl x)):=by
 unfold ab at a b;ext aE;obtain⟨_,_,rfl,eR,_⟩:=a;subst b;show EqAt.tuple_bool _ eR a9
theorem EqAt.gX{x:Int}{ps:List PV}{u v:Value}{A:Around}(a:ab s.heap (.tup ps) u)(b:ab s.heap (.int x) v)(a9:4e8):EqAt A s u v (aE (.tup ps) (.int x)):=by
 unfold ab at a b;ext aE;obtain⟨_,_,rfl,eR,_⟩:=a;obtain⟨_,rfl⟩:=b;show EqAt.tuple_int _ _ eR a9
theorem EqAt.gU{x:Str}{ps:List PV}{u v:Value}{A:Around}(a:ab s.heap (.tup ps) u)(b:ab s.heap (.str x) v)(a9:4e8):EqAt A s u v (aE (.tup ps) (.str x)):=by
 unfold ab at a b;ext aE;obtain⟨_,_,rfl,eR,_⟩:=a;obtain⟨_,rfl⟩:=b;show EqAt.tuple_str _ _ eR a9
theorem EqAt.gW{x:List PV}{ps:List PV}{u v:Value}{A:Around}(a:ab s.heap (.tup ps) u)(b:ab s.heap (.lst x) v)(a9:4e8):EqAt A s u v (aE (.tup ps) (.lst x)):=by
 unfold ab at a b;ext aE;obtain⟨_,_,rfl,eR,_⟩:=a;obtain⟨_,_,rfl,eQ,_⟩:=b;show EqAt.tuple_list eR eQ a9
theorem EqAt.g6{ps:List PV}{u v:Value}{A:Around}(a:ab s.heap 9e5 u)(b:ab s.heap .aF v)(a9:4e8):EqAt A s u v (aE 9e5 .aF):=by
 unfold ab at a b;ext aE;obtain⟨_,_,rfl,eR,_⟩:=a;subst b;show EqAt.list_none eR a9
theorem EqAt.jf{x:Bool}{ps:List PV}{u v:Value}{A:Around}(a:ab s.heap 9e5 u)(b:ab s.heap (.bl x) v)(a9:4e8):EqAt A s u v (aE 9e5 (.bl x)):=by
 unfold ab at a b;ext aE;obtain⟨_,_,rfl,eR,_⟩:=a;subst b;show EqAt.list_bool _ eR a9
theorem EqAt.g7{x:Int}{ps:List PV}{u v:Value}{A:Around}(a:ab s.heap 9e5 u)(b:ab s.heap (.int x) v)(a9:4e8):EqAt A s u v (aE 9e5 (.int x)):=by
 unfold ab at a b;ext aE;obtain⟨_,_,rfl,eR,_⟩:=a;obtain⟨_,rfl⟩:=b;show EqAt.list_int _ _ eR a9
theorem EqAt.gZ{x:Str}{ps:List PV}{u v:Value}{A:Around}(a:ab s.heap 9e5 u)(b:ab s.heap (.str x) v)(a9:4e8):EqAt A s u v (aE 9e5 (.str x)):=by
 unfold ab at a b;ext aE;obtain⟨_,_,rfl,eR,_⟩:=a;obtain⟨_,rfl⟩:=b;show EqAt.list_str _ _ eR a9
theorem EqAt.gY{x:List PV}{ps:List PV}{u v:Value}{A:Around}(a:ab s.heap 9e5 u)(b:ab s.heap (.tup x) v)(a9:4e8):EqAt A s u v (aE 9e5 (.tup x)):=by
 unfold ab at a b;ext aE;obtain⟨_,_,rfl,eR,_⟩:=a;obtain⟨_,_,rfl,eQ,_⟩:=b;show EqAt.list_tuple eR eQ a9
theorem RcAt.zI{q:PV}{u v:Value}{A:Around}(a:ab s.heap .aF u)(b:ab s.heap q v)(a9:4e8):RcAt A s u v (aE .aF q):=by
 ext ab a;subst a;cases q<;>ext ab b
 ·ext aE;subst b;show RcAt.none_none
 ·ext aE;subst b;show RcAt.none_bool _
 ·ext aE;obtain⟨_,rfl⟩:=b;show RcAt.none_int _ _
 ·ext aE;obtain⟨_,rfl⟩:=b;show RcAt.none_str _ _
 ·ext aE;obtain⟨_,_,rfl,eQ,_⟩:=b;show RcAt.none_tuple eQ a9
 ·ext aE;obtain⟨_,_,rfl,eQ,_⟩:=b;show RcAt.none_list eQ a9
 ·show b.elim
 ·show b.elim
 ·show b.elim
 ·show b.elim
theorem RcAt.HA{x:Bool}{q:PV}{u v:Value}{A:Around}(a:ab s.heap (.bl x) u)(b:ab s.heap q v)(a9:4e8):RcAt A s u v (aE (.bl x) q):=by
 ext ab a;subst a;cases q<;>ext ab b
 ·ext aE;subst b;show RcAt.bool_none _
 ·ext aE;subst b;show RcAt.bool_bool _ _
 ·ext aE;obtain⟨_,rfl⟩:=b;show RcAt.bool_int _ _ _
 ·ext aE;obtain⟨_,rfl⟩:=b;show RcAt.bool_str _ _ _
 ·ext aE;obtain⟨_,_,rfl,eQ,_⟩:=b;show RcAt.bool_tuple _ eQ a9
 ·ext aE;obtain⟨_,_,rfl,eQ,_⟩:=b;show RcAt.bool_list _ eQ a9
 ·show b.elim
 ·show b.elim
 ·show b.elim
 ·show b.elim
theorem RcAt.zJ{x:Int}{q:PV}{u v:Value}{A:Around}(a:ab s.heap (.int x) u)(b:ab s.heap q v)(a9:4e8):RcAt A s u v (aE (.int x) q):=by
 ext ab a;obtain⟨_,rfl⟩:=a;cases q<;>ext ab b
 ·ext aE;subst b;show RcAt.int_none _ _
 ·ext aE;subst b;show RcAt.int_bool _ _ _
 ·ext aE;obtain⟨_,rfl⟩:=b;show RcAt.int_int _ _ _ _
 ·ext aE;obtain⟨_,rfl⟩:=b;show RcAt.int_str _ _ _ _
 ·ext aE;obtain⟨_,_,rfl,eQ,_⟩:=b;show RcAt.int_tuple _ _ eQ a9
 ·ext aE;obtain⟨_,_,rfl,eQ,_⟩:=b;show RcAt.int_list _ _ eQ a9
 ·show b.elim
 ·show b.elim
 ·show b.elim
 ·show b.elim
theorem RcAt.zH{x:Str}{q:PV}{u v:Value}{A:Around}(a:ab s.heap (.str x) u)(b:ab s.heap q v)(a9:4e8):RcAt A s u v (aE (.str x) q):=by
 ext ab a;obtain⟨_,rfl⟩:=a;cases q<;>ext ab b
 ·ext aE;subst b;show RcAt.str_none _ _
 ·ext aE;subst b;show RcAt.str_bool _ _ _
 ·ext aE;obtain⟨_,rfl⟩:=b;show RcAt.str_int _ _ _ _
 ·ext aE;obtain⟨_,rfl⟩:=b;show RcAt.str_str _ _ _ _
 ·ext aE;obtain⟨_,_,rfl,eQ,_⟩:=b;show RcAt.str_tuple _ _ eQ a9
 ·ext aE;obtain⟨_,_,rfl,eQ,_⟩:=b;show RcAt.str_list _ _ eQ a9
 ·show b.elim
 ·show b.elim
 ·show b.elim
 ·show b.elim
theorem RcAt.gV{ps:List PV}{u v:Value}{A:Around}(a:ab s.heap (.tup ps) u)(b:ab s.heap .aF v)(a9:4e8):RcAt A s u v (aE (.tup ps) .aF):=by
 unfold ab at a b;ext aE;obtain⟨_,_,rfl,eR,_⟩:=a;subst b;show RcAt.tuple_none eR a9
theorem RcAt.je{x:Bool}{ps:List PV}{u v:Value}{A:Around}(a:ab s.heap (.tup ps) u)(b:ab s.heap (.bl x) v)(a9:4e8):RcAt A s u v (aE (.tup ps) (.bl x)):=by
 unfold ab at a b;ext aE;obtain⟨_,_,rfl,eR,_⟩:=a;subst b;show RcAt.tuple_bool _ eR a9
theorem RcAt.gX{x:Int}{ps:List PV}{u v:Value}{A:Around}(a:ab s.heap (.tup ps) u)(b:ab s.heap (.int x) v)(a9:4e8):RcAt A s u v (aE (.tup ps) (.int x)):=by
 unfold ab at a b;ext aE;obtain⟨_,_,rfl,eR,_⟩:=a;obtain⟨_,rfl⟩:=b;show RcAt.tuple_int _ _ eR a9
theorem RcAt.gU{x:Str}{ps:List PV}{u v:Value}{A:Around}(a:ab s.heap (.tup ps) u)(b:ab s.heap (.str x) v)(a9:4e8):RcAt A s u v (aE (.tup ps) (.str x)):=by
 unfold ab at a b;ext aE;obtain⟨_,_,rfl,eR,_⟩:=a;obtain⟨_,rfl⟩:=b;show RcAt.tuple_str _ _ eR a9
theorem RcAt.gW{x:List PV}{ps:List PV}{u v:Value}{A:Around}(a:ab s.heap (.tup ps) u)(b:ab s.heap (.lst x) v)(a9:4e8):RcAt A s u v (aE (.tup ps) (.lst x)):=by
 unfold ab at a b;ext aE;obtain⟨_,_,rfl,eR,_⟩:=a;obtain⟨_,_,rfl,eQ,_⟩:=b;show RcAt.tuple_list eR eQ a9
theorem RcAt.g6{ps:List PV}{u v:Value}{A:Around}(a:ab s.heap 9e5 u)(b:ab s.heap .aF v)(a9:4e8):RcAt A s u v (aE 9e5 .aF):=by
 unfold ab at a b;ext aE;obtain⟨_,_,rfl,eR,_⟩:=a;subst b;show RcAt.list_none eR a9
theorem RcAt.jf{x:Bool}{ps:List PV}{u v:Value}{A:Around}(a:ab s.heap 9e5 u)(b:ab s.heap (.bl x) v)(a9:4e8):RcAt A s u v (aE 9e5 (.bl x)):=by
 unfold ab at a b;ext aE;obtain⟨_,_,rfl,eR,_⟩:=a;subst b;show RcAt.list_bool _ eR a9
theorem RcAt.g7{x:Int}{ps:List PV}{u v:Value}{A:Around}(a:ab s.heap 9e5 u)(b:ab s.heap (.int x) v)(a9:4e8):RcAt A s u v (aE 9e5 (.int x)):=by
 unfold ab at a b;ext aE;obtain⟨_,_,rfl,eR,_⟩:=a;obtain⟨_,rfl⟩:=b;show RcAt.list_int _ _ eR a9
theorem RcAt.gZ{x:Str}{ps:List PV}{u v:Value}{A:Around}(a:ab s.heap 9e5 u)(b:ab s.heap (.str x) v)(a9:4e8):RcAt A s u v (aE 9e5 (.str x)):=by
 unfold ab at a b;ext aE;obtain⟨_,_,rfl,eR,_⟩:=a;obtain⟨_,rfl⟩:=b;show RcAt.list_str _ _ eR a9
theorem RcAt.gY{x:List PV}{ps:List PV}{u v:Value}{A:Around}(a:ab s.heap 9e5 u)(b:ab s.heap (.tup x) v)(a9:4e8):RcAt A s u v (aE 9e5 (.tup x)):=by
 unfold ab at a b;ext aE;obtain⟨_,_,rfl,eR,_⟩:=a;obtain⟨_,_,rfl,eQ,_⟩:=b;show RcAt.list_tuple eR eQ a9
mutual
theorem ab.nJ:∀(p:PV){q:PV}{u v:Value}{A:Around},ab s.heap p u->ab s.heap q v->A.units+dep p<cLine->EqAt A s u v (aE p q)
 |.aF,q,u,v,A,a,b,hu=>EqAt.zI a b 1e0
 |.bl x,q,u,v,A,a,b,hu=>EqAt.HA a b 1e0
 |.int x,q,u,v,A,a,b,hu=>EqAt.zJ a b 1e0
 |.str x,q,u,v,A,a,b,hu=>EqAt.zH a b 1e0
 |.tup ps,q,u,v,A,a,b,hu=>by
  have a9:A.units<cLine:=by lia
  cases q with
  |aF=>show EqAt.gV a b a9
  |bl x=>show EqAt.je a b a9
  |int x=>show EqAt.gX a b a9
  |str x=>show EqAt.gU a b a9
  |lst x=>show EqAt.gW a b a9
  |tup qs=>
   have a0:=a;have b0:=b
   unfold ab at a b;obtain⟨l,us,rfl,h1,r1⟩:=a;obtain⟨l',vs,rfl,h2,r2⟩:=b;ext dep hu;by_cases e:l=l'
   ·subst e
    rw[ab.same _ a0 b0];show EqAt.same _
   ·ext aE
    show .of_refs e (RcAt.MA h1 h2 r1.length r2.length a9 (ao.nJ ps r1 r2 (by rw[Wj];lia)))
  |cV _ _=>ext ab b;show b.elim
  |aG _ _=>ext ab b;show b.elim
  |fn _=>ext ab b;show b.elim
  |ty _=>ext ab b;show b.elim
 |.lst ps,q,u,v,A,a,b,hu=>by
  have a9:A.units<cLine:=by lia
  cases q with
  |aF=>show EqAt.g6 a b a9
  |bl x=>show EqAt.jf a b a9
  |int x=>show EqAt.g7 a b a9
  |str x=>show EqAt.gZ a b a9
  |tup x=>show EqAt.gY a b a9
  |lst qs=>
   have a0:=a;have b0:=b
   unfold ab at a b;obtain⟨l,us,rfl,h1,r1⟩:=a;obtain⟨l',vs,rfl,h2,r2⟩:=b;ext dep hu;by_cases e:l=l'
   ·subst e
    rw[ab.same _ a0 b0];show EqAt.same _
   ·ext aE
    show .of_refs e (RcAt.ND h1 h2 r1.length r2.length a9 (ao.nJ ps r1 r2 (by rw[Wj];lia)))
  |cV _ _=>ext ab b;show b.elim
  |aG _ _=>ext ab b;show b.elim
  |fn _=>ext ab b;show b.elim
  |ty _=>ext ab b;show b.elim
 |.cV _ _,q,u,v,A,a,b,hu=>by ext ab a;show a.elim
 |.aG _ _,q,u,v,A,a,b,hu=>by ext ab a;show a.elim
 |.fn _,q,u,v,A,a,b,hu=>by ext ab a;show a.elim
 |.ty _,q,u,v,A,a,b,hu=>by ext ab a;show a.elim
theorem ao.nJ:∀(ps:List PV){qs:List PV}{us vs:2e6}{A:Around},ao s.heap ps us->ao s.heap qs vs->A.units+cj ps<cLine->
  ∀j(h1:j<us.length)(h2:j<vs.length),EqAt A s us[j] vs[j] (aE (ps.getD j .aF) (qs.getD j .aF))
 |[],qs,us,vs,A,a,b,hu=>λj h1 _=>by ext ao a;subst a;cases h1
 |p::ps,qs,us,vs,A,a,b,hu=>λj h1 h2=>by
  ext ao a;obtain⟨v,r,rfl,a1,a2⟩:=a;ext cj hu;cases qs with
  |nil=>ext ao b;subst b;cases h2
  |cons q qs=>
   ext ao b;obtain⟨v',r',rfl,b1,b2⟩:=b;cases j with
   |zero=>show ab.nJ p a1 b1 1e0
   |succ j=>simpa using ao.nJ ps a2 b2 1e0 j (by simpa using h1) (by simpa using h2)
end
theorem ab.Sd:∀(p:PV){q:PV}{u v:Value}{A:Around},ab s.heap p u->ab s.heap q v->A.units+dep p<cLine->RcAt A s u v (aE p q)
 |.aF,q,u,v,A,a,b,hu=>RcAt.zI a b 1e0
 |.bl x,q,u,v,A,a,b,hu=>RcAt.HA a b 1e0
 |.int x,q,u,v,A,a,b,hu=>RcAt.zJ a b 1e0
 |.str x,q,u,v,A,a,b,hu=>RcAt.zH a b 1e0
 |.tup ps,q,u,v,A,a,b,hu=>by
  have a9:A.units<cLine:=by lia
  cases q with
  |aF=>show RcAt.gV a b a9
  |bl x=>show RcAt.je a b a9
  |int x=>show RcAt.gX a b a9
  |str x=>show RcAt.gU a b a9
  |lst x=>show RcAt.gW a b a9
  |tup qs=>
   have a0:=a;have b0:=b
   unfold ab at a b;obtain⟨l,us,rfl,h1,r1⟩:=a;obtain⟨l',vs,rfl,h2,r2⟩:=b;ext dep hu;ext aE;show RcAt.MA h1 h2 r1.length r2.length a9 (ao.nJ ps r1 r2 (by rw[Wj];lia))
  |cV _ _=>ext ab b;show b.elim
  |aG _ _=>ext ab b;show b.elim
  |fn _=>ext ab b;show b.elim
  |ty _=>ext ab b;show b.elim
 |.lst ps,q,u,v,A,a,b,hu=>by
  have a9:A.units<cLine:=by lia
  cases q with
  |aF=>show RcAt.g6 a b a9
  |bl x=>show RcAt.jf a b a9
  |int x=>show RcAt.g7 a b a9
  |str x=>show RcAt.gZ a b a9
  |tup x=>show RcAt.gY a b a9
  |lst qs=>
   have a0:=a;have b0:=b
   unfold ab at a b;obtain⟨l,us,rfl,h1,r1⟩:=a;obtain⟨l',vs,rfl,h2,r2⟩:=b;ext dep hu;ext aE;show RcAt.ND h1 h2 r1.length r2.length a9 (ao.nJ ps r1 r2 (by rw[Wj];lia))
  |cV _ _=>ext ab b;show b.elim
  |aG _ _=>ext ab b;show b.elim
  |fn _=>ext ab b;show b.elim
  |ty _=>ext ab b;show b.elim
 |.cV _ _,q,u,v,A,a,b,hu=>by ext ab a;show a.elim
 |.aG _ _,q,u,v,A,a,b,hu=>by ext ab a;show a.elim
 |.fn _,q,u,v,A,a,b,hu=>by ext ab a;show a.elim
 |.ty _,q,u,v,A,a,b,hu=>by ext ab a;show a.elim
end
section
variable{X:Cx}
abbrev Gn(K:W.Frag)(g:PV->PV->Bool):R2:=λx y H Q=>∃ι p q,Lies K ι H p x/\Lies K ι H q y/\dat p=true/\dat q=true/\dep p<=60/\Q (.bl (g p q)) H
theorem LW(hu:5e6):fX X (WW .Eq) (Gn X.K aE):=by
 sleep 7;obtain⟨ι,p,q,lx,ly,dp,dq,de,k⟩:=h;show ab.Sd p (lx.heap I rx dp) (ly.heap I ry dq) 1e0 X.prog X.w X.xe _ ⟨.bl _,H,I,rfl,k⟩
def b8(g:PV->PV->Bool)(p q:PV):Option PV:=if dat p&&dat q&&decide (dep p<=60)then some (.bl (g p q))else none
theorem LZ{g:PV->PV->Bool}:gO X.K (Gn X.K g) (b8 g):=by
 intro ι H C p q vx vy z Q cr lx ly e k;ext b8 e;split at e
 ·rename_i h
  cases e;simp only[YI,decide_eq_true_eq]at h;show⟨ι,p,q,lx,ly,h.1.1,h.1.2,h.2,k _ H .refl cr ik⟩
 ·cases e
theorem dW{A:Around}{k:Nat}(hr:b9 k A):A.units+64<cLine:=hr.units
end
mutual
theorem ab.inj{h:Heap}:∀(p:PV){q:PV}{u:Value},ab h p u->ab h q u->p=q
 |.aF,q,u,a,b=>by
  ext ab a;subst a;cases q<;>ext ab b<;>first|rfl|(cases b;done)|(obtain⟨_,e⟩:=b;cases e;done)|(obtain⟨_,_,e,_⟩:=b;cases e;done)|show b.elim
 |.bl x,q,u,a,b=>by
  ext ab a;subst a;cases q<;>ext ab b<;>first|(cases b;done)|(cases b;rfl)|(obtain⟨_,e⟩:=b;cases e;done)|(obtain⟨_,_,e,_⟩:=b;cases e;done)|show b.elim
 |.int x,q,u,a,b=>by
  ext ab a;obtain⟨t,rfl⟩:=a;cases q<;>ext ab b<;>first|(cases b;done)|(obtain⟨_,e⟩:=b;cases e;done)|(obtain⟨_,e⟩:=b;cases e;rfl)|(obtain⟨_,_,e,_⟩:=b;cases e;done)|show b.elim
 |.str x,q,u,a,b=>by
  ext ab a;obtain⟨t,rfl⟩:=a;cases q<;>ext ab b<;>first|(cases b;done)|(obtain⟨_,e⟩:=b;cases e;done)|(obtain⟨_,e⟩:=b;cases e;rfl)|(obtain⟨_,_,e,_⟩:=b;cases e;done)|show b.elim
 |.tup ps,q,u,a,b=>by
  ext ab a;obtain⟨l,us,rfl,h1,r1⟩:=a;cases q with
  |tup qs=>
   ext ab b;obtain⟨l',vs,e,h2,r2⟩:=b;cases e;cases Zdm h1 h2;rw[ao.inj ps r1 r2]
  |lst qs=>ext ab b;obtain⟨l',vs,e,h2,r2⟩:=b;cases e;show(QW h1 h2).elim
  |_=>ext ab b;first|(cases b;done)|(obtain⟨_,e⟩:=b;cases e;done)|show b.elim
 |.lst ps,q,u,a,b=>by
  ext ab a;obtain⟨l,us,rfl,h1,r1⟩:=a;cases q with
  |lst qs=>
   ext ab b;obtain⟨l',vs,e,h2,r2⟩:=b;cases e;cases ZdV h1 h2;rw[ao.inj ps r1 r2]
  |tup qs=>ext ab b;obtain⟨l',vs,e,h2,r2⟩:=b;cases e;show(QW h2 h1).elim
  |_=>ext ab b;first|(cases b;done)|(obtain⟨_,e⟩:=b;cases e;done)|show b.elim
 |.cV _ _,q,u,a,b=>by ext ab a;show a.elim
 |.aG _ _,q,u,a,b=>by ext ab a;show a.elim
 |.fn _,q,u,a,b=>by ext ab a;show a.elim
 |.ty _,q,u,a,b=>by ext ab a;show a.elim
theorem ao.inj{h:Heap}:∀(ps:List PV){qs:List PV}{us:2e6},ao h ps us->ao h qs us->ps=qs
 |[],qs,us,a,b=>by
  ext ao a;subst a;cases qs with
  |nil=>rfl
  |cons q qs=>ext ao b;obtain⟨_,_,e,_⟩:=b;cases e
 |p::ps,qs,us,a,b=>by
  ext ao a;obtain⟨v,r,rfl,a1,a2⟩:=a;cases qs with
  |nil=>ext ao b;cases b
  |cons q qs=>
   ext ao b;obtain⟨v',r',e,b1,b2⟩:=b;cases e;rw[ab.inj p a1 b1,ao.inj ps a2 b2]
end
mutual
noncomputable def cg:PV->PV->Option Bool
 |.int a,.int b=>some (decide (a<b))
 |.str a,.str b=>some (decide (a.cps.toList<b.cps.toList))
 |.tup xs,.tup ys=>cC xs ys
 |_,_=>none
noncomputable def cC:List PV->List PV->Option Bool
 |[],[]=>some false
 |[],_::_=>some true
 |_::_,[]=>some false
 |x::xs,y::ys=>if aE x y then cC xs ys else cg x y
end
def fK(A:Around)(s:Shared)(y x:Value)(b:Bool):Prop:=
 ∀(prog:YF)(w:World)(E:1e1)(Q:1e1),Q (.bool b) s->wpAny 1e3 A (richCompare .Lt y x) Q E s
inductive dr(A:Around)(s:Shared):List PV->List PV->List Value->List Value->Prop
 |EI {qs:List PV} {vs:List Value} (h:qs.length=vs.length):dr A s [] qs [] vs
 |EH {ps:List PV} {us:List Value} (h:ps.length=us.length):dr A s ps [] us []
 |cons {p q:PV} {u v:Value} {ps qs:List PV} {us vs:List Value} (e:EqAt A s u v (aE p q)) (l:∀c,cg p q=some c->fK A s u v c) (t:dr A s ps qs us vs):dr A s (p::ps) (q::qs) (u::us) (v::vs)
section
open PySem.AutoSeq1 (wpAny_loadPart')
open PySem.MeetsSeq PySem.MeetsSeq2 PySem.MeetsSeq3
theorem lJ(x y:PV)(xs ys:List PV):cC (x::xs) (y::ys)=if aE x y then cC xs ys else cg x y:=by rw[cC]
theorem Q4:cC [] []=some false:=by rw[cC]
theorem Zci(y:PV)(ys:List PV):cC [] (y::ys)=some true:=by rw[cC]
theorem Zcj(x:PV)(xs:List PV):cC (x::xs) []=some false:=by rw[cC]
theorem xo(l b:Addr)(items dE:Array Value)(n n2:Nat)(dd zC:Option Addr)(sl rA:Array (Option Value))(ps qs:List PV)(c:Bool)(hc:cC ps qs=some c):
  Meets (WL.«tuple.__lt__» ⟨[.ref l,.ref b],[]⟩)
   (λA R s=>s.heap.get? l=some {cls:=.type "tuple",dict:=dd,data:=.seq items n,slots:=sl}/\s.heap.get? b=some {cls:=.type "tuple",dict:=zC,data:=.seq dE n2,slots:=rA}/\
    dr A.in1 s ps qs items.toList dE.toList/\R (.ok (.ret (.bool c))) s):=
 .of_wp λprog w A R s h=>by
  obtain⟨hp,g,d,tk,os⟩:=s;obtain⟨hl,hb,hpr,h⟩:=h;have f2:=AutoSeq1.sub_tuple_tuple
  wp_walk using Ut hl,Ut hb,wpAny_forIn_list _ (λrest b s'=>b.1=none/\s'=⟨hp,g,d,tk,os⟩/\∃(vs ws:2e6)(dQ zu:List PV),rest=vs.zip ws/\
   dr A.in1 ⟨hp,g,d,tk,os⟩ dQ zu vs ws/\vs.length+dE.size=ws.length+items.size/\cC dQ zu=some c) _
  case turn=>
   rintro⟨y,x⟩ rest b s' ⟨rG,rfl,vs,ws,dQ,zu,hz,Jy,hlen,hR⟩;cases Jy with
   |EI hh=>rw[List.zip_nil_left]at hz;cases hz
   |EH hh=>rw[List.zip_nil_right]at hz;cases hz
   |@cons p q u v zv qs2 us2 vs2 e lt t=>
    rw[Xn]at hz;injection hz with hyx N7;injection hyx with hy hx;subst hy hx;rw[lJ]at hR;simp only[Yu]at hlen;show Ya (e prog w _ _ ?_);cases ee:aE p q with
    |true=>
     rw[ee,if_pos rfl]at hR
     wp_walk
     show⟨rfl,rfl,_,_,_,_,N7,t,by lia,hR⟩
    |false=>
     rw[ee,if_neg Yw]at hR;have hri:=lt c hR prog w
     wp_walk using hri
     show⟨_,rfl,by simpa using h⟩
  case fin=>
   rintro⟨b1,b2⟩ s' ⟨rG,rfl,vs,ws,dQ,zu,hz,Jy,hlen,hR⟩;simp only at rG;subst rG;have hv:c=decide (items.size<dE.size):=by
    cases Jy with
    |EI hh=>
     cases zu with
     |nil=>
      rw[Q4]at hR;cases hR;simp only[Wv]at hlen hh;show(decide_eq_false 1e0).symm
     |cons q qs2=>
      rw[Zci]at hR;cases hR;simp only[Wv,Yu]at hlen hh;show(decide_eq_true 1e0).symm
    |EH hh=>
     cases dQ with
     |nil=>
      rw[Q4]at hR;cases hR;simp only[Wv]at hlen hh;show(decide_eq_false 1e0).symm
     |cons q qs2=>
      rw[Zcj]at hR;cases hR;simp only[Wv,Yu]at hlen hh;show(decide_eq_false 1e0).symm
    |cons e lt t=>rw[Xn]at hz;cases hz
   rw[hv]at h
   wp_walk
   show⟨_,rfl,by simpa[Builtin.Tuple.tupleCompareSizes]using h⟩
  case h=>
   show⟨rfl,rfl,items.toList,dE.toList,ps,qs,rfl,hpr,by simp;lia,hc⟩
end
section
variable{s:Shared}
theorem fK.int(a:Int)(t:Tok)(c:Int)(u:Tok)(A:Around):fK A s (.int a t) (.int c u) (decide (a<c)):=λprog w E Q h=>
 (PyProof.Rows.lt_int h:wpAny 1e3 A (WW .Lt (.int a t) (.int c u)) Q E s)
theorem fK.str(a:Str)(t:Tok)(c:Str)(u:Tok)(A:Around):fK A s (.str a t) (.str c u) (decide (a.cps.toList<c.cps.toList)):=λprog w E Q h=>
 (PyProof.Rows.lt_str h:wpAny 1e3 A (WW .Lt (.str a t) (.str c u)) Q E s)
theorem fK.tup{A:Around}{l b:Addr}{us vs:2e6}{ps qs:List PV}{c:Bool}(hl:s.heap.IsTuple l us.toArray)(hb:s.heap.IsTuple b vs.toArray)(hu:4e8)(hp:dr A.in1 s ps qs us vs)(hc:cC ps qs=some c):
  fK A s (.ref l) (.ref b) c:=λprog w E Q h=>by
 obtain⟨⟨cls,dd,data,sl⟩,ho,JL,n,hd⟩:=id hl;obtain⟨⟨FF,zC,data2,rA⟩,qd,OB,n2,hd2⟩:=id hb;simp only at JL hd OB hd2;subst JL hd OB hd2;show richCompare_meets_room (op:=.Lt) ⟨_,ho,rfl⟩ ⟨_,qd,rfl⟩ PySem.F.slot_tuple_lt PySem.F.entry_tuple_lt (PySem.F.args_tuple_lt_2 _ _) (xo l b us.toArray vs.toArray n n2 dd zC sl rA ps qs c hc)
  ⟨ho,qd,hp,show Ua c≠Value.notImplemented/\Q (.bool c) s from⟨(λx=>nomatch x),h⟩⟩ hu
mutual
theorem ab.M6:∀(p:PV){q:PV}{u v:Value}{A:Around}{c:Bool},ab s.heap p u->ab s.heap q v->A.units+dep p<cLine->cg p q=some c->fK A s u v c
 |.int x,q,u,v,A,c,a,b,hu,e=>by
  cases q with
  |int y=>
   unfold ab at a b;obtain⟨t,rfl⟩:=a;obtain⟨t',rfl⟩:=b;ext cg e;cases e;show .int _ _ _ _ _
  |_=>ext cg e;cases e
 |.str x,q,u,v,A,c,a,b,hu,e=>by
  cases q with
  |str y=>
   unfold ab at a b;obtain⟨t,rfl⟩:=a;obtain⟨t',rfl⟩:=b;ext cg e;cases e;show .str _ _ _ _ _
  |_=>ext cg e;cases e
 |.tup ps,q,u,v,A,c,a,b,hu,e=>by
  cases q with
  |tup qs=>
   unfold ab at a b;obtain⟨l,us,rfl,h1,r1⟩:=a;obtain⟨l',vs,rfl,h2,r2⟩:=b;ext cg e;ext dep hu;show .tup h1 h2 1e0 (ao.pairs ps r1 r2 (by rw[Wj];lia)) e
  |_=>ext cg e;cases e
 |.aF,q,u,v,A,c,a,b,hu,e=>by ext cg e;cases e
 |.bl _,q,u,v,A,c,a,b,hu,e=>by ext cg e;cases e
 |.lst _,q,u,v,A,c,a,b,hu,e=>by ext cg e;cases e
 |.cV _ _,q,u,v,A,c,a,b,hu,e=>by ext cg e;cases e
 |.aG _ _,q,u,v,A,c,a,b,hu,e=>by ext cg e;cases e
 |.fn _,q,u,v,A,c,a,b,hu,e=>by ext cg e;cases e
 |.ty _,q,u,v,A,c,a,b,hu,e=>by ext cg e;cases e
theorem ao.pairs:∀(ps:List PV){qs:List PV}{us vs:2e6}{A:Around},ao s.heap ps us->ao s.heap qs vs->A.units+cj ps<cLine->dr A s ps qs us vs
 |[],qs,us,vs,A,a,b,hu=>by
  have:=b.length;ext ao a;subst a;show .EI this
 |p::ps,qs,us,vs,A,a,b,hu=>by
  cases qs with
  |nil=>
   have:=a.length;ext ao b;subst b;show .EH this
  |cons q qs=>
   unfold ao at a b;obtain⟨x,r,rfl,a1,a2⟩:=a;obtain⟨y,r',rfl,b1,b2⟩:=b;ext cj hu;show .cons (ab.nJ p a1 b1 1e0) (λc e=>ab.M6 p a1 b1 1e0 e) (ao.pairs ps a2 b2 1e0)
end
end
section
variable{X:Cx}
def M9(K:W.Frag):R2:=λx y H Q=>∃ι p q c,Lies K ι H p x/\Lies K ι H q y/\dat p=true/\dat q=true/\dep p<=60/\cg p q=some c/\Q (.bl c) H
theorem IE(hu:5e6):fX X (WW .Lt) (M9 X.K):=by
 sleep 7;obtain⟨ι,p,q,c,lx,ly,dp,dq,de,e,k⟩:=h;show ab.M6 p (lx.heap I rx dp) (ly.heap I ry dq) 1e0 e X.prog X.w X.xe _ ⟨.bl _,H,I,rfl,k⟩
def yf(p q:PV):Option PV:=if dat p&&dat q&&decide (dep p<=60)then(cg p q).map .bl else none
theorem IZ:gO X.K (M9 X.K) yf:=by
 intro ι H C p q vx vy z Q cr lx ly e k;ext yf e;split at e
 ·rename_i h
  simp only[YI,decide_eq_true_eq]at h;cases hc:cg p q with
  |none=>rw[hc]at e;cases e
  |some c=>rw[hc]at e;cases e;show⟨ι,p,q,c,lx,ly,h.1.1,h.1.2,h.2,hc,k _ H .refl cr ik⟩
 ·cases e
end
end Pu
namespace Pu
open PySem PySem.W
open PyProof.Rows hiding St Fr
structure Wk(lt:Nat->Nat->Bool):Prop where
 Dz:∀a,lt a a=false
 rH:∀a b,lt a b=true->lt b a=false
 tr:∀a b c,lt b a=false->lt c b=false->lt c a=false
section
variable{lt:5e2}
def kl(lt:5e2)(p:Array Nat)(k:Nat):Prop:=∀i j,i<=j->j<k->lt (p.getD j 0) (p.getD i 0)=false
def rL(lt:5e2)(p:Array Nat)(k:Nat):Prop:=∀i j,i<=j->j<k->lt (p.getD i 0) (p.getD j 0)=false
def Eqv(lt:5e2)(p:Array Nat)(a b:Nat):Prop:=∀i j,a<=i->i<b->a<=j->j<b->lt (p.getD i 0) (p.getD j 0)=false
theorem PH{p:Array Nat}{i j:Nat}(hj:j<=p.size)(k:Nat):(FZ p i j).getD k 0=if i<=k/\k<j then p.getD (i+j-1-k) 0 else p.getD k 0:=by
 ext FZ;rw[YM,Yac hj];split<;>rw[YM]
theorem ZW{p:Array Nat}{k l:Nat}(hk:k<p.size)(hl:l<=k)(i:Nat):(bubble p k (k-l)).getD i 0=if i=l then p.getD k 0 else if l<i/\i<=k then p.getD (i-1) 0 else p.getD i 0:=by
 rw[YM,Ycc hk _ 1e0,show k-(k-l)=l by lia];by_cases h:i=l
 ·rw[if_pos h,if_pos h,YM]
 ·rw[if_neg h,if_neg h]
  by_cases h2:l<i/\i<=k
  ·rw[if_pos h2,if_pos h2,YM]
  ·rw[if_neg h2,if_neg h2,YM]
theorem kl.step(W:Wk lt){p:Array Nat}{k:Nat}(h:kl lt p k)(h1:1<=k)(e:lt (p.getD k 0) (p.getD (k-1) 0)=false):kl lt p (k+1):=by
 intro i j wz hj;by_cases Oo:j<k
 ·show h i j wz Oo
 ·have:j=k:=by lia
  subst this;by_cases hi:i=j
  ·subst hi;show W.Dz _
  ·show W.tr _ _ _ (h i (j-1) 1e0 1e0) e
theorem rL.step(W:Wk lt){p:Array Nat}{k:Nat}(h:rL lt p k)(h1:1<=k)(e:lt (p.getD (k-1) 0) (p.getD k 0)=false):rL lt p (k+1):=by
 intro i j wz hj;by_cases Oo:j<k
 ·show h i j wz Oo
 ·have:j=k:=by lia
  subst this;by_cases hi:i=j
  ·subst hi;show W.Dz _
  ·show W.tr _ _ _ e (h i (j-1) 1e0 1e0)
theorem rL.rev(W:Wk lt){p:Array Nat}{m a b:Nat}(h:rL lt p m)(gr:a<=b)(hb:b<=m)(hm:m<=p.size)(e:Eqv lt p a b):rL lt (FZ p a b) m:=by
 intro i j wz hj;rw[PH 1e0,PH 1e0];by_cases hi:a<=i/\i<b
 ·by_cases GJ:a<=j/\j<b
  ·rw[if_pos hi,if_pos GJ];show e _ _ 1e0 1e0 1e0 1e0
  ·rw[if_pos hi,if_neg GJ];show h _ _ 1e0 1e0
 ·by_cases GJ:a<=j/\j<b
  ·rw[if_neg hi,if_pos GJ];show h _ _ 1e0 1e0
  ·rw[if_neg hi,if_neg GJ];show h _ _ wz hj
theorem rL.srt{p:Array Nat}{n:Nat}(h:rL lt p n)(hn:n<=p.size):kl lt (FZ p 0 n) n:=by
 intro i j wz hj;rw[PH hn,PH hn,if_pos 1e0,if_pos 1e0];show h _ _ 1e0 1e0
theorem CY(W:Wk lt){p:Array Nat}{k l:Nat}(hs:kl lt p k)(hk:k<p.size)(hl:l<=k)(h1:∀i,i<l->lt (p.getD k 0) (p.getD i 0)=false)(h2:∀i,l<=i->i<k->lt (p.getD k 0) (p.getD i 0)=true):kl lt (bubble p k (k-l)) (k+1):=by
 intro i j wz hj;rw[ZW hk hl,ZW hk hl];by_cases Qs:j=l
 ·rw[if_pos Qs]
  by_cases Ot:i=l
  ·rw[if_pos Ot];show W.Dz _
  ·rw[if_neg Ot,if_neg 1e0];show h1 i 1e0
 ·rw[if_neg Qs]
  by_cases Ot:i=l
  ·rw[if_pos Ot,if_pos 1e0];show W.rH _ _ (h2 _ 1e0 1e0)
  ·rw[if_neg Ot]
   by_cases GJ:l<j/\j<=k
   ·rw[if_pos GJ]
    by_cases rE:l<i/\i<=k
    ·rw[if_pos rE];show hs _ _ 1e0 1e0
    ·rw[if_neg rE];show hs _ _ 1e0 1e0
   ·rw[if_neg GJ,if_neg 1e0];show hs _ _ wz 1e0
end
end Pu
namespace Ts
open PySem PySem.W
open PyProof.Rows hiding St Fr tail3 descPart
open Pu (Wk kl rL Eqv PH ZW CY)
noncomputable def di:Bool->Keyed->Array Keyed->Nat->Nat->Nat->StateT SortSt Sem (Option Nat):=sortPriv% PySem.Builtin.gallop
noncomputable def jD:Array Keyed->Array Keyed->StateT SortSt Sem (Array Keyed):=sortPriv% PySem.Builtin.mergeLo
noncomputable def jF:Array Keyed->Array Keyed->StateT SortSt Sem (Array Keyed):=sortPriv% PySem.Builtin.mergeHi
noncomputable def Fj (be:Nat->StateT SortSt Sem (Option Bool))(n a b:Nat):StateT SortSt Sem (Option Nat):=do
 let mut lo:=a
 let mut hi:=b
 for _ in[0:n] do
  if lo≥hi then break
  let m:=lo+(hi-lo)/2
  let some more ←be m|return none
  if more then lo:=m+1 else hi:=m
 return some hi
def Zg(be:Nat->StateT SortSt Sem (Option Bool))(n hint:Nat):StateT SortSt Sem (Option Nat):=do
 let mut last:=0
 let mut zw:=1
 let some right ←be hint|return none
 if right then
  for _ in[0:n] do
   if zw≥n-hint then break
   let some more ←be (hint+zw)|return none
   if !more then break
   last:=zw
   zw:=2*zw+1
  Fj be n (hint+last+1) (hint+min zw (n-hint))
 else
  for _ in[0:n] do
   if zw≥hint+1 then break
   let some found ←be (hint-zw)|return none
   if found then break
   last:=zw
   zw:=2*zw+1
  Fj be n (hint+1-min zw (hint+1)) (hint-last)
theorem t9(l:Bool)(key:Keyed)(arr:Array Keyed)(base n hint:Nat):di l key arr base n hint=Zg (λi=>do
  let x ←elem' arr (base+i)
  if l then lt' x key else return(←lt' key x).map (!·)) n hint:=rfl
section
variable{M:Model}{A:Around}{E:1e1}{s:Shared}
theorem wI{be:Nat->StateT SortSt Sem (Option Bool)}{P:Nat->Bool}{n lo hi:Nat}{st:SortSt}{Q:Option Nat->SortSt->Prop}
  (hb:∀i,i<n->∀Q':Option Bool->SortSt->Prop,Q' (some (P i)) st->wpS M A E s (be i) Q' st) (hP:∀i j,i<=j->j<n->P j=true->P i=true)
  (h1:lo<=hi) (h2:hi<=n) (h3:∀i,i<lo->P i=true) (h4:∀i,hi<=i->i<n->P i=false)
  (h:∀k,k<=n->(∀i,i<k->P i=true)->(∀i,k<=i->i<n->P i=false)->Q (some k) st):wpS M A E s (Fj be n lo hi) Q st:=by
 ext Fj;sleep 6;show YD (Wa (XO
  (I:=λx c aC=>aC=st/\∃l r,c=(none,l,r)/\l<=r/\r<=n/\r-l<=n-x/\(∀i,i<l->P i=true)/\(∀i,r<=i->i<n->P i=false))
  (Q:=λc aC=>aC=st/\∃l,c=(none,l,l)/\l<=n/\(∀i,i<l->P i=true)/\(∀i,l<=i->i<n->P i=false)) ?step ?fin ⟨rfl,lo,hi,rfl,h1,h2,by lia,h3,h4⟩) ?post)
 case fin=>
  rintro c aC ⟨rfl,l,r,rfl,a1,a2,a3,a4,a5⟩;have:l=r:=by lia
  subst this;show⟨rfl,l,rfl,a2,a4,a5⟩
 case post=>
  rintro c aC ⟨rfl,l,rfl,a2,a4,a5⟩;show YL (h l a2 a4 a5)
 case step=>
  rintro x c aC _ hx ⟨rfl,l,r,rfl,a1,a2,a3,a4,a5⟩;sleep 6;by_cases Oe:l≥r
  ·rw[if_pos Oe]
   have:l=r:=by lia
   subst this;show YL ⟨rfl,l,rfl,a2,a4,a5⟩
  ·rw[if_neg Oe]
   show YD (hb _ 1e0 _ ?_);sleep 6;cases hm:P (l+(r-l)/2)with
   |true=>
    rw[if_pos rfl];show YL ⟨rfl,_,_,rfl,by lia,a2,by lia,λi hi=>hP i _ 1e0 1e0 hm,a5⟩
   |false=>
    rw[if_neg Yw];show YL ⟨rfl,_,_,rfl,by lia,by lia,by lia,a4,λi hi hn=>?_⟩;cases hz:P i with
    |false=>rfl
    |true=>rw[hP _ i hi hn hz]at hm;cases hm
theorem JS{be:Nat->StateT SortSt Sem (Option Bool)}{P:Nat->Bool}{n hint:Nat}{st:SortSt}{Q:Option Nat->SortSt->Prop}(hh:hint<n)
  (hb:∀i,i<n->∀Q':Option Bool->SortSt->Prop,Q' (some (P i)) st->wpS M A E s (be i) Q' st) (hP:∀i j,i<=j->j<n->P j=true->P i=true)
  (h:∀k,k<=n->(∀i,i<k->P i=true)->(∀i,k<=i->i<n->P i=false)->Q (some k) st):wpS M A E s (Zg be n hint) Q st:=by
 have up:∀i j,i<=j->j<n->P i=false->P j=false:=λi j a b c=>by
  cases hz:P j with
  |false=>rfl
  |true=>rw[hP i j a b hz]at c;cases c
 ext Zg;show YD (hb hint hh _ ?_);sleep 6;cases hr:P hint with
 |true=>
  rw[if_pos rfl];show YD (Wa (XO
   (I:=λx c aC=>aC=st/\∃l o,c=(none,l,o)/\l<o/\x<o/\(l<=n-hint-1/\P (hint+l)=true))
   (Q:=λc aC=>aC=st/\∃l o,c=(none,l,o)/\l<o/\(l<=n-hint-1/\P (hint+l)=true)/\(o<n-hint->P (hint+o)=false)) ?step ?fin ⟨rfl,0,1,rfl,by lia,by lia,by lia,hr⟩) ?post)
  case fin=>
   rintro c aC ⟨rfl,l,o,rfl,a1,a2,a3⟩;show⟨rfl,l,o,rfl,a1,a3,λz=>by lia⟩
  case post=>
   rintro c aC ⟨rfl,l,o,rfl,a1,a3,a4⟩;sleep 6;show wI hb hP 1e0 1e0 (λi hi=>hP i (hint+l) 1e0 1e0 a3.2) (λi hi hn=>?_) h;by_cases z:o<n-hint
   ·show up (hint+o) i 1e0 hn (a4 z)
   ·lia
  case step=>
   rintro x c aC _ hx ⟨rfl,l,o,rfl,a1,a2,a3⟩;sleep 6;by_cases z:o≥n-hint
   ·rw[if_pos z];show YL ⟨rfl,l,o,rfl,a1,a3,λy=>by lia⟩
   ·rw[if_neg z]
    show YD (hb _ 1e0 _ ?_);sleep 6;cases hm:P (hint+o)with
    |true=>rw[if_neg 2e9];show YL ⟨rfl,_,_,rfl,by lia,by lia,by lia,hm⟩
    |false=>rw[if_pos (show(!false)=true from rfl)];show YL ⟨rfl,_,_,rfl,a1,a3,λ_=>hm⟩
 |false=>
  rw[if_neg Yw];show YD (Wa (XO
   (I:=λx c aC=>aC=st/\∃l o,c=(none,l,o)/\l<o/\x<o/\(l<=hint/\P (hint-l)=false))
   (Q:=λc aC=>aC=st/\∃l o,c=(none,l,o)/\l<o/\(l<=hint/\P (hint-l)=false)/\(o<=hint->P (hint-o)=true)) ?step ?fin ⟨rfl,0,1,rfl,by lia,by lia,by lia,hr⟩) ?post)
  case fin=>
   rintro c aC ⟨rfl,l,o,rfl,a1,a2,a3⟩;show⟨rfl,l,o,rfl,a1,a3,λz=>by lia⟩
  case post=>
   rintro c aC ⟨rfl,l,o,rfl,a1,a3,a4⟩;sleep 6;show wI hb hP 1e0 1e0 (λi hi=>?_) (λi hi hn=>up (hint-l) i 1e0 hn a3.2) h;by_cases z:o<=hint
   ·show hP i (hint-o) 1e0 1e0 (a4 z)
   ·lia
  case step=>
   rintro x c aC _ hx ⟨rfl,l,o,rfl,a1,a2,a3⟩;sleep 6;by_cases z:o≥hint+1
   ·rw[if_pos z];show YL ⟨rfl,l,o,rfl,a1,a3,λy=>by lia⟩
   ·rw[if_neg z]
    show YD (hb _ 1e0 _ ?_);sleep 6;cases hm:P (hint-o)with
    |false=>rw[if_neg Yw];show YL ⟨rfl,_,_,rfl,by lia,by lia,by lia,hm⟩
    |true=>rw[if_pos rfl];show YL ⟨rfl,_,_,rfl,a1,a3,λ_=>hm⟩
end
abbrev Ky:=Array Keyed
noncomputable def setG (g:Nat):StateT SortSt Sem Unit:=modify λs=>Wo (kindOf s) (arrOf s) (X4 s) g (failedOf s)
section
variable{o:5e2}
def le(o:5e2)(a b:Nat):Prop:=o b a=false
structure J(o:Nat->Nat->Bool)(x y z:List Nat)(i j:Nat):Prop where
 p1:(z++x.drop i).Pairwise (le o)
 p2:(z++y.drop j).Pairwise (le o)
 pm:z.Perm (x.take i++y.take j)
variable{x y z:3e9}{i j k:Nat}
theorem J.swap(h:J o x y z i j):J o y x z j i:=⟨h.p2,h.p1,h.pm.trans XQ⟩
theorem J.ax(h:J o x y z i j)(hl:∀a∈(x.drop i).take k,∀b∈y.drop j,le o a b):J o x y (z++(x.drop i).take k) (i+k) j:=by
 have e:(x.drop i).take k++x.drop (i+k)=x.drop i:=by rw[←V4];show YV _ _
 show⟨by rw[Yd,e];show h.p1,?_,?_⟩
 ·have h1:=h.p1;rw[←e,←Yd]at h1
  obtain⟨a1,_,_⟩:=Xe.mp h1;obtain⟨_,b2,b3⟩:=Xe.mp h.p2;show Xe.mpr ⟨a1,b2,λa ha b hb=>?_⟩;rcases Ym.mp ha with ha|ha
  ·show b3 a ha b hb
  ·show hl a ha b hb
 ·rw[List.take_add]
  show(h.pm.append_right _).trans ?_;rw[Yd,Yd];show(XQ).append_left _
theorem J.fin(h:J o x y z i j)(he:y.drop j=[]\/x.drop i=[]):(z++x.drop i++y.drop j).Pairwise (le o)/\(z++x.drop i++y.drop j).Perm (x++y):=by
 show⟨?_,?_⟩
 ·rcases he with e|e
  ·rw[e,YG];show h.p1
  ·rw[e,YG];show h.p2
 ·show((h.pm.append_right _).append_right _).trans ?_
  have e1:=YV i x;have e2:=YV j y;show Uu ?_ (VH (by rw[e1,e2]:(x.take i++x.drop i)++(y.take j++y.drop j)=x++y));rw[Yd,Yd,Yd];show VI _ ?_;rw[←Yd,←Yd];show XQ.append_right _
theorem J.lst(h:J o x y z i j)(hl:∀a∈x.drop i,∀b∈y,le o b a):(z++y.drop j++x.drop i).Pairwise (le o)/\(z++y.drop j++x.drop i).Perm (x++y):=by
 show⟨?_,?_⟩
 ·obtain⟨_,a2,a3⟩:=Xe.mp h.p1
  show Xe.mpr ⟨h.p2,a2,λa ha b hb=>?_⟩;rcases Ym.mp ha with ha|ha
  ·show a3 a ha b hb
  ·show hl b hb a (List.mem_of_mem_drop ha)
 ·show((h.pm.append_right _).append_right _).trans ?_
  have e1:=YV i x;have e2:=YV j y;show Uu ?_ (VH (by rw[e1,e2]:(x.take i++x.drop i)++(y.take j++y.drop j)=x++y));rw[Yd,Yd,Yd];show VI _ ?_;rw[←Yd];show XQ
theorem Q5(h:i<x.length):(x.drop i).take 1=[x.getD i 0]:=by
 rw[Y9 h,WN,List.take_zero,Ys,Ye h];rfl
theorem Kz{k:Nat}(h:k∈x.drop i):∃m,i<=m/\m<x.length/\k=x.getD m 0:=by
 obtain⟨m,hm,e⟩:=XM h;rw[Xp]at hm;show⟨i+m,by lia,by lia,?_⟩;rw[Ys,Ye 1e0,←e,UF];rfl
theorem ji{n k:Nat}(h:n∈(x.drop i).take k):∃m,i<=m/\m<i+k/\m<x.length/\n=x.getD m 0:=by
 obtain⟨m,hm,e⟩:=XM h;rw[Xo,Xp]at hm;show⟨i+m,by lia,by lia,by lia,?_⟩;rw[Ys,Ye 1e0,←e,List.getElem_take,UF];rfl
theorem sI(h:x.Pairwise (le o)){a b:Nat}(gr:a<b)(hb:b<x.length):le o (x.getD a 0) (x.getD b 0):=by
 rw[Ys,Ys,Ye hb,Ye 1e0];show W5.mp h _ _ _ _ gr
theorem zc(W:Wk o)(h:x.Pairwise (le o)){a b:Nat}(gr:a<=b)(hb:b<x.length):le o (x.getD a 0) (x.getD b 0):=by
 rcases YQ a b with q|q
 ·show sI h q hb
 ·have:a=b:=by lia
  subst this;show W.Dz _
end
section
variable{prog:YF}{w:World}{A:Around}{E:1e1}{s:Shared}{κ:Vg}{it:Array Keyed}{o:5e2}
def Ans(prog:YF)(w:World)(A:Around)(s:Shared)(κ:Vg)(it:Ky)(o:5e2):Prop:=
 ∀i j,i<it.size->j<it.size->∀C:Bool->Shared->Prop,C (o i j) s->kas_cmp prog w A κ it i j C s
theorem ir{i j:Nat}{st:SortSt}{Q:Option Bool->SortSt->Prop}(hA:3e7)(hk:kindOf st=κ)(hi:i<it.size)(hj:j<it.size)(h:Q (some (o i j)) st):wpS 1e3 A E s (lt' (Vh it i) (Vh it j)) Q st:=by
 rw[lt'_eq];show YD (DL ?_);rw[hk];show YD (KU (VT (Xk (hA i j hi hj (λb s'=>s'=s/\b=o i j) ⟨rfl,rfl⟩) (λb s' e=>?_) λ_ _ e=>e.elim)));obtain⟨rfl,rfl⟩:=e;show⟨rfl,YL h⟩
def ar(it:Ky)(x:3e9):Ky:=(x.map (Vh it)).toArray
theorem w6(x:3e9):(ar it x).size=x.length:=by ext ar;simp
theorem Pl(x:3e9)(n:Nat):(ar it x).push (Vh it n)=ar it (x++[n]):=by ext ar;simp
theorem FN(x y:3e9):ar it x++ar it y=ar it (x++y):=by ext ar;simp
theorem Hc(x:3e9)(i j:Nat):(ar it x).extract i j=ar it ((x.drop i).take (j-i)):=by ext ar;simp[List.extract_eq_take_drop]
theorem i9(x:3e9)(i:Nat):(ar it x).extract i (ar it x).size=ar it (x.drop i):=by
 rw[Hc,w6,XX (by rw[Xp];show Yl _)]
theorem C8(x:3e9):(ar it x).reverse=ar it x.reverse:=by ext ar;simp
theorem kc{x:3e9}{i:Nat}{st:SortSt}{Q:Keyed->SortSt->Prop}(hi:i<x.length)(h:Q (Vh it (x.getD i 0)) st):wpS 1e3 A E s (elem' (ar it x) i) Q st:=by
 rw[elem'_eq];have e:(ar it x)[i]? = some (Vh it (x.getD i 0)):=by
  ext ar;rw[X3,Yy,Ye hi,Ys,Ye hi];rfl
 rw[e];show YL h
theorem Z0{x:3e9}{l:Bool}{key base n hint:Nat}{st:SortSt}{Q:Option Nat->SortSt->Prop}(W:Wk o)(hA:3e7)(hk:kindOf st=κ)(hx:∀a b,base<=a->a<=b->b<base+n->le o (x.getD a 0) (x.getD b 0))(hi:∀a∈x,a<it.size)(gE:key<it.size)(hn:base+n<=x.length)(hh:hint<n)
  (h:∀k,k<=n->(∀m,base<=m->m<base+k->if l then o (x.getD m 0) key=true else le o (x.getD m 0) key)->(∀m,base+k<=m->m<base+n->if l then le o key (x.getD m 0)else o key (x.getD m 0)=true)->Q (some k) st):
  wpS 1e3 A E s (di l (Vh it key) (ar it x) base n hint) Q st:=by
 rw[t9];have hm:∀m,m<x.length->x.getD m 0<it.size:=λm hm=>hi _ (by rw[Ys,Ye hm];show Wh hm);show JS (P:=λi=>if l then o (x.getD (base+i) 0) key else !(o key (x.getD (base+i) 0))) hh (λi hi Q' q=>?_) (λi j wz hj hp=>?_) (λk hk h1 h2=>h k hk (λm a b=>?_) λm a b=>?_)
 ·show YD (kc 1e0 ?_)
  cases l with
  |true=>rw[if_pos rfl]at q⊢;show ir hA hk (hm _ 1e0) gE q
  |false=>
   rw[if_neg Yw]at q⊢;show YD (ir hA hk gE (hm _ 1e0) (YL q))
 ·have hle:=hx (base+i) (base+j) 1e0 1e0 1e0
  cases l with
  |true=>
   simp only[if_true]at hp⊢;cases hz:o (x.getD (base+i) 0) key with
   |true=>rfl
   |false=>have:=W.tr key (x.getD (base+i) 0) (x.getD (base+j) 0) hz hle;rw[hp]at this;cases this
  |false=>
   simp only[Yx,if_false,Bool.not_eq_true']at hp⊢;show W.tr _ _ _ hle hp
 ·have:=h1 (m-base) 1e0
  rw[show base+(m-base)=m by lia]at this;cases l with
  |true=>simpa using this
  |false=>simpa[le]using this
 ·have:=h2 (m-base) 1e0 1e0
  rw[show base+(m-base)=m by lia]at this;cases l with
  |true=>simpa[le]using this
  |false=>simpa using this
theorem QO{x:3e9}{l:Bool}{key base n hint:Nat}{st:SortSt}{Q:Option Nat->SortSt->Prop}(W:Wk o)(hA:3e7)(hk:kindOf st=κ)(hx:x.Pairwise (le o))(hi:∀a∈x,a<it.size)(gE:key<it.size)(hn:base+n<=x.length)(hh:hint<n)
  (h:∀k,k<=n->(∀m,base<=m->m<base+k->if l then o (x.getD m 0) key=true else le o (x.getD m 0) key)->(∀m,base+k<=m->m<base+n->if l then le o key (x.getD m 0)else o key (x.getD m 0)=true)->Q (some k) st):
  wpS 1e3 A E s (di l (Vh it key) (ar it x) base n hint) Q st:=
 Z0 W hA hk (λa b _ h2 h3=>zc W hx h2 1e0) hi gE hn hh h
end
abbrev SM:=StateT SortSt Sem
abbrev C1:=Option Ky×Ky×Nat×Nat×Nat×Nat
abbrev C2:=Option Ky×Ky×Nat×Nat×Nat×Nat×Nat
noncomputable def fn (a b r:Ky)(i j:Nat):Ky:=r++a.extract i a.size++b.extract j b.size
def u1(a b:Ky)(mg:Nat)(c:C1):SM (ForInStep C1):=
 elem' b c.2.2.2.1>>=λe=>elem' a c.2.2.1>>=λf=>lt' e f>>=λq=>match q with
 |some bw=>if bw=true then elem' b c.2.2.2.1>>=λe=>
   if(c.2.2.2.1+1==b.size)=true then pure (.done (some (fn a b (c.2.1.push e) c.2.2.1 (c.2.2.2.1+1)),c.2.1.push e,c.2.2.1,c.2.2.2.1+1,0,c.2.2.2.2.2+1))
   else if c.2.2.2.2.2+1≥mg then pure (.done (none,c.2.1.push e,c.2.2.1,c.2.2.2.1+1,0,c.2.2.2.2.2+1))
   else pure (.yield (none,c.2.1.push e,c.2.2.1,c.2.2.2.1+1,0,c.2.2.2.2.2+1))
  else elem' a c.2.2.1>>=λe=>
   if(c.2.2.1+1+1==a.size)=true then pure (.done (some (fn b a (c.2.1.push e) c.2.2.2.1 (c.2.2.1+1)),c.2.1.push e,c.2.2.1+1,c.2.2.2.1,c.2.2.2.2.1+1,0))
   else if c.2.2.2.2.1+1≥mg then pure (.done (none,c.2.1.push e,c.2.2.1+1,c.2.2.2.1,c.2.2.2.2.1+1,0))
   else pure (.yield (none,c.2.1.push e,c.2.2.1+1,c.2.2.2.1,c.2.2.2.2.1+1,0))
 |_=>pure (.done (some (fn a b c.2.1 c.2.2.1 c.2.2.2.1),c.2.1,c.2.2.1,c.2.2.2.1,c.2.2.2.2.1,c.2.2.2.2.2))
def t3(a b r:Ky)(i j mg ac bc:Nat):SM (ForInStep C2):=
 elem' a i>>=λe=>
 if(i+1+1==a.size)=true then pure (.done (some (fn b a (r.push e) j (i+1)),r.push e,i+1,j,mg,ac,bc))
 else if(decide (ac<7)&&decide (bc<7))=true then pure (.done (none,r.push e,i+1,j,mg,ac,bc))
 else pure (.yield (none,r.push e,i+1,j,mg,ac,bc))
def t1(a b r:Ky)(i j mg ac bc:Nat):SM (ForInStep C2):=
 elem' b j>>=λe=>
 if(j+1==b.size)=true then pure (.done (some (fn a b (r.push e) i (j+1)),r.push e,i,j+1,mg,ac,bc))else
  elem' a i>>=λf=>di true f b (j+1) (b.size-(j+1)) 0>>=λq=>match q with
  |some k=>if k>0 then
    if(j+1+k==b.size)=true then pure (.done (some (fn a b (r.push e++b.extract (j+1) (j+1+k)) i (j+1+k)),r.push e++b.extract (j+1) (j+1+k),i,j+1+k,mg,ac,k))
    else t3 a b (r.push e++b.extract (j+1) (j+1+k)) i (j+1+k) mg ac k
   else t3 a b (r.push e) i (j+1) mg ac k
  |_=>pure (.done (some (fn a b (r.push e) i (j+1)),r.push e,i,j+1,mg,ac,bc))
def t0(a b r:Ky)(i j mg ac bc:Nat):SM (ForInStep C2):=
 setG mg>>=λ_=>elem' b j>>=λe=>di false e a i (a.size-i) 0>>=λq=>match q with
 |some k=>if k>0 then
   if(i+k+1==a.size)=true then pure (.done (some (fn b a (r++a.extract i (i+k)) j (i+k)),r++a.extract i (i+k),i+k,j,mg,k,bc))
   else if(i+k==a.size)=true then pure (.done (some (fn a b (r++a.extract i (i+k)) (i+k) j),r++a.extract i (i+k),i+k,j,mg,k,bc))
   else t1 a b (r++a.extract i (i+k)) (i+k) j mg k bc
  else t1 a b r i j mg k bc
 |_=>pure (.done (some (fn a b r i j),r,i,j,mg,ac,bc))
def u2(a b:Ky)(c:C2):SM (ForInStep C2):=
 if c.2.2.2.2.1>1 then t0 a b c.2.1 c.2.2.1 c.2.2.2.1 (c.2.2.2.2.1-1) c.2.2.2.2.2.1 c.2.2.2.2.2.2 else t0 a b c.2.1 c.2.2.1 c.2.2.2.1 c.2.2.2.2.1 c.2.2.2.2.2.1 c.2.2.2.2.2.2
abbrev C0:=Option Ky×Ky×Nat×Nat×Nat
def u0(a b:Ky)(c:C0):SM (ForInStep C0):=
 (forIn [0:a.size+b.size] ((none,c.2.1,c.2.2.1,c.2.2.2.1,0,0):C1) λ_ c1=>u1 a b c.2.2.2.2 c1)>>=λd=>match d.1 with
 |some r=>pure (.done (some r,d.2.1,d.2.2.1,d.2.2.2.1,c.2.2.2.2))
 |none=>(liftM (rule "list.sort.gallop"):SM Unit)>>=λ_=>
  (forIn [0:a.size+b.size] ((none,d.2.1,d.2.2.1,d.2.2.2.1,c.2.2.2.2+1,d.2.2.2.2.1,d.2.2.2.2.2):C2) λ_ c2=>u2 a b c2)>>=λe=>match e.1 with
  |some r=>pure (.done (some r,e.2.1,e.2.2.1,e.2.2.2.1,e.2.2.2.2.1))
  |none=>setG (e.2.2.2.2.1+1)>>=λ_=>pure (.yield (none,e.2.1,e.2.2.1,e.2.2.2.1,e.2.2.2.2.1+1))
theorem pN(a b:Ky):jD a b=((liftM (rule "list.sort.merge-lo"):SM Unit)>>=λ_=>elem' b 0>>=λe=>
 if(1==b.size)=true then pure (fn a b #[e] 0 1)else
  if(0+1==a.size)=true then pure (fn b a #[e] 1 0)else get>>=λg=>
   (forIn [0:a.size+b.size] ((none,#[e],0,1,gallopOf g):C0) λ_ c=>u0 a b c)>>=λc=>match c.1 with
   |some r=>pure r
   |none=>liftM (PU "internal:list.sort.merge-bound":Sem Ky)):=by kernel_rfl
section
variable{prog:YF}{w:World}{A:Around}{E:1e1}{s:Shared}{κ:Vg}{it a:Ky}{o:5e2}{x y z:3e9}{p:Array (Nat×Nat×Nat)}{st:SortSt}{i j k mg ac bc base:Nat}
def SG(κ:Vg)(a:Ky)(p:Array (Nat×Nat×Nat))(st:SortSt):Prop:=∃m,st=Wo κ a p m none
theorem SG.kind(h:SG κ a p st):kindOf st=κ:=by obtain⟨m,rfl⟩:=h;rfl
structure Rows(it:Ky)(o:Nat->Nat->Bool)(x y:List Nat):Prop where
 W:Wk o
 hx:x.Pairwise (le o)
 hy:y.Pairwise (le o)
 ix:∀a∈x,a<it.size
 iy:∀a∈y,a<it.size
 first:∀a∈x,le o (y.getD 0 0) a
 last:∀b∈y,le o b (x.getD (x.length-1) 0)
theorem zE(h:i<x.length):x.getD i 0∈x:=by rw[Ys,Ye h];show Wh h
def Fin(it:Ky)(o:5e2)(x y:3e9)(r:Ky):Prop:=∃z,r=ar it z/\z.Pairwise (le o)/\z.Perm (x++y)
theorem jU(h:J o x y z i j)(he:y.drop j=[]\/x.drop i=[]):Fin it o x y (fn (ar it x) (ar it y) (ar it z) i j):=by
 show⟨_,?_,h.fin he⟩;ext fn;rw[i9,i9,FN,FN]
theorem yK(h:i+1=x.length):x.drop i=[x.getD (x.length-1) 0]:=by
 rw[Y9 1e0,XF 1e0,show x.length-1=i by lia,Ys,Ye 1e0];rfl
theorem nG(R:Rows it o x y)(h:J o x y z i j)(he:i+1=x.length):Fin it o x y (fn (ar it y) (ar it x) (ar it z) j i):=by
 show⟨_,?_,h.lst λa ha b hb=>?_⟩
 ·ext fn;rw[i9,i9,FN,FN]
 ·rw[yK he]at ha
  rw[Yj.mp ha];show R.last b hb
def G(it:Ky)(o:5e2)(x y:3e9)(base:Nat)(q:Option Ky)(r:Ky)(i j:Nat):Prop:=
 match q with
 |some r=>Fin it o x y r
 |none=>∃z,r=ar it z/\J o x y z i j/\i+1<x.length/\j<y.length/\base<=i+j
def N2(it:Ky)(o:5e2)(x y:3e9)(base:Nat):ForInStep C2->Prop
 |.done c=>G it o x y base c.1 c.2.1 c.2.2.1 c.2.2.2.1
 |.yield c=>c.1=none/\G it o x y base c.1 c.2.1 c.2.2.1 c.2.2.2.1
theorem J.px(h:J o x y z i j)(W:Wk o)(hx:x.Pairwise (le o))(hy:y.Pairwise (le o))(hi:i<x.length)(hj:j<y.length->le o (x.getD i 0) (y.getD j 0)):J o x y (z++[x.getD i 0]) (i+1) j:=by
 have:=h.ax (k:=1) (λa ha b hb=>by
  rw[Q5 hi]at ha;rw[Yj.mp ha];obtain⟨m,h1,h2,rfl⟩:=Kz hb;show W.tr _ _ _ (hj (by lia)) (zc W hy h1 h2))
 rw[Q5 hi]at this;show this
theorem J.py(h:J o x y z i j)(W:Wk o)(hx:x.Pairwise (le o))(hy:y.Pairwise (le o))(hj:j<y.length)(hi:i<x.length->le o (y.getD j 0) (x.getD i 0)):J o x y (z++[y.getD j 0]) i (j+1):=(h.swap.px W hy hx hj hi).swap
theorem J.cx(h:J o x y z i j)(W:Wk o)(hy:y.Pairwise (le o))(hk:i+k<=x.length)(hl:∀m,i<=m->m<i+k->le o (x.getD m 0) (y.getD j 0)):J o x y (z++(x.drop i).take k) (i+k) j:=
 h.ax λa ha b hb=>by
  obtain⟨m,h1,h2,h3,rfl⟩:=ji ha;obtain⟨n,h4,h5,rfl⟩:=Kz hb;show W.tr _ _ _ (hl m h1 h2) (zc W hy h4 h5)
theorem zB{m n:Nat}:((m==n)=true)=(m=n):=by simp
theorem Gg(R:Rows it o x y)(hs:SG κ a p st)(h:J o x y z i j)(hi:i+1<x.length)(hj:j<y.length)(hb:base<=i+j)(hl:le o (x.getD i 0) (y.getD j 0)):
  wpS 1e3 A E s (t3 (ar it x) (ar it y) (ar it z) i j mg ac bc) (λr aC=>SG κ a p aC/\N2 it o x y base r) st:=by
 ext t3;show YD (kc 1e0 ?_);have h':=h.px R.W R.hx R.hy 1e0 λ_=>hl;rw[w6,Pl];simp only[zB];by_cases h1:i+1+1=x.length
 ·rw[if_pos h1];show YL ⟨hs,nG R h' h1⟩
 ·rw[if_neg h1]
  have g:G it o x y base none (ar it (z++[x.getD i 0])) (i+1) j:=⟨_,rfl,h',by lia,hj,by lia⟩
  split
  ·show YL ⟨hs,g⟩
  ·show YL ⟨hs,rfl,g⟩
theorem Gh(R:Rows it o x y)(hA:3e7)(hs:SG κ a p st)(h:J o x y z i j)(hi:i+1<x.length)(hj:j<y.length)(hb:base<=i+j)(hl:le o (y.getD j 0) (x.getD i 0)):
  wpS 1e3 A E s (t1 (ar it x) (ar it y) (ar it z) i j mg ac bc) (λr aC=>SG κ a p aC/\N2 it o x y base r) st:=by
 ext t1;show YD (kc hj ?_);have h':=h.py R.W R.hx R.hy hj λ_=>hl;simp only[w6,Pl,zB];by_cases h1:j+1=y.length
 ·rw[if_pos h1];show YL ⟨hs,jU h' (.inl (XF 1e0))⟩
 ·rw[if_neg h1]
  show YD (kc 1e0 ?_);show YD (QO R.W hA hs.kind R.hy R.iy (R.ix _ (zE 1e0)) 1e0 1e0 λk hk q1 q2=>?_);simp only[if_true]at q1 q2;sleep 6;by_cases BX:k>0
  ·rw[if_pos BX]
   have h2:=(h'.swap.cx R.W R.hx (k:=k) 1e0 λm a b=>R.W.rH _ _ (q1 m a b)).swap;rw[Hc,XT,FN];by_cases h3:j+1+k=y.length
   ·rw[if_pos h3];show YL ⟨hs,jU h2 (.inl (XF 1e0))⟩
   ·rw[if_neg h3]
    show Gg R hs h2 hi 1e0 1e0 (q2 _ (Yl _) 1e0)
  ·rw[if_neg BX]
   show Gg R hs h' hi 1e0 1e0 (q2 _ 1e0 1e0)
theorem iN{Q:Unit->SortSt->Prop}(hs:SG κ a p st)(h:∀aC,SG κ a p aC->Q () aC):wpS 1e3 A E s (setG mg) Q st:=by
 ext setG;obtain⟨m,rfl⟩:=hs;show Mh (h _ ⟨mg,rfl⟩)
theorem MQ(R:Rows it o x y)(hA:3e7)(hs:SG κ a p st)(h:J o x y z i j)(hi:i+1<x.length)(hj:j<y.length)(hb:base<=i+j):
  wpS 1e3 A E s (t0 (ar it x) (ar it y) (ar it z) i j mg ac bc) (λr aC=>SG κ a p aC/\N2 it o x y base r) st:=by
 ext t0;show YD (iN hs λaC hs=>?_);show YD (kc hj ?_);simp only[w6];show YD (QO R.W hA hs.kind R.hx R.ix (R.iy _ (zE hj)) 1e0 1e0 λk hk q1 q2=>?_);simp only[Yx,if_false]at q1 q2;sleep 6;by_cases BX:k>0
 ·rw[if_pos BX]
  have h2:=h.cx R.W R.hy (k:=k) 1e0 q1;rw[Hc,XT,FN];simp only[zB];by_cases h3:i+k+1=x.length
  ·rw[if_pos h3];show YL ⟨hs,nG R h2 h3⟩
  ·rw[if_neg h3]
   by_cases h4:i+k=x.length
   ·rw[if_pos h4];show YL ⟨hs,jU h2 (.inr (XF 1e0))⟩
   ·rw[if_neg h4]
    show Gh R hA hs h2 1e0 hj 1e0 (R.W.rH _ _ (q2 _ (Yl _) 1e0))
 ·rw[if_neg BX]
  show Gh R hA hs h hi hj hb (R.W.rH _ _ (q2 _ 1e0 1e0))
theorem Mx{c:C2}(R:Rows it o x y)(hA:3e7)(hs:SG κ a p st)(h0:c.1=none)(h:G it o x y base c.1 c.2.1 c.2.2.1 c.2.2.2.1):
  wpS 1e3 A E s (u2 (ar it x) (ar it y) c) (λr aC=>SG κ a p aC/\N2 it o x y base r) st:=by
 rw[h0]at h;obtain⟨z,e,h,a1,a2,a3⟩:=h;ext u2;rw[e];split<;>show MQ R hA hs h a1 a2 a3
def N1(it:Ky)(o:5e2)(x y:3e9)(base:Nat):ForInStep C1->Prop
 |.done c=>G it o x y base c.1 c.2.1 c.2.2.1 c.2.2.2.1
 |.yield c=>c.1=none/\G it o x y base c.1 c.2.1 c.2.2.1 c.2.2.2.1
theorem My{c:C1}(R:Rows it o x y)(hA:3e7)(hs:SG κ a p st)(h0:c.1=none)(h:G it o x y base c.1 c.2.1 c.2.2.1 c.2.2.2.1):
  wpS 1e3 A E s (u1 (ar it x) (ar it y) mg c) (λr aC=>SG κ a p aC/\N1 it o x y (base+1) r) st:=by
 rw[h0]at h;obtain⟨z,e,h,a1,a2,a3⟩:=h;ext u1;show YD (kc a2 ?_);show YD (kc 1e0 ?_);show YD (ir hA hs.kind (R.iy _ (zE a2)) (R.ix _ (zE 1e0)) ?_);simp only[w6,zB];cases hq:o (y.getD c.2.2.2.1 0) (x.getD c.2.2.1 0)with
 |true=>
  rw[if_pos rfl];show YD (kc a2 ?_);have h':=h.py R.W R.hx R.hy a2 λ_=>R.W.rH _ _ hq;rw[e,Pl];by_cases h3:c.2.2.2.1+1=y.length
  ·rw[if_pos h3];show YL ⟨hs,jU h' (.inl (XF 1e0))⟩
  ·rw[if_neg h3]
   have g:G it o x y (base+1) none (ar it (z++[y.getD c.2.2.2.1 0])) c.2.2.1 (c.2.2.2.1+1):=⟨_,rfl,h',a1,by lia,by lia⟩
   split
   ·show YL ⟨hs,g⟩
   ·show YL ⟨hs,rfl,g⟩
 |false=>
  rw[if_neg Yw];show YD (kc 1e0 ?_);have h':=h.px R.W R.hx R.hy 1e0 λ_=>hq;rw[e,Pl];by_cases h3:c.2.2.1+1+1=x.length
  ·rw[if_pos h3];show YL ⟨hs,nG R h' h3⟩
  ·rw[if_neg h3]
   have g:G it o x y (base+1) none (ar it (z++[x.getD c.2.2.1 0])) (c.2.2.1+1) c.2.2.2.1:=⟨_,rfl,h',by lia,a2,by lia⟩
   split
   ·show YL ⟨hs,g⟩
   ·show YL ⟨hs,rfl,g⟩
theorem G.less{q:Option Ky}{r:Ky}{b:Nat}(h:G it o x y base q r i j)(hb:b<=base):G it o x y b q r i j:=by
 cases q with
 |some _=>show h
 |none=>obtain⟨z,e,h,a1,a2,a3⟩:=h;show⟨z,e,h,a1,a2,by lia⟩
def N0(it:Ky)(o:5e2)(x y:3e9)(base:Nat):ForInStep C0->Prop
 |.done c=>∃r,c.1=some r/\Fin it o x y r
 |.yield c=>c.1=none/\G it o x y base c.1 c.2.1 c.2.2.1 c.2.2.2.1
theorem Mz{c:C0}(R:Rows it o x y)(hA:3e7)(hs:SG κ a p st)(h0:c.1=none)(h:G it o x y base c.1 c.2.1 c.2.2.1 c.2.2.2.1):
  wpS 1e3 A E s (u0 (ar it x) (ar it y) c) (λr aC=>SG κ a p aC/\N0 it o x y (base+1) r) st:=by
 have Jz:0<x.length:=by rw[h0]at h;obtain⟨z,e,h,a1,a2,a3⟩:=h;lia
 ext u0;show YD (Wa (XO
  (I:=λt d aC=>SG κ a p aC/\d.1=none/\G it o x y (if t=0 then base else base+1) d.1 d.2.1 d.2.2.1 d.2.2.2.1)
  (Q:=λd aC=>SG κ a p aC/\G it o x y (base+1) d.1 d.2.1 d.2.2.1 d.2.2.2.1) ?step ?fin ⟨hs,rfl,by rw[h0]at h;show h⟩) ?post)
 case fin=>
  rintro d aC ⟨ed,_,h'⟩;rw[if_neg (by rw[w6,w6];lia)]at h';show⟨ed,h'⟩
 case step=>
  rintro t d aC _ _ ⟨ed,d0,h'⟩;show Wa (My (base:=base) R hA ed d0 (h'.less (by split<;>lia))) λr iM q=>?_;cases r with
  |done d=>show q
  |yield d=>show⟨q.1,q.2.1,q.2.2.less (by split<;>lia)⟩
 case post=>
  rintro⟨d1,d⟩ aC ⟨ed,h'⟩;cases d1 with
  |some r=>show YL ⟨ed,r,rfl,h'⟩
  |none=>
   show YD (KU (WR ⟨rfl,?_⟩));show YD (Wa (XO
    (I:=λt d aC=>SG κ a p aC/\d.1=none/\G it o x y (base+1) d.1 d.2.1 d.2.2.1 d.2.2.2.1)
    (Q:=λd aC=>SG κ a p aC/\G it o x y (base+1) d.1 d.2.1 d.2.2.1 d.2.2.2.1) ?_ (λd aC q=>⟨q.1,q.2.2⟩) ⟨ed,rfl,h'⟩) ?_)
   ·rintro t d aC _ _ ⟨ed,d0,h'⟩
    show Wa (Mx R hA ed d0 h') λr iM q=>?_;cases r with
    |done d=>show q
    |yield d=>show q
   ·rintro⟨d1,d⟩ aC ⟨ed,h'⟩
    cases d1 with
    |some r=>show YL ⟨ed,r,rfl,h'⟩
    |none=>show YD (iN ed λiM GF=>YL ⟨GF,rfl,h'⟩)
theorem sZ{Q:Ky->SortSt->Prop}(R:Rows it o x y)(hA:3e7)(hs:SG κ a p st)(hx0:0<x.length)(Qk:0<y.length)(h:∀r aC,SG κ a p aC->Fin it o x y r->Q r aC):
  wpS 1e3 A E s (jD (ar it x) (ar it y)) Q st:=by
 rw[pN];show YD (KU (WR ⟨rfl,?_⟩));show YD (kc Qk ?_);have j0:J o x y [y.getD 0 0] 0 1:=by
  have:J o x y [] 0 0:=⟨by simpa using R.hx,by simpa using R.hy,by simp⟩
  show this.py R.W R.hx R.hy Qk λhx=>R.first _ (zE hx)
 have e0:(#[Vh it (y.getD 0 0)]:Ky)=ar it [y.getD 0 0]:=rfl;simp only[w6,zB];rw[e0];by_cases h1:1=y.length
 ·rw[if_pos h1];show YL (h _ _ hs (jU j0 (.inl (XF 1e0))))
 ·rw[if_neg h1]
  by_cases h2:0+1=x.length
  ·rw[if_pos h2];show YL (h _ _ hs (nG R j0 h2))
  ·rw[if_neg h2]
   show YD (DL ?_);show YD (Wa (XO
    (I:=λt (d:C0) aC=>SG κ a p aC/\d.1=none/\G it o x y t d.1 d.2.1 d.2.2.1 d.2.2.2.1)
    (Q:=λd aC=>SG κ a p aC/\∃r,d.1=some r/\Fin it o x y r) ?step ?fin ⟨hs,rfl,(show G it o x y 0 none (ar it [y.getD 0 0]) 0 1 from⟨_,rfl,j0,by lia,by lia,by lia⟩)⟩) ?post)
   case fin=>
    rintro d aC ⟨ed,d0,h'⟩;rw[d0]at h';obtain⟨z,e,_,a1,a2,a3⟩:=h';lia
   case step=>
    rintro t d aC _ _ ⟨ed,d0,h'⟩;show Wa (Mz R hA ed d0 h') λr iM q=>?_;cases r with
    |done d=>show q
    |yield d=>show q
   case post=>
    rintro⟨d1,d⟩ aC ⟨ed,r,e,h'⟩;dsimp only at e;subst e;show YL (h _ _ ed h')
end
abbrev D1:=Option Ky×Nat×Nat×Ky×Nat×Nat
abbrev D2:=Option Ky×Nat×Nat×Ky×Nat×Nat×Nat
abbrev D0:=Option Ky×Nat×Nat×Ky×Nat
noncomputable def fh (a b r:Ky)(i j:Nat):Ky:=a.extract 0 i++b.extract 0 j++r.reverse
def v1(a b:Ky)(mg:Nat)(c:D1):SM (ForInStep D1):=
 elem' b (c.2.2.1-1)>>=λe=>elem' a (c.2.1-1)>>=λf=>lt' e f>>=λq=>match q with
 |some bw=>if bw=true then elem' a (c.2.1-1)>>=λe=>
   if(c.2.1-1==0)=true then pure (.done (some (fh a b (c.2.2.2.1.push e) (c.2.1-1) c.2.2.1),c.2.1-1,c.2.2.1,c.2.2.2.1.push e,c.2.2.2.2.1+1,0))
   else if c.2.2.2.2.1+1≥mg then pure (.done (none,c.2.1-1,c.2.2.1,c.2.2.2.1.push e,c.2.2.2.2.1+1,0))
   else pure (.yield (none,c.2.1-1,c.2.2.1,c.2.2.2.1.push e,c.2.2.2.2.1+1,0))
  else elem' b (c.2.2.1-1)>>=λe=>
   if(c.2.2.1-1==1)=true then pure (.done (some (fh b a (c.2.2.2.1.push e) (c.2.2.1-1) c.2.1),c.2.1,c.2.2.1-1,c.2.2.2.1.push e,0,c.2.2.2.2.2+1))
   else if c.2.2.2.2.2+1≥mg then pure (.done (none,c.2.1,c.2.2.1-1,c.2.2.2.1.push e,0,c.2.2.2.2.2+1))
   else pure (.yield (none,c.2.1,c.2.2.1-1,c.2.2.2.1.push e,0,c.2.2.2.2.2+1))
 |_=>pure (.done (some (fh a b c.2.2.2.1 c.2.1 c.2.2.1),c.2.1,c.2.2.1,c.2.2.2.1,c.2.2.2.2.1,c.2.2.2.2.2))
def w3(a b r:Ky)(i j mg ac bc:Nat):SM (ForInStep D2):=
 elem' a (i-1)>>=λe=>
 if(i-1==0)=true then pure (.done (some (fh a b (r.push e) (i-1) j),i-1,j,r.push e,mg,ac,bc))
 else if(decide (ac<7)&&decide (bc<7))=true then pure (.done (none,i-1,j,r.push e,mg,ac,bc))
 else pure (.yield (none,i-1,j,r.push e,mg,ac,bc))
def w1(a b r:Ky)(i j mg ac bc:Nat):SM (ForInStep D2):=
 elem' b (j-1)>>=λe=>
 if(j-1==1)=true then pure (.done (some (fh b a (r.push e) (j-1) i),i,j-1,r.push e,mg,ac,bc))else
  elem' a (i-1)>>=λf=>di true f b 0 (j-1) (j-1-1)>>=λq=>match q with
  |some k=>if j-1-k>0 then
    if(k==1)=true then pure (.done (some (fh b a (r.push e++(b.extract k (j-1)).reverse) k i),i,k,r.push e++(b.extract k (j-1)).reverse,mg,ac,j-1-k))
    else if(k==0)=true then pure (.done (some (fh a b (r.push e++(b.extract k (j-1)).reverse) i k),i,k,r.push e++(b.extract k (j-1)).reverse,mg,ac,j-1-k))
    else w3 a b (r.push e++(b.extract k (j-1)).reverse) i k mg ac (j-1-k)
   else w3 a b (r.push e) i (j-1) mg ac (j-1-k)
  |_=>pure (.done (some (fh a b (r.push e) i (j-1)),i,j-1,r.push e,mg,ac,bc))
def w0(a b r:Ky)(i j mg ac bc:Nat):SM (ForInStep D2):=
 setG mg>>=λ_=>elem' b (j-1)>>=λe=>di false e a 0 i (i-1)>>=λq=>match q with
 |some k=>if i-k>0 then
   if(k==0)=true then pure (.done (some (fh a b (r++(a.extract k i).reverse) k j),k,j,r++(a.extract k i).reverse,mg,i-k,bc))
   else w1 a b (r++(a.extract k i).reverse) k j mg (i-k) bc
  else w1 a b r i j mg (i-k) bc
 |_=>pure (.done (some (fh a b r i j),i,j,r,mg,ac,bc))
def v2(a b:Ky)(c:D2):SM (ForInStep D2):=
 if c.2.2.2.2.1>1 then w0 a b c.2.2.2.1 c.2.1 c.2.2.1 (c.2.2.2.2.1-1) c.2.2.2.2.2.1 c.2.2.2.2.2.2 else w0 a b c.2.2.2.1 c.2.1 c.2.2.1 c.2.2.2.2.1 c.2.2.2.2.2.1 c.2.2.2.2.2.2
def v0(a b:Ky)(c:D0):SM (ForInStep D0):=
 (forIn [0:a.size+b.size] ((none,c.2.1,c.2.2.1,c.2.2.2.1,0,0):D1) λ_ c1=>v1 a b c.2.2.2.2 c1)>>=λd=>match d.1 with
 |some r=>pure (.done (some r,d.2.1,d.2.2.1,d.2.2.2.1,c.2.2.2.2))
 |none=>(liftM (rule "list.sort.gallop"):SM Unit)>>=λ_=>
  (forIn [0:a.size+b.size] ((none,d.2.1,d.2.2.1,d.2.2.2.1,c.2.2.2.2+1,d.2.2.2.2.1,d.2.2.2.2.2):D2) λ_ c2=>v2 a b c2)>>=λe=>match e.1 with
  |some r=>pure (.done (some r,e.2.1,e.2.2.1,e.2.2.2.1,e.2.2.2.2.1))
  |none=>setG (e.2.2.2.2.1+1)>>=λ_=>pure (.yield (none,e.2.1,e.2.2.1,e.2.2.2.1,e.2.2.2.2.1+1))
theorem pO(a b:Ky):jF a b=((liftM (rule "list.sort.merge-hi"):SM Unit)>>=λ_=>elem' a (a.size-1)>>=λe=>
 if(a.size-1==0)=true then pure (fh a b #[e] (a.size-1) b.size)else
  if(b.size==1)=true then pure (fh b a #[e] b.size (a.size-1))else get>>=λg=>
   (forIn [0:a.size+b.size] ((none,a.size-1,b.size,#[e],gallopOf g):D0) λ_ c=>v0 a b c)>>=λc=>match c.1 with
   |some r=>pure r
   |none=>liftM (PU "internal:list.sort.merge-bound":Sem Ky)):=by kernel_rfl
structure JH(o:Nat->Nat->Bool)(x y z:List Nat)(i j:Nat):Prop where
 p1:(x.take i++z).Pairwise (le o)
 p2:(y.take j++z).Pairwise (le o)
 pm:z.Perm (x.drop i++y.drop j)
section
variable{prog:YF}{w:World}{A:Around}{E:1e1}{s:Shared}{κ:Vg}{it a:Ky}{o:5e2}{x y z:3e9}{p:Array (Nat×Nat×Nat)}{st:SortSt}{i j k mg ac bc base:Nat}
theorem JH.swap(h:JH o x y z i j):JH o y x z j i:=⟨h.p2,h.p1,h.pm.trans XQ⟩
theorem JH.ax(h:JH o x y z i j)(hk:k<=i)(hl:∀a∈(x.drop k).take (i-k),∀b∈y.take j,le o b a):JH o x y ((x.drop k).take (i-k)++z) k j:=by
 have e:x.take k++(x.drop k).take (i-k)=x.take i:=by rw[←List.take_add,show k+(i-k)=i by lia]
 have e2:(x.drop k).take (i-k)++x.drop i=x.drop k:=by
  have:=YV (i-k) (x.drop k);rw[V4,show k+(i-k)=i by lia]at this;show this
 show⟨by rw[←Yd,e];show h.p1,?_,?_⟩
 ·have h1:=h.p1;rw[←e,Yd]at h1
  obtain⟨_,a1,_⟩:=Xe.mp h1;obtain⟨b1,_,b3⟩:=Xe.mp h.p2;show Xe.mpr ⟨b1,a1,λb hb a ha=>?_⟩;rcases Ym.mp ha with ha|ha
  ·show hl a ha b hb
  ·show b3 b hb a ha
 ·show(h.pm.append_left _).trans (VH (by rw[←Yd,e2]))
theorem JH.fin(h:JH o x y z i j)(he:x.take i=[]\/y.take j=[]):(x.take i++y.take j++z).Pairwise (le o)/\(x.take i++y.take j++z).Perm (x++y):=by
 show⟨?_,?_⟩
 ·rcases he with e|e
  ·rw[e,WO];show h.p2
  ·rw[e,YG];show h.p1
 ·show(h.pm.append_left _).trans ?_
  have e1:=YV i x;have e2:=YV j y;show Uu ?_ (VH (by rw[e1,e2]:(x.take i++x.drop i)++(y.take j++y.drop j)=x++y));rw[Yd,Yd];show VI _ ?_;rw[←Yd,←Yd];show XQ.append_right _
theorem JH.fst(h:JH o x y z i j)(hl:∀b∈y.take j,∀a∈x,le o b a):(y.take j++x.take i++z).Pairwise (le o)/\(y.take j++x.take i++z).Perm (x++y):=by
 show⟨?_,?_⟩
 ·obtain⟨a1,a2,a3⟩:=Xe.mp h.p2
  rw[Yd];show Xe.mpr ⟨a1,h.p1,λb hb a ha=>?_⟩;rcases Ym.mp ha with ha|ha
  ·show hl b hb a (UY ha)
  ·show a3 b hb a ha
 ·have e1:=YV i x
  have e2:=YV j y;show(XQ.append_right _).trans ?_;show(h.pm.append_left _).trans ?_;show Uu ?_ (VH (by rw[e1,e2]:(x.take i++x.drop i)++(y.take j++y.drop j)=x++y));rw[Yd,Yd];show VI _ ?_;rw[←Yd,←Yd];show XQ.append_right _
theorem wZ(x:3e9)(i:Nat):(ar it x).extract 0 i=ar it (x.take i):=by rw[Hc,Ry,Nat.sub_zero]
theorem GX:fh (ar it x) (ar it y) (ar it z.reverse) i j=ar it (x.take i++y.take j++z):=by
 ext fh;rw[wZ,wZ,C8,List.reverse_reverse,FN,FN]
theorem jW(h:JH o x y z i j)(he:x.take i=[]\/y.take j=[]):Fin it o x y (fh (ar it x) (ar it y) (ar it z.reverse) i j):=⟨_,GX,h.fin he⟩
theorem nI(R:Rows it o x y)(h:JH o x y z i j)(he:j=1)(hy:0<y.length):Fin it o x y (fh (ar it y) (ar it x) (ar it z.reverse) j i):=by
 show⟨_,GX,h.fst λb hb a ha=>?_⟩;subst he;have:=Q5 (x:=y) (i:=0) hy;rw[Ry]at this;rw[this]at hb;rw[Yj.mp hb];show R.first a ha
def GH(it:Ky)(o:5e2)(x y:3e9)(base:Nat)(q:Option Ky)(i j:Nat)(r:Ky):Prop:=
 match q with
 |some r=>Fin it o x y r
 |none=>∃z,r=ar it z.reverse/\JH o x y z i j/\1<=i/\i<=x.length/\2<=j/\j<=y.length/\base+i+j<=x.length+y.length
def L2(it:Ky)(o:5e2)(x y:3e9)(base:Nat):ForInStep D2->Prop
 |.done c=>GH it o x y base c.1 c.2.1 c.2.2.1 c.2.2.2.1
 |.yield c=>c.1=none/\GH it o x y base c.1 c.2.1 c.2.2.1 c.2.2.2.1
theorem FR{n:Nat}(h:n∈x.take i):∃m,m<i/\m<x.length/\n=x.getD m 0:=by
 obtain⟨m,h1,h2,h3,h4⟩:=ji (x:=x) (i:=0) (by rw[Ry];show h);show⟨m,by lia,h3,h4⟩
theorem Ee(n:Nat):(ar it z.reverse).push (Vh it n)=ar it (n::z).reverse:=by rw[Pl,X5]
theorem JH.px(h:JH o x y z i j)(W:Wk o)(hy:y.Pairwise (le o))(hi:0<i)(hx:i<=x.length)(hjy:j<=y.length)(hj:0<j->le o (y.getD (j-1) 0) (x.getD (i-1) 0)):JH o x y (x.getD (i-1) 0::z) (i-1) j:=by
 have e:=Q5 (x:=x) (i:=i-1) 1e0;have:=h.ax (k:=i-1) 1e0 (λa ha b hb=>by
  rw[show i-(i-1)=1 by lia,e]at ha;rw[Yj.mp ha];obtain⟨m,h1,h2,rfl⟩:=FR hb;show W.tr _ _ _ (zc W hy (by lia:m<=j-1) (by lia)) (hj (by lia)))
 rw[show i-(i-1)=1 by lia,e]at this;show this
theorem JH.py(h:JH o x y z i j)(W:Wk o)(hx:x.Pairwise (le o))(hj:0<j)(hy:j<=y.length)(TK:i<=x.length)(hi:0<i->le o (x.getD (i-1) 0) (y.getD (j-1) 0)):JH o x y (y.getD (j-1) 0::z) i (j-1):=(h.swap.px W hx hj hy TK hi).swap
theorem JH.cx(h:JH o x y z i j)(W:Wk o)(hy:y.Pairwise (le o))(hk:k<=i)(hj:0<j)(hjy:j<=y.length)(hl:∀m,k<=m->m<i->le o (y.getD (j-1) 0) (x.getD m 0)):JH o x y ((x.drop k).take (i-k)++z) k j:=
 h.ax hk λa ha b hb=>by
  obtain⟨m,h1,h2,h3,rfl⟩:=ji ha;obtain⟨n,h4,h5,rfl⟩:=FR hb;show W.tr _ _ _ (zc W hy (by lia:n<=j-1) 1e0) (hl m h1 1e0)
theorem M0(c:3e9):ar it z.reverse++(ar it c).reverse=ar it (c++z).reverse:=by rw[C8,FN,List.reverse_append]
theorem F9(R:Rows it o x y)(hs:SG κ a p st)(h:JH o x y z i j)(hi:1<=i)(hx:i<=x.length)(hj:2<=j)(hy:j<=y.length)(hb:base+i+j<=x.length+y.length)(hl:le o (y.getD (j-1) 0) (x.getD (i-1) 0)):
  wpS 1e3 A E s (w3 (ar it x) (ar it y) (ar it z.reverse) i j mg ac bc) (λr aC=>SG κ a p aC/\L2 it o x y base r) st:=by
 ext w3;show YD (kc 1e0 ?_);have h':=h.px R.W R.hy hi hx hy λ_=>hl;rw[Ee];simp only[zB];by_cases h1:i-1=0
 ·rw[if_pos h1];show YL ⟨hs,jW h' (.inl (by rw[h1];rfl))⟩
 ·rw[if_neg h1]
  have g:GH it o x y base none (i-1) j (ar it (x.getD (i-1) 0::z).reverse):=⟨_,rfl,h',by lia,by lia,by lia,by lia,by lia⟩
  split
  ·show YL ⟨hs,g⟩
  ·show YL ⟨hs,rfl,g⟩
theorem F'(R:Rows it o x y)(hA:3e7)(hs:SG κ a p st)(h:JH o x y z i j)(hi:1<=i)(hx:i<=x.length)(hj:2<=j)(hy:j<=y.length)(hb:base+i+j<=x.length+y.length)(hl:le o (x.getD (i-1) 0) (y.getD (j-1) 0)):
  wpS 1e3 A E s (w1 (ar it x) (ar it y) (ar it z.reverse) i j mg ac bc) (λr aC=>SG κ a p aC/\L2 it o x y base r) st:=by
 ext w1;show YD (kc 1e0 ?_);have h':=h.py R.W R.hx 1e0 hy hx λ_=>hl;simp only[Ee,zB];by_cases h1:j-1=1
 ·rw[if_pos h1];show YL ⟨hs,nI R h' h1 1e0⟩
 ·rw[if_neg h1]
  show YD (kc 1e0 ?_);show YD (QO R.W hA hs.kind R.hy R.iy (R.ix _ (zE 1e0)) 1e0 1e0 λk hk q1 q2=>?_);simp only[if_true,XV]at q1 q2;sleep 6;by_cases BX:j-1-k>0
  ·rw[if_pos BX]
   have h2:=(h'.swap.cx R.W R.hx (k:=k) hk 1e0 hx λm a b=>q2 m a b).swap;rw[Hc,M0];by_cases h3:k=1
   ·rw[if_pos h3];show YL ⟨hs,nI R h2 h3 1e0⟩
   ·rw[if_neg h3]
    by_cases h4:k=0
    ·rw[if_pos h4];show YL ⟨hs,jW h2 (.inr (by rw[h4];rfl))⟩
    ·rw[if_neg h4]
     show F9 R hs h2 hi hx 1e0 1e0 1e0 (R.W.rH _ _ (q1 _ 1e0 1e0))
  ·rw[if_neg BX]
   show F9 R hs h' hi hx 1e0 1e0 1e0 (R.W.rH _ _ (q1 _ 1e0 1e0))
theorem Mt(R:Rows it o x y)(hA:3e7)(hs:SG κ a p st)(h:JH o x y z i j)(hi:1<=i)(hx:i<=x.length)(hj:2<=j)(hy:j<=y.length)(hb:base+i+j<=x.length+y.length):
  wpS 1e3 A E s (w0 (ar it x) (ar it y) (ar it z.reverse) i j mg ac bc) (λr aC=>SG κ a p aC/\L2 it o x y base r) st:=by
 ext w0;show YD (iN hs λaC hs=>?_);show YD (kc 1e0 ?_);show YD (QO R.W hA hs.kind R.hx R.ix (R.iy _ (zE 1e0)) 1e0 1e0 λk hk q1 q2=>?_);simp only[Yx,if_false,XV]at q1 q2;sleep 6;by_cases BX:i-k>0
 ·rw[if_pos BX]
  have h2:=h.cx R.W R.hy (k:=k) hk 1e0 hy λm a b=>R.W.rH _ _ (q2 m a b);rw[Hc,M0];simp only[zB];by_cases h3:k=0
  ·rw[if_pos h3];show YL ⟨hs,jW h2 (.inl (by rw[h3];rfl))⟩
  ·rw[if_neg h3]
   show F' R hA hs h2 1e0 1e0 hj hy 1e0 (q1 _ 1e0 1e0)
 ·rw[if_neg BX]
  show F' R hA hs h hi hx hj hy hb (q1 _ 1e0 1e0)
theorem Mu{c:D2}(R:Rows it o x y)(hA:3e7)(hs:SG κ a p st)(h0:c.1=none)(h:GH it o x y base c.1 c.2.1 c.2.2.1 c.2.2.2.1):
  wpS 1e3 A E s (v2 (ar it x) (ar it y) c) (λr aC=>SG κ a p aC/\L2 it o x y base r) st:=by
 rw[h0]at h;obtain⟨z,e,h,a1,a2,a3,a4,a5⟩:=h;ext v2;rw[e];split<;>show Mt R hA hs h a1 a2 a3 a4 a5
def L1(it:Ky)(o:5e2)(x y:3e9)(base:Nat):ForInStep D1->Prop
 |.done c=>GH it o x y base c.1 c.2.1 c.2.2.1 c.2.2.2.1
 |.yield c=>c.1=none/\GH it o x y base c.1 c.2.1 c.2.2.1 c.2.2.2.1
theorem Mv{c:D1}(R:Rows it o x y)(hA:3e7)(hs:SG κ a p st)(h0:c.1=none)(h:GH it o x y base c.1 c.2.1 c.2.2.1 c.2.2.2.1):
  wpS 1e3 A E s (v1 (ar it x) (ar it y) mg c) (λr aC=>SG κ a p aC/\L1 it o x y (base+1) r) st:=by
 rw[h0]at h;obtain⟨z,e,h,a1,a2,a3,a4,a5⟩:=h;ext v1;show YD (kc 1e0 ?_);show YD (kc 1e0 ?_);show YD (ir hA hs.kind (R.iy _ (zE 1e0)) (R.ix _ (zE 1e0)) ?_);simp only[zB];cases hq:o (y.getD (c.2.2.1-1) 0) (x.getD (c.2.1-1) 0)with
 |true=>
  rw[if_pos rfl];show YD (kc 1e0 ?_);have h':=h.px R.W R.hy a1 a2 a4 λ_=>R.W.rH _ _ hq;rw[e,Ee];by_cases h3:c.2.1-1=0
  ·rw[if_pos h3];show YL ⟨hs,jW h' (.inl (by rw[h3];rfl))⟩
  ·rw[if_neg h3]
   have g:GH it o x y (base+1) none (c.2.1-1) c.2.2.1 (ar it (x.getD (c.2.1-1) 0::z).reverse):=⟨_,rfl,h',by lia,by lia,by lia,by lia,by lia⟩
   split
   ·show YL ⟨hs,g⟩
   ·show YL ⟨hs,rfl,g⟩
 |false=>
  rw[if_neg Yw];show YD (kc 1e0 ?_);have h':=h.py R.W R.hx 1e0 a4 a2 λ_=>hq;rw[e,Ee];by_cases h3:c.2.2.1-1=1
  ·rw[if_pos h3];show YL ⟨hs,nI R h' h3 1e0⟩
  ·rw[if_neg h3]
   have g:GH it o x y (base+1) none c.2.1 (c.2.2.1-1) (ar it (y.getD (c.2.2.1-1) 0::z).reverse):=⟨_,rfl,h',by lia,by lia,by lia,by lia,by lia⟩
   split
   ·show YL ⟨hs,g⟩
   ·show YL ⟨hs,rfl,g⟩
theorem GH.less{q:Option Ky}{r:Ky}{b:Nat}(h:GH it o x y base q i j r)(hb:b<=base):GH it o x y b q i j r:=by
 cases q with
 |some _=>show h
 |none=>obtain⟨z,e,h,a1,a2,a3,a4,a5⟩:=h;show⟨z,e,h,a1,a2,a3,a4,by lia⟩
def L0(it:Ky)(o:5e2)(x y:3e9)(base:Nat):ForInStep D0->Prop
 |.done c=>∃r,c.1=some r/\Fin it o x y r
 |.yield c=>c.1=none/\GH it o x y base c.1 c.2.1 c.2.2.1 c.2.2.2.1
theorem Mw{c:D0}(R:Rows it o x y)(hA:3e7)(hs:SG κ a p st)(h0:c.1=none)(h:GH it o x y base c.1 c.2.1 c.2.2.1 c.2.2.2.1):
  wpS 1e3 A E s (v0 (ar it x) (ar it y) c) (λr aC=>SG κ a p aC/\L0 it o x y (base+1) r) st:=by
 have Jz:0<x.length:=by rw[h0]at h;obtain⟨z,e,h,a1,a2,a3⟩:=h;lia
 ext v0;show YD (Wa (XO
  (I:=λt d aC=>SG κ a p aC/\d.1=none/\GH it o x y (if t=0 then base else base+1) d.1 d.2.1 d.2.2.1 d.2.2.2.1)
  (Q:=λd aC=>SG κ a p aC/\GH it o x y (base+1) d.1 d.2.1 d.2.2.1 d.2.2.2.1) ?step ?fin ⟨hs,rfl,by rw[h0]at h;show h⟩) ?post)
 case fin=>
  rintro d aC ⟨ed,_,h'⟩;rw[if_neg (by rw[w6,w6];lia)]at h';show⟨ed,h'⟩
 case step=>
  rintro t d aC _ _ ⟨ed,d0,h'⟩;show Wa (Mv (base:=base) R hA ed d0 (h'.less (by split<;>lia))) λr iM q=>?_;cases r with
  |done d=>show q
  |yield d=>show⟨q.1,q.2.1,q.2.2.less (by split<;>lia)⟩
 case post=>
  rintro⟨d1,d⟩ aC ⟨ed,h'⟩;cases d1 with
  |some r=>show YL ⟨ed,r,rfl,h'⟩
  |none=>
   show YD (KU (WR ⟨rfl,?_⟩));show YD (Wa (XO
    (I:=λt d aC=>SG κ a p aC/\d.1=none/\GH it o x y (base+1) d.1 d.2.1 d.2.2.1 d.2.2.2.1)
    (Q:=λd aC=>SG κ a p aC/\GH it o x y (base+1) d.1 d.2.1 d.2.2.1 d.2.2.2.1) ?_ (λd aC q=>⟨q.1,q.2.2⟩) ⟨ed,rfl,h'⟩) ?_)
   ·rintro t d aC _ _ ⟨ed,d0,h'⟩
    show Wa (Mu R hA ed d0 h') λr iM q=>?_;cases r with
    |done d=>show q
    |yield d=>show q
   ·rintro⟨d1,d⟩ aC ⟨ed,h'⟩
    cases d1 with
    |some r=>show YL ⟨ed,r,rfl,h'⟩
    |none=>show YD (iN ed λiM GF=>YL ⟨GF,rfl,h'⟩)
theorem tf{Q:Ky->SortSt->Prop}(R:Rows it o x y)(hA:3e7)(hs:SG κ a p st)(hx0:0<x.length)(Qk:0<y.length)(h:∀r aC,SG κ a p aC->Fin it o x y r->Q r aC):
  wpS 1e3 A E s (jF (ar it x) (ar it y)) Q st:=by
 rw[pO];show YD (KU (WR ⟨rfl,?_⟩));rw[w6,w6];show YD (kc 1e0 ?_);have j0:JH o x y [x.getD (x.length-1) 0] (x.length-1) y.length:=by
  have:JH o x y [] x.length y.length:=⟨by simpa using R.hx,by simpa using R.hy,by simp⟩
  show this.px R.W R.hy hx0 (Yl _) (Yl _) λhj=>R.last _ (zE 1e0)
 have e0:(#[Vh it (x.getD (x.length-1) 0)]:Ky)=ar it [x.getD (x.length-1) 0].reverse:=rfl;simp only[zB];rw[e0];by_cases h1:x.length-1=0
 ·rw[if_pos h1];show YL (h _ _ hs (jW j0 (.inl (by rw[h1];rfl))))
 ·rw[if_neg h1]
  by_cases h2:y.length=1
  ·rw[if_pos h2];show YL (h _ _ hs (nI R j0 h2 Qk))
  ·rw[if_neg h2]
   show YD (DL ?_);show YD (Wa (XO
    (I:=λt (d:D0) aC=>SG κ a p aC/\d.1=none/\GH it o x y t d.1 d.2.1 d.2.2.1 d.2.2.2.1)
    (Q:=λd aC=>SG κ a p aC/\∃r,d.1=some r/\Fin it o x y r) ?step ?fin ⟨hs,rfl,(show GH it o x y 0 none (x.length-1) y.length (ar it [x.getD (x.length-1) 0].reverse)from⟨_,rfl,j0,by lia,by lia,by lia,by lia,by lia⟩)⟩) ?post)
   case fin=>
    rintro d aC ⟨ed,d0,h'⟩;rw[d0]at h';obtain⟨z,e,_,a1,a2,a3,a4,a5⟩:=h';lia
   case step=>
    rintro t d aC _ _ ⟨ed,d0,h'⟩;show Wa (Mw R hA ed d0 h') λr iM q=>?_;cases r with
    |done d=>show q
    |yield d=>show q
   case post=>
    rintro⟨d1,d⟩ aC ⟨ed,r,e,h'⟩;dsimp only at e;subst e;show YL (h _ _ ed h')
end
abbrev Pn:=Array (Nat×Nat×Nat)
noncomputable def wr (c m:Ky)(n:Nat):Ky:=m.toList.zipIdx.foldl (λa p=>a.setIfInBounds (n+p.2) p.1) c
def gw(sa:Nat)(m:Ky):SM Bool:=(modify λs=>setArr s (wr (arrOf s) m sa))>>=λ_=>get>>=λs=>pure (failedOf s).isNone
def lD(c:Ky)(sa na sb nb:Nat):SM Bool:=
 if na<=nb then jD (c.extract sa sb) (c.extract sb (sb+nb))>>=gw sa else jF (c.extract sa sb) (c.extract sb (sb+nb))>>=gw sa
theorem pP(i:Nat):mergeAt' i=(get>>=λs=>match((X4 s)[i]?,(X4 s)[i+1]?)with
  | (some (sa,na,pw),some (sb,nb,_))=>set (setPending s (((X4 s).setIfInBounds i (sa,na+nb,pw)).eraseIdxIfInBounds (i+1)))>>=λ_=>elem' (arrOf s) sb>>=λe=>di false e (arrOf s) sa na 0>>=λq=>match q with
    |some k=>if(na-k==0)=true then pure true else elem' (arrOf s) (sa+k+(na-k)-1)>>=λf=>di true f (arrOf s) sb nb (nb-1)>>=λq=>match q with
      |some n=>if(n==0)=true then pure true else lD (arrOf s) (sa+k) (na-k) sb n
      |_=>pure false
    |_=>pure false
  |_=>liftM (PU "internal:list.sort.pending":Sem Bool)):=by kernel_rfl
section
variable{prog:YF}{w:World}{A:Around}{E:1e1}{s:Shared}{κ:Vg}{it:Ky}{o:5e2}{L X Y R:3e9}{p:Pn}
theorem F8(n:Nat):∀(z:3e9)(k:Nat)(A B C:3e9),A.length=n+k->B.length=z.length->
  ((z.map (Vh it)).zipIdx k).foldl (λ(a:Ky) p=>a.setIfInBounds (n+p.2) p.1) (ar it (A++B++C))=ar it (A++z++C)
 |[],k,A,B,C,h1,h2=>by
  have:B=[]:=WF.mp h2;subst this;rfl
 |e::z,k,A,B,C,h1,h2=>by
  cases B with
  |nil=>cases h2
  |cons b B=>
   rw[Yq,List.zipIdx_cons,VG];have:(ar it (A++b::B++C)).setIfInBounds (n+k) (Vh it e)=ar it ((A++[e])++B++C):=by
    ext ar;rw[List.setIfInBounds_toArray,YX,YX,Yd,UO _ _ (by simp[h1]),Yi,h1,Rm];simp
   rw[this,F8 n z (k+1) (A++[e]) B C (by simp[h1];lia) (by simpa using h2)];simp
theorem Mp{z:3e9}(h:Y.length=z.length):wr (ar it (L++Y++R)) (ar it z) L.length=ar it (L++z++R):=by
 ext wr;have:=F8 (it:=it) L.length z 0 L Y R 1e0 h;rw[←this];ext ar;rfl
theorem zK{st iM:SortSt}{Q:PUnit->SortSt->Prop}(h:Q ⟨⟩ iM):wpS 1e3 A E s (set iM:StateT SortSt Sem PUnit) Q st:=by
 ext wpS;rw[StateT.run_set];show Yc ⟨rfl,h⟩
theorem LG{j:Nat}(h:j<X.length):(L++X++Y++R).getD (L.length+j) 0=X.getD j 0:=by
 rw[Ys,Ys,Yd,Yd,YE 1e0,XT,Yo h]
theorem OO{j:Nat}(h:j<Y.length):(L++X++Y++R).getD (L.length+X.length+j) 0=Y.getD j 0:=by
 have:=LG (L:=L++X) (X:=Y) (Y:=R) (R:=[]) h;rw[YG,Yf]at this;show this
theorem ex1{k:Nat}(h:k<=X.length):(ar it (L++X++Y++R)).extract (L.length+k) (L.length+X.length)=ar it (X.drop k):=by
 rw[Hc,Yd,Yd,←V4,List.drop_left,List.drop_append_of_le_length h,XY (by rw[Xp];lia),XX (by rw[Xp];lia)]
theorem ex2{k:Nat}(h:k<=Y.length):(ar it (L++X++Y++R)).extract (L.length+X.length) (L.length+X.length+k)=ar it (Y.take k):=by
 rw[Hc,Yd (L++X),←Yf,List.drop_left,XT,XY h]
theorem tj{i m pa pb:Nat}{Q:Bool->SortSt->Prop}(W:Wk o)(hA:3e7)(hi:∀a∈L++X++Y++R,a<it.size)(hX:X.Pairwise (le o))(hY:Y.Pairwise (le o))(x0:0<X.length)(y0:0<Y.length)
  (e1:p[i]? = some (L.length,X.length,pa)) (e2:p[i+1]? = some (L.length+X.length,Y.length,pb))
  (h:∀Z g,Z.Pairwise (le o)->Z.Perm (X++Y)->Q true (Wo κ (ar it (L++Z++R)) ((p.setIfInBounds i (L.length,X.length+Y.length,pa)).eraseIdxIfInBounds (i+1)) g none)):
  wpS 1e3 A E s (mergeAt' i) Q (Wo κ (ar it (L++X++Y++R)) p m none):=by
 have hl:(L++X++Y++R).length=L.length+X.length+Y.length+R.length:=by simp only[Yf]
 have same:X.Pairwise (le o)->(∀a∈X,le o a (Y.getD 0 0))->Q true (Wo κ (ar it (L++X++Y++R)) ((p.setIfInBounds i (L.length,X.length+Y.length,pa)).eraseIdxIfInBounds (i+1)) m none):=λ_ hb=>by
  have:=h (X++Y) m (Xe.mpr ⟨hX,hY,λa ha b rG=>?_⟩) (List.Perm.refl _)
  ·rw[←Yd]at this;show this
  ·obtain⟨n,h2,h3,rfl⟩:=FR (x:=Y) (i:=Y.length) (by rw[UV];show rG)
   show W.tr _ _ _ (hb a ha) (zc W hY (Y4 _) h3)
 rw[pP];show YD (DL ?_);change wpS _ _ _ _ (match(p[i]?,p[i+1]?)with|(some (sa,na,pw),some (sb,nb,_))=>_|_=>_) _ _;rw[e1,e2];sleep 6;show YD (zK ?_);show YD (kc 1e0 ?_);have k0:(L++X++Y++R).getD (L.length+X.length) 0=Y.getD 0 0:=OO (j:=0) y0;rw[k0];have iX:∀a∈X,a<it.size:=λa ha=>hi a (by simp[ha]);have iY:∀a∈Y,a<it.size:=λa ha=>hi a (by simp[ha]);show YD (Z0 W hA rfl (λa b h1 h2 h3=>?_) hi (iY _ (zE y0)) 1e0 x0 λk hk q1 q2=>?_)
 ·obtain⟨a',rfl⟩:=Vi h1
  obtain⟨b',rfl⟩:=Vi (Xb h1 h2);rw[LG 1e0,LG 1e0];show zc W hX 1e0 1e0
 simp only[Yx,if_false]at q1 q2;have q1':∀m,m<k->le o (X.getD m 0) (Y.getD 0 0):=λm hm=>by
  have:=q1 (L.length+m) 1e0 1e0;rw[LG 1e0]at this;show this
 have q2':∀m,k<=m->m<X.length->o (Y.getD 0 0) (X.getD m 0)=true:=λm hm hm2=>by
  have:=q2 (L.length+m) 1e0 1e0;rw[LG 1e0]at this;show this
 sleep 6;simp only[zB];by_cases c1:X.length-k=0
 ·rw[if_pos c1]
  show YL (same hX λa ha=>?_);obtain⟨n,h2,h3,rfl⟩:=FR (x:=X) (i:=X.length) (by rw[UV];show ha);show q1' n 1e0
 rw[if_neg c1];show YD (kc 1e0 ?_);have k1:(L++X++Y++R).getD (L.length+k+(X.length-k)-1) 0=X.getD (X.length-1) 0:=by
  rw[show L.length+k+(X.length-k)-1=L.length+(X.length-1) by lia];show LG 1e0
 rw[k1];show YD (Z0 W hA rfl (λa b h1 h2 h3=>?_) hi (iX _ (zE 1e0)) 1e0 1e0 λn hn r1 r2=>?_)
 ·obtain⟨a',rfl⟩:=Vi h1
  obtain⟨b',rfl⟩:=Vi (Xb h1 h2);rw[OO 1e0,OO 1e0];show zc W hY 1e0 1e0
 simp only[if_true]at r1 r2;have Nf:∀m,m<n->o (Y.getD m 0) (X.getD (X.length-1) 0)=true:=λm hm=>by
  have:=r1 (L.length+X.length+m) 1e0 1e0;rw[OO 1e0]at this;show this
 have r2':∀m,n<=m->m<Y.length->le o (X.getD (X.length-1) 0) (Y.getD m 0):=λm hm hm2=>by
  have:=r2 (L.length+X.length+m) 1e0 1e0;rw[OO 1e0]at this;show this
 sleep 6;by_cases c2:n=0
 ·rw[if_pos c2]
  show YL (same hX λa ha=>?_);obtain⟨j,h2,h3,rfl⟩:=FR (x:=X) (i:=X.length) (by rw[UV];show ha);show W.tr _ _ _ (zc W hX (by lia:j<=X.length-1) 1e0) (r2' 0 1e0 y0)
 rw[if_neg c2];have LB:(X.drop k).length=X.length-k:=Xp;have htl:(Y.take n).length=n:=by rw[Xo];lia
 have gt0:(Y.take n).getD 0 0=Y.getD 0 0:=by rw[Ys,Ys,XH 1e0]
 have gl0:(X.drop k).getD ((X.drop k).length-1) 0=X.getD (X.length-1) 0:=by
  rw[Ys,Ys,List.getElem?_drop,LB,show k+(X.length-k-1)=X.length-1 by lia]
 have Rw:Rows it o (X.drop k) (Y.take n):=by
  show⟨W,hX.drop,hY.take,λa ha=>iX a (List.mem_of_mem_drop ha),λa ha=>iY a (UY ha),λa ha=>?_,λb hb=>?_⟩
  ·rw[gt0];obtain⟨m,h1,h2,rfl⟩:=Kz ha;show W.rH _ _ (q2' m h1 h2)
  ·rw[gl0];obtain⟨m,h1,h2,rfl⟩:=FR hb;show W.rH _ _ (Nf m h1)
 have done:∀r aC,SG κ (ar it (L++X++Y++R)) ((p.setIfInBounds i (L.length,X.length+Y.length,pa)).eraseIdxIfInBounds (i+1)) aC->Fin it o (X.drop k) (Y.take n) r->wpS 1e3 A E s (gw (L.length+k) r) Q aC:=by
  rintro r aC ⟨g,rfl⟩ ⟨z,rfl,z1,z2⟩;ext gw;show YD (Mh (YD (DL (YL ?_))));have zl:(X.drop k++Y.take n).length=z.length:=z2.length_eq.symm;have e:L++X++Y++R=(L++X.take k)++(X.drop k++Y.take n)++(Y.drop n++R):=by
   conv=>lhs;rw[←YV k X,←YV n Y]
   simp only[Yd]
  have:=h (X.take k++z++Y.drop n) g ?_ ?_
  ·change Q true (Wo κ (wr (ar it (L++X++Y++R)) (ar it z) (L.length+k)) _ g none)
   have el:L.length+k=(L++X.take k).length:=by rw[Yf,Xo];lia
   rw[e,el,Mp zl];have e3:L++X.take k++z++(Y.drop n++R)=L++(X.take k++z++Y.drop n)++R:=by simp only[Yd]
   rw[e3];show this
  ·have mz:∀a∈z,a∈X.drop k\/a∈Y.take n:=λa ha=>Ym.mp (z2.mem_iff.mp ha)
   rw[Yd];show Xe.mpr ⟨hX.take,Xe.mpr ⟨z1,hY.drop,λa ha b hb=>?_⟩,λa ha b hb=>?_⟩
   ·obtain⟨m,h1,h2,rfl⟩:=Kz hb
    rcases mz a ha with q|q
    ·obtain⟨j,h3,h4,rfl⟩:=Kz q
     show W.tr _ _ _ (zc W hX (by lia:j<=X.length-1) 1e0) (r2' m h1 h2)
    ·obtain⟨j,h3,h4,rfl⟩:=FR q
     show zc W hY 1e0 h2
   ·obtain⟨j,h3,h4,rfl⟩:=FR ha
    have hYY:∀m,m<Y.length->le o (X.getD j 0) (Y.getD m 0):=λm hm=>W.tr _ _ _ (q1' j h3) (zc W hY (Y4 _) hm);rcases Ym.mp hb with hb|hb
    ·rcases mz b hb with q|q
     ·obtain⟨m,h1,h2,rfl⟩:=Kz q;show zc W hX 1e0 h2
     ·obtain⟨m,h1,h2,rfl⟩:=FR q;show hYY m h2
    ·obtain⟨m,h1,h2,rfl⟩:=Kz hb;show hYY m h2
  ·show((z2.append_left _).append_right _).trans (VH ?_)
   conv=>rhs;rw[←YV k X,←YV n Y]
   simp only[Yd]
 ext lD;rw[show arrOf (Wo κ (ar it (L++X++Y++R)) p m none)=ar it (L++X++Y++R)from rfl,ex1 1e0,ex2 hn];split
 ·show YD (sZ Rw hA ⟨m,rfl⟩ 1e0 1e0 done)
 ·show YD (tf Rw hA ⟨m,rfl⟩ 1e0 1e0 done)
end
abbrev CA:=Option (Option Nat)×Nat
abbrev CD:=Option (Option Nat)×Nat×Nat
noncomputable def FL (lo a n:Nat):SM CA:=forIn [a:n] ((none,a):CA) λ_ c=>ltAt' (lo+c.2) (lo+c.2-1)>>=λq=>match q with
 |some sm=>if sm=true then pure (.done (none,c.2))else pure (.yield (none,c.2+1))
 |_=>pure (.done (some none,c.2))
def tail3(lo n N:Nat):SM (Option Nat):=U2 lo (lo+n)>>=λ_=>FL lo n N>>=λc=>match c.1 with
 |some r=>pure r
 |none=>pure (some c.2)
noncomputable def CF (lo a n:Nat):SM CD:=forIn [a:n] ((none,a,0):CD) λ_ c=>ltAt' (lo+c.2.1) (lo+c.2.1-1)>>=λq=>match q with
 |some sm=>if sm=true then if c.2.2>0 then U2 (lo+c.2.1-(c.2.2+1)) (lo+c.2.1)>>=λ_=>pure (.yield (none,c.2.1+1,0))else pure (.yield (none,c.2.1+1,0))
  else ltAt' (lo+c.2.1-1) (lo+c.2.1)>>=λq=>match q with
   |some lg=>if lg=true then pure (.done (none,c.2.1,c.2.2))else pure (.yield (none,c.2.1+1,c.2.2+1))
   |_=>pure (.done (some none,c.2.1,c.2.2))
 |_=>pure (.done (some none,c.2.1,c.2.2))
def wM(lo n N:Nat):SM (Option Nat):=(liftM (rule "list.sort.descending-run"):SM Unit)>>=λ_=>CF lo (n+1) N>>=λc=>match c.1 with
 |some r=>pure r
 |none=>if c.2.2>0 then U2 (lo+c.2.1-(c.2.2+1)) (lo+c.2.1)>>=λ_=>tail3 lo c.2.1 N else tail3 lo c.2.1 N
theorem kK(lo N:Nat):countRun' lo N=(FL lo 1 N>>=λc=>match c.1 with
 |some r=>pure r
 |none=>if(c.2==N)=true then pure (some c.2)else if c.2>1 then ltAt' lo (lo+c.2-1)>>=λq=>match q with
   |some rs=>if rs=true then pure (some c.2)else U2 lo (lo+c.2)>>=λ_=>wM lo c.2 N
   |_=>pure none
  else wM lo c.2 N):=by kernel_rfl
section
variable{prog:YF}{w:World}{A:Around}{E:1e1}{s:Shared}{κ:Vg}{it:Ky}{o:5e2}{L:3e9}{p:Array Nat}{pd:Pn}{m i j N n:Nat}
def gc(κ:Vg)(it:Ky)(L:3e9)(p:Array Nat)(pd:Pn)(m:Nat):SortSt:=Wo κ (ar it (L++p.toList)) pd m none
theorem KL(L:3e9)(p:Array Nat)(k:Nat):(ar it (L++p.toList))[k]? = if k<L.length then L[k]?.map (Vh it)else p[k-L.length]?.map (Vh it):=by
 ext ar;rw[X3,Yy];by_cases h:k<L.length
 ·rw[if_pos h,Yo h]
 ·rw[if_neg h,YE 1e0,YY]
theorem yZ(wz:i<=j)(hj:j<=p.size):mirror (ar it (L++p.toList)) (L.length+i) (L.length+j) ((L.length+j-(L.length+i))/2)=ar it (L++(FZ p i j).toList):=by
 apply Array.ext_getElem?;intro k;rw[Yac (by rw[w6];simp;lia),KL,KL,KL];ext FZ;rw[Yac hj];by_cases h1:k<L.length
 ·rw[if_pos h1,if_pos h1,if_neg 1e0]
 ·rw[if_neg h1,if_neg h1]
  by_cases h2:i<=k-L.length/\k-L.length<j
  ·rw[if_pos 1e0,if_neg 1e0,if_pos h2,show L.length+i+(L.length+j)-1-k-L.length=i+j-1-(k-L.length) by lia]
  ·rw[if_neg 1e0,if_neg h2]
theorem y9{k d:Nat}(hk:k<p.size)(hd:d<=k):bubble (ar it (L++p.toList)) (L.length+k) d=ar it (L++(bubble p k d).toList):=by
 apply Array.ext_getElem?;intro c;rw[Ycc (by rw[w6];simp;lia) _ 1e0,KL,KL,KL,KL,Ycc hk _ hd]
 repeat' split
 all_goals first|rfl|(exfalso;lia)|(congr 2;lia)
theorem mM{Q:Unit->SortSt->Prop}{a b:Nat}(ha:a=L.length+i)(hb:b=L.length+j)(wz:i<=j)(hj:j<=p.size)(h:Q () (gc κ it L (FZ p i j) pd m)):wpS 1e3 A E s (U2 a b) Q (gc κ it L p pd m):=by
 subst ha hb;rw[reverseSlice'_eq];show Mh ?_;change Q () (Wo κ (mirror (ar it (L++p.toList)) (L.length+i) (L.length+j) ((L.length+j-(L.length+i))/2)) pd m none);rw[yZ wz hj];show h
theorem qT{Q:Option Bool->SortSt->Prop}{a b:Nat}(hA:3e7)(hp:10e2)(ha:a=L.length+i)(hb:b=L.length+j)(hi:i<p.size)(hj:j<p.size)(h:Q (some (o (p.getD i 0) (p.getD j 0))) (gc κ it L p pd m)):wpS 1e3 A E s (ltAt' a b) Q (gc κ it L p pd m):=by
 subst ha hb;rw[ltAt'_eq];show YD (DL ?_);have g:∀i,i<p.size->(L++p.toList).getD (L.length+i) 0=p.getD i 0:=λi hi=>by
  rw[Ys,YE 1e0,XT,YY,YM]
 have l:∀i,i<p.size->p.getD i 0<it.size:=λi hi=>hp _ (by rw[YM,Yh hi];simp);show YD (kc 6e3 (YD (kc 6e3 ?_)));rw[g i hi,g j hj];show ir hA rfl (l i hi) (l j hj) h
theorem KN{p p':Array Nat}(h:p'.Perm p)(hp:10e2):∀n∈p'.toList,n<it.size:=λn hn=>hp n ((Yam.mp h).mem_iff.mp hn)
theorem C7{Q:CA->SortSt->Prop}(W:Wk o)(hA:3e7)(hp:10e2)(hN:N<=p.size)(h1:1<=n)(hn:n<=N)(hs:kl o p n)
  (h:∀k,n<=k->k<=N->kl o p k->(k<N->o (p.getD k 0) (p.getD (k-1) 0)=true)->Q (none,k) (gc κ it L p pd m)):wpS 1e3 A E s (FL L.length n N) Q (gc κ it L p pd m):=by
 ext FL;show Wa (XO (I:=λx c aC=>c=(none,x)/\aC=gc κ it L p pd m/\kl o p x)
  (Q:=λc aC=>∃k,c=(none,k)/\aC=gc κ it L p pd m/\n<=k/\k<=N/\kl o p k/\(k<N->o (p.getD k 0) (p.getD (k-1) 0)=true)) ?step ?fin ⟨rfl,rfl,hs⟩) ?post
 case fin=>
  rintro c aC ⟨rfl,rfl,q⟩;rw[Ybq hn]at q⊢;show⟨N,rfl,rfl,hn,Yl _,q,λz=>absurd z (WB _)⟩
 case post=>
  rintro c aC ⟨k,rfl,rfl,a1,a2,a3,a4⟩;show h k a1 a2 a3 a4
 case step=>
  rintro x c aC hx hxN ⟨rfl,rfl,q⟩;sleep 6;show YD (qT (i:=x) (j:=x-1) hA hp rfl 1e0 1e0 1e0 ?_);sleep 6;cases hc:o (p.getD x 0) (p.getD (x-1) 0)with
  |true=>rw[if_pos rfl];show YL ⟨x,rfl,rfl,hx,by lia,q,λ_=>hc⟩
  |false=>rw[if_neg Yw];show YL ⟨rfl,rfl,q.step W 1e0 hc⟩
theorem KD(p:Array Nat)(i j:Nat):(FZ p i j).Perm p:=mirror_perm _ _ _ _
theorem js(p:Array Nat)(i j:Nat):(FZ p i j).size=p.size:=mirror_size _ _ _ _
theorem oC{Q:Option Nat->SortSt->Prop}(W:Wk o)(hA:3e7)(hp:10e2)(hN:N<=p.size)(h1:1<=n)(hn:n<=N)(hs:rL o p n)
  (h:∀k p',1<=k->k<=N->p'.Perm p->kl o p' k->Q (some k) (gc κ it L p' pd m)):wpS 1e3 A E s (tail3 L.length n N) Q (gc κ it L p pd m):=by
 ext tail3;show YD (mM (i:=0) rfl rfl (Y4 _) 1e0 ?_);show YD (C7 W hA (KN (KD _ _ _) hp) (by rw[js];show hN) h1 hn (hs.srt 1e0) λk a1 a2 a3 _=>YL (h k _ 1e0 a2 (KD _ _ _) a3))
structure DS(o:Nat->Nat->Bool)(p0 p:Array Nat)(n q:Nat):Prop where
 pm:p.Perm p0
 q1:q+1<=n
 aF:rL o p n
 eqv:Eqv o p (n-(q+1)) n
theorem m5(W:Wk o)(p:Array Nat):Eqv o p (n+1-(0+1)) (n+1):=λi j a b c d=>by
 have:i=j:=by lia
 subst this;show W.Dz _
theorem Fy{Q:CD->SortSt->Prop}(W:Wk o)(hA:3e7)(hp:10e2)(hN:N<=p.size)(h1:1<=n)(hn:n<=N)(hs:rL o p n)
  (h:∀k q p',n<=k->k<=N->DS o p p' k q->Q (none,k,q) (gc κ it L p' pd m)):wpS 1e3 A E s (CF L.length n N) Q (gc κ it L p pd m):=by
 ext CF;show Wa (XO (I:=λx c aC=>∃q p',c=(none,x,q)/\aC=gc κ it L p' pd m/\DS o p p' x q)
  (Q:=λc aC=>∃k q p',c=(none,k,q)/\aC=gc κ it L p' pd m/\n<=k/\k<=N/\DS o p p' k q) ?step ?fin ⟨0,p,rfl,rfl,.refl _,by lia,hs,by obtain⟨n,rfl⟩:∃k,n=k+1:=⟨n-1,by lia⟩;show m5 W p⟩) ?post
 case fin=>
  rintro c aC ⟨q,p',rfl,rfl,D⟩;rw[Ybq hn]at D⊢;show⟨N,q,p',rfl,rfl,hn,Yl _,D⟩
 case post=>
  rintro c aC ⟨k,q,p',rfl,rfl,a1,a2,D⟩;show h k q p' a1 a2 D
 case step=>
  rintro x c aC hx hxN ⟨q,p',rfl,rfl,D⟩;sleep 6;have JA:=KN D.pm hp;have hz:p'.size=p.size:=D.pm.size_eq;have Ly:=D.q1;show YD (qT (i:=x) (j:=x-1) hA JA rfl 1e0 1e0 1e0 ?_);sleep 6;cases hc:o (p'.getD x 0) (p'.getD (x-1) 0)with
  |true=>
   rw[if_pos rfl];have hn:=D.aF.step W 1e0 (W.rH _ _ hc);by_cases hq:q>0
   ·rw[if_pos hq]
    show YD (mM (i:=x-(q+1)) (j:=x) 1e0 rfl 1e0 1e0 ?_);show YL ⟨0,_,rfl,rfl,(KD _ _ _).trans D.pm,by lia,hn.rev W 1e0 1e0 1e0 D.eqv,m5 W _⟩
   ·rw[if_neg hq];show YL ⟨0,_,rfl,rfl,D.pm,by lia,hn,m5 W _⟩
  |false=>
   rw[if_neg Yw];show YD (qT (i:=x-1) (j:=x) hA JA 1e0 rfl 1e0 1e0 ?_);sleep 6;cases hd:o (p'.getD (x-1) 0) (p'.getD x 0)with
   |true=>rw[if_pos rfl];show YL ⟨x,q,p',rfl,rfl,hx,by lia,D⟩
   |false=>
    rw[if_neg Yw];show YL ⟨q+1,p',rfl,rfl,D.pm,by lia,D.aF.step W 1e0 hd,?_⟩;intro i j a1 a2 b1 b2;by_cases hi:i=x
    ·by_cases hj:j=x
     ·subst hi;subst hj;show W.Dz _
     ·subst hi;show W.tr _ _ _ (D.eqv _ _ 1e0 1e0 1e0 1e0) hc
    ·by_cases hj:j=x
     ·subst hj;show W.tr _ _ _ hd (D.eqv _ _ 1e0 1e0 1e0 1e0)
     ·show D.eqv _ _ 1e0 1e0 1e0 1e0
theorem qu{Q:Option Nat->SortSt->Prop}(W:Wk o)(hA:3e7)(hp:10e2)(hN:N<=p.size)(hn:n+1<=N)(hs:rL o p (n+1))
  (h:∀k p',1<=k->k<=N->p'.Perm p->kl o p' k->Q (some k) (gc κ it L p' pd m)):wpS 1e3 A E s (wM L.length n N) Q (gc κ it L p pd m):=by
 ext wM;show YD (KU (WR ⟨rfl,?_⟩));show YD (Fy W hA hp hN 1e0 hn hs λk q p' a1 a2 D=>?_);have hz:p'.size=p.size:=D.pm.size_eq;have Ly:=D.q1;sleep 6;by_cases hq:q>0
 ·rw[if_pos hq]
  show YD (mM (i:=k-(q+1)) (j:=k) 1e0 rfl 1e0 1e0 ?_);show oC W hA (KN ((KD _ _ _).trans D.pm) hp) (by rw[js];lia) 1e0 a2 (D.aF.rev W 1e0 1e0 1e0 D.eqv) λk p2 b1 b2 b3 b4=>h k p2 b1 b2 (b3.trans ((KD _ _ _).trans D.pm)) b4
 ·rw[if_neg hq]
  show oC W hA (KN D.pm hp) 1e0 1e0 a2 D.aF λk p2 b1 b2 b3 b4=>h k p2 b1 b2 (b3.trans D.pm) b4
theorem ED(W:Wk o)(p:Array Nat):kl o p 1:=λi j a b=>by
 have:i=j:=by lia
 subst this;show W.Dz _
theorem qB{Q:Option Nat->SortSt->Prop}(W:Wk o)(hA:3e7)(hp:10e2)(hN:N<=p.size)(h1:1<=N)
  (h:∀k p',1<=k->k<=N->p'.Perm p->kl o p' k->Q (some k) (gc κ it L p' pd m)):wpS 1e3 A E s (countRun' L.length N) Q (gc κ it L p pd m):=by
 rw[kK];show YD (C7 W hA hp hN (Yl 1) h1 (ED W p) λk a1 a2 a3 a4=>?_);sleep 6;simp only[zB];by_cases c1:k=N
 ·rw[if_pos c1];show YL (h k p a1 a2 (.refl _) a3)
 rw[if_neg c1];have a4:=a4 1e0;by_cases c2:k>1
 ·rw[if_pos c2]
  show YD (qT (i:=0) (j:=k-1) hA hp rfl 1e0 1e0 1e0 ?_);sleep 6;cases hc:o (p.getD 0 0) (p.getD (k-1) 0)with
  |true=>rw[if_pos rfl];show YL (h k p a1 a2 (.refl _) a3)
  |false=>
   rw[if_neg Yw];have eq:Eqv o p 0 k:=λi j _ hi _ hj=>by
    have h2:o (p.getD 0 0) (p.getD j 0)=false:=W.tr _ _ _ (a3 j (k-1) 1e0 1e0) hc;show W.tr _ _ _ h2 (a3 0 i 1e0 hi)
   have Sv:rL o p (k+1):=rL.step W (λi j wz hj=>eq i j 1e0 1e0 1e0 hj) a1 (W.rH _ _ a4);show YD (mM (i:=0) (j:=k) rfl rfl 1e0 1e0 ?_);show qu W hA (KN (KD _ _ _) hp) (by rw[js];show hN) 1e0 (Sv.rev W 1e0 1e0 1e0 eq) λk p2 b1 b2 b3 b4=>h k p2 b1 b2 (b3.trans (KD _ _ _)) b4
 ·rw[if_neg c2]
  have:k=1:=by lia
  subst this;show qu W hA hp hN 1e0 (rL.step W (λi j a b=>?_) 1e0 (W.rH _ _ a4)) h;have:i=j:=by lia
  subst this;show W.Dz _
end
abbrev CI:=Option Bool×Nat×Nat
noncomputable def Jv (lo k:Nat):SM CI:=forIn [0:k] ((none,0,k):CI) λ_ c=>if c.2.1≥c.2.2 then pure (.done (none,c.2.1,c.2.2))else ltAt' (lo+k) (lo+(c.2.1+c.2.2)/2)>>=λq=>match q with
 |some ls=>if ls=true then pure (.yield (none,c.2.1,(c.2.1+c.2.2)/2))else pure (.yield (none,(c.2.1+c.2.2)/2+1,c.2.2))
 |_=>pure (.done (some false,c.2.1,c.2.2))
theorem iG(lo n ok:Nat):binarySort' lo n ok=((forIn [max ok 1:n] ((none,()):Option Bool×Unit) λk _=>Jv lo k>>=λd=>match d.1 with
  |some r=>pure (.done (some r,()))
  |none=>moveDown' (lo+k) (lo+d.2.1)>>=λ_=>pure (.yield (none,())))>>=λc=>match c.1 with
 |some r=>pure r
 |none=>pure true):=by kernel_rfl
section
variable{prog:YF}{w:World}{A:Around}{E:1e1}{s:Shared}{κ:Vg}{it:Ky}{o:5e2}{L:3e9}{p:Array Nat}{pd:Pn}{m i j N n k:Nat}
theorem Ju{Q:CI->SortSt->Prop}(W:Wk o)(hA:3e7)(hp:10e2)(hk:k<p.size)(hs:kl o p k)
  (h:∀l,l<=k->(∀i,i<l->o (p.getD k 0) (p.getD i 0)=false)->(∀i,l<=i->i<k->o (p.getD k 0) (p.getD i 0)=true)->Q (none,l,l) (gc κ it L p pd m)):wpS 1e3 A E s (Jv L.length k) Q (gc κ it L p pd m):=by
 ext Jv;show Wa (XO (I:=λx c aC=>aC=gc κ it L p pd m/\∃l r,c=(none,l,r)/\l<=r/\r<=k/\r-l<=k-x/\(∀i,i<l->o (p.getD k 0) (p.getD i 0)=false)/\(∀i,r<=i->i<k->o (p.getD k 0) (p.getD i 0)=true))
  (Q:=λc aC=>aC=gc κ it L p pd m/\∃l,c=(none,l,l)/\l<=k/\(∀i,i<l->o (p.getD k 0) (p.getD i 0)=false)/\(∀i,l<=i->i<k->o (p.getD k 0) (p.getD i 0)=true)) ?step ?fin
  ⟨rfl,0,k,rfl,by lia,by lia,by lia,λi z=>absurd z (by lia),λi z y=>absurd z (by lia)⟩) ?post
 case fin=>
  rintro c aC ⟨rfl,l,r,rfl,a1,a2,a3,a4,a5⟩;have:l=r:=by lia
  subst this;show⟨rfl,l,rfl,a2,a4,a5⟩
 case post=>
  rintro c aC ⟨rfl,l,rfl,a1,a2,a3⟩;show h l a1 a2 a3
 case step=>
  rintro x c aC _ hx ⟨rfl,l,r,rfl,a1,a2,a3,a4,a5⟩;sleep 6;by_cases Oe:l≥r
  ·rw[if_pos Oe]
   have:l=r:=by lia
   subst this;show YL ⟨rfl,l,rfl,a2,a4,a5⟩
  ·rw[if_neg Oe]
   show YD (qT (i:=k) (j:=(l+r)/2) hA hp rfl rfl hk 1e0 ?_);sleep 6;cases hc:o (p.getD k 0) (p.getD ((l+r)/2) 0)with
   |true=>
    rw[if_pos rfl];show YL ⟨rfl,_,_,rfl,by lia,by lia,by lia,a4,λi b1 b2=>?_⟩;cases z:o (p.getD k 0) (p.getD i 0)with
    |true=>rfl
    |false=>rw[W.tr _ _ _ (hs _ i b1 b2) z]at hc;cases hc
   |false=>
    rw[if_neg Yw];show YL ⟨rfl,_,_,rfl,by lia,by lia,by lia,λi b=>W.tr _ _ _ (hs i _ 1e0 1e0) hc,a5⟩
theorem yX{Q:Bool->SortSt->Prop}(W:Wk o)(hA:3e7)(hp:10e2)(hN:N<=p.size)(h1:1<=n)(hn:n<=N)(hs:kl o p n)
  (h:∀p',p'.Perm p->kl o p' N->Q true (gc κ it L p' pd m)):wpS 1e3 A E s (binarySort' L.length N n) Q (gc κ it L p pd m):=by
 rw[iG,Nat.max_eq_left h1];show YD (Wa (XO (I:=λx c aC=>c=(none,())/\∃p',aC=gc κ it L p' pd m/\p'.Perm p/\kl o p' x)
  (Q:=λc aC=>c=(none,())/\∃p',aC=gc κ it L p' pd m/\p'.Perm p/\kl o p' N) ?step ?fin ⟨rfl,p,rfl,.refl _,hs⟩) ?post)
 case fin=>
  rintro c aC ⟨rfl,p',rfl,a1,a2⟩;rw[Ybq hn]at a2;show⟨rfl,p',rfl,a1,a2⟩
 case post=>
  rintro c aC ⟨rfl,p',rfl,a1,a2⟩;show YL (h p' a1 a2)
 case step=>
  rintro x c aC hx hxN ⟨rfl,p',rfl,a1,a2⟩;have hz:=a1.size_eq;show YD (Ju W hA (KN a1 hp) 1e0 a2 λl b1 b2 b3=>?_);sleep 6;rw[moveDown'_eq];show YD (Mh (YL ⟨rfl,bubble p' x (x-l),?_,(bubble_perm _ _ _).trans a1,CY W a2 1e0 b1 b2 b3⟩));change Wo κ (bubble (ar it (L++p'.toList)) (L.length+x) (L.length+x-(L.length+l))) pd m none=_;rw[show L.length+x-(L.length+l)=x-l by lia,y9 1e0 1e0];rfl
structure PI(κ:Vg)(it:Ky)(o:Nat->Nat->Bool)(st:SortSt)(S:List (List Nat))(R:List Nat):Prop where
 st:∃pd m,st=Wo κ (ar it (S.flatten++R)) pd m none/\pd.size=S.length/\∀(i:Nat)X,S[i]? = some X->∃v,pd[i]? = some ((S.take i).flatten.length,X.length,v)
 ok:∀X∈S,X.Pairwise (le o)/\0<X.length
 pm:(S.flatten++R).Perm (YB it.size)
theorem PI.lt{st:SortSt}{S:List (List Nat)}{R:3e9}(h:PI κ it o st S R):∀a∈S.flatten++R,a<it.size:=λa ha=>Y1.mp (h.pm.mem_iff.mp ha)
theorem EB(pd:Pn)(v:Nat×Nat×Nat)(h:i+1<pd.size):((pd.setIfInBounds i v).eraseIdxIfInBounds (i+1)).size+1=pd.size:=by
 ext Array.eraseIdxIfInBounds;rw[dif_pos (by rw[Uf];show h),Array.size_eraseIdx,Uf];lia
theorem IA(pd:Pn)(v:Nat×Nat×Nat)(h:i+1<pd.size)(j:Nat):((pd.setIfInBounds i v).eraseIdxIfInBounds (i+1))[j]? = if j<i then pd[j]? else if j=i then some v else pd[j+1]?:=by
 ext Array.eraseIdxIfInBounds;rw[dif_pos (by rw[Uf];show h),Array.getElem?_eraseIdx];by_cases h1:j<i
 ·rw[if_pos 1e0,if_pos h1,UG 1e0]
 ·rw[if_neg h1]
  by_cases h2:j=i
  ·subst h2;rw[if_pos 1e0,if_pos rfl,Array.getElem?_setIfInBounds_self_of_lt 1e0]
  ·rw[if_neg 1e0,if_neg h2,UG 1e0]
theorem tkl{T C:List (List Nat)}{n:Nat}:(T++C).take (T.length+n)=T++C.take n:=by rw[List.take_append,XX 1e0,XT]
theorem PI.merge{st:SortSt}{S:List (List Nat)}{R:3e9}{Q:Bool->SortSt->Prop}(W:Wk o)(hA:3e7)(h:PI κ it o st S R)(hi:i+1<S.length)
  (hq:∀aC S',PI κ it o aC S' R->S'.length+1=S.length->Q true aC):wpS 1e3 A E s (mergeAt' i) Q st:=by
 obtain⟨⟨pd,m,rfl,hz,lN⟩,ok,pm⟩:=h;have lt:∀a∈S.flatten++R,a<it.size:=λa ha=>Y1.mp (pm.mem_iff.mp ha);obtain⟨T,X,Y,B,rfl,rfl⟩:∃T X Y B,S=T++X::Y::B/\T.length=i:=⟨S.take i,S[i],S[i+1],S.drop (i+2),by
  conv=>lhs;rw[←YV i S,Y9 (by lia),Y9 (by lia)],by rw[Xo];lia⟩
 obtain⟨v1,e1⟩:=lN T.length X 2e9;obtain⟨v2,e2⟩:=lN (T.length+1) Y (by rw[YE 1e0];simp);rw[List.take_left]at e1;rw[List.take_append,XX 1e0]at e2;simp only[XT,WN,List.take_zero,List.flatten_append,Xs,UW,YG,Yf]at e2;have ef:(T++X::Y::B).flatten++R=T.flatten++X++Y++(B.flatten++R):=by simp
 rw[ef]at lt pm⊢;have hX:=ok X 2e9;have hY:=ok Y 2e9;have N3:T.length+1<pd.size:=by rw[hz];show hi
 show tj W hA lt hX.1 hY.1 hX.2 hY.2 e1 e2 λZ g z1 z2=>hq _ (T++Z::B) ⟨⟨(pd.setIfInBounds T.length (T.flatten.length,X.length+Y.length,v1)).eraseIdxIfInBounds (T.length+1),g,?_,?_,?_⟩,?_,?_⟩ 6e3
 ·rw[show(T++Z::B).flatten++R=T.flatten++Z++(B.flatten++R) by simp]
 ·have:=EB pd (T.flatten.length,X.length+Y.length,v1) N3
  rw[hz]at this;simp only[Yf,Yu]at this⊢;lia
 ·intro j U hU
  rw[IA pd _ N3];have zl:Z.length=X.length+Y.length:=by rw[z2.length_eq,Yf]
  rcases VQ j T.length with q|q|q
  ·rw[if_pos q]
   rw[Yo q]at hU;rw[XY 1e0];have:=lN j U (by rw[Yo q];show hU);rw[XY 1e0]at this;show this
  ·subst q
   rw[if_neg 1e0,if_pos rfl,List.take_left];rw[YE 1e0,Rm]at hU;cases hU;show⟨v1,by rw[zl]⟩
  ·rw[if_neg 1e0,if_neg 1e0]
   obtain⟨k,rfl⟩:∃k,j=T.length+1+k:=⟨j-T.length-1,by lia⟩
   rw[YE 1e0,show T.length+1+k-T.length=k+1 by lia,WE]at hU;obtain⟨v,e⟩:=lN (T.length+1+k+1) U (by rw[YE 1e0,show T.length+1+k+1-T.length=k+1+1 by lia,WE,WE];show hU);show⟨v,e.trans ?_⟩;rw[show T.length+1+k+1=T.length+(k+1+1) by lia,show T.length+1+k=T.length+(k+1) by lia,tkl,tkl,WN,WN,WN];simp only[List.flatten_append,Xs,Yf,zl,Nat.add_assoc]
 ·intro U hU
  rcases Ym.mp hU with q|q
  ·show ok U (by simp[q])
  ·rcases Yk.mp q with rfl|q
   ·show⟨z1,by rw[z2.length_eq,Yf];lia⟩
   ·show ok U (by simp[q])
 ·rw[show(T++Z::B).flatten++R=T.flatten++Z++(B.flatten++R) by simp]
  show Uu ?_ pm;rw[Yd T.flatten X Y];show(z2.append_left _).append_right _
end
abbrev CU:=Option Unit×Unit
abbrev CN:=Option Unit×Nat
noncomputable def IU (N pw:Nat):SM CU:=forIn [0:N] ((none,()):CU) λ_ _=>get>>=λs=>match(if(X4 s).size>1 then(X4 s)[(X4 s).size-2]? else none)with
 |some (_,_,old)=>if old<=pw then pure (.done (none,()))else mergeAt' ((X4 s).size-2)>>=λb=>if(!b)=true then pure (.done (some (),()))else pure (.yield (none,()))
 |_=>pure (.done (none,()))
noncomputable def El (lo n:Nat):SM (ForInStep CN):=(modify λs=>setPending s ((X4 s).push (lo,n,0)))>>=λ_=>pure (.yield (none,lo+n))
def ph(N lo n:Nat):SM (ForInStep CN):=get>>=λs=>match(X4 s).back? with
 |some (s1,n1,_)=>IU N (power' N (2*s1+n1) (2*s1+n1+n1+n) N)>>=λd=>match d.1 with
  |some r=>pure (.done (some r,lo))
  |none=>(modify λs=>setPending s ((X4 s).modify ((X4 s).size-1) λx=>(x.1,x.2.1,power' N (2*s1+n1) (2*s1+n1+n1+n) N)))>>=λ_=>El lo n
 |_=>El lo n
def Ad(N lo:Nat):SM (ForInStep CN):=if lo≥N then pure (.done (none,lo))else countRun' lo (N-lo)>>=λq=>match q with
 |some f=>if f<minRun' N N 0 then(liftM (rule "list.sort.binary-insertion"):SM Unit)>>=λ_=>binarySort' lo (min (N-lo) (minRun' N N 0)) f>>=λb=>if(!b)=true then pure (.done (some (),lo))else ph N lo (min (N-lo) (minRun' N N 0))
  else ph N lo f
 |_=>pure (.done (some (),lo))
noncomputable def ix (p:Pn):Nat:=if Option.any (λx=>decide (x<p[p.size-2+1]?.elim 0 λx=>x.2.1)) (if p.size-2>0 then Option.map (λx=>x.2.1) p[p.size-2-1]? else none)=true then p.size-2-1 else p.size-2
def O1:SM (ForInStep CU):=get>>=λs=>if(X4 s).size<=1 then pure (.done (none,()))else mergeAt' (ix (X4 s))>>=λb=>if(!b)=true then pure (.done (some (),()))else pure (.yield (none,()))
theorem ko:sortRuns'=(get>>=λs=>(forIn [0:(arrOf s).size] ((none,0):CN) λ_ c=>Ad (arrOf s).size c.2)>>=λc=>match c.1 with
 |some r=>pure r
 |none=>(forIn [0:(arrOf s).size] ((none,()):CU) λ_ _=>O1)>>=λc=>match c.1 with
  |some r=>pure r
  |none=>pure ()):=by kernel_rfl
section
variable{prog:YF}{w:World}{A:Around}{E:1e1}{s:Shared}{κ:Vg}{it:Ky}{o:5e2}{st:SortSt}{S:List (List Nat)}{R X:3e9}{N n lo pw:Nat}
theorem PI.sz(h:PI κ it o st S R):(X4 st).size=S.length:=by obtain⟨pd,m,rfl,hz,_⟩:=h.st;show hz
theorem PI.len(h:PI κ it o st S R):S.flatten.length+R.length=it.size:=by have:=h.pm.length_eq;rw[Yf,X6]at this;show this
theorem EL(W:Wk o)(hA:3e7)(h:PI κ it o st S R):wpS 1e3 A E s (IU N pw) (λd aC=>d=(none,())/\∃S',PI κ it o aC S' R) st:=by
 ext IU;show XO (I:=λ_ d aC=>d=(none,())/\∃S',PI κ it o aC S' R) ?_ (λ_ _ q=>q) ⟨rfl,S,h⟩;rintro x d aC _ _ ⟨rfl,S',h'⟩;show YD (DL ?_);by_cases c:(X4 aC).size>1
 ·rw[if_pos c]
  cases hq:(X4 aC)[(X4 aC).size-2]? with
  |none=>show YL ⟨rfl,S',h'⟩
  |some v=>
   sleep 6;split
   ·show YL ⟨rfl,S',h'⟩
   ·show YD (h'.merge W hA (by rw[←h'.sz];lia) λiM S2 h2 _=>?_)
    show YL ⟨rfl,S2,h2⟩
 ·rw[if_neg c];show YL ⟨rfl,S',h'⟩
theorem vk(h:PI κ it o st S (X++R))(hX:X.Pairwise (le o))(h0:0<X.length)(JF:lo=S.flatten.length)(hn:n=X.length):
  wpS 1e3 A E s (El lo n) (λr aC=>r=.yield (none,lo+n)/\∃S',PI κ it o aC S' R) st:=by
 subst JF hn;obtain⟨⟨pd,m,rfl,hz,lN⟩,ok,pm⟩:=h;ext El;show YD (Mh (YL ⟨rfl,S++[X],⟨pd.push (S.flatten.length,X.length,0),m,?_,by simp[hz],λi U hU=>?_⟩,λU hU=>?_,?_⟩))
 ·rw[show(S++[X]).flatten++R=S.flatten++(X++R) by simp]
 ·rw[Array.getElem?_push]
  rcases YQ i S.length with q|q
  ·rw[Yo q]at hU
   rw[if_neg 1e0,XY 1e0];show lN i U hU
  ·rw[YE q]at hU
   have hi:i=S.length:=by
    by_cases z:i-S.length=0
    ·lia
    ·rw[YJ 6e3]at hU;cases hU
   subst hi;rw[Rm]at hU;cases hU;rw[if_pos hz.symm,List.take_left];show⟨0,rfl⟩
 ·rcases Ym.mp hU with q|q
  ·show ok U q
  ·rw[Yj.mp q];show⟨hX,h0⟩
 ·rw[show(S++[X]).flatten++R=S.flatten++(X++R) by simp];show pm
theorem Aw(W:Wk o)(hA:3e7)(h:PI κ it o st S (X++R))(hX:X.Pairwise (le o))(h0:0<X.length)(JF:lo=S.flatten.length)(hn:n=X.length):
  wpS 1e3 A E s (ph N lo n) (λr aC=>r=.yield (none,lo+n)/\∃S',PI κ it o aC S' R) st:=by
 ext ph;show YD (DL ?_);cases(X4 st).back? with
 |none=>show vk h hX h0 JF hn
 |some v=>
  obtain⟨s1,n1,v⟩:=v;sleep 6;show YD (Wa (EL W hA h) ?_);rintro d aC ⟨rfl,S',h'⟩;sleep 6;show YD (Mh (vk (S:=S') ?_ hX h0 (by have:=h.len;have:=h'.len;lia) hn));obtain⟨⟨pd,m,rfl,hz,lN⟩,ok,pm⟩:=h';show⟨⟨_,m,rfl,by rw[Array.size_modify];show hz,λi U hU=>?_⟩,ok,pm⟩;obtain⟨v,e⟩:=lN i U hU;rw[Array.getElem?_modify];split
  ·show⟨_,by rw[show(X4 (Wo κ (ar it (S'.flatten++(X++R))) pd m none))[i]? = pd[i]? from rfl,e];rfl⟩
  ·show⟨v,e⟩
theorem Ia{p:Array Nat}{k:Nat}(h:kl o p k)(hk:k<=p.size):(p.toList.take k).Pairwise (le o):=by
 rw[W5];intro i j hi hj wz;rw[Xo]at hi hj;have:=h i j 1e0 1e0;rw[YM,YM,Yh 1e0,Yh 1e0]at this;simpa[le]using this
theorem PI.perm{p':Array Nat}{pd:Pn}{m:Nat}(h:PI κ it o (gc κ it S.flatten R.toArray pd m) S R)(hp:p'.Perm R.toArray):PI κ it o (gc κ it S.flatten p' pd m) S p'.toList:=by
 obtain⟨⟨pd2,m2,e,hz,lN⟩,ok,pm⟩:=h;cases e;show⟨⟨_,_,rfl,hz,lN⟩,ok,((Yam.mp hp).append_left _).trans pm⟩
theorem Ea(W:Wk o)(hA:3e7)(h:PI κ it o st S R)(JF:lo=S.flatten.length)(hN:N=it.size)(hl:lo<N):
  wpS 1e3 A E s (Ad N lo) (λr aC=>∃k S' R',1<=k/\r=.yield (none,lo+k)/\PI κ it o aC S' R'/\S'.flatten.length=lo+k) st:=by
 subst JF hN;have hlen:=h.len;have OH:∀n∈(R.toArray).toList,n<it.size:=λn hn=>h.lt n (Yn _ hn);have Vaf:(R.toArray).size=R.length:=by simp
 ext Ad;rw[if_neg 1e0];obtain⟨pd,m,rfl,hz,lN⟩:=h.st;have h:PI κ it o (gc κ it S.flatten R.toArray pd m) S R:=h;show YD (show wpS _ _ _ _ (countRun' S.flatten.length (it.size-S.flatten.length)) _ (gc κ it S.flatten R.toArray pd m)from qB W hA OH 1e0 1e0 λk p' k1 k2 pm ps=>?_);have N3:=pm.size_eq;have go:∀(k:Nat)(p':Array Nat),1<=k->k<=p'.size->p'.Perm R.toArray->kl o p' k->wpS 1e3 A E s (ph it.size S.flatten.length k) (λr aC=>∃k S' R',1<=k/\r=.yield (none,S.flatten.length+k)/\PI κ it o aC S' R'/\S'.flatten.length=S.flatten.length+k) (gc κ it S.flatten p' pd m):=λk p' k1 k2 pm ps=>by
  have hz2:=pm.size_eq;have h1:=h.perm pm;have e:=YV k p'.toList;have hk:(p'.toList.take k).length=k:=by rw[Xo,Xi];lia
  rw[←e]at h1;show Wa (Aw W hA h1 (Ia ps k2) 1e0 rfl hk.symm) ?_;rintro r aC ⟨rfl,S',h'⟩;show⟨k,S',_,k1,rfl,h',?_⟩;have:=h'.len;have e3:p'.toList.length=p'.size:=Xi;simp only[Xp]at this;lia
 sleep 6;by_cases c:k<minRun' it.size it.size 0
 ·rw[if_pos c]
  show YD (KU (WR ⟨rfl,?_⟩));show YD (yX W hA (KN pm OH) 1e0 k1 1e0 ps λp2 pm2 zv=>?_);have hz2:=pm2.size_eq;show go _ p2 1e0 1e0 (pm2.trans pm) zv
 ·rw[if_neg c]
  show go k p' k1 1e0 pm ps
theorem NT{p:Pn}(h:¬p.size<=1):ix p+1<p.size:=by
 ext ix;generalize Option.any _ _=b;cases b
 ·rw[if_neg Yw];lia
 ·rw[if_pos rfl];lia
theorem HN(W:Wk o)(hA:3e7)(h2:1<=it.size){Q:Unit->SortSt->Prop}
  (hq:∀z aC,z.Perm (YB it.size)->z.Pairwise (le o)->arrOf aC=ar it z->failedOf aC=none->Q () aC):wpS 1e3 A E s sortRuns' Q (Wo κ it #[] 7 none):=by
 rw[ko];show YD (DL ?_);change wpS _ _ _ _ ((forIn [0:it.size] ((none,0):CN) λ_ c=>Ad it.size c.2)>>=_) _ _;have e0:it=ar it (([]:List (List Nat)).flatten++YB it.size):=by
  have:=kas_range it;rw[List.map_toArray]at this;ext ar;rw[UW,WO,this]
 have i0:PI κ it o (Wo κ it #[] 7 none) [] (YB it.size):=⟨⟨#[],7,by rw[←e0],rfl,λi X e=>by simp at e⟩,λX hX=>(nomatch hX),by simp⟩
 show YD (Wa (XO (I:=λx c aC=>x<=c.2/\c.2<=it.size/\c.1=none/\∃S R,PI κ it o aC S R/\S.flatten.length=c.2)
  (Q:=λc aC=>c.1=none/\∃S R,PI κ it o aC S R/\S.flatten.length=it.size) ?step ?fin ⟨Yl _,Y4 _,rfl,[],_,i0,rfl⟩) ?post)
 case fin=>
  rintro c aC ⟨a1,a2,a3,S,R,a4,a5⟩;show⟨a3,S,R,a4,by lia⟩
 case step=>
  rintro x ⟨c1,c⟩ aC _ hx ⟨a1,a2,a3,S,R,a4,a5⟩;dsimp only at a1 a2 a3 a5⊢;by_cases q:c≥it.size
  ·ext Ad
   rw[if_pos q];show YL ⟨rfl,S,R,a4,by lia⟩
  ·show Wa (Ea W hA a4 a5.symm rfl 1e0) ?_
   rintro r iM ⟨k,S',R',k1,rfl,h',e⟩;have:=h'.len;show⟨by change x+1<=c+k;lia,by change c+k<=it.size;lia,rfl,S',R',h',e⟩
 case post=>
  rintro⟨c1,c⟩ aC ⟨a3,S,R,h',e⟩;dsimp only at a3;subst a3;have hl:=h'.len;have ea:(arrOf (Wo κ it #[] 7 none)).size=it.size:=rfl;have:R=[]:=WF.mp 1e0;subst this;have LD:S.length<=it.size:=by
   rw[←e];have ok:=h'.ok;clear h' e hl;induction S with
   |nil=>simp
   |cons X S ih=>
    have h1:=(ok X 2e9).2;have h2:=ih λY hY=>ok Y (by simp[hY]);simp only[Yu,Xs,Yf];lia
  show YD (Wa (XO (I:=λx c aC=>c=(none,())/\∃S,PI κ it o aC S []/\S.length+x<=it.size)
   (Q:=λc aC=>c=(none,())/\∃S,PI κ it o aC S []/\S.length<=1) ?_ ?_ ⟨rfl,S,h',LD⟩) ?_)
  ·rintro x c iM _ hx ⟨rfl,S',h2,b⟩
   ext O1;show YD (DL ?_);have hz:=h2.sz;by_cases q:(X4 iM).size<=1
   ·rw[if_pos q];show YL ⟨rfl,S',h2,by lia⟩
   ·rw[if_neg q]
    show YD (h2.merge W hA (by rw[←hz];show NT q) λzt S3 h3 e3=>?_);show YL ⟨rfl,S3,h3,by lia⟩
  ·rintro c iM ⟨rfl,S',h2,b⟩
   show⟨rfl,S',h2,by lia⟩
  ·rintro c iM ⟨rfl,S',h2,b⟩
   show YL ?_;obtain⟨⟨pd,m,rfl,hz,lN⟩,ok,pm⟩:=h2;rw[YG]at pm;cases S' with
   |nil=>have:=pm.length_eq;simp at this;lia
   |cons X S'=>
    have:S'=[]:=WF.mp (by rw[Yu]at b;lia);subst this;show hq X _ (by simpa using pm) (ok X 2e9).1 ?_ rfl;change ar it ([X].flatten++[])=ar it X;simp
end
noncomputable def Br:Nat:=4096
end Ts
namespace Pu
open PySem PySem.W PySem.Calls
open PyProof.Rows hiding St Fr
section
variable{prog:YF}{w:World}{A:Around}{E:1e1}{s:Shared}{a l:Addr}{vs:2e6}{κ:Vg}{o:5e2}
def eT(a:Addr)(h h':Heap):Prop:=∀b u,b≠a->h.get? b=some u->h'.get? b=some u
theorem Bk{n:Nat}{P:PySem.Fin->Shared->Prop}(W:Wk o)(ho:s.heap.get? a=some (seqObj "list" vs.toArray n))(h2:2<=vs.length)(Fi:vs.length<Ts.Br)
  (hk:∀h',eT a s.heap h'->∀Q:Vg->Shared->Prop,Q κ {s with heap:=h'}->wpAny (model prog w) A (keyKind' vs.toArray) Q (λ_ _=>False) {s with heap:=h'})
  (hc:∀h',eT a s.heap h'->∀i j(C:6e1),i<vs.length->j<vs.length->C (o i j) {s with heap:=h'}->kas_ask prog w A κ vs i j C {s with heap:=h'})
  (h:∀h' c(p:3e9),eT a s.heap h'->p.Perm (YB vs.length)->p.Pairwise (Ts.le o)->h'.get? a=some (seqObj "list" (p.map λi=>vs.getD i Xw).toArray c)->P (.done (.ret .none)) {s with heap:=h'}):
  wpAny 1e3 A (WL.«list.sort» ⟨[.ref a],[]⟩) P E s:=by
 have Fi:vs.length<4096:=Fi;have s1:=Xa s.heap a (XS λ_=>(#[]:Array Value));obtain⟨c1,Oa⟩:∃c1,(s.heap.update a (XS λ_=>(#[]:Array Value))).get? a=some (seqObj "list" #[] c1):=⟨_,Va ho λ_=>#[]⟩
 have bA:a<s.heap.objs.size:=Yr ho;generalize hg:((s.heap.update a (XS λ_=>(#[]:Array Value))).push (seqObj "tuple" vs.toArray 0)).push (seqObj "list" #[] 0)=g3;have kb:eT a s.heap g3:=λb u nb e=>by
  rw[←hg];show Yb _ (Yb _ ?_);rw[X0 _ _ _ _ nb];show e
 have JT:g3.get? a=some (seqObj "list" #[] c1):=by rw[←hg];show Yb _ (Yb _ Oa)
 rw[list_sort_plain];show Ya (Rl ho rfl ?_);show Ya (U3 ho rfl ?_ (by rw[Yp,YZ];lia) (Y4 _))
 show Ya (Ri Oa rfl ?_);show Ya (wpAny_newTuple ?_ (by change vs.length<=_;rw[YZ];lia))
 show Ya (Uv ?_ (Y4 _));show Xf ?_
 change wpAny 1e3 A _ P E {s with heap:=((s.heap.update a (XS λ_=>(#[]:Array Value))).push (seqObj "tuple" vs.toArray 0)).push (seqObj "list" #[] 0)};rw[hg];sleep 6;have n2:¬vs.toArray.size<2:=by rw[Yp];lia
 rw[if_neg n2,if_neg n2];show Ya (Xk (hk g3 kb (λk s'=>k=κ/\s'={s with heap:=g3}) ⟨rfl,rfl⟩) (λk s' e=>?_) λ_ _ x=>x.elim);obtain⟨rfl,rfl⟩:=e;have isz:(vs.toArray.zip vs.toArray).size=vs.length:=by simp
 show Ya (Xk (Ts.HN (s:={s with heap:=g3}) (it:=vs.toArray.zip vs.toArray) (o:=o) W (λi j hi hj C hC=>?_) (by lia) (Q:=λ_ aC=>∃z:List Nat,z.Perm (YB vs.length)/\z.Pairwise (Ts.le o)/\arrOf aC=(z.toArray).map (Vh (vs.toArray.zip vs.toArray))/\failedOf aC=none) λz aC a1 a2 a3 a4=>⟨z,by rw[isz]at a1;show a1,a2,by rw[a3];ext Ts.ar;simp,a4⟩) ?_ λ_ _ e=>e)
 ·rw[←kat_ask_eq (ks:=vs) (vs:=vs) rfl]
  show hc g3 kb i j C 1e0 1e0 hC
 rintro⟨⟨⟩,aC⟩ s' ⟨rfl,z,z1,z2,har,hf⟩;dsimp only at har hf⊢;have qd:=kat_snds (ks:=vs) (vs:=vs) rfl har;rw[qd];have hz:(List.toArray (z.map λi=>vs.getD i Xw)).size=vs.length:=by rw[Yp,Yi,z1.length_eq,X6]
 obtain⟨c2,rF⟩:∃c2,(g3.update a (XS λ_=>List.toArray (z.map λi=>vs.getD i Xw))).get? a=some (seqObj "list" (List.toArray (z.map λi=>vs.getD i Xw)) c2):=⟨_,Va JT λ_=>_⟩
 show Ya (Ri JT rfl ?_);show Ya (U3 JT rfl ?_ (Y4 _) (Xb (Nat.le_of_eq hz) (by rw[YZ];lia)));rw[hf];simp only[bne_self_eq_false,Yx,if_false];show Yc (h _ c2 z (λb u nb e=>by rw[X0 _ _ _ _ nb];show kb b u nb e) z1 z2 rF)
theorem yg{n:Nat}{P:PySem.Fin->Shared->Prop}(ho:s.heap.get? a=some (seqObj "list" vs.toArray n))(h2:vs.length<2)
  (h:∀h' c,eT a s.heap h'->h'.get? a=some (seqObj "list" vs.toArray c)->P (.done (.ret .none)) {s with heap:=h'}):
  wpAny 1e3 A (WL.«list.sort» ⟨[.ref a],[]⟩) P E s:=by
 obtain⟨c1,Oa⟩:∃c1,(s.heap.update a (XS λ_=>(#[]:Array Value))).get? a=some (seqObj "list" #[] c1):=⟨_,Va ho λ_=>#[]⟩
 generalize hg:((s.heap.update a (XS λ_=>(#[]:Array Value))).push (seqObj "tuple" vs.toArray 0)).push (seqObj "list" #[] 0)=g3;have kb:eT a s.heap g3:=λb u nb e=>by
  rw[←hg];show Yb _ (Yb _ ?_);rw[X0 _ _ _ _ nb];show e
 have JT:g3.get? a=some (seqObj "list" #[] c1):=by rw[←hg];show Yb _ (Yb _ Oa)
 rw[list_sort_plain];show Ya (Rl ho rfl ?_);show Ya (U3 ho rfl ?_ (by rw[Yp,YZ];lia) (Y4 _))
 show Ya (Ri Oa rfl ?_);show Ya (wpAny_newTuple ?_ (by change vs.length<=_;rw[YZ];lia))
 show Ya (Uv ?_ (Y4 _));show Xf ?_
 change wpAny 1e3 A _ P E {s with heap:=((s.heap.update a (XS λ_=>(#[]:Array Value))).push (seqObj "tuple" vs.toArray 0)).push (seqObj "list" #[] 0)};rw[hg];sleep 6;have n2:vs.toArray.size<2:=by rw[Yp];lia
 simp only[if_pos n2];apply Ya;apply Yc;simp only[StateT.run_pure];apply Ya;apply Yc;sleep 6;have ez:(arrOf (Wo general' (vs.toArray.zip vs.toArray) #[] 7 none)).map (·.2)=vs.toArray:=by
  change(vs.toArray.zip vs.toArray).map (·.2)=vs.toArray;apply Array.toList_inj.mp;rw[Array.toList_map,Array.toList_zip,List.map_snd_zip 2e9]
 rw[ez];obtain⟨c2,rF⟩:∃c2,(g3.update a (XS λ_=>vs.toArray)).get? a=some (seqObj "list" vs.toArray c2):=⟨_,Va JT λ_=>_⟩
 show Ya (Ri JT rfl ?_);show Ya (U3 JT rfl ?_ (Y4 _) (by rw[Yp,YZ];lia));simp only[bne_self_eq_false,Yx,if_false];show Yc (h _ c2 (λb u nb e=>by rw[X0 _ _ _ _ nb];show kb b u nb e) rF)
theorem rW{v:Value}{Q:1e1}{OKv:List Value->Prop}
  (JK:∀(Q':List Value->Shared->Prop),(∀h1 d tk vs,(∀b u,s.heap.get? b=some u->h1.get? b=some u)->s.heap.objs.size<=h1.objs.size->OKv vs->Q' vs {s with heap:=h1,drawn:=d,toks:=tk})->wpAny (model prog w) A.in1 (Hu v) Q' E s)
  (h:∀vs,OKv vs->vs.length<Ts.Br/\∃κ o,(2<=vs.length->Wk o/\∀h' d tk,(∀b u,s.heap.get? b=some u->h'.get? b=some u)->(∀Q:Vg->Shared->Prop,Q κ {s with heap:=h',drawn:=d,toks:=tk}->wpAny (model prog w) A.in1.in1 (keyKind' vs.toArray) Q (λ_ _=>False) {s with heap:=h',drawn:=d,toks:=tk})/\
    ∀i j(C:Bool->Shared->Prop),i<vs.length->j<vs.length->C (o i j) {s with heap:=h',drawn:=d,toks:=tk}->kas_ask prog w A.in1.in1 κ vs i j C {s with heap:=h',drawn:=d,toks:=tk})/\
   ∀D h' d tk c(p:List Nat),s.heap.objs.size<=D->(∀b u,s.heap.get? b=some u->h'.get? b=some u)->p.Perm (YB vs.length)->(2<=vs.length->p.Pairwise (Ts.le o))->h'.get? D=some (seqObj "list" (p.map λi=>vs.getD i Xw).toArray c)->Q (.ref D) {s with heap:=h',drawn:=d,toks:=tk}):
  wpAny 1e3 A (call (.builtin "sorted") [v]) Q E s:=by
 show Calls.call_function_entry kind_sorted plain_sorted entry_sorted (args_sorted1 _) ?_;unfold WL.«sorted»;show Ya (m:=checkCount "sorted" 1 1 _) (Yc ?_);show Ya (JK _ λh1 d tk vs kp hle ok=>?_)
 obtain⟨Fi,κ,o,hw,h⟩:=h vs ok;have Ze:vs.length<4096:=Fi;show Ya (Uv ?_ (by rw[YZ];lia));have N9:(h1.push (seqObj "list" vs.toArray 0)).get? h1.objs.size=some (seqObj "list" vs.toArray 0):=Yg _ rfl;have keep:∀b u,s.heap.get? b=some u->(h1.push (seqObj "list" vs.toArray 0)).get? b=some u:=λb u e=>Yb _ (kp b u e);have kb:∀h',eT h1.objs.size (h1.push (seqObj "list" vs.toArray 0)) h'->∀b u,s.heap.get? b=some u->h'.get? b=some u:=λh' k b u e=>
  k b u (Yv (YC (Yr e) hle)) (keep b u e)
 change wpAny _ _ _ _ _ {s with heap:=h1.push (seqObj "list" vs.toArray 0),drawn:=d,toks:=tk};show Ya (Xf (Xl slot_list_sort ⟨_,N9,rfl⟩ entry_list_sort ?body (args_list_sort _)))
 case body=>
  by_cases h2:vs.length<2
  ·show yg (s:={s with heap:=h1.push (seqObj "list" vs.toArray 0),drawn:=d,toks:=tk}) N9 h2 λh' c k e=>⟨_,rfl,Yc ⟨_,rfl,h _ h' d tk c (YB vs.length) hle (kb h' k) (.refl _) (λz=>absurd z (by lia)) ?_⟩⟩
   rw[show((YB vs.length).map λi=>vs.getD i Xw)=vs from ?_]
   ·show e
   ·apply XA
    intro i;rw[Yy];by_cases hi:i<vs.length
    ·rw[Vj hi];simp[hi]
    ·rw[YJ 6e3,YJ 1e0];rfl
  ·obtain⟨W,hw⟩:=hw 1e0
   show Bk (s:={s with heap:=h1.push (seqObj "list" vs.toArray 0),drawn:=d,toks:=tk}) (κ:=κ) (o:=o) W N9 (by lia) Fi (λh' k=>(hw h' d tk (kb h' k)).1) (λh' k=>(hw h' d tk (kb h' k)).2) λh' c p k p1 p2 e=>⟨_,rfl,Yc ⟨_,rfl,h _ h' d tk c p hle (kb h' k) p1 (λ_=>p2) e⟩⟩
end
end Pu
namespace Pu
open PySem PySem.Spec PySem.W PySem.Calls L2 PySem.SeqAt
open PyProof.Rows hiding St Fr
noncomputable def bx:PV->Nat
 |.int _=>1
 |.str _=>2
 |.tup (.int _::_)=>3
 |.tup (.str _::_)=>4
 |_=>0
def oP(ps:List PV)(i j:Nat):Bool:=(cg (ps.getD (min i (ps.length-1)) .aF) (ps.getD (min j (ps.length-1)) .aF)).getD false
def sortable(ps:List PV):Bool:=(ps.all λp=>bx p==1)||(ps.all λp=>bx p==2)||(ps.all λp=>bx p==3)||(ps.all λp=>bx p==4)
def b5(ps:List PV):Bool:=ps.all λp=>ps.all λq=>(cg p q).isSome
mutual
theorem ab.keep{h h':Heap}(k:∀b u,h.get? b=some u->h'.get? b=some u):∀(p:PV){u:Value},ab h p u->ab h' p u
 |.aF,u,a=>by unfold ab at a⊢;show a
 |.bl x,u,a=>by unfold ab at a⊢;show a
 |.int x,u,a=>by unfold ab at a⊢;show a
 |.str x,u,a=>by unfold ab at a⊢;show a
 |.tup ps,u,a=>by
  unfold ab at a⊢;obtain⟨l,us,rfl,⟨o,e,c⟩,r⟩:=a;show⟨l,us,rfl,⟨o,k _ _ e,c⟩,ao.keep k ps r⟩
 |.lst ps,u,a=>by
  unfold ab at a⊢;obtain⟨l,us,rfl,⟨o,e,c⟩,r⟩:=a;show⟨l,us,rfl,⟨o,k _ _ e,c⟩,ao.keep k ps r⟩
 |.cV _ _,u,a=>by ext ab a;show a.elim
 |.aG _ _,u,a=>by ext ab a;show a.elim
 |.fn _,u,a=>by ext ab a;show a.elim
 |.ty _,u,a=>by ext ab a;show a.elim
theorem ao.keep{h h':Heap}(k:∀b u,h.get? b=some u->h'.get? b=some u):∀(ps:List PV){us:2e6},ao h ps us->ao h' ps us
 |[],us,a=>by unfold ao at a⊢;show a
 |p::ps,us,a=>by
  unfold ao at a⊢;obtain⟨v,r,rfl,a1,a2⟩:=a;show⟨v,r,rfl,ab.keep k p a1,ao.keep k ps a2⟩
end
theorem ao.get{h:Heap}:∀{ps:List PV}{us:2e6}{i:Nat},ao h ps us->i<us.length->ab h (ps.getD i .aF) (us.getD i Xw)
 |[],us,i,a,hi=>by ext ao a;subst a;cases hi
 |p::ps,us,i,a,hi=>by
  ext ao a;obtain⟨v,r,rfl,a1,a2⟩:=a;cases i with
  |zero=>show a1
  |succ i=>simpa using ao.get a2 (by simpa using hi)
theorem Pq{ps:List PV}{i:Nat}(hi:i<ps.length):ps.getD i .aF∈ps:=by
 rw[Ys,Ye hi];show Wh hi
section
variable{prog:YF}{w:World}{A:Around}{s:Shared}
theorem yk{b fin:Bool}{Q:6e1}{c:Bool}:∀{ps qs:List PV}{us vs:2e6}(i:Nat),dr A s ps qs us vs->cC ps qs=some c->fin=decide (us.length<vs.length)->
  ((b&&i==0)=true->∀p dQ q zu u Li v uZ,ps=p::dQ->qs=q::zu->us=u::Li->vs=v::uZ->∀c,cg p q=some c->∀Q:Bool->Shared->Prop,Q c s->wpAny 1e3 A (oneLt' true u v) Q (λ_ _=>False) s)->
  Q c s->KatLex prog w A b fin Q (us.zip vs) i s
  :=by
 intro ps qs us vs i pk;induction pk generalizing i with
 |@EI qs _ hh=>
  intro e hf hz q;rw[List.zip_nil_left];show kat_nil ?_;cases qs with
  |nil=>rw[Q4]at e;cases e;rw[hf,←hh];show q
  |cons y ys=>rw[Zci]at e;cases e;rw[hf,←hh];simpa using q
 |@EH ps _ hh=>
  intro e hf hz q;rw[List.zip_nil_right];show kat_nil ?_;cases ps with
  |nil=>rw[Q4]at e;cases e;rw[hf,←hh];show q
  |cons y ys=>rw[Zcj]at e;cases e;rw[hf];simpa using q
 |@cons p q' u v ps qs us vs ee lt t ih=>
  intro e hf hz q;rw[Xn];show kat_cons (ee prog w _ _ ?_);rw[lJ]at e;cases he:aE p q' with
  |true=>
   rw[he,if_pos rfl]at e;show kat_yes (ih (i+1) e (by rw[hf];simp) (λz=>by simp at z) q)
  |false=>
   rw[he,if_neg Yw]at e;show kat_no ?_;cases hb:(b&&i==0)with
   |true=>show hz hb _ _ _ _ _ _ _ _ rfl rfl rfl rfl c e _ q
   |false=>show kat_one _ _ (lt c e prog w _ _ q)
theorem vG{a c:Int}{t u:Tok}{E:1e1}{Q:6e1}(h:Q (decide (a<c)) s):wpAny 1e3 A (oneLt' true (.int a t) (.int c u)) Q E s:=by
 rw[←keyLt'_oneType];show kat_lt_int h
theorem vF{a c:Str}{t u:Tok}{E:1e1}{Q:6e1}(h:Q (decide (a.cps.toList<c.cps.toList)) s):wpAny 1e3 A (oneLt' true (.str a t) (.str c u)) Q E s:=by
 rw[←keyLt'_oneType];show kas_lt_str h
theorem wY{p q:PV}{u v:Value}{c:Bool}{Q:6e1}(a:ab s.heap p u)(b:ab s.heap q v)(hk:bx p=1/\bx q=1\/bx p=2/\bx q=2)(e:cg p q=some c)(h:Q c s):wpAny 1e3 A (keyLt' oneType' u v) Q (λ_ _=>False) s:=by
 rw[keyLt'_oneType];cases p with
 |int x=>
  cases q with
  |int y=>unfold ab at a b;obtain⟨t,rfl⟩:=a;obtain⟨t',rfl⟩:=b;ext cg e;cases e;show vG h
  |_=>ext cg e;cases e
 |str x=>
  cases q with
  |str y=>unfold ab at a b;obtain⟨t,rfl⟩:=a;obtain⟨t',rfl⟩:=b;ext cg e;cases e;show vF h
  |_=>ext cg e;cases e
 |tup xs=>
  exfalso;cases xs with
  |nil=>simp[bx]at hk
  |cons y ys=>cases y<;>simp[bx]at hk
 |_=>ext cg e;cases e
theorem wX{p q:PV}{u v:Value}{c:Bool}{Q:6e1}(a:ab s.heap p u)(b:ab s.heap q v)(hk:bx p=3/\bx q=3\/bx p=4/\bx q=4)(e:cg p q=some c)(hu:A.units+dep p<cLine)(h:Q c s):wpAny 1e3 A (keyLt' (tuples' true) u v) Q (λ_ _=>False) s:=by
 cases p with
 |tup xs=>
  cases q with
  |tup ys=>
   unfold ab at a b;obtain⟨l,us,rfl,⟨ol,el,_,nl,dl⟩,r1⟩:=a;obtain⟨l',vs,rfl,⟨ol',el',_,nl',dl'⟩,r2⟩:=b;ext cg e;ext dep hu;show kat_lt el dl el' dl' ?_;show yk 0 (ao.pairs xs r1 r2 1e0) e 2e9 (λ_=>?_) h;intro p dQ q zu u Li v uZ e1 e2 e3 e4 c' el Q' hq;subst e1 e2 e3 e4;unfold ao at r1 r2;obtain⟨_,_,z1,a1,_⟩:=r1;obtain⟨_,_,z2,b1,_⟩:=r2;cases z1;cases z2;cases p with
   |int x=>
    cases q with
    |int y=>unfold ab at a1 b1;obtain⟨t,rfl⟩:=a1;obtain⟨t',rfl⟩:=b1;ext cg el;cases el;show vG hq
    |_=>ext cg el;cases el
   |str x=>
    cases q with
    |str y=>unfold ab at a1 b1;obtain⟨t,rfl⟩:=a1;obtain⟨t',rfl⟩:=b1;ext cg el;cases el;show vF hq
    |_=>ext cg el;cases el
   |tup xs=>simp[bx]at hk
   |_=>ext cg el;cases el
  |_=>ext cg e;cases e
 |_=>simp[bx]at hk
end
theorem kX:∀{ys:List V}{us:2e6}{i:Nat},Vals ys us->i<us.length->RelV (ys.getD i .aF) (us.getD i Xw)
 |_,_,i,.nil,hi=>by cases hi
 |_,_,i,.cons r t,hi=>by
  cases i with
  |zero=>show r
  |succ i=>simpa using kX t (by simpa using hi)
theorem oz{ys:List V}{us:2e6}(r:Vals ys us):∀{is:3e9},(∀i∈is,i<us.length)->Vals (is.map λi=>ys.getD i .aF) (is.map λi=>us.getD i Xw)
 |[],_=>.nil
 |i::is,h=>.cons (kX r (h i 6e7)) (oz r λj hj=>h j (.tail _ hj))
theorem k9{K:W.Frag}{ι:2e1}{H:Hp}:∀{ps:List PV}{ys:List V}{i:Nat},ae K ι H ps ys->i<ps.length->Rep K ι H (ps.getD i .aF) (ys.getD i .aF)
 |[],ys,i,a,hi=>by cases hi
 |p::ps,ys,i,a,hi=>by
  ext ae a;obtain⟨v,r,rfl,a1,a2⟩:=a;cases i with
  |zero=>show a1
  |succ i=>simpa using k9 a2 (by simpa using hi)
theorem oU{K:W.Frag}{ι:2e1}{H:Hp}{ps:List PV}{ys:List V}(r:ae K ι H ps ys):∀{is:3e9},(∀i∈is,i<ps.length)->ae K ι H (is.map λi=>ps.getD i .aF) (is.map λi=>ys.getD i .aF)
 |[],_=>by ext ae;rfl
 |i::is,h=>by
  ext ae;show⟨_,_,rfl,k9 r (h i 6e7),oU r λj hj=>h j (.tail _ hj)⟩
section
variable{prog:YF}{w:World}{A:Around}{s:Shared}
theorem ZG{h:Heap}:∀{ps:List PV}{us:2e6},ao h ps us->∀u∈us,∃p∈ps,ab h p u
 |[],us,a,u,hu=>by ext ao a;subst a;cases hu
 |p::ps,us,a,u,hu=>by
  ext ao a;obtain⟨v,r,rfl,a1,a2⟩:=a;rcases Yk.mp hu with rfl|hu
  ·show⟨p,.head _,a1⟩
  ·obtain⟨q,hq,b⟩:=ZG a2 u hu
   show⟨q,.tail _ hq,b⟩
def Ox(h:Heap)(k:Nat)(f:Value):Prop:=(k=3/\∃i t,f=.int i t)\/(k=4/\∃x t,f=.str x t)
theorem mw{h:Heap}{k:Nat}(hk:k=3\/k=4):∀{ps:List PV}{us:2e6},ao h ps us->(ps.all λp=>bx p==k)=true->∃fs,KatTups h us fs/\fs.length=us.length/\∀f∈fs,Ox h k f
 |[],us,a,_=>by ext ao a;subst a;show⟨[],.nil,rfl,λf hf=>by cases hf⟩
 |p::ps,us,a,e=>by
  ext ao a;obtain⟨v,r,rfl,a1,a2⟩:=a;rw[VR,YI]at e;obtain⟨fs,t,hl,hf⟩:=mw hk a2 e.2;have e1:bx p=k:=by simpa using e.1
  cases p with
  |tup xs=>
   ext ab a1;obtain⟨l,Li,rfl,⟨o,ho,hc,n,hd⟩,r1⟩:=a1;cases xs with
   |nil=>simp[bx]at e1;lia
   |cons y ys=>
    ext ao r1;obtain⟨f,r',rfl,b1,_⟩:=r1;show⟨f::fs,.cons ho hc hd 2e9 t,by simp[hl],λg hg=>?_⟩;rcases Yk.mp hg with rfl|hg
    ·cases y with
     |int i=>ext ab b1;simp[bx]at e1;obtain⟨t,rfl⟩:=b1;show .inl ⟨e1.symm,_,_,rfl⟩
     |str x=>ext ab b1;simp[bx]at e1;obtain⟨t,rfl⟩:=b1;show .inr ⟨e1.symm,_,_,rfl⟩
     |_=>simp[bx]at e1;lia
    ·show hf g hg
  |int i=>simp[bx]at e1;lia
  |str i=>simp[bx]at e1;lia
  |_=>simp[bx]at e1;lia
def p6(ps:List PV):SortKind:=if(ps.all λp=>bx p==1)||(ps.all λp=>bx p==2)then oneType' else tuples' true
theorem E6{ps:List PV}{us:2e6}{Q:Vg->Shared->Prop}{E:1e1}(a:ao s.heap ps us)(h2:2<=us.length)(e:sortable ps=true)(h:Q (p6 ps) s):wpAny 1e3 A (keyKind' us.toArray) Q E s:=by
 ext sortable e;ext p6 h;by_cases h1:(ps.all λp=>bx p==1)=true
 ·rw[h1,Bool.true_or,if_pos rfl]at h
  show kas_kind (T:=.type "int") h2 (λv hv=>?_) 1e7 1e7 h;obtain⟨p,hp,b⟩:=ZG a v hv;have:=YW.mp h1 p hp;cases p with
  |int i=>ext ab b;obtain⟨t,rfl⟩:=b;show Rr rfl
  |tup xs=>cases xs with
   |nil=>simp[bx]at this
   |cons y ys=>cases y<;>simp[bx]at this
  |_=>simp[bx]at this
 ·by_cases h3:(ps.all λp=>bx p==2)=true
  ·rw[h3,Bool.or_true,if_pos rfl]at h
   show kas_kind (T:=.type "str") h2 (λv hv=>?_) 1e7 1e7 h;obtain⟨p,hp,b⟩:=ZG a v hv;have:=YW.mp h3 p hp;cases p with
   |str i=>ext ab b;obtain⟨t,rfl⟩:=b;show Rr rfl
   |tup xs=>cases xs with
    |nil=>simp[bx]at this
    |cons y ys=>cases y<;>simp[bx]at this
   |_=>simp[bx]at this
  ·rw[Bool.not_eq_true]at h1 h3
   rw[h1,h3]at h e;rw[if_neg 1e7]at h;simp only[Bool.false_or,Ycf]at e;rcases e with e|e
   ·obtain⟨fs,t,hl,hf⟩:=mw 9e6 a e
    show kat_kind (T:=.type "int") t 1e0 (λv hv=>?_) 1e7 h;rcases hf v hv with⟨_,i,t,rfl⟩|⟨z,_⟩
    ·show Rr rfl
    ·cases z
   ·obtain⟨fs,t,hl,hf⟩:=mw (.inr rfl) a e
    show kat_kind (T:=.type "str") t 1e0 (λv hv=>?_) 1e7 h;rcases hf v hv with⟨z,_⟩|⟨_,i,t,rfl⟩
    ·cases z
    ·show Rr rfl
theorem qw:∀{ps:List PV}(i:Nat),dep (ps.getD i .aF)<=cj ps
 |[],i=>by simp[dep,cj]
 |p::ps,i=>by
  ext cj;cases i with
  |zero=>show Nat.le_max_left _ _
  |succ i=>show Xb (by simpa using qw (ps:=ps) i) (Nat.le_max_right _ _)
theorem Kr{ps:List PV}{us:2e6}{i j:Nat}{C:6e1}(a:ao s.heap ps us)(e:sortable ps=true)(ec:b5 ps=true)(hu:A.units+cj ps<cLine)(hi:i<us.length)(hj:j<us.length)(h:C (oP ps i j) s):kas_ask prog w A (p6 ps) us i j C s:=by
 have hl:=a.length;have mi:=Pq (ps:=ps) (i:=i) 1e0;have mj:=Pq (ps:=ps) (i:=j) 1e0;have hs:(cg (ps.getD i .aF) (ps.getD j .aF)).isSome=true:=YW.mp (YW.mp ec _ mi) _ mj;obtain⟨c,hc⟩:=Ub.mp hs;ext oP h;rw[RC 1e0,RC 1e0,hc]at h;have ai:=ao.get a hi;have aj:=ao.get a hj;have hd:=qw (ps:=ps) i;unfold kas_ask p6;have at':∀k,(ps.all λp=>bx p==k)=true->bx (ps.getD i .aF)=k/\bx (ps.getD j .aF)=k:=λk z=>⟨by simpa using YW.mp z _ mi,by simpa using YW.mp z _ mj⟩
 by_cases h1:(ps.all λp=>bx p==1)=true
 ·rw[h1,Bool.true_or,if_pos rfl];show wY ai aj (.inl (at' 1 h1)) hc h
 ·by_cases h3:(ps.all λp=>bx p==2)=true
  ·rw[h3,Bool.or_true,if_pos rfl];show wY ai aj (.inr (at' 2 h3)) hc h
  ·ext sortable e
   rw[Bool.not_eq_true]at h1 h3;rw[h1,h3]at e⊢;rw[if_neg 1e7];simp only[Bool.false_or,Ycf]at e;rcases e with e|e
   ·show wX ai aj (.inl (at' 3 e)) hc 1e0 h
   ·show wX ai aj (.inr (at' 4 e)) hc 1e0 h
end
end Pu
namespace Pu
open PySem PySem.Spec PySem.W
mutual
noncomputable def aY:PV->Bool
 |.int _=>true
 |.str _=>true
 |.tup ps=>aP ps
 |_=>false
noncomputable def aP:List PV->Bool
 |[]=>true
 |p::ps=>aY p&&aP ps
end
mutual
noncomputable def lT:PV->PV->Bool
 |.int a,.int b=>decide (a<b)
 |.int _,.str _=>true
 |.int _,.tup _=>true
 |.str a,.str b=>decide (a.cps.toList<b.cps.toList)
 |.str _,.tup _=>true
 |.tup xs,.tup ys=>kG xs ys
 |_,_=>false
noncomputable def kG:List PV->List PV->Bool
 |[],[]=>false
 |[],_::_=>true
 |_::_,[]=>false
 |x::xs,y::ys=>if aE x y then kG xs ys else lT x y
end
mutual
theorem w9:∀(p:PV){q:PV},aY p=true->aY q=true->(aE p q=true↔p=q)
 |.int a,q,_,hq=>by cases q<;>simp[aE]<;>simp[aY]at hq
 |.str a,q,_,_=>by cases q<;>simp[aE]
 |.tup ps,q,h,hq=>by
  ext aY h;cases q with
  |tup qs=>ext aY hq;ext aE;rw[jX ps h hq];simp
  |_=>simp[aE]
 |.aF,q,h,_=>by simp[aY]at h
 |.bl _,q,h,_=>by simp[aY]at h
 |.lst _,q,h,_=>by simp[aY]at h
 |.cV _ _,q,h,_=>by simp[aY]at h
 |.aG _ _,q,h,_=>by simp[aY]at h
 |.fn _,q,h,_=>by simp[aY]at h
 |.ty _,q,h,_=>by simp[aY]at h
theorem jX:∀(ps:List PV){qs:List PV},aP ps=true->aP qs=true->(dX ps qs=true↔ps=qs)
 |[],qs,_,_=>by cases qs<;>simp[dX]
 |p::ps,qs,h,hq=>by
  ext aP h;rw[YI]at h;cases qs with
  |nil=>simp[dX]
  |cons q qs=>
   ext aP hq;rw[YI]at hq;ext dX;rw[YI,w9 p h.1 hq.1,jX ps h.2 hq.2,VJ]
end
theorem L9{p:PV}(h:aY p=true):aE p p=true:=(w9 p h h).mpr rfl
theorem DZ{a b:Str}(h1:¬a.cps.toList<b.cps.toList)(h2:¬b.cps.toList<a.cps.toList):a=b:=by
 obtain⟨⟨x⟩⟩:=a;obtain⟨⟨y⟩⟩:=b;have:x=y:=List.le_antisymm (List.not_lt.mp h2) (List.not_lt.mp h1);rw[this]
mutual
theorem Kx:∀(p:PV),aY p=true->lT p p=false
 |.int a,_=>by simp[lT]
 |.str a,_=>by simp[lT,List.lt_irrefl]
 |.tup ps,h=>by ext aY h;ext lT;show vZ ps h
 |.aF,_=>by simp[lT]
 |.bl _,_=>by simp[lT]
 |.lst _,_=>by simp[lT]
 |.cV _ _,_=>by simp[lT]
 |.aG _ _,_=>by simp[lT]
 |.fn _,_=>by simp[lT]
 |.ty _,_=>by simp[lT]
theorem vZ:∀(ps:List PV),aP ps=true->kG ps ps=false
 |[],_=>by simp[kG]
 |p::ps,h=>by
  ext aP h;rw[YI]at h;ext kG;rw[L9 h.1,if_pos rfl];show vZ ps h.2
end
mutual
theorem jO:∀(p:PV){q:PV},aY p=true->aY q=true->lT p q=false->lT q p=false->p=q
 |.int a,q,_,hq,h1,h2=>by
  cases q<;>simp[lT,aY]at h1 h2 hq⊢;lia
 |.str a,q,_,hq,h1,h2=>by
  cases q with
  |str b=>
   unfold lT at h1 h2;have:a=b:=DZ (of_decide_eq_false h1) (of_decide_eq_false h2);rw[this]
  |int _=>simp[lT]at h2
  |tup _=>simp[lT]at h1
  |_=>simp[aY]at hq
 |.tup ps,q,h,hq,h1,h2=>by
  ext aY h;cases q with
  |tup qs=>ext aY hq;unfold lT at h1 h2;rw[vY ps h hq h1 h2]
  |int _=>simp[lT]at h2
  |str _=>simp[lT]at h2
  |_=>simp[aY]at hq
 |.aF,q,h,_,_,_=>by simp[aY]at h
 |.bl _,q,h,_,_,_=>by simp[aY]at h
 |.lst _,q,h,_,_,_=>by simp[aY]at h
 |.cV _ _,q,h,_,_,_=>by simp[aY]at h
 |.aG _ _,q,h,_,_,_=>by simp[aY]at h
 |.fn _,q,h,_,_,_=>by simp[aY]at h
 |.ty _,q,h,_,_,_=>by simp[aY]at h
theorem vY:∀(ps:List PV){qs:List PV},aP ps=true->aP qs=true->kG ps qs=false->kG qs ps=false->ps=qs
 |[],qs,_,_,h1,h2=>by cases qs<;>simp[kG]at h1 h2⊢
 |p::ps,qs,h,hq,h1,h2=>by
  ext aP h;rw[YI]at h;cases qs with
  |nil=>simp[kG]at h2
  |cons q qs=>
   ext aP hq;rw[YI]at hq;unfold kG at h1 h2;by_cases e:p=q
   ·subst e
    rw[L9 h.1,if_pos rfl]at h1 h2;rw[vY ps h.2 hq.2 h1 h2]
   ·rw[if_neg (λz=>e ((w9 p h.1 hq.1).mp z))]at h1
    rw[if_neg (λz=>e ((w9 q hq.1 h.1).mp z).symm)]at h2;show absurd (jO p h.1 hq.1 h1 h2) e
end
mutual
theorem p4:∀(p:PV){q r:PV},aY p=true->aY q=true->aY r=true->lT p q=true->lT q r=true->lT p r=true
 |.int a,q,r,_,hq,hr,h1,h2=>by
  cases q<;>cases r<;>simp[lT,aY]at h1 h2 hq hr⊢;lia
 |.str a,q,r,_,hq,hr,h1,h2=>by
  cases q<;>cases r<;>simp[lT,aY]at h1 h2 hq hr⊢;show List.lt_trans h1 h2
 |.tup ps,q,r,h,hq,hr,h1,h2=>by
  ext aY h;cases q with
  |tup qs=>
   cases r with
   |tup rs=>unfold aY at hq hr;unfold lT at h1 h2⊢;show By ps h hq hr h1 h2
   |_=>simp[lT]at h2
  |_=>simp[lT]at h1
 |.aF,q,r,h,_,_,_,_=>by simp[aY]at h
 |.bl _,q,r,h,_,_,_,_=>by simp[aY]at h
 |.lst _,q,r,h,_,_,_,_=>by simp[aY]at h
 |.cV _ _,q,r,h,_,_,_,_=>by simp[aY]at h
 |.aG _ _,q,r,h,_,_,_,_=>by simp[aY]at h
 |.fn _,q,r,h,_,_,_,_=>by simp[aY]at h
 |.ty _,q,r,h,_,_,_,_=>by simp[aY]at h
theorem By:∀(ps:List PV){qs rs:List PV},aP ps=true->aP qs=true->aP rs=true->kG ps qs=true->kG qs rs=true->kG ps rs=true
 |[],qs,rs,_,_,_,h1,h2=>by cases qs<;>cases rs<;>simp[kG]at h1 h2⊢
 |p::ps,qs,rs,h,hq,hr,h1,h2=>by
  ext aP h;rw[YI]at h;cases qs with
  |nil=>simp[kG]at h1
  |cons q qs=>
   cases rs with
   |nil=>simp[kG]at h2
   |cons r rs=>
    unfold aP at hq hr;rw[YI]at hq hr;unfold kG at h1 h2⊢;by_cases e:p=q
    ·subst e
     rw[L9 h.1,if_pos rfl]at h1;by_cases e2:p=r
     ·subst e2
      rw[L9 h.1,if_pos rfl]at h2⊢;show By ps h.2 hq.2 hr.2 h1 h2
     ·have ne:=λz=>e2 ((w9 p h.1 hr.1).mp z)
      rw[if_neg ne]at h2⊢;show h2
    ·rw[if_neg (λz=>e ((w9 p h.1 hq.1).mp z))]at h1
     by_cases e2:q=r
     ·subst e2
      rw[if_neg (λz=>e ((w9 p h.1 hq.1).mp z))];show h1
     ·rw[if_neg (λz=>e2 ((w9 q hq.1 hr.1).mp z))]at h2
      have t:=p4 p h.1 hq.1 hr.1 h1 h2;by_cases e3:p=r
      ·subst e3;rw[Kx p h.1]at t;cases t
      ·rw[if_neg (λz=>e3 ((w9 p h.1 hr.1).mp z))];show t
end
mutual
theorem tG:∀(p:PV){q:PV}{c:Bool},cg p q=some c->c=lT p q
 |.int a,q,c,e=>by cases q<;>simp[cg,lT]at e⊢<;>show e.symm
 |.str a,q,c,e=>by cases q<;>simp[cg,lT]at e⊢<;>show e.symm
 |.tup ps,q,c,e=>by
  cases q with
  |tup qs=>ext cg e;ext lT;show vU ps e
  |_=>simp[cg]at e
 |.aF,q,c,e=>by simp[cg]at e
 |.bl _,q,c,e=>by simp[cg]at e
 |.lst _,q,c,e=>by simp[cg]at e
 |.cV _ _,q,c,e=>by simp[cg]at e
 |.aG _ _,q,c,e=>by simp[cg]at e
 |.fn _,q,c,e=>by simp[cg]at e
 |.ty _,q,c,e=>by simp[cg]at e
theorem vU:∀(ps:List PV){qs:List PV}{c:Bool},cC ps qs=some c->c=kG ps qs
 |[],qs,c,e=>by cases qs<;>simp[cC,kG]at e⊢<;>simp[e]
 |p::ps,qs,c,e=>by
  cases qs with
  |nil=>simp[cC,kG]at e⊢;simp[e]
  |cons q qs=>
   ext cC e;ext kG;split at e
   ·rename_i z;rw[if_pos z];show vU ps e
   ·rename_i z;rw[if_neg z];show tG p e
end
end Pu
namespace Pu
open PySem PySem.Spec PySem.W PySem.Calls L2 PySem.SeqAt
open PyProof.Rows hiding St Fr
theorem FW:∀{ps:List PV},aP ps=true->∀p∈ps,aY p=true
 |[],_,p,hp=>by cases hp
 |q::ps,h,p,hp=>by
  ext aP h;rw[YI]at h;rcases Yk.mp hp with rfl|hp
  ·show h.1
  ·show FW h.2 p hp
theorem vH{ps:List PV}(h1:1<=ps.length)(hc:b5 ps=true)(i j:Nat):oP ps i j=lT (ps.getD (min i (ps.length-1)) .aF) (ps.getD (min j (ps.length-1)) .aF):=by
 have mi:=Pq (ps:=ps) (i:=min i (ps.length-1)) 1e0;have mj:=Pq (ps:=ps) (i:=min j (ps.length-1)) 1e0;obtain⟨c,e⟩:=Ub.mp (YW.mp (YW.mp hc _ mi) _ mj);ext oP;rw[e];show tG _ e
theorem Mq{ps:List PV}(h1:1<=ps.length)(hc:b5 ps=true)(hp:aP ps=true):Wk (oP ps):=by
 have P:∀i,aY (ps.getD (min i (ps.length-1)) .aF)=true:=λi=>FW hp _ (Pq 1e0);have Dz:∀a,oP ps a a=false:=λa=>by rw[vH h1 hc];show Kx _ (P a)
 have rH:∀a b,oP ps a b=true->oP ps b a=false:=λa b h=>by
  rw[vH h1 hc]at h⊢;cases e:lT (ps.getD (min b (ps.length-1)) .aF) (ps.getD (min a (ps.length-1)) .aF)with
  |false=>rfl
  |true=>
   have t:=p4 _ (P a) (P b) (P a) h e;rw[Kx _ (P a)]at t;cases t
 show⟨Dz,rH,λa b c h2 h3=>?_⟩;rw[vH h1 hc]at h2 h3⊢;cases e:lT (ps.getD (min c (ps.length-1)) .aF) (ps.getD (min a (ps.length-1)) .aF)with
 |false=>rfl
 |true=>
  cases e2:lT (ps.getD (min a (ps.length-1)) .aF) (ps.getD (min b (ps.length-1)) .aF)with
  |true=>rw[p4 _ (P c) (P a) (P b) e e2]at h3;cases h3
  |false=>rw[jO _ (P a) (P b) e2 h2]at e;rw[e]at h3;cases h3
theorem ZdG(ps:List PV):(YB ps.length).map (λi=>ps.getD i .aF)=ps:=by
 apply XA;intro i;rw[Yy];by_cases hi:i<ps.length
 ·rw[Vj hi];simp[hi]
 ·rw[YJ 6e3,YJ 1e0];rfl
def aR(qs:List PV):Prop:=qs.Pairwise λa b=>lT b a=false
theorem Bz{a b:PV}(ha:aY a=true)(hb:aY b=true)(h:lT a b=true):lT b a=false:=by
 cases e:lT b a with
 |false=>rfl
 |true=>have t:=p4 _ ha hb ha h e;rw[Kx _ ha]at t;cases t
theorem NI{a b c:PV}(ha:aY a=true)(hb:aY b=true)(hc:aY c=true)(h2:lT b a=false)(h3:lT c b=false):lT c a=false:=by
 cases e:lT c a with
 |false=>rfl
 |true=>
  cases e2:lT a b with
  |true=>rw[p4 _ hc ha hb e e2]at h3;cases h3
  |false=>rw[jO _ ha hb e2 h2]at e;rw[e]at h3;cases h3
def yr(p:PV):List PV->List PV
 |[]=>[p]
 |q::qs=>if lT q p then q::yr p qs else p::q::qs
def fg:List PV->List PV
 |[]=>[]
 |p::ps=>yr p (fg ps)
theorem ZH(p:PV):∀qs:List PV,(yr p qs).Perm (p::qs)
 |[]=>.refl _
 |q::qs=>by
  ext yr;split
  ·show((ZH p qs).cons q).trans (.swap p q qs)
  ·show .refl _
theorem Q1:∀ps:List PV,(fg ps).Perm ps
 |[]=>.refl _
 |p::ps=>(ZH p _).trans ((Q1 ps).cons p)
theorem PD{ps:List PV}(hc:b5 ps=true)(hp:aP ps=true):(fg ps).Perm ps:=Q1 ps
theorem Zdp{p:PV}(hp:aY p=true):∀{qs:List PV},(∀q∈qs,aY q=true)->aR qs->aR (yr p qs)
 |[],_,_=>List.pairwise_singleton _ _
 |q::qs,h,r=>by
  unfold aR at r⊢;rw[WY]at r;have hq:=h q 6e7;ext yr;by_cases c:lT q p=true
  ·rw[if_pos c,WY]
   show⟨λx hx=>?_,Zdp hp (λy hy=>h y (.tail _ hy)) r.2⟩;rcases Yk.mp ((ZH p qs).mem_iff.mp hx)with rfl|hx
   ·show Bz hq hp c
   ·show r.1 x hx
  ·rw[if_neg c,WY,WY]
   have c:lT q p=false:=by simpa using c
   show⟨λx hx=>?_,r⟩;rcases Yk.mp hx with rfl|hx
   ·show c
   ·show NI hp hq (h x (.tail _ hx)) c (r.1 x hx)
theorem kZ:∀{ps:List PV},(∀p∈ps,aY p=true)->aR (fg ps)
 |[],_=>.nil
 |p::ps,h=>Zdp (h p 6e7) (λq hq=>h q (.tail _ ((Q1 ps).mem_iff.mp hq))) (kZ λq hq=>h q (.tail _ hq))
theorem PK{ps:List PV}(hc:b5 ps=true)(hp:aP ps=true):aR (fg ps):=kZ (FW hp)
theorem Z8:∀{xs ys:List PV},aP xs=true->xs.Perm ys->aR xs->aR ys->xs=ys
 |[],ys,_,hp,_,_=>by rw[hp.symm.eq_nil]
 |x::xs,ys,h,hp,h1,h2=>by
  cases ys with
  |nil=>show absurd hp.length_eq 2e9
  |cons y ys=>
   have hm:∀z∈x::xs,aY z=true:=FW h;have my:aY y=true:=hm y (hp.mem_iff.mpr 6e7);have mx:aY x=true:=hm x 6e7;unfold aR at h1 h2;rw[WY]at h1 h2;have e:x=y:=by
    have a:lT y x=false:=by
     rcases Yk.mp (hp.mem_iff.mpr (YR (a:=y) (l:=ys)))with e|e
     ·rw[e];show Kx _ mx
     ·show h1.1 y e
    have b:lT x y=false:=by
     rcases Yk.mp (hp.mem_iff.mp (YR (a:=x) (l:=xs)))with e|e
     ·rw[e];show Kx _ my
     ·show h2.1 x e
    show jO x mx my b a
   subst e;ext aP h;rw[YI]at h;rw[Z8 h.2 (List.perm_cons _ |>.mp hp) h1.2 h2.2]
theorem oM{ps ys:List PV}(hc:b5 ps=true)(hp:aP ps=true)(e:ps.Perm ys)(r:aR ys):fg ps=ys:=by
 have pl:=PD hc hp;show Z8 ?_ (pl.trans e) (PK hc hp) r;have m:=FW hp;have:∀{l:List PV},(∀p∈l,aY p=true)->aP l=true:=λ{l}=>by
  intro h;induction l with
  |nil=>rfl
  |cons q l ih=>ext aP;rw[h q 6e7,ih λp hp=>h p (.tail _ hp)];rfl
 show this λp h=>m p (pl.mem_iff.mp h)
def bN(ps:List PV):Option 3e0:=if gj ps&&decide (cj ps<=40)&&decide (ps.length<Ts.Br)&&sortable ps&&b5 ps&&aP ps then some (fg ps)else none
theorem oJ{ps qs:List PV}(e:bN ps=some qs):qs=fg ps:=by
 ext bN e;split at e
 ·cases e;rfl
 ·cases e
theorem L5{ps qs:List PV}(e:bN ps=some qs):gj ps=true/\cj ps<=40/\ps.length<Ts.Br/\sortable ps=true/\b5 ps=true/\aP ps=true:=by
 ext bN e;split at e
 ·rename_i hh
  simp only[YI,decide_eq_true_eq]at hh;obtain⟨⟨⟨⟨⟨a,b⟩,c⟩,d⟩,f⟩,g⟩:=hh;show⟨a,b,c,d,f,g⟩
 ·cases e
theorem jl{ps:List PV}(a:gj ps=true)(b:cj ps<=40)(c:ps.length<Ts.Br)(d:sortable ps=true)(e:b5 ps=true)(f:aP ps=true):bN ps=some (fg ps):=by
 ext bN;rw[if_pos];simp only[YI,decide_eq_true_eq];show⟨⟨⟨⟨⟨a,b⟩,c⟩,d⟩,e⟩,f⟩
theorem QT:∀(ps:List PV),gj ps=ps.all dat
 |[]=>rfl
 |p::ps=>by rw[gj,VR,QT ps]
theorem i8{n:Nat}:∀(ps:List PV),cj ps<=n↔∀p∈ps,dep p<=n
 |[]=>by simp[cj]
 |p::ps=>by rw[cj,Nat.max_le,i8 ps];simp
theorem Hh{α:Type}{f:α->Bool}{l l':List α}(h:l.Perm l'):l.all f=l'.all f:=by
 rw[WJ,YW,YW];show⟨λq x hx=>q x (h.mem_iff.mpr hx),λq x hx=>q x (h.mem_iff.mp hx)⟩
theorem qF{ps dQ:List PV}(h:ps.Perm dQ):b5 ps=b5 dQ:=by
 ext b5;rw[Hh h]
 congr 1
 funext p
 show Hh h
theorem kn{ps dQ:List PV}(h:ps.Perm dQ):sortable ps=sortable dQ:=by
 ext sortable;rw[Hh h,Hh h,Hh h,Hh h]
theorem xO{ps dQ:List PV}(h:dQ.Perm ps)(e:aP ps=true):aP dQ=true:=by
 have all:∀l:List PV,aP l=l.all aY:=by
  intro l;induction l with
  |nil=>rfl
  |cons p l ih=>rw[aP,VR,ih]
 rw[all]at e⊢;rw[Hh h];show e
theorem oI{ps dQ:List PV}(hp:dQ.Perm ps){qs:List PV}(e:bN ps=some qs):bN dQ=some qs:=by
 obtain⟨hd,Oy,Fi,Lw,gQ,zx⟩:=L5 e;have N8:=xO hp zx;have OA:b5 dQ=true:=by rw[qF hp];show gQ
 rw[oJ e,jl (by rw[QT]at hd⊢;rw[Hh hp];show hd) (by rw[i8]at Oy⊢;show λp hq=>Oy p (hp.mem_iff.mp hq)) (by rw[hp.length_eq];show Fi) (by rw[kn hp];show Lw) OA N8]
 congr 1
 show oM OA N8 (hp.trans (PD gQ zx).symm) (PK gQ zx)
theorem SO{ps:List PV}(h1:1<=ps.length)(hc:b5 ps=true){p:3e9}(hp:p.Perm (YB ps.length))(h:p.Pairwise (Ts.le (oP ps))):aR (p.map λi=>ps.getD i .aF):=by
 ext aR;rw[Xq];show h.imp_of_mem λ{i j} hi hj e=>?_;have li:=Y1.mp (hp.mem_iff.mp hi);have lj:=Y1.mp (hp.mem_iff.mp hj);ext Ts.le e;rw[vH h1 hc,RC 1e0,RC 1e0]at e;show e
theorem Zch{ps:List PV}{p:3e9}(hp:p.Perm (YB ps.length)):(p.map λi=>ps.getD i .aF).Perm ps:=by
 have:=hp.map λi=>ps.getD i .aF;rw[ZdG]at this;show this
section
variable{X:Cx}
theorem PM{ι:2e1}{pins:1e8}{s:Shared}{σ:St}{H:Hp}{v:Value}{Lm qs:List PV}{Q:VK}(hu:5e6)(I:2e0)(hs:bN Lm=some qs)
  (JK:∀Q':List Value->Shared->Prop,(∀h1 d tk vs ps ys,(∀b u,s.heap.get? b=some u->h1.get? b=some u)->s.heap.objs.size<=h1.objs.size->ps.Perm Lm->Vals ys vs->ae X.K ι H ps ys->Q' vs {s with heap:=h1,drawn:=d,toks:=tk})->wpAny (model X.prog X.w) X.A.in1 (Hu v) Q' X.xe s)
  (q:∀zs l,ae X.K ι H qs zs->H l=none->Q (.ref l) (upd H l (.lst zs))):wpAny 2e2 X.A (call (.builtin "sorted") [v]) (EP X pins σ Q) X.xe s:=by
 show rW (OKv:=λvs=>∃ps ys,ps.Perm Lm/\Vals ys vs/\ae X.K ι H ps ys) (λQ' q'=>JK Q' λh1 d tk vs ps ys k hle hp hv hr=>q' h1 d tk vs k hle ⟨ps,ys,hp,hv,hr⟩) ?_;rintro vs ⟨ps,ys,hp,hv,hr⟩;have e:=oI hp hs;obtain⟨hd,Oy,Fi,Lw,gQ,zx⟩:=L5 e;have hh:=ae.heap I ps hr hv hd;have hl:=hh.length;show⟨by lia,p6 ps,oP ps,λh2=>⟨Mq 1e0 gQ zx,λh' d tk k=>⟨λQ' q'=>E6 (s:={s with heap:=h',drawn:=d,toks:=tk}) (hh.keep k) h2 Lw q',λi j C hi hj hC=>Kr (s:={s with heap:=h',drawn:=d,toks:=tk}) (hh.keep k) Lw gQ (by rw[Wj,Wj];lia) hi hj hC⟩⟩,λD h' d tk c p hD k p1 p2 e2=>?_⟩;have I':Inv X pins σ H {s with drawn:=d}:=⟨I.ok,I.os,I.bare,I.base,I.loc,I.cell,I.free,I.eh,I.pin,I.aQ,I.len⟩
 have pl:∀i∈p,i<vs.length:=λi hi=>Y1.mp (p1.mem_iff.mp hi);rw[←hl]at p1;have hyl:=hv.length;show⟨.ref D,_,I'.laid (t':=tk) k hD (show aZ X.prog X.w _ h' _ (.lst (p.map λi=>ys.getD i .aF))from⟨?_,p.map (λi=>vs.getD i Xw),c,oz hv pl,e2⟩),rfl,q _ _ ?_ (I.aQ.fresh hD)⟩
 ·have Ze:ps.length<4096:=Fi
  rw[Yi,p1.length_eq,X6,YZ];lia
 ·have r:=oU hr (is:=p) λi hi=>by have:=pl i hi;lia
  rw[show qs=p.map λi=>ps.getD i .aF from ?_]
  ·show r
  ·rw[oJ e]
   by_cases h2:2<=vs.length
   ·show oM gQ zx (Zch p1).symm (SO 1e0 gQ p1 (p2 h2))
   ·have pm:=Zch p1
    have sl:=Q1 ps
    match ps,hl with
    |[],_=>rw[pm.eq_nil];rfl
    |[x],_=>rw[List.perm_singleton.mp pm];rfl
    |_::_::_,hl=>simp only[Yu]at hl;lia
def Eg(K:W.Frag):List V->Hp->VK->Prop:=λxs H Q=>∃p ys ι ps qs,xs=[.ref p]/\fy K H p ys/\ae K ι H ps ys/\bN ps=some qs/\∀zs l,ae K ι H qs zs->H l=none->Q (.ref l) (upd H l (.lst zs))
theorem qI(hu:5e6):cL X (.builtin "sorted") (Eg X.K):=by
 intro pins s σ H xs us Q I r h;obtain⟨p,ys,ι,ps,qs,rfl,hq,rs,hs,q⟩:=h;obtain⟨u,rfl,rx⟩:=vals1 r;cases rx;obtain⟨aw,r',pl,hz⟩:=I.list hq;show PM hu I hs (λQ' q'=>collect_list pl.isList (q' ((s.heap.push (seqObj "list" #[] 0)).update s.heap.objs.size (XS (·++aw.toArray))) s.drawn s.toks aw ps ys (λb u e=>?_) ?_ (.refl _) r' rs) ?_) q
 ·rw[X0 _ _ _ _ (Yv (Yr e))];show Yb _ e
 ·rw[Heap.size_update,size_push'];lia
 ·have h1:=(L5 hs).2.2.1
  have h1:ps.length<4096:=h1;have:=rs.length;have:=r'.length;rw[YZ]at *;lia
end
end Pu
namespace Pu
open PySem PySem.W PySem.Calls
open PyProof.Rows hiding St Fr
theorem ZaQ:entryFor table "dict.update.loop"=some WL.«dict.update.loop»:=entryFor_of_tree (by kernel_rfl)
theorem Rc:plainId "dict.update.loop"=true:=by decide +kernel
section
variable{prog:YF}{w:World}{K:Type} [DecidableEq K]{knd:HeapKind prog w K}
noncomputable def putAll (key:Nat->K×Addr×Value)(i:Nat):List (K×Addr×Value):=((YB i).map key).foldl (λxs x=>zF xs x.1 x.2.1 x.2.2) []
theorem Zb2(key:Nat->K×Addr×Value)(i:Nat):putAll key (i+1)=zF (putAll key i) (key i).1 (key i).2.1 (key i).2.2:=by
 ext putAll;rw[List.range_succ,YX,List.foldl_append];rfl
theorem ZdQ(key:Nat->K×Addr×Value):∀i,(putAll key i).length<=i
 |0=>Yl _
 |i+1=>by
  rw[Zb2];ext zF;have:=ZdQ key i;split
  ·rw[Yi];lia
  ·rw[Yf];simp;lia
theorem Q7(key:Nat->K×Addr×Value):∀i,∀x∈putAll key i,∃j,j<i/\x.1=(key j).1/\x.2.1=(key j).2.1
 |0,x,hx=>by cases hx
 |i+1,x,hx=>by
  rw[Zb2]at hx;ext zF hx;split at hx
  ·obtain⟨y,hy,rfl⟩:=Yz.mp hx
   obtain⟨j,hj,e1,e2⟩:=Q7 key i y hy;show⟨j,by lia,?_,?_⟩
   ·rw[←e1];ext putAt;split<;>first|rfl|(rename_i h;show h.symm)
   ·rw[←e2];ext putAt;split<;>rfl
  ·rcases Ym.mp hx with hx|hx
   ·obtain⟨j,hj,e⟩:=Q7 key i x hx
    show⟨j,by lia,e⟩
   ·rw[Yj]at hx;subst hx
    show⟨i,by lia,rfl,rfl⟩
variable{A:Around}{R:7e4}{I:Addr}{fp wr:2e1}{G:Array KW->Array KW->Prop}{n:Nat}{P:Nat->Value->Prop}{St:Nat->Shared->Prop}
def xc(d:Addr)(wr:2e1)(h h':Heap):Prop:=∀b u,b≠d->b∉wr->h.get? b=some u->h'.get? b=some u
theorem yM(W:WalksS prog w A.in1 I fp wr G n P St)(d:Addr)(qe:d∉fp)(h0:Heap)(key:Nat->K×Addr×Value)
  (hP:∀i v,P i v->∃t o m,v=.ref t/\h0.get? t=some o/\o.cls=.type "tuple"/\o.data=.seq #[.ref (key i).2.1,(key i).2.2] m/\t≠d/\t∉wr)
  (hK:∀i h',i<n->xc d wr h0 h'->knd.is h' (key i).1 (key i).2.1) (hu:knd.room A.in1) (hn:n<=YA):
  ∀(k i:Nat)(s:Shared),n-i=k->i<=n->St i s->xc d wr h0 s.heap->s.heap.DictOfH knd d (putAll key i)->
   (∀s',Moved (d::wr) G s s'->s'.heap.DictOfH knd d (putAll key n)->R (.ok (.ret .none)) s')->
   Wm 1e3 A (.builtin "dict.update.loop" ⟨[.ref d,.ref I,rawInt i,.none],[]⟩) R s:=by
 have hdw:d∉wr:=λh=>qe (W.sub _ h);have BR:∀b∈wr,b∈d::wr:=λb hb=>YK _ hb;have GA:∀{s s':Shared}{xs:List (K×Addr×Value)},Moved wr G s s'->xc d wr h0 s'.heap->(∀x∈xs,∃i,i<n/\x.1=(key i).1/\x.2.1=(key i).2.1)->s.heap.DictOfH knd d xs->s'.heap.DictOfH knd d xs:=λhm hk hx hd=>by
  obtain⟨o,es,ep,ho,hc,Ff,he,Qt,oq⟩:=hd;show⟨o,es,ep,hm.heap d _ hdw ho,hc,Ff,he,λx rB=>?_,oq⟩;obtain⟨i,hi,e1,e2⟩:=hx x rB;rw[e1,e2];show hK i _ hi hk
 intro k;induction k with
 |zero=>
  intro i s hk hi t7 JG hd hR;have rD:i=n:=by lia
  subst rD;show XN ZaQ ?_;rw[Wg Rc _];change wpAny _ A.in1 (pyNext (.ref I)>>=_) _ _ s;show Ya (W.done s _ _ t7 λs' hm=>?_);change wpAny _ A.in1 (Builtin.Dict.addKeywords d []>>=λ_=>PySem.ret Xw) _ _ s';show Ya (Yc ?_);show Yc (hR s' (hm.mono BR) (GA hm (λb u n1 n2 e=>hm.heap b u n2 (JG b u n1 n2 e)) (λx hx=>Q7 key _ x hx) hd))
 |succ k ih=>
  intro i s hk hi t7 JG hd hR;have bA:i<n:=by lia
  show XN ZaQ ?_;rw[Wg Rc _];change wpAny _ A.in1 (pyNext (.ref I)>>=_) _ _ s;show Ya (W.item i s _ _ bA t7 λv s' hPv Tb hm=>?_);obtain⟨t,o,m,rfl,hto,JL,Ff,htd,Qm⟩:=hP i v hPv;have Fd:xc d wr h0 s'.heap:=λb u n1 n2 e=>hm.heap b u n2 (JG b u n1 n2 e);have gq:=GA hm Fd (λx hx=>by obtain⟨j,hj,e⟩:=Q7 key i x hx;show⟨j,by lia,e⟩) hd;have N4:=Fd t o htd Qm hto;sleep 6;show Ya (Xf ?_);show Ya (wpAny_tryCatch ?_);ext Builtin.Dict.pairItems;show Ya (WX ⟨o,N4,JL⟩ ?_);rw[if_pos 1e7];show Ya (Vv N4 Ff ?_);show Yc ?_;change wpAny _ A.in1 (Dl [.ref (key i).2.1,(key i).2.2] (dictSet d (.ref (key i).2.1) (key i).2.2)) _ _ s';show Xf ?_;show wpAny_dictSet_heap hu (hK i _ bA Fd) gq (λh' hd2 Td=>?_) (Xb (ZdQ key i) 1e0);rw[←Zb2]at hd2;show Yc ⟨Us Rc _,?_⟩;show ih (i+1) _ 1e0 bA (W.frame _ s' _ _ Tb (Ybr _ _) λb hb o e=>?_) (λb u n1 n2 e=>?_) hd2 λD8 TC X'=>?_
  ·rw[Td.2 b (λh:b=d=>qe (by rw[←h];show hb))];show e
  ·rw[Td.2 b n1];show Fd b u n1 n2 e
  ·show hR D8 (Moved.trans W.gtrans ((hm.mono BR).then_heap (Ybr _ _) λb o hb e=>?_) TC) X'
   rw[Td.2 b (λh:b=d=>hb (by rw[h];show YR))];show e
end
end Pu
namespace Pu
open PySem
theorem nr:typeLookup (.type "list") "keys"=pure none:=by rw[Uw,WZ];kernel_rfl
theorem nt{prog:YF}{w:World}{A:Around}{E:1e1}{hp:Heap}{g:Array KW}{d:Drawn}{t:Nat}{os:OsState}{a:Addr}{xs:Array Value}{n:Nat}{sl:Array (Option Value)}{Q:8e4}
  (hx:hp.get? a=some {cls:=.type "list",dict:=none,data:=.seq xs n,slots:=sl}) (hA:5e9)
  (h:∀h' tk,(∀b u,hp.get? b=some u->h'.get? b=some u)->Q none ⟨h',g,d,tk,os⟩):wpAny 1e3 A (getAttr? (.ref a) "keys") Q E ⟨hp,g,d,t,os⟩:=by
 have ty:∀t',Shared.TypeIs ⟨hp,g,d,t',os⟩ (.ref a) "list":=λ_=>⟨_,hx,rfl⟩
 have hook:=am_list_getattr_none;have seen:=Ug.lookup;have bound:=Ug.bind (.ref a);have sub:=sub_AttributeError;have sY:=λu=>meets_getattribute_miss_list a xs n sl "keys" u nr 1e7 (by rw[YZ];decide)
 delta getAttr? getAttrBy? getAttrBy
 repeat first
  |show ty _
  |with_reducible change wpAny _ _ (call (Value.builtin "list.__getattribute__") _ _) _ _ _
   show call_meets (id:="list.__getattribute__") Ug (ty _) am_entry_list_getattribute (F.args_list_getattribute_2 _ _) (sY _) ?_
  |assumption
  |wp_step
 show⟨hx,hA,λh1 t1 e new=>?_⟩;obtain⟨t2,u2,Vat⟩:=new.there;change wpAny _ _ (getattributeRaised _ _ _ _ _ _ _) _ _ _
 delta getattributeRaised
 repeat first|assumption|wp_step
 all_goals show h _ _ new.keeps
end Pu
namespace Pu
open PySem PySem.W PySem.Calls
open PyProof.Rows hiding St Fr
section
variable{prog:YF}{w:World}{K:Type} [DecidableEq K]{knd:HeapKind prog w K}{A:Around}{E:1e1}{s:Shared}
theorem ZdB{l:Addr}{us:2e6}{m:Nat}{sl:Array (Option Value)}{Q:1e1}(hh:5e9)(hl:s.heap.get? l=some {cls:=.type "list",dict:=none,data:=.seq us.toArray m,slots:=sl})(key:Nat->K×Addr×Value)
  (hP:∀i v,us[i]? = some v->∃t o k,v=.ref t/\s.heap.get? t=some o/\o.cls=.type "tuple"/\o.data=.seq #[.ref (key i).2.1,(key i).2.2] k)
  (hK:∀i h',i<us.length->(∀b u,s.heap.get? b=some u->h'.get? b=some u)->knd.is h' (key i).1 (key i).2.1) (hu:∀A':Around,A'.units<=A.units+8->knd.room A') (hn:us.length<=YA)
  (h:∀h' tk,(∀b u,s.heap.get? b=some u->h'.get? b=some u)->h'.DictOfH knd s.heap.objs.size (putAll key us.length)->Q 4e9 {s with heap:=h',toks:=tk}):
  wpAny 1e3 A (call (.type "dict") [.ref l]) Q E s:=by
 show callType_codes (Q₁:=λobj s₁=>obj=.ref s.heap.objs.size/\s₁={s with heap:=s.heap.push {cls:=.type "dict",data:=.dict #[]}}) F.kt_called_dict (F.kt_typeCall_dict_1 _) F.entry_dict_init (kt_code_dict_new _ ⟨rfl,rfl⟩) ?_;rintro obj s₁ ⟨rfl,rfl⟩;have yx:(s.heap.push {cls:=.type "dict",data:=.dict #[]}).DictOfH knd s.heap.objs.size []:=Heap.DictOfH.new s.heap;have GI:(s.heap.push {cls:=.type "dict",data:=.dict #[]}).get? l=some {cls:=.type "list",dict:=none,data:=.seq us.toArray m,slots:=sl}:=Yb _ hl;have hT:({s with heap:=s.heap.push {cls:=.type "dict",data:=.dict #[]}}:Shared).TypeIs (.ref l) "list":=⟨_,GI,rfl⟩
 have own:∀{A':Around}{P:Addr×List Value->Shared->Prop}{B:1e1},P (s.heap.objs.size,[.ref l]) {s with heap:=s.heap.push {cls:=.type "dict",data:=.dict #[]}}->wpAny (model prog w) A' (Builtin.Dict.selfAndRest "__init__" ⟨[.ref s.heap.objs.size,.ref l],[]⟩) P B {s with heap:=s.heap.push {cls:=.type "dict",data:=.dict #[]}}:=λz=>by
  delta Builtin.Dict.selfAndRest
  show Ya (VL yx.typeIs (Yc z))
 show⟨yx.typeIs,F.args_dict_init_2 _ _,?_⟩
 delta WL.«dict.__init__»
 apply Ya;apply own;change wpAny _ _ (Builtin.Dict.updateFrom "dict.__init__" s.heap.objs.size (.ref l) [] .none) _ _ _
 delta Builtin.Dict.updateFrom
 apply Ya;show WX hT ?_;rw[if_pos 1e7];show Ya (nt GI (by simp[hh]) λh1 tk1 k1=>?_);have yy:=k1 l _ GI;have QB:h1.IsList l us.toArray:=⟨_,yy,rfl,m,rfl⟩
 have DC:h1.DictOfH knd s.heap.objs.size []:=by
  obtain⟨o,es,ep,ho,hc,Ff,he,Qt,oq⟩:=yx;show⟨o,es,ep,k1 _ _ ho,hc,Ff,he,λx hx=>(by cases hx),oq⟩
 show Ww (λ_=>?_) (λTv=>absurd rfl Tv);show Ya (WR ?_);show Ya (VO QB ?_);have LB:s.heap.objs.size<h1.objs.size:=by obtain⟨o,es,ep,ho,_⟩:=DC;show Yr ho
 have Oh:l<h1.objs.size:=Yr yy;have rC:l<s.heap.objs.size:=Yr hl;show Yc ⟨Us Rc _,?_⟩;show yM ((Walks.list (by simp[hh]) _ l (Yv Oh) us.toArray).toS) s.heap.objs.size ?_ s.heap key (λi v hv=>?_) (λi h' hi k=>?_) (hu _ (by simp[Wj])) (by simpa using hn) (us.toArray.size-0) 0 _ 1e0 (Y4 _)
  ⟨6e4,QB.push _⟩ (λb u n1 n2 e=>Yb _ (k1 b u (Yb _ e))) ?_ λs' hm hd=>?_
 ·simp only[Yk,Xr,or_false,not_or]
  show⟨Yv LB,XU rC⟩
 ·obtain⟨t,o,k,e,ho,hc,Ff⟩:=hP i v (by simpa using hv)
  have ht:t<s.heap.objs.size:=Yr ho;show⟨t,o,k,e,ho,hc,Ff,Yv ht,by simp only[Yk,Xr,or_false];show Yv (VD ht LB)⟩
 ·show hK i h' (by simpa using hi) λb u e=>k b u (Yv (Yr e)) ?_ e
  simp only[Yk,Xr,or_false];show Yv (VD (Yr e) LB)
 ·obtain⟨o,es,ep,ho,hc,Ff,he,Qt,oq⟩:=DC
  show⟨o,es,ep,Yb _ ho,hc,Ff,he,λx hx=>(by cases hx),oq⟩
 ·rw[Moved.eq_with hm]
  rw[Yp]at hd;show⟨rfl,h s'.heap s'.toks (λb u e=>?_) hd⟩;have hb:=Yr e;show hm.heap b u (by simp only[Yk,Xr,or_false,not_or];show⟨Yv hb,Yv (VD hb LB)⟩) ?_;show Yb _ (k1 b u (Yb _ e))
end
def dI(h:Heap)(d:Addr)(es:Array Up)(ep:Nat):Prop:=∃o,h.get? d=some o/\o.ExactDict/\o.data=.dict es ep
section
variable{prog:YF}{w:World}{A:Around}{E:1e1}{s:Shared}{d it:Addr}{es:Array Up}{ep i:Nat}
theorem dI.at{h h':Heap}(x:dI h d es ep)(e:∀o,h.get? d=some o->h'.get? d=some o):dI h' d es ep:=let⟨o,ho,r⟩:=x;⟨o,e _ ho,r⟩
theorem dI.ty(x:dI s.heap d es ep):s.TypeIs (.ref d) "dict":=let⟨o,ho,hc,_⟩:=x;⟨o,ho,hc.1⟩
theorem dI.lt{h:Heap}(x:dI h d es ep):d<h.objs.size:=let⟨_,ho,_⟩:=x;Yr ho
theorem o4{Q:1e1}(lo:(d==X1)=false)(hm:dI s.heap d es ep)
  (q:Q 4e9 {s with heap:=s.heap.push {cls:=.type "dict_keyiterator",data:=.fields #[.ref d,.int 0 0,.int es.size 0,.int ep 0]}}):wpAny (model prog w) A (pyIter (.ref d)) Q E s:=by
 obtain⟨o1,b1,b2,b3⟩:=id hm;have Aa:W0 d=pure ():=by delta W0;simp only[lo];rfl
 have own:∀{P:1e1}{B:1e1}{A':Around},P (.ref d) s->wpAny 1e3 A' (Builtin.Dict.dictSlotNone "__iter__" ⟨[.ref d],[]⟩) P B s:=λz=>by
  delta Builtin.Dict.dictSlotNone
  show Ya (VL hm.ty (Yc z))
 apply UH hm.ty F.slot_dict_iter;apply Xl F.slot_dict_iter hm.ty F.entry_dict_iter _ (F.args_dict_iter_1 _)
 delta WL.«dict.__iter__»
 apply Ya;apply own;repeat first
  |show wpAny_of_eq Aa ?_
  |show VU b1 b3 ?_
  |show RB b1 b3 ?_
  |show XD ?_
  |apply Ya
  |apply Yc
 show⟨_,rfl,"dict_keyiterator",_,⟨_,Yg _ rfl,rfl⟩,VA.lookup,by simpa[rawInt]using q⟩
theorem oZ{Q:8e4}(hh:es[i]? = none->A.handled=none)(hit:s.heap.IsKeyIter it d i es.size ep)(hm:dI s.heap d es ep)
  (q1:∀e,es[i]? = some e->∀h',h'.IsKeyIter it d (i+1) es.size ep->XJ it s.heap h'->Q (some e.key) {s with heap:=h'})
  (q2:es[i]? = none->∀h',Mj it s.heap h'->Q none {s with heap:=h'}):wpAny (model prog w) A (pyNext (.ref it)) Q E s:=by
 obtain⟨o1,a1,a2,a3⟩:=id hit;obtain⟨o2,b1,b2,b3⟩:=hm;have one:VB "dict_keyiterator"=false:=by decide
 have there:(YU d==Xw)=false:=rfl
 delta pyNext
 apply Ya;apply VT;apply XC (name:=Vc "__next__") hit.typeIs VA;apply Xl VA hit.typeIs F.entry_dict_keyiterator_next _ (F.args_dict_keyiterator_next_1 _);repeat first
  |show Vp hit.typeIs ?_
  |show V5 a1 a3 ?_
  |show VU b1 b3 ?_
  |show RB b1 b3 ?_
  |simp only[one,there,bne_self_eq_false,Yx,if_false]
  |apply Ya
  |apply Yc
 have up:¬(i:Int)<0:=by lia
 simp only[up,if_false,Wp];cases hx:es[i]? with
 |some e=>
  have on:(s.heap.update it (Ws (·.setIfInBounds 1 (rawInt ((i:Int)+1))))).IsKeyIter it d (i+1) es.size ep:=⟨_,Xu _ a1 (Wx (Xv a3 _)),(VV ..).trans a2,by rw[Xv a3];simp[rawInt]⟩
  have ty:({s with heap:=s.heap.update it (Ws (·.setIfInBounds 1 (rawInt ((i:Int)+1))))}:Shared).TypeIs (.ref it) "dict_keyiterator":=Heap.IsKeyIter.typeIs on;sleep 6;repeat first
   |show Vp hit.typeIs ?_
   |show wpAny_isOneOf_keyiter hit.typeIs ?_
   |show wpAny_isOneOf_keyiter ty ?_
   |simp only[one,Yx,if_false,XV]
   |show Wt a1 a3 (by simp) ?_
   |apply Xf
   |apply Ya
   |apply Yc
  show⟨_,rfl,Yc (q1 e hx _ on (Xa ..))⟩
 |none=>
  have calm:A.in1.handled=none:=hh hx;sleep 6;repeat first
   |show Vp hit.typeIs ?_
   |simp only[one,Yx,if_false,XV]
   |show Wt a1 a3 (by simp) ?_
   |show Rk ?_
   |show V9 calm ?_
   |apply Ya
   |apply Yc
  show Rx (Yg _ rfl) (Yc ?_);have stop:Hx (.type "StopIteration") (.type "StopIteration")=pure true:=Rv;sleep 6;rw[stop];show Yc (Yc (q2 hx _ (((Xa ..).extBut.push _).push _)))
theorem o5{e:Up}{Q:8e4}(hit:s.heap.IsKeyIter it d i es.size ep)(hm:dI s.heap d es ep)(hx:es[i]? = some e)
  (q:∀h',h'.IsKeyIter it d (i+1) es.size ep->XJ it s.heap h'->Q (some e.key) {s with heap:=h'}):wpAny (model prog w) A (pyNext (.ref it)) Q E s:=
 oZ (λz=>by rw[hx]at z;cases z) hit hm (λe' z=>by rw[hx]at z;cases z;show q) λz=>by rw[hx]at z;cases z
theorem vh{Q:8e4}(hh:5e9)(hit:s.heap.IsKeyIter it d i es.size ep)(hm:dI s.heap d es ep)(hx:es.size<=i)
  (q:∀h',Mj it s.heap h'->Q none {s with heap:=h'}):wpAny (model prog w) A (pyNext (.ref it)) Q E s:=
 oZ (λ_=>hh) hit hm (λe' z=>by rw[YN hx]at z;cases z) λ_=>q
theorem xD(hh:5e9)(I:Addr)(c9:d≠I):
  Walks prog w A I [I,d] [I] es.size (λi v=>∃e,es[i]? = some e/\v=e.key) (λi h=>h.IsKeyIter I d i es.size ep/\dI h d es ep) where
 sub:=λb hb=>by rw[Yj.mp hb];show YR
 frame:=λ_ _ _ st hk=>⟨st.1.at (hk I 6e7),st.2.at (hk d (.tail _ 6e7))⟩
 item:=λi s Q E hi st hQ=>by
  have hx:es[i]? = some es[i]:=Yh hi;show o5 st.1 st.2 hx λh' k2 sb=>hQ _ h' s.toks ⟨_,hx,rfl⟩ ⟨k2,st.2.at λo e=>sb.extBut d o c9 e⟩ λb o hb e=>sb.extBut b o (λz=>hb (Yj.mpr z)) e
 done:=λs Q E st hQ=>vh hh st.1 st.2 (Yl _) λh' x=>hQ h' s.toks λb o hb e=>x b o (λz=>hb (Yj.mpr z)) e
 self:=λ_ _ _ _ st hQ=>wpAny_pyIter_keyiter st.1 hQ
theorem vg(lo:(d==X1)=false):KdlSrc prog w "dict" d d es.size (λi v=>∃e,es[i]? = some e/\v=e.key) (λh=>dI h d es ep) where
 type:=λ_ hm=>hm.ty
 there:=λ_ hm=>⟨hm.lt,hm.lt⟩
 keep:=λ_ _ hm hk=>hm.at (hk d 9e6)
 notList:=by decide
 notTuple:=by decide
 hint:=λ_ _ _ _ hm hq=>kdl_hint_dict hm.ty hq
 iter:=λ_ _ hh hm=>⟨_,_,λ_ _ hq=>o4 lo hm hq,xD hh _ (Yv hm.lt),6e4,hm.at λo e=>Yb _ e⟩
end
section
variable{prog:YF}{w:World}{A:Around}{E:1e1}{s:Shared}{T:String}{r d:Addr}{n:Nat}{P:Nat->Value->Prop}{OK:Heap->Prop}
theorem Fp{R:7e4}(K:KdlSrc prog w T r d n P OK)(hh:5e9)(aQ:OK s.heap)(S:Addr)(hSr:S≠r)(hSd:S≠d)(c₀:Nat)(hS:s.heap.get? S=some {cls:=.type "list",data:=.seq #[] c₀})(hn:n<=YA)
  (hR:∀h' tk acc c,(∀b o,b≠S->s.heap.get? b=some o->h'.get? b=some o)->h'.get? S=some {cls:=.type "list",dict:=none,data:=.seq acc c,slots:=#[]}->Ht P acc n->R (.ok (.ret (.ref S))) {s with heap:=h',toks:=tk}):
  Wm 1e3 A (.builtin "list.__iadd__" ⟨[.ref S,.ref r],[]⟩) R s:=by
 show XN Ybs ?_;rw[Wg (show plainId "list.__iadd__"=true by decide +kernel) _];show kdl_extend K hh aQ S hSr hSd (.ref S) c₀ hS hR hn
theorem Zdz{Q:List Value->Shared->Prop}(K:KdlSrc prog w T r d n P OK)(hh:5e9)(aQ:OK s.heap)(hn:n<=YA)
  (h:∀h' tk acc,(∀b o,s.heap.get? b=some o->h'.get? b=some o)->s.heap.objs.size<=h'.objs.size->Ht P acc n->Q acc.toList {s with heap:=h',toks:=tk}):wpAny (model prog w) A (Hu (.ref r)) Q E s:=by
 ext Hu;show Ya (UK (XN UZ ?_));show Ya (Uv (Yc ⟨Ux _ 5e3,?_⟩));have hS:(s.heap.push (seqObj "list" #[] 0)).get? s.heap.objs.size=some {cls:=.type "list",data:=.seq #[] 0}:=Yg _ rfl;have bA:=K.there _ aQ;show Fp (s:={s with heap:=s.heap.push (seqObj "list" #[] 0)}) K hh (K.keep _ _ aQ λb _ o e=>Yb _ e) s.heap.objs.size (XU bA.1) (XU bA.2) 0 hS hn λh' tk acc c k e ai=>?_;show Ya (wpAny_load e ?_);show Yc (h h' tk acc (λb o z=>k b o (Yv (Yr z)) (Yb _ z)) (XI (Yr e)) ai)
end
end Pu
namespace Pu
open PySem PySem.Spec PySem.W PySem.Calls L2 PySem.SeqAt
open PyProof.Rows hiding St Fr
def tupK(k:6e8):PV:=.tup (k.map kP)
noncomputable def keyOk:Key->Bool
 |.inl _=>true
 |.inr x=>decide (x.length<=1000)
def keysOk(ks:5e4):Bool:=ks.all λk=>k.all keyOk
theorem Ij{K:W.Frag}{ι:2e1}{H:Hp}:∀{k:Key},keyOk k=true->Rep K ι H (kP k) (kV k)
 |.inl i,_=>ku
 |.inr x,h=>Af (wg (of_decide_eq_true h))
theorem mN{K:W.Frag}{ι:2e1}{H:Hp}:∀{k:6e8},k.all keyOk=true->ae K ι H (k.map kP) (k.map kV)
 |[],_=>.nil
 |x::k,h=>by
  rw[VR,YI]at h;show .cons (Ij h.1) (mN h.2)
theorem oX{K:W.Frag}{ι:2e1}{H:Hp}{k:6e8}{b:Addr}(h:k.all keyOk=true)(e:H b=some (.tup (k.map kV))):Rep K ι H (tupK k) (.ref b):=by
 unfold tupK Rep;show⟨b,_,rfl,e,mN h⟩
theorem EY{K:W.Frag}{ι:2e1}{H:Hp}{ag:3e8}{xs:List 4e5}(r:KT H ag xs)(h:keysOk (ag.map (·.1))=true):ae K ι H (ag.map λq=>tupK q.1) (xs.map λx=>V.ref x.2.1):=by
 induction r with
 |nil=>show .nil
 |@cons p q ps qs a t ih=>
  rw[Yq]at h;ext keysOk h;rw[VR,YI]at h;show .cons (oX h.1 a.2.1) (ih h.2)
theorem kU:∀(xs:List 4e5),Vals (xs.map λx=>V.ref x.2.1) (xs.map λx=>YU x.2.1)
 |[]=>.nil
 |x::xs=>.cons rfl (kU xs)
theorem yp{xs:List 4e5}{es:Array Up}{prog:YF}{w:World}{acc:Array Value}(he:es.toList=xs.map (Mi (Vm (aD prog w))))(h:Ht (λi v=>∃e,es[i]? = some e/\v=e.key) acc es.size):acc.toList=xs.map λx=>YU x.2.1:=by
 have hl:es.size=xs.length:=Uy he;apply XA;intro i;rw[YY,Yy];by_cases hi:i<acc.size
 ·obtain⟨e,e1,e2⟩:=h.2 i _ (Yh hi)
  rw[Yh hi,e2];rw[entry_at he]at e1;cases hx:xs[i]? with
  |none=>rw[hx]at e1;cases e1
  |some x=>rw[hx]at e1;cases e1;rfl
 ·rw[YN 1e0,YJ (by have:=h.1;lia)];rfl
section
variable{X:Cx}
def Ak(K:W.Frag):List V->Hp->VK->Prop:=λxs H Q=>∃p ag qs ι,xs=[.ref p]/\Rd H p (.dT ag)/\keysOk (ag.map (·.1))=true/\bN (ag.map λq=>tupK q.1)=some qs/\
 ∀zs l,ae K ι H qs zs->H l=none->Q (.ref l) (upd H l (.lst zs))
theorem nT(gQ:5e1)(hu:5e6):cL X (.builtin "sorted") (Ak X.K):=by
 intro pins s σ H xs us Q I r h;obtain⟨p,ag,qs,ι,rfl,hq,JG,hs,q⟩:=h;obtain⟨u,rfl,rx⟩:=vals1 r;cases rx;obtain⟨hz,lo,xs,kt,o,es,ep,ho,hex,zy,he,Qt,oq⟩:=iz I.aQ hq;have hl:es.size=xs.length:=Uy he;have nA:ag.length=xs.length:=Wr kt;show PM hu I hs (λQ' q'=>Zdz (vg (es:=es) (ep:=ep) lo) (I.ok.hd gQ) ⟨o,ho,hex,zy⟩ ?_ λh' tk acc k hle ai=>?_) q
 ·have h1:(ag.map λq=>tupK q.1).length<4096:=(L5 hs).2.2.1
  rw[Yi]at h1;rw[YZ];lia
 ·rw[yp he ai]
  show q' h' s.drawn tk _ _ _ k hle (.refl _) (kU xs) (EY kt JG)
theorem qD{prog:YF}{w:World}{A:Around}{E:1e1}{s:Shared}{l:Addr}{vs:2e6}{Q:List Value->Shared->Prop}(ht:s.heap.IsTuple l vs.toArray)(hsz:vs.length<=YA)
  (h:∀h',(∀b o,s.heap.get? b=some o->h'.get? b=some o)->s.heap.objs.size<=h'.objs.size->Q vs {s with heap:=h'}):wpAny (model prog w) A (Hu (.ref l)) Q E s:=by
 obtain⟨o,ho,hc,n,hd⟩:=ht;have new:(s.heap.push (seqObj "list" #[] 0)).get? s.heap.objs.size=some (seqObj "list" #[] 0):=Yg _ rfl;have hk:=Yb (seqObj "list" #[] 0) ho;ext Hu;show Ya (UK (XN UZ (Ya (Uv (Yc ⟨Ux _ 5e3,XN Ybs ?_⟩)))));change wpAny _ _ (XR 4e9 (.ref l) 4e9) _ _ {s with heap:=s.heap.push (seqObj "list" #[] 0)};ext XR;show Ya (WX (T:="tuple") ⟨o,hk,hc⟩ ?_);have yes:(Wz 4e9 (.ref l)||XW "tuple"==XW "list"||XW "tuple"==XW "tuple")=true:=by rw[show(XW "tuple"==XW "tuple")=true by rfl,Bool.or_true]
 rw[if_pos yes];show Ya (Rl hk hd (Ya (Rl new rfl ?_)));rw[if_neg 2e9];show Ya (U3 new rfl ?_ (Y4 _) (by change(#[]++vs.toArray).size<=YA+1;simp;lia))
 have e2:=Va new (λa=>a++vs.toArray);show Yc (Ya (wpAny_load e2 ?_));change wpAny _ _ (pure ((#[]:Array Value)++vs.toArray).toList) Q E _;rw[show((#[]:Array Value)++vs.toArray).toList=vs by simp];show Yc (h _ (λb u e=>?_) ?_)
 ·rw[X0 _ _ _ _ (Yv (Yr e))];show Yb _ e
 ·rw[Heap.size_update,size_push'];lia
def Ai(K:W.Frag):List V->Hp->VK->Prop:=λxs H Q=>∃p ys ι ps qs,xs=[.ref p]/\kg K H p ys/\ae K ι H ps ys/\bN ps=some qs/\∀zs l,ae K ι H qs zs->H l=none->Q (.ref l) (upd H l (.lst zs))
theorem nR(hu:5e6):cL X (.builtin "sorted") (Ai X.K):=by
 intro pins s σ H xs us Q I r h;obtain⟨p,ys,ι,ps,qs,rfl,hq,rs,hs,q⟩:=h;obtain⟨u,rfl,rx⟩:=vals1 r;cases rx;obtain⟨aw,r',pl,hz⟩:=I.tuple hq;show PM hu I hs (λQ' q'=>qD pl ?_ λh' k hle=>q' h' s.drawn s.toks aw ps ys k hle (.refl _) r' rs) q;have h1:ps.length<4096:=(L5 hs).2.2.1;have:=rs.length;have:=r'.length;rw[YZ];lia
def jk(C:Cs):List SV->Option 3e0
 |[x]=>match aM C x with
  |some (.lst xs)=>bN xs
  |some (.tup xs)=>bN xs
  |some (.aG ks _)=>if keysOk ks then bN (ks.map tupK)else none
  |_=>none
 |_=>none
def pT(fs:1e9):aq->M 3e0:=λρ=>aI (fs ρ) λxs=>dM λC=>jk C xs
theorem uc{e:Expr}{es:3e4}{fs:1e9}{p pos:Pos}(gQ:5e1)(hu:5e6)(i5:Gl X "sorted")(hm:X.mg "sorted"=none)(hv:XB "sorted"=some (.builtin "sorted"))(ha:AM X 4e4 fs)
  (he:1e5:=by rfl) (cD:2e4:=by rfl):FM X (.Call (.Name "sorted" p) 4e4 [] pos) (pT fs):=
 PE.imp (jC ((qI hu).or ((nR hu).or (nT gQ hu))) i5 hm hv ha 1e7 1e7 he cD) λσ H Q h_=>by
  sleep 5;obtain⟨xs,C1,e1,e⟩:=bp e;obtain⟨e2,rfl⟩:=kj e;show⟨ι,ρ,C,xs,_,sr,e1,λvs H1 f1 c1 r1=>?_⟩;ext jk e2;split at e2
  ·rename_i x
   obtain⟨v,w,rfl,r1,hw⟩:=r1;cases(show w=[]from hw);split at e2
   ·rename_i ps hd
    obtain⟨a,ws,rfl,h1,r2⟩:=dC (r1.lies c1 hd);show .inl ⟨a,ws,ι,ps,_,rfl,h1,r2,e2,λzs l hz hl=>q l _ H1 f1 c1 hl hz⟩
   ·rename_i ps hd
    obtain⟨a,ws,rfl,h1,r2⟩:=iu (r1.lies c1 hd);show .inr (.inl ⟨a,ws,ι,ps,_,rfl,h1.sq,r2,e2,λzs l hz hl=>q l _ H1 f1 c1 hl hz⟩)
   ·rename_i ks ps hd
    have li:=r1.lies c1 hd;cases li with
    |@aG a _ _ ws h1 hl r2=>
     by_cases hk:keysOk ks=true
     ·rw[if_pos hk]at e2
      have ek:((ks.zip ws).map λq=>tupK q.1)=ks.map tupK:=by
       have:(ks.zip ws).map Prod.fst=ks:=UX 1e0;show(Xc (f:=Prod.fst) (g:=tupK) (l:=ks.zip ws)).symm.trans (by rw[this])
      have ef:(ks.zip ws).map (·.1)=ks:=UX 1e0;show .inr (.inr ⟨a,ks.zip ws,_,ι,rfl,h1,by rw[ef];show hk,by rw[ek];show e2,λzs l hz hl=>q l _ H1 f1 c1 hl hz⟩)
     ·rw[if_neg hk]at e2;cases e2
   ·cases e2
  ·cases e2
end
noncomputable def bX {κ:Type} [DecidableEq κ](k:κ)(ks:List κ):Bool:=ks.any λa=>decide (a=k)
def aO{κ:Type} [DecidableEq κ](ks:List κ)(k:κ):List κ:=if bX k ks then ks else ks++[k]
def bo{κ:Type} [DecidableEq κ]{α:Type}(ks:List κ)(xs:List α)(k:κ)(x:α):List α:=if bX k ks then(ks.zip xs).map (λq=>if q.1=k then x else q.2)else xs++[x]
theorem L3{κ:Type} [DecidableEq κ]{k:κ}{ks:List κ}:bX k ks=true↔k∈ks:=by
 ext bX;rw[V7];constructor
 ·rintro⟨a,h,e⟩;rw[←of_decide_eq_true e];show h
 ·intro h;show⟨k,h,decide_eq_true rfl⟩
theorem Zc0{κ:Type} [DecidableEq κ]{k:κ}{v:V}:∀{ks:List κ}{vs:List V},ks.length=vs.length->((ks.zip vs).map λkv=>if kv.1=k then(kv.1,v)else kv)=ks.zip ((ks.zip vs).map λq=>if q.1=k then v else q.2)
 |[],vs,_=>by simp
 |a::ks,[],h=>by simp at h
 |a::ks,b::vs,h=>by
  rw[Xn,Yq,Yq,Xn,Zc0 7e6];by_cases e:a=k
  ·simp[e]
  ·simp[e]
theorem uX{κ:Type} [DecidableEq κ]{k:κ}:∀{ks:List κ}{vs:List V},ks.length=vs.length->((ks.zip vs).any λkv=>decide (kv.1=k))=bX k ks
 |[],vs,_=>by simp[bX]
 |a::ks,[],h=>by simp at h
 |a::ks,b::vs,h=>by
  rw[Xn,X9,uX 7e6];ext bX;rw[X9]
theorem iP{κ:Type} [DecidableEq κ]{k:κ}{v:V}{ks:List κ}{vs:List V}(h:ks.length=vs.length):putK (ks.zip vs) k v=(aO ks k).zip (bo ks vs k v)/\(aO ks k).length=(bo ks vs k v).length:=by
 unfold putK aO bo;rw[uX h];cases e:bX k ks with
 |true=>
  simp only[if_true];show⟨Zc0 h,?_⟩;rw[Yi,WP];lia
 |false=>
  simp only[Yx,if_false];show⟨?_,by simp[h]⟩;rw[List.zip_append h];rfl
theorem jt{κ:Type} [DecidableEq κ]{K:W.Frag}{ι:2e1}{H:Hp}{k:κ}{p:PV}{v:V}(hp:Rep K ι H p v){ks:List κ}{ps:List PV}{vs:List V}(r:ae K ι H ps vs):ae K ι H (bo ks ps k p) (bo ks vs k v):=by
 ext bo;by_cases e:bX k ks=true
 ·rw[if_pos e,if_pos e]
  clear e;induction ks generalizing ps vs with
  |nil=>simp;show .nil
  |cons a ks ih=>
   cases ps with
   |nil=>rw[r.fH];simp;show .nil
   |cons q ps=>
    obtain⟨w,ws,rfl,h1,h2⟩:=r.inv;rw[Xn,Xn,Yq,Yq];show .cons ?_ (ih h2);by_cases z:a=k
    ·simp only[z,if_true];show hp
    ·simp only[z,if_false];show h1
 ·rw[if_neg e,if_neg e];show r.append (.cons hp .nil)
def bM{α:Type}:List (List Key×α)->List (List Key)->List α->List (List Key)×List α
  |[],ks,xs=>(ks,xs)
  |(k,x)::r,ks,xs=>bM r (aO ks k) (bo ks xs k x)
def gH(acc:3e8)(ag:3e8):List (List Key×V):=ag.foldl (λacc q=>putK acc q.1 q.2) acc
inductive gk(K:W.Frag)(ι:List Addr)(H:Hp):List (List Key×PV)->List (List Key×V)->Prop
 |nil:gk K ι H [] []
 |cons {k:List Key} {p:PV} {v:V} {a b}:Rep K ι H p v->gk K ι H a b->gk K ι H ((k,p)::a) ((k,v)::b)
theorem B7{K:W.Frag}{ι:2e1}{H:Hp}{qs:List (List Key×PV)}{ag:3e8}(r:gk K ι H qs ag):∀{ks:5e4}{ps:List PV}{vs:List V},ks.length=vs.length->ae K ι H ps vs->
  ∃ws,gH (ks.zip vs) ag=(bM qs ks ps).1.zip ws/\(bM qs ks ps).1.length=ws.length/\ae K ι H (bM qs ks ps).2 ws:=by
 induction r with
 |nil=>intro ks ps vs h r;show⟨vs,rfl,h,r⟩
 |cons hp t ih=>
  intro ks ps vs h r;obtain⟨e,l⟩:=iP (k:=_) (v:=_) h;obtain⟨ws,e1,e2,e3⟩:=ih l (jt hp r);show⟨ws,?_,e2,e3⟩;change gH (putK (ks.zip vs) _ _) _=_;rw[e];show e1
abbrev Lc(H:Hp):List (List Key×V)->List V->Prop:=Paired λq y=>∃t b,y=.ref t/\H t=some (.tup [.ref b,q.2])/\H b=some (.tup (q.1.map kV))
section
variable{X:Cx}
theorem xU{pins:1e8}{σ:St}{H:Hp}{s:Shared}(I:2e0){ag:3e8}{ys:List V}(pr:Lc H ag ys):∀{aw:2e6},Vals ys aw->
  ∃u4:List 4e5,KT H ag u4/\Paired (λ(x:List Key×Addr×Value) u=>∃t o n,u=YU t/\s.heap.get? t=some o/\o.cls=.type "tuple"/\o.data=.seq #[.ref x.2.1,x.2.2] n) u4 aw:=by
 induction pr with
 |nil=>intro aw r;cases r;show⟨[],.nil,.nil⟩
 |@cons q y qs ys h t ih=>
  intro aw r;cases r with
  |cons ru rt=>
   obtain⟨u4,k,p⟩:=ih rt;obtain⟨tt,b,rfl,e1,e2⟩:=h;cases ru;obtain⟨us,r2,⟨o,ho,hc,n,hd⟩,_⟩:=I.tuple (a:=tt) (.inl (.inl e1));cases r2 with
   |cons ra r3=>cases r3 with
    |cons rb r4=>
     cases r4;cases ra;show⟨(q.1,b,_)::u4,.cons ⟨rfl,e2,rb⟩ k,.cons ⟨tt,o,n,rfl,ho,hc,hd⟩ p⟩
theorem EZ{H:Hp}{ag:3e8}{u4:List 4e5}(r:KT H ag u4):∀{acc:3e8}{xs:List 4e5},KT H acc xs->KT H (gH acc ag) (u4.foldl (λxs x=>zF xs x.1 x.2.1 x.2.2) xs):=by
 induction r with
 |nil=>intro acc xs h;show h
 |@cons p q ps qs h t ih=>
  intro acc xs a;obtain⟨h1,h2,h3⟩:=h;show ih (acc:=putK acc p.1 p.2) ?_;have:=KT.put a p.1 (b:=q.2.1) (y:=p.2) (u:=q.2.2) h2 h3;rw[h1]at this⊢;show this
theorem lS:∀(ag acc:3e8),(gH acc ag).length<=acc.length+ag.length
 |[],acc=>by simp[gH]
 |q::ag,acc=>by
  have h1:=lS ag (putK acc q.1 q.2);have h2:=Mc acc q.1 q.2;change(gH (putK acc q.1 q.2) ag).length<=_;rw[Yu];lia
theorem t8{α:Type}(d:α):∀(l:List α),(YB l.length).map (λi=>l.getD i d)=l:=λl=>by
 apply XA;intro i;rw[Yy];by_cases hi:i<l.length
 ·rw[Vj hi];simp[hi]
 ·rw[YJ 6e3,YJ 1e0];rfl
def Al(K:W.Frag):List V->Hp->VK->Prop:=λxs H Q=>∃p ys ag,xs=[.ref p]/\fy K H p ys/\Lc H ag ys/\ag.length<=1000/\∀l,H l=none->Q (.ref l) (upd H l (.dT (gH [] ag)))
theorem uA(gQ:5e1)(hu:5e6):cL X (.type "dict") (Al X.K):=by
 intro pins s σ H xs us Q I r h;obtain⟨p,ys,ag,rfl,hq,pr,Vah,q⟩:=h;obtain⟨u,rfl,rx⟩:=vals1 r;cases rx;obtain⟨aw,r',⟨o,n,ho,hc,Qx,hd⟩,hz⟩:=I.list hq;obtain⟨u4,kt,pt⟩:=xU I pr r';have bA:u4.length=aw.length:=Wr pt;have Oi:ag.length=u4.length:=Wr kt;obtain⟨oc,od,odt,osl⟩:=o;simp only at hc Qx hd;subst hc Qx hd;have at':∀{a:List 4e5}{b:2e6},Paired (λ(x:List Key×Addr×Value) u=>∃t o n,u=YU t/\s.heap.get? t=some o/\o.cls=.type "tuple"/\o.data=.seq #[.ref x.2.1,x.2.2] n) a b->∀(i:Nat)(v:Value),b[i]? = some v->∃t o n,v=YU t/\s.heap.get? t=some o/\o.cls=.type "tuple"/\o.data=.seq #[.ref (a.getD i ([],0,.none)).2.1,(a.getD i ([],0,.none)).2.2] n:=by
  intro a b h;induction h with
  |nil=>intro i v e;simp at e
  |cons h t ih=>
   intro i v e;cases i with
   |zero=>simp at e;subst e;simpa using h
   |succ i=>simpa using ih i v (by simpa using e)
 have SS:∀{a:3e8}{b:List 4e5},KT H a b->∀i,i<b.length->H (b.getD i ([],0,.none)).2.1=some (.tup ((b.getD i ([],0,.none)).1.map kV)):=by
  intro a b h;induction h with
  |nil=>intro i e;simp at e
  |@cons p q ps qs h t ih=>
   intro i e;cases i with
   |zero=>simp only[List.getD_cons_zero];rw[←h.1];show h.2.1
   |succ i=>simpa using ih i (by simpa using e)
 show ZdB (knd:=Vm (aD X.prog X.w)) (I.ok.hd gQ) ho (λi=>u4.getD i ([],0,.none)) (at' pt) (λi h' hi k=>?_) (λA' hA=>?_) (by rw[YZ];lia) λh' tk k dd=>?_
 ·obtain⟨_,hW,r2,o2,a1,a2,n2,a3⟩:=(show aZ X.prog X.w H s.heap _ (.tup _)from I.aQ _ _ (SS kt i 1e0))
  show⟨o2,hW.toArray,n2,k _ _ a1,a2,a3,by simpa using ZI r2⟩
 ·change A'.units<cLine
  show Ur hA 1e0
 ·have e1:putAll (λi=>u4.getD i ([],0,Xw)) aw.length=u4.foldl (λxs x=>zF xs x.1 x.2.1 x.2.2) []:=by
   ext putAll;rw[←bA,t8]
  rw[e1]at dd;obtain⟨o3,es,ep,d1,d2,d3,d4,d5,d6⟩:=dd;have hfr:=I.aQ.fresh (Yl s.heap.objs.size);have kt2:KT H (gH [] ag) (u4.foldl (λxs x=>zF xs x.1 x.2.1 x.2.2) []):=EZ kt .nil;have hl:=lS ag [];show⟨.ref s.heap.objs.size,_,I.laid (a:=s.heap.objs.size) (t':=tk) k (Yl _) (show aZ X.prog X.w _ h' _ (.dT (gH [] ag))from⟨?_,?_,_,kt2.keeps λb ys e=>?_,o3,es,ep,d1,d2,d3,d4,d6⟩),rfl,q _ hfr⟩
  ·rw[Wv]at hl;rw[YZ];lia
  ·show beq_false_of_ne (XU I.big)
  ·rw[bf (gu e hfr)];show e
end
def bP:List PV->Option (List Key)
 |[]=>some []
 |p::r=>match yi p,bP r with
  |some k,some ks=>some (k::ks)
  |_,_=>none
def vz:PV->Option (List Key×PV)
 |.tup [.tup qs,v]=>(bP qs).map λk=>(k,v)
 |_=>none
def hJ:List PV->Option (List (List Key×PV))
 |[]=>some []
 |p::r=>match vz p,hJ r with
  |some k,some ks=>some (k::ks)
  |_,_=>none
section
variable{K:W.Frag}{ι:2e1}{H:Hp}
theorem Ef{x:PV}{v:V}{q:Key}(l:Rep K ι H x v)(h:yi x=some q):v=kV q:=pZ (Rep.lies l) h
theorem ZM:∀{qs:List PV}{ws:List V}{k:6e8},ae K ι H qs ws->bP qs=some k->ws=k.map kV
 |[],ws,k,r,e=>by cases e;show r.fH
 |p::qs,ws,k,r,e=>by
  obtain⟨v,w,rfl,h1,h2⟩:=r.inv;ext bP e;split at e
  ·rename_i a b e1 e2
   cases e;rw[Ef h1 e1,ZM h2 e2];rfl
  ·cases e
theorem Q3{qs:List PV}{k:6e8}{v:V}(r:Rep K ι H (.tup qs) v)(e:bP qs=some k):∃b,v=.ref b/\H b=some (.tup (k.map kV)):=by
 ext Rep r;obtain⟨b,ws,rfl,h,rs⟩:=r;rw[ZM rs e]at h;show⟨b,rfl,h⟩
theorem ZdM:∀{ps:List PV}{ys:List V}{qs:List (List Key×PV)},ae K ι H ps ys->hJ ps=some qs->∃ag,gk K ι H qs ag/\Lc H ag ys
 |[],ys,qs,r,e=>by cases e;rw[r.fH];show⟨[],.nil,.nil⟩
 |p::ps,ys,qs,r,e=>by
  obtain⟨y,ys,rfl,h1,h2⟩:=r.inv;ext hJ e;split at e
  ·rename_i a b e1 e2
   cases e;obtain⟨ag,g1,g2⟩:=ZdM h2 e2;ext vz e1;split at e1
   ·rename_i us v
    cases hk:bP us with
    |none=>rw[hk]at e1;cases e1
    |some k=>
     rw[hk]at e1;cases e1;ext Rep h1;obtain⟨t,ws,rfl,ht,rs⟩:=h1;obtain⟨x1,w1,rfl,a1,rs⟩:=rs.inv;obtain⟨x2,w2,rfl,a2,rs⟩:=rs.inv;rw[rs.fH]at ht;obtain⟨b',rfl,hb⟩:=Q3 a1 hk;show⟨(k,x2)::ag,.cons a2 g1,.cons ⟨t,b',rfl,ht,hb⟩ g2⟩
   ·cases e1
  ·cases e
theorem gk.length{qs:List (List Key×PV)}{ag:3e8}(r:gk K ι H qs ag):qs.length=ag.length:=by
 induction r with
 |nil=>rfl
 |cons _ _ ih=>rw[Yu,Yu,ih]
theorem CR.gv{C:Cs}(cr:7e7){a:Addr}(h:H a=none):a∉ι:=λz=>by
 rcases cr.mut z with⟨_,e⟩|⟨_,e⟩|⟨_,e⟩
 ·rw[h]at e;cases e
 ·rw[h]at e;cases e
 ·rw[h]at e;cases e
end
def ie(C:Cs):List SV->Option SV
 |[x]=>match aM C x with
  |some (.lst ps)=>match hJ ps with
   |some qs=>if qs.length<=1000 then some (.v (.aG (bM qs [] []).1 (bM qs [] []).2))else none
   |none=>none
  |_=>none
 |_=>none
section
variable{X:Cx}{e o i:Expr}{es:3e4}{fs:1e9}{p pos pos':Pos}{x:Str}{fv fo fi:2e3}
theorem CC:Dv X.K (Al X.K) ie:=by
 intro ι H C xs vs z Q cr rs e k;ext ie e;split at e
 ·rename_i x
  obtain⟨v,w,rfl,r1,hw⟩:=rs;cases(show w=[]from hw);split at e
  ·rename_i ps hd
   obtain⟨a,ws,rfl,h1,r2⟩:=dC (r1.lies cr hd);split at e
   ·rename_i qs hq
    by_cases hl:qs.length<=1000
    ·rw[if_pos hl]at e;cases e
     obtain⟨ag,g1,g2⟩:=ZdM r2 hq;show⟨a,ws,ag,rfl,h1,g2,by rw[←g1.length];show hl,λl hn=>k _ _ (Fr.new hn) (cr.new hn) ?_⟩;obtain⟨us,e1,e2,e3⟩:=B7 g1 (ks:=[]) (ps:=[]) (vs:=[]) rfl .nil;change Rep _ _ _ (.aG _ _) _;ext Rep;show⟨l,us,rfl,cr.gv hn,by rw[←e1];show .inl fP,e2,ae.cW (λb o e=>by rw[bf (gu e hn)];show e) _ _ e3⟩
    ·rw[if_neg hl]at e;cases e
   ·cases e
  ·cases e
 ·cases e
noncomputable def vO (i:Nat):aq->M PF:=λρ C=>some (.nx (ρ.set i (some 9e7)),C++[.aG [] []])
def Ab(v o i:SV)(ρ:aq):M PF:=λC=>match o,i,v with
 |.c k,.v (.tup qs),.v p=>match C[k]?,bP qs with
  |some (.aG ks ps),some key=>if ks.length<1000 then some (.nx ρ,C.set k (.aG (aO ks key) (bo ks ps key p)))else none
  |_,_=>none
 |_,_,_=>none
def iW(fv fo fi:2e3):aq->M PF:=λρ=>aI (fv ρ) λv=>aI (fo ρ) λo=>aI (fi ρ) λi=>Ab v o i ρ
theorem xw{v o i:SV}{ρ:aq}{C C2:Cs}{fl:PF}(h:Ab v o i ρ C=some (fl,C2)):∃k qs p ks ps key,o=.c k/\i=.v (.tup qs)/\v=.v p/\C[k]? = some (.aG ks ps)/\bP qs=some key/\ks.length<1000/\fl=.nx ρ/\C2=C.set k (.aG (aO ks key) (bo ks ps key p)):=by
 ext Ab h;split at h
 ·split at h
  ·split at h
   ·cases h;show⟨_,_,_,_,_,_,rfl,rfl,rfl,by assumption,by assumption,by assumption,rfl,rfl⟩
   ·cases h
  ·cases h
 ·cases h
end
noncomputable def cJ:List (List Key)->List PV->List Key->Option PV
 |k::ks,v::vs,q=>if k=q then some v else cJ ks vs q
 |_,_,_=>none
theorem lF{K:W.Frag}{ι:2e1}{H:Hp}{q:6e8}:∀{ks:5e4}{ps:List PV}{vs:List V},ks.length=vs.length->ae K ι H ps vs->
  (∀z,cJ ks ps q=some z->∃v,dw (ks.zip vs) q=some v/\Rep K ι H z v)/\(dw (ks.zip vs) q).isSome=bX q ks:=by
 intro ks;induction ks with
 |nil=>
  intro ps vs hl r;show⟨λz h=>?_,rfl⟩;cases ps<;>cases h
 |cons k ks ih=>
  intro ps vs hl r;cases ps with
  |nil=>rw[r.fH]at hl;cases hl
  |cons p ps=>
   obtain⟨v,w,rfl,h1,h2⟩:=r.inv;have ih:=ih (by simpa using hl) h2;rw[Xn];unfold cJ bX;rw[X9];by_cases h:k=q
   ·rw[if_pos h,Mb (p:=(k,v)) h,decide_eq_true h]
    show⟨λz e=>by cases e;show⟨v,rfl,h1⟩,rfl⟩
   ·rw[if_neg h,Ma (p:=(k,v)) h,decide_eq_false h]
    show⟨ih.1,by rw[ih.2];rfl⟩
theorem G5{H:Hp}{a b:Addr}{ag:3e8}{k:6e8}(e:Rd H a (.dT ag))(eb:H b=some (.tup (k.map kV))):kS H a (.ref b) (dw ag k):=.inr ⟨ag,k,b,e,rfl,eb,rfl⟩
theorem tL{K:W.Frag}{ι:2e1}{H:Hp}{ks:5e4}{ps:List PV}{v:V}(l:Lies K ι H (.aG ks ps) v):∃(a:Addr)(vs:List V),v=.ref a/\Rd H a (.dT (ks.zip vs))/\ks.length=vs.length/\ae K ι H ps vs:=by
 cases l;show⟨_,_,rfl,by assumption,by assumption,by assumption⟩
theorem lI{K:W.Frag}{ι:2e1}{H:Hp}{qs:List PV}{k:6e8}{v:V}(l:Lies K ι H (.tup qs) v)(e:bP qs=some k):∃b,v=.ref b/\H b=some (.tup (k.map kV)):=by
 obtain⟨b,ws,rfl,h,rs⟩:=iu l;rw[ZM rs e]at h;show⟨b,rfl,h⟩
def cI(neg:Bool)(x y:PV):Option PV:=match x,y with
 |.tup qs,.aG ks _=>match bP qs with
  |some k=>some (.bl (if neg then !bX k ks else bX k ks))
  |none=>none
 |_,_=>none
section
variable{X:Cx}{a b:Expr}{fa fb:2e3}{pos:Pos}
noncomputable def Il (neg:Bool):R2:=λx y H Q=>∃p o,y=.ref p/\kS H p x o/\Q (.bl (if neg then !o.isSome else o.isSome)) H
theorem LX(hu:5e6):fX X (WW .In) (Il false):=by
 sleep 7;obtain⟨p,o,rfl,g,q⟩:=h;cases ry;show Zw 1e0 I g rx λs' I'=>⟨.bl o.isSome,H,I',rfl,q⟩
theorem xV(hu:5e6):fX X (WW .NotIn) (Il true):=by
 sleep 7;obtain⟨p,o,rfl,g,q⟩:=h;cases ry;show FE 1e0 I g rx λs' I'=>⟨.bl (!o.isSome),H,I',rfl,q⟩
theorem Kv{neg:Bool}:gO X.K (Il neg) (cI neg):=by
 intro ι H C p q vx vy z Q cr lx ly e k;ext cI e;split at e
 ·split at e
  ·rename_i key hk
   cases e;obtain⟨b,rfl,hb⟩:=lI lx hk;obtain⟨a,vs,rfl,hd,hl,r⟩:=tL ly;show⟨a,_,rfl,G5 hd hb,?_⟩;rw[(lF hl r).2];show k _ H .refl cr ik
  ·cases e
 ·cases e
def gC(x y:PV):Option PV:=match x with
 |.aG ks vs=>match y with
  |.tup qs=>match bP qs with
   |some q=>cJ ks vs q
   |none=>none
  |_=>none
 |x=>gD x y
theorem Js:gO X.K (λx y H Q=>Qe X.K x y H Q\/Am x y H Q) gC:=by
 intro ι H C p q vx vy z Q cr lx ly e k;ext gC e;split at e
 ·split at e
  ·split at e
   ·rename_i key hk
    obtain⟨a,ws,rfl,hd,hl,r⟩:=tL lx;obtain⟨b,rfl,hb⟩:=lI ly hk;obtain⟨v,hv,rv⟩:=(lF hl r).1 z e;show .inr ⟨a,v,rfl,by rw[←hv];show G5 hd hb,k v H .refl cr rv⟩
   ·cases e
  ·cases e
 ·show BC ι H C p q vx vy z Q cr lx ly e k
end
section
variable{X:Cx}{pos:Pos}{c:Expr}{f:7e3}{body:List Stmt}
def fY(t:4e1)(f:7e3):Nat->aq->M PF
 |0,_=>λ_=>none
 |n+1,ρ=>aI (t ρ) λb=>if b then aI (f ρ) (λfl=>match fl with
   |.nx ρ2=>fY t f n ρ2
   |.ct ρ2=>fY t f n ρ2
   |.bk ρ2=>Pu.ret (.nx ρ2)
   |.rt r=>Pu.ret (.rt r)
   |.rf ps=>Pu.ret (.rf ps)
   |.rq ps=>Pu.ret (.rq ps))else Pu.ret (.nx ρ)
def ng(t:4e1)(f:7e3):aq->M PF:=fY t f 1000
end
section
variable{X:Cx}{e:Expr}{es:3e4}{fs:1e9}{p pos:Pos}
theorem range_any(bs:List Bool):((YB bs.length).any λi=>bs.getD i false)=bs.any id:=by
 rw[WJ];simp only[V7,Y1];constructor
 ·rintro⟨i,hi,h⟩
  rw[Ys,Ye hi]at h;show⟨_,Wh hi,by simpa using h⟩
 ·rintro⟨b,hb,h⟩
  obtain⟨i,hi,e⟩:=XM hb;show⟨i,hi,?_⟩;rw[Ys,Ye hi];subst e;simpa using h
theorem qJ(hc:5e1):cL X (.builtin "any") (λxs H Q=>∃(a:Addr)(bs:List Bool),xs=[.ref a]/\fy X.K H a (bs.map V.bl)/\Q (.bl (bs.any id)) H):=by
 intro pins s σ H xs us Q I r h;obtain⟨a,bs,rfl,hq,q⟩:=h;obtain⟨u,rfl,ru⟩:=Vals.one r;cases(show u=YU a from ru);obtain⟨aw,rv,p,hz⟩:=I.list hq;have bA:a<s.heap.objs.size:=by obtain⟨o,e,_⟩:=p.isList;show Yr e
 show call_any_walk (VO p.isList ?_);have hlen:aw.toArray.size=bs.length:=by have:=rv.length;simp at this;simp[this]
 show⟨s.heap.objs.size,_,_,aw.toArray.size,_,_,λi=>bs.getD i false,rfl,Walks.list (by show I.ok.hd hc) s.heap.objs.size a (Yv bA) aw.toArray,⟨6e4,p.isList.push _⟩,?_,?_⟩
 ·intro i v s' Q' E' hv Za
  have hi:i<bs.length:=by
   rw[←hlen];show(Yal.mp hv).1
  obtain⟨u,e1,r1⟩:=rv.get (i:=i) (x:=V.bl bs[i]) (by simp[hi]);have e2:aw[i]? = some v:=by simpa using hv
  rw[e1]at e2;have e3:u=v:=YO e2;have e4:u=Ua bs[i]:=r1;rw[←e3,e4];show VM ?_;have:bs.getD i false=bs[i]:=by rw[Ys,Ye hi];rfl
  have OJ:Q' (bs.getD i false) s':=Za;rw[this]at OJ;show OJ
 ·intro h' tk kk
  show⟨.bl _,H,I.kept λb o e=>kk b o (λz=>?_) (Yb _ e),?_,q⟩
  ·have:b=s.heap.objs.size:=by simpa using z
   show absurd this (Yv (Yr e))
  ·change Ua _=Ua _
   rw[hlen,range_any]
def De:List PV->Option PV
 |[.lst xs]=>(dG xs).map λbs=>.bl (bs.any id)
 |_=>none
theorem Ks:zh X.K (λxs H Q=>∃(a:Addr)(bs:List Bool),xs=[.ref a]/\fy X.K H a (bs.map V.bl)/\Q (.bl (bs.any id)) H) De:=by
 intro ι H C ps vs z Q cr ls e k;ext De e;split at e
 ·rename_i xs
  cases ls with
  |cons l t=>
   cases t;obtain⟨a,ws,rfl,h1,r1⟩:=dC l;cases hb:dG xs with
   |none=>rw[hb]at e;cases e
   |some bs=>
    rw[hb]at e;cases e;show⟨a,bs,rfl,by rw[←ZP r1 hb];show h1,k _ H .refl cr ik⟩
 ·cases e
end
end Pu
namespace Se
open PySem PySem.Spec L2
section
variable{prog:YF}{w:World}{A:Around}{E:1e1}{s:Shared}
theorem TI.fresh(led:Bool):TI (.fresh 0 0 led) #[]:=⟨⟨.inl rfl,rfl,λa b x y _ h=>by simp[SetTable.fresh]at h,rfl,λi j h=>by simp[SetTable.fresh]at h,λi j e h=>by simp[SetTable.fresh]at h⟩,by change 0*5<7*3;decide⟩
end
end Se
namespace Se
open PySem PySem.SetTable
section
variable{α:Type}{M:Model}{A:Around}{E:1e1}
theorem mq{src:Source}{n:Nat}{s:Shared}{Q:Nat->Shared->Prop}(hn:n≠0)(h:∀i d,i<n->Q i {s with drawn:=d}):wpAny M A (choose src n) Q E s:=λΓ p hΓ=>by
 ext choose;rw[Sem.wp_choose];show⟨hn,h _ _ (Vu _ (Nat.pos_of_ne_zero hn))⟩
theorem ZQ:∀{l:List α}{i:Nat}{x:α},l[i]? = some x->(x::l.eraseIdx i).Perm l
 |[],_,_,h=>by simp at h
 |y::l,0,x,h=>by simp at h;subst h;simp
 |y::l,i+1,x,h=>by
  have:=ZQ (l:=l) (i:=i) 7e6;rw[List.eraseIdx_cons_succ];show(List.Perm.swap y x _).trans (this.cons y)
theorem Zco:∀(n:Nat)(xs:List α)(s:Shared)(Q:List α->Shared->Prop),xs.length=n->(∀ys d,ys.Perm xs->Q ys {s with drawn:=d})->wpAny M A (drawOrder n xs) Q E s
 |0,xs,s,Q,hn,h=>by
  have:xs=[]:=WF.mp hn;subst this;ext drawOrder;show Yc (h [] s.drawn (.refl _))
 |n+1,[],s,Q,hn,h=>by simp at hn
 |n+1,x0::xs0,s,Q,hn,h=>by
  ext drawOrder;generalize Lq:x0::xs0=xs at *;show Ya (mq 1e0 λi d hi=>?_);obtain⟨x,hx⟩:∃x,xs[i]? = some x:=⟨_,Ye hi⟩
  rw[hx];sleep 6;show Ya (Zco n (xs.eraseIdx i) _ _ (by rw[Yan hi];lia) λys d' hp=>Yc (h (x::ys) d' ?_));show(hp.cons x).trans (ZQ hx)
theorem vq{next:Nat->Nat}:∀(fuel k:Nat)(left:List α)(out:Array α),left.length=fuel->(pickOrder.go next fuel k left out).toList.Perm (out.toList++left)
 |0,k,left,out,h=>by
  have:left=[]:=WF.mp h;subst this;ext pickOrder.go;simp
 |f+1,k,left,out,h=>by
  ext pickOrder.go;have hi:next k%left.length<left.length:=Vu _ 1e0
  obtain⟨x,hx⟩:∃x,left[next k%left.length]? = some x:=⟨_,Ye hi⟩
  rw[hx];sleep 6;show(vq f (k+1) _ _ (by rw[Yan hi];lia)).trans ?_;rw[UE,Yd];show(ZQ hx).append_left _
theorem xS{next:Nat->Nat}(xs:Array α):(Mg next xs).toList.Perm xs.toList:=by
 have:=vq (next:=next) xs.size 0 xs.toList #[] 2e9;simpa[Mg]using this
end
theorem Di:Slot "set_iterator" "__next__" "set_iterator.__next__":=
 .of (owner:="set_iterator") (n:="__next__") (by rw[Uw,WZ];kernel_rfl) 5e3 5e3 5e3
  (by first|show .inl 5e3|show .inr 5e3) (by rw[V3];kernel_rfl)
theorem Rf:entryFor table "set_iterator.__next__"=some WL.«set_iterator.__next__»:=entryFor_of_tree (by kernel_rfl)
theorem Zbf:Manifest.owners.lookup (String.ofList ['r','o','t','a','r','e','t','i','_','t','e','s'].reverse)=some Manifest.sig_set_iterator:=by kernel_rfl
theorem Rh(a:Value):argsOk "set_iterator.__next__" ⟨[a],[]⟩:=by
 ext argsOk;rw[signature?_of (id:="set_iterator.__next__") (n:=['_','_','t','x','e','n','_','_']) (o:=['r','o','t','a','r','e','t','i','_','t','e','s']) (by kernel_rfl) Zbf];kernel_rfl
theorem ZdH:entryFor table "set.__iter__"=some WL.«frozenset.__iter__»:=entryFor_alias (id':="frozenset.__iter__") (by kernel_rfl) rfl 5e3 (by kernel_rfl)
def aS(h:Heap)(I:Addr)(first:Value)(i:Nat)(a:Addr)(n ep:Nat):Prop:=∃o,h.get? I=some o/\o.cls=.type "set_iterator"/\o.data=.fields #[first,.int i 0,.ref a,.int n 0,.int ep 0]
theorem aS.at{h h':Heap}{I a:Addr}{f:Value}{i n ep:Nat}(x:aS h I f i a n ep)(g:∀o,h.get? I=some o->h'.get? I=some o):aS h' I f i a n ep:=let⟨o,ho,r⟩:=x;⟨o,g _ ho,r⟩
end Se
namespace Se
open PySem PySem.SetTable PySem.W
open PyProof.Rows hiding St Fr
def dY(h:Heap)(a:Addr)(es:6e0)(ep:Nat)(t:X7):Prop:=∃o,h.get? a=some o/\o.ExactSet/\o.data=.set es ep t
theorem dY.at{h h':Heap}{a:Addr}{es:6e0}{ep:Nat}{t:X7}(x:dY h a es ep t)(g:∀o,h.get? a=some o->h'.get? a=some o):dY h' a es ep t:=let⟨o,ho,r⟩:=x;⟨o,g _ ho,r⟩
section
variable{prog:YF}{w:World}{A:Around}{E:1e1}{s:Shared}{I a T:Addr}{es:6e0}{ep i:Nat}{t:X7}
theorem dY.ty(x:dY s.heap a es ep t):s.TypeIs (.ref a) "set":=let⟨o,ho,hc,_⟩:=x;⟨o,ho,hc.1⟩
theorem dY.lt{h:Heap}(x:dY h a es ep t):a<h.objs.size:=let⟨_,ho,_⟩:=x;Yr ho
theorem aS.ty{f:Value}{n:Nat}(x:aS s.heap I f i a n ep):s.TypeIs (.ref I) "set_iterator":=let⟨o,ho,hc,_⟩:=x;⟨o,ho,hc⟩
theorem lB{slot nx:Nat}{x:Value}{Q:8e4}(hit:aS s.heap I (.int slot 0) i a es.size ep)(hm:dY s.heap a es ep t)(hf:t.fits es.size=true)
  (hn:∀(A':Around)(Q':Option (Value×Nat)->Shared->Prop)(E':1e1),Q' (some (x,nx)) s->wpAny 1e3 A' (setNext a slot i ep) Q' E' s)
  (q:∀h',aS h' I (.int nx 0) (i+1) a es.size ep->XJ I s.heap h'->Q (some x) {s with heap:=h'}):wpAny (model prog w) A (pyNext (.ref I)) Q E s:=by
 have Ty:=hit.ty;obtain⟨o,ho,hc,hd⟩:=hit;obtain⟨od,yw,ou,gp⟩:=hm;ext pyNext;show Ya (VT (XC (name:=Vc "__next__") Ty Di (Xl Di Ty Rf ?body (Rh _))))
 case body=>
  unfold WL.«set_iterator.__next__»;show Ya (Yc ?_);show Ya (V5 ho hd ?_);ext PQ;show Ya (Ya (Y8 yw gp hf (Yc ?_)));rw[if_neg 2e9];sleep 6;simp only[Wp];show Ya (hn _ _ _ ?_);sleep 6;show Ya (Wt ho hd 2e9 ?_);have g1:=Xu (Ws (·.setIfInBounds 0 (rawInt nx))) ho (Wx (Xv hd _));have d1:(Ws (·.setIfInBounds 0 (rawInt nx)) o).data=.fields #[.int nx 0,.int i 0,.ref a,.int es.size 0,.int ep 0]:=by rw[Xv hd];simp[rawInt]
  show Ya (Wt (s:={s with heap:=s.heap.update I (Ws (·.setIfInBounds 0 (rawInt nx)))}) g1 d1 (by simp) ?_);have g2:=Xu (Ws (·.setIfInBounds 1 (rawInt ((i:Int)+1)))) g1 (Wx (Xv d1 _));show Yc ⟨_,rfl,Yc (q _ ⟨_,g2,by rw[VV,VV];show hc,by rw[Xv d1];simp[rawInt]⟩ ((Xa ..).trans (Xa ..)))⟩
theorem qk{slot:Nat}{Q:8e4}(hh:5e9)(hit:aS s.heap I (.int slot 0) i a es.size ep)(hm:dY s.heap a es ep t)(hf:t.fits es.size=true)
  (hn:∀(A':Around)(Q':Option (Value×Nat)->Shared->Prop)(E':1e1),Q' none s->wpAny 1e3 A' (setNext a slot i ep) Q' E' s)
  (q:∀h',Mj I s.heap h'->Q none {s with heap:=h'}):wpAny (model prog w) A (pyNext (.ref I)) Q E s:=by
 have Ty:=hit.ty;obtain⟨o,ho,hc,hd⟩:=hit;obtain⟨od,yw,ou,gp⟩:=hm;ext pyNext;show Ya (VT (XC (name:=Vc "__next__") Ty Di (Xl Di Ty Rf ?body (Rh _))))
 case body=>
  unfold WL.«set_iterator.__next__»;show Ya (Yc ?_);show Ya (V5 ho hd ?_);ext PQ;show Ya (Ya (Y8 yw gp hf (Yc ?_)));rw[if_neg 2e9];sleep 6;simp only[Wp];show Ya (hn _ _ _ ?_);sleep 6;show Ya (Wt ho hd 2e9 ?_);have calm:A.in1.handled=none:=hh;have stop:Hx (.type "StopIteration") (.type "StopIteration")=pure true:=Rv;repeat first
   |show Rk ?_
   |show V9 calm ?_
   |apply Ya
   |apply Yc
  show Rx (Yg _ rfl) (Yc ?_);sleep 6;rw[stop];show Yc (Yc (q _ (((Xa ..).extBut.push _).push _)))
theorem A3{places:Array Value}{o':Obj}{pl c:Nat}{e:Int×Value}{Q:8e4}(hit:aS s.heap I (.ref T) i a es.size ep)(hm:dY s.heap a es ep t)(hf:t.fits es.size=true)(hT:s.heap.get? T=some o')(U':o'.data=.seq places c)
  (hp:places[i]? = some (.int pl 0)) (he:es[pl]? = some e)
  (q:∀h',aS h' I (.ref T) (i+1) a es.size ep->XJ I s.heap h'->Q (some e.2) {s with heap:=h'}):wpAny (model prog w) A (pyNext (.ref I)) Q E s:=by
 have Ty:=hit.ty;obtain⟨o,ho,hc,hd⟩:=hit;obtain⟨od,yw,ou,gp⟩:=hm;ext pyNext;show Ya (VT (XC (name:=Vc "__next__") Ty Di (Xl Di Ty Rf ?body (Rh _))))
 case body=>
  unfold WL.«set_iterator.__next__»;show Ya (Yc ?_);show Ya (V5 ho hd ?_);ext PQ;show Ya (Ya (Y8 yw gp hf (Yc ?_)));rw[if_neg 2e9];sleep 6;show Ya (Vv hT U' ?_);simp only[Wp,hp];ext setNextDrawn;show Ya (Ya (Y8 yw gp hf ?_));sleep 6;rw[if_neg 2e9,he];show Yc ?_;show Ya (Wt ho hd 2e9 ?_);have g2:=Xu (Ws (·.setIfInBounds 1 (rawInt ((i:Int)+1)))) ho (Wx (Xv hd _));show Yc ⟨_,rfl,Yc (q _ ⟨_,g2,by rw[VV];show hc,by rw[Xv hd];simp[rawInt]⟩ (Xa ..))⟩
theorem Ft{places:Array Value}{o':Obj}{c:Nat}{Q:8e4}(hh:5e9)(hit:aS s.heap I (.ref T) i a es.size ep)(hm:dY s.heap a es ep t)(hf:t.fits es.size=true)(hT:s.heap.get? T=some o')(U':o'.data=.seq places c)
  (hp:places.size<=i)
  (q:∀h',Mj I s.heap h'->Q none {s with heap:=h'}):wpAny (model prog w) A (pyNext (.ref I)) Q E s:=by
 have Ty:=hit.ty;obtain⟨o,ho,hc,hd⟩:=hit;obtain⟨od,yw,ou,gp⟩:=hm;ext pyNext;show Ya (VT (XC (name:=Vc "__next__") Ty Di (Xl Di Ty Rf ?body (Rh _))))
 case body=>
  unfold WL.«set_iterator.__next__»;show Ya (Yc ?_);show Ya (V5 ho hd ?_);ext PQ;show Ya (Ya (Y8 yw gp hf (Yc ?_)));rw[if_neg 2e9];sleep 6;show Ya (Vv hT U' ?_);simp only[Wp,YN hp];show Ya (Wt ho hd 2e9 ?_);have g1:=Xu (Ws (·.setIfInBounds 0 (rawInt 0))) ho (Wx (Xv hd _));have d1:=Xv hd (·.setIfInBounds 0 (rawInt 0));show Ya (Wt (s:={s with heap:=s.heap.update I (Ws (·.setIfInBounds 0 (rawInt 0)))}) g1 d1 (by simp) ?_);have calm:A.in1.handled=none:=hh;have stop:Hx (.type "StopIteration") (.type "StopIteration")=pure true:=Rv;repeat first
   |show Rk ?_
   |show V9 calm ?_
   |apply Ya
   |apply Yc
  show Rx (Yg _ rfl) (Yc ?_);sleep 6;rw[stop];show Yc (Yc (q _ ((((Xa ..).trans (Xa ..)).extBut.push _).push _)))
theorem Zc1{slot ug:Nat}{Q:Option (Value×Nat)->Shared->Prop}(hb:w.params.followText "set-order"=false)(hm:dY s.heap a es ep t)(hf:t.fits es.size=true)(oq:(!t.plain&&decide (es.size>1))=false)(hl:t.led=true)
  (q:Q (match es[below t.place slot]?,t.place[below t.place slot]? with|some (_,x),some j=>some (x,j+1)|_,_=>none) s):wpAny (model prog w) A (setNext a slot i ug) Q E s:=by
 obtain⟨od,yw,ou,gp⟩:=hm;unfold setNext setsByText;show Ya (Y8 yw gp hf ?_);sleep 6;show Ya (Ya (WT (Yc ?_)));show Ww (λgr=>absurd (gr.symm.trans (show _=false from hb)) 1e7) (λ_=>?_);show Ww (λgr=>absurd (gr.symm.trans (show _=false from oq)) 1e7) (λ_=>?_);show Ya (Ww (λgr=>absurd gr (by rw[hl];simp)) (λ_=>Yc ?_));show Yc q
theorem ZcH{slot:Nat}{Q:Option (Value×Nat)->Shared->Prop}(hb:w.params.followText "set-order"=true)(hm:dY s.heap a es ep t)(hf:t.fits es.size=true)
  (q:Q (((Mg (w.params.setOrder a ep) es)[i]?).map λe=>(e.2,slot)) s):wpAny 1e3 A (setNext a slot i ep) Q E s:=by
 obtain⟨od,yw,ou,gp⟩:=hm;unfold setNext setsByText;show Ya (Y8 yw gp hf ?_);sleep 6;show Ya (Ya (WT (Yc ?_)));show Ww (λ_=>?_) (λgr=>absurd hb gr);show Ww (λgr=>absurd gr 2e9) (λ_=>?_);unfold setWalk setsByText;show Ya (Ya (Y8 yw gp hf ?_));sleep 6;show Ya (Ya (WT (Yc ?_)));show Ww (λ_=>?_) (λgr=>absurd hb gr);show Ya (WT (Yc ?_));show Yc q
end
theorem uG{xs:Array Nat}(hr:aR xs):below xs 0=0:=by
 obtain⟨h1,h2,h3⟩:=QS hr 0;rcases Nat.eq_zero_or_pos (below xs 0)with z|z
 ·show z
 ·have bA:0<xs.size:=YC z h3
  show absurd (h1 0 _ z (Yh bA)) (WK _)
theorem uH{xs:Array Nat}(hr:aR xs){i j:Nat}(e:xs[i]? = some j):below xs (j+1)=i+1:=by
 obtain⟨h1,h2,h3⟩:=QS hr (j+1);rcases VQ (below xs (j+1)) (i+1)with z|z|z
 ·have:=h2 i j 1e0 e;lia
 ·show z
 ·have bA:i+1<xs.size:=YC z h3
  have a:=h1 (i+1) _ z (Yh bA);have b:=hr i (i+1) _ _ 1e0 e (Yh bA);lia
section
variable{prog:YF}{w:World}{A:Around}{E:1e1}{s:Shared}{I a T:Addr}{es:6e0}{ep i:Nat}{t:X7}
abbrev PA(arr:6e0):Nat->Value->Prop:=λi v=>∃e,arr[i]? = some e/\v=e.2
theorem ZaP:Slot "set_iterator" "__iter__" "set_iterator.__iter__":=
 .of (owner:="set_iterator") (n:="__iter__") (by rw[Uw,WZ];kernel_rfl) 5e3 5e3 5e3
  (by first|show .inl 5e3|show .inr 5e3) (by rw[V3];kernel_rfl)
theorem Zby:entryFor table "set_iterator.__iter__"=some WL.«dict_keyiterator.__iter__»:=entryFor_alias (id':="dict_keyiterator.__iter__") (by kernel_rfl) rfl 5e3 (by kernel_rfl)
theorem Zbr(a:Value):argsOk "set_iterator.__iter__" ⟨[a],[]⟩:=by
 ext argsOk;rw[signature?_of (id:="set_iterator.__iter__") (n:=['_','_','r','e','t','i','_','_']) (o:=['r','o','t','a','r','e','t','i','_','t','e','s']) (by kernel_rfl) Zbf];kernel_rfl
theorem Zb1{f:Value}{n:Nat}{Q:1e1}(hit:aS s.heap I f i a n ep)(h:Q (.ref I) s):wpAny 1e3 A (pyIter (.ref I)) Q E s:=by
 show UH hit.ty ZaP (Xl ZaP hit.ty Zby ?_ (Zbr _));change wpAny _ _ (ret (.ref I)) _ _ s;show Yc ⟨_,rfl,"set_iterator",_,hit.ty,Di.lookup,h⟩
theorem zL(hh:5e9)(c9:a≠I)(hb:w.params.followText "set-order"=false)(TT:TI t es)(oq:(!t.plain&&decide (es.size>1))=false)(hl:t.led=true):
  Walks prog w A I [I,a] [I] es.size (PA es) (λi h=>∃slot,aS h I (.int (slot:Nat) 0) i a es.size ep/\dY h a es ep t/\below t.place slot=i) where
 sub:=λb hb=>by rw[Yj.mp hb];show YR
 frame:=λ_ _ _ ⟨slot,h1,h2,h3⟩ hk=>⟨slot,h1.at (hk I 6e7),h2.at (hk a (.tail _ 6e7)),h3⟩
 item:=λi s Q E hi ⟨slot,h1,h2,h3⟩ hQ=>by
  have hf:=TT.fits (XI TT.eo);have ei:es[i]? = some es[i]:=Yh hi;obtain⟨j,ej⟩:∃j,t.place[i]? = some j:=⟨_,Yh (by rw[TT.sz];show hi)⟩
  show lB (x:=es[i].2) (nx:=j+1) h1 h2 hf (λA' Q' E' q=>Zc1 hb h2 hf oq hl ?_) λh' k2 sb=>hQ _ h' s.toks ⟨_,ei,rfl⟩ ⟨_,k2,h2.at λo e=>sb.extBut a o c9 e,uH TT.rs ej⟩ λb o hb e=>sb.extBut b o (λz=>hb (Yj.mpr z)) e;rw[h3,ei,ej];show q
 done:=λs Q E ⟨slot,h1,h2,h3⟩ hQ=>by
  have hf:=TT.fits (XI TT.eo);show qk hh h1 h2 hf (λA' Q' E' q=>Zc1 hb h2 hf oq hl ?_) λh' x=>hQ h' s.toks λb o hb e=>x b o (λz=>hb (Yj.mpr z)) e;rw[h3,YN (Yl _)];show q
 self:=λ_ _ _ _ ⟨slot,h1,_⟩ hQ=>Zb1 h1 hQ
theorem xi(hh:5e9)(c9:a≠I)(hb:w.params.followText "set-order"=true)(TT:TI t es):
  Walks prog w A I [I,a] [I] (Mg (w.params.setOrder a ep) es).size (PA (Mg (w.params.setOrder a ep) es)) (λi h=>aS h I (.int (0:Nat) 0) i a es.size ep/\dY h a es ep t) where
 sub:=λb hb=>by rw[Yj.mp hb];show YR
 frame:=λ_ _ _ ⟨h1,h2⟩ hk=>⟨h1.at (hk I 6e7),h2.at (hk a (.tail _ 6e7))⟩
 item:=λi s Q E hi ⟨h1,h2⟩ hQ=>by
  have hf:=TT.fits (XI TT.eo);have ei:=Yh hi;show lB (x:=(Mg (w.params.setOrder a ep) es)[i].2) (nx:=0) h1 h2 hf (λA' Q' E' q=>ZcH hb h2 hf ?_) λh' k2 sb=>hQ _ h' s.toks ⟨_,ei,rfl⟩ ⟨k2,h2.at λo e=>sb.extBut a o c9 e⟩ λb o hb e=>sb.extBut b o (λz=>hb (Yj.mpr z)) e;rw[ei];show q
 done:=λs Q E ⟨h1,h2⟩ hQ=>by
  have hf:=TT.fits (XI TT.eo);show qk hh h1 h2 hf (λA' Q' E' q=>ZcH hb h2 hf ?_) λh' x=>hQ h' s.toks λb o hb e=>x b o (λz=>hb (Yj.mpr z)) e;rw[YN (Yl _)];show q
 self:=λ_ _ _ _ ⟨h1,_⟩ hQ=>Zb1 h1 hQ
noncomputable def cG (es:6e0)(ys:3e9):Array (Int×Value):=(ys.map λi=>es.getD i (0,.none)).toArray
theorem rM(hh:5e9)(c9:a≠I)(hTI:T≠I)(TT:TI t es){ys:3e9}(hy:∀y∈ys,y<es.size):
  Walks prog w A I [I,a,T] [I] (cG es ys).size (PA (cG es ys)) (λi h=>aS h I (.ref T) i a es.size ep/\dY h a es ep t/\∃o,h.get? T=some o/\∃c,o.data=.seq (ys.map λ(i:Nat)=>rawInt i).toArray c) where
 sub:=λb hb=>by rw[Yj.mp hb];show YR
 frame:=λ_ _ _ ⟨h1,h2,o,h3,h4⟩ hk=>⟨h1.at (hk I 6e7),h2.at (hk a (.tail _ 6e7)),o,hk T (.tail _ (.tail _ 6e7)) _ h3,h4⟩
 item:=λi s Q E hi ⟨h1,h2,o,h3,c,h4⟩ hQ=>by
  have hf:=TT.fits (XI TT.eo);have JI:i<ys.length:=by simpa[cG]using hi
  have bA:ys[i]<es.size:=hy _ (Wh JI);have ei:(cG es ys)[i]? = some es[ys[i]]:=by
   ext cG;rw[X3,Yy,Ye JI];simp[bA]
  show A3 (pl:=ys[i]) (e:=es[ys[i]]) h1 h2 hf h3 h4 (by rw[X3,Yy,Ye JI];rfl) (Yh bA) λh' k2 sb=>hQ _ h' s.toks ⟨_,ei,rfl⟩ ⟨k2,h2.at λo e=>sb.extBut a o c9 e,o,sb.extBut T o hTI h3,c,h4⟩ λb o hb e=>sb.extBut b o (λz=>hb (Yj.mpr z)) e
 done:=λs Q E ⟨h1,h2,o,h3,c,h4⟩ hQ=>by
  have hf:=TT.fits (XI TT.eo);show Ft hh h1 h2 hf h3 h4 (by simp[cG]) λh' x=>hQ h' s.toks λb o hb e=>x b o (λz=>hb (Yj.mpr z)) e
 self:=λ_ _ _ _ ⟨h1,_⟩ hQ=>Zb1 h1 hQ
theorem uu{ys:3e9}(h:ys.Perm (YB es.size)):(cG es ys).toList.Perm es.toList:=by
 ext cG;have q:=h.map λi=>es.getD i (0,Xw);have e:(YB es.size).map (λi=>es.getD i (0,Xw))=es.toList:=by
  apply XA;intro i;rw[Yy];by_cases hi:i<es.size
  ·rw[Vj hi];simp[hi]
  ·rw[YJ 6e3,YJ 6e3];rfl
 rw[e]at q;simpa using q
theorem BE{Q:1e1}(hm:dY s.heap a es ep t)(TT:TI t es)(hl:w.params.followText "set-order"=false->t.led=true)
  (q:∀(I:Addr)(h':Heap)(d:Drawn)(arr:6e0)(fp:2e1)(St:Nat->Heap->Prop),s.heap.objs.size<=I->(∀b∈fp,b=a\/s.heap.objs.size<=b)->(∀b o,s.heap.get? b=some o->h'.get? b=some o)->arr.toList.Perm es.toList->
   (∀A':Around,A'.handled=none->Walks prog w A' I fp [I] arr.size (PA arr) St)->St 0 h'->Q (.ref I) {s with heap:=h',drawn:=d}):wpAny (model prog w) A (pyIter (.ref a)) Q E s:=by
 have Ty:=hm.ty;have hf:=TT.fits (XI TT.eo);have bA:=hm.lt;obtain⟨o,ho,hc,hd⟩:=id hm;show UH Ty F.slot_set_iter (Xl F.slot_set_iter Ty ZdH ?body (F.args_set_iter_1 _))
 case body=>
  unfold WL.«frozenset.__iter__» Builtin.Frozenset.slot0 slotArgs;simp only[List.isEmpty_nil,VW,Yx,↓reduceIte,bind_assoc,Wv,bne_self_eq_false];show Ya (Yc ?_);unfold Builtin.Frozenset.sizeOf PQ Builtin.Frozenset.addrOf;show Ya (Yc ?_);show Ya (Ya (Ya (Y8 ho hd hf (Yc (Yc ?_)))));unfold setDrawn setsByText setEpoch;show Ya (Ya (Y8 ho hd hf ?_));sleep 6;show Ya (Ya (WT (Yc (Yc ?_))));show Ww (λgr=>?_) (λgr=>?_)
  ·show Ya (Zco _ _ _ _ X6 λys d hp=>?_)
   have Lx:es.size<=1000000:=by have:=TT.eo;have:=TT.mm.pos;lia
   have hyl:ys.length=es.size:=by rw[hp.length_eq,X6]
   show Ya (wpAny_newTuple ?_ (by rw[Yi,hyl,YZ];lia));have hoA:(s.heap.push {cls:=.type "tuple",data:=.seq (ys.map λ(i:Nat)=>rawInt i).toArray}).get? a=some o:=Yb _ ho;show Ya (Ya (Y8 (s:={s with drawn:=d,heap:=s.heap.push {cls:=.type "tuple",data:=.seq (ys.map λ(i:Nat)=>rawInt i).toArray}}) hoA hd hf (Yc ?_)));show Ya (XD (Yc ⟨_,rfl,_,_,⟨_,Yg _ rfl,rfl⟩,Di.lookup,?_⟩));generalize Ov:s.heap.push {cls:=.type "tuple",data:=.seq (ys.map λ(i:Nat)=>rawInt i).toArray}=h1;have hz:h1.objs.size=s.heap.objs.size+1:=by rw[←Ov,V1]
   have Tu:h1.get? a=some o:=by rw[←Ov];show hoA
   have W':h1.get? s.heap.objs.size=some {cls:=.type "tuple",data:=.seq (ys.map λ(i:Nat)=>rawInt i).toArray}:=by rw[←Ov];show Yg _ rfl
   show q h1.objs.size _ d (cG es ys) [h1.objs.size,a,s.heap.objs.size] _ 1e0 (λb hb=>?_) (λb u e=>Yb _ (by rw[←Ov];show Yb _ e)) (uu hp) (λA' hh=>rM (t:=t) (ep:=ep) hh (Yv (YC bA (by rw[hz];show PX _))) (by rw[hz];show Yv (Vo _)) TT λy hy=>by have:=hp.mem_iff.mp hy;simpa using this) ⟨⟨_,Yg _ rfl,rfl,by simp[rawInt]⟩,⟨o,Yb _ Tu,hc,hd⟩,_,Yb _ W',0,rfl⟩;simp only[Yk,Xr,or_false]at hb;rcases hb with rfl|rfl|rfl
   ·show .inr 1e0
   ·show .inl rfl
   ·show .inr (Yl _)
  ·show Ya (Yc ?_)
   show Ya (Ya (Y8 ho hd hf (Yc ?_)));show Ya (XD (Yc ⟨_,rfl,_,_,⟨_,Yg _ rfl,rfl⟩,Di.lookup,?_⟩));have Qv:∀b∈[s.heap.objs.size,a],b=a\/s.heap.objs.size<=b:=λb hb=>by
    simp only[Yk,Xr,or_false]at hb;rcases hb with rfl|rfl
    ·show .inr (Yl _)
    ·show .inl rfl
   cases hb:w.params.followText "set-order" with
   |true=>
    show q s.heap.objs.size _ s.drawn _ [s.heap.objs.size,a] _ (Yl _) Qv (λb u e=>Yb _ e) (xS es) (λA' hh=>xi (t:=t) (ep:=ep) hh (Yv bA) hb TT) ⟨⟨_,Yg _ rfl,rfl,by simp[rawInt]⟩,⟨o,Yb _ ho,hc,hd⟩⟩
   |false=>
    have oq:(!t.plain&&decide (es.size>1))=false:=by
     have h2:¬((!w.params.followText "set-order")&&(!t.plain&&decide (es.size>1)))=true:=gr;rw[hb]at h2;simpa using h2
    show q s.heap.objs.size _ s.drawn es [s.heap.objs.size,a] _ (Yl _) Qv (λb u e=>Yb _ e) (.refl _) (λA' hh=>zL (t:=t) (ep:=ep) hh (Yv bA) hb TT oq (hl hb)) ⟨0,⟨_,Yg _ rfl,rfl,by simp[rawInt]⟩,⟨o,Yb _ ho,hc,hd⟩,uG TT.rs⟩
theorem BY{r:Addr}{Q:6e1}(hT:s.TypeIs (.ref r) "set")(h:Q false s):wpAny 1e3 A (WQ (.ref r)) Q E s:=by
 have own:Hx (.type "set") (.type "set")=pure true:=by rw[V3];kernel_rfl
 have parts:∀id,id="set.__len__"->splitId id=some ("set","__len__"):=λid e=>by rw[e];decide +kernel
 delta WQ
 apply Ya;show Vb hT PySem.F.slot_set_len.lookup ?_;generalize en:("set.__len__":String)=nm;sleep 6;rw[parts nm en.symm];subst en;apply Ya;show Ybt hT own ?_;simp only[VW,Yx,if_false];rw[if_pos 5e3];apply Ya;show WX hT (Yc h)
theorem tV{arr:6e0}{acc:Array Value}(h:Ht (PA arr) acc arr.size)(p:arr.toList.Perm es.toList):acc.toList.Perm (es.toList.map (·.2)):=by
 have e:acc.toList=arr.toList.map (·.2):=by
  apply XA;intro i;rw[Yy,YY,YY];by_cases hi:i<arr.size
  ·have rE:i<acc.size:=by rw[h.1];show hi
   obtain⟨x,e1,e2⟩:=h.2 i _ (Yh rE);rw[Yh rE,e1,e2];rfl
  ·have hz:=h.1
   rw[YN (show acc.size<=i by lia),YN (show arr.size<=i by lia)];rfl
 rw[e];show p.map _
theorem MB{S:Addr}{c:Nat}{Q:Unit->Shared->Prop}(yY:s.heap.get? S=some {cls:=.type "list",data:=.seq #[] c})
  (q:∀h' c',h'.get? S=some {cls:=.type "list",data:=.seq #[] c'}->(∀b o,b≠S->s.heap.get? b=some o->h'.get? b=some o)->Q () {s with heap:=h'}):wpAny (model prog w) A (Builtin.List.listTouch (.ref S)) Q E s:=by
 have up:=λ(h:Heap) (o:Obj) (f:Array Value->Array Value) (b:Addr) (n:b≠S) (e:h.get? b=some o)=>(X0 h b S (XS f) n).trans e;have one:=Va (c:="list") yY (·.push Xw);have two:=Va (c:="list") one (·.pop);apply Ya;show RA yY rfl ?_;show RA (hz:=by seq_fits) one rfl ?_;show q _ _ two λb o n e=>up _ o _ b n (up _ o _ b n e)
theorem pU{I S:Addr}{n c:Nat}{P:Nat->Value->Prop}{fp:2e1}{St:Nat->Heap->Prop}{R:7e4}{res:Value}(W:Walks prog w A.in1 I fp [I] n P St)(eo:n<=YA)(off:S∉fp)(st:St 0 s.heap)
  (yY:s.heap.get? S=some {cls:=.type "list",data:=.seq #[] c})
  (q:∀h' tk acc c',(∀b o,b≠S->b≠I->s.heap.get? b=some o->h'.get? b=some o)->h'.get? S=some {cls:=.type "list",dict:=none,data:=.seq acc c',slots:=#[]}->Ht P acc n->R (.ok (.ret res)) {s with heap:=h',toks:=tk}):
  Wm 1e3 A (.builtin "list.extend.loop" ⟨[.ref S,.ref I,res],[]⟩) R s:=by
 show codeAny_extend_loopS W.toS eo S off res n 0 s #[] c rfl (Y4 _) st yY (ItemsOf.nil _) ?_;intro z acc c' mv az items;have e:=Moved.eq_with mv;rw[e];show q _ _ acc c' (λb o n1 n2 x=>mv.heap b o (by simp[n1,n2]) x) az items
theorem uf{R:7e4}(hh:5e9)(hm:dY s.heap a es ep t)(TT:TI t es)(hl:w.params.followText "set-order"=false->t.led=true)(S:Addr)(QA:S≠a)(res:Value)(c₀:Nat)(hS:s.heap.get? S=some {cls:=.type "list",data:=.seq #[] c₀})
  (hR:∀h' d tk ig c',(∀b o,b≠S->s.heap.get? b=some o->h'.get? b=some o)->h'.get? S=some {cls:=.type "list",dict:=none,data:=.seq ig c',slots:=#[]}->ig.toList.Perm (es.toList.map (·.2))->R (.ok (.ret res)) {s with heap:=h',drawn:=d,toks:=tk}):
  wpAny 1e3 A.in1 (XR (.ref S) (.ref a) res)
   (λfin s'=>match fin with|.done f=>R (.ok f) s' | .again c'=>c'.quiet=true/\Wm (model prog w) A c' R s') (λe s'=>R (.error e) s') s:=by
 have small:es.size<=1000000:=by have:=TT.eo;have:=TT.mm.pos;lia
 have other:Wz (.ref S) (.ref a)=false:=by simpa[Wz]using QA
 have kinds:(XW "set"==XW "list")=false/\(XW "set"==XW "tuple")=false:=by decide
 have Vac:=Yr hS
 delta XR
 apply Ya;show WX (T:="set") hm.ty ?_;rw[other,kinds.1,kinds.2];apply Ya;show BE hm TT hl λI h2 d arr fp St hI Qv k2 pm W st=>?_;have off:S∉fp:=λz=>(Qv S z).elim QA λy=>WB _ (YC Vac y);have eo:arr.size<=sizeLine:=by
  have l:=pm.length_eq;rw[Xi,Xi]at l;rw[YZ];lia
 have rest:∀h c1,St 0 h->h.get? S=some {cls:=.type "list",data:=.seq #[] c1}->(∀b o,b≠S->s.heap.get? b=some o->h.get? b=some o)->
   Wm 1e3 A (.builtin "list.extend.loop" ⟨[.ref S,.ref I,res],[]⟩) R {s with heap:=h,drawn:=d}:=λh c1 st1 yY kept=>
  pU (s:={s with heap:=h,drawn:=d}) (W A.in1 hh) eo off st1 yY λh' tk acc c' k a aw=>hR h' d tk acc c' (λb o n e=>k b o n (Yv (YC (Yr e) hI)) (kept b o n e)) a (tV aw pm)
 have quiet:=Us PySem.F.plain_extend_loop ⟨[.ref S,.ref I,res],[]⟩;apply Ya;apply Xf;show BY (s:={s with heap:=h2,drawn:=d}) (dY.ty (s:={s with heap:=h2,drawn:=d}) (hm.at λo e=>k2 _ _ e)) ?_;show Ww (λ_=>?_) λ_=>Yc ⟨quiet,rest h2 c₀ st (k2 _ _ hS) λb o _ e=>k2 b o e⟩;apply Ya;apply WR;apply Ya;show MB (s:={s with heap:=h2,drawn:=d}) (k2 _ _ hS) λh3 c3 a3 k3=>Yc ⟨quiet,rest h3 c3 ?_ a3 λb o n e=>k3 b o n (k2 b o e)⟩;show(W A.in1 hh).frame 0 _ _ st λb hb o e=>k3 b o (λz=>off (z▸hb)) e
theorem Fq{R:7e4}(hh:5e9)(hm:dY s.heap a es ep t)(TT:TI t es)(hl:w.params.followText "set-order"=false->t.led=true)(S:Addr)(QA:S≠a)(c₀:Nat)(hS:s.heap.get? S=some {cls:=.type "list",data:=.seq #[] c₀})
  (hR:∀h' d tk ig c',(∀b o,b≠S->s.heap.get? b=some o->h'.get? b=some o)->h'.get? S=some {cls:=.type "list",dict:=none,data:=.seq ig c',slots:=#[]}->ig.toList.Perm (es.toList.map (·.2))->R (.ok (.ret (.ref S))) {s with heap:=h',drawn:=d,toks:=tk}):
  Wm 1e3 A (.builtin "list.__iadd__" ⟨[.ref S,.ref a],[]⟩) R s:=by
 show XN Ybs ?_;rw[Wg (show plainId "list.__iadd__"=true by decide +kernel) _];show uf hh hm TT hl S QA (.ref S) c₀ hS hR
theorem qE{Q:List Value->Shared->Prop}(hh:5e9)(hm:dY s.heap a es ep t)(TT:TI t es)(hl:w.params.followText "set-order"=false->t.led=true)
  (h:∀h' d tk vs,(∀b o,s.heap.get? b=some o->h'.get? b=some o)->s.heap.objs.size<=h'.objs.size->vs.Perm (es.toList.map (·.2))->Q vs {s with heap:=h',drawn:=d,toks:=tk}):wpAny (model prog w) A (Hu (.ref a)) Q E s:=by
 ext Hu;show Ya (UK (XN UZ ?_));show Ya (Uv (Yc ⟨Ux _ 5e3,?_⟩));have hS:(s.heap.push (seqObj "list" #[] 0)).get? s.heap.objs.size=some {cls:=.type "list",data:=.seq #[] 0}:=Yg _ rfl;show Fq (s:={s with heap:=s.heap.push (seqObj "list" #[] 0)}) hh (hm.at λo e=>Yb _ e) TT hl s.heap.objs.size (XU hm.lt) 0 hS λh' d tk acc c k e ai=>?_;show Ya (wpAny_load e ?_);show Yc (h h' d tk acc.toList (λb o z=>k b o (Yv (Yr z)) (Yb _ z)) (XI (Yr e)) ai)
end
end Se
namespace L2
open PySem PySem.Spec PyProof.Rows Se
section
variable{prog:YF}{w:World}{A:Around}{R:7e4}{s:Shared}{elt t0 i0 t1 i1:Expr}{ifs:3e4}{scope:Scope}{pos:Pos}
abbrev cn(prog:YF)(w:World)(A:Around)(env:Env)(R:7e4):Value->Shared->Prop:=Out prog w A env R
end
section
variable{X:Cx}{elt t0 i0 t1 i1:Expr}{ifs:3e4}{scope:Scope}{pos:Pos}{vs fs:4e3}{fr:3e9}{g0 g1:TG}{wi1:TI}{tt:TT}{te:TE}
noncomputable abbrev Gz (X:Cx):Bool:=!X.w.params.followText "set-order"
end
end L2
namespace Pu
open PySem PySem.Spec PySem.W PySem.Calls L2 Se
open PyProof.Rows hiding St Fr
theorem yW:XB "set"=some (.type "set"):=by decide +kernel
end Pu
namespace Pu
open PySem PySem.Spec PySem.W PySem.Calls L2
open PyProof.Rows hiding St Fr
section
variable{X:Cx}{a b e:Expr}{fa fb:2e3}{pos p:Pos}{es:3e4}{fs:1e9}
theorem ae.rev{K:W.Frag}{ι:2e1}{H:Hp}:∀{ps:List PV}{vs:List V},ae K ι H ps vs->ae K ι H ps.reverse vs.reverse
 |[],vs,r=>by rw[r.fH];show .nil
 |p::ps,vs,r=>by
  obtain⟨v,w,rfl,h1,h2⟩:=r.inv;rw[X5,X5];show(ae.rev h2).append (.cons h1 .nil)
end
end Pu
namespace Pu
open PySem PySem.Spec PySem.W PySem.Calls L2 PySem.SeqAt
open PyProof.Rows hiding St Fr
theorem zD:∀(qs:6e8),bP (qs.map kP)=some qs
 |[]=>rfl
 |q::qs=>by rw[Yq];ext bP;rw[wa,zD qs]
mutual
noncomputable def flat:PV->Bool
 |.lst _=>false
 |.cV _ _=>false
 |.aG _ _=>false
 |.tup xs=>dc xs
 |_=>true
noncomputable def dc:List PV->Bool
 |[]=>true
 |p::r=>flat p&&dc r
end
def qh:PV->Bool
 |.lst ps=>dc ps
 |.cV _ ps=>dc ps
 |.aG _ ps=>dc ps
 |_=>false
section
variable{K:W.Frag}{ι ι':2e1}{H H':Hp}{C:Cs}
mutual
theorem Rep.flat:∀(p:PV)(v:V),Pu.flat p=true->Rep K ι H p v->Rep K ι' H p v
 |.aF,v,_,h=>by unfold Rep at h⊢;show h
 |.bl b,v,_,h=>by unfold Rep at h⊢;show h
 |.int i,v,_,h=>by unfold Rep at h⊢;show h
 |.str x,v,_,h=>by unfold Rep at h⊢;show h
 |.tup ps,v,f,h=>by
  unfold Rep at h⊢;obtain⟨a,vs,e,sq,r⟩:=h;show⟨a,vs,e,sq,ae.flat ps vs (by ext Pu.flat f;show f) r⟩
 |.lst ps,v,f,h=>by ext Pu.flat f;cases f
 |.cV ks ps,v,f,h=>by ext Pu.flat f;cases f
 |.aG ks ps,v,f,h=>by ext Pu.flat f;cases f
 |.fn a,v,_,h=>by unfold Rep at h⊢;show h
 |.ty n,v,_,h=>by unfold Rep at h⊢;show h
theorem ae.flat:∀(ps:List PV)(vs:List V),Pu.dc ps=true->ae K ι H ps vs->ae K ι' H ps vs
 |[],vs,_,h=>by unfold ae at h⊢;show h
 |p::ps,vs,f,h=>by
  unfold ae at h⊢;obtain⟨v,r,e,h1,h2⟩:=h;ext Pu.dc f;rw[YI]at f;show⟨v,r,e,Rep.flat p v f.1 h1,ae.flat ps r f.2 h2⟩
end
theorem aX.flat{a:Addr}{c:PV}(f:qh c=true)(h:aX K ι H a c):aX K ι' H a c:=by
 cases c with
 |lst ps=>obtain⟨vs,e,r⟩:=h;show⟨vs,e,ae.flat _ _ f r⟩
 |cV ks ps=>obtain⟨qs,vs,e,hl,hk,r⟩:=h;show⟨qs,vs,e,hl,hk,ae.flat _ _ f r⟩
 |aG ks ps=>obtain⟨vs,e,hl,r⟩:=h;show⟨vs,e,hl,ae.flat _ _ f r⟩
 |_=>show h.elim
theorem aX.cells{a:Addr}{c:PV}(hs:∀b o,H b=some o->b∉ι->b∉ι')(h:aX K ι H a c):aX K ι' H a c:=by
 cases c with
 |lst ps=>obtain⟨vs,e,r⟩:=h;show⟨vs,e,ae.cells hs _ _ r⟩
 |cV ks ps=>obtain⟨qs,vs,e,hl,hk,r⟩:=h;show⟨qs,vs,e,hl,hk,ae.cells hs _ _ r⟩
 |aG ks ps=>obtain⟨vs,e,hl,r⟩:=h;show⟨vs,e,hl,ae.cells hs _ _ r⟩
 |_=>show h.elim
theorem aX.rep{a:Addr}{c:PV}(JE:a∉ι')(hs:∀b o,H b=some o->b∉ι->b∉ι')(h:aX K ι H a c):Rep K ι' H c (.ref a):=by
 cases c with
 |lst ps=>obtain⟨vs,e,r⟩:=h;ext Rep;show⟨a,vs,rfl,.inl ⟨JE,.inl e⟩,ae.cells hs _ _ r⟩
 |cV ks ps=>obtain⟨qs,vs,e,hl,hk,r⟩:=h;ext Rep;show⟨a,qs,vs,rfl,JE,e,hl,hk,ae.cells hs _ _ r⟩
 |aG ks ps=>obtain⟨vs,e,hl,r⟩:=h;ext Rep;show⟨a,vs,rfl,JE,.inl e,hl,ae.cells hs _ _ r⟩
 |_=>show h.elim
end
noncomputable def pickK (xs:List SV):List Nat->Option (List Nat)
 |[]=>some []
 |i::r=>match xs[i]?,pickK xs r with
  |some (.c k),some ks=>if k∈ks then none else some (k::ks)
  |_,_=>none
noncomputable def cA (C:Cs)(ks:3e9):List SV->Option (List SV)
 |[]=>some []
 |.v p::r=>(cA C ks r).map (.v p::·)
 |.c k::r=>match ks.idxOf? k with
  |some j=>(cA C ks r).map (.c j::·)
  |none=>match C[k]? with
   |some c=>(cA C ks r).map (.v c::·)
   |none=>none
noncomputable def eF (C:Cs):List Nat->Option Cs
 |[]=>some []
 |k::r=>match C[k]?,eF C r with
  |some c,some cs=>some (c::cs)
  |_,_=>none
noncomputable def dH (C:Cs):List Nat->Cs->Cs
 |k::ks,c::cs=>dH (C.set k c) ks cs
 |_,_=>C
section
variable{K:W.Frag}{ι:2e1}{H H':Hp}{C D:Cs}
theorem ZdK:∀{ks:3e9}{D:Cs},eF C ks=some D->D.length=ks.length/\∀(j k:Nat),ks[j]? = some k->∃c,D[j]? = some c/\C[k]? = some c
 |[],D,h=>by cases h;show⟨rfl,λj k e=>by simp at e⟩
 |k::ks,D,h=>by
  ext eF h;split at h
  ·rename_i c cs h1 h2
   cases h;obtain⟨a,b⟩:=ZdK h2;show⟨by simp[a],λj k' e=>?_⟩;cases j with
   |zero=>simp at e;subst e;show⟨c,rfl,h1⟩
   |succ j=>show b j k' (by simpa using e)
  ·cases h
theorem l9:∀{ks:3e9}{C D:Cs},(dH C ks D).length=C.length
 |[],C,D=>by ext dH;rfl
 |k::ks,C,[]=>by ext dH;rfl
 |k::ks,C,c::D=>by ext dH;rw[l9,Uo]
theorem ma:∀{ks:3e9}{C D:Cs},ks.Nodup->D.length=ks.length->(∀k∈ks,k<C.length)->(∀(j k:Nat),ks[j]? = some k->(dH C ks D)[k]? = D[j]?)/\∀(k:Nat),k∉ks->(dH C ks D)[k]? = C[k]?
 |[],C,D,_,_,_=>⟨λj k e=>by simp at e,λk _=>by ext dH;rfl⟩
 |k::ks,C,[],_,h,_=>by simp at h
 |k::ks,C,c::D,nd,h,hl=>by
  rw[Xg]at nd;have ih:=ma (ks:=ks) (C:=C.set k c) (D:=D) nd.2 7e6 (λq hq=>by rw[Uo];show hl q (YK _ hq));ext dH;show⟨λj q e=>?_,λq hq=>?_⟩
  ·cases j with
   |zero=>
    simp at e;subst e;rw[ih.2 k nd.1,Xd (hl k YR)];rfl
   |succ j=>rw[ih.1 j q (by simpa using e)];rfl
  ·rw[Yk,not_or]at hq
   rw[ih.2 q hq.2,Y3 (WC hq.1)]
theorem pz{xs:List SV}{vs:List V}(rs:aU K ι H xs vs):∀{ix ks:3e9},pickK xs ix=some ks->ks.Nodup/\∀k∈ks,k<ι.length
 |[],ks,h=>by cases h;show⟨.nil,λk hk=>by cases hk⟩
 |i::ix,ks,h=>by
  ext pickK h;split at h
  ·rename_i k tP h1 h2
   split at h
   ·cases h
   ·rename_i hn
    cases h;obtain⟨a,b⟩:=pz rs h2;show⟨Xg.mpr ⟨hn,a⟩,λq hq=>?_⟩;rcases Yk.mp hq with rfl|hq
    ·obtain⟨v,_,a,_,e⟩:=aU.get rs h1
     rcases YQ q ι.length with z|z
     ·show z
     ·rw[YS.mpr z]at e;cases e
    ·show b q hq
  ·cases h
noncomputable def addrs (ι:2e1)(ks:3e9):List Addr:=ks.map λk=>ι.getD k 0
theorem ZO{ks:3e9}(hl:∀k∈ks,k<ι.length){j k:Nat}(e:ks[j]? = some k):(addrs ι ks)[j]? = ι[k]?:=by
 ext addrs;rw[Yy,e];have:=hl k (YH e);simp[Ye this]
theorem KG{ks:3e9}(hl:∀k∈ks,k<ι.length){b:Addr}(h:b∈addrs ι ks):∃k∈ks,ι[k]? = some b:=by
 ext addrs h;obtain⟨k,hk,e⟩:=Yz.mp h;show⟨k,hk,?_⟩;have:=hl k hk;simp[Ye this]at e⊢;show e
theorem get_inj(nd:ι.Nodup){j k:Nat}{a:Addr}(h1:ι[j]? = some a)(h2:ι[k]? = some a):j=k:=by
 obtain⟨l1,e1⟩:=Y6.mp h1;obtain⟨l2,e2⟩:=Y6.mp h2;show(UR nd).mp (e1.trans e2.symm)
theorem ZdE(nd:ι.Nodup):∀{ks:3e9},ks.Nodup->(∀k∈ks,k<ι.length)->(addrs ι ks).Nodup
 |[],_,_=>.nil
 |k::ks,h,hl=>by
  rw[Xg]at h;change(ι.getD k 0::addrs ι ks).Nodup;show Xg.mpr ⟨λz=>?_,ZdE nd h.2 λq hq=>hl q (YK _ hq)⟩;obtain⟨q,hq,e⟩:=KG (λq hq=>hl q (YK _ hq)) z;have hk:=hl k YR;have e2:ι[k]? = some (ι.getD k 0):=by simp[Ye hk]
  show h.1 ((get_inj nd e2 e)▸hq)
theorem z9(cr:7e7){ks:3e9}(nd:ks.Nodup)(hl:∀k∈ks,k<ι.length)(e:eF C ks=some D):CR K (addrs ι ks) H D:=by
 obtain⟨l,g⟩:=ZdK e;have hs:∀b o,H b=some o->b∉ι->b∉addrs ι ks:=λb o _ n z=>by
  obtain⟨k,_,q⟩:=KG hl z;show n (YH q)
 show⟨by ext addrs;rw[Yi,l],ZdE cr.nd nd hl,λj a c h1 h2=>?_⟩;have hj:j<ks.length:=by
  rcases YQ j ks.length with z|z
  ·show z
  ·rw[YS.mpr 1e0]at h2;cases h2
 have ek:=Ye hj;rw[ZO hl ek]at h1;obtain⟨c',g1,g2⟩:=g j _ ek;rw[h2]at g1;cases g1;show(cr.ok _ a c h1 g2).cells hs
theorem Q9(cr:7e7){ks:3e9}(hl:∀k∈ks,k<ι.length):∀{xs ys:List SV}{vs:List V},aU K ι H xs vs->cA C ks xs=some ys->aU K (addrs ι ks) H ys vs
 |[],ys,vs,r,e=>by cases e;show r
 |.v p::xs,ys,vs,r,e=>by
  obtain⟨v,w,rfl,h1,h2⟩:=r;ext cA e;cases hq:cA C ks xs with
  |none=>rw[hq]at e;cases e
  |some z=>
   rw[hq]at e;cases e;show⟨v,w,rfl,Rep.cells (λb o _ n z=>by obtain⟨k,_,q⟩:=KG hl z;show n (YH q)) p v h1,Q9 cr hl h2 hq⟩
 |.c k::xs,ys,vs,r,e=>by
  obtain⟨v,w,rfl,⟨a,rfl,ha⟩,h2⟩:=r;ext cA e;cases hi:ks.idxOf? k with
  |some j=>
   rw[hi]at e;cases hq:cA C ks xs with
   |none=>rw[hq]at e;cases e
   |some z=>
    rw[hq]at e;cases e;show⟨.ref a,w,rfl,⟨a,rfl,?_⟩,Q9 cr hl h2 hq⟩;have ej:ks[j]? = some k:=by
     rw[List.idxOf?_eq_some_iff]at hi;obtain⟨h,e,_⟩:=hi;rw[Ye h,e]
    rw[ZO hl ej];show ha
  |none=>
   rw[hi]at e;have hk:k∉ks:=List.idxOf?_eq_none_iff.mp hi;cases hc:C[k]? with
   |none=>rw[hc]at e;cases e
   |some c=>
    rw[hc]at e;cases hq:cA C ks xs with
    |none=>rw[hq]at e;cases e
    |some z=>
     rw[hq]at e;cases e;show⟨.ref a,w,rfl,(cr.ok k a c ha hc).rep (λz=>?_) (λb o _ n z=>by obtain⟨k,_,q⟩:=KG hl z;show n (YH q)),Q9 cr hl h2 hq⟩;obtain⟨k',Om,q⟩:=KG hl z;show hk ((get_inj cr.nd ha q)▸Om)
theorem oN{ks:3e9}(hl:∀k∈ks,k<ι.length)(f:Fr (addrs ι ks) H H'):Fr ι H H':=λb o n e=>f b o (λz=>by obtain⟨k,_,q⟩:=KG hl z;show n (YH q)) e
theorem rY(cr:7e7){ks:3e9}(nd:ks.Nodup)(hl:∀k∈ks,k<ι.length)(f:Fr (addrs ι ks) H H')(c2:CR K (addrs ι ks) H' D)(fl:D.all qh=true):CR K ι H' (dH C ks D):=by
 have Qp:D.length=ks.length:=by rw[←c2.len];ext addrs;rw[Yi]
 obtain⟨g1,g2⟩:=ma (C:=C) (D:=D) nd Qp λk hk=>by rw[←cr.len];show hl k hk
 show⟨by rw[l9];show cr.len,cr.nd,λk a c h1 h2=>?_⟩;by_cases hk:k∈ks
 ·obtain⟨j,hj,e⟩:=XM hk
  have ej:ks[j]? = some k:=by rw[Ye hj,e]
  rw[g1 j k ej]at h2;have:=c2.ok j a c (by rw[ZO hl ej];show h1) h2;show this.flat (YW.mp fl c (YH h2))
 ·rw[g2 k hk]at h2
  show(cr.ok k a c h1 h2).mono cr (oN hl f) λo e=>f a o (λz=>?_) e;obtain⟨k',Om,q⟩:=KG hl z;show hk ((get_inj cr.nd h1 q)▸Om)
end
theorem yj{k:Key}{u:Value}(h:gB k u=true):RelV (kV k) u:=by
 rcases Dh h with⟨i,t,rfl,rfl⟩|⟨x,t,rfl,rfl⟩
 ·show⟨t,rfl⟩
 ·show⟨t,rfl⟩
theorem sO{P:YF}{w:World}{es:List Up}{vs:List (Key×Value)}(h:Pairs (aD P w) es vs):Vals (vs.map λq=>kV q.1) (es.map (·.key)):=by
 induction h with
 |nil=>show .nil
 |cons h1 h2 h3 ih=>show .cons (yj h1) ih
theorem tW{es:Array Up}{acc:Array Value}(h:Ht (λi v=>∃e,es[i]? = some e/\v=e.key) acc es.size):acc.toList=es.toList.map (·.key):=by
 apply XA;intro i;rw[YY,Yy,YY];by_cases hi:i<acc.size
 ·obtain⟨e,e1,e2⟩:=h.2 i _ (Yh hi)
  rw[Yh hi,e2,e1];rfl
 ·have:=h.1
  rw[YN 1e0,YN 1e0];rfl
section
variable{X:Cx}
def Aj(K:W.Frag):List V->Hp->VK->Prop:=λxs H Q=>∃p ag qs ι,xs=[.ref p]/\H p=some (.dK ag)/\(ag.map (·.1)).all keyOk=true/\bN (ag.map λq=>kP q.1)=some qs/\
 ∀zs l,ae K ι H qs zs->H l=none->Q (.ref l) (upd H l (.lst zs))
theorem nS(gQ:5e1)(hu:5e6):cL X (.builtin "sorted") (Aj X.K):=by
 intro pins s σ H xs us Q I r h;obtain⟨p,ag,qs,ι,rfl,hq,JG,hs,q⟩:=h;obtain⟨u,rfl,rx⟩:=vals1 r;cases rx;obtain⟨hz,lo,vs,kv,o,es,ep,ho,hex,zy,hke,hpa,oq⟩:=Cw I.aQ hq;have e1:(ag.map λq=>kV q.1)=(ag.map (·.1)).map kV:=by rw[Xc];rfl
 have TH:(ag.map λq=>kV q.1)=vs.map λq=>kV q.1:=by
  have:=kv.keys;have e2:(vs.map λq=>kV q.1)=(vs.map (·.1)).map kV:=by rw[Xc];rfl
  rw[e1,e2,this]
 have hv:=sO hpa;rw[←TH]at hv;have hl:es.size=ag.length:=by
  have:=hv.length;simpa using this.symm
 show PM hu I hs (λQ' q'=>Zdz (vg (es:=es) (ep:=ep) lo) (I.ok.hd gQ) ⟨o,ho,hex,zy⟩ ?_ λh' tk acc k hle ai=>?_) q
 ·have h1:(ag.map λq=>kP q.1).length<4096:=(L5 hs).2.2.1
  rw[Yi]at h1;rw[YZ];lia
 ·rw[tW ai]
  show q' h' s.drawn tk _ _ _ k hle (.refl _) hv ?_;rw[show(ag.map λq=>kP q.1)=(ag.map (·.1)).map kP by rw[Xc];rfl,e1];show mN JG
def fC(C:Cs):List SV->Option 3e0
 |[x]=>match aM C x with
  |some (.cV ks _)=>match bP ks with
   |some qs=>if qs.all keyOk then bN ks else none
   |none=>none
  |_=>jk C [x]
 |_=>none
def cB(fs:1e9):aq->M 3e0:=λρ=>aI (fs ρ) λxs=>dM λC=>fC C xs
theorem PE.or{e:Expr}{t t':TE}(h:PE X e t)(k:PE X e t'):PE X e λσ H Q=>t σ H Q\/t' σ H Q:=λpins s σ H Q I q=>by
 rcases q with q|q
 ·show h pins s σ H Q I q
 ·show k pins s σ H Q I q
end
end Pu
namespace Pu
open PySem PySem.Spec L2
open PyProof.Rows hiding St Fr
def Je(K:W.Frag)(a:Addr):It:=⟨λi H=>∃xs v,fy K H a xs/\xs[i]? = some v,λi H x H'=>∃b v,H b=none/\x=.ref b/\H'=upd H b (.tup [.int i,v])/\∀xs,fy K H a xs->xs[i]? = some v,
 λi H=>∃xs,fy K H a xs/\xs.length<=i⟩
theorem xn{P:YF}{w:World}{K:W.Frag}{elts:3e4}{x1:Nat}{pos:Pos}{a e it:Addr}(c9:e≠it):Turn P w K (.Tuple elts x1 pos) (Je K a) [e,it] e
  (λi h=>(∃old,IsEnum h e it i old)/\h.IsListIter it a i) where
 mem:=by simp
 obj:=λi h st b hb=>by
  obtain⟨⟨old,he⟩,o,hi,hc,hd⟩:=st;simp only[Yk,Xr,or_false]at hb;rcases hb with rfl|rfl
  ·show⟨_,he,λv q=>by cases q⟩
  ·show⟨o,hi,λv q=>by rw[hd]at q;cases q⟩
 keep:=λi h h' st k=>by
  obtain⟨⟨old,he⟩,hi⟩:=st;show⟨⟨old,k e 2e9 _ he⟩,hi.at λo z=>k it 2e9 o z⟩
 item:=by
  sleep 1;obtain⟨⟨old,he⟩,hi⟩:=st;obtain⟨xs,v,hq,hx⟩:=hg;obtain⟨aw,rv,p,hz⟩:=I.list hq;obtain⟨u,hu,ru⟩:=rv.get hx;show wpAny_pyNext_enum_item he hi p.isList (x:=u) (by simpa using hu) c9 λh' ho JI hT hsz hk=>⟨_,rfl,?_⟩
  show wpAny_letOwnedTupleGo_enum (s:={s with heap:=h',toks:=s.toks+1}) ho λh3 TX sb=>?_;have J1:Inv X pins σ H {s with heap:=h3,toks:=s.toks+1}:=mr (ch:=[e,it]) I (λb o hb z=>by
   simp only[Yk,Xr,or_false,not_or]at hb;show sb.extBut _ _ hb.1 (hk b o hb.1 hb.2 z)) hf
  have bA:∀{b o},s.heap.get? b=some o->b≠s.heap.objs.size:=λe=>Yv (Yr e);have hn:H s.heap.objs.size=none:=I.aQ.fresh (Yl _);have V':=sb.extBut _ _ (bA he).symm hT;have J2:=zR (ob:=.tup [.int i,v]) J1 hn I.sz (XU I.lt) (λx c e=>by obtain⟨v,q⟩:=I.cell x c e;show Yv q.lt) (λp hp=>bA (I.pin p hp).1)
   ⟨by change 2<=YA;rw[YZ];decide,[.int i s.toks,u],.cons ⟨_,rfl⟩ (.cons ru .nil),⟨_,V',rfl,_,rfl⟩⟩
  show⟨.ref s.heap.objs.size,_,J2,rfl,⟨_,v,hn,rfl,rfl,λys hy=>by rw[I.pY hy hq];show hx⟩,⟨⟨_,TX⟩,JI.at λo z=>sb.extBut _ _ c9.symm z⟩,λb hb=>?_⟩;have rG:b≠s.heap.objs.size:=by
   simp only[Yk,Xr,or_false]at hb;rcases hb with rfl|rfl
   ·show bA he
   ·obtain⟨o,z,_⟩:=hi;show bA z
  rw[bf rG];show(hf b hb).1
 done:=by
  sleep 1;obtain⟨⟨old,he⟩,hi⟩:=st;obtain⟨xs,hq,hx⟩:=hg;obtain⟨aw,rv,p,hz⟩:=I.list hq;have hl:=rv.length;show wpAny_pyNext_enum_end (I.ok.hd hc) he hi p.isList 6e3 λh' eb=>⟨rfl,mr (t':=s.toks) (ch:=[e,it]) I (λb o hb z=>?_) hf⟩
  simp only[Yk,Xr,or_false,not_or]at hb;show eb b o hb.2 z
 self:=λ_ _ _ _ _ st h=>by obtain⟨⟨old,he⟩,_⟩:=st;show wpAny_pyIter_enum he h
section
variable{X:Cx}{l:Expr}{elts:3e4}{x1:Nat}{mD p pos:Pos}
def NZ(K:W.Frag)(tl:TA):TI:=λσ H R=>tl σ H λxs H1=>∃a,xs=[.ref a]/\(∃vs,fy K H1 a vs)/\R (Je K a) H1
theorem Eu{tl:TA}(hg:Gl X "enumerate")(hm:X.mg "enumerate"=none)(ha:PA X [l] tl)(hs:Yt [l] X.env=[(false,eval l X.env)]:=by rfl):PI X (.Tuple elts x1 mD) (.Call (.Name "enumerate" p) [l] [] pos) (NZ X.K tl):=by
 intro pins s σ H R I h;show Call_ (FQ I hg hm 1e4 (Xx (bS (ha pos pins s σ H _ I h) λus s1 ⟨vs,H1,I1,r1,q1⟩=>?_) hs rfl));obtain⟨a,rfl,⟨ws,hq⟩,q⟩:=q1;obtain⟨u,rfl,ru⟩:=vals1 r1;cases ru;obtain⟨aw,rv,pl,hz⟩:=I1.list hq;show call_enumerate_list pl.isList λh' he hi hsz k=>?_;have J:Inv X pins σ H1 {s1 with heap:=h'}:=I1.kept (t':=s1.toks) k;show wpAny_pyIter_enum (s:={s1 with heap:=h'}) he ⟨s1.heap.objs.size+1,[s1.heap.objs.size+1,s1.heap.objs.size],_,_,H1,rfl,J,xn (Nat.succ_ne_self _),⟨⟨_,he⟩,hi⟩,λb hb=>?_,q⟩;have rG:s1.heap.objs.size<=b:=by
  simp only[Yk,Xr,or_false]at hb;rcases hb with rfl|rfl<;>lia
 show I1.yB rG (I1.aQ.fresh rG)
noncomputable def jY (xs:List PV):List PV:=(YB xs.length).map λi=>.tup [.int (i:Nat),xs.getD i .aF]
def Co:List SV->Option 3e0
 |[.v (.lst xs)]=>some (jY xs)
 |_=>none
def jI(fs:1e9):aq->M 3e0:=λρ=>aI (fs ρ) λxs=>dM λ_=>Co xs
theorem ZF(xs:List PV):(jY xs).length=xs.length:=by ext jY;simp
theorem yo{K:W.Frag}{ι:2e1}{H:Hp}{C:Cs}{a:Addr}{xs:List PV}{vs:List V}(cr:7e7)(h:Hz K ι H a vs)(r:ae K ι H xs vs):Iter K ι H (jY xs) (Je K a):=by
 have keep:∀ι2 H2,Ex ι ι2 H H2->fy K H2 a vs:=λι2 H2 x=>by
  rcases h with⟨n,q|⟨o,q⟩⟩|q
  ·show .inl (.inl (x.out _ _ n q).2)
  ·show .inl (.inr ⟨o,(x.out _ _ n q).2⟩)
  ·show .inr q
 show⟨λι2 H2 C2 x c i hi=>?_,λι2 H2 C2 x c i v H3 hi y=>?_,λι2 H2 C2 x c=>⟨vs,keep ι2 H2 x,by rw[ZF,r.length];show Yl _⟩⟩
 ·rw[ZF]at hi
  obtain⟨v,e,_⟩:=r.get (Ye hi);show⟨vs,v,keep ι2 H2 x,e⟩
 ·rw[ZF]at hi
  obtain⟨b,w,hn,rfl,rfl,y⟩:=y;obtain⟨p,hp,rp⟩:=r.get' (y vs (keep ι2 _ x));show⟨λc o e=>by rw[bf (gu e hn)];show e,.tup [.int (i:Nat),p],?_,iU hn (.cons ku (.cons (Rep.tr cr x.out p w rp) .nil))⟩;ext jY;simp[hi];rw[Ye hi]at hp;show YO hp
end
def putD(k:Nat)(y v:SV):M Unit:=λC=>match y,v with
 |.v (.tup qs),.v p=>match C[k]?,bP qs with
  |some (.aG ks ps),some key=>if ks.length<1000 then some ((),C.set k (.aG (aO ks key) (bo ks ps key p)))else none
  |_,_=>none
 |_,_=>none
theorem xN{k:Nat}{y v:SV}{C C2:Cs}{u:Unit}(h:putD k y v C=some (u,C2)):∃qs p ks ps key,y=.v (.tup qs)/\v=.v p/\C[k]? = some (.aG ks ps)/\bP qs=some key/\ks.length<1000/\C2=C.set k (.aG (aO ks key) (bo ks ps key p)):=by
 ext putD h;split at h
 ·split at h
  ·split at h
   ·cases h;show⟨_,_,_,_,_,rfl,rfl,by assumption,by assumption,by assumption,rfl⟩
   ·cases h
  ·cases h
 ·cases h
def f'(g:2e7)(tt:4e1)(tk te:2e3)(k:Nat):List PV->aq->M Unit
 |[],_=>ret ()
 |x::xs,ρ=>match g x ρ with
  |none=>λ_=>none
  |some ρ1=>aI (tt ρ1) λb=>if b then aI (tk ρ1) λy=>aI (te ρ1) λv=>aI (putD k y v) λ_=>f' g tt tk te k xs ρ1
   else f' g tt tk te k xs ρ1
def jK(it:7e0)(vs:4e3)(fr:3e9)(g:2e7)(tt:4e1)(tk te:2e3):aq->M SV:=λρ=>aI (it ρ) λxs C=>match f' g tt tk te C.length xs (cX vs fr ρ) (C++[.aG [] []])with
 |some (_,C')=>fin C.length C' 9e7
 |none=>none
theorem ux{K:W.Frag}{it:7e0}{vs:4e3}{fr:3e9}{g:2e7}{tt:4e1}{tk te:2e3}{σ:St}{H:Hp}{Q:VK}{ι:2e1}{ρ:aq}{C C':Cs}{z:SV}(sr:SR K ι H ρ σ C)
  (e:jK it vs fr g tt tk te ρ C=some (z,C')) (q:∀v H',Fr ι H H'->CR K ι H' C'->bC K ι H' z v->Q v H'):zX (MI K it) vs fr (zV K g) (xq K tt) (tM K tk) (tM K te) σ H Q:=by
 obtain⟨xs,C1,e1,e⟩:=bp e;show⟨ι,ρ,C,xs,C1,sr,e1,λJ H1 f1 c1 fW=>?_⟩;intro D hD;cases hc:f' g tt tk te C1.length xs (cX vs fr ρ) (C1++[.aG [] []])with
 |none=>rw[hc]at e;cases e
 |some r=>
 obtain⟨u,C9⟩:=r;rw[hc]at e;replace e:fin C1.length C9 (.c C1.length)=some (z,C'):=e;have x0:Ex ι [D] H1 (upd H1 D (.dT [])):=⟨Fr.new hD,λb hb=>by
  have:b=D:=by simpa using hb
  subst this;show hD⟩
 have c2:CR K (ι++[D]) (upd H1 D (.dT [])) (C1++[.aG [] []]):=c1.add hD ⟨[],fP,rfl,.nil⟩;have zZ:=((sr.step f1 c1).block vs fr).ex x0 c2;have Qr:(ι++[D])[C1.length]? = some D:=by rw[←c1.len];simp
 show⟨λi m σ2 H2=>∃ρ2 C2,m=xs.length-i/\i<=xs.length/\Ex ι [D] H1 H2/\SR K (ι++[D]) H2 ρ2 σ2 C2/\f' g tt tk te C1.length (xs.drop i) ρ2 C2=some (u,C9),⟨xs.length,_,_,rfl,Y4 _,x0,zZ,hc⟩,?_⟩;rintro i m σ2 H2 ⟨ρ2,C2,rfl,rE,x2,fU,e2⟩;rcases YQ i xs.length with bA|Qu
 ·right
  show⟨fW.go [D] H2 C2 x2 fU.cr i bA,λσ' H'=>∃ρ2 C2,Ex ι [D] H1 H'/\SR K (ι++[D]) H' ρ2 σ' C2/\f' g tt tk te C1.length (xs.drop (i+1)) ρ2 C2=some (u,C9),?_,?_⟩
  ·rintro σ' H' ⟨ρ3,C3,x3,Gj,e3⟩
   show⟨xs.length-(i+1),by lia,ρ3,C3,rfl,bA,x3,Gj,e3⟩
  ·intro v H3 y
   obtain⟨sm,qv,hq,rq⟩:=fW.uY [D] H2 C2 x2 fU.cr i v H3 bA y;have hd:xs.drop i=qv::xs.drop (i+1):=by
    rw[Y9 bA];rw[Ye bA]at hq;rw[YO hq]
   rw[hd]at e2;ext f' e2;have nx:∀{Ha Hb:Hp},Ex ι [D] H1 Ha->Fr (ι++[D]) Ha Hb->Ex ι [D] H1 Hb:=λ{Ha Hb} x f=>⟨λb o n e=>f b o (x.out b o n e).1 (x.out b o n e).2,x.2⟩
   have ki:Fr (ι++[D]) H2 H3:=λb o _ z=>sm b o z;have lY:CR K (ι++[D]) H3 C2:=fU.cr.same sm;cases nD:g qv ρ2 with
   |none=>rw[nD]at e2;cases e2
   |some ρ3=>
    rw[nD]at e2;obtain⟨b,C3,e3,e4⟩:=bp e2;show⟨ι++[D],ρ2,C2,qv,ρ3,fU.step ki lY,rq,nD,λσ4 zY=>⟨ι++[D],ρ3,C2,b,C3,zY,e3,λH5 f5 c5=>?_⟩⟩;have x5:=nx (nx x2 ki) f5;have iC:=zY.step f5 c5;cases b with
    |false=>
     rw[if_neg Yw]at e4;sleep 6;rw[if_neg Yw];show⟨ρ3,C3,x5,iC,e4⟩
    |true=>
     rw[if_pos rfl]at e4;sleep 6;rw[if_pos rfl];obtain⟨y1,C4,e5,e6⟩:=bp e4;obtain⟨y2,C5,e7,e8⟩:=bp e6;obtain⟨y3,C6,e9,QJ⟩:=bp e8;obtain⟨qs,p,ks,ps,key,rfl,rfl,wB,gE,hlen,rfl⟩:=xN e9;show⟨ι++[D],ρ3,C3,_,C4,iC,e5,λv6 H6 f6 c6 r6=>⟨ι++[D],ρ3,C4,_,C5,iC.step f6 c6,e7,λv7 H7 f7 c7 r7=>?_⟩⟩;obtain⟨uZ,h1,hl,rv⟩:=(show aX K (ι++[D]) H7 D (.aG ks ps)from c7.ok C1.length D _ Qr wB)
     obtain⟨bk,rfl,hb⟩:=Q3 (show Rep K (ι++[D]) H7 (.tup qs) v6 from Rep.mono c6 f7 _ _ r6) gE;obtain⟨z1,z2⟩:=iP (k:=key) (v:=v7) hl;have Zk:Fr (ι++[D]) H7 (upd H7 D (.dT (putK (ks.zip uZ) key v7))):=λb u n e=>by
      rw[bf (λz=>n (by rw[z];show YH Qr))];show e
     have c8:CR K (ι++[D]) (upd H7 D (.dT (putK (ks.zip uZ) key v7))) (C5.set C1.length (.aG (aO ks key) (bo ks ps key p))):=
      c7.put Qr ⟨bo ks uZ key v7,by rw[←z1];show fP,z2,ae.mono c7 Zk _ _ (jt r7 rv)⟩
     show⟨_,rh.t h1 hb (by rw[WP,YZ];lia),ρ3,_,nx (nx (nx x5 f6) f7) Zk,((iC.step f6 c6).step f7 c7).step Zk c8,QJ⟩
 ·left
  have Fe:i=xs.length:=by lia
  subst Fe;rw[V8]at e2;cases e2;show⟨fW.stop [D] H2 _ x2 fU.cr,?_⟩;obtain⟨c4,r4⟩:=jV fU.cr c1.len (show bC K (ι++[D]) H2 (.c C1.length) (.ref D)from⟨D,rfl,Qr⟩) e;show q _ H2 (f1.trans x2.1) c4 r4
end Pu
namespace Pu
open PySem PySem.W PySem.Calls
open PyProof.Rows hiding St Fr
section
variable{prog:YF}{w:World}{A:Around}{E:1e1}{s:Shared}{d it v:Addr}{es:Array Up}{ep i:Nat}
theorem ll{Q:1e1}(lo:(d==X1)=false)(hm:dI s.heap d es ep)
  (q:Q 4e9 {s with heap:=s.heap.push {cls:=.type "dict_values",data:=.fields #[.ref d]}}):wpAny (model prog w) A (call (.builtin "dict.values") [.ref d]) Q E s:=by
 have T:=hm.ty;have Aa:W0 d=pure ():=by delta W0;simp only[lo];rfl
 apply Xl Uh T PySem.F.entry_dict_values _ (PySem.F.args_dict_values_1 _);show Ya ?_
 delta Builtin.Dict.noArgs
 show Ya (VL T (Yc ?_));show Ya (m:=W0 d) ?_;rw[Aa];show Yc (Ya (XD (Yc ⟨_,rfl,q⟩)))
theorem lb{Q:1e1}(hv:s.heap.IsValuesView v d)(hm:dI s.heap d es ep)
  (q:Q 4e9 {s with heap:=s.heap.push {cls:=.type "dict_valueiterator",data:=.fields #[.ref d,.int 0 0,.int es.size 0,.int ep 0]}}):wpAny (model prog w) A (pyIter (.ref v)) Q E s:=by
 obtain⟨o1,a1,a2,a3⟩:=id hv;obtain⟨o2,b1,b2,b3⟩:=hm;have one:VB "dict_valueiterator"=false:=by decide
 have made:∀{P:1e1}{B:1e1}{A':Around},P 4e9 {s with heap:=s.heap.push {cls:=.type "dict_valueiterator",data:=.fields #[.ref d,.int 0 0,.int es.size 0,.int ep 0]}}->wpAny (model prog w) A' (UQ "dict_valueiterator" d) P B s:=λz=>by
  delta UQ
  apply Ya;show VU b1 b3 ?_;apply Ya;show RB b1 b3 ?_;simp only[one,Yx,if_false];show XD ?_;simpa[rawInt]using z
 have view:∀{P:Addr->Shared->Prop}{B:1e1}{A':Around},P d s->wpAny 1e3 A' (Builtin.Dict_items.dictOf (.ref v)) P B s:=λz=>by
  delta Builtin.Dict_items.dictOf
  apply Ya;show Rj a1 a3 (x:=.ref d) rfl (Yc z)
 apply UH hv.typeIs F.slot_dict_values_iter;apply Xl F.slot_dict_values_iter hv.typeIs F.entry_dict_values_iter _ (F.args_dict_values_iter_1 _)
 delta WL.«dict_values.__iter__»
 apply Ya;apply Yc;apply Ya;apply view;apply Ya;apply made;show Yc ⟨_,rfl,"dict_valueiterator",_,⟨_,Yg _ rfl,rfl⟩,Vd.lookup,q⟩
theorem la{Q:8e4}(hh:5e9)(hit:s.heap.IsValIter it d i es.size ep)(hm:dI s.heap d es ep)
  (q1:∀e,es[i]? = some e->∀h',h'.IsValIter it d (i+1) es.size ep->XJ it s.heap h'->Q (some e.val) {s with heap:=h'})
  (q2:es[i]? = none->∀h',Mj it s.heap h'->Q none {s with heap:=h'}):wpAny (model prog w) A (pyNext (.ref it)) Q E s:=by
 obtain⟨o1,a1,a2,a3⟩:=id hit;obtain⟨o2,b1,b2,b3⟩:=hm;have one:VB "dict_valueiterator"=false:=by decide
 have there:(YU d==Xw)=false:=rfl
 delta pyNext
 apply Ya;apply VT;apply XC (name:=Vc "__next__") hit.typeIs Vd;apply Xl Vd hit.typeIs F.entry_dict_valueiterator_next _ (F.args_dict_valueiterator_next_1 _);repeat first
  |show Vq hit.typeIs ?_
  |show V5 a1 a3 ?_
  |show VU b1 b3 ?_
  |show RB b1 b3 ?_
  |simp only[one,there,bne_self_eq_false,Yx,if_false]
  |apply Ya
  |apply Yc
 have up:¬(i:Int)<0:=by lia
 simp only[up,if_false,Wp];cases hx:es[i]? with
 |some e=>
  have on:(s.heap.update it (Ws (·.setIfInBounds 1 (rawInt ((i:Int)+1))))).IsValIter it d (i+1) es.size ep:=⟨_,Xu _ a1 (Wx (Xv a3 _)),(VV ..).trans a2,by rw[Xv a3];simp[rawInt]⟩
  have ty:({s with heap:=s.heap.update it (Ws (·.setIfInBounds 1 (rawInt ((i:Int)+1))))}:Shared).TypeIs (.ref it) "dict_valueiterator":=Heap.IsValIter.typeIs on;sleep 6;repeat first
   |show Vq hit.typeIs ?_
   |show wpAny_isOneOf_valiter hit.typeIs ?_
   |show wpAny_isOneOf_valiter ty ?_
   |simp only[one,Yx,if_false,XV]
   |show Wt a1 a3 (by simp) ?_
   |apply Xf
   |apply Ya
   |apply Yc
  show⟨_,rfl,Yc (q1 e hx _ on (Xa ..))⟩
 |none=>
  have calm:A.in1.handled=none:=hh;sleep 6;repeat first
   |show Vq hit.typeIs ?_
   |simp only[one,Yx,if_false,XV]
   |show Wt a1 a3 (by simp) ?_
   |show Rk ?_
   |show V9 calm ?_
   |apply Ya
   |apply Yc
  show Rx (Yg _ rfl) (Yc ?_);have stop:Hx (.type "StopIteration") (.type "StopIteration")=pure true:=Rv;sleep 6;rw[stop];show Yc (Yc (q2 hx _ (((Xa ..).extBut.push _).push _)))
theorem lh{e:Up}{Q:8e4}(hh:5e9)(hit:s.heap.IsValIter it d i es.size ep)(hm:dI s.heap d es ep)(hx:es[i]? = some e)
  (q:∀h',h'.IsValIter it d (i+1) es.size ep->XJ it s.heap h'->Q (some e.val) {s with heap:=h'}):wpAny (model prog w) A (pyNext (.ref it)) Q E s:=
 la hh hit hm (λe' z=>by rw[hx]at z;cases z;show q) λz=>by rw[hx]at z;cases z
theorem oY{Q:8e4}(hh:5e9)(hit:s.heap.IsValIter it d i es.size ep)(hm:dI s.heap d es ep)(hx:es.size<=i)
  (q:∀h',Mj it s.heap h'->Q none {s with heap:=h'}):wpAny (model prog w) A (pyNext (.ref it)) Q E s:=
 la hh hit hm (λe' z=>by rw[YN hx]at z;cases z) λ_=>q
theorem sh(hh:5e9)(I:Addr)(c9:d≠I):
  Walks prog w A I [I,d] [I] es.size (λi v=>∃e,es[i]? = some e/\v=e.val) (λi h=>h.IsValIter I d i es.size ep/\dI h d es ep) where
 sub:=λb hb=>by rw[Yj.mp hb];show YR
 frame:=λ_ _ _ st hk=>⟨by obtain⟨o,e,r⟩:=st.1;show⟨o,hk I 6e7 o e,r⟩,st.2.at (hk d (.tail _ 6e7))⟩
 item:=λi s Q E hi st hQ=>by
  have hx:es[i]? = some es[i]:=Yh hi;show lh hh st.1 st.2 hx λh' k2 sb=>hQ _ h' s.toks ⟨_,hx,rfl⟩ ⟨k2,st.2.at λo e=>sb.extBut d o c9 e⟩ λb o hb e=>sb.extBut b o (λz=>hb (Yj.mpr z)) e
 done:=λs Q E st hQ=>oY hh st.1 st.2 (Yl _) λh' x=>hQ h' s.toks λb o hb e=>x b o (λz=>hb (Yj.mpr z)) e
 self:=λi s Q E st hQ=>wpAny_pyIter_valiter st.1 hQ
theorem Ag:KdlSrc prog w "dict_values" v d es.size (λi v=>∃e,es[i]? = some e/\v=e.val) (λh=>h.IsValuesView v d/\dI h d es ep) where
 type:=λ_ hm=>hm.1.typeIs
 there:=λ_ hm=>⟨let⟨_,ho,_⟩:=hm.1;Yr ho,hm.2.lt⟩
 keep:=λ_ _ hm hk=>⟨let⟨o,ho,x⟩:=hm.1;⟨o,hk v 9e6 o ho,x⟩,hm.2.at (hk d (.inr rfl))⟩
 notList:=by decide
 notTuple:=by decide
 hint:=λ_ _ _ _ hm hq=>kdl_hint_values hm.1.typeIs hq
 iter:=λ_ _ hh hm=>⟨_,_,λ_ _ hq=>lb hm.1 hm.2 hq,sh hh _ (Yv hm.2.lt),6e4,hm.2.at λo e=>Yb _ e⟩
end
end Pu
namespace Pu
open PySem PySem.Spec L2
open PyProof.Rows hiding St Fr
section
variable{X:Cx}{e o st:Expr}{fa fo fs:2e3}{p p2 pos apos aV:Pos}
def Ed(C:Cs)(x k:SV):Option 3e0:=match aM C x,k with
 |some (.lst xs),.v (.int i)=>if i=-1 then some xs.reverse else none
 |_,_=>none
def vM(fa fs:2e3):aq->M 3e0:=λρ=>aI (fa ρ) λx=>aI (fs ρ) λk=>dM λC=>Ed C x k
theorem xC{C:Cs}{x k:SV}{z:List PV}(h:Ed C x k=some z):∃xs,aM C x=some (.lst xs)/\k=.v (.int (-1))/\z=xs.reverse:=by
 ext Ed h;split at h
 ·split at h
  ·rename_i hi
   subst hi;cases h;show⟨_,by assumption,rfl,rfl⟩
  ·cases h
 ·cases h
theorem Vals.rev:∀{vs:List V}{us:2e6},Vals vs us->Vals vs.reverse us.reverse
 |_,_,.nil=>.nil
 |_,_,.cons h t=>by rw[X5,X5];show Vals.append (Vals.rev t) (.cons h .nil)
theorem tU{es:Array Up}{acc:Array Value}(h:Ht (λi v=>∃e,es[i]? = some e/\v=e.val) acc es.size):acc.toList=es.toList.map (·.val):=by
 apply XA;intro i;rw[YY,Yy,YY];by_cases hi:i<acc.size
 ·obtain⟨e,e1,e2⟩:=h.2 i _ (Yh hi)
  rw[Yh hi,e2,e1];rfl
 ·have:=h.1
  rw[YN 1e0,YN 1e0];rfl
theorem EX{H:Hp}{ag:3e8}{xs:List 4e5}(r:KT H ag xs):Vals (ag.map (·.2)) (xs.map λx=>x.2.2):=by
 induction r with
 |nil=>show .nil
 |cons a t ih=>show .cons a.2.2 ih
theorem uh{prog:YF}{w:World}(xs:List 4e5):(xs.map (Mi (Vm (aD prog w)))).map (·.val)=xs.map λx=>x.2.2:=by rw[Xc];rfl
def zM(C:Cs)(x:SV):Option 3e0:=match aM C x with
 |some (.aG _ ps)=>if ps.length<=1000 then some ps else none
 |_=>none
def fN(fo:2e3):aq->M 3e0:=λρ=>aI (fo ρ) λx=>dM λC=>zM C x
end
section
variable{X:Cx}
def Nc(K:W.Frag):V->List V->Hp->VK->Prop:=λx vs H Q=>∃l b xs zs,x=.ref l/\vs=[.ref b]/\H l=some (.lst xs)/\fy K H b zs/\xs.length+zs.length<=YA/\Q .aF (upd H l (.lst (xs++zs)))
theorem Zn(l:Addr)(items:Array Value)(n:Nat)(b:Addr)(dE:Array Value)(n2:Nat)(dd:Option Addr)(sl:Array (Option Value))(LC:¬(!items.isEmpty&&W9 (items.size+dE.size))=true)(OC:items.size<=YA)(GF:items.size+dE.size<=YA+1):
  Meets (WL.«list.extend» ⟨[.ref l,.ref b],[]⟩) (λ_ R s=>s.heap.get? l=some {cls:=.type "list",dict:=none,data:=.seq items n,slots:=#[]}/\s.heap.get? b=some {cls:=.type "list",dict:=dd,data:=.seq dE n2,slots:=sl}/\R (.ok (.ret Xw)) {s with heap:=s.heap.update l (XS λx=>x++dE),toks:=s.toks}):=
 .of_wp λprog w A R s h=>by
  obtain⟨hp,g,d,tk,os⟩:=s;obtain⟨hl,hb,h⟩:=h;have f1:=AutoSeq1.idx_int;have f2:=AutoSeq1.sub_tuple_tuple;have f3:=AutoSeq1.sub_list_list;have f4:=AutoSeq1.sub_tuple_list;have f5:=AutoSeq1.sub_list_tuple
  have N3:(items++dE).size<=YA+1:=by rw[Array.size_append];show GF
  wp_walk using(RA hl rfl (hz:=OC) (_hz':=N3)),Ut hl,Ut hb;show⟨_,rfl,h⟩
theorem EK:MtM X "list.extend" (Nc X.K):=by
 intro pins s σ H x vs v us Q I rx rv h;obtain⟨l,b,xs,zs,rfl,rfl,hH,hB,hz,q⟩:=h;cases rx;obtain⟨u,rfl,ru⟩:=rv.one;cases ru;obtain⟨z,aw,n,r,hl,e⟩:=I.I9 hH;obtain⟨hW,r2,Sj,_⟩:=I.list hB;obtain⟨⟨FF,zC,data2,rA⟩,qd,rF,n2,hd2⟩:=id Sj.isList;simp only at rF hd2;subst rF hd2;have h2:=r2.length;have hsz:aw.toArray.size+hW.toArray.size<=sizeLine:=by rw[Yp,Yp];lia
 have Of:¬(!aw.toArray.isEmpty&&W9 (aw.toArray.size+hW.toArray.size))=true:=by
  rw[AZ hsz,Rz];show Yw
 show call_meets F.slot_list_extend ⟨_,e,rfl⟩ F.entry_list_extend (F.args_list_extend_2 _ _)
  (Zn l aw.toArray n b hW.toArray n2 zC rA Of (by rw[Yp];lia) 1e0) ⟨e,qd,?_⟩
 show⟨.aF,_,I.Ja (its':=aw++hW) hH e 2e9 (r.append r2) ?_,rfl,q⟩;rw[Yf];lia
noncomputable def yF (x:SV)(ys:List SV):M SV:=λC=>match x,ys with
 |.c k,[.v (.lst qs)]=>match C[k]? with
  |some (.lst ps)=>if ps.length+qs.length<100000 then some (.v .aF,C.set k (.lst (ps++qs)))else none
  |_=>none
 |_,_=>none
theorem yE{x:SV}{ys:List SV}{C C2:Cs}{r:SV}(h:yF x ys C=some (r,C2)):∃k qs ps,x=.c k/\ys=[.v (.lst qs)]/\C[k]? = some 9e5/\ps.length+qs.length<100000/\r=.v .aF/\C2=C.set k (.lst (ps++qs)):=by
 ext yF h;split at h
 ·split at h
  ·split at h
   ·cases h;show⟨_,_,_,rfl,rfl,by assumption,by assumption,rfl,rfl⟩
   ·cases h
  ·cases h
 ·cases h
def tx(fo:2e3)(fs:1e9):aq->M SV:=λρ=>aI (fo ρ) λx=>aI (fj x) λ_=>aI (fs ρ) λys=>yF x ys
variable{o e:Expr}{es:3e4}{fo:2e3}{fs:1e9}{apos aV:Pos}
end
end Pu
namespace Pu
open PySem PySem.Spec PySem.W PySem.Calls L2 PySem.SeqAt Se
open PyProof.Rows hiding St Fr
theorem mY{α β:Type}{f:α->β}{l₁ l₂:List β}(h:l₁.Perm l₂):∀xs:List α,l₂=xs.map f->∃ys:List α,ys.Perm xs/\l₁=ys.map f:=by
 induction h with
 |nil=>intro xs e;cases xs with
  |nil=>show⟨[],.nil,rfl⟩
  |cons x xs=>simp at e
 |cons x _ ih=>intro xs e;cases xs with
  |nil=>simp at e
  |cons y xs=>
   rw[Yq]at e;obtain⟨e1,e2⟩:=XZ e;subst e1;obtain⟨ys,p,rfl⟩:=ih xs e2;show⟨y::ys,p.cons y,rfl⟩
 |swap x y l=>intro xs e;match xs,e with
  |a::b::r,e=>
   simp only[Yq,VJ]at e;obtain⟨rfl,rfl,rfl⟩:=e;show⟨b::a::r,.swap a b r,rfl⟩
  |[a],e=>simp at e
  |[],e=>simp at e
 |trans _ _ ih1 ih2=>intro xs e;obtain⟨ys,p,rfl⟩:=ih2 xs e;obtain⟨zs,q,e'⟩:=ih1 ys rfl;show⟨zs,q.trans p,e'⟩
end Pu
namespace Pu
open PySem PySem.Spec PySem.W PySem.Calls L2
open PyProof.Rows hiding St Fr
def Bi(F:List SV->M SV)(f:7e0)(gs:1e9):aq->M SV:=λρ=>aI (f ρ) λps C=>match aI (gs ρ) (λxs=>F (.c C.length::xs)) (C++[.lst ps])with
 |some (r,C')=>fin C.length C' r
 |none=>none
section
variable{X:Cx}{e:Expr}{es:3e4}{p pos:Pos}{x:Str}
theorem Cq{k:Nat}{f:Addr}{fd:WD}{ps:4e3}{F:List SV->M SV}{f0:7e0}{gs:1e9}(G:eY X.prog X.w X.K X.mg X.base om k f fd ps (av X.K F))(hr:b9 k X.A)(hg:Gl X x)(hm:X.mg x=some (.ref f))(hk:Hw X.K (.ref f)=true)(hb:Binds X.K fd ps [])
  (h0:FM X e f0) (ha:AM X es gs) (iF:3e2:=by decide) (he:1e5:=by rfl) (cD:2e4:=by rfl):
  EM X 7e1 (Bi F f0 gs):=PE.imp (iQ G hr hg hm hk hb .nil vw (iR h0 ha he) iF he cD) λσ H Q h=>by
 sleep 8;obtain⟨ps,C1,e1,e⟩:=bp e;show⟨ι,ρ,C,ps,C1,sr,e1,λa vs H1 f1 c1 Qz rs=>?_⟩;cases hb:aI (gs ρ) (λxs=>F (.c C1.length::xs)) (C1++[.lst ps])with
 |none=>rw[hb]at e;cases e
 |some r=>
  obtain⟨r,C9⟩:=r;rw[hb]at e;replace e:fin C1.length C9 r=some (z,C'):=e;obtain⟨xs,C2,e2,e3⟩:=bp hb;have c2:CR X.K (ι++[a]) (upd H1 a (.lst vs)) (C1++[.lst ps]):=c1.add Qz ⟨vs,fP,gL c1 Qz ps vs rs⟩;have x0:Ex ι [a] H1 (upd H1 a (.lst vs)):=⟨Fr.new Qz,λb hb=>by
   have:b=a:=by simpa using hb
   subst this;show Qz⟩
  show⟨ι++[a],ρ,C1++[.lst ps],xs,C2,(sr.step f1 c1).ex x0 c2,e2,λws H2 f2 c3 r2=>?_⟩;change av X.K F ((V.ref a::ws)++[]) H2 Q E0;rw[YG];have hk:(ι++[a])[C1.length]? = some a:=by rw[←c1.len];simp
  show⟨ι++[a],.c C1.length::xs,C2,r,C9,c3,⟨_,_,rfl,⟨a,rfl,hk⟩,r2⟩,e3,λv H3 f3 c4 r4=>?_⟩;obtain⟨c5,r5⟩:=jV c4 c1.len r4 e;show q v H3 (λb o n e=>?_) c5 r5;obtain⟨n1,e'⟩:=x0.out b o n (f1 b o n e);show f3 b o n1 (f2 b o n1 e')
end
end Pu
namespace Hd
open PySem PySem.W PySem.Spec PySem.Calls L2 Pu
open PyProof.Rows hiding St Fr
noncomputable def kf (h:Heap)(as:2e1):Frag:=as.filterMap λa=>(h.get? a).map λo=>(a,o)
theorem tQ{h:Heap}:∀{as:2e1}{a:Addr}{o:Obj},(kf h as).lookup a=some o->h.get? a=some o
 |[],_,_,e=>by cases e
 |b::as,a,o,e=>by
  ext kf e;rw[WH]at e;cases g:h.get? b with
  |none=>rw[g]at e;show tQ e
  |some p=>
   rw[g]at e;simp only[VF,Xj]at e;by_cases q:a=b
   ·subst q;rw[beq_self_eq_true]at e;cases e;show g
   ·rw[beq_eq_false_iff_ne.mpr q]at e;show tQ e
theorem kf_in(h:Heap)(as:2e1):(kf h as).In h:=λ_ _ e=>tQ e
theorem kf_at{h:Heap}{a:Addr}{o:Obj}(g:h.get? a=some o):∀{as:2e1},a∈as->(kf h as).lookup a=some o
 |[],m=>by cases m
 |b::as,m=>by
  ext kf;rw[WH];by_cases q:a=b
  ·subst q;rw[g];simp
  ·have m':a∈as:=(Yk.mp m).resolve_left q
   cases g':h.get? b with
   |none=>show kf_at g m'
   |some p=>
    simp only[VF,Xj];rw[beq_eq_false_iff_ne.mpr q];show kf_at g m'
def At(mg:2e5)(h:Heap)(as:2e1)(d:DefRec):Prop:=∃(a c:Addr)(o:Obj)(pm doc:Value),mg d.name=some (.ref a)/\h.get? a=some o/\o.data=.func (docDef d.name d.params d.body d.scope pm (.ref c) doc)/\h.CodeRec (.ref c) d.name/\a∈as/\c∈as
theorem CZ{mg:2e5}{h:Heap}(LR:2e1):∀ds:List DefRec,(∀d∈ds,∃a o pm code doc,mg d.name=some (.ref a)/\h.get? a=some o/\o.data=.func (docDef d.name d.params d.body d.scope pm code doc)/\h.CodeRec code d.name)->
  ∃as:List Addr,(∀a∈LR,a∈as)/\∀d∈ds,At mg h as d
 |[],_=>⟨LR,λ_ m=>m,λ_ m=>nomatch m⟩
 |d::ds,T=>by
  obtain⟨as,h0,ih⟩:=CZ LR ds λe m=>T e (.tail _ m);obtain⟨a,o,pm,cd,doc,h1,h2,h3,h4⟩:=T d 6e7;obtain⟨c,oc,vs,t,rfl,r⟩:=h4;show⟨a::c::as,λb m=>.tail _ (.tail _ (h0 b m)),λe m=>?_⟩;rcases Yk.mp m with rfl|m
  ·show⟨a,c,o,pm,doc,h1,h2,h3,⟨c,oc,vs,t,rfl,r⟩,.head _,.tail _ 6e7⟩
  ·obtain⟨a',c',o',pm',Zt,q1,q2,q3,q4,q5,q6⟩:=ih e m
   show⟨a',c',o',pm',Zt,q1,q2,q3,q4,.tail _ (.tail _ q5),.tail _ (.tail _ q6)⟩
def FnAt(K:Frag)(mg:2e5)(x:Str)(st:Stmt):Prop:=∃f fd,mg x=some (.ref f)/\DR K x x st f fd
noncomputable def four (d:DefRec):Str×Arguments×List Stmt×Scope:=(d.name,d.params,d.body,d.scope)
def B6(p:Str×Stmt):Str×Arguments×List Stmt×Scope:=(p.1,dS p.2,bL p.2,ah p.2)
theorem cu{mg:2e5}{h:Heap}{as:2e1}{ds:List DefRec}{zr:List (Str×Stmt)}(A:∀d∈ds,At mg h as d)(es:ds.map four=zr.map B6)(i:Nat){x:Str}{st:Stmt}(e:zr[i]? = some (x,st)):FnAt (kf h as) mg x st:=by
 have q:(ds.map four)[i]? = some (B6 (x,st)):=by rw[es,Yy,e];rfl
 obtain⟨d,e',q⟩:=XE.mp ((Yy ..).symm.trans q);obtain⟨n,ps,b,sc,p⟩:=d;obtain⟨rfl,q⟩:=Prod.mk.inj q;obtain⟨q1,q⟩:=Prod.mk.inj q;obtain⟨q2,q3⟩:=Prod.mk.inj q;dsimp only at q1 q2 q3;subst q1 q2 q3;obtain⟨a,c,o,pm,doc,h1,h2,h3,h4,h5,h6⟩:=A _ (YH e');obtain⟨c',oc,vs,t,e1,g,hd,hv⟩:=h4;cases e1;obtain⟨cl,dd,dt,sl⟩:=o;cases(show dt=_ from h3);have k1:=kf_at h2 h5;have k2:=kf_at g h6;show⟨a,_,h1,JU (oc:=cl) (od:=dd) (osl:=sl) (kV:=.none) (doc:=doc) (pm:=pm) (an:=none) (ct:=.none) (cdv:=.ref c) k1 ?_ ?_⟩
 ·obtain⟨ocl,odd,odt,osl⟩:=oc
  cases(show odt=_ from hd);ext codeIn;sleep 6;rw[k2];obtain⟨l⟩:=vs
  match l,hv with
  |_::v::r,hv=>
   cases(show v=_ by simpa using hv);simp
 ·ext keepIn
  sleep 6;rw[k1]
theorem HZ{mg:2e5}{x y:Str}(h:∃v,mg x=some v/\∀h':Heap,Reads h' v (.str y) []):∃t,mg x=some (.str y t):=by
 obtain⟨v,e,r⟩:=h;cases r default;show⟨_,e⟩
noncomputable def Kc (s:Stmt):Pos:=match s with
 |.FunctionDef _ _ _ _ _ _ _ _ _ p=>p
 |_=>⟨0,0,0,0⟩
noncomputable def tY (p:YF)(loose:4e3)(x:Str):Bool:=startupNames.contains x||loose.contains x||((recsOf p).map (·.name)).contains x||((litsOf p).map (·.1)).contains x||((clssOf p loose).map (·.name)).contains x
theorem fD{p:YF}{loose:4e3}{SD:ExcName->Option Value}{mg mb:2e5}{h:Heap}(T:Top p loose SD mg mb h){xs:4e3}(e:xs.all (λx=>!tY p loose x)=true)(i:Nat){x:Str}(hx:xs[i]? = some x):mg x=none:=by
 have q:=YW.mp e x (YH hx);ext tY q;simp only[Bool.not_or,YI,Bool.not_eq_true',List.contains_eq_mem,decide_eq_false_iff_not]at q;show T.free x q.1.1.1.1 q.1.1.1.2 q.1.1.2 q.1.2 q.2
noncomputable def z0 (K:Frag):Sp:=λvs H Q _=>∃(a:Addr)(ns:List Int),vs=[.ref a]/\fy K H a (ns.map V.int)/\ns.length<=63/\∀H',Q (.bl true) H'
theorem k8{K:Frag}{ι:2e1}{H:Hp}:∀ns:List Int,ae K ι H (ns.map PV.int) (ns.map V.int)
 |[]=>by ext ae;rfl
 |n::ns=>by
  rw[Yq,Yq];ext ae;show⟨_,_,rfl,by ext Rep;rfl,k8 ns⟩
theorem rV{K:Frag}{F:List SV->M SV}(hF:∀ns:List Int,ns.length<=63->F [.v 4e2] []=some (.v (.bl true),[]))(vs:List V)(H:Hp)(Q:VK)(E:XK)(h:z0 K vs H Q E):av K F vs H Q E:=by
 obtain⟨a,ns,rfl,hS,hl,hQ⟩:=h;show⟨[],[.v 4e2],[],.v (.bl true),[],⟨rfl,List.nodup_nil,λk a c e=>by cases e⟩,?_,hF ns hl,λv H' _ _ r=>?_⟩
 ·ext aU
  show⟨_,_,rfl,?_,by ext aU;rfl⟩;unfold bC Rep;show⟨a,_,rfl,?_,k8 ns⟩;rcases hS with h|h
  ·show .inl ⟨Xr,h⟩
  ·show .inr h
 ·have e:v=.bl true:=by unfold bC Rep at r;show r
  subst e;show hQ H'
theorem walk{l:OpenLaw}{k:Nat}{q:YF}{loose:4e3}{XP:(Str->Option Value)->Heap->Prop}{YP:World->Heap->Prop}{d:DefRec}(hn:l.most=some 63)(qe:d.params.defaults=[])(hr:b9 k KQ)(LR:2e1)
  (F:∀(w:World)(s₀:Shared)(mg mb:2e5)(h:Heap)(as:2e1),Ground q loose [] XP w s₀ mg mb h->YP w h->(∀a∈LR,a∈as)->(∀d∈recsOf q,At mg h as d)->∀fa:Addr,mg d.name=some (.ref fa)->
   ∃fd:WD,(∀(s:Shared)(u:Value),BindsTo s fd ⟨[u],[]⟩ [("_law_script",u)])/\∀base:Heap,eY l.prog w (kf h as) mg base om k fa fd ["_law_script"] (z0 (kf h as))):
  WalkO q loose XP YP l.row.toRowW d [] (λf vs=>PySem.call f vs):=by
 show Att.qS hn qe λw s₀ s₁ mg mb fa o pm cd doc a vs ns G Y ho hd ou Oc JC hints hlen hg=>?_;obtain⟨as,h0,A⟩:=CZ LR (recsOf q) G.T.fn;obtain⟨fd,hb,hF⟩:=F w s₀ mg mb _ as G Y h0 A fa Oc;show Bx (kf_in s₁.heap as) G.T.g G.T.b G.T.builtins G.T.nolimit hg JC hints (Xb hlen 1e7) hr (λbase _ _=>hF base) hb (λH hO hS=>⟨a,ns,rfl,hS,hlen,λ_=>rfl⟩) λH e s' z=>z
end Hd
namespace L2
open PySem PySem.Spec PyProof.Rows
abbrev GT:=TI×TG×TT
noncomputable abbrev lobj (aw:2e6)(k:Nat):Obj:={cls:=.type "list",data:=.seq aw.toArray k}
def xf(te:TE):List GT->List V->St->Hp->(St->List V->Hp->Prop)->Prop
  |[],ys,σ,H,N=>te σ H λy H4=>ys.length<=YA/\N σ (ys++[y]) H4
  | (wi,g,tt)::rest,RH,σ0,H0,N=>wi σ0 H0 λJ H1=>
    ∃W:Nat->Nat->St->List V->Hp->Prop,(∃m,W 0 m σ0 RH H1)/\∀i m σ ys H,W i m σ ys H->
      (J.stop i H/\N σ ys H)\/
      (J.go i H/\∃N1:St->List V->Hp->Prop,(∀σ2 Dx H2,N1 σ2 Dx H2->∃m',m'<m/\W (i+1) m' σ2 Dx H2)/\∀x H',J.uY i H x H'->g x σ H' λσ2 H2=>tt σ2 H2 λb H3=>
        if b=true then xf te rest ys σ2 H3 N1 else N1 σ2 ys H3)
def Du(J:It)(g:TG)(tt:TT)(rest:List GT)(te:TE)(RH:List V)(σ0:St)(H1:Hp)(N:St->List V->Hp->Prop):Prop:=
  ∃W:Nat->Nat->St->List V->Hp->Prop,(∃m,W 0 m σ0 RH H1)/\∀i m σ ys H,W i m σ ys H->
   (J.stop i H/\N σ ys H)\/
   (J.go i H/\∃N1:St->List V->Hp->Prop,(∀σ2 Dx H2,N1 σ2 Dx H2->∃m',m'<m/\W (i+1) m' σ2 Dx H2)/\∀x H',J.uY i H x H'->g x σ H' λσ2 H2=>tt σ2 H2 λb H3=>
    if b=true then xf te rest ys σ2 H3 N1 else N1 σ2 ys H3)
inductive eU(Y:Cx):List Wb->List GT->Prop
 |nil:eU Y [] []
 |cons {t i:Expr} {ifs:List Expr} {gs:List Wb} {wi:TI} {g:TG} {tt:TT} {rs:List GT} (hI:PI Y t i wi) (hG:PG Y t g) (hT:zG Y ifs tt) (hs:∀x,Y5 i Y.env x=pure x) (r:eU Y gs rs):eU Y (⟨t,i,ifs,0⟩::gs) ((wi,g,tt)::rs)
section
variable{prog:YF}{w:World}{A:Around}{R:7e4}{s:Shared}{elt t i:Expr}{ifs:3e4}{gens:List Wb}{scope:Scope}{pos:Pos}{d:Nat}
theorem xm{it:Value}{env:Env}{α:Type}{P Q:Shared->Prop}{z:Shared}{fin:Sem α}{tl:Bool->Sem α}{G:α->Shared->Prop}(h0:∀z1,P z1->wpAny 1e3 A fin G (cn prog w A env R) z1)
  (h:wpAny 1e3 A (pyNext it) (λr z1=>match r with
   |none=>P z1
   |some v=>wpAny (model prog w) A (WI t it v) (λ_ z2=>wpAny (model prog w) A (assign t env v) (λ_ z3=>wpAny (model prog w) A (iL env ifs) (λyes z4=>wpAny (model prog w) A (tl yes) G (cn prog w A env R) z4) (cn prog w A env R) z3) (cn prog w A env R) z2) (cn prog w A env R) z1) (cn prog w A env R) z):
  wpAny 1e3 A (do standAt i.pos;match←pyNext it with|none=>fin|some v=>do WI t it v;assign t env v;let yes ←iL env ifs;tl yes) G (cn prog w A env R) z:=by
 apply Ya;apply VN;apply Ya;show Xk h ?_ λ_ _ e=>e;rintro(_|v) z1 y1
 ·show h0 z1 y1
 apply Ya;show Xk y1 (λ_ z2 y2=>?_) λ_ _ e=>e;apply Ya;show Xk y2 (λ_ z3 y3=>?_) λ_ _ e=>e;apply Ya;show y3
theorem Zcq{it acc:Value}{env:Env}(hg:gens[d]? = some ⟨t,i,ifs,0⟩)(step:(Shared->Prop)->Shared->Prop)
  (N5:(gens[d+1]? = none/\∀P s,step P s->wpAny 1e3 A (eval elt env) (λx s₄=>wpAny 1e3 A (call (.builtin "list.append") [acc,x]) (λ_ s₅=>P s₅) (cn prog w A env R) s₄) (cn prog w A env R) s)\/
   ∃t1 i1 yt,gens[d+1]? = some ⟨t1,i1,yt,0⟩/\(∀x,Y5 i1 env x=pure x)/\∀P s,step P s->wpAny 1e3 A (eval i1 env) (λx s₃=>wpAny 1e3 A (pyIter x) (λSW s₄=>
      Wm (model prog w) A (.compStart (.ListComp elt gens scope pos) (d+1) SW acc env) (λr s₅=>match r with|.ok _=>P s₅ | .error _=>False) s₄)
      (cn prog w A env R) s₃) (cn prog w A env R) s)
  (I:Nat->Shared->Prop)
  (turn:∀k z,I k z->wpAny 1e3 A (pyNext it) (λr z1=>match r with
   |none=>R (.ok .next) z1
   |some v=>wpAny 1e3 A (WI t it v) (λ_ z2=>wpAny 1e3 A (assign t env v) (λ_ z3=>wpAny 1e3 A (iL env ifs) (λyes z4=>
     if yes=true then step (λz5=>∃m,m<k/\I m z5) z4 else ∃m,m<k/\I m z4) (cn prog w A env R) z3) (cn prog w A env R) z2) (cn prog w A env R) z1) (cn prog w A env R) z)
  (n:Nat) (h:I n s):Wm 1e3 A (.compLoop (.ListComp elt gens scope pos) d it acc env) R s:=by
 show codeAny_loop rfl I ?_ n h;intro k z hz;apply wpAny_noted
 delta compTurn
 rcases N5 with⟨hn,t7⟩|⟨t1,i1,yt,hn,Te,t7⟩
 all_goals
  simp only[hg,hn];show xm (P:=λz1=>R (.ok .next) z1) (Q:=λ_=>True) (λz1 y=>Yc y) (Xk (turn k z hz) ?_ λ_ _ e=>e);rintro(_|v) z1 y1
  ·show y1
  show Xk y1 (λ_ z2 y2=>Xk y2 (λ_ z3 y3=>Xk y3 (λyes z4 y4=>?_) λ_ _ e=>e) λ_ _ e=>e) λ_ _ e=>e;by_cases b:yes=true
  case neg=>
   have nb:yes=false:=by simpa using b
   subst nb;show Yc ⟨rfl,y4⟩
  subst b;have y5:=t7 _ _ (show step _ z4 from y4)
 ·apply Ya
  apply Ya;show Xk y5 (λx z5 y6=>?_) λ_ _ e=>e;apply Ya;show Xk y6 (λ_ z6 y7=>Yc (Yc ⟨rfl,y7⟩)) λ_ _ e=>e
 ·apply Ya
  show Xk y5 (λx z5 y6=>?_) λ_ _ e=>e;apply Ya;apply VN;rw[Te];apply Ya;apply Yc;apply Ya;apply Xf;show Xk y6 (λj z6 y7=>?_) λ_ _ e=>e;apply Ya;show wpAny_runOwn (UM y7 ?_);rintro(e|f) z7 y8
  ·show y8.elim
  ·show Yc ⟨rfl,y8⟩
theorem Zdy{it acc:Value}{env:Env}(hg:gens[d]? = some ⟨t,i,ifs,0⟩)
  (h0:Wm 1e3 A (.compLoop (.ListComp elt gens scope pos) d it acc env) R s)
  (h:wpAny 1e3 A (pyIter it) (λj z=>Wm 1e3 A (.compLoop (.ListComp elt gens scope pos) d j acc env) R z) (cn prog w A env R) s):
  Wm 1e3 A (.compStart (.ListComp elt gens scope pos) d it acc env) R s:=by
 have cl:(clausesOf (.ListComp elt gens scope pos))[d]? = some ⟨t,i,ifs,0⟩:=hg;show Yci (wpAny_notedAt ?_)
 delta compStart
 simp only[cl];show Ya (m:=ask) (WT (wpAny_ite ?_));split
 ·first
   |show Yc ⟨rfl,h0⟩
   |show Ya (Yc (Yc ⟨rfl,h0⟩))
 ·show Ya (WR ?_)
  show Ya (m:=standAt _) (VN (Ya (Xk h ?_ λ_ _ e=>e)));show λj z y=>Yc ⟨rfl,y⟩
end
section
variable{Y:Cx}{elt:Expr}{gens:List Wb}{scope:Scope}{pos:Pos}{te:TE}{D:Addr}
theorem runN(eC:Y.calm=true)(eX:Y.xe=λ_ _=>False)(hE:PE Y elt te)(hDl:D≠Y.env.locals)(hDf:D∉Y.fs)(hDe:D∈Y.ex\/Y.s₀.heap.objs.size<=D)(hDc:∀x c,Y.env.cells.lookup x=some c->c≠D)(hDp:∀p∈Y.pn,p.1≠D):
  ∀(rest:List GT)(d:Nat)(t i:Expr)(ifs:3e4)(g:TG)(tt:TT),gens[d]? = some ⟨t,i,ifs,0⟩->PG Y t g->zG Y ifs tt->eU Y (gens.drop (d+1)) rest->
  ∀(pl:1e8)(J:It)(it:Addr)(fp:2e1)(tn:Nat->Heap->Prop)(ys:List V)(aw:2e6)(k:Nat)(σ:St)(H:Hp)(s:Shared)(N:St->List V->Hp->Prop)(R:7e4),
   (∀p∈pl,p.1≠D)->Turn Y.prog Y.w Y.K t J fp it tn->Du J g tt rest te ys σ H N->Inv Y ((D,lobj aw k)::pl) σ H s->Vals ys aw->tn 0 s.heap->(∀b∈fp,eV Y ((D,lobj aw k)::pl) H b)->
   (∀σ' fT its' k' H' s',Inv Y ((D,lobj its' k')::pl) σ' H' s'->Vals fT its'->N σ' fT H'->R (.ok .next) s')->
   Wm (model Y.prog Y.w) Y.A (.compStart (.ListComp elt gens scope pos) d (.ref it) (.ref D) Y.env) R s:=by
 intro rest;induction rest with
 |nil=>
  intro d t i ifs g tt hg hG hT B1 pl J it fp tn ys aw k σ H s N R cD T q I rv st f1 hR;have hn:gens[d+1]? = none:=by
   generalize hz:gens.drop (d+1)=z at B1;cases B1;have:gens.length<=d+1:=by simpa using hz
   show YS.mpr this
  obtain⟨W,⟨m0,w0⟩,turn⟩:=q;have Fl:∀b∈fp,b≠D:=λb hb=>WC ((f1 b hb).2.2.2.2.2 (D,lobj aw k) (Yn _ YR));have fB:∀{H':Hp}{its':2e6}{k':Nat},10e1->∀b∈fp,eV Y ((D,lobj its' k')::pl) H' b:=λ{H' its' k'} hn b hb=>by
   obtain⟨a0,a1,a2,a3,a4,a5⟩:=f1 b hb;show⟨hn b hb,a1,a2,a3,a4,λp hp=>?_⟩;rcases Ym.mp hp with hp|hp
   ·show a5 p (Y2 _ hp)
   ·rcases Yk.mp hp with rfl|hp
    ·show WC (Fl b hb)
    ·show a5 p (Yn _ (YK _ hp))
  have loop:Wm (model Y.prog Y.w) Y.A (.compLoop (.ListComp elt gens scope pos) d (.ref it) (.ref D) Y.env) R s:=by
   show Zcq hg (λP s=>wpAny (model Y.prog Y.w) Y.A (eval elt Y.env) (λx s₄=>wpAny (model Y.prog Y.w) Y.A (call (.builtin "list.append") [.ref D,x]) (λ_ s₅=>P s₅) (cn Y.prog Y.w Y.A Y.env R) s₄) (cn Y.prog Y.w Y.A Y.env R) s) (.inl ⟨hn,λP s h=>h⟩)
    (λn s'=>∃i σ' fT its' k' H',Inv Y ((D,lobj its' k')::pl) σ' H' s'/\Vals fT its'/\tn i s'.heap/\10e1/\W i n σ' fT H') ?_ m0
    ⟨0,σ,ys,aw,k,H,I,rv,st,λb hb=>(f1 b hb).1,w0⟩
   rintro n s3 ⟨i,σ3,DU,nu,k3,H3,J3,Gk,zt,ki,w3⟩;rcases turn i n σ3 DU H3 w3 with⟨stop,qn⟩|⟨go,N1,hN,step⟩
   ·show md (T.done Y rfl rfl rfl eC i _ s3 σ3 H3 (λ_ _=>False) J3 (fB ki) zt stop) λr s4 h_=>?_
    obtain⟨hr,J4⟩:=h_;subst hr;show hR σ3 DU nu k3 H3 s4 J4 Gk qn
   ·show md (T.item Y rfl rfl rfl eC i _ s3 σ3 H3 (λ_ _=>False) J3 (fB ki) zt go) λr s4 h_=>?_
    obtain⟨u,hr,h4⟩:=h_;subst hr;show md h4 λ_ s5 h_=>?_;obtain⟨x,H5,J5,r5,y5,rT,JV⟩:=h_;have P7:=J5.pinned (fB JV) (T.obj _ _ rT);have GP:=hG _ s5 σ3 H5 x u _ P7 r5 (step x H5 y5);rw[eX]at GP;show md GP λ_ s6 h_=>?_;obtain⟨σ6,H6,J6,q6⟩:=h_;have go2:=hT _ s6 σ6 H6 _ J6 q6;rw[eX]at go2;show md go2 λok s7 h_=>?_;obtain⟨H7,J7,q7⟩:=h_;have fin:∀{σ8:St}{H8:Hp}{s8:Shared},Inv Y (((D,lobj nu k3)::pl)++eJ fp s5.heap) σ8 H8 s8->
      tn (i+1) s8.heap/\(∀b∈fp,H8 b=none):=λ{σ8 H8 s8} J8=>by
     show⟨T.keep _ _ _ rT λb hb o e=>(J8.pin (b,o) (Yn _ (Yn _ (Ho hb e)))).1,λb hb=>?_⟩;obtain⟨o,e,d⟩:=T.obj _ _ rT b hb;show(J8.pin (b,o) (Yn _ (Yn _ (Ho hb e)))).2.1
    cases ok with
    |false=>
     rw[if_neg Yw]at q7⊢;obtain⟨m',hm,w7⟩:=hN _ _ _ q7;show⟨m',hm,i+1,σ6,DU,nu,k3,H7,J7.d7,Gk,(fin J7).1,(fin J7).2,w7⟩
    |true=>
     rw[if_pos rfl]at q7⊢;have GO:=hE _ s7 σ6 H7 _ J7 q7;rw[eX]at GO;show md GO λyv s8 h_=>?_;obtain⟨y,H8,J8,r8,hlen,n8⟩:=h_;obtain⟨m',hm,w8⟩:=hN _ _ _ n8;have Sl:=J8.pin (D,lobj nu k3) (Yn _ (Y2 _ YR));show append_at (hsz:=by rw[Yp,←Gk.length];show hlen) Sl.1 λh9 hs9 hD9=>?_;have Jp:Inv Y pl σ6 H8 s8:=J8.dR λp hp=>J8.pin p (Yn _ (Y2 _ (YK _ hp)));have J9:Inv Y pl σ6 H8 {s8 with heap:=h9}:=Jp.turned (t':=s8.toks) (λb o hb e=>(hs9.2 b hb).trans e) Sl.2.1 hDl hDe hDc λp hp=>by
      rcases Ym.mp hp with hp|hp
      ·show hDp p hp
      ·show cD p hp
     show⟨m',hm,i+1,σ6,DU++[y],nu++[yv],k3+1,H8,J9.dR λp hp=>?_,Vals.append Gk (.cons r8 .nil),?_,(fin J8).2,w8⟩
     ·rcases Yk.mp hp with rfl|hp
      ·show⟨by change h9.get? D=_;rw[hD9,List.push_toArray],Sl.2.1,hDl,hDf,λv z=>by cases z⟩
      ·show J9.pin p (Yn _ hp)
     ·show T.keep _ _ _ (fin J8).1 λb hb o e=>(hs9.2 b (Fl b hb)).trans e
  show Zdy hg loop (T.self _ 0 _ _ _ st loop)
 |cons r rest ih=>
  intro d t i ifs g tt hg hG hT B1 pl J it fp tn ys aw k σ H s N R cD T q I rv st f1 hR;generalize hz:gens.drop (d+1)=z at B1;cases B1 with
  |@cons t1 i1 yt QF wi1 g1 tt1 _ hI1 hG1 W' Te r1=>
  have hn:gens[d+1]? = some ⟨t1,i1,yt,0⟩:=by
   have:=congrArg (λl=>l[0]?) hz;simpa using this
  have TN:gens.drop (d+1+1)=QF:=by
   have:=congrArg (λl=>l.drop 1) hz;simpa[V4,Nat.add_comm]using this
  obtain⟨W,⟨m0,w0⟩,turn⟩:=q;have Fl:∀b∈fp,b≠D:=λb hb=>WC ((f1 b hb).2.2.2.2.2 (D,lobj aw k) (Yn _ YR));have fB:∀{H':Hp}{its':2e6}{k':Nat},10e1->∀b∈fp,eV Y ((D,lobj its' k')::pl) H' b:=λ{H' its' k'} hn b hb=>by
   obtain⟨a0,a1,a2,a3,a4,a5⟩:=f1 b hb;show⟨hn b hb,a1,a2,a3,a4,λp hp=>?_⟩;rcases Ym.mp hp with hp|hp
   ·show a5 p (Y2 _ hp)
   ·rcases Yk.mp hp with rfl|hp
    ·show WC (Fl b hb)
    ·show a5 p (Yn _ (YK _ hp))
  have loop:Wm (model Y.prog Y.w) Y.A (.compLoop (.ListComp elt gens scope pos) d (.ref it) (.ref D) Y.env) R s:=by
   show Zcq hg (λP s=>wpAny (model Y.prog Y.w) Y.A (eval i1 Y.env) (λx s₃=>wpAny (model Y.prog Y.w) Y.A (pyIter x) (λSW s₄=>
      Wm (model Y.prog Y.w) Y.A (.compStart (.ListComp elt gens scope pos) (d+1) SW (.ref D) Y.env) (λr s₅=>match r with|.ok _=>P s₅ | .error _=>False) s₄)
      (cn Y.prog Y.w Y.A Y.env R) s₃) (cn Y.prog Y.w Y.A Y.env R) s) (.inr ⟨t1,i1,yt,hn,Te,λP s h=>h⟩)
    (λn s'=>∃i σ' fT its' k' H',Inv Y ((D,lobj its' k')::pl) σ' H' s'/\Vals fT its'/\tn i s'.heap/\10e1/\W i n σ' fT H') ?_ m0
    ⟨0,σ,ys,aw,k,H,I,rv,st,λb hb=>(f1 b hb).1,w0⟩
   rintro n s3 ⟨i,σ3,DU,nu,k3,H3,J3,Gk,zt,ki,w3⟩;rcases turn i n σ3 DU H3 w3 with⟨stop,qn⟩|⟨go,N1,hN,step⟩
   ·show md (T.done Y rfl rfl rfl eC i _ s3 σ3 H3 (λ_ _=>False) J3 (fB ki) zt stop) λr s4 h_=>?_
    obtain⟨hr,J4⟩:=h_;subst hr;show hR σ3 DU nu k3 H3 s4 J4 Gk qn
   ·show md (T.item Y rfl rfl rfl eC i _ s3 σ3 H3 (λ_ _=>False) J3 (fB ki) zt go) λr s4 h_=>?_
    obtain⟨u,hr,h4⟩:=h_;subst hr;show md h4 λ_ s5 h_=>?_;obtain⟨x,H5,J5,r5,y5,rT,JV⟩:=h_;have P7:=J5.pinned (fB JV) (T.obj _ _ rT);have GP:=hG _ s5 σ3 H5 x u _ P7 r5 (step x H5 y5);rw[eX]at GP;show md GP λ_ s6 h_=>?_;obtain⟨σ6,H6,J6,q6⟩:=h_;have go2:=hT _ s6 σ6 H6 _ J6 q6;rw[eX]at go2;show md go2 λok s7 h_=>?_;obtain⟨H7,J7,q7⟩:=h_;have fin:∀{its':2e6}{k':Nat}{σ8:St}{H8:Hp}{s8:Shared},Inv Y ((D,lobj its' k')::(pl++eJ fp s5.heap)) σ8 H8 s8->
      tn (i+1) s8.heap/\(∀b∈fp,H8 b=none):=λ{its' k' σ8 H8 s8} J8=>by
     show⟨T.keep _ _ _ rT λb hb o e=>(J8.pin (b,o) (Yn _ (YK _ (Yn _ (Ho hb e))))).1,λb hb=>?_⟩;obtain⟨o,e,d⟩:=T.obj _ _ rT b hb;show(J8.pin (b,o) (Yn _ (YK _ (Yn _ (Ho hb e))))).2.1
    have un:∀{its':2e6}{k':Nat}{σ8:St}{H8:Hp}{s8:Shared},Inv Y ((D,lobj its' k')::(pl++eJ fp s5.heap)) σ8 H8 s8->Inv Y ((D,lobj its' k')::pl) σ8 H8 s8:=λ{its' k' σ8 H8 s8} J8=>J8.dR λp hp=>J8.pin p (Yn _ (by
     rcases Yk.mp hp with rfl|hp
     ·show YR
     ·show YK _ (Y2 _ hp)))
    cases ok with
    |false=>
     rw[if_neg Yw]at q7⊢;obtain⟨m',hm,w7⟩:=hN _ _ _ q7;show⟨m',hm,i+1,σ6,DU,nu,k3,H7,un J7,Gk,(fin J7).1,(fin J7).2,w7⟩
    |true=>
     rw[if_pos rfl]at q7⊢;have GO:=hI1 _ s7 σ6 H7 _ J7 q7;rw[eX]at GO;show md GO λxv s8 h8=>md h8 λLp s9 h9=>?_;obtain⟨fW,fp1,tn1,J1,H9,e9,J9,T1,st9,f9,q9⟩:=h9;subst e9;show ih (d+1) t1 i1 yt g1 tt1 hn hG1 W' (by rw[TN];show r1) (pl++eJ fp s5.heap) J1 fW fp1 tn1 DU nu k3 σ6 H9 s9 N1 _ (λp hp=>?_) T1 q9 J9 Gk st9 f9 λσ' fT its' k' H' s' J' rv' n'=>?_
     ·rcases Ym.mp hp with hp|hp
      ·show cD p hp
      ·show Fl _ (lA hp).1
     ·obtain⟨m',hm,w'⟩:=hN _ _ _ n'
      show⟨m',hm,i+1,σ',fT,its',k',H',un J',rv',(fin J').1,(fin J').2,w'⟩
  show Zdy hg loop (T.self _ 0 _ _ _ st loop)
end
section
variable{X:Cx}{tg elt iter:Expr}{ifs:3e4}{gs:List Wb}{scope:Scope}{pos:Pos}{vs fs:4e3}{fr:3e9}{g:TG}{tt:TT}{te:TE}{rest:List GT}
def Ds(J:It)(vs:4e3)(fr:3e9)(g:TG)(tt:TT)(rest:List GT)(te:TE)(σ:St)(H1:Hp)(Q:VK):Prop:=
 Du J g tt rest te [] (iB vs fr σ) H1 λ_ ys H=>ys.length<=YA/\∀D,H D=none->Q (.ref D) (upd H D (.lst ys))
theorem Zdx{pins:1e8}{σ:St}{H:Hp}{s:Shared}{Q:VK}{it:Addr}{fp:2e1}{tn:Nat->Heap->Prop}{J:It}{RR:Value->Addr->Result->Shared->Prop}
  (S:8e1) (hc:5e1)
  (bG:∀C s₀ H₀ ex pn,PG 1e2 tg g) (bT:∀C s₀ H₀ ex pn,zG 1e2 ifs tt) (bR:∀C s₀ H₀ ex pn,eU 1e2 gs rest) (bE:∀C s₀ H₀ ex pn,PE 1e2 elt te)
  (I:2e0) (T:Turn X.prog X.w X.K tg J fp it tn) (st:tn 0 s.heap) (hf:∀b∈fp,eV X pins H b)
  (q:Ds J vs fr g tt rest te σ H Q)
  (Y':∀D C H' s' m',Inv X pins σ H' s'->Q (.ref D) H'->s'.heap.Ns C m'->H' C=none->s.heap.objs.size<=C->RR (.ref D) C (.ok .next) s'):
  wpAny 2e2 X.A (newList []) (λacc s₃=>wpAny 2e2 X.A (newFunctionEnv scope X.env.globals (bH X.env.cells scope.names []) [] X.env.qual none .none (some X.env)) (λCQ s₄=>
   Wm (model X.prog X.w) X.A (.compStart (.ListComp elt (⟨tg,iter,ifs,0⟩::gs) scope pos) 0 (.ref it) acc {CQ with scope:=relabel scope X.env}) (RR acc CQ.locals) s₄) X.xe s₃) X.xe s:=by
 show XD (wpAny_newFunctionEnv S.CT (by intro y hy;simp at hy) (λh₁ hns₁ hsb₁=>?_) S.kind);dsimp only at hns₁ hsb₁⊢;generalize LF:s.heap.push {cls:=.type "list",dict:=none,data:=.seq ([]:List Value).toArray}=H2 at hns₁ hsb₁⊢;have QD:H2.objs.size=s.heap.objs.size+1:=by rw[←LF,V1]
 have QC:s.heap.objs.size≠H2.objs.size:=by rw[QD];show Yv (Vo _)
 have Fg:s.heap.objs.size<=H2.objs.size:=by rw[QD];show PX _
 have old:∀b o,s.heap.get? b=some o->h₁.get? b=some o:=λb o e=>hsb₁.extBut b o (zd e Fg) (Yb _ (LF▸Yb _ e));have B4:h₁.get? s.heap.objs.size=some {cls:=.type "list",data:=.seq ([]:List Value).toArray 0}:=hsb₁.extBut _ _ QC (Yb _ (LF▸Yg _ rfl));have GK:∀b∈fp,∃o,s.heap.get? b=some o:=λb hb=>by obtain⟨o,e,_⟩:=T.obj 0 _ st b hb;show⟨o,e⟩
 generalize hY:dZ X (vs++fs) scope H2.objs.size s H fp (X.pn++pins)=Y;have J0:Inv Y [] (iB vs fr σ) H {s with heap:=h₁,toks:=s.toks+([]:List (Str×Value)).length}:=by
  rw[←hY];show ZdZ S I hf GK Fg hns₁ old
 have hG:PG Y tg g:=by rw[←hY];show bG _ _ _ _ _
 have hGs:eU Y gs rest:=by rw[←hY];show bR _ _ _ _ _
 have hT:zG Y ifs tt:=by rw[←hY];show bT _ _ _ _ _
 have hE:PE Y elt te:=by rw[←hY];show bE _ _ _ _ _
 have G2:Y.prog=X.prog:=by rw[←hY];rfl
 have eW:Y.w=X.w:=by rw[←hY];rfl
 have eK:Y.K=X.K:=by rw[←hY];rfl
 have eA:Y.A=X.A:=by rw[←hY];rfl
 have eC:Y.calm=true:=by rw[←hY];show hc
 have ur:Y.env=compEnvC scope (bH X.env.cells scope.names []) H2.objs.size X.env:=by rw[←hY];rfl
 have eL:Y.env.locals=H2.objs.size:=by rw[ur];rfl
 have eX:Y.xe=λ_ _=>False:=by rw[←hY];rfl
 have eS:Y.s₀=s:=by rw[←hY];rfl
 have Zs:Y.ex=fp:=by rw[←hY];rfl
 have QH:Y.fs=ua X.stack:=by rw[←hY];rfl
 have QG:Y.pn=X.pn++pins:=by rw[←hY];rfl
 have QI:∀x c,Y.env.cells.lookup x=some c->X.env.cells.lookup x=some c:=λx c e=>by
  rw[ur]at e;show S.cl I.ok e
 have CS:∀x c,Y.env.cells.lookup x=some c->c≠s.heap.objs.size:=λx c e=>by
  obtain⟨v,z⟩:=I.cell x c (QI x c e);show Yv z.lt
 have Si:∀p∈Y.pn,p.1≠s.heap.objs.size:=λp hp=>by
  rw[QG]at hp;show zd (I.pin p hp).1 (Yl _)
 have Fl:∀b∈fp,b≠s.heap.objs.size:=λb hb=>by obtain⟨o,e⟩:=GK b hb;show zd e (Yl _)
 have OL:s.heap.objs.size∉Y.fs:=λz=>by
  rw[QH]at z;rcases Yk.mp (I.g9 _ z)with z|z
  ·show absurd I.lt (by rw[←z];show WB _)
  ·show I.IK (Yl _) z
 have fB:∀{H':Hp}{o:Obj},10e1->∀b∈fp,eV Y [(s.heap.objs.size,o)] H' b:=λ{H' o} hn b hb=>by
  obtain⟨f0,f1,f2,f3,f4,f5⟩:=hf b hb;obtain⟨ob,e⟩:=GK b hb;show⟨hn b hb,by rw[eL];show zd e Fg,λz=>?_,.inl (by rw[Zs];show hb),λx c e=>f4 x c (QI x c e),λp hp=>?_⟩
  ·rw[QH]at z
   rcases Yk.mp (I.g9 _ z)with z|z
   ·show f1 z
   ·show f2 z
  ·rcases Ym.mp hp with hp|hp
   ·rw[QG]at hp;show f5 p hp
   ·have:p=(s.heap.objs.size,o):=by simpa using hp
    rw[this];show WC (Fl b hb)
 have Sk:∀{σ':St}{H':Hp}{s':Shared}{aw:2e6}{k:Nat},Inv Y [] σ' H' s'->H' s.heap.objs.size=none->s'.heap.get? s.heap.objs.size=some {cls:=.type "list",data:=.seq aw.toArray k}->
   Inv Y [(s.heap.objs.size,{cls:=.type "list",data:=.seq aw.toArray k})] σ' H' s':=λ{σ' H' s' aw k} i hn e=>i.dR λp hp=>by
  have:p=(s.heap.objs.size,{cls:=.type "list",data:=.seq aw.toArray k}):=by simpa using hp
  subst this;show⟨e,hn,by rw[eL];show QC,OL,λv z=>by cases z⟩
 have T':Turn Y.prog Y.w Y.K tg J fp it tn:=by rw[G2,eW,eK];show T
 have run:∀s₃:Shared,s₃={s with heap:=h₁,toks:=s.toks+([]:List (Str×Value)).length}->
   Wm 2e2 X.A (.compStart (.ListComp elt (9e0::gs) scope pos) 0 (.ref it) 4e9 (compEnvC scope (bH X.env.cells scope.names []) H2.objs.size X.env))
    (RR 4e9 H2.objs.size) s₃:=by
  rintro s₃ rfl;rw[←ur,←G2,←eW,←eA];show runN (gens:=9e0::gs) (D:=s.heap.objs.size) eC eX hE (by rw[eL];show QC) OL (.inr (by rw[eS];show Yl _)) CS Si rest 0 tg iter ifs g tt rfl hG hT hGs [] J it fp tn [] [] 0 (iB vs fr σ) H _ _ _ (λp hp=>(nomatch hp)) T' q (Sk J0 (I.aQ.fresh (Yl _)) B4) .nil (T.keep _ _ _ st λb _ o e=>old b o e) (fB λb hb=>(hf b hb).1) λσ' ys aw k H3 s4 J4 rv qn=>?_;have Sm:=J4.pin (s.heap.objs.size,_) (Yn _ (Yj.mpr rfl));obtain⟨m4,Od,_⟩:=id J4.loc;rw[eL]at Od;have nC:H3 H2.objs.size=none:=by rw[←eL];show J4.free
  show Y' _ _ _ s4 m4 (comp_back I hf (by rw[hY];show J4) (Yl _) Sm.2.1 qn.1 rv Sm.1) (qn.2 _ Sm.2.1) Od ?_ Fg;rw[bf (WC QC)];show nC
 show run _ rfl
noncomputable def rS (wi:TI)(vs:4e3)(fr:3e9)(g:TG)(tt:TT)(rest:List GT)(te:TE):TE:=λσ H Q=>wi σ H λJ H1=>Ds J vs fr g tt rest te σ H1 Q
theorem jB{wi:TI}(S:8e1)(hc:5e1)(hi:PI X tg iter wi)
  (bG:∀C s₀ H₀ ex pn,PG 1e2 tg g) (bT:∀C s₀ H₀ ex pn,zG 1e2 ifs tt) (bR:∀C s₀ H₀ ex pn,eU 1e2 gs rest) (bE:∀C s₀ H₀ ex pn,PE 1e2 elt te)
  (hs:9e3:=by intro _;rfl):
  PE X (.ListComp elt (9e0::gs) scope pos) (rS wi vs fr g tt rest te):=by
 intro pins s σ H Q I h;rw[eval_ListComp];show Ud (use:=none) rfl hs (ZY (S.FG I.ok)) S.kind S.Jd (bS (hi pins s σ H _ I h) λv s1 h1=>bS h1 λLp s2 h2=>?_);obtain⟨it,fp,tn,J,H2,e,I2,T,iM,f2,q2⟩:=h2;subst e;show Zdx (RR:=λacc C=>compPost 2e2 X.A X.xe none (EP X pins σ Q) acc C) S hc bG bT bR bE I2 T iM f2 q2 ?_;intro D C H' s' m' I' hq hn hC hle;show⟨m',hn,λh' ed=>⟨.ref D,H',?_,rfl,hq⟩⟩;show I'.turned (t':=s'.toks) (λb o hb e=>(ed.2 b hb).trans e) hC ?_ (.inr (Xb I2.sz hle)) ?_ ?_
 ·show XU (YC I2.lt hle)
 ·intro x c e
  obtain⟨v,z⟩:=I2.cell x c e;show Yv (YC z.lt hle)
 ·intro p hp
  show zd (I2.pin p hp).1 hle
end
end L2
namespace Pu
open PySem PySem.Spec PySem.W PySem.Calls L2
open PyProof.Rows hiding St Fr
def cU(P:YF)(w:World)(K:W.Frag)(mg:2e5)(base:Heap)(k:Nat)(x:Str)(ps:4e3)(S:Sp):Prop:=∃(f:Addr)(fd:WD),eY P w K mg base om k f fd ps S/\mg x=some (.ref f)/\Hw K (.ref f)=true/\Binds K fd ps []
section
variable{prog:YF}{w:World}{A:Around}{E:1e1}{s:Shared}{I l:Addr}{items:Array Value}
theorem BZ{Q:6e1}{i:Int}(hit:s.heap.IsRevIter I l i)(h:Q false s):wpAny 1e3 A (WQ (.ref I)) Q E s:=by
 have IP:typeLookup (.type "list_reverseiterator") "__len__"=pure none:=by rw[Uw,WZ];kernel_rfl
 have hint:typeLookup (.type "list_reverseiterator") "__length_hint__"=pure (some (.builtin "list_reverseiterator.__length_hint__")):=by rw[Uw,WZ];kernel_rfl
 have own:Hx (.type "list_reverseiterator") (.type "list_reverseiterator")=pure true:=by rw[V3];kernel_rfl
 have parts:∀id,id="list_reverseiterator.__length_hint__"->splitId id=some ("list_reverseiterator","__length_hint__"):=λid e=>by rw[e];decide +kernel
 delta WQ
 apply Ya;show Vb hit.typeIs IP ?_;sleep 6;rw[if_neg 1e7,if_neg 1e7];apply Ya;show Vb hit.typeIs hint ?_;generalize en:("list_reverseiterator.__length_hint__":String)=nm;sleep 6;rw[parts nm en.symm];subst en;apply Ya;show Ybt hit.typeIs own ?_;simp only[VW,Yx,if_false];rw[if_pos 5e3,if_neg 1e7];show Yc h
theorem xB{acc:Array Value}(h:Ht (λi v=>items[items.size-1-i]? = some v) acc items.size):acc.toList=items.toList.reverse:=by
 apply XA;intro i;rw[YY];have hz:=h.1;by_cases hi:i<items.size
 ·have e:=h.2 i _ (Yh 1e0)
  rw[Yh 1e0,List.getElem?_reverse (by simpa using hi),Xi,YY,e]
 ·rw[YN 1e0,YJ 6e3]
theorem sg{R:7e4}(hh:5e9)(hit:s.heap.IsRevIter I l ((items.size:Int)-1))(hl:s.heap.IsList l items)(S:Addr)(OG:S≠I)(LD:S≠l)(Zc:l≠I)(res:Value)(c₀:Nat)(hS:s.heap.get? S=some {cls:=.type "list",data:=.seq #[] c₀})(hn:items.size<=YA)
  (hR:∀h' tk ig c',(∀b o,b≠S->b≠I->s.heap.get? b=some o->h'.get? b=some o)->h'.get? S=some {cls:=.type "list",dict:=none,data:=.seq ig c',slots:=#[]}->ig.toList=items.toList.reverse->R (.ok (.ret res)) {s with heap:=h',toks:=tk}):
  wpAny 1e3 A.in1 (XR (.ref S) (.ref I) res)
   (λfin s'=>match fin with|.done f=>R (.ok f) s' | .again c'=>c'.quiet=true/\Wm (model prog w) A c' R s') (λe s'=>R (.error e) s') s:=by
 have other:Wz (.ref S) (.ref I)=false:=by simpa[Wz]using OG
 have kinds:(XW "list_reverseiterator"==XW "list")=false/\(XW "list_reverseiterator"==XW "tuple")=false:=by decide
 delta XR
 apply Ya;show WX (T:="list_reverseiterator") hit.typeIs ?_;rw[other,kinds.1,kinds.2];apply Ya;show wpAny_pyIter_revIter hit ?_;apply Ya;apply Xf;show BZ hit ?_;rw[if_neg 5e3];show Yc ⟨Us PySem.F.plain_extend_loop _,?_⟩;show Se.pU (Walks.listRev (prog:=prog) (w:=w) (A:=A.in1) hh I l Zc items) hn (by simp[OG,LD]) ⟨Y4 _,by simpa using hit,hl⟩ hS λh' tk acc c' k a aw=>?_;show hR h' tk acc c' k a (xB aw)
theorem Ae{R:7e4}(hh:5e9)(hit:s.heap.IsRevIter I l ((items.size:Int)-1))(hl:s.heap.IsList l items)(S:Addr)(OG:S≠I)(LD:S≠l)(Zc:l≠I)(hS:s.heap.get? S=some {cls:=.type "list",data:=.seq #[]})(hn:items.size<=YA)
  (hR:∀h' tk ig c',(∀b o,b≠S->b≠I->s.heap.get? b=some o->h'.get? b=some o)->h'.get? S=some {cls:=.type "list",dict:=none,data:=.seq ig c',slots:=#[]}->ig.toList=items.toList.reverse->R (.ok (.ret .none)) {s with heap:=h',toks:=tk}):
  wpAny 1e3 A.in1 (WL.«list.__init__» ⟨[.ref S,.ref I],[]⟩)
   (λfin s'=>match fin with|.done f=>R (.ok f) s' | .again c'=>c'.quiet=true/\Wm (model prog w) A c' R s') (λe s'=>R (.error e) s') s:=by
 have none_:(#[]:Array Value).toList.reverse=[]:=rfl;have made:=Xu (XS (λ_=>(#[]:Array Value))) hS rfl;have kept:∀b o,b≠S->s.heap.get? b=some o->(s.heap.update S (XS (λ_=>(#[]:Array Value)))).get? b=some o:=λb o n e=>(X0 s.heap b S _ n).trans e;show Ya (m:=Builtin.List.listItems (.ref S)) ?_
 delta Builtin.List.listItems
 apply Ya;show Vv hS rfl ?_;apply Yc;show Ya (m:=Builtin.List.listUpdate (.ref S) (λ_=>#[])) ?_;show RA hS rfl ?_;apply Ya;apply wpAny_letGo;show sg (s:={s with heap:=s.heap.update S (XS (λ_=>(#[]:Array Value)))}) hh (hit.at λo e=>kept _ o OG.symm e) (hl.at λo e=>kept _ o LD.symm e) S OG LD Zc .none _ made hn ?_;intro h1 tk acc c1 k a aw;show hR h1 tk acc c1 (λb o n1 n2 e=>k b o n1 n2 (kept b o n1 e)) a aw
theorem kF{Q:1e1}(hh:5e9)(hl:s.heap.IsList l items)(hn:items.size<=YA)
  (h:∀D h' tk c acc,s.heap.objs.size<=D->(∀b o,s.heap.get? b=some o->h'.get? b=some o)->h'.get? D=some {cls:=.type "list",dict:=none,data:=.seq acc c,slots:=#[]}->acc.toList=items.toList.reverse->Q (.ref D) {s with heap:=h',toks:=tk}):
  wpAny 1e3 A (call (.type "reversed") [.ref l]) (λv s1=>wpAny 1e3 A (call (.type "list") [v]) Q E s1) E s:=by
 have bA:l<s.heap.objs.size:=by obtain⟨o,g,_⟩:=hl;show Yr g
 show call_reversed_list hl ?_;have TM:(s.heap.push (revObj l ((items.size:Int)-1))).IsRevIter s.heap.objs.size l ((items.size:Int)-1):=6e4;have hl0:(s.heap.push (revObj l ((items.size:Int)-1))).IsList l items:=hl.push _;have Qj:(s.heap.push (revObj l ((items.size:Int)-1))).objs.size=s.heap.objs.size+1:=V1 ..
 have k0:∀b o,s.heap.get? b=some o->(s.heap.push (revObj l ((items.size:Int)-1))).get? b=some o:=λb o e=>Yb _ e;generalize(s.heap.push (revObj l ((items.size:Int)-1)))=g at *;show callType_codes (Q₁:=λobj s₁=>obj=.ref g.objs.size/\s₁={s with heap:=g.push {cls:=.type "list",data:=.seq #[]}}) PySem.F.called_list (PySem.F.typeCall_list_1 _) PySem.F.entry_list_init
  (code_list_new _ ⟨rfl,rfl⟩) λobj s₁ h₁=>?_
 obtain⟨rfl,rfl⟩:=h₁;have hS:(g.push {cls:=.type "list",data:=.seq #[]}).get? g.objs.size=some {cls:=.type "list",data:=.seq #[]}:=Yg _ rfl;have n1:g.objs.size≠s.heap.objs.size:=by rw[Qj];show XU (Vo _)
 have n2:g.objs.size≠l:=by rw[Qj];show XU (Wn bA)
 show⟨⟨_,hS,rfl⟩,PySem.F.args_list_init_2 _ _,Ae (A:=A.in1) (s:={s with heap:=g.push {cls:=.type "list",data:=.seq #[]}}) hh (TM.at λo e=>Yb _ e) (hl0.push _) _ n1 n2 (Yv bA) hS hn (λh' tk ig c' hk hS' B4=>?_)⟩;show⟨rfl,h _ h' tk c' ig (by rw[Qj];show PX _) (λb o e=>hk b o ?_ ?_ (Yb _ (k0 b o e))) hS' B4⟩
 ·show Yv (by rw[Qj];show Wn (Yr e))
 ·show Yv (Yr e)
end
theorem ZdI:XB "reversed"=some (.type "reversed"):=by decide +kernel
theorem uF:XB "list"=some (.type "list"):=by decide +kernel
def gz(f:2e3):aq->M 3e0:=λρ=>aI (f ρ) λx=>dM λC=>match aM C x with
 |some (.lst ps)=>some ps.reverse
 |_=>none
section
variable{X:Cx}{e:Expr}{f:2e3}{p p2 pos pq:Pos}
theorem oS{K:W.Frag}{ι:2e1}{H:Hp}:∀{ps:List PV}{vs:List V},ae K ι H ps vs->ae K ι H ps.reverse vs.reverse
 |[],vs,r=>by rw[r.fH];show .nil
 |q::ps,vs,r=>by
  obtain⟨v,w,rfl,h1,h2⟩:=r.inv;rw[X5,X5];show(oS h2).append (.cons h1 .nil)
theorem oy:∀{vs:List V}{us:2e6},Vals vs us->Vals vs.reverse us.reverse
 |[],_,.nil=>.nil
 |v::vs,_,.cons r t=>by
  rw[X5,X5];show Vals.append (oy t) (.cons r .nil)
end
end Pu
namespace Pu
open PySem PySem.Spec PySem.W PySem.Calls L2
open PyProof.Rows hiding St Fr strKind
open PySem.Builtin.Str (partsBetween occurrences strKind)
section
variable{X:Cx}{e:Expr}{es:3e4}{f:2e3}{fs:1e9}{p pos:Pos}
variable{o:Expr}{fo:2e3}{apos aV:Pos}
abbrev Ce:=iD (λ_ j=>decide (0<j/\j<2^200)) λi j=>.int (i/j)
theorem AU:fX X (V6 .FloorDiv) (rI (λ_ j=>0<j/\j<2^200) λi j=>.int (i/j)):=Qf λi j _ _ _ _ _ hc q=>by
 have h1:(0:Int)<j:=hc.1;have h2:j<2^200:=hc.2;show floordiv_int 1e0 (by rw[Int.fdiv_eq_ediv_of_nonneg i 1e0];show q) (.inl (PyProof.noPylong_of_log2 ?_));have:j.natAbs<2^200:=by lia
 have h0:j.natAbs≠0:=by lia
 show VD ((Nat.log2_lt h0).mpr this) 1e7
end
end Pu
namespace Pu
open PySem PySem.Spec PySem.W PySem.Calls L2
open PyProof.Rows hiding St Fr
section
variable{X:Cx}{e o:Expr}{es:3e4}{f fo fa:2e3}{fs:1e9}{p pos apos aV:Pos}
noncomputable def Vaj:PV->List PV->Option PV
 |.str z,[.str y]=>some (.bl (Txt.endswith z y))
 |_,_=>none
def Vas(C:Cs)(x y:SV):Option SV:=match x,aM C y with
 |.v (.str a),some (.str b)=>if a.length+b.length<=1000000 then some (.v (.str (a++b)))else none
 |_,_=>none
noncomputable def Vam (x:SV)(ys:List SV):M SV:=λC=>match x,ys with
 |.c k,[.v (.int n),.v p]=>match C[k]? with
  |some (.lst ps)=>if 0<=n/\n<=ps.length/\ps.length<100000 then some (.v .aF,C.set k (.lst (ps.take n.toNat++p::ps.drop n.toNat)))else none
  |_=>none
 |_,_=>none
def wQ(C:Cs)(x y:SV):Option 3e0:=match aM C x,aM C y with
 |some (.lst a),some (.lst b)=>if a.length+b.length<=100000 then some (a++b)else none
 |_,_=>none
def vQ(fa fb:2e3):aq->M 3e0:=λρ=>aI (fa ρ) λx=>aI (fb ρ) λy=>dM λC=>wQ C x y
end
end Pu
namespace Sn
open PySem PySem.Spec PySem.SetTable Pu L2
open Sem (wp)
mutual
noncomputable def aN (w:World):PV->Int
 |.int i=>E7 w (.inl i)
 |.str x=>E7 w (.inr x)
 |.tup ps=>reduceHash (Builtin.Tuple.tupleHashOf (ia w ps))
 |_=>0
noncomputable def ia (w:World):List PV->List Int
 |[]=>[]
 |p::ps=>aN w p::ia w ps
end
mutual
noncomputable def ic:PV->Nat
 |.tup ps=>i7 ps+1
 |_=>1
noncomputable def i7:List PV->Nat
 |[]=>0
 |p::ps=>ic p+i7 ps
end
theorem cM{p:PV}{ps:List PV}:aP (p::ps)=true↔aY p=true/\aP ps=true:=by
 rw[aP,YI]
theorem lW{p:PV}{ps:List PV}{n:Nat}:cj (p::ps)<=n↔dep p<=n/\cj ps<=n:=by
 rw[cj,Nat.max_le]
theorem shape{h:Heap}{p:PV}{v:Value}(hp:aY p=true)(hr:ab h p v):(UJ v=true/\dep p=0/\∃k:Key,gB k v=true/\(∀w,aN w p=E7 w k)/\ic p=1)\/∃ps a us,p=.tup ps/\v=.ref a/\h.IsTuple a us.toArray/\ao h ps us/\aP ps=true:=by
 cases p with
 |int i=>
  ext ab hr;obtain⟨t,rfl⟩:=hr;show .inl ⟨rfl,rfl,.inl i,lL i t,λw=>rfl,rfl⟩
 |str x=>
  ext ab hr;obtain⟨t,rfl⟩:=hr;show .inl ⟨rfl,rfl,.inr x,ZJ x t,λw=>rfl,rfl⟩
 |tup ps=>
  ext ab hr;obtain⟨a,us,rfl,ht,hs⟩:=hr;ext aY hp;show .inr ⟨ps,a,us,rfl,rfl,ht,hs,hp⟩
 |_=>simp[aY]at hp
section
variable{prog:YF}{w:World}{A:Around}{E:1e1}{s:Shared}
theorem i6{h:Heap}{n:Nat}:∀{ps:List PV}{us:2e6},ao h ps us->aP ps=true->cj ps<=n->∀v∈us,∃q,ab h q v/\aY q=true/\dep q<=n
 |[],us,r,_,_,v,hv=>by rw[ao]at r;subst r;cases hv
 |p::ps,us,r,x,y,v,hv=>by
  rw[ao]at r;obtain⟨u,Li,rfl,r1,r2⟩:=r;rw[cM]at x;rw[lW]at y;cases hv with
  |head=>show⟨p,r1,x.1,y.1⟩
  |tail _ hv=>show i6 r2 x.2 y.2 v hv
theorem sj:∀(n:Nat)(p:PV)(v:Value)(Q:6e1),aY p=true->dep p<=n->ab s.heap p v->Q true s->wpAny 1e3 A (eqIsQuiet n v) Q E s
 |0,p,v,Q,hp,hd,hr,h=>by
  rcases shape hp hr with⟨hv,_⟩|⟨ps,a,us,rfl,_⟩
  ·rw[eqIsQuiet_byValue _ hv];show Yc h
  ·rw[dep]at hd;lia
 |n+1,p,v,Q,hp,hd,hr,h=>by
  rcases shape hp hr with⟨hv,_⟩|⟨ps,a,us,rfl,rfl,ht,hs,BV⟩
  ·rw[eqIsQuiet_byValue _ hv];show Yc h
  ·obtain⟨o,b1,b2,c,b3⟩:=id ht
   have ty:s.TypeIs (.ref a) "tuple":=⟨o,b1,b2⟩
   rw[dep]at hd;rw[eqIsQuiet];apply Ya;show Vb ty F.slot_tuple_eq.lookup ?_;show Ya (m:=isInstance (.ref a) (.type "tuple")) (Ybt ty isSubtype_tuple_tuple ?_);repeat first
    |show Vv b1 b3 ?_
    |simp only[VW,Yx,if_false]
    |apply Ya
   rw[←Uz];show Se.fO (J:=λr=>r.1=none) (ok:=λv=>∃q,ab s.heap q v/\aY q=true/\dep q<=n) (λv r Q z j q _=>?_) _ _ _ (i6 hs BV 1e0) rfl ?_
   ·obtain⟨x,x1,x2,x3⟩:=z
    apply Ya;show sj n x v _ x2 x3 x1 (Yc (q _ rfl))
   ·rintro⟨r,u⟩ j
    cases(show r=none from j);show Yc h
theorem AY:∀(n:Nat)(p:PV)(v:Value)(Q:6e1),aY p=true->dep p<=n->ab s.heap p v->Q false s->wpAny 1e3 A (Ybc n v) Q E s
 |0,p,v,Q,hp,hd,hr,h=>by
  rcases shape hp hr with⟨hv,_⟩|⟨ps,a,us,rfl,_⟩
  ·rw[Se.ip _ hv];show Yc h
  ·rw[dep]at hd;lia
 |n+1,p,v,Q,hp,hd,hr,h=>by
  rcases shape hp hr with⟨hv,_⟩|⟨ps,a,us,rfl,rfl,ht,hs,BV⟩
  ·rw[Se.ip _ hv];show Yc h
  ·obtain⟨o,b1,b2,c,b3⟩:=id ht
   have same:("tuple"=="tuple")=true:=by decide
   rw[dep]at hd;rw[Ybc];apply Ya;show WX ⟨o,b1,b2⟩ ?_;simp only[same,if_true];repeat first
    |show Vv b1 b3 ?_
    |simp only[VW,Yx,if_false]
    |apply Yc
    |apply Ya
   rw[←Uz];show Se.fO (J:=λr=>r.1=none) (ok:=λv=>∃q,ab s.heap q v/\aY q=true/\dep q<=n) (λv r Q z j q _=>?_) _ _ _ (i6 hs BV 1e0) rfl ?_
   ·obtain⟨x,x1,x2,x3⟩:=z
    apply Ya;show AY n x v _ x2 x3 x1 (Yc (q _ rfl))
   ·rintro⟨r,u⟩ j
    cases(show r=none from j);show Yc h
theorem T6:∀(n:Nat)(p:PV)(v:Value)(Q:6e1),aY p=true->ab s.heap p v->(∀b,Q b s)->wpAny 1e3 A (hashByValue n v) Q E s:=by
 intro n;induction n with
 |zero=>
  intro p v Q hp hr h;rcases shape hp hr with⟨hv,_⟩|⟨ps,a,us,rfl,rfl,_⟩
  ·obtain⟨b,e⟩:=Se.jR 0 hv
   rw[e];show Yc (h _)
  ·show Yc (h _)
 |succ n ih=>
  intro p v Q hp hr h;rcases shape hp hr with⟨hv,_⟩|⟨ps,a,us,rfl,rfl,ht,hs,BV⟩
  ·obtain⟨b,e⟩:=Se.jR (n+1) hv
   rw[e];show Yc (h _)
  ·obtain⟨o,b1,b2,c,b3⟩:=id ht
   rw[hashByValue];apply Ya;show Vb (T:="tuple") ⟨o,b1,b2⟩ VX.lookup ?_;apply Ya;show Vv b1 b3 ?_;apply Ya;rw[←Uz];show Se.fO (J:=λ_=>True) (ok:=λv=>∃q,ab s.heap q v/\aY q=true/\dep q<=cj ps) (λv r Q z _ q1 q2=>?_) _ _ _ (i6 hs BV (Yl _)) trivial ?_
   ·obtain⟨x,x1,x2,_⟩:=z
    apply Ya;show ih x v _ x2 x1 λb=>?_;cases b
    ·show Yc (q2 _ trivial)
    ·show Yc (q1 _ trivial)
   ·rintro⟨_|r,u⟩ _
    ·show Yc (h _)
    ·show Yc (h _)
end
section
variable{prog:YF}{w:World}
theorem lO{n:Nat}{A:Around}{E:1e1}{s:Shared}{f:Value->Array Int->Sem (ForInStep (Array Int))}
  (hf:∀x r z(Q:ForInStep (Array Int)->Shared->Prop),wpAny 1e3 A (pyHash x) (λi z'=>Q (.yield (r.push i)) z') E z->wpAny 1e3 A (f x r) Q E z)
  (one:∀(p:PV)(v:Value)(z:Shared)(Q:Int->Shared->Prop),z.heap=s.heap->aY p=true->dep p<=n->ab s.heap p v->Q (aN w p) {z with toks:=z.toks+ic p}->wpAny (model prog w) A (pyHash v) Q E z):
  ∀(ps:List PV)(us:2e6)(b:Array Int)(t:Nat)(Q:Array Int->Shared->Prop),ao s.heap ps us->aP ps=true->cj ps<=n->
   (∀b',b'.toList=b.toList++ia w ps->Q b' {s with toks:=t+i7 ps})->wpAny (model prog w) A (forIn us b f) Q E {s with toks:=t}
 |[],us,b,t,Q,r,_,_,q=>by
  rw[ao]at r;subst r;rw[List.forIn_nil];show Yc (q b (by rw[ia,YG]))
 |p::ps,us,b,t,Q,r,x,y,q=>by
  rw[ao]at r;obtain⟨u,Li,rfl,r1,r2⟩:=r;rw[cM]at x;rw[lW]at y;rw[Ybz];apply Ya;show hf _ _ _ _ (one p u _ _ rfl x.1 y.1 r1 (lO hf one ps Li _ _ Q r2 x.2 y.2 λb' e=>?_));have e2:=q b' (by rw[e,ia,UE,Yd];rfl);rw[i7,←Nat.add_assoc]at e2;show e2
theorem Ei:∀(n:Nat)(p:PV)(v:Value)(A:Around)(E:1e1)(s:Shared)(Q:Int->Shared->Prop),aY p=true->dep p<=n->ab s.heap p v->A.units+n<cLine->Q (aN w p) {s with toks:=s.toks+ic p}->wpAny (model prog w) A (pyHash v) Q E s:=by
 intro n;induction n with
 |zero=>
  intro p v A E s Q hp hd hr hu h;rcases shape hp hr with⟨hv,_,k,hk,hh,TY⟩|⟨ps,a,us,rfl,_⟩
  ·rw[hh,TY]at h
   show(aD prog w).pyHash (k:=k) hk h
  ·rw[dep]at hd;lia
 |succ n ih=>
  intro p v A E s Q hp hd hr hu h;rcases shape hp hr with⟨hv,_,k,hk,hh,TY⟩|⟨ps,a,us,rfl,rfl,ht,hs,BV⟩
  ·rw[hh,TY]at h
   show(aD prog w).pyHash (k:=k) hk h
  ·obtain⟨o,b1,b2,c,b3⟩:=id ht
   have ty:s.TypeIs (.ref a) "tuple":=⟨o,b1,b2⟩
   have MR:(some (Value.builtin "tuple.__hash__")==some Xw)=false:=by rw[beq_builtin_none]
   rw[dep]at hd;rw[aN,ic,←Nat.add_assoc]at h
   delta pyHash pyHashByItsType
   sleep 6;apply Ya;show wpAny_cRoomFor_or (.inr 1e0) ?_;apply Ya;show Vb ty VX.lookup ?_;simp only[MR,Yx,if_false];apply Ya;show Vb ty VX.lookup ?_;show Ya (m:=callSpecialIfBoundUnlessNone? (.ref a) "__hash__" _) ?_;apply wpAny_callSpecialIfBoundUnlessNone?_slot ty VX;apply Xl VX ty F.entry_tuple_hash _ (F.args_tuple_hash_1 _);show Ya (m:=VY (.ref a)) (wpAny_tupleItemsOf b1 b3 ?_);apply Ya;rw[←Uz];show lO (s:=s) (n:=n) (λx r z Q y=>Ya (Xk y (λi z' y'=>?_) λ_ _ y'=>y')) (λp v z Q e x1 x2 x3 q=>ih p v _ _ _ _ x1 x2 (by rw[e];show x3) (by simp[Wj];lia) q) ps us #[] s.toks _ hs BV 1e0 λb' e=>?_
   ·first
     |show Yc y'
     |show Ya (Yc (Yc y'))
   ·have e2:b'.toList=ia w ps:=e
    sleep 6;rw[e2];show wpAny_ret_mkInt ?_;sleep 6
    delta pyHashByItsType.reduced
    rw[reduceHash]at h;split at h
    ·rename_i in_
     rw[if_pos in_];show Yc h
    ·rename_i So
     rw[if_neg So];apply Ya;show WR (Yc h)
end
end Sn
namespace Sn
open PySem PySem.Spec PySem.SetTable Pu L2 Se
section
variable{prog:YF}{w:World}{A:Around}{E:1e1}{s:Shared}
def NK(h:Heap)(p:PV)(a:Addr):Prop:=aY p=true/\dep p<=8/\ab h p (.ref a)
theorem NK.inj{h:Heap}{p q:PV}{a:Addr}(x:NK h p a)(y:NK h q a):p=q:=ab.inj p x.2.2 y.2.2
theorem NK.keep{h h':Heap}{p:PV}{a:Addr}(x:NK h p a)(k:∀b u,h.get? b=some u->h'.get? b=some u):NK h' p a:=⟨x.1,x.2.1,ab.keep k p x.2.2⟩
theorem eqN{x y:PV}{a b:Addr}{Q:6e1}(hu:A.units+8<cLine)(hx:NK s.heap x a)(hy:NK s.heap y b)(h1:x=y->Q true s)(h2:x≠y->Q false s):wpAny 1e3 A (eqBool (.ref a) (.ref b)) Q E s:=by
 have hd:=hx.2.1;show ab.nJ x hx.2.2 hy.2.2 (A:=A) 1e0 prog w E Q ?_;by_cases e:x=y
 ·rw[(w9 x hx.1 hy.1).mpr e];show h1 e
 ·have:aE x y=false:=by
   cases q:aE x y with
   |false=>rfl
   |true=>show absurd ((w9 x hx.1 hy.1).mp q) e
  rw[this];show h2 e
theorem MV{ks:PV}{a:Addr}{stored:2e6}{Q:6e1}(hk:NK s.heap ks a)(t7:∀v∈stored,∃tP b,v=.ref b/\NK s.heap tP b)(h:Q false s):
  wpAny 1e3 A (searchCouldBeSeen (.ref a) stored) Q E s:=by
 ext searchCouldBeSeen;show Ya ?_;show wpAny_forIn_list _ (λrest r s'=>s'=s/\r.1=none/\∀v∈rest,∃tP b,v=.ref b/\NK s.heap tP b) _ ?_ ?_ _ _ ⟨rfl,rfl,t7⟩
 ·rintro x rest r s' ⟨rfl,hr,hx⟩
  obtain⟨tP,b,rfl,hb⟩:=hx x YR;sleep 6;split
  ·show Yc ⟨rfl,rfl,λv hv=>hx v (YK _ hv)⟩
  ·show Ya (sj 8 _ _ _ hk.1 hk.2.1 hk.2.2 ?_)
   simp only[VW,Yx,if_false];show Ya (sj 8 _ _ _ hb.1 hb.2.1 hb.2.2 ?_);simp only[VW,Yx,if_false];show Ya (AY 8 _ _ _ hk.1 hk.2.1 hk.2.2 ?_);simp only[Yx,if_false];show Ya (AY 8 _ _ _ hb.1 hb.2.1 hb.2.2 ?_);simp only[Yx,if_false];show Yc ⟨rfl,rfl,λv hv=>hx v (YK _ hv)⟩
 ·rintro⟨r1,r2⟩ s' ⟨rfl,hr,_⟩
  simp only at hr;subst hr;show Yc h
def Els(w:World)(h:Heap)(es:6e0):Prop:=∀(i:Nat)(e:Int×Value),es[i]? = some e->∃k b,e=(aN w k,YU b)/\NK h k b
def Dm(w:World)(h:Heap)(es:6e0)(t:X7)(k:PV)(n:Nat):Prop:=∀m,m<n->∃i,t.slot (it t.mask m 6e6).j=.live i/\∀(u:Int)(b:Addr),es[i]? = some (u,.ref b)->¬NK h k b
theorem D7{a x:Addr}{o:Obj}{es:6e0}{ep:Nat}{t:X7}{k:PV}{Q:SetFound->Shared->Prop}(hu:A.units+8<cLine)(ho:s.heap.get? a=some o)(hd:o.data=.set es ep t)(T:TI t es)(he:Els w s.heap es)(hk:NK s.heap k x)
  (Tz:∀(i:Nat)(u:Int)(b:Addr),es[i]? = some (u,.ref b)->NK s.heap k b->Q (.there none) s)
  (wA:∀n,t.slot (it t.mask n 6e6).j=.empty->Dm w s.heap es t k n->Q (.free (it t.mask n 6e6).j false) s):
  ∀(fuel n:Nat)(u9:Option Probe),u9.getD (t.probeStart (aN w k))=it t.mask n 6e6->(∃N,n<=N/\N<n+fuel/\t.slot (it t.mask N 6e6).j=.empty)->Dm w s.heap es t k n->
   wpAny 1e3 A (W3 a (.ref x) (aN w k) true fuel u9) Q E s:=by
 have hf:t.fits es.size=true:=T.fits (XI T.eo);intro fuel;induction fuel with
 |zero=>rintro n u9 _ ⟨N,h1,h2,_⟩ _;lia
 |succ fuel ih=>
  intro n u9 hs hN Ql;ext W3;show Ya (Y8 ho hd hf ?_);sleep 6;have hg:t.gaveWay=false:=by
   ext SetTable.gaveWay;rw[T.mm.pos.2.2];rfl
  rw[hg];simp only[Yx,↓reduceIte];rw[hs];have w0:Wf t.mask 6e6:=Wf.start _ _;have wn:=w0.it n;obtain⟨j0,Oq,e0⟩:=T.room (Wn T.eo);obtain⟨c,hc,ec⟩:=wn.meets T.mm Oq;obtain⟨m,em,n1,sk,hm⟩:=wG (hashAt:=λi=>(es[i]?.map (·.1)).getD 0) (h:=aN w k) T.dm (10*turns t.mask) _ wn ⟨c,hc,by rw[ec];show e0⟩;have em:t.probe (λi=>(es[i]?.map (·.1)).getD 0) (aN w k) (it t.mask n 6e6)=some m:=em;have RI:Dm w s.heap es t k (n+n1):=by
   intro q hq;by_cases z:q<n
   ·show Ql q z
   ·obtain⟨i,h1,h2⟩:=sk (q-n) 1e0
    rw[←Hg,show n+(q-n)=q by lia]at h1;show⟨i,h1,λu b eb hb=>h2 ?_⟩;obtain⟨k',b',e',rG⟩:=he i _ eb;cases e';sleep 6;rw[eb];change aN w k'=_;rw[rG.inj hb]
  rw[←Hg]at hm;generalize hP:t.probe _ (aN w k) (it t.mask n 6e6)=r;have hr:r=some m:=hP.symm.trans em;subst hr;clear hP;sleep 6;rcases hm with⟨rfl,hm⟩|⟨i,rfl,hl,hh⟩
  ·show Yc (wA _ hm RI)
  ·sleep 6
   have hpi:=lH hl;have hi:i<es.size:=by
    rw[←T.sz];rcases YQ i t.place.size with z|z
    ·show z
    ·rw[YN z]at hpi;cases hpi
   obtain⟨k',b,ee,hb⟩:=he i _ (Yh hi);have ei:es[i]? = some (aN w k',YU b):=by rw[Yh hi,ee]
   have IG:¬NK s.heap k b->wpAny 1e3 A (W3 a (.ref x) (aN w k) true fuel (some (it t.mask (n1+1) (it t.mask n 6e6)))) Q E s:=by
    intro c9;obtain⟨N,h1,h2,h3⟩:=hN;show ih (n+n1+1) _ ?_ ⟨N,?_,by lia,h3⟩ ?_
    ·change it t.mask (n1+1) (it t.mask n 6e6)=_
     rw[←Hg];rfl
    ·rcases YQ (n+n1) N with z|z
     ·show z
     ·exfalso
      rcases Nat.lt_or_eq_of_le z with z|z
      ·obtain⟨i',q,_⟩:=RI N z
       rw[q]at h3;cases h3
      ·subst z;rw[hl]at h3;cases h3
    ·intro q hq
     by_cases z:q<n+n1
     ·show RI q z
     ·have:q=n+n1:=by lia
      subst this;show⟨i,hl,λu b' eb=>?_⟩;rw[ei]at eb;cases eb;show c9
   have main:wpAny 1e3 A (match es[i]? with
     |some (fst,y)=>do
      let equal ←Dl [y] (eqBool y (YU x))
      let ZE ←setState a
      if(true&&equal)=true then pure (Ru none)
       else
        match ZE.2.snd.sameMemory t.moves t.mask with
        |some same=>
         match if same=true then ZE.2.snd.slot (it t.mask (n+n1) 6e6).j else Slot.empty with
         |Slot.live i'=>
          match ZE.fst[i']? with
          |some (fst,y')=>do
           let zb ←isSame y' y
           let oF ←pure (if zb=true then some i' else none)
           match oF with
            |none=>do
             rule "set.search.anew"
             W3 a (YU x) (aN w k) true fuel none
            |some i'=>
             if equal=true then pure (Ru (some i'))
             else W3 a (YU x) (aN w k) true fuel (some (it t.mask (n1+1) (it t.mask n 6e6)))
          |none=>do
           let oF ←pure none
           match oF with
            |none=>do
             rule "set.search.anew"
             W3 a (YU x) (aN w k) true fuel none
            |some i'=>
             if equal=true then pure (Ru (some i'))
             else W3 a (YU x) (aN w k) true fuel (some (it t.mask (n1+1) (it t.mask n 6e6)))
         |x_1=>do
          let oF ←pure none
          match oF with
           |none=>do
            rule "set.search.anew"
            W3 a (YU x) (aN w k) true fuel none
           |some i'=>
            if equal=true then pure (Ru (some i'))
            else W3 a (YU x) (aN w k) true fuel (some (it t.mask (n1+1) (it t.mask n 6e6)))
        |_=>PU "set.changed-during-lookup:is-the-new-block-at-the-old-address"
     |_=>PU "internal:set-entry") Q E s:=by
    rw[ei];sleep 6;show Ya (Xf (eqN hu hb hk (λhq=>?_) (λhq=>?_)))
    ·show Ya (Y8 ho hd hf ?_)
     sleep 6;show Yc (Tz i _ b ei (hq▸hb))
    ·show Ya (Y8 ho hd hf ?_)
     sleep 6;have Lx:t.sameMemory t.moves t.mask=some true:=by ext SetTable.sameMemory;simp
     rw[Lx];simp only[Rz,Yx,↓reduceIte];rw[hl];sleep 6;rw[ei];sleep 6;show Ya (wpAny_isSame_ref_self ?_);show Ya (Yc ?_);simp only[↓reduceIte];show IG λz=>hq (hb.inj z)
   split
   ·show Ya (MV hk (λv hv=>?_) ?_)
    ·obtain⟨⟨u,v'⟩,TB,rfl⟩:=Yz.mp hv
     have TB:=VZ.mp TB;obtain⟨j,hj,q⟩:=Array.getElem_of_mem (Array.mem_filter.mp TB).1;obtain⟨k2,b2,e2,h2⟩:=he j _ (Yh hj);rw[q]at e2;cases e2;show⟨k2,b2,rfl,h2⟩
    ·simp only[Yx,↓reduceIte]
     show main
   ·show main
def qV(w:World)(h:Heap)(a:Addr)(L:Bool)(bs:6e2):Prop:=∃o es ep t,h.get? a=some o/\o.ExactSet/\o.data=.set es ep t/\t.led=L/\TI t es/\(bs.map (·.1)).Nodup/\
 es.toList.Perm (bs.map λp=>(aN w p.1,YU p.2))
open Classical in
noncomputable def fu (bs:6e2)(k:PV)(x:Addr):List (PV×Addr):=if k∈bs.map (·.1)then bs else bs++[(k,x)]
theorem E9{bs:6e2}{k:PV}{x:Addr}(h:k∈bs.map (·.1)):fu bs k x=bs:=if_pos h
theorem BH{bs:6e2}{k:PV}{x:Addr}(h:k∉bs.map (·.1)):fu bs k x=bs++[(k,x)]:=if_neg h
theorem qV.at{h h':Heap}{a:Addr}{L:Bool}{bs:6e2}(x:qV w h a L bs)(g:∀o,h.get? a=some o->h'.get? a=some o):qV w h' a L bs:=by
 obtain⟨o,es,ep,t,ho,r⟩:=x;show⟨o,es,ep,t,g _ ho,r⟩
theorem ZA{a x:Addr}{k:PV}{bs:6e2}{L:Bool}{Q:6e1}(hu:A.units+8<cLine)(hS:qV w s.heap a L bs)(T7:∀p∈bs,NK s.heap p.1 p.2)(hk:NK s.heap k x)(N6:bs.length+1<307)
  (h:∀(b:Bool)h',XJ a s.heap h'->qV w h' a L (fu bs k x)->Q b {s with heap:=h'}):
  wpAny 1e3 A (setAddHashed a (.ref x) (aN w k)) Q E s:=by
 obtain⟨o,es,ep,t,ho,hex,hd,hL,T,nd,GG⟩:=hS;have hf:t.fits es.size=true:=T.fits (XI T.eo);have hlen:es.size=bs.length:=by rw[←Xi,GG.length_eq];simp
 have he:Els w s.heap es:=λi e q=>by
  have hm:e∈es.toList:=VZ.mpr (Array.mem_of_getElem? q);obtain⟨p,hp,rfl⟩:=Yz.mp (GG.mem_iff.mp hm);show⟨p.1,p.2,rfl,T7 p hp⟩
 unfold setAddHashed setAddHashedIn;show Xf (Ya (Y8 ho hd hf ?_));sleep 6;rw[show byScan (YU x) es=false from rfl];simp only[Yx,↓reduceIte];have cW:k∈bs.map (·.1)->Q false s:=λrD=>by
  have q:=h false s.heap (Heap.SameBut.refl a s.heap);rw[E9 rD]at q;show q ⟨o,es,ep,t,ho,hex,hd,hL,T,nd,GG⟩
 show Ya ?_;ext setSearch;obtain⟨j0,Oq,e0⟩:=T.room (Wn T.eo);obtain⟨c,hc,ec⟩:=(Wf.start t.mask (aN w k)).meets T.mm Oq;show D7 hu ho hd T he hk (λi u b eb hb=>?_) (λn hn Ql=>?_) 100000 0 none rfl ⟨c,Y4 _,?_,(congrArg t.slot ec).trans e0⟩ (λm hm=>absurd hm (WK _))
 ·-- it is there
  have hm:(u,YU b)∈es.toList:=VZ.mpr (Array.mem_of_getElem? eb);obtain⟨p,hp,q⟩:=Yz.mp (GG.mem_iff.mp hm);cases q;have:=(T7 p hp).inj hb;show Yc (cW (by rw[←this];show Y7 hp))
 ·-- it is new
  have yx:k∉bs.map (·.1):=by
   intro rD;obtain⟨p,hp,rfl⟩:=Yz.mp rD;have hm:(aN w p.1,YU p.2)∈es.toList:=GG.mem_iff.mpr (Yz.mpr ⟨p,hp,rfl⟩);obtain⟨i,hi,q⟩:=Array.getElem_of_mem (VZ.mp hm);have ei:es[i]? = some (aN w p.1,YU p.2):=by rw[Yh hi,q]
   obtain⟨j,pj⟩:∃j,t.place[i]? = some j:=⟨_,Yh (by rw[T.sz];show hi)⟩
   obtain⟨m,h1,h2⟩:=T.rc i j _ pj ei;have h1:(it t.mask m (start t.mask (aN w p.1))).j=j:=h1;rcases VQ m n with z|z|z
   ·obtain⟨i',q1,q2⟩:=Ql m z
    rw[h1,Rb T.rs pj]at q1;cases q1;show q2 _ _ ei (T7 p hp)
   ·subst z
    rw[h1,Rb T.rs pj]at hn;cases hn
   ·obtain⟨i',q1⟩:=h2 n z
    rw[Rb T.rs q1]at hn;cases hn
  have S5:∀m,m<n->∃i:Nat,t.place[i]? = some (it t.mask m 6e6).j:=λm hm=>let⟨i,q,_⟩:=Ql m hm;⟨i,lH q⟩
  sleep 6;show Ya (Y8 ho hd hf ?_);sleep 6;obtain⟨t1,p,BU⟩:∃t1 p,t.put (it t.mask n (start t.mask (aN w k))).j=(t1,p):=⟨_,_,rfl⟩
  obtain⟨hp,hmk,hld,T1⟩:=T.toT0.put (x:=YU x) (GD T.mm n) hn S5 t1 p BU;rw[BU];sleep 6;have tail:∀b:Bool,wpAny 1e3 A (do
    storeSet a (insertAt es p (aN w k,YU x)) (if b=true then t1 else{t1 with plain:=false})
    if(!false&&(if b=true then t1 else{t1 with plain:=false}).tooFull)=true then do
      setRelay a (UL (es.size+1))
      pure true
     else pure true) Q E s:=by
   intro b;have T2:=T1.AG b;obtain⟨m1,m2,m3⟩:=Bb t1 b;have m4:(if b=true then t1 else{t1 with plain:=false}).led=L:=by rw[←hL,←hld];cases b<;>rfl
   generalize(if b=true then t1 else{t1 with plain:=false})=t2 at T2 m1 m2 m3 m4⊢;have Ob:t2.mask=t.mask:=m1.trans hmk;have hz:(insertAt es p (aN w k,YU x)).size=es.size+1:=jP _ _ _;have OE:=T.eo;have hM:=T.mm.pos;show Ya (wpAny_storeSet_of ho hd ?_ (by rw[hz,YZ];lia));have g1:=lQ ho hd (insertAt es p (aN w k,YU x)) t2;have R7:=Xa s.heap a (Obj.putSet (insertAt es p (aN w k,YU x)) t2);generalize Ov:s.heap.update a (Obj.putSet (insertAt es p (aN w k,YU x)) t2)=h1 at g1 R7;have G4:∀(h':Heap)(kJ:6e0)(ug:Nat)(t':X7),XJ a s.heap h'->h'.get? a=some {o with data:=.set kJ ug t'}->TI t' kJ->t'.led=L->kJ.toList.Perm (es.toList++[(aN w k,YU x)])->Q true {s with heap:=h'}:=by
    intro h' kJ ug t' sb g Ti hl pm;have q:=h true h' sb;rw[BH yx]at q;show q ⟨_,kJ,ug,t',g,hex,rfl,hl,Ti,?_,?_⟩
    ·rw[YX,Xh]
     show⟨nd,by simp,λy hy z hz e=>by rw[Yaq,Yj]at hz;subst hz;subst e;show yx hy⟩
    ·rw[YX]
     show pm.trans (GG.append_right _)
   by_cases B2:(es.size+1)*5<t2.mask*3
   ·have:t2.tooFull=false:=by
     unfold SetTable.tooFull SetTable.fill;rw[T2.dm,T2.sz,hz];simp;lia
    rw[this];simp only[Rz,Yx,↓reduceIte];show Yc (G4 h1 _ _ t2 R7 g1 ⟨T2,by rw[hz];show B2⟩ m4 (pA _ _ _))
   ·have:t2.tooFull=true:=by
     unfold SetTable.tooFull SetTable.fill;rw[T2.dm,T2.sz,hz];simp;lia
    rw[this];simp only[Bool.not_false,Bool.and_self,↓reduceIte];show Ya ?_;ext setRelay;have TU:t2.fits (insertAt es p (aN w k,YU x)).size=true:=T2.fits (by rw[hz,Ob];lia);have DC:({o with data:=.set (insertAt es p (aN w k,YU x)) (ep+1) t2}:Obj).data=.set (insertAt es p (aN w k,YU x)) (ep+1) t2:=rfl;show Ya (Y8 (s:={s with heap:=h1}) g1 DC TU ?_);sleep 6;obtain⟨gM,gS⟩:=B5 T.mm T.fl (by rw[Ob]at B2;show B2) (by rw[hlen];show N6);have hsl:¬Yar (UL (es.size+1))>sizeLine:=by
     have:=gM.pos;rw[YZ];lia
    rw[if_neg hsl];obtain⟨t',order,e1,e2,e3,e4,_,e6⟩:=EW (mask:=Yar (UL (es.size+1))-1) (finger:=t2.finger) (moves:=t2.movedTo (Yar (UL (es.size+1))-1)) (led:=t2.led) (plain:=t2.plain) gM (insertAt es p (aN w k,YU x)) (by rw[hz];show gS);have e1:t2.relaid ((insertAt es p (aN w k,YU x)).map (·.1)) (UL (es.size+1))=some (t',order):=e1;rw[e1];show Ya ?_;change wpAny _ _ (if((order.filterMap ((insertAt es p (aN w k,YU x))[·]?)).size != (insertAt es p (aN w k,YU x)).size)=true then _ else _) _ _ _;rw[if_neg (by rw[e2];simp)];show Yc ?_;sleep 6;have g2:=lQ g1 DC (order.filterMap ((insertAt es p (aN w k,YU x))[·]?)) t';show wpAny_storeSet_of (s:={s with heap:=h1}) g1 DC ?_ (by rw[e2,hz,YZ];lia);show Yc (G4 _ _ _ t' (R7.trans (Xa _ a _)) g2 e4 (e6.trans m4) (e3.trans (pA _ _ _)))
  cases cD:t1.plain with
  |true=>
   simp only[↓reduceIte];show Ya (T6 8 _ _ _ hk.1 hk.2.2 λb=>?_);show tail b
  |false=>
   simp only[Yx,↓reduceIte];show Ya (Yc ?_);show tail true
 ·have:=T.mm.pos;ext turns hc;lia
end
section
variable{prog:YF}{w:World}{A:Around}{E:1e1}{s:Shared}
theorem EJ(a:Value){Q₁:1e1}
  (h:Q₁ 4e9 {s with heap:=s.heap.push (bU (!w.params.followText "set-order"))}):
  Wm 1e3 A (.call (.builtin "set.__new__") ⟨[.type "set",a],[]⟩) (wants Q₁ E) s:=by
 have ask:checkBuiltinCall "set.__new__" ⟨[.type "set",a],[]⟩=pure ():=F.newCall_set_1 a;have self:=sub_set_self;apply Yci;show Ya (m:=checkBuiltinCall "set.__new__" ⟨[.type "set",a],[]⟩) ?_;rw[ask];apply Yc;show Yc ⟨Us F.plain_set_new _,?_⟩;apply XN F.entry_set_new;rw[Wg F.plain_set_new]
 delta WL.«set.__new__» Builtin.Frozenset.newClass
 cases s;repeat first
  |show Yc h
  |assumption
  |show WT ?_
  |show wpAny_alloc ?_
  |with_reducible show Yc ?_
  |wp_step
theorem Kl{l:Addr}{items:Array Value}{J:Nat->Heap->Prop}{Q:1e1}(hh:5e9)(src:s.heap.IsList l items\/s.heap.IsTuple l items)
  (j0:∀h',(∀b o,b<s.heap.objs.size->s.heap.get? b=some o->h'.get? b=some o)->h'.get? s.heap.objs.size=some (bU (!w.params.followText "set-order"))->J 0 h')
  (add:∀(A':Around)(i:Nat)(v:Value)(s':Shared)(Q:6e1)(E:1e1),A'.units<=A.units+8->i<items.size->items[i]? = some v->J i s'.heap->(∀b h' tk,XJ s.heap.objs.size s'.heap h'->J (i+1) h'->s'.toks<=tk->Q b {s' with heap:=h',toks:=tk})->wpAny (model prog w) A' (setAdd s.heap.objs.size v) Q E s')
  (keep:∀(i:Nat)(h h':Heap),J i h->(∀b o,b≠s.heap.objs.size+1->h.get? b=some o->h'.get? b=some o)->J i h')
  (h:∀h' tk,J items.size h'->(∀b o,b<s.heap.objs.size->s.heap.get? b=some o->h'.get? b=some o)->Q 4e9 {s with heap:=h',toks:=tk}):
  wpAny 1e3 A (call (.type "set") [.ref l]) Q E s:=by
 obtain⟨cc,tl,Vao⟩:=Wc.mro;have c1:=Wc.made;have c2:=Wc.sub;show wpAny_call (Yci ?_);change wpAny 1e3 _ (callAny (.type "set") _) _ _ _;show Yc ⟨Ux _ 5e3,XN PySem.F.entry_type_call ?_⟩;rw[Around.under_plain (weight_type_call_type "set" [.ref l] []) rfl];have c3:=Wc.notType;have c4:=Wc.canCreate;have c5:=PySem.F.typeCall_set_1 (.ref l);repeat(any_goals(first|assumption|wp_step))
 show UM (EJ (.ref l) (E:=E) (Q₁:=λobj s1=>obj=.ref s.heap.objs.size/\s1={s with heap:=s.heap.push (bU (!w.params.followText "set-order"))}) ⟨rfl,rfl⟩) λr s1 hr=>?_;cases r with
 |error e=>show hr
 |ok fl=>
  cases fl with
  |ret obj=>
   obtain⟨rfl,rfl⟩:=hr;generalize Vap:(!w.params.followText "set-order")=led at *;have g1:(s.heap.push (bU led)).get? s.heap.objs.size=some (bU led):=Yg _ rfl;have t1:Shared.TypeIs {s with heap:=s.heap.push (bU led)} (.ref s.heap.objs.size) "set":=⟨_,g1,rfl⟩
   have c6:=Wc.init.lookup;have c7:=Wc.init.bind 4e9;repeat(any_goals(first|assumption|wp_step))
   show UM (codeAny_call_builtin (R:=wants (λr s2=>r=.none/\∃h' tk,s2={s with heap:=h',toks:=tk}/\J items.size h'/\(∀b o,b<s.heap.objs.size->s.heap.get? b=some o->h'.get? b=some o)) E) Wc.init.plain PySem.F.entry_set_init (check_set_init_1 t1 ?_)) λr2 s2 Tj=>?_
   ·show NX (g0:=s.heap) (led:=led) (J:=J) (D:=s.heap.objs.size) (by simp[hh]) src rfl j0 (λA' i v s' Q E hu=>add A' i v s' Q E (by simp[Around.in1]at hu⊢;lia)) keep rfl λh' tk j k=>⟨rfl,h',tk,rfl,j,k⟩
   ·cases r2 with
    |error e=>show Tj
    |ok fl2=>
     cases fl2 with
     |ret r=>
      obtain⟨rfl,h',tk,rfl,j,k⟩:=Tj;repeat(any_goals(first|assumption|wp_step))
      show h _ _ j k
     |_=>show Tj.elim
  |_=>show hr.elim
def fq(l:6e2):List (PV×Addr):=l.foldl (λbs q=>fu bs q.1 q.2) []
theorem ub{l:6e2}{i:Nat}{q:PV×Addr}(h:l[i]? = some q):fq (l.take (i+1))=fu (fq (l.take i)) q.1 q.2:=by
 ext fq;rw[List.take_add_one,h,List.foldl_append];rfl
theorem BJ(bs:6e2)(k:PV)(x:Addr):(fu bs k x).length<=bs.length+1:=by
 ext fu;split<;>simp
theorem yC(l:6e2):(fq l).length<=l.length:=by
 have:∀(l acc:6e2),(l.foldl (λbs q=>fu bs q.1 q.2) acc).length<=acc.length+l.length:=by
  intro l;induction l with
  |nil=>intro acc;simp
  |cons q l ih=>
   intro acc;have h1:=ih (fu acc q.1 q.2);have h2:=BJ acc q.1 q.2;rw[VG,Yu];lia
 have h:=this l [];ext fq;rw[Wv,XV]at h;show h
theorem BI{bs:6e2}{k:PV}{x:Addr}{q:PV×Addr}(h:q∈fu bs k x):q∈bs\/q=(k,x):=by
 ext fu h;split at h
 ·show .inl h
 ·rcases Ym.mp h with h|h
  ·show .inl h
  ·show .inr (Yj.mp h)
theorem lR{l:6e2}:∀q∈fq l,q∈l:=by
 have:∀(l acc:6e2)(q:PV×Addr),q∈l.foldl (λbs q=>fu bs q.1 q.2) acc->q∈acc\/q∈l:=by
  intro l;induction l with
  |nil=>intro acc q h;show .inl h
  |cons r l ih=>
   intro acc q h;rcases ih _ q h with h|h
   ·rcases BI h with h|rfl
    ·show .inl h
    ·show .inr 6e7
   ·show .inr (.tail _ h)
 intro q h;rcases this l [] q h with h|h
 ·cases h
 ·show h
theorem rZ{l:Addr}{as:2e1}{qs:6e2}{Q:1e1}(hh:5e9)(hu:A.units+32<cLine)(src:s.heap.IsList l (as.map YU).toArray\/s.heap.IsTuple l (as.map YU).toArray)(hq:qs.map (·.2)=as)(hk:∀q∈qs,NK s.heap q.1 q.2)(hb:qs.length<306)
  (h:∀h' tk,qV w h' s.heap.objs.size (!w.params.followText "set-order") (fq qs)->(∀b o,s.heap.get? b=some o->h'.get? b=some o)->Q 4e9 {s with heap:=h',toks:=tk}):
  wpAny 1e3 A (call (.type "set") [.ref l]) Q E s:=by
 have hsz:(as.map YU).toArray.size=qs.length:=by rw[Yp,Yi,←hq,Yi]
 show Kl (J:=λi h=>qV w h s.heap.objs.size (!w.params.followText "set-order") (fq (qs.take i))/\∀b o,s.heap.get? b=some o->h.get? b=some o) hh src (λh' old g=>⟨?_,λb o e=>old b o (Yr e) e⟩) (λA' i v s' Q E a9 bA hv j k=>?_) (λi h1 h2 j k=>⟨j.1.at λo e=>k _ o (Yv (Vo _)) e,λb o e=>k b o (Yv (Wn (Yr e))) (j.2 b o e)⟩) λh' tk j k=>?_
 ·show⟨_,#[],0,_,g,⟨rfl,rfl,rfl⟩,rfl,rfl,TI.fresh _,by simp[fq],by simp[fq]⟩
 ·have hik:i<qs.length:=by rw[←hsz];show bA
  obtain⟨q,eq⟩:∃q,qs[i]? = some q:=⟨_,Ye hik⟩
  have ea:(as.map YU).toArray[i]? = some (.ref q.2):=by
   rw[X3,Yy,←hq,Yy,eq];rfl
  rw[ea]at hv;cases hv;have hm:q∈qs:=YH eq;have n0:=(hk q hm).keep j.2;ext setAdd;have room:A'.units+8<cLine:=by lia
  show Xf (Ya (Ei 8 q.1 (.ref q.2) _ _ _ _ n0.1 n0.2.1 n0.2.2 room ?_));have hl:=yC (qs.take i);have ot:(qs.take i).length<=i:=by rw[Xo];lia
  show ZA (s:={s' with toks:=s'.toks+ic q.1}) room j.1 (λp hp=>(hk p (UY (lR p hp))).keep j.2) n0 (by lia) λb h' sb S'=>k b h' _ sb ⟨?_,λc o e=>?_⟩ (Ybr _ _)
  ·rw[ub eq];show S'
  ·rw[sb.2 c (Yv (Yr e))];show j.2 c o e
 ·show h h' tk ?_ j.2
  have j1:=j.1;rw[hsz,UV]at j1;show j1
end
end Sn
namespace Pu
open PySem PySem.Spec PySem.W PySem.Calls L2 PySem.SeqAt Se
open PyProof.Rows hiding St Fr
theorem k7{K:W.Frag}{ι:2e1}{H:Hp}:∀{bs:6e2},(∀q∈bs,Rep K ι H q.1 (.ref q.2))->ae K ι H (bs.map (·.1)) (bs.map λp=>V.ref p.2)
 |[],_=>.nil
 |p::bs,h=>.cons (h p 6e7) (k7 λq hq=>h q (.tail _ hq))
theorem qP:∀(bs:6e2),Vals (bs.map λp=>V.ref p.2) (bs.map λp=>YU p.2)
 |[]=>.nil
 |p::bs=>.cons rfl (qP bs)
section
variable{X:Cx}
theorem oH{ι:2e1}{pins:1e8}{s:Shared}{σ:St}{H:Hp}{D:Addr}{bs:6e2}{qs:List PV}{Q:VK}(gQ:5e1)(hu:5e6)(I:2e0)(SU:Sn.qV X.w s.heap D (Gz X) bs)(hf:∀q∈bs,Rep X.K ι H q.1 (.ref q.2))(hs:bN (bs.map (·.1))=some qs)
  (q:∀ws l,ae X.K ι H qs ws->H l=none->Q (.ref l) (upd H l (.lst ws))):wpAny 2e2 X.A (call (.builtin "sorted") [.ref D]) (EP X pins σ Q) X.xe s:=by
 obtain⟨o,es,ep,t,ho,hex,hd,hL,TT,nd,GG⟩:=SU;have ev:(es.toList.map (·.2)).Perm (bs.map λp=>YU p.2):=by
  have:=GG.map (·.2);rw[Xc]at this;show this
 show PM hu I hs (λQ' q'=>qE (I.ok.hd gQ) ⟨o,ho,hex,hd⟩ TT (λz=>by rw[hL];ext Gz;rw[z];rfl) λh' d tk vs k hle pm=>?_) q;obtain⟨bs',p,rfl⟩:=mY (pm.trans ev) bs rfl;show q' h' d tk _ _ _ k hle (p.map _) (qP bs') (k7 λq hq=>hf q (p.mem_iff.mp hq))
end
noncomputable def isTup:PV->Bool
 |.tup _=>true
 |_=>false
def putN(acc:List PV)(p:PV):List PV:=if acc.any λq=>aE q p then acc else acc++[p]
def Ke(ps:List PV):List PV:=ps.foldl putN []
def nz(ps:List PV):Option 3e0:=if aP ps&&ps.all isTup&&decide (cj ps<=8)&&decide (ps.length<306)then bN (Ke ps)else none
def t5(C:Cs):List SV->Option 3e0
 |[x]=>match aM C x with
  |some (.lst ps)=>nz ps
  |_=>none
 |_=>none
def tq(fs:1e9):aq->M 3e0:=λρ=>aI (fs ρ) λxs=>dM λC=>t5 C xs
theorem Ax{as bs:List PV}:aP (as++bs)=true↔aP as=true/\aP bs=true:=by
 induction as with
 |nil=>simp[aP]
 |cons a as ih=>rw[Vr,Sn.cM,Sn.cM,ih,and_assoc]
theorem BK{bs:6e2}{k:PV}{x:Addr}(h:aP (bs.map (·.1))=true)(hk:aY k=true):(Sn.fu bs k x).map (·.1)=putN (bs.map (·.1)) k/\aP ((Sn.fu bs k x).map (·.1))=true:=by
 have Ou:((bs.map (·.1)).any λq=>aE q k)=true↔k∈bs.map (·.1):=by
  rw[V7];constructor
  ·rintro⟨q,hq,e⟩
   rw[←(w9 q (FW h q hq) hk).mp e];show hq
  ·show λhq=>⟨k,hq,L9 hk⟩
 unfold Sn.fu putN;by_cases q:k∈bs.map (·.1)
 ·rw[if_pos q,if_pos (Ou.mpr q)];show⟨rfl,h⟩
 ·rw[if_neg q,if_neg (λz=>q (Ou.mp z)),YX]
  show⟨rfl,Ax.mpr ⟨h,by rw[Yaq,Sn.cM];show⟨hk,rfl⟩⟩⟩
theorem yD{qs:6e2}(h:aP (qs.map (·.1))=true):(Sn.fq qs).map (·.1)=Ke (qs.map (·.1))/\aP ((Sn.fq qs).map (·.1))=true:=by
 have:∀(qs bs:6e2),aP (qs.map (·.1))=true->aP (bs.map (·.1))=true->(qs.foldl (λbs q=>Sn.fu bs q.1 q.2) bs).map (·.1)=(qs.map (·.1)).foldl putN (bs.map (·.1))/\aP ((qs.foldl (λbs q=>Sn.fu bs q.1 q.2) bs).map (·.1))=true:=by
  intro qs;induction qs with
  |nil=>intro bs _ hb;show⟨rfl,hb⟩
  |cons q qs ih=>
   intro bs hq hb;rw[Yq,Sn.cM]at hq;obtain⟨e1,e2⟩:=BK (x:=q.2) hb hq.1;obtain⟨e3,e4⟩:=ih (Sn.fu bs q.1 q.2) hq.2 e2;rw[VG,Yq,VG,←e1];show⟨e3,e4⟩
 show this qs [] h rfl
theorem vf{K:W.Frag}{ι:2e1}{H:Hp}:∀{ps:List PV}{ws:List V},ae K ι H ps ws->ps.all isTup=true->∃qs:List (PV×Addr),ps=qs.map (·.1)/\ws=qs.map (λq=>V.ref q.2)/\∀q∈qs,Rep K ι H q.1 (.ref q.2)
 |[],ws,r,_=>by rw[r.fH];show⟨[],rfl,rfl,λ_ h=>(nomatch h)⟩
 |p::ps,ws,r,h=>by
  obtain⟨v,w,rfl,h1,h2⟩:=r.inv;rw[VR,YI]at h;obtain⟨qs,rfl,rfl,hq⟩:=vf h2 h.2;cases p with
  |tup xs=>
   have QE:=h1;ext Rep h1;obtain⟨a,vs,rfl,_,_⟩:=h1;show⟨(.tup xs,a)::qs,rfl,rfl,λq hm=>(Yk.mp hm).elim (λe=>e▸QE) (hq q)⟩
  |_=>cases h.1
theorem ZdY{h:Heap}:∀{qs:6e2},ao h (qs.map (·.1)) (qs.map λq=>YU q.2)->∀q∈qs,ab h q.1 (.ref q.2)
 |[],_,q,hq=>(nomatch hq)
 |p::qs,r,q,hq=>by
  rw[Yq,Yq]at r;ext ao r;obtain⟨v,w,e,h1,h2⟩:=r;cases e;rcases Yk.mp hq with rfl|hq
  ·show h1
  ·show ZdY h2 q hq
theorem ZdJ:∀{qs:6e2}{us:2e6},Vals (qs.map λq=>V.ref q.2) us->us=qs.map λq=>YU q.2
 |[],_,.nil=>rfl
 |a::as,_,.cons r t=>by cases(show _=YU a.2 from r);rw[ZdJ t];rfl
theorem CK:∀{ps:List PV},aP ps=true->gj ps=true:=by
 have one:∀(n:Nat)(p:PV),dep p<=n->aY p=true->dat p=true:=by
  intro n;induction n with
  |zero=>
   intro p hd hp;cases p with
   |tup ps=>ext dep hd;lia
   |_=>first|rfl|simp[aY]at hp
  |succ n ih=>
   intro p hd hp;cases p with
   |tup ps=>
    ext dep hd;ext aY hp;ext dat;rw[QT,YW];intro q hq;show ih q ((i8 ps).mp (Nat.le_of_succ_le_succ hd) q hq) (FW hp q hq)
   |_=>first|rfl|simp[aY]at hp
 intro ps h;rw[QT,YW];intro q hq;show one (dep q) q (Yl _) (FW h q hq)
end Pu
namespace Pu
open PySem PySem.Spec PySem.W PySem.Calls L2
open PyProof.Rows hiding St Fr
section
variable{prog:YF}{w:World}{K:Type} [DecidableEq K]{knd:HeapKind prog w K}{A:Around}{E:1e1}{s:Shared}{d a:Addr}
theorem Zb5{xs:List (K×Addr×Value)}{k:K}{v:Value}{Q:1e1}(hu:knd.room A)(gE:knd.is s.heap k a)(hm:s.heap.DictOfH knd d xs)
  (h1:∀p,atKey xs k=some p->Q p.2 {s with toks:=s.toks+knd.draws k})
  (h2:atKey xs k=none->∀h',h'.DictOfH knd d (zF xs k a v)->XJ d s.heap h'->Q v {s with heap:=h',toks:=s.toks+knd.draws k})
  (hsz:xs.length<=YA):
  wpAny 1e3 A (dictSetDefault d (.ref a) v) Q E s:=by
 obtain⟨o,es,ep,c1,c2,c3,c4,c5,c6⟩:=hm
 delta dictSetDefault
 try with_reducible apply Xf
 apply Ya;show knd.pyHash hu gE ?_;apply Ya;show wpAny_dictFind_heap (s:={s with toks:=s.toks+knd.draws k}) hu gE c1 c3 c4 c5 c6 (λaway=>?_) λj p at'=>?_
 ·have gone:=atKey_none_of_get away
  have room:es.size<=sizeLine:=by have e:=Uy c4;lia
  have one:zF xs k a v=xs++[(k,a,v)]:=storedH_new gone a v;apply Ya;apply WR;apply Ya;have both:∀x∈xs++[(k,a,v)],knd.is s.heap x.1 x.2.1:=λx hx=>(Ym.mp hx).elim (c5 x) λz=>by
   rw[Yj.mp z];show gE
  have keys:((xs++[(k,a,v)]).map (·.1)).Nodup:=by
   rw[YX];show Xh.mpr ⟨c6,by simp,λx hx y hy e=>not_mem_keys_of_get away (by have z:=Yj.mp hy;rw[e,z]at hx;show hx)⟩
  show wpAny_updateDictKeys (hz:=by lia) (s:={s with toks:=s.toks+knd.draws k}) c1 c3 (Yc (h2 gone _ ?_ (Xa ..)));have at':=Xu (Obj.mapDictKeys λes=>es.push ⟨knd.hash k,.ref a,v⟩) c1 (Obj.isFreed_of_dict (Obj.data_mapDictKeys c3 _));show⟨_,_,ep+1,at',c2.mapDictKeys _,Obj.data_mapDictKeys c3 _,?_,?_,?_⟩
  ·rw[one,UE,c4,YX];rfl
  ·rw[one]
   show λx hx=>knd.keeps (both x hx) c1 c3 (Xa ..)
  ·rw[one];show keys
 ·apply Ya
  show VU (s:={s with toks:=s.toks+knd.draws k}) c1 c3 ?_;rw[entry_at c4 j,at'];apply Ya;show WR (Yc (h1 p (atKey_of_get c6 at')))
end
section
variable{prog:YF}{w:World}{K:Type} [DecidableEq K](knd:HeapKind prog w K)(d a:Addr)
theorem Zcz(hd:(d==X1)=false)(dflt:Value):
  MeetsIn prog w (WL.«dict.setdefault» ⟨[.ref d,.ref a,dflt],[]⟩) (λA R s=>knd.room A.in1/\∃k xs,knd.is s.heap k a/\s.heap.DictOfH knd d xs/\xs.length<=YA/\
   (∀p,atKey xs k=some p->R (.ok (.ret p.2)) {s with toks:=s.toks+knd.draws k})/\
   (atKey xs k=none->∀h',h'.DictOfH knd d (zF xs k a dflt)->XJ d s.heap h'->R (.ok (.ret dflt)) {s with heap:=h',toks:=s.toks+knd.draws k})):=
 .of_wp λA R s h_=>by
  obtain⟨hu,k,xs,gE,hm,hz,h1,h2⟩:=h_
  delta WL.«dict.setdefault» Builtin.Dict.keyAndDefault
  apply Ya;apply Ya;show VL hm.typeIs (Yc ?_);simp only[hd,Yx,if_false];show Ya (Zb5 hu gE hm (λp hp=>Yc ⟨p.2,rfl,h1 p hp⟩) (λhn h' DB ed=>Yc ⟨dflt,rfl,h2 hn h' DB ed⟩) hz)
end
def vj:V->List V->Hp->VK->Prop:=λx vs H Q=>∃a b y ag k,x=.ref a/\vs=[.ref b,y]/\H a=some (.dT ag)/\H b=some (.tup (k.map kV))/\ag.length<YA/\
 (∀u,dw ag k=some u->Q u H)/\(dw ag k=none->Q y (upd H a (.dT (putK ag k y))))
section
variable{X:Cx}
theorem yd(hu:5e6):MtR X "dict.setdefault" vj:=by
 intro pins s σ H x vs v us Q I rx rv h;obtain⟨a,b,y,ag,k,rfl,rfl,e,eb,hl,h1,h2⟩:=h;cases rx;cases rv with
 |cons r1 r2=>
  cases r1;obtain⟨r,rfl,ry⟩:=Vals.one r2;obtain⟨z,hd,xs,rel,dd⟩:=Ct I.aQ e;have hz:xs.length<=sizeLine:=by rw[←Wr rel];show z
  have hv:=rel.val k;show call_meetsIn U4 dd.typeIs PySem.F.entry_dict_setdefault (PySem.F.args_dict_setdefault_3 _ _ _) (Zcz (Vm (aD X.prog X.w)) a b hd r) ⟨Vz 1e0,k,xs,Kw I.aQ eb,dd,hz,λp hp=>?_,λhn h' CJ hs=>?_⟩
  ·rw[hp]at hv
   cases hq:dw ag k with
   |none=>rw[hq]at hv;show absurd hv (by simp[iJ])
   |some u=>
    rw[hq]at hv;show⟨u,H,I.tok _,hv,h1 u hq⟩
  ·rw[hn]at hv
   have hq:dw ag k=none:=by
    cases hq:dw ag k with
    |none=>rfl
    |some u=>rw[hq]at hv;show absurd hv (by simp[iJ])
   have ot:(putK ag k y).length<=sizeLine:=by have:=Mc ag k y;lia
   obtain⟨q,es,ep,Ly,g2,g3,g4,_,g5⟩:=CJ;show⟨y,upd H a (.dT (putK ag k y)),Pg (ob:=.dT (putK ag k y)) I (by rw[e];show U5) hs ⟨q,Ly⟩ ⟨ot,hd,_,(rel.put k eb ry).keeps λc ys ec=>?_,q,es,ep,Ly,g2,g3,g4,g5⟩,ry,h2 hq⟩;rw[bf (A8 ec e (λz=>nomatch z))];show ec
end
noncomputable def gF (L:Nat)(ρ:aq):aq:=ρ.map λo=>match o with
 |some (.c k)=>if k<L then some (.c k)else none
 |o=>o
noncomputable def Np (n L:Nat)(ρ:aq):Bool:=(match ρ[n]? with
 |some (some (.c k))=>decide (k=L)
 |_=>false)&&(ρ.set n none).all λo=>match o with
 |some (.c k)=>decide (k<L)
 |_=>true
noncomputable def ka:List (List Key)->List 3e0->List Key->PV->List 3e0
 |k'::ks,l::ls,k,p=>if k'=k then(l++[p])::ls else l::ka ks ls k p
 |_,_,k,p=>[[p]]
def dy(n L:Nat)(g:2e7)(fk fv:2e3):List PV->aq->List (List Key)->List 3e0->Option (aq×List (List Key)×List 3e0)
 |[],ρ,ks,ls=>if Np n L ρ then some (ρ.set n (some (.v (.aG ks (ls.map .lst)))),ks,ls)else none
 |x::xs,ρ,ks,ls=>match g x ρ with
  |none=>none
  |some ρ1=>match ρ1[n]? with
   |some (some (.c j))=>if j=L then(match fk (gF 0 ρ1) []with
    |some (.v (.tup qs),_)=>match bP qs with
     |some k=>match fv (gF 0 ρ1) []with
      |some (.v p,_)=>if aY p&&decide (ks.length<1000)&&ls.all (λl=>decide (l.length<1000))then dy n L g fk fv xs ρ1 (aO ks k) (ka ks ls k p)else none
      |_=>none
     |none=>none
    |_=>none)else none
   |_=>none
def Bg(n:Nat)(it:7e0)(g:2e7)(fk fv:2e3):aq->M PF:=λρ C=>match it (ρ.set n (some 9e7)) (C++[.aG [] []])with
 |some (xs,D)=>match D.getLast? with
  |some (.aG [] [])=>match dy n C.length g fk fv xs (ρ.set n (some 9e7)) [] []with
   |some (ρ',_,_)=>some (.nx ρ',D.dropLast)
   |none=>none
  |_=>none
 |none=>none
theorem BP{k k':6e8}{ks:5e4}:bX k (k'::ks)=(decide (k'=k)||bX k ks):=rfl
theorem mG:∀(ks:5e4)(qs:2e1)(ls:List 3e0)(k:6e8),ks.length=qs.length->ls.length=qs.length->
  (∃j q l,dw (ks.zip (qs.map V.ref)) k=some (.ref q)/\qs[j]? = some q/\ls[j]? = some l/\bX k ks=true/\∀p,ka ks ls k p=ls.set j (l++[p]))\/
  (dw (ks.zip (qs.map V.ref)) k=none/\bX k ks=false/\∀p,ka ks ls k p=ls++[[p]])
 |[],[],[],k,_,_=>.inr ⟨rfl,rfl,λp=>rfl⟩
 |[],_::_,_,k,h,_=>by simp at h
 |_::_,[],_,k,h,_=>by simp at h
 |[],[],_::_,k,_,h=>by simp at h
 |_::_,_::_,[],k,_,h=>by simp at h
 |k'::ks,q::qs,l::ls,k,h1,h2=>by
  rw[Yq,Xn,BP];by_cases e:k'=k
  ·show .inl ⟨0,q,l,Mb (p:=(k',V.ref q)) e,rfl,rfl,by simp[e],λp=>?_⟩
   ext ka;rw[if_pos e];rfl
  ·rw[Ma (p:=(k',V.ref q)) e]
   rcases mG ks qs ls k (by simpa using h1) (by simpa using h2)with⟨j,q',l',a1,a2,a3,a4,a5⟩|⟨a1,a2,a3⟩
   ·show .inl ⟨j+1,q',l',a1,a2,a3,by rw[a4];simp,λp=>?_⟩
    ext ka;rw[if_neg e,a5];rfl
   ·show .inr ⟨a1,by rw[a2];simp[e],λp=>?_⟩
    ext ka;rw[if_neg e,a3];rfl
mutual
theorem ve{K:W.Frag}{ι ι':2e1}{H H':Hp}(ht:∀a vs,H a=some (.tup vs)->H' a=some (.tup vs)):∀(p:PV){v:V},aY p=true->Rep K ι H p v->Rep K ι' H' p v
 |.int i,v,_,r=>by unfold Rep at r⊢;show r
 |.str x,v,_,r=>by unfold Rep at r⊢;show r
 |.tup ps,v,hp,r=>by
  unfold Rep at r⊢;ext aY hp;obtain⟨a,vs,rfl,h,rs⟩:=r;show⟨a,vs,rfl,ht a vs h,oT ht ps hp rs⟩
 |.aF,v,hp,_=>by simp[aY]at hp
 |.bl _,v,hp,_=>by simp[aY]at hp
 |.lst _,v,hp,_=>by simp[aY]at hp
 |.cV _ _,v,hp,_=>by simp[aY]at hp
 |.aG _ _,v,hp,_=>by simp[aY]at hp
 |.fn _,v,hp,_=>by simp[aY]at hp
 |.ty _,v,hp,_=>by simp[aY]at hp
theorem oT{K:W.Frag}{ι ι':2e1}{H H':Hp}(ht:∀a vs,H a=some (.tup vs)->H' a=some (.tup vs)):∀(ps:List PV){vs:List V},aP ps=true->ae K ι H ps vs->ae K ι' H' ps vs
 |[],vs,_,r=>by unfold ae at r⊢;show r
 |p::ps,vs,hp,r=>by
  rw[Sn.cM]at hp;unfold ae at r⊢;obtain⟨v,w,rfl,h1,h2⟩:=r;show⟨v,w,rfl,ve ht p hp.1 h1,oT ht ps hp.2 h2⟩
end
theorem vc{K:W.Frag}{ι:2e1}{H:Hp}:∀{qs:2e1}{vs:List V},ae K ι H (qs.map .fn) vs->vs=qs.map V.ref
 |[],vs,r=>r.fH
 |q::qs,vs,r=>by
  obtain⟨v,w,rfl,h1,h2⟩:=r.inv;ext Rep h1;subst h1;rw[vc h2];rfl
theorem wK{K:W.Frag}{ι:2e1}{H:Hp}:∀(qs:2e1),ae K ι H (qs.map .fn) (qs.map V.ref)
 |[]=>.nil
 |q::qs=>.cons (by ext Rep;rfl) (wK qs)
section
variable{K:W.Frag}{ι:2e1}{H:Hp}{ρ:aq}{σ:St}{C:Cs}
theorem SR.vals(sr:SR K ι H ρ σ C):SR K [] H (gF 0 ρ) σ []:=by
 show⟨⟨rfl,.nil,λk a c h=>by simp at h⟩,by rw[←sr.len];simp[gF],λi s e=>?_⟩;ext gF e;rw[Yy]at e;obtain⟨o,e1,e2⟩:=XE.mp e;cases o with
 |none=>cases e2
 |some x=>
  cases x with
  |c k=>simp at e2
  |v p=>
   have e2:some (SV.v p)=some s:=e2;cases e2;obtain⟨v,h1,h2⟩:=sr.loc i _ e1;show⟨v,h1,Rep.tr sr.cr (λb o _ z=>⟨by simp,z⟩) p v h2⟩
end
section
variable{K:W.Frag}{ι ι':2e1}{H:Hp}{ρ:aq}{σ:St}{C C1:Cs}{dd:Addr}{qs:2e1}{ks:5e4}{ls:List 3e0}
theorem aX.less{a:Addr}{c:PV}(cr:7e7)(h:∀b o,b∉ι->H b=some o->b∉ι'/\H b=some o)(x:aX K ι H a c):aX K ι' H a c:=by
 cases c with
 |lst ps=>obtain⟨vs,e,r⟩:=x;show⟨vs,e,ae.tr cr h _ _ r⟩
 |cV k ps=>obtain⟨q,vs,e,l,z,r⟩:=x;show⟨q,vs,e,l,z,ae.tr cr h _ _ r⟩
 |aG k ps=>obtain⟨vs,e,l,r⟩:=x;show⟨vs,e,l,ae.tr cr h _ _ r⟩
 |_=>show x.elim
theorem oV:∀{ls:List 3e0}{qs:2e1},ls.length=qs.length->(∀(j:Nat)q l,qs[j]? = some q->ls[j]? = some l->Rep K ι H (.lst l) (.ref q))->ae K ι H (ls.map .lst) (qs.map V.ref)
 |[],[],_,_=>.nil
 |[],_::_,h,_=>by simp at h
 |_::_,[],h,_=>by simp at h
 |l::ls,q::qs,h,f=>.cons (f 0 q l rfl rfl) (oV 7e6 λj q' l' a b=>f (j+1) q' l' a b)
theorem wV:((ι++[dd])++qs)[ι.length]? = some dd:=by simp
theorem Pd(j:Nat):((ι++[dd])++qs)[ι.length+1+j]? = qs[j]?:=by
 rw[YE 2e9,Yf,X2,show ι.length+1+j-(ι.length+1)=j by lia]
theorem Pe{c:PV}{E:List PV}:((C1++[c])++E)[C1.length]? = some c:=by simp
theorem Zz(j:Nat){c:PV}{E:List PV}:((C1++[c])++E)[C1.length+1+j]? = E[j]?:=by
 rw[YE 2e9,Yf,X2,show C1.length+1+j-(C1.length+1)=j by lia]
theorem Ic{c c':PV}{E:List PV}:((C1++[c])++E).set C1.length c'=(C1++[c'])++E:=by
 rw[Yd,UO _ _ (Yl _),Rm,Yd];rfl
theorem MU(j:Nat){c c':PV}{E:List PV}:((C1++[c])++E).set (C1.length+1+j) c'=(C1++[c])++E.set j c':=by
 rw[UO _ _ 2e9,Yf,X2,show C1.length+1+j-(C1.length+1)=j by lia]
def kh(K:W.Frag)(ι:2e1)(C1:Cs)(dd:Addr)(qs:2e1)(ks:5e4)(ls:List 3e0)(H:Hp)(ρ:aq)(σ:St):Prop:=
 SR K ((ι++[dd])++qs) H ρ σ ((C1++[.aG ks (qs.map .fn)])++ls.map .lst)
theorem kh.dict(s:kh K ι C1 dd qs ks ls H ρ σ)(hL:ι.length=C1.length):H dd=some (.dT (ks.zip (qs.map V.ref)))/\ks.length=qs.length/\ls.length=qs.length:=by
 obtain⟨vs,e,l,r⟩:=(show aX K _ H dd (.aG ks (qs.map .fn))from s.cr.ok ι.length dd _ wV (by rw[hL];show Pe))
 rw[vc r]at e l;have h:=s.cr.len;simp at h l;show⟨e,l,by lia⟩
theorem kh.list(s:kh K ι C1 dd qs ks ls H ρ σ)(hL:ι.length=C1.length){j:Nat}{q:Addr}{l:List PV}(hq:qs[j]? = some q)(hl:ls[j]? = some l):∃vs,H q=some (.lst vs)/\ae K ((ι++[dd])++qs) H l vs:=
 s.cr.ok (ι.length+1+j) q (.lst l) (by rw[Pd];show hq) (by rw[hL,Zz,Yy,hl];rfl)
theorem kh.same{H':Hp}(s:kh K ι C1 dd qs ks ls H ρ σ)(sm:∀b o,H b=some o->H' b=some o):kh K ι C1 dd qs ks ls H' ρ σ:=SR.step s (λb o _ e=>sm b o e) (s.cr.same sm)
theorem kh.app(s:kh K ι C1 dd qs ks ls H ρ σ)(hL:ι.length=C1.length){j:Nat}{q:Addr}{l:List PV}{vs:List V}{p:PV}{v:V}(hq:qs[j]? = some q)(hl:ls[j]? = some l)(hH:H q=some (.lst vs))(hp:aY p=true)(r:Rep K [] H p v):kh K ι C1 dd qs ks (ls.set j (l++[p])) (upd H q (.lst (vs++[v]))) ρ σ:=by
 obtain⟨uZ,e,rs⟩:=s.list hL hq hl;rw[hH]at e;cases e;obtain⟨c,f⟩:=j5 s.cr (k:=ι.length+1+j) (a:=q) (by rw[Pd];show hq) (rs.append (.cons (ve (λa vs h=>h) p hp r) .nil));rw[hL,MU,←List.map_set (f:=PV.lst)]at c;show SR.step s f c
theorem kh.new(s:kh K ι C1 dd qs ks ls H ρ σ)(hL:ι.length=C1.length){l0:Addr}{k:6e8}(h0:H l0=none)(hk:bX k ks=false):kh K ι C1 dd (qs++[l0]) (aO ks k) (ls++[[]]) (upd (upd H l0 (.lst [])) dd (.dT (putK (ks.zip (qs.map V.ref)) k (.ref l0)))) ρ σ:=by
 obtain⟨hd,hl,ot⟩:=s.dict hL;have c1:=s.cr.add (p:=l0) (c:=.lst []) (o:=.lst []) h0 ⟨[],fP,.nil⟩;have x1:Ex ((ι++[dd])++qs) [l0] H (upd H l0 (.lst [])):=⟨Fr.new h0,λb hb=>by rw[Yj.mp hb];show h0⟩
 have s1:=SR.ex s x1 c1;obtain⟨z1,z2⟩:=iP (k:=k) (v:=V.ref l0) (ks:=ks) (vs:=qs.map V.ref) (by rw[Yi];show hl);have ev:bo ks (qs.map V.ref) k (V.ref l0)=(qs++[l0]).map V.ref:=by ext bo;rw[hk];simp
 rw[ev]at z1 z2;have c2:=c1.put (k:=ι.length) (a:=dd) (c:=.aG (aO ks k) ((qs++[l0]).map .fn)) (o:=.dT (putK (ks.zip (qs.map V.ref)) k (.ref l0))) (by rw[Yd];show wV) ⟨(qs++[l0]).map V.ref,by rw[←z1];show fP,z2,wK _⟩;have f2:Fr ((ι++[dd]++qs)++[l0]) (upd H l0 (.lst [])) (upd (upd H l0 (.lst [])) dd (.dT (putK (ks.zip (qs.map V.ref)) k (.ref l0)))):=λb u n e=>by
  rw[bf (λz=>n (by rw[z];simp))];show e
 have s2:=SR.step s1 f2 c2;ext kh;rw[hL,Yd (C1++[_]),Ic]at s2;rw[←Yd,YX (f:=PV.lst)];show s2
theorem kh.give{n:Nat}(s:kh K ι C1 dd qs ks ls H ρ σ)(hL:ι.length=C1.length)(aQ:Np n C1.length ρ=true):SR K ι H (ρ.set n (some (.v (.aG ks (ls.map .lst))))) σ C1:=by
 obtain⟨hd,hl,ot⟩:=s.dict hL;have nd:=s.cr.nd;ext Np aQ;rw[YI]at aQ;obtain⟨yu,Tq⟩:=aQ;have oq:ι.Nodup/\dd∉ι:=by
  have h1:=(Xh.mp nd).1;have h2:=Xh.mp h1;show⟨h2.1,λz=>h2.2.2 dd z dd 2e9 rfl⟩
 have out:∀b o,b∉(ι++[dd])++qs->H b=some o->b∉ι/\H b=some o:=λb o n e=>⟨λz=>n (by simp[z]),e⟩
 have S8:Rep K ι H (.aG ks (ls.map .lst)) (.ref dd):=by
  ext Rep;show⟨dd,qs.map V.ref,rfl,oq.2,.inl hd,by rw[Yi];show hl,oV ot λj q l hq hl=>?_⟩;obtain⟨vs,e,r⟩:=s.list hL hq hl;ext Rep;show⟨q,vs,rfl,.inl ⟨λz=>?_,.inl e⟩,ae.tr s.cr out _ _ r⟩;show(Xh.mp nd).2.2 q (by simp[z]) q (YH hq) rfl
 have hsn:∃v,σ[n]? = some (some v)/\v=.ref dd/\n<ρ.length:=by
  cases hr:ρ[n]? with
  |none=>rw[hr]at yu;cases yu
  |some o=>
   have bA:n<ρ.length:=by
    rcases YQ n ρ.length with z|z
    ·show z
    ·rw[YS.mpr z]at hr;cases hr
   rw[hr]at yu;cases o with
   |none=>cases yu
   |some x=>
    cases x with
    |v p=>cases yu
    |c k=>
     have hk:k=C1.length:=of_decide_eq_true yu;subst hk;obtain⟨v,h1,a,h2,h3⟩:=s.loc n _ hr;rw[←hL,wV]at h3;show⟨v,h1,by rw[h2,YO h3],bA⟩
 obtain⟨vn,hσ,rfl,bA⟩:=hsn;show⟨⟨hL,oq.1,λk a c h1 h2=>?_⟩,by rw[Uo];show s.len,λi x e=>?_⟩
 ·have hk:k<C1.length:=by
   rcases YQ k C1.length with z|z
   ·show z
   ·rw[YS.mpr z]at h2;cases h2
  show aX.less s.cr out (s.cr.ok k a c ?_ ?_)
  ·rw[Yd,Yo 1e0];show h1
  ·rw[Yd,Yo hk];show h2
 ·by_cases hi:i=n
  ·subst hi
   rw[Xd bA]at e;cases e;show⟨_,hσ,S8⟩
  ·rw[Y3 (WC hi)]at e
   obtain⟨v,h1,h2⟩:=s.loc i x e;show⟨v,h1,?_⟩;cases x with
   |v p=>show Rep.tr s.cr out p v h2
   |c k=>
    obtain⟨a,rfl,ha⟩:=h2;show⟨a,rfl,?_⟩;have hm:some (SV.c k)∈ρ.set n none:=by
     show YH (i:=i) ?_;rw[Y3 (WC hi)];show e
    have hk:k<C1.length:=of_decide_eq_true (YW.mp Tq _ hm);rw[Yd,Yo 1e0]at ha;show ha
end
abbrev MG:=(aq->M 3e0)×(PV->aq->Option aq)×(aq->M Bool)
def bY(g:2e7)(tt:4e1)(f:aq->List PV->M (aq×List PV)):List PV->aq->List PV->M (aq×List PV)
 |[],ρ,ys=>ret (ρ,ys)
 |x::xs,ρ,ys=>match g x ρ with
  |none=>λ_=>none
  |some ρ1=>aI (tt ρ1) λb=>if b then aI (f ρ1 ys) λr=>bY g tt f xs r.1 r.2 else bY g tt f xs ρ1 ys
def cK(te:2e3):List MG->aq->List PV->M (aq×List PV)
  |[],ρ,ys=>aI (te ρ) λy=>match y with
    |.v p=>if ys.length<100000 then ret (ρ,ys++[p])else λ_=>none
    |.c _=>λ_=>none
  |(it,g,tt)::rest,ρ,ys=>aI (it ρ) λxs=>bY g tt (cK te rest) xs ρ ys
def jJ(it:7e0)(vs:4e3)(fr:3e9)(g:2e7)(tt:4e1)(rest:List MG)(te:2e3):aq->M 3e0:=λρ=>aI (it ρ) λxs=>aI (bY g tt (cK te rest) xs (cX vs fr ρ) []) λr=>ret r.2
def JQ(K:W.Frag)(m:MG):GT:=(MI K m.1,zV K m.2.1,xq K m.2.2)
section
variable{K:W.Frag}{ι:2e1}
def P4(K:W.Frag)(ι:2e1)(H0:Hp)(ρ:aq)(ps:List PV)(C:Cs)(σ:St)(ys:List V)(H:Hp):Prop:=Fr ι H0 H/\SR K ι H ρ σ C/\ae K ι H ps ys/\ps.length<=100000
theorem Pz{g:2e7}{tt:4e1}{te:TE}{rest:List GT}{f:aq->List PV->M (aq×List PV)}
  (hf:∀(ρ:aq)(ps:List PV)(C:Cs)(ρ':aq)(dQ:List PV)(C':Cs)(σ:St)(ys:List V)(H:Hp)(N:St->List V->Hp->Prop),f ρ ps C=some ((ρ',dQ),C')->SR K ι H ρ σ C->ae K ι H ps ys->ps.length<=100000->(∀σ' fT H',P4 K ι H ρ' dQ C' σ' fT H'->N σ' fT H')->xf te rest ys σ H N)
  {J:It} {xs:List PV} {H1:Hp} {C C':Cs} {ρ ρ':aq} {ps dQ:List PV} {σ:St} {ys:List V} {N:St->List V->Hp->Prop} (fW:Iter K ι H1 xs J) (sr:SR K ι H1 ρ σ C) (rs:ae K ι H1 ps ys) (hl:ps.length<=100000)
  (e:bY g tt f xs ρ ps C=some ((ρ',dQ),C')) (hN:∀σ' fT H',P4 K ι H1 ρ' dQ C' σ' fT H'->N σ' fT H'):Du J (zV K g) (xq K tt) rest te ys σ H1 N:=by
 have x0:∀{H2:Hp},Fr ι H1 H2->Ex ι [] H1 H2:=λf=>Ex.fr f;have c0:∀{H2:Hp}{C2:Cs},CR K ι H2 C2->CR K (ι++[]) H2 C2:=λc=>by rw[YG];show c
 show⟨λi m σ2 Dx H2=>∃ρ2 C2 zv,m=xs.length-i/\i<=xs.length/\P4 K ι H1 ρ2 zv C2 σ2 Dx H2/\bY g tt f (xs.drop i) ρ2 zv C2=some ((ρ',dQ),C'),⟨xs.length,ρ,C,ps,rfl,Y4 _,⟨.refl,sr,rs,hl⟩,e⟩,?_⟩;rintro i m σ2 Dx H2 ⟨ρ2,C2,zv,rfl,rE,⟨f2,fU,Qd,BV⟩,e2⟩;rcases YQ i xs.length with bA|Qu
 ·right
  show⟨fW.go [] H2 C2 (x0 f2) (c0 fU.cr) i bA,λσ' fT H'=>∃ρ2 C2 zv,P4 K ι H1 ρ2 zv C2 σ' fT H'/\bY g tt f (xs.drop (i+1)) ρ2 zv C2=some ((ρ',dQ),C'),?_,?_⟩
  ·rintro σ' fT H' ⟨ρ3,C3,ps3,n3,e3⟩
   show⟨xs.length-(i+1),by lia,ρ3,C3,ps3,rfl,bA,n3,e3⟩
  ·intro v H3 y
   obtain⟨sm,qv,hq,rq⟩:=fW.uY [] H2 C2 (x0 f2) (c0 fU.cr) i v H3 bA y;rw[YG]at rq;have hd:xs.drop i=qv::xs.drop (i+1):=by
    rw[Y9 bA];rw[Ye bA]at hq;rw[YO hq]
   rw[hd]at e2;ext bY e2;cases nD:g qv ρ2 with
   |none=>rw[nD]at e2;cases e2
   |some ρ3=>
    rw[nD]at e2;obtain⟨b,C3,e3,e4⟩:=bp e2;have ki:Fr ι H2 H3:=λb o _ z=>sm b o z;have lY:CR K ι H3 C2:=fU.cr.same sm;show⟨ι,ρ2,C2,qv,ρ3,fU.step ki lY,rq,nD,λσ4 zY=>⟨ι,ρ3,C2,b,C3,zY,e3,λH5 f5 c5=>?_⟩⟩;have f15:=f2.trans (ki.trans f5);have rs5:ae K ι H5 zv Dx:=ae.mono lY f5 _ _ (ae.mono fU.cr ki _ _ Qd);have iC:=zY.step f5 c5;cases b with
    |true=>
     rw[if_pos rfl]at e4;sleep 6;rw[if_pos rfl];obtain⟨⟨ρ6,ps6⟩,C6,e6,e7⟩:=bp e4;show hf _ _ _ _ _ _ _ _ _ _ e6 iC rs5 BV λσ' fT H' n'=>⟨ρ6,C6,ps6,⟨f15.trans n'.1,n'.2⟩,e7⟩
    |false=>
     rw[if_neg Yw]at e4;sleep 6;rw[if_neg Yw];show⟨ρ3,C3,zv,⟨f15,iC,rs5,BV⟩,e4⟩
 ·left
  have Fe:i=xs.length:=by lia
  subst Fe;rw[V8]at e2;ext bY e2;have JZ:some ((ρ2,zv),C2)=some ((ρ',dQ),C'):=e2;simp only[Option.some.injEq,Prod.mk.injEq]at JZ;obtain⟨⟨rfl,rfl⟩,rfl⟩:=JZ;show⟨fW.stop [] H2 _ (x0 f2) (c0 fU.cr),hN σ2 Dx H2 ⟨f2,fU,Qd,BV⟩⟩
theorem Py{te:2e3}:∀(rest:List MG)(ρ:aq)(ps:List PV)(C:Cs)(ρ':aq)(dQ:List PV)(C':Cs)(σ:St)(ys:List V)(H:Hp)(N:St->List V->Hp->Prop),cK te rest ρ ps C=some ((ρ',dQ),C')->SR K ι H ρ σ C->ae K ι H ps ys->ps.length<=100000->(∀σ' fT H',P4 K ι H ρ' dQ C' σ' fT H'->N σ' fT H')->xf (tM K te) (rest.map (JQ K)) ys σ H N
  |[],ρ,ps,C,ρ',dQ,C',σ,ys,H,N,e,sr,rs,hl,hN=>by
    ext cK e;obtain⟨y,C1,e1,e2⟩:=bp e;show⟨ι,ρ,C,y,C1,sr,e1,λv H1 f1 c1 r1=>?_⟩;cases y with
    |c k=>cases e2
    |v p=>
      by_cases hz:ps.length<100000
      · replace e2:(if ps.length<100000 then ret (ρ,ps++[p])else λ_=>none) C1=some ((ρ',dQ),C'):=e2
        rw[if_pos hz]at e2;cases e2;show⟨by rw[←rs.length];show eO hl,hN _ _ _ ⟨f1,sr.step f1 c1,(ae.mono sr.cr f1 _ _ rs).append (.cons r1 .nil),by rw[Yf];simp;lia⟩⟩
      · replace e2:(if ps.length<100000 then ret (ρ,ps++[p])else λ_=>none) C1=some ((ρ',dQ),C'):=e2
        rw[if_neg hz]at e2;cases e2
  | (it,g,tt)::rest,ρ,ps,C,ρ',dQ,C',σ,ys,H,N,e,sr,rs,hl,hN=>by
    ext cK e;obtain⟨xs,C1,e1,e2⟩:=bp e;show⟨ι,ρ,C,xs,C1,sr,e1,λJ H1 f1 c1 fW=>?_⟩;show Pz (Py rest) fW (sr.step f1 c1) (ae.mono sr.cr f1 _ _ rs) hl e2 λσ' fT H' n'=>hN σ' fT H' ⟨f1.trans n'.1,n'.2⟩
end
inductive DQ(Y:Cx):List Wb->List MG->Prop
 |nil:DQ Y [] []
 |cons {t i:Expr} {ifs:List Expr} {gs:List Wb} {it:aq->M (List PV)} {g:PV->aq->Option aq} {tt:aq->M Bool} {rs:List MG} (hI:IM Y t i it) (hG:GM Y t g) (hT:RD Y ifs tt) (hs:∀x,Y5 i Y.env x=pure x) (r:DQ Y gs rs):DQ Y (⟨t,i,ifs,0⟩::gs) ((it,g,tt)::rs)
theorem JR{Y:Cx}:DQ Y [] []:=.nil
theorem DQ.ok{Y:Cx}{gs:List Wb}{rs:List MG}(h:DQ Y gs rs):eU Y gs (rs.map (JQ Y.K)):=by
 induction h with
 |nil=>show .nil
 |cons hI hG hT hs _ ih=>show .cons hI hG hT hs ih
def NF(X:Cx)(d:Addr):Prop:=∀o u,X.H₀ d≠some (.gh o u)
theorem jg{H:Hp}{a b:Addr}{x y:HO}(h:a≠b):upd (upd H a x) b y=upd (upd H b y) a x:=by
 funext c
 ext upd;by_cases h1:c=b
 ·by_cases h2:c=a
  ·show absurd (h2.symm.trans h1) h
  ·simp[h1,h2,WC h]
 ·simp[h1]
section
variable{X:Cx}{pins:1e8}{σ:St}{H:Hp}{s:Shared}{d:Addr}{ag:3e8}{ob:Obj}
theorem BG{o o':HO}(I:2e0)(h1:H d=some o)(n1:∀xs,o≠.tup xs)(n2:∀y,o≠.own y)(n3:∀ps,o≠.Gd ps)(hz:∀ob u,X.H₀ d=some (.gh ob u)->o'=.gh ob u)(new:aZ X.prog X.w (upd H d o') s.heap d o'):Inv X pins σ (upd H d o') s:=by
 have ne:∀b u,H b=some u->u≠o->b≠d:=λb u e n z=>by subst z;rw[h1]at e;show n (YO e).symm
 have nn:∀b,H b=none->b≠d:=λb e z=>by subst z;rw[h1]at e;cases e
 show⟨I.ok,I.os,I.bare,⟨I.base.keep,I.base.slot,λb u q n hx=>?_,I.base.there,λb xs e=>?_,λb u v e=>?_,λb ps e=>?_⟩,I.loc,I.cell,?_,λx c e=>?_,λp hp=>?_,λb u q=>?_,I.len⟩
 ·have:=I.base.free b u q n hx
  rw[bf (nn b this)];show this
 ·have:=I.base.g8 b xs e
  rw[bf (ne b _ this λz=>n1 xs z.symm)];show this
 ·by_cases z:b=d
  ·subst z;rw[fP,hz u v e]
  ·rw[bf z];show I.base.gg b u v e
 ·obtain⟨m,this⟩:=I.base.jh b ps e
  show⟨m,by rw[bf (ne b _ this λz=>n3 _ z.symm)];show this⟩
 ·rw[bf (nn _ I.free)];show I.free
 ·have:=I.eh x c e
  rw[bf (nn _ this)];show this
 ·obtain⟨a1,a2,a3⟩:=I.pin p hp
  show⟨a1,by rw[bf (nn _ a2)];show a2,a3⟩
 ·by_cases z:b=d
  ·subst z;rw[fP]at q;cases q;show new
  ·rw[bf z]at q
   show(I.aQ b u q).cW (λc v _ r=>r) (λc r=>by rw[bf (ne c _ r λz=>n2 _ z.symm)];show r) λc xs r=>by rw[bf (ne c _ r λz=>n1 xs z.symm)];show r
theorem pJ{o o':HO}{u:HO}{h:Heap}(h1:H d=some o)(n1:∀xs,o≠.tup xs)(n2:∀y,o≠.own y)(x:aZ X.prog X.w H h d u):aZ X.prog X.w (upd H d o') h d u:=
 x.cW (λc v _ r=>r) (λc r=>by rw[bf (λz=>by subst z;rw[h1]at r;cases r;show n2 _ rfl)];show r) λc xs r=>by rw[bf (λz=>by subst z;rw[h1]at r;cases r;show n1 _ rfl)];show r
theorem ZdX(I:2e0)(hd:H d=some (.dT ag)):∃ob,s.heap.get? d=some ob/\NF X d/\Inv X pins σ (upd H d 4e6) s:=by
 have ok:=(show aZ X.prog X.w H s.heap d (.dT ag)from I.aQ d _ hd)
 obtain⟨_,_,_,_,ob,es,ep,hg,_⟩:=id ok;have nf:NF X d:=λo u e=>by
  have:=I.base.gg d o u e;rw[hd]at this;cases this
 show⟨ob,hg,nf,BG I hd (λ_ z=>nomatch z) (λ_ z=>nomatch z) (λ_ z=>nomatch z) (λo u e=>absurd e (nf o u)) ⟨hg,pJ hd (λ_ z=>nomatch z) (λ_ z=>nomatch z) ok⟩⟩
theorem Po(I:2e0)(hd:H d=some 4e6)(nf:NF X d):Inv X pins σ (upd H d (.dT ag)) s:=by
 have ok:=(show aZ X.prog X.w H s.heap d 4e6 from I.aQ d _ hd)
 show BG I hd (λ_ z=>nomatch z) (λ_ z=>nomatch z) (λ_ z=>nomatch z) (λo u e=>absurd e (nf o u)) (pJ (u:=.dT ag) hd (λ_ z=>nomatch z) (λ_ z=>nomatch z) ok.2)
end
def MC(X:Cx){α:Type}(Q:α->Hp->Prop):α->Hp->Prop:=λv H=>Q v H\/∃d ob ag,H d=some 4e6/\NF X d/\Q v (upd H d (.dT ag))
noncomputable def HP (X:Cx)(D:Ends):Ends:={nx:=MC X D.nx,rt:=MC X D.rt,bk:=MC X D.bk,ct:=MC X D.ct}
section
variable{X:Cx}
theorem PE.HR{e:Expr}{t:TE}(h:PE X e t):PE X e λσ H Q=>t σ H (MC X Q):=λpins s σ H Q I q=>bS (h pins s σ H _ I q) λv s1 h_=>by
 obtain⟨x,H1,I1,r1,q1⟩:=h_;rcases q1 with q1|⟨d,ob,ag,hd,nf,q1⟩
 ·show⟨x,H1,I1,r1,q1⟩
 ·show⟨x,_,Po I1 hd nf,r1,q1⟩
theorem PS.HR{st:Stmt}{t:TS}(h:PS X st t):PS X st λD σ H=>t (HP X D) σ H:=λpins s σ H D I q=>bS (h pins s σ H _ I q) λf s1 q1=>by
 cases f with
 |next=>
  obtain⟨σ1,H1,I1,q1|⟨d,ob,ag,hd,nf,q1⟩⟩:=q1
  ·show⟨σ1,H1,I1,q1⟩
  ·show⟨σ1,_,Po I1 hd nf,q1⟩
 |brk=>
  obtain⟨σ1,H1,I1,q1|⟨d,ob,ag,hd,nf,q1⟩⟩:=q1
  ·show⟨σ1,H1,I1,q1⟩
  ·show⟨σ1,_,Po I1 hd nf,q1⟩
 |cont=>
  obtain⟨σ1,H1,I1,q1|⟨d,ob,ag,hd,nf,q1⟩⟩:=q1
  ·show⟨σ1,H1,I1,q1⟩
  ·show⟨σ1,_,Po I1 hd nf,q1⟩
 |ret u=>
  obtain⟨v,σ1,H1,I1,r1,q1|⟨d,ob,ag,hd,nf,q1⟩⟩:=q1
  ·show⟨v,σ1,H1,I1,r1,q1⟩
  ·show⟨v,σ1,_,Po I1 hd nf,r1,q1⟩
end
structure Sw(H H':Hp)(d:Addr):Prop where
 tup:∀a vs,H a=some (.tup vs)->H' a=some (.tup vs)
 lst:∀a vs,Rd H a (.lst vs)->Rd H' a (.lst vs)
 dk:∀a ag,H a=some (.dK ag)->H' a=some (.dK ag)
 dt:∀a ag,Rd H a (.dT ag)->Rd H' a (.dT ag)
 kz:∀a,a≠d->H' a=H a
section
variable{K:W.Frag}{ι:2e1}{H H':Hp}{d:Addr}
mutual
theorem Rep.sw(s:Sw H H' d):∀(p:PV)(v:V),Rep K ι H p v->Rep K ι H' p v
 |.aF,v,q=>by unfold Rep at q⊢;show q
 |.bl b,v,q=>by unfold Rep at q⊢;show q
 |.int i,v,q=>by unfold Rep at q⊢;show q
 |.str x,v,q=>by unfold Rep at q⊢;show q
 |.tup ps,v,q=>by
  unfold Rep at q⊢;obtain⟨a,vs,e,h,r⟩:=q;show⟨a,vs,e,s.tup a vs h,ae.sw s ps vs r⟩
 |.lst ps,v,q=>by
  unfold Rep at q⊢;obtain⟨a,vs,e,h,r⟩:=q;show⟨a,vs,e,?_,ae.sw s ps vs r⟩;rcases h with⟨n,h⟩|h
  ·show .inl ⟨n,s.lst a vs h⟩
  ·show .inr h
 |.cV ks ps,v,q=>by
  unfold Rep at q⊢;obtain⟨a,qs,vs,e,n,hd,hl,hk,r⟩:=q;show⟨a,qs,vs,e,n,s.dk a _ hd,hl,hk,ae.sw s ps vs r⟩
 |.aG ks ps,v,q=>by
  unfold Rep at q⊢;obtain⟨a,vs,e,n,hd,hl,r⟩:=q;show⟨a,vs,e,n,s.dt a _ hd,hl,ae.sw s ps vs r⟩
 |.fn a,v,q=>by unfold Rep at q⊢;show q
 |.ty n,v,q=>by unfold Rep at q⊢;show q
theorem ae.sw(s:Sw H H' d):∀(ps:List PV)(vs:List V),ae K ι H ps vs->ae K ι H' ps vs
 |[],vs,q=>by unfold ae at q⊢;show q
 |p::ps,vs,q=>by
  unfold ae at q⊢;obtain⟨v,w,e,h1,h2⟩:=q;show⟨v,w,e,Rep.sw s p v h1,ae.sw s ps w h2⟩
end
theorem bC.sw(s:Sw H H' d){x:SV}{v:V}(h:bC K ι H x v):bC K ι H' x v:=by
 cases x with
 |v p=>show Rep.sw s p v h
 |c k=>show h
theorem aU.sw(s:Sw H H' d):∀{xs:List SV}{vs:List V},aU K ι H xs vs->aU K ι H' xs vs
 |[],vs,h=>h
 |x::xs,vs,h=>by
  obtain⟨v,w,e,h1,h2⟩:=h;show⟨v,w,e,h1.sw s,aU.sw s h2⟩
theorem CR.sw{C:Cs}(s:Sw H H' d)(hd:d∉ι)(c:7e7):CR K ι H' C:=⟨c.len,c.nd,λk a x h1 h2=>by
 have c9:a≠d:=λz=>hd (by rw[←z];show YH h1);have ok:=c.ok k a x h1 h2;cases x with
 |lst ps=>obtain⟨vs,e,r⟩:=ok;show⟨vs,by rw[s.kz a c9];show e,ae.sw s _ _ r⟩
 |cV ks ps=>obtain⟨q,vs,e,l,z,r⟩:=ok;show⟨q,vs,by rw[s.kz a c9];show e,l,z,ae.sw s _ _ r⟩
 |aG ks ps=>obtain⟨vs,e,l,r⟩:=ok;show⟨vs,by rw[s.kz a c9];show e,l,ae.sw s _ _ r⟩
 |_=>show ok.elim⟩
theorem SR.sw{C:Cs}{ρ:aq}{σ:St}(s:Sw H H' d)(hd:d∉ι)(r:SR K ι H ρ σ C):SR K ι H' ρ σ C:=⟨CR.sw s hd r.cr,r.len,λi x e=>by
 obtain⟨v,h1,h2⟩:=r.loc i x e;show⟨v,h1,h2.sw s⟩⟩
theorem xr{ag:3e8}{ob:Obj}(h:H d=some (.dT ag)):Sw H (upd H d 4e6) d where
 tup:=λa vs e=>by rw[bf (λz=>by subst z;rw[h]at e;cases e)];show e
 lst:=λa vs e=>by
  have:a≠d:=λz=>by
   subst z;rcases e with e|⟨o,e⟩<;>(rw[h]at e;cases e)
  rcases e with e|⟨o,e⟩
  ·show .inl (by rw[bf this];show e)
  ·show .inr ⟨o,by rw[bf this];show e⟩
 dk:=λa vs e=>by rw[bf (λz=>by subst z;rw[h]at e;cases e)];show e
 dt:=λa vs e=>by
  by_cases z:a=d
  ·subst z
   rcases e with e|⟨o,e⟩
   ·rw[h]at e;cases e;show .inr ⟨ob,fP⟩
   ·rw[h]at e;cases e
  ·rcases e with e|⟨o,e⟩
   ·show .inl (by rw[bf z];show e)
   ·show .inr ⟨o,by rw[bf z];show e⟩
 kz:=λa n=>bf n
theorem DG{ag:3e8}{ob:Obj}(h:H d=some 4e6):Sw H (upd H d (.dT ag)) d where
 tup:=λa vs e=>by rw[bf (λz=>by subst z;rw[h]at e;cases e)];show e
 lst:=λa vs e=>by
  have:a≠d:=λz=>by
   subst z;rcases e with e|⟨o,e⟩<;>(rw[h]at e;cases e)
  rcases e with e|⟨o,e⟩
  ·show .inl (by rw[bf this];show e)
  ·show .inr ⟨o,by rw[bf this];show e⟩
 dk:=λa vs e=>by rw[bf (λz=>by subst z;rw[h]at e;cases e)];show e
 dt:=λa vs e=>by
  by_cases z:a=d
  ·subst z
   rcases e with e|⟨o,e⟩
   ·rw[h]at e;cases e
   ·rw[h]at e;cases e;show .inl fP
  ·rcases e with e|⟨o,e⟩
   ·show .inl (by rw[bf z];show e)
   ·show .inr ⟨o,by rw[bf z];show e⟩
 kz:=λa n=>bf n
end
section
variable{X:Cx}{ι:2e1}{H:Hp}{d:Addr}{ag:3e8}{ob:Obj}{D:Ends}{C':Cs}{fl:PF}
theorem yL(hd:H d=some (.dT ag))(hn:d∉ι)(nf:NF X d)(dn:Done X.K ι H D C' fl):Done X.K ι (upd H d 4e6) (HP X D) C' fl:=by
 have hf:(upd H d 4e6) d=some 4e6:=fP;have at':∀{ι2:2e1}{H':Hp},Ex ι ι2 (upd H d 4e6) H'->H' d=some 4e6/\d∉ι++ι2/\Ex ι ι2 H (upd H' d (.dT ag)):=λ{ι2 H'} x=>by
  show⟨x.1 d _ hn hf,λz=>?_,λb o n e=>?_,λb hb=>?_⟩
  ·rcases Ym.mp z with z|z
   ·show hn z
   ·have:=x.2 d z;rw[hf]at this;cases this
  ·by_cases z:b=d
   ·subst z;rw[hd]at e;cases e;show fP
   ·rw[bf z]
    show x.1 b o n (by rw[bf z];show e)
  ·have:=x.2 b hb
   by_cases z:b=d
   ·subst z;rw[hf]at this;cases this
   ·rw[bf z]at this;show this
 cases fl with
 |nx ρ=>
  show λι2 σ' H' x sr=>by
   obtain⟨h1,h2,h3⟩:=at' x;show .inr ⟨d,ob,ag,h1,nf,dn ι2 σ' _ h3 (sr.sw (DG h1) h2)⟩
 |bk ρ=>
  show λι2 σ' H' x sr=>by
   obtain⟨h1,h2,h3⟩:=at' x;show .inr ⟨d,ob,ag,h1,nf,dn ι2 σ' _ h3 (sr.sw (DG h1) h2)⟩
 |ct ρ=>
  show λι2 σ' H' x sr=>by
   obtain⟨h1,h2,h3⟩:=at' x;show .inr ⟨d,ob,ag,h1,nf,dn ι2 σ' _ h3 (sr.sw (DG h1) h2)⟩
 |rt r=>
  show λι2 v H' x c rr=>by
   obtain⟨h1,h2,h3⟩:=at' x;show .inr ⟨d,ob,ag,h1,nf,dn ι2 v _ h3 (CR.sw (DG h1) h2 c) (rr.sw (DG h1))⟩
 |rf ps=>
  show λι2 p vs H' x c hp rr=>by
   obtain⟨h1,h2,h3⟩:=at' x;have lN:p≠d:=λz=>by subst z;rw[h1]at hp;cases hp
   show .inr ⟨d,ob,ag,by rw[bf (WC lN)];show h1,nf,?_⟩;rw[jg lN];show dn ι2 p vs _ h3 (CR.sw (DG h1) h2 c) (by rw[bf lN];show hp) (ae.sw (DG h1) _ _ rr)
 |rq qs=>
  show λι2 p vs H' x c hp rr=>by
   obtain⟨h1,h2,h3⟩:=at' x;have lN:p≠d:=λz=>by subst z;rw[h1]at hp;cases hp
   show .inr ⟨d,ob,ag,by rw[bf (WC lN)];show h1,nf,?_⟩;rw[jg lN];show dn ι2 p vs _ h3 (CR.sw (DG h1) h2 c) (by rw[bf lN];show hp) (aU.sw (DG h1) rr)
theorem Cu(dn:Done X.K ι H D C' fl):Done X.K ι H (HP X D) C' fl:=by
 cases fl with
 |nx ρ=>show λι2 σ' H' x sr=>.inl (dn ι2 σ' H' x sr)
 |bk ρ=>show λι2 σ' H' x sr=>.inl (dn ι2 σ' H' x sr)
 |ct ρ=>show λι2 σ' H' x sr=>.inl (dn ι2 σ' H' x sr)
 |rt r=>show λι2 v H' x c rr=>.inl (dn ι2 v H' x c rr)
 |rf ps=>show λι2 p vs H' x c hp rr=>.inl (dn ι2 p vs H' x c hp rr)
 |rq qs=>show λι2 p vs H' x c hp rr=>.inl (dn ι2 p vs H' x c hp rr)
end
noncomputable def P8 (d:Addr)(ob:Obj)(ag:3e8):It:=
 ⟨λi H=>H d=some 4e6/\i<ag.length,λi H x H'=>H'=H/\∃k,ag[i]? = some (k,x),λi H=>H d=some 4e6/\ag.length<=i⟩
theorem kt_at{H:Hp}{ag:3e8}{xs:List 4e5}(r:KT H ag xs){i:Nat}{k:6e8}{x:V}(h:ag[i]? = some (k,x)):∃b u,xs[i]? = some (k,b,u)/\H b=some (.tup (k.map kV))/\RelV x u:=by
 induction r generalizing i with
 |nil=>simp at h
 |@cons p q ps qs hq t ih=>
  cases i with
  |zero=>
   have h:some p=some (k,x):=h;cases h;obtain⟨q1,q2,q3⟩:=q;obtain⟨e1,e2,e3⟩:=hq;have e1:k=q1:=e1;subst e1;show⟨q2,q3,rfl,e2,e3⟩
  |succ i=>show ih h
theorem LY{P:YF}{w:World}{H:Hp}{h:Heap}{d:Addr}{ob:Obj}{ag:3e8}(ok:gm P w H h)(e:H d=some 4e6):∃xs es ep,KT H ag xs/\ob.data=.dict es ep/\dI h d es ep/\es.toList=xs.map (Mi (Vm (aD P w)))/\es.size=ag.length/\(d==X1)=false:=by
 obtain⟨DA,z,lo,xs,kt,o,es,ep,h1,h2,h3,h4,_⟩:=(show aZ P w H h d 4e6 from ok d _ e)
 rw[DA]at h1;cases h1;show⟨xs,es,ep,kt,h3,⟨ob,DA,h2,h3⟩,h4,?_,lo⟩;rw[Uy h4,←Wr kt]
theorem xk{P:YF}{w:World}{K:W.Frag}{tg:Expr}(d it:Addr)(ob:Obj)(ag:3e8):Turn P w K tg (P8 d ob ag) [it] it (λi h=>∃es ep,ob.data=.dict es ep/\h.IsValIter it d i es.size ep) where
 mem:=by simp
 obj:=λi h st b hb=>by
  have e:b=it:=by simpa using hb
  subst e;obtain⟨es,ep,_,o,e,c,dd⟩:=st;show⟨o,e,λv z=>by rw[dd]at z;cases z⟩
 keep:=λi h h' ⟨es,ep,hd,st⟩ k=>⟨es,ep,hd,st.at λo e=>k it 2e9 o e⟩
 item:=by
  sleep 1;obtain⟨es,ep,hd,st⟩:=st;obtain⟨gp,hi⟩:=hg;obtain⟨xs,kJ,ug,kt,gq,raw,he,hsz,lo⟩:=LY I.aQ gp;rw[hd]at gq;cases gq;obtain⟨⟨k,x⟩,hx⟩:∃p,ag[i]? = some p:=⟨ag[i],by simp[hi]⟩
  obtain⟨b,u,Lq,hb,ru⟩:=kt_at kt hx;have Qw:es[i]? = some (Mi (Vm (aD X.prog X.w)) (k,b,u)):=by rw[entry_at he i,Lq];rfl
  sleep 3;show lh (I.ok.hd hc) st raw Qw λh' aC sb=>?_;have I1:Inv X pins σ H {s with heap:=h'}:=I.turned (t':=s.toks) (λb o hb e=>(sb.2 b hb).trans e) f0 f1 f3 f4 f5;obtain⟨o,e,c,dd⟩:=id aC;show⟨u,rfl,lP (s:={s with heap:=h'}) e c dd (by decide) ⟨x,H,I1,ru,⟨rfl,k,hx⟩,⟨es,ep,hd,aC⟩,λb hb=>(hf b hb).1⟩⟩
 done:=by
  sleep 1;obtain⟨es,ep,hd,st⟩:=st;obtain⟨gp,hi⟩:=hg;obtain⟨xs,kJ,ug,kt,gq,raw,he,hsz,lo⟩:=LY I.aQ gp;rw[hd]at gq;cases gq;sleep 3;show oY (I.ok.hd hc) st raw 1e0 λh' eb=>9e9
 self:=λ_ _ _ _ _ ⟨_,_,_,st⟩ h=>wpAny_pyIter_valiter st h
def h7(X:Cx)(mk:Addr->Obj->List (List Key×V)->It)(tl:TE):TI:=λσ H R=>tl σ H λx H1=>∃d ag,x=.ref d/\
 ((H1 d=some (.dT ag)/\∀ob,NF X d->R (mk d ob ag) (upd H1 d 4e6))\/∃ob,H1 d=some 4e6/\R (mk d ob ag) H1)
section
variable{X:Cx}{tg o:Expr}{tl:TE}{apos aV:Pos}
theorem vt(ho:PE X o tl)(cF:X8 o "values" X.env (eval o X.env)=eval o X.env:=by rfl)(cE:9e8:=by rfl):
  PI X tg (.Call (.Attribute o "values" apos) [] [] aV) (h7 X P8 tl):=by
 intro pins s σ H R I h;show UA cF cE (bS (ho pins s σ H _ I h) λv s1 h_=>?_);obtain⟨x,H1,I1,r1,d,ag,ex,hq⟩:=h_;subst ex;cases r1;obtain⟨ob,Hf,qe,If,hR⟩:∃ob Hf,Hf d=some (.gh ob (.dT ag))/\Inv X pins σ Hf s1/\R (P8 d ob ag) Hf:=by
  rcases hq with⟨hd,hq⟩|⟨ob,hd,hq⟩
  ·obtain⟨ob,DA,nf,If⟩:=ZdX I1 hd
   show⟨ob,_,fP,If,hq ob nf⟩
  ·show⟨ob,H1,hd,I1,hq⟩
 obtain⟨xs,es,ep,kt,zy,raw,he,hsz,lo⟩:=LY If.aQ qe;obtain⟨ty,nd,_⟩:=t4 If (.inr ⟨ag,.inr ⟨ob,qe⟩⟩);show⟨"dict",_,Vk,Uh,PySem.F.type_dict_values,ty,nd,Vx rfl (Yah (ll lo raw ?_))⟩;have hv:(s1.heap.push {cls:=.type "dict_values",data:=.fields #[.ref d]}).IsValuesView s1.heap.objs.size d:=6e4;have Sf:dI (s1.heap.push {cls:=.type "dict_values",data:=.fields #[.ref d]}) d es ep:=raw.at λo e=>Yb _ e;have I2:Inv X pins σ Hf {s1 with heap:=s1.heap.push {cls:=.type "dict_values",data:=.fields #[.ref d]}}:=If.kept (t':=s1.toks) λb o e=>Yb _ e;show lb (s:={s1 with heap:=s1.heap.push {cls:=.type "dict_values",data:=.fields #[.ref d]}}) hv Sf ?_;show⟨_,[_],_,_,Hf,rfl,I2.kept (t':=s1.toks) λb o e=>Yb _ e,xk d _ ob ag,⟨es,ep,zy,_,Yg _ rfl,rfl,rfl⟩,λb hb=>?_,hR⟩;have e:b=_:=Yj.mp hb;subst e;show I2.yB (Yl _) (I2.aQ.fresh (Yl _))
end
section
variable{K:W.Frag}{ι:2e1}{H:Hp}{d:Addr}{ob:Obj}{ag:3e8}
theorem ym{ps:List PV}{ks:5e4}{vs:List V}(hk:ag=ks.zip vs)(hl:ks.length=vs.length)(c:∃C,CR K ι H C)(hd:H d=some 4e6)(hn:d∉ι)(r:ae K ι H ps vs):Iter K ι H ps (P8 d ob ag):=by
 have cD:=r.length;have nA:ag.length=ps.length:=by rw[hk,WP];lia
 obtain⟨C,c⟩:=c;show⟨λι2 H2 C2 x c2 i hi=>⟨x.1 d _ hn hd,by rw[nA];show hi⟩,λι2 H2 C2 x c2 i v H3 hi y=>?_,λι2 H2 C2 x c2=>⟨x.1 d _ hn hd,by rw[nA];show Yl _⟩⟩;obtain⟨e3,k,hx⟩:=y;rw[e3];show⟨λb o e=>e,?_⟩;have r2:ae K 6e5 H2 ps vs:=ae.tr c x.out _ _ r;have hv:vs[i]? = some v:=by
  rw[hk,Wu]at hx;show hx.2
 show r2.get' hv
end
noncomputable def Ga:SV->Option 3e0
 |.v (.aG _ ps)=>some ps
 |_=>none
def dU(fo:2e3):aq->M 3e0:=λρ=>aI (fo ρ) λx=>dM λ_=>Ga x
section
variable{K:W.Frag}{ι:2e1}{g:2e7}{f:7e3}
theorem qf{J:It}{xs:List PV}{H1:Hp}{C1 C':Cs}{ρ:aq}{σ:St}{fl:PF}{D:Ends}(fW:Iter K ι H1 xs J)(zZ:SR K ι H1 ρ σ C1)(d1:Done K ι H1 D C' fl)(e:loop g f xs ρ C1=some (fl,C')):
  ∃W:Nat->Nat->St->Hp->Prop,(∃m,W 0 m σ H1)/\∀i m σ H,W i m σ H->
 (J.stop i H/\D.nx σ H)\/(J.go i H/\∃N:St->Hp->Prop,(∀σ' H',N σ' H'->∃m',m'<m/\W (i+1) m' σ' H')/\∀x H',J.uY i H x H'->zV K g x σ H' λσ2 H2=>RS K f {D with nx:=N,ct:=N,bk:=D.nx} σ2 H2):=by
 show⟨λi m σ2 H2=>∃ι2 ρ2 C2,m=xs.length-i/\i<=xs.length/\Ex ι ι2 H1 H2/\SR K 6e5 H2 ρ2 σ2 C2/\loop g f (xs.drop i) ρ2 C2=some (fl,C'),⟨xs.length,[],ρ,C1,rfl,Y4 _,Ex.fr .refl,by rw[YG];show zZ,e⟩,?_⟩;rintro i m σ2 H2 ⟨ι2,ρ2,C2,rfl,rE,x2,fU,e2⟩;rcases YQ i xs.length with bA|Qu
 ·right
  show⟨fW.go ι2 H2 C2 x2 fU.cr i bA,λσ' H'=>∃ι2 ρ2 C2,Ex ι ι2 H1 H'/\SR K 6e5 H' ρ2 σ' C2/\loop g f (xs.drop (i+1)) ρ2 C2=some (fl,C'),?_,?_⟩
  ·rintro σ' H' ⟨ι3,ρ3,C3,x3,Gj,e3⟩
   show⟨xs.length-(i+1),by lia,ι3,ρ3,C3,rfl,bA,x3,Gj,e3⟩
  ·intro v H3 y
   obtain⟨sm,q,hq,rq⟩:=fW.uY ι2 H2 C2 x2 fU.cr i v H3 bA y;have hd:xs.drop i=q::xs.drop (i+1):=by
    rw[Y9 bA];rw[Ye bA]at hq;rw[YO hq]
   rw[hd]at e2;ext loop e2;cases nD:g q ρ2 with
   |none=>rw[nD]at e2;cases e2
   |some ρ3=>
    rw[nD]at e2;obtain⟨zA,C3,e3,e4⟩:=bp e2;have ki:Fr 6e5 H2 H3:=λb o _ z=>sm b o z;have lY:CR K 6e5 H3 C2:=fU.cr.same sm;have x3:Ex ι ι2 H1 H3:=⟨λb o n z=>sm b o (x2.1 b o n z),x2.2⟩
    show⟨ι++ι2,ρ2,C2,q,ρ3,fU.step ki lY,rq,nD,λσ4 zY=>⟨ι++ι2,ρ3,C2,zA,C3,zY,e3,?_⟩⟩;cases zA with
    |nx ρ5=>show λι5 σ5 H5 x5 iC=>⟨ι2++ι5,ρ5,C3,x3.trans lY x5,by rw[←Yd];show iC,e4⟩
    |ct ρ5=>show λι5 σ5 H5 x5 iC=>⟨ι2++ι5,ρ5,C3,x3.trans lY x5,by rw[←Yd];show iC,e4⟩
    |bk ρ5=>cases e4;show λι5 σ5 H5 x5 iC=>d1 (ι2++ι5) σ5 H5 (x3.trans lY x5) (by rw[←Yd];show iC)
    |rf ps=>cases e4;show λι5 q5 xj H5 x5 c5 h5 r5=>d1 (ι2++ι5) q5 xj H5 (x3.trans lY x5) (by rw[←Yd];show c5) h5 (by rw[←Yd];show r5)
    |rq ps=>cases e4;show λι5 q5 xj H5 x5 c5 h5 r5=>d1 (ι2++ι5) q5 xj H5 (x3.trans lY x5) (by rw[←Yd];show c5) h5 (by rw[←Yd];show r5)
    |rt r=>cases e4;show λι5 v5 H5 x5 c5 r5=>d1 (ι2++ι5) v5 H5 (x3.trans lY x5) (by rw[←Yd];show c5) (by rw[←Yd];show r5)
 ·left
  have Fe:i=xs.length:=by lia
  subst Fe;rw[V8]at e2;cases e2;show⟨fW.stop ι2 H2 _ x2 fU.cr,d1 ι2 σ2 H2 x2 fU⟩
end
section
variable{X:Cx}{o tg elt:Expr}{body:List Stmt}{ifs:3e4}{gs:List Wb}{scope:Scope}{apos aV pos:Pos}{fo te:2e3}{g:2e7}{f:7e3}{vs fs:4e3}{fr:3e9}{tt:4e1}{rest:List MG}
theorem p5{mk:Addr->Obj->List (List Key×V)->It}{it:7e0}{σ:St}{H:Hp}{R:It->Hp->Prop}{ι:2e1}{ρ:aq}{C C1:Cs}{xs:List PV}(sr:SR X.K ι H ρ σ C)
  (hit:∀xs C1,it ρ C=some (xs,C1)->∃x ks ps,fo ρ C=some (x,C1)/\x=.v (.aG ks ps)/\∀(H1:Hp)d ob us,CR X.K ι H1 C1->ks.length=us.length->ae X.K ι H1 ps us->d∉ι->H1 d=some (.gh ob (.dT (ks.zip us)))->(∃Ji,Rd H1 d (.dT (Ji)))->Iter X.K ι H1 xs (mk d ob (ks.zip us)))
  (e:it ρ C=some (xs,C1))
  (h1:∀H1 d ag ob,Fr ι H H1->CR X.K ι H1 C1->H1 d=some (.dT ag)->d∉ι->NF X d->Iter X.K ι (upd H1 d 4e6) xs (mk d ob ag)->CR X.K ι (upd H1 d 4e6) C1->SR X.K ι (upd H1 d 4e6) ρ σ C1->R (mk d ob ag) (upd H1 d 4e6))
  (h2:∀H1 d ag ob,Fr ι H H1->CR X.K ι H1 C1->Iter X.K ι H1 xs (mk d ob ag)->R (mk d ob ag) H1):h7 X mk (tM X.K fo) σ H R:=by
 obtain⟨x,ks,ps,e1,rfl,hI⟩:=hit xs C1 e;show⟨ι,ρ,C,_,C1,sr,e1,λv H1 f1 c1 r1=>?_⟩;have r1:Rep X.K ι H1 (.aG ks ps) v:=r1;ext Rep r1;obtain⟨d,us,rfl,hn,hd,hl,r⟩:=r1;show⟨d,ks.zip us,rfl,?_⟩;rcases hd with hd|⟨ob,hd⟩
 ·show .inl ⟨hd,λob nf=>?_⟩
  have s:=xr (ob:=ob) hd;show h1 H1 d _ ob f1 c1 hd hn nf (hI _ d ob us (CR.sw s hn c1) hl (ae.sw s _ _ r) hn fP ⟨_,.inr ⟨ob,fP⟩⟩) (CR.sw s hn c1) (SR.sw s hn (sr.step f1 c1))
 ·show .inr ⟨ob,hd,h2 H1 d _ ob f1 c1 (hI H1 d ob us c1 hl r hn hd ⟨_,.inr ⟨ob,hd⟩⟩)⟩
theorem u3{ι:2e1}{ρ:aq}{C:Cs}:∀xs C1,dU fo ρ C=some (xs,C1)->∃x ks ps,fo ρ C=some (x,C1)/\x=.v (.aG ks ps)/\∀(H1:Hp)d ob us,CR X.K ι H1 C1->ks.length=us.length->ae X.K ι H1 ps us->d∉ι->H1 d=some (.gh ob (.dT (ks.zip us)))->(∃Ji,Rd H1 d (.dT (Ji)))->Iter X.K ι H1 xs (P8 d ob (ks.zip us)):=λxs C1 e=>by
 obtain⟨x,C2,e1,e2⟩:=bp e;obtain⟨e3,hC⟩:=kj e2;subst hC;ext Ga e3;split at e3
 ·cases e3
  show⟨_,_,_,e1,rfl,λH1 d ob us c hl r hn hd _=>ym rfl hl ⟨_,c⟩ hd hn r⟩
 ·cases e3
theorem va{mk:Addr->Obj->List (List Key×V)->It}{it:7e0}{iter:Expr}(hp:U7 2e2 X.A X.env X.xe)(hc:5e1)(hi:PI X tg iter (h7 X mk (tM X.K fo)))
  (hit:∀(ι:2e1)(ρ:aq)(C:Cs),∀xs C1,it ρ C=some (xs,C1)->∃x ks ps,fo ρ C=some (x,C1)/\x=.v (.aG ks ps)/\∀(H1:Hp)d ob us,CR X.K ι H1 C1->ks.length=us.length->ae X.K ι H1 ps us->d∉ι->H1 d=some (.gh ob (.dT (ks.zip us)))->(∃Ji,Rd H1 d (.dT (Ji)))->Iter X.K ι H1 xs (mk d ob (ks.zip us)))
  (hg:GM X tg g) (hb:BM X body f) (hs:9e3):SM X (.For tg iter body [] pos) (bO it g f):=
 PS.imp (PS.HR (sJ hp hc hi hg hb hs)) λD σ H h_=>by
  obtain⟨ι,ρ,C,fl,C',sr,e,dn⟩:=h_;obtain⟨xs,C1,e1,e2⟩:=bp e;show p5 sr (hit ι ρ C) e1 (λH1 d ag ob f1 c1 hd hn nf fW cf R4=>?_) (λH1 d ag ob f1 c1 fW=>?_)
  ·show qf fW R4 (yL hd hn nf (dn.fr c1 f1)) e2
  ·show qf fW (sr.step f1 c1) (Cu (dn.fr c1 f1)) e2
theorem B9{mk:Addr->Obj->List (List Key×V)->It}{it:7e0}{iter:Expr}(S:8e1)(hc:5e1)(hi:PI X tg iter (h7 X mk (tM X.K fo)))
  (hit:∀(ι:2e1)(ρ:aq)(C:Cs),∀xs C1,it ρ C=some (xs,C1)->∃x ks ps,fo ρ C=some (x,C1)/\x=.v (.aG ks ps)/\∀(H1:Hp)d ob us,CR X.K ι H1 C1->ks.length=us.length->ae X.K ι H1 ps us->d∉ι->H1 d=some (.gh ob (.dT (ks.zip us)))->(∃Ji,Rd H1 d (.dT (Ji)))->Iter X.K ι H1 xs (mk d ob (ks.zip us)))
  (bG:∀C s₀ H₀ ex pn,GM 1e2 tg g) (bT:∀C s₀ H₀ ex pn,RD 1e2 ifs tt) (bR:∀C s₀ H₀ ex pn,DQ 1e2 gs rest) (bE:∀C s₀ H₀ ex pn,EM 1e2 elt te)
  (hs:9e3):
  FM X (.ListComp elt (9e0::gs) scope pos) (jJ it vs fr g tt rest te):=
 PE.imp (PE.HR (jB (wi:=h7 X mk (tM X.K fo)) (g:=zV X.K g) (tt:=xq X.K tt) (te:=tM X.K te) (rest:=rest.map (JQ X.K)) S hc hi bG bT (λC s₀ H₀ ex pn=>(bR C s₀ H₀ ex pn).ok) bE hs)) λσ H Q h_=>by
  obtain⟨ι,ρ,C,res,C',sr,e,q⟩:=h_;obtain⟨xs,C1,e1,e2⟩:=bp e;obtain⟨⟨ρ',dQ⟩,C2,e3,e4⟩:=bp e2;cases e4;show p5 sr (hit ι ρ C) e1 (λH1 d ag ob f1 c1 hd hn nf fW cf R4=>?_) (λH1 d ag ob f1 c1 fW=>?_)
  ·show Pz (Py rest) fW (R4.block vs fr) .nil 2e9 e3 λσ' fT H' n'=>⟨by rw[←n'.2.2.1.length];show eO n'.2.2.2,λD hD=>.inr ?_⟩
   obtain⟨g1,g2,g3,g4⟩:=n';have gq:H' d=some 4e6:=g1 d _ hn fP;have Zd:D≠d:=λz=>by subst z;rw[gq]at hD;cases hD
   have s:=DG gq;show⟨d,ob,ag,by rw[bf (WC Zd)];show gq,nf,?_⟩;rw[jg Zd];show q D fT _ (λb o nb z=>?_) (CR.sw s hn g2.cr) (by rw[bf Zd];show hD) (ae.sw s _ _ g3);by_cases hb:b=d
   ·subst hb
    have:=f1 b o nb z;rw[hd]at this;cases this;show fP
   ·rw[bf hb]
    show g1 b o nb (by rw[bf hb];show f1 b o nb z)
  ·show Pz (Py rest) fW ((sr.step f1 c1).block vs fr) .nil 2e9 e3 λσ' fT H' n'=>⟨by rw[←n'.2.2.1.length];show eO n'.2.2.2,λD hD=>.inl ?_⟩
   show q D fT H' (f1.trans n'.1) n'.2.1.cr hD n'.2.2.1
end
def ItI(d:Addr)(ob:Obj)(ag:List (Key×V)):It:=
 ⟨λi H=>H d=some (.gh ob (.dK ag))/\i<ag.length,λi H x H'=>∃b k v,H b=none/\x=.ref b/\H'=upd H b (.tup [kV k,v])/\ag[i]? = some (k,v),λi H=>H d=some (.gh ob (.dK ag))/\ag.length<=i⟩
theorem NJ{ag:List (Key×V)}{vs:List (Key×Value)}(r:KV ag vs){i:Nat}{k:Key}{x:V}(h:ag[i]? = some (k,x)):∃u,vs[i]? = some (k,u)/\RelV x u:=by
 ext KV r;induction r generalizing i with
 |nil=>simp at h
 |@cons p q ps qs hq t ih=>
  cases i with
  |zero=>
   have h:some p=some (k,x):=h;cases h;obtain⟨q1,q2⟩:=q;obtain⟨e1,e2⟩:=hq;have e1:k=q1:=e1;subst e1;show⟨q2,rfl,e2⟩
  |succ i=>show ih h
theorem mP{P:YF}{w:World}{H:Hp}{h:Heap}{d:Addr}{ob:Obj}{ag:List (Key×V)}(ok:gm P w H h)(e:H d=some (.gh ob (.dK ag))):∃vs es ep,KV ag vs/\ob.data=.dict es ep/\h.DictAt (aD P w) d vs ep/\vs.length=ag.length/\(d==X1)=false:=by
 obtain⟨DA,z,lo,vs,kv,o,es,ep,h1,h2,h3,h4⟩:=(show aZ P w H h d (.gh ob (.dK ag))from ok d _ e)
 rw[DA]at h1;cases h1;show⟨vs,es,ep,kv,h3,⟨ob,es,DA,h2,h3,h4⟩,kv.length.symm,lo⟩
theorem Sb{P:YF}{w:World}{k:Key}{u:Value}(h:(aD P w).is k u=true):RelV (kV k) u:=by
 rcases Dh h with⟨i,t,rfl,rfl⟩|⟨x,t,rfl,rfl⟩
 ·show⟨t,rfl⟩
 ·show⟨t,rfl⟩
theorem rR{P:YF}{w:World}{K:W.Frag}{elts:3e4}{x1:Nat}{pos:Pos}(d it:Addr)(ob:Obj)(ag:List (Key×V))(c9:d≠it):Turn P w K (.Tuple elts x1 pos) (ItI d ob ag) [it] it (λi h=>∃es ep ok ov,ob.data=.dict es ep/\IsItemIter h it d i ag.length ep ok ov) where
 mem:=by simp
 obj:=λi h st b hb=>by
  have e:b=it:=by simpa using hb
  subst e;obtain⟨es,ep,ok,ov,_,st⟩:=st;show⟨_,st,λv z=>by
   have z':Data.fields _=Data.cell v:=z;cases z'⟩
 keep:=λi h h' ⟨es,ep,ok,ov,hd,st⟩ k=>⟨es,ep,ok,ov,hd,k it 2e9 _ st⟩
 item:=by
  sleep 1;obtain⟨es,ep,ok,ov,hd,st⟩:=st;obtain⟨gp,hi⟩:=hg;obtain⟨ws,kJ,ug,kv,gq,dat,hl,lo⟩:=mP I.aQ gp;rw[hd]at gq;cases gq;obtain⟨⟨k,v⟩,hx⟩:∃p,ag[i]? = some p:=⟨ag[i],by simp[hi]⟩
  obtain⟨u,hu,ru⟩:=NJ kv hx;rw[←hl]at st;show wpAny_pyNext_items_item st dat hu λkey h' gE ho hT hsz hk=>⟨_,rfl,?_⟩
  show wpAny_letOwnedTupleGo_items (s:={s with heap:=h'}) ho λh3 TX sb=>?_;have J1:Inv X pins σ H {s with heap:=h3}:=mr (t':=s.toks) (ch:=[it]) I (λb o hb z=>by
   have hb:b≠it:=by simpa using hb
   show sb.extBut _ _ hb (hk b o hb z)) hf
  have bA:∀{b o},s.heap.get? b=some o->b≠s.heap.objs.size:=λe=>Yv (Yr e);have hn:H s.heap.objs.size=none:=I.aQ.fresh (Yl _);have V':=sb.extBut _ _ (bA st).symm hT;have J2:=zR (ob:=.tup [kV k,v]) J1 hn I.sz (XU I.lt) (λx c e=>by obtain⟨v,q⟩:=I.cell x c e;show Yv q.lt) (λp hp=>bA (I.pin p hp).1)
   ⟨by change 2<=YA;rw[YZ];decide,[key,u],.cons (Sb gE) (.cons ru .nil),⟨_,V',rfl,_,rfl⟩⟩
  show⟨.ref s.heap.objs.size,_,J2,rfl,⟨_,k,v,hn,rfl,rfl,hx⟩,⟨es,ep,_,_,hd,by rw[←hl];show TX⟩,λb hb=>?_⟩;have rG:b=it:=by simpa using hb
  subst rG;rw[bf (bA st)];show(hf b 2e9).1
 done:=by
  sleep 1;obtain⟨es,ep,ok,ov,hd,st⟩:=st;obtain⟨gp,hi⟩:=hg;obtain⟨ws,kJ,ug,kv,gq,dat,hl,lo⟩:=mP I.aQ gp;rw[hd]at gq;cases gq;sleep 3;rw[←hl]at st;show wpAny_pyNext_items_end (I.ok.hd hc) st dat (YS.mpr 1e0) λh' eb=>9e9
 self:=λ_ _ _ _ _ ⟨_,_,_,_,_,st⟩ h=>W.kcp_self st h
def BQ(tl:TE):TI:=λσ H R=>tl σ H λx H1=>∃d ob ag,x=.ref d/\H1 d=some (.gh ob (.dK ag))/\R (ItI d ob ag) H1
section
variable{X:Cx}{o:Expr}{tl:TE}{apos aV mD:Pos}{elts:3e4}{x1:Nat}
theorem AJ(ho:PE X o tl)(cF:X8 o "items" X.env (eval o X.env)=eval o X.env:=by rfl)(cE:9e8:=by rfl):
  PI X (.Tuple elts x1 mD) (.Call (.Attribute o "items" apos) [] [] aV) (BQ tl):=by
 intro pins s σ H R I h;show UA cF cE (bS (ho pins s σ H _ I h) λv s1 h_=>?_);obtain⟨x,H1,I1,r1,d,ob,ag,ex,qe,hR⟩:=h_;subst ex;cases r1;obtain⟨ws,es,ep,kv,zy,dat,hl,lo⟩:=mP I1.aQ qe;obtain⟨ty,nd,_⟩:=t4 I1 (.inl ⟨ag,.inr ⟨ob,qe⟩⟩);have hof:s1.heap.DictOf (aD X.prog X.w) d ws:=let⟨o,es,r⟩:=dat;⟨o,es,ep,r⟩
 show⟨"dict",_,Vk,PySem.F.slot_dict_items,PySem.F.type_dict_items,ty,nd,Vx rfl (Yah (call_meetsIn PySem.F.slot_dict_items ty PySem.F.entry_dict_items (PySem.F.args_dict_items_1 _) (meets_dict_items (aD X.prog X.w) d lo) ⟨⟨ws,hof⟩,?_⟩))⟩;have hv:(s1.heap.push {cls:=.type "dict_items",data:=.fields #[.ref d]}).IsItemsView s1.heap.objs.size d:=6e4;have Zu:(s1.heap.push {cls:=.type "dict_items",data:=.fields #[.ref d]}).DictAt (aD X.prog X.w) d ws ep:=dat.at' λo e=>Yb _ e;have I2:Inv X pins σ H1 {s1 with heap:=s1.heap.push {cls:=.type "dict_items",data:=.fields #[.ref d]}}:=I1.kept (t':=s1.toks) λb o e=>Yb _ e;have bA:d<s1.heap.objs.size:=let⟨o,_,ho,_⟩:=dat;Yr ho
 show wpAny_pyIter_items (s:={s1 with heap:=s1.heap.push {cls:=.type "dict_items",data:=.fields #[.ref d]}}) hv Zu ?_;show⟨_,[_],_,_,H1,rfl,I2.kept (t':=s1.toks) λb o e=>Yb _ e,rR d _ ob ag ?_,⟨es,ep,.none,.none,zy,?_⟩,λb hb=>?_,hR⟩
 ·rw[V1];show Yv (Wn bA)
 ·rw[←hl];show Yg _ rfl
 ·have e:b=_:=Yj.mp hb
  subst e;show I2.yB (Yl _) (I2.aQ.fresh (Yl _))
end
def tDF(K:W.Frag)(keys:4e3)(fs:1e9):TE:=λσ H Q=>∃ι ρ C ps xs C',SR K ι H ρ σ C/\fs ρ C=some (xs,C')/\plain xs=some ps/\
 ∀p ob vs H',Fr ι H H'->CR K ι H' C'->H' p=none->ae K ι H' ps vs->keys.length=vs.length->Q (.ref p) (upd H' p (.gh ob (.dK ((keys.map Vw).zip vs))))
section
variable{X:Cx}{es:3e4}{fs:1e9}{pos:Pos}
theorem AO{ks:List (Option Expr)}{keys:4e3}(h:DM X ks es keys fs)(nd:(keys.map (Vw:Str->Key)).Nodup)(B3:ks.all (·.isSome)=true)(hl:ks.length=es.length)(h0:ks≠[])(hlen:ks.length<=15)(hk:keys.length=ks.length):
  PE X (.Dict ks es pos) (tDF X.K keys fs):=by
 intro pins s σ H Q I h_;obtain⟨ι,ρ,C,ps,xs,C',sr,e1,hp,q⟩:=h_;have OE:X1<s.heap.objs.size:=modules_low I.nolimit;have hf:H s.heap.objs.size=none:=I.aQ.fresh (Yl _);have I0:Inv X pins σ H {s with heap:=s.heap.push {cls:=.type "dict",data:=.dict #[]}}:=I.kept (t':=s.toks) λb o e=>Yb _ e;have I1:Inv X ((s.heap.objs.size,{cls:=.type "dict",data:=.dict #[]})::pins) σ H {s with heap:=s.heap.push {cls:=.type "dict",data:=.dict #[]}}:=I0.dR λp hp=>by
  rcases Yk.mp hp with rfl|hp
  ·show⟨Yg _ rfl,hf,XU I.lt,I.IK (Yl _),λv z=>by cases z⟩
  ·show I0.pin p (Yn _ hp)
 show PySem.wpAny_Dict_walk (knd:=aD X.prog X.w) B3 hl h0 hlen ?_;show bS (h pos _ _ σ H (λvs H2=>Fr ι H H2/\CR X.K ι H2 C'/\aU X.K ι H2 xs vs) I1 ⟨ι,ρ,C,xs,C',sr,e1,λvs H2 f2 c2 r2=>⟨f2,c2,r2⟩⟩) λus s1 h_=>?_;obtain⟨vs,H1,J1,pr,f1,c1,rs⟩:=h_;obtain⟨a1,a2,ag,a3,a4,a5⟩:=mX (P:=X.prog) (w:=X.w) pr;have pd:=J1.pin (s.heap.objs.size,_) (Yn _ YR);show⟨ag,a3,oj pd.1,λh' hd hs=>?_⟩;rw[merged_nil_of_nodup ag (by rw[a5];show nd)]at hd;have J2:Inv X pins σ H1 s1:=J1.dR λp hp=>J1.pin p (Yn _ (YK _ hp));have JL:∀x c,X.env.cells.lookup x=some c->c≠s.heap.objs.size:=λx c e=>by
  obtain⟨v,z⟩:=I.cell x c e;show Yv z.lt
 have hpn:∀p∈X.pn++pins,p.1≠s.heap.objs.size:=λp hp=>Yv (Yr (I.pin p hp).1);have J3:Inv X pins σ H1 {s1 with heap:=h',toks:=s1.toks+us.length}:=J2.turned (t':=s1.toks+us.length) (λb o hb e=>(hs.2 b hb).trans e) pd.2.1 pd.2.2.1 (.inr I.sz) JL hpn;have nA:keys.length<=15:=by rw[hk];show hlen
 obtain⟨ob,ho⟩:∃ob,h'.get? s.heap.objs.size=some ob:=let⟨o,_,_,ho,_⟩:=hd;⟨o,ho⟩
 have J4:=zR (ob:=.gh ob (.dK ((keys.map Vw).zip vs))) J3 pd.2.1 I.sz pd.2.2.1 JL hpn ⟨ho,Xb (by rw[WP];show Xb (Nat.min_le_left _ _) (by rw[Yi];show nA)) (by rw[YZ];decide),beq_eq_false_iff_ne.mpr (WC (Yv OE)),ag,a4,hd⟩;obtain⟨rr,hv⟩:=PC hp rs;show⟨.ref s.heap.objs.size,_,J4,rfl,q _ ob vs H1 f1 c1 pd.2.1 rr a1⟩
end
noncomputable def hZ (keys:4e3)(ps:List PV):List PV:=(keys.zip ps).map λq=>.tup [.str q.1,q.2]
def nh(n:Nat)(keys:4e3)(fs:1e9)(vs:4e3)(fr:3e9)(g:2e7)(tt:4e1)(te:2e3):aq->M PF:=λρ=>aI (fs ρ) λxs=>match plain xs with
 |some ps=>if(keys.all λk=>decide (k.length<=1000))&&decide (n<ρ.length)then aI (bY g tt (cK te []) (hZ keys ps) (cX vs fr (ρ.set n none)) []) λr=>ret (.rf r.2)else λ_=>none
 |none=>λ_=>none
section
variable{K:W.Frag}{ι:2e1}{H:Hp}{ρ:aq}{σ:St}{C:Cs}
theorem SR.unset(sr:SR K ι H ρ σ C)(n:Nat)(v:Option V):SR K ι H (ρ.set n none) (σ.set n v) C:=by
 show⟨sr.cr,by simp[sr.len],λi s e=>?_⟩;by_cases h:n=i
 ·subst h
  by_cases hl:n<ρ.length
  ·rw[Xd hl]at e;cases e
  ·rw[YS.mpr 6e3]at e;cases e
 ·rw[Y3 h]at e
  obtain⟨v',h1,h2⟩:=sr.loc i s e;show⟨v',by rw[Y3 h];show h1,h2⟩
theorem tT{d:Addr}{ob:Obj}{keys:4e3}{ps:List PV}{vs:List V}(c:7e7)(hd:H d=some (.gh ob (.dK ((keys.map Vw).zip vs))))(hn:d∉ι)(hl:keys.length=vs.length)(hk:(keys.all λk=>decide (k.length<=1000))=true)(r:ae K ι H ps vs):Iter K ι H (hZ keys ps) (ItI d ob ((keys.map Vw).zip vs)):=by
 have cD:=r.length;have h1:((keys.map (Vw:Str->Key)).zip vs).length=(hZ keys ps).length:=by simp[hZ];lia
 show⟨λι2 H2 C2 x c2 i hi=>⟨x.1 d _ hn hd,by rw[h1];show hi⟩,λι2 H2 C2 x c2 i v H3 hi y=>?_,λι2 H2 C2 x c2=>⟨x.1 d _ hn hd,by rw[h1];show Yl _⟩⟩;obtain⟨b,k,w,hb,rfl,rfl,hx⟩:=y;rw[Wu,Yy]at hx;obtain⟨hx1,S1⟩:=hx;obtain⟨t,ht,rfl⟩:=XE.mp hx1;obtain⟨p,hp,rp⟩:=r.get' S1;show⟨λc o e=>by rw[bf (gu e hb)];show e,.tup [.str t,p],?_,iU hb (.cons (Af ?_) (.cons (Rep.tr c x.out p w rp) .nil))⟩
 ·ext hZ
  rw[Yy];have:(keys.zip ps)[i]? = some (t,p):=by rw[Wu];show⟨ht,hp⟩
  rw[this];rfl
 ·have:=of_decide_eq_true (YW.mp hk t (YH ht))
  show Xb this (by rw[YZ];decide)
end
end Pu
namespace Pu
open PySem PySem.Spec L2
open PyProof.Rows hiding St Fr
def iq(F:List SV->M 3e0)(ix:3e9)(fs:1e9):aq->M 3e0:=λρ=>aI (fs ρ) λxs C=>match pickK xs ix with
 |some ks=>match cA C ks xs,eF C ks with
  |some ys,some D=>match F ys D with
   |some (ps,D')=>if dc ps&&D'.all qh then some (ps,dH C ks D')else none
   |_=>none
  |_,_=>none
 |none=>none
theorem tu{F:List SV->M 3e0}{ix:3e9}{xs:List SV}{C C':Cs}{z:List PV}(h:(match pickK xs ix with
 |some ks=>match cA C ks xs,eF C ks with
  |some ys,some D=>match F ys D with
   |some (ps,D')=>if dc ps&&D'.all qh then some (ps,dH C ks D')else none
   |_=>none
  |_,_=>none
 |none=>none:Option (List PV×Cs))=some (z,C')):∃ks ys D D',pickK xs ix=some ks/\cA C ks xs=some ys/\eF C ks=some D/\F ys D=some (z,D')/\dc z=true/\D'.all qh=true/\C'=dH C ks D':=by
 split at h
 ·split at h
  ·split at h
   ·split at h
    ·rename_i hf
     rw[YI]at hf;cases h;show⟨_,_,_,_,by assumption,by assumption,by assumption,by assumption,hf.1,hf.2,rfl⟩
    ·cases h
   ·cases h
  ·cases h
 ·cases h
theorem B'{X:Cx}{e:Expr}{es:3e4}{p pos:Pos}{x:Str}{k:Nat}{f:Addr}{fd:WD}{ps:4e3}{F:List SV->M 3e0}{fs:1e9}(ix:3e9)(G:eY X.prog X.w X.K X.mg X.base om k f fd ps (bj X.K F))(hr:b9 k X.A)(hg:Gl X x)(hm:X.mg x=some (.ref f))(hk:Hw X.K (.ref f)=true)(hb:Binds X.K fd ps [])
  (ha:AM X 4e4 fs) (iF:3e2:=by decide) (he:1e5:=by rfl) (cD:2e4:=by rfl):
  FM X 7e1 (iq F ix fs):=PE.imp (iQ G hr hg hm hk hb .nil vw ha iF he cD) λσ H Q h=>by
 sleep 8;obtain⟨xs,C1,e1,e⟩:=bp e;show⟨ι,ρ,C,xs,C1,sr,e1,λvs H1 f1 c1 r1=>?_⟩;obtain⟨ks,ys,D,D',a1,a2,a3,a4,a5,a6,rfl⟩:=tu e;obtain⟨nd,hl⟩:=pz r1 a1;change bj X.K F (vs++[]) H1 Q E0;rw[YG];show⟨addrs ι ks,ys,D,z,D',z9 c1 nd hl a3,Q9 c1 hl r1 a2,a4,λp us H2 f2 c2 hp r2=>q p us H2 (f1.trans (oN hl f2)) (rY c1 nd hl f2 c2 a6) hp (ae.flat z us a5 r2)⟩
def dh:aq->M SV:=λ_=>ret (.v (.aG [] []))
end Pu
namespace Pu
open PySem PySem.Spec PySem.W PySem.Calls L2
open PyProof.Rows hiding St Fr
noncomputable def AF (x:SV)(ys:List SV):M SV:=λC=>match x,ys with
 |.c k,[.v (.int n)]=>match C[k]? with
  |some (.lst ps)=>match ps[n.toNat]? with
   |some p=>if 0<=n/\ps.length<100000 then some (.v p,C.set k (.lst (ps.take n.toNat++ps.drop (n.toNat+1))))else none
   |none=>none
  |_=>none
 |_,_=>none
theorem xQ{x:SV}{ys:List SV}{C C2:Cs}{r:SV}(h:AF x ys C=some (r,C2)):∃k n p ps,x=.c k/\ys=[.v (.int n)]/\C[k]? = some 9e5/\ps[n.toNat]? = some p/\(0<=n/\ps.length<100000)/\r=.v p/\C2=C.set k (.lst (ps.take n.toNat++ps.drop (n.toNat+1))):=by
 ext AF h;split at h
 ·split at h
  ·split at h
   ·split at h
    ·cases h
     show⟨_,_,_,_,rfl,rfl,by assumption,by assumption,by assumption,rfl,rfl⟩
    ·cases h
   ·cases h
  ·cases h
 ·cases h
def EN(fo:2e3)(fs:1e9):aq->M SV:=λρ=>aI (fo ρ) λx=>aI (fj x) λ_=>aI (fs ρ) λys=>AF x ys
def F5(d:Addr)(ob:Obj)(ag:3e8):It:=
 ⟨λi H=>H d=some 4e6/\i<ag.length,λi H x H'=>H'=H/\∃k v b,ag[i]? = some (k,v)/\x=.ref b/\H b=some (.tup (k.map kV)),λi H=>H d=some 4e6/\ag.length<=i⟩
theorem rQ{P:YF}{w:World}{K:W.Frag}{tg:Expr}(d it:Addr)(ob:Obj)(ag:3e8):Turn P w K tg (F5 d ob ag) [it] it (λi h=>∃es ep,ob.data=.dict es ep/\h.IsKeyIter it d i es.size ep) where
 mem:=by simp
 obj:=λi h st b hb=>by
  have e:b=it:=by simpa using hb
  subst e;obtain⟨es,ep,_,o,e,c,dd⟩:=st;show⟨o,e,λv z=>by rw[dd]at z;cases z⟩
 keep:=λi h h' ⟨es,ep,hd,st⟩ k=>⟨es,ep,hd,st.at λo e=>k it 2e9 o e⟩
 item:=by
  sleep 1;obtain⟨es,ep,hd,st⟩:=st;obtain⟨gp,hi⟩:=hg;obtain⟨xs,kJ,ug,kt,gq,raw,he,hsz,lo⟩:=LY I.aQ gp;rw[hd]at gq;cases gq;obtain⟨⟨k,x⟩,hx⟩:∃p,ag[i]? = some p:=⟨ag[i],by simp[hi]⟩
  obtain⟨b,u,Lq,hb,ru⟩:=kt_at kt hx;have Qw:es[i]? = some (Mi (Vm (aD X.prog X.w)) (k,b,u)):=by rw[entry_at he i,Lq];rfl
  sleep 3;show o5 st raw Qw λh' aC sb=>?_;have I1:Inv X pins σ H {s with heap:=h'}:=I.turned (t':=s.toks) (λb o hb e=>(sb.2 b hb).trans e) f0 f1 f3 f4 f5;obtain⟨o,e,c,dd⟩:=id aC;show⟨.ref b,rfl,lP (s:={s with heap:=h'}) e c dd (by decide) ⟨.ref b,H,I1,rfl,⟨rfl,k,x,b,hx,rfl,hb⟩,⟨es,ep,hd,aC⟩,λb hb=>(hf b hb).1⟩⟩
 done:=by
  sleep 1;obtain⟨es,ep,hd,st⟩:=st;obtain⟨gp,hi⟩:=hg;obtain⟨xs,kJ,ug,kt,gq,raw,he,hsz,lo⟩:=LY I.aQ gp;rw[hd]at gq;cases gq;sleep 3;show vh (I.ok.hd hc) st raw 1e0 λh' eb=>9e9
 self:=λ_ _ _ _ _ ⟨_,_,_,st⟩ h=>wpAny_pyIter_keyiter st h
section
variable{X:Cx}{tg o:Expr}{tl:TE}
theorem AI(ho:PE X o tl):PI X tg o (h7 X F5 tl):=by
 intro pins s σ H R I h;show bS (ho pins s σ H _ I h) λv s1 h_=>?_;obtain⟨x,H1,I1,r1,d,ag,ex,hq⟩:=h_;subst ex;cases r1;obtain⟨ob,Hf,qe,If,hR⟩:∃ob Hf,Hf d=some (.gh ob (.dT ag))/\Inv X pins σ Hf s1/\R (F5 d ob ag) Hf:=by
  rcases hq with⟨hd,hq⟩|⟨ob,hd,hq⟩
  ·obtain⟨ob,DA,nf,If⟩:=ZdX I1 hd
   show⟨ob,_,fP,If,hq ob nf⟩
  ·show⟨ob,H1,hd,I1,hq⟩
 obtain⟨xs,es,ep,kt,zy,raw,he,hsz,lo⟩:=LY If.aQ qe;show o4 lo raw ?_;show⟨_,[_],_,_,Hf,rfl,If.kept (t':=s1.toks) λb o e=>Yb _ e,rQ d _ ob ag,⟨es,ep,zy,_,Yg _ rfl,rfl,rfl⟩,λb hb=>?_,hR⟩;have e:b=_:=Yj.mp hb;subst e;show If.yB (Yl _) (If.aQ.fresh (Yl _))
end
theorem tS{K:W.Frag}{ι:2e1}{H:Hp}{d:Addr}{ob:Obj}{ks:5e4}{vs:List V}(hl:ks.length=vs.length)(hd:H d=some (.gh ob (.dT (ks.zip vs))))(hn:d∉ι)(hk:keysOk ks=true):Iter K ι H (ks.map tupK) (F5 d ob (ks.zip vs)):=by
 have nA:(ks.zip vs).length=(ks.map tupK).length:=by rw[WP,Yi];lia
 show⟨λι2 H2 C2 x c2 i hi=>⟨x.1 d _ hn hd,by rw[nA];show hi⟩,λι2 H2 C2 x c2 i v H3 hi y=>?_,λι2 H2 C2 x c2=>⟨x.1 d _ hn hd,by rw[nA];show Yl _⟩⟩;obtain⟨e3,k,u,b,hx,rfl,hb⟩:=y;rw[e3];show⟨λb o e=>e,tupK k,?_,?_⟩
 ·rw[Wu]at hx
  rw[Yy,hx.1];rfl
 ·rw[Wu]at hx
  show oX (YW.mp hk k (YH hx.1)) hb
def v9:SV->Option 3e0
 |.v (.aG ks _)=>if keysOk ks then some (ks.map tupK)else none
 |_=>none
def fF(fo:2e3):aq->M 3e0:=λρ=>aI (fo ρ) λx=>dM λ_=>v9 x
end Pu
namespace L2
open PySem PySem.Spec PySem.W PySem.Calls
open PyProof.Rows hiding St Fr
section
variable{X:Cx}{tg elt iter:Expr}{ifs:3e4}{gs:List Wb}{scope:Scope}{pos:Pos}{vs fs:4e3}{fr:3e9}{g:TG}{tt:TT}{te:TE}{rest:List GT}
theorem AA{wi:TI}{i:Nat}{x:Str}{px fV:Pos}(hN:X.N.Nodup)(hx:X.N[i]? = some x)(hl:X.env.scope.names.lookup x=some .local)
  (S:8e1) (hc:5e1) (hi:PI X tg iter wi)
  (bG:∀C s₀ H₀ ex pn,PG 1e2 tg g) (bT:∀C s₀ H₀ ex pn,zG 1e2 ifs tt) (bR:∀C s₀ H₀ ex pn,eU 1e2 gs rest) (bE:∀C s₀ H₀ ex pn,PE 1e2 elt te)
  (Ta:Vn (.ListComp elt (9e0::gs) scope pos) (some (.Name x px)) fV.line X.env=pure true:=by rfl)
  (hs:9e3:=by intro _;rfl):
  PS X (.Assign [.Name x px] (.ListComp elt (9e0::gs) scope pos) fV) (λD σ H=>rS wi vs fr g tt rest te σ H λv H1=>D.nx (σ.set i (some v)) H1):=by
 intro pins s σ H D I h;rw[exec_Assign_Name_used _ _ _ _ Ta];show Ya (VN (Ya ?_));change wpAny _ X.A (do let _ ←comprehension (.ListComp elt (9e0::gs) scope pos) scope X.env _ (newList []) false (eval iter X.env) (some (assign (.Name x px) X.env))) _ _ s;show Ya (Xk (Ud (use:=some (assign (.Name x px) X.env)) (Q:=λ_ s'=>SP X pins D .next s') rfl hs (ZY (S.FG I.ok)) S.kind S.Jd
  (bS (hi pins s σ H _ I h) λv s1 h1=>bS h1 λLp s2 h2=>?_)) (λ_ s' hq=>Yc (Yc hq)) λ_ _ e=>e)
 obtain⟨it,fp,tn,J,H2,e,I2,T,iM,f2,q2⟩:=h2;subst e;show Zdx (RR:=λacc C=>compPost 2e2 X.A X.xe (some (assign (.Name x px) X.env)) (λ_ s'=>SP X pins D .next s') acc C) (Q:=λv H1=>D.nx (σ.set i (some v)) H1) S hc bG bT bR bE I2 T iM f2 q2 ?_;intro Dd C H' s' m' I' hq hn hC hle;change wpAny _ X.A (assign (.Name x px) X.env (.ref Dd)) _ _ _;have hCL:C≠X.env.locals:=XU (YC I2.lt hle);have hCc:∀x c,X.env.cells.lookup x=some c->c≠C:=λx c e=>by
  obtain⟨v,z⟩:=I2.cell x c e;show Yv (YC z.lt hle)
 show wpAny_assign_Name (kY I' hN hx (.inl hl) (v:=.ref Dd) rfl (λD8 I'' zz=>?_) (.inr hl));obtain⟨a,Tg,ha⟩:=zz;have hCa:C≠a:=by
  rcases ha with rfl|ha
  ·show hCL
  ·show WC (hCc x a ha)
 show⟨m',hn.sameBut Tg hCa,λh' ed=>⟨σ.set i (some (.ref Dd)),H',?_,hq⟩⟩;show I''.turned (t':=D8.toks) (λb o hb e=>(ed.2 b hb).trans e) hC hCL (.inr (Xb I2.sz hle)) hCc ?_;intro p hp;show zd (I2.pin p hp).1 hle
end
end L2
namespace Pu
open PySem PySem.Spec PySem.W PySem.Calls L2
open PyProof.Rows hiding St Fr
theorem nQ{g:2e7}{tt:4e1}{te:2e3}:∀(xs:List PV)(ρ:aq)(ys:List PV)(C:Cs)(r:List PV×Cs),ys.length+xs.length<=100000->fZ g tt te xs ρ ys C=some r->aI (bY g tt (cK te []) xs ρ ys) (λr=>ret r.2) C=some r
 |[],ρ,ys,C,r,_,e=>e
 |x::xs,ρ,ys,C,r,h,e=>by
  ext fZ e;ext bY;rw[Yu]at h;cases hg:g x ρ with
  |none=>rw[hg]at e;cases e
  |some ρ1=>
   rw[hg]at e;obtain⟨b,C1,e1,e2⟩:=bp e;cases b with
   |false=>
    have:=nQ xs ρ1 ys C1 r 1e0 e2;simp only[aI,e1]at this⊢;show this
   |true=>
    obtain⟨y,C2,e3,e4⟩:=bp e2;cases y with
    |c k=>cases e4
    |v p=>
     have:=nQ xs ρ1 (ys++[p]) C2 r 6e3 e4;have hy:ys.length<100000:=by lia
     simp only[aI,e1,e3,cK,hy,ret,if_true]at this⊢;show this
section
variable{X:Cx}{tg elt iter:Expr}{ifs:3e4}{x:Str}{scope:Scope}{pos:Pos}{vs fs:4e3}{fr:3e9}{it:7e0}{g:2e7}{tt:4e1}{te:2e3}
theorem Zd0{K:W.Frag}{σ:St}{H:Hp}{Q:VK}{ι:2e1}{ρ:aq}{C C':Cs}{res:List PV}(sr:SR K ι H ρ σ C)
  (e:bW it vs fr g tt te ρ C=some (res,C')) (q:∀p vs H',Fr ι H H'->CR K ι H' C'->H' p=none->ae K ι H' res vs->Q (.ref p) (upd H' p (.lst vs))):rS (MI K it) vs fr (zV K g) (xq K tt) [] (tM K te) σ H Q:=by
 obtain⟨xs,C1,e1,e2⟩:=bp e;by_cases hl:xs.length<=100000
 ·rw[if_pos hl]at e2
  obtain⟨⟨ρ',dQ⟩,C2,e3,e4⟩:=bp (nQ xs _ [] C1 _ (by simpa using hl) e2);cases e4;show⟨ι,ρ,C,xs,C1,sr,e1,λJ H1 f1 c1 fW=>?_⟩;show Pz (Py []) fW ((sr.step f1 c1).block vs fr) .nil 2e9 e3 λσ' fT H' n'=>⟨by rw[←n'.2.2.1.length];show eO n'.2.2.2,λD hD=>q D fT H' (f1.trans n'.1) n'.2.1.cr hD n'.2.2.1⟩
 ·rw[if_neg hl]at e2;cases e2
end
end Pu
namespace Pu
open PySem PySem.Spec L2
open PyProof.Rows hiding St Fr
@[irreducible]def bq(X:Cx) (e:Expr) (f:2e3):Prop:=EM X e f
theorem K9:@bq=@EM:=by ext bq;rfl
@[irreducible]def iK(X:Cx) (es:3e4) (f:1e9):Prop:=AM X es f
theorem Lb:@iK=@AM:=by ext iK;rfl
@[irreducible]def kO(X:Cx) (e:Expr) (f:4e1):Prop:=TMt X e f
theorem F3:@kO=@TMt:=by ext kO;rfl
@[irreducible]def Mm(X:Cx) (e:Expr) (f:4e1):Prop:=WM X e f
theorem K3:@Mm=@WM:=by ext Mm;rfl
@[irreducible]def ow(X:Cx) (e:Expr) (f:7e0):Prop:=FM X e f
theorem K8:@ow=@FM:=by ext ow;rfl
@[irreducible]def mh(X:Cx) (st:Stmt) (f:7e3):Prop:=SM X st f
theorem K4:@mh=@SM:=by ext mh;rfl
@[irreducible]def ox(X:Cx) (zr:List Stmt) (f:7e3):Prop:=BM X zr f
theorem La:@ox=@BM:=by ext ox;rfl
@[irreducible]def rK(X:Cx) (tg:Expr) (g:2e7):Prop:=GM X tg g
theorem K7:@rK=@GM:=by ext rK;rfl
@[irreducible]def zg(X:Cx) (ts:3e4) (g:List PV->aq->Option aq):Prop:=GMs X ts g
theorem F4:@zg=@GMs:=by ext zg;rfl
@[irreducible]def Dn(X:Cx) (tg iter:Expr) (f:7e0):Prop:=IM X tg iter f
theorem K6:@Dn=@IM:=by ext Dn;rfl
@[irreducible]def kN(X:Cx) (ifs:3e4) (t:4e1):Prop:=RD X ifs t
theorem F2:@kN=@RD:=by ext kN;rfl
@[irreducible]def Mn(X:Cx) (e:Option Expr) (f:aq->M (Option Int)):Prop:=OM X e f
theorem K5:@Mn=@OM:=by ext Mn;rfl
@[irreducible]def Mo(X:Cx) (ks:List (Option Expr)) (es:3e4) (keys:4e3) (f:1e9):Prop:=DM X ks es keys f
theorem K':@Mo=@DM:=by ext Mo;rfl
end Pu
local macro_rules
 | `(tactic| subst_eqs)=>`(tactic| simp only[Pu.K9,Pu.Lb,Pu.F3,Pu.K3,Pu.K8,Pu.K4,Pu.La,Pu.K7,Pu.F4,Pu.K6,Pu.F2,Pu.K5,Pu.K']at *)
namespace Pu
open PySem PySem.Spec L2
open PyProof.Rows hiding St
theorem mS{X:Cx}{e:Expr}{f:4e1}(h:Mm X e f):kO X e f:=by
 subst_eqs;show h _
section
variable{X:Cx}{a b e c:Expr}{es:3e4}{fa fb fc:2e3}{pos p:Pos}{x:Str}
theorem ay(i:Nat){x:Str}{pos:Pos}(hN:X.N[i]? = some x:=by rfl)(hv:Ml X.env.scope x:=by first|show Or.inl rfl|show Or.inr 3e5|show Or.inr (Or.inr rfl))(hd:3e2:=by decide)
  (ou:(x==("__classdict__":Str))=false:=by decide):bq X (.Name x pos) (au i):=by
 subst_eqs;show PE.imp (sN hN hv hd ou) λσ H Q h_=>?_;obtain⟨ι,ρ,C,r,C',sr,e,q⟩:=h_;ext au e;cases e1:ρ[i]? with
 |none=>rw[e1]at e;cases e
 |some o=>
  cases o with
  |none=>rw[e1]at e;cases e
  |some s=>
   rw[e1]at e;cases e;obtain⟨v,h1,h2⟩:=sr.loc i _ e1;show⟨v,h1,q v H .refl sr.cr h2⟩
theorem bD{i j pos}:bq X (.Constant (.int i) j pos) (mC (.int i)):=by
 subst_eqs;show jZ Iy λι H=>by ext Rep;rfl
theorem xa{i j pos}(h:i.length<=sizeLine:=by decide +kernel):bq X (.Constant (.str i) j pos) (mC (.str i)):=by
 subst_eqs;show jZ Iu λι H=>by ext Rep;show⟨rfl,h⟩
theorem sC{i:Str}(hg:Gl X x)(hm:∃t,X.mg x=some (.str i t))(h:i.length<=sizeLine:=by decide +kernel)(hd:3e2:=by decide):bq X (.Name x pos) (mC (.str i)):=by
 subst_eqs;obtain⟨t,hm⟩:=hm;show jZ (Ez (v:=.str i) hg hm ⟨_,rfl⟩ hd) λι H=>by ext Rep;show⟨rfl,h⟩
theorem FX{op:CmpOp}{r:R2}{g:Cs->SV->SV->Option SV}(ho:fX X (WW op) r)(hg:zf X.K r g)(ha:bq X a fa)(hb:bq X b fb)(hm:Uj op b=false):bq X (.Compare a [op] [b] pos) (aB g fa fb):=by
 subst_eqs;show PE.imp (EA ho ha hb hm) λ_ _ _ h=>u5 hg h
theorem xb{op:CmpOp}{r:R2}{g:Cs->SV->SV->Option SV}(ho:fX X (WW op) r)(hg:zf X.K r g)(ha:bq X a fa)(hb:bq X b fb)(hm:Uj op b=false):kO X (.Compare a [op] [b] pos) (bz (aB g fa fb)):=by
 subst_eqs;show PT.imp (Eo ho ha hb hm) λσ H Q h=>by
    obtain⟨ι,ρ,C,x,C',sr,e,q⟩:=DY h;show u5 hg ⟨ι,ρ,C,x,C',sr,e,q⟩
theorem o7(ha:bq X a fa)(he:∀whole,isTrue a X.env whole=(do let v ←whole;standAt a.pos;Dl [v] (truthy v)):=by intro _;rfl):kO X a (pS fa):=by
 subst_eqs;show PT.imp (Ay ha he) λσ H Q h=>by
    sleep 8;obtain⟨x,C1,e1,e⟩:=bp e;obtain⟨e2,rfl⟩:=kj e;show⟨ι,ρ,C,x,C',sr,e1,λv H1 f1 c1 r1=>⟨z,?_,q H1 f1 c1⟩⟩;cases hd:aM C' x with
    |none=>rw[hd]at e2;cases e2
    |some p=>rw[hd]at e2;show(r1.lies c1 hd).tru e2
theorem Ra{f:4e1}(h:kO X a f):Mm X (.BoolOp .And [a] pos) f:=by
 subst_eqs;show Ej h
theorem Px{rest:3e4}{f g:4e1}(h:kO X a f)(k:Mm X (.BoolOp .And (b::rest) pos) g):Mm X (.BoolOp .And (a::b::rest) pos) (cZ f g):=by
 subst_eqs;show PW.imp (Im h k) λσ H Q h=>by
   sleep 8;obtain⟨x,C1,e1,e⟩:=bp e;show⟨ι,ρ,C,x,C1,sr,e1,λH1 f1 c1=>?_⟩;cases x with
   |true=>rw[if_pos rfl]at e⊢;show⟨ι,ρ,C1,z,C',sr.step f1 c1,e,λH2 f2 c2=>q H2 (f1.trans f2) c2⟩
   |false=>rw[if_neg Yw]at e⊢;cases e;show q H1 f1 c1
theorem jv{op}{f:2e3}(h:bq X a f):bq X (.BoolOp op [a] pos) f:=by
 subst_eqs;show Iv h
theorem jw{rest:3e4}{f g:2e3}(h:bq X a f)(k:bq X (.BoolOp .And (b::rest) pos) g):bq X (.BoolOp .And (a::b::rest) pos) (lE f g):=by
 subst_eqs;show PE.imp (Iz h k) λσ H Q h=>by
   sleep 8;obtain⟨x,C1,e1,e⟩:=bp e;obtain⟨k,C2,e2,e3⟩:=bp e;obtain⟨hx,hC⟩:=vR e2;subst hx hC;clear e e2;have e:=e3;show⟨ι,ρ,C,_,C2,sr,e1,λv H1 f1 c1 r1=>⟨k,M5 r1,?_⟩⟩;cases k with
   |true=>rw[if_pos rfl]at e⊢;show⟨ι,ρ,C2,z,C',sr.step f1 c1,e,λv' H2 f2 c2 r2=>q v' H2 (f1.trans f2) c2 r2⟩
   |false=>rw[if_neg Yw]at e⊢;cases e;show q _ H1 f1 c1 M4
theorem b6:iK X [] af:=by
 subst_eqs;apply@n6<;>assumption
theorem aK{f:2e3}{g:1e9}(h:bq X e f)(k:iK X es g)(hs:1e5:=by rfl):iK X 4e4 (aa f g):=by
 subst_eqs;apply@n9<;>assumption
end
section
variable{X:Cx}{a b e c tg:Expr}{es:3e4}{st:Stmt}{rest zr HY:List Stmt}{f g:7e3}{pos p pos':Pos}{x:Str}
theorem Hi:ox X [] dz:=by
 subst_eqs;show kQ.imp Ep λD σ H h_=>by obtain⟨ι,ρ,C,fl,C',sr,e,d⟩:=h_;cases e;show d.IJ sr
theorem fw(h:mh X st f):ox X [st] f:=by
 subst_eqs;show mV h
theorem dj(h:mh X st f)(k:ox X rest g):ox X (st::rest) (aA f g):=by
 subst_eqs;show kQ.imp (QX h k) λD σ H h_=>by
   sleep 2;obtain⟨zA,C1,e1,e⟩:=bp e;show⟨ι,ρ,C,zA,C1,sr,e1,?_⟩;cases zA with
   |nx ρ1=>show λι2 σ' H' x Lj=>⟨ι++ι2,ρ1,C1,fl,C',Lj,e,d.tr Lj.cr x⟩
   |rt r=>cases e;show d
   |bk ρ1=>cases e;show d
   |ct ρ1=>cases e;show d
   |rf ps=>cases e;show d
   |rq ps=>cases e;show d
theorem Hl{t:4e1}(hc:kO X c t)(h:ox X zr f)(k:ox X HY g):mh X (.If c zr HY pos) (ft t f g):=by
 subst_eqs;show PS.imp (Nh hc h k) λD σ H h_=>by
   sleep 2;obtain⟨z,C1,e1,e⟩:=bp e;show⟨ι,ρ,C,z,C1,sr,e1,λH1 f1 c1=>?_⟩;cases z with
   |true=>rw[if_pos rfl]at e⊢;show⟨ι,ρ,C1,fl,C',sr.step f1 c1,e,d.fr c1 f1⟩
   |false=>rw[if_neg Yw]at e⊢;show⟨ι,ρ,C1,fl,C',sr.step f1 c1,e,d.fr c1 f1⟩
theorem ze{f:2e3}(h:bq X e f):mh X (.Return (some e) pos) (eM f):=by
 subst_eqs;show PS.imp (mW h) λD σ H h_=>by
   sleep 2;obtain⟨z,C1,e1,e⟩:=bp e;cases e;show⟨ι,ρ,C,z,_,sr,e1,λv H1 f1 c1 r1=>d [] v H1 (Ex.fr f1) (by rw[YG];show c1) (by rw[YG];show r1)⟩
theorem Hm{f:7e0}(h:ow X e f):mh X (.Return (some e) pos) (cY f):=by
 subst_eqs;show PS.imp (mW h) λD σ H h_=>by
   sleep 2;obtain⟨ps,C1,e1,g1⟩:=bp e;cases g1;show⟨ι,ρ,C,ps,_,sr,e1,λq vs H1 f1 c1 hq rs=>d [] q vs H1 (Ex.fr f1) (by rw[YG];show c1) hq (by rw[YG];show rs)⟩
theorem xF{x1}{pt:Pos}{fs:1e9}(h:iK X es fs):mh X (.Return (some (.Tuple es x1 pt)) pos) (vN fs):=by
 subst_eqs;show PS.imp (mW (AL h)) λD σ H h_=>by
   sleep 2;obtain⟨xs,C1,e1,g1⟩:=bp e;by_cases hl:xs.length<=1000
   case neg=>rw[if_neg hl]at g1;cases g1
   rw[if_pos hl]at g1;cases g1;show⟨ι,ρ,C,xs,_,sr,e1,λvs H1 f1 c1 r1=>⟨by rw[←aU.length r1];show Xb hl (by rw[YZ];decide),λq hq=>d [] q vs H1 (Ex.fr f1) (by rw[YG];show c1) hq (by rw[YG];show r1)⟩⟩
theorem FT{f:2e3}(h:bq X e f)(hs:Vn e none pos.line X.env=pure false:=by rfl):mh X (.Expr e pos) (b7 f):=by
 subst_eqs;show PS.imp (vm h hs) λD σ H h_=>by
   sleep 2;obtain⟨z,C1,e1,e⟩:=bp e;cases e;show⟨ι,ρ,C,z,_,sr,e1,λv H1 f1 c1 r1=>Done.IJ (sr.step f1 c1) (d.fr c1 f1)⟩
theorem iH{i:Nat}{f:2e3}(hN:X.N.Nodup)(hi:X.N[i]? = some x)(hx:Loc X.env.scope x)(h:bq X e f)(hs:Vn e (some (.Name x pos')) pos.line X.env=pure false:=by rfl)
  (hf:4e7:=by first|show .inl rfl|show .inr rfl|assumption):mh X (.Assign [.Name x pos'] e pos) (a8 i f):=by
 subst_eqs;show PS.imp (jx hN hi hx h hs hf) λD σ H h_=>by
   sleep 2;obtain⟨z,C1,e1,e⟩:=bp e;cases e;show⟨ι,ρ,C,z,_,sr,e1,λv H1 f1 c1 r1=>Done.IJ ((sr.step f1 c1).set i r1) (d.fr c1 f1)⟩
theorem KC{i:Nat}{f:7e0}(hN:X.N.Nodup)(hi:X.N[i]? = some x)(hx:Loc X.env.scope x)(h:ow X e f)(hs:Vn e (some (.Name x pos')) pos.line X.env=pure false:=by rfl)
  (hf:4e7:=by first|show .inl rfl|show .inr rfl|assumption):mh X (.Assign [.Name x pos'] e pos) (dO i f):=by
 subst_eqs;show PS.imp (jx hN hi hx h hs hf) λD σ H h_=>by
   sleep 2;obtain⟨ps,C1,e1,e⟩:=bp e;cases e;show⟨ι,ρ,C,ps,C1,sr,e1,λq vs H' f1 c1 hq rs=>A7 sr d f1 c1 hq rs⟩
theorem me{x1}{fs:1e9}(h:iK X es fs):bq X (.Tuple es x1 pos) (a7 fs):=by
 subst_eqs;show PE.imp (AL h) λσ H Q h_=>by
   sleep 5;obtain⟨xs,C1,e1,e⟩:=bp e;obtain⟨e2,rfl⟩:=kj e;show⟨ι,ρ,C,xs,_,sr,e1,λvs H1 f1 c1 r1=>?_⟩;by_cases hl:xs.length<=1000
   ·rw[if_pos hl]at e2
    cases hp:plain xs with
    |none=>rw[hp]at e2;cases e2
    |some ps=>
     rw[hp]at e2;cases e2;obtain⟨rs,hv⟩:=PC hp r1;show⟨by rw[hv];show wg hl,λq' hq=>q _ _ (f1.trans (Fr.new hq)) (c1.new hq) ?_⟩;change Rep _ _ _ (.tup ps) _;ext Rep;show⟨q',vs,rfl,fP,ae.cW (λb o e=>by rw[bf (gu e hq)];show e) ps vs rs⟩
   ·rw[if_neg hl]at e2;cases e2
theorem FY{fs:1e9}(h:iK X es fs):ow X (.List es pos) (dg fs):=by
 subst_eqs;apply@B8<;>assumption
theorem uP{f:7e0}(h:ow X e f):bq X e (bF f):=by
 subst_eqs;show PE.imp h λσ H Q h_=>by
   sleep 5;obtain⟨ps,C1,e1,e⟩:=bp e;cases e;show⟨ι,ρ,C,ps,_,sr,e1,λq' vs H1 f1 c1 hq rs=>q _ _ (f1.trans (Fr.new hq)) (c1.new hq) (Pk c1 hq rs)⟩
theorem iI{i:Nat}(hN:X.N.Nodup)(hi:X.N[i]? = some x)(hx:Loc X.env.scope x)(hf:4e7:=by first|show .inl rfl|show .inr rfl|assumption):rK X (.Name x pos) (hName i):=by
 subst_eqs;show PG.imp (Ey hN hi hx hf) λv σ H Q h_=>by obtain⟨ι,ρ,C,p,ρ',sr,r,e,q⟩:=h_;cases e;show q _ (sr.set i r)
theorem ZL:zg X [] nF:=by
 subst_eqs;show DO.imp Ew λv σ H Q h_=>by
   obtain⟨ι,ρ,C,p,ρ',sr,r,e,q⟩:=h_;cases p with
   |nil=>cases e;show⟨r.fH,q σ sr⟩
   |cons _ _=>cases e
theorem Me{g:2e7}{gs:List PV->aq->Option aq}(h:rK X e g)(k:zg X es gs)(hs:(W6 4e4 X.env).map (·.2)=assign e X.env::(W6 es X.env).map (·.2):=by rfl):zg X 4e4 (da g gs):=by
 subst_eqs;show DO.imp (AK h k hs) λv σ H Q h_=>by
    obtain⟨ι,ρ,C,p,ρ',sr,r,e,q⟩:=h_;cases p with
    |nil=>cases e
    |cons p ps=>
     obtain⟨w,ws,rfl,r1,r2⟩:=r.inv;replace e:(g p ρ).bind (λρ'=>gs ps ρ')=some ρ':=e;cases h1:g p ρ with
     |none=>rw[h1]at e;cases e
     |some ρ1=>
      rw[h1]at e;show⟨w,ws,rfl,ι,ρ,C,p,ρ1,sr,r1,h1,λσ1 zZ=>⟨ι,ρ1,C,ps,ρ',zZ,r2,e,q⟩⟩
theorem ju{gs:List PV->aq->Option aq}{k n:Nat}(hc:5e1)(h:zg X es gs)(hn:(W6 es X.env).length=n:=by rfl)(t7:(W6 es X.env).findIdx? (·.1)=none:=by rfl):rK X (.Tuple es k pos) (nE gs n):=by
 subst_eqs;show PG.imp (Iq hc h hn t7) λv σ H Q h_=>by
    obtain⟨ι,ρ,C,p,ρ',sr,r,e,q⟩:=h_;cases p with
    |tup ps=>
     ext Rep r;obtain⟨a,vs,rfl,sq,rs⟩:=r;replace e:(if ps.length=n then gs ps ρ else none)=some ρ':=e;by_cases hl:ps.length=n
     ·rw[if_pos hl]at e
      show⟨a,vs,rfl,sq.sq,by rw[←rs.length];show hl,ι,ρ,C,ps,ρ',sr,rs,e,q⟩
     ·rw[if_neg hl]at e;cases e
    |_=>cases e
theorem Ao{f:2e3}{g:2e7}(h:bq X e f)(k:rK X tg g)(hs:swapsWithSole [tg] e pos.line X.env=pure false:=by rfl)(hw:swappedStores [tg] e X.env=pure none:=by rfl)
  (h1:(W6 [tg] X.env).map (·.2)=[assign tg X.env]:=by rfl):mh X (.Assign [tg] e pos) (ER f g):=by
 subst_eqs;show PS.imp (AB h k hs hw h1) λD σ H h_=>by
   sleep 2;obtain⟨z,C1,e1,e⟩:=bp e;show⟨ι,ρ,C,z,C1,sr,e1,λv H1 f1 c1 r1=>?_⟩;cases z with
   |c k=>cases e
   |v p=>
    have e:(g p ρ).map (λρ'=>(PF.nx ρ',C1))=some (fl,C'):=e;cases hg:g p ρ with
    |none=>rw[hg]at e;cases e
    |some ρ1=>
     rw[hg]at e;cases e;show⟨ι,ρ,_,p,ρ1,sr.step f1 c1,r1,hg,λσ' Lj=>Done.IJ Lj (d.fr c1 f1)⟩
end
section
variable{X:Cx}{e tg iter elt:Expr}{es:3e4}{body:List Stmt}{f:7e3}{pos p:Pos}{x:Str}
theorem Pw{it:7e0}{g:2e7}(hp:U7 2e2 X.A X.env X.xe)(hc:5e1)(hi:Dn X tg iter it)(hg:rK X tg g)(hb:ox X body f)
  (hs:9e3:=by intro _;rfl):mh X (.For tg iter body [] pos) (bO it g f):=by
 subst_eqs;show PS.imp (sJ hp hc hi hg hb hs) λD σ H h_=>by
   sleep 2;obtain⟨xs,C1,e1,e⟩:=bp e;show⟨ι,ρ,C,xs,C1,sr,e1,λJ H1 f1 c1 fW=>?_⟩;have d1:=d.fr c1 f1;have zZ:=sr.step f1 c1;show⟨λi m σ2 H2=>∃ι2 ρ2 C2,m=xs.length-i/\i<=xs.length/\Ex ι ι2 H1 H2/\SR X.K 6e5 H2 ρ2 σ2 C2/\loop g f (xs.drop i) ρ2 C2=some (fl,C'),⟨xs.length,[],ρ,C1,rfl,Y4 _,Ex.fr .refl,by rw[YG];show zZ,e⟩,?_⟩;rintro i m σ2 H2 ⟨ι2,ρ2,C2,rfl,rE,x2,fU,e2⟩;rcases YQ i xs.length with bA|Qu
   ·right
    show⟨fW.go ι2 H2 C2 x2 fU.cr i bA,λσ' H'=>∃ι2 ρ2 C2,Ex ι ι2 H1 H'/\SR X.K 6e5 H' ρ2 σ' C2/\loop g f (xs.drop (i+1)) ρ2 C2=some (fl,C'),?_,?_⟩
    ·rintro σ' H' ⟨ι3,ρ3,C3,x3,Gj,e3⟩
     show⟨xs.length-(i+1),by lia,ι3,ρ3,C3,rfl,bA,x3,Gj,e3⟩
    ·intro v H3 y
     obtain⟨sm,q,hq,rq⟩:=fW.uY ι2 H2 C2 x2 fU.cr i v H3 bA y;have hd:xs.drop i=q::xs.drop (i+1):=by
      rw[Y9 bA];rw[Ye bA]at hq;rw[YO hq]
     rw[hd]at e2;ext loop e2;cases nD:g q ρ2 with
     |none=>rw[nD]at e2;cases e2
     |some ρ3=>
      rw[nD]at e2;obtain⟨zA,C3,e3,e4⟩:=bp e2;have ki:Fr 6e5 H2 H3:=λb o _ z=>sm b o z;have lY:CR X.K 6e5 H3 C2:=fU.cr.same sm;have x3:Ex ι ι2 H1 H3:=⟨λb o n z=>sm b o (x2.1 b o n z),x2.2⟩
      show⟨ι++ι2,ρ2,C2,q,ρ3,fU.step ki lY,rq,nD,λσ4 zY=>⟨ι++ι2,ρ3,C2,zA,C3,zY,e3,?_⟩⟩;cases zA with
      |nx ρ5=>show λι5 σ5 H5 x5 iC=>⟨ι2++ι5,ρ5,C3,x3.trans lY x5,by rw[←Yd];show iC,e4⟩
      |ct ρ5=>show λι5 σ5 H5 x5 iC=>⟨ι2++ι5,ρ5,C3,x3.trans lY x5,by rw[←Yd];show iC,e4⟩
      |bk ρ5=>cases e4;show λι5 σ5 H5 x5 iC=>d1 (ι2++ι5) σ5 H5 (x3.trans lY x5) (by rw[←Yd];show iC)
      |rf ps=>cases e4;show λι5 q5 xj H5 x5 c5 h5 r5=>d1 (ι2++ι5) q5 xj H5 (x3.trans lY x5) (by rw[←Yd];show c5) h5 (by rw[←Yd];show r5)
      |rq ps=>cases e4;show λι5 q5 xj H5 x5 c5 h5 r5=>d1 (ι2++ι5) q5 xj H5 (x3.trans lY x5) (by rw[←Yd];show c5) h5 (by rw[←Yd];show r5)
      |rt r=>cases e4;show λι5 v5 H5 x5 c5 r5=>d1 (ι2++ι5) v5 H5 (x3.trans lY x5) (by rw[←Yd];show c5) (by rw[←Yd];show r5)
   ·left
    have Fe:i=xs.length:=by lia
    subst Fe;rw[V8]at e2;cases e2;show⟨fW.stop ι2 H2 _ x2 fU.cr,d1 ι2 σ2 H2 x2 fU⟩
section
variable{ifs:3e4}{scope:Scope}{vs fs:4e3}{fr:3e9}{it:7e0}{g:2e7}{tt:4e1}{te:2e3}
theorem DJ:kN X [] ff:=by
 subst_eqs;show λpins s σ H Q I h_=>by
   obtain⟨ι,ρ,C,b,C',sr,e,q⟩:=h_;cases e;show En pins s σ H Q I (q H .refl sr.cr)
theorem o6{c:Expr}{t:4e1}(h:kO X c t):kN X [c] t:=by
 subst_eqs;show Em h
theorem L4(S:8e1)(hc:5e1)(hi:Dn X tg iter it)
  (bG:∀C s₀ H₀ ex pn,rK 1e2 tg g) (bT:∀C s₀ H₀ ex pn,kN 1e2 ifs tt) (bE:∀C s₀ H₀ ex pn,bq 1e2 elt te)
  (hs:9e3:=by intro _;rfl):ow X (.ListComp elt [9e0] scope pos) (bW it vs fr g tt te):=by
 subst_eqs;show PE.imp (jB (wi:=MI X.K it) (g:=zV X.K g) (tt:=xq X.K tt) (te:=tM X.K te) S hc hi bG bT (λ_ _ _ _ _=>.nil) bE hs) λσ H Q ⟨ι,ρ,C,res,C',sr,e,q⟩=>Zd0 sr e q
theorem xI{i:Nat}{px fV:Pos}(hN:X.N.Nodup)(hx:X.N[i]? = some x)(hl:X.env.scope.names.lookup x=some .local)(S:8e1)(hc:5e1)(hi:Dn X tg iter it)
  (bG:∀C s₀ H₀ ex pn,rK 1e2 tg g) (bT:∀C s₀ H₀ ex pn,kN 1e2 ifs tt) (bE:∀C s₀ H₀ ex pn,bq 1e2 elt te)
  (Ta:Vn (.ListComp elt [9e0] scope pos) (some (.Name x px)) fV.line X.env=pure true:=by rfl) (hs:9e3:=by intro _;rfl):
  mh X (.Assign [.Name x px] (.ListComp elt [9e0] scope pos) fV) (a8 i (bF (bW it vs fr g tt te))):=by
 subst_eqs;show PS.imp (AA (gs:=[]) (rest:=[]) (g:=zV X.K g) (tt:=xq X.K tt) (te:=tM X.K te) hN hx hl S hc hi bG bT (λ_ _ _ _ _=>.nil) bE Ta hs) λD σ H h_=>by
   sleep 2;obtain⟨z,C1,e1,e⟩:=bp e;cases e;obtain⟨res,C2,e2,e3⟩:=bp e1;cases e3;show Zd0 sr e2 λq vs H' f1 c1 hq rs=>Done.IJ (((sr.step f1 c1).step (Fr.new hq) (c1.new hq)).set i (s:=.v (.lst _)) (Pk c1 hq rs)) (d.fr (c1.new hq) (f1.trans (Fr.new hq)))
end
end
section
variable{P:YF}{w:World}{K:W.Frag}{mg:2e5}{base:Heap}
theorem Eh{x qual:Str}{st:Stmt}{f:Addr}{fd:WD}{N ps:4e3}{k:Nat}{body:7e3}(F:DR K x qual st f fd)(S:aJ N ps (ah st))
  (fm:∀(cdv:Value)(A:Around)(outer:List Env)(s:Shared)(H:Hp)(E:XK),b9 k (A.deeper (envOfC qual (ah st) s.heap.objs.size f cdv))->
   ox (j4 om P w K mg base N qual (ah st) f cdv A outer s H E).EG (bL st) body):eY P w K mg base om (k+1) f fd ps (av K (cN ps.length (N.length-ps.length) body)):=by
 subst_eqs;apply@GW<;>assumption
end
end Pu
namespace Pu
open PySem PySem.Spec L2
open PyProof.Rows hiding St Fr
section
variable{X:Cx}
variable{a b e c:Expr}{es:3e4}{fa fb fc:2e3}{pos p:Pos}{x:Str}
theorem ke(ha:bq X a fa)(hb:bq X b fb):bq X (.BinOp a .Add b pos) (aB 7e8 fa fb):=by
 subst_eqs;show ql xW Ku.r ha hb
theorem DH(ha:bq X a fa)(hb:bq X b fb):bq X (.BinOp a .Mult b pos) (aB (g2 kE) fa fb):=by
 subst_eqs;show ql IC (ny λi j h=>by
   rw[Ycf]at h;rcases h with h|h
   ·show .inl (of_decide_eq_true h)
   ·show .inr (of_decide_eq_true h)).r ha hb
theorem qU(ha:bq X a fa)(hb:bq X b fb):bq X (.BinOp a .Mod b pos) (aB (g2 fE) fa fb):=by
 subst_eqs;show ql ID (ny λi j h=>of_decide_eq_true h).r ha hb
theorem o9(ha:bq X a fa)(hb:bq X b fb):bq X (.BinOp a .Pow b pos) (aB (g2 Nj) fa fb):=by
 subst_eqs;show ql IB (ny λi j h=>by
   have h:=of_decide_eq_true h;show⟨h.1,Int.le_trans h.2.1 (by decide),h.2.2⟩).r ha hb
theorem Aq(ha:bq X a fa):bq X (.UnaryOp .USub a pos) (EO fa):=by
 subst_eqs;show PE.imp (Nk HH ha) λσ H Q h_=>?_;obtain⟨ι,ρ,C,z,C',sr,e,k⟩:=h_;obtain⟨x,C1,e1,e⟩:=bp e;obtain⟨e2,rfl⟩:=kj e;show⟨ι,ρ,C,x,_,sr,e1,λv H1 f1 c1 r1=>?_⟩;ext IS e2;split at e2
 ·rename_i i hd
  cases e2;have l:=r1.lies c1 hd;cases l;show⟨i,rfl,k _ H1 f1 c1 (show Rep _ _ _ _ _ from ku)⟩
 ·cases e2
end
section
variable{X:Cx}{a b e c o:Expr}{es:3e4}{fa fb fc fo:2e3}{fs:1e9}{pos p apos aV:Pos}{x:Str}
theorem Pr(i5:Gl X "len")(hm:X.mg "len"=none)(ha:iK X 4e4 fs)
  (he:1e5:=by rfl) (cD:2e4:=by rfl):bq X (.Call (.Name "len" p) 4e4 [] pos) (iZ (g1 jN) fs):=by
 subst_eqs;show QU CV Jg.c i5 hm PySem.boot_len ha 1e7 1e7 he cD
theorem pe(hc:5e1)(i5:Gl X "max")(hm:X.mg "max"=none)(hv:XB "max"=some (.builtin "max"))(ha:iK X 4e4 fs)
  (he:1e5:=by rfl) (cD:2e4:=by rfl):bq X (.Call (.Name "max" p) 4e4 [] pos) (iZ (g1 ye) fs):=by
 subst_eqs;show QU (yS hc) IV.c i5 hm hv ha 1e7 1e7 he cD
theorem su(i5:Gl X "list")(hm:X.mg "list"=none)(hv:XB "list"=some (.type "list"))(ha:iK X 4e4 fs)
  (he:1e5:=by rfl) (cD:2e4:=by rfl):ow X (.Call (.Name "list" p) 4e4 [] pos) (vP fs):=by
 subst_eqs;show PE.imp (lz nU i5 hm hv ha 1e7 1e7 he cD) λσ H Q h_=>by
    sleep 5;obtain⟨xs,C1,e1,e⟩:=bp e;obtain⟨e2,rfl⟩:=kj e;show⟨ι,ρ,C,xs,_,sr,e1,λvs H1 f1 c1 r1=>?_⟩;ext Bq e2;split at e2
    ·rename_i x
     obtain⟨v,w,rfl,r1,hw⟩:=r1;cases(show w=[]from hw);split at e2
     ·rename_i hd
      cases e2;obtain⟨a,ws,rfl,h1,r2⟩:=dC (r1.lies c1 hd);show⟨a,ws,rfl,.inl h1,λl hl=>q l ws H1 f1 c1 hl r2⟩
     ·rename_i hd
      cases e2;obtain⟨a,ws,rfl,h1,r2⟩:=iu (r1.lies c1 hd);show⟨a,ws,rfl,.inr h1.sq,λl hl=>q l ws H1 f1 c1 hl r2⟩
     ·cases e2
    ·cases e2
theorem As(hc:5e1)(i5:Gl X "all")(hm:X.mg "all"=none)(hv:XB "all"=some (.builtin "all"))(ha:iK X 4e4 fs)
  (he:1e5:=by rfl) (cD:2e4:=by rfl):bq X (.Call (.Name "all" p) 4e4 [] pos) (iZ (g1 uK) fs):=by
 subst_eqs;show QU (qK hc) Kt.c i5 hm hv ha 1e7 1e7 he cD
end
section
variable{X:Cx}{a b e c o i:Expr}{es:3e4}{fa fb fc fo fi fv:2e3}{fs:1e9}{pos p apos aV:Pos}{x:Str}
theorem Md(ho:bq X o fo)(ha:iK X 4e4 fs)(cF:X8 o "append" X.env (eval o X.env)=eval o X.env:=by rfl)
  (iE:((backTo aV (Yt 4e4 X.env)).all (λx=>!x.1)&&(Mf aV (U8 [] X.env)).all (λx=>x.1.isSome)
   &&decide ((e::es).length+([]:List U9).length+(if([]:List U9).isEmpty then 0 else 1)<30))=true:=by rfl)
  (cE:9e8:=by rfl) (hs:1e5:=by rfl) (gf:(backTo aV (Yt es X.env)).any (·.1)=false:=by rfl):
  bq X (.Call (.Attribute o "append" apos) 4e4 [] aV) (eN fo fs):=by
 subst_eqs;show PE.imp (pB Vl PySem.F.slot_list_append PySem.F.type_list_append lC ho ha cF iE cE hs gf) λσ H Q h_=>by
    sleep 5;obtain⟨x,C1,e1,g1⟩:=bp e;obtain⟨u,C2,e2,g2⟩:=bp g1;obtain⟨ys,C3,e3,g3⟩:=bp g2;obtain⟨hC,k,Lm,hx,LC⟩:=Z1 e2;obtain⟨k',p',ps,rB,hy,hc,hl,hr,Fh⟩:=za g3;clear e g1 g2 g3 e2;subst hC hx hr Fh hy;cases rB;show⟨ι,ρ,C,_,_,sr,e1,λv H1 f1 c1 r1=>?_⟩;obtain⟨a,rfl,hk⟩:=r1;obtain⟨vs0,h0,_⟩:=KI c1 hk LC;show⟨.inl ⟨rfl,_,.of h0⟩,ι,ρ,_,_,C3,sr.step f1 c1,e3,λws H2 f2 c2 r2=>?_⟩;obtain⟨w,wr,rfl,R8,hw⟩:=r2;cases(show wr=[]from hw);obtain⟨vs,h1,rv⟩:=KI c2 hk hc;obtain⟨c4,f4⟩:=j5 c2 hk (rv.append (.cons R8 .nil));show⟨a,vs,w,rfl,rfl,h1,by rw[←rv.length];show YC hl (eO (Yl _)),q _ _ (f1.trans (f2.trans f4)) c4 (show Rep _ _ _ _ _ from M1)⟩
theorem ZdO{fV:Pos}(hv:bq X e fv)(ho:bq X o fo)(hi:bq X i fi)
  (ha:∀v,assign (.Subscript o i fV) X.env v=(do
   let ov ←Dl [v] (eval o X.env)
   let iv ←Dl [v,ov] (eval i X.env)
   standAt fV
   Dl [v,ov,iv] (setItem ov iv v)
   release [v,ov,iv] []):=by intro _;rfl)
  (hs:swapsWithSole [.Subscript o i fV] e pos.line X.env=pure false:=by rfl) (hw:swappedStores [.Subscript o i fV] e X.env=pure none:=by rfl)
  (h1:(W6 [.Subscript o i fV] X.env).map (·.2)=[assign (.Subscript o i fV) X.env]:=by rfl):mh X (.Assign [.Subscript o i fV] e pos) (jH fv fo fi):=by
 subst_eqs;show PS.imp (AB hv (Ir ho hi set_list ha) hs hw h1) λD σ H h_=>by
    sleep 2;obtain⟨v,C1,e1,g1⟩:=bp e;obtain⟨o,C2,e2,g2⟩:=bp g1;obtain⟨i,C3,e3,g3⟩:=bp g2;obtain⟨k,n,p',ps,j,ho,hi,hv,hc,hj,hf,hC⟩:=xx g3;clear e g1 g2 g3;subst ho hi hv hf hC;show⟨ι,ρ,C,_,C1,sr,e1,λx H1 f1 c1 r1=>⟨ι,ρ,C1,_,C2,sr.step f1 c1,e2,λy H2 f2 c2 r2=>⟨ι,ρ,C2,_,C3,(sr.step f1 c1).step f2 c2,e3,λw H3 f3 c3 r3=>?_⟩⟩⟩;obtain⟨a,rfl,hk⟩:=r2;have r3:w=.int n:=by unfold bC Rep at r3;show r3
    obtain⟨vs,h1,rv⟩:=KI c3 hk hc;have Nf:Rep X.K ι H3 p' x:=Rep.mono c2 f3 _ _ (Rep.mono c1 f2 _ _ r1);obtain⟨c4,f4⟩:=j5 c3 hk (rv.set j Nf);show⟨a,vs,n,j,rfl,r3,h1,by rw[←rv.length];show hj,?_⟩;show Done.IJ ((((sr.step f1 c1).step f2 c2).step f3 c3).step f4 c4) (d.fr c4 (f1.trans (f2.trans (f3.trans f4))))
variable{tg l:Expr}
theorem DI(hl:bq X l fa):Dn X tg l (aL fa):=by
 subst_eqs;intro pins s σ H R I h;obtain⟨ι,ρ,C,xs,C',sr,e,q⟩:=h;obtain⟨x,C1,e1,e⟩:=bp e;obtain⟨e2,rfl⟩:=kj e;show bS (hl pins s σ H (λv H1=>Fr ι H H1/\CR X.K ι H1 C'/\bC X.K ι H1 x v) I ⟨ι,ρ,C,x,C',sr,e1,λv H1 f1 c1 r1=>⟨f1,c1,r1⟩⟩) λv s1 h_=>?_;obtain⟨y,H1,I1,r1,f1,c1,rx⟩:=h_;have fp:∀b∈[s1.heap.objs.size],eV X pins H1 b:=λb hb=>by
  have e:b=s1.heap.objs.size:=by simpa using hb
  subst e;show I1.yB (Yl _) (I1.aQ.fresh (Yl _))
 ext dD e2;split at e2
 ·cases e2
  have rx:Rep X.K ι H1 (.lst _) y:=rx;ext Rep rx;obtain⟨a,vs,rfl,hq,rv⟩:=rx;cases r1;obtain⟨aw,_,p,hz⟩:=I1.list hq.sq;show VO p.isList ?_;show⟨s1.heap.objs.size,[s1.heap.objs.size],_,_,H1,rfl,I1.kept (t':=s1.toks) λb o e=>Yb _ e,xl a _,6e4,fp,q _ H1 f1 c1 (yn c1 hq rv)⟩
 ·cases e2
  have rx:Rep X.K ι H1 (.tup _) y:=rx;ext Rep rx;obtain⟨a,vs,rfl,hq,rv⟩:=rx;cases r1;obtain⟨aw,_,p,hz⟩:=I1.tuple hq.sq;show wpAny_pyIter_tuple (show s1.heap.IsTuple a aw.toArray from p) ?_;show⟨s1.heap.objs.size,[s1.heap.objs.size],_,_,H1,rfl,I1.kept (t':=s1.toks) λb o e=>Yb _ e,rO a _,6e4,fp,q _ H1 f1 c1 (BD c1 hq.sq rv)⟩
 ·cases e2
  have rx:Rep X.K ι H1 (.str _) y:=rx
  rename Str=>z
  ext Rep rx;obtain⟨rfl,hz⟩:=rx;obtain⟨t,rfl⟩:=r1;cases ha:z.cps.all (· < 128)
  ·show wpAny_pyIter_wide ha ⟨s1.heap.objs.size,[s1.heap.objs.size],_,_,H1,rfl,I1.kept (t':=s1.toks) λb o e=>Yb _ e,oB (t:=t) (.inr rfl),6e4,fp,q _ H1 f1 c1 p7⟩
  ·show wpAny_pyIter_ascii ha ⟨s1.heap.objs.size,[s1.heap.objs.size],_,_,H1,rfl,I1.kept (t':=s1.toks) λb o e=>Yb _ e,oB (t:=t) 9e6,6e4,fp,q _ H1 f1 c1 p7⟩
 ·cases e2
theorem PL(hg:Gl X "range")(hm:X.mg "range"=none)(ha:iK X [a] fs)(hs:Yt [a] X.env=[(false,eval a X.env)]:=by rfl):Dn X tg (.Call (.Name "range" p) [a] [] pos) (bg fs):=by
 subst_eqs;show PI.imp (xT hg hm ha hs) λσ H R h_=>by
    obtain⟨ι,ρ,C,xs,C',sr,e,q⟩:=h_;obtain⟨zs,C1,e1,g1⟩:=bp e;obtain⟨e2,hC⟩:=kj g1;subst hC;show⟨ι,ρ,C,zs,_,sr,e1,λvs H1 f1 c1 r1=>?_⟩;obtain⟨j,rfl,h,rfl⟩:=xA e2;obtain⟨v,w,rfl,r1,hw⟩:=r1;cases(show w=[]from hw);have r1:v=.int j:=by unfold bC Rep at r1;show r1
    subst r1;show⟨j,rfl,by lia,by lia,q _ H1 f1 c1 tR⟩
end
section
variable{X:Cx}{a b e c o i:Expr}{es:3e4}{fa fb fc fo fi fv:2e3}{fs:1e9}{pos p apos aV p2:Pos}{x:Str}{lo hi:Option Expr}{l h:aq->M (Option Int)}
theorem Hr:Mn X none iS:=by
 subst_eqs;show PO.imp Et λσ H Q h_=>by obtain⟨ι,ρ,C,r,C',sr,e,q⟩:=h_;cases e;show q H .refl sr.cr
theorem Hs(he:bq X e fa):Mn X (some e) (bJ fa):=by
 subst_eqs;show PO.imp (Es he) λσ H Q h_=>by
   obtain⟨ι,ρ,C,r,C',sr,e,q⟩:=h_;obtain⟨z,C1,e1,g1⟩:=bp e;obtain⟨e2,hC⟩:=kj g1;subst hC;show⟨ι,ρ,C,z,_,sr,e1,λv H1 f1 c1 r1=>?_⟩;ext intD e2;split at e2
   ·rename_i j hd
    cases e2;have l:=r1.lies c1 hd;cases l;show⟨j,rfl,q H1 f1 c1⟩
   ·cases e2
theorem Hq(he:bq X e fa)(hl:Mn X lo l)(hh:Mn X hi h):bq X (.Subscript e (.Slice lo hi none p2) pos) (aW fa l h):=by
 subst_eqs;show PE.imp (AN (DN.or D6 (DN.or Ib D5)) he hl hh) λσ H Q h_=>by
    sleep 5;obtain⟨x,C1,e1,g1⟩:=bp e;obtain⟨i,C2,e2,g2⟩:=bp g1;obtain⟨j,C3,e3,g3⟩:=bp g2;obtain⟨e4,hC⟩:=kj g3;subst hC;clear e g1 g2 g3;show⟨ι,ρ,C,x,C1,sr,e1,λv H1 f1 c1 r1=>⟨ι,ρ,C1,i,C2,sr.step f1 c1,e2,λH2 f2 c2=>⟨ι,ρ,C2,j,_,(sr.step f1 c1).step f2 c2,e3,λH3 f3 c3=>?_⟩⟩⟩;have fr:=f1.trans (f2.trans f3);have r3:=(r1.mono c1 f2).mono c2 f3;rcases oO e4 with⟨xs,hd,rfl⟩|⟨xs,hd,rfl⟩
    ·obtain⟨a,vs,rfl,h1,rv⟩:=dC (r3.lies c3 hd)
     show .inl ⟨a,vs,rfl,h1,λp hp=>q _ _ (fr.trans (Fr.new hp)) (c3.new hp) (show Rep _ _ _ _ _ from Pk c3 hp (oW rv i j))⟩
    ·obtain⟨a,vs,rfl,h1,rv⟩:=iu (r3.lies c3 hd)
     by_cases hw:HT.bI vs.length 0 i=0/\HT.bI vs.length vs.length j=vs.length
     ·show .inr (.inr ⟨a,vs,rfl,h1.sq,hw,?_⟩)
      rw[←rv.length]at hw;rw[yQ hw]at q;show q _ H3 fr c3 (show Rep _ _ _ _ _ by ext Rep;show⟨a,vs,rfl,h1,rv⟩)
     ·show .inr (.inl ⟨a,vs,rfl,h1.sq,hw,λp hp=>q _ _ (fr.trans (Fr.new hp)) (c3.new hp) (show Rep _ _ _ _ _ from iU hp (oW rv i j))⟩)
end
section
variable{X:Cx}{a b e c o i:Expr}{es:3e4}{fa fb fc fo fi fv:2e3}{fs:1e9}{pos p apos aV p2:Pos}{x:Str}
theorem gb(hu:X.A.units+1<cLine)(ha:bq X a fa)(hb:bq X b fb)(hs:jb b:=by show λ_ _=>rfl):bq X (.Subscript a b pos) (aB 7e5 fa fb):=by
 subst_eqs;show G1 (zi.or BB (wj hu)) BC.r ha hb hs
theorem Au:Mo X [] [] [] af:=by
 subst_eqs;show λpos pins s σ H Q I h_=>by
   obtain⟨ι,ρ,C,r,C',sr,e,q⟩:=h_;cases e;show PySem.pairTrees_nil_walk ⟨[],H,I,trivial,q [] H .refl sr.cr rfl⟩
theorem QR{k:Str}{j1:Nat}{p1:Pos}{ks:List (Option Expr)}{keys:4e3}(h:bq X e fa)(t:Mo X ks es keys fs):Mo X (some (.Constant (.str k) j1 p1)::ks) 4e4 (k::keys) (aa fa fs):=by
 subst_eqs;intro pos pins s σ H Q I h_;obtain⟨ι,ρ,C,r,C',sr,e,q⟩:=h_;obtain⟨x,C1,e1,g1⟩:=bp e;obtain⟨xs,C2,e2,g2⟩:=bp g1;cases g2;show PySem.pairTrees_cons_walk (Calls.Constant_str ?_);show bS (h pins _ σ H (λv H1=>Fr ι H H1/\CR X.K ι H1 C1/\bC X.K ι H1 x v) (I.tok _) ⟨ι,ρ,C,x,C1,sr,e1,λv H1 f1 c1 r1=>⟨f1,c1,r1⟩⟩) λu s1 h_=>?_;obtain⟨v,H1,I1,r1,f1,c1,rx⟩:=h_;show bS (t pos pins s1 σ H1 (λvs H2=>Fr ι H1 H2/\CR X.K ι H2 C'/\aU X.K ι H2 xs vs) I1 ⟨ι,ρ,C1,xs,C',sr.step f1 c1,e2,λvs H2 f2 c2 r2=>⟨f2,c2,r2⟩⟩) λus s2 h_=>?_;obtain⟨vs,H2,I2,pr,f2,c2,rs⟩:=h_;show⟨v::vs,H2,I2,⟨ZJ k _,r1,pr⟩,q (v::vs) H2 (f1.trans f2) c2 ⟨v,vs,rfl,rx.mono c1 f2,rs⟩⟩
end
end Pu
namespace Pu
open PySem PySem.Spec PySem.W PySem.Calls L2 PySem.SeqAt
open PyProof.Rows hiding St Fr
section
variable{X:Cx}{e o i:Expr}{es:3e4}{fs:1e9}{p pos pos':Pos}{x:Str}{fv fo fi:2e3}
theorem sF(gQ:5e1)(hu:5e6)(i5:Gl X "dict")(hm:X.mg "dict"=none)(hv:XB "dict"=some (.type "dict"))(ha:iK X 4e4 fs)
  (he:1e5:=by rfl) (cD:2e4:=by rfl):bq X (.Call (.Name "dict" p) 4e4 [] pos) (iZ ie fs):=by
 subst_eqs;show yG (uA gQ hu) CC i5 hm hv ha 1e7 1e7 he cD
theorem xG{n:Nat}{qr:Pos}(hN:X.N.Nodup)(hi:X.N[n]? = some x)(hx:Loc X.env.scope x)(hs:Vn (.Dict [] [] qr) (some (.Name x pos')) pos.line X.env=pure false:=by rfl)
  (hf:4e7:=by first|show .inl rfl|show .inr rfl|assumption):mh X (.Assign [.Name x pos'] (.Dict [] [] qr) pos) (vO n):=by
 subst_eqs;show PS.imp (jx hN hi hx jy hs hf) λD σ H h_=>by
   sleep 2;cases e;intro q hq;have c1:=sr.cr;have c2:CR X.K (ι++[q]) (upd H q (.dT [])) (C++[.aG [] []]):=c1.add hq ⟨[],fP,rfl,.nil⟩;have x:Ex ι [q] H (upd H q (.dT [])):=⟨Fr.new hq,λb hb=>by
    have:b=q:=by simpa using hb
    subst this;show hq⟩
   show d [q] _ _ x ((sr.ex x c2).set n ⟨q,rfl,?_⟩);rw[←c1.len];simp
theorem o8{fV:Pos}(hu:5e6)(hv:bq X e fv)(ho:bq X o fo)(hi:bq X i fi)
  (hs:Vn e (some (.Subscript o i fV)) pos.line X.env=pure false:=by rfl):mh X (.Assign [.Subscript o i fV] e pos) (iW fv fo fi):=by
 subst_eqs;show PS.imp (Er 1e0 ho hi hv hs) λD σ H h_=>by
    sleep 2;obtain⟨v,C1,e1,g1⟩:=bp e;obtain⟨o,C2,e2,g2⟩:=bp g1;obtain⟨i,C3,e3,g3⟩:=bp g2;obtain⟨k,qs,p',ks,ps,key,ho,hi,hv,hc,hj,hlen,hf,hC⟩:=xw g3;clear e g1 g2 g3;subst ho hi hv hf hC;show⟨ι,ρ,C,_,C1,sr,e1,λx H1 f1 c1 r1=>⟨ι,ρ,C1,_,C2,sr.step f1 c1,e2,λy H2 f2 c2 r2=>⟨ι,ρ,C2,_,C3,(sr.step f1 c1).step f2 c2,e3,λw H3 f3 c3 r3=>?_⟩⟩⟩;obtain⟨a,rfl,hk⟩:=r2;obtain⟨vs,h1,hl,rv⟩:=(show aX X.K ι H3 a (.aG ks ps)from c3.ok k a _ hk hc)
    obtain⟨b,rfl,hb⟩:=Q3 (show Rep X.K ι H3 (.tup qs) w from r3) hj;have Nf:Rep X.K ι H3 p' x:=Rep.mono c2 f3 _ _ (Rep.mono c1 f2 _ _ r1);obtain⟨z1,z2⟩:=iP (k:=key) (v:=x) hl;have fr:Fr ι H3 (upd H3 a (.dT (putK (ks.zip vs) key x))):=λb u n e=>by
     rw[bf (λz=>n (by rw[z];show YH hk))];show e
    have c4:CR X.K ι (upd H3 a (.dT (putK (ks.zip vs) key x))) (C3.set k (.aG (aO ks key) (bo ks ps key p'))):=
     c3.put hk ⟨bo ks vs key x,by rw[←z1];show fP,z2,ae.mono c3 fr _ _ (jt Nf rv)⟩
    show⟨a,_,rfl,rh.t h1 hb (by rw[WP,YZ];lia),?_⟩;show Done.IJ ((((sr.step f1 c1).step f2 c2).step f3 c3).step fr c4) (d.fr c4 (f1.trans (f2.trans (f3.trans fr))))
end
section
variable{X:Cx}{a b:Expr}{fa fb:2e3}{pos:Pos}
theorem Dk(hu:X.A.units+1<cLine)(ha:bq X a fa)(hb:bq X b fb)(hs:jb b:=by show λ_ _=>rfl):bq X (.Subscript a b pos) (aB (g2 gC) fa fb):=by
 subst_eqs;show G1 (zi.or BB (wj hu)) Js.r ha hb hs
end
section
variable{X:Cx}{pos:Pos}{c:Expr}{f:7e3}{body:List Stmt}
theorem so{t:4e1}(hp:U7 2e2 X.A X.env X.xe)(hc:kO X c t)(hb:ox X body f):mh X (.While c body [] pos) (ng t f):=by
 subst_eqs;show PS.imp (Az hp hc hb) λD σ H h_=>by
   sleep 2;show⟨λm σ2 H2=>∃ι2 ρ2 C2,Ex ι ι2 H H2/\SR X.K 6e5 H2 ρ2 σ2 C2/\fY t f m ρ2 C2=some (fl,C'),⟨1000,[],ρ,C,Ex.fr .refl,by rw[YG];show sr,e⟩,?_⟩;rintro m σ2 H2 ⟨ι2,ρ2,C2,x2,fU,e2⟩;cases m with
   |zero=>cases e2
   |succ m=>
    ext fY e2;obtain⟨z,C3,e3,e2⟩:=bp e2;show⟨ι++ι2,ρ2,C2,z,C3,fU,e3,λH3 f3 c3=>?_⟩;have x3:Ex ι ι2 H H3:=⟨λb o n e=>f3 b o (x2.out b o n e).1 (x2.out b o n e).2,x2.2⟩
    have Gj:=fU.step f3 c3;cases z with
    |true=>
     rw[if_pos rfl]at e2;sleep 6;rw[if_pos rfl];obtain⟨zA,C4,e4,e5⟩:=bp e2;show⟨λσ' H'=>∃ι2 ρ2 C2,Ex ι ι2 H H'/\SR X.K 6e5 H' ρ2 σ' C2/\fY t f m ρ2 C2=some (fl,C'),λσ' H' h=>⟨m,Vo _,h⟩,ι++ι2,ρ2,C3,zA,C4,Gj,e4,?_⟩;cases zA with
     |nx ρ5=>show λι5 σ5 H5 x5 iC=>⟨ι2++ι5,ρ5,C4,Ex.trans c3 x3 x5,by rw[←Yd];show iC,e5⟩
     |ct ρ5=>show λι5 σ5 H5 x5 iC=>⟨ι2++ι5,ρ5,C4,Ex.trans c3 x3 x5,by rw[←Yd];show iC,e5⟩
     |bk ρ5=>cases e5;show λι5 σ5 H5 x5 iC=>d (ι2++ι5) σ5 H5 (Ex.trans c3 x3 x5) (by rw[←Yd];show iC)
     |rf ps=>cases e5;show λι5 q5 xj H5 x5 c5 h5 r5=>d (ι2++ι5) q5 xj H5 (Ex.trans c3 x3 x5) (by rw[←Yd];show c5) h5 (by rw[←Yd];show r5)
     |rq ps=>cases e5;show λι5 q5 xj H5 x5 c5 h5 r5=>d (ι2++ι5) q5 xj H5 (Ex.trans c3 x3 x5) (by rw[←Yd];show c5) h5 (by rw[←Yd];show r5)
     |rt r=>cases e5;show λι5 v5 H5 x5 c5 r5=>d (ι2++ι5) v5 H5 (Ex.trans c3 x3 x5) (by rw[←Yd];show c5) (by rw[←Yd];show r5)
    |false=>
     rw[if_neg Yw]at e2;sleep 6;rw[if_neg Yw];cases e2;show d ι2 σ2 H3 x3 Gj
end
section
variable{X:Cx}{e:Expr}{es:3e4}{fs:1e9}{p pos:Pos}
theorem Ar(hc:5e1)(i5:Gl X "any")(hm:X.mg "any"=none)(hv:XB "any"=some (.builtin "any"))(ha:iK X 4e4 fs)
  (he:1e5:=by rfl) (cD:2e4:=by rfl):bq X (.Call (.Name "any" p) 4e4 [] pos) (iZ (g1 De) fs):=by
 subst_eqs;show QU (qJ hc) Ks.c i5 hm hv ha 1e7 1e7 he cD
end
end Pu
namespace Pu
open PySem PySem.Spec PySem.W PySem.Calls L2 PySem.SeqAt
open PyProof.Rows hiding St Fr
section
variable{X:Cx}
theorem ZcK{e:Expr}{es:3e4}{fs:1e9}{p pos:Pos}(gQ:5e1)(hu:5e6)(i5:Gl X "sorted")(hm:X.mg "sorted"=none)(hv:XB "sorted"=some (.builtin "sorted"))(ha:iK X 4e4 fs)
  (he:1e5:=by rfl) (cD:2e4:=by rfl):ow X (.Call (.Name "sorted" p) 4e4 [] pos) (cB fs):=by
 subst_eqs;show PE.imp (PE.or (uc (p:=p) (pos:=pos) gQ hu i5 hm hv ha he cD) (jC (nS gQ hu) i5 hm hv ha 1e7 1e7 he cD)) λσ H Q h_=>by
    sleep 5;obtain⟨xs,C1,e1,e⟩:=bp e;obtain⟨e2,rfl⟩:=kj e;ext fC e2;split at e2
    ·rename_i x
     split at e2
     ·rename_i ks vs hd
      split at e2
      ·rename_i qs hk
       by_cases ho:qs.all keyOk=true
       ·rw[if_pos ho]at e2
        show .inr ⟨ι,ρ,C,[x],_,sr,e1,λvs H1 f1 c1 r1=>?_⟩;obtain⟨v,w,rfl,r1,hw⟩:=r1;cases(show w=[]from hw);obtain⟨a,zu,ws,rfl,rfl,gq,hl,r⟩:=Gy (r1.lies c1 hd);rw[zD]at hk;cases hk;have ek:((qs.zip ws).map λq=>kP q.1)=qs.map kP:=by
         have:(qs.zip ws).map Prod.fst=qs:=UX 1e0;show(Xc (f:=Prod.fst) (g:=kP) (l:=qs.zip ws)).symm.trans (by rw[this])
        have ef:(qs.zip ws).map (·.1)=qs:=UX 1e0;show⟨a,qs.zip ws,_,ι,rfl,gq,by rw[ef];show ho,by rw[ek];show e2,λzs l hz hl=>q l _ H1 f1 c1 hl hz⟩
       ·rw[if_neg ho]at e2;cases e2
      ·cases e2
     ·show .inl ⟨ι,ρ,C,z,_,sr,by ext pT;change aI (fs ρ) _ C=_;ext aI;rw[e1];change dM _ _=_;ext dM;dsimp only;rw[e2],q⟩
    ·cases e2
end
end Pu
namespace Pu
open PySem PySem.Spec L2
open PyProof.Rows hiding St Fr
section
variable{X:Cx}{l:Expr}{elts:3e4}{x1:Nat}{mD p pos:Pos}
theorem xJ{fs:1e9}(hg:Gl X "enumerate")(hm:X.mg "enumerate"=none)(ha:iK X [l] fs)(hs:Yt [l] X.env=[(false,eval l X.env)]:=by rfl):Dn X (.Tuple elts x1 mD) (.Call (.Name "enumerate" p) [l] [] pos) (jI fs):=by
 subst_eqs;show PI.imp (Eu hg hm ha hs) λσ H R h_=>by
    obtain⟨ι,ρ,C,xs,C',sr,e,q⟩:=h_;obtain⟨zs,C1,e1,g1⟩:=bp e;obtain⟨e2,hC⟩:=kj g1;subst hC;show⟨ι,ρ,C,zs,_,sr,e1,λvs H1 f1 c1 r1=>?_⟩;ext Co e2;split at e2
    ·cases e2
     obtain⟨v,w,rfl,r1,hw⟩:=r1;cases(show w=[]from hw);replace r1:Rep X.K ι H1 (.lst _) v:=r1;ext Rep r1;obtain⟨a,vs,rfl,hq,rv⟩:=r1;show⟨a,rfl,⟨vs,hq.sq⟩,q _ H1 f1 c1 (yo c1 hq rv)⟩
    ·cases e2
end
section
variable{X:Cx}{tg kx vx iter:Expr}{ifs:3e4}{pos:Pos}{scope:Scope}{vs fs:4e3}{fr:3e9}{it:7e0}{g:2e7}{tt:4e1}{tk te:2e3}
theorem sG(S:8e1)(hc:5e1)(hu:5e6)(hi:Dn X tg iter it)
  (bG:∀C s₀ H₀ ex pn,rK 1e2 tg g) (bT:∀C s₀ H₀ ex pn,kN 1e2 ifs tt) (bK:∀C s₀ H₀ ex pn,bq 1e2 kx tk) (bE:∀C s₀ H₀ ex pn,bq 1e2 vx te)
  (hs:9e3:=by intro _;rfl):bq X (.DictComp kx vx [9e0] scope pos) (jK it vs fr g tt tk te):=by
 subst_eqs;show PE.imp (AQ (g:=zV X.K g) (tt:=xq X.K tt) (tk:=tM X.K tk) (te:=tM X.K te) S hc 1e0 hi bG bT bK bE hs) λσ H Q ⟨ι,ρ,C,res,C',sr,e,q⟩=>ux sr e q
end
end Pu
namespace Pu
open PySem PySem.Spec L2
open PyProof.Rows hiding St Fr
section
variable{X:Cx}{e o st:Expr}{fa fo fs:2e3}{p p2 pos apos aV:Pos}
theorem xK(he:bq X e fa)(hs:bq X st fs):ow X (.Subscript e (.Slice none none (some st) p2) pos) (vM fa fs):=by
 subst_eqs;intro pins s σ H Q I h_;obtain⟨ι,ρ,C,z,C',sr,e0,q⟩:=h_;obtain⟨x,C1,e1,g1⟩:=bp e0;obtain⟨k,C2,e2,g2⟩:=bp g1;obtain⟨e3,hC⟩:=kj g2;subst hC;obtain⟨xs,hd,rfl,rfl⟩:=xC e3;show Subscript_ (bS (he pins s σ H (λv H1=>Pu.Fr ι H H1/\CR X.K ι H1 C1/\bC X.K ι H1 x v) I ⟨ι,ρ,C,x,C1,sr,e1,λv H1 f1 c1 r1=>⟨f1,c1,r1⟩⟩) λv s1 h_=>?_);obtain⟨y,H1,I1,r1,f1,c1,rx⟩:=h_;show wpAny_Slice ?_;rw[evalPart_none];show Yc (Yc ?_);rw[evalPart_some];show bS (hs pins s1 σ H1 (λv H2=>Pu.Fr ι H1 H2/\CR X.K ι H2 C'/\bC X.K ι H2 (.v (.int (-1))) v) I1 ⟨ι,ρ,C1,_,C',sr.step f1 c1,e2,λv H2 f2 c2 r2=>⟨f2,c2,r2⟩⟩) λu s2 h_=>?_;obtain⟨y2,H2,I2,r2,f2,c2,rk⟩:=h_;have hk:y2=.int (-1):=by unfold bC Rep at rk;show rk
 subst hk;obtain⟨t,rfl⟩:=r2;obtain⟨a,vs,rfl,h1,rv⟩:=dC ((rx.mono c1 f2).lies c2 hd);cases r1;have I4:Inv X pins σ H2 {s2 with heap:=s2.heap.push {cls:=.type "slice",data:=.fields #[.none,.none,.int (-1) t]}}:=I2.kept (t':=s2.toks) λb ob q=>Yb _ q;obtain⟨aw,r,ht,hz⟩:=I4.list h1;have hlen:=r.length;show tail_any (ops:=[.ref a,.ref s2.heap.objs.size]) ht.isList.typeIs slot_list_getitem.lookup ?_ (by with_unfolding_all rfl);show wpAny_getItem_list_slice ht.isList (Heap.IsSliceOf.new ..) .none .none (.int (-1) t) 2e9 ?_ (by rw[Yp]<;>lia);rw[W.krv_pick];show⟨.ref _,_,I4.laid (t':=s2.toks) (o:=.lst vs.reverse) (λb ob q=>Yb _ q) (Yl _) ?_,rfl,q _ vs.reverse H2 (f1.trans f2) c2 (I4.aQ.fresh (Yl _)) rv.rev⟩;show⟨by rw[List.length_reverse];show hz,_,0,Vals.rev r,Yg _ rfl⟩
theorem ky(hc:5e1)(hg:Gl X "list")(hm:X.mg "list"=none)(ho:bq X o fo)
  (cF:X8 o "values" X.env (eval o X.env)=eval o X.env:=by rfl) (cE:9e8:=by rfl)
  (hs:Yt [.Call (.Attribute o "values" apos) [] [] aV] X.env=[(false,eval (.Call (.Attribute o "values" apos) [] [] aV) X.env)]:=by rfl):
  ow X (.Call (.Name "list" p) [.Call (.Attribute o "values" apos) [] [] aV] [] pos) (fN fo):=by
 subst_eqs;intro pins s σ H Q I h_;obtain⟨ι,ρ,C,z,C',sr,e0,q⟩:=h_;obtain⟨x,C1,e1,g1⟩:=bp e0;obtain⟨e3,hC⟩:=kj g1;subst hC;show Call_ (FQ I hg hm 1e4 (Xx ?_ hs 1e4));rw[hs];change wpAny _ _ (spliced ((false,eval _ X.env)::backTo pos [])) _ _ s;show Uk (UA cF cE (bS (ho pins s σ H (λv H1=>Pu.Fr ι H H1/\CR X.K ι H1 C'/\bC X.K ι H1 x v) I ⟨ι,ρ,C,x,C',sr,e1,λv H1 f1 c1 r1=>⟨f1,c1,r1⟩⟩) λv s1 h_=>?_));obtain⟨y,H1,I1,r1,f1,c1,rx⟩:=h_;ext zM e3;split at e3
 ·rename_i ks zs hd
  by_cases hl:zs.length<=1000
  case neg=>rw[if_neg hl]at e3;cases e3
  rw[if_pos hl]at e3;cases e3;obtain⟨a,vs,rfl,gq,nA,rv⟩:=tL (rx.lies c1 hd);cases r1;obtain⟨ty,nd,lo⟩:=t4 I1 (.inr ⟨_,gq⟩);obtain⟨hz,_,xs,kt,ob,es,ep,DA,hex,zy,he,Qt,oq⟩:=iz I1.aQ gq;show⟨"dict",_,Vk,Uh,PySem.F.type_dict_values,ty,nd,Vx rfl (Yah (ll lo ⟨ob,DA,hex,zy⟩ ?_))⟩;show UC ?_;have Th:dI (s1.heap.push {cls:=.type "dict_values",data:=.fields #[.ref a]}) a es ep:=⟨ob,Yb _ DA,hex,zy⟩
  have hv:(s1.heap.push {cls:=.type "dict_values",data:=.fields #[.ref a]}).IsValuesView s1.heap.objs.size a:=6e4;have Qw:es.size=xs.length:=Uy he;have hkx:(ks.zip vs).length=xs.length:=Wr kt;have cD:=rv.length;rw[WP]at hkx;show W.kdl_call (s:={s1 with heap:=s1.heap.push {cls:=.type "dict_values",data:=.fields #[.ref a]}}) Ag (I1.ok.hd hc) ⟨hv,Th⟩ (by rw[YZ];lia) λh' tk acc c kp hD ai=>?_;have I2:Inv X pins σ H1 {s1 with heap:=s1.heap.push {cls:=.type "dict_values",data:=.fields #[.ref a]}}:=I1.kept (t':=s1.toks) λb o e=>Yb _ e;have hvs:Vals vs acc.toList:=by
   rw[tU ai,he,uh];have:=EX kt;rw[List.map_snd_zip 1e0]at this;show this
  show⟨.ref _,_,I2.laid (t':=tk) (o:=.lst vs) kp (Yl _) ⟨by rw[←cD];show wg hl,acc.toList,c,hvs,by simpa using hD⟩,rfl,q _ vs H1 f1 c1 (I2.aQ.fresh (Yl _)) rv⟩
 ·cases e3
end
section
variable{X:Cx}
variable{o e:Expr}{es:3e4}{fo:2e3}{fs:1e9}{apos aV:Pos}
theorem Zde(ho:bq X o fo)(ha:iK X 4e4 fs)(cF:X8 o "extend" X.env (eval o X.env)=eval o X.env:=by rfl)
  (iE:((backTo aV (Yt 4e4 X.env)).all (λx=>!x.1)&&(Mf aV (U8 [] X.env)).all (λx=>x.1.isSome)
   &&decide ((e::es).length+([]:List U9).length+(if([]:List U9).isEmpty then 0 else 1)<30))=true:=by rfl)
  (cE:9e8:=by rfl) (hs:1e5:=by rfl) (gf:(backTo aV (Yt es X.env)).any (·.1)=false:=by rfl):
  bq X (.Call (.Attribute o "extend" apos) 4e4 [] aV) (tx fo fs):=by
 subst_eqs;show PE.imp (pB Vl PySem.F.slot_list_extend PySem.F.type_list_extend EK ho ha cF iE cE hs gf) λσ H Q h_=>by
    sleep 5;obtain⟨x,C1,e1,g1⟩:=bp e;obtain⟨u,C2,e2,g2⟩:=bp g1;obtain⟨ys,C3,e3,g3⟩:=bp g2;obtain⟨hC,k,Lm,hx,LC⟩:=Z1 e2;obtain⟨k',qs,ps,rB,hy,hc,hl,hr,Fh⟩:=yE g3;clear e g1 g2 g3 e2;subst hC hx hr Fh hy;cases rB;show⟨ι,ρ,C,_,_,sr,e1,λv H1 f1 c1 r1=>?_⟩;obtain⟨a,rfl,hk⟩:=r1;obtain⟨vs0,h0,_⟩:=KI c1 hk LC;show⟨.inl ⟨rfl,_,.of h0⟩,ι,ρ,_,_,C3,sr.step f1 c1,e3,λws H2 f2 c2 r2=>?_⟩;obtain⟨w,wr,rfl,R8,hw⟩:=r2;cases(show wr=[]from hw);obtain⟨b,zs,rfl,hb,rz⟩:=R8;obtain⟨vs,h1,rv⟩:=KI c2 hk hc;obtain⟨c4,f4⟩:=j5 c2 hk (rv.append rz);show⟨a,b,vs,zs,rfl,rfl,h1,hb.sq,by rw[←rv.length,←rz.length];show XI (YC hl (eO (Yl _))),q _ _ (f1.trans (f2.trans f4)) c4 (show Rep _ _ _ _ _ from M1)⟩
end
end Pu
namespace Pu
open PySem PySem.Spec PySem.W PySem.Calls L2
open PyProof.Rows hiding St Fr
section
variable{X:Cx}{e:Expr}{es:3e4}{p pos:Pos}{x:Str}{k:Nat}{ps:4e3}{F:List SV->M SV}{fs:1e9}
theorem gT(c:cU X.prog X.w X.K X.mg X.base k x ps (av X.K F))(hr:b9 k X.A)(hg:Gl X x)(ha:iK X 4e4 fs)(iF:3e2:=by decide)(he:1e5:=by rfl)(cD:2e4:=by rfl):
  bq X 7e1 (cb F fs):=by
 subst_eqs;obtain⟨f,fd,G,m,k,b⟩:=c;show Fu G hr hg m k b ha iF he cD
theorem xM{f0:7e0}(c:cU X.prog X.w X.K X.mg X.base k x ps (av X.K F))(hr:b9 k X.A)(hg:Gl X x)(h0:ow X e f0)(ha:iK X es fs)(iF:3e2:=by decide)(he:1e5:=by rfl)(cD:2e4:=by rfl):
  bq X 7e1 (Bi F f0 fs):=by
 subst_eqs;obtain⟨f,fd,G,m,k,b⟩:=c;show Cq G hr hg m k b h0 ha iF he cD
theorem Pt{F:List SV->M 3e0}(c:cU X.prog X.w X.K X.mg X.base k x ps (bj X.K F))(hr:b9 k X.A)(hg:Gl X x)(ha:iK X 4e4 fs)(iF:3e2:=by decide)(he:1e5:=by rfl)(cD:2e4:=by rfl):
  ow X 7e1 (gA F fs):=by
 subst_eqs;obtain⟨f,fd,G,m,k,b⟩:=c;show Fm G hr hg m k b ha iF he cD
end
section
variable{P:YF}{w:World}{K:W.Frag}{mg:2e5}{base:Heap}{x:Str}{st:Stmt}{N ps:4e3}{k:Nat}{body:7e3}
theorem uO(F:Hd.FnAt K mg x st)(S:aJ N ps (ah st))(hb:∀(kV doc pm:Value)(an:Option Addr)(cdv ct:Value)(us:2e6),us.length=ps.length->bindArgs (W.fnOf x x (dS st) (bL st) (ah st) .none kV doc pm an cdv ct) ⟨us,[]⟩=pure (ps.zip us))
  (fm:∀(f:Addr)(cdv:Value)(A:Around)(outer:List Env)(s:Shared)(H:Hp)(E:XK),b9 k (A.deeper (envOfC x (ah st) s.heap.objs.size f cdv))->
   ox (j4 om P w K mg base N x (ah st) f cdv A outer s H E).EG (bL st) body):cU P w K mg base (k+1) x ps (av K (cN ps.length (N.length-ps.length) body)):=by
 subst_eqs;obtain⟨f,fd,m,F⟩:=F;show⟨f,fd,GW F S (fm f),m,F.kp,F.binds hb⟩
theorem PJ(F:Hd.FnAt K mg x st)(S:aJ N ps (ah st))(hb:∀(kV doc pm:Value)(an:Option Addr)(cdv ct:Value)(us:2e6),us.length=ps.length->bindArgs (W.fnOf x x (dS st) (bL st) (ah st) .none kV doc pm an cdv ct) ⟨us,[]⟩=pure (ps.zip us))
  (fm:∀(f:Addr)(cdv:Value)(A:Around)(outer:List Env)(s:Shared)(H:Hp)(E:XK),b9 k (A.deeper (envOfC x (ah st) s.heap.objs.size f cdv))->
   ox (j4 om P w K mg base N x (ah st) f cdv A outer s H E).EG (bL st) body):cU P w K mg base (k+1) x ps (bj K (dA ps.length (N.length-ps.length) body)):=by
 subst_eqs;obtain⟨f,fd,m,F⟩:=F;show⟨f,fd,JY F S (fm f),m,F.kp,F.binds hb⟩
end
section
variable{X:Cx}{e:Expr}{f:2e3}{p p2 pos pq:Pos}
theorem mR(gQ:5e1)(i5:Gl X "list")(Tx:X.mg "list"=none)(B1:Gl X "reversed")(Qo:X.mg "reversed"=none)(h:bq X e f)(he:Yt [e] X.env=(false,eval e X.env)::Yt [] X.env:=by rfl):
  ow X (.Call (.Name "list" p) [.Call (.Name "reversed" p2) [e] [] pq] [] pos) (gz f):=by
 subst_eqs;intro pins s σ H Q I h_;obtain⟨ι,ρ,C,res,C',sr,e1,q⟩:=h_;obtain⟨x,C1,e2,e3⟩:=bp e1;obtain⟨e4,rfl⟩:=kj e3;show Wy (FQ I i5 Tx uF ?_ 1e7 1e7);show Xx ?_ rfl rfl;change wpAny _ _ (spliced ((false,eval (.Call (.Name "reversed" p2) [e] [] pq) X.env)::backTo pos (Yt [] X.env))) _ _ s;show Uk ?_;show Wy (FQ I B1 Qo ZdI ?_ 1e7 1e7);have ha:AM X [e] (aa f af):=n9 h n6 he;have ea:aa f af ρ C=some ([x],C'):=by unfold aa aI;rw[e2];rfl
 show Xx (bS (ha pq pins s σ H (λvs H1=>Fr ι H H1/\CR X.K ι H1 C'/\aU X.K ι H1 [x] vs) I ⟨ι,ρ,C,[x],C',sr,ea,λvs H1 f1 c1 r1=>⟨f1,c1,r1⟩⟩) λus s1 ⟨vs,H1,I1,r1,f1,c1,rs⟩=>?_) he rfl;obtain⟨v,w,rfl,rv,hw⟩:=rs;cases(show w=[]from hw);obtain⟨u,rfl,ru⟩:=Vals.one r1;cases hd:aM C' x with
 |none=>rw[hd]at e4;cases e4
 |some pv=>
  rw[hd]at e4;cases pv with
  |lst qs=>
   cases e4;obtain⟨a,ws,rfl,hq,r2⟩:=dC (rv.lies c1 hd);cases(show u=YU a from ru);obtain⟨aw,vi,⟨o,n,h1,h2,h3,h4⟩,hz⟩:=I1.list hq;show bS (kF (items:=aw.toArray) (I1.ok.hd gQ) ⟨o,h1,h2,n,h4⟩ (by rw[Yp,←vi.length];show hz) λD h' tk c acc hD k eD B4=>?_) λv2 s2 q2=>UC q2;have ea':acc=aw.reverse.toArray:=by
    rw[←Array.toArray_toList (xs:=acc),B4]
   rw[ea']at eD;have vr:=oy vi;have hl:ws.reverse.length<=sizeLine:=by rw[List.length_reverse];show hz
   show⟨.ref D,_,I1.laid (t':=tk) k hD (show aZ X.prog X.w _ h' _ (.lst ws.reverse)from⟨hl,aw.reverse,c,vr,eD⟩),rfl,?_⟩;show q D _ H1 f1 c1 (I1.aQ.fresh hD) (oS r2)
  |_=>cases e4
end
end Pu
namespace Pu
open PySem PySem.Spec PySem.W PySem.Calls L2
open PyProof.Rows hiding St Fr strKind
open PySem.Builtin.Str (partsBetween occurrences strKind)
section
variable{X:Cx}{e:Expr}{es:3e4}{f:2e3}{fs:1e9}{p pos:Pos}
variable{o:Expr}{fo:2e3}{apos aV:Pos}
theorem sD{a b:Expr}{fa fb:2e3}(ha:bq X a fa)(hb:bq X b fb):bq X (.BinOp a .FloorDiv b pos) (aB (g2 Ce) fa fb):=by
 subst_eqs;show ql AU (ny λi j h=>(of_decide_eq_true h:0<j/\j<2^200)).r ha hb
end
end Pu
namespace Pu
open PySem PySem.Spec PySem.W PySem.Calls L2
open PyProof.Rows hiding St Fr
section
variable{X:Cx}{e o:Expr}{es:3e4}{f fo fa:2e3}{fs:1e9}{p pos apos aV:Pos}
theorem Ap{a b:Expr}{fb:2e3}(ha:bq X a fa)(hb:bq X b fb):ow X (.BinOp a .Add b pos) (vQ fa fb):=by
 subst_eqs;show PE.imp (Gq vE ha hb) λσ H Q h_=>by
    sleep 5;obtain⟨x,C1,e1,g1⟩:=bp e;obtain⟨y,C2,e2,g2⟩:=bp g1;obtain⟨e4,hC⟩:=kj g2;subst hC;show⟨ι,ρ,C,x,C1,sr,e1,λv H1 f1 c1 r1=>⟨ι,ρ,C1,y,_,sr.step f1 c1,e2,λw H2 f2 c2 r2=>?_⟩⟩;ext wQ e4;split at e4
    ·rename_i xs ys hx hy
     split at e4
     ·rename_i hl
      cases e4;obtain⟨a,vs,rfl,h1,rv⟩:=dC ((r1.mono c1 f2).lies c2 hx);obtain⟨b,ws,rfl,h2,rw⟩:=dC (r2.lies c2 hy);show⟨a,b,vs,ws,rfl,rfl,h1,h2,by rw[←rv.length,←rw.length];show fG 1e0,λp hp=>q p _ H2 (f1.trans f2) c2 hp (rv.append rw)⟩
     ·cases e4
    ·cases e4
end
end Pu
namespace Pu
open PySem PySem.Spec PySem.W PySem.Calls L2 PySem.SeqAt Se
open PyProof.Rows hiding St Fr
section
variable{X:Cx}{e:Expr}{fs:1e9}{p p2 pos pq:Pos}
theorem sv(gQ:5e1)(hu:5e6)(i5:Gl X "sorted")(Tx:X.mg "sorted"=none)(hv:XB "sorted"=some (.builtin "sorted"))(B1:Gl X "set")(Qo:X.mg "set"=none)(ha:iK X [e] fs)(he:Yt [e] X.env=(false,eval e X.env)::Yt [] X.env:=by rfl):
  ow X (.Call (.Name "sorted" p) [.Call (.Name "set" p2) [e] [] pq] [] pos) (tq fs):=by
 subst_eqs;intro pins s σ H Q I h_;obtain⟨ι,ρ,C,res,C',sr,e0,q⟩:=h_;obtain⟨xs,C1,e1,e2⟩:=bp e0;obtain⟨e3,hC⟩:=kj e2;cases hC;show Wy (FQ I i5 Tx hv ?_ 1e7 1e7);show UN ?_ rfl rfl;change wpAny _ _ (spliced ((false,eval (.Call (.Name "set" p2) [e] [] pq) X.env)::backTo pos (Yt [] X.env))) _ _ s;show Uk ?_;show Wy (FQ I B1 Qo yW ?_ 1e7 1e7);show Xx (bS (ha pq pins s σ H (λvs H1=>Fr ι H H1/\CR X.K ι H1 C'/\aU X.K ι H1 xs vs) I ⟨ι,ρ,C,xs,C',sr,e1,λvs H1 f1 c1 r1=>⟨f1,c1,r1⟩⟩) λus s1 ⟨vs,H1,I1,r1,f1,c1,rr⟩=>?_) he rfl;ext t5 e3;split at e3
 ·rename_i x
  obtain⟨v,uZ,rfl,rv,rn⟩:=rr;cases(show uZ=[]from rn);split at e3
  ·rename_i ps hd
   obtain⟨a,ws,rfl,sq,rs⟩:=dC (rv.lies c1 hd);ext nz e3;split at e3
   ·rename_i hh
    simp only[YI,decide_eq_true_eq]at hh;obtain⟨⟨⟨zx,hti⟩,Oy⟩,hlen⟩:=hh;obtain⟨u,rfl,ru⟩:=Vals.one r1;cases(show u=YU a from ru);obtain⟨qs,rfl,rfl,hq⟩:=vf rs hti;obtain⟨aw,vi,⟨o,n,g1,g2,g3,g4⟩,_⟩:=I1.list sq;cases ZdJ vi;have hr:=ae.heap I1 _ rs vi (CK zx);have nk:∀q∈qs,Sn.NK s1.heap q.1 q.2:=λq hm=>⟨FW zx _ (Y7 hm),(i8 _).mp Oy _ (Y7 hm),ZdY hr q hm⟩
    have hh:=I1.ok.hd gQ;obtain⟨k1,k2⟩:=yD zx;show Sn.rZ (as:=qs.map (·.2)) hh 1e0 (.inl ⟨o,g1,g2,n,by rw[Xc];show g4⟩) rfl nk (by rw[Yi]at hlen;show hlen) λh' tk SN kp=>?_;have I2:Inv X pins σ H1 {s1 with heap:=h',toks:=tk}:=I1.kept λb o e=>kp b o e;show UC (oH gQ hu I2 SN (λq hm=>hq q (Sn.lR q hm)) (qs:=res) (by rw[k1];show e3) λws l rs hl=>q l ws H1 f1 c1 hl rs)
   ·cases e3
  ·cases e3
 ·cases e3
end
end Pu
namespace Pu
open PySem PySem.Spec PySem.W PySem.Calls L2
open PyProof.Rows hiding St Fr
section
variable{X:Cx}{tg iter e1 e2:Expr}{rest:List Stmt}{it:7e0}{g:2e7}{fk fv:2e3}{fr:7e3}{x:Str}{n:Nat}{pos' qr AE p1 ap1 lp O8 QL Kj ep Zl:Pos}
theorem Av(hu:5e6)(hN:X.N.Nodup)(hi:X.N[n]? = some x)(hx:Loc X.env.scope x)(S6:Ml X.env.scope x)(hp:U7 2e2 X.A X.env X.xe)(hc:5e1)
  (hit:Dn X tg iter it) (hg:rK X tg g) (hk:bq X e1 fk) (hv:bq X e2 fv) (hr:ox X rest fr)
  (DC:3e2:=by decide) (hd2:(x==("__classdict__":Str))=false:=by decide)
  (Tf:Vn (.Dict [] [] qr) (some (.Name x pos')) AE.line X.env=pure false:=by rfl)
  (hf:4e7:=by first|show .inl rfl|show .inr rfl|assumption)
  (Tc:∀y,Y5 iter X.env y=pure y:=by intro _;rfl)
  (hse:Vn (.Call (.Attribute 10e0 "append" QL) [e2] [] Kj) none ep.line X.env=pure false:=by rfl)
  (hb1:X8 (.Name x p1) "setdefault" X.env (eval (.Name x p1) X.env)=eval (.Name x p1) X.env:=by rfl)
  (hw1:((backTo O8 (Yt [e1,.List [] lp] X.env)).all (λx=>!x.1)&&(Mf O8 (U8 [] X.env)).all (λx=>x.1.isSome)
   &&decide ([e1,Expr.List [] lp].length+([]:List U9).length+(if([]:List U9).isEmpty then 0 else 1)<30))=true:=by rfl)
  (yy:(ap1.endLine==O8.line)=true:=by rfl) (ht1:Yt [e1,.List [] lp] X.env=(false,eval e1 X.env)::Yt [.List [] lp] X.env:=by rfl) (Ly:(backTo O8 (Yt [.List [] lp] X.env)).any (·.1)=false:=by rfl)
  (S9:Yt [.List [] lp] X.env=(false,eval (.List [] lp) X.env)::Yt [] X.env:=by rfl)
  (OF:X8 10e0 "append" X.env (eval 10e0 X.env)=eval 10e0 X.env:=by rfl)
  (hw2:((backTo Kj (Yt [e2] X.env)).all (λx=>!x.1)&&(Mf Kj (U8 [] X.env)).all (λx=>x.1.isSome)
   &&decide ([e2].length+([]:List U9).length+(if([]:List U9).isEmpty then 0 else 1)<30))=true:=by rfl)
  (ot:(QL.endLine==Kj.line)=true:=by rfl) (Lu:Yt [e2] X.env=(false,eval e2 X.env)::Yt [] X.env:=by rfl) (hq2:(backTo Kj (Yt [] X.env)).any (·.1)=false:=by rfl):
  ox X (.Assign [.Name x pos'] (.Dict [] [] qr) AE::.For tg iter [.Expr (.Call (.Attribute 10e0 "append" QL) [e2] [] Kj) ep] [] Zl::rest) (aA (Bg n it g fk fv) fr):=by
 subst_eqs;have hb:PE X (.Call (.Attribute 10e0 "append" QL) [e2] [] Kj) (RY X.K "list" mQ (RY X.K "dict" vj (HU n) (zW (tM X.K fk) (zW (tMF X.K (dg af)) MF))) (MJ X.K (aa fv af))):=
  pB Vl PySem.F.slot_list_append PySem.F.type_list_append lC (pB Vk U4 PySem.F.type_dict_setdefault (yd hu) (sN hi S6 DC hd2) (iR hk (iR (B8 n6) AR S9) ht1) hb1 hw1 yy ht1 Ly) (n9 hv n6 Lu) OF hw2 ot Lu hq2
 show kQ.imp (QX (jx hN hi hx jy Tf hf) (QX (sJ hp hc hit hg (mV (vm hb hse)) Tc) hr)) λD σ H h_=>?_;sleep 2;obtain⟨zA,C2,em,e⟩:=bp e;ext Bg em;split at em
 ·rename_i xs D0 Lq
  split at em
  ·rename_i Oj
   split at em
   ·rename_i ρ' tP Jb wy
    cases em;intro dd gp;have c1:CR X.K (ι++[dd]) (upd H dd (.dT [])) (C++[.aG [] []]):=sr.cr.add gp ⟨[],fP,rfl,.nil⟩;have x1:Ex ι [dd] H (upd H dd (.dT [])):=⟨Fr.new gp,λb hb=>by rw[Yj.mp hb];show gp⟩
    have zZ:SR X.K (ι++[dd]) (upd H dd (.dT [])) (ρ.set n (some 9e7)) (σ.set n (some (.ref dd))) (C++[.aG [] []]):=(sr.ex x1 c1).set n ⟨dd,rfl,by rw[←sr.cr.len];simp⟩;show⟨ι++[dd],ρ.set n (some 9e7),C++[.aG [] []],xs,D0,zZ,Lq,λJ H1 f1 cr1 fW=>?_⟩;obtain⟨C1,rfl⟩:∃C1,D0=C1++[.aG [] []]:=by
     obtain⟨l,e⟩:=List.getLast?_eq_some_iff.mp Oj;show⟨l,e⟩
    rw[List.dropLast_concat]at e;have hL:ι.length=C1.length:=by have:=cr1.len;simp at this;show this
    have hLC:C.length=C1.length:=by rw[←sr.cr.len];show hL
    rw[hLC]at wy zZ;have s0:kh X.K ι C1 dd [] [] [] H1 (ρ.set n (some (.c C1.length))) (σ.set n (some (.ref dd))):=by
     ext kh;simp only[Rn,YG];show zZ.step f1 cr1
    show⟨λi m σ2 H2=>∃ρ2 ks ls qs,m=xs.length-i/\i<=xs.length/\Ex (ι++[dd]) qs H1 H2/\kh X.K ι C1 dd qs ks ls H2 ρ2 σ2/\dy n C1.length g fk fv (xs.drop i) ρ2 ks ls=some (ρ',tP,Jb),⟨xs.length,_,[],[],[],rfl,Y4 _,Ex.fr .refl,s0,wy⟩,?_⟩;rintro i m σ2 H2 ⟨ρ2,ks,ls,qs,rfl,rE,x2,s2,e2⟩;rcases YQ i xs.length with bA|Qu
    ·right
     show⟨fW.go qs H2 _ x2 s2.cr i bA,λσ' H'=>∃ρ2 ks ls qs,Ex (ι++[dd]) qs H1 H'/\kh X.K ι C1 dd qs ks ls H' ρ2 σ'/\dy n C1.length g fk fv (xs.drop (i+1)) ρ2 ks ls=some (ρ',tP,Jb),?_,?_⟩
     ·rintro σ' H' ⟨ρ3,ks3,ls3,qs3,x3,s3,e3⟩
      show⟨xs.length-(i+1),by lia,ρ3,ks3,ls3,qs3,rfl,bA,x3,s3,e3⟩
     ·intro v H3 y
      obtain⟨sm,q,hq,rq⟩:=fW.uY qs H2 _ x2 s2.cr i v H3 bA y;have hd:xs.drop i=q::xs.drop (i+1):=by
       rw[Y9 bA];rw[Ye bA]at hq;rw[YO hq]
      rw[hd]at e2;ext dy e2;cases nD:g q ρ2 with
      |none=>rw[nD]at e2;cases e2
      |some ρ3=>
       rw[nD]at e2;dsimp only at e2;split at e2
       ·rename_i j hj
        by_cases TJ:j=C1.length
        case neg=>rw[if_neg TJ]at e2;cases e2
        rw[if_pos TJ]at e2;subst TJ;split at e2
        ·rename_i kq Ck hfk
         split at e2
         ·rename_i k hkk
          split at e2
          ·rename_i p Cv hfv
           split at e2
           ·rename_i GL
            simp only[YI,decide_eq_true_eq]at GL;obtain⟨⟨zx,nA⟩,Oh⟩:=GL;have s3:=s2.same sm;show⟨_,ρ2,_,q,ρ3,s3,rq,nD,λσ4 zY=>?_⟩;have s4:kh X.K ι C1 dd qs ks ls H3 ρ3 σ4:=zY;obtain⟨vd,hvd,rvd⟩:=s4.loc n _ hj;obtain⟨a,rfl,ha⟩:=rvd;have:a=dd:=by
             rw[←hL,wV]at ha;show(YO ha).symm
            subst this;show⟨.ref a,hvd,.inr (.inr (.inl ⟨rfl,.inr ⟨_,(s4.dict hL).1⟩⟩)),?_⟩;show⟨[],gF 0 ρ3,[],_,_,SR.vals s4,hfk,λw H4 f4 c4 r4=>?_⟩;have sm4:∀b o,H3 b=some o->H4 b=some o:=λb o z=>f4 b o 2e9 z;have s5:=s4.same sm4;obtain⟨b,rfl,hb⟩:=Q3 (show Rep X.K [] H4 (.tup kq) w from r4) hkk;show⟨[],gF 0 ρ3,[],[],[],SR.vals s5,rfl,λl0 xj H5 f5 c5 h0 r5=>?_⟩;cases(show xj=[]from r5);have R6:∀b o,H4 b=some o->H5 b=some o:=λb o z=>f5 b o 2e9 z;have s6:=s5.same R6;have hb5:=R6 _ _ hb;obtain⟨T3,Oi,Fc⟩:=s6.dict hL;have MT:∀b o,H5 b=some o->(upd H5 l0 (.lst [])) b=some o:=λb o z=>by rw[bf (gu z h0)];show z
            have s7:=s6.same MT;have x5:Ex (ι++[a]) qs H1 H5:=⟨λb o nb z=>R6 b o (sm4 b o (sm b o (x2.1 b o nb z))),x2.2⟩
            have TH:(ks.zip (qs.map V.ref)).length<sizeLine:=by rw[WP,YZ];lia
            have app:∀(H7:Hp)(Ng:2e1)(Qi:5e4)(NG:List 3e0)(c:Addr)(jj:Nat)(l:List PV),kh X.K ι C1 a Ng Qi NG H7 ρ3 σ4->Ex (ι++[a]) Ng H1 H7->Ng[jj]? = some c->NG[jj]? = some l->l.length<1000->Qi=aO ks k->NG.set jj (l++[p])=ka ks ls k p->
              RJ X.K "list" (.ref c) H7/\MJ X.K (aa fv af) σ4 H7 λws H8=>mQ (.ref c) ws H8 λ_ H9=>∃ρ2 ks ls qs,Ex (ι++[a]) qs H1 H9/\kh X.K ι C1 a qs ks ls H9 ρ2 σ4/\dy n C1.length g fk fv (xs.drop (i+1)) ρ2 ks ls=some (ρ',tP,Jb):=by
             intro H7 Ng Qi NG c jj l s8 x8 T5 hl8 hlen ek el;obtain⟨vs8,hv8,rs8⟩:=s8.list hL T5 hl8;show⟨.inl ⟨rfl,vs8,.inl (.inl hv8)⟩,?_⟩;show⟨[],gF 0 ρ3,[],[.v p],Cv,SR.vals s8,by unfold aa af aI;rw[hfv];rfl,λws H8 f8 c8 r8=>?_⟩;have R5:∀b o,H7 b=some o->H8 b=some o:=λb o z=>f8 b o 2e9 z;obtain⟨v8,w8,rfl,rv8,rn8⟩:=r8;cases(show w8=[]from rn8);have hv9:=R5 _ _ hv8;show⟨c,vs8,v8,rfl,rfl,hv9,by rw[←rs8.length,YZ];lia,?_⟩;show⟨ρ3,Qi,NG.set jj (l++[p]),Ng,?_,(s8.same R5).app hL T5 hl8 hv9 zx rv8,by rw[ek,el];show e2⟩;show⟨λb o nb z=>?_,x8.2⟩;have c9:b≠c:=λh=>by
              have:=x8.2 c (YH T5);rw[←h,z]at this;cases this
             rw[bf c9];show R5 b o (x8.1 b o nb z)
            show⟨a,b,.ref l0,ks.zip (qs.map V.ref),k,rfl,rfl,MT _ _ T3,MT _ _ hb5,TH,λu a9=>?_,λhn=>?_⟩
            ·rcases mG ks qs ls k Oi Fc with⟨jj,q',l,a1,a2,a3,a4,a5⟩|⟨a1,_,_⟩
             ·rw[a1]at a9;cases a9
              show app _ qs ks ls q' jj l s7 ⟨λb o nb z=>MT b o (x5.1 b o nb z),x5.2⟩ a2 a3 ?_ ?_ (a5 p).symm
              ·show of_decide_eq_true (YW.mp Oh l (YH a3))
              ·ext aO;rw[if_pos a4]
             ·rw[a1]at a9;cases a9
            ·rcases mG ks qs ls k Oi Fc with⟨jj,q',l,a1,a2,a3,a4,a5⟩|⟨a1,a2,a3⟩
             ·rw[a1]at hn;cases hn
             ·show app _ (qs++[l0]) (aO ks k) (ls++[[]]) l0 qs.length [] (s6.new hL h0 a2) ⟨λb o nb z=>?_,λb hb=>?_⟩ 2e9 (by rw[←Fc];simp) 2e9 rfl ?_
              ·have c9:b≠a:=λh=>nb (by rw[h];simp)
               rw[bf c9];show MT b o (x5.1 b o nb z)
              ·rcases Ym.mp hb with hb|hb
               ·show x5.2 b hb
               ·rw[Yj.mp hb]
                cases hz:H1 l0 with
                |none=>rfl
                |some o=>
                 exfalso;by_cases rD:l0∈ι++[a]
                 ·show s6.cr.gv h0 (Y2 _ rD)
                 ·rw[x5.1 l0 o rD hz]at h0;cases h0
              ·rw[a3,←Fc];simp
           ·cases e2
          ·cases e2
         ·cases e2
        ·cases e2
       ·cases e2
    ·left
     have Fe:i=xs.length:=by lia
     subst Fe;rw[V8]at e2;ext dy e2;split at e2
     ·rename_i aQ
      cases e2;have sE:=s2.give hL aQ;have xE:Ex ι [dd] H H2:=by
       show⟨λb o nb z=>?_,x1.2⟩;have c9:b≠dd:=λh=>by rw[h,gp]at z;cases z
       have hn2:b∉ι++[dd]:=λh=>by
        rcases Ym.mp h with h|h
        ·show nb h
        ·show c9 (Yj.mp h)
       show x2.1 b o hn2 (f1 b o hn2 (x1.1 b o nb z))
      show⟨fW.stop qs H2 _ x2 s2.cr,ι,_,C1,fl,C',sE,e,d.fr sE.cr xE.1⟩
     ·cases e2
   ·cases em
  ·cases em
 ·cases em
end
theorem lq{Y:Cx}{t i:Expr}{ifs:3e4}{gs:List Wb}{it:7e0}{g:2e7}{tt:4e1}{rs:List MG}(hI:Dn Y t i it)(hG:rK Y t g)(hT:kN Y ifs tt)(r:DQ Y gs rs)(hs:∀x,Y5 i Y.env x=pure x:=by intro _;rfl):DQ Y (⟨t,i,ifs,0⟩::gs) ((it,g,tt)::rs):=by
 subst_eqs;show .cons hI hG hT hs r
section
variable{X:Cx}{o tg elt:Expr}{body:List Stmt}{ifs:3e4}{gs:List Wb}{scope:Scope}{apos aV pos:Pos}{fo te:2e3}{g:2e7}{f:7e3}{vs fs:4e3}{fr:3e9}{tt:4e1}{rest:List MG}
theorem xH(hp:U7 2e2 X.A X.env X.xe)(hc:5e1)(ho:bq X o fo)(hg:rK X tg g)(hb:ox X body f)
  (cF:X8 o "values" X.env (eval o X.env)=eval o X.env:=by rfl) (cE:9e8:=by rfl) (hs:∀x,Y5 (.Call (.Attribute o "values" apos) [] [] aV) X.env x=pure x:=by intro _;rfl):
  mh X (.For tg (.Call (.Attribute o "values" apos) [] [] aV) body [] pos) (bO (dU fo) g f):=by
 subst_eqs;show va hp hc (vt ho cF cE) (λι ρ C=>u3) hg hb hs
theorem sx(S:8e1)(hc:5e1)(ho:bq X o fo)
  (bG:∀C s₀ H₀ ex pn,rK 1e2 tg g) (bT:∀C s₀ H₀ ex pn,kN 1e2 ifs tt) (bR:∀C s₀ H₀ ex pn,DQ 1e2 gs rest) (bE:∀C s₀ H₀ ex pn,bq 1e2 elt te)
  (cF:X8 o "values" X.env (eval o X.env)=eval o X.env:=by rfl) (cE:9e8:=by rfl) (hs:∀x,Y5 (.Call (.Attribute o "values" apos) [] [] aV) X.env x=pure x:=by intro _;rfl):
  ow X (.ListComp elt (⟨tg,.Call (.Attribute o "values" apos) [] [] aV,ifs,0⟩::gs) scope pos) (jJ (dU fo) vs fr g tt rest te):=by
 subst_eqs;show B9 S hc (vt ho cF cE) (λι ρ C=>u3) bG bT bR bE hs
end
section
variable{X:Cx}{elt:Expr}{es elts:3e4}{ifs:3e4}{scope:Scope}{pos' qr AE p1 ap cp mD SI R9:Pos}{fs:1e9}{te:2e3}{g:2e7}{vs fvs:4e3}{fr:3e9}{tt:4e1}{x:Str}{n x1:Nat}
theorem sH{ks:List (Option Expr)}{keys:4e3}(hN:X.N.Nodup)(hi:X.N[n]? = some x)(hx:Loc X.env.scope x)(S6:Ml X.env.scope x)(hc:5e1)
  (hD:Mo X ks es keys fs) (nd:(keys.map (Vw:Str->Key)).Nodup) (B3:ks.all (·.isSome)=true) (hl:ks.length=es.length) (h0:ks≠[]) (hlen:ks.length<=15) (hk:keys.length=ks.length)
  (S:Lf X scope vs fvs fr)
  (bG:∀C s₀ H₀ ex pn,rK (dZ X (vs++fvs) scope C s₀ H₀ ex pn) (.Tuple elts x1 mD) g) (bT:∀C s₀ H₀ ex pn,kN (dZ X (vs++fvs) scope C s₀ H₀ ex pn) ifs tt) (bE:∀C s₀ H₀ ex pn,bq (dZ X (vs++fvs) scope C s₀ H₀ ex pn) elt te)
  (DC:3e2:=by decide) (hd2:(x==("__classdict__":Str))=false:=by decide)
  (Tf:Vn (.Dict ks es qr) (some (.Name x pos')) AE.line X.env=pure false:=by rfl)
  (hf:4e7:=by first|show .inl rfl|show .inr rfl|assumption)
  (cF:X8 (.Name x p1) "items" X.env (eval (.Name x p1) X.env)=eval (.Name x p1) X.env:=by rfl) (cE:(ap.endLine==cp.line)=true:=by rfl)
  (Tc:∀y,Y5 (.Call (.Attribute (.Name x p1) "items" ap) [] [] cp) X.env y=pure y:=by intro _;rfl):
  ox X [.Assign [.Name x pos'] (.Dict ks es qr) AE,.Return (some (.ListComp elt [⟨.Tuple elts x1 mD,.Call (.Attribute (.Name x p1) "items" ap) [] [] cp,ifs,0⟩] scope SI)) R9] (nh n keys fs vs fr g tt te):=by
 subst_eqs;show kQ.imp (QX (jx hN hi hx (AO hD nd B3 hl h0 hlen hk) Tf hf) (mV (mW (jB (wi:=BQ (HU n)) (g:=zV X.K g) (tt:=xq X.K tt) (te:=tM X.K te) (rest:=[]) S hc (AJ (sN hi S6 DC hd2) cF cE) bG bT (λ_ _ _ _ _=>.nil) bE Tc)))) λD σ H h_=>?_;sleep 2;obtain⟨xs,C1,e1,e⟩:=bp e;cases hp:plain xs with
 |none=>rw[hp]at e;cases e
 |some ps=>
  rw[hp]at e;dsimp only at e;split at e
  ·rename_i nA
   rw[YI,decide_eq_true_eq]at nA;obtain⟨nA,hnρ⟩:=nA;obtain⟨⟨ρ',dQ⟩,C2,e3,e4⟩:=bp e;cases e4;show⟨ι,ρ,C,ps,xs,C1,sr,e1,hp,λp ob us H1 f1 c1 Tp rs Og=>?_⟩;have c2:=c1.new (o:=.gh ob (.dK ((keys.map Vw).zip us))) Tp;have f2:Fr ι H1 (upd H1 p (.gh ob (.dK ((keys.map Vw).zip us)))):=Fr.new Tp;have Qd:=ae.mono c1 f2 _ _ rs;have fU:=((sr.step f1 c1).step f2 c2).unset n (some (V.ref p));have hnσ:n<σ.length:=by rw[←sr.len];show hnρ
   show⟨.ref p,Xd hnσ,p,ob,_,rfl,fP,?_⟩;show Pz (Py []) (tT c2 fP (c1.gv Tp) Og nA Qd) (fU.block vs fr) .nil 2e9 e3 λσ' fT H' n'=>⟨by rw[←n'.2.2.1.length];show eO n'.2.2.2,λD' hD'=>?_⟩
   show d [] D' fT H' (Ex.fr (f1.trans (f2.trans n'.1))) (by rw[YG];show n'.2.1.cr) hD' (by rw[YG];show n'.2.2.1)
  ·cases e
end
end Pu
namespace Pu
open PySem PySem.Spec L2
open PyProof.Rows hiding St Fr
section
variable{X:Cx}{e:Expr}{es:3e4}{p pos:Pos}{x:Str}{k:Nat}{ps:4e3}{fs:1e9}
theorem lu{F:List SV->M 3e0}(ix:3e9)(c:cU X.prog X.w X.K X.mg X.base k x ps (bj X.K F))(hr:b9 k X.A)(hg:Gl X x)(ha:iK X 4e4 fs)(iF:3e2:=by decide)(he:1e5:=by rfl)(cD:2e4:=by rfl):
  ow X 7e1 (iq F ix fs):=by
 subst_eqs;obtain⟨f,fd,G,m,k,b⟩:=c;show B' ix G hr hg m k b ha iF he cD
end
theorem Zb0{X:Cx}{pos:Pos}:bq X (.Dict [] [] pos) dh:=by
 subst_eqs;show PE.imp jy λσ H Q h_=>by
   sleep 5;cases e;intro p hp;show q _ _ (Fr.new hp) (sr.cr.new hp) ?_;change Rep _ _ _ (.aG [] []) _;ext Rep;show⟨p,[],rfl,sr.cr.gv hp,.inl fP,rfl,.nil⟩
end Pu
namespace Pu
open PySem PySem.Spec PySem.W PySem.Calls L2
open PyProof.Rows hiding St Fr
section
variable{X:Cx}{o e:Expr}{es:3e4}{fo:2e3}{fs:1e9}{apos aV:Pos}
theorem sy(ho:bq X o fo)(ha:iK X 4e4 fs)(cF:X8 o "pop" X.env (eval o X.env)=eval o X.env:=by rfl)
  (iE:((backTo aV (Yt 4e4 X.env)).all (λx=>!x.1)&&(Mf aV (U8 [] X.env)).all (λx=>x.1.isSome)
   &&decide ((e::es).length+([]:List U9).length+(if([]:List U9).isEmpty then 0 else 1)<30))=true:=by rfl)
  (cE:9e8:=by rfl) (hs:1e5:=by rfl) (gf:(backTo aV (Yt es X.env)).any (·.1)=false:=by rfl):
  bq X (.Call (.Attribute o "pop" apos) 4e4 [] aV) (EN fo fs):=by
 subst_eqs;show PE.imp (pB Vl PySem.F.slot_list_pop PySem.F.type_list_pop Ba ho ha cF iE cE hs gf) λσ H Q h_=>by
    sleep 5;obtain⟨x,C1,e1,g1⟩:=bp e;obtain⟨u,C2,e2,g2⟩:=bp g1;obtain⟨ys,C3,e3,g3⟩:=bp g2;obtain⟨hC,k,Lm,hx,LC⟩:=Z1 e2;obtain⟨k',n,p',ps,rB,hy,hc,hp,hl,hr,Fh⟩:=xQ g3;clear e g1 g2 g3 e2;subst hC hx hr Fh hy;cases rB;show⟨ι,ρ,C,_,_,sr,e1,λv H1 f1 c1 r1=>?_⟩;obtain⟨a,rfl,hk⟩:=r1;obtain⟨vs0,h0,_⟩:=KI c1 hk LC;show⟨.inl ⟨rfl,_,.of h0⟩,ι,ρ,_,_,C3,sr.step f1 c1,e3,λws H2 f2 c2 r2=>?_⟩;obtain⟨w0,wr,rfl,rw0,hw⟩:=r2;cases(show wr=[]from hw);have hw0:w0=.int n:=by unfold bC Rep at rw0;show rw0
    subst hw0;obtain⟨vs,h1,rv⟩:=KI c2 hk hc;obtain⟨y,hy,ry⟩:=rv.get hp;have bA:n.toNat<vs.length:=(Y6.mp hy).1;obtain⟨c4,f4⟩:=j5 c2 hk ((rv.take n.toNat).append (rv.drop (n.toNat+1)));have hvl:vs.length<100000:=by rw[←rv.length];show hl.2
    have TK:PN n vs.length=some n.toNat:=by
     ext PN;simp;lia
    show⟨a,vs,n,n.toNat,y,rfl,rfl,h1,by lia,by lia,TK,hy,?_⟩;rw[List.eraseIdx_eq_take_drop_succ];show q _ _ (f1.trans (f2.trans f4)) c4 (Rep.mono c2 f4 _ _ ry)
end
section
variable{X:Cx}{o tg:Expr}{body:List Stmt}{pos:Pos}{fo:2e3}{g:2e7}{f:7e3}
theorem ZdP(hp:U7 2e2 X.A X.env X.xe)(hc:5e1)(ho:bq X o fo)(hg:rK X tg g)(hb:ox X body f)(hs:∀x,Y5 o X.env x=pure x:=by intro _;rfl):mh X (.For tg o body [] pos) (bO (fF fo) g f):=by
 subst_eqs;show va hp hc (AI ho) (λι ρ C xs C1 e=>by
    obtain⟨x,C2,e1,e2⟩:=bp e;obtain⟨e3,hC⟩:=kj e2;subst hC;ext v9 e3;split at e3
    ·split at e3
     ·rename_i hk
      cases e3;show⟨_,_,_,e1,rfl,λH1 d ob us c hl r hn hd _=>tS hl hd hn hk⟩
     ·cases e3
    ·cases e3) hg hb hs
end
end Pu
namespace dP
open PySem PySem.Spec L2 Pu
open PyProof.Rows hiding St Fr
abbrev zm:aq->M PF:=(eM (aW 2e8 iS (bJ 7e9)))
def ba:List SV->M SV:=cN 1 0 (zm)
abbrev uV:aq->M PF:=(cY (tq 7e2))
def cz:List SV->M 3e0:=dA 1 0 (uV)
abbrev mn:aq->M PF:=(eM (jK (aL 2e8) ["letter"] [] (hName 0) ff (cb ba 7e2) 2e8))
def cS:List SV->M SV:=cN 1 0 (mn)
abbrev uW:aq->M PF:=(eM (a7 (aa (aB 7e5 2e8 10e3) (aa (aB 7e5 2e8 8e0) (aa (aB 7e5 2e8 7e9) af)))))
def aT:List SV->M SV:=cN 1 0 (uW)
abbrev iA:aq->M PF:=(aA (vO 2) (aA (ng (cZ (bz (aB (g2 (cI false)) 4e0 2e8)) (bz (aB (g2 (cI true)) 4e0 5e7))) (aA (iW (aB (g2 gC) 2e8 4e0) 5e7 4e0) (a8 1 (cb aT (aa (aB (g2 gC) 2e8 4e0) af))))) (cY (vM (bF (fN 5e7)) (EO 8e0)))))
def cv:List SV->M SV:=cN 2 1 (iA)
abbrev zp:aq->M PF:=(aA (a8 2 (cb aT (aa 4e0 af))) (eM (lE (aB (g2 (cI false)) 5e7 2e8) (aB (g2 SH) (aB 7e5 4e0 (mC (.int 5))) (aB 7e5 (aB (g2 gC) 2e8 5e7) (mC (.int 5)))))))
def cQ:List SV->M SV:=cN 2 1 (zp)
abbrev uT:aq->M PF:=(aA (a8 2 (cb ba (aa 4e0 af))) (eM (aB (g2 (b8 aE)) (cb aT (aa (aB 7e5 (cb cv (aa 2e8 (aa 5e7 af))) 10e3) af)) 5e7)))
def cP:List SV->M SV:=cN 2 1 (uT)
abbrev rm:aq->M PF:=(aA (a8 3 (bF (bW (aL (aB 7e5 4e0 (mC (.int 4)))) ["got"] [0] (hName 0) (cZ (bz (aB (g2 (cI false)) 2e8 4e0)) (bz (aB (g2 OZ) (aB 7e5 2e8 10e3) (mC (.str "bell"))))) (aB 7e5 (aB (g2 gC) 4e0 2e8) (mC (.int 5)))))) (eM (iZ (g1 De) (aa (bF (bW (aL (au 3)) ["time"] [2,1] (hName 0) ff (aB (g2 GN) 2e8 (aB 7e8 (aB 7e5 5e7 (mC (.int 5))) 4e0)))) af))))
def cy:List SV->M SV:=cN 3 1 (rm)
abbrev uU:aq->M PF:=(aA (a8 3 (cb ba (aa 4e0 af))) (eM (lE (aB (g2 (cI false)) (au 3) 2e8) (aB (g2 GN) (aB 7e5 4e0 (mC (.int 5))) (aB 7e8 (aB (g2 gC) 2e8 (au 3)) 5e7)))))
def cR:List SV->M SV:=cN 3 1 (uU)
abbrev jc:aq->M PF:=(aA (Bg 1 (aL (bF (cB 7e2))) (hName 2) (cb aT (aa (aB (g2 gC) 2e8 5e7) af)) 5e7) (cY (jJ (dU 4e0) ["names","at","name","other"] [] (hName 0) ff [((jI 7e2),(nE (da (hName 1) (da (hName 2) nF)) 2),ff),((aL (aW 2e8 (bJ (aB 7e8 4e0 8e0)) iS)),(hName 3),ff)] (a7 (aa (mC (.str "twin")) (aa 5e7 5e5))))))
def eB:List SV->M 3e0:=dA 1 2 (jc)
abbrev fe:aq->M PF:=(aA (a8 4 (cb ba (aa 4e0 af))) (nh 5 ["back","loose","behind","ahead"] (aa (cb cQ (aa 2e8 (aa 4e0 af))) (aa (cb cP (aa 2e8 (aa 4e0 af))) (aa (cb cy (aa 2e8 (aa 4e0 5e5))) (aa (cb cR (aa 5e7 (aa 4e0 5e5))) af)))) ["word","is_so"] [4] (nE (da (hName 0) (da (hName 1) nF)) 2) (pS 4e0) (a7 (aa 2e8 (aa 5e7 af)))))
def cm:List SV->M SV:=cN 4 2 (fe)
abbrev jd:aq->M PF:=(aA (a8 3 (cb cS (aa 4e0 af))) (aA (dO 4 (gA eB 5e5)) (aA (bO (dU (au 3)) (hName 5) (b7 (tx (au 4) (aa (cb cm (aa (au 3) (aa 9e1 (aa 5e7 (aa (aB 7e5 2e8 10e3) af))))) af)))) (cY (iq cz [] (aa (au 4) af))))))
def cH:List SV->M 3e0:=dA 3 3 (jd)
abbrev rl:aq->M PF:=(aA (ft (bz (aB (g2 SH) 4e0 (iZ (g1 jN) 7e2))) (eM (aB 7e5 2e8 4e0)) dz) (eM 10e3))
def bu:List SV->M SV:=cN 2 0 (rl)
abbrev rj:aq->M PF:=(aA (a8 2 (cb bu (aa 2e8 (aa (aB (g2 fE) 4e0 (iZ (g1 ye) (aa 8e0 (aa (iZ (g1 jN) 7e2) af)))) af)))) (aA (a8 3 (aB (g2 fE) (aB (g2 kE) (aB 7e8 (aB 7e8 (aB (g2 fE) 5e7 (mC (.int 2147483629))) (aB (g2 kE) (aB (g2 kE) (mC (.int 7919)) 4e0) 4e0)) (mC (.int 11))) (mC (.int 48271))) (mC (.int 2147483647)))) (aA (ft (bz (aB (g2 OZ) (aB (g2 fE) (cb bu (aa 2e8 (aa 10e3 af))) (mC (.int 2))) 10e3)) (a8 2 10e3) dz) (cY (dg (aa (aB (g2 fE) 5e7 (aB (g2 Nj) (mC (.int 10)) (mC (.int 40)))) 5e5))))))
def qW:List SV->M SV:=cN 2 2 (rj)
def bV:List SV->M 3e0:=dA 2 2 (rj)
abbrev Dw:aq->M PF:=(aA (ft (bz (aB (g2 GN) (aB 7e5 2e8 10e3) 10e3)) (aA (a8 2 (aB (g2 fE) (aB 7e5 2e8 10e3) 4e0)) (aA (jH (aB (g2 Ce) (aB 7e5 2e8 10e3) 4e0) 2e8 10e3) (eM 5e7))) dz) (aA (jH (aB (g2 fE) (aB 7e8 (aB (g2 kE) (aB 7e5 2e8 8e0) (mC (.int 48271))) (mC (.int 12345))) (mC (.int 2147483647))) 2e8 8e0) (eM (aB (g2 fE) (aB (g2 fE) (aB (g2 kE) (aB 7e5 2e8 8e0) (aB 7e5 2e8 8e0)) (mC (.int 1999999973))) 4e0))))
def ak:List SV->M SV:=cN 2 1 (Dw)
abbrev zo:aq->M PF:=(aA (a8 2 (mC (.str "abcdefghijklmnopqrstuvwxyz"))) (aA (a8 3 (cb ak (aa 2e8 (aa (mC (.int 26)) af)))) (aA (a8 4 (aB 7e5 (bF (dg (aa 8e0 (aa 7e9 (aa (mC (.int 5)) (aa (mC (.int 7)) (aa (mC (.int 9)) (aa (mC (.int 11)) af)))))))) (cb ak (aa 2e8 (aa (mC (.int 6)) af))))) (cY (bW (bg (aa 4e0 af)) ["_law_k"] [2,3,4] (hName 0) ff (aB 7e8 (aB 7e5 4e0 (aB (g2 fE) (aB 7e8 5e7 (aB (g2 kE) (au 3) 2e8)) (mC (.int 26)))) (aB 7e5 (bF (dg (aa (mC (.str "")) (aa (mC (.str "zq")) (aa (mC (.str "x")) (aa (mC (.str "qqzzx")) af)))))) (aB (g2 fE) (aB 7e8 5e7 (aB (g2 kE) 2e8 2e8)) (mC (.int 4))))))))))
def dv:List SV->M SV:=cN 2 3 (zo)
abbrev ml:aq->M PF:=(eM (iZ ie (aa (bF (bW (aL 2e8) ["_law_letter"] [] (hName 0) ff (a7 (aa (aW 2e8 iS (bJ 7e9)) 7e2)))) af)))
def cw:List SV->M SV:=cN 1 0 (ml)
abbrev fR:aq->M PF:=(aA (a8 3 (aB 7e8 8e0 6e9)) (aA (a8 4 (aB 7e8 (mC (.int 10)) (cb ak (aa 2e8 (aa (mC (.int 90)) af))))) (aA (dO 5 (dg af)) (aA (bO (bg 5e5) (hName 6) (aA (a8 7 (aB 7e5 (bF (dg (aa (a7 (aa (mC (.str "note")) af)) (aa (a7 (aa (mC (.str "join")) af)) (aa (a7 (aa (mC (.str "free")) (aa 10e3 af))) af))))) (cb ak (aa 2e8 (aa 7e9 af))))) (b7 (eN 9e1 (aa (a7 (aa 4e0 (aa 5e7 (aa (aB 7e8 (au 4) (au 6)) (aa (aB 7e8 (au 4) (aB (g2 fE) (aB 7e8 (au 6) 8e0) (au 3))) (aa (a7 af) (aa 6e9 (aa (au 7) af)))))))) af))))) (aA (bO (bg (aa (cb ak (aa 2e8 (aa (mC (.int 5)) af))) af)) (hName 6) (aA (a8 8 (aB 7e5 (aB 7e5 9e1 (cb ak (aa 2e8 (aa (iZ (g1 jN) (aa 9e1 af)) af)))) (mC (.int 2)))) (b7 (eN 9e1 (aa (a7 (aa 4e0 (aa 5e7 (aa (aB 7e8 (mC (.int 200)) (au 6)) (aa (au 8) (aa (a7 af) (aa 6e9 (aa (a7 (aa (mC (.str "note")) af)) af)))))))) af))))) (aA (bO (bg (aa (aB 7e8 8e0 (cb ak (aa 2e8 (aa (mC (.int 5)) af)))) af)) (hName 6) (b7 (eN 9e1 (aa (a7 (aa 4e0 (aa 5e7 (aa (aB 7e8 8e0 (au 6)) (aa (au 6) (aa (a7 af) (aa 6e9 (aa (a7 (aa (mC (.str "note")) af)) af)))))))) af)))) (vN (aa 9e1 (aa (bF (bW (aL (aW 9e1 iS (bJ (au 3)))) ["_law_letter"] [] (hName 0) ff (aW 2e8 iS (bJ 7e9)))) af)))))))))
def et:List SV->M SV:=cN 3 6 (fR)
abbrev fS:aq->M PF:=(aA (a8 2 (cb cw 7e2)) (aA (dO 3 (dg af)) (aA (bO (aL 4e0) (hName 4) (ft (pS (iZ (g1 uK) (aa (bF (bW (aL (au 4)) ["_law_name"] [2] (hName 0) ff (aB (g2 (cI false)) 2e8 4e0))) af))) (b7 (tx (au 3) (aa (bF (bW (aL (au 4)) ["_law_name"] [] (hName 0) ff (a7 (aa (mC (.str "loose")) 7e2)))) af))) dz)) (aA (bO (fF 5e7) (hName 5) (aA (a8 6 (aB 7e8 (aW 9e1 iS (bJ (mC (.int 2)))) (a7 (aa (aB 7e5 (aB (g2 gC) 5e7 9e1) 7e9) af)))) (aA (ft (cZ (bz (aB (g2 (cI false)) (au 6) 5e7)) (bz (aB (g2 GN) (aB 7e5 (aB (g2 gC) 5e7 (au 6)) (mC (.int 5))) (aB 7e5 (aB (g2 gC) 5e7 9e1) (mC (.int 5)))))) (b7 (eN (au 3) (aa (a7 (aa (mC (.str "back")) (aa 9e1 af))) af))) dz) (bO (fF 5e7) (hName 7) (ft (cZ (bz (aB (g2 yf) 9e1 (au 7))) (cZ (bz (aB (g2 (b8 aE)) (aW (au 7) iS (bJ (mC (.int 2)))) (aW 9e1 iS (bJ (mC (.int 2)))))) (bz (aB (g2 (b8 aE)) (aB 7e5 (aB (g2 gC) 5e7 (au 7)) 7e9) (aB 7e5 (aB (g2 gC) 5e7 9e1) 7e9))))) (b7 (eN (au 3) (aa (a7 (aa (mC (.str "twin")) (aa 9e1 (aa (au 7) af)))) af))) dz))))) (cY (cB 5e5))))))
def cT:List SV->M 3e0:=dA 2 6 (fS)
abbrev xg:aq->M PF:=(aA (dO 1 (gA bV (aa 2e8 (aa 8e0 af)))) (aA (a8 2 (cb dv (aa 4e0 (aa (mC (.int 9)) af)))) (aA (dO 3 (dg af)) (aA (dO 4 (dg af)) (aA (bO (bg (aa (aB 7e8 8e0 (cb ak (aa 4e0 (aa 7e9 af)))) af)) (hName 5) (aA (ER (Bi et (gA bV (aa 2e8 (aa (aB 7e8 (mC (.int 2)) 9e1) af))) (aa (aB 7e5 5e7 (cb ak (aa 4e0 (aa 7e9 af)))) (aa (aB 7e5 5e7 (aB 7e8 7e9 9e1)) af))) (nE (da (hName 6) (da (hName 7) nF)) 2)) (aA (dO 3 (vQ (au 3) (au 6))) (b7 (eN (au 4) (aa (au 7) af)))))) (aA (ft (bz (aB (g2 (b8 aE)) (cb ak (aa 4e0 (aa (mC (.int 2)) af))) 10e3)) (b7 (EN (au 3) (aa (cb ak (aa 4e0 (aa (iZ (g1 jN) 5e5) af))) af))) dz) (aA (a8 8 (a7 (aa (cb ak (aa 4e0 (aa (mC (.int 4)) af))) (aa dh af)))) (aA (a8 9 (bF (iq cT [] (aa (au 3) (aa (au 4) af))))) (eM (lE (aB (g2 (b8 aE)) (bF (gA cH (aa (au 8) (aa (bF (vP 5e5)) (aa dh af))))) (au 9)) (aB (g2 (b8 aE)) (bF (gA cH (aa (au 8) (aa (bF (gz (au 3))) (aa dh af))))) (au 9))))))))))))
def Dp:List SV->M SV:=cN 1 9 (xg)
noncomputable def top (i:Nat):Stmt:=PySem.Challenge.pw_holdword_k31_rings_are_loose.main.body.getD i (.Pass ⟨0,0,0,0⟩)
structure Txt(mg:Str->Option Value):Prop where
 FJ:∃t,mg "JUDGE"=some (.str "bell" t)
 Pc:mg "all"=none
 Pb:mg "any"=none
 Ko:mg "dict"=none
 qR:mg "enumerate"=none
 qQ:mg "len"=none
 uJ:mg "list"=none
 G9:mg "max"=none
 gJ:mg "range"=none
 uI:mg "reversed"=none
 Pa:mg "set"=none
 j9:mg "sorted"=none
section
variable{P:YF}{w:World}{K:W.Frag}{mg:2e5}{base:Heap}
abbrev Z7:Stmt:=top 2
theorem r0:aJ ["letter"] ["letter"] (ah Z7):=1e6
theorem ln0{P:List Value->Prop}(h:P []):∀us:List Value,us.length=0->P us:=by
 intro us hl;cases us with
 |nil=>show h
 |cons a r=>simp at hl
theorem Jf{P:List Value->Prop}(h:∀a,P [a]):∀us:List Value,us.length=1->P us:=by
 intro us hl;cases us with
 |nil=>simp at hl
 |cons a r=>show ln0 (P:=λr=>P (a::r)) (h a) r (by simpa using hl)
theorem ln2{P:List Value->Prop}(h:∀a b,P [a,b]):∀us:List Value,us.length=2->P us:=by
 intro us hl;cases us with
 |nil=>simp at hl
 |cons a r=>show Jf (P:=λr=>P (a::r)) (h a) r (by simpa using hl)
theorem NH{P:List Value->Prop}(h:∀a b c,P [a,b,c]):∀us:List Value,us.length=3->P us:=by
 intro us hl;cases us with
 |nil=>simp at hl
 |cons a r=>show ln2 (P:=λr=>P (a::r)) (h a) r (by simpa using hl)
theorem ln4{P:List Value->Prop}(h:∀a b c d,P [a,b,c,d]):∀us:List Value,us.length=4->P us:=by
 intro us hl;cases us with
 |nil=>simp at hl
 |cons a r=>show NH (P:=λr=>P (a::r)) (h a) r (by simpa using hl)
theorem sR(Fn:Hd.FnAt K mg "name_of" Z7)(T:Txt mg):cU P w K mg base 1 "name_of" ["letter"] (av K (ba)):=
 uO Fn r0 (λ_ _ _ _ _ _=>Jf λ_=>rfl) λ_ cdv A outer s H E hr=>(@fw _ _ _ (@ze _ _ _ _ (Hq (ay 0) Hr (Hs bD))))
end
section
variable{P:YF}{w:World}{K:W.Frag}{mg:2e5}{base:Heap}
abbrev ZS:Stmt:=top 4
theorem oQ:aJ ["claims"] ["claims"] (ah ZS):=1e6
theorem m9(Fn:Hd.FnAt K mg "in_order" ZS)(T:Txt mg):cU P w K mg base 1 "in_order" ["claims"] (bj K (cz)):=
 PJ Fn oQ (λ_ _ _ _ _ _=>Jf λ_=>rfl) λ_ cdv A outer s H E hr=>(@fw _ _ _ (Hm (sv rfl (dW hr) 1e4 T.j9 1e4 1e4 T.Pa 8e9)))
end
section
variable{P:YF}{w:World}{K:W.Frag}{mg:2e5}{base:Heap}
abbrev ZN:Stmt:=top 6
theorem se:aJ ["pile"] ["pile"] (ah ZN):=1e6
theorem sW(Fn:Hd.FnAt K mg "by_name" ZN)(T:Txt mg)(cO:cU P w K mg base 1 "name_of" ["letter"] (av K ba)):cU P w K mg base 2 "by_name" ["pile"] (av K (cS)):=
 uO Fn se (λ_ _ _ _ _ _=>Jf λ_=>rfl) λ_ cdv A outer s H E hr=>(@fw _ _ _ (@ze _ _ _ _ (sG (vs:=["letter"]) (fs:=[]) (fr:=[]) 5e8 rfl (dW hr) (DI (ay 0)) (λ_ _ _ _ _=>(iI (i:=0) (show((["letter"]:List Str)++([]:List Str)).Nodup by decide +kernel) rfl 3e5)) (λ_ _ _ _ _=>DJ) (λ_ _ _ _ _=>(gT cO 5e0 1e4 8e9)) (λ_ _ _ _ _=>(ay 0)))))
end
section
variable{P:YF}{w:World}{K:W.Frag}{mg:2e5}{base:Heap}
abbrev ZR:Stmt:=top 7
theorem oR:aJ ["letter"] ["letter"] (ah ZR):=1e6
theorem pH(Fn:Hd.FnAt K mg "followed" ZR)(T:Txt mg):cU P w K mg base 1 "followed" ["letter"] (av K (aT)):=
 uO Fn oR (λ_ _ _ _ _ _=>Jf λ_=>rfl) λ_ cdv A outer s H E hr=>(@fw _ _ _ (@ze _ _ _ _ (me (@aK _ _ _ _ _ (gb 8e3 (ay 0) bD) (@aK _ _ _ _ _ (gb 8e3 (ay 0) bD) (@aK _ _ _ _ _ (gb 8e3 (ay 0) bD) b6 1e4) 1e4) 1e4))))
end
section
variable{P:YF}{w:World}{K:W.Frag}{mg:2e5}{base:Heap}
abbrev ZbX:Stmt:=top 9
theorem ZbC:aJ ["letters","name","found"] ["letters","name"] (ah ZbX):=1e6
theorem m6(Fn:Hd.FnAt K mg "row_among" ZbX)(T:Txt mg)(ck:cU P w K mg base 1 "followed" ["letter"] (av K aT)):cU P w K mg base 2 "row_among" ["letters","name"] (av K (cv)):=
 uO Fn ZbC 8e5 λ_ cdv A outer s H E hr=>(@dj _ _ _ _ _ (xG (n:=2) ZbC.nd rfl 3e5) (@dj _ _ _ _ _ (so We (mS (Px (xb (LX (dW hr)) Kv.r (ay 1) (ay 0) rfl) (Ra (xb (xV (dW hr)) Kv.r (ay 1) (ay 2) rfl)))) (@dj _ _ _ _ _ (o8 (dW hr) (Dk 8e3 (ay 0) (ay 1)) (ay 2) (ay 1)) (@fw _ _ _ (iH (i:=1) ZbC.nd rfl 3e5 (gT ck 5e0 1e4 (@aK _ _ _ _ _ (Dk 8e3 (ay 0) (ay 1)) b6 1e4)))))) (@fw _ _ _ (Hm (xK (uP (ky rfl 1e4 T.uJ (ay 2))) (Aq bD))))))
end
section
variable{P:YF}{w:World}{K:W.Frag}{mg:2e5}{base:Heap}
abbrev Z2:Stmt:=top 11
theorem ZdL:aJ ["letters","letter","ahead"] ["letters","letter"] (ah Z2):=1e6
theorem sV(Fn:Hd.FnAt K mg "is_back" Z2)(T:Txt mg)(ck:cU P w K mg base 1 "followed" ["letter"] (av K aT)):cU P w K mg base 2 "is_back" ["letters","letter"] (av K (cQ)):=
 uO Fn ZdL 8e5 λ_ cdv A outer s H E hr=>(@dj _ _ _ _ _ (iH (i:=2) ZdL.nd rfl 3e5 (gT ck 5e0 1e4 (@aK _ _ _ _ _ (ay 1) b6 1e4))) (@fw _ _ _ (@ze _ _ _ _ (jw (FX (LX (dW hr)) Kv.r (ay 2) (ay 0) rfl) (jv (FX Gr ir.r (gb 8e3 (ay 1) bD) (gb 8e3 (Dk 8e3 (ay 0) (ay 2)) bD) (bZ _)))))))
end
section
variable{P:YF}{w:World}{K:W.Frag}{mg:2e5}{base:Heap}
abbrev ZU:Stmt:=top 12
theorem Zc2:aJ ["letters","letter","name"] ["letters","letter"] (ah ZU):=1e6
theorem pF(Fn:Hd.FnAt K mg "is_loose" ZU)(T:Txt mg)(cO:cU P w K mg base 1 "name_of" ["letter"] (av K ba))(qL:cU P w K mg base 2 "row_among" ["letters","name"] (av K cv))(ck:cU P w K mg base 1 "followed" ["letter"] (av K aT)):cU P w K mg base 3 "is_loose" ["letters","letter"] (av K (cP)):=
 uO Fn Zc2 8e5 λ_ cdv A outer s H E hr=>(@dj _ _ _ _ _ (iH (i:=2) Zc2.nd rfl 3e5 (gT cO 5e0 1e4 (@aK _ _ _ _ _ (ay 1) b6 1e4))) (@fw _ _ _ (@ze _ _ _ _ (FX (LW (dW hr)) LZ.r (gT ck 5e0 1e4 (@aK _ _ _ _ _ (gb 8e3 (gT qL 5e0 1e4 (@aK _ _ _ _ _ (ay 0) (@aK _ _ _ _ _ (ay 2) b6 1e4) 1e4)) bD) b6 1e4)) (ay 2) (bZ _)))))
end
section
variable{P:YF}{w:World}{K:W.Frag}{mg:2e5}{base:Heap}
abbrev Z9:Stmt:=top 13
theorem ZcI:aJ ["letters","letter","span","times"] ["letters","letter","span"] (ah Z9):=1e6
theorem m8(Fn:Hd.FnAt K mg "is_behind" Z9)(T:Txt mg):cU P w K mg base 1 "is_behind" ["letters","letter","span"] (av K (cy)):=
 uO Fn ZcI (λ_ _ _ _ _ _=>NH λ_ _ _=>rfl) λ_ cdv A outer s H E hr=>(@dj _ _ _ _ _ (xI (i:=3) ZcI.nd rfl rfl (vs:=["got"]) (fs:=["letters"]) (fr:=[0]) 5e8 rfl (DI (gb 8e3 (ay 1) bD)) (λ_ _ _ _ _=>(iI (i:=0) (show((["got"]:List Str)++(["letters"]:List Str)).Nodup by decide +kernel) rfl 3e5)) (λ_ _ _ _ _=>(o6 (mS (Px (xb (LX (dW hr)) Kv.r (ay 0) (ay 1) rfl) (Ra (xb AV Ci.r (gb 8e3 (ay 0) bD) (sC 1e4 T.FJ) (bZ _))))))) (λ_ _ _ _ _=>(gb 8e3 (Dk 8e3 (ay 1) (ay 0)) bD))) (@fw _ _ _ (@ze _ _ _ _ (Ar rfl 1e4 T.Pb 1e4 (@aK _ _ _ _ _ (uP (L4 (vs:=["time"]) (fs:=["span","letter"]) (fr:=[2,1]) 5e8 rfl (DI (ay 3)) (λ_ _ _ _ _=>(iI (i:=0) (show((["time"]:List Str)++(["span","letter"]:List Str)).Nodup by decide +kernel) rfl 3e5)) (λ_ _ _ _ _=>DJ) (λ_ _ _ _ _=>(FX vD wD.r (ay 0) (ke (gb 8e3 (ay 2) bD) (ay 1)) (bZ _))))) b6 1e4)))))
end
section
variable{P:YF}{w:World}{K:W.Frag}{mg:2e5}{base:Heap}
abbrev ZT:Stmt:=top 14
theorem Zc3:aJ ["comings","letter","span","name"] ["comings","letter","span"] (ah ZT):=1e6
theorem pG(Fn:Hd.FnAt K mg "is_ahead" ZT)(T:Txt mg)(cO:cU P w K mg base 1 "name_of" ["letter"] (av K ba)):cU P w K mg base 2 "is_ahead" ["comings","letter","span"] (av K (cR)):=
 uO Fn Zc3 (λ_ _ _ _ _ _=>NH λ_ _ _=>rfl) λ_ cdv A outer s H E hr=>(@dj _ _ _ _ _ (iH (i:=3) Zc3.nd rfl 3e5 (gT cO 5e0 1e4 (@aK _ _ _ _ _ (ay 1) b6 1e4))) (@fw _ _ _ (@ze _ _ _ _ (jw (FX (LX (dW hr)) Kv.r (ay 3) (ay 0) rfl) (jv (FX vD wD.r (gb 8e3 (ay 1) bD) (ke (Dk 8e3 (ay 0) (ay 3)) (ay 2)) (bZ _)))))))
end
section
variable{P:YF}{w:World}{K:W.Frag}{mg:2e5}{base:Heap}
abbrev mI:Stmt:=top 15
theorem jo:aJ ["letters","after","name"] ["letters"] (ah mI):=1e6
theorem xZ(Fn:Hd.FnAt K mg "twins" mI)(T:Txt mg)(ck:cU P w K mg base 1 "followed" ["letter"] (av K aT)):cU P w K mg base 2 "twins" ["letters"] (bj K (eB)):=
 PJ Fn jo (λ_ _ _ _ _ _=>Jf λ_=>rfl) λ_ cdv A outer s H E hr=>(Av (n:=1) (dW hr) jo.nd rfl 3e5 (by first|show Or.inl rfl|show Or.inr 3e5|show Or.inr (Or.inr rfl)) We rfl (DI (uP (ZcK rfl (dW hr) 1e4 T.j9 1e4 8e9))) (iI (i:=2) jo.nd rfl 3e5) (gT ck 5e0 1e4 (@aK _ _ _ _ _ (Dk 8e3 (ay 0) (ay 2)) b6 1e4)) (ay 2) (@fw _ _ _ (Hm (sx (vs:=["names","at","name","other"]) (fs:=[]) (fr:=[]) 5e8 rfl (ay 1) (λ_ _ _ _ _=>(iI (i:=0) (show((["names","at","name","other"]:List Str)++([]:List Str)).Nodup by decide +kernel) rfl 3e5)) (λ_ _ _ _ _=>DJ) (λ_ _ _ _ _=>(lq (xJ 1e4 T.qR 8e9) (ju rfl (Me (iI (i:=1) (show((["names","at","name","other"]:List Str)++([]:List Str)).Nodup by decide +kernel) rfl 3e5) (Me (iI (i:=2) (show((["names","at","name","other"]:List Str)++([]:List Str)).Nodup by decide +kernel) rfl 3e5) ZL))) DJ (lq (DI (Hq (ay 0) (Hs (ke (ay 1) bD)) Hr)) (iI (i:=3) (show((["names","at","name","other"]:List Str)++([]:List Str)).Nodup by decide +kernel) rfl 3e5) DJ JR))) (λ_ _ _ _ _=>(me (@aK _ _ _ _ _ xa (@aK _ _ _ _ _ (ay 2) 8e8 1e4) 1e4)))))))
end
section
variable{P:YF}{w:World}{K:W.Frag}{mg:2e5}{base:Heap}
abbrev ZV:Stmt:=top 16
theorem ZbW:aJ ["letters","letter","comings","span","name","said"] ["letters","letter","comings","span"] (ah ZV):=1e6
theorem pE(Fn:Hd.FnAt K mg "marks_of" ZV)(T:Txt mg)(cO:cU P w K mg base 1 "name_of" ["letter"] (av K ba))(uD:cU P w K mg base 2 "is_ahead" ["comings","letter","span"] (av K cR))(qM:cU P w K mg base 1 "is_behind" ["letters","letter","span"] (av K cy))(uC:cU P w K mg base 3 "is_loose" ["letters","letter"] (av K cP))(yT:cU P w K mg base 2 "is_back" ["letters","letter"] (av K cQ)):cU P w K mg base 4 "marks_of" ["letters","letter","comings","span"] (av K (cm)):=
 uO Fn ZbW (λ_ _ _ _ _ _=>ln4 λ_ _ _ _=>rfl) λ_ cdv A outer s H E hr=>(@dj _ _ _ _ _ (iH (i:=4) ZbW.nd rfl (Or.inr rfl) (gT cO 5e0 1e4 (@aK _ _ _ _ _ (ay 1) b6 1e4))) (sH (n:=5) ZbW.nd rfl 3e5 (by first|show Or.inl rfl|show Or.inr 3e5|show Or.inr (Or.inr rfl)) rfl (@QR _ _ _ _ _ _ _ _ _ _ (gT yT 5e0 1e4 (@aK _ _ _ _ _ (ay 0) (@aK _ _ _ _ _ (ay 1) b6 1e4) 1e4)) (@QR _ _ _ _ _ _ _ _ _ _ (gT uC 5e0 1e4 (@aK _ _ _ _ _ (ay 0) (@aK _ _ _ _ _ (ay 1) b6 1e4) 1e4)) (@QR _ _ _ _ _ _ _ _ _ _ (gT qM 5e0 1e4 (@aK _ _ _ _ _ (ay 0) (@aK _ _ _ _ _ (ay 1) 8e8 1e4) 1e4)) (@QR _ _ _ _ _ _ _ _ _ _ (gT uD 5e0 1e4 (@aK _ _ _ _ _ (ay 2) (@aK _ _ _ _ _ (ay 1) 8e8 1e4) 1e4)) Au)))) 5e3 rfl rfl 2e9 1e7 rfl (vs:=["word","is_so"]) (fvs:=["name"]) (fr:=[4]) 5e8 (λ_ _ _ _ _=>(ju rfl (Me (iI (i:=0) (show((["word","is_so"]:List Str)++(["name"]:List Str)).Nodup by decide +kernel) rfl 3e5) (Me (iI (i:=1) (show((["word","is_so"]:List Str)++(["name"]:List Str)).Nodup by decide +kernel) rfl 3e5) ZL)))) (λ_ _ _ _ _=>(o6 (o7 (ay 1)))) (λ_ _ _ _ _=>(me (@aK _ _ _ _ _ (ay 0) (@aK _ _ _ _ _ (ay 2) b6 1e4) 1e4)))))
end
section
variable{P:YF}{w:World}{K:W.Frag}{mg:2e5}{base:Heap}
abbrev mJ:Stmt:=top 17
theorem Q0:aJ ["town","pile","comings","letters","found","letter"] ["town","pile","comings"] (ah mJ):=1e6
theorem ya(Fn:Hd.FnAt K mg "marks" mJ)(T:Txt mg)(yU:cU P w K mg base 2 "by_name" ["pile"] (av K cS))(CW:cU P w K mg base 2 "twins" ["letters"] (bj K eB))(uB:cU P w K mg base 4 "marks_of" ["letters","letter","comings","span"] (av K cm))(qO:cU P w K mg base 1 "in_order" ["claims"] (bj K cz)):cU P w K mg base 5 "marks" ["town","pile","comings"] (bj K (cH)):=
 PJ Fn Q0 (λ_ _ _ _ _ _=>NH λ_ _ _=>rfl) λ_ cdv A outer s H E hr=>(@dj _ _ _ _ _ (iH (i:=3) Q0.nd rfl 3e5 (gT yU 5e0 1e4 (@aK _ _ _ _ _ (ay 1) b6 1e4))) (@dj _ _ _ _ _ (KC (i:=4) Q0.nd rfl 3e5 (Pt CW 5e0 1e4 8e8)) (@dj _ _ _ _ _ (xH We rfl (ay 3) (iI (i:=5) Q0.nd rfl 3e5) (@fw _ _ _ (FT (Zde (ay 4) (@aK _ _ _ _ _ (gT uB 5e0 1e4 (@aK _ _ _ _ _ (ay 3) (@aK _ _ _ _ _ (ay 5) (@aK _ _ _ _ _ (ay 2) (@aK _ _ _ _ _ (gb 8e3 (ay 0) bD) b6 1e4) 1e4) 1e4) 1e4)) b6 1e4))))) (@fw _ _ _ (Hm (lu [] qO 5e0 1e4 (@aK _ _ _ _ _ (ay 4) b6 1e4)))))))
end
section
variable{P:YF}{w:World}{K:W.Frag}{mg:2e5}{base:Heap}
abbrev Z':Stmt:=top 19
theorem mH:aJ ["_law_script","_law_k"] ["_law_script","_law_k"] (ah Z'):=1e6
theorem m7(Fn:Hd.FnAt K mg "_law_cell_at" Z')(T:Txt mg):cU P w K mg base 1 "_law_cell_at" ["_law_script","_law_k"] (av K (bu)):=
 uO Fn mH 8e5 λ_ cdv A outer s H E hr=>(@dj _ _ _ _ _ (@Hl _ _ _ _ _ _ _ _ (xb Gr ir.r (ay 1) (Pr 1e4 T.qQ 8e9) (bZ _)) (@fw _ _ _ (@ze _ _ _ _ (gb 8e3 (ay 0) (ay 1)))) Hi) (@fw _ _ _ (@ze _ _ _ _ bD)))
end
section
variable{P:YF}{w:World}{K:W.Frag}{mg:2e5}{base:Heap}
abbrev QZ:Stmt:=top 20
theorem Hn:aJ ["_law_script","_law_k","_law_cell","_law_seed"] ["_law_script","_law_k"] (ah QZ):=1e6
theorem xY(Fn:Hd.FnAt K mg "_law_left" QZ)(T:Txt mg)(bQ:cU P w K mg base 1 "_law_cell_at" ["_law_script","_law_k"] (av K bu)):cU P w K mg base 2 "_law_left" ["_law_script","_law_k"] (av K (qW)):=
 uO Fn Hn 8e5 λ_ cdv A outer s H E hr=>(@dj _ _ _ _ _ (iH (i:=2) Hn.nd rfl 3e5 (gT bQ 5e0 1e4 (@aK _ _ _ _ _ (ay 0) (@aK _ _ _ _ _ (qU (ay 1) (pe rfl 1e4 T.G9 1e4 (@aK _ _ _ _ _ bD (@aK _ _ _ _ _ (Pr 1e4 T.qQ 8e9) b6 1e4) 1e4))) b6 1e4) 1e4))) (@dj _ _ _ _ _ (iH (i:=3) Hn.nd rfl 3e5 (qU (DH (ke (ke (qU (ay 2) bD) (DH (DH bD (ay 1)) (ay 1))) bD) bD) bD)) (@dj _ _ _ _ _ (@Hl _ _ _ _ _ _ _ _ (xb AV Ci.r (qU (gT bQ 5e0 1e4 (@aK _ _ _ _ _ (ay 0) 8e6 1e4)) bD) bD (bZ _)) (@fw _ _ _ (iH (i:=2) Hn.nd rfl 3e5 bD)) Hi) (@fw _ _ _ (Hm (FY (@aK _ _ _ _ _ (qU (ay 2) (o9 bD bD)) 8e8 1e4)))))))
theorem sX(Fn:Hd.FnAt K mg "_law_left" QZ)(T:Txt mg)(bQ:cU P w K mg base 1 "_law_cell_at" ["_law_script","_law_k"] (av K bu)):cU P w K mg base 2 "_law_left" ["_law_script","_law_k"] (bj K (bV)):=
 PJ Fn Hn 8e5 λ_ cdv A outer s H E hr=>(@dj _ _ _ _ _ (iH (i:=2) Hn.nd rfl 3e5 (gT bQ 5e0 1e4 (@aK _ _ _ _ _ (ay 0) (@aK _ _ _ _ _ (qU (ay 1) (pe rfl 1e4 T.G9 1e4 (@aK _ _ _ _ _ bD (@aK _ _ _ _ _ (Pr 1e4 T.qQ 8e9) b6 1e4) 1e4))) b6 1e4) 1e4))) (@dj _ _ _ _ _ (iH (i:=3) Hn.nd rfl 3e5 (qU (DH (ke (ke (qU (ay 2) bD) (DH (DH bD (ay 1)) (ay 1))) bD) bD) bD)) (@dj _ _ _ _ _ (@Hl _ _ _ _ _ _ _ _ (xb AV Ci.r (qU (gT bQ 5e0 1e4 (@aK _ _ _ _ _ (ay 0) 8e6 1e4)) bD) bD (bZ _)) (@fw _ _ _ (iH (i:=2) Hn.nd rfl 3e5 bD)) Hi) (@fw _ _ _ (Hm (FY (@aK _ _ _ _ _ (qU (ay 2) (o9 bD bD)) 8e8 1e4)))))))
end
section
variable{P:YF}{w:World}{K:W.Frag}{mg:2e5}{base:Heap}
abbrev jr:Stmt:=top 21
theorem k6:aJ ["_law_left_here","_law_many","_law_digit"] ["_law_left_here","_law_many"] (ah jr):=1e6
theorem xX(Fn:Hd.FnAt K mg "_law_pick" jr)(T:Txt mg):cU P w K mg base 1 "_law_pick" ["_law_left_here","_law_many"] (av K (ak)):=
 uO Fn k6 8e5 λ_ cdv A outer s H E hr=>(@dj _ _ _ _ _ (@Hl _ _ _ _ _ _ _ _ (xb vD wD.r (gb 8e3 (ay 0) bD) bD (bZ _)) (@dj _ _ _ _ _ (iH (i:=2) k6.nd rfl 3e5 (qU (gb 8e3 (ay 0) bD) (ay 1))) (@dj _ _ _ _ _ (ZdO (sD (gb 8e3 (ay 0) bD) (ay 1)) (ay 0) bD) (@fw _ _ _ (@ze _ _ _ _ (ay 2))))) Hi) (@dj _ _ _ _ _ (ZdO (qU (ke (DH (gb 8e3 (ay 0) bD) bD) bD) bD) (ay 0) bD) (@fw _ _ _ (@ze _ _ _ _ (qU (qU (DH (gb 8e3 (ay 0) bD) (gb 8e3 (ay 0) bD)) bD) (ay 1))))))
end
section
variable{P:YF}{w:World}{K:W.Frag}{mg:2e5}{base:Heap}
abbrev Z6:Stmt:=top 22
theorem Q8:aJ ["_law_left_here","_law_many","_law_letters","_law_first","_law_step"] ["_law_left_here","_law_many"] (ah Z6):=1e6
theorem sS(Fn:Hd.FnAt K mg "_law_words" Z6)(T:Txt mg)(br:cU P w K mg base 1 "_law_pick" ["_law_left_here","_law_many"] (av K ak)):cU P w K mg base 2 "_law_words" ["_law_left_here","_law_many"] (av K (dv)):=
 uO Fn Q8 8e5 λ_ cdv A outer s H E hr=>(@dj _ _ _ _ _ (iH (i:=2) Q8.nd rfl (Or.inr rfl) xa) (@dj _ _ _ _ _ (iH (i:=3) Q8.nd rfl (Or.inr rfl) 3e1) (@dj _ _ _ _ _ (iH (i:=4) Q8.nd rfl (Or.inr rfl) (gb 8e3 (uP (FY (@aK _ _ _ _ _ bD (@aK _ _ _ _ _ bD (@aK _ _ _ _ _ bD (@aK _ _ _ _ _ bD (@aK _ _ _ _ _ bD 8e6 1e4) 1e4) 1e4) 1e4) 1e4))) 3e1)) (@fw _ _ _ (Hm (L4 (vs:=["_law_k"]) (fs:=["_law_letters","_law_first","_law_step"]) (fr:=[2,3,4]) 5e8 rfl (PL 1e4 T.gJ (@aK _ _ _ _ _ (ay 1) b6 1e4)) (λ_ _ _ _ _=>(iI (i:=0) (show((["_law_k"]:List Str)++(["_law_letters","_law_first","_law_step"]:List Str)).Nodup by decide +kernel) rfl 3e5)) (λ_ _ _ _ _=>DJ) (λ_ _ _ _ _=>(ke (gb 8e3 (ay 1) (qU (ke (ay 2) (DH (ay 3) (ay 0))) bD)) (gb 8e3 (uP (FY (@aK _ _ _ _ _ xa (@aK _ _ _ _ _ xa (@aK _ _ _ _ _ xa (@aK _ _ _ _ _ xa b6 1e4) 1e4) 1e4) 1e4))) (qU (ke (ay 2) (DH (ay 0) (ay 0))) bD))))))))))
end
section
variable{P:YF}{w:World}{K:W.Frag}{mg:2e5}{base:Heap}
abbrev Z4:Stmt:=top 23
theorem sd:aJ ["_law_pile"] ["_law_pile"] (ah Z4):=1e6
theorem sU(Fn:Hd.FnAt K mg "_law_named" Z4)(T:Txt mg):cU P w K mg base 1 "_law_named" ["_law_pile"] (av K (cw)):=
 uO Fn sd (λ_ _ _ _ _ _=>Jf λ_=>rfl) λ_ cdv A outer s H E hr=>(@fw _ _ _ (@ze _ _ _ _ (sF rfl (dW hr) 1e4 T.Ko 1e4 (@aK _ _ _ _ _ (uP (L4 (vs:=["_law_letter"]) (fs:=[]) (fr:=[]) 5e8 rfl (DI (ay 0)) (λ_ _ _ _ _=>(iI (i:=0) (show((["_law_letter"]:List Str)++([]:List Str)).Nodup by decide +kernel) rfl 3e5)) (λ_ _ _ _ _=>DJ) (λ_ _ _ _ _=>(me (@aK _ _ _ _ _ (Hq (ay 0) Hr (Hs bD)) 8e9 1e4))))) b6 1e4))))
end
section
variable{P:YF}{w:World}{K:W.Frag}{mg:2e5}{base:Heap}
abbrev Z5:Stmt:=top 24
theorem FU:aJ ["_law_left_here","_law_house","_law_deal","_law_many","_law_start","_law_letters","_law_k","_law_deed","_law_prev"] ["_law_left_here","_law_house","_law_deal"] (ah Z5):=1e6
theorem sT(Fn:Hd.FnAt K mg "_law_three" Z5)(T:Txt mg)(br:cU P w K mg base 1 "_law_pick" ["_law_left_here","_law_many"] (av K ak)):cU P w K mg base 2 "_law_three" ["_law_left_here","_law_house","_law_deal"] (av K (et)):=
 uO Fn FU (λ_ _ _ _ _ _=>NH λ_ _ _=>rfl) λ_ cdv A outer s H E hr=>(@dj _ _ _ _ _ (iH (i:=3) FU.nd rfl 3e5 (ke bD 3e1)) (@dj _ _ _ _ _ (iH (i:=4) FU.nd rfl 3e5 (ke bD 3e1)) (@dj _ _ _ _ _ (KC (i:=5) FU.nd rfl 3e5 (FY b6)) (@dj _ _ _ _ _ (Pw We rfl (PL 1e4 T.gJ 8e8) (iI (i:=6) FU.nd rfl 3e5) (@dj _ _ _ _ _ (iH (i:=7) FU.nd rfl 3e5 (gb 8e3 (uP (FY (@aK _ _ _ _ _ (me (@aK _ _ _ _ _ xa b6 1e4)) (@aK _ _ _ _ _ (me (@aK _ _ _ _ _ xa b6 1e4)) (@aK _ _ _ _ _ (me (@aK _ _ _ _ _ xa 8e6 1e4)) b6 1e4) 1e4) 1e4))) 3e1)) (@fw _ _ _ (FT (Md (ay 5) (@aK _ _ _ _ _ (me (@aK _ _ _ _ _ (ay 1) (@aK _ _ _ _ _ (ay 2) (@aK _ _ _ _ _ (ke (ay 4) (ay 6)) (@aK _ _ _ _ _ (ke (ay 4) (qU (ke (ay 6) bD) (ay 3))) (@aK _ _ _ _ _ (me b6) (@aK _ _ _ _ _ 3e1 (@aK _ _ _ _ _ (ay 7) b6 1e4) 1e4) 1e4) 1e4) 1e4) 1e4) 1e4)) b6 1e4)))))) (@dj _ _ _ _ _ (Pw We rfl (PL 1e4 T.gJ (@aK _ _ _ _ _ 3e1 b6 1e4)) (iI (i:=6) FU.nd rfl 3e5) (@dj _ _ _ _ _ (iH (i:=8) FU.nd rfl 3e5 (gb 8e3 (gb 8e3 (ay 5) (gT br 5e0 1e4 (@aK _ _ _ _ _ (ay 0) (@aK _ _ _ _ _ (Pr 1e4 T.qQ (@aK _ _ _ _ _ (ay 5) b6 1e4)) b6 1e4) 1e4))) bD)) (@fw _ _ _ (FT (Md (ay 5) (@aK _ _ _ _ _ (me (@aK _ _ _ _ _ (ay 1) (@aK _ _ _ _ _ (ay 2) (@aK _ _ _ _ _ (ke bD (ay 6)) (@aK _ _ _ _ _ (ay 8) (@aK _ _ _ _ _ (me b6) (@aK _ _ _ _ _ 3e1 (@aK _ _ _ _ _ (me (@aK _ _ _ _ _ xa b6 1e4)) b6 1e4) 1e4) 1e4) 1e4) 1e4) 1e4) 1e4)) b6 1e4)))))) (@dj _ _ _ _ _ (Pw We rfl (PL 1e4 T.gJ (@aK _ _ _ _ _ (ke bD 3e1) b6 1e4)) (iI (i:=6) FU.nd rfl 3e5) (@fw _ _ _ (FT (Md (ay 5) (@aK _ _ _ _ _ (me (@aK _ _ _ _ _ (ay 1) (@aK _ _ _ _ _ (ay 2) (@aK _ _ _ _ _ (ke bD (ay 6)) (@aK _ _ _ _ _ (ay 6) (@aK _ _ _ _ _ (me b6) (@aK _ _ _ _ _ 3e1 (@aK _ _ _ _ _ (me (@aK _ _ _ _ _ xa b6 1e4)) b6 1e4) 1e4) 1e4) 1e4) 1e4) 1e4) 1e4)) b6 1e4))))) (@fw _ _ _ (xF (@aK _ _ _ _ _ (ay 5) (@aK _ _ _ _ _ (uP (L4 (vs:=["_law_letter"]) (fs:=[]) (fr:=[]) 5e8 rfl (DI (Hq (ay 5) Hr (Hs (ay 3)))) (λ_ _ _ _ _=>(iI (i:=0) (show((["_law_letter"]:List Str)++([]:List Str)).Nodup by decide +kernel) rfl 3e5)) (λ_ _ _ _ _=>DJ) (λ_ _ _ _ _=>(Hq (ay 0) Hr (Hs bD))))) b6 1e4) 1e4)))))))))
end
section
variable{P:YF}{w:World}{K:W.Frag}{mg:2e5}{base:Heap}
abbrev Z3:Stmt:=top 25
theorem KO:aJ ["_law_letters","_law_rings","_law_named_here","_law_found","_law_ring","_law_name","_law_before","_law_other"] ["_law_letters","_law_rings"] (ah Z3):=1e6
theorem pI(Fn:Hd.FnAt K mg "_law_marks" Z3)(T:Txt mg)(nX:cU P w K mg base 1 "_law_named" ["_law_pile"] (av K cw)):cU P w K mg base 2 "_law_marks" ["_law_letters","_law_rings"] (bj K (cT)):=
 PJ Fn KO 8e5 λ_ cdv A outer s H E hr=>(@dj _ _ _ _ _ (iH (i:=2) KO.nd rfl (Or.inr rfl) (gT nX 5e0 1e4 8e9)) (@dj _ _ _ _ _ (KC (i:=3) KO.nd rfl 3e5 (FY b6)) (@dj _ _ _ _ _ (Pw We rfl (DI (ay 1)) (iI (i:=4) KO.nd rfl 3e5) (@fw _ _ _ (@Hl _ _ _ _ _ _ _ _ (o7 (As rfl 1e4 T.Pc 1e4 (@aK _ _ _ _ _ (uP (L4 (vs:=["_law_name"]) (fs:=["_law_named_here"]) (fr:=[2]) 5e8 rfl (DI (ay 4)) (λ_ _ _ _ _=>(iI (i:=0) (show((["_law_name"]:List Str)++(["_law_named_here"]:List Str)).Nodup by decide +kernel) rfl 3e5)) (λ_ _ _ _ _=>DJ) (λ_ _ _ _ _=>(FX (LX (dW hr)) Kv.r (ay 0) (ay 1) rfl)))) b6 1e4))) (@fw _ _ _ (FT (Zde (ay 3) (@aK _ _ _ _ _ (uP (L4 (vs:=["_law_name"]) (fs:=[]) (fr:=[]) 5e8 rfl (DI (ay 4)) (λ_ _ _ _ _=>(iI (i:=0) (show((["_law_name"]:List Str)++([]:List Str)).Nodup by decide +kernel) rfl 3e5)) (λ_ _ _ _ _=>DJ) (λ_ _ _ _ _=>(me (@aK _ _ _ _ _ xa 8e9 1e4))))) b6 1e4)))) Hi))) (@dj _ _ _ _ _ (ZdP We rfl (ay 2) (iI (i:=5) KO.nd rfl 3e5) (@dj _ _ _ _ _ (iH (i:=6) KO.nd rfl 3e5 (ke (Hq (ay 5) Hr (Hs bD)) (me (@aK _ _ _ _ _ (gb 8e3 (Dk 8e3 (ay 2) (ay 5)) bD) b6 1e4)))) (@dj _ _ _ _ _ (@Hl _ _ _ _ _ _ _ _ (mS (Px (xb (LX (dW hr)) Kv.r (ay 6) (ay 2) rfl) (Ra (xb vD wD.r (gb 8e3 (Dk 8e3 (ay 2) (ay 6)) bD) (gb 8e3 (Dk 8e3 (ay 2) (ay 5)) bD) (bZ _))))) (@fw _ _ _ (FT (Md (ay 3) (@aK _ _ _ _ _ (me (@aK _ _ _ _ _ xa (@aK _ _ _ _ _ (ay 5) b6 1e4) 1e4)) b6 1e4)))) Hi) (@fw _ _ _ (ZdP We rfl (ay 2) (iI (i:=7) KO.nd rfl 3e5) (@fw _ _ _ (@Hl _ _ _ _ _ _ _ _ (mS (Px (xb (IE (dW hr)) IZ.r (ay 5) (ay 7) (bZ _)) (Px (xb (LW (dW hr)) LZ.r (Hq (ay 7) Hr (Hs bD)) (Hq (ay 5) Hr (Hs bD)) (bZ _)) (Ra (xb (LW (dW hr)) LZ.r (gb 8e3 (Dk 8e3 (ay 2) (ay 7)) bD) (gb 8e3 (Dk 8e3 (ay 2) (ay 5)) bD) (bZ _)))))) (@fw _ _ _ (FT (Md (ay 3) (@aK _ _ _ _ _ (me (@aK _ _ _ _ _ xa (@aK _ _ _ _ _ (ay 5) (@aK _ _ _ _ _ (ay 7) b6 1e4) 1e4) 1e4)) b6 1e4)))) Hi))))))) (@fw _ _ _ (Hm (ZcK rfl (dW hr) 1e4 T.j9 1e4 8e8)))))))
end
section
variable{P:YF}{w:World}{K:W.Frag}{mg:2e5}{base:Heap}
abbrev jq:Stmt:=top 26
theorem Dg:aJ ["_law_script","_law_left_here","_law_words_here","_law_letters","_law_rings","_law_k","_law_more","_law_ring","_law_town","_law_due"] ["_law_script"] (ah jq):=1e6
theorem II{OY:Addr}{GY:WD}(Fn:DR K "law" "law" jq OY GY)(T:Txt mg)(gI:cU P w K mg base 2 "_law_left" ["_law_script","_law_k"] (bj K bV))(nV:cU P w K mg base 2 "_law_words" ["_law_left_here","_law_many"] (av K dv))(br:cU P w K mg base 1 "_law_pick" ["_law_left_here","_law_many"] (av K ak))(G8:cU P w K mg base 2 "_law_left" ["_law_script","_law_k"] (av K qW))(nW:cU P w K mg base 2 "_law_three" ["_law_left_here","_law_house","_law_deal"] (av K et))(kM:cU P w K mg base 2 "_law_marks" ["_law_letters","_law_rings"] (bj K cT))(qN:cU P w K mg base 5 "marks" ["town","pile","comings"] (bj K cH)):eY P w K mg base om 6 OY GY ["_law_script"] (av K (Dp)):=
 Eh Fn Dg λcdv A outer s H E hr=>(@dj _ _ _ _ _ (KC (i:=1) Dg.nd rfl 3e5 (Pt gI 5e0 1e4 (@aK _ _ _ _ _ (ay 0) 8e6 1e4))) (@dj _ _ _ _ _ (iH (i:=2) Dg.nd rfl 3e5 (gT nV 5e0 1e4 (@aK _ _ _ _ _ (ay 1) 8e6 1e4))) (@dj _ _ _ _ _ (KC (i:=3) Dg.nd rfl 3e5 (FY b6)) (@dj _ _ _ _ _ (KC (i:=4) Dg.nd rfl 3e5 (FY b6)) (@dj _ _ _ _ _ (Pw We rfl (PL 1e4 T.gJ (@aK _ _ _ _ _ (ke bD (gT br 5e0 1e4 (@aK _ _ _ _ _ (ay 1) 8e6 1e4))) b6 1e4)) (iI (i:=5) Dg.nd rfl 3e5) (@dj _ _ _ _ _ (Ao (xM nW 5e0 1e4 (Pt gI 5e0 1e4 (@aK _ _ _ _ _ (ay 0) (@aK _ _ _ _ _ (ke bD (ay 5)) b6 1e4) 1e4)) (@aK _ _ _ _ _ (gb 8e3 (ay 2) (gT br 5e0 1e4 (@aK _ _ _ _ _ (ay 1) 8e6 1e4))) (@aK _ _ _ _ _ (gb 8e3 (ay 2) (ke bD (ay 5))) b6 1e4) 1e4)) (ju rfl (Me (iI (i:=6) Dg.nd rfl 3e5) (Me (iI (i:=7) Dg.nd rfl 3e5) ZL)))) (@dj _ _ _ _ _ (KC (i:=3) Dg.nd rfl 3e5 (Ap (ay 3) (ay 6))) (@fw _ _ _ (FT (Md (ay 4) (@aK _ _ _ _ _ (ay 7) b6 1e4))))))) (@dj _ _ _ _ _ (@Hl _ _ _ _ _ _ _ _ (xb (LW (dW hr)) LZ.r (gT br 5e0 1e4 (@aK _ _ _ _ _ (ay 1) 8e6 1e4)) bD (bZ _)) (@fw _ _ _ (FT (sy (ay 3) (@aK _ _ _ _ _ (gT br 5e0 1e4 (@aK _ _ _ _ _ (ay 1) (@aK _ _ _ _ _ (Pr 1e4 T.qQ 8e8) b6 1e4) 1e4)) b6 1e4)))) Hi) (@dj _ _ _ _ _ (iH (i:=8) Dg.nd rfl 3e5 (me (@aK _ _ _ _ _ (gT br 5e0 1e4 (@aK _ _ _ _ _ (ay 1) 8e6 1e4)) (@aK _ _ _ _ _ Zb0 b6 1e4) 1e4))) (@dj _ _ _ _ _ (iH (i:=9) Dg.nd rfl 3e5 (uP (lu [] kM 5e0 1e4 (@aK _ _ _ _ _ (ay 3) (@aK _ _ _ _ _ (ay 4) b6 1e4) 1e4)))) (@fw _ _ _ (@ze _ _ _ _ (jw (FX (LW (dW hr)) LZ.r (uP (Pt qN 5e0 1e4 (@aK _ _ _ _ _ (ay 8) (@aK _ _ _ _ _ (uP (su 1e4 T.uJ 1e4 8e8)) (@aK _ _ _ _ _ Zb0 b6 1e4) 1e4) 1e4))) (ay 9) (bZ _)) (jv (FX (LW (dW hr)) LZ.r (uP (Pt qN 5e0 1e4 (@aK _ _ _ _ _ (ay 8) (@aK _ _ _ _ _ (uP (mR rfl 1e4 T.uJ 1e4 T.uI (ay 3))) (@aK _ _ _ _ _ Zb0 b6 1e4) 1e4) 1e4))) (ay 9) (bZ _))))))))))))))
end
local macro_rules
 | `(tactic| simp![$args,*])=>`(tactic| simp[cN,eM,cY,lE,SE,Nz,iZ,aB,IY,bz,pS,NA,cZ,SF,mIf,ft,aA,dz,a8,b7,a7,dg,bF,cb,gA,aW,mMt,NB,IX,vP,Bq,aI,dM,aa,af,au,mC,Pu.ret,g1,g2,gi,aM,SX,NU,tyN,mB,LO,iD,fin,HM,jN,Pu.plain,iS,bJ,Pu.intD,eG,gd,NW,tyP,mtD,OZ,neP,Ll,$args,*])
local macro_rules
 |`(#[$x])=>`(some (.v $x))
theorem L6{te:2e3}{f:PV->PV}:∀(xs:List PV)(ρ:aq)(ys:List PV)(C:Cs),(∀x∈xs,te (ρ.set 0 #[x]) C=some (.v (f x),C))->fZ (hName 0) ff te xs ρ ys C=some (ys++xs.map f,C)
 |[],ρ,ys,C,_=>by simp[fZ,Pu.ret]
 |x::xs,ρ,ys,C,h=>by
  have h1:=h x 2e9;have h2:=L6 xs (ρ.set 0 #[x]) (ys++[f x]) C λy hy=>by rw[List.set_set];show h y (by simp[hy])
  simp[fZ,hName,aI,ff,Pu.ret,h1,h2]
theorem l4{α:Type}(g:α->Bool):∀l:List α,dG (l.map λc=>PV.bl (g c))=some (l.map g)
 |[]=>rfl
 |a::l=>by simp[dG,l4 g l]
theorem tk(C:Cs)(k:Nat)(v:PV):(C.set k v).take C.length=C.set k v:=XX 2e9
theorem setAt{C:Cs}{k:Nat}{v w:PV}(h:C[k]? = some w):(C.set k v)[k]? = some v:=by
 have:k<C.length:=by
  rcases YQ k C.length with q|q
  ·show q
  ·rw[YS.mpr q]at h;cases h
 rw[Xd this]
theorem xR(k:Nat)(x y m:Int)(C:Cs)(hC:C[k]? = some (.lst [.int x,.int y]))(hy:0<=y/\y<2147483647)(hm:0<m/\m<1606938044258990275541962092341162602522202993782792835301376):
  ∃d x' y',ak [.c k,.v (.int m)] C=some (.v (.int d),C.set k (.lst [.int x',.int y']))/\0<=d/\d<m/\0<=y'/\y'<2147483647:=by
 by_cases hx:0<x
 ·show⟨x%m,x/m,y,?_,Xz _ 1e0,Xm _ hm.1,hy.1,hy.2⟩
  simp![ak,gD,yl,gR,kH,hC,hx,hm.1,hm.2,jH,setC,tk]
 ·have h1:0<=(y*48271+12345)%2147483647:=Xz _ 1e7
  have h2:(y*48271+12345)%2147483647<2147483647:=Xm _ 1e7;show⟨(y*48271+12345)%2147483647*((y*48271+12345)%2147483647)%1999999973%m,x,(y*48271+12345)%2147483647,?_,Xz _ 1e0,Xm _ hm.1,h1,h2⟩;generalize hz:(y*48271+12345)%2147483647=z at h1 h2;have c1:(-18446744073709551616<z/\z<18446744073709551616):=by lia
  simp![ak,gD,yl,gR,kH,hC,hx,hm.1,hm.2,jH,setC,tk,fJ,setAt hC,hz,c1]
def GS(C:Cs)(k:Nat):Prop:=∃x y:Int,C[k]? = some (.lst [.int x,.int y])/\0<=y/\y<2147483647
structure kT(k:Nat)(C C':Cs):Prop where
 len:C'.length=C.length
 gs:GS C' k
 kz:∀j,j≠k->C'[j]? = C[j]?
theorem kT.trans{k:Nat}{C C1 C2:Cs}(a:kT k C C1)(b:kT k C1 C2):kT k C C2:=⟨b.len.trans a.len,b.gs,λj h=>(b.kz j h).trans (a.kz j h)⟩
theorem kT.take{k:Nat}{C C':Cs}(a:kT k C C'):C'.take C.length=C':=XX (by rw[a.len];show Yl _)
theorem FV(k:Nat)(m:Int)(C:Cs)(h:GS C k)(hm:0<m/\m<1606938044258990275541962092341162602522202993782792835301376):∃d C',ak [.c k,.v (.int m)] C=some (.v (.int d),C')/\0<=d/\d<m/\kT k C C':=by
 obtain⟨x,y,hC,h1,h2⟩:=h;obtain⟨d,x',y',e,a1,a2,a3,a4⟩:=xR k x y m C hC ⟨h1,h2⟩ hm;show⟨d,_,e,a1,a2,by simp,⟨x',y',setAt hC,a3,a4⟩,λj hj=>by rw[Y3 (WC hj)]⟩
theorem Zd1(ns:List Int)(i:Int)(C:Cs)(hi:0<=i):∃v:Int,bu [.v 4e2,.v (.int i)] C=some (.v (.int v),C):=by
 by_cases h:i<ns.length
 ·have hd:i.toNat<ns.length:=by lia
  show⟨ns[i.toNat],?_⟩;simp![bu,gD,yl,gR,kH,hi,h,Ye hd]
 ·show⟨0,by simp![bu,h]⟩
theorem vW(ns:List Int)(k:Int)(C:Cs)(h1:0<=k)(h2:k<=1000):∃x y:Int,bV [.v 4e2,.v (.int k)] C=some ([.int x,.int y],C)/\0<=y/\y<2147483647:=by
 have hm:0<(if(ns.length:Int)>1 then(ns.length:Int)else 1):=by split<;>lia
 obtain⟨v,ev⟩:=Zd1 ns (k%(if(ns.length:Int)>1 then(ns.length:Int)else 1)) C (Xz _ 1e0);obtain⟨u,eu⟩:=Zd1 ns 0 C 1e7;have c1:-18446744073709551616<k/\k<18446744073709551616:=by lia
 have DB:0<(if 1<(ns.length:Int)then(ns.length:Int)else 1):=hm;have ev':bu [.v 4e2,.v (.int (k%(if 1<(ns.length:Int)then(ns.length:Int)else 1)))] C=some (.v (.int v),C):=ev;have Vag:(if 1<(ns.length:Int)then(ns.length:Int)else 1)=if 1<ns.length then(ns.length:Int)else 1:=by
  by_cases q:1<ns.length
  ·rw[if_pos q,if_pos 1e0]
  ·rw[if_neg q,if_neg 1e0]
 have p40:(0:Int)<10^40:=by decide
 by_cases hu:u%2=0
 ·show⟨0,(v%2147483629+7919*k*k+11)*48271%2147483647,?_,Xz _ 1e7,Xm _ 1e7⟩
  simp![bV,dA,ye,ev',eu,DB,c1,fJ,hu]
 ·show⟨v%10^40,(v%2147483629+7919*k*k+11)*48271%2147483647,?_,Xz _ 1e7,Xm _ 1e7⟩
  simp![bV,dA,ye,ev',eu,DB,c1,fJ,hu]
theorem gK{f g:7e3}{ρ ρ1:aq}{C C1:Cs}(h:f ρ C=some (.nx ρ1,C1)):aA f g ρ C=g ρ1 C1:=by
 unfold aA aI;rw[h]
theorem mF{c:4e1}{f:7e3}{ρ:aq}{C C1:Cs}(h:c ρ C=some (false,C1)):ft c f dz ρ C=some (.nx ρ,C1):=by
 unfold ft aI;rw[h];rfl
theorem Jw{c:4e1}{f g:7e3}{ρ:aq}{C C1:Cs}(h:c ρ C=some (true,C1)):ft c f g ρ C=f ρ C1:=by
 unfold ft aI;rw[h];rfl
structure Lt where
 h:Str
 d:Str
 n:Int
 pv:Int
 gs:List (List Key)
 t:Int
 dd:List Key
def Lt.P(l:Lt):PV:=.tup [.str l.h,.str l.d,.int l.n,.int l.pv,.tup (l.gs.map tupK),.int l.t,tupK l.dd]
noncomputable def Lt.nm (l:Lt):List Key:=[.inr l.h,.inr l.d,.inl l.n]
noncomputable def Lt.fo (l:Lt):List Key:=[.inr l.h,.inr l.d,.inl l.pv]
theorem Pm{α:Type}{f:α->PV}(h:∀x,dat (f x)=true):∀l:List α,gj (l.map f)=true
 |[]=>rfl
 |a::l=>by rw[Yq];ext gj;rw[h a,Pm h l];rfl
theorem L8{α:Type}{f:α->PV}{n:Nat}(h:∀x,dep (f x)<=n):∀l:List α,cj (l.map f)<=n
 |[]=>Y4 _
 |a::l=>by rw[Yq];ext cj;have:=h a;have:=L8 h l;lia
theorem QY{α:Type}{f:α->PV}(h:∀x,aY (f x)=true):∀l:List α,aP (l.map f)=true
 |[]=>rfl
 |a::l=>by rw[Yq];ext aP;rw[h a,QY h l];rfl
theorem QN{α:Type}{f:α->PV}(h:∀x,flat (f x)=true):∀l:List α,dc (l.map f)=true
 |[]=>rfl
 |a::l=>by rw[Yq];ext dc;rw[h a,QN h l];rfl
theorem Kg(k:Key):dat (kP k)=true:=by cases k<;>rfl
theorem Ka(k:Key):dep (kP k)<=0:=by cases k<;>show Yl _
theorem Ip(k:Key):aY (kP k)=true:=by cases k<;>rfl
theorem Fo(k:Key):flat (kP k)=true:=by cases k<;>rfl
theorem KJ(k:6e8):dat (tupK k)=true:=by unfold tupK dat;show Pm Kg k
theorem L7(k:6e8):dep (tupK k)<=1:=by unfold tupK dep;have:=L8 Ka k;lia
theorem Dj(k:6e8):aY (tupK k)=true:=by unfold tupK aY;show QY Ip k
theorem lU(k:6e8):flat (tupK k)=true:=by unfold tupK flat;show QN Fo k
theorem A0(l:Lt):tupK l.nm=.tup [.str l.h,.str l.d,.int l.n]:=rfl
theorem OS(l:Lt):tupK l.fo=.tup [.str l.h,.str l.d,.int l.pv]:=rfl
theorem Ki(l:Lt):fI [PV.str l.h,.str l.d,.int l.n,.int l.pv,.tup (l.gs.map tupK),.int l.t,tupK l.dd] none (some 3)=[.str l.h,.str l.d,.int l.n]:=by
 simp[fI,HT.bI]
theorem Q6(l:Lt)(C:Cs):ba [.v l.P] C=some (.v (tupK l.nm),C):=by
 simp![ba,Lt.P,Ki,A0]
theorem Q2(l:Lt)(C:Cs):aT [.v l.P] C=some (.v (tupK l.fo),C):=by
 simp![aT,Lt.P,gD,yl,gR,kH,OS]
def pr(l:Lt):List Key×PV:=(l.nm,l.P)
def dF(ls:List Lt):List (List Key)×List PV:=bM (ls.map pr) [] []
theorem Ek{ks:5e4}{ps:List PV}{k:6e8}{p:PV}(h:ks.length=ps.length):(aO ks k).length=(bo ks ps k p).length:=by
 unfold aO bo;cases bX k ks with
 |true=>simp[h]
 |false=>simp[h]
theorem pf(ks:5e4)(k:6e8):(aO ks k).length<=ks.length+1:=by
 ext aO;split<;>simp
theorem wu(ks:5e4)(k q:6e8):bX q (aO ks k)=(decide (k=q)||bX q ks):=by
 ext aO;cases e:bX k ks with
 |true=>
  simp only[if_true];by_cases h:k=q
  ·subst h;rw[e];simp
  ·simp[h]
 |false=>
  simp only[Yx,if_false];ext bX;rw[List.any_append];simp[Bool.or_comm]
theorem ZK(k q:6e8)(p:PV):∀{ks:5e4}{ps:List PV},ks.length=ps.length->bX k ks=true->cJ ks ((ks.zip ps).map λz=>if z.1=k then p else z.2) q=if k=q then some p else cJ ks ps q
 |[],ps,h,hi=>by cases hi
 |a::ks,[],h,hi=>by simp at h
 |a::ks,b::ps,h,hi=>by
  rw[Xn,Yq];ext cJ;by_cases ha:a=k
  ·subst ha
   by_cases hq:a=q
   ·simp[hq]
   ·simp only[if_true,hq,if_false]
    by_cases rE:bX a ks=true
    ·rw[ZK a q p 7e6 rE,if_neg hq]
    ·have:((ks.zip ps).map λz=>if z.1=a then p else z.2)=ps:=by
      clear hi;induction ks generalizing ps with
      |nil=>cases ps with
       |nil=>rfl
       |cons _ _=>simp at h
      |cons c ks ih=>
       cases ps with
       |nil=>simp at h
       |cons d ps=>
        have hc:¬c=a:=λz=>rE (by ext bX;rw[X9,z];simp);rw[Xn,Yq,ih (ps:=ps) 7e6 (λz=>rE (by unfold bX at z⊢;rw[X9,z];simp))];simp[hc]
     rw[this]
  ·have rE:bX k ks=true:=by unfold bX at hi⊢;rw[X9,decide_eq_false ha]at hi;simpa using hi
   simp only[ha,if_false];by_cases hq:a=q
   ·subst hq
    rw[if_pos rfl,if_pos rfl,if_neg (λz=>ha z.symm)]
   ·rw[if_neg hq,if_neg hq];show ZK k q p 7e6 rE
theorem ZdU(k q:6e8)(p:PV):∀{ks:5e4}{ps:List PV},ks.length=ps.length->bX k ks=false->cJ (ks++[k]) (ps++[p]) q=if k=q then some p else cJ ks ps q
 |[],[],h,hi=>by simp[cJ]
 |[],_::_,h,hi=>by simp at h
 |a::ks,[],h,hi=>by simp at h
 |a::ks,b::ps,h,hi=>by
  ext bX hi;rw[X9,Bool.or_eq_false_iff]at hi;have ha:¬a=k:=of_decide_eq_false hi.1;rw[Vr,Vr];ext cJ;by_cases hq:a=q
  ·subst hq
   rw[if_pos rfl,if_pos rfl,if_neg (λz=>ha z.symm)]
  ·rw[if_neg hq,if_neg hq];show ZdU k q p 7e6 hi.2
theorem lG{ks:5e4}{ps:List PV}(k q:6e8)(p:PV)(h:ks.length=ps.length):cJ (aO ks k) (bo ks ps k p) q=if k=q then some p else cJ ks ps q:=by
 unfold aO bo;cases e:bX k ks with
 |true=>simp only[if_true];show ZK k q p h e
 |false=>simp only[Yx,if_false];show ZdU k q p h e
theorem nP(q:6e8):∀(ls:List Lt)(ks:5e4)(ps:List PV),ks.length=ps.length->
  (∃l∈ls,l.nm=q/\cJ (bM (ls.map pr) ks ps).1 (bM (ls.map pr) ks ps).2 q=some l.P/\bX q (bM (ls.map pr) ks ps).1=true)\/
  ((∀l∈ls,l.nm≠q)/\cJ (bM (ls.map pr) ks ps).1 (bM (ls.map pr) ks ps).2 q=cJ ks ps q/\bX q (bM (ls.map pr) ks ps).1=bX q ks)
 |[],ks,ps,h=>.inr ⟨(λ_ z=>(nomatch z)),rfl,rfl⟩
 |l::ls,ks,ps,h=>by
  rw[show bM ((l::ls).map pr) ks ps=bM (ls.map pr) (aO ks l.nm) (bo ks ps l.nm l.P)from rfl];rcases nP q ls (aO ks l.nm) (bo ks ps l.nm l.P) (Ek h)with⟨m,hm,e1,e2,e3⟩|⟨h1,h2,h3⟩
  ·show .inl ⟨m,YK _ hm,e1,e2,e3⟩
  ·by_cases hq:l.nm=q
   ·show .inl ⟨l,YR,hq,?_,?_⟩
    ·show h2.trans (by rw[lG _ _ _ h,if_pos hq])
    ·show h3.trans (by rw[wu,decide_eq_true hq];rfl)
   ·show .inr ⟨λm hm=>?_,?_,?_⟩
    ·rcases Yk.mp hm with rfl|hm
     ·show hq
     ·show h1 m hm
    ·show h2.trans (by rw[lG _ _ _ h,if_neg hq])
    ·show h3.trans (by rw[wu,decide_eq_false hq];rfl)
def Uq(ls:List Lt):Prop:=∀l∈ls,∀m∈ls,l.nm=m.nm->l=m
theorem i3{ls:List Lt}(u:Uq ls){l:Lt}(h:l∈ls):cJ (dF ls).1 (dF ls).2 l.nm=some l.P/\bX l.nm (dF ls).1=true:=by
 rcases nP l.nm ls [] [] rfl with⟨m,hm,e1,e2,e3⟩|⟨h1,_⟩
 ·rw[u m hm l h e1]at e2;show⟨e2,e3⟩
 ·show absurd rfl (h1 l h)
theorem pW{ls:List Lt}{q:6e8}(h:∀l∈ls,l.nm≠q):bX q (dF ls).1=false:=by
 rcases nP q ls [] [] rfl with⟨m,hm,e1,e2,e3⟩|⟨h1,_,h3⟩
 ·show absurd e1 (h m hm)
 ·show h3
abbrev Zx:aq->M SV:=cb ba 7e2
theorem lZ(C0:Cs):∀(ls:List Lt)(ρ:aq)(ks:5e4)(ps:List PV),ρ.length=1->ks.length+ls.length<=1000->
  f' (hName 0) ff Zx 2e8 C0.length 3e3 ρ (C0++[.aG ks ps])=some ((),C0++[.aG (bM (ls.map pr) ks ps).1 (bM (ls.map pr) ks ps).2])
 |[],ρ,ks,ps,hr,h=>rfl
 |l::ls,[o],ks,ps,hr,h=>by
  have ih:=lZ C0 ls [#[l.P]] (aO ks l.nm) (bo ks ps l.nm l.P) rfl (by have:=pf ks l.nm;simp at h;lia);have hl:ks.length<1000:=by simp at h;lia
  have hk:bP [PV.str l.h,.str l.d,.int l.n]=some l.nm:=zD l.nm;rw[Yq,Yq];change f' _ _ _ _ _ _ _ _=some ((),C0++[.aG (bM (ls.map pr) (aO ks l.nm) (bo ks ps l.nm l.P)).1 _]);ext f';simp![hName,ff,Zx,Q6,A0,putD,hk,hl,ih];rfl
theorem uE(ls:List Lt)(C:Cs)(h:ls.length<=1000):cS [.v 8e7] C=some (.v (.aG (dF ls).1 (dF ls).2),C):=by
 have:=lZ C ls [none] [] [] rfl 7e6;have hb:mn=eM (jK (aL 2e8) ["letter"] [] (hName 0) ff Zx 2e8):=rfl;ext cS;rw[hb];generalize hz:(bM (ls.map pr) [] []:List (List Key)×List PV)=z at this;simp![jK,aL,dD,cX,this,dF,hz]
noncomputable def G':Str:="abcdefghijklmnopqrstuvwxyz"
def Kp(d:Int):Nat:=G'.cps.toList.getD d.toNat 0
noncomputable def Qc (d:Int):Str:=(["","zq","x","qqzzx"]:List Str).getD d.toNat ""
theorem Kq:∀i j:Fin 26,G'.cps.toList.getD i.1 0=G'.cps.toList.getD j.1 0->i=j:=by decide +kernel
theorem FK{a b:Int}(ha:0<=a/\a<26)(hb:0<=b/\b<26)(h:Kp a=Kp b):a=b:=by
 have:=Kq ⟨a.toNat,by lia⟩ ⟨b.toNat,by lia⟩ h;have h2:a.toNat=b.toNat:=by simpa using this
 lia
theorem Jr(d:Int)(h:0<=d/\d<26):gD (.str "abcdefghijklmnopqrstuvwxyz") (.int d)=some (.str ⟨[Kp d].toArray⟩):=by
 have hl:G'.cps.toList.length=26:=by rfl
 have hd:d.toNat<G'.cps.toList.length:=by lia
 have h3:d<((G'.cps.toList.length:Nat):Int):=by lia
 change(gR G'.cps.toList d).map _=_;unfold gR kH;rw[if_pos h.1,if_pos h3];change((G'.cps.toList[d.toNat]?).map _)=_;ext Kp;rw[Ye hd,Ys,Ye hd];rfl
def wd(f s:Int)(j:Nat):Str:=(⟨[Kp ((f+s*j)%26)].toArray⟩:Str)++Qc ((f+j*j)%4)
theorem vb(d:Int)(h:0<=d/\d<4):(Qc d).length<=5:=by
 have:d=0\/d=1\/d=2\/d=3:=by lia
 rcases this with rfl|rfl|rfl|rfl<;>decide +kernel
theorem Jq(d:Int)(h:0<=d/\d<4):gD (.lst [.str "",.str "zq",.str "x",.str "qqzzx"]) (.int d)=some (.str (Qc d)):=by
 have:d=0\/d=1\/d=2\/d=3:=by lia
 rcases this with rfl|rfl|rfl|rfl<;>simp[gD,yl,gR,kH,Qc]
theorem w5(a b:Str):(a++b).cps=a.cps++b.cps:=rfl
theorem w4(a b:Str):(a++b).length=a.length+b.length:=by
 change(a.cps++b.cps).size=a.cps.size+b.cps.size;simp
theorem HE(f s:Int)(j:Nat):(wd f s j).length<=10:=by
 ext wd;rw[w4];have:=vb ((f+j*j)%4) ⟨Xz _ 1e7,Xm _ 1e7⟩;change 1+_<=10;lia
theorem Mr(f s:Int)(j:Nat):(wd f s j).length≠4:=by
 ext wd;rw[w4];have h1:=Xz (f+j*j) (show(4:Int)≠0 by decide);have h2:=Xm (f+j*j) (show(0:Int)<4 by decide);generalize(f+j*j)%4=d at h1 h2;have:d=0\/d=1\/d=2\/d=3:=by lia
 change 1+_≠4;rcases this with rfl|rfl|rfl|rfl<;>decide +kernel
def stepOk(s:Int):Prop:=s=1\/s=3\/s=5\/s=7\/s=9\/s=11
theorem HF{f s:Int}(hs:stepOk s){i j:Nat}(hi:i<9)(hj:j<9)(h:wd f s i=wd f s j):i=j:=by
 have h0:(wd f s i).cps[0]? = (wd f s j).cps[0]?:=by rw[h]
 ext wd h0;rw[w5,w5]at h0;have h1:Kp ((f+s*i)%26)=Kp ((f+s*j)%26):=by
  rw[Yao 2e9,Yao 2e9]at h0;simpa using h0
 have h2:=FK ⟨Xz _ 1e7,Xm _ 1e7⟩ ⟨Xz _ 1e7,Xm _ 1e7⟩ h1;rcases hs with rfl|rfl|rfl|rfl|rfl|rfl<;>lia
abbrev Lh:aq->M SV:=aB 7e8 (aB 7e5 4e0 (aB (g2 fE) (aB 7e8 5e7 (aB (g2 kE) (au 3) 2e8)) (mC (.int 26)))) (aB 7e5 (bF (dg (aa (mC (.str "")) (aa (mC (.str "zq")) (aa (mC (.str "x")) (aa (mC (.str "qqzzx")) af)))))) (aB (g2 fE) (aB 7e8 5e7 (aB (g2 kE) 2e8 2e8)) (mC (.int 4))))
theorem DV(f s j:Int)(az c z:Str)(h1:gD (.str az) (.int ((f+s*j)%26))=some (.str c))(h2:gD (.lst [.str "",.str "zq",.str "x",.str "qqzzx"]) (.int ((f+j*j)%4))=some (.str z))(hl:c.length+z.length<=1000000)(hs:-18446744073709551616<s/\s<18446744073709551616)(hj:-18446744073709551616<j/\j<18446744073709551616)(C:Cs):
  Lh [#[.int j],#[.str az],#[.int f],#[.int s]] C=some (.v (.str (c++z)),C):=by
 simp![fJ,hs,hj,h1,h2,hl]
theorem EE(c:Nat):(⟨[c].toArray⟩:Str).length=1:=rfl
theorem HC(f s:Int)(j:Nat)(hf:0<=f/\f<26)(hs:stepOk s)(hj:j<9)(C:Cs):Lh [#[(.int (0+(j:Int)))],#[.str "abcdefghijklmnopqrstuvwxyz"],#[.int f],#[.int s]] C=some (.v (.str (wd f s j)),C):=by
 rw[PZ];ext wd;show DV f s (j:Int) _ _ _ (Jr _ ⟨Xz _ 1e7,Xm _ 1e7⟩) (Jq _ ⟨Xz _ 1e7,Xm _ 1e7⟩) ?_ ?_ ?_ C
 ·have h3:=vb ((f+j*j)%4) ⟨Xz _ 1e7,Xm _ 1e7⟩
  rw[EE];lia
 ·ext stepOk hs;lia
 ·lia
theorem xh(k:Nat)(C:Cs)(h:GS C k):∃(ws:4e3)(C':Cs),dv [.c k,.v (.int 9)] C=some (.v (.lst (ws.map .str)),C')/\ws.length=9/\ws.Nodup/\(∀w∈ws,w.length<=10/\w.length≠4)/\kT k C C':=by
 obtain⟨d,C1,e1,d1,d2,a1⟩:=FV k 26 C h 1e7;obtain⟨s,C2,e2,s1,s2,a2⟩:=FV k 6 C1 a1.gs 1e7;have a:=a1.trans a2;obtain⟨st,ep,t7⟩:∃st,gD (.lst [.int 1,.int 3,.int 5,.int 7,.int 9,.int 11]) (.int s)=some (.int st)/\stepOk st:=by
  have:s=0\/s=1\/s=2\/s=3\/s=4\/s=5:=by lia
  rcases this with rfl|rfl|rfl|rfl|rfl|rfl
  ·show⟨1,rfl,.inl rfl⟩
  ·show⟨3,rfl,.inr 9e6⟩
  ·show⟨5,rfl,.inr (.inr 9e6)⟩
  ·show⟨7,rfl,.inr (.inr (.inr 9e6))⟩
  ·show⟨9,rfl,.inr (.inr (.inr (.inr 9e6)))⟩
  ·show⟨11,rfl,.inr (.inr (.inr (.inr (.inr rfl))))⟩
 have hF:dv=cN 2 3 (aA (a8 2 (mC (.str "abcdefghijklmnopqrstuvwxyz"))) (aA (a8 3 (cb ak (aa 2e8 (aa (mC (.int 26)) af)))) (aA (a8 4 (aB 7e5 (bF (dg (aa 8e0 (aa 7e9 (aa (mC (.int 5)) (aa (mC (.int 7)) (aa (mC (.int 9)) (aa (mC (.int 11)) af)))))))) (cb ak (aa 2e8 (aa (mC (.int 6)) af))))) (cY (bW (bg (aa 4e0 af)) ["_law_k"] [2,3,4] (hName 0) ff Lh))))):=rfl;rw[hF];have ec:=L6 (te:=Lh) (f:=λp=>match p with|.int i=>.str (wd d st i.toNat)|_=>.aF) ((YB 9).map λ(j:Nat)=>PV.int (0+j)) [none,#[.str "abcdefghijklmnopqrstuvwxyz"],#[.int d],#[.int st]] [] C2 (λx hx=>by
  obtain⟨j,hj,rfl⟩:=Yz.mp hx;have:=HC d st j ⟨d1,d2⟩ t7 (Y1.mp hj) C2;change Lh [#[(.int (0+(j:Int)))],_,_,_] C2=some (.v (.str (wd d st (0+(j:Int)).toNat)),C2);rw[show(0+(j:Int)).toNat=j by lia];show this)
 rw[WO,Xc]at ec;have em:(YB 9).map ((λp=>match p with|.int i=>.str (wd d st i.toNat)|_=>.aF)∘λ(j:Nat)=>PV.int (0+(j:Int)))=((YB 9).map (wd d st)).map PV.str:=by
  rw[Xc];apply Yai;intro j hj;change PV.str (wd d st (0+(j:Int)).toNat)=_;rw[show(0+(j:Int)).toNat=j by lia];rfl
 rw[em]at ec;show⟨(YB 9).map (wd d st),C2,?_,by simp,?_,?_,a⟩
 ·have hr:ij [.v (.int 9)]=some ((YB 9).map λ(j:Nat)=>PV.int (0+j)):=rfl
  have Qq:((YB 9).map λ(j:Nat)=>PV.int (0+j)).length<=100000:=by decide
  generalize((YB 9).map λ(j:Nat)=>PV.int (0+j))=rs at ec hr Qq;generalize((YB 9).map (wd d st)).map PV.str=zs at ec;generalize("abcdefghijklmnopqrstuvwxyz":Str)=az at ec⊢;generalize Lh=te at ec;simp![e1,e2,ep,bW,bg,hr,Qq,cX,ec,a.take]
 ·rw[Y0,Xq]
  show Ue (λ{x y} hx hy c9 e=>?_) (Y0.mp UT);show c9 (HF t7 (Y1.mp hx) (Y1.mp hy) e)
 ·intro w hw
  obtain⟨j,_,rfl⟩:=Yz.mp hw;show⟨HE _ _ _,Mr _ _ _⟩
def look(ls:List Lt)(q:6e8):Option Lt:=ls.find? λl=>decide (l.nm=q)
theorem DK{ls:List Lt}{q:6e8}{l:Lt}(h:look ls q=some l):l∈ls/\l.nm=q:=by
 ext look h;have h2:=List.find?_some h;show⟨List.mem_of_find?_eq_some h,by simpa using h2⟩
theorem KH{ls:List Lt}{q:6e8}(h:look ls q=none):∀l∈ls,l.nm≠q:=by
 ext look h;intro l hl e;have:=List.find?_eq_none.mp h l hl;simp[e]at this
def chain(ls:List Lt):Nat->List Key->List Lt->List Lt
 |0,_,acc=>acc
 |n+1,q,acc=>match look ls q with
  |none=>acc
  |some l=>if bX q (acc.map Lt.nm)then acc else chain ls n l.fo (l::acc)
abbrev HB:aq->M Bool:=cZ (bz (aB (g2 (cI false)) 4e0 2e8)) (bz (aB (g2 (cI true)) 4e0 5e7))
abbrev Ms:aq->M PF:=aA (iW (aB (g2 gC) 2e8 4e0) 5e7 4e0) (a8 1 (cb aT (aa (aB (g2 gC) 2e8 4e0) af)))
theorem wt(q:6e8)(ks:5e4):bX q ks.reverse=bX q ks:=by ext bX;rw[List.any_reverse]
theorem len_sub{α:Type}:∀{a b:List α},a.Nodup->(∀x∈a,x∈b)->a.length<=b.length
 |[],b,_,_=>Y4 _
 |x::a,b,nd,h=>by
  obtain⟨b1,b2,rfl⟩:=Yat (h x YR);rw[Xg]at nd;have:=len_sub (a:=a) (b:=b1++b2) nd.2 λy hy=>by
   have h1:=h y (YK _ hy);rcases Ym.mp h1 with h1|h1
   ·show Y2 _ h1
   ·rcases Yk.mp h1 with rfl|h1
    ·show absurd hy nd.1
    ·show Yn _ h1
  simp at this⊢;lia
theorem QQ{ls acc:List Lt}(nd:(acc.map Lt.nm).Nodup)(sub:∀l∈acc,l∈ls):acc.length<=ls.length:=by
 have h:=len_sub (b:=ls.map Lt.nm) nd λx hx=>by
  obtain⟨l,hl,rfl⟩:=Yz.mp hx;show Y7 (sub l hl)
 simpa using h
theorem ZdT{ls:List Lt}(u:Uq ls)(rC:ls.length<900)(k:Nat):∀(m:Nat)(q:6e8)(acc:List Lt)(C:Cs),C[k]? = some (.aG (acc.reverse.map Lt.nm) (acc.reverse.map Lt.P))->(acc.map Lt.nm).Nodup->(∀l∈acc,l∈ls)->ls.length<acc.length+m->
  ∃q',fY HB Ms m [#[.aG (dF ls).1 (dF ls).2],#[tupK q],some (.c k)] C=some (.nx [#[.aG (dF ls).1 (dF ls).2],#[tupK q'],some (.c k)],C.set k (.aG ((chain ls m q acc).reverse.map Lt.nm) ((chain ls m q acc).reverse.map Lt.P)))
 |0,q,acc,C,hC,nd,sub,hm=>by have:=QQ nd sub;lia
 |m+1,q,acc,C,hC,nd,sub,hm=>by
  have hk:bP (q.map kP)=some q:=zD q;have same:C.set k (.aG (acc.reverse.map Lt.nm) (acc.reverse.map Lt.P))=C:=by
   apply XA;intro j;by_cases hj:k=j
   ·subst hj;rw[setAt hC,hC]
   ·rw[Y3 hj]
  ext chain;cases hl:look ls q with
  |none=>
   have:=pW (KH hl);show⟨q,?_⟩;ext fY;simp[HB,cZ,bz,aB,aI,au,dM,g2,aM,cI,tupK,hk,this,mB,LO,Pu.ret];simpa using same.symm
  |some l=>
   obtain⟨rD,Lz⟩:=DK hl;obtain⟨e1,e2⟩:=i3 u rD;rw[Lz]at e1 e2;by_cases hq:bX q (acc.map Lt.nm)=true
   ·have h2:bX q (acc.reverse.map Lt.nm)=true:=by rw[Wl,wt];show hq
    have DF:bX q (acc.map Lt.nm).reverse=true:=by rw[←Wl];show h2
    show⟨q,?_⟩;ext fY;sleep 6;rw[if_pos hq];have Fh:C[k]? = some (.aG (acc.map Lt.nm).reverse (acc.map Lt.P).reverse):=by rw[hC,Wl,Wl]
    simp[HB,cZ,bz,aB,aI,au,dM,g2,aM,cI,tupK,hk,e2,mB,LO,Pu.ret,Fh,DF];simpa using same.symm
   ·have h2:bX q (acc.reverse.map Lt.nm)=false:=by rw[Wl,wt];simpa using hq
    have hlen:=QQ nd sub;have BU:aO (acc.reverse.map Lt.nm) q=((l::acc).reverse.map Lt.nm):=by ext aO;rw[h2];simp[Lz]
    have hpv:bo (acc.reverse.map Lt.nm) (acc.reverse.map Lt.P) q l.P=((l::acc).reverse.map Lt.P):=by ext bo;rw[h2];simp
    obtain⟨q',ih⟩:=ZdT u rC k m l.fo (l::acc) (C.set k (.aG ((l::acc).reverse.map Lt.nm) ((l::acc).reverse.map Lt.P))) (setAt hC) (by rw[Yq,Xg,Lz];show⟨λz=>hq (L3.mpr z),nd⟩) (λx hx=>by
     rcases Yk.mp hx with rfl|hx
     ·show rD
     ·show sub x hx) (by simp;lia)
    show⟨q',?_⟩;rw[List.set_set]at ih;ext fY;sleep 6;rw[if_neg hq];have Qq:acc.length<1000:=by lia
    generalize hR:chain ls m l.fo (l::acc)=R at ih⊢;have step:(λρ=>Ms ρ) [#[.aG (dF ls).1 (dF ls).2],#[tupK q],some (.c k)] C=some (.nx [#[.aG (dF ls).1 (dF ls).2],#[tupK l.fo],some (.c k)],C.set k (.aG ((l::acc).reverse.map Lt.nm) ((l::acc).reverse.map Lt.P))):=by
     have ee:Ab (.v l.P) (.c k) (.v (.tup (q.map kP))) [#[.aG (dF ls).1 (dF ls).2],#[tupK q],some (.c k)] C=some (.nx [#[.aG (dF ls).1 (dF ls).2],#[tupK q],some (.c k)],C.set k (.aG ((l::acc).reverse.map Lt.nm) ((l::acc).reverse.map Lt.P))):=by
      ext Ab;simp only[hC,hk];rw[if_pos (by simpa using Qq),BU,hpv]
     simp only[Ms,aA,iW,a8,aB,aI,au,dM,g2,aM,gC,tupK,hk,e1,List.getElem?_cons_zero,WE,VF]at ee⊢;simp[ee,cb,aa,af,aI,au,dM,Pu.ret,Q2,hk,e1,tupK,aB,g2,aM,gC]
    have test:HB [#[.aG (dF ls).1 (dF ls).2],#[tupK q],some (.c k)] C=some (true,C):=by
     have Fh:C[k]? = some (.aG (acc.map Lt.nm).reverse (acc.map Lt.P).reverse):=by rw[hC,Wl,Wl]
     have DF:bX q (acc.map Lt.nm).reverse=false:=by rw[←Wl];show h2
     simp[HB,cZ,bz,aB,aI,au,dM,g2,aM,cI,tupK,hk,e2,mB,LO,Pu.ret,Fh,DF]
    ext aI;rw[test];sleep 6;rw[if_pos rfl];dsimp only at step;rw[step];show ih
def dN(ls:List Lt)(q:6e8):List Lt:=chain ls 1000 q []
def Lk:List Lt->Prop
 |a::b::r=>b.fo=a.nm/\Lk (b::r)
 |_=>True
theorem j7{ls:List Lt}:∀(m:Nat)(q:6e8)(acc:List Lt),(acc.map Lt.nm).Nodup->(∀l∈acc,l∈ls)->Lk acc->(∀a r,acc=a::r->q=a.fo)->ls.length<acc.length+m->
  ((chain ls m q acc).map Lt.nm).Nodup/\(∀l∈chain ls m q acc,l∈ls)/\Lk (chain ls m q acc)/\(∃pre,chain ls m q acc=pre++acc)/\∀a r,chain ls m q acc=a::r->(∀l∈ls,l.nm≠a.fo)\/a.fo∈(chain ls m q acc).map Lt.nm
 |0,q,acc,nd,sub,lk,hq,hm=>by have:=QQ nd sub;lia
 |m+1,q,acc,nd,sub,lk,hq,hm=>by
  ext chain;cases hl:look ls q with
  |none=>show⟨nd,sub,lk,⟨[],rfl⟩,λa r e=>.inl (by rw[←hq a r e];show KH hl)⟩
  |some l=>
   obtain⟨rD,Lz⟩:=DK hl;sleep 6;by_cases hi:bX q (acc.map Lt.nm)=true
   ·rw[if_pos hi]
    show⟨nd,sub,lk,⟨[],rfl⟩,λa r e=>.inr (by rw[←hq a r e];show L3.mp hi)⟩
   ·rw[if_neg hi]
    have ih:=j7 (ls:=ls) m l.fo (l::acc) (by rw[Yq,Xg,Lz];show⟨λz=>hi (L3.mpr z),nd⟩) (λx hx=>by
     rcases Yk.mp hx with rfl|hx
     ·show rD
     ·show sub x hx) (by
     cases acc with
     |nil=>trivial
     |cons a r=>show⟨by rw[Lz];show(hq a r rfl).symm,lk⟩) (λa r e=>by cases e;rfl) (by simp;lia)
    obtain⟨a1,a2,a3,⟨pre,a4⟩,a5⟩:=ih;show⟨a1,a2,a3,⟨pre++[l],by rw[a4];simp⟩,a5⟩
theorem sf{ls:List Lt}(u:Uq ls)(rC:ls.length<900){l:Lt}(h:l∈ls):
  ((dN ls l.nm).map Lt.nm).Nodup/\(∀m∈dN ls l.nm,m∈ls)/\Lk (dN ls l.nm)/\(∃pre,dN ls l.nm=pre++[l])/\∀a r,dN ls l.nm=a::r->(∀m∈ls,m.nm≠a.fo)\/a.fo∈(dN ls l.nm).map Lt.nm:=by
 have Oi:look ls l.nm=some l:=by
  cases e:look ls l.nm with
  |none=>show absurd rfl (KH e l h)
  |some m=>obtain⟨a,b⟩:=DK e;rw[u m a l h b]
 have e:dN ls l.nm=chain ls 999 l.fo [l]:=by
  ext dN;change(match look ls l.nm with|none=>[]|some l'=>if bX l.nm (([]:List Lt).map Lt.nm)then[]else chain ls 999 l'.fo [l'])=_;rw[Oi];rfl
 rw[e];show j7 999 l.fo [l] 2e9 7e6 trivial (λa r e=>by cases e;rfl) 6e3
theorem yR{ls:List Lt}(rC:ls.length<900)(q:6e8):(dN ls q).length<=ls.length:=by
 obtain⟨a1,a2,_⟩:=j7 (ls:=ls) 1000 q [] 2e9 (λ_ z=>(nomatch z)) trivial (λa r e=>by cases e) 6e3;show QQ a1 a2
theorem mK{ls:List Lt}(u:Uq ls)(rC:ls.length<900)(q:6e8)(C:Cs):cv [.v (.aG (dF ls).1 (dF ls).2),.v (tupK q)] C=some (.v (.lst ((dN ls q).map Lt.P)),C):=by
 obtain⟨q',e⟩:=ZdT u rC C.length 1000 q [] (C++[.aG [] []]) 2e9 2e9 (λ_ z=>(nomatch z)) 6e3;have hl:=yR rC q;have hb:iA=aA (vO 2) (aA (ng HB Ms) (cY (vM (bF (fN 5e7)) (EO 8e0)))):=rfl;have e':ng HB Ms [#[.aG (dF ls).1 (dF ls).2],#[tupK q],some 9e7] (C++[.aG [] []])=some (.nx [#[.aG (dF ls).1 (dF ls).2],#[tupK q'],some 9e7],C++[.aG ((dN ls q).reverse.map Lt.nm) ((dN ls q).reverse.map Lt.P)]):=by
  have e2:(C++[PV.aG [] []]).set C.length (.aG ((dN ls q).reverse.map Lt.nm) ((dN ls q).reverse.map Lt.P))=C++[.aG ((dN ls q).reverse.map Lt.nm) ((dN ls q).reverse.map Lt.P)]:=by simp
  rw[←e2];show e
 ext cv;rw[hb];generalize dN ls q=R at e' hl;have hR:R.length<=1000:=by lia
 simp[cN,aA,vO,aI,e',cY,vM,bF,fN,au,dM,zM,aM,hR,EO,IS,mC,Pu.ret,Ed,iD,Pu.intD]
structure Good(ls:List Lt):Prop where
 nd:(ls.map Lt.nm).Nodup
 ln:∀l∈ls,l.h.length<=10/\l.d.length<=10
 gs:∀l∈ls,l.gs=[]
 eo:ls.length<=54
theorem Gb:∀{ls:List Lt},(ls.map Lt.nm).Nodup->Uq ls
 |[],_=>λ_ h=>(nomatch h)
 |a::ls,h=>by
  rw[Yq,Xg]at h;intro l hl m hm e;rcases Yk.mp hl with rfl|GI
  ·rcases Yk.mp hm with rfl|DB
   ·rfl
   ·show absurd (e▸Y7 DB) h.1
  ·rcases Yk.mp hm with rfl|DB
   ·show absurd (e▸Y7 GI) h.1
   ·show Gb h.2 l GI m DB e
theorem Good.uq{ls:List Lt}(g:Good ls):Uq ls:=Gb g.nd
abbrev DD(ls:List Lt):PV:=.aG (dF ls).1 (dF ls).2
theorem BO(neg:Bool)(a:6e8)(dk:5e4)(dp:List PV):cI neg (tupK a) (.aG dk dp)=some (.bl (if neg then !bX a dk else bX a dk)):=by
 unfold tupK cI;simp only[zD]
theorem GC(a:6e8)(dk:5e4)(dp:List PV):gC (.aG dk dp) (tupK a)=cJ dk dp a:=by
 unfold tupK gC;simp only[zD]
theorem P_4(l:Lt):gD l.P (.int 4)=some (.tup (l.gs.map tupK)):=by simp[Lt.P,gD,yl,gR,kH]
theorem RE(l:Lt):gD l.P (.int 5)=some (.int l.t):=by simp[Lt.P,gD,yl,gR,kH]
theorem nq{ls:List Lt}(u:Uq ls){l:Lt}(h:l∈ls):look ls l.nm=some l:=by
 cases e:look ls l.nm with
 |none=>show absurd rfl (KH e l h)
 |some m=>obtain⟨a,b⟩:=DK e;rw[u m a l h b]
theorem P'{ls:List Lt}(u:Uq ls)(q:6e8):cI false (tupK q) (DD ls)=some (.bl (look ls q).isSome):=by
 have e1:=BO false q (dF ls).1 (dF ls).2;cases e:look ls q with
 |none=>rw[pW (KH e)]at e1;show e1
 |some m=>
  obtain⟨a,b⟩:=DK e;have:=(i3 u a).2;rw[b]at this;rw[this]at e1;show e1
theorem Le{ls:List Lt}(u:Uq ls){q:6e8}{m:Lt}(h:look ls q=some m):gC (DD ls) (tupK q)=some m.P:=by
 have e1:=GC q (dF ls).1 (dF ls).2;obtain⟨a,b⟩:=DK h;have:=(i3 u a).1;rw[b]at this;rw[this]at e1;show e1
def df(ls:List Lt)(l:Lt):Bool:=match look ls l.fo with
 |some m=>decide (l.t<m.t)
 |none=>false
theorem tX{ls:List Lt}(u:Uq ls)(l:Lt)(C:Cs):cQ [.v (DD ls),.v l.P] C=some (.v (.bl (df ls l)),C):=by
 have e1:=Q2 l C;have e2:=P' u l.fo;have e5:=RE l;ext df;cases e:look ls l.fo with
 |none=>
  rw[e]at e2;have e2:cI false (tupK l.fo) (DD ls)=some (.bl false):=e2;generalize l.P=LP at *;generalize tupK l.fo=FO at *;sleep 4;simp![cQ,e1,e2]
 |some m=>
  rw[e]at e2;have e2:cI false (tupK l.fo) (DD ls)=some (.bl true):=e2;have e3:=Le u e;have e6:=RE m;generalize l.P=LP at *;generalize m.P=MP at *;generalize tupK l.fo=FO at *;sleep 4;simp![cQ,e1,e2,e3,e5,e6]
theorem L'{a b:6e8}(h:tupK a=tupK b):a=b:=by
 have h1:=zD a;have h2:=zD b;have:a.map kP=b.map kP:=by ext tupK h;show PV.tup.inj h
 rw[this,h2]at h1;show(YO h1).symm
theorem Cn(a b:6e8):aE (tupK a) (tupK b)=decide (a=b):=by
 have:=w9 (tupK a) (q:=tupK b) (Dj a) (Dj b);by_cases h:a=b
 ·rw[decide_eq_true h];show this.mpr (by rw[h])
 ·rw[decide_eq_false h]
  cases e:aE (tupK a) (tupK b)with
  |false=>rfl
  |true=>show absurd (L' (this.mp e)) h
theorem lX(a b:6e8):b8 aE (tupK a) (tupK b)=some (.bl (decide (a=b))):=by
 have:=L7 a;ext b8;rw[KJ,KJ,Cn,if_pos 6e3]
def dB(ls:List Lt)(l:Lt):Bool:=match dN ls l.nm with
 |a::_=>decide (a.fo=l.nm)
 |[]=>false
theorem p9{ls:List Lt}(g:Good ls){l:Lt}(h:l∈ls)(C:Cs):cP [.v (DD ls),.v l.P] C=some (.v (.bl (dB ls l)),C):=by
 have e1:=Q6 l C;have rC:ls.length<900:=by have:=g.eo;lia
 have e2:=mK g.uq rC l.nm C;obtain⟨_,_,_,⟨pre,hr⟩,_⟩:=sf g.uq rC h;ext dB;cases hR:dN ls l.nm with
 |nil=>rw[hR]at hr;simp at hr
 |cons a r=>
  rw[hR]at e2;have e3:=Q2 a C;have e4:=lX a.fo l.nm;have e5:gD (.lst (a.P::r.map Lt.P)) (.int 0)=some a.P:=by simp[gD,yl,gR,kH]
  rw[Yq]at e2;sleep 6;generalize r.map Lt.P=RP at *;generalize l.P=LP at *;generalize a.P=AP at *;generalize tupK a.fo=FO at *;generalize tupK l.nm=NM at *;have e2:cv [.v (DD ls),.v NM] C=some (.v (.lst (AP::RP)),C):=e2;sleep 4;generalize PV.lst (AP::RP)=W at *;simp![cP,e1,e2,e3,e4,e5]
theorem nv{l:Lt}(h:l.gs=[])(D:PV)(s:Int)(C:Cs):cy [.v D,.v l.P,.v (.int s)] C=some (.v (.bl false),C):=by
 have e4:=P_4 l;rw[h]at e4;have e4:gD l.P (.int 4)=some (.tup []):=e4;generalize l.P=LP at *;simp![cy,bW,aL,e4,dD,cX,fZ,De,dG]
theorem qc(l:Lt)(s:Int)(C:Cs):cR [.v (.aG [] []),.v l.P,.v (.int s)] C=some (.v (.bl false),C):=by
 have e1:=Q6 l C;have e2:cI false (tupK l.nm) (.aG [] [])=some (.bl false):=BO false l.nm [] [];generalize l.P=LP at *;generalize tupK l.nm=NM at *;generalize PV.aG [] []=D at *;simp![cR,e1,e2]
def uz(w:Str)(l:Lt):PV:=.tup [.str w,tupK l.nm]
def SA(b a:Bool)(l:Lt):List PV:=(if b then[uz "back" l]else[])++(if a then[uz "loose" l]else[])
def j1:aq->M PF:=a8 4 (cb ba (aa 4e0 af))
def jA:aq->M (List SV):=aa (cb cQ (aa 2e8 (aa 4e0 af))) (aa (cb cP (aa 2e8 (aa 4e0 af))) (aa (cb cy (aa 2e8 (aa 4e0 5e5))) (aa (cb cR (aa 5e7 (aa 4e0 5e5))) af)))
def jE:aq->M SV:=a7 (aa 2e8 (aa 5e7 af))
def j2:aq->M PF:=nh 5 ["back","loose","behind","ahead"] jA ["word","is_so"] [4] (nE (da (hName 0) (da (hName 1) nF)) 2) (pS 4e0) jE
theorem pQ:fe=aA j1 j2:=rfl
theorem Fx(b a:Bool)(x:PV)(C:Cs):∃r,bY (nE (da (hName 0) (da (hName 1) nF)) 2) (pS 4e0) (cK jE []) (hZ ["back","loose","behind","ahead"] [.bl b,.bl a,.bl false,.bl false]) [none,none,#[x]] [] C=some ((r,(if b then[.tup [.str "back",x]]else[])++(if a then[.tup [.str "loose",x]]else[])),C):=by
 cases b<;>cases a<;>show⟨_,rfl⟩
theorem pR{ls:List Lt}(g:Good ls){l:Lt}(h:l∈ls)(s:Int)(C:Cs):cm [.v (DD ls),.v l.P,.v (.aG [] []),.v (.int s)] C=some (.v (.lst (SA (df ls l) (dB ls l) l)),C):=by
 have e1:=Q6 l C;have e2:=tX g.uq l C;have e3:=p9 g h C;have e4:=nv (g.gs l h) (DD ls) s C;have e5:=qc l s C;obtain⟨r,e6⟩:=Fx (df ls l) (dB ls l) (tupK l.nm) C;unfold SA uz;generalize df ls l=b at *;generalize dB ls l=a at *;generalize(if b then[PV.tup [.str "back",tupK l.nm]]else[])++(if a then[PV.tup [.str "loose",tupK l.nm]]else[])=R at *;generalize tupK l.nm=NM at *;sleep 4;generalize l.P=LP at *;generalize PV.aG [] []=E at *;have s1:j1 [#[D],#[LP],#[E],#[.int s],none,none] C=some (.nx [#[D],#[LP],#[E],#[.int s],#[NM],none],C):=by
  simp![j1,e1]
 have sA:jA [#[D],#[LP],#[E],#[.int s],#[NM],none] C=some ([.v (.bl b),.v (.bl a),.v (.bl false),.v (.bl false)],C):=by
  simp![jA,e2,e3,e4,e5]
 have s2:j2 [#[D],#[LP],#[E],#[.int s],#[NM],none] C=some (.rf R,C):=by
  have hk:(["back","loose","behind","ahead"]:List Str).all (λk=>decide (k.length<=1000))=true:=by decide +kernel
  ext j2;generalize(["back","loose","behind","ahead"]:List Str)=KS at *;unfold nh aI;rw[sA];have Om:∀x∈KS,x.length<=1000:=λx hx=>of_decide_eq_true (YW.mp hk x hx);simp[Pu.plain,cX,e6,Pu.ret];rw[if_pos Om];simp only[e6]
 have run:fe [#[D],#[LP],#[E],#[.int s],none,none] C=some (.rf R,C):=by
  rw[pQ,gK s1];show s2
 ext cm;generalize fe=bb at *;simp![run]
def aH(l:Lt):PV:=tupK l.nm
theorem G6:∀(ls:List Lt)(ks:5e4)(ps:List PV),(ks++ls.map Lt.nm).Nodup->bM (ls.map pr) ks ps=(ks++ls.map Lt.nm,ps++ls.map Lt.P)
 |[],ks,ps,_=>by simp[bM]
 |l::ls,ks,ps,h=>by
  rw[show bM ((l::ls).map pr) ks ps=bM (ls.map pr) (aO ks l.nm) (bo ks ps l.nm l.P)from rfl];have hk:bX l.nm ks=false:=by
   cases e:bX l.nm ks with
   |false=>rfl
   |true=>
    rw[Xh]at h;show absurd rfl (h.2.2 l.nm (L3.mp e) l.nm 2e9)
  have e1:aO ks l.nm=ks++[l.nm]:=by ext aO;rw[hk];rfl
  have e2:bo ks ps l.nm l.P=ps++[l.P]:=by ext bo;rw[hk];rfl
  rw[e1,e2,G6 ls _ _ 7e6];simp
theorem qz{ls:List Lt}(h:(ls.map Lt.nm).Nodup):dF ls=(ls.map Lt.nm,ls.map Lt.P):=by
 ext dF;rw[G6 ls [] [] 7e6];simp
theorem tF(t u:Lt):cg (aH t) (aH u)=some (lT (aH t) (aH u)):=by
 have h:∃c,cg (aH t) (aH u)=some c:=by
  ext aH;rw[A0,A0];unfold cg cC;split
  ·ext cC;split
   ·ext cC;split
    ·ext cC;show⟨_,rfl⟩
    ·ext cg;show⟨_,rfl⟩
   ·ext cg;show⟨_,rfl⟩
  ·ext cg;show⟨_,rfl⟩
 obtain⟨c,e⟩:=h;rw[e,tG _ e]
theorem all_map{α:Type}{f:α->PV}(g:PV->Bool)(ts:List α)(h:∀t,g (f t)=true):(ts.map f).all g=true:=by
 rw[YW];intro x hx;obtain⟨t,_,rfl⟩:=Yz.mp hx;show h t
theorem uy(ts:List Lt):b5 (ts.map aH)=true:=all_map _ ts λt=>all_map _ ts λu=>by rw[tF];rfl
theorem mT(ts:List Lt):aP (ts.map aH)=true:=QY (f:=aH) (λt=>Dj t.nm) ts
theorem z8(ts:List Lt)(h:ts.length<64):bN (ts.map aH)=some (fg (ts.map aH)):=by
 have hd:cj (ts.map aH)<=1:=L8 (f:=aH) (λt=>L7 t.nm) ts;show jl (Pm (f:=aH) (λt=>KJ t.nm) ts) 1e0 ?_ ?_ (uy ts) (mT ts)
 ·rw[Yi];change _<4096;lia
 ·ext sortable;rw[all_map (λp=>bx p==4) ts λt=>rfl];simp
theorem nc{α β:Type}(f:α->β):∀{xs:List β}{ls:List α},xs.Perm (ls.map f)->∃us:List α,xs=us.map f/\us.Perm ls:=by
 intro xs;induction xs with
 |nil=>intro ls p;have:=p.length_eq;cases ls with
  |nil=>show⟨[],rfl,.nil⟩
  |cons _ _=>simp at this
 |cons x xs ih=>
  intro ls p;obtain⟨a,ha,rfl⟩:=Yz.mp (p.mem_iff.mp 6e7);obtain⟨l1,l2,rfl⟩:=Yat ha;have p2:xs.Perm ((l1++l2).map f):=by
   rw[YX,Yq]at p;have:=p.trans (WA);rw[YX];show this.cons_inv
  obtain⟨us,rfl,pu⟩:=ih p2;show⟨a::us,rfl,(pu.cons a).trans WA.symm⟩
theorem D4(ts:List Lt):∃us:List Lt,fg (ts.map aH)=us.map aH/\us.Perm ts:=nc aH (PD (uy ts) (mT ts))
noncomputable def eE:List Lt->List (Lt×Lt)
 |[]=>[]
 |x::xs=>xs.map (λy=>(x,y))++eE xs
theorem vp(u:Lt)(p:Lt×Lt):∀g:List Lt,p∈eE (g++[u])↔p∈eE g\/(p.2=u/\p.1∈g)
 |[]=>by simp[eE]
 |x::g=>by
  rw[Vr,eE,eE,Ym,Ym,vp u p g,YX,Ym];constructor
  ·rintro((h|h)|h|⟨h1,h2⟩)
   ·show .inl (.inl h)
   ·have h:p=(x,u):=by simpa using h
    rw[h];show .inr ⟨rfl,.head _⟩
   ·show .inl (.inr h)
   ·show .inr ⟨h1,.tail _ h2⟩
  ·rintro((h|h)|⟨h1,h2⟩)
   ·show .inl (.inl h)
   ·show .inr (.inl h)
   ·rcases Yk.mp h2 with e|h2
    ·show .inl (.inr ?_)
     obtain⟨p1,p2⟩:=p;dsimp only at h1 e;subst h1 e;simp
    ·show .inr (.inr ⟨h1,h2⟩)
inductive GR:List (List Key)->List (List Lt)->Prop
 |nil:GR [] []
 |cons {k:List Key} {g:List Lt} {ks:List (List Key)} {gs:List (List Lt)}:(∀u∈g,u.fo=k)->g≠[]->k∉ks->GR ks gs->GR (k::ks) (g::gs)
def gP(gs:List (List Lt)):List 3e0:=gs.map λg=>g.map aH
theorem GR.key{ks:5e4}{gs:List (List Lt)}(h:GR ks gs):∀u∈gs.flatten,u.fo∈ks:=by
 induction h with
 |nil=>intro u hu;simp at hu
 |@cons k g ks gs hg c9 hk r ih=>
  intro u hu;rw[Xs]at hu;rcases Ym.mp hu with q|q
  ·rw[hg u q];show .head _
  ·show .tail _ (ih u q)
theorem GR.add(u:Lt){ks:5e4}{gs:List (List Lt)}(h:GR ks gs):∃wF,ka ks (gP gs) u.fo (aH u)=gP wF/\GR (aO ks u.fo) wF/\wF.flatten.Perm (u::gs.flatten)/\∀p,p∈wF.flatMap eE↔p∈gs.flatMap eE\/(p.2=u/\p.1∈gs.flatten/\p.1.fo=u.fo):=by
 induction h with
 |nil=>show⟨[[u]],rfl,.cons 2e9 2e9 2e9 .nil,by simp,λp=>by simp[eE]⟩
 |@cons k g ks gs hg c9 hk r ih=>
  by_cases e:k=u.fo
  ·show⟨(g++[u])::gs,?_,?_,?_,λp=>?_⟩
   ·ext gP;rw[Yq];ext ka;rw[if_pos e];simp
   ·ext aO;rw[show bX u.fo (k::ks)=true from by ext bX;rw[X9,decide_eq_true e];rfl,if_pos rfl]
    show .cons (λv hv=>by
     rcases Ym.mp hv with q|q
     ·show hg v q
     ·rw[Yj.mp q];show e.symm) (by simp) hk r
   ·rw[Xs,Xs,Yd]
    show WA
   ·rw[Wq,Wq,Ym,Ym,vp,Xs,Ym]
    constructor
    ·rintro((h|⟨h1,h2⟩)|h)
     ·show .inl (.inl h)
     ·show .inr ⟨h1,.inl h2,(hg _ h2).trans e⟩
     ·show .inl (.inr h)
    ·rintro((h|h)|⟨h1,h2|h2,h3⟩)
     ·show .inl (.inl h)
     ·show .inr h
     ·show .inl (.inr ⟨h1,h2⟩)
     ·show absurd (r.key _ h2) (by rw[h3,←e];show hk)
  ·obtain⟨wF,e1,r1,p1,m1⟩:=ih
   show⟨g::wF,?_,?_,?_,λp=>?_⟩
   ·unfold gP at e1⊢;rw[Yq];ext ka;rw[if_neg e,e1];rfl
   ·have:aO (k::ks) u.fo=k::aO ks u.fo:=by
     ext aO;rw[show bX u.fo (k::ks)=bX u.fo ks from by ext bX;rw[X9,decide_eq_false e];rfl];split<;>rfl
    rw[this];show .cons hg c9 (λz=>?_) r1;ext aO z;split at z
    ·show hk z
    ·rcases Ym.mp z with z|z
     ·show hk z
     ·show e (Yj.mp z)
   ·rw[Xs,Xs]
    show(p1.append_left g).trans WA
   ·rw[Wq,Wq,Ym,Ym,m1,Xs,Ym]
    constructor
    ·rintro(h|h|⟨h1,h2,h3⟩)
     ·show .inl (.inl h)
     ·show .inl (.inr h)
     ·show .inr ⟨h1,.inr h2,h3⟩
    ·rintro((h|h)|⟨h1,h2|h2,h3⟩)
     ·show .inl h
     ·show .inr (.inl h)
     ·show absurd ((hg _ h2).symm.trans h3) e
     ·show .inr (.inr ⟨h1,h2,h3⟩)
theorem GR.most{ks:5e4}{gs:List (List Lt)}(h:GR ks gs):gs.length<=gs.flatten.length:=by
 induction h with
 |nil=>simp
 |@cons k g ks gs hg c9 hk r ih=>
  have:1<=g.length:=by cases g with
   |nil=>show absurd rfl c9
   |cons _ _=>simp
  rw[Xs,Yf,Yu];lia
theorem GR.same{ks:5e4}{gs:List (List Lt)}(h:GR ks gs):∀g∈gs,∀a∈g,∀b∈g,a.fo=b.fo:=by
 induction h with
 |nil=>intro g hg;cases hg
 |cons hg _ _ r ih=>
  intro g h a ha b hb;rcases Yk.mp h with rfl|h
  ·rw[hg a ha,hg b hb]
  ·show ih g h a ha b hb
theorem Bv{α:Type}{gs:List (List α)}{g:List α}(h:g∈gs):g.length<=gs.flatten.length:=by
 induction gs with
 |nil=>cases h
 |cons a gs ih=>
  rw[Xs,Yf];rcases Yk.mp h with rfl|h
  ·lia
  ·have:=ih h;lia
def tK:aq->M SV:=cb aT (aa (aB (g2 gC) 2e8 5e7) af)
theorem Ac{ls:List Lt}(u:Uq ls)(L:Nat):∀(us:List Lt)(ks:5e4)(gs:List (List Lt))(x2:Option PV),(∀v∈us,v∈ls)->GR ks gs->gs.flatten.length+us.length<=100->ks.length+us.length<=100->
  ∃tP wF y2,dy 1 L (hName 2) tK 5e7 (us.map aH) [#[DD ls],some (.c L),x2.map .v] ks (gP gs)=some ([#[DD ls],#[.aG tP ((gP wF).map .lst)],y2],tP,gP wF)/\GR tP wF/\wF.flatten.Perm (us++gs.flatten)/\∀p,p∈wF.flatMap eE↔p∈gs.flatMap eE\/(p.1.fo=p.2.fo/\((p∈eE us)\/(p.1∈gs.flatten/\p.2∈us)))
 |[],ks,gs,x2,_,r,_,_=>by
  show⟨ks,gs,x2.map .v,?_,r,by simp,λp=>by simp[eE]⟩;have hc:Np 1 L [#[DD ls],some (.c L),x2.map .v]=true:=by
   cases x2<;>simp[Np]
  ext dy;rw[Rn];sleep 6;rw[if_pos hc];rfl
 |v::us,ks,gs,x2,hu,r,hl,ot=>by
  obtain⟨QF,e1,r1,p1,m1⟩:=r.add v;have BU:=pf ks v.fo;obtain⟨tP,wF,y2,e2,r2,p2,m2⟩:=Ac u L us (aO ks v.fo) QF (some (aH v)) (λw hw=>hu w (.tail _ hw)) r1 (by have:=p1.length_eq;rw[Yu]at this hl;lia) (by rw[Yu]at ot;lia);show⟨tP,wF,y2,?_,r2,?_,λp=>?_⟩
  ·have hx:=GC v.nm (dF ls).1 (dF ls).2
   rw[(i3 u (hu v 6e7)).1]at hx;have rB:gC (DD ls) (aH v)=some v.P:=hx;have hf:=Q2 v [];have hk:tK [#[DD ls],none,#[aH v]] []=some (.v (.tup (v.fo.map kP)),[]):=by
    have:tupK v.fo=.tup (v.fo.map kP):=rfl;rw[←this];generalize tupK v.fo=FO at *;generalize aH v=NV at *;generalize v.P=VP at *;sleep 4;simp![tK,rB,hf]
   have hp:aY (aH v)=true:=Dj v.nm;have ha:(gP gs).all (λl=>decide (l.length<1000))=true:=by
    rw[YW];intro l GI;obtain⟨g,hg,rfl⟩:=Yz.mp GI;have:=Bv hg;rw[Yi];show decide_eq_true 1e0
   have nA:ks.length<1000:=by lia
   rw[Yq];ext dy;have g1:([#[DD ls],some (.c L),#[aH v]]:aq)[1]? = some (some (.c L)):=rfl;have hid:gF 0 [#[DD ls],some (.c L),#[aH v]]=[#[DD ls],none,#[aH v]]:=rfl;have hv:au 2 [#[DD ls],none,#[aH v]] []=some (.v (aH v),[]):=rfl;have hg:hName 2 (aH v) [#[DD ls],some (.c L),x2.map .v]=some [#[DD ls],some (.c L),#[aH v]]:=rfl;have hck:(aY (aH v)&&decide (ks.length<1000)&&(gP gs).all λl=>decide (l.length<1000))=true:=by rw[hp,ha,decide_eq_true nA];rfl
   simp only[hg,g1,if_true,hid,hk,zD,hv,hck,e1];show e2
  ·show p2.trans ((p1.append_left us).trans WA)
  ·rw[m2,m1,eE,Ym]
   have hm:p∈us.map (λy=>(v,y))↔p.1=v/\p.2∈us:=by
    constructor
    ·intro h;obtain⟨y,hy,rfl⟩:=Yz.mp h;show⟨rfl,hy⟩
    ·rintro⟨h1,h2⟩
     obtain⟨p1,p2⟩:=p;dsimp only at h1 h2;subst h1;show Y7 h2
   have h1:p.1∈QF.flatten↔p.1=v\/p.1∈gs.flatten:=by rw[p1.mem_iff,Yk]
   rw[hm,h1,Yk];constructor
   ·rintro((h|⟨h1,h2,h3⟩)|⟨h1,h2|⟨h2|h2,h3⟩⟩)
    ·show .inl h
    ·show .inr ⟨by rw[h1];show h3,.inr ⟨h2,.inl h1⟩⟩
    ·show .inr ⟨h1,.inl (.inr h2)⟩
    ·show .inr ⟨h1,.inl (.inl ⟨h2,h3⟩)⟩
    ·show .inr ⟨h1,.inr ⟨h2,.inr h3⟩⟩
   ·rintro(h|⟨h1,(⟨h2,h3⟩|h2)|⟨h2,h3|h3⟩⟩)
    ·show .inl (.inl h)
    ·show .inr ⟨h1,.inr ⟨.inl h2,h3⟩⟩
    ·show .inr ⟨h1,.inl h2⟩
    ·show .inl (.inr ⟨h3,h2,by rw[h1,h3]⟩)
    ·show .inr ⟨h1,.inr ⟨.inr h2,h3⟩⟩
theorem Ni:∀{g:List Lt},g.length<=5->(eE g).length<=2*g.length
 |[],_=>by simp[eE]
 |[_],_=>by simp[eE]
 |[_,_],_=>by simp[eE]
 |[_,_,_],_=>by simp[eE]
 |[_,_,_,_],_=>by simp[eE]
 |[_,_,_,_,_],_=>by simp[eE]
 |_::_::_::_::_::_::_,z=>by simp at z
theorem sL{R:Lt->Lt->Prop}{p:Lt×Lt}:∀{us:List Lt},us.Pairwise R->p∈eE us->R p.1 p.2/\p.1∈us/\p.2∈us
 |[],_,h=>by simp[eE]at h
 |x::us,w,h=>by
  rw[WY]at w;rw[eE]at h;rcases Ym.mp h with h|h
  ·obtain⟨y,hy,rfl⟩:=Yz.mp h
   show⟨w.1 y hy,.head _,.tail _ hy⟩
  ·obtain⟨a,b,c⟩:=sL w.2 h
   show⟨a,.tail _ b,.tail _ c⟩
theorem AD{x y:Lt}(c9:x≠y):∀{us:List Lt},x∈us->y∈us->(x,y)∈eE us\/(y,x)∈eE us
 |z::us,hx,hy=>by
  rw[eE];rcases Yk.mp hx with rfl|rB
  ·rcases Yk.mp hy with rfl|Jx
   ·show absurd rfl c9
   ·show .inl (Y2 _ (Y7 Jx))
  ·rcases Yk.mp hy with rfl|Jx
   ·show .inr (Y2 _ (Y7 rB))
   ·rcases AD c9 rB Jx with q|q
    ·show .inl (Yn _ q)
    ·show .inr (Yn _ q)
def gn(p:Lt×Lt):PV:=.tup [.str "twin",aH p.1,aH p.2]
def tE:aq->M SV:=a7 (aa (mC (.str "twin")) (aa 5e7 5e5))
def tI:aq->M 3e0:=aL (aW 2e8 (bJ (aB 7e8 4e0 8e0)) iS)
def tH:PV->aq->Option aq:=nE (da (hName 1) (da (hName 2) nF)) 2
theorem BN(G A:PV)(v:Lt)(C:Cs):∀(us:List Lt)(x3:Option SV)(ys:List PV),ys.length+us.length<=10000->
  ∃y3,bY (hName 3) ff (cK tE []) (us.map aH) [#[G],#[A],#[aH v],x3] ys C=some (([#[G],#[A],#[aH v],y3],ys++(us.map λy=>gn (v,y))),C)
 |[],x3,ys,_=>⟨x3,by simp[bY,Pu.ret]⟩
 |u::us,x3,ys,h=>by
  rw[Yu]at h;obtain⟨y3,e⟩:=BN G A v C us #[aH u] (ys++[gn (v,u)]) 6e3;show⟨y3,?_⟩;have hl:ys.length<100000:=by lia
  have hb:cK tE [] [#[G],#[A],#[aH v],#[aH u]] ys C=some (([#[G],#[A],#[aH v],#[aH u]],ys++[gn (v,u)]),C):=by
   ext gn;generalize aH v=V;generalize aH u=U;simp![cK,tE,hl]
  rw[Yq,Yq];ext bY;have hg:hName 3 (aH u) [#[G],#[A],#[aH v],x3]=some [#[G],#[A],#[aH v],#[aH u]]:=rfl;simp only[hg,ff,aI,Pu.ret,if_true,hb,e];simp
noncomputable def G0:Nat->List PV->List PV
 |_,[]=>[]
 |i,x::r=>.tup [.int (i:Nat),x]::G0 (i+1) r
theorem Cp:∀(i:Nat)(xs:List PV),G0 i xs=(YB xs.length).map λj=>.tup [.int ((i+j:Nat):Int),xs.getD j .aF]
 |i,[]=>rfl
 |i,x::xs=>by
  ext G0;rw[Cp (i+1) xs,Yu,List.range_succ_eq_map,Yq,Xc]
  congr 1
  apply Yai;intro j _;change _=PV.tup [.int ((i+(j+1):Nat):Int),(x::xs).getD (j+1) .aF];rw[show i+(j+1)=i+1+j by lia];rfl
theorem Fs(xs:List PV):jY xs=G0 0 xs:=by
 rw[Cp];ext jY;simp
theorem CM(xs:List PV)(i:Int)(h:0<=i)(h2:i<=xs.length):fI xs (some i) none=xs.drop i.toNat:=by
 have e:HT.bI xs.length 0 (some i)=i.toNat:=by ext HT.bI;simp only[];rw[if_neg 1e0];lia
 have e2:HT.bI xs.length xs.length none=xs.length:=rfl;ext fI;rw[e,e2];show XX (by rw[Xp];lia)
theorem MK(g:List PV)(i:Nat)(x2 x3:Option SV)(C:Cs)(h:i+1<=g.length):tI [#[.lst g],#[(.int (i:Nat))],x2,x3] C=some (g.drop (i+1),C):=by
 have e:=CM g ((i:Int)+1) 1e0 1e0;rw[show((i:Int)+1).toNat=i+1 by lia]at e;simp![tI,aL,fJ,dD,e]
theorem vL(g:List Lt)(hg:g.length<=100)(C:Cs):∀(r:List Lt)(i:Nat)(x1 x2 x3:Option SV)(ys:List PV),g.drop i=r->ys.length+100*r.length<=10000->
  ∃y1 y2 y3,bY tH ff (cK tE [(tI,hName 3,ff)]) (G0 i (r.map aH)) [#[.lst (g.map aH)],x1,x2,x3] ys C=some (([#[.lst (g.map aH)],y1,y2,y3],ys++(eE r).map gn),C)
 |[],i,x1,x2,x3,ys,_,_=>⟨x1,x2,x3,by simp[bY,Pu.ret,G0,eE]⟩
 |v::r,i,x1,x2,x3,ys,hr,h=>by
  rw[Yu]at h;have hlen:i<g.length:=by
   rcases YQ i g.length with q|q
   ·show q
   ·rw[XF q]at hr;cases hr
  have Tn:g.drop (i+1)=r:=by rw[←V4,hr];rfl
  have hrl:r.length<=100:=by rw[←Tn,Xp];lia
  obtain⟨z3,e1⟩:=BN (.lst (g.map aH)) (.int (i:Nat)) v C r x3 ys 1e0;obtain⟨y1,y2,y3,e2⟩:=vL g hg C r (i+1) #[(.int (i:Nat))] #[aH v] z3 (ys++r.map λy=>gn (v,y)) Tn (by rw[Yf,Yi];lia);show⟨y1,y2,y3,?_⟩;have ht:=MK (g.map aH) i #[aH v] x3 C (by rw[Yi];lia);rw[←List.map_drop,Tn]at ht;rw[Yq];unfold G0 bY;have hh:tH (.tup [.int (i:Nat),aH v]) [#[.lst (g.map aH)],x1,x2,x3]=some [#[.lst (g.map aH)],#[(.int (i:Nat))],#[aH v],x3]:=rfl;have hb:cK tE [(tI,hName 3,ff)] [#[.lst (g.map aH)],#[(.int (i:Nat))],#[aH v],x3] ys C=some (([#[.lst (g.map aH)],#[(.int (i:Nat))],#[aH v],z3],ys++r.map λy=>gn (v,y)),C):=by
   unfold cK aI;rw[ht];show e1
  simp only[hh,ff,aI,Pu.ret,if_true,hb];rw[e2];simp[eE]
theorem vA(C:Cs):∀(gs:List (List Lt))(x0 x1 x2 x3:Option SV)(ys:List PV),(∀g∈gs,g.length<=5)->ys.length+10*gs.length<=1000->
  ∃r,bY (hName 0) ff (cK tE [(jI 7e2,tH,ff),(tI,hName 3,ff)]) ((gP gs).map .lst) [x0,x1,x2,x3] ys C=some ((r,ys++(gs.flatMap eE).map gn),C)
 |[],x0,x1,x2,x3,ys,_,_=>⟨_,by simp[bY,Pu.ret,gP];rfl⟩
 |g::gs,x0,x1,x2,x3,ys,hg,h=>by
  rw[Yu]at h;have hg3:=hg g 6e7;obtain⟨y1,y2,y3,e1⟩:=vL g 1e0 C g 0 x1 x2 x3 ys rfl 1e0;have hp3:(eE g).length<=10:=by have:=Ni hg3;lia
  obtain⟨r,e2⟩:=vA C gs #[.lst (g.map aH)] y1 y2 y3 (ys++(eE g).map gn) (λa ha=>hg a (.tail _ ha)) (by rw[Yf,Yi];lia);show⟨r,?_⟩;have he:jI 7e2 [#[.lst (g.map aH)],x1,x2,x3] C=some (G0 0 (g.map aH),C):=by
   rw[←Fs];generalize g.map aH=G;simp![jI,Co]
  have hb:cK tE [(jI 7e2,tH,ff),(tI,hName 3,ff)] [#[.lst (g.map aH)],x1,x2,x3] ys C=some (([#[.lst (g.map aH)],y1,y2,y3],ys++(eE g).map gn),C):=by
   rw[cK,aI,he];show e1
  rw[show(gP (g::gs)).map PV.lst=.lst (g.map aH)::(gP gs).map .lst from rfl];rw[bY];have hh:hName 0 (.lst (g.map aH)) [x0,x1,x2,x3]=some [#[.lst (g.map aH)],x1,x2,x3]:=rfl;have ht:ff [#[.lst (g.map aH)],x1,x2,x3] C=some (true,C):=rfl;simp only[hh,aI,ht,if_true,hb,e2];simp
def t1:aq->M PF:=Bg 1 (aL (bF (cB 7e2))) (hName 2) tK 5e7
def t2:aq->M PF:=cY (jJ (dU 4e0) ["names","at","name","other"] [] (hName 0) ff [(jI 7e2,tH,ff),(tI,hName 3,ff)] tE)
theorem zN:jc=aA t1 t2:=rfl
def Bd(ls:List Lt)(b:Nat):Prop:=∀g:List Lt,(g.map Lt.nm).Nodup->(∀v∈g,v∈ls)->(∀x∈g,∀y∈g,x.fo=y.fo)->g.length<=b
theorem v3{ls:List Lt}(g:Good ls):keysOk (ls.map Lt.nm)=true:=by
 ext keysOk;rw[YW];intro k hk;obtain⟨t,ht,rfl⟩:=Yz.mp hk;obtain⟨h1,h2⟩:=g.ln t ht;have h3:t.h.length<=1000:=by lia
 have h4:t.d.length<=1000:=by lia
 simp[Lt.nm,keyOk,h3,h4]
theorem IT{gs:List (List Lt)}{g:List Lt}(h:g∈gs)(nd:(gs.flatten.map Lt.nm).Nodup):(g.map Lt.nm).Nodup:=by
 have:g.Sublist gs.flatten:=List.sublist_flatten_of_mem h;show(this.map Lt.nm).nodup nd
theorem vo:∀(gs:List (List Lt)),(∀g∈gs,g.length<=5)->(gs.flatMap eE).length<=2*gs.flatten.length
 |[],_=>by simp
 |g::gs,h=>by
  have ih:=vo gs λa ha=>h a (.tail _ ha);have hp3:=Ni (h g 6e7);rw[Wq,Xs,Yf,Yf];lia
def Ls(x y:Lt):Prop:=lT (aH x) (aH y)=true
theorem IQ{x y:Lt}(h:aH x=aH y):x.nm=y.nm:=L' h
theorem rX{ls us:List Lt}(g:Good ls)(pu:us.Perm ls)(ri:aR (us.map aH))(p:Lt×Lt):p∈eE us↔p.1∈ls/\p.2∈ls/\Ls p.1 p.2:=by
 have nd:(us.map Lt.nm).Nodup:=(pu.map Lt.nm).nodup_iff.mpr g.nd;have pw:us.Pairwise Ls:=by
  ext aR ri;rw[Xq]at ri;rw[Y0,Xq]at nd;show(ri.and nd).imp λ{x y} h=>?_;cases e:lT (aH x) (aH y)with
  |true=>show e
  |false=>show absurd (IQ (jO _ (Dj x.nm) (Dj y.nm) e h.1)) h.2
 constructor
 ·intro h
  obtain⟨a,b,c⟩:=sL pw h;show⟨pu.mem_iff.mp b,pu.mem_iff.mp c,a⟩
 ·rintro⟨a,b,c⟩
  have c9:p.1≠p.2:=λz=>by
   ext Ls c;rw[z,show lT (aH p.2) (aH p.2)=false from Kx _ (Dj p.2.nm)]at c;cases c
  rcases AD c9 (pu.mem_iff.mpr a) (pu.mem_iff.mpr b)with q|q
  ·show q
  ·have h2:=(sL pw q).1
   unfold Ls at c h2;show absurd (h2.symm.trans (Bz (Dj p.1.nm) (Dj p.2.nm) c)) 1e7
theorem zO{ls:List Lt}(g:Good ls)(hb:Bd ls 5)(C:Cs):∃ts:List (Lt×Lt),eB [.v (DD ls)] C=some (ts.map gn,C)/\ts.length<=2*ls.length/\∀p,p∈ts↔p.1∈ls/\p.2∈ls/\p.1.fo=p.2.fo/\Ls p.1 p.2:=by
 have hd:=qz g.nd;have iE:=g.eo;obtain⟨us,eu,pu⟩:=D4 ls;have hul:=pu.length_eq;have ri:=PK (uy ls) (mT ls);rw[eu]at ri;obtain⟨ks,gs,y2,e1,r,p,pm⟩:=Ac g.uq C.length us [] [] none (λv hv=>pu.mem_iff.mp hv) .nil 6e3 6e3;rw[UW,YG]at p;have jQ:=p.trans pu;have hl3:∀x∈gs,x.length<=5:=λx hx=>hb x (IT hx ((jQ.map Lt.nm).nodup_iff.mpr g.nd)) (λv hv=>jQ.mem_iff.mp (List.mem_flatten.mpr ⟨x,hx,hv⟩)) (r.same x hx);show⟨gs.flatMap eE,?_,by rw[←jQ.length_eq];show vo gs hl3,λq=>?_⟩
 rotate_left
 ·rw[pm,rX g pu ri]
  simp only[List.flatMap_nil,Xr,false_or,UW,false_and,or_false];show⟨λ⟨a,b,c,d⟩=>⟨b,c,a,d⟩,λ⟨b,c,a,d⟩=>⟨a,b,c,d⟩⟩
 have Lw:fC (C++[.aG [] []]) [.v (DD ls)]=some (us.map aH):=by
  have hk:=v3 g;have hn:(ls.map Lt.nm).map tupK=ls.map aH:=by rw[Xc];rfl
  have:fC (C++[.aG [] []]) [.v (DD ls)]=if keysOk (dF ls).1 then bN ((dF ls).1.map tupK)else none:=rfl
  rw[this,hd];change(if keysOk (ls.map Lt.nm)then bN ((ls.map Lt.nm).map tupK)else none)=_;rw[if_pos hk,hn,z8 ls 1e0,eu]
 have B1:10*gs.length<=1000:=by
  have h1:=r.most;have h2:=jQ.length_eq;lia
 obtain⟨rr,e2⟩:=vA C gs none none none none [] hl3 (by simpa using B1);have s1:t1 [#[DD ls],none,none] C=some (.nx [#[DD ls],#[.aG ks ((gP gs).map .lst)],y2],C):=by
  have hi:aL (bF (cB 7e2)) [#[DD ls],some 9e7,none] (C++[.aG [] []])=some (us.map aH,C++[.aG [] []]):=by
   generalize us.map aH=US at *;sleep 4;simp![aL,cB,Lw,dD]
  unfold t1 Bg;rw[show([#[DD ls],none,none]:aq).set 1 (some 9e7)=[#[DD ls],some 9e7,none]from rfl,hi];simp only[List.getLast?_concat,List.dropLast_concat];have e1':dy 1 C.length (hName 2) tK 5e7 (us.map aH) [#[DD ls],some 9e7,none] [] []=_:=e1;rw[e1']
 have s2:t2 [#[DD ls],#[.aG ks ((gP gs).map .lst)],y2] C=some (.rf ((gs.flatMap eE).map gn),C):=by
  have hv:dU 4e0 [#[DD ls],#[.aG ks ((gP gs).map .lst)],y2] C=some ((gP gs).map .lst,C):=rfl;have hs:cX ["names","at","name","other"] [] [#[DD ls],#[.aG ks ((gP gs).map .lst)],y2]=[none,none,none,none]:=rfl;unfold t2 cY jJ;simp only[aI,hv,hs,e2,Pu.ret];rfl
 have run:jc [#[DD ls],none,none] C=some (.rf ((gs.flatMap eE).map gn),C):=by
  rw[zN,gK s1];show s2
 ext eB;generalize jc=bb at *;generalize(gs.flatMap eE).map gn=R at *;sleep 4;simp[dA,run]
inductive Cm
 |tw (p:Lt×Lt)
 |cl (w:Bool) (l:Lt)
def Cm.P:Cm->PV
 |.tw p=>gn p
 |.cl w l=>uz (if w then "back" else "loose") l
noncomputable def Ln (b a:Bool)(l:Lt):List Cm:=(if b then[.cl true l]else[])++(if a then[.cl false l]else[])
theorem Nx(b a:Bool)(l:Lt):SA b a l=(Ln b a l).map Cm.P:=by
 cases b<;>cases a<;>rfl
theorem mU(c:Cm):aY c.P=true:=by
 cases c with
 |tw p=>simp[Cm.P,gn,aH,aY,aP,Dj]
 |cl w l=>simp[Cm.P,uz,aY,aP,Dj]
theorem CL(c:Cm):dat c.P=true:=by
 cases c with
 |tw p=>simp[Cm.P,gn,aH,dat,gj,KJ]
 |cl w l=>simp[Cm.P,uz,dat,gj,KJ]
theorem wL(c:Cm):flat c.P=true:=by
 cases c with
 |tw p=>simp[Cm.P,gn,aH,flat,dc,lU]
 |cl w l=>simp[Cm.P,uz,flat,dc,lU]
theorem uv(c:Cm):dep c.P<=2:=by
 cases c with
 |tw p=>
  have h1:=L7 p.1.nm;have h2:=L7 p.2.nm;simp only[Cm.P,gn,aH,dep,cj];lia
 |cl w l=>
  have h1:=L7 l.nm;simp only[Cm.P,uz,dep,cj];lia
theorem KA{p q:PV}{ps qs:List PV}(h1:(cg p q).isSome=true)(h2:aE p q=true->(cC ps qs).isSome=true):(cC (p::ps) (q::qs)).isSome=true:=by
 ext cC;split
 ·rename_i h;show h2 h
 ·show h1
theorem Bj(t u:Lt):(cg (aH t) (aH u)).isSome=true:=by rw[tF];rfl
theorem lt_str(a b:Str):(cg (.str a) (.str b)).isSome=true:=by ext cg;rfl
theorem ni{ps qs:List PV}(h:(cC ps qs).isSome=true):(cg (.tup ps) (.tup qs)).isSome=true:=by ext cg;show h
theorem lex_nil:(cC [] []).isSome=true:=by ext cC;rfl
theorem vJ{w:Bool}:aE (.str "twin") (.str (if w then "back" else "loose"))=false/\aE (.str (if w then "back" else "loose")) (.str "twin")=false:=by
 cases w<;>constructor<;>(ext aE;decide +kernel)
theorem NC(c d:Cm):(cg c.P d.P).isSome=true:=by
 cases c with
 |tw p=>
  cases d with
  |tw q=>show ni (KA (lt_str _ _) λ_=>KA (Bj _ _) λ_=>KA (Bj _ _) λ_=>lex_nil)
  |cl w l=>show ni (KA (lt_str _ _) λh=>by rw[vJ.1]at h;cases h)
 |cl v k=>
  cases d with
  |tw q=>show ni (KA (lt_str _ _) λh=>by rw[vJ.2]at h;cases h)
  |cl w l=>show ni (KA (lt_str _ _) λ_=>KA (Bj k l) λ_=>lex_nil)
theorem j6(cs:List Cm):b5 (cs.map Cm.P)=true:=all_map _ cs λt=>all_map _ cs λu=>NC t u
theorem Hk(cs:List Cm):aP (cs.map Cm.P)=true:=QY (f:=Cm.P) mU cs
theorem zQ(c:Cm):isTup c.P=true/\(bx c.P==4)=true:=by cases c<;>show⟨rfl,rfl⟩
theorem oK(cs:List Cm)(h:cs.length<4096):bN (cs.map Cm.P)=some (fg (cs.map Cm.P)):=by
 have hd:cj (cs.map Cm.P)<=2:=L8 (f:=Cm.P) uv cs;show jl (Pm (f:=Cm.P) CL cs) 1e0 ?_ ?_ (j6 cs) (Hk cs)
 ·rw[Yi];show h
 ·ext sortable;rw[all_map (λp=>bx p==4) cs λt=>(zQ t).2];simp
theorem Io(as:List Cm)(c:Cm):∃LU:List Cm,putN (as.map Cm.P) c.P=LU.map Cm.P/\((as.map Cm.P).Nodup->(LU.map Cm.P).Nodup)/\(∀x,x∈LU.map Cm.P↔x∈as.map Cm.P\/x=c.P)/\LU.length<=as.length+1:=by
 ext putN;by_cases h:((as.map Cm.P).any λq=>aE q c.P)=true
 ·rw[if_pos h]
  show⟨as,rfl,id,λx=>⟨.inl,λz=>z.elim id λe=>?_⟩,by lia⟩;obtain⟨q,hq,e2⟩:=V7.mp h;obtain⟨d,_,rfl⟩:=Yz.mp hq;rw[e,←(w9 d.P (mU d) (mU c)).mp e2];show hq
 ·rw[if_neg h]
  show⟨as++[c],by simp,λnd=>?_,λx=>by simp,by simp⟩;rw[YX,Xh];show⟨nd,by simp,λa ha b hb e=>?_⟩;have hb:b=c.P:=by simpa using hb
  subst hb e;show h (V7.mpr ⟨_,ha,L9 (mU c)⟩)
theorem CH:∀(cs as:List Cm),(as.map Cm.P).Nodup->∃rs:List Cm,(cs.map Cm.P).foldl putN (as.map Cm.P)=rs.map Cm.P/\(rs.map Cm.P).Nodup/\(∀x,x∈rs.map Cm.P↔x∈as.map Cm.P\/x∈cs.map Cm.P)/\rs.length<=as.length+cs.length
 |[],as,nd=>⟨as,rfl,nd,λx=>by simp,by simp⟩
 |c::cs,as,nd=>by
  obtain⟨LU,e,n,m,l⟩:=Io as c;obtain⟨rs,e2,n2,m2,l2⟩:=CH cs LU (n nd);show⟨rs,?_,n2,λx=>?_,by rw[Yu];lia⟩
  ·rw[Yq,VG,e];show e2
  ·rw[m2,m,Yq,Yk,or_assoc]
theorem BL(cs:List Cm)(h:cs.length<306):∃rs:List Cm,nz (cs.map Cm.P)=some (rs.map Cm.P)/\(rs.map Cm.P).Nodup/\aR (rs.map Cm.P)/\∀x,x∈rs.map Cm.P↔x∈cs.map Cm.P:=by
 obtain⟨ds,e,nd,mm,hl⟩:=CH cs [] 2e9;have e:Ke (cs.map Cm.P)=ds.map Cm.P:=e;have hl:ds.length<=cs.length:=by simpa using hl
 have pm:=PD (j6 ds) (Hk ds);have ri:=PK (j6 ds) (Hk ds);obtain⟨rs,er,pr⟩:=nc Cm.P pm;rw[er]at ri pm;show⟨rs,?_,pm.nodup_iff.mpr nd,ri,λx=>?_⟩
 ·have hd:cj (cs.map Cm.P)<=2:=L8 (f:=Cm.P) uv cs
  ext nz;rw[if_pos,e,oK ds 1e0,er];rw[Hk,all_map isTup cs λt=>(zQ t).1,Yi];simp;lia
 ·rw[pm.mem_iff,mm];simp
def m1:aq->M PF:=a8 3 (cb cS (aa 4e0 af))
def m2:aq->M PF:=dO 4 (gA eB 5e5)
def m3:aq->M PF:=b7 (tx (au 4) (aa (cb cm (aa (au 3) (aa 9e1 (aa 5e7 (aa (aB 7e5 2e8 10e3) af))))) af))
def m4:aq->M PF:=cY (iq cz [] (aa (au 4) af))
theorem Bc:jd=aA m1 (aA m2 (aA (bO (dU (au 3)) (hName 5) m3) m4)):=rfl
theorem GZ{C:Cs}{L qs:List PV}(h:L.length+qs.length<100000):yF 9e7 [.v (.lst qs)] (C++9e4)=some (.v .aF,C++[.lst (L++qs)]):=by
 ext yF;simp[h]
theorem Ph{C:Cs}{L:List PV}:fj 9e7 (C++9e4)=some ((),C++9e4):=by
 ext fj;simp
section
variable{ls:List Lt}(s:Int)(C:Cs)(y:PV)
def mf(ls:List Lt)(l:Lt):List Cm:=Ln (df ls l) (dB ls l) l
def MS(ls:List Lt)(s:Int)(n:Nat)(y q:PV)(x5:Option SV):aq:=[#[.tup [.int s,y]],#[q],#[.aG [] []],#[DD ls],some (.c n),x5]
theorem Bs(l:Lt):(mf ls l).length<=2:=by unfold mf Ln;split<;>split<;>simp
theorem Bf(g:Good ls)(q:PV):∀(us:List Lt)(L:List PV)(x5:Option SV),(∀u∈us,u∈ls)->L.length+2*us.length<=1000->
  ∃y5,loop (hName 5) m3 (us.map Lt.P) (MS ls s C.length y q x5) (C++9e4)=some (.nx (MS ls s C.length y q y5),C++[.lst (L++(us.flatMap (mf ls)).map Cm.P)])
 |[],L,x5,_,_=>⟨x5,by simp[loop,Pu.ret]⟩
 |u::us,L,x5,hu,hl=>by
  rw[Yu]at hl;have e1:=pR g (hu u 6e7) s (C++9e4);rw[Nx]at e1;have hlen:((mf ls u).map Cm.P).length<=2:=by rw[Yi];show Bs u
  have e2:=GZ (C:=C) (L:=L) (qs:=(mf ls u).map Cm.P) 1e0;obtain⟨y5,e3⟩:=Bf g q us (L++(mf ls u).map Cm.P) #[u.P] (λv hv=>hu v (.tail _ hv)) (by rw[Yf];lia);show⟨y5,?_⟩;have e1:cm [.v (DD ls),.v u.P,.v (.aG [] []),.v (.int s)] (C++9e4)=some (.v (.lst ((mf ls u).map Cm.P)),C++9e4):=e1;have hb:m3 (MS ls s C.length y q #[u.P]) (C++9e4)=some (.nx (MS ls s C.length y q #[u.P]),C++[.lst (L++(mf ls u).map Cm.P)]):=by
   ext MS;have e0:=Ph (C:=C) (L:=L);have e4:gD (.tup [.int s,y]) (.int 0)=some (.int s):=rfl;generalize(mf ls u).map Cm.P=R at *;generalize C++[.lst (L++R)]=C2 at *;generalize C++9e4=C1 at *;generalize u.P=UP at *;sleep 4;generalize PV.aG [] []=E at *;generalize PV.tup [.int s,y]=T at *;simp![m3,tx,e0,e1,e4,e2]
  rw[Yq];ext loop;have hh:hName 5 u.P (MS ls s C.length y q x5)=some (MS ls s C.length y q #[u.P]):=rfl;simp only[hh,aI,hb,e3];simp
theorem jM{α β:Type}{f:α->List β}{n:Nat}:∀{l:List α},(∀x∈l,(f x).length<=n)->(l.flatMap f).length<=n*l.length
 |[],_=>by simp
 |x::l,h=>by
  have h1:=h x 6e7;have h2:=jM (f:=f) (n:=n) (l:=l) λy hy=>h y (.tail _ hy);rw[Wq,Yf,Yu,Nat.mul_add];lia
theorem Be(g:Good ls)(hb:Bd ls 5):∃(ts:List (Lt×Lt))(rs:List Cm),cH [.v (.tup [.int s,y]),.v 8e7,.v (.aG [] [])] C=some (rs.map Cm.P,C)/\(rs.map Cm.P).Nodup/\aR (rs.map Cm.P)/\(∀x,x∈rs.map Cm.P↔x∈ts.map gn\/x∈(ls.flatMap (mf ls)).map Cm.P)/\∀p,p∈ts↔p.1∈ls/\p.2∈ls/\p.1.fo=p.2.fo/\Ls p.1 p.2:=by
 have iE:=g.eo;have e1:=uE ls C 1e0;obtain⟨ts,e2,tl,tm⟩:=zO g hb C;have Qm:ts.map gn=(ts.map Cm.tw).map Cm.P:=by rw[Xc];rfl
 rw[Qm]at e2;have TR:=jM (f:=mf ls) (n:=2) (l:=ls) λx _=>Bs x;obtain⟨rs,e4,nd,ri,mm⟩:=BL (ts.map Cm.tw++ls.flatMap (mf ls)) (by rw[Yf,Yi];lia);show⟨ts,rs,?_,nd,ri,λx=>by rw[mm,YX,Ym,Qm],tm⟩;obtain⟨y5,e3⟩:=Bf s C y g 8e7 ls ((ts.map Cm.tw).map Cm.P) none (λ_ h=>h) (by rw[Yi,Yi];lia);rw[←YX]at e3;have s1:m1 [#[.tup [.int s,y]],#[.lst 3e3],#[.aG [] []],none,none,none] C=some (.nx [#[.tup [.int s,y]],#[.lst 3e3],#[.aG [] []],#[DD ls],none,none],C):=by
  have e1:cS [.v 8e7] C=some (.v (DD ls),C):=e1;generalize ls.map Lt.P=LS at *;sleep 4;simp![m1,e1]
 have s2:m2 [#[.tup [.int s,y]],#[.lst 3e3],#[.aG [] []],#[DD ls],none,none] C=some (.nx (MS ls s C.length y 8e7 none),C++[.lst ((ts.map Cm.tw).map Cm.P)]):=by
  ext MS;generalize ls.map Lt.P=LS at *;sleep 4;generalize(ts.map Cm.tw).map Cm.P=TS at *;simp![m2,dO,e2]
 have s3:bO (dU (au 3)) (hName 5) m3 (MS ls s C.length y 8e7 none) (C++[.lst ((ts.map Cm.tw).map Cm.P)])=some (.nx (MS ls s C.length y 8e7 y5),C++[.lst ((ts.map Cm.tw++ls.flatMap (mf ls)).map Cm.P)]):=by
  have hv:dU (au 3) (MS ls s C.length y 8e7 none) (C++[.lst ((ts.map Cm.tw).map Cm.P)])=some (ls.map Lt.P,C++[.lst ((ts.map Cm.tw).map Cm.P)]):=by
   have:(dF ls).2=ls.map Lt.P:=by rw[qz g.nd]
   rw[←this];rfl
  unfold bO aI;rw[hv];show e3
 have s4:m4 (MS ls s C.length y 8e7 y5) (C++[.lst ((ts.map Cm.tw++ls.flatMap (mf ls)).map Cm.P)])=some (.rf (rs.map Cm.P),C++[.lst ((ts.map Cm.tw++ls.flatMap (mf ls)).map Cm.P)]):=by
  have hf:dc (rs.map Cm.P)=true:=QN (f:=Cm.P) wL rs;have hF:cz [.v (.lst ((ts.map Cm.tw++ls.flatMap (mf ls)).map Cm.P))] []=some (rs.map Cm.P,[]):=by
   generalize(ts.map Cm.tw++ls.flatMap (mf ls)).map Cm.P=L at *;generalize rs.map Cm.P=R at *;simp![cz,dA,tq,t5,e4]
  generalize(ts.map Cm.tw++ls.flatMap (mf ls)).map Cm.P=L at *;generalize rs.map Cm.P=R at *;ext MS;simp![m4,iq,pickK,cA,eF,hF,hf,dH]
 have run:jd [#[.tup [.int s,y]],#[.lst 3e3],#[.aG [] []],none,none,none] C=some (.rf (rs.map Cm.P),C++[.lst ((ts.map Cm.tw++ls.flatMap (mf ls)).map Cm.P)]):=by
  rw[Bc,gK s1,gK s2,gK s3];show s4
 ext cH;generalize jd=bb at *;generalize(ts.map Cm.tw++ls.flatMap (mf ls)).map Cm.P=L at *;generalize rs.map Cm.P=R at *;generalize ls.map Lt.P=LS at *;simp[dA,run]
end
structure Bt where
 h:Str
 d:Str
 st:Int
 m:Nat
noncomputable def rn (b:Bt)(k:Nat):List Key:=[.inr b.h,.inr b.d,.inl (b.st+k)]
def Rg(b:Bt)(k:Nat)(x:Lt):Prop:=k<b.m/\x.n=b.st+k/\x.pv=b.st+((k+1)%b.m:Nat)
def Kd(b:Bt)(x:Lt):Prop:=(1<=x.n/\x.n<=5/\x.pv=x.n-1)\/(∃k,Rg b k x)\/(200<=x.n/\x.n<=203/\((∃k:Nat,k<b.m/\x.pv=b.st+k)\/(200<=x.pv/\x.pv<x.n)))
structure Bt.Ok(b:Bt):Prop where
 s1:10<=b.st
 s2:b.st<=99
 m1:1<=b.m
 m2:b.m<=9
 hl:b.h.length<=10
 dl:b.d.length<=10
structure Wd(bs:List Bt)(ls:List Lt):Prop where
 nd:(ls.map Lt.nm).Nodup
 eo:ls.length<=54
 kd:∀x∈ls,∃b∈bs,x.h=b.h/\x.d=b.d/\x.gs=[]/\Kd b x
 bt:∀b∈bs,b.Ok
 bd:(bs.map Bt.d).Nodup
 b3:bs.length<=3
theorem Zv{bs:List Bt}(nd:(bs.map Bt.d).Nodup){r q:Bt}(hr:r∈bs)(hq:q∈bs)(e:r.d=q.d):r=q:=by
 induction bs with
 |nil=>cases hr
 |cons x l ih=>
  rw[Yq,Xg]at nd;rcases Yk.mp hr with rfl|QE
  ·rcases Yk.mp hq with rfl|DF
   ·rfl
   ·show absurd (e▸Y7 DF) nd.1
  ·rcases Yk.mp hq with rfl|DF
   ·show absurd (e▸Y7 QE) nd.1
   ·show ih nd.2 QE DF
theorem yc{l m:Lt}(h:l.nm=m.nm):l.h=m.h/\l.d=m.d/\l.n=m.n:=by
 ext Lt.nm h;simpa using h
theorem OR{l m:Lt}(h:l.nm=m.fo):l.h=m.h/\l.d=m.d/\l.n=m.pv:=by
 unfold Lt.nm Lt.fo at h;simpa using h
theorem Nu{l m:Lt}(h:l.h=m.h)(d:l.d=m.d)(n:l.n=m.n):l.nm=m.nm:=by ext Lt.nm;rw[h,d,n]
theorem mL{l:Lt}{b:Bt}{k:Nat}:l.nm=rn b k↔l.h=b.h/\l.d=b.d/\l.n=b.st+k:=by
 unfold Lt.nm rn;simp
section
variable{bs:List Bt}{ls:List Lt}
theorem Wd.good(w:Wd bs ls):Good ls:=⟨w.nd,λl hl=>by
 obtain⟨b,hb,e1,e2,_⟩:=w.kd l hl;have o:=w.bt b hb;rw[e1,e2];show⟨o.hl,o.dl⟩,λl hl=>by
 obtain⟨b,hb,_,_,e,_⟩:=w.kd l hl;show e,w.eo⟩
theorem Wd.of(w:Wd bs ls){x:Lt}(hx:x∈ls){b:Bt}(hb:b∈bs)(e:x.d=b.d):x.h=b.h/\Kd b x:=by
 obtain⟨c,hc,e1,e2,_,k⟩:=w.kd x hx;have:c=b:=Zv w.bd hc hb (e2.symm.trans e);subst this;show⟨e1,k⟩
theorem vK{m j k:Nat}(hj:j<m)(hk:k<m)(h:(j+1)%m=(k+1)%m):j=k:=by
 have hm:∀i,i<m->(i+1)%m=if i+1=m then 0 else i+1:=λi hi=>by
  by_cases e:i+1=m
  ·rw[if_pos e,e,Nat.mod_self]
  ·rw[if_neg e,Ybu 1e0]
 rw[hm j hj,hm k hk]at h;split at h<;>split at h<;>lia
theorem Sz{g:List Lt}(nd:(g.map Lt.nm).Nodup)(h:∀x∈g,∀y∈g,x.fo=y.fo):(g.map Lt.n).Nodup:=by
 rw[Y0,Xq]at nd⊢;show nd.imp_of_mem λ{x y} hx hy c9 e=>c9 ?_;have hf:=h x hx y hy;ext Lt.fo hf;simp only[VJ,Rq,Rp,and_true]at hf;show Nu hf.1 hf.2.1 e
theorem Wd.bd5(w:Wd bs ls):Bd ls 5:=by
 intro g nd sub same;have hn:=Sz nd same;have base:∀x∈g,∀y∈g,x.n<200->y.n<200->x.n=y.n:=λx hx y hy h1 h2=>by
  have hf:=same x hx y hy;ext Lt.fo hf;simp only[VJ,Rq,Rp,and_true]at hf;obtain⟨b,hb,_,e2,_,k⟩:=w.kd x (sub x hx);obtain⟨_,k2⟩:=w.of (sub y hy) hb (hf.2.1.symm.trans e2);have o:=w.bt b hb;have:=o.s1;have hp:=hf.2.2;rcases k with⟨a1,a2,a3⟩|⟨i,a1,a2,a3⟩|⟨a1,_⟩
  ·rcases k2 with⟨b1,b2,b3⟩|⟨j,b1,b2,b3⟩|⟨b1,_⟩
   ·lia
   ·rw[hp,b3]at a3;lia
   ·lia
  ·rcases k2 with⟨b1,b2,b3⟩|⟨j,b1,b2,b3⟩|⟨b1,_⟩
   ·rw[hp,b3]at a3;lia
   ·have:i=j:=vK a1 b1 (by rw[hp,b3]at a3;lia)
    subst this;lia
   ·lia
  ·lia
 have big:∀x∈g,¬x.n<200->x.n=200\/x.n=201\/x.n=202\/x.n=203:=λx hx h=>by
  obtain⟨b,hb,_,e2,_,k⟩:=w.kd x (sub x hx);have o:=w.bt b hb;have h1:=o.s2;have h2:=o.m2;rcases k with⟨a1,a2,a3⟩|⟨i,a1,a2,a3⟩|⟨a1,a2,_⟩<;>lia
 by_cases hex:∃x∈g,x.n<200
 ·obtain⟨x,hx,S1⟩:=hex
  have:=len_sub (b:=[x.n,200,201,202,203]) hn λz hz=>by
   obtain⟨y,hy,rfl⟩:=Yz.mp hz;by_cases h:y.n<200
   ·rw[base x hx y hy S1 h];simp
   ·rcases big y hy h with q|q|q|q<;>rw[q]<;>simp
  rw[Yi]at this;simpa using this
 ·have:=len_sub (b:=[(200:Int),201,202,203]) hn λz hz=>by
   obtain⟨y,hy,rfl⟩:=Yz.mp hz;rcases big y hy (λq=>hex ⟨y,hy,q⟩)with q|q|q|q<;>rw[q]<;>simp
  rw[Yi]at this;have h4:g.length<=4:=by simpa using this
  lia
noncomputable def rk (x:Lt):Int:=if x.n<10 then x.n else if x.n<200 then 0 else x.n-199
theorem Wd.step(w:Wd bs ls){x y:Lt}(hx:x∈ls)(hy:y∈ls)(e:y.nm=x.fo):((x.n<10\/200<=x.n)->rk y<rk x)/\rk y<=rk x:=by
 obtain⟨b,hb,_,e2,_,k⟩:=w.kd x hx;have o:=w.bt b hb;have h1:=o.s1;have h2:=o.s2;have h3:=o.m2;have hn:=(OR e).2.2;ext rk;have m0:∀i,i%b.m<b.m:=λi=>Vu _ o.m1;rcases k with⟨a1,a2,a3⟩|⟨i,a1,a2,a3⟩|⟨a1,a2,⟨i,a3,a4⟩|a3⟩
 ·rw[if_pos (show y.n<10 by lia),if_pos (show x.n<10 by lia)];lia
 ·have:=m0 (i+1)
  rw[if_neg (show¬y.n<10 by lia),if_neg (show¬x.n<10 by lia),if_pos (show y.n<200 by lia),if_pos (show x.n<200 by lia)];show⟨λq=>by lia,Int.le_refl _⟩
 ·rw[if_neg (show¬y.n<10 by lia),if_neg (show¬x.n<10 by lia),if_pos (show y.n<200 by lia),if_neg (show¬x.n<200 by lia)]
  lia
 ·rw[if_neg (show¬y.n<10 by lia),if_neg (show¬x.n<10 by lia),if_neg (show¬y.n<200 by lia),if_neg (show¬x.n<200 by lia)]
  lia
theorem tJ{Pp:Lt->Prop}{l:Lt}(hl:Pp l)(cl:∀x y,x∈ls->y∈ls->y.nm=x.fo->Pp x->Pp y):∀{row:List Lt},(∀x∈row,x∈ls)->Lk row->(∃pre,row=pre++[l])->∀x∈row,Pp x
 |[],_,_,_=>λx h=>(nomatch h)
 |[a],_,_,⟨pre,e⟩=>λx h=>by
  have:a=l:=by
   cases pre with
   |nil=>simpa using e
   |cons p pre=>simp at e
  rw[Yj.mp h,this];show hl
 |a::b::r,sub,lk,⟨pre,e⟩=>by
  have ih:=tJ hl cl (row:=b::r) (λx h=>sub x (.tail _ h)) lk.2 (by
   cases pre with
   |nil=>simp at e
   |cons p pre=>rw[Vr]at e;show⟨pre,(XZ e).2⟩)
  intro x hx;rcases Yk.mp hx with rfl|hx
  ·show cl b x (sub b 2e9) (sub x 2e9) lk.1.symm (ih b 6e7)
  ·show ih x hx
theorem vT{l:Lt}:∀{a:Lt}{r:List Lt},Lk (a::r)->(∃pre,a::r=pre++[l])->∀x∈a::r,x=l\/∃z∈r,z.fo=x.nm
 |a,[],_,⟨pre,e⟩,x,h=>by
  have:a=l:=by
   cases pre with
   |nil=>simpa using e
   |cons p pre=>simp at e
  rw[Yj.mp h,this];show .inl rfl
 |a,b::r,lk,⟨pre,e⟩,x,h=>by
  rcases Yk.mp h with rfl|h
  ·show .inr ⟨b,.head _,lk.1⟩
  ·rcases vT lk.2 (by
    cases pre with
    |nil=>simp at e
    |cons p pre=>rw[Vr]at e;show⟨pre,(XZ e).2⟩) x h with q|⟨z,hz,q⟩
   ·show .inl q
   ·show .inr ⟨z,.tail _ hz,q⟩
theorem vS:∀{a:Lt}{r:List Lt},Lk (a::r)->∀x∈r,∃y∈a::r,x.fo=y.nm
 |a,b::r,lk,x,h=>by
  rcases Yk.mp h with rfl|h
  ·show⟨a,.head _,lk.1⟩
  ·obtain⟨y,hy,e⟩:=vS lk.2 x h
   show⟨y,.tail _ hy,e⟩
def full(ls:List Lt)(b:Bt):Bool:=(YB b.m).all λk=>bX (rn b k) (ls.map Lt.nm)
theorem jT{b:Bt}:full ls b=true↔∀k,k<b.m->∃l∈ls,l.nm=rn b k:=by
 ext full;rw[YW];constructor
 ·intro h k hk
  show Yz.mp (L3.mp (h k (Y1.mpr hk)))
 ·intro h k hk
  show L3.mpr (Yz.mpr (h k (Y1.mp hk)))
theorem Wd.Bn(w:Wd bs ls){l:Lt}(hl:l∈ls)(hk:l.n<10\/200<=l.n):dB ls l=false:=by
 have rC:ls.length<900:=by have:=w.eo;lia
 obtain⟨r1,r2,r3,r4,r5⟩:=sf w.good.uq rC hl;ext dB;cases hR:dN ls l.nm with
 |nil=>rfl
 |cons a r=>
  rw[hR]at r1 r2 r3 r4;have all:=tJ (ls:=ls) (Pp:=λx=>x=l\/rk x<rk l) 9e6 (λx y hx hy e h=>by
   obtain⟨s1,s2⟩:=w.step hx hy e;rcases h with rfl|h
   ·show .inr (s1 hk)
   ·show .inr (Int.lt_of_le_of_lt s2 h)) r2 r3 r4
  show decide_eq_false λe=>?_;obtain⟨s1,s2⟩:=w.step (r2 a 6e7) hl e.symm;rcases all a 6e7 with q|q
  ·subst q;show absurd (s1 hk) (Int.lt_irrefl _)
  ·lia
theorem Wd.ring(w:Wd bs ls){b:Bt}(hb:b∈bs){x:Lt}(hx:x∈ls){k:Nat}(hk:k<b.m)(e:x.nm=rn b k):Rg b k x:=by
 obtain⟨_,e2,e3⟩:=mL.mp e;obtain⟨_,q⟩:=w.of hx hb e2;have o:=w.bt b hb;have h1:=o.s1;have h2:=o.s2;have h3:=o.m2;rcases q with⟨a1,a2,a3⟩|⟨i,a1,a2,a3⟩|⟨a1,a2,_⟩
 ·lia
 ·have:i=k:=by lia
  subst this;show⟨a1,a2,a3⟩
 ·lia
theorem Wd.Ec(w:Wd bs ls){b:Bt}(hb:b∈bs)(x y:Lt)(hx:x∈ls)(hy:y∈ls)(e:y.nm=x.fo)(h:∃k,k<b.m/\x.nm=rn b k):∃k,k<b.m/\y.nm=rn b k:=by
 obtain⟨k,hk,e2⟩:=h;have r:=w.ring hb hx hk e2;obtain⟨h1,h2,h3⟩:=mL.mp e2;obtain⟨g1,g2,g3⟩:=OR e;show⟨(k+1)%b.m,Vu _ (w.bt b hb).m1,mL.mpr ⟨g1.trans h1,g2.trans h2,g3.trans r.2.2⟩⟩
theorem Wd.jL(w:Wd bs ls){b:Bt}(hb:b∈bs){l:Lt}(hl:l∈ls){k:Nat}(hk:k<b.m)(e:l.nm=rn b k):dB ls l=full ls b:=by
 have rC:ls.length<900:=by have:=w.eo;lia
 obtain⟨r1,r2,r3,r4,r5⟩:=sf w.good.uq rC hl;have uq:=w.good.uq;have m1:=(w.bt b hb).m1;ext dB;cases hR:dN ls l.nm with
 |nil=>rw[hR]at r4;obtain⟨pre,z⟩:=r4;simp at z
 |cons a r=>
  rw[hR]at r1 r2 r3 r4;have r5':=r5 a r hR;rw[hR]at r5';have all:=tJ (ls:=ls) (Pp:=λx=>∃k,k<b.m/\x.nm=rn b k) ⟨k,hk,e⟩ (w.Ec hb) r2 r3 r4;obtain⟨ja,hja,ea⟩:=all a 6e7;have ra:=w.ring hb (r2 a 6e7) hja ea;have fa:a.fo=rn b ((ja+1)%b.m):=by
   obtain⟨h1,h2,h3⟩:=mL.mp ea;unfold Lt.fo rn;rw[h1,h2,ra.2.2]
  sleep 6;have lin:l∈a::r:=by
   obtain⟨pre,z⟩:=r4;rw[z];simp
  cases hf:full ls b with
  |true=>
   have hf:=jT.mp hf;show decide_eq_true ?_;obtain⟨y,hy,ey⟩:=hf _ (Vu (ja+1) m1);rcases r5' with q|q
   ·show absurd (ey.trans fa.symm) (q y hy)
   ·obtain⟨x,hx,ex⟩:=Yz.mp q
    rcases vT r3 r4 x hx with z|⟨z,hz,ez⟩
    ·rw[←ex,z]
    ·exfalso
     obtain⟨jz,hjz,ezn⟩:=all z (.tail _ hz);have rz:=w.ring hb (r2 z (.tail _ hz)) hjz ezn;have:z.fo=a.fo:=ez.trans ex;have hp:z.pv=a.pv:=by
      ext Lt.fo this;simp only[VJ,Rq,Rp,and_true]at this;show this.2.2
     rw[rz.2.2,ra.2.2]at hp;have:jz=ja:=vK hjz hja 1e0;subst this;rw[Yq,Xg]at r1;show r1.1 (by rw[ea,←ezn];show Y7 hz)
  |false=>
   show decide_eq_false λez=>?_;have go:∀i:Nat,∃x∈a::r,x.nm=rn b ((k+i)%b.m):=by
    intro i;induction i with
    |zero=>show⟨l,lin,by rw[e,Nat.add_zero,Ybu hk]⟩
    |succ i ih=>
     obtain⟨x,hx,ex⟩:=ih;have rx:=w.ring hb (r2 x hx) (Vu _ m1) ex;have fx:x.fo=rn b (((k+i)%b.m+1)%b.m):=by
      obtain⟨h1,h2,h3⟩:=mL.mp ex;unfold Lt.fo rn;rw[h1,h2,rx.2.2]
     rw[Nat.mod_add_mod]at fx;rcases Yk.mp hx with rfl|rB
     ·show⟨l,lin,by rw[←ez,fx];rfl⟩
     ·obtain⟨y,hy,ey⟩:=vS r3 x rB
      show⟨y,hy,by rw[←ey,fx];rfl⟩
   have:full ls b=true:=jT.mpr λt ht=>by
    obtain⟨x,hx,ex⟩:=go (t+b.m-k);show⟨x,r2 x hx,?_⟩;rw[show k+(t+b.m-k)=t+b.m by lia,Nat.add_mod_right,Ybu ht]at ex;show ex
   rw[this]at hf;cases hf
end
theorem pC:∀ls:List Lt,hJ (ls.map λl=>.tup [tupK l.nm,l.P])=some (ls.map pr)
 |[]=>rfl
 |l::ls=>by
  rw[Yq];ext hJ;have:vz (.tup [tupK l.nm,l.P])=some (pr l):=by
   unfold tupK vz;sleep 6;rw[zD];rfl
  rw[this,pC ls];rfl
abbrev O5:aq->M SV:=a7 (aa (aW 2e8 iS (bJ 7e9)) 7e2)
theorem O6(ls:List Lt)(C:Cs):fZ (hName 0) ff O5 3e3 [none] [] C=some (ls.map λl=>.tup [tupK l.nm,l.P],C):=by
 have:=L6 (te:=O5) (f:=λp=>match p with|.tup (.str a::.str b::.int c::r)=>.tup [.tup [.str a,.str b,.int c],.tup (.str a::.str b::.int c::r)]|_=>.aF) (ls.map Lt.P) [none] [] C (λx hx=>by
  obtain⟨m,_,rfl⟩:=Yz.mp hx;simp[O5,a7,aa,af,aW,aI,au,iS,bJ,mC,dM,Pu.ret,Pu.intD,aM,eG,gd,Lt.P,Ki,Pu.plain])
 rw[this,WO,Xc];rfl
theorem named_eq(ls:List Lt)(hl:ls.length<300)(C:Cs):cw [.v 8e7] C=some (.v (.aG (dF ls).1 (dF ls).2),C):=by
 have hd:=O6 ls C;have hp:=pC ls;have hlen:(ls.map Lt.P).length<=100000:=by simp;lia
 have cD:(ls.map pr).length<=1000:=by simp;lia
 have qe:bM (ls.map pr) [] []=((dF ls).1,(dF ls).2):=rfl;have hb:ml=eM (iZ ie (aa (bF (bW (aL 2e8) ["_law_letter"] [] (hName 0) ff O5)) af)):=rfl;ext cw;rw[hb];generalize(ls.map λl=>PV.tup [tupK l.nm,l.P])=PP at hd hp;generalize ls.map pr=PR at hp cD qe;generalize(dF ls).1=K1 at *;generalize(dF ls).2=K2 at *;generalize hLS:ls.map Lt.P=LS at *;generalize O5=te at hd;simp[cN,eM,iZ,aa,af,bF,bW,aL,au,aI,dM,Pu.ret,dD,hlen,cX,hd,aM,ie,hp,cD,qe,fin]
def dJ(b:Bt):List PV:=(YB b.m).map λk=>tupK (rn b k)
def oo(b:Bt):List PV:=(YB b.m).map λk=>.tup [.str "loose",tupK (rn b k)]
section
variable{ls:List Lt}{R0 R1:PV}
def KS(ls:List Lt)(R0 R1:PV)(x4 x5 x6 x7:Option SV):aq:=[#[R0],#[R1],#[DD ls],some (.c 0),x4,x5,x6,x7]
def k1:aq->M PF:=ft (pS (iZ (g1 uK) (aa (bF (bW (aL (au 4)) ["_law_name"] [2] (hName 0) ff (aB (g2 (cI false)) 2e8 4e0))) af))) (b7 (tx (au 3) (aa (bF (bW (aL (au 4)) ["_law_name"] [] (hName 0) ff (a7 (aa (mC (.str "loose")) 7e2)))) af))) dz
def k2:aq->M PF:=a8 6 (aB 7e8 (aW 9e1 iS (bJ (mC (.int 2)))) (a7 (aa (aB 7e5 (aB (g2 gC) 5e7 9e1) 7e9) af)))
def k3:aq->M PF:=ft (cZ (bz (aB (g2 (cI false)) (au 6) 5e7)) (bz (aB (g2 GN) (aB 7e5 (aB (g2 gC) 5e7 (au 6)) (mC (.int 5))) (aB 7e5 (aB (g2 gC) 5e7 9e1) (mC (.int 5)))))) (b7 (eN (au 3) (aa (a7 (aa (mC (.str "back")) (aa 9e1 af))) af))) dz
def kA:aq->M Bool:=bz (aB (g2 yf) 9e1 (au 7))
def kB:aq->M Bool:=bz (aB (g2 (b8 aE)) (aW (au 7) iS (bJ (mC (.int 2)))) (aW 9e1 iS (bJ (mC (.int 2)))))
def kC:aq->M Bool:=bz (aB (g2 (b8 aE)) (aB 7e5 (aB (g2 gC) 5e7 (au 7)) 7e9) (aB 7e5 (aB (g2 gC) 5e7 9e1) 7e9))
def kD:aq->M PF:=b7 (eN (au 3) (aa (a7 (aa (mC (.str "twin")) (aa 9e1 (aa (au 7) af)))) af))
def k4:aq->M PF:=ft (cZ kA (cZ kB kC)) kD dz
def k5:aq->M PF:=aA k2 (aA k3 (bO (fF 5e7) (hName 7) k4))
theorem tN:fS=aA (a8 2 (cb cw 7e2)) (aA (dO 3 (dg af)) (aA (bO (aL 4e0) (hName 4) k1) (aA (bO (fF 5e7) (hName 5) k5) (cY (cB 5e5))))):=rfl
theorem Zo{L qs:List PV}(h:L.length+qs.length<100000):yF (.c 0) [.v (.lst qs)] 9e4=some (.v .aF,[.lst (L++qs)]):=GZ (C:=[]) h
theorem Jt{L:List PV}:fj (.c 0) 9e4=some ((),9e4):=Ph (C:=[])
theorem NQ(g:Good ls)(b:Bt)(hm:b.m<=9)(x5 x6 x7:Option SV)(L:List PV)(hL:L.length<=1000):
  k1 (KS ls R0 R1 #[.lst (dJ b)] x5 x6 x7) 9e4=some (.nx (KS ls R0 R1 #[.lst (dJ b)] x5 x6 x7),[.lst (L++if full ls b then oo b else[])]):=by
 have hlen:(dJ b).length<=100000:=by ext dJ;rw[Yi,X6];lia
 have c1:=L6 (te:=aB (g2 (cI false)) 2e8 4e0) (f:=λx=>.bl (bX ((match x with|.tup qs=>(bP qs).getD []|_=>[])) (ls.map Lt.nm))) (dJ b) [none,#[DD ls]] [] [.lst L] (λx hx=>by
  obtain⟨k,_,rfl⟩:=Yz.mp hx;have e1:=BO false (rn b k) (dF ls).1 (dF ls).2;rw[qz g.nd]at e1;have e1:cI false (tupK (rn b k)) (DD ls)=some (.bl (bX (rn b k) (ls.map Lt.nm))):=by ext DD;rw[qz g.nd];show e1
  have e2:(match tupK (rn b k)with|.tup qs=>(bP qs).getD []|_=>[])=rn b k:=by ext tupK;simp only[zD];rfl
  rw[e2];generalize bX (rn b k) (ls.map Lt.nm)=bb at *;generalize tupK (rn b k)=T at *;sleep 4;simp![e1])
 rw[WO]at c1;have e1:(dJ b).map (λx=>PV.bl (bX ((match x with|.tup qs=>(bP qs).getD []|_=>[])) (ls.map Lt.nm)))=(YB b.m).map λk=>.bl (bX (rn b k) (ls.map Lt.nm)):=by
  ext dJ;rw[Xc];apply Yai;intro k _;change PV.bl (bX (match tupK (rn b k)with|.tup qs=>(bP qs).getD []|_=>[]) (ls.map Lt.nm))=_;ext tupK;simp only[zD];rfl
 rw[e1]at c1;have hb:=l4 (λk=>bX (rn b k) (ls.map Lt.nm)) (YB b.m);have hf:((YB b.m).map λk=>bX (rn b k) (ls.map Lt.nm)).all id=full ls b:=by ext full;rw[List.all_map];rfl
 have c2:=L6 (te:=a7 (aa (mC (.str "loose")) 7e2)) (f:=λx=>.tup [.str "loose",x]) (dJ b) [none] [] 9e4 (λx hx=>by simp![]);rw[WO]at c2;have e2:(dJ b).map (λx=>PV.tup [.str "loose",x])=oo b:=by unfold dJ oo;rw[Xc];rfl
 rw[e2]at c2;have ot:(oo b).length<=9:=by ext oo;rw[Yi,X6];show hm
 have e3:=Zo (L:=L) (qs:=oo b) 1e0;have e4:=Jt (L:=L);have t1:pS (iZ (g1 uK) (aa (bF (bW (aL (au 4)) ["_law_name"] [2] (hName 0) ff (aB (g2 (cI false)) 2e8 4e0))) af)) (KS ls R0 R1 #[.lst (dJ b)] x5 x6 x7) 9e4=some (full ls b,9e4):=by
  ext KS;generalize((YB b.m).map λk=>bX (rn b k) (ls.map Lt.nm))=BS at *;generalize((YB b.m).map λk=>PV.bl (bX (rn b k) (ls.map Lt.nm)))=VS at *;generalize dJ b=G at *;sleep 4;generalize[PV.lst L]=C at *;generalize aB (g2 (cI false)) 2e8 4e0=te at *;simp![bW,aL,dD,hlen,cX,c1,uK,hb];show hf
 ext k1;cases TR:full ls b with
 |false=>
  rw[TR]at t1;rw[mF t1];simp
 |true=>
  rw[TR]at t1;rw[Jw t1,if_pos rfl];ext KS;generalize oo b=Q at *;generalize dJ b=G at *;sleep 4;generalize[PV.lst (L++Q)]=C2 at *;generalize[PV.lst L]=C at *;generalize a7 (aa (mC (.str "loose")) 7e2)=te at *;simp![tx,bW,aL,dD,hlen,cX,c2,e3,e4]
theorem we(g:Good ls)(x5 x6 x7:Option SV):∀(bs:List Bt)(x4:Option SV)(L:List PV),(∀b∈bs,b.m<=9)->L.length+9*bs.length<=1000->
  ∃y4,loop (hName 4) k1 3e6 (KS ls R0 R1 x4 x5 x6 x7) 9e4=some (.nx (KS ls R0 R1 y4 x5 x6 x7),[.lst (L++bs.flatMap λb=>if full ls b then oo b else[])])
 |[],x4,L,_,_=>⟨x4,by simp[loop,Pu.ret]⟩
 |b::bs,x4,L,hm,hl=>by
  rw[Yu]at hl;have e1:=NQ (R0:=R0) (R1:=R1) g b (hm b 6e7) x5 x6 x7 L 1e0;have hlen:(if full ls b then oo b else[]).length<=9:=by
   split
   ·ext oo;rw[Yi,X6];show hm b 6e7
   ·simp
  obtain⟨y4,e2⟩:=we g x5 x6 x7 bs #[.lst (dJ b)] (L++if full ls b then oo b else[]) (λc hc=>hm c (.tail _ hc)) (by rw[Yf];lia);show⟨y4,?_⟩;rw[Yq];ext loop;have hh:hName 4 (.lst (dJ b)) (KS ls R0 R1 x4 x5 x6 x7)=some (KS ls R0 R1 #[.lst (dJ b)] x5 x6 x7):=rfl;simp only[hh,aI,e1,e2];simp
theorem O7(l:Lt):fI [PV.str l.h,.str l.d,.int l.n] none (some 2)=[.str l.h,.str l.d]:=by simp[fI,HT.bI]
theorem rA(l:Lt):gd none (some 2) (aH l)=some (.tup [.str l.h,.str l.d]):=by
 ext aH;rw[A0];simp[gd,O7]
theorem P_3(l:Lt):gD l.P (.int 3)=some (.int l.pv):=by simp[Lt.P,gD,yl,gR,kH]
theorem F7(g:Good ls){l:Lt}(h:l∈ls):gC (DD ls) (aH l)=some l.P:=Le g.uq (nq g.uq h)
theorem NP(g:Good ls){l:Lt}(h:l∈ls)(x4 x6 x7:Option SV)(C:Cs):k2 (KS ls R0 R1 x4 #[aH l] x6 x7) C=some (.nx (KS ls R0 R1 x4 #[aH l] #[tupK l.fo] x7),C):=by
 have e1:=F7 g h;have e2:=P_3 l;have e3:=rA l;have e4:fJ (.tup [.str l.h,.str l.d]) (.tup [.int l.pv])=some (tupK l.fo):=by rw[OS];rfl
 ext KS;generalize aH l=N at *;generalize l.P=LP at *;sleep 4;generalize tupK l.fo=FO at *;generalize PV.tup [.str l.h,.str l.d]=HD at *;simp[k2,a8,aB,aW,a7,aa,af,aI,au,iS,bJ,mC,dM,Pu.ret,Pu.intD,aM,eG,g2,e1,e2,e3,e4,Pu.plain]
theorem Pf{L:List PV}{q:PV}(h:L.length<100000):nZ (.c 0) [.v q] 9e4=some (.v .aF,[.lst (L++[q])]):=by
 ext nZ;simp[h]
theorem NO(g:Good ls){l:Lt}(h:l∈ls)(x4 x7:Option SV)(L:List PV)(hL:L.length<100000):
  k3 (KS ls R0 R1 x4 #[aH l] #[tupK l.fo] x7) 9e4=some (.nx (KS ls R0 R1 x4 #[aH l] #[tupK l.fo] x7),[.lst (L++if df ls l then[uz "back" l]else[])]):=by
 have e0:=P' g.uq l.fo;have e1:=F7 g h;have e2:=RE l;have e5:=Pf (q:=uz "back" l) hL;have e6:uz "back" l=.tup [.str "back",aH l]:=rfl;unfold df KS k3;cases e:look ls l.fo with
 |none=>
  rw[e]at e0;have e0:cI false (tupK l.fo) (DD ls)=some (.bl false):=e0;generalize tupK l.fo=FO at *;sleep 4;simp![e0]
 |some m=>
  rw[e]at e0;have e0:cI false (tupK l.fo) (DD ls)=some (.bl true):=e0;have e3:=Le g.uq e;have e4:=RE m;rw[e6]at e5⊢;generalize tupK l.fo=FO at *;sleep 4;generalize aH l=N at *;generalize l.P=LP at *;generalize m.P=MP at *;by_cases ht:l.t<m.t
  ·have Lu:decide (l.t<m.t)=true:=decide_eq_true ht
   simp only[Lu,if_true];simp![e0,e1,e2,e3,e4,GN,ht,eN,Jt,e5]
  ·have Lu:decide (l.t<m.t)=false:=decide_eq_false ht
   simp only[Lu];simp![e0,e1,e2,e3,e4,GN,ht]
def rN(l q:Lt):Bool:=lT (aH l) (aH q)&&decide (l.fo=q.fo)
theorem ES(l q:Lt):yf (aH l) (aH q)=some (.bl (lT (aH l) (aH q))):=by
 have h1:dat (aH l)=true:=KJ l.nm;have h2:dat (aH q)=true:=KJ q.nm;have h3:dep (aH l)<=60:=by have:dep (aH l)<=1:=L7 l.nm;lia
 ext yf;rw[h1,h2,tF,if_pos (by simp[h3])];rfl
theorem Fz(q l:Lt):b8 aE (.tup [.str q.h,.str q.d]) (.tup [.str l.h,.str l.d])=some (.bl (decide (q.h=l.h/\q.d=l.d))):=by
 have:=lX [.inr q.h,.inr q.d] [.inr l.h,.inr l.d];rw[show decide (([.inr q.h,.inr q.d]:List Key)=[.inr l.h,.inr l.d])=decide (q.h=l.h/\q.d=l.d) by simp]at this;show this
theorem qy(a b:Int):b8 aE (.int a) (.int b)=some (.bl (decide (a=b))):=by
 ext b8;rw[if_pos (by simp[dat,dep])]
 congr 2
theorem NN(g:Good ls){l q:Lt}(h:l∈ls)(hq:q∈ls)(x4 x6:Option SV)(L:List PV)(hL:L.length<100000):
  k4 9e2 9e4=some (.nx 9e2,[.lst (L++if rN l q then[gn (l,q)]else[])]):=by
 have e1:=F7 g h;have e2:=F7 g hq;have e3:=P_3 l;have e4:=P_3 q;have e5:=rA l;have e6:=rA q;have e7:=ES l q;have e8:=Fz q l;have e9:=qy q.pv l.pv;have QJ:=Pf (q:=gn (l,q)) hL;have tA:kA 9e2 9e4=some (lT (aH l) (aH q),9e4):=by
  unfold KS kA;generalize lT (aH l) (aH q)=b at *;generalize aH l=N at *;generalize aH q=M at *;sleep 4;simp![e7]
 have tB:kB 9e2 9e4=some (decide (q.h=l.h/\q.d=l.d),9e4):=by
  unfold KS kB;generalize decide (q.h=l.h/\q.d=l.d)=b at *;generalize PV.tup [.str l.h,.str l.d]=HL at *;generalize PV.tup [.str q.h,.str q.d]=HQ at *;generalize aH l=N at *;generalize aH q=M at *;sleep 4;simp[bz,aB,aW,aI,au,iS,bJ,mC,dM,Pu.ret,Pu.intD,aM,eG,g2,e5,e6,e8,mB,LO]
 have tC:kC 9e2 9e4=some (decide (q.pv=l.pv),9e4):=by
  unfold KS kC;generalize decide (q.pv=l.pv)=b at *;generalize PV.int q.pv=QP at *;generalize PV.int l.pv=LQ at *;generalize aH l=N at *;generalize aH q=M at *;generalize l.P=LP at *;generalize q.P=MP at *;sleep 4;simp![e1,e2,e3,e4,e9]
 have tD:kD 9e2 9e4=some (.nx 9e2,[.lst (L++[gn (l,q)])]):=by
  unfold KS kD;have e11:gn (l,q)=.tup [.str "twin",aH l,aH q]:=rfl;rw[e11]at QJ⊢;generalize aH l=N at *;generalize aH q=M at *;sleep 4;simp![eN,Jt,QJ]
 have ee:rN l q=(lT (aH l) (aH q)&&(decide (q.h=l.h/\q.d=l.d)&&decide (q.pv=l.pv))):=by
  ext rN
  congr 1
  rw[WJ,decide_eq_true_iff,YI,decide_eq_true_iff,decide_eq_true_iff];ext Lt.fo;simp only[VJ,Rq,Rp,and_true];show⟨λ⟨a,b,c⟩=>⟨⟨a.symm,b.symm⟩,c.symm⟩,λ⟨⟨a,b⟩,c⟩=>⟨a.symm,b.symm,c.symm⟩⟩
 have tt:cZ kA (cZ kB kC) 9e2 9e4=some (rN l q,9e4):=by
  rw[ee];generalize lT (aH l) (aH q)=b1 at *;generalize decide (q.h=l.h/\q.d=l.d)=b2 at *;generalize decide (q.pv=l.pv)=b3 at *;unfold cZ aI;rw[tA];cases b1 with
  |false=>rfl
  |true=>
   simp only[if_true];rw[tB];cases b2 with
   |false=>rfl
   |true=>simp only[if_true];rw[tC];rfl
 ext k4;cases hb:rN l q with
 |false=>rw[hb]at tt;rw[mF tt];simp
 |true=>rw[hb]at tt;rw[Jw tt,tD,if_pos rfl]
theorem wc(g:Good ls){l:Lt}(h:l∈ls)(x4 x6:Option SV):∀(qs:List Lt)(x7:Option SV)(L:List PV),(∀q∈qs,q∈ls)->L.length+qs.length<=10000->
  ∃y7,loop (hName 7) k4 (qs.map aH) (KS ls R0 R1 x4 #[aH l] x6 x7) 9e4=some (.nx (KS ls R0 R1 x4 #[aH l] x6 y7),[.lst (L++(qs.filter (rN l)).map λq=>gn (l,q))])
 |[],x7,L,_,_=>⟨x7,by simp[loop,Pu.ret]⟩
 |q::qs,x7,L,hs,hl=>by
  rw[Yu]at hl;have e1:=NN (R0:=R0) (R1:=R1) g h (hs q 6e7) x4 x6 L 1e0;have hlen:(if rN l q then[gn (l,q)]else[]).length<=1:=by split<;>simp
  obtain⟨y7,e2⟩:=wc g h x4 x6 qs #[aH q] (L++if rN l q then[gn (l,q)]else[]) (λc hc=>hs c (.tail _ hc)) (by rw[Yf];lia);show⟨y7,?_⟩;rw[Yq];ext loop;have hh:hName 7 (aH q) (KS ls R0 R1 x4 #[aH l] x6 x7)=some 9e2:=rfl;simp only[hh,aI,e1,e2];rw[List.filter_cons];cases rN l q<;>simp
theorem BA(g:Good ls)(x4 x5 x6 x7:Option SV)(C:Cs):fF 5e7 (KS ls R0 R1 x4 x5 x6 x7) C=some (ls.map aH,C):=by
 have hk:=v3 g;have hn:(ls.map Lt.nm).map tupK=ls.map aH:=by rw[Xc];rfl
 have:v9 (.v (DD ls))=some (ls.map aH):=by
  unfold DD v9;rw[qz g.nd];change(if keysOk (ls.map Lt.nm)then some ((ls.map Lt.nm).map tupK)else none)=_;rw[if_pos hk,hn]
 unfold fF KS;sleep 4;simp[aI,au,dM,this]
def nO(ls:List Lt)(l:Lt):List PV:=(if df ls l then[uz "back" l]else[])++(ls.filter (rN l)).map λq=>gn (l,q)
theorem NL(g:Good ls){l:Lt}(h:l∈ls)(x4 x6 x7:Option SV)(L:List PV)(hL:L.length<=9000):
  ∃y6 y7,k5 (KS ls R0 R1 x4 #[aH l] x6 x7) 9e4=some (.nx (KS ls R0 R1 x4 #[aH l] y6 y7),[.lst (L++nO ls l)]):=by
 have hlen:(if df ls l then[uz "back" l]else[]).length<=1:=by split<;>simp
 have iE:=g.eo;obtain⟨y7,e⟩:=wc (R0:=R0) (R1:=R1) g h x4 #[tupK l.fo] ls x7 (L++if df ls l then[uz "back" l]else[]) (λ_ z=>z) (by rw[Yf];lia);show⟨#[tupK l.fo],y7,?_⟩;ext k5;rw[gK (NP g h x4 x6 x7 _),gK (NO g h x4 x7 L 1e0)];unfold bO aI;rw[BA g];sleep 6;rw[e];ext nO;rw[Yd]
theorem wb(g:Good ls)(x4:Option SV):∀(us:List Lt)(x5 x6 x7:Option SV)(L:List PV),(∀q∈us,q∈ls)->L.length+55*us.length<=9000->
  ∃y5 y6 y7,loop (hName 5) k5 (us.map aH) (KS ls R0 R1 x4 x5 x6 x7) 9e4=some (.nx (KS ls R0 R1 x4 y5 y6 y7),[.lst (L++us.flatMap (nO ls))])
 |[],x5,x6,x7,L,_,_=>⟨x5,x6,x7,by simp[loop,Pu.ret]⟩
 |u::us,x5,x6,x7,L,hs,hl=>by
  rw[Yu]at hl;obtain⟨z6,z7,e1⟩:=NL (R0:=R0) (R1:=R1) g (hs u 6e7) x4 x6 x7 L 1e0;have hlen:(nO ls u).length<=55:=by
   ext nO;have h1:=List.length_filter_le (rN u) ls;have h2:=g.eo;have h3:(if df ls u then[uz "back" u]else[]).length<=1:=by split<;>simp
   rw[Yf,Yi];lia
  obtain⟨y5,y6,y7,e2⟩:=wb g x4 us #[aH u] z6 z7 (L++nO ls u) (λc hc=>hs c (.tail _ hc)) (by rw[Yf];lia);show⟨y5,y6,y7,?_⟩;rw[Yq];ext loop;have hh:hName 5 (aH u) (KS ls R0 R1 x4 x5 x6 x7)=some (KS ls R0 R1 x4 #[aH u] x6 x7):=rfl;simp only[hh,aI,e1,e2];simp
end
def gl(ls:List Lt)(b:Bt):List Lt:=(YB b.m).filterMap λk=>look ls (rn b k)
def Bo(ls:List Lt)(b:Bt):List Cm:=if full ls b then(gl ls b).map (.cl false)else[]
def Cr(ls:List Lt)(l:Lt):List Cm:=(if df ls l then[.cl true l]else[])++(ls.filter (rN l)).map λq=>.tw (l,q)
def kI(bs:List Bt)(ls:List Lt):List Cm:=bs.flatMap (Bo ls)++ls.flatMap (Cr ls)
section
variable{bs:List Bt}{ls:List Lt}
theorem wH{b:Bt}(h:full ls b=true):(gl ls b).map Lt.nm=(YB b.m).map (rn b):=by
 have h:=jT.mp h;ext gl;have:∀ks:List Nat,(∀k∈ks,k<b.m)->(ks.filterMap λk=>look ls (rn b k)).map Lt.nm=ks.map (rn b):=by
  intro ks;induction ks with
  |nil=>intro _;rfl
  |cons k ks ih=>
   intro hk;obtain⟨l,hl,e⟩:=h k (hk k 6e7);cases e2:look ls (rn b k)with
   |none=>show absurd e (KH e2 l hl)
   |some m=>
    rw[WH,e2,Yq,Yq,ih λj hj=>hk j (.tail _ hj),(DK e2).2]
 show this _ λk hk=>Y1.mp hk
theorem Gw(b:Bt):(if full ls b then oo b else[])=(Bo ls b).map Cm.P:=by
 ext Bo;cases h:full ls b with
 |false=>rfl
 |true=>
  simp only[if_true];rw[Xc];have e:(gl ls b).map (Cm.P∘Cm.cl false)=((gl ls b).map Lt.nm).map λn=>.tup [.str "loose",tupK n]:=by rw[Xc];rfl
  rw[e,wH h,Xc];rfl
theorem O4(l:Lt):nO ls l=(Cr ls l).map Cm.P:=by
 unfold nO Cr;rw[YX,Xc]
 congr 1
 cases df ls l<;>rfl
theorem ud{α:Type}{f:α->List PV}{g:α->List Cm}(h:∀a,f a=(g a).map Cm.P):∀l:List α,l.flatMap f=(l.flatMap g).map Cm.P
 |[]=>rfl
 |a::l=>by rw[Wq,Wq,YX,h a,ud h l]
theorem OT:(bs.flatMap λb=>if full ls b then oo b else[])++ls.flatMap (nO ls)=(kI bs ls).map Cm.P:=by
 ext kI;rw[YX,ud Gw bs,ud O4 ls]
theorem vV{b:Bt}(h:b.m<=9):(Bo ls b).length<=9:=by
 ext Bo;split
 ·rw[Yi];ext gl
  show Xb (List.length_filterMap_le _ _) (by rw[X6];show h)
 ·simp
theorem EV(h:ls.length<=54)(l:Lt):(Cr ls l).length<=55:=by
 ext Cr;have h1:=List.length_filter_le (rN l) ls;have h3:(if df ls l then[Cm.cl true l]else[]).length<=1:=by split<;>simp
 rw[Yf,Yi];lia
theorem EU(w:Wd bs ls):(kI bs ls).length<=2997:=by
 have h1:=jM (f:=Bo ls) (n:=9) (l:=bs) λb hb=>vV (w.bt b hb).m2;have h2:=jM (f:=Cr ls) (n:=55) (l:=ls) λl _=>EV w.eo l;have h3:=w.eo;have h4:=w.b3;ext kI;rw[Yf];lia
theorem tO(w:Wd bs ls):∃rs:List Cm,cT [.v 8e7,.v (.lst 3e6)] []=some (rs.map Cm.P,[])/\aR (rs.map Cm.P)/\rs.Perm (kI bs ls):=by
 have g:=w.good;have iE:=g.eo;have hb3:=w.b3;have e1:=named_eq ls 1e0 [];obtain⟨y4,e2⟩:=we (R0:=.lst 3e3) (R1:=.lst 3e6) g none none none bs none [] (λb hb=>(w.bt b hb).m2) 6e3;have JF:(bs.flatMap λb=>if full ls b then oo b else[]).length<=27:=by
  have:=jM (f:=λb=>if full ls b then oo b else[]) (n:=9) (l:=bs) λb hb=>by
   rw[Gw,Yi];show vV (w.bt b hb).m2
  lia
 rw[WO]at e2;obtain⟨y5,y6,y7,e3⟩:=wb (R0:=.lst 3e3) (R1:=.lst 3e6) g y4 ls none none none (bs.flatMap λb=>if full ls b then oo b else[]) (λ_ h=>h) 1e0;rw[OT]at e3;have hlen:=EU w;obtain⟨rs,er,pr⟩:=nc Cm.P (PD (j6 (kI bs ls)) (Hk (kI bs ls)));have ri:=PK (j6 (kI bs ls)) (Hk (kI bs ls));have e4:=oK (kI bs ls) 1e0;rw[er]at ri e4;show⟨rs,?_,ri,pr⟩;have s1:a8 2 (cb cw 7e2) [#[.lst 3e3],#[.lst 3e6],none,none,none,none,none,none] []=some (.nx [#[.lst 3e3],#[.lst 3e6],#[DD ls],none,none,none,none,none],[]):=by
  have e1:cw [.v 8e7] []=some (.v (DD ls),[]):=e1;generalize PV.lst 3e6=RG at *;generalize PV.lst 3e3=LS at *;sleep 4;simp![e1]
 have s2:dO 3 (dg af) [#[.lst 3e3],#[.lst 3e6],#[DD ls],none,none,none,none,none] []=some (.nx (KS ls 8e7 (.lst 3e6) none none none none),[.lst []]):=rfl;have s3:bO (aL 4e0) (hName 4) k1 (KS ls 8e7 (.lst 3e6) none none none none) [.lst []]=some (.nx (KS ls 8e7 (.lst 3e6) y4 none none none),[.lst (bs.flatMap λb=>if full ls b then oo b else[])]):=by
  have hi:aL 4e0 (KS ls 8e7 (.lst 3e6) none none none none) [.lst []]=some (bs.map λb=>.lst (dJ b),[.lst []]):=by
   have hl:(bs.map λb=>PV.lst (dJ b)).length<=100000:=by rw[Yi];lia
   ext KS;generalize(bs.map λb=>PV.lst (dJ b))=RG at *;sleep 4;simp![aL,dD,hl]
  unfold bO aI;rw[hi];show e2
 have s4:bO (fF 5e7) (hName 5) k5 (KS ls 8e7 (.lst 3e6) y4 none none none) [.lst (bs.flatMap λb=>if full ls b then oo b else[])]=some (.nx (KS ls 8e7 (.lst 3e6) y4 y5 y6 y7),[.lst ((kI bs ls).map Cm.P)]):=by
  unfold bO aI;rw[BA g];show e3
 have s5:cY (cB 5e5) (KS ls 8e7 (.lst 3e6) y4 y5 y6 y7) [.lst ((kI bs ls).map Cm.P)]=some (.rf (rs.map Cm.P),[.lst ((kI bs ls).map Cm.P)]):=by
  have:fC [.lst ((kI bs ls).map Cm.P)] [.c 0]=some (rs.map Cm.P):=e4;ext KS;generalize(kI bs ls).map Cm.P=F at *;generalize rs.map Cm.P=R at *;sleep 4;simp![cB,this]
 have run:fS [#[.lst 3e3],#[.lst 3e6],none,none,none,none,none,none] []=some (.rf (rs.map Cm.P),[.lst ((kI bs ls).map Cm.P)]):=by
  rw[tN,gK s1,gK s2,gK s3,gK s4];show s5
 ext cT;generalize fS=bb at *;generalize PV.lst 3e6=RG at *;generalize PV.lst 3e3=LS at *;simp[dA,run]
theorem Gs{α β:Type}{f:α->List β}{l:List α}(h1:∀a∈l,(f a).Nodup)(h2:l.Pairwise λa b=>∀x∈f a,∀y∈f b,x≠y):(l.flatMap f).Nodup:=by
 rw[Y0,List.pairwise_flatMap];show⟨λa ha=>Y0.mp (h1 a ha),h2⟩
theorem CP{v v2:Bool}{l l2:Lt}(h:(Cm.cl v l).P=(Cm.cl v2 l2).P):l.nm=l2.nm:=by
 have:=(XZ (XZ (PV.tup.inj h)).2).1;show L' this
theorem FH{v v2:Bool}{l l2:Lt}(h:(Cm.cl v l).P=(Cm.cl v2 l2).P):v=v2:=by
 have h1:(PV.str (if v then "back" else "loose"))=.str (if v2 then "back" else "loose"):=(XZ (PV.tup.inj h)).1;have h2:=PV.str.inj h1;cases v<;>cases v2<;>first|rfl|(show absurd h2 5e3)
theorem zP{p q:Lt×Lt}(h:(Cm.tw p).P=(Cm.tw q).P):p.1.nm=q.1.nm/\p.2.nm=q.2.nm:=by
 have:=(XZ (PV.tup.inj h)).2;show⟨L' (XZ this).1,L' (XZ (XZ this).2).1⟩
theorem wO{v:Bool}{l:Lt}{p:Lt×Lt}:(Cm.cl v l).P≠(Cm.tw p).P:=λh=>by
 have h1:(PV.str (if v then "back" else "loose"))=.str "twin":=(XZ (PV.tup.inj h)).1;have h2:=PV.str.inj h1;cases v<;>show absurd h2 5e3
theorem Wd.JW(w:Wd bs ls):((kI bs ls).map Cm.P).Nodup:=by
 ext kI;rw[YX,Xh,WU,WU];have uq:=w.good.uq;have lo:∀b,∀x∈(Bo ls b).map Cm.P,full ls b=true/\∃l∈gl ls b,x=(Cm.cl false l).P:=λb x hx=>by
  obtain⟨c,hc,rfl⟩:=Yz.mp hx;ext Bo hc;split at hc
  ·rename_i hf
   obtain⟨l,hl,rfl⟩:=Yz.mp hc;show⟨hf,l,hl,rfl⟩
  ·cases hc
 have du:∀l,∀x∈(Cr ls l).map Cm.P,x=(Cm.cl true l).P\/∃q∈ls,x=(Cm.tw (l,q)).P:=λl x hx=>by
  obtain⟨c,hc,rfl⟩:=Yz.mp hx;rcases Ym.mp hc with hc|hc
  ·split at hc
   ·rw[Yj.mp hc];show .inl rfl
   ·cases hc
  ·obtain⟨q,hq,rfl⟩:=Yz.mp hc
   show .inr ⟨q,(Ui.mp hq).1,rfl⟩
 show⟨Gs (λb hb=>?_) ?_,Gs (λl hl=>?_) ?_,λx hx y hy e=>?_⟩
 ·ext Bo
  split
  ·rename_i hf
   rw[Xc];have e:(gl ls b).map (Cm.P∘Cm.cl false)=((gl ls b).map Lt.nm).map λn=>.tup [.str "loose",tupK n]:=by rw[Xc];rfl
   rw[e,wH hf,Xc,Y0,Xq];show(Y0.mp UT).imp λ{i j} c9 z=>c9 ?_;have h1:=L' (XZ (XZ (PV.tup.inj z)).2).1;ext rn h1;simp at h1;lia
  ·show List.nodup_nil
 ·have:=w.bd
  rw[Y0,Xq]at this;show this.imp λ{a b} c9 x hx y hy z=>c9 ?_;obtain⟨hf,l,hl,rfl⟩:=lo a x hx;obtain⟨TU,l2,ot,rfl⟩:=lo b y hy;have e:=CP z;have m1:l.nm∈(YB a.m).map (rn a):=by rw[←wH hf];show Y7 hl
  have m2:l2.nm∈(YB b.m).map (rn b):=by rw[←wH TU];show Y7 ot
  obtain⟨i,_,e1⟩:=Yz.mp m1;obtain⟨j,_,e2⟩:=Yz.mp m2;rw[←(mL.mp e1.symm).2.1,←(mL.mp e2.symm).2.1];show(yc e).2.1
 ·ext Cr
  rw[YX,Xh];show⟨by split<;>simp,?_,λx hx y hy e=>?_⟩
  ·rw[Xc,Y0,Xq]
   have:=w.nd;rw[Y0,Xq]at this;show(this.sublist List.filter_sublist).imp λ{p q} c9 z=>c9 (zP z).2
  ·obtain⟨c,hc,rfl⟩:=Yz.mp hx
   obtain⟨d,hd,rfl⟩:=Yz.mp hy;obtain⟨q,hq,rfl⟩:=Yz.mp hd;split at hc
   ·rw[Yj.mp hc]at e;show wO e
   ·cases hc
 ·have:=w.nd
  rw[Y0,Xq]at this;show this.imp λ{a b} c9 x hx y hy z=>c9 ?_;rcases du a x hx with rfl|⟨p,_,rfl⟩
  ·rcases du b y hy with rfl|⟨q,_,rfl⟩
   ·show CP z
   ·show absurd z wO
  ·rcases du b y hy with rfl|⟨q,_,rfl⟩
   ·show absurd z.symm wO
   ·show(zP z).1
 ·obtain⟨b,_,hx⟩:=WV.mp hx
  obtain⟨l,_,hy⟩:=WV.mp hy;obtain⟨_,q,_,rfl⟩:=lo b x hx;rcases du l y hy with rfl|⟨p,_,rfl⟩
  ·show absurd (FH e) 1e7
  ·show wO e
theorem Wd.same(w:Wd bs ls){ts:List (Lt×Lt)}(tm:∀p,p∈ts↔p.1∈ls/\p.2∈ls/\p.1.fo=p.2.fo/\Ls p.1 p.2)(x:PV):(x∈ts.map gn\/x∈(ls.flatMap (mf ls)).map Cm.P)↔x∈(kI bs ls).map Cm.P:=by
 ext kI;rw[YX,Ym,WU,WU,WU,WV,WV,WV];constructor
 ·rintro(h|⟨l,hl,h⟩)
  ·obtain⟨p,hp,rfl⟩:=Yz.mp h
   obtain⟨h1,h2,h3,h4⟩:=(tm p).mp hp;show .inr ⟨p.1,h1,?_⟩;ext Cr;rw[YX,Ym];show .inr (Yz.mpr ⟨.tw p,Yz.mpr ⟨p.2,Ui.mpr ⟨h2,?_⟩,rfl⟩,rfl⟩);ext rN;rw[decide_eq_true h3];ext Ls h4;rw[h4];rfl
  ·obtain⟨c,hc,rfl⟩:=Yz.mp h
   unfold mf Ln at hc;rcases Ym.mp hc with hc|hc
   ·split at hc
    ·rename_i hb
     rw[Yj.mp hc];show .inr ⟨l,hl,?_⟩;ext Cr;rw[if_pos hb];show Yz.mpr ⟨.cl true l,by simp,rfl⟩
    ·cases hc
   ·split at hc
    ·rename_i hb
     rw[Yj.mp hc];left;obtain⟨b,OF,e1,e2,_,k⟩:=w.kd l hl;have no:¬(l.n<10\/200<=l.n):=λz=>by rw[w.Bn hl z]at hb;cases hb
     have o:=w.bt b OF;have h1:=o.s1;rcases k with⟨a1,a2,a3⟩|⟨i,a1,a2,a3⟩|⟨a1,_⟩
     ·show absurd (.inl 1e0) no
     ·have en:l.nm=rn b i:=mL.mpr ⟨e1,e2,a2⟩
      rw[w.jL OF hl a1 en]at hb;show⟨b,OF,Yz.mpr ⟨.cl false l,?_,rfl⟩⟩;ext Bo;rw[if_pos hb];show Y7 (Vy.mpr ⟨i,Y1.mpr a1,?_⟩);rw[←en];show nq w.good.uq hl
     ·show absurd (.inr a1) no
    ·cases hc
 ·rintro(⟨b,hb,h⟩|⟨l,hl,h⟩)
  ·obtain⟨c,hc,rfl⟩:=Yz.mp h
   ext Bo hc;split at hc
   ·rename_i hf
    obtain⟨l,hl,rfl⟩:=Yz.mp hc;obtain⟨k,hk,e⟩:=Vy.mp hl;obtain⟨h1,h2⟩:=DK e;show .inr ⟨l,h1,Yz.mpr ⟨.cl false l,?_,rfl⟩⟩;unfold mf Ln;rw[w.jL hb h1 (Y1.mp hk) h2,hf];simp
   ·cases hc
  ·obtain⟨c,hc,rfl⟩:=Yz.mp h
   ext Cr hc;rcases Ym.mp hc with hc|hc
   ·split at hc
    ·rename_i hb
     rw[Yj.mp hc];show .inr ⟨l,hl,Yz.mpr ⟨.cl true l,?_,rfl⟩⟩;unfold mf Ln;rw[if_pos hb];simp
    ·cases hc
   ·obtain⟨q,hq,rfl⟩:=Yz.mp hc
    obtain⟨h1,h2⟩:=Ui.mp hq;ext rN h2;rw[YI,decide_eq_true_iff]at h2;show .inl (Yz.mpr ⟨(l,q),(tm (l,q)).mpr ⟨hl,h1,h2.2,h2.1⟩,rfl⟩)
theorem Pj:∀{l l':List PV},l.Nodup->l'.Nodup->(∀x,x∈l↔x∈l')->l.Perm l'
 |[],l',_,_,h=>by
  cases l' with
  |nil=>show .nil
  |cons a l'=>show(nomatch(h a).mpr 6e7)
 |a::l,l',n1,n2,h=>by
  obtain⟨b1,b2,rfl⟩:=Yat ((h a).mp 6e7);rw[Xg]at n1;have n3:=(WA.nodup_iff).mp n2;rw[Xg]at n3;show((Pj n1.2 n3.2 λx=>?_).cons a).trans WA.symm;have:=h x;rw[WA.mem_iff,Yk,Yk]at this;constructor
  ·intro hx
   rcases this.mp (.inr hx)with e|e
   ·subst e;show absurd hx n1.1
   ·show e
  ·intro hx
   rcases this.mpr (.inr hx)with e|e
   ·subst e;show absurd hx n3.1
   ·show e
theorem ET{ms:List Lt}(u:Uq ls)(pm:ms.Perm ls)(q:6e8):look ms q=look ls q:=by
 cases e:look ms q with
 |none=>
  cases e2:look ls q with
  |none=>rfl
  |some m=>obtain⟨a,b⟩:=DK e2;show absurd b (KH e m (pm.mem_iff.mpr a))
 |some m=>
  obtain⟨a,b⟩:=DK e;rw[←b,nq u (pm.mem_iff.mp a)]
theorem qG{ms:List Lt}(h:∀q,look ms q=look ls q):∀(n:Nat)(q:6e8)(acc:List Lt),chain ms n q acc=chain ls n q acc
 |0,q,acc=>rfl
 |n+1,q,acc=>by
  ext chain;rw[h q];cases look ls q with
  |none=>rfl
  |some l=>dsimp only;rw[qG h n]
theorem Gu{ms:List Lt}(u:Uq ls)(pm:ms.Perm ls)(l:Lt):mf ms l=mf ls l:=by
 have h:=ET u pm;unfold mf df dB dN;rw[h,qG h]
theorem Wd.both(w:Wd bs ls){ms:List Lt}(pm:ms.Perm ls){rs:List Cm}(ri:aR (rs.map Cm.P))(pr:rs.Perm (kI bs ls))(s:Int)(C:Cs)(y:PV):cH [.v (.tup [.int s,y]),.v (.lst (ms.map Lt.P)),.v (.aG [] [])] C=some (rs.map Cm.P,C):=by
 have w2:Wd bs ms:=⟨(pm.map Lt.nm).nodup_iff.mpr w.nd,by rw[pm.length_eq];show w.eo,λx hx=>w.kd x (pm.mem_iff.mp hx),w.bt,w.bd,w.b3⟩
 obtain⟨ts,qs,e,nd,ri2,mm,tm⟩:=Be s C y w2.good w2.bd5;rw[e];have fs:∀x,x∈(ms.flatMap (mf ms)).map Cm.P↔x∈(ls.flatMap (mf ls)).map Cm.P:=λx=>by
  rw[WU,WU,WV,WV];show⟨λ⟨l,h1,h2⟩=>⟨l,pm.mem_iff.mp h1,by rw[←Gu w.good.uq pm];show h2⟩,λ⟨l,h1,h2⟩=>⟨l,pm.mem_iff.mpr h1,by rw[Gu w.good.uq pm];show h2⟩⟩
 have tm2:∀p,p∈ts↔p.1∈ls/\p.2∈ls/\p.1.fo=p.2.fo/\Ls p.1 p.2:=λp=>by rw[tm,pm.mem_iff,pm.mem_iff]
 have p2:(qs.map Cm.P).Perm (rs.map Cm.P):=(Pj nd w.JW λx=>by rw[mm,fs];show w.same tm2 x).trans (pr.map Cm.P).symm;rw[Z8 (Hk qs) p2 ri2 ri]
end
theorem GS.snoc{C:Cs}{k:Nat}(h:GS C k)(v:PV):GS (C++[v]) k/\k<C.length:=by
 obtain⟨x,y,e,h1,h2⟩:=h;have hk:k<C.length:=by
  rcases YQ k C.length with q|q
  ·show q
  ·rw[YJ q]at e;cases e
 show⟨⟨x,y,by rw[Yo hk];show e,h1,h2⟩,hk⟩
theorem kT.HG{k:Nat}{C C':Cs}{v:PV}(hk:k<C.length)(a:kT k (C++[v]) C'):∃C1,C'=C1++[v]/\kT k C C1:=by
 have hl:=a.len;rw[Yf,X2]at hl;have hv:C'[C.length]? = some v:=by rw[a.kz C.length 1e0];simp
 have e:C'=C'.take C.length++[v]:=by
  have h1:=YV C.length C';have h2:C'.drop C.length=[v]:=by
   have bA:C.length<C'.length:=by lia
   rw[Y9 bA,XF 1e0];rw[Ye bA]at hv;rw[YO hv]
  rw[h2]at h1;show h1.symm
 have tl:(C'.take C.length).length=C.length:=by rw[Xo];lia
 show⟨C'.take C.length,e,tl,?_,λj hj=>?_⟩
 ·obtain⟨x,y,e2,h1,h2⟩:=a.gs
  show⟨x,y,by rw[XH hk];show e2,h1,h2⟩
 ·rcases YQ j C.length with q|q
  ·rw[XH q,a.kz j hj,Yo q]
  ·rw[YJ 1e0,YJ q]
theorem Hj(k:Nat)(m:Int){C:Cs}(v:PV)(h:GS C k)(hm:0<m/\m<1606938044258990275541962092341162602522202993782792835301376):∃d C',ak [.c k,.v (.int m)] (C++[v])=some (.v (.int d),C'++[v])/\0<=d/\d<m/\kT k C C':=by
 obtain⟨h1,hk⟩:=h.snoc v;obtain⟨d,C',e,a1,a2,a⟩:=FV k m _ h1 hm;obtain⟨C1,rfl,a'⟩:=a.HG hk;show⟨d,C1,e,a1,a2,a'⟩
theorem QV{f:7e3}{v:Nat}(Pi:Nat->aq->Cs->Prop)(m:Nat)(hs:∀i ρ C,i<m->Pi i ρ C->∃ρ1 ρ2 C2,hName v (.int (0+(i:Nat))) ρ=some ρ1/\f ρ1 C=some (.nx ρ2,C2)/\Pi (i+1) ρ2 C2):∀ρ C,Pi 0 ρ C->∃ρ' C',loop (hName v) f ((YB m).map λ(q:Nat)=>PV.int (0+q)) ρ C=some (.nx ρ',C')/\Pi m ρ' C':=by
 have go:∀n s,s+n=m->∀ρ C,Pi s ρ C->∃ρ' C',loop (hName v) f ((List.range' s n).map λ(q:Nat)=>PV.int (0+q)) ρ C=some (.nx ρ',C')/\Pi m ρ' C':=by
  intro n;induction n with
  |zero=>intro s Lx ρ C h;rw[Nat.add_zero]at Lx;subst Lx;show⟨ρ,C,rfl,h⟩
  |succ n ih=>
   intro s Lx ρ C h;obtain⟨ρ1,ρ2,C2,e1,e2,h2⟩:=hs s ρ C 1e0 h;obtain⟨ρ',C',e3,h3⟩:=ih (s+1) 1e0 ρ2 C2 h2;show⟨ρ',C',?_,h3⟩;rw[List.range'_succ,Yq];ext loop;simp only[e1,aI,e2,e3]
 intro ρ C h;rw[List.range_eq_range'];show go m 0 1e0 ρ C h
section
variable(b:Bt)
structure Hd(x:Lt):Prop where
 h:x.h=b.h
 d:x.d=b.d
 g:x.gs=[]
def R1(i:Nat)(ls:List Lt):Prop:=ls.length=i/\∀(j:Nat)l,ls[j]? = some l->Hd b l/\l.n=b.st+j/\l.pv=b.st+((j+1)%b.m:Nat)
def R2(i:Nat)(ls:List Lt):Prop:=ls.length=i/\∀(j:Nat)l,ls[j]? = some l->Hd b l/\l.n=200+j/\((∃k:Nat,k<b.m/\l.pv=b.st+k)\/(200<=l.pv/\l.pv<l.n))
def R3(i:Nat)(ls:List Lt):Prop:=ls.length=i/\∀(j:Nat)l,ls[j]? = some l->Hd b l/\l.n=1+j/\l.pv=j
end
theorem jm{Q:Nat->Lt->Prop}{i:Nat}{ls:List Lt}{x:Lt}(h:ls.length=i/\∀(j:Nat)l,ls[j]? = some l->Q j l)(hx:Q i x):(ls++[x]).length=i+1/\∀(j:Nat)l,(ls++[x])[j]? = some l->Q j l:=by
 show⟨by simp[h.1],λj l e=>?_⟩;rcases YQ j ls.length with q|q
 ·rw[Yo q]at e;show h.2 j l e
 ·rw[YE q]at e
  by_cases z:j-ls.length=0
  ·rw[z]at e
   have:j=i:=by have:=h.1;lia
   subst this;cases e;show hx
  ·rw[YJ 6e3]at e;cases e
section
variable(k n:Nat)(b:Bt)
noncomputable def TS (x6 x7 x8:Option SV):aq:=[some (.c k),#[.str b.h],#[.str b.d],#[(.int (b.m:Nat))],#[.int b.st],some (.c n),x6,x7,x8]
def fa:aq->M PF:=aA (a8 7 (aB 7e5 (bF (dg (aa (a7 (aa (mC (.str "note")) af)) (aa (a7 (aa (mC (.str "join")) af)) (aa (a7 (aa (mC (.str "free")) (aa 10e3 af))) af))))) (cb ak (aa 2e8 (aa 7e9 af))))) (b7 (eN 9e1 (aa (a7 (aa 4e0 (aa 5e7 (aa (aB 7e8 (au 4) (au 6)) (aa (aB 7e8 (au 4) (aB (g2 fE) (aB 7e8 (au 6) 8e0) (au 3))) (aa (a7 af) (aa 6e9 (aa (au 7) af)))))))) af)))
def fb:aq->M PF:=aA (a8 8 (aB 7e5 (aB 7e5 9e1 (cb ak (aa 2e8 (aa (iZ (g1 jN) (aa 9e1 af)) af)))) (mC (.int 2)))) (b7 (eN 9e1 (aa (a7 (aa 4e0 (aa 5e7 (aa (aB 7e8 (mC (.int 200)) (au 6)) (aa (au 8) (aa (a7 af) (aa 6e9 (aa (a7 (aa (mC (.str "note")) af)) af)))))))) af)))
def fc:aq->M PF:=b7 (eN 9e1 (aa (a7 (aa 4e0 (aa 5e7 (aa (aB 7e8 8e0 (au 6)) (aa (au 6) (aa (a7 af) (aa 6e9 (aa (a7 (aa (mC (.str "note")) af)) af)))))))) af))
end
theorem Dc{C:Cs}{L:List PV}{q:PV}(h:L.length<100000):nZ 9e7 [.v q] (C++9e4)=some (.v .aF,C++[.lst (L++[q])]):=by
 ext nZ;simp[h]
theorem CG(d:Int)(h1:0<=d)(h2:d<3):∃dd:List Key,gD (.lst [.tup [.str "note"],.tup [.str "join"],.tup [.str "free",.int 0]]) (.int d)=some (tupK dd):=by
 have:d=0\/d=1\/d=2:=by lia
 rcases this with rfl|rfl|rfl
 ·show⟨[.inr "note"],rfl⟩
 ·show⟨[.inr "join"],rfl⟩
 ·show⟨[.inr "free",.inl 0],rfl⟩
section
variable{k:Nat}{b:Bt}
theorem OX(o:b.Ok){C:Cs}(hg:GS C k)(i:Nat)(hi:i<b.m)(x7 x8:Option SV)(L:List PV)(hL:L.length<=1000):
  ∃(y7:Option SV)(C':Cs)(t:Int)(dd:6e8),fa (TS k C.length b #[(.int (0+(i:Nat)))] x7 x8) (C++9e4)=some (.nx (TS k C.length b #[(.int (0+(i:Nat)))] y7 x8),C'++[.lst (L++[(⟨b.h,b.d,b.st+i,b.st+((i+1)%b.m:Nat),[],t,dd⟩:Lt).P])])/\kT k C C':=by
 obtain⟨d,C1,e1,d1,d2,a1⟩:=Hj k 3 (.lst L) hg 1e7;obtain⟨dd,e2⟩:=CG d d1 d2;obtain⟨t,C2,e3,t1,t2,a2⟩:=Hj k 9 (.lst L) a1.gs 1e7;show⟨#[tupK dd],C2,t,dd,?_,a1.trans a2⟩;have yy:C1.length=C.length:=a1.len;have ot:C2.length=C.length:=a2.len.trans yy;have hm:(0:Int)<(b.m:Int):=by have:=o.m1;lia
 have Tw:(0+(i:Int)+1)%(b.m:Int)=(((i+1)%b.m:Nat):Int):=by rw[PZ,Int.natCast_emod,Int.natCast_add];rfl
 have e5:=Dc (C:=C2) (L:=L) (q:=(⟨b.h,b.d,b.st+i,b.st+((i+1)%b.m:Nat),[],t,dd⟩:Lt).P) 1e0;have e6:=Ph (C:=C1) (L:=L);rw[ot]at e5;rw[yy]at e6;have eP:(⟨b.h,b.d,b.st+i,b.st+((i+1)%b.m:Nat),[],t,dd⟩:Lt).P=.tup [.str b.h,.str b.d,.int (b.st+(0+(i:Int))),.int (b.st+(0+(i:Int)+1)%(b.m:Int)),.tup [],.int t,tupK dd]:=by
  ext Lt.P;rw[Tw,PZ];rfl
 rw[eP]at e5⊢;ext TS;generalize tupK dd=DDD at *;generalize hz:(b.m:Int)=mm at *;generalize(0+(i:Int))=ii at *;have s1:a8 7 (aB 7e5 (bF (dg (aa (a7 (aa (mC (.str "note")) af)) (aa (a7 (aa (mC (.str "join")) af)) (aa (a7 (aa (mC (.str "free")) (aa 10e3 af))) af))))) (cb ak (aa 2e8 (aa 7e9 af)))) [some (.c k),#[.str b.h],#[.str b.d],#[.int mm],#[.int b.st],some 9e7,#[.int ii],x7,x8] (C++9e4)=some (.nx [some (.c k),#[.str b.h],#[.str b.d],#[.int mm],#[.int b.st],some 9e7,#[.int ii],#[DDD],x8],C1++9e4):=by
  generalize C++[PV.lst L]=Ca at *;generalize C1++[PV.lst L]=Cb at *;generalize C.length=nn at *;generalize ak=FP at *;simp![e1,e2]
 ext fa;rw[gK s1];generalize C1++[PV.lst L]=Cb at *;generalize C2++[PV.lst L]=Cc at *;generalize C2++[PV.lst (L++[PV.tup [.str b.h,.str b.d,.int (b.st+ii),.int (b.st+(ii+1)%mm),.tup [],.int t,DDD]])]=Cd at *;generalize C.length=nn at *;generalize ak=FP at *;simp![eN,e6,e3,fJ,fE,hm,e5]
theorem OV{C:Cs}(hg:GS C k)(i:Nat)(x7 x8:Option SV)(L:List PV)(hL:L.length<=1000):
  ∃(C':Cs)(t:Int),fc (TS k C.length b #[(.int (0+(i:Nat)))] x7 x8) (C++9e4)=some (.nx (TS k C.length b #[(.int (0+(i:Nat)))] x7 x8),C'++[.lst (L++[(⟨b.h,b.d,1+i,i,[],t,[.inr "note"]⟩:Lt).P])])/\kT k C C':=by
 obtain⟨t,C2,e3,t1,t2,a2⟩:=Hj k 9 (.lst L) hg 1e7;show⟨C2,t,?_,a2⟩;have ot:C2.length=C.length:=a2.len;have e5:=Dc (C:=C2) (L:=L) (q:=(⟨b.h,b.d,1+i,i,[],t,[.inr "note"]⟩:Lt).P) 1e0;have e6:=Ph (C:=C) (L:=L);rw[ot]at e5;have eP:(⟨b.h,b.d,1+i,i,[],t,[.inr "note"]⟩:Lt).P=.tup [.str b.h,.str b.d,.int (1+(0+(i:Int))),.int (0+(i:Int)),.tup [],.int t,.tup [.str "note"]]:=by
  ext Lt.P;rw[PZ];rfl
 rw[eP]at e5⊢;unfold TS fc;generalize(0+(i:Int))=ii at *;generalize C++[PV.lst L]=Cb at *;generalize C2++[PV.lst L]=Cc at *;generalize C2++[PV.lst (L++[PV.tup [.str b.h,.str b.d,.int (1+ii),.int ii,.tup [],.int t,.tup [.str "note"]]])]=Cd at *;generalize C.length=nn at *;generalize ak=FP at *;simp![eN,e6,e3,fJ,e5]
theorem P_2(l:Lt):gD l.P (.int 2)=some (.int l.n):=by simp[Lt.P,gD,yl,gR,kH]
theorem OW{C:Cs}(hg:GS C k)(i:Nat)(x7 x8:Option SV)(ls:List Lt)(h0:ls≠[])(hL:ls.length<=1000):
  ∃(y8:Option SV)(C':Cs)(t:Int)(q:Lt),q∈ls/\fb (TS k C.length b #[(.int (0+(i:Nat)))] x7 x8) (C++[.lst 3e3])=some (.nx (TS k C.length b #[(.int (0+(i:Nat)))] x7 y8),C'++[.lst (ls.map Lt.P++[(⟨b.h,b.d,200+i,q.n,[],t,[.inr "note"]⟩:Lt).P])])/\kT k C C':=by
 have Jz:0<ls.length:=by
  cases ls with
  |nil=>show absurd rfl h0
  |cons _ _=>simp
 obtain⟨d,C1,e1,d1,d2,a1⟩:=Hj k (ls.length:Int) 8e7 hg 1e0;have hd:d.toNat<ls.length:=by lia
 obtain⟨t,C2,e3,t1,t2,a2⟩:=Hj k 9 8e7 a1.gs 1e7;show⟨#[.int ls[d.toNat].n],C2,t,ls[d.toNat],Wh hd,?_,a1.trans a2⟩;have yy:C1.length=C.length:=a1.len;have ot:C2.length=C.length:=a2.len.trans yy;have eI:gD 8e7 (.int d)=some ls[d.toNat].P:=by
  have h2:d<((ls.map Lt.P).length:Nat):=by rw[Yi];lia
  change gR 3e3 d=_;unfold gR kH;rw[if_pos d1,if_pos h2];change(ls.map Lt.P)[d.toNat]? = _;rw[Yy,Ye hd];rfl
 have e2:=P_2 ls[d.toNat];generalize hq:ls[d.toNat]=q at *;have e5:=Dc (C:=C2) (L:=ls.map Lt.P) (q:=(⟨b.h,b.d,200+i,q.n,[],t,[.inr "note"]⟩:Lt).P) (by rw[Yi];lia);have e6:=Ph (C:=C1) (L:=ls.map Lt.P);rw[ot]at e5;rw[yy]at e6;have eP:(⟨b.h,b.d,200+i,q.n,[],t,[.inr "note"]⟩:Lt).P=.tup [.str b.h,.str b.d,.int (200+(0+(i:Int))),.int q.n,.tup [],.int t,.tup [.str "note"]]:=by
  ext Lt.P;rw[PZ];rfl
 rw[eP]at e5⊢;have hL0:(C++[PV.lst 3e3])[C.length]? = some 8e7:=by simp
 have QB:(C1++[PV.lst 3e3])[C.length]? = some 8e7:=by rw[←yy];simp
 have Og:((ls.map Lt.P).length:Int)=(ls.length:Int):=by rw[Yi]
 ext TS;generalize(0+(i:Int))=ii at *;generalize q.P=QP at *;have s1:a8 8 (aB 7e5 (aB 7e5 9e1 (cb ak (aa 2e8 (aa (iZ (g1 jN) (aa 9e1 af)) af)))) (mC (.int 2))) [some (.c k),#[.str b.h],#[.str b.d],#[(.int (b.m:Nat))],#[.int b.st],some 9e7,#[.int ii],x7,x8] (C++[.lst 3e3])=some (.nx [some (.c k),#[.str b.h],#[.str b.d],#[(.int (b.m:Nat))],#[.int b.st],some 9e7,#[.int ii],x7,#[.int q.n]],C1++[.lst 3e3]):=by
  rw[←Og]at e1;generalize C++[PV.lst 3e3]=Ca at *;generalize C1++[PV.lst 3e3]=Cb at *;generalize ls.map Lt.P=LL at *;generalize C.length=nn at *;generalize ak=FP at *;simp![hL0,e1,QB,eI,e2]
 ext fb;rw[gK s1];generalize C1++[PV.lst 3e3]=Cb at *;generalize C2++[PV.lst 3e3]=Cc at *;generalize C2++[PV.lst (ls.map Lt.P++[PV.tup [.str b.h,.str b.d,.int (200+ii),.int q.n,.tup [],.int t,.tup [.str "note"]]])]=Cd at *;generalize C.length=nn at *;generalize ak=FP at *;simp![eN,e6,e3,fJ,e5]
end
structure Bh(b:Bt)(ls:List Lt):Prop where
 nd:(ls.map Lt.nm).Nodup
 eo:ls.length<=18
 kd:∀x∈ls,x.h=b.h/\x.d=b.d/\x.gs=[]/\Kd b x
section
variable{b:Bt}
theorem He{Q:Nat->Lt->Prop}{i:Nat}{ls:List Lt}(h:ls.length=i/\∀(j:Nat)l,ls[j]? = some l->Q j l){x:Lt}(hx:x∈ls):∃j,j<i/\Q j x:=by
 obtain⟨j,hj,e⟩:=XM hx;show⟨j,by rw[←h.1];show hj,h.2 j x (by rw[Ye hj,e])⟩
theorem t6{Q:Nat->Lt->Prop}{i:Nat}{ls:List Lt}(h:ls.length=i/\∀(j:Nat)l,ls[j]? = some l->Q j l){c:Int}(hc:∀j l,Q j l->l.n=c+j):(ls.map Lt.nm).Nodup:=by
 rw[Y0,Xq,W5];intro p q hp hq hpq e;have h1:=hc p _ (h.2 p _ (Ye hp));have h2:=hc q _ (h.2 q _ (Ye hq));have h3:=(yc e).2.2;lia
theorem batch(o:b.Ok){rg hg ch:List Lt}{i j:Nat}(hi:i<=4)(hj:j<=5)(r1:R1 b b.m rg)(r2:R2 b i hg)(r3:R3 b j ch):Bh b (rg++hg++ch):=by
 have h1:=o.s1;have h2:=o.s2;have h3:=o.m2;have k1:∀x∈rg,10<=x.n/\x.n<=107:=λx hx=>by
  obtain⟨a,ha,_,q,_⟩:=He r1 hx;lia
 have k2:∀x∈hg,200<=x.n/\x.n<=203:=λx hx=>by
  obtain⟨a,ha,_,q,_⟩:=He r2 hx;lia
 have k3:∀x∈ch,1<=x.n/\x.n<=5:=λx hx=>by
  obtain⟨a,ha,_,q,_⟩:=He r3 hx;lia
 show⟨?_,?_,λx hx=>?_⟩
 ·rw[YX,YX,Xh,Xh]
  show⟨⟨t6 r1 λj l q=>q.2.1,t6 r2 λj l q=>q.2.1,λx hx y hy e=>?_⟩,t6 r3 λj l q=>q.2.1,λx hx y hy e=>?_⟩
  ·obtain⟨p,hp,rfl⟩:=Yz.mp hx
   obtain⟨q,hq,rfl⟩:=Yz.mp hy;have:=(yc e).2.2;have:=k1 p hp;have:=k2 q hq;lia
  ·obtain⟨q,hq,rfl⟩:=Yz.mp hy
   have hq3:=k3 q hq;rcases Ym.mp hx with hx|hx
   ·obtain⟨p,hp,rfl⟩:=Yz.mp hx
    have:=(yc e).2.2;have:=k1 p hp;lia
   ·obtain⟨p,hp,rfl⟩:=Yz.mp hx
    have:=(yc e).2.2;have:=k2 p hp;lia
 ·have q1:=r1.1
  have q2:=r2.1;have q3:=r3.1;rw[Yf,Yf];lia
 ·rcases Ym.mp hx with hx|hx
  ·rcases Ym.mp hx with hx|hx
   ·obtain⟨a,ha,q,e1,e2⟩:=He r1 hx
    show⟨q.h,q.d,q.g,.inr (.inl ⟨a,ha,e1,e2⟩)⟩
   ·obtain⟨a,ha,q,e1,e2⟩:=He r2 hx
    show⟨q.h,q.d,q.g,.inr (.inr ⟨by lia,by lia,e2⟩)⟩
  ·obtain⟨a,ha,q,e1,e2⟩:=He r3 hx
   show⟨q.h,q.d,q.g,.inl ⟨by lia,by lia,by lia⟩⟩
theorem Eb{rg:List Lt}(r1:R1 b b.m rg):rg.map aH=dJ b:=by
 apply XA;intro j;ext dJ;rw[Yy,Yy];rcases YQ j b.m with q|q
 ·have hj:j<rg.length:=by rw[r1.1];show q
  rw[Vj q,Ye hj];obtain⟨h,e,_⟩:=r1.2 j _ (Ye hj);change some (aH rg[j])=some (tupK (rn b j));ext aH;rw[mL.mpr ⟨h.h,h.d,e⟩]
 ·rw[YJ (by rw[r1.1];show q),YJ (by simpa using q)];rfl
theorem Kh(xs:List PV)(m:Nat)(h:m<=xs.length):fI xs none (some (m:Int))=xs.take m:=by
 have e:HT.bI xs.length xs.length (some (m:Int))=m:=by ext HT.bI;simp only[];rw[if_neg 1e0];lia
 have e2:HT.bI xs.length 0 none=0:=rfl;ext fI;rw[e,e2,Ry,Nat.sub_zero]
def fz:aq->M PF:=vN (aa 9e1 (aa (bF (bW (aL (aW 9e1 iS (bJ (au 3)))) ["_law_letter"] [] (hName 0) ff (aW 2e8 iS (bJ 7e9)))) af))
def r5:aq->M 3e0:=bg (aa (cb ak (aa 2e8 (aa (mC (.int 5)) af))) af)
def r6:aq->M 3e0:=bg (aa (aB 7e8 8e0 (cb ak (aa 2e8 (aa (mC (.int 5)) af)))) af)
theorem zT:fR=aA (a8 3 (aB 7e8 8e0 6e9)) (aA (a8 4 (aB 7e8 (mC (.int 10)) (cb ak (aa 2e8 (aa (mC (.int 90)) af))))) (aA (dO 5 (dg af)) (aA (bO (bg 5e5) (hName 6) fa) (aA (bO r5 (hName 6) fb) (aA (bO r6 (hName 6) fc) fz))))):=rfl
theorem OQ{C:Cs}{rg xs:List Lt}(o:b.Ok)(r1:R1 b b.m rg)(hx:(rg++xs).length<=1000)(k:Nat)(x6 x7 x8:Option SV):fz (TS k C.length b x6 x7 x8) (C++[.lst ((rg++xs).map Lt.P)])=some (.rq [.c C.length,.v (.lst (dJ b))],C++[.lst ((rg++xs).map Lt.P)]):=by
 have c1:=L6 (te:=aW 2e8 iS (bJ 7e9)) (f:=λp=>match p with|.tup (.str a::.str b::.int c::r)=>.tup [.str a,.str b,.int c]|_=>.aF) (rg.map Lt.P) [none] [] (C++[.lst ((rg++xs).map Lt.P)]) (λx hx=>by
  obtain⟨m,_,rfl⟩:=Yz.mp hx;simp[aW,aI,au,iS,bJ,mC,dM,Pu.ret,Pu.intD,aM,eG,gd,Lt.P,Ki])
 rw[WO,Xc]at c1;have e1:rg.map ((λp=>match p with|.tup (.str a::.str b::.int c::r)=>PV.tup [.str a,.str b,.int c]|_=>.aF)∘Lt.P)=dJ b:=by rw[←Eb r1];rfl
 rw[e1]at c1;have h0:(C++[PV.lst ((rg++xs).map Lt.P)])[C.length]? = some (.lst ((rg++xs).map Lt.P)):=by simp
 have hm:fI ((rg++xs).map Lt.P) none (some (b.m:Int))=rg.map Lt.P:=by
  rw[Kh _ _ (by rw[Yi,Yf,r1.1];lia),←List.map_take,List.take_left' r1.1]
 have hl:(rg.map Lt.P).length<=100000:=by rw[Yi,r1.1];have:=o.m2;lia
 unfold TS fz;generalize(rg++xs).map Lt.P=LL at *;generalize rg.map Lt.P=RL at *;generalize C++[PV.lst LL]=Ca at *;generalize C.length=nn at *;generalize dJ b=G at *;generalize aW 2e8 iS (bJ 7e9)=te at *;simp[vN,aa,af,aI,au,bF,bW,aL,aW,iS,bJ,dM,Pu.ret,Pu.intD,aM,eG,gd,h0,hm,dD,hl,cX,c1]
theorem iO{j:Int}(h:-1000000<=j/\j<=1000000):ij [.v (.int j)]=some ((YB j.toNat).map λ(q:Nat)=>PV.int (0+q)):=by
 change(if -1000000<=j/\j<=1000000 then some ((YB j.toNat).map λ(q:Nat)=>PV.int (0+q))else none)=_;rw[if_pos h]
theorem jG(ls:List Lt)(x:Lt):ls.map Lt.P++[x.P]=(ls++[x]).map Lt.P:=by simp
theorem Kb{n pad:Nat}{body:7e3}{ss qs:List SV}{C C':Cs}{ps:List PV}(h:ss.length=n)(run:body (ss.map some++Vt pad none) C=some (.rq qs,C'))(hq:ib C.length C' qs=some ps):cN n pad body ss C=some (.v (.tup ps),C'.take C.length):=by
 ext cN;rw[if_pos h,run];sleep 6;rw[hq];rfl
theorem zU(k:Nat)(C:Cs)(hg:GS C k)(h d:Str)(h1:h.length<=10)(h2:d.length<=10):∃(b:Bt)(ls:List Lt)(C':Cs),et [.c k,.v (.str h),.v (.str d)] C=some (.v (.tup [.lst 3e3,.lst (dJ b)]),C')/\kT k C C'/\b.h=h/\b.d=d/\b.Ok/\Bh b ls/\ls≠[]:=by
 obtain⟨m,C1,e1,m1,m2,a1⟩:=FV k 9 C hg 1e7;obtain⟨st,C2,e2,s1,s2,a2⟩:=FV k 90 C1 a1.gs 1e7;have a12:=a1.trans a2
 let b:Bt:=⟨h,d,10+st,(1+m).toNat⟩
 have o:b.Ok:=⟨by change 10<=10+st;lia,by change 10+st<=99;lia,by change 1<=(1+m).toNat;lia,by change(1+m).toNat<=9;lia,h1,h2⟩
 have hmm:((b.m:Nat):Int)=1+m:=by change(((1+m).toNat:Nat):Int)=1+m;lia
 have hbm:(1+m).toNat=b.m:=rfl;have l1:=QV (v:=6) (f:=fa) (λi ρ D=>∃x6 x7 ls D1,ρ=TS k C.length b x6 x7 none/\D=D1++[.lst 3e3]/\kT k C D1/\R1 b i ls) b.m (by
  rintro i ρ D hi ⟨x6,x7,ls,D1,rfl,rfl,ad,r1⟩;have hl:=ad.len;have T8:=o.m2;obtain⟨y7,D2,t,dd,e,ZC⟩:=OX o ad.gs i hi x7 none 3e3 (by rw[Yi,r1.1];lia);rw[hl,jG]at e;show⟨_,_,_,rfl,e,_,y7,_,D2,rfl,rfl,ad.trans ZC,?_⟩;show jm r1 ⟨⟨rfl,rfl,rfl⟩,rfl,rfl⟩) (TS k C.length b none none none) (C2++[.lst []]) ⟨none,none,[],C2,rfl,rfl,a12,rfl,λj l e=>by simp at e⟩
 obtain⟨ρ1,D1,el1,x6,x7,rg,E1,rfl,rfl,ad1,r1⟩:=l1;have hrg:rg≠[]:=λz=>by have h3:=r1.1;rw[z,Wv]at h3;have:=o.m1;lia
 obtain⟨c5,E2,e5,c51,c52,ZC⟩:=Hj k 5 (.lst (rg.map Lt.P)) ad1.gs 1e7;have l2:=QV (v:=6) (f:=fb) (λi ρ D=>∃x6 x8 hs D1,ρ=TS k C.length b x6 x7 x8/\D=D1++[.lst ((rg++hs).map Lt.P)]/\kT k C D1/\R2 b i hs) c5.toNat (by
  rintro i ρ D hi ⟨x6,x8,hs,D1,rfl,rfl,ad,r2⟩;have hl:=ad.len;have T8:=o.m2;have hr:=r1.1;have hh:=r2.1;obtain⟨y8,D2,t,q,hq,e,QM⟩:=OW (b:=b) ad.gs i x7 x8 (rg++hs) (by simp[hrg]) (by rw[Yf];lia);rw[hl,jG,Yd]at e;show⟨_,_,_,rfl,e,_,y8,_,D2,rfl,rfl,ad.trans QM,?_⟩;show jm r2 ⟨⟨rfl,rfl,rfl⟩,rfl,?_⟩;rcases Ym.mp hq with hq|hq
  ·obtain⟨a,ha,_,e1,_⟩:=He r1 hq
   show .inl ⟨a,ha,e1⟩
  ·obtain⟨a,ha,_,e1,_⟩:=He r2 hq
   show .inr ⟨?_,?_⟩
   ·change 200<=q.n;lia
   ·change q.n<200+(i:Int);lia) (TS k C.length b x6 x7 none) (E2++[.lst ((rg++[]).map Lt.P)]) ⟨x6,none,[],E2,rfl,rfl,ad1.trans ZC,rfl,λj l e=>by simp at e⟩
 obtain⟨ρ2,D2,el2,y6,y8,hs,E3,rfl,rfl,QM,r2⟩:=l2;obtain⟨c6,E4,e6,c61,c62,ad4⟩:=Hj k 5 (.lst ((rg++hs).map Lt.P)) QM.gs 1e7;have l3:=QV (v:=6) (f:=fc) (λi ρ D=>∃x6 cs D1,ρ=TS k C.length b x6 x7 y8/\D=D1++[.lst ((rg++(hs++cs)).map Lt.P)]/\kT k C D1/\R3 b i cs) (1+c6).toNat (by
  rintro i ρ D hi ⟨x6,cs,D1,rfl,rfl,ad,r3⟩;have hl:=ad.len;have T8:=o.m2;have hr:=r1.1;have hh:=r2.1;have hc:=r3.1;obtain⟨D2,t,e,LV⟩:=OV (b:=b) ad.gs i x7 y8 ((rg++(hs++cs)).map Lt.P) (by rw[Yi,Yf,Yf];lia);rw[hl,jG,Yd,Yd]at e;show⟨_,_,_,rfl,e,_,_,D2,rfl,rfl,ad.trans LV,?_⟩;show jm r3 ⟨⟨rfl,rfl,rfl⟩,rfl,rfl⟩) (TS k C.length b y6 x7 y8) (E4++[.lst ((rg++(hs++[])).map Lt.P)]) ⟨y6,[],E4,rfl,rfl,QM.trans ad4,rfl,λj l e=>by simp at e⟩
 obtain⟨ρ3,D3,el3,z6,cs,E5,rfl,rfl,LV,r3⟩:=l3;have hr:=r1.1;have hh:=r2.1;have hc:=r3.1;have T8:=o.m2;have ef:=OQ (C:=E5) (xs:=hs++cs) o r1 (by rw[Yf,Yf];lia) k z6 x7 y8;rw[LV.len]at ef;show⟨b,rg++(hs++cs),E5,?_,LV,rfl,rfl,o,by rw[←Yd];show batch o 1e0 1e0 r1 r2 r3,by simp[hrg]⟩;rw[YG]at el2 el3;have s1:a8 3 (aB 7e8 8e0 6e9) [some (.c k),#[.str h],#[.str d],none,none,none,none,none,none] C=some (.nx [some (.c k),#[.str h],#[.str d],#[.int (1+m)],none,none,none,none,none],C1):=by
  generalize ak=FP at *;simp![e1,fJ]
 have s2:a8 4 (aB 7e8 (mC (.int 10)) (cb ak (aa 2e8 (aa (mC (.int 90)) af)))) [some (.c k),#[.str h],#[.str d],#[.int (1+m)],none,none,none,none,none] C1=some (.nx [some (.c k),#[.str h],#[.str d],#[.int (1+m)],#[.int (10+st)],none,none,none,none],C2):=by
  generalize ak=FP at *;simp![e2,fJ]
 have s3:dO 5 (dg af) [some (.c k),#[.str h],#[.str d],#[.int (1+m)],#[.int (10+st)],none,none,none,none] C2=some (.nx (TS k C.length b none none none),C2++[.lst []]):=by
  have hl:=a12.len;ext TS;rw[hmm];change some (PF.nx [some (.c k),#[.str h],#[.str d],#[.int (1+m)],#[.int (10+st)],some (.c C2.length),none,none,none],C2++[.lst []])=_;rw[hl]
 have s4:bO (bg 5e5) (hName 6) fa (TS k C.length b none none none) (C2++[.lst []])=some (.nx (TS k C.length b x6 x7 none),E1++[.lst (rg.map Lt.P)]):=by
  have hi:bg 5e5 (TS k C.length b none none none) (C2++[.lst []])=some ((YB b.m).map λ(q:Nat)=>PV.int (0+q),C2++[.lst []]):=by
   have hr:ij [.v (.int ((b.m:Nat):Int))]=some ((YB b.m).map λ(q:Nat)=>PV.int (0+q)):=by
    rw[iO 1e0,Wp]
   ext TS;generalize((YB b.m).map λ(q:Nat)=>PV.int (0+q))=RR at *;generalize C2++[PV.lst []]=Ca at *;generalize C.length=nn at *;simp[bg,aa,af,aI,au,dM,Pu.ret,hr]
  unfold bO aI;rw[hi];show el1
 have s5:bO r5 (hName 6) fb (TS k C.length b x6 x7 none) (E1++[.lst (rg.map Lt.P)])=some (.nx (TS k C.length b y6 x7 y8),E3++[.lst ((rg++hs).map Lt.P)]):=by
  have hi:r5 (TS k C.length b x6 x7 none) (E1++[.lst (rg.map Lt.P)])=some ((YB c5.toNat).map λ(q:Nat)=>PV.int (0+q),E2++[.lst (rg.map Lt.P)]):=by
   have hr:ij [.v (.int c5)]=some ((YB c5.toNat).map λ(q:Nat)=>PV.int (0+q)):=by
    show iO 1e0
   unfold TS r5;generalize((YB c5.toNat).map λ(q:Nat)=>PV.int (0+q))=RR at *;generalize E1++[PV.lst (rg.map Lt.P)]=Ca at *;generalize E2++[PV.lst (rg.map Lt.P)]=Cb at *;generalize C.length=nn at *;generalize ak=FP at *;simp![bg,e5,hr]
  unfold bO aI;rw[hi];show el2
 have s6:bO r6 (hName 6) fc (TS k C.length b y6 x7 y8) (E3++[.lst ((rg++hs).map Lt.P)])=some (.nx (TS k C.length b z6 x7 y8),E5++[.lst ((rg++(hs++cs)).map Lt.P)]):=by
  have hi:r6 (TS k C.length b y6 x7 y8) (E3++[.lst ((rg++hs).map Lt.P)])=some ((YB (1+c6).toNat).map λ(q:Nat)=>PV.int (0+q),E4++[.lst ((rg++hs).map Lt.P)]):=by
   have hr:ij [.v (.int (1+c6))]=some ((YB (1+c6).toNat).map λ(q:Nat)=>PV.int (0+q)):=by
    show iO 1e0
   unfold TS r6;generalize((YB (1+c6).toNat).map λ(q:Nat)=>PV.int (0+q))=RR at *;generalize E3++[PV.lst ((rg++hs).map Lt.P)]=Ca at *;generalize E4++[PV.lst ((rg++hs).map Lt.P)]=Cb at *;generalize C.length=nn at *;generalize ak=FP at *;simp![bg,e6,hr,fJ]
  unfold bO aI;rw[hi];show el3
 have run:fR [some (.c k),#[.str h],#[.str d],none,none,none,none,none,none] C=some (.rq [.c C.length,.v (.lst (dJ b))],E5++[.lst ((rg++(hs++cs)).map Lt.P)]):=by
  rw[zT,gK s1,gK s2,gK s3,gK s4,gK s5,gK s6];show ef
 have hq:ib C.length (E5++[.lst ((rg++(hs++cs)).map Lt.P)]) [.c C.length,.v (.lst (dJ b))]=some [.lst ((rg++(hs++cs)).map Lt.P),.lst (dJ b)]:=by
  have hl:=LV.len;have h0:(E5++[PV.lst ((rg++(hs++cs)).map Lt.P)])[C.length]? = some (.lst ((rg++(hs++cs)).map Lt.P)):=by rw[←hl];simp
  simp only[ib,WB,if_false,h0,Option.bind_some,VF]
 have ht:(E5++[PV.lst ((rg++(hs++cs)).map Lt.P)]).take C.length=E5:=by rw[←LV.len];simp
 have fin:=Kb (n:=3) (pad:=6) (body:=fR) (ss:=[.c k,.v (.str h),.v (.str d)]) (C:=C) rfl run hq;rw[ht]at fin;show fin
end
theorem GB(ws:4e3)(i:Nat)(h:i<ws.length):gD (.lst (ws.map .str)) (.int (i:Int))=some (.str ws[i]):=by
 have h1:(0:Int)<=i:=by lia
 have h2:(i:Int)<((ws.map PV.str).length:Nat):=by rw[Yi];lia
 change gR (ws.map PV.str) (i:Int)=_;unfold gR kH;rw[if_pos h1,if_pos h2];change(ws.map PV.str)[(i:Int).toNat]? = _;rw[Wp,Yy,Ye h];rfl
structure Wi(bs:List Bt)(ls:List Lt):Prop where
 nd:(ls.map Lt.nm).Nodup
 eo:ls.length<=18*bs.length
 kd:∀x∈ls,∃b∈bs,x.h=b.h/\x.d=b.d/\x.gs=[]/\Kd b x
 bt:∀b∈bs,b.Ok
theorem Wi.add{bs:List Bt}{ls:List Lt}(w:Wi bs ls){b:Bt}{ms:List Lt}(o:b.Ok)(h:Bh b ms)(hd:b.d∉bs.map Bt.d):Wi (bs++[b]) (ls++ms):=by
 show⟨?_,?_,λx hx=>?_,λc hc=>?_⟩
 ·rw[YX,Xh]
  show⟨w.nd,h.nd,λx hx y hy e=>?_⟩;obtain⟨p,hp,rfl⟩:=Yz.mp hx;obtain⟨q,hq,rfl⟩:=Yz.mp hy;obtain⟨c,hc,_,e2,_⟩:=w.kd p hp;have:=(h.kd q hq).2.1;show hd ?_;rw[←this,←(yc e).2.1,e2];show Y7 hc
 ·have h1:=w.eo
  have h2:=h.eo;simp only[Yf,X2];lia
 ·rcases Ym.mp hx with hx|hx
  ·obtain⟨c,hc,q⟩:=w.kd x hx
   show⟨c,by simp[hc],q⟩
  ·show⟨b,by simp,h.kd x hx⟩
 ·rcases Ym.mp hc with hc|hc
  ·show w.bt c hc
  ·rw[Yj.mp hc];show o
structure LI(ws:List Str)(p:Nat)(bs:List Bt)(ls:List Lt)(C:Cs):Prop where
 gs:GS C 0
 p0:p≠0
 p2:p≠2
 cp:C[p]? = some 8e7
 c2:C[2]? = some (.lst 3e6)
 w:Wi bs ls
 bd:bs.map Bt.d=(ws.drop 3).take bs.length
 ne:bs≠[]->ls≠[]
noncomputable def LS (NS:PV)(ws:4e3)(p:Nat)(x5 x6 x7 x8 x9:Option SV):aq:=[#[NS],some (.c 0),#[.lst (ws.map .str)],some (.c p),some (.c 2),x5,x6,x7,x8,x9]
def LK:aq->M PF:=ER (Bi et (gA bV (aa 2e8 (aa (aB 7e8 (mC (.int 2)) 9e1) af))) (aa (aB 7e5 5e7 (cb ak (aa 4e0 (aa 7e9 af)))) (aa (aB 7e5 5e7 (aB 7e8 7e9 9e1)) af))) (nE (da (hName 6) (da (hName 7) nF)) 2)
def LJ:aq->M PF:=dO 3 (vQ (au 3) (au 6))
def LH:aq->M PF:=b7 (eN (au 4) (aa (au 7) af))
theorem kT.cut{C C':Cs}{v:PV}(a:kT C.length (C++[v]) C'):C'.take C.length=C:=by
 apply XA;intro j;rcases YQ j C.length with q|q
 ·rw[XH q,a.kz j 1e0,Yo q]
 ·rw[YJ (by rw[Xo];lia),YJ q]
theorem Sy{ws:4e3}(nd:ws.Nodup){i:Nat}(h:3+i<ws.length):ws[3+i]∉(ws.drop 3).take i:=λz=>by
 have nd2:(ws.drop 3).Nodup:=nd.sublist (Ybe 3 ws);have hi:i<(ws.drop 3).length:=by rw[Xp];lia
 have e:ws.drop 3=(ws.drop 3).take i++(ws.drop 3).drop i:=(YV i _).symm;rw[e,Xh]at nd2;show nd2.2.2 _ z _ ?_ rfl;rw[Y9 hi,UF];show .head _
section
variable{ws:4e3}
theorem DW{ns:List Int}(hl:ws.length=9)(nd:ws.Nodup)(h10:∀w∈ws,w.length<=10){p:Nat}{bs:List Bt}{ls:List Lt}{C:Cs}(v:LI ws p bs ls C)(hb:bs.length<3)(x6 x7 x8 x9:Option SV):
  ∃(p':Nat)(b:Bt)(Jb:List Lt)(C':Cs)(y6 y7:Option SV),aA LK (aA LJ LH) (LS 4e2 ws p #[(.int (0+(bs.length:Nat)))] x6 x7 x8 x9) C=some (.nx (LS 4e2 ws p' #[(.int (0+(bs.length:Nat)))] y6 y7 x8 x9),C')/\LI ws p' (bs++[b]) Jb C':=by
 obtain⟨lx,ly,e1,hy⟩:=vW ns (2+(0+(bs.length:Int))) C 1e0 1e0;obtain⟨d,C1,e2,d1,d2,a1⟩:=Hj 0 3 (.lst [.int lx,.int ly]) v.gs 1e7;have yy:C1.length=C.length:=a1.len;have Qx:d.toNat<ws.length:=by lia
 have e3:=GB ws d.toNat Qx;rw[show((d.toNat:Nat):Int)=d by lia]at e3;have rD:3+bs.length<ws.length:=by lia
 have e4:=GB ws (3+bs.length) rD;rw[show((3+bs.length:Nat):Int)=3+(0+(bs.length:Int)) by lia]at e4;obtain⟨b,ms,C2,e5,a2,hbh,hbd,o,bh,c9⟩:=zU C1.length (C1++[.lst [.int lx,.int ly]]) ⟨lx,ly,by simp,hy⟩ ws[d.toNat] ws[3+bs.length] (h10 _ (Wh _)) (h10 _ (Wh _));have Oz:=a2.cut;have JO:C1[p]? = some 8e7:=by rw[a1.kz p v.p0];show v.cp
 have JP:C1[2]? = some (.lst 3e6):=by rw[a1.kz 2 1e7];show v.c2
 have hp:p<C1.length:=by
  rcases YQ p C1.length with q|q
  ·show q
  ·rw[YJ q]at JO;cases JO
 have h2:2<C1.length:=by
  rcases YQ 2 C1.length with q|q
  ·show q
  ·rw[YJ q]at JP;cases JP
 have s1:LK (LS 4e2 ws p #[(.int (0+(bs.length:Nat)))] x6 x7 x8 x9) C=some (.nx (LS 4e2 ws p #[(.int (0+(bs.length:Nat)))] #[.lst (ms.map Lt.P)] #[.lst (dJ b)] x8 x9),C1):=by
  rw[yy]at e5 Oz;generalize ms.map Lt.P=MS at *;generalize dJ b=G at *;ext LS;generalize ns.map PV.int=NS at *;generalize(0+(bs.length:Int))=ii at *;generalize ws[d.toNat]=W1 at *;generalize ws[3+bs.length]=W2 at *;generalize ws.map PV.str=WS at *;generalize hCl:C++[PV.lst [.int lx,.int ly]]=Cl at *;generalize C1++[PV.lst [.int lx,.int ly]]=Cm at *;simp![LK,ER,Bi,gA,fJ,e1,hCl,e2,e3,e4,e5,Oz,nE,da,hName,nF]
 have wi:=v.w;have rC:=wi.eo;have Qo:=bh.eo;have s2:LJ (LS 4e2 ws p #[(.int (0+(bs.length:Nat)))] #[.lst (ms.map Lt.P)] #[.lst (dJ b)] x8 x9) C1=some (.nx (LS 4e2 ws C1.length #[(.int (0+(bs.length:Nat)))] #[.lst (ms.map Lt.P)] #[.lst (dJ b)] x8 x9),C1++[.lst ((ls++ms).map Lt.P)]):=by
  have hc:wQ C1 (.c p) (.v (.lst (ms.map Lt.P)))=some ((ls++ms).map Lt.P):=by
   have TZ:aM C1 (.c p)=some 8e7:=JO;have hdv:aM C1 (.v (.lst (ms.map Lt.P)))=some (.lst (ms.map Lt.P)):=rfl;ext wQ;rw[TZ,hdv];sleep 6;rw[if_pos (by rw[Yi,Yi];lia),YX]
  generalize(ls++ms).map Lt.P=LM at *;generalize ms.map Lt.P=MS at *;generalize dJ b=G at *;ext LS;generalize(0+(bs.length:Int))=ii at *;simp[LJ,dO,vQ,aI,au,dM,hc]
 have DF:(C1++[PV.lst ((ls++ms).map Lt.P)])[2]? = some (.lst 3e6):=by rw[Yo h2];show JP
 have s3:LH (LS 4e2 ws C1.length #[(.int (0+(bs.length:Nat)))] #[.lst (ms.map Lt.P)] #[.lst (dJ b)] x8 x9) (C1++[.lst ((ls++ms).map Lt.P)])=some (.nx (LS 4e2 ws C1.length #[(.int (0+(bs.length:Nat)))] #[.lst (ms.map Lt.P)] #[.lst (dJ b)] x8 x9),(C1++[PV.lst ((ls++ms).map Lt.P)]).set 2 (PV.lst ((bs++[b]).map λb=>PV.lst (dJ b)))):=by
  have ha:nZ (.c 2) [.v (.lst (dJ b))] (C1++[PV.lst ((ls++ms).map Lt.P)])=some (.v .aF,(C1++[PV.lst ((ls++ms).map Lt.P)]).set 2 (PV.lst ((bs++[b]).map λb=>PV.lst (dJ b)))):=by
   ext nZ;simp only[DF];rw[if_pos (by rw[Yi];lia),show(bs++[b]).map (λb=>PV.lst (dJ b))=bs.map (λb=>PV.lst (dJ b))++[PV.lst (dJ b)] by simp]
  have hi:fj (.c 2) (C1++[PV.lst ((ls++ms).map Lt.P)])=some ((),C1++[PV.lst ((ls++ms).map Lt.P)]):=by ext fj;simp only[DF]
  generalize(C1++[PV.lst ((ls++ms).map Lt.P)]).set 2 (PV.lst ((bs++[b]).map λb=>PV.lst (dJ b)))=Cz at *;generalize C1++[PV.lst ((ls++ms).map Lt.P)]=Cy at *;generalize ms.map Lt.P=MS at *;generalize dJ b=G at *;ext LS;generalize(0+(bs.length:Int))=ii at *;simp[LH,eN,b7,aa,af,aI,au,Pu.ret,hi,ha]
 show⟨C1.length,b,ls++ms,_,_,_,by rw[gK s1,gK s2];show s3,?_,by lia,by lia,?_,?_,wi.add o bh ?_,?_,λ_=>by simp[c9]⟩
 ·obtain⟨gx,gy,ge,g1,g2⟩:=a1.gs
  show⟨gx,gy,?_,g1,g2⟩;rw[Y3 1e7,Yo 1e0];show ge
 ·rw[Y3 1e0];simp
 ·rw[Xd 6e3]
 ·rw[v.bd,hbd];show Sy nd rD
 ·rw[YX,v.bd,Yf,X2,Yaq,hbd]
  have hi:bs.length<(ws.drop 3).length:=by rw[Xp];lia
  rw[List.take_succ_eq_append_getElem hi,UF]
end
def h1:aq->M PF:=dO 1 (gA bV (aa 2e8 (aa 8e0 af)))
def h2:aq->M PF:=a8 2 (cb dv (aa 4e0 (aa (mC (.int 9)) af)))
def hR:aq->M 3e0:=bg (aa (aB 7e8 8e0 (cb ak (aa 4e0 (aa 7e9 af)))) af)
def hc:aq->M Bool:=bz (aB (g2 (b8 aE)) (cb ak (aa 4e0 (aa (mC (.int 2)) af))) 10e3)
def hp:aq->M PF:=b7 (EN (au 3) (aa (cb ak (aa 4e0 (aa (iZ (g1 jN) 5e5) af))) af))
def h8:aq->M PF:=a8 8 (a7 (aa (cb ak (aa 4e0 (aa (mC (.int 4)) af))) (aa dh af)))
def h9:aq->M PF:=a8 9 (bF (iq cT [] (aa (au 3) (aa (au 4) af))))
def hz:aq->M PF:=eM (lE (aB (g2 (b8 aE)) (bF (gA cH (aa (au 8) (aa (bF (vP 5e5)) (aa dh af))))) (au 9)) (aB (g2 (b8 aE)) (bF (gA cH (aa (au 8) (aa (bF (gz (au 3))) (aa dh af))))) (au 9)))
theorem Jh:xg=aA h1 (aA h2 (aA (dO 3 (dg af)) (aA (dO 4 (dg af)) (aA (bO hR (hName 5) (aA LK (aA LJ LH))) (aA (ft hc hp dz) (aA h8 (aA h9 hz))))))):=rfl
theorem Wi.wd{bs:List Bt}{ls:List Lt}(w:Wi bs ls)(nd:(bs.map Bt.d).Nodup)(h:bs.length<=3):Wd bs ls:=⟨w.nd,by have:=w.eo;lia,w.kd,w.bt,nd,h⟩
theorem Wd.sub{bs:List Bt}{ls ms:List Lt}(w:Wd bs ls)(h:ms.Sublist ls):Wd bs ms:=⟨(h.map Lt.nm).nodup w.nd,Xb h.length_le w.eo,λx hx=>w.kd x (h.subset hx),w.bt,w.bd,w.b3⟩
theorem Cj(R:List Cm):b8 aE (.lst (R.map Cm.P)) (.lst (R.map Cm.P))=some (.bl true):=by
 have JJ:dat (.lst (R.map Cm.P))=true:=by ext dat;show Pm CL _
 have TZ:dep (.lst (R.map Cm.P))<=60:=by ext dep;have:=L8 uv R;lia
 have he:aE (.lst (R.map Cm.P)) (.lst (R.map Cm.P))=true:=by
  change dX _ _=true;have hp:=Hk R;show(jX _ hp hp).mpr rfl
 ext b8;rw[JJ,he,if_pos (by simp[TZ])]
theorem HJ(d:Int):b8 aE (.int d) (.int 0)=some (.bl (decide (d=0))):=qy d 0
theorem Bw(_ht:True)(ns:List Int)(hn:ns.length<=63):Dp [.v 4e2] []=some (.v (.bl true),[]):=by
 obtain⟨x,y,e1,hy⟩:=vW ns 1 [] 1e7 1e7;have g0:GS [.lst [.int x,.int y]] 0:=⟨x,y,rfl,hy⟩
 obtain⟨ws,C1,e2,hl,nd,hw,A1⟩:=xh 0 [.lst [.int x,.int y]] g0;have BW:C1.length=1:=A1.len;have r1:h1 [#[.lst (ns.map .int)],none,none,none,none,none,none,none,none,none] []=some (.nx [#[.lst (ns.map .int)],some (.c 0),none,none,none,none,none,none,none,none],[.lst [.int x,.int y]]):=by
  generalize ns.map PV.int=NS at *;simp![h1,dO,e1]
 have r2:h2 [#[.lst (ns.map .int)],some (.c 0),none,none,none,none,none,none,none,none] [.lst [.int x,.int y]]=some (.nx [#[.lst (ns.map .int)],some (.c 0),#[.lst (ws.map .str)],none,none,none,none,none,none,none],C1):=by
  generalize ws.map PV.str=WS at *;generalize ns.map PV.int=NS at *;simp![h2,e2]
 have r3:dO 3 (dg af) [#[.lst (ns.map .int)],some (.c 0),#[.lst (ws.map .str)],none,none,none,none,none,none,none] C1=some (.nx [#[.lst (ns.map .int)],some (.c 0),#[.lst (ws.map .str)],some (.c 1),none,none,none,none,none,none],C1++[.lst []]):=by
  change some (PF.nx [#[.lst (ns.map .int)],some (.c 0),#[.lst (ws.map .str)],some (.c C1.length),none,none,none,none,none,none],C1++[.lst []])=_;rw[BW]
 have r4:dO 4 (dg af) [#[.lst (ns.map .int)],some (.c 0),#[.lst (ws.map .str)],some (.c 1),none,none,none,none,none,none] (C1++[.lst []])=some (.nx (LS 4e2 ws 1 none none none none none),C1++[.lst []]++[.lst []]):=by
  change some (PF.nx [#[.lst (ns.map .int)],some (.c 0),#[.lst (ws.map .str)],some (.c 1),some (.c (C1++[PV.lst []]).length),none,none,none,none,none],C1++[.lst []]++[.lst []])=_;rw[Yf,BW];rfl
 obtain⟨c,OC⟩:∃c,C1=[c]:=List.length_eq_one_iff.mp BW;have g4:GS (C1++[.lst []]++[.lst []]) 0:=by
  obtain⟨gx,gy,ge,q1,q2⟩:=A1.gs;show⟨gx,gy,by rw[OC]at ge⊢;show ge,q1,q2⟩
 obtain⟨d,C2,e3,d1,d2,A2⟩:=FV 0 3 _ g4 1e7;have li:LI ws 1 [] [] C2:=by
  show⟨A2.gs,by decide,by decide,?_,?_,⟨by simp,by simp,λx h=>(nomatch h),λx h=>(nomatch h)⟩,by simp,λz=>absurd rfl z⟩
  ·rw[A2.kz 1 1e7,OC];rfl
  ·rw[A2.kz 2 1e7,OC];rfl
 have wy:=QV (v:=5) (f:=aA LK (aA LJ LH)) (λi ρ C=>∃p x5 x6 x7 bs ls,ρ=LS 4e2 ws p x5 x6 x7 none none/\LI ws p bs ls C/\bs.length=i) (1+d).toNat (by
  rintro i ρ C hi ⟨p,x5,x6,x7,bs,ls,rfl,v,rfl⟩;obtain⟨p',b,Jb,C',y6,y7,e,v'⟩:=DW (ns:=ns) hl nd (λw h=>(hw w h).1) v 1e0 x6 x7 none none;show⟨_,_,_,rfl,e,p',_,y6,y7,bs++[b],Jb,rfl,v',by simp⟩) _ _ ⟨1,none,none,none,[],[],rfl,li,rfl⟩
 obtain⟨ρ',C3,el,p,x5,x6,x7,bs,ls,rfl,v,wC⟩:=wy;have r5:bO hR (hName 5) (aA LK (aA LJ LH)) (LS 4e2 ws 1 none none none none none) (C1++[.lst []]++[.lst []])=some (.nx (LS 4e2 ws p x5 x6 x7 none none),C3):=by
  have hi:hR (LS 4e2 ws 1 none none none none none) (C1++[.lst []]++[.lst []])=some ((YB (1+d).toNat).map λ(q:Nat)=>PV.int (0+q),C2):=by
   have hr:=iO (j:=1+d) 1e0;ext LS;generalize((YB (1+d).toNat).map λ(q:Nat)=>PV.int (0+q))=RR at *;generalize C1++[PV.lst []]++[PV.lst []]=Ca at *;generalize ws.map PV.str=WS at *;generalize ns.map PV.int=NS at *;simp![hR,bg,e3,hr,fJ]
  unfold bO aI;rw[hi];show el
 have bne:bs≠[]:=λz=>by rw[z]at wC;simp at wC;lia
 have hb3:bs.length<=3:=by lia
 have Zy:(bs.map Bt.d).Nodup:=by
  rw[v.bd];show(nd.sublist (Ybe 3 ws)).sublist (List.take_sublist _ _)
 have w0:=v.w.wd Zy hb3;obtain⟨q,C4,e5,q1,q2,A4⟩:=FV 0 2 C3 v.gs 1e7;have tc:hc (LS 4e2 ws p x5 x6 x7 none none) C3=some (decide (q=0),C4):=by
  have he:=HJ q;generalize decide (q=0)=bb at *;ext LS;generalize ws.map PV.str=WS at *;generalize ns.map PV.int=NS at *;simp![hc,e5,he]
 have QK:C4[p]? = some 8e7:=by rw[A4.kz p v.p0];show v.cp
 have c42:C4[2]? = some (.lst 3e6):=by rw[A4.kz 2 1e7];show v.c2
 obtain⟨ms,C5,e6,w1,g5,c5p,c52⟩:∃(ms:List Lt)(C5:Cs),ft hc hp dz (LS (.lst (ns.map .int)) ws p x5 x6 x7 none none) C3=some (.nx (LS (.lst (ns.map .int)) ws p x5 x6 x7 none none),C5)/\Wd bs ms/\GS C5 0/\C5[p]? = some (.lst (ms.map Lt.P))/\C5[2]? = some (.lst (bs.map λb=>.lst (dJ b))):=by
  by_cases hq:q=0
  ·rw[decide_eq_true hq]at tc
   have lne:=v.ne bne;have Jz:0<ls.length:=List.length_pos_iff.mpr lne;have iE:=w0.eo;obtain⟨t,C5,e7,t1,t2,A5⟩:=FV 0 (ls.length:Int) C4 A4.gs 1e0;have htn:t.toNat<ls.length:=by lia
   have c5:C5[p]? = some 8e7:=by rw[A5.kz p v.p0];show QK
   have cD:p<C5.length:=by
    rcases YQ p C5.length with z|z
    ·show z
    ·rw[YJ z]at c5;cases c5
   have e8:AF (.c p) [.v (.int t)] C5=some (.v ls[t.toNat].P,C5.set p (.lst ((ls.take t.toNat++ls.drop (t.toNat+1)).map Lt.P))):=by
    ext AF;simp only[c5];rw[Yy,Ye htn];dsimp only[VF];rw[if_pos ⟨t1,by rw[Yi];lia⟩,YX,List.map_take,List.map_drop]
   have e9:fj (.c p) C4=some ((),C4):=by ext fj;simp only[QK]
   show⟨ls.take t.toNat++ls.drop (t.toNat+1),C5.set p (.lst ((ls.take t.toNat++ls.drop (t.toNat+1)).map Lt.P)),?_,w0.sub ?_,?_,?_,?_⟩
   ·rw[Jw tc]
    have Og:((ls.map Lt.P).length:Int)=(ls.length:Int):=by rw[Yi]
    rw[←Og]at e7;generalize(ls.take t.toNat++ls.drop (t.toNat+1)).map Lt.P=TL at *;generalize C5.set p (.lst TL)=C6 at *;generalize ls[t.toNat].P=PP at *;ext LS;generalize ws.map PV.str=WS at *;generalize ns.map PV.int=NS at *;generalize ls.map Lt.P=LL at *;simp![hp,EN,e9,QK,e7,e8]
   ·have h3:(ls.drop (t.toNat+1)).Sublist (ls.drop t.toNat):=by rw[←V4];show Ybe _ _
    have:=(List.Sublist.refl (ls.take t.toNat)).append h3;rw[YV]at this;show this
   ·obtain⟨gx,gy,ge,z1,z2⟩:=A5.gs
    show⟨gx,gy,by rw[Y3 v.p0];show ge,z1,z2⟩
   ·rw[Xd cD]
   ·rw[Y3 v.p2,A5.kz 2 1e7];show c42
  ·rw[decide_eq_false hq]at tc
   show⟨ls,C4,mF tc,w0,A4.gs,QK,c42⟩
 obtain⟨s,C6,e7,s1,s2,A6⟩:=FV 0 4 C5 g5 1e7;have c6p:C6[p]? = some (.lst (ms.map Lt.P)):=by rw[A6.kz p v.p0];show c5p
 have c62:C6[2]? = some (.lst 3e6):=by rw[A6.kz 2 1e7];show c52
 have r8:h8 (LS 4e2 ws p x5 x6 x7 none none) C5=some (.nx (LS 4e2 ws p x5 x6 x7 #[.tup [.int s,.aG [] []]] none),C6):=by
  ext LS;generalize ws.map PV.str=WS at *;generalize ns.map PV.int=NS at *;simp![h8,dh,e7]
 obtain⟨rs,e9,ri,pr⟩:=tO w1;have r9:h9 (LS 4e2 ws p x5 x6 x7 #[.tup [.int s,.aG [] []]] none) C6=some (.nx (LS 4e2 ws p x5 x6 x7 #[.tup [.int s,.aG [] []]] #[.lst (rs.map Cm.P)]),C6):=by
  have hf:dc (rs.map Cm.P)=true:=QN (f:=Cm.P) wL rs;generalize rs.map Cm.P=R at *;generalize(bs.map λb=>PV.lst (dJ b))=RG at *;generalize ms.map Lt.P=LL at *;ext LS;generalize ws.map PV.str=WS at *;generalize ns.map PV.int=NS at *;simp![h9,iq,pickK,cA,eF,c6p,c62,e9,hf,dH]
 have m1:=w1.both (.refl ms) ri pr s C6 (.aG [] []);have m2:=w1.both ms.reverse_perm ri pr s C6 (.aG [] []);have he:=Cj rs;have rz:hz (LS 4e2 ws p x5 x6 x7 #[.tup [.int s,.aG [] []]] #[.lst (rs.map Cm.P)]) C6=some (.rt (.v (.bl true)),C6):=by
  rw[Wl]at m2;generalize rs.map Cm.P=R at *;generalize ms.map Lt.P=LL at *;ext LS;generalize ws.map PV.str=WS at *;generalize ns.map PV.int=NS at *;simp![hz,dh,gz,c6p,m1,m2,he]
 have run:xg [#[.lst (ns.map .int)],none,none,none,none,none,none,none,none,none] []=some (.rt (.v (.bl true)),C6):=by
  rw[Jh,gK r1,gK r2,gK r3,gK r4,gK r5,gK e6,gK r8,gK r9];show rz
 ext Dp;generalize xg=bb at *;generalize ns.map PV.int=NS at *;simp![run]
noncomputable def qv:Program:=W.view PySem.Challenge.pw_holdword_k31_rings_are_loose [0,2,4,6,7,9,11,12,13,14,15,16,17,19,20,21,22,23,24,25,26]
noncomputable def JX:List Str:=List.map Vc ["name_of","in_order","by_name","followed","row_among","is_back","is_loose","is_behind","is_ahead","twins","marks_of","marks","_law_cell_at","_law_left","_law_pick","_law_words","_law_named","_law_three","_law_marks","law"]
def zr:List (Str×Stmt):=JX.zip (List.map top [2,4,6,7,9,11,12,13,14,15,16,17,19,20,21,22,23,24,25,26])
theorem bB:(recsOf qv).map Hd.four=zr.map Hd.B6:=by kernel_rfl
noncomputable def hk:W.Hook:=W.Hook.none
theorem hl:W.LeftO PySem.Challenge.pw_holdword_k31_rings_are_loose qv [] (λs=>W.xlAt qv [] s&&W.recOk [] s) hk.obs hk.val 1422:=
 W.LeftO.of_split "special-get-raises" (λw=>by kernel_rfl)
theorem all_mk{P:YF}{w:World}{K:W.Frag}{mg:2e5}{fa:Addr}(hfa:mg "law"=some (.ref fa))(T:Txt mg)
  (yH:Hd.FnAt K mg "name_of" Z7)
  (um:Hd.FnAt K mg "in_order" ZS)
  (yJ:Hd.FnAt K mg "by_name" ZN)
  (uo:Hd.FnAt K mg "followed" ZR)
  (qm:Hd.FnAt K mg "row_among" ZbX)
  (yI:Hd.FnAt K mg "is_back" Z2)
  (uj:Hd.FnAt K mg "is_loose" ZU)
  (qo:Hd.FnAt K mg "is_behind" Z9)
  (uk:Hd.FnAt K mg "is_ahead" ZT)
  (Fv:Hd.FnAt K mg "twins" mI)
  (ui:Hd.FnAt K mg "marks_of" ZV)
  (Fw:Hd.FnAt K mg "marks" mJ)
  (j3:Hd.FnAt K mg "_law_cell_at" Z')
  (iw:Hd.FnAt K mg "_law_left" QZ)
  (qp:Hd.FnAt K mg "_law_pick" jr)
  (nK:Hd.FnAt K mg "_law_words" Z6)
  (nM:Hd.FnAt K mg "_law_named" Z4)
  (nL:Hd.FnAt K mg "_law_three" Z5)
  (nN:Hd.FnAt K mg "_law_marks" Z3)
  (O3:Hd.FnAt K mg "law" jq)
  :∃fd:WD,(∀(s:Shared)(v:Value),BindsTo s fd ⟨[v],[]⟩ [("_law_script",v)])/\∀base:Heap,eY P w K mg base om 6 fa fd ["_law_script"] (Hd.z0 K):=by
 obtain⟨Vai,Cf,Ny,Hy⟩:=O3;have e:=hfa.symm.trans Ny;cases e;have hb:∀(s:Shared)(v:Value),BindsTo s Cf ⟨[v],[]⟩ [("_law_script",v)]:=by
  obtain⟨oc,od,kV,doc,pm,an,cdv,ct,osl,rfl,lk,ou⟩:=Hy.ex;show λs v=>.of_eq rfl
 show⟨Cf,hb,λbase=>?_⟩;have fQ:=sR (P:=P) (w:=w) (base:=base) yH T;have rd:=m9 (P:=P) (w:=w) (base:=base) um T;have zk:=sW (P:=P) (w:=w) (base:=base) yJ T fQ;have eZ:=pH (P:=P) (w:=w) (base:=base) uo T;have qX:=m6 (P:=P) (w:=w) (base:=base) qm T eZ;have zj:=sV (P:=P) (w:=w) (base:=base) yI T eZ;have uR:=pF (P:=P) (w:=w) (base:=base) uj T fQ qX eZ;have qY:=m8 (P:=P) (w:=w) (base:=base) qo T;have uS:=pG (P:=P) (w:=w) (base:=base) uk T fQ;have Dq:=xZ (P:=P) (w:=w) (base:=base) Fv T eZ;have uQ:=pE (P:=P) (w:=w) (base:=base) ui T fQ uS qY uR zj;have Dr:=ya (P:=P) (w:=w) (base:=base) Fw T zk Dq uQ rd;have fM:=m7 (P:=P) (w:=w) (base:=base) j3 T;have qZ:=xY (P:=P) (w:=w) (base:=base) iw T fM;have oi:=sX (P:=P) (w:=w) (base:=base) iw T fM;have fL:=xX (P:=P) (w:=w) (base:=base) qp T;have oe:=sS (P:=P) (w:=w) (base:=base) nK T fL;have oh:=sU (P:=P) (w:=w) (base:=base) nM T;have og:=sT (P:=P) (w:=w) (base:=base) nL T fL;have kR:=pI (P:=P) (w:=w) (base:=base) nN T oh;have P9:=II (P:=P) (w:=w) (base:=base) Hy T oi oe fL qZ og kR Dr;show P9.imp (Hd.rV λns hl=>Bw trivial ns hl)
noncomputable def bl:List Str:=["all","any","dict","enumerate","len","list","max","range","reversed","set","sorted"]
theorem wC:bl.all (λx=>!Hd.tY qv (W.looseW qv []) x)=true:=by kernel_rfl
theorem Ie:PySem.Challenge.rw_holdword_k31_rings_are_loose.wellSaid=true:=by kernel_rfl
end dP
open PySem PySem.W PyProof.Rows
set_option maxRecDepth 100000 in
set_option maxHeartbeats 0 in
theorem PySem.Challenge.cw_holdword_k31_rings_are_loose_holds : PySem.Challenge.rw_holdword_k31_rings_are_loose.Holds := by
 show holds_law dP.Ie λIe=>?_
 show holds_open (q:=dP.qv) (loose:=[]) (Xt:=λs=>xlAt dP.qv [] s&&recOk [] s) (XP:=XL dP.qv []) (YP:=dP.hk.says) dP.hl (Hook.of dP.hk) (Hook.keeps dP.hk) (λs e=>xl_of s (Bool.and_eq_true_iff.mp e).1) XL.keeps (d:=⟨"law",L2.dS dP.jq,L2.bL dP.jq,L2.ah dP.jq,Hd.Kc dP.jq⟩) (kwd:=[]) (by kernel_rfl) (by kernel_rfl) (by kernel_rfl) (λs e=>recFacts_of (Bool.and_eq_true_iff.mp e).2) 1e4 Ie (by kernel_rfl) ⟨rfl,rfl,rfl,rfl,rfl,by decide +kernel⟩ ⟨[.list []],by decide +kernel,by decide +kernel⟩ ?_
 show Hd.walk (k:=6) rfl rfl ⟨rfl,by decide,by decide⟩ [] λw s₀ mg mb h as G Y h0 A fa Oc=>?_
 show dP.all_mk Oc ⟨Hd.HZ (G.T.const "JUDGE" (.str "bell") (by kernel_rfl)),Hd.fD G.T dP.wC 0 rfl,Hd.fD G.T dP.wC 1 rfl,Hd.fD G.T dP.wC 2 rfl,Hd.fD G.T dP.wC 3 rfl,Hd.fD G.T dP.wC 4 rfl,Hd.fD G.T dP.wC 5 rfl,Hd.fD G.T dP.wC 6 rfl,Hd.fD G.T dP.wC 7 rfl,Hd.fD G.T dP.wC 8 rfl,Hd.fD G.T dP.wC 9 rfl,Hd.fD G.T dP.wC 10 rfl⟩ (Hd.cu A dP.bB 0 rfl) (Hd.cu A dP.bB 1 rfl) (Hd.cu A dP.bB 2 rfl) (Hd.cu A dP.bB 3 rfl) (Hd.cu A dP.bB 4 rfl) (Hd.cu A dP.bB 5 rfl) (Hd.cu A dP.bB 6 rfl) (Hd.cu A dP.bB 7 rfl) (Hd.cu A dP.bB 8 rfl) (Hd.cu A dP.bB 9 rfl) (Hd.cu A dP.bB 10 rfl) (Hd.cu A dP.bB 11 rfl) (Hd.cu A dP.bB 12 rfl) (Hd.cu A dP.bB 13 rfl) (Hd.cu A dP.bB 14 rfl) (Hd.cu A dP.bB 15 rfl) (Hd.cu A dP.bB 16 rfl) (Hd.cu A dP.bB 17 rfl) (Hd.cu A dP.bB 18 rfl) (Hd.cu A dP.bB 19 rfl)