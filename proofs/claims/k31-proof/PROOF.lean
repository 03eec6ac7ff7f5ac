import PyProof.Rows.All
import Wide.All
import OpenK.AllK
import Wide.FinOn
import Lean
import PyProof.EqAt
import PyProof.EqKinds
import PyProof.TupleCall
import PyProof.DictCompW
import PySem.SetOps
import PyProof.SetScanFacts
import PyProof.SetKind
import PyProof.TupleKey
import PyProof.DictRoadsH
import PyProof.IsRules
import PyProof.Rows.SetFrom
import PyProof.WalksMore
import PyProof.NeKinds
import KE.KSortTup
import KE.KDictOf
import PyProof.DictFindH
import PyProof.AttrMissSeq
import KE.KDictList
import PyProof.CollectWalk
import PyProof.StrBlock2
import PyProof.SeqI3
import PyProof.EnumMake
import PyProof.WalksEnum
import PyProof.DictValues
import PyProof.DictWalks
import KE.KRevSl
import PyProof.ListMulAny
import PyProof.Rows.ListMul
import PyProof.Draws
import PyProof.Rows.IntBool
import KE.KRevIter
import PyProof.Rows.FStr
import PyProof.Rows.StrNews
import PyProof.Rows.StrSplitAre
import PyProof.CallStr
import KE.KIntText
import PyProof.AutoListH
import KE.KPairComp
import PySem.Challenge.RW_holdword_k31_rings_are_loose
noncomputable section
set_option hygiene false
local macro_rules
|`(tactic|ext $x:ident)=>`(tactic|unfold $x)
|`(tactic|ext $x:ident $h:ident)=>`(tactic|unfold $x at $h:ident)
local macro_rules
|`(tactic|show $t)=>`(tactic|refine $t)
local macro_rules
|`(1e0)=>`((by lia))
|`(1e1)=>`(Value->Shared->Prop)
|`(1e2)=>`((d8 X (vs++fs) scope C s₀ H₀ ex pn))
|`(1e3)=>`((by rfl))
|`(1e4)=>`(Yu 4e4 X.env=(false,eval e X.env)::Yu es X.env)
|`(1e5)=>`((model prog w))
|`(1e6)=>`(⟨rfl,rfl,rfl,by decide +kernel,rfl,by decide +kernel,by decide +kernel⟩)
|`(1e7)=>`((by decide))
|`(1e8)=>`(List (Addr×Obj))
|`(1e9)=>`(aq->M (List SV))
|`(2e0)=>`(Inv X pins σ H s)
|`(2e1)=>`(List Addr)
|`(2e2)=>`((model X.prog X.w))
|`(2e3)=>`(aq->M SV)
|`(2e4)=>`((backTo pos (Yu es X.env)).any (·.1)=false)
|`(2e5)=>`(Str->Option Value)
|`(2e6)=>`((by simp))
|`(2e7)=>`(PV->aq->Option aq)
|`(2e8)=>`((au 0))
|`(2e9)=>`(List Value)
|`(3e0)=>`((List PV))
|`(3e1)=>`((gY br 4e9 1e3 (@aK _ _ _ _ _ (ay 0) 8e5 1e3)))
|`(3e2)=>`((x==("__debug__":Str))=false)
|`(3e3)=>`((ls.map Lt.P))
|`(3e4)=>`(List Expr)
local macro_rules
|`(3e5)=>`((Or.inl rfl))
|`(3e6)=>`((bs.map λb=>.lst (dJ b)))
|`(3e7)=>`(Ans prog w A s κ it o)
|`(3e8)=>`(List (List Key×V))
|`(3e9)=>`(List Nat)
|`(4e0)=>`((au 1))
|`(4e1)=>`(aq->M Bool)
|`(4e2)=>`((.lst (ns.map .int)))
|`(4e3)=>`(List Str)
|`(4e4)=>`((e::es))
|`(4e5)=>`((List Key×Addr×Value))
|`(4e6)=>`((.gq ob (.dT ag)))
|`(4e7)=>`(X.fn x=true\/X.env.scope.names.lookup x=some .local)
|`(4e8)=>`(A.units<cLine)
|`(4e9)=>`((hr.mono 1e7))
|`(5e0)=>`(X.calm=true)
|`(5e1)=>`((.ref s.heap.objs.size))
|`(5e2)=>`(Nat->Nat->Bool)
|`(5e3)=>`((by decide +kernel))
|`(5e4)=>`(List (List Key))
|`(5e5)=>`((aa (au 3) af))
|`(5e6)=>`(X.A.units+64<cLine)
|`(5e7)=>`((au 2))
|`(5e8)=>`((by show⟨rfl,rfl,rfl,rfl,rfl,rfl,rfl⟩))
|`(5e9)=>`(Array (Int×Value))
local macro_rules
|`(6e0)=>`(Bool->Shared->Prop)
|`(6e1)=>`(List (PV×Addr))
|`(6e2)=>`((by simp;lia))
|`(6e3)=>`(⟨_,Yg _ rfl,rfl,rfl⟩)
|`(6e4)=>`((ι++ι2))
|`(6e5)=>`((start t.mask (aM w k)))
|`(6e6)=>`(List Key)
|`(6e7)=>`((cb ao (aa 2e8 (aa (mC (.int 9)) af))))
|`(6e8)=>`(A.handled=none)
|`(6e9)=>`((.head _))
|`(7e0)=>`((.ListComp elt gens scope pos))
|`(7e1)=>`(aq->M 3e0)
|`(7e2)=>`((.Call (.Name x p) 4e4 [] pos))
|`(7e3)=>`((aa 2e8 af))
|`(7e4)=>`(aq->M PF)
|`(7e5)=>`((g2 gI))
|`(7e6)=>`((by simpa using h))
|`(7e7)=>`(CR K ι H C)
|`(7e8)=>`((g2 fR))
|`(7e9)=>`((mC (.int 3)))
|`(8e0)=>`((mC (.int 1)))
|`(8e1)=>`(Lp X scope vs fs fr)
|`(8e2)=>`((k'==XI&&env.scope.kind==.function&&env.kindOf n==some .cell))
|`(8e3)=>`((Zay hr))
|`(8e4)=>`((λ_ _ _ _ _ _=>ln2 λ_ _=>rfl))
local macro_rules
|`(8e5)=>`((@aK _ _ _ _ _ bD b6 1e3))
|`(8e6)=>`((.lst 3e3))
|`(8e7)=>`((@aK _ _ _ _ _ (ay 0) b6 1e3))
|`(8e8)=>`((@aK _ _ _ _ _ (ay 3) b6 1e3))
|`(8e9)=>`(⟨tg,iter,ifs,0⟩)
|`(9e0)=>`((au 5))
|`(9e1)=>`((KS ls R0 R1 x4 #[aH l] x6 #[aH q]))
|`(9e2)=>`(∀x,Y1 iter X.env x=pure x)
|`(9e3)=>`(Result->Shared->Prop)
|`(9e4)=>`([.lst L])
|`(9e5)=>`((.lst ps))
|`(9e6)=>`((.inl rfl))
|`(9e7)=>`((.c C.length))
|`(9e8)=>`((.ref a))
|`(9e9)=>`((apos.endLine==aV.line)=true)
|`(10e0)=>`(⟨rfl,I.turned (t':=s.toks) (λb o hb e=>eb b o hb e) f0 f1 f3 f4 f5⟩)
|`(10e1)=>`((.Call (.Attribute (.Name x p1) "setdefault" ap1) [e1,.List [] lp] [] Pe))
|`(10e2)=>`((∀b∈fp,H' b=none))
|`(10e3)=>`(∀n∈p.toList,n<it.size)
|`(10e4)=>`((mC (.int 0)))
local macro_rules
|`(tactic|sleep 1)=>`(tactic|(intro X hP hw hK hc i pins s σ H E I hf st hg;subst hP hw hK))
|`(tactic|sleep 2)=>`(tactic|obtain⟨ι,ρ,C,fl,C',sr,e,d⟩:=h_)
|`(tactic|sleep 3)=>`(tactic|obtain⟨f0,f1,f2,f3,f4,f5⟩:=hf it 2e6)
|`(tactic|sleep 4)=>`(tactic|generalize DD ls=D at *)
|`(tactic|sleep 5)=>`(tactic|obtain⟨ι,ρ,C,z,C',sr,e,q⟩:=h_)
|`(tactic|sleep 6)=>`(tactic|dsimp only)
|`(tactic|sleep 7)=>`(tactic|intro pins s σ H x y v u Q I rx ry h)
|`(tactic|sleep 8)=>`(tactic|obtain⟨ι,ρ,C,z,C',sr,e,q⟩:=h)
set_option hygiene true
open Array renaming getElem?_eq_getElem→Yh,getElem?_eq_none→YJ,getD_eq_getD_getElem?→YO,getElem?_toList→YY,length_toList→Xs,mem_toList_iff→V5,size_setIfInBounds→Uk,forIn_toList→UF,getElem?_setIfInBounds_ne→UM,getElem?_eq_some_iff→Yau,perm_iff_toList_perm→Yav,getElem?_append_left→Yax,toList_push→Ybl,replicate→Ycl
open Bool renaming false_ne_true→Yn,false_eq_true→YD,and_eq_true→YI,eq_iff_iff→WU,not_true→UE,and_false→RN,or_eq_true→Ycq
open False renaming elim→VD
open ForInStep renaming yield→WV
open Int renaming emod_lt_of_pos→Xq,emod_nonneg→XD,toNat_natCast→XV,zero_add→P8
open List renaming append_assoc→Yd,getElem?_eq_getElem→Ye,length_append→Yf,mem_singleton→Yi,length_map→Yj,mem_cons→Yk,mem_append→Ym,mem_append_right→Yo,getElem?_append_left→Yp,map_cons→Yq,size_toArray→Yr,getD_eq_getElem?_getD→Yt,length_cons→Yv,getElem?_map→Yx,mem_map→Yy,range→YB,getElem?_append_right→YE,append_nil→YG,mem_of_getElem?→YH,getElem?_eq_none→YK,mem_cons_of_mem→YL,mem_cons_self→YS,getElem?_eq_none_iff→YT,take_append_drop→YV,all_eq_true→YW,map_append→YX,nodup_iff_pairwise_ne→Y0,mem_range→Y3,mem_append_left→Y4,getElem?_set_ne→Y5,getElem?_eq_some_iff→Y7,mem_map_of_mem→Y9,drop_eq_getElem_cons→Xc,map_map→Xd,getElem?_set_self→Xe,pairwise_append→Xh,nodup_cons→Xj,nodup_append→Xl,lookup_cons→Xm,zip_cons_cons→Xr,length_take→Xv,length_drop→Xw,pairwise_map→Xx,not_mem_nil→Xy,flatten_cons→Xz,ext_getElem?→XE,drop_eq_nil_of_le→XH,getElem?_take_of_lt→XJ,getElem_of_mem→XO,perm_append_comm→XS,take_of_length_le→X0,take_append_of_le_length→X3,length_singleton→X7,getElem?_toArray→X8,reverse_cons→Wa,length_range→Wb,any_cons→Wj,getElem_mem→Wr,map_reverse→Ws,flatMap_cons→Wv,getElem?_zip_eq_some→Wz,length_nil→WB,perm_middle→WH,getElem?_cons_succ→WJ,length_eq_zero_iff→WK,filterMap_cons→WR,take_succ_cons→WY,nil_append→WZ,length_zip→W3,map_flatMap→W7,mem_flatMap→W8,pairwise_cons→Vd,pairwise_iff_getElem→Vh,getElem?_range→Vv,cons_append→VC,replicate→VE,mem_filterMap→VJ,find?_cons→VM,foldl_cons→VQ,all_cons→V1,drop_drop→Ua,any_eq_true→Ud,drop_length→Ue,mem_filter→Uo,length_set→Uu,getElem_drop→UL,set_append_right→UY,getElem_inj→U2,nodup_range→U3,eq_nil_of_length_eq_zero→U4,take_length→U5,flatten_nil→U6,map_fst_zip→U8,mem_of_mem_take→U9,map_congr_left→Yar,length_eraseIdx_of_lt→Yaw,map_nil→P',map_singleton→Yba,append_of_mem→Ybd,drop_zero→RM,drop_sublist→Ybn,of_mem_zip→Yci
open List.Pairwise renaming imp_of_mem→Uj
open List.Perm renaming of_eq→VR,append_left→VT,trans→Uy
open List.cons renaming inj→X4,injEq→VU
open Nat renaming le_refl→Yl,ne_of_lt→Yw,lt_of_lt_of_le→Yz,lt_or_ge→YQ,zero_le→Y2,le_trans→Xb,le_of_lt→XN,add_sub_cancel_left→XU,ne_of_gt→XW,lt_succ_of_lt→Wt,lt_irrefl→Wx,zero_add→WN,not_lt_zero→WW,exists_eq_add_of_le→Vu,lt_succ_self→VA,mod_lt→VF,lt_trans→VN,lt_trichotomy→VZ,lt_of_le_of_lt→Uw,min_eq_left→RQ,succ_pos→P9,le_succ→P6,add_assoc→RH,le_of_not_lt→Ycb,max_eq_right→Ycc,le_add_right→Ycd,mod_eq_of_lt→Ycf,add_zero→RA,sub_self→Rz
open Ne renaming symm→X5
open Option renaming map_eq_some_iff→XG,map_some→VO,isSome_iff_exists→Ug,isSome_map→Ybj
open Option.some renaming inj→YR
open PyProof.Rows renaming wpS_bind→YC,wpS_pure→YM,callWith_type1→XB,slot_tuple_getitem→XC,wpS_forRange→XR,pendingOf→X9,wpS_mono→Wl,SortKind→Vs,get?_update_seq→Uz,callWith_builtin1→UX,entry_proto_collect'→Yaa,reverseSlice'→Qb,listUpdate_at→Qa,getElem?_mirror_all→Yan,wpS_modify→Mr,wpS_get→DH,entry_list_iadd'→Yce,AllBare→FX,getElem?_bubble→Ycn,listItems_at→Ry,wpS_lift→K5,seqEpoch_at→Rv
open PyProof.Rows.F renaming plain_set_update_loop→WO,entry_set_update_loop→V8
open PyProof.Rows.SortSt renaming mk'→Wu
open PySem renaming wpAny_bind→Ya,wpAny_pure→Yc,starEach→Yu,sizeLine→YA,Program→YF,Spec→YU,sizeLine_eq→YZ,foldedSetIterable→Y1,wpAny_newObj_type→Y6,wpAny_setState_of→Xa,wpAny_call_entry→Xg,wpAny_holding→Xi,wpAny_ite_split→Xn,wpAny_mono→Xo,wpAny_callSpecial?_slot→Xp,bootBuiltins→XF,codeAny_builtin→XQ,sysModules→XT,SetTable→Wc,attributeBase→Wh,Comprehension→Wn,wpAny_setField→Wy,codeAny→WA,wpAny_Call_Name_kw→WD,wpAny_typeNameOfWhole_keyiter→WF,wpAny_typeNameOfWhole_valiter→WG,FuncData→WI,wpAny_rule→WP,wpAny_dictEntries→WQ,letOwnedTupleGo→WT,Builtin→WX,wpAny_isInstance→W5,wpAny_askSetting→W6,wpAny_standAt→W9,compareOp→Va,wpAny_typeOf→Vb,wpAny_attempt→Vc,builtinLookup_eq_fast→Ve,setSearchFrom→Vf,wpAny_fieldsOf→Vi,firstArgMember→Vj,assignEach→Vk,wpAny_passesOwn→Vl,wpAny_specialOf→Vo,wpAny_typeNameOf_valiter→Vp,mem_of_lookup→Vq,tupleKind→Vy,swapsWith→Vz,wpAny_forIn_list→VB,wpAny_seqItems→VG,tupleKind_room_in1→VL,wpAny_notOrdered_dict→VV,wpAny_dictEpoch→VW,wpAny_truthy_bool→VX,wpAny_pyIter_list→VY,plainId_quiet→V0,isSubtype_type→V9,binaryOp→Uc,wpAny_comprehension_free→Ui,behindInMarks→Up,NameKind→Us,DictEntry→Uv,wpAny_loadPart'→Ux,wpAny_newList→UA,typeLookup_type→UB,size_of_entries→UD,wpAny_Call_method0_late→UG,sliceBounds→UK,wpAny_pyIter_slot→UN,atKey_none_of_get→UQ,SetTable→UR,carriedByValue→UT,wpAny_runValue→UU,codeAny_mono→UW,wpAny_isOneOf_valiter→U1,Builtin→Yac,entryOfKey→K8,wpAny_execs_nil→RS,holding→zF,PassesOwn→Hy,keywordEach→Ms,Keyword→zE,wpAny_updateSeq→RO,evalArgs_none→Yaq,storedH→Dg,isSubtype_stop→RK,ofAClassStatement→Ybk,mainGlobals→P7,unsupported→P5,wpAny_of_eq→P4,wpAny_handled→RE,noFill_tuple_add→Yca,standAt→FW,concat_meets→RB,pickOrder→Mq,codeAny_of_tree→Ycs,GenState→K6,setEntries→P2,wpAny_field→Rx,getItem→Hw,notedBy→Hv,collect→Hu,wpAny_throw→Rt,seqIndex?→P1,backToKw→Mp,compTurn→Mo,callerA→K3,valueAt→K0,ItemsOf→KZ
open PySem.Around renaming in1_units→X2,under_plainId→Wq
open PySem.Builtin.Dict renaming showsAll→UZ
open PySem.Builtin.Dict_items renaming ownsTuple→Wg
open PySem.Builtin.Frozenset renaming updateFrom→Yab
open PySem.Builtin.List renaming listExtendWith→Xu,listSameRef→WE,listLengthHint→W4,listTooLong→Vn
open PySem.Builtin.Slice renaming slicePlaces→Vg,sliceAdjust→V6,sliceApplied→Yat
open PySem.Builtin.Tuple renaming tupleHashOf→X1,tupleExact→Vm,tupleItemsOf→V4
open PySem.Calls renaming callWith_builtin→VI,spliced_cons→Ur,spliced_nil→UJ,Name_function_global→Yas
open PySem.Code renaming quiet_builtin→UC
open PySem.F renaming slot_dict_valueiterator_next→XX,slot_dict_keyiterator_next→We,called_set→Wo,plainAttrs_dict→Vw,plainAttrs_list→Vx,slot_tuple_hash→V3,plain_extend_loop→Ub,args_tuple_add_2→Uh,slot_list_getattribute→Ul,slot_dict_values→Um,entry_tuple_add→Ut,args_dict_valueiterator_next_1→UH,slot_tuple_add→UI,entry_dict_valueiterator_next→UO,args_dict_keyiterator_next_1→U0,entry_dict_keyiterator_next→U7,slot_dict_setdefault→Yaf
open PySem.Heap renaming get?_push_of_some→Yb,get?_push_size→Yg,lt_size→Ys,get?_update_self→Xk,get?_update_other→XZ,SameBut→X6,get?_update_ne→W0,size_push→V7,ExtBut→Ru
open PySem.Heap.SameBut renaming update→Y8
open PySem.NameKind renaming free→XI,cell→Vr
open PySem.Obj renaming data_mapFields→XA,mapSeq→XM,mapFields→Wm,isFreed_of_fields→WC,cls_mapFields→V2
open PySem.Paired renaming length→Ww
open PySem.PassesOwn renaming never→Wp
open PySem.SetFound renaming there→RJ
open PySem.SetTable renaming grown→UV,sizeAbove→Ybb,slot→RI
open PySem.Str renaming ofString→WL
open PySem.Value renaming ref→YN,none→Xf,type→XY,bool→Uf
open PySem.W renaming kas_item→Vt,keepIn→Hx,kas_rev→FV
open PySem.W.Looks renaming of_pure→RF
open Sum renaming inr→VH,inl→K4
open Sum.inl renaming injEq→RC
open Sum.inr renaming injEq→RD
open True renaming intro→K7
set_option backward.eqns.nonrecursive false
set_option genSizeOf false
set_option compiler.extract_closed false
set_option bootstrap.genMatcherCode false
set_option Elab.async false
set_option linter.all false
set_option maxRecDepth 100000
namespace L2
open PySem PySem.Spec PyProof.Rows
abbrev Key:=Sum Int Str
noncomputable def gG:Key->Value->Bool
 |.inl k,v=>Value.isInt k v
 |.inr x,v=>Value.isStrOf x v
noncomputable def EX (w:World):Key->Int
 |.inl k=>hashInt k
 |.inr x=>hashStr w x
theorem C8:∀{k:Key}{v:Value},gG k v=true->(∃i t,k=K4 i/\v=Value.int i t)\/(∃x t,k=VH x/\v=Value.str x t)
 |.inl i,v,h=>by
  obtain⟨t,e⟩:=Value.isInt_shape (k:=i) (v:=v) h;show .inl ⟨i,t,rfl,e⟩
 |.inr x,v,h=>by
  obtain⟨t,e⟩:=Value.isStrOf_shape (x:=x) (v:=v) h;show .inr ⟨x,t,rfl,e⟩
theorem lN(i:Int)(t:Tok):gG (.inl i) (.int i t)=true:=by simp[gG,Value.isInt]
theorem ZW(x:Str)(t:Tok):gG (.inr x) (.str x t)=true:=by simp[gG,Value.isStrOf]
theorem Jn(a b:Int):decide ((K4 a:Key)=K4 b)=(a==b):=by
 by_cases e:a=b
 ·subst e;simp
 ·have h:¬(K4 a:Key)=K4 b:=λq=>e (Sum.inl.inj q)
  rw[decide_eq_false h];show(beq_eq_false_iff_ne.mpr e).symm
theorem Jk(a b:Str):decide ((VH a:Key)=VH b)=decide (a=b):=by
 by_cases e:a=b
 ·subst e;simp
 ·have h:¬(VH a:Key)=VH b:=λq=>e (Sum.inr.inj q)
  rw[decide_eq_false h,decide_eq_false e]
theorem Jm(a:Int)(b:Str):decide ((K4 a:Key)=VH b)=false:=decide_eq_false (λq=>nomatch q)
theorem Jl(a:Str)(b:Int):decide ((VH a:Key)=K4 b)=false:=decide_eq_false (λq=>nomatch q)
def aD(prog:YF)(w:World):PySem.KeyKind prog w Key where
 is:=gG
 hash:=EX w
 inj:=λv a b ha hb=>by
  rcases C8 ha with⟨i,t,rfl,rfl⟩|⟨x,t,rfl,rfl⟩
  ·rcases C8 hb with⟨j,u,rfl,e⟩|⟨y,u,rfl,e⟩
   ·injection e with e1 _;rw[e1]
   ·show nomatch e
  ·rcases C8 hb with⟨j,u,rfl,e⟩|⟨y,u,rfl,e⟩
   ·show nomatch e
   ·injection e with e1 _;rw[e1]
 byValue:=λk v h=>by
  rcases C8 h with⟨i,t,rfl,rfl⟩|⟨x,t,rfl,rfl⟩<;>rfl
 pyHash:=λhv h=>by
  rcases C8 hv with⟨i,t,rfl,rfl⟩|⟨x,t,rfl,rfl⟩
  ·show wpAny_pyHash_int h
  ·show wpAny_pyHash_str h
 eqBool:=λhu hv h=>by
  rcases C8 hu with⟨i,t,rfl,rfl⟩|⟨x,t,rfl,rfl⟩
  ·rcases C8 hv with⟨j,u,rfl,rfl⟩|⟨y,u,rfl,rfl⟩
   ·rw[Jn]at h;show wpAny_eqBool_int h
   ·rw[Jm]at h;show SeqAt.EqAt.int_str i t y u _ _ _ _ h
  ·rcases C8 hv with⟨j,u,rfl,rfl⟩|⟨y,u,rfl,rfl⟩
   ·rw[Jl]at h;show SeqAt.EqAt.str_int x t j u _ _ _ _ h
   ·rw[Jk]at h;show wpAny_eqBool_str h
 «strs»:=λk x t v h=>by
  rcases C8 h with⟨i,u,rfl,e⟩|⟨y,u,rfl,e⟩
  ·show nomatch e
  ·injection e with e1 _
   subst e1;cases v<;>rfl
theorem pN(prog:YF)(w:World)(i:Int)(t:Tok):(aD prog w).is (.inl i) (.int i t)=true:=lN i t
theorem pM(prog:YF)(w:World)(x:Str)(t:Tok):(aD prog w).is (.inr x) (.str x t)=true:=ZW x t
inductive V where
 |aF|bl (b:Bool)|int (i:Int)|str (x:Str)|yU (b:Array UInt8)|Zz (b:UInt64)|ref (a:Addr)|ty (n:String)
 deriving DecidableEq
def RelV:V->Value->Prop
 |.aF,u=>u=Xf
 |.bl b,u=>u=Uf b
 |.int i,u=>∃t,u=Value.int i t
 |.str x,u=>∃t,u=Value.str x t
 |.yU b,u=>∃t,u=Value.bytes b t
 |.Zz b,u=>∃t,u=Value.float b t
 |.ref a,u=>u=YN a
 |.ty n,u=>u=XY n
abbrev Vals:List V->List Value->Prop:=Paired RelV
theorem Vals.length{xs:List V}{us:2e9}(r:Vals xs us):xs.length=us.length:=Ww r
theorem Vals.get:∀{xs:List V}{us:2e9}{i:Nat}{x:V},Vals xs us->xs[i]? = some x->∃u,us[i]? = some u/\RelV x u
 |_,_,_,_,.nil,e=>by simp at e
 |_,_,0,_,.cons r _,e=>by simp at e;subst e;show⟨_,rfl,r⟩
 |_,_,i+1,x,.cons _ t,e=>by
  obtain⟨u,h1,h2⟩:=Vals.get (i:=i) (x:=x) t (by simpa using e);show⟨u,by simpa using h1,h2⟩
theorem Vals.set{x:V}{u:Value}(r:RelV x u):∀{xs:List V}{us:2e9}(i:Nat),Vals xs us->Vals (xs.set i x) (us.set i u)
 |_,_,_,.nil=>.nil
 |_,_,0,.cons _ t=>.cons r t
 |_,_,i+1,.cons q t=>.cons q (Vals.set r i t)
theorem Vals.append:∀{xs ys:List V}{us ws:2e9},Vals xs us->Vals ys ws->Vals (xs++ys) (us++ws)
 |_,_,_,_,.nil,s=>s
 |_,_,_,_,.cons r t,s=>.cons r (Vals.append t s)
theorem Vals.take:∀{xs:List V}{us:2e9}(n:Nat),Vals xs us->Vals (xs.take n) (us.take n)
 |_,_,0,_=>.nil
 |_,_,_+1,.nil=>.nil
 |_,_,n+1,.cons r t=>.cons r (Vals.take n t)
theorem Vals.drop:∀{xs:List V}{us:2e9}(n:Nat),Vals xs us->Vals (xs.drop n) (us.drop n)
 |_,_,0,r=>r
 |_,_,_+1,.nil=>.nil
 |_,_,n+1,.cons _ t=>Vals.drop n t
def iN:Option V->Option Value->Prop
 |some v,some u=>RelV v u
 |none,none=>True
 |_,_=>False
def KV{κ:Type}:List (κ×V)->List (κ×Value)->Prop:=Paired λ(p:κ×V) (q:κ×Value)=>p.1=q.1/\RelV p.2 q.2
noncomputable def kV:Key->V
 |.inl i=>.int i
 |.inr x=>.str x
inductive HO where
  |lst (xs:List V)
  |tup (xs:List V)
  |dK (ag:List (Key×V))|dT (ag:List (List Key×V))
  |set (S:Int->Bool) (n:Nat)
  |ins (C dx:Addr) (fs:List (Str×V))
  |own (x:Addr)
  |xd (fs:List (Str×V))
  |met (f x:Addr)
  |Sq (lo hi:Int)
  |gq (o:Obj) (u:HO)
  |Ga (ps:Array Value)
  |ext (φ:Heap->Prop)
abbrev Hp:=Addr->Option HO
noncomputable def upd (H:Hp)(a:Addr)(o:HO):Hp:=λb=>if b=a then some o else H b
theorem fW{H:Hp}{a:Addr}{o:HO}:upd H a o a=some o:=by ext upd;rw[if_pos rfl]
theorem ba{H:Hp}{a b:Addr}{o:HO}(h:b≠a):upd H a o b=H b:=by ext upd;rw[if_neg h]
theorem A0{H:Hp}{a b:Addr}{o u:HO}(h:H a=some o)(h':H b=some u)(d:o≠u):a≠b:=by
 intro e;subst e;rw[h]at h';show d (YR h')
theorem gB{H:Hp}{a b:Addr}{o:HO}(h:H a=some o)(h':H b=none):a≠b:=by
 intro e;subst e;rw[h]at h';cases h'
section
variable(P:YF)(w:World)
def aY(H:Hp)(h:Heap)(a:Addr):HO->Prop
 |.lst xs=>xs.length<=YA/\∃(aw:2e9)(n:Nat),Vals xs aw/\h.get? a=some {cls:=.type "list",data:=.seq aw.toArray n}
 |.tup xs=>xs.length<=YA/\∃aw:List Value,Vals xs aw/\IsTup h a aw.toArray
 |.dK ag=>ag.length<=YA/\(a==XT)=false/\∃vs,KV ag vs/\h.DictOf (aD P w) a vs
 |.dT ag=>ag.length<=YA/\(a==XT)=false/\∃xs:List 4e5,
   Paired (λ(p:List Key×V) (q:List Key×Addr×Value)=>p.1=q.1/\H q.2.1=some (.tup (p.1.map kV))/\RelV p.2 q.2.2) ag xs/\
   ∃o es ep,h.get? a=some o/\o.ExactDict/\o.data=.dict es ep/\es.toList=xs.map (K8 (Vy (aD P w)))/\(xs.map (·.1)).Nodup
 |.set S n=>h.SetOf (intKind P w) a S n
 |.ins C dx fs=>H dx=some (.own a)/\fs.length<=1000/\dx≠a/\h.get? a=some (W.instObj C dx)/\
   ∃mA,h.Ns1 dx mA/\(∀f,iN (fs.lookup f) (mA f))/\PySem.Within mA (fs.map (·.1))
 |.own _=>∃o,h.get? a=some o
 |.xd fs=>∃mA,h.Ns1 a mA/\∀f,iN (fs.lookup f) (mA f)
 |.Sq lo hi=>∃t u v,h.get? a=some {cls:=.type "range",data:=.fields #[.int lo t,.int hi u,.int 1 v]}
 |.gq o u=>h.get? a=some o/\aY H h a u
 |.Ga ps=>h.get? a=some {cls:=.none,data:=.fields ps}
 |.met f x=>h.get? a=some (W.methodObj (.ref f) (.ref x))
 |.ext φ=>φ h/\(∃o,h.get? a=some o)/\∀h1 h2:Heap,φ h1->(∀o,h1.get? a=some o->h2.get? a=some o)->φ h2
def gw(H:Hp)(h:Heap):Prop:=∀a o,H a=some o->aY P w H h a o
end
section
variable{P:YF}{w:World}{H H':Hp}{h h':Heap}{a:Addr}{o:HO}
theorem aY.lt(x:aY P w H h a o):a<h.objs.size:=by
 cases o with
 |lst xs=>obtain⟨_,_,_,_,e⟩:=x;show Ys e
 |tup xs=>obtain⟨_,_,_,p⟩:=x;show p.lt
 |dK ag=>obtain⟨_,_,_,_,o,_,_,e,_⟩:=x;show Ys e
 |dT ag=>obtain⟨_,_,_,_,o,_,_,e,_⟩:=x;show Ys e
 |set S n=>obtain⟨o,_,_,_,e,_⟩:=x;show Ys e
 |ins C dx fs=>obtain⟨_,_,_,e,_⟩:=x;show Ys e
 |own y=>obtain⟨_,e⟩:=x;show Ys e
 |xd fs=>obtain⟨_,⟨_,_,_,e,_⟩,_⟩:=x;show Ys e
 |Sq lo hi=>obtain⟨_,_,_,e⟩:=x;show Ys e
 |gq ob u=>obtain⟨e,_⟩:=x;show Ys e
 |Ga ps=>show Ys (show h.get? a=some _ from x)
 |met f y=>show Ys (show h.get? a=some _ from x)
 |ext φ=>obtain⟨_,⟨_,e⟩,_⟩:=x;show Ys e
theorem Paired.IX{α β:Type}{F G:α->β->Prop}:∀{l₁:List α}{l₂:List β},Paired F l₁ l₂->(∀a b,F a b->G a b)->Paired G l₁ l₂
 |_,_,.nil,_=>.nil
 |_,_,.cons r t,f=>.cons (f _ _ r) (Paired.IX t f)
theorem aY.cW(x:aY P w H h a o)(k:∀b u,(b=a\/H b=some (.own a))->h.get? b=some u->h'.get? b=some u)
  (ho:∀b,H b=some (.own a)->H' b=some (.own a)) (ht:∀b xs,H b=some (.tup xs)->H' b=some (.tup xs)):aY P w H' h' a o:=by
 induction o with
 |lst xs=>obtain⟨z,aw,n,r,e⟩:=x;show⟨z,aw,n,r,k _ _ 9e6 e⟩
 |tup xs=>obtain⟨z,aw,r,ob,e,c⟩:=x;show⟨z,aw,r,ob,k _ _ 9e6 e,c⟩
 |dK ag=>obtain⟨z,y,vs,r,ob,es,ep,e,c⟩:=x;show⟨z,y,vs,r,ob,es,ep,k _ _ 9e6 e,c⟩
 |dT ag=>
  obtain⟨z,y,xs,r,ob,es,ep,e,c⟩:=x;show⟨z,y,xs,Paired.IX r λp q z=>⟨z.1,ht _ _ z.2.1,z.2.2⟩,ob,es,ep,k _ _ 9e6 e,c⟩
 |set S n=>obtain⟨ob,es,ep,t,e,c⟩:=x;show⟨ob,es,ep,t,k _ _ 9e6 e,c⟩
 |ins C dx fs=>
  obtain⟨d,z,ne,e,mA,⟨od,es,ep,e2,c⟩,r⟩:=x;show⟨ho _ d,z,ne,k _ _ 9e6 e,mA,⟨od,es,ep,k _ _ (.inr d) e2,c⟩,r⟩
 |own y=>obtain⟨ob,e⟩:=x;show⟨ob,k _ _ 9e6 e⟩
 |xd fs=>obtain⟨mA,⟨od,es,ep,e,c⟩,r⟩:=x;show⟨mA,⟨od,es,ep,k _ _ 9e6 e,c⟩,r⟩
 |Sq lo hi=>obtain⟨t,u,v,e⟩:=x;show⟨t,u,v,k _ _ 9e6 e⟩
 |gq ob u ih=>obtain⟨e,q⟩:=x;show⟨k _ _ 9e6 e,ih q⟩
 |Ga ps=>
  have e:h.get? a=some {cls:=.none,data:=.fields ps}:=x;change h'.get? a=some {cls:=.none,data:=.fields ps};show k a _ 9e6 e
 |met f y=>
  have e:h.get? a=some (W.methodObj (.ref f) (.ref y)):=x;change h'.get? a=some (W.methodObj (.ref f) (.ref y));show k a _ 9e6 e
 |ext φ=>obtain⟨p,⟨o,e⟩,st⟩:=x;show⟨st _ _ p λo q=>k _ _ 9e6 q,⟨o,k _ _ 9e6 e⟩,st⟩
theorem gw.lt(x:gw P w H h)(e:H a=some o):a<h.objs.size:=(x a o e).lt
theorem gw.fresh(x:gw P w H h)(e:h.objs.size<=a):H a=none:=by
 cases q:H a with
 |none=>rfl
 |some u=>show absurd (Yz (x.lt q) e) (Wx _)
theorem gw.kept(x:gw P w H h)(k:∀b u,h.get? b=some u->h'.get? b=some u):gw P w H h':=λa o e=>
 (x a o e).cW (λb u _ q=>k b u q) (λ_ q=>q) λ_ _ q=>q
theorem gw.laid(x:gw P w H h)(k:∀b u,h.get? b=some u->h'.get? b=some u)(hp:h.objs.size<=a)(new:aY P w (upd H a o) h' a o):gw P w (upd H a o) h':=λb u e=>by
 have hn:=x.fresh hp;by_cases hb:b=a
 ·subst hb;rw[fW]at e;cases e;show new
 ·rw[ba hb]at e
  show(x b u e).cW (λc v _ q=>k c v q) (λc q=>by rw[ba (gB q hn)];show q) λc xs q=>by rw[ba (gB q hn)];show q
end
def Rd(H:Hp)(a:Addr)(u:HO):Prop:=H a=some u\/∃o,H a=some (.gq o u)
theorem Rd.ok{P:YF}{w:World}{H:Hp}{h:Heap}{a:Addr}{u:HO}(r:Rd H a u)(x:gw P w H h):aY P w H h a u:=by
 rcases r with r|⟨o,r⟩
 ·show x a u r
 ·obtain⟨_,q⟩:=x a _ r
  show q
def Qf:Option HO->Prop
 |some (.lst _)=>True
 |some (.dK _)=>True
 |some (.dT _)=>True
 |some (.set _ _)=>True
 |some (.ins _ _ _)=>True
 |some (.ext _)=>True
 |_=>False
section
variable{P:YF}{w:World}{H:Hp}{h h':Heap}{x e:Addr}{o':HO}
theorem gw.write(ok:gw P w H h)(mu:Qf (H x))(he:e=x\/H e=some (.own x))(k:∀b u,b≠e->h.get? b=some u->h'.get? b=some u)(LJ:∃u,h'.get? e=some u)
  (new:aY P w (upd H x o') h' x o'):gw P w (upd H x o') h':=λb u q=>by
 have Nx:∀c y,H c=some (.own y)->c≠x:=λc y r z=>by subst z;rw[r]at mu;show mu
 have SJ:∀c xs,H c=some (.tup xs)->c≠x:=λc xs r z=>by subst z;rw[r]at mu;show mu
 by_cases hb:b=x
 ·subst hb;rw[fW]at q;cases q;show new
 ·rw[ba hb]at q
  by_cases JR:b=e
  ·have q':H b=some (.own x):=by
    rcases he with z|z
    ·show absurd (JR.trans z) hb
    ·rw[JR];show z
   rw[q]at q';cases q';obtain⟨v,hv⟩:=LJ;show⟨v,by rw[JR];show hv⟩
  ·show(ok b u q).cW (λc v hc r=>k c v ?_ r) (λc r=>by rw[ba (Nx c b r)];show r) λc xs r=>by rw[ba (SJ c xs r)];show r
   rcases hc with rfl|hc
   ·show JR
   ·rintro rfl
    rcases he with z|z
    ·show Nx c b hc z
    ·rw[hc]at z;cases z;show hb rfl
end
structure Un(fs ex:List Addr)(H H':Hp)(h h':Heap):Prop where
 keep:∀b o,h.get? b=some o->H b=none->b∉fs->b∉ex->h'.get? b=some o
 slot:∀b o,h.get? b=some o->H b=none->b∈fs->b∉ex->∃sl,h'.get? b=some {o with slots:=sl}
 free:∀b o,h.get? b=some o->H b=none->b∉ex->H' b=none
 there:∀b o,h.get? b=some o->b∉ex->∃o',h'.get? b=some o'
 hZ:∀b xs,H b=some (.tup xs)->H' b=some (.tup xs)
 gp:∀b o u,H b=some (.gq o u)->H' b=some (.gq o u)
 jh:∀b ps,H b=some (.Ga ps)->∃more,H' b=some (.Ga (ps++more))
section
variable{fs fs' ex ex':2e1}{H H1 H2:Hp}{h h1 h2 h':Heap}{a x e:Addr}{o:HO}
theorem Un.any(u:Un fs ex H H1 h h1){b:Addr}{ob:Obj}(q:h.get? b=some ob)(n:H b=none)(hx:b∉ex):∃sl,h1.get? b=some {ob with slots:=sl}:=by
 by_cases hb:b∈fs
 ·show u.slot b ob q n hb hx
 ·show⟨ob.slots,u.keep b ob q n hb hx⟩
theorem Un.kept(k:∀b u,h.get? b=some u->h'.get? b=some u):Un fs ex H H h h':=
 ⟨λb ob q _ _ _=>k b ob q,λb ob q _ _ _=>⟨ob.slots,k b ob q⟩,λ_ _ _ n _=>n,λb ob q _=>⟨ob,k b ob q⟩,λ_ _ q=>q,λ_ _ _ q=>q,λ_ ps q=>⟨#[],by rw[q];simp⟩⟩
theorem Un.refl:Un fs ex H H h h:=Un.kept λ_ _ q=>q
theorem Un.laid(k:∀b u,h.get? b=some u->h'.get? b=some u)(hp:h.objs.size<=a)(hn:H a=none):Un fs ex H (upd H a o) h h' where
 keep:=λb u q _ _ _=>k b u q
 slot:=λb u q _ _ _=>⟨u.slots,k b u q⟩
 free:=λb u q n _=>by rw[ba (Yw (Yz (Ys q) hp))];show n
 there:=λb u q _=>⟨u,k b u q⟩
 hZ:=λb xs q=>by rw[ba (gB q hn)];show q
 gp:=λb u xs q=>by rw[ba (gB q hn)];show q
 jh:=λb ps q=>⟨#[],by rw[ba (gB q hn),q];simp⟩
theorem Un.write(mu:Qf (H x))(he:e=x\/H e=some (.own x))(k:∀b u,b≠e->h.get? b=some u->h'.get? b=some u)(LJ:∃u,h'.get? e=some u):Un fs ex H (upd H x o) h h':=by
 have hx:∀b,H b=none->b≠x:=λb n z=>by subst z;rw[n]at mu;show mu
 have hb:∀b,H b=none->b≠e:=λb n z=>by
  subst z;rcases he with r|r
  ·show hx b n r
  ·rw[n]at r;cases r
 have hm:∀b u,H b=some u->¬Qf (some u)->b≠x:=λb u q nm z=>by subst z;rw[q]at mu;show nm mu
 show⟨λb u q n _ _=>k b u (hb b n) q,λb u q n _ _=>⟨u.slots,k b u (hb b n) q⟩,λb u q n _=>by rw[ba (hx b n)];show n,λb u q _=>?_,
  λb xs q=>by rw[ba (hm b _ q λz=>z)];show q,λb u xs q=>by rw[ba (hm b _ q λz=>z)];show q,λb ps q=>⟨#[],by rw[ba (hm b _ q λz=>z),q];simp⟩⟩
 by_cases JR:b=e
 ·subst JR;show LJ
 ·show⟨u,k b u JR q⟩
end
noncomputable def Ql (h:Heap)(H:Hp):List Addr:=(YB h.objs.size).filter λa=>(H a).isSome
def nF(h:Heap)(H:Hp):Heap:=W.hideAll h (Ql h H)
theorem yy(h:Heap)(H:Hp):(nF h H).objs.size=h.objs.size:=W.hideAll_size _ _
theorem BV{h:Heap}{H:Hp}{b:Addr}{o:Obj}(e:h.get? b=some o)(n:H b=none):(nF h H).get? b=some o:=
 W.hideAll_get _ e λhm=>by
  have q:(H b).isSome=true:=(Uo.mp hm).2;rw[n]at q;simp at q
theorem EB{h:Heap}{H:Hp}{b:Addr}{o:Obj}(e:(nF h H).get? b=some o):h.get? b=some o/\H b=none:=by
 have e':h.get? b=some o:=W.of_hideAll (Ql h H) e;show⟨e',?_⟩;cases q:H b with
 |none=>rfl
 |some x=>
  have hm:b∈Ql h H:=Uo.mpr ⟨Y3.mpr (Ys e'),by simp[q]⟩;have z:(nF h H).get? b=none:=W.hideAll_none (Ql h H) hm;rw[z]at e;cases e
structure Mod(K:W.Frag)(mg:Str->Option Value)(base:Heap):Prop where
 S8:K.In base
 glob:base.Ns P7 mg
 blt:∃mb,base.Ns builtinsNs mb/\∀x:Str,x≠"__name__"->mb x=XF x
 nolimit:base.NoLimit
structure Cx where
 prog:YF
 w:World
 K:W.Frag
 mg:Str->Option Value
 base:Heap
 A:Around
 N:List Str
 s₀:Shared
 H₀:Hp
 env:Env
 outer:List Env
 stack:List Env
 ex:List Addr
 fn:Str->Bool
 calm:Bool
 pn:List (Addr×Obj)
 xe:Value->Shared->Prop
noncomputable def ub (l:List Env):List Addr:=l.filterMap (·.frame)
abbrev Cx.fs(X:Cx):List Addr:=ub X.outer
def Mt(sc:Scope)(x:Str):Prop:=sc.names.lookup x=some .local\/sc.names.lookup x=some .cell\/sc.names.lookup x=some .free
def Loc(sc:Scope)(x:Str):Prop:=sc.names.lookup x=some .local\/sc.names.lookup x=some .cell
def Look(env:Env)(h:Heap)(m:2e5)(x:Str)(u:Value):Prop:=
 (env.kindOf x=some .local/\m x=some u)\/((env.kindOf x=some .cell\/env.kindOf x=some .free)/\∃c,env.cells.lookup x=some c/\h.IsCell c (some u))
structure Cx.Ok(X:Cx):Prop where
 mod:Mod X.K X.mg X.base
 kind:X.env.scope.kind=.function
 glob:X.env.globals=P7
 blt:X.env.builtins=builtinsNs
 above:X.s₀.heap.objs.size<=X.env.locals
 inj:∀x y c,X.env.cells.lookup x=some c->X.env.cells.lookup y=some c->x=y
 has:∀x,(X.env.kindOf x=some .cell\/X.env.kindOf x=some .free)->∃c,X.env.cells.lookup x=some c
 Pf:∀x c,X.fn x=true->X.env.cells.lookup x=some c->X.s₀.heap.objs.size<=c
 hd:X.calm=true->X.A.handled=none
 frames:X.A.frames=some X.stack
 Qm:X.stack=X.outer\/(X.stack=X.env::X.outer/\X.env.frame=some X.env.locals)
 ZD:∀b∈X.ex,b≠X.env.locals/\∀x c,X.env.cells.lookup x=some c->c≠b
 bs:∀b o,X.base.get? b=some o->X.s₀.heap.get? b=some o/\X.H₀ b=none
 Ks:X.base.objs.size<=X.s₀.heap.objs.size
 yb:∀b o,X.base.get? b=some o->b∉X.ex
 B7:∀b∈X.ex,b∉X.fs
 jT:X.s₀.heap.FunFrames X.base X.outer
 LZ:∀b∈X.fs,X.H₀ b=none
structure Inv(X:Cx)(pins:List (Addr×Obj))(σ:List (Option V))(H:Hp)(s:Shared):Prop where
 ok:X.Ok
 os:s.os=X.s₀.os
 bare:FX s.gens
 base:Un X.fs X.ex X.H₀ H X.s₀.heap s.heap
 loc:∃m,s.heap.Ns X.env.locals m/\∀(i:Nat)(x:Str)(v:V),X.N[i]? = some x->σ[i]? = some (some v)->Mt X.env.scope x->∃u,RelV v u/\Look X.env s.heap m x u
 cell:∀x c,X.env.cells.lookup x=some c->∃v,s.heap.IsCell c v
 free:H X.env.locals=none
 eG:∀x c,X.env.cells.lookup x=some c->H c=none
 pin:∀p∈X.pn++pins,s.heap.get? p.1=some p.2/\H p.1=none/\p.1≠X.env.locals/\p.1∉X.fs/\∀v,p.2.data≠.cell v
 aQ:gw X.prog X.w H s.heap
 len:σ.length=X.N.length
section
variable{X:Cx}{pins:1e8}{σ:List (Option V)}{H H':Hp}{s:Shared}{h':Heap}
theorem Cx.Ok.SO(ok:X.Ok){b:Addr}{o:Obj}(e:X.base.get? b=some o):b∉X.fs:=λhb=>by
 have:=(ok.jT.mem hb).1;rw[e]at this;cases this
theorem Inv.bs(I:2e0):∀b o,X.base.get? b=some o->s.heap.get? b=some o/\H b=none:=λb o e=>
 ⟨I.base.keep b o (I.ok.bs b o e).1 (I.ok.bs b o e).2 (I.ok.SO e) (I.ok.yb b o e),I.base.free b o (I.ok.bs b o e).1 (I.ok.bs b o e).2 (I.ok.yb b o e)⟩
theorem Inv.bk(I:2e0):∀b o,X.base.get? b=some o->s.heap.get? b=some o:=λb o e=>(I.bs b o e).1
theorem Inv.mod(I:2e0):Mod X.K X.mg X.base:=I.ok.mod
theorem Inv.Ly(I:2e0):X.K.In s.heap:=I.ok.mod.S8.keeps I.bk
theorem Inv.nolimit(I:2e0):s.heap.NoLimit:=I.ok.mod.nolimit.keeps I.bk
theorem Inv.lt(I:2e0):X.env.locals<s.heap.objs.size:=let⟨_,hn,_⟩:=I.loc;hn.lt
theorem Inv.sz(I:2e0):X.s₀.heap.objs.size<=s.heap.objs.size:=Xb I.ok.above (XN I.lt)
theorem Inv.IP(I:2e0){a:Addr}(h:s.heap.objs.size<=a):a∉X.fs:=λhb=>by
 obtain⟨_,o,ho,_⟩:=I.ok.jT.mem hb;show absurd (Yz (Ys ho) (Xb I.sz h)) (Wx _)
theorem Inv.Kq(I:2e0):∀x c,X.env.cells.lookup x=some c->c≠X.env.locals:=λx c e z=>by
 obtain⟨v,o,ho,hd⟩:=I.cell x c e;obtain⟨m,⟨o',es,ep,JF,gA,_⟩,_⟩:=I.loc;rw[z,JF]at ho;cases ho;rw[gA]at hd;cases hd
theorem Inv.jT(I:2e0):s.heap.FunFrames X.base X.outer:=by
 have all:∀(l:List Env),(∀b∈ub l,b∈X.fs)->X.s₀.heap.FunFrames X.base l->s.heap.FunFrames X.base l:=by
  intro l;induction l with
  |nil=>intro _ _;trivial
  |cons env r ih=>
   intro hs hl;obtain⟨hk,⟨L,o,hf,hn,ho,hd⟩,hr⟩:=hl;have hL:L∈X.fs:=hs L (by ext ub;rw[WR,hf];show YS);obtain⟨sl,e⟩:=I.base.slot L o ho (I.ok.LZ L hL) hL λz=>I.ok.B7 L z hL;show⟨hk,⟨L,_,hf,hn,e,hd⟩,ih (λb hb=>hs b (by ext ub;rw[WR,hf];show YL _ hb)) hr⟩
 show all X.outer (λ_ hb=>hb) I.ok.jT
theorem Inv.stack(I:2e0):s.heap.FunFrames X.base X.stack:=by
 rcases I.ok.Qm with e|⟨e,hf⟩
 ·rw[e];show I.jT
 ·rw[e]
  obtain⟨m,hn,_⟩:=I.loc;show .cons (by rw[I.ok.kind];decide) hf hn ?_ I.jT;show Heap.get?_none_of_le (Xb I.ok.Ks I.ok.above)
theorem Inv.h7(I:2e0):∀b∈ub X.stack,b∈X.env.locals::X.fs:=λb hb=>by
 rcases I.ok.Qm with e|⟨e,hf⟩
 ·rw[e]at hb;show YL _ hb
 ·rw[e]at hb
  ext ub hb;rw[WR,hf]at hb;show hb
theorem Inv.u7(I:2e0):∀b∈ub X.stack,H b=none:=λb hb=>by
 rcases Yk.mp (I.h7 b hb)with e|hb
 ·rw[e];show I.free
 ·obtain⟨_,o,ho,_⟩:=I.ok.jT.mem hb
  show I.base.free b o ho (I.ok.LZ b hb) λz=>I.ok.B7 b z hb
theorem Inv.step{g':Array K6}{t':Nat}{d':Drawn}{ch:2e1}(I:2e0)
  (zy:∀b∈ch,(b∈X.ex\/X.s₀.heap.objs.size<=b)/\b≠X.env.locals/\(∀x c,X.env.cells.lookup x=some c->c≠b)/\∀p∈X.pn++pins,p.1≠b)
  (keep:∀b o,b≠X.env.locals->b∉X.fs->b∉ch->s.heap.get? b=some o->H b=none->h'.get? b=some o)
  (slot:∀b o,b≠X.env.locals->b∈X.fs->b∉ch->s.heap.get? b=some o->H b=none->∃sl,h'.get? b=some {o with slots:=sl}) (free:∀b o,b∉ch->s.heap.get? b=some o->H b=none->H' b=none)
  (there:∀b o,b∉ch->s.heap.get? b=some o->∃o',h'.get? b=some o')
  (hZ:∀b xs,H b=some (.tup xs)->H' b=some (.tup xs)) (gp:∀b o u,H b=some (.gq o u)->H' b=some (.gq o u)) (jh:∀b ps,H b=some (.Ga ps)->∃more,H' b=some (.Ga (ps++more)))
  (ns:∀m,s.heap.Ns X.env.locals m->h'.Ns X.env.locals m) (aQ:gw X.prog X.w H' h') (hg:FX g'):
  Inv X pins σ H' {s with heap:=h',gens:=g',drawn:=d',toks:=t'}:=by
 have neL:∀b o,X.s₀.heap.get? b=some o->b≠X.env.locals:=λb o e=>Yw (Yz (Ys e) I.ok.above);have Qs:∀b o,X.s₀.heap.get? b=some o->b∉X.ex->b∉ch:=λb o e hx hb=>by
  rcases(zy b hb).1 with z|z
  ·show hx z
  ·show absurd (Yz (Ys e) z) (Wx _)
 have cellK:∀x c,X.env.cells.lookup x=some c->∀v,s.heap.IsCell c v->h'.IsCell c v:=λx c e v h_=>by
  obtain⟨o,ho,hd⟩:=h_;have NB:c∉ch:=λz=>(zy c z).2.2.1 x c e rfl;by_cases hc:c∈X.fs
  ·obtain⟨sl,q⟩:=slot c o (I.Kq x c e) hc NB ho (I.eG x c e)
   show⟨_,q,hd⟩
  ·show⟨o,keep c o (I.Kq x c e) hc NB ho (I.eG x c e),hd⟩
 show⟨I.ok,I.os,hg,⟨λb o e n hb hx=>?_,λb o e n hb hx=>?_,λb o e n hx=>?_,λb o e hx=>?_,λb xs e=>hZ b xs (I.base.hZ b xs e),λb o xs e=>gp b o xs (I.base.gp b o xs e),λb ps e=>?_⟩,?_,λx c e=>?_,?_,λx c e=>?_,λp hp=>?_,aQ,I.len⟩
 ·show keep b o (neL b o e) hb (Qs b o e hx) (I.base.keep b o e n hb hx) (I.base.free b o e n hx)
 ·obtain⟨sl,e1⟩:=I.base.slot b o e n hb hx
  obtain⟨sl',e2⟩:=slot b _ (neL b o e) hb (Qs b o e hx) e1 (I.base.free b o e n hx);show⟨sl',e2⟩
 ·obtain⟨o',e1⟩:=I.base.there b o e hx
  show free b o' (Qs b o e hx) e1 (I.base.free b o e n hx)
 ·obtain⟨o',e1⟩:=I.base.there b o e hx
  show there b o' (Qs b o e hx) e1
 ·obtain⟨m1,e1⟩:=I.base.jh b ps e
  obtain⟨m2,e2⟩:=jh b _ e1;show⟨m1++m2,by rw[e2,Array.append_assoc]⟩
 ·obtain⟨m,hn,hl⟩:=I.loc
  show⟨m,ns m hn,λi x v e1 e2 e3=>?_⟩;obtain⟨u,r,l⟩:=hl i x v e1 e2 e3;show⟨u,r,?_⟩;rcases l with l|⟨k,c,e,z⟩
  ·show .inl l
  ·show .inr ⟨k,c,e,cellK x c e _ z⟩
 ·obtain⟨v,z⟩:=I.cell x c e
  show⟨v,cellK x c e v z⟩
 ·obtain⟨m,⟨o,_,_,ho,_⟩,_⟩:=I.loc
  show free _ o (λz=>(zy _ z).2.1 rfl) ho I.free
 ·obtain⟨v,o,ho,hd⟩:=I.cell x c e
  show free c o (λz=>(zy c z).2.2.1 x c e rfl) ho (I.eG x c e)
 ·obtain⟨e,n,ne,nf,d⟩:=I.pin p hp
  have NB:p.1∉ch:=λz=>(zy p.1 z).2.2.2 p hp rfl;show⟨keep p.1 p.2 ne nf NB e n,free p.1 p.2 NB e n,ne,nf,d⟩
theorem Inv.un{t':Nat}(I:2e0)(u:Un X.fs [] H H' s.heap h')(aQ:gw X.prog X.w H' h'):Inv X pins σ H' {s with heap:=h',toks:=t'}:=by
 obtain⟨m,⟨o,es,ep,ho,r⟩,_⟩:=id I.loc;obtain⟨sl,hL⟩:=u.any ho I.free 2e6;show I.step (g':=s.gens) (d':=s.drawn) (ch:=[]) (λ_ z=>nomatch z) (λb o _ hb _ e n=>u.keep b o e n hb 2e6) (λb o _ hb _ e n=>u.slot b o e n hb 2e6) (λb o _ e n=>u.free b o e n 2e6) (λb o _ e=>u.there b o e 2e6) u.hZ u.gp u.jh (λm' hm=>by
  obtain⟨o',kK,uh,JF,r'⟩:=hm;rw[ho]at JF;cases JF;show⟨_,kK,uh,hL,r'⟩) aQ I.bare
theorem Inv.call{g':Array K6}{t':Nat}{d':Drawn}{ch:2e1}(I:2e0)(u:Un (ub X.stack) ch H H' s.heap h')(aQ:gw X.prog X.w H' h')(hg:FX g')
  (zy:∀b∈ch,(b∈X.ex\/X.s₀.heap.objs.size<=b)/\b≠X.env.locals/\(∀x c,X.env.cells.lookup x=some c->c≠b)/\∀p∈X.pn++pins,p.1≠b):
  Inv X pins σ H' {s with heap:=h',gens:=g',drawn:=d',toks:=t'}:=by
 obtain⟨m,⟨o,es,ep,ho,r⟩,_⟩:=id I.loc;obtain⟨sl,hL⟩:=u.any ho I.free λz=>(zy _ z).2.1 rfl;show I.step (ch:=ch) zy (λb o hL hb hc e n=>u.keep b o e n (λz=>(Yk.mp (I.h7 b z)).elim hL hb) hc) (λb o _ _ hc e n=>u.any e n hc) (λb o hc e n=>u.free b o e n hc) (λb o hc e=>u.there b o e hc) u.hZ u.gp u.jh (λm' hm=>by
  obtain⟨o',kK,uh,JF,r'⟩:=hm;rw[ho]at JF;cases JF;show⟨_,kK,uh,hL,r'⟩) aQ hg
theorem Inv.turned{t':Nat}{it:Addr}(I:2e0)(k:∀b o,b≠it->s.heap.get? b=some o->h'.get? b=some o)(hn:H it=none)(hL:it≠X.env.locals)
  (h1:it∈X.ex\/X.s₀.heap.objs.size<=it) (h2:∀x c,X.env.cells.lookup x=some c->c≠it) (h3:∀p∈X.pn++pins,p.1≠it):Inv X pins σ H {s with heap:=h',toks:=t'}:=by
 have NA:∀b u,H b=some u->b≠it:=λb u e z=>by rw[z,hn]at e;cases e
 show I.step (g':=s.gens) (d':=s.drawn) (ch:=[it]) (λb hb=>?_) (λb o _ _ hc e _=>k b o (λz=>hc (by simp[z])) e) (λb o _ _ hc e _=>⟨o.slots,k b o (λz=>hc (by simp[z])) e⟩) (λ_ _ _ _ n=>n)
  (λb o hc e=>⟨o,k b o (λz=>hc (by simp[z])) e⟩) (λ_ _ e=>e) (λ_ _ _ e=>e) (λb ps e=>⟨#[],by rw[e];simp⟩) (λm hm=>?_) (λb u e=>?_) I.bare
 ·have e:b=it:=by simpa using hb
  subst e;show⟨h1,hL,h2,h3⟩
 ·obtain⟨o,es,ep,ho,r⟩:=hm
  show⟨o,es,ep,k _ o (X5 hL) ho,r⟩
 ·show(I.aQ b u e).cW (λc v hc q=>k c v ?_ q) (λ_ q=>q) λ_ _ q=>q
  rcases hc with z|z
  ·rw[z];show NA b u e
  ·show NA c _ z
theorem Inv.tok(I:2e0)(t:Nat):Inv X pins σ H {s with toks:=t}:=I.un (h':=s.heap) (t':=t) Un.refl I.aQ
theorem Inv.kept{t':Nat}(I:2e0)(k:∀b u,s.heap.get? b=some u->h'.get? b=some u):Inv X pins σ H {s with heap:=h',toks:=t'}:=I.un (Un.kept k) (I.aQ.kept k)
theorem Inv.laid{a:Addr}{o:HO}{t':Nat}(I:2e0)(k:∀b u,s.heap.get? b=some u->h'.get? b=some u)(hp:s.heap.objs.size<=a)(new:aY X.prog X.w (upd H a o) h' a o):
  Inv X pins σ (upd H a o) {s with heap:=h',toks:=t'}:=I.un (Un.laid k hp (I.aQ.fresh hp)) (I.aQ.laid k hp new)
theorem Inv.write{x e:Addr}{o:HO}{t':Nat}(I:2e0)(mu:Qf (H x))(he:e=x\/H e=some (.own x))(k:∀b u,b≠e->s.heap.get? b=some u->h'.get? b=some u)(LJ:∃u,h'.get? e=some u)
  (new:aY X.prog X.w (upd H x o) h' x o):Inv X pins σ (upd H x o) {s with heap:=h',toks:=t'}:=I.un (Un.write mu he k LJ) (I.aQ.write mu he k LJ new)
theorem Inv.dS{Gm:1e8}(I:2e0)(h:∀p∈Gm,s.heap.get? p.1=some p.2/\H p.1=none/\p.1≠X.env.locals/\p.1∉X.fs/\∀v,p.2.data≠.cell v):Inv X Gm σ H s:=
 ⟨I.ok,I.os,I.bare,I.base,I.loc,I.cell,I.free,I.eG,λp hp=>(Ym.mp hp).elim (λz=>I.pin p (Y4 _ z)) (h p),I.aQ,I.len⟩
theorem pL{N:4e3}(hN:N.Nodup){i j:Nat}{x:Str}(a:N[i]? = some x)(b:N[j]? = some x):i=j:=by
 obtain⟨h1,e1⟩:=Y7.mp a;obtain⟨h2,e2⟩:=Y7.mp b;show(U2 hN).mp (e1.trans e2.symm)
theorem k7{M:Model}{A:Around}{E:1e1}{i:Nat}{x:Str}{v:V}{u:Value}{Q:Unit->Shared->Prop}(I:2e0)(hN:X.N.Nodup)(hi:X.N[i]? = some x)(hx:Loc X.env.scope x)(r:RelV v u)
  (h:∀s',Inv X pins (σ.set i (some v)) H s'->(∃a,X6 a s.heap s'.heap/\(a=X.env.locals\/X.env.cells.lookup x=some a))->Q () s') (hf:4e7:=by first|show .inl rfl|show .inr rfl|assumption):wpAny M A (storeName X.env x u) Q E s:=by
 obtain⟨m,hn,hl⟩:=id I.loc;have Zc:(X.env.scope.kind==.class||(X.env.scope.kind==.module&&X.env.locals != X.env.globals))=false:=by rw[I.ok.kind];rfl
 have hiσ:i<σ.length:=by rw[I.len];show(Y7.mp hi).1
 have Kq:=I.Kq;have tracked:∀{a:Addr}{h':Heap},(∃o,s.heap.get? a=some o/\H a=none)->X6 a s.heap h'->gw X.prog X.w H h':=λ{a h'} ha hs b ob e=>by
  obtain⟨_,_,wB⟩:=ha;show(I.aQ b ob e).cW (λc w' hc q=>(hs.2 c ?_).trans q) (λ_ q=>q) λ_ _ q=>q;rintro rfl;rcases hc with rfl|hc
  ·rw[wB]at e;cases e
  ·rw[wB]at hc;cases hc
 rcases hx with hk|hk
 ·show wpAny_storeName_local hk hn (λh' Qx hs=>?_) Zc
  obtain⟨oL,_,_,Oe,_⟩:=id hn;show h _ ⟨I.ok,I.os,I.bare,⟨λb o e n hb hx=>?_,λb o e n hb hx=>?_,I.base.free,λb o e hx=>?_,I.base.hZ,I.base.gp,I.base.jh⟩,⟨_,Qx,λj y v' e1 e2 e3=>?_⟩,λy c e=>?_,I.free,I.eG,λp hp=>?_,tracked ⟨oL,Oe,I.free⟩ hs,by simpa using I.len⟩ ⟨_,hs,.inl rfl⟩
  ·show(hs.2 b (Yw (Yz (Ys e) I.ok.above))).trans (I.base.keep b o e n hb hx)
  ·obtain⟨sl,e1⟩:=I.base.slot b o e n hb hx
   show⟨sl,(hs.2 b (Yw (Yz (Ys e) I.ok.above))).trans e1⟩
  ·obtain⟨o',e1⟩:=I.base.there b o e hx
   show⟨o',(hs.2 b (Yw (Yz (Ys e) I.ok.above))).trans e1⟩
  ·by_cases hj:j=i
   ·subst hj
    rw[hi]at e1;cases e1;rw[Xe hiσ]at e2;cases e2;show⟨u,r,.inl ⟨hk,by simp⟩⟩
   ·rw[Y5 (X5 hj)]at e2
    obtain⟨u',r',q⟩:=hl j y v' e1 e2 e3;show⟨u',r',?_⟩;rcases q with⟨k,e⟩|⟨k,c,e,z⟩
    ·show .inl ⟨k,?_⟩
     have:y≠x:=λe=>hj (pL hN e1 (e▸hi));simp[this,e]
    ·show .inr ⟨k,c,e,z.sameBut hs (Kq y c e)⟩
  ·obtain⟨w',z⟩:=I.cell y c e
   show⟨w',z.sameBut hs (Kq y c e)⟩
  ·obtain⟨e,n,ne,nf,d⟩:=I.pin p hp
   show⟨(hs.2 p.1 ne).trans e,n,ne,nf,d⟩
 ·have T8:X.fn x=true:=by
   rcases hf with z|z
   ·show z
   ·rw[z]at hk;cases hk
  obtain⟨c,hc⟩:=I.ok.has x (.inl hk);obtain⟨w',z⟩:=I.cell x c hc;show wpAny_storeName_cell I.ok.kind hk hc z (λh' Dy hs=>?_);obtain⟨oc,hoc,TK⟩:=id z;show h {s with heap:=h'} ⟨I.ok,I.os,I.bare,⟨λb o e n hb hx=>?_,λb o e n hb hx=>?_,I.base.free,λb o e hx=>?_,I.base.hZ,I.base.gp,I.base.jh⟩,⟨m,hn.sameBut hs (X5 (Kq x c hc)),λj y v' e1 e2 e3=>?_⟩,λy c' e=>?_,I.free,I.eG,λp hp=>?_,tracked ⟨oc,hoc,I.eG x c hc⟩ hs,by simpa using I.len⟩ ⟨c,hs,.inr hc⟩
  ·show(hs.2 b (Yw (Yz (Ys e) (I.ok.Pf x c T8 hc)))).trans (I.base.keep b o e n hb hx)
  ·obtain⟨sl,e1⟩:=I.base.slot b o e n hb hx
   show⟨sl,(hs.2 b (Yw (Yz (Ys e) (I.ok.Pf x c T8 hc)))).trans e1⟩
  ·obtain⟨o',e1⟩:=I.base.there b o e hx
   show⟨o',(hs.2 b (Yw (Yz (Ys e) (I.ok.Pf x c T8 hc)))).trans e1⟩
  ·by_cases hj:j=i
   ·subst hj
    rw[hi]at e1;cases e1;rw[Xe hiσ]at e2;cases e2;show⟨u,r,.inr ⟨.inl hk,c,hc,Dy⟩⟩
   ·rw[Y5 (X5 hj)]at e2
    obtain⟨u',r',q⟩:=hl j y v' e1 e2 e3;show⟨u',r',?_⟩;rcases q with q|⟨k,c',e,z'⟩
    ·show .inl q
    ·show .inr ⟨k,c',e,z'.sameBut hs ?_⟩
     rintro rfl;show hj (pL hN e1 (I.ok.inj _ _ _ e hc▸hi))
  ·by_cases hcc:c'=c
   ·subst hcc;show⟨_,Dy⟩
   ·obtain⟨w2,z2⟩:=I.cell y c' e
    show⟨w2,z2.sameBut hs hcc⟩
  ·obtain⟨e,n,ne,nf,d⟩:=I.pin p hp
   show⟨(hs.2 p.1 ?_).trans e,n,ne,nf,d⟩;intro q;rw[q,hoc]at e;have q':oc=p.2:=YR e;show d w' (by rw[←q'];show TK)
theorem oH{M:Model}{A:Around}{E:1e1}{i:Nat}{x:Str}{v:V}{u:Value}{Q:Unit->Shared->Prop}(I:2e0)(hN:X.N.Nodup)(hi:X.N[i]? = some x)(hx:Loc X.env.scope x)(r:RelV v u)
  (h:∀s',Inv X pins (σ.set i (some v)) H s'->Q () s') (hf:4e7:=by first|show .inl rfl|show .inr rfl|assumption):wpAny M A (storeName X.env x u) Q E s:=
 k7 I hN hi hx r (λs' I' _=>h s' I') hf
theorem Inv.G8{s':Shared}{ch:2e1}(I:2e0)(ho:s'.os=s.os)(u:Un (ub X.stack) ch H H' s.heap s'.heap)(aQ:gw X.prog X.w H' s'.heap)(hg:FX s'.gens)
  (zy:∀b∈ch,(b∈X.ex\/X.s₀.heap.objs.size<=b)/\b≠X.env.locals/\(∀x c,X.env.cells.lookup x=some c->c≠b)/\∀p∈X.pn++pins,p.1≠b):Inv X pins σ H' s':=by
 obtain⟨h',g',d',t',o'⟩:=s';have e:o'=s.os:=ho;subst e;show I.call (g':=g') (t':=t') (d':=d') u aQ hg zy
end
abbrev XK:=Value->Option Addr->Hp->Prop
abbrev St:=List (Option V)
abbrev VK:=V->Hp->Prop
abbrev TE:=St->Hp->VK->Prop
abbrev TT:=St->Hp->(Bool->Hp->Prop)->Prop
abbrev TA:=St->Hp->(List V->Hp->Prop)->Prop
structure Ends where
 nx:St->Hp->Prop
 rt:VK
 bk:St->Hp->Prop:=λ_ _=>False
 ct:St->Hp->Prop:=λ_ _=>False
abbrev TS:=Ends->St->Hp->Prop
def EP(X:Cx)(pins:1e8)(σ:St)(Q:VK)(u:Value)(s':Shared):Prop:=∃v H',Inv X pins σ H' s'/\RelV v u/\Q v H'
def TP(X:Cx)(pins:1e8)(σ:St)(Q:Bool->Hp->Prop)(b:Bool)(s':Shared):Prop:=∃H',Inv X pins σ H' s'/\Q b H'
def AP(X:Cx)(pins:1e8)(σ:St)(Q:List V->Hp->Prop)(us:2e9)(s':Shared):Prop:=∃vs H',Inv X pins σ H' s'/\Vals vs us/\Q vs H'
def SP(X:Cx)(pins:1e8)(D:Ends)(f:Flow)(s':Shared):Prop:=
 match f with
 |.next=>∃σ' H',Inv X pins σ' H' s'/\D.nx σ' H'
 |.brk=>∃σ' H',Inv X pins σ' H' s'/\D.bk σ' H'
 |.cont=>∃σ' H',Inv X pins σ' H' s'/\D.ct σ' H'
 |.ret u=>∃v σ' H',Inv X pins σ' H' s'/\RelV v u/\D.rt v H'
def PE(X:Cx)(e:Expr)(t:TE):Prop:=
 ∀(pins:1e8)(s:Shared)(σ:St)(H:Hp)(Q:VK),Inv X pins σ H s->t σ H Q->wpAny 2e2 X.A (eval e X.env) (EP X pins σ Q) X.xe s
def PT(X:Cx)(e:Expr)(t:TT):Prop:=
 ∀(pins:1e8)(s:Shared)(σ:St)(H:Hp)(Q:Bool->Hp->Prop),Inv X pins σ H s->t σ H Q->wpAny 2e2 X.A (isTrue e X.env (eval e X.env)) (TP X pins σ Q) X.xe s
def PW(X:Cx)(e:Expr)(t:TT):Prop:=
 ∀(whole:Sem Value)(pins:1e8)(s:Shared)(σ:St)(H:Hp)(Q:Bool->Hp->Prop),Inv X pins σ H s->t σ H Q->wpAny 2e2 X.A (isTrue e X.env whole) (TP X pins σ Q) X.xe s
def PA(X:Cx)(es:3e4)(t:TA):Prop:=
 ∀(pos:Pos)(pins:1e8)(s:Shared)(σ:St)(H:Hp)(Q:List V->Hp->Prop),Inv X pins σ H s->t σ H Q->wpAny 2e2 X.A (spliced (backTo pos (Yu es X.env))) (AP X pins σ Q) X.xe s
def PS(X:Cx)(st:Stmt)(t:TS):Prop:=
 ∀(pins:1e8)(s:Shared)(σ:St)(H:Hp)(D:Ends),Inv X pins σ H s->t D σ H->wpAny 2e2 X.A (exec st X.env) (SP X pins D) X.xe s
def kT(X:Cx)(st:List Stmt)(t:TS):Prop:=
 ∀(pins:1e8)(s:Shared)(σ:St)(H:Hp)(D:Ends),Inv X pins σ H s->t D σ H->wpAny 2e2 X.A (execs st X.env) (SP X pins D) X.xe s
theorem bS{α:Type}{t:Sem α}{Q Q':α->Shared->Prop}{M:Model}{A:Around}{E:1e1}{s:Shared}(h:wpAny M A t Q E s)(hQ:∀a s,Q a s->Q' a s):wpAny M A t Q' E s:=Xo h hQ λ_ _ x=>x
section
variable{X:Cx}
noncomputable def HV (i:Nat):TE:=λσ H Q=>∃v,σ[i]? = some (some v)/\Q v H
noncomputable def tC (v:V):TE:=λ_ H Q=>Q v H
theorem sO{i:Nat}{x:Str}{pos:Pos}(hN:X.N[i]? = some x)(hv:Mt X.env.scope x)(hd:3e2:=by decide)(kj:(x==("__classdict__":Str))=false:=by decide):PE X (.Name x pos) (HV i):=by
 intro pins s σ H Q I h;obtain⟨v,e,h⟩:=h;obtain⟨m,hn,hl⟩:=I.loc;obtain⟨u,r,l⟩:=hl i x v hN e hv;have fin:EP X pins σ Q u s:=⟨v,H,I,r,h⟩
 rcases l with⟨hk,hm⟩|⟨hk,c,hc,wC⟩
 ·show wpAny_Name (wpAny_loadName_local I.ok.kind hk hn hm fin) hd
 ·rcases hk with hk|hk
  ·show wpAny_Name (wpAny_loadName_cell I.ok.kind hk hc wC fin) hd
  ·show wpAny_Name (wpAny_loadName_free I.ok.kind hk hc wC fin kj) hd
theorem Iz{i j pos}:PE X (.Constant (.int i) j pos) (tC (.int i)):=λ_ _ _ H _ I h=>wpAny_Constant_int ⟨.int i,H,I.tok _,⟨_,rfl⟩,h⟩
theorem Iv{x j pos}:PE X (.Constant (.str x) j pos) (tC (.str x)):=λ_ _ _ H _ I h=>Calls.Constant_str ⟨.str x,H,I.tok _,⟨_,rfl⟩,h⟩
def Gl(X:Cx)(x:Str):Prop:=X.env.kindOf x=some .globalImplicit
theorem vY{E:1e1}{pins:1e8}{s:Shared}{σ:St}{H:Hp}{x:Str}{u:Value}{pos:Pos}{Q:1e1}(I:2e0)(hg:Gl X x)(hm:X.mg x=some u)(h:Q u s)
  (hd:3e2:=by decide):wpAny 2e2 X.A (eval (.Name x pos) X.env) Q E s:=
 Yas I.ok.kind hg (Calls.loadGlobal_global (by rw[I.ok.glob];show I.mod.glob.keeps I.bk) hm h) hd
theorem FK{E:1e1}{pins:1e8}{s:Shared}{σ:St}{H:Hp}{x:Str}{u:Value}{pos:Pos}{Q:1e1}(I:2e0)(hg:Gl X x)(hm:X.mg x=none)(hv:XF x=some u)(h:Q u s)
  (hn:x≠"__name__":=by decide) (hd:3e2:=by decide):wpAny 2e2 X.A (eval (.Name x pos) X.env) Q E s:=by
 obtain⟨mb,h1,h2⟩:=I.mod.blt;show Yas I.ok.kind hg (Calls.loadGlobal_builtin (by rw[I.ok.glob];show I.mod.glob.keeps I.bk) hm (by rw[I.ok.blt];show h1.keeps I.bk) ((h2 x hn).trans hv) h) hd
theorem Et{x:Str}{v:V}{u:Value}{pos:Pos}(hg:Gl X x)(hm:X.mg x=some u)(r:RelV v u)(hd:3e2:=by decide):PE X (.Name x pos) (tC v):=
 λ_ _ _ H _ I h=>vY I hg hm ⟨v,H,I,r,h⟩ hd
variable{a b:Expr}{ta tb:TE}{pos:Pos}
variable{tA tB':TT}{rest:3e4}
noncomputable def Sh (t u:TT):TT:=λσ H Q=>t σ H λc H1=>if c=true then u σ H1 Q else Q false H1
theorem Ef(ha:PT X a tA):PW X (.BoolOp .And [a] pos) tA:=by
 intro wh pins s σ H Q I h;show isTrue_and (bS (ha pins s σ H Q I h) λc s1 e=>?_);cases c with
 |true=>show isTrue_and_nil e
 |false=>show e
theorem Io(ha:PT X a tA)(hb:PW X (.BoolOp .And (b::rest) pos) tB'):PW X (.BoolOp .And (a::b::rest) pos) (Sh tA tB'):=by
 intro wh pins s σ H Q I h;show isTrue_and (bS (ha pins s σ H _ I h) λc s1 h_=>?_);obtain⟨H1,I1,q1⟩:=h_;cases c with
 |true=>show hb wh pins s1 σ H1 Q I1 q1
 |false=>show⟨H1,I1,q1⟩
noncomputable def MX (ta tb:TE):TE:=λσ H Q=>ta σ H λx H1=>∃c,x=.bl c/\if c=true then tb σ H1 Q else Q (.bl false) H1
theorem Iw{op}{t:TE}(h:PE X a t):PE X (.BoolOp op [a] pos) t:=λpins s σ H Q I hw=>BoolOp_one (h pins s σ H Q I hw)
theorem IA(ha:PE X a ta)(hb:PE X (.BoolOp .And (b::rest) pos) tb):PE X (.BoolOp .And (a::b::rest) pos) (MX ta tb):=by
 intro pins s σ H Q I h;show BoolOp_and (bS (ha pins s σ H _ I h) λv s1 h_=>?_);obtain⟨x,H1,I1,r1,q1⟩:=h_;obtain⟨c,rfl,q1⟩:=q1;cases r1;show VX ?_;cases c with
 |true=>show hb pins s1 σ H1 Q I1 q1
 |false=>show⟨.bl false,H1,I1,rfl,q1⟩
end
def fH(K:W.Frag)(H:Hp)(a:Addr)(xs:List V):Prop:=
 Rd H a (.lst xs)\/
  ∃(o:Obj)(aw:Array Value)(n:Nat),K.lookup a=some o/\o.cls=.type "list"/\o.dict=none/\o.data=.seq aw n/\aw.size<=YA/\Vals xs aw.toList
def kh(K:W.Frag)(H:Hp)(a:Addr)(xs:List V):Prop:=
 Rd H a (.tup xs)\/
  ∃(o:Obj)(aw:Array Value)(n:Nat),K.lookup a=some o/\o.cls=.type "tuple"/\o.data=.seq aw n/\aw.size<=YA/\Vals xs aw.toList
noncomputable def ZQ:Value->Option V
 |.none=>some .aF
 |.bool b=>some (.bl b)
 |.int i _=>some (.int i)
 |.str x _=>some (.str x)
 |.bytes b _=>some (.yU b)
 |.float b _=>some (.Zz b)
 |.ref a=>some 9e8
 |.type n=>some (.ty n)
 |_=>none
theorem RelV.abs{x:V}{u:Value}(r:RelV x u):ZQ u=some x:=by
 cases x with
 |aF=>cases r;rfl
 |bl _=>cases r;rfl
 |int _=>obtain⟨t,rfl⟩:=r;rfl
 |str _=>obtain⟨t,rfl⟩:=r;rfl
 |yU _=>obtain⟨t,rfl⟩:=r;rfl
 |Zz _=>obtain⟨t,rfl⟩:=r;rfl
 |ref _=>cases r;rfl
 |ty _=>cases r;rfl
theorem RelV.inj{x y:V}{u:Value}(r:RelV x u)(q:RelV y u):x=y:=YR (r.abs.symm.trans q.abs)
theorem Vals.inj:∀{xs ys:List V}{us:2e9},Vals xs us->Vals ys us->xs=ys
 |_,_,_,.nil,.nil=>rfl
 |_,_,_,.cons r t,.cons r' t'=>by rw[r.inj r',Vals.inj t t']
section
variable{X:Cx}{pins:1e8}{σ:St}{H:Hp}{s:Shared}{a:Addr}{xs ys:List V}
theorem fH.of{K:W.Frag}(h:H a=some (.lst xs)):fH K H a xs:=.inl (.inl h)
theorem Inv.list(I:2e0)(h:fH X.K H a xs):∃aw:List Value,Vals xs aw/\PlainL s.heap a aw.toArray/\xs.length<=sizeLine:=by
 rcases h with h|⟨o,aw,n,hk,hc,hd,hs,hz,r⟩
 ·obtain⟨z,aw,n,r,e⟩:=h.ok I.aQ
  show⟨aw,r,⟨_,n,e,rfl,rfl,rfl⟩,z⟩
 ·show⟨aw.toList,r,⟨o,n,I.Ly a o hk,hc,hd,by simpa using hs⟩,?_⟩
  have e:=r.length;simp only[Xs]at e;lia
theorem Inv.tuple(I:2e0)(h:kh X.K H a xs):∃aw:List Value,Vals xs aw/\IsTup s.heap a aw.toArray/\xs.length<=sizeLine:=by
 rcases h with h|⟨o,aw,n,hk,hc,hs,hz,r⟩
 ·obtain⟨z,aw,r,p⟩:=h.ok I.aQ
  show⟨aw,r,p,z⟩
 ·show⟨aw.toList,r,⟨o,I.Ly a o hk,hc,n,by simpa using hs⟩,?_⟩
  have e:=r.length;simp only[Xs]at e;lia
theorem Inv.pY(I:2e0)(h:fH X.K H a xs)(h':fH X.K H a ys):xs=ys:=by
 obtain⟨aw,r,⟨o,n,e,_,_,d⟩,_⟩:=I.list h;obtain⟨its',r',⟨o',n',e',_,_,d'⟩,_⟩:=I.list h';rw[e]at e';cases e';rw[d]at d';injection d' with d1 _;have:aw=its':=by simpa using congrArg Array.toList d1
 subst this;show r.inj r'
theorem Inv.xp(I:2e0)(h:kh X.K H a xs)(h':kh X.K H a ys):xs=ys:=by
 obtain⟨aw,r,⟨o,e,_,n,d⟩,_⟩:=I.tuple h;obtain⟨its',r',⟨o',e',_,n',d'⟩,_⟩:=I.tuple h';rw[e]at e';cases e';rw[d]at d';injection d' with d1 _;have:aw=its':=by simpa using congrArg Array.toList d1
 subst this;show r.inj r'
end
noncomputable abbrev Cx.ko (X:Cx)(E:1e1):Cx:={X with xe:=E}
abbrev Cx.EC(X:Cx):Cx:=X.ko λ_ _=>False
theorem Cx.Ok.ko{X:Cx}(ok:X.Ok)(E:1e1):(X.ko E).Ok:=
 ⟨ok.mod,ok.kind,ok.glob,ok.blt,ok.above,ok.inj,ok.has,ok.Pf,ok.hd,ok.frames,ok.Qm,ok.ZD,ok.bs,ok.Ks,ok.yb,ok.B7,ok.jT,ok.LZ⟩
theorem Cx.Ok.fI{X:Cx}{E:1e1}(ok:(X.ko E).Ok):X.Ok:=
 ⟨ok.mod,ok.kind,ok.glob,ok.blt,ok.above,ok.inj,ok.has,ok.Pf,ok.hd,ok.frames,ok.Qm,ok.ZD,ok.bs,ok.Ks,ok.yb,ok.B7,ok.jT,ok.LZ⟩
section
variable{X:Cx}{pins:1e8}{σ:St}{H:Hp}{s:Shared}{E:1e1}
theorem Inv.ko(I:2e0)(E:1e1):Inv (X.ko E) pins σ H s:=⟨I.ok.ko E,I.os,I.bare,I.base,I.loc,I.cell,I.free,I.eG,I.pin,I.aQ,I.len⟩
theorem Inv.fI(I:Inv (X.ko E) pins σ H s):Inv X pins σ H s:=⟨I.ok.fI,I.os,I.bare,I.base,I.loc,I.cell,I.free,I.eG,I.pin,I.aQ,I.len⟩
theorem SP.fI{D:Ends}{f:Flow}{s':Shared}(h:SP (X.ko E) pins D f s'):SP X pins D f s':=by
 cases f with
 |next=>obtain⟨σ',H',I,q⟩:=h;show⟨σ',H',I.fI,q⟩
 |brk=>obtain⟨σ',H',I,q⟩:=h;show⟨σ',H',I.fI,q⟩
 |cont=>obtain⟨σ',H',I,q⟩:=h;show⟨σ',H',I.fI,q⟩
 |ret u=>obtain⟨v,σ',H',I,r,q⟩:=h;show⟨v,σ',H',I.fI,r,q⟩
theorem kT.EC{st:List Stmt}{t:TS}(h:kT X.EC st t):kT X st t:=λpins s σ H D I hw=>
 Xo (h pins s σ H D (I.ko _) hw) (λ_ _ q=>q.fI) λ_ _ z=>VD z
end
section
variable{X:Cx}{st:Stmt}{rest:List Stmt}{t u:TS}{e:Expr}{te:TE}{pos:Pos}
noncomputable def MO:TS:=λD σ H=>D.nx σ H
noncomputable def R6 (t u:TS):TS:=λD σ H=>t {D with nx:=u D} σ H
theorem El:kT X [] MO:=λ_ _ σ H _ I h=>RS ⟨σ,H,I,h⟩
theorem Q7(h1:PS X st t)(h2:kT X rest u):kT X (st::rest) (R6 t u):=by
 intro pins s σ H D I h;show wpAny_execs_cons (bS (h1 pins s σ H {D with nx:=u D} I h) λf s1 q=>?_);cases f with
 |next=>
  obtain⟨σ',H',I',q⟩:=q;show h2 pins s1 σ' H' D I' q
 |ret v=>show q
 |brk=>show q
 |cont=>show q
theorem mW(h1:PS X st t):kT X [st] t:=by
 intro pins s σ H D I h;show wpAny_execs_cons (bS (h1 pins s σ H D I h) λf s1 q=>?_);cases f with
 |next=>show RS q
 |ret v=>show q
 |brk=>show q
 |cont=>show q
theorem Inv.quiet{pins:1e8}{σ:St}{H:Hp}{s:Shared}(I:2e0):interactive X.env=false:=by simp[interactive,I.ok.kind]
noncomputable def MU (te:TE):TS:=λD σ H=>te σ H λ_ H1=>D.nx σ H1
theorem vo(he:PE X e te)(hs:Vz e none pos.line X.env=pure false:=by rfl):PS X (.Expr e pos) (MU te):=by
 intro pins s σ H D I h;show wpAny_Expr_any (bS (he pins s σ H _ I h) λv s1 ⟨x,H1,I1,r1,q1⟩=>⟨σ,H1,I1,q1⟩) I.quiet hs
noncomputable def R7 (te:TE):TS:=λD σ H=>te σ H D.rt
theorem mX(he:PE X e te):PS X (.Return (some e) pos) (R7 te):=by
 intro pins s σ H D I h;show wpAny_Return_some (bS (he pins s σ H _ I h) λv s1 ⟨x,H1,I1,r1,q1⟩=>⟨x,σ,H1,I1,r1,q1⟩)
noncomputable def Sb (c:TT)(t u:TS):TS:=λD σ H=>c σ H λb H1=>if b=true then t D σ H1 else u D σ H1
theorem Nn{c:Expr}{a b:List Stmt}{tc:TT}(hc:PT X c tc)(ha:kT X a t)(hb:kT X b u):PS X (.If c a b pos) (Sb tc t u):=by
 intro pins s σ H D I h;show wpAny_If (bS (hc pins s σ H _ I h) λd s1 h_=>?_);obtain⟨H1,I1,q1⟩:=h_;cases d with
 |true=>show ha pins s1 σ H1 D I1 q1
 |false=>show hb pins s1 σ H1 D I1 q1
end
abbrev TG:=V->St->Hp->(St->Hp->Prop)->Prop
abbrev FY:=List V->St->Hp->(St->Hp->Prop)->Prop
def PG(X:Cx)(target:Expr)(t:TG):Prop:=
 ∀(pins:1e8)(s:Shared)(σ:St)(H:Hp)(v:V)(u:Value)(Q:St->Hp->Prop),Inv X pins σ H s->RelV v u->t v σ H Q->
  wpAny 2e2 X.A (assign target X.env u) (λ_ s'=>∃σ' H',Inv X pins σ' H' s'/\Q σ' H') X.xe s
def DJ(X:Cx)(ts:3e4)(t:FY):Prop:=
 ∀(pins:1e8)(s:Shared)(σ:St)(H:Hp)(vs:List V)(us:2e9)(Q:St->Hp->Prop),Inv X pins σ H s->Vals vs us->t vs σ H Q->
  wpAny 2e2 X.A (assignInOrder ((Vk ts X.env).map (·.2)) us) (λ_ s'=>∃σ' H',Inv X pins σ' H' s'/\Q σ' H') X.xe s
abbrev La:=V->V->V->Hp->(Hp->Prop)->Prop
def Qc(X:Cx)(t:La):Prop:=
 ∀(pins:1e8)(s:Shared)(σ:St)(H:Hp)(o i v:V)(ov iv u:Value)(Q:Hp->Prop),Inv X pins σ H s->RelV o ov->RelV i iv->RelV v u->t o i v H Q->
  wpAny 2e2 X.A (setItem ov iv u) (λ_ s'=>∃H',Inv X pins σ H' s'/\Q H') X.xe s
section
variable{X:Cx}{pos:Pos}
noncomputable def GU (i:Nat):TG:=λv σ H Q=>Q (σ.set i (some v)) H
theorem Es{i:Nat}{x:Str}(hN:X.N.Nodup)(hi:X.N[i]? = some x)(hx:Loc X.env.scope x)(hf:4e7:=by first|show .inl rfl|show .inr rfl|assumption):PG X (.Name x pos) (GU i):=by
 intro pins s σ H v u Q I r h;show wpAny_assign_Name (oH I hN hi hx r (λs' I'=>⟨_,H,I',h⟩) hf)
noncomputable def Zw:FY:=λvs σ H Q=>vs=[]/\Q σ H
noncomputable def OV (t:TG)(u:FY):FY:=λvs σ H Q=>∃v r,vs=v::r/\t v σ H λσ' H'=>u r σ' H' Q
theorem Er:DJ X [] Zw:=by
 intro pins s σ H vs us Q I r h;obtain⟨e,h⟩:=h;subst e;cases r;show assignInOrder_nil ⟨σ,H,I,h⟩
theorem AI{e:Expr}{es:3e4}{t:TG}{u:FY}(h1:PG X e t)(h2:DJ X es u)
  (hs:(Vk 4e4 X.env).map (·.2)=assign e X.env::(Vk es X.env).map (·.2):=by rfl):DJ X 4e4 (OV t u):=by
 intro pins s σ H vs us Q I r h;obtain⟨v,vr,e1,h⟩:=h;subst e1;cases r with
 |cons r rr=>
  rw[hs];show assignInOrder_cons (bS (h1 pins s σ H _ _ _ I r h) λ_ s1 h_=>?_);obtain⟨σ1,H1,I1,q1⟩:=h_;show h2 pins s1 σ1 H1 _ _ Q I1 rr q1
noncomputable def Zu (K:W.Frag)(n:Nat)(t:FY):TG:=λv σ H Q=>∃a xs,v=.ref a/\kh K H a xs/\xs.length=n/\t xs σ H Q
theorem Ir{es:3e4}{k:Nat}{t:FY}{n:Nat}(hc:5e0)(h:DJ X es t)
  (hn:(Vk es X.env).length=n:=by rfl) (ow:(Vk es X.env).findIdx? (·.1)=none:=by rfl):PG X (.Tuple es k pos) (Zu X.K n t):=by
 intro pins s σ H v u Q I r hw;obtain⟨a,xs,e1,hq,hl,hw⟩:=hw;subst e1;cases r;obtain⟨aw,rv,ht,hz⟩:=I.tuple hq;show assign_Tuple_tuple (I.ok.hd hc) ht (by simp[hn,←hl,rv.length]) ow λh' hx=>?_;have I1:Inv X pins σ H {s with heap:=h'}:=I.kept (t':=s.toks) λb o e=>hx b o (Yw (Ys e)) e;show h pins _ σ H xs _ Q I1 (by simpa using rv) hw
noncomputable def Zv (to ti:TE)(t:La):TG:=λv σ H Q=>to σ H λo H1=>ti σ H1 λi H2=>t o i v H2 λH3=>Q σ H3
theorem Iu{o i:Expr}{to ti:TE}{t:La}(ho:PE X o to)(hi:PE X i ti)(hs:Qc X t)
  (ha:∀v,assign (.Subscript o i pos) X.env v=(do
   let ov ←zF [v] (eval o X.env)
   let iv ←zF [v,ov] (eval i X.env)
   FW pos
   zF [v,ov,iv] (setItem ov iv v)
   release [v,ov,iv] []):=by intro _;rfl):PG X (.Subscript o i pos) (Zv to ti t):=by
 intro pins s σ H v u Q I r h;rw[ha];show Ya (Xi (bS (ho pins s σ H _ I h) λov s1 h_=>?_));obtain⟨x,H1,I1,r1,q1⟩:=h_;show Ya (Xi (bS (hi pins s1 σ H1 _ I1 q1) λiv s2 h_=>?_));obtain⟨y,H2,I2,r2,q2⟩:=h_;show Ya (W9 (Ya (Xi (bS (hs pins s2 σ H2 x y v ov iv u _ I2 r1 r2 r q2) λ_ s3 h_=>?_))));obtain⟨H3,I3,q3⟩:=h_;show wpAny_release ⟨σ,H3,I3,q3⟩
noncomputable def MW (te:TE)(g:TG):TS:=λD σ H=>te σ H λx H1=>g x σ H1 D.nx
theorem Az{tg e:Expr}{te:TE}{g:TG}(he:PE X e te)(hg:PG X tg g)(hs:swapsWithSole [tg] e pos.line X.env=pure false:=by rfl)(hw:swappedStores [tg] e X.env=pure none:=by rfl)
  (h1:(Vk [tg] X.env).map (·.2)=[assign tg X.env]:=by rfl):PS X (.Assign [tg] e pos) (MW te g):=by
 intro pins s σ H D I h;show wpAny_Assign_stores (bS (he pins s σ H _ I h) λv s1 ⟨x,H1,I1,r1,q1⟩=>?_) hs hw;rw[h1];show bS (hg pins s1 σ H1 x v _ I1 r1 q1) λ_ s2 q=>q
theorem jx{i:Nat}{x:Str}{e:Expr}{te:TE}{pos':Pos}(hN:X.N.Nodup)(hi:X.N[i]? = some x)(hx:Loc X.env.scope x)(he:PE X e te)(hs:Vz e (some (.Name x pos')) pos.line X.env=pure false:=by rfl)(hf:4e7:=by first|show .inl rfl|show .inr rfl|assumption):
  PS X (.Assign [.Name x pos'] e pos) (MW te (GU i)):=by
 intro pins s σ H D I h;show wpAny_Assign_Name (bS (he pins s σ H _ I h) λv s1 ⟨y,H1,I1,r1,q1⟩=>?_) hs;show oH I1 hN hi hx r1 (λs2 I2=>⟨_,H1,I2,q1⟩) hf
noncomputable def HU (c:TT)(tb:TS):TS:=λD σ H=>∃W:Nat->St->Hp->Prop,(∃m,W m σ H)/\∀m σ H,W m σ H->
 c σ H λb H1=>if b=true then ∃N:St->Hp->Prop,(∀σ' H',N σ' H'->∃m',m'<m/\W m' σ' H')/\tb {D with nx:=N,ct:=N,bk:=D.nx} σ H1 else D.nx σ H1
theorem Ax{c:Expr}{body:List Stmt}{tc:TT}{tb:TS}(hp:Hy 2e2 X.A X.env X.xe)(hc:PT X c tc)(hb:kT X body tb):PS X (.While c body [] pos) (HU tc tb):=by
 intro pins s σ H D I h;obtain⟨W,⟨m0,w0⟩,turn⟩:=h;show wpAny_While (codeAny_whileLoop (λn s'=>∃σ' H',Inv X pins σ' H' s'/\W n σ' H') ?_ m0 ⟨σ,H,I,w0⟩);rintro n s1 ⟨σ1,H1,I1,w1⟩;show Vl hp (bS (hc pins s1 σ1 H1 _ I1 (turn n σ1 H1 w1)) λb s2 h_=>?_);obtain⟨H2,I2,q2⟩:=h_;cases b with
 |true=>
  obtain⟨N,hN,q2⟩:=q2;rw[if_pos rfl];show Vl hp (bS (hb pins s2 σ1 H2 _ I2 q2) λf s3 q3=>?_);cases f with
  |next=>
   obtain⟨σ3,H3,I3,n3⟩:=q3;obtain⟨m',hm,w3⟩:=hN σ3 H3 n3;show⟨m',hm,σ3,H3,I3,w3⟩
  |cont=>
   obtain⟨σ3,H3,I3,n3⟩:=q3;obtain⟨m',hm,w3⟩:=hN σ3 H3 n3;show⟨m',hm,σ3,H3,I3,w3⟩
  |brk=>show q3
  |ret v=>show q3
 |false=>
  rw[if_neg Yn];show RS ⟨σ1,H2,I2,q2⟩
end
structure It where
 go:Nat->Hp->Prop
 uZ:Nat->Hp->V->Hp->Prop
 stop:Nat->Hp->Prop
def fm(X:Cx)(pins:1e8)(H:Hp)(b:Addr):Prop:=
 H b=none/\b≠X.env.locals/\b∉X.fs/\(b∈X.ex\/X.s₀.heap.objs.size<=b)/\(∀x c,X.env.cells.lookup x=some c->c≠b)/\∀p∈X.pn++pins,p.1≠b
theorem Inv.yA{X:Cx}{pins:1e8}{σ:St}{H H':Hp}{s:Shared}{b:Addr}(I:2e0)(hb:s.heap.objs.size<=b)(hn:H' b=none):fm X pins H' b:=by
 show⟨hn,XW (Yz I.lt hb),I.IP hb,.inr (Xb I.sz hb),λx c e z=>?_,λp hp z=>?_⟩
 ·obtain⟨v,q⟩:=I.cell x c e
  show absurd (Yz q.lt (by rw[z];show hb)) (Wx _)
 ·show absurd (Yz (Ys (I.pin p hp).1) (by rw[z];show hb)) (Wx _)
structure Turn(P:YF)(w:World)(K:W.Frag)(tg:Expr)(J:It)(fp:List Addr)(it:Addr)(tn:Nat->Heap->Prop):Prop where
 mem:it∈fp
 obj:∀i h,tn i h->∀b∈fp,∃o,h.get? b=some o/\∀v,o.data≠.cell v
 keep:∀i h h',tn i h->(∀b∈fp,∀o,h.get? b=some o->h'.get? b=some o)->tn i h'
 item:∀(X:Cx),X.prog=P->X.w=w->X.K=K->X.calm=true->∀(i:Nat)(pins:1e8)(s:Shared)(σ:St)(H:Hp)(E:1e1),Inv X pins σ H s->(∀b∈fp,fm X pins H b)->tn i s.heap->J.go i H->
  wpAny (model P w) X.A (pyNext (.ref it)) (λr s1=>∃u,r=some u/\
   wpAny (model P w) X.A (WT tg (.ref it) u) (λ_ s2=>∃x H',Inv X pins σ H' s2/\RelV x u/\J.uZ i H x H'/\tn (i+1) s2.heap/\∀b∈fp,H' b=none) E s1) E s
 done:∀(X:Cx),X.prog=P->X.w=w->X.K=K->X.calm=true->∀(i:Nat)(pins:1e8)(s:Shared)(σ:St)(H:Hp)(E:1e1),Inv X pins σ H s->(∀b∈fp,fm X pins H b)->tn i s.heap->J.stop i H->
  wpAny (model P w) X.A (pyNext (.ref it)) (λr s1=>r=none/\Inv X pins σ H s1) E s
 self:∀(A:Around)(i:Nat)(s:Shared)(Q:1e1)(E:1e1),tn i s.heap->Q (.ref it) s->wpAny (model P w) A (pyIter (.ref it)) Q E s
abbrev TI:=St->Hp->(It->Hp->Prop)->Prop
def PIE(X:Cx)(pins:1e8)(σ:St)(tg:Expr)(R:It->Hp->Prop)(Lz:Value)(s2:Shared):Prop:=
 ∃(it:Addr)(fp:2e1)(tn:Nat->Heap->Prop)(J:It)(H':Hp),Lz=.ref it/\Inv X pins σ H' s2/\Turn X.prog X.w X.K tg J fp it tn/\tn 0 s2.heap/\(∀b∈fp,fm X pins H' b)/\R J H'
def PI(X:Cx)(tg iter:Expr)(wi:TI):Prop:=
 ∀(pins:1e8)(s:Shared)(σ:St)(H:Hp)(R:It->Hp->Prop),Inv X pins σ H s->wi σ H R->
  wpAny 2e2 X.A (eval iter X.env) (λv s1=>wpAny 2e2 X.A (pyIter v) (PIE X pins σ tg R) X.xe s1) X.xe s
theorem lQ{M:Model}{A:Around}{E:1e1}{s:Shared}{tg:Expr}{it:Addr}{u:Value}{o:Obj}{n:String}{vs:Array Value}{Q:Unit->Shared->Prop}(ho:s.heap.get? it=some o)(hc:o.cls=.type n)(hd:o.data=.fields vs)
    (hn:["enumerate","zip","dict_itemiterator","dict_reverseitemiterator","odict_iterator","itertools.zip_longest","itertools.pairwise"].contains n=false) (hQ:Q () s):wpAny M A (WT tg (.ref it) u) Q E s:=by
  ext WT;cases tg<;>first
    |show Yc hQ
    | (cases u<;>first
        |show Yc hQ
        | (show Ya (wpAny_load ho ?_)
           rw[hc,hd];change wpAny M A (if(["enumerate","zip","dict_itemiterator","dict_reverseitemiterator","odict_iterator","itertools.zip_longest","itertools.pairwise"].contains n&&vs[0]?==some (rawInt _))=true then _ else _) Q E s;rw[if_neg (by intro h;rw[hn,Bool.false_and]at h;cases h)];show Yc hQ))
noncomputable def Itl (K:W.Frag)(a:Addr):It:=
 ⟨λi H=>∃xs x,fH K H a xs/\xs[i]? = some x,λi H x H'=>H'=H/\∀xs,fH K H a xs->xs[i]? = some x,λi H=>∃xs,fH K H a xs/\xs.length<=i⟩
noncomputable def Itt (K:W.Frag)(a:Addr):It:=
 ⟨λi H=>∃xs x,kh K H a xs/\xs[i]? = some x,λi H x H'=>H'=H/\∀xs,kh K H a xs->xs[i]? = some x,λi H=>∃xs,kh K H a xs/\xs.length<=i⟩
noncomputable def RV (lo:Int)(n:Nat):It:=⟨λi _=>i<n,λi H x H'=>H'=H/\x=.int (lo+i),λi _=>n<=i⟩
theorem xm{P:YF}{w:World}{K:W.Frag}{tg:Expr}(a it:Addr):Turn P w K tg (Itl K a) [it] it (λi h=>h.IsListIter it a i) where
 mem:=by simp
 obj:=λi h st b hb=>by
  have e:b=it:=by simpa using hb
  subst e;obtain⟨o,e,c,d⟩:=st;show⟨o,e,λv z=>by rw[d]at z;cases z⟩
 keep:=λi h h' st k=>st.at λo e=>k it 2e6 o e
 item:=by
  sleep 1;obtain⟨xs,x,hq,hx⟩:=hg;obtain⟨aw,rv,p,hz⟩:=I.list hq;obtain⟨u,hu,ru⟩:=rv.get hx;sleep 3;show wpAny_pyNext_list_item st p.isList (x:=u) (by simpa using hu) λh' aC sb=>?_;have I1:Inv X pins σ H {s with heap:=h'}:=I.turned (t':=s.toks) (λb o hb e=>(sb.2 b hb).trans e) f0 f1 f3 f4 f5;obtain⟨o,e,c,d⟩:=id aC;show⟨u,rfl,lQ (s:={s with heap:=h'}) e c d (by decide) ⟨x,H,I1,ru,⟨rfl,λys hy=>by rw[I.pY hy hq];show hx⟩,aC,λb hb=>(hf b hb).1⟩⟩
 done:=by
  sleep 1;obtain⟨xs,hq,hx⟩:=hg;obtain⟨aw,rv,p,hz⟩:=I.list hq;sleep 3;have hl:=rv.length;show wpAny_pyNext_list_end (I.ok.hd hc) st p.isList 6e2 λh' eb=>10e0
 self:=λ_ _ _ _ _ st h=>wpAny_pyIter_listiter st h
theorem rQ{P:YF}{w:World}{K:W.Frag}{tg:Expr}(a it:Addr):Turn P w K tg (Itt K a) [it] it (λi h=>h.IsTupleIter it a i) where
 mem:=by simp
 obj:=λi h st b hb=>by
  have e:b=it:=by simpa using hb
  subst e;obtain⟨o,e,c,d⟩:=st;show⟨o,e,λv z=>by rw[d]at z;cases z⟩
 keep:=λi h h' st k=>st.at λo e=>k it 2e6 o e
 item:=by
  sleep 1;obtain⟨xs,x,hq,hx⟩:=hg;obtain⟨aw,rv,p,hz⟩:=I.tuple hq;obtain⟨u,hu,ru⟩:=rv.get hx;sleep 3;show wpAny_pyNext_tuple_item st (show s.heap.IsTuple a aw.toArray from p) (x:=u) (by simpa using hu) λh' aC sb=>?_;have I1:Inv X pins σ H {s with heap:=h'}:=I.turned (t':=s.toks) (λb o hb e=>(sb.2 b hb).trans e) f0 f1 f3 f4 f5;obtain⟨o,e,c,d⟩:=id aC;show⟨u,rfl,lQ (s:={s with heap:=h'}) e c d (by decide) ⟨x,H,I1,ru,⟨rfl,λys hy=>by rw[I.xp hy hq];show hx⟩,aC,λb hb=>(hf b hb).1⟩⟩
 done:=by
  sleep 1;obtain⟨xs,hq,hx⟩:=hg;obtain⟨aw,rv,p,hz⟩:=I.tuple hq;sleep 3;have hl:=rv.length;show wpAny_pyNext_tuple_end (I.ok.hd hc) st (show s.heap.IsTuple a aw.toArray from p) 6e2 λh' eb=>10e0
 self:=λ_ _ _ _ _ st h=>wpAny_pyIter_tupleiter st h
theorem rR{P:YF}{w:World}{K:W.Frag}{tg:Expr}(it:Addr)(lo:Int)(n:Nat):Turn P w K tg (RV lo n) [it] it (λi h=>IsRangeIter h it (lo+(i:Nat)*1) ((n:Int)-(i:Nat)) 1) where
 mem:=by simp
 obj:=λi h st b hb=>by
  have e:b=it:=by simpa using hb
  subst e;show⟨_,st,λv z=>by
   have z':Data.fields _=Data.cell v:=z;cases z'⟩
 keep:=λi h h' st k=>k it 2e6 _ st
 item:=by
  sleep 1;sleep 3;have W:=Walks.range (prog:=X.prog) (w:=X.w) (I.ok.hd hc) it lo 1 n;show W.item i s _ _ hg st λv h' tk hv aC kk=>?_;obtain⟨t,rfl⟩:=hv;have I1:Inv X pins σ H {s with heap:=h',toks:=tk}:=I.turned (λb o hb e=>kk b o (by simpa using hb) e) f0 f1 f3 f4 f5;show⟨_,rfl,lQ (s:={s with heap:=h',toks:=tk}) (n:="range_iterator") aC rfl rfl (by decide) ⟨.int (lo+i),H,I1,⟨t,?_⟩,⟨rfl,rfl⟩,aC,λb hb=>(hf b hb).1⟩⟩;rw[Int.mul_one]
 done:=by
  sleep 1;sleep 3;show wpAny_pyNext_range_end (I.ok.hd hc) st (by have:n<=i:=hg;lia) λh' eb=>10e0
 self:=λ_ _ _ _ _ st h=>wpAny_pyIter_rangeiter st h
section
variable{X:Cx}{tg:Expr}
theorem Ae{pins:1e8}{σ:St}{H:Hp}{s:Shared}{R:It->Hp->Prop}{E:1e1}{lo hi:Int}{t u v:Tok}{tk:Nat}(I:2e0)(h1:-(2^62)<=lo)(h2:lo<2^62)(h3:-(2^62)<=hi)(h4:hi<2^62)
  (q:R (RV lo (hi-lo).toNat) H):wpAny 2e2 X.A (pyIter 5e1) (PIE X pins σ tg R) E {s with heap:=s.heap.push {cls:=.type "range",data:=.fields #[.int lo t,.int hi u,.int 1 v]},toks:=tk}:=by
 show wpAny_pyIter_range (IsRange.new ..) (small_one h1 h2 h3 h4) ?_;have I1:Inv X pins σ H {s with heap:=s.heap.push {cls:=.type "range",data:=.fields #[.int lo t,.int hi u,.int 1 v]},toks:=tk}:=I.kept λb o e=>Yb _ e;show⟨(s.heap.push {cls:=.type "range",data:=.fields #[.int lo t,.int hi u,.int 1 v]}).objs.size,[(s.heap.push {cls:=.type "range",data:=.fields #[.int lo t,.int hi u,.int 1 v]}).objs.size],_,_,H,rfl,
  I1.kept (t':=tk) λb o e=>Yb _ e,rR _ lo (hi-lo).toNat,?_,λb hb=>?_,q⟩
 ·have e1:lo+((0:Nat):Int)*1=lo:=by simp
  have e2:(((hi-lo).toNat:Nat):Int)-((0:Nat):Int)=Builtin.Range.rangeSize lo hi 1:=by rw[rangeSize_one];split<;>lia
  change IsRangeIter _ _ (lo+((0:Nat):Int)*1) ((((hi-lo).toNat:Nat):Int)-((0:Nat):Int)) 1;rw[e1,e2];show Yg _ rfl
 ·have e:b=(s.heap.push {cls:=.type "range",data:=.fields #[.int lo t,.int hi u,.int 1 v]}).objs.size:=by simpa using hb
  subst e;show I1.yA (Yl _) (I1.aQ.fresh (Yl _))
def N6(ta:TA):TI:=λσ H R=>ta σ H λvs H1=>∃j:Int,vs=[.int j]/\-(2^62)<=j/\j<2^62/\R (RV 0 j.toNat) H1
theorem xT{a:Expr}{ta:TA}{p pos:Pos}(hg:Gl X "range")(hm:X.mg "range"=none)(ha:PA X [a] ta)(hs:Yu [a] X.env=[(false,eval a X.env)]:=by rfl):PI X tg (.Call (.Name "range" p) [a] [] pos) (N6 ta):=by
 intro pins s σ H R I h;show Call_ (FK I hg hm boot_range (XB (bS (ha pos pins s σ H _ I h) λus s1 ⟨vs,H1,I1,r1,q1⟩=>?_) hs rfl));obtain⟨j,e,q1,q2,q⟩:=q1;subst e;cases r1 with
 |cons r rr=>
  cases rr;obtain⟨t,rfl⟩:=r;show call_range_1 (Ae I1 1e0 1e0 q1 q2 (by simpa using q))
noncomputable def Sd (wi:TI)(g:TG)(tb:TS):TS:=λD σ H=>wi σ H λJ H1=>∃W:Nat->Nat->St->Hp->Prop,(∃m,W 0 m σ H1)/\∀i m σ H,W i m σ H->
 (J.stop i H/\D.nx σ H)\/(J.go i H/\∃N:St->Hp->Prop,(∀σ' H',N σ' H'->∃m',m'<m/\W (i+1) m' σ' H')/\∀x H',J.uZ i H x H'->g x σ H' λσ2 H2=>tb {D with nx:=N,ct:=N,bk:=D.nx} σ2 H2)
noncomputable def eR (fp:2e1)(h:Heap):List (Addr×Obj):=fp.filterMap λb=>(h.get? b).map λo=>(b,o)
theorem Ho{fp:2e1}{h:Heap}{b:Addr}{o:Obj}(hb:b∈fp)(e:h.get? b=some o):(b,o)∈eR fp h:=VJ.mpr ⟨b,hb,by rw[e];rfl⟩
theorem lC{fp:2e1}{h:Heap}{p:Addr×Obj}(hp:p∈eR fp h):p.1∈fp/\h.get? p.1=some p.2:=by
 obtain⟨b,hb,e⟩:=VJ.mp hp;cases q:h.get? b with
 |none=>rw[q]at e;cases e
 |some o=>
  rw[q]at e;have e':(b,o)=p:=YR e;subst e';show⟨hb,q⟩
theorem Inv.pinned{pins:1e8}{σ:St}{H:Hp}{s:Shared}{fp:2e1}(I:2e0)(hf:∀b∈fp,fm X pins H b)(ho:∀b∈fp,∃o,s.heap.get? b=some o/\∀v,o.data≠.cell v):Inv X (pins++eR fp s.heap) σ H s:=
 I.dS λp hp=>(Ym.mp hp).elim (λz=>I.pin p (Yo _ z)) λz=>by
  obtain⟨hb,e⟩:=lC z;obtain⟨f0,f1,f2,_⟩:=hf p.1 hb;obtain⟨o,e',d⟩:=ho p.1 hb;rw[e]at e';cases e';show⟨e,f0,f1,f2,d⟩
theorem Inv.eh{pins pl:1e8}{σ:St}{H:Hp}{s:Shared}(I:Inv X (pins++pl) σ H s):Inv X pins σ H s:=I.dS λp hp=>I.pin p (Yo _ (Y4 _ hp))
theorem sL{iter:Expr}{body:List Stmt}{wi:TI}{g:TG}{tb:TS}{pos:Pos}(hp:Hy 2e2 X.A X.env X.xe)(hc:5e0)(hi:PI X tg iter wi)(hg:PG X tg g)(hb:kT X body tb)
  (hs:9e2:=by intro _;rfl):PS X (.For tg iter body [] pos) (Sd wi g tb):=by
 intro pins s σ H D I h;show wpAny_For (bS (hi pins s σ H _ I h) λv s1 h1=>bS h1 λLz s2 h2=>?_) hs;obtain⟨it,fp,tn,J,H2,e,I2,T,iP,f2,W,⟨m0,w0⟩,turn⟩:=h2;subst e;have fJ:∀{H':Hp},10e2->∀b∈fp,fm X pins H' b:=λhn b hb=>⟨hn b hb,(f2 b hb).2⟩
 show codeAny_forLoop_any (λn s'=>∃i σ' H',Inv X pins σ' H' s'/\tn i s'.heap/\10e2/\W i n σ' H') ?_ m0 ⟨0,σ,H2,I2,iP,λb hb=>(f2 b hb).1,w0⟩;rintro n s3 ⟨i,σ3,H3,I3,zp,kl,w3⟩;rcases turn i n σ3 H3 w3 with⟨stop,qn⟩|⟨go,N,hN,step⟩
 ·show Vl hp (bS (T.done X rfl rfl rfl hc i pins s3 σ3 H3 X.xe I3 (fJ kl) zp stop) λr s4 h_=>?_)
  obtain⟨hr,I4⟩:=h_;subst hr;show RS ⟨σ3,H3,I4,qn⟩
 ·show Vl hp (bS (T.item X rfl rfl rfl hc i pins s3 σ3 H3 X.xe I3 (fJ kl) zp go) λr s4 h_=>?_)
  obtain⟨u,hr,h4⟩:=h_;subst hr;show Vl hp (bS h4 λ_ s5 h_=>?_);obtain⟨x,H5,I5,r5,y5,rW,Kb⟩:=h_;have I5':=I5.pinned (fJ Kb) (T.obj _ _ rW);show Vl hp (bS (hg _ s5 σ3 H5 x u _ I5' r5 (step x H5 y5)) λ_ s6 h_=>?_);obtain⟨σ6,H6,I6,q6⟩:=h_;show Vl hp (bS (hb _ s6 σ6 H6 _ I6 q6) λf s7 q7=>?_);have again:∀{σ7:St}{H7:Hp},Inv X (pins++eR fp s5.heap) σ7 H7 s7->N σ7 H7->∃m,m<n/\∃i σ' H',Inv X pins σ' H' s7/\tn i s7.heap/\10e2/\W i m σ' H':=λ{σ7 H7} I7 n7=>by
   obtain⟨m',hm,w7⟩:=hN σ7 H7 n7;show⟨m',hm,i+1,σ7,H7,I7.eh,T.keep _ _ _ rW λb hb o e=>(I7.pin (b,o) (Yo _ (Yo _ (Ho hb e)))).1,λb hb=>?_,w7⟩;obtain⟨o,e,d⟩:=T.obj _ _ rW b hb;show(I7.pin (b,o) (Yo _ (Yo _ (Ho hb e)))).2.1
  cases f with
  |next=>obtain⟨σ7,H7,I7,n7⟩:=q7;show again I7 n7
  |cont=>obtain⟨σ7,H7,I7,n7⟩:=q7;show again I7 n7
  |brk=>obtain⟨σ7,H7,I7,q7⟩:=q7;show⟨σ7,H7,I7.eh,q7⟩
  |ret v=>obtain⟨x7,σ7,H7,I7,r7,q7⟩:=q7;show⟨x7,σ7,H7,I7.eh,r7,q7⟩
end
abbrev R2:=V->V->Hp->VK->Prop
def gf(X:Cx)(f:Value->Value->Sem Value)(r:R2):Prop:=
 ∀(pins:1e8)(s:Shared)(σ:St)(H:Hp)(x y:V)(v u:Value)(Q:VK),Inv X pins σ H s->RelV x v->RelV y u->r x y H Q->
  wpAny 2e2 X.A (f v u) (EP X pins σ Q) X.xe s
def UnR(X:Cx)(f:Value->Sem Value)(r:V->Hp->VK->Prop):Prop:=
 ∀(pins:1e8)(s:Shared)(σ:St)(H:Hp)(x:V)(v:Value)(Q:VK),Inv X pins σ H s->RelV x v->r x H Q->
  wpAny 2e2 X.A (f v) (EP X pins σ Q) X.xe s
def cM(X:Cx)(f:Value)(r:List V->Hp->VK->Prop):Prop:=
 ∀(pins:1e8)(s:Shared)(σ:St)(H:Hp)(xs:List V)(us:2e9)(Q:VK),Inv X pins σ H s->Vals xs us->r xs H Q->
  wpAny 2e2 X.A (call f us) (EP X pins σ Q) X.xe s
def Vaa(X:Cx)(r:V->Hp->(Bool->Hp->Prop)->Prop):Prop:=
 ∀(pins:1e8)(s:Shared)(σ:St)(H:Hp)(x:V)(v:Value)(Q:Bool->Hp->Prop),Inv X pins σ H s->RelV x v->r x H Q->
  wpAny 2e2 X.A (truthy v) (TP X pins σ Q) X.xe s
noncomputable def MM (r:R2)(ta tb:TE):TE:=λσ H Q=>ta σ H λx H1=>tb σ H1 λy H2=>r x y H2 Q
noncomputable def tUn (r:V->Hp->VK->Prop)(ta:TE):TE:=λσ H Q=>ta σ H λx H1=>r x H1 Q
noncomputable def rI (C:Int->Int->Prop)(g:Int->Int->V):R2:=λx y H Q=>∃i j,x=.int i/\y=.int j/\C i j/\Q (g i j) H
noncomputable def Dt (g:Int->Int->V):R2:=λx y H Q=>∃i j,x=.int i/\y=.int j/\Q (g i j) H
def rU(g:Int->V):V->Hp->VK->Prop:=λx H Q=>∃i,x=.int i/\Q (g i) H
section
variable{X:Cx}{a b c:Expr}{ta tb tc:TE}{pos:Pos}
theorem Kt(ha:PE X a ta)(hb:PE X b tb){pins:1e8}{s:Shared}{σ:St}{H:Hp}{R:V->V->Hp->Prop}(I:2e0)
  (h:ta σ H λx H1=>tb σ H1 λy H2=>R x y H2) {Q:1e1} {f:Value->Value->Sem Value}
  (hf:∀v u s2 x y H2,Inv X pins σ H2 s2->RelV x v->RelV y u->R x y H2->wpAny 2e2 X.A (f v u) Q X.xe s2):
  wpAny 2e2 X.A (eval a X.env) (λv s₁=>wpAny 2e2 X.A (eval b X.env) (λu s₂=>wpAny 2e2 X.A (f v u) Q X.xe s₂) X.xe s₁) X.xe s:=by
 show bS (ha pins s σ H _ I h) λv s1 h_=>?_;obtain⟨x,H1,I1,r1,q1⟩:=h_;show bS (hb pins s1 σ H1 _ I1 q1) λu s2 h_=>?_;obtain⟨y,H2,I2,r2,q2⟩:=h_;show hf v u s2 x y H2 I2 r1 r2 q2
theorem Gn{op:Operator}{r:R2}(ho:gf X (Uc op) r)(ha:PE X a ta)(hb:PE X b tb):PE X (.BinOp a op b pos) (MM r ta tb):=by
 intro pins s σ H Q I h;show wpAny_BinOp (Kt ha hb I h λv u s2 x y H2 I2 rx ry q=>ho pins s2 σ H2 x y v u Q I2 rx ry q)
theorem Nr{op:UnaryOp}{r:V->Hp->VK->Prop}(ho:UnR X (unaryOp op) r)(ha:PE X a ta):PE X (.UnaryOp op a pos) (tUn r ta):=by
 intro pins s σ H Q I h;show UnaryOp_ (bS (ha pins s σ H _ I h) λv s1 ⟨x,H1,I1,r1,q1⟩=>ho pins s1 σ H1 x v Q I1 r1 q1)
theorem Qq{f:Value->Value->Sem Value}{C:Int->Int->Prop}{g:Int->Int->Int}
  (rule:∀(i j:Int)(t u:Tok)(s:Shared)(Q:1e1)(E:1e1),C i j->Q (.int (g i j) s.toks) {s with toks:=s.toks+1}->wpAny (model X.prog X.w) X.A (f (.int i t) (.int j u)) Q E s):
  gf X f (rI C λi j=>.int (g i j)):=by
 sleep 7;obtain⟨i,j,rfl,rfl,hc,q⟩:=h;obtain⟨t,rfl⟩:=rx;obtain⟨t',rfl⟩:=ry;show rule i j t t' s _ _ hc ⟨.int (g i j),H,I.tok _,⟨_,rfl⟩,q⟩
theorem SH{f:Value->Value->Sem Value}{g:Int->Int->Int}
  (rule:∀(i j:Int)(t u:Tok)(s:Shared)(Q:1e1)(E:1e1),Q (.int (g i j) s.toks) {s with toks:=s.toks+1}->wpAny (model X.prog X.w) X.A (f (.int i t) (.int j u)) Q E s):
  gf X f (Dt λi j=>.int (g i j)):=by
 sleep 7;obtain⟨i,j,rfl,rfl,q⟩:=h;obtain⟨t,rfl⟩:=rx;obtain⟨t',rfl⟩:=ry;show rule i j t t' s _ _ ⟨.int (g i j),H,I.tok _,⟨_,rfl⟩,q⟩
theorem Nu{f:Value->Value->Sem Value}{g:Int->Int->Bool}
  (rule:∀(i j:Int)(t u:Tok)(s:Shared)(Q:1e1)(E:1e1),Q (.bool (g i j)) s->wpAny 2e2 X.A (f (.int i t) (.int j u)) Q E s):
  gf X f (Dt λi j=>.bl (g i j)):=by
 sleep 7;obtain⟨i,j,rfl,rfl,q⟩:=h;obtain⟨t,rfl⟩:=rx;obtain⟨t',rfl⟩:=ry;show rule i j t t' s _ _ ⟨.bl (g i j),H,I,rfl,q⟩
def Vac(i j:Int):Prop:=0<=j/\j<=1000000/\i.natAbs<2^64
def Lq(i j:Int):Prop:=(-(2^64)<i/\i<2^64)\/(-(2^64)<j/\j<2^64)
theorem Lq.ok{i j:Int}(h:Lq i j):IntMulOk i j:=by
 rcases h with⟨h1,h2⟩|⟨h1,h2⟩
 ·show .of_left (intBits_le_64 h1 h2)
 ·show .of_right (intBits_le_64 h1 h2)
theorem IH:gf X (Uc .Add) (Dt λi j=>.int (i+j)):=SH λ_ _ _ _ _ _ _ q=>add_int q
theorem IE:gf X (Uc .Mult) (rI Lq λi j=>.int (i*j)):=Qq λ_ _ _ _ _ _ _ hc q=>mul_int q hc.ok
theorem IF:gf X (Uc .Mod) (rI (λ_ j=>0<j) λi j=>.int (i%j)):=Qq λi j _ _ _ _ _ hc q=>by
 have h1:(0:Int)<j:=hc;show mod_int' 1e0 (by rw[Int.fmod_eq_emod_of_nonneg i 1e0];show q)
theorem ID:gf X (Uc .Pow) (rI Vac λi j=>.int (i^j.toNat)):=Qq λ_ _ _ _ _ _ _ hc q=>pow_int_small hc.1 hc.2.1 hc.2.2 q
theorem unI{f:Value->Sem Value}{g:Int->Int}
  (rule:∀(i:Int)(t:Tok)(s:Shared)(Q:1e1)(E:1e1),Q (.int (g i) s.toks) {s with toks:=s.toks+1}->wpAny (model X.prog X.w) X.A (f (.int i t)) Q E s):
  UnR X f (rU λi=>.int (g i)):=by
 intro pins s σ H x v Q I rx h;obtain⟨i,rfl,q⟩:=h;obtain⟨t,rfl⟩:=rx;show rule i t s _ _ ⟨.int (g i),H,I.tok _,⟨_,rfl⟩,q⟩
theorem HI:UnR X (unaryOp .USub) (rU λi=>.int (-i)):=unI λ_ _ _ _ _ q=>neg_int q
end
noncomputable def M3:V->V->Bool
 |.aF,.aF=>true | .aF,.int _=>true | .int _,.aF=>true | .aF,.bl _=>true | .bl _,.aF=>true | .aF,.str _=>true | .str _,.aF=>true
 |.int _,.int _=>true | .bl _,.bl _=>true | .str _,.str _=>true | .yU _,.yU _=>true
 |.int _,.str _=>true | .str _,.int _=>true | .bl _,.str _=>true | .str _,.bl _=>true
 |_,_=>false
def rEq:R2:=λx y H Q=>M3 x y=true/\Q (.bl (decide (x=y))) H
theorem Fy{i j:Int}:decide (V.int i=V.int j)=(i==j):=by
 rw[WU];simp
theorem Kl{i j:Bool}:decide (V.bl i=V.bl j)=(i==j):=by
 rw[WU];simp
theorem Fx{i j:Str}:decide (V.str i=V.str j)=(i==j):=by
 rw[WU];simp
theorem Fz{i j:Array UInt8}:decide (V.yU i=V.yU j)=(i.toList==j.toList):=by
 rw[WU];cases i;cases j;simp
section
variable{X:Cx}{a b c:Expr}{ta tb tc:TE}{pos:Pos}
theorem uO{pins:1e8}{σ:St}{H:Hp}{s:Shared}{Q:VK}{k k':Bool}(I:2e0)(q:Q (.bl k) H)(e:k=k'):EP X pins σ Q (.bool k') s:=by
 subst e;show⟨.bl k,H,I,rfl,q⟩
theorem AS:gf X (Va .Eq) rEq:=by
 sleep 7;obtain⟨hs,q⟩:=h;cases x with
 |aF=>
  cases rx;cases y with
  |aF=>cases ry;show PySem.EqNone.eq_none_none (uO I q 2e6)
  |bl j=>cases ry;show PySem.EqNone.eq_none_bool (uO I q 2e6)
  |int j=>obtain⟨t',rfl⟩:=ry;show PySem.EqNone.eq_none_int (uO I q 2e6)
  |str j=>obtain⟨t',rfl⟩:=ry;show PySem.EqNone.eq_none_str (uO I q 2e6)
  |_=>show absurd (show false=true from hs) Yn
 |bl i=>
  cases rx;cases y with
  |aF=>cases ry;show PySem.EqNone.eq_bool_none (uO I q 2e6)
  |bl j=>cases ry;show eq_bool (uO I q Kl)
  |str j=>obtain⟨t',rfl⟩:=ry;show PySem.EqMixed.eq_bool_str (uO I q 2e6)
  |_=>show absurd (show false=true from hs) Yn
 |int i=>
  obtain⟨t,rfl⟩:=rx;cases y with
  |aF=>cases ry;show PySem.EqNone.eq_int_none (uO I q 2e6)
  |int j=>obtain⟨t',rfl⟩:=ry;show eq_int (uO I q Fy)
  |str j=>obtain⟨t',rfl⟩:=ry;show PySem.EqMixed.eq_int_str (uO I q 2e6)
  |_=>show absurd (show false=true from hs) Yn
 |str i=>
  obtain⟨t,rfl⟩:=rx;cases y with
  |aF=>cases ry;show PySem.EqNone.eq_str_none (uO I q 2e6)
  |bl j=>cases ry;show PySem.EqMixed.eq_str_bool (uO I q 2e6)
  |int j=>obtain⟨t',rfl⟩:=ry;show PySem.EqMixed.eq_str_int (uO I q 2e6)
  |str j=>obtain⟨t',rfl⟩:=ry;show eq_str (uO I q Fx)
  |_=>show absurd (show false=true from hs) Yn
 |yU i=>
  obtain⟨t,rfl⟩:=rx;cases y with
  |yU j=>obtain⟨t',rfl⟩:=ry;show W.eq_bytes (uO I q Fz)
  |_=>show absurd (show false=true from hs) Yn
 |_=>cases y<;>show absurd (show false=true from hs) Yn
theorem Gp:gf X (Va .Lt) (Dt λi j=>.bl (decide (i<j))):=Nu λ_ _ _ _ _ _ _ q=>lt_int q
theorem vE:gf X (Va .Gt) (Dt λi j=>.bl (decide (j<i))):=Nu λ_ _ _ _ _ _ _ q=>gt_int q
theorem bZ(b:Expr){op:CmpOp}(h:op≠.In:=by decide)(h2:op≠.NotIn:=by decide):Up op b=false:=by
 have e1:(op==CmpOp.In)=false:=by cases op<;>first|rfl|show absurd rfl h
 have e2:(op==CmpOp.NotIn)=false:=by cases op<;>first|rfl|show absurd rfl h2
 cases b<;>simp[Up,e1,e2]
theorem Eu{op:CmpOp}{r:R2}(ho:gf X (Va op) r)(ha:PE X a ta)(hb:PE X b tb)(hm:Up op b=false):PE X (.Compare a [op] [b] pos) (MM r ta tb):=by
 intro pins s σ H Q I h;show wpAny_Compare1 (Kt ha hb I h λv u s2 x y H2 I2 rx ry q=>ho pins s2 σ H2 x y v u Q I2 rx ry q) hm
noncomputable def Gb (t:TE):TT:=λσ H Q=>t σ H λx H'=>∃k,x=.bl k/\Q k H'
theorem Ek{op:CmpOp}{r:R2}(ho:gf X (Va op) r)(ha:PE X a ta)(hb:PE X b tb)(hm:Up op b=false):PT X (.Compare a [op] [b] pos) (Gb (MM r ta tb)):=by
 intro pins s σ H Q I h;show wpAny_isTrue_Compare1 (bS (ha pins s σ H _ I h) λv s1 ⟨x,H1,I1,r1,q1⟩=>bS (hb pins s1 σ H1 _ I1 q1) λu s2 ⟨y,H2,I2,r2,q2⟩=>
  bS (ho pins s2 σ H2 x y v u _ I2 r1 r2 q2) λc s3 ⟨z,H3,I3,r3,k,e,q3⟩=>?_) hm
 subst e;cases r3;show VX ⟨H3,I3,q3⟩
def K9(K:W.Frag)(x:V)(H:Hp)(k:Bool):Prop:=
 match x with
 |.aF=>k=false
 |.bl b=>k=b
 |.int i=>k=(i != 0)
 |.str y=>y.length<=YA/\k=((y.length:Int) != 0)
 |.yU y=>y.size<=YA/\k=((y.size:Int) != 0)
 |.ref p=>(∃xs,fH K H p xs/\k=!xs.isEmpty)\/(∃xs,kh K H p xs/\k=!xs.isEmpty)\/∃ag,H p=some (.dK ag)/\k=!ag.isEmpty
 |_=>False
theorem tZ{κ:Type}{ag:List (κ×V)}{vs:List (κ×Value)}(r:KV ag vs):(!vs.isEmpty)=!ag.isEmpty:=by
 cases r<;>rfl
theorem ZdY{xs:List V}{aw:2e9}(r:Vals xs aw):(!aw.toArray.isEmpty)=!xs.isEmpty:=by
 cases r<;>simp
theorem ib:(YA:Nat)<2^63:=by rw[YZ];decide
theorem HM:Vaa X (λx H Q=>∃k,K9 X.K x H k/\Q k H):=by
 intro pins s σ H x v Q I rx h;obtain⟨k,e,q⟩:=h;have hl:=ib;have hs:YA=16777216:=YZ;cases x with
 |aF=>
  cases rx;have e':k=false:=e;subst e';show truthy_none ⟨H,I,q⟩
 |bl b=>
  cases rx;have e':k=b:=e;subst e';show VX ⟨H,I,q⟩
 |int i=>
  obtain⟨t,rfl⟩:=rx;have e':k=(i != 0):=e;subst e';show PySem.P.truthy_int ⟨H,I,q⟩
 |str y=>
  obtain⟨t,rfl⟩:=rx;obtain⟨hy,e'⟩:y.length<=YA/\k=((y.length:Int) != 0):=e;subst e';show PySem.P.truthy_str 1e0 ⟨H,I.tok _,q⟩
 |yU y=>
  obtain⟨t,rfl⟩:=rx;obtain⟨hy,e'⟩:y.size<=YA/\k=((y.size:Int) != 0):=e;subst e';show W.truthy_bytes 1e0 ⟨H,I.tok _,q⟩
 |ref p=>
  cases rx;have e':(∃xs,fH X.K H p xs/\k=!xs.isEmpty)\/(∃xs,kh X.K H p xs/\k=!xs.isEmpty)\/∃ag,H p=some (.dK ag)/\k=!ag.isEmpty:=e;rcases e' with⟨xs,hx,e'⟩|⟨xs,hx,e'⟩|⟨ag,hx,e'⟩
  ·subst e'
   obtain⟨aw,r,pl,hz⟩:=I.list hx;have hlen:=r.length;show wpAny_truthy_list pl.isList (by simp only[Yr];lia) ⟨H,I.tok _,by rw[ZdY r];show q⟩
  ·subst e'
   obtain⟨aw,r,pl,hz⟩:=I.tuple hx;have hlen:=r.length;show truthy_tuple pl (by simp only[Yr];lia) ⟨H,I.tok _,by rw[ZdY r];show q⟩
  ·subst e'
   obtain⟨hz,hS,vs,r,m⟩:ag.length<=YA/\(p==XT)=false/\∃vs,KV ag vs/\s.heap.DictOf (aD X.prog X.w) p vs:=I.aQ p _ hx;have hlen:ag.length=vs.length:=Ww r;show wpAny_truthy_dict hS m 1e0 ⟨H,I.tok _,by rw[tZ r];show q⟩
 |_=>show(show False from e).elim
theorem Aw(ha:PE X a ta)(he:∀whole,isTrue a X.env whole=(do let v ←whole;FW a.pos;zF [v] (truthy v))):
  PT X a (λσ H Q=>ta σ H λx H'=>∃k,K9 X.K x H' k/\Q k H'):=by
 intro pins s σ H Q I h;show isTrue_plain (bS (ha pins s σ H _ I h) λv s1 ⟨x,H1,I1,r1,q1⟩=>HM pins s1 σ H1 x v Q I1 r1 q1) (he _)
theorem sR:gf X (Uc .Add) (λx y H Q=>∃i j,x=.str i/\y=.str j/\i.length+j.length<=YA/\Q (.str (i++j)) H):=by
 sleep 7;obtain⟨i,j,rfl,rfl,hz,q⟩:=h;obtain⟨t,rfl⟩:=rx;obtain⟨t',rfl⟩:=ry;show add_str (λt' tk=>⟨.str (i++j),H,I.tok _,⟨_,rfl⟩,q⟩) hz
theorem vals1{x:V}{us:2e9}(r:Vals [x] us):∃u,us=[u]/\RelV x u:=by
 cases r with
 |cons r1 r2=>cases r2;show⟨_,rfl,r1⟩
theorem vals2{x y:V}{us:2e9}(r:Vals [x,y] us):∃u w',us=[u,w']/\RelV x u/\RelV y w':=by
 cases r with
 |cons r1 r2=>
  cases r2 with
  |cons r3 r4=>cases r4;show⟨_,_,rfl,r1,r3⟩
theorem yR(hc:5e0):cM X (.builtin "max") (λxs H Q=>∃i j,xs=[.int i,.int j]/\Q (.int (if j>i then j else i)) H):=by
 intro pins s σ H xs us Q I r h;obtain⟨i,j,rfl,q⟩:=h;obtain⟨u,w',rfl,⟨t,rfl⟩,⟨t',rfl⟩⟩:=vals2 r;show max_two_ints (I.ok.hd hc) λh' tk k=>⟨_,H,I.kept k,?_,q⟩
 by_cases hj:j>i
 ·rw[if_pos hj,if_pos hj];show⟨_,rfl⟩
 ·rw[if_neg hj,if_neg hj];show⟨_,rfl⟩
def Qg(K:W.Frag)(x:V)(H:Hp)(n:Nat):Prop:=
 match x with
 |.str y=>y.length<=YA/\n=y.length
 |.yU y=>y.size<=YA/\n=y.size
 |.ref p=>(∃xs,fH K H p xs/\n=xs.length)\/∃xs,kh K H p xs/\n=xs.length
 |_=>False
theorem CO:cM X (.builtin "len") (λxs H Q=>∃x n,xs=[x]/\Qg X.K x H n/\Q (.int n) H):=by
 intro pins s σ H xs us Q I r h;obtain⟨x,n,rfl,e,q⟩:=h;obtain⟨u,rfl,rx⟩:=vals1 r;have hl:=ib;have hs:YA=16777216:=YZ;cases x with
 |str y=>
  obtain⟨t,rfl⟩:=rx;obtain⟨hy,e'⟩:y.length<=YA/\n=y.length:=e;subst e';show len_str 1e0 ⟨.int _,H,I.tok _,⟨_,rfl⟩,q⟩
 |yU y=>
  obtain⟨t,rfl⟩:=rx;obtain⟨hy,e'⟩:y.size<=YA/\n=y.size:=e;subst e';show W.len_bytes 1e0 ⟨.int _,H,I.tok _,⟨_,rfl⟩,q⟩
 |ref p=>
  cases rx;have e':(∃xs,fH X.K H p xs/\n=xs.length)\/∃xs,kh X.K H p xs/\n=xs.length:=e;rcases e' with⟨xs,hx,e'⟩|⟨xs,hx,e'⟩
  ·subst e'
   obtain⟨aw,r',pl,hz⟩:=I.list hx;have hlen:=r'.length;show Calls.call_len_list pl.isList (by simp only[Yr];lia) ⟨.int xs.length,H,I.tok _,⟨_,by simp only[Yr];rw[hlen]⟩,q⟩
  ·subst e'
   obtain⟨aw,r',pl,hz⟩:=I.tuple hx;have hlen:=r'.length;show len_tuple pl (by simp only[Yr];lia) ⟨.int xs.length,H,I.tok _,⟨_,by simp only[Yr];rw[hlen]⟩,q⟩
 |_=>show(show False from e).elim
end
theorem iN.some_of{v:V}{o:Option Value}(r:iN (some v) o):∃u,o=some u/\RelV v u:=by
 cases o with
 |none=>show(show False from r).elim
 |some u=>show⟨u,rfl,r⟩
structure b9(k:Nat)(A:Around):Prop where
 hd:A.handled=none
 dp:A.depth+3*k+5<recursionLimit
 un:A.units+16*k+200<cLine
theorem b9.mono{j k:Nat}{A:Around}(r:b9 k A)(h:j<=k):b9 j A:=⟨r.hd,by have:=r.dp;lia,by have:=r.un;lia⟩
theorem b9.deeper{k:Nat}{A:Around}(r:b9 (k+1) A)(env:Env):b9 k (A.deeper env):=
 ⟨r.hd,by have:=r.dp;change A.depth+1+3*k+5<_;lia,by have:=r.un;change A.units+3+16*k+200<_;lia⟩
theorem b9.depth{k:Nat}{A:Around}(r:b9 k A):A.depth<recursionLimit:=by have:=r.dp;lia
theorem b9.units{k:Nat}{A:Around}(r:b9 k A):A.units+64<cLine:=by have:=r.un;lia
noncomputable def MN:TA:=λ_ H Q=>Q [] H
noncomputable def zW (ta:TE)(tr:TA):TA:=λσ H Q=>ta σ H λx H1=>tr σ H1 λxs H2=>Q (x::xs) H2
section
variable{X:Cx}{e:Expr}{es:3e4}{te:TE}{t:TA}{pos:Pos}
theorem AO:PA X [] MN:=λ_ _ _ _ H Q I h=>UJ ⟨[],H,I,.nil,h⟩
theorem iU(ha:PE X e te)(hr:PA X es t)(hs:1e4:=by rfl):PA X 4e4 (zW te t):=by
 intro pos pins s σ H Q I h;rw[hs];change wpAny _ _ (spliced ((false,eval e X.env)::backTo pos (Yu es X.env))) _ _ s;show Ur (bS (ha pins s σ H _ I h) λu s1 h_=>?_);obtain⟨x,H1,I1,r1,q1⟩:=h_;show bS (hr pos pins s1 σ H1 _ I1 q1) λus s2 ⟨xs,H2,I2,r2,q2⟩=>⟨x::xs,H2,I2,.cons r1 r2,q2⟩
def R5(t:TA):TE:=λσ H Q=>t σ H λxs H1=>xs.length<=YA/\∀p,H1 p=none->Q (.ref p) (upd H1 p (.tup xs))
def Sa(t:TA):TE:=λσ H Q=>t σ H λxs H1=>xs.length<=YA/\∀p,H1 p=none->Q (.ref p) (upd H1 p (.lst xs))
theorem AJ{x1}(h:PA X es t):PE X (.Tuple es x1 pos) (R5 t):=by
 intro pins s σ H Q I hq;show wpAny_Tuple_spliced (bS (h pos pins s σ H _ I hq) λus s1 ⟨xs,H1,I1,r,z,q⟩=>⟨by rw[←r.length];show z,?_⟩);have hf:H1 s1.heap.objs.size=none:=I1.aQ.fresh (Yl _);show⟨.ref s1.heap.objs.size,upd H1 s1.heap.objs.size (.tup xs),I1.laid (t':=s1.toks) (λb u e=>Yb _ e) (Yl _) ?_,rfl,q _ hf⟩;show⟨z,us,r,⟨_,Yg _ rfl,rfl,_,rfl⟩⟩
theorem Iy(h:PA X es t):PE X (.List es pos) (Sa t):=by
 intro pins s σ H Q I hq;show wpAny_List_spliced (bS (h pos pins s σ H _ I hq) λus s1 ⟨xs,H1,I1,r,z,q⟩=>⟨by rw[←r.length];show z,?_⟩);have hf:H1 s1.heap.objs.size=none:=I1.aQ.fresh (Yl _);show⟨.ref s1.heap.objs.size,upd H1 s1.heap.objs.size (.lst xs),I1.laid (t':=s1.toks) (λb u e=>Yb _ e) (Yl _) ?_,rfl,q _ hf⟩;show⟨z,us,0,r,Yg _ rfl⟩
end
abbrev Sp:=List V->Hp->VK->XK->Prop
abbrev DN:=List Env->Hp->Shared->XK->Value->Shared->Prop
structure F3(P:YF)(w:World)(K:W.Frag)(mg:Str->Option Value)(base:Heap)(A:Around)(outer:List Env)(s:Shared)(H:Hp):Prop where
 frames:A.frames=some outer
 mod:Mod K mg base
 bs:∀b o,base.get? b=some o->s.heap.get? b=some o/\H b=none
 Ks:base.objs.size<=s.heap.objs.size
 jT:s.heap.FunFrames base outer
 LZ:∀b∈ub outer,H b=none
 aQ:gw P w H s.heap
 bare:FX s.gens
def CE(outer:List Env)(P:YF)(w:World)(H:Hp)(s:Shared)(Q:VK)(u:Value)(s':Shared):Prop:=
 ∃v H',s'.os=s.os/\FX s'.gens/\Un (ub outer) [] H H' s.heap s'.heap/\gw P w H' s'.heap/\RelV v u/\Q v H'
def CR(CX:DN)(outer:List Env)(P:YF)(w:World)(H:Hp)(s:Shared)(Q:VK)(E:XK)(r:Result)(s':Shared):Prop:=
 match r with
 |.ok (.ret u)=>CE outer P w H s Q u s'
 |.ok _=>False
 |.error e=>CX outer H s E e s'
structure fq(P:YF)(w:World)(K:W.Frag)(mg:Str->Option Value)(base:Heap)(CX:DN)(k:Nat)(f:Addr)(fd:WI)(ps:List Str)(sp:Sp):Prop where
 len:∀vs H Q E,sp vs H Q E->vs.length=ps.length
 run:∀(A:Around)(outer:List Env)(s:Shared)(H:Hp)(args:Args)(us:2e9)(vs:List V)(Q:VK)(E:XK),b9 k A->F3 P w K mg base A outer s H->BindsTo s fd args (ps.zip us)->Vals vs us->sp vs H Q E->
  WA (model P w) A (.call (.ref f) args) (CR CX outer P w H s Q E) s
theorem fq.imp{P:YF}{w:World}{K:W.Frag}{mg:2e5}{base:Heap}{CX:DN}{k:Nat}{f:Addr}{fd:WI}{ps:4e3}{sp sp':Sp}(F:fq P w K mg base CX k f fd ps sp)
  (h:∀vs H Q E,sp' vs H Q E->sp vs H Q E):fq P w K mg base CX k f fd ps sp':=
 ⟨λvs H Q E q=>F.len vs H Q E (h _ _ _ _ q),λA outer s H args us vs Q E hr he hb hv hs=>F.run A outer s H args us vs Q E hr he hb hv (h _ _ _ _ hs)⟩
section
variable{X:Cx}{pins:1e8}{σ:St}{H:Hp}{s s':Shared}
theorem Inv.ZF(I:2e0):F3 X.prog X.w X.K X.mg X.base X.A X.stack s H:=
 ⟨I.ok.frames,I.ok.mod,I.bs,Xb I.ok.Ks I.sz,I.stack,I.u7,I.aQ,I.bare⟩
theorem Inv.after{Q:VK}{u:Value}(I:2e0)(h:CE X.stack X.prog X.w H s Q u s'):EP X pins σ Q u s':=by
 obtain⟨v,H',os,bare,un,aQ,r,q⟩:=h;obtain⟨hh,g,d,t,IC⟩:=s';obtain rfl:IC=s.os:=os;show⟨v,H',I.call (h':=hh) (g':=g) (d':=d) (t':=t) (ch:=[]) un aQ bare (λb z=>absurd z 2e6),r,q⟩
end
noncomputable def MV (sp:Sp)(G4:List V)(E:XK)(t:TA):TE:=λσ H Q=>t σ H λvs H1=>sp (vs++G4) H1 Q E
def Binds(K:W.Frag)(fd:WI)(ps:4e3)(ds:2e9):Prop:=
 ∀(s:Shared)(us:2e9),K.In s.heap->(us++ds).length=ps.length->BindsTo s fd ⟨us,[]⟩ (ps.zip (us++ds))
theorem Binds.all{K:W.Frag}{fd:WI}{ps:4e3}(h:∀us:List Value,us.length=ps.length->bindArgs fd ⟨us,[]⟩=pure (ps.zip us)):Binds K fd ps []:=λs us _ hl=>by
 rw[YG]at hl⊢;show .of_eq (h us hl)
def Passes(CX:DN)(X:Cx)(E:XK):Prop:=∀(pins:1e8)(σ:St)(H:Hp)(s:Shared)(e:Value)(s':Shared),Inv X pins σ H s->CX X.stack H s E e s'->X.xe e s'
section
variable{X:Cx}{CX:DN}{k:Nat}{f C:Addr}{fd:WI}{ps:4e3}{sp:Sp}{G4:List V}{ds:2e9}{E:XK}{x m:Str}{p pos apos:Pos}{e o:Expr}{es:3e4}{ta:TE}{t:TA}
theorem Ii{pins:1e8}{σ:St}{H:Hp}{s:Shared}{Q:VK}{us:2e9}{vs:List V}(F:fq X.prog X.w X.K X.mg X.base CX k f fd ps sp)(hr:b9 k X.A)(hb:Binds X.K fd ps ds)(hd:Vals G4 ds)(hx:Passes CX X E)
  (I:2e0) (r:Vals vs us) (h:sp (vs++G4) H Q E):wpAny 2e2 X.A (call (.ref f) us) (EP X pins σ Q) X.xe s:=by
 have r2:Vals (vs++G4) (us++ds):=r.append hd;have hl:(us++ds).length=ps.length:=by rw[←r2.length];show F.len _ _ _ _ h
 show wpAny_call (UW (F.run X.A X.stack s H ⟨us,[]⟩ (us++ds) (vs++G4) Q E hr I.ZF (hb s us I.Ly hl) r2 h) λr s' hq=>?_);cases r with
 |error e=>show hx pins σ H s e s' I hq
 |ok fl=>
  cases fl with
  |ret u=>show I.after hq
  |next=>show VD hq
  |brk=>show VD hq
  |cont=>show VD hq
theorem iT(F:fq X.prog X.w X.K X.mg X.base CX k f fd ps sp)(hr:b9 k X.A)(hg:Gl X x)(hm:X.mg x=some (.ref f))(hk:Hx X.K (.ref f)=true)(hb:Binds X.K fd ps ds)(hd:Vals G4 ds)(hx:Passes CX X E)
  (ha:PA X 4e4 t) (iJ:3e2:=by decide) (he:1e4:=by rfl) (cE:2e4:=by rfl):
  PE X 7e2 (MV sp G4 E t):=by
 intro pins s σ H Q I h;show WD (vY I hg hm ?_ iJ);show W.callWith_K (h₀:=X.base) I.ok.mod.S8 hk (bS (ha pos pins s σ H _ I h) λus s1 ⟨vs,H1,I1,r,q⟩=>⟨I1.Ly,?_⟩) he cE;show Ii F hr hb hd hx I1 r q
end
structure aJ(N P:List Str)(sc:Scope):Prop where
 kind:sc.kind=.function
 co:sc.isCoroutine=false
 gen:sc.isGenerator=false
 nd:N.Nodup
 pre:N.take P.length=P
 par:∀x∈P,sc.names.lookup x=some .local\/sc.names.lookup x=some .cell
 IQ:∀y∈sc.names,y.2≠.free
theorem l6{kindOf:Str->Option Us}{x:Str}:∀{binds:List (Str×Value)}{m:2e5},(∀v,(x,v)∉binds)->bindL kindOf binds m x=m x
  |[],_,_=>rfl
  | (n,v)::r,m,h=>by
    ext bindL;rw[l6 λw hw=>h w (YL _ hw)];split
    · have:x≠n:=by rintro rfl;show h v YS
      simp[this]
    · rfl
theorem l8{kindOf:Str->Option Us}{x:Str}:∀{binds:List (Str×Value)}{m:2e5},(∀v,(x,v)∉binds)->bindC kindOf binds m x=m x
  |[],_,_=>rfl
  | (n,v)::r,m,h=>by
    ext bindC;rw[l8 λw hw=>h w (YL _ hw)];split
    · rfl
    · have:x≠n:=by rintro rfl;show h v YS
      simp[this]
theorem l7{kindOf:Str->Option Us}{x:Str}{v:Value}:∀{P:4e3}{vs:2e9}{i:Nat}{m:2e5},P.Nodup->P[i]? = some x->vs[i]? = some v->kindOf x=some .local->
  bindL kindOf (P.zip vs) m x=some v
 |[],_,_,_,_,h,_,_=>by simp at h
 |_::_,[],_,_,_,_,h,_=>by simp at h
 |p::P,w::vs,0,m,nd,h1,h2,hk=>by
  simp at h1 h2;subst h1;subst h2;change bindL kindOf ((p,w)::P.zip vs) m p=_;ext bindL;rw[l6 λv hv=>(Xj.mp nd).1 (Yci hv).1,if_pos hk];simp
 |p::P,w::vs,i+1,m,nd,h1,h2,hk=>by
  change bindL kindOf ((p,w)::P.zip vs) m x=_;ext bindL;show l7 (i:=i) (Xj.mp nd).2 (by simpa using h1) (by simpa using h2) hk
theorem l9{kindOf:Str->Option Us}{x:Str}{v:Value}:∀{P:4e3}{vs:2e9}{i:Nat}{m:2e5},P.Nodup->P[i]? = some x->vs[i]? = some v->kindOf x≠some .local->
  bindC kindOf (P.zip vs) m x=some v
 |[],_,_,_,_,h,_,_=>by simp at h
 |_::_,[],_,_,_,_,h,_=>by simp at h
 |p::P,w::vs,0,m,nd,h1,h2,hk=>by
  simp at h1 h2;subst h1;subst h2;change bindC kindOf ((p,w)::P.zip vs) m p=_;ext bindC;rw[l8 λv hv=>(Xj.mp nd).1 (Yci hv).1,if_neg hk];simp
 |p::P,w::vs,i+1,m,nd,h1,h2,hk=>by
  change bindC kindOf ((p,w)::P.zip vs) m x=_;ext bindC;show l9 (i:=i) (Xj.mp nd).2 (by simpa using h1) (by simpa using h2) hk
noncomputable def start (N:4e3)(vs:List V):St:=vs.map some++VE (N.length-vs.length) none
noncomputable def j5 (CX:DN)(P:YF)(w:World)(K:W.Frag)(mg:2e5)(base:Heap)(N:4e3)(qual:Str)(scope:Scope)(f:Addr)(cd:Value)(A:Around)(outer:List Env)(s:Shared)(H:Hp)(E:XK):Cx where
 prog:=P
 w:=w
 K:=K
 mg:=mg
 base:=base
 A:=A.deeper (envOfC qual scope s.heap.objs.size f cd)
 N:=N
 s₀:=s
 H₀:=H
 env:=envOfC qual scope s.heap.objs.size f cd
 outer:=outer
 stack:=envOfC qual scope s.heap.objs.size f cd::outer
 ex:=[]
 calm:=true
 fn:=λ_=>true
 pn:=[]
 xe:=λe s'=>wpAny (model P w) (A.deeper (envOfC qual scope s.heap.objs.size f cd)) (leaving (envOfC qual scope s.heap.objs.size f cd) e) (λ_ D4=>CX outer H s E e D4) (λe' D4=>CX outer H s E e' D4) s'
theorem qJ{sc:Scope}{n:Nat}{x:Str}(h:sc.names.lookup x=some .cell):∃c,(cellsFrom n sc.names []).lookup x=some c:=by
 have q:=W.cellsFrom_some sc.names n [] (.inl h);show Ug.mp q
theorem yq{CX:DN}{P:YF}{w:World}{K:W.Frag}{mg:2e5}{base:Heap}{N ps:4e3}{qual:Str}{scope:Scope}{f:Addr}{cd:Value}{A:Around}{outer:List Env}{s s1:Shared}{H:Hp}{E:XK}{us:2e9}{vs:List V}
  (S:aJ N ps scope) (hd:6e8) (e0:F3 P w K mg base A outer s H) (hl:vs.length=ps.length) (r:Vals vs us)
  (x:InCallC s s.heap.objs.size (bindL (envOfC qual scope s.heap.objs.size f cd).kindOf (ps.zip us) λ_=>none) (cellsFrom (s.heap.objs.size+1) scope.names []) (bindC (envOfC qual scope s.heap.objs.size f cd).kindOf (ps.zip us) λ_=>none) s1):
  Inv (j5 CX P w K mg base N qual scope f cd A outer s H E) [] (start N vs) H s1:=by
 have cE:ps.length<=N.length:=by have:=congrArg List.length S.pre;rw[Xv]at this;lia
 obtain⟨h1,tk,rfl,hk⟩:=x.done;have Ny:∀b:Addr,b∉(j5 CX P w K mg base N qual scope f cd A outer s H E).ex:=λb z=>absurd (show b∈([]:List Addr)from z) 2e6;show⟨⟨e0.mod,S.kind,rfl,rfl,Yl _,λy z c h1 h2=>?_,λy hy=>?_,λy c _ h=>?_,λ_=>hd,Around.frames_deeper e0.frames,.inr ⟨rfl,rfl⟩,λb z=>absurd z (Ny b),e0.bs,e0.Ks,λb _ _=>Ny b,λb z=>absurd z (Ny b),e0.jT,e0.LZ⟩,
  rfl,e0.bare,Un.kept hk,⟨_,x.toInCall.ns,λi y v h1 h2 h3=>?_⟩,λy c h=>⟨_,x.cell y c h⟩,e0.aQ.fresh (Yl _),λy c h=>?_,λp hp=>absurd (show p∈([]:List (Addr×Obj))from hp) (by simp),e0.aQ.kept hk,?_⟩
 ·show name_of_addr x.apart (Vq h1) (Vq h2)
 ·have hy:scope.names.lookup y=some .cell\/scope.names.lookup y=some .free:=hy
  rcases hy with hy|hy
  ·show qJ hy
  ·show absurd rfl (S.IQ _ (Vq hy))
 ·show XN (x.above y c (Vq h))
 ·have hi:i<vs.length:=by
   ext start h2;by_cases hi:i<vs.length
   ·show hi
   ·rw[YE (by simpa using hi)]at h2
    rw[List.getElem?_replicate]at h2;split at h2<;>cases h2
  have ha:vs[i]? = some v:=by
   ext start h2;rw[Yp (by simpa using hi),Yx]at h2;cases e:vs[i]? with
   |none=>rw[e]at h2;cases h2
   |some a=>rw[e]at h2;cases h2;rfl
  obtain⟨u,hu,rv⟩:=r.get ha;have hp:ps[i]? = some y:=by
   rw[←S.pre,XJ 1e0];show h1
  have ndP:ps.Nodup:=by rw[←S.pre];show S.nd.sublist (List.take_sublist _ _)
  show⟨u,rv,?_⟩;rcases S.par y (YH hp)with k|k
  ·show .inl ⟨k,l7 ndP hp hu k⟩
  ·obtain⟨c,e⟩:=qJ (n:=s.heap.objs.size+1) k
   show .inr ⟨.inl k,c,e,?_⟩;have q:=x.cell y c e;rw[l9 ndP hp hu (by change scope.names.lookup y≠_;rw[k];decide)]at q;show q
 ·show e0.aQ.fresh (XN (x.above y c (Vq h)))
 ·ext start
  change _=N.length;rw[Yf,Yj,List.length_replicate];lia
theorem O1{CX:DN}{P:YF}{w:World}{K:W.Frag}{mg:2e5}{base:Heap}{k:Nat}{f:Addr}{name qual:Str}{params:Arguments}{body:List Stmt}{scope:Scope}{dV kV doc pm cdv ct oc:Value}{an od:Option Addr}
  {osl:Array (Option Value)} {N ps:4e3} {sp:Sp} (lk:K.lookup f=some ⟨oc,od,.func (W.fnOf name qual params body scope dV kV doc pm an cdv ct),osl⟩) (kj:W.codeIn K cdv qual=true) (S:aJ N ps scope)
  (len:∀vs H Q E,sp vs H Q E->vs.length=ps.length)
  (fB:∀(A:Around)(outer:List Env)(s:Shared)(H:Hp)(vs:List V)(Q:VK)(E:XK),b9 k (A.deeper (envOfC qual scope s.heap.objs.size f cdv))->sp vs H Q E->
   ∃t,kT (j5 CX P w K mg base N qual scope f cdv A outer s H E) body t/\t {nx:=λ_ H'=>Q .aF H',rt:=Q} (start N vs) H):
  fq P w K mg base CX (k+1) f (W.fnOf name qual params body scope dV kV doc pm an cdv ct) ps sp:=by
 show⟨len,λA outer s H args us vs Q E hr e0 hb r LD=>?_⟩;have hl:=len _ _ _ _ LD;have KX:K.In s.heap:=e0.mod.S8.keeps λb o e=>(e0.bs b o e).1;have lim:s.heap.NoLimit:=e0.mod.nolimit.keeps λb o e=>(e0.bs b o e).1;have Ou:∀y∈ps.zip us,scope.names.lookup y.1=some .local\/(scope.names.lookup y.1=some .cell/\((cellsFrom (s.heap.objs.size+1) scope.names []).lookup y.1).isSome=true):=λ⟨n,v⟩ hy=>by
  rcases S.par n (Yci hy).1 with q|q
  ·show .inl q
  ·show .inr ⟨q,W.cellsFrom_some _ _ _ (.inl q)⟩
 show codeAny_call_function hr.depth (KX _ _ lk) rfl S.co S.gen rfl (W.codeRec_of KX kj) (hb _ _ _ _ ?_);show wpAny_newFunctionEnv_cells S.kind Ou λenv he s1 x=>?_;subst he;show⟨lim.keeps x.toInCall.keep,codeAny_func ?_⟩;obtain⟨t,ht,hq⟩:=fB A outer s H vs Q E (hr.deeper _) LD;have I:Inv (j5 CX P w K mg base N qual scope f cdv A outer s H E) [] (start N vs) H s1:=yq S hr.hd e0 hl r x;show Xo (ht [] s1 (start N vs) H _ I hq) (λfl s' hs=>?_) λe s' hs=>hs;have fin:∀{σ':St}{H':Hp}{v:V}{u:Value},Inv (j5 CX P w K mg base N qual scope f cdv A outer s H E) [] σ' H' s'->RelV v u->Q v H'->CE outer P w H s Q u s':=
  λ{σ' H' v u} J rv q=>⟨v,H',J.os,J.bare,J.base,J.aQ,rv,q⟩
 cases fl with
 |ret u=>
  obtain⟨v,σ',H',J,rv,q⟩:=hs;show fin J rv q
 |next=>
  obtain⟨σ',H',J,q⟩:=hs;show fin (v:=V.aF) (u:=Xf) J rfl q
 |brk=>
  obtain⟨_,_,_,q⟩:=hs;show VD q
 |cont=>
  obtain⟨_,_,_,q⟩:=hs;show VD q
section
variable{X:Cx}{x:Str}{p pos:Pos}{e:Expr}{es:3e4}{t:TA}{id T:String}{r:List V->Hp->VK->Prop}
noncomputable def Sf (r:List V->Hp->VK->Prop)(t:TA):TE:=λσ H Q=>t σ H λvs H1=>r vs H1 Q
theorem jC(hc:cM X (.builtin id) r)(hg:Gl X x)(hm:X.mg x=none)(hv:XF x=some (.builtin id))(ha:PA X 4e4 t)(hn:x≠"__name__":=by decide)(iJ:3e2:=by decide)
  (he:1e4:=by rfl) (cE:2e4:=by rfl):PE X 7e2 (Sf r t):=by
 intro pins s σ H Q I h;show WD (FK I hg hm hv ?_ hn iJ);show UX (bS (ha pos pins s σ H _ I h) λus s1 ⟨vs,H1,I1,r1,q1⟩=>hc pins s1 σ H1 vs us Q I1 r1 q1) he cE
theorem lB(hc:cM X (.type T) r)(hg:Gl X x)(hm:X.mg x=none)(hv:XF x=some (.type T))(ha:PA X 4e4 t)(hn:x≠"__name__":=by decide)(iJ:3e2:=by decide)
  (he:1e4:=by rfl) (cE:2e4:=by rfl):PE X 7e2 (Sf r t):=by
 intro pins s σ H Q I h;show WD (FK I hg hm hv ?_ hn iJ);show XB (bS (ha pos pins s σ H _ I h) λus s1 ⟨vs,H1,I1,r1,q1⟩=>hc pins s1 σ H1 vs us Q I1 r1 q1) he cE
end
end L2
namespace HT
open PySem PyProof.Rows
section
variable{prog:YF}{w:World}{A:Around}{E:1e1}{s:Shared}
theorem FF{t b:Addr}{vs ws:2e9}{Q:1e1}(ht:IsTup s.heap t vs.toArray)(hb:IsTup s.heap b ws.toArray)(hv:vs≠[])
  (h1:ws=[]->Q (.ref t) s) (h2:ws≠[]->Q 5e1 {s with heap:=s.heap.push {cls:=.type "tuple",data:=.seq (vs++ws).toArray}})
  (hsz:vs.length+ws.length<=YA):wpAny 1e5 A (Uc .Add (.ref t) (.ref b)) Q E s:=by
 obtain⟨⟨cls,dd,data,sl⟩,ho,hc,n,hd⟩:=id ht;obtain⟨⟨FC,zB,data2,rC⟩,qe,rH,n2,hd2⟩:=id hb;simp only at hc hd rH hd2;subst hc hd rH hd2;have e:vs.toArray++ws.toArray=(vs++ws).toArray:=by simp
 by_cases hw:ws=[]
 ·show RB ⟨_,ho,rfl⟩ ⟨_,qe,rfl⟩ Yca seq_tuple_add UI Ut (Uh _ _)
   (tuple_addW1 t b vs.toArray ws.toArray n n2 dd zB sl rC (by simpa using hv) (by simp[hw])) ⟨ho,qe,h1 hw⟩
 ·show RB ⟨_,ho,rfl⟩ ⟨_,qe,rfl⟩ Yca seq_tuple_add UI Ut (Uh _ _)
   (tuple_addW2 t b vs.toArray ws.toArray n n2 dd zB sl rC (by simpa using hv) (by simpa using hw) (by rw[Yr,Yr];show hsz)) ⟨ho,qe,?_⟩
  rw[e];show h2 hw
noncomputable def bI (n d:Nat):Option Int->Nat
 |none=>d
 |some v=>if v<0 then(v+(n:Int)).toNat else min v.toNat n
theorem Ih(n d:Nat)(hd:d<=n)(o:Option Int):bI n d o<=n:=by
 cases o with
 |none=>show hd
 |some v=>
  change(if v<0 then(v+(n:Int)).toNat else min v.toNat n)<=n;by_cases hv:v<0
  ·rw[if_pos hv];lia
  ·rw[if_neg hv];show Nat.min_le_right _ _
theorem wO(v:Int)(n d:Nat):(if v<0 then max (v+(n:Int)) 0 else min v (n:Int))=((bI n d (some v):Nat):Int):=by
 change(if v<0 then max (v+(n:Int)) 0 else min v (n:Int))=(((if v<0 then(v+(n:Int)).toNat else min v.toNat n):Nat):Int)
 by_cases hv:v<0
 ·simp only[if_pos hv];lia
 ·simp only[if_neg hv];lia
theorem uN(lo hi:Option Int)(n:Nat):V6 lo hi 1 (n:Int)=(((bI n 0 lo:Nat):Int),((bI n n hi:Nat):Int)):=by
 have h1:¬((1:Int)<0):=by lia
 ext V6;simp only[h1,if_false];show Prod.ext ?_ ?_
 ·cases lo with
  |none=>rfl
  |some v=>show wO v n 0
 ·cases hi with
  |none=>rfl
  |some v=>show wO v n n
theorem sN(i j:Nat):Vg (i:Int) (j:Int) 1=j-i:=by
 ext Vg;have h1:(1:Int)>0:=by lia
 simp only[h1,if_true,Int.ediv_one];split<;>lia
theorem jn{v:Value}{o:Option Int}{Q:Option Int->Shared->Prop}(p:IsPart v o)(h:Q o s):wpAny 1e5 A (Builtin.Slice.slicePartIndex v) Q E s:=by
 cases p with
 |none=>show slicePart_none h
 |int i t=>show slicePart_int h
theorem et{sl:Addr}{vl vu:Value}{lo hi:Option Int}{n:Nat}{Q:Int×Int×Nat->Shared->Prop}(hs:s.heap.IsSliceOf sl vl vu .none)(pl:IsPart vl lo)(pu:IsPart vu hi)
  (h:Q (((bI n 0 lo:Nat):Int),1,bI n n hi-bI n 0 lo) s):wpAny 1e5 A (Yat (.ref sl) (pure (n:Int))) Q E s:=by
 obtain⟨os,JD,QH,JO⟩:=id hs;unfold Yat Builtin.Slice.sliceFields;show Ya (Ya (Rx JD JO (x:=vl) rfl (Ya (Rx JD JO (x:=vu) rfl (Ya (Rx JD JO (x:=.none) rfl (Yc ?_)))))));show Ya (slicePart_none ?_);change wpAny _ _ (if((1:Int)==0)=true then _ else _) _ _ s;rw[if_neg 1e7];show Ya (jn pl (Ya (jn pu (Ya (Yc ?_)))));change wpAny _ _ (match V6 lo hi 1 (n:Int)with|(lo,hi)=>pure (lo,(1:Int),Vg lo hi 1)) _ _ s;rw[uN lo hi n];change wpAny _ _ (pure (((bI n 0 lo:Nat):Int),(1:Int),Vg ((bI n 0 lo:Nat):Int) ((bI n n hi:Nat):Int) 1)) _ _ s;rw[sN];show Yc h
theorem AF(xs:Array Value)(i k:Nat):((YB k).filterMap λ(m:Nat)=>xs[((i:Int)+(m:Int)*1).toNat]?).toArray=((xs.toList.drop i).take k).toArray:=by
 have e:(λ(m:Nat)=>xs[((i:Int)+(m:Int)*1).toNat]?)=λm=>xs[i+m]?:=by
  funext m
  have:((i:Int)+(m:Int)*1).toNat=i+m:=by lia
  rw[this]
 rw[e];have:=pick_run xs i k;rw[List.filterMap_map]at this;have e2:((λx=>xs[x]?)∘λx=>i+x)=λm=>xs[i+m]?:=rfl;rw[e2]at this;rw[this]
theorem gL{t sl:Addr}{items:Array Value}{vl vu:Value}{lo hi:Option Int}{Q:1e1}(ht:IsTup s.heap t items)(hs:s.heap.IsSliceOf sl vl vu .none)(pl:IsPart vl lo)(pu:IsPart vu hi)
  (hw:¬(bI items.size 0 lo=0/\bI items.size items.size hi=items.size))
  (h:Q 5e1 {s with heap:=s.heap.push {cls:=.type "tuple",data:=.seq ((items.toList.drop (bI items.size 0 lo)).take (bI items.size items.size hi-bI items.size 0 lo)).toArray}})
  (hsz:items.size<=YA):wpAny 1e5 A (Hw (.ref t) (.ref sl)) Q E s:=by
 have wy:sizeOk (.seq ((items.toList.drop (bI items.size 0 lo)).take (bI items.size items.size hi-bI items.size 0 lo)).toArray):=by
  change((items.toList.drop (bI items.size 0 lo)).take (bI items.size items.size hi-bI items.size 0 lo)).toArray.size<=YA;rw[Yr,Xv,Xw,Xs];lia
 have hj:bI items.size items.size hi<=items.size:=Ih _ _ (Yl _) hi;obtain⟨os,JD,QH,JO⟩:=id hs;have Zh:s.TypeIs (.ref sl) "slice":=⟨os,JD,QH⟩
 ext Hw;try with_reducible show Xi ?_
 first|show Ya (Yc ?_)|skip
 show Ya (wpAny_sequenceKey ht.typeIs 1e7 ?_);show Ya (Xp (name:=WL "__getitem__") ht.typeIs XC
  (Xg XC ht.typeIs entry_tuple_getitem ?_ (args_tuple_getitem _ _)))
 change wpAny _ _ (V4 (.ref t)>>=_) _ _ s;show Ya (tupleItemsOf_ ht ?_);show Ya (Vb Zh ?_);rw[if_pos 1e7];show Ya (et hs pl pu ?_);have E7:¬((((bI items.size 0 lo:Nat):Int)==0&&(1:Int)==1&&(bI items.size items.size hi-bI items.size 0 lo)==items.size)=true):=by
  intro q;rw[YI,YI]at q;have q1:((bI items.size 0 lo:Nat):Int)=0:=eq_of_beq q.1.1;have q2:bI items.size items.size hi-bI items.size 0 lo=items.size:=eq_of_beq q.2;show hw ⟨by lia,by lia⟩
 change wpAny _ _ (if(((bI items.size 0 lo:Nat):Int)==0&&(1:Int)==1&&(bI items.size items.size hi-bI items.size 0 lo)==items.size)=true then _ else _) _ _ s;rw[if_neg E7,AF];first
  |show Ya (m:=Vm _) (Y6 (Yc ⟨_,rfl,Yc h⟩) wy)
  |show Ya (m:=Vm _) (Y6 (Ya (Yc (Yc ⟨_,rfl,Yc h⟩))) wy)
  |show Ya (Ya (m:=Vm _) (Y6 (Yc (Yc ⟨_,rfl,Yc h⟩)) wy))
  |show Ya (Ya (m:=Vm _) (Y6 (Yc ⟨_,rfl,Yc h⟩) wy))
end
end HT
namespace L2
open PySem PySem.Spec PyProof.Rows
abbrev TO:=St->Hp->(Option Int->Hp->Prop)->Prop
def PO(X:Cx)(e:Option Expr)(t:TO):Prop:=
 ∀(pins:1e8)(s:Shared)(σ:St)(H:Hp)(Q:Option Int->Hp->Prop),Inv X pins σ H s->t σ H Q->
  wpAny 2e2 X.A (evalPart e X.env) (λu s'=>∃o H',Inv X pins σ H' s'/\IsPart u o/\Q o H') X.xe s
noncomputable def DT:TO:=λ_ H Q=>Q none H
noncomputable def ML (t:TE):TO:=λσ H Q=>t σ H λx H1=>∃i,x=.int i/\Q (some i) H1
section
variable{X:Cx}{e:Expr}{te:TE}{lo hi:Option Expr}{tl th:TO}{pos p2:Pos}
theorem Eo:PO X none DT:=by
 intro pins s σ H Q I h;rw[evalPart_none];show Yc ⟨none,H,I,.none,h⟩
theorem En(h:PE X e te):PO X (some e) (ML te):=by
 intro pins s σ H Q I hw;rw[evalPart_some];show bS (h pins s σ H _ I hw) λu s1 h_=>?_;obtain⟨x,H1,I1,r1,q1⟩:=h_;obtain⟨i,rfl,q⟩:=q1;obtain⟨t,rfl⟩:=r1;show⟨some i,H1,I1,.int i t,q⟩
def DI(X:Cx)(r:V->Option Int->Option Int->Hp->VK->Prop):Prop:=
 ∀(pins:1e8)(s:Shared)(σ:St)(H:Hp)(x:V)(v vl vu:Value)(lo hi:Option Int)(sl:Addr)(Q:VK),Inv X pins σ H s->RelV x v->s.heap.IsSliceOf sl vl vu .none->IsPart vl lo->IsPart vu hi->r x lo hi H Q->
  ∃T id,typeLookup (.type T) "__getitem__"=pure (some (.builtin id))/\s.TypeIs v T/\wpAny 2e2 X.A (Hw v (.ref sl)) (EP X pins σ Q) X.xe s
theorem DI.or{r r':V->Option Int->Option Int->Hp->VK->Prop}(h:DI X r)(h':DI X r'):DI X (λx lo hi H Q=>r x lo hi H Q\/r' x lo hi H Q):=by
 intro pins s σ H x v vl vu lo hi sl Q I rx hs pl pu q;rcases q with q|q
 ·show h pins s σ H x v vl vu lo hi sl Q I rx hs pl pu q
 ·show h' pins s σ H x v vl vu lo hi sl Q I rx hs pl pu q
noncomputable def tSl (r:V->Option Int->Option Int->Hp->VK->Prop)(te:TE)(tl th:TO):TE:=λσ H Q=>te σ H λx H1=>tl σ H1 λl H2=>th σ H2 λu H3=>r x l u H3 Q
theorem AK{r:V->Option Int->Option Int->Hp->VK->Prop}(hr:DI X r)(he:PE X e te)(hl:PO X lo tl)(hu:PO X hi th):PE X (.Subscript e (.Slice lo hi none p2) pos) (tSl r te tl th):=by
 intro pins s σ H Q I h;show Subscript_ (bS (he pins s σ H _ I h) λv s1 h_=>?_);obtain⟨x,H1,I1,r1,q1⟩:=h_;show wpAny_Slice (bS (hl pins s1 σ H1 _ I1 q1) λvl s2 ⟨l,H2,I2,pl,q2⟩=>bS (hu pins s2 σ H2 _ I2 q2) λvu s3 h_=>?_);obtain⟨u,H3,I3,pu,q3⟩:=h_;rw[evalPart_none];show Yc ?_;have I4:Inv X pins σ H3 {s3 with heap:=s3.heap.push {cls:=.type "slice",data:=.fields #[vl,vu,.none]}}:=I3.kept (t':=s3.toks) λb ob q=>Yb _ q;obtain⟨T,id,hT,ht,hg⟩:=hr pins {s3 with heap:=s3.heap.push {cls:=.type "slice",data:=.fields #[vl,vu,.none]}} σ H3 x v vl vu l u s3.heap.objs.size Q I4 r1 (Heap.IsSliceOf.new ..) pl pu q3;change wpAny 2e2 X.A (subscriptTail e (.Slice lo hi none p2) v (.ref s3.heap.objs.size)) (EP X pins σ Q) X.xe {s3 with heap:=s3.heap.push {cls:=.type "slice",data:=.fields #[vl,vu,.none]}};show tail_any (ops:=[.ref s3.heap.objs.size,v]) ht hT hg (by with_unfolding_all rfl)
def qC(xs:List V)(lo hi:Option Int):List V:=(xs.drop (HT.bI xs.length 0 lo)).take (HT.bI xs.length xs.length hi-HT.bI xs.length 0 lo)
theorem Zdy(xs:List V)(lo hi:Option Int):(qC xs lo hi).length<=xs.length:=by
 ext qC;rw[Xv,Xw];lia
def Sv(K:W.Frag):V->Option Int->Option Int->Hp->VK->Prop:=λx lo hi H Q=>∃a xs,x=.ref a/\kh K H a xs/\
 ¬(HT.bI xs.length 0 lo=0/\HT.bI xs.length xs.length hi=xs.length)/\∀p,H p=none->Q (.ref p) (upd H p (.tup (qC xs lo hi)))
theorem Ic:DI X (Sv X.K):=by
 intro pins s σ H x v vl vu lo hi sl Q I rx hs pl pu h;obtain⟨a,xs,rfl,hx,hw,q⟩:=h;cases rx;obtain⟨aw,r,ht,hz⟩:=I.tuple hx;have hlen:aw.toArray.size=xs.length:=by rw[Yr];show r.length.symm
 show⟨"tuple",_,XC.lookup,ht.typeIs,?_⟩;show HT.gL ht hs pl pu (by rw[hlen];show hw) ?_ (by rw[hlen];show hz);rw[hlen];show⟨.ref s.heap.objs.size,_,I.laid (t':=s.toks) (o:=.tup (qC xs lo hi)) (λb ob q=>Yb _ q) (Yl _) ?_,rfl,q _ (I.aQ.fresh (Yl _))⟩;show⟨Xb (Zdy xs lo hi) hz,_,(r.drop (HT.bI xs.length 0 lo)).take (HT.bI xs.length xs.length hi-HT.bI xs.length 0 lo),IsTup.new _ _⟩
def Nk(K:W.Frag):R2:=λx y H Q=>∃a b xs ys,x=.ref a/\y=.ref b/\kh K H a xs/\kh K H b ys/\xs≠[]/\xs.length+ys.length<=YA/\
 (ys=[]->Q 9e8 H)/\(ys≠[]->∀p,H p=none->Q (.ref p) (upd H p (.tup (xs++ys))))
theorem Vals.iW{xs:List V}{us:2e9}(r:Vals xs us):us=[]↔xs=[]:=by
 cases r with
 |nil=>simp
 |cons _ _=>simp
theorem Ey:gf X (Uc .Add) (Nk X.K):=by
 sleep 7;obtain⟨a,b,xs,ys,rfl,rfl,ha,hb,hx,hz,q1,q2⟩:=h;cases rx;cases ry;obtain⟨aw,r1,p1,_⟩:=I.tuple ha;obtain⟨ic,r2,p2,_⟩:=I.tuple hb;show HT.FF p1 p2 (λz=>hx (r1.iW.mp z)) (λz=>⟨.ref a,H,I,rfl,q1 (r2.iW.mp z)⟩) (λz=>?_) (by rw[←r1.length,←r2.length];show hz);show⟨.ref s.heap.objs.size,_,I.laid (t':=s.toks) (o:=.tup (xs++ys)) (λb ob q=>Yb _ q) (Yl _) ?_,rfl,q2 (λw=>z (r2.iW.mpr w)) _ (I.aQ.fresh (Yl _))⟩;show⟨by rw[Yf];show hz,_,r1.append r2,IsTup.new _ _⟩
end
noncomputable def kI (n:Nat)(i:Int):Option Nat:=if 0<=i then(if i<n then some i.toNat else none)else if -(n:Int)<=i then some (i+n).toNat else none
def gX{α:Type}(xs:List α)(i:Int):Option α:=(kI xs.length i).bind λj=>xs[j]?
theorem wm{n:Nat}{i:Int}{j:Nat}(h:kI n i=some j):P1 i n=some j/\j<n/\-(n:Int)<=i/\i<n:=by
 ext kI h;by_cases h0:0<=i
 ·rw[if_pos h0]at h
  by_cases h1:i<n
  ·rw[if_pos h1]at h
   have e:i.toNat=j:=YR h;show⟨by rw[seqIndex_of h0 h1,e],by lia,by lia,h1⟩
  ·rw[if_neg h1]at h;cases h
 ·rw[if_neg h0]at h
  by_cases h1:-(n:Int)<=i
  ·rw[if_pos h1]at h
   have e:(i+n).toNat=j:=YR h;show⟨by rw[seqIndex_neg 1e0 h1,e],by lia,h1,by lia⟩
  ·rw[if_neg h1]at h;cases h
theorem n9{α:Type}{xs:List α}{i:Int}{v:α}(h:gX xs i=some v):∃j,P1 i xs.length=some j/\xs[j]? = some v/\j<xs.length/\-(xs.length:Int)<=i/\i<xs.length:=by
 ext gX h;cases e:kI xs.length i with
 |none=>rw[e]at h;cases h
 |some j=>
  rw[e]at h;obtain⟨h1,h2,h3,h4⟩:=wm e;show⟨j,h1,h,h2,h3,h4⟩
def jb(b:Expr):Prop:=∀o i,subscripted b false o i=operate [o,i] (Hw o i)
def zg(X:Cx)(r:R2):Prop:=
 ∀(value slice:Expr)(pins:1e8)(s:Shared)(σ:St)(H:Hp)(x y:V)(v u:Value)(Q:VK),Inv X pins σ H s->RelV x v->RelV y u->r x y H Q->
  subscripted slice false v u=operate [v,u] (Hw v u)->wpAny 2e2 X.A (subscriptTail value slice v u) (EP X pins σ Q) X.xe s
def MtR(X:Cx)(id:String)(r:V->List V->Hp->VK->Prop):Prop:=
 ∀(pins:1e8)(s:Shared)(σ:St)(H:Hp)(x:V)(xs:List V)(v:Value)(us:2e9)(Q:VK),Inv X pins σ H s->RelV x v->Vals xs us->r x xs H Q->
  wpAny 2e2 X.A (call (.builtin id) (v::us)) (EP X pins σ Q) X.xe s
section
variable{X:Cx}{a b:Expr}{ta tb:TE}{pos:Pos}
theorem zg.or{r r':R2}(h:zg X r)(h':zg X r'):zg X (λx y H Q=>r x y H Q\/r' x y H Q):=by
 intro value slice pins s σ H x y v u Q I rx ry q hs;rcases q with q|q
 ·show h value slice pins s σ H x y v u Q I rx ry q hs
 ·show h' value slice pins s σ H x y v u Q I rx ry q hs
theorem Nt{r:R2}(hr:zg X r)(ha:PE X a ta)(hb:PE X b tb)(hs:jb b):PE X (.Subscript a b pos) (MM r ta tb):=by
 intro pins s σ H Q I h;show Subscript_ (Kt ha hb I h λv u s2 x y H2 I2 rx ry q=>hr a b pins s2 σ H2 x y v u Q I2 rx ry q (hs _ _))
def Ni(K:W.Frag):R2:=λx y H Q=>∃p xs i v,x=.ref p/\y=.int i/\fH K H p xs/\gX xs i=some v/\Q v H
def Ng(K:W.Frag):R2:=λx y H Q=>∃p xs i v,x=.ref p/\y=.int i/\kh K H p xs/\gX xs i=some v/\Q v H
def Nh:R2:=λx y H Q=>∃z i c,x=.str z/\y=.int i/\z.length<=YA/\gX z.cps.toList i=some c/\Q (.str ⟨#[c]⟩) H
theorem EY:zg X (Ni X.K):=by
 intro value slice pins s σ H x y v u Q I rx ry h hs;obtain⟨p,xs,i,z,rfl,rfl,hq,he,q⟩:=h;cases rx;obtain⟨t,rfl⟩:=ry;obtain⟨aw,r,pl,hz⟩:=I.list hq;obtain⟨j,h1,h2,h3,h4,h5⟩:=n9 he;obtain⟨w,ew,D5⟩:=r.get h2;have hl:=r.length;have hn:=ib;have fin:EP X pins σ Q w s:=⟨z,H,I,D5,q⟩
 by_cases h0:0<=i
 ·have hj:i.toNat=j:=by
   rw[seqIndex_of h0 h5]at h1;show YR h1
  show item_listR pl.isList h0 1e0 (by rw[hj];simpa using ew) fin hs
 ·have hj:(i+(aw.toArray.size:Int)).toNat=j:=by
   rw[seqIndex_neg 1e0 h4]at h1;rw[Yr,←hl];show YR h1
  show subscriptTail_builtinR (x:=w) pl.isList.typeIs slot_list_getitem.lookup
   (wpAny_getItem_list_neg (Q:=λr s'=>r=w/\EP X pins σ Q r s') pl.isList 1e0 (by rw[Yr]<;>lia) 1e0 (by rw[hj];simpa using ew) ⟨rfl,fin⟩) hs
theorem Jo:zg X (Ng X.K):=by
 intro value slice pins s σ H x y v u Q I rx ry h hs;obtain⟨p,xs,i,z,rfl,rfl,hq,he,q⟩:=h;cases rx;obtain⟨t,rfl⟩:=ry;obtain⟨aw,r,pl,hz⟩:=I.tuple hq;obtain⟨j,h1,h2,h3,h4,h5⟩:=n9 he;obtain⟨w,ew,D5⟩:=r.get h2;have hl:=r.length;have hn:=ib;have fin:EP X pins σ Q w s:=⟨z,H,I,D5,q⟩
 show subscriptTail_builtinR (x:=w) pl.typeIs slot_tuple_getitem.lookup
  (getItem_tuple (j:=j) (Q:=λr s'=>r=w/\EP X pins σ Q r s') pl 1e0 1e0 (by rw[Yr,←hl];show h1) (by simpa using ew) ⟨rfl,fin⟩) hs
theorem Jq:zg X Nh:=by
 intro value slice pins s σ H x y v u Q I rx ry h hs;obtain⟨z,i,c,rfl,rfl,hz,he,q⟩:=h;obtain⟨t,rfl⟩:=rx;obtain⟨t',rfl⟩:=ry;obtain⟨j,h1,h2,h3,h4,h5⟩:=n9 he;have hl:z.cps.toList.length=z.length:=by simp[Str.length]
 rw[hl]at h1 h4 h5;have hn:=ib;show tail_any (typeIs_str s z t) slot_str_getitem.lookup (getItem_str (c:=c) (by
  have e1:decide (i < -(2^63:Int))=false:=decide_eq_false 1e0;have e2:decide (i≥2^63)=false:=decide_eq_false 1e0;rw[e1,e2,Bool.or_false]) (by rw[h1];simpa using h2) ⟨.str ⟨#[c]⟩,H,I.tok _,⟨_,rfl⟩,q⟩) hs
def Qp(K:W.Frag):R2:=λx y H Q=>Ni K x y H Q\/Ng K x y H Q\/Nh x y H Q
theorem By:zg X (Qp X.K):=EY.or (Jo.or Jq)
theorem tp(aw:2e9)(n j:Nat)(u:Value):XM (·.setIfInBounds j u) {cls:=.type "list",data:=.seq aw.toArray n}={cls:=.type "list",data:=.seq (aw.set j u).toArray n}:=by
 simp[XM]
theorem Inv.lst{pins:1e8}{σ:St}{H:Hp}{s:Shared}{p:Addr}{xs:List V}(I:2e0)(h:H p=some (.lst xs)):
  ∃(aw:2e9)(n:Nat),Vals xs aw/\s.heap.get? p=some {cls:=.type "list",data:=.seq aw.toArray n}/\xs.length<=sizeLine:=by
 obtain⟨z,aw,n,r,e⟩:=I.aQ p _ h;show⟨aw,n,r,e,z⟩
theorem Inv.I9{pins:1e8}{σ:St}{H:Hp}{s:Shared}{p:Addr}{xs ys:List V}{aw its':2e9}{n n':Nat}{f:Obj->Obj}(I:2e0)(h:H p=some (.lst xs))
  (ho:s.heap.get? p=some {cls:=.type "list",data:=.seq aw.toArray n}) (hf:f {cls:=.type "list",data:=.seq aw.toArray n}={cls:=.type "list",data:=.seq its'.toArray n'}) (r:Vals ys its') (hz:ys.length<=YA) (t:Nat):
  Inv X pins σ (upd H p (.lst ys)) {s with heap:=s.heap.update p f,toks:=t}:=by
 have e:(s.heap.update p f).get? p=some {cls:=.type "list",data:=.seq its'.toArray n'}:=by
  rw[Xk f ho (by rw[hf]<;>rfl),hf]
 show I.write (x:=p) (e:=p) (by rw[h];trivial) 9e6 (λb u hb q=>(XZ _ _ (X5 hb)).trans q) ⟨_,e⟩ ?_;show⟨hz,its',n',r,e⟩
def Nd:V->V->V->Hp->(Hp->Prop)->Prop:=λo i v H Q=>∃p xs k j,o=.ref p/\i=.int k/\H p=some (.lst xs)/\kI xs.length k=some j/\Q (upd H p (.lst (xs.set j v)))
theorem set_list:Qc X Nd:=by
 intro pins s σ H o i v ov iv u Q I ro ri rv h;obtain⟨p,xs,k,j,rfl,rfl,hp,hj,q⟩:=h;cases ro;obtain⟨t,rfl⟩:=ri;obtain⟨aw,n,r,ho,hz⟩:=I.lst hp;obtain⟨h1,h2,h3,h4⟩:=wm hj;have hl:=r.length;have hn:=ib;have I':Inv X pins σ (upd H p (.lst (xs.set j v))) {s with heap:=s.heap.update p (XM (·.setIfInBounds j u))}:=
  I.I9 hp ho (tp aw n j u) (r.set rv j) (by rw[Uu];show hz) s.toks
 by_cases h0:0<=k
 ·have hk:k.toNat=j:=by
   rw[seqIndex_of h0 h4]at h1;show YR h1
  show W.ki_setAt ho h0 1e0 (by rw[Yr,←hl];show h4) (by rw[hk];show⟨_,I',q⟩)
 ·have hk:(k+(aw.toArray.size:Int)).toNat=j:=by
   rw[seqIndex_neg 1e0 h3]at h1;rw[Yr,←hl];show YR h1
  show W.ki_setBack ho 1e0 (by rw[Yr,←hl];show h3) 1e0 (by rw[hk];show⟨_,I',q⟩)
theorem mF(lo hi:Option Int)(n:Nat):(UK lo hi none n).1=((HT.bI n 0 lo:Nat):Int)/\(UK lo hi none n).2.1=((HT.bI n n hi:Nat):Int)/\(UK lo hi none n).2.2=1:=by
 show⟨?_,?_,rfl⟩
 ·cases lo with
  |none=>simp[UK,HT.bI]
  |some i=>
   simp only[UK,HT.bI,Option.getD_none,show(1:Int)>0 by decide,if_true];by_cases h:i<0
   ·simp only[h,if_true]<;>lia
   ·simp only[h,if_false]<;>lia
 ·cases hi with
  |none=>simp[UK,HT.bI]
  |some i=>
   simp only[UK,HT.bI,Option.getD_none,show(1:Int)>0 by decide,if_true];by_cases h:i<0
   ·simp only[h,if_true]<;>lia
   ·simp only[h,if_false]<;>lia
theorem ky(aw:2e9)(lo hi:Option Int):slicePick aw.toArray lo hi none=((aw.drop (HT.bI aw.length 0 lo)).take (HT.bI aw.length aw.length hi-HT.bI aw.length 0 lo)).toArray:=by
 obtain⟨h1,h2,h3⟩:=mF lo hi aw.toArray.size;ext slicePick;rw[h1,h2,h3];simp only[sliceRange_one,pick_run,Yr]<;>rfl
def Sx(K:W.Frag):V->Option Int->Option Int->Hp->VK->Prop:=λx lo hi H Q=>∃a xs,x=.ref a/\fH K H a xs/\∀p,H p=none->Q (.ref p) (upd H p (.lst (qC xs lo hi)))
theorem DY:DI X (Sx X.K):=by
 intro pins s σ H x v vl vu lo hi sl Q I rx hs pl pu h;obtain⟨a,xs,rfl,hx,q⟩:=h;cases rx;obtain⟨aw,r,ht,hz⟩:=I.list hx;have hlen:=r.length;show⟨"list",_,slot_list_getitem.lookup,ht.isList.typeIs,?_⟩;show wpAny_getItem_list_slice ht.isList hs pl pu .none 2e6 ?_ (by rw[Yr]<;>lia);rw[ky,←hlen];show⟨.ref s.heap.objs.size,_,I.laid (t':=s.toks) (o:=.lst (qC xs lo hi)) (λb ob q=>Yb _ q) (Yl _) ?_,rfl,q _ (I.aQ.fresh (Yl _))⟩;show⟨Xb (Zdy xs lo hi) hz,_,0,(r.drop (HT.bI xs.length 0 lo)).take (HT.bI xs.length xs.length hi-HT.bI xs.length 0 lo),Yg _ rfl⟩
theorem cM.or{f:Value}{r r':List V->Hp->VK->Prop}(h:cM X f r)(h':cM X f r'):cM X f (λxs H Q=>r xs H Q\/r' xs H Q):=by
 intro pins s σ H xs us Q I rs q;rcases q with q|q
 ·show h pins s σ H xs us Q I rs q
 ·show h' pins s σ H xs us Q I rs q
theorem nX:cM X (.type "list") (λxs H Q=>∃p ys,xs=[.ref p]/\(fH X.K H p ys\/kh X.K H p ys)/\∀l,H l=none->Q (.ref l) (upd H l (.lst ys))):=by
 intro pins s σ H xs us Q I r h;obtain⟨p,ys,rfl,hq,q⟩:=h;obtain⟨u,rfl,rx⟩:=vals1 r;cases rx;have fin:∀(aw:2e9),Vals ys aw->ys.length<=YA->∀(h':Heap)(c':Nat),(∀b o',s.heap.get? b=some o'->h'.get? b=some o')->
   h'.get? s.heap.objs.size=some {cls:=.type "list",dict:=none,data:=.seq aw.toArray c',slots:=#[]}->EP X pins σ Q 5e1 {s with heap:=h'}:=λaw r' hz h' c' kp e=>
  ⟨.ref s.heap.objs.size,_,I.laid (t':=s.toks) kp (Yl _) (show aY X.prog X.w _ h' _ (.lst ys)from⟨hz,aw,c',r',e⟩),rfl,q _ (I.aQ.fresh (Yl _))⟩
 rcases hq with hq|hq
 ·obtain⟨aw,r',pl,hz⟩:=I.list hq
  have hlen:=r'.length;obtain⟨o,ho,hc,n,hd⟩:=pl.isList;show call_list_seq p 9e6 ho hc hd (λh' c' kp e=>fin aw r' hz h' c' kp e) (by simp only[Yr]<;>lia)
 ·obtain⟨aw,r',pl,hz⟩:=I.tuple hq
  have hlen:=r'.length;obtain⟨o,ho,hc,n,hd⟩:=pl;show call_list_seq p (.inr rfl) ho hc hd (λh' c' kp e=>fin aw r' hz h' c' kp e) (by simp only[Yr]<;>lia)
def RZ(K:W.Frag)(T:String)(x:V)(H:Hp):Prop:=match x with
 |.str _=>T="str"
 |.int _=>T="int"
 |.ref p=>(T="list"/\∃xs,fH K H p xs)\/(T="tuple"/\∃o,K.lookup p=some o/\o.cls=.type "tuple"/\o.dict=none)\/
   (T="dict"/\((∃ag,H p=some (.dK ag))\/∃ag,H p=some (.dT ag)))\/(T="set"/\∃S n,H p=some (.set S n))
 |_=>False
theorem HJ{pins:1e8}{σ:St}{H:Hp}{s:Shared}{T:String}{x:V}{v:Value}(I:2e0)(r:RelV x v)(ty:RZ X.K T x H):
  s.TypeIs v T/\∀a,v=.ref a->∃ob,s.heap.get? a=some ob/\ob.dict=none:=by
 cases x with
 |str z=>
  obtain⟨t,rfl⟩:=r;cases(show T="str" from ty);show⟨typeIs_str s z t,λ_ e=>nomatch e⟩
 |int i=>
  obtain⟨t,rfl⟩:=r;cases(show T="int" from ty);show⟨typeIs_int s i t,λ_ e=>nomatch e⟩
 |ref p=>
  cases r;rcases ty with⟨rfl,xs,hq⟩|⟨rfl,o,hk,hc,hd⟩|⟨rfl,hk⟩|⟨rfl,S,n,hk⟩
  ·obtain⟨aw,_,pl,_⟩:=I.list hq
   show⟨pl.isList.typeIs,λa e=>?_⟩;cases e;obtain⟨o,n,e,c,hd,_⟩:=pl;show⟨o,e,hd⟩
  ·show⟨⟨o,I.Ly p o hk,hc⟩,λa e=>?_⟩
   cases e;show⟨o,I.Ly _ o hk,hd⟩
  ·have z:∃o,s.heap.get? p=some o/\o.ExactDict:=by
    rcases hk with⟨ag,hk⟩|⟨ag,hk⟩
    ·obtain⟨_,_,_,_,o,_,_,e,ex,_⟩:=I.aQ p _ hk
     show⟨o,e,ex⟩
    ·obtain⟨_,_,_,_,o,_,_,e,ex,_⟩:=I.aQ p _ hk
     show⟨o,e,ex⟩
   obtain⟨o,e,ex⟩:=z;show⟨⟨o,e,ex.1⟩,λa e2=>?_⟩;cases e2;show⟨o,e,ex.2.1⟩
  ·obtain⟨o,_,_,_,e,ex,_⟩:=I.aQ p _ hk
   show⟨⟨o,e,ex.1⟩,λa e2=>?_⟩;cases e2;show⟨o,e,ex.2.1⟩
 |_=>show VD ty
noncomputable def Sg (K:W.Frag)(T:String)(r:V->List V->Hp->VK->Prop)(to:TE)(t:TA):TE:=λσ H Q=>to σ H λx H1=>RZ K T x H1/\t σ H1 λxs H2=>r x xs H2 Q
variable{o e:Expr}{es:3e4}{to:TE}{t:TA}{name:Str}{apos aV:Pos}{T id:String}{r:V->List V->Hp->VK->Prop}
theorem pC(pa:PlainAttrs T)(slot:Slot T name id)(LB:typeOf (.builtin id)=pure (.type "method_descriptor"))(hm:MtR X id r)(ho:PE X o to)(ha:PA X 4e4 t)
  (cG:Wh o name X.env (eval o X.env)=eval o X.env:=by rfl)
  (iI:((backTo aV (Yu 4e4 X.env)).all (λx=>!x.1)&&(Mp aV (Ms [] X.env)).all (λx=>x.1.isSome)
   &&decide ((e::es).length+([]:List zE).length+(if([]:List zE).isEmpty then 0 else 1)<30))=true:=by rfl)
  (cF:9e9:=by rfl) (hs:1e4:=by rfl) (gn:(backTo aV (Yu es X.env)).any (·.1)=false:=by rfl):
  PE X (.Call (.Attribute o name apos) 4e4 [] aV) (Sg X.K T r to t):=by
 intro pins s σ H Q I h;show wpAny_Call_method_late cG iI cF rfl (bS (ho pins s σ H _ I h) λv s1 h_=>?_);obtain⟨x,H1,I1,r1,ty,q1⟩:=h_;obtain⟨h1,h2⟩:=HJ I1 r1 ty;show⟨T,id,pa,slot,LB,h1,h2,?_⟩;have hA:=ha aV pins s1 σ H1 _ I1 q1;rw[hs]at hA⊢;show VI (by change(false||(backTo aV (Yu es X.env)).any (·.1))=false;rw[gn]<;>rfl) (Calls.evalArgs_plain ?_);show bS hA λus s2 ⟨vs,H2,I2,r2,q2⟩=>hm pins s2 σ H2 x vs v us Q I2 r1 r2 q2
end
def MtM(X:Cx)(id:String)(r:V->List V->Hp->VK->Prop):Prop:=
 ∀(pins:1e8)(s:Shared)(σ:St)(H:Hp)(x:V)(xs:List V)(v:Value)(us:2e9)(Q:VK),Inv X pins σ H s->RelV x v->Vals xs us->r x xs H Q->
  wpAny 2e2 X.A (call (.builtin id) (v::us)) (EP X pins σ Q) X.xe s
theorem Vals.one:∀{x:V}{us:2e9},Vals [x] us->∃u,us=[u]/\RelV x u:=by
 intro x us r;cases r with
 |cons r t=>cases t;show⟨_,rfl,r⟩
theorem Vals.eraseIdx:∀{xs:List V}{us:2e9}(i:Nat),Vals xs us->Vals (xs.eraseIdx i) (us.eraseIdx i)
 |_,_,_,.nil=>.nil
 |_,_,0,.cons _ t=>t
 |_,_,i+1,.cons r t=>.cons r (Vals.eraseIdx i t)
theorem lM{α:Type}:∀(l:List α)(i:Nat),(l.eraseIdx i).length<=l.length
 |[],_=>Yl _
 |_::_,0=>P6 _
 |_::r,i+1=>Nat.succ_le_succ (lM r i)
section
variable{X:Cx}{pins:1e8}{σ:St}{H:Hp}{s:Shared}{l b:Addr}{xs ys zs:List V}
theorem Inv.Jb{aw its':2e9}{n:Nat}{f:Array Value->Array Value}{t':Nat}(I:2e0)(hH:H l=some (.lst xs))
  (e:s.heap.get? l=some {cls:=.type "list",data:=.seq aw.toArray n}) (hf:f aw.toArray=its'.toArray) (hv:Vals ys its') (hz:ys.length<=YA):
  Inv X pins σ (upd H l (.lst ys)) {s with heap:=s.heap.update l (XM f),toks:=t'}:=by
 have q:=PySem.IsL.update e f;rw[hf]at q;show I.write (x:=l) (e:=l) (by rw[hH];show trivial) 9e6 (λb' u hb hu=>(XZ s.heap (XM f) (X5 hb)).trans hu) ⟨_,q⟩ ?_;show⟨hz,its',_,hv,q⟩
theorem Inv.S5{aw:2e9}{t':Nat}(I:2e0)(hv:Vals ys aw)(hz:ys.length<=YA):
  Inv X pins σ (upd H s.heap.objs.size (.lst ys)) {s with heap:=s.heap.push {cls:=.type "list",data:=.seq aw.toArray},toks:=t'}:=
 I.laid (λ_ _ q=>Yb _ q) (Yl _) ⟨hz,aw,0,hv,Yg _ rfl⟩
theorem Inv.fresh(I:2e0):H s.heap.objs.size=none:=I.aQ.fresh (Yl _)
theorem Inv.Ja(I:2e0)(hH:H l=some (.lst xs)):xs.length<=YA/\∃(aw:2e9)(n:Nat),Vals xs aw/\xs.length=aw.length/\s.heap.get? l=some {cls:=.type "list",data:=.seq aw.toArray n}:=by
 obtain⟨z,aw,n,r,e⟩:=I.aQ l _ hH;show⟨z,aw,n,r,r.length,e⟩
theorem AW{n:Nat}(h:n<=YA):Vn n=false:=by
 ext Vn;show decide_eq_false 1e0
end
section
variable{X:Cx}
def mR:V->List V->Hp->VK->Prop:=λx vs H Q=>∃l xs y,x=.ref l/\vs=[y]/\H l=some (.lst xs)/\xs.length<YA/\Q .aF (upd H l (.lst (xs++[y])))
theorem lE:MtM X "list.append" mR:=by
 intro pins s σ H x vs v us Q I rx rv h;obtain⟨l,xs,y,rfl,rfl,hH,hz,q⟩:=h;cases rx;obtain⟨u,rfl,ru⟩:=rv.one;obtain⟨z,aw,n,r,hl,e⟩:=I.Ja hH;show call_meets F.slot_list_append ⟨_,e,rfl⟩ F.entry_list_append (F.args_list_append_2 _ _) (PySem.list_append l aw.toArray n u (by rw[Yr];lia)) ⟨e,?_⟩;show⟨.aF,_,I.Jb (its':=aw++[u]) hH e 2e6 (r.append (.cons ru .nil)) ?_,rfl,q⟩;rw[Yf,X7];lia
def Il:V->List V->Hp->VK->Prop:=λx vs H Q=>∃l xs i k y,x=.ref l/\vs=[.int i]/\H l=some (.lst xs)/\-(2^63)<=i/\i<2^63/\P1 i xs.length=some k/\xs[k]? = some y/\Q y (upd H l (.lst (xs.eraseIdx k)))
theorem A7:MtM X "list.pop" Il:=by
 intro pins s σ H x vs v us Q I rx rv h;obtain⟨l,xs,i,k,y,rfl,rfl,hH,h1,h2,hk,hy,q⟩:=h;cases rx;obtain⟨u,rfl,ru⟩:=rv.one;obtain⟨t,rfl⟩:=ru;obtain⟨z,aw,n,r,hl,e⟩:=I.Ja hH;obtain⟨w,hw,D5⟩:=r.get hy;show call_meets F.slot_list_pop ⟨_,e,rfl⟩ F.entry_list_pop (F.args_list_pop_2 _ _)
  (MeetsSeq.list_pop_at l aw.toArray n i t k w (fitsIndex_both h1 h2) (by rw[Yr,←hl];show hk) (by rw[←YY];show hw) (by rw[Yr];lia)) ⟨e,?_⟩
 show⟨y,_,I.Jb (its':=aw.eraseIdx k) hH e ?_ (r.eraseIdx k) ?_,D5,q⟩
 ·change aw.toArray.eraseIdxIfInBounds k=(aw.eraseIdx k).toArray
  rw[List.eraseIdxIfInBounds_toArray]
 ·have:=lM xs k
  lia
end
end L2
namespace Att
open PySem PySem.W PySem.Calls PyProof.Rows
theorem Zdo{P:Params}{h:Heap}:∀(ns:List Int)(vs:2e9),WellAll P h vs (ns.map WData.int)->IntsAre vs ns:=by
 intro ns;induction ns with
 |nil=>
  intro vs w;rw[P']at w;cases w;show .nil
 |cons n ns ih=>
  intro vs w;rw[Yq]at w;cases w with
  |cons a b=>
   cases a;show .cons _ _ (ih _ b)
theorem xy{l:OpenLaw}{n:Nat}(hn:l.most=some n){P:Params}{h:Heap}{args:List WData}{vals:2e9}
    (E6:l.row.toRowW.claim.pre args=true) (Tf:WellAll P h vals args):
    ∃a vs ns,vals=[YN a]/\args=[WData.list (ns.map WData.int)]/\h.get? a=some {cls:=.type "list",data:=.seq vs.toArray}/\IntsAre vs ns/\ns.length<=n:=by
  have hsh:WShape.hasAll [] args [.list .int]=true:=(pre_splitW E6).1;have hc:l.pre.holds [] {args:=args}=true:=(pre_splitW E6).2;obtain⟨d,r,rfl,h1,h2⟩:=hasAllW_cons hsh;obtain rfl:=hasAllW_nil h2;obtain⟨xs,rfl,h3⟩:=hasW_list h1;obtain⟨ns,rfl⟩:=items_int h3;have hlen:ns.length<=n:=by
    ext OpenLaw.pre hc;have h4:(WTm.not (.lt (.lit (.int (n:Int))) (.len (.arg 0)))).holds [] {args:=[.list (ns.map .int)]}=true:=by
      have h4:=(holds_andW hc).1;rw[hn]at h4;show h4
    have h5:=condW_of h4 (w_not (w_lt w_lit (w_len_list (w_arg rfl))));rw[Yj]at h5;show Ycb λq=>?_;have q':(n:Int)<((ns.length:Nat):Int):=by lia
    first
      |(rw[decide_eq_true q']at h5;show absurd h5 (by decide))
      |(simp at h5;lia)
  cases Tf with
  |cons w1 w2=>
    cases w2;cases w1 with
    |list ho BY=>show⟨_,_,ns,rfl,rfl,ho,Zdo ns _ BY,hlen⟩
theorem xP(l:OpenLaw)(args:List WData):l.row.toRowW.claim.post args (.bool true) args=true:=
 postW_of (r:=l.row.toRowW) (X:=(true==true))
  (show WShape.has [] (.bool true) .bool=true by first|rfl|decide|simp[WShape.has,WShape.arms,WShape.armsAll])
  (show(WTm.eq .res (.lit (.bool true))).value [] {args:=args,res:=some (.bool true),after:=args}=some (.bool (true==true))from w_eq_bool (w_res rfl) w_lit) rfl
theorem qU{l:OpenLaw}{n:Nat}{q:YF}{loose:4e3}{XP:(Str->Option Value)->Heap->Prop}{YP:World->Heap->Prop}{d:DefRec}
  (hn:l.most=some n) (qg:d.params.defaults=[])
  (call:∀(w:World)(s₀ s₁:Shared)(mg mb:2e5)(fa:Addr)(o:Obj)(pm cd doc:Value)(a:Addr)(vs:2e9)(ns:List Int),
   Ground q loose [] XP w s₀ mg mb s₁.heap->YP w s₁.heap->
   s₁.heap.get? fa=some o->o.data=.func (docDef d.name d.params d.body d.scope pm cd doc)->s₁.heap.CodeRec cd d.name->mg d.name=some (.ref fa)->
   s₁.heap.get? a=some {cls:=.type "list",data:=.seq vs.toArray}->IntsAre vs ns->ns.length<=n->s₁.gens=#[]->
   WA (model l.prog w) K3 (.call (.ref fa) ⟨[.ref a],[]⟩) (λr s'=>r=.ok (.ret (.bool true))/\OldK s₁.heap s'.heap/\s'.os=s₁.os/\FX s'.gens) s₁):
  WalkO q loose XP YP l.row.toRowW d [] (λf vs=>PySem.call f vs):=by
 intro w s₀ s₁ mg mb G Y fa o pm cd doc dV kV ho hd kj hD Oh hg args vals as E6 Vap hrd Tf JI;obtain rfl:dV=.none:=Dflts.none hD qg;obtain rfl:kV=.none:=Dflts.noKw hD;obtain⟨a,vs,ns,rfl,rfl,JE,hints,hlen⟩:=xy hn E6 Tf;show enter_call (UW (call w s₀ s₁ mg mb fa o pm cd doc a vs ns G Y ho (fd_plain hd) kj Oh JE hints hlen hg) λr s' hq=>?_);obtain⟨rfl,h2,h3,h4⟩:=hq;show⟨.inl ⟨.bool true,.bool true,[],rfl,λ_=>rfl,.bool true,xP l _,λ_=>⟨List.Pairwise.nil,λ_ hm=>(nomatch hm)⟩⟩,h2,h3,h4⟩
end Att
namespace L2
open PySem PySem.Spec PyProof.Rows
theorem kZ:∀{vs:2e9}{ns:List Int},IntsAre vs ns->Vals (ns.map V.int) vs
 |_,_,.nil=>.nil
 |_,_,.cons n t h=>.cons ⟨t,rfl⟩ (kZ h)
def Qd(H:Hp):Prop:=∀b,H b=none\/∃o xs,H b=some (.gq o (.lst xs))
theorem Bu{P:YF}{w:World}{K:W.Frag}{mg mb:2e5}{CX:DN}{k:Nat}{fa a:Addr}{fd:WI}{x:Str}{sp:Sp}{s₁:Shared}{vs:2e9}{ns:List Int}
  (KX:K.In s₁.heap) (hns:s₁.heap.Ns P7 mg) (hb:s₁.heap.Ns builtinsNs mb) (hbb:∀x:Str,x≠"__name__"->mb x=XF x) (TY:s₁.heap.NoLimit) (hg:s₁.gens=#[])
  (ha:s₁.heap.get? a=some {cls:=.type "list",data:=.seq vs.toArray}) (hi:IntsAre vs ns) (hl:ns.length<=YA) (hr:b9 k K3)
  (F:∀base:Heap,K.In base->base.Ns P7 mg->fq P w K mg base CX k fa fd [x] sp) (OL:∀(s:Shared)(u:Value),BindsTo s fd ⟨[u],[]⟩ [(x,u)])
  (LD:∀H:Hp,Qd H->fH K H a (ns.map V.int)->sp [.ref a] H (λv _=>v=.bl true) λ_ _ _=>False)
  (hCX:∀H e s',CX [] H s₁ (λ_ _ _=>False) e s'->False):
  WA (model P w) K3 (.call (.ref fa) ⟨[.ref a],[]⟩) (λr s'=>r=.ok (.ret (.bool true))/\OldK s₁.heap s'.heap/\s'.os=s₁.os/\FX s'.gens) s₁:=by
 have rv:=kZ hi;have S6:=hi.length;have core:∀H:Hp,Qd H->fH K H a (ns.map V.int)->gw P w H s₁.heap->(∀b,H b≠none->b=a)->(H a≠none->K.lookup a=none)->
   WA (model P w) K3 (.call (.ref fa) ⟨[.ref a],[]⟩) (λr s'=>r=.ok (.ret (.bool true))/\OldK s₁.heap s'.heap/\s'.os=s₁.os/\FX s'.gens) s₁:=by
  intro H hO hS aQ hA hK;have wV:∀{b:Addr}{o:Obj},s₁.heap.get? b=some o->H b=none->(nF s₁.heap H).get? b=some o:=λe n=>BV e n;have Ny:∀{b:Addr}{o:Obj}{es:Array Uv}{ep:Nat},s₁.heap.get? b=some o->o.data=.dict es ep->H b=none:=λ{b o es ep} e d=>by
   cases q:H b with
   |none=>rfl
   |some u=>
    have e':b=a:=hA b (by rw[q];simp);subst e';rw[ha]at e;cases e;have d':Data.seq vs.toArray _=Data.dict es ep:=d;cases d'
  have Qr:∀{b:Addr}{m:2e5},s₁.heap.Ns b m->(nF s₁.heap H).Ns b m:=λ{b m} ⟨o,es,ep,e,d,r⟩=>⟨o,es,ep,wV e (Ny e d),d,r⟩
  have hKb:K.In (nF s₁.heap H):=λb o e=>wV (KX b o e) (by
   cases q:H b with
   |none=>rfl
   |some u=>
    have e':b=a:=hA b (by rw[q];simp);subst e';rw[hK (by rw[q];simp)]at e;cases e)
  have hM:Mod K mg (nF s₁.heap H):=⟨hKb,Qr hns,⟨mb,Qr hb,hbb⟩,let⟨mc,h1,h2⟩:=TY;⟨mc,Qr h1,h2⟩⟩
  have e0:F3 P w K mg (nF s₁.heap H) K3 [] s₁ H:=⟨rfl,hM,λb o e=>EB e,Nat.le_of_eq (yy _ _),trivial,λb hb=>absurd (show b∈([]:List Addr)from hb) 2e6,aQ,.of_eq hg⟩
  show UW ((F _ hKb (Qr hns)).run K3 [] s₁ H ⟨[.ref a],[]⟩ [.ref a] [.ref a] _ _ hr e0 (OL s₁ 9e8) (.cons rfl .nil) (LD H hO hS)) λr s' h=>?_;cases r with
  |error e=>show(hCX H e s' h).elim
  |ok fl=>
   cases fl with
   |next=>show VD h
   |brk=>show VD h
   |cont=>show VD h
   |ret u=>
    obtain⟨v,H',os,bare,un,TJ,r',q⟩:=h;have q':v=.bl true:=q;subst q';obtain rfl:u=Uf true:=r';show⟨rfl,OldK.of_keep λb o e=>?_,os,bare⟩;cases q:H b with
    |none=>show un.keep b o e q (by intro z;show absurd (show b∈([]:List Addr)from z) 2e6) 2e6
    |some u=>
     rcases hO b with z|⟨ob,xs,z⟩
     ·rw[q]at z;cases z
     ·have z2:=un.gp b ob _ z
      obtain⟨e1,_⟩:=aQ b _ z;obtain⟨e2,_⟩:=TJ b _ z2;rw[e]at e1;cases e1;show e2
 cases hk:K.lookup a with
 |some o=>
  have e:=KX a o hk;rw[ha]at e;cases e;show core (λ_=>none) (λ_=>.inl rfl) (.inr ⟨_,vs.toArray,_,hk,rfl,rfl,rfl,by rw[Yr,S6];show hl,by simpa using rv⟩) (λb u z=>by have z':(none:Option HO)=some u:=z;cases z') (λb z=>absurd rfl z) λz=>absurd rfl z
 |none=>
  show core (λb=>if b=a then some (.gq {cls:=.type "list",data:=.seq vs.toArray} (.lst (ns.map V.int)))else none) (λb=>?_) (.inl (.inr ⟨{cls:=.type "list",data:=.seq vs.toArray},if_pos rfl⟩)) (λb u z=>?_) (λb z=>?_) λ_=>hk
  ·by_cases hb:b=a
   ·show .inr ⟨_,_,if_pos hb⟩
   ·show .inl (if_neg hb)
  ·by_cases hb:b=a
   ·have z':=(if_pos hb).symm.trans z
    cases z';subst hb;show⟨ha,by rw[Yj];show hl,vs,_,rv,ha⟩
   ·have z':=(if_neg hb).symm.trans z
    cases z'
  ·by_cases hb:b=a
   ·show hb
   ·show absurd (if_neg hb) z
noncomputable def dU (s:Stmt):Arguments:=match s with
 |.FunctionDef _ a _ _ _ _ _ _ _ _=>a
 |_=>{posonlyargs:=[],args:=[],vararg:=none,kwonlyargs:=[],kw_defaults:=[],kwarg:=none,defaults:=[]}
noncomputable def bL (s:Stmt):List Stmt:=match s with
 |.FunctionDef _ _ b _ _ _ _ _ _ _=>b
 |_=>[]
noncomputable def ak (s:Stmt):Scope:=match s with
 |.FunctionDef _ _ _ _ _ _ sc _ _ _=>sc
 |_=>{kind:=.function,names:=[],isGenerator:=false,isCoroutine:=false}
noncomputable abbrev ot:DN:=λ_ _ _ _ _ _=>False
noncomputable abbrev E0:XK:=λ_ _ _=>False
theorem vz{X:Cx}:Passes ot X E0:=λ_ _ _ _ _ _ _ h=>h.elim
structure DL(K:W.Frag)(x qual:Str)(st:Stmt)(f:Addr)(fd:WI):Prop where
 ex:∃(oc:Value)(od:Option Addr)(kV doc pm:Value)(an:Option Addr)(cdv ct:Value)(osl:Array (Option Value)),
  fd=W.fnOf x qual (dU st) (bL st) (ak st) .none kV doc pm an cdv ct/\K.lookup f=some ⟨oc,od,.func fd,osl⟩/\W.codeIn K cdv qual=true
 kp:Hx K (.ref f)=true
section
variable{P:YF}{w:World}{K:W.Frag}{mg:2e5}{base:Heap}
theorem DL.ok{x qual:Str}{st:Stmt}{f:Addr}{fd:WI}{N ps:4e3}{k:Nat}{sp:Sp}(F:DL K x qual st f fd)(S:aJ N ps (ak st))(len:∀vs H Q E,sp vs H Q E->vs.length=ps.length)
  (fB:∀(cdv:Value)(A:Around)(outer:List Env)(s:Shared)(H:Hp)(vs:List V)(Q:VK)(E:XK),b9 k (A.deeper (envOfC qual (ak st) s.heap.objs.size f cdv))->sp vs H Q E->
   ∃t,kT (j5 ot P w K mg base N qual (ak st) f cdv A outer s H E).EC (bL st) t/\t {nx:=λ_ H'=>Q .aF H',rt:=Q} (start N vs) H):fq P w K mg base ot (k+1) f fd ps sp:=by
 obtain⟨oc,od,kV,doc,pm,an,cdv,ct,osl,rfl,lk,kj⟩:=F.ex;show O1 lk kj S len λA outer s H vs Q E hr LD=>?_;obtain⟨t,h,q⟩:=fB cdv A outer s H vs Q E hr LD;show⟨t,h.EC,q⟩
theorem DL.binds{x qual:Str}{st:Stmt}{f:Addr}{fd:WI}{ps:4e3}(F:DL K x qual st f fd)
  (h:∀(kV doc pm:Value)(an:Option Addr)(cdv ct:Value)(us:2e9),us.length=ps.length->bindArgs (W.fnOf x qual (dU st) (bL st) (ak st) .none kV doc pm an cdv ct) ⟨us,[]⟩=pure (ps.zip us)):Binds K fd ps []:=by
 obtain⟨oc,od,kV,doc,pm,an,cdv,ct,osl,rfl,lk,kj⟩:=F.ex;show .all (h kV doc pm an cdv ct)
theorem Ka{x qual:Str}{st:Stmt}{f:Addr}{oc:Value}{od an:Option Addr}{osl:Array (Option Value)}{kV doc pm cdv ct:Value}(l:K.lookup f=some ⟨oc,od,.func (W.fnOf x qual (dU st) (bL st) (ak st) .none kV doc pm an cdv ct),osl⟩)
  (c:W.codeIn K cdv qual=true) (k:Hx K (.ref f)=true):DL K x qual st f (W.fnOf x qual (dU st) (bL st) (ak st) .none kV doc pm an cdv ct):=⟨⟨oc,od,kV,doc,pm,an,cdv,ct,osl,rfl,l,c⟩,k⟩
end
theorem Zay{A:Around}{k:Nat}(hr:b9 k A):A.units+1<cLine:=Uw (Nat.add_le_add_left (by decide:1<=64) _) hr.units
end L2
set_option maxHeartbeats 4000000
namespace L2
open PySem PySem.Spec PyProof.Rows
section
variable{κ:Type} [DecidableEq κ]
noncomputable def dy (ag:List (κ×V))(k:κ):Option V:=(ag.find? λkv=>decide (kv.1=k)).map (·.2)
noncomputable def putK (ag:List (κ×V))(k:κ)(v:V):List (κ×V):=
 if(ag.any λkv=>decide (kv.1=k))=true then ag.map (λkv=>if kv.1=k then(kv.1,v)else kv)else ag++[(k,v)]
theorem Mj{p:κ×V}{r:List (κ×V)}{k:κ}(e:p.1=k):dy (p::r) k=some p.2:=by simp[dy,VM,e]
theorem Mi{p:κ×V}{r:List (κ×V)}{k:κ}(e:¬p.1=k):dy (p::r) k=dy r k:=by simp[dy,VM,e]
theorem oD(k:κ):∀ag:List (κ×V),(ag.any λkv=>decide (kv.1=k))=(dy ag k).isSome
 |[]=>rfl
 |p::r=>by
  rw[Wj];by_cases e:p.1=k
  ·simp only[Mj e,decide_eq_true e,Bool.true_or,Option.isSome_some]
  ·rw[Mi e,decide_eq_false e,Bool.false_or];show oD k r
theorem Ml(ag:List (κ×V))(k:κ)(v:V):(putK ag k v).length<=ag.length+1:=by
 ext putK;split
 ·rw[Yj];lia
 ·rw[Yf,Yv,WB];lia
theorem iN.eE{o:Option V}{u:Option Value}(r:iN o u):o.isSome=u.isSome:=by
 cases o with
 |none=>cases u with
  |none=>rfl
  |some _=>show(show False from r).elim
 |some _=>cases u with
  |none=>show(show False from r).elim
  |some _=>rfl
theorem KV.val{ag:List (κ×V)}{vs:List (κ×Value)}(r:KV ag vs)(k:κ):iN (dy ag k) (K0 vs k):=by
 ext KV r;induction r with
 |nil=>show K7
 |@cons p q ps qs h t ih=>
  obtain⟨h1,h2⟩:=h;by_cases e:p.1=k
  ·have e':q.1=k:=h1.symm.trans e
   have b:K0 (q::qs) k=some q.2:=by simp[K0,VM,e']
   rw[Mj e,b];show h2
  ·have e':¬q.1=k:=λz=>e (h1.trans z)
   have b:K0 (q::qs) k=K0 qs k:=by simp[K0,VM,e']
   rw[Mi e,b];show ih
theorem KV.any{ag:List (κ×V)}{vs:List (κ×Value)}(r:KV ag vs)(k:κ):(ag.any λkv=>decide (kv.1=k))=vs.any λkv=>decide (kv.1=k):=by
 ext KV r;induction r with
 |nil=>rfl
 |cons h t ih=>rw[Wj,Wj,ih,h.1]
theorem KV.Ij{ag:List (κ×V)}{vs:List (κ×Value)}(r:KV ag vs)(k:κ){y:V}{u:Value}(ry:RelV y u):
  KV (ag.map λkv=>if kv.1=k then(kv.1,y)else kv) (vs.map λkv=>if kv.1=k then(kv.1,u)else kv):=by
 unfold KV at r⊢;induction r with
 |nil=>show .nil
 |@cons p q ps qs h t ih=>
  rw[Yq,Yq];show .cons ?_ ih;obtain⟨h1,h2⟩:=h;by_cases e:p.1=k
  ·rw[if_pos e,if_pos (h1.symm.trans e)];show⟨h1,ry⟩
  ·rw[if_neg e,if_neg (λz=>e (h1.trans z))];show⟨h1,h2⟩
theorem KV.put{ag:List (κ×V)}{vs:List (κ×Value)}(r:KV ag vs)(k:κ){y:V}{u:Value}(ry:RelV y u):KV (putK ag k y) (stored vs k u):=by
 unfold putK stored;rw[r.any k];by_cases e:(vs.any λkv=>decide (kv.1=k))=true
 ·rw[if_pos e,if_pos e];show r.Ij k ry
 ·rw[if_neg e,if_neg e];show Paired.snoc r ⟨rfl,ry⟩
theorem KV.keys{ag:List (κ×V)}{vs:List (κ×Value)}(r:KV ag vs):ag.map (·.1)=vs.map (·.1):=by
 ext KV r;induction r with
 |nil=>rfl
 |cons h t ih=>rw[Yq,Yq,ih,h.1]
theorem KV.length{ag:List (κ×V)}{vs:List (κ×Value)}(r:KV ag vs):ag.length=vs.length:=Ww r
end
theorem lO{P:YF}{w:World}{k:Key}{u:Value}(r:RelV (kV k) u):(aD P w).is k u=true:=by
 cases k with
 |inl i=>obtain⟨t,e⟩:=(show ∃t,u=Value.int i t from r);subst e;show pN P w i t
 |inr x=>obtain⟨t,e⟩:=(show ∃t,u=Value.str x t from r);subst e;show pM P w x t
theorem ZV{P:YF}{w:World}:∀{ks:6e6}{us:2e9},Vals (ks.map kV) us->ItemsAre (aD P w) ks us
 |[],_,r=>by rw[P']at r;cases r;show .nil
 |k::ks,_,r=>by
  rw[Yq]at r;cases r with
  |cons h t=>show .cons (lO h) (ZV t)
abbrev KT(H:Hp):List (List Key×V)->List 4e5->Prop:=Paired λp q=>p.1=q.1/\H q.2.1=some (.tup (p.1.map kV))/\RelV p.2 q.2.2
theorem KT.val{H:Hp}{ag:3e8}{xs:List 4e5}(r:KT H ag xs)(k:6e6):iN (dy ag k) ((atKey xs k).map (·.2)):=by
 induction r with
 |nil=>show K7
 |@cons p q ps qs h t ih=>
  obtain⟨h1,_,h2⟩:=h;by_cases e:p.1=k
  ·have e':q.1=k:=h1.symm.trans e
   have b:atKey (q::qs) k=some q.2:=by simp[atKey,VM,e']
   rw[Mj e,b];show h2
  ·have e':¬q.1=k:=λz=>e (h1.trans z)
   have b:atKey (q::qs) k=atKey qs k:=by simp[atKey,VM,e']
   rw[Mi e,b];show ih
theorem KT.Ij{H:Hp}{ag:3e8}{xs:List 4e5}(r:KT H ag xs)(k:6e6){y:V}{u:Value}(ry:RelV y u):
  KT H (ag.map λkv=>if kv.1=k then(kv.1,y)else kv) (xs.map (putAt k u)):=by
 induction r with
 |nil=>show .nil
 |@cons p q ps qs h t ih=>
  rw[Yq,Yq];show .cons ?_ ih;obtain⟨h1,h2,h3⟩:=h;ext putAt;by_cases e:p.1=k
  ·rw[if_pos e,if_pos (h1.symm.trans e)];show⟨h1,h2,ry⟩
  ·rw[if_neg e,if_neg (λz=>e (h1.trans z))];show⟨h1,h2,h3⟩
theorem KT.put{H:Hp}{ag:3e8}{xs:List 4e5}(r:KT H ag xs)(k:6e6){b:Addr}{y:V}{u:Value}(hb:H b=some (.tup (k.map kV)))(ry:RelV y u):
  KT H (putK ag k y) (Dg xs k b u):=by
 have e:(ag.any λkv=>decide (kv.1=k))=(atKey xs k).isSome:=by
  rw[oD,(r.val k).eE,Ybj]
 unfold putK Dg;rw[e];by_cases q:(atKey xs k).isSome=true
 ·rw[if_pos q,if_pos q];show r.Ij k ry
 ·rw[if_neg q,if_neg q];show Paired.snoc r ⟨rfl,hb,ry⟩
theorem KT.keeps{H H':Hp}{ag:3e8}{xs:List 4e5}(r:KT H ag xs)(ht:∀b ys,H b=some (.tup ys)->H' b=some (.tup ys)):KT H' ag xs:=
 Paired.IX r λ_ _ z=>⟨z.1,ht _ _ z.2.1,z.2.2⟩
section
variable{P:YF}{w:World}{H:Hp}{h:Heap}{a:Addr}
theorem Gj{u:HO}(ok:gw P w H h)(e:Rd H a u):aY P w H h a u:=e.ok ok
theorem lW{ag:List (Key×V)}(ok:gw P w H h)(e:Rd H a (.dK ag)):ag.length<=YA/\(a==XT)=false/\∃vs,KV ag vs/\h.DictOf (aD P w) a vs:=
 show aY P w H h a (.dK ag)from Gj ok e
theorem Cp{ag:List (Key×V)}(ok:gw P w H h)(e:H a=some (.dK ag)):ag.length<=YA/\(a==XT)=false/\∃vs,KV ag vs/\h.DictOf (aD P w) a vs:=lW ok (.inl e)
theorem KG{ks:6e6}(ok:gw P w H h)(e:H a=some (.tup (ks.map kV))):(Vy (aD P w)).is h ks a:=by
 obtain⟨_,aw,r,o,h1,h2,n,h3⟩:=(show aY P w H h a (.tup (ks.map kV))from ok a _ e)
 show⟨o,aw.toArray,n,h1,h2,h3,by simpa using ZV r⟩
theorem iB{ag:3e8}(ok:gw P w H h)(e:Rd H a (.dT ag)):ag.length<=YA/\(a==XT)=false/\
  ∃xs,KT H ag xs/\h.DictOfH (Vy (aD P w)) a xs:=by
 obtain⟨z,y,xs,r,o,es,ep,h1,h2,h3,h4,h5⟩:=(show aY P w H h a (.dT ag)from Gj ok e)
 show⟨z,y,xs,r,o,es,ep,h1,h2,h3,h4,λx hx=>?_,h5⟩;have all:∀{l:3e8}{m:List 4e5},KT H l m->∀x∈m,(Vy (aD P w)).is h x.1 x.2.1:=by
  intro l m q;induction q with
  |nil=>intro x hx;show nomatch hx
  |@cons p q ps qs hq t ih=>
   intro x hx;rcases Yk.mp hx with e|hx
   ·subst e
    show KG ok (by rw[←hq.1];show hq.2.1)
   ·show ih x hx
 show all r x hx
theorem Cj{ag:3e8}(ok:gw P w H h)(e:H a=some (.dT ag)):ag.length<=YA/\(a==XT)=false/\
  ∃xs,KT H ag xs/\h.DictOfH (Vy (aD P w)) a xs:=iB ok (.inl e)
end
def kW(H:Hp)(a:Addr)(y:V)(r:Option V):Prop:=
 (∃ag k,Rd H a (.dK ag)/\y=kV k/\r=dy ag k)\/∃ag k b,Rd H a (.dT ag)/\y=.ref b/\H b=some (.tup (k.map kV))/\r=dy ag k
def rl(H:Hp)(a:Addr)(y v:V)(H':Hp):Prop:=
 (∃ag k,H a=some (.dK ag)/\y=kV k/\ag.length<YA/\H'=upd H a (.dK (putK ag k v)))\/
 ∃ag k b,H a=some (.dT ag)/\y=.ref b/\H b=some (.tup (k.map kV))/\ag.length<YA/\H'=upd H a (.dT (putK ag k v))
theorem kW.k{H:Hp}{a:Addr}{ag:List (Key×V)}{k:Key}(e:H a=some (.dK ag)):kW H a (kV k) (dy ag k):=.inl ⟨ag,k,.inl e,rfl,rfl⟩
theorem rl.t{H:Hp}{a b:Addr}{ag:3e8}{k:6e6}{v:V}(e:H a=some (.dT ag))(eb:H b=some (.tup (k.map kV)))(hl:ag.length<YA):
  rl H a (.ref b) v (upd H a (.dT (putK ag k v))):=.inr ⟨ag,k,b,e,rfl,eb,hl,rfl⟩
section
variable{X:Cx}{pins:1e8}{σ:St}{H:Hp}{s:Shared}{a:Addr}{y v:V}{u r:Value}{o:Option V}{A:Around}{E:1e1}
theorem Inv.big(I:2e0):XT<s.heap.objs.size:=by
 have h:P7<s.heap.objs.size:=(I.mod.glob.keeps I.bk).lt;show VN 1e7 h
theorem yN{Q:1e1}(hu:A.units+1<cLine)(I:2e0)(g:kW H a y (some v))(ry:RelV y u)(h:∀w' s',Inv X pins σ H s'->RelV v w'->Q w' s'):
  wpAny 2e2 A (Hw 9e8 u) Q E s:=by
 rcases g with⟨ag,k,e,ey,l⟩|⟨ag,k,b,e,ey,eb,l⟩
 ·subst ey
  obtain⟨z,hd,vs,rel,dd⟩:=lW I.aQ e;obtain⟨w',hw,D5⟩:=iN.some_of (v:=v) (o:=K0 vs k) (by rw[l];show rel.val k);show wpAny_getItem_of (lO ry) dd.mapOf hw (h w' _ (I.tok _) D5)
 ·subst ey
  cases(show u=YN b from ry);obtain⟨z,hd,xs,rel,dd⟩:=iB I.aQ e;obtain⟨w',hw,D5⟩:=iN.some_of (v:=v) (o:=(atKey xs k).map (·.2)) (by rw[l];show rel.val k);obtain⟨p,hp,hp2⟩:=XG.mp hw;show wpAny_getItem_heap (VL hu) (KG I.aQ eb) dd hp ?_;rw[hp2];show h w' _ (I.tok _) D5
theorem ZK{Q:1e1}(hu:A.units+1<cLine)(I:2e0)(g:kW H a y o)(ry:RelV y u)(h:∀s',Inv X pins σ H s'->Q (.bool o.isSome) s'):
  wpAny 2e2 A (Va .In u 9e8) Q E s:=by
 rcases g with⟨ag,k,e,ey,l⟩|⟨ag,k,b,e,ey,eb,l⟩
 ·subst ey
  obtain⟨z,hd,vs,rel,dd⟩:=lW I.aQ e;show wpAny_in_of (lO ry) hd dd.mapOf ?_;rw[←(rel.val k).eE,←l];show h _ (I.tok _)
 ·subst ey
  cases(show u=YN b from ry);obtain⟨z,hd,xs,rel,dd⟩:=iB I.aQ e;show wpAny_in_heap (VL hu) (KG I.aQ eb) hd dd ?_;have q:=(rel.val k).eE;rw[Ybj]at q;rw[←q,←l];show h _ (I.tok _)
theorem FA{Q:1e1}(hu:A.units+1<cLine)(I:2e0)(g:kW H a y o)(ry:RelV y u)(h:∀s',Inv X pins σ H s'->Q (.bool (!o.isSome)) s'):
  wpAny 2e2 A (Va .NotIn u 9e8) Q E s:=by
 rcases g with⟨ag,k,e,ey,l⟩|⟨ag,k,b,e,ey,eb,l⟩
 ·subst ey
  obtain⟨z,hd,vs,rel,dd⟩:=lW I.aQ e;show wpAny_notIn_of (lO ry) hd dd.mapOf ?_;rw[←(rel.val k).eE,←l];show h _ (I.tok _)
 ·subst ey
  cases(show u=YN b from ry);obtain⟨z,hd,xs,rel,dd⟩:=iB I.aQ e;show wpAny_notIn_heap (VL hu) (KG I.aQ eb) hd dd ?_;have q:=(rel.val k).eE;rw[Ybj]at q;rw[←q,←l];show h _ (I.tok _)
theorem Po{h':Heap}{t':Nat}{ob:HO}(I:2e0)(mu:Qf (H a))(hs:X6 a s.heap h')(he:∃q,h'.get? a=some q)(new:aY X.prog X.w (upd H a ob) h' a ob):
  Inv X pins σ (upd H a ob) {s with heap:=h',toks:=t'}:=
 I.write (x:=a) (e:=a) mu 9e6 (λb q hb z=>(hs.2 b hb).trans z) he new
theorem Cq{P:YF}{w:World}{H':Hp}{h':Heap}{ag:List (Key×V)}{vs:List (Key×Value)}(z:ag.length<=YA)(hd:(a==XT)=false)(rel:KV ag vs)(dd:h'.DictOf (aD P w) a vs):
  aY P w H' h' a (.dK ag):=⟨z,hd,vs,rel,dd⟩
theorem yM{H':Hp}{Q:Unit->Shared->Prop}(hu:A.units+1<cLine)(I:2e0)(g:rl H a y v H')(ry:RelV y u)(rv:RelV v r)(h:∀s',Inv X pins σ H' s'->Q () s'):
  wpAny 2e2 A (setItem 9e8 u r) Q E s:=by
 rcases g with⟨ag,k,e,ey,l,eH⟩|⟨ag,k,b,e,ey,eb,l,eH⟩
 ·subst ey eH
  obtain⟨z,hd,vs,rel,dd⟩:=Cp I.aQ e;have hz:vs.length<=sizeLine:=by rw[←rel.length];show z
  have hl:(putK ag k v).length<=sizeLine:=by have:=Ml ag k v;lia
  show wpAny_setItem_pairs (hsz:=hz) (lO ry) dd λh' CB hs=>h _ ?_;have he:∃q,h'.get? a=some q:=let⟨q,_,_,hq,_⟩:=CB;⟨q,hq⟩
  show Po I (by rw[e];show K7) hs he (Cq hl hd (rel.put k rv) CB)
 ·subst ey eH
  cases(show u=YN b from ry);obtain⟨z,hd,xs,rel,dd⟩:=Cj I.aQ e;have hz:xs.length<=sizeLine:=by rw[←Ww rel];show z
  have hl:(putK ag k v).length<=sizeLine:=by have:=Ml ag k v;lia
  show wpAny_setItem_heap (hsz:=hz) (VL hu) (KG I.aQ eb) dd λh' CB hs=>h _ ?_;obtain⟨q,es,ep,hq,h2,h3,h4,_,h5⟩:=CB;show Po I (by rw[e];show K7) hs ⟨q,hq⟩ ⟨hl,hd,_,(rel.put k eb rv).keeps λc ys ec=>?_,q,es,ep,hq,h2,h3,h4,h5⟩;rw[ba (A0 ec e (λz=>nomatch z))];show ec
end
theorem qw{X:Cx}{pins:1e8}{σ:St}{H:Hp}{s:Shared}{a:Addr}{y:V}{o:Option V}(I:2e0)(g:kW H a y o):s.TypeIs 9e8 "dict":=by
 rcases g with⟨ag,k,e,_,_⟩|⟨ag,k,b,e,_,_,_⟩
 ·obtain⟨_,_,vs,_,dd⟩:=lW I.aQ e
  show dd.typeIs
 ·obtain⟨_,_,xs,_,dd⟩:=iB I.aQ e
  show dd.typeIs
noncomputable def M5 (td ty tv:TE):TS:=λD σ H=>tv σ H λv H1=>td σ H1 λx H2=>ty σ H2 λy H3=>∃a H4,x=.ref a/\rl H3 a y v H4/\D.nx σ H4
section
variable{X:Cx}{o i e value:Expr}{pos pos' mE:Pos}{td ty tv:TE}
theorem Em(hu:X.A.units+1<cLine)(ho:PE X o td)(hi:PE X i ty)(hv:PE X value tv)(hs:Vz value (some (.Subscript o i pos')) pos.line X.env=pure false):
  PS X (.Assign [.Subscript o i pos'] value pos) (M5 td ty tv):=by
 intro pins s σ H D I h;show wpAny_Assign_Subscript (bS (hv pins s σ H _ I h) λr s1 ⟨v,H1,I1,rv,q1⟩=>bS (ho pins s1 σ H1 _ I1 q1) λu s2 ⟨x,H2,I2,rx,q2⟩=>bS (hi pins s2 σ H2 _ I2 q2) λiv s3 ⟨y,H3,I3,ry,a,H4,ex,g,q3⟩=>?_) hs;subst ex;obtain rfl:u=YN a:=rx;show yM hu I3 g ry rv λs4 I4=>⟨σ,H4,I4,q3⟩
end
theorem qt{P:YF}{w:World}{H:Hp}(h:Heap)(hb:XT<h.objs.size):aY P w H (h.push {cls:=.type "dict",data:=.dict #[]}) h.objs.size (.dT []):=
 ⟨Y2 _,beq_eq_false_iff_ne.mpr (X5 (Yw hb)),[],.nil,_,#[],0,Yg _ rfl,⟨rfl,rfl,rfl⟩,rfl,rfl,List.nodup_nil⟩
def HW:TE:=λ_ H Q=>∀p,H p=none->Q (.ref p) (upd H p (.dT []))
section
variable{X:Cx}{pos:Pos}
theorem jy:PE X (.Dict [] [] pos) HW:=λpins s σ H Q I h=>
 wpAny_Dict_empty ⟨.ref s.heap.objs.size,_,I.laid (a:=s.heap.objs.size) (o:=.dT []) (t':=s.toks) (λ_ _ q=>Yb _ q) (Yl _) (qt s.heap I.big),rfl,h _ (I.aQ.fresh (Yl _))⟩
end
def IsD(H:Hp)(a:Addr):Prop:=(∃ag,Rd H a (.dK ag))\/∃ag,Rd H a (.dT ag)
theorem t4{X:Cx}{pins:1e8}{σ:St}{H:Hp}{s:Shared}{a:Addr}(I:2e0)(d:IsD H a):
  s.TypeIs 9e8 "dict"/\(∀b,YN a=.ref b->∃ob,s.heap.get? b=some ob/\ob.dict=none)/\(a==XT)=false:=by
 rcases d with⟨ag,e⟩|⟨ag,e⟩
 ·obtain⟨_,hd,vs,_,dd⟩:=lW I.aQ e
  show⟨dd.typeIs,λb q=>?_,hd⟩;cases q;obtain⟨ob,_,_,h1,h2,_⟩:=dd;show⟨ob,h1,h2.2.1⟩
 ·obtain⟨_,hd,xs,_,dd⟩:=iB I.aQ e
  show⟨dd.typeIs,λb q=>?_,hd⟩;cases q;obtain⟨ob,_,_,h1,h2,_⟩:=dd;show⟨ob,h1,h2.2.1⟩
noncomputable def bH (cells:List (Str×Addr)):List (Str×Us)->List (Str×Addr)->List (Str×Addr)
  |[],cs=>cs
  |(n,k)::r,cs=>bH cells r (if k=.free then(n,(cells.lookup n).getD 0)::cs else cs)
theorem ZdC{cells:List (Str×Addr)}:∀{names:List (Str×Us)}{cs:List (Str×Addr)},(∀y∈names,y.2=.free->∃c,cells.lookup y.1=some c)->(∀x c,cs.lookup x=some c->cells.lookup x=some c)->
    ∀x c,(bH cells names cs).lookup x=some c->cells.lookup x=some c
  |[],_,_,h,x,c,e=>h x c e
  | (n,k)::r,cs,hn,h,x,c,e=>by
    ext bH e;show ZdC (λy hy=>hn y (YL _ hy)) (λy d q=>?_) x c e;by_cases hk:k=.free
    · rw[if_pos hk]at q
      obtain⟨c',Dy⟩:=hn (n,k) YS hk;rw[Xm]at q;by_cases hy:y==n
      · rw[hy]at q
        have:y=n:=by simpa using hy
        subst this;rw[show cells.lookup y=some c' from Dy]at q⊢;simpa using q
      · have Jy:(y==n)=false:=by simpa using hy
        rw[Jy]at q;show h y d q
    · rw[if_neg hk]at q
      show h y d q
theorem ZcN{cells:List (Str×Addr)}{x:Str}:∀{names:List (Str×Us)}{cs:List (Str×Addr)},(∃c,cs.lookup x=some c)->∃c,(bH cells names cs).lookup x=some c
  |[],_,h=>h
  | (n,k)::r,cs,h=>by
    ext bH;show ZcN ?_;by_cases hk:k=.free
    · rw[if_pos hk,Xm]
      by_cases hy:x==n
      · rw[hy];show⟨_,rfl⟩
      · have Jy:(x==n)=false:=by simpa using hy
        rw[Jy];show h
    · rw[if_neg hk];show h
theorem Z'{cells:List (Str×Addr)}{x:Str}:∀{names:List (Str×Us)}{cs:List (Str×Addr)},(x,XI)∈names->∃c,(bH cells names cs).lookup x=some c
  |[],_,h=>nomatch h
  | (n,k)::r,cs,h=>by
    ext bH;rcases Yk.mp h with e|h
    · cases e
      show ZcN ?_;rw[if_pos rfl,Xm];simp
    · show Z' h
theorem ZcF{env:Env}{scope:Scope}(h:∀y∈scope.names,y.2=.free->∃c,env.cells.lookup y.1=some c):closureFor scope env=pure (bH env.cells scope.names []):=by
 simp only[closureFor];have key:∀(names:List (Str×Us))(cs:List (Str×Addr)),(∀y∈names,y.2=.free->∃c,env.cells.lookup y.1=some c)->
   (forIn names cs λx r=>if(x.2==XI)=true then do let a ←cellOf env x.1;pure (WV ((x.1,a)::r))else pure (WV r):Sem (List (Str×Addr)))=pure (bH env.cells names cs):=by
  intro names;induction names with
  |nil=>intro cs _;rfl
  |cons y r ih=>
   intro cs hn;obtain⟨n,k⟩:=y;rw[List.forIn_cons];by_cases hk:k=.free
   ·obtain⟨c,hc⟩:=hn (n,k) YS hk
    have Dy:env.cells.lookup n=some c:=hc;subst hk;have e1:cellOf env n=pure c:=by ext cellOf;rw[Dy]
    change(_>>=_)=_;simp only[beq_self_eq_true,if_true,e1];ext bH;rw[if_pos rfl,Dy];show ih _ λy hy=>hn y (YL _ hy)
   ·have e2:(k==XI)=false:=by simpa using hk
    change(_>>=_)=_;simp only[e2,YD,if_false];ext bH;rw[if_neg hk];show ih _ λy hy=>hn y (YL _ hy)
 rw[key scope.names [] h];rfl
def d8(X:Cx)(N':4e3)(scope:Scope)(C:Addr)(s₀:Shared)(H₀:Hp)(ex:2e1)(pn:1e8):Cx:=
 {X with N:=N',s₀:=s₀,H₀:=H₀,env:=compEnvC scope (bH X.env.cells scope.names []) C X.env,outer:=X.stack,ex:=ex,fn:=λ_=>false,pn:=pn,xe:=λ_ _=>False}
structure Lp(X:Cx)(scope:Scope)(vs fs:List Str)(fr:List Nat):Prop where
 kind:scope.kind=.function
 cell:(scope.names.all λy=>y.2 != .cell)=true
 free:(scope.names.all λy=>y.2 != .free||(X.env.kindOf y.1==some .cell||X.env.kindOf y.1==some .free))=true
 loc:(scope.names.all λy=>y.2 != .local||scope.names.lookup y.1==some .local)=true
 fre:(scope.names.all λy=>y.2 != .free||scope.names.lookup y.1==some .free)=true
 fsf:(fs.all λx=>scope.names.lookup x==some .free)=true
 at':fr.map (λi=>X.N[i]?)=fs.map some
def zG(X:Cx)(ifs:3e4)(t:TT):Prop:=
 ∀(pins:1e8)(s:Shared)(σ:St)(H:Hp)(Q:Bool->Hp->Prop),Inv X pins σ H s->t σ H Q->
  wpAny 2e2 X.A (forIn ifs true λc r=>if r=true then do let ok ←isTrue c X.env (eval c X.env);pure (WV ok)else pure (WV r)) (TP X pins σ Q) X.xe s
noncomputable def R4:TT:=λ_ H Q=>Q true H
theorem Ej{X:Cx}:zG X [] R4:=λ_ _ _ H _ I h=>wpAny_tests_nil ⟨H,I,h⟩
theorem Ei{X:Cx}{c:Expr}{t:TT}(h:PT X c t):zG X [c] t:=λpins s σ H Q I q=>wpAny_tests_one (h pins s σ H Q I q)
noncomputable def iD (vs:4e3)(fr:3e9)(σ:St):St:=vs.map (λ_=>none)++fr.map λi=>(σ[i]?).join
section
variable{X:Cx}{tg elt iter:Expr}{ifs:3e4}{scope:Scope}{pos:Pos}{vs fs:4e3}{fr:3e9}
theorem i3{α:Type}{p:α->Bool}{l:List α}(h:l.all p=true){x:α}(hx:x∈l):p x=true:=YW.mp h x hx
theorem Lp.CM(S:8e1):∀y∈scope.names,y.2≠.cell:=λy hy e=>by have:=i3 S.cell hy;rw[e]at this;simp at this
theorem Lp.GW(S:8e1):∀y∈scope.names,y.2=.free->X.env.kindOf y.1=some .cell\/X.env.kindOf y.1=some .free:=λy hy e=>by
 have:=i3 S.free hy;rw[e]at this;simpa using this
theorem Lp.Jf(S:8e1):∀y∈scope.names,y.2=.local->scope.names.lookup y.1=some .local:=λy hy e=>by
 have:=i3 S.loc hy;rw[e]at this;simpa using this
theorem PM{α β:Type} [BEq α] [LawfulBEq α]:∀{l:List (α×β)}{x:α}{k:β},l.lookup x=some k->(x,k)∈l
  |[],_,_,h=>by simp at h
  | (n,k')::r,x,k,h=>by
    rw[Xm]at h;cases e:x==n with
    |true=>rw[e]at h;cases h;rw[eq_of_beq e];show YS
    |false=>rw[e]at h;show YL _ (PM h)
theorem ZbE{env:Env}{x:Str}:∀{names:List (Str×Us)}{k:Us},
    (names.map λ(n,k)=>if(k==XI&&env.scope.kind==.function&&env.kindOf n==some .cell)then(n,Vr)else(n,k)).lookup x=some k->
    names.lookup x=some k\/(k=.cell/\names.lookup x=some .free)
  |[],_,h=>by simp at h
  | (n,k')::r,k,h=>by
    have ih:=@ZbE env x r k;have h':List.lookup x ((if 8e2=true then(n,Vr)else(n,k'))::(r.map λ(n,k)=>if(k==XI&&env.scope.kind==.function&&env.kindOf n==some .cell)then(n,Vr)else(n,k)))=some k:=h;cases hx:x==n with
    |true=>
      by_cases hc:8e2=true
      · rw[if_pos hc]at h'
        simp only[Xm,hx]at h'⊢;cases h';have:k'=.free:=by simp at hc;show hc.1.1
        show .inr ⟨rfl,by rw[this]⟩
      · rw[if_neg hc]at h'
        simp only[Xm,hx]at h'⊢;show .inl h'
    |false=>
      by_cases hc:8e2=true
      · rw[if_pos hc]at h'
        simp only[Xm,hx]at h'⊢;show ih h'
      · rw[if_neg hc]at h'
        simp only[Xm,hx]at h'⊢;show ih h'
theorem ZcJ{env:Env}{x:Str}:∀{names:List (Str×Us)},names.lookup x=some .free->
    let l:=(names.map λ(n,k)=>if(k==XI&&env.scope.kind==.function&&env.kindOf n==some .cell)then(n,Vr)else(n,k)).lookup x
    l=some .cell\/l=some .free
  |[],h=>by simp at h
  | (n,k')::r,h=>by
    have ih:=@ZcJ env x r;change List.lookup x ((if 8e2=true then(n,Vr)else(n,k'))::(r.map λ(n,k)=>if(k==XI&&env.scope.kind==.function&&env.kindOf n==some .cell)then(n,Vr)else(n,k)))=some .cell\/
      List.lookup x ((if 8e2=true then(n,Vr)else(n,k'))::(r.map λ(n,k)=>if(k==XI&&env.scope.kind==.function&&env.kindOf n==some .cell)then(n,Vr)else(n,k)))=some .free
    cases hx:x==n with
    |true=>
      simp only[Xm,hx]at h;have h:k'=.free:=YR h;by_cases hc:8e2=true
      · rw[if_pos hc,Xm,hx];show .inl rfl
      · rw[if_neg hc,Xm,hx,h];show .inr rfl
    |false=>
      simp only[Xm,hx]at h;by_cases hc:8e2=true
      · rw[if_pos hc];simp only[Xm,hx];show ih h
      · rw[if_neg hc];simp only[Xm,hx];show ih h
end
section
variable{X:Cx}{tg elt iter:Expr}{ifs:3e4}{scope:Scope}{pos:Pos}{vs fs:4e3}{fr:3e9}
theorem Lp.FD(S:8e1)(ok:X.Ok):∀y∈scope.names,y.2=.free->∃c,X.env.cells.lookup y.1=some c:=λy hy e=>ok.has y.1 (S.GW y hy e)
theorem Lp.cl(S:8e1)(ok:X.Ok){x:Str}{c:Addr}(e:(bH X.env.cells scope.names []).lookup x=some c):X.env.cells.lookup x=some c:=
 ZdC (S.FD ok) (λ_ _ q=>by simp at q) x c e
theorem zb{h:Heap}{b:Addr}{o:Obj}{n:Nat}(e:h.get? b=some o)(hn:h.objs.size<=n):b≠n:=Yw (Yz (Ys e) hn)
theorem Zd2{pins:1e8}{σ:St}{H:Hp}{s:Shared}{fp:2e1}{C:Addr}{h1:Heap}{tk:Nat}{m1:2e5}(S:8e1)(I:2e0)
  (hf:∀b∈fp,fm X pins H b) (GL:∀b∈fp,∃o,s.heap.get? b=some o) (hC:s.heap.objs.size<=C) (hn:h1.Ns C m1) (old:∀b o,s.heap.get? b=some o->h1.get? b=some o):
  Inv (d8 X (vs++fs) scope C s H fp (X.pn++pins)) [] (iD vs fr σ) H {s with heap:=h1,toks:=tk}:=by
 have cl:=λx c e=>S.cl I.ok (x:=x) (c:=c) e;have yt:=I.h7;have CL:∀x c,X.env.cells.lookup x=some c->c<s.heap.objs.size:=λx c e=>by obtain⟨v,q⟩:=I.cell x c e;show q.lt
 show⟨⟨I.ok.mod,S.kind,I.ok.glob,I.ok.blt,hC,λx y c e1 e2=>I.ok.inj x y c (cl x c e1) (cl y c e2),λx hx=>?_,λ_ _ z _=>(nomatch z),I.ok.hd,I.ok.frames,.inl rfl,λb hb=>?_,I.bs,Xb I.ok.Ks I.sz,λb o e hb=>?_,λb hb z=>?_,I.stack,I.u7⟩,
  rfl,I.bare,Un.kept old,⟨m1,hn,λi x v e1 e2 e3=>?_⟩,λx c e=>?_,I.aQ.fresh hC,λx c e=>I.eG x c (cl x c e),λp hp=>?_,I.aQ.kept old,?_⟩
 ·-- has
  have nB:(relabel scope X.env).names.lookup x=some .cell\/(relabel scope X.env).names.lookup x=some .free:=hx;have:scope.names.lookup x=some .free:=by
   rcases nB with q|q
   ·rcases ZbE q with q|⟨_,q⟩
    ·show absurd rfl (S.CM _ (PM q))
    ·show q
   ·rcases ZbE q with q|⟨q,_⟩
    ·show q
    ·cases q
  show Z' (PM this)
 ·-- ZD
  obtain⟨o,ho⟩:=GL b hb;obtain⟨f0,f1,f2,f3,f4,f5⟩:=hf b hb;show⟨zb ho hC,λx c e=>f4 x c (cl x c e)⟩
 ·-- yb
  have e':=(I.ok.bs b o e).1;obtain⟨_,_,_,f3,_,_⟩:=hf b hb;rcases f3 with z|z
  ·show I.ok.yb b o e z
  ·show absurd (Yz (Ys e') z) (Wx _)
 ·-- B7
  obtain⟨_,f1,f2,_⟩:=hf b hb;rcases Yk.mp (yt b z)with q|q
  ·show f1 q
  ·show f2 q
 ·-- loc
  have e1:(vs++fs)[i]? = some x:=e1;ext iD e2;by_cases hi:i<vs.length
  ·rw[Yp (by simpa using hi)]at e2
   simp[hi]at e2
  ·rw[YE (by simpa using hi),Yj,Yx]at e2
   rw[YE (by simpa using hi)]at e1;obtain⟨j,hj⟩:∃j,fr[i-vs.length]? = some j:=by
    cases q:fr[i-vs.length]? with
    |none=>rw[q]at e2;cases e2
    |some j=>show⟨j,rfl⟩
   rw[hj]at e2;have Kg:(σ[j]?).join=some v:=YR e2;have hσ:σ[j]? = some (some v):=by
    cases q:σ[j]? with
    |none=>rw[q]at Kg;cases Kg
    |some r=>rw[q]at Kg;show congrArg some Kg
   have hN:X.N[j]? = some x:=by
    have:=congrArg (λl=>l[i-vs.length]?) S.at';simp only[Yx,hj,e1,VO]at this;show YR this
   have Td:scope.names.lookup x=some .free:=by
    have:=i3 S.fsf (YH e1);simpa using this
   have hk:=S.GW _ (PM Td) rfl;obtain⟨m,hm,hl⟩:=I.loc;have Tj:Mt X.env.scope x:=by
    rcases hk with k|k
    ·show .inr (.inl k)
    ·show .inr (.inr k)
   obtain⟨u,ru,lk⟩:=hl j x v hN hσ Tj;show⟨u,ru,?_⟩;rcases lk with⟨k,_⟩|⟨_,c,hc,hv⟩
   ·have k':X.env.kindOf x=some .local:=k
    rcases hk with z|z
    ·have z':X.env.kindOf x=some .cell:=z
     rw[k']at z';cases z'
    ·have z':X.env.kindOf x=some .free:=z
     rw[k']at z';cases z'
   ·obtain⟨c',Dy⟩:=Z' (cells:=X.env.cells) (cs:=[]) (PM Td)
    have:=cl x c' Dy;rw[hc]at this;cases this;show .inr ⟨ZcJ Td,c,Dy,?_⟩;obtain⟨o,ho,hd⟩:=hv;show⟨o,old c o ho,hd⟩
 ·-- cell
  obtain⟨v,o,ho,hd⟩:=I.cell x c (cl x c e);show⟨v,o,old c o ho,hd⟩
 ·-- pin
  have JC:p∈X.pn++pins:=by simpa[d8]using hp
  obtain⟨e,n,ne,nf,d⟩:=I.pin p JC;show⟨old _ _ e,n,zb e hC,λz=>?_,d⟩;rcases Yk.mp (yt _ z)with q|q
  ·show ne q
  ·show nf q
 ·change(iD vs fr σ).length=(vs++fs).length
  have:=congrArg List.length S.at';simp only[Yj]at this;ext iD;simp[this]
theorem comp_back{pins:1e8}{σ σ':St}{H H':Hp}{s s':Shared}{fp:2e1}{C D:Addr}{ys:List V}{aw:2e9}{n:Nat}{pl:1e8}(I:2e0)
  (hf:∀b∈fp,fm X pins H b) (J:Inv (d8 X (vs++fs) scope C s H fp (X.pn++pins)) pl σ' H' s')
  (hD:s.heap.objs.size<=D) (JT:H' D=none) (hl:ys.length<=YA) (r:Vals ys aw) (ho:s'.heap.get? D=some {cls:=.type "list",data:=.seq aw.toArray n}):Inv X pins σ (upd H' D (.lst ys)) s':=by
 have ne:∀b o,s.heap.get? b=some o->b≠D:=λb o e=>zb e hD;have u:Un (ub X.stack) fp H H' s.heap s'.heap:=J.base;show I.G8 (ch:=fp) J.os ⟨u.keep,u.slot,λb o e q hx=>?_,u.there,λb xs e=>?_,λb o xs e=>?_,λb ps e=>?_⟩ (λb o e=>?_) J.bare λb hb=>?_
 ·rw[ba (ne b o e)];show u.free b o e q hx
 ·rw[ba (gB (u.hZ b xs e) JT)];show u.hZ b xs e
 ·rw[ba (gB (u.gp b o xs e) JT)];show u.gp b o xs e
 ·obtain⟨more,q⟩:=u.jh b ps e
  show⟨more,by rw[ba (gB q JT)];show q⟩
 ·by_cases hb:b=D
  ·subst hb
   rw[fW]at e;cases e;show⟨hl,aw,n,r,ho⟩
  ·rw[ba hb]at e
   show(J.aQ b o e).cW (λ_ _ _ q=>q) (λc q=>by rw[ba (gB q JT)];show q) λc xs q=>by rw[ba (gB q JT)];show q
 ·obtain⟨f0,f1,f2,f3,f4,f5⟩:=hf b hb
  show⟨f3,f1,f4,f5⟩
end
section
variable{X:Cx}{tg elt iter:Expr}{ifs:3e4}{scope:Scope}{pos:Pos}{vs fs:4e3}{fr:3e9}{g:TG}{tt:TT}{te:TE}
theorem me{α:Type}{M:Model}{A:Around}{t:Sem α}{Q Q':α->Shared->Prop}{E:1e1}{s:Shared}(h:wpAny M A t Q (λ_ _=>False) s)(hQ:∀a s,Q a s->Q' a s):wpAny M A t Q' E s:=
 Xo h hQ λ_ _ f=>VD f
end
section
variable{prog:YF}{w:World}{A:Around}{R:9e3}{s:Shared}
theorem kO{kx vx target iter:Expr}{ifs:3e4}{scope:Scope}{pos:Pos}{it:Value}{D:Addr}{env:Env}(I:Nat->Shared->Prop)
  (turn:∀n s,I n s->wpAny 1e5 A (pyNext it) (λr s₁=>match r with
   |none=>R (.ok .next) s₁
   |some v=>wpAny 1e5 A (WT target it v) (λ_ s₁'=>wpAny 1e5 A (assign target env v) (λ_ s₂=>
     wpAny 1e5 A (forIn ifs true λc r=>if r=true then do let ok ←isTrue c env (eval c env);pure (WV ok)else pure (WV r)) (λok s₃=>
      if ok=true then wpAny 1e5 A (eval kx env) (λkv s₄=>wpAny 1e5 A (eval vx env) (λvv s₅=>
       wpAny (model prog w) A (dictSet D kv vv) (λ_ s₆=>∃m,m<n/\I m s₆) (Hv (model prog w) A env λe s'=>R (.error e) s') s₅) (Hv (model prog w) A env λe s'=>R (.error e) s') s₄) (Hv (model prog w) A env λe s'=>R (.error e) s') s₃
      else ∃m,m<n/\I m s₃) (Hv (model prog w) A env λe s'=>R (.error e) s') s₂) (Hv (model prog w) A env λe s'=>R (.error e) s') s₁') (Hv (model prog w) A env λe s'=>R (.error e) s') s₁) (Hv (model prog w) A env λe s'=>R (.error e) s') s)
  (n:Nat) (h:I n s):
  WA 1e5 A (.compLoop (.DictComp kx vx [⟨target,iter,ifs,0⟩] scope pos) 0 it (.ref D) env) R s:=by
 show codeAny_loop rfl I (λn s hI=>?_) n h;change wpAny _ A ((Mo (.DictComp kx vx [⟨target,iter,ifs,0⟩] scope pos) 0 it (.ref D) env).onRaise (λx=>do noteFrame x env;theTreesLotGoes x)) _ _ s;show wpAny_noted ?_;rw[compTurn_dict];show Ya (W9 (Ya (Xo (turn n s hI) (λr s₁ h₁=>?_) λ_ _ h'=>h')));cases r with
 |none=>show Yc h₁
 |some v=>
  show Ya (Xo h₁ (λ_ s₁' h₁'=>?_) λ_ _ h'=>h');show Ya (Xo h₁' (λ_ s₂ h₂=>Ya (Xo h₂ (λok s₃ h₃=>?_) λ_ _ h'=>h')) λ_ _ h'=>h');cases ok with
  |false=>show Yc ⟨rfl,h₃⟩
  |true=>
   show Ya (Ya (Xo h₃ (λkv s₄ h₄=>Ya (Xi (Xo h₄ (λvv s₅ h₅=>Ya (W9 (Xi (Xo h₅ (λ_ s₆ h₆=>Yc ⟨rfl,h₆⟩) λ_ _ h'=>h')))) λ_ _ h'=>h'))) λ_ _ h'=>h'))
end
section
variable{X:Cx}{pins:1e8}{σ:St}{H:Hp}{s:Shared}{a:Addr}{y v:V}{u r:Value}{A:Around}{E:1e1}
theorem yO{H':Hp}{Q:Unit->Shared->Prop}(hu:A.units+1<cLine)(I:2e0)(g:rl H a y v H')(ry:RelV y u)(rv:RelV v r)(h:∀s',Inv X pins σ H' s'->Q () s'):
  wpAny 2e2 A (dictSet a u r) Q E s:=by
 rcases g with⟨ag,k,e,ey,l,eH⟩|⟨ag,k,b,e,ey,eb,l,eH⟩
 ·subst ey eH
  obtain⟨z,hd,vs,rel,dd⟩:=Cp I.aQ e;have hz:vs.length<=sizeLine:=by rw[←rel.length];show z
  have hl:(putK ag k v).length<=sizeLine:=by have:=Ml ag k v;lia
  show wpAny_dictSet_pairs (hsz:=hz) (lO ry) dd λh' CB hs=>h _ ?_;have he:∃q,h'.get? a=some q:=let⟨q,_,_,hq,_⟩:=CB;⟨q,hq⟩
  show Po I (by rw[e];show K7) hs he (Cq hl hd (rel.put k rv) CB)
 ·subst ey eH
  cases(show u=YN b from ry);obtain⟨z,hd,xs,rel,dd⟩:=Cj I.aQ e;have hz:xs.length<=sizeLine:=by rw[←Ww rel];show z
  have hl:(putK ag k v).length<=sizeLine:=by have:=Ml ag k v;lia
  show wpAny_dictSet_heap (hsz:=hz) (show(Vy (aD X.prog X.w)).room A from by change A.units<cLine;lia) (KG I.aQ eb) dd λh' CB hs=>h _ ?_;obtain⟨q,es,ep,hq,h2,h3,h4,_,h5⟩:=CB;show Po I (by rw[e];show K7) hs ⟨q,hq⟩ ⟨hl,hd,_,(rel.put k eb rv).keeps λc ys ec=>?_,q,es,ep,hq,h2,h3,h4,h5⟩;rw[ba (A0 ec e (λz=>nomatch z))];show ec
end
def Dn(J:It)(vs:4e3)(fr:3e9)(g:TG)(tt:TT)(tk te:TE)(σ:St)(H1:Hp)(Q:VK):Prop:=
 ∀D,H1 D=none->∃W:Nat->Nat->St->Hp->Prop,(∃m,W 0 m (iD vs fr σ) (upd H1 D (.dT [])))/\∀i m σ' H,W i m σ' H->
  (J.stop i H/\Q (.ref D) H)\/
  (J.go i H/\∃N:St->Hp->Prop,(∀σ2 H2,N σ2 H2->∃m',m'<m/\W (i+1) m' σ2 H2)/\∀x H',J.uZ i H x H'->g x σ' H' λσ2 H2=>tt σ2 H2 λb H3=>
   if b=true then tk σ2 H3 λy H4=>te σ2 H4 λv H5=>∃H6,rl H5 D y v H6/\N σ2 H6 else N σ2 H3)
noncomputable def zX (wi:TI)(vs:4e3)(fr:3e9)(g:TG)(tt:TT)(tk te:TE):TE:=λσ H Q=>wi σ H λJ H1=>Dn J vs fr g tt tk te σ H1 Q
section
variable{X:Cx}{tg kx vx iter:Expr}{ifs:3e4}{scope:Scope}{pos:Pos}{vs fs:4e3}{fr:3e9}{g:TG}{tt:TT}{tk te:TE}
theorem ux{pins:1e8}{σ σ':St}{H H':Hp}{s s':Shared}{fp:2e1}{C:Addr}{pl:1e8}(I:2e0)
  (hf:∀b∈fp,fm X pins H b) (J:Inv (d8 X (vs++fs) scope C s H fp (X.pn++pins)) pl σ' H' s'):Inv X pins σ H' s':=by
 have u:Un (ub X.stack) fp H H' s.heap s'.heap:=J.base;show I.G8 (ch:=fp) J.os u J.aQ J.bare λb hb=>?_;obtain⟨f0,f1,f2,f3,f4,f5⟩:=hf b hb;show⟨f3,f1,f4,f5⟩
theorem qE{pins:1e8}{σ:St}{H:Hp}{s:Shared}{Q:VK}{it:Addr}{fp:2e1}{tn:Nat->Heap->Prop}{J:It}{RR:Value->Addr->Result->Shared->Prop}
  (S:8e1) (hc:5e0) (hu:X.A.units+1<cLine)
  (bG:∀C s₀ H₀ ex pn,PG 1e2 tg g) (bT:∀C s₀ H₀ ex pn,zG 1e2 ifs tt) (bK:∀C s₀ H₀ ex pn,PE 1e2 kx tk) (bE:∀C s₀ H₀ ex pn,PE 1e2 vx te)
  (I:2e0) (T:Turn X.prog X.w X.K tg J fp it tn) (st:tn 0 s.heap) (hf:∀b∈fp,fm X pins H b)
  (q:Dn J vs fr g tt tk te σ H Q)
  (Zm:∀D C H' s' m',Inv X pins σ H' s'->Q (.ref D) H'->s'.heap.Ns C m'->H' C=none->s.heap.objs.size<=C->RR (.ref D) C (.ok .next) s'):
  wpAny 2e2 X.A newDict (λacc s₃=>wpAny 2e2 X.A (newFunctionEnv scope X.env.globals (bH X.env.cells scope.names []) [] X.env.qual none .none (some X.env)) (λCK s₄=>
   WA (model X.prog X.w) X.A (.compStart (.DictComp kx vx [⟨tg,iter,ifs,0⟩] scope pos) 0 (.ref it) acc {CK with scope:=relabel scope X.env}) (RR acc CK.locals) s₄) X.xe s₃) X.xe s:=by
 have JT:H s.heap.objs.size=none:=I.aQ.fresh (Yl _);obtain⟨W,⟨m0,w0⟩,turn⟩:=q s.heap.objs.size JT;have I':=I.laid (a:=s.heap.objs.size) (o:=.dT []) (t':=s.toks) (λ_ _ q=>Yb _ q) (Yl _) (qt s.heap I.big);have OB:∀b∈fp,∃o,s.heap.get? b=some o:=λb hb=>by obtain⟨o,e,_⟩:=T.obj 0 _ st b hb;show⟨o,e⟩
 have Fh:∀b∈fp,b≠s.heap.objs.size:=λb hb=>by obtain⟨o,e⟩:=OB b hb;show zb e (Yl _)
 have V':∀b∈fp,fm X pins (upd H s.heap.objs.size (.dT [])) b:=λb hb=>by
  obtain⟨f0,f1,f2,f3,f4,f5⟩:=hf b hb;show⟨by rw[ba (Fh b hb)];show f0,f1,f2,f3,f4,f5⟩
 show Y6 (wpAny_newFunctionEnv S.CM (by intro y hy;simp at hy) (λh₁ hns₁ hsb₁=>?_) S.kind);dsimp only at hns₁ hsb₁⊢;generalize LU:s.heap.push {cls:=.type "dict",data:=.dict #[]}=H2 at hns₁ hsb₁ I'⊢;have QN:H2.objs.size=s.heap.objs.size+1:=by rw[←LU,V7]
 have old:∀b o,H2.get? b=some o->h₁.get? b=some o:=λb o e=>hsb₁.extBut b o (zb e (Yl _)) (Yb _ e);have IJ:∀b o,s.heap.get? b=some o->H2.get? b=some o:=λb o e=>by rw[←LU];show Yb _ e
 have GL:∀b∈fp,∃o,H2.get? b=some o:=λb hb=>by obtain⟨o,e⟩:=OB b hb;show⟨o,IJ b o e⟩
 generalize GG:({s with heap:=H2,toks:=s.toks}:Shared)=s2 at I';have ZE:s2.heap=H2:=by rw[←GG]
 generalize hY:d8 X (vs++fs) scope H2.objs.size s2 (upd H s.heap.objs.size (.dT [])) fp (X.pn++pins)=Y;have J0:Inv Y [] (iD vs fr σ) (upd H s.heap.objs.size (.dT [])) {s with heap:=h₁,toks:=s.toks+([]:List (Str×Value)).length}:=by
  rw[←hY];have:=Zd2 (tk:=s.toks+([]:List (Str×Value)).length) S I' V' (by rw[ZE];show GL) (by rw[ZE];show Yl _) hns₁ (by rw[ZE];show old);rw[←GG]at this⊢;show this
 have hG:PG Y tg g:=by rw[←hY];show bG _ _ _ _ _
 have hT:zG Y ifs tt:=by rw[←hY];show bT _ _ _ _ _
 have hK:PE Y kx tk:=by rw[←hY];show bK _ _ _ _ _
 have hE:PE Y vx te:=by rw[←hY];show bE _ _ _ _ _
 have G3:Y.prog=X.prog:=by rw[←hY];rfl
 have eW:Y.w=X.w:=by rw[←hY];rfl
 have eK:Y.K=X.K:=by rw[←hY];rfl
 have eA:Y.A=X.A:=by rw[←hY];rfl
 have eC:Y.calm=true:=by rw[←hY];show hc
 have uu:Y.env=compEnvC scope (bH X.env.cells scope.names []) H2.objs.size X.env:=by rw[←hY];rfl
 have eL:Y.env.locals=H2.objs.size:=by rw[uu];rfl
 have eX:Y.xe=λ_ _=>False:=by rw[←hY];rfl
 have ZG:Y.ex=fp:=by rw[←hY];rfl
 have QS:Y.fs=ub X.stack:=by rw[←hY];rfl
 have QR:Y.pn=X.pn++pins:=by rw[←hY];rfl
 have QT:∀x c,Y.env.cells.lookup x=some c->X.env.cells.lookup x=some c:=λx c e=>by
  rw[uu]at e;show S.cl I.ok e
 have fJ:∀{H':Hp},10e2->∀b∈fp,fm Y [] H' b:=λ{H'} hn b hb=>by
  obtain⟨f0,f1,f2,f3,f4,f5⟩:=hf b hb;obtain⟨ob,e⟩:=GL b hb;show⟨hn b hb,by rw[eL];show zb e (Yl _),λz=>?_,.inl (by rw[ZG];show hb),λx c e=>f4 x c (QT x c e),λp hp=>?_⟩
  ·rw[QS]at z
   rcases Yk.mp (I.h7 _ z)with z|z
   ·show f1 z
   ·show f2 z
  ·rw[YG,QR]at hp;show f5 p hp
 have loop:∀s₃:Shared,s₃={s with heap:=h₁,toks:=s.toks+([]:List (Str×Value)).length}->
   WA 2e2 X.A (.compLoop (.DictComp kx vx [8e9] scope pos) 0 (.ref it) 5e1 (compEnvC scope (bH X.env.cells scope.names []) H2.objs.size X.env))
    (RR 5e1 H2.objs.size) s₃:=by
  rintro s₃ rfl;rw[←uu,←G3,←eW,←eA];show kO (λn s'=>∃i σ' H',Inv Y [] σ' H' s'/\tn i s'.heap/\10e2/\W i n σ' H') ?_ m0
   ⟨0,_,_,J0,T.keep _ _ _ st λb _ o e=>old b o (IJ b o e),λb hb=>(V' b hb).1,w0⟩
  rintro n s3 ⟨i,σ3,H3,J3,zp,kl,w3⟩;rcases turn i n σ3 H3 w3 with⟨stop,qn⟩|⟨go,N,hN,step⟩
  ·have dn:=T.done Y G3 eW eK eC i _ s3 σ3 H3 (λ_ _=>False) J3 (fJ kl) zp stop
   rw[←G3,←eW]at dn;show me dn λr s4 h_=>?_;obtain⟨hr,J4⟩:=h_;subst hr;obtain⟨m4,Oi,_⟩:=id J4.loc;rw[eL]at Oi;have nC:H3 H2.objs.size=none:=by rw[←eL];show J4.free
   show Zm _ _ _ s4 m4 (ux I' V' (by rw[hY];show J4)) qn Oi nC (by rw[QN];show P6 _)
  ·have im:=T.item Y G3 eW eK eC i _ s3 σ3 H3 (λ_ _=>False) J3 (fJ kl) zp go
   rw[←G3,←eW]at im;show me im λr s4 h_=>?_;obtain⟨u,hr,h4⟩:=h_;subst hr;show me h4 λ_ s5 h_=>?_;obtain⟨x,H5,J5,r5,y5,rW,Kb⟩:=h_;have Qh:=J5.pinned (fJ Kb) (T.obj _ _ rW);have GQ:=hG _ s5 σ3 H5 x u _ Qh r5 (step x H5 y5);rw[eX]at GQ;show me GQ λ_ s6 h_=>?_;obtain⟨σ6,H6,J6,q6⟩:=h_;have go2:=hT _ s6 σ6 H6 _ J6 q6;rw[eX]at go2;show me go2 λok s7 h_=>?_;obtain⟨H7,J7,q7⟩:=h_;have fin:∀{σ8:St}{H8:Hp}{s8:Shared},Inv Y ([]++eR fp s5.heap) σ8 H8 s8->
     tn (i+1) s8.heap/\(∀b∈fp,H8 b=none):=λ{σ8 H8 s8} J8=>by
    show⟨T.keep _ _ _ rW λb hb o e=>(J8.pin (b,o) (Yo _ (Yo _ (Ho hb e)))).1,λb hb=>?_⟩;obtain⟨o,e,d⟩:=T.obj _ _ rW b hb;show(J8.pin (b,o) (Yo _ (Yo _ (Ho hb e)))).2.1
   cases ok with
   |false=>
    rw[if_neg Yn]at q7⊢;obtain⟨m',hm,w7⟩:=hN _ _ q7;show⟨m',hm,i+1,σ6,H7,J7.eh,(fin J7).1,(fin J7).2,w7⟩
   |true=>
    rw[if_pos rfl]at q7⊢;have GP:=hK _ s7 σ6 H7 _ J7 q7;rw[eX]at GP;show me GP λkv s8 h_=>?_;obtain⟨y,H8,J8,r8,q8⟩:=h_;have go4:=hE _ s8 σ6 H8 _ J8 q8;rw[eX]at go4;show me go4 λvv s9 h_=>?_;obtain⟨v,H9,J9,r9,H10,pt,n10⟩:=h_;obtain⟨m',hm,w10⟩:=hN _ _ n10;show yO (by rw[eA];show hu) J9 pt r8 r9 λs10 J10=>⟨m',hm,i+1,σ6,H10,J10.eh,(fin J10).1,(fin J10).2,w10⟩
 show codeAny_compStart_dict (loop _ rfl) (T.self _ 0 _ _ _ (T.keep _ _ _ st λb _ o e=>old b o (IJ b o e)) (loop _ rfl))
end
section
variable{X:Cx}{tg kx vx iter:Expr}{ifs:3e4}{scope:Scope}{pos:Pos}{vs fs:4e3}{fr:3e9}{g:TG}{tt:TT}{tk te:TE}
theorem AN{wi:TI}(S:8e1)(hc:5e0)(hu:X.A.units+1<cLine)(hi:PI X tg iter wi)
  (bG:∀C s₀ H₀ ex pn,PG 1e2 tg g) (bT:∀C s₀ H₀ ex pn,zG 1e2 ifs tt) (bK:∀C s₀ H₀ ex pn,PE 1e2 kx tk) (bE:∀C s₀ H₀ ex pn,PE 1e2 vx te)
  (hs:9e2:=by intro _;rfl):
  PE X (.DictComp kx vx [8e9] scope pos) (zX wi vs fr g tt tk te):=by
 intro pins s σ H Q I h;rw[arm_eval_DictComp];show Ui (use:=none) rfl hs (ZcF (S.FD I.ok)) S.kind S.Jf (bS (hi pins s σ H _ I h) λv s1 h1=>bS h1 λLz s2 h2=>?_);obtain⟨it,fp,tn,J,H2,e,I2,T,iP,f2,q2⟩:=h2;subst e;show qE (RR:=λacc C=>compPost 2e2 X.A X.xe none (EP X pins σ Q) acc C) S hc hu bG bT bK bE I2 T iP f2 q2 ?_;intro D C H' s' m' I' hq hn hC hle;show⟨m',hn,λh' eF=>⟨.ref D,H',?_,rfl,hq⟩⟩;show I'.turned (t':=s'.toks) (λb o hb e=>(eF.2 b hb).trans e) hC ?_ (.inr (Xb I2.sz hle)) ?_ ?_
 ·show XW (Yz I2.lt hle)
 ·intro x c e
  obtain⟨v,z⟩:=I2.cell x c e;show Yw (Yz z.lt hle)
 ·intro p hp
  show zb (I2.pin p hp).1 hle
end
section
variable{X:Cx}
noncomputable def Its (z:Str):It:=⟨λi _=>i<z.cps.size,λi H x H'=>H'=H/\∃c,z.cps[i]? = some c/\x=.str ⟨#[c]⟩,λi _=>i=z.cps.size⟩
theorem oE{P:YF}{w:World}{K:W.Frag}{tg:Expr}{it:Addr}{z:Str}{t:Tok}{ty:String}(LB:ty="str_ascii_iterator"\/ty="str_iterator"):Turn P w K tg (Its z) [it] it (λi h=>h.IsStrIter it ty z t i) where
 mem:=by simp
 obj:=λi h st b hb=>by
  have e:b=it:=by simpa using hb
  subst e;obtain⟨o,e,c,d⟩:=st;show⟨o,e,λv z=>by rw[d]at z;cases z⟩
 keep:=λi h h' st k=>by
  obtain⟨o,e,c,d⟩:=st;show⟨o,k it 2e6 o e,c,d⟩
 item:=by
  sleep 1;sleep 3;have fin:∀v h' tk,SignAt z i v->h'.IsStrIter it ty z t (i+1)->(∀b o,b∉[it]->s.heap.get? b=some o->h'.get? b=some o)->
    ∃u,some v=some u/\wpAny 2e2 X.A (WT tg (.ref it) u) (λ_ s2=>∃x H',Inv X pins σ H' s2/\RelV x u/\(Its z).uZ i H x H'/\s2.heap.IsStrIter it ty z t (i+1)/\∀b∈[it],H' b=none) E {s with heap:=h',toks:=tk}:=λv h' tk hv aC kk=>by
   obtain⟨c,u,hcx,rfl⟩:=hv;have I1:Inv X pins σ H {s with heap:=h',toks:=tk}:=I.turned (λb o hb e=>kk b o (by simpa using hb) e) f0 f1 f3 f4 f5;obtain⟨o,e,oc,d⟩:=id aC;show⟨_,rfl,lQ (s:={s with heap:=h',toks:=tk}) e oc d (by rcases LB with rfl|rfl<;>decide) ⟨.str ⟨#[c]⟩,H,I1,⟨u,rfl⟩,⟨rfl,c,hcx,rfl⟩,aC,λb hb=>(hf b hb).1⟩⟩
  rcases LB with rfl|rfl
  ·show(Walks.strAscii (prog:=X.prog) (w:=X.w) (I.ok.hd hc) it z t).item i s _ _ hg st fin
  ·show(Walks.strWide (prog:=X.prog) (w:=X.w) (I.ok.hd hc) it z t).item i s _ _ hg st fin
 done:=by
  sleep 1;sleep 3;have hg:i=z.cps.size:=hg;subst hg;have fin:∀h' tk,(∀b o,b∉[it]->s.heap.get? b=some o->h'.get? b=some o)->(none:Option Value)=none/\Inv X pins σ H {s with heap:=h',toks:=tk}:=λh' tk kk=>
   ⟨rfl,I.turned (λb o hb e=>kk b o (by simpa using hb) e) f0 f1 f3 f4 f5⟩
  rcases LB with rfl|rfl
  ·show(Walks.strAscii (prog:=X.prog) (w:=X.w) (I.ok.hd hc) it z t).done s _ _ st fin
  ·show(Walks.strWide (prog:=X.prog) (w:=X.w) (I.ok.hd hc) it z t).done s _ _ st fin
 self:=λ_ _ _ _ _ st h=>by
  rcases LB with rfl|rfl
  ·show wpAny_pyIter_striter_ascii st h
  ·show wpAny_pyIter_striter_wide st h
theorem range_all(bs:List Bool):((YB bs.length).all λi=>bs.getD i false)=bs.all id:=by
 rw[WU];simp only[YW,Y3];constructor
 ·intro h b hb
  obtain⟨i,hi,e⟩:=XO hb;have:=h i hi;rw[Yt,Ye hi]at this;subst e;simpa using this
 ·intro h i hi
  rw[Yt,Ye hi];simpa using h _ (Wr hi)
theorem qM(hc:5e0):cM X (.builtin "all") (λxs H Q=>∃(a:Addr)(bs:List Bool),xs=[.ref a]/\fH X.K H a (bs.map V.bl)/\Q (.bl (bs.all id)) H):=by
 intro pins s σ H xs us Q I r h;obtain⟨a,bs,rfl,hq,q⟩:=h;obtain⟨u,rfl,ru⟩:=Vals.one r;cases(show u=YN a from ru);obtain⟨aw,rv,p,hz⟩:=I.list hq;have bA:a<s.heap.objs.size:=by obtain⟨o,e,_⟩:=p.isList;show Ys e
 show call_all_walk (VY p.isList ?_);have hlen:aw.toArray.size=bs.length:=by have:=rv.length;simp at this;simp[this]
 show⟨s.heap.objs.size,_,_,aw.toArray.size,_,_,λi=>bs.getD i false,rfl,Walks.list (by show I.ok.hd hc) s.heap.objs.size a (Yw bA) aw.toArray,⟨6e3,p.isList.push _⟩,?_,?_⟩
 ·intro i v s' Q' E' hv Zn
  have hi:i<bs.length:=by
   rw[←hlen];show(Yau.mp hv).1
  obtain⟨u,e1,r1⟩:=rv.get (i:=i) (x:=V.bl bs[i]) (by simp[hi]);have e2:aw[i]? = some v:=by simpa using hv
  rw[e1]at e2;have e3:u=v:=YR e2;have e4:u=Uf bs[i]:=r1;rw[←e3,e4];show VX ?_;have:bs.getD i false=bs[i]:=by rw[Yt,Ye hi];rfl
  have OR:Q' (bs.getD i false) s':=Zn;rw[this]at OR;show OR
 ·intro h' tk kk
  show⟨.bl _,H,I.kept λb o e=>kk b o (λz=>?_) (Yb _ e),?_,q⟩
  ·have:b=s.heap.objs.size:=by simpa using z
   show absurd this (Yw (Ys e))
  ·change Uf _=Uf _
   rw[hlen,range_all]
end
end L2
namespace Se
open PySem PySem.SetTable
noncomputable def rL (mask:Nat)(p:Probe):Probe:=
 if p.more>0 then{p with j:=p.j+1,more:=p.more-1}else
 {p with j:=(leap mask p.i p.perturb).1,more:=runEnd mask (leap mask p.i p.perturb).1-(leap mask p.i p.perturb).1,i:=(leap mask p.i p.perturb).1,perturb:=(leap mask p.i p.perturb).2}
theorem CZ(t:Wc)(p:Probe):t.advance p=rL t.mask p:=by unfold SetTable.advance rL;rfl
def it(mask:Nat):Nat->Probe->Probe
 |0,p=>p
 |n+1,p=>it mask n (rL mask p)
theorem wo(mask n:Nat):∀p,it mask (n+1) p=rL mask (it mask n p):=by
 induction n with
 |zero=>intro p;rfl
 |succ n ih=>intro p;show ih (rL mask p)
theorem Hh(mask a:Nat):∀(b:Nat)(p:Probe),it mask (a+b) p=it mask b (it mask a p):=by
 induction a with
 |zero=>intro b p;rw[WN];rfl
 |succ a ih=>intro b p;rw[Nat.succ_add];show ih b (rL mask p)
noncomputable def cq (mask i d pt:Nat):Probe:={j:=i+d,more:=runEnd mask i-i-d,i:=i,perturb:=pt,dummy:=none}
noncomputable def len (mask i:Nat):Nat:=runEnd mask i-i
theorem Bq(mask i:Nat):len mask i<=9:=by unfold len runEnd;split<;>lia
theorem uM{mask i d pt:Nat}(h:d<len mask i):rL mask (cq mask i d pt)=cq mask i (d+1) pt:=by
 ext len h;unfold rL cq;sleep 6;rw[if_pos 1e0];have e1:i+d+1=i+(d+1):=by lia
 have e2:runEnd mask i-i-d-1=runEnd mask i-i-(d+1):=by lia
 rw[e1,e2]
theorem oh{mask i d pt:Nat}(h:d=len mask i):rL mask (cq mask i d pt)=cq mask (leap mask i pt).1 0 (leap mask i pt).2:=by
 ext len h;unfold rL cq;sleep 6;rw[if_neg 1e0];rfl
theorem p8{mask i pt:Nat}:∀(k d:Nat),d+k<=len mask i->it mask k (cq mask i d pt)=cq mask i (d+k) pt
 |0,d,_=>rfl
 |k+1,d,h=>by
  change it mask k (rL mask (cq mask i d pt))=_;rw[uM 1e0,p8 k (d+1) 1e0];have e:d+1+k=d+(k+1):=by lia
  rw[e]
theorem i7{mask i d pt:Nat}(h:d<=len mask i):it mask (len mask i-d+1) (cq mask i d pt)=cq mask (leap mask i pt).1 0 (leap mask i pt).2:=by
 rw[wo,p8 _ _ 1e0,oh 1e0]
noncomputable def lp (mask:Nat):Nat->Nat×Nat->Nat×Nat
 |0,p=>p
 |n+1,p=>lp mask n (leap mask p.1 p.2)
theorem BC(mask:Nat):∀(k i pt:Nat),∃c,c<=10*k/\it mask c (cq mask i 0 pt)=cq mask (lp mask k (i,pt)).1 0 (lp mask k (i,pt)).2
 |0,i,pt=>⟨0,Y2 _,rfl⟩
 |k+1,i,pt=>by
  obtain⟨c,hc,e⟩:=BC mask k (leap mask i pt).1 (leap mask i pt).2;show⟨(len mask i-0+1)+c,?_,?_⟩
  ·have:=Bq mask i;lia
  ·rw[Hh,i7 (Y2 _),e];rfl
theorem Jd(mask a:Nat):∀(b:Nat)(p:Nat×Nat),lp mask (a+b) p=lp mask b (lp mask a p):=by
 induction a with
 |zero=>intro b p;rw[WN];rfl
 |succ a ih=>intro b p;rw[Nat.succ_add];show ih b _
theorem Bi(mask:Nat):∀(k i pt:Nat),(lp mask k (i,pt)).2=pt/32^k
 |0,i,pt=>by simp[lp]
 |k+1,i,pt=>by
  change(lp mask k (leap mask i pt)).2=_;have:leap mask i pt=((i*5+1+pt/32)%(mask+1),pt/32):=rfl;rw[this,Bi mask k,Nat.div_div_eq_div_mul,Nat.pow_succ,Nat.mul_comm]
theorem Bj(mask:Nat):∀(k i pt:Nat),i<mask+1->(lp mask k (i,pt)).1<mask+1
 |0,i,pt,h=>h
 |k+1,i,pt,h=>Bj mask k _ _ (VF _ (P9 _))
noncomputable def f (mask i:Nat):Nat:=(i*5+1)%(mask+1)
def fk(mask:Nat):Nat->Nat->Nat
 |0,i=>i
 |n+1,i=>fk mask n (f mask i)
theorem nq(mask:Nat):∀(k i:Nat),lp mask k (i,0)=(fk mask k i,0)
 |0,i=>rfl
 |k+1,i=>by
  change lp mask k (leap mask i 0)=_;have:leap mask i 0=(f mask i,0):=by simp[leap,f]
  rw[this,nq mask k];rfl
theorem uf(mask a:Nat):∀(b i:Nat),fk mask (a+b) i=fk mask b (fk mask a i):=by
 induction a with
 |zero=>intro b i;rw[WN];rfl
 |succ a ih=>intro b i;rw[Nat.succ_add];show ih b _
def Mk(mask:Nat):Prop:=mask=7\/mask=31\/mask=127\/mask=511
def SF(mask:Nat):Nat->Nat->List Nat
 |0,_=>[]
 |n+1,i=>i::SF mask n (f mask i)
theorem vC(mask:Nat):∀(n i j:Nat),j∈SF mask n i->∃k,k<n/\fk mask k i=j
 |0,i,j,h=>by cases h
 |n+1,i,j,h=>by
  rcases Yk.mp h with rfl|h
  ·show⟨0,by lia,rfl⟩
  ·obtain⟨k,hk,e⟩:=vC mask n _ _ h
   show⟨k+1,by lia,e⟩
theorem vD{mask:Nat}(h:Mk mask):(YB (mask+1)).all (λj=>(SF mask (mask+1) 0).elem j)=true/\fk mask (mask+1) 0=0:=by
 rcases h with rfl|rfl|rfl|rfl<;>show⟨by decide +kernel,by decide +kernel⟩
theorem GV{mask j:Nat}(h:Mk mask)(hj:j<mask+1):∃k,k<mask+1/\fk mask k 0=j:=by
 have:=YW.mp (vD h).1 j (Y3.mpr hj);show vC mask _ _ _ (List.elem_iff.mp this)
theorem OT{mask i j:Nat}(h:Mk mask)(hi:i<mask+1)(hj:j<mask+1):∃k,k<mask+1/\fk mask k i=j:=by
 obtain⟨a,ha,ea⟩:=GV h hi;obtain⟨b,hb,eb⟩:=GV h hj;by_cases dN:a<=b
 ·show⟨b-a,by lia,?_⟩
  rw[←ea,←uf,show a+(b-a)=b by lia,eb]
 ·show⟨b+(mask+1)-a,by lia,?_⟩
  rw[←ea,←uf,show a+(b+(mask+1)-a)=(mask+1)+b by lia,uf,(vD h).2,eb]
theorem meets{mask i d pt j:Nat}(h:Mk mask)(hd:d<=len mask i)(TC:pt<2^64)(hj:j<mask+1):∃k,k<10*turns mask/\(it mask k (cq mask i d pt)).j=j:=by
 have e1:=i7 (pt:=pt) hd;obtain⟨c,hc,e2⟩:=BC mask 13 (leap mask i pt).1 (leap mask i pt).2;have hz:(lp mask 13 ((leap mask i pt).1,(leap mask i pt).2)).2=0:=by
  rw[Bi];have:(leap mask i pt).2=pt/32:=rfl;rw[this,Nat.div_div_eq_div_mul];show Nat.div_eq_of_lt (VN TC 1e7)
 have hl:(lp mask 13 ((leap mask i pt).1,(leap mask i pt).2)).1<mask+1:=Bj mask 13 _ _ (VF _ (P9 _));generalize lp mask 13 ((leap mask i pt).1,(leap mask i pt).2)=q at hz hl e2;obtain⟨i2,pt2⟩:=q;dsimp only at hz hl e2;subst hz;obtain⟨k,hk,ek⟩:=OT h hl hj;obtain⟨c2,rH,e3⟩:=BC mask k i2 0;rw[nq,ek]at e3;show⟨(len mask i-d+1)+(c+c2),?_,?_⟩
 ·have:=Bq mask i;ext turns;lia
 ·rw[Hh,e1,Hh,e2,e3];rfl
theorem wU(h:Int):bits h<2^64:=by
 ext bits;have h1:0<=h%(2^64:Int):=XD _ 1e7;have h2:h%(2^64:Int)<2^64:=Xq _ 1e7;lia
def Wf(mask:Nat)(p:Probe):Prop:=∃i d pt,p=cq mask i d pt/\d<=len mask i/\pt<2^64
theorem Wf.rL{mask:Nat}{p:Probe}(h:Wf mask p):Wf mask (rL mask p):=by
 obtain⟨i,d,pt,rfl,hd,hp⟩:=h;by_cases e:d=len mask i
 ·rw[oh e];show⟨_,0,_,rfl,Y2 _,Uw (Nat.div_le_self _ _) hp⟩
 ·rw[uM 1e0];show⟨i,d+1,pt,rfl,by lia,hp⟩
theorem Wf.it{mask:Nat}:∀(n:Nat){p:Probe},Wf mask p->Wf mask (it mask n p)
 |0,p,h=>h
 |n+1,p,h=>Wf.it n h.rL
theorem Wf.start(mask:Nat)(h:Int):Wf mask (cq mask (bits h%(mask+1)) 0 (bits h)):=⟨_,0,_,rfl,Y2 _,wU h⟩
theorem Wf.meets{mask j:Nat}{p:Probe}(w:Wf mask p)(h:Mk mask)(hj:j<mask+1):∃k,k<10*turns mask/\(Se.it mask k p).j=j:=by
 obtain⟨i,d,pt,rfl,hd,hp⟩:=w;show Se.meets h hd hp hj
theorem Wf.dummy{mask:Nat}{p:Probe}(w:Wf mask p):p.dummy=none:=by obtain⟨i,d,pt,rfl,_⟩:=w;rfl
def aR(xs:Array Nat):Prop:=∀(a b:Nat)(x y:Nat),a<b->xs[a]? = some x->xs[b]? = some y->x<y
theorem j9{xs:Array Nat}{j:Nat}(hr:aR xs):∀(fuel lo hi:Nat),lo<=hi->hi<=xs.size->hi-lo<=fuel->(∀k x,k<lo->xs[k]? = some x->x<j)->(∀k x,hi<=k->xs[k]? = some x->j<=x)->
  (∀k x,k<below.go xs j fuel lo hi->xs[k]? = some x->x<j)/\(∀k x,below.go xs j fuel lo hi<=k->xs[k]? = some x->j<=x)/\below.go xs j fuel lo hi<=xs.size
 |0,lo,hi,h1,h2,h3,ha,hb=>by
  have:hi=lo:=by lia
  subst this;show⟨ha,hb,h2⟩
 |fuel+1,lo,hi,h1,h2,h3,ha,hb=>by
  ext below.go;by_cases bA:lo<hi
  ·rw[if_pos bA]
   have hm:(lo+hi)/2<xs.size:=by lia
   obtain⟨v,hv⟩:∃v,xs[(lo+hi)/2]? = some v:=⟨_,Yh hm⟩
   have hd:xs.getD ((lo+hi)/2) j=v:=by rw[YO,hv];rfl
   sleep 6;rw[hd];by_cases hj:v<j
   ·rw[if_pos hj]
    show j9 hr fuel _ hi 1e0 h2 1e0 (λk x hk hx=>?_) hb;rcases YQ k ((lo+hi)/2)with q|q
    ·show VN (hr k _ x v q hx hv) hj
    ·have:k=(lo+hi)/2:=by lia
     subst this;rw[hv]at hx;cases hx;show hj
   ·rw[if_neg hj]
    show j9 hr fuel lo _ 1e0 1e0 1e0 ha (λk x hk hx=>?_);rcases YQ ((lo+hi)/2) k with q|q
    ·show XN (Uw (Ycb hj) (hr _ k v x q hv hx))
    ·have:k=(lo+hi)/2:=by lia
     subst this;rw[hv]at hx;cases hx;show Ycb hj
  ·rw[if_neg bA]
   have:hi=lo:=by lia
   subst this;show⟨ha,hb,h2⟩
theorem Q2{xs:Array Nat}(hr:aR xs)(j:Nat):(∀k x,k<below xs j->xs[k]? = some x->x<j)/\(∀k x,below xs j<=k->xs[k]? = some x->j<=x)/\below xs j<=xs.size:=
 j9 hr _ 0 _ (Y2 _) (Yl _) 1e0 (λk x h=>absurd h (WW _)) (λk x h e=>by rw[YJ h]at e;cases e)
theorem below_at{xs:Array Nat}(hr:aR xs){i j:Nat}(e:xs[i]? = some j):below xs j=i:=by
 obtain⟨h1,h2,h3⟩:=Q2 hr j;rcases VZ (below xs j) i with q|q|q
 ·obtain⟨v,hv⟩:∃v,xs[below xs j]? = some v:=by
   have hi:i<xs.size:=by rcases YQ i xs.size with z|z;show z;rw[YJ z]at e;cases e
   show⟨_,Yh 1e0⟩
  have a:=h2 _ _ (Yl _) hv;have b:=hr _ _ _ _ q hv e;lia
 ·show q
 ·have:=h1 i j q e;lia
theorem Ro{t:Wc}{i j:Nat}(hr:aR t.place)(e:t.place[i]? = some j):t.slot j=.live i:=by
 ext RI;rw[below_at hr e];sleep 6;rw[e];simp
theorem lJ{t:Wc}{i j:Nat}(e:t.slot j=.live i):t.place[i]? = some j:=by
 ext RI e;dsimp only at e;split at e
 ·rename_i h;cases e;show eq_of_beq h
 ·split at e<;>cases e
theorem has_none(j:Nat):has #[] j=false:=by ext has;simp
theorem xu{t:Wc}{j:Nat}(hd:t.dummies=#[])(hn:∀i:Nat,t.place[i]?≠some j):t.slot j=.empty:=by
 ext RI;sleep 6;rw[if_neg (by simpa using hn _),hd,has_none];simp
theorem yz{t:Wc}{j:Nat}(hr:aR t.place)(e:t.slot j=.empty):∀i:Nat,t.place[i]?≠some j:=by
 intro i q;rw[Ro hr q]at e;cases e
theorem xt{t:Wc}(hd:t.dummies=#[])(j:Nat):t.slot j≠.dummy:=by
 ext RI;sleep 6;rw[hd,has_none];split<;>simp
def Vab(t:Wc)(hashAt:Nat->Int)(h:Int)(p:Probe)(m:Met):Prop:=
 ∃n,(∀k,k<n->∃i,t.slot (it t.mask k p).j=.live i/\hashAt i≠h)/\
  ((m=.empty (it t.mask n p).j none/\t.slot (it t.mask n p).j=.empty)\/∃i,m=.candidate (it t.mask n p).j i (it t.mask (n+1) p)/\t.slot (it t.mask n p).j=.live i/\hashAt i=h)
theorem wH{t:Wc}{hashAt:Nat->Int}{h:Int}(hd:t.dummies=#[]):∀(fuel:Nat)(p:Probe),Wf t.mask p->(∃k,k<fuel/\t.slot (it t.mask k p).j=.empty)->∃m,probe.go t hashAt h fuel p=some m/\Vab t hashAt h p m
 |0,p,_,hk=>by obtain⟨k,hk,_⟩:=hk;show absurd hk (WW _)
 |fuel+1,p,w,hk=>by
  ext probe.go;cases e:t.slot p.j with
  |empty=>show⟨_,rfl,0,λk hk=>absurd hk (WW _),.inl ⟨by rw[w.dummy];rfl,e⟩⟩
  |dummy=>show absurd e (xt hd _)
  |live i=>
   sleep 6;by_cases q:(hashAt i==h)=true
   ·rw[if_pos q]
    show⟨_,rfl,0,λk hk=>absurd hk (WW _),.inr ⟨i,?_,e,eq_of_beq q⟩⟩;rw[CZ];rfl
   ·rw[if_neg q,CZ]
    obtain⟨k,hk,ek⟩:=hk;have k0:k≠0:=by rintro rfl;rw[show(it t.mask 0 p).j=p.j from rfl,e]at ek;cases ek
    obtain⟨k,rfl⟩:∃k',k=k'+1:=⟨k-1,by lia⟩
    obtain⟨m,em,n,h1,h2⟩:=wH hd fuel (rL t.mask p) w.rL ⟨k,by lia,ek⟩;show⟨m,em,n+1,λk hk=>?_,h2⟩;cases k with
    |zero=>show⟨i,e,by simpa using q⟩
    |succ k=>show h1 k 1e0
theorem A3{α:Type} [BEq α] [LawfulBEq α]:∀(l l':List α),l.Nodup->(∀x∈l,x∈l')->l.length<=l'.length
 |[],_,_,_=>Y2 _
 |x::l,l',hn,hs=>by
  obtain⟨h1,h2⟩:=Xj.mp hn;have hx:x∈l':=hs x 6e9;have:=A3 l (l'.erase x) h2 λy hy=>(List.mem_erase_of_ne (by rintro rfl;show h1 hy)).mpr (hs y (.tail _ hy));rw[List.length_erase_of_mem hx]at this;have:=List.length_pos_of_mem hx;simp only[Yv];lia
def start(mask:Nat)(h:Int):Probe:=cq mask (bits h%(mask+1)) 0 (bits h)
structure T0(t:Wc)(es:Array (Int×Value)):Prop where
 mm:Mk t.mask
 dm:t.dummies=#[]
 rs:aR t.place
 sz:t.place.size=es.size
 lt:∀i j:Nat,t.place[i]? = some j->j<t.mask+1
 rc:∀(i j:Nat)(e:Int×Value),t.place[i]? = some j->es[i]? = some e->∃n,(it t.mask n (start t.mask e.1)).j=j/\∀m,m<n->∃i':Nat,t.place[i']? = some (it t.mask m (start t.mask e.1)).j
structure TI(t:Wc)(es:Array (Int×Value)):Prop extends T0 t es where
 fl:es.size*5<t.mask*3
theorem Zdb{xs:Array Nat}(hr:aR xs){M:Nat}(h:∀j,j<M->∃i:Nat,xs[i]? = some j):∀j,j<M->∃i:Nat,j<=i/\xs[i]? = some j
 |0,hj=>by obtain⟨i,e⟩:=h 0 hj;show⟨i,Y2 _,e⟩
 |j+1,hj=>by
  obtain⟨i,hi,e⟩:=Zdb hr h j 1e0;obtain⟨i',e'⟩:=h (j+1) hj;show⟨i',?_,e'⟩;rcases VZ i i' with q|q|q
  ·lia
  ·subst q;rw[e]at e';show absurd (YR e') 1e0
  ·have:=hr _ _ _ _ q e' e;lia
theorem Mk.pos{mask:Nat}(h:Mk mask):7<=mask/\mask<=511/\mask%2=1:=by rcases h with rfl|rfl|rfl|rfl<;>decide
theorem T0.room{t:Wc}{es:5e9}(T:T0 t es)(hs:es.size<t.mask+1):∃j,j<t.mask+1/\t.slot j=.empty:=by
 by_cases h:∃j,j<t.mask+1/\∀i:Nat,t.place[i]?≠some j
 ·obtain⟨j,hj,hn⟩:=h;show⟨j,hj,xu T.dm hn⟩
 ·exfalso
  have h':∀j,j<t.mask+1->∃i:Nat,t.place[i]? = some j:=λj hj=>by
   apply Classical.byContradiction;intro q;show h ⟨j,hj,λi e=>q ⟨i,e⟩⟩
  obtain⟨i,hi,e⟩:=Zdb T.rs h' t.mask 1e0;have:i<t.place.size:=by
   rcases YQ i t.place.size with z|z
   ·show z
   ·rw[YJ z]at e;cases e
  have:=T.sz;lia
theorem TI.fF{t:Wc}{es:5e9}(T:TI t es):es.size<t.mask:=by have:=T.fl;lia
theorem T0.fits{t:Wc}{es:5e9}(T:T0 t es)(h:es.size<=t.mask):t.fits es.size=true:=by
 unfold SetTable.fits SetTable.fill;rw[T.dm,T.sz];simpa using h
theorem wt{α:Type}(xs:Array α)(p:Nat)(x:α)(hp:p<=xs.size)(i:Nat):(insertAt xs p x)[i]? = if i<p then xs[i]? else if i=p then some x else xs[i-1]?:=by
 rw[←YY,SetTable.toList_insertAt];have hl:(xs.toList.take p).length=p:=by simp;lia
 by_cases h:i<p
 ·rw[if_pos h,Yp 1e0,XJ h,YY]
 ·rw[if_neg h,YE 1e0,hl]
  by_cases e:i=p
  ·subst e;simp
  ·rw[if_neg e]
   obtain⟨k,hk⟩:∃k,i-p=k+1:=⟨i-p-1,by lia⟩
   rw[hk,WJ,List.getElem?_drop,YY]
   congr 1;lia
theorem jP{α:Type}(xs:Array α)(p:Nat)(x:α):(insertAt xs p x).size=xs.size+1:=by
 rw[←Xs,SetTable.toList_insertAt];simp only[Yf,Yv,Xv,Xw,Xs];lia
theorem T0.put{t:Wc}{es:5e9}(T:T0 t es){h:Int}{x:Value}{n:Nat}(hn:(it t.mask n (start t.mask h)).j<t.mask+1)(hf:t.slot (it t.mask n (start t.mask h)).j=.empty)(hm:∀m,m<n->∃i:Nat,t.place[i]? = some (it t.mask m (start t.mask h)).j):
  ∀t1 p,t.put (it t.mask n (start t.mask h)).j=(t1,p)->p<=es.size/\t1.mask=t.mask/\t1.led=t.led/\T0 t1 (insertAt es p (h,x)):=by
 intro t1 p e;ext SetTable.put e;dsimp only at e;rw[T.dm,has_none]at e;cases e;have fr:=yz T.rs hf;obtain⟨b1,b2,b3⟩:=Q2 T.rs (it t.mask n (start t.mask h)).j;generalize hj:(it t.mask n (start t.mask h)).j=j at *;generalize hp:below t.place j=p at *;have hpe:p<=es.size:=by rw[←T.sz];show b3
 have pg:=wt t.place p j b3;have eg:=wt es p (h,x) hpe;have old:∀i v:Nat,t.place[i]? = some v->(insertAt t.place p j)[if i<p then i else i+1]? = some v:=λi v e=>by
  rw[pg];by_cases q:i<p
  ·rw[if_pos q,if_pos q];show e
  ·rw[if_neg q,if_neg 1e0,if_neg 1e0];show e
 show⟨hpe,rfl,rfl,⟨T.mm,rfl,?_,?_,?_,?_⟩⟩
 ·intro a b u v dN hu hv
  have hu:(insertAt t.place p j)[a]? = some u:=hu;have hv:(insertAt t.place p j)[b]? = some v:=hv;rw[pg]at hu hv;split at hu
  ·rename_i ha
   split at hv
   ·show T.rs _ _ _ _ dN hu hv
   ·split at hv
    ·cases hv;show b1 _ _ ha hu
    ·have z:=b2 _ _ (show p<=b-1 by lia) hv
     show Yz (b1 _ _ ha hu) z
  ·split at hu
   ·cases hu
    rw[if_neg 1e0,if_neg 1e0]at hv;have z:=b2 _ _ (show p<=b-1 by lia) hv;rcases Nat.lt_or_eq_of_le z with q|q
    ·show q
    ·show absurd (q▸hv) (fr _)
   ·rw[if_neg 1e0,if_neg 1e0]at hv
    show T.rs _ _ _ _ 1e0 hu hv
 ·change(insertAt t.place p j).size=_
  rw[jP,jP,T.sz]
 ·intro i v e
  have e:(insertAt t.place p j)[i]? = some v:=e;rw[pg]at e;split at e
  ·show T.lt _ _ e
  ·split at e
   ·cases e;show hn
   ·show T.lt _ _ e
 ·intro i v e hv he
  have hv:(insertAt t.place p j)[i]? = some v:=hv;rw[pg]at hv;rw[eg]at he;have keep:(∃n,(it t.mask n (start t.mask e.1)).j=v/\∀m,m<n->∃i':Nat,t.place[i']? = some (it t.mask m (start t.mask e.1)).j)->
    ∃n,(it t.mask n (start t.mask e.1)).j=v/\∀m,m<n->∃i':Nat,(insertAt t.place p j)[i']? = some (it t.mask m (start t.mask e.1)).j:=
   λ⟨n,h1,h2⟩=>⟨n,h1,λm hm=>let⟨i',q⟩:=h2 m hm;⟨_,old _ _ q⟩⟩
  split at hv
  ·rename_i q
   rw[if_pos q]at he;show keep (T.rc _ _ _ hv he)
  ·rename_i q
   rw[if_neg q]at he;split at hv
   ·rename_i q2
    rw[if_pos q2]at he;cases hv;cases he;show⟨n,hj,λm rD=>let⟨i',q⟩:=hm m rD;⟨_,old _ _ q⟩⟩
   ·rename_i q2
    rw[if_neg q2]at he;show keep (T.rc _ _ _ hv he)
theorem CH{mask i pt j:Nat}(h:Mk mask)(hi:i<mask+1)(TC:pt<2^64)(hj:j<mask+1):∃k,k<turns mask/\(lp mask k (i,pt)).1=j:=by
 have hz:(lp mask 13 (i,pt)).2=0:=by
  rw[Bi];show Nat.div_eq_of_lt (VN TC 1e7)
 have hl:=Bj mask 13 i pt hi;generalize e:lp mask 13 (i,pt)=q at hz hl;obtain⟨i2,pt2⟩:=q;dsimp only at hz hl;subst hz;obtain⟨k,hk,ek⟩:=OT h hl hj;show⟨13+k,by ext turns;lia,?_⟩;rw[Jd,e,nq];show ek
noncomputable def own (owner:Array (Option Nat))(j:Nat):Option Nat:=owner.getD j (some 0)
theorem wK{mask:Nat}{owner:Array (Option Nat)}:∀(fuel i pt:Nat),(∃k,k<fuel/\own owner (lp mask k (i,pt)).1=none)->
  ∃j n,layClean.free mask owner fuel i pt=some j/\(it mask n (cq mask i 0 pt)).j=j/\own owner j=none/\∀m,m<n->own owner (it mask m (cq mask i 0 pt)).j≠none
 |0,i,pt,h=>by obtain⟨k,hk,_⟩:=h;show absurd hk (WW _)
 |fuel+1,i,pt,h=>by
  ext layClean.free;have hle:i<=runEnd mask i:=by ext runEnd;split<;>lia
  cases e:(YB (runEnd mask i+1-i)).find? (λk=>(owner.getD (i+k) (some 0)).isNone)with
  |some k=>
   obtain⟨h1,h2,h3⟩:=List.find?_range_eq_some.mp e;have hk:=Y3.mp h2;have hi:=p8 (mask:=mask) (i:=i) (pt:=pt) k 0 (by ext len;lia);show⟨i+k,k,rfl,?_,?_,λm hm q=>?_⟩
   ·rw[hi,WN];rfl
   ·show Option.isNone_iff_eq_none.mp h1
   ·have:=h3 m hm
    rw[p8 m 0 (by ext len;lia),WN]at q;have q:owner.getD (i+m) (some 0)=none:=q;rw[q]at this;simp at this
  |none=>
   have hn:=List.find?_range_eq_none.mp e;obtain⟨k,hk,ek⟩:=h;have k0:k≠0:=by
    rintro rfl;have ek:owner.getD i (some 0)=none:=ek;have:=hn 0 1e0;rw[RA,ek]at this;simp at this
   obtain⟨k,rfl⟩:∃k',k=k'+1:=⟨k-1,by lia⟩
   obtain⟨j,n,h1,h2,h3,h4⟩:=wK fuel (leap mask i pt).1 (leap mask i pt).2 ⟨k,by lia,ek⟩;show⟨j,(len mask i-0+1)+n,h1,?_,h3,λm hm=>?_⟩
   ·rw[Hh,i7 (Y2 _)];show h2
   ·by_cases q:m<=len mask i
    ·rw[p8 m 0 1e0,WN]
     have:=hn m (by ext len q;lia);intro z;have z:owner.getD (i+m) (some 0)=none:=z;rw[z]at this;simp at this
    ·obtain⟨m',rfl⟩:∃m',m=(len mask i-0+1)+m':=⟨m-(len mask i+1),by lia⟩
     rw[Hh,i7 (Y2 _)];show h4 m' 1e0
structure OI(mask:Nat)(hs:List Int)(owner:Array (Option Nat)):Prop where
 sz:owner.size=mask+1
 lt:∀j i:Nat,owner[j]? = some (some i)->i<hs.length
 on:∀i,i<hs.length->∃j:Nat,owner[j]? = some (some i)
 inj:∀j j' i:Nat,owner[j]? = some (some i)->owner[j']? = some (some i)->j=j'
 rc:∀(j i:Nat)(h:Int),owner[j]? = some (some i)->hs[i]? = some h->∃n,(it mask n (start mask h)).j=j/\∀m,m<n->∃i':Nat,owner[(it mask m (start mask h)).j]? = some (some i')
theorem pE{owner:Array (Option Nat)}{j:Nat}(hj:j<owner.size)(h:own owner j≠none):∃i:Nat,owner[j]? = some (some i):=by
 ext own h;rw[YO,Yh hj]at h;rw[Yh hj];cases e:owner[j]with
 |none=>rw[e]at h;show absurd rfl h
 |some i=>show⟨i,rfl⟩
theorem AQ{owner:Array (Option Nat)}{j:Nat}(h:own owner j=none):j<owner.size/\owner[j]? = some none:=by
 ext own h;rw[YO]at h;rcases YQ j owner.size with q|q
 ·rw[Yh q]at h
  have h:owner[j]=none:=h;show⟨q,by rw[Yh q,h]⟩
 ·rw[YJ q]at h;cases h
theorem OI.room{mask:Nat}{hs:List Int}{owner:Array (Option Nat)}(O:OI mask hs owner)(h:hs.length<mask+1):∃j,j<mask+1/\own owner j=none:=by
 apply Classical.byContradiction;intro q;have al:∀j,j<mask+1->∃i:Nat,owner[j]? = some (some i):=λj hj=>pE (by rw[O.sz];show hj) λz=>q ⟨j,hj,z⟩;have g:∀j,j<mask+1->owner[j]? = some (some ((owner.getD j none).getD 0)):=λj hj=>by
  obtain⟨i,e⟩:=al j hj;rw[YO,e];rfl
 have:=A3 ((YB (mask+1)).map λj=>(owner.getD j none).getD 0) (YB hs.length) ?_ ?_
 ·simp at this;lia
 ·show Xx.mpr (Uj (λ{a b} ha hb dN e=>?_) U3)
  have h1:=g a (Y3.mp ha);have h2:=g b (Y3.mp hb);rw[e]at h1;show dN (O.inj _ _ _ h1 h2)
 ·intro x hx
  obtain⟨j,hj,rfl⟩:=Yy.mp hx;show Y3.mpr (O.lt _ _ (g j (Y3.mp hj)))
theorem GD{mask:Nat}{h:Int}(hM:Mk mask)(n:Nat):(it mask n (start mask h)).j<mask+1:=by
 have key:∀n,∃i d pt,it mask n (start mask h)=cq mask i d pt/\d<=len mask i/\i<mask+1:=by
  intro n;induction n with
  |zero=>show⟨_,0,_,rfl,Y2 _,VF _ (P9 _)⟩
  |succ n ih=>
   obtain⟨i,d,pt,e,hd,hi⟩:=ih;rw[wo,e];by_cases q:d=len mask i
   ·rw[oh q];show⟨_,0,_,rfl,Y2 _,VF _ (P9 _)⟩
   ·rw[uM 1e0];show⟨i,d+1,pt,rfl,by lia,hi⟩
 obtain⟨i,d,pt,e,hd,hi⟩:=key n;rw[e];change i+d<mask+1;unfold len runEnd at hd;split at hd<;>lia
theorem OI.step{mask:Nat}{hs:List Int}{owner:Array (Option Nat)}(O:OI mask hs owner)(hM:Mk mask)(h:hs.length<mask+1)(hh:Int):
  ∃j,layClean.free mask owner (turns mask) (bits hh%(mask+1)) (bits hh)=some j/\OI mask (hs++[hh]) (owner.setIfInBounds j (some hs.length)):=by
 obtain⟨j0,Ox,e0⟩:=O.room h;obtain⟨k,hk,ek⟩:=CH hM (VF (bits hh) (P9 mask)) (wU hh) Ox;obtain⟨j,n,h1,h2,h3,h4⟩:=wK (mask:=mask) (owner:=owner) (turns mask) (bits hh%(mask+1)) (bits hh) ⟨k,hk,by rw[ek];show e0⟩;have h2:(it mask n (start mask hh)).j=j:=h2;obtain⟨hj,hjn⟩:=AQ h3;have gs:∀a:Nat,(owner.setIfInBounds j (some hs.length))[a]? = if j=a then some (some hs.length)else owner[a]?:=λa=>by
  rw[Array.getElem?_setIfInBounds];by_cases q:j=a
  ·rw[if_pos q,if_pos q,if_pos hj]
  ·rw[if_neg q,if_neg q]
 have old:∀a i:Nat,owner[a]? = some (some i)->(owner.setIfInBounds j (some hs.length))[a]? = some (some i):=λa i e=>by
  rw[gs,if_neg];show e
  rintro rfl;rw[hjn]at e;cases e
 show⟨j,h1,⟨by simpa using O.sz,λa i e=>?_,λi hi=>?_,λa b i ea eb=>?_,λa i x ea ex=>?_⟩⟩
 ·rw[gs]at e
  split at e
  ·cases e;simp
  ·have:=O.lt _ _ e;simp;lia
 ·by_cases q:i<hs.length
  ·obtain⟨a,e⟩:=O.on i q;show⟨a,old _ _ e⟩
  ·have:i=hs.length:=by simp at hi;lia
   subst this;show⟨j,by rw[gs,if_pos rfl]⟩
 ·rw[gs]at ea eb
  split at ea
  ·rename_i qa
   cases ea;split at eb
   ·rename_i qb;lia
   ·have:=O.lt _ _ eb;lia
  ·split at eb
   ·cases eb;have:=O.lt _ _ ea;lia
   ·show O.inj _ _ _ ea eb
 ·rw[gs]at ea
  split at ea
  ·rename_i qa
   subst qa;cases ea;have:x=hh:=by simpa using ex.symm
   subst this;show⟨n,h2,λm hm=>?_⟩;obtain⟨i',e'⟩:=pE (by rw[O.sz];show GD hM m) (h4 m hm);show⟨i',old _ _ e'⟩
  ·have hl:=O.lt _ _ ea
   rw[Yp hl]at ex;obtain⟨n',q1,q2⟩:=O.rc _ _ _ ea ex;show⟨n',q1,λm hm=>let⟨i',e'⟩:=q2 m hm;⟨i',old _ _ e'⟩⟩
noncomputable def u9 (mask:Nat)(acc:Option (Array (Option Nat)×Nat))(h:Int):Option (Array (Option Nat)×Nat):=do
 let(owner,k) ←acc
 let j ←layClean.free mask owner (turns mask) (bits h%(mask+1)) (bits h)
 pure (owner.setIfInBounds j (some k),k+1)
theorem p3{mask:Nat}(hM:Mk mask)(hashes:Array Int)(h:hashes.size<mask+1):∃owner,layClean mask hashes=some owner/\OI mask hashes.toList owner:=by
 have key:∀(rest pre:List Int)(owner:Array (Option Nat)),OI mask pre owner->pre.length+rest.length<mask+1->∃o',rest.foldl (u9 mask) (some (owner,pre.length))=some (o',pre.length+rest.length)/\OI mask (pre++rest) o':=by
  intro rest;induction rest with
  |nil=>intro pre owner O _;show⟨owner,rfl,by rw[YG];show O⟩
  |cons x rest ih=>
   intro pre owner O hl;simp only[Yv]at hl;obtain⟨j,e,O'⟩:=O.step hM 1e0 x;obtain⟨o',e',O2⟩:=ih (pre++[x]) _ O' 6e2;show⟨o',?_,by rw[List.append_cons];show O2⟩;rw[VQ];have:u9 mask (some (owner,pre.length)) x=some (owner.setIfInBounds j (some pre.length),(pre++[x]).length):=by
    ext u9;change(layClean.free mask owner (turns mask) (bits x%(mask+1)) (bits x)).bind _=_;rw[e];simp
   rw[this,e']
   congr 2
   simp;lia
 have O0:OI mask [] (Ycl (mask+1) none):=by
  have z:∀j i:Nat,(Ycl (mask+1) (none:Option Nat))[j]?≠some (some i):=λj i e=>by
   rw[Array.getElem?_replicate]at e;split at e<;>cases e
  show⟨by simp,λj i e=>absurd e (z _ _),λi hi=>absurd hi (WW _),λj j' i e=>absurd e (z _ _),λj i x e=>absurd e (z _ _)⟩
 obtain⟨o',e',O'⟩:=key hashes.toList [] _ O0 7e6;show⟨o',?_,by simpa using O'⟩;ext layClean;rw[←Array.foldl_toList];change(hashes.toList.foldl (u9 mask) (some (Ycl (mask+1) none,0))).map (·.1)=_;have:([]:List Int).length=0:=rfl;rw[this]at e';rw[e'];rfl
theorem Pt:∀(l l':3e9),l.Nodup->l'.Nodup->(∀x,x∈l↔x∈l')->l.Perm l'
 |[],l',_,_,h=>by
  cases l' with
  |nil=>show .nil
  |cons y r=>show absurd ((h y).mpr 6e9) Xy
 |x::l,l',hn,Qx,h=>by
  obtain⟨h1,h2⟩:=Xj.mp hn;have hx:x∈l':=(h x).mp 6e9;show(List.Perm.cons x (Pt l (l'.erase x) h2 (Qx.erase x) λy=>?_)).trans (List.perm_cons_erase hx).symm;rw[Qx.mem_erase_iff];constructor
  ·intro hy;show⟨by rintro rfl;show h1 hy,(h y).mp (.tail _ hy)⟩
  ·rintro⟨q,hy⟩
   show(Yk.mp ((h y).mpr hy)).resolve_left q
theorem qi{α β:Type}(g:α->Option β):∀(l:List α),(∀x∈l,∃y,g x=some y)->∀i:Nat,(l.filterMap g)[i]? = (l[i]?).bind g
 |[],_,i=>by simp
 |x::l,h,i=>by
  obtain⟨y,e⟩:=h x 6e9;rw[List.filterMap_cons_some e];cases i with
  |zero=>simp[e]
  |succ i=>simpa using qi g l (λz hz=>h z (.tail _ hz)) i
noncomputable def live (mask:Nat)(owner:Array (Option Nat)):List (Nat×Nat):=(YB (mask+1)).filterMap λj=>(owner.getD j none).map (j,·)
theorem Bm{mask:Nat}{owner:Array (Option Nat)}(hs:owner.size=mask+1){j i:Nat}:(j,i)∈live mask owner↔owner[j]? = some (some i):=by
 ext live;rw[VJ];constructor
 ·rintro⟨a,ha,e⟩
  obtain⟨b,e1,e2⟩:=XG.mp e;cases e2;rw[YO]at e1;cases q:owner[j]? with
  |none=>rw[q]at e1;cases e1
  |some v=>rw[q]at e1;have e1:v=some i:=e1;rw[e1]
 ·intro e
  have hj:j<mask+1:=by
   rw[←hs];rcases YQ j owner.size with z|z
   ·show z
   ·rw[YJ z]at e;cases e
  show⟨j,Y3.mpr hj,by rw[YO,e];rfl⟩
theorem yh(mask:Nat)(owner:Array (Option Nat)):(live mask owner).Pairwise λa b=>a.1<b.1:=by
 ext live;show List.Pairwise.filterMap _ (λa a' h b hb b' rJ=>?_) List.pairwise_lt_range;obtain⟨_,_,rfl⟩:=XG.mp hb;obtain⟨_,_,rfl⟩:=XG.mp rJ;show h
theorem sJ{α:Type}{R:α->α->Prop}{l:List α}(h:l.Pairwise R){a b:Nat}{x y:α}(dN:a<b)(hx:l[a]? = some x)(hy:l[b]? = some y):R x y:=by
 obtain⟨ha,rfl⟩:=Y7.mp hx;obtain⟨hb,rfl⟩:=Y7.mp hy;show Vh.mp h a b ha hb dN
theorem ES{mask finger moves:Nat}{led plain:Bool}(hM:Mk mask)(es:5e9)(hs:es.size*5<mask*3):
  ∃t' order,laid mask finger moves led plain (es.map (·.1))=some (t',order)/\(order.filterMap (es[·]?)).size=es.size/\(order.filterMap (es[·]?)).toList.Perm es.toList/\TI t' (order.filterMap (es[·]?))/\t'.mask=mask/\t'.led=led:=by
 obtain⟨owner,e,O⟩:=p3 hM (es.map (·.1)) 6e2;have hlen:(es.map (·.1)).toList.length=es.size:=by simp
 have lm:=@Bm mask owner O.sz;have lr:=yh mask owner;generalize hL:live mask owner=L at lm lr;show⟨_,_,by ext laid;rw[e];rfl,?_⟩;change(((live mask owner).map (·.2)).toArray.filterMap (es[·]?)).size=es.size/\_;have cE:(((YB (mask+1)).filterMap λj=>(owner.getD j none).map (j,·)).map (·.1))=L.map (·.1):=by rw[←hL];rfl
 have hor:(((YB (mask+1)).filterMap λj=>(owner.getD j none).map (j,·)).map (·.2))=L.map (·.2):=by rw[←hL];rfl
 rw[cE,hor,hL];have m5:(L.map (·.2)).Perm (YB es.size):=by
  show Pt _ _ ?_ U3 λx=>?_
  ·show Xx.mpr (Uj (λ{a b} ha hb dN q=>?_) lr)
   obtain⟨a1,a2⟩:=a;obtain⟨b1,b2⟩:=b;have q:a2=b2:=q;subst q;have:=O.inj _ _ _ (lm.mp ha) (lm.mp hb);have dN:a1<b1:=dN;lia
  ·rw[Yy,Y3]
   constructor
   ·rintro⟨⟨a,b⟩,h1,rfl⟩
    have:=O.lt _ _ (lm.mp h1);rw[hlen]at this;show this
   ·intro hx
    obtain⟨j,q⟩:=O.on x (by rw[hlen];show hx);show⟨(j,x),lm.mpr q,rfl⟩
 have jQ:((L.map (·.2)).toArray.filterMap (es[·]?)).toList.Perm es.toList:=by
  rw[Array.toList_filterMap];show(m5.filterMap _).trans (by rw[filterMap_getElem?_range])
 have hsz:((L.map (·.2)).toArray.filterMap (es[·]?)).size=es.size:=by rw[←Xs,jQ.length_eq,Xs]
 have Oo:L.length=es.size:=by have:=m5.length_eq;simpa using this
 have eg:∀i:Nat,((L.map (·.2)).toArray.filterMap (es[·]?))[i]? = (L[i]?).bind λp=>es[p.2]?:=λi=>by
  rw[←YY,Array.toList_filterMap];change((L.map (·.2)).filterMap (es[·]?))[i]? = _;rw[qi]
  ·rw[Yx];cases L[i]?<;>rfl
  ·intro x hx
   have hx:=Y3.mp (m5.mem_iff.mp hx);show⟨_,Yh hx⟩
 have pg:∀i j:Nat,(L.map (·.1)).toArray[i]? = some j->∃k,L[i]? = some (j,k):=λi j q=>by
  rw[X8,Yx]at q;obtain⟨⟨a,k⟩,h1,h2⟩:=XG.mp q;show⟨k,by rw[h1];show congrArg (λz=>some (z,k)) h2⟩
 show⟨hsz,jQ,⟨⟨hM,rfl,?_,?_,?_,?_⟩,?_⟩,rfl,rfl⟩
 ·intro a b x y dN hx hy
  obtain⟨k1,q1⟩:=pg _ _ hx;obtain⟨k2,q2⟩:=pg _ _ hy;show sJ lr dN q1 q2
 ·change(L.map (·.1)).toArray.size=_
  rw[hsz];simpa using Oo
 ·intro i j q
  obtain⟨k,q⟩:=pg _ _ q;have:=lm.mp (YH q);change j<mask+1;rw[←O.sz];rcases YQ j owner.size with z|z
  ·show z
  ·rw[YJ z]at this;cases this
 ·intro i j x q qx
  obtain⟨k,q⟩:=pg _ _ q;rw[eg,q]at qx;have qx:es[k]? = some x:=qx;have ho:=lm.mp (YH q);obtain⟨n,h1,h2⟩:=O.rc j k x.1 ho (by rw[YY,Array.getElem?_map,qx];rfl);show⟨n,h1,λm hm=>?_⟩;obtain⟨i',q'⟩:=h2 m hm;obtain⟨a,ha,hb⟩:=XO (lm.mpr q');show⟨a,?_⟩;change(L.map (·.1)).toArray[a]? = _;rw[X8,Yx,Ye ha,hb];rfl
 ·change _*5<mask*3
  rw[hsz];show hs
theorem BZ{mask n:Nat}(h:Mk mask)(h1:n*5<mask*3)(h2:¬(n+1)*5<mask*3)(h3:n+1<307):Mk (sizeAbove (grown (n+1))-1)/\(n+1)*5<(sizeAbove (grown (n+1))-1)*3:=by
 rcases h with rfl|rfl|rfl|rfl
 ·have:n=4:=by lia
  subst this;show⟨.inr (.inl 1e7),by decide⟩
 ·have:n=18:=by lia
  subst this;show⟨.inr (.inr (.inl 1e7)),by decide⟩
 ·have:n=76:=by lia
  subst this;show⟨.inr (.inr (.inr 1e7)),by decide⟩
 ·lia
section
variable{prog:YF}{w:World}{K:Type} [DecidableEq K]{knd:KeyKind prog w K}{A:Around}{E:1e1}{s:Shared}
theorem ir{v:Value}(n:Nat)(h:UT v=true):Ybk n v=pure false:=by
 cases v<;>first|(cases n<;>rfl)|(exfalso;revert h;simp[UT])
theorem jR{v:Value}(n:Nat)(h:UT v=true):∃b,hashByValue n v=pure b:=by
 cases v<;>cases n<;>first|show⟨_,rfl⟩|(exfalso;revert h;simp[UT])
end
section
variable{prog:YF}{w:World}{K:Type} [DecidableEq K]{knd:KeyKind prog w K}{A:Around}{E:1e1}{s:Shared}
theorem T0.AE{t:Wc}{es:5e9}(T:T0 t es)(b:Bool):T0 (if b then t else{t with plain:=false}) es:=by
 cases b
 ·show⟨T.mm,T.dm,T.rs,T.sz,T.lt,T.rc⟩
 ·show T
theorem lR{h:Heap}{a:Addr}{o:Obj}{es:5e9}{ep:Nat}{t:Wc}(ho:h.get? a=some o)(hd:o.data=.set es ep t)(kK:5e9)(t':Wc):
  (h.update a (Obj.putSet kK t')).get? a=some {o with data:=.set kK (ep+1) t'}:=by
 have q:=Xk (Obj.putSet kK t') ho (by rw[putSet_of kK t' hd];rfl);rw[putSet_of kK t' hd]at q;show q
theorem pB{α:Type}(xs:Array α)(p:Nat)(x:α):(insertAt xs p x).toList.Perm (xs.toList++[x]):=by
 have q:=SetTable.insertAt_perm xs p x;rwa[Ybl]at q
theorem A8(t:Wc)(b:Bool):(if b then t else{t with plain:=false}).mask=t.mask/\(if b then t else{t with plain:=false}).place=t.place/\(if b then t else{t with plain:=false}).dummies=t.dummies:=by
 cases b<;>show⟨rfl,rfl,rfl⟩
end
end Se
namespace Se
open PySem PySem.Spec
section
variable{prog:YF}{w:World}{A:Around}{R:9e3}{I S:Addr}{fp wr:2e1}{G:Array K6->Array K6->Prop}{n:Nat}{P:Nat->Value->Prop}{Z:Nat->Shared->Prop}{J:Nat->Heap->Prop}
theorem Gu(W:WalksS prog w A.in1 I fp wr G n P Z)(out:S∉fp)
  (add:∀(i:Nat)(v:Value)(s:Shared)(Q:6e0)(E:1e1),i<n->P i v->J i s.heap->(∀b h' tk,X6 S s.heap h'->J (i+1) h'->s.toks<=tk->Q b {s with heap:=h',toks:=tk})->wpAny (model prog w) A.in1 (setAdd S v) Q E s)
  (keep:∀(i:Nat)(h h':Heap),J i h->(∀b o,b∉wr->h.get? b=some o->h'.get? b=some o)->J i h'):
  ∀(m i:Nat)(s:Shared),i+m=n->Z i s->J i s.heap->(∀s',Moved (S::wr) G s s'->J n s'.heap->R (.ok (.ret .none)) s')->
   WA 1e5 A (.builtin "set.update.loop" ⟨[.ref S,.ref I],[]⟩) R s:=by
 have up:∀b∈wr,b∈S::wr:=λb m=>.tail _ m;intro m;induction m with
 |zero=>
  rintro i s rfl z j r;show XQ V8 ?_;rw[Wq WO _];change wpAny 1e5 A.in1 (pyNext (.ref I)>>=_) _ _ s;show Ya (W.done s _ _ z λs' mv=>?_);change wpAny 1e5 A.in1 (ret Xf) _ _ s';show Yc (r s' (mv.mono up) (keep _ _ _ j mv.heap))
 |succ m ih=>
  intro i s e z j r;show XQ V8 ?_;rw[Wq WO _];change wpAny 1e5 A.in1 (pyNext (.ref I)>>=_) _ _ s;show Ya (W.item i s _ _ 1e0 z λv s' p z' mv=>?_);change wpAny 1e5 A.in1 (zF [v] (setAdd S v)>>=_) _ _ s';show Ya (Xi (add i v s' _ _ 1e0 p (keep _ _ _ j mv.heap) λb h' tk sb j' tl=>?_));show Yc ⟨V0 WO _,ih (i+1) _ 1e0 (W.frame _ s' _ _ z' tl λc hc o g=>?_) j' λD4 mv2 j2=>?_⟩
  ·rw[sb.2 c (by rintro rfl;show out hc)];show g
  ·show r D4 (Moved.trans W.gtrans ((mv.mono up).then_heap tl λc o hc g=>?_) mv2) j2
   rw[sb.2 c (by rintro rfl;show hc 6e9)];show g
end
theorem HX:isSubtype (.type "tuple") (.type "set")=pure false:=by rw[V9];kernel_rfl
theorem HY:isSubtype (.type "tuple") (.type "frozenset")=pure false:=by rw[V9];kernel_rfl
noncomputable abbrev bU (led:Bool):Obj:={cls:=.type "set",dict:=none,data:=.set #[] 0 (.fresh 0 0 led)}
section
variable{prog:YF}{w:World}{A:Around}{E:1e1}{s:Shared}
theorem N5{l D:Addr}{items:Array Value}{J:Nat->Heap->Prop}{led:Bool}{g0:Heap}{P:PySem.Fin->Shared->Prop}(hh:6e8)(src:g0.IsList l items\/g0.IsTuple l items)(hD:D=g0.objs.size)
  (j0:∀h',(∀b o,b<D->g0.get? b=some o->h'.get? b=some o)->h'.get? D=some (bU led)->J 0 h')
  (add:∀(A':Around)(i:Nat)(v:Value)(s:Shared)(Q:6e0)(E:1e1),A'.units<=A.units+4->i<items.size->items[i]? = some v->J i s.heap->(∀b h' tk,X6 D s.heap h'->J (i+1) h'->s.toks<=tk->Q b {s with heap:=h',toks:=tk})->wpAny (model prog w) A' (setAdd D v) Q E s)
  (keep:∀(i:Nat)(h h':Heap),J i h->(∀b o,b≠D+1->h.get? b=some o->h'.get? b=some o)->J i h')
  (hs:s.heap=g0.push (bU led))
  (h:∀h' tk,J items.size h'->(∀b o,b<D->g0.get? b=some o->h'.get? b=some o)->P (.done (.ret .none)) {s with heap:=h',toks:=tk}):
  wpAny 1e5 A (WX.«set.__init__» ⟨[.ref D,.ref l],[]⟩) P E s:=by
 have hgS:s.heap.get? D=some (bU led):=by rw[hs,hD];show Yg _ rfl
 have da:(XY "list"==XY "dict")=false:=by decide
 have Vam:(XY "tuple"==XY "dict")=false:=by decide
 have a1:=PySem.F.sub_list_set;have a2:=PySem.F.sub_list_frozenset;have a3:=HX;have a4:=HY;have hl:l<g0.objs.size:=by rcases src with⟨o,g,_⟩|⟨o,g,_⟩<;>show Ys g
 have hz:s.heap.objs.size=D+1:=by rw[hs,V7,hD]
 have Qz:l<D:=by rw[hD];show hl
 have n1:l≠s.heap.objs.size:=by rw[hz];show Yw (Wt Qz)
 have n2:D∉[s.heap.objs.size,l]:=by
  rw[hz];intro m;rcases Yk.mp m with q|m
  ·show absurd q (Yw (VA D))
  ·show absurd (Yi.mp m) (XW Qz)
 have n3:∀b:Addr,b<D->b∉[D,s.heap.objs.size]:=λb hb m=>by
  rw[hz]at m;rcases Yk.mp m with q|m
  ·show absurd q (Yw hb)
  ·show absurd (Yi.mp m) (Yw (Wt hb))
 have n4:∀b:Addr,b∉[s.heap.objs.size]->b≠D+1:=λb m q=>m (by rw[hz,q];show .head _);have n5:∀b:Addr,b≠D+1->b∉[s.heap.objs.size]:=λb q m=>q (by rw[hz]at m;show Yi.mp m);have old:∀b o,b<D->g0.get? b=some o->s.heap.get? b=some o:=λb o hb e=>by rw[hs];show Yb _ e
 rcases src with⟨ol,gl,hc,nl,hd⟩|⟨ol,gl,hc,nl,hd⟩
 ·obtain⟨SI,AV,Nw,sQ⟩:=ol
  simp only at hc hd;subst hc hd;have Zs:s.heap.get? l=some ⟨.type "list",AV,.seq items nl,sQ⟩:=by rw[hs];show Yb _ gl
  have il:s.heap.IsList l items:=⟨_,Zs,rfl,nl,rfl⟩
  unfold WX.«set.__init__» noKeywords Yab;generalize Zo:pyIter=PI
  wp_walk
  subst Zo;show VY il ?_;show Ya (UU ?_)
  show Gu (J:=J) ((Walks.list (by simp[hh]) _ l n1 items).toS) (S:=D) n2 (λi v s Q E hi hv j k=>add _ i v s Q E (by simp[Around.in1]) hi hv j k) (λi h h' j k=>keep i h h' j λb o nb e=>k b o (n5 b nb) e) items.size 0 _ (WN _) ⟨6e3,il.push _⟩ (j0 _ (λb o hb e=>Yb _ (old b o hb e)) (Yb _ hgS)) λs' mv j=>?_;obtain⟨h',g',d',F',IC⟩:=s';cases(show g'=s.gens from mv.gens);cases(show d'=s.drawn from mv.drawn);cases(show IC=s.os from mv.os);change wpAny _ _ _ _ _ _;show Yc ?_;change wpAny 1e5 _ (ret Xf) _ _ _;show Yc (h h' F' j λb o hb e=>mv.heap b o (n3 b hb) (Yb _ (old b o hb e)))
 ·obtain⟨SI,AV,Nw,sQ⟩:=ol
  simp only at hc hd;subst hc hd;have Zs:s.heap.get? l=some ⟨.type "tuple",AV,.seq items nl,sQ⟩:=by rw[hs];show Yb _ gl
  have il:s.heap.IsTuple l items:=⟨_,Zs,rfl,nl,rfl⟩
  unfold WX.«set.__init__» noKeywords Yab;generalize Zo:pyIter=PI
  wp_walk
  subst Zo;show wpAny_pyIter_tuple il ?_;show Ya (UU ?_)
  show Gu (J:=J) ((Walks.tuple (by simp[hh]) _ l n1 items).toS) (S:=D) n2 (λi v s Q E hi hv j k=>add _ i v s Q E (by simp[Around.in1]) hi hv j k) (λi h h' j k=>keep i h h' j λb o nb e=>k b o (n5 b nb) e) items.size 0 _ (WN _) ⟨6e3,il.push _⟩ (j0 _ (λb o hb e=>Yb _ (old b o hb e)) (Yb _ hgS)) λs' mv j=>?_;obtain⟨h',g',d',F',IC⟩:=s';cases(show g'=s.gens from mv.gens);cases(show d'=s.drawn from mv.drawn);cases(show IC=s.os from mv.os);change wpAny _ _ _ _ _ _;show Yc ?_;change wpAny 1e5 _ (ret Xf) _ _ _;show Yc (h h' F' j λb o hb e=>mv.heap b o (n3 b hb) (Yb _ (old b o hb e)))
end
end Se
namespace Pu
open PySem PySem.Spec PyProof.Rows L2
inductive PV where
 |aF|bl (b:Bool)|int (i:Int)|str (x:Str)|tup (xs:List PV)|lst (xs:List PV)|cV (ks vs:List PV)|aG (ks:List (List Key)) (vs:List PV)|fn (a:Addr)|ty (n:String)
noncomputable def kP:Key->PV
 |.inl i=>.int i
 |.inr x=>.str x
def HA(K:W.Frag)(ι:2e1)(H:Hp)(a:Addr)(vs:List V):Prop:=
 (a∉ι/\Rd H a (.lst vs))\/
  ∃(o:Obj)(aw:Array Value)(n:Nat),K.lookup a=some o/\o.cls=.type "list"/\o.dict=none/\o.data=.seq aw n/\aw.size<=YA/\Vals vs aw.toList
theorem HA.sq{K:W.Frag}{ι:2e1}{H:Hp}{a:Addr}{vs:List V}(h:HA K ι H a vs):fH K H a vs:=by
 rcases h with⟨_,h⟩|h
 ·show .inl h
 ·show .inr h
def K'(H:Hp)(a:Addr)(vs:List V):Prop:=H a=some (.tup vs)
theorem K'.sq{K:W.Frag}{H:Hp}{a:Addr}{vs:List V}(h:K' H a vs):kh K H a vs:=.inl (.inl h)
mutual
noncomputable def Rep (K:W.Frag)(ι:2e1)(H:Hp):PV->V->Prop
 |.aF,v=>v=.aF
 |.bl b,v=>v=.bl b
 |.int i,v=>v=.int i
 |.str x,v=>v=.str x/\x.length<=YA
 |.tup ps,v=>∃a vs,v=.ref a/\K' H a vs/\ab K ι H ps vs
 |.lst ps,v=>∃a vs,v=.ref a/\HA K ι H a vs/\ab K ι H ps vs
 |.cV ks ps,v=>∃(a:Addr)(qs:6e6)(vs:List V),v=.ref a/\a∉ι/\H a=some (.dK (qs.zip vs))/\qs.length=vs.length/\ks=qs.map kP/\ab K ι H ps vs
 |.aG ks ps,v=>∃(a:Addr)(vs:List V),v=.ref a/\a∉ι/\Rd H a (.dT (ks.zip vs))/\ks.length=vs.length/\ab K ι H ps vs
 |.fn a,v=>v=.ref a
 |.ty n,v=>v=.ty n
noncomputable def ab (K:W.Frag)(ι:2e1)(H:Hp):List PV->List V->Prop
 |[],vs=>vs=[]
 |p::ps,vs=>∃v r,vs=v::r/\Rep K ι H p v/\ab K ι H ps r
end
inductive SV where
 |v (p:PV)|c (k:Nat)
abbrev Cs:=List PV
def bC(K:W.Frag)(ι:2e1)(H:Hp):SV->V->Prop
 |.v p,x=>Rep K ι H p x
 |.c k,x=>∃a,x=.ref a/\ι[k]? = some a
def aU(K:W.Frag)(ι:2e1)(H:Hp):List SV->List V->Prop
 |[],vs=>vs=[]
 |p::ps,vs=>∃v r,vs=v::r/\bC K ι H p v/\aU K ι H ps r
def aX(K:W.Frag)(ι:2e1)(H:Hp)(a:Addr):PV->Prop
 |.lst ps=>∃vs,H a=some (.lst vs)/\ab K ι H ps vs
 |.cV ks ps=>∃(qs:6e6)(vs:List V),H a=some (.dK (qs.zip vs))/\qs.length=vs.length/\ks=qs.map kP/\ab K ι H ps vs
 |.aG ks ps=>∃(vs:List V),H a=some (.dT (ks.zip vs))/\ks.length=vs.length/\ab K ι H ps vs
 |_=>False
structure CR(K:W.Frag)(ι:List Addr)(H:Hp)(C:Cs):Prop where
 len:ι.length=C.length
 nd:ι.Nodup
 ok:∀(k:Nat)(a:Addr)(c:PV),ι[k]? = some a->C[k]? = some c->aX K ι H a c
def Fr(ι:2e1)(H H':Hp):Prop:=∀b o,b∉ι->H b=some o->H' b=some o
theorem Fr.refl{ι:2e1}{H:Hp}:Fr ι H H:=λ_ _ _ h=>h
theorem Fr.trans{ι:2e1}{H H1 H2:Hp}(a:Fr ι H H1)(b:Fr ι H1 H2):Fr ι H H2:=λc o n h=>b c o n (a c o n h)
theorem Fr.new{ι:2e1}{H:Hp}{p:Addr}{o:HO}(h:H p=none):Fr ι H (upd H p o):=λb u _ e=>by rw[ba (gB e h)];show e
section
variable{K:W.Frag}{ι:2e1}{H H':Hp}{C:Cs}
theorem CR.at'(cr:7e7){a:Addr}(h:a∈ι):∃(k:Nat)(c:PV),ι[k]? = some a/\C[k]? = some c/\aX K ι H a c:=by
 obtain⟨k,hk,e⟩:=XO h;have h1:ι[k]? = some a:=by rw[Ye hk,e]
 have hk2:k<C.length:=by rw[←cr.len];show hk
 show⟨k,C[k],h1,Ye hk2,cr.ok k a _ h1 (Ye hk2)⟩
theorem CR.mut(cr:7e7){a:Addr}(h:a∈ι):(∃vs,H a=some (.lst vs))\/(∃ag,H a=some (.dK ag))\/∃ag,H a=some (.dT ag):=by
 obtain⟨k,c,_,_,ok⟩:=cr.at' h;cases c with
 |lst ps=>obtain⟨vs,e,_⟩:=ok;show .inl ⟨vs,e⟩
 |cV ks ps=>obtain⟨qs,vs,e,_⟩:=ok;show .inr (.inl ⟨_,e⟩)
 |aG ks ps=>obtain⟨vs,e,_⟩:=ok;show .inr (.inr ⟨_,e⟩)
 |_=>show ok.elim
theorem CR.vJ(cr:7e7){a:Addr}{o:HO}(e:H a=some o)(h1:∀vs,o≠.lst vs)(h2:∀ag,o≠.dK ag)(h3:∀ag,o≠.dT ag:=by intro ag z;cases z):a∉ι:=λh=>by
 rcases cr.mut h with⟨vs,z⟩|⟨ag,z⟩|⟨ag,z⟩
 ·rw[e]at z;show h1 vs (YR z)
 ·rw[e]at z;show h2 ag (YR z)
 ·rw[e]at z;show h3 ag (YR z)
theorem zS(cr:7e7)(fr:Fr ι H H'){a:Addr}{vs:List V}(h:K' H a vs):K' H' a vs:=
 fr _ _ (cr.vJ h (λ_ e=>nomatch e) λ_ e=>nomatch e) h
theorem HA.mono(fr:Fr ι H H'){a:Addr}{vs:List V}(h:HA K ι H a vs):HA K ι H' a vs:=by
 rcases h with⟨n,h|⟨o,h⟩⟩|h
 ·show .inl ⟨n,.inl (fr _ _ n h)⟩
 ·show .inl ⟨n,.inr ⟨o,fr _ _ n h⟩⟩
 ·show .inr h
theorem mP{a:Addr}{u:HO}(k:∀o,H a=some o->H' a=some o)(h:Rd H a u):Rd H' a u:=by
 rcases h with h|⟨o,h⟩
 ·show .inl (k _ h)
 ·show .inr ⟨o,k _ h⟩
mutual
theorem Rep.mono(cr:7e7)(fr:Fr ι H H'):∀(p:PV)(v:V),Rep K ι H p v->Rep K ι H' p v
 |.aF,v,h=>by unfold Rep at h⊢;show h
 |.bl b,v,h=>by unfold Rep at h⊢;show h
 |.int i,v,h=>by unfold Rep at h⊢;show h
 |.str x,v,h=>by unfold Rep at h⊢;show h
 |.tup ps,v,h=>by
  unfold Rep at h⊢;obtain⟨a,vs,e,sq,r⟩:=h;show⟨a,vs,e,zS cr fr sq,ab.mono cr fr ps vs r⟩
 |.lst ps,v,h=>by
  unfold Rep at h⊢;obtain⟨a,vs,e,sq,r⟩:=h;show⟨a,vs,e,sq.mono fr,ab.mono cr fr ps vs r⟩
 |.cV ks ps,v,h=>by
  unfold Rep at h⊢;obtain⟨a,qs,vs,e,n,hd,hl,hk,r⟩:=h;show⟨a,qs,vs,e,n,fr _ _ n hd,hl,hk,ab.mono cr fr ps vs r⟩
 |.aG ks ps,v,h=>by
  unfold Rep at h⊢;obtain⟨a,vs,e,n,hd,hl,r⟩:=h;show⟨a,vs,e,n,mP (λo e=>fr _ o n e) hd,hl,ab.mono cr fr ps vs r⟩
 |.fn a,v,h=>by unfold Rep at h⊢;show h
 |.ty n,v,h=>by unfold Rep at h⊢;show h
theorem ab.mono(cr:7e7)(fr:Fr ι H H'):∀(ps:List PV)(vs:List V),ab K ι H ps vs->ab K ι H' ps vs
 |[],vs,h=>by unfold ab at h⊢;show h
 |p::ps,vs,h=>by
  unfold ab at h⊢;obtain⟨v,r,e,h1,h2⟩:=h;show⟨v,r,e,Rep.mono cr fr p v h1,ab.mono cr fr ps r h2⟩
end
theorem bC.mono(cr:7e7)(fr:Fr ι H H'){s:SV}{v:V}(h:bC K ι H s v):bC K ι H' s v:=by
 cases s with
 |v p=>show Rep.mono cr fr p v h
 |c k=>show h
mutual
theorem Rep.cW(sm:∀b o,H b=some o->H' b=some o):∀(p:PV)(v:V),Rep K ι H p v->Rep K ι H' p v
 |.aF,v,h=>by unfold Rep at h⊢;show h
 |.bl b,v,h=>by unfold Rep at h⊢;show h
 |.int i,v,h=>by unfold Rep at h⊢;show h
 |.str x,v,h=>by unfold Rep at h⊢;show h
 |.tup ps,v,h=>by
  unfold Rep at h⊢;obtain⟨a,vs,e,sq,r⟩:=h;show⟨a,vs,e,sm _ _ sq,ab.cW sm ps vs r⟩
 |.lst ps,v,h=>by
  unfold Rep at h⊢;obtain⟨a,vs,e,sq,r⟩:=h;show⟨a,vs,e,sq.mono (λb o _ e=>sm b o e),ab.cW sm ps vs r⟩
 |.cV ks ps,v,h=>by
  unfold Rep at h⊢;obtain⟨a,qs,vs,e,n,hd,hl,hk,r⟩:=h;show⟨a,qs,vs,e,n,sm _ _ hd,hl,hk,ab.cW sm ps vs r⟩
 |.aG ks ps,v,h=>by
  unfold Rep at h⊢;obtain⟨a,vs,e,n,hd,hl,r⟩:=h;show⟨a,vs,e,n,mP (λo e=>sm _ o e) hd,hl,ab.cW sm ps vs r⟩
 |.fn a,v,h=>by unfold Rep at h⊢;show h
 |.ty n,v,h=>by unfold Rep at h⊢;show h
theorem ab.cW(sm:∀b o,H b=some o->H' b=some o):∀(ps:List PV)(vs:List V),ab K ι H ps vs->ab K ι H' ps vs
 |[],vs,h=>by unfold ab at h⊢;show h
 |p::ps,vs,h=>by
  unfold ab at h⊢;obtain⟨v,r,e,h1,h2⟩:=h;show⟨v,r,e,Rep.cW sm p v h1,ab.cW sm ps r h2⟩
end
mutual
theorem Rep.cells{ι':2e1}(hs:∀b o,H b=some o->b∉ι->b∉ι'):∀(p:PV)(v:V),Rep K ι H p v->Rep K ι' H p v
 |.aF,v,h=>by unfold Rep at h⊢;show h
 |.bl b,v,h=>by unfold Rep at h⊢;show h
 |.int i,v,h=>by unfold Rep at h⊢;show h
 |.str x,v,h=>by unfold Rep at h⊢;show h
 |.tup ps,v,h=>by
  unfold Rep at h⊢;obtain⟨a,vs,e,sq,r⟩:=h;show⟨a,vs,e,sq,ab.cells hs ps vs r⟩
 |.lst ps,v,h=>by
  unfold Rep at h⊢;obtain⟨a,vs,e,sq,r⟩:=h;show⟨a,vs,e,?_,ab.cells hs ps vs r⟩;rcases sq with⟨n,q|⟨o,q⟩⟩|q
  ·show .inl ⟨hs _ _ q n,.inl q⟩
  ·show .inl ⟨hs _ _ q n,.inr ⟨o,q⟩⟩
  ·show .inr q
 |.cV ks ps,v,h=>by
  unfold Rep at h⊢;obtain⟨a,qs,vs,e,n,hd,hl,hk,r⟩:=h;show⟨a,qs,vs,e,hs _ _ hd n,hd,hl,hk,ab.cells hs ps vs r⟩
 |.aG ks ps,v,h=>by
  unfold Rep at h⊢;obtain⟨a,vs,e,n,hd,hl,r⟩:=h;show⟨a,vs,e,by rcases id hd with q|⟨o,q⟩<;>show hs _ _ q n,hd,hl,ab.cells hs ps vs r⟩
 |.fn a,v,h=>by unfold Rep at h⊢;show h
 |.ty n,v,h=>by unfold Rep at h⊢;show h
theorem ab.cells{ι':2e1}(hs:∀b o,H b=some o->b∉ι->b∉ι'):∀(ps:List PV)(vs:List V),ab K ι H ps vs->ab K ι' H ps vs
 |[],vs,h=>by unfold ab at h⊢;show h
 |p::ps,vs,h=>by
  unfold ab at h⊢;obtain⟨v,r,e,h1,h2⟩:=h;show⟨v,r,e,Rep.cells hs p v h1,ab.cells hs ps r h2⟩
end
theorem ab.nil:ab K ι H [] []:=by ext ab;rfl
theorem ab.cons{p:PV}{v:V}{ps:List PV}{vs:List V}(h:Rep K ι H p v)(t:ab K ι H ps vs):ab K ι H (p::ps) (v::vs):=by ext ab;show⟨v,vs,rfl,h,t⟩
theorem ab.inv{p:PV}{ps:List PV}{vs:List V}(h:ab K ι H (p::ps) vs):∃v r,vs=v::r/\Rep K ι H p v/\ab K ι H ps r:=by ext ab h;show h
theorem ab.fP{vs:List V}(h:ab K ι H [] vs):vs=[]:=by ext ab h;show h
theorem ab.length:∀{ps:List PV}{vs:List V},ab K ι H ps vs->ps.length=vs.length
 |[],vs,h=>by rw[h.fP];rfl
 |p::ps,vs,h=>by obtain⟨v,r,rfl,_,t⟩:=h.inv;rw[Yv,Yv,t.length]
theorem ab.append:∀{ps qs:List PV}{vs ws:List V},ab K ι H ps vs->ab K ι H qs ws->ab K ι H (ps++qs) (vs++ws)
 |[],_,vs,_,h,t=>by rw[h.fP];show t
 |p::ps,_,vs,_,h,t=>by obtain⟨v,r,rfl,h1,h2⟩:=h.inv;show .cons h1 (h2.append t)
theorem ab.get:∀{ps:List PV}{vs:List V}{i:Nat}{p:PV},ab K ι H ps vs->ps[i]? = some p->∃v,vs[i]? = some v/\Rep K ι H p v
 |[],_,_,_,h,e=>by simp at e
 |q::ps,vs,0,p,h,e=>by
  obtain⟨v,r,rfl,h1,h2⟩:=h.inv;simp at e;subst e;show⟨v,rfl,h1⟩
 |q::ps,vs,i+1,p,h,e=>by
  obtain⟨v,r,rfl,h1,h2⟩:=h.inv;obtain⟨w,e1,r1⟩:=h2.get (i:=i) (by simpa using e);show⟨w,by simpa using e1,r1⟩
theorem ab.get':∀{ps:List PV}{vs:List V}{i:Nat}{v:V},ab K ι H ps vs->vs[i]? = some v->∃p,ps[i]? = some p/\Rep K ι H p v:=λ{ps vs i v} h e=>by
 have hi:i<ps.length:=by
  rw[h.length];rcases YQ i vs.length with q|q
  ·show q
  ·rw[YT.mpr q]at e;cases e
 obtain⟨w,e1,r⟩:=h.get (Ye hi);rw[e]at e1;cases e1;show⟨_,Ye hi,r⟩
theorem ab.take:∀{ps:List PV}{vs:List V}(n:Nat),ab K ι H ps vs->ab K ι H (ps.take n) (vs.take n)
 |_,_,0,_=>by simp;show .nil
 |[],vs,n+1,h=>by rw[h.fP];simp;show .nil
 |p::ps,vs,n+1,h=>by obtain⟨v,r,rfl,h1,h2⟩:=h.inv;simp only[WY];show .cons h1 (h2.take n)
theorem ab.drop:∀{ps:List PV}{vs:List V}(n:Nat),ab K ι H ps vs->ab K ι H (ps.drop n) (vs.drop n)
 |_,_,0,h=>by simpa using h
 |[],vs,n+1,h=>by rw[h.fP];simp;show .nil
 |p::ps,vs,n+1,h=>by obtain⟨v,r,rfl,h1,h2⟩:=h.inv;simpa using h2.drop n
theorem ab.set:∀{ps:List PV}{vs:List V}(i:Nat){p:PV}{v:V},ab K ι H ps vs->Rep K ι H p v->ab K ι H (ps.set i p) (vs.set i v)
 |[],vs,i,p,v,h,_=>by rw[h.fP];simp;show .nil
 |q::ps,vs,0,p,v,h,hp=>by obtain⟨w,r,rfl,h1,h2⟩:=h.inv;simp;show .cons hp h2
 |q::ps,vs,i+1,p,v,h,hp=>by obtain⟨w,r,rfl,h1,h2⟩:=h.inv;simp;show .cons h1 (h2.set i hp)
theorem aX.mono(cr:7e7)(fr:Fr ι H H'){a:Addr}{c:PV}(ha:∀o,H a=some o->H' a=some o)(h:aX K ι H a c):aX K ι H' a c:=by
 cases c with
 |lst ps=>obtain⟨vs,e,r⟩:=h;show⟨vs,ha _ e,ab.mono cr fr _ _ r⟩
 |cV ks ps=>obtain⟨qs,vs,e,hl,hk,r⟩:=h;show⟨qs,vs,ha _ e,hl,hk,ab.mono cr fr _ _ r⟩
 |aG ks ps=>obtain⟨vs,e,hl,r⟩:=h;show⟨vs,ha _ e,hl,ab.mono cr fr _ _ r⟩
 |_=>show h.elim
theorem CR.same(cr:7e7)(sm:∀b o,H b=some o->H' b=some o):CR K ι H' C:=
 ⟨cr.len,cr.nd,λk a c h1 h2=>(cr.ok k a c h1 h2).mono cr (λb o _ e=>sm b o e) λo e=>sm a o e⟩
theorem CR.new(cr:7e7){p:Addr}{o:HO}(h:H p=none):CR K ι (upd H p o) C:=cr.same λb u e=>by rw[ba (gB e h)];show e
theorem CR.put(cr:7e7){k:Nat}{a:Addr}{c:PV}{o:HO}(hk:ι[k]? = some a)(ok:aX K ι (upd H a o) a c):CR K ι (upd H a o) (C.set k c):=by
 have fr:Fr ι H (upd H a o):=λb u n e=>by
  rw[ba (λz=>n (by rw[z];show YH hk))];show e
 show⟨by rw[Uu];show cr.len,cr.nd,λj b d h1 h2=>?_⟩;by_cases hj:j=k
 ·subst hj
  rw[hk]at h1;cases h1;have bA:j<C.length:=by
   rw[←cr.len];rcases YQ j ι.length with q|q
   ·show q
   ·rw[YT.mpr q]at hk;cases hk
  rw[Xe bA]at h2;cases h2;show ok
 ·rw[Y5 (X5 hj)]at h2
  show(cr.ok j b d h1 h2).mono cr fr λu e=>?_;have hb:b≠a:=λz=>by
   subst z;have QC:j<ι.length:=by
    rcases YQ j ι.length with q|q
    ·show q
    ·rw[YT.mpr q]at h1;cases h1
   have nE:k<ι.length:=by
    rcases YQ k ι.length with q|q
    ·show q
    ·rw[YT.mpr q]at hk;cases hk
   have e1:=(Y7.mp h1).2;have e2:=(Y7.mp hk).2;show hj ((U2 cr.nd).mp (e1.trans e2.symm))
  rw[ba hb];show e
theorem M9{p:Addr}(hp:H p=none):∀b u,H b=some u->b∉ι->b∉ι++[p]:=λb u e n z=>by
 rcases Ym.mp z with z|z
 ·show n z
 ·show gB e hp (by simpa using z)
theorem gT(cr:7e7){p:Addr}{o:HO}(hp:H p=none)(q:List PV)(v:List V)(r:ab K ι H q v):ab K (ι++[p]) (upd H p o) q v:=by
 show ab.cW (λb u e=>by rw[ba (gB e hp)];show e) q v (ab.cells (ι':=ι++[p]) (M9 hp) q v r)
theorem CR.add(cr:7e7){p:Addr}{c:PV}{o:HO}(hp:H p=none)(ok:aX K (ι++[p]) (upd H p o) p c):CR K (ι++[p]) (upd H p o) (C++[c]):=by
 have hni:p∉ι:=λz=>by
  rcases cr.mut z with⟨vs,e⟩|⟨ag,e⟩|⟨ag,e⟩
  ·rw[hp]at e;cases e
  ·rw[hp]at e;cases e
  ·rw[hp]at e;cases e
 have hc:∀b u,(upd H p o) b=some u->b∉ι->b≠p->b∉ι++[p]:=λb u _ n1 n2 z=>by
  rcases Ym.mp z with z|z
  ·show n1 z
  ·show n2 (by simpa using z)
 have up:∀b u,H b=some u->(upd H p o) b=some u:=λb u e=>by rw[ba (gB e hp)];show e
 have lift:∀(b:Addr)(d:PV),aX K ι H b d->aX K (ι++[p]) (upd H p o) b d:=λb d h=>by
  have hs:∀b u,H b=some u->b∉ι->b∉ι++[p]:=λb u e n=>hc b u (up b u e) n (gB e hp);have cr':CR K ι (upd H p o) C:=cr.new hp;cases d with
  |lst ps=>
   obtain⟨vs,e,r⟩:=h;show⟨vs,up _ _ e,gT cr hp ps vs r⟩
  |cV ks ps=>
   obtain⟨qs,vs,e,hl,hk,r⟩:=h;show⟨qs,vs,up _ _ e,hl,hk,gT cr hp ps vs r⟩
  |aG ks ps=>
   obtain⟨vs,e,hl,r⟩:=h;show⟨vs,up _ _ e,hl,gT cr hp ps vs r⟩
  |_=>show h.elim
 show⟨by simp[cr.len],?_,λk a d h1 h2=>?_⟩
 ·rw[Xl]
  show⟨cr.nd,by simp,λa ha b hb=>?_⟩;have:b=p:=by simpa using hb
  subst this;show λz=>hni (z▸ha)
 ·rcases YQ k ι.length with hk|hk
  ·rw[Yp hk]at h1
   rw[Yp (by rw[←cr.len];show hk)]at h2;show lift a d (cr.ok k a d h1 h2)
  ·rw[YE hk]at h1
   rw[YE (by rw[←cr.len];show hk)]at h2;rw[←cr.len]at h2;cases hz:k-ι.length with
   |zero=>
    rw[hz]at h1 h2;simp at h1 h2;subst h1 h2;show ok
   |succ j=>rw[hz]at h1;simp at h1
end
end Pu
namespace Pu
open PySem PySem.Spec L2
open PyProof.Rows hiding St
abbrev M(α:Type):=Cs->Option (α×Cs)
noncomputable def ret {α:Type}(a:α):M α:=λC=>some (a,C)
def aI{α β:Type}(x:M α)(f:α->M β):M β:=λC=>match x C with
 |none=>none
 |some (a,C')=>f a C'
noncomputable def dM {α:Type}(g:Cs->Option α):M α:=λC=>match g C with
 |none=>none
 |some a=>some (a,C)
theorem bp{α β:Type}{x:M α}{f:α->M β}{C C2:Cs}{b:β}(h:aI x f C=some (b,C2)):∃a C1,x C=some (a,C1)/\f a C1=some (b,C2):=by
 ext aI h;cases e:x C with
 |none=>rw[e]at h;cases h
 |some p=>obtain⟨a,C1⟩:=p;rw[e]at h;show⟨a,C1,rfl,h⟩
theorem km{α:Type}{g:Cs->Option α}{C C2:Cs}{b:α}(h:dM g C=some (b,C2)):g C=some b/\C2=C:=by
 ext dM h;cases e:g C with
 |none=>rw[e]at h;cases h
 |some p=>rw[e]at h;cases h;show⟨rfl,rfl⟩
abbrev aq:=List (Option SV)
noncomputable def L3:SV->Option Bool
 |.v (.bl b)=>some b
 |_=>none
def mB(x:SV):M Bool:=dM λ_=>L3 x
theorem vS{x:SV}{C C2:Cs}{b:Bool}(h:mB x C=some (b,C2)):x=.v (.bl b)/\C2=C:=by
 obtain⟨h,e⟩:=km h;show⟨?_,e⟩;cases x with
 |c k=>cases h
 |v p=>cases p<;>first|(cases h;rfl)|cases h
theorem Na{K:W.Frag}{ι:2e1}{H:Hp}{b:Bool}{v:V}(h:bC K ι H (.v (.bl b)) v):v=.bl b:=by unfold bC Rep at h;show h
theorem M'{K:W.Frag}{ι:2e1}{H:Hp}{b:Bool}:bC K ι H (.v (.bl b)) (.bl b):=by unfold bC Rep;rfl
inductive PF where
 |nx (ρ:aq)|rt (r:SV)|bk (ρ:aq)|ct (ρ:aq)|rf (ps:List PV)|rq (qs:List SV)
structure SR(K:W.Frag)(ι:List Addr)(H:Hp)(ρ:aq)(σ:St)(C:Cs):Prop where
 cr:CR K ι H C
 len:ρ.length=σ.length
 loc:∀(i:Nat)(s:SV),ρ[i]? = some (some s)->∃v,σ[i]? = some (some v)/\bC K ι H s v
section
variable{K:W.Frag}{ι:2e1}{H H':Hp}{C C':Cs}{ρ:aq}{σ:St}
theorem SR.step(sr:SR K ι H ρ σ C)(fr:Fr ι H H')(cr:CR K ι H' C'):SR K ι H' ρ σ C':=
 ⟨cr,sr.len,λi s e=>by obtain⟨v,h1,h2⟩:=sr.loc i s e;show⟨v,h1,h2.mono sr.cr fr⟩⟩
theorem SR.set(sr:SR K ι H ρ σ C){s:SV}{v:V}(i:Nat)(r:bC K ι H s v):SR K ι H (ρ.set i (some s)) (σ.set i (some v)) C:=by
 show⟨sr.cr,by simp[sr.len],λj t e=>?_⟩;by_cases hj:i=j
 ·subst hj
  have hi:i<ρ.length:=by
   rcases YQ i ρ.length with q|q
   ·show q
   ·rw[YT.mpr (by simpa using q)]at e;cases e
  rw[Xe hi]at e;cases e;show⟨v,by rw[Xe (by rw[←sr.len];show hi)],r⟩
 ·rw[Y5 hj]at e
  rw[Y5 hj];show sr.loc j t e
end
def tM(K:W.Frag)(f:2e3):TE:=λσ H Q=>∃ι ρ C r C',SR K ι H ρ σ C/\f ρ C=some (r,C')/\∀v H',Fr ι H H'->CR K ι H' C'->bC K ι H' r v->Q v H'
def MR(K:W.Frag)(f:1e9):TA:=λσ H Q=>∃ι ρ C r C',SR K ι H ρ σ C/\f ρ C=some (r,C')/\∀v H',Fr ι H H'->CR K ι H' C'->aU K ι H' r v->Q v H'
def xq(K:W.Frag)(f:4e1):TT:=λσ H Q=>∃ι ρ C r C',SR K ι H ρ σ C/\f ρ C=some (r,C')/\∀H',Fr ι H H'->CR K ι H' C'->Q r H'
def tMF(K:W.Frag)(f:7e1):TE:=λσ H Q=>∃ι ρ C ps C',SR K ι H ρ σ C/\f ρ C=some (ps,C')/\∀p vs H',Fr ι H H'->CR K ι H' C'->H' p=none->ab K ι H' ps vs->Q (.ref p) (upd H' p (.lst vs))
def EM(X:Cx)(e:Expr)(f:2e3):Prop:=PE X e (tM X.K f)
def AM(X:Cx)(es:3e4)(f:1e9):Prop:=PA X es (MR X.K f)
def TMt(X:Cx)(e:Expr)(f:4e1):Prop:=PT X e (xq X.K f)
def WM(X:Cx)(e:Expr)(f:4e1):Prop:=PW X e (xq X.K f)
def FM(X:Cx)(e:Expr)(f:7e1):Prop:=PE X e (tMF X.K f)
theorem PE.imp{X:Cx}{e:Expr}{t t':TE}(h:PE X e t)(k:∀σ H Q,t' σ H Q->t σ H Q):PE X e t':=λpins s σ H Q I q=>h pins s σ H Q I (k σ H Q q)
theorem PT.imp{X:Cx}{e:Expr}{t t':TT}(h:PT X e t)(k:∀σ H Q,t' σ H Q->t σ H Q):PT X e t':=λpins s σ H Q I q=>h pins s σ H Q I (k σ H Q q)
theorem PW.imp{X:Cx}{e:Expr}{t t':TT}(h:PW X e t)(k:∀σ H Q,t' σ H Q->t σ H Q):PW X e t':=λwh pins s σ H Q I q=>h wh pins s σ H Q I (k σ H Q q)
theorem PA.imp{X:Cx}{e:3e4}{t t':TA}(h:PA X e t)(k:∀σ H Q,t' σ H Q->t σ H Q):PA X e t':=λpos pins s σ H Q I q=>h pos pins s σ H Q I (k σ H Q q)
theorem PS.imp{X:Cx}{e:Stmt}{t t':TS}(h:PS X e t)(k:∀D σ H,t' D σ H->t D σ H):PS X e t':=λpins s σ H D I q=>h pins s σ H D I (k D σ H q)
theorem kT.imp{X:Cx}{e:List Stmt}{t t':TS}(h:kT X e t)(k:∀D σ H,t' D σ H->t D σ H):kT X e t':=λpins s σ H D I q=>h pins s σ H D I (k D σ H q)
theorem PI.imp{X:Cx}{tg e:Expr}{t t':TI}(h:PI X tg e t)(k:∀σ H Q,t' σ H Q->t σ H Q):PI X tg e t':=λpins s σ H Q I q=>h pins s σ H Q I (k σ H Q q)
section
variable{X:Cx}{a b e c:Expr}{es:3e4}{fa fb fc:2e3}{pos p:Pos}{x:Str}
noncomputable def au (i:Nat):aq->M SV:=λρ C=>match ρ[i]? with
 |some (some s)=>some (s,C)
 |_=>none
noncomputable def mC (p:PV):aq->M SV:=λ_ C=>some (.v p,C)
theorem j3{v:V}{q:PV}(h:PE X e (tC v))(r:∀ι H,Rep X.K ι H q v):EM X e (mC q):=by
 show PE.imp h λσ H Q h_=>?_;obtain⟨ι,ρ,C,z,C',sr,e,k⟩:=h_;cases e;show k v H .refl sr.cr (r ι H)
def aB(g:Cs->SV->SV->Option SV)(fa fb:2e3):aq->M SV:=λρ=>aI (fa ρ) λx=>aI (fb ρ) λy=>dM λC=>g C x y
def zd(K:W.Frag)(r:R2)(g:Cs->SV->SV->Option SV):Prop:=
 ∀(ι:2e1)(H:Hp)(C:Cs)(x y:SV)(vx vy:V)(z:SV)(Q:VK),CR K ι H C->bC K ι H x vx->bC K ι H y vy->g C x y=some z->(∀v H',Fr ι H H'->CR K ι H' C->bC K ι H' z v->Q v H')->r vx vy H Q
theorem u6{K:W.Frag}{r:R2}{g:Cs->SV->SV->Option SV}(hg:zd K r g){σ:St}{H:Hp}{Q:VK}(h:tM K (aB g fa fb) σ H Q):MM r (tM K fa) (tM K fb) σ H Q:=by
 sleep 8;obtain⟨x,C1,e1,e⟩:=bp e;obtain⟨y,C2,e2,e⟩:=bp e;obtain⟨e3,rfl⟩:=km e;show⟨ι,ρ,C,x,C1,sr,e1,λvx H1 f1 c1 r1=>⟨ι,ρ,C1,y,C',sr.step f1 c1,e2,λvy H2 f2 c2 r2=>hg ι H2 C' x y vx vy z _ c2 (r1.mono c1 f2) r2 e3 λv H3 f3 c3 r3=>q v H3 (f1.trans (f2.trans f3)) c3 r3⟩⟩
theorem qo{op:Operator}{r:R2}{g:Cs->SV->SV->Option SV}(ho:gf X (Uc op) r)(hg:zd X.K r g)(ha:EM X a fa)(hb:EM X b fb):EM X (.BinOp a op b pos) (aB g fa fb):=
 PE.imp (Gn ho ha hb) λ_ _ _ h=>u6 hg h
theorem G2{r:R2}{g:Cs->SV->SV->Option SV}(hr:zg X r)(hg:zd X.K r g)(ha:EM X a fa)(hb:EM X b fb)(hs:jb b):EM X (.Subscript a b pos) (aB g fa fb):=
 PE.imp (Nt hr ha hb hs) λ_ _ _ h=>u6 hg h
def IZ(g g':Cs->SV->SV->Option SV)(fa fb fc:2e3):aq->M SV:=λρ=>aI (fa ρ) λx=>aI (fb ρ) λy=>aI (dM λC=>g C x y) λz=>aI (mB z) λb=>
 if b then aI (fc ρ) λw=>dM λC=>g' C y w else ret (.v (.bl false))
def bz(f:2e3):aq->M Bool:=λρ=>aI (f ρ) mB
theorem DU{K:W.Frag}{f:2e3}{σ:St}{H:Hp}{Q:Bool->Hp->Prop}(h:xq K (bz f) σ H Q):Gb (tM K f) σ H Q:=by
 sleep 8;obtain⟨x,C1,e1,e⟩:=bp e;obtain⟨rfl,rfl⟩:=vS e;show⟨ι,ρ,C,_,C',sr,e1,λv H1 f1 c1 r1=>⟨_,Na r1,q H1 f1 c1⟩⟩
noncomputable def aN (C:Cs):SV->Option PV
 |.v p=>some p
 |.c k=>C[k]?
noncomputable def HN:PV->Option Bool
 |.aF=>some false
 |.bl b=>some b
 |.int i=>some (i != 0)
 |.str y=>some ((y.length:Int) != 0)
 |.tup xs=>some (!xs.isEmpty)
 |.lst xs=>some (!xs.isEmpty)
 |.cV ks _=>some (!ks.isEmpty)
 |_=>none
def pT(f:2e3):aq->M Bool:=λρ=>aI (f ρ) λx=>dM λC=>(aN C x).bind HN
inductive Lies(K:W.Frag)(ι:List Addr)(H:Hp):PV->V->Prop
 |aF:Lies K ι H .aF .aF
 |bl (b:Bool):Lies K ι H (.bl b) (.bl b)
 |int (i:Int):Lies K ι H (.int i) (.int i)
 |str (x:Str) (h:x.length<=YA):Lies K ι H (.str x) (.str x)
 |tup {a:Addr} {ps:List PV} {vs:List V} (h:K' H a vs) (r:ab K ι H ps vs):Lies K ι H (.tup ps) (.ref a)
 |lst {a:Addr} {ps:List PV} {vs:List V} (h:fH K H a vs) (r:ab K ι H ps vs):Lies K ι H (.lst ps) (.ref a)
 |cV {a:Addr} {qs:List Key} {ps:List PV} {vs:List V} (h:H a=some (.dK (qs.zip vs))) (hl:qs.length=vs.length) (r:ab K ι H ps vs):Lies K ι H (.cV (qs.map kP) ps) (.ref a)
 |aG {a:Addr} {ks:List (List Key)} {ps:List PV} {vs:List V} (h:Rd H a (.dT (ks.zip vs))) (hl:ks.length=vs.length) (r:ab K ι H ps vs):Lies K ι H (.aG ks ps) (.ref a)
 |fn (a:Addr):Lies K ι H (.fn a) (.ref a)
 |ty (n:String):Lies K ι H (.ty n) (.ty n)
theorem Rep.lies{K:W.Frag}{ι:2e1}{H:Hp}:∀{p:PV}{v:V},Rep K ι H p v->Lies K ι H p v
 |.aF,v,h=>by ext Rep h;subst h;show .aF
 |.bl b,v,h=>by ext Rep h;subst h;show .bl b
 |.int i,v,h=>by ext Rep h;subst h;show .int i
 |.str x,v,h=>by ext Rep h;obtain⟨rfl,h⟩:=h;show .str x h
 |.tup ps,v,h=>by ext Rep h;obtain⟨a,vs,rfl,h,r⟩:=h;show .tup h r
 |.lst ps,v,h=>by ext Rep h;obtain⟨a,vs,rfl,h,r⟩:=h;show .lst h.sq r
 |.cV ks ps,v,h=>by ext Rep h;obtain⟨a,qs,vs,rfl,n,hd,hl,rfl,r⟩:=h;show .cV hd hl r
 |.aG ks ps,v,h=>by ext Rep h;obtain⟨a,vs,rfl,n,hd,hl,r⟩:=h;show .aG hd hl r
 |.fn a,v,h=>by ext Rep h;subst h;show .fn a
 |.ty n,v,h=>by ext Rep h;subst h;show .ty n
theorem bC.lies{K:W.Frag}{ι:2e1}{H:Hp}{C:Cs}(cr:7e7){x:SV}{p:PV}{v:V}(r:bC K ι H x v)(e:aN C x=some p):Lies K ι H p v:=by
 cases x with
 |v q=>cases e;show Rep.lies r
 |c k=>
  obtain⟨a,rfl,hk⟩:=r;have ok:=cr.ok k a p hk e;cases p with
  |lst ps=>obtain⟨vs,h,r⟩:=ok;show .lst (.of h) r
  |cV ks ps=>obtain⟨qs,vs,h,hl,rfl,r⟩:=ok;show .cV h hl r
  |aG ks ps=>obtain⟨vs,h,hl,r⟩:=ok;show .aG (.inl h) hl r
  |_=>show ok.elim
theorem ab.isEmpty{K:W.Frag}{ι:2e1}{H:Hp}{ps:List PV}{vs:List V}(r:ab K ι H ps vs):ps.isEmpty=vs.isEmpty:=by
 have:=r.length;cases ps<;>cases vs<;>simp at this⊢
theorem Lies.tru{K:W.Frag}{ι:2e1}{H:Hp}{p:PV}{v:V}{k:Bool}(l:Lies K ι H p v)(e:HN p=some k):K9 K v H k:=by
 cases l with
 |aF=>cases e;rfl
 |bl b=>cases e;rfl
 |int i=>cases e;rfl
 |str x h=>cases e;show⟨h,rfl⟩
 |tup h r=>cases e;show .inr (.inl ⟨_,h.sq,by rw[r.isEmpty]⟩)
 |lst h r=>cases e;show .inl ⟨_,h,by rw[r.isEmpty]⟩
 |@cV a qs ps vs h hl r=>
  cases e;show .inr (.inr ⟨_,h,?_⟩);cases qs<;>cases vs<;>simp at hl⊢
 |aG h hl r=>cases e
 |fn a=>cases e
 |ty n=>cases e
def NH(f:4e1):aq->M Bool:=λρ=>aI (f ρ) λb=>ret (!b)
def cZ(f g:4e1):aq->M Bool:=λρ=>aI (f ρ) λb=>if b then g ρ else ret false
def S0(f g:4e1):aq->M Bool:=λρ=>aI (f ρ) λb=>if b then ret true else g ρ
def lG(f g:2e3):aq->M SV:=λρ=>aI (f ρ) λx=>aI (mB x) λb=>if b then g ρ else ret (.v (.bl false))
def SY(f g:2e3):aq->M SV:=λρ=>aI (f ρ) λx=>aI (mB x) λb=>if b then ret (.v (.bl true))else g ρ
def NG(f:2e3):aq->M SV:=λρ=>aI (f ρ) λx=>aI (mB x) λb=>ret (.v (.bl !b))
def mIf(t:4e1)(f g:2e3):aq->M SV:=λρ=>aI (t ρ) λb=>if b then f ρ else g ρ
def af:aq->M (List SV):=λ_=>ret []
def aa(f:2e3)(g:1e9):aq->M (List SV):=λρ=>aI (f ρ) λx=>aI (g ρ) λxs=>ret (x::xs)
theorem oe:AM X [] af:=PA.imp AO λσ H Q h_=>by obtain⟨ι,ρ,C,z,C',sr,e,q⟩:=h_;cases e;show q [] H .refl sr.cr rfl
theorem og{f:2e3}{g:1e9}(h:EM X e f)(k:AM X es g)(hs:1e4:=by rfl):AM X 4e4 (aa f g):=PA.imp (iU h k hs) λσ H Q h=>by
 sleep 8;obtain⟨x,C1,e1,e⟩:=bp e;obtain⟨xs,C2,e2,e⟩:=bp e;cases e;show⟨ι,ρ,C,x,C1,sr,e1,λv H1 f1 c1 r1=>⟨ι,ρ,C1,xs,C',sr.step f1 c1,e2,λvs H2 f2 c2 r2=>q (v::vs) H2 (f1.trans f2) c2 ⟨v,vs,rfl,r1.mono c1 f2,r2⟩⟩⟩
def Dq(K:W.Frag)(r:List V->Hp->VK->Prop)(g:Cs->List SV->Option SV):Prop:=
 ∀(ι:2e1)(H:Hp)(C:Cs)(xs:List SV)(vs:List V)(z:SV)(Q:VK),CR K ι H C->aU K ι H xs vs->g C xs=some z->(∀v H',Fr ι H H'->CR K ι H' C->bC K ι H' z v->Q v H')->r vs H Q
def i5(g:Cs->List SV->Option SV)(fs:1e9):aq->M SV:=λρ=>aI (fs ρ) λxs=>dM λC=>g C xs
theorem Gd{K:W.Frag}{r:List V->Hp->VK->Prop}{g:Cs->List SV->Option SV}{fs:1e9}(hg:Dq K r g){σ:St}{H:Hp}{Q:VK}(h:tM K (i5 g fs) σ H Q):Sf r (MR K fs) σ H Q:=by
 sleep 8;obtain⟨xs,C1,e1,e⟩:=bp e;obtain⟨e2,rfl⟩:=km e;show⟨ι,ρ,C,xs,C',sr,e1,λvs H1 f1 c1 r1=>hg ι H1 C' xs vs z _ c1 r1 e2 λv H2 f2 c2 r2=>q v H2 (f1.trans f2) c2 r2⟩
theorem Q4{id:String}{r:List V->Hp->VK->Prop}{g:Cs->List SV->Option SV}{fs:1e9}(hc:cM X (.builtin id) r)(hg:Dq X.K r g)(i8:Gl X x)(hm:X.mg x=none)(hv:XF x=some (.builtin id))(ha:AM X 4e4 fs)(hn:x≠"__name__":=by decide)(iJ:3e2:=by decide)
  (he:1e4:=by rfl) (cE:2e4:=by rfl):EM X 7e2 (i5 g fs):=
 PE.imp (jC hc i8 hm hv ha hn iJ he cE) λ_ _ _ h=>Gd hg h
theorem yF{T:String}{r:List V->Hp->VK->Prop}{g:Cs->List SV->Option SV}{fs:1e9}(hc:cM X (.type T) r)(hg:Dq X.K r g)(i8:Gl X x)(hm:X.mg x=none)(hv:XF x=some (.type T))(ha:AM X 4e4 fs)(hn:x≠"__name__":=by decide)(iJ:3e2:=by decide)
  (he:1e4:=by rfl) (cE:2e4:=by rfl):EM X 7e2 (i5 g fs):=
 PE.imp (lB hc i8 hm hv ha hn iJ he cE) λ_ _ _ h=>Gd hg h
noncomputable def av (K:W.Frag)(F:List SV->M SV):Sp:=λvs H Q _=>∃ι ss C r C',CR K ι H C/\aU K ι H ss vs/\F ss C=some (r,C')/\∀v H',Fr ι H H'->CR K ι H' C'->bC K ι H' r v->Q v H'
def cb(F:List SV->M SV)(fs:1e9):aq->M SV:=λρ=>aI (fs ρ) F
theorem Fq{k:Nat}{f:Addr}{fd:WI}{ps:4e3}{F:List SV->M SV}{fs:1e9}(G:fq X.prog X.w X.K X.mg X.base ot k f fd ps (av X.K F))(hr:b9 k X.A)(hg:Gl X x)(hm:X.mg x=some (.ref f))(hk:Hx X.K (.ref f)=true)(hb:Binds X.K fd ps [])
  (ha:AM X 4e4 fs) (iJ:3e2:=by decide) (he:1e4:=by rfl) (cE:2e4:=by rfl):
  EM X 7e2 (cb F fs):=PE.imp (iT G hr hg hm hk hb .nil vz ha iJ he cE) λσ H Q h=>by
 sleep 8;obtain⟨xs,C1,e1,e⟩:=bp e;show⟨ι,ρ,C,xs,C1,sr,e1,λvs H1 f1 c1 r1=>?_⟩;change av X.K F (vs++[]) H1 Q E0;rw[YG];show⟨ι,xs,C1,z,C',c1,r1,e,λv H2 f2 c2 r2=>q v H2 (f1.trans f2) c2 r2⟩
end
def Ex(ι ι2:2e1)(H H':Hp):Prop:=Fr ι H H'/\∀b∈ι2,H b=none
section
variable{K:W.Frag}{ι ι2 ι3 ι':2e1}{H H1 H2 H':Hp}{C C' C1:Cs}{ρ:aq}{σ:St}
mutual
theorem Rep.tr(cr:7e7)(h:∀b o,b∉ι->H b=some o->b∉ι'/\H' b=some o):∀(p:PV)(v:V),Rep K ι H p v->Rep K ι' H' p v
 |.aF,v,q=>by unfold Rep at q⊢;show q
 |.bl b,v,q=>by unfold Rep at q⊢;show q
 |.int i,v,q=>by unfold Rep at q⊢;show q
 |.str x,v,q=>by unfold Rep at q⊢;show q
 |.tup ps,v,q=>by
  unfold Rep at q⊢;obtain⟨a,vs,e,sq,r⟩:=q;show⟨a,vs,e,(h _ _ (cr.vJ sq (λ_ e=>nomatch e) λ_ e=>nomatch e) sq).2,ab.tr cr h ps vs r⟩
 |.lst ps,v,q=>by
  unfold Rep at q⊢;obtain⟨a,vs,e,sq,r⟩:=q;show⟨a,vs,e,?_,ab.tr cr h ps vs r⟩;rcases sq with⟨n,z|⟨o,z⟩⟩|z
  ·show .inl ⟨(h _ _ n z).1,.inl (h _ _ n z).2⟩
  ·show .inl ⟨(h _ _ n z).1,.inr ⟨o,(h _ _ n z).2⟩⟩
  ·show .inr z
 |.cV ks ps,v,q=>by
  unfold Rep at q⊢;obtain⟨a,qs,vs,e,n,hd,hl,hk,r⟩:=q;show⟨a,qs,vs,e,(h _ _ n hd).1,(h _ _ n hd).2,hl,hk,ab.tr cr h ps vs r⟩
 |.aG ks ps,v,q=>by
  unfold Rep at q⊢;obtain⟨a,vs,e,n,hd,hl,r⟩:=q;show⟨a,vs,e,by rcases id hd with q|⟨o,q⟩<;>show(h _ _ n q).1,mP (λo q=>(h _ o n q).2) hd,hl,ab.tr cr h ps vs r⟩
 |.fn a,v,q=>by unfold Rep at q⊢;show q
 |.ty n,v,q=>by unfold Rep at q⊢;show q
theorem ab.tr(cr:7e7)(h:∀b o,b∉ι->H b=some o->b∉ι'/\H' b=some o):∀(ps:List PV)(vs:List V),ab K ι H ps vs->ab K ι' H' ps vs
 |[],vs,q=>by unfold ab at q⊢;show q
 |p::ps,vs,q=>by
  unfold ab at q⊢;obtain⟨v,r,e,h1,h2⟩:=q;show⟨v,r,e,Rep.tr cr h p v h1,ab.tr cr h ps r h2⟩
end
theorem Ex.fr(f:Fr ι H H'):Ex ι [] H H':=⟨f,λ_ z=>nomatch z⟩
theorem Ex.out(x:Ex ι ι2 H H'):∀b o,b∉ι->H b=some o->b∉ι++ι2/\H' b=some o:=λb o n e=>by
 show⟨λz=>?_,x.1 b o n e⟩;rcases Ym.mp z with z|z
 ·show n z
 ·rw[x.2 b z]at e;cases e
theorem Ex.trans(c:CR K 6e4 H1 C1)(x:Ex ι ι2 H H1)(y:Ex 6e4 ι3 H1 H2):Ex ι (ι2++ι3) H H2:=by
 show⟨λb o n e=>(y.out b o (x.out b o n e).1 (x.out b o n e).2).2,λb hb=>?_⟩;rcases Ym.mp hb with hb|hb
 ·show x.2 b hb
 ·cases e:H b with
  |none=>rfl
  |some o=>
   by_cases n:b∈ι
   ·rcases c.mut (Y4 _ n)with⟨vs,z⟩|⟨vs,z⟩|⟨vs,z⟩
    ·rw[y.2 b hb]at z;cases z
    ·rw[y.2 b hb]at z;cases z
    ·rw[y.2 b hb]at z;cases z
   ·have:=x.1 b o n e
    rw[y.2 b hb]at this;cases this
theorem bC.ex(cr:7e7)(x:Ex ι ι2 H H'){s:SV}{v:V}(r:bC K ι H s v):bC K 6e4 H' s v:=by
 cases s with
 |v p=>show Rep.tr cr x.out p v r
 |c k=>
  obtain⟨a,e,hk⟩:=r;show⟨a,e,?_⟩;have hl:k<ι.length:=by
   rcases YQ k ι.length with q|q
   ·show q
   ·rw[YT.mpr q]at hk;cases hk
  rw[Yp hl];show hk
theorem SR.ex(sr:SR K ι H ρ σ C)(x:Ex ι ι2 H H')(c:CR K 6e4 H' C'):SR K 6e4 H' ρ σ C':=
 ⟨c,sr.len,λi s e=>by obtain⟨v,h1,h2⟩:=sr.loc i s e;show⟨v,h1,h2.ex sr.cr x⟩⟩
end
theorem aU.length{K:W.Frag}{ι:2e1}{H:Hp}:∀{ss:List SV}{vs:List V},aU K ι H ss vs->ss.length=vs.length
 |[],vs,h=>by rw[show vs=[]from h];rfl
 |s::ss,vs,h=>by obtain⟨v,r,rfl,_,t⟩:=h;rw[Yv,Yv,aU.length t]
def Done(K:W.Frag)(ι:2e1)(H:Hp)(D:Ends)(C':Cs):PF->Prop
 |.nx ρ=>∀ι2 σ' H',Ex ι ι2 H H'->SR K 6e4 H' ρ σ' C'->D.nx σ' H'
 |.rt r=>∀ι2 v H',Ex ι ι2 H H'->CR K 6e4 H' C'->bC K 6e4 H' r v->D.rt v H'
 |.bk ρ=>∀ι2 σ' H',Ex ι ι2 H H'->SR K 6e4 H' ρ σ' C'->D.bk σ' H'
 |.ct ρ=>∀ι2 σ' H',Ex ι ι2 H H'->SR K 6e4 H' ρ σ' C'->D.ct σ' H'
 |.rf ps=>∀ι2 p vs H',Ex ι ι2 H H'->CR K 6e4 H' C'->H' p=none->ab K 6e4 H' ps vs->D.rt (.ref p) (upd H' p (.lst vs))
 |.rq qs=>∀ι2 p vs H',Ex ι ι2 H H'->CR K 6e4 H' C'->H' p=none->aU K 6e4 H' qs vs->D.rt (.ref p) (upd H' p (.tup vs))
def R8(K:W.Frag)(f:7e4):TS:=λD σ H=>∃ι ρ C fl C',SR K ι H ρ σ C/\f ρ C=some (fl,C')/\Done K ι H D C' fl
def SM(X:Cx)(st:Stmt)(f:7e4):Prop:=PS X st (R8 X.K f)
def BM(X:Cx)(zo:List Stmt)(f:7e4):Prop:=kT X zo (R8 X.K f)
section
variable{K:W.Frag}{ι ι2:2e1}{H H':Hp}{C C' C1:Cs}{ρ:aq}{σ:St}{D:Ends}{fl:PF}
theorem Done.tr(c:CR K 6e4 H' C1)(x:Ex ι ι2 H H')(d:Done K ι H D C' fl):Done K 6e4 H' D C' fl:=by
 cases fl with
 |nx ρ=>intro ι3 σ' H2 y sr;rw[Yd]at sr;show d _ σ' H2 (x.trans c y) sr
 |rt r=>intro ι3 v H2 y cr rr;rw[Yd]at cr rr;show d _ v H2 (x.trans c y) cr rr
 |bk ρ=>intro ι3 σ' H2 y sr;rw[Yd]at sr;show d _ σ' H2 (x.trans c y) sr
 |ct ρ=>intro ι3 σ' H2 y sr;rw[Yd]at sr;show d _ σ' H2 (x.trans c y) sr
 |rf ps=>intro ι3 p vs H2 y cr hp rs;rw[Yd]at cr rs;show d _ p vs H2 (x.trans c y) cr hp rs
 |rq ps=>intro ι3 p vs H2 y cr hp rs;rw[Yd]at cr rs;show d _ p vs H2 (x.trans c y) cr hp rs
theorem Done.fr(c:CR K ι H' C1)(f:Fr ι H H')(d:Done K ι H D C' fl):Done K ι H' D C' fl:=by
 have:=Done.tr (ι2:=[]) (by rw[YG];show c) (Ex.fr f) d;rw[YG]at this;show this
theorem Done.IL(sr:SR K ι H ρ σ C')(d:Done K ι H D C' (.nx ρ)):D.nx σ H:=d [] σ H (Ex.fr .refl) (by rw[YG];show sr)
end
section
variable{X:Cx}{a b e c tg:Expr}{es:3e4}{st:Stmt}{rest zo HZ:List Stmt}{f g:7e4}{pos p pos':Pos}{x:Str}
def dA:aq->M PF:=λρ=>ret (.nx ρ)
def aA(f g:7e4):aq->M PF:=λρ=>aI (f ρ) λfl=>match fl with
 |.nx ρ'=>g ρ'
 |fl=>ret fl
def fD(t:4e1)(f g:7e4):aq->M PF:=λρ=>aI (t ρ) λb=>if b then f ρ else g ρ
def eT(f:2e3):aq->M PF:=λρ=>aI (f ρ) λr=>ret (.rt r)
def cY(f:7e1):aq->M PF:=λρ=>aI (f ρ) λr=>ret (.rf r)
def vO(fs:1e9):aq->M PF:=λρ=>aI (fs ρ) λxs=>if xs.length<=1000 then ret (.rq xs)else λ_=>none
def b7(f:2e3):aq->M PF:=λρ=>aI (f ρ) λ_=>ret (.nx ρ)
def a7(i:Nat)(f:2e3):aq->M PF:=λρ=>aI (f ρ) λr=>ret (.nx (ρ.set i (some r)))
def dP(i:Nat)(f:7e1):aq->M PF:=λρ=>aI (f ρ) λps=>λC=>some (.nx (ρ.set i (some 9e7)),C++[.lst ps])
theorem AZ{K:W.Frag}{ι:2e1}{H H':Hp}{ρ:aq}{σ:St}{C C1:Cs}{D:Ends}{i:Nat}{ps:List PV}{q:Addr}{vs:List V}(sr:SR K ι H ρ σ C)(d:Done K ι H D (C1++[.lst ps]) (.nx (ρ.set i (some (.c C1.length)))))
  (f1:Fr ι H H') (c1:CR K ι H' C1) (hq:H' q=none) (rs:ab K ι H' ps vs):D.nx (σ.set i (some (.ref q))) (upd H' q (.lst vs)):=by
 have c2:CR K (ι++[q]) (upd H' q (.lst vs)) (C1++[.lst ps]):=c1.add hq ⟨vs,fW,gT c1 hq ps vs rs⟩;have x:Ex ι [q] H (upd H' q (.lst vs)):=⟨f1.trans (Fr.new hq),λb hb=>by
  have:b=q:=by simpa using hb
  subst this;cases e:H b with
  |none=>rfl
  |some o=>
   by_cases n:b∈ι
   ·rcases c1.mut n with⟨vs,z⟩|⟨vs,z⟩|⟨vs,z⟩
    ·rw[hq]at z;cases z
    ·rw[hq]at z;cases z
    ·rw[hq]at z;cases z
   ·have:=f1 b o n e;rw[hq]at this;cases this⟩
 show d [q] _ _ x ((sr.ex x c2).set i ⟨q,rfl,?_⟩);rw[←c1.len];simp
noncomputable def plain:List SV->Option 3e0
 |[]=>some []
 |.v p::r=>(plain r).map (p::·)
 |.c _::_=>none
theorem PN{K:W.Frag}{ι:2e1}{H:Hp}:∀{xs:List SV}{ps:List PV}{vs:List V},plain xs=some ps->aU K ι H xs vs->ab K ι H ps vs/\vs.length=xs.length
 |[],ps,vs,e,r=>by cases e;rw[show vs=[]from r];show⟨.nil,rfl⟩
 |.v p::xs,ps,vs,e,r=>by
  obtain⟨v,w,rfl,h1,h2⟩:=r;ext plain e;cases h:plain xs with
  |none=>rw[h]at e;cases e
  |some qs=>
   rw[h]at e;cases e;show⟨.cons h1 (PN h h2).1,by rw[Yv,Yv,(PN h h2).2]⟩
 |.c _::_,ps,vs,e,r=>by cases e
theorem wj{n:Nat}(h:n<=1000):n<=sizeLine:=Xb h (by rw[YZ];decide)
def aZ(fs:1e9):aq->M SV:=λρ=>aI (fs ρ) λxs=>dM λ_=>if xs.length<=1000 then(plain xs).map λps=>.v (.tup ps)else none
def dh(fs:1e9):aq->M 3e0:=λρ=>aI (fs ρ) λxs=>dM λ_=>if xs.length<=1000 then plain xs else none
theorem B2{fs:1e9}(h:AM X es fs):FM X (.List es pos) (dh fs):=PE.imp (Iy h) λσ H Q h_=>by
 sleep 5;obtain⟨xs,C1,e1,e⟩:=bp e;obtain⟨e2,rfl⟩:=km e;show⟨ι,ρ,C,xs,_,sr,e1,λvs H1 f1 c1 r1=>?_⟩;by_cases hl:xs.length<=1000
 ·rw[if_pos hl]at e2
  obtain⟨rs,hv⟩:=PN e2 r1;show⟨by rw[hv];show wj hl,λq' hq=>q q' vs H1 f1 c1 hq rs⟩
 ·rw[if_neg hl]at e2;cases e2
def bF(f:7e1):aq->M SV:=λρ=>aI (f ρ) λps=>ret (.v 9e5)
theorem Pw{K:W.Frag}{ι:2e1}{H:Hp}{C:Cs}{ps:List PV}{q:Addr}{vs:List V}(c1:7e7)(hq:H q=none)(rs:ab K ι H ps vs):Rep K ι (upd H q (.lst vs)) 9e5 (.ref q):=by
 ext Rep;show⟨q,vs,rfl,.inl ⟨λz=>?_,.inl fW⟩,ab.cW (λb o e=>by rw[ba (gB e hq)];show e) ps vs rs⟩;rcases c1.mut z with⟨_,e⟩|⟨_,e⟩|⟨_,e⟩
 ·rw[hq]at e;cases e
 ·rw[hq]at e;cases e
 ·rw[hq]at e;cases e
noncomputable def zV (K:W.Frag)(g:2e7):TG:=λv σ H Q=>∃ι ρ C p ρ',SR K ι H ρ σ C/\Rep K ι H p v/\g p ρ=some ρ'/\∀σ',SR K ι H ρ' σ' C->Q σ' H
noncomputable def R9 (K:W.Frag)(g:List PV->aq->Option aq):FY:=λv σ H Q=>∃ι ρ C p ρ',SR K ι H ρ σ C/\ab K ι H p v/\g p ρ=some ρ'/\∀σ',SR K ι H ρ' σ' C->Q σ' H
def GM(X:Cx)(tg:Expr)(g:2e7):Prop:=PG X tg (zV X.K g)
def GMs(X:Cx)(ts:3e4)(g:List PV->aq->Option aq):Prop:=DJ X ts (R9 X.K g)
theorem PG.imp{t t':TG}(h:PG X tg t)(k:∀v σ H Q,t' v σ H Q->t v σ H Q):PG X tg t':=λpins s σ H v u Q I r q=>h pins s σ H v u Q I r (k v σ H Q q)
theorem DJ.imp{t t':FY}(h:DJ X es t)(k:∀v σ H Q,t' v σ H Q->t v σ H Q):DJ X es t':=λpins s σ H v u Q I r q=>h pins s σ H v u Q I r (k v σ H Q q)
noncomputable def hName (i:Nat):PV->aq->Option aq:=λp ρ=>some (ρ.set i (some (.v p)))
noncomputable def nI:List PV->aq->Option aq
 |[],ρ=>some ρ
 |_::_,_=>none
noncomputable def dc (g:2e7)(gs:List PV->aq->Option aq):List PV->aq->Option aq
 |[],_=>none
 |p::ps,ρ=>(g p ρ).bind λρ'=>gs ps ρ'
noncomputable def nH (gs:List PV->aq->Option aq)(n:Nat):PV->aq->Option aq
 |.tup ps,ρ=>if ps.length=n then gs ps ρ else none
 |_,_=>none
def EK(f:2e3)(g:2e7):aq->M PF:=λρ=>aI (f ρ) λr=>match r with
 |.v p=>λC=>(g p ρ).map λρ'=>(.nx ρ',C)
 |.c _=>λ_=>none
end
structure Iter(K:W.Frag)(ι:List Addr)(H1:Hp)(xs:List PV)(J:It):Prop where
 go:∀ι2 H2 C2,Ex ι ι2 H1 H2->CR K 6e4 H2 C2->∀i,i<xs.length->J.go i H2
 uZ:∀ι2 H2 C2,Ex ι ι2 H1 H2->CR K 6e4 H2 C2->∀i v H3,i<xs.length->J.uZ i H2 v H3->(∀b o,H2 b=some o->H3 b=some o)/\∃p,xs[i]? = some p/\Rep K 6e4 H3 p v
 stop:∀ι2 H2 C2,Ex ι ι2 H1 H2->CR K 6e4 H2 C2->J.stop xs.length H2
def MQ(K:W.Frag)(f:7e1):TI:=λσ H R=>∃ι ρ C xs C',SR K ι H ρ σ C/\f ρ C=some (xs,C')/\∀J H1,Fr ι H H1->CR K ι H1 C'->Iter K ι H1 xs J->R J H1
def IM(X:Cx)(tg iter:Expr)(f:7e1):Prop:=PI X tg iter (MQ X.K f)
section
variable{X:Cx}{e tg iter elt:Expr}{es:3e4}{body:List Stmt}{f:7e4}{pos p:Pos}{x:Str}
def loop(g:2e7)(f:7e4):List PV->aq->M PF
 |[],ρ=>ret (.nx ρ)
 |x::xs,ρ=>match g x ρ with
  |none=>λ_=>none
  |some ρ1=>aI (f ρ1) λfl=>match fl with
   |.nx ρ2=>loop g f xs ρ2
   |.ct ρ2=>loop g f xs ρ2
   |.bk ρ2=>ret (.nx ρ2)
   |.rt r=>ret (.rt r)
   |.rf ps=>ret (.rf ps)
   |.rq ps=>ret (.rq ps)
def bO(it:7e1)(g:2e7)(f:7e4):aq->M PF:=λρ=>aI (it ρ) λxs=>loop g f xs ρ
noncomputable def cX (vs:4e3)(fr:3e9)(ρ:aq):aq:=vs.map (λ_=>none)++fr.map λi=>(ρ[i]?).join
def gh(g:2e7)(tt:4e1)(te:2e3):List PV->aq->List PV->M 3e0
 |[],_,ys=>ret ys
 |x::xs,ρ,ys=>match g x ρ with
  |none=>λ_=>none
  |some ρ1=>aI (tt ρ1) λb=>if b then aI (te ρ1) λy=>match y with
    |.v p=>gh g tt te xs ρ1 (ys++[p])
    |.c _=>λ_=>none
   else gh g tt te xs ρ1 ys
def bW(it:7e1)(vs:4e3)(fr:3e9)(g:2e7)(tt:4e1)(te:2e3):aq->M 3e0:=λρ=>aI (it ρ) λxs=>if xs.length<=100000 then gh g tt te xs (cX vs fr ρ) []else λ_=>none
theorem SR.block{K:W.Frag}{ι:2e1}{H:Hp}{ρ:aq}{σ:St}{C:Cs}(sr:SR K ι H ρ σ C)(vs:4e3)(fr:3e9):SR K ι H (cX vs fr ρ) (iD vs fr σ) C:=by
 show⟨sr.cr,by simp[cX,iD],λi s e=>?_⟩;ext cX e;ext iD;rcases YQ i vs.length with h|h
 ·rw[Yp 7e6]at e
  simp at e
 ·rw[YE 7e6]at e
  rw[YE 7e6];simp only[Yj,Yx]at e⊢;cases hj:fr[i-vs.length]? with
  |none=>rw[hj]at e;cases e
  |some j=>
   rw[hj]at e;have e':(ρ[j]?).join=some s:=by simpa using e
   have e2:ρ[j]? = some (some s):=by
    cases hr:ρ[j]? with
    |none=>rw[hr]at e';cases e'
    |some o=>rw[hr]at e';simp at e';rw[e']
   obtain⟨v,h1,h2⟩:=sr.loc j s e2;show⟨v,?_,h2⟩;simp[h1]
theorem eV{n:Nat}(h:n<=100000):n<=sizeLine:=Xb h (by rw[YZ];decide)
section
variable{ifs:3e4}{scope:Scope}{vs fs:4e3}{fr:3e9}{it:7e1}{g:2e7}{tt:4e1}{te:2e3}
def RT(X:Cx)(ifs:3e4)(t:4e1):Prop:=zG X ifs (xq X.K t)
def fw:aq->M Bool:=λ_=>ret true
end
end
theorem CR.cut{K:W.Frag}{ι ι2:2e1}{H:Hp}{C:Cs}{n:Nat}(c:CR K 6e4 H C)(hn:ι.length=n):CR K ι H (C.take n):=by
 have hlen:(ι++ι2).length=C.length:=c.len;rw[Yf]at hlen;have hs:∀b o,H b=some o->b∉ι++ι2->b∉ι:=λb o _ z q=>z (Y4 _ q);show⟨by rw[Xv];lia,(Xl.mp c.nd).1,λk a d h1 h2=>?_⟩;have hk:k<ι.length:=by
  rcases YQ k ι.length with q|q
  ·show q
  ·rw[YT.mpr q]at h1;cases h1
 rw[XJ 1e0]at h2;have ok:=c.ok k a d (by rw[Yp hk];show h1) h2;cases d with
 |lst ps=>obtain⟨vs,e,r⟩:=ok;show⟨vs,e,ab.cells hs _ _ r⟩
 |cV ks ps=>obtain⟨qs,vs,e,hl,hk,r⟩:=ok;show⟨qs,vs,e,hl,hk,ab.cells hs _ _ r⟩
 |aG ks ps=>obtain⟨vs,e,hl,r⟩:=ok;show⟨vs,e,hl,ab.cells hs _ _ r⟩
 |_=>show ok.elim
noncomputable def fin (n:Nat)(C':Cs):SV->Option (SV×Cs)
 |.v p=>some (.v p,C'.take n)
 |.c k=>if k<n then some (.c k,C'.take n)else(C'[k]?).map λc=>(.v c,C'.take n)
noncomputable def ij (n:Nat)(C':Cs):List SV->Option 3e0
 |[]=>some []
 |.v p::r=>(ij n C' r).map (p::·)
 |.c k::r=>if k<n then none else(C'[k]?).bind λc=>(ij n C' r).map (c::·)
def cN(n pad:Nat)(body:7e4):List SV->M SV:=λss C=>if ss.length=n then(match body (ss.map some++VE pad none) C with
 |some (.rt r,C')=>fin C.length C' r
 |some (.nx _,C')=>some (.v .aF,C'.take C.length)
 |some (.rf ps,C')=>some (.v 9e5,C'.take C.length)
 |some (.rq qs,C')=>(ij C.length C' qs).map λps=>(.v (.tup ps),C'.take C.length)
 |_=>none)else none
noncomputable def dB (n pad:Nat)(body:7e4):List SV->M 3e0:=λss C=>if ss.length=n then(match body (ss.map some++VE pad none) C with
 |some (.rf ps,C')=>some (ps,C'.take C.length)
 |_=>none)else none
def bj(K:W.Frag)(F:List SV->M 3e0):Sp:=λvs H Q _=>∃ι ss C ps C',CR K ι H C/\aU K ι H ss vs/\F ss C=some (ps,C')/\∀p vs H',Fr ι H H'->CR K ι H' C'->H' p=none->ab K ι H' ps vs->Q (.ref p) (upd H' p (.lst vs))
def gF(F:List SV->M 3e0)(fs:1e9):aq->M 3e0:=λρ=>aI (fs ρ) F
theorem Fi{X:Cx}{e:Expr}{es:3e4}{p pos:Pos}{x:Str}{k:Nat}{f:Addr}{fd:WI}{ps:4e3}{F:List SV->M 3e0}{fs:1e9}(G:fq X.prog X.w X.K X.mg X.base ot k f fd ps (bj X.K F))(hr:b9 k X.A)(hg:Gl X x)(hm:X.mg x=some (.ref f))(hk:Hx X.K (.ref f)=true)(hb:L2.Binds X.K fd ps [])
  (ha:AM X 4e4 fs) (iJ:3e2:=by decide) (he:1e4:=by rfl) (cE:2e4:=by rfl):
  FM X 7e2 (gF F fs):=PE.imp (iT G hr hg hm hk hb .nil vz ha iJ he cE) λσ H Q h_=>by
 sleep 5;obtain⟨xs,C1,e1,g1⟩:=bp e;show⟨ι,ρ,C,xs,C1,sr,e1,λvs H1 f1 c1 r1=>?_⟩;change bj X.K F (vs++[]) H1 Q E0;rw[YG];show⟨ι,xs,C1,z,C',c1,r1,g1,λq' ws H2 f2 c2 h2 r2=>q q' ws H2 (f1.trans f2) c2 h2 r2⟩
theorem jW{K:W.Frag}{ι ι2:2e1}{H:Hp}{C' C2:Cs}{n:Nat}{r r':SV}{v:V}(c:CR K 6e4 H C')(hn:ι.length=n)(rr:bC K 6e4 H r v)(e:fin n C' r=some (r',C2)):CR K ι H C2/\bC K ι H r' v:=by
 have hs:∀b o,H b=some o->b∉ι++ι2->b∉ι:=λb o _ z q=>z (Y4 _ q);cases r with
 |v p=>cases e;show⟨c.cut hn,Rep.cells hs p v rr⟩
 |c k=>
  obtain⟨a,rfl,hk⟩:=rr;replace e:(if k<n then some (SV.c k,C'.take n)else(C'[k]?).map λc=>(SV.v c,C'.take n))=some (r',C2):=e;by_cases h:k<n
  ·rw[if_pos h]at e
   cases e;show⟨c.cut hn,a,rfl,?_⟩;rw[Yp 1e0]at hk;show hk
  ·rw[if_neg h]at e
   cases hd:C'[k]? with
   |none=>rw[hd]at e;cases e
   |some d=>
    rw[hd]at e;cases e;show⟨c.cut hn,?_⟩;have ok:=c.ok k a d hk hd;have JG:a∉ι:=λz=>by
     obtain⟨j,hj,ej⟩:=XO z;have Ow:(ι++ι2)[j]? = some a:=by rw[Yp hj,Ye hj,ej]
     have nE:k<(ι++ι2).length:=by
      rcases YQ k (ι++ι2).length with q|q
      ·show q
      ·rw[YT.mpr q]at hk;cases hk
     have QC:j<(ι++ι2).length:=by rw[Yf];lia
     have e1:=(Y7.mp Ow).2;have e2:=(Y7.mp hk).2;have:=(U2 c.nd).mp (e1.trans e2.symm);lia
    change Rep K ι H d 9e8;cases d with
    |lst ps=>obtain⟨vs,e,r⟩:=ok;ext Rep;show⟨a,vs,rfl,.inl ⟨JG,.inl e⟩,ab.cells hs _ _ r⟩
    |cV ks ps=>obtain⟨qs,vs,e,hl,hk,r⟩:=ok;ext Rep;show⟨a,qs,vs,rfl,JG,e,hl,hk,ab.cells hs _ _ r⟩
    |aG ks ps=>obtain⟨vs,e,hl,r⟩:=ok;ext Rep;show⟨a,vs,rfl,JG,.inl e,hl,ab.cells hs _ _ r⟩
    |_=>show ok.elim
theorem nK{K:W.Frag}{ι ι2:2e1}{H:Hp}{C':Cs}{n:Nat}(c:CR K 6e4 H C')(hn:ι.length=n):∀{qs:List SV}{ps:List PV}{vs:List V},aU K 6e4 H qs vs->ij n C' qs=some ps->ab K ι H ps vs
 |[],ps,vs,r,e=>by cases e;rw[show vs=[]from r];show .nil
 |.v p::qs,ps,vs,r,e=>by
  obtain⟨v,w,rfl,h1,h2⟩:=r;ext ij e;cases hq:ij n C' qs with
  |none=>rw[hq]at e;cases e
  |some z=>
   rw[hq]at e;cases e;show .cons (jW (r:=.v p) (r':=.v p) c hn h1 rfl).2 (nK c hn h2 hq)
 |.c k::qs,ps,vs,r,e=>by
  obtain⟨v,w,rfl,h1,h2⟩:=r;ext ij e;by_cases hk:k<n
  ·rw[if_pos hk]at e;cases e
  ·rw[if_neg hk]at e
   cases hc:C'[k]? with
   |none=>rw[hc]at e;cases e
   |some d=>
    cases hq:ij n C' qs with
    |none=>rw[hc,hq]at e;cases e
    |some z=>
     rw[hc,hq]at e;cases e;show .cons (jW (r:=.c k) (r':=.v d) c hn h1 (show(if k<n then some (SV.c k,C'.take n)else(C'[k]?).map λc=>(SV.v c,C'.take n))=some (.v d,C'.take n) by rw[if_neg hk,hc];rfl)).2 (nK c hn h2 hq)
theorem aU.get{K:W.Frag}{ι:2e1}{H:Hp}:∀{ss:List SV}{vs:List V}{i:Nat}{s:SV},aU K ι H ss vs->ss[i]? = some s->∃v,vs[i]? = some v/\bC K ι H s v
 |[],_,_,_,h,e=>by simp at e
 |q::ss,vs,0,s,h,e=>by
  obtain⟨v,r,rfl,h1,h2⟩:=h;simp at e;subst e;show⟨v,rfl,h1⟩
 |q::ss,vs,i+1,s,h,e=>by
  obtain⟨v,r,rfl,h1,h2⟩:=h;obtain⟨w,e1,r1⟩:=aU.get (i:=i) h2 (by simpa using e);show⟨w,by simpa using e1,r1⟩
theorem oJ{K:W.Frag}{ι:2e1}{H:Hp}{C:Cs}{ss:List SV}{vs:List V}{N:4e3}(cr:7e7)(rs:aU K ι H ss vs):SR K ι H (ss.map some++VE (N.length-ss.length) none) (L2.start N vs) C:=by
 have hl:=aU.length rs;show⟨cr,by ext L2.start;simp[hl],λi s e=>?_⟩;ext L2.start;rcases YQ i ss.length with h|h
 ·rw[Yp 7e6,Yx]at e
  rw[Yp (by rw[Yj,←hl];show h),Yx];cases hs:ss[i]? with
  |none=>rw[hs]at e;cases e
  |some s'=>
   rw[hs]at e;have:s'=s:=by simpa using e
   subst this;obtain⟨v,h1,h2⟩:=aU.get rs hs;show⟨v,by rw[h1];rfl,h2⟩
 ·rw[YE 7e6,List.getElem?_replicate]at e
  split at e<;>cases e
section
variable{P:YF}{w:World}{K:W.Frag}{mg:2e5}{base:Heap}
theorem GX{x qual:Str}{st:Stmt}{f:Addr}{fd:WI}{N ps:4e3}{k:Nat}{body:7e4}(F:DL K x qual st f fd)(S:aJ N ps (ak st))
  (fB:∀(cdv:Value)(A:Around)(outer:List Env)(s:Shared)(H:Hp)(E:XK),b9 k (A.deeper (envOfC qual (ak st) s.heap.objs.size f cdv))->
   BM (j5 ot P w K mg base N qual (ak st) f cdv A outer s H E).EC (bL st) body):fq P w K mg base ot (k+1) f fd ps (av K (cN ps.length (N.length-ps.length) body)):=by
 show F.ok S (λvs H Q E h_=>?_) (λcdv A outer s H vs Q E hr h_=>?_)<;>obtain⟨ι,ss,C,r,C',cr,rs,e,q⟩:=h_
 ·ext cN e
  by_cases h:ss.length=ps.length
  ·rw[←aU.length rs];show h
  ·rw[if_neg h]at e;cases e
 ·show⟨_,fB cdv A outer s H E hr,?_⟩
  ext cN e;by_cases h:ss.length=ps.length
  case neg=>rw[if_neg h]at e;cases e
  rw[if_pos h]at e;have sr:=oJ (N:=N) cr rs;rw[h]at sr;cases hb:body (ss.map some++VE (N.length-ps.length) none) C with
  |none=>rw[hb]at e;cases e
  |some z=>
   obtain⟨fl,C2⟩:=z;rw[hb]at e;show⟨ι,_,C,fl,C2,sr,hb,?_⟩;cases fl with
   |rt r2=>
    intro ι2 v H' x c r3;obtain⟨c4,r4⟩:=jW c cr.len r3 e;show q v H' x.1 c4 r4
   |nx ρ2=>
    intro ι2 σ' H' x Lu;cases e;show q .aF H' x.1 (Lu.cr.cut cr.len) ?_;change Rep K ι H' .aF .aF;ext Rep;rfl
   |rf dR=>
    intro ι2 p' u3 H' x c hp M6;cases e;have hs:∀b o,H' b=some o->b∉ι++ι2->b∉ι:=λb o _ z q=>z (Y4 _ q);have c4:=c.cut cr.len;show q _ _ (x.1.trans (Fr.new hp)) (c4.new hp) (show Rep _ _ _ _ _ from Pw c4 hp (ab.cells hs _ _ M6))
   |rq zr=>
    intro ι2 p' u3 H' x c hp M6;replace e:(ij C.length C2 zr).map (λps=>(SV.v (.tup ps),C2.take C.length))=some (r,C'):=e;cases hq:ij C.length C2 zr with
    |none=>rw[hq]at e;cases e
    |some dR=>
     rw[hq]at e;cases e;have c4:=c.cut cr.len;show q _ _ (x.1.trans (Fr.new hp)) (c4.new hp) ?_;change Rep _ _ _ (.tup dR) _;ext Rep;show⟨p',u3,rfl,fW,ab.cW (λb o e=>by rw[ba (gB e hp)];show e) _ _ (nK c cr.len M6 hq)⟩
   |bk _=>cases e
   |ct _=>cases e
theorem Kf{x qual:Str}{st:Stmt}{f:Addr}{fd:WI}{N ps:4e3}{k:Nat}{body:7e4}(F:DL K x qual st f fd)(S:aJ N ps (ak st))
  (fB:∀(cdv:Value)(A:Around)(outer:List Env)(s:Shared)(H:Hp)(E:XK),b9 k (A.deeper (envOfC qual (ak st) s.heap.objs.size f cdv))->
   BM (j5 ot P w K mg base N qual (ak st) f cdv A outer s H E).EC (bL st) body):fq P w K mg base ot (k+1) f fd ps (bj K (dB ps.length (N.length-ps.length) body)):=by
 show F.ok S (λvs H Q E h_=>?_) (λcdv A outer s H vs Q E hr h_=>?_)<;>obtain⟨ι,ss,C,r,C',cr,rs,e,q⟩:=h_
 ·ext dB e
  by_cases h:ss.length=ps.length
  ·rw[←aU.length rs];show h
  ·rw[if_neg h]at e;cases e
 ·show⟨_,fB cdv A outer s H E hr,?_⟩
  ext dB e;by_cases h:ss.length=ps.length
  case neg=>rw[if_neg h]at e;cases e
  rw[if_pos h]at e;have sr:=oJ (N:=N) cr rs;rw[h]at sr;cases hb:body (ss.map some++VE (N.length-ps.length) none) C with
  |none=>rw[hb]at e;cases e
  |some z=>
   obtain⟨fl,C2⟩:=z;rw[hb]at e;show⟨ι,_,C,fl,C2,sr,hb,?_⟩;cases fl with
   |rf dR=>
    intro ι2 p' u3 H' x c hp M6;cases e;have hs:∀b o,H' b=some o->b∉ι++ι2->b∉ι:=λb o _ z q=>z (Y4 _ q);show q p' u3 H' x.1 (c.cut cr.len) hp (ab.cells hs _ _ M6)
   |_=>cases e
end
end Pu
namespace Pu
open PySem PySem.Spec L2
open PyProof.Rows hiding St Fr
def g2(h:PV->PV->Option PV):Cs->SV->SV->Option SV:=λC x y=>match aN C x,aN C y with
 |some p,some q=>(h p q).map .v
 |_,_=>none
def gV(K:W.Frag)(r:R2)(h:PV->PV->Option PV):Prop:=
 ∀(ι:2e1)(H:Hp)(C:Cs)(p q:PV)(vx vy:V)(z:PV)(Q:VK),CR K ι H C->Lies K ι H p vx->Lies K ι H q vy->h p q=some z->(∀v H',Fr ι H H'->CR K ι H' C->Rep K ι H' z v->Q v H')->r vx vy H Q
theorem gV.r{K:W.Frag}{r:R2}{h:PV->PV->Option PV}(k:gV K r h):zd K r (g2 h):=by
 intro ι H C x y vx vy z Q cr rx ry e q;ext g2 e;cases hx:aN C x with
 |none=>rw[hx]at e;cases e
 |some p=>
  cases hy:aN C y with
  |none=>rw[hx,hy]at e;cases e
  |some p2=>
   rw[hx,hy]at e;cases hz:h p p2 with
   |none=>simp[hz]at e
   |some z2=>
    simp[hz]at e;subst e;show k ι H C p p2 vx vy z2 Q cr (rx.lies cr hx) (ry.lies cr hy) hz q
theorem gf.or{X:Cx}{f:Value->Value->Sem Value}{r r':R2}(h:gf X f r)(h':gf X f r'):gf X f (λx y H Q=>r x y H Q\/r' x y H Q):=by
 intro pins s σ H x y v u Q I rx ry q;rcases q with q|q
 ·show h pins s σ H x y v u Q I rx ry q
 ·show h' pins s σ H x y v u Q I rx ry q
section
variable{K:W.Frag}{ι:2e1}{H:Hp}{C:Cs}{Q:VK}{z:PV}
theorem Gw{v:V}{i:Str}(h:Lies K ι H (.str i) v):v=.str i/\i.length<=sizeLine:=by cases h;show⟨rfl,by assumption⟩
theorem iz{v:V}{ps:List PV}(h:Lies K ι H (.tup ps) v):∃a vs,v=.ref a/\K' H a vs/\ab K ι H ps vs:=by cases h;show⟨_,_,rfl,by assumption,by assumption⟩
theorem dD{v:V}{ps:List PV}(h:Lies K ι H 9e5 v):∃a vs,v=.ref a/\fH K H a vs/\ab K ι H ps vs:=by cases h;show⟨_,_,rfl,by assumption,by assumption⟩
theorem kz{i:Int}:Rep K ι H (.int i) (.int i):=by ext Rep;rfl
theorem iq{i:Bool}:Rep K ι H (.bl i) (.bl i):=by ext Rep;rfl
theorem M8:Rep K ι H .aF .aF:=by ext Rep;rfl
theorem Ac{i:Str}(h:i.length<=YA):Rep K ι H (.str i) (.str i):=by ext Rep;show⟨rfl,h⟩
theorem fO{n:Nat}(h:n<=1000000):n<=sizeLine:=Xb h (by rw[YZ];decide)
theorem iZ{ps:List PV}{q:Addr}{vs:List V}(hq:H q=none)(rs:ab K ι H ps vs):Rep K ι (upd H q (.tup vs)) (.tup ps) (.ref q):=by
 ext Rep;show⟨q,vs,rfl,fW,ab.cW (λb o e=>by rw[ba (gB e hq)];show e) ps vs rs⟩
end
noncomputable def fR:PV->PV->Option PV
 |.int i,.int j=>some (.int (i+j))
 |.str i,.str j=>if i.length+j.length<=1000000 then some (.str (i++j))else none
 |.lst a,.lst b=>if a.length+b.length<=1000000 then some (.lst (a++b))else none
 |.tup a,.tup b=>if a.length+b.length<=1000000 then some (.tup (a++b))else none
 |_,_=>none
def Ak(K:W.Frag):R2:=λx y H Q=>∃l b xs zs,x=.ref l/\y=.ref b/\fH K H l xs/\fH K H b zs/\xs.length+zs.length<=YA/\∀p,H p=none->Q (.ref p) (upd H p (.lst (xs++zs)))
section
variable{X:Cx}
theorem vF:gf X (Uc .Add) (Ak X.K):=by
 sleep 7;obtain⟨l,b,xs,zs,rfl,rfl,hH,hB,hz,q⟩:=h;cases rx;cases ry;obtain⟨aw,r,pl,_⟩:=I.list hH;obtain⟨ic,r2,Sz,_⟩:=I.list hB;obtain⟨⟨cls,dd,data,sl⟩,ho,hc,n,hd⟩:=id pl.isList;obtain⟨⟨FC,zB,data2,rC⟩,qe,rH,n2,hd2⟩:=id Sz.isList;simp only at hc hd rH hd2;subst hc hd rH hd2;have h1:=r.length;have h2:=r2.length;have ea:aw.toArray++ic.toArray=(aw++ic).toArray:=by simp
 show RB ⟨_,ho,rfl⟩ ⟨_,qe,rfl⟩ noFill_list_add seq_list_add PySem.F.slot_list_add PySem.F.entry_list_add (PySem.F.args_list_add_2 _ _) (list_addW l b aw.toArray ic.toArray n n2 dd zB sl rC 6e2) ⟨ho,qe,?_⟩;rw[ea];show⟨.ref _,_,I.S5 (t':=s.toks) (r.append r2) (by rw[Yf];lia),rfl,q _ I.fresh⟩
def so(K:W.Frag):R2:=λx y H Q=>∃a b xs ys,x=.ref a/\y=.ref b/\kh K H a xs/\kh K H b ys/\xs.length+ys.length<=YA/\
 (xs=[]->Q (.ref b) H)/\(xs≠[]->ys=[]->Q 9e8 H)/\(xs≠[]->ys≠[]->∀p,H p=none->Q (.ref p) (upd H p (.tup (xs++ys))))
theorem AU:gf X (Uc .Add) (so X.K):=by
 sleep 7;obtain⟨a,b,xs,ys,rfl,rfl,ha,hb,hz,q0,q1,q2⟩:=h;by_cases hx:xs=[]
 ·cases rx
  cases ry;obtain⟨aw,r1,p1,_⟩:=I.tuple ha;obtain⟨ic,r2,p2,_⟩:=I.tuple hb;obtain⟨⟨cls,dd,data,sl⟩,ho,hc,n,hd⟩:=id p1;obtain⟨⟨FC,zB,data2,rC⟩,qe,rH,n2,hd2⟩:=id p2;simp only at hc hd rH hd2;subst hc hd rH hd2;show RB ⟨_,ho,rfl⟩ ⟨_,qe,rfl⟩ Yca seq_tuple_add UI Ut (Uh _ _)
   (tuple_addW0 a b aw.toArray ic.toArray n n2 dd zB sl rC (by simp[r1.iW.mpr hx])) ⟨ho,qe,⟨.ref b,H,I,rfl,q0 hx⟩⟩
 ·show Ey pins s σ H _ _ v u Q I rx ry ⟨a,b,xs,ys,rfl,rfl,ha,hb,hx,hz,q1 hx,q2 hx⟩
theorem xW:gf X (Uc .Add) (λx y H Q=>(Dt λi j=>.int (i+j)) x y H Q\/(∃i j,x=.str i/\y=.str j/\i.length+j.length<=YA/\Q (.str (i++j)) H)\/Ak X.K x y H Q\/so X.K x y H Q):=
 gf.or IH (gf.or sR (gf.or vF AU))
theorem oG(i j:Str):(i++j).length=i.length+j.length:=by
 change(i.cps++j.cps).size=_;rw[Array.size_append];rfl
theorem KC:gV X.K (λx y H Q=>(Dt λi j=>.int (i+j)) x y H Q\/(∃i j,x=.str i/\y=.str j/\i.length+j.length<=YA/\Q (.str (i++j)) H)\/Ak X.K x y H Q\/so X.K x y H Q) fR:=by
 intro ι H C p q vx vy z Q cr lx ly e k;ext fR e;split at e
 ·cases e;cases lx;cases ly
  show .inl ⟨_,_,rfl,rfl,k _ H .refl cr kz⟩
 ·split at e
  ·rename_i hl
   cases e;cases lx;cases ly;show .inr (.inl ⟨_,_,rfl,rfl,fO hl,k _ H .refl cr (Ac (by rw[oG];show fO hl))⟩)
  ·cases e
 ·split at e
  ·rename_i hl
   cases e;obtain⟨a,vs,rfl,h1,r1⟩:=dD lx;obtain⟨b,ws,rfl,h2,r2⟩:=dD ly;show .inr (.inr (.inl ⟨a,b,vs,ws,rfl,rfl,h1,h2,by rw[←r1.length,←r2.length];show fO hl,λp hp=>k _ _ (Fr.new hp) (cr.new hp) (Pw cr hp (r1.append r2))⟩))
  ·cases e
 ·split at e
  ·rename_i hl
   cases e;rename_i xs ys;obtain⟨a,vs,rfl,h1,r1⟩:=iz lx;obtain⟨b,ws,rfl,h2,r2⟩:=iz ly;show .inr (.inr (.inr ⟨a,b,vs,ws,rfl,rfl,h1.sq,h2.sq,by rw[←r1.length,←r2.length];show fO hl,λe=>?_,λ_ e=>?_,λ_ _ p hp=>k _ _ (Fr.new hp) (cr.new hp) (iZ hp (r1.append r2))⟩))
   ·subst e
    have:=r1.length;have hx:xs=[]:=U4 this;subst hx;show k _ H .refl cr (by ext Rep;show⟨b,ws,rfl,h2,r2⟩)
   ·subst e
    have:=r2.length;have hy:ys=[]:=U4 this;subst hy;rw[YG]at k;show k _ H .refl cr (by ext Rep;show⟨a,vs,rfl,h1,r1⟩)
  ·cases e
 ·cases e
variable{a b e c:Expr}{es:3e4}{fa fb fc:2e3}{pos p:Pos}{x:Str}
def iG(c:Int->Int->Bool)(f:Int->Int->PV):PV->PV->Option PV
 |.int i,.int j=>if c i j then some (f i j)else none
 |_,_=>none
theorem nz{C0:Int->Int->Prop}{f:Int->Int->Int}{c:Int->Int->Bool}(h:∀i j,c i j=true->C0 i j):gV X.K (rI C0 λi j=>.int (f i j)) (iG c λi j=>.int (f i j)):=by
 intro ι H C p q vx vy z Q cr lx ly e k;ext iG e;split at e
 ·split at e
  ·rename_i hc
   cases e;cases lx;cases ly;show⟨_,_,rfl,rfl,h _ _ hc,k _ H .refl cr kz⟩
  ·cases e
 ·cases e
theorem wq{f:Int->Int->V}{g:Int->Int->PV}(h:∀i j,∀ι H,Rep X.K ι H (g i j) (f i j)):gV X.K (Dt f) (iG (λ_ _=>true) g):=by
 intro ι H C p q vx vy z Q cr lx ly e k;ext iG e;split at e
 ·simp only[if_true]at e
  cases e;cases lx;cases ly;show⟨_,_,rfl,rfl,k _ H .refl cr (h _ _ _ _)⟩
 ·cases e
abbrev kF:=iG (λi j=>decide (-(2^64)<i/\i<2^64)||decide (-(2^64)<j/\j<2^64)) λi j=>.int (i*j)
abbrev fM:=iG (λ_ j=>decide (0<j)) λi j=>.int (i%j)
abbrev Nq:=iG (λi j=>decide (0<=j/\j<=1000/\i.natAbs<2^64)) λi j=>.int (i^j.toNat)
abbrev S1:=iG (λ_ _=>true) λi j=>.bl (decide (i<j))
abbrev GO:=iG (λ_ _=>true) λi j=>.bl (decide (j<i))
def IT(C:Cs)(x:SV):Option SV:=match aN C x with
 |some (.int i)=>some (.v (.int (-i)))
 |_=>none
def EJ(f:2e3):aq->M SV:=λρ=>aI (f ρ) λx=>dM λC=>IT C x
theorem iw:gV X.K (Dt λi j=>.bl (decide (i<j))) S1:=wq λ_ _ _ _=>iq
theorem wF:gV X.K (Dt λi j=>.bl (decide (j<i))) GO:=wq λ_ _ _ _=>iq
noncomputable def Lv:PV->PV->Option Bool
 |.aF,.aF=>some true | .aF,.int _=>some false | .int _,.aF=>some false | .aF,.bl _=>some false | .bl _,.aF=>some false | .aF,.str _=>some false | .str _,.aF=>some false
 |.int i,.int j=>some (decide (i=j)) | .bl i,.bl j=>some (decide (i=j)) | .str i,.str j=>some (decide (i=j))
 |.int _,.str _=>some false | .str _,.int _=>some false | .bl _,.str _=>some false | .str _,.bl _=>some false
 |_,_=>none
def O7(p q:PV):Option PV:=(Lv p q).map .bl
def neP(p q:PV):Option PV:=(Lv p q).map λb=>.bl (!b)
theorem M4{K:W.Frag}{ι:2e1}{H:Hp}{p q:PV}{vx vy:V}{b:Bool}(lx:Lies K ι H p vx)(ly:Lies K ι H q vy)(e:Lv p q=some b):M3 vx vy=true/\decide (vx=vy)=b:=by
  ext Lv e;split at e<;>first
    |(cases e;cases lx;cases ly;show⟨rfl,by simp⟩)
    |cases e
theorem B8:gV X.K rEq O7:=by
 intro ι H C p q vx vy z Q cr lx ly e k;ext O7 e;cases hb:Lv p q with
 |none=>rw[hb]at e;cases e
 |some b=>
  rw[hb]at e;cases e;obtain⟨h1,h2⟩:=M4 lx ly hb;show⟨h1,by rw[h2];show k _ H .refl cr iq⟩
def yl:PV->PV->Option PV
 |.lst xs,.int i=>gX xs i
 |.tup xs,.int i=>gX xs i
 |.str z,.int i=>(gX z.cps.toList i).map λc=>.str ⟨#[c]⟩
 |_,_=>none
theorem wX{K:W.Frag}{ι:2e1}{H:Hp}{ps:List PV}{vs:List V}{i:Int}{z:PV}(r:ab K ι H ps vs)(e:gX ps i=some z):∃v,gX vs i=some v/\Rep K ι H z v:=by
 unfold gX at e⊢;rw[←r.length];cases h:kI ps.length i with
 |none=>rw[h]at e;cases e
 |some j=>rw[h]at e;show r.get e
theorem NY:gV X.K (Qp X.K) yl:=by
 intro ι H C p q vx vy z Q cr lx ly e k;ext yl e;split at e
 ·obtain⟨a,vs,rfl,h1,r1⟩:=dD lx
  cases ly;obtain⟨v,e1,r⟩:=wX r1 e;show .inl ⟨a,vs,_,v,rfl,rfl,h1,e1,k v H .refl cr r⟩
 ·obtain⟨a,vs,rfl,h1,r1⟩:=iz lx
  cases ly;obtain⟨v,e1,r⟩:=wX r1 e;show .inr (.inl ⟨a,vs,_,v,rfl,rfl,h1.sq,e1,k v H .refl cr r⟩)
 ·obtain⟨rfl,hz⟩:=Gw lx
  cases ly;rename_i z' i;cases hc:gX z'.cps.toList i with
  |none=>rw[hc]at e;cases e
  |some c=>
   rw[hc]at e;cases e;show .inr (.inr ⟨_,_,c,rfl,rfl,hz,hc,k _ H .refl cr (Ac (by change 1<=YA;rw[YZ];decide))⟩)
 ·cases e
noncomputable def tyN:PV->Option String
 |.aF=>some "NoneType"
 |.bl _=>some "bool"
 |.int _=>some "int"
 |.str _=>some "str"
 |.tup _=>some "tuple"
 |.lst _=>some "list"
 |.cV _ _=>some "dict"
 |_=>none
def N3(p:PV)(n:String):Option Bool:=match tyN p with
 |none=>none
 |some t=>if n="int" then some (t=="int"||t=="bool")else if n="str"\/n="bool"\/n="tuple"\/n="list"\/n="dict" then some (t==n)else none
end
inductive gU(K:W.Frag)(ι:List Addr)(H:Hp):List PV->List V->Prop
 |nil:gU K ι H [] []
 |cons {p:PV} {v:V} {ps:List PV} {vs:List V} (h:Lies K ι H p v) (t:gU K ι H ps vs):gU K ι H (p::ps) (v::vs)
def gr(C:Cs):List SV->Option 3e0
 |[]=>some []
 |x::xs=>match aN C x,gr C xs with
  |some p,some ps=>some (p::ps)
  |_,_=>none
theorem Zdv{K:W.Frag}{ι:2e1}{H:Hp}{C:Cs}(cr:7e7):∀{xs:List SV}{ps:List PV}{vs:List V},aU K ι H xs vs->gr C xs=some ps->gU K ι H ps vs
 |[],ps,vs,r,e=>by cases e;rw[show vs=[]from r];show .nil
 |x::xs,ps,vs,r,e=>by
  obtain⟨v,w,rfl,h1,h2⟩:=r;ext gr e;split at e
  ·rename_i p qs hp hq
   cases e;show .cons (h1.lies cr hp) (Zdv cr h2 hq)
  ·cases e
def g1(h:List PV->Option PV):Cs->List SV->Option SV:=λC xs=>match gr C xs with
 |some ps=>(h ps).map .v
 |none=>none
def zf(K:W.Frag)(r:List V->Hp->VK->Prop)(h:List PV->Option PV):Prop:=
 ∀(ι:2e1)(H:Hp)(C:Cs)(ps:List PV)(vs:List V)(z:PV)(Q:VK),CR K ι H C->gU K ι H ps vs->h ps=some z->(∀v H',Fr ι H H'->CR K ι H' C->Rep K ι H' z v->Q v H')->r vs H Q
theorem zf.c{K:W.Frag}{r:List V->Hp->VK->Prop}{h:List PV->Option PV}(k:zf K r h):Dq K r (g1 h):=by
 intro ι H C xs vs z Q cr rs e q;ext g1 e;cases hd:gr C xs with
 |none=>rw[hd]at e;cases e
 |some ps=>
  rw[hd]at e;cases hz:h ps with
  |none=>simp[hz]at e
  |some z2=>
   simp[hz]at e;subst e;show k ι H C ps vs z2 Q cr (Zdv cr rs hd) hz q
section
variable{X:Cx}{a b e c o:Expr}{es:3e4}{fa fb fc fo:2e3}{fs:1e9}{pos p apos aV:Pos}{x:Str}
def Ta:List PV->Option PV
 |[p,.ty n]=>(N3 p n).map .bl
 |_=>none
noncomputable def jN:List PV->Option PV
 |[.str z]=>some (.int z.length)
 |[.lst xs]=>some (.int xs.length)
 |[.tup xs]=>some (.int xs.length)
 |_=>none
theorem Jh:zf X.K (λxs H Q=>∃x n,xs=[x]/\Qg X.K x H n/\Q (.int n) H) jN:=by
 intro ι H C ps vs z Q cr ls e k;ext jN e;split at e
 ·cases e;cases ls with
  |cons l t=>cases t;obtain⟨rfl,hz⟩:=Gw l;show⟨_,_,rfl,⟨hz,rfl⟩,k _ H .refl cr kz⟩
 ·cases e;cases ls with
  |cons l t=>cases t;obtain⟨a,ws,rfl,h1,r1⟩:=dD l;show⟨_,_,rfl,.inl ⟨ws,h1,r1.length⟩,k _ H .refl cr kz⟩
 ·cases e;cases ls with
  |cons l t=>cases t;obtain⟨a,ws,rfl,h1,r1⟩:=iz l;show⟨_,_,rfl,.inr ⟨ws,h1.sq,r1.length⟩,k _ H .refl cr kz⟩
 ·cases e
noncomputable def ye:List PV->Option PV
 |[.int i,.int j]=>some (.int (if j>i then j else i))
 |_=>none
theorem IW:zf X.K (λxs H Q=>∃i j,xs=[.int i,.int j]/\Q (.int (if j>i then j else i)) H) ye:=by
 intro ι H C ps vs z Q cr ls e k;ext ye e;split at e
 ·cases e;cases ls with
  |cons l t=>cases t with
   |cons l2 t=>cases t;cases l;cases l2;show⟨_,_,rfl,k _ H .refl cr kz⟩
 ·cases e
noncomputable def Vaj:List PV->Option PV
 |[.lst xs]=>some (.tup xs)
 |[.tup xs]=>some (.tup xs)
 |_=>none
def Bn(C:Cs):List SV->Option 3e0
 |[x]=>match aN C x with
  |some (.lst xs)=>some xs
  |some (.tup xs)=>some xs
  |_=>none
 |_=>none
def vQ(fs:1e9):aq->M 3e0:=λρ=>aI (fs ρ) λxs=>dM λC=>Bn C xs
noncomputable def dH:List PV->Option (List Bool)
 |[]=>some []
 |.bl b::r=>(dH r).map (b::·)
 |_::_=>none
theorem Z2{K:W.Frag}{ι:2e1}{H:Hp}:∀{ps:List PV}{vs:List V}{bs:List Bool},ab K ι H ps vs->dH ps=some bs->vs=bs.map V.bl
 |[],vs,bs,r,e=>by cases e;rw[r.fP];rfl
 |p::ps,vs,bs,r,e=>by
  obtain⟨v,w,rfl,h1,h2⟩:=r.inv;cases p with
  |bl b=>
   ext dH e;cases hb:dH ps with
   |none=>rw[hb]at e;cases e
   |some cs=>
    rw[hb]at e;cases e;have h1:v=.bl b:=by ext Rep h1;show h1
    rw[h1,Z2 h2 hb];rfl
  |_=>cases e
def uL:List PV->Option PV
 |[.lst xs]=>(dH xs).map λbs=>.bl (bs.all id)
 |_=>none
theorem KA:zf X.K (λxs H Q=>∃(a:Addr)(bs:List Bool),xs=[.ref a]/\fH X.K H a (bs.map V.bl)/\Q (.bl (bs.all id)) H) uL:=by
 intro ι H C ps vs z Q cr ls e k;ext uL e;split at e
 ·rename_i xs
  cases ls with
  |cons l t=>
   cases t;obtain⟨a,ws,rfl,h1,r1⟩:=dD l;cases hb:dH xs with
   |none=>rw[hb]at e;cases e
   |some bs=>
    rw[hb]at e;cases e;show⟨a,bs,rfl,by rw[←Z2 r1 hb];show h1,k _ H .refl cr iq⟩
 ·cases e
end
section
variable{X:Cx}{a b e c o i:Expr}{es:3e4}{fa fb fc fo fi fv:2e3}{fs:1e9}{pos p apos aV:Pos}{x:Str}
noncomputable def fA (x:SV):M Unit:=λC=>match x with
 |.c k=>match C[k]? with
  |some (.lst _)=>some ((),C)
  |_=>none
 |_=>none
theorem ZcA{x:SV}{C C2:Cs}(h:fA x C=some ((),C2)):C2=C/\∃k ps,x=.c k/\C[k]? = some 9e5:=by
 ext fA h;split at h
 ·split at h
  ·rename_i k _ ps e;cases h;show⟨rfl,k,ps,rfl,e⟩
  ·cases h
 ·cases h
noncomputable def oa (x:SV)(ys:List SV):M SV:=λC=>match x,ys with
 |.c k,[.v p]=>match C[k]? with
  |some (.lst ps)=>if ps.length<100000 then some (.v .aF,C.set k (.lst (ps++[p])))else none
  |_=>none
 |_,_=>none
theorem yZ{x:SV}{ys:List SV}{C C2:Cs}{r:SV}(h:oa x ys C=some (r,C2)):∃k p ps,x=.c k/\ys=[.v p]/\C[k]? = some 9e5/\ps.length<100000/\r=.v .aF/\C2=C.set k (.lst (ps++[p])):=by
 ext oa h;split at h
 ·split at h
  ·split at h
   ·cases h;show⟨_,_,_,rfl,rfl,by assumption,by assumption,rfl,rfl⟩
   ·cases h
  ·cases h
 ·cases h
def eU(fo:2e3)(fs:1e9):aq->M SV:=λρ=>aI (fo ρ) λx=>aI (fA x) λ_=>aI (fs ρ) λys=>oa x ys
theorem KQ{K:W.Frag}{ι:2e1}{H:Hp}{C:Cs}{k:Nat}{a:Addr}{ps:List PV}(cr:7e7)(hk:ι[k]? = some a)(hc:C[k]? = some 9e5):∃vs,H a=some (.lst vs)/\ab K ι H ps vs:=cr.ok k a _ hk hc
theorem j6{K:W.Frag}{ι:2e1}{H:Hp}{C:Cs}{k:Nat}{a:Addr}{ps:List PV}{vs:List V}(cr:7e7)(hk:ι[k]? = some a)(r:ab K ι H ps vs):CR K ι (upd H a (.lst vs)) (C.set k 9e5)/\Fr ι H (upd H a (.lst vs)):=by
 have fr:Fr ι H (upd H a (.lst vs)):=λb u n e=>by
  rw[ba (λz=>n (by rw[z];show YH hk))];show e
 show⟨cr.put hk ⟨vs,fW,ab.mono cr fr _ _ r⟩,fr⟩
def setC(v o i:SV)(ρ:aq):M PF:=λC=>match o,i,v with
 |.c k,.v (.int n),.v p=>match C[k]? with
  |some (.lst ps)=>match kI ps.length n with
   |some j=>some (.nx ρ,C.set k (.lst (ps.set j p)))
   |none=>none
  |_=>none
 |_,_,_=>none
theorem xx{v o i:SV}{ρ:aq}{C C2:Cs}{fl:PF}(h:setC v o i ρ C=some (fl,C2)):∃k n p ps j,o=.c k/\i=.v (.int n)/\v=.v p/\C[k]? = some 9e5/\kI ps.length n=some j/\fl=.nx ρ/\C2=C.set k (.lst (ps.set j p)):=by
 ext setC h;split at h
 ·split at h
  ·split at h
   ·cases h;show⟨_,_,_,_,_,rfl,rfl,rfl,by assumption,by assumption,rfl,rfl⟩
   ·cases h
  ·cases h
 ·cases h
def jH(fv fo fi:2e3):aq->M PF:=λρ=>aI (fv ρ) λv=>aI (fo ρ) λo=>aI (fi ρ) λi=>setC v o i ρ
noncomputable def dE:SV->Option 3e0
 |.v (.lst xs)=>some xs
 |.v (.tup xs)=>some xs
 |.v (.str z)=>some (z.cps.toList.map λc=>.str ⟨#[c]⟩)
 |_=>none
def aL(f:2e3):aq->M 3e0:=λρ=>aI (f ρ) λx=>dM λ_=>dE x
theorem yn{K:W.Frag}{ι:2e1}{H:Hp}{C:Cs}{a:Addr}{xs:List PV}{vs:List V}(cr:7e7)(h:HA K ι H a vs)(r:ab K ι H xs vs):Iter K ι H xs (Itl K a):=by
 have keep:∀ι2 H2,Ex ι ι2 H H2->fH K H2 a vs:=λι2 H2 x=>by
  rcases h with⟨n,q|⟨o,q⟩⟩|q
  ·show .inl (.inl (x.out _ _ n q).2)
  ·show .inl (.inr ⟨o,(x.out _ _ n q).2⟩)
  ·show .inr q
 show⟨λι2 H2 C2 x c i hi=>?_,λι2 H2 C2 x c i v H3 hi y=>?_,λι2 H2 C2 x c=>⟨vs,keep ι2 H2 x,by rw[r.length];show Yl _⟩⟩
 ·obtain⟨v,e,_⟩:=r.get (Ye hi)
  show⟨vs,v,keep ι2 H2 x,e⟩
 ·obtain⟨rfl,y⟩:=y
  obtain⟨p,hp,rp⟩:=r.get' (y vs (keep ι2 _ x));show⟨λb o e=>e,p,hp,Rep.tr cr x.out p v rp⟩
theorem BA{K:W.Frag}{ι:2e1}{H:Hp}{C:Cs}{a:Addr}{xs:List PV}{vs:List V}(cr:7e7)(h:kh K H a vs)(r:ab K ι H xs vs):Iter K ι H xs (Itt K a):=by
 have keep:∀ι2 H2,Ex ι ι2 H H2->kh K H2 a vs:=λι2 H2 x=>by
  rcases h with(q|⟨o,q⟩)|q
  ·show .inl (.inl (x.out _ _ (cr.vJ q (λ_ e=>nomatch e) λ_ e=>nomatch e) q).2)
  ·show .inl (.inr ⟨o,(x.out _ _ (cr.vJ q (λ_ e=>nomatch e) λ_ e=>nomatch e) q).2⟩)
  ·show .inr q
 show⟨λι2 H2 C2 x c i hi=>?_,λι2 H2 C2 x c i v H3 hi y=>?_,λι2 H2 C2 x c=>⟨vs,keep ι2 H2 x,by rw[r.length];show Yl _⟩⟩
 ·obtain⟨v,e,_⟩:=r.get (Ye hi)
  show⟨vs,v,keep ι2 H2 x,e⟩
 ·obtain⟨rfl,y⟩:=y
  obtain⟨p,hp,rp⟩:=r.get' (y vs (keep ι2 _ x));show⟨λb o e=>e,p,hp,Rep.tr cr x.out p v rp⟩
theorem p7{K:W.Frag}{ι:2e1}{H:Hp}{z:Str}:Iter K ι H (z.cps.toList.map λc=>.str ⟨#[c]⟩) (Its z):=by
 show⟨λι2 H2 C2 x c i hi=>by change i<z.cps.size;simpa using hi,λι2 H2 C2 x c i v H3 hi y=>?_,λι2 H2 C2 x c=>by change _=_;simp⟩;obtain⟨rfl,d,hd,rfl⟩:=y;show⟨λb o e=>e,.str ⟨#[d]⟩,by simp[hd],?_⟩;show Ac (by change 1<=YA;rw[YZ];decide)
theorem tR{K:W.Frag}{ι:2e1}{H:Hp}{lo:Int}{n:Nat}:Iter K ι H ((YB n).map λ(k:Nat)=>.int (lo+k)) (RV lo n):=by
 show⟨λι2 H2 C2 x c i hi=>by change i<n;simpa using hi,λι2 H2 C2 x c i v H3 hi y=>?_,λι2 H2 C2 x c=>by change n<=_;simp⟩;obtain⟨rfl,rfl⟩:=y;have JN:i<n:=by simpa using hi
 show⟨λb o e=>e,.int (lo+i),by simp[JN],kz⟩
variable{tg l:Expr}
noncomputable def ip:List SV->Option 3e0
 |[.v (.int j)]=>if -1000000<=j/\j<=1000000 then some ((YB j.toNat).map λ(k:Nat)=>.int (0+k))else none
 |_=>none
def bg(fs:1e9):aq->M 3e0:=λρ=>aI (fs ρ) λxs=>dM λ_=>ip xs
theorem xA{xs:List SV}{ys:List PV}(h:ip xs=some ys):∃j,xs=[.v (.int j)]/\(-1000000<=j/\j<=1000000)/\ys=(YB j.toNat).map λ(k:Nat)=>.int (0+k):=by
 ext ip h;split at h
 ·split at h
  ·cases h;show⟨_,rfl,by assumption,rfl⟩
  ·cases h
 ·cases h
end
section
variable{prog:YF}{w:World}{A:Around}{E:1e1}{s:Shared}
theorem Zb4{t sl:Addr}{items:Array Value}{vl vu:Value}{lo hi:Option Int}{Q:1e1}(ht:IsTup s.heap t items)(hs:s.heap.IsSliceOf sl vl vu .none)(pl:IsPart vl lo)(pu:IsPart vu hi)
  (hw:HT.bI items.size 0 lo=0/\HT.bI items.size items.size hi=items.size) (h:Q (.ref t) s):wpAny 1e5 A (Hw (.ref t) (.ref sl)) Q E s:=by
 obtain⟨os,JD,QH,JO⟩:=id hs;have Zh:s.TypeIs (.ref sl) "slice":=⟨os,JD,QH⟩
 ext Hw;try with_reducible show Xi ?_
 first|show Ya (Yc ?_)|skip
 show Ya (wpAny_sequenceKey ht.typeIs 1e7 ?_);show Ya (Xp (name:=WL "__getitem__") ht.typeIs XC
  (Xg XC ht.typeIs entry_tuple_getitem ?_ (args_tuple_getitem _ _)))
 change wpAny _ _ (V4 (.ref t)>>=_) _ _ s;show Ya (tupleItemsOf_ ht ?_);show Ya (Vb Zh ?_);rw[if_pos 1e7];show Ya (HT.et hs pl pu ?_);have Tc:(((HT.bI items.size 0 lo:Nat):Int)==0&&(1:Int)==1&&(HT.bI items.size items.size hi-HT.bI items.size 0 lo)==items.size)=true:=by
  rw[hw.1,hw.2];simp
 change wpAny _ _ (if(((HT.bI items.size 0 lo:Nat):Int)==0&&(1:Int)==1&&(HT.bI items.size items.size hi-HT.bI items.size 0 lo)==items.size)=true then _ else _) _ _ s;rw[if_pos Tc];ext Builtin.Tuple.tupleIsExact;show Ya (Ya (Vb ht.typeIs (Yc ?_)));rw[if_pos 1e7];show Ya (WP ?_);show Ya (Yc (Yc ⟨_,rfl,Yc h⟩))
end
def Nc(K:W.Frag):V->Option Int->Option Int->Hp->VK->Prop:=λx lo hi H Q=>∃a xs,x=.ref a/\kh K H a xs/\(HT.bI xs.length 0 lo=0/\HT.bI xs.length xs.length hi=xs.length)/\Q 9e8 H
def tMO(K:W.Frag)(f:aq->M (Option Int)):TO:=λσ H Q=>∃ι ρ C r C',SR K ι H ρ σ C/\f ρ C=some (r,C')/\∀H',Fr ι H H'->CR K ι H' C'->Q r H'
def OM(X:Cx)(e:Option Expr)(f:aq->M (Option Int)):Prop:=PO X e (tMO X.K f)
def iV:aq->M (Option Int):=λ_=>ret none
def intD(C:Cs)(x:SV):Option (Option Int):=match aN C x with
 |some (.int i)=>some (some i)
 |_=>none
def bJ(f:2e3):aq->M (Option Int):=λρ=>aI (f ρ) λx=>dM λC=>intD C x
def fQ(xs:List PV)(lo hi:Option Int):List PV:=(xs.drop (HT.bI xs.length 0 lo)).take (HT.bI xs.length xs.length hi-HT.bI xs.length 0 lo)
def gm(lo hi:Option Int):PV->Option PV
 |.lst xs=>some (.lst (fQ xs lo hi))
 |.tup xs=>some (.tup (fQ xs lo hi))
 |_=>none
def eQ(C:Cs)(x:SV)(lo hi:Option Int):Option SV:=match aN C x with
 |some p=>(gm lo hi p).map .v
 |none=>none
def aW(f:2e3)(l h:aq->M (Option Int)):aq->M SV:=λρ=>aI (f ρ) λx=>aI (l ρ) λlo=>aI (h ρ) λhi=>dM λC=>eQ C x lo hi
theorem oZ{K:W.Frag}{ι:2e1}{H:Hp}{ps:List PV}{vs:List V}(r:ab K ι H ps vs)(lo hi:Option Int):ab K ι H (fQ ps lo hi) (qC vs lo hi):=by
 unfold fQ qC;rw[r.length];show(r.drop _).take _
theorem oS{C:Cs}{x z:SV}{lo hi:Option Int}(h:eQ C x lo hi=some z):(∃xs,aN C x=some (.lst xs)/\z=.v (.lst (fQ xs lo hi)))\/∃xs,aN C x=some (.tup xs)/\z=.v (.tup (fQ xs lo hi)):=by
 ext eQ h;split at h
 ·rename_i p hd
  cases p with
  |lst xs=>cases h;show .inl ⟨xs,hd,rfl⟩
  |tup xs=>cases h;show .inr ⟨xs,hd,rfl⟩
  |_=>cases h
 ·cases h
section
variable{X:Cx}{a b e c o i:Expr}{es:3e4}{fa fb fc fo fi fv:2e3}{fs:1e9}{pos p apos aV p2:Pos}{x:Str}{lo hi:Option Expr}{l h:aq->M (Option Int)}
theorem PO.imp{e:Option Expr}{t t':TO}(h:PO X e t)(k:∀σ H Q,t' σ H Q->t σ H Q):PO X e t':=λpins s σ H Q I q=>h pins s σ H Q I (k σ H Q q)
theorem DX:DI X (Nc X.K):=by
 intro pins s σ H x v vl vu lo hi sl Q I rx hs pl pu h;obtain⟨a,xs,rfl,hx,hw,q⟩:=h;cases rx;obtain⟨aw,r,ht,hz⟩:=I.tuple hx;have hlen:aw.toArray.size=xs.length:=by rw[Yr];show r.length.symm
 show⟨"tuple",_,XC.lookup,ht.typeIs,Zb4 ht hs pl pu (by rw[hlen];show hw) ⟨.ref a,H,I,rfl,q⟩⟩
theorem yP{xs:List PV}{lo hi:Option Int}(h:HT.bI xs.length 0 lo=0/\HT.bI xs.length xs.length hi=xs.length):fQ xs lo hi=xs:=by
 ext fQ;rw[h.1,h.2];simp
noncomputable def tyP (T:String):PV->Bool
 |.str _=>T=="str"
 |.int _=>T=="int"
 |.lst _=>T=="list"
 |.cV _ _=>T=="dict"
 |.aG _ _=>T=="dict"
 |_=>false
def N4(T:String)(x:SV):M Unit:=λC=>match aN C x with
 |some q=>if tyP T q then some ((),C)else none
 |none=>none
def mtD(h:PV->List PV->Option PV)(C:Cs)(x:SV)(xs:List SV):Option SV:=match aN C x,gr C xs with
 |some q,some ps=>(h q ps).map .v
 |_,_=>none
def mMt(T:String)(h:PV->List PV->Option PV)(fo:2e3)(fs:1e9):aq->M SV:=λρ=>aI (fo ρ) λx=>aI (N4 T x) λ_=>aI (fs ρ) λxs=>dM λC=>mtD h C x xs
end
section
variable{X:Cx}{a b e c o i:Expr}{es:3e4}{fa fb fc fo fi fv:2e3}{fs:1e9}{pos p apos aV p2:Pos}{x:Str}
noncomputable def Gg:List PV->Option (List Str)
 |[]=>some []
 |.str b::r=>(Gg r).map (b::·)
 |_::_=>none
def Vad:PV->List PV->Option PV
 |.str z,[.lst xs]=>match Gg xs with
  |some ys=>if(ys.map (·.length)).sum+ys.length*z.length<=1000000 then some (.str (Txt.join z ys))else none
  |none=>none
 |_,_=>none
noncomputable def yi:PV->Option Key
 |.int i=>some (.inl i)
 |.str z=>some (.inr z)
 |_=>none
theorem wb(k:Key):yi (kP k)=some k:=by cases k<;>rfl
def pX:List PV->List PV->Key->Option PV
 |k::ks,v::vs,q=>if yi k=some q then some v else pX ks vs q
 |_,_,_=>none
theorem pV{K:W.Frag}{ι:2e1}{H:Hp}{q:Key}:∀{qs:6e6}{ps:List PV}{vs:List V},qs.length=vs.length->ab K ι H ps vs->
  (∀z,pX (qs.map kP) ps q=some z->∃v,dy (qs.zip vs) q=some v/\Rep K ι H z v)/\(pX (qs.map kP) ps q=none->dy (qs.zip vs) q=none)
 |[],ps,vs,hl,r=>by
  show⟨λz h=>?_,λ_=>rfl⟩;cases ps<;>cases h
 |k::qs,[],vs,hl,r=>by rw[r.fP]at hl;cases hl
 |k::qs,p::ps,vs,hl,r=>by
  obtain⟨v,w,rfl,h1,h2⟩:=r.inv;have ih:=pV (q:=q) (qs:=qs) (ps:=ps) (vs:=w) (by simpa using hl) h2;rw[Yq,Xr];ext pX;rw[wb];by_cases h:k=q
  ·subst h
   rw[if_pos rfl,Mj (p:=(k,v)) rfl];show⟨λz e=>by cases e;show⟨v,rfl,h1⟩,λe=>nomatch e⟩
  ·rw[if_neg (λe=>h (YR e)),Mi (p:=(k,v)) h]
   show ih
theorem pZ{K:W.Frag}{ι:2e1}{H:Hp}{x:PV}{v:V}{q:Key}(l:Lies K ι H x v)(h:yi x=some q):v=kV q:=by
 cases l<;>first|(cases h;rfl)|cases h
theorem Gx{K:W.Frag}{ι:2e1}{H:Hp}{ks ps:List PV}{v:V}(l:Lies K ι H (.cV ks ps) v):∃(a:Addr)(qs:6e6)(vs:List V),v=.ref a/\ks=qs.map kP/\H a=some (.dK (qs.zip vs))/\qs.length=vs.length/\ab K ι H ps vs:=by
 cases l;show⟨_,_,_,rfl,rfl,by assumption,by assumption,by assumption⟩
noncomputable def Aj:R2:=λx y H Q=>∃a v,x=.ref a/\kW H a y (some v)/\Q v H
theorem wk(hu:X.A.units+1<cLine):zg X Aj:=by
 intro value slice pins s σ H x y v u Q I rx ry h hs;obtain⟨a,w,rfl,g,q⟩:=h;cases rx;show tail_any (qw I g) PySem.F.slot_dict_getitem.lookup (yN hu I g ry λw' s' I' r'=>⟨w,H,I',r',q⟩) hs
def gI(x y:PV):Option PV:=match x with
 |.cV ks vs=>match yi y with
  |some q=>pX ks vs q
  |none=>none
 |x=>yl x y
theorem Bz:gV X.K (λx y H Q=>Qp X.K x y H Q\/Aj x y H Q) gI:=by
 intro ι H C p q vx vy z Q cr lx ly e k;ext gI e;split at e
 ·rename_i ks vs
  split at e
  ·rename_i key hk
   obtain⟨a,qs,ws,rfl,rfl,hd,hl,r⟩:=Gx lx;obtain⟨v,hv,rv⟩:=(pV hl r).1 z e;rw[pZ ly hk];show .inr ⟨a,v,rfl,by rw[←hv];show kW.k hd,k v H .refl cr rv⟩
  ·cases e
 ·show .inl (NY ι H C p q vx vy z Q cr lx ly e k)
theorem zR{pins:1e8}{σ:St}{H:Hp}{s:Shared}{d:Addr}{ob:HO}(I:2e0)(hn:H d=none)(hd:X.s₀.heap.objs.size<=d)(hL:d≠X.env.locals)(hc:∀x c,X.env.cells.lookup x=some c->c≠d)
  (hp:∀p∈X.pn++pins,p.1≠d) (new:aY X.prog X.w (upd H d ob) s.heap d ob):Inv X pins σ (upd H d ob) s:=by
 have u:=I.base;show⟨I.ok,I.os,I.bare,⟨u.keep,u.slot,λb o e q hx=>?_,u.there,λb xs e=>?_,λb o xs e=>?_,λb ps e=>?_⟩,I.loc,I.cell,?_,λx c e=>?_,λp JC=>?_,λb o e=>?_,I.len⟩
 ·rw[ba (Yw (Yz (Ys e) hd))];show u.free b o e q hx
 ·rw[ba (gB (u.hZ b xs e) hn)];show u.hZ b xs e
 ·rw[ba (gB (u.gp b o xs e) hn)];show u.gp b o xs e
 ·obtain⟨more,q⟩:=u.jh b ps e
  show⟨more,by rw[ba (gB q hn)];show q⟩
 ·rw[ba (X5 hL)];show I.free
 ·rw[ba (hc x c e)];show I.eG x c e
 ·obtain⟨h1,h2,h3⟩:=I.pin p JC
  show⟨h1,by rw[ba (hp p JC)];show h2,h3⟩
 ·by_cases hb:b=d
  ·subst hb
   rw[fW]at e;cases e;show new
  ·rw[ba hb]at e
   show(I.aQ b o e).cW (λ_ _ _ q=>q) (λc q=>by rw[ba (gB q hn)];show q) λc xs q=>by rw[ba (gB q hn)];show q
theorem oq{P:YF}{w:World}{h:Heap}{d:Addr}(e:h.get? d=some {cls:=.type "dict",data:=.dict #[]}):h.DictOf (aD P w) d []:=by
 have hn:=Heap.DictOf.new (knd:=aD P w) {h with objs:=#[]};obtain⟨o,es,ep,h1,h2,h3,h4⟩:=hn;rw[Yg _ rfl]at h1;cases h1;show⟨_,es,ep,e,h2,h3,h4⟩
def Ln:List Str->List V->List (Value×Value)->Prop
 |[],[],[]=>True
 |k::ks,v::vs,(u,w)::r=>gG (.inr k) u=true/\RelV v w/\Ln ks vs r
 |_,_,_=>False
def DP(X:Cx)(ks:List (Option Expr))(es:3e4)(keys:4e3)(t:TA):Prop:=
 ∀(pos:Pos)(pins:1e8)(s:Shared)(σ:St)(H:Hp)(Q:List V->Hp->Prop),Inv X pins σ H s->t σ H Q->
  wpAny 2e2 X.A (evalPairs (pairTrees ks es X.env pos)) (λus s'=>∃vs H',Inv X pins σ H' s'/\Ln keys vs us/\Q vs H') X.xe s
def DM(X:Cx)(ks:List (Option Expr))(es:3e4)(keys:4e3)(f:1e9):Prop:=DP X ks es keys (MR X.K f)
def NI(keys:4e3)(fs:1e9):aq->M SV:=λρ=>aI (fs ρ) λxs=>dM λ_=>(plain xs).map λps=>.v (.cV (keys.map PV.str) ps)
theorem mY{P:YF}{w:World}:∀{keys:4e3}{vs:List V}{us:List (Value×Value)},Ln keys vs us->keys.length=vs.length/\us.length=keys.length/\∃ag:List (Key×Value),Carries (aD P w) us ag/\KV ((keys.map VH).zip vs) ag/\ag.map (·.1)=keys.map Sum.inr:=by
 intro keys;induction keys with
 |nil=>
  intro vs us h;cases vs with
  |nil=>cases us with
   |nil=>show⟨rfl,rfl,[],trivial,.nil,rfl⟩
   |cons _ _=>show h.elim
  |cons _ _=>show h.elim
 |cons k ks ih=>
  intro vs us h;cases vs with
  |nil=>show h.elim
  |cons v vs=>cases us with
   |nil=>show h.elim
   |cons y r=>
    obtain⟨h1,h2,h3⟩:=h;obtain⟨a1,a2,ag,a3,a4,a5⟩:=ih h3;show⟨by simp[a1],by simp[a2],(VH k,y.2)::ag,⟨h1,rfl,a3⟩,.cons ⟨rfl,h2⟩ a4,by simp[a5]⟩
end
section
variable{X:Cx}{a b e c o i:Expr}{es:3e4}{fa fb fc fo fi fv:2e3}{fs:1e9}{pos p apos aV p2:Pos}{x:Str}{d:Addr}{tab:List (Str×Addr)}
def IY:aq->M SV:=λ_=>ret (.v (.cV [] []))
end
section
variable{X:Cx}{pins:1e8}{σ:St}{H:Hp}{s:Shared}
theorem mw{t':Nat}{h':Heap}{ch:2e1}(I:2e0)(k:∀b o,b∉ch->s.heap.get? b=some o->h'.get? b=some o)(hf:∀b∈ch,fm X pins H b):Inv X pins σ H {s with heap:=h',toks:=t'}:=by
 have NA:∀b u,H b=some u->b∉ch:=λb u e z=>by rw[(hf b z).1]at e;cases e
 show I.step (g':=s.gens) (d':=s.drawn) (ch:=ch) (λb hb=>⟨(hf b hb).2.2.2.1,(hf b hb).2.1,(hf b hb).2.2.2.2.1,(hf b hb).2.2.2.2.2⟩) (λb o _ _ hc e _=>k b o hc e) (λb o _ _ hc e _=>⟨o.slots,k b o hc e⟩) (λ_ _ _ _ n=>n)
  (λb o hc e=>⟨o,k b o hc e⟩) (λ_ _ e=>e) (λ_ _ _ e=>e) (λb ps e=>⟨#[],by rw[e];simp⟩) (λm hm=>?_) (λb u e=>?_) I.bare
 ·obtain⟨o,es,ep,ho,r⟩:=hm
  show⟨o,es,ep,k _ o (λz=>(hf _ z).2.1 rfl) ho,r⟩
 ·show(I.aQ b u e).cW (λc v hc q=>k c v ?_ q) (λ_ q=>q) λ_ _ q=>q
  rcases hc with z|z
  ·rw[z];show NA b u e
  ·show NA c _ z
end
mutual
noncomputable def ae (h:Heap):PV->Value->Prop
 |.aF,u=>u=.none
 |.bl b,u=>u=.bool b
 |.int i,u=>∃t,u=.int i t
 |.str x,u=>∃t,u=.str x t
 |.tup ps,u=>∃(a:Addr)(us:2e9),u=.ref a/\h.IsTuple a us.toArray/\ah h ps us
 |.lst ps,u=>∃(a:Addr)(us:2e9),u=.ref a/\h.IsList a us.toArray/\ah h ps us
 |_,_=>False
noncomputable def ah (h:Heap):List PV->List Value->Prop
 |[],us=>us=[]
 |p::ps,us=>∃v r,us=v::r/\ae h p v/\ah h ps r
end
mutual
noncomputable def dat:PV->Bool
 |.tup ps=>gu ps
 |.lst ps=>gu ps
 |.cV _ _=>false
 |.aG _ _=>false
 |.fn _=>false
 |.ty _=>false
 |_=>true
noncomputable def gu:List PV->Bool
 |[]=>true
 |p::ps=>dat p&&gu ps
end
mutual
noncomputable def dep:PV->Nat
 |.tup ps=>cA ps+1
 |.lst ps=>cA ps+1
 |_=>0
noncomputable def cA:List PV->Nat
 |[]=>0
 |p::ps=>max (dep p) (cA ps)
end
mutual
theorem Rep.heap{X:Cx}{pins:1e8}{σ:St}{H:Hp}{s:Shared}{ι:2e1}(I:2e0):∀(p:PV){v:V}{u:Value},Rep X.K ι H p v->RelV v u->dat p=true->ae s.heap p u
 |.aF,v,u,h,r,_=>by ext Rep h;subst h;ext ae;show r
 |.bl b,v,u,h,r,_=>by ext Rep h;subst h;ext ae;show r
 |.int i,v,u,h,r,_=>by ext Rep h;subst h;ext ae;show r
 |.str x,v,u,h,r,_=>by ext Rep h;obtain⟨rfl,h⟩:=h;ext ae;show r
 |.tup ps,v,u,h,r,d=>by
  ext Rep h;obtain⟨a,vs,rfl,h,rs⟩:=h;cases r;obtain⟨aw,r',pl,hz⟩:=I.tuple h.sq;ext ae;ext dat d;show⟨a,aw,rfl,pl,ab.heap I ps rs r' d⟩
 |.lst ps,v,u,h,r,d=>by
  ext Rep h;obtain⟨a,vs,rfl,h,rs⟩:=h;cases r;obtain⟨aw,r',pl,hz⟩:=I.list h.sq;ext ae;ext dat d;show⟨a,aw,rfl,pl.isList,ab.heap I ps rs r' d⟩
 |.cV ks ps,v,u,h,r,d=>by ext dat d;cases d
 |.aG ks ps,v,u,h,r,d=>by ext dat d;cases d
 |.fn a,v,u,h,r,d=>by ext dat d;cases d
 |.ty n,v,u,h,r,d=>by ext dat d;cases d
theorem ab.heap{X:Cx}{pins:1e8}{σ:St}{H:Hp}{s:Shared}{ι:2e1}(I:2e0):∀(ps:List PV){vs:List V}{us:2e9},ab X.K ι H ps vs->Vals vs us->gu ps=true->ah s.heap ps us
 |[],vs,us,h,r,_=>by ext ab h;subst h;cases r;ext ah;rfl
 |p::ps,vs,us,h,r,d=>by
  ext ab h;obtain⟨v,w,rfl,h1,h2⟩:=h;cases r with
  |cons r1 r2=>
   ext gu d;rw[YI]at d;ext ah;show⟨_,_,rfl,Rep.heap I p h1 r1 d.1,ab.heap I ps h2 r2 d.2⟩
end
theorem Lies.heap{X:Cx}{pins:1e8}{σ:St}{H:Hp}{s:Shared}{ι:2e1}(I:2e0){p:PV}{v:V}{u:Value}(l:Lies X.K ι H p v)(r:RelV v u)(d:dat p=true):ae s.heap p u:=by
 cases l with
 |aF=>ext ae;show r
 |bl b=>ext ae;show r
 |int i=>ext ae;show r
 |str x h=>ext ae;show r
 |tup h rs=>
  cases r;obtain⟨aw,r',pl,hz⟩:=I.tuple h.sq;ext ae;ext dat d;show⟨_,aw,rfl,pl,ab.heap I _ rs r' d⟩
 |lst h rs=>
  cases r;obtain⟨aw,r',pl,hz⟩:=I.list h;ext ae;ext dat d;show⟨_,aw,rfl,pl.isList,ab.heap I _ rs r' d⟩
 |cV h hl rs=>ext dat d;cases d
 |aG h hl rs=>ext dat d;cases d
 |fn a=>ext dat d;cases d
 |ty n=>ext dat d;cases d
mutual
noncomputable def aE:PV->PV->Bool
 |.aF,.aF=>true
 |.bl a,.bl b=>a==b
 |.bl a,.int b=>(if a then 1 else 0)==b
 |.int a,.bl b=>a==(if b then 1 else 0)
 |.int a,.int b=>a==b
 |.str a,.str b=>a==b
 |.tup xs,.tup ys=>dY xs ys
 |.lst xs,.lst ys=>dY xs ys
 |_,_=>false
noncomputable def dY:List PV->List PV->Bool
 |[],[]=>true
 |x::xs,y::ys=>aE x y&&dY xs ys
 |_,_=>false
end
theorem Zdm{h:Heap}{a:Addr}{us vs:2e9}(h1:h.IsTuple a us.toArray)(h2:h.IsTuple a vs.toArray):us=vs:=by
 obtain⟨o,e,_,n,d⟩:=h1;obtain⟨o',e',_,n',d'⟩:=h2;rw[e]at e';cases e';rw[d]at d';injection d' with d1 _;simpa using d1
theorem ZdX{h:Heap}{a:Addr}{us vs:2e9}(h1:h.IsList a us.toArray)(h2:h.IsList a vs.toArray):us=vs:=by
 obtain⟨o,e,_,n,d⟩:=h1;obtain⟨o',e',_,n',d'⟩:=h2;rw[e]at e';cases e';rw[d]at d';injection d' with d1 _;simpa using d1
theorem Q6{h:Heap}{a:Addr}{us vs:2e9}(h1:h.IsTuple a us.toArray)(h2:h.IsList a vs.toArray):False:=by
 obtain⟨o,e,c,_⟩:=h1;obtain⟨o',e',c',_⟩:=h2;rw[e]at e';cases e';rw[c]at c';injection c' with c';show absurd c' (by decide)
mutual
theorem ae.same{h:Heap}:∀(p:PV){q:PV}{u:Value},ae h p u->ae h q u->aE p q=true
 |.aF,q,u,a,b=>by
  ext ae a;subst a;cases q<;>ext ae b<;>first|rfl|(cases b;done)|(obtain⟨_,e⟩:=b;cases e;done)|(obtain⟨_,_,e,_⟩:=b;cases e;done)|show b.elim
 |.bl x,q,u,a,b=>by
  ext ae a;subst a;cases q<;>ext ae b<;>first|(cases b;done)|(cases b;ext aE;show beq_self_eq_true _)|(obtain⟨_,e⟩:=b;cases e;done)|(obtain⟨_,_,e,_⟩:=b;cases e;done)|show b.elim
 |.int x,q,u,a,b=>by
  ext ae a;obtain⟨t,rfl⟩:=a;cases q<;>ext ae b<;>first|(cases b;done)|(obtain⟨_,e⟩:=b;cases e;done)|(obtain⟨_,e⟩:=b;cases e;ext aE;show beq_self_eq_true _)|(obtain⟨_,_,e,_⟩:=b;cases e;done)|show b.elim
 |.str x,q,u,a,b=>by
  ext ae a;obtain⟨t,rfl⟩:=a;cases q<;>ext ae b<;>first|(cases b;done)|(obtain⟨_,e⟩:=b;cases e;done)|(obtain⟨_,e⟩:=b;cases e;ext aE;show beq_self_eq_true _)|(obtain⟨_,_,e,_⟩:=b;cases e;done)|show b.elim
 |.tup ps,q,u,a,b=>by
  ext ae a;obtain⟨l,us,rfl,h1,r1⟩:=a;cases q with
  |tup qs=>
   ext ae b;obtain⟨l',vs,e,h2,r2⟩:=b;cases e;cases Zdm h1 h2;ext aE;show ah.same ps r1 r2
  |lst qs=>ext ae b;obtain⟨l',vs,e,h2,r2⟩:=b;cases e;show(Q6 h1 h2).elim
  |_=>ext ae b;first|(cases b;done)|(obtain⟨_,e⟩:=b;cases e;done)|show b.elim
 |.lst ps,q,u,a,b=>by
  ext ae a;obtain⟨l,us,rfl,h1,r1⟩:=a;cases q with
  |lst qs=>
   ext ae b;obtain⟨l',vs,e,h2,r2⟩:=b;cases e;cases ZdX h1 h2;ext aE;show ah.same ps r1 r2
  |tup qs=>ext ae b;obtain⟨l',vs,e,h2,r2⟩:=b;cases e;show(Q6 h2 h1).elim
  |_=>ext ae b;first|(cases b;done)|(obtain⟨_,e⟩:=b;cases e;done)|show b.elim
 |.cV _ _,q,u,a,b=>by ext ae a;show a.elim
 |.aG _ _,q,u,a,b=>by ext ae a;show a.elim
 |.fn _,q,u,a,b=>by ext ae a;show a.elim
 |.ty _,q,u,a,b=>by ext ae a;show a.elim
theorem ah.same{h:Heap}:∀(ps:List PV){qs:List PV}{us:2e9},ah h ps us->ah h qs us->dY ps qs=true
 |[],qs,us,a,b=>by
  ext ah a;subst a;cases qs with
  |nil=>rfl
  |cons q qs=>ext ah b;obtain⟨_,_,e,_⟩:=b;cases e
 |p::ps,qs,us,a,b=>by
  ext ah a;obtain⟨v,r,rfl,a1,a2⟩:=a;cases qs with
  |nil=>ext ah b;cases b
  |cons q qs=>
   ext ah b;obtain⟨v',r',e,b1,b2⟩:=b;cases e;ext dY;rw[ae.same p a1 b1,ah.same ps a2 b2];rfl
end
end Pu
namespace Pu
open PySem PySem.Spec L2 PySem.SeqAt
open PyProof.Rows hiding St Fr
theorem ah.length{h:Heap}:∀{ps:List PV}{us:2e9},ah h ps us->ps.length=us.length
 |[],us,a=>by ext ah a;subst a;rfl
 |p::ps,us,a=>by ext ah a;obtain⟨v,r,rfl,_,b⟩:=a;rw[Yv,Yv,b.length]
theorem ZcD:∀(ps qs:List PV),(((YB (min ps.length qs.length)).all λj=>aE (ps.getD j .aF) (qs.getD j .aF))&&ps.length==qs.length)=dY ps qs
 |[],[]=>rfl
 |[],_::_=>by ext dY;simp
 |_::_,[]=>by ext dY;simp
 |p::ps,q::qs=>by
  rw[dY,←ZcD ps qs,Yv,Yv,Nat.succ_min_succ,List.range_succ_eq_map,V1,List.all_map];rw[show(ps.length+1==qs.length+1)=(ps.length==qs.length) by simp[BEq.beq]];rw[Bool.and_assoc];rfl
theorem qk{ps qs:List PV}(e:ps.length=qs.length):((YB ps.length).all λj=>aE (ps.getD j .aF) (qs.getD j .aF))=dY ps qs:=by
 have:=ZcD ps qs;rw[←e,Nat.min_self,beq_self_eq_true,Bool.and_true]at this;show this
theorem ql:∀{ps qs:List PV},ps.length≠qs.length->dY ps qs=false
 |[],[],h=>absurd rfl h
 |[],_::_,_=>by ext dY;rfl
 |_::_,[],_=>by ext dY;rfl
 |p::ps,q::qs,h=>by ext dY;rw[ql λz=>h (by rw[Yv,Yv,z]),RN]
section
variable{s:Shared}
theorem RcAt.MJ{A:Around}{a b:Addr}{us vs:2e9}{ps qs:List PV}(h1:s.heap.IsTuple a us.toArray)(h2:s.heap.IsTuple b vs.toArray)(l1:ps.length=us.length)(l2:qs.length=vs.length)(hu:4e8)
  (he:∀j(h1:j<us.length)(h2:j<vs.length),EqAt A.in1 s us[j] vs[j] (aE (ps.getD j .aF) (qs.getD j .aF))):RcAt A s 9e8 (.ref b) (dY ps qs):=by
 have:=RcAt.tuples h1 h2 hu (e:=λj=>aE (ps.getD j .aF) (qs.getD j .aF)) (λj z1 z2=>by simpa using he j (by simpa using z1) (by simpa using z2));simp only[Yr,←l1,←l2]at this;rw[ZcD]at this;show this
theorem RcAt.NL{A:Around}{a b:Addr}{us vs:2e9}{ps qs:List PV}(h1:s.heap.IsList a us.toArray)(h2:s.heap.IsList b vs.toArray)(l1:ps.length=us.length)(l2:qs.length=vs.length)(hu:4e8)
  (he:∀j(h1:j<us.length)(h2:j<vs.length),EqAt A.in1 s us[j] vs[j] (aE (ps.getD j .aF) (qs.getD j .aF))):RcAt A s 9e8 (.ref b) (dY ps qs):=by
 by_cases e:us.length=vs.length
 ·have:=RcAt.lists h1 h2 (by simpa using e) hu (e:=λj=>aE (ps.getD j .aF) (qs.getD j .aF)) (λj z1 z2=>by simpa using he j (by simpa using z1) (by simpa using z2))
  simp only[Yr,←l1]at this;rw[qk 1e0]at this;show this
 ·have:=RcAt.lists_lengths h1 h2 (by simpa using e) hu
  rw[ql 1e0];show this
end
section
variable{s:Shared}
theorem EqAt.zI{q:PV}{u v:Value}{A:Around}(a:ae s.heap .aF u)(b:ae s.heap q v)(a8:4e8):EqAt A s u v (aE .aF q):=by
 ext ae a;subst a;cases q<;>ext ae b
 ·ext aE;subst b;show EqAt.same _
 ·ext aE;subst b;show EqAt.none_bool _
 ·ext aE;obtain⟨_,rfl⟩:=b;show EqAt.none_int _ _
 ·ext aE;obtain⟨_,rfl⟩:=b;show EqAt.none_str _ _
 ·ext aE;obtain⟨_,_,rfl,eY,_⟩:=b;show EqAt.none_tuple eY a8
 ·ext aE;obtain⟨_,_,rfl,eY,_⟩:=b;show EqAt.none_list eY a8
 ·show b.elim
 ·show b.elim
 ·show b.elim
 ·show b.elim
theorem EqAt.HB{x:Bool}{q:PV}{u v:Value}{A:Around}(a:ae s.heap (.bl x) u)(b:ae s.heap q v)(a8:4e8):EqAt A s u v (aE (.bl x) q):=by
 ext ae a;subst a;cases q<;>ext ae b
 ·ext aE;subst b;show EqAt.bool_none _
 ·ext aE;subst b;show EqAt.bool_bool _ _
 ·ext aE;obtain⟨_,rfl⟩:=b;show EqAt.bool_int _ _ _
 ·ext aE;obtain⟨_,rfl⟩:=b;show EqAt.bool_str _ _ _
 ·ext aE;obtain⟨_,_,rfl,eY,_⟩:=b;show EqAt.bool_tuple _ eY a8
 ·ext aE;obtain⟨_,_,rfl,eY,_⟩:=b;show EqAt.bool_list _ eY a8
 ·show b.elim
 ·show b.elim
 ·show b.elim
 ·show b.elim
theorem EqAt.zJ{x:Int}{q:PV}{u v:Value}{A:Around}(a:ae s.heap (.int x) u)(b:ae s.heap q v)(a8:4e8):EqAt A s u v (aE (.int x) q):=by
 ext ae a;obtain⟨_,rfl⟩:=a;cases q<;>ext ae b
 ·ext aE;subst b;show EqAt.int_none _ _
 ·ext aE;subst b;show EqAt.int_bool _ _ _
 ·ext aE;obtain⟨_,rfl⟩:=b;show EqAt.int_int _ _ _ _
 ·ext aE;obtain⟨_,rfl⟩:=b;show EqAt.int_str _ _ _ _
 ·ext aE;obtain⟨_,_,rfl,eY,_⟩:=b;show EqAt.int_tuple _ _ eY a8
 ·ext aE;obtain⟨_,_,rfl,eY,_⟩:=b;show EqAt.int_list _ _ eY a8
 ·show b.elim
 ·show b.elim
 ·show b.elim
 ·show b.elim
theorem EqAt.zH{x:Str}{q:PV}{u v:Value}{A:Around}(a:ae s.heap (.str x) u)(b:ae s.heap q v)(a8:4e8):EqAt A s u v (aE (.str x) q):=by
 ext ae a;obtain⟨_,rfl⟩:=a;cases q<;>ext ae b
 ·ext aE;subst b;show EqAt.str_none _ _
 ·ext aE;subst b;show EqAt.str_bool _ _ _
 ·ext aE;obtain⟨_,rfl⟩:=b;show EqAt.str_int _ _ _ _
 ·ext aE;obtain⟨_,rfl⟩:=b;show EqAt.str_str _ _ _ _
 ·ext aE;obtain⟨_,_,rfl,eY,_⟩:=b;show EqAt.str_tuple _ _ eY a8
 ·ext aE;obtain⟨_,_,rfl,eY,_⟩:=b;show EqAt.str_list _ _ eY a8
 ·show b.elim
 ·show b.elim
 ·show b.elim
 ·show b.elim
theorem EqAt.g6{ps:List PV}{u v:Value}{A:Around}(a:ae s.heap (.tup ps) u)(b:ae s.heap .aF v)(a8:4e8):EqAt A s u v (aE (.tup ps) .aF):=by
 unfold ae at a b;ext aE;obtain⟨_,_,rfl,eZ,_⟩:=a;subst b;show EqAt.tuple_none eZ a8
theorem EqAt.je{x:Bool}{ps:List PV}{u v:Value}{A:Around}(a:ae s.heap (.tup ps) u)(b:ae s.heap (.bl x) v)(a8:4e8):EqAt A s u v (aE (.tup ps) (.bl x)):=by
 unfold ae at a b;ext aE;obtain⟨_,_,rfl,eZ,_⟩:=a;subst b;show EqAt.tuple_bool _ eZ a8
theorem EqAt.g8{x:Int}{ps:List PV}{u v:Value}{A:Around}(a:ae s.heap (.tup ps) u)(b:ae s.heap (.int x) v)(a8:4e8):EqAt A s u v (aE (.tup ps) (.int x)):=by
 unfold ae at a b;ext aE;obtain⟨_,_,rfl,eZ,_⟩:=a;obtain⟨_,rfl⟩:=b;show EqAt.tuple_int _ _ eZ a8
theorem EqAt.gZ{x:Str}{ps:List PV}{u v:Value}{A:Around}(a:ae s.heap (.tup ps) u)(b:ae s.heap (.str x) v)(a8:4e8):EqAt A s u v (aE (.tup ps) (.str x)):=by
 unfold ae at a b;ext aE;obtain⟨_,_,rfl,eZ,_⟩:=a;obtain⟨_,rfl⟩:=b;show EqAt.tuple_str _ _ eZ a8
theorem EqAt.g7{x:List PV}{ps:List PV}{u v:Value}{A:Around}(a:ae s.heap (.tup ps) u)(b:ae s.heap (.lst x) v)(a8:4e8):EqAt A s u v (aE (.tup ps) (.lst x)):=by
 unfold ae at a b;ext aE;obtain⟨_,_,rfl,eZ,_⟩:=a;obtain⟨_,_,rfl,eY,_⟩:=b;show EqAt.tuple_list eZ eY a8
theorem EqAt.hV{ps:List PV}{u v:Value}{A:Around}(a:ae s.heap 9e5 u)(b:ae s.heap .aF v)(a8:4e8):EqAt A s u v (aE 9e5 .aF):=by
 unfold ae at a b;ext aE;obtain⟨_,_,rfl,eZ,_⟩:=a;subst b;show EqAt.list_none eZ a8
theorem EqAt.jf{x:Bool}{ps:List PV}{u v:Value}{A:Around}(a:ae s.heap 9e5 u)(b:ae s.heap (.bl x) v)(a8:4e8):EqAt A s u v (aE 9e5 (.bl x)):=by
 unfold ae at a b;ext aE;obtain⟨_,_,rfl,eZ,_⟩:=a;subst b;show EqAt.list_bool _ eZ a8
theorem EqAt.hW{x:Int}{ps:List PV}{u v:Value}{A:Around}(a:ae s.heap 9e5 u)(b:ae s.heap (.int x) v)(a8:4e8):EqAt A s u v (aE 9e5 (.int x)):=by
 unfold ae at a b;ext aE;obtain⟨_,_,rfl,eZ,_⟩:=a;obtain⟨_,rfl⟩:=b;show EqAt.list_int _ _ eZ a8
theorem EqAt.hJ{x:Str}{ps:List PV}{u v:Value}{A:Around}(a:ae s.heap 9e5 u)(b:ae s.heap (.str x) v)(a8:4e8):EqAt A s u v (aE 9e5 (.str x)):=by
 unfold ae at a b;ext aE;obtain⟨_,_,rfl,eZ,_⟩:=a;obtain⟨_,rfl⟩:=b;show EqAt.list_str _ _ eZ a8
theorem EqAt.g9{x:List PV}{ps:List PV}{u v:Value}{A:Around}(a:ae s.heap 9e5 u)(b:ae s.heap (.tup x) v)(a8:4e8):EqAt A s u v (aE 9e5 (.tup x)):=by
 unfold ae at a b;ext aE;obtain⟨_,_,rfl,eZ,_⟩:=a;obtain⟨_,_,rfl,eY,_⟩:=b;show EqAt.list_tuple eZ eY a8
theorem RcAt.zI{q:PV}{u v:Value}{A:Around}(a:ae s.heap .aF u)(b:ae s.heap q v)(a8:4e8):RcAt A s u v (aE .aF q):=by
 ext ae a;subst a;cases q<;>ext ae b
 ·ext aE;subst b;show RcAt.none_none
 ·ext aE;subst b;show RcAt.none_bool _
 ·ext aE;obtain⟨_,rfl⟩:=b;show RcAt.none_int _ _
 ·ext aE;obtain⟨_,rfl⟩:=b;show RcAt.none_str _ _
 ·ext aE;obtain⟨_,_,rfl,eY,_⟩:=b;show RcAt.none_tuple eY a8
 ·ext aE;obtain⟨_,_,rfl,eY,_⟩:=b;show RcAt.none_list eY a8
 ·show b.elim
 ·show b.elim
 ·show b.elim
 ·show b.elim
theorem RcAt.HB{x:Bool}{q:PV}{u v:Value}{A:Around}(a:ae s.heap (.bl x) u)(b:ae s.heap q v)(a8:4e8):RcAt A s u v (aE (.bl x) q):=by
 ext ae a;subst a;cases q<;>ext ae b
 ·ext aE;subst b;show RcAt.bool_none _
 ·ext aE;subst b;show RcAt.bool_bool _ _
 ·ext aE;obtain⟨_,rfl⟩:=b;show RcAt.bool_int _ _ _
 ·ext aE;obtain⟨_,rfl⟩:=b;show RcAt.bool_str _ _ _
 ·ext aE;obtain⟨_,_,rfl,eY,_⟩:=b;show RcAt.bool_tuple _ eY a8
 ·ext aE;obtain⟨_,_,rfl,eY,_⟩:=b;show RcAt.bool_list _ eY a8
 ·show b.elim
 ·show b.elim
 ·show b.elim
 ·show b.elim
theorem RcAt.zJ{x:Int}{q:PV}{u v:Value}{A:Around}(a:ae s.heap (.int x) u)(b:ae s.heap q v)(a8:4e8):RcAt A s u v (aE (.int x) q):=by
 ext ae a;obtain⟨_,rfl⟩:=a;cases q<;>ext ae b
 ·ext aE;subst b;show RcAt.int_none _ _
 ·ext aE;subst b;show RcAt.int_bool _ _ _
 ·ext aE;obtain⟨_,rfl⟩:=b;show RcAt.int_int _ _ _ _
 ·ext aE;obtain⟨_,rfl⟩:=b;show RcAt.int_str _ _ _ _
 ·ext aE;obtain⟨_,_,rfl,eY,_⟩:=b;show RcAt.int_tuple _ _ eY a8
 ·ext aE;obtain⟨_,_,rfl,eY,_⟩:=b;show RcAt.int_list _ _ eY a8
 ·show b.elim
 ·show b.elim
 ·show b.elim
 ·show b.elim
theorem RcAt.zH{x:Str}{q:PV}{u v:Value}{A:Around}(a:ae s.heap (.str x) u)(b:ae s.heap q v)(a8:4e8):RcAt A s u v (aE (.str x) q):=by
 ext ae a;obtain⟨_,rfl⟩:=a;cases q<;>ext ae b
 ·ext aE;subst b;show RcAt.str_none _ _
 ·ext aE;subst b;show RcAt.str_bool _ _ _
 ·ext aE;obtain⟨_,rfl⟩:=b;show RcAt.str_int _ _ _ _
 ·ext aE;obtain⟨_,rfl⟩:=b;show RcAt.str_str _ _ _ _
 ·ext aE;obtain⟨_,_,rfl,eY,_⟩:=b;show RcAt.str_tuple _ _ eY a8
 ·ext aE;obtain⟨_,_,rfl,eY,_⟩:=b;show RcAt.str_list _ _ eY a8
 ·show b.elim
 ·show b.elim
 ·show b.elim
 ·show b.elim
theorem RcAt.g6{ps:List PV}{u v:Value}{A:Around}(a:ae s.heap (.tup ps) u)(b:ae s.heap .aF v)(a8:4e8):RcAt A s u v (aE (.tup ps) .aF):=by
 unfold ae at a b;ext aE;obtain⟨_,_,rfl,eZ,_⟩:=a;subst b;show RcAt.tuple_none eZ a8
theorem RcAt.je{x:Bool}{ps:List PV}{u v:Value}{A:Around}(a:ae s.heap (.tup ps) u)(b:ae s.heap (.bl x) v)(a8:4e8):RcAt A s u v (aE (.tup ps) (.bl x)):=by
 unfold ae at a b;ext aE;obtain⟨_,_,rfl,eZ,_⟩:=a;subst b;show RcAt.tuple_bool _ eZ a8
theorem RcAt.g8{x:Int}{ps:List PV}{u v:Value}{A:Around}(a:ae s.heap (.tup ps) u)(b:ae s.heap (.int x) v)(a8:4e8):RcAt A s u v (aE (.tup ps) (.int x)):=by
 unfold ae at a b;ext aE;obtain⟨_,_,rfl,eZ,_⟩:=a;obtain⟨_,rfl⟩:=b;show RcAt.tuple_int _ _ eZ a8
theorem RcAt.gZ{x:Str}{ps:List PV}{u v:Value}{A:Around}(a:ae s.heap (.tup ps) u)(b:ae s.heap (.str x) v)(a8:4e8):RcAt A s u v (aE (.tup ps) (.str x)):=by
 unfold ae at a b;ext aE;obtain⟨_,_,rfl,eZ,_⟩:=a;obtain⟨_,rfl⟩:=b;show RcAt.tuple_str _ _ eZ a8
theorem RcAt.g7{x:List PV}{ps:List PV}{u v:Value}{A:Around}(a:ae s.heap (.tup ps) u)(b:ae s.heap (.lst x) v)(a8:4e8):RcAt A s u v (aE (.tup ps) (.lst x)):=by
 unfold ae at a b;ext aE;obtain⟨_,_,rfl,eZ,_⟩:=a;obtain⟨_,_,rfl,eY,_⟩:=b;show RcAt.tuple_list eZ eY a8
theorem RcAt.hV{ps:List PV}{u v:Value}{A:Around}(a:ae s.heap 9e5 u)(b:ae s.heap .aF v)(a8:4e8):RcAt A s u v (aE 9e5 .aF):=by
 unfold ae at a b;ext aE;obtain⟨_,_,rfl,eZ,_⟩:=a;subst b;show RcAt.list_none eZ a8
theorem RcAt.jf{x:Bool}{ps:List PV}{u v:Value}{A:Around}(a:ae s.heap 9e5 u)(b:ae s.heap (.bl x) v)(a8:4e8):RcAt A s u v (aE 9e5 (.bl x)):=by
 unfold ae at a b;ext aE;obtain⟨_,_,rfl,eZ,_⟩:=a;subst b;show RcAt.list_bool _ eZ a8
theorem RcAt.hW{x:Int}{ps:List PV}{u v:Value}{A:Around}(a:ae s.heap 9e5 u)(b:ae s.heap (.int x) v)(a8:4e8):RcAt A s u v (aE 9e5 (.int x)):=by
 unfold ae at a b;ext aE;obtain⟨_,_,rfl,eZ,_⟩:=a;obtain⟨_,rfl⟩:=b;show RcAt.list_int _ _ eZ a8
theorem RcAt.hJ{x:Str}{ps:List PV}{u v:Value}{A:Around}(a:ae s.heap 9e5 u)(b:ae s.heap (.str x) v)(a8:4e8):RcAt A s u v (aE 9e5 (.str x)):=by
 unfold ae at a b;ext aE;obtain⟨_,_,rfl,eZ,_⟩:=a;obtain⟨_,rfl⟩:=b;show RcAt.list_str _ _ eZ a8
theorem RcAt.g9{x:List PV}{ps:List PV}{u v:Value}{A:Around}(a:ae s.heap 9e5 u)(b:ae s.heap (.tup x) v)(a8:4e8):RcAt A s u v (aE 9e5 (.tup x)):=by
 unfold ae at a b;ext aE;obtain⟨_,_,rfl,eZ,_⟩:=a;obtain⟨_,_,rfl,eY,_⟩:=b;show RcAt.list_tuple eZ eY a8
mutual
theorem ae.nM:∀(p:PV){q:PV}{u v:Value}{A:Around},ae s.heap p u->ae s.heap q v->A.units+dep p<cLine->EqAt A s u v (aE p q)
 |.aF,q,u,v,A,a,b,hu=>EqAt.zI a b 1e0
 |.bl x,q,u,v,A,a,b,hu=>EqAt.HB a b 1e0
 |.int x,q,u,v,A,a,b,hu=>EqAt.zJ a b 1e0
 |.str x,q,u,v,A,a,b,hu=>EqAt.zH a b 1e0
 |.tup ps,q,u,v,A,a,b,hu=>by
  have a8:A.units<cLine:=by lia
  cases q with
  |aF=>show EqAt.g6 a b a8
  |bl x=>show EqAt.je a b a8
  |int x=>show EqAt.g8 a b a8
  |str x=>show EqAt.gZ a b a8
  |lst x=>show EqAt.g7 a b a8
  |tup qs=>
   have a0:=a;have b0:=b
   unfold ae at a b;obtain⟨l,us,rfl,h1,r1⟩:=a;obtain⟨l',vs,rfl,h2,r2⟩:=b;ext dep hu;by_cases e:l=l'
   ·subst e
    rw[ae.same _ a0 b0];show EqAt.same _
   ·ext aE
    show .of_refs e (RcAt.MJ h1 h2 r1.length r2.length a8 (ah.nM ps r1 r2 (by rw[X2];lia)))
  |cV _ _=>ext ae b;show b.elim
  |aG _ _=>ext ae b;show b.elim
  |fn _=>ext ae b;show b.elim
  |ty _=>ext ae b;show b.elim
 |.lst ps,q,u,v,A,a,b,hu=>by
  have a8:A.units<cLine:=by lia
  cases q with
  |aF=>show EqAt.hV a b a8
  |bl x=>show EqAt.jf a b a8
  |int x=>show EqAt.hW a b a8
  |str x=>show EqAt.hJ a b a8
  |tup x=>show EqAt.g9 a b a8
  |lst qs=>
   have a0:=a;have b0:=b
   unfold ae at a b;obtain⟨l,us,rfl,h1,r1⟩:=a;obtain⟨l',vs,rfl,h2,r2⟩:=b;ext dep hu;by_cases e:l=l'
   ·subst e
    rw[ae.same _ a0 b0];show EqAt.same _
   ·ext aE
    show .of_refs e (RcAt.NL h1 h2 r1.length r2.length a8 (ah.nM ps r1 r2 (by rw[X2];lia)))
  |cV _ _=>ext ae b;show b.elim
  |aG _ _=>ext ae b;show b.elim
  |fn _=>ext ae b;show b.elim
  |ty _=>ext ae b;show b.elim
 |.cV _ _,q,u,v,A,a,b,hu=>by ext ae a;show a.elim
 |.aG _ _,q,u,v,A,a,b,hu=>by ext ae a;show a.elim
 |.fn _,q,u,v,A,a,b,hu=>by ext ae a;show a.elim
 |.ty _,q,u,v,A,a,b,hu=>by ext ae a;show a.elim
theorem ah.nM:∀(ps:List PV){qs:List PV}{us vs:2e9}{A:Around},ah s.heap ps us->ah s.heap qs vs->A.units+cA ps<cLine->
  ∀j(h1:j<us.length)(h2:j<vs.length),EqAt A s us[j] vs[j] (aE (ps.getD j .aF) (qs.getD j .aF))
 |[],qs,us,vs,A,a,b,hu=>λj h1 _=>by ext ah a;subst a;cases h1
 |p::ps,qs,us,vs,A,a,b,hu=>λj h1 h2=>by
  ext ah a;obtain⟨v,r,rfl,a1,a2⟩:=a;ext cA hu;cases qs with
  |nil=>ext ah b;subst b;cases h2
  |cons q qs=>
   ext ah b;obtain⟨v',r',rfl,b1,b2⟩:=b;cases j with
   |zero=>show ae.nM p a1 b1 1e0
   |succ j=>simpa using ah.nM ps a2 b2 1e0 j (by simpa using h1) (by simpa using h2)
end
theorem ae.Ss:∀(p:PV){q:PV}{u v:Value}{A:Around},ae s.heap p u->ae s.heap q v->A.units+dep p<cLine->RcAt A s u v (aE p q)
 |.aF,q,u,v,A,a,b,hu=>RcAt.zI a b 1e0
 |.bl x,q,u,v,A,a,b,hu=>RcAt.HB a b 1e0
 |.int x,q,u,v,A,a,b,hu=>RcAt.zJ a b 1e0
 |.str x,q,u,v,A,a,b,hu=>RcAt.zH a b 1e0
 |.tup ps,q,u,v,A,a,b,hu=>by
  have a8:A.units<cLine:=by lia
  cases q with
  |aF=>show RcAt.g6 a b a8
  |bl x=>show RcAt.je a b a8
  |int x=>show RcAt.g8 a b a8
  |str x=>show RcAt.gZ a b a8
  |lst x=>show RcAt.g7 a b a8
  |tup qs=>
   have a0:=a;have b0:=b
   unfold ae at a b;obtain⟨l,us,rfl,h1,r1⟩:=a;obtain⟨l',vs,rfl,h2,r2⟩:=b;ext dep hu;ext aE;show RcAt.MJ h1 h2 r1.length r2.length a8 (ah.nM ps r1 r2 (by rw[X2];lia))
  |cV _ _=>ext ae b;show b.elim
  |aG _ _=>ext ae b;show b.elim
  |fn _=>ext ae b;show b.elim
  |ty _=>ext ae b;show b.elim
 |.lst ps,q,u,v,A,a,b,hu=>by
  have a8:A.units<cLine:=by lia
  cases q with
  |aF=>show RcAt.hV a b a8
  |bl x=>show RcAt.jf a b a8
  |int x=>show RcAt.hW a b a8
  |str x=>show RcAt.hJ a b a8
  |tup x=>show RcAt.g9 a b a8
  |lst qs=>
   have a0:=a;have b0:=b
   unfold ae at a b;obtain⟨l,us,rfl,h1,r1⟩:=a;obtain⟨l',vs,rfl,h2,r2⟩:=b;ext dep hu;ext aE;show RcAt.NL h1 h2 r1.length r2.length a8 (ah.nM ps r1 r2 (by rw[X2];lia))
  |cV _ _=>ext ae b;show b.elim
  |aG _ _=>ext ae b;show b.elim
  |fn _=>ext ae b;show b.elim
  |ty _=>ext ae b;show b.elim
 |.cV _ _,q,u,v,A,a,b,hu=>by ext ae a;show a.elim
 |.aG _ _,q,u,v,A,a,b,hu=>by ext ae a;show a.elim
 |.fn _,q,u,v,A,a,b,hu=>by ext ae a;show a.elim
 |.ty _,q,u,v,A,a,b,hu=>by ext ae a;show a.elim
end
section
variable{X:Cx}
abbrev Gk(K:W.Frag)(g:PV->PV->Bool):R2:=λx y H Q=>∃ι p q,Lies K ι H p x/\Lies K ι H q y/\dat p=true/\dat q=true/\dep p<=60/\Q (.bl (g p q)) H
theorem L7(hu:5e6):gf X (Va .Eq) (Gk X.K aE):=by
 sleep 7;obtain⟨ι,p,q,lx,ly,dp,dq,de,k⟩:=h;show ae.Ss p (lx.heap I rx dp) (ly.heap I ry dq) 1e0 X.prog X.w X.xe _ ⟨.bl _,H,I,rfl,k⟩
def b8(g:PV->PV->Bool)(p q:PV):Option PV:=if dat p&&dat q&&decide (dep p<=60)then some (.bl (g p q))else none
theorem L'{g:PV->PV->Bool}:gV X.K (Gk X.K g) (b8 g):=by
 intro ι H C p q vx vy z Q cr lx ly e k;ext b8 e;split at e
 ·rename_i h
  cases e;simp only[YI,decide_eq_true_eq]at h;show⟨ι,p,q,lx,ly,h.1.1,h.1.2,h.2,k _ H .refl cr iq⟩
 ·cases e
theorem dX{A:Around}{k:Nat}(hr:b9 k A):A.units+64<cLine:=hr.units
end
mutual
theorem ae.inj{h:Heap}:∀(p:PV){q:PV}{u:Value},ae h p u->ae h q u->p=q
 |.aF,q,u,a,b=>by
  ext ae a;subst a;cases q<;>ext ae b<;>first|rfl|(cases b;done)|(obtain⟨_,e⟩:=b;cases e;done)|(obtain⟨_,_,e,_⟩:=b;cases e;done)|show b.elim
 |.bl x,q,u,a,b=>by
  ext ae a;subst a;cases q<;>ext ae b<;>first|(cases b;done)|(cases b;rfl)|(obtain⟨_,e⟩:=b;cases e;done)|(obtain⟨_,_,e,_⟩:=b;cases e;done)|show b.elim
 |.int x,q,u,a,b=>by
  ext ae a;obtain⟨t,rfl⟩:=a;cases q<;>ext ae b<;>first|(cases b;done)|(obtain⟨_,e⟩:=b;cases e;done)|(obtain⟨_,e⟩:=b;cases e;rfl)|(obtain⟨_,_,e,_⟩:=b;cases e;done)|show b.elim
 |.str x,q,u,a,b=>by
  ext ae a;obtain⟨t,rfl⟩:=a;cases q<;>ext ae b<;>first|(cases b;done)|(obtain⟨_,e⟩:=b;cases e;done)|(obtain⟨_,e⟩:=b;cases e;rfl)|(obtain⟨_,_,e,_⟩:=b;cases e;done)|show b.elim
 |.tup ps,q,u,a,b=>by
  ext ae a;obtain⟨l,us,rfl,h1,r1⟩:=a;cases q with
  |tup qs=>
   ext ae b;obtain⟨l',vs,e,h2,r2⟩:=b;cases e;cases Zdm h1 h2;rw[ah.inj ps r1 r2]
  |lst qs=>ext ae b;obtain⟨l',vs,e,h2,r2⟩:=b;cases e;show(Q6 h1 h2).elim
  |_=>ext ae b;first|(cases b;done)|(obtain⟨_,e⟩:=b;cases e;done)|show b.elim
 |.lst ps,q,u,a,b=>by
  ext ae a;obtain⟨l,us,rfl,h1,r1⟩:=a;cases q with
  |lst qs=>
   ext ae b;obtain⟨l',vs,e,h2,r2⟩:=b;cases e;cases ZdX h1 h2;rw[ah.inj ps r1 r2]
  |tup qs=>ext ae b;obtain⟨l',vs,e,h2,r2⟩:=b;cases e;show(Q6 h2 h1).elim
  |_=>ext ae b;first|(cases b;done)|(obtain⟨_,e⟩:=b;cases e;done)|show b.elim
 |.cV _ _,q,u,a,b=>by ext ae a;show a.elim
 |.aG _ _,q,u,a,b=>by ext ae a;show a.elim
 |.fn _,q,u,a,b=>by ext ae a;show a.elim
 |.ty _,q,u,a,b=>by ext ae a;show a.elim
theorem ah.inj{h:Heap}:∀(ps:List PV){qs:List PV}{us:2e9},ah h ps us->ah h qs us->ps=qs
 |[],qs,us,a,b=>by
  ext ah a;subst a;cases qs with
  |nil=>rfl
  |cons q qs=>ext ah b;obtain⟨_,_,e,_⟩:=b;cases e
 |p::ps,qs,us,a,b=>by
  ext ah a;obtain⟨v,r,rfl,a1,a2⟩:=a;cases qs with
  |nil=>ext ah b;cases b
  |cons q qs=>
   ext ah b;obtain⟨v',r',e,b1,b2⟩:=b;cases e;rw[ae.inj p a1 b1,ah.inj ps a2 b2]
end
mutual
noncomputable def cj:PV->PV->Option Bool
 |.int a,.int b=>some (decide (a<b))
 |.str a,.str b=>some (decide (a.cps.toList<b.cps.toList))
 |.tup xs,.tup ys=>cD xs ys
 |_,_=>none
noncomputable def cD:List PV->List PV->Option Bool
 |[],[]=>some false
 |[],_::_=>some true
 |_::_,[]=>some false
 |x::xs,y::ys=>if aE x y then cD xs ys else cj x y
end
def fS(A:Around)(s:Shared)(y x:Value)(b:Bool):Prop:=
 ∀(prog:YF)(w:World)(E:1e1)(Q:1e1),Q (.bool b) s->wpAny 1e5 A (richCompare .Lt y x) Q E s
inductive dv(A:Around)(s:Shared):List PV->List PV->List Value->List Value->Prop
 |EE {qs:List PV} {vs:List Value} (h:qs.length=vs.length):dv A s [] qs [] vs
 |ED {ps:List PV} {us:List Value} (h:ps.length=us.length):dv A s ps [] us []
 |cons {p q:PV} {u v:Value} {ps qs:List PV} {us vs:List Value} (e:EqAt A s u v (aE p q)) (l:∀c,cj p q=some c->fS A s u v c) (t:dv A s ps qs us vs):dv A s (p::ps) (q::qs) (u::us) (v::vs)
section
open PySem.AutoSeq1 (wpAny_loadPart')
open PySem.MeetsSeq PySem.MeetsSeq2 PySem.MeetsSeq3
theorem lL(x y:PV)(xs ys:List PV):cD (x::xs) (y::ys)=if aE x y then cD xs ys else cj x y:=by rw[cD]
theorem Rh:cD [] []=some false:=by rw[cD]
theorem Zci(y:PV)(ys:List PV):cD [] (y::ys)=some true:=by rw[cD]
theorem Zcj(x:PV)(xs:List PV):cD (x::xs) []=some false:=by rw[cD]
theorem xo(l b:Addr)(items dG:Array Value)(n n2:Nat)(dd zB:Option Addr)(sl rC:Array (Option Value))(ps qs:List PV)(c:Bool)(hc:cD ps qs=some c):
  Meets (WX.«tuple.__lt__» ⟨[.ref l,.ref b],[]⟩)
   (λA R s=>s.heap.get? l=some {cls:=.type "tuple",dict:=dd,data:=.seq items n,slots:=sl}/\s.heap.get? b=some {cls:=.type "tuple",dict:=zB,data:=.seq dG n2,slots:=rC}/\
    dv A.in1 s ps qs items.toList dG.toList/\R (.ok (.ret (.bool c))) s):=
 .of_wp λprog w A R s h=>by
  obtain⟨hp,g,d,tk,os⟩:=s;obtain⟨hl,hb,hpr,h⟩:=h;have f2:=AutoSeq1.sub_tuple_tuple
  wp_walk using Ux hl,Ux hb,VB _ (λrest b s'=>b.1=none/\s'=⟨hp,g,d,tk,os⟩/\∃(vs ws:2e9)(dR zr:List PV),rest=vs.zip ws/\
   dv A.in1 ⟨hp,g,d,tk,os⟩ dR zr vs ws/\vs.length+dG.size=ws.length+items.size/\cD dR zr=some c) _
  case turn=>
   rintro⟨y,x⟩ rest b s' ⟨rJ,rfl,vs,ws,dR,zr,hz,JA,hlen,hR⟩;cases JA with
   |EE hh=>rw[List.zip_nil_left]at hz;cases hz
   |ED hh=>rw[List.zip_nil_right]at hz;cases hz
   |@cons p q u v zt qs2 us2 vs2 e lt t=>
    rw[Xr]at hz;injection hz with hyx Oc;injection hyx with hy hx;subst hy hx;rw[lL]at hR;simp only[Yv]at hlen;show Ya (e prog w _ _ ?_);cases ee:aE p q with
    |true=>
     rw[ee,if_pos rfl]at hR
     wp_walk
     show⟨rfl,rfl,_,_,_,_,Oc,t,by lia,hR⟩
    |false=>
     rw[ee,if_neg Yn]at hR;have hri:=lt c hR prog w
     wp_walk using hri
     show⟨_,rfl,by simpa using h⟩
  case fin=>
   rintro⟨b1,b2⟩ s' ⟨rJ,rfl,vs,ws,dR,zr,hz,JA,hlen,hR⟩;simp only at rJ;subst rJ;have hv:c=decide (items.size<dG.size):=by
    cases JA with
    |EE hh=>
     cases zr with
     |nil=>
      rw[Rh]at hR;cases hR;simp only[WB]at hlen hh;show(decide_eq_false 1e0).symm
     |cons q qs2=>
      rw[Zci]at hR;cases hR;simp only[WB,Yv]at hlen hh;show(decide_eq_true 1e0).symm
    |ED hh=>
     cases dR with
     |nil=>
      rw[Rh]at hR;cases hR;simp only[WB]at hlen hh;show(decide_eq_false 1e0).symm
     |cons q qs2=>
      rw[Zcj]at hR;cases hR;simp only[WB,Yv]at hlen hh;show(decide_eq_false 1e0).symm
    |cons e lt t=>rw[Xr]at hz;cases hz
   rw[hv]at h
   wp_walk
   show⟨_,rfl,by simpa[Builtin.Tuple.tupleCompareSizes]using h⟩
  case h=>
   show⟨rfl,rfl,items.toList,dG.toList,ps,qs,rfl,hpr,by simp;lia,hc⟩
end
section
variable{s:Shared}
theorem fS.int(a:Int)(t:Tok)(c:Int)(u:Tok)(A:Around):fS A s (.int a t) (.int c u) (decide (a<c)):=λprog w E Q h=>
 (PyProof.Rows.lt_int h:wpAny 1e5 A (Va .Lt (.int a t) (.int c u)) Q E s)
theorem fS.str(a:Str)(t:Tok)(c:Str)(u:Tok)(A:Around):fS A s (.str a t) (.str c u) (decide (a.cps.toList<c.cps.toList)):=λprog w E Q h=>
 (PyProof.Rows.lt_str h:wpAny 1e5 A (Va .Lt (.str a t) (.str c u)) Q E s)
theorem fS.tup{A:Around}{l b:Addr}{us vs:2e9}{ps qs:List PV}{c:Bool}(hl:s.heap.IsTuple l us.toArray)(hb:s.heap.IsTuple b vs.toArray)(hu:4e8)(hp:dv A.in1 s ps qs us vs)(hc:cD ps qs=some c):
  fS A s (.ref l) (.ref b) c:=λprog w E Q h=>by
 obtain⟨⟨cls,dd,data,sl⟩,ho,Fc,n,hd⟩:=id hl;obtain⟨⟨FC,zB,data2,rC⟩,qe,OH,n2,hd2⟩:=id hb;simp only at Fc hd OH hd2;subst Fc hd OH hd2;show richCompare_meets_room (op:=.Lt) ⟨_,ho,rfl⟩ ⟨_,qe,rfl⟩ PySem.F.slot_tuple_lt PySem.F.entry_tuple_lt (PySem.F.args_tuple_lt_2 _ _) (xo l b us.toArray vs.toArray n n2 dd zB sl rC ps qs c hc)
  ⟨ho,qe,hp,show Uf c≠Value.notImplemented/\Q (.bool c) s from⟨(λx=>nomatch x),h⟩⟩ hu
mutual
theorem ae.Nb:∀(p:PV){q:PV}{u v:Value}{A:Around}{c:Bool},ae s.heap p u->ae s.heap q v->A.units+dep p<cLine->cj p q=some c->fS A s u v c
 |.int x,q,u,v,A,c,a,b,hu,e=>by
  cases q with
  |int y=>
   unfold ae at a b;obtain⟨t,rfl⟩:=a;obtain⟨t',rfl⟩:=b;ext cj e;cases e;show .int _ _ _ _ _
  |_=>ext cj e;cases e
 |.str x,q,u,v,A,c,a,b,hu,e=>by
  cases q with
  |str y=>
   unfold ae at a b;obtain⟨t,rfl⟩:=a;obtain⟨t',rfl⟩:=b;ext cj e;cases e;show .str _ _ _ _ _
  |_=>ext cj e;cases e
 |.tup ps,q,u,v,A,c,a,b,hu,e=>by
  cases q with
  |tup qs=>
   unfold ae at a b;obtain⟨l,us,rfl,h1,r1⟩:=a;obtain⟨l',vs,rfl,h2,r2⟩:=b;ext cj e;ext dep hu;show .tup h1 h2 1e0 (ah.pairs ps r1 r2 (by rw[X2];lia)) e
  |_=>ext cj e;cases e
 |.aF,q,u,v,A,c,a,b,hu,e=>by ext cj e;cases e
 |.bl _,q,u,v,A,c,a,b,hu,e=>by ext cj e;cases e
 |.lst _,q,u,v,A,c,a,b,hu,e=>by ext cj e;cases e
 |.cV _ _,q,u,v,A,c,a,b,hu,e=>by ext cj e;cases e
 |.aG _ _,q,u,v,A,c,a,b,hu,e=>by ext cj e;cases e
 |.fn _,q,u,v,A,c,a,b,hu,e=>by ext cj e;cases e
 |.ty _,q,u,v,A,c,a,b,hu,e=>by ext cj e;cases e
theorem ah.pairs:∀(ps:List PV){qs:List PV}{us vs:2e9}{A:Around},ah s.heap ps us->ah s.heap qs vs->A.units+cA ps<cLine->dv A s ps qs us vs
 |[],qs,us,vs,A,a,b,hu=>by
  have:=b.length;ext ah a;subst a;show .EE this
 |p::ps,qs,us,vs,A,a,b,hu=>by
  cases qs with
  |nil=>
   have:=a.length;ext ah b;subst b;show .ED this
  |cons q qs=>
   unfold ah at a b;obtain⟨x,r,rfl,a1,a2⟩:=a;obtain⟨y,r',rfl,b1,b2⟩:=b;ext cA hu;show .cons (ae.nM p a1 b1 1e0) (λc e=>ae.Nb p a1 b1 1e0 e) (ah.pairs ps a2 b2 1e0)
end
end
section
variable{X:Cx}
def Nf(K:W.Frag):R2:=λx y H Q=>∃ι p q c,Lies K ι H p x/\Lies K ι H q y/\dat p=true/\dat q=true/\dep p<=60/\cj p q=some c/\Q (.bl c) H
theorem IG(hu:5e6):gf X (Va .Lt) (Nf X.K):=by
 sleep 7;obtain⟨ι,p,q,c,lx,ly,dp,dq,de,e,k⟩:=h;show ae.Nb p (lx.heap I rx dp) (ly.heap I ry dq) 1e0 e X.prog X.w X.xe _ ⟨.bl _,H,I,rfl,k⟩
def yf(p q:PV):Option PV:=if dat p&&dat q&&decide (dep p<=60)then(cj p q).map .bl else none
theorem I8:gV X.K (Nf X.K) yf:=by
 intro ι H C p q vx vy z Q cr lx ly e k;ext yf e;split at e
 ·rename_i h
  simp only[YI,decide_eq_true_eq]at h;cases hc:cj p q with
  |none=>rw[hc]at e;cases e
  |some c=>rw[hc]at e;cases e;show⟨ι,p,q,c,lx,ly,h.1.1,h.1.2,h.2,hc,k _ H .refl cr iq⟩
 ·cases e
end
end Pu
namespace Pu
open PySem PySem.W
open PyProof.Rows hiding St Fr
structure Wk(lt:Nat->Nat->Bool):Prop where
 Du:∀a,lt a a=false
 rK:∀a b,lt a b=true->lt b a=false
 tr:∀a b c,lt b a=false->lt c b=false->lt c a=false
section
variable{lt:5e2}
def kn(lt:5e2)(p:Array Nat)(k:Nat):Prop:=∀i j,i<=j->j<k->lt (p.getD j 0) (p.getD i 0)=false
def rN(lt:5e2)(p:Array Nat)(k:Nat):Prop:=∀i j,i<=j->j<k->lt (p.getD i 0) (p.getD j 0)=false
def Eqv(lt:5e2)(p:Array Nat)(a b:Nat):Prop:=∀i j,a<=i->i<b->a<=j->j<b->lt (p.getD i 0) (p.getD j 0)=false
theorem PU{p:Array Nat}{i j:Nat}(hj:j<=p.size)(k:Nat):(FV p i j).getD k 0=if i<=k/\k<j then p.getD (i+j-1-k) 0 else p.getD k 0:=by
 ext FV;rw[YO,Yan hj];split<;>rw[YO]
theorem Z9{p:Array Nat}{k l:Nat}(hk:k<p.size)(hl:l<=k)(i:Nat):(bubble p k (k-l)).getD i 0=if i=l then p.getD k 0 else if l<i/\i<=k then p.getD (i-1) 0 else p.getD i 0:=by
 rw[YO,Ycn hk _ 1e0,show k-(k-l)=l by lia];by_cases h:i=l
 ·rw[if_pos h,if_pos h,YO]
 ·rw[if_neg h,if_neg h]
  by_cases h2:l<i/\i<=k
  ·rw[if_pos h2,if_pos h2,YO]
  ·rw[if_neg h2,if_neg h2,YO]
theorem kn.step(W:Wk lt){p:Array Nat}{k:Nat}(h:kn lt p k)(h1:1<=k)(e:lt (p.getD k 0) (p.getD (k-1) 0)=false):kn lt p (k+1):=by
 intro i j wA hj;by_cases Ow:j<k
 ·show h i j wA Ow
 ·have:j=k:=by lia
  subst this;by_cases hi:i=j
  ·subst hi;show W.Du _
  ·show W.tr _ _ _ (h i (j-1) 1e0 1e0) e
theorem rN.step(W:Wk lt){p:Array Nat}{k:Nat}(h:rN lt p k)(h1:1<=k)(e:lt (p.getD (k-1) 0) (p.getD k 0)=false):rN lt p (k+1):=by
 intro i j wA hj;by_cases Ow:j<k
 ·show h i j wA Ow
 ·have:j=k:=by lia
  subst this;by_cases hi:i=j
  ·subst hi;show W.Du _
  ·show W.tr _ _ _ e (h i (j-1) 1e0 1e0)
theorem rN.rev(W:Wk lt){p:Array Nat}{m a b:Nat}(h:rN lt p m)(dN:a<=b)(hb:b<=m)(hm:m<=p.size)(e:Eqv lt p a b):rN lt (FV p a b) m:=by
 intro i j wA hj;rw[PU 1e0,PU 1e0];by_cases hi:a<=i/\i<b
 ·by_cases GK:a<=j/\j<b
  ·rw[if_pos hi,if_pos GK];show e _ _ 1e0 1e0 1e0 1e0
  ·rw[if_pos hi,if_neg GK];show h _ _ 1e0 1e0
 ·by_cases GK:a<=j/\j<b
  ·rw[if_neg hi,if_pos GK];show h _ _ 1e0 1e0
  ·rw[if_neg hi,if_neg GK];show h _ _ wA hj
theorem rN.srt{p:Array Nat}{n:Nat}(h:rN lt p n)(hn:n<=p.size):kn lt (FV p 0 n) n:=by
 intro i j wA hj;rw[PU hn,PU hn,if_pos 1e0,if_pos 1e0];show h _ _ 1e0 1e0
theorem CQ(W:Wk lt){p:Array Nat}{k l:Nat}(hs:kn lt p k)(hk:k<p.size)(hl:l<=k)(h1:∀i,i<l->lt (p.getD k 0) (p.getD i 0)=false)(h2:∀i,l<=i->i<k->lt (p.getD k 0) (p.getD i 0)=true):kn lt (bubble p k (k-l)) (k+1):=by
 intro i j wA hj;rw[Z9 hk hl,Z9 hk hl];by_cases QC:j=l
 ·rw[if_pos QC]
  by_cases Oy:i=l
  ·rw[if_pos Oy];show W.Du _
  ·rw[if_neg Oy,if_neg 1e0];show h1 i 1e0
 ·rw[if_neg QC]
  by_cases Oy:i=l
  ·rw[if_pos Oy,if_pos 1e0];show W.rK _ _ (h2 _ 1e0 1e0)
  ·rw[if_neg Oy]
   by_cases GK:l<j/\j<=k
   ·rw[if_pos GK]
    by_cases rG:l<i/\i<=k
    ·rw[if_pos rG];show hs _ _ 1e0 1e0
    ·rw[if_neg rG];show hs _ _ 1e0 1e0
   ·rw[if_neg GK,if_neg 1e0];show hs _ _ wA 1e0
end
end Pu
namespace Ts
open PySem PySem.W
open PyProof.Rows hiding St Fr tail3 descPart
open Pu (Wk kn rN Eqv PU Z9 CQ)
noncomputable def dj:Bool->Keyed->Array Keyed->Nat->Nat->Nat->StateT SortSt Sem (Option Nat):=sortPriv% PySem.Builtin.gallop
noncomputable def jD:Array Keyed->Array Keyed->StateT SortSt Sem (Array Keyed):=sortPriv% PySem.Builtin.mergeLo
noncomputable def jF:Array Keyed->Array Keyed->StateT SortSt Sem (Array Keyed):=sortPriv% PySem.Builtin.mergeHi
noncomputable def Fg (be:Nat->StateT SortSt Sem (Option Bool))(n a b:Nat):StateT SortSt Sem (Option Nat):=do
 let mut lo:=a
 let mut hi:=b
 for _ in[0:n] do
  if lo≥hi then break
  let m:=lo+(hi-lo)/2
  let some more ←be m|return none
  if more then lo:=m+1 else hi:=m
 return some hi
def Zt(be:Nat->StateT SortSt Sem (Option Bool))(n hint:Nat):StateT SortSt Sem (Option Nat):=do
 let mut last:=0
 let mut zu:=1
 let some right ←be hint|return none
 if right then
  for _ in[0:n] do
   if zu≥n-hint then break
   let some more ←be (hint+zu)|return none
   if !more then break
   last:=zu
   zu:=2*zu+1
  Fg be n (hint+last+1) (hint+min zu (n-hint))
 else
  for _ in[0:n] do
   if zu≥hint+1 then break
   let some found ←be (hint-zu)|return none
   if found then break
   last:=zu
   zu:=2*zu+1
  Fg be n (hint+1-min zu (hint+1)) (hint-last)
theorem ua(l:Bool)(key:Keyed)(arr:Array Keyed)(base n hint:Nat):dj l key arr base n hint=Zt (λi=>do
  let x ←elem' arr (base+i)
  if l then lt' x key else return(←lt' key x).map (!·)) n hint:=rfl
section
variable{M:Model}{A:Around}{E:1e1}{s:Shared}
theorem wJ{be:Nat->StateT SortSt Sem (Option Bool)}{P:Nat->Bool}{n lo hi:Nat}{st:SortSt}{Q:Option Nat->SortSt->Prop}
  (hb:∀i,i<n->∀Q':Option Bool->SortSt->Prop,Q' (some (P i)) st->wpS M A E s (be i) Q' st) (hP:∀i j,i<=j->j<n->P j=true->P i=true)
  (h1:lo<=hi) (h2:hi<=n) (h3:∀i,i<lo->P i=true) (h4:∀i,hi<=i->i<n->P i=false)
  (h:∀k,k<=n->(∀i,i<k->P i=true)->(∀i,k<=i->i<n->P i=false)->Q (some k) st):wpS M A E s (Fg be n lo hi) Q st:=by
 ext Fg;sleep 6;show YC (Wl (XR
  (I:=λx c aC=>aC=st/\∃l r,c=(none,l,r)/\l<=r/\r<=n/\r-l<=n-x/\(∀i,i<l->P i=true)/\(∀i,r<=i->i<n->P i=false))
  (Q:=λc aC=>aC=st/\∃l,c=(none,l,l)/\l<=n/\(∀i,i<l->P i=true)/\(∀i,l<=i->i<n->P i=false)) ?step ?fin ⟨rfl,lo,hi,rfl,h1,h2,by lia,h3,h4⟩) ?post)
 case fin=>
  rintro c aC ⟨rfl,l,r,rfl,a1,a2,a3,a4,a5⟩;have:l=r:=by lia
  subst this;show⟨rfl,l,rfl,a2,a4,a5⟩
 case post=>
  rintro c aC ⟨rfl,l,rfl,a2,a4,a5⟩;show YM (h l a2 a4 a5)
 case step=>
  rintro x c aC _ hx ⟨rfl,l,r,rfl,a1,a2,a3,a4,a5⟩;sleep 6;by_cases Oj:l≥r
  ·rw[if_pos Oj]
   have:l=r:=by lia
   subst this;show YM ⟨rfl,l,rfl,a2,a4,a5⟩
  ·rw[if_neg Oj]
   show YC (hb _ 1e0 _ ?_);sleep 6;cases hm:P (l+(r-l)/2)with
   |true=>
    rw[if_pos rfl];show YM ⟨rfl,_,_,rfl,by lia,a2,by lia,λi hi=>hP i _ 1e0 1e0 hm,a5⟩
   |false=>
    rw[if_neg Yn];show YM ⟨rfl,_,_,rfl,by lia,by lia,by lia,a4,λi hi hn=>?_⟩;cases hz:P i with
    |false=>rfl
    |true=>rw[hP _ i hi hn hz]at hm;cases hm
theorem JY{be:Nat->StateT SortSt Sem (Option Bool)}{P:Nat->Bool}{n hint:Nat}{st:SortSt}{Q:Option Nat->SortSt->Prop}(hh:hint<n)
  (hb:∀i,i<n->∀Q':Option Bool->SortSt->Prop,Q' (some (P i)) st->wpS M A E s (be i) Q' st) (hP:∀i j,i<=j->j<n->P j=true->P i=true)
  (h:∀k,k<=n->(∀i,i<k->P i=true)->(∀i,k<=i->i<n->P i=false)->Q (some k) st):wpS M A E s (Zt be n hint) Q st:=by
 have up:∀i j,i<=j->j<n->P i=false->P j=false:=λi j a b c=>by
  cases hz:P j with
  |false=>rfl
  |true=>rw[hP i j a b hz]at c;cases c
 ext Zt;show YC (hb hint hh _ ?_);sleep 6;cases hr:P hint with
 |true=>
  rw[if_pos rfl];show YC (Wl (XR
   (I:=λx c aC=>aC=st/\∃l o,c=(none,l,o)/\l<o/\x<o/\(l<=n-hint-1/\P (hint+l)=true))
   (Q:=λc aC=>aC=st/\∃l o,c=(none,l,o)/\l<o/\(l<=n-hint-1/\P (hint+l)=true)/\(o<n-hint->P (hint+o)=false)) ?step ?fin ⟨rfl,0,1,rfl,by lia,by lia,by lia,hr⟩) ?post)
  case fin=>
   rintro c aC ⟨rfl,l,o,rfl,a1,a2,a3⟩;show⟨rfl,l,o,rfl,a1,a3,λz=>by lia⟩
  case post=>
   rintro c aC ⟨rfl,l,o,rfl,a1,a3,a4⟩;sleep 6;show wJ hb hP 1e0 1e0 (λi hi=>hP i (hint+l) 1e0 1e0 a3.2) (λi hi hn=>?_) h;by_cases z:o<n-hint
   ·show up (hint+o) i 1e0 hn (a4 z)
   ·lia
  case step=>
   rintro x c aC _ hx ⟨rfl,l,o,rfl,a1,a2,a3⟩;sleep 6;by_cases z:o≥n-hint
   ·rw[if_pos z];show YM ⟨rfl,l,o,rfl,a1,a3,λy=>by lia⟩
   ·rw[if_neg z]
    show YC (hb _ 1e0 _ ?_);sleep 6;cases hm:P (hint+o)with
    |true=>rw[if_neg 2e6];show YM ⟨rfl,_,_,rfl,by lia,by lia,by lia,hm⟩
    |false=>rw[if_pos (show(!false)=true from rfl)];show YM ⟨rfl,_,_,rfl,a1,a3,λ_=>hm⟩
 |false=>
  rw[if_neg Yn];show YC (Wl (XR
   (I:=λx c aC=>aC=st/\∃l o,c=(none,l,o)/\l<o/\x<o/\(l<=hint/\P (hint-l)=false))
   (Q:=λc aC=>aC=st/\∃l o,c=(none,l,o)/\l<o/\(l<=hint/\P (hint-l)=false)/\(o<=hint->P (hint-o)=true)) ?step ?fin ⟨rfl,0,1,rfl,by lia,by lia,by lia,hr⟩) ?post)
  case fin=>
   rintro c aC ⟨rfl,l,o,rfl,a1,a2,a3⟩;show⟨rfl,l,o,rfl,a1,a3,λz=>by lia⟩
  case post=>
   rintro c aC ⟨rfl,l,o,rfl,a1,a3,a4⟩;sleep 6;show wJ hb hP 1e0 1e0 (λi hi=>?_) (λi hi hn=>up (hint-l) i 1e0 hn a3.2) h;by_cases z:o<=hint
   ·show hP i (hint-o) 1e0 1e0 (a4 z)
   ·lia
  case step=>
   rintro x c aC _ hx ⟨rfl,l,o,rfl,a1,a2,a3⟩;sleep 6;by_cases z:o≥hint+1
   ·rw[if_pos z];show YM ⟨rfl,l,o,rfl,a1,a3,λy=>by lia⟩
   ·rw[if_neg z]
    show YC (hb _ 1e0 _ ?_);sleep 6;cases hm:P (hint-o)with
    |false=>rw[if_neg Yn];show YM ⟨rfl,_,_,rfl,by lia,by lia,by lia,hm⟩
    |true=>rw[if_pos rfl];show YM ⟨rfl,_,_,rfl,a1,a3,λ_=>hm⟩
end
abbrev Ky:=Array Keyed
noncomputable def setG (g:Nat):StateT SortSt Sem Unit:=modify λs=>Wu (kindOf s) (arrOf s) (X9 s) g (failedOf s)
section
variable{o:5e2}
def le(o:5e2)(a b:Nat):Prop:=o b a=false
structure J(o:Nat->Nat->Bool)(x y z:List Nat)(i j:Nat):Prop where
 p1:(z++x.drop i).Pairwise (le o)
 p2:(z++y.drop j).Pairwise (le o)
 pm:z.Perm (x.take i++y.take j)
variable{x y z:3e9}{i j k:Nat}
theorem J.swap(h:J o x y z i j):J o y x z j i:=⟨h.p2,h.p1,h.pm.trans XS⟩
theorem J.ax(h:J o x y z i j)(hl:∀a∈(x.drop i).take k,∀b∈y.drop j,le o a b):J o x y (z++(x.drop i).take k) (i+k) j:=by
 have e:(x.drop i).take k++x.drop (i+k)=x.drop i:=by rw[←Ua];show YV _ _
 show⟨by rw[Yd,e];show h.p1,?_,?_⟩
 ·have h1:=h.p1;rw[←e,←Yd]at h1
  obtain⟨a1,_,_⟩:=Xh.mp h1;obtain⟨_,b2,b3⟩:=Xh.mp h.p2;show Xh.mpr ⟨a1,b2,λa ha b hb=>?_⟩;rcases Ym.mp ha with ha|ha
  ·show b3 a ha b hb
  ·show hl a ha b hb
 ·rw[List.take_add]
  show(h.pm.append_right _).trans ?_;rw[Yd,Yd];show(XS).append_left _
theorem J.fin(h:J o x y z i j)(he:y.drop j=[]\/x.drop i=[]):(z++x.drop i++y.drop j).Pairwise (le o)/\(z++x.drop i++y.drop j).Perm (x++y):=by
 show⟨?_,?_⟩
 ·rcases he with e|e
  ·rw[e,YG];show h.p1
  ·rw[e,YG];show h.p2
 ·show((h.pm.append_right _).append_right _).trans ?_
  have e1:=YV i x;have e2:=YV j y;show Uy ?_ (VR (by rw[e1,e2]:(x.take i++x.drop i)++(y.take j++y.drop j)=x++y));rw[Yd,Yd,Yd];show VT _ ?_;rw[←Yd,←Yd];show XS.append_right _
theorem J.lst(h:J o x y z i j)(hl:∀a∈x.drop i,∀b∈y,le o b a):(z++y.drop j++x.drop i).Pairwise (le o)/\(z++y.drop j++x.drop i).Perm (x++y):=by
 show⟨?_,?_⟩
 ·obtain⟨_,a2,a3⟩:=Xh.mp h.p1
  show Xh.mpr ⟨h.p2,a2,λa ha b hb=>?_⟩;rcases Ym.mp ha with ha|ha
  ·show a3 a ha b hb
  ·show hl b hb a (List.mem_of_mem_drop ha)
 ·show((h.pm.append_right _).append_right _).trans ?_
  have e1:=YV i x;have e2:=YV j y;show Uy ?_ (VR (by rw[e1,e2]:(x.take i++x.drop i)++(y.take j++y.drop j)=x++y));rw[Yd,Yd,Yd];show VT _ ?_;rw[←Yd];show XS
theorem Ri(h:i<x.length):(x.drop i).take 1=[x.getD i 0]:=by
 rw[Xc h,WY,List.take_zero,Yt,Ye h];rfl
theorem KI{k:Nat}(h:k∈x.drop i):∃m,i<=m/\m<x.length/\k=x.getD m 0:=by
 obtain⟨m,hm,e⟩:=XO h;rw[Xw]at hm;show⟨i+m,by lia,by lia,?_⟩;rw[Yt,Ye 1e0,←e,UL];rfl
theorem ji{n k:Nat}(h:n∈(x.drop i).take k):∃m,i<=m/\m<i+k/\m<x.length/\n=x.getD m 0:=by
 obtain⟨m,hm,e⟩:=XO h;rw[Xv,Xw]at hm;show⟨i+m,by lia,by lia,by lia,?_⟩;rw[Yt,Ye 1e0,←e,List.getElem_take,UL];rfl
theorem sJ(h:x.Pairwise (le o)){a b:Nat}(dN:a<b)(hb:b<x.length):le o (x.getD a 0) (x.getD b 0):=by
 rw[Yt,Yt,Ye hb,Ye 1e0];show Vh.mp h _ _ _ _ dN
theorem za(W:Wk o)(h:x.Pairwise (le o)){a b:Nat}(dN:a<=b)(hb:b<x.length):le o (x.getD a 0) (x.getD b 0):=by
 rcases YQ a b with q|q
 ·show sJ h q hb
 ·have:a=b:=by lia
  subst this;show W.Du _
end
section
variable{prog:YF}{w:World}{A:Around}{E:1e1}{s:Shared}{κ:Vs}{it:Array Keyed}{o:5e2}
def Ans(prog:YF)(w:World)(A:Around)(s:Shared)(κ:Vs)(it:Ky)(o:5e2):Prop:=
 ∀i j,i<it.size->j<it.size->∀C:Bool->Shared->Prop,C (o i j) s->kas_cmp prog w A κ it i j C s
theorem iw{i j:Nat}{st:SortSt}{Q:Option Bool->SortSt->Prop}(hA:3e7)(hk:kindOf st=κ)(hi:i<it.size)(hj:j<it.size)(h:Q (some (o i j)) st):wpS 1e5 A E s (lt' (Vt it i) (Vt it j)) Q st:=by
 rw[lt'_eq];show YC (DH ?_);rw[hk];show YC (K5 (Vc (Xo (hA i j hi hj (λb s'=>s'=s/\b=o i j) ⟨rfl,rfl⟩) (λb s' e=>?_) λ_ _ e=>e.elim)));obtain⟨rfl,rfl⟩:=e;show⟨rfl,YM h⟩
def ar(it:Ky)(x:3e9):Ky:=(x.map (Vt it)).toArray
theorem w9(x:3e9):(ar it x).size=x.length:=by ext ar;simp
theorem Px(x:3e9)(n:Nat):(ar it x).push (Vt it n)=ar it (x++[n]):=by ext ar;simp
theorem FJ(x y:3e9):ar it x++ar it y=ar it (x++y):=by ext ar;simp
theorem He(x:3e9)(i j:Nat):(ar it x).extract i j=ar it ((x.drop i).take (j-i)):=by ext ar;simp[List.extract_eq_take_drop]
theorem i9(x:3e9)(i:Nat):(ar it x).extract i (ar it x).size=ar it (x.drop i):=by
 rw[He,w9,X0 (by rw[Xw];show Yl _)]
theorem CV(x:3e9):(ar it x).reverse=ar it x.reverse:=by ext ar;simp
theorem ke{x:3e9}{i:Nat}{st:SortSt}{Q:Keyed->SortSt->Prop}(hi:i<x.length)(h:Q (Vt it (x.getD i 0)) st):wpS 1e5 A E s (elem' (ar it x) i) Q st:=by
 rw[elem'_eq];have e:(ar it x)[i]? = some (Vt it (x.getD i 0)):=by
  ext ar;rw[X8,Yx,Ye hi,Yt,Ye hi];rfl
 rw[e];show YM h
theorem ZcC{x:3e9}{l:Bool}{key base n hint:Nat}{st:SortSt}{Q:Option Nat->SortSt->Prop}(W:Wk o)(hA:3e7)(hk:kindOf st=κ)(hx:∀a b,base<=a->a<=b->b<base+n->le o (x.getD a 0) (x.getD b 0))(hi:∀a∈x,a<it.size)(gJ:key<it.size)(hn:base+n<=x.length)(hh:hint<n)
  (h:∀k,k<=n->(∀m,base<=m->m<base+k->if l then o (x.getD m 0) key=true else le o (x.getD m 0) key)->(∀m,base+k<=m->m<base+n->if l then le o key (x.getD m 0)else o key (x.getD m 0)=true)->Q (some k) st):
  wpS 1e5 A E s (dj l (Vt it key) (ar it x) base n hint) Q st:=by
 rw[ua];have hm:∀m,m<x.length->x.getD m 0<it.size:=λm hm=>hi _ (by rw[Yt,Ye hm];show Wr hm);show JY (P:=λi=>if l then o (x.getD (base+i) 0) key else !(o key (x.getD (base+i) 0))) hh (λi hi Q' q=>?_) (λi j wA hj hp=>?_) (λk hk h1 h2=>h k hk (λm a b=>?_) λm a b=>?_)
 ·show YC (ke 1e0 ?_)
  cases l with
  |true=>rw[if_pos rfl]at q⊢;show iw hA hk (hm _ 1e0) gJ q
  |false=>
   rw[if_neg Yn]at q⊢;show YC (iw hA hk gJ (hm _ 1e0) (YM q))
 ·have hle:=hx (base+i) (base+j) 1e0 1e0 1e0
  cases l with
  |true=>
   simp only[if_true]at hp⊢;cases hz:o (x.getD (base+i) 0) key with
   |true=>rfl
   |false=>have:=W.tr key (x.getD (base+i) 0) (x.getD (base+j) 0) hz hle;rw[hp]at this;cases this
  |false=>
   simp only[YD,if_false,Bool.not_eq_true']at hp⊢;show W.tr _ _ _ hle hp
 ·have:=h1 (m-base) 1e0
  rw[show base+(m-base)=m by lia]at this;cases l with
  |true=>simpa using this
  |false=>simpa[le]using this
 ·have:=h2 (m-base) 1e0 1e0
  rw[show base+(m-base)=m by lia]at this;cases l with
  |true=>simpa[le]using this
  |false=>simpa using this
theorem QZ{x:3e9}{l:Bool}{key base n hint:Nat}{st:SortSt}{Q:Option Nat->SortSt->Prop}(W:Wk o)(hA:3e7)(hk:kindOf st=κ)(hx:x.Pairwise (le o))(hi:∀a∈x,a<it.size)(gJ:key<it.size)(hn:base+n<=x.length)(hh:hint<n)
  (h:∀k,k<=n->(∀m,base<=m->m<base+k->if l then o (x.getD m 0) key=true else le o (x.getD m 0) key)->(∀m,base+k<=m->m<base+n->if l then le o key (x.getD m 0)else o key (x.getD m 0)=true)->Q (some k) st):
  wpS 1e5 A E s (dj l (Vt it key) (ar it x) base n hint) Q st:=
 ZcC W hA hk (λa b _ h2 h3=>za W hx h2 1e0) hi gJ hn hh h
end
abbrev SM:=StateT SortSt Sem
abbrev C1:=Option Ky×Ky×Nat×Nat×Nat×Nat
abbrev C2:=Option Ky×Ky×Nat×Nat×Nat×Nat×Nat
noncomputable def fn (a b r:Ky)(i j:Nat):Ky:=r++a.extract i a.size++b.extract j b.size
def u1(a b:Ky)(mg:Nat)(c:C1):SM (ForInStep C1):=
 elem' b c.2.2.2.1>>=λe=>elem' a c.2.2.1>>=λf=>lt' e f>>=λq=>match q with
 |some bw=>if bw=true then elem' b c.2.2.2.1>>=λe=>
   if(c.2.2.2.1+1==b.size)=true then pure (.done (some (fn a b (c.2.1.push e) c.2.2.1 (c.2.2.2.1+1)),c.2.1.push e,c.2.2.1,c.2.2.2.1+1,0,c.2.2.2.2.2+1))
   else if c.2.2.2.2.2+1≥mg then pure (.done (none,c.2.1.push e,c.2.2.1,c.2.2.2.1+1,0,c.2.2.2.2.2+1))
   else pure (.yield (none,c.2.1.push e,c.2.2.1,c.2.2.2.1+1,0,c.2.2.2.2.2+1))
  else elem' a c.2.2.1>>=λe=>
   if(c.2.2.1+1+1==a.size)=true then pure (.done (some (fn b a (c.2.1.push e) c.2.2.2.1 (c.2.2.1+1)),c.2.1.push e,c.2.2.1+1,c.2.2.2.1,c.2.2.2.2.1+1,0))
   else if c.2.2.2.2.1+1≥mg then pure (.done (none,c.2.1.push e,c.2.2.1+1,c.2.2.2.1,c.2.2.2.2.1+1,0))
   else pure (.yield (none,c.2.1.push e,c.2.2.1+1,c.2.2.2.1,c.2.2.2.2.1+1,0))
 |_=>pure (.done (some (fn a b c.2.1 c.2.2.1 c.2.2.2.1),c.2.1,c.2.2.1,c.2.2.2.1,c.2.2.2.2.1,c.2.2.2.2.2))
def t3(a b r:Ky)(i j mg ac bc:Nat):SM (ForInStep C2):=
 elem' a i>>=λe=>
 if(i+1+1==a.size)=true then pure (.done (some (fn b a (r.push e) j (i+1)),r.push e,i+1,j,mg,ac,bc))
 else if(decide (ac<7)&&decide (bc<7))=true then pure (.done (none,r.push e,i+1,j,mg,ac,bc))
 else pure (.yield (none,r.push e,i+1,j,mg,ac,bc))
def t1(a b r:Ky)(i j mg ac bc:Nat):SM (ForInStep C2):=
 elem' b j>>=λe=>
 if(j+1==b.size)=true then pure (.done (some (fn a b (r.push e) i (j+1)),r.push e,i,j+1,mg,ac,bc))else
  elem' a i>>=λf=>dj true f b (j+1) (b.size-(j+1)) 0>>=λq=>match q with
  |some k=>if k>0 then
    if(j+1+k==b.size)=true then pure (.done (some (fn a b (r.push e++b.extract (j+1) (j+1+k)) i (j+1+k)),r.push e++b.extract (j+1) (j+1+k),i,j+1+k,mg,ac,k))
    else t3 a b (r.push e++b.extract (j+1) (j+1+k)) i (j+1+k) mg ac k
   else t3 a b (r.push e) i (j+1) mg ac k
  |_=>pure (.done (some (fn a b (r.push e) i (j+1)),r.push e,i,j+1,mg,ac,bc))
def t0(a b r:Ky)(i j mg ac bc:Nat):SM (ForInStep C2):=
 setG mg>>=λ_=>elem' b j>>=λe=>dj false e a i (a.size-i) 0>>=λq=>match q with
 |some k=>if k>0 then
   if(i+k+1==a.size)=true then pure (.done (some (fn b a (r++a.extract i (i+k)) j (i+k)),r++a.extract i (i+k),i+k,j,mg,k,bc))
   else if(i+k==a.size)=true then pure (.done (some (fn a b (r++a.extract i (i+k)) (i+k) j),r++a.extract i (i+k),i+k,j,mg,k,bc))
   else t1 a b (r++a.extract i (i+k)) (i+k) j mg k bc
  else t1 a b r i j mg k bc
 |_=>pure (.done (some (fn a b r i j),r,i,j,mg,ac,bc))
def u2(a b:Ky)(c:C2):SM (ForInStep C2):=
 if c.2.2.2.2.1>1 then t0 a b c.2.1 c.2.2.1 c.2.2.2.1 (c.2.2.2.2.1-1) c.2.2.2.2.2.1 c.2.2.2.2.2.2 else t0 a b c.2.1 c.2.2.1 c.2.2.2.1 c.2.2.2.2.1 c.2.2.2.2.2.1 c.2.2.2.2.2.2
abbrev C0:=Option Ky×Ky×Nat×Nat×Nat
def u0(a b:Ky)(c:C0):SM (ForInStep C0):=
 (forIn [0:a.size+b.size] ((none,c.2.1,c.2.2.1,c.2.2.2.1,0,0):C1) λ_ c1=>u1 a b c.2.2.2.2 c1)>>=λd=>match d.1 with
 |some r=>pure (.done (some r,d.2.1,d.2.2.1,d.2.2.2.1,c.2.2.2.2))
 |none=>(liftM (rule "list.sort.gallop"):SM Unit)>>=λ_=>
  (forIn [0:a.size+b.size] ((none,d.2.1,d.2.2.1,d.2.2.2.1,c.2.2.2.2+1,d.2.2.2.2.1,d.2.2.2.2.2):C2) λ_ c2=>u2 a b c2)>>=λe=>match e.1 with
  |some r=>pure (.done (some r,e.2.1,e.2.2.1,e.2.2.2.1,e.2.2.2.2.1))
  |none=>setG (e.2.2.2.2.1+1)>>=λ_=>pure (.yield (none,e.2.1,e.2.2.1,e.2.2.2.1,e.2.2.2.2.1+1))
theorem pO(a b:Ky):jD a b=((liftM (rule "list.sort.merge-lo"):SM Unit)>>=λ_=>elem' b 0>>=λe=>
 if(1==b.size)=true then pure (fn a b #[e] 0 1)else
  if(0+1==a.size)=true then pure (fn b a #[e] 1 0)else get>>=λg=>
   (forIn [0:a.size+b.size] ((none,#[e],0,1,gallopOf g):C0) λ_ c=>u0 a b c)>>=λc=>match c.1 with
   |some r=>pure r
   |none=>liftM (P5 "internal:list.sort.merge-bound":Sem Ky)):=by kernel_rfl
section
variable{prog:YF}{w:World}{A:Around}{E:1e1}{s:Shared}{κ:Vs}{it a:Ky}{o:5e2}{x y z:3e9}{p:Array (Nat×Nat×Nat)}{st:SortSt}{i j k mg ac bc base:Nat}
def SG(κ:Vs)(a:Ky)(p:Array (Nat×Nat×Nat))(st:SortSt):Prop:=∃m,st=Wu κ a p m none
theorem SG.kind(h:SG κ a p st):kindOf st=κ:=by obtain⟨m,rfl⟩:=h;rfl
structure Rows(it:Ky)(o:Nat->Nat->Bool)(x y:List Nat):Prop where
 W:Wk o
 hx:x.Pairwise (le o)
 hy:y.Pairwise (le o)
 ix:∀a∈x,a<it.size
 iy:∀a∈y,a<it.size
 first:∀a∈x,le o (y.getD 0 0) a
 last:∀b∈y,le o b (x.getD (x.length-1) 0)
theorem zD(h:i<x.length):x.getD i 0∈x:=by rw[Yt,Ye h];show Wr h
def Fin(it:Ky)(o:5e2)(x y:3e9)(r:Ky):Prop:=∃z,r=ar it z/\z.Pairwise (le o)/\z.Perm (x++y)
theorem jV(h:J o x y z i j)(he:y.drop j=[]\/x.drop i=[]):Fin it o x y (fn (ar it x) (ar it y) (ar it z) i j):=by
 show⟨_,?_,h.fin he⟩;ext fn;rw[i9,i9,FJ,FJ]
theorem yJ(h:i+1=x.length):x.drop i=[x.getD (x.length-1) 0]:=by
 rw[Xc 1e0,XH 1e0,show x.length-1=i by lia,Yt,Ye 1e0];rfl
theorem nJ(R:Rows it o x y)(h:J o x y z i j)(he:i+1=x.length):Fin it o x y (fn (ar it y) (ar it x) (ar it z) j i):=by
 show⟨_,?_,h.lst λa ha b hb=>?_⟩
 ·ext fn;rw[i9,i9,FJ,FJ]
 ·rw[yJ he]at ha
  rw[Yi.mp ha];show R.last b hb
def G(it:Ky)(o:5e2)(x y:3e9)(base:Nat)(q:Option Ky)(r:Ky)(i j:Nat):Prop:=
 match q with
 |some r=>Fin it o x y r
 |none=>∃z,r=ar it z/\J o x y z i j/\i+1<x.length/\j<y.length/\base<=i+j
def N2(it:Ky)(o:5e2)(x y:3e9)(base:Nat):ForInStep C2->Prop
 |.done c=>G it o x y base c.1 c.2.1 c.2.2.1 c.2.2.2.1
 |.yield c=>c.1=none/\G it o x y base c.1 c.2.1 c.2.2.1 c.2.2.2.1
theorem J.px(h:J o x y z i j)(W:Wk o)(hx:x.Pairwise (le o))(hy:y.Pairwise (le o))(hi:i<x.length)(hj:j<y.length->le o (x.getD i 0) (y.getD j 0)):J o x y (z++[x.getD i 0]) (i+1) j:=by
 have:=h.ax (k:=1) (λa ha b hb=>by
  rw[Ri hi]at ha;rw[Yi.mp ha];obtain⟨m,h1,h2,rfl⟩:=KI hb;show W.tr _ _ _ (hj (by lia)) (za W hy h1 h2))
 rw[Ri hi]at this;show this
theorem J.py(h:J o x y z i j)(W:Wk o)(hx:x.Pairwise (le o))(hy:y.Pairwise (le o))(hj:j<y.length)(hi:i<x.length->le o (y.getD j 0) (x.getD i 0)):J o x y (z++[y.getD j 0]) i (j+1):=(h.swap.px W hy hx hj hi).swap
theorem J.cx(h:J o x y z i j)(W:Wk o)(hy:y.Pairwise (le o))(hk:i+k<=x.length)(hl:∀m,i<=m->m<i+k->le o (x.getD m 0) (y.getD j 0)):J o x y (z++(x.drop i).take k) (i+k) j:=
 h.ax λa ha b hb=>by
  obtain⟨m,h1,h2,h3,rfl⟩:=ji ha;obtain⟨n,h4,h5,rfl⟩:=KI hb;show W.tr _ _ _ (hl m h1 h2) (za W hy h4 h5)
theorem zA{m n:Nat}:((m==n)=true)=(m=n):=by simp
theorem Ge(R:Rows it o x y)(hs:SG κ a p st)(h:J o x y z i j)(hi:i+1<x.length)(hj:j<y.length)(hb:base<=i+j)(hl:le o (x.getD i 0) (y.getD j 0)):
  wpS 1e5 A E s (t3 (ar it x) (ar it y) (ar it z) i j mg ac bc) (λr aC=>SG κ a p aC/\N2 it o x y base r) st:=by
 ext t3;show YC (ke 1e0 ?_);have h':=h.px R.W R.hx R.hy 1e0 λ_=>hl;rw[w9,Px];simp only[zA];by_cases h1:i+1+1=x.length
 ·rw[if_pos h1];show YM ⟨hs,nJ R h' h1⟩
 ·rw[if_neg h1]
  have g:G it o x y base none (ar it (z++[x.getD i 0])) (i+1) j:=⟨_,rfl,h',by lia,hj,by lia⟩
  split
  ·show YM ⟨hs,g⟩
  ·show YM ⟨hs,rfl,g⟩
theorem Gf(R:Rows it o x y)(hA:3e7)(hs:SG κ a p st)(h:J o x y z i j)(hi:i+1<x.length)(hj:j<y.length)(hb:base<=i+j)(hl:le o (y.getD j 0) (x.getD i 0)):
  wpS 1e5 A E s (t1 (ar it x) (ar it y) (ar it z) i j mg ac bc) (λr aC=>SG κ a p aC/\N2 it o x y base r) st:=by
 ext t1;show YC (ke hj ?_);have h':=h.py R.W R.hx R.hy hj λ_=>hl;simp only[w9,Px,zA];by_cases h1:j+1=y.length
 ·rw[if_pos h1];show YM ⟨hs,jV h' (.inl (XH 1e0))⟩
 ·rw[if_neg h1]
  show YC (ke 1e0 ?_);show YC (QZ R.W hA hs.kind R.hy R.iy (R.ix _ (zD 1e0)) 1e0 1e0 λk hk q1 q2=>?_);simp only[if_true]at q1 q2;sleep 6;by_cases BQ:k>0
  ·rw[if_pos BQ]
   have h2:=(h'.swap.cx R.W R.hx (k:=k) 1e0 λm a b=>R.W.rK _ _ (q1 m a b)).swap;rw[He,XU,FJ];by_cases h3:j+1+k=y.length
   ·rw[if_pos h3];show YM ⟨hs,jV h2 (.inl (XH 1e0))⟩
   ·rw[if_neg h3]
    show Ge R hs h2 hi 1e0 1e0 (q2 _ (Yl _) 1e0)
  ·rw[if_neg BQ]
   show Ge R hs h' hi 1e0 1e0 (q2 _ 1e0 1e0)
theorem iQ{Q:Unit->SortSt->Prop}(hs:SG κ a p st)(h:∀aC,SG κ a p aC->Q () aC):wpS 1e5 A E s (setG mg) Q st:=by
 ext setG;obtain⟨m,rfl⟩:=hs;show Mr (h _ ⟨mg,rfl⟩)
theorem MY(R:Rows it o x y)(hA:3e7)(hs:SG κ a p st)(h:J o x y z i j)(hi:i+1<x.length)(hj:j<y.length)(hb:base<=i+j):
  wpS 1e5 A E s (t0 (ar it x) (ar it y) (ar it z) i j mg ac bc) (λr aC=>SG κ a p aC/\N2 it o x y base r) st:=by
 ext t0;show YC (iQ hs λaC hs=>?_);show YC (ke hj ?_);simp only[w9];show YC (QZ R.W hA hs.kind R.hx R.ix (R.iy _ (zD hj)) 1e0 1e0 λk hk q1 q2=>?_);simp only[YD,if_false]at q1 q2;sleep 6;by_cases BQ:k>0
 ·rw[if_pos BQ]
  have h2:=h.cx R.W R.hy (k:=k) 1e0 q1;rw[He,XU,FJ];simp only[zA];by_cases h3:i+k+1=x.length
  ·rw[if_pos h3];show YM ⟨hs,nJ R h2 h3⟩
  ·rw[if_neg h3]
   by_cases h4:i+k=x.length
   ·rw[if_pos h4];show YM ⟨hs,jV h2 (.inr (XH 1e0))⟩
   ·rw[if_neg h4]
    show Gf R hA hs h2 1e0 hj 1e0 (R.W.rK _ _ (q2 _ (Yl _) 1e0))
 ·rw[if_neg BQ]
  show Gf R hA hs h hi hj hb (R.W.rK _ _ (q2 _ 1e0 1e0))
theorem MF{c:C2}(R:Rows it o x y)(hA:3e7)(hs:SG κ a p st)(h0:c.1=none)(h:G it o x y base c.1 c.2.1 c.2.2.1 c.2.2.2.1):
  wpS 1e5 A E s (u2 (ar it x) (ar it y) c) (λr aC=>SG κ a p aC/\N2 it o x y base r) st:=by
 rw[h0]at h;obtain⟨z,e,h,a1,a2,a3⟩:=h;ext u2;rw[e];split<;>show MY R hA hs h a1 a2 a3
def N1(it:Ky)(o:5e2)(x y:3e9)(base:Nat):ForInStep C1->Prop
 |.done c=>G it o x y base c.1 c.2.1 c.2.2.1 c.2.2.2.1
 |.yield c=>c.1=none/\G it o x y base c.1 c.2.1 c.2.2.1 c.2.2.2.1
theorem MH{c:C1}(R:Rows it o x y)(hA:3e7)(hs:SG κ a p st)(h0:c.1=none)(h:G it o x y base c.1 c.2.1 c.2.2.1 c.2.2.2.1):
  wpS 1e5 A E s (u1 (ar it x) (ar it y) mg c) (λr aC=>SG κ a p aC/\N1 it o x y (base+1) r) st:=by
 rw[h0]at h;obtain⟨z,e,h,a1,a2,a3⟩:=h;ext u1;show YC (ke a2 ?_);show YC (ke 1e0 ?_);show YC (iw hA hs.kind (R.iy _ (zD a2)) (R.ix _ (zD 1e0)) ?_);simp only[w9,zA];cases hq:o (y.getD c.2.2.2.1 0) (x.getD c.2.2.1 0)with
 |true=>
  rw[if_pos rfl];show YC (ke a2 ?_);have h':=h.py R.W R.hx R.hy a2 λ_=>R.W.rK _ _ hq;rw[e,Px];by_cases h3:c.2.2.2.1+1=y.length
  ·rw[if_pos h3];show YM ⟨hs,jV h' (.inl (XH 1e0))⟩
  ·rw[if_neg h3]
   have g:G it o x y (base+1) none (ar it (z++[y.getD c.2.2.2.1 0])) c.2.2.1 (c.2.2.2.1+1):=⟨_,rfl,h',a1,by lia,by lia⟩
   split
   ·show YM ⟨hs,g⟩
   ·show YM ⟨hs,rfl,g⟩
 |false=>
  rw[if_neg Yn];show YC (ke 1e0 ?_);have h':=h.px R.W R.hx R.hy 1e0 λ_=>hq;rw[e,Px];by_cases h3:c.2.2.1+1+1=x.length
  ·rw[if_pos h3];show YM ⟨hs,nJ R h' h3⟩
  ·rw[if_neg h3]
   have g:G it o x y (base+1) none (ar it (z++[x.getD c.2.2.1 0])) (c.2.2.1+1) c.2.2.2.1:=⟨_,rfl,h',by lia,a2,by lia⟩
   split
   ·show YM ⟨hs,g⟩
   ·show YM ⟨hs,rfl,g⟩
theorem G.less{q:Option Ky}{r:Ky}{b:Nat}(h:G it o x y base q r i j)(hb:b<=base):G it o x y b q r i j:=by
 cases q with
 |some _=>show h
 |none=>obtain⟨z,e,h,a1,a2,a3⟩:=h;show⟨z,e,h,a1,a2,by lia⟩
def N0(it:Ky)(o:5e2)(x y:3e9)(base:Nat):ForInStep C0->Prop
 |.done c=>∃r,c.1=some r/\Fin it o x y r
 |.yield c=>c.1=none/\G it o x y base c.1 c.2.1 c.2.2.1 c.2.2.2.1
theorem MI{c:C0}(R:Rows it o x y)(hA:3e7)(hs:SG κ a p st)(h0:c.1=none)(h:G it o x y base c.1 c.2.1 c.2.2.1 c.2.2.2.1):
  wpS 1e5 A E s (u0 (ar it x) (ar it y) c) (λr aC=>SG κ a p aC/\N0 it o x y (base+1) r) st:=by
 have JB:0<x.length:=by rw[h0]at h;obtain⟨z,e,h,a1,a2,a3⟩:=h;lia
 ext u0;show YC (Wl (XR
  (I:=λt d aC=>SG κ a p aC/\d.1=none/\G it o x y (if t=0 then base else base+1) d.1 d.2.1 d.2.2.1 d.2.2.2.1)
  (Q:=λd aC=>SG κ a p aC/\G it o x y (base+1) d.1 d.2.1 d.2.2.1 d.2.2.2.1) ?step ?fin ⟨hs,rfl,by rw[h0]at h;show h⟩) ?post)
 case fin=>
  rintro d aC ⟨eF,_,h'⟩;rw[if_neg (by rw[w9,w9];lia)]at h';show⟨eF,h'⟩
 case step=>
  rintro t d aC _ _ ⟨eF,d0,h'⟩;show Wl (MH (base:=base) R hA eF d0 (h'.less (by split<;>lia))) λr iP q=>?_;cases r with
  |done d=>show q
  |yield d=>show⟨q.1,q.2.1,q.2.2.less (by split<;>lia)⟩
 case post=>
  rintro⟨d1,d⟩ aC ⟨eF,h'⟩;cases d1 with
  |some r=>show YM ⟨eF,r,rfl,h'⟩
  |none=>
   show YC (K5 (WP ⟨rfl,?_⟩));show YC (Wl (XR
    (I:=λt d aC=>SG κ a p aC/\d.1=none/\G it o x y (base+1) d.1 d.2.1 d.2.2.1 d.2.2.2.1)
    (Q:=λd aC=>SG κ a p aC/\G it o x y (base+1) d.1 d.2.1 d.2.2.1 d.2.2.2.1) ?_ (λd aC q=>⟨q.1,q.2.2⟩) ⟨eF,rfl,h'⟩) ?_)
   ·rintro t d aC _ _ ⟨eF,d0,h'⟩
    show Wl (MF R hA eF d0 h') λr iP q=>?_;cases r with
    |done d=>show q
    |yield d=>show q
   ·rintro⟨d1,d⟩ aC ⟨eF,h'⟩
    cases d1 with
    |some r=>show YM ⟨eF,r,rfl,h'⟩
    |none=>show YC (iQ eF λiP GG=>YM ⟨GG,rfl,h'⟩)
theorem sZ{Q:Ky->SortSt->Prop}(R:Rows it o x y)(hA:3e7)(hs:SG κ a p st)(hx0:0<x.length)(Qu:0<y.length)(h:∀r aC,SG κ a p aC->Fin it o x y r->Q r aC):
  wpS 1e5 A E s (jD (ar it x) (ar it y)) Q st:=by
 rw[pO];show YC (K5 (WP ⟨rfl,?_⟩));show YC (ke Qu ?_);have j0:J o x y [y.getD 0 0] 0 1:=by
  have:J o x y [] 0 0:=⟨by simpa using R.hx,by simpa using R.hy,by simp⟩
  show this.py R.W R.hx R.hy Qu λhx=>R.first _ (zD hx)
 have e0:(#[Vt it (y.getD 0 0)]:Ky)=ar it [y.getD 0 0]:=rfl;simp only[w9,zA];rw[e0];by_cases h1:1=y.length
 ·rw[if_pos h1];show YM (h _ _ hs (jV j0 (.inl (XH 1e0))))
 ·rw[if_neg h1]
  by_cases h2:0+1=x.length
  ·rw[if_pos h2];show YM (h _ _ hs (nJ R j0 h2))
  ·rw[if_neg h2]
   show YC (DH ?_);show YC (Wl (XR
    (I:=λt (d:C0) aC=>SG κ a p aC/\d.1=none/\G it o x y t d.1 d.2.1 d.2.2.1 d.2.2.2.1)
    (Q:=λd aC=>SG κ a p aC/\∃r,d.1=some r/\Fin it o x y r) ?step ?fin ⟨hs,rfl,(show G it o x y 0 none (ar it [y.getD 0 0]) 0 1 from⟨_,rfl,j0,by lia,by lia,by lia⟩)⟩) ?post)
   case fin=>
    rintro d aC ⟨eF,d0,h'⟩;rw[d0]at h';obtain⟨z,e,_,a1,a2,a3⟩:=h';lia
   case step=>
    rintro t d aC _ _ ⟨eF,d0,h'⟩;show Wl (MI R hA eF d0 h') λr iP q=>?_;cases r with
    |done d=>show q
    |yield d=>show q
   case post=>
    rintro⟨d1,d⟩ aC ⟨eF,r,e,h'⟩;dsimp only at e;subst e;show YM (h _ _ eF h')
end
abbrev D1:=Option Ky×Nat×Nat×Ky×Nat×Nat
abbrev D2:=Option Ky×Nat×Nat×Ky×Nat×Nat×Nat
abbrev D0:=Option Ky×Nat×Nat×Ky×Nat
noncomputable def fh (a b r:Ky)(i j:Nat):Ky:=a.extract 0 i++b.extract 0 j++r.reverse
def v1(a b:Ky)(mg:Nat)(c:D1):SM (ForInStep D1):=
 elem' b (c.2.2.1-1)>>=λe=>elem' a (c.2.1-1)>>=λf=>lt' e f>>=λq=>match q with
 |some bw=>if bw=true then elem' a (c.2.1-1)>>=λe=>
   if(c.2.1-1==0)=true then pure (.done (some (fh a b (c.2.2.2.1.push e) (c.2.1-1) c.2.2.1),c.2.1-1,c.2.2.1,c.2.2.2.1.push e,c.2.2.2.2.1+1,0))
   else if c.2.2.2.2.1+1≥mg then pure (.done (none,c.2.1-1,c.2.2.1,c.2.2.2.1.push e,c.2.2.2.2.1+1,0))
   else pure (.yield (none,c.2.1-1,c.2.2.1,c.2.2.2.1.push e,c.2.2.2.2.1+1,0))
  else elem' b (c.2.2.1-1)>>=λe=>
   if(c.2.2.1-1==1)=true then pure (.done (some (fh b a (c.2.2.2.1.push e) (c.2.2.1-1) c.2.1),c.2.1,c.2.2.1-1,c.2.2.2.1.push e,0,c.2.2.2.2.2+1))
   else if c.2.2.2.2.2+1≥mg then pure (.done (none,c.2.1,c.2.2.1-1,c.2.2.2.1.push e,0,c.2.2.2.2.2+1))
   else pure (.yield (none,c.2.1,c.2.2.1-1,c.2.2.2.1.push e,0,c.2.2.2.2.2+1))
 |_=>pure (.done (some (fh a b c.2.2.2.1 c.2.1 c.2.2.1),c.2.1,c.2.2.1,c.2.2.2.1,c.2.2.2.2.1,c.2.2.2.2.2))
def w3(a b r:Ky)(i j mg ac bc:Nat):SM (ForInStep D2):=
 elem' a (i-1)>>=λe=>
 if(i-1==0)=true then pure (.done (some (fh a b (r.push e) (i-1) j),i-1,j,r.push e,mg,ac,bc))
 else if(decide (ac<7)&&decide (bc<7))=true then pure (.done (none,i-1,j,r.push e,mg,ac,bc))
 else pure (.yield (none,i-1,j,r.push e,mg,ac,bc))
def w1(a b r:Ky)(i j mg ac bc:Nat):SM (ForInStep D2):=
 elem' b (j-1)>>=λe=>
 if(j-1==1)=true then pure (.done (some (fh b a (r.push e) (j-1) i),i,j-1,r.push e,mg,ac,bc))else
  elem' a (i-1)>>=λf=>dj true f b 0 (j-1) (j-1-1)>>=λq=>match q with
  |some k=>if j-1-k>0 then
    if(k==1)=true then pure (.done (some (fh b a (r.push e++(b.extract k (j-1)).reverse) k i),i,k,r.push e++(b.extract k (j-1)).reverse,mg,ac,j-1-k))
    else if(k==0)=true then pure (.done (some (fh a b (r.push e++(b.extract k (j-1)).reverse) i k),i,k,r.push e++(b.extract k (j-1)).reverse,mg,ac,j-1-k))
    else w3 a b (r.push e++(b.extract k (j-1)).reverse) i k mg ac (j-1-k)
   else w3 a b (r.push e) i (j-1) mg ac (j-1-k)
  |_=>pure (.done (some (fh a b (r.push e) i (j-1)),i,j-1,r.push e,mg,ac,bc))
def w0(a b r:Ky)(i j mg ac bc:Nat):SM (ForInStep D2):=
 setG mg>>=λ_=>elem' b (j-1)>>=λe=>dj false e a 0 i (i-1)>>=λq=>match q with
 |some k=>if i-k>0 then
   if(k==0)=true then pure (.done (some (fh a b (r++(a.extract k i).reverse) k j),k,j,r++(a.extract k i).reverse,mg,i-k,bc))
   else w1 a b (r++(a.extract k i).reverse) k j mg (i-k) bc
  else w1 a b r i j mg (i-k) bc
 |_=>pure (.done (some (fh a b r i j),i,j,r,mg,ac,bc))
def v2(a b:Ky)(c:D2):SM (ForInStep D2):=
 if c.2.2.2.2.1>1 then w0 a b c.2.2.2.1 c.2.1 c.2.2.1 (c.2.2.2.2.1-1) c.2.2.2.2.2.1 c.2.2.2.2.2.2 else w0 a b c.2.2.2.1 c.2.1 c.2.2.1 c.2.2.2.2.1 c.2.2.2.2.2.1 c.2.2.2.2.2.2
def v0(a b:Ky)(c:D0):SM (ForInStep D0):=
 (forIn [0:a.size+b.size] ((none,c.2.1,c.2.2.1,c.2.2.2.1,0,0):D1) λ_ c1=>v1 a b c.2.2.2.2 c1)>>=λd=>match d.1 with
 |some r=>pure (.done (some r,d.2.1,d.2.2.1,d.2.2.2.1,c.2.2.2.2))
 |none=>(liftM (rule "list.sort.gallop"):SM Unit)>>=λ_=>
  (forIn [0:a.size+b.size] ((none,d.2.1,d.2.2.1,d.2.2.2.1,c.2.2.2.2+1,d.2.2.2.2.1,d.2.2.2.2.2):D2) λ_ c2=>v2 a b c2)>>=λe=>match e.1 with
  |some r=>pure (.done (some r,e.2.1,e.2.2.1,e.2.2.2.1,e.2.2.2.2.1))
  |none=>setG (e.2.2.2.2.1+1)>>=λ_=>pure (.yield (none,e.2.1,e.2.2.1,e.2.2.2.1,e.2.2.2.2.1+1))
theorem pP(a b:Ky):jF a b=((liftM (rule "list.sort.merge-hi"):SM Unit)>>=λ_=>elem' a (a.size-1)>>=λe=>
 if(a.size-1==0)=true then pure (fh a b #[e] (a.size-1) b.size)else
  if(b.size==1)=true then pure (fh b a #[e] b.size (a.size-1))else get>>=λg=>
   (forIn [0:a.size+b.size] ((none,a.size-1,b.size,#[e],gallopOf g):D0) λ_ c=>v0 a b c)>>=λc=>match c.1 with
   |some r=>pure r
   |none=>liftM (P5 "internal:list.sort.merge-bound":Sem Ky)):=by kernel_rfl
structure JH(o:Nat->Nat->Bool)(x y z:List Nat)(i j:Nat):Prop where
 p1:(x.take i++z).Pairwise (le o)
 p2:(y.take j++z).Pairwise (le o)
 pm:z.Perm (x.drop i++y.drop j)
section
variable{prog:YF}{w:World}{A:Around}{E:1e1}{s:Shared}{κ:Vs}{it a:Ky}{o:5e2}{x y z:3e9}{p:Array (Nat×Nat×Nat)}{st:SortSt}{i j k mg ac bc base:Nat}
theorem JH.swap(h:JH o x y z i j):JH o y x z j i:=⟨h.p2,h.p1,h.pm.trans XS⟩
theorem JH.ax(h:JH o x y z i j)(hk:k<=i)(hl:∀a∈(x.drop k).take (i-k),∀b∈y.take j,le o b a):JH o x y ((x.drop k).take (i-k)++z) k j:=by
 have e:x.take k++(x.drop k).take (i-k)=x.take i:=by rw[←List.take_add,show k+(i-k)=i by lia]
 have e2:(x.drop k).take (i-k)++x.drop i=x.drop k:=by
  have:=YV (i-k) (x.drop k);rw[Ua,show k+(i-k)=i by lia]at this;show this
 show⟨by rw[←Yd,e];show h.p1,?_,?_⟩
 ·have h1:=h.p1;rw[←e,Yd]at h1
  obtain⟨_,a1,_⟩:=Xh.mp h1;obtain⟨b1,_,b3⟩:=Xh.mp h.p2;show Xh.mpr ⟨b1,a1,λb hb a ha=>?_⟩;rcases Ym.mp ha with ha|ha
  ·show hl a ha b hb
  ·show b3 b hb a ha
 ·show(h.pm.append_left _).trans (VR (by rw[←Yd,e2]))
theorem JH.fin(h:JH o x y z i j)(he:x.take i=[]\/y.take j=[]):(x.take i++y.take j++z).Pairwise (le o)/\(x.take i++y.take j++z).Perm (x++y):=by
 show⟨?_,?_⟩
 ·rcases he with e|e
  ·rw[e,WZ];show h.p2
  ·rw[e,YG];show h.p1
 ·show(h.pm.append_left _).trans ?_
  have e1:=YV i x;have e2:=YV j y;show Uy ?_ (VR (by rw[e1,e2]:(x.take i++x.drop i)++(y.take j++y.drop j)=x++y));rw[Yd,Yd];show VT _ ?_;rw[←Yd,←Yd];show XS.append_right _
theorem JH.fst(h:JH o x y z i j)(hl:∀b∈y.take j,∀a∈x,le o b a):(y.take j++x.take i++z).Pairwise (le o)/\(y.take j++x.take i++z).Perm (x++y):=by
 show⟨?_,?_⟩
 ·obtain⟨a1,a2,a3⟩:=Xh.mp h.p2
  rw[Yd];show Xh.mpr ⟨a1,h.p1,λb hb a ha=>?_⟩;rcases Ym.mp ha with ha|ha
  ·show hl b hb a (U9 ha)
  ·show a3 b hb a ha
 ·have e1:=YV i x
  have e2:=YV j y;show(XS.append_right _).trans ?_;show(h.pm.append_left _).trans ?_;show Uy ?_ (VR (by rw[e1,e2]:(x.take i++x.drop i)++(y.take j++y.drop j)=x++y));rw[Yd,Yd];show VT _ ?_;rw[←Yd,←Yd];show XS.append_right _
theorem w4(x:3e9)(i:Nat):(ar it x).extract 0 i=ar it (x.take i):=by rw[He,RM,Nat.sub_zero]
theorem GY:fh (ar it x) (ar it y) (ar it z.reverse) i j=ar it (x.take i++y.take j++z):=by
 ext fh;rw[w4,w4,CV,List.reverse_reverse,FJ,FJ]
theorem jX(h:JH o x y z i j)(he:x.take i=[]\/y.take j=[]):Fin it o x y (fh (ar it x) (ar it y) (ar it z.reverse) i j):=⟨_,GY,h.fin he⟩
theorem nL(R:Rows it o x y)(h:JH o x y z i j)(he:j=1)(hy:0<y.length):Fin it o x y (fh (ar it y) (ar it x) (ar it z.reverse) j i):=by
 show⟨_,GY,h.fst λb hb a ha=>?_⟩;subst he;have:=Ri (x:=y) (i:=0) hy;rw[RM]at this;rw[this]at hb;rw[Yi.mp hb];show R.first a ha
def GH(it:Ky)(o:5e2)(x y:3e9)(base:Nat)(q:Option Ky)(i j:Nat)(r:Ky):Prop:=
 match q with
 |some r=>Fin it o x y r
 |none=>∃z,r=ar it z.reverse/\JH o x y z i j/\1<=i/\i<=x.length/\2<=j/\j<=y.length/\base+i+j<=x.length+y.length
def L2(it:Ky)(o:5e2)(x y:3e9)(base:Nat):ForInStep D2->Prop
 |.done c=>GH it o x y base c.1 c.2.1 c.2.2.1 c.2.2.2.1
 |.yield c=>c.1=none/\GH it o x y base c.1 c.2.1 c.2.2.1 c.2.2.2.1
theorem FL{n:Nat}(h:n∈x.take i):∃m,m<i/\m<x.length/\n=x.getD m 0:=by
 obtain⟨m,h1,h2,h3,h4⟩:=ji (x:=x) (i:=0) (by rw[RM];show h);show⟨m,by lia,h3,h4⟩
theorem Ea(n:Nat):(ar it z.reverse).push (Vt it n)=ar it (n::z).reverse:=by rw[Px,Wa]
theorem JH.px(h:JH o x y z i j)(W:Wk o)(hy:y.Pairwise (le o))(hi:0<i)(hx:i<=x.length)(hjy:j<=y.length)(hj:0<j->le o (y.getD (j-1) 0) (x.getD (i-1) 0)):JH o x y (x.getD (i-1) 0::z) (i-1) j:=by
 have e:=Ri (x:=x) (i:=i-1) 1e0;have:=h.ax (k:=i-1) 1e0 (λa ha b hb=>by
  rw[show i-(i-1)=1 by lia,e]at ha;rw[Yi.mp ha];obtain⟨m,h1,h2,rfl⟩:=FL hb;show W.tr _ _ _ (za W hy (by lia:m<=j-1) (by lia)) (hj (by lia)))
 rw[show i-(i-1)=1 by lia,e]at this;show this
theorem JH.py(h:JH o x y z i j)(W:Wk o)(hx:x.Pairwise (le o))(hj:0<j)(hy:j<=y.length)(T4:i<=x.length)(hi:0<i->le o (x.getD (i-1) 0) (y.getD (j-1) 0)):JH o x y (y.getD (j-1) 0::z) i (j-1):=(h.swap.px W hx hj hy T4 hi).swap
theorem JH.cx(h:JH o x y z i j)(W:Wk o)(hy:y.Pairwise (le o))(hk:k<=i)(hj:0<j)(hjy:j<=y.length)(hl:∀m,k<=m->m<i->le o (y.getD (j-1) 0) (x.getD m 0)):JH o x y ((x.drop k).take (i-k)++z) k j:=
 h.ax hk λa ha b hb=>by
  obtain⟨m,h1,h2,h3,rfl⟩:=ji ha;obtain⟨n,h4,h5,rfl⟩:=FL hb;show W.tr _ _ _ (za W hy (by lia:n<=j-1) 1e0) (hl m h1 1e0)
theorem M7(c:3e9):ar it z.reverse++(ar it c).reverse=ar it (c++z).reverse:=by rw[CV,FJ,List.reverse_append]
theorem F6(R:Rows it o x y)(hs:SG κ a p st)(h:JH o x y z i j)(hi:1<=i)(hx:i<=x.length)(hj:2<=j)(hy:j<=y.length)(hb:base+i+j<=x.length+y.length)(hl:le o (y.getD (j-1) 0) (x.getD (i-1) 0)):
  wpS 1e5 A E s (w3 (ar it x) (ar it y) (ar it z.reverse) i j mg ac bc) (λr aC=>SG κ a p aC/\L2 it o x y base r) st:=by
 ext w3;show YC (ke 1e0 ?_);have h':=h.px R.W R.hy hi hx hy λ_=>hl;rw[Ea];simp only[zA];by_cases h1:i-1=0
 ·rw[if_pos h1];show YM ⟨hs,jX h' (.inl (by rw[h1];rfl))⟩
 ·rw[if_neg h1]
  have g:GH it o x y base none (i-1) j (ar it (x.getD (i-1) 0::z).reverse):=⟨_,rfl,h',by lia,by lia,by lia,by lia,by lia⟩
  split
  ·show YM ⟨hs,g⟩
  ·show YM ⟨hs,rfl,g⟩
theorem F7(R:Rows it o x y)(hA:3e7)(hs:SG κ a p st)(h:JH o x y z i j)(hi:1<=i)(hx:i<=x.length)(hj:2<=j)(hy:j<=y.length)(hb:base+i+j<=x.length+y.length)(hl:le o (x.getD (i-1) 0) (y.getD (j-1) 0)):
  wpS 1e5 A E s (w1 (ar it x) (ar it y) (ar it z.reverse) i j mg ac bc) (λr aC=>SG κ a p aC/\L2 it o x y base r) st:=by
 ext w1;show YC (ke 1e0 ?_);have h':=h.py R.W R.hx 1e0 hy hx λ_=>hl;simp only[Ea,zA];by_cases h1:j-1=1
 ·rw[if_pos h1];show YM ⟨hs,nL R h' h1 1e0⟩
 ·rw[if_neg h1]
  show YC (ke 1e0 ?_);show YC (QZ R.W hA hs.kind R.hy R.iy (R.ix _ (zD 1e0)) 1e0 1e0 λk hk q1 q2=>?_);simp only[if_true,WN]at q1 q2;sleep 6;by_cases BQ:j-1-k>0
  ·rw[if_pos BQ]
   have h2:=(h'.swap.cx R.W R.hx (k:=k) hk 1e0 hx λm a b=>q2 m a b).swap;rw[He,M7];by_cases h3:k=1
   ·rw[if_pos h3];show YM ⟨hs,nL R h2 h3 1e0⟩
   ·rw[if_neg h3]
    by_cases h4:k=0
    ·rw[if_pos h4];show YM ⟨hs,jX h2 (.inr (by rw[h4];rfl))⟩
    ·rw[if_neg h4]
     show F6 R hs h2 hi hx 1e0 1e0 1e0 (R.W.rK _ _ (q1 _ 1e0 1e0))
  ·rw[if_neg BQ]
   show F6 R hs h' hi hx 1e0 1e0 1e0 (R.W.rK _ _ (q1 _ 1e0 1e0))
theorem MB(R:Rows it o x y)(hA:3e7)(hs:SG κ a p st)(h:JH o x y z i j)(hi:1<=i)(hx:i<=x.length)(hj:2<=j)(hy:j<=y.length)(hb:base+i+j<=x.length+y.length):
  wpS 1e5 A E s (w0 (ar it x) (ar it y) (ar it z.reverse) i j mg ac bc) (λr aC=>SG κ a p aC/\L2 it o x y base r) st:=by
 ext w0;show YC (iQ hs λaC hs=>?_);show YC (ke 1e0 ?_);show YC (QZ R.W hA hs.kind R.hx R.ix (R.iy _ (zD 1e0)) 1e0 1e0 λk hk q1 q2=>?_);simp only[YD,if_false,WN]at q1 q2;sleep 6;by_cases BQ:i-k>0
 ·rw[if_pos BQ]
  have h2:=h.cx R.W R.hy (k:=k) hk 1e0 hy λm a b=>R.W.rK _ _ (q2 m a b);rw[He,M7];simp only[zA];by_cases h3:k=0
  ·rw[if_pos h3];show YM ⟨hs,jX h2 (.inl (by rw[h3];rfl))⟩
  ·rw[if_neg h3]
   show F7 R hA hs h2 1e0 1e0 hj hy 1e0 (q1 _ 1e0 1e0)
 ·rw[if_neg BQ]
  show F7 R hA hs h hi hx hj hy hb (q1 _ 1e0 1e0)
theorem MC{c:D2}(R:Rows it o x y)(hA:3e7)(hs:SG κ a p st)(h0:c.1=none)(h:GH it o x y base c.1 c.2.1 c.2.2.1 c.2.2.2.1):
  wpS 1e5 A E s (v2 (ar it x) (ar it y) c) (λr aC=>SG κ a p aC/\L2 it o x y base r) st:=by
 rw[h0]at h;obtain⟨z,e,h,a1,a2,a3,a4,a5⟩:=h;ext v2;rw[e];split<;>show MB R hA hs h a1 a2 a3 a4 a5
def L1(it:Ky)(o:5e2)(x y:3e9)(base:Nat):ForInStep D1->Prop
 |.done c=>GH it o x y base c.1 c.2.1 c.2.2.1 c.2.2.2.1
 |.yield c=>c.1=none/\GH it o x y base c.1 c.2.1 c.2.2.1 c.2.2.2.1
theorem MD{c:D1}(R:Rows it o x y)(hA:3e7)(hs:SG κ a p st)(h0:c.1=none)(h:GH it o x y base c.1 c.2.1 c.2.2.1 c.2.2.2.1):
  wpS 1e5 A E s (v1 (ar it x) (ar it y) mg c) (λr aC=>SG κ a p aC/\L1 it o x y (base+1) r) st:=by
 rw[h0]at h;obtain⟨z,e,h,a1,a2,a3,a4,a5⟩:=h;ext v1;show YC (ke 1e0 ?_);show YC (ke 1e0 ?_);show YC (iw hA hs.kind (R.iy _ (zD 1e0)) (R.ix _ (zD 1e0)) ?_);simp only[zA];cases hq:o (y.getD (c.2.2.1-1) 0) (x.getD (c.2.1-1) 0)with
 |true=>
  rw[if_pos rfl];show YC (ke 1e0 ?_);have h':=h.px R.W R.hy a1 a2 a4 λ_=>R.W.rK _ _ hq;rw[e,Ea];by_cases h3:c.2.1-1=0
  ·rw[if_pos h3];show YM ⟨hs,jX h' (.inl (by rw[h3];rfl))⟩
  ·rw[if_neg h3]
   have g:GH it o x y (base+1) none (c.2.1-1) c.2.2.1 (ar it (x.getD (c.2.1-1) 0::z).reverse):=⟨_,rfl,h',by lia,by lia,by lia,by lia,by lia⟩
   split
   ·show YM ⟨hs,g⟩
   ·show YM ⟨hs,rfl,g⟩
 |false=>
  rw[if_neg Yn];show YC (ke 1e0 ?_);have h':=h.py R.W R.hx 1e0 a4 a2 λ_=>hq;rw[e,Ea];by_cases h3:c.2.2.1-1=1
  ·rw[if_pos h3];show YM ⟨hs,nL R h' h3 1e0⟩
  ·rw[if_neg h3]
   have g:GH it o x y (base+1) none c.2.1 (c.2.2.1-1) (ar it (y.getD (c.2.2.1-1) 0::z).reverse):=⟨_,rfl,h',by lia,by lia,by lia,by lia,by lia⟩
   split
   ·show YM ⟨hs,g⟩
   ·show YM ⟨hs,rfl,g⟩
theorem GH.less{q:Option Ky}{r:Ky}{b:Nat}(h:GH it o x y base q i j r)(hb:b<=base):GH it o x y b q i j r:=by
 cases q with
 |some _=>show h
 |none=>obtain⟨z,e,h,a1,a2,a3,a4,a5⟩:=h;show⟨z,e,h,a1,a2,a3,a4,by lia⟩
def L0(it:Ky)(o:5e2)(x y:3e9)(base:Nat):ForInStep D0->Prop
 |.done c=>∃r,c.1=some r/\Fin it o x y r
 |.yield c=>c.1=none/\GH it o x y base c.1 c.2.1 c.2.2.1 c.2.2.2.1
theorem ME{c:D0}(R:Rows it o x y)(hA:3e7)(hs:SG κ a p st)(h0:c.1=none)(h:GH it o x y base c.1 c.2.1 c.2.2.1 c.2.2.2.1):
  wpS 1e5 A E s (v0 (ar it x) (ar it y) c) (λr aC=>SG κ a p aC/\L0 it o x y (base+1) r) st:=by
 have JB:0<x.length:=by rw[h0]at h;obtain⟨z,e,h,a1,a2,a3⟩:=h;lia
 ext v0;show YC (Wl (XR
  (I:=λt d aC=>SG κ a p aC/\d.1=none/\GH it o x y (if t=0 then base else base+1) d.1 d.2.1 d.2.2.1 d.2.2.2.1)
  (Q:=λd aC=>SG κ a p aC/\GH it o x y (base+1) d.1 d.2.1 d.2.2.1 d.2.2.2.1) ?step ?fin ⟨hs,rfl,by rw[h0]at h;show h⟩) ?post)
 case fin=>
  rintro d aC ⟨eF,_,h'⟩;rw[if_neg (by rw[w9,w9];lia)]at h';show⟨eF,h'⟩
 case step=>
  rintro t d aC _ _ ⟨eF,d0,h'⟩;show Wl (MD (base:=base) R hA eF d0 (h'.less (by split<;>lia))) λr iP q=>?_;cases r with
  |done d=>show q
  |yield d=>show⟨q.1,q.2.1,q.2.2.less (by split<;>lia)⟩
 case post=>
  rintro⟨d1,d⟩ aC ⟨eF,h'⟩;cases d1 with
  |some r=>show YM ⟨eF,r,rfl,h'⟩
  |none=>
   show YC (K5 (WP ⟨rfl,?_⟩));show YC (Wl (XR
    (I:=λt d aC=>SG κ a p aC/\d.1=none/\GH it o x y (base+1) d.1 d.2.1 d.2.2.1 d.2.2.2.1)
    (Q:=λd aC=>SG κ a p aC/\GH it o x y (base+1) d.1 d.2.1 d.2.2.1 d.2.2.2.1) ?_ (λd aC q=>⟨q.1,q.2.2⟩) ⟨eF,rfl,h'⟩) ?_)
   ·rintro t d aC _ _ ⟨eF,d0,h'⟩
    show Wl (MC R hA eF d0 h') λr iP q=>?_;cases r with
    |done d=>show q
    |yield d=>show q
   ·rintro⟨d1,d⟩ aC ⟨eF,h'⟩
    cases d1 with
    |some r=>show YM ⟨eF,r,rfl,h'⟩
    |none=>show YC (iQ eF λiP GG=>YM ⟨GG,rfl,h'⟩)
theorem tf{Q:Ky->SortSt->Prop}(R:Rows it o x y)(hA:3e7)(hs:SG κ a p st)(hx0:0<x.length)(Qu:0<y.length)(h:∀r aC,SG κ a p aC->Fin it o x y r->Q r aC):
  wpS 1e5 A E s (jF (ar it x) (ar it y)) Q st:=by
 rw[pP];show YC (K5 (WP ⟨rfl,?_⟩));rw[w9,w9];show YC (ke 1e0 ?_);have j0:JH o x y [x.getD (x.length-1) 0] (x.length-1) y.length:=by
  have:JH o x y [] x.length y.length:=⟨by simpa using R.hx,by simpa using R.hy,by simp⟩
  show this.px R.W R.hy hx0 (Yl _) (Yl _) λhj=>R.last _ (zD 1e0)
 have e0:(#[Vt it (x.getD (x.length-1) 0)]:Ky)=ar it [x.getD (x.length-1) 0].reverse:=rfl;simp only[zA];rw[e0];by_cases h1:x.length-1=0
 ·rw[if_pos h1];show YM (h _ _ hs (jX j0 (.inl (by rw[h1];rfl))))
 ·rw[if_neg h1]
  by_cases h2:y.length=1
  ·rw[if_pos h2];show YM (h _ _ hs (nL R j0 h2 Qu))
  ·rw[if_neg h2]
   show YC (DH ?_);show YC (Wl (XR
    (I:=λt (d:D0) aC=>SG κ a p aC/\d.1=none/\GH it o x y t d.1 d.2.1 d.2.2.1 d.2.2.2.1)
    (Q:=λd aC=>SG κ a p aC/\∃r,d.1=some r/\Fin it o x y r) ?step ?fin ⟨hs,rfl,(show GH it o x y 0 none (x.length-1) y.length (ar it [x.getD (x.length-1) 0].reverse)from⟨_,rfl,j0,by lia,by lia,by lia,by lia,by lia⟩)⟩) ?post)
   case fin=>
    rintro d aC ⟨eF,d0,h'⟩;rw[d0]at h';obtain⟨z,e,_,a1,a2,a3,a4,a5⟩:=h';lia
   case step=>
    rintro t d aC _ _ ⟨eF,d0,h'⟩;show Wl (ME R hA eF d0 h') λr iP q=>?_;cases r with
    |done d=>show q
    |yield d=>show q
   case post=>
    rintro⟨d1,d⟩ aC ⟨eF,r,e,h'⟩;dsimp only at e;subst e;show YM (h _ _ eF h')
end
abbrev Pn:=Array (Nat×Nat×Nat)
noncomputable def wr (c m:Ky)(n:Nat):Ky:=m.toList.zipIdx.foldl (λa p=>a.setIfInBounds (n+p.2) p.1) c
def gD(sa:Nat)(m:Ky):SM Bool:=(modify λs=>setArr s (wr (arrOf s) m sa))>>=λ_=>get>>=λs=>pure (failedOf s).isNone
def lF(c:Ky)(sa na sb nb:Nat):SM Bool:=
 if na<=nb then jD (c.extract sa sb) (c.extract sb (sb+nb))>>=gD sa else jF (c.extract sa sb) (c.extract sb (sb+nb))>>=gD sa
theorem pQ(i:Nat):mergeAt' i=(get>>=λs=>match((X9 s)[i]?,(X9 s)[i+1]?)with
  | (some (sa,na,pw),some (sb,nb,_))=>set (setPending s (((X9 s).setIfInBounds i (sa,na+nb,pw)).eraseIdxIfInBounds (i+1)))>>=λ_=>elem' (arrOf s) sb>>=λe=>dj false e (arrOf s) sa na 0>>=λq=>match q with
    |some k=>if(na-k==0)=true then pure true else elem' (arrOf s) (sa+k+(na-k)-1)>>=λf=>dj true f (arrOf s) sb nb (nb-1)>>=λq=>match q with
      |some n=>if(n==0)=true then pure true else lF (arrOf s) (sa+k) (na-k) sb n
      |_=>pure false
    |_=>pure false
  |_=>liftM (P5 "internal:list.sort.pending":Sem Bool)):=by kernel_rfl
section
variable{prog:YF}{w:World}{A:Around}{E:1e1}{s:Shared}{κ:Vs}{it:Ky}{o:5e2}{L X Y R:3e9}{p:Pn}
theorem F5(n:Nat):∀(z:3e9)(k:Nat)(A B C:3e9),A.length=n+k->B.length=z.length->
  ((z.map (Vt it)).zipIdx k).foldl (λ(a:Ky) p=>a.setIfInBounds (n+p.2) p.1) (ar it (A++B++C))=ar it (A++z++C)
 |[],k,A,B,C,h1,h2=>by
  have:B=[]:=WK.mp h2;subst this;rfl
 |e::z,k,A,B,C,h1,h2=>by
  cases B with
  |nil=>cases h2
  |cons b B=>
   rw[Yq,List.zipIdx_cons,VQ];have:(ar it (A++b::B++C)).setIfInBounds (n+k) (Vt it e)=ar it ((A++[e])++B++C):=by
    ext ar;rw[List.setIfInBounds_toArray,YX,YX,Yd,UY _ _ (by simp[h1]),Yj,h1,Rz];simp
   rw[this,F5 n z (k+1) (A++[e]) B C (by simp[h1];lia) (by simpa using h2)];simp
theorem Mx{z:3e9}(h:Y.length=z.length):wr (ar it (L++Y++R)) (ar it z) L.length=ar it (L++z++R):=by
 ext wr;have:=F5 (it:=it) L.length z 0 L Y R 1e0 h;rw[←this];ext ar;rfl
theorem zK{st iP:SortSt}{Q:PUnit->SortSt->Prop}(h:Q ⟨⟩ iP):wpS 1e5 A E s (set iP:StateT SortSt Sem PUnit) Q st:=by
 ext wpS;rw[StateT.run_set];show Yc ⟨rfl,h⟩
theorem LV{j:Nat}(h:j<X.length):(L++X++Y++R).getD (L.length+j) 0=X.getD j 0:=by
 rw[Yt,Yt,Yd,Yd,YE 1e0,XU,Yp h]
theorem OU{j:Nat}(h:j<Y.length):(L++X++Y++R).getD (L.length+X.length+j) 0=Y.getD j 0:=by
 have:=LV (L:=L++X) (X:=Y) (Y:=R) (R:=[]) h;rw[YG,Yf]at this;show this
theorem ex1{k:Nat}(h:k<=X.length):(ar it (L++X++Y++R)).extract (L.length+k) (L.length+X.length)=ar it (X.drop k):=by
 rw[He,Yd,Yd,←Ua,List.drop_left,List.drop_append_of_le_length h,X3 (by rw[Xw];lia),X0 (by rw[Xw];lia)]
theorem ex2{k:Nat}(h:k<=Y.length):(ar it (L++X++Y++R)).extract (L.length+X.length) (L.length+X.length+k)=ar it (Y.take k):=by
 rw[He,Yd (L++X),←Yf,List.drop_left,XU,X3 h]
theorem tj{i m pa pb:Nat}{Q:Bool->SortSt->Prop}(W:Wk o)(hA:3e7)(hi:∀a∈L++X++Y++R,a<it.size)(hX:X.Pairwise (le o))(hY:Y.Pairwise (le o))(x0:0<X.length)(y0:0<Y.length)
  (e1:p[i]? = some (L.length,X.length,pa)) (e2:p[i+1]? = some (L.length+X.length,Y.length,pb))
  (h:∀Z g,Z.Pairwise (le o)->Z.Perm (X++Y)->Q true (Wu κ (ar it (L++Z++R)) ((p.setIfInBounds i (L.length,X.length+Y.length,pa)).eraseIdxIfInBounds (i+1)) g none)):
  wpS 1e5 A E s (mergeAt' i) Q (Wu κ (ar it (L++X++Y++R)) p m none):=by
 have hl:(L++X++Y++R).length=L.length+X.length+Y.length+R.length:=by simp only[Yf]
 have same:X.Pairwise (le o)->(∀a∈X,le o a (Y.getD 0 0))->Q true (Wu κ (ar it (L++X++Y++R)) ((p.setIfInBounds i (L.length,X.length+Y.length,pa)).eraseIdxIfInBounds (i+1)) m none):=λ_ hb=>by
  have:=h (X++Y) m (Xh.mpr ⟨hX,hY,λa ha b rJ=>?_⟩) (List.Perm.refl _)
  ·rw[←Yd]at this;show this
  ·obtain⟨n,h2,h3,rfl⟩:=FL (x:=Y) (i:=Y.length) (by rw[U5];show rJ)
   show W.tr _ _ _ (hb a ha) (za W hY (Y2 _) h3)
 rw[pQ];show YC (DH ?_);change wpS _ _ _ _ (match(p[i]?,p[i+1]?)with|(some (sa,na,pw),some (sb,nb,_))=>_|_=>_) _ _;rw[e1,e2];sleep 6;show YC (zK ?_);show YC (ke 1e0 ?_);have k0:(L++X++Y++R).getD (L.length+X.length) 0=Y.getD 0 0:=OU (j:=0) y0;rw[k0];have iX:∀a∈X,a<it.size:=λa ha=>hi a (by simp[ha]);have iY:∀a∈Y,a<it.size:=λa ha=>hi a (by simp[ha]);show YC (ZcC W hA rfl (λa b h1 h2 h3=>?_) hi (iY _ (zD y0)) 1e0 x0 λk hk q1 q2=>?_)
 ·obtain⟨a',rfl⟩:=Vu h1
  obtain⟨b',rfl⟩:=Vu (Xb h1 h2);rw[LV 1e0,LV 1e0];show za W hX 1e0 1e0
 simp only[YD,if_false]at q1 q2;have q1':∀m,m<k->le o (X.getD m 0) (Y.getD 0 0):=λm hm=>by
  have:=q1 (L.length+m) 1e0 1e0;rw[LV 1e0]at this;show this
 have q2':∀m,k<=m->m<X.length->o (Y.getD 0 0) (X.getD m 0)=true:=λm hm hm2=>by
  have:=q2 (L.length+m) 1e0 1e0;rw[LV 1e0]at this;show this
 sleep 6;simp only[zA];by_cases c1:X.length-k=0
 ·rw[if_pos c1]
  show YM (same hX λa ha=>?_);obtain⟨n,h2,h3,rfl⟩:=FL (x:=X) (i:=X.length) (by rw[U5];show ha);show q1' n 1e0
 rw[if_neg c1];show YC (ke 1e0 ?_);have k1:(L++X++Y++R).getD (L.length+k+(X.length-k)-1) 0=X.getD (X.length-1) 0:=by
  rw[show L.length+k+(X.length-k)-1=L.length+(X.length-1) by lia];show LV 1e0
 rw[k1];show YC (ZcC W hA rfl (λa b h1 h2 h3=>?_) hi (iX _ (zD 1e0)) 1e0 1e0 λn hn r1 r2=>?_)
 ·obtain⟨a',rfl⟩:=Vu h1
  obtain⟨b',rfl⟩:=Vu (Xb h1 h2);rw[OU 1e0,OU 1e0];show za W hY 1e0 1e0
 simp only[if_true]at r1 r2;have Nl:∀m,m<n->o (Y.getD m 0) (X.getD (X.length-1) 0)=true:=λm hm=>by
  have:=r1 (L.length+X.length+m) 1e0 1e0;rw[OU 1e0]at this;show this
 have r2':∀m,n<=m->m<Y.length->le o (X.getD (X.length-1) 0) (Y.getD m 0):=λm hm hm2=>by
  have:=r2 (L.length+X.length+m) 1e0 1e0;rw[OU 1e0]at this;show this
 sleep 6;by_cases c2:n=0
 ·rw[if_pos c2]
  show YM (same hX λa ha=>?_);obtain⟨j,h2,h3,rfl⟩:=FL (x:=X) (i:=X.length) (by rw[U5];show ha);show W.tr _ _ _ (za W hX (by lia:j<=X.length-1) 1e0) (r2' 0 1e0 y0)
 rw[if_neg c2];have LK:(X.drop k).length=X.length-k:=Xw;have htl:(Y.take n).length=n:=by rw[Xv];lia
 have gt0:(Y.take n).getD 0 0=Y.getD 0 0:=by rw[Yt,Yt,XJ 1e0]
 have gl0:(X.drop k).getD ((X.drop k).length-1) 0=X.getD (X.length-1) 0:=by
  rw[Yt,Yt,List.getElem?_drop,LK,show k+(X.length-k-1)=X.length-1 by lia]
 have Rw:Rows it o (X.drop k) (Y.take n):=by
  show⟨W,hX.drop,hY.take,λa ha=>iX a (List.mem_of_mem_drop ha),λa ha=>iY a (U9 ha),λa ha=>?_,λb hb=>?_⟩
  ·rw[gt0];obtain⟨m,h1,h2,rfl⟩:=KI ha;show W.rK _ _ (q2' m h1 h2)
  ·rw[gl0];obtain⟨m,h1,h2,rfl⟩:=FL hb;show W.rK _ _ (Nl m h1)
 have done:∀r aC,SG κ (ar it (L++X++Y++R)) ((p.setIfInBounds i (L.length,X.length+Y.length,pa)).eraseIdxIfInBounds (i+1)) aC->Fin it o (X.drop k) (Y.take n) r->wpS 1e5 A E s (gD (L.length+k) r) Q aC:=by
  rintro r aC ⟨g,rfl⟩ ⟨z,rfl,z1,z2⟩;ext gD;show YC (Mr (YC (DH (YM ?_))));have zl:(X.drop k++Y.take n).length=z.length:=z2.length_eq.symm;have e:L++X++Y++R=(L++X.take k)++(X.drop k++Y.take n)++(Y.drop n++R):=by
   conv=>lhs;rw[←YV k X,←YV n Y]
   simp only[Yd]
  have:=h (X.take k++z++Y.drop n) g ?_ ?_
  ·change Q true (Wu κ (wr (ar it (L++X++Y++R)) (ar it z) (L.length+k)) _ g none)
   have el:L.length+k=(L++X.take k).length:=by rw[Yf,Xv];lia
   rw[e,el,Mx zl];have e3:L++X.take k++z++(Y.drop n++R)=L++(X.take k++z++Y.drop n)++R:=by simp only[Yd]
   rw[e3];show this
  ·have mz:∀a∈z,a∈X.drop k\/a∈Y.take n:=λa ha=>Ym.mp (z2.mem_iff.mp ha)
   rw[Yd];show Xh.mpr ⟨hX.take,Xh.mpr ⟨z1,hY.drop,λa ha b hb=>?_⟩,λa ha b hb=>?_⟩
   ·obtain⟨m,h1,h2,rfl⟩:=KI hb
    rcases mz a ha with q|q
    ·obtain⟨j,h3,h4,rfl⟩:=KI q
     show W.tr _ _ _ (za W hX (by lia:j<=X.length-1) 1e0) (r2' m h1 h2)
    ·obtain⟨j,h3,h4,rfl⟩:=FL q
     show za W hY 1e0 h2
   ·obtain⟨j,h3,h4,rfl⟩:=FL ha
    have hYY:∀m,m<Y.length->le o (X.getD j 0) (Y.getD m 0):=λm hm=>W.tr _ _ _ (q1' j h3) (za W hY (Y2 _) hm);rcases Ym.mp hb with hb|hb
    ·rcases mz b hb with q|q
     ·obtain⟨m,h1,h2,rfl⟩:=KI q;show za W hX 1e0 h2
     ·obtain⟨m,h1,h2,rfl⟩:=FL q;show hYY m h2
    ·obtain⟨m,h1,h2,rfl⟩:=KI hb;show hYY m h2
  ·show((z2.append_left _).append_right _).trans (VR ?_)
   conv=>rhs;rw[←YV k X,←YV n Y]
   simp only[Yd]
 ext lF;rw[show arrOf (Wu κ (ar it (L++X++Y++R)) p m none)=ar it (L++X++Y++R)from rfl,ex1 1e0,ex2 hn];split
 ·show YC (sZ Rw hA ⟨m,rfl⟩ 1e0 1e0 done)
 ·show YC (tf Rw hA ⟨m,rfl⟩ 1e0 1e0 done)
end
abbrev CA:=Option (Option Nat)×Nat
abbrev CD:=Option (Option Nat)×Nat×Nat
noncomputable def FI (lo a n:Nat):SM CA:=forIn [a:n] ((none,a):CA) λ_ c=>ltAt' (lo+c.2) (lo+c.2-1)>>=λq=>match q with
 |some sm=>if sm=true then pure (.done (none,c.2))else pure (.yield (none,c.2+1))
 |_=>pure (.done (some none,c.2))
def tail3(lo n N:Nat):SM (Option Nat):=Qb lo (lo+n)>>=λ_=>FI lo n N>>=λc=>match c.1 with
 |some r=>pure r
 |none=>pure (some c.2)
noncomputable def Ct (lo a n:Nat):SM CD:=forIn [a:n] ((none,a,0):CD) λ_ c=>ltAt' (lo+c.2.1) (lo+c.2.1-1)>>=λq=>match q with
 |some sm=>if sm=true then if c.2.2>0 then Qb (lo+c.2.1-(c.2.2+1)) (lo+c.2.1)>>=λ_=>pure (.yield (none,c.2.1+1,0))else pure (.yield (none,c.2.1+1,0))
  else ltAt' (lo+c.2.1-1) (lo+c.2.1)>>=λq=>match q with
   |some lg=>if lg=true then pure (.done (none,c.2.1,c.2.2))else pure (.yield (none,c.2.1+1,c.2.2+1))
   |_=>pure (.done (some none,c.2.1,c.2.2))
 |_=>pure (.done (some none,c.2.1,c.2.2))
def wN(lo n N:Nat):SM (Option Nat):=(liftM (rule "list.sort.descending-run"):SM Unit)>>=λ_=>Ct lo (n+1) N>>=λc=>match c.1 with
 |some r=>pure r
 |none=>if c.2.2>0 then Qb (lo+c.2.1-(c.2.2+1)) (lo+c.2.1)>>=λ_=>tail3 lo c.2.1 N else tail3 lo c.2.1 N
theorem kL(lo N:Nat):countRun' lo N=(FI lo 1 N>>=λc=>match c.1 with
 |some r=>pure r
 |none=>if(c.2==N)=true then pure (some c.2)else if c.2>1 then ltAt' lo (lo+c.2-1)>>=λq=>match q with
   |some rs=>if rs=true then pure (some c.2)else Qb lo (lo+c.2)>>=λ_=>wN lo c.2 N
   |_=>pure none
  else wN lo c.2 N):=by kernel_rfl
section
variable{prog:YF}{w:World}{A:Around}{E:1e1}{s:Shared}{κ:Vs}{it:Ky}{o:5e2}{L:3e9}{p:Array Nat}{pd:Pn}{m i j N n:Nat}
def gk(κ:Vs)(it:Ky)(L:3e9)(p:Array Nat)(pd:Pn)(m:Nat):SortSt:=Wu κ (ar it (L++p.toList)) pd m none
theorem KU(L:3e9)(p:Array Nat)(k:Nat):(ar it (L++p.toList))[k]? = if k<L.length then L[k]?.map (Vt it)else p[k-L.length]?.map (Vt it):=by
 ext ar;rw[X8,Yx];by_cases h:k<L.length
 ·rw[if_pos h,Yp h]
 ·rw[if_neg h,YE 1e0,YY]
theorem yX(wA:i<=j)(hj:j<=p.size):mirror (ar it (L++p.toList)) (L.length+i) (L.length+j) ((L.length+j-(L.length+i))/2)=ar it (L++(FV p i j).toList):=by
 apply Array.ext_getElem?;intro k;rw[Yan (by rw[w9];simp;lia),KU,KU,KU];ext FV;rw[Yan hj];by_cases h1:k<L.length
 ·rw[if_pos h1,if_pos h1,if_neg 1e0]
 ·rw[if_neg h1,if_neg h1]
  by_cases h2:i<=k-L.length/\k-L.length<j
  ·rw[if_pos 1e0,if_neg 1e0,if_pos h2,show L.length+i+(L.length+j)-1-k-L.length=i+j-1-(k-L.length) by lia]
  ·rw[if_neg 1e0,if_neg h2]
theorem yY{k d:Nat}(hk:k<p.size)(hd:d<=k):bubble (ar it (L++p.toList)) (L.length+k) d=ar it (L++(bubble p k d).toList):=by
 apply Array.ext_getElem?;intro c;rw[Ycn (by rw[w9];simp;lia) _ 1e0,KU,KU,KU,KU,Ycn hk _ hd]
 repeat' split
 all_goals first|rfl|(exfalso;lia)|(congr 2;lia)
theorem mN{Q:Unit->SortSt->Prop}{a b:Nat}(ha:a=L.length+i)(hb:b=L.length+j)(wA:i<=j)(hj:j<=p.size)(h:Q () (gk κ it L (FV p i j) pd m)):wpS 1e5 A E s (Qb a b) Q (gk κ it L p pd m):=by
 subst ha hb;rw[reverseSlice'_eq];show Mr ?_;change Q () (Wu κ (mirror (ar it (L++p.toList)) (L.length+i) (L.length+j) ((L.length+j-(L.length+i))/2)) pd m none);rw[yX wA hj];show h
theorem qV{Q:Option Bool->SortSt->Prop}{a b:Nat}(hA:3e7)(hp:10e3)(ha:a=L.length+i)(hb:b=L.length+j)(hi:i<p.size)(hj:j<p.size)(h:Q (some (o (p.getD i 0) (p.getD j 0))) (gk κ it L p pd m)):wpS 1e5 A E s (ltAt' a b) Q (gk κ it L p pd m):=by
 subst ha hb;rw[ltAt'_eq];show YC (DH ?_);have g:∀i,i<p.size->(L++p.toList).getD (L.length+i) 0=p.getD i 0:=λi hi=>by
  rw[Yt,YE 1e0,XU,YY,YO]
 have l:∀i,i<p.size->p.getD i 0<it.size:=λi hi=>hp _ (by rw[YO,Yh hi];simp);show YC (ke 6e2 (YC (ke 6e2 ?_)));rw[g i hi,g j hj];show iw hA rfl (l i hi) (l j hj) h
theorem KW{p p':Array Nat}(h:p'.Perm p)(hp:10e3):∀n∈p'.toList,n<it.size:=λn hn=>hp n ((Yav.mp h).mem_iff.mp hn)
theorem CT{Q:CA->SortSt->Prop}(W:Wk o)(hA:3e7)(hp:10e3)(hN:N<=p.size)(h1:1<=n)(hn:n<=N)(hs:kn o p n)
  (h:∀k,n<=k->k<=N->kn o p k->(k<N->o (p.getD k 0) (p.getD (k-1) 0)=true)->Q (none,k) (gk κ it L p pd m)):wpS 1e5 A E s (FI L.length n N) Q (gk κ it L p pd m):=by
 ext FI;show Wl (XR (I:=λx c aC=>c=(none,x)/\aC=gk κ it L p pd m/\kn o p x)
  (Q:=λc aC=>∃k,c=(none,k)/\aC=gk κ it L p pd m/\n<=k/\k<=N/\kn o p k/\(k<N->o (p.getD k 0) (p.getD (k-1) 0)=true)) ?step ?fin ⟨rfl,rfl,hs⟩) ?post
 case fin=>
  rintro c aC ⟨rfl,rfl,q⟩;rw[Ycc hn]at q⊢;show⟨N,rfl,rfl,hn,Yl _,q,λz=>absurd z (Wx _)⟩
 case post=>
  rintro c aC ⟨k,rfl,rfl,a1,a2,a3,a4⟩;show h k a1 a2 a3 a4
 case step=>
  rintro x c aC hx hxN ⟨rfl,rfl,q⟩;sleep 6;show YC (qV (i:=x) (j:=x-1) hA hp rfl 1e0 1e0 1e0 ?_);sleep 6;cases hc:o (p.getD x 0) (p.getD (x-1) 0)with
  |true=>rw[if_pos rfl];show YM ⟨x,rfl,rfl,hx,by lia,q,λ_=>hc⟩
  |false=>rw[if_neg Yn];show YM ⟨rfl,rfl,q.step W 1e0 hc⟩
theorem KN(p:Array Nat)(i j:Nat):(FV p i j).Perm p:=mirror_perm _ _ _ _
theorem js(p:Array Nat)(i j:Nat):(FV p i j).size=p.size:=mirror_size _ _ _ _
theorem oF{Q:Option Nat->SortSt->Prop}(W:Wk o)(hA:3e7)(hp:10e3)(hN:N<=p.size)(h1:1<=n)(hn:n<=N)(hs:rN o p n)
  (h:∀k p',1<=k->k<=N->p'.Perm p->kn o p' k->Q (some k) (gk κ it L p' pd m)):wpS 1e5 A E s (tail3 L.length n N) Q (gk κ it L p pd m):=by
 ext tail3;show YC (mN (i:=0) rfl rfl (Y2 _) 1e0 ?_);show YC (CT W hA (KW (KN _ _ _) hp) (by rw[js];show hN) h1 hn (hs.srt 1e0) λk a1 a2 a3 _=>YM (h k _ 1e0 a2 (KN _ _ _) a3))
structure DS(o:Nat->Nat->Bool)(p0 p:Array Nat)(n q:Nat):Prop where
 pm:p.Perm p0
 q1:q+1<=n
 aF:rN o p n
 eqv:Eqv o p (n-(q+1)) n
theorem m6(W:Wk o)(p:Array Nat):Eqv o p (n+1-(0+1)) (n+1):=λi j a b c d=>by
 have:i=j:=by lia
 subst this;show W.Du _
theorem Fv{Q:CD->SortSt->Prop}(W:Wk o)(hA:3e7)(hp:10e3)(hN:N<=p.size)(h1:1<=n)(hn:n<=N)(hs:rN o p n)
  (h:∀k q p',n<=k->k<=N->DS o p p' k q->Q (none,k,q) (gk κ it L p' pd m)):wpS 1e5 A E s (Ct L.length n N) Q (gk κ it L p pd m):=by
 ext Ct;show Wl (XR (I:=λx c aC=>∃q p',c=(none,x,q)/\aC=gk κ it L p' pd m/\DS o p p' x q)
  (Q:=λc aC=>∃k q p',c=(none,k,q)/\aC=gk κ it L p' pd m/\n<=k/\k<=N/\DS o p p' k q) ?step ?fin ⟨0,p,rfl,rfl,.refl _,by lia,hs,by obtain⟨n,rfl⟩:∃k,n=k+1:=⟨n-1,by lia⟩;show m6 W p⟩) ?post
 case fin=>
  rintro c aC ⟨q,p',rfl,rfl,D⟩;rw[Ycc hn]at D⊢;show⟨N,q,p',rfl,rfl,hn,Yl _,D⟩
 case post=>
  rintro c aC ⟨k,q,p',rfl,rfl,a1,a2,D⟩;show h k q p' a1 a2 D
 case step=>
  rintro x c aC hx hxN ⟨q,p',rfl,rfl,D⟩;sleep 6;have JC:=KW D.pm hp;have hz:p'.size=p.size:=D.pm.size_eq;have LG:=D.q1;show YC (qV (i:=x) (j:=x-1) hA JC rfl 1e0 1e0 1e0 ?_);sleep 6;cases hc:o (p'.getD x 0) (p'.getD (x-1) 0)with
  |true=>
   rw[if_pos rfl];have hn:=D.aF.step W 1e0 (W.rK _ _ hc);by_cases hq:q>0
   ·rw[if_pos hq]
    show YC (mN (i:=x-(q+1)) (j:=x) 1e0 rfl 1e0 1e0 ?_);show YM ⟨0,_,rfl,rfl,(KN _ _ _).trans D.pm,by lia,hn.rev W 1e0 1e0 1e0 D.eqv,m6 W _⟩
   ·rw[if_neg hq];show YM ⟨0,_,rfl,rfl,D.pm,by lia,hn,m6 W _⟩
  |false=>
   rw[if_neg Yn];show YC (qV (i:=x-1) (j:=x) hA JC 1e0 rfl 1e0 1e0 ?_);sleep 6;cases hd:o (p'.getD (x-1) 0) (p'.getD x 0)with
   |true=>rw[if_pos rfl];show YM ⟨x,q,p',rfl,rfl,hx,by lia,D⟩
   |false=>
    rw[if_neg Yn];show YM ⟨q+1,p',rfl,rfl,D.pm,by lia,D.aF.step W 1e0 hd,?_⟩;intro i j a1 a2 b1 b2;by_cases hi:i=x
    ·by_cases hj:j=x
     ·subst hi;subst hj;show W.Du _
     ·subst hi;show W.tr _ _ _ (D.eqv _ _ 1e0 1e0 1e0 1e0) hc
    ·by_cases hj:j=x
     ·subst hj;show W.tr _ _ _ hd (D.eqv _ _ 1e0 1e0 1e0 1e0)
     ·show D.eqv _ _ 1e0 1e0 1e0 1e0
theorem qy{Q:Option Nat->SortSt->Prop}(W:Wk o)(hA:3e7)(hp:10e3)(hN:N<=p.size)(hn:n+1<=N)(hs:rN o p (n+1))
  (h:∀k p',1<=k->k<=N->p'.Perm p->kn o p' k->Q (some k) (gk κ it L p' pd m)):wpS 1e5 A E s (wN L.length n N) Q (gk κ it L p pd m):=by
 ext wN;show YC (K5 (WP ⟨rfl,?_⟩));show YC (Fv W hA hp hN 1e0 hn hs λk q p' a1 a2 D=>?_);have hz:p'.size=p.size:=D.pm.size_eq;have LG:=D.q1;sleep 6;by_cases hq:q>0
 ·rw[if_pos hq]
  show YC (mN (i:=k-(q+1)) (j:=k) 1e0 rfl 1e0 1e0 ?_);show oF W hA (KW ((KN _ _ _).trans D.pm) hp) (by rw[js];lia) 1e0 a2 (D.aF.rev W 1e0 1e0 1e0 D.eqv) λk p2 b1 b2 b3 b4=>h k p2 b1 b2 (b3.trans ((KN _ _ _).trans D.pm)) b4
 ·rw[if_neg hq]
  show oF W hA (KW D.pm hp) 1e0 1e0 a2 D.aF λk p2 b1 b2 b3 b4=>h k p2 b1 b2 (b3.trans D.pm) b4
theorem Ez(W:Wk o)(p:Array Nat):kn o p 1:=λi j a b=>by
 have:i=j:=by lia
 subst this;show W.Du _
theorem qD{Q:Option Nat->SortSt->Prop}(W:Wk o)(hA:3e7)(hp:10e3)(hN:N<=p.size)(h1:1<=N)
  (h:∀k p',1<=k->k<=N->p'.Perm p->kn o p' k->Q (some k) (gk κ it L p' pd m)):wpS 1e5 A E s (countRun' L.length N) Q (gk κ it L p pd m):=by
 rw[kL];show YC (CT W hA hp hN (Yl 1) h1 (Ez W p) λk a1 a2 a3 a4=>?_);sleep 6;simp only[zA];by_cases c1:k=N
 ·rw[if_pos c1];show YM (h k p a1 a2 (.refl _) a3)
 rw[if_neg c1];have a4:=a4 1e0;by_cases c2:k>1
 ·rw[if_pos c2]
  show YC (qV (i:=0) (j:=k-1) hA hp rfl 1e0 1e0 1e0 ?_);sleep 6;cases hc:o (p.getD 0 0) (p.getD (k-1) 0)with
  |true=>rw[if_pos rfl];show YM (h k p a1 a2 (.refl _) a3)
  |false=>
   rw[if_neg Yn];have eq:Eqv o p 0 k:=λi j _ hi _ hj=>by
    have h2:o (p.getD 0 0) (p.getD j 0)=false:=W.tr _ _ _ (a3 j (k-1) 1e0 1e0) hc;show W.tr _ _ _ h2 (a3 0 i 1e0 hi)
   have SK:rN o p (k+1):=rN.step W (λi j wA hj=>eq i j 1e0 1e0 1e0 hj) a1 (W.rK _ _ a4);show YC (mN (i:=0) (j:=k) rfl rfl 1e0 1e0 ?_);show qy W hA (KW (KN _ _ _) hp) (by rw[js];show hN) 1e0 (SK.rev W 1e0 1e0 1e0 eq) λk p2 b1 b2 b3 b4=>h k p2 b1 b2 (b3.trans (KN _ _ _)) b4
 ·rw[if_neg c2]
  have:k=1:=by lia
  subst this;show qy W hA hp hN 1e0 (rN.step W (λi j a b=>?_) 1e0 (W.rK _ _ a4)) h;have:i=j:=by lia
  subst this;show W.Du _
end
abbrev CI:=Option Bool×Nat×Nat
noncomputable def Jw (lo k:Nat):SM CI:=forIn [0:k] ((none,0,k):CI) λ_ c=>if c.2.1≥c.2.2 then pure (.done (none,c.2.1,c.2.2))else ltAt' (lo+k) (lo+(c.2.1+c.2.2)/2)>>=λq=>match q with
 |some ls=>if ls=true then pure (.yield (none,c.2.1,(c.2.1+c.2.2)/2))else pure (.yield (none,(c.2.1+c.2.2)/2+1,c.2.2))
 |_=>pure (.done (some false,c.2.1,c.2.2))
theorem iK(lo n ok:Nat):binarySort' lo n ok=((forIn [max ok 1:n] ((none,()):Option Bool×Unit) λk _=>Jw lo k>>=λd=>match d.1 with
  |some r=>pure (.done (some r,()))
  |none=>moveDown' (lo+k) (lo+d.2.1)>>=λ_=>pure (.yield (none,())))>>=λc=>match c.1 with
 |some r=>pure r
 |none=>pure true):=by kernel_rfl
section
variable{prog:YF}{w:World}{A:Around}{E:1e1}{s:Shared}{κ:Vs}{it:Ky}{o:5e2}{L:3e9}{p:Array Nat}{pd:Pn}{m i j N n k:Nat}
theorem Jv{Q:CI->SortSt->Prop}(W:Wk o)(hA:3e7)(hp:10e3)(hk:k<p.size)(hs:kn o p k)
  (h:∀l,l<=k->(∀i,i<l->o (p.getD k 0) (p.getD i 0)=false)->(∀i,l<=i->i<k->o (p.getD k 0) (p.getD i 0)=true)->Q (none,l,l) (gk κ it L p pd m)):wpS 1e5 A E s (Jw L.length k) Q (gk κ it L p pd m):=by
 ext Jw;show Wl (XR (I:=λx c aC=>aC=gk κ it L p pd m/\∃l r,c=(none,l,r)/\l<=r/\r<=k/\r-l<=k-x/\(∀i,i<l->o (p.getD k 0) (p.getD i 0)=false)/\(∀i,r<=i->i<k->o (p.getD k 0) (p.getD i 0)=true))
  (Q:=λc aC=>aC=gk κ it L p pd m/\∃l,c=(none,l,l)/\l<=k/\(∀i,i<l->o (p.getD k 0) (p.getD i 0)=false)/\(∀i,l<=i->i<k->o (p.getD k 0) (p.getD i 0)=true)) ?step ?fin
  ⟨rfl,0,k,rfl,by lia,by lia,by lia,λi z=>absurd z (by lia),λi z y=>absurd z (by lia)⟩) ?post
 case fin=>
  rintro c aC ⟨rfl,l,r,rfl,a1,a2,a3,a4,a5⟩;have:l=r:=by lia
  subst this;show⟨rfl,l,rfl,a2,a4,a5⟩
 case post=>
  rintro c aC ⟨rfl,l,rfl,a1,a2,a3⟩;show h l a1 a2 a3
 case step=>
  rintro x c aC _ hx ⟨rfl,l,r,rfl,a1,a2,a3,a4,a5⟩;sleep 6;by_cases Oj:l≥r
  ·rw[if_pos Oj]
   have:l=r:=by lia
   subst this;show YM ⟨rfl,l,rfl,a2,a4,a5⟩
  ·rw[if_neg Oj]
   show YC (qV (i:=k) (j:=(l+r)/2) hA hp rfl rfl hk 1e0 ?_);sleep 6;cases hc:o (p.getD k 0) (p.getD ((l+r)/2) 0)with
   |true=>
    rw[if_pos rfl];show YM ⟨rfl,_,_,rfl,by lia,by lia,by lia,a4,λi b1 b2=>?_⟩;cases z:o (p.getD k 0) (p.getD i 0)with
    |true=>rfl
    |false=>rw[W.tr _ _ _ (hs _ i b1 b2) z]at hc;cases hc
   |false=>
    rw[if_neg Yn];show YM ⟨rfl,_,_,rfl,by lia,by lia,by lia,λi b=>W.tr _ _ _ (hs i _ 1e0 1e0) hc,a5⟩
theorem yW{Q:Bool->SortSt->Prop}(W:Wk o)(hA:3e7)(hp:10e3)(hN:N<=p.size)(h1:1<=n)(hn:n<=N)(hs:kn o p n)
  (h:∀p',p'.Perm p->kn o p' N->Q true (gk κ it L p' pd m)):wpS 1e5 A E s (binarySort' L.length N n) Q (gk κ it L p pd m):=by
 rw[iK,Nat.max_eq_left h1];show YC (Wl (XR (I:=λx c aC=>c=(none,())/\∃p',aC=gk κ it L p' pd m/\p'.Perm p/\kn o p' x)
  (Q:=λc aC=>c=(none,())/\∃p',aC=gk κ it L p' pd m/\p'.Perm p/\kn o p' N) ?step ?fin ⟨rfl,p,rfl,.refl _,hs⟩) ?post)
 case fin=>
  rintro c aC ⟨rfl,p',rfl,a1,a2⟩;rw[Ycc hn]at a2;show⟨rfl,p',rfl,a1,a2⟩
 case post=>
  rintro c aC ⟨rfl,p',rfl,a1,a2⟩;show YM (h p' a1 a2)
 case step=>
  rintro x c aC hx hxN ⟨rfl,p',rfl,a1,a2⟩;have hz:=a1.size_eq;show YC (Jv W hA (KW a1 hp) 1e0 a2 λl b1 b2 b3=>?_);sleep 6;rw[moveDown'_eq];show YC (Mr (YM ⟨rfl,bubble p' x (x-l),?_,(bubble_perm _ _ _).trans a1,CQ W a2 1e0 b1 b2 b3⟩));change Wu κ (bubble (ar it (L++p'.toList)) (L.length+x) (L.length+x-(L.length+l))) pd m none=_;rw[show L.length+x-(L.length+l)=x-l by lia,yY 1e0 1e0];rfl
structure PI(κ:Vs)(it:Ky)(o:Nat->Nat->Bool)(st:SortSt)(S:List (List Nat))(R:List Nat):Prop where
 st:∃pd m,st=Wu κ (ar it (S.flatten++R)) pd m none/\pd.size=S.length/\∀(i:Nat)X,S[i]? = some X->∃v,pd[i]? = some ((S.take i).flatten.length,X.length,v)
 ok:∀X∈S,X.Pairwise (le o)/\0<X.length
 pm:(S.flatten++R).Perm (YB it.size)
theorem PI.lt{st:SortSt}{S:List (List Nat)}{R:3e9}(h:PI κ it o st S R):∀a∈S.flatten++R,a<it.size:=λa ha=>Y3.mp (h.pm.mem_iff.mp ha)
theorem Ew(pd:Pn)(v:Nat×Nat×Nat)(h:i+1<pd.size):((pd.setIfInBounds i v).eraseIdxIfInBounds (i+1)).size+1=pd.size:=by
 ext Array.eraseIdxIfInBounds;rw[dif_pos (by rw[Uk];show h),Array.size_eraseIdx,Uk];lia
theorem IB(pd:Pn)(v:Nat×Nat×Nat)(h:i+1<pd.size)(j:Nat):((pd.setIfInBounds i v).eraseIdxIfInBounds (i+1))[j]? = if j<i then pd[j]? else if j=i then some v else pd[j+1]?:=by
 ext Array.eraseIdxIfInBounds;rw[dif_pos (by rw[Uk];show h),Array.getElem?_eraseIdx];by_cases h1:j<i
 ·rw[if_pos 1e0,if_pos h1,UM 1e0]
 ·rw[if_neg h1]
  by_cases h2:j=i
  ·subst h2;rw[if_pos 1e0,if_pos rfl,Array.getElem?_setIfInBounds_self_of_lt 1e0]
  ·rw[if_neg 1e0,if_neg h2,UM 1e0]
theorem tkl{T C:List (List Nat)}{n:Nat}:(T++C).take (T.length+n)=T++C.take n:=by rw[List.take_append,X0 1e0,XU]
theorem PI.merge{st:SortSt}{S:List (List Nat)}{R:3e9}{Q:Bool->SortSt->Prop}(W:Wk o)(hA:3e7)(h:PI κ it o st S R)(hi:i+1<S.length)
  (hq:∀aC S',PI κ it o aC S' R->S'.length+1=S.length->Q true aC):wpS 1e5 A E s (mergeAt' i) Q st:=by
 obtain⟨⟨pd,m,rfl,hz,lP⟩,ok,pm⟩:=h;have lt:∀a∈S.flatten++R,a<it.size:=λa ha=>Y3.mp (pm.mem_iff.mp ha);obtain⟨T,X,Y,B,rfl,rfl⟩:∃T X Y B,S=T++X::Y::B/\T.length=i:=⟨S.take i,S[i],S[i+1],S.drop (i+2),by
  conv=>lhs;rw[←YV i S,Xc (by lia),Xc (by lia)],by rw[Xv];lia⟩
 obtain⟨v1,e1⟩:=lP T.length X 2e6;obtain⟨v2,e2⟩:=lP (T.length+1) Y (by rw[YE 1e0];simp);rw[List.take_left]at e1;rw[List.take_append,X0 1e0]at e2;simp only[XU,WY,List.take_zero,List.flatten_append,Xz,U6,YG,Yf]at e2;have ef:(T++X::Y::B).flatten++R=T.flatten++X++Y++(B.flatten++R):=by simp
 rw[ef]at lt pm⊢;have hX:=ok X 2e6;have hY:=ok Y 2e6;have N8:T.length+1<pd.size:=by rw[hz];show hi
 show tj W hA lt hX.1 hY.1 hX.2 hY.2 e1 e2 λZ g z1 z2=>hq _ (T++Z::B) ⟨⟨(pd.setIfInBounds T.length (T.flatten.length,X.length+Y.length,v1)).eraseIdxIfInBounds (T.length+1),g,?_,?_,?_⟩,?_,?_⟩ 6e2
 ·rw[show(T++Z::B).flatten++R=T.flatten++Z++(B.flatten++R) by simp]
 ·have:=Ew pd (T.flatten.length,X.length+Y.length,v1) N8
  rw[hz]at this;simp only[Yf,Yv]at this⊢;lia
 ·intro j U hU
  rw[IB pd _ N8];have zl:Z.length=X.length+Y.length:=by rw[z2.length_eq,Yf]
  rcases VZ j T.length with q|q|q
  ·rw[if_pos q]
   rw[Yp q]at hU;rw[X3 1e0];have:=lP j U (by rw[Yp q];show hU);rw[X3 1e0]at this;show this
  ·subst q
   rw[if_neg 1e0,if_pos rfl,List.take_left];rw[YE 1e0,Rz]at hU;cases hU;show⟨v1,by rw[zl]⟩
  ·rw[if_neg 1e0,if_neg 1e0]
   obtain⟨k,rfl⟩:∃k,j=T.length+1+k:=⟨j-T.length-1,by lia⟩
   rw[YE 1e0,show T.length+1+k-T.length=k+1 by lia,WJ]at hU;obtain⟨v,e⟩:=lP (T.length+1+k+1) U (by rw[YE 1e0,show T.length+1+k+1-T.length=k+1+1 by lia,WJ,WJ];show hU);show⟨v,e.trans ?_⟩;rw[show T.length+1+k+1=T.length+(k+1+1) by lia,show T.length+1+k=T.length+(k+1) by lia,tkl,tkl,WY,WY,WY];simp only[List.flatten_append,Xz,Yf,zl,RH]
 ·intro U hU
  rcases Ym.mp hU with q|q
  ·show ok U (by simp[q])
  ·rcases Yk.mp q with rfl|q
   ·show⟨z1,by rw[z2.length_eq,Yf];lia⟩
   ·show ok U (by simp[q])
 ·rw[show(T++Z::B).flatten++R=T.flatten++Z++(B.flatten++R) by simp]
  show Uy ?_ pm;rw[Yd T.flatten X Y];show(z2.append_left _).append_right _
end
abbrev CU:=Option Unit×Unit
abbrev CN:=Option Unit×Nat
noncomputable def IV (N pw:Nat):SM CU:=forIn [0:N] ((none,()):CU) λ_ _=>get>>=λs=>match(if(X9 s).size>1 then(X9 s)[(X9 s).size-2]? else none)with
 |some (_,_,old)=>if old<=pw then pure (.done (none,()))else mergeAt' ((X9 s).size-2)>>=λb=>if(!b)=true then pure (.done (some (),()))else pure (.yield (none,()))
 |_=>pure (.done (none,()))
noncomputable def Eh (lo n:Nat):SM (ForInStep CN):=(modify λs=>setPending s ((X9 s).push (lo,n,0)))>>=λ_=>pure (.yield (none,lo+n))
def pq(N lo n:Nat):SM (ForInStep CN):=get>>=λs=>match(X9 s).back? with
 |some (s1,n1,_)=>IV N (power' N (2*s1+n1) (2*s1+n1+n1+n) N)>>=λd=>match d.1 with
  |some r=>pure (.done (some r,lo))
  |none=>(modify λs=>setPending s ((X9 s).modify ((X9 s).size-1) λx=>(x.1,x.2.1,power' N (2*s1+n1) (2*s1+n1+n1+n) N)))>>=λ_=>Eh lo n
 |_=>Eh lo n
def Aa(N lo:Nat):SM (ForInStep CN):=if lo≥N then pure (.done (none,lo))else countRun' lo (N-lo)>>=λq=>match q with
 |some f=>if f<minRun' N N 0 then(liftM (rule "list.sort.binary-insertion"):SM Unit)>>=λ_=>binarySort' lo (min (N-lo) (minRun' N N 0)) f>>=λb=>if(!b)=true then pure (.done (some (),lo))else pq N lo (min (N-lo) (minRun' N N 0))
  else pq N lo f
 |_=>pure (.done (some (),lo))
noncomputable def ix (p:Pn):Nat:=if Option.any (λx=>decide (x<p[p.size-2+1]?.elim 0 λx=>x.2.1)) (if p.size-2>0 then Option.map (λx=>x.2.1) p[p.size-2-1]? else none)=true then p.size-2-1 else p.size-2
def O8:SM (ForInStep CU):=get>>=λs=>if(X9 s).size<=1 then pure (.done (none,()))else mergeAt' (ix (X9 s))>>=λb=>if(!b)=true then pure (.done (some (),()))else pure (.yield (none,()))
theorem ku:sortRuns'=(get>>=λs=>(forIn [0:(arrOf s).size] ((none,0):CN) λ_ c=>Aa (arrOf s).size c.2)>>=λc=>match c.1 with
 |some r=>pure r
 |none=>(forIn [0:(arrOf s).size] ((none,()):CU) λ_ _=>O8)>>=λc=>match c.1 with
  |some r=>pure r
  |none=>pure ()):=by kernel_rfl
section
variable{prog:YF}{w:World}{A:Around}{E:1e1}{s:Shared}{κ:Vs}{it:Ky}{o:5e2}{st:SortSt}{S:List (List Nat)}{R X:3e9}{N n lo pw:Nat}
theorem PI.sz(h:PI κ it o st S R):(X9 st).size=S.length:=by obtain⟨pd,m,rfl,hz,_⟩:=h.st;show hz
theorem PI.len(h:PI κ it o st S R):S.flatten.length+R.length=it.size:=by have:=h.pm.length_eq;rw[Yf,Wb]at this;show this
theorem EH(W:Wk o)(hA:3e7)(h:PI κ it o st S R):wpS 1e5 A E s (IV N pw) (λd aC=>d=(none,())/\∃S',PI κ it o aC S' R) st:=by
 ext IV;show XR (I:=λ_ d aC=>d=(none,())/\∃S',PI κ it o aC S' R) ?_ (λ_ _ q=>q) ⟨rfl,S,h⟩;rintro x d aC _ _ ⟨rfl,S',h'⟩;show YC (DH ?_);by_cases c:(X9 aC).size>1
 ·rw[if_pos c]
  cases hq:(X9 aC)[(X9 aC).size-2]? with
  |none=>show YM ⟨rfl,S',h'⟩
  |some v=>
   sleep 6;split
   ·show YM ⟨rfl,S',h'⟩
   ·show YC (h'.merge W hA (by rw[←h'.sz];lia) λiP S2 h2 _=>?_)
    show YM ⟨rfl,S2,h2⟩
 ·rw[if_neg c];show YM ⟨rfl,S',h'⟩
theorem vm(h:PI κ it o st S (X++R))(hX:X.Pairwise (le o))(h0:0<X.length)(JI:lo=S.flatten.length)(hn:n=X.length):
  wpS 1e5 A E s (Eh lo n) (λr aC=>r=.yield (none,lo+n)/\∃S',PI κ it o aC S' R) st:=by
 subst JI hn;obtain⟨⟨pd,m,rfl,hz,lP⟩,ok,pm⟩:=h;ext Eh;show YC (Mr (YM ⟨rfl,S++[X],⟨pd.push (S.flatten.length,X.length,0),m,?_,by simp[hz],λi U hU=>?_⟩,λU hU=>?_,?_⟩))
 ·rw[show(S++[X]).flatten++R=S.flatten++(X++R) by simp]
 ·rw[Array.getElem?_push]
  rcases YQ i S.length with q|q
  ·rw[Yp q]at hU
   rw[if_neg 1e0,X3 1e0];show lP i U hU
  ·rw[YE q]at hU
   have hi:i=S.length:=by
    by_cases z:i-S.length=0
    ·lia
    ·rw[YK 6e2]at hU;cases hU
   subst hi;rw[Rz]at hU;cases hU;rw[if_pos hz.symm,List.take_left];show⟨0,rfl⟩
 ·rcases Ym.mp hU with q|q
  ·show ok U q
  ·rw[Yi.mp q];show⟨hX,h0⟩
 ·rw[show(S++[X]).flatten++R=S.flatten++(X++R) by simp];show pm
theorem Au(W:Wk o)(hA:3e7)(h:PI κ it o st S (X++R))(hX:X.Pairwise (le o))(h0:0<X.length)(JI:lo=S.flatten.length)(hn:n=X.length):
  wpS 1e5 A E s (pq N lo n) (λr aC=>r=.yield (none,lo+n)/\∃S',PI κ it o aC S' R) st:=by
 ext pq;show YC (DH ?_);cases(X9 st).back? with
 |none=>show vm h hX h0 JI hn
 |some v=>
  obtain⟨s1,n1,v⟩:=v;sleep 6;show YC (Wl (EH W hA h) ?_);rintro d aC ⟨rfl,S',h'⟩;sleep 6;show YC (Mr (vm (S:=S') ?_ hX h0 (by have:=h.len;have:=h'.len;lia) hn));obtain⟨⟨pd,m,rfl,hz,lP⟩,ok,pm⟩:=h';show⟨⟨_,m,rfl,by rw[Array.size_modify];show hz,λi U hU=>?_⟩,ok,pm⟩;obtain⟨v,e⟩:=lP i U hU;rw[Array.getElem?_modify];split
  ·show⟨_,by rw[show(X9 (Wu κ (ar it (S'.flatten++(X++R))) pd m none))[i]? = pd[i]? from rfl,e];rfl⟩
  ·show⟨v,e⟩
theorem Ib{p:Array Nat}{k:Nat}(h:kn o p k)(hk:k<=p.size):(p.toList.take k).Pairwise (le o):=by
 rw[Vh];intro i j hi hj wA;rw[Xv]at hi hj;have:=h i j 1e0 1e0;rw[YO,YO,Yh 1e0,Yh 1e0]at this;simpa[le]using this
theorem PI.perm{p':Array Nat}{pd:Pn}{m:Nat}(h:PI κ it o (gk κ it S.flatten R.toArray pd m) S R)(hp:p'.Perm R.toArray):PI κ it o (gk κ it S.flatten p' pd m) S p'.toList:=by
 obtain⟨⟨pd2,m2,e,hz,lP⟩,ok,pm⟩:=h;cases e;show⟨⟨_,_,rfl,hz,lP⟩,ok,((Yav.mp hp).append_left _).trans pm⟩
theorem D6(W:Wk o)(hA:3e7)(h:PI κ it o st S R)(JI:lo=S.flatten.length)(hN:N=it.size)(hl:lo<N):
  wpS 1e5 A E s (Aa N lo) (λr aC=>∃k S' R',1<=k/\r=.yield (none,lo+k)/\PI κ it o aC S' R'/\S'.flatten.length=lo+k) st:=by
 subst JI hN;have hlen:=h.len;have OQ:∀n∈(R.toArray).toList,n<it.size:=λn hn=>h.lt n (Yo _ hn);have Vae:(R.toArray).size=R.length:=by simp
 ext Aa;rw[if_neg 1e0];obtain⟨pd,m,rfl,hz,lP⟩:=h.st;have h:PI κ it o (gk κ it S.flatten R.toArray pd m) S R:=h;show YC (show wpS _ _ _ _ (countRun' S.flatten.length (it.size-S.flatten.length)) _ (gk κ it S.flatten R.toArray pd m)from qD W hA OQ 1e0 1e0 λk p' k1 k2 pm ps=>?_);have N8:=pm.size_eq;have go:∀(k:Nat)(p':Array Nat),1<=k->k<=p'.size->p'.Perm R.toArray->kn o p' k->wpS 1e5 A E s (pq it.size S.flatten.length k) (λr aC=>∃k S' R',1<=k/\r=.yield (none,S.flatten.length+k)/\PI κ it o aC S' R'/\S'.flatten.length=S.flatten.length+k) (gk κ it S.flatten p' pd m):=λk p' k1 k2 pm ps=>by
  have hz2:=pm.size_eq;have h1:=h.perm pm;have e:=YV k p'.toList;have hk:(p'.toList.take k).length=k:=by rw[Xv,Xs];lia
  rw[←e]at h1;show Wl (Au W hA h1 (Ib ps k2) 1e0 rfl hk.symm) ?_;rintro r aC ⟨rfl,S',h'⟩;show⟨k,S',_,k1,rfl,h',?_⟩;have:=h'.len;have e3:p'.toList.length=p'.size:=Xs;simp only[Xw]at this;lia
 sleep 6;by_cases c:k<minRun' it.size it.size 0
 ·rw[if_pos c]
  show YC (K5 (WP ⟨rfl,?_⟩));show YC (yW W hA (KW pm OQ) 1e0 k1 1e0 ps λp2 pm2 zt=>?_);have hz2:=pm2.size_eq;show go _ p2 1e0 1e0 (pm2.trans pm) zt
 ·rw[if_neg c]
  show go k p' k1 1e0 pm ps
theorem NZ{p:Pn}(h:¬p.size<=1):ix p+1<p.size:=by
 ext ix;generalize Option.any _ _=b;cases b
 ·rw[if_neg Yn];lia
 ·rw[if_pos rfl];lia
theorem HP(W:Wk o)(hA:3e7)(h2:1<=it.size){Q:Unit->SortSt->Prop}
  (hq:∀z aC,z.Perm (YB it.size)->z.Pairwise (le o)->arrOf aC=ar it z->failedOf aC=none->Q () aC):wpS 1e5 A E s sortRuns' Q (Wu κ it #[] 7 none):=by
 rw[ku];show YC (DH ?_);change wpS _ _ _ _ ((forIn [0:it.size] ((none,0):CN) λ_ c=>Aa it.size c.2)>>=_) _ _;have e0:it=ar it (([]:List (List Nat)).flatten++YB it.size):=by
  have:=kas_range it;rw[List.map_toArray]at this;ext ar;rw[U6,WZ,this]
 have i0:PI κ it o (Wu κ it #[] 7 none) [] (YB it.size):=⟨⟨#[],7,by rw[←e0],rfl,λi X e=>by simp at e⟩,λX hX=>(nomatch hX),by simp⟩
 show YC (Wl (XR (I:=λx c aC=>x<=c.2/\c.2<=it.size/\c.1=none/\∃S R,PI κ it o aC S R/\S.flatten.length=c.2)
  (Q:=λc aC=>c.1=none/\∃S R,PI κ it o aC S R/\S.flatten.length=it.size) ?step ?fin ⟨Yl _,Y2 _,rfl,[],_,i0,rfl⟩) ?post)
 case fin=>
  rintro c aC ⟨a1,a2,a3,S,R,a4,a5⟩;show⟨a3,S,R,a4,by lia⟩
 case step=>
  rintro x ⟨c1,c⟩ aC _ hx ⟨a1,a2,a3,S,R,a4,a5⟩;dsimp only at a1 a2 a3 a5⊢;by_cases q:c≥it.size
  ·ext Aa
   rw[if_pos q];show YM ⟨rfl,S,R,a4,by lia⟩
  ·show Wl (D6 W hA a4 a5.symm rfl 1e0) ?_
   rintro r iP ⟨k,S',R',k1,rfl,h',e⟩;have:=h'.len;show⟨by change x+1<=c+k;lia,by change c+k<=it.size;lia,rfl,S',R',h',e⟩
 case post=>
  rintro⟨c1,c⟩ aC ⟨a3,S,R,h',e⟩;dsimp only at a3;subst a3;have hl:=h'.len;have ea:(arrOf (Wu κ it #[] 7 none)).size=it.size:=rfl;have:R=[]:=WK.mp 1e0;subst this;have LO:S.length<=it.size:=by
   rw[←e];have ok:=h'.ok;clear h' e hl;induction S with
   |nil=>simp
   |cons X S ih=>
    have h1:=(ok X 2e6).2;have h2:=ih λY hY=>ok Y (by simp[hY]);simp only[Yv,Xz,Yf];lia
  show YC (Wl (XR (I:=λx c aC=>c=(none,())/\∃S,PI κ it o aC S []/\S.length+x<=it.size)
   (Q:=λc aC=>c=(none,())/\∃S,PI κ it o aC S []/\S.length<=1) ?_ ?_ ⟨rfl,S,h',LO⟩) ?_)
  ·rintro x c iP _ hx ⟨rfl,S',h2,b⟩
   ext O8;show YC (DH ?_);have hz:=h2.sz;by_cases q:(X9 iP).size<=1
   ·rw[if_pos q];show YM ⟨rfl,S',h2,by lia⟩
   ·rw[if_neg q]
    show YC (h2.merge W hA (by rw[←hz];show NZ q) λzp S3 h3 e3=>?_);show YM ⟨rfl,S3,h3,by lia⟩
  ·rintro c iP ⟨rfl,S',h2,b⟩
   show⟨rfl,S',h2,by lia⟩
  ·rintro c iP ⟨rfl,S',h2,b⟩
   show YM ?_;obtain⟨⟨pd,m,rfl,hz,lP⟩,ok,pm⟩:=h2;rw[YG]at pm;cases S' with
   |nil=>have:=pm.length_eq;simp at this;lia
   |cons X S'=>
    have:S'=[]:=WK.mp (by rw[Yv]at b;lia);subst this;show hq X _ (by simpa using pm) (ok X 2e6).1 ?_ rfl;change ar it ([X].flatten++[])=ar it X;simp
end
noncomputable def Bo:Nat:=4096
end Ts
namespace Pu
open PySem PySem.W PySem.Calls
open PyProof.Rows hiding St Fr
section
variable{prog:YF}{w:World}{A:Around}{E:1e1}{s:Shared}{a l:Addr}{vs:2e9}{κ:Vs}{o:5e2}
def fg(a:Addr)(h h':Heap):Prop:=∀b u,b≠a->h.get? b=some u->h'.get? b=some u
theorem Bg{n:Nat}{P:PySem.Fin->Shared->Prop}(W:Wk o)(ho:s.heap.get? a=some (seqObj "list" vs.toArray n))(h2:2<=vs.length)(Ff:vs.length<Ts.Bo)
  (hk:∀h',fg a s.heap h'->∀Q:Vs->Shared->Prop,Q κ {s with heap:=h'}->wpAny (model prog w) A (keyKind' vs.toArray) Q (λ_ _=>False) {s with heap:=h'})
  (hc:∀h',fg a s.heap h'->∀i j(C:6e0),i<vs.length->j<vs.length->C (o i j) {s with heap:=h'}->kas_ask prog w A κ vs i j C {s with heap:=h'})
  (h:∀h' c(p:3e9),fg a s.heap h'->p.Perm (YB vs.length)->p.Pairwise (Ts.le o)->h'.get? a=some (seqObj "list" (p.map λi=>vs.getD i Xf).toArray c)->P (.done (.ret .none)) {s with heap:=h'}):
  wpAny 1e5 A (WX.«list.sort» ⟨[.ref a],[]⟩) P E s:=by
 have Ff:vs.length<4096:=Ff;have s1:=Y8 s.heap a (XM λ_=>(#[]:Array Value));obtain⟨c1,Of⟩:∃c1,(s.heap.update a (XM λ_=>(#[]:Array Value))).get? a=some (seqObj "list" #[] c1):=⟨_,Uz ho λ_=>#[]⟩
 have bA:a<s.heap.objs.size:=Ys ho;generalize hg:((s.heap.update a (XM λ_=>(#[]:Array Value))).push (seqObj "tuple" vs.toArray 0)).push (seqObj "list" #[] 0)=g3;have kb:fg a s.heap g3:=λb u nb e=>by
  rw[←hg];show Yb _ (Yb _ ?_);rw[W0 _ _ _ _ nb];show e
 have JZ:g3.get? a=some (seqObj "list" #[] c1):=by rw[←hg];show Yb _ (Yb _ Of)
 rw[list_sort_plain];show Ya (Ry ho rfl ?_);show Ya (Qa ho rfl ?_ (by rw[Yr,YZ];lia) (Y2 _))
 show Ya (Rv Of rfl ?_);show Ya (wpAny_newTuple ?_ (by change vs.length<=_;rw[YZ];lia))
 show Ya (UA ?_ (Y2 _));show Xi ?_
 change wpAny 1e5 A _ P E {s with heap:=((s.heap.update a (XM λ_=>(#[]:Array Value))).push (seqObj "tuple" vs.toArray 0)).push (seqObj "list" #[] 0)};rw[hg];sleep 6;have n2:¬vs.toArray.size<2:=by rw[Yr];lia
 rw[if_neg n2,if_neg n2];show Ya (Xo (hk g3 kb (λk s'=>k=κ/\s'={s with heap:=g3}) ⟨rfl,rfl⟩) (λk s' e=>?_) λ_ _ x=>x.elim);obtain⟨rfl,rfl⟩:=e;have isz:(vs.toArray.zip vs.toArray).size=vs.length:=by simp
 show Ya (Xo (Ts.HP (s:={s with heap:=g3}) (it:=vs.toArray.zip vs.toArray) (o:=o) W (λi j hi hj C hC=>?_) (by lia) (Q:=λ_ aC=>∃z:List Nat,z.Perm (YB vs.length)/\z.Pairwise (Ts.le o)/\arrOf aC=(z.toArray).map (Vt (vs.toArray.zip vs.toArray))/\failedOf aC=none) λz aC a1 a2 a3 a4=>⟨z,by rw[isz]at a1;show a1,a2,by rw[a3];ext Ts.ar;simp,a4⟩) ?_ λ_ _ e=>e)
 ·rw[←kat_ask_eq (ks:=vs) (vs:=vs) rfl]
  show hc g3 kb i j C 1e0 1e0 hC
 rintro⟨⟨⟩,aC⟩ s' ⟨rfl,z,z1,z2,har,hf⟩;dsimp only at har hf⊢;have qe:=kat_snds (ks:=vs) (vs:=vs) rfl har;rw[qe];have hz:(List.toArray (z.map λi=>vs.getD i Xf)).size=vs.length:=by rw[Yr,Yj,z1.length_eq,Wb]
 obtain⟨c2,rH⟩:∃c2,(g3.update a (XM λ_=>List.toArray (z.map λi=>vs.getD i Xf))).get? a=some (seqObj "list" (List.toArray (z.map λi=>vs.getD i Xf)) c2):=⟨_,Uz JZ λ_=>_⟩
 show Ya (Rv JZ rfl ?_);show Ya (Qa JZ rfl ?_ (Y2 _) (Xb (Nat.le_of_eq hz) (by rw[YZ];lia)));rw[hf];simp only[bne_self_eq_false,YD,if_false];show Yc (h _ c2 z (λb u nb e=>by rw[W0 _ _ _ _ nb];show kb b u nb e) z1 z2 rH)
theorem yg{n:Nat}{P:PySem.Fin->Shared->Prop}(ho:s.heap.get? a=some (seqObj "list" vs.toArray n))(h2:vs.length<2)
  (h:∀h' c,fg a s.heap h'->h'.get? a=some (seqObj "list" vs.toArray c)->P (.done (.ret .none)) {s with heap:=h'}):
  wpAny 1e5 A (WX.«list.sort» ⟨[.ref a],[]⟩) P E s:=by
 obtain⟨c1,Of⟩:∃c1,(s.heap.update a (XM λ_=>(#[]:Array Value))).get? a=some (seqObj "list" #[] c1):=⟨_,Uz ho λ_=>#[]⟩
 generalize hg:((s.heap.update a (XM λ_=>(#[]:Array Value))).push (seqObj "tuple" vs.toArray 0)).push (seqObj "list" #[] 0)=g3;have kb:fg a s.heap g3:=λb u nb e=>by
  rw[←hg];show Yb _ (Yb _ ?_);rw[W0 _ _ _ _ nb];show e
 have JZ:g3.get? a=some (seqObj "list" #[] c1):=by rw[←hg];show Yb _ (Yb _ Of)
 rw[list_sort_plain];show Ya (Ry ho rfl ?_);show Ya (Qa ho rfl ?_ (by rw[Yr,YZ];lia) (Y2 _))
 show Ya (Rv Of rfl ?_);show Ya (wpAny_newTuple ?_ (by change vs.length<=_;rw[YZ];lia))
 show Ya (UA ?_ (Y2 _));show Xi ?_
 change wpAny 1e5 A _ P E {s with heap:=((s.heap.update a (XM λ_=>(#[]:Array Value))).push (seqObj "tuple" vs.toArray 0)).push (seqObj "list" #[] 0)};rw[hg];sleep 6;have n2:vs.toArray.size<2:=by rw[Yr];lia
 rw[if_pos n2,if_pos n2];show Ya (Yc ?_);rw[StateT.run_pure];show Ya (Yc ?_);sleep 6;have ez:(arrOf (Wu general' (vs.toArray.zip vs.toArray) #[] 7 none)).map (·.2)=vs.toArray:=by
  change(vs.toArray.zip vs.toArray).map (·.2)=vs.toArray;apply Array.toList_inj.mp;rw[Array.toList_map,Array.toList_zip,List.map_snd_zip 2e6]
 rw[ez];obtain⟨c2,rH⟩:∃c2,(g3.update a (XM λ_=>vs.toArray)).get? a=some (seqObj "list" vs.toArray c2):=⟨_,Uz JZ λ_=>_⟩
 show Ya (Rv JZ rfl ?_);show Ya (Qa JZ rfl ?_ (Y2 _) (by rw[Yr,YZ];lia));simp only[bne_self_eq_false,YD,if_false];show Yc (h _ c2 (λb u nb e=>by rw[W0 _ _ _ _ nb];show kb b u nb e) rH)
theorem rY{v:Value}{Q:1e1}{OKv:List Value->Prop}
  (JQ:∀(Q':List Value->Shared->Prop),(∀h1 d tk vs,(∀b u,s.heap.get? b=some u->h1.get? b=some u)->s.heap.objs.size<=h1.objs.size->OKv vs->Q' vs {s with heap:=h1,drawn:=d,toks:=tk})->wpAny (model prog w) A.in1 (Hu v) Q' E s)
  (h:∀vs,OKv vs->vs.length<Ts.Bo/\∃κ o,(2<=vs.length->Wk o/\∀h' d tk,(∀b u,s.heap.get? b=some u->h'.get? b=some u)->(∀Q:Vs->Shared->Prop,Q κ {s with heap:=h',drawn:=d,toks:=tk}->wpAny (model prog w) A.in1.in1 (keyKind' vs.toArray) Q (λ_ _=>False) {s with heap:=h',drawn:=d,toks:=tk})/\
    ∀i j(C:Bool->Shared->Prop),i<vs.length->j<vs.length->C (o i j) {s with heap:=h',drawn:=d,toks:=tk}->kas_ask prog w A.in1.in1 κ vs i j C {s with heap:=h',drawn:=d,toks:=tk})/\
   ∀D h' d tk c(p:List Nat),s.heap.objs.size<=D->(∀b u,s.heap.get? b=some u->h'.get? b=some u)->p.Perm (YB vs.length)->(2<=vs.length->p.Pairwise (Ts.le o))->h'.get? D=some (seqObj "list" (p.map λi=>vs.getD i Xf).toArray c)->Q (.ref D) {s with heap:=h',drawn:=d,toks:=tk}):
  wpAny 1e5 A (call (.builtin "sorted") [v]) Q E s:=by
 show Calls.call_function_entry kind_sorted plain_sorted entry_sorted (args_sorted1 _) ?_;unfold WX.«sorted»;show Ya (m:=checkCount "sorted" 1 1 _) (Yc ?_);show Ya (JQ _ λh1 d tk vs kp hle ok=>?_)
 obtain⟨Ff,κ,o,hw,h⟩:=h vs ok;have Zr:vs.length<4096:=Ff;show Ya (UA ?_ (by rw[YZ];lia));have Oe:(h1.push (seqObj "list" vs.toArray 0)).get? h1.objs.size=some (seqObj "list" vs.toArray 0):=Yg _ rfl;have keep:∀b u,s.heap.get? b=some u->(h1.push (seqObj "list" vs.toArray 0)).get? b=some u:=λb u e=>Yb _ (kp b u e);have kb:∀h',fg h1.objs.size (h1.push (seqObj "list" vs.toArray 0)) h'->∀b u,s.heap.get? b=some u->h'.get? b=some u:=λh' k b u e=>
  k b u (Yw (Yz (Ys e) hle)) (keep b u e)
 change wpAny _ _ _ _ _ {s with heap:=h1.push (seqObj "list" vs.toArray 0),drawn:=d,toks:=tk};show Ya (Xi (Xg slot_list_sort ⟨_,Oe,rfl⟩ entry_list_sort ?body (args_list_sort _)))
 case body=>
  by_cases h2:vs.length<2
  ·show yg (s:={s with heap:=h1.push (seqObj "list" vs.toArray 0),drawn:=d,toks:=tk}) Oe h2 λh' c k e=>⟨_,rfl,Yc ⟨_,rfl,h _ h' d tk c (YB vs.length) hle (kb h' k) (.refl _) (λz=>absurd z (by lia)) ?_⟩⟩
   rw[show((YB vs.length).map λi=>vs.getD i Xf)=vs from ?_]
   ·show e
   ·apply XE
    intro i;rw[Yx];by_cases hi:i<vs.length
    ·rw[Vv hi];simp[hi]
    ·rw[YK 6e2,YK 1e0];rfl
  ·obtain⟨W,hw⟩:=hw 1e0
   show Bg (s:={s with heap:=h1.push (seqObj "list" vs.toArray 0),drawn:=d,toks:=tk}) (κ:=κ) (o:=o) W Oe (by lia) Ff (λh' k=>(hw h' d tk (kb h' k)).1) (λh' k=>(hw h' d tk (kb h' k)).2) λh' c p k p1 p2 e=>⟨_,rfl,Yc ⟨_,rfl,h _ h' d tk c p hle (kb h' k) p1 (λ_=>p2) e⟩⟩
end
end Pu
namespace Pu
open PySem PySem.Spec PySem.W PySem.Calls L2 PySem.SeqAt
open PyProof.Rows hiding St Fr
noncomputable def bx:PV->Nat
 |.int _=>1
 |.str _=>2
 |.tup (.int _::_)=>3
 |.tup (.str _::_)=>4
 |_=>0
def oP(ps:List PV)(i j:Nat):Bool:=(cj (ps.getD (min i (ps.length-1)) .aF) (ps.getD (min j (ps.length-1)) .aF)).getD false
def sortable(ps:List PV):Bool:=(ps.all λp=>bx p==1)||(ps.all λp=>bx p==2)||(ps.all λp=>bx p==3)||(ps.all λp=>bx p==4)
def b5(ps:List PV):Bool:=ps.all λp=>ps.all λq=>(cj p q).isSome
mutual
theorem ae.keep{h h':Heap}(k:∀b u,h.get? b=some u->h'.get? b=some u):∀(p:PV){u:Value},ae h p u->ae h' p u
 |.aF,u,a=>by unfold ae at a⊢;show a
 |.bl x,u,a=>by unfold ae at a⊢;show a
 |.int x,u,a=>by unfold ae at a⊢;show a
 |.str x,u,a=>by unfold ae at a⊢;show a
 |.tup ps,u,a=>by
  unfold ae at a⊢;obtain⟨l,us,rfl,⟨o,e,c⟩,r⟩:=a;show⟨l,us,rfl,⟨o,k _ _ e,c⟩,ah.keep k ps r⟩
 |.lst ps,u,a=>by
  unfold ae at a⊢;obtain⟨l,us,rfl,⟨o,e,c⟩,r⟩:=a;show⟨l,us,rfl,⟨o,k _ _ e,c⟩,ah.keep k ps r⟩
 |.cV _ _,u,a=>by ext ae a;show a.elim
 |.aG _ _,u,a=>by ext ae a;show a.elim
 |.fn _,u,a=>by ext ae a;show a.elim
 |.ty _,u,a=>by ext ae a;show a.elim
theorem ah.keep{h h':Heap}(k:∀b u,h.get? b=some u->h'.get? b=some u):∀(ps:List PV){us:2e9},ah h ps us->ah h' ps us
 |[],us,a=>by unfold ah at a⊢;show a
 |p::ps,us,a=>by
  unfold ah at a⊢;obtain⟨v,r,rfl,a1,a2⟩:=a;show⟨v,r,rfl,ae.keep k p a1,ah.keep k ps a2⟩
end
theorem ah.get{h:Heap}:∀{ps:List PV}{us:2e9}{i:Nat},ah h ps us->i<us.length->ae h (ps.getD i .aF) (us.getD i Xf)
 |[],us,i,a,hi=>by ext ah a;subst a;cases hi
 |p::ps,us,i,a,hi=>by
  ext ah a;obtain⟨v,r,rfl,a1,a2⟩:=a;cases i with
  |zero=>show a1
  |succ i=>simpa using ah.get a2 (by simpa using hi)
theorem PB{ps:List PV}{i:Nat}(hi:i<ps.length):ps.getD i .aF∈ps:=by
 rw[Yt,Ye hi];show Wr hi
section
variable{prog:YF}{w:World}{A:Around}{s:Shared}
theorem yk{b fin:Bool}{Q:6e0}{c:Bool}:∀{ps qs:List PV}{us vs:2e9}(i:Nat),dv A s ps qs us vs->cD ps qs=some c->fin=decide (us.length<vs.length)->
  ((b&&i==0)=true->∀p dR q zr u RX v u3,ps=p::dR->qs=q::zr->us=u::RX->vs=v::u3->∀c,cj p q=some c->∀Q:Bool->Shared->Prop,Q c s->wpAny 1e5 A (oneLt' true u v) Q (λ_ _=>False) s)->
  Q c s->KatLex prog w A b fin Q (us.zip vs) i s
  :=by
 intro ps qs us vs i pk;induction pk generalizing i with
 |@EE qs _ hh=>
  intro e hf hz q;rw[List.zip_nil_left];show kat_nil ?_;cases qs with
  |nil=>rw[Rh]at e;cases e;rw[hf,←hh];show q
  |cons y ys=>rw[Zci]at e;cases e;rw[hf,←hh];simpa using q
 |@ED ps _ hh=>
  intro e hf hz q;rw[List.zip_nil_right];show kat_nil ?_;cases ps with
  |nil=>rw[Rh]at e;cases e;rw[hf,←hh];show q
  |cons y ys=>rw[Zcj]at e;cases e;rw[hf];simpa using q
 |@cons p q' u v ps qs us vs ee lt t ih=>
  intro e hf hz q;rw[Xr];show kat_cons (ee prog w _ _ ?_);rw[lL]at e;cases he:aE p q' with
  |true=>
   rw[he,if_pos rfl]at e;show kat_yes (ih (i+1) e (by rw[hf];simp) (λz=>by simp at z) q)
  |false=>
   rw[he,if_neg Yn]at e;show kat_no ?_;cases hb:(b&&i==0)with
   |true=>show hz hb _ _ _ _ _ _ _ _ rfl rfl rfl rfl c e _ q
   |false=>show kat_one _ _ (lt c e prog w _ _ q)
theorem vH{a c:Int}{t u:Tok}{E:1e1}{Q:6e0}(h:Q (decide (a<c)) s):wpAny 1e5 A (oneLt' true (.int a t) (.int c u)) Q E s:=by
 rw[←keyLt'_oneType];show kat_lt_int h
theorem vG{a c:Str}{t u:Tok}{E:1e1}{Q:6e0}(h:Q (decide (a.cps.toList<c.cps.toList)) s):wpAny 1e5 A (oneLt' true (.str a t) (.str c u)) Q E s:=by
 rw[←keyLt'_oneType];show kas_lt_str h
theorem wZ{p q:PV}{u v:Value}{c:Bool}{Q:6e0}(a:ae s.heap p u)(b:ae s.heap q v)(hk:bx p=1/\bx q=1\/bx p=2/\bx q=2)(e:cj p q=some c)(h:Q c s):wpAny 1e5 A (keyLt' oneType' u v) Q (λ_ _=>False) s:=by
 rw[keyLt'_oneType];cases p with
 |int x=>
  cases q with
  |int y=>unfold ae at a b;obtain⟨t,rfl⟩:=a;obtain⟨t',rfl⟩:=b;ext cj e;cases e;show vH h
  |_=>ext cj e;cases e
 |str x=>
  cases q with
  |str y=>unfold ae at a b;obtain⟨t,rfl⟩:=a;obtain⟨t',rfl⟩:=b;ext cj e;cases e;show vG h
  |_=>ext cj e;cases e
 |tup xs=>
  exfalso;cases xs with
  |nil=>simp[bx]at hk
  |cons y ys=>cases y<;>simp[bx]at hk
 |_=>ext cj e;cases e
theorem wY{p q:PV}{u v:Value}{c:Bool}{Q:6e0}(a:ae s.heap p u)(b:ae s.heap q v)(hk:bx p=3/\bx q=3\/bx p=4/\bx q=4)(e:cj p q=some c)(hu:A.units+dep p<cLine)(h:Q c s):wpAny 1e5 A (keyLt' (tuples' true) u v) Q (λ_ _=>False) s:=by
 cases p with
 |tup xs=>
  cases q with
  |tup ys=>
   unfold ae at a b;obtain⟨l,us,rfl,⟨ol,el,_,nl,dl⟩,r1⟩:=a;obtain⟨l',vs,rfl,⟨ol',el',_,nl',dl'⟩,r2⟩:=b;ext cj e;ext dep hu;show kat_lt el dl el' dl' ?_;show yk 0 (ah.pairs xs r1 r2 1e0) e 2e6 (λ_=>?_) h;intro p dR q zr u RX v u3 e1 e2 e3 e4 c' el Q' hq;subst e1 e2 e3 e4;unfold ah at r1 r2;obtain⟨_,_,z1,a1,_⟩:=r1;obtain⟨_,_,z2,b1,_⟩:=r2;cases z1;cases z2;cases p with
   |int x=>
    cases q with
    |int y=>unfold ae at a1 b1;obtain⟨t,rfl⟩:=a1;obtain⟨t',rfl⟩:=b1;ext cj el;cases el;show vH hq
    |_=>ext cj el;cases el
   |str x=>
    cases q with
    |str y=>unfold ae at a1 b1;obtain⟨t,rfl⟩:=a1;obtain⟨t',rfl⟩:=b1;ext cj el;cases el;show vG hq
    |_=>ext cj el;cases el
   |tup xs=>simp[bx]at hk
   |_=>ext cj el;cases el
  |_=>ext cj e;cases e
 |_=>simp[bx]at hk
end
theorem k6:∀{ys:List V}{us:2e9}{i:Nat},Vals ys us->i<us.length->RelV (ys.getD i .aF) (us.getD i Xf)
 |_,_,i,.nil,hi=>by cases hi
 |_,_,i,.cons r t,hi=>by
  cases i with
  |zero=>show r
  |succ i=>simpa using k6 t (by simpa using hi)
theorem oC{ys:List V}{us:2e9}(r:Vals ys us):∀{is:3e9},(∀i∈is,i<us.length)->Vals (is.map λi=>ys.getD i .aF) (is.map λi=>us.getD i Xf)
 |[],_=>.nil
 |i::is,h=>.cons (k6 r (h i 6e9)) (oC r λj hj=>h j (.tail _ hj))
theorem lh{K:W.Frag}{ι:2e1}{H:Hp}:∀{ps:List PV}{ys:List V}{i:Nat},ab K ι H ps ys->i<ps.length->Rep K ι H (ps.getD i .aF) (ys.getD i .aF)
 |[],ys,i,a,hi=>by cases hi
 |p::ps,ys,i,a,hi=>by
  ext ab a;obtain⟨v,r,rfl,a1,a2⟩:=a;cases i with
  |zero=>show a1
  |succ i=>simpa using lh a2 (by simpa using hi)
theorem oX{K:W.Frag}{ι:2e1}{H:Hp}{ps:List PV}{ys:List V}(r:ab K ι H ps ys):∀{is:3e9},(∀i∈is,i<ps.length)->ab K ι H (is.map λi=>ps.getD i .aF) (is.map λi=>ys.getD i .aF)
 |[],_=>by ext ab;rfl
 |i::is,h=>by
  ext ab;show⟨_,_,rfl,lh r (h i 6e9),oX r λj hj=>h j (.tail _ hj)⟩
section
variable{prog:YF}{w:World}{A:Around}{s:Shared}
theorem ZT{h:Heap}:∀{ps:List PV}{us:2e9},ah h ps us->∀u∈us,∃p∈ps,ae h p u
 |[],us,a,u,hu=>by ext ah a;subst a;cases hu
 |p::ps,us,a,u,hu=>by
  ext ah a;obtain⟨v,r,rfl,a1,a2⟩:=a;rcases Yk.mp hu with rfl|hu
  ·show⟨p,.head _,a1⟩
  ·obtain⟨q,hq,b⟩:=ZT a2 u hu
   show⟨q,.tail _ hq,b⟩
def OC(h:Heap)(k:Nat)(f:Value):Prop:=(k=3/\∃i t,f=.int i t)\/(k=4/\∃x t,f=.str x t)
theorem mD{h:Heap}{k:Nat}(hk:k=3\/k=4):∀{ps:List PV}{us:2e9},ah h ps us->(ps.all λp=>bx p==k)=true->∃fs,KatTups h us fs/\fs.length=us.length/\∀f∈fs,OC h k f
 |[],us,a,_=>by ext ah a;subst a;show⟨[],.nil,rfl,λf hf=>by cases hf⟩
 |p::ps,us,a,e=>by
  ext ah a;obtain⟨v,r,rfl,a1,a2⟩:=a;rw[V1,YI]at e;obtain⟨fs,t,hl,hf⟩:=mD hk a2 e.2;have e1:bx p=k:=by simpa using e.1
  cases p with
  |tup xs=>
   ext ae a1;obtain⟨l,RX,rfl,⟨o,ho,hc,n,hd⟩,r1⟩:=a1;cases xs with
   |nil=>simp[bx]at e1;lia
   |cons y ys=>
    ext ah r1;obtain⟨f,r',rfl,b1,_⟩:=r1;show⟨f::fs,.cons ho hc hd 2e6 t,by simp[hl],λg hg=>?_⟩;rcases Yk.mp hg with rfl|hg
    ·cases y with
     |int i=>ext ae b1;simp[bx]at e1;obtain⟨t,rfl⟩:=b1;show .inl ⟨e1.symm,_,_,rfl⟩
     |str x=>ext ae b1;simp[bx]at e1;obtain⟨t,rfl⟩:=b1;show .inr ⟨e1.symm,_,_,rfl⟩
     |_=>simp[bx]at e1;lia
    ·show hf g hg
  |int i=>simp[bx]at e1;lia
  |str i=>simp[bx]at e1;lia
  |_=>simp[bx]at e1;lia
def p6(ps:List PV):SortKind:=if(ps.all λp=>bx p==1)||(ps.all λp=>bx p==2)then oneType' else tuples' true
theorem EW{ps:List PV}{us:2e9}{Q:Vs->Shared->Prop}{E:1e1}(a:ah s.heap ps us)(h2:2<=us.length)(e:sortable ps=true)(h:Q (p6 ps) s):wpAny 1e5 A (keyKind' us.toArray) Q E s:=by
 ext sortable e;ext p6 h;by_cases h1:(ps.all λp=>bx p==1)=true
 ·rw[h1,Bool.true_or,if_pos rfl]at h
  show kas_kind (T:=.type "int") h2 (λv hv=>?_) 1e7 1e7 h;obtain⟨p,hp,b⟩:=ZT a v hv;have:=YW.mp h1 p hp;cases p with
  |int i=>ext ae b;obtain⟨t,rfl⟩:=b;show RF rfl
  |tup xs=>cases xs with
   |nil=>simp[bx]at this
   |cons y ys=>cases y<;>simp[bx]at this
  |_=>simp[bx]at this
 ·by_cases h3:(ps.all λp=>bx p==2)=true
  ·rw[h3,Bool.or_true,if_pos rfl]at h
   show kas_kind (T:=.type "str") h2 (λv hv=>?_) 1e7 1e7 h;obtain⟨p,hp,b⟩:=ZT a v hv;have:=YW.mp h3 p hp;cases p with
   |str i=>ext ae b;obtain⟨t,rfl⟩:=b;show RF rfl
   |tup xs=>cases xs with
    |nil=>simp[bx]at this
    |cons y ys=>cases y<;>simp[bx]at this
   |_=>simp[bx]at this
  ·rw[Bool.not_eq_true]at h1 h3
   rw[h1,h3]at h e;rw[if_neg 1e7]at h;simp only[Bool.false_or,Ycq]at e;rcases e with e|e
   ·obtain⟨fs,t,hl,hf⟩:=mD 9e6 a e
    show kat_kind (T:=.type "int") t 1e0 (λv hv=>?_) 1e7 h;rcases hf v hv with⟨_,i,t,rfl⟩|⟨z,_⟩
    ·show RF rfl
    ·cases z
   ·obtain⟨fs,t,hl,hf⟩:=mD (.inr rfl) a e
    show kat_kind (T:=.type "str") t 1e0 (λv hv=>?_) 1e7 h;rcases hf v hv with⟨z,_⟩|⟨_,i,t,rfl⟩
    ·cases z
    ·show RF rfl
theorem qz:∀{ps:List PV}(i:Nat),dep (ps.getD i .aF)<=cA ps
 |[],i=>by simp[dep,cA]
 |p::ps,i=>by
  ext cA;cases i with
  |zero=>show Nat.le_max_left _ _
  |succ i=>show Xb (by simpa using qz (ps:=ps) i) (Nat.le_max_right _ _)
theorem Kx{ps:List PV}{us:2e9}{i j:Nat}{C:6e0}(a:ah s.heap ps us)(e:sortable ps=true)(ec:b5 ps=true)(hu:A.units+cA ps<cLine)(hi:i<us.length)(hj:j<us.length)(h:C (oP ps i j) s):kas_ask prog w A (p6 ps) us i j C s:=by
 have hl:=a.length;have mi:=PB (ps:=ps) (i:=i) 1e0;have mj:=PB (ps:=ps) (i:=j) 1e0;have hs:(cj (ps.getD i .aF) (ps.getD j .aF)).isSome=true:=YW.mp (YW.mp ec _ mi) _ mj;obtain⟨c,hc⟩:=Ug.mp hs;ext oP h;rw[RQ 1e0,RQ 1e0,hc]at h;have ai:=ah.get a hi;have aj:=ah.get a hj;have hd:=qz (ps:=ps) i;unfold kas_ask p6;have at':∀k,(ps.all λp=>bx p==k)=true->bx (ps.getD i .aF)=k/\bx (ps.getD j .aF)=k:=λk z=>⟨by simpa using YW.mp z _ mi,by simpa using YW.mp z _ mj⟩
 by_cases h1:(ps.all λp=>bx p==1)=true
 ·rw[h1,Bool.true_or,if_pos rfl];show wZ ai aj (.inl (at' 1 h1)) hc h
 ·by_cases h3:(ps.all λp=>bx p==2)=true
  ·rw[h3,Bool.or_true,if_pos rfl];show wZ ai aj (.inr (at' 2 h3)) hc h
  ·ext sortable e
   rw[Bool.not_eq_true]at h1 h3;rw[h1,h3]at e⊢;rw[if_neg 1e7];simp only[Bool.false_or,Ycq]at e;rcases e with e|e
   ·show wY ai aj (.inl (at' 3 e)) hc 1e0 h
   ·show wY ai aj (.inr (at' 4 e)) hc 1e0 h
end
end Pu
namespace Pu
open PySem PySem.Spec PySem.W
mutual
noncomputable def bf:PV->Bool
 |.int _=>true
 |.str _=>true
 |.tup ps=>aO ps
 |_=>false
noncomputable def aO:List PV->Bool
 |[]=>true
 |p::ps=>bf p&&aO ps
end
mutual
noncomputable def lT:PV->PV->Bool
 |.int a,.int b=>decide (a<b)
 |.int _,.str _=>true
 |.int _,.tup _=>true
 |.str a,.str b=>decide (a.cps.toList<b.cps.toList)
 |.str _,.tup _=>true
 |.tup xs,.tup ys=>kH xs ys
 |_,_=>false
noncomputable def kH:List PV->List PV->Bool
 |[],[]=>false
 |[],_::_=>true
 |_::_,[]=>false
 |x::xs,y::ys=>if aE x y then kH xs ys else lT x y
end
mutual
theorem xa:∀(p:PV){q:PV},bf p=true->bf q=true->(aE p q=true↔p=q)
 |.int a,q,_,hq=>by cases q<;>simp[aE]<;>simp[bf]at hq
 |.str a,q,_,_=>by cases q<;>simp[aE]
 |.tup ps,q,h,hq=>by
  ext bf h;cases q with
  |tup qs=>ext bf hq;ext aE;rw[jY ps h hq];simp
  |_=>simp[aE]
 |.aF,q,h,_=>by simp[bf]at h
 |.bl _,q,h,_=>by simp[bf]at h
 |.lst _,q,h,_=>by simp[bf]at h
 |.cV _ _,q,h,_=>by simp[bf]at h
 |.aG _ _,q,h,_=>by simp[bf]at h
 |.fn _,q,h,_=>by simp[bf]at h
 |.ty _,q,h,_=>by simp[bf]at h
theorem jY:∀(ps:List PV){qs:List PV},aO ps=true->aO qs=true->(dY ps qs=true↔ps=qs)
 |[],qs,_,_=>by cases qs<;>simp[dY]
 |p::ps,qs,h,hq=>by
  ext aO h;rw[YI]at h;cases qs with
  |nil=>simp[dY]
  |cons q qs=>
   ext aO hq;rw[YI]at hq;ext dY;rw[YI,xa p h.1 hq.1,jY ps h.2 hq.2,VU]
end
theorem Mg{p:PV}(h:bf p=true):aE p p=true:=(xa p h h).mpr rfl
theorem DV{a b:Str}(h1:¬a.cps.toList<b.cps.toList)(h2:¬b.cps.toList<a.cps.toList):a=b:=by
 obtain⟨⟨x⟩⟩:=a;obtain⟨⟨y⟩⟩:=b;have:x=y:=List.le_antisymm (List.not_lt.mp h2) (List.not_lt.mp h1);rw[this]
mutual
theorem KH:∀(p:PV),bf p=true->lT p p=false
 |.int a,_=>by simp[lT]
 |.str a,_=>by simp[lT,List.lt_irrefl]
 |.tup ps,h=>by ext bf h;ext lT;show v3 ps h
 |.aF,_=>by simp[lT]
 |.bl _,_=>by simp[lT]
 |.lst _,_=>by simp[lT]
 |.cV _ _,_=>by simp[lT]
 |.aG _ _,_=>by simp[lT]
 |.fn _,_=>by simp[lT]
 |.ty _,_=>by simp[lT]
theorem v3:∀(ps:List PV),aO ps=true->kH ps ps=false
 |[],_=>by simp[kH]
 |p::ps,h=>by
  ext aO h;rw[YI]at h;ext kH;rw[Mg h.1,if_pos rfl];show v3 ps h.2
end
mutual
theorem jO:∀(p:PV){q:PV},bf p=true->bf q=true->lT p q=false->lT q p=false->p=q
 |.int a,q,_,hq,h1,h2=>by
  cases q<;>simp[lT,bf]at h1 h2 hq⊢;lia
 |.str a,q,_,hq,h1,h2=>by
  cases q with
  |str b=>
   unfold lT at h1 h2;have:a=b:=DV (of_decide_eq_false h1) (of_decide_eq_false h2);rw[this]
  |int _=>simp[lT]at h2
  |tup _=>simp[lT]at h1
  |_=>simp[bf]at hq
 |.tup ps,q,h,hq,h1,h2=>by
  ext bf h;cases q with
  |tup qs=>ext bf hq;unfold lT at h1 h2;rw[vZ ps h hq h1 h2]
  |int _=>simp[lT]at h2
  |str _=>simp[lT]at h2
  |_=>simp[bf]at hq
 |.aF,q,h,_,_,_=>by simp[bf]at h
 |.bl _,q,h,_,_,_=>by simp[bf]at h
 |.lst _,q,h,_,_,_=>by simp[bf]at h
 |.cV _ _,q,h,_,_,_=>by simp[bf]at h
 |.aG _ _,q,h,_,_,_=>by simp[bf]at h
 |.fn _,q,h,_,_,_=>by simp[bf]at h
 |.ty _,q,h,_,_,_=>by simp[bf]at h
theorem vZ:∀(ps:List PV){qs:List PV},aO ps=true->aO qs=true->kH ps qs=false->kH qs ps=false->ps=qs
 |[],qs,_,_,h1,h2=>by cases qs<;>simp[kH]at h1 h2⊢
 |p::ps,qs,h,hq,h1,h2=>by
  ext aO h;rw[YI]at h;cases qs with
  |nil=>simp[kH]at h2
  |cons q qs=>
   ext aO hq;rw[YI]at hq;unfold kH at h1 h2;by_cases e:p=q
   ·subst e
    rw[Mg h.1,if_pos rfl]at h1 h2;rw[vZ ps h.2 hq.2 h1 h2]
   ·rw[if_neg (λz=>e ((xa p h.1 hq.1).mp z))]at h1
    rw[if_neg (λz=>e ((xa q hq.1 h.1).mp z).symm)]at h2;show absurd (jO p h.1 hq.1 h1 h2) e
end
mutual
theorem p4:∀(p:PV){q r:PV},bf p=true->bf q=true->bf r=true->lT p q=true->lT q r=true->lT p r=true
 |.int a,q,r,_,hq,hr,h1,h2=>by
  cases q<;>cases r<;>simp[lT,bf]at h1 h2 hq hr⊢;lia
 |.str a,q,r,_,hq,hr,h1,h2=>by
  cases q<;>cases r<;>simp[lT,bf]at h1 h2 hq hr⊢;show List.lt_trans h1 h2
 |.tup ps,q,r,h,hq,hr,h1,h2=>by
  ext bf h;cases q with
  |tup qs=>
   cases r with
   |tup rs=>unfold bf at hq hr;unfold lT at h1 h2⊢;show Bv ps h hq hr h1 h2
   |_=>simp[lT]at h2
  |_=>simp[lT]at h1
 |.aF,q,r,h,_,_,_,_=>by simp[bf]at h
 |.bl _,q,r,h,_,_,_,_=>by simp[bf]at h
 |.lst _,q,r,h,_,_,_,_=>by simp[bf]at h
 |.cV _ _,q,r,h,_,_,_,_=>by simp[bf]at h
 |.aG _ _,q,r,h,_,_,_,_=>by simp[bf]at h
 |.fn _,q,r,h,_,_,_,_=>by simp[bf]at h
 |.ty _,q,r,h,_,_,_,_=>by simp[bf]at h
theorem Bv:∀(ps:List PV){qs rs:List PV},aO ps=true->aO qs=true->aO rs=true->kH ps qs=true->kH qs rs=true->kH ps rs=true
 |[],qs,rs,_,_,_,h1,h2=>by cases qs<;>cases rs<;>simp[kH]at h1 h2⊢
 |p::ps,qs,rs,h,hq,hr,h1,h2=>by
  ext aO h;rw[YI]at h;cases qs with
  |nil=>simp[kH]at h1
  |cons q qs=>
   cases rs with
   |nil=>simp[kH]at h2
   |cons r rs=>
    unfold aO at hq hr;rw[YI]at hq hr;unfold kH at h1 h2⊢;by_cases e:p=q
    ·subst e
     rw[Mg h.1,if_pos rfl]at h1;by_cases e2:p=r
     ·subst e2
      rw[Mg h.1,if_pos rfl]at h2⊢;show Bv ps h.2 hq.2 hr.2 h1 h2
     ·have ne:=λz=>e2 ((xa p h.1 hr.1).mp z)
      rw[if_neg ne]at h2⊢;show h2
    ·rw[if_neg (λz=>e ((xa p h.1 hq.1).mp z))]at h1
     by_cases e2:q=r
     ·subst e2
      rw[if_neg (λz=>e ((xa p h.1 hq.1).mp z))];show h1
     ·rw[if_neg (λz=>e2 ((xa q hq.1 hr.1).mp z))]at h2
      have t:=p4 p h.1 hq.1 hr.1 h1 h2;by_cases e3:p=r
      ·subst e3;rw[KH p h.1]at t;cases t
      ·rw[if_neg (λz=>e3 ((xa p h.1 hr.1).mp z))];show t
end
mutual
theorem tG:∀(p:PV){q:PV}{c:Bool},cj p q=some c->c=lT p q
 |.int a,q,c,e=>by cases q<;>simp[cj,lT]at e⊢<;>show e.symm
 |.str a,q,c,e=>by cases q<;>simp[cj,lT]at e⊢<;>show e.symm
 |.tup ps,q,c,e=>by
  cases q with
  |tup qs=>ext cj e;ext lT;show vV ps e
  |_=>simp[cj]at e
 |.aF,q,c,e=>by simp[cj]at e
 |.bl _,q,c,e=>by simp[cj]at e
 |.lst _,q,c,e=>by simp[cj]at e
 |.cV _ _,q,c,e=>by simp[cj]at e
 |.aG _ _,q,c,e=>by simp[cj]at e
 |.fn _,q,c,e=>by simp[cj]at e
 |.ty _,q,c,e=>by simp[cj]at e
theorem vV:∀(ps:List PV){qs:List PV}{c:Bool},cD ps qs=some c->c=kH ps qs
 |[],qs,c,e=>by cases qs<;>simp[cD,kH]at e⊢<;>simp[e]
 |p::ps,qs,c,e=>by
  cases qs with
  |nil=>simp[cD,kH]at e⊢;simp[e]
  |cons q qs=>
   ext cD e;ext kH;split at e
   ·rename_i z;rw[if_pos z];show vV ps e
   ·rename_i z;rw[if_neg z];show tG p e
end
end Pu
namespace Pu
open PySem PySem.Spec PySem.W PySem.Calls L2 PySem.SeqAt
open PyProof.Rows hiding St Fr
theorem DB:∀{ps:List PV},aO ps=true->∀p∈ps,bf p=true
 |[],_,p,hp=>by cases hp
 |q::ps,h,p,hp=>by
  ext aO h;rw[YI]at h;rcases Yk.mp hp with rfl|hp
  ·show h.1
  ·show DB h.2 p hp
theorem vI{ps:List PV}(h1:1<=ps.length)(hc:b5 ps=true)(i j:Nat):oP ps i j=lT (ps.getD (min i (ps.length-1)) .aF) (ps.getD (min j (ps.length-1)) .aF):=by
 have mi:=PB (ps:=ps) (i:=min i (ps.length-1)) 1e0;have mj:=PB (ps:=ps) (i:=min j (ps.length-1)) 1e0;obtain⟨c,e⟩:=Ug.mp (YW.mp (YW.mp hc _ mi) _ mj);ext oP;rw[e];show tG _ e
theorem My{ps:List PV}(h1:1<=ps.length)(hc:b5 ps=true)(hp:aO ps=true):Wk (oP ps):=by
 have P:∀i,bf (ps.getD (min i (ps.length-1)) .aF)=true:=λi=>DB hp _ (PB 1e0);have Du:∀a,oP ps a a=false:=λa=>by rw[vI h1 hc];show KH _ (P a)
 have rK:∀a b,oP ps a b=true->oP ps b a=false:=λa b h=>by
  rw[vI h1 hc]at h⊢;cases e:lT (ps.getD (min b (ps.length-1)) .aF) (ps.getD (min a (ps.length-1)) .aF)with
  |false=>rfl
  |true=>
   have t:=p4 _ (P a) (P b) (P a) h e;rw[KH _ (P a)]at t;cases t
 show⟨Du,rK,λa b c h2 h3=>?_⟩;rw[vI h1 hc]at h2 h3⊢;cases e:lT (ps.getD (min c (ps.length-1)) .aF) (ps.getD (min a (ps.length-1)) .aF)with
 |false=>rfl
 |true=>
  cases e2:lT (ps.getD (min a (ps.length-1)) .aF) (ps.getD (min b (ps.length-1)) .aF)with
  |true=>rw[p4 _ (P c) (P a) (P b) e e2]at h3;cases h3
  |false=>rw[jO _ (P a) (P b) e2 h2]at e;rw[e]at h3;cases h3
theorem ZdI(ps:List PV):(YB ps.length).map (λi=>ps.getD i .aF)=ps:=by
 apply XE;intro i;rw[Yx];by_cases hi:i<ps.length
 ·rw[Vv hi];simp[hi]
 ·rw[YK 6e2,YK 1e0];rfl
def aR(qs:List PV):Prop:=qs.Pairwise λa b=>lT b a=false
theorem Bw{a b:PV}(ha:bf a=true)(hb:bf b=true)(h:lT a b=true):lT b a=false:=by
 cases e:lT b a with
 |false=>rfl
 |true=>have t:=p4 _ ha hb ha h e;rw[KH _ ha]at t;cases t
theorem NP{a b c:PV}(ha:bf a=true)(hb:bf b=true)(hc:bf c=true)(h2:lT b a=false)(h3:lT c b=false):lT c a=false:=by
 cases e:lT c a with
 |false=>rfl
 |true=>
  cases e2:lT a b with
  |true=>rw[p4 _ hc ha hb e e2]at h3;cases h3
  |false=>rw[jO _ ha hb e2 h2]at e;rw[e]at h3;cases h3
def yr(p:PV):List PV->List PV
 |[]=>[p]
 |q::qs=>if lT q p then q::yr p qs else p::q::qs
def fy:List PV->List PV
 |[]=>[]
 |p::ps=>yr p (fy ps)
theorem ZU(p:PV):∀qs:List PV,(yr p qs).Perm (p::qs)
 |[]=>.refl _
 |q::qs=>by
  ext yr;split
  ·show((ZU p qs).cons q).trans (.swap p q qs)
  ·show .refl _
theorem Rb:∀ps:List PV,(fy ps).Perm ps
 |[]=>.refl _
 |p::ps=>(ZU p _).trans ((Rb ps).cons p)
theorem PQ{ps:List PV}(hc:b5 ps=true)(hp:aO ps=true):(fy ps).Perm ps:=Rb ps
theorem Zdp{p:PV}(hp:bf p=true):∀{qs:List PV},(∀q∈qs,bf q=true)->aR qs->aR (yr p qs)
 |[],_,_=>List.pairwise_singleton _ _
 |q::qs,h,r=>by
  unfold aR at r⊢;rw[Vd]at r;have hq:=h q 6e9;ext yr;by_cases c:lT q p=true
  ·rw[if_pos c,Vd]
   show⟨λx hx=>?_,Zdp hp (λy hy=>h y (.tail _ hy)) r.2⟩;rcases Yk.mp ((ZU p qs).mem_iff.mp hx)with rfl|hx
   ·show Bw hq hp c
   ·show r.1 x hx
  ·rw[if_neg c,Vd,Vd]
   have c:lT q p=false:=by simpa using c
   show⟨λx hx=>?_,r⟩;rcases Yk.mp hx with rfl|hx
   ·show c
   ·show NP hp hq (h x (.tail _ hx)) c (r.1 x hx)
theorem k8:∀{ps:List PV},(∀p∈ps,bf p=true)->aR (fy ps)
 |[],_=>.nil
 |p::ps,h=>Zdp (h p 6e9) (λq hq=>h q (.tail _ ((Rb ps).mem_iff.mp hq))) (k8 λq hq=>h q (.tail _ hq))
theorem PY{ps:List PV}(hc:b5 ps=true)(hp:aO ps=true):aR (fy ps):=k8 (DB hp)
theorem Zbs:∀{xs ys:List PV},aO xs=true->xs.Perm ys->aR xs->aR ys->xs=ys
 |[],ys,_,hp,_,_=>by rw[hp.symm.eq_nil]
 |x::xs,ys,h,hp,h1,h2=>by
  cases ys with
  |nil=>show absurd hp.length_eq 2e6
  |cons y ys=>
   have hm:∀z∈x::xs,bf z=true:=DB h;have my:bf y=true:=hm y (hp.mem_iff.mpr 6e9);have mx:bf x=true:=hm x 6e9;unfold aR at h1 h2;rw[Vd]at h1 h2;have e:x=y:=by
    have a:lT y x=false:=by
     rcases Yk.mp (hp.mem_iff.mpr (YS (a:=y) (l:=ys)))with e|e
     ·rw[e];show KH _ mx
     ·show h1.1 y e
    have b:lT x y=false:=by
     rcases Yk.mp (hp.mem_iff.mp (YS (a:=x) (l:=xs)))with e|e
     ·rw[e];show KH _ my
     ·show h2.1 x e
    show jO x mx my b a
   subst e;ext aO h;rw[YI]at h;rw[Zbs h.2 (List.perm_cons _ |>.mp hp) h1.2 h2.2]
theorem oQ{ps ys:List PV}(hc:b5 ps=true)(hp:aO ps=true)(e:ps.Perm ys)(r:aR ys):fy ps=ys:=by
 have pl:=PQ hc hp;show Zbs ?_ (pl.trans e) (PY hc hp) r;have m:=DB hp;have:∀{l:List PV},(∀p∈l,bf p=true)->aO l=true:=λ{l}=>by
  intro h;induction l with
  |nil=>rfl
  |cons q l ih=>ext aO;rw[h q 6e9,ih λp hp=>h p (.tail _ hp)];rfl
 show this λp h=>m p (pl.mem_iff.mp h)
def bN(ps:List PV):Option 3e0:=if gu ps&&decide (cA ps<=40)&&decide (ps.length<Ts.Bo)&&sortable ps&&b5 ps&&aO ps then some (fy ps)else none
theorem oN{ps qs:List PV}(e:bN ps=some qs):qs=fy ps:=by
 ext bN e;split at e
 ·cases e;rfl
 ·cases e
theorem Mc{ps qs:List PV}(e:bN ps=some qs):gu ps=true/\cA ps<=40/\ps.length<Ts.Bo/\sortable ps=true/\b5 ps=true/\aO ps=true:=by
 ext bN e;split at e
 ·rename_i hh
  simp only[YI,decide_eq_true_eq]at hh;obtain⟨⟨⟨⟨⟨a,b⟩,c⟩,d⟩,f⟩,g⟩:=hh;show⟨a,b,c,d,f,g⟩
 ·cases e
theorem jl{ps:List PV}(a:gu ps=true)(b:cA ps<=40)(c:ps.length<Ts.Bo)(d:sortable ps=true)(e:b5 ps=true)(f:aO ps=true):bN ps=some (fy ps):=by
 ext bN;rw[if_pos];simp only[YI,decide_eq_true_eq];show⟨⟨⟨⟨⟨a,b⟩,c⟩,d⟩,e⟩,f⟩
theorem Q3:∀(ps:List PV),gu ps=ps.all dat
 |[]=>rfl
 |p::ps=>by rw[gu,V1,Q3 ps]
theorem Pq{n:Nat}:∀(ps:List PV),cA ps<=n↔∀p∈ps,dep p<=n
 |[]=>by simp[cA]
 |p::ps=>by rw[cA,Nat.max_le,Pq ps];simp
theorem Hi{α:Type}{f:α->Bool}{l l':List α}(h:l.Perm l'):l.all f=l'.all f:=by
 rw[WU,YW,YW];show⟨λq x hx=>q x (h.mem_iff.mpr hx),λq x hx=>q x (h.mem_iff.mp hx)⟩
theorem qH{ps dR:List PV}(h:ps.Perm dR):b5 ps=b5 dR:=by
 ext b5;rw[Hi h]
 congr 1
 funext p
 show Hi h
theorem kr{ps dR:List PV}(h:ps.Perm dR):sortable ps=sortable dR:=by
 ext sortable;rw[Hi h,Hi h,Hi h,Hi h]
theorem xO{ps dR:List PV}(h:dR.Perm ps)(e:aO ps=true):aO dR=true:=by
 have all:∀l:List PV,aO l=l.all bf:=by
  intro l;induction l with
  |nil=>rfl
  |cons p l ih=>rw[aO,V1,ih]
 rw[all]at e⊢;rw[Hi h];show e
theorem oM{ps dR:List PV}(hp:dR.Perm ps){qs:List PV}(e:bN ps=some qs):bN dR=some qs:=by
 obtain⟨hd,OD,Ff,LF,gW,zv⟩:=Mc e;have Od:=xO hp zv;have OG:b5 dR=true:=by rw[qH hp];show gW
 rw[oN e,jl (by rw[Q3]at hd⊢;rw[Hi hp];show hd) (by rw[Pq]at OD⊢;show λp hq=>OD p (hp.mem_iff.mp hq)) (by rw[hp.length_eq];show Ff) (by rw[kr hp];show LF) OG Od]
 congr 1
 show oQ OG Od (hp.trans (PQ gW zv).symm) (PY gW zv)
theorem S7{ps:List PV}(h1:1<=ps.length)(hc:b5 ps=true){p:3e9}(hp:p.Perm (YB ps.length))(h:p.Pairwise (Ts.le (oP ps))):aR (p.map λi=>ps.getD i .aF):=by
 ext aR;rw[Xx];show h.imp_of_mem λ{i j} hi hj e=>?_;have li:=Y3.mp (hp.mem_iff.mp hi);have lj:=Y3.mp (hp.mem_iff.mp hj);ext Ts.le e;rw[vI h1 hc,RQ 1e0,RQ 1e0]at e;show e
theorem Zch{ps:List PV}{p:3e9}(hp:p.Perm (YB ps.length)):(p.map λi=>ps.getD i .aF).Perm ps:=by
 have:=hp.map λi=>ps.getD i .aF;rw[ZdI]at this;show this
section
variable{X:Cx}
theorem P0{ι:2e1}{pins:1e8}{s:Shared}{σ:St}{H:Hp}{v:Value}{Lw qs:List PV}{Q:VK}(hu:5e6)(I:2e0)(hs:bN Lw=some qs)
  (JQ:∀Q':List Value->Shared->Prop,(∀h1 d tk vs ps ys,(∀b u,s.heap.get? b=some u->h1.get? b=some u)->s.heap.objs.size<=h1.objs.size->ps.Perm Lw->Vals ys vs->ab X.K ι H ps ys->Q' vs {s with heap:=h1,drawn:=d,toks:=tk})->wpAny (model X.prog X.w) X.A.in1 (Hu v) Q' X.xe s)
  (q:∀zs l,ab X.K ι H qs zs->H l=none->Q (.ref l) (upd H l (.lst zs))):wpAny 2e2 X.A (call (.builtin "sorted") [v]) (EP X pins σ Q) X.xe s:=by
 show rY (OKv:=λvs=>∃ps ys,ps.Perm Lw/\Vals ys vs/\ab X.K ι H ps ys) (λQ' q'=>JQ Q' λh1 d tk vs ps ys k hle hp hv hr=>q' h1 d tk vs k hle ⟨ps,ys,hp,hv,hr⟩) ?_;rintro vs ⟨ps,ys,hp,hv,hr⟩;have e:=oM hp hs;obtain⟨hd,OD,Ff,LF,gW,zv⟩:=Mc e;have hh:=ab.heap I ps hr hv hd;have hl:=hh.length;show⟨by lia,p6 ps,oP ps,λh2=>⟨My 1e0 gW zv,λh' d tk k=>⟨λQ' q'=>EW (s:={s with heap:=h',drawn:=d,toks:=tk}) (hh.keep k) h2 LF q',λi j C hi hj hC=>Kx (s:={s with heap:=h',drawn:=d,toks:=tk}) (hh.keep k) LF gW (by rw[X2,X2];lia) hi hj hC⟩⟩,λD h' d tk c p hD k p1 p2 e2=>?_⟩;have I':Inv X pins σ H {s with drawn:=d}:=⟨I.ok,I.os,I.bare,I.base,I.loc,I.cell,I.free,I.eG,I.pin,I.aQ,I.len⟩
 have pl:∀i∈p,i<vs.length:=λi hi=>Y3.mp (p1.mem_iff.mp hi);rw[←hl]at p1;have hyl:=hv.length;show⟨.ref D,_,I'.laid (t':=tk) k hD (show aY X.prog X.w _ h' _ (.lst (p.map λi=>ys.getD i .aF))from⟨?_,p.map (λi=>vs.getD i Xf),c,oC hv pl,e2⟩),rfl,q _ _ ?_ (I.aQ.fresh hD)⟩
 ·have Zr:ps.length<4096:=Ff
  rw[Yj,p1.length_eq,Wb,YZ];lia
 ·have r:=oX hr (is:=p) λi hi=>by have:=pl i hi;lia
  rw[show qs=p.map λi=>ps.getD i .aF from ?_]
  ·show r
  ·rw[oN e]
   by_cases h2:2<=vs.length
   ·show oQ gW zv (Zch p1).symm (S7 1e0 gW p1 (p2 h2))
   ·have pm:=Zch p1
    have sl:=Rb ps
    match ps,hl with
    |[],_=>rw[pm.eq_nil];rfl
    |[x],_=>rw[List.perm_singleton.mp pm];rfl
    |_::_::_,hl=>simp only[Yv]at hl;lia
def Ec(K:W.Frag):List V->Hp->VK->Prop:=λxs H Q=>∃p ys ι ps qs,xs=[.ref p]/\fH K H p ys/\ab K ι H ps ys/\bN ps=some qs/\∀zs l,ab K ι H qs zs->H l=none->Q (.ref l) (upd H l (.lst zs))
theorem qK(hu:5e6):cM X (.builtin "sorted") (Ec X.K):=by
 intro pins s σ H xs us Q I r h;obtain⟨p,ys,ι,ps,qs,rfl,hq,rs,hs,q⟩:=h;obtain⟨u,rfl,rx⟩:=vals1 r;cases rx;obtain⟨aw,r',pl,hz⟩:=I.list hq;show P0 hu I hs (λQ' q'=>collect_list pl.isList (q' ((s.heap.push (seqObj "list" #[] 0)).update s.heap.objs.size (XM (·++aw.toArray))) s.drawn s.toks aw ps ys (λb u e=>?_) ?_ (.refl _) r' rs) ?_) q
 ·rw[W0 _ _ _ _ (Yw (Ys e))];show Yb _ e
 ·rw[Heap.size_update,size_push'];lia
 ·have h1:=(Mc hs).2.2.1
  have h1:ps.length<4096:=h1;have:=rs.length;have:=r'.length;rw[YZ]at *;lia
end
end Pu
namespace Pu
open PySem PySem.W PySem.Calls
open PyProof.Rows hiding St Fr
theorem ZaQ:entryFor table "dict.update.loop"=some WX.«dict.update.loop»:=entryFor_of_tree (by kernel_rfl)
theorem Rp:plainId "dict.update.loop"=true:=by decide +kernel
section
variable{prog:YF}{w:World}{K:Type} [DecidableEq K]{knd:HeapKind prog w K}
noncomputable def putAll (key:Nat->K×Addr×Value)(i:Nat):List (K×Addr×Value):=((YB i).map key).foldl (λxs x=>Dg xs x.1 x.2.1 x.2.2) []
theorem Zb2(key:Nat->K×Addr×Value)(i:Nat):putAll key (i+1)=Dg (putAll key i) (key i).1 (key i).2.1 (key i).2.2:=by
 ext putAll;rw[List.range_succ,YX,List.foldl_append];rfl
theorem ZdS(key:Nat->K×Addr×Value):∀i,(putAll key i).length<=i
 |0=>Yl _
 |i+1=>by
  rw[Zb2];ext Dg;have:=ZdS key i;split
  ·rw[Yj];lia
  ·rw[Yf];simp;lia
theorem Rk(key:Nat->K×Addr×Value):∀i,∀x∈putAll key i,∃j,j<i/\x.1=(key j).1/\x.2.1=(key j).2.1
 |0,x,hx=>by cases hx
 |i+1,x,hx=>by
  rw[Zb2]at hx;ext Dg hx;split at hx
  ·obtain⟨y,hy,rfl⟩:=Yy.mp hx
   obtain⟨j,hj,e1,e2⟩:=Rk key i y hy;show⟨j,by lia,?_,?_⟩
   ·rw[←e1];ext putAt;split<;>first|rfl|(rename_i h;show h.symm)
   ·rw[←e2];ext putAt;split<;>rfl
  ·rcases Ym.mp hx with hx|hx
   ·obtain⟨j,hj,e⟩:=Rk key i x hx
    show⟨j,by lia,e⟩
   ·rw[Yi]at hx;subst hx
    show⟨i,by lia,rfl,rfl⟩
variable{A:Around}{R:9e3}{I:Addr}{fp wr:2e1}{G:Array K6->Array K6->Prop}{n:Nat}{P:Nat->Value->Prop}{St:Nat->Shared->Prop}
def xf(d:Addr)(wr:2e1)(h h':Heap):Prop:=∀b u,b≠d->b∉wr->h.get? b=some u->h'.get? b=some u
theorem yL(W:WalksS prog w A.in1 I fp wr G n P St)(d:Addr)(qg:d∉fp)(h0:Heap)(key:Nat->K×Addr×Value)
  (hP:∀i v,P i v->∃t o m,v=.ref t/\h0.get? t=some o/\o.cls=.type "tuple"/\o.data=.seq #[.ref (key i).2.1,(key i).2.2] m/\t≠d/\t∉wr)
  (hK:∀i h',i<n->xf d wr h0 h'->knd.is h' (key i).1 (key i).2.1) (hu:knd.room A.in1) (hn:n<=YA):
  ∀(k i:Nat)(s:Shared),n-i=k->i<=n->St i s->xf d wr h0 s.heap->s.heap.DictOfH knd d (putAll key i)->
   (∀s',Moved (d::wr) G s s'->s'.heap.DictOfH knd d (putAll key n)->R (.ok (.ret .none)) s')->
   WA 1e5 A (.builtin "dict.update.loop" ⟨[.ref d,.ref I,rawInt i,.none],[]⟩) R s:=by
 have hdw:d∉wr:=λh=>qg (W.sub _ h);have yt:∀b∈wr,b∈d::wr:=λb hb=>YL _ hb;have GA:∀{s s':Shared}{xs:List (K×Addr×Value)},Moved wr G s s'->xf d wr h0 s'.heap->(∀x∈xs,∃i,i<n/\x.1=(key i).1/\x.2.1=(key i).2.1)->s.heap.DictOfH knd d xs->s'.heap.DictOfH knd d xs:=λhm hk hx hd=>by
  obtain⟨o,es,ep,ho,hc,qf,he,JL,ox⟩:=hd;show⟨o,es,ep,hm.heap d _ hdw ho,hc,qf,he,λx nB=>?_,ox⟩;obtain⟨i,hi,e1,e2⟩:=hx x nB;rw[e1,e2];show hK i _ hi hk
 intro k;induction k with
 |zero=>
  intro i s hk hi ow JJ hd hR;have rF:i=n:=by lia
  subst rF;show XQ ZaQ ?_;rw[Wq Rp _];change wpAny _ A.in1 (pyNext (.ref I)>>=_) _ _ s;show Ya (W.done s _ _ ow λs' hm=>?_);change wpAny _ A.in1 (Builtin.Dict.addKeywords d []>>=λ_=>PySem.ret Xf) _ _ s';show Ya (Yc ?_);show Yc (hR s' (hm.mono yt) (GA hm (λb u n1 n2 e=>hm.heap b u n2 (JJ b u n1 n2 e)) (λx hx=>Rk key _ x hx) hd))
 |succ k ih=>
  intro i s hk hi ow JJ hd hR;have bA:i<n:=by lia
  show XQ ZaQ ?_;rw[Wq Rp _];change wpAny _ A.in1 (pyNext (.ref I)>>=_) _ _ s;show Ya (W.item i s _ _ bA ow λv s' hPv Tq hm=>?_);obtain⟨t,o,m,rfl,hto,Fc,qf,htd,Qw⟩:=hP i v hPv;have E9:xf d wr h0 s'.heap:=λb u n1 n2 e=>hm.heap b u n2 (JJ b u n1 n2 e);have gA:=GA hm E9 (λx hx=>by obtain⟨j,hj,e⟩:=Rk key i x hx;show⟨j,by lia,e⟩) hd;have N9:=E9 t o htd Qw hto;sleep 6;show Ya (Xi ?_);show Ya (wpAny_tryCatch ?_);ext Builtin.Dict.pairItems;show Ya (Vb ⟨o,N9,Fc⟩ ?_);rw[if_pos 1e7];show Ya (VG N9 qf ?_);show Yc ?_;change wpAny _ A.in1 (zF [.ref (key i).2.1,(key i).2.2] (dictSet d (.ref (key i).2.1) (key i).2.2)) _ _ s';show Xi ?_;show wpAny_dictSet_heap hu (hK i _ bA E9) gA (λh' hd2 Tt=>?_) (Xb (ZdS key i) 1e0);rw[←Zb2]at hd2;show Yc ⟨V0 Rp _,?_⟩;show ih (i+1) _ 1e0 bA (W.frame _ s' _ _ Tq (Ycd _ _) λb hb o e=>?_) (λb u n1 n2 e=>?_) hd2 λD4 TX Zl=>?_
  ·rw[Tt.2 b (λh:b=d=>qg (by rw[←h];show hb))];show e
  ·rw[Tt.2 b n1];show E9 b u n1 n2 e
  ·show hR D4 (Moved.trans W.gtrans ((hm.mono yt).then_heap (Ycd _ _) λb o hb e=>?_) TX) Zl
   rw[Tt.2 b (λh:b=d=>hb (by rw[h];show YS))];show e
end
end Pu
namespace Pu
open PySem
theorem nt:typeLookup (.type "list") "keys"=pure none:=by rw[UB,Ve];kernel_rfl
theorem nu{prog:YF}{w:World}{A:Around}{E:1e1}{hp:Heap}{g:Array K6}{d:Drawn}{t:Nat}{os:OsState}{a:Addr}{xs:Array Value}{n:Nat}{sl:Array (Option Value)}{Q:Option Value->Shared->Prop}
  (hx:hp.get? a=some {cls:=.type "list",dict:=none,data:=.seq xs n,slots:=sl}) (hA:6e8)
  (h:∀h' tk,(∀b u,hp.get? b=some u->h'.get? b=some u)->Q none ⟨h',g,d,tk,os⟩):wpAny 1e5 A (getAttr? 9e8 "keys") Q E ⟨hp,g,d,t,os⟩:=by
 have hT:∀F',(⟨hp,g,d,F',os⟩:Shared).TypeIs 9e8 "list":=λ_=>⟨_,hx,rfl⟩
 have f1:=sub_AttributeError;have f3:=Ul.lookup;have f4:=Ul.bind 9e8;have f5:=am_list_getattr_none;unfold getAttr? getAttrBy? getAttrBy;repeat(any_goals(first|assumption|show hT _|((with_reducible change wpAny _ _ (call (Value.builtin "list.__getattribute__") _ _) _ _ _);show call_meets Ul (hT _) am_entry_list_getattribute (F.args_list_getattribute_2 _ _) (meets_getattribute_miss_list a xs n sl "keys" _ nt 1e7 (by rw[YZ];decide)) ⟨hx,hA,λh' F' e nB=>?_⟩)|wp_step))
 obtain⟨t',u',he⟩:=nB.there;change wpAny _ _ (getattributeRaised _ _ _ _ _ _ _) _ _ _;ext getattributeRaised;repeat(any_goals(first|assumption|wp_step))
 show h _ _ nB.keeps
end Pu
namespace Pu
open PySem PySem.W PySem.Calls
open PyProof.Rows hiding St Fr
section
variable{prog:YF}{w:World}{K:Type} [DecidableEq K]{knd:HeapKind prog w K}{A:Around}{E:1e1}{s:Shared}
theorem ZdD{l:Addr}{us:2e9}{m:Nat}{sl:Array (Option Value)}{Q:1e1}(hh:6e8)(hl:s.heap.get? l=some {cls:=.type "list",dict:=none,data:=.seq us.toArray m,slots:=sl})(key:Nat->K×Addr×Value)
  (hP:∀i v,us[i]? = some v->∃t o k,v=.ref t/\s.heap.get? t=some o/\o.cls=.type "tuple"/\o.data=.seq #[.ref (key i).2.1,(key i).2.2] k)
  (hK:∀i h',i<us.length->(∀b u,s.heap.get? b=some u->h'.get? b=some u)->knd.is h' (key i).1 (key i).2.1) (hu:∀A':Around,A'.units<=A.units+8->knd.room A') (hn:us.length<=YA)
  (h:∀h' tk,(∀b u,s.heap.get? b=some u->h'.get? b=some u)->h'.DictOfH knd s.heap.objs.size (putAll key us.length)->Q 5e1 {s with heap:=h',toks:=tk}):
  wpAny 1e5 A (call (.type "dict") [.ref l]) Q E s:=by
 show callType_codes (Q₁:=λobj s₁=>obj=.ref s.heap.objs.size/\s₁={s with heap:=s.heap.push {cls:=.type "dict",data:=.dict #[]}}) F.kt_called_dict (F.kt_typeCall_dict_1 _) F.entry_dict_init (kt_code_dict_new _ ⟨rfl,rfl⟩) ?_;rintro obj s₁ ⟨rfl,rfl⟩;have yw:(s.heap.push {cls:=.type "dict",data:=.dict #[]}).DictOfH knd s.heap.objs.size []:=Heap.DictOfH.new s.heap;have GJ:(s.heap.push {cls:=.type "dict",data:=.dict #[]}).get? l=some {cls:=.type "list",dict:=none,data:=.seq us.toArray m,slots:=sl}:=Yb _ hl;have hT:({s with heap:=s.heap.push {cls:=.type "dict",data:=.dict #[]}}:Shared).TypeIs (.ref l) "list":=⟨_,GJ,rfl⟩
 show⟨yw.typeIs,F.args_dict_init_2 _ _,?_⟩;unfold WX.«dict.__init__»;show Ya ?_;ext Builtin.Dict.selfAndRest;show Ya (VV yw.typeIs ?_);change wpAny _ _ (pure (s.heap.objs.size,[YN l])) _ _ _;show Yc ?_;change wpAny _ _ (Builtin.Dict.updateFrom "dict.__init__" s.heap.objs.size (.ref l) [] .none) _ _ _;ext Builtin.Dict.updateFrom;show Ya (Vb hT ?_);rw[if_pos 1e7];show Ya (nu GJ (by simp[hh]) λh1 tk1 k1=>?_);have yx:=k1 l _ GJ;have QL:h1.IsList l us.toArray:=⟨_,yx,rfl,m,rfl⟩
 have Dx:h1.DictOfH knd s.heap.objs.size []:=by
  obtain⟨o,es,ep,ho,hc,qf,he,JL,ox⟩:=yw;show⟨o,es,ep,k1 _ _ ho,hc,qf,he,λx hx=>(by cases hx),ox⟩
 show Xn (λ_=>?_) (λE7=>absurd rfl E7);show Ya (WP ?_);show Ya (VY QL ?_);have LK:s.heap.objs.size<h1.objs.size:=by obtain⟨o,es,ep,ho,_⟩:=Dx;show Ys ho
 have Oo:l<h1.objs.size:=Ys yx;have rE:l<s.heap.objs.size:=Ys hl;show Yc ⟨V0 Rp _,?_⟩;show yL ((Walks.list (by simp[hh]) _ l (Yw Oo) us.toArray).toS) s.heap.objs.size ?_ s.heap key (λi v hv=>?_) (λi h' hi k=>?_) (hu _ (by simp[X2])) (by simpa using hn) (us.toArray.size-0) 0 _ 1e0 (Y2 _)
  ⟨6e3,QL.push _⟩ (λb u n1 n2 e=>Yb _ (k1 b u (Yb _ e))) ?_ λs' hm hd=>?_
 ·simp only[Yk,Xy,or_false,not_or]
  show⟨Yw LK,XW rE⟩
 ·obtain⟨t,o,k,e,ho,hc,qf⟩:=hP i v (by simpa using hv)
  have ht:t<s.heap.objs.size:=Ys ho;show⟨t,o,k,e,ho,hc,qf,Yw ht,by simp only[Yk,Xy,or_false];show Yw (VN ht LK)⟩
 ·show hK i h' (by simpa using hi) λb u e=>k b u (Yw (Ys e)) ?_ e
  simp only[Yk,Xy,or_false];show Yw (VN (Ys e) LK)
 ·obtain⟨o,es,ep,ho,hc,qf,he,JL,ox⟩:=Dx
  show⟨o,es,ep,Yb _ ho,hc,qf,he,λx hx=>(by cases hx),ox⟩
 ·obtain⟨h',g',d',F',IC⟩:=s'
  have eg:g'=s.gens:=hm.gens;have ed:d'=s.drawn:=hm.drawn;have eo:IC=s.os:=hm.os;subst eg;subst ed;subst eo;rw[Yr]at hd;show⟨rfl,h h' F' (λb u e=>?_) hd⟩;have hb:=Ys e;show hm.heap b u (by simp only[Yk,Xy,or_false,not_or];show⟨Yw hb,Yw (VN hb LK)⟩) ?_;show Yb _ (k1 b u (Yb _ e))
end
def d7(h:Heap)(d:Addr)(es:Array Uv)(ep:Nat):Prop:=∃o,h.get? d=some o/\o.ExactDict/\o.data=.dict es ep
section
variable{prog:YF}{w:World}{A:Around}{E:1e1}{s:Shared}{d it:Addr}{es:Array Uv}{ep i:Nat}
theorem d7.at{h h':Heap}(x:d7 h d es ep)(e:∀o,h.get? d=some o->h'.get? d=some o):d7 h' d es ep:=let⟨o,ho,r⟩:=x;⟨o,e _ ho,r⟩
theorem d7.ty(x:d7 s.heap d es ep):s.TypeIs (.ref d) "dict":=let⟨o,ho,hc,_⟩:=x;⟨o,ho,hc.1⟩
theorem d7.lt{h:Heap}(x:d7 h d es ep):d<h.objs.size:=let⟨_,ho,_⟩:=x;Ys ho
theorem o5{Q:1e1}(lo:(d==XT)=false)(hm:d7 s.heap d es ep)
  (q:Q 5e1 {s with heap:=s.heap.push {cls:=.type "dict_keyiterator",data:=.fields #[.ref d,.int 0 0,.int es.size 0,.int ep 0]}}):wpAny (model prog w) A (pyIter (.ref d)) Q E s:=by
 have T:=hm.ty;obtain⟨o,ho,hc,hd⟩:=hm;show UN T F.slot_dict_iter (Xg F.slot_dict_iter T F.entry_dict_iter ?body (F.args_dict_iter_1 _))
 case body=>
  unfold WX.«dict.__iter__» Builtin.Dict.dictSlotNone;show Ya (Ya (VV T ?_));show Yc ?_
  ext UZ;simp only[lo,YD,if_false];show Ya (Yc ?_);show Ya ?_;rw[if_neg (show¬(d==XT)=true by rw[lo];decide)]
  show Yc ?_;show Ya (WQ ho hd (Ya (VW ho hd ?_)))
  show Ya (Y6 (Yc ⟨_,rfl,_,_,⟨_,Yg _ rfl,rfl⟩,We.lookup,?_⟩));simpa[rawInt]using q
theorem o6{e:Uv}{Q:Option Value->Shared->Prop}(hit:s.heap.IsKeyIter it d i es.size ep)(hm:d7 s.heap d es ep)(hx:es[i]? = some e)
  (q:∀h',h'.IsKeyIter it d (i+1) es.size ep->X6 it s.heap h'->Q (some e.key) {s with heap:=h'}):wpAny (model prog w) A (pyNext (.ref it)) Q E s:=by
 have T:=hit.typeIs;obtain⟨o,ho,hc,hd⟩:=hit;obtain⟨od,iH,kj,d9⟩:=hm;have bA:i<es.size:=by rcases YQ i es.size with z|z;show z;rw[YJ z]at hx;cases hx
 ext pyNext;show Ya (Vc (Xp (name:=WL "__next__") T We (Xg We T U7 ?body (U0 _))))
 case body=>
  show Ya (Yc (Ya (Ya (Ya (WF T (Yc ?_))))));show Ya (Vi ho hd ?_);have nD:Wg "dict_keyiterator"=false:=by decide
  rw[nD];change wpAny _ _ (if(YN d==Xf)=true then _ else _) _ _ s;rw[if_neg Yn];show Ya (Yc (Ya (WQ iH d9 ?_)))
  rw[if_neg 2e6];show Ya (Yc (Ya (VW iH d9 ?_)))
  rw[if_neg 2e6];show Yc ?_
  have T6:¬((i:Int)<0):=by lia
  simp only[T6,if_false,XV,hx];show Ya (Ya (WF T (Yc (Ya (wpAny_isOneOf_keyiter T ?_)))));change wpAny _ _ (setField (.ref it) 1 (rawInt ((i:Int)+1))>>=_) _ _ s;show Ya (Wy ho hd 2e6 ?_);have k2:(s.heap.update it (Wm (·.setIfInBounds 1 (rawInt ((i:Int)+1))))).IsKeyIter it d (i+1) es.size ep:=⟨_,Xk _ ho (WC (XA hd _)),(V2 ..).trans hc,by rw[XA hd];simp[rawInt]⟩
  show Ya (Xi (Ya (wpAny_isOneOf_keyiter (s:={s with heap:=s.heap.update it (Wm (·.setIfInBounds 1 (rawInt ((i:Int)+1))))}) k2.typeIs ?_)));change wpAny _ _ (pure e.key) _ _ _;show Yc (Yc ⟨_,rfl,Yc (q _ k2 (Y8 ..))⟩)
theorem vj{Q:Option Value->Shared->Prop}(hh:6e8)(hit:s.heap.IsKeyIter it d i es.size ep)(hm:d7 s.heap d es ep)(hx:es.size<=i)
  (q:∀h',Ru it s.heap h'->Q none {s with heap:=h'}):wpAny (model prog w) A (pyNext (.ref it)) Q E s:=by
 have T:=hit.typeIs;obtain⟨o,ho,hc,hd⟩:=hit;obtain⟨od,iH,kj,d9⟩:=hm;ext pyNext;show Ya (Vc (Xp (name:=WL "__next__") T We (Xg We T U7 ?body (U0 _))))
 case body=>
  show Ya (Yc (Ya (Ya (Ya (WF T (Yc ?_))))));show Ya (Vi ho hd ?_);have nD:Wg "dict_keyiterator"=false:=by decide
  rw[nD];change wpAny _ _ (if(YN d==Xf)=true then _ else _) _ _ s;rw[if_neg Yn];show Ya (Yc (Ya (WQ iH d9 ?_)))
  rw[if_neg 2e6];show Ya (Yc (Ya (VW iH d9 ?_)))
  rw[if_neg 2e6];show Yc ?_
  have T6:¬((i:Int)<0):=by lia
  simp only[T6,if_false,XV,YJ hx];show Ya (Ya (WF T (Yc ?_)));change wpAny _ _ (setField (.ref it) 0 .none>>=_) _ _ s;show Ya (Wy ho hd 2e6 ?_);change wpAny _ _ (newExc (.type "StopIteration") []>>=_) _ _ _;show Ya ?_;simp only[newExc,newTuple];show Ya (Y6 ?_ (by size_fits));show Ya (m:=Vj _ _) (P4 (a:=Xf) (by first|rfl|(simp only[Vj];rfl)) (Y6 ?_ (by size_fits)))
  ext raiseNew;show Ya (RE ?_);rw[show A.in1.handled=none from hh];show Ya (Yc (Rt ?_))
  show Ya (W5 (T:="StopIteration") (b:=true) ⟨_,Yg _ rfl,rfl⟩ RK ?_);show Yc (q _ (((Y8 ..).extBut.push _).push _))
theorem xD(hh:6e8)(I:Addr)(da:d≠I):
  Walks prog w A I [I,d] [I] es.size (λi v=>∃e,es[i]? = some e/\v=e.key) (λi h=>h.IsKeyIter I d i es.size ep/\d7 h d es ep) where
 sub:=λb hb=>by rw[Yi.mp hb];show YS
 frame:=λ_ _ _ st hk=>⟨st.1.at (hk I 6e9),st.2.at (hk d (.tail _ 6e9))⟩
 item:=λi s Q E hi st hQ=>by
  have hx:es[i]? = some es[i]:=Yh hi;show o6 st.1 st.2 hx λh' k2 sb=>hQ _ h' s.toks ⟨_,hx,rfl⟩ ⟨k2,st.2.at λo e=>sb.extBut d o da e⟩ λb o hb e=>sb.extBut b o (λz=>hb (Yi.mpr z)) e
 done:=λs Q E st hQ=>vj hh st.1 st.2 (Yl _) λh' x=>hQ h' s.toks λb o hb e=>x b o (λz=>hb (Yi.mpr z)) e
 self:=λ_ _ _ _ st hQ=>wpAny_pyIter_keyiter st.1 hQ
theorem vh(lo:(d==XT)=false):KdlSrc prog w "dict" d d es.size (λi v=>∃e,es[i]? = some e/\v=e.key) (λh=>d7 h d es ep) where
 type:=λ_ hm=>hm.ty
 there:=λ_ hm=>⟨hm.lt,hm.lt⟩
 keep:=λ_ _ hm hk=>hm.at (hk d 9e6)
 notList:=by decide
 notTuple:=by decide
 hint:=λ_ _ _ _ hm hq=>kdl_hint_dict hm.ty hq
 iter:=λ_ _ hh hm=>⟨_,_,λ_ _ hq=>o5 lo hm hq,xD hh _ (Yw hm.lt),6e3,hm.at λo e=>Yb _ e⟩
end
section
variable{prog:YF}{w:World}{A:Around}{E:1e1}{s:Shared}{T:String}{r d:Addr}{n:Nat}{P:Nat->Value->Prop}{OK:Heap->Prop}
theorem Fl{R:9e3}(K:KdlSrc prog w T r d n P OK)(hh:6e8)(aQ:OK s.heap)(S:Addr)(hSr:S≠r)(hSd:S≠d)(c₀:Nat)(hS:s.heap.get? S=some {cls:=.type "list",data:=.seq #[] c₀})(hn:n<=YA)
  (hR:∀h' tk acc c,(∀b o,b≠S->s.heap.get? b=some o->h'.get? b=some o)->h'.get? S=some {cls:=.type "list",dict:=none,data:=.seq acc c,slots:=#[]}->KZ P acc n->R (.ok (.ret (.ref S))) {s with heap:=h',toks:=tk}):
  WA 1e5 A (.builtin "list.__iadd__" ⟨[.ref S,.ref r],[]⟩) R s:=by
 show XQ Yce ?_;rw[Wq (show plainId "list.__iadd__"=true by decide +kernel) _];show kdl_extend K hh aQ S hSr hSd (.ref S) c₀ hS hR hn
theorem ZdB{Q:List Value->Shared->Prop}(K:KdlSrc prog w T r d n P OK)(hh:6e8)(aQ:OK s.heap)(hn:n<=YA)
  (h:∀h' tk acc,(∀b o,s.heap.get? b=some o->h'.get? b=some o)->s.heap.objs.size<=h'.objs.size->KZ P acc n->Q acc.toList {s with heap:=h',toks:=tk}):wpAny (model prog w) A (Hu (.ref r)) Q E s:=by
 ext Hu;show Ya (UU (XQ Yaa ?_));show Ya (UA (Yc ⟨UC _ 5e3,?_⟩));have hS:(s.heap.push (seqObj "list" #[] 0)).get? s.heap.objs.size=some {cls:=.type "list",data:=.seq #[] 0}:=Yg _ rfl;have bA:=K.there _ aQ;show Fl (s:={s with heap:=s.heap.push (seqObj "list" #[] 0)}) K hh (K.keep _ _ aQ λb _ o e=>Yb _ e) s.heap.objs.size (XW bA.1) (XW bA.2) 0 hS hn λh' tk acc c k e ai=>?_;show Ya (wpAny_load e ?_);show Yc (h h' tk acc (λb o z=>k b o (Yw (Ys z)) (Yb _ z)) (XN (Ys e)) ai)
end
end Pu
namespace Pu
open PySem PySem.Spec PySem.W PySem.Calls L2 PySem.SeqAt
open PyProof.Rows hiding St Fr
def tupK(k:6e6):PV:=.tup (k.map kP)
noncomputable def keyOk:Key->Bool
 |.inl _=>true
 |.inr x=>decide (x.length<=1000)
def keysOk(ks:5e4):Bool:=ks.all λk=>k.all keyOk
theorem Ik{K:W.Frag}{ι:2e1}{H:Hp}:∀{k:Key},keyOk k=true->Rep K ι H (kP k) (kV k)
 |.inl i,_=>kz
 |.inr x,h=>Ac (wj (of_decide_eq_true h))
theorem mO{K:W.Frag}{ι:2e1}{H:Hp}:∀{k:6e6},k.all keyOk=true->ab K ι H (k.map kP) (k.map kV)
 |[],_=>.nil
 |x::k,h=>by
  rw[V1,YI]at h;show .cons (Ik h.1) (mO h.2)
theorem o1{K:W.Frag}{ι:2e1}{H:Hp}{k:6e6}{b:Addr}(h:k.all keyOk=true)(e:H b=some (.tup (k.map kV))):Rep K ι H (tupK k) (.ref b):=by
 unfold tupK Rep;show⟨b,_,rfl,e,mO h⟩
theorem EU{K:W.Frag}{ι:2e1}{H:Hp}{ag:3e8}{xs:List 4e5}(r:KT H ag xs)(h:keysOk (ag.map (·.1))=true):ab K ι H (ag.map λq=>tupK q.1) (xs.map λx=>V.ref x.2.1):=by
 induction r with
 |nil=>show .nil
 |@cons p q ps qs a t ih=>
  rw[Yq]at h;ext keysOk h;rw[V1,YI]at h;show .cons (o1 h.1 a.2.1) (ih h.2)
theorem kY:∀(xs:List 4e5),Vals (xs.map λx=>V.ref x.2.1) (xs.map λx=>YN x.2.1)
 |[]=>.nil
 |x::xs=>.cons rfl (kY xs)
theorem yp{xs:List 4e5}{es:Array Uv}{prog:YF}{w:World}{acc:Array Value}(he:es.toList=xs.map (K8 (Vy (aD prog w))))(h:KZ (λi v=>∃e,es[i]? = some e/\v=e.key) acc es.size):acc.toList=xs.map λx=>YN x.2.1:=by
 have hl:es.size=xs.length:=UD he;apply XE;intro i;rw[YY,Yx];by_cases hi:i<acc.size
 ·obtain⟨e,e1,e2⟩:=h.2 i _ (Yh hi)
  rw[Yh hi,e2];rw[entry_at he]at e1;cases hx:xs[i]? with
  |none=>rw[hx]at e1;cases e1
  |some x=>rw[hx]at e1;cases e1;rfl
 ·rw[YJ 1e0,YK (by have:=h.1;lia)];rfl
section
variable{X:Cx}
def Ah(K:W.Frag):List V->Hp->VK->Prop:=λxs H Q=>∃p ag qs ι,xs=[.ref p]/\Rd H p (.dT ag)/\keysOk (ag.map (·.1))=true/\bN (ag.map λq=>tupK q.1)=some qs/\
 ∀zs l,ab K ι H qs zs->H l=none->Q (.ref l) (upd H l (.lst zs))
theorem nW(gW:5e0)(hu:5e6):cM X (.builtin "sorted") (Ah X.K):=by
 intro pins s σ H xs us Q I r h;obtain⟨p,ag,qs,ι,rfl,hq,JJ,hs,q⟩:=h;obtain⟨u,rfl,rx⟩:=vals1 r;cases rx;obtain⟨hz,lo,xs,kt,o,es,ep,ho,hex,zx,he,JL,ox⟩:=iB I.aQ hq;have hl:es.size=xs.length:=UD he;have nE:ag.length=xs.length:=Ww kt;show P0 hu I hs (λQ' q'=>ZdB (vh (es:=es) (ep:=ep) lo) (I.ok.hd gW) ⟨o,ho,hex,zx⟩ ?_ λh' tk acc k hle ai=>?_) q
 ·have h1:(ag.map λq=>tupK q.1).length<4096:=(Mc hs).2.2.1
  rw[Yj]at h1;rw[YZ];lia
 ·rw[yp he ai]
  show q' h' s.drawn tk _ _ _ k hle (.refl _) (kY xs) (EU kt JJ)
theorem qF{prog:YF}{w:World}{A:Around}{E:1e1}{s:Shared}{l:Addr}{vs:2e9}{Q:List Value->Shared->Prop}(ht:s.heap.IsTuple l vs.toArray)(hsz:vs.length<=YA)
  (h:∀h',(∀b o,s.heap.get? b=some o->h'.get? b=some o)->s.heap.objs.size<=h'.objs.size->Q vs {s with heap:=h'}):wpAny (model prog w) A (Hu (.ref l)) Q E s:=by
 obtain⟨o,ho,hc,n,hd⟩:=ht;have new:(s.heap.push (seqObj "list" #[] 0)).get? s.heap.objs.size=some (seqObj "list" #[] 0):=Yg _ rfl;have hk:=Yb (seqObj "list" #[] 0) ho;ext Hu;show Ya (UU (XQ Yaa (Ya (UA (Yc ⟨UC _ 5e3,XQ Yce ?_⟩)))));change wpAny _ _ (Xu 5e1 (.ref l) 5e1) _ _ {s with heap:=s.heap.push (seqObj "list" #[] 0)};ext Xu;show Ya (Vb (T:="tuple") ⟨o,hk,hc⟩ ?_);have yes:(WE 5e1 (.ref l)||XY "tuple"==XY "list"||XY "tuple"==XY "tuple")=true:=by rw[show(XY "tuple"==XY "tuple")=true by rfl,Bool.or_true]
 rw[if_pos yes];show Ya (Ry hk hd (Ya (Ry new rfl ?_)));rw[if_neg 2e6];show Ya (Qa new rfl ?_ (Y2 _) (by change(#[]++vs.toArray).size<=YA+1;simp;lia))
 have e2:=Uz new (λa=>a++vs.toArray);show Yc (Ya (wpAny_load e2 ?_));change wpAny _ _ (pure ((#[]:Array Value)++vs.toArray).toList) Q E _;rw[show((#[]:Array Value)++vs.toArray).toList=vs by simp];show Yc (h _ (λb u e=>?_) ?_)
 ·rw[W0 _ _ _ _ (Yw (Ys e))];show Yb _ e
 ·rw[Heap.size_update,size_push'];lia
def Af(K:W.Frag):List V->Hp->VK->Prop:=λxs H Q=>∃p ys ι ps qs,xs=[.ref p]/\kh K H p ys/\ab K ι H ps ys/\bN ps=some qs/\∀zs l,ab K ι H qs zs->H l=none->Q (.ref l) (upd H l (.lst zs))
theorem nU(hu:5e6):cM X (.builtin "sorted") (Af X.K):=by
 intro pins s σ H xs us Q I r h;obtain⟨p,ys,ι,ps,qs,rfl,hq,rs,hs,q⟩:=h;obtain⟨u,rfl,rx⟩:=vals1 r;cases rx;obtain⟨aw,r',pl,hz⟩:=I.tuple hq;show P0 hu I hs (λQ' q'=>qF pl ?_ λh' k hle=>q' h' s.drawn s.toks aw ps ys k hle (.refl _) r' rs) q;have h1:ps.length<4096:=(Mc hs).2.2.1;have:=rs.length;have:=r'.length;rw[YZ];lia
def jk(C:Cs):List SV->Option 3e0
 |[x]=>match aN C x with
  |some (.lst xs)=>bN xs
  |some (.tup xs)=>bN xs
  |some (.aG ks _)=>if keysOk ks then bN (ks.map tupK)else none
  |_=>none
 |_=>none
def pU(fs:1e9):aq->M 3e0:=λρ=>aI (fs ρ) λxs=>dM λC=>jk C xs
theorem ud{e:Expr}{es:3e4}{fs:1e9}{p pos:Pos}(gW:5e0)(hu:5e6)(i8:Gl X "sorted")(hm:X.mg "sorted"=none)(hv:XF "sorted"=some (.builtin "sorted"))(ha:AM X 4e4 fs)
  (he:1e4:=by rfl) (cE:2e4:=by rfl):FM X (.Call (.Name "sorted" p) 4e4 [] pos) (pU fs):=
 PE.imp (jC ((qK hu).or ((nU hu).or (nW gW hu))) i8 hm hv ha 1e7 1e7 he cE) λσ H Q h_=>by
  sleep 5;obtain⟨xs,C1,e1,e⟩:=bp e;obtain⟨e2,rfl⟩:=km e;show⟨ι,ρ,C,xs,_,sr,e1,λvs H1 f1 c1 r1=>?_⟩;ext jk e2;split at e2
  ·rename_i x
   obtain⟨v,w,rfl,r1,hw⟩:=r1;cases(show w=[]from hw);split at e2
   ·rename_i ps hd
    obtain⟨a,ws,rfl,h1,r2⟩:=dD (r1.lies c1 hd);show .inl ⟨a,ws,ι,ps,_,rfl,h1,r2,e2,λzs l hz hl=>q l _ H1 f1 c1 hl hz⟩
   ·rename_i ps hd
    obtain⟨a,ws,rfl,h1,r2⟩:=iz (r1.lies c1 hd);show .inr (.inl ⟨a,ws,ι,ps,_,rfl,h1.sq,r2,e2,λzs l hz hl=>q l _ H1 f1 c1 hl hz⟩)
   ·rename_i ks ps hd
    have li:=r1.lies c1 hd;cases li with
    |@aG a _ _ ws h1 hl r2=>
     by_cases hk:keysOk ks=true
     ·rw[if_pos hk]at e2
      have ek:((ks.zip ws).map λq=>tupK q.1)=ks.map tupK:=by
       have:(ks.zip ws).map Prod.fst=ks:=U8 1e0;show(Xd (f:=Prod.fst) (g:=tupK) (l:=ks.zip ws)).symm.trans (by rw[this])
      have ef:(ks.zip ws).map (·.1)=ks:=U8 1e0;show .inr (.inr ⟨a,ks.zip ws,_,ι,rfl,h1,by rw[ef];show hk,by rw[ek];show e2,λzs l hz hl=>q l _ H1 f1 c1 hl hz⟩)
     ·rw[if_neg hk]at e2;cases e2
   ·cases e2
  ·cases e2
end
noncomputable def bX {κ:Type} [DecidableEq κ](k:κ)(ks:List κ):Bool:=ks.any λa=>decide (a=k)
def aP{κ:Type} [DecidableEq κ](ks:List κ)(k:κ):List κ:=if bX k ks then ks else ks++[k]
def bo{κ:Type} [DecidableEq κ]{α:Type}(ks:List κ)(xs:List α)(k:κ)(x:α):List α:=if bX k ks then(ks.zip xs).map (λq=>if q.1=k then x else q.2)else xs++[x]
theorem Ma{κ:Type} [DecidableEq κ]{k:κ}{ks:List κ}:bX k ks=true↔k∈ks:=by
 ext bX;rw[Ud];constructor
 ·rintro⟨a,h,e⟩;rw[←of_decide_eq_true e];show h
 ·intro h;show⟨k,h,decide_eq_true rfl⟩
theorem Zc0{κ:Type} [DecidableEq κ]{k:κ}{v:V}:∀{ks:List κ}{vs:List V},ks.length=vs.length->((ks.zip vs).map λkv=>if kv.1=k then(kv.1,v)else kv)=ks.zip ((ks.zip vs).map λq=>if q.1=k then v else q.2)
 |[],vs,_=>by simp
 |a::ks,[],h=>by simp at h
 |a::ks,b::vs,h=>by
  rw[Xr,Yq,Yq,Xr,Zc0 7e6];by_cases e:a=k
  ·simp[e]
  ·simp[e]
theorem uY{κ:Type} [DecidableEq κ]{k:κ}:∀{ks:List κ}{vs:List V},ks.length=vs.length->((ks.zip vs).any λkv=>decide (kv.1=k))=bX k ks
 |[],vs,_=>by simp[bX]
 |a::ks,[],h=>by simp at h
 |a::ks,b::vs,h=>by
  rw[Xr,Wj,uY 7e6];ext bX;rw[Wj]
theorem iS{κ:Type} [DecidableEq κ]{k:κ}{v:V}{ks:List κ}{vs:List V}(h:ks.length=vs.length):putK (ks.zip vs) k v=(aP ks k).zip (bo ks vs k v)/\(aP ks k).length=(bo ks vs k v).length:=by
 unfold putK aP bo;rw[uY h];cases e:bX k ks with
 |true=>
  simp only[if_true];show⟨Zc0 h,?_⟩;rw[Yj,W3];lia
 |false=>
  simp only[YD,if_false];show⟨?_,by simp[h]⟩;rw[List.zip_append h];rfl
theorem jt{κ:Type} [DecidableEq κ]{K:W.Frag}{ι:2e1}{H:Hp}{k:κ}{p:PV}{v:V}(hp:Rep K ι H p v){ks:List κ}{ps:List PV}{vs:List V}(r:ab K ι H ps vs):ab K ι H (bo ks ps k p) (bo ks vs k v):=by
 ext bo;by_cases e:bX k ks=true
 ·rw[if_pos e,if_pos e]
  clear e;induction ks generalizing ps vs with
  |nil=>simp;show .nil
  |cons a ks ih=>
   cases ps with
   |nil=>rw[r.fP];simp;show .nil
   |cons q ps=>
    obtain⟨w,ws,rfl,h1,h2⟩:=r.inv;rw[Xr,Xr,Yq,Yq];show .cons ?_ (ih h2);by_cases z:a=k
    ·simp only[z,if_true];show hp
    ·simp only[z,if_false];show h1
 ·rw[if_neg e,if_neg e];show r.append (.cons hp .nil)
def bM{α:Type}:List (List Key×α)->List (List Key)->List α->List (List Key)×List α
  |[],ks,xs=>(ks,xs)
  |(k,x)::r,ks,xs=>bM r (aP ks k) (bo ks xs k x)
def gN(acc:3e8)(ag:3e8):List (List Key×V):=ag.foldl (λacc q=>putK acc q.1 q.2) acc
inductive gv(K:W.Frag)(ι:List Addr)(H:Hp):List (List Key×PV)->List (List Key×V)->Prop
 |nil:gv K ι H [] []
 |cons {k:List Key} {p:PV} {v:V} {a b}:Rep K ι H p v->gv K ι H a b->gv K ι H ((k,p)::a) ((k,v)::b)
theorem B1{K:W.Frag}{ι:2e1}{H:Hp}{qs:List (List Key×PV)}{ag:3e8}(r:gv K ι H qs ag):∀{ks:5e4}{ps:List PV}{vs:List V},ks.length=vs.length->ab K ι H ps vs->
  ∃ws,gN (ks.zip vs) ag=(bM qs ks ps).1.zip ws/\(bM qs ks ps).1.length=ws.length/\ab K ι H (bM qs ks ps).2 ws:=by
 induction r with
 |nil=>intro ks ps vs h r;show⟨vs,rfl,h,r⟩
 |cons hp t ih=>
  intro ks ps vs h r;obtain⟨e,l⟩:=iS (k:=_) (v:=_) h;obtain⟨ws,e1,e2,e3⟩:=ih l (jt hp r);show⟨ws,?_,e2,e3⟩;change gN (putK (ks.zip vs) _ _) _=_;rw[e];show e1
abbrev Lm(H:Hp):List (List Key×V)->List V->Prop:=Paired λq y=>∃t b,y=.ref t/\H t=some (.tup [.ref b,q.2])/\H b=some (.tup (q.1.map kV))
section
variable{X:Cx}
theorem xU{pins:1e8}{σ:St}{H:Hp}{s:Shared}(I:2e0){ag:3e8}{ys:List V}(pr:Lm H ag ys):∀{aw:2e9},Vals ys aw->
  ∃u5:List 4e5,KT H ag u5/\Paired (λ(x:List Key×Addr×Value) u=>∃t o n,u=YN t/\s.heap.get? t=some o/\o.cls=.type "tuple"/\o.data=.seq #[.ref x.2.1,x.2.2] n) u5 aw:=by
 induction pr with
 |nil=>intro aw r;cases r;show⟨[],.nil,.nil⟩
 |@cons q y qs ys h t ih=>
  intro aw r;cases r with
  |cons ru rt=>
   obtain⟨u5,k,p⟩:=ih rt;obtain⟨tt,b,rfl,e1,e2⟩:=h;cases ru;obtain⟨us,r2,⟨o,ho,hc,n,hd⟩,_⟩:=I.tuple (a:=tt) (.inl (.inl e1));cases r2 with
   |cons ra r3=>cases r3 with
    |cons rb r4=>
     cases r4;cases ra;show⟨(q.1,b,_)::u5,.cons ⟨rfl,e2,rb⟩ k,.cons ⟨tt,o,n,rfl,ho,hc,hd⟩ p⟩
theorem EV{H:Hp}{ag:3e8}{u5:List 4e5}(r:KT H ag u5):∀{acc:3e8}{xs:List 4e5},KT H acc xs->KT H (gN acc ag) (u5.foldl (λxs x=>Dg xs x.1 x.2.1 x.2.2) xs):=by
 induction r with
 |nil=>intro acc xs h;show h
 |@cons p q ps qs h t ih=>
  intro acc xs a;obtain⟨h1,h2,h3⟩:=h;show ih (acc:=putK acc p.1 p.2) ?_;have:=KT.put a p.1 (b:=q.2.1) (y:=p.2) (u:=q.2.2) h2 h3;rw[h1]at this⊢;show this
theorem lU:∀(ag acc:3e8),(gN acc ag).length<=acc.length+ag.length
 |[],acc=>by simp[gN]
 |q::ag,acc=>by
  have h1:=lU ag (putK acc q.1 q.2);have h2:=Ml acc q.1 q.2;change(gN (putK acc q.1 q.2) ag).length<=_;rw[Yv];lia
theorem t9{α:Type}(d:α):∀(l:List α),(YB l.length).map (λi=>l.getD i d)=l:=λl=>by
 apply XE;intro i;rw[Yx];by_cases hi:i<l.length
 ·rw[Vv hi];simp[hi]
 ·rw[YK 6e2,YK 1e0];rfl
def Ai(K:W.Frag):List V->Hp->VK->Prop:=λxs H Q=>∃p ys ag,xs=[.ref p]/\fH K H p ys/\Lm H ag ys/\ag.length<=1000/\∀l,H l=none->Q (.ref l) (upd H l (.dT (gN [] ag)))
theorem uB(gW:5e0)(hu:5e6):cM X (.type "dict") (Ai X.K):=by
 intro pins s σ H xs us Q I r h;obtain⟨p,ys,ag,rfl,hq,pr,Vag,q⟩:=h;obtain⟨u,rfl,rx⟩:=vals1 r;cases rx;obtain⟨aw,r',⟨o,n,ho,hc,QG,hd⟩,hz⟩:=I.list hq;obtain⟨u5,kt,pt⟩:=xU I pr r';have bA:u5.length=aw.length:=Ww pt;have Oq:ag.length=u5.length:=Ww kt;obtain⟨oc,od,odt,osl⟩:=o;simp only at hc QG hd;subst hc QG hd;have at':∀{a:List 4e5}{b:2e9},Paired (λ(x:List Key×Addr×Value) u=>∃t o n,u=YN t/\s.heap.get? t=some o/\o.cls=.type "tuple"/\o.data=.seq #[.ref x.2.1,x.2.2] n) a b->∀(i:Nat)(v:Value),b[i]? = some v->∃t o n,v=YN t/\s.heap.get? t=some o/\o.cls=.type "tuple"/\o.data=.seq #[.ref (a.getD i ([],0,.none)).2.1,(a.getD i ([],0,.none)).2.2] n:=by
  intro a b h;induction h with
  |nil=>intro i v e;simp at e
  |cons h t ih=>
   intro i v e;cases i with
   |zero=>simp at e;subst e;simpa using h
   |succ i=>simpa using ih i v (by simpa using e)
 have S9:∀{a:3e8}{b:List 4e5},KT H a b->∀i,i<b.length->H (b.getD i ([],0,.none)).2.1=some (.tup ((b.getD i ([],0,.none)).1.map kV)):=by
  intro a b h;induction h with
  |nil=>intro i e;simp at e
  |@cons p q ps qs h t ih=>
   intro i e;cases i with
   |zero=>simp only[List.getD_cons_zero];rw[←h.1];show h.2.1
   |succ i=>simpa using ih i (by simpa using e)
 show ZdD (knd:=Vy (aD X.prog X.w)) (I.ok.hd gW) ho (λi=>u5.getD i ([],0,.none)) (at' pt) (λi h' hi k=>?_) (λA' hA=>?_) (by rw[YZ];lia) λh' tk k dd=>?_
 ·obtain⟨_,ic,r2,o2,a1,a2,n2,a3⟩:=(show aY X.prog X.w H s.heap _ (.tup _)from I.aQ _ _ (S9 kt i 1e0))
  show⟨o2,ic.toArray,n2,k _ _ a1,a2,a3,by simpa using ZV r2⟩
 ·change A'.units<cLine
  show Uw hA 1e0
 ·have e1:putAll (λi=>u5.getD i ([],0,Xf)) aw.length=u5.foldl (λxs x=>Dg xs x.1 x.2.1 x.2.2) []:=by
   ext putAll;rw[←bA,t9]
  rw[e1]at dd;obtain⟨o3,es,ep,d1,d2,d3,d4,d5,d6⟩:=dd;have hfr:=I.aQ.fresh (Yl s.heap.objs.size);have kt2:KT H (gN [] ag) (u5.foldl (λxs x=>Dg xs x.1 x.2.1 x.2.2) []):=EV kt .nil;have hl:=lU ag [];show⟨.ref s.heap.objs.size,_,I.laid (a:=s.heap.objs.size) (t':=tk) k (Yl _) (show aY X.prog X.w _ h' _ (.dT (gN [] ag))from⟨?_,?_,_,kt2.keeps λb ys e=>?_,o3,es,ep,d1,d2,d3,d4,d6⟩),rfl,q _ hfr⟩
  ·rw[WB]at hl;rw[YZ];lia
  ·show beq_false_of_ne (XW I.big)
  ·rw[ba (gB e hfr)];show e
end
def bP:List PV->Option (List Key)
 |[]=>some []
 |p::r=>match yi p,bP r with
  |some k,some ks=>some (k::ks)
  |_,_=>none
def vA:PV->Option (List Key×PV)
 |.tup [.tup qs,v]=>(bP qs).map λk=>(k,v)
 |_=>none
def ia:List PV->Option (List (List Key×PV))
 |[]=>some []
 |p::r=>match vA p,ia r with
  |some k,some ks=>some (k::ks)
  |_,_=>none
section
variable{K:W.Frag}{ι:2e1}{H:Hp}
theorem Eb{x:PV}{v:V}{q:Key}(l:Rep K ι H x v)(h:yi x=some q):v=kV q:=pZ (Rep.lies l) h
theorem ZZ:∀{qs:List PV}{ws:List V}{k:6e6},ab K ι H qs ws->bP qs=some k->ws=k.map kV
 |[],ws,k,r,e=>by cases e;show r.fP
 |p::qs,ws,k,r,e=>by
  obtain⟨v,w,rfl,h1,h2⟩:=r.inv;ext bP e;split at e
  ·rename_i a b e1 e2
   cases e;rw[Eb h1 e1,ZZ h2 e2];rfl
  ·cases e
theorem Rf{qs:List PV}{k:6e6}{v:V}(r:Rep K ι H (.tup qs) v)(e:bP qs=some k):∃b,v=.ref b/\H b=some (.tup (k.map kV)):=by
 ext Rep r;obtain⟨b,ws,rfl,h,rs⟩:=r;rw[ZZ rs e]at h;show⟨b,rfl,h⟩
theorem ZdO:∀{ps:List PV}{ys:List V}{qs:List (List Key×PV)},ab K ι H ps ys->ia ps=some qs->∃ag,gv K ι H qs ag/\Lm H ag ys
 |[],ys,qs,r,e=>by cases e;rw[r.fP];show⟨[],.nil,.nil⟩
 |p::ps,ys,qs,r,e=>by
  obtain⟨y,ys,rfl,h1,h2⟩:=r.inv;ext ia e;split at e
  ·rename_i a b e1 e2
   cases e;obtain⟨ag,g1,g2⟩:=ZdO h2 e2;ext vA e1;split at e1
   ·rename_i us v
    cases hk:bP us with
    |none=>rw[hk]at e1;cases e1
    |some k=>
     rw[hk]at e1;cases e1;ext Rep h1;obtain⟨t,ws,rfl,ht,rs⟩:=h1;obtain⟨x1,w1,rfl,a1,rs⟩:=rs.inv;obtain⟨x2,w2,rfl,a2,rs⟩:=rs.inv;rw[rs.fP]at ht;obtain⟨b',rfl,hb⟩:=Rf a1 hk;show⟨(k,x2)::ag,.cons a2 g1,.cons ⟨t,b',rfl,ht,hb⟩ g2⟩
   ·cases e1
  ·cases e
theorem gv.length{qs:List (List Key×PV)}{ag:3e8}(r:gv K ι H qs ag):qs.length=ag.length:=by
 induction r with
 |nil=>rfl
 |cons _ _ ih=>rw[Yv,Yv,ih]
theorem CR.gC{C:Cs}(cr:7e7){a:Addr}(h:H a=none):a∉ι:=λz=>by
 rcases cr.mut z with⟨_,e⟩|⟨_,e⟩|⟨_,e⟩
 ·rw[h]at e;cases e
 ·rw[h]at e;cases e
 ·rw[h]at e;cases e
end
def ik(C:Cs):List SV->Option SV
 |[x]=>match aN C x with
  |some (.lst ps)=>match ia ps with
   |some qs=>if qs.length<=1000 then some (.v (.aG (bM qs [] []).1 (bM qs [] []).2))else none
   |none=>none
  |_=>none
 |_=>none
section
variable{X:Cx}{e o i:Expr}{es:3e4}{fs:1e9}{p pos pos':Pos}{x:Str}{fv fo fi:2e3}
theorem Cr:Dq X.K (Ai X.K) ik:=by
 intro ι H C xs vs z Q cr rs e k;ext ik e;split at e
 ·rename_i x
  obtain⟨v,w,rfl,r1,hw⟩:=rs;cases(show w=[]from hw);split at e
  ·rename_i ps hd
   obtain⟨a,ws,rfl,h1,r2⟩:=dD (r1.lies cr hd);split at e
   ·rename_i qs hq
    by_cases hl:qs.length<=1000
    ·rw[if_pos hl]at e;cases e
     obtain⟨ag,g1,g2⟩:=ZdO r2 hq;show⟨a,ws,ag,rfl,h1,g2,by rw[←g1.length];show hl,λl hn=>k _ _ (Fr.new hn) (cr.new hn) ?_⟩;obtain⟨us,e1,e2,e3⟩:=B1 g1 (ks:=[]) (ps:=[]) (vs:=[]) rfl .nil;change Rep _ _ _ (.aG _ _) _;ext Rep;show⟨l,us,rfl,cr.gC hn,by rw[←e1];show .inl fW,e2,ab.cW (λb o e=>by rw[ba (gB e hn)];show e) _ _ e3⟩
    ·rw[if_neg hl]at e;cases e
   ·cases e
  ·cases e
 ·cases e
noncomputable def vP (i:Nat):aq->M PF:=λρ C=>some (.nx (ρ.set i (some 9e7)),C++[.aG [] []])
def z8(v o i:SV)(ρ:aq):M PF:=λC=>match o,i,v with
 |.c k,.v (.tup qs),.v p=>match C[k]?,bP qs with
  |some (.aG ks ps),some key=>if ks.length<1000 then some (.nx ρ,C.set k (.aG (aP ks key) (bo ks ps key p)))else none
  |_,_=>none
 |_,_,_=>none
def i4(fv fo fi:2e3):aq->M PF:=λρ=>aI (fv ρ) λv=>aI (fo ρ) λo=>aI (fi ρ) λi=>z8 v o i ρ
theorem xw{v o i:SV}{ρ:aq}{C C2:Cs}{fl:PF}(h:z8 v o i ρ C=some (fl,C2)):∃k qs p ks ps key,o=.c k/\i=.v (.tup qs)/\v=.v p/\C[k]? = some (.aG ks ps)/\bP qs=some key/\ks.length<1000/\fl=.nx ρ/\C2=C.set k (.aG (aP ks key) (bo ks ps key p)):=by
 ext z8 h;split at h
 ·split at h
  ·split at h
   ·cases h;show⟨_,_,_,_,_,_,rfl,rfl,rfl,by assumption,by assumption,by assumption,rfl,rfl⟩
   ·cases h
  ·cases h
 ·cases h
end
noncomputable def cK:List (List Key)->List PV->List Key->Option PV
 |k::ks,v::vs,q=>if k=q then some v else cK ks vs q
 |_,_,_=>none
theorem lH{K:W.Frag}{ι:2e1}{H:Hp}{q:6e6}:∀{ks:5e4}{ps:List PV}{vs:List V},ks.length=vs.length->ab K ι H ps vs->
  (∀z,cK ks ps q=some z->∃v,dy (ks.zip vs) q=some v/\Rep K ι H z v)/\(dy (ks.zip vs) q).isSome=bX q ks:=by
 intro ks;induction ks with
 |nil=>
  intro ps vs hl r;show⟨λz h=>?_,rfl⟩;cases ps<;>cases h
 |cons k ks ih=>
  intro ps vs hl r;cases ps with
  |nil=>rw[r.fP]at hl;cases hl
  |cons p ps=>
   obtain⟨v,w,rfl,h1,h2⟩:=r.inv;have ih:=ih (by simpa using hl) h2;rw[Xr];unfold cK bX;rw[Wj];by_cases h:k=q
   ·rw[if_pos h,Mj (p:=(k,v)) h,decide_eq_true h]
    show⟨λz e=>by cases e;show⟨v,rfl,h1⟩,rfl⟩
   ·rw[if_neg h,Mi (p:=(k,v)) h,decide_eq_false h]
    show⟨ih.1,by rw[ih.2];rfl⟩
theorem G6{H:Hp}{a b:Addr}{ag:3e8}{k:6e6}(e:Rd H a (.dT ag))(eb:H b=some (.tup (k.map kV))):kW H a (.ref b) (dy ag k):=.inr ⟨ag,k,b,e,rfl,eb,rfl⟩
theorem tL{K:W.Frag}{ι:2e1}{H:Hp}{ks:5e4}{ps:List PV}{v:V}(l:Lies K ι H (.aG ks ps) v):∃(a:Addr)(vs:List V),v=.ref a/\Rd H a (.dT (ks.zip vs))/\ks.length=vs.length/\ab K ι H ps vs:=by
 cases l;show⟨_,_,rfl,by assumption,by assumption,by assumption⟩
theorem lK{K:W.Frag}{ι:2e1}{H:Hp}{qs:List PV}{k:6e6}{v:V}(l:Lies K ι H (.tup qs) v)(e:bP qs=some k):∃b,v=.ref b/\H b=some (.tup (k.map kV)):=by
 obtain⟨b,ws,rfl,h,rs⟩:=iz l;rw[ZZ rs e]at h;show⟨b,rfl,h⟩
def cJ(neg:Bool)(x y:PV):Option PV:=match x,y with
 |.tup qs,.aG ks _=>match bP qs with
  |some k=>some (.bl (if neg then !bX k ks else bX k ks))
  |none=>none
 |_,_=>none
section
variable{X:Cx}{a b:Expr}{fa fb:2e3}{pos:Pos}
noncomputable def Im (neg:Bool):R2:=λx y H Q=>∃p o,y=.ref p/\kW H p x o/\Q (.bl (if neg then !o.isSome else o.isSome)) H
theorem L8(hu:5e6):gf X (Va .In) (Im false):=by
 sleep 7;obtain⟨p,o,rfl,g,q⟩:=h;cases ry;show ZK 1e0 I g rx λs' I'=>⟨.bl o.isSome,H,I',rfl,q⟩
theorem xV(hu:5e6):gf X (Va .NotIn) (Im true):=by
 sleep 7;obtain⟨p,o,rfl,g,q⟩:=h;cases ry;show FA 1e0 I g rx λs' I'=>⟨.bl (!o.isSome),H,I',rfl,q⟩
theorem KD{neg:Bool}:gV X.K (Im neg) (cJ neg):=by
 intro ι H C p q vx vy z Q cr lx ly e k;ext cJ e;split at e
 ·split at e
  ·rename_i key hk
   cases e;obtain⟨b,rfl,hb⟩:=lK lx hk;obtain⟨a,vs,rfl,hd,hl,r⟩:=tL ly;show⟨a,_,rfl,G6 hd hb,?_⟩;rw[(lH hl r).2];show k _ H .refl cr iq
  ·cases e
 ·cases e
def gH(x y:PV):Option PV:=match x with
 |.aG ks vs=>match y with
  |.tup qs=>match bP qs with
   |some q=>cK ks vs q
   |none=>none
  |_=>none
 |x=>gI x y
theorem Jt:gV X.K (λx y H Q=>Qp X.K x y H Q\/Aj x y H Q) gH:=by
 intro ι H C p q vx vy z Q cr lx ly e k;ext gH e;split at e
 ·split at e
  ·split at e
   ·rename_i key hk
    obtain⟨a,ws,rfl,hd,hl,r⟩:=tL lx;obtain⟨b,rfl,hb⟩:=lK ly hk;obtain⟨v,hv,rv⟩:=(lH hl r).1 z e;show .inr ⟨a,v,rfl,by rw[←hv];show G6 hd hb,k v H .refl cr rv⟩
   ·cases e
  ·cases e
 ·show Bz ι H C p q vx vy z Q cr lx ly e k
end
section
variable{X:Cx}{pos:Pos}{c:Expr}{f:7e4}{body:List Stmt}
def gg(t:4e1)(f:7e4):Nat->aq->M PF
 |0,_=>λ_=>none
 |n+1,ρ=>aI (t ρ) λb=>if b then aI (f ρ) (λfl=>match fl with
   |.nx ρ2=>gg t f n ρ2
   |.ct ρ2=>gg t f n ρ2
   |.bk ρ2=>Pu.ret (.nx ρ2)
   |.rt r=>Pu.ret (.rt r)
   |.rf ps=>Pu.ret (.rf ps)
   |.rq ps=>Pu.ret (.rq ps))else Pu.ret (.nx ρ)
def nh(t:4e1)(f:7e4):aq->M PF:=gg t f 1000
end
section
variable{X:Cx}{e:Expr}{es:3e4}{fs:1e9}{p pos:Pos}
theorem range_any(bs:List Bool):((YB bs.length).any λi=>bs.getD i false)=bs.any id:=by
 rw[WU];simp only[Ud,Y3];constructor
 ·rintro⟨i,hi,h⟩
  rw[Yt,Ye hi]at h;show⟨_,Wr hi,by simpa using h⟩
 ·rintro⟨b,hb,h⟩
  obtain⟨i,hi,e⟩:=XO hb;show⟨i,hi,?_⟩;rw[Yt,Ye hi];subst e;simpa using h
theorem qL(hc:5e0):cM X (.builtin "any") (λxs H Q=>∃(a:Addr)(bs:List Bool),xs=[.ref a]/\fH X.K H a (bs.map V.bl)/\Q (.bl (bs.any id)) H):=by
 intro pins s σ H xs us Q I r h;obtain⟨a,bs,rfl,hq,q⟩:=h;obtain⟨u,rfl,ru⟩:=Vals.one r;cases(show u=YN a from ru);obtain⟨aw,rv,p,hz⟩:=I.list hq;have bA:a<s.heap.objs.size:=by obtain⟨o,e,_⟩:=p.isList;show Ys e
 show call_any_walk (VY p.isList ?_);have hlen:aw.toArray.size=bs.length:=by have:=rv.length;simp at this;simp[this]
 show⟨s.heap.objs.size,_,_,aw.toArray.size,_,_,λi=>bs.getD i false,rfl,Walks.list (by show I.ok.hd hc) s.heap.objs.size a (Yw bA) aw.toArray,⟨6e3,p.isList.push _⟩,?_,?_⟩
 ·intro i v s' Q' E' hv Zn
  have hi:i<bs.length:=by
   rw[←hlen];show(Yau.mp hv).1
  obtain⟨u,e1,r1⟩:=rv.get (i:=i) (x:=V.bl bs[i]) (by simp[hi]);have e2:aw[i]? = some v:=by simpa using hv
  rw[e1]at e2;have e3:u=v:=YR e2;have e4:u=Uf bs[i]:=r1;rw[←e3,e4];show VX ?_;have:bs.getD i false=bs[i]:=by rw[Yt,Ye hi];rfl
  have OR:Q' (bs.getD i false) s':=Zn;rw[this]at OR;show OR
 ·intro h' tk kk
  show⟨.bl _,H,I.kept λb o e=>kk b o (λz=>?_) (Yb _ e),?_,q⟩
  ·have:b=s.heap.objs.size:=by simpa using z
   show absurd this (Yw (Ys e))
  ·change Uf _=Uf _
   rw[hlen,range_any]
def CY:List PV->Option PV
 |[.lst xs]=>(dH xs).map λbs=>.bl (bs.any id)
 |_=>none
theorem Kz:zf X.K (λxs H Q=>∃(a:Addr)(bs:List Bool),xs=[.ref a]/\fH X.K H a (bs.map V.bl)/\Q (.bl (bs.any id)) H) CY:=by
 intro ι H C ps vs z Q cr ls e k;ext CY e;split at e
 ·rename_i xs
  cases ls with
  |cons l t=>
   cases t;obtain⟨a,ws,rfl,h1,r1⟩:=dD l;cases hb:dH xs with
   |none=>rw[hb]at e;cases e
   |some bs=>
    rw[hb]at e;cases e;show⟨a,bs,rfl,by rw[←Z2 r1 hb];show h1,k _ H .refl cr iq⟩
 ·cases e
end
end Pu
namespace Se
open PySem PySem.Spec L2
section
variable{prog:YF}{w:World}{A:Around}{E:1e1}{s:Shared}
theorem TI.fresh(led:Bool):TI (.fresh 0 0 led) #[]:=⟨⟨.inl rfl,rfl,λa b x y _ h=>by simp[SetTable.fresh]at h,rfl,λi j h=>by simp[SetTable.fresh]at h,λi j e h=>by simp[SetTable.fresh]at h⟩,by change 0*5<7*3;decide⟩
end
end Se
namespace Se
open PySem PySem.SetTable
section
variable{α:Type}{M:Model}{A:Around}{E:1e1}
theorem mr{src:Source}{n:Nat}{s:Shared}{Q:Nat->Shared->Prop}(hn:n≠0)(h:∀i d,i<n->Q i {s with drawn:=d}):wpAny M A (choose src n) Q E s:=λΓ p hΓ=>by
 ext choose;rw[Sem.wp_choose];show⟨hn,h _ _ (VF _ (Nat.pos_of_ne_zero hn))⟩
theorem Z3:∀{l:List α}{i:Nat}{x:α},l[i]? = some x->(x::l.eraseIdx i).Perm l
 |[],_,_,h=>by simp at h
 |y::l,0,x,h=>by simp at h;subst h;simp
 |y::l,i+1,x,h=>by
  have:=Z3 (l:=l) (i:=i) 7e6;rw[List.eraseIdx_cons_succ];show(List.Perm.swap y x _).trans (this.cons y)
theorem Zco:∀(n:Nat)(xs:List α)(s:Shared)(Q:List α->Shared->Prop),xs.length=n->(∀ys d,ys.Perm xs->Q ys {s with drawn:=d})->wpAny M A (drawOrder n xs) Q E s
 |0,xs,s,Q,hn,h=>by
  have:xs=[]:=WK.mp hn;subst this;ext drawOrder;show Yc (h [] s.drawn (.refl _))
 |n+1,[],s,Q,hn,h=>by simp at hn
 |n+1,x0::xs0,s,Q,hn,h=>by
  ext drawOrder;generalize LA:x0::xs0=xs at *;show Ya (mr 1e0 λi d hi=>?_);obtain⟨x,hx⟩:∃x,xs[i]? = some x:=⟨_,Ye hi⟩
  rw[hx];sleep 6;show Ya (Zco n (xs.eraseIdx i) _ _ (by rw[Yaw hi];lia) λys d' hp=>Yc (h (x::ys) d' ?_));show(hp.cons x).trans (Z3 hx)
theorem vt{next:Nat->Nat}:∀(fuel k:Nat)(left:List α)(out:Array α),left.length=fuel->(pickOrder.go next fuel k left out).toList.Perm (out.toList++left)
 |0,k,left,out,h=>by
  have:left=[]:=WK.mp h;subst this;ext pickOrder.go;simp
 |f+1,k,left,out,h=>by
  ext pickOrder.go;have hi:next k%left.length<left.length:=VF _ 1e0
  obtain⟨x,hx⟩:∃x,left[next k%left.length]? = some x:=⟨_,Ye hi⟩
  rw[hx];sleep 6;show(vt f (k+1) _ _ (by rw[Yaw hi];lia)).trans ?_;rw[Ybl,Yd];show(Z3 hx).append_left _
theorem xS{next:Nat->Nat}(xs:Array α):(Mq next xs).toList.Perm xs.toList:=by
 have:=vt (next:=next) xs.size 0 xs.toList #[] 2e6;simpa[Mq]using this
end
theorem Dc:Slot "set_iterator" "__next__" "set_iterator.__next__":=
 .of (owner:="set_iterator") (n:="__next__") (by rw[UB,Ve];kernel_rfl) 5e3 5e3 5e3
  (by first|show .inl 5e3|show .inr 5e3) (by rw[V9];kernel_rfl)
theorem Rq:entryFor table "set_iterator.__next__"=some WX.«set_iterator.__next__»:=entryFor_of_tree (by kernel_rfl)
theorem Zbf:Manifest.owners.lookup (String.ofList ['r','o','t','a','r','e','t','i','_','t','e','s'].reverse)=some Manifest.sig_set_iterator:=by kernel_rfl
theorem Rr(a:Value):argsOk "set_iterator.__next__" ⟨[a],[]⟩:=by
 ext argsOk;rw[signature?_of (id:="set_iterator.__next__") (n:=['_','_','t','x','e','n','_','_']) (o:=['r','o','t','a','r','e','t','i','_','t','e','s']) (by kernel_rfl) Zbf];kernel_rfl
theorem ZdJ:entryFor table "set.__iter__"=some WX.«frozenset.__iter__»:=entryFor_alias (id':="frozenset.__iter__") (by kernel_rfl) rfl 5e3 (by kernel_rfl)
def aS(h:Heap)(I:Addr)(first:Value)(i:Nat)(a:Addr)(n ep:Nat):Prop:=∃o,h.get? I=some o/\o.cls=.type "set_iterator"/\o.data=.fields #[first,.int i 0,.ref a,.int n 0,.int ep 0]
theorem aS.at{h h':Heap}{I a:Addr}{f:Value}{i n ep:Nat}(x:aS h I f i a n ep)(g:∀o,h.get? I=some o->h'.get? I=some o):aS h' I f i a n ep:=let⟨o,ho,r⟩:=x;⟨o,g _ ho,r⟩
end Se
namespace Se
open PySem PySem.SetTable PySem.W
open PyProof.Rows hiding St Fr
def dZ(h:Heap)(a:Addr)(es:5e9)(ep:Nat)(t:Wc):Prop:=∃o,h.get? a=some o/\o.ExactSet/\o.data=.set es ep t
theorem dZ.at{h h':Heap}{a:Addr}{es:5e9}{ep:Nat}{t:Wc}(x:dZ h a es ep t)(g:∀o,h.get? a=some o->h'.get? a=some o):dZ h' a es ep t:=let⟨o,ho,r⟩:=x;⟨o,g _ ho,r⟩
section
variable{prog:YF}{w:World}{A:Around}{E:1e1}{s:Shared}{I a T:Addr}{es:5e9}{ep i:Nat}{t:Wc}
theorem dZ.ty(x:dZ s.heap a es ep t):s.TypeIs 9e8 "set":=let⟨o,ho,hc,_⟩:=x;⟨o,ho,hc.1⟩
theorem dZ.lt{h:Heap}(x:dZ h a es ep t):a<h.objs.size:=let⟨_,ho,_⟩:=x;Ys ho
theorem aS.ty{f:Value}{n:Nat}(x:aS s.heap I f i a n ep):s.TypeIs (.ref I) "set_iterator":=let⟨o,ho,hc,_⟩:=x;⟨o,ho,hc⟩
theorem lD{slot nx:Nat}{x:Value}{Q:Option Value->Shared->Prop}(hit:aS s.heap I (.int slot 0) i a es.size ep)(hm:dZ s.heap a es ep t)(hf:t.fits es.size=true)
  (hn:∀(A':Around)(Q':Option (Value×Nat)->Shared->Prop)(E':1e1),Q' (some (x,nx)) s->wpAny 1e5 A' (setNext a slot i ep) Q' E' s)
  (q:∀h',aS h' I (.int nx 0) (i+1) a es.size ep->X6 I s.heap h'->Q (some x) {s with heap:=h'}):wpAny (model prog w) A (pyNext (.ref I)) Q E s:=by
 have Ty:=hit.ty;obtain⟨o,ho,hc,hd⟩:=hit;obtain⟨od,iH,kj,d9⟩:=hm;ext pyNext;show Ya (Vc (Xp (name:=WL "__next__") Ty Dc (Xg Dc Ty Rq ?body (Rr _))))
 case body=>
  unfold WX.«set_iterator.__next__»;show Ya (Yc ?_);show Ya (Vi ho hd ?_);ext P2;show Ya (Ya (Xa iH d9 hf (Yc ?_)));rw[if_neg 2e6];sleep 6;simp only[XV];show Ya (hn _ _ _ ?_);sleep 6;show Ya (Wy ho hd 2e6 ?_);have g1:=Xk (Wm (·.setIfInBounds 0 (rawInt nx))) ho (WC (XA hd _));have d1:(Wm (·.setIfInBounds 0 (rawInt nx)) o).data=.fields #[.int nx 0,.int i 0,.ref a,.int es.size 0,.int ep 0]:=by rw[XA hd];simp[rawInt]
  show Ya (Wy (s:={s with heap:=s.heap.update I (Wm (·.setIfInBounds 0 (rawInt nx)))}) g1 d1 (by simp) ?_);have g2:=Xk (Wm (·.setIfInBounds 1 (rawInt ((i:Int)+1)))) g1 (WC (XA d1 _));show Yc ⟨_,rfl,Yc (q _ ⟨_,g2,by rw[V2,V2];show hc,by rw[XA d1];simp[rawInt]⟩ ((Y8 ..).trans (Y8 ..)))⟩
theorem qm{slot:Nat}{Q:Option Value->Shared->Prop}(hh:6e8)(hit:aS s.heap I (.int slot 0) i a es.size ep)(hm:dZ s.heap a es ep t)(hf:t.fits es.size=true)
  (hn:∀(A':Around)(Q':Option (Value×Nat)->Shared->Prop)(E':1e1),Q' none s->wpAny 1e5 A' (setNext a slot i ep) Q' E' s)
  (q:∀h',Ru I s.heap h'->Q none {s with heap:=h'}):wpAny (model prog w) A (pyNext (.ref I)) Q E s:=by
 have Ty:=hit.ty;obtain⟨o,ho,hc,hd⟩:=hit;obtain⟨od,iH,kj,d9⟩:=hm;ext pyNext;show Ya (Vc (Xp (name:=WL "__next__") Ty Dc (Xg Dc Ty Rq ?body (Rr _))))
 case body=>
  unfold WX.«set_iterator.__next__»;show Ya (Yc ?_);show Ya (Vi ho hd ?_);ext P2;show Ya (Ya (Xa iH d9 hf (Yc ?_)));rw[if_neg 2e6];sleep 6;simp only[XV];show Ya (hn _ _ _ ?_);sleep 6;show Ya (Wy ho hd 2e6 ?_);change wpAny _ _ (newExc (.type "StopIteration") []>>=_) _ _ _;show Ya ?_;simp only[newExc,newTuple];show Ya (Y6 ?_ (by size_fits));show Ya (m:=Vj _ _) (P4 (a:=Xf) (by first|rfl|(simp only[Vj];rfl)) (Y6 ?_ (by size_fits)))
  ext raiseNew;show Ya (RE ?_);rw[show A.in1.handled=none from hh];show Ya (Yc (Rt ?_))
  show Ya (W5 (T:="StopIteration") (b:=true) ⟨_,Yg _ rfl,rfl⟩ RK ?_);show Yc (q _ (((Y8 ..).extBut.push _).push _))
theorem AY{places:Array Value}{o':Obj}{pl c:Nat}{e:Int×Value}{Q:Option Value->Shared->Prop}(hit:aS s.heap I (.ref T) i a es.size ep)(hm:dZ s.heap a es ep t)(hf:t.fits es.size=true)(hT:s.heap.get? T=some o')(Zi:o'.data=.seq places c)
  (hp:places[i]? = some (.int pl 0)) (he:es[pl]? = some e)
  (q:∀h',aS h' I (.ref T) (i+1) a es.size ep->X6 I s.heap h'->Q (some e.2) {s with heap:=h'}):wpAny (model prog w) A (pyNext (.ref I)) Q E s:=by
 have Ty:=hit.ty;obtain⟨o,ho,hc,hd⟩:=hit;obtain⟨od,iH,kj,d9⟩:=hm;ext pyNext;show Ya (Vc (Xp (name:=WL "__next__") Ty Dc (Xg Dc Ty Rq ?body (Rr _))))
 case body=>
  unfold WX.«set_iterator.__next__»;show Ya (Yc ?_);show Ya (Vi ho hd ?_);ext P2;show Ya (Ya (Xa iH d9 hf (Yc ?_)));rw[if_neg 2e6];sleep 6;show Ya (VG hT Zi ?_);simp only[XV,hp];ext setNextDrawn;show Ya (Ya (Xa iH d9 hf ?_));sleep 6;rw[if_neg 2e6,he];show Yc ?_;show Ya (Wy ho hd 2e6 ?_);have g2:=Xk (Wm (·.setIfInBounds 1 (rawInt ((i:Int)+1)))) ho (WC (XA hd _));show Yc ⟨_,rfl,Yc (q _ ⟨_,g2,by rw[V2];show hc,by rw[XA hd];simp[rawInt]⟩ (Y8 ..))⟩
theorem Fp{places:Array Value}{o':Obj}{c:Nat}{Q:Option Value->Shared->Prop}(hh:6e8)(hit:aS s.heap I (.ref T) i a es.size ep)(hm:dZ s.heap a es ep t)(hf:t.fits es.size=true)(hT:s.heap.get? T=some o')(Zi:o'.data=.seq places c)
  (hp:places.size<=i)
  (q:∀h',Ru I s.heap h'->Q none {s with heap:=h'}):wpAny (model prog w) A (pyNext (.ref I)) Q E s:=by
 have Ty:=hit.ty;obtain⟨o,ho,hc,hd⟩:=hit;obtain⟨od,iH,kj,d9⟩:=hm;ext pyNext;show Ya (Vc (Xp (name:=WL "__next__") Ty Dc (Xg Dc Ty Rq ?body (Rr _))))
 case body=>
  unfold WX.«set_iterator.__next__»;show Ya (Yc ?_);show Ya (Vi ho hd ?_);ext P2;show Ya (Ya (Xa iH d9 hf (Yc ?_)));rw[if_neg 2e6];sleep 6;show Ya (VG hT Zi ?_);simp only[XV,YJ hp];show Ya (Wy ho hd 2e6 ?_);have g1:=Xk (Wm (·.setIfInBounds 0 (rawInt 0))) ho (WC (XA hd _));have d1:=XA hd (·.setIfInBounds 0 (rawInt 0));show Ya (Wy (s:={s with heap:=s.heap.update I (Wm (·.setIfInBounds 0 (rawInt 0)))}) g1 d1 (by simp) ?_);change wpAny _ _ (newExc (.type "StopIteration") []>>=_) _ _ _;show Ya ?_;simp only[newExc,newTuple];show Ya (Y6 ?_ (by size_fits));show Ya (m:=Vj _ _) (P4 (a:=Xf) (by first|rfl|(simp only[Vj];rfl)) (Y6 ?_ (by size_fits)))
  ext raiseNew;show Ya (RE ?_);rw[show A.in1.handled=none from hh];show Ya (Yc (Rt ?_))
  show Ya (W5 (T:="StopIteration") (b:=true) ⟨_,Yg _ rfl,rfl⟩ RK ?_);show Yc (q _ ((((Y8 ..).trans (Y8 ..)).extBut.push _).push _))
theorem Zc1{slot uh:Nat}{Q:Option (Value×Nat)->Shared->Prop}(hb:w.params.followText "set-order"=false)(hm:dZ s.heap a es ep t)(hf:t.fits es.size=true)(ox:(!t.plain&&decide (es.size>1))=false)(hl:t.led=true)
  (q:Q (match es[below t.place slot]?,t.place[below t.place slot]? with|some (_,x),some j=>some (x,j+1)|_,_=>none) s):wpAny (model prog w) A (setNext a slot i uh) Q E s:=by
 obtain⟨od,iH,kj,d9⟩:=hm;unfold setNext setsByText;show Ya (Xa iH d9 hf ?_);sleep 6;show Ya (Ya (W6 (Yc ?_)));show Xn (λdN=>absurd (dN.symm.trans (show _=false from hb)) 1e7) (λ_=>?_);show Xn (λdN=>absurd (dN.symm.trans (show _=false from ox)) 1e7) (λ_=>?_);show Ya (Xn (λdN=>absurd dN (by rw[hl];simp)) (λ_=>Yc ?_));show Yc q
theorem ZcH{slot:Nat}{Q:Option (Value×Nat)->Shared->Prop}(hb:w.params.followText "set-order"=true)(hm:dZ s.heap a es ep t)(hf:t.fits es.size=true)
  (q:Q (((Mq (w.params.setOrder a ep) es)[i]?).map λe=>(e.2,slot)) s):wpAny 1e5 A (setNext a slot i ep) Q E s:=by
 obtain⟨od,iH,kj,d9⟩:=hm;unfold setNext setsByText;show Ya (Xa iH d9 hf ?_);sleep 6;show Ya (Ya (W6 (Yc ?_)));show Xn (λ_=>?_) (λdN=>absurd hb dN);show Xn (λdN=>absurd dN 2e6) (λ_=>?_);unfold setWalk setsByText;show Ya (Ya (Xa iH d9 hf ?_));sleep 6;show Ya (Ya (W6 (Yc ?_)));show Xn (λ_=>?_) (λdN=>absurd hb dN);show Ya (W6 (Yc ?_));show Yc q
end
theorem uH{xs:Array Nat}(hr:aR xs):below xs 0=0:=by
 obtain⟨h1,h2,h3⟩:=Q2 hr 0;rcases Nat.eq_zero_or_pos (below xs 0)with z|z
 ·show z
 ·have bA:0<xs.size:=Yz z h3
  show absurd (h1 0 _ z (Yh bA)) (WW _)
theorem uI{xs:Array Nat}(hr:aR xs){i j:Nat}(e:xs[i]? = some j):below xs (j+1)=i+1:=by
 obtain⟨h1,h2,h3⟩:=Q2 hr (j+1);rcases VZ (below xs (j+1)) (i+1)with z|z|z
 ·have:=h2 i j 1e0 e;lia
 ·show z
 ·have bA:i+1<xs.size:=Yz z h3
  have a:=h1 (i+1) _ z (Yh bA);have b:=hr i (i+1) _ _ 1e0 e (Yh bA);lia
section
variable{prog:YF}{w:World}{A:Around}{E:1e1}{s:Shared}{I a T:Addr}{es:5e9}{ep i:Nat}{t:Wc}
abbrev PA(arr:5e9):Nat->Value->Prop:=λi v=>∃e,arr[i]? = some e/\v=e.2
theorem ZaP:Slot "set_iterator" "__iter__" "set_iterator.__iter__":=
 .of (owner:="set_iterator") (n:="__iter__") (by rw[UB,Ve];kernel_rfl) 5e3 5e3 5e3
  (by first|show .inl 5e3|show .inr 5e3) (by rw[V9];kernel_rfl)
theorem Zby:entryFor table "set_iterator.__iter__"=some WX.«dict_keyiterator.__iter__»:=entryFor_alias (id':="dict_keyiterator.__iter__") (by kernel_rfl) rfl 5e3 (by kernel_rfl)
theorem Zbr(a:Value):argsOk "set_iterator.__iter__" ⟨[a],[]⟩:=by
 ext argsOk;rw[signature?_of (id:="set_iterator.__iter__") (n:=['_','_','r','e','t','i','_','_']) (o:=['r','o','t','a','r','e','t','i','_','t','e','s']) (by kernel_rfl) Zbf];kernel_rfl
theorem Zb1{f:Value}{n:Nat}{Q:1e1}(hit:aS s.heap I f i a n ep)(h:Q (.ref I) s):wpAny 1e5 A (pyIter (.ref I)) Q E s:=by
 show UN hit.ty ZaP (Xg ZaP hit.ty Zby ?_ (Zbr _));change wpAny _ _ (ret (.ref I)) _ _ s;show Yc ⟨_,rfl,"set_iterator",_,hit.ty,Dc.lookup,h⟩
theorem zL(hh:6e8)(da:a≠I)(hb:w.params.followText "set-order"=false)(TT:TI t es)(ox:(!t.plain&&decide (es.size>1))=false)(hl:t.led=true):
  Walks prog w A I [I,a] [I] es.size (PA es) (λi h=>∃slot,aS h I (.int (slot:Nat) 0) i a es.size ep/\dZ h a es ep t/\below t.place slot=i) where
 sub:=λb hb=>by rw[Yi.mp hb];show YS
 frame:=λ_ _ _ ⟨slot,h1,h2,h3⟩ hk=>⟨slot,h1.at (hk I 6e9),h2.at (hk a (.tail _ 6e9)),h3⟩
 item:=λi s Q E hi ⟨slot,h1,h2,h3⟩ hQ=>by
  have hf:=TT.fits (XN TT.fF);have ei:es[i]? = some es[i]:=Yh hi;obtain⟨j,ej⟩:∃j,t.place[i]? = some j:=⟨_,Yh (by rw[TT.sz];show hi)⟩
  show lD (x:=es[i].2) (nx:=j+1) h1 h2 hf (λA' Q' E' q=>Zc1 hb h2 hf ox hl ?_) λh' k2 sb=>hQ _ h' s.toks ⟨_,ei,rfl⟩ ⟨_,k2,h2.at λo e=>sb.extBut a o da e,uI TT.rs ej⟩ λb o hb e=>sb.extBut b o (λz=>hb (Yi.mpr z)) e;rw[h3,ei,ej];show q
 done:=λs Q E ⟨slot,h1,h2,h3⟩ hQ=>by
  have hf:=TT.fits (XN TT.fF);show qm hh h1 h2 hf (λA' Q' E' q=>Zc1 hb h2 hf ox hl ?_) λh' x=>hQ h' s.toks λb o hb e=>x b o (λz=>hb (Yi.mpr z)) e;rw[h3,YJ (Yl _)];show q
 self:=λ_ _ _ _ ⟨slot,h1,_⟩ hQ=>Zb1 h1 hQ
theorem xj(hh:6e8)(da:a≠I)(hb:w.params.followText "set-order"=true)(TT:TI t es):
  Walks prog w A I [I,a] [I] (Mq (w.params.setOrder a ep) es).size (PA (Mq (w.params.setOrder a ep) es)) (λi h=>aS h I (.int (0:Nat) 0) i a es.size ep/\dZ h a es ep t) where
 sub:=λb hb=>by rw[Yi.mp hb];show YS
 frame:=λ_ _ _ ⟨h1,h2⟩ hk=>⟨h1.at (hk I 6e9),h2.at (hk a (.tail _ 6e9))⟩
 item:=λi s Q E hi ⟨h1,h2⟩ hQ=>by
  have hf:=TT.fits (XN TT.fF);have ei:=Yh hi;show lD (x:=(Mq (w.params.setOrder a ep) es)[i].2) (nx:=0) h1 h2 hf (λA' Q' E' q=>ZcH hb h2 hf ?_) λh' k2 sb=>hQ _ h' s.toks ⟨_,ei,rfl⟩ ⟨k2,h2.at λo e=>sb.extBut a o da e⟩ λb o hb e=>sb.extBut b o (λz=>hb (Yi.mpr z)) e;rw[ei];show q
 done:=λs Q E ⟨h1,h2⟩ hQ=>by
  have hf:=TT.fits (XN TT.fF);show qm hh h1 h2 hf (λA' Q' E' q=>ZcH hb h2 hf ?_) λh' x=>hQ h' s.toks λb o hb e=>x b o (λz=>hb (Yi.mpr z)) e;rw[YJ (Yl _)];show q
 self:=λ_ _ _ _ ⟨h1,_⟩ hQ=>Zb1 h1 hQ
noncomputable def cH (es:5e9)(ys:3e9):Array (Int×Value):=(ys.map λi=>es.getD i (0,.none)).toArray
theorem rO(hh:6e8)(da:a≠I)(hTI:T≠I)(TT:TI t es){ys:3e9}(hy:∀y∈ys,y<es.size):
  Walks prog w A I [I,a,T] [I] (cH es ys).size (PA (cH es ys)) (λi h=>aS h I (.ref T) i a es.size ep/\dZ h a es ep t/\∃o,h.get? T=some o/\∃c,o.data=.seq (ys.map λ(i:Nat)=>rawInt i).toArray c) where
 sub:=λb hb=>by rw[Yi.mp hb];show YS
 frame:=λ_ _ _ ⟨h1,h2,o,h3,h4⟩ hk=>⟨h1.at (hk I 6e9),h2.at (hk a (.tail _ 6e9)),o,hk T (.tail _ (.tail _ 6e9)) _ h3,h4⟩
 item:=λi s Q E hi ⟨h1,h2,o,h3,c,h4⟩ hQ=>by
  have hf:=TT.fits (XN TT.fF);have JN:i<ys.length:=by simpa[cH]using hi
  have bA:ys[i]<es.size:=hy _ (Wr JN);have ei:(cH es ys)[i]? = some es[ys[i]]:=by
   ext cH;rw[X8,Yx,Ye JN];simp[bA]
  show AY (pl:=ys[i]) (e:=es[ys[i]]) h1 h2 hf h3 h4 (by rw[X8,Yx,Ye JN];rfl) (Yh bA) λh' k2 sb=>hQ _ h' s.toks ⟨_,ei,rfl⟩ ⟨k2,h2.at λo e=>sb.extBut a o da e,o,sb.extBut T o hTI h3,c,h4⟩ λb o hb e=>sb.extBut b o (λz=>hb (Yi.mpr z)) e
 done:=λs Q E ⟨h1,h2,o,h3,c,h4⟩ hQ=>by
  have hf:=TT.fits (XN TT.fF);show Fp hh h1 h2 hf h3 h4 (by simp[cH]) λh' x=>hQ h' s.toks λb o hb e=>x b o (λz=>hb (Yi.mpr z)) e
 self:=λ_ _ _ _ ⟨h1,_⟩ hQ=>Zb1 h1 hQ
theorem uv{ys:3e9}(h:ys.Perm (YB es.size)):(cH es ys).toList.Perm es.toList:=by
 ext cH;have q:=h.map λi=>es.getD i (0,Xf);have e:(YB es.size).map (λi=>es.getD i (0,Xf))=es.toList:=by
  apply XE;intro i;rw[Yx];by_cases hi:i<es.size
  ·rw[Vv hi];simp[hi]
  ·rw[YK 6e2,YK 6e2];rfl
 rw[e]at q;simpa using q
theorem BB{Q:1e1}(hm:dZ s.heap a es ep t)(TT:TI t es)(hl:w.params.followText "set-order"=false->t.led=true)
  (q:∀(I:Addr)(h':Heap)(d:Drawn)(arr:5e9)(fp:2e1)(St:Nat->Heap->Prop),s.heap.objs.size<=I->(∀b∈fp,b=a\/s.heap.objs.size<=b)->(∀b o,s.heap.get? b=some o->h'.get? b=some o)->arr.toList.Perm es.toList->
   (∀A':Around,A'.handled=none->Walks prog w A' I fp [I] arr.size (PA arr) St)->St 0 h'->Q (.ref I) {s with heap:=h',drawn:=d}):wpAny (model prog w) A (pyIter (.ref a)) Q E s:=by
 have Ty:=hm.ty;have hf:=TT.fits (XN TT.fF);have bA:=hm.lt;obtain⟨o,ho,hc,hd⟩:=id hm;show UN Ty F.slot_set_iter (Xg F.slot_set_iter Ty ZdJ ?body (F.args_set_iter_1 _))
 case body=>
  unfold WX.«frozenset.__iter__» Builtin.Frozenset.slot0 slotArgs;simp only[List.isEmpty_nil,UE,YD,↓reduceIte,bind_assoc,WB,bne_self_eq_false];show Ya (Yc ?_);unfold Builtin.Frozenset.sizeOf P2 Builtin.Frozenset.addrOf;show Ya (Yc ?_);show Ya (Ya (Ya (Xa ho hd hf (Yc (Yc ?_)))));unfold setDrawn setsByText setEpoch;show Ya (Ya (Xa ho hd hf ?_));sleep 6;show Ya (Ya (W6 (Yc (Yc ?_))));show Xn (λdN=>?_) (λdN=>?_)
  ·show Ya (Zco _ _ _ _ Wb λys d hp=>?_)
   have Jz:es.size<=1000000:=by have:=TT.fF;have:=TT.mm.pos;lia
   have hyl:ys.length=es.size:=by rw[hp.length_eq,Wb]
   show Ya (wpAny_newTuple ?_ (by rw[Yj,hyl,YZ];lia));have hoA:(s.heap.push {cls:=.type "tuple",data:=.seq (ys.map λ(i:Nat)=>rawInt i).toArray}).get? a=some o:=Yb _ ho;show Ya (Ya (Xa (s:={s with drawn:=d,heap:=s.heap.push {cls:=.type "tuple",data:=.seq (ys.map λ(i:Nat)=>rawInt i).toArray}}) hoA hd hf (Yc ?_)));show Ya (Y6 (Yc ⟨_,rfl,_,_,⟨_,Yg _ rfl,rfl⟩,Dc.lookup,?_⟩));generalize OA:s.heap.push {cls:=.type "tuple",data:=.seq (ys.map λ(i:Nat)=>rawInt i).toArray}=h1;have hz:h1.objs.size=s.heap.objs.size+1:=by rw[←OA,V7]
   have TM:h1.get? a=some o:=by rw[←OA];show hoA
   have Zk:h1.get? s.heap.objs.size=some {cls:=.type "tuple",data:=.seq (ys.map λ(i:Nat)=>rawInt i).toArray}:=by rw[←OA];show Yg _ rfl
   show q h1.objs.size _ d (cH es ys) [h1.objs.size,a,s.heap.objs.size] _ 1e0 (λb hb=>?_) (λb u e=>Yb _ (by rw[←OA];show Yb _ e)) (uv hp) (λA' hh=>rO (t:=t) (ep:=ep) hh (Yw (Yz bA (by rw[hz];show P6 _))) (by rw[hz];show Yw (VA _)) TT λy hy=>by have:=hp.mem_iff.mp hy;simpa using this) ⟨⟨_,Yg _ rfl,rfl,by simp[rawInt]⟩,⟨o,Yb _ TM,hc,hd⟩,_,Yb _ Zk,0,rfl⟩;simp only[Yk,Xy,or_false]at hb;rcases hb with rfl|rfl|rfl
   ·show .inr 1e0
   ·show .inl rfl
   ·show .inr (Yl _)
  ·show Ya (Yc ?_)
   show Ya (Ya (Xa ho hd hf (Yc ?_)));show Ya (Y6 (Yc ⟨_,rfl,_,_,⟨_,Yg _ rfl,rfl⟩,Dc.lookup,?_⟩));have QE:∀b∈[s.heap.objs.size,a],b=a\/s.heap.objs.size<=b:=λb hb=>by
    simp only[Yk,Xy,or_false]at hb;rcases hb with rfl|rfl
    ·show .inr (Yl _)
    ·show .inl rfl
   cases hb:w.params.followText "set-order" with
   |true=>
    show q s.heap.objs.size _ s.drawn _ [s.heap.objs.size,a] _ (Yl _) QE (λb u e=>Yb _ e) (xS es) (λA' hh=>xj (t:=t) (ep:=ep) hh (Yw bA) hb TT) ⟨⟨_,Yg _ rfl,rfl,by simp[rawInt]⟩,⟨o,Yb _ ho,hc,hd⟩⟩
   |false=>
    have ox:(!t.plain&&decide (es.size>1))=false:=by
     have h2:¬((!w.params.followText "set-order")&&(!t.plain&&decide (es.size>1)))=true:=dN;rw[hb]at h2;simpa using h2
    show q s.heap.objs.size _ s.drawn es [s.heap.objs.size,a] _ (Yl _) QE (λb u e=>Yb _ e) (.refl _) (λA' hh=>zL (t:=t) (ep:=ep) hh (Yw bA) hb TT ox (hl hb)) ⟨0,⟨_,Yg _ rfl,rfl,by simp[rawInt]⟩,⟨o,Yb _ ho,hc,hd⟩,uH TT.rs⟩
theorem BR{r:Addr}{Q:6e0}(hT:s.TypeIs (.ref r) "set")(h:Q false s):wpAny 1e5 A (W4 (.ref r)) Q E s:=by
 ext W4;show Ya (Vo hT PySem.F.slot_set_len.lookup ?_);generalize JM:("set.__len__":String)=Tb
 wp_delta
 rw[show splitId Tb=some ("set","__len__")from by subst JM;decide +kernel];subst JM;show Ya (W5 (T:="set") (b:=true) hT (by rw[V9];kernel_rfl) ?_);show Xn (λdN=>absurd dN 1e7) (λ_=>?_);show Xn (λ_=>?_) (λdN=>absurd 5e3 dN);show Ya (Vb hT ?_);show Yc h
theorem tV{arr:5e9}{acc:Array Value}(h:KZ (PA arr) acc arr.size)(p:arr.toList.Perm es.toList):acc.toList.Perm (es.toList.map (·.2)):=by
 have e:acc.toList=arr.toList.map (·.2):=by
  apply XE;intro i;rw[Yx,YY,YY];by_cases hi:i<arr.size
  ·have rG:i<acc.size:=by rw[h.1];show hi
   obtain⟨x,e1,e2⟩:=h.2 i _ (Yh rG);rw[Yh rG,e1,e2];rfl
  ·have hz:=h.1
   rw[YJ (show acc.size<=i by lia),YJ (show arr.size<=i by lia)];rfl
 rw[e];show p.map _
theorem ug{R:9e3}(hh:6e8)(hm:dZ s.heap a es ep t)(TT:TI t es)(hl:w.params.followText "set-order"=false->t.led=true)(S:Addr)(QK:S≠a)(res:Value)(c₀:Nat)(hS:s.heap.get? S=some {cls:=.type "list",data:=.seq #[] c₀})
  (hR:∀h' d tk ff c',(∀b o,b≠S->s.heap.get? b=some o->h'.get? b=some o)->h'.get? S=some {cls:=.type "list",dict:=none,data:=.seq ff c',slots:=#[]}->ff.toList.Perm (es.toList.map (·.2))->R (.ok (.ret res)) {s with heap:=h',drawn:=d,toks:=tk}):
  wpAny 1e5 A.in1 (Xu (.ref S) 9e8 res)
   (λfin s'=>match fin with|.done f=>R (.ok f) s' | .again c'=>c'.quiet=true/\WA (model prog w) A c' R s') (λe s'=>R (.error e) s') s:=by
 have Jz:es.size<=1000000:=by have:=TT.fF;have:=TT.mm.pos;lia
 ext Xu;show Ya (Vb (T:="set") hm.ty ?_);have h1:WE (.ref S) 9e8=false:=by simp[WE,QK]
 simp only[h1,show(XY "set"==XY "list")=false by decide,show(XY "set"==XY "tuple")=false by decide,Bool.or_false,YD,if_false];show Ya (BB hm TT hl λI h2 d arr fp St hI QE k2 pm W st=>?_);have OP:=Ys hS;have QJ:S∉fp:=λz=>by
  rcases QE _ z with q|q
  ·show QK q
  ·show absurd (Yz OP q) (Wx _)
 have LR:S≠I:=Yw (Yz OP hI);have hn:arr.size<=sizeLine:=by
  have:=pm.length_eq;simp only[Xs]at this;rw[YZ];lia
 have key:∀(h:Heap)(c₁ tk:Nat),St 0 h->(∀b o,b≠S->s.heap.get? b=some o->h.get? b=some o)->
   h.get? S=some {cls:=.type "list",data:=.seq #[] c₁}->WA 1e5 A (.builtin "list.extend.loop" ⟨[.ref S,.ref I,res],[]⟩) R {s with heap:=h,drawn:=d,toks:=tk}:=by
  intro h c₁ tk ow hk hS₁;show codeAny_extend_loopS (W A.in1 hh).toS hn S QJ res arr.size 0 _ #[] c₁ rfl (Y2 _) ow hS₁ (ItemsOf.nil _) λs' ff c' rD JS jS=>?_;rw[Moved.eq_with rD];show hR s'.heap d s'.toks ff c' (λb o hb e=>rD.heap b o (λt8=>?_) (hk b o hb e)) JS (tV jS pm);rcases Yk.mp t8 with e'|t8
  ·show hb e'
  ·show absurd (Yz (Ys e) hI) (by rw[Yi.mp t8];show Wx _)
 have hS₁:=k2 _ _ hS;show Ya (Xi (BR (s:={s with heap:=h2,drawn:=d}) (dZ.ty (s:={s with heap:=h2,drawn:=d}) (hm.at λo e=>k2 _ _ e)) ?_));show Xn (λ_=>?_) (λ_=>Yc ⟨V0 Ub _,key _ c₀ _ st (λb o _ e=>k2 _ _ e) hS₁⟩);show Ya (WP ?_);show Ya ?_;change wpAny _ _ (updateSeq S (·.push .none)>>=λ_=>updateSeq S (·.pop)) _ _ _;show Ya (RO hS₁ rfl ?_);have hS₂:=Xk (XM (·.push Xf)) hS₁ rfl;show RO (hz:=by seq_fits) hS₂ rfl ?_;have hS₃:=Xk (XM (·.pop)) hS₂ rfl;show Yc ⟨V0 Ub _,key _ _ _ ?_ (λb o hb e=>?_) hS₃⟩
 ·show(W A.in1 hh).frame 0 _ _ st λb hb o e=>?_
  have hbS:b≠S:=λh=>QJ (h▸hb);show(XZ _ _ (X5 hbS)).trans ((XZ _ _ (X5 hbS)).trans e)
 ·show(XZ _ _ (X5 hb)).trans ((XZ _ _ (X5 hb)).trans (k2 _ _ e))
theorem Fm{R:9e3}(hh:6e8)(hm:dZ s.heap a es ep t)(TT:TI t es)(hl:w.params.followText "set-order"=false->t.led=true)(S:Addr)(QK:S≠a)(c₀:Nat)(hS:s.heap.get? S=some {cls:=.type "list",data:=.seq #[] c₀})
  (hR:∀h' d tk ff c',(∀b o,b≠S->s.heap.get? b=some o->h'.get? b=some o)->h'.get? S=some {cls:=.type "list",dict:=none,data:=.seq ff c',slots:=#[]}->ff.toList.Perm (es.toList.map (·.2))->R (.ok (.ret (.ref S))) {s with heap:=h',drawn:=d,toks:=tk}):
  WA 1e5 A (.builtin "list.__iadd__" ⟨[.ref S,.ref a],[]⟩) R s:=by
 show XQ Yce ?_;rw[Wq (show plainId "list.__iadd__"=true by decide +kernel) _];show ug hh hm TT hl S QK (.ref S) c₀ hS hR
theorem qG{Q:List Value->Shared->Prop}(hh:6e8)(hm:dZ s.heap a es ep t)(TT:TI t es)(hl:w.params.followText "set-order"=false->t.led=true)
  (h:∀h' d tk vs,(∀b o,s.heap.get? b=some o->h'.get? b=some o)->s.heap.objs.size<=h'.objs.size->vs.Perm (es.toList.map (·.2))->Q vs {s with heap:=h',drawn:=d,toks:=tk}):wpAny (model prog w) A (Hu (.ref a)) Q E s:=by
 ext Hu;show Ya (UU (XQ Yaa ?_));show Ya (UA (Yc ⟨UC _ 5e3,?_⟩));have hS:(s.heap.push (seqObj "list" #[] 0)).get? s.heap.objs.size=some {cls:=.type "list",data:=.seq #[] 0}:=Yg _ rfl;show Fm (s:={s with heap:=s.heap.push (seqObj "list" #[] 0)}) hh (hm.at λo e=>Yb _ e) TT hl s.heap.objs.size (XW hm.lt) 0 hS λh' d tk acc c k e ai=>?_;show Ya (wpAny_load e ?_);show Yc (h h' d tk acc.toList (λb o z=>k b o (Yw (Ys z)) (Yb _ z)) (XN (Ys e)) ai)
end
end Se
namespace L2
open PySem PySem.Spec PyProof.Rows Se
section
variable{prog:YF}{w:World}{A:Around}{R:9e3}{s:Shared}{elt t0 i0 t1 i1:Expr}{ifs:3e4}{scope:Scope}{pos:Pos}
abbrev eB(prog:YF)(w:World)(A:Around)(env:Env)(R:9e3):Value->Shared->Prop:=Hv 1e5 A env λe s'=>R (.error e) s'
end
section
variable{X:Cx}{elt t0 i0 t1 i1:Expr}{ifs:3e4}{scope:Scope}{pos:Pos}{vs fs:4e3}{fr:3e9}{g0 g1:TG}{wi1:TI}{tt:TT}{te:TE}
noncomputable abbrev Gz (X:Cx):Bool:=!X.w.params.followText "set-order"
end
end L2
namespace Pu
open PySem PySem.Spec PySem.W PySem.Calls L2 Se
open PyProof.Rows hiding St Fr
theorem yV:XF "set"=some (.type "set"):=by decide +kernel
end Pu
namespace Pu
open PySem PySem.Spec PySem.W PySem.Calls L2
open PyProof.Rows hiding St Fr
section
variable{X:Cx}{a b e:Expr}{fa fb:2e3}{pos p:Pos}{es:3e4}{fs:1e9}
theorem ab.rev{K:W.Frag}{ι:2e1}{H:Hp}:∀{ps:List PV}{vs:List V},ab K ι H ps vs->ab K ι H ps.reverse vs.reverse
 |[],vs,r=>by rw[r.fP];show .nil
 |p::ps,vs,r=>by
  obtain⟨v,w,rfl,h1,h2⟩:=r.inv;rw[Wa,Wa];show(ab.rev h2).append (.cons h1 .nil)
end
end Pu
namespace Pu
open PySem PySem.Spec PySem.W PySem.Calls L2 PySem.SeqAt
open PyProof.Rows hiding St Fr
theorem zC:∀(qs:6e6),bP (qs.map kP)=some qs
 |[]=>rfl
 |q::qs=>by rw[Yq];ext bP;rw[wb,zC qs]
mutual
noncomputable def flat:PV->Bool
 |.lst _=>false
 |.cV _ _=>false
 |.aG _ _=>false
 |.tup xs=>df xs
 |_=>true
noncomputable def df:List PV->Bool
 |[]=>true
 |p::r=>flat p&&df r
end
def qj:PV->Bool
 |.lst ps=>df ps
 |.cV _ ps=>df ps
 |.aG _ ps=>df ps
 |_=>false
section
variable{K:W.Frag}{ι ι':2e1}{H H':Hp}{C:Cs}
mutual
theorem Rep.flat:∀(p:PV)(v:V),Pu.flat p=true->Rep K ι H p v->Rep K ι' H p v
 |.aF,v,_,h=>by unfold Rep at h⊢;show h
 |.bl b,v,_,h=>by unfold Rep at h⊢;show h
 |.int i,v,_,h=>by unfold Rep at h⊢;show h
 |.str x,v,_,h=>by unfold Rep at h⊢;show h
 |.tup ps,v,f,h=>by
  unfold Rep at h⊢;obtain⟨a,vs,e,sq,r⟩:=h;show⟨a,vs,e,sq,ab.flat ps vs (by ext Pu.flat f;show f) r⟩
 |.lst ps,v,f,h=>by ext Pu.flat f;cases f
 |.cV ks ps,v,f,h=>by ext Pu.flat f;cases f
 |.aG ks ps,v,f,h=>by ext Pu.flat f;cases f
 |.fn a,v,_,h=>by unfold Rep at h⊢;show h
 |.ty n,v,_,h=>by unfold Rep at h⊢;show h
theorem ab.flat:∀(ps:List PV)(vs:List V),Pu.df ps=true->ab K ι H ps vs->ab K ι' H ps vs
 |[],vs,_,h=>by unfold ab at h⊢;show h
 |p::ps,vs,f,h=>by
  unfold ab at h⊢;obtain⟨v,r,e,h1,h2⟩:=h;ext Pu.df f;rw[YI]at f;show⟨v,r,e,Rep.flat p v f.1 h1,ab.flat ps r f.2 h2⟩
end
theorem aX.flat{a:Addr}{c:PV}(f:qj c=true)(h:aX K ι H a c):aX K ι' H a c:=by
 cases c with
 |lst ps=>obtain⟨vs,e,r⟩:=h;show⟨vs,e,ab.flat _ _ f r⟩
 |cV ks ps=>obtain⟨qs,vs,e,hl,hk,r⟩:=h;show⟨qs,vs,e,hl,hk,ab.flat _ _ f r⟩
 |aG ks ps=>obtain⟨vs,e,hl,r⟩:=h;show⟨vs,e,hl,ab.flat _ _ f r⟩
 |_=>show h.elim
theorem aX.cells{a:Addr}{c:PV}(hs:∀b o,H b=some o->b∉ι->b∉ι')(h:aX K ι H a c):aX K ι' H a c:=by
 cases c with
 |lst ps=>obtain⟨vs,e,r⟩:=h;show⟨vs,e,ab.cells hs _ _ r⟩
 |cV ks ps=>obtain⟨qs,vs,e,hl,hk,r⟩:=h;show⟨qs,vs,e,hl,hk,ab.cells hs _ _ r⟩
 |aG ks ps=>obtain⟨vs,e,hl,r⟩:=h;show⟨vs,e,hl,ab.cells hs _ _ r⟩
 |_=>show h.elim
theorem aX.rep{a:Addr}{c:PV}(JG:a∉ι')(hs:∀b o,H b=some o->b∉ι->b∉ι')(h:aX K ι H a c):Rep K ι' H c 9e8:=by
 cases c with
 |lst ps=>obtain⟨vs,e,r⟩:=h;ext Rep;show⟨a,vs,rfl,.inl ⟨JG,.inl e⟩,ab.cells hs _ _ r⟩
 |cV ks ps=>obtain⟨qs,vs,e,hl,hk,r⟩:=h;ext Rep;show⟨a,qs,vs,rfl,JG,e,hl,hk,ab.cells hs _ _ r⟩
 |aG ks ps=>obtain⟨vs,e,hl,r⟩:=h;ext Rep;show⟨a,vs,rfl,JG,.inl e,hl,ab.cells hs _ _ r⟩
 |_=>show h.elim
end
noncomputable def pickK (xs:List SV):List Nat->Option (List Nat)
 |[]=>some []
 |i::r=>match xs[i]?,pickK xs r with
  |some (.c k),some ks=>if k∈ks then none else some (k::ks)
  |_,_=>none
noncomputable def cB (C:Cs)(ks:3e9):List SV->Option (List SV)
 |[]=>some []
 |.v p::r=>(cB C ks r).map (.v p::·)
 |.c k::r=>match ks.idxOf? k with
  |some j=>(cB C ks r).map (.c j::·)
  |none=>match C[k]? with
   |some c=>(cB C ks r).map (.v c::·)
   |none=>none
noncomputable def eO (C:Cs):List Nat->Option Cs
 |[]=>some []
 |k::r=>match C[k]?,eO C r with
  |some c,some cs=>some (c::cs)
  |_,_=>none
noncomputable def dI (C:Cs):List Nat->Cs->Cs
 |k::ks,c::cs=>dI (C.set k c) ks cs
 |_,_=>C
section
variable{K:W.Frag}{ι:2e1}{H H':Hp}{C D:Cs}
theorem ZdM:∀{ks:3e9}{D:Cs},eO C ks=some D->D.length=ks.length/\∀(j k:Nat),ks[j]? = some k->∃c,D[j]? = some c/\C[k]? = some c
 |[],D,h=>by cases h;show⟨rfl,λj k e=>by simp at e⟩
 |k::ks,D,h=>by
  ext eO h;split at h
  ·rename_i c cs h1 h2
   cases h;obtain⟨a,b⟩:=ZdM h2;show⟨by simp[a],λj k' e=>?_⟩;cases j with
   |zero=>simp at e;subst e;show⟨c,rfl,h1⟩
   |succ j=>show b j k' (by simpa using e)
  ·cases h
theorem ma:∀{ks:3e9}{C D:Cs},(dI C ks D).length=C.length
 |[],C,D=>by ext dI;rfl
 |k::ks,C,[]=>by ext dI;rfl
 |k::ks,C,c::D=>by ext dI;rw[ma,Uu]
theorem md:∀{ks:3e9}{C D:Cs},ks.Nodup->D.length=ks.length->(∀k∈ks,k<C.length)->(∀(j k:Nat),ks[j]? = some k->(dI C ks D)[k]? = D[j]?)/\∀(k:Nat),k∉ks->(dI C ks D)[k]? = C[k]?
 |[],C,D,_,_,_=>⟨λj k e=>by simp at e,λk _=>by ext dI;rfl⟩
 |k::ks,C,[],_,h,_=>by simp at h
 |k::ks,C,c::D,nd,h,hl=>by
  rw[Xj]at nd;have ih:=md (ks:=ks) (C:=C.set k c) (D:=D) nd.2 7e6 (λq hq=>by rw[Uu];show hl q (YL _ hq));ext dI;show⟨λj q e=>?_,λq hq=>?_⟩
  ·cases j with
   |zero=>
    simp at e;subst e;rw[ih.2 k nd.1,Xe (hl k YS)];rfl
   |succ j=>rw[ih.1 j q (by simpa using e)];rfl
  ·rw[Yk,not_or]at hq
   rw[ih.2 q hq.2,Y5 (X5 hq.1)]
theorem pA{xs:List SV}{vs:List V}(rs:aU K ι H xs vs):∀{ix ks:3e9},pickK xs ix=some ks->ks.Nodup/\∀k∈ks,k<ι.length
 |[],ks,h=>by cases h;show⟨.nil,λk hk=>by cases hk⟩
 |i::ix,ks,h=>by
  ext pickK h;split at h
  ·rename_i k tP h1 h2
   split at h
   ·cases h
   ·rename_i hn
    cases h;obtain⟨a,b⟩:=pA rs h2;show⟨Xj.mpr ⟨hn,a⟩,λq hq=>?_⟩;rcases Yk.mp hq with rfl|hq
    ·obtain⟨v,_,a,_,e⟩:=aU.get rs h1
     rcases YQ q ι.length with z|z
     ·show z
     ·rw[YT.mpr z]at e;cases e
    ·show b q hq
  ·cases h
noncomputable def addrs (ι:2e1)(ks:3e9):List Addr:=ks.map λk=>ι.getD k 0
theorem Z1{ks:3e9}(hl:∀k∈ks,k<ι.length){j k:Nat}(e:ks[j]? = some k):(addrs ι ks)[j]? = ι[k]?:=by
 ext addrs;rw[Yx,e];have:=hl k (YH e);simp[Ye this]
theorem KO{ks:3e9}(hl:∀k∈ks,k<ι.length){b:Addr}(h:b∈addrs ι ks):∃k∈ks,ι[k]? = some b:=by
 ext addrs h;obtain⟨k,hk,e⟩:=Yy.mp h;show⟨k,hk,?_⟩;have:=hl k hk;simp[Ye this]at e⊢;show e
theorem get_inj(nd:ι.Nodup){j k:Nat}{a:Addr}(h1:ι[j]? = some a)(h2:ι[k]? = some a):j=k:=by
 obtain⟨l1,e1⟩:=Y7.mp h1;obtain⟨l2,e2⟩:=Y7.mp h2;show(U2 nd).mp (e1.trans e2.symm)
theorem ZdG(nd:ι.Nodup):∀{ks:3e9},ks.Nodup->(∀k∈ks,k<ι.length)->(addrs ι ks).Nodup
 |[],_,_=>.nil
 |k::ks,h,hl=>by
  rw[Xj]at h;change(ι.getD k 0::addrs ι ks).Nodup;show Xj.mpr ⟨λz=>?_,ZdG nd h.2 λq hq=>hl q (YL _ hq)⟩;obtain⟨q,hq,e⟩:=KO (λq hq=>hl q (YL _ hq)) z;have hk:=hl k YS;have e2:ι[k]? = some (ι.getD k 0):=by simp[Ye hk]
  show h.1 ((get_inj nd e2 e)▸hq)
theorem z5(cr:7e7){ks:3e9}(nd:ks.Nodup)(hl:∀k∈ks,k<ι.length)(e:eO C ks=some D):CR K (addrs ι ks) H D:=by
 obtain⟨l,g⟩:=ZdM e;have hs:∀b o,H b=some o->b∉ι->b∉addrs ι ks:=λb o _ n z=>by
  obtain⟨k,_,q⟩:=KO hl z;show n (YH q)
 show⟨by ext addrs;rw[Yj,l],ZdG cr.nd nd hl,λj a c h1 h2=>?_⟩;have hj:j<ks.length:=by
  rcases YQ j ks.length with z|z
  ·show z
  ·rw[YT.mpr 1e0]at h2;cases h2
 have ek:=Ye hj;rw[Z1 hl ek]at h1;obtain⟨c',g1,g2⟩:=g j _ ek;rw[h2]at g1;cases g1;show(cr.ok _ a c h1 g2).cells hs
theorem Rm(cr:7e7){ks:3e9}(hl:∀k∈ks,k<ι.length):∀{xs ys:List SV}{vs:List V},aU K ι H xs vs->cB C ks xs=some ys->aU K (addrs ι ks) H ys vs
 |[],ys,vs,r,e=>by cases e;show r
 |.v p::xs,ys,vs,r,e=>by
  obtain⟨v,w,rfl,h1,h2⟩:=r;ext cB e;cases hq:cB C ks xs with
  |none=>rw[hq]at e;cases e
  |some z=>
   rw[hq]at e;cases e;show⟨v,w,rfl,Rep.cells (λb o _ n z=>by obtain⟨k,_,q⟩:=KO hl z;show n (YH q)) p v h1,Rm cr hl h2 hq⟩
 |.c k::xs,ys,vs,r,e=>by
  obtain⟨v,w,rfl,⟨a,rfl,ha⟩,h2⟩:=r;ext cB e;cases hi:ks.idxOf? k with
  |some j=>
   rw[hi]at e;cases hq:cB C ks xs with
   |none=>rw[hq]at e;cases e
   |some z=>
    rw[hq]at e;cases e;show⟨.ref a,w,rfl,⟨a,rfl,?_⟩,Rm cr hl h2 hq⟩;have ej:ks[j]? = some k:=by
     rw[List.idxOf?_eq_some_iff]at hi;obtain⟨h,e,_⟩:=hi;rw[Ye h,e]
    rw[Z1 hl ej];show ha
  |none=>
   rw[hi]at e;have hk:k∉ks:=List.idxOf?_eq_none_iff.mp hi;cases hc:C[k]? with
   |none=>rw[hc]at e;cases e
   |some c=>
    rw[hc]at e;cases hq:cB C ks xs with
    |none=>rw[hq]at e;cases e
    |some z=>
     rw[hq]at e;cases e;show⟨.ref a,w,rfl,(cr.ok k a c ha hc).rep (λz=>?_) (λb o _ n z=>by obtain⟨k,_,q⟩:=KO hl z;show n (YH q)),Rm cr hl h2 hq⟩;obtain⟨k',Ov,q⟩:=KO hl z;show hk ((get_inj cr.nd ha q)▸Ov)
theorem oR{ks:3e9}(hl:∀k∈ks,k<ι.length)(f:Fr (addrs ι ks) H H'):Fr ι H H':=λb o n e=>f b o (λz=>by obtain⟨k,_,q⟩:=KO hl z;show n (YH q)) e
theorem r0(cr:7e7){ks:3e9}(nd:ks.Nodup)(hl:∀k∈ks,k<ι.length)(f:Fr (addrs ι ks) H H')(c2:CR K (addrs ι ks) H' D)(fl:D.all qj=true):CR K ι H' (dI C ks D):=by
 have Qz:D.length=ks.length:=by rw[←c2.len];ext addrs;rw[Yj]
 obtain⟨g1,g2⟩:=md (C:=C) (D:=D) nd Qz λk hk=>by rw[←cr.len];show hl k hk
 show⟨by rw[ma];show cr.len,cr.nd,λk a c h1 h2=>?_⟩;by_cases hk:k∈ks
 ·obtain⟨j,hj,e⟩:=XO hk
  have ej:ks[j]? = some k:=by rw[Ye hj,e]
  rw[g1 j k ej]at h2;have:=c2.ok j a c (by rw[Z1 hl ej];show h1) h2;show this.flat (YW.mp fl c (YH h2))
 ·rw[g2 k hk]at h2
  show(cr.ok k a c h1 h2).mono cr (oR hl f) λo e=>f a o (λz=>?_) e;obtain⟨k',Ov,q⟩:=KO hl z;show hk ((get_inj cr.nd h1 q)▸Ov)
end
theorem yj{k:Key}{u:Value}(h:gG k u=true):RelV (kV k) u:=by
 rcases C8 h with⟨i,t,rfl,rfl⟩|⟨x,t,rfl,rfl⟩
 ·show⟨t,rfl⟩
 ·show⟨t,rfl⟩
theorem sP{P:YF}{w:World}{es:List Uv}{vs:List (Key×Value)}(h:Pairs (aD P w) es vs):Vals (vs.map λq=>kV q.1) (es.map (·.key)):=by
 induction h with
 |nil=>show .nil
 |cons h1 h2 h3 ih=>show .cons (yj h1) ih
theorem tW{es:Array Uv}{acc:Array Value}(h:KZ (λi v=>∃e,es[i]? = some e/\v=e.key) acc es.size):acc.toList=es.toList.map (·.key):=by
 apply XE;intro i;rw[YY,Yx,YY];by_cases hi:i<acc.size
 ·obtain⟨e,e1,e2⟩:=h.2 i _ (Yh hi)
  rw[Yh hi,e2,e1];rfl
 ·have:=h.1
  rw[YJ 1e0,YJ 1e0];rfl
section
variable{X:Cx}
def Ag(K:W.Frag):List V->Hp->VK->Prop:=λxs H Q=>∃p ag qs ι,xs=[.ref p]/\H p=some (.dK ag)/\(ag.map (·.1)).all keyOk=true/\bN (ag.map λq=>kP q.1)=some qs/\
 ∀zs l,ab K ι H qs zs->H l=none->Q (.ref l) (upd H l (.lst zs))
theorem nV(gW:5e0)(hu:5e6):cM X (.builtin "sorted") (Ag X.K):=by
 intro pins s σ H xs us Q I r h;obtain⟨p,ag,qs,ι,rfl,hq,JJ,hs,q⟩:=h;obtain⟨u,rfl,rx⟩:=vals1 r;cases rx;obtain⟨hz,lo,vs,kv,o,es,ep,ho,hex,zx,hke,hpa,ox⟩:=Cp I.aQ hq;have e1:(ag.map λq=>kV q.1)=(ag.map (·.1)).map kV:=by rw[Xd];rfl
 have TZ:(ag.map λq=>kV q.1)=vs.map λq=>kV q.1:=by
  have:=kv.keys;have e2:(vs.map λq=>kV q.1)=(vs.map (·.1)).map kV:=by rw[Xd];rfl
  rw[e1,e2,this]
 have hv:=sP hpa;rw[←TZ]at hv;have hl:es.size=ag.length:=by
  have:=hv.length;simpa using this.symm
 show P0 hu I hs (λQ' q'=>ZdB (vh (es:=es) (ep:=ep) lo) (I.ok.hd gW) ⟨o,ho,hex,zx⟩ ?_ λh' tk acc k hle ai=>?_) q
 ·have h1:(ag.map λq=>kP q.1).length<4096:=(Mc hs).2.2.1
  rw[Yj]at h1;rw[YZ];lia
 ·rw[tW ai]
  show q' h' s.drawn tk _ _ _ k hle (.refl _) hv ?_;rw[show(ag.map λq=>kP q.1)=(ag.map (·.1)).map kP by rw[Xd];rfl,e1];show mO JJ
def fK(C:Cs):List SV->Option 3e0
 |[x]=>match aN C x with
  |some (.cV ks _)=>match bP ks with
   |some qs=>if qs.all keyOk then bN ks else none
   |none=>none
  |_=>jk C [x]
 |_=>none
def cC(fs:1e9):aq->M 3e0:=λρ=>aI (fs ρ) λxs=>dM λC=>fK C xs
theorem PE.or{e:Expr}{t t':TE}(h:PE X e t)(k:PE X e t'):PE X e λσ H Q=>t σ H Q\/t' σ H Q:=λpins s σ H Q I q=>by
 rcases q with q|q
 ·show h pins s σ H Q I q
 ·show k pins s σ H Q I q
end
end Pu
namespace Pu
open PySem PySem.Spec L2
open PyProof.Rows hiding St Fr
def Je(K:W.Frag)(a:Addr):It:=⟨λi H=>∃xs v,fH K H a xs/\xs[i]? = some v,λi H x H'=>∃b v,H b=none/\x=.ref b/\H'=upd H b (.tup [.int i,v])/\∀xs,fH K H a xs->xs[i]? = some v,
 λi H=>∃xs,fH K H a xs/\xs.length<=i⟩
theorem xn{P:YF}{w:World}{K:W.Frag}{elts:3e4}{x1:Nat}{pos:Pos}{a e it:Addr}(da:e≠it):Turn P w K (.Tuple elts x1 pos) (Je K a) [e,it] e
  (λi h=>(∃old,IsEnum h e it i old)/\h.IsListIter it a i) where
 mem:=by simp
 obj:=λi h st b hb=>by
  obtain⟨⟨old,he⟩,o,hi,hc,hd⟩:=st;simp only[Yk,Xy,or_false]at hb;rcases hb with rfl|rfl
  ·show⟨_,he,λv q=>by cases q⟩
  ·show⟨o,hi,λv q=>by rw[hd]at q;cases q⟩
 keep:=λi h h' st k=>by
  obtain⟨⟨old,he⟩,hi⟩:=st;show⟨⟨old,k e 2e6 _ he⟩,hi.at λo z=>k it 2e6 o z⟩
 item:=by
  sleep 1;obtain⟨⟨old,he⟩,hi⟩:=st;obtain⟨xs,v,hq,hx⟩:=hg;obtain⟨aw,rv,p,hz⟩:=I.list hq;obtain⟨u,hu,ru⟩:=rv.get hx;show wpAny_pyNext_enum_item he hi p.isList (x:=u) (by simpa using hu) da λh' ho JN hT hsz hk=>⟨_,rfl,?_⟩
  show wpAny_letOwnedTupleGo_enum (s:={s with heap:=h',toks:=s.toks+1}) ho λh3 W' sb=>?_;have J1:Inv X pins σ H {s with heap:=h3,toks:=s.toks+1}:=mw (ch:=[e,it]) I (λb o hb z=>by
   simp only[Yk,Xy,or_false,not_or]at hb;show sb.extBut _ _ hb.1 (hk b o hb.1 hb.2 z)) hf
  have bA:∀{b o},s.heap.get? b=some o->b≠s.heap.objs.size:=λe=>Yw (Ys e);have hn:H s.heap.objs.size=none:=I.aQ.fresh (Yl _);have Zj:=sb.extBut _ _ (bA he).symm hT;have J2:=zR (ob:=.tup [.int i,v]) J1 hn I.sz (XW I.lt) (λx c e=>by obtain⟨v,q⟩:=I.cell x c e;show Yw q.lt) (λp hp=>bA (I.pin p hp).1)
   ⟨by change 2<=YA;rw[YZ];decide,[.int i s.toks,u],.cons ⟨_,rfl⟩ (.cons ru .nil),⟨_,Zj,rfl,_,rfl⟩⟩
  show⟨.ref s.heap.objs.size,_,J2,rfl,⟨_,v,hn,rfl,rfl,λys hy=>by rw[I.pY hy hq];show hx⟩,⟨⟨_,W'⟩,JN.at λo z=>sb.extBut _ _ da.symm z⟩,λb hb=>?_⟩;have rJ:b≠s.heap.objs.size:=by
   simp only[Yk,Xy,or_false]at hb;rcases hb with rfl|rfl
   ·show bA he
   ·obtain⟨o,z,_⟩:=hi;show bA z
  rw[ba rJ];show(hf b hb).1
 done:=by
  sleep 1;obtain⟨⟨old,he⟩,hi⟩:=st;obtain⟨xs,hq,hx⟩:=hg;obtain⟨aw,rv,p,hz⟩:=I.list hq;have hl:=rv.length;show wpAny_pyNext_enum_end (I.ok.hd hc) he hi p.isList 6e2 λh' eb=>⟨rfl,mw (t':=s.toks) (ch:=[e,it]) I (λb o hb z=>?_) hf⟩
  simp only[Yk,Xy,or_false,not_or]at hb;show eb b o hb.2 z
 self:=λ_ _ _ _ _ st h=>by obtain⟨⟨old,he⟩,_⟩:=st;show wpAny_pyIter_enum he h
section
variable{X:Cx}{l:Expr}{elts:3e4}{x1:Nat}{mE p pos:Pos}
def N7(K:W.Frag)(tl:TA):TI:=λσ H R=>tl σ H λxs H1=>∃a,xs=[.ref a]/\(∃vs,fH K H1 a vs)/\R (Je K a) H1
theorem Ep{tl:TA}(hg:Gl X "enumerate")(hm:X.mg "enumerate"=none)(ha:PA X [l] tl)(hs:Yu [l] X.env=[(false,eval l X.env)]:=by rfl):PI X (.Tuple elts x1 mE) (.Call (.Name "enumerate" p) [l] [] pos) (N7 X.K tl):=by
 intro pins s σ H R I h;show Call_ (FK I hg hm 1e3 (XB (bS (ha pos pins s σ H _ I h) λus s1 ⟨vs,H1,I1,r1,q1⟩=>?_) hs rfl));obtain⟨a,rfl,⟨ws,hq⟩,q⟩:=q1;obtain⟨u,rfl,ru⟩:=vals1 r1;cases ru;obtain⟨aw,rv,pl,hz⟩:=I1.list hq;show call_enumerate_list pl.isList λh' he hi hsz k=>?_;have J:Inv X pins σ H1 {s1 with heap:=h'}:=I1.kept (t':=s1.toks) k;show wpAny_pyIter_enum (s:={s1 with heap:=h'}) he ⟨s1.heap.objs.size+1,[s1.heap.objs.size+1,s1.heap.objs.size],_,_,H1,rfl,J,xn (Nat.succ_ne_self _),⟨⟨_,he⟩,hi⟩,λb hb=>?_,q⟩;have rJ:s1.heap.objs.size<=b:=by
  simp only[Yk,Xy,or_false]at hb;rcases hb with rfl|rfl<;>lia
 show I1.yA rJ (I1.aQ.fresh rJ)
noncomputable def jZ (xs:List PV):List PV:=(YB xs.length).map λi=>.tup [.int (i:Nat),xs.getD i .aF]
def Ce:List SV->Option 3e0
 |[.v (.lst xs)]=>some (jZ xs)
 |_=>none
def jI(fs:1e9):aq->M 3e0:=λρ=>aI (fs ρ) λxs=>dM λ_=>Ce xs
theorem ZS(xs:List PV):(jZ xs).length=xs.length:=by ext jZ;simp
theorem yo{K:W.Frag}{ι:2e1}{H:Hp}{C:Cs}{a:Addr}{xs:List PV}{vs:List V}(cr:7e7)(h:HA K ι H a vs)(r:ab K ι H xs vs):Iter K ι H (jZ xs) (Je K a):=by
 have keep:∀ι2 H2,Ex ι ι2 H H2->fH K H2 a vs:=λι2 H2 x=>by
  rcases h with⟨n,q|⟨o,q⟩⟩|q
  ·show .inl (.inl (x.out _ _ n q).2)
  ·show .inl (.inr ⟨o,(x.out _ _ n q).2⟩)
  ·show .inr q
 show⟨λι2 H2 C2 x c i hi=>?_,λι2 H2 C2 x c i v H3 hi y=>?_,λι2 H2 C2 x c=>⟨vs,keep ι2 H2 x,by rw[ZS,r.length];show Yl _⟩⟩
 ·rw[ZS]at hi
  obtain⟨v,e,_⟩:=r.get (Ye hi);show⟨vs,v,keep ι2 H2 x,e⟩
 ·rw[ZS]at hi
  obtain⟨b,w,hn,rfl,rfl,y⟩:=y;obtain⟨p,hp,rp⟩:=r.get' (y vs (keep ι2 _ x));show⟨λc o e=>by rw[ba (gB e hn)];show e,.tup [.int (i:Nat),p],?_,iZ hn (.cons kz (.cons (Rep.tr cr x.out p w rp) .nil))⟩;ext jZ;simp[hi];rw[Ye hi]at hp;show YR hp
end
def putD(k:Nat)(y v:SV):M Unit:=λC=>match y,v with
 |.v (.tup qs),.v p=>match C[k]?,bP qs with
  |some (.aG ks ps),some key=>if ks.length<1000 then some ((),C.set k (.aG (aP ks key) (bo ks ps key p)))else none
  |_,_=>none
 |_,_=>none
theorem xN{k:Nat}{y v:SV}{C C2:Cs}{u:Unit}(h:putD k y v C=some (u,C2)):∃qs p ks ps key,y=.v (.tup qs)/\v=.v p/\C[k]? = some (.aG ks ps)/\bP qs=some key/\ks.length<1000/\C2=C.set k (.aG (aP ks key) (bo ks ps key p)):=by
 ext putD h;split at h
 ·split at h
  ·split at h
   ·cases h;show⟨_,_,_,_,_,rfl,rfl,by assumption,by assumption,by assumption,rfl⟩
   ·cases h
  ·cases h
 ·cases h
def gi(g:2e7)(tt:4e1)(tk te:2e3)(k:Nat):List PV->aq->M Unit
 |[],_=>ret ()
 |x::xs,ρ=>match g x ρ with
  |none=>λ_=>none
  |some ρ1=>aI (tt ρ1) λb=>if b then aI (tk ρ1) λy=>aI (te ρ1) λv=>aI (putD k y v) λ_=>gi g tt tk te k xs ρ1
   else gi g tt tk te k xs ρ1
def jK(it:7e1)(vs:4e3)(fr:3e9)(g:2e7)(tt:4e1)(tk te:2e3):aq->M SV:=λρ=>aI (it ρ) λxs C=>match gi g tt tk te C.length xs (cX vs fr ρ) (C++[.aG [] []])with
 |some (_,C')=>fin C.length C' 9e7
 |none=>none
theorem uy{K:W.Frag}{it:7e1}{vs:4e3}{fr:3e9}{g:2e7}{tt:4e1}{tk te:2e3}{σ:St}{H:Hp}{Q:VK}{ι:2e1}{ρ:aq}{C C':Cs}{z:SV}(sr:SR K ι H ρ σ C)
  (e:jK it vs fr g tt tk te ρ C=some (z,C')) (q:∀v H',Fr ι H H'->CR K ι H' C'->bC K ι H' z v->Q v H'):zX (MQ K it) vs fr (zV K g) (xq K tt) (tM K tk) (tM K te) σ H Q:=by
 obtain⟨xs,C1,e1,e⟩:=bp e;show⟨ι,ρ,C,xs,C1,sr,e1,λJ H1 f1 c1 gd=>?_⟩;intro D hD;cases hc:gi g tt tk te C1.length xs (cX vs fr ρ) (C1++[.aG [] []])with
 |none=>rw[hc]at e;cases e
 |some r=>
 obtain⟨u,C9⟩:=r;rw[hc]at e;replace e:fin C1.length C9 (.c C1.length)=some (z,C'):=e;have x0:Ex ι [D] H1 (upd H1 D (.dT [])):=⟨Fr.new hD,λb hb=>by
  have:b=D:=by simpa using hb
  subst this;show hD⟩
 have c2:CR K (ι++[D]) (upd H1 D (.dT [])) (C1++[.aG [] []]):=c1.add hD ⟨[],fW,rfl,.nil⟩;have zZ:=((sr.step f1 c1).block vs fr).ex x0 c2;have QB:(ι++[D])[C1.length]? = some D:=by rw[←c1.len];simp
 show⟨λi m σ2 H2=>∃ρ2 C2,m=xs.length-i/\i<=xs.length/\Ex ι [D] H1 H2/\SR K (ι++[D]) H2 ρ2 σ2 C2/\gi g tt tk te C1.length (xs.drop i) ρ2 C2=some (u,C9),⟨xs.length,_,_,rfl,Y2 _,x0,zZ,hc⟩,?_⟩;rintro i m σ2 H2 ⟨ρ2,C2,rfl,rG,x2,gb,e2⟩;rcases YQ i xs.length with bA|QD
 ·right
  show⟨gd.go [D] H2 C2 x2 gb.cr i bA,λσ' H'=>∃ρ2 C2,Ex ι [D] H1 H'/\SR K (ι++[D]) H' ρ2 σ' C2/\gi g tt tk te C1.length (xs.drop (i+1)) ρ2 C2=some (u,C9),?_,?_⟩
  ·rintro σ' H' ⟨ρ3,C3,x3,Gh,e3⟩
   show⟨xs.length-(i+1),by lia,ρ3,C3,rfl,bA,x3,Gh,e3⟩
  ·intro v H3 y
   obtain⟨sm,qv,hq,rq⟩:=gd.uZ [D] H2 C2 x2 gb.cr i v H3 bA y;have hd:xs.drop i=qv::xs.drop (i+1):=by
    rw[Xc bA];rw[Ye bA]at hq;rw[YR hq]
   rw[hd]at e2;ext gi e2;have nx:∀{Ha Hb:Hp},Ex ι [D] H1 Ha->Fr (ι++[D]) Ha Hb->Ex ι [D] H1 Hb:=λ{Ha Hb} x f=>⟨λb o n e=>f b o (x.out b o n e).1 (x.out b o n e).2,x.2⟩
   have kl:Fr (ι++[D]) H2 H3:=λb o _ z=>sm b o z;have lZ:CR K (ι++[D]) H3 C2:=gb.cr.same sm;cases nG:g qv ρ2 with
   |none=>rw[nG]at e2;cases e2
   |some ρ3=>
    rw[nG]at e2;obtain⟨b,C3,e3,e4⟩:=bp e2;show⟨ι++[D],ρ2,C2,qv,ρ3,gb.step kl lZ,rq,nG,λσ4 zY=>⟨ι++[D],ρ3,C2,b,C3,zY,e3,λH5 f5 c5=>?_⟩⟩;have x5:=nx (nx x2 kl) f5;have iE:=zY.step f5 c5;cases b with
    |false=>
     rw[if_neg Yn]at e4;sleep 6;rw[if_neg Yn];show⟨ρ3,C3,x5,iE,e4⟩
    |true=>
     rw[if_pos rfl]at e4;sleep 6;rw[if_pos rfl];obtain⟨y1,C4,e5,e6⟩:=bp e4;obtain⟨y2,C5,e7,e8⟩:=bp e6;obtain⟨y3,C6,e9,QU⟩:=bp e8;obtain⟨qs,p,ks,ps,key,rfl,rfl,wC,gJ,hlen,rfl⟩:=xN e9;show⟨ι++[D],ρ3,C3,_,C4,iE,e5,λv6 H6 f6 c6 r6=>⟨ι++[D],ρ3,C4,_,C5,iE.step f6 c6,e7,λv7 H7 f7 c7 r7=>?_⟩⟩;obtain⟨u3,h1,hl,rv⟩:=(show aX K (ι++[D]) H7 D (.aG ks ps)from c7.ok C1.length D _ QB wC)
     obtain⟨bk,rfl,hb⟩:=Rf (show Rep K (ι++[D]) H7 (.tup qs) v6 from Rep.mono c6 f7 _ _ r6) gJ;obtain⟨z1,z2⟩:=iS (k:=key) (v:=v7) hl;have Zx:Fr (ι++[D]) H7 (upd H7 D (.dT (putK (ks.zip u3) key v7))):=λb u n e=>by
      rw[ba (λz=>n (by rw[z];show YH QB))];show e
     have c8:CR K (ι++[D]) (upd H7 D (.dT (putK (ks.zip u3) key v7))) (C5.set C1.length (.aG (aP ks key) (bo ks ps key p))):=
      c7.put QB ⟨bo ks u3 key v7,by rw[←z1];show fW,z2,ab.mono c7 Zx _ _ (jt r7 rv)⟩
     show⟨_,rl.t h1 hb (by rw[W3,YZ];lia),ρ3,_,nx (nx (nx x5 f6) f7) Zx,((iE.step f6 c6).step f7 c7).step Zx c8,QU⟩
 ·left
  have Fb:i=xs.length:=by lia
  subst Fb;rw[Ue]at e2;cases e2;show⟨gd.stop [D] H2 _ x2 gb.cr,?_⟩;obtain⟨c4,r4⟩:=jW gb.cr c1.len (show bC K (ι++[D]) H2 (.c C1.length) (.ref D)from⟨D,rfl,QB⟩) e;show q _ H2 (f1.trans x2.1) c4 r4
end Pu
namespace Pu
open PySem PySem.W PySem.Calls
open PyProof.Rows hiding St Fr
section
variable{prog:YF}{w:World}{A:Around}{E:1e1}{s:Shared}{d it v:Addr}{es:Array Uv}{ep i:Nat}
theorem lu{Q:1e1}(lo:(d==XT)=false)(hm:d7 s.heap d es ep)
  (q:Q 5e1 {s with heap:=s.heap.push {cls:=.type "dict_values",data:=.fields #[.ref d]}}):wpAny (model prog w) A (call (.builtin "dict.values") [.ref d]) Q E s:=by
 have T:=hm.ty;show Xg Um T PySem.F.entry_dict_values ?body (PySem.F.args_dict_values_1 _)
 case body=>
  show Ya ?_;ext Builtin.Dict.noArgs;show Ya (VV T ?_);change wpAny _ _ (pure d) _ _ s;show Yc ?_;change wpAny _ _ (UZ d>>=_) _ _ s;ext UZ;rw[if_neg (by rw[lo];show Yn)];show Ya (Yc ?_);show Ya (Y6 (Yc ⟨_,rfl,q⟩))
theorem ll{Q:1e1}(hv:s.heap.IsValuesView v d)(hm:d7 s.heap d es ep)
  (q:Q 5e1 {s with heap:=s.heap.push {cls:=.type "dict_valueiterator",data:=.fields #[.ref d,.int 0 0,.int es.size 0,.int ep 0]}}):wpAny (model prog w) A (pyIter (.ref v)) Q E s:=by
 obtain⟨ov,hov,hcv,X'⟩:=id hv;obtain⟨o,ho,hc,OE⟩:=hm;show UN hv.typeIs F.slot_dict_values_iter (Xg F.slot_dict_values_iter hv.typeIs F.entry_dict_values_iter ?_ (F.args_dict_values_iter_1 _));unfold WX.«dict_values.__iter__»;show Ya (Yc ?_);show Ya ?_;ext Builtin.Dict_items.dictOf;show Ya (Rx hov X' (x:=.ref d) rfl (Yc ?_));show Ya ?_;ext Builtin.Dict_items.newIterator;show Ya (WQ ho OE ?_);show Ya (VW ho OE ?_);have nD:Wg "dict_valueiterator"=false:=by decide
 simp only[nD,YD,if_false];show Y6 (Yc ⟨_,rfl,"dict_valueiterator",_,⟨_,Yg _ rfl,rfl⟩,XX.lookup,?_⟩);simpa[rawInt]using q
theorem lq{e:Uv}{Q:Option Value->Shared->Prop}(hit:s.heap.IsValIter it d i es.size ep)(hm:d7 s.heap d es ep)(hx:es[i]? = some e)
  (q:∀h',h'.IsValIter it d (i+1) es.size ep->X6 it s.heap h'->Q (some e.val) {s with heap:=h'}):wpAny (model prog w) A (pyNext (.ref it)) Q E s:=by
 obtain⟨o,ho,hc,hd⟩:=id hit;obtain⟨od,iH,kj,d9⟩:=hm;ext pyNext;show Ya (Vc (Xp (name:=WL "__next__") hit.typeIs XX
  (Xg XX hit.typeIs UO ?_ (UH _))))
 show Ya (Yc ?_);show Ya ?_;show Ya ?_;first|show Ya (WG hit.typeIs (Yc ?_))|show Ya (Vp hit.typeIs (Yc ?_))
 show Ya (Vi ho hd ?_);have nD:Wg "dict_valueiterator"=false:=by decide
 simp only[nD,YD,if_false];change wpAny _ _ (if(YN d==Xf)=true then _ else _) _ _ s;rw[if_neg (show¬((YN d==Xf)=true)from Yn)];show Ya (Yc ?_);show Ya (WQ iH d9 ?_);rw[if_neg 2e6];show Ya (Yc ?_);show Ya (VW iH d9 ?_);rw[if_neg 2e6];show Yc ?_;simp only[show¬((i:Int)<0)from by lia,if_false,XV,hx];show Ya ?_;first|show Ya (WG hit.typeIs (Yc ?_))|show Ya (Vp hit.typeIs (Yc ?_))
 show Ya (U1 hit.typeIs ?_);change wpAny _ _ (setField (.ref it) 1 (rawInt ((i:Int)+1))>>=_) _ _ s;show Ya (Wy ho hd 2e6 ?_);have JK:(s.heap.update it (Wm (·.setIfInBounds 1 (rawInt ((i:Int)+1))))).IsValIter it d (i+1) es.size ep:=
  ⟨_,Xk _ ho (WC (XA hd _)),(V2 ..).trans hc,by rw[XA hd];simp[rawInt]⟩
 show Ya (Xi ?_);show Ya (U1 (s:={s with heap:=s.heap.update it (Wm (·.setIfInBounds 1 (rawInt ((i:Int)+1))))}) JK.typeIs ?_);show Ya (U1 (s:={s with heap:=s.heap.update it (Wm (·.setIfInBounds 1 (rawInt ((i:Int)+1))))}) JK.typeIs ?_);change wpAny _ _ (pure e.val) _ _ _;show Yc (Yc ⟨_,rfl,Yc (q _ JK (Y8 ..))⟩)
theorem o4{Q:Option Value->Shared->Prop}(hh:6e8)(hit:s.heap.IsValIter it d i es.size ep)(hm:d7 s.heap d es ep)(hx:es.size<=i)
  (q:∀h',Ru it s.heap h'->Q none {s with heap:=h'}):wpAny (model prog w) A (pyNext (.ref it)) Q E s:=by
 obtain⟨o,ho,hc,hd⟩:=id hit;obtain⟨od,iH,kj,d9⟩:=hm;ext pyNext;show Ya (Vc (Xp (name:=WL "__next__") hit.typeIs XX
  (Xg XX hit.typeIs UO ?_ (UH _))))
 show Ya (Yc ?_);show Ya ?_;show Ya ?_;first|show Ya (WG hit.typeIs (Yc ?_))|show Ya (Vp hit.typeIs (Yc ?_))
 show Ya (Vi ho hd ?_);have nD:Wg "dict_valueiterator"=false:=by decide
 simp only[nD,YD,if_false];change wpAny _ _ (if(YN d==Xf)=true then _ else _) _ _ s;rw[if_neg (show¬((YN d==Xf)=true)from Yn)];show Ya (Yc ?_);show Ya (WQ iH d9 ?_);rw[if_neg 2e6];show Ya (Yc ?_);show Ya (VW iH d9 ?_);rw[if_neg 2e6];show Yc ?_;simp only[show¬((i:Int)<0)from by lia,if_false,XV,YJ hx];show Ya ?_;first|show Ya (WG hit.typeIs (Yc ?_))|show Ya (Vp hit.typeIs (Yc ?_))
 change wpAny _ _ (setField (.ref it) 0 .none>>=_) _ _ s;show Ya (Wy ho hd 2e6 ?_);change wpAny _ _ (newExc (.type "StopIteration") []>>=_) _ _ _;show Ya ?_;simp only[newExc,newTuple];show Ya (Y6 ?_ (by size_fits));show Ya (m:=Vj _ _) (P4 (a:=Xf) (by first|rfl|(simp only[Vj];rfl)) ?_);show Y6 ?_ (by size_fits);simp only[raiseNew];show Ya (RE ?_);rw[show A.in1.handled=none from hh];show Ya (Yc (Rt ?_));show Ya (W5 (T:="StopIteration") (b:=true) ⟨_,Yg _ rfl,rfl⟩ RK ?_);show Yc (q _ (((Y8 ..).extBut.push _).push _))
theorem sj(hh:6e8)(I:Addr)(da:d≠I):
  Walks prog w A I [I,d] [I] es.size (λi v=>∃e,es[i]? = some e/\v=e.val) (λi h=>h.IsValIter I d i es.size ep/\d7 h d es ep) where
 sub:=λb hb=>by rw[Yi.mp hb];show YS
 frame:=λ_ _ _ st hk=>⟨by obtain⟨o,e,r⟩:=st.1;show⟨o,hk I 6e9 o e,r⟩,st.2.at (hk d (.tail _ 6e9))⟩
 item:=λi s Q E hi st hQ=>by
  have hx:es[i]? = some es[i]:=Yh hi;show lq st.1 st.2 hx λh' k2 sb=>hQ _ h' s.toks ⟨_,hx,rfl⟩ ⟨k2,st.2.at λo e=>sb.extBut d o da e⟩ λb o hb e=>sb.extBut b o (λz=>hb (Yi.mpr z)) e
 done:=λs Q E st hQ=>o4 hh st.1 st.2 (Yl _) λh' x=>hQ h' s.toks λb o hb e=>x b o (λz=>hb (Yi.mpr z)) e
 self:=λi s Q E st hQ=>wpAny_pyIter_valiter st.1 hQ
theorem Ad:KdlSrc prog w "dict_values" v d es.size (λi v=>∃e,es[i]? = some e/\v=e.val) (λh=>h.IsValuesView v d/\d7 h d es ep) where
 type:=λ_ hm=>hm.1.typeIs
 there:=λ_ hm=>⟨let⟨_,ho,_⟩:=hm.1;Ys ho,hm.2.lt⟩
 keep:=λ_ _ hm hk=>⟨let⟨o,ho,x⟩:=hm.1;⟨o,hk v 9e6 o ho,x⟩,hm.2.at (hk d (.inr rfl))⟩
 notList:=by decide
 notTuple:=by decide
 hint:=λ_ _ _ _ hm hq=>kdl_hint_values hm.1.typeIs hq
 iter:=λ_ _ hh hm=>⟨_,_,λ_ _ hq=>ll hm.1 hm.2 hq,sj hh _ (Yw hm.2.lt),6e3,hm.2.at λo e=>Yb _ e⟩
end
end Pu
namespace Pu
open PySem PySem.Spec L2
open PyProof.Rows hiding St Fr
section
variable{X:Cx}{e o st:Expr}{fa fo fs:2e3}{p p2 pos apos aV:Pos}
def D9(C:Cs)(x k:SV):Option 3e0:=match aN C x,k with
 |some (.lst xs),.v (.int i)=>if i=-1 then some xs.reverse else none
 |_,_=>none
def vN(fa fs:2e3):aq->M 3e0:=λρ=>aI (fa ρ) λx=>aI (fs ρ) λk=>dM λC=>D9 C x k
theorem xC{C:Cs}{x k:SV}{z:List PV}(h:D9 C x k=some z):∃xs,aN C x=some (.lst xs)/\k=.v (.int (-1))/\z=xs.reverse:=by
 ext D9 h;split at h
 ·split at h
  ·rename_i hi
   subst hi;cases h;show⟨_,by assumption,rfl,rfl⟩
  ·cases h
 ·cases h
theorem Vals.rev:∀{vs:List V}{us:2e9},Vals vs us->Vals vs.reverse us.reverse
 |_,_,.nil=>.nil
 |_,_,.cons h t=>by rw[Wa,Wa];show Vals.append (Vals.rev t) (.cons h .nil)
theorem tU{es:Array Uv}{acc:Array Value}(h:KZ (λi v=>∃e,es[i]? = some e/\v=e.val) acc es.size):acc.toList=es.toList.map (·.val):=by
 apply XE;intro i;rw[YY,Yx,YY];by_cases hi:i<acc.size
 ·obtain⟨e,e1,e2⟩:=h.2 i _ (Yh hi)
  rw[Yh hi,e2,e1];rfl
 ·have:=h.1
  rw[YJ 1e0,YJ 1e0];rfl
theorem ET{H:Hp}{ag:3e8}{xs:List 4e5}(r:KT H ag xs):Vals (ag.map (·.2)) (xs.map λx=>x.2.2):=by
 induction r with
 |nil=>show .nil
 |cons a t ih=>show .cons a.2.2 ih
theorem ui{prog:YF}{w:World}(xs:List 4e5):(xs.map (K8 (Vy (aD prog w)))).map (·.val)=xs.map λx=>x.2.2:=by rw[Xd];rfl
def zM(C:Cs)(x:SV):Option 3e0:=match aN C x with
 |some (.aG _ ps)=>if ps.length<=1000 then some ps else none
 |_=>none
def fV(fo:2e3):aq->M 3e0:=λρ=>aI (fo ρ) λx=>dM λC=>zM C x
end
section
variable{X:Cx}
def Nj(K:W.Frag):V->List V->Hp->VK->Prop:=λx vs H Q=>∃l b xs zs,x=.ref l/\vs=[.ref b]/\H l=some (.lst xs)/\fH K H b zs/\xs.length+zs.length<=YA/\Q .aF (upd H l (.lst (xs++zs)))
theorem ZA(l:Addr)(items:Array Value)(n:Nat)(b:Addr)(dG:Array Value)(n2:Nat)(dd:Option Addr)(sl:Array (Option Value))(LN:¬(!items.isEmpty&&Vn (items.size+dG.size))=true)(OJ:items.size<=YA)(GG:items.size+dG.size<=YA+1):
  Meets (WX.«list.extend» ⟨[.ref l,.ref b],[]⟩) (λ_ R s=>s.heap.get? l=some {cls:=.type "list",dict:=none,data:=.seq items n,slots:=#[]}/\s.heap.get? b=some {cls:=.type "list",dict:=dd,data:=.seq dG n2,slots:=sl}/\R (.ok (.ret Xf)) {s with heap:=s.heap.update l (XM λx=>x++dG),toks:=s.toks}):=
 .of_wp λprog w A R s h=>by
  obtain⟨hp,g,d,tk,os⟩:=s;obtain⟨hl,hb,h⟩:=h;have f1:=AutoSeq1.idx_int;have f2:=AutoSeq1.sub_tuple_tuple;have f3:=AutoSeq1.sub_list_list;have f4:=AutoSeq1.sub_tuple_list;have f5:=AutoSeq1.sub_list_tuple
  have N8:(items++dG).size<=YA+1:=by rw[Array.size_append];show GG
  wp_walk using(RO hl rfl (hz:=OJ) (_hz':=N8)),Ux hl,Ux hb;show⟨_,rfl,h⟩
theorem EG:MtM X "list.extend" (Nj X.K):=by
 intro pins s σ H x vs v us Q I rx rv h;obtain⟨l,b,xs,zs,rfl,rfl,hH,hB,hz,q⟩:=h;cases rx;obtain⟨u,rfl,ru⟩:=rv.one;cases ru;obtain⟨z,aw,n,r,hl,e⟩:=I.Ja hH;obtain⟨ic,r2,Sz,_⟩:=I.list hB;obtain⟨⟨FC,zB,data2,rC⟩,qe,rH,n2,hd2⟩:=id Sz.isList;simp only at rH hd2;subst rH hd2;have h2:=r2.length;have hsz:aw.toArray.size+ic.toArray.size<=sizeLine:=by rw[Yr,Yr];lia
 have Ol:¬(!aw.toArray.isEmpty&&Vn (aw.toArray.size+ic.toArray.size))=true:=by
  rw[AW hsz,RN];show Yn
 show call_meets F.slot_list_extend ⟨_,e,rfl⟩ F.entry_list_extend (F.args_list_extend_2 _ _)
  (ZA l aw.toArray n b ic.toArray n2 zB rC Ol (by rw[Yr];lia) 1e0) ⟨e,qe,?_⟩
 show⟨.aF,_,I.Jb (its':=aw++ic) hH e 2e6 (r.append r2) ?_,rfl,q⟩;rw[Yf];lia
noncomputable def yE (x:SV)(ys:List SV):M SV:=λC=>match x,ys with
 |.c k,[.v (.lst qs)]=>match C[k]? with
  |some (.lst ps)=>if ps.length+qs.length<100000 then some (.v .aF,C.set k (.lst (ps++qs)))else none
  |_=>none
 |_,_=>none
theorem yD{x:SV}{ys:List SV}{C C2:Cs}{r:SV}(h:yE x ys C=some (r,C2)):∃k qs ps,x=.c k/\ys=[.v (.lst qs)]/\C[k]? = some 9e5/\ps.length+qs.length<100000/\r=.v .aF/\C2=C.set k (.lst (ps++qs)):=by
 ext yE h;split at h
 ·split at h
  ·split at h
   ·cases h;show⟨_,_,_,rfl,rfl,by assumption,by assumption,rfl,rfl⟩
   ·cases h
  ·cases h
 ·cases h
def tx(fo:2e3)(fs:1e9):aq->M SV:=λρ=>aI (fo ρ) λx=>aI (fA x) λ_=>aI (fs ρ) λys=>yE x ys
variable{o e:Expr}{es:3e4}{fo:2e3}{fs:1e9}{apos aV:Pos}
end
end Pu
namespace Pu
open PySem PySem.Spec PySem.W PySem.Calls L2 PySem.SeqAt Se
open PyProof.Rows hiding St Fr
theorem mZ{α β:Type}{f:α->β}{l₁ l₂:List β}(h:l₁.Perm l₂):∀xs:List α,l₂=xs.map f->∃ys:List α,ys.Perm xs/\l₁=ys.map f:=by
 induction h with
 |nil=>intro xs e;cases xs with
  |nil=>show⟨[],.nil,rfl⟩
  |cons x xs=>simp at e
 |cons x _ ih=>intro xs e;cases xs with
  |nil=>simp at e
  |cons y xs=>
   rw[Yq]at e;obtain⟨e1,e2⟩:=X4 e;subst e1;obtain⟨ys,p,rfl⟩:=ih xs e2;show⟨y::ys,p.cons y,rfl⟩
 |swap x y l=>intro xs e;match xs,e with
  |a::b::r,e=>
   simp only[Yq,VU]at e;obtain⟨rfl,rfl,rfl⟩:=e;show⟨b::a::r,.swap a b r,rfl⟩
  |[a],e=>simp at e
  |[],e=>simp at e
 |trans _ _ ih1 ih2=>intro xs e;obtain⟨ys,p,rfl⟩:=ih2 xs e;obtain⟨zs,q,e'⟩:=ih1 ys rfl;show⟨zs,q.trans p,e'⟩
end Pu
namespace Pu
open PySem PySem.Spec PySem.W PySem.Calls L2
open PyProof.Rows hiding St Fr
def Be(F:List SV->M SV)(f:7e1)(gs:1e9):aq->M SV:=λρ=>aI (f ρ) λps C=>match aI (gs ρ) (λxs=>F (.c C.length::xs)) (C++[.lst ps])with
 |some (r,C')=>fin C.length C' r
 |none=>none
section
variable{X:Cx}{e:Expr}{es:3e4}{p pos:Pos}{x:Str}
theorem Cg{k:Nat}{f:Addr}{fd:WI}{ps:4e3}{F:List SV->M SV}{f0:7e1}{gs:1e9}(G:fq X.prog X.w X.K X.mg X.base ot k f fd ps (av X.K F))(hr:b9 k X.A)(hg:Gl X x)(hm:X.mg x=some (.ref f))(hk:Hx X.K (.ref f)=true)(hb:Binds X.K fd ps [])
  (h0:FM X e f0) (ha:AM X es gs) (iJ:3e2:=by decide) (he:1e4:=by rfl) (cE:2e4:=by rfl):
  EM X 7e2 (Be F f0 gs):=PE.imp (iT G hr hg hm hk hb .nil vz (iU h0 ha he) iJ he cE) λσ H Q h=>by
 sleep 8;obtain⟨ps,C1,e1,e⟩:=bp e;show⟨ι,ρ,C,ps,C1,sr,e1,λa vs H1 f1 c1 QI rs=>?_⟩;cases hb:aI (gs ρ) (λxs=>F (.c C1.length::xs)) (C1++[.lst ps])with
 |none=>rw[hb]at e;cases e
 |some r=>
  obtain⟨r,C9⟩:=r;rw[hb]at e;replace e:fin C1.length C9 r=some (z,C'):=e;obtain⟨xs,C2,e2,e3⟩:=bp hb;have c2:CR X.K (ι++[a]) (upd H1 a (.lst vs)) (C1++[.lst ps]):=c1.add QI ⟨vs,fW,gT c1 QI ps vs rs⟩;have x0:Ex ι [a] H1 (upd H1 a (.lst vs)):=⟨Fr.new QI,λb hb=>by
   have:b=a:=by simpa using hb
   subst this;show QI⟩
  show⟨ι++[a],ρ,C1++[.lst ps],xs,C2,(sr.step f1 c1).ex x0 c2,e2,λws H2 f2 c3 r2=>?_⟩;change av X.K F ((V.ref a::ws)++[]) H2 Q E0;rw[YG];have hk:(ι++[a])[C1.length]? = some a:=by rw[←c1.len];simp
  show⟨ι++[a],.c C1.length::xs,C2,r,C9,c3,⟨_,_,rfl,⟨a,rfl,hk⟩,r2⟩,e3,λv H3 f3 c4 r4=>?_⟩;obtain⟨c5,r5⟩:=jW c4 c1.len r4 e;show q v H3 (λb o n e=>?_) c5 r5;obtain⟨n1,e'⟩:=x0.out b o n (f1 b o n e);show f3 b o n1 (f2 b o n1 e')
end
end Pu
namespace Hd
open PySem PySem.W PySem.Spec PySem.Calls L2 Pu
open PyProof.Rows hiding St Fr
noncomputable def kf (h:Heap)(as:2e1):Frag:=as.filterMap λa=>(h.get? a).map λo=>(a,o)
theorem tQ{h:Heap}:∀{as:2e1}{a:Addr}{o:Obj},(kf h as).lookup a=some o->h.get? a=some o
 |[],_,_,e=>by cases e
 |b::as,a,o,e=>by
  ext kf e;rw[WR]at e;cases g:h.get? b with
  |none=>rw[g]at e;show tQ e
  |some p=>
   rw[g]at e;simp only[VO,Xm]at e;by_cases q:a=b
   ·subst q;rw[beq_self_eq_true]at e;cases e;show g
   ·rw[beq_eq_false_iff_ne.mpr q]at e;show tQ e
theorem kf_in(h:Heap)(as:2e1):(kf h as).In h:=λ_ _ e=>tQ e
theorem kf_at{h:Heap}{a:Addr}{o:Obj}(g:h.get? a=some o):∀{as:2e1},a∈as->(kf h as).lookup a=some o
 |[],m=>by cases m
 |b::as,m=>by
  ext kf;rw[WR];by_cases q:a=b
  ·subst q;rw[g];simp
  ·have m':a∈as:=(Yk.mp m).resolve_left q
   cases g':h.get? b with
   |none=>show kf_at g m'
   |some p=>
    simp only[VO,Xm];rw[beq_eq_false_iff_ne.mpr q];show kf_at g m'
def At(mg:2e5)(h:Heap)(as:2e1)(d:DefRec):Prop:=∃(a c:Addr)(o:Obj)(pm doc:Value),mg d.name=some 9e8/\h.get? a=some o/\o.data=.func (docDef d.name d.params d.body d.scope pm (.ref c) doc)/\h.CodeRec (.ref c) d.name/\a∈as/\c∈as
theorem CS{mg:2e5}{h:Heap}(L4:2e1):∀ds:List DefRec,(∀d∈ds,∃a o pm code doc,mg d.name=some 9e8/\h.get? a=some o/\o.data=.func (docDef d.name d.params d.body d.scope pm code doc)/\h.CodeRec code d.name)->
  ∃as:List Addr,(∀a∈L4,a∈as)/\∀d∈ds,At mg h as d
 |[],_=>⟨L4,λ_ m=>m,λ_ m=>nomatch m⟩
 |d::ds,T=>by
  obtain⟨as,h0,ih⟩:=CS L4 ds λe m=>T e (.tail _ m);obtain⟨a,o,pm,cd,doc,h1,h2,h3,h4⟩:=T d 6e9;obtain⟨c,oc,vs,t,rfl,r⟩:=h4;show⟨a::c::as,λb m=>.tail _ (.tail _ (h0 b m)),λe m=>?_⟩;rcases Yk.mp m with rfl|m
  ·show⟨a,c,o,pm,doc,h1,h2,h3,⟨c,oc,vs,t,rfl,r⟩,.head _,.tail _ 6e9⟩
  ·obtain⟨a',c',o',pm',ZH,q1,q2,q3,q4,q5,q6⟩:=ih e m
   show⟨a',c',o',pm',ZH,q1,q2,q3,q4,.tail _ (.tail _ q5),.tail _ (.tail _ q6)⟩
def FnAt(K:Frag)(mg:2e5)(x:Str)(st:Stmt):Prop:=∃f fd,mg x=some (.ref f)/\DL K x x st f fd
noncomputable def four (d:DefRec):Str×Arguments×List Stmt×Scope:=(d.name,d.params,d.body,d.scope)
def B0(p:Str×Stmt):Str×Arguments×List Stmt×Scope:=(p.1,dU p.2,bL p.2,ak p.2)
theorem cu{mg:2e5}{h:Heap}{as:2e1}{ds:List DefRec}{zo:List (Str×Stmt)}(A:∀d∈ds,At mg h as d)(es:ds.map four=zo.map B0)(i:Nat){x:Str}{st:Stmt}(e:zo[i]? = some (x,st)):FnAt (kf h as) mg x st:=by
 have q:(ds.map four)[i]? = some (B0 (x,st)):=by rw[es,Yx,e];rfl
 obtain⟨d,e',q⟩:=XG.mp ((Yx ..).symm.trans q);obtain⟨n,ps,b,sc,p⟩:=d;obtain⟨rfl,q⟩:=Prod.mk.inj q;obtain⟨q1,q⟩:=Prod.mk.inj q;obtain⟨q2,q3⟩:=Prod.mk.inj q;dsimp only at q1 q2 q3;subst q1 q2 q3;obtain⟨a,c,o,pm,doc,h1,h2,h3,h4,h5,h6⟩:=A _ (YH e');obtain⟨c',oc,vs,t,e1,g,hd,hv⟩:=h4;cases e1;obtain⟨cl,dd,dt,sl⟩:=o;cases(show dt=_ from h3);have k1:=kf_at h2 h5;have k2:=kf_at g h6;show⟨a,_,h1,Ka (oc:=cl) (od:=dd) (osl:=sl) (kV:=.none) (doc:=doc) (pm:=pm) (an:=none) (ct:=.none) (cdv:=.ref c) k1 ?_ ?_⟩
 ·obtain⟨ocl,odd,odt,osl⟩:=oc
  cases(show odt=_ from hd);ext codeIn;sleep 6;rw[k2];obtain⟨l⟩:=vs
  match l,hv with
  |_::v::r,hv=>
   cases(show v=_ by simpa using hv);simp
 ·ext keepIn
  sleep 6;rw[k1]
theorem Ia{mg:2e5}{x y:Str}(h:∃v,mg x=some v/\∀h':Heap,Reads h' v (.str y) []):∃t,mg x=some (.str y t):=by
 obtain⟨v,e,r⟩:=h;cases r default;show⟨_,e⟩
noncomputable def Kj (s:Stmt):Pos:=match s with
 |.FunctionDef _ _ _ _ _ _ _ _ _ p=>p
 |_=>⟨0,0,0,0⟩
noncomputable def tY (p:YF)(loose:4e3)(x:Str):Bool:=startupNames.contains x||loose.contains x||((recsOf p).map (·.name)).contains x||((litsOf p).map (·.1)).contains x||((clssOf p loose).map (·.name)).contains x
theorem fL{p:YF}{loose:4e3}{SX:ExcName->Option Value}{mg mb:2e5}{h:Heap}(T:Top p loose SX mg mb h){xs:4e3}(e:xs.all (λx=>!tY p loose x)=true)(i:Nat){x:Str}(hx:xs[i]? = some x):mg x=none:=by
 have q:=YW.mp e x (YH hx);ext tY q;simp only[Bool.not_or,YI,Bool.not_eq_true',List.contains_eq_mem,decide_eq_false_iff_not]at q;show T.free x q.1.1.1.1 q.1.1.1.2 q.1.1.2 q.1.2 q.2
noncomputable def z0 (K:Frag):Sp:=λvs H Q _=>∃(a:Addr)(ns:List Int),vs=[.ref a]/\fH K H a (ns.map V.int)/\ns.length<=63/\∀H',Q (.bl true) H'
theorem lb{K:Frag}{ι:2e1}{H:Hp}:∀ns:List Int,ab K ι H (ns.map PV.int) (ns.map V.int)
 |[]=>by ext ab;rfl
 |n::ns=>by
  rw[Yq,Yq];ext ab;show⟨_,_,rfl,by ext Rep;rfl,lb ns⟩
theorem rX{K:Frag}{F:List SV->M SV}(hF:∀ns:List Int,ns.length<=63->F [.v 4e2] []=some (.v (.bl true),[]))(vs:List V)(H:Hp)(Q:VK)(E:XK)(h:z0 K vs H Q E):av K F vs H Q E:=by
 obtain⟨a,ns,rfl,hS,hl,hQ⟩:=h;show⟨[],[.v 4e2],[],.v (.bl true),[],⟨rfl,List.nodup_nil,λk a c e=>by cases e⟩,?_,hF ns hl,λv H' _ _ r=>?_⟩
 ·ext aU
  show⟨_,_,rfl,?_,by ext aU;rfl⟩;unfold bC Rep;show⟨a,_,rfl,?_,lb ns⟩;rcases hS with h|h
  ·show .inl ⟨Xy,h⟩
  ·show .inr h
 ·have e:v=.bl true:=by unfold bC Rep at r;show r
  subst e;show hQ H'
theorem walk{l:OpenLaw}{k:Nat}{q:YF}{loose:4e3}{XP:(Str->Option Value)->Heap->Prop}{YP:World->Heap->Prop}{d:DefRec}(hn:l.most=some 63)(qg:d.params.defaults=[])(hr:b9 k K3)(L4:2e1)
  (F:∀(w:World)(s₀:Shared)(mg mb:2e5)(h:Heap)(as:2e1),Ground q loose [] XP w s₀ mg mb h->YP w h->(∀a∈L4,a∈as)->(∀d∈recsOf q,At mg h as d)->∀fa:Addr,mg d.name=some (.ref fa)->
   ∃fd:WI,(∀(s:Shared)(u:Value),BindsTo s fd ⟨[u],[]⟩ [("_law_script",u)])/\∀base:Heap,fq l.prog w (kf h as) mg base ot k fa fd ["_law_script"] (z0 (kf h as))):
  WalkO q loose XP YP l.row.toRowW d [] (λf vs=>PySem.call f vs):=by
 show Att.qU hn qg λw s₀ s₁ mg mb fa o pm cd doc a vs ns G Y ho hd kj Oh JE hints hlen hg=>?_;obtain⟨as,h0,A⟩:=CS L4 (recsOf q) G.T.fn;obtain⟨fd,hb,hF⟩:=F w s₀ mg mb _ as G Y h0 A fa Oh;show Bu (kf_in s₁.heap as) G.T.g G.T.b G.T.builtins G.T.nolimit hg JE hints (Xb hlen 1e7) hr (λbase _ _=>hF base) hb (λH hO hS=>⟨a,ns,rfl,hS,hlen,λ_=>rfl⟩) λH e s' z=>z
end Hd
namespace L2
open PySem PySem.Spec PyProof.Rows
abbrev GT:=TI×TG×TT
noncomputable abbrev lobj (aw:2e9)(k:Nat):Obj:={cls:=.type "list",data:=.seq aw.toArray k}
def xg(te:TE):List GT->List V->St->Hp->(St->List V->Hp->Prop)->Prop
  |[],ys,σ,H,N=>te σ H λy H4=>ys.length<=YA/\N σ (ys++[y]) H4
  | (wi,g,tt)::rest,RW,σ0,H0,N=>wi σ0 H0 λJ H1=>
    ∃W:Nat->Nat->St->List V->Hp->Prop,(∃m,W 0 m σ0 RW H1)/\∀i m σ ys H,W i m σ ys H->
      (J.stop i H/\N σ ys H)\/
      (J.go i H/\∃N1:St->List V->Hp->Prop,(∀σ2 Ds H2,N1 σ2 Ds H2->∃m',m'<m/\W (i+1) m' σ2 Ds H2)/\∀x H',J.uZ i H x H'->g x σ H' λσ2 H2=>tt σ2 H2 λb H3=>
        if b=true then xg te rest ys σ2 H3 N1 else N1 σ2 ys H3)
def Dp(J:It)(g:TG)(tt:TT)(rest:List GT)(te:TE)(RW:List V)(σ0:St)(H1:Hp)(N:St->List V->Hp->Prop):Prop:=
  ∃W:Nat->Nat->St->List V->Hp->Prop,(∃m,W 0 m σ0 RW H1)/\∀i m σ ys H,W i m σ ys H->
   (J.stop i H/\N σ ys H)\/
   (J.go i H/\∃N1:St->List V->Hp->Prop,(∀σ2 Ds H2,N1 σ2 Ds H2->∃m',m'<m/\W (i+1) m' σ2 Ds H2)/\∀x H',J.uZ i H x H'->g x σ H' λσ2 H2=>tt σ2 H2 λb H3=>
    if b=true then xg te rest ys σ2 H3 N1 else N1 σ2 ys H3)
inductive fj(Y:Cx):List Wn->List GT->Prop
 |nil:fj Y [] []
 |cons {t i:Expr} {ifs:List Expr} {gs:List Wn} {wi:TI} {g:TG} {tt:TT} {rs:List GT} (hI:PI Y t i wi) (hG:PG Y t g) (hT:zG Y ifs tt) (hs:∀x,Y1 i Y.env x=pure x) (r:fj Y gs rs):fj Y (⟨t,i,ifs,0⟩::gs) ((wi,g,tt)::rs)
section
variable{prog:YF}{w:World}{A:Around}{R:9e3}{s:Shared}{elt t i:Expr}{ifs:3e4}{gens:List Wn}{scope:Scope}{pos:Pos}{d:Nat}
theorem kN(hg:gens[d]? = some ⟨t,i,ifs,0⟩)(hn:gens[d+1]? = none)(it acc:Value)(env:Env):
  Mo 7e0 d it acc env=(do
   FW i.pos
   match←pyNext it with
   |none=>pure (.done .next)
   |some v=>
    WT t it v
    assign t env v
    let mut ok:=true
    for c in ifs do
     if ok then ok ←isTrue c env (eval c env)
    if ok then
     (do let _ ←call (.builtin "list.append") [acc,←eval elt env])
    again (.compLoop (.ListComp elt gens scope pos) d it acc env)):=by
 ext Mo;simp only[hg,hn];rfl
theorem kM{t1 i1:Expr}{qd:3e4}(hg:gens[d]? = some ⟨t,i,ifs,0⟩)(hn:gens[d+1]? = some ⟨t1,i1,qd,0⟩)(it acc:Value)(env:Env):
  Mo 7e0 d it acc env=(do
   FW i.pos
   match←pyNext it with
   |none=>pure (.done .next)
   |some v=>
    WT t it v
    assign t env v
    let mut ok:=true
    for c in ifs do
     if ok then ok ←isTrue c env (eval c env)
    if ok then
     let x ←eval i1 env
     FW i1.pos
     let x ←Y1 i1 env x
     let _ ←runOwn (.compStart 7e0 (d+1) (←zF [x] (pyIter x)) acc env) env
    again (.compLoop (.ListComp elt gens scope pos) d it acc env)):=by
 ext Mo;simp only[hg,hn];rfl
theorem Zcq{it acc:Value}{env:Env}(hg:gens[d]? = some ⟨t,i,ifs,0⟩)(step:(Shared->Prop)->Shared->Prop)
  (Oa:(gens[d+1]? = none/\∀P s,step P s->wpAny 1e5 A (eval elt env) (λx s₄=>wpAny 1e5 A (call (.builtin "list.append") [acc,x]) (λ_ s₅=>P s₅) (eB prog w A env R) s₄) (eB prog w A env R) s)\/
   ∃t1 i1 qd,gens[d+1]? = some ⟨t1,i1,qd,0⟩/\(∀x,Y1 i1 env x=pure x)/\∀P s,step P s->wpAny 1e5 A (eval i1 env) (λx s₃=>wpAny 1e5 A (pyIter x) (λGF s₄=>
      WA (model prog w) A (.compStart (.ListComp elt gens scope pos) (d+1) GF acc env) (λr s₅=>match r with|.ok _=>P s₅ | .error _=>False) s₄)
      (eB prog w A env R) s₃) (eB prog w A env R) s)
  (I:Nat->Shared->Prop)
  (turn:∀n s,I n s->wpAny 1e5 A (pyNext it) (λr s₁=>match r with
   |none=>R (.ok .next) s₁
   |some v=>wpAny 1e5 A (WT t it v) (λ_ s₁'=>wpAny 1e5 A (assign t env v) (λ_ s₂=>
     wpAny 1e5 A (forIn ifs true λc r=>if r=true then do let ok ←isTrue c env (eval c env);pure (WV ok)else pure (WV r)) (λok s₃=>
      if ok=true then step (λs₅=>∃m,m<n/\I m s₅) s₃
      else ∃m,m<n/\I m s₃) (eB prog w A env R) s₂) (eB prog w A env R) s₁') (eB prog w A env R) s₁) (eB prog w A env R) s)
  (n:Nat) (h:I n s):WA 1e5 A (.compLoop 7e0 d it acc env) R s:=by
 show codeAny_loop rfl I (λn s hI=>?_) n h;change wpAny _ A ((Mo 7e0 d it acc env).onRaise (λx=>do noteFrame x env;theTreesLotGoes x)) _ _ s;show wpAny_noted ?_;rcases Oa with⟨hn,ow⟩|⟨t1,i1,qd,hn,Tu,ow⟩
 ·rw[kN hg hn]
  show Ya (W9 (Ya (Xo (turn n s hI) (λr s₁ h₁=>?_) λ_ _ h'=>h')));cases r with
  |none=>show Yc h₁
  |some v=>
   show Ya (Xo h₁ (λ_ s₁' h₁'=>?_) λ_ _ h'=>h');show Ya (Xo h₁' (λ_ s₂ h₂=>Ya (Xo h₂ (λok s₃ h₃=>?_) λ_ _ h'=>h')) λ_ _ h'=>h');cases ok with
   |false=>show Yc ⟨rfl,h₃⟩
   |true=>
    rw[if_pos rfl]at h₃;show Ya (Ya (Xo (ow _ _ h₃) (λx s₄ h₄=>Ya (Xo h₄ (λ_ s₅ h₅=>Yc (Yc ⟨rfl,h₅⟩)) λ_ _ h'=>h')) λ_ _ h'=>h'))
 ·rw[kM hg hn]
  show Ya (W9 (Ya (Xo (turn n s hI) (λr s₁ h₁=>?_) λ_ _ h'=>h')));cases r with
  |none=>show Yc h₁
  |some v=>
   show Ya (Xo h₁ (λ_ s₁' h₁'=>?_) λ_ _ h'=>h');show Ya (Xo h₁' (λ_ s₂ h₂=>Ya (Xo h₂ (λok s₃ h₃=>?_) λ_ _ h'=>h')) λ_ _ h'=>h');cases ok with
   |false=>show Yc ⟨rfl,h₃⟩
   |true=>
    rw[if_pos rfl]at h₃;show Ya (Xo (ow _ _ h₃) (λx s₄ h₄=>?_) λ_ _ h'=>h');show Ya (W9 ?_);rw[Tu];show Ya (Yc (Ya (Xi (Xo h₄ (λGF s₅ h₅=>?_) λ_ _ h'=>h'))));show Ya (wpAny_runOwn (UW h₅ λr s₆ hr=>?_));cases r with
    |error e=>show hr.elim
    |ok f=>show Yc ⟨rfl,hr⟩
theorem ZdA{it acc:Value}{env:Env}(hg:gens[d]? = some ⟨t,i,ifs,0⟩)
    (h0:WA 1e5 A (.compLoop 7e0 d it acc env) R s)
    (h:wpAny 1e5 A (pyIter it) (λGF s'=>WA 1e5 A (.compLoop 7e0 d GF acc env) R s') (eB prog w A env R) s):
    WA 1e5 A (.compStart 7e0 d it acc env) R s:=by
  show Ycs ?_;change wpAny _ A ((compStart 7e0 d it acc env).onRaise (λx=>do noteFrame x env;FW theWindowsPlace)) _ _ s;show wpAny_notedAt ?_;ext compStart;have Fc:(clausesOf 7e0)[d]? = some ⟨t,i,ifs,0⟩:=hg;rw[Fc];change wpAny _ A (ask>>=_) _ _ s;show Ya (W6 (wpAny_ite ?_));split
  · first
      |show Ya (Yc (Yc (And.intro rfl h0)))
      |show Yc (And.intro rfl h0)
  · first
      |show Ya (WP (Ya (W9 (Ya (Xo h (λGF s' h'=>Yc (And.intro rfl h')) λ_ _ x=>x)))))
      |(show Ya (WP ?_);change wpAny _ _ (FW i.pos>>=_) _ _ s;show Ya (W9 (Ya (Xo h (λGF s' h'=>Yc (And.intro rfl h')) λ_ _ x=>x))))
end
section
variable{Y:Cx}{elt:Expr}{gens:List Wn}{scope:Scope}{pos:Pos}{te:TE}{D:Addr}
theorem runN(eC:Y.calm=true)(eX:Y.xe=λ_ _=>False)(hE:PE Y elt te)(hDl:D≠Y.env.locals)(hDf:D∉Y.fs)(hDe:D∈Y.ex\/Y.s₀.heap.objs.size<=D)(hDc:∀x c,Y.env.cells.lookup x=some c->c≠D)(hDp:∀p∈Y.pn,p.1≠D):
  ∀(rest:List GT)(d:Nat)(t i:Expr)(ifs:3e4)(g:TG)(tt:TT),gens[d]? = some ⟨t,i,ifs,0⟩->PG Y t g->zG Y ifs tt->fj Y (gens.drop (d+1)) rest->
  ∀(pl:1e8)(J:It)(it:Addr)(fp:2e1)(tn:Nat->Heap->Prop)(ys:List V)(aw:2e9)(k:Nat)(σ:St)(H:Hp)(s:Shared)(N:St->List V->Hp->Prop)(R:9e3),
   (∀p∈pl,p.1≠D)->Turn Y.prog Y.w Y.K t J fp it tn->Dp J g tt rest te ys σ H N->Inv Y ((D,lobj aw k)::pl) σ H s->Vals ys aw->tn 0 s.heap->(∀b∈fp,fm Y ((D,lobj aw k)::pl) H b)->
   (∀σ' f' its' k' H' s',Inv Y ((D,lobj its' k')::pl) σ' H' s'->Vals f' its'->N σ' f' H'->R (.ok .next) s')->
   WA (model Y.prog Y.w) Y.A (.compStart 7e0 d (.ref it) (.ref D) Y.env) R s:=by
 intro rest;induction rest with
 |nil=>
  intro d t i ifs g tt hg hG hT BW pl J it fp tn ys aw k σ H s N R cE T q I rv st f1 hR;have hn:gens[d+1]? = none:=by
   generalize hz:gens.drop (d+1)=z at BW;cases BW;have:gens.length<=d+1:=by simpa using hz
   show YT.mpr this
  obtain⟨W,⟨m0,w0⟩,turn⟩:=q;have Fh:∀b∈fp,b≠D:=λb hb=>X5 ((f1 b hb).2.2.2.2.2 (D,lobj aw k) (Yo _ YS));have fJ:∀{H':Hp}{its':2e9}{k':Nat},10e2->∀b∈fp,fm Y ((D,lobj its' k')::pl) H' b:=λ{H' its' k'} hn b hb=>by
   obtain⟨a0,a1,a2,a3,a4,a5⟩:=f1 b hb;show⟨hn b hb,a1,a2,a3,a4,λp hp=>?_⟩;rcases Ym.mp hp with hp|hp
   ·show a5 p (Y4 _ hp)
   ·rcases Yk.mp hp with rfl|hp
    ·show X5 (Fh b hb)
    ·show a5 p (Yo _ (YL _ hp))
  have loop:WA (model Y.prog Y.w) Y.A (.compLoop 7e0 d (.ref it) (.ref D) Y.env) R s:=by
   show Zcq hg (λP s=>wpAny (model Y.prog Y.w) Y.A (eval elt Y.env) (λx s₄=>wpAny (model Y.prog Y.w) Y.A (call (.builtin "list.append") [.ref D,x]) (λ_ s₅=>P s₅) (eB Y.prog Y.w Y.A Y.env R) s₄) (eB Y.prog Y.w Y.A Y.env R) s) (.inl ⟨hn,λP s h=>h⟩)
    (λn s'=>∃i σ' f' its' k' H',Inv Y ((D,lobj its' k')::pl) σ' H' s'/\Vals f' its'/\tn i s'.heap/\10e2/\W i n σ' f' H') ?_ m0
    ⟨0,σ,ys,aw,k,H,I,rv,st,λb hb=>(f1 b hb).1,w0⟩
   rintro n s3 ⟨i,σ3,DO,nv,k3,H3,J3,Gi,zp,kl,w3⟩;rcases turn i n σ3 DO H3 w3 with⟨stop,qn⟩|⟨go,N1,hN,step⟩
   ·show me (T.done Y rfl rfl rfl eC i _ s3 σ3 H3 (λ_ _=>False) J3 (fJ kl) zp stop) λr s4 h_=>?_
    obtain⟨hr,J4⟩:=h_;subst hr;show hR σ3 DO nv k3 H3 s4 J4 Gi qn
   ·show me (T.item Y rfl rfl rfl eC i _ s3 σ3 H3 (λ_ _=>False) J3 (fJ kl) zp go) λr s4 h_=>?_
    obtain⟨u,hr,h4⟩:=h_;subst hr;show me h4 λ_ s5 h_=>?_;obtain⟨x,H5,J5,r5,y5,rW,Kb⟩:=h_;have Qh:=J5.pinned (fJ Kb) (T.obj _ _ rW);have GQ:=hG _ s5 σ3 H5 x u _ Qh r5 (step x H5 y5);rw[eX]at GQ;show me GQ λ_ s6 h_=>?_;obtain⟨σ6,H6,J6,q6⟩:=h_;have go2:=hT _ s6 σ6 H6 _ J6 q6;rw[eX]at go2;show me go2 λok s7 h_=>?_;obtain⟨H7,J7,q7⟩:=h_;have fin:∀{σ8:St}{H8:Hp}{s8:Shared},Inv Y (((D,lobj nv k3)::pl)++eR fp s5.heap) σ8 H8 s8->
      tn (i+1) s8.heap/\(∀b∈fp,H8 b=none):=λ{σ8 H8 s8} J8=>by
     show⟨T.keep _ _ _ rW λb hb o e=>(J8.pin (b,o) (Yo _ (Yo _ (Ho hb e)))).1,λb hb=>?_⟩;obtain⟨o,e,d⟩:=T.obj _ _ rW b hb;show(J8.pin (b,o) (Yo _ (Yo _ (Ho hb e)))).2.1
    cases ok with
    |false=>
     rw[if_neg Yn]at q7⊢;obtain⟨m',hm,w7⟩:=hN _ _ _ q7;show⟨m',hm,i+1,σ6,DO,nv,k3,H7,J7.eh,Gi,(fin J7).1,(fin J7).2,w7⟩
    |true=>
     rw[if_pos rfl]at q7⊢;have GP:=hE _ s7 σ6 H7 _ J7 q7;rw[eX]at GP;show me GP λyv s8 h_=>?_;obtain⟨y,H8,J8,r8,hlen,n8⟩:=h_;obtain⟨m',hm,w8⟩:=hN _ _ _ n8;have SD:=J8.pin (D,lobj nv k3) (Yo _ (Y4 _ YS));show append_at (hsz:=by rw[Yr,←Gi.length];show hlen) SD.1 λh9 hs9 hD9=>?_;have Jp:Inv Y pl σ6 H8 s8:=J8.dS λp hp=>J8.pin p (Yo _ (Y4 _ (YL _ hp)));have J9:Inv Y pl σ6 H8 {s8 with heap:=h9}:=Jp.turned (t':=s8.toks) (λb o hb e=>(hs9.2 b hb).trans e) SD.2.1 hDl hDe hDc λp hp=>by
      rcases Ym.mp hp with hp|hp
      ·show hDp p hp
      ·show cE p hp
     show⟨m',hm,i+1,σ6,DO++[y],nv++[yv],k3+1,H8,J9.dS λp hp=>?_,Vals.append Gi (.cons r8 .nil),?_,(fin J8).2,w8⟩
     ·rcases Yk.mp hp with rfl|hp
      ·show⟨by change h9.get? D=_;rw[hD9,List.push_toArray],SD.2.1,hDl,hDf,λv z=>by cases z⟩
      ·show J9.pin p (Yo _ hp)
     ·show T.keep _ _ _ (fin J8).1 λb hb o e=>(hs9.2 b (Fh b hb)).trans e
  show ZdA hg loop (T.self _ 0 _ _ _ st loop)
 |cons r rest ih=>
  intro d t i ifs g tt hg hG hT BW pl J it fp tn ys aw k σ H s N R cE T q I rv st f1 hR;generalize hz:gens.drop (d+1)=z at BW;cases BW with
  |@cons t1 i1 qd QQ wi1 g1 tt1 _ hI1 hG1 Zk Tu r1=>
  have hn:gens[d+1]? = some ⟨t1,i1,qd,0⟩:=by
   have:=congrArg (λl=>l[0]?) hz;simpa using this
  have T7:gens.drop (d+1+1)=QQ:=by
   have:=congrArg (λl=>l.drop 1) hz;simpa[Ua,Nat.add_comm]using this
  obtain⟨W,⟨m0,w0⟩,turn⟩:=q;have Fh:∀b∈fp,b≠D:=λb hb=>X5 ((f1 b hb).2.2.2.2.2 (D,lobj aw k) (Yo _ YS));have fJ:∀{H':Hp}{its':2e9}{k':Nat},10e2->∀b∈fp,fm Y ((D,lobj its' k')::pl) H' b:=λ{H' its' k'} hn b hb=>by
   obtain⟨a0,a1,a2,a3,a4,a5⟩:=f1 b hb;show⟨hn b hb,a1,a2,a3,a4,λp hp=>?_⟩;rcases Ym.mp hp with hp|hp
   ·show a5 p (Y4 _ hp)
   ·rcases Yk.mp hp with rfl|hp
    ·show X5 (Fh b hb)
    ·show a5 p (Yo _ (YL _ hp))
  have loop:WA (model Y.prog Y.w) Y.A (.compLoop 7e0 d (.ref it) (.ref D) Y.env) R s:=by
   show Zcq hg (λP s=>wpAny (model Y.prog Y.w) Y.A (eval i1 Y.env) (λx s₃=>wpAny (model Y.prog Y.w) Y.A (pyIter x) (λGF s₄=>
      WA (model Y.prog Y.w) Y.A (.compStart (.ListComp elt gens scope pos) (d+1) GF (.ref D) Y.env) (λr s₅=>match r with|.ok _=>P s₅ | .error _=>False) s₄)
      (eB Y.prog Y.w Y.A Y.env R) s₃) (eB Y.prog Y.w Y.A Y.env R) s) (.inr ⟨t1,i1,qd,hn,Tu,λP s h=>h⟩)
    (λn s'=>∃i σ' f' its' k' H',Inv Y ((D,lobj its' k')::pl) σ' H' s'/\Vals f' its'/\tn i s'.heap/\10e2/\W i n σ' f' H') ?_ m0
    ⟨0,σ,ys,aw,k,H,I,rv,st,λb hb=>(f1 b hb).1,w0⟩
   rintro n s3 ⟨i,σ3,DO,nv,k3,H3,J3,Gi,zp,kl,w3⟩;rcases turn i n σ3 DO H3 w3 with⟨stop,qn⟩|⟨go,N1,hN,step⟩
   ·show me (T.done Y rfl rfl rfl eC i _ s3 σ3 H3 (λ_ _=>False) J3 (fJ kl) zp stop) λr s4 h_=>?_
    obtain⟨hr,J4⟩:=h_;subst hr;show hR σ3 DO nv k3 H3 s4 J4 Gi qn
   ·show me (T.item Y rfl rfl rfl eC i _ s3 σ3 H3 (λ_ _=>False) J3 (fJ kl) zp go) λr s4 h_=>?_
    obtain⟨u,hr,h4⟩:=h_;subst hr;show me h4 λ_ s5 h_=>?_;obtain⟨x,H5,J5,r5,y5,rW,Kb⟩:=h_;have Qh:=J5.pinned (fJ Kb) (T.obj _ _ rW);have GQ:=hG _ s5 σ3 H5 x u _ Qh r5 (step x H5 y5);rw[eX]at GQ;show me GQ λ_ s6 h_=>?_;obtain⟨σ6,H6,J6,q6⟩:=h_;have go2:=hT _ s6 σ6 H6 _ J6 q6;rw[eX]at go2;show me go2 λok s7 h_=>?_;obtain⟨H7,J7,q7⟩:=h_;have fin:∀{its':2e9}{k':Nat}{σ8:St}{H8:Hp}{s8:Shared},Inv Y ((D,lobj its' k')::(pl++eR fp s5.heap)) σ8 H8 s8->
      tn (i+1) s8.heap/\(∀b∈fp,H8 b=none):=λ{its' k' σ8 H8 s8} J8=>by
     show⟨T.keep _ _ _ rW λb hb o e=>(J8.pin (b,o) (Yo _ (YL _ (Yo _ (Ho hb e))))).1,λb hb=>?_⟩;obtain⟨o,e,d⟩:=T.obj _ _ rW b hb;show(J8.pin (b,o) (Yo _ (YL _ (Yo _ (Ho hb e))))).2.1
    have un:∀{its':2e9}{k':Nat}{σ8:St}{H8:Hp}{s8:Shared},Inv Y ((D,lobj its' k')::(pl++eR fp s5.heap)) σ8 H8 s8->Inv Y ((D,lobj its' k')::pl) σ8 H8 s8:=λ{its' k' σ8 H8 s8} J8=>J8.dS λp hp=>J8.pin p (Yo _ (by
     rcases Yk.mp hp with rfl|hp
     ·show YS
     ·show YL _ (Y4 _ hp)))
    cases ok with
    |false=>
     rw[if_neg Yn]at q7⊢;obtain⟨m',hm,w7⟩:=hN _ _ _ q7;show⟨m',hm,i+1,σ6,DO,nv,k3,H7,un J7,Gi,(fin J7).1,(fin J7).2,w7⟩
    |true=>
     rw[if_pos rfl]at q7⊢;have GP:=hI1 _ s7 σ6 H7 _ J7 q7;rw[eX]at GP;show me GP λxv s8 h8=>me h8 λLz s9 h9=>?_;obtain⟨gd,fp1,tn1,J1,H9,e9,J9,T1,st9,f9,q9⟩:=h9;subst e9;show ih (d+1) t1 i1 qd g1 tt1 hn hG1 Zk (by rw[T7];show r1) (pl++eR fp s5.heap) J1 gd fp1 tn1 DO nv k3 σ6 H9 s9 N1 _ (λp hp=>?_) T1 q9 J9 Gi st9 f9 λσ' f' its' k' H' s' J' rv' n'=>?_
     ·rcases Ym.mp hp with hp|hp
      ·show cE p hp
      ·show Fh _ (lC hp).1
     ·obtain⟨m',hm,w'⟩:=hN _ _ _ n'
      show⟨m',hm,i+1,σ',f',its',k',H',un J',rv',(fin J').1,(fin J').2,w'⟩
  show ZdA hg loop (T.self _ 0 _ _ _ st loop)
end
section
variable{X:Cx}{tg elt iter:Expr}{ifs:3e4}{gs:List Wn}{scope:Scope}{pos:Pos}{vs fs:4e3}{fr:3e9}{g:TG}{tt:TT}{te:TE}{rest:List GT}
def Dm(J:It)(vs:4e3)(fr:3e9)(g:TG)(tt:TT)(rest:List GT)(te:TE)(σ:St)(H1:Hp)(Q:VK):Prop:=
 Dp J g tt rest te [] (iD vs fr σ) H1 λ_ ys H=>ys.length<=YA/\∀D,H D=none->Q (.ref D) (upd H D (.lst ys))
theorem Zdz{pins:1e8}{σ:St}{H:Hp}{s:Shared}{Q:VK}{it:Addr}{fp:2e1}{tn:Nat->Heap->Prop}{J:It}{RR:Value->Addr->Result->Shared->Prop}
  (S:8e1) (hc:5e0)
  (bG:∀C s₀ H₀ ex pn,PG 1e2 tg g) (bT:∀C s₀ H₀ ex pn,zG 1e2 ifs tt) (bR:∀C s₀ H₀ ex pn,fj 1e2 gs rest) (bE:∀C s₀ H₀ ex pn,PE 1e2 elt te)
  (I:2e0) (T:Turn X.prog X.w X.K tg J fp it tn) (st:tn 0 s.heap) (hf:∀b∈fp,fm X pins H b)
  (q:Dm J vs fr g tt rest te σ H Q)
  (Zm:∀D C H' s' m',Inv X pins σ H' s'->Q (.ref D) H'->s'.heap.Ns C m'->H' C=none->s.heap.objs.size<=C->RR (.ref D) C (.ok .next) s'):
  wpAny 2e2 X.A (newList []) (λacc s₃=>wpAny 2e2 X.A (newFunctionEnv scope X.env.globals (bH X.env.cells scope.names []) [] X.env.qual none .none (some X.env)) (λCK s₄=>
   WA (model X.prog X.w) X.A (.compStart (.ListComp elt (⟨tg,iter,ifs,0⟩::gs) scope pos) 0 (.ref it) acc {CK with scope:=relabel scope X.env}) (RR acc CK.locals) s₄) X.xe s₃) X.xe s:=by
 show Y6 (wpAny_newFunctionEnv S.CM (by intro y hy;simp at hy) (λh₁ hns₁ hsb₁=>?_) S.kind);dsimp only at hns₁ hsb₁⊢;generalize LU:s.heap.push {cls:=.type "list",dict:=none,data:=.seq ([]:List Value).toArray}=H2 at hns₁ hsb₁⊢;have QN:H2.objs.size=s.heap.objs.size+1:=by rw[←LU,V7]
 have QM:s.heap.objs.size≠H2.objs.size:=by rw[QN];show Yw (VA _)
 have Fd:s.heap.objs.size<=H2.objs.size:=by rw[QN];show P6 _
 have old:∀b o,s.heap.get? b=some o->h₁.get? b=some o:=λb o e=>hsb₁.extBut b o (zb e Fd) (Yb _ (LU▸Yb _ e));have jS:h₁.get? s.heap.objs.size=some {cls:=.type "list",data:=.seq ([]:List Value).toArray 0}:=hsb₁.extBut _ _ QM (Yb _ (LU▸Yg _ rfl));have GL:∀b∈fp,∃o,s.heap.get? b=some o:=λb hb=>by obtain⟨o,e,_⟩:=T.obj 0 _ st b hb;show⟨o,e⟩
 generalize hY:d8 X (vs++fs) scope H2.objs.size s H fp (X.pn++pins)=Y;have J0:Inv Y [] (iD vs fr σ) H {s with heap:=h₁,toks:=s.toks+([]:List (Str×Value)).length}:=by
  rw[←hY];show Zd2 S I hf GL Fd hns₁ old
 have hG:PG Y tg g:=by rw[←hY];show bG _ _ _ _ _
 have hGs:fj Y gs rest:=by rw[←hY];show bR _ _ _ _ _
 have hT:zG Y ifs tt:=by rw[←hY];show bT _ _ _ _ _
 have hE:PE Y elt te:=by rw[←hY];show bE _ _ _ _ _
 have G3:Y.prog=X.prog:=by rw[←hY];rfl
 have eW:Y.w=X.w:=by rw[←hY];rfl
 have eK:Y.K=X.K:=by rw[←hY];rfl
 have eA:Y.A=X.A:=by rw[←hY];rfl
 have eC:Y.calm=true:=by rw[←hY];show hc
 have uu:Y.env=compEnvC scope (bH X.env.cells scope.names []) H2.objs.size X.env:=by rw[←hY];rfl
 have eL:Y.env.locals=H2.objs.size:=by rw[uu];rfl
 have eX:Y.xe=λ_ _=>False:=by rw[←hY];rfl
 have eS:Y.s₀=s:=by rw[←hY];rfl
 have ZG:Y.ex=fp:=by rw[←hY];rfl
 have QS:Y.fs=ub X.stack:=by rw[←hY];rfl
 have QR:Y.pn=X.pn++pins:=by rw[←hY];rfl
 have QT:∀x c,Y.env.cells.lookup x=some c->X.env.cells.lookup x=some c:=λx c e=>by
  rw[uu]at e;show S.cl I.ok e
 have CL:∀x c,Y.env.cells.lookup x=some c->c≠s.heap.objs.size:=λx c e=>by
  obtain⟨v,z⟩:=I.cell x c (QT x c e);show Yw z.lt
 have Sy:∀p∈Y.pn,p.1≠s.heap.objs.size:=λp hp=>by
  rw[QR]at hp;show zb (I.pin p hp).1 (Yl _)
 have Fh:∀b∈fp,b≠s.heap.objs.size:=λb hb=>by obtain⟨o,e⟩:=GL b hb;show zb e (Yl _)
 have OS:s.heap.objs.size∉Y.fs:=λz=>by
  rw[QS]at z;rcases Yk.mp (I.h7 _ z)with z|z
  ·show absurd I.lt (by rw[←z];show Wx _)
  ·show I.IP (Yl _) z
 have fJ:∀{H':Hp}{o:Obj},10e2->∀b∈fp,fm Y [(s.heap.objs.size,o)] H' b:=λ{H' o} hn b hb=>by
  obtain⟨f0,f1,f2,f3,f4,f5⟩:=hf b hb;obtain⟨ob,e⟩:=GL b hb;show⟨hn b hb,by rw[eL];show zb e Fd,λz=>?_,.inl (by rw[ZG];show hb),λx c e=>f4 x c (QT x c e),λp hp=>?_⟩
  ·rw[QS]at z
   rcases Yk.mp (I.h7 _ z)with z|z
   ·show f1 z
   ·show f2 z
  ·rcases Ym.mp hp with hp|hp
   ·rw[QR]at hp;show f5 p hp
   ·have:p=(s.heap.objs.size,o):=by simpa using hp
    rw[this];show X5 (Fh b hb)
 have SA:∀{σ':St}{H':Hp}{s':Shared}{aw:2e9}{k:Nat},Inv Y [] σ' H' s'->H' s.heap.objs.size=none->s'.heap.get? s.heap.objs.size=some {cls:=.type "list",data:=.seq aw.toArray k}->
   Inv Y [(s.heap.objs.size,{cls:=.type "list",data:=.seq aw.toArray k})] σ' H' s':=λ{σ' H' s' aw k} i hn e=>i.dS λp hp=>by
  have:p=(s.heap.objs.size,{cls:=.type "list",data:=.seq aw.toArray k}):=by simpa using hp
  subst this;show⟨e,hn,by rw[eL];show QM,OS,λv z=>by cases z⟩
 have T':Turn Y.prog Y.w Y.K tg J fp it tn:=by rw[G3,eW,eK];show T
 have run:∀s₃:Shared,s₃={s with heap:=h₁,toks:=s.toks+([]:List (Str×Value)).length}->
   WA 2e2 X.A (.compStart (.ListComp elt (8e9::gs) scope pos) 0 (.ref it) 5e1 (compEnvC scope (bH X.env.cells scope.names []) H2.objs.size X.env))
    (RR 5e1 H2.objs.size) s₃:=by
  rintro s₃ rfl;rw[←uu,←G3,←eW,←eA];show runN (gens:=8e9::gs) (D:=s.heap.objs.size) eC eX hE (by rw[eL];show QM) OS (.inr (by rw[eS];show Yl _)) CL Sy rest 0 tg iter ifs g tt rfl hG hT hGs [] J it fp tn [] [] 0 (iD vs fr σ) H _ _ _ (λp hp=>(nomatch hp)) T' q (SA J0 (I.aQ.fresh (Yl _)) jS) .nil (T.keep _ _ _ st λb _ o e=>old b o e) (fJ λb hb=>(hf b hb).1) λσ' ys aw k H3 s4 J4 rv qn=>?_;have SE:=J4.pin (s.heap.objs.size,_) (Yo _ (Yi.mpr rfl));obtain⟨m4,Oi,_⟩:=id J4.loc;rw[eL]at Oi;have nC:H3 H2.objs.size=none:=by rw[←eL];show J4.free
  show Zm _ _ _ s4 m4 (comp_back I hf (by rw[hY];show J4) (Yl _) SE.2.1 qn.1 rv SE.1) (qn.2 _ SE.2.1) Oi ?_ Fd;rw[ba (X5 QM)];show nC
 show run _ rfl
noncomputable def rV (wi:TI)(vs:4e3)(fr:3e9)(g:TG)(tt:TT)(rest:List GT)(te:TE):TE:=λσ H Q=>wi σ H λJ H1=>Dm J vs fr g tt rest te σ H1 Q
theorem jB{wi:TI}(S:8e1)(hc:5e0)(hi:PI X tg iter wi)
  (bG:∀C s₀ H₀ ex pn,PG 1e2 tg g) (bT:∀C s₀ H₀ ex pn,zG 1e2 ifs tt) (bR:∀C s₀ H₀ ex pn,fj 1e2 gs rest) (bE:∀C s₀ H₀ ex pn,PE 1e2 elt te)
  (hs:9e2:=by intro _;rfl):
  PE X (.ListComp elt (8e9::gs) scope pos) (rV wi vs fr g tt rest te):=by
 intro pins s σ H Q I h;rw[eval_ListComp];show Ui (use:=none) rfl hs (ZcF (S.FD I.ok)) S.kind S.Jf (bS (hi pins s σ H _ I h) λv s1 h1=>bS h1 λLz s2 h2=>?_);obtain⟨it,fp,tn,J,H2,e,I2,T,iP,f2,q2⟩:=h2;subst e;show Zdz (RR:=λacc C=>compPost 2e2 X.A X.xe none (EP X pins σ Q) acc C) S hc bG bT bR bE I2 T iP f2 q2 ?_;intro D C H' s' m' I' hq hn hC hle;show⟨m',hn,λh' eF=>⟨.ref D,H',?_,rfl,hq⟩⟩;show I'.turned (t':=s'.toks) (λb o hb e=>(eF.2 b hb).trans e) hC ?_ (.inr (Xb I2.sz hle)) ?_ ?_
 ·show XW (Yz I2.lt hle)
 ·intro x c e
  obtain⟨v,z⟩:=I2.cell x c e;show Yw (Yz z.lt hle)
 ·intro p hp
  show zb (I2.pin p hp).1 hle
end
end L2
namespace Pu
open PySem PySem.Spec PySem.W PySem.Calls L2
open PyProof.Rows hiding St Fr
def cU(P:YF)(w:World)(K:W.Frag)(mg:2e5)(base:Heap)(k:Nat)(x:Str)(ps:4e3)(S:Sp):Prop:=∃(f:Addr)(fd:WI),fq P w K mg base ot k f fd ps S/\mg x=some (.ref f)/\Hx K (.ref f)=true/\Binds K fd ps []
section
variable{prog:YF}{w:World}{A:Around}{E:1e1}{s:Shared}{I l:Addr}{items:Array Value}
theorem BU{Q:6e0}{i:Int}(hit:s.heap.IsRevIter I l i)(h:Q false s):wpAny 1e5 A (W4 (.ref I)) Q E s:=by
 have hT:=hit.typeIs;have n1:typeLookup (.type "list_reverseiterator") "__len__"=pure none:=by rw[UB,Ve];kernel_rfl
 have n2:typeLookup (.type "list_reverseiterator") "__length_hint__"=pure (some (.builtin "list_reverseiterator.__length_hint__")):=by rw[UB,Ve];kernel_rfl
 ext W4;show Ya (Vo hT n1 ?_);show Xn (λdN=>absurd dN 1e7) (λ_=>?_);show Xn (λdN=>absurd dN 1e7) (λ_=>?_);show Ya (Vo hT n2 ?_);generalize JM:("list_reverseiterator.__length_hint__":String)=Tb
 wp_delta
 rw[show splitId Tb=some ("list_reverseiterator","__length_hint__")from by subst JM;decide +kernel];subst JM;show Ya (W5 (T:="list_reverseiterator") (b:=true) hT (by rw[V9];kernel_rfl) ?_);show Xn (λdN=>absurd dN 1e7) (λ_=>?_);show Xn (λ_=>?_) (λdN=>absurd 5e3 dN);show Xn (λdN=>absurd dN 1e7) (λ_=>?_);show Yc h
theorem xB{acc:Array Value}(h:KZ (λi v=>items[items.size-1-i]? = some v) acc items.size):acc.toList=items.toList.reverse:=by
 apply XE;intro i;rw[YY];have hz:=h.1;by_cases hi:i<items.size
 ·have e:=h.2 i _ (Yh 1e0)
  rw[Yh 1e0,List.getElem?_reverse (by simpa using hi),Xs,YY,e]
 ·rw[YJ 1e0,YK 6e2]
theorem si{R:9e3}(hh:6e8)(hit:s.heap.IsRevIter I l ((items.size:Int)-1))(hl:s.heap.IsList l items)(S:Addr)(LR:S≠I)(LO:S≠l)(Zp:l≠I)(res:Value)(c₀:Nat)(hS:s.heap.get? S=some {cls:=.type "list",data:=.seq #[] c₀})(hn:items.size<=YA)
  (hR:∀h' tk ff c',(∀b o,b≠S->b≠I->s.heap.get? b=some o->h'.get? b=some o)->h'.get? S=some {cls:=.type "list",dict:=none,data:=.seq ff c',slots:=#[]}->ff.toList=items.toList.reverse->R (.ok (.ret res)) {s with heap:=h',toks:=tk}):
  wpAny 1e5 A.in1 (Xu (.ref S) (.ref I) res)
   (λfin s'=>match fin with|.done f=>R (.ok f) s' | .again c'=>c'.quiet=true/\WA (model prog w) A c' R s') (λe s'=>R (.error e) s') s:=by
 ext Xu;show Ya (Vb (T:="list_reverseiterator") hit.typeIs ?_);have h1:WE (.ref S) (.ref I)=false:=by simp[WE,LR]
 simp only[h1,show(XY "list_reverseiterator"==XY "list")=false by decide,show(XY "list_reverseiterator"==XY "tuple")=false by decide,Bool.or_false,YD,if_false];show Ya (wpAny_pyIter_revIter hit ?_);have QJ:S∉[I,l]:=by simp[LR,LO]
 have W:=Walks.listRev (prog:=prog) (w:=w) (A:=A.in1) hh I l Zp items;have st:(0<=items.size/\s.heap.IsRevIter I l ((items.size:Int)-1-((0:Nat):Int))/\s.heap.IsList l items):=⟨Y2 _,by simpa using hit,hl⟩
 show Ya (Xi (BU hit ?_));show Xn (λdN=>absurd dN 5e3) (λ_=>Yc ⟨V0 Ub _,?_⟩);show codeAny_extend_loopS W.toS hn S QJ res items.size 0 _ #[] c₀ rfl (Y2 _) st hS (ItemsOf.nil _) λs' ff c' rD JS jS=>?_;rw[Moved.eq_with rD];show hR s'.heap s'.toks ff c' (λb o hb hI e=>rD.heap b o (λt8=>?_) e) JS (xB jS);rcases Yk.mp t8 with e'|t8
 ·show hb e'
 ·show hI (Yi.mp t8)
theorem Ab{R:9e3}(hh:6e8)(hit:s.heap.IsRevIter I l ((items.size:Int)-1))(hl:s.heap.IsList l items)(S:Addr)(LR:S≠I)(LO:S≠l)(Zp:l≠I)(hS:s.heap.get? S=some {cls:=.type "list",data:=.seq #[]})(hn:items.size<=YA)
  (hR:∀h' tk ff c',(∀b o,b≠S->b≠I->s.heap.get? b=some o->h'.get? b=some o)->h'.get? S=some {cls:=.type "list",dict:=none,data:=.seq ff c',slots:=#[]}->ff.toList=items.toList.reverse->R (.ok (.ret .none)) {s with heap:=h',toks:=tk}):
  wpAny 1e5 A.in1 (WX.«list.__init__» ⟨[.ref S,.ref I],[]⟩)
   (λfin s'=>match fin with|.done f=>R (.ok f) s' | .again c'=>c'.quiet=true/\WA (model prog w) A c' R s') (λe s'=>R (.error e) s') s:=by
 change wpAny _ _ (do let old ←Builtin.List.listItems (.ref S);Builtin.List.listUpdate (.ref S) (λ_=>#[]);letGo old.toList.reverse;Xu (.ref S) (.ref I) .none) _ _ s;show Ya ?_;ext Builtin.List.listItems;show Ya (VG hS rfl (Yc ?_));change wpAny _ _ (updateSeq S (λ_=>#[])>>=λ_=>letGo (#[]:Array Value).toList.reverse>>=λ_=>Xu (.ref S) (.ref I) .none) _ _ s;show Ya (RO hS rfl ?_);have hS₂:=Xk (XM (λ_=>(#[]:Array Value))) hS rfl;have iF:∀b o,b≠S->s.heap.get? b=some o->(s.heap.update S (XM (λ_=>(#[]:Array Value)))).get? b=some o:=
  λb o hb e=>(XZ _ _ (X5 hb)).trans e
 show Ya (wpAny_letGo ?_);show si (s:={s with heap:=s.heap.update S (XM (λ_=>(#[]:Array Value)))}) hh (hit.at λo e=>iF _ _ (X5 LR) e) (hl.at λo e=>iF _ _ (X5 LO) e) S LR LO Zp .none _ hS₂ hn λh' tk ff c' hk JS jS=>?_;show hR h' tk ff c' (λb o hb hI e=>hk b o hb hI (iF b o hb e)) JS jS
theorem kG{Q:1e1}(hh:6e8)(hl:s.heap.IsList l items)(hn:items.size<=YA)
  (h:∀D h' tk c acc,s.heap.objs.size<=D->(∀b o,s.heap.get? b=some o->h'.get? b=some o)->h'.get? D=some {cls:=.type "list",dict:=none,data:=.seq acc c,slots:=#[]}->acc.toList=items.toList.reverse->Q (.ref D) {s with heap:=h',toks:=tk}):
  wpAny 1e5 A (call (.type "reversed") [.ref l]) (λv s1=>wpAny 1e5 A (call (.type "list") [v]) Q E s1) E s:=by
 have bA:l<s.heap.objs.size:=by obtain⟨o,g,_⟩:=hl;show Ys g
 show call_reversed_list hl ?_;have T5:(s.heap.push (revObj l ((items.size:Int)-1))).IsRevIter s.heap.objs.size l ((items.size:Int)-1):=6e3;have hl0:(s.heap.push (revObj l ((items.size:Int)-1))).IsList l items:=hl.push _;have Dv:(s.heap.push (revObj l ((items.size:Int)-1))).objs.size=s.heap.objs.size+1:=V7 ..
 have k0:∀b o,s.heap.get? b=some o->(s.heap.push (revObj l ((items.size:Int)-1))).get? b=some o:=λb o e=>Yb _ e;generalize(s.heap.push (revObj l ((items.size:Int)-1)))=g at *;show callType_codes (Q₁:=λobj s₁=>obj=.ref g.objs.size/\s₁={s with heap:=g.push {cls:=.type "list",data:=.seq #[]}}) PySem.F.called_list (PySem.F.typeCall_list_1 _) PySem.F.entry_list_init
  (code_list_new _ ⟨rfl,rfl⟩) λobj s₁ h₁=>?_
 obtain⟨rfl,rfl⟩:=h₁;have hS:(g.push {cls:=.type "list",data:=.seq #[]}).get? g.objs.size=some {cls:=.type "list",data:=.seq #[]}:=Yg _ rfl;have n1:g.objs.size≠s.heap.objs.size:=by rw[Dv];show XW (VA _)
 have n2:g.objs.size≠l:=by rw[Dv];show XW (Wt bA)
 show⟨⟨_,hS,rfl⟩,PySem.F.args_list_init_2 _ _,Ab (A:=A.in1) (s:={s with heap:=g.push {cls:=.type "list",data:=.seq #[]}}) hh (T5.at λo e=>Yb _ e) (hl0.push _) _ n1 n2 (Yw bA) hS hn (λh' tk ff c' hk JS jS=>?_)⟩;show⟨rfl,h _ h' tk c' ff (by rw[Dv];show P6 _) (λb o e=>hk b o ?_ ?_ (Yb _ (k0 b o e))) JS jS⟩
 ·show Yw (by rw[Dv];show Wt (Ys e))
 ·show Yw (Ys e)
end
theorem ZdK:XF "reversed"=some (.type "reversed"):=by decide +kernel
theorem uG:XF "list"=some (.type "list"):=by decide +kernel
def gE(f:2e3):aq->M 3e0:=λρ=>aI (f ρ) λx=>dM λC=>match aN C x with
 |some (.lst ps)=>some ps.reverse
 |_=>none
section
variable{X:Cx}{e:Expr}{f:2e3}{p p2 pos pz:Pos}
theorem oV{K:W.Frag}{ι:2e1}{H:Hp}:∀{ps:List PV}{vs:List V},ab K ι H ps vs->ab K ι H ps.reverse vs.reverse
 |[],vs,r=>by rw[r.fP];show .nil
 |q::ps,vs,r=>by
  obtain⟨v,w,rfl,h1,h2⟩:=r.inv;rw[Wa,Wa];show(oV h2).append (.cons h1 .nil)
theorem oB:∀{vs:List V}{us:2e9},Vals vs us->Vals vs.reverse us.reverse
 |[],_,.nil=>.nil
 |v::vs,_,.cons r t=>by
  rw[Wa,Wa];show Vals.append (oB t) (.cons r .nil)
end
end Pu
namespace Pu
open PySem PySem.Spec PySem.W PySem.Calls L2
open PyProof.Rows hiding St Fr strKind
open PySem.Builtin.Str (partsBetween occurrences strKind)
section
variable{X:Cx}{e:Expr}{es:3e4}{f:2e3}{fs:1e9}{p pos:Pos}
variable{o:Expr}{fo:2e3}{apos aV:Pos}
abbrev B5:=iG (λ_ j=>decide (0<j/\j<2^200)) λi j=>.int (i/j)
theorem AR:gf X (Uc .FloorDiv) (rI (λ_ j=>0<j/\j<2^200) λi j=>.int (i/j)):=Qq λi j _ _ _ _ _ hc q=>by
 have h1:(0:Int)<j:=hc.1;have h2:j<2^200:=hc.2;show floordiv_int 1e0 (by rw[Int.fdiv_eq_ediv_of_nonneg i 1e0];show q) (.inl (PyProof.noPylong_of_log2 ?_));have:j.natAbs<2^200:=by lia
 have h0:j.natAbs≠0:=by lia
 show VN ((Nat.log2_lt h0).mpr this) 1e7
end
end Pu
namespace Pu
open PySem PySem.Spec PySem.W PySem.Calls L2
open PyProof.Rows hiding St Fr
section
variable{X:Cx}{e o:Expr}{es:3e4}{f fo fa:2e3}{fs:1e9}{p pos apos aV:Pos}
noncomputable def Vai:PV->List PV->Option PV
 |.str z,[.str y]=>some (.bl (Txt.endswith z y))
 |_,_=>none
def Vaq(C:Cs)(x y:SV):Option SV:=match x,aN C y with
 |.v (.str a),some (.str b)=>if a.length+b.length<=1000000 then some (.v (.str (a++b)))else none
 |_,_=>none
noncomputable def Vak (x:SV)(ys:List SV):M SV:=λC=>match x,ys with
 |.c k,[.v (.int n),.v p]=>match C[k]? with
  |some (.lst ps)=>if 0<=n/\n<=ps.length/\ps.length<100000 then some (.v .aF,C.set k (.lst (ps.take n.toNat++p::ps.drop n.toNat)))else none
  |_=>none
 |_,_=>none
def wR(C:Cs)(x y:SV):Option 3e0:=match aN C x,aN C y with
 |some (.lst a),some (.lst b)=>if a.length+b.length<=100000 then some (a++b)else none
 |_,_=>none
def vR(fa fb:2e3):aq->M 3e0:=λρ=>aI (fa ρ) λx=>aI (fb ρ) λy=>dM λC=>wR C x y
end
end Pu
namespace Sn
open PySem PySem.Spec PySem.SetTable Pu L2
open Sem (wp)
mutual
noncomputable def aM (w:World):PV->Int
 |.int i=>EX w (.inl i)
 |.str x=>EX w (.inr x)
 |.tup ps=>reduceHash (X1 (c9 w ps))
 |_=>0
noncomputable def c9 (w:World):List PV->List Int
 |[]=>[]
 |p::ps=>aM w p::c9 w ps
end
mutual
noncomputable def fe:PV->Nat
 |.tup ps=>cg ps+1
 |_=>1
noncomputable def cg:List PV->Nat
 |[]=>0
 |p::ps=>fe p+cg ps
end
theorem Zd1(w:World):∀(ps qs:List PV),c9 w (ps++qs)=c9 w ps++c9 w qs
 |[],qs=>rfl
 |p::ps,qs=>by change aM w p::c9 w (ps++qs)=_;rw[Zd1 w ps qs];rfl
theorem Zdu:∀(ps qs:List PV),cg (ps++qs)=cg ps+cg qs
 |[],qs=>by change cg qs=0+_;lia
 |p::ps,qs=>by change fe p+cg (ps++qs)=fe p+cg ps+_;rw[Zdu ps qs];lia
theorem cn{p:PV}{ps:List PV}:aO (p::ps)=true↔bf p=true/\aO ps=true:=by
 rw[aO,YI]
theorem lX{p:PV}{ps:List PV}{n:Nat}:cA (p::ps)<=n↔dep p<=n/\cA ps<=n:=by
 rw[cA,Nat.max_le]
theorem shape{h:Heap}{p:PV}{v:Value}(hp:bf p=true)(hr:ae h p v):(UT v=true/\dep p=0/\∃k:Key,gG k v=true/\(∀w,aM w p=EX w k)/\fe p=1)\/∃ps a us,p=.tup ps/\v=.ref a/\h.IsTuple a us.toArray/\ah h ps us/\aO ps=true:=by
 cases p with
 |int i=>
  ext ae hr;obtain⟨t,rfl⟩:=hr;show .inl ⟨rfl,rfl,.inl i,lN i t,λw=>rfl,rfl⟩
 |str x=>
  ext ae hr;obtain⟨t,rfl⟩:=hr;show .inl ⟨rfl,rfl,.inr x,ZW x t,λw=>rfl,rfl⟩
 |tup ps=>
  ext ae hr;obtain⟨a,us,rfl,ht,hs⟩:=hr;ext bf hp;show .inr ⟨ps,a,us,rfl,rfl,ht,hs,hp⟩
 |_=>simp[bf]at hp
section
variable{prog:YF}{w:World}{A:Around}{E:1e1}{s:Shared}
theorem Al:∀(n:Nat)(p:PV)(v:Value)(Q:6e0),bf p=true->dep p<=n->ae s.heap p v->Q true s->wpAny 1e5 A (eqIsQuiet n v) Q E s:=by
 intro n;induction n with
 |zero=>
  intro p v Q hp hd hr h;rcases shape hp hr with⟨hv,_⟩|⟨ps,a,us,rfl,rfl,ht,hs,t7⟩
  ·rw[eqIsQuiet_byValue _ hv];show Yc h
  ·ext dep hd;lia
 |succ n ih=>
  intro p v Q hp hd hr h;rcases shape hp hr with⟨hv,_⟩|⟨ps,a,us,rfl,rfl,ht,hs,t7⟩
  ·rw[eqIsQuiet_byValue _ hv];show Yc h
  ·obtain⟨o,ho,hc,c,qf⟩:=ht
   have hT:s.TypeIs 9e8 "tuple":=⟨o,ho,hc⟩
   ext eqIsQuiet;show Ya (Vo hT F.slot_tuple_eq.lookup ?_);change wpAny _ _ (isInstance 9e8 (.type "tuple")>>=_) _ _ s;show Ya (W5 hT isSubtype_tuple_tuple ?_);simp only[UE,YD,if_false];show Ya (VG ho qf ?_);show Ya ?_;change wpAny _ _ (forIn us.toArray _ _) _ _ s;rw[←UF];ext dep hd;show VB _ (λrest r s'=>r.1=none/\s'=s/\∃qs,ah s.heap qs rest/\aO qs=true/\cA qs<=n) _ ?_ ?_ _ _ ⟨rfl,rfl,ps,hs,t7,by lia⟩
   ·rintro v rest r s' ⟨hr,rfl,qs,hq,zw,JP⟩
    cases qs with
    |nil=>ext ah hq;cases hq
    |cons q qs=>
     ext ah hq;obtain⟨v',r',e,h1,h2⟩:=hq;cases e;rw[cn]at zw;rw[lX]at JP;show Ya (ih q v _ zw.1 JP.1 h1 ?_);simp only[UE,YD,if_false];show Yc ⟨rfl,rfl,qs,h2,zw.2,JP.2⟩
   ·rintro⟨r1,r2⟩ s' ⟨Dv,rfl,_⟩
    have hz:r1=none:=Dv;subst hz;show Yc h
theorem Gq:∀(n:Nat)(p:PV)(v:Value)(Q:6e0),bf p=true->dep p<=n->ae s.heap p v->Q false s->wpAny 1e5 A (Ybk n v) Q E s:=by
 intro n;induction n with
 |zero=>
  intro p v Q hp hd hr h;rcases shape hp hr with⟨hv,_⟩|⟨ps,a,us,rfl,rfl,ht,hs,t7⟩
  ·rw[Se.ir _ hv];show Yc h
  ·ext dep hd;lia
 |succ n ih=>
  intro p v Q hp hd hr h;rcases shape hp hr with⟨hv,_⟩|⟨ps,a,us,rfl,rfl,ht,hs,t7⟩
  ·rw[Se.ir _ hv];show Yc h
  ·obtain⟨o,ho,hc,c,qf⟩:=ht
   have hT:s.TypeIs 9e8 "tuple":=⟨o,ho,hc⟩
   ext Ybk;show Ya (Vb hT ?_);sleep 6;rw[if_pos (show("tuple"=="tuple")=true by decide)];show Ya (Yc ?_);simp only[UE,YD,if_false];show Ya (VG ho qf ?_);sleep 6;show Ya ?_;change wpAny _ _ (forIn us.toArray _ _) _ _ s;rw[←UF];ext dep hd;show VB _ (λrest r s'=>r.1=none/\s'=s/\∃qs,ah s.heap qs rest/\aO qs=true/\cA qs<=n) _ ?_ ?_ _ _ ⟨rfl,rfl,ps,hs,t7,by lia⟩
   ·rintro v rest r s' ⟨hr,rfl,qs,hq,zw,JP⟩
    cases qs with
    |nil=>ext ah hq;cases hq
    |cons q qs=>
     ext ah hq;obtain⟨v',r',e,h1,h2⟩:=hq;cases e;rw[cn]at zw;rw[lX]at JP;show Ya (ih q v _ zw.1 JP.1 h1 ?_);simp only[YD,if_false];show Yc ⟨rfl,rfl,qs,h2,zw.2,JP.2⟩
   ·rintro⟨r1,r2⟩ s' ⟨Dv,rfl,_⟩
    have hz:r1=none:=Dv;subst hz;show Yc h
theorem Ze:∀(n:Nat)(p:PV)(v:Value)(Q:6e0),bf p=true->ae s.heap p v->(∀b,Q b s)->wpAny 1e5 A (hashByValue n v) Q E s:=by
 intro n;induction n with
 |zero=>
  intro p v Q hp hr h;rcases shape hp hr with⟨hv,_⟩|⟨ps,a,us,rfl,rfl,ht,hs,t7⟩
  ·obtain⟨b,e⟩:=Se.jR 0 hv
   rw[e];show Yc (h _)
  ·show Yc (h _)
 |succ n ih=>
  intro p v Q hp hr h;rcases shape hp hr with⟨hv,_⟩|⟨ps,a,us,rfl,rfl,ht,hs,t7⟩
  ·obtain⟨b,e⟩:=Se.jR (n+1) hv
   rw[e];show Yc (h _)
  ·obtain⟨o,ho,hc,c,qf⟩:=ht
   have hT:s.TypeIs 9e8 "tuple":=⟨o,ho,hc⟩
   ext hashByValue;show Ya (Vo hT V3.lookup ?_);sleep 6;show Ya (VG ho qf ?_);show Ya ?_;change wpAny _ _ (forIn us.toArray _ _) _ _ s;rw[←UF];show VB _ (λrest r s'=>s'=s/\r.1=none/\∃qs,ah s.heap qs rest/\aO qs=true) _ ?_ ?_ _ _ ⟨rfl,rfl,ps,hs,t7⟩
   ·rintro v rest r s' ⟨rfl,hr,qs,hq,zw⟩
    cases qs with
    |nil=>ext ah hq;cases hq
    |cons q qs=>
     ext ah hq;obtain⟨v',r',e,h1,h2⟩:=hq;cases e;rw[cn]at zw;show Ya (ih q v _ zw.1 h1 λb=>?_);cases b
     ·show Yc (Yc (h _))
     ·show Yc ⟨rfl,rfl,qs,h2,zw.2⟩
   ·rintro⟨r1,r2⟩ s' ⟨rfl,Dv,_⟩
    have hz:r1=none:=Dv;subst hz;show Yc (h _)
end
section
variable{prog:YF}{w:World}
theorem Ee:∀(n:Nat)(p:PV)(v:Value)(A:Around)(E:1e1)(s:Shared)(Q:Int->Shared->Prop),bf p=true->dep p<=n->ae s.heap p v->A.units+n<cLine->Q (aM w p) {s with toks:=s.toks+fe p}->wpAny (model prog w) A (pyHash v) Q E s:=by
 intro n;induction n with
 |zero=>
  intro p v A E s Q hp hd hr hu h;rcases shape hp hr with⟨hv,_,k,hk,hh,Y'⟩|⟨ps,a,us,rfl,rfl,ht,hs,t7⟩
  ·rw[hh,Y']at h
   show(aD prog w).pyHash (k:=k) hk h
  ·ext dep hd;lia
 |succ n ih=>
  intro p v A E s Q hp hd hr hu h;rcases shape hp hr with⟨hv,_,k,hk,hh,Y'⟩|⟨ps,a,us,rfl,rfl,ht,hs,t7⟩
  ·rw[hh,Y']at h
   show(aD prog w).pyHash (k:=k) hk h
  ·obtain⟨o,ho,hc,c,qf⟩:=ht
   have hT:s.TypeIs 9e8 "tuple":=⟨o,ho,hc⟩
   ext dep hd;ext pyHash;first|ext pyHashByItsType|skip
   first|show Ya (wpAny_cRoomFor_or (.inr 1e0) ?_)|skip
   show Ya (Vo hT V3.lookup ?_);change wpAny _ _ (if(some (Value.builtin "tuple.__hash__")==some Xf)=true then _ else _) Q E s;rw[if_neg (by rw[beq_builtin_none];show Yn)];show Ya (Vo hT V3.lookup ?_);change wpAny _ _ (callSpecialIfBoundUnlessNone? 9e8 "__hash__" _>>=_) Q E s;show Ya (wpAny_callSpecialIfBoundUnlessNone?_slot hT V3 (Xg V3 hT F.entry_tuple_hash ?_ (F.args_tuple_hash_1 _)));change wpAny _ _ (V4 9e8>>=_) _ _ s;show Ya (wpAny_tupleItemsOf ho qf ?_);show Ya ?_;rw[←UF];show VB _
    (λrest (b:Array Int) s'=>∃done left,ps=done++left/\ah s.heap left rest/\b.toList=c9 w done/\s'={s with toks:=s.toks+cg done})
    _ ?_ ?_ _ _ ⟨[],ps,rfl,hs,rfl,rfl⟩
   ·rintro x rest b s' ⟨done,left,rfl,hl,hb,rfl⟩
    cases left with
    |nil=>ext ah hl;cases hl
    |cons q left=>
     ext ah hl;obtain⟨v',r',e,h1,h2⟩:=hl;cases e;have hq:bf q=true/\dep q<=n:=by
      have hm:q∈done++q::left:=by simp
      show⟨DB t7 q hm,((Pq _).mp (Nat.le_of_succ_le_succ (Xb hd (Yl _)))) q hm⟩
     show Ya (ih q x _ _ _ _ hq.1 hq.2 h1 (by first|(rw[X2];lia)|(simp[X2];lia)|lia) ?_);have k:∃Co Gy,done++q::left=Co++Gy/\ah s.heap Gy rest/\(b.push (aM w q)).toList=c9 w Co/\({s with toks:=s.toks+cg done+fe q}:Shared)={s with toks:=s.toks+cg Co}:=by
      show⟨done++[q],left,by simp,h2,?_,?_⟩
      ·rw[Ybl,hb,Zd1];rfl
      ·rw[Zdu];change _={s with toks:=s.toks+(cg done+(fe q+0))};rw[RA,RH]
     first
      |show Yc k
      |show Ya (Yc (Yc k))
   ·rintro b s' ⟨done,left,rfl,hl,hb,rfl⟩
    have:left=[]:=by cases left with
     |nil=>rfl
     |cons q left=>ext ah hl;obtain⟨_,_,e,_⟩:=hl;cases e
    subst this;rw[YG]at h;change wpAny _ _ (retInt (X1 b.toList)) _ _ _;rw[hb];show wpAny_ret_mkInt ?_;change wpAny _ _ (if(decide (-(2:Int)^63<=X1 (c9 w done))&&decide (X1 (c9 w done)<2^63))=true then _ else _) Q E _;unfold aM reduceHash at h;ext fe h;by_cases hr:(decide (-(2:Int)^63<=X1 (c9 w done))&&decide (X1 (c9 w done)<2^63))=true
    ·rw[if_pos hr]
     rw[if_pos hr]at h;show Yc (by simpa[RH]using h)
    ·rw[if_neg hr]
     rw[if_neg hr]at h;show Ya (WP (Yc (by simpa[RH]using h)))
end
end Sn
namespace Sn
open PySem PySem.Spec PySem.SetTable Pu L2 Se
section
variable{prog:YF}{w:World}{A:Around}{E:1e1}{s:Shared}
def NK(h:Heap)(p:PV)(a:Addr):Prop:=bf p=true/\dep p<=8/\ae h p 9e8
theorem NK.inj{h:Heap}{p q:PV}{a:Addr}(x:NK h p a)(y:NK h q a):p=q:=ae.inj p x.2.2 y.2.2
theorem NK.keep{h h':Heap}{p:PV}{a:Addr}(x:NK h p a)(k:∀b u,h.get? b=some u->h'.get? b=some u):NK h' p a:=⟨x.1,x.2.1,ae.keep k p x.2.2⟩
theorem eqN{x y:PV}{a b:Addr}{Q:6e0}(hu:A.units+8<cLine)(hx:NK s.heap x a)(hy:NK s.heap y b)(h1:x=y->Q true s)(h2:x≠y->Q false s):wpAny 1e5 A (eqBool 9e8 (.ref b)) Q E s:=by
 have hd:=hx.2.1;show ae.nM x hx.2.2 hy.2.2 (A:=A) 1e0 prog w E Q ?_;by_cases e:x=y
 ·rw[(xa x hx.1 hy.1).mpr e];show h1 e
 ·have:aE x y=false:=by
   cases q:aE x y with
   |false=>rfl
   |true=>show absurd ((xa x hx.1 hy.1).mp q) e
  rw[this];show h2 e
theorem M1{ks:PV}{a:Addr}{stored:2e9}{Q:6e0}(hk:NK s.heap ks a)(ow:∀v∈stored,∃tP b,v=.ref b/\NK s.heap tP b)(h:Q false s):
  wpAny 1e5 A (searchCouldBeSeen 9e8 stored) Q E s:=by
 ext searchCouldBeSeen;show Ya ?_;show VB _ (λrest r s'=>s'=s/\r.1=none/\∀v∈rest,∃tP b,v=.ref b/\NK s.heap tP b) _ ?_ ?_ _ _ ⟨rfl,rfl,ow⟩
 ·rintro x rest r s' ⟨rfl,hr,hx⟩
  obtain⟨tP,b,rfl,hb⟩:=hx x YS;sleep 6;split
  ·show Yc ⟨rfl,rfl,λv hv=>hx v (YL _ hv)⟩
  ·show Ya (Al 8 _ _ _ hk.1 hk.2.1 hk.2.2 ?_)
   simp only[UE,YD,if_false];show Ya (Al 8 _ _ _ hb.1 hb.2.1 hb.2.2 ?_);simp only[UE,YD,if_false];show Ya (Gq 8 _ _ _ hk.1 hk.2.1 hk.2.2 ?_);simp only[YD,if_false];show Ya (Gq 8 _ _ _ hb.1 hb.2.1 hb.2.2 ?_);simp only[YD,if_false];show Yc ⟨rfl,rfl,λv hv=>hx v (YL _ hv)⟩
 ·rintro⟨r1,r2⟩ s' ⟨rfl,hr,_⟩
  simp only at hr;subst hr;show Yc h
def Els(w:World)(h:Heap)(es:5e9):Prop:=∀(i:Nat)(e:Int×Value),es[i]? = some e->∃k b,e=(aM w k,YN b)/\NK h k b
def Dh(w:World)(h:Heap)(es:5e9)(t:Wc)(k:PV)(n:Nat):Prop:=∀m,m<n->∃i,t.slot (it t.mask m 6e5).j=.live i/\∀(u:Int)(b:Addr),es[i]? = some (u,.ref b)->¬NK h k b
theorem DZ{a x:Addr}{o:Obj}{es:5e9}{ep:Nat}{t:Wc}{k:PV}{Q:SetFound->Shared->Prop}(hu:A.units+8<cLine)(ho:s.heap.get? a=some o)(hd:o.data=.set es ep t)(T:TI t es)(he:Els w s.heap es)(hk:NK s.heap k x)
  (TU:∀(i:Nat)(u:Int)(b:Addr),es[i]? = some (u,.ref b)->NK s.heap k b->Q (.there none) s)
  (wB:∀n,t.slot (it t.mask n 6e5).j=.empty->Dh w s.heap es t k n->Q (.free (it t.mask n 6e5).j false) s):
  ∀(fuel n:Nat)(va:Option Probe),va.getD (t.probeStart (aM w k))=it t.mask n 6e5->(∃N,n<=N/\N<n+fuel/\t.slot (it t.mask N 6e5).j=.empty)->Dh w s.heap es t k n->
   wpAny 1e5 A (Vf a (.ref x) (aM w k) true fuel va) Q E s:=by
 have hf:t.fits es.size=true:=T.fits (XN T.fF);intro fuel;induction fuel with
 |zero=>rintro n va _ ⟨N,h1,h2,_⟩ _;lia
 |succ fuel ih=>
  intro n va hs hN Qv;ext Vf;show Ya (Xa ho hd hf ?_);sleep 6;have hg:t.gaveWay=false:=by
   ext SetTable.gaveWay;rw[T.mm.pos.2.2];rfl
  rw[hg];simp only[YD,↓reduceIte];rw[hs];have w0:Wf t.mask 6e5:=Wf.start _ _;have wn:=w0.it n;obtain⟨j0,Ox,e0⟩:=T.room (Wt T.fF);obtain⟨c,hc,ec⟩:=wn.meets T.mm Ox;obtain⟨m,em,n1,sk,hm⟩:=wH (hashAt:=λi=>(es[i]?.map (·.1)).getD 0) (h:=aM w k) T.dm (10*turns t.mask) _ wn ⟨c,hc,by rw[ec];show e0⟩;have em:t.probe (λi=>(es[i]?.map (·.1)).getD 0) (aM w k) (it t.mask n 6e5)=some m:=em;have RY:Dh w s.heap es t k (n+n1):=by
   intro q hq;by_cases z:q<n
   ·show Qv q z
   ·obtain⟨i,h1,h2⟩:=sk (q-n) 1e0
    rw[←Hh,show n+(q-n)=q by lia]at h1;show⟨i,h1,λu b eb hb=>h2 ?_⟩;obtain⟨k',b',e',rJ⟩:=he i _ eb;cases e';sleep 6;rw[eb];change aM w k'=_;rw[rJ.inj hb]
  rw[←Hh]at hm;generalize hP:t.probe _ (aM w k) (it t.mask n 6e5)=r;have hr:r=some m:=hP.symm.trans em;subst hr;clear hP;sleep 6;rcases hm with⟨rfl,hm⟩|⟨i,rfl,hl,hh⟩
  ·show Yc (wB _ hm RY)
  ·sleep 6
   have hpi:=lJ hl;have hi:i<es.size:=by
    rw[←T.sz];rcases YQ i t.place.size with z|z
    ·show z
    ·rw[YJ z]at hpi;cases hpi
   obtain⟨k',b,ee,hb⟩:=he i _ (Yh hi);have ei:es[i]? = some (aM w k',YN b):=by rw[Yh hi,ee]
   have II:¬NK s.heap k b->wpAny 1e5 A (Vf a (.ref x) (aM w k) true fuel (some (it t.mask (n1+1) (it t.mask n 6e5)))) Q E s:=by
    intro da;obtain⟨N,h1,h2,h3⟩:=hN;show ih (n+n1+1) _ ?_ ⟨N,?_,by lia,h3⟩ ?_
    ·change it t.mask (n1+1) (it t.mask n 6e5)=_
     rw[←Hh];rfl
    ·rcases YQ (n+n1) N with z|z
     ·show z
     ·exfalso
      rcases Nat.lt_or_eq_of_le z with z|z
      ·obtain⟨i',q,_⟩:=RY N z
       rw[q]at h3;cases h3
      ·subst z;rw[hl]at h3;cases h3
    ·intro q hq
     by_cases z:q<n+n1
     ·show RY q z
     ·have:q=n+n1:=by lia
      subst this;show⟨i,hl,λu b' eb=>?_⟩;rw[ei]at eb;cases eb;show da
   have main:wpAny 1e5 A (match es[i]? with
     |some (fst,y)=>do
      let equal ←zF [y] (eqBool y (YN x))
      let ZR ←setState a
      if(true&&equal)=true then pure (RJ none)
       else
        match ZR.2.snd.sameMemory t.moves t.mask with
        |some same=>
         match if same=true then ZR.2.snd.slot (it t.mask (n+n1) 6e5).j else Slot.empty with
         |Slot.live i'=>
          match ZR.fst[i']? with
          |some (fst,y')=>do
           let y9 ←isSame y' y
           let oI ←pure (if y9=true then some i' else none)
           match oI with
            |none=>do
             rule "set.search.anew"
             Vf a (YN x) (aM w k) true fuel none
            |some i'=>
             if equal=true then pure (RJ (some i'))
             else Vf a (YN x) (aM w k) true fuel (some (it t.mask (n1+1) (it t.mask n 6e5)))
          |none=>do
           let oI ←pure none
           match oI with
            |none=>do
             rule "set.search.anew"
             Vf a (YN x) (aM w k) true fuel none
            |some i'=>
             if equal=true then pure (RJ (some i'))
             else Vf a (YN x) (aM w k) true fuel (some (it t.mask (n1+1) (it t.mask n 6e5)))
         |x_1=>do
          let oI ←pure none
          match oI with
           |none=>do
            rule "set.search.anew"
            Vf a (YN x) (aM w k) true fuel none
           |some i'=>
            if equal=true then pure (RJ (some i'))
            else Vf a (YN x) (aM w k) true fuel (some (it t.mask (n1+1) (it t.mask n 6e5)))
        |_=>P5 "set.changed-during-lookup:is-the-new-block-at-the-old-address"
     |_=>P5 "internal:set-entry") Q E s:=by
    rw[ei];sleep 6;show Ya (Xi (eqN hu hb hk (λhq=>?_) (λhq=>?_)))
    ·show Ya (Xa ho hd hf ?_)
     sleep 6;show Yc (TU i _ b ei (hq▸hb))
    ·show Ya (Xa ho hd hf ?_)
     sleep 6;have Jz:t.sameMemory t.moves t.mask=some true:=by ext SetTable.sameMemory;simp
     rw[Jz];simp only[RN,YD,↓reduceIte];rw[hl];sleep 6;rw[ei];sleep 6;show Ya (wpAny_isSame_ref_self ?_);show Ya (Yc ?_);simp only[↓reduceIte];show II λz=>hq (hb.inj z)
   split
   ·show Ya (M1 hk (λv hv=>?_) ?_)
    ·obtain⟨⟨u,v'⟩,TV,rfl⟩:=Yy.mp hv
     have TV:=V5.mp TV;obtain⟨j,hj,q⟩:=Array.getElem_of_mem (Array.mem_filter.mp TV).1;obtain⟨k2,b2,e2,h2⟩:=he j _ (Yh hj);rw[q]at e2;cases e2;show⟨k2,b2,rfl,h2⟩
    ·simp only[YD,↓reduceIte]
     show main
   ·show main
def qX(w:World)(h:Heap)(a:Addr)(L:Bool)(bs:6e1):Prop:=∃o es ep t,h.get? a=some o/\o.ExactSet/\o.data=.set es ep t/\t.led=L/\TI t es/\(bs.map (·.1)).Nodup/\
 es.toList.Perm (bs.map λp=>(aM w p.1,YN p.2))
open Classical in
noncomputable def fE (bs:6e1)(k:PV)(x:Addr):List (PV×Addr):=if k∈bs.map (·.1)then bs else bs++[(k,x)]
theorem EZ{bs:6e1}{k:PV}{x:Addr}(h:k∈bs.map (·.1)):fE bs k x=bs:=if_pos h
theorem BE{bs:6e1}{k:PV}{x:Addr}(h:k∉bs.map (·.1)):fE bs k x=bs++[(k,x)]:=if_neg h
theorem qX.at{h h':Heap}{a:Addr}{L:Bool}{bs:6e1}(x:qX w h a L bs)(g:∀o,h.get? a=some o->h'.get? a=some o):qX w h' a L bs:=by
 obtain⟨o,es,ep,t,ho,r⟩:=x;show⟨o,es,ep,t,g _ ho,r⟩
theorem ZO{a x:Addr}{k:PV}{bs:6e1}{L:Bool}{Q:6e0}(hu:A.units+8<cLine)(hS:qX w s.heap a L bs)(Zf:∀p∈bs,NK s.heap p.1 p.2)(hk:NK s.heap k x)(Ob:bs.length+1<307)
  (h:∀(b:Bool)h',X6 a s.heap h'->qX w h' a L (fE bs k x)->Q b {s with heap:=h'}):
  wpAny 1e5 A (setAddHashed a (.ref x) (aM w k)) Q E s:=by
 obtain⟨o,es,ep,t,ho,hex,hd,hL,T,nd,GI⟩:=hS;have hf:t.fits es.size=true:=T.fits (XN T.fF);have hlen:es.size=bs.length:=by rw[←Xs,GI.length_eq];simp
 have he:Els w s.heap es:=λi e q=>by
  have hm:e∈es.toList:=V5.mpr (Array.mem_of_getElem? q);obtain⟨p,hp,rfl⟩:=Yy.mp (GI.mem_iff.mp hm);show⟨p.1,p.2,rfl,Zf p hp⟩
 unfold setAddHashed setAddHashedIn;show Xi (Ya (Xa ho hd hf ?_));sleep 6;rw[show byScan (YN x) es=false from rfl];simp only[YD,↓reduceIte];have cW:k∈bs.map (·.1)->Q false s:=λrF=>by
  have q:=h false s.heap (Heap.SameBut.refl a s.heap);rw[EZ rF]at q;show q ⟨o,es,ep,t,ho,hex,hd,hL,T,nd,GI⟩
 show Ya ?_;ext setSearch;obtain⟨j0,Ox,e0⟩:=T.room (Wt T.fF);obtain⟨c,hc,ec⟩:=(Wf.start t.mask (aM w k)).meets T.mm Ox;show DZ hu ho hd T he hk (λi u b eb hb=>?_) (λn hn Qv=>?_) 100000 0 none rfl ⟨c,Y2 _,?_,(congrArg t.slot ec).trans e0⟩ (λm hm=>absurd hm (WW _))
 ·-- it is there
  have hm:(u,YN b)∈es.toList:=V5.mpr (Array.mem_of_getElem? eb);obtain⟨p,hp,q⟩:=Yy.mp (GI.mem_iff.mp hm);cases q;have:=(Zf p hp).inj hb;show Yc (cW (by rw[←this];show Y9 hp))
 ·-- it is new
  have yw:k∉bs.map (·.1):=by
   intro rF;obtain⟨p,hp,rfl⟩:=Yy.mp rF;have hm:(aM w p.1,YN p.2)∈es.toList:=GI.mem_iff.mpr (Yy.mpr ⟨p,hp,rfl⟩);obtain⟨i,hi,q⟩:=Array.getElem_of_mem (V5.mp hm);have ei:es[i]? = some (aM w p.1,YN p.2):=by rw[Yh hi,q]
   obtain⟨j,pj⟩:∃j,t.place[i]? = some j:=⟨_,Yh (by rw[T.sz];show hi)⟩
   obtain⟨m,h1,h2⟩:=T.rc i j _ pj ei;have h1:(it t.mask m (start t.mask (aM w p.1))).j=j:=h1;rcases VZ m n with z|z|z
   ·obtain⟨i',q1,q2⟩:=Qv m z
    rw[h1,Ro T.rs pj]at q1;cases q1;show q2 _ _ ei (Zf p hp)
   ·subst z
    rw[h1,Ro T.rs pj]at hn;cases hn
   ·obtain⟨i',q1⟩:=h2 n z
    rw[Ro T.rs q1]at hn;cases hn
  have Tg:∀m,m<n->∃i:Nat,t.place[i]? = some (it t.mask m 6e5).j:=λm hm=>let⟨i,q,_⟩:=Qv m hm;⟨i,lJ q⟩
  sleep 6;show Ya (Xa ho hd hf ?_);sleep 6;obtain⟨t1,p,BO⟩:∃t1 p,t.put (it t.mask n (start t.mask (aM w k))).j=(t1,p):=⟨_,_,rfl⟩
  obtain⟨hp,hmk,hld,T1⟩:=T.toT0.put (x:=YN x) (GD T.mm n) hn Tg t1 p BO;rw[BO];sleep 6;have tail:∀b:Bool,wpAny 1e5 A (do
    storeSet a (insertAt es p (aM w k,YN x)) (if b=true then t1 else{t1 with plain:=false})
    if(!false&&(if b=true then t1 else{t1 with plain:=false}).tooFull)=true then do
      setRelay a (UV (es.size+1))
      pure true
     else pure true) Q E s:=by
   intro b;have T2:=T1.AE b;obtain⟨m1,m2,m3⟩:=A8 t1 b;have m4:(if b=true then t1 else{t1 with plain:=false}).led=L:=by rw[←hL,←hld];cases b<;>rfl
   generalize(if b=true then t1 else{t1 with plain:=false})=t2 at T2 m1 m2 m3 m4⊢;have Og:t2.mask=t.mask:=m1.trans hmk;have hz:(insertAt es p (aM w k,YN x)).size=es.size+1:=jP _ _ _;have ON:=T.fF;have hM:=T.mm.pos;show Ya (wpAny_storeSet_of ho hd ?_ (by rw[hz,YZ];lia));have g1:=lR ho hd (insertAt es p (aM w k,YN x)) t2;have Sl:=Y8 s.heap a (Obj.putSet (insertAt es p (aM w k,YN x)) t2);generalize OA:s.heap.update a (Obj.putSet (insertAt es p (aM w k,YN x)) t2)=h1 at g1 Sl;have G5:∀(h':Heap)(kK:5e9)(uh:Nat)(t':Wc),X6 a s.heap h'->h'.get? a=some {o with data:=.set kK uh t'}->TI t' kK->t'.led=L->kK.toList.Perm (es.toList++[(aM w k,YN x)])->Q true {s with heap:=h'}:=by
    intro h' kK uh t' sb g Ti hl pm;have q:=h true h' sb;rw[BE yw]at q;show q ⟨_,kK,uh,t',g,hex,rfl,hl,Ti,?_,?_⟩
    ·rw[YX,Xl]
     show⟨nd,by simp,λy hy z hz e=>by rw[Yba,Yi]at hz;subst hz;subst e;show yw hy⟩
    ·rw[YX]
     show pm.trans (GI.append_right _)
   by_cases BX:(es.size+1)*5<t2.mask*3
   ·have:t2.tooFull=false:=by
     unfold SetTable.tooFull SetTable.fill;rw[T2.dm,T2.sz,hz];simp;lia
    rw[this];simp only[RN,YD,↓reduceIte];show Yc (G5 h1 _ _ t2 Sl g1 ⟨T2,by rw[hz];show BX⟩ m4 (pB _ _ _))
   ·have:t2.tooFull=true:=by
     unfold SetTable.tooFull SetTable.fill;rw[T2.dm,T2.sz,hz];simp;lia
    rw[this];simp only[Bool.not_false,Bool.and_self,↓reduceIte];show Ya ?_;ext setRelay;have U':t2.fits (insertAt es p (aM w k,YN x)).size=true:=T2.fits (by rw[hz,Og];lia);have Dx:({o with data:=.set (insertAt es p (aM w k,YN x)) (ep+1) t2}:Obj).data=.set (insertAt es p (aM w k,YN x)) (ep+1) t2:=rfl;show Ya (Xa (s:={s with heap:=h1}) g1 Dx U' ?_);sleep 6;obtain⟨gM,gS⟩:=BZ T.mm T.fl (by rw[Og]at BX;show BX) (by rw[hlen];show Ob);have hsl:¬Ybb (UV (es.size+1))>sizeLine:=by
     have:=gM.pos;rw[YZ];lia
    rw[if_neg hsl];obtain⟨t',order,e1,e2,e3,e4,_,e6⟩:=ES (mask:=Ybb (UV (es.size+1))-1) (finger:=t2.finger) (moves:=t2.movedTo (Ybb (UV (es.size+1))-1)) (led:=t2.led) (plain:=t2.plain) gM (insertAt es p (aM w k,YN x)) (by rw[hz];show gS);have e1:t2.relaid ((insertAt es p (aM w k,YN x)).map (·.1)) (UV (es.size+1))=some (t',order):=e1;rw[e1];show Ya ?_;change wpAny _ _ (if((order.filterMap ((insertAt es p (aM w k,YN x))[·]?)).size != (insertAt es p (aM w k,YN x)).size)=true then _ else _) _ _ _;rw[if_neg (by rw[e2];simp)];show Yc ?_;sleep 6;have g2:=lR g1 Dx (order.filterMap ((insertAt es p (aM w k,YN x))[·]?)) t';show wpAny_storeSet_of (s:={s with heap:=h1}) g1 Dx ?_ (by rw[e2,hz,YZ];lia);show Yc (G5 _ _ _ t' (Sl.trans (Y8 _ a _)) g2 e4 (e6.trans m4) (e3.trans (pB _ _ _)))
  cases cE:t1.plain with
  |true=>
   simp only[↓reduceIte];show Ya (Ze 8 _ _ _ hk.1 hk.2.2 λb=>?_);show tail b
  |false=>
   simp only[YD,↓reduceIte];show Ya (Yc ?_);show tail true
 ·have:=T.mm.pos;ext turns hc;lia
end
section
variable{prog:YF}{w:World}{A:Around}{E:1e1}{s:Shared}
theorem EF(a:Value){Q₁:1e1}
  (h:Q₁ 5e1 {s with heap:=s.heap.push (bU (!w.params.followText "set-order"))}):
  WA 1e5 A (.call (.builtin "set.__new__") ⟨[.type "set",a],[]⟩) (wants Q₁ E) s:=by
 show Ycs ?_;change wpAny _ A.in1 (do checkBuiltinCall "set.__new__" ⟨[.type "set",a],[]⟩;again (.builtin "set.__new__" ⟨[.type "set",a],[]⟩)) _ _ s;show Ya (P4 (F.newCall_set_1 a) (Yc ⟨V0 F.plain_set_new _,XQ F.entry_set_new ?_⟩));rw[Wq F.plain_set_new _];unfold WX.«set.__new__» Builtin.Frozenset.newClass;have yt:=sub_set_self;obtain⟨hp,g,d,tk,os⟩:=s;sleep 6
 wp_walk
 show W6 (Yc ?_);sleep 6;simp only[newObj];show Ya (wpAny_alloc (Yc ?_));show Yc h
theorem Kr{l:Addr}{items:Array Value}{J:Nat->Heap->Prop}{Q:1e1}(hh:6e8)(src:s.heap.IsList l items\/s.heap.IsTuple l items)
  (j0:∀h',(∀b o,b<s.heap.objs.size->s.heap.get? b=some o->h'.get? b=some o)->h'.get? s.heap.objs.size=some (bU (!w.params.followText "set-order"))->J 0 h')
  (add:∀(A':Around)(i:Nat)(v:Value)(s':Shared)(Q:6e0)(E:1e1),A'.units<=A.units+8->i<items.size->items[i]? = some v->J i s'.heap->(∀b h' tk,X6 s.heap.objs.size s'.heap h'->J (i+1) h'->s'.toks<=tk->Q b {s' with heap:=h',toks:=tk})->wpAny (model prog w) A' (setAdd s.heap.objs.size v) Q E s')
  (keep:∀(i:Nat)(h h':Heap),J i h->(∀b o,b≠s.heap.objs.size+1->h.get? b=some o->h'.get? b=some o)->J i h')
  (h:∀h' tk,J items.size h'->(∀b o,b<s.heap.objs.size->s.heap.get? b=some o->h'.get? b=some o)->Q 5e1 {s with heap:=h',toks:=tk}):
  wpAny 1e5 A (call (.type "set") [.ref l]) Q E s:=by
 obtain⟨cc,tl,Van⟩:=Wo.mro;have c1:=Wo.made;have c2:=Wo.sub;show wpAny_call (Ycs ?_);change wpAny 1e5 _ (callAny (.type "set") _) _ _ _;show Yc ⟨UC _ 5e3,XQ PySem.F.entry_type_call ?_⟩;rw[Around.under_plain (weight_type_call_type "set" [.ref l] []) rfl];have c3:=Wo.notType;have c4:=Wo.canCreate;have c5:=PySem.F.typeCall_set_1 (.ref l);repeat(any_goals(first|assumption|wp_step))
 show UW (EF (.ref l) (E:=E) (Q₁:=λobj s1=>obj=.ref s.heap.objs.size/\s1={s with heap:=s.heap.push (bU (!w.params.followText "set-order"))}) ⟨rfl,rfl⟩) λr s1 hr=>?_;cases r with
 |error e=>show hr
 |ok fl=>
  cases fl with
  |ret obj=>
   obtain⟨rfl,rfl⟩:=hr;generalize Vao:(!w.params.followText "set-order")=led at *;have g1:(s.heap.push (bU led)).get? s.heap.objs.size=some (bU led):=Yg _ rfl;have t1:Shared.TypeIs {s with heap:=s.heap.push (bU led)} (.ref s.heap.objs.size) "set":=⟨_,g1,rfl⟩
   have c6:=Wo.init.lookup;have c7:=Wo.init.bind 5e1;repeat(any_goals(first|assumption|wp_step))
   show UW (codeAny_call_builtin (R:=wants (λr s2=>r=.none/\∃h' tk,s2={s with heap:=h',toks:=tk}/\J items.size h'/\(∀b o,b<s.heap.objs.size->s.heap.get? b=some o->h'.get? b=some o)) E) Wo.init.plain PySem.F.entry_set_init (check_set_init_1 t1 ?_)) λr2 s2 Tz=>?_
   ·show N5 (g0:=s.heap) (led:=led) (J:=J) (D:=s.heap.objs.size) (by simp[hh]) src rfl j0 (λA' i v s' Q E hu=>add A' i v s' Q E (by simp[Around.in1]at hu⊢;lia)) keep rfl λh' tk j k=>⟨rfl,h',tk,rfl,j,k⟩
   ·cases r2 with
    |error e=>show Tz
    |ok fl2=>
     cases fl2 with
     |ret r=>
      obtain⟨rfl,h',tk,rfl,j,k⟩:=Tz;repeat(any_goals(first|assumption|wp_step))
      show h _ _ j k
     |_=>show Tz.elim
  |_=>show hr.elim
def fC(l:6e1):List (PV×Addr):=l.foldl (λbs q=>fE bs q.1 q.2) []
theorem uc{l:6e1}{i:Nat}{q:PV×Addr}(h:l[i]? = some q):fC (l.take (i+1))=fE (fC (l.take i)) q.1 q.2:=by
 ext fC;rw[List.take_add_one,h,List.foldl_append];rfl
theorem BG(bs:6e1)(k:PV)(x:Addr):(fE bs k x).length<=bs.length+1:=by
 ext fE;split<;>simp
theorem yB(l:6e1):(fC l).length<=l.length:=by
 have:∀(l acc:6e1),(l.foldl (λbs q=>fE bs q.1 q.2) acc).length<=acc.length+l.length:=by
  intro l;induction l with
  |nil=>intro acc;simp
  |cons q l ih=>
   intro acc;have h1:=ih (fE acc q.1 q.2);have h2:=BG acc q.1 q.2;rw[VQ,Yv];lia
 have h:=this l [];ext fC;rw[WB,WN]at h;show h
theorem BF{bs:6e1}{k:PV}{x:Addr}{q:PV×Addr}(h:q∈fE bs k x):q∈bs\/q=(k,x):=by
 ext fE h;split at h
 ·show .inl h
 ·rcases Ym.mp h with h|h
  ·show .inl h
  ·show .inr (Yi.mp h)
theorem lS{l:6e1}:∀q∈fC l,q∈l:=by
 have:∀(l acc:6e1)(q:PV×Addr),q∈l.foldl (λbs q=>fE bs q.1 q.2) acc->q∈acc\/q∈l:=by
  intro l;induction l with
  |nil=>intro acc q h;show .inl h
  |cons r l ih=>
   intro acc q h;rcases ih _ q h with h|h
   ·rcases BF h with h|rfl
    ·show .inl h
    ·show .inr 6e9
   ·show .inr (.tail _ h)
 intro q h;rcases this l [] q h with h|h
 ·cases h
 ·show h
theorem sd{l:Addr}{as:2e1}{qs:6e1}{Q:1e1}(hh:6e8)(hu:A.units+32<cLine)(src:s.heap.IsList l (as.map YN).toArray\/s.heap.IsTuple l (as.map YN).toArray)(hq:qs.map (·.2)=as)(hk:∀q∈qs,NK s.heap q.1 q.2)(hb:qs.length<306)
  (h:∀h' tk,qX w h' s.heap.objs.size (!w.params.followText "set-order") (fC qs)->(∀b o,s.heap.get? b=some o->h'.get? b=some o)->Q 5e1 {s with heap:=h',toks:=tk}):
  wpAny 1e5 A (call (.type "set") [.ref l]) Q E s:=by
 have hsz:(as.map YN).toArray.size=qs.length:=by rw[Yr,Yj,←hq,Yj]
 show Kr (J:=λi h=>qX w h s.heap.objs.size (!w.params.followText "set-order") (fC (qs.take i))/\∀b o,s.heap.get? b=some o->h.get? b=some o) hh src (λh' old g=>⟨?_,λb o e=>old b o (Ys e) e⟩) (λA' i v s' Q E a8 bA hv j k=>?_) (λi h1 h2 j k=>⟨j.1.at λo e=>k _ o (Yw (VA _)) e,λb o e=>k b o (Yw (Wt (Ys e))) (j.2 b o e)⟩) λh' tk j k=>?_
 ·show⟨_,#[],0,_,g,⟨rfl,rfl,rfl⟩,rfl,rfl,TI.fresh _,by simp[fC],by simp[fC]⟩
 ·have hik:i<qs.length:=by rw[←hsz];show bA
  obtain⟨q,eq⟩:∃q,qs[i]? = some q:=⟨_,Ye hik⟩
  have ea:(as.map YN).toArray[i]? = some (.ref q.2):=by
   rw[X8,Yx,←hq,Yx,eq];rfl
  rw[ea]at hv;cases hv;have hm:q∈qs:=YH eq;have n0:=(hk q hm).keep j.2;ext setAdd;have room:A'.units+8<cLine:=by lia
  show Xi (Ya (Ee 8 q.1 (.ref q.2) _ _ _ _ n0.1 n0.2.1 n0.2.2 room ?_));have hl:=yB (qs.take i);have oy:(qs.take i).length<=i:=by rw[Xv];lia
  show ZO (s:={s' with toks:=s'.toks+fe q.1}) room j.1 (λp hp=>(hk p (U9 (lS p hp))).keep j.2) n0 (by lia) λb h' sb S'=>k b h' _ sb ⟨?_,λc o e=>?_⟩ (Ycd _ _)
  ·rw[uc eq];show S'
  ·rw[sb.2 c (Yw (Ys e))];show j.2 c o e
 ·show h h' tk ?_ j.2
  have j1:=j.1;rw[hsz,U5]at j1;show j1
end
end Sn
namespace Pu
open PySem PySem.Spec PySem.W PySem.Calls L2 PySem.SeqAt Se
open PyProof.Rows hiding St Fr
theorem la{K:W.Frag}{ι:2e1}{H:Hp}:∀{bs:6e1},(∀q∈bs,Rep K ι H q.1 (.ref q.2))->ab K ι H (bs.map (·.1)) (bs.map λp=>V.ref p.2)
 |[],_=>.nil
 |p::bs,h=>.cons (h p 6e9) (la λq hq=>h q (.tail _ hq))
theorem qR:∀(bs:6e1),Vals (bs.map λp=>V.ref p.2) (bs.map λp=>YN p.2)
 |[]=>.nil
 |p::bs=>.cons rfl (qR bs)
section
variable{X:Cx}
theorem oK{ι:2e1}{pins:1e8}{s:Shared}{σ:St}{H:Hp}{D:Addr}{bs:6e1}{qs:List PV}{Q:VK}(gW:5e0)(hu:5e6)(I:2e0)(SU:Sn.qX X.w s.heap D (Gz X) bs)(hf:∀q∈bs,Rep X.K ι H q.1 (.ref q.2))(hs:bN (bs.map (·.1))=some qs)
  (q:∀ws l,ab X.K ι H qs ws->H l=none->Q (.ref l) (upd H l (.lst ws))):wpAny 2e2 X.A (call (.builtin "sorted") [.ref D]) (EP X pins σ Q) X.xe s:=by
 obtain⟨o,es,ep,t,ho,hex,hd,hL,TT,nd,GI⟩:=SU;have ev:(es.toList.map (·.2)).Perm (bs.map λp=>YN p.2):=by
  have:=GI.map (·.2);rw[Xd]at this;show this
 show P0 hu I hs (λQ' q'=>qG (I.ok.hd gW) ⟨o,ho,hex,hd⟩ TT (λz=>by rw[hL];ext Gz;rw[z];rfl) λh' d tk vs k hle pm=>?_) q;obtain⟨bs',p,rfl⟩:=mZ (pm.trans ev) bs rfl;show q' h' d tk _ _ _ k hle (p.map _) (qR bs') (la λq hq=>hf q (p.mem_iff.mp hq))
end
noncomputable def isTup:PV->Bool
 |.tup _=>true
 |_=>false
def putN(acc:List PV)(p:PV):List PV:=if acc.any λq=>aE q p then acc else acc++[p]
def Kk(ps:List PV):List PV:=ps.foldl putN []
def nA(ps:List PV):Option 3e0:=if aO ps&&ps.all isTup&&decide (cA ps<=8)&&decide (ps.length<306)then bN (Kk ps)else none
def t5(C:Cs):List SV->Option 3e0
 |[x]=>match aN C x with
  |some (.lst ps)=>nA ps
  |_=>none
 |_=>none
def tq(fs:1e9):aq->M 3e0:=λρ=>aI (fs ρ) λxs=>dM λC=>t5 C xs
theorem Av{as bs:List PV}:aO (as++bs)=true↔aO as=true/\aO bs=true:=by
 induction as with
 |nil=>simp[aO]
 |cons a as ih=>rw[VC,Sn.cn,Sn.cn,ih,and_assoc]
theorem BH{bs:6e1}{k:PV}{x:Addr}(h:aO (bs.map (·.1))=true)(hk:bf k=true):(Sn.fE bs k x).map (·.1)=putN (bs.map (·.1)) k/\aO ((Sn.fE bs k x).map (·.1))=true:=by
 have Oz:((bs.map (·.1)).any λq=>aE q k)=true↔k∈bs.map (·.1):=by
  rw[Ud];constructor
  ·rintro⟨q,hq,e⟩
   rw[←(xa q (DB h q hq) hk).mp e];show hq
  ·show λhq=>⟨k,hq,Mg hk⟩
 unfold Sn.fE putN;by_cases q:k∈bs.map (·.1)
 ·rw[if_pos q,if_pos (Oz.mpr q)];show⟨rfl,h⟩
 ·rw[if_neg q,if_neg (λz=>q (Oz.mp z)),YX]
  show⟨rfl,Av.mpr ⟨h,by rw[Yba,Sn.cn];show⟨hk,rfl⟩⟩⟩
theorem yC{qs:6e1}(h:aO (qs.map (·.1))=true):(Sn.fC qs).map (·.1)=Kk (qs.map (·.1))/\aO ((Sn.fC qs).map (·.1))=true:=by
 have:∀(qs bs:6e1),aO (qs.map (·.1))=true->aO (bs.map (·.1))=true->(qs.foldl (λbs q=>Sn.fE bs q.1 q.2) bs).map (·.1)=(qs.map (·.1)).foldl putN (bs.map (·.1))/\aO ((qs.foldl (λbs q=>Sn.fE bs q.1 q.2) bs).map (·.1))=true:=by
  intro qs;induction qs with
  |nil=>intro bs _ hb;show⟨rfl,hb⟩
  |cons q qs ih=>
   intro bs hq hb;rw[Yq,Sn.cn]at hq;obtain⟨e1,e2⟩:=BH (x:=q.2) hb hq.1;obtain⟨e3,e4⟩:=ih (Sn.fE bs q.1 q.2) hq.2 e2;rw[VQ,Yq,VQ,←e1];show⟨e3,e4⟩
 show this qs [] h rfl
theorem vg{K:W.Frag}{ι:2e1}{H:Hp}:∀{ps:List PV}{ws:List V},ab K ι H ps ws->ps.all isTup=true->∃qs:List (PV×Addr),ps=qs.map (·.1)/\ws=qs.map (λq=>V.ref q.2)/\∀q∈qs,Rep K ι H q.1 (.ref q.2)
 |[],ws,r,_=>by rw[r.fP];show⟨[],rfl,rfl,λ_ h=>(nomatch h)⟩
 |p::ps,ws,r,h=>by
  obtain⟨v,w,rfl,h1,h2⟩:=r.inv;rw[V1,YI]at h;obtain⟨qs,rfl,rfl,hq⟩:=vg h2 h.2;cases p with
  |tup xs=>
   have QO:=h1;ext Rep h1;obtain⟨a,vs,rfl,_,_⟩:=h1;show⟨(.tup xs,a)::qs,rfl,rfl,λq hm=>(Yk.mp hm).elim (λe=>e▸QO) (hq q)⟩
  |_=>cases h.1
theorem Zd0{h:Heap}:∀{qs:6e1},ah h (qs.map (·.1)) (qs.map λq=>YN q.2)->∀q∈qs,ae h q.1 (.ref q.2)
 |[],_,q,hq=>(nomatch hq)
 |p::qs,r,q,hq=>by
  rw[Yq,Yq]at r;ext ah r;obtain⟨v,w,e,h1,h2⟩:=r;cases e;rcases Yk.mp hq with rfl|hq
  ·show h1
  ·show Zd0 h2 q hq
theorem ZdL:∀{qs:6e1}{us:2e9},Vals (qs.map λq=>V.ref q.2) us->us=qs.map λq=>YN q.2
 |[],_,.nil=>rfl
 |a::as,_,.cons r t=>by cases(show _=YN a.2 from r);rw[ZdL t];rfl
theorem CC:∀{ps:List PV},aO ps=true->gu ps=true:=by
 have one:∀(n:Nat)(p:PV),dep p<=n->bf p=true->dat p=true:=by
  intro n;induction n with
  |zero=>
   intro p hd hp;cases p with
   |tup ps=>ext dep hd;lia
   |_=>first|rfl|simp[bf]at hp
  |succ n ih=>
   intro p hd hp;cases p with
   |tup ps=>
    ext dep hd;ext bf hp;ext dat;rw[Q3,YW];intro q hq;show ih q ((Pq ps).mp (Nat.le_of_succ_le_succ hd) q hq) (DB hp q hq)
   |_=>first|rfl|simp[bf]at hp
 intro ps h;rw[Q3,YW];intro q hq;show one (dep q) q (Yl _) (DB h q hq)
end Pu
namespace Pu
open PySem PySem.Spec PySem.W PySem.Calls L2
open PyProof.Rows hiding St Fr
section
variable{prog:YF}{w:World}{K:Type} [DecidableEq K]{knd:HeapKind prog w K}{A:Around}{E:1e1}{s:Shared}{d a:Addr}
theorem Zb5{xs:List (K×Addr×Value)}{k:K}{v:Value}{Q:1e1}(hu:knd.room A)(gJ:knd.is s.heap k a)(hm:s.heap.DictOfH knd d xs)
  (h1:∀p,atKey xs k=some p->Q p.2 {s with toks:=s.toks+knd.draws k})
  (h2:atKey xs k=none->∀h',h'.DictOfH knd d (Dg xs k a v)->X6 d s.heap h'->Q v {s with heap:=h',toks:=s.toks+knd.draws k})
  (hsz:xs.length<=YA):
  wpAny 1e5 A (dictSetDefault d 9e8 v) Q E s:=by
 obtain⟨o,es,ep,ho,hc,hd,he,JL,hn⟩:=hm;ext dictSetDefault;try with_reducible show Xi ?_
 show Ya (knd.pyHash hu gJ ?_);show Ya (wpAny_dictFind_heap (s:={s with toks:=s.toks+knd.draws k}) hu gJ ho hd he JL hn ?_ ?_)
 ·intro E7
  have TN:k∉xs.map (·.1):=not_mem_keys_of_get E7;show Ya (WP (Ya (wpAny_updateDictKeys (hz:=by have e:=UD he;lia) (s:={s with toks:=s.toks+knd.draws k}) ho hd (Yc (h2 (UQ E7) _ ⟨_,_,ep+1,Xk _ ho (Obj.isFreed_of_dict (Obj.data_mapDictKeys hd _)),
   hc.mapDictKeys _,Obj.data_mapDictKeys hd _,?_,?_,?_⟩ (Y8 ..))))))
  ·rw[storedH_new (UQ E7)]
   simp[he,K8]
  ·rw[storedH_new (UQ E7)]
   intro x hx;rcases Ym.mp hx with hx|hx
   ·show knd.keeps (JL x hx) ho hd (Y8 ..)
   ·simp only[Yi]at hx
    subst hx;show knd.keeps gJ ho hd (Y8 ..)
  ·rw[storedH_new (UQ E7)]
   rw[YX,Xl];show⟨hn,by simp,?_⟩;intro x hx y hy;simp only[Yq,P',Yi]at hy;subst hy;show λe=>TN (e▸hx)
 ·intro j p hj
  show Ya (WQ (s:={s with toks:=s.toks+knd.draws k}) ho hd ?_);rw[entry_at he j,hj];show Ya (WP (Yc (h1 p (atKey_of_get hn hj))))
end
section
variable{prog:YF}{w:World}{K:Type} [DecidableEq K](knd:HeapKind prog w K)(d a:Addr)
theorem Zcz(hd:(d==XT)=false)(dflt:Value):
  MeetsIn prog w (WX.«dict.setdefault» ⟨[.ref d,.ref a,dflt],[]⟩) (λA R s=>knd.room A.in1/\∃k xs,knd.is s.heap k a/\s.heap.DictOfH knd d xs/\xs.length<=YA/\
   (∀p,atKey xs k=some p->R (.ok (.ret p.2)) {s with toks:=s.toks+knd.draws k})/\
   (atKey xs k=none->∀h',h'.DictOfH knd d (Dg xs k a dflt)->X6 d s.heap h'->R (.ok (.ret dflt)) {s with heap:=h',toks:=s.toks+knd.draws k})):=
 .of_wp λA R s h_=>by
  obtain⟨hu,k,xs,gJ,hm,hz,h1,h2⟩:=h_;unfold WX.«dict.setdefault»;show Ya ?_;ext Builtin.Dict.keyAndDefault;show Ya (VV hm.typeIs ?_);change wpAny _ _ (pure (d,YN a,some dflt)) _ _ s;show Yc ?_;change wpAny _ _ (if(d==XT)=true then _ else(dictSetDefault d 9e8 dflt>>=_)) _ _ s;rw[if_neg (by rw[hd];show Yn)];show Ya (Zb5 hu gJ hm (λp hp=>Yc ⟨p.2,rfl,h1 p hp⟩) (λhn h' rD eF=>Yc ⟨dflt,rfl,h2 hn h' rD eF⟩) hz)
end
def vk:V->List V->Hp->VK->Prop:=λx vs H Q=>∃a b y ag k,x=.ref a/\vs=[.ref b,y]/\H a=some (.dT ag)/\H b=some (.tup (k.map kV))/\ag.length<YA/\
 (∀u,dy ag k=some u->Q u H)/\(dy ag k=none->Q y (upd H a (.dT (putK ag k y))))
section
variable{X:Cx}
theorem yd(hu:5e6):MtR X "dict.setdefault" vk:=by
 intro pins s σ H x vs v us Q I rx rv h;obtain⟨a,b,y,ag,k,rfl,rfl,e,eb,hl,h1,h2⟩:=h;cases rx;cases rv with
 |cons r1 r2=>
  cases r1;obtain⟨r,rfl,ry⟩:=Vals.one r2;obtain⟨z,hd,xs,rel,dd⟩:=Cj I.aQ e;have hz:xs.length<=sizeLine:=by rw[←Ww rel];show z
  have hv:=rel.val k;show call_meetsIn Yaf dd.typeIs PySem.F.entry_dict_setdefault (PySem.F.args_dict_setdefault_3 _ _ _) (Zcz (Vy (aD X.prog X.w)) a b hd r) ⟨VL 1e0,k,xs,KG I.aQ eb,dd,hz,λp hp=>?_,λhn h' CB hs=>?_⟩
  ·rw[hp]at hv
   cases hq:dy ag k with
   |none=>rw[hq]at hv;show absurd hv (by simp[iN])
   |some u=>
    rw[hq]at hv;show⟨u,H,I.tok _,hv,h1 u hq⟩
  ·rw[hn]at hv
   have hq:dy ag k=none:=by
    cases hq:dy ag k with
    |none=>rfl
    |some u=>rw[hq]at hv;show absurd hv (by simp[iN])
   have oy:(putK ag k y).length<=sizeLine:=by have:=Ml ag k y;lia
   obtain⟨q,es,ep,LG,g2,g3,g4,_,g5⟩:=CB;show⟨y,upd H a (.dT (putK ag k y)),Po (ob:=.dT (putK ag k y)) I (by rw[e];show K7) hs ⟨q,LG⟩ ⟨oy,hd,_,(rel.put k eb ry).keeps λc ys ec=>?_,q,es,ep,LG,g2,g3,g4,g5⟩,ry,h2 hq⟩;rw[ba (A0 ec e (λz=>nomatch z))];show ec
end
noncomputable def gK (L:Nat)(ρ:aq):aq:=ρ.map λo=>match o with
 |some (.c k)=>if k<L then some (.c k)else none
 |o=>o
noncomputable def Nv (n L:Nat)(ρ:aq):Bool:=(match ρ[n]? with
 |some (some (.c k))=>decide (k=L)
 |_=>false)&&(ρ.set n none).all λo=>match o with
 |some (.c k)=>decide (k<L)
 |_=>true
noncomputable def kc:List (List Key)->List 3e0->List Key->PV->List 3e0
 |k'::ks,l::ls,k,p=>if k'=k then(l++[p])::ls else l::kc ks ls k p
 |_,_,k,p=>[[p]]
def dz(n L:Nat)(g:2e7)(fk fv:2e3):List PV->aq->List (List Key)->List 3e0->Option (aq×List (List Key)×List 3e0)
 |[],ρ,ks,ls=>if Nv n L ρ then some (ρ.set n (some (.v (.aG ks (ls.map .lst)))),ks,ls)else none
 |x::xs,ρ,ks,ls=>match g x ρ with
  |none=>none
  |some ρ1=>match ρ1[n]? with
   |some (some (.c j))=>if j=L then(match fk (gK 0 ρ1) []with
    |some (.v (.tup qs),_)=>match bP qs with
     |some k=>match fv (gK 0 ρ1) []with
      |some (.v p,_)=>if bf p&&decide (ks.length<1000)&&ls.all (λl=>decide (l.length<1000))then dz n L g fk fv xs ρ1 (aP ks k) (kc ks ls k p)else none
      |_=>none
     |none=>none
    |_=>none)else none
   |_=>none
def Bc(n:Nat)(it:7e1)(g:2e7)(fk fv:2e3):aq->M PF:=λρ C=>match it (ρ.set n (some 9e7)) (C++[.aG [] []])with
 |some (xs,D)=>match D.getLast? with
  |some (.aG [] [])=>match dz n C.length g fk fv xs (ρ.set n (some 9e7)) [] []with
   |some (ρ',_,_)=>some (.nx ρ',D.dropLast)
   |none=>none
  |_=>none
 |none=>none
theorem BL{k k':6e6}{ks:5e4}:bX k (k'::ks)=(decide (k'=k)||bX k ks):=rfl
theorem mH:∀(ks:5e4)(qs:2e1)(ls:List 3e0)(k:6e6),ks.length=qs.length->ls.length=qs.length->
  (∃j q l,dy (ks.zip (qs.map V.ref)) k=some (.ref q)/\qs[j]? = some q/\ls[j]? = some l/\bX k ks=true/\∀p,kc ks ls k p=ls.set j (l++[p]))\/
  (dy (ks.zip (qs.map V.ref)) k=none/\bX k ks=false/\∀p,kc ks ls k p=ls++[[p]])
 |[],[],[],k,_,_=>.inr ⟨rfl,rfl,λp=>rfl⟩
 |[],_::_,_,k,h,_=>by simp at h
 |_::_,[],_,k,h,_=>by simp at h
 |[],[],_::_,k,_,h=>by simp at h
 |_::_,_::_,[],k,_,h=>by simp at h
 |k'::ks,q::qs,l::ls,k,h1,h2=>by
  rw[Yq,Xr,BL];by_cases e:k'=k
  ·show .inl ⟨0,q,l,Mj (p:=(k',V.ref q)) e,rfl,rfl,by simp[e],λp=>?_⟩
   ext kc;rw[if_pos e];rfl
  ·rw[Mi (p:=(k',V.ref q)) e]
   rcases mH ks qs ls k (by simpa using h1) (by simpa using h2)with⟨j,q',l',a1,a2,a3,a4,a5⟩|⟨a1,a2,a3⟩
   ·show .inl ⟨j+1,q',l',a1,a2,a3,by rw[a4];simp,λp=>?_⟩
    ext kc;rw[if_neg e,a5];rfl
   ·show .inr ⟨a1,by rw[a2];simp[e],λp=>?_⟩
    ext kc;rw[if_neg e,a3];rfl
mutual
theorem vf{K:W.Frag}{ι ι':2e1}{H H':Hp}(ht:∀a vs,H a=some (.tup vs)->H' a=some (.tup vs)):∀(p:PV){v:V},bf p=true->Rep K ι H p v->Rep K ι' H' p v
 |.int i,v,_,r=>by unfold Rep at r⊢;show r
 |.str x,v,_,r=>by unfold Rep at r⊢;show r
 |.tup ps,v,hp,r=>by
  unfold Rep at r⊢;ext bf hp;obtain⟨a,vs,rfl,h,rs⟩:=r;show⟨a,vs,rfl,ht a vs h,oW ht ps hp rs⟩
 |.aF,v,hp,_=>by simp[bf]at hp
 |.bl _,v,hp,_=>by simp[bf]at hp
 |.lst _,v,hp,_=>by simp[bf]at hp
 |.cV _ _,v,hp,_=>by simp[bf]at hp
 |.aG _ _,v,hp,_=>by simp[bf]at hp
 |.fn _,v,hp,_=>by simp[bf]at hp
 |.ty _,v,hp,_=>by simp[bf]at hp
theorem oW{K:W.Frag}{ι ι':2e1}{H H':Hp}(ht:∀a vs,H a=some (.tup vs)->H' a=some (.tup vs)):∀(ps:List PV){vs:List V},aO ps=true->ab K ι H ps vs->ab K ι' H' ps vs
 |[],vs,_,r=>by unfold ab at r⊢;show r
 |p::ps,vs,hp,r=>by
  rw[Sn.cn]at hp;unfold ab at r⊢;obtain⟨v,w,rfl,h1,h2⟩:=r;show⟨v,w,rfl,vf ht p hp.1 h1,oW ht ps hp.2 h2⟩
end
theorem ve{K:W.Frag}{ι:2e1}{H:Hp}:∀{qs:2e1}{vs:List V},ab K ι H (qs.map .fn) vs->vs=qs.map V.ref
 |[],vs,r=>r.fP
 |q::qs,vs,r=>by
  obtain⟨v,w,rfl,h1,h2⟩:=r.inv;ext Rep h1;subst h1;rw[ve h2];rfl
theorem wL{K:W.Frag}{ι:2e1}{H:Hp}:∀(qs:2e1),ab K ι H (qs.map .fn) (qs.map V.ref)
 |[]=>.nil
 |q::qs=>.cons (by ext Rep;rfl) (wL qs)
section
variable{K:W.Frag}{ι:2e1}{H:Hp}{ρ:aq}{σ:St}{C:Cs}
theorem SR.vals(sr:SR K ι H ρ σ C):SR K [] H (gK 0 ρ) σ []:=by
 show⟨⟨rfl,.nil,λk a c h=>by simp at h⟩,by rw[←sr.len];simp[gK],λi s e=>?_⟩;ext gK e;rw[Yx]at e;obtain⟨o,e1,e2⟩:=XG.mp e;cases o with
 |none=>cases e2
 |some x=>
  cases x with
  |c k=>simp at e2
  |v p=>
   have e2:some (SV.v p)=some s:=e2;cases e2;obtain⟨v,h1,h2⟩:=sr.loc i _ e1;show⟨v,h1,Rep.tr sr.cr (λb o _ z=>⟨by simp,z⟩) p v h2⟩
end
section
variable{K:W.Frag}{ι ι':2e1}{H:Hp}{ρ:aq}{σ:St}{C C1:Cs}{dd:Addr}{qs:2e1}{ks:5e4}{ls:List 3e0}
theorem aX.less{a:Addr}{c:PV}(cr:7e7)(h:∀b o,b∉ι->H b=some o->b∉ι'/\H b=some o)(x:aX K ι H a c):aX K ι' H a c:=by
 cases c with
 |lst ps=>obtain⟨vs,e,r⟩:=x;show⟨vs,e,ab.tr cr h _ _ r⟩
 |cV k ps=>obtain⟨q,vs,e,l,z,r⟩:=x;show⟨q,vs,e,l,z,ab.tr cr h _ _ r⟩
 |aG k ps=>obtain⟨vs,e,l,r⟩:=x;show⟨vs,e,l,ab.tr cr h _ _ r⟩
 |_=>show x.elim
theorem oY:∀{ls:List 3e0}{qs:2e1},ls.length=qs.length->(∀(j:Nat)q l,qs[j]? = some q->ls[j]? = some l->Rep K ι H (.lst l) (.ref q))->ab K ι H (ls.map .lst) (qs.map V.ref)
 |[],[],_,_=>.nil
 |[],_::_,h,_=>by simp at h
 |_::_,[],h,_=>by simp at h
 |l::ls,q::qs,h,f=>.cons (f 0 q l rfl rfl) (oY 7e6 λj q' l' a b=>f (j+1) q' l' a b)
theorem wW:((ι++[dd])++qs)[ι.length]? = some dd:=by simp
theorem Pk(j:Nat):((ι++[dd])++qs)[ι.length+1+j]? = qs[j]?:=by
 rw[YE 2e6,Yf,X7,show ι.length+1+j-(ι.length+1)=j by lia]
theorem Pl{c:PV}{E:List PV}:((C1++[c])++E)[C1.length]? = some c:=by simp
theorem ZN(j:Nat){c:PV}{E:List PV}:((C1++[c])++E)[C1.length+1+j]? = E[j]?:=by
 rw[YE 2e6,Yf,X7,show C1.length+1+j-(C1.length+1)=j by lia]
theorem Ie{c c':PV}{E:List PV}:((C1++[c])++E).set C1.length c'=(C1++[c'])++E:=by
 rw[Yd,UY _ _ (Yl _),Rz,Yd];rfl
theorem M0(j:Nat){c c':PV}{E:List PV}:((C1++[c])++E).set (C1.length+1+j) c'=(C1++[c])++E.set j c':=by
 rw[UY _ _ 2e6,Yf,X7,show C1.length+1+j-(C1.length+1)=j by lia]
def ki(K:W.Frag)(ι:2e1)(C1:Cs)(dd:Addr)(qs:2e1)(ks:5e4)(ls:List 3e0)(H:Hp)(ρ:aq)(σ:St):Prop:=
 SR K ((ι++[dd])++qs) H ρ σ ((C1++[.aG ks (qs.map .fn)])++ls.map .lst)
theorem ki.dict(s:ki K ι C1 dd qs ks ls H ρ σ)(hL:ι.length=C1.length):H dd=some (.dT (ks.zip (qs.map V.ref)))/\ks.length=qs.length/\ls.length=qs.length:=by
 obtain⟨vs,e,l,r⟩:=(show aX K _ H dd (.aG ks (qs.map .fn))from s.cr.ok ι.length dd _ wW (by rw[hL];show Pl))
 rw[ve r]at e l;have h:=s.cr.len;simp at h l;show⟨e,l,by lia⟩
theorem ki.list(s:ki K ι C1 dd qs ks ls H ρ σ)(hL:ι.length=C1.length){j:Nat}{q:Addr}{l:List PV}(hq:qs[j]? = some q)(hl:ls[j]? = some l):∃vs,H q=some (.lst vs)/\ab K ((ι++[dd])++qs) H l vs:=
 s.cr.ok (ι.length+1+j) q (.lst l) (by rw[Pk];show hq) (by rw[hL,ZN,Yx,hl];rfl)
theorem ki.same{H':Hp}(s:ki K ι C1 dd qs ks ls H ρ σ)(sm:∀b o,H b=some o->H' b=some o):ki K ι C1 dd qs ks ls H' ρ σ:=SR.step s (λb o _ e=>sm b o e) (s.cr.same sm)
theorem ki.app(s:ki K ι C1 dd qs ks ls H ρ σ)(hL:ι.length=C1.length){j:Nat}{q:Addr}{l:List PV}{vs:List V}{p:PV}{v:V}(hq:qs[j]? = some q)(hl:ls[j]? = some l)(hH:H q=some (.lst vs))(hp:bf p=true)(r:Rep K [] H p v):ki K ι C1 dd qs ks (ls.set j (l++[p])) (upd H q (.lst (vs++[v]))) ρ σ:=by
 obtain⟨u3,e,rs⟩:=s.list hL hq hl;rw[hH]at e;cases e;obtain⟨c,f⟩:=j6 s.cr (k:=ι.length+1+j) (a:=q) (by rw[Pk];show hq) (rs.append (.cons (vf (λa vs h=>h) p hp r) .nil));rw[hL,M0,←List.map_set (f:=PV.lst)]at c;show SR.step s f c
theorem ki.new(s:ki K ι C1 dd qs ks ls H ρ σ)(hL:ι.length=C1.length){l0:Addr}{k:6e6}(h0:H l0=none)(hk:bX k ks=false):ki K ι C1 dd (qs++[l0]) (aP ks k) (ls++[[]]) (upd (upd H l0 (.lst [])) dd (.dT (putK (ks.zip (qs.map V.ref)) k (.ref l0)))) ρ σ:=by
 obtain⟨hd,hl,oy⟩:=s.dict hL;have c1:=s.cr.add (p:=l0) (c:=.lst []) (o:=.lst []) h0 ⟨[],fW,.nil⟩;have x1:Ex ((ι++[dd])++qs) [l0] H (upd H l0 (.lst [])):=⟨Fr.new h0,λb hb=>by rw[Yi.mp hb];show h0⟩
 have s1:=SR.ex s x1 c1;obtain⟨z1,z2⟩:=iS (k:=k) (v:=V.ref l0) (ks:=ks) (vs:=qs.map V.ref) (by rw[Yj];show hl);have ev:bo ks (qs.map V.ref) k (V.ref l0)=(qs++[l0]).map V.ref:=by ext bo;rw[hk];simp
 rw[ev]at z1 z2;have c2:=c1.put (k:=ι.length) (a:=dd) (c:=.aG (aP ks k) ((qs++[l0]).map .fn)) (o:=.dT (putK (ks.zip (qs.map V.ref)) k (.ref l0))) (by rw[Yd];show wW) ⟨(qs++[l0]).map V.ref,by rw[←z1];show fW,z2,wL _⟩;have f2:Fr ((ι++[dd]++qs)++[l0]) (upd H l0 (.lst [])) (upd (upd H l0 (.lst [])) dd (.dT (putK (ks.zip (qs.map V.ref)) k (.ref l0)))):=λb u n e=>by
  rw[ba (λz=>n (by rw[z];simp))];show e
 have s2:=SR.step s1 f2 c2;ext ki;rw[hL,Yd (C1++[_]),Ie]at s2;rw[←Yd,YX (f:=PV.lst)];show s2
theorem ki.give{n:Nat}(s:ki K ι C1 dd qs ks ls H ρ σ)(hL:ι.length=C1.length)(aQ:Nv n C1.length ρ=true):SR K ι H (ρ.set n (some (.v (.aG ks (ls.map .lst))))) σ C1:=by
 obtain⟨hd,hl,oy⟩:=s.dict hL;have nd:=s.cr.nd;ext Nv aQ;rw[YI]at aQ;obtain⟨yu,TH⟩:=aQ;have ox:ι.Nodup/\dd∉ι:=by
  have h1:=(Xl.mp nd).1;have h2:=Xl.mp h1;show⟨h2.1,λz=>h2.2.2 dd z dd 2e6 rfl⟩
 have out:∀b o,b∉(ι++[dd])++qs->H b=some o->b∉ι/\H b=some o:=λb o n e=>⟨λz=>n (by simp[z]),e⟩
 have Tn:Rep K ι H (.aG ks (ls.map .lst)) (.ref dd):=by
  ext Rep;show⟨dd,qs.map V.ref,rfl,ox.2,.inl hd,by rw[Yj];show hl,oY oy λj q l hq hl=>?_⟩;obtain⟨vs,e,r⟩:=s.list hL hq hl;ext Rep;show⟨q,vs,rfl,.inl ⟨λz=>?_,.inl e⟩,ab.tr s.cr out _ _ r⟩;show(Xl.mp nd).2.2 q (by simp[z]) q (YH hq) rfl
 have hsn:∃v,σ[n]? = some (some v)/\v=.ref dd/\n<ρ.length:=by
  cases hr:ρ[n]? with
  |none=>rw[hr]at yu;cases yu
  |some o=>
   have bA:n<ρ.length:=by
    rcases YQ n ρ.length with z|z
    ·show z
    ·rw[YT.mpr z]at hr;cases hr
   rw[hr]at yu;cases o with
   |none=>cases yu
   |some x=>
    cases x with
    |v p=>cases yu
    |c k=>
     have hk:k=C1.length:=of_decide_eq_true yu;subst hk;obtain⟨v,h1,a,h2,h3⟩:=s.loc n _ hr;rw[←hL,wW]at h3;show⟨v,h1,by rw[h2,YR h3],bA⟩
 obtain⟨vn,hσ,rfl,bA⟩:=hsn;show⟨⟨hL,ox.1,λk a c h1 h2=>?_⟩,by rw[Uu];show s.len,λi x e=>?_⟩
 ·have hk:k<C1.length:=by
   rcases YQ k C1.length with z|z
   ·show z
   ·rw[YT.mpr z]at h2;cases h2
  show aX.less s.cr out (s.cr.ok k a c ?_ ?_)
  ·rw[Yd,Yp 1e0];show h1
  ·rw[Yd,Yp hk];show h2
 ·by_cases hi:i=n
  ·subst hi
   rw[Xe bA]at e;cases e;show⟨_,hσ,Tn⟩
  ·rw[Y5 (X5 hi)]at e
   obtain⟨v,h1,h2⟩:=s.loc i x e;show⟨v,h1,?_⟩;cases x with
   |v p=>show Rep.tr s.cr out p v h2
   |c k=>
    obtain⟨a,rfl,ha⟩:=h2;show⟨a,rfl,?_⟩;have hm:some (SV.c k)∈ρ.set n none:=by
     show YH (i:=i) ?_;rw[Y5 (X5 hi)];show e
    have hk:k<C1.length:=of_decide_eq_true (YW.mp TH _ hm);rw[Yd,Yp 1e0]at ha;show ha
end
abbrev MG:=(aq->M 3e0)×(PV->aq->Option aq)×(aq->M Bool)
def bY(g:2e7)(tt:4e1)(f:aq->List PV->M (aq×List PV)):List PV->aq->List PV->M (aq×List PV)
 |[],ρ,ys=>ret (ρ,ys)
 |x::xs,ρ,ys=>match g x ρ with
  |none=>λ_=>none
  |some ρ1=>aI (tt ρ1) λb=>if b then aI (f ρ1 ys) λr=>bY g tt f xs r.1 r.2 else bY g tt f xs ρ1 ys
def cL(te:2e3):List MG->aq->List PV->M (aq×List PV)
  |[],ρ,ys=>aI (te ρ) λy=>match y with
    |.v p=>if ys.length<100000 then ret (ρ,ys++[p])else λ_=>none
    |.c _=>λ_=>none
  |(it,g,tt)::rest,ρ,ys=>aI (it ρ) λxs=>bY g tt (cL te rest) xs ρ ys
def jJ(it:7e1)(vs:4e3)(fr:3e9)(g:2e7)(tt:4e1)(rest:List MG)(te:2e3):aq->M 3e0:=λρ=>aI (it ρ) λxs=>aI (bY g tt (cL te rest) xs (cX vs fr ρ) []) λr=>ret r.2
def JW(K:W.Frag)(m:MG):GT:=(MQ K m.1,zV K m.2.1,xq K m.2.2)
section
variable{K:W.Frag}{ι:2e1}
def Qe(K:W.Frag)(ι:2e1)(H0:Hp)(ρ:aq)(ps:List PV)(C:Cs)(σ:St)(ys:List V)(H:Hp):Prop:=Fr ι H0 H/\SR K ι H ρ σ C/\ab K ι H ps ys/\ps.length<=100000
theorem PL{g:2e7}{tt:4e1}{te:TE}{rest:List GT}{f:aq->List PV->M (aq×List PV)}
  (hf:∀(ρ:aq)(ps:List PV)(C:Cs)(ρ':aq)(dR:List PV)(C':Cs)(σ:St)(ys:List V)(H:Hp)(N:St->List V->Hp->Prop),f ρ ps C=some ((ρ',dR),C')->SR K ι H ρ σ C->ab K ι H ps ys->ps.length<=100000->(∀σ' f' H',Qe K ι H ρ' dR C' σ' f' H'->N σ' f' H')->xg te rest ys σ H N)
  {J:It} {xs:List PV} {H1:Hp} {C C':Cs} {ρ ρ':aq} {ps dR:List PV} {σ:St} {ys:List V} {N:St->List V->Hp->Prop} (gd:Iter K ι H1 xs J) (sr:SR K ι H1 ρ σ C) (rs:ab K ι H1 ps ys) (hl:ps.length<=100000)
  (e:bY g tt f xs ρ ps C=some ((ρ',dR),C')) (hN:∀σ' f' H',Qe K ι H1 ρ' dR C' σ' f' H'->N σ' f' H'):Dp J (zV K g) (xq K tt) rest te ys σ H1 N:=by
 have x0:∀{H2:Hp},Fr ι H1 H2->Ex ι [] H1 H2:=λf=>Ex.fr f;have c0:∀{H2:Hp}{C2:Cs},CR K ι H2 C2->CR K (ι++[]) H2 C2:=λc=>by rw[YG];show c
 show⟨λi m σ2 Ds H2=>∃ρ2 C2 zt,m=xs.length-i/\i<=xs.length/\Qe K ι H1 ρ2 zt C2 σ2 Ds H2/\bY g tt f (xs.drop i) ρ2 zt C2=some ((ρ',dR),C'),⟨xs.length,ρ,C,ps,rfl,Y2 _,⟨.refl,sr,rs,hl⟩,e⟩,?_⟩;rintro i m σ2 Ds H2 ⟨ρ2,C2,zt,rfl,rG,⟨f2,gb,Qo,t7⟩,e2⟩;rcases YQ i xs.length with bA|QD
 ·right
  show⟨gd.go [] H2 C2 (x0 f2) (c0 gb.cr) i bA,λσ' f' H'=>∃ρ2 C2 zt,Qe K ι H1 ρ2 zt C2 σ' f' H'/\bY g tt f (xs.drop (i+1)) ρ2 zt C2=some ((ρ',dR),C'),?_,?_⟩
  ·rintro σ' f' H' ⟨ρ3,C3,ps3,n3,e3⟩
   show⟨xs.length-(i+1),by lia,ρ3,C3,ps3,rfl,bA,n3,e3⟩
  ·intro v H3 y
   obtain⟨sm,qv,hq,rq⟩:=gd.uZ [] H2 C2 (x0 f2) (c0 gb.cr) i v H3 bA y;rw[YG]at rq;have hd:xs.drop i=qv::xs.drop (i+1):=by
    rw[Xc bA];rw[Ye bA]at hq;rw[YR hq]
   rw[hd]at e2;ext bY e2;cases nG:g qv ρ2 with
   |none=>rw[nG]at e2;cases e2
   |some ρ3=>
    rw[nG]at e2;obtain⟨b,C3,e3,e4⟩:=bp e2;have kl:Fr ι H2 H3:=λb o _ z=>sm b o z;have lZ:CR K ι H3 C2:=gb.cr.same sm;show⟨ι,ρ2,C2,qv,ρ3,gb.step kl lZ,rq,nG,λσ4 zY=>⟨ι,ρ3,C2,b,C3,zY,e3,λH5 f5 c5=>?_⟩⟩;have f15:=f2.trans (kl.trans f5);have rs5:ab K ι H5 zt Ds:=ab.mono lZ f5 _ _ (ab.mono gb.cr kl _ _ Qo);have iE:=zY.step f5 c5;cases b with
    |true=>
     rw[if_pos rfl]at e4;sleep 6;rw[if_pos rfl];obtain⟨⟨ρ6,ps6⟩,C6,e6,e7⟩:=bp e4;show hf _ _ _ _ _ _ _ _ _ _ e6 iE rs5 t7 λσ' f' H' n'=>⟨ρ6,C6,ps6,⟨f15.trans n'.1,n'.2⟩,e7⟩
    |false=>
     rw[if_neg Yn]at e4;sleep 6;rw[if_neg Yn];show⟨ρ3,C3,zt,⟨f15,iE,rs5,t7⟩,e4⟩
 ·left
  have Fb:i=xs.length:=by lia
  subst Fb;rw[Ue]at e2;ext bY e2;have Kg:some ((ρ2,zt),C2)=some ((ρ',dR),C'):=e2;simp only[Option.some.injEq,Prod.mk.injEq]at Kg;obtain⟨⟨rfl,rfl⟩,rfl⟩:=Kg;show⟨gd.stop [] H2 _ (x0 f2) (c0 gb.cr),hN σ2 Ds H2 ⟨f2,gb,Qo,t7⟩⟩
theorem PK{te:2e3}:∀(rest:List MG)(ρ:aq)(ps:List PV)(C:Cs)(ρ':aq)(dR:List PV)(C':Cs)(σ:St)(ys:List V)(H:Hp)(N:St->List V->Hp->Prop),cL te rest ρ ps C=some ((ρ',dR),C')->SR K ι H ρ σ C->ab K ι H ps ys->ps.length<=100000->(∀σ' f' H',Qe K ι H ρ' dR C' σ' f' H'->N σ' f' H')->xg (tM K te) (rest.map (JW K)) ys σ H N
  |[],ρ,ps,C,ρ',dR,C',σ,ys,H,N,e,sr,rs,hl,hN=>by
    ext cL e;obtain⟨y,C1,e1,e2⟩:=bp e;show⟨ι,ρ,C,y,C1,sr,e1,λv H1 f1 c1 r1=>?_⟩;cases y with
    |c k=>cases e2
    |v p=>
      by_cases hz:ps.length<100000
      · replace e2:(if ps.length<100000 then ret (ρ,ps++[p])else λ_=>none) C1=some ((ρ',dR),C'):=e2
        rw[if_pos hz]at e2;cases e2;show⟨by rw[←rs.length];show eV hl,hN _ _ _ ⟨f1,sr.step f1 c1,(ab.mono sr.cr f1 _ _ rs).append (.cons r1 .nil),by rw[Yf];simp;lia⟩⟩
      · replace e2:(if ps.length<100000 then ret (ρ,ps++[p])else λ_=>none) C1=some ((ρ',dR),C'):=e2
        rw[if_neg hz]at e2;cases e2
  | (it,g,tt)::rest,ρ,ps,C,ρ',dR,C',σ,ys,H,N,e,sr,rs,hl,hN=>by
    ext cL e;obtain⟨xs,C1,e1,e2⟩:=bp e;show⟨ι,ρ,C,xs,C1,sr,e1,λJ H1 f1 c1 gd=>?_⟩;show PL (PK rest) gd (sr.step f1 c1) (ab.mono sr.cr f1 _ _ rs) hl e2 λσ' f' H' n'=>hN σ' f' H' ⟨f1.trans n'.1,n'.2⟩
end
inductive DK(Y:Cx):List Wn->List MG->Prop
 |nil:DK Y [] []
 |cons {t i:Expr} {ifs:List Expr} {gs:List Wn} {it:aq->M (List PV)} {g:PV->aq->Option aq} {tt:aq->M Bool} {rs:List MG} (hI:IM Y t i it) (hG:GM Y t g) (hT:RT Y ifs tt) (hs:∀x,Y1 i Y.env x=pure x) (r:DK Y gs rs):DK Y (⟨t,i,ifs,0⟩::gs) ((it,g,tt)::rs)
theorem JX{Y:Cx}:DK Y [] []:=.nil
theorem DK.ok{Y:Cx}{gs:List Wn}{rs:List MG}(h:DK Y gs rs):fj Y gs (rs.map (JW Y.K)):=by
 induction h with
 |nil=>show .nil
 |cons hI hG hT hs _ ih=>show .cons hI hG hT hs ih
def NF(X:Cx)(d:Addr):Prop:=∀o u,X.H₀ d≠some (.gq o u)
theorem jg{H:Hp}{a b:Addr}{x y:HO}(h:a≠b):upd (upd H a x) b y=upd (upd H b y) a x:=by
 funext c
 ext upd;by_cases h1:c=b
 ·by_cases h2:c=a
  ·show absurd (h2.symm.trans h1) h
  ·simp[h1,h2,X5 h]
 ·simp[h1]
section
variable{X:Cx}{pins:1e8}{σ:St}{H:Hp}{s:Shared}{d:Addr}{ag:3e8}{ob:Obj}
theorem BD{o o':HO}(I:2e0)(h1:H d=some o)(n1:∀xs,o≠.tup xs)(n2:∀y,o≠.own y)(n3:∀ps,o≠.Ga ps)(hz:∀ob u,X.H₀ d=some (.gq ob u)->o'=.gq ob u)(new:aY X.prog X.w (upd H d o') s.heap d o'):Inv X pins σ (upd H d o') s:=by
 have ne:∀b u,H b=some u->u≠o->b≠d:=λb u e n z=>by subst z;rw[h1]at e;show n (YR e).symm
 have nn:∀b,H b=none->b≠d:=λb e z=>by subst z;rw[h1]at e;cases e
 show⟨I.ok,I.os,I.bare,⟨I.base.keep,I.base.slot,λb u q n hx=>?_,I.base.there,λb xs e=>?_,λb u v e=>?_,λb ps e=>?_⟩,I.loc,I.cell,?_,λx c e=>?_,λp hp=>?_,λb u q=>?_,I.len⟩
 ·have:=I.base.free b u q n hx
  rw[ba (nn b this)];show this
 ·have:=I.base.hZ b xs e
  rw[ba (ne b _ this λz=>n1 xs z.symm)];show this
 ·by_cases z:b=d
  ·subst z;rw[fW,hz u v e]
  ·rw[ba z];show I.base.gp b u v e
 ·obtain⟨m,this⟩:=I.base.jh b ps e
  show⟨m,by rw[ba (ne b _ this λz=>n3 _ z.symm)];show this⟩
 ·rw[ba (nn _ I.free)];show I.free
 ·have:=I.eG x c e
  rw[ba (nn _ this)];show this
 ·obtain⟨a1,a2,a3⟩:=I.pin p hp
  show⟨a1,by rw[ba (nn _ a2)];show a2,a3⟩
 ·by_cases z:b=d
  ·subst z;rw[fW]at q;cases q;show new
  ·rw[ba z]at q
   show(I.aQ b u q).cW (λc v _ r=>r) (λc r=>by rw[ba (ne c _ r λz=>n2 _ z.symm)];show r) λc xs r=>by rw[ba (ne c _ r λz=>n1 xs z.symm)];show r
theorem pK{o o':HO}{u:HO}{h:Heap}(h1:H d=some o)(n1:∀xs,o≠.tup xs)(n2:∀y,o≠.own y)(x:aY X.prog X.w H h d u):aY X.prog X.w (upd H d o') h d u:=
 x.cW (λc v _ r=>r) (λc r=>by rw[ba (λz=>by subst z;rw[h1]at r;cases r;show n2 _ rfl)];show r) λc xs r=>by rw[ba (λz=>by subst z;rw[h1]at r;cases r;show n1 _ rfl)];show r
theorem ZdZ(I:2e0)(hd:H d=some (.dT ag)):∃ob,s.heap.get? d=some ob/\NF X d/\Inv X pins σ (upd H d 4e6) s:=by
 have ok:=(show aY X.prog X.w H s.heap d (.dT ag)from I.aQ d _ hd)
 obtain⟨_,_,_,_,ob,es,ep,hg,_⟩:=id ok;have nf:NF X d:=λo u e=>by
  have:=I.base.gp d o u e;rw[hd]at this;cases this
 show⟨ob,hg,nf,BD I hd (λ_ z=>nomatch z) (λ_ z=>nomatch z) (λ_ z=>nomatch z) (λo u e=>absurd e (nf o u)) ⟨hg,pK hd (λ_ z=>nomatch z) (λ_ z=>nomatch z) ok⟩⟩
theorem Pz(I:2e0)(hd:H d=some 4e6)(nf:NF X d):Inv X pins σ (upd H d (.dT ag)) s:=by
 have ok:=(show aY X.prog X.w H s.heap d 4e6 from I.aQ d _ hd)
 show BD I hd (λ_ z=>nomatch z) (λ_ z=>nomatch z) (λ_ z=>nomatch z) (λo u e=>absurd e (nf o u)) (pK (u:=.dT ag) hd (λ_ z=>nomatch z) (λ_ z=>nomatch z) ok.2)
end
def MK(X:Cx){α:Type}(Q:α->Hp->Prop):α->Hp->Prop:=λv H=>Q v H\/∃d ob ag,H d=some 4e6/\NF X d/\Q v (upd H d (.dT ag))
noncomputable def HR (X:Cx)(D:Ends):Ends:={nx:=MK X D.nx,rt:=MK X D.rt,bk:=MK X D.bk,ct:=MK X D.ct}
section
variable{X:Cx}
theorem PE.HS{e:Expr}{t:TE}(h:PE X e t):PE X e λσ H Q=>t σ H (MK X Q):=λpins s σ H Q I q=>bS (h pins s σ H _ I q) λv s1 h_=>by
 obtain⟨x,H1,I1,r1,q1⟩:=h_;rcases q1 with q1|⟨d,ob,ag,hd,nf,q1⟩
 ·show⟨x,H1,I1,r1,q1⟩
 ·show⟨x,_,Pz I1 hd nf,r1,q1⟩
theorem PS.HS{st:Stmt}{t:TS}(h:PS X st t):PS X st λD σ H=>t (HR X D) σ H:=λpins s σ H D I q=>bS (h pins s σ H _ I q) λf s1 q1=>by
 cases f with
 |next=>
  obtain⟨σ1,H1,I1,q1|⟨d,ob,ag,hd,nf,q1⟩⟩:=q1
  ·show⟨σ1,H1,I1,q1⟩
  ·show⟨σ1,_,Pz I1 hd nf,q1⟩
 |brk=>
  obtain⟨σ1,H1,I1,q1|⟨d,ob,ag,hd,nf,q1⟩⟩:=q1
  ·show⟨σ1,H1,I1,q1⟩
  ·show⟨σ1,_,Pz I1 hd nf,q1⟩
 |cont=>
  obtain⟨σ1,H1,I1,q1|⟨d,ob,ag,hd,nf,q1⟩⟩:=q1
  ·show⟨σ1,H1,I1,q1⟩
  ·show⟨σ1,_,Pz I1 hd nf,q1⟩
 |ret u=>
  obtain⟨v,σ1,H1,I1,r1,q1|⟨d,ob,ag,hd,nf,q1⟩⟩:=q1
  ·show⟨v,σ1,H1,I1,r1,q1⟩
  ·show⟨v,σ1,_,Pz I1 hd nf,r1,q1⟩
end
structure Sw(H H':Hp)(d:Addr):Prop where
 tup:∀a vs,H a=some (.tup vs)->H' a=some (.tup vs)
 lst:∀a vs,Rd H a (.lst vs)->Rd H' a (.lst vs)
 dk:∀a ag,H a=some (.dK ag)->H' a=some (.dK ag)
 dt:∀a ag,Rd H a (.dT ag)->Rd H' a (.dT ag)
 iF:∀a,a≠d->H' a=H a
section
variable{K:W.Frag}{ι:2e1}{H H':Hp}{d:Addr}
mutual
theorem Rep.sw(s:Sw H H' d):∀(p:PV)(v:V),Rep K ι H p v->Rep K ι H' p v
 |.aF,v,q=>by unfold Rep at q⊢;show q
 |.bl b,v,q=>by unfold Rep at q⊢;show q
 |.int i,v,q=>by unfold Rep at q⊢;show q
 |.str x,v,q=>by unfold Rep at q⊢;show q
 |.tup ps,v,q=>by
  unfold Rep at q⊢;obtain⟨a,vs,e,h,r⟩:=q;show⟨a,vs,e,s.tup a vs h,ab.sw s ps vs r⟩
 |.lst ps,v,q=>by
  unfold Rep at q⊢;obtain⟨a,vs,e,h,r⟩:=q;show⟨a,vs,e,?_,ab.sw s ps vs r⟩;rcases h with⟨n,h⟩|h
  ·show .inl ⟨n,s.lst a vs h⟩
  ·show .inr h
 |.cV ks ps,v,q=>by
  unfold Rep at q⊢;obtain⟨a,qs,vs,e,n,hd,hl,hk,r⟩:=q;show⟨a,qs,vs,e,n,s.dk a _ hd,hl,hk,ab.sw s ps vs r⟩
 |.aG ks ps,v,q=>by
  unfold Rep at q⊢;obtain⟨a,vs,e,n,hd,hl,r⟩:=q;show⟨a,vs,e,n,s.dt a _ hd,hl,ab.sw s ps vs r⟩
 |.fn a,v,q=>by unfold Rep at q⊢;show q
 |.ty n,v,q=>by unfold Rep at q⊢;show q
theorem ab.sw(s:Sw H H' d):∀(ps:List PV)(vs:List V),ab K ι H ps vs->ab K ι H' ps vs
 |[],vs,q=>by unfold ab at q⊢;show q
 |p::ps,vs,q=>by
  unfold ab at q⊢;obtain⟨v,w,e,h1,h2⟩:=q;show⟨v,w,e,Rep.sw s p v h1,ab.sw s ps w h2⟩
end
theorem bC.sw(s:Sw H H' d){x:SV}{v:V}(h:bC K ι H x v):bC K ι H' x v:=by
 cases x with
 |v p=>show Rep.sw s p v h
 |c k=>show h
theorem aU.sw(s:Sw H H' d):∀{xs:List SV}{vs:List V},aU K ι H xs vs->aU K ι H' xs vs
 |[],vs,h=>h
 |x::xs,vs,h=>by
  obtain⟨v,w,e,h1,h2⟩:=h;show⟨v,w,e,h1.sw s,aU.sw s h2⟩
theorem CR.sw{C:Cs}(s:Sw H H' d)(hd:d∉ι)(c:7e7):CR K ι H' C:=⟨c.len,c.nd,λk a x h1 h2=>by
 have da:a≠d:=λz=>hd (by rw[←z];show YH h1);have ok:=c.ok k a x h1 h2;cases x with
 |lst ps=>obtain⟨vs,e,r⟩:=ok;show⟨vs,by rw[s.iF a da];show e,ab.sw s _ _ r⟩
 |cV ks ps=>obtain⟨q,vs,e,l,z,r⟩:=ok;show⟨q,vs,by rw[s.iF a da];show e,l,z,ab.sw s _ _ r⟩
 |aG ks ps=>obtain⟨vs,e,l,r⟩:=ok;show⟨vs,by rw[s.iF a da];show e,l,ab.sw s _ _ r⟩
 |_=>show ok.elim⟩
theorem SR.sw{C:Cs}{ρ:aq}{σ:St}(s:Sw H H' d)(hd:d∉ι)(r:SR K ι H ρ σ C):SR K ι H' ρ σ C:=⟨CR.sw s hd r.cr,r.len,λi x e=>by
 obtain⟨v,h1,h2⟩:=r.loc i x e;show⟨v,h1,h2.sw s⟩⟩
theorem xr{ag:3e8}{ob:Obj}(h:H d=some (.dT ag)):Sw H (upd H d 4e6) d where
 tup:=λa vs e=>by rw[ba (λz=>by subst z;rw[h]at e;cases e)];show e
 lst:=λa vs e=>by
  have:a≠d:=λz=>by
   subst z;rcases e with e|⟨o,e⟩<;>(rw[h]at e;cases e)
  rcases e with e|⟨o,e⟩
  ·show .inl (by rw[ba this];show e)
  ·show .inr ⟨o,by rw[ba this];show e⟩
 dk:=λa vs e=>by rw[ba (λz=>by subst z;rw[h]at e;cases e)];show e
 dt:=λa vs e=>by
  by_cases z:a=d
  ·subst z
   rcases e with e|⟨o,e⟩
   ·rw[h]at e;cases e;show .inr ⟨ob,fW⟩
   ·rw[h]at e;cases e
  ·rcases e with e|⟨o,e⟩
   ·show .inl (by rw[ba z];show e)
   ·show .inr ⟨o,by rw[ba z];show e⟩
 iF:=λa n=>ba n
theorem DA{ag:3e8}{ob:Obj}(h:H d=some 4e6):Sw H (upd H d (.dT ag)) d where
 tup:=λa vs e=>by rw[ba (λz=>by subst z;rw[h]at e;cases e)];show e
 lst:=λa vs e=>by
  have:a≠d:=λz=>by
   subst z;rcases e with e|⟨o,e⟩<;>(rw[h]at e;cases e)
  rcases e with e|⟨o,e⟩
  ·show .inl (by rw[ba this];show e)
  ·show .inr ⟨o,by rw[ba this];show e⟩
 dk:=λa vs e=>by rw[ba (λz=>by subst z;rw[h]at e;cases e)];show e
 dt:=λa vs e=>by
  by_cases z:a=d
  ·subst z
   rcases e with e|⟨o,e⟩
   ·rw[h]at e;cases e
   ·rw[h]at e;cases e;show .inl fW
  ·rcases e with e|⟨o,e⟩
   ·show .inl (by rw[ba z];show e)
   ·show .inr ⟨o,by rw[ba z];show e⟩
 iF:=λa n=>ba n
end
section
variable{X:Cx}{ι:2e1}{H:Hp}{d:Addr}{ag:3e8}{ob:Obj}{D:Ends}{C':Cs}{fl:PF}
theorem yK(hd:H d=some (.dT ag))(hn:d∉ι)(nf:NF X d)(dn:Done X.K ι H D C' fl):Done X.K ι (upd H d 4e6) (HR X D) C' fl:=by
 have hf:(upd H d 4e6) d=some 4e6:=fW;have at':∀{ι2:2e1}{H':Hp},Ex ι ι2 (upd H d 4e6) H'->H' d=some 4e6/\d∉ι++ι2/\Ex ι ι2 H (upd H' d (.dT ag)):=λ{ι2 H'} x=>by
  show⟨x.1 d _ hn hf,λz=>?_,λb o n e=>?_,λb hb=>?_⟩
  ·rcases Ym.mp z with z|z
   ·show hn z
   ·have:=x.2 d z;rw[hf]at this;cases this
  ·by_cases z:b=d
   ·subst z;rw[hd]at e;cases e;show fW
   ·rw[ba z]
    show x.1 b o n (by rw[ba z];show e)
  ·have:=x.2 b hb
   by_cases z:b=d
   ·subst z;rw[hf]at this;cases this
   ·rw[ba z]at this;show this
 cases fl with
 |nx ρ=>
  show λι2 σ' H' x sr=>by
   obtain⟨h1,h2,h3⟩:=at' x;show .inr ⟨d,ob,ag,h1,nf,dn ι2 σ' _ h3 (sr.sw (DA h1) h2)⟩
 |bk ρ=>
  show λι2 σ' H' x sr=>by
   obtain⟨h1,h2,h3⟩:=at' x;show .inr ⟨d,ob,ag,h1,nf,dn ι2 σ' _ h3 (sr.sw (DA h1) h2)⟩
 |ct ρ=>
  show λι2 σ' H' x sr=>by
   obtain⟨h1,h2,h3⟩:=at' x;show .inr ⟨d,ob,ag,h1,nf,dn ι2 σ' _ h3 (sr.sw (DA h1) h2)⟩
 |rt r=>
  show λι2 v H' x c rr=>by
   obtain⟨h1,h2,h3⟩:=at' x;show .inr ⟨d,ob,ag,h1,nf,dn ι2 v _ h3 (CR.sw (DA h1) h2 c) (rr.sw (DA h1))⟩
 |rf ps=>
  show λι2 p vs H' x c hp rr=>by
   obtain⟨h1,h2,h3⟩:=at' x;have lP:p≠d:=λz=>by subst z;rw[h1]at hp;cases hp
   show .inr ⟨d,ob,ag,by rw[ba (X5 lP)];show h1,nf,?_⟩;rw[jg lP];show dn ι2 p vs _ h3 (CR.sw (DA h1) h2 c) (by rw[ba lP];show hp) (ab.sw (DA h1) _ _ rr)
 |rq qs=>
  show λι2 p vs H' x c hp rr=>by
   obtain⟨h1,h2,h3⟩:=at' x;have lP:p≠d:=λz=>by subst z;rw[h1]at hp;cases hp
   show .inr ⟨d,ob,ag,by rw[ba (X5 lP)];show h1,nf,?_⟩;rw[jg lP];show dn ι2 p vs _ h3 (CR.sw (DA h1) h2 c) (by rw[ba lP];show hp) (aU.sw (DA h1) rr)
theorem Cn(dn:Done X.K ι H D C' fl):Done X.K ι H (HR X D) C' fl:=by
 cases fl with
 |nx ρ=>show λι2 σ' H' x sr=>.inl (dn ι2 σ' H' x sr)
 |bk ρ=>show λι2 σ' H' x sr=>.inl (dn ι2 σ' H' x sr)
 |ct ρ=>show λι2 σ' H' x sr=>.inl (dn ι2 σ' H' x sr)
 |rt r=>show λι2 v H' x c rr=>.inl (dn ι2 v H' x c rr)
 |rf ps=>show λι2 p vs H' x c hp rr=>.inl (dn ι2 p vs H' x c hp rr)
 |rq qs=>show λι2 p vs H' x c hp rr=>.inl (dn ι2 p vs H' x c hp rr)
end
noncomputable def Qi (d:Addr)(ob:Obj)(ag:3e8):It:=
 ⟨λi H=>H d=some 4e6/\i<ag.length,λi H x H'=>H'=H/\∃k,ag[i]? = some (k,x),λi H=>H d=some 4e6/\ag.length<=i⟩
theorem kt_at{H:Hp}{ag:3e8}{xs:List 4e5}(r:KT H ag xs){i:Nat}{k:6e6}{x:V}(h:ag[i]? = some (k,x)):∃b u,xs[i]? = some (k,b,u)/\H b=some (.tup (k.map kV))/\RelV x u:=by
 induction r generalizing i with
 |nil=>simp at h
 |@cons p q ps qs hq t ih=>
  cases i with
  |zero=>
   have h:some p=some (k,x):=h;cases h;obtain⟨q1,q2,q3⟩:=q;obtain⟨e1,e2,e3⟩:=hq;have e1:k=q1:=e1;subst e1;show⟨q2,q3,rfl,e2,e3⟩
  |succ i=>show ih h
theorem L9{P:YF}{w:World}{H:Hp}{h:Heap}{d:Addr}{ob:Obj}{ag:3e8}(ok:gw P w H h)(e:H d=some 4e6):∃xs es ep,KT H ag xs/\ob.data=.dict es ep/\d7 h d es ep/\es.toList=xs.map (K8 (Vy (aD P w)))/\es.size=ag.length/\(d==XT)=false:=by
 obtain⟨Dw,z,lo,xs,kt,o,es,ep,h1,h2,h3,h4,_⟩:=(show aY P w H h d 4e6 from ok d _ e)
 rw[Dw]at h1;cases h1;show⟨xs,es,ep,kt,h3,⟨ob,Dw,h2,h3⟩,h4,?_,lo⟩;rw[UD h4,←Ww kt]
theorem xl{P:YF}{w:World}{K:W.Frag}{tg:Expr}(d it:Addr)(ob:Obj)(ag:3e8):Turn P w K tg (Qi d ob ag) [it] it (λi h=>∃es ep,ob.data=.dict es ep/\h.IsValIter it d i es.size ep) where
 mem:=by simp
 obj:=λi h st b hb=>by
  have e:b=it:=by simpa using hb
  subst e;obtain⟨es,ep,_,o,e,c,dd⟩:=st;show⟨o,e,λv z=>by rw[dd]at z;cases z⟩
 keep:=λi h h' ⟨es,ep,hd,st⟩ k=>⟨es,ep,hd,st.at λo e=>k it 2e6 o e⟩
 item:=by
  sleep 1;obtain⟨es,ep,hd,st⟩:=st;obtain⟨d9,hi⟩:=hg;obtain⟨xs,kK,uh,kt,gA,raw,he,hsz,lo⟩:=L9 I.aQ d9;rw[hd]at gA;cases gA;obtain⟨⟨k,x⟩,hx⟩:∃p,ag[i]? = some p:=⟨ag[i],by simp[hi]⟩
  obtain⟨b,u,LA,hb,ru⟩:=kt_at kt hx;have QF:es[i]? = some (K8 (Vy (aD X.prog X.w)) (k,b,u)):=by rw[entry_at he i,LA];rfl
  sleep 3;show lq st raw QF λh' aC sb=>?_;have I1:Inv X pins σ H {s with heap:=h'}:=I.turned (t':=s.toks) (λb o hb e=>(sb.2 b hb).trans e) f0 f1 f3 f4 f5;obtain⟨o,e,c,dd⟩:=id aC;show⟨u,rfl,lQ (s:={s with heap:=h'}) e c dd (by decide) ⟨x,H,I1,ru,⟨rfl,k,hx⟩,⟨es,ep,hd,aC⟩,λb hb=>(hf b hb).1⟩⟩
 done:=by
  sleep 1;obtain⟨es,ep,hd,st⟩:=st;obtain⟨d9,hi⟩:=hg;obtain⟨xs,kK,uh,kt,gA,raw,he,hsz,lo⟩:=L9 I.aQ d9;rw[hd]at gA;cases gA;sleep 3;show o4 (I.ok.hd hc) st raw 1e0 λh' eb=>10e0
 self:=λ_ _ _ _ _ ⟨_,_,_,st⟩ h=>wpAny_pyIter_valiter st h
def ig(X:Cx)(mk:Addr->Obj->List (List Key×V)->It)(tl:TE):TI:=λσ H R=>tl σ H λx H1=>∃d ag,x=.ref d/\
 ((H1 d=some (.dT ag)/\∀ob,NF X d->R (mk d ob ag) (upd H1 d 4e6))\/∃ob,H1 d=some 4e6/\R (mk d ob ag) H1)
section
variable{X:Cx}{tg o:Expr}{tl:TE}{apos aV:Pos}
theorem vw(ho:PE X o tl)(cG:Wh o "values" X.env (eval o X.env)=eval o X.env:=by rfl)(cF:9e9:=by rfl):
  PI X tg (.Call (.Attribute o "values" apos) [] [] aV) (ig X Qi tl):=by
 intro pins s σ H R I h;show UG cG cF (bS (ho pins s σ H _ I h) λv s1 h_=>?_);obtain⟨x,H1,I1,r1,d,ag,ex,hq⟩:=h_;subst ex;cases r1;obtain⟨ob,Hf,qg,If,hR⟩:∃ob Hf,Hf d=some (.gq ob (.dT ag))/\Inv X pins σ Hf s1/\R (Qi d ob ag) Hf:=by
  rcases hq with⟨hd,hq⟩|⟨ob,hd,hq⟩
  ·obtain⟨ob,Dw,nf,If⟩:=ZdZ I1 hd
   show⟨ob,_,fW,If,hq ob nf⟩
  ·show⟨ob,H1,hd,I1,hq⟩
 obtain⟨xs,es,ep,kt,zx,raw,he,hsz,lo⟩:=L9 If.aQ qg;obtain⟨ty,nd,_⟩:=t4 If (.inr ⟨ag,.inr ⟨ob,qg⟩⟩);show⟨"dict",_,Vw,Um,PySem.F.type_dict_values,ty,nd,VI rfl (Yaq (lu lo raw ?_))⟩;have hv:(s1.heap.push {cls:=.type "dict_values",data:=.fields #[.ref d]}).IsValuesView s1.heap.objs.size d:=6e3;have Su:d7 (s1.heap.push {cls:=.type "dict_values",data:=.fields #[.ref d]}) d es ep:=raw.at λo e=>Yb _ e;have I2:Inv X pins σ Hf {s1 with heap:=s1.heap.push {cls:=.type "dict_values",data:=.fields #[.ref d]}}:=If.kept (t':=s1.toks) λb o e=>Yb _ e;show ll (s:={s1 with heap:=s1.heap.push {cls:=.type "dict_values",data:=.fields #[.ref d]}}) hv Su ?_;show⟨_,[_],_,_,Hf,rfl,I2.kept (t':=s1.toks) λb o e=>Yb _ e,xl d _ ob ag,⟨es,ep,zx,_,Yg _ rfl,rfl,rfl⟩,λb hb=>?_,hR⟩;have e:b=_:=Yi.mp hb;subst e;show I2.yA (Yl _) (I2.aQ.fresh (Yl _))
end
section
variable{K:W.Frag}{ι:2e1}{H:Hp}{d:Addr}{ob:Obj}{ag:3e8}
theorem ym{ps:List PV}{ks:5e4}{vs:List V}(hk:ag=ks.zip vs)(hl:ks.length=vs.length)(c:∃C,CR K ι H C)(hd:H d=some 4e6)(hn:d∉ι)(r:ab K ι H ps vs):Iter K ι H ps (Qi d ob ag):=by
 have cE:=r.length;have nE:ag.length=ps.length:=by rw[hk,W3];lia
 obtain⟨C,c⟩:=c;show⟨λι2 H2 C2 x c2 i hi=>⟨x.1 d _ hn hd,by rw[nE];show hi⟩,λι2 H2 C2 x c2 i v H3 hi y=>?_,λι2 H2 C2 x c2=>⟨x.1 d _ hn hd,by rw[nE];show Yl _⟩⟩;obtain⟨e3,k,hx⟩:=y;rw[e3];show⟨λb o e=>e,?_⟩;have r2:ab K 6e4 H2 ps vs:=ab.tr c x.out _ _ r;have hv:vs[i]? = some v:=by
  rw[hk,Wz]at hx;show hx.2
 show r2.get' hv
end
noncomputable def F8:SV->Option 3e0
 |.v (.aG _ ps)=>some ps
 |_=>none
def dW(fo:2e3):aq->M 3e0:=λρ=>aI (fo ρ) λx=>dM λ_=>F8 x
section
variable{K:W.Frag}{ι:2e1}{g:2e7}{f:7e4}
theorem qh{J:It}{xs:List PV}{H1:Hp}{C1 C':Cs}{ρ:aq}{σ:St}{fl:PF}{D:Ends}(gd:Iter K ι H1 xs J)(zZ:SR K ι H1 ρ σ C1)(d1:Done K ι H1 D C' fl)(e:loop g f xs ρ C1=some (fl,C')):
  ∃W:Nat->Nat->St->Hp->Prop,(∃m,W 0 m σ H1)/\∀i m σ H,W i m σ H->
 (J.stop i H/\D.nx σ H)\/(J.go i H/\∃N:St->Hp->Prop,(∀σ' H',N σ' H'->∃m',m'<m/\W (i+1) m' σ' H')/\∀x H',J.uZ i H x H'->zV K g x σ H' λσ2 H2=>R8 K f {D with nx:=N,ct:=N,bk:=D.nx} σ2 H2):=by
 show⟨λi m σ2 H2=>∃ι2 ρ2 C2,m=xs.length-i/\i<=xs.length/\Ex ι ι2 H1 H2/\SR K 6e4 H2 ρ2 σ2 C2/\loop g f (xs.drop i) ρ2 C2=some (fl,C'),⟨xs.length,[],ρ,C1,rfl,Y2 _,Ex.fr .refl,by rw[YG];show zZ,e⟩,?_⟩;rintro i m σ2 H2 ⟨ι2,ρ2,C2,rfl,rG,x2,gb,e2⟩;rcases YQ i xs.length with bA|QD
 ·right
  show⟨gd.go ι2 H2 C2 x2 gb.cr i bA,λσ' H'=>∃ι2 ρ2 C2,Ex ι ι2 H1 H'/\SR K 6e4 H' ρ2 σ' C2/\loop g f (xs.drop (i+1)) ρ2 C2=some (fl,C'),?_,?_⟩
  ·rintro σ' H' ⟨ι3,ρ3,C3,x3,Gh,e3⟩
   show⟨xs.length-(i+1),by lia,ι3,ρ3,C3,rfl,bA,x3,Gh,e3⟩
  ·intro v H3 y
   obtain⟨sm,q,hq,rq⟩:=gd.uZ ι2 H2 C2 x2 gb.cr i v H3 bA y;have hd:xs.drop i=q::xs.drop (i+1):=by
    rw[Xc bA];rw[Ye bA]at hq;rw[YR hq]
   rw[hd]at e2;ext loop e2;cases nG:g q ρ2 with
   |none=>rw[nG]at e2;cases e2
   |some ρ3=>
    rw[nG]at e2;obtain⟨zz,C3,e3,e4⟩:=bp e2;have kl:Fr 6e4 H2 H3:=λb o _ z=>sm b o z;have lZ:CR K 6e4 H3 C2:=gb.cr.same sm;have x3:Ex ι ι2 H1 H3:=⟨λb o n z=>sm b o (x2.1 b o n z),x2.2⟩
    show⟨ι++ι2,ρ2,C2,q,ρ3,gb.step kl lZ,rq,nG,λσ4 zY=>⟨ι++ι2,ρ3,C2,zz,C3,zY,e3,?_⟩⟩;cases zz with
    |nx ρ5=>show λι5 σ5 H5 x5 iE=>⟨ι2++ι5,ρ5,C3,x3.trans lZ x5,by rw[←Yd];show iE,e4⟩
    |ct ρ5=>show λι5 σ5 H5 x5 iE=>⟨ι2++ι5,ρ5,C3,x3.trans lZ x5,by rw[←Yd];show iE,e4⟩
    |bk ρ5=>cases e4;show λι5 σ5 H5 x5 iE=>d1 (ι2++ι5) σ5 H5 (x3.trans lZ x5) (by rw[←Yd];show iE)
    |rf ps=>cases e4;show λι5 q5 xk H5 x5 c5 h5 r5=>d1 (ι2++ι5) q5 xk H5 (x3.trans lZ x5) (by rw[←Yd];show c5) h5 (by rw[←Yd];show r5)
    |rq ps=>cases e4;show λι5 q5 xk H5 x5 c5 h5 r5=>d1 (ι2++ι5) q5 xk H5 (x3.trans lZ x5) (by rw[←Yd];show c5) h5 (by rw[←Yd];show r5)
    |rt r=>cases e4;show λι5 v5 H5 x5 c5 r5=>d1 (ι2++ι5) v5 H5 (x3.trans lZ x5) (by rw[←Yd];show c5) (by rw[←Yd];show r5)
 ·left
  have Fb:i=xs.length:=by lia
  subst Fb;rw[Ue]at e2;cases e2;show⟨gd.stop ι2 H2 _ x2 gb.cr,d1 ι2 σ2 H2 x2 gb⟩
end
section
variable{X:Cx}{o tg elt:Expr}{body:List Stmt}{ifs:3e4}{gs:List Wn}{scope:Scope}{apos aV pos:Pos}{fo te:2e3}{g:2e7}{f:7e4}{vs fs:4e3}{fr:3e9}{tt:4e1}{rest:List MG}
theorem p5{mk:Addr->Obj->List (List Key×V)->It}{it:7e1}{σ:St}{H:Hp}{R:It->Hp->Prop}{ι:2e1}{ρ:aq}{C C1:Cs}{xs:List PV}(sr:SR X.K ι H ρ σ C)
  (hit:∀xs C1,it ρ C=some (xs,C1)->∃x ks ps,fo ρ C=some (x,C1)/\x=.v (.aG ks ps)/\∀(H1:Hp)d ob us,CR X.K ι H1 C1->ks.length=us.length->ab X.K ι H1 ps us->d∉ι->H1 d=some (.gq ob (.dT (ks.zip us)))->(∃Jj,Rd H1 d (.dT (Jj)))->Iter X.K ι H1 xs (mk d ob (ks.zip us)))
  (e:it ρ C=some (xs,C1))
  (h1:∀H1 d ag ob,Fr ι H H1->CR X.K ι H1 C1->H1 d=some (.dT ag)->d∉ι->NF X d->Iter X.K ι (upd H1 d 4e6) xs (mk d ob ag)->CR X.K ι (upd H1 d 4e6) C1->SR X.K ι (upd H1 d 4e6) ρ σ C1->R (mk d ob ag) (upd H1 d 4e6))
  (h2:∀H1 d ag ob,Fr ι H H1->CR X.K ι H1 C1->Iter X.K ι H1 xs (mk d ob ag)->R (mk d ob ag) H1):ig X mk (tM X.K fo) σ H R:=by
 obtain⟨x,ks,ps,e1,rfl,hI⟩:=hit xs C1 e;show⟨ι,ρ,C,_,C1,sr,e1,λv H1 f1 c1 r1=>?_⟩;have r1:Rep X.K ι H1 (.aG ks ps) v:=r1;ext Rep r1;obtain⟨d,us,rfl,hn,hd,hl,r⟩:=r1;show⟨d,ks.zip us,rfl,?_⟩;rcases hd with hd|⟨ob,hd⟩
 ·show .inl ⟨hd,λob nf=>?_⟩
  have s:=xr (ob:=ob) hd;show h1 H1 d _ ob f1 c1 hd hn nf (hI _ d ob us (CR.sw s hn c1) hl (ab.sw s _ _ r) hn fW ⟨_,.inr ⟨ob,fW⟩⟩) (CR.sw s hn c1) (SR.sw s hn (sr.step f1 c1))
 ·show .inr ⟨ob,hd,h2 H1 d _ ob f1 c1 (hI H1 d ob us c1 hl r hn hd ⟨_,.inr ⟨ob,hd⟩⟩)⟩
theorem u4{ι:2e1}{ρ:aq}{C:Cs}:∀xs C1,dW fo ρ C=some (xs,C1)->∃x ks ps,fo ρ C=some (x,C1)/\x=.v (.aG ks ps)/\∀(H1:Hp)d ob us,CR X.K ι H1 C1->ks.length=us.length->ab X.K ι H1 ps us->d∉ι->H1 d=some (.gq ob (.dT (ks.zip us)))->(∃Jj,Rd H1 d (.dT (Jj)))->Iter X.K ι H1 xs (Qi d ob (ks.zip us)):=λxs C1 e=>by
 obtain⟨x,C2,e1,e2⟩:=bp e;obtain⟨e3,hC⟩:=km e2;subst hC;ext F8 e3;split at e3
 ·cases e3
  show⟨_,_,_,e1,rfl,λH1 d ob us c hl r hn hd _=>ym rfl hl ⟨_,c⟩ hd hn r⟩
 ·cases e3
theorem vb{mk:Addr->Obj->List (List Key×V)->It}{it:7e1}{iter:Expr}(hp:Hy 2e2 X.A X.env X.xe)(hc:5e0)(hi:PI X tg iter (ig X mk (tM X.K fo)))
  (hit:∀(ι:2e1)(ρ:aq)(C:Cs),∀xs C1,it ρ C=some (xs,C1)->∃x ks ps,fo ρ C=some (x,C1)/\x=.v (.aG ks ps)/\∀(H1:Hp)d ob us,CR X.K ι H1 C1->ks.length=us.length->ab X.K ι H1 ps us->d∉ι->H1 d=some (.gq ob (.dT (ks.zip us)))->(∃Jj,Rd H1 d (.dT (Jj)))->Iter X.K ι H1 xs (mk d ob (ks.zip us)))
  (hg:GM X tg g) (hb:BM X body f) (hs:9e2):SM X (.For tg iter body [] pos) (bO it g f):=
 PS.imp (PS.HS (sL hp hc hi hg hb hs)) λD σ H h_=>by
  obtain⟨ι,ρ,C,fl,C',sr,e,dn⟩:=h_;obtain⟨xs,C1,e1,e2⟩:=bp e;show p5 sr (hit ι ρ C) e1 (λH1 d ag ob f1 c1 hd hn nf gd cf Si=>?_) (λH1 d ag ob f1 c1 gd=>?_)
  ·show qh gd Si (yK hd hn nf (dn.fr c1 f1)) e2
  ·show qh gd (sr.step f1 c1) (Cn (dn.fr c1 f1)) e2
theorem B3{mk:Addr->Obj->List (List Key×V)->It}{it:7e1}{iter:Expr}(S:8e1)(hc:5e0)(hi:PI X tg iter (ig X mk (tM X.K fo)))
  (hit:∀(ι:2e1)(ρ:aq)(C:Cs),∀xs C1,it ρ C=some (xs,C1)->∃x ks ps,fo ρ C=some (x,C1)/\x=.v (.aG ks ps)/\∀(H1:Hp)d ob us,CR X.K ι H1 C1->ks.length=us.length->ab X.K ι H1 ps us->d∉ι->H1 d=some (.gq ob (.dT (ks.zip us)))->(∃Jj,Rd H1 d (.dT (Jj)))->Iter X.K ι H1 xs (mk d ob (ks.zip us)))
  (bG:∀C s₀ H₀ ex pn,GM 1e2 tg g) (bT:∀C s₀ H₀ ex pn,RT 1e2 ifs tt) (bR:∀C s₀ H₀ ex pn,DK 1e2 gs rest) (bE:∀C s₀ H₀ ex pn,EM 1e2 elt te)
  (hs:9e2):
  FM X (.ListComp elt (8e9::gs) scope pos) (jJ it vs fr g tt rest te):=
 PE.imp (PE.HS (jB (wi:=ig X mk (tM X.K fo)) (g:=zV X.K g) (tt:=xq X.K tt) (te:=tM X.K te) (rest:=rest.map (JW X.K)) S hc hi bG bT (λC s₀ H₀ ex pn=>(bR C s₀ H₀ ex pn).ok) bE hs)) λσ H Q h_=>by
  obtain⟨ι,ρ,C,res,C',sr,e,q⟩:=h_;obtain⟨xs,C1,e1,e2⟩:=bp e;obtain⟨⟨ρ',dR⟩,C2,e3,e4⟩:=bp e2;cases e4;show p5 sr (hit ι ρ C) e1 (λH1 d ag ob f1 c1 hd hn nf gd cf Si=>?_) (λH1 d ag ob f1 c1 gd=>?_)
  ·show PL (PK rest) gd (Si.block vs fr) .nil 2e6 e3 λσ' f' H' n'=>⟨by rw[←n'.2.2.1.length];show eV n'.2.2.2,λD hD=>.inr ?_⟩
   obtain⟨g1,g2,g3,g4⟩:=n';have gA:H' d=some 4e6:=g1 d _ hn fW;have Zq:D≠d:=λz=>by subst z;rw[gA]at hD;cases hD
   have s:=DA gA;show⟨d,ob,ag,by rw[ba (X5 Zq)];show gA,nf,?_⟩;rw[jg Zq];show q D f' _ (λb o nb z=>?_) (CR.sw s hn g2.cr) (by rw[ba Zq];show hD) (ab.sw s _ _ g3);by_cases hb:b=d
   ·subst hb
    have:=f1 b o nb z;rw[hd]at this;cases this;show fW
   ·rw[ba hb]
    show g1 b o nb (by rw[ba hb];show f1 b o nb z)
  ·show PL (PK rest) gd ((sr.step f1 c1).block vs fr) .nil 2e6 e3 λσ' f' H' n'=>⟨by rw[←n'.2.2.1.length];show eV n'.2.2.2,λD hD=>.inl ?_⟩
   show q D f' H' (f1.trans n'.1) n'.2.1.cr hD n'.2.2.1
end
def ItI(d:Addr)(ob:Obj)(ag:List (Key×V)):It:=
 ⟨λi H=>H d=some (.gq ob (.dK ag))/\i<ag.length,λi H x H'=>∃b k v,H b=none/\x=.ref b/\H'=upd H b (.tup [kV k,v])/\ag[i]? = some (k,v),λi H=>H d=some (.gq ob (.dK ag))/\ag.length<=i⟩
theorem NQ{ag:List (Key×V)}{vs:List (Key×Value)}(r:KV ag vs){i:Nat}{k:Key}{x:V}(h:ag[i]? = some (k,x)):∃u,vs[i]? = some (k,u)/\RelV x u:=by
 ext KV r;induction r generalizing i with
 |nil=>simp at h
 |@cons p q ps qs hq t ih=>
  cases i with
  |zero=>
   have h:some p=some (k,x):=h;cases h;obtain⟨q1,q2⟩:=q;obtain⟨e1,e2⟩:=hq;have e1:k=q1:=e1;subst e1;show⟨q2,rfl,e2⟩
  |succ i=>show ih h
theorem mQ{P:YF}{w:World}{H:Hp}{h:Heap}{d:Addr}{ob:Obj}{ag:List (Key×V)}(ok:gw P w H h)(e:H d=some (.gq ob (.dK ag))):∃vs es ep,KV ag vs/\ob.data=.dict es ep/\h.DictAt (aD P w) d vs ep/\vs.length=ag.length/\(d==XT)=false:=by
 obtain⟨Dw,z,lo,vs,kv,o,es,ep,h1,h2,h3,h4⟩:=(show aY P w H h d (.gq ob (.dK ag))from ok d _ e)
 rw[Dw]at h1;cases h1;show⟨vs,es,ep,kv,h3,⟨ob,es,Dw,h2,h3,h4⟩,kv.length.symm,lo⟩
theorem Sr{P:YF}{w:World}{k:Key}{u:Value}(h:(aD P w).is k u=true):RelV (kV k) u:=by
 rcases C8 h with⟨i,t,rfl,rfl⟩|⟨x,t,rfl,rfl⟩
 ·show⟨t,rfl⟩
 ·show⟨t,rfl⟩
theorem rT{P:YF}{w:World}{K:W.Frag}{elts:3e4}{x1:Nat}{pos:Pos}(d it:Addr)(ob:Obj)(ag:List (Key×V))(da:d≠it):Turn P w K (.Tuple elts x1 pos) (ItI d ob ag) [it] it (λi h=>∃es ep ok ov,ob.data=.dict es ep/\IsItemIter h it d i ag.length ep ok ov) where
 mem:=by simp
 obj:=λi h st b hb=>by
  have e:b=it:=by simpa using hb
  subst e;obtain⟨es,ep,ok,ov,_,st⟩:=st;show⟨_,st,λv z=>by
   have z':Data.fields _=Data.cell v:=z;cases z'⟩
 keep:=λi h h' ⟨es,ep,ok,ov,hd,st⟩ k=>⟨es,ep,ok,ov,hd,k it 2e6 _ st⟩
 item:=by
  sleep 1;obtain⟨es,ep,ok,ov,hd,st⟩:=st;obtain⟨d9,hi⟩:=hg;obtain⟨ws,kK,uh,kv,gA,dat,hl,lo⟩:=mQ I.aQ d9;rw[hd]at gA;cases gA;obtain⟨⟨k,v⟩,hx⟩:∃p,ag[i]? = some p:=⟨ag[i],by simp[hi]⟩
  obtain⟨u,hu,ru⟩:=NQ kv hx;rw[←hl]at st;show wpAny_pyNext_items_item st dat hu λkey h' gJ ho hT hsz hk=>⟨_,rfl,?_⟩
  show wpAny_letOwnedTupleGo_items (s:={s with heap:=h'}) ho λh3 W' sb=>?_;have J1:Inv X pins σ H {s with heap:=h3}:=mw (t':=s.toks) (ch:=[it]) I (λb o hb z=>by
   have hb:b≠it:=by simpa using hb
   show sb.extBut _ _ hb (hk b o hb z)) hf
  have bA:∀{b o},s.heap.get? b=some o->b≠s.heap.objs.size:=λe=>Yw (Ys e);have hn:H s.heap.objs.size=none:=I.aQ.fresh (Yl _);have Zj:=sb.extBut _ _ (bA st).symm hT;have J2:=zR (ob:=.tup [kV k,v]) J1 hn I.sz (XW I.lt) (λx c e=>by obtain⟨v,q⟩:=I.cell x c e;show Yw q.lt) (λp hp=>bA (I.pin p hp).1)
   ⟨by change 2<=YA;rw[YZ];decide,[key,u],.cons (Sr gJ) (.cons ru .nil),⟨_,Zj,rfl,_,rfl⟩⟩
  show⟨.ref s.heap.objs.size,_,J2,rfl,⟨_,k,v,hn,rfl,rfl,hx⟩,⟨es,ep,_,_,hd,by rw[←hl];show W'⟩,λb hb=>?_⟩;have rJ:b=it:=by simpa using hb
  subst rJ;rw[ba (bA st)];show(hf b 2e6).1
 done:=by
  sleep 1;obtain⟨es,ep,ok,ov,hd,st⟩:=st;obtain⟨d9,hi⟩:=hg;obtain⟨ws,kK,uh,kv,gA,dat,hl,lo⟩:=mQ I.aQ d9;rw[hd]at gA;cases gA;sleep 3;rw[←hl]at st;show wpAny_pyNext_items_end (I.ok.hd hc) st dat (YT.mpr 1e0) λh' eb=>10e0
 self:=λ_ _ _ _ _ ⟨_,_,_,_,_,st⟩ h=>W.kcp_self st h
def BN(tl:TE):TI:=λσ H R=>tl σ H λx H1=>∃d ob ag,x=.ref d/\H1 d=some (.gq ob (.dK ag))/\R (ItI d ob ag) H1
section
variable{X:Cx}{o:Expr}{tl:TE}{apos aV mE:Pos}{elts:3e4}{x1:Nat}
theorem AH(ho:PE X o tl)(cG:Wh o "items" X.env (eval o X.env)=eval o X.env:=by rfl)(cF:9e9:=by rfl):
  PI X (.Tuple elts x1 mE) (.Call (.Attribute o "items" apos) [] [] aV) (BN tl):=by
 intro pins s σ H R I h;show UG cG cF (bS (ho pins s σ H _ I h) λv s1 h_=>?_);obtain⟨x,H1,I1,r1,d,ob,ag,ex,qg,hR⟩:=h_;subst ex;cases r1;obtain⟨ws,es,ep,kv,zx,dat,hl,lo⟩:=mQ I1.aQ qg;obtain⟨ty,nd,_⟩:=t4 I1 (.inl ⟨ag,.inr ⟨ob,qg⟩⟩);have hof:s1.heap.DictOf (aD X.prog X.w) d ws:=let⟨o,es,r⟩:=dat;⟨o,es,ep,r⟩
 show⟨"dict",_,Vw,PySem.F.slot_dict_items,PySem.F.type_dict_items,ty,nd,VI rfl (Yaq (call_meetsIn PySem.F.slot_dict_items ty PySem.F.entry_dict_items (PySem.F.args_dict_items_1 _) (meets_dict_items (aD X.prog X.w) d lo) ⟨⟨ws,hof⟩,?_⟩))⟩;have hv:(s1.heap.push {cls:=.type "dict_items",data:=.fields #[.ref d]}).IsItemsView s1.heap.objs.size d:=6e3;have ZI:(s1.heap.push {cls:=.type "dict_items",data:=.fields #[.ref d]}).DictAt (aD X.prog X.w) d ws ep:=dat.at' λo e=>Yb _ e;have I2:Inv X pins σ H1 {s1 with heap:=s1.heap.push {cls:=.type "dict_items",data:=.fields #[.ref d]}}:=I1.kept (t':=s1.toks) λb o e=>Yb _ e;have bA:d<s1.heap.objs.size:=let⟨o,_,ho,_⟩:=dat;Ys ho
 show wpAny_pyIter_items (s:={s1 with heap:=s1.heap.push {cls:=.type "dict_items",data:=.fields #[.ref d]}}) hv ZI ?_;show⟨_,[_],_,_,H1,rfl,I2.kept (t':=s1.toks) λb o e=>Yb _ e,rT d _ ob ag ?_,⟨es,ep,.none,.none,zx,?_⟩,λb hb=>?_,hR⟩
 ·rw[V7];show Yw (Wt bA)
 ·rw[←hl];show Yg _ rfl
 ·have e:b=_:=Yi.mp hb
  subst e;show I2.yA (Yl _) (I2.aQ.fresh (Yl _))
end
def tDF(K:W.Frag)(keys:4e3)(fs:1e9):TE:=λσ H Q=>∃ι ρ C ps xs C',SR K ι H ρ σ C/\fs ρ C=some (xs,C')/\plain xs=some ps/\
 ∀p ob vs H',Fr ι H H'->CR K ι H' C'->H' p=none->ab K ι H' ps vs->keys.length=vs.length->Q (.ref p) (upd H' p (.gq ob (.dK ((keys.map VH).zip vs))))
section
variable{X:Cx}{es:3e4}{fs:1e9}{pos:Pos}
theorem AL{ks:List (Option Expr)}{keys:4e3}(h:DM X ks es keys fs)(nd:(keys.map (VH:Str->Key)).Nodup)(BY:ks.all (·.isSome)=true)(hl:ks.length=es.length)(h0:ks≠[])(hlen:ks.length<=15)(hk:keys.length=ks.length):
  PE X (.Dict ks es pos) (tDF X.K keys fs):=by
 intro pins s σ H Q I h_;obtain⟨ι,ρ,C,ps,xs,C',sr,e1,hp,q⟩:=h_;have ON:XT<s.heap.objs.size:=modules_low I.nolimit;have hf:H s.heap.objs.size=none:=I.aQ.fresh (Yl _);have I0:Inv X pins σ H {s with heap:=s.heap.push {cls:=.type "dict",data:=.dict #[]}}:=I.kept (t':=s.toks) λb o e=>Yb _ e;have I1:Inv X ((s.heap.objs.size,{cls:=.type "dict",data:=.dict #[]})::pins) σ H {s with heap:=s.heap.push {cls:=.type "dict",data:=.dict #[]}}:=I0.dS λp hp=>by
  rcases Yk.mp hp with rfl|hp
  ·show⟨Yg _ rfl,hf,XW I.lt,I.IP (Yl _),λv z=>by cases z⟩
  ·show I0.pin p (Yo _ hp)
 show PySem.wpAny_Dict_walk (knd:=aD X.prog X.w) BY hl h0 hlen ?_;show bS (h pos _ _ σ H (λvs H2=>Fr ι H H2/\CR X.K ι H2 C'/\aU X.K ι H2 xs vs) I1 ⟨ι,ρ,C,xs,C',sr,e1,λvs H2 f2 c2 r2=>⟨f2,c2,r2⟩⟩) λus s1 h_=>?_;obtain⟨vs,H1,J1,pr,f1,c1,rs⟩:=h_;obtain⟨a1,a2,ag,a3,a4,a5⟩:=mY (P:=X.prog) (w:=X.w) pr;have pd:=J1.pin (s.heap.objs.size,_) (Yo _ YS);show⟨ag,a3,oq pd.1,λh' hd hs=>?_⟩;rw[merged_nil_of_nodup ag (by rw[a5];show nd)]at hd;have J2:Inv X pins σ H1 s1:=J1.dS λp hp=>J1.pin p (Yo _ (YL _ hp));have Fc:∀x c,X.env.cells.lookup x=some c->c≠s.heap.objs.size:=λx c e=>by
  obtain⟨v,z⟩:=I.cell x c e;show Yw z.lt
 have hpn:∀p∈X.pn++pins,p.1≠s.heap.objs.size:=λp hp=>Yw (Ys (I.pin p hp).1);have J3:Inv X pins σ H1 {s1 with heap:=h',toks:=s1.toks+us.length}:=J2.turned (t':=s1.toks+us.length) (λb o hb e=>(hs.2 b hb).trans e) pd.2.1 pd.2.2.1 (.inr I.sz) Fc hpn;have nE:keys.length<=15:=by rw[hk];show hlen
 obtain⟨ob,ho⟩:∃ob,h'.get? s.heap.objs.size=some ob:=let⟨o,_,_,ho,_⟩:=hd;⟨o,ho⟩
 have J4:=zR (ob:=.gq ob (.dK ((keys.map VH).zip vs))) J3 pd.2.1 I.sz pd.2.2.1 Fc hpn ⟨ho,Xb (by rw[W3];show Xb (Nat.min_le_left _ _) (by rw[Yj];show nE)) (by rw[YZ];decide),beq_eq_false_iff_ne.mpr (X5 (Yw ON)),ag,a4,hd⟩;obtain⟨rr,hv⟩:=PN hp rs;show⟨.ref s.heap.objs.size,_,J4,rfl,q _ ob vs H1 f1 c1 pd.2.1 rr a1⟩
end
noncomputable def ie (keys:4e3)(ps:List PV):List PV:=(keys.zip ps).map λq=>.tup [.str q.1,q.2]
def ni(n:Nat)(keys:4e3)(fs:1e9)(vs:4e3)(fr:3e9)(g:2e7)(tt:4e1)(te:2e3):aq->M PF:=λρ=>aI (fs ρ) λxs=>match plain xs with
 |some ps=>if(keys.all λk=>decide (k.length<=1000))&&decide (n<ρ.length)then aI (bY g tt (cL te []) (ie keys ps) (cX vs fr (ρ.set n none)) []) λr=>ret (.rf r.2)else λ_=>none
 |none=>λ_=>none
section
variable{K:W.Frag}{ι:2e1}{H:Hp}{ρ:aq}{σ:St}{C:Cs}
theorem SR.unset(sr:SR K ι H ρ σ C)(n:Nat)(v:Option V):SR K ι H (ρ.set n none) (σ.set n v) C:=by
 show⟨sr.cr,by simp[sr.len],λi s e=>?_⟩;by_cases h:n=i
 ·subst h
  by_cases hl:n<ρ.length
  ·rw[Xe hl]at e;cases e
  ·rw[YT.mpr 6e2]at e;cases e
 ·rw[Y5 h]at e
  obtain⟨v',h1,h2⟩:=sr.loc i s e;show⟨v',by rw[Y5 h];show h1,h2⟩
theorem tT{d:Addr}{ob:Obj}{keys:4e3}{ps:List PV}{vs:List V}(c:7e7)(hd:H d=some (.gq ob (.dK ((keys.map VH).zip vs))))(hn:d∉ι)(hl:keys.length=vs.length)(hk:(keys.all λk=>decide (k.length<=1000))=true)(r:ab K ι H ps vs):Iter K ι H (ie keys ps) (ItI d ob ((keys.map VH).zip vs)):=by
 have cE:=r.length;have h1:((keys.map (VH:Str->Key)).zip vs).length=(ie keys ps).length:=by simp[ie];lia
 show⟨λι2 H2 C2 x c2 i hi=>⟨x.1 d _ hn hd,by rw[h1];show hi⟩,λι2 H2 C2 x c2 i v H3 hi y=>?_,λι2 H2 C2 x c2=>⟨x.1 d _ hn hd,by rw[h1];show Yl _⟩⟩;obtain⟨b,k,w,hb,rfl,rfl,hx⟩:=y;rw[Wz,Yx]at hx;obtain⟨hx1,Te⟩:=hx;obtain⟨t,ht,rfl⟩:=XG.mp hx1;obtain⟨p,hp,rp⟩:=r.get' Te;show⟨λc o e=>by rw[ba (gB e hb)];show e,.tup [.str t,p],?_,iZ hb (.cons (Ac ?_) (.cons (Rep.tr c x.out p w rp) .nil))⟩
 ·ext ie
  rw[Yx];have:(keys.zip ps)[i]? = some (t,p):=by rw[Wz];show⟨ht,hp⟩
  rw[this];rfl
 ·have:=of_decide_eq_true (YW.mp hk t (YH ht))
  show Xb this (by rw[YZ];decide)
end
end Pu
namespace Pu
open PySem PySem.Spec L2
open PyProof.Rows hiding St Fr
def iu(F:List SV->M 3e0)(ix:3e9)(fs:1e9):aq->M 3e0:=λρ=>aI (fs ρ) λxs C=>match pickK xs ix with
 |some ks=>match cB C ks xs,eO C ks with
  |some ys,some D=>match F ys D with
   |some (ps,D')=>if df ps&&D'.all qj then some (ps,dI C ks D')else none
   |_=>none
  |_,_=>none
 |none=>none
theorem tu{F:List SV->M 3e0}{ix:3e9}{xs:List SV}{C C':Cs}{z:List PV}(h:(match pickK xs ix with
 |some ks=>match cB C ks xs,eO C ks with
  |some ys,some D=>match F ys D with
   |some (ps,D')=>if df ps&&D'.all qj then some (ps,dI C ks D')else none
   |_=>none
  |_,_=>none
 |none=>none:Option (List PV×Cs))=some (z,C')):∃ks ys D D',pickK xs ix=some ks/\cB C ks xs=some ys/\eO C ks=some D/\F ys D=some (z,D')/\df z=true/\D'.all qj=true/\C'=dI C ks D':=by
 split at h
 ·split at h
  ·split at h
   ·split at h
    ·rename_i hf
     rw[YI]at hf;cases h;show⟨_,_,_,_,by assumption,by assumption,by assumption,by assumption,hf.1,hf.2,rfl⟩
    ·cases h
   ·cases h
  ·cases h
 ·cases h
theorem B4{X:Cx}{e:Expr}{es:3e4}{p pos:Pos}{x:Str}{k:Nat}{f:Addr}{fd:WI}{ps:4e3}{F:List SV->M 3e0}{fs:1e9}(ix:3e9)(G:fq X.prog X.w X.K X.mg X.base ot k f fd ps (bj X.K F))(hr:b9 k X.A)(hg:Gl X x)(hm:X.mg x=some (.ref f))(hk:Hx X.K (.ref f)=true)(hb:Binds X.K fd ps [])
  (ha:AM X 4e4 fs) (iJ:3e2:=by decide) (he:1e4:=by rfl) (cE:2e4:=by rfl):
  FM X 7e2 (iu F ix fs):=PE.imp (iT G hr hg hm hk hb .nil vz ha iJ he cE) λσ H Q h=>by
 sleep 8;obtain⟨xs,C1,e1,e⟩:=bp e;show⟨ι,ρ,C,xs,C1,sr,e1,λvs H1 f1 c1 r1=>?_⟩;obtain⟨ks,ys,D,D',a1,a2,a3,a4,a5,a6,rfl⟩:=tu e;obtain⟨nd,hl⟩:=pA r1 a1;change bj X.K F (vs++[]) H1 Q E0;rw[YG];show⟨addrs ι ks,ys,D,z,D',z5 c1 nd hl a3,Rm c1 hl r1 a2,a4,λp us H2 f2 c2 hp r2=>q p us H2 (f1.trans (oR hl f2)) (r0 c1 nd hl f2 c2 a6) hp (ab.flat z us a5 r2)⟩
def di:aq->M SV:=λ_=>ret (.v (.aG [] []))
end Pu
namespace Pu
open PySem PySem.Spec PySem.W PySem.Calls L2
open PyProof.Rows hiding St Fr
noncomputable def AD (x:SV)(ys:List SV):M SV:=λC=>match x,ys with
 |.c k,[.v (.int n)]=>match C[k]? with
  |some (.lst ps)=>match ps[n.toNat]? with
   |some p=>if 0<=n/\ps.length<100000 then some (.v p,C.set k (.lst (ps.take n.toNat++ps.drop (n.toNat+1))))else none
   |none=>none
  |_=>none
 |_,_=>none
theorem xQ{x:SV}{ys:List SV}{C C2:Cs}{r:SV}(h:AD x ys C=some (r,C2)):∃k n p ps,x=.c k/\ys=[.v (.int n)]/\C[k]? = some 9e5/\ps[n.toNat]? = some p/\(0<=n/\ps.length<100000)/\r=.v p/\C2=C.set k (.lst (ps.take n.toNat++ps.drop (n.toNat+1))):=by
 ext AD h;split at h
 ·split at h
  ·split at h
   ·split at h
    ·cases h
     show⟨_,_,_,_,rfl,rfl,by assumption,by assumption,by assumption,rfl,rfl⟩
    ·cases h
   ·cases h
  ·cases h
 ·cases h
def EI(fo:2e3)(fs:1e9):aq->M SV:=λρ=>aI (fo ρ) λx=>aI (fA x) λ_=>aI (fs ρ) λys=>AD x ys
def F2(d:Addr)(ob:Obj)(ag:3e8):It:=
 ⟨λi H=>H d=some 4e6/\i<ag.length,λi H x H'=>H'=H/\∃k v b,ag[i]? = some (k,v)/\x=.ref b/\H b=some (.tup (k.map kV)),λi H=>H d=some 4e6/\ag.length<=i⟩
theorem rS{P:YF}{w:World}{K:W.Frag}{tg:Expr}(d it:Addr)(ob:Obj)(ag:3e8):Turn P w K tg (F2 d ob ag) [it] it (λi h=>∃es ep,ob.data=.dict es ep/\h.IsKeyIter it d i es.size ep) where
 mem:=by simp
 obj:=λi h st b hb=>by
  have e:b=it:=by simpa using hb
  subst e;obtain⟨es,ep,_,o,e,c,dd⟩:=st;show⟨o,e,λv z=>by rw[dd]at z;cases z⟩
 keep:=λi h h' ⟨es,ep,hd,st⟩ k=>⟨es,ep,hd,st.at λo e=>k it 2e6 o e⟩
 item:=by
  sleep 1;obtain⟨es,ep,hd,st⟩:=st;obtain⟨d9,hi⟩:=hg;obtain⟨xs,kK,uh,kt,gA,raw,he,hsz,lo⟩:=L9 I.aQ d9;rw[hd]at gA;cases gA;obtain⟨⟨k,x⟩,hx⟩:∃p,ag[i]? = some p:=⟨ag[i],by simp[hi]⟩
  obtain⟨b,u,LA,hb,ru⟩:=kt_at kt hx;have QF:es[i]? = some (K8 (Vy (aD X.prog X.w)) (k,b,u)):=by rw[entry_at he i,LA];rfl
  sleep 3;show o6 st raw QF λh' aC sb=>?_;have I1:Inv X pins σ H {s with heap:=h'}:=I.turned (t':=s.toks) (λb o hb e=>(sb.2 b hb).trans e) f0 f1 f3 f4 f5;obtain⟨o,e,c,dd⟩:=id aC;show⟨.ref b,rfl,lQ (s:={s with heap:=h'}) e c dd (by decide) ⟨.ref b,H,I1,rfl,⟨rfl,k,x,b,hx,rfl,hb⟩,⟨es,ep,hd,aC⟩,λb hb=>(hf b hb).1⟩⟩
 done:=by
  sleep 1;obtain⟨es,ep,hd,st⟩:=st;obtain⟨d9,hi⟩:=hg;obtain⟨xs,kK,uh,kt,gA,raw,he,hsz,lo⟩:=L9 I.aQ d9;rw[hd]at gA;cases gA;sleep 3;show vj (I.ok.hd hc) st raw 1e0 λh' eb=>10e0
 self:=λ_ _ _ _ _ ⟨_,_,_,st⟩ h=>wpAny_pyIter_keyiter st h
section
variable{X:Cx}{tg o:Expr}{tl:TE}
theorem AG(ho:PE X o tl):PI X tg o (ig X F2 tl):=by
 intro pins s σ H R I h;show bS (ho pins s σ H _ I h) λv s1 h_=>?_;obtain⟨x,H1,I1,r1,d,ag,ex,hq⟩:=h_;subst ex;cases r1;obtain⟨ob,Hf,qg,If,hR⟩:∃ob Hf,Hf d=some (.gq ob (.dT ag))/\Inv X pins σ Hf s1/\R (F2 d ob ag) Hf:=by
  rcases hq with⟨hd,hq⟩|⟨ob,hd,hq⟩
  ·obtain⟨ob,Dw,nf,If⟩:=ZdZ I1 hd
   show⟨ob,_,fW,If,hq ob nf⟩
  ·show⟨ob,H1,hd,I1,hq⟩
 obtain⟨xs,es,ep,kt,zx,raw,he,hsz,lo⟩:=L9 If.aQ qg;show o5 lo raw ?_;show⟨_,[_],_,_,Hf,rfl,If.kept (t':=s1.toks) λb o e=>Yb _ e,rS d _ ob ag,⟨es,ep,zx,_,Yg _ rfl,rfl,rfl⟩,λb hb=>?_,hR⟩;have e:b=_:=Yi.mp hb;subst e;show If.yA (Yl _) (If.aQ.fresh (Yl _))
end
theorem tS{K:W.Frag}{ι:2e1}{H:Hp}{d:Addr}{ob:Obj}{ks:5e4}{vs:List V}(hl:ks.length=vs.length)(hd:H d=some (.gq ob (.dT (ks.zip vs))))(hn:d∉ι)(hk:keysOk ks=true):Iter K ι H (ks.map tupK) (F2 d ob (ks.zip vs)):=by
 have nE:(ks.zip vs).length=(ks.map tupK).length:=by rw[W3,Yj];lia
 show⟨λι2 H2 C2 x c2 i hi=>⟨x.1 d _ hn hd,by rw[nE];show hi⟩,λι2 H2 C2 x c2 i v H3 hi y=>?_,λι2 H2 C2 x c2=>⟨x.1 d _ hn hd,by rw[nE];show Yl _⟩⟩;obtain⟨e3,k,u,b,hx,rfl,hb⟩:=y;rw[e3];show⟨λb o e=>e,tupK k,?_,?_⟩
 ·rw[Wz]at hx
  rw[Yx,hx.1];rfl
 ·rw[Wz]at hx
  show o1 (YW.mp hk k (YH hx.1)) hb
def wa:SV->Option 3e0
 |.v (.aG ks _)=>if keysOk ks then some (ks.map tupK)else none
 |_=>none
def fN(fo:2e3):aq->M 3e0:=λρ=>aI (fo ρ) λx=>dM λ_=>wa x
end Pu
namespace L2
open PySem PySem.Spec PySem.W PySem.Calls
open PyProof.Rows hiding St Fr
section
variable{X:Cx}{tg elt iter:Expr}{ifs:3e4}{gs:List Wn}{scope:Scope}{pos:Pos}{vs fs:4e3}{fr:3e9}{g:TG}{tt:TT}{te:TE}{rest:List GT}
theorem Ay{wi:TI}{i:Nat}{x:Str}{px gc:Pos}(hN:X.N.Nodup)(hx:X.N[i]? = some x)(hl:X.env.scope.names.lookup x=some .local)
  (S:8e1) (hc:5e0) (hi:PI X tg iter wi)
  (bG:∀C s₀ H₀ ex pn,PG 1e2 tg g) (bT:∀C s₀ H₀ ex pn,zG 1e2 ifs tt) (bR:∀C s₀ H₀ ex pn,fj 1e2 gs rest) (bE:∀C s₀ H₀ ex pn,PE 1e2 elt te)
  (Tp:Vz (.ListComp elt (8e9::gs) scope pos) (some (.Name x px)) gc.line X.env=pure true:=by rfl)
  (hs:9e2:=by intro _;rfl):
  PS X (.Assign [.Name x px] (.ListComp elt (8e9::gs) scope pos) gc) (λD σ H=>rV wi vs fr g tt rest te σ H λv H1=>D.nx (σ.set i (some v)) H1):=by
 intro pins s σ H D I h;rw[exec_Assign_Name_used _ _ _ _ Tp];show Ya (W9 (Ya ?_));change wpAny _ X.A (do let _ ←comprehension (.ListComp elt (8e9::gs) scope pos) scope X.env _ (newList []) false (eval iter X.env) (some (assign (.Name x px) X.env))) _ _ s;show Ya (Xo (Ui (use:=some (assign (.Name x px) X.env)) (Q:=λ_ s'=>SP X pins D .next s') rfl hs (ZcF (S.FD I.ok)) S.kind S.Jf
  (bS (hi pins s σ H _ I h) λv s1 h1=>bS h1 λLz s2 h2=>?_)) (λ_ s' hq=>Yc (Yc hq)) λ_ _ e=>e)
 obtain⟨it,fp,tn,J,H2,e,I2,T,iP,f2,q2⟩:=h2;subst e;show Zdz (RR:=λacc C=>compPost 2e2 X.A X.xe (some (assign (.Name x px) X.env)) (λ_ s'=>SP X pins D .next s') acc C) (Q:=λv H1=>D.nx (σ.set i (some v)) H1) S hc bG bT bR bE I2 T iP f2 q2 ?_;intro Dd C H' s' m' I' hq hn hC hle;change wpAny _ X.A (assign (.Name x px) X.env (.ref Dd)) _ _ _;have hCL:C≠X.env.locals:=XW (Yz I2.lt hle);have hCc:∀x c,X.env.cells.lookup x=some c->c≠C:=λx c e=>by
  obtain⟨v,z⟩:=I2.cell x c e;show Yw (Yz z.lt hle)
 show wpAny_assign_Name (k7 I' hN hx (.inl hl) (v:=.ref Dd) rfl (λD4 I'' zy=>?_) (.inr hl));obtain⟨a,Tw,ha⟩:=zy;have hCa:C≠a:=by
  rcases ha with rfl|ha
  ·show hCL
  ·show X5 (hCc x a ha)
 show⟨m',hn.sameBut Tw hCa,λh' eF=>⟨σ.set i (some (.ref Dd)),H',?_,hq⟩⟩;show I''.turned (t':=D4.toks) (λb o hb e=>(eF.2 b hb).trans e) hC hCL (.inr (Xb I2.sz hle)) hCc ?_;intro p hp;show zb (I2.pin p hp).1 hle
end
end L2
namespace Pu
open PySem PySem.Spec PySem.W PySem.Calls L2
open PyProof.Rows hiding St Fr
theorem nT{g:2e7}{tt:4e1}{te:2e3}:∀(xs:List PV)(ρ:aq)(ys:List PV)(C:Cs)(r:List PV×Cs),ys.length+xs.length<=100000->gh g tt te xs ρ ys C=some r->aI (bY g tt (cL te []) xs ρ ys) (λr=>ret r.2) C=some r
 |[],ρ,ys,C,r,_,e=>e
 |x::xs,ρ,ys,C,r,h,e=>by
  ext gh e;ext bY;rw[Yv]at h;cases hg:g x ρ with
  |none=>rw[hg]at e;cases e
  |some ρ1=>
   rw[hg]at e;obtain⟨b,C1,e1,e2⟩:=bp e;cases b with
   |false=>
    have:=nT xs ρ1 ys C1 r 1e0 e2;simp only[aI,e1]at this⊢;show this
   |true=>
    obtain⟨y,C2,e3,e4⟩:=bp e2;cases y with
    |c k=>cases e4
    |v p=>
     have:=nT xs ρ1 (ys++[p]) C2 r 6e2 e4;have hy:ys.length<100000:=by lia
     simp only[aI,e1,e3,cL,hy,ret,if_true]at this⊢;show this
section
variable{X:Cx}{tg elt iter:Expr}{ifs:3e4}{x:Str}{scope:Scope}{pos:Pos}{vs fs:4e3}{fr:3e9}{it:7e1}{g:2e7}{tt:4e1}{te:2e3}
theorem Zd3{K:W.Frag}{σ:St}{H:Hp}{Q:VK}{ι:2e1}{ρ:aq}{C C':Cs}{res:List PV}(sr:SR K ι H ρ σ C)
  (e:bW it vs fr g tt te ρ C=some (res,C')) (q:∀p vs H',Fr ι H H'->CR K ι H' C'->H' p=none->ab K ι H' res vs->Q (.ref p) (upd H' p (.lst vs))):rV (MQ K it) vs fr (zV K g) (xq K tt) [] (tM K te) σ H Q:=by
 obtain⟨xs,C1,e1,e2⟩:=bp e;by_cases hl:xs.length<=100000
 ·rw[if_pos hl]at e2
  obtain⟨⟨ρ',dR⟩,C2,e3,e4⟩:=bp (nT xs _ [] C1 _ (by simpa using hl) e2);cases e4;show⟨ι,ρ,C,xs,C1,sr,e1,λJ H1 f1 c1 gd=>?_⟩;show PL (PK []) gd ((sr.step f1 c1).block vs fr) .nil 2e6 e3 λσ' f' H' n'=>⟨by rw[←n'.2.2.1.length];show eV n'.2.2.2,λD hD=>q D f' H' (f1.trans n'.1) n'.2.1.cr hD n'.2.2.1⟩
 ·rw[if_neg hl]at e2;cases e2
end
end Pu
namespace Pu
open PySem PySem.Spec L2
open PyProof.Rows hiding St Fr
@[irreducible]def bq(X:Cx) (e:Expr) (f:2e3):Prop:=EM X e f
theorem Lh:@bq=@EM:=by ext bq;rfl
@[irreducible]def iO(X:Cx) (es:3e4) (f:1e9):Prop:=AM X es f
theorem Ll:@iO=@AM:=by ext iO;rfl
@[irreducible]def kS(X:Cx) (e:Expr) (f:4e1):Prop:=TMt X e f
theorem F0:@kS=@TMt:=by ext kS;rfl
@[irreducible]def Mu(X:Cx) (e:Expr) (f:4e1):Prop:=WM X e f
theorem Lb:@Mu=@WM:=by ext Mu;rfl
@[irreducible]def oz(X:Cx) (e:Expr) (f:7e1):Prop:=FM X e f
theorem Lg:@oz=@FM:=by ext oz;rfl
@[irreducible]def ml(X:Cx) (st:Stmt) (f:7e4):Prop:=SM X st f
theorem Lc:@ml=@SM:=by ext ml;rfl
@[irreducible]def oA(X:Cx) (zo:List Stmt) (f:7e4):Prop:=BM X zo f
theorem Lj:@oA=@BM:=by ext oA;rfl
@[irreducible]def rM(X:Cx) (tg:Expr) (g:2e7):Prop:=GM X tg g
theorem Lf:@rM=@GM:=by ext rM;rfl
@[irreducible]def ze(X:Cx) (ts:3e4) (g:List PV->aq->Option aq):Prop:=GMs X ts g
theorem F1:@ze=@GMs:=by ext ze;rfl
@[irreducible]def Di(X:Cx) (tg iter:Expr) (f:7e1):Prop:=IM X tg iter f
theorem Le:@Di=@IM:=by ext Di;rfl
@[irreducible]def kR(X:Cx) (ifs:3e4) (t:4e1):Prop:=RT X ifs t
theorem FZ:@kR=@RT:=by ext kR;rfl
@[irreducible]def Mv(X:Cx) (e:Option Expr) (f:aq->M (Option Int)):Prop:=OM X e f
theorem Ld:@Mv=@OM:=by ext Mv;rfl
@[irreducible]def Mw(X:Cx) (ks:List (Option Expr)) (es:3e4) (keys:4e3) (f:1e9):Prop:=DM X ks es keys f
theorem Li:@Mw=@DM:=by ext Mw;rfl
end Pu
local macro_rules
 | `(tactic| subst_eqs)=>`(tactic| simp only[Pu.Lh,Pu.Ll,Pu.F0,Pu.Lb,Pu.Lg,Pu.Lc,Pu.Lj,Pu.Lf,Pu.F1,Pu.Le,Pu.FZ,Pu.Ld,Pu.Li]at *)
namespace Pu
open PySem PySem.Spec L2
open PyProof.Rows hiding St
theorem mT{X:Cx}{e:Expr}{f:4e1}(h:Mu X e f):kS X e f:=by
 subst_eqs;show h _
section
variable{X:Cx}{a b e c:Expr}{es:3e4}{fa fb fc:2e3}{pos p:Pos}{x:Str}
theorem ay(i:Nat){x:Str}{pos:Pos}(hN:X.N[i]? = some x:=by rfl)(hv:Mt X.env.scope x:=by first|show Or.inl rfl|show Or.inr 3e5|show Or.inr (Or.inr rfl))(hd:3e2:=by decide)
  (kj:(x==("__classdict__":Str))=false:=by decide):bq X (.Name x pos) (au i):=by
 subst_eqs;show PE.imp (sO hN hv hd kj) λσ H Q h_=>?_;obtain⟨ι,ρ,C,r,C',sr,e,q⟩:=h_;ext au e;cases e1:ρ[i]? with
 |none=>rw[e1]at e;cases e
 |some o=>
  cases o with
  |none=>rw[e1]at e;cases e
  |some s=>
   rw[e1]at e;cases e;obtain⟨v,h1,h2⟩:=sr.loc i _ e1;show⟨v,h1,q v H .refl sr.cr h2⟩
theorem bD{i j pos}:bq X (.Constant (.int i) j pos) (mC (.int i)):=by
 subst_eqs;show j3 Iz λι H=>by ext Rep;rfl
theorem xb{i j pos}(h:i.length<=sizeLine:=by decide +kernel):bq X (.Constant (.str i) j pos) (mC (.str i)):=by
 subst_eqs;show j3 Iv λι H=>by ext Rep;show⟨rfl,h⟩
theorem sD{i:Str}(hg:Gl X x)(hm:∃t,X.mg x=some (.str i t))(h:i.length<=sizeLine:=by decide +kernel)(hd:3e2:=by decide):bq X (.Name x pos) (mC (.str i)):=by
 subst_eqs;obtain⟨t,hm⟩:=hm;show j3 (Et (v:=.str i) hg hm ⟨_,rfl⟩ hd) λι H=>by ext Rep;show⟨rfl,h⟩
theorem FT{op:CmpOp}{r:R2}{g:Cs->SV->SV->Option SV}(ho:gf X (Va op) r)(hg:zd X.K r g)(ha:bq X a fa)(hb:bq X b fb)(hm:Up op b=false):bq X (.Compare a [op] [b] pos) (aB g fa fb):=by
 subst_eqs;show PE.imp (Eu ho ha hb hm) λ_ _ _ h=>u6 hg h
theorem xc{op:CmpOp}{r:R2}{g:Cs->SV->SV->Option SV}(ho:gf X (Va op) r)(hg:zd X.K r g)(ha:bq X a fa)(hb:bq X b fb)(hm:Up op b=false):kS X (.Compare a [op] [b] pos) (bz (aB g fa fb)):=by
 subst_eqs;show PT.imp (Ek ho ha hb hm) λσ H Q h=>by
    obtain⟨ι,ρ,C,x,C',sr,e,q⟩:=DU h;show u6 hg ⟨ι,ρ,C,x,C',sr,e,q⟩
theorem o8(ha:bq X a fa)(he:∀whole,isTrue a X.env whole=(do let v ←whole;FW a.pos;zF [v] (truthy v)):=by intro _;rfl):kS X a (pT fa):=by
 subst_eqs;show PT.imp (Aw ha he) λσ H Q h=>by
    sleep 8;obtain⟨x,C1,e1,e⟩:=bp e;obtain⟨e2,rfl⟩:=km e;show⟨ι,ρ,C,x,C',sr,e1,λv H1 f1 c1 r1=>⟨z,?_,q H1 f1 c1⟩⟩;cases hd:aN C' x with
    |none=>rw[hd]at e2;cases e2
    |some p=>rw[hd]at e2;show(r1.lies c1 hd).tru e2
theorem Rn{f:4e1}(h:kS X a f):Mu X (.BoolOp .And [a] pos) f:=by
 subst_eqs;show Ef h
theorem PJ{rest:3e4}{f g:4e1}(h:kS X a f)(k:Mu X (.BoolOp .And (b::rest) pos) g):Mu X (.BoolOp .And (a::b::rest) pos) (cZ f g):=by
 subst_eqs;show PW.imp (Io h k) λσ H Q h=>by
   sleep 8;obtain⟨x,C1,e1,e⟩:=bp e;show⟨ι,ρ,C,x,C1,sr,e1,λH1 f1 c1=>?_⟩;cases x with
   |true=>rw[if_pos rfl]at e⊢;show⟨ι,ρ,C1,z,C',sr.step f1 c1,e,λH2 f2 c2=>q H2 (f1.trans f2) c2⟩
   |false=>rw[if_neg Yn]at e⊢;cases e;show q H1 f1 c1
theorem jv{op}{f:2e3}(h:bq X a f):bq X (.BoolOp op [a] pos) f:=by
 subst_eqs;show Iw h
theorem jw{rest:3e4}{f g:2e3}(h:bq X a f)(k:bq X (.BoolOp .And (b::rest) pos) g):bq X (.BoolOp .And (a::b::rest) pos) (lG f g):=by
 subst_eqs;show PE.imp (IA h k) λσ H Q h=>by
   sleep 8;obtain⟨x,C1,e1,e⟩:=bp e;obtain⟨k,C2,e2,e3⟩:=bp e;obtain⟨hx,hC⟩:=vS e2;subst hx hC;clear e e2;have e:=e3;show⟨ι,ρ,C,_,C2,sr,e1,λv H1 f1 c1 r1=>⟨k,Na r1,?_⟩⟩;cases k with
   |true=>rw[if_pos rfl]at e⊢;show⟨ι,ρ,C2,z,C',sr.step f1 c1,e,λv' H2 f2 c2 r2=>q v' H2 (f1.trans f2) c2 r2⟩
   |false=>rw[if_neg Yn]at e⊢;cases e;show q _ H1 f1 c1 M'
theorem b6:iO X [] af:=by
 subst_eqs;apply@oe<;>assumption
theorem aK{f:2e3}{g:1e9}(h:bq X e f)(k:iO X es g)(hs:1e4:=by rfl):iO X 4e4 (aa f g):=by
 subst_eqs;apply@og<;>assumption
end
section
variable{X:Cx}{a b e c tg:Expr}{es:3e4}{st:Stmt}{rest zo HZ:List Stmt}{f g:7e4}{pos p pos':Pos}{x:Str}
theorem Hj:oA X [] dA:=by
 subst_eqs;show kT.imp El λD σ H h_=>by obtain⟨ι,ρ,C,fl,C',sr,e,d⟩:=h_;cases e;show d.IL sr
theorem fG(h:ml X st f):oA X [st] f:=by
 subst_eqs;show mW h
theorem dr(h:ml X st f)(k:oA X rest g):oA X (st::rest) (aA f g):=by
 subst_eqs;show kT.imp (Q7 h k) λD σ H h_=>by
   sleep 2;obtain⟨zz,C1,e1,e⟩:=bp e;show⟨ι,ρ,C,zz,C1,sr,e1,?_⟩;cases zz with
   |nx ρ1=>show λι2 σ' H' x Lu=>⟨ι++ι2,ρ1,C1,fl,C',Lu,e,d.tr Lu.cr x⟩
   |rt r=>cases e;show d
   |bk ρ1=>cases e;show d
   |ct ρ1=>cases e;show d
   |rf ps=>cases e;show d
   |rq ps=>cases e;show d
theorem Hm{t:4e1}(hc:kS X c t)(h:oA X zo f)(k:oA X HZ g):ml X (.If c zo HZ pos) (fD t f g):=by
 subst_eqs;show PS.imp (Nn hc h k) λD σ H h_=>by
   sleep 2;obtain⟨z,C1,e1,e⟩:=bp e;show⟨ι,ρ,C,z,C1,sr,e1,λH1 f1 c1=>?_⟩;cases z with
   |true=>rw[if_pos rfl]at e⊢;show⟨ι,ρ,C1,fl,C',sr.step f1 c1,e,d.fr c1 f1⟩
   |false=>rw[if_neg Yn]at e⊢;show⟨ι,ρ,C1,fl,C',sr.step f1 c1,e,d.fr c1 f1⟩
theorem zc{f:2e3}(h:bq X e f):ml X (.Return (some e) pos) (eT f):=by
 subst_eqs;show PS.imp (mX h) λD σ H h_=>by
   sleep 2;obtain⟨z,C1,e1,e⟩:=bp e;cases e;show⟨ι,ρ,C,z,_,sr,e1,λv H1 f1 c1 r1=>d [] v H1 (Ex.fr f1) (by rw[YG];show c1) (by rw[YG];show r1)⟩
theorem Ht{f:7e1}(h:oz X e f):ml X (.Return (some e) pos) (cY f):=by
 subst_eqs;show PS.imp (mX h) λD σ H h_=>by
   sleep 2;obtain⟨ps,C1,e1,g1⟩:=bp e;cases g1;show⟨ι,ρ,C,ps,_,sr,e1,λq vs H1 f1 c1 hq rs=>d [] q vs H1 (Ex.fr f1) (by rw[YG];show c1) hq (by rw[YG];show rs)⟩
theorem xF{x1}{pt:Pos}{fs:1e9}(h:iO X es fs):ml X (.Return (some (.Tuple es x1 pt)) pos) (vO fs):=by
 subst_eqs;show PS.imp (mX (AJ h)) λD σ H h_=>by
   sleep 2;obtain⟨xs,C1,e1,g1⟩:=bp e;by_cases hl:xs.length<=1000
   case neg=>rw[if_neg hl]at g1;cases g1
   rw[if_pos hl]at g1;cases g1;show⟨ι,ρ,C,xs,_,sr,e1,λvs H1 f1 c1 r1=>⟨by rw[←aU.length r1];show Xb hl (by rw[YZ];decide),λq hq=>d [] q vs H1 (Ex.fr f1) (by rw[YG];show c1) hq (by rw[YG];show r1)⟩⟩
theorem FN{f:2e3}(h:bq X e f)(hs:Vz e none pos.line X.env=pure false:=by rfl):ml X (.Expr e pos) (b7 f):=by
 subst_eqs;show PS.imp (vo h hs) λD σ H h_=>by
   sleep 2;obtain⟨z,C1,e1,e⟩:=bp e;cases e;show⟨ι,ρ,C,z,_,sr,e1,λv H1 f1 c1 r1=>Done.IL (sr.step f1 c1) (d.fr c1 f1)⟩
theorem iL{i:Nat}{f:2e3}(hN:X.N.Nodup)(hi:X.N[i]? = some x)(hx:Loc X.env.scope x)(h:bq X e f)(hs:Vz e (some (.Name x pos')) pos.line X.env=pure false:=by rfl)
  (hf:4e7:=by first|show .inl rfl|show .inr rfl|assumption):ml X (.Assign [.Name x pos'] e pos) (a7 i f):=by
 subst_eqs;show PS.imp (jx hN hi hx h hs hf) λD σ H h_=>by
   sleep 2;obtain⟨z,C1,e1,e⟩:=bp e;cases e;show⟨ι,ρ,C,z,_,sr,e1,λv H1 f1 c1 r1=>Done.IL ((sr.step f1 c1).set i r1) (d.fr c1 f1)⟩
theorem KL{i:Nat}{f:7e1}(hN:X.N.Nodup)(hi:X.N[i]? = some x)(hx:Loc X.env.scope x)(h:oz X e f)(hs:Vz e (some (.Name x pos')) pos.line X.env=pure false:=by rfl)
  (hf:4e7:=by first|show .inl rfl|show .inr rfl|assumption):ml X (.Assign [.Name x pos'] e pos) (dP i f):=by
 subst_eqs;show PS.imp (jx hN hi hx h hs hf) λD σ H h_=>by
   sleep 2;obtain⟨ps,C1,e1,e⟩:=bp e;cases e;show⟨ι,ρ,C,ps,C1,sr,e1,λq vs H' f1 c1 hq rs=>AZ sr d f1 c1 hq rs⟩
theorem mh{x1}{fs:1e9}(h:iO X es fs):bq X (.Tuple es x1 pos) (aZ fs):=by
 subst_eqs;show PE.imp (AJ h) λσ H Q h_=>by
   sleep 5;obtain⟨xs,C1,e1,e⟩:=bp e;obtain⟨e2,rfl⟩:=km e;show⟨ι,ρ,C,xs,_,sr,e1,λvs H1 f1 c1 r1=>?_⟩;by_cases hl:xs.length<=1000
   ·rw[if_pos hl]at e2
    cases hp:plain xs with
    |none=>rw[hp]at e2;cases e2
    |some ps=>
     rw[hp]at e2;cases e2;obtain⟨rs,hv⟩:=PN hp r1;show⟨by rw[hv];show wj hl,λq' hq=>q _ _ (f1.trans (Fr.new hq)) (c1.new hq) ?_⟩;change Rep _ _ _ (.tup ps) _;ext Rep;show⟨q',vs,rfl,fW,ab.cW (λb o e=>by rw[ba (gB e hq)];show e) ps vs rs⟩
   ·rw[if_neg hl]at e2;cases e2
theorem FU{fs:1e9}(h:iO X es fs):oz X (.List es pos) (dh fs):=by
 subst_eqs;apply@B2<;>assumption
theorem uQ{f:7e1}(h:oz X e f):bq X e (bF f):=by
 subst_eqs;show PE.imp h λσ H Q h_=>by
   sleep 5;obtain⟨ps,C1,e1,e⟩:=bp e;cases e;show⟨ι,ρ,C,ps,_,sr,e1,λq' vs H1 f1 c1 hq rs=>q _ _ (f1.trans (Fr.new hq)) (c1.new hq) (Pw c1 hq rs)⟩
theorem iM{i:Nat}(hN:X.N.Nodup)(hi:X.N[i]? = some x)(hx:Loc X.env.scope x)(hf:4e7:=by first|show .inl rfl|show .inr rfl|assumption):rM X (.Name x pos) (hName i):=by
 subst_eqs;show PG.imp (Es hN hi hx hf) λv σ H Q h_=>by obtain⟨ι,ρ,C,p,ρ',sr,r,e,q⟩:=h_;cases e;show q _ (sr.set i r)
theorem ZY:ze X [] nI:=by
 subst_eqs;show DJ.imp Er λv σ H Q h_=>by
   obtain⟨ι,ρ,C,p,ρ',sr,r,e,q⟩:=h_;cases p with
   |nil=>cases e;show⟨r.fP,q σ sr⟩
   |cons _ _=>cases e
theorem Mn{g:2e7}{gs:List PV->aq->Option aq}(h:rM X e g)(k:ze X es gs)(hs:(Vk 4e4 X.env).map (·.2)=assign e X.env::(Vk es X.env).map (·.2):=by rfl):ze X 4e4 (dc g gs):=by
 subst_eqs;show DJ.imp (AI h k hs) λv σ H Q h_=>by
    obtain⟨ι,ρ,C,p,ρ',sr,r,e,q⟩:=h_;cases p with
    |nil=>cases e
    |cons p ps=>
     obtain⟨w,ws,rfl,r1,r2⟩:=r.inv;replace e:(g p ρ).bind (λρ'=>gs ps ρ')=some ρ':=e;cases h1:g p ρ with
     |none=>rw[h1]at e;cases e
     |some ρ1=>
      rw[h1]at e;show⟨w,ws,rfl,ι,ρ,C,p,ρ1,sr,r1,h1,λσ1 zZ=>⟨ι,ρ1,C,ps,ρ',zZ,r2,e,q⟩⟩
theorem ju{gs:List PV->aq->Option aq}{k n:Nat}(hc:5e0)(h:ze X es gs)(hn:(Vk es X.env).length=n:=by rfl)(ow:(Vk es X.env).findIdx? (·.1)=none:=by rfl):rM X (.Tuple es k pos) (nH gs n):=by
 subst_eqs;show PG.imp (Ir hc h hn ow) λv σ H Q h_=>by
    obtain⟨ι,ρ,C,p,ρ',sr,r,e,q⟩:=h_;cases p with
    |tup ps=>
     ext Rep r;obtain⟨a,vs,rfl,sq,rs⟩:=r;replace e:(if ps.length=n then gs ps ρ else none)=some ρ':=e;by_cases hl:ps.length=n
     ·rw[if_pos hl]at e
      show⟨a,vs,rfl,sq.sq,by rw[←rs.length];show hl,ι,ρ,C,ps,ρ',sr,rs,e,q⟩
     ·rw[if_neg hl]at e;cases e
    |_=>cases e
theorem Am{f:2e3}{g:2e7}(h:bq X e f)(k:rM X tg g)(hs:swapsWithSole [tg] e pos.line X.env=pure false:=by rfl)(hw:swappedStores [tg] e X.env=pure none:=by rfl)
  (h1:(Vk [tg] X.env).map (·.2)=[assign tg X.env]:=by rfl):ml X (.Assign [tg] e pos) (EK f g):=by
 subst_eqs;show PS.imp (Az h k hs hw h1) λD σ H h_=>by
   sleep 2;obtain⟨z,C1,e1,e⟩:=bp e;show⟨ι,ρ,C,z,C1,sr,e1,λv H1 f1 c1 r1=>?_⟩;cases z with
   |c k=>cases e
   |v p=>
    have e:(g p ρ).map (λρ'=>(PF.nx ρ',C1))=some (fl,C'):=e;cases hg:g p ρ with
    |none=>rw[hg]at e;cases e
    |some ρ1=>
     rw[hg]at e;cases e;show⟨ι,ρ,_,p,ρ1,sr.step f1 c1,r1,hg,λσ' Lu=>Done.IL Lu (d.fr c1 f1)⟩
end
section
variable{X:Cx}{e tg iter elt:Expr}{es:3e4}{body:List Stmt}{f:7e4}{pos p:Pos}{x:Str}
theorem PH{it:7e1}{g:2e7}(hp:Hy 2e2 X.A X.env X.xe)(hc:5e0)(hi:Di X tg iter it)(hg:rM X tg g)(hb:oA X body f)
  (hs:9e2:=by intro _;rfl):ml X (.For tg iter body [] pos) (bO it g f):=by
 subst_eqs;show PS.imp (sL hp hc hi hg hb hs) λD σ H h_=>by
   sleep 2;obtain⟨xs,C1,e1,e⟩:=bp e;show⟨ι,ρ,C,xs,C1,sr,e1,λJ H1 f1 c1 gd=>?_⟩;have d1:=d.fr c1 f1;have zZ:=sr.step f1 c1;show⟨λi m σ2 H2=>∃ι2 ρ2 C2,m=xs.length-i/\i<=xs.length/\Ex ι ι2 H1 H2/\SR X.K 6e4 H2 ρ2 σ2 C2/\loop g f (xs.drop i) ρ2 C2=some (fl,C'),⟨xs.length,[],ρ,C1,rfl,Y2 _,Ex.fr .refl,by rw[YG];show zZ,e⟩,?_⟩;rintro i m σ2 H2 ⟨ι2,ρ2,C2,rfl,rG,x2,gb,e2⟩;rcases YQ i xs.length with bA|QD
   ·right
    show⟨gd.go ι2 H2 C2 x2 gb.cr i bA,λσ' H'=>∃ι2 ρ2 C2,Ex ι ι2 H1 H'/\SR X.K 6e4 H' ρ2 σ' C2/\loop g f (xs.drop (i+1)) ρ2 C2=some (fl,C'),?_,?_⟩
    ·rintro σ' H' ⟨ι3,ρ3,C3,x3,Gh,e3⟩
     show⟨xs.length-(i+1),by lia,ι3,ρ3,C3,rfl,bA,x3,Gh,e3⟩
    ·intro v H3 y
     obtain⟨sm,q,hq,rq⟩:=gd.uZ ι2 H2 C2 x2 gb.cr i v H3 bA y;have hd:xs.drop i=q::xs.drop (i+1):=by
      rw[Xc bA];rw[Ye bA]at hq;rw[YR hq]
     rw[hd]at e2;ext loop e2;cases nG:g q ρ2 with
     |none=>rw[nG]at e2;cases e2
     |some ρ3=>
      rw[nG]at e2;obtain⟨zz,C3,e3,e4⟩:=bp e2;have kl:Fr 6e4 H2 H3:=λb o _ z=>sm b o z;have lZ:CR X.K 6e4 H3 C2:=gb.cr.same sm;have x3:Ex ι ι2 H1 H3:=⟨λb o n z=>sm b o (x2.1 b o n z),x2.2⟩
      show⟨ι++ι2,ρ2,C2,q,ρ3,gb.step kl lZ,rq,nG,λσ4 zY=>⟨ι++ι2,ρ3,C2,zz,C3,zY,e3,?_⟩⟩;cases zz with
      |nx ρ5=>show λι5 σ5 H5 x5 iE=>⟨ι2++ι5,ρ5,C3,x3.trans lZ x5,by rw[←Yd];show iE,e4⟩
      |ct ρ5=>show λι5 σ5 H5 x5 iE=>⟨ι2++ι5,ρ5,C3,x3.trans lZ x5,by rw[←Yd];show iE,e4⟩
      |bk ρ5=>cases e4;show λι5 σ5 H5 x5 iE=>d1 (ι2++ι5) σ5 H5 (x3.trans lZ x5) (by rw[←Yd];show iE)
      |rf ps=>cases e4;show λι5 q5 xk H5 x5 c5 h5 r5=>d1 (ι2++ι5) q5 xk H5 (x3.trans lZ x5) (by rw[←Yd];show c5) h5 (by rw[←Yd];show r5)
      |rq ps=>cases e4;show λι5 q5 xk H5 x5 c5 h5 r5=>d1 (ι2++ι5) q5 xk H5 (x3.trans lZ x5) (by rw[←Yd];show c5) h5 (by rw[←Yd];show r5)
      |rt r=>cases e4;show λι5 v5 H5 x5 c5 r5=>d1 (ι2++ι5) v5 H5 (x3.trans lZ x5) (by rw[←Yd];show c5) (by rw[←Yd];show r5)
   ·left
    have Fb:i=xs.length:=by lia
    subst Fb;rw[Ue]at e2;cases e2;show⟨gd.stop ι2 H2 _ x2 gb.cr,d1 ι2 σ2 H2 x2 gb⟩
section
variable{ifs:3e4}{scope:Scope}{vs fs:4e3}{fr:3e9}{it:7e1}{g:2e7}{tt:4e1}{te:2e3}
theorem DF:kR X [] fw:=by
 subst_eqs;show λpins s σ H Q I h_=>by
   obtain⟨ι,ρ,C,b,C',sr,e,q⟩:=h_;cases e;show Ej pins s σ H Q I (q H .refl sr.cr)
theorem o7{c:Expr}{t:4e1}(h:kS X c t):kR X [c] t:=by
 subst_eqs;show Ei h
theorem Mb(S:8e1)(hc:5e0)(hi:Di X tg iter it)
  (bG:∀C s₀ H₀ ex pn,rM 1e2 tg g) (bT:∀C s₀ H₀ ex pn,kR 1e2 ifs tt) (bE:∀C s₀ H₀ ex pn,bq 1e2 elt te)
  (hs:9e2:=by intro _;rfl):oz X (.ListComp elt [8e9] scope pos) (bW it vs fr g tt te):=by
 subst_eqs;show PE.imp (jB (wi:=MQ X.K it) (g:=zV X.K g) (tt:=xq X.K tt) (te:=tM X.K te) S hc hi bG bT (λ_ _ _ _ _=>.nil) bE hs) λσ H Q ⟨ι,ρ,C,res,C',sr,e,q⟩=>Zd3 sr e q
theorem xI{i:Nat}{px gc:Pos}(hN:X.N.Nodup)(hx:X.N[i]? = some x)(hl:X.env.scope.names.lookup x=some .local)(S:8e1)(hc:5e0)(hi:Di X tg iter it)
  (bG:∀C s₀ H₀ ex pn,rM 1e2 tg g) (bT:∀C s₀ H₀ ex pn,kR 1e2 ifs tt) (bE:∀C s₀ H₀ ex pn,bq 1e2 elt te)
  (Tp:Vz (.ListComp elt [8e9] scope pos) (some (.Name x px)) gc.line X.env=pure true:=by rfl) (hs:9e2:=by intro _;rfl):
  ml X (.Assign [.Name x px] (.ListComp elt [8e9] scope pos) gc) (a7 i (bF (bW it vs fr g tt te))):=by
 subst_eqs;show PS.imp (Ay (gs:=[]) (rest:=[]) (g:=zV X.K g) (tt:=xq X.K tt) (te:=tM X.K te) hN hx hl S hc hi bG bT (λ_ _ _ _ _=>.nil) bE Tp hs) λD σ H h_=>by
   sleep 2;obtain⟨z,C1,e1,e⟩:=bp e;cases e;obtain⟨res,C2,e2,e3⟩:=bp e1;cases e3;show Zd3 sr e2 λq vs H' f1 c1 hq rs=>Done.IL (((sr.step f1 c1).step (Fr.new hq) (c1.new hq)).set i (s:=.v (.lst _)) (Pw c1 hq rs)) (d.fr (c1.new hq) (f1.trans (Fr.new hq)))
end
end
section
variable{P:YF}{w:World}{K:W.Frag}{mg:2e5}{base:Heap}
theorem Ed{x qual:Str}{st:Stmt}{f:Addr}{fd:WI}{N ps:4e3}{k:Nat}{body:7e4}(F:DL K x qual st f fd)(S:aJ N ps (ak st))
  (fB:∀(cdv:Value)(A:Around)(outer:List Env)(s:Shared)(H:Hp)(E:XK),b9 k (A.deeper (envOfC qual (ak st) s.heap.objs.size f cdv))->
   oA (j5 ot P w K mg base N qual (ak st) f cdv A outer s H E).EC (bL st) body):fq P w K mg base ot (k+1) f fd ps (av K (cN ps.length (N.length-ps.length) body)):=by
 subst_eqs;apply@GX<;>assumption
end
end Pu
namespace Pu
open PySem PySem.Spec L2
open PyProof.Rows hiding St Fr
section
variable{X:Cx}
variable{a b e c:Expr}{es:3e4}{fa fb fc:2e3}{pos p:Pos}{x:Str}
theorem kg(ha:bq X a fa)(hb:bq X b fb):bq X (.BinOp a .Add b pos) (aB 7e8 fa fb):=by
 subst_eqs;show qo xW KC.r ha hb
theorem DC(ha:bq X a fa)(hb:bq X b fb):bq X (.BinOp a .Mult b pos) (aB (g2 kF) fa fb):=by
 subst_eqs;show qo IE (nz λi j h=>by
   rw[Ycq]at h;rcases h with h|h
   ·show .inl (of_decide_eq_true h)
   ·show .inr (of_decide_eq_true h)).r ha hb
theorem qW(ha:bq X a fa)(hb:bq X b fb):bq X (.BinOp a .Mod b pos) (aB (g2 fM) fa fb):=by
 subst_eqs;show qo IF (nz λi j h=>of_decide_eq_true h).r ha hb
theorem pe(ha:bq X a fa)(hb:bq X b fb):bq X (.BinOp a .Pow b pos) (aB (g2 Nq) fa fb):=by
 subst_eqs;show qo ID (nz λi j h=>by
   have h:=of_decide_eq_true h;show⟨h.1,Int.le_trans h.2.1 (by decide),h.2.2⟩).r ha hb
theorem Ao(ha:bq X a fa):bq X (.UnaryOp .USub a pos) (EJ fa):=by
 subst_eqs;show PE.imp (Nr HI ha) λσ H Q h_=>?_;obtain⟨ι,ρ,C,z,C',sr,e,k⟩:=h_;obtain⟨x,C1,e1,e⟩:=bp e;obtain⟨e2,rfl⟩:=km e;show⟨ι,ρ,C,x,_,sr,e1,λv H1 f1 c1 r1=>?_⟩;ext IT e2;split at e2
 ·rename_i i hd
  cases e2;have l:=r1.lies c1 hd;cases l;show⟨i,rfl,k _ H1 f1 c1 (show Rep _ _ _ _ _ from kz)⟩
 ·cases e2
end
section
variable{X:Cx}{a b e c o:Expr}{es:3e4}{fa fb fc fo:2e3}{fs:1e9}{pos p apos aV:Pos}{x:Str}
theorem PC(i8:Gl X "len")(hm:X.mg "len"=none)(ha:iO X 4e4 fs)
  (he:1e4:=by rfl) (cE:2e4:=by rfl):bq X (.Call (.Name "len" p) 4e4 [] pos) (i5 (g1 jN) fs):=by
 subst_eqs;show Q4 CO Jh.c i8 hm PySem.boot_len ha 1e7 1e7 he cE
theorem pf(hc:5e0)(i8:Gl X "max")(hm:X.mg "max"=none)(hv:XF "max"=some (.builtin "max"))(ha:iO X 4e4 fs)
  (he:1e4:=by rfl) (cE:2e4:=by rfl):bq X (.Call (.Name "max" p) 4e4 [] pos) (i5 (g1 ye) fs):=by
 subst_eqs;show Q4 (yR hc) IW.c i8 hm hv ha 1e7 1e7 he cE
theorem sv(i8:Gl X "list")(hm:X.mg "list"=none)(hv:XF "list"=some (.type "list"))(ha:iO X 4e4 fs)
  (he:1e4:=by rfl) (cE:2e4:=by rfl):oz X (.Call (.Name "list" p) 4e4 [] pos) (vQ fs):=by
 subst_eqs;show PE.imp (lB nX i8 hm hv ha 1e7 1e7 he cE) λσ H Q h_=>by
    sleep 5;obtain⟨xs,C1,e1,e⟩:=bp e;obtain⟨e2,rfl⟩:=km e;show⟨ι,ρ,C,xs,_,sr,e1,λvs H1 f1 c1 r1=>?_⟩;ext Bn e2;split at e2
    ·rename_i x
     obtain⟨v,w,rfl,r1,hw⟩:=r1;cases(show w=[]from hw);split at e2
     ·rename_i hd
      cases e2;obtain⟨a,ws,rfl,h1,r2⟩:=dD (r1.lies c1 hd);show⟨a,ws,rfl,.inl h1,λl hl=>q l ws H1 f1 c1 hl r2⟩
     ·rename_i hd
      cases e2;obtain⟨a,ws,rfl,h1,r2⟩:=iz (r1.lies c1 hd);show⟨a,ws,rfl,.inr h1.sq,λl hl=>q l ws H1 f1 c1 hl r2⟩
     ·cases e2
    ·cases e2
theorem Aq(hc:5e0)(i8:Gl X "all")(hm:X.mg "all"=none)(hv:XF "all"=some (.builtin "all"))(ha:iO X 4e4 fs)
  (he:1e4:=by rfl) (cE:2e4:=by rfl):bq X (.Call (.Name "all" p) 4e4 [] pos) (i5 (g1 uL) fs):=by
 subst_eqs;show Q4 (qM hc) KA.c i8 hm hv ha 1e7 1e7 he cE
end
section
variable{X:Cx}{a b e c o i:Expr}{es:3e4}{fa fb fc fo fi fv:2e3}{fs:1e9}{pos p apos aV:Pos}{x:Str}
theorem Mm(ho:bq X o fo)(ha:iO X 4e4 fs)(cG:Wh o "append" X.env (eval o X.env)=eval o X.env:=by rfl)
  (iI:((backTo aV (Yu 4e4 X.env)).all (λx=>!x.1)&&(Mp aV (Ms [] X.env)).all (λx=>x.1.isSome)
   &&decide ((e::es).length+([]:List zE).length+(if([]:List zE).isEmpty then 0 else 1)<30))=true:=by rfl)
  (cF:9e9:=by rfl) (hs:1e4:=by rfl) (gn:(backTo aV (Yu es X.env)).any (·.1)=false:=by rfl):
  bq X (.Call (.Attribute o "append" apos) 4e4 [] aV) (eU fo fs):=by
 subst_eqs;show PE.imp (pC Vx PySem.F.slot_list_append PySem.F.type_list_append lE ho ha cG iI cF hs gn) λσ H Q h_=>by
    sleep 5;obtain⟨x,C1,e1,g1⟩:=bp e;obtain⟨u,C2,e2,g2⟩:=bp g1;obtain⟨ys,C3,e3,g3⟩:=bp g2;obtain⟨hC,k,Lw,hx,LN⟩:=ZcA e2;obtain⟨k',p',ps,nB,hy,hc,hl,hr,Fe⟩:=yZ g3;clear e g1 g2 g3 e2;subst hC hx hr Fe hy;cases nB;show⟨ι,ρ,C,_,_,sr,e1,λv H1 f1 c1 r1=>?_⟩;obtain⟨a,rfl,hk⟩:=r1;obtain⟨vs0,h0,_⟩:=KQ c1 hk LN;show⟨.inl ⟨rfl,_,.of h0⟩,ι,ρ,_,_,C3,sr.step f1 c1,e3,λws H2 f2 c2 r2=>?_⟩;obtain⟨w,wr,rfl,Sm,hw⟩:=r2;cases(show wr=[]from hw);obtain⟨vs,h1,rv⟩:=KQ c2 hk hc;obtain⟨c4,f4⟩:=j6 c2 hk (rv.append (.cons Sm .nil));show⟨a,vs,w,rfl,rfl,h1,by rw[←rv.length];show Yz hl (eV (Yl _)),q _ _ (f1.trans (f2.trans f4)) c4 (show Rep _ _ _ _ _ from M8)⟩
theorem ZdQ{gc:Pos}(hv:bq X e fv)(ho:bq X o fo)(hi:bq X i fi)
  (ha:∀v,assign (.Subscript o i gc) X.env v=(do
   let ov ←zF [v] (eval o X.env)
   let iv ←zF [v,ov] (eval i X.env)
   FW gc
   zF [v,ov,iv] (setItem ov iv v)
   release [v,ov,iv] []):=by intro _;rfl)
  (hs:swapsWithSole [.Subscript o i gc] e pos.line X.env=pure false:=by rfl) (hw:swappedStores [.Subscript o i gc] e X.env=pure none:=by rfl)
  (h1:(Vk [.Subscript o i gc] X.env).map (·.2)=[assign (.Subscript o i gc) X.env]:=by rfl):ml X (.Assign [.Subscript o i gc] e pos) (jH fv fo fi):=by
 subst_eqs;show PS.imp (Az hv (Iu ho hi set_list ha) hs hw h1) λD σ H h_=>by
    sleep 2;obtain⟨v,C1,e1,g1⟩:=bp e;obtain⟨o,C2,e2,g2⟩:=bp g1;obtain⟨i,C3,e3,g3⟩:=bp g2;obtain⟨k,n,p',ps,j,ho,hi,hv,hc,hj,hf,hC⟩:=xx g3;clear e g1 g2 g3;subst ho hi hv hf hC;show⟨ι,ρ,C,_,C1,sr,e1,λx H1 f1 c1 r1=>⟨ι,ρ,C1,_,C2,sr.step f1 c1,e2,λy H2 f2 c2 r2=>⟨ι,ρ,C2,_,C3,(sr.step f1 c1).step f2 c2,e3,λw H3 f3 c3 r3=>?_⟩⟩⟩;obtain⟨a,rfl,hk⟩:=r2;have r3:w=.int n:=by unfold bC Rep at r3;show r3
    obtain⟨vs,h1,rv⟩:=KQ c3 hk hc;have Nl:Rep X.K ι H3 p' x:=Rep.mono c2 f3 _ _ (Rep.mono c1 f2 _ _ r1);obtain⟨c4,f4⟩:=j6 c3 hk (rv.set j Nl);show⟨a,vs,n,j,rfl,r3,h1,by rw[←rv.length];show hj,?_⟩;show Done.IL ((((sr.step f1 c1).step f2 c2).step f3 c3).step f4 c4) (d.fr c4 (f1.trans (f2.trans (f3.trans f4))))
variable{tg l:Expr}
theorem DE(hl:bq X l fa):Di X tg l (aL fa):=by
 subst_eqs;intro pins s σ H R I h;obtain⟨ι,ρ,C,xs,C',sr,e,q⟩:=h;obtain⟨x,C1,e1,e⟩:=bp e;obtain⟨e2,rfl⟩:=km e;show bS (hl pins s σ H (λv H1=>Fr ι H H1/\CR X.K ι H1 C'/\bC X.K ι H1 x v) I ⟨ι,ρ,C,x,C',sr,e1,λv H1 f1 c1 r1=>⟨f1,c1,r1⟩⟩) λv s1 h_=>?_;obtain⟨y,H1,I1,r1,f1,c1,rx⟩:=h_;have fp:∀b∈[s1.heap.objs.size],fm X pins H1 b:=λb hb=>by
  have e:b=s1.heap.objs.size:=by simpa using hb
  subst e;show I1.yA (Yl _) (I1.aQ.fresh (Yl _))
 ext dE e2;split at e2
 ·cases e2
  have rx:Rep X.K ι H1 (.lst _) y:=rx;ext Rep rx;obtain⟨a,vs,rfl,hq,rv⟩:=rx;cases r1;obtain⟨aw,_,p,hz⟩:=I1.list hq.sq;show VY p.isList ?_;show⟨s1.heap.objs.size,[s1.heap.objs.size],_,_,H1,rfl,I1.kept (t':=s1.toks) λb o e=>Yb _ e,xm a _,6e3,fp,q _ H1 f1 c1 (yn c1 hq rv)⟩
 ·cases e2
  have rx:Rep X.K ι H1 (.tup _) y:=rx;ext Rep rx;obtain⟨a,vs,rfl,hq,rv⟩:=rx;cases r1;obtain⟨aw,_,p,hz⟩:=I1.tuple hq.sq;show wpAny_pyIter_tuple (show s1.heap.IsTuple a aw.toArray from p) ?_;show⟨s1.heap.objs.size,[s1.heap.objs.size],_,_,H1,rfl,I1.kept (t':=s1.toks) λb o e=>Yb _ e,rQ a _,6e3,fp,q _ H1 f1 c1 (BA c1 hq.sq rv)⟩
 ·cases e2
  have rx:Rep X.K ι H1 (.str _) y:=rx
  rename Str=>z
  ext Rep rx;obtain⟨rfl,hz⟩:=rx;obtain⟨t,rfl⟩:=r1;cases ha:z.cps.all (· < 128)
  ·show wpAny_pyIter_wide ha ⟨s1.heap.objs.size,[s1.heap.objs.size],_,_,H1,rfl,I1.kept (t':=s1.toks) λb o e=>Yb _ e,oE (t:=t) (.inr rfl),6e3,fp,q _ H1 f1 c1 p7⟩
  ·show wpAny_pyIter_ascii ha ⟨s1.heap.objs.size,[s1.heap.objs.size],_,_,H1,rfl,I1.kept (t':=s1.toks) λb o e=>Yb _ e,oE (t:=t) 9e6,6e3,fp,q _ H1 f1 c1 p7⟩
 ·cases e2
theorem PZ(hg:Gl X "range")(hm:X.mg "range"=none)(ha:iO X [a] fs)(hs:Yu [a] X.env=[(false,eval a X.env)]:=by rfl):Di X tg (.Call (.Name "range" p) [a] [] pos) (bg fs):=by
 subst_eqs;show PI.imp (xT hg hm ha hs) λσ H R h_=>by
    obtain⟨ι,ρ,C,xs,C',sr,e,q⟩:=h_;obtain⟨zs,C1,e1,g1⟩:=bp e;obtain⟨e2,hC⟩:=km g1;subst hC;show⟨ι,ρ,C,zs,_,sr,e1,λvs H1 f1 c1 r1=>?_⟩;obtain⟨j,rfl,h,rfl⟩:=xA e2;obtain⟨v,w,rfl,r1,hw⟩:=r1;cases(show w=[]from hw);have r1:v=.int j:=by unfold bC Rep at r1;show r1
    subst r1;show⟨j,rfl,by lia,by lia,q _ H1 f1 c1 tR⟩
end
section
variable{X:Cx}{a b e c o i:Expr}{es:3e4}{fa fb fc fo fi fv:2e3}{fs:1e9}{pos p apos aV p2:Pos}{x:Str}{lo hi:Option Expr}{l h:aq->M (Option Int)}
theorem Hr:Mv X none iV:=by
 subst_eqs;show PO.imp Eo λσ H Q h_=>by obtain⟨ι,ρ,C,r,C',sr,e,q⟩:=h_;cases e;show q H .refl sr.cr
theorem Hs(he:bq X e fa):Mv X (some e) (bJ fa):=by
 subst_eqs;show PO.imp (En he) λσ H Q h_=>by
   obtain⟨ι,ρ,C,r,C',sr,e,q⟩:=h_;obtain⟨z,C1,e1,g1⟩:=bp e;obtain⟨e2,hC⟩:=km g1;subst hC;show⟨ι,ρ,C,z,_,sr,e1,λv H1 f1 c1 r1=>?_⟩;ext intD e2;split at e2
   ·rename_i j hd
    cases e2;have l:=r1.lies c1 hd;cases l;show⟨j,rfl,q H1 f1 c1⟩
   ·cases e2
theorem Hq(he:bq X e fa)(hl:Mv X lo l)(hh:Mv X hi h):bq X (.Subscript e (.Slice lo hi none p2) pos) (aW fa l h):=by
 subst_eqs;show PE.imp (AK (DI.or DY (DI.or Ic DX)) he hl hh) λσ H Q h_=>by
    sleep 5;obtain⟨x,C1,e1,g1⟩:=bp e;obtain⟨i,C2,e2,g2⟩:=bp g1;obtain⟨j,C3,e3,g3⟩:=bp g2;obtain⟨e4,hC⟩:=km g3;subst hC;clear e g1 g2 g3;show⟨ι,ρ,C,x,C1,sr,e1,λv H1 f1 c1 r1=>⟨ι,ρ,C1,i,C2,sr.step f1 c1,e2,λH2 f2 c2=>⟨ι,ρ,C2,j,_,(sr.step f1 c1).step f2 c2,e3,λH3 f3 c3=>?_⟩⟩⟩;have fr:=f1.trans (f2.trans f3);have r3:=(r1.mono c1 f2).mono c2 f3;rcases oS e4 with⟨xs,hd,rfl⟩|⟨xs,hd,rfl⟩
    ·obtain⟨a,vs,rfl,h1,rv⟩:=dD (r3.lies c3 hd)
     show .inl ⟨a,vs,rfl,h1,λp hp=>q _ _ (fr.trans (Fr.new hp)) (c3.new hp) (show Rep _ _ _ _ _ from Pw c3 hp (oZ rv i j))⟩
    ·obtain⟨a,vs,rfl,h1,rv⟩:=iz (r3.lies c3 hd)
     by_cases hw:HT.bI vs.length 0 i=0/\HT.bI vs.length vs.length j=vs.length
     ·show .inr (.inr ⟨a,vs,rfl,h1.sq,hw,?_⟩)
      rw[←rv.length]at hw;rw[yP hw]at q;show q _ H3 fr c3 (show Rep _ _ _ _ _ by ext Rep;show⟨a,vs,rfl,h1,rv⟩)
     ·show .inr (.inl ⟨a,vs,rfl,h1.sq,hw,λp hp=>q _ _ (fr.trans (Fr.new hp)) (c3.new hp) (show Rep _ _ _ _ _ from iZ hp (oZ rv i j))⟩)
end
section
variable{X:Cx}{a b e c o i:Expr}{es:3e4}{fa fb fc fo fi fv:2e3}{fs:1e9}{pos p apos aV p2:Pos}{x:Str}
theorem gj(hu:X.A.units+1<cLine)(ha:bq X a fa)(hb:bq X b fb)(hs:jb b:=by show λ_ _=>rfl):bq X (.Subscript a b pos) (aB 7e5 fa fb):=by
 subst_eqs;show G2 (zg.or By (wk hu)) Bz.r ha hb hs
theorem Ar:Mw X [] [] [] af:=by
 subst_eqs;show λpos pins s σ H Q I h_=>by
   obtain⟨ι,ρ,C,r,C',sr,e,q⟩:=h_;cases e;show PySem.pairTrees_nil_walk ⟨[],H,I,trivial,q [] H .refl sr.cr rfl⟩
theorem Q1{k:Str}{j1:Nat}{p1:Pos}{ks:List (Option Expr)}{keys:4e3}(h:bq X e fa)(t:Mw X ks es keys fs):Mw X (some (.Constant (.str k) j1 p1)::ks) 4e4 (k::keys) (aa fa fs):=by
 subst_eqs;intro pos pins s σ H Q I h_;obtain⟨ι,ρ,C,r,C',sr,e,q⟩:=h_;obtain⟨x,C1,e1,g1⟩:=bp e;obtain⟨xs,C2,e2,g2⟩:=bp g1;cases g2;show PySem.pairTrees_cons_walk (Calls.Constant_str ?_);show bS (h pins _ σ H (λv H1=>Fr ι H H1/\CR X.K ι H1 C1/\bC X.K ι H1 x v) (I.tok _) ⟨ι,ρ,C,x,C1,sr,e1,λv H1 f1 c1 r1=>⟨f1,c1,r1⟩⟩) λu s1 h_=>?_;obtain⟨v,H1,I1,r1,f1,c1,rx⟩:=h_;show bS (t pos pins s1 σ H1 (λvs H2=>Fr ι H1 H2/\CR X.K ι H2 C'/\aU X.K ι H2 xs vs) I1 ⟨ι,ρ,C1,xs,C',sr.step f1 c1,e2,λvs H2 f2 c2 r2=>⟨f2,c2,r2⟩⟩) λus s2 h_=>?_;obtain⟨vs,H2,I2,pr,f2,c2,rs⟩:=h_;show⟨v::vs,H2,I2,⟨ZW k _,r1,pr⟩,q (v::vs) H2 (f1.trans f2) c2 ⟨v,vs,rfl,rx.mono c1 f2,rs⟩⟩
end
end Pu
namespace Pu
open PySem PySem.Spec PySem.W PySem.Calls L2 PySem.SeqAt
open PyProof.Rows hiding St Fr
section
variable{X:Cx}{e o i:Expr}{es:3e4}{fs:1e9}{p pos pos':Pos}{x:Str}{fv fo fi:2e3}
theorem sG(gW:5e0)(hu:5e6)(i8:Gl X "dict")(hm:X.mg "dict"=none)(hv:XF "dict"=some (.type "dict"))(ha:iO X 4e4 fs)
  (he:1e4:=by rfl) (cE:2e4:=by rfl):bq X (.Call (.Name "dict" p) 4e4 [] pos) (i5 ik fs):=by
 subst_eqs;show yF (uB gW hu) Cr i8 hm hv ha 1e7 1e7 he cE
theorem xG{n:Nat}{qu:Pos}(hN:X.N.Nodup)(hi:X.N[n]? = some x)(hx:Loc X.env.scope x)(hs:Vz (.Dict [] [] qu) (some (.Name x pos')) pos.line X.env=pure false:=by rfl)
  (hf:4e7:=by first|show .inl rfl|show .inr rfl|assumption):ml X (.Assign [.Name x pos'] (.Dict [] [] qu) pos) (vP n):=by
 subst_eqs;show PS.imp (jx hN hi hx jy hs hf) λD σ H h_=>by
   sleep 2;cases e;intro q hq;have c1:=sr.cr;have c2:CR X.K (ι++[q]) (upd H q (.dT [])) (C++[.aG [] []]):=c1.add hq ⟨[],fW,rfl,.nil⟩;have x:Ex ι [q] H (upd H q (.dT [])):=⟨Fr.new hq,λb hb=>by
    have:b=q:=by simpa using hb
    subst this;show hq⟩
   show d [q] _ _ x ((sr.ex x c2).set n ⟨q,rfl,?_⟩);rw[←c1.len];simp
theorem o9{gc:Pos}(hu:5e6)(hv:bq X e fv)(ho:bq X o fo)(hi:bq X i fi)
  (hs:Vz e (some (.Subscript o i gc)) pos.line X.env=pure false:=by rfl):ml X (.Assign [.Subscript o i gc] e pos) (i4 fv fo fi):=by
 subst_eqs;show PS.imp (Em 1e0 ho hi hv hs) λD σ H h_=>by
    sleep 2;obtain⟨v,C1,e1,g1⟩:=bp e;obtain⟨o,C2,e2,g2⟩:=bp g1;obtain⟨i,C3,e3,g3⟩:=bp g2;obtain⟨k,qs,p',ks,ps,key,ho,hi,hv,hc,hj,hlen,hf,hC⟩:=xw g3;clear e g1 g2 g3;subst ho hi hv hf hC;show⟨ι,ρ,C,_,C1,sr,e1,λx H1 f1 c1 r1=>⟨ι,ρ,C1,_,C2,sr.step f1 c1,e2,λy H2 f2 c2 r2=>⟨ι,ρ,C2,_,C3,(sr.step f1 c1).step f2 c2,e3,λw H3 f3 c3 r3=>?_⟩⟩⟩;obtain⟨a,rfl,hk⟩:=r2;obtain⟨vs,h1,hl,rv⟩:=(show aX X.K ι H3 a (.aG ks ps)from c3.ok k a _ hk hc)
    obtain⟨b,rfl,hb⟩:=Rf (show Rep X.K ι H3 (.tup qs) w from r3) hj;have Nl:Rep X.K ι H3 p' x:=Rep.mono c2 f3 _ _ (Rep.mono c1 f2 _ _ r1);obtain⟨z1,z2⟩:=iS (k:=key) (v:=x) hl;have fr:Fr ι H3 (upd H3 a (.dT (putK (ks.zip vs) key x))):=λb u n e=>by
     rw[ba (λz=>n (by rw[z];show YH hk))];show e
    have c4:CR X.K ι (upd H3 a (.dT (putK (ks.zip vs) key x))) (C3.set k (.aG (aP ks key) (bo ks ps key p'))):=
     c3.put hk ⟨bo ks vs key x,by rw[←z1];show fW,z2,ab.mono c3 fr _ _ (jt Nl rv)⟩
    show⟨a,_,rfl,rl.t h1 hb (by rw[W3,YZ];lia),?_⟩;show Done.IL ((((sr.step f1 c1).step f2 c2).step f3 c3).step fr c4) (d.fr c4 (f1.trans (f2.trans (f3.trans fr))))
end
section
variable{X:Cx}{a b:Expr}{fa fb:2e3}{pos:Pos}
theorem Df(hu:X.A.units+1<cLine)(ha:bq X a fa)(hb:bq X b fb)(hs:jb b:=by show λ_ _=>rfl):bq X (.Subscript a b pos) (aB (g2 gH) fa fb):=by
 subst_eqs;show G2 (zg.or By (wk hu)) Jt.r ha hb hs
end
section
variable{X:Cx}{pos:Pos}{c:Expr}{f:7e4}{body:List Stmt}
theorem su{t:4e1}(hp:Hy 2e2 X.A X.env X.xe)(hc:kS X c t)(hb:oA X body f):ml X (.While c body [] pos) (nh t f):=by
 subst_eqs;show PS.imp (Ax hp hc hb) λD σ H h_=>by
   sleep 2;show⟨λm σ2 H2=>∃ι2 ρ2 C2,Ex ι ι2 H H2/\SR X.K 6e4 H2 ρ2 σ2 C2/\gg t f m ρ2 C2=some (fl,C'),⟨1000,[],ρ,C,Ex.fr .refl,by rw[YG];show sr,e⟩,?_⟩;rintro m σ2 H2 ⟨ι2,ρ2,C2,x2,gb,e2⟩;cases m with
   |zero=>cases e2
   |succ m=>
    ext gg e2;obtain⟨z,C3,e3,e2⟩:=bp e2;show⟨ι++ι2,ρ2,C2,z,C3,gb,e3,λH3 f3 c3=>?_⟩;have x3:Ex ι ι2 H H3:=⟨λb o n e=>f3 b o (x2.out b o n e).1 (x2.out b o n e).2,x2.2⟩
    have Gh:=gb.step f3 c3;cases z with
    |true=>
     rw[if_pos rfl]at e2;sleep 6;rw[if_pos rfl];obtain⟨zz,C4,e4,e5⟩:=bp e2;show⟨λσ' H'=>∃ι2 ρ2 C2,Ex ι ι2 H H'/\SR X.K 6e4 H' ρ2 σ' C2/\gg t f m ρ2 C2=some (fl,C'),λσ' H' h=>⟨m,VA _,h⟩,ι++ι2,ρ2,C3,zz,C4,Gh,e4,?_⟩;cases zz with
     |nx ρ5=>show λι5 σ5 H5 x5 iE=>⟨ι2++ι5,ρ5,C4,Ex.trans c3 x3 x5,by rw[←Yd];show iE,e5⟩
     |ct ρ5=>show λι5 σ5 H5 x5 iE=>⟨ι2++ι5,ρ5,C4,Ex.trans c3 x3 x5,by rw[←Yd];show iE,e5⟩
     |bk ρ5=>cases e5;show λι5 σ5 H5 x5 iE=>d (ι2++ι5) σ5 H5 (Ex.trans c3 x3 x5) (by rw[←Yd];show iE)
     |rf ps=>cases e5;show λι5 q5 xk H5 x5 c5 h5 r5=>d (ι2++ι5) q5 xk H5 (Ex.trans c3 x3 x5) (by rw[←Yd];show c5) h5 (by rw[←Yd];show r5)
     |rq ps=>cases e5;show λι5 q5 xk H5 x5 c5 h5 r5=>d (ι2++ι5) q5 xk H5 (Ex.trans c3 x3 x5) (by rw[←Yd];show c5) h5 (by rw[←Yd];show r5)
     |rt r=>cases e5;show λι5 v5 H5 x5 c5 r5=>d (ι2++ι5) v5 H5 (Ex.trans c3 x3 x5) (by rw[←Yd];show c5) (by rw[←Yd];show r5)
    |false=>
     rw[if_neg Yn]at e2;sleep 6;rw[if_neg Yn];cases e2;show d ι2 σ2 H3 x3 Gh
end
section
variable{X:Cx}{e:Expr}{es:3e4}{fs:1e9}{p pos:Pos}
theorem Ap(hc:5e0)(i8:Gl X "any")(hm:X.mg "any"=none)(hv:XF "any"=some (.builtin "any"))(ha:iO X 4e4 fs)
  (he:1e4:=by rfl) (cE:2e4:=by rfl):bq X (.Call (.Name "any" p) 4e4 [] pos) (i5 (g1 CY) fs):=by
 subst_eqs;show Q4 (qL hc) Kz.c i8 hm hv ha 1e7 1e7 he cE
end
end Pu
namespace Pu
open PySem PySem.Spec PySem.W PySem.Calls L2 PySem.SeqAt
open PyProof.Rows hiding St Fr
section
variable{X:Cx}
theorem ZcK{e:Expr}{es:3e4}{fs:1e9}{p pos:Pos}(gW:5e0)(hu:5e6)(i8:Gl X "sorted")(hm:X.mg "sorted"=none)(hv:XF "sorted"=some (.builtin "sorted"))(ha:iO X 4e4 fs)
  (he:1e4:=by rfl) (cE:2e4:=by rfl):oz X (.Call (.Name "sorted" p) 4e4 [] pos) (cC fs):=by
 subst_eqs;show PE.imp (PE.or (ud (p:=p) (pos:=pos) gW hu i8 hm hv ha he cE) (jC (nV gW hu) i8 hm hv ha 1e7 1e7 he cE)) λσ H Q h_=>by
    sleep 5;obtain⟨xs,C1,e1,e⟩:=bp e;obtain⟨e2,rfl⟩:=km e;ext fK e2;split at e2
    ·rename_i x
     split at e2
     ·rename_i ks vs hd
      split at e2
      ·rename_i qs hk
       by_cases ho:qs.all keyOk=true
       ·rw[if_pos ho]at e2
        show .inr ⟨ι,ρ,C,[x],_,sr,e1,λvs H1 f1 c1 r1=>?_⟩;obtain⟨v,w,rfl,r1,hw⟩:=r1;cases(show w=[]from hw);obtain⟨a,zr,ws,rfl,rfl,gA,hl,r⟩:=Gx (r1.lies c1 hd);rw[zC]at hk;cases hk;have ek:((qs.zip ws).map λq=>kP q.1)=qs.map kP:=by
         have:(qs.zip ws).map Prod.fst=qs:=U8 1e0;show(Xd (f:=Prod.fst) (g:=kP) (l:=qs.zip ws)).symm.trans (by rw[this])
        have ef:(qs.zip ws).map (·.1)=qs:=U8 1e0;show⟨a,qs.zip ws,_,ι,rfl,gA,by rw[ef];show ho,by rw[ek];show e2,λzs l hz hl=>q l _ H1 f1 c1 hl hz⟩
       ·rw[if_neg ho]at e2;cases e2
      ·cases e2
     ·show .inl ⟨ι,ρ,C,z,_,sr,by ext pU;change aI (fs ρ) _ C=_;ext aI;rw[e1];change dM _ _=_;ext dM;dsimp only;rw[e2],q⟩
    ·cases e2
end
end Pu
namespace Pu
open PySem PySem.Spec L2
open PyProof.Rows hiding St Fr
section
variable{X:Cx}{l:Expr}{elts:3e4}{x1:Nat}{mE p pos:Pos}
theorem xJ{fs:1e9}(hg:Gl X "enumerate")(hm:X.mg "enumerate"=none)(ha:iO X [l] fs)(hs:Yu [l] X.env=[(false,eval l X.env)]:=by rfl):Di X (.Tuple elts x1 mE) (.Call (.Name "enumerate" p) [l] [] pos) (jI fs):=by
 subst_eqs;show PI.imp (Ep hg hm ha hs) λσ H R h_=>by
    obtain⟨ι,ρ,C,xs,C',sr,e,q⟩:=h_;obtain⟨zs,C1,e1,g1⟩:=bp e;obtain⟨e2,hC⟩:=km g1;subst hC;show⟨ι,ρ,C,zs,_,sr,e1,λvs H1 f1 c1 r1=>?_⟩;ext Ce e2;split at e2
    ·cases e2
     obtain⟨v,w,rfl,r1,hw⟩:=r1;cases(show w=[]from hw);replace r1:Rep X.K ι H1 (.lst _) v:=r1;ext Rep r1;obtain⟨a,vs,rfl,hq,rv⟩:=r1;show⟨a,rfl,⟨vs,hq.sq⟩,q _ H1 f1 c1 (yo c1 hq rv)⟩
    ·cases e2
end
section
variable{X:Cx}{tg kx vx iter:Expr}{ifs:3e4}{pos:Pos}{scope:Scope}{vs fs:4e3}{fr:3e9}{it:7e1}{g:2e7}{tt:4e1}{tk te:2e3}
theorem sH(S:8e1)(hc:5e0)(hu:5e6)(hi:Di X tg iter it)
  (bG:∀C s₀ H₀ ex pn,rM 1e2 tg g) (bT:∀C s₀ H₀ ex pn,kR 1e2 ifs tt) (bK:∀C s₀ H₀ ex pn,bq 1e2 kx tk) (bE:∀C s₀ H₀ ex pn,bq 1e2 vx te)
  (hs:9e2:=by intro _;rfl):bq X (.DictComp kx vx [8e9] scope pos) (jK it vs fr g tt tk te):=by
 subst_eqs;show PE.imp (AN (g:=zV X.K g) (tt:=xq X.K tt) (tk:=tM X.K tk) (te:=tM X.K te) S hc 1e0 hi bG bT bK bE hs) λσ H Q ⟨ι,ρ,C,res,C',sr,e,q⟩=>uy sr e q
end
end Pu
namespace Pu
open PySem PySem.Spec L2
open PyProof.Rows hiding St Fr
section
variable{X:Cx}{e o st:Expr}{fa fo fs:2e3}{p p2 pos apos aV:Pos}
theorem xK(he:bq X e fa)(hs:bq X st fs):oz X (.Subscript e (.Slice none none (some st) p2) pos) (vN fa fs):=by
 subst_eqs;intro pins s σ H Q I h_;obtain⟨ι,ρ,C,z,C',sr,e0,q⟩:=h_;obtain⟨x,C1,e1,g1⟩:=bp e0;obtain⟨k,C2,e2,g2⟩:=bp g1;obtain⟨e3,hC⟩:=km g2;subst hC;obtain⟨xs,hd,rfl,rfl⟩:=xC e3;show Subscript_ (bS (he pins s σ H (λv H1=>Pu.Fr ι H H1/\CR X.K ι H1 C1/\bC X.K ι H1 x v) I ⟨ι,ρ,C,x,C1,sr,e1,λv H1 f1 c1 r1=>⟨f1,c1,r1⟩⟩) λv s1 h_=>?_);obtain⟨y,H1,I1,r1,f1,c1,rx⟩:=h_;show wpAny_Slice ?_;rw[evalPart_none];show Yc (Yc ?_);rw[evalPart_some];show bS (hs pins s1 σ H1 (λv H2=>Pu.Fr ι H1 H2/\CR X.K ι H2 C'/\bC X.K ι H2 (.v (.int (-1))) v) I1 ⟨ι,ρ,C1,_,C',sr.step f1 c1,e2,λv H2 f2 c2 r2=>⟨f2,c2,r2⟩⟩) λu s2 h_=>?_;obtain⟨y2,H2,I2,r2,f2,c2,rk⟩:=h_;have hk:y2=.int (-1):=by unfold bC Rep at rk;show rk
 subst hk;obtain⟨t,rfl⟩:=r2;obtain⟨a,vs,rfl,h1,rv⟩:=dD ((rx.mono c1 f2).lies c2 hd);cases r1;have I4:Inv X pins σ H2 {s2 with heap:=s2.heap.push {cls:=.type "slice",data:=.fields #[.none,.none,.int (-1) t]}}:=I2.kept (t':=s2.toks) λb ob q=>Yb _ q;obtain⟨aw,r,ht,hz⟩:=I4.list h1;have hlen:=r.length;show tail_any (ops:=[.ref a,.ref s2.heap.objs.size]) ht.isList.typeIs slot_list_getitem.lookup ?_ (by with_unfolding_all rfl);show wpAny_getItem_list_slice ht.isList (Heap.IsSliceOf.new ..) .none .none (.int (-1) t) 2e6 ?_ (by rw[Yr]<;>lia);rw[W.krv_pick];show⟨.ref _,_,I4.laid (t':=s2.toks) (o:=.lst vs.reverse) (λb ob q=>Yb _ q) (Yl _) ?_,rfl,q _ vs.reverse H2 (f1.trans f2) c2 (I4.aQ.fresh (Yl _)) rv.rev⟩;show⟨by rw[List.length_reverse];show hz,_,0,Vals.rev r,Yg _ rfl⟩
theorem kE(hc:5e0)(hg:Gl X "list")(hm:X.mg "list"=none)(ho:bq X o fo)
  (cG:Wh o "values" X.env (eval o X.env)=eval o X.env:=by rfl) (cF:9e9:=by rfl)
  (hs:Yu [.Call (.Attribute o "values" apos) [] [] aV] X.env=[(false,eval (.Call (.Attribute o "values" apos) [] [] aV) X.env)]:=by rfl):
  oz X (.Call (.Name "list" p) [.Call (.Attribute o "values" apos) [] [] aV] [] pos) (fV fo):=by
 subst_eqs;intro pins s σ H Q I h_;obtain⟨ι,ρ,C,z,C',sr,e0,q⟩:=h_;obtain⟨x,C1,e1,g1⟩:=bp e0;obtain⟨e3,hC⟩:=km g1;subst hC;show Call_ (FK I hg hm 1e3 (XB ?_ hs 1e3));rw[hs];change wpAny _ _ (spliced ((false,eval _ X.env)::backTo pos [])) _ _ s;show Ur (UG cG cF (bS (ho pins s σ H (λv H1=>Pu.Fr ι H H1/\CR X.K ι H1 C'/\bC X.K ι H1 x v) I ⟨ι,ρ,C,x,C',sr,e1,λv H1 f1 c1 r1=>⟨f1,c1,r1⟩⟩) λv s1 h_=>?_));obtain⟨y,H1,I1,r1,f1,c1,rx⟩:=h_;ext zM e3;split at e3
 ·rename_i ks zs hd
  by_cases hl:zs.length<=1000
  case neg=>rw[if_neg hl]at e3;cases e3
  rw[if_pos hl]at e3;cases e3;obtain⟨a,vs,rfl,gA,nE,rv⟩:=tL (rx.lies c1 hd);cases r1;obtain⟨ty,nd,lo⟩:=t4 I1 (.inr ⟨_,gA⟩);obtain⟨hz,_,xs,kt,ob,es,ep,Dw,hex,zx,he,JL,ox⟩:=iB I1.aQ gA;show⟨"dict",_,Vw,Um,PySem.F.type_dict_values,ty,nd,VI rfl (Yaq (lu lo ⟨ob,Dw,hex,zx⟩ ?_))⟩;show UJ ?_;have Tx:d7 (s1.heap.push {cls:=.type "dict_values",data:=.fields #[.ref a]}) a es ep:=⟨ob,Yb _ Dw,hex,zx⟩
  have hv:(s1.heap.push {cls:=.type "dict_values",data:=.fields #[.ref a]}).IsValuesView s1.heap.objs.size a:=6e3;have QF:es.size=xs.length:=UD he;have hkx:(ks.zip vs).length=xs.length:=Ww kt;have cE:=rv.length;rw[W3]at hkx;show W.kdl_call (s:={s1 with heap:=s1.heap.push {cls:=.type "dict_values",data:=.fields #[.ref a]}}) Ad (I1.ok.hd hc) ⟨hv,Tx⟩ (by rw[YZ];lia) λh' tk acc c kp hD ai=>?_;have I2:Inv X pins σ H1 {s1 with heap:=s1.heap.push {cls:=.type "dict_values",data:=.fields #[.ref a]}}:=I1.kept (t':=s1.toks) λb o e=>Yb _ e;have hvs:Vals vs acc.toList:=by
   rw[tU ai,he,ui];have:=ET kt;rw[List.map_snd_zip 1e0]at this;show this
  show⟨.ref _,_,I2.laid (t':=tk) (o:=.lst vs) kp (Yl _) ⟨by rw[←cE];show wj hl,acc.toList,c,hvs,by simpa using hD⟩,rfl,q _ vs H1 f1 c1 (I2.aQ.fresh (Yl _)) rv⟩
 ·cases e3
end
section
variable{X:Cx}
variable{o e:Expr}{es:3e4}{fo:2e3}{fs:1e9}{apos aV:Pos}
theorem Zde(ho:bq X o fo)(ha:iO X 4e4 fs)(cG:Wh o "extend" X.env (eval o X.env)=eval o X.env:=by rfl)
  (iI:((backTo aV (Yu 4e4 X.env)).all (λx=>!x.1)&&(Mp aV (Ms [] X.env)).all (λx=>x.1.isSome)
   &&decide ((e::es).length+([]:List zE).length+(if([]:List zE).isEmpty then 0 else 1)<30))=true:=by rfl)
  (cF:9e9:=by rfl) (hs:1e4:=by rfl) (gn:(backTo aV (Yu es X.env)).any (·.1)=false:=by rfl):
  bq X (.Call (.Attribute o "extend" apos) 4e4 [] aV) (tx fo fs):=by
 subst_eqs;show PE.imp (pC Vx PySem.F.slot_list_extend PySem.F.type_list_extend EG ho ha cG iI cF hs gn) λσ H Q h_=>by
    sleep 5;obtain⟨x,C1,e1,g1⟩:=bp e;obtain⟨u,C2,e2,g2⟩:=bp g1;obtain⟨ys,C3,e3,g3⟩:=bp g2;obtain⟨hC,k,Lw,hx,LN⟩:=ZcA e2;obtain⟨k',qs,ps,nB,hy,hc,hl,hr,Fe⟩:=yD g3;clear e g1 g2 g3 e2;subst hC hx hr Fe hy;cases nB;show⟨ι,ρ,C,_,_,sr,e1,λv H1 f1 c1 r1=>?_⟩;obtain⟨a,rfl,hk⟩:=r1;obtain⟨vs0,h0,_⟩:=KQ c1 hk LN;show⟨.inl ⟨rfl,_,.of h0⟩,ι,ρ,_,_,C3,sr.step f1 c1,e3,λws H2 f2 c2 r2=>?_⟩;obtain⟨w,wr,rfl,Sm,hw⟩:=r2;cases(show wr=[]from hw);obtain⟨b,zs,rfl,hb,rz⟩:=Sm;obtain⟨vs,h1,rv⟩:=KQ c2 hk hc;obtain⟨c4,f4⟩:=j6 c2 hk (rv.append rz);show⟨a,b,vs,zs,rfl,rfl,h1,hb.sq,by rw[←rv.length,←rz.length];show XN (Yz hl (eV (Yl _))),q _ _ (f1.trans (f2.trans f4)) c4 (show Rep _ _ _ _ _ from M8)⟩
end
end Pu
namespace Pu
open PySem PySem.Spec PySem.W PySem.Calls L2
open PyProof.Rows hiding St Fr
section
variable{X:Cx}{e:Expr}{es:3e4}{p pos:Pos}{x:Str}{k:Nat}{ps:4e3}{F:List SV->M SV}{fs:1e9}
theorem gY(c:cU X.prog X.w X.K X.mg X.base k x ps (av X.K F))(hr:b9 k X.A)(hg:Gl X x)(ha:iO X 4e4 fs)(iJ:3e2:=by decide)(he:1e4:=by rfl)(cE:2e4:=by rfl):
  bq X 7e2 (cb F fs):=by
 subst_eqs;obtain⟨f,fd,G,m,k,b⟩:=c;show Fq G hr hg m k b ha iJ he cE
theorem xM{f0:7e1}(c:cU X.prog X.w X.K X.mg X.base k x ps (av X.K F))(hr:b9 k X.A)(hg:Gl X x)(h0:oz X e f0)(ha:iO X es fs)(iJ:3e2:=by decide)(he:1e4:=by rfl)(cE:2e4:=by rfl):
  bq X 7e2 (Be F f0 fs):=by
 subst_eqs;obtain⟨f,fd,G,m,k,b⟩:=c;show Cg G hr hg m k b h0 ha iJ he cE
theorem PD{F:List SV->M 3e0}(c:cU X.prog X.w X.K X.mg X.base k x ps (bj X.K F))(hr:b9 k X.A)(hg:Gl X x)(ha:iO X 4e4 fs)(iJ:3e2:=by decide)(he:1e4:=by rfl)(cE:2e4:=by rfl):
  oz X 7e2 (gF F fs):=by
 subst_eqs;obtain⟨f,fd,G,m,k,b⟩:=c;show Fi G hr hg m k b ha iJ he cE
end
section
variable{P:YF}{w:World}{K:W.Frag}{mg:2e5}{base:Heap}{x:Str}{st:Stmt}{N ps:4e3}{k:Nat}{body:7e4}
theorem uP(F:Hd.FnAt K mg x st)(S:aJ N ps (ak st))(hb:∀(kV doc pm:Value)(an:Option Addr)(cdv ct:Value)(us:2e9),us.length=ps.length->bindArgs (W.fnOf x x (dU st) (bL st) (ak st) .none kV doc pm an cdv ct) ⟨us,[]⟩=pure (ps.zip us))
  (fB:∀(f:Addr)(cdv:Value)(A:Around)(outer:List Env)(s:Shared)(H:Hp)(E:XK),b9 k (A.deeper (envOfC x (ak st) s.heap.objs.size f cdv))->
   oA (j5 ot P w K mg base N x (ak st) f cdv A outer s H E).EC (bL st) body):cU P w K mg base (k+1) x ps (av K (cN ps.length (N.length-ps.length) body)):=by
 subst_eqs;obtain⟨f,fd,m,F⟩:=F;show⟨f,fd,GX F S (fB f),m,F.kp,F.binds hb⟩
theorem PX(F:Hd.FnAt K mg x st)(S:aJ N ps (ak st))(hb:∀(kV doc pm:Value)(an:Option Addr)(cdv ct:Value)(us:2e9),us.length=ps.length->bindArgs (W.fnOf x x (dU st) (bL st) (ak st) .none kV doc pm an cdv ct) ⟨us,[]⟩=pure (ps.zip us))
  (fB:∀(f:Addr)(cdv:Value)(A:Around)(outer:List Env)(s:Shared)(H:Hp)(E:XK),b9 k (A.deeper (envOfC x (ak st) s.heap.objs.size f cdv))->
   oA (j5 ot P w K mg base N x (ak st) f cdv A outer s H E).EC (bL st) body):cU P w K mg base (k+1) x ps (bj K (dB ps.length (N.length-ps.length) body)):=by
 subst_eqs;obtain⟨f,fd,m,F⟩:=F;show⟨f,fd,Kf F S (fB f),m,F.kp,F.binds hb⟩
end
section
variable{X:Cx}{e:Expr}{f:2e3}{p p2 pos pz:Pos}
theorem mS(gW:5e0)(i8:Gl X "list")(TR:X.mg "list"=none)(BW:Gl X "reversed")(Qy:X.mg "reversed"=none)(h:bq X e f)(he:Yu [e] X.env=(false,eval e X.env)::Yu [] X.env:=by rfl):
  oz X (.Call (.Name "list" p) [.Call (.Name "reversed" p2) [e] [] pz] [] pos) (gE f):=by
 subst_eqs;intro pins s σ H Q I h_;obtain⟨ι,ρ,C,res,C',sr,e1,q⟩:=h_;obtain⟨x,C1,e2,e3⟩:=bp e1;obtain⟨e4,rfl⟩:=km e3;show WD (FK I i8 TR uG ?_ 1e7 1e7);show XB ?_ rfl rfl;change wpAny _ _ (spliced ((false,eval (.Call (.Name "reversed" p2) [e] [] pz) X.env)::backTo pos (Yu [] X.env))) _ _ s;show Ur ?_;show WD (FK I BW Qy ZdK ?_ 1e7 1e7);have ha:AM X [e] (aa f af):=og h oe he;have ea:aa f af ρ C=some ([x],C'):=by unfold aa aI;rw[e2];rfl
 show XB (bS (ha pz pins s σ H (λvs H1=>Fr ι H H1/\CR X.K ι H1 C'/\aU X.K ι H1 [x] vs) I ⟨ι,ρ,C,[x],C',sr,ea,λvs H1 f1 c1 r1=>⟨f1,c1,r1⟩⟩) λus s1 ⟨vs,H1,I1,r1,f1,c1,rs⟩=>?_) he rfl;obtain⟨v,w,rfl,rv,hw⟩:=rs;cases(show w=[]from hw);obtain⟨u,rfl,ru⟩:=Vals.one r1;cases hd:aN C' x with
 |none=>rw[hd]at e4;cases e4
 |some pv=>
  rw[hd]at e4;cases pv with
  |lst qs=>
   cases e4;obtain⟨a,ws,rfl,hq,r2⟩:=dD (rv.lies c1 hd);cases(show u=YN a from ru);obtain⟨aw,vi,⟨o,n,h1,h2,h3,h4⟩,hz⟩:=I1.list hq;show bS (kG (items:=aw.toArray) (I1.ok.hd gW) ⟨o,h1,h2,n,h4⟩ (by rw[Yr,←vi.length];show hz) λD h' tk c acc hD k eD jS=>?_) λv2 s2 q2=>UJ q2;have ea':acc=aw.reverse.toArray:=by
    rw[←Array.toArray_toList (xs:=acc),jS]
   rw[ea']at eD;have vr:=oB vi;have hl:ws.reverse.length<=sizeLine:=by rw[List.length_reverse];show hz
   show⟨.ref D,_,I1.laid (t':=tk) k hD (show aY X.prog X.w _ h' _ (.lst ws.reverse)from⟨hl,aw.reverse,c,vr,eD⟩),rfl,?_⟩;show q D _ H1 f1 c1 (I1.aQ.fresh hD) (oV r2)
  |_=>cases e4
end
end Pu
namespace Pu
open PySem PySem.Spec PySem.W PySem.Calls L2
open PyProof.Rows hiding St Fr strKind
open PySem.Builtin.Str (partsBetween occurrences strKind)
section
variable{X:Cx}{e:Expr}{es:3e4}{f:2e3}{fs:1e9}{p pos:Pos}
variable{o:Expr}{fo:2e3}{apos aV:Pos}
theorem sF{a b:Expr}{fa fb:2e3}(ha:bq X a fa)(hb:bq X b fb):bq X (.BinOp a .FloorDiv b pos) (aB (g2 B5) fa fb):=by
 subst_eqs;show qo AR (nz λi j h=>(of_decide_eq_true h:0<j/\j<2^200)).r ha hb
end
end Pu
namespace Pu
open PySem PySem.Spec PySem.W PySem.Calls L2
open PyProof.Rows hiding St Fr
section
variable{X:Cx}{e o:Expr}{es:3e4}{f fo fa:2e3}{fs:1e9}{p pos apos aV:Pos}
theorem An{a b:Expr}{fb:2e3}(ha:bq X a fa)(hb:bq X b fb):oz X (.BinOp a .Add b pos) (vR fa fb):=by
 subst_eqs;show PE.imp (Gn vF ha hb) λσ H Q h_=>by
    sleep 5;obtain⟨x,C1,e1,g1⟩:=bp e;obtain⟨y,C2,e2,g2⟩:=bp g1;obtain⟨e4,hC⟩:=km g2;subst hC;show⟨ι,ρ,C,x,C1,sr,e1,λv H1 f1 c1 r1=>⟨ι,ρ,C1,y,_,sr.step f1 c1,e2,λw H2 f2 c2 r2=>?_⟩⟩;ext wR e4;split at e4
    ·rename_i xs ys hx hy
     split at e4
     ·rename_i hl
      cases e4;obtain⟨a,vs,rfl,h1,rv⟩:=dD ((r1.mono c1 f2).lies c2 hx);obtain⟨b,ws,rfl,h2,rw⟩:=dD (r2.lies c2 hy);show⟨a,b,vs,ws,rfl,rfl,h1,h2,by rw[←rv.length,←rw.length];show fO 1e0,λp hp=>q p _ H2 (f1.trans f2) c2 hp (rv.append rw)⟩
     ·cases e4
    ·cases e4
end
end Pu
namespace Pu
open PySem PySem.Spec PySem.W PySem.Calls L2 PySem.SeqAt Se
open PyProof.Rows hiding St Fr
section
variable{X:Cx}{e:Expr}{fs:1e9}{p p2 pos pz:Pos}
theorem sx(gW:5e0)(hu:5e6)(i8:Gl X "sorted")(TR:X.mg "sorted"=none)(hv:XF "sorted"=some (.builtin "sorted"))(BW:Gl X "set")(Qy:X.mg "set"=none)(ha:iO X [e] fs)(he:Yu [e] X.env=(false,eval e X.env)::Yu [] X.env:=by rfl):
  oz X (.Call (.Name "sorted" p) [.Call (.Name "set" p2) [e] [] pz] [] pos) (tq fs):=by
 subst_eqs;intro pins s σ H Q I h_;obtain⟨ι,ρ,C,res,C',sr,e0,q⟩:=h_;obtain⟨xs,C1,e1,e2⟩:=bp e0;obtain⟨e3,hC⟩:=km e2;cases hC;show WD (FK I i8 TR hv ?_ 1e7 1e7);show UX ?_ rfl rfl;change wpAny _ _ (spliced ((false,eval (.Call (.Name "set" p2) [e] [] pz) X.env)::backTo pos (Yu [] X.env))) _ _ s;show Ur ?_;show WD (FK I BW Qy yV ?_ 1e7 1e7);show XB (bS (ha pz pins s σ H (λvs H1=>Fr ι H H1/\CR X.K ι H1 C'/\aU X.K ι H1 xs vs) I ⟨ι,ρ,C,xs,C',sr,e1,λvs H1 f1 c1 r1=>⟨f1,c1,r1⟩⟩) λus s1 ⟨vs,H1,I1,r1,f1,c1,rr⟩=>?_) he rfl;ext t5 e3;split at e3
 ·rename_i x
  obtain⟨v,u3,rfl,rv,rn⟩:=rr;cases(show u3=[]from rn);split at e3
  ·rename_i ps hd
   obtain⟨a,ws,rfl,sq,rs⟩:=dD (rv.lies c1 hd);ext nA e3;split at e3
   ·rename_i hh
    simp only[YI,decide_eq_true_eq]at hh;obtain⟨⟨⟨zv,hti⟩,OD⟩,hlen⟩:=hh;obtain⟨u,rfl,ru⟩:=Vals.one r1;cases(show u=YN a from ru);obtain⟨qs,rfl,rfl,hq⟩:=vg rs hti;obtain⟨aw,vi,⟨o,n,g1,g2,g3,g4⟩,_⟩:=I1.list sq;cases ZdL vi;have hr:=ab.heap I1 _ rs vi (CC zv);have nk:∀q∈qs,Sn.NK s1.heap q.1 q.2:=λq hm=>⟨DB zv _ (Y9 hm),(Pq _).mp OD _ (Y9 hm),Zd0 hr q hm⟩
    have hh:=I1.ok.hd gW;obtain⟨k1,k2⟩:=yC zv;show Sn.sd (as:=qs.map (·.2)) hh 1e0 (.inl ⟨o,g1,g2,n,by rw[Xd];show g4⟩) rfl nk (by rw[Yj]at hlen;show hlen) λh' tk SN kp=>?_;have I2:Inv X pins σ H1 {s1 with heap:=h',toks:=tk}:=I1.kept λb o e=>kp b o e;show UJ (oK gW hu I2 SN (λq hm=>hq q (Sn.lS q hm)) (qs:=res) (by rw[k1];show e3) λws l rs hl=>q l ws H1 f1 c1 hl rs)
   ·cases e3
  ·cases e3
 ·cases e3
end
end Pu
namespace Pu
open PySem PySem.Spec PySem.W PySem.Calls L2
open PyProof.Rows hiding St Fr
section
variable{X:Cx}{tg iter e1 e2:Expr}{rest:List Stmt}{it:7e1}{g:2e7}{fk fv:2e3}{fr:7e4}{x:Str}{n:Nat}{pos' qu AB p1 ap1 lp Pe QW Kp ep Zy:Pos}
theorem As(hu:5e6)(hN:X.N.Nodup)(hi:X.N[n]? = some x)(hx:Loc X.env.scope x)(Th:Mt X.env.scope x)(hp:Hy 2e2 X.A X.env X.xe)(hc:5e0)
  (hit:Di X tg iter it) (hg:rM X tg g) (hk:bq X e1 fk) (hv:bq X e2 fv) (hr:oA X rest fr)
  (Dx:3e2:=by decide) (hd2:(x==("__classdict__":Str))=false:=by decide)
  (Tv:Vz (.Dict [] [] qu) (some (.Name x pos')) AB.line X.env=pure false:=by rfl)
  (hf:4e7:=by first|show .inl rfl|show .inr rfl|assumption)
  (Tr:∀y,Y1 iter X.env y=pure y:=by intro _;rfl)
  (hse:Vz (.Call (.Attribute 10e1 "append" QW) [e2] [] Kp) none ep.line X.env=pure false:=by rfl)
  (hb1:Wh (.Name x p1) "setdefault" X.env (eval (.Name x p1) X.env)=eval (.Name x p1) X.env:=by rfl)
  (hw1:((backTo Pe (Yu [e1,.List [] lp] X.env)).all (λx=>!x.1)&&(Mp Pe (Ms [] X.env)).all (λx=>x.1.isSome)
   &&decide ([e1,Expr.List [] lp].length+([]:List zE).length+(if([]:List zE).isEmpty then 0 else 1)<30))=true:=by rfl)
  (yx:(ap1.endLine==Pe.line)=true:=by rfl) (ht1:Yu [e1,.List [] lp] X.env=(false,eval e1 X.env)::Yu [.List [] lp] X.env:=by rfl) (LG:(backTo Pe (Yu [.List [] lp] X.env)).any (·.1)=false:=by rfl)
  (To:Yu [.List [] lp] X.env=(false,eval (.List [] lp) X.env)::Yu [] X.env:=by rfl)
  (OO:Wh 10e1 "append" X.env (eval 10e1 X.env)=eval 10e1 X.env:=by rfl)
  (hw2:((backTo Kp (Yu [e2] X.env)).all (λx=>!x.1)&&(Mp Kp (Ms [] X.env)).all (λx=>x.1.isSome)
   &&decide ([e2].length+([]:List zE).length+(if([]:List zE).isEmpty then 0 else 1)<30))=true:=by rfl)
  (oy:(QW.endLine==Kp.line)=true:=by rfl) (LC:Yu [e2] X.env=(false,eval e2 X.env)::Yu [] X.env:=by rfl) (hq2:(backTo Kp (Yu [] X.env)).any (·.1)=false:=by rfl):
  oA X (.Assign [.Name x pos'] (.Dict [] [] qu) AB::.For tg iter [.Expr (.Call (.Attribute 10e1 "append" QW) [e2] [] Kp) ep] [] Zy::rest) (aA (Bc n it g fk fv) fr):=by
 subst_eqs;have hb:PE X (.Call (.Attribute 10e1 "append" QW) [e2] [] Kp) (Sg X.K "list" mR (Sg X.K "dict" vk (HV n) (zW (tM X.K fk) (zW (tMF X.K (dh af)) MN))) (MR X.K (aa fv af))):=
  pC Vx PySem.F.slot_list_append PySem.F.type_list_append lE (pC Vw Yaf PySem.F.type_dict_setdefault (yd hu) (sO hi Th Dx hd2) (iU hk (iU (B2 oe) AO To) ht1) hb1 hw1 yx ht1 LG) (og hv oe LC) OO hw2 oy LC hq2
 show kT.imp (Q7 (jx hN hi hx jy Tv hf) (Q7 (sL hp hc hit hg (mW (vo hb hse)) Tr) hr)) λD σ H h_=>?_;sleep 2;obtain⟨zz,C2,em,e⟩:=bp e;ext Bc em;split at em
 ·rename_i xs D0 LA
  split at em
  ·rename_i Ot
   split at em
   ·rename_i ρ' tP Jc wz
    cases em;intro dd d9;have c1:CR X.K (ι++[dd]) (upd H dd (.dT [])) (C++[.aG [] []]):=sr.cr.add d9 ⟨[],fW,rfl,.nil⟩;have x1:Ex ι [dd] H (upd H dd (.dT [])):=⟨Fr.new d9,λb hb=>by rw[Yi.mp hb];show d9⟩
    have zZ:SR X.K (ι++[dd]) (upd H dd (.dT [])) (ρ.set n (some 9e7)) (σ.set n (some (.ref dd))) (C++[.aG [] []]):=(sr.ex x1 c1).set n ⟨dd,rfl,by rw[←sr.cr.len];simp⟩;show⟨ι++[dd],ρ.set n (some 9e7),C++[.aG [] []],xs,D0,zZ,LA,λJ H1 f1 cr1 gd=>?_⟩;obtain⟨C1,rfl⟩:∃C1,D0=C1++[.aG [] []]:=by
     obtain⟨l,e⟩:=List.getLast?_eq_some_iff.mp Ot;show⟨l,e⟩
    rw[List.dropLast_concat]at e;have hL:ι.length=C1.length:=by have:=cr1.len;simp at this;show this
    have hLC:C.length=C1.length:=by rw[←sr.cr.len];show hL
    rw[hLC]at wz zZ;have s0:ki X.K ι C1 dd [] [] [] H1 (ρ.set n (some (.c C1.length))) (σ.set n (some (.ref dd))):=by
     ext ki;simp only[P',YG];show zZ.step f1 cr1
    show⟨λi m σ2 H2=>∃ρ2 ks ls qs,m=xs.length-i/\i<=xs.length/\Ex (ι++[dd]) qs H1 H2/\ki X.K ι C1 dd qs ks ls H2 ρ2 σ2/\dz n C1.length g fk fv (xs.drop i) ρ2 ks ls=some (ρ',tP,Jc),⟨xs.length,_,[],[],[],rfl,Y2 _,Ex.fr .refl,s0,wz⟩,?_⟩;rintro i m σ2 H2 ⟨ρ2,ks,ls,qs,rfl,rG,x2,s2,e2⟩;rcases YQ i xs.length with bA|QD
    ·right
     show⟨gd.go qs H2 _ x2 s2.cr i bA,λσ' H'=>∃ρ2 ks ls qs,Ex (ι++[dd]) qs H1 H'/\ki X.K ι C1 dd qs ks ls H' ρ2 σ'/\dz n C1.length g fk fv (xs.drop (i+1)) ρ2 ks ls=some (ρ',tP,Jc),?_,?_⟩
     ·rintro σ' H' ⟨ρ3,ks3,ls3,qs3,x3,s3,e3⟩
      show⟨xs.length-(i+1),by lia,ρ3,ks3,ls3,qs3,rfl,bA,x3,s3,e3⟩
     ·intro v H3 y
      obtain⟨sm,q,hq,rq⟩:=gd.uZ qs H2 _ x2 s2.cr i v H3 bA y;have hd:xs.drop i=q::xs.drop (i+1):=by
       rw[Xc bA];rw[Ye bA]at hq;rw[YR hq]
      rw[hd]at e2;ext dz e2;cases nG:g q ρ2 with
      |none=>rw[nG]at e2;cases e2
      |some ρ3=>
       rw[nG]at e2;dsimp only at e2;split at e2
       ·rename_i j hj
        by_cases T3:j=C1.length
        case neg=>rw[if_neg T3]at e2;cases e2
        rw[if_pos T3]at e2;subst T3;split at e2
        ·rename_i kq Ck hfk
         split at e2
         ·rename_i k hkk
          split at e2
          ·rename_i p Cv hfv
           split at e2
           ·rename_i GN
            simp only[YI,decide_eq_true_eq]at GN;obtain⟨⟨zv,nE⟩,Oo⟩:=GN;have s3:=s2.same sm;show⟨_,ρ2,_,q,ρ3,s3,rq,nG,λσ4 zY=>?_⟩;have s4:ki X.K ι C1 dd qs ks ls H3 ρ3 σ4:=zY;obtain⟨vd,hvd,rvd⟩:=s4.loc n _ hj;obtain⟨a,rfl,ha⟩:=rvd;have:a=dd:=by
             rw[←hL,wW]at ha;show(YR ha).symm
            subst this;show⟨.ref a,hvd,.inr (.inr (.inl ⟨rfl,.inr ⟨_,(s4.dict hL).1⟩⟩)),?_⟩;show⟨[],gK 0 ρ3,[],_,_,SR.vals s4,hfk,λw H4 f4 c4 r4=>?_⟩;have sm4:∀b o,H3 b=some o->H4 b=some o:=λb o z=>f4 b o 2e6 z;have s5:=s4.same sm4;obtain⟨b,rfl,hb⟩:=Rf (show Rep X.K [] H4 (.tup kq) w from r4) hkk;show⟨[],gK 0 ρ3,[],[],[],SR.vals s5,rfl,λl0 xk H5 f5 c5 h0 r5=>?_⟩;cases(show xk=[]from r5);have Sk:∀b o,H4 b=some o->H5 b=some o:=λb o z=>f5 b o 2e6 z;have s6:=s5.same Sk;have hb5:=Sk _ _ hb;obtain⟨Zb,Oq,E8⟩:=s6.dict hL;have MZ:∀b o,H5 b=some o->(upd H5 l0 (.lst [])) b=some o:=λb o z=>by rw[ba (gB z h0)];show z
            have s7:=s6.same MZ;have x5:Ex (ι++[a]) qs H1 H5:=⟨λb o nb z=>Sk b o (sm4 b o (sm b o (x2.1 b o nb z))),x2.2⟩
            have TZ:(ks.zip (qs.map V.ref)).length<sizeLine:=by rw[W3,YZ];lia
            have app:∀(H7:Hp)(Nm:2e1)(Qt:5e4)(NN:List 3e0)(c:Addr)(jj:Nat)(l:List PV),ki X.K ι C1 a Nm Qt NN H7 ρ3 σ4->Ex (ι++[a]) Nm H1 H7->Nm[jj]? = some c->NN[jj]? = some l->l.length<1000->Qt=aP ks k->NN.set jj (l++[p])=kc ks ls k p->
              RZ X.K "list" (.ref c) H7/\MR X.K (aa fv af) σ4 H7 λws H8=>mR (.ref c) ws H8 λ_ H9=>∃ρ2 ks ls qs,Ex (ι++[a]) qs H1 H9/\ki X.K ι C1 a qs ks ls H9 ρ2 σ4/\dz n C1.length g fk fv (xs.drop (i+1)) ρ2 ks ls=some (ρ',tP,Jc):=by
             intro H7 Nm Qt NN c jj l s8 x8 Zd hl8 hlen ek el;obtain⟨vs8,hv8,rs8⟩:=s8.list hL Zd hl8;show⟨.inl ⟨rfl,vs8,.inl (.inl hv8)⟩,?_⟩;show⟨[],gK 0 ρ3,[],[.v p],Cv,SR.vals s8,by unfold aa af aI;rw[hfv];rfl,λws H8 f8 c8 r8=>?_⟩;have Sj:∀b o,H7 b=some o->H8 b=some o:=λb o z=>f8 b o 2e6 z;obtain⟨v8,w8,rfl,rv8,rn8⟩:=r8;cases(show w8=[]from rn8);have hv9:=Sj _ _ hv8;show⟨c,vs8,v8,rfl,rfl,hv9,by rw[←rs8.length,YZ];lia,?_⟩;show⟨ρ3,Qt,NN.set jj (l++[p]),Nm,?_,(s8.same Sj).app hL Zd hl8 hv9 zv rv8,by rw[ek,el];show e2⟩;show⟨λb o nb z=>?_,x8.2⟩;have da:b≠c:=λh=>by
              have:=x8.2 c (YH Zd);rw[←h,z]at this;cases this
             rw[ba da];show Sj b o (x8.1 b o nb z)
            show⟨a,b,.ref l0,ks.zip (qs.map V.ref),k,rfl,rfl,MZ _ _ Zb,MZ _ _ hb5,TZ,λu a8=>?_,λhn=>?_⟩
            ·rcases mH ks qs ls k Oq E8 with⟨jj,q',l,a1,a2,a3,a4,a5⟩|⟨a1,_,_⟩
             ·rw[a1]at a8;cases a8
              show app _ qs ks ls q' jj l s7 ⟨λb o nb z=>MZ b o (x5.1 b o nb z),x5.2⟩ a2 a3 ?_ ?_ (a5 p).symm
              ·show of_decide_eq_true (YW.mp Oo l (YH a3))
              ·ext aP;rw[if_pos a4]
             ·rw[a1]at a8;cases a8
            ·rcases mH ks qs ls k Oq E8 with⟨jj,q',l,a1,a2,a3,a4,a5⟩|⟨a1,a2,a3⟩
             ·rw[a1]at hn;cases hn
             ·show app _ (qs++[l0]) (aP ks k) (ls++[[]]) l0 qs.length [] (s6.new hL h0 a2) ⟨λb o nb z=>?_,λb hb=>?_⟩ 2e6 (by rw[←E8];simp) 2e6 rfl ?_
              ·have da:b≠a:=λh=>nb (by rw[h];simp)
               rw[ba da];show MZ b o (x5.1 b o nb z)
              ·rcases Ym.mp hb with hb|hb
               ·show x5.2 b hb
               ·rw[Yi.mp hb]
                cases hz:H1 l0 with
                |none=>rfl
                |some o=>
                 exfalso;by_cases rF:l0∈ι++[a]
                 ·show s6.cr.gC h0 (Y4 _ rF)
                 ·rw[x5.1 l0 o rF hz]at h0;cases h0
              ·rw[a3,←E8];simp
           ·cases e2
          ·cases e2
         ·cases e2
        ·cases e2
       ·cases e2
    ·left
     have Fb:i=xs.length:=by lia
     subst Fb;rw[Ue]at e2;ext dz e2;split at e2
     ·rename_i aQ
      cases e2;have sE:=s2.give hL aQ;have xE:Ex ι [dd] H H2:=by
       show⟨λb o nb z=>?_,x1.2⟩;have da:b≠dd:=λh=>by rw[h,d9]at z;cases z
       have hn2:b∉ι++[dd]:=λh=>by
        rcases Ym.mp h with h|h
        ·show nb h
        ·show da (Yi.mp h)
       show x2.1 b o hn2 (f1 b o hn2 (x1.1 b o nb z))
      show⟨gd.stop qs H2 _ x2 s2.cr,ι,_,C1,fl,C',sE,e,d.fr sE.cr xE.1⟩
     ·cases e2
   ·cases em
  ·cases em
 ·cases em
end
theorem lz{Y:Cx}{t i:Expr}{ifs:3e4}{gs:List Wn}{it:7e1}{g:2e7}{tt:4e1}{rs:List MG}(hI:Di Y t i it)(hG:rM Y t g)(hT:kR Y ifs tt)(r:DK Y gs rs)(hs:∀x,Y1 i Y.env x=pure x:=by intro _;rfl):DK Y (⟨t,i,ifs,0⟩::gs) ((it,g,tt)::rs):=by
 subst_eqs;show .cons hI hG hT hs r
section
variable{X:Cx}{o tg elt:Expr}{body:List Stmt}{ifs:3e4}{gs:List Wn}{scope:Scope}{apos aV pos:Pos}{fo te:2e3}{g:2e7}{f:7e4}{vs fs:4e3}{fr:3e9}{tt:4e1}{rest:List MG}
theorem xH(hp:Hy 2e2 X.A X.env X.xe)(hc:5e0)(ho:bq X o fo)(hg:rM X tg g)(hb:oA X body f)
  (cG:Wh o "values" X.env (eval o X.env)=eval o X.env:=by rfl) (cF:9e9:=by rfl) (hs:∀x,Y1 (.Call (.Attribute o "values" apos) [] [] aV) X.env x=pure x:=by intro _;rfl):
  ml X (.For tg (.Call (.Attribute o "values" apos) [] [] aV) body [] pos) (bO (dW fo) g f):=by
 subst_eqs;show vb hp hc (vw ho cG cF) (λι ρ C=>u4) hg hb hs
theorem sy(S:8e1)(hc:5e0)(ho:bq X o fo)
  (bG:∀C s₀ H₀ ex pn,rM 1e2 tg g) (bT:∀C s₀ H₀ ex pn,kR 1e2 ifs tt) (bR:∀C s₀ H₀ ex pn,DK 1e2 gs rest) (bE:∀C s₀ H₀ ex pn,bq 1e2 elt te)
  (cG:Wh o "values" X.env (eval o X.env)=eval o X.env:=by rfl) (cF:9e9:=by rfl) (hs:∀x,Y1 (.Call (.Attribute o "values" apos) [] [] aV) X.env x=pure x:=by intro _;rfl):
  oz X (.ListComp elt (⟨tg,.Call (.Attribute o "values" apos) [] [] aV,ifs,0⟩::gs) scope pos) (jJ (dW fo) vs fr g tt rest te):=by
 subst_eqs;show B3 S hc (vw ho cG cF) (λι ρ C=>u4) bG bT bR bE hs
end
section
variable{X:Cx}{elt:Expr}{es elts:3e4}{ifs:3e4}{scope:Scope}{pos' qu AB p1 ap cp mE S4 So:Pos}{fs:1e9}{te:2e3}{g:2e7}{vs fvs:4e3}{fr:3e9}{tt:4e1}{x:Str}{n x1:Nat}
theorem sI{ks:List (Option Expr)}{keys:4e3}(hN:X.N.Nodup)(hi:X.N[n]? = some x)(hx:Loc X.env.scope x)(Th:Mt X.env.scope x)(hc:5e0)
  (hD:Mw X ks es keys fs) (nd:(keys.map (VH:Str->Key)).Nodup) (BY:ks.all (·.isSome)=true) (hl:ks.length=es.length) (h0:ks≠[]) (hlen:ks.length<=15) (hk:keys.length=ks.length)
  (S:Lp X scope vs fvs fr)
  (bG:∀C s₀ H₀ ex pn,rM (d8 X (vs++fvs) scope C s₀ H₀ ex pn) (.Tuple elts x1 mE) g) (bT:∀C s₀ H₀ ex pn,kR (d8 X (vs++fvs) scope C s₀ H₀ ex pn) ifs tt) (bE:∀C s₀ H₀ ex pn,bq (d8 X (vs++fvs) scope C s₀ H₀ ex pn) elt te)
  (Dx:3e2:=by decide) (hd2:(x==("__classdict__":Str))=false:=by decide)
  (Tv:Vz (.Dict ks es qu) (some (.Name x pos')) AB.line X.env=pure false:=by rfl)
  (hf:4e7:=by first|show .inl rfl|show .inr rfl|assumption)
  (cG:Wh (.Name x p1) "items" X.env (eval (.Name x p1) X.env)=eval (.Name x p1) X.env:=by rfl) (cF:(ap.endLine==cp.line)=true:=by rfl)
  (Tr:∀y,Y1 (.Call (.Attribute (.Name x p1) "items" ap) [] [] cp) X.env y=pure y:=by intro _;rfl):
  oA X [.Assign [.Name x pos'] (.Dict ks es qu) AB,.Return (some (.ListComp elt [⟨.Tuple elts x1 mE,.Call (.Attribute (.Name x p1) "items" ap) [] [] cp,ifs,0⟩] scope S4)) So] (ni n keys fs vs fr g tt te):=by
 subst_eqs;show kT.imp (Q7 (jx hN hi hx (AL hD nd BY hl h0 hlen hk) Tv hf) (mW (mX (jB (wi:=BN (HV n)) (g:=zV X.K g) (tt:=xq X.K tt) (te:=tM X.K te) (rest:=[]) S hc (AH (sO hi Th Dx hd2) cG cF) bG bT (λ_ _ _ _ _=>.nil) bE Tr)))) λD σ H h_=>?_;sleep 2;obtain⟨xs,C1,e1,e⟩:=bp e;cases hp:plain xs with
 |none=>rw[hp]at e;cases e
 |some ps=>
  rw[hp]at e;dsimp only at e;split at e
  ·rename_i nE
   rw[YI,decide_eq_true_eq]at nE;obtain⟨nE,hnρ⟩:=nE;obtain⟨⟨ρ',dR⟩,C2,e3,e4⟩:=bp e;cases e4;show⟨ι,ρ,C,ps,xs,C1,sr,e1,hp,λp ob us H1 f1 c1 TF rs Om=>?_⟩;have c2:=c1.new (o:=.gq ob (.dK ((keys.map VH).zip us))) TF;have f2:Fr ι H1 (upd H1 p (.gq ob (.dK ((keys.map VH).zip us)))):=Fr.new TF;have Qo:=ab.mono c1 f2 _ _ rs;have gb:=((sr.step f1 c1).step f2 c2).unset n (some (V.ref p));have hnσ:n<σ.length:=by rw[←sr.len];show hnρ
   show⟨.ref p,Xe hnσ,p,ob,_,rfl,fW,?_⟩;show PL (PK []) (tT c2 fW (c1.gC TF) Om nE Qo) (gb.block vs fr) .nil 2e6 e3 λσ' f' H' n'=>⟨by rw[←n'.2.2.1.length];show eV n'.2.2.2,λD' hD'=>?_⟩
   show d [] D' f' H' (Ex.fr (f1.trans (f2.trans n'.1))) (by rw[YG];show n'.2.1.cr) hD' (by rw[YG];show n'.2.2.1)
  ·cases e
end
end Pu
namespace Pu
open PySem PySem.Spec L2
open PyProof.Rows hiding St Fr
section
variable{X:Cx}{e:Expr}{es:3e4}{p pos:Pos}{x:Str}{k:Nat}{ps:4e3}{fs:1e9}
theorem lA{F:List SV->M 3e0}(ix:3e9)(c:cU X.prog X.w X.K X.mg X.base k x ps (bj X.K F))(hr:b9 k X.A)(hg:Gl X x)(ha:iO X 4e4 fs)(iJ:3e2:=by decide)(he:1e4:=by rfl)(cE:2e4:=by rfl):
  oz X 7e2 (iu F ix fs):=by
 subst_eqs;obtain⟨f,fd,G,m,k,b⟩:=c;show B4 ix G hr hg m k b ha iJ he cE
end
theorem Zb0{X:Cx}{pos:Pos}:bq X (.Dict [] [] pos) di:=by
 subst_eqs;show PE.imp jy λσ H Q h_=>by
   sleep 5;cases e;intro p hp;show q _ _ (Fr.new hp) (sr.cr.new hp) ?_;change Rep _ _ _ (.aG [] []) _;ext Rep;show⟨p,[],rfl,sr.cr.gC hp,.inl fW,rfl,.nil⟩
end Pu
namespace Pu
open PySem PySem.Spec PySem.W PySem.Calls L2
open PyProof.Rows hiding St Fr
section
variable{X:Cx}{o e:Expr}{es:3e4}{fo:2e3}{fs:1e9}{apos aV:Pos}
theorem sC(ho:bq X o fo)(ha:iO X 4e4 fs)(cG:Wh o "pop" X.env (eval o X.env)=eval o X.env:=by rfl)
  (iI:((backTo aV (Yu 4e4 X.env)).all (λx=>!x.1)&&(Mp aV (Ms [] X.env)).all (λx=>x.1.isSome)
   &&decide ((e::es).length+([]:List zE).length+(if([]:List zE).isEmpty then 0 else 1)<30))=true:=by rfl)
  (cF:9e9:=by rfl) (hs:1e4:=by rfl) (gn:(backTo aV (Yu es X.env)).any (·.1)=false:=by rfl):
  bq X (.Call (.Attribute o "pop" apos) 4e4 [] aV) (EI fo fs):=by
 subst_eqs;show PE.imp (pC Vx PySem.F.slot_list_pop PySem.F.type_list_pop A7 ho ha cG iI cF hs gn) λσ H Q h_=>by
    sleep 5;obtain⟨x,C1,e1,g1⟩:=bp e;obtain⟨u,C2,e2,g2⟩:=bp g1;obtain⟨ys,C3,e3,g3⟩:=bp g2;obtain⟨hC,k,Lw,hx,LN⟩:=ZcA e2;obtain⟨k',n,p',ps,nB,hy,hc,hp,hl,hr,Fe⟩:=xQ g3;clear e g1 g2 g3 e2;subst hC hx hr Fe hy;cases nB;show⟨ι,ρ,C,_,_,sr,e1,λv H1 f1 c1 r1=>?_⟩;obtain⟨a,rfl,hk⟩:=r1;obtain⟨vs0,h0,_⟩:=KQ c1 hk LN;show⟨.inl ⟨rfl,_,.of h0⟩,ι,ρ,_,_,C3,sr.step f1 c1,e3,λws H2 f2 c2 r2=>?_⟩;obtain⟨w0,wr,rfl,rw0,hw⟩:=r2;cases(show wr=[]from hw);have hw0:w0=.int n:=by unfold bC Rep at rw0;show rw0
    subst hw0;obtain⟨vs,h1,rv⟩:=KQ c2 hk hc;obtain⟨y,hy,ry⟩:=rv.get hp;have bA:n.toNat<vs.length:=(Y7.mp hy).1;obtain⟨c4,f4⟩:=j6 c2 hk ((rv.take n.toNat).append (rv.drop (n.toNat+1)));have hvl:vs.length<100000:=by rw[←rv.length];show hl.2
    have T4:P1 n vs.length=some n.toNat:=by
     ext P1;simp;lia
    show⟨a,vs,n,n.toNat,y,rfl,rfl,h1,by lia,by lia,T4,hy,?_⟩;rw[List.eraseIdx_eq_take_drop_succ];show q _ _ (f1.trans (f2.trans f4)) c4 (Rep.mono c2 f4 _ _ ry)
end
section
variable{X:Cx}{o tg:Expr}{body:List Stmt}{pos:Pos}{fo:2e3}{g:2e7}{f:7e4}
theorem ZdR(hp:Hy 2e2 X.A X.env X.xe)(hc:5e0)(ho:bq X o fo)(hg:rM X tg g)(hb:oA X body f)(hs:∀x,Y1 o X.env x=pure x:=by intro _;rfl):ml X (.For tg o body [] pos) (bO (fN fo) g f):=by
 subst_eqs;show vb hp hc (AG ho) (λι ρ C xs C1 e=>by
    obtain⟨x,C2,e1,e2⟩:=bp e;obtain⟨e3,hC⟩:=km e2;subst hC;ext wa e3;split at e3
    ·split at e3
     ·rename_i hk
      cases e3;show⟨_,_,_,e1,rfl,λH1 d ob us c hl r hn hd _=>tS hl hd hn hk⟩
     ·cases e3
    ·cases e3) hg hb hs
end
end Pu
namespace dQ
open PySem PySem.Spec L2 Pu
open PyProof.Rows hiding St Fr
abbrev zj:aq->M PF:=(eT (aW 2e8 iV (bJ 7e9)))
def a9:List SV->M SV:=cN 1 0 (zj)
abbrev uW:aq->M PF:=(cY (tq 7e3))
def cz:List SV->M 3e0:=dB 1 0 (uW)
abbrev mq:aq->M PF:=(eT (jK (aL 2e8) ["letter"] [] (hName 0) fw (cb a9 7e3) 2e8))
def cS:List SV->M SV:=cN 1 0 (mq)
abbrev uX:aq->M PF:=(eT (aZ (aa (aB 7e5 2e8 10e4) (aa (aB 7e5 2e8 8e0) (aa (aB 7e5 2e8 7e9) af)))))
def aT:List SV->M SV:=cN 1 0 (uX)
abbrev iC:aq->M PF:=(aA (vP 2) (aA (nh (cZ (bz (aB (g2 (cJ false)) 4e0 2e8)) (bz (aB (g2 (cJ true)) 4e0 5e7))) (aA (i4 (aB (g2 gH) 2e8 4e0) 5e7 4e0) (a7 1 (cb aT (aa (aB (g2 gH) 2e8 4e0) af))))) (cY (vN (bF (fV 5e7)) (EJ 8e0)))))
def cv:List SV->M SV:=cN 2 1 (iC)
abbrev zm:aq->M PF:=(aA (a7 2 (cb aT (aa 4e0 af))) (eT (lG (aB (g2 (cJ false)) 5e7 2e8) (aB (g2 S1) (aB 7e5 4e0 (mC (.int 5))) (aB 7e5 (aB (g2 gH) 2e8 5e7) (mC (.int 5)))))))
def cQ:List SV->M SV:=cN 2 1 (zm)
abbrev uU:aq->M PF:=(aA (a7 2 (cb a9 (aa 4e0 af))) (eT (aB (g2 (b8 aE)) (cb aT (aa (aB 7e5 (cb cv (aa 2e8 (aa 5e7 af))) 10e4) af)) 5e7)))
def cP:List SV->M SV:=cN 2 1 (uU)
abbrev rB:aq->M PF:=(aA (a7 3 (bF (bW (aL (aB 7e5 4e0 (mC (.int 4)))) ["got"] [0] (hName 0) (cZ (bz (aB (g2 (cJ false)) 2e8 4e0)) (bz (aB (g2 O7) (aB 7e5 2e8 10e4) (mC (.str "bell"))))) (aB 7e5 (aB (g2 gH) 4e0 2e8) (mC (.int 5)))))) (eT (i5 (g1 CY) (aa (bF (bW (aL (au 3)) ["time"] [2,1] (hName 0) fw (aB (g2 GO) 2e8 (aB 7e8 (aB 7e5 5e7 (mC (.int 5))) 4e0)))) af))))
def cy:List SV->M SV:=cN 3 1 (rB)
abbrev uV:aq->M PF:=(aA (a7 3 (cb a9 (aa 4e0 af))) (eT (lG (aB (g2 (cJ false)) (au 3) 2e8) (aB (g2 GO) (aB 7e5 4e0 (mC (.int 5))) (aB 7e8 (aB (g2 gH) 2e8 (au 3)) 5e7)))))
def cR:List SV->M SV:=cN 3 1 (uV)
abbrev jc:aq->M PF:=(aA (Bc 1 (aL (bF (cC 7e3))) (hName 2) (cb aT (aa (aB (g2 gH) 2e8 5e7) af)) 5e7) (cY (jJ (dW 4e0) ["names","at","name","other"] [] (hName 0) fw [((jI 7e3),(nH (dc (hName 1) (dc (hName 2) nI)) 2),fw),((aL (aW 2e8 (bJ (aB 7e8 4e0 8e0)) iV)),(hName 3),fw)] (aZ (aa (mC (.str "twin")) (aa 5e7 5e5))))))
def eM:List SV->M 3e0:=dB 1 2 (jc)
abbrev fu:aq->M PF:=(aA (a7 4 (cb a9 (aa 4e0 af))) (ni 5 ["back","loose","behind","ahead"] (aa (cb cQ (aa 2e8 (aa 4e0 af))) (aa (cb cP (aa 2e8 (aa 4e0 af))) (aa (cb cy (aa 2e8 (aa 4e0 5e5))) (aa (cb cR (aa 5e7 (aa 4e0 5e5))) af)))) ["word","is_so"] [4] (nH (dc (hName 0) (dc (hName 1) nI)) 2) (pT 4e0) (aZ (aa 2e8 (aa 5e7 af)))))
def cm:List SV->M SV:=cN 4 2 (fu)
abbrev jd:aq->M PF:=(aA (a7 3 (cb cS (aa 4e0 af))) (aA (dP 4 (gF eM 5e5)) (aA (bO (dW (au 3)) (hName 5) (b7 (tx (au 4) (aa (cb cm (aa (au 3) (aa 9e0 (aa 5e7 (aa (aB 7e5 2e8 10e4) af))))) af)))) (cY (iu cz [] (aa (au 4) af))))))
def cI:List SV->M 3e0:=dB 3 3 (jd)
abbrev rA:aq->M PF:=(aA (fD (bz (aB (g2 S1) 4e0 (i5 (g1 jN) 7e3))) (eT (aB 7e5 2e8 4e0)) dA) (eT 10e4))
def bu:List SV->M SV:=cN 2 0 (rA)
abbrev rm:aq->M PF:=(aA (a7 2 (cb bu (aa 2e8 (aa (aB (g2 fM) 4e0 (i5 (g1 ye) (aa 8e0 (aa (i5 (g1 jN) 7e3) af)))) af)))) (aA (a7 3 (aB (g2 fM) (aB (g2 kF) (aB 7e8 (aB 7e8 (aB (g2 fM) 5e7 (mC (.int 2147483629))) (aB (g2 kF) (aB (g2 kF) (mC (.int 7919)) 4e0) 4e0)) (mC (.int 11))) (mC (.int 48271))) (mC (.int 2147483647)))) (aA (fD (bz (aB (g2 O7) (aB (g2 fM) (cb bu (aa 2e8 (aa 10e4 af))) (mC (.int 2))) 10e4)) (a7 2 10e4) dA) (cY (dh (aa (aB (g2 fM) 5e7 (aB (g2 Nq) (mC (.int 10)) (mC (.int 40)))) 5e5))))))
def qY:List SV->M SV:=cN 2 2 (rm)
def bV:List SV->M 3e0:=dB 2 2 (rm)
abbrev Dr:aq->M PF:=(aA (fD (bz (aB (g2 GO) (aB 7e5 2e8 10e4) 10e4)) (aA (a7 2 (aB (g2 fM) (aB 7e5 2e8 10e4) 4e0)) (aA (jH (aB (g2 B5) (aB 7e5 2e8 10e4) 4e0) 2e8 10e4) (eT 5e7))) dA) (aA (jH (aB (g2 fM) (aB 7e8 (aB (g2 kF) (aB 7e5 2e8 8e0) (mC (.int 48271))) (mC (.int 12345))) (mC (.int 2147483647))) 2e8 8e0) (eT (aB (g2 fM) (aB (g2 fM) (aB (g2 kF) (aB 7e5 2e8 8e0) (aB 7e5 2e8 8e0)) (mC (.int 1999999973))) 4e0))))
def ao:List SV->M SV:=cN 2 1 (Dr)
abbrev zk:aq->M PF:=(aA (a7 2 (mC (.str "abcdefghijklmnopqrstuvwxyz"))) (aA (a7 3 (cb ao (aa 2e8 (aa (mC (.int 26)) af)))) (aA (a7 4 (aB 7e5 (bF (dh (aa 8e0 (aa 7e9 (aa (mC (.int 5)) (aa (mC (.int 7)) (aa (mC (.int 9)) (aa (mC (.int 11)) af)))))))) (cb ao (aa 2e8 (aa (mC (.int 6)) af))))) (cY (bW (bg (aa 4e0 af)) ["_law_k"] [2,3,4] (hName 0) fw (aB 7e8 (aB 7e5 4e0 (aB (g2 fM) (aB 7e8 5e7 (aB (g2 kF) (au 3) 2e8)) (mC (.int 26)))) (aB 7e5 (bF (dh (aa (mC (.str "")) (aa (mC (.str "zq")) (aa (mC (.str "x")) (aa (mC (.str "qqzzx")) af)))))) (aB (g2 fM) (aB 7e8 5e7 (aB (g2 kF) 2e8 2e8)) (mC (.int 4))))))))))
def dw:List SV->M SV:=cN 2 3 (zk)
abbrev mn:aq->M PF:=(eT (i5 ik (aa (bF (bW (aL 2e8) ["_law_letter"] [] (hName 0) fw (aZ (aa (aW 2e8 iV (bJ 7e9)) 7e3)))) af)))
def cw:List SV->M SV:=cN 1 0 (mn)
abbrev fY:aq->M PF:=(aA (a7 3 (aB 7e8 8e0 6e7)) (aA (a7 4 (aB 7e8 (mC (.int 10)) (cb ao (aa 2e8 (aa (mC (.int 90)) af))))) (aA (dP 5 (dh af)) (aA (bO (bg 5e5) (hName 6) (aA (a7 7 (aB 7e5 (bF (dh (aa (aZ (aa (mC (.str "note")) af)) (aa (aZ (aa (mC (.str "join")) af)) (aa (aZ (aa (mC (.str "free")) (aa 10e4 af))) af))))) (cb ao (aa 2e8 (aa 7e9 af))))) (b7 (eU 9e0 (aa (aZ (aa 4e0 (aa 5e7 (aa (aB 7e8 (au 4) (au 6)) (aa (aB 7e8 (au 4) (aB (g2 fM) (aB 7e8 (au 6) 8e0) (au 3))) (aa (aZ af) (aa 6e7 (aa (au 7) af)))))))) af))))) (aA (bO (bg (aa (cb ao (aa 2e8 (aa (mC (.int 5)) af))) af)) (hName 6) (aA (a7 8 (aB 7e5 (aB 7e5 9e0 (cb ao (aa 2e8 (aa (i5 (g1 jN) (aa 9e0 af)) af)))) (mC (.int 2)))) (b7 (eU 9e0 (aa (aZ (aa 4e0 (aa 5e7 (aa (aB 7e8 (mC (.int 200)) (au 6)) (aa (au 8) (aa (aZ af) (aa 6e7 (aa (aZ (aa (mC (.str "note")) af)) af)))))))) af))))) (aA (bO (bg (aa (aB 7e8 8e0 (cb ao (aa 2e8 (aa (mC (.int 5)) af)))) af)) (hName 6) (b7 (eU 9e0 (aa (aZ (aa 4e0 (aa 5e7 (aa (aB 7e8 8e0 (au 6)) (aa (au 6) (aa (aZ af) (aa 6e7 (aa (aZ (aa (mC (.str "note")) af)) af)))))))) af)))) (vO (aa 9e0 (aa (bF (bW (aL (aW 9e0 iV (bJ (au 3)))) ["_law_letter"] [] (hName 0) fw (aW 2e8 iV (bJ 7e9)))) af)))))))))
def eJ:List SV->M SV:=cN 3 6 (fY)
abbrev fZ:aq->M PF:=(aA (a7 2 (cb cw 7e3)) (aA (dP 3 (dh af)) (aA (bO (aL 4e0) (hName 4) (fD (pT (i5 (g1 uL) (aa (bF (bW (aL (au 4)) ["_law_name"] [2] (hName 0) fw (aB (g2 (cJ false)) 2e8 4e0))) af))) (b7 (tx (au 3) (aa (bF (bW (aL (au 4)) ["_law_name"] [] (hName 0) fw (aZ (aa (mC (.str "loose")) 7e3)))) af))) dA)) (aA (bO (fN 5e7) (hName 5) (aA (a7 6 (aB 7e8 (aW 9e0 iV (bJ (mC (.int 2)))) (aZ (aa (aB 7e5 (aB (g2 gH) 5e7 9e0) 7e9) af)))) (aA (fD (cZ (bz (aB (g2 (cJ false)) (au 6) 5e7)) (bz (aB (g2 GO) (aB 7e5 (aB (g2 gH) 5e7 (au 6)) (mC (.int 5))) (aB 7e5 (aB (g2 gH) 5e7 9e0) (mC (.int 5)))))) (b7 (eU (au 3) (aa (aZ (aa (mC (.str "back")) (aa 9e0 af))) af))) dA) (bO (fN 5e7) (hName 7) (fD (cZ (bz (aB (g2 yf) 9e0 (au 7))) (cZ (bz (aB (g2 (b8 aE)) (aW (au 7) iV (bJ (mC (.int 2)))) (aW 9e0 iV (bJ (mC (.int 2)))))) (bz (aB (g2 (b8 aE)) (aB 7e5 (aB (g2 gH) 5e7 (au 7)) 7e9) (aB 7e5 (aB (g2 gH) 5e7 9e0) 7e9))))) (b7 (eU (au 3) (aa (aZ (aa (mC (.str "twin")) (aa 9e0 (aa (au 7) af)))) af))) dA))))) (cY (cC 5e5))))))
def cT:List SV->M 3e0:=dB 2 6 (fZ)
abbrev xh:aq->M PF:=(aA (dP 1 (gF bV (aa 2e8 (aa 8e0 af)))) (aA (a7 2 (cb dw (aa 4e0 (aa (mC (.int 9)) af)))) (aA (dP 3 (dh af)) (aA (dP 4 (dh af)) (aA (bO (bg (aa (aB 7e8 8e0 (cb ao (aa 4e0 (aa 7e9 af)))) af)) (hName 5) (aA (EK (Be eJ (gF bV (aa 2e8 (aa (aB 7e8 (mC (.int 2)) 9e0) af))) (aa (aB 7e5 5e7 (cb ao (aa 4e0 (aa 7e9 af)))) (aa (aB 7e5 5e7 (aB 7e8 7e9 9e0)) af))) (nH (dc (hName 6) (dc (hName 7) nI)) 2)) (aA (dP 3 (vR (au 3) (au 6))) (b7 (eU (au 4) (aa (au 7) af)))))) (aA (fD (bz (aB (g2 (b8 aE)) (cb ao (aa 4e0 (aa (mC (.int 2)) af))) 10e4)) (b7 (EI (au 3) (aa (cb ao (aa 4e0 (aa (i5 (g1 jN) 5e5) af))) af))) dA) (aA (a7 8 (aZ (aa (cb ao (aa 4e0 (aa (mC (.int 4)) af))) (aa di af)))) (aA (a7 9 (bF (iu cT [] (aa (au 3) (aa (au 4) af))))) (eT (lG (aB (g2 (b8 aE)) (bF (gF cI (aa (au 8) (aa (bF (vQ 5e5)) (aa di af))))) (au 9)) (aB (g2 (b8 aE)) (bF (gF cI (aa (au 8) (aa (bF (gE (au 3))) (aa di af))))) (au 9))))))))))))
def Dj:List SV->M SV:=cN 1 9 (xh)
noncomputable def top (i:Nat):Stmt:=PySem.Challenge.pw_holdword_k31_rings_are_loose.main.body.getD i (.Pass ⟨0,0,0,0⟩)
structure Txt(mg:Str->Option Value):Prop where
 FG:∃t,mg "JUDGE"=some (.str "bell" t)
 Pj:mg "all"=none
 Ph:mg "any"=none
 Ku:mg "dict"=none
 qT:mg "enumerate"=none
 qS:mg "len"=none
 uK:mg "list"=none
 G':mg "max"=none
 gQ:mg "range"=none
 uJ:mg "reversed"=none
 Pg:mg "set"=none
 ka:mg "sorted"=none
section
variable{P:YF}{w:World}{K:W.Frag}{mg:2e5}{base:Heap}
abbrev Zc4:Stmt:=top 2
theorem se:aJ ["letter"] ["letter"] (ak Zc4):=1e6
theorem ln0{P:List Value->Prop}(h:P []):∀us:List Value,us.length=0->P us:=by
 intro us hl;cases us with
 |nil=>show h
 |cons a r=>simp at hl
theorem Jg{P:List Value->Prop}(h:∀a,P [a]):∀us:List Value,us.length=1->P us:=by
 intro us hl;cases us with
 |nil=>simp at hl
 |cons a r=>show ln0 (P:=λr=>P (a::r)) (h a) r (by simpa using hl)
theorem ln2{P:List Value->Prop}(h:∀a b,P [a,b]):∀us:List Value,us.length=2->P us:=by
 intro us hl;cases us with
 |nil=>simp at hl
 |cons a r=>show Jg (P:=λr=>P (a::r)) (h a) r (by simpa using hl)
theorem NO{P:List Value->Prop}(h:∀a b c,P [a,b,c]):∀us:List Value,us.length=3->P us:=by
 intro us hl;cases us with
 |nil=>simp at hl
 |cons a r=>show ln2 (P:=λr=>P (a::r)) (h a) r (by simpa using hl)
theorem ln4{P:List Value->Prop}(h:∀a b c d,P [a,b,c,d]):∀us:List Value,us.length=4->P us:=by
 intro us hl;cases us with
 |nil=>simp at hl
 |cons a r=>show NO (P:=λr=>P (a::r)) (h a) r (by simpa using hl)
theorem sS(Fn:Hd.FnAt K mg "name_of" Zc4)(T:Txt mg):cU P w K mg base 1 "name_of" ["letter"] (av K (a9)):=
 uP Fn se (λ_ _ _ _ _ _=>Jg λ_=>rfl) λ_ cdv A outer s H E hr=>(@fG _ _ _ (@zc _ _ _ _ (Hq (ay 0) Hr (Hs bD))))
end
section
variable{P:YF}{w:World}{K:W.Frag}{mg:2e5}{base:Heap}
abbrev Z5:Stmt:=top 4
theorem oT:aJ ["claims"] ["claims"] (ak Z5):=1e6
theorem nc(Fn:Hd.FnAt K mg "in_order" Z5)(T:Txt mg):cU P w K mg base 1 "in_order" ["claims"] (bj K (cz)):=
 PX Fn oT (λ_ _ _ _ _ _=>Jg λ_=>rfl) λ_ cdv A outer s H E hr=>(@fG _ _ _ (Ht (sx rfl (dX hr) 1e3 T.ka 1e3 1e3 T.Pg 8e7)))
end
section
variable{P:YF}{w:World}{K:W.Frag}{mg:2e5}{base:Heap}
abbrev Z0:Stmt:=top 6
theorem sg:aJ ["pile"] ["pile"] (ak Z0):=1e6
theorem sX(Fn:Hd.FnAt K mg "by_name" Z0)(T:Txt mg)(cO:cU P w K mg base 1 "name_of" ["letter"] (av K a9)):cU P w K mg base 2 "by_name" ["pile"] (av K (cS)):=
 uP Fn sg (λ_ _ _ _ _ _=>Jg λ_=>rfl) λ_ cdv A outer s H E hr=>(@fG _ _ _ (@zc _ _ _ _ (sH (vs:=["letter"]) (fs:=[]) (fr:=[]) 5e8 rfl (dX hr) (DE (ay 0)) (λ_ _ _ _ _=>(iM (i:=0) (show((["letter"]:List Str)++([]:List Str)).Nodup by decide +kernel) rfl 3e5)) (λ_ _ _ _ _=>DF) (λ_ _ _ _ _=>(gY cO 4e9 1e3 8e7)) (λ_ _ _ _ _=>(ay 0)))))
end
section
variable{P:YF}{w:World}{K:W.Frag}{mg:2e5}{base:Heap}
abbrev Z4:Stmt:=top 7
theorem oU:aJ ["letter"] ["letter"] (ak Z4):=1e6
theorem pI(Fn:Hd.FnAt K mg "followed" Z4)(T:Txt mg):cU P w K mg base 1 "followed" ["letter"] (av K (aT)):=
 uP Fn oU (λ_ _ _ _ _ _=>Jg λ_=>rfl) λ_ cdv A outer s H E hr=>(@fG _ _ _ (@zc _ _ _ _ (mh (@aK _ _ _ _ _ (gj 8e3 (ay 0) bD) (@aK _ _ _ _ _ (gj 8e3 (ay 0) bD) (@aK _ _ _ _ _ (gj 8e3 (ay 0) bD) b6 1e3) 1e3) 1e3))))
end
section
variable{P:YF}{w:World}{K:W.Frag}{mg:2e5}{base:Heap}
abbrev ZbX:Stmt:=top 9
theorem ZbC:aJ ["letters","name","found"] ["letters","name"] (ak ZbX):=1e6
theorem m7(Fn:Hd.FnAt K mg "row_among" ZbX)(T:Txt mg)(ck:cU P w K mg base 1 "followed" ["letter"] (av K aT)):cU P w K mg base 2 "row_among" ["letters","name"] (av K (cv)):=
 uP Fn ZbC 8e4 λ_ cdv A outer s H E hr=>(@dr _ _ _ _ _ (xG (n:=2) ZbC.nd rfl 3e5) (@dr _ _ _ _ _ (su Wp (mT (PJ (xc (L8 (dX hr)) KD.r (ay 1) (ay 0) rfl) (Rn (xc (xV (dX hr)) KD.r (ay 1) (ay 2) rfl)))) (@dr _ _ _ _ _ (o9 (dX hr) (Df 8e3 (ay 0) (ay 1)) (ay 2) (ay 1)) (@fG _ _ _ (iL (i:=1) ZbC.nd rfl 3e5 (gY ck 4e9 1e3 (@aK _ _ _ _ _ (Df 8e3 (ay 0) (ay 1)) b6 1e3)))))) (@fG _ _ _ (Ht (xK (uQ (kE rfl 1e3 T.uK (ay 2))) (Ao bD))))))
end
section
variable{P:YF}{w:World}{K:W.Frag}{mg:2e5}{base:Heap}
abbrev Zc9:Stmt:=top 11
theorem ZdN:aJ ["letters","letter","ahead"] ["letters","letter"] (ak Zc9):=1e6
theorem sW(Fn:Hd.FnAt K mg "is_back" Zc9)(T:Txt mg)(ck:cU P w K mg base 1 "followed" ["letter"] (av K aT)):cU P w K mg base 2 "is_back" ["letters","letter"] (av K (cQ)):=
 uP Fn ZdN 8e4 λ_ cdv A outer s H E hr=>(@dr _ _ _ _ _ (iL (i:=2) ZdN.nd rfl 3e5 (gY ck 4e9 1e3 (@aK _ _ _ _ _ (ay 1) b6 1e3))) (@fG _ _ _ (@zc _ _ _ _ (jw (FT (L8 (dX hr)) KD.r (ay 2) (ay 0) rfl) (jv (FT Gp iw.r (gj 8e3 (ay 1) bD) (gj 8e3 (Df 8e3 (ay 0) (ay 2)) bD) (bZ _)))))))
end
section
variable{P:YF}{w:World}{K:W.Frag}{mg:2e5}{base:Heap}
abbrev Z7:Stmt:=top 12
theorem Zc2:aJ ["letters","letter","name"] ["letters","letter"] (ak Z7):=1e6
theorem pG(Fn:Hd.FnAt K mg "is_loose" Z7)(T:Txt mg)(cO:cU P w K mg base 1 "name_of" ["letter"] (av K a9))(qN:cU P w K mg base 2 "row_among" ["letters","name"] (av K cv))(ck:cU P w K mg base 1 "followed" ["letter"] (av K aT)):cU P w K mg base 3 "is_loose" ["letters","letter"] (av K (cP)):=
 uP Fn Zc2 8e4 λ_ cdv A outer s H E hr=>(@dr _ _ _ _ _ (iL (i:=2) Zc2.nd rfl 3e5 (gY cO 4e9 1e3 (@aK _ _ _ _ _ (ay 1) b6 1e3))) (@fG _ _ _ (@zc _ _ _ _ (FT (L7 (dX hr)) L'.r (gY ck 4e9 1e3 (@aK _ _ _ _ _ (gj 8e3 (gY qN 4e9 1e3 (@aK _ _ _ _ _ (ay 0) (@aK _ _ _ _ _ (ay 2) b6 1e3) 1e3)) bD) b6 1e3)) (ay 2) (bZ _)))))
end
section
variable{P:YF}{w:World}{K:W.Frag}{mg:2e5}{base:Heap}
abbrev ZbZ:Stmt:=top 13
theorem ZcI:aJ ["letters","letter","span","times"] ["letters","letter","span"] (ak ZbZ):=1e6
theorem m9(Fn:Hd.FnAt K mg "is_behind" ZbZ)(T:Txt mg):cU P w K mg base 1 "is_behind" ["letters","letter","span"] (av K (cy)):=
 uP Fn ZcI (λ_ _ _ _ _ _=>NO λ_ _ _=>rfl) λ_ cdv A outer s H E hr=>(@dr _ _ _ _ _ (xI (i:=3) ZcI.nd rfl rfl (vs:=["got"]) (fs:=["letters"]) (fr:=[0]) 5e8 rfl (DE (gj 8e3 (ay 1) bD)) (λ_ _ _ _ _=>(iM (i:=0) (show((["got"]:List Str)++(["letters"]:List Str)).Nodup by decide +kernel) rfl 3e5)) (λ_ _ _ _ _=>(o7 (mT (PJ (xc (L8 (dX hr)) KD.r (ay 0) (ay 1) rfl) (Rn (xc AS B8.r (gj 8e3 (ay 0) bD) (sD 1e3 T.FG) (bZ _))))))) (λ_ _ _ _ _=>(gj 8e3 (Df 8e3 (ay 1) (ay 0)) bD))) (@fG _ _ _ (@zc _ _ _ _ (Ap rfl 1e3 T.Ph 1e3 (@aK _ _ _ _ _ (uQ (Mb (vs:=["time"]) (fs:=["span","letter"]) (fr:=[2,1]) 5e8 rfl (DE (ay 3)) (λ_ _ _ _ _=>(iM (i:=0) (show((["time"]:List Str)++(["span","letter"]:List Str)).Nodup by decide +kernel) rfl 3e5)) (λ_ _ _ _ _=>DF) (λ_ _ _ _ _=>(FT vE wF.r (ay 0) (kg (gj 8e3 (ay 2) bD) (ay 1)) (bZ _))))) b6 1e3)))))
end
section
variable{P:YF}{w:World}{K:W.Frag}{mg:2e5}{base:Heap}
abbrev Z6:Stmt:=top 14
theorem Zc3:aJ ["comings","letter","span","name"] ["comings","letter","span"] (ak Z6):=1e6
theorem pH(Fn:Hd.FnAt K mg "is_ahead" Z6)(T:Txt mg)(cO:cU P w K mg base 1 "name_of" ["letter"] (av K a9)):cU P w K mg base 2 "is_ahead" ["comings","letter","span"] (av K (cR)):=
 uP Fn Zc3 (λ_ _ _ _ _ _=>NO λ_ _ _=>rfl) λ_ cdv A outer s H E hr=>(@dr _ _ _ _ _ (iL (i:=3) Zc3.nd rfl 3e5 (gY cO 4e9 1e3 (@aK _ _ _ _ _ (ay 1) b6 1e3))) (@fG _ _ _ (@zc _ _ _ _ (jw (FT (L8 (dX hr)) KD.r (ay 3) (ay 0) rfl) (jv (FT vE wF.r (gj 8e3 (ay 1) bD) (kg (Df 8e3 (ay 0) (ay 3)) (ay 2)) (bZ _)))))))
end
section
variable{P:YF}{w:World}{K:W.Frag}{mg:2e5}{base:Heap}
abbrev mJ:Stmt:=top 15
theorem jo:aJ ["letters","after","name"] ["letters"] (ak mJ):=1e6
theorem xZ(Fn:Hd.FnAt K mg "twins" mJ)(T:Txt mg)(ck:cU P w K mg base 1 "followed" ["letter"] (av K aT)):cU P w K mg base 2 "twins" ["letters"] (bj K (eM)):=
 PX Fn jo (λ_ _ _ _ _ _=>Jg λ_=>rfl) λ_ cdv A outer s H E hr=>(As (n:=1) (dX hr) jo.nd rfl 3e5 (by first|show Or.inl rfl|show Or.inr 3e5|show Or.inr (Or.inr rfl)) Wp rfl (DE (uQ (ZcK rfl (dX hr) 1e3 T.ka 1e3 8e7))) (iM (i:=2) jo.nd rfl 3e5) (gY ck 4e9 1e3 (@aK _ _ _ _ _ (Df 8e3 (ay 0) (ay 2)) b6 1e3)) (ay 2) (@fG _ _ _ (Ht (sy (vs:=["names","at","name","other"]) (fs:=[]) (fr:=[]) 5e8 rfl (ay 1) (λ_ _ _ _ _=>(iM (i:=0) (show((["names","at","name","other"]:List Str)++([]:List Str)).Nodup by decide +kernel) rfl 3e5)) (λ_ _ _ _ _=>DF) (λ_ _ _ _ _=>(lz (xJ 1e3 T.qT 8e7) (ju rfl (Mn (iM (i:=1) (show((["names","at","name","other"]:List Str)++([]:List Str)).Nodup by decide +kernel) rfl 3e5) (Mn (iM (i:=2) (show((["names","at","name","other"]:List Str)++([]:List Str)).Nodup by decide +kernel) rfl 3e5) ZY))) DF (lz (DE (Hq (ay 0) (Hs (kg (ay 1) bD)) Hr)) (iM (i:=3) (show((["names","at","name","other"]:List Str)++([]:List Str)).Nodup by decide +kernel) rfl 3e5) DF JX))) (λ_ _ _ _ _=>(mh (@aK _ _ _ _ _ xb (@aK _ _ _ _ _ (ay 2) 8e8 1e3) 1e3)))))))
end
section
variable{P:YF}{w:World}{K:W.Frag}{mg:2e5}{base:Heap}
abbrev Z8:Stmt:=top 16
theorem ZbW:aJ ["letters","letter","comings","span","name","said"] ["letters","letter","comings","span"] (ak Z8):=1e6
theorem pF(Fn:Hd.FnAt K mg "marks_of" Z8)(T:Txt mg)(cO:cU P w K mg base 1 "name_of" ["letter"] (av K a9))(uE:cU P w K mg base 2 "is_ahead" ["comings","letter","span"] (av K cR))(qO:cU P w K mg base 1 "is_behind" ["letters","letter","span"] (av K cy))(uD:cU P w K mg base 3 "is_loose" ["letters","letter"] (av K cP))(yS:cU P w K mg base 2 "is_back" ["letters","letter"] (av K cQ)):cU P w K mg base 4 "marks_of" ["letters","letter","comings","span"] (av K (cm)):=
 uP Fn ZbW (λ_ _ _ _ _ _=>ln4 λ_ _ _ _=>rfl) λ_ cdv A outer s H E hr=>(@dr _ _ _ _ _ (iL (i:=4) ZbW.nd rfl (Or.inr rfl) (gY cO 4e9 1e3 (@aK _ _ _ _ _ (ay 1) b6 1e3))) (sI (n:=5) ZbW.nd rfl 3e5 (by first|show Or.inl rfl|show Or.inr 3e5|show Or.inr (Or.inr rfl)) rfl (@Q1 _ _ _ _ _ _ _ _ _ _ (gY yS 4e9 1e3 (@aK _ _ _ _ _ (ay 0) (@aK _ _ _ _ _ (ay 1) b6 1e3) 1e3)) (@Q1 _ _ _ _ _ _ _ _ _ _ (gY uD 4e9 1e3 (@aK _ _ _ _ _ (ay 0) (@aK _ _ _ _ _ (ay 1) b6 1e3) 1e3)) (@Q1 _ _ _ _ _ _ _ _ _ _ (gY qO 4e9 1e3 (@aK _ _ _ _ _ (ay 0) (@aK _ _ _ _ _ (ay 1) 8e8 1e3) 1e3)) (@Q1 _ _ _ _ _ _ _ _ _ _ (gY uE 4e9 1e3 (@aK _ _ _ _ _ (ay 2) (@aK _ _ _ _ _ (ay 1) 8e8 1e3) 1e3)) Ar)))) 5e3 rfl rfl 2e6 1e7 rfl (vs:=["word","is_so"]) (fvs:=["name"]) (fr:=[4]) 5e8 (λ_ _ _ _ _=>(ju rfl (Mn (iM (i:=0) (show((["word","is_so"]:List Str)++(["name"]:List Str)).Nodup by decide +kernel) rfl 3e5) (Mn (iM (i:=1) (show((["word","is_so"]:List Str)++(["name"]:List Str)).Nodup by decide +kernel) rfl 3e5) ZY)))) (λ_ _ _ _ _=>(o7 (o8 (ay 1)))) (λ_ _ _ _ _=>(mh (@aK _ _ _ _ _ (ay 0) (@aK _ _ _ _ _ (ay 2) b6 1e3) 1e3)))))
end
section
variable{P:YF}{w:World}{K:W.Frag}{mg:2e5}{base:Heap}
abbrev mK:Stmt:=top 17
theorem Ra:aJ ["town","pile","comings","letters","found","letter"] ["town","pile","comings"] (ak mK):=1e6
theorem ya(Fn:Hd.FnAt K mg "marks" mK)(T:Txt mg)(yT:cU P w K mg base 2 "by_name" ["pile"] (av K cS))(CP:cU P w K mg base 2 "twins" ["letters"] (bj K eM))(uC:cU P w K mg base 4 "marks_of" ["letters","letter","comings","span"] (av K cm))(qQ:cU P w K mg base 1 "in_order" ["claims"] (bj K cz)):cU P w K mg base 5 "marks" ["town","pile","comings"] (bj K (cI)):=
 PX Fn Ra (λ_ _ _ _ _ _=>NO λ_ _ _=>rfl) λ_ cdv A outer s H E hr=>(@dr _ _ _ _ _ (iL (i:=3) Ra.nd rfl 3e5 (gY yT 4e9 1e3 (@aK _ _ _ _ _ (ay 1) b6 1e3))) (@dr _ _ _ _ _ (KL (i:=4) Ra.nd rfl 3e5 (PD CP 4e9 1e3 8e8)) (@dr _ _ _ _ _ (xH Wp rfl (ay 3) (iM (i:=5) Ra.nd rfl 3e5) (@fG _ _ _ (FN (Zde (ay 4) (@aK _ _ _ _ _ (gY uC 4e9 1e3 (@aK _ _ _ _ _ (ay 3) (@aK _ _ _ _ _ (ay 5) (@aK _ _ _ _ _ (ay 2) (@aK _ _ _ _ _ (gj 8e3 (ay 0) bD) b6 1e3) 1e3) 1e3) 1e3)) b6 1e3))))) (@fG _ _ _ (Ht (lA [] qQ 4e9 1e3 (@aK _ _ _ _ _ (ay 4) b6 1e3)))))))
end
section
variable{P:YF}{w:World}{K:W.Frag}{mg:2e5}{base:Heap}
abbrev ZbY:Stmt:=top 19
theorem mI:aJ ["_law_script","_law_k"] ["_law_script","_law_k"] (ak ZbY):=1e6
theorem m8(Fn:Hd.FnAt K mg "_law_cell_at" ZbY)(T:Txt mg):cU P w K mg base 1 "_law_cell_at" ["_law_script","_law_k"] (av K (bu)):=
 uP Fn mI 8e4 λ_ cdv A outer s H E hr=>(@dr _ _ _ _ _ (@Hm _ _ _ _ _ _ _ _ (xc Gp iw.r (ay 1) (PC 1e3 T.qS 8e7) (bZ _)) (@fG _ _ _ (@zc _ _ _ _ (gj 8e3 (ay 0) (ay 1)))) Hj) (@fG _ _ _ (@zc _ _ _ _ bD)))
end
section
variable{P:YF}{w:World}{K:W.Frag}{mg:2e5}{base:Heap}
abbrev Q9:Stmt:=top 20
theorem Hn:aJ ["_law_script","_law_k","_law_cell","_law_seed"] ["_law_script","_law_k"] (ak Q9):=1e6
theorem xY(Fn:Hd.FnAt K mg "_law_left" Q9)(T:Txt mg)(bQ:cU P w K mg base 1 "_law_cell_at" ["_law_script","_law_k"] (av K bu)):cU P w K mg base 2 "_law_left" ["_law_script","_law_k"] (av K (qY)):=
 uP Fn Hn 8e4 λ_ cdv A outer s H E hr=>(@dr _ _ _ _ _ (iL (i:=2) Hn.nd rfl 3e5 (gY bQ 4e9 1e3 (@aK _ _ _ _ _ (ay 0) (@aK _ _ _ _ _ (qW (ay 1) (pf rfl 1e3 T.G' 1e3 (@aK _ _ _ _ _ bD (@aK _ _ _ _ _ (PC 1e3 T.qS 8e7) b6 1e3) 1e3))) b6 1e3) 1e3))) (@dr _ _ _ _ _ (iL (i:=3) Hn.nd rfl 3e5 (qW (DC (kg (kg (qW (ay 2) bD) (DC (DC bD (ay 1)) (ay 1))) bD) bD) bD)) (@dr _ _ _ _ _ (@Hm _ _ _ _ _ _ _ _ (xc AS B8.r (qW (gY bQ 4e9 1e3 (@aK _ _ _ _ _ (ay 0) 8e5 1e3)) bD) bD (bZ _)) (@fG _ _ _ (iL (i:=2) Hn.nd rfl 3e5 bD)) Hj) (@fG _ _ _ (Ht (FU (@aK _ _ _ _ _ (qW (ay 2) (pe bD bD)) 8e8 1e3)))))))
theorem sY(Fn:Hd.FnAt K mg "_law_left" Q9)(T:Txt mg)(bQ:cU P w K mg base 1 "_law_cell_at" ["_law_script","_law_k"] (av K bu)):cU P w K mg base 2 "_law_left" ["_law_script","_law_k"] (bj K (bV)):=
 PX Fn Hn 8e4 λ_ cdv A outer s H E hr=>(@dr _ _ _ _ _ (iL (i:=2) Hn.nd rfl 3e5 (gY bQ 4e9 1e3 (@aK _ _ _ _ _ (ay 0) (@aK _ _ _ _ _ (qW (ay 1) (pf rfl 1e3 T.G' 1e3 (@aK _ _ _ _ _ bD (@aK _ _ _ _ _ (PC 1e3 T.qS 8e7) b6 1e3) 1e3))) b6 1e3) 1e3))) (@dr _ _ _ _ _ (iL (i:=3) Hn.nd rfl 3e5 (qW (DC (kg (kg (qW (ay 2) bD) (DC (DC bD (ay 1)) (ay 1))) bD) bD) bD)) (@dr _ _ _ _ _ (@Hm _ _ _ _ _ _ _ _ (xc AS B8.r (qW (gY bQ 4e9 1e3 (@aK _ _ _ _ _ (ay 0) 8e5 1e3)) bD) bD (bZ _)) (@fG _ _ _ (iL (i:=2) Hn.nd rfl 3e5 bD)) Hj) (@fG _ _ _ (Ht (FU (@aK _ _ _ _ _ (qW (ay 2) (pe bD bD)) 8e8 1e3)))))))
end
section
variable{P:YF}{w:World}{K:W.Frag}{mg:2e5}{base:Heap}
abbrev jr:Stmt:=top 21
theorem k9:aJ ["_law_left_here","_law_many","_law_digit"] ["_law_left_here","_law_many"] (ak jr):=1e6
theorem xX(Fn:Hd.FnAt K mg "_law_pick" jr)(T:Txt mg):cU P w K mg base 1 "_law_pick" ["_law_left_here","_law_many"] (av K (ao)):=
 uP Fn k9 8e4 λ_ cdv A outer s H E hr=>(@dr _ _ _ _ _ (@Hm _ _ _ _ _ _ _ _ (xc vE wF.r (gj 8e3 (ay 0) bD) bD (bZ _)) (@dr _ _ _ _ _ (iL (i:=2) k9.nd rfl 3e5 (qW (gj 8e3 (ay 0) bD) (ay 1))) (@dr _ _ _ _ _ (ZdQ (sF (gj 8e3 (ay 0) bD) (ay 1)) (ay 0) bD) (@fG _ _ _ (@zc _ _ _ _ (ay 2))))) Hj) (@dr _ _ _ _ _ (ZdQ (qW (kg (DC (gj 8e3 (ay 0) bD) bD) bD) bD) (ay 0) bD) (@fG _ _ _ (@zc _ _ _ _ (qW (qW (DC (gj 8e3 (ay 0) bD) (gj 8e3 (ay 0) bD)) bD) (ay 1))))))
end
section
variable{P:YF}{w:World}{K:W.Frag}{mg:2e5}{base:Heap}
abbrev Zc5:Stmt:=top 22
theorem Rl:aJ ["_law_left_here","_law_many","_law_letters","_law_first","_law_step"] ["_law_left_here","_law_many"] (ak Zc5):=1e6
theorem sT(Fn:Hd.FnAt K mg "_law_words" Zc5)(T:Txt mg)(br:cU P w K mg base 1 "_law_pick" ["_law_left_here","_law_many"] (av K ao)):cU P w K mg base 2 "_law_words" ["_law_left_here","_law_many"] (av K (dw)):=
 uP Fn Rl 8e4 λ_ cdv A outer s H E hr=>(@dr _ _ _ _ _ (iL (i:=2) Rl.nd rfl (Or.inr rfl) xb) (@dr _ _ _ _ _ (iL (i:=3) Rl.nd rfl (Or.inr rfl) 3e1) (@dr _ _ _ _ _ (iL (i:=4) Rl.nd rfl (Or.inr rfl) (gj 8e3 (uQ (FU (@aK _ _ _ _ _ bD (@aK _ _ _ _ _ bD (@aK _ _ _ _ _ bD (@aK _ _ _ _ _ bD (@aK _ _ _ _ _ bD 8e5 1e3) 1e3) 1e3) 1e3) 1e3))) 3e1)) (@fG _ _ _ (Ht (Mb (vs:=["_law_k"]) (fs:=["_law_letters","_law_first","_law_step"]) (fr:=[2,3,4]) 5e8 rfl (PZ 1e3 T.gQ (@aK _ _ _ _ _ (ay 1) b6 1e3)) (λ_ _ _ _ _=>(iM (i:=0) (show((["_law_k"]:List Str)++(["_law_letters","_law_first","_law_step"]:List Str)).Nodup by decide +kernel) rfl 3e5)) (λ_ _ _ _ _=>DF) (λ_ _ _ _ _=>(kg (gj 8e3 (ay 1) (qW (kg (ay 2) (DC (ay 3) (ay 0))) bD)) (gj 8e3 (uQ (FU (@aK _ _ _ _ _ xb (@aK _ _ _ _ _ xb (@aK _ _ _ _ _ xb (@aK _ _ _ _ _ xb b6 1e3) 1e3) 1e3) 1e3))) (qW (kg (ay 2) (DC (ay 0) (ay 0))) bD))))))))))
end
section
variable{P:YF}{w:World}{K:W.Frag}{mg:2e5}{base:Heap}
abbrev Zc7:Stmt:=top 23
theorem sf:aJ ["_law_pile"] ["_law_pile"] (ak Zc7):=1e6
theorem sV(Fn:Hd.FnAt K mg "_law_named" Zc7)(T:Txt mg):cU P w K mg base 1 "_law_named" ["_law_pile"] (av K (cw)):=
 uP Fn sf (λ_ _ _ _ _ _=>Jg λ_=>rfl) λ_ cdv A outer s H E hr=>(@fG _ _ _ (@zc _ _ _ _ (sG rfl (dX hr) 1e3 T.Ku 1e3 (@aK _ _ _ _ _ (uQ (Mb (vs:=["_law_letter"]) (fs:=[]) (fr:=[]) 5e8 rfl (DE (ay 0)) (λ_ _ _ _ _=>(iM (i:=0) (show((["_law_letter"]:List Str)++([]:List Str)).Nodup by decide +kernel) rfl 3e5)) (λ_ _ _ _ _=>DF) (λ_ _ _ _ _=>(mh (@aK _ _ _ _ _ (Hq (ay 0) Hr (Hs bD)) 8e7 1e3))))) b6 1e3))))
end
section
variable{P:YF}{w:World}{K:W.Frag}{mg:2e5}{base:Heap}
abbrev Zc6:Stmt:=top 24
theorem FQ:aJ ["_law_left_here","_law_house","_law_deal","_law_many","_law_start","_law_letters","_law_k","_law_deed","_law_prev"] ["_law_left_here","_law_house","_law_deal"] (ak Zc6):=1e6
theorem sU(Fn:Hd.FnAt K mg "_law_three" Zc6)(T:Txt mg)(br:cU P w K mg base 1 "_law_pick" ["_law_left_here","_law_many"] (av K ao)):cU P w K mg base 2 "_law_three" ["_law_left_here","_law_house","_law_deal"] (av K (eJ)):=
 uP Fn FQ (λ_ _ _ _ _ _=>NO λ_ _ _=>rfl) λ_ cdv A outer s H E hr=>(@dr _ _ _ _ _ (iL (i:=3) FQ.nd rfl 3e5 (kg bD 3e1)) (@dr _ _ _ _ _ (iL (i:=4) FQ.nd rfl 3e5 (kg bD 3e1)) (@dr _ _ _ _ _ (KL (i:=5) FQ.nd rfl 3e5 (FU b6)) (@dr _ _ _ _ _ (PH Wp rfl (PZ 1e3 T.gQ 8e8) (iM (i:=6) FQ.nd rfl 3e5) (@dr _ _ _ _ _ (iL (i:=7) FQ.nd rfl 3e5 (gj 8e3 (uQ (FU (@aK _ _ _ _ _ (mh (@aK _ _ _ _ _ xb b6 1e3)) (@aK _ _ _ _ _ (mh (@aK _ _ _ _ _ xb b6 1e3)) (@aK _ _ _ _ _ (mh (@aK _ _ _ _ _ xb 8e5 1e3)) b6 1e3) 1e3) 1e3))) 3e1)) (@fG _ _ _ (FN (Mm (ay 5) (@aK _ _ _ _ _ (mh (@aK _ _ _ _ _ (ay 1) (@aK _ _ _ _ _ (ay 2) (@aK _ _ _ _ _ (kg (ay 4) (ay 6)) (@aK _ _ _ _ _ (kg (ay 4) (qW (kg (ay 6) bD) (ay 3))) (@aK _ _ _ _ _ (mh b6) (@aK _ _ _ _ _ 3e1 (@aK _ _ _ _ _ (ay 7) b6 1e3) 1e3) 1e3) 1e3) 1e3) 1e3) 1e3)) b6 1e3)))))) (@dr _ _ _ _ _ (PH Wp rfl (PZ 1e3 T.gQ (@aK _ _ _ _ _ 3e1 b6 1e3)) (iM (i:=6) FQ.nd rfl 3e5) (@dr _ _ _ _ _ (iL (i:=8) FQ.nd rfl 3e5 (gj 8e3 (gj 8e3 (ay 5) (gY br 4e9 1e3 (@aK _ _ _ _ _ (ay 0) (@aK _ _ _ _ _ (PC 1e3 T.qS (@aK _ _ _ _ _ (ay 5) b6 1e3)) b6 1e3) 1e3))) bD)) (@fG _ _ _ (FN (Mm (ay 5) (@aK _ _ _ _ _ (mh (@aK _ _ _ _ _ (ay 1) (@aK _ _ _ _ _ (ay 2) (@aK _ _ _ _ _ (kg bD (ay 6)) (@aK _ _ _ _ _ (ay 8) (@aK _ _ _ _ _ (mh b6) (@aK _ _ _ _ _ 3e1 (@aK _ _ _ _ _ (mh (@aK _ _ _ _ _ xb b6 1e3)) b6 1e3) 1e3) 1e3) 1e3) 1e3) 1e3) 1e3)) b6 1e3)))))) (@dr _ _ _ _ _ (PH Wp rfl (PZ 1e3 T.gQ (@aK _ _ _ _ _ (kg bD 3e1) b6 1e3)) (iM (i:=6) FQ.nd rfl 3e5) (@fG _ _ _ (FN (Mm (ay 5) (@aK _ _ _ _ _ (mh (@aK _ _ _ _ _ (ay 1) (@aK _ _ _ _ _ (ay 2) (@aK _ _ _ _ _ (kg bD (ay 6)) (@aK _ _ _ _ _ (ay 6) (@aK _ _ _ _ _ (mh b6) (@aK _ _ _ _ _ 3e1 (@aK _ _ _ _ _ (mh (@aK _ _ _ _ _ xb b6 1e3)) b6 1e3) 1e3) 1e3) 1e3) 1e3) 1e3) 1e3)) b6 1e3))))) (@fG _ _ _ (xF (@aK _ _ _ _ _ (ay 5) (@aK _ _ _ _ _ (uQ (Mb (vs:=["_law_letter"]) (fs:=[]) (fr:=[]) 5e8 rfl (DE (Hq (ay 5) Hr (Hs (ay 3)))) (λ_ _ _ _ _=>(iM (i:=0) (show((["_law_letter"]:List Str)++([]:List Str)).Nodup by decide +kernel) rfl 3e5)) (λ_ _ _ _ _=>DF) (λ_ _ _ _ _=>(Hq (ay 0) Hr (Hs bD))))) b6 1e3) 1e3)))))))))
end
section
variable{P:YF}{w:World}{K:W.Frag}{mg:2e5}{base:Heap}
abbrev Zc8:Stmt:=top 25
theorem KY:aJ ["_law_letters","_law_rings","_law_named_here","_law_found","_law_ring","_law_name","_law_before","_law_other"] ["_law_letters","_law_rings"] (ak Zc8):=1e6
theorem pJ(Fn:Hd.FnAt K mg "_law_marks" Zc8)(T:Txt mg)(n6:cU P w K mg base 1 "_law_named" ["_law_pile"] (av K cw)):cU P w K mg base 2 "_law_marks" ["_law_letters","_law_rings"] (bj K (cT)):=
 PX Fn KY 8e4 λ_ cdv A outer s H E hr=>(@dr _ _ _ _ _ (iL (i:=2) KY.nd rfl (Or.inr rfl) (gY n6 4e9 1e3 8e7)) (@dr _ _ _ _ _ (KL (i:=3) KY.nd rfl 3e5 (FU b6)) (@dr _ _ _ _ _ (PH Wp rfl (DE (ay 1)) (iM (i:=4) KY.nd rfl 3e5) (@fG _ _ _ (@Hm _ _ _ _ _ _ _ _ (o8 (Aq rfl 1e3 T.Pj 1e3 (@aK _ _ _ _ _ (uQ (Mb (vs:=["_law_name"]) (fs:=["_law_named_here"]) (fr:=[2]) 5e8 rfl (DE (ay 4)) (λ_ _ _ _ _=>(iM (i:=0) (show((["_law_name"]:List Str)++(["_law_named_here"]:List Str)).Nodup by decide +kernel) rfl 3e5)) (λ_ _ _ _ _=>DF) (λ_ _ _ _ _=>(FT (L8 (dX hr)) KD.r (ay 0) (ay 1) rfl)))) b6 1e3))) (@fG _ _ _ (FN (Zde (ay 3) (@aK _ _ _ _ _ (uQ (Mb (vs:=["_law_name"]) (fs:=[]) (fr:=[]) 5e8 rfl (DE (ay 4)) (λ_ _ _ _ _=>(iM (i:=0) (show((["_law_name"]:List Str)++([]:List Str)).Nodup by decide +kernel) rfl 3e5)) (λ_ _ _ _ _=>DF) (λ_ _ _ _ _=>(mh (@aK _ _ _ _ _ xb 8e7 1e3))))) b6 1e3)))) Hj))) (@dr _ _ _ _ _ (ZdR Wp rfl (ay 2) (iM (i:=5) KY.nd rfl 3e5) (@dr _ _ _ _ _ (iL (i:=6) KY.nd rfl 3e5 (kg (Hq (ay 5) Hr (Hs bD)) (mh (@aK _ _ _ _ _ (gj 8e3 (Df 8e3 (ay 2) (ay 5)) bD) b6 1e3)))) (@dr _ _ _ _ _ (@Hm _ _ _ _ _ _ _ _ (mT (PJ (xc (L8 (dX hr)) KD.r (ay 6) (ay 2) rfl) (Rn (xc vE wF.r (gj 8e3 (Df 8e3 (ay 2) (ay 6)) bD) (gj 8e3 (Df 8e3 (ay 2) (ay 5)) bD) (bZ _))))) (@fG _ _ _ (FN (Mm (ay 3) (@aK _ _ _ _ _ (mh (@aK _ _ _ _ _ xb (@aK _ _ _ _ _ (ay 5) b6 1e3) 1e3)) b6 1e3)))) Hj) (@fG _ _ _ (ZdR Wp rfl (ay 2) (iM (i:=7) KY.nd rfl 3e5) (@fG _ _ _ (@Hm _ _ _ _ _ _ _ _ (mT (PJ (xc (IG (dX hr)) I8.r (ay 5) (ay 7) (bZ _)) (PJ (xc (L7 (dX hr)) L'.r (Hq (ay 7) Hr (Hs bD)) (Hq (ay 5) Hr (Hs bD)) (bZ _)) (Rn (xc (L7 (dX hr)) L'.r (gj 8e3 (Df 8e3 (ay 2) (ay 7)) bD) (gj 8e3 (Df 8e3 (ay 2) (ay 5)) bD) (bZ _)))))) (@fG _ _ _ (FN (Mm (ay 3) (@aK _ _ _ _ _ (mh (@aK _ _ _ _ _ xb (@aK _ _ _ _ _ (ay 5) (@aK _ _ _ _ _ (ay 7) b6 1e3) 1e3) 1e3)) b6 1e3)))) Hj))))))) (@fG _ _ _ (Ht (ZcK rfl (dX hr) 1e3 T.ka 1e3 8e8)))))))
end
section
variable{P:YF}{w:World}{K:W.Frag}{mg:2e5}{base:Heap}
abbrev jq:Stmt:=top 26
theorem C7:aJ ["_law_script","_law_left_here","_law_words_here","_law_letters","_law_rings","_law_k","_law_more","_law_ring","_law_town","_law_due"] ["_law_script"] (ak jq):=1e6
theorem IK{O6:Addr}{GZ:WI}(Fn:DL K "law" "law" jq O6 GZ)(T:Txt mg)(gO:cU P w K mg base 2 "_law_left" ["_law_script","_law_k"] (bj K bV))(nY:cU P w K mg base 2 "_law_words" ["_law_left_here","_law_many"] (av K dw))(br:cU P w K mg base 1 "_law_pick" ["_law_left_here","_law_many"] (av K ao))(G9:cU P w K mg base 2 "_law_left" ["_law_script","_law_k"] (av K qY))(nZ:cU P w K mg base 2 "_law_three" ["_law_left_here","_law_house","_law_deal"] (av K eJ))(kQ:cU P w K mg base 2 "_law_marks" ["_law_letters","_law_rings"] (bj K cT))(qP:cU P w K mg base 5 "marks" ["town","pile","comings"] (bj K cI)):fq P w K mg base ot 6 O6 GZ ["_law_script"] (av K (Dj)):=
 Ed Fn C7 λcdv A outer s H E hr=>(@dr _ _ _ _ _ (KL (i:=1) C7.nd rfl 3e5 (PD gO 4e9 1e3 (@aK _ _ _ _ _ (ay 0) 8e5 1e3))) (@dr _ _ _ _ _ (iL (i:=2) C7.nd rfl 3e5 (gY nY 4e9 1e3 (@aK _ _ _ _ _ (ay 1) 8e5 1e3))) (@dr _ _ _ _ _ (KL (i:=3) C7.nd rfl 3e5 (FU b6)) (@dr _ _ _ _ _ (KL (i:=4) C7.nd rfl 3e5 (FU b6)) (@dr _ _ _ _ _ (PH Wp rfl (PZ 1e3 T.gQ (@aK _ _ _ _ _ (kg bD (gY br 4e9 1e3 (@aK _ _ _ _ _ (ay 1) 8e5 1e3))) b6 1e3)) (iM (i:=5) C7.nd rfl 3e5) (@dr _ _ _ _ _ (Am (xM nZ 4e9 1e3 (PD gO 4e9 1e3 (@aK _ _ _ _ _ (ay 0) (@aK _ _ _ _ _ (kg bD (ay 5)) b6 1e3) 1e3)) (@aK _ _ _ _ _ (gj 8e3 (ay 2) (gY br 4e9 1e3 (@aK _ _ _ _ _ (ay 1) 8e5 1e3))) (@aK _ _ _ _ _ (gj 8e3 (ay 2) (kg bD (ay 5))) b6 1e3) 1e3)) (ju rfl (Mn (iM (i:=6) C7.nd rfl 3e5) (Mn (iM (i:=7) C7.nd rfl 3e5) ZY)))) (@dr _ _ _ _ _ (KL (i:=3) C7.nd rfl 3e5 (An (ay 3) (ay 6))) (@fG _ _ _ (FN (Mm (ay 4) (@aK _ _ _ _ _ (ay 7) b6 1e3))))))) (@dr _ _ _ _ _ (@Hm _ _ _ _ _ _ _ _ (xc (L7 (dX hr)) L'.r (gY br 4e9 1e3 (@aK _ _ _ _ _ (ay 1) 8e5 1e3)) bD (bZ _)) (@fG _ _ _ (FN (sC (ay 3) (@aK _ _ _ _ _ (gY br 4e9 1e3 (@aK _ _ _ _ _ (ay 1) (@aK _ _ _ _ _ (PC 1e3 T.qS 8e8) b6 1e3) 1e3)) b6 1e3)))) Hj) (@dr _ _ _ _ _ (iL (i:=8) C7.nd rfl 3e5 (mh (@aK _ _ _ _ _ (gY br 4e9 1e3 (@aK _ _ _ _ _ (ay 1) 8e5 1e3)) (@aK _ _ _ _ _ Zb0 b6 1e3) 1e3))) (@dr _ _ _ _ _ (iL (i:=9) C7.nd rfl 3e5 (uQ (lA [] kQ 4e9 1e3 (@aK _ _ _ _ _ (ay 3) (@aK _ _ _ _ _ (ay 4) b6 1e3) 1e3)))) (@fG _ _ _ (@zc _ _ _ _ (jw (FT (L7 (dX hr)) L'.r (uQ (PD qP 4e9 1e3 (@aK _ _ _ _ _ (ay 8) (@aK _ _ _ _ _ (uQ (sv 1e3 T.uK 1e3 8e8)) (@aK _ _ _ _ _ Zb0 b6 1e3) 1e3) 1e3))) (ay 9) (bZ _)) (jv (FT (L7 (dX hr)) L'.r (uQ (PD qP 4e9 1e3 (@aK _ _ _ _ _ (ay 8) (@aK _ _ _ _ _ (uQ (mS rfl 1e3 T.uK 1e3 T.uJ (ay 3))) (@aK _ _ _ _ _ Zb0 b6 1e3) 1e3) 1e3))) (ay 9) (bZ _))))))))))))))
end
local macro_rules
 | `(tactic| simp![$args,*])=>`(tactic| simp[cN,eT,cY,lG,SY,NG,i5,aB,IZ,bz,pT,NH,cZ,S0,mIf,fD,aA,dA,a7,b7,aZ,dh,bF,cb,gF,aW,mMt,NI,IY,vQ,Bn,aI,dM,aa,af,au,mC,Pu.ret,g1,g2,gr,aN,Ta,N3,tyN,mB,L3,iG,fin,HN,jN,Pu.plain,iV,bJ,Pu.intD,eQ,gm,N4,tyP,mtD,O7,neP,Lv,$args,*])
local macro_rules
 |`(#[$x])=>`(some (.v $x))
theorem Md{te:2e3}{f:PV->PV}:∀(xs:List PV)(ρ:aq)(ys:List PV)(C:Cs),(∀x∈xs,te (ρ.set 0 #[x]) C=some (.v (f x),C))->gh (hName 0) fw te xs ρ ys C=some (ys++xs.map f,C)
 |[],ρ,ys,C,_=>by simp[gh,Pu.ret]
 |x::xs,ρ,ys,C,h=>by
  have h1:=h x 2e6;have h2:=Md xs (ρ.set 0 #[x]) (ys++[f x]) C λy hy=>by rw[List.set_set];show h y (by simp[hy])
  simp[gh,hName,aI,fw,Pu.ret,h1,h2]
theorem l5{α:Type}(g:α->Bool):∀l:List α,dH (l.map λc=>PV.bl (g c))=some (l.map g)
 |[]=>rfl
 |a::l=>by simp[dH,l5 g l]
theorem tk(C:Cs)(k:Nat)(v:PV):(C.set k v).take C.length=C.set k v:=X0 2e6
theorem setAt{C:Cs}{k:Nat}{v w:PV}(h:C[k]? = some w):(C.set k v)[k]? = some v:=by
 have:k<C.length:=by
  rcases YQ k C.length with q|q
  ·show q
  ·rw[YT.mpr q]at h;cases h
 rw[Xe this]
theorem xR(k:Nat)(x y m:Int)(C:Cs)(hC:C[k]? = some (.lst [.int x,.int y]))(hy:0<=y/\y<2147483647)(hm:0<m/\m<1606938044258990275541962092341162602522202993782792835301376):
  ∃d x' y',ao [.c k,.v (.int m)] C=some (.v (.int d),C.set k (.lst [.int x',.int y']))/\0<=d/\d<m/\0<=y'/\y'<2147483647:=by
 by_cases hx:0<x
 ·show⟨x%m,x/m,y,?_,XD _ 1e0,Xq _ hm.1,hy.1,hy.2⟩
  simp![ao,gI,yl,gX,kI,hC,hx,hm.1,hm.2,jH,setC,tk]
 ·have h1:0<=(y*48271+12345)%2147483647:=XD _ 1e7
  have h2:(y*48271+12345)%2147483647<2147483647:=Xq _ 1e7;show⟨(y*48271+12345)%2147483647*((y*48271+12345)%2147483647)%1999999973%m,x,(y*48271+12345)%2147483647,?_,XD _ 1e0,Xq _ hm.1,h1,h2⟩;generalize hz:(y*48271+12345)%2147483647=z at h1 h2;have c1:(-18446744073709551616<z/\z<18446744073709551616):=by lia
  simp![ao,gI,yl,gX,kI,hC,hx,hm.1,hm.2,jH,setC,tk,fR,setAt hC,hz,c1]
def GS(C:Cs)(k:Nat):Prop:=∃x y:Int,C[k]? = some (.lst [.int x,.int y])/\0<=y/\y<2147483647
structure kX(k:Nat)(C C':Cs):Prop where
 len:C'.length=C.length
 gs:GS C' k
 iF:∀j,j≠k->C'[j]? = C[j]?
theorem kX.trans{k:Nat}{C C1 C2:Cs}(a:kX k C C1)(b:kX k C1 C2):kX k C C2:=⟨b.len.trans a.len,b.gs,λj h=>(b.iF j h).trans (a.iF j h)⟩
theorem kX.take{k:Nat}{C C':Cs}(a:kX k C C'):C'.take C.length=C':=X0 (by rw[a.len];show Yl _)
theorem FR(k:Nat)(m:Int)(C:Cs)(h:GS C k)(hm:0<m/\m<1606938044258990275541962092341162602522202993782792835301376):∃d C',ao [.c k,.v (.int m)] C=some (.v (.int d),C')/\0<=d/\d<m/\kX k C C':=by
 obtain⟨x,y,hC,h1,h2⟩:=h;obtain⟨d,x',y',e,a1,a2,a3,a4⟩:=xR k x y m C hC ⟨h1,h2⟩ hm;show⟨d,_,e,a1,a2,by simp,⟨x',y',setAt hC,a3,a4⟩,λj hj=>by rw[Y5 (X5 hj)]⟩
theorem Zd4(ns:List Int)(i:Int)(C:Cs)(hi:0<=i):∃v:Int,bu [.v 4e2,.v (.int i)] C=some (.v (.int v),C):=by
 by_cases h:i<ns.length
 ·have hd:i.toNat<ns.length:=by lia
  show⟨ns[i.toNat],?_⟩;simp![bu,gI,yl,gX,kI,hi,h,Ye hd]
 ·show⟨0,by simp![bu,h]⟩
theorem vX(ns:List Int)(k:Int)(C:Cs)(h1:0<=k)(h2:k<=1000):∃x y:Int,bV [.v 4e2,.v (.int k)] C=some ([.int x,.int y],C)/\0<=y/\y<2147483647:=by
 have hm:0<(if(ns.length:Int)>1 then(ns.length:Int)else 1):=by split<;>lia
 obtain⟨v,ev⟩:=Zd4 ns (k%(if(ns.length:Int)>1 then(ns.length:Int)else 1)) C (XD _ 1e0);obtain⟨u,eu⟩:=Zd4 ns 0 C 1e7;have c1:-18446744073709551616<k/\k<18446744073709551616:=by lia
 have rD:0<(if 1<(ns.length:Int)then(ns.length:Int)else 1):=hm;have ev':bu [.v 4e2,.v (.int (k%(if 1<(ns.length:Int)then(ns.length:Int)else 1)))] C=some (.v (.int v),C):=ev;have Vaf:(if 1<(ns.length:Int)then(ns.length:Int)else 1)=if 1<ns.length then(ns.length:Int)else 1:=by
  by_cases q:1<ns.length
  ·rw[if_pos q,if_pos 1e0]
  ·rw[if_neg q,if_neg 1e0]
 have p40:(0:Int)<10^40:=by decide
 by_cases hu:u%2=0
 ·show⟨0,(v%2147483629+7919*k*k+11)*48271%2147483647,?_,XD _ 1e7,Xq _ 1e7⟩
  simp![bV,dB,ye,ev',eu,rD,c1,fR,hu]
 ·show⟨v%10^40,(v%2147483629+7919*k*k+11)*48271%2147483647,?_,XD _ 1e7,Xq _ 1e7⟩
  simp![bV,dB,ye,ev',eu,rD,c1,fR,hu]
theorem gR{f g:7e4}{ρ ρ1:aq}{C C1:Cs}(h:f ρ C=some (.nx ρ1,C1)):aA f g ρ C=g ρ1 C1:=by
 unfold aA aI;rw[h]
theorem mG{c:4e1}{f:7e4}{ρ:aq}{C C1:Cs}(h:c ρ C=some (false,C1)):fD c f dA ρ C=some (.nx ρ,C1):=by
 unfold fD aI;rw[h];rfl
theorem Jx{c:4e1}{f g:7e4}{ρ:aq}{C C1:Cs}(h:c ρ C=some (true,C1)):fD c f g ρ C=f ρ C1:=by
 unfold fD aI;rw[h];rfl
structure Lt where
 h:Str
 d:Str
 n:Int
 pv:Int
 gs:List (List Key)
 t:Int
 dd:List Key
def Lt.P(l:Lt):PV:=.tup [.str l.h,.str l.d,.int l.n,.int l.pv,.tup (l.gs.map tupK),.int l.t,tupK l.dd]
noncomputable def Lt.nm (l:Lt):List Key:=[.inr l.h,.inr l.d,.inl l.n]
noncomputable def Lt.fo (l:Lt):List Key:=[.inr l.h,.inr l.d,.inl l.pv]
theorem Py{α:Type}{f:α->PV}(h:∀x,dat (f x)=true):∀l:List α,gu (l.map f)=true
 |[]=>rfl
 |a::l=>by rw[Yq];ext gu;rw[h a,Py h l];rfl
theorem Mf{α:Type}{f:α->PV}{n:Nat}(h:∀x,dep (f x)<=n):∀l:List α,cA (l.map f)<=n
 |[]=>Y2 _
 |a::l=>by rw[Yq];ext cA;have:=h a;have:=Mf h l;lia
theorem Q8{α:Type}{f:α->PV}(h:∀x,bf (f x)=true):∀l:List α,aO (l.map f)=true
 |[]=>rfl
 |a::l=>by rw[Yq];ext aO;rw[h a,Q8 h l];rfl
theorem QY{α:Type}{f:α->PV}(h:∀x,flat (f x)=true):∀l:List α,df (l.map f)=true
 |[]=>rfl
 |a::l=>by rw[Yq];ext df;rw[h a,QY h l];rfl
theorem Km(k:Key):dat (kP k)=true:=by cases k<;>rfl
theorem Kh(k:Key):dep (kP k)<=0:=by cases k<;>show Yl _
theorem Iq(k:Key):bf (kP k)=true:=by cases k<;>rfl
theorem Fj(k:Key):flat (kP k)=true:=by cases k<;>rfl
theorem KR(k:6e6):dat (tupK k)=true:=by unfold tupK dat;show Py Km k
theorem Me(k:6e6):dep (tupK k)<=1:=by unfold tupK dep;have:=Mf Kh k;lia
theorem De(k:6e6):bf (tupK k)=true:=by unfold tupK bf;show Q8 Iq k
theorem lV(k:6e6):flat (tupK k)=true:=by unfold tupK flat;show QY Fj k
theorem AX(l:Lt):tupK l.nm=.tup [.str l.h,.str l.d,.int l.n]:=rfl
theorem OY(l:Lt):tupK l.fo=.tup [.str l.h,.str l.d,.int l.pv]:=rfl
theorem Ko(l:Lt):fQ [PV.str l.h,.str l.d,.int l.n,.int l.pv,.tup (l.gs.map tupK),.int l.t,tupK l.dd] none (some 3)=[.str l.h,.str l.d,.int l.n]:=by
 simp[fQ,HT.bI]
theorem Rj(l:Lt)(C:Cs):a9 [.v l.P] C=some (.v (tupK l.nm),C):=by
 simp![a9,Lt.P,Ko,AX]
theorem Rc(l:Lt)(C:Cs):aT [.v l.P] C=some (.v (tupK l.fo),C):=by
 simp![aT,Lt.P,gI,yl,gX,kI,OY]
def pr(l:Lt):List Key×PV:=(l.nm,l.P)
def dF(ls:List Lt):List (List Key)×List PV:=bM (ls.map pr) [] []
theorem Eg{ks:5e4}{ps:List PV}{k:6e6}{p:PV}(h:ks.length=ps.length):(aP ks k).length=(bo ks ps k p).length:=by
 unfold aP bo;cases bX k ks with
 |true=>simp[h]
 |false=>simp[h]
theorem ph(ks:5e4)(k:6e6):(aP ks k).length<=ks.length+1:=by
 ext aP;split<;>simp
theorem wx(ks:5e4)(k q:6e6):bX q (aP ks k)=(decide (k=q)||bX q ks):=by
 ext aP;cases e:bX k ks with
 |true=>
  simp only[if_true];by_cases h:k=q
  ·subst h;rw[e];simp
  ·simp[h]
 |false=>
  simp only[YD,if_false];ext bX;rw[List.any_append];simp[Bool.or_comm]
theorem ZX(k q:6e6)(p:PV):∀{ks:5e4}{ps:List PV},ks.length=ps.length->bX k ks=true->cK ks ((ks.zip ps).map λz=>if z.1=k then p else z.2) q=if k=q then some p else cK ks ps q
 |[],ps,h,hi=>by cases hi
 |a::ks,[],h,hi=>by simp at h
 |a::ks,b::ps,h,hi=>by
  rw[Xr,Yq];ext cK;by_cases ha:a=k
  ·subst ha
   by_cases hq:a=q
   ·simp[hq]
   ·simp only[if_true,hq,if_false]
    by_cases rG:bX a ks=true
    ·rw[ZX a q p 7e6 rG,if_neg hq]
    ·have:((ks.zip ps).map λz=>if z.1=a then p else z.2)=ps:=by
      clear hi;induction ks generalizing ps with
      |nil=>cases ps with
       |nil=>rfl
       |cons _ _=>simp at h
      |cons c ks ih=>
       cases ps with
       |nil=>simp at h
       |cons d ps=>
        have hc:¬c=a:=λz=>rG (by ext bX;rw[Wj,z];simp);rw[Xr,Yq,ih (ps:=ps) 7e6 (λz=>rG (by unfold bX at z⊢;rw[Wj,z];simp))];simp[hc]
     rw[this]
  ·have rG:bX k ks=true:=by unfold bX at hi⊢;rw[Wj,decide_eq_false ha]at hi;simpa using hi
   simp only[ha,if_false];by_cases hq:a=q
   ·subst hq
    rw[if_pos rfl,if_pos rfl,if_neg (λz=>ha z.symm)]
   ·rw[if_neg hq,if_neg hq];show ZX k q p 7e6 rG
theorem ZdW(k q:6e6)(p:PV):∀{ks:5e4}{ps:List PV},ks.length=ps.length->bX k ks=false->cK (ks++[k]) (ps++[p]) q=if k=q then some p else cK ks ps q
 |[],[],h,hi=>by simp[cK]
 |[],_::_,h,hi=>by simp at h
 |a::ks,[],h,hi=>by simp at h
 |a::ks,b::ps,h,hi=>by
  ext bX hi;rw[Wj,Bool.or_eq_false_iff]at hi;have ha:¬a=k:=of_decide_eq_false hi.1;rw[VC,VC];ext cK;by_cases hq:a=q
  ·subst hq
   rw[if_pos rfl,if_pos rfl,if_neg (λz=>ha z.symm)]
  ·rw[if_neg hq,if_neg hq];show ZdW k q p 7e6 hi.2
theorem lI{ks:5e4}{ps:List PV}(k q:6e6)(p:PV)(h:ks.length=ps.length):cK (aP ks k) (bo ks ps k p) q=if k=q then some p else cK ks ps q:=by
 unfold aP bo;cases e:bX k ks with
 |true=>simp only[if_true];show ZX k q p h e
 |false=>simp only[YD,if_false];show ZdW k q p h e
theorem nS(q:6e6):∀(ls:List Lt)(ks:5e4)(ps:List PV),ks.length=ps.length->
  (∃l∈ls,l.nm=q/\cK (bM (ls.map pr) ks ps).1 (bM (ls.map pr) ks ps).2 q=some l.P/\bX q (bM (ls.map pr) ks ps).1=true)\/
  ((∀l∈ls,l.nm≠q)/\cK (bM (ls.map pr) ks ps).1 (bM (ls.map pr) ks ps).2 q=cK ks ps q/\bX q (bM (ls.map pr) ks ps).1=bX q ks)
 |[],ks,ps,h=>.inr ⟨(λ_ z=>(nomatch z)),rfl,rfl⟩
 |l::ls,ks,ps,h=>by
  rw[show bM ((l::ls).map pr) ks ps=bM (ls.map pr) (aP ks l.nm) (bo ks ps l.nm l.P)from rfl];rcases nS q ls (aP ks l.nm) (bo ks ps l.nm l.P) (Eg h)with⟨m,hm,e1,e2,e3⟩|⟨h1,h2,h3⟩
  ·show .inl ⟨m,YL _ hm,e1,e2,e3⟩
  ·by_cases hq:l.nm=q
   ·show .inl ⟨l,YS,hq,?_,?_⟩
    ·show h2.trans (by rw[lI _ _ _ h,if_pos hq])
    ·show h3.trans (by rw[wx,decide_eq_true hq];rfl)
   ·show .inr ⟨λm hm=>?_,?_,?_⟩
    ·rcases Yk.mp hm with rfl|hm
     ·show hq
     ·show h1 m hm
    ·show h2.trans (by rw[lI _ _ _ h,if_neg hq])
    ·show h3.trans (by rw[wx,decide_eq_false hq];rfl)
def Uq(ls:List Lt):Prop:=∀l∈ls,∀m∈ls,l.nm=m.nm->l=m
theorem i6{ls:List Lt}(u:Uq ls){l:Lt}(h:l∈ls):cK (dF ls).1 (dF ls).2 l.nm=some l.P/\bX l.nm (dF ls).1=true:=by
 rcases nS l.nm ls [] [] rfl with⟨m,hm,e1,e2,e3⟩|⟨h1,_⟩
 ·rw[u m hm l h e1]at e2;show⟨e2,e3⟩
 ·show absurd rfl (h1 l h)
theorem pW{ls:List Lt}{q:6e6}(h:∀l∈ls,l.nm≠q):bX q (dF ls).1=false:=by
 rcases nS q ls [] [] rfl with⟨m,hm,e1,e2,e3⟩|⟨h1,_,h3⟩
 ·show absurd e1 (h m hm)
 ·show h3
abbrev ZL:aq->M SV:=cb a9 7e3
theorem l4(C0:Cs):∀(ls:List Lt)(ρ:aq)(ks:5e4)(ps:List PV),ρ.length=1->ks.length+ls.length<=1000->
  gi (hName 0) fw ZL 2e8 C0.length 3e3 ρ (C0++[.aG ks ps])=some ((),C0++[.aG (bM (ls.map pr) ks ps).1 (bM (ls.map pr) ks ps).2])
 |[],ρ,ks,ps,hr,h=>rfl
 |l::ls,[o],ks,ps,hr,h=>by
  have ih:=l4 C0 ls [#[l.P]] (aP ks l.nm) (bo ks ps l.nm l.P) rfl (by have:=ph ks l.nm;simp at h;lia);have hl:ks.length<1000:=by simp at h;lia
  have hk:bP [PV.str l.h,.str l.d,.int l.n]=some l.nm:=zC l.nm;rw[Yq,Yq];change gi _ _ _ _ _ _ _ _=some ((),C0++[.aG (bM (ls.map pr) (aP ks l.nm) (bo ks ps l.nm l.P)).1 _]);ext gi;simp![hName,fw,ZL,Rj,AX,putD,hk,hl,ih];rfl
theorem uF(ls:List Lt)(C:Cs)(h:ls.length<=1000):cS [.v 8e6] C=some (.v (.aG (dF ls).1 (dF ls).2),C):=by
 have:=l4 C ls [none] [] [] rfl 7e6;have hb:mq=eT (jK (aL 2e8) ["letter"] [] (hName 0) fw ZL 2e8):=rfl;ext cS;rw[hb];generalize hz:(bM (ls.map pr) [] []:List (List Key)×List PV)=z at this;simp![jK,aL,dE,cX,this,dF,hz]
noncomputable def Hc:Str:="abcdefghijklmnopqrstuvwxyz"
def Kv(d:Int):Nat:=Hc.cps.toList.getD d.toNat 0
noncomputable def Qn (d:Int):Str:=(["","zq","x","qqzzx"]:List Str).getD d.toNat ""
theorem Kw:∀i j:Fin 26,Hc.cps.toList.getD i.1 0=Hc.cps.toList.getD j.1 0->i=j:=by decide +kernel
theorem FH{a b:Int}(ha:0<=a/\a<26)(hb:0<=b/\b<26)(h:Kv a=Kv b):a=b:=by
 have:=Kw ⟨a.toNat,by lia⟩ ⟨b.toNat,by lia⟩ h;have h2:a.toNat=b.toNat:=by simpa using this
 lia
theorem Js(d:Int)(h:0<=d/\d<26):gI (.str "abcdefghijklmnopqrstuvwxyz") (.int d)=some (.str ⟨[Kv d].toArray⟩):=by
 have hl:Hc.cps.toList.length=26:=by rfl
 have hd:d.toNat<Hc.cps.toList.length:=by lia
 have h3:d<((Hc.cps.toList.length:Nat):Int):=by lia
 change(gX Hc.cps.toList d).map _=_;unfold gX kI;rw[if_pos h.1,if_pos h3];change((Hc.cps.toList[d.toNat]?).map _)=_;ext Kv;rw[Ye hd,Yt,Ye hd];rfl
def wd(f s:Int)(j:Nat):Str:=(⟨[Kv ((f+s*j)%26)].toArray⟩:Str)++Qn ((f+j*j)%4)
theorem vc(d:Int)(h:0<=d/\d<4):(Qn d).length<=5:=by
 have:d=0\/d=1\/d=2\/d=3:=by lia
 rcases this with rfl|rfl|rfl|rfl<;>decide +kernel
theorem Jr(d:Int)(h:0<=d/\d<4):gI (.lst [.str "",.str "zq",.str "x",.str "qqzzx"]) (.int d)=some (.str (Qn d)):=by
 have:d=0\/d=1\/d=2\/d=3:=by lia
 rcases this with rfl|rfl|rfl|rfl<;>simp[gI,yl,gX,kI,Qn]
theorem w6(a b:Str):(a++b).cps=a.cps++b.cps:=rfl
theorem w5(a b:Str):(a++b).length=a.length+b.length:=by
 change(a.cps++b.cps).size=a.cps.size+b.cps.size;simp
theorem HF(f s:Int)(j:Nat):(wd f s j).length<=10:=by
 ext wd;rw[w5];have:=vc ((f+j*j)%4) ⟨XD _ 1e7,Xq _ 1e7⟩;change 1+_<=10;lia
theorem Mz(f s:Int)(j:Nat):(wd f s j).length≠4:=by
 ext wd;rw[w5];have h1:=XD (f+j*j) (show(4:Int)≠0 by decide);have h2:=Xq (f+j*j) (show(0:Int)<4 by decide);generalize(f+j*j)%4=d at h1 h2;have:d=0\/d=1\/d=2\/d=3:=by lia
 change 1+_≠4;rcases this with rfl|rfl|rfl|rfl<;>decide +kernel
def stepOk(s:Int):Prop:=s=1\/s=3\/s=5\/s=7\/s=9\/s=11
theorem HG{f s:Int}(hs:stepOk s){i j:Nat}(hi:i<9)(hj:j<9)(h:wd f s i=wd f s j):i=j:=by
 have h0:(wd f s i).cps[0]? = (wd f s j).cps[0]?:=by rw[h]
 ext wd h0;rw[w6,w6]at h0;have h1:Kv ((f+s*i)%26)=Kv ((f+s*j)%26):=by
  rw[Yax 2e6,Yax 2e6]at h0;simpa using h0
 have h2:=FH ⟨XD _ 1e7,Xq _ 1e7⟩ ⟨XD _ 1e7,Xq _ 1e7⟩ h1;rcases hs with rfl|rfl|rfl|rfl|rfl|rfl<;>lia
abbrev Lr:aq->M SV:=aB 7e8 (aB 7e5 4e0 (aB (g2 fM) (aB 7e8 5e7 (aB (g2 kF) (au 3) 2e8)) (mC (.int 26)))) (aB 7e5 (bF (dh (aa (mC (.str "")) (aa (mC (.str "zq")) (aa (mC (.str "x")) (aa (mC (.str "qqzzx")) af)))))) (aB (g2 fM) (aB 7e8 5e7 (aB (g2 kF) 2e8 2e8)) (mC (.int 4))))
theorem DQ(f s j:Int)(az c z:Str)(h1:gI (.str az) (.int ((f+s*j)%26))=some (.str c))(h2:gI (.lst [.str "",.str "zq",.str "x",.str "qqzzx"]) (.int ((f+j*j)%4))=some (.str z))(hl:c.length+z.length<=1000000)(hs:-18446744073709551616<s/\s<18446744073709551616)(hj:-18446744073709551616<j/\j<18446744073709551616)(C:Cs):
  Lr [#[.int j],#[.str az],#[.int f],#[.int s]] C=some (.v (.str (c++z)),C):=by
 simp![fR,hs,hj,h1,h2,hl]
theorem EA(c:Nat):(⟨[c].toArray⟩:Str).length=1:=rfl
theorem HE(f s:Int)(j:Nat)(hf:0<=f/\f<26)(hs:stepOk s)(hj:j<9)(C:Cs):Lr [#[(.int (0+(j:Int)))],#[.str "abcdefghijklmnopqrstuvwxyz"],#[.int f],#[.int s]] C=some (.v (.str (wd f s j)),C):=by
 rw[P8];ext wd;show DQ f s (j:Int) _ _ _ (Js _ ⟨XD _ 1e7,Xq _ 1e7⟩) (Jr _ ⟨XD _ 1e7,Xq _ 1e7⟩) ?_ ?_ ?_ C
 ·have h3:=vc ((f+j*j)%4) ⟨XD _ 1e7,Xq _ 1e7⟩
  rw[EA];lia
 ·ext stepOk hs;lia
 ·lia
theorem xi(k:Nat)(C:Cs)(h:GS C k):∃(ws:4e3)(C':Cs),dw [.c k,.v (.int 9)] C=some (.v (.lst (ws.map .str)),C')/\ws.length=9/\ws.Nodup/\(∀w∈ws,w.length<=10/\w.length≠4)/\kX k C C':=by
 obtain⟨d,C1,e1,d1,d2,a1⟩:=FR k 26 C h 1e7;obtain⟨s,C2,e2,s1,s2,a2⟩:=FR k 6 C1 a1.gs 1e7;have a:=a1.trans a2;obtain⟨st,ep,ow⟩:∃st,gI (.lst [.int 1,.int 3,.int 5,.int 7,.int 9,.int 11]) (.int s)=some (.int st)/\stepOk st:=by
  have:s=0\/s=1\/s=2\/s=3\/s=4\/s=5:=by lia
  rcases this with rfl|rfl|rfl|rfl|rfl|rfl
  ·show⟨1,rfl,.inl rfl⟩
  ·show⟨3,rfl,.inr 9e6⟩
  ·show⟨5,rfl,.inr (.inr 9e6)⟩
  ·show⟨7,rfl,.inr (.inr (.inr 9e6))⟩
  ·show⟨9,rfl,.inr (.inr (.inr (.inr 9e6)))⟩
  ·show⟨11,rfl,.inr (.inr (.inr (.inr (.inr rfl))))⟩
 have hF:dw=cN 2 3 (aA (a7 2 (mC (.str "abcdefghijklmnopqrstuvwxyz"))) (aA (a7 3 (cb ao (aa 2e8 (aa (mC (.int 26)) af)))) (aA (a7 4 (aB 7e5 (bF (dh (aa 8e0 (aa 7e9 (aa (mC (.int 5)) (aa (mC (.int 7)) (aa (mC (.int 9)) (aa (mC (.int 11)) af)))))))) (cb ao (aa 2e8 (aa (mC (.int 6)) af))))) (cY (bW (bg (aa 4e0 af)) ["_law_k"] [2,3,4] (hName 0) fw Lr))))):=rfl;rw[hF];have ec:=Md (te:=Lr) (f:=λp=>match p with|.int i=>.str (wd d st i.toNat)|_=>.aF) ((YB 9).map λ(j:Nat)=>PV.int (0+j)) [none,#[.str "abcdefghijklmnopqrstuvwxyz"],#[.int d],#[.int st]] [] C2 (λx hx=>by
  obtain⟨j,hj,rfl⟩:=Yy.mp hx;have:=HE d st j ⟨d1,d2⟩ ow (Y3.mp hj) C2;change Lr [#[(.int (0+(j:Int)))],_,_,_] C2=some (.v (.str (wd d st (0+(j:Int)).toNat)),C2);rw[show(0+(j:Int)).toNat=j by lia];show this)
 rw[WZ,Xd]at ec;have em:(YB 9).map ((λp=>match p with|.int i=>.str (wd d st i.toNat)|_=>.aF)∘λ(j:Nat)=>PV.int (0+(j:Int)))=((YB 9).map (wd d st)).map PV.str:=by
  rw[Xd];apply Yar;intro j hj;change PV.str (wd d st (0+(j:Int)).toNat)=_;rw[show(0+(j:Int)).toNat=j by lia];rfl
 rw[em]at ec;show⟨(YB 9).map (wd d st),C2,?_,by simp,?_,?_,a⟩
 ·have hr:ip [.v (.int 9)]=some ((YB 9).map λ(j:Nat)=>PV.int (0+j)):=rfl
  have QA:((YB 9).map λ(j:Nat)=>PV.int (0+j)).length<=100000:=by decide
  generalize((YB 9).map λ(j:Nat)=>PV.int (0+j))=rs at ec hr QA;generalize((YB 9).map (wd d st)).map PV.str=zs at ec;generalize("abcdefghijklmnopqrstuvwxyz":Str)=az at ec⊢;generalize Lr=te at ec;simp![e1,e2,ep,bW,bg,hr,QA,cX,ec,a.take]
 ·rw[Y0,Xx]
  show Uj (λ{x y} hx hy da e=>?_) (Y0.mp U3);show da (HG ow (Y3.mp hx) (Y3.mp hy) e)
 ·intro w hw
  obtain⟨j,_,rfl⟩:=Yy.mp hw;show⟨HF _ _ _,Mz _ _ _⟩
def look(ls:List Lt)(q:6e6):Option Lt:=ls.find? λl=>decide (l.nm=q)
theorem DG{ls:List Lt}{q:6e6}{l:Lt}(h:look ls q=some l):l∈ls/\l.nm=q:=by
 ext look h;have h2:=List.find?_some h;show⟨List.mem_of_find?_eq_some h,by simpa using h2⟩
theorem KP{ls:List Lt}{q:6e6}(h:look ls q=none):∀l∈ls,l.nm≠q:=by
 ext look h;intro l hl e;have:=List.find?_eq_none.mp h l hl;simp[e]at this
def chain(ls:List Lt):Nat->List Key->List Lt->List Lt
 |0,_,acc=>acc
 |n+1,q,acc=>match look ls q with
  |none=>acc
  |some l=>if bX q (acc.map Lt.nm)then acc else chain ls n l.fo (l::acc)
abbrev HC:aq->M Bool:=cZ (bz (aB (g2 (cJ false)) 4e0 2e8)) (bz (aB (g2 (cJ true)) 4e0 5e7))
abbrev MA:aq->M PF:=aA (i4 (aB (g2 gH) 2e8 4e0) 5e7 4e0) (a7 1 (cb aT (aa (aB (g2 gH) 2e8 4e0) af)))
theorem wu(q:6e6)(ks:5e4):bX q ks.reverse=bX q ks:=by ext bX;rw[List.any_reverse]
theorem len_sub{α:Type}:∀{a b:List α},a.Nodup->(∀x∈a,x∈b)->a.length<=b.length
 |[],b,_,_=>Y2 _
 |x::a,b,nd,h=>by
  obtain⟨b1,b2,rfl⟩:=Ybd (h x YS);rw[Xj]at nd;have:=len_sub (a:=a) (b:=b1++b2) nd.2 λy hy=>by
   have h1:=h y (YL _ hy);rcases Ym.mp h1 with h1|h1
   ·show Y4 _ h1
   ·rcases Yk.mp h1 with rfl|h1
    ·show absurd hy nd.1
    ·show Yo _ h1
  simp at this⊢;lia
theorem Q0{ls acc:List Lt}(nd:(acc.map Lt.nm).Nodup)(sub:∀l∈acc,l∈ls):acc.length<=ls.length:=by
 have h:=len_sub (b:=ls.map Lt.nm) nd λx hx=>by
  obtain⟨l,hl,rfl⟩:=Yy.mp hx;show Y9 (sub l hl)
 simpa using h
theorem ZdV{ls:List Lt}(u:Uq ls)(rE:ls.length<900)(k:Nat):∀(m:Nat)(q:6e6)(acc:List Lt)(C:Cs),C[k]? = some (.aG (acc.reverse.map Lt.nm) (acc.reverse.map Lt.P))->(acc.map Lt.nm).Nodup->(∀l∈acc,l∈ls)->ls.length<acc.length+m->
  ∃q',gg HC MA m [#[.aG (dF ls).1 (dF ls).2],#[tupK q],some (.c k)] C=some (.nx [#[.aG (dF ls).1 (dF ls).2],#[tupK q'],some (.c k)],C.set k (.aG ((chain ls m q acc).reverse.map Lt.nm) ((chain ls m q acc).reverse.map Lt.P)))
 |0,q,acc,C,hC,nd,sub,hm=>by have:=Q0 nd sub;lia
 |m+1,q,acc,C,hC,nd,sub,hm=>by
  have hk:bP (q.map kP)=some q:=zC q;have same:C.set k (.aG (acc.reverse.map Lt.nm) (acc.reverse.map Lt.P))=C:=by
   apply XE;intro j;by_cases hj:k=j
   ·subst hj;rw[setAt hC,hC]
   ·rw[Y5 hj]
  ext chain;cases hl:look ls q with
  |none=>
   have:=pW (KP hl);show⟨q,?_⟩;ext gg;simp[HC,cZ,bz,aB,aI,au,dM,g2,aN,cJ,tupK,hk,this,mB,L3,Pu.ret];simpa using same.symm
  |some l=>
   obtain⟨rF,LH⟩:=DG hl;obtain⟨e1,e2⟩:=i6 u rF;rw[LH]at e1 e2;by_cases hq:bX q (acc.map Lt.nm)=true
   ·have h2:bX q (acc.reverse.map Lt.nm)=true:=by rw[Ws,wu];show hq
    have Dz:bX q (acc.map Lt.nm).reverse=true:=by rw[←Ws];show h2
    show⟨q,?_⟩;ext gg;sleep 6;rw[if_pos hq];have Fe:C[k]? = some (.aG (acc.map Lt.nm).reverse (acc.map Lt.P).reverse):=by rw[hC,Ws,Ws]
    simp[HC,cZ,bz,aB,aI,au,dM,g2,aN,cJ,tupK,hk,e2,mB,L3,Pu.ret,Fe,Dz];simpa using same.symm
   ·have h2:bX q (acc.reverse.map Lt.nm)=false:=by rw[Ws,wu];simpa using hq
    have hlen:=Q0 nd sub;have BO:aP (acc.reverse.map Lt.nm) q=((l::acc).reverse.map Lt.nm):=by ext aP;rw[h2];simp[LH]
    have hpv:bo (acc.reverse.map Lt.nm) (acc.reverse.map Lt.P) q l.P=((l::acc).reverse.map Lt.P):=by ext bo;rw[h2];simp
    obtain⟨q',ih⟩:=ZdV u rE k m l.fo (l::acc) (C.set k (.aG ((l::acc).reverse.map Lt.nm) ((l::acc).reverse.map Lt.P))) (setAt hC) (by rw[Yq,Xj,LH];show⟨λz=>hq (Ma.mpr z),nd⟩) (λx hx=>by
     rcases Yk.mp hx with rfl|hx
     ·show rF
     ·show sub x hx) (by simp;lia)
    show⟨q',?_⟩;rw[List.set_set]at ih;ext gg;sleep 6;rw[if_neg hq];have QA:acc.length<1000:=by lia
    generalize hR:chain ls m l.fo (l::acc)=R at ih⊢;have step:(λρ=>MA ρ) [#[.aG (dF ls).1 (dF ls).2],#[tupK q],some (.c k)] C=some (.nx [#[.aG (dF ls).1 (dF ls).2],#[tupK l.fo],some (.c k)],C.set k (.aG ((l::acc).reverse.map Lt.nm) ((l::acc).reverse.map Lt.P))):=by
     have ee:z8 (.v l.P) (.c k) (.v (.tup (q.map kP))) [#[.aG (dF ls).1 (dF ls).2],#[tupK q],some (.c k)] C=some (.nx [#[.aG (dF ls).1 (dF ls).2],#[tupK q],some (.c k)],C.set k (.aG ((l::acc).reverse.map Lt.nm) ((l::acc).reverse.map Lt.P))):=by
      ext z8;simp only[hC,hk];rw[if_pos (by simpa using QA),BO,hpv]
     simp only[MA,aA,i4,a7,aB,aI,au,dM,g2,aN,gH,tupK,hk,e1,List.getElem?_cons_zero,WJ,VO]at ee⊢;simp[ee,cb,aa,af,aI,au,dM,Pu.ret,Rc,hk,e1,tupK,aB,g2,aN,gH]
    have test:HC [#[.aG (dF ls).1 (dF ls).2],#[tupK q],some (.c k)] C=some (true,C):=by
     have Fe:C[k]? = some (.aG (acc.map Lt.nm).reverse (acc.map Lt.P).reverse):=by rw[hC,Ws,Ws]
     have Dz:bX q (acc.map Lt.nm).reverse=false:=by rw[←Ws];show h2
     simp[HC,cZ,bz,aB,aI,au,dM,g2,aN,cJ,tupK,hk,e2,mB,L3,Pu.ret,Fe,Dz]
    ext aI;rw[test];sleep 6;rw[if_pos rfl];dsimp only at step;rw[step];show ih
def dO(ls:List Lt)(q:6e6):List Lt:=chain ls 1000 q []
def Lk:List Lt->Prop
 |a::b::r=>b.fo=a.nm/\Lk (b::r)
 |_=>True
theorem j8{ls:List Lt}:∀(m:Nat)(q:6e6)(acc:List Lt),(acc.map Lt.nm).Nodup->(∀l∈acc,l∈ls)->Lk acc->(∀a r,acc=a::r->q=a.fo)->ls.length<acc.length+m->
  ((chain ls m q acc).map Lt.nm).Nodup/\(∀l∈chain ls m q acc,l∈ls)/\Lk (chain ls m q acc)/\(∃pre,chain ls m q acc=pre++acc)/\∀a r,chain ls m q acc=a::r->(∀l∈ls,l.nm≠a.fo)\/a.fo∈(chain ls m q acc).map Lt.nm
 |0,q,acc,nd,sub,lk,hq,hm=>by have:=Q0 nd sub;lia
 |m+1,q,acc,nd,sub,lk,hq,hm=>by
  ext chain;cases hl:look ls q with
  |none=>show⟨nd,sub,lk,⟨[],rfl⟩,λa r e=>.inl (by rw[←hq a r e];show KP hl)⟩
  |some l=>
   obtain⟨rF,LH⟩:=DG hl;sleep 6;by_cases hi:bX q (acc.map Lt.nm)=true
   ·rw[if_pos hi]
    show⟨nd,sub,lk,⟨[],rfl⟩,λa r e=>.inr (by rw[←hq a r e];show Ma.mp hi)⟩
   ·rw[if_neg hi]
    have ih:=j8 (ls:=ls) m l.fo (l::acc) (by rw[Yq,Xj,LH];show⟨λz=>hi (Ma.mpr z),nd⟩) (λx hx=>by
     rcases Yk.mp hx with rfl|hx
     ·show rF
     ·show sub x hx) (by
     cases acc with
     |nil=>trivial
     |cons a r=>show⟨by rw[LH];show(hq a r rfl).symm,lk⟩) (λa r e=>by cases e;rfl) (by simp;lia)
    obtain⟨a1,a2,a3,⟨pre,a4⟩,a5⟩:=ih;show⟨a1,a2,a3,⟨pre++[l],by rw[a4];simp⟩,a5⟩
theorem sh{ls:List Lt}(u:Uq ls)(rE:ls.length<900){l:Lt}(h:l∈ls):
  ((dO ls l.nm).map Lt.nm).Nodup/\(∀m∈dO ls l.nm,m∈ls)/\Lk (dO ls l.nm)/\(∃pre,dO ls l.nm=pre++[l])/\∀a r,dO ls l.nm=a::r->(∀m∈ls,m.nm≠a.fo)\/a.fo∈(dO ls l.nm).map Lt.nm:=by
 have Oq:look ls l.nm=some l:=by
  cases e:look ls l.nm with
  |none=>show absurd rfl (KP e l h)
  |some m=>obtain⟨a,b⟩:=DG e;rw[u m a l h b]
 have e:dO ls l.nm=chain ls 999 l.fo [l]:=by
  ext dO;change(match look ls l.nm with|none=>[]|some l'=>if bX l.nm (([]:List Lt).map Lt.nm)then[]else chain ls 999 l'.fo [l'])=_;rw[Oq];rfl
 rw[e];show j8 999 l.fo [l] 2e6 7e6 trivial (λa r e=>by cases e;rfl) 6e2
theorem yQ{ls:List Lt}(rE:ls.length<900)(q:6e6):(dO ls q).length<=ls.length:=by
 obtain⟨a1,a2,_⟩:=j8 (ls:=ls) 1000 q [] 2e6 (λ_ z=>(nomatch z)) trivial (λa r e=>by cases e) 6e2;show Q0 a1 a2
theorem mL{ls:List Lt}(u:Uq ls)(rE:ls.length<900)(q:6e6)(C:Cs):cv [.v (.aG (dF ls).1 (dF ls).2),.v (tupK q)] C=some (.v (.lst ((dO ls q).map Lt.P)),C):=by
 obtain⟨q',e⟩:=ZdV u rE C.length 1000 q [] (C++[.aG [] []]) 2e6 2e6 (λ_ z=>(nomatch z)) 6e2;have hl:=yQ rE q;have hb:iC=aA (vP 2) (aA (nh HC MA) (cY (vN (bF (fV 5e7)) (EJ 8e0)))):=rfl;have e':nh HC MA [#[.aG (dF ls).1 (dF ls).2],#[tupK q],some 9e7] (C++[.aG [] []])=some (.nx [#[.aG (dF ls).1 (dF ls).2],#[tupK q'],some 9e7],C++[.aG ((dO ls q).reverse.map Lt.nm) ((dO ls q).reverse.map Lt.P)]):=by
  have e2:(C++[PV.aG [] []]).set C.length (.aG ((dO ls q).reverse.map Lt.nm) ((dO ls q).reverse.map Lt.P))=C++[.aG ((dO ls q).reverse.map Lt.nm) ((dO ls q).reverse.map Lt.P)]:=by simp
  rw[←e2];show e
 ext cv;rw[hb];generalize dO ls q=R at e' hl;have hR:R.length<=1000:=by lia
 simp[cN,aA,vP,aI,e',cY,vN,bF,fV,au,dM,zM,aN,hR,EJ,IT,mC,Pu.ret,D9,iG,Pu.intD]
structure Good(ls:List Lt):Prop where
 nd:(ls.map Lt.nm).Nodup
 ln:∀l∈ls,l.h.length<=10/\l.d.length<=10
 gs:∀l∈ls,l.gs=[]
 fF:ls.length<=54
theorem F9:∀{ls:List Lt},(ls.map Lt.nm).Nodup->Uq ls
 |[],_=>λ_ h=>(nomatch h)
 |a::ls,h=>by
  rw[Yq,Xj]at h;intro l hl m hm e;rcases Yk.mp hl with rfl|GJ
  ·rcases Yk.mp hm with rfl|rD
   ·rfl
   ·show absurd (e▸Y9 rD) h.1
  ·rcases Yk.mp hm with rfl|rD
   ·show absurd (e▸Y9 GJ) h.1
   ·show F9 h.2 l GJ m rD e
theorem Good.uq{ls:List Lt}(g:Good ls):Uq ls:=F9 g.nd
abbrev DD(ls:List Lt):PV:=.aG (dF ls).1 (dF ls).2
theorem BK(neg:Bool)(a:6e6)(dk:5e4)(dp:List PV):cJ neg (tupK a) (.aG dk dp)=some (.bl (if neg then !bX a dk else bX a dk)):=by
 unfold tupK cJ;simp only[zC]
theorem GC(a:6e6)(dk:5e4)(dp:List PV):gH (.aG dk dp) (tupK a)=cK dk dp a:=by
 unfold tupK gH;simp only[zC]
theorem P_4(l:Lt):gI l.P (.int 4)=some (.tup (l.gs.map tupK)):=by simp[Lt.P,gI,yl,gX,kI]
theorem RU(l:Lt):gI l.P (.int 5)=some (.int l.t):=by simp[Lt.P,gI,yl,gX,kI]
theorem nr{ls:List Lt}(u:Uq ls){l:Lt}(h:l∈ls):look ls l.nm=some l:=by
 cases e:look ls l.nm with
 |none=>show absurd rfl (KP e l h)
 |some m=>obtain⟨a,b⟩:=DG e;rw[u m a l h b]
theorem Qk{ls:List Lt}(u:Uq ls)(q:6e6):cJ false (tupK q) (DD ls)=some (.bl (look ls q).isSome):=by
 have e1:=BK false q (dF ls).1 (dF ls).2;cases e:look ls q with
 |none=>rw[pW (KP e)]at e1;show e1
 |some m=>
  obtain⟨a,b⟩:=DG e;have:=(i6 u a).2;rw[b]at this;rw[this]at e1;show e1
theorem Lo{ls:List Lt}(u:Uq ls){q:6e6}{m:Lt}(h:look ls q=some m):gH (DD ls) (tupK q)=some m.P:=by
 have e1:=GC q (dF ls).1 (dF ls).2;obtain⟨a,b⟩:=DG h;have:=(i6 u a).1;rw[b]at this;rw[this]at e1;show e1
def dg(ls:List Lt)(l:Lt):Bool:=match look ls l.fo with
 |some m=>decide (l.t<m.t)
 |none=>false
theorem tX{ls:List Lt}(u:Uq ls)(l:Lt)(C:Cs):cQ [.v (DD ls),.v l.P] C=some (.v (.bl (dg ls l)),C):=by
 have e1:=Rc l C;have e2:=Qk u l.fo;have e5:=RU l;ext dg;cases e:look ls l.fo with
 |none=>
  rw[e]at e2;have e2:cJ false (tupK l.fo) (DD ls)=some (.bl false):=e2;generalize l.P=LP at *;generalize tupK l.fo=FO at *;sleep 4;simp![cQ,e1,e2]
 |some m=>
  rw[e]at e2;have e2:cJ false (tupK l.fo) (DD ls)=some (.bl true):=e2;have e3:=Lo u e;have e6:=RU m;generalize l.P=LP at *;generalize m.P=MP at *;generalize tupK l.fo=FO at *;sleep 4;simp![cQ,e1,e2,e3,e5,e6]
theorem Mh{a b:6e6}(h:tupK a=tupK b):a=b:=by
 have h1:=zC a;have h2:=zC b;have:a.map kP=b.map kP:=by ext tupK h;show PV.tup.inj h
 rw[this,h2]at h1;show(YR h1).symm
theorem B'(a b:6e6):aE (tupK a) (tupK b)=decide (a=b):=by
 have:=xa (tupK a) (q:=tupK b) (De a) (De b);by_cases h:a=b
 ·rw[decide_eq_true h];show this.mpr (by rw[h])
 ·rw[decide_eq_false h]
  cases e:aE (tupK a) (tupK b)with
  |false=>rfl
  |true=>show absurd (Mh (this.mp e)) h
theorem lY(a b:6e6):b8 aE (tupK a) (tupK b)=some (.bl (decide (a=b))):=by
 have:=Me a;ext b8;rw[KR,KR,B',if_pos 6e2]
def dC(ls:List Lt)(l:Lt):Bool:=match dO ls l.nm with
 |a::_=>decide (a.fo=l.nm)
 |[]=>false
theorem p9{ls:List Lt}(g:Good ls){l:Lt}(h:l∈ls)(C:Cs):cP [.v (DD ls),.v l.P] C=some (.v (.bl (dC ls l)),C):=by
 have e1:=Rj l C;have rE:ls.length<900:=by have:=g.fF;lia
 have e2:=mL g.uq rE l.nm C;obtain⟨_,_,_,⟨pre,hr⟩,_⟩:=sh g.uq rE h;ext dC;cases hR:dO ls l.nm with
 |nil=>rw[hR]at hr;simp at hr
 |cons a r=>
  rw[hR]at e2;have e3:=Rc a C;have e4:=lY a.fo l.nm;have e5:gI (.lst (a.P::r.map Lt.P)) (.int 0)=some a.P:=by simp[gI,yl,gX,kI]
  rw[Yq]at e2;sleep 6;generalize r.map Lt.P=RP at *;generalize l.P=LP at *;generalize a.P=AP at *;generalize tupK a.fo=FO at *;generalize tupK l.nm=NM at *;have e2:cv [.v (DD ls),.v NM] C=some (.v (.lst (AP::RP)),C):=e2;sleep 4;generalize PV.lst (AP::RP)=W at *;simp![cP,e1,e2,e3,e4,e5]
theorem ny{l:Lt}(h:l.gs=[])(D:PV)(s:Int)(C:Cs):cy [.v D,.v l.P,.v (.int s)] C=some (.v (.bl false),C):=by
 have e4:=P_4 l;rw[h]at e4;have e4:gI l.P (.int 4)=some (.tup []):=e4;generalize l.P=LP at *;simp![cy,bW,aL,e4,dE,cX,gh,CY,dH]
theorem qc(l:Lt)(s:Int)(C:Cs):cR [.v (.aG [] []),.v l.P,.v (.int s)] C=some (.v (.bl false),C):=by
 have e1:=Rj l C;have e2:cJ false (tupK l.nm) (.aG [] [])=some (.bl false):=BK false l.nm [] [];generalize l.P=LP at *;generalize tupK l.nm=NM at *;generalize PV.aG [] []=D at *;simp![cR,e1,e2]
def uA(w:Str)(l:Lt):PV:=.tup [.str w,tupK l.nm]
def SW(b a:Bool)(l:Lt):List PV:=(if b then[uA "back" l]else[])++(if a then[uA "loose" l]else[])
def j1:aq->M PF:=a7 4 (cb a9 (aa 4e0 af))
def jA:aq->M (List SV):=aa (cb cQ (aa 2e8 (aa 4e0 af))) (aa (cb cP (aa 2e8 (aa 4e0 af))) (aa (cb cy (aa 2e8 (aa 4e0 5e5))) (aa (cb cR (aa 5e7 (aa 4e0 5e5))) af)))
def jE:aq->M SV:=aZ (aa 2e8 (aa 5e7 af))
def j2:aq->M PF:=ni 5 ["back","loose","behind","ahead"] jA ["word","is_so"] [4] (nH (dc (hName 0) (dc (hName 1) nI)) 2) (pT 4e0) jE
theorem pR:fu=aA j1 j2:=rfl
theorem Fu(b a:Bool)(x:PV)(C:Cs):∃r,bY (nH (dc (hName 0) (dc (hName 1) nI)) 2) (pT 4e0) (cL jE []) (ie ["back","loose","behind","ahead"] [.bl b,.bl a,.bl false,.bl false]) [none,none,#[x]] [] C=some ((r,(if b then[.tup [.str "back",x]]else[])++(if a then[.tup [.str "loose",x]]else[])),C):=by
 cases b<;>cases a<;>show⟨_,rfl⟩
theorem pS{ls:List Lt}(g:Good ls){l:Lt}(h:l∈ls)(s:Int)(C:Cs):cm [.v (DD ls),.v l.P,.v (.aG [] []),.v (.int s)] C=some (.v (.lst (SW (dg ls l) (dC ls l) l)),C):=by
 have e1:=Rj l C;have e2:=tX g.uq l C;have e3:=p9 g h C;have e4:=ny (g.gs l h) (DD ls) s C;have e5:=qc l s C;obtain⟨r,e6⟩:=Fu (dg ls l) (dC ls l) (tupK l.nm) C;unfold SW uA;generalize dg ls l=b at *;generalize dC ls l=a at *;generalize(if b then[PV.tup [.str "back",tupK l.nm]]else[])++(if a then[PV.tup [.str "loose",tupK l.nm]]else[])=R at *;generalize tupK l.nm=NM at *;sleep 4;generalize l.P=LP at *;generalize PV.aG [] []=E at *;have s1:j1 [#[D],#[LP],#[E],#[.int s],none,none] C=some (.nx [#[D],#[LP],#[E],#[.int s],#[NM],none],C):=by
  simp![j1,e1]
 have sA:jA [#[D],#[LP],#[E],#[.int s],#[NM],none] C=some ([.v (.bl b),.v (.bl a),.v (.bl false),.v (.bl false)],C):=by
  simp![jA,e2,e3,e4,e5]
 have s2:j2 [#[D],#[LP],#[E],#[.int s],#[NM],none] C=some (.rf R,C):=by
  have hk:(["back","loose","behind","ahead"]:List Str).all (λk=>decide (k.length<=1000))=true:=by decide +kernel
  ext j2;generalize(["back","loose","behind","ahead"]:List Str)=KS at *;unfold ni aI;rw[sA];have Ov:∀x∈KS,x.length<=1000:=λx hx=>of_decide_eq_true (YW.mp hk x hx);simp[Pu.plain,cX,e6,Pu.ret];rw[if_pos Ov];simp only[e6]
 have run:fu [#[D],#[LP],#[E],#[.int s],none,none] C=some (.rf R,C):=by
  rw[pR,gR s1];show s2
 ext cm;generalize fu=bb at *;simp![run]
def aH(l:Lt):PV:=tupK l.nm
theorem G7:∀(ls:List Lt)(ks:5e4)(ps:List PV),(ks++ls.map Lt.nm).Nodup->bM (ls.map pr) ks ps=(ks++ls.map Lt.nm,ps++ls.map Lt.P)
 |[],ks,ps,_=>by simp[bM]
 |l::ls,ks,ps,h=>by
  rw[show bM ((l::ls).map pr) ks ps=bM (ls.map pr) (aP ks l.nm) (bo ks ps l.nm l.P)from rfl];have hk:bX l.nm ks=false:=by
   cases e:bX l.nm ks with
   |false=>rfl
   |true=>
    rw[Xl]at h;show absurd rfl (h.2.2 l.nm (Ma.mp e) l.nm 2e6)
  have e1:aP ks l.nm=ks++[l.nm]:=by ext aP;rw[hk];rfl
  have e2:bo ks ps l.nm l.P=ps++[l.P]:=by ext bo;rw[hk];rfl
  rw[e1,e2,G7 ls _ _ 7e6];simp
theorem qB{ls:List Lt}(h:(ls.map Lt.nm).Nodup):dF ls=(ls.map Lt.nm,ls.map Lt.P):=by
 ext dF;rw[G7 ls [] [] 7e6];simp
theorem tF(t u:Lt):cj (aH t) (aH u)=some (lT (aH t) (aH u)):=by
 have h:∃c,cj (aH t) (aH u)=some c:=by
  ext aH;rw[AX,AX];unfold cj cD;split
  ·ext cD;split
   ·ext cD;split
    ·ext cD;show⟨_,rfl⟩
    ·ext cj;show⟨_,rfl⟩
   ·ext cj;show⟨_,rfl⟩
  ·ext cj;show⟨_,rfl⟩
 obtain⟨c,e⟩:=h;rw[e,tG _ e]
theorem all_map{α:Type}{f:α->PV}(g:PV->Bool)(ts:List α)(h:∀t,g (f t)=true):(ts.map f).all g=true:=by
 rw[YW];intro x hx;obtain⟨t,_,rfl⟩:=Yy.mp hx;show h t
theorem uz(ts:List Lt):b5 (ts.map aH)=true:=all_map _ ts λt=>all_map _ ts λu=>by rw[tF];rfl
theorem mU(ts:List Lt):aO (ts.map aH)=true:=Q8 (f:=aH) (λt=>De t.nm) ts
theorem z4(ts:List Lt)(h:ts.length<64):bN (ts.map aH)=some (fy (ts.map aH)):=by
 have hd:cA (ts.map aH)<=1:=Mf (f:=aH) (λt=>Me t.nm) ts;show jl (Py (f:=aH) (λt=>KR t.nm) ts) 1e0 ?_ ?_ (uz ts) (mU ts)
 ·rw[Yj];change _<4096;lia
 ·ext sortable;rw[all_map (λp=>bx p==4) ts λt=>rfl];simp
theorem ng{α β:Type}(f:α->β):∀{xs:List β}{ls:List α},xs.Perm (ls.map f)->∃us:List α,xs=us.map f/\us.Perm ls:=by
 intro xs;induction xs with
 |nil=>intro ls p;have:=p.length_eq;cases ls with
  |nil=>show⟨[],rfl,.nil⟩
  |cons _ _=>simp at this
 |cons x xs ih=>
  intro ls p;obtain⟨a,ha,rfl⟩:=Yy.mp (p.mem_iff.mp 6e9);obtain⟨l1,l2,rfl⟩:=Ybd ha;have p2:xs.Perm ((l1++l2).map f):=by
   rw[YX,Yq]at p;have:=p.trans (WH);rw[YX];show this.cons_inv
  obtain⟨us,rfl,pu⟩:=ih p2;show⟨a::us,rfl,(pu.cons a).trans WH.symm⟩
theorem DW(ts:List Lt):∃us:List Lt,fy (ts.map aH)=us.map aH/\us.Perm ts:=ng aH (PQ (uz ts) (mU ts))
noncomputable def eN:List Lt->List (Lt×Lt)
 |[]=>[]
 |x::xs=>xs.map (λy=>(x,y))++eN xs
theorem vq(u:Lt)(p:Lt×Lt):∀g:List Lt,p∈eN (g++[u])↔p∈eN g\/(p.2=u/\p.1∈g)
 |[]=>by simp[eN]
 |x::g=>by
  rw[VC,eN,eN,Ym,Ym,vq u p g,YX,Ym];constructor
  ·rintro((h|h)|h|⟨h1,h2⟩)
   ·show .inl (.inl h)
   ·have h:p=(x,u):=by simpa using h
    rw[h];show .inr ⟨rfl,.head _⟩
   ·show .inl (.inr h)
   ·show .inr ⟨h1,.tail _ h2⟩
  ·rintro((h|h)|⟨h1,h2⟩)
   ·show .inl (.inl h)
   ·show .inr (.inl h)
   ·rcases Yk.mp h2 with e|h2
    ·show .inl (.inr ?_)
     obtain⟨p1,p2⟩:=p;dsimp only at h1 e;subst h1 e;simp
    ·show .inr (.inr ⟨h1,h2⟩)
inductive GR:List (List Key)->List (List Lt)->Prop
 |nil:GR [] []
 |cons {k:List Key} {g:List Lt} {ks:List (List Key)} {gs:List (List Lt)}:(∀u∈g,u.fo=k)->g≠[]->k∉ks->GR ks gs->GR (k::ks) (g::gs)
def gP(gs:List (List Lt)):List 3e0:=gs.map λg=>g.map aH
theorem GR.key{ks:5e4}{gs:List (List Lt)}(h:GR ks gs):∀u∈gs.flatten,u.fo∈ks:=by
 induction h with
 |nil=>intro u hu;simp at hu
 |@cons k g ks gs hg da hk r ih=>
  intro u hu;rw[Xz]at hu;rcases Ym.mp hu with q|q
  ·rw[hg u q];show .head _
  ·show .tail _ (ih u q)
theorem GR.add(u:Lt){ks:5e4}{gs:List (List Lt)}(h:GR ks gs):∃wG,kc ks (gP gs) u.fo (aH u)=gP wG/\GR (aP ks u.fo) wG/\wG.flatten.Perm (u::gs.flatten)/\∀p,p∈wG.flatMap eN↔p∈gs.flatMap eN\/(p.2=u/\p.1∈gs.flatten/\p.1.fo=u.fo):=by
 induction h with
 |nil=>show⟨[[u]],rfl,.cons 2e6 2e6 2e6 .nil,by simp,λp=>by simp[eN]⟩
 |@cons k g ks gs hg da hk r ih=>
  by_cases e:k=u.fo
  ·show⟨(g++[u])::gs,?_,?_,?_,λp=>?_⟩
   ·ext gP;rw[Yq];ext kc;rw[if_pos e];simp
   ·ext aP;rw[show bX u.fo (k::ks)=true from by ext bX;rw[Wj,decide_eq_true e];rfl,if_pos rfl]
    show .cons (λv hv=>by
     rcases Ym.mp hv with q|q
     ·show hg v q
     ·rw[Yi.mp q];show e.symm) (by simp) hk r
   ·rw[Xz,Xz,Yd]
    show WH
   ·rw[Wv,Wv,Ym,Ym,vq,Xz,Ym]
    constructor
    ·rintro((h|⟨h1,h2⟩)|h)
     ·show .inl (.inl h)
     ·show .inr ⟨h1,.inl h2,(hg _ h2).trans e⟩
     ·show .inl (.inr h)
    ·rintro((h|h)|⟨h1,h2|h2,h3⟩)
     ·show .inl (.inl h)
     ·show .inr h
     ·show .inl (.inr ⟨h1,h2⟩)
     ·show absurd (r.key _ h2) (by rw[h3,←e];show hk)
  ·obtain⟨wG,e1,r1,p1,m1⟩:=ih
   show⟨g::wG,?_,?_,?_,λp=>?_⟩
   ·unfold gP at e1⊢;rw[Yq];ext kc;rw[if_neg e,e1];rfl
   ·have:aP (k::ks) u.fo=k::aP ks u.fo:=by
     ext aP;rw[show bX u.fo (k::ks)=bX u.fo ks from by ext bX;rw[Wj,decide_eq_false e];rfl];split<;>rfl
    rw[this];show .cons hg da (λz=>?_) r1;ext aP z;split at z
    ·show hk z
    ·rcases Ym.mp z with z|z
     ·show hk z
     ·show e (Yi.mp z)
   ·rw[Xz,Xz]
    show(p1.append_left g).trans WH
   ·rw[Wv,Wv,Ym,Ym,m1,Xz,Ym]
    constructor
    ·rintro(h|h|⟨h1,h2,h3⟩)
     ·show .inl (.inl h)
     ·show .inl (.inr h)
     ·show .inr ⟨h1,.inr h2,h3⟩
    ·rintro((h|h)|⟨h1,h2|h2,h3⟩)
     ·show .inl h
     ·show .inr (.inl h)
     ·show absurd ((hg _ h2).symm.trans h3) e
     ·show .inr (.inr ⟨h1,h2,h3⟩)
theorem GR.most{ks:5e4}{gs:List (List Lt)}(h:GR ks gs):gs.length<=gs.flatten.length:=by
 induction h with
 |nil=>simp
 |@cons k g ks gs hg da hk r ih=>
  have:1<=g.length:=by cases g with
   |nil=>show absurd rfl da
   |cons _ _=>simp
  rw[Xz,Yf,Yv];lia
theorem GR.same{ks:5e4}{gs:List (List Lt)}(h:GR ks gs):∀g∈gs,∀a∈g,∀b∈g,a.fo=b.fo:=by
 induction h with
 |nil=>intro g hg;cases hg
 |cons hg _ _ r ih=>
  intro g h a ha b hb;rcases Yk.mp h with rfl|h
  ·rw[hg a ha,hg b hb]
  ·show ih g h a ha b hb
theorem Br{α:Type}{gs:List (List α)}{g:List α}(h:g∈gs):g.length<=gs.flatten.length:=by
 induction gs with
 |nil=>cases h
 |cons a gs ih=>
  rw[Xz,Yf];rcases Yk.mp h with rfl|h
  ·lia
  ·have:=ih h;lia
def tK:aq->M SV:=cb aT (aa (aB (g2 gH) 2e8 5e7) af)
theorem z9{ls:List Lt}(u:Uq ls)(L:Nat):∀(us:List Lt)(ks:5e4)(gs:List (List Lt))(x2:Option PV),(∀v∈us,v∈ls)->GR ks gs->gs.flatten.length+us.length<=100->ks.length+us.length<=100->
  ∃tP wG y2,dz 1 L (hName 2) tK 5e7 (us.map aH) [#[DD ls],some (.c L),x2.map .v] ks (gP gs)=some ([#[DD ls],#[.aG tP ((gP wG).map .lst)],y2],tP,gP wG)/\GR tP wG/\wG.flatten.Perm (us++gs.flatten)/\∀p,p∈wG.flatMap eN↔p∈gs.flatMap eN\/(p.1.fo=p.2.fo/\((p∈eN us)\/(p.1∈gs.flatten/\p.2∈us)))
 |[],ks,gs,x2,_,r,_,_=>by
  show⟨ks,gs,x2.map .v,?_,r,by simp,λp=>by simp[eN]⟩;have hc:Nv 1 L [#[DD ls],some (.c L),x2.map .v]=true:=by
   cases x2<;>simp[Nv]
  ext dz;rw[P'];sleep 6;rw[if_pos hc];rfl
 |v::us,ks,gs,x2,hu,r,hl,oy=>by
  obtain⟨QQ,e1,r1,p1,m1⟩:=r.add v;have BO:=ph ks v.fo;obtain⟨tP,wG,y2,e2,r2,p2,m2⟩:=z9 u L us (aP ks v.fo) QQ (some (aH v)) (λw hw=>hu w (.tail _ hw)) r1 (by have:=p1.length_eq;rw[Yv]at this hl;lia) (by rw[Yv]at oy;lia);show⟨tP,wG,y2,?_,r2,?_,λp=>?_⟩
  ·have hx:=GC v.nm (dF ls).1 (dF ls).2
   rw[(i6 u (hu v 6e9)).1]at hx;have nB:gH (DD ls) (aH v)=some v.P:=hx;have hf:=Rc v [];have hk:tK [#[DD ls],none,#[aH v]] []=some (.v (.tup (v.fo.map kP)),[]):=by
    have:tupK v.fo=.tup (v.fo.map kP):=rfl;rw[←this];generalize tupK v.fo=FO at *;generalize aH v=NV at *;generalize v.P=VP at *;sleep 4;simp![tK,nB,hf]
   have hp:bf (aH v)=true:=De v.nm;have ha:(gP gs).all (λl=>decide (l.length<1000))=true:=by
    rw[YW];intro l GJ;obtain⟨g,hg,rfl⟩:=Yy.mp GJ;have:=Br hg;rw[Yj];show decide_eq_true 1e0
   have nE:ks.length<1000:=by lia
   rw[Yq];ext dz;have g1:([#[DD ls],some (.c L),#[aH v]]:aq)[1]? = some (some (.c L)):=rfl;have JM:gK 0 [#[DD ls],some (.c L),#[aH v]]=[#[DD ls],none,#[aH v]]:=rfl;have hv:au 2 [#[DD ls],none,#[aH v]] []=some (.v (aH v),[]):=rfl;have hg:hName 2 (aH v) [#[DD ls],some (.c L),x2.map .v]=some [#[DD ls],some (.c L),#[aH v]]:=rfl;have hck:(bf (aH v)&&decide (ks.length<1000)&&(gP gs).all λl=>decide (l.length<1000))=true:=by rw[hp,ha,decide_eq_true nE];rfl
   simp only[hg,g1,if_true,JM,hk,zC,hv,hck,e1];show e2
  ·show p2.trans ((p1.append_left us).trans WH)
  ·rw[m2,m1,eN,Ym]
   have hm:p∈us.map (λy=>(v,y))↔p.1=v/\p.2∈us:=by
    constructor
    ·intro h;obtain⟨y,hy,rfl⟩:=Yy.mp h;show⟨rfl,hy⟩
    ·rintro⟨h1,h2⟩
     obtain⟨p1,p2⟩:=p;dsimp only at h1 h2;subst h1;show Y9 h2
   have h1:p.1∈QQ.flatten↔p.1=v\/p.1∈gs.flatten:=by rw[p1.mem_iff,Yk]
   rw[hm,h1,Yk];constructor
   ·rintro((h|⟨h1,h2,h3⟩)|⟨h1,h2|⟨h2|h2,h3⟩⟩)
    ·show .inl h
    ·show .inr ⟨by rw[h1];show h3,.inr ⟨h2,.inl h1⟩⟩
    ·show .inr ⟨h1,.inl (.inr h2)⟩
    ·show .inr ⟨h1,.inl (.inl ⟨h2,h3⟩)⟩
    ·show .inr ⟨h1,.inr ⟨h2,.inr h3⟩⟩
   ·rintro(h|⟨h1,(⟨h2,h3⟩|h2)|⟨h2,h3|h3⟩⟩)
    ·show .inl (.inl h)
    ·show .inr ⟨h1,.inr ⟨.inl h2,h3⟩⟩
    ·show .inr ⟨h1,.inl h2⟩
    ·show .inl (.inr ⟨h3,h2,by rw[h1,h3]⟩)
    ·show .inr ⟨h1,.inr ⟨.inr h2,h3⟩⟩
theorem Np:∀{g:List Lt},g.length<=5->(eN g).length<=2*g.length
 |[],_=>by simp[eN]
 |[_],_=>by simp[eN]
 |[_,_],_=>by simp[eN]
 |[_,_,_],_=>by simp[eN]
 |[_,_,_,_],_=>by simp[eN]
 |[_,_,_,_,_],_=>by simp[eN]
 |_::_::_::_::_::_::_,z=>by simp at z
theorem sM{R:Lt->Lt->Prop}{p:Lt×Lt}:∀{us:List Lt},us.Pairwise R->p∈eN us->R p.1 p.2/\p.1∈us/\p.2∈us
 |[],_,h=>by simp[eN]at h
 |x::us,w,h=>by
  rw[Vd]at w;rw[eN]at h;rcases Ym.mp h with h|h
  ·obtain⟨y,hy,rfl⟩:=Yy.mp h
   show⟨w.1 y hy,.head _,.tail _ hy⟩
  ·obtain⟨a,b,c⟩:=sM w.2 h
   show⟨a,.tail _ b,.tail _ c⟩
theorem AA{x y:Lt}(da:x≠y):∀{us:List Lt},x∈us->y∈us->(x,y)∈eN us\/(y,x)∈eN us
 |z::us,hx,hy=>by
  rw[eN];rcases Yk.mp hx with rfl|nB
  ·rcases Yk.mp hy with rfl|Jy
   ·show absurd rfl da
   ·show .inl (Y4 _ (Y9 Jy))
  ·rcases Yk.mp hy with rfl|Jy
   ·show .inr (Y4 _ (Y9 nB))
   ·rcases AA da nB Jy with q|q
    ·show .inl (Yo _ q)
    ·show .inr (Yo _ q)
def gz(p:Lt×Lt):PV:=.tup [.str "twin",aH p.1,aH p.2]
def tE:aq->M SV:=aZ (aa (mC (.str "twin")) (aa 5e7 5e5))
def tI:aq->M 3e0:=aL (aW 2e8 (bJ (aB 7e8 4e0 8e0)) iV)
def tH:PV->aq->Option aq:=nH (dc (hName 1) (dc (hName 2) nI)) 2
theorem BJ(G A:PV)(v:Lt)(C:Cs):∀(us:List Lt)(x3:Option SV)(ys:List PV),ys.length+us.length<=10000->
  ∃y3,bY (hName 3) fw (cL tE []) (us.map aH) [#[G],#[A],#[aH v],x3] ys C=some (([#[G],#[A],#[aH v],y3],ys++(us.map λy=>gz (v,y))),C)
 |[],x3,ys,_=>⟨x3,by simp[bY,Pu.ret]⟩
 |u::us,x3,ys,h=>by
  rw[Yv]at h;obtain⟨y3,e⟩:=BJ G A v C us #[aH u] (ys++[gz (v,u)]) 6e2;show⟨y3,?_⟩;have hl:ys.length<100000:=by lia
  have hb:cL tE [] [#[G],#[A],#[aH v],#[aH u]] ys C=some (([#[G],#[A],#[aH v],#[aH u]],ys++[gz (v,u)]),C):=by
   ext gz;generalize aH v=V;generalize aH u=U;simp![cL,tE,hl]
  rw[Yq,Yq];ext bY;have hg:hName 3 (aH u) [#[G],#[A],#[aH v],x3]=some [#[G],#[A],#[aH v],#[aH u]]:=rfl;simp only[hg,fw,aI,Pu.ret,if_true,hb,e];simp
noncomputable def G1:Nat->List PV->List PV
 |_,[]=>[]
 |i,x::r=>.tup [.int (i:Nat),x]::G1 (i+1) r
theorem Cf:∀(i:Nat)(xs:List PV),G1 i xs=(YB xs.length).map λj=>.tup [.int ((i+j:Nat):Int),xs.getD j .aF]
 |i,[]=>rfl
 |i,x::xs=>by
  ext G1;rw[Cf (i+1) xs,Yv,List.range_succ_eq_map,Yq,Xd]
  congr 1
  apply Yar;intro j _;change _=PV.tup [.int ((i+(j+1):Nat):Int),(x::xs).getD (j+1) .aF];rw[show i+(j+1)=i+1+j by lia];rfl
theorem Fo(xs:List PV):jZ xs=G1 0 xs:=by
 rw[Cf];ext jZ;simp
theorem CG(xs:List PV)(i:Int)(h:0<=i)(h2:i<=xs.length):fQ xs (some i) none=xs.drop i.toNat:=by
 have e:HT.bI xs.length 0 (some i)=i.toNat:=by ext HT.bI;simp only[];rw[if_neg 1e0];lia
 have e2:HT.bI xs.length xs.length none=xs.length:=rfl;ext fQ;rw[e,e2];show X0 (by rw[Xw];lia)
theorem MT(g:List PV)(i:Nat)(x2 x3:Option SV)(C:Cs)(h:i+1<=g.length):tI [#[.lst g],#[(.int (i:Nat))],x2,x3] C=some (g.drop (i+1),C):=by
 have e:=CG g ((i:Int)+1) 1e0 1e0;rw[show((i:Int)+1).toNat=i+1 by lia]at e;simp![tI,aL,fR,dE,e]
theorem vM(g:List Lt)(hg:g.length<=100)(C:Cs):∀(r:List Lt)(i:Nat)(x1 x2 x3:Option SV)(ys:List PV),g.drop i=r->ys.length+100*r.length<=10000->
  ∃y1 y2 y3,bY tH fw (cL tE [(tI,hName 3,fw)]) (G1 i (r.map aH)) [#[.lst (g.map aH)],x1,x2,x3] ys C=some (([#[.lst (g.map aH)],y1,y2,y3],ys++(eN r).map gz),C)
 |[],i,x1,x2,x3,ys,_,_=>⟨x1,x2,x3,by simp[bY,Pu.ret,G1,eN]⟩
 |v::r,i,x1,x2,x3,ys,hr,h=>by
  rw[Yv]at h;have hlen:i<g.length:=by
   rcases YQ i g.length with q|q
   ·show q
   ·rw[XH q]at hr;cases hr
  have TB:g.drop (i+1)=r:=by rw[←Ua,hr];rfl
  have hrl:r.length<=100:=by rw[←TB,Xw];lia
  obtain⟨z3,e1⟩:=BJ (.lst (g.map aH)) (.int (i:Nat)) v C r x3 ys 1e0;obtain⟨y1,y2,y3,e2⟩:=vM g hg C r (i+1) #[(.int (i:Nat))] #[aH v] z3 (ys++r.map λy=>gz (v,y)) TB (by rw[Yf,Yj];lia);show⟨y1,y2,y3,?_⟩;have ht:=MT (g.map aH) i #[aH v] x3 C (by rw[Yj];lia);rw[←List.map_drop,TB]at ht;rw[Yq];unfold G1 bY;have hh:tH (.tup [.int (i:Nat),aH v]) [#[.lst (g.map aH)],x1,x2,x3]=some [#[.lst (g.map aH)],#[(.int (i:Nat))],#[aH v],x3]:=rfl;have hb:cL tE [(tI,hName 3,fw)] [#[.lst (g.map aH)],#[(.int (i:Nat))],#[aH v],x3] ys C=some (([#[.lst (g.map aH)],#[(.int (i:Nat))],#[aH v],z3],ys++r.map λy=>gz (v,y)),C):=by
   unfold cL aI;rw[ht];show e1
  simp only[hh,fw,aI,Pu.ret,if_true,hb];rw[e2];simp[eN]
theorem vB(C:Cs):∀(gs:List (List Lt))(x0 x1 x2 x3:Option SV)(ys:List PV),(∀g∈gs,g.length<=5)->ys.length+10*gs.length<=1000->
  ∃r,bY (hName 0) fw (cL tE [(jI 7e3,tH,fw),(tI,hName 3,fw)]) ((gP gs).map .lst) [x0,x1,x2,x3] ys C=some ((r,ys++(gs.flatMap eN).map gz),C)
 |[],x0,x1,x2,x3,ys,_,_=>⟨_,by simp[bY,Pu.ret,gP];rfl⟩
 |g::gs,x0,x1,x2,x3,ys,hg,h=>by
  rw[Yv]at h;have hg3:=hg g 6e9;obtain⟨y1,y2,y3,e1⟩:=vM g 1e0 C g 0 x1 x2 x3 ys rfl 1e0;have hp3:(eN g).length<=10:=by have:=Np hg3;lia
  obtain⟨r,e2⟩:=vB C gs #[.lst (g.map aH)] y1 y2 y3 (ys++(eN g).map gz) (λa ha=>hg a (.tail _ ha)) (by rw[Yf,Yj];lia);show⟨r,?_⟩;have he:jI 7e3 [#[.lst (g.map aH)],x1,x2,x3] C=some (G1 0 (g.map aH),C):=by
   rw[←Fo];generalize g.map aH=G;simp![jI,Ce]
  have hb:cL tE [(jI 7e3,tH,fw),(tI,hName 3,fw)] [#[.lst (g.map aH)],x1,x2,x3] ys C=some (([#[.lst (g.map aH)],y1,y2,y3],ys++(eN g).map gz),C):=by
   rw[cL,aI,he];show e1
  rw[show(gP (g::gs)).map PV.lst=.lst (g.map aH)::(gP gs).map .lst from rfl];rw[bY];have hh:hName 0 (.lst (g.map aH)) [x0,x1,x2,x3]=some [#[.lst (g.map aH)],x1,x2,x3]:=rfl;have ht:fw [#[.lst (g.map aH)],x1,x2,x3] C=some (true,C):=rfl;simp only[hh,aI,ht,if_true,hb,e2];simp
def t1:aq->M PF:=Bc 1 (aL (bF (cC 7e3))) (hName 2) tK 5e7
def t2:aq->M PF:=cY (jJ (dW 4e0) ["names","at","name","other"] [] (hName 0) fw [(jI 7e3,tH,fw),(tI,hName 3,fw)] tE)
theorem zN:jc=aA t1 t2:=rfl
def Bd(ls:List Lt)(b:Nat):Prop:=∀g:List Lt,(g.map Lt.nm).Nodup->(∀v∈g,v∈ls)->(∀x∈g,∀y∈g,x.fo=y.fo)->g.length<=b
theorem v9{ls:List Lt}(g:Good ls):keysOk (ls.map Lt.nm)=true:=by
 ext keysOk;rw[YW];intro k hk;obtain⟨t,ht,rfl⟩:=Yy.mp hk;obtain⟨h1,h2⟩:=g.ln t ht;have h3:t.h.length<=1000:=by lia
 have h4:t.d.length<=1000:=by lia
 simp[Lt.nm,keyOk,h3,h4]
theorem IU{gs:List (List Lt)}{g:List Lt}(h:g∈gs)(nd:(gs.flatten.map Lt.nm).Nodup):(g.map Lt.nm).Nodup:=by
 have:g.Sublist gs.flatten:=List.sublist_flatten_of_mem h;show(this.map Lt.nm).nodup nd
theorem vp:∀(gs:List (List Lt)),(∀g∈gs,g.length<=5)->(gs.flatMap eN).length<=2*gs.flatten.length
 |[],_=>by simp
 |g::gs,h=>by
  have ih:=vp gs λa ha=>h a (.tail _ ha);have hp3:=Np (h g 6e9);rw[Wv,Xz,Yf,Yf];lia
def Ls(x y:Lt):Prop:=lT (aH x) (aH y)=true
theorem IS{x y:Lt}(h:aH x=aH y):x.nm=y.nm:=Mh h
theorem rZ{ls us:List Lt}(g:Good ls)(pu:us.Perm ls)(ri:aR (us.map aH))(p:Lt×Lt):p∈eN us↔p.1∈ls/\p.2∈ls/\Ls p.1 p.2:=by
 have nd:(us.map Lt.nm).Nodup:=(pu.map Lt.nm).nodup_iff.mpr g.nd;have pw:us.Pairwise Ls:=by
  ext aR ri;rw[Xx]at ri;rw[Y0,Xx]at nd;show(ri.and nd).imp λ{x y} h=>?_;cases e:lT (aH x) (aH y)with
  |true=>show e
  |false=>show absurd (IS (jO _ (De x.nm) (De y.nm) e h.1)) h.2
 constructor
 ·intro h
  obtain⟨a,b,c⟩:=sM pw h;show⟨pu.mem_iff.mp b,pu.mem_iff.mp c,a⟩
 ·rintro⟨a,b,c⟩
  have da:p.1≠p.2:=λz=>by
   ext Ls c;rw[z,show lT (aH p.2) (aH p.2)=false from KH _ (De p.2.nm)]at c;cases c
  rcases AA da (pu.mem_iff.mpr a) (pu.mem_iff.mpr b)with q|q
  ·show q
  ·have h2:=(sM pw q).1
   unfold Ls at c h2;show absurd (h2.symm.trans (Bw (De p.1.nm) (De p.2.nm) c)) 1e7
theorem zO{ls:List Lt}(g:Good ls)(hb:Bd ls 5)(C:Cs):∃ts:List (Lt×Lt),eM [.v (DD ls)] C=some (ts.map gz,C)/\ts.length<=2*ls.length/\∀p,p∈ts↔p.1∈ls/\p.2∈ls/\p.1.fo=p.2.fo/\Ls p.1 p.2:=by
 have hd:=qB g.nd;have iI:=g.fF;obtain⟨us,eu,pu⟩:=DW ls;have hul:=pu.length_eq;have ri:=PY (uz ls) (mU ls);rw[eu]at ri;obtain⟨ks,gs,y2,e1,r,p,pm⟩:=z9 g.uq C.length us [] [] none (λv hv=>pu.mem_iff.mp hv) .nil 6e2 6e2;rw[U6,YG]at p;have jQ:=p.trans pu;have hl3:∀x∈gs,x.length<=5:=λx hx=>hb x (IU hx ((jQ.map Lt.nm).nodup_iff.mpr g.nd)) (λv hv=>jQ.mem_iff.mp (List.mem_flatten.mpr ⟨x,hx,hv⟩)) (r.same x hx);show⟨gs.flatMap eN,?_,by rw[←jQ.length_eq];show vp gs hl3,λq=>?_⟩
 rotate_left
 ·rw[pm,rZ g pu ri]
  simp only[List.flatMap_nil,Xy,false_or,U6,false_and,or_false];show⟨λ⟨a,b,c,d⟩=>⟨b,c,a,d⟩,λ⟨b,c,a,d⟩=>⟨a,b,c,d⟩⟩
 have LF:fK (C++[.aG [] []]) [.v (DD ls)]=some (us.map aH):=by
  have hk:=v9 g;have hn:(ls.map Lt.nm).map tupK=ls.map aH:=by rw[Xd];rfl
  have:fK (C++[.aG [] []]) [.v (DD ls)]=if keysOk (dF ls).1 then bN ((dF ls).1.map tupK)else none:=rfl
  rw[this,hd];change(if keysOk (ls.map Lt.nm)then bN ((ls.map Lt.nm).map tupK)else none)=_;rw[if_pos hk,hn,z4 ls 1e0,eu]
 have BW:10*gs.length<=1000:=by
  have h1:=r.most;have h2:=jQ.length_eq;lia
 obtain⟨rr,e2⟩:=vB C gs none none none none [] hl3 (by simpa using BW);have s1:t1 [#[DD ls],none,none] C=some (.nx [#[DD ls],#[.aG ks ((gP gs).map .lst)],y2],C):=by
  have hi:aL (bF (cC 7e3)) [#[DD ls],some 9e7,none] (C++[.aG [] []])=some (us.map aH,C++[.aG [] []]):=by
   generalize us.map aH=US at *;sleep 4;simp![aL,cC,LF,dE]
  unfold t1 Bc;rw[show([#[DD ls],none,none]:aq).set 1 (some 9e7)=[#[DD ls],some 9e7,none]from rfl,hi];simp only[List.getLast?_concat,List.dropLast_concat];have e1':dz 1 C.length (hName 2) tK 5e7 (us.map aH) [#[DD ls],some 9e7,none] [] []=_:=e1;rw[e1']
 have s2:t2 [#[DD ls],#[.aG ks ((gP gs).map .lst)],y2] C=some (.rf ((gs.flatMap eN).map gz),C):=by
  have hv:dW 4e0 [#[DD ls],#[.aG ks ((gP gs).map .lst)],y2] C=some ((gP gs).map .lst,C):=rfl;have hs:cX ["names","at","name","other"] [] [#[DD ls],#[.aG ks ((gP gs).map .lst)],y2]=[none,none,none,none]:=rfl;unfold t2 cY jJ;simp only[aI,hv,hs,e2,Pu.ret];rfl
 have run:jc [#[DD ls],none,none] C=some (.rf ((gs.flatMap eN).map gz),C):=by
  rw[zN,gR s1];show s2
 ext eM;generalize jc=bb at *;generalize(gs.flatMap eN).map gz=R at *;sleep 4;simp[dB,run]
inductive Cm
 |tw (p:Lt×Lt)
 |cl (w:Bool) (l:Lt)
def Cm.P:Cm->PV
 |.tw p=>gz p
 |.cl w l=>uA (if w then "back" else "loose") l
noncomputable def Lx (b a:Bool)(l:Lt):List Cm:=(if b then[.cl true l]else[])++(if a then[.cl false l]else[])
theorem NC(b a:Bool)(l:Lt):SW b a l=(Lx b a l).map Cm.P:=by
 cases b<;>cases a<;>rfl
theorem mV(c:Cm):bf c.P=true:=by
 cases c with
 |tw p=>simp[Cm.P,gz,aH,bf,aO,De]
 |cl w l=>simp[Cm.P,uA,bf,aO,De]
theorem CF(c:Cm):dat c.P=true:=by
 cases c with
 |tw p=>simp[Cm.P,gz,aH,dat,gu,KR]
 |cl w l=>simp[Cm.P,uA,dat,gu,KR]
theorem wM(c:Cm):flat c.P=true:=by
 cases c with
 |tw p=>simp[Cm.P,gz,aH,flat,df,lV]
 |cl w l=>simp[Cm.P,uA,flat,df,lV]
theorem uw(c:Cm):dep c.P<=2:=by
 cases c with
 |tw p=>
  have h1:=Me p.1.nm;have h2:=Me p.2.nm;simp only[Cm.P,gz,aH,dep,cA];lia
 |cl w l=>
  have h1:=Me l.nm;simp only[Cm.P,uA,dep,cA];lia
theorem KJ{p q:PV}{ps qs:List PV}(h1:(cj p q).isSome=true)(h2:aE p q=true->(cD ps qs).isSome=true):(cD (p::ps) (q::qs)).isSome=true:=by
 ext cD;split
 ·rename_i h;show h2 h
 ·show h1
theorem Bf(t u:Lt):(cj (aH t) (aH u)).isSome=true:=by rw[tF];rfl
theorem lt_str(a b:Str):(cj (.str a) (.str b)).isSome=true:=by ext cj;rfl
theorem nj{ps qs:List PV}(h:(cD ps qs).isSome=true):(cj (.tup ps) (.tup qs)).isSome=true:=by ext cj;show h
theorem lex_nil:(cD [] []).isSome=true:=by ext cD;rfl
theorem vK{w:Bool}:aE (.str "twin") (.str (if w then "back" else "loose"))=false/\aE (.str (if w then "back" else "loose")) (.str "twin")=false:=by
 cases w<;>constructor<;>(ext aE;decide +kernel)
theorem NJ(c d:Cm):(cj c.P d.P).isSome=true:=by
 cases c with
 |tw p=>
  cases d with
  |tw q=>show nj (KJ (lt_str _ _) λ_=>KJ (Bf _ _) λ_=>KJ (Bf _ _) λ_=>lex_nil)
  |cl w l=>show nj (KJ (lt_str _ _) λh=>by rw[vK.1]at h;cases h)
 |cl v k=>
  cases d with
  |tw q=>show nj (KJ (lt_str _ _) λh=>by rw[vK.2]at h;cases h)
  |cl w l=>show nj (KJ (lt_str _ _) λ_=>KJ (Bf k l) λ_=>lex_nil)
theorem j7(cs:List Cm):b5 (cs.map Cm.P)=true:=all_map _ cs λt=>all_map _ cs λu=>NJ t u
theorem Hl(cs:List Cm):aO (cs.map Cm.P)=true:=Q8 (f:=Cm.P) mV cs
theorem zQ(c:Cm):isTup c.P=true/\(bx c.P==4)=true:=by cases c<;>show⟨rfl,rfl⟩
theorem oO(cs:List Cm)(h:cs.length<4096):bN (cs.map Cm.P)=some (fy (cs.map Cm.P)):=by
 have hd:cA (cs.map Cm.P)<=2:=Mf (f:=Cm.P) uw cs;show jl (Py (f:=Cm.P) CF cs) 1e0 ?_ ?_ (j7 cs) (Hl cs)
 ·rw[Yj];show h
 ·ext sortable;rw[all_map (λp=>bx p==4) cs λt=>(zQ t).2];simp
theorem Ip(as:List Cm)(c:Cm):∃L5:List Cm,putN (as.map Cm.P) c.P=L5.map Cm.P/\((as.map Cm.P).Nodup->(L5.map Cm.P).Nodup)/\(∀x,x∈L5.map Cm.P↔x∈as.map Cm.P\/x=c.P)/\L5.length<=as.length+1:=by
 ext putN;by_cases h:((as.map Cm.P).any λq=>aE q c.P)=true
 ·rw[if_pos h]
  show⟨as,rfl,id,λx=>⟨.inl,λz=>z.elim id λe=>?_⟩,by lia⟩;obtain⟨q,hq,e2⟩:=Ud.mp h;obtain⟨d,_,rfl⟩:=Yy.mp hq;rw[e,←(xa d.P (mV d) (mV c)).mp e2];show hq
 ·rw[if_neg h]
  show⟨as++[c],by simp,λnd=>?_,λx=>by simp,by simp⟩;rw[YX,Xl];show⟨nd,by simp,λa ha b hb e=>?_⟩;have hb:b=c.P:=by simpa using hb
  subst hb e;show h (Ud.mpr ⟨_,ha,Mg (mV c)⟩)
theorem Cw:∀(cs as:List Cm),(as.map Cm.P).Nodup->∃rs:List Cm,(cs.map Cm.P).foldl putN (as.map Cm.P)=rs.map Cm.P/\(rs.map Cm.P).Nodup/\(∀x,x∈rs.map Cm.P↔x∈as.map Cm.P\/x∈cs.map Cm.P)/\rs.length<=as.length+cs.length
 |[],as,nd=>⟨as,rfl,nd,λx=>by simp,by simp⟩
 |c::cs,as,nd=>by
  obtain⟨L5,e,n,m,l⟩:=Ip as c;obtain⟨rs,e2,n2,m2,l2⟩:=Cw cs L5 (n nd);show⟨rs,?_,n2,λx=>?_,by rw[Yv];lia⟩
  ·rw[Yq,VQ,e];show e2
  ·rw[m2,m,Yq,Yk,or_assoc]
theorem BI(cs:List Cm)(h:cs.length<306):∃rs:List Cm,nA (cs.map Cm.P)=some (rs.map Cm.P)/\(rs.map Cm.P).Nodup/\aR (rs.map Cm.P)/\∀x,x∈rs.map Cm.P↔x∈cs.map Cm.P:=by
 obtain⟨ds,e,nd,mm,hl⟩:=Cw cs [] 2e6;have e:Kk (cs.map Cm.P)=ds.map Cm.P:=e;have hl:ds.length<=cs.length:=by simpa using hl
 have pm:=PQ (j7 ds) (Hl ds);have ri:=PY (j7 ds) (Hl ds);obtain⟨rs,er,pr⟩:=ng Cm.P pm;rw[er]at ri pm;show⟨rs,?_,pm.nodup_iff.mpr nd,ri,λx=>?_⟩
 ·have hd:cA (cs.map Cm.P)<=2:=Mf (f:=Cm.P) uw cs
  ext nA;rw[if_pos,e,oO ds 1e0,er];rw[Hl,all_map isTup cs λt=>(zQ t).1,Yj];simp;lia
 ·rw[pm.mem_iff,mm];simp
def m1:aq->M PF:=a7 3 (cb cS (aa 4e0 af))
def m2:aq->M PF:=dP 4 (gF eM 5e5)
def m3:aq->M PF:=b7 (tx (au 4) (aa (cb cm (aa (au 3) (aa 9e0 (aa 5e7 (aa (aB 7e5 2e8 10e4) af))))) af))
def m4:aq->M PF:=cY (iu cz [] (aa (au 4) af))
theorem A9:jd=aA m1 (aA m2 (aA (bO (dW (au 3)) (hName 5) m3) m4)):=rfl
theorem G0{C:Cs}{L qs:List PV}(h:L.length+qs.length<100000):yE 9e7 [.v (.lst qs)] (C++9e4)=some (.v .aF,C++[.lst (L++qs)]):=by
 ext yE;simp[h]
theorem Pr{C:Cs}{L:List PV}:fA 9e7 (C++9e4)=some ((),C++9e4):=by
 ext fA;simp
section
variable{ls:List Lt}(s:Int)(C:Cs)(y:PV)
def mf(ls:List Lt)(l:Lt):List Cm:=Lx (dg ls l) (dC ls l) l
def MS(ls:List Lt)(s:Int)(n:Nat)(y q:PV)(x5:Option SV):aq:=[#[.tup [.int s,y]],#[q],#[.aG [] []],#[DD ls],some (.c n),x5]
theorem Bp(l:Lt):(mf ls l).length<=2:=by unfold mf Lx;split<;>split<;>simp
theorem Bb(g:Good ls)(q:PV):∀(us:List Lt)(L:List PV)(x5:Option SV),(∀u∈us,u∈ls)->L.length+2*us.length<=1000->
  ∃y5,loop (hName 5) m3 (us.map Lt.P) (MS ls s C.length y q x5) (C++9e4)=some (.nx (MS ls s C.length y q y5),C++[.lst (L++(us.flatMap (mf ls)).map Cm.P)])
 |[],L,x5,_,_=>⟨x5,by simp[loop,Pu.ret]⟩
 |u::us,L,x5,hu,hl=>by
  rw[Yv]at hl;have e1:=pS g (hu u 6e9) s (C++9e4);rw[NC]at e1;have hlen:((mf ls u).map Cm.P).length<=2:=by rw[Yj];show Bp u
  have e2:=G0 (C:=C) (L:=L) (qs:=(mf ls u).map Cm.P) 1e0;obtain⟨y5,e3⟩:=Bb g q us (L++(mf ls u).map Cm.P) #[u.P] (λv hv=>hu v (.tail _ hv)) (by rw[Yf];lia);show⟨y5,?_⟩;have e1:cm [.v (DD ls),.v u.P,.v (.aG [] []),.v (.int s)] (C++9e4)=some (.v (.lst ((mf ls u).map Cm.P)),C++9e4):=e1;have hb:m3 (MS ls s C.length y q #[u.P]) (C++9e4)=some (.nx (MS ls s C.length y q #[u.P]),C++[.lst (L++(mf ls u).map Cm.P)]):=by
   ext MS;have e0:=Pr (C:=C) (L:=L);have e4:gI (.tup [.int s,y]) (.int 0)=some (.int s):=rfl;generalize(mf ls u).map Cm.P=R at *;generalize C++[.lst (L++R)]=C2 at *;generalize C++9e4=C1 at *;generalize u.P=UP at *;sleep 4;generalize PV.aG [] []=E at *;generalize PV.tup [.int s,y]=T at *;simp![m3,tx,e0,e1,e4,e2]
  rw[Yq];ext loop;have hh:hName 5 u.P (MS ls s C.length y q x5)=some (MS ls s C.length y q #[u.P]):=rfl;simp only[hh,aI,hb,e3];simp
theorem jM{α β:Type}{f:α->List β}{n:Nat}:∀{l:List α},(∀x∈l,(f x).length<=n)->(l.flatMap f).length<=n*l.length
 |[],_=>by simp
 |x::l,h=>by
  have h1:=h x 6e9;have h2:=jM (f:=f) (n:=n) (l:=l) λy hy=>h y (.tail _ hy);rw[Wv,Yf,Yv,Nat.mul_add];lia
theorem Ba(g:Good ls)(hb:Bd ls 5):∃(ts:List (Lt×Lt))(rs:List Cm),cI [.v (.tup [.int s,y]),.v 8e6,.v (.aG [] [])] C=some (rs.map Cm.P,C)/\(rs.map Cm.P).Nodup/\aR (rs.map Cm.P)/\(∀x,x∈rs.map Cm.P↔x∈ts.map gz\/x∈(ls.flatMap (mf ls)).map Cm.P)/\∀p,p∈ts↔p.1∈ls/\p.2∈ls/\p.1.fo=p.2.fo/\Ls p.1 p.2:=by
 have iI:=g.fF;have e1:=uF ls C 1e0;obtain⟨ts,e2,tl,tm⟩:=zO g hb C;have Qw:ts.map gz=(ts.map Cm.tw).map Cm.P:=by rw[Xd];rfl
 rw[Qw]at e2;have T9:=jM (f:=mf ls) (n:=2) (l:=ls) λx _=>Bp x;obtain⟨rs,e4,nd,ri,mm⟩:=BI (ts.map Cm.tw++ls.flatMap (mf ls)) (by rw[Yf,Yj];lia);show⟨ts,rs,?_,nd,ri,λx=>by rw[mm,YX,Ym,Qw],tm⟩;obtain⟨y5,e3⟩:=Bb s C y g 8e6 ls ((ts.map Cm.tw).map Cm.P) none (λ_ h=>h) (by rw[Yj,Yj];lia);rw[←YX]at e3;have s1:m1 [#[.tup [.int s,y]],#[.lst 3e3],#[.aG [] []],none,none,none] C=some (.nx [#[.tup [.int s,y]],#[.lst 3e3],#[.aG [] []],#[DD ls],none,none],C):=by
  have e1:cS [.v 8e6] C=some (.v (DD ls),C):=e1;generalize ls.map Lt.P=LS at *;sleep 4;simp![m1,e1]
 have s2:m2 [#[.tup [.int s,y]],#[.lst 3e3],#[.aG [] []],#[DD ls],none,none] C=some (.nx (MS ls s C.length y 8e6 none),C++[.lst ((ts.map Cm.tw).map Cm.P)]):=by
  ext MS;generalize ls.map Lt.P=LS at *;sleep 4;generalize(ts.map Cm.tw).map Cm.P=TS at *;simp![m2,dP,e2]
 have s3:bO (dW (au 3)) (hName 5) m3 (MS ls s C.length y 8e6 none) (C++[.lst ((ts.map Cm.tw).map Cm.P)])=some (.nx (MS ls s C.length y 8e6 y5),C++[.lst ((ts.map Cm.tw++ls.flatMap (mf ls)).map Cm.P)]):=by
  have hv:dW (au 3) (MS ls s C.length y 8e6 none) (C++[.lst ((ts.map Cm.tw).map Cm.P)])=some (ls.map Lt.P,C++[.lst ((ts.map Cm.tw).map Cm.P)]):=by
   have:(dF ls).2=ls.map Lt.P:=by rw[qB g.nd]
   rw[←this];rfl
  unfold bO aI;rw[hv];show e3
 have s4:m4 (MS ls s C.length y 8e6 y5) (C++[.lst ((ts.map Cm.tw++ls.flatMap (mf ls)).map Cm.P)])=some (.rf (rs.map Cm.P),C++[.lst ((ts.map Cm.tw++ls.flatMap (mf ls)).map Cm.P)]):=by
  have hf:df (rs.map Cm.P)=true:=QY (f:=Cm.P) wM rs;have hF:cz [.v (.lst ((ts.map Cm.tw++ls.flatMap (mf ls)).map Cm.P))] []=some (rs.map Cm.P,[]):=by
   generalize(ts.map Cm.tw++ls.flatMap (mf ls)).map Cm.P=L at *;generalize rs.map Cm.P=R at *;simp![cz,dB,tq,t5,e4]
  generalize(ts.map Cm.tw++ls.flatMap (mf ls)).map Cm.P=L at *;generalize rs.map Cm.P=R at *;ext MS;simp![m4,iu,pickK,cB,eO,hF,hf,dI]
 have run:jd [#[.tup [.int s,y]],#[.lst 3e3],#[.aG [] []],none,none,none] C=some (.rf (rs.map Cm.P),C++[.lst ((ts.map Cm.tw++ls.flatMap (mf ls)).map Cm.P)]):=by
  rw[A9,gR s1,gR s2,gR s3];show s4
 ext cI;generalize jd=bb at *;generalize(ts.map Cm.tw++ls.flatMap (mf ls)).map Cm.P=L at *;generalize rs.map Cm.P=R at *;generalize ls.map Lt.P=LS at *;simp[dB,run]
end
structure Bt where
 h:Str
 d:Str
 st:Int
 m:Nat
noncomputable def rn (b:Bt)(k:Nat):List Key:=[.inr b.h,.inr b.d,.inl (b.st+k)]
def Rg(b:Bt)(k:Nat)(x:Lt):Prop:=k<b.m/\x.n=b.st+k/\x.pv=b.st+((k+1)%b.m:Nat)
def Kd(b:Bt)(x:Lt):Prop:=(1<=x.n/\x.n<=5/\x.pv=x.n-1)\/(∃k,Rg b k x)\/(200<=x.n/\x.n<=203/\((∃k:Nat,k<b.m/\x.pv=b.st+k)\/(200<=x.pv/\x.pv<x.n)))
structure Bt.Ok(b:Bt):Prop where
 s1:10<=b.st
 s2:b.st<=99
 m1:1<=b.m
 m2:b.m<=9
 hl:b.h.length<=10
 dl:b.d.length<=10
structure Wd(bs:List Bt)(ls:List Lt):Prop where
 nd:(ls.map Lt.nm).Nodup
 fF:ls.length<=54
 kd:∀x∈ls,∃b∈bs,x.h=b.h/\x.d=b.d/\x.gs=[]/\Kd b x
 bt:∀b∈bs,b.Ok
 bd:(bs.map Bt.d).Nodup
 b3:bs.length<=3
theorem ZJ{bs:List Bt}(nd:(bs.map Bt.d).Nodup){r q:Bt}(hr:r∈bs)(hq:q∈bs)(e:r.d=q.d):r=q:=by
 induction bs with
 |nil=>cases hr
 |cons x l ih=>
  rw[Yq,Xj]at nd;rcases Yk.mp hr with rfl|QO
  ·rcases Yk.mp hq with rfl|Dz
   ·rfl
   ·show absurd (e▸Y9 Dz) nd.1
  ·rcases Yk.mp hq with rfl|Dz
   ·show absurd (e▸Y9 QO) nd.1
   ·show ih nd.2 QO Dz
theorem yc{l m:Lt}(h:l.nm=m.nm):l.h=m.h/\l.d=m.d/\l.n=m.n:=by
 ext Lt.nm h;simpa using h
theorem OX{l m:Lt}(h:l.nm=m.fo):l.h=m.h/\l.d=m.d/\l.n=m.pv:=by
 unfold Lt.nm Lt.fo at h;simpa using h
theorem Nz{l m:Lt}(h:l.h=m.h)(d:l.d=m.d)(n:l.n=m.n):l.nm=m.nm:=by ext Lt.nm;rw[h,d,n]
theorem mM{l:Lt}{b:Bt}{k:Nat}:l.nm=rn b k↔l.h=b.h/\l.d=b.d/\l.n=b.st+k:=by
 unfold Lt.nm rn;simp
section
variable{bs:List Bt}{ls:List Lt}
theorem Wd.good(w:Wd bs ls):Good ls:=⟨w.nd,λl hl=>by
 obtain⟨b,hb,e1,e2,_⟩:=w.kd l hl;have o:=w.bt b hb;rw[e1,e2];show⟨o.hl,o.dl⟩,λl hl=>by
 obtain⟨b,hb,_,_,e,_⟩:=w.kd l hl;show e,w.fF⟩
theorem Wd.of(w:Wd bs ls){x:Lt}(hx:x∈ls){b:Bt}(hb:b∈bs)(e:x.d=b.d):x.h=b.h/\Kd b x:=by
 obtain⟨c,hc,e1,e2,_,k⟩:=w.kd x hx;have:c=b:=ZJ w.bd hc hb (e2.symm.trans e);subst this;show⟨e1,k⟩
theorem vL{m j k:Nat}(hj:j<m)(hk:k<m)(h:(j+1)%m=(k+1)%m):j=k:=by
 have hm:∀i,i<m->(i+1)%m=if i+1=m then 0 else i+1:=λi hi=>by
  by_cases e:i+1=m
  ·rw[if_pos e,e,Nat.mod_self]
  ·rw[if_neg e,Ycf 1e0]
 rw[hm j hj,hm k hk]at h;split at h<;>split at h<;>lia
theorem SS{g:List Lt}(nd:(g.map Lt.nm).Nodup)(h:∀x∈g,∀y∈g,x.fo=y.fo):(g.map Lt.n).Nodup:=by
 rw[Y0,Xx]at nd⊢;show nd.imp_of_mem λ{x y} hx hy da e=>da ?_;have hf:=h x hx y hy;ext Lt.fo hf;simp only[VU,RD,RC,and_true]at hf;show Nz hf.1 hf.2.1 e
theorem Wd.bd5(w:Wd bs ls):Bd ls 5:=by
 intro g nd sub same;have hn:=SS nd same;have base:∀x∈g,∀y∈g,x.n<200->y.n<200->x.n=y.n:=λx hx y hy h1 h2=>by
  have hf:=same x hx y hy;ext Lt.fo hf;simp only[VU,RD,RC,and_true]at hf;obtain⟨b,hb,_,e2,_,k⟩:=w.kd x (sub x hx);obtain⟨_,k2⟩:=w.of (sub y hy) hb (hf.2.1.symm.trans e2);have o:=w.bt b hb;have:=o.s1;have hp:=hf.2.2;rcases k with⟨a1,a2,a3⟩|⟨i,a1,a2,a3⟩|⟨a1,_⟩
  ·rcases k2 with⟨b1,b2,b3⟩|⟨j,b1,b2,b3⟩|⟨b1,_⟩
   ·lia
   ·rw[hp,b3]at a3;lia
   ·lia
  ·rcases k2 with⟨b1,b2,b3⟩|⟨j,b1,b2,b3⟩|⟨b1,_⟩
   ·rw[hp,b3]at a3;lia
   ·have:i=j:=vL a1 b1 (by rw[hp,b3]at a3;lia)
    subst this;lia
   ·lia
  ·lia
 have big:∀x∈g,¬x.n<200->x.n=200\/x.n=201\/x.n=202\/x.n=203:=λx hx h=>by
  obtain⟨b,hb,_,e2,_,k⟩:=w.kd x (sub x hx);have o:=w.bt b hb;have h1:=o.s2;have h2:=o.m2;rcases k with⟨a1,a2,a3⟩|⟨i,a1,a2,a3⟩|⟨a1,a2,_⟩<;>lia
 by_cases hex:∃x∈g,x.n<200
 ·obtain⟨x,hx,Te⟩:=hex
  have:=len_sub (b:=[x.n,200,201,202,203]) hn λz hz=>by
   obtain⟨y,hy,rfl⟩:=Yy.mp hz;by_cases h:y.n<200
   ·rw[base x hx y hy Te h];simp
   ·rcases big y hy h with q|q|q|q<;>rw[q]<;>simp
  rw[Yj]at this;simpa using this
 ·have:=len_sub (b:=[(200:Int),201,202,203]) hn λz hz=>by
   obtain⟨y,hy,rfl⟩:=Yy.mp hz;rcases big y hy (λq=>hex ⟨y,hy,q⟩)with q|q|q|q<;>rw[q]<;>simp
  rw[Yj]at this;have h4:g.length<=4:=by simpa using this
  lia
noncomputable def rk (x:Lt):Int:=if x.n<10 then x.n else if x.n<200 then 0 else x.n-199
theorem Wd.step(w:Wd bs ls){x y:Lt}(hx:x∈ls)(hy:y∈ls)(e:y.nm=x.fo):((x.n<10\/200<=x.n)->rk y<rk x)/\rk y<=rk x:=by
 obtain⟨b,hb,_,e2,_,k⟩:=w.kd x hx;have o:=w.bt b hb;have h1:=o.s1;have h2:=o.s2;have h3:=o.m2;have hn:=(OX e).2.2;ext rk;have m0:∀i,i%b.m<b.m:=λi=>VF _ o.m1;rcases k with⟨a1,a2,a3⟩|⟨i,a1,a2,a3⟩|⟨a1,a2,⟨i,a3,a4⟩|a3⟩
 ·rw[if_pos (show y.n<10 by lia),if_pos (show x.n<10 by lia)];lia
 ·have:=m0 (i+1)
  rw[if_neg (show¬y.n<10 by lia),if_neg (show¬x.n<10 by lia),if_pos (show y.n<200 by lia),if_pos (show x.n<200 by lia)];show⟨λq=>by lia,Int.le_refl _⟩
 ·rw[if_neg (show¬y.n<10 by lia),if_neg (show¬x.n<10 by lia),if_pos (show y.n<200 by lia),if_neg (show¬x.n<200 by lia)]
  lia
 ·rw[if_neg (show¬y.n<10 by lia),if_neg (show¬x.n<10 by lia),if_neg (show¬y.n<200 by lia),if_neg (show¬x.n<200 by lia)]
  lia
theorem tJ{Pp:Lt->Prop}{l:Lt}(hl:Pp l)(cl:∀x y,x∈ls->y∈ls->y.nm=x.fo->Pp x->Pp y):∀{row:List Lt},(∀x∈row,x∈ls)->Lk row->(∃pre,row=pre++[l])->∀x∈row,Pp x
 |[],_,_,_=>λx h=>(nomatch h)
 |[a],_,_,⟨pre,e⟩=>λx h=>by
  have:a=l:=by
   cases pre with
   |nil=>simpa using e
   |cons p pre=>simp at e
  rw[Yi.mp h,this];show hl
 |a::b::r,sub,lk,⟨pre,e⟩=>by
  have ih:=tJ hl cl (row:=b::r) (λx h=>sub x (.tail _ h)) lk.2 (by
   cases pre with
   |nil=>simp at e
   |cons p pre=>rw[VC]at e;show⟨pre,(X4 e).2⟩)
  intro x hx;rcases Yk.mp hx with rfl|hx
  ·show cl b x (sub b 2e6) (sub x 2e6) lk.1.symm (ih b 6e9)
  ·show ih x hx
theorem vU{l:Lt}:∀{a:Lt}{r:List Lt},Lk (a::r)->(∃pre,a::r=pre++[l])->∀x∈a::r,x=l\/∃z∈r,z.fo=x.nm
 |a,[],_,⟨pre,e⟩,x,h=>by
  have:a=l:=by
   cases pre with
   |nil=>simpa using e
   |cons p pre=>simp at e
  rw[Yi.mp h,this];show .inl rfl
 |a,b::r,lk,⟨pre,e⟩,x,h=>by
  rcases Yk.mp h with rfl|h
  ·show .inr ⟨b,.head _,lk.1⟩
  ·rcases vU lk.2 (by
    cases pre with
    |nil=>simp at e
    |cons p pre=>rw[VC]at e;show⟨pre,(X4 e).2⟩) x h with q|⟨z,hz,q⟩
   ·show .inl q
   ·show .inr ⟨z,.tail _ hz,q⟩
theorem vT:∀{a:Lt}{r:List Lt},Lk (a::r)->∀x∈r,∃y∈a::r,x.fo=y.nm
 |a,b::r,lk,x,h=>by
  rcases Yk.mp h with rfl|h
  ·show⟨a,.head _,lk.1⟩
  ·obtain⟨y,hy,e⟩:=vT lk.2 x h
   show⟨y,.tail _ hy,e⟩
def full(ls:List Lt)(b:Bt):Bool:=(YB b.m).all λk=>bX (rn b k) (ls.map Lt.nm)
theorem jU{b:Bt}:full ls b=true↔∀k,k<b.m->∃l∈ls,l.nm=rn b k:=by
 ext full;rw[YW];constructor
 ·intro h k hk
  show Yy.mp (Ma.mp (h k (Y3.mpr hk)))
 ·intro h k hk
  show Ma.mpr (Yy.mpr (h k (Y3.mp hk)))
theorem Wd.Bk(w:Wd bs ls){l:Lt}(hl:l∈ls)(hk:l.n<10\/200<=l.n):dC ls l=false:=by
 have rE:ls.length<900:=by have:=w.fF;lia
 obtain⟨r1,r2,r3,r4,r5⟩:=sh w.good.uq rE hl;ext dC;cases hR:dO ls l.nm with
 |nil=>rfl
 |cons a r=>
  rw[hR]at r1 r2 r3 r4;have all:=tJ (ls:=ls) (Pp:=λx=>x=l\/rk x<rk l) 9e6 (λx y hx hy e h=>by
   obtain⟨s1,s2⟩:=w.step hx hy e;rcases h with rfl|h
   ·show .inr (s1 hk)
   ·show .inr (Int.lt_of_le_of_lt s2 h)) r2 r3 r4
  show decide_eq_false λe=>?_;obtain⟨s1,s2⟩:=w.step (r2 a 6e9) hl e.symm;rcases all a 6e9 with q|q
  ·subst q;show absurd (s1 hk) (Int.lt_irrefl _)
  ·lia
theorem Wd.ring(w:Wd bs ls){b:Bt}(hb:b∈bs){x:Lt}(hx:x∈ls){k:Nat}(hk:k<b.m)(e:x.nm=rn b k):Rg b k x:=by
 obtain⟨_,e2,e3⟩:=mM.mp e;obtain⟨_,q⟩:=w.of hx hb e2;have o:=w.bt b hb;have h1:=o.s1;have h2:=o.s2;have h3:=o.m2;rcases q with⟨a1,a2,a3⟩|⟨i,a1,a2,a3⟩|⟨a1,a2,_⟩
 ·lia
 ·have:i=k:=by lia
  subst this;show⟨a1,a2,a3⟩
 ·lia
theorem Wd.D8(w:Wd bs ls){b:Bt}(hb:b∈bs)(x y:Lt)(hx:x∈ls)(hy:y∈ls)(e:y.nm=x.fo)(h:∃k,k<b.m/\x.nm=rn b k):∃k,k<b.m/\y.nm=rn b k:=by
 obtain⟨k,hk,e2⟩:=h;have r:=w.ring hb hx hk e2;obtain⟨h1,h2,h3⟩:=mM.mp e2;obtain⟨g1,g2,g3⟩:=OX e;show⟨(k+1)%b.m,VF _ (w.bt b hb).m1,mM.mpr ⟨g1.trans h1,g2.trans h2,g3.trans r.2.2⟩⟩
theorem Wd.jL(w:Wd bs ls){b:Bt}(hb:b∈bs){l:Lt}(hl:l∈ls){k:Nat}(hk:k<b.m)(e:l.nm=rn b k):dC ls l=full ls b:=by
 have rE:ls.length<900:=by have:=w.fF;lia
 obtain⟨r1,r2,r3,r4,r5⟩:=sh w.good.uq rE hl;have uq:=w.good.uq;have m1:=(w.bt b hb).m1;ext dC;cases hR:dO ls l.nm with
 |nil=>rw[hR]at r4;obtain⟨pre,z⟩:=r4;simp at z
 |cons a r=>
  rw[hR]at r1 r2 r3 r4;have r5':=r5 a r hR;rw[hR]at r5';have all:=tJ (ls:=ls) (Pp:=λx=>∃k,k<b.m/\x.nm=rn b k) ⟨k,hk,e⟩ (w.D8 hb) r2 r3 r4;obtain⟨ja,hja,ea⟩:=all a 6e9;have ra:=w.ring hb (r2 a 6e9) hja ea;have fa:a.fo=rn b ((ja+1)%b.m):=by
   obtain⟨h1,h2,h3⟩:=mM.mp ea;unfold Lt.fo rn;rw[h1,h2,ra.2.2]
  sleep 6;have lin:l∈a::r:=by
   obtain⟨pre,z⟩:=r4;rw[z];simp
  cases hf:full ls b with
  |true=>
   have hf:=jU.mp hf;show decide_eq_true ?_;obtain⟨y,hy,ey⟩:=hf _ (VF (ja+1) m1);rcases r5' with q|q
   ·show absurd (ey.trans fa.symm) (q y hy)
   ·obtain⟨x,hx,ex⟩:=Yy.mp q
    rcases vU r3 r4 x hx with z|⟨z,hz,ez⟩
    ·rw[←ex,z]
    ·exfalso
     obtain⟨jz,hjz,ezn⟩:=all z (.tail _ hz);have rz:=w.ring hb (r2 z (.tail _ hz)) hjz ezn;have:z.fo=a.fo:=ez.trans ex;have hp:z.pv=a.pv:=by
      ext Lt.fo this;simp only[VU,RD,RC,and_true]at this;show this.2.2
     rw[rz.2.2,ra.2.2]at hp;have:jz=ja:=vL hjz hja 1e0;subst this;rw[Yq,Xj]at r1;show r1.1 (by rw[ea,←ezn];show Y9 hz)
  |false=>
   show decide_eq_false λez=>?_;have go:∀i:Nat,∃x∈a::r,x.nm=rn b ((k+i)%b.m):=by
    intro i;induction i with
    |zero=>show⟨l,lin,by rw[e,RA,Ycf hk]⟩
    |succ i ih=>
     obtain⟨x,hx,ex⟩:=ih;have rx:=w.ring hb (r2 x hx) (VF _ m1) ex;have fx:x.fo=rn b (((k+i)%b.m+1)%b.m):=by
      obtain⟨h1,h2,h3⟩:=mM.mp ex;unfold Lt.fo rn;rw[h1,h2,rx.2.2]
     rw[Nat.mod_add_mod]at fx;rcases Yk.mp hx with rfl|nB
     ·show⟨l,lin,by rw[←ez,fx];rfl⟩
     ·obtain⟨y,hy,ey⟩:=vT r3 x nB
      show⟨y,hy,by rw[←ey,fx];rfl⟩
   have:full ls b=true:=jU.mpr λt ht=>by
    obtain⟨x,hx,ex⟩:=go (t+b.m-k);show⟨x,r2 x hx,?_⟩;rw[show k+(t+b.m-k)=t+b.m by lia,Nat.add_mod_right,Ycf ht]at ex;show ex
   rw[this]at hf;cases hf
end
theorem pD:∀ls:List Lt,ia (ls.map λl=>.tup [tupK l.nm,l.P])=some (ls.map pr)
 |[]=>rfl
 |l::ls=>by
  rw[Yq];ext ia;have:vA (.tup [tupK l.nm,l.P])=some (pr l):=by
   unfold tupK vA;sleep 6;rw[zC];rfl
  rw[this,pD ls];rfl
abbrev Pb:aq->M SV:=aZ (aa (aW 2e8 iV (bJ 7e9)) 7e3)
theorem Pc(ls:List Lt)(C:Cs):gh (hName 0) fw Pb 3e3 [none] [] C=some (ls.map λl=>.tup [tupK l.nm,l.P],C):=by
 have:=Md (te:=Pb) (f:=λp=>match p with|.tup (.str a::.str b::.int c::r)=>.tup [.tup [.str a,.str b,.int c],.tup (.str a::.str b::.int c::r)]|_=>.aF) (ls.map Lt.P) [none] [] C (λx hx=>by
  obtain⟨m,_,rfl⟩:=Yy.mp hx;simp[Pb,aZ,aa,af,aW,aI,au,iV,bJ,mC,dM,Pu.ret,Pu.intD,aN,eQ,gm,Lt.P,Ko,Pu.plain])
 rw[this,WZ,Xd];rfl
theorem named_eq(ls:List Lt)(hl:ls.length<300)(C:Cs):cw [.v 8e6] C=some (.v (.aG (dF ls).1 (dF ls).2),C):=by
 have hd:=Pc ls C;have hp:=pD ls;have hlen:(ls.map Lt.P).length<=100000:=by simp;lia
 have cE:(ls.map pr).length<=1000:=by simp;lia
 have qg:bM (ls.map pr) [] []=((dF ls).1,(dF ls).2):=rfl;have hb:mn=eT (i5 ik (aa (bF (bW (aL 2e8) ["_law_letter"] [] (hName 0) fw Pb)) af)):=rfl;ext cw;rw[hb];generalize(ls.map λl=>PV.tup [tupK l.nm,l.P])=PP at hd hp;generalize ls.map pr=PR at hp cE qg;generalize(dF ls).1=K1 at *;generalize(dF ls).2=K2 at *;generalize hLS:ls.map Lt.P=LS at *;generalize Pb=te at hd;simp[cN,eT,i5,aa,af,bF,bW,aL,au,aI,dM,Pu.ret,dE,hlen,cX,hd,aN,ik,hp,cE,qg,fin]
def dJ(b:Bt):List PV:=(YB b.m).map λk=>tupK (rn b k)
def ou(b:Bt):List PV:=(YB b.m).map λk=>.tup [.str "loose",tupK (rn b k)]
section
variable{ls:List Lt}{R0 R1:PV}
def KS(ls:List Lt)(R0 R1:PV)(x4 x5 x6 x7:Option SV):aq:=[#[R0],#[R1],#[DD ls],some (.c 0),x4,x5,x6,x7]
def k1:aq->M PF:=fD (pT (i5 (g1 uL) (aa (bF (bW (aL (au 4)) ["_law_name"] [2] (hName 0) fw (aB (g2 (cJ false)) 2e8 4e0))) af))) (b7 (tx (au 3) (aa (bF (bW (aL (au 4)) ["_law_name"] [] (hName 0) fw (aZ (aa (mC (.str "loose")) 7e3)))) af))) dA
def k2:aq->M PF:=a7 6 (aB 7e8 (aW 9e0 iV (bJ (mC (.int 2)))) (aZ (aa (aB 7e5 (aB (g2 gH) 5e7 9e0) 7e9) af)))
def k3:aq->M PF:=fD (cZ (bz (aB (g2 (cJ false)) (au 6) 5e7)) (bz (aB (g2 GO) (aB 7e5 (aB (g2 gH) 5e7 (au 6)) (mC (.int 5))) (aB 7e5 (aB (g2 gH) 5e7 9e0) (mC (.int 5)))))) (b7 (eU (au 3) (aa (aZ (aa (mC (.str "back")) (aa 9e0 af))) af))) dA
def kA:aq->M Bool:=bz (aB (g2 yf) 9e0 (au 7))
def kB:aq->M Bool:=bz (aB (g2 (b8 aE)) (aW (au 7) iV (bJ (mC (.int 2)))) (aW 9e0 iV (bJ (mC (.int 2)))))
def kC:aq->M Bool:=bz (aB (g2 (b8 aE)) (aB 7e5 (aB (g2 gH) 5e7 (au 7)) 7e9) (aB 7e5 (aB (g2 gH) 5e7 9e0) 7e9))
def kD:aq->M PF:=b7 (eU (au 3) (aa (aZ (aa (mC (.str "twin")) (aa 9e0 (aa (au 7) af)))) af))
def k4:aq->M PF:=fD (cZ kA (cZ kB kC)) kD dA
def k5:aq->M PF:=aA k2 (aA k3 (bO (fN 5e7) (hName 7) k4))
theorem tN:fZ=aA (a7 2 (cb cw 7e3)) (aA (dP 3 (dh af)) (aA (bO (aL 4e0) (hName 4) k1) (aA (bO (fN 5e7) (hName 5) k5) (cY (cC 5e5))))):=rfl
theorem ZC{L qs:List PV}(h:L.length+qs.length<100000):yE (.c 0) [.v (.lst qs)] 9e4=some (.v .aF,[.lst (L++qs)]):=G0 (C:=[]) h
theorem Ju{L:List PV}:fA (.c 0) 9e4=some ((),9e4):=Pr (C:=[])
theorem NX(g:Good ls)(b:Bt)(hm:b.m<=9)(x5 x6 x7:Option SV)(L:List PV)(hL:L.length<=1000):
  k1 (KS ls R0 R1 #[.lst (dJ b)] x5 x6 x7) 9e4=some (.nx (KS ls R0 R1 #[.lst (dJ b)] x5 x6 x7),[.lst (L++if full ls b then ou b else[])]):=by
 have hlen:(dJ b).length<=100000:=by ext dJ;rw[Yj,Wb];lia
 have c1:=Md (te:=aB (g2 (cJ false)) 2e8 4e0) (f:=λx=>.bl (bX ((match x with|.tup qs=>(bP qs).getD []|_=>[])) (ls.map Lt.nm))) (dJ b) [none,#[DD ls]] [] [.lst L] (λx hx=>by
  obtain⟨k,_,rfl⟩:=Yy.mp hx;have e1:=BK false (rn b k) (dF ls).1 (dF ls).2;rw[qB g.nd]at e1;have e1:cJ false (tupK (rn b k)) (DD ls)=some (.bl (bX (rn b k) (ls.map Lt.nm))):=by ext DD;rw[qB g.nd];show e1
  have e2:(match tupK (rn b k)with|.tup qs=>(bP qs).getD []|_=>[])=rn b k:=by ext tupK;simp only[zC];rfl
  rw[e2];generalize bX (rn b k) (ls.map Lt.nm)=bb at *;generalize tupK (rn b k)=T at *;sleep 4;simp![e1])
 rw[WZ]at c1;have e1:(dJ b).map (λx=>PV.bl (bX ((match x with|.tup qs=>(bP qs).getD []|_=>[])) (ls.map Lt.nm)))=(YB b.m).map λk=>.bl (bX (rn b k) (ls.map Lt.nm)):=by
  ext dJ;rw[Xd];apply Yar;intro k _;change PV.bl (bX (match tupK (rn b k)with|.tup qs=>(bP qs).getD []|_=>[]) (ls.map Lt.nm))=_;ext tupK;simp only[zC];rfl
 rw[e1]at c1;have hb:=l5 (λk=>bX (rn b k) (ls.map Lt.nm)) (YB b.m);have hf:((YB b.m).map λk=>bX (rn b k) (ls.map Lt.nm)).all id=full ls b:=by ext full;rw[List.all_map];rfl
 have c2:=Md (te:=aZ (aa (mC (.str "loose")) 7e3)) (f:=λx=>.tup [.str "loose",x]) (dJ b) [none] [] 9e4 (λx hx=>by simp![]);rw[WZ]at c2;have e2:(dJ b).map (λx=>PV.tup [.str "loose",x])=ou b:=by unfold dJ ou;rw[Xd];rfl
 rw[e2]at c2;have oy:(ou b).length<=9:=by ext ou;rw[Yj,Wb];show hm
 have e3:=ZC (L:=L) (qs:=ou b) 1e0;have e4:=Ju (L:=L);have t1:pT (i5 (g1 uL) (aa (bF (bW (aL (au 4)) ["_law_name"] [2] (hName 0) fw (aB (g2 (cJ false)) 2e8 4e0))) af)) (KS ls R0 R1 #[.lst (dJ b)] x5 x6 x7) 9e4=some (full ls b,9e4):=by
  ext KS;generalize((YB b.m).map λk=>bX (rn b k) (ls.map Lt.nm))=BS at *;generalize((YB b.m).map λk=>PV.bl (bX (rn b k) (ls.map Lt.nm)))=VS at *;generalize dJ b=G at *;sleep 4;generalize[PV.lst L]=C at *;generalize aB (g2 (cJ false)) 2e8 4e0=te at *;simp![bW,aL,dE,hlen,cX,c1,uL,hb];show hf
 ext k1;cases T9:full ls b with
 |false=>
  rw[T9]at t1;rw[mG t1];simp
 |true=>
  rw[T9]at t1;rw[Jx t1,if_pos rfl];ext KS;generalize ou b=Q at *;generalize dJ b=G at *;sleep 4;generalize[PV.lst (L++Q)]=C2 at *;generalize[PV.lst L]=C at *;generalize aZ (aa (mC (.str "loose")) 7e3)=te at *;simp![tx,bW,aL,dE,hlen,cX,c2,e3,e4]
theorem wg(g:Good ls)(x5 x6 x7:Option SV):∀(bs:List Bt)(x4:Option SV)(L:List PV),(∀b∈bs,b.m<=9)->L.length+9*bs.length<=1000->
  ∃y4,loop (hName 4) k1 3e6 (KS ls R0 R1 x4 x5 x6 x7) 9e4=some (.nx (KS ls R0 R1 y4 x5 x6 x7),[.lst (L++bs.flatMap λb=>if full ls b then ou b else[])])
 |[],x4,L,_,_=>⟨x4,by simp[loop,Pu.ret]⟩
 |b::bs,x4,L,hm,hl=>by
  rw[Yv]at hl;have e1:=NX (R0:=R0) (R1:=R1) g b (hm b 6e9) x5 x6 x7 L 1e0;have hlen:(if full ls b then ou b else[]).length<=9:=by
   split
   ·ext ou;rw[Yj,Wb];show hm b 6e9
   ·simp
  obtain⟨y4,e2⟩:=wg g x5 x6 x7 bs #[.lst (dJ b)] (L++if full ls b then ou b else[]) (λc hc=>hm c (.tail _ hc)) (by rw[Yf];lia);show⟨y4,?_⟩;rw[Yq];ext loop;have hh:hName 4 (.lst (dJ b)) (KS ls R0 R1 x4 x5 x6 x7)=some (KS ls R0 R1 #[.lst (dJ b)] x5 x6 x7):=rfl;simp only[hh,aI,e1,e2];simp
theorem Pd(l:Lt):fQ [PV.str l.h,.str l.d,.int l.n] none (some 2)=[.str l.h,.str l.d]:=by simp[fQ,HT.bI]
theorem rC(l:Lt):gm none (some 2) (aH l)=some (.tup [.str l.h,.str l.d]):=by
 ext aH;rw[AX];simp[gm,Pd]
theorem P_3(l:Lt):gI l.P (.int 3)=some (.int l.pv):=by simp[Lt.P,gI,yl,gX,kI]
theorem F4(g:Good ls){l:Lt}(h:l∈ls):gH (DD ls) (aH l)=some l.P:=Lo g.uq (nr g.uq h)
theorem NW(g:Good ls){l:Lt}(h:l∈ls)(x4 x6 x7:Option SV)(C:Cs):k2 (KS ls R0 R1 x4 #[aH l] x6 x7) C=some (.nx (KS ls R0 R1 x4 #[aH l] #[tupK l.fo] x7),C):=by
 have e1:=F4 g h;have e2:=P_3 l;have e3:=rC l;have e4:fR (.tup [.str l.h,.str l.d]) (.tup [.int l.pv])=some (tupK l.fo):=by rw[OY];rfl
 ext KS;generalize aH l=N at *;generalize l.P=LP at *;sleep 4;generalize tupK l.fo=FO at *;generalize PV.tup [.str l.h,.str l.d]=HD at *;simp[k2,a7,aB,aW,aZ,aa,af,aI,au,iV,bJ,mC,dM,Pu.ret,Pu.intD,aN,eQ,g2,e1,e2,e3,e4,Pu.plain]
theorem Pm{L:List PV}{q:PV}(h:L.length<100000):oa (.c 0) [.v q] 9e4=some (.v .aF,[.lst (L++[q])]):=by
 ext oa;simp[h]
theorem NU(g:Good ls){l:Lt}(h:l∈ls)(x4 x7:Option SV)(L:List PV)(hL:L.length<100000):
  k3 (KS ls R0 R1 x4 #[aH l] #[tupK l.fo] x7) 9e4=some (.nx (KS ls R0 R1 x4 #[aH l] #[tupK l.fo] x7),[.lst (L++if dg ls l then[uA "back" l]else[])]):=by
 have e0:=Qk g.uq l.fo;have e1:=F4 g h;have e2:=RU l;have e5:=Pm (q:=uA "back" l) hL;have e6:uA "back" l=.tup [.str "back",aH l]:=rfl;unfold dg KS k3;cases e:look ls l.fo with
 |none=>
  rw[e]at e0;have e0:cJ false (tupK l.fo) (DD ls)=some (.bl false):=e0;generalize tupK l.fo=FO at *;sleep 4;simp![e0]
 |some m=>
  rw[e]at e0;have e0:cJ false (tupK l.fo) (DD ls)=some (.bl true):=e0;have e3:=Lo g.uq e;have e4:=RU m;rw[e6]at e5⊢;generalize tupK l.fo=FO at *;sleep 4;generalize aH l=N at *;generalize l.P=LP at *;generalize m.P=MP at *;by_cases ht:l.t<m.t
  ·have LC:decide (l.t<m.t)=true:=decide_eq_true ht
   simp only[LC,if_true];simp![e0,e1,e2,e3,e4,GO,ht,eU,Ju,e5]
  ·have LC:decide (l.t<m.t)=false:=decide_eq_false ht
   simp only[LC];simp![e0,e1,e2,e3,e4,GO,ht]
def rP(l q:Lt):Bool:=lT (aH l) (aH q)&&decide (l.fo=q.fo)
theorem EL(l q:Lt):yf (aH l) (aH q)=some (.bl (lT (aH l) (aH q))):=by
 have h1:dat (aH l)=true:=KR l.nm;have h2:dat (aH q)=true:=KR q.nm;have h3:dep (aH l)<=60:=by have:dep (aH l)<=1:=Me l.nm;lia
 ext yf;rw[h1,h2,tF,if_pos (by simp[h3])];rfl
theorem Fw(q l:Lt):b8 aE (.tup [.str q.h,.str q.d]) (.tup [.str l.h,.str l.d])=some (.bl (decide (q.h=l.h/\q.d=l.d))):=by
 have:=lY [.inr q.h,.inr q.d] [.inr l.h,.inr l.d];rw[show decide (([.inr q.h,.inr q.d]:List Key)=[.inr l.h,.inr l.d])=decide (q.h=l.h/\q.d=l.d) by simp]at this;show this
theorem qA(a b:Int):b8 aE (.int a) (.int b)=some (.bl (decide (a=b))):=by
 ext b8;rw[if_pos (by simp[dat,dep])]
 congr 2
theorem NT(g:Good ls){l q:Lt}(h:l∈ls)(hq:q∈ls)(x4 x6:Option SV)(L:List PV)(hL:L.length<100000):
  k4 9e1 9e4=some (.nx 9e1,[.lst (L++if rP l q then[gz (l,q)]else[])]):=by
 have e1:=F4 g h;have e2:=F4 g hq;have e3:=P_3 l;have e4:=P_3 q;have e5:=rC l;have e6:=rC q;have e7:=EL l q;have e8:=Fw q l;have e9:=qA q.pv l.pv;have QU:=Pm (q:=gz (l,q)) hL;have tA:kA 9e1 9e4=some (lT (aH l) (aH q),9e4):=by
  unfold KS kA;generalize lT (aH l) (aH q)=b at *;generalize aH l=N at *;generalize aH q=M at *;sleep 4;simp![e7]
 have tB:kB 9e1 9e4=some (decide (q.h=l.h/\q.d=l.d),9e4):=by
  unfold KS kB;generalize decide (q.h=l.h/\q.d=l.d)=b at *;generalize PV.tup [.str l.h,.str l.d]=HL at *;generalize PV.tup [.str q.h,.str q.d]=HQ at *;generalize aH l=N at *;generalize aH q=M at *;sleep 4;simp[bz,aB,aW,aI,au,iV,bJ,mC,dM,Pu.ret,Pu.intD,aN,eQ,g2,e5,e6,e8,mB,L3]
 have tC:kC 9e1 9e4=some (decide (q.pv=l.pv),9e4):=by
  unfold KS kC;generalize decide (q.pv=l.pv)=b at *;generalize PV.int q.pv=QP at *;generalize PV.int l.pv=LQ at *;generalize aH l=N at *;generalize aH q=M at *;generalize l.P=LP at *;generalize q.P=MP at *;sleep 4;simp![e1,e2,e3,e4,e9]
 have tD:kD 9e1 9e4=some (.nx 9e1,[.lst (L++[gz (l,q)])]):=by
  unfold KS kD;have e11:gz (l,q)=.tup [.str "twin",aH l,aH q]:=rfl;rw[e11]at QU⊢;generalize aH l=N at *;generalize aH q=M at *;sleep 4;simp![eU,Ju,QU]
 have ee:rP l q=(lT (aH l) (aH q)&&(decide (q.h=l.h/\q.d=l.d)&&decide (q.pv=l.pv))):=by
  ext rP
  congr 1
  rw[WU,decide_eq_true_iff,YI,decide_eq_true_iff,decide_eq_true_iff];ext Lt.fo;simp only[VU,RD,RC,and_true];show⟨λ⟨a,b,c⟩=>⟨⟨a.symm,b.symm⟩,c.symm⟩,λ⟨⟨a,b⟩,c⟩=>⟨a.symm,b.symm,c.symm⟩⟩
 have tt:cZ kA (cZ kB kC) 9e1 9e4=some (rP l q,9e4):=by
  rw[ee];generalize lT (aH l) (aH q)=b1 at *;generalize decide (q.h=l.h/\q.d=l.d)=b2 at *;generalize decide (q.pv=l.pv)=b3 at *;unfold cZ aI;rw[tA];cases b1 with
  |false=>rfl
  |true=>
   simp only[if_true];rw[tB];cases b2 with
   |false=>rfl
   |true=>simp only[if_true];rw[tC];rfl
 ext k4;cases hb:rP l q with
 |false=>rw[hb]at tt;rw[mG tt];simp
 |true=>rw[hb]at tt;rw[Jx tt,tD,if_pos rfl]
theorem we(g:Good ls){l:Lt}(h:l∈ls)(x4 x6:Option SV):∀(qs:List Lt)(x7:Option SV)(L:List PV),(∀q∈qs,q∈ls)->L.length+qs.length<=10000->
  ∃y7,loop (hName 7) k4 (qs.map aH) (KS ls R0 R1 x4 #[aH l] x6 x7) 9e4=some (.nx (KS ls R0 R1 x4 #[aH l] x6 y7),[.lst (L++(qs.filter (rP l)).map λq=>gz (l,q))])
 |[],x7,L,_,_=>⟨x7,by simp[loop,Pu.ret]⟩
 |q::qs,x7,L,hs,hl=>by
  rw[Yv]at hl;have e1:=NT (R0:=R0) (R1:=R1) g h (hs q 6e9) x4 x6 L 1e0;have hlen:(if rP l q then[gz (l,q)]else[]).length<=1:=by split<;>simp
  obtain⟨y7,e2⟩:=we g h x4 x6 qs #[aH q] (L++if rP l q then[gz (l,q)]else[]) (λc hc=>hs c (.tail _ hc)) (by rw[Yf];lia);show⟨y7,?_⟩;rw[Yq];ext loop;have hh:hName 7 (aH q) (KS ls R0 R1 x4 #[aH l] x6 x7)=some 9e1:=rfl;simp only[hh,aI,e1,e2];rw[List.filter_cons];cases rP l q<;>simp
theorem Bx(g:Good ls)(x4 x5 x6 x7:Option SV)(C:Cs):fN 5e7 (KS ls R0 R1 x4 x5 x6 x7) C=some (ls.map aH,C):=by
 have hk:=v9 g;have hn:(ls.map Lt.nm).map tupK=ls.map aH:=by rw[Xd];rfl
 have:wa (.v (DD ls))=some (ls.map aH):=by
  unfold DD wa;rw[qB g.nd];change(if keysOk (ls.map Lt.nm)then some ((ls.map Lt.nm).map tupK)else none)=_;rw[if_pos hk,hn]
 unfold fN KS;sleep 4;simp[aI,au,dM,this]
def nR(ls:List Lt)(l:Lt):List PV:=(if dg ls l then[uA "back" l]else[])++(ls.filter (rP l)).map λq=>gz (l,q)
theorem NR(g:Good ls){l:Lt}(h:l∈ls)(x4 x6 x7:Option SV)(L:List PV)(hL:L.length<=9000):
  ∃y6 y7,k5 (KS ls R0 R1 x4 #[aH l] x6 x7) 9e4=some (.nx (KS ls R0 R1 x4 #[aH l] y6 y7),[.lst (L++nR ls l)]):=by
 have hlen:(if dg ls l then[uA "back" l]else[]).length<=1:=by split<;>simp
 have iI:=g.fF;obtain⟨y7,e⟩:=we (R0:=R0) (R1:=R1) g h x4 #[tupK l.fo] ls x7 (L++if dg ls l then[uA "back" l]else[]) (λ_ z=>z) (by rw[Yf];lia);show⟨#[tupK l.fo],y7,?_⟩;ext k5;rw[gR (NW g h x4 x6 x7 _),gR (NU g h x4 x7 L 1e0)];unfold bO aI;rw[Bx g];sleep 6;rw[e];ext nR;rw[Yd]
theorem wc(g:Good ls)(x4:Option SV):∀(us:List Lt)(x5 x6 x7:Option SV)(L:List PV),(∀q∈us,q∈ls)->L.length+55*us.length<=9000->
  ∃y5 y6 y7,loop (hName 5) k5 (us.map aH) (KS ls R0 R1 x4 x5 x6 x7) 9e4=some (.nx (KS ls R0 R1 x4 y5 y6 y7),[.lst (L++us.flatMap (nR ls))])
 |[],x5,x6,x7,L,_,_=>⟨x5,x6,x7,by simp[loop,Pu.ret]⟩
 |u::us,x5,x6,x7,L,hs,hl=>by
  rw[Yv]at hl;obtain⟨z6,z7,e1⟩:=NR (R0:=R0) (R1:=R1) g (hs u 6e9) x4 x6 x7 L 1e0;have hlen:(nR ls u).length<=55:=by
   ext nR;have h1:=List.length_filter_le (rP u) ls;have h2:=g.fF;have h3:(if dg ls u then[uA "back" u]else[]).length<=1:=by split<;>simp
   rw[Yf,Yj];lia
  obtain⟨y5,y6,y7,e2⟩:=wc g x4 us #[aH u] z6 z7 (L++nR ls u) (λc hc=>hs c (.tail _ hc)) (by rw[Yf];lia);show⟨y5,y6,y7,?_⟩;rw[Yq];ext loop;have hh:hName 5 (aH u) (KS ls R0 R1 x4 x5 x6 x7)=some (KS ls R0 R1 x4 #[aH u] x6 x7):=rfl;simp only[hh,aI,e1,e2];simp
end
def gl(ls:List Lt)(b:Bt):List Lt:=(YB b.m).filterMap λk=>look ls (rn b k)
def Bl(ls:List Lt)(b:Bt):List Cm:=if full ls b then(gl ls b).map (.cl false)else[]
def Ci(ls:List Lt)(l:Lt):List Cm:=(if dg ls l then[.cl true l]else[])++(ls.filter (rP l)).map λq=>.tw (l,q)
def kJ(bs:List Bt)(ls:List Lt):List Cm:=bs.flatMap (Bl ls)++ls.flatMap (Ci ls)
section
variable{bs:List Bt}{ls:List Lt}
theorem wI{b:Bt}(h:full ls b=true):(gl ls b).map Lt.nm=(YB b.m).map (rn b):=by
 have h:=jU.mp h;ext gl;have:∀ks:List Nat,(∀k∈ks,k<b.m)->(ks.filterMap λk=>look ls (rn b k)).map Lt.nm=ks.map (rn b):=by
  intro ks;induction ks with
  |nil=>intro _;rfl
  |cons k ks ih=>
   intro hk;obtain⟨l,hl,e⟩:=h k (hk k 6e9);cases e2:look ls (rn b k)with
   |none=>show absurd e (KP e2 l hl)
   |some m=>
    rw[WR,e2,Yq,Yq,ih λj hj=>hk j (.tail _ hj),(DG e2).2]
 show this _ λk hk=>Y3.mp hk
theorem Gv(b:Bt):(if full ls b then ou b else[])=(Bl ls b).map Cm.P:=by
 ext Bl;cases h:full ls b with
 |false=>rfl
 |true=>
  simp only[if_true];rw[Xd];have e:(gl ls b).map (Cm.P∘Cm.cl false)=((gl ls b).map Lt.nm).map λn=>.tup [.str "loose",tupK n]:=by rw[Xd];rfl
  rw[e,wI h,Xd];rfl
theorem Pa(l:Lt):nR ls l=(Ci ls l).map Cm.P:=by
 unfold nR Ci;rw[YX,Xd]
 congr 1
 cases dg ls l<;>rfl
theorem ue{α:Type}{f:α->List PV}{g:α->List Cm}(h:∀a,f a=(g a).map Cm.P):∀l:List α,l.flatMap f=(l.flatMap g).map Cm.P
 |[]=>rfl
 |a::l=>by rw[Wv,Wv,YX,h a,ue h l]
theorem OZ:(bs.flatMap λb=>if full ls b then ou b else[])++ls.flatMap (nR ls)=(kJ bs ls).map Cm.P:=by
 ext kJ;rw[YX,ue Gv bs,ue Pa ls]
theorem vW{b:Bt}(h:b.m<=9):(Bl ls b).length<=9:=by
 ext Bl;split
 ·rw[Yj];ext gl
  show Xb (List.length_filterMap_le _ _) (by rw[Wb];show h)
 ·simp
theorem ER(h:ls.length<=54)(l:Lt):(Ci ls l).length<=55:=by
 ext Ci;have h1:=List.length_filter_le (rP l) ls;have h3:(if dg ls l then[Cm.cl true l]else[]).length<=1:=by split<;>simp
 rw[Yf,Yj];lia
theorem EO(w:Wd bs ls):(kJ bs ls).length<=2997:=by
 have h1:=jM (f:=Bl ls) (n:=9) (l:=bs) λb hb=>vW (w.bt b hb).m2;have h2:=jM (f:=Ci ls) (n:=55) (l:=ls) λl _=>ER w.fF l;have h3:=w.fF;have h4:=w.b3;ext kJ;rw[Yf];lia
theorem tO(w:Wd bs ls):∃rs:List Cm,cT [.v 8e6,.v (.lst 3e6)] []=some (rs.map Cm.P,[])/\aR (rs.map Cm.P)/\rs.Perm (kJ bs ls):=by
 have g:=w.good;have iI:=g.fF;have hb3:=w.b3;have e1:=named_eq ls 1e0 [];obtain⟨y4,e2⟩:=wg (R0:=.lst 3e3) (R1:=.lst 3e6) g none none none bs none [] (λb hb=>(w.bt b hb).m2) 6e2;have JI:(bs.flatMap λb=>if full ls b then ou b else[]).length<=27:=by
  have:=jM (f:=λb=>if full ls b then ou b else[]) (n:=9) (l:=bs) λb hb=>by
   rw[Gv,Yj];show vW (w.bt b hb).m2
  lia
 rw[WZ]at e2;obtain⟨y5,y6,y7,e3⟩:=wc (R0:=.lst 3e3) (R1:=.lst 3e6) g y4 ls none none none (bs.flatMap λb=>if full ls b then ou b else[]) (λ_ h=>h) 1e0;rw[OZ]at e3;have hlen:=EO w;obtain⟨rs,er,pr⟩:=ng Cm.P (PQ (j7 (kJ bs ls)) (Hl (kJ bs ls)));have ri:=PY (j7 (kJ bs ls)) (Hl (kJ bs ls));have e4:=oO (kJ bs ls) 1e0;rw[er]at ri e4;show⟨rs,?_,ri,pr⟩;have s1:a7 2 (cb cw 7e3) [#[.lst 3e3],#[.lst 3e6],none,none,none,none,none,none] []=some (.nx [#[.lst 3e3],#[.lst 3e6],#[DD ls],none,none,none,none,none],[]):=by
  have e1:cw [.v 8e6] []=some (.v (DD ls),[]):=e1;generalize PV.lst 3e6=RG at *;generalize PV.lst 3e3=LS at *;sleep 4;simp![e1]
 have s2:dP 3 (dh af) [#[.lst 3e3],#[.lst 3e6],#[DD ls],none,none,none,none,none] []=some (.nx (KS ls 8e6 (.lst 3e6) none none none none),[.lst []]):=rfl;have s3:bO (aL 4e0) (hName 4) k1 (KS ls 8e6 (.lst 3e6) none none none none) [.lst []]=some (.nx (KS ls 8e6 (.lst 3e6) y4 none none none),[.lst (bs.flatMap λb=>if full ls b then ou b else[])]):=by
  have hi:aL 4e0 (KS ls 8e6 (.lst 3e6) none none none none) [.lst []]=some (bs.map λb=>.lst (dJ b),[.lst []]):=by
   have hl:(bs.map λb=>PV.lst (dJ b)).length<=100000:=by rw[Yj];lia
   ext KS;generalize(bs.map λb=>PV.lst (dJ b))=RG at *;sleep 4;simp![aL,dE,hl]
  unfold bO aI;rw[hi];show e2
 have s4:bO (fN 5e7) (hName 5) k5 (KS ls 8e6 (.lst 3e6) y4 none none none) [.lst (bs.flatMap λb=>if full ls b then ou b else[])]=some (.nx (KS ls 8e6 (.lst 3e6) y4 y5 y6 y7),[.lst ((kJ bs ls).map Cm.P)]):=by
  unfold bO aI;rw[Bx g];show e3
 have s5:cY (cC 5e5) (KS ls 8e6 (.lst 3e6) y4 y5 y6 y7) [.lst ((kJ bs ls).map Cm.P)]=some (.rf (rs.map Cm.P),[.lst ((kJ bs ls).map Cm.P)]):=by
  have:fK [.lst ((kJ bs ls).map Cm.P)] [.c 0]=some (rs.map Cm.P):=e4;ext KS;generalize(kJ bs ls).map Cm.P=F at *;generalize rs.map Cm.P=R at *;sleep 4;simp![cC,this]
 have run:fZ [#[.lst 3e3],#[.lst 3e6],none,none,none,none,none,none] []=some (.rf (rs.map Cm.P),[.lst ((kJ bs ls).map Cm.P)]):=by
  rw[tN,gR s1,gR s2,gR s3,gR s4];show s5
 ext cT;generalize fZ=bb at *;generalize PV.lst 3e6=RG at *;generalize PV.lst 3e3=LS at *;simp[dB,run]
theorem Gr{α β:Type}{f:α->List β}{l:List α}(h1:∀a∈l,(f a).Nodup)(h2:l.Pairwise λa b=>∀x∈f a,∀y∈f b,x≠y):(l.flatMap f).Nodup:=by
 rw[Y0,List.pairwise_flatMap];show⟨λa ha=>Y0.mp (h1 a ha),h2⟩
theorem CJ{v v2:Bool}{l l2:Lt}(h:(Cm.cl v l).P=(Cm.cl v2 l2).P):l.nm=l2.nm:=by
 have:=(X4 (X4 (PV.tup.inj h)).2).1;show Mh this
theorem FE{v v2:Bool}{l l2:Lt}(h:(Cm.cl v l).P=(Cm.cl v2 l2).P):v=v2:=by
 have h1:(PV.str (if v then "back" else "loose"))=.str (if v2 then "back" else "loose"):=(X4 (PV.tup.inj h)).1;have h2:=PV.str.inj h1;cases v<;>cases v2<;>first|rfl|(show absurd h2 5e3)
theorem zP{p q:Lt×Lt}(h:(Cm.tw p).P=(Cm.tw q).P):p.1.nm=q.1.nm/\p.2.nm=q.2.nm:=by
 have:=(X4 (PV.tup.inj h)).2;show⟨Mh (X4 this).1,Mh (X4 (X4 this).2).1⟩
theorem wQ{v:Bool}{l:Lt}{p:Lt×Lt}:(Cm.cl v l).P≠(Cm.tw p).P:=λh=>by
 have h1:(PV.str (if v then "back" else "loose"))=.str "twin":=(X4 (PV.tup.inj h)).1;have h2:=PV.str.inj h1;cases v<;>show absurd h2 5e3
theorem Wd.Kc(w:Wd bs ls):((kJ bs ls).map Cm.P).Nodup:=by
 ext kJ;rw[YX,Xl,W7,W7];have uq:=w.good.uq;have lo:∀b,∀x∈(Bl ls b).map Cm.P,full ls b=true/\∃l∈gl ls b,x=(Cm.cl false l).P:=λb x hx=>by
  obtain⟨c,hc,rfl⟩:=Yy.mp hx;ext Bl hc;split at hc
  ·rename_i hf
   obtain⟨l,hl,rfl⟩:=Yy.mp hc;show⟨hf,l,hl,rfl⟩
  ·cases hc
 have du:∀l,∀x∈(Ci ls l).map Cm.P,x=(Cm.cl true l).P\/∃q∈ls,x=(Cm.tw (l,q)).P:=λl x hx=>by
  obtain⟨c,hc,rfl⟩:=Yy.mp hx;rcases Ym.mp hc with hc|hc
  ·split at hc
   ·rw[Yi.mp hc];show .inl rfl
   ·cases hc
  ·obtain⟨q,hq,rfl⟩:=Yy.mp hc
   show .inr ⟨q,(Uo.mp hq).1,rfl⟩
 show⟨Gr (λb hb=>?_) ?_,Gr (λl hl=>?_) ?_,λx hx y hy e=>?_⟩
 ·ext Bl
  split
  ·rename_i hf
   rw[Xd];have e:(gl ls b).map (Cm.P∘Cm.cl false)=((gl ls b).map Lt.nm).map λn=>.tup [.str "loose",tupK n]:=by rw[Xd];rfl
   rw[e,wI hf,Xd,Y0,Xx];show(Y0.mp U3).imp λ{i j} da z=>da ?_;have h1:=Mh (X4 (X4 (PV.tup.inj z)).2).1;ext rn h1;simp at h1;lia
  ·show List.nodup_nil
 ·have:=w.bd
  rw[Y0,Xx]at this;show this.imp λ{a b} da x hx y hy z=>da ?_;obtain⟨hf,l,hl,rfl⟩:=lo a x hx;obtain⟨U',l2,oy,rfl⟩:=lo b y hy;have e:=CJ z;have m1:l.nm∈(YB a.m).map (rn a):=by rw[←wI hf];show Y9 hl
  have m2:l2.nm∈(YB b.m).map (rn b):=by rw[←wI U'];show Y9 oy
  obtain⟨i,_,e1⟩:=Yy.mp m1;obtain⟨j,_,e2⟩:=Yy.mp m2;rw[←(mM.mp e1.symm).2.1,←(mM.mp e2.symm).2.1];show(yc e).2.1
 ·ext Ci
  rw[YX,Xl];show⟨by split<;>simp,?_,λx hx y hy e=>?_⟩
  ·rw[Xd,Y0,Xx]
   have:=w.nd;rw[Y0,Xx]at this;show(this.sublist List.filter_sublist).imp λ{p q} da z=>da (zP z).2
  ·obtain⟨c,hc,rfl⟩:=Yy.mp hx
   obtain⟨d,hd,rfl⟩:=Yy.mp hy;obtain⟨q,hq,rfl⟩:=Yy.mp hd;split at hc
   ·rw[Yi.mp hc]at e;show wQ e
   ·cases hc
 ·have:=w.nd
  rw[Y0,Xx]at this;show this.imp λ{a b} da x hx y hy z=>da ?_;rcases du a x hx with rfl|⟨p,_,rfl⟩
  ·rcases du b y hy with rfl|⟨q,_,rfl⟩
   ·show CJ z
   ·show absurd z wQ
  ·rcases du b y hy with rfl|⟨q,_,rfl⟩
   ·show absurd z.symm wQ
   ·show(zP z).1
 ·obtain⟨b,_,hx⟩:=W8.mp hx
  obtain⟨l,_,hy⟩:=W8.mp hy;obtain⟨_,q,_,rfl⟩:=lo b x hx;rcases du l y hy with rfl|⟨p,_,rfl⟩
  ·show absurd (FE e) 1e7
  ·show wQ e
theorem Wd.same(w:Wd bs ls){ts:List (Lt×Lt)}(tm:∀p,p∈ts↔p.1∈ls/\p.2∈ls/\p.1.fo=p.2.fo/\Ls p.1 p.2)(x:PV):(x∈ts.map gz\/x∈(ls.flatMap (mf ls)).map Cm.P)↔x∈(kJ bs ls).map Cm.P:=by
 ext kJ;rw[YX,Ym,W7,W7,W7,W8,W8,W8];constructor
 ·rintro(h|⟨l,hl,h⟩)
  ·obtain⟨p,hp,rfl⟩:=Yy.mp h
   obtain⟨h1,h2,h3,h4⟩:=(tm p).mp hp;show .inr ⟨p.1,h1,?_⟩;ext Ci;rw[YX,Ym];show .inr (Yy.mpr ⟨.tw p,Yy.mpr ⟨p.2,Uo.mpr ⟨h2,?_⟩,rfl⟩,rfl⟩);ext rP;rw[decide_eq_true h3];ext Ls h4;rw[h4];rfl
  ·obtain⟨c,hc,rfl⟩:=Yy.mp h
   unfold mf Lx at hc;rcases Ym.mp hc with hc|hc
   ·split at hc
    ·rename_i hb
     rw[Yi.mp hc];show .inr ⟨l,hl,?_⟩;ext Ci;rw[if_pos hb];show Yy.mpr ⟨.cl true l,by simp,rfl⟩
    ·cases hc
   ·split at hc
    ·rename_i hb
     rw[Yi.mp hc];left;obtain⟨b,OO,e1,e2,_,k⟩:=w.kd l hl;have no:¬(l.n<10\/200<=l.n):=λz=>by rw[w.Bk hl z]at hb;cases hb
     have o:=w.bt b OO;have h1:=o.s1;rcases k with⟨a1,a2,a3⟩|⟨i,a1,a2,a3⟩|⟨a1,_⟩
     ·show absurd (.inl 1e0) no
     ·have en:l.nm=rn b i:=mM.mpr ⟨e1,e2,a2⟩
      rw[w.jL OO hl a1 en]at hb;show⟨b,OO,Yy.mpr ⟨.cl false l,?_,rfl⟩⟩;ext Bl;rw[if_pos hb];show Y9 (VJ.mpr ⟨i,Y3.mpr a1,?_⟩);rw[←en];show nr w.good.uq hl
     ·show absurd (.inr a1) no
    ·cases hc
 ·rintro(⟨b,hb,h⟩|⟨l,hl,h⟩)
  ·obtain⟨c,hc,rfl⟩:=Yy.mp h
   ext Bl hc;split at hc
   ·rename_i hf
    obtain⟨l,hl,rfl⟩:=Yy.mp hc;obtain⟨k,hk,e⟩:=VJ.mp hl;obtain⟨h1,h2⟩:=DG e;show .inr ⟨l,h1,Yy.mpr ⟨.cl false l,?_,rfl⟩⟩;unfold mf Lx;rw[w.jL hb h1 (Y3.mp hk) h2,hf];simp
   ·cases hc
  ·obtain⟨c,hc,rfl⟩:=Yy.mp h
   ext Ci hc;rcases Ym.mp hc with hc|hc
   ·split at hc
    ·rename_i hb
     rw[Yi.mp hc];show .inr ⟨l,hl,Yy.mpr ⟨.cl true l,?_,rfl⟩⟩;unfold mf Lx;rw[if_pos hb];simp
    ·cases hc
   ·obtain⟨q,hq,rfl⟩:=Yy.mp hc
    obtain⟨h1,h2⟩:=Uo.mp hq;ext rP h2;rw[YI,decide_eq_true_iff]at h2;show .inl (Yy.mpr ⟨(l,q),(tm (l,q)).mpr ⟨hl,h1,h2.2,h2.1⟩,rfl⟩)
theorem Pt:∀{l l':List PV},l.Nodup->l'.Nodup->(∀x,x∈l↔x∈l')->l.Perm l'
 |[],l',_,_,h=>by
  cases l' with
  |nil=>show .nil
  |cons a l'=>show(nomatch(h a).mpr 6e9)
 |a::l,l',n1,n2,h=>by
  obtain⟨b1,b2,rfl⟩:=Ybd ((h a).mp 6e9);rw[Xj]at n1;have n3:=(WH.nodup_iff).mp n2;rw[Xj]at n3;show((Pt n1.2 n3.2 λx=>?_).cons a).trans WH.symm;have:=h x;rw[WH.mem_iff,Yk,Yk]at this;constructor
  ·intro hx
   rcases this.mp (.inr hx)with e|e
   ·subst e;show absurd hx n1.1
   ·show e
  ·intro hx
   rcases this.mpr (.inr hx)with e|e
   ·subst e;show absurd hx n3.1
   ·show e
theorem EN{ms:List Lt}(u:Uq ls)(pm:ms.Perm ls)(q:6e6):look ms q=look ls q:=by
 cases e:look ms q with
 |none=>
  cases e2:look ls q with
  |none=>rfl
  |some m=>obtain⟨a,b⟩:=DG e2;show absurd b (KP e m (pm.mem_iff.mpr a))
 |some m=>
  obtain⟨a,b⟩:=DG e;rw[←b,nr u (pm.mem_iff.mp a)]
theorem qI{ms:List Lt}(h:∀q,look ms q=look ls q):∀(n:Nat)(q:6e6)(acc:List Lt),chain ms n q acc=chain ls n q acc
 |0,q,acc=>rfl
 |n+1,q,acc=>by
  ext chain;rw[h q];cases look ls q with
  |none=>rfl
  |some l=>dsimp only;rw[qI h n]
theorem Gs{ms:List Lt}(u:Uq ls)(pm:ms.Perm ls)(l:Lt):mf ms l=mf ls l:=by
 have h:=EN u pm;unfold mf dg dC dO;rw[h,qI h]
theorem Wd.both(w:Wd bs ls){ms:List Lt}(pm:ms.Perm ls){rs:List Cm}(ri:aR (rs.map Cm.P))(pr:rs.Perm (kJ bs ls))(s:Int)(C:Cs)(y:PV):cI [.v (.tup [.int s,y]),.v (.lst (ms.map Lt.P)),.v (.aG [] [])] C=some (rs.map Cm.P,C):=by
 have w2:Wd bs ms:=⟨(pm.map Lt.nm).nodup_iff.mpr w.nd,by rw[pm.length_eq];show w.fF,λx hx=>w.kd x (pm.mem_iff.mp hx),w.bt,w.bd,w.b3⟩
 obtain⟨ts,qs,e,nd,ri2,mm,tm⟩:=Ba s C y w2.good w2.bd5;rw[e];have fs:∀x,x∈(ms.flatMap (mf ms)).map Cm.P↔x∈(ls.flatMap (mf ls)).map Cm.P:=λx=>by
  rw[W7,W7,W8,W8];show⟨λ⟨l,h1,h2⟩=>⟨l,pm.mem_iff.mp h1,by rw[←Gs w.good.uq pm];show h2⟩,λ⟨l,h1,h2⟩=>⟨l,pm.mem_iff.mpr h1,by rw[Gs w.good.uq pm];show h2⟩⟩
 have tm2:∀p,p∈ts↔p.1∈ls/\p.2∈ls/\p.1.fo=p.2.fo/\Ls p.1 p.2:=λp=>by rw[tm,pm.mem_iff,pm.mem_iff]
 have p2:(qs.map Cm.P).Perm (rs.map Cm.P):=(Pt nd w.Kc λx=>by rw[mm,fs];show w.same tm2 x).trans (pr.map Cm.P).symm;rw[Zbs (Hl qs) p2 ri2 ri]
end
theorem GS.snoc{C:Cs}{k:Nat}(h:GS C k)(v:PV):GS (C++[v]) k/\k<C.length:=by
 obtain⟨x,y,e,h1,h2⟩:=h;have hk:k<C.length:=by
  rcases YQ k C.length with q|q
  ·show q
  ·rw[YK q]at e;cases e
 show⟨⟨x,y,by rw[Yp hk];show e,h1,h2⟩,hk⟩
theorem kX.HH{k:Nat}{C C':Cs}{v:PV}(hk:k<C.length)(a:kX k (C++[v]) C'):∃C1,C'=C1++[v]/\kX k C C1:=by
 have hl:=a.len;rw[Yf,X7]at hl;have hv:C'[C.length]? = some v:=by rw[a.iF C.length 1e0];simp
 have e:C'=C'.take C.length++[v]:=by
  have h1:=YV C.length C';have h2:C'.drop C.length=[v]:=by
   have bA:C.length<C'.length:=by lia
   rw[Xc bA,XH 1e0];rw[Ye bA]at hv;rw[YR hv]
  rw[h2]at h1;show h1.symm
 have tl:(C'.take C.length).length=C.length:=by rw[Xv];lia
 show⟨C'.take C.length,e,tl,?_,λj hj=>?_⟩
 ·obtain⟨x,y,e2,h1,h2⟩:=a.gs
  show⟨x,y,by rw[XJ hk];show e2,h1,h2⟩
 ·rcases YQ j C.length with q|q
  ·rw[XJ q,a.iF j hj,Yp q]
  ·rw[YK 1e0,YK q]
theorem Hk(k:Nat)(m:Int){C:Cs}(v:PV)(h:GS C k)(hm:0<m/\m<1606938044258990275541962092341162602522202993782792835301376):∃d C',ao [.c k,.v (.int m)] (C++[v])=some (.v (.int d),C'++[v])/\0<=d/\d<m/\kX k C C':=by
 obtain⟨h1,hk⟩:=h.snoc v;obtain⟨d,C',e,a1,a2,a⟩:=FR k m _ h1 hm;obtain⟨C1,rfl,a'⟩:=a.HH hk;show⟨d,C1,e,a1,a2,a'⟩
theorem Q5{f:7e4}{v:Nat}(Pi:Nat->aq->Cs->Prop)(m:Nat)(hs:∀i ρ C,i<m->Pi i ρ C->∃ρ1 ρ2 C2,hName v (.int (0+(i:Nat))) ρ=some ρ1/\f ρ1 C=some (.nx ρ2,C2)/\Pi (i+1) ρ2 C2):∀ρ C,Pi 0 ρ C->∃ρ' C',loop (hName v) f ((YB m).map λ(q:Nat)=>PV.int (0+q)) ρ C=some (.nx ρ',C')/\Pi m ρ' C':=by
 have go:∀n s,s+n=m->∀ρ C,Pi s ρ C->∃ρ' C',loop (hName v) f ((List.range' s n).map λ(q:Nat)=>PV.int (0+q)) ρ C=some (.nx ρ',C')/\Pi m ρ' C':=by
  intro n;induction n with
  |zero=>intro s Jz ρ C h;rw[RA]at Jz;subst Jz;show⟨ρ,C,rfl,h⟩
  |succ n ih=>
   intro s Jz ρ C h;obtain⟨ρ1,ρ2,C2,e1,e2,h2⟩:=hs s ρ C 1e0 h;obtain⟨ρ',C',e3,h3⟩:=ih (s+1) 1e0 ρ2 C2 h2;show⟨ρ',C',?_,h3⟩;rw[List.range'_succ,Yq];ext loop;simp only[e1,aI,e2,e3]
 intro ρ C h;rw[List.range_eq_range'];show go m 0 1e0 ρ C h
section
variable(b:Bt)
structure Hd(x:Lt):Prop where
 h:x.h=b.h
 d:x.d=b.d
 g:x.gs=[]
def R1(i:Nat)(ls:List Lt):Prop:=ls.length=i/\∀(j:Nat)l,ls[j]? = some l->Hd b l/\l.n=b.st+j/\l.pv=b.st+((j+1)%b.m:Nat)
def R2(i:Nat)(ls:List Lt):Prop:=ls.length=i/\∀(j:Nat)l,ls[j]? = some l->Hd b l/\l.n=200+j/\((∃k:Nat,k<b.m/\l.pv=b.st+k)\/(200<=l.pv/\l.pv<l.n))
def R3(i:Nat)(ls:List Lt):Prop:=ls.length=i/\∀(j:Nat)l,ls[j]? = some l->Hd b l/\l.n=1+j/\l.pv=j
end
theorem jm{Q:Nat->Lt->Prop}{i:Nat}{ls:List Lt}{x:Lt}(h:ls.length=i/\∀(j:Nat)l,ls[j]? = some l->Q j l)(hx:Q i x):(ls++[x]).length=i+1/\∀(j:Nat)l,(ls++[x])[j]? = some l->Q j l:=by
 show⟨by simp[h.1],λj l e=>?_⟩;rcases YQ j ls.length with q|q
 ·rw[Yp q]at e;show h.2 j l e
 ·rw[YE q]at e
  by_cases z:j-ls.length=0
  ·rw[z]at e
   have:j=i:=by have:=h.1;lia
   subst this;cases e;show hx
  ·rw[YK 6e2]at e;cases e
section
variable(k n:Nat)(b:Bt)
noncomputable def TS (x6 x7 x8:Option SV):aq:=[some (.c k),#[.str b.h],#[.str b.d],#[(.int (b.m:Nat))],#[.int b.st],some (.c n),x6,x7,x8]
def fa:aq->M PF:=aA (a7 7 (aB 7e5 (bF (dh (aa (aZ (aa (mC (.str "note")) af)) (aa (aZ (aa (mC (.str "join")) af)) (aa (aZ (aa (mC (.str "free")) (aa 10e4 af))) af))))) (cb ao (aa 2e8 (aa 7e9 af))))) (b7 (eU 9e0 (aa (aZ (aa 4e0 (aa 5e7 (aa (aB 7e8 (au 4) (au 6)) (aa (aB 7e8 (au 4) (aB (g2 fM) (aB 7e8 (au 6) 8e0) (au 3))) (aa (aZ af) (aa 6e7 (aa (au 7) af)))))))) af)))
def fb:aq->M PF:=aA (a7 8 (aB 7e5 (aB 7e5 9e0 (cb ao (aa 2e8 (aa (i5 (g1 jN) (aa 9e0 af)) af)))) (mC (.int 2)))) (b7 (eU 9e0 (aa (aZ (aa 4e0 (aa 5e7 (aa (aB 7e8 (mC (.int 200)) (au 6)) (aa (au 8) (aa (aZ af) (aa 6e7 (aa (aZ (aa (mC (.str "note")) af)) af)))))))) af)))
def fc:aq->M PF:=b7 (eU 9e0 (aa (aZ (aa 4e0 (aa 5e7 (aa (aB 7e8 8e0 (au 6)) (aa (au 6) (aa (aZ af) (aa 6e7 (aa (aZ (aa (mC (.str "note")) af)) af)))))))) af))
end
theorem CW{C:Cs}{L:List PV}{q:PV}(h:L.length<100000):oa 9e7 [.v q] (C++9e4)=some (.v .aF,C++[.lst (L++[q])]):=by
 ext oa;simp[h]
theorem Cu(d:Int)(h1:0<=d)(h2:d<3):∃dd:List Key,gI (.lst [.tup [.str "note"],.tup [.str "join"],.tup [.str "free",.int 0]]) (.int d)=some (tupK dd):=by
 have:d=0\/d=1\/d=2:=by lia
 rcases this with rfl|rfl|rfl
 ·show⟨[.inr "note"],rfl⟩
 ·show⟨[.inr "join"],rfl⟩
 ·show⟨[.inr "free",.inl 0],rfl⟩
section
variable{k:Nat}{b:Bt}
theorem O5(o:b.Ok){C:Cs}(hg:GS C k)(i:Nat)(hi:i<b.m)(x7 x8:Option SV)(L:List PV)(hL:L.length<=1000):
  ∃(y7:Option SV)(C':Cs)(t:Int)(dd:6e6),fa (TS k C.length b #[(.int (0+(i:Nat)))] x7 x8) (C++9e4)=some (.nx (TS k C.length b #[(.int (0+(i:Nat)))] y7 x8),C'++[.lst (L++[(⟨b.h,b.d,b.st+i,b.st+((i+1)%b.m:Nat),[],t,dd⟩:Lt).P])])/\kX k C C':=by
 obtain⟨d,C1,e1,d1,d2,a1⟩:=Hk k 3 (.lst L) hg 1e7;obtain⟨dd,e2⟩:=Cu d d1 d2;obtain⟨t,C2,e3,t1,t2,a2⟩:=Hk k 9 (.lst L) a1.gs 1e7;show⟨#[tupK dd],C2,t,dd,?_,a1.trans a2⟩;have yx:C1.length=C.length:=a1.len;have oy:C2.length=C.length:=a2.len.trans yx;have hm:(0:Int)<(b.m:Int):=by have:=o.m1;lia
 have TQ:(0+(i:Int)+1)%(b.m:Int)=(((i+1)%b.m:Nat):Int):=by rw[P8,Int.natCast_emod,Int.natCast_add];rfl
 have e5:=CW (C:=C2) (L:=L) (q:=(⟨b.h,b.d,b.st+i,b.st+((i+1)%b.m:Nat),[],t,dd⟩:Lt).P) 1e0;have e6:=Pr (C:=C1) (L:=L);rw[oy]at e5;rw[yx]at e6;have eP:(⟨b.h,b.d,b.st+i,b.st+((i+1)%b.m:Nat),[],t,dd⟩:Lt).P=.tup [.str b.h,.str b.d,.int (b.st+(0+(i:Int))),.int (b.st+(0+(i:Int)+1)%(b.m:Int)),.tup [],.int t,tupK dd]:=by
  ext Lt.P;rw[TQ,P8];rfl
 rw[eP]at e5⊢;ext TS;generalize tupK dd=DDD at *;generalize hz:(b.m:Int)=mm at *;generalize(0+(i:Int))=ii at *;have s1:a7 7 (aB 7e5 (bF (dh (aa (aZ (aa (mC (.str "note")) af)) (aa (aZ (aa (mC (.str "join")) af)) (aa (aZ (aa (mC (.str "free")) (aa 10e4 af))) af))))) (cb ao (aa 2e8 (aa 7e9 af)))) [some (.c k),#[.str b.h],#[.str b.d],#[.int mm],#[.int b.st],some 9e7,#[.int ii],x7,x8] (C++9e4)=some (.nx [some (.c k),#[.str b.h],#[.str b.d],#[.int mm],#[.int b.st],some 9e7,#[.int ii],#[DDD],x8],C1++9e4):=by
  generalize C++[PV.lst L]=Ca at *;generalize C1++[PV.lst L]=Cb at *;generalize C.length=nn at *;generalize ao=FP at *;simp![e1,e2]
 ext fa;rw[gR s1];generalize C1++[PV.lst L]=Cb at *;generalize C2++[PV.lst L]=Cc at *;generalize C2++[PV.lst (L++[PV.tup [.str b.h,.str b.d,.int (b.st+ii),.int (b.st+(ii+1)%mm),.tup [],.int t,DDD]])]=Cd at *;generalize C.length=nn at *;generalize ao=FP at *;simp![eU,e6,e3,fR,fM,hm,e5]
theorem O3{C:Cs}(hg:GS C k)(i:Nat)(x7 x8:Option SV)(L:List PV)(hL:L.length<=1000):
  ∃(C':Cs)(t:Int),fc (TS k C.length b #[(.int (0+(i:Nat)))] x7 x8) (C++9e4)=some (.nx (TS k C.length b #[(.int (0+(i:Nat)))] x7 x8),C'++[.lst (L++[(⟨b.h,b.d,1+i,i,[],t,[.inr "note"]⟩:Lt).P])])/\kX k C C':=by
 obtain⟨t,C2,e3,t1,t2,a2⟩:=Hk k 9 (.lst L) hg 1e7;show⟨C2,t,?_,a2⟩;have oy:C2.length=C.length:=a2.len;have e5:=CW (C:=C2) (L:=L) (q:=(⟨b.h,b.d,1+i,i,[],t,[.inr "note"]⟩:Lt).P) 1e0;have e6:=Pr (C:=C) (L:=L);rw[oy]at e5;have eP:(⟨b.h,b.d,1+i,i,[],t,[.inr "note"]⟩:Lt).P=.tup [.str b.h,.str b.d,.int (1+(0+(i:Int))),.int (0+(i:Int)),.tup [],.int t,.tup [.str "note"]]:=by
  ext Lt.P;rw[P8];rfl
 rw[eP]at e5⊢;unfold TS fc;generalize(0+(i:Int))=ii at *;generalize C++[PV.lst L]=Cb at *;generalize C2++[PV.lst L]=Cc at *;generalize C2++[PV.lst (L++[PV.tup [.str b.h,.str b.d,.int (1+ii),.int ii,.tup [],.int t,.tup [.str "note"]]])]=Cd at *;generalize C.length=nn at *;generalize ao=FP at *;simp![eU,e6,e3,fR,e5]
theorem P_2(l:Lt):gI l.P (.int 2)=some (.int l.n):=by simp[Lt.P,gI,yl,gX,kI]
theorem O4{C:Cs}(hg:GS C k)(i:Nat)(x7 x8:Option SV)(ls:List Lt)(h0:ls≠[])(hL:ls.length<=1000):
  ∃(y8:Option SV)(C':Cs)(t:Int)(q:Lt),q∈ls/\fb (TS k C.length b #[(.int (0+(i:Nat)))] x7 x8) (C++[.lst 3e3])=some (.nx (TS k C.length b #[(.int (0+(i:Nat)))] x7 y8),C'++[.lst (ls.map Lt.P++[(⟨b.h,b.d,200+i,q.n,[],t,[.inr "note"]⟩:Lt).P])])/\kX k C C':=by
 have JB:0<ls.length:=by
  cases ls with
  |nil=>show absurd rfl h0
  |cons _ _=>simp
 obtain⟨d,C1,e1,d1,d2,a1⟩:=Hk k (ls.length:Int) 8e6 hg 1e0;have hd:d.toNat<ls.length:=by lia
 obtain⟨t,C2,e3,t1,t2,a2⟩:=Hk k 9 8e6 a1.gs 1e7;show⟨#[.int ls[d.toNat].n],C2,t,ls[d.toNat],Wr hd,?_,a1.trans a2⟩;have yx:C1.length=C.length:=a1.len;have oy:C2.length=C.length:=a2.len.trans yx;have eI:gI 8e6 (.int d)=some ls[d.toNat].P:=by
  have h2:d<((ls.map Lt.P).length:Nat):=by rw[Yj];lia
  change gX 3e3 d=_;unfold gX kI;rw[if_pos d1,if_pos h2];change(ls.map Lt.P)[d.toNat]? = _;rw[Yx,Ye hd];rfl
 have e2:=P_2 ls[d.toNat];generalize hq:ls[d.toNat]=q at *;have e5:=CW (C:=C2) (L:=ls.map Lt.P) (q:=(⟨b.h,b.d,200+i,q.n,[],t,[.inr "note"]⟩:Lt).P) (by rw[Yj];lia);have e6:=Pr (C:=C1) (L:=ls.map Lt.P);rw[oy]at e5;rw[yx]at e6;have eP:(⟨b.h,b.d,200+i,q.n,[],t,[.inr "note"]⟩:Lt).P=.tup [.str b.h,.str b.d,.int (200+(0+(i:Int))),.int q.n,.tup [],.int t,.tup [.str "note"]]:=by
  ext Lt.P;rw[P8];rfl
 rw[eP]at e5⊢;have hL0:(C++[PV.lst 3e3])[C.length]? = some 8e6:=by simp
 have QL:(C1++[PV.lst 3e3])[C.length]? = some 8e6:=by rw[←yx];simp
 have Om:((ls.map Lt.P).length:Int)=(ls.length:Int):=by rw[Yj]
 ext TS;generalize(0+(i:Int))=ii at *;generalize q.P=QP at *;have s1:a7 8 (aB 7e5 (aB 7e5 9e0 (cb ao (aa 2e8 (aa (i5 (g1 jN) (aa 9e0 af)) af)))) (mC (.int 2))) [some (.c k),#[.str b.h],#[.str b.d],#[(.int (b.m:Nat))],#[.int b.st],some 9e7,#[.int ii],x7,x8] (C++[.lst 3e3])=some (.nx [some (.c k),#[.str b.h],#[.str b.d],#[(.int (b.m:Nat))],#[.int b.st],some 9e7,#[.int ii],x7,#[.int q.n]],C1++[.lst 3e3]):=by
  rw[←Om]at e1;generalize C++[PV.lst 3e3]=Ca at *;generalize C1++[PV.lst 3e3]=Cb at *;generalize ls.map Lt.P=LL at *;generalize C.length=nn at *;generalize ao=FP at *;simp![hL0,e1,QL,eI,e2]
 ext fb;rw[gR s1];generalize C1++[PV.lst 3e3]=Cb at *;generalize C2++[PV.lst 3e3]=Cc at *;generalize C2++[PV.lst (ls.map Lt.P++[PV.tup [.str b.h,.str b.d,.int (200+ii),.int q.n,.tup [],.int t,.tup [.str "note"]]])]=Cd at *;generalize C.length=nn at *;generalize ao=FP at *;simp![eU,e6,e3,fR,e5]
end
structure Bh(b:Bt)(ls:List Lt):Prop where
 nd:(ls.map Lt.nm).Nodup
 fF:ls.length<=18
 kd:∀x∈ls,x.h=b.h/\x.d=b.d/\x.gs=[]/\Kd b x
section
variable{b:Bt}
theorem Hg{Q:Nat->Lt->Prop}{i:Nat}{ls:List Lt}(h:ls.length=i/\∀(j:Nat)l,ls[j]? = some l->Q j l){x:Lt}(hx:x∈ls):∃j,j<i/\Q j x:=by
 obtain⟨j,hj,e⟩:=XO hx;show⟨j,by rw[←h.1];show hj,h.2 j x (by rw[Ye hj,e])⟩
theorem t6{Q:Nat->Lt->Prop}{i:Nat}{ls:List Lt}(h:ls.length=i/\∀(j:Nat)l,ls[j]? = some l->Q j l){c:Int}(hc:∀j l,Q j l->l.n=c+j):(ls.map Lt.nm).Nodup:=by
 rw[Y0,Xx,Vh];intro p q hp hq zw e;have h1:=hc p _ (h.2 p _ (Ye hp));have h2:=hc q _ (h.2 q _ (Ye hq));have h3:=(yc e).2.2;lia
theorem batch(o:b.Ok){rg hg ch:List Lt}{i j:Nat}(hi:i<=4)(hj:j<=5)(r1:R1 b b.m rg)(r2:R2 b i hg)(r3:R3 b j ch):Bh b (rg++hg++ch):=by
 have h1:=o.s1;have h2:=o.s2;have h3:=o.m2;have k1:∀x∈rg,10<=x.n/\x.n<=107:=λx hx=>by
  obtain⟨a,ha,_,q,_⟩:=Hg r1 hx;lia
 have k2:∀x∈hg,200<=x.n/\x.n<=203:=λx hx=>by
  obtain⟨a,ha,_,q,_⟩:=Hg r2 hx;lia
 have k3:∀x∈ch,1<=x.n/\x.n<=5:=λx hx=>by
  obtain⟨a,ha,_,q,_⟩:=Hg r3 hx;lia
 show⟨?_,?_,λx hx=>?_⟩
 ·rw[YX,YX,Xl,Xl]
  show⟨⟨t6 r1 λj l q=>q.2.1,t6 r2 λj l q=>q.2.1,λx hx y hy e=>?_⟩,t6 r3 λj l q=>q.2.1,λx hx y hy e=>?_⟩
  ·obtain⟨p,hp,rfl⟩:=Yy.mp hx
   obtain⟨q,hq,rfl⟩:=Yy.mp hy;have:=(yc e).2.2;have:=k1 p hp;have:=k2 q hq;lia
  ·obtain⟨q,hq,rfl⟩:=Yy.mp hy
   have hq3:=k3 q hq;rcases Ym.mp hx with hx|hx
   ·obtain⟨p,hp,rfl⟩:=Yy.mp hx
    have:=(yc e).2.2;have:=k1 p hp;lia
   ·obtain⟨p,hp,rfl⟩:=Yy.mp hx
    have:=(yc e).2.2;have:=k2 p hp;lia
 ·have q1:=r1.1
  have q2:=r2.1;have q3:=r3.1;rw[Yf,Yf];lia
 ·rcases Ym.mp hx with hx|hx
  ·rcases Ym.mp hx with hx|hx
   ·obtain⟨a,ha,q,e1,e2⟩:=Hg r1 hx
    show⟨q.h,q.d,q.g,.inr (.inl ⟨a,ha,e1,e2⟩)⟩
   ·obtain⟨a,ha,q,e1,e2⟩:=Hg r2 hx
    show⟨q.h,q.d,q.g,.inr (.inr ⟨by lia,by lia,e2⟩)⟩
  ·obtain⟨a,ha,q,e1,e2⟩:=Hg r3 hx
   show⟨q.h,q.d,q.g,.inl ⟨by lia,by lia,by lia⟩⟩
theorem D7{rg:List Lt}(r1:R1 b b.m rg):rg.map aH=dJ b:=by
 apply XE;intro j;ext dJ;rw[Yx,Yx];rcases YQ j b.m with q|q
 ·have hj:j<rg.length:=by rw[r1.1];show q
  rw[Vv q,Ye hj];obtain⟨h,e,_⟩:=r1.2 j _ (Ye hj);change some (aH rg[j])=some (tupK (rn b j));ext aH;rw[mM.mpr ⟨h.h,h.d,e⟩]
 ·rw[YK (by rw[r1.1];show q),YK (by simpa using q)];rfl
theorem Kn(xs:List PV)(m:Nat)(h:m<=xs.length):fQ xs none (some (m:Int))=xs.take m:=by
 have e:HT.bI xs.length xs.length (some (m:Int))=m:=by ext HT.bI;simp only[];rw[if_neg 1e0];lia
 have e2:HT.bI xs.length 0 none=0:=rfl;ext fQ;rw[e,e2,RM,Nat.sub_zero]
def fz:aq->M PF:=vO (aa 9e0 (aa (bF (bW (aL (aW 9e0 iV (bJ (au 3)))) ["_law_letter"] [] (hName 0) fw (aW 2e8 iV (bJ 7e9)))) af))
def r5:aq->M 3e0:=bg (aa (cb ao (aa 2e8 (aa (mC (.int 5)) af))) af)
def r6:aq->M 3e0:=bg (aa (aB 7e8 8e0 (cb ao (aa 2e8 (aa (mC (.int 5)) af)))) af)
theorem zT:fY=aA (a7 3 (aB 7e8 8e0 6e7)) (aA (a7 4 (aB 7e8 (mC (.int 10)) (cb ao (aa 2e8 (aa (mC (.int 90)) af))))) (aA (dP 5 (dh af)) (aA (bO (bg 5e5) (hName 6) fa) (aA (bO r5 (hName 6) fb) (aA (bO r6 (hName 6) fc) fz))))):=rfl
theorem OW{C:Cs}{rg xs:List Lt}(o:b.Ok)(r1:R1 b b.m rg)(hx:(rg++xs).length<=1000)(k:Nat)(x6 x7 x8:Option SV):fz (TS k C.length b x6 x7 x8) (C++[.lst ((rg++xs).map Lt.P)])=some (.rq [.c C.length,.v (.lst (dJ b))],C++[.lst ((rg++xs).map Lt.P)]):=by
 have c1:=Md (te:=aW 2e8 iV (bJ 7e9)) (f:=λp=>match p with|.tup (.str a::.str b::.int c::r)=>.tup [.str a,.str b,.int c]|_=>.aF) (rg.map Lt.P) [none] [] (C++[.lst ((rg++xs).map Lt.P)]) (λx hx=>by
  obtain⟨m,_,rfl⟩:=Yy.mp hx;simp[aW,aI,au,iV,bJ,mC,dM,Pu.ret,Pu.intD,aN,eQ,gm,Lt.P,Ko])
 rw[WZ,Xd]at c1;have e1:rg.map ((λp=>match p with|.tup (.str a::.str b::.int c::r)=>PV.tup [.str a,.str b,.int c]|_=>.aF)∘Lt.P)=dJ b:=by rw[←D7 r1];rfl
 rw[e1]at c1;have h0:(C++[PV.lst ((rg++xs).map Lt.P)])[C.length]? = some (.lst ((rg++xs).map Lt.P)):=by simp
 have hm:fQ ((rg++xs).map Lt.P) none (some (b.m:Int))=rg.map Lt.P:=by
  rw[Kn _ _ (by rw[Yj,Yf,r1.1];lia),←List.map_take,List.take_left' r1.1]
 have hl:(rg.map Lt.P).length<=100000:=by rw[Yj,r1.1];have:=o.m2;lia
 unfold TS fz;generalize(rg++xs).map Lt.P=LL at *;generalize rg.map Lt.P=RL at *;generalize C++[PV.lst LL]=Ca at *;generalize C.length=nn at *;generalize dJ b=G at *;generalize aW 2e8 iV (bJ 7e9)=te at *;simp[vO,aa,af,aI,au,bF,bW,aL,aW,iV,bJ,dM,Pu.ret,Pu.intD,aN,eQ,gm,h0,hm,dE,hl,cX,c1]
theorem iR{j:Int}(h:-1000000<=j/\j<=1000000):ip [.v (.int j)]=some ((YB j.toNat).map λ(q:Nat)=>PV.int (0+q)):=by
 change(if -1000000<=j/\j<=1000000 then some ((YB j.toNat).map λ(q:Nat)=>PV.int (0+q))else none)=_;rw[if_pos h]
theorem jG(ls:List Lt)(x:Lt):ls.map Lt.P++[x.P]=(ls++[x]).map Lt.P:=by simp
theorem Ki{n pad:Nat}{body:7e4}{ss qs:List SV}{C C':Cs}{ps:List PV}(h:ss.length=n)(run:body (ss.map some++VE pad none) C=some (.rq qs,C'))(hq:ij C.length C' qs=some ps):cN n pad body ss C=some (.v (.tup ps),C'.take C.length):=by
 ext cN;rw[if_pos h,run];sleep 6;rw[hq];rfl
theorem zU(k:Nat)(C:Cs)(hg:GS C k)(h d:Str)(h1:h.length<=10)(h2:d.length<=10):∃(b:Bt)(ls:List Lt)(C':Cs),eJ [.c k,.v (.str h),.v (.str d)] C=some (.v (.tup [.lst 3e3,.lst (dJ b)]),C')/\kX k C C'/\b.h=h/\b.d=d/\b.Ok/\Bh b ls/\ls≠[]:=by
 obtain⟨m,C1,e1,m1,m2,a1⟩:=FR k 9 C hg 1e7;obtain⟨st,C2,e2,s1,s2,a2⟩:=FR k 90 C1 a1.gs 1e7;have a12:=a1.trans a2
 let b:Bt:=⟨h,d,10+st,(1+m).toNat⟩
 have o:b.Ok:=⟨by change 10<=10+st;lia,by change 10+st<=99;lia,by change 1<=(1+m).toNat;lia,by change(1+m).toNat<=9;lia,h1,h2⟩
 have hmm:((b.m:Nat):Int)=1+m:=by change(((1+m).toNat:Nat):Int)=1+m;lia
 have hbm:(1+m).toNat=b.m:=rfl;have l1:=Q5 (v:=6) (f:=fa) (λi ρ D=>∃x6 x7 ls D1,ρ=TS k C.length b x6 x7 none/\D=D1++[.lst 3e3]/\kX k C D1/\R1 b i ls) b.m (by
  rintro i ρ D hi ⟨x6,x7,ls,D1,rfl,rfl,ad,r1⟩;have hl:=ad.len;have Zg:=o.m2;obtain⟨y7,D2,t,dd,e,ZP⟩:=O5 o ad.gs i hi x7 none 3e3 (by rw[Yj,r1.1];lia);rw[hl,jG]at e;show⟨_,_,_,rfl,e,_,y7,_,D2,rfl,rfl,ad.trans ZP,?_⟩;show jm r1 ⟨⟨rfl,rfl,rfl⟩,rfl,rfl⟩) (TS k C.length b none none none) (C2++[.lst []]) ⟨none,none,[],C2,rfl,rfl,a12,rfl,λj l e=>by simp at e⟩
 obtain⟨ρ1,D1,el1,x6,x7,rg,E1,rfl,rfl,ad1,r1⟩:=l1;have hrg:rg≠[]:=λz=>by have h3:=r1.1;rw[z,WB]at h3;have:=o.m1;lia
 obtain⟨c5,E2,e5,c51,c52,ZP⟩:=Hk k 5 (.lst (rg.map Lt.P)) ad1.gs 1e7;have l2:=Q5 (v:=6) (f:=fb) (λi ρ D=>∃x6 x8 hs D1,ρ=TS k C.length b x6 x7 x8/\D=D1++[.lst ((rg++hs).map Lt.P)]/\kX k C D1/\R2 b i hs) c5.toNat (by
  rintro i ρ D hi ⟨x6,x8,hs,D1,rfl,rfl,ad,r2⟩;have hl:=ad.len;have Zg:=o.m2;have hr:=r1.1;have hh:=r2.1;obtain⟨y8,D2,t,q,hq,e,QX⟩:=O4 (b:=b) ad.gs i x7 x8 (rg++hs) (by simp[hrg]) (by rw[Yf];lia);rw[hl,jG,Yd]at e;show⟨_,_,_,rfl,e,_,y8,_,D2,rfl,rfl,ad.trans QX,?_⟩;show jm r2 ⟨⟨rfl,rfl,rfl⟩,rfl,?_⟩;rcases Ym.mp hq with hq|hq
  ·obtain⟨a,ha,_,e1,_⟩:=Hg r1 hq
   show .inl ⟨a,ha,e1⟩
  ·obtain⟨a,ha,_,e1,_⟩:=Hg r2 hq
   show .inr ⟨?_,?_⟩
   ·change 200<=q.n;lia
   ·change q.n<200+(i:Int);lia) (TS k C.length b x6 x7 none) (E2++[.lst ((rg++[]).map Lt.P)]) ⟨x6,none,[],E2,rfl,rfl,ad1.trans ZP,rfl,λj l e=>by simp at e⟩
 obtain⟨ρ2,D2,el2,y6,y8,hs,E3,rfl,rfl,QX,r2⟩:=l2;obtain⟨c6,E4,e6,c61,c62,ad4⟩:=Hk k 5 (.lst ((rg++hs).map Lt.P)) QX.gs 1e7;have l3:=Q5 (v:=6) (f:=fc) (λi ρ D=>∃x6 cs D1,ρ=TS k C.length b x6 x7 y8/\D=D1++[.lst ((rg++(hs++cs)).map Lt.P)]/\kX k C D1/\R3 b i cs) (1+c6).toNat (by
  rintro i ρ D hi ⟨x6,cs,D1,rfl,rfl,ad,r3⟩;have hl:=ad.len;have Zg:=o.m2;have hr:=r1.1;have hh:=r2.1;have hc:=r3.1;obtain⟨D2,t,e,L6⟩:=O3 (b:=b) ad.gs i x7 y8 ((rg++(hs++cs)).map Lt.P) (by rw[Yj,Yf,Yf];lia);rw[hl,jG,Yd,Yd]at e;show⟨_,_,_,rfl,e,_,_,D2,rfl,rfl,ad.trans L6,?_⟩;show jm r3 ⟨⟨rfl,rfl,rfl⟩,rfl,rfl⟩) (TS k C.length b y6 x7 y8) (E4++[.lst ((rg++(hs++[])).map Lt.P)]) ⟨y6,[],E4,rfl,rfl,QX.trans ad4,rfl,λj l e=>by simp at e⟩
 obtain⟨ρ3,D3,el3,z6,cs,E5,rfl,rfl,L6,r3⟩:=l3;have hr:=r1.1;have hh:=r2.1;have hc:=r3.1;have Zg:=o.m2;have ef:=OW (C:=E5) (xs:=hs++cs) o r1 (by rw[Yf,Yf];lia) k z6 x7 y8;rw[L6.len]at ef;show⟨b,rg++(hs++cs),E5,?_,L6,rfl,rfl,o,by rw[←Yd];show batch o 1e0 1e0 r1 r2 r3,by simp[hrg]⟩;rw[YG]at el2 el3;have s1:a7 3 (aB 7e8 8e0 6e7) [some (.c k),#[.str h],#[.str d],none,none,none,none,none,none] C=some (.nx [some (.c k),#[.str h],#[.str d],#[.int (1+m)],none,none,none,none,none],C1):=by
  generalize ao=FP at *;simp![e1,fR]
 have s2:a7 4 (aB 7e8 (mC (.int 10)) (cb ao (aa 2e8 (aa (mC (.int 90)) af)))) [some (.c k),#[.str h],#[.str d],#[.int (1+m)],none,none,none,none,none] C1=some (.nx [some (.c k),#[.str h],#[.str d],#[.int (1+m)],#[.int (10+st)],none,none,none,none],C2):=by
  generalize ao=FP at *;simp![e2,fR]
 have s3:dP 5 (dh af) [some (.c k),#[.str h],#[.str d],#[.int (1+m)],#[.int (10+st)],none,none,none,none] C2=some (.nx (TS k C.length b none none none),C2++[.lst []]):=by
  have hl:=a12.len;ext TS;rw[hmm];change some (PF.nx [some (.c k),#[.str h],#[.str d],#[.int (1+m)],#[.int (10+st)],some (.c C2.length),none,none,none],C2++[.lst []])=_;rw[hl]
 have s4:bO (bg 5e5) (hName 6) fa (TS k C.length b none none none) (C2++[.lst []])=some (.nx (TS k C.length b x6 x7 none),E1++[.lst (rg.map Lt.P)]):=by
  have hi:bg 5e5 (TS k C.length b none none none) (C2++[.lst []])=some ((YB b.m).map λ(q:Nat)=>PV.int (0+q),C2++[.lst []]):=by
   have hr:ip [.v (.int ((b.m:Nat):Int))]=some ((YB b.m).map λ(q:Nat)=>PV.int (0+q)):=by
    rw[iR 1e0,XV]
   ext TS;generalize((YB b.m).map λ(q:Nat)=>PV.int (0+q))=RR at *;generalize C2++[PV.lst []]=Ca at *;generalize C.length=nn at *;simp[bg,aa,af,aI,au,dM,Pu.ret,hr]
  unfold bO aI;rw[hi];show el1
 have s5:bO r5 (hName 6) fb (TS k C.length b x6 x7 none) (E1++[.lst (rg.map Lt.P)])=some (.nx (TS k C.length b y6 x7 y8),E3++[.lst ((rg++hs).map Lt.P)]):=by
  have hi:r5 (TS k C.length b x6 x7 none) (E1++[.lst (rg.map Lt.P)])=some ((YB c5.toNat).map λ(q:Nat)=>PV.int (0+q),E2++[.lst (rg.map Lt.P)]):=by
   have hr:ip [.v (.int c5)]=some ((YB c5.toNat).map λ(q:Nat)=>PV.int (0+q)):=by
    show iR 1e0
   unfold TS r5;generalize((YB c5.toNat).map λ(q:Nat)=>PV.int (0+q))=RR at *;generalize E1++[PV.lst (rg.map Lt.P)]=Ca at *;generalize E2++[PV.lst (rg.map Lt.P)]=Cb at *;generalize C.length=nn at *;generalize ao=FP at *;simp![bg,e5,hr]
  unfold bO aI;rw[hi];show el2
 have s6:bO r6 (hName 6) fc (TS k C.length b y6 x7 y8) (E3++[.lst ((rg++hs).map Lt.P)])=some (.nx (TS k C.length b z6 x7 y8),E5++[.lst ((rg++(hs++cs)).map Lt.P)]):=by
  have hi:r6 (TS k C.length b y6 x7 y8) (E3++[.lst ((rg++hs).map Lt.P)])=some ((YB (1+c6).toNat).map λ(q:Nat)=>PV.int (0+q),E4++[.lst ((rg++hs).map Lt.P)]):=by
   have hr:ip [.v (.int (1+c6))]=some ((YB (1+c6).toNat).map λ(q:Nat)=>PV.int (0+q)):=by
    show iR 1e0
   unfold TS r6;generalize((YB (1+c6).toNat).map λ(q:Nat)=>PV.int (0+q))=RR at *;generalize E3++[PV.lst ((rg++hs).map Lt.P)]=Ca at *;generalize E4++[PV.lst ((rg++hs).map Lt.P)]=Cb at *;generalize C.length=nn at *;generalize ao=FP at *;simp![bg,e6,hr,fR]
  unfold bO aI;rw[hi];show el3
 have run:fY [some (.c k),#[.str h],#[.str d],none,none,none,none,none,none] C=some (.rq [.c C.length,.v (.lst (dJ b))],E5++[.lst ((rg++(hs++cs)).map Lt.P)]):=by
  rw[zT,gR s1,gR s2,gR s3,gR s4,gR s5,gR s6];show ef
 have hq:ij C.length (E5++[.lst ((rg++(hs++cs)).map Lt.P)]) [.c C.length,.v (.lst (dJ b))]=some [.lst ((rg++(hs++cs)).map Lt.P),.lst (dJ b)]:=by
  have hl:=L6.len;have h0:(E5++[PV.lst ((rg++(hs++cs)).map Lt.P)])[C.length]? = some (.lst ((rg++(hs++cs)).map Lt.P)):=by rw[←hl];simp
  simp only[ij,Wx,if_false,h0,Option.bind_some,VO]
 have ht:(E5++[PV.lst ((rg++(hs++cs)).map Lt.P)]).take C.length=E5:=by rw[←L6.len];simp
 have fin:=Ki (n:=3) (pad:=6) (body:=fY) (ss:=[.c k,.v (.str h),.v (.str d)]) (C:=C) rfl run hq;rw[ht]at fin;show fin
end
theorem GB(ws:4e3)(i:Nat)(h:i<ws.length):gI (.lst (ws.map .str)) (.int (i:Int))=some (.str ws[i]):=by
 have h1:(0:Int)<=i:=by lia
 have h2:(i:Int)<((ws.map PV.str).length:Nat):=by rw[Yj];lia
 change gX (ws.map PV.str) (i:Int)=_;unfold gX kI;rw[if_pos h1,if_pos h2];change(ws.map PV.str)[(i:Int).toNat]? = _;rw[XV,Yx,Ye h];rfl
structure Wi(bs:List Bt)(ls:List Lt):Prop where
 nd:(ls.map Lt.nm).Nodup
 fF:ls.length<=18*bs.length
 kd:∀x∈ls,∃b∈bs,x.h=b.h/\x.d=b.d/\x.gs=[]/\Kd b x
 bt:∀b∈bs,b.Ok
theorem Wi.add{bs:List Bt}{ls:List Lt}(w:Wi bs ls){b:Bt}{ms:List Lt}(o:b.Ok)(h:Bh b ms)(hd:b.d∉bs.map Bt.d):Wi (bs++[b]) (ls++ms):=by
 show⟨?_,?_,λx hx=>?_,λc hc=>?_⟩
 ·rw[YX,Xl]
  show⟨w.nd,h.nd,λx hx y hy e=>?_⟩;obtain⟨p,hp,rfl⟩:=Yy.mp hx;obtain⟨q,hq,rfl⟩:=Yy.mp hy;obtain⟨c,hc,_,e2,_⟩:=w.kd p hp;have:=(h.kd q hq).2.1;show hd ?_;rw[←this,←(yc e).2.1,e2];show Y9 hc
 ·have h1:=w.fF
  have h2:=h.fF;simp only[Yf,X7];lia
 ·rcases Ym.mp hx with hx|hx
  ·obtain⟨c,hc,q⟩:=w.kd x hx
   show⟨c,by simp[hc],q⟩
  ·show⟨b,by simp,h.kd x hx⟩
 ·rcases Ym.mp hc with hc|hc
  ·show w.bt c hc
  ·rw[Yi.mp hc];show o
structure LI(ws:List Str)(p:Nat)(bs:List Bt)(ls:List Lt)(C:Cs):Prop where
 gs:GS C 0
 p0:p≠0
 p2:p≠2
 cp:C[p]? = some 8e6
 c2:C[2]? = some (.lst 3e6)
 w:Wi bs ls
 bd:bs.map Bt.d=(ws.drop 3).take bs.length
 ne:bs≠[]->ls≠[]
noncomputable def LS (NS:PV)(ws:4e3)(p:Nat)(x5 x6 x7 x8 x9:Option SV):aq:=[#[NS],some (.c 0),#[.lst (ws.map .str)],some (.c p),some (.c 2),x5,x6,x7,x8,x9]
def LY:aq->M PF:=EK (Be eJ (gF bV (aa 2e8 (aa (aB 7e8 (mC (.int 2)) 9e0) af))) (aa (aB 7e5 5e7 (cb ao (aa 4e0 (aa 7e9 af)))) (aa (aB 7e5 5e7 (aB 7e8 7e9 9e0)) af))) (nH (dc (hName 6) (dc (hName 7) nI)) 2)
def LX:aq->M PF:=dP 3 (vR (au 3) (au 6))
def LW:aq->M PF:=b7 (eU (au 4) (aa (au 7) af))
theorem kX.cut{C C':Cs}{v:PV}(a:kX C.length (C++[v]) C'):C'.take C.length=C:=by
 apply XE;intro j;rcases YQ j C.length with q|q
 ·rw[XJ q,a.iF j 1e0,Yp q]
 ·rw[YK (by rw[Xv];lia),YK q]
theorem SQ{ws:4e3}(nd:ws.Nodup){i:Nat}(h:3+i<ws.length):ws[3+i]∉(ws.drop 3).take i:=λz=>by
 have nd2:(ws.drop 3).Nodup:=nd.sublist (Ybn 3 ws);have hi:i<(ws.drop 3).length:=by rw[Xw];lia
 have e:ws.drop 3=(ws.drop 3).take i++(ws.drop 3).drop i:=(YV i _).symm;rw[e,Xl]at nd2;show nd2.2.2 _ z _ ?_ rfl;rw[Xc hi,UL];show .head _
section
variable{ws:4e3}
theorem DR{ns:List Int}(hl:ws.length=9)(nd:ws.Nodup)(h10:∀w∈ws,w.length<=10){p:Nat}{bs:List Bt}{ls:List Lt}{C:Cs}(v:LI ws p bs ls C)(hb:bs.length<3)(x6 x7 x8 x9:Option SV):
  ∃(p':Nat)(b:Bt)(Jc:List Lt)(C':Cs)(y6 y7:Option SV),aA LY (aA LX LW) (LS 4e2 ws p #[(.int (0+(bs.length:Nat)))] x6 x7 x8 x9) C=some (.nx (LS 4e2 ws p' #[(.int (0+(bs.length:Nat)))] y6 y7 x8 x9),C')/\LI ws p' (bs++[b]) Jc C':=by
 obtain⟨lx,ly,e1,hy⟩:=vX ns (2+(0+(bs.length:Int))) C 1e0 1e0;obtain⟨d,C1,e2,d1,d2,a1⟩:=Hk 0 3 (.lst [.int lx,.int ly]) v.gs 1e7;have yx:C1.length=C.length:=a1.len;have QG:d.toNat<ws.length:=by lia
 have e3:=GB ws d.toNat QG;rw[show((d.toNat:Nat):Int)=d by lia]at e3;have rF:3+bs.length<ws.length:=by lia
 have e4:=GB ws (3+bs.length) rF;rw[show((3+bs.length:Nat):Int)=3+(0+(bs.length:Int)) by lia]at e4;obtain⟨b,ms,C2,e5,a2,hbh,hbd,o,bh,da⟩:=zU C1.length (C1++[.lst [.int lx,.int ly]]) ⟨lx,ly,by simp,hy⟩ ws[d.toNat] ws[3+bs.length] (h10 _ (Wr _)) (h10 _ (Wr _));have OF:=a2.cut;have JU:C1[p]? = some 8e6:=by rw[a1.iF p v.p0];show v.cp
 have JV:C1[2]? = some (.lst 3e6):=by rw[a1.iF 2 1e7];show v.c2
 have hp:p<C1.length:=by
  rcases YQ p C1.length with q|q
  ·show q
  ·rw[YK q]at JU;cases JU
 have h2:2<C1.length:=by
  rcases YQ 2 C1.length with q|q
  ·show q
  ·rw[YK q]at JV;cases JV
 have s1:LY (LS 4e2 ws p #[(.int (0+(bs.length:Nat)))] x6 x7 x8 x9) C=some (.nx (LS 4e2 ws p #[(.int (0+(bs.length:Nat)))] #[.lst (ms.map Lt.P)] #[.lst (dJ b)] x8 x9),C1):=by
  rw[yx]at e5 OF;generalize ms.map Lt.P=MS at *;generalize dJ b=G at *;ext LS;generalize ns.map PV.int=NS at *;generalize(0+(bs.length:Int))=ii at *;generalize ws[d.toNat]=W1 at *;generalize ws[3+bs.length]=W2 at *;generalize ws.map PV.str=WS at *;generalize hCl:C++[PV.lst [.int lx,.int ly]]=Cl at *;generalize C1++[PV.lst [.int lx,.int ly]]=Cm at *;simp![LY,EK,Be,gF,fR,e1,hCl,e2,e3,e4,e5,OF,nH,dc,hName,nI]
 have wi:=v.w;have rE:=wi.fF;have Qy:=bh.fF;have s2:LX (LS 4e2 ws p #[(.int (0+(bs.length:Nat)))] #[.lst (ms.map Lt.P)] #[.lst (dJ b)] x8 x9) C1=some (.nx (LS 4e2 ws C1.length #[(.int (0+(bs.length:Nat)))] #[.lst (ms.map Lt.P)] #[.lst (dJ b)] x8 x9),C1++[.lst ((ls++ms).map Lt.P)]):=by
  have hc:wR C1 (.c p) (.v (.lst (ms.map Lt.P)))=some ((ls++ms).map Lt.P):=by
   have Za:aN C1 (.c p)=some 8e6:=JU;have X':aN C1 (.v (.lst (ms.map Lt.P)))=some (.lst (ms.map Lt.P)):=rfl;ext wR;rw[Za,X'];sleep 6;rw[if_pos (by rw[Yj,Yj];lia),YX]
  generalize(ls++ms).map Lt.P=LM at *;generalize ms.map Lt.P=MS at *;generalize dJ b=G at *;ext LS;generalize(0+(bs.length:Int))=ii at *;simp[LX,dP,vR,aI,au,dM,hc]
 have Dz:(C1++[PV.lst ((ls++ms).map Lt.P)])[2]? = some (.lst 3e6):=by rw[Yp h2];show JV
 have s3:LW (LS 4e2 ws C1.length #[(.int (0+(bs.length:Nat)))] #[.lst (ms.map Lt.P)] #[.lst (dJ b)] x8 x9) (C1++[.lst ((ls++ms).map Lt.P)])=some (.nx (LS 4e2 ws C1.length #[(.int (0+(bs.length:Nat)))] #[.lst (ms.map Lt.P)] #[.lst (dJ b)] x8 x9),(C1++[PV.lst ((ls++ms).map Lt.P)]).set 2 (PV.lst ((bs++[b]).map λb=>PV.lst (dJ b)))):=by
  have ha:oa (.c 2) [.v (.lst (dJ b))] (C1++[PV.lst ((ls++ms).map Lt.P)])=some (.v .aF,(C1++[PV.lst ((ls++ms).map Lt.P)]).set 2 (PV.lst ((bs++[b]).map λb=>PV.lst (dJ b)))):=by
   ext oa;simp only[Dz];rw[if_pos (by rw[Yj];lia),show(bs++[b]).map (λb=>PV.lst (dJ b))=bs.map (λb=>PV.lst (dJ b))++[PV.lst (dJ b)] by simp]
  have hi:fA (.c 2) (C1++[PV.lst ((ls++ms).map Lt.P)])=some ((),C1++[PV.lst ((ls++ms).map Lt.P)]):=by ext fA;simp only[Dz]
  generalize(C1++[PV.lst ((ls++ms).map Lt.P)]).set 2 (PV.lst ((bs++[b]).map λb=>PV.lst (dJ b)))=Cz at *;generalize C1++[PV.lst ((ls++ms).map Lt.P)]=Cy at *;generalize ms.map Lt.P=MS at *;generalize dJ b=G at *;ext LS;generalize(0+(bs.length:Int))=ii at *;simp[LW,eU,b7,aa,af,aI,au,Pu.ret,hi,ha]
 show⟨C1.length,b,ls++ms,_,_,_,by rw[gR s1,gR s2];show s3,?_,by lia,by lia,?_,?_,wi.add o bh ?_,?_,λ_=>by simp[da]⟩
 ·obtain⟨gx,gy,ge,g1,g2⟩:=a1.gs
  show⟨gx,gy,?_,g1,g2⟩;rw[Y5 1e7,Yp 1e0];show ge
 ·rw[Y5 1e0];simp
 ·rw[Xe 6e2]
 ·rw[v.bd,hbd];show SQ nd rF
 ·rw[YX,v.bd,Yf,X7,Yba,hbd]
  have hi:bs.length<(ws.drop 3).length:=by rw[Xw];lia
  rw[List.take_succ_eq_append_getElem hi,UL]
end
def h1:aq->M PF:=dP 1 (gF bV (aa 2e8 (aa 8e0 af)))
def h2:aq->M PF:=a7 2 (cb dw (aa 4e0 (aa (mC (.int 9)) af)))
def hR:aq->M 3e0:=bg (aa (aB 7e8 8e0 (cb ao (aa 4e0 (aa 7e9 af)))) af)
def hc:aq->M Bool:=bz (aB (g2 (b8 aE)) (cb ao (aa 4e0 (aa (mC (.int 2)) af))) 10e4)
def hp:aq->M PF:=b7 (EI (au 3) (aa (cb ao (aa 4e0 (aa (i5 (g1 jN) 5e5) af))) af))
def h8:aq->M PF:=a7 8 (aZ (aa (cb ao (aa 4e0 (aa (mC (.int 4)) af))) (aa di af)))
def h9:aq->M PF:=a7 9 (bF (iu cT [] (aa (au 3) (aa (au 4) af))))
def hz:aq->M PF:=eT (lG (aB (g2 (b8 aE)) (bF (gF cI (aa (au 8) (aa (bF (vQ 5e5)) (aa di af))))) (au 9)) (aB (g2 (b8 aE)) (bF (gF cI (aa (au 8) (aa (bF (gE (au 3))) (aa di af))))) (au 9)))
theorem Ji:xh=aA h1 (aA h2 (aA (dP 3 (dh af)) (aA (dP 4 (dh af)) (aA (bO hR (hName 5) (aA LY (aA LX LW))) (aA (fD hc hp dA) (aA h8 (aA h9 hz))))))):=rfl
theorem Wi.wd{bs:List Bt}{ls:List Lt}(w:Wi bs ls)(nd:(bs.map Bt.d).Nodup)(h:bs.length<=3):Wd bs ls:=⟨w.nd,by have:=w.fF;lia,w.kd,w.bt,nd,h⟩
theorem Wd.sub{bs:List Bt}{ls ms:List Lt}(w:Wd bs ls)(h:ms.Sublist ls):Wd bs ms:=⟨(h.map Lt.nm).nodup w.nd,Xb h.length_le w.fF,λx hx=>w.kd x (h.subset hx),w.bt,w.bd,w.b3⟩
theorem B9(R:List Cm):b8 aE (.lst (R.map Cm.P)) (.lst (R.map Cm.P))=some (.bl true):=by
 have JO:dat (.lst (R.map Cm.P))=true:=by ext dat;show Py CF _
 have Za:dep (.lst (R.map Cm.P))<=60:=by ext dep;have:=Mf uw R;lia
 have he:aE (.lst (R.map Cm.P)) (.lst (R.map Cm.P))=true:=by
  change dY _ _=true;have hp:=Hl R;show(jY _ hp hp).mpr rfl
 ext b8;rw[JO,he,if_pos (by simp[Za])]
theorem HK(d:Int):b8 aE (.int d) (.int 0)=some (.bl (decide (d=0))):=qA d 0
theorem Bs(_ht:True)(ns:List Int)(hn:ns.length<=63):Dj [.v 4e2] []=some (.v (.bl true),[]):=by
 obtain⟨x,y,e1,hy⟩:=vX ns 1 [] 1e7 1e7;have g0:GS [.lst [.int x,.int y]] 0:=⟨x,y,rfl,hy⟩
 obtain⟨ws,C1,e2,hl,nd,hw,A1⟩:=xi 0 [.lst [.int x,.int y]] g0;have BP:C1.length=1:=A1.len;have r1:h1 [#[.lst (ns.map .int)],none,none,none,none,none,none,none,none,none] []=some (.nx [#[.lst (ns.map .int)],some (.c 0),none,none,none,none,none,none,none,none],[.lst [.int x,.int y]]):=by
  generalize ns.map PV.int=NS at *;simp![h1,dP,e1]
 have r2:h2 [#[.lst (ns.map .int)],some (.c 0),none,none,none,none,none,none,none,none] [.lst [.int x,.int y]]=some (.nx [#[.lst (ns.map .int)],some (.c 0),#[.lst (ws.map .str)],none,none,none,none,none,none,none],C1):=by
  generalize ws.map PV.str=WS at *;generalize ns.map PV.int=NS at *;simp![h2,e2]
 have r3:dP 3 (dh af) [#[.lst (ns.map .int)],some (.c 0),#[.lst (ws.map .str)],none,none,none,none,none,none,none] C1=some (.nx [#[.lst (ns.map .int)],some (.c 0),#[.lst (ws.map .str)],some (.c 1),none,none,none,none,none,none],C1++[.lst []]):=by
  change some (PF.nx [#[.lst (ns.map .int)],some (.c 0),#[.lst (ws.map .str)],some (.c C1.length),none,none,none,none,none,none],C1++[.lst []])=_;rw[BP]
 have r4:dP 4 (dh af) [#[.lst (ns.map .int)],some (.c 0),#[.lst (ws.map .str)],some (.c 1),none,none,none,none,none,none] (C1++[.lst []])=some (.nx (LS 4e2 ws 1 none none none none none),C1++[.lst []]++[.lst []]):=by
  change some (PF.nx [#[.lst (ns.map .int)],some (.c 0),#[.lst (ws.map .str)],some (.c 1),some (.c (C1++[PV.lst []]).length),none,none,none,none,none],C1++[.lst []]++[.lst []])=_;rw[Yf,BP];rfl
 obtain⟨c,OJ⟩:∃c,C1=[c]:=List.length_eq_one_iff.mp BP;have g4:GS (C1++[.lst []]++[.lst []]) 0:=by
  obtain⟨gx,gy,ge,q1,q2⟩:=A1.gs;show⟨gx,gy,by rw[OJ]at ge⊢;show ge,q1,q2⟩
 obtain⟨d,C2,e3,d1,d2,A2⟩:=FR 0 3 _ g4 1e7;have li:LI ws 1 [] [] C2:=by
  show⟨A2.gs,by decide,by decide,?_,?_,⟨by simp,by simp,λx h=>(nomatch h),λx h=>(nomatch h)⟩,by simp,λz=>absurd rfl z⟩
  ·rw[A2.iF 1 1e7,OJ];rfl
  ·rw[A2.iF 2 1e7,OJ];rfl
 have wz:=Q5 (v:=5) (f:=aA LY (aA LX LW)) (λi ρ C=>∃p x5 x6 x7 bs ls,ρ=LS 4e2 ws p x5 x6 x7 none none/\LI ws p bs ls C/\bs.length=i) (1+d).toNat (by
  rintro i ρ C hi ⟨p,x5,x6,x7,bs,ls,rfl,v,rfl⟩;obtain⟨p',b,Jc,C',y6,y7,e,v'⟩:=DR (ns:=ns) hl nd (λw h=>(hw w h).1) v 1e0 x6 x7 none none;show⟨_,_,_,rfl,e,p',_,y6,y7,bs++[b],Jc,rfl,v',by simp⟩) _ _ ⟨1,none,none,none,[],[],rfl,li,rfl⟩
 obtain⟨ρ',C3,el,p,x5,x6,x7,bs,ls,rfl,v,wD⟩:=wz;have r5:bO hR (hName 5) (aA LY (aA LX LW)) (LS 4e2 ws 1 none none none none none) (C1++[.lst []]++[.lst []])=some (.nx (LS 4e2 ws p x5 x6 x7 none none),C3):=by
  have hi:hR (LS 4e2 ws 1 none none none none none) (C1++[.lst []]++[.lst []])=some ((YB (1+d).toNat).map λ(q:Nat)=>PV.int (0+q),C2):=by
   have hr:=iR (j:=1+d) 1e0;ext LS;generalize((YB (1+d).toNat).map λ(q:Nat)=>PV.int (0+q))=RR at *;generalize C1++[PV.lst []]++[PV.lst []]=Ca at *;generalize ws.map PV.str=WS at *;generalize ns.map PV.int=NS at *;simp![hR,bg,e3,hr,fR]
  unfold bO aI;rw[hi];show el
 have bne:bs≠[]:=λz=>by rw[z]at wD;simp at wD;lia
 have hb3:bs.length<=3:=by lia
 have ZM:(bs.map Bt.d).Nodup:=by
  rw[v.bd];show(nd.sublist (Ybn 3 ws)).sublist (List.take_sublist _ _)
 have w0:=v.w.wd ZM hb3;obtain⟨q,C4,e5,q1,q2,A4⟩:=FR 0 2 C3 v.gs 1e7;have tc:hc (LS 4e2 ws p x5 x6 x7 none none) C3=some (decide (q=0),C4):=by
  have he:=HK q;generalize decide (q=0)=bb at *;ext LS;generalize ws.map PV.str=WS at *;generalize ns.map PV.int=NS at *;simp![hc,e5,he]
 have QV:C4[p]? = some 8e6:=by rw[A4.iF p v.p0];show v.cp
 have c42:C4[2]? = some (.lst 3e6):=by rw[A4.iF 2 1e7];show v.c2
 obtain⟨ms,C5,e6,w1,g5,c5p,c52⟩:∃(ms:List Lt)(C5:Cs),fD hc hp dA (LS (.lst (ns.map .int)) ws p x5 x6 x7 none none) C3=some (.nx (LS (.lst (ns.map .int)) ws p x5 x6 x7 none none),C5)/\Wd bs ms/\GS C5 0/\C5[p]? = some (.lst (ms.map Lt.P))/\C5[2]? = some (.lst (bs.map λb=>.lst (dJ b))):=by
  by_cases hq:q=0
  ·rw[decide_eq_true hq]at tc
   have lne:=v.ne bne;have JB:0<ls.length:=List.length_pos_iff.mpr lne;have iI:=w0.fF;obtain⟨t,C5,e7,t1,t2,A5⟩:=FR 0 (ls.length:Int) C4 A4.gs 1e0;have htn:t.toNat<ls.length:=by lia
   have c5:C5[p]? = some 8e6:=by rw[A5.iF p v.p0];show QV
   have cE:p<C5.length:=by
    rcases YQ p C5.length with z|z
    ·show z
    ·rw[YK z]at c5;cases c5
   have e8:AD (.c p) [.v (.int t)] C5=some (.v ls[t.toNat].P,C5.set p (.lst ((ls.take t.toNat++ls.drop (t.toNat+1)).map Lt.P))):=by
    ext AD;simp only[c5];rw[Yx,Ye htn];dsimp only[VO];rw[if_pos ⟨t1,by rw[Yj];lia⟩,YX,List.map_take,List.map_drop]
   have e9:fA (.c p) C4=some ((),C4):=by ext fA;simp only[QV]
   show⟨ls.take t.toNat++ls.drop (t.toNat+1),C5.set p (.lst ((ls.take t.toNat++ls.drop (t.toNat+1)).map Lt.P)),?_,w0.sub ?_,?_,?_,?_⟩
   ·rw[Jx tc]
    have Om:((ls.map Lt.P).length:Int)=(ls.length:Int):=by rw[Yj]
    rw[←Om]at e7;generalize(ls.take t.toNat++ls.drop (t.toNat+1)).map Lt.P=TL at *;generalize C5.set p (.lst TL)=C6 at *;generalize ls[t.toNat].P=PP at *;ext LS;generalize ws.map PV.str=WS at *;generalize ns.map PV.int=NS at *;generalize ls.map Lt.P=LL at *;simp![hp,EI,e9,QV,e7,e8]
   ·have h3:(ls.drop (t.toNat+1)).Sublist (ls.drop t.toNat):=by rw[←Ua];show Ybn _ _
    have:=(List.Sublist.refl (ls.take t.toNat)).append h3;rw[YV]at this;show this
   ·obtain⟨gx,gy,ge,z1,z2⟩:=A5.gs
    show⟨gx,gy,by rw[Y5 v.p0];show ge,z1,z2⟩
   ·rw[Xe cE]
   ·rw[Y5 v.p2,A5.iF 2 1e7];show c42
  ·rw[decide_eq_false hq]at tc
   show⟨ls,C4,mG tc,w0,A4.gs,QV,c42⟩
 obtain⟨s,C6,e7,s1,s2,A6⟩:=FR 0 4 C5 g5 1e7;have c6p:C6[p]? = some (.lst (ms.map Lt.P)):=by rw[A6.iF p v.p0];show c5p
 have c62:C6[2]? = some (.lst 3e6):=by rw[A6.iF 2 1e7];show c52
 have r8:h8 (LS 4e2 ws p x5 x6 x7 none none) C5=some (.nx (LS 4e2 ws p x5 x6 x7 #[.tup [.int s,.aG [] []]] none),C6):=by
  ext LS;generalize ws.map PV.str=WS at *;generalize ns.map PV.int=NS at *;simp![h8,di,e7]
 obtain⟨rs,e9,ri,pr⟩:=tO w1;have r9:h9 (LS 4e2 ws p x5 x6 x7 #[.tup [.int s,.aG [] []]] none) C6=some (.nx (LS 4e2 ws p x5 x6 x7 #[.tup [.int s,.aG [] []]] #[.lst (rs.map Cm.P)]),C6):=by
  have hf:df (rs.map Cm.P)=true:=QY (f:=Cm.P) wM rs;generalize rs.map Cm.P=R at *;generalize(bs.map λb=>PV.lst (dJ b))=RG at *;generalize ms.map Lt.P=LL at *;ext LS;generalize ws.map PV.str=WS at *;generalize ns.map PV.int=NS at *;simp![h9,iu,pickK,cB,eO,c6p,c62,e9,hf,dI]
 have m1:=w1.both (.refl ms) ri pr s C6 (.aG [] []);have m2:=w1.both ms.reverse_perm ri pr s C6 (.aG [] []);have he:=B9 rs;have rz:hz (LS 4e2 ws p x5 x6 x7 #[.tup [.int s,.aG [] []]] #[.lst (rs.map Cm.P)]) C6=some (.rt (.v (.bl true)),C6):=by
  rw[Ws]at m2;generalize rs.map Cm.P=R at *;generalize ms.map Lt.P=LL at *;ext LS;generalize ws.map PV.str=WS at *;generalize ns.map PV.int=NS at *;simp![hz,di,gE,c6p,m1,m2,he]
 have run:xh [#[.lst (ns.map .int)],none,none,none,none,none,none,none,none,none] []=some (.rt (.v (.bl true)),C6):=by
  rw[Ji,gR r1,gR r2,gR r3,gR r4,gR r5,gR e6,gR r8,gR r9];show rz
 ext Dj;generalize xh=bb at *;generalize ns.map PV.int=NS at *;simp![run]
noncomputable def qv:Program:=W.view PySem.Challenge.pw_holdword_k31_rings_are_loose [0,2,4,6,7,9,11,12,13,14,15,16,17,19,20,21,22,23,24,25,26]
noncomputable def Ke:List Str:=List.map WL ["name_of","in_order","by_name","followed","row_among","is_back","is_loose","is_behind","is_ahead","twins","marks_of","marks","_law_cell_at","_law_left","_law_pick","_law_words","_law_named","_law_three","_law_marks","law"]
def zo:List (Str×Stmt):=Ke.zip (List.map top [2,4,6,7,9,11,12,13,14,15,16,17,19,20,21,22,23,24,25,26])
theorem bB:(recsOf qv).map Hd.four=zo.map Hd.B0:=by kernel_rfl
noncomputable def hk:W.Hook:=W.Hook.none
theorem hl:W.LeftO PySem.Challenge.pw_holdword_k31_rings_are_loose qv [] (λs=>W.xlAt qv [] s&&W.recOk [] s) hk.obs hk.val 1422:=
 W.LeftO.of_split "special-get-raises" (λw=>by kernel_rfl)
theorem all_mk{P:YF}{w:World}{K:W.Frag}{mg:2e5}{fa:Addr}(hfa:mg "law"=some (.ref fa))(T:Txt mg)
  (yG:Hd.FnAt K mg "name_of" Zc4)
  (uo:Hd.FnAt K mg "in_order" Z5)
  (yI:Hd.FnAt K mg "by_name" Z0)
  (ur:Hd.FnAt K mg "followed" Z4)
  (qp:Hd.FnAt K mg "row_among" ZbX)
  (yH:Hd.FnAt K mg "is_back" Zc9)
  (uk:Hd.FnAt K mg "is_loose" Z7)
  (qq:Hd.FnAt K mg "is_behind" ZbZ)
  (um:Hd.FnAt K mg "is_ahead" Z6)
  (Fs:Hd.FnAt K mg "twins" mJ)
  (uj:Hd.FnAt K mg "marks_of" Z8)
  (Ft:Hd.FnAt K mg "marks" mK)
  (j4:Hd.FnAt K mg "_law_cell_at" ZbY)
  (iA:Hd.FnAt K mg "_law_left" Q9)
  (qr:Hd.FnAt K mg "_law_pick" jr)
  (nN:Hd.FnAt K mg "_law_words" Zc5)
  (nP:Hd.FnAt K mg "_law_named" Zc7)
  (nO:Hd.FnAt K mg "_law_three" Zc6)
  (nQ:Hd.FnAt K mg "_law_marks" Zc8)
  (O9:Hd.FnAt K mg "law" jq)
  :∃fd:WI,(∀(s:Shared)(v:Value),BindsTo s fd ⟨[v],[]⟩ [("_law_script",v)])/\∀base:Heap,fq P w K mg base ot 6 fa fd ["_law_script"] (Hd.z0 K):=by
 obtain⟨Vah,B6,ND,Hz⟩:=O9;have e:=hfa.symm.trans ND;cases e;have hb:∀(s:Shared)(v:Value),BindsTo s B6 ⟨[v],[]⟩ [("_law_script",v)]:=by
  obtain⟨oc,od,kV,doc,pm,an,cdv,ct,osl,rfl,lk,kj⟩:=Hz.ex;show λs v=>.of_eq rfl
 show⟨B6,hb,λbase=>?_⟩;have fX:=sS (P:=P) (w:=w) (base:=base) yG T;have rj:=nc (P:=P) (w:=w) (base:=base) uo T;have zi:=sX (P:=P) (w:=w) (base:=base) yI T fX;have ft:=pI (P:=P) (w:=w) (base:=base) ur T;have qZ:=m7 (P:=P) (w:=w) (base:=base) qp T ft;have zh:=sW (P:=P) (w:=w) (base:=base) yH T ft;have uS:=pG (P:=P) (w:=w) (base:=base) uk T fX qZ ft;have rd:=m9 (P:=P) (w:=w) (base:=base) qq T;have uT:=pH (P:=P) (w:=w) (base:=base) um T fX;have Dk:=xZ (P:=P) (w:=w) (base:=base) Fs T ft;have uR:=pF (P:=P) (w:=w) (base:=base) uj T fX uT rd uS zh;have Dl:=ya (P:=P) (w:=w) (base:=base) Ft T zi Dk uR rj;have fU:=m8 (P:=P) (w:=w) (base:=base) j4 T;have rh:=xY (P:=P) (w:=w) (base:=base) iA T fU;have oo:=sY (P:=P) (w:=w) (base:=base) iA T fU;have fT:=xX (P:=P) (w:=w) (base:=base) qr T;have oi:=sT (P:=P) (w:=w) (base:=base) nN T fT;have om:=sV (P:=P) (w:=w) (base:=base) nP T;have oj:=sU (P:=P) (w:=w) (base:=base) nO T fT;have kU:=pJ (P:=P) (w:=w) (base:=base) nQ T om;have Qj:=IK (P:=P) (w:=w) (base:=base) Hz T oo oi fT rh oj kU Dl;show Qj.imp (Hd.rX λns hl=>Bs trivial ns hl)
noncomputable def bl:List Str:=["all","any","dict","enumerate","len","list","max","range","reversed","set","sorted"]
theorem wD:bl.all (λx=>!Hd.tY qv (W.looseW qv []) x)=true:=by kernel_rfl
theorem Ig:PySem.Challenge.rw_holdword_k31_rings_are_loose.wellSaid=true:=by kernel_rfl
end dQ
open PySem PySem.W PyProof.Rows
set_option maxRecDepth 100000 in
set_option maxHeartbeats 0 in
theorem PySem.Challenge.cw_holdword_k31_rings_are_loose_holds : PySem.Challenge.rw_holdword_k31_rings_are_loose.Holds := by
 show holds_law dQ.Ig λIg=>?_
 show holds_open (q:=dQ.qv) (loose:=[]) (Xt:=λs=>xlAt dQ.qv [] s&&recOk [] s) (XP:=XL dQ.qv []) (YP:=dQ.hk.says) dQ.hl (Hook.of dQ.hk) (Hook.keeps dQ.hk) (λs e=>xl_of s (Bool.and_eq_true_iff.mp e).1) XL.keeps (d:=⟨"law",L2.dU dQ.jq,L2.bL dQ.jq,L2.ak dQ.jq,Hd.Kj dQ.jq⟩) (kwd:=[]) (by kernel_rfl) (by kernel_rfl) (by kernel_rfl) (λs e=>recFacts_of (Bool.and_eq_true_iff.mp e).2) 1e3 Ig (by kernel_rfl) ⟨rfl,rfl,rfl,rfl,rfl,by decide +kernel⟩ ⟨[.list []],by decide +kernel,by decide +kernel⟩ ?_
 show Hd.walk (k:=6) rfl rfl ⟨rfl,by decide,by decide⟩ [] λw s₀ mg mb h as G Y h0 A fa Oh=>?_
 show dQ.all_mk Oh ⟨Hd.Ia (G.T.const "JUDGE" (.str "bell") (by kernel_rfl)),Hd.fL G.T dQ.wD 0 rfl,Hd.fL G.T dQ.wD 1 rfl,Hd.fL G.T dQ.wD 2 rfl,Hd.fL G.T dQ.wD 3 rfl,Hd.fL G.T dQ.wD 4 rfl,Hd.fL G.T dQ.wD 5 rfl,Hd.fL G.T dQ.wD 6 rfl,Hd.fL G.T dQ.wD 7 rfl,Hd.fL G.T dQ.wD 8 rfl,Hd.fL G.T dQ.wD 9 rfl,Hd.fL G.T dQ.wD 10 rfl⟩ (Hd.cu A dQ.bB 0 rfl) (Hd.cu A dQ.bB 1 rfl) (Hd.cu A dQ.bB 2 rfl) (Hd.cu A dQ.bB 3 rfl) (Hd.cu A dQ.bB 4 rfl) (Hd.cu A dQ.bB 5 rfl) (Hd.cu A dQ.bB 6 rfl) (Hd.cu A dQ.bB 7 rfl) (Hd.cu A dQ.bB 8 rfl) (Hd.cu A dQ.bB 9 rfl) (Hd.cu A dQ.bB 10 rfl) (Hd.cu A dQ.bB 11 rfl) (Hd.cu A dQ.bB 12 rfl) (Hd.cu A dQ.bB 13 rfl) (Hd.cu A dQ.bB 14 rfl) (Hd.cu A dQ.bB 15 rfl) (Hd.cu A dQ.bB 16 rfl) (Hd.cu A dQ.bB 17 rfl) (Hd.cu A dQ.bB 18 rfl) (Hd.cu A dQ.bB 19 rfl)