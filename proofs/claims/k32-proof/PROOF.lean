import PyProof.Rows.All
import Wide.All
import OpenK.AllK
import Wide.FinOn
import Lean
import PyProof.EqAt
import PyProof.EqKinds
import PyProof.TupleCall
import PyProof.DictCompW
import PySem.SetOps
import PyProof.SetScanFacts
import PyProof.SetKind
import PyProof.TupleKey
import PyProof.DictRoadsH
import PyProof.IsRules
import PyProof.Rows.SetFrom
import PyProof.WalksMore
import PyProof.NeKinds
import KE.KSortTup
import KE.KDictOf
import PyProof.DictFindH
import PyProof.AttrMissSeq
import KE.KDictList
import PyProof.CollectWalk
import PyProof.StrBlock2
import PyProof.SeqI3
import PyProof.EnumMake
import PyProof.WalksEnum
import PyProof.DictValues
import PyProof.DictWalks
import KE.KRevSl
import PyProof.ListMulAny
import PyProof.Rows.ListMul
import PyProof.Draws
import PyProof.Rows.IntBool
import KE.KRevIter
import PyProof.Rows.FStr
import PyProof.Rows.StrNews
import PyProof.Rows.StrSplitAre
import PyProof.CallStr
import KE.KIntText
import PyProof.AutoListH
import KE.KPairComp
import PySem.Challenge.RW_holdword_k32_clocks_at_the_bound
noncomputable section
set_option hygiene false
local macro_rules
|`(1e0)=>`((CompCx X (vs++fs) scope C s₀ H₀ ex pn))
|`(1e1)=>`(Value->Shared->Prop)
|`(1e2)=>`((by lia))
|`(1e3)=>`((by rfl))
|`(1e4)=>`((by decide))
|`(1e5)=>`(Ys 4e6 X.env=(false,eval e X.env)::Ys es X.env)
|`(1e6)=>`(List (Addr×Obj))
|`(1e7)=>`(Inv X pins σ H s)
|`(1e8)=>`(⟨rfl,rfl,rfl,by decide +kernel,rfl,by decide +kernel,by decide +kernel⟩)
|`(1e9)=>`((model prog w))
|`(2e0)=>`((model X.prog X.w))
|`(2e1)=>`(PSt->M (List SV))
|`(2e2)=>`(List Addr)
|`(2e3)=>`((IS NS WS s k t n #[.int j] #[.str h] #[.int tm] #[nmV l] x14 x15 x16))
|`(2e4)=>`(PSt->M SV)
|`(2e5)=>`(List Value)
|`(2e6)=>`(Str->Option Value)
|`(2e7)=>`((backTo pos (Ys es X.env)).any (·.1)=false)
|`(2e8)=>`(PV->PSt->Option PSt)
|`(2e9)=>`((List PV))
|`(3e0)=>`((by simp))
|`(3e1)=>`(A.units < cLine)
|`(3e2)=>`(List Expr)
|`(3e3)=>`((Or.inl rfl))
|`(3e4)=>`((x==("__debug__":Str))=false)
local macro_rules
|`(3e5)=>`((@Zaa _ _ _ _ _ Zac Zad 1e3))
|`(3e6)=>`((IS NS WS s k t n x10 x11 x12 x13 x14 x15 x16))
|`(3e7)=>`((mVar 0))
|`(3e8)=>`(PSt->M Bool)
|`(3e9)=>`((hr.mono 1e4))
|`(4e0)=>`(List Str)
|`(4e1)=>`((mC (.int 0)))
|`(4e2)=>`(List (List Key))
|`(4e3)=>`((mVar 1))
|`(4e4)=>`(Bool->Shared->Prop)
|`(4e5)=>`((.ref s.heap.objs.size))
|`(4e6)=>`((e::es))
|`(4e7)=>`(Array (Int×Value))
|`(4e8)=>`((.frz ob (.dT kvs)))
|`(4e9)=>`((g2 ixQ))
|`(5e0)=>`((Zai c__law_pick 3e9 1e3 (@Zaa _ _ _ _ _ (Zab 1) 3e5 1e3)))
|`(5e1)=>`(X.fn x=true\/X.env.scope.names.lookup x=some .local)
|`(5e2)=>`(X.calm=true)
|`(5e3)=>`((OS NS WS s x7 x8 x9 x10 x11 x12 x13 x14 #[.lst (ds.map Cm.P)] x16))
|`(5e4)=>`(List (List Key×V))
|`(5e5)=>`(List (PV×Addr))
|`(5e6)=>`(List Key)
|`(5e7)=>`((mC (.int 1)))
|`(5e8)=>`((ι++ι2))
|`(5e9)=>`(X.A.units + 64 < cLine)
local macro_rules
|`(6e0)=>`((p.getD (n - 1) 0))
|`(6e1)=>`((by decide +kernel))
|`(6e2)=>`(CSc X scope vs fs fr)
|`(6e3)=>`(List Nat)
|`(6e4)=>`((.ListComp elt [⟨tg,iter,ifs,0⟩] scope pos))
|`(6e5)=>`(PSt->M 2e9)
|`(6e6)=>`(["names","at","name","other"])
|`(6e7)=>`((start t.mask (hashN w k)))
|`(6e8)=>`((.lst ps))
|`(6e9)=>`((mVar 2))
|`(7e0)=>`((Zas hr))
|`(7e1)=>`(⟨_,rfl⟩)
|`(7e2)=>`(CR K ι H C)
|`(7e3)=>`((by simpa using h))
|`(7e4)=>`((∀b u,s.heap.get? b=some u->h'.get? b=some u))
|`(7e5)=>`(PSt->M PF)
|`(7e6)=>`(HRep s.heap (.tup ps) u)
|`(7e7)=>`(∀x,YX iter X.env x=pure x)
|`(7e8)=>`(A.handled=none)
|`(7e9)=>`((List Key×Addr×Value))
|`(8e0)=>`((.head _))
|`(8e1)=>`((g2 addP))
|`(8e2)=>`((ws.map .str))
|`(8e3)=>`((Rc.due a s))
|`(8e4)=>`((by exact ⟨rfl,rfl,rfl,rfl,rfl,rfl,rfl⟩))
local macro_rules
|`(8e5)=>`(Array Nat)
|`(8e6)=>`((seqObj "list" vs.toArray 0))
|`(8e7)=>`((∀b∈fp,H' b=none))
|`(8e8)=>`(⟨_,Ye _ rfl,rfl,rfl⟩)
|`(8e9)=>`((.Call (.Name x p) 4e6 [] pos))
|`(9e0)=>`((Zaj 7e0 (Zab 0) Zac))
|`(9e1)=>`((mVar 3))
|`(9e2)=>`(Result->Shared->Prop)
local macro_rules
|`(tactic|sleep 1)=>`(tactic|(intro X hP hw hK hc i pins s σ H E I hf st hg;subst hP hw hK))
|`(tactic|sleep 2)=>`(tactic|obtain ⟨ι,ρ,C,fl,C',sr,e,d⟩:=h_)
|`(tactic|sleep 3)=>`(tactic|intro pins s σ H x y v u Q I rx ry h)
|`(tactic|sleep 4)=>`(tactic|obtain ⟨f0,f1,f2,f3,f4,f5⟩:=hf it 3e0)
set_option hygiene true
open Array renaming getElem?_eq_getElem → Yj, getElem?_eq_none → YH, length_toList → YK, getD_eq_getD_getElem? → YM, getElem?_toList → Y8, mem_toList_iff → Wu, perm_iff_toList_perm → Vg, forIn_toList → VR, toList_push → V0, mem_of_getElem? → Ub, getElem?_append_left → UF, replicate → Yai
open Array.Perm renaming refl → Ut
open Bool renaming and_eq_true → Yp, false_eq_true → Yv, false_ne_true → YD, eq_iff_iff → X3, not_true → VO, or_eq_true → Uv, and_false → UN, or_true → Yam
open False renaming elim → WW
open ForInStep renaming yield → W7
open Int renaming emod_lt_of_pos → Xd, emod_nonneg → Xl, toNat_natCast → XG
open List renaming getElem?_eq_getElem → Yd, length_map → Yf, mem_append_right → Yg, append_assoc → Yh, mem_singleton → Yk, mem_cons → Yl, map_cons → Ym, size_toArray → Yn, length_append → Yu, mem_map → Yw, getElem?_map → Yx, mem_cons_of_mem → Yz, getElem?_set_ne → YA, mem_of_getElem? → YB, length_cons → YC, getElem?_append_left → YE, getElem?_eq_none_iff → YF, mem_cons_self → YJ, append_nil → YL, map_append → YO, all_eq_true → YR, mem_append → YU, range → YW, mem_append_left → YY, getElem?_append_right → YZ, nodup_iff_pairwise_ne → Y0, getElem?_eq_some_iff → Y2, mem_map_of_mem → Y6, map_map → Y9, lookup_cons → Xb, nodup_cons → Xc, zip_cons_cons → Xe, getElem?_set_self → Xf, any_cons → Xg, nodup_append → Xm, not_mem_nil → Xp, mem_range → Xq, drop_eq_getElem_cons → Xr, filter_cons → Xx, pairwise_map → Xy, length_set → XB, any_eq_true → XD, getElem?_eq_none → XF, getElem_mem → XQ, mem_flatMap → XR, getD_eq_getElem?_getD → XS, ext_getElem? → XV, mem_filter → X0, map_reverse → X6, length_range → Wa, flatten_cons → Wb, flatMap_cons → Wc, getElem?_toArray → Wo, length_filter_le → Wr, length_nil → Wz, length_zip → WD, nil_append → WF, filterMap_cons → WH, getElem_of_mem → WL, length_take → WP, drop_length → WR, length_singleton → W5, find?_cons → W6, toArray → W8, all_cons → Vb, replicate → Vi, getElem?_zip_eq_some → Vo, getElem_inj → Vp, length_drop → Vq, map_fst_zip → Vr, perm_middle → Vs, range' → Vv, getElem?_take_of_lt → Vx, getElem?_cons_succ → VH, foldl_cons → VI, take_of_length_le → VW, reverse_cons → V2, nodup_range → Ue, eq_nil_of_length_eq_zero → Uf, getElem?_range → Uu, map_congr_left → UB, length_eraseIdx_of_lt → UE, mem_filterMap → UG, filter_append → UM, cons_append → Yac, of_mem_zip → Yae, map_nil → Yag, forIn_cons → Yah
open List.Pairwise renaming imp_of_mem → VA
open List.cons renaming injEq → W9, inj → Ul
open Nat renaming le_refl → Yi, lt_of_lt_of_le → Yo, ne_of_lt → Yt, le_trans → YQ, lt_or_ge → YS, zero_le → Y4, le_of_lt → Xv, zero_add → XO, ne_of_gt → X1, lt_irrefl → X8, not_lt_zero → Wd, lt_succ_of_lt → WB, lt_succ_self → WQ, lt_trichotomy → VZ, mod_lt → Up, min_eq_left → Uw, lt_of_le_of_lt → UI, lt_trans → UJ, succ_pos → UK, le_of_not_lt → Yaa, le_succ → Yaw
open Ne renaming symm → XH
open Option renaming map_eq_some_iff → Xh, isSome_iff_exists → Vw, map_some → Us, isSome_map → UW
open Option.some renaming inj → YI
open Prod renaming fst → Yba
open PyProof.Rows renaming slot_tuple_getitem → Xj, callWith_type1 → XI, get?_update_seq → WC, callWith_builtin1 → Ua, entry_proto_collect' → Uh, SortKind → Uj, listUpdate_at → Uk, mirror_perm → U7, entry_list_iadd' → Yab, AllBare → Yad, listItems_at → Yak, mirror_size → Yax, seqEpoch_at → Yay
open PyProof.Rows.F renaming plain_set_update_loop → X9, entry_set_update_loop → Vl
open PySem renaming wpAny_bind → Ya, wpAny_pure → Yc, sizeLine → Yr, starEach → Ys, Program → Yy, sizeLine_eq → YN, Spec → YT, foldedSetIterable → YX, wpAny_setState_of → Y1, wpAny_mono → Y5, wpAny_call_entry → Y7, wpAny_holding → Xa, wpAny_newObj_type → Xk, wpAny_callSpecial?_slot → Xo, bootBuiltins → Xz, SetTable → XC, sysModules → XE, codeAny_builtin → XJ, codeAny → XT, attributeBase → XW, wpAny_setField → XY, Comprehension → XZ, letOwnedTupleGo → X2, compareOp → X7, wpAny_ite_split → Wg, FuncData → Wh, Builtin → Wj, wpAny_askSetting → Wl, setSearchFrom → Wq, swapsWith → Wv, wpAny_passesOwn → Ww, wpAny_comprehension_free → WA, wpAny_standAt → WI, mem_of_lookup → WJ, wpAny_newList → WN, wpAny_typeNameOfWhole_keyiter → WU, wpAny_typeNameOfWhole_valiter → WV, assignEach → WX, wpAny_Call_Name_kw → W1, tupleKind_room_in1 → W2, binaryOp → Va, wpAny_dictEntries → Vc, tupleKind → Vh, wpAny_fieldsOf → Vn, wpAny_raiseNew_none → Vu, wpAny_typeOf → Vz, behindInMarks → VD, NameKind → VE, DictEntry → VG, wpAny_loadPart' → VJ, wpAny_attempt → VL, size_of_entries → VN, wpAny_specialOf → VQ, wpAny_Call_method0_late → VT, wpAny_truthy_bool → VX, sliceBounds → VY, wpAny_pyIter_slot → V1, SetTable → V3, carriedByValue → V4, isSubtype_type → V5, wpAny_runValue → V6, wpAny_seqItems → V7, codeAny_mono → V9, wpAny_notOrdered_dict → Uc, wpAny_newFunctionEnv → Ug, wpAny_execs_nil → Ur, wpAny_dictEpoch → Ux, evalArgs_none → UA, wpAny_loadPart → UO, isSubtype_stop → UQ, PassesOwn → UU, ofAClassStatement → UX, isSubtype → UY, wpAny_pyIter_list → UZ, wpAny_rule → U0, mainGlobals → U1, holding → U2, keywordEach → U4, Keyword → U5, noFill_tuple_add → U9, concat_meets → Yaf, collect → Yal, wpAny_alloc' → Yan, pickOrder → Yao, wpAny_updateSeq → Yap, codeAny_of_tree → Yaq, entryOfKey → Yar, compEnvC → Yas, setEntries → Yat, wpAny_field → Yau, getItem → Yav, callerA → Ybc, valueAt → Ybd, ItemsOf → Ybe
open PySem.Around renaming in1_units → YV, under_plainId → Wt
open PySem.Builtin.Dict renaming showsAll → Wp
open PySem.Builtin.Dict_items renaming ownsTuple → W4, newIterator → Ud
open PySem.Builtin.Frozenset renaming updateFrom → Ui
open PySem.Builtin.List renaming listExtendWith → We, listTooLong → Wy, listSameRef → VB, listLengthHint → Uz
open PySem.Builtin.Slice renaming slicePlaces → Ws, sliceAdjust → Vj, sliceApplied → UD
open PySem.Builtin.Tuple renaming tupleExact → Wx, tupleItemsOf → Vf
open PySem.Calls renaming callWith_builtin → WZ, call_function_entry → Vm, Name_function_global → UC, spliced_cons → UH, spliced_nil → UV
open PySem.Code renaming quiet_builtin → VM
open PySem.F renaming called_set → XM, slot_dict_valueiterator_next → WG, plainAttrs_dict → WO, slot_dict_keyiterator_next → W3, slot_tuple_hash → Ve, args_tuple_add_2 → Vy, slot_dict_values → VC, entry_tuple_add → VF, plainAttrs_list → VU, slot_tuple_add → VV, slot_dict_setdefault → Um
open PySem.Heap renaming get?_push_of_some → Yb, get?_push_size → Ye, lt_size → Yq, get?_update_self → Xn, SameBut → Xw, get?_update_ne → XU, size_push → Vk, ExtBut → Uy
open PySem.Heap.SameBut renaming update → Y3
open PySem.NameKind renaming free → Xs, cell → WK
open PySem.Obj renaming data_mapFields → Xi, mapSeq → XN, mapFields → XX, isFreed_of_fields → X4, cls_mapFields → Vd
open PySem.Paired renaming length → Wm
open PySem.PassesOwn renaming never → WE
open PySem.SetFound renaming there → UR
open PySem.SetTable renaming grown → V8, sizeAbove → UL, slot → U6
open PySem.Str renaming ofString → Wn
open PySem.Value renaming ref → YG, none → Xu, type → X5, bool → UT
open PySem.W renaming kas_sort → XA, kas_desc → Wi, kas_place → WT, kas_rev → W0, kas_asc → Vt, keepIn → U3, kas_descPart → Yaj
open PySem.W.KasT renaming ret → Yaz
open PySem.W.Looks renaming of_pure → U8
open Sum renaming inr → WY, inl → Ybb
open True renaming intro → Uo
set_option backward.eqns.nonrecursive false
set_option genSizeOf false
set_option compiler.extract_closed false
set_option bootstrap.genMatcherCode false
set_option Elab.async false
set_option linter.all false
set_option maxRecDepth 100000
namespace L2
open PySem PySem.Spec PyProof.Rows
abbrev Key:=Sum Int Str
def keyIs:Key->Value->Bool
 | .inl k,v=>Value.isInt k v
 | .inr x,v=>Value.isStrOf x v
def keyH (w:World):Key->Int
 | .inl k=>hashInt k
 | .inr x=>hashStr w x
theorem Zau:∀{k:Key} {v:Value},keyIs k v=true->(∃i t,k=Ybb i/\v=Value.int i t)\/(∃x t,k=WY x/\v=Value.str x t)
 | .inl i,v,h=>by
  obtain ⟨t,e⟩:=Value.isInt_shape (k:=i) (v:=v) h
  exact .inl ⟨i,t,rfl,e⟩
 | .inr x,v,h=>by
  obtain ⟨t,e⟩:=Value.isStrOf_shape (x:=x) (v:=v) h
  exact .inr ⟨x,t,rfl,e⟩
theorem keyIs_int (i:Int)(t:Tok):keyIs (.inl i) (.int i t)=true:=by simp[keyIs,Value.isInt]
theorem Zc9 (x:Str)(t:Tok):keyIs (.inr x) (.str x t)=true:=by simp[keyIs,Value.isStrOf]
theorem key_ll (a b:Int):decide ((Ybb a:Key)=Ybb b)=(a==b):=by
 by_cases e:a=b
 ·subst e;simp
 ·have h:¬(Ybb a:Key)=Ybb b:=fun q=>e (Sum.inl.inj q)
  rw[decide_eq_false h]
  exact (beq_eq_false_iff_ne.mpr e).symm
theorem key_rr (a b:Str):decide ((WY a:Key)=WY b)=decide (a=b):=by
 by_cases e:a=b
 ·subst e;simp
 ·have h:¬(WY a:Key)=WY b:=fun q=>e (Sum.inr.inj q)
  rw[decide_eq_false h,decide_eq_false e]
theorem key_lr (a:Int)(b:Str):decide ((Ybb a:Key)=WY b)=false:=decide_eq_false (fun q=>nomatch q)
theorem key_rl (a:Str)(b:Int):decide ((WY a:Key)=Ybb b)=false:=decide_eq_false (fun q=>nomatch q)
def mixKind (prog:Yy)(w:World):PySem.KeyKind prog w Key where
 is:=keyIs
 hash:=keyH w
 inj:=fun v a b ha hb=>by
  rcases Zau ha with ⟨i,t,rfl,rfl⟩ | ⟨x,t,rfl,rfl⟩
  ·rcases Zau hb with ⟨j,u,rfl,e⟩ | ⟨y,u,rfl,e⟩
   ·injection e with e1 _;rw[e1]
   ·exact nomatch e
  ·rcases Zau hb with ⟨j,u,rfl,e⟩ | ⟨y,u,rfl,e⟩
   ·exact nomatch e
   ·injection e with e1 _;rw[e1]
 byValue:=fun k v h=>by
  rcases Zau h with ⟨i,t,rfl,rfl⟩ | ⟨x,t,rfl,rfl⟩<;>rfl
 pyHash:=fun hv h=>by
  rcases Zau hv with ⟨i,t,rfl,rfl⟩ | ⟨x,t,rfl,rfl⟩
  ·exact wpAny_pyHash_int h
  ·exact wpAny_pyHash_str h
 eqBool:=fun hu hv h=>by
  rcases Zau hu with ⟨i,t,rfl,rfl⟩ | ⟨x,t,rfl,rfl⟩
  ·rcases Zau hv with ⟨j,u,rfl,rfl⟩ | ⟨y,u,rfl,rfl⟩
   ·rw[key_ll] at h;exact wpAny_eqBool_int h
   ·rw[key_lr] at h;exact SeqAt.EqAt.int_str i t y u _ _ _ _ h
  ·rcases Zau hv with ⟨j,u,rfl,rfl⟩ | ⟨y,u,rfl,rfl⟩
   ·rw[key_rl] at h;exact SeqAt.EqAt.str_int x t j u _ _ _ _ h
   ·rw[key_rr] at h;exact wpAny_eqBool_str h
 «strs»:=fun k x t v h=>by
  rcases Zau h with ⟨i,u,rfl,e⟩ | ⟨y,u,rfl,e⟩
  ·exact nomatch e
  ·injection e with e1 _
   subst e1
   cases v<;>rfl
theorem mixKind_int (prog:Yy)(w:World)(i:Int)(t:Tok):(mixKind prog w).is (.inl i) (.int i t)=true:=keyIs_int i t
theorem mixKind_str (prog:Yy)(w:World)(x:Str)(t:Tok):(mixKind prog w).is (.inr x) (.str x t)=true:=Zc9 x t
inductive V where
 | non | bl (b:Bool) | int (i:Int) | str (x:Str) | byt (b:Array UInt8) | flt (b:UInt64) | ref (a:Addr) | ty (n:String)
 deriving DecidableEq
def RelV:V->Value->Prop
 | .non,u=>u=Xu
 | .bl b,u=>u=UT b
 | .int i,u=>∃t,u=Value.int i t
 | .str x,u=>∃t,u=Value.str x t
 | .byt b,u=>∃t,u=Value.bytes b t
 | .flt b,u=>∃t,u=Value.float b t
 | .ref a,u=>u=YG a
 | .ty n,u=>u=X5 n
abbrev Vals:List V->List Value->Prop:=Paired RelV
theorem Vals.length {xs:List V}{us:2e5}(r:Vals xs us):xs.length=us.length:=Wm r
theorem Vals.get:∀{xs:List V} {us:2e5} {i:Nat} {x:V},Vals xs us->xs[i]? = some x->∃u,us[i]? = some u/\RelV x u
 | _,_,_,_,.nil,e=>by simp at e
 | _,_,0,_,.cons r _,e=>by simp at e;subst e;exact ⟨_,rfl,r⟩
 | _,_,i + 1,x,.cons _ t,e=>by
  obtain ⟨u,h1,h2⟩:=Vals.get (i:=i) (x:=x) t (by simpa using e)
  exact ⟨u,by simpa using h1,h2⟩
theorem Vals.set {x:V}{u:Value}(r:RelV x u):∀{xs:List V} {us:2e5} (i:Nat),Vals xs us->Vals (xs.set i x) (us.set i u)
 | _,_,_,.nil=>.nil
 | _,_,0,.cons _ t=>.cons r t
 | _,_,i + 1,.cons q t=>.cons q (Vals.set r i t)
theorem Vals.append:∀{xs ys:List V} {us ws:2e5},Vals xs us->Vals ys ws->Vals (xs++ys) (us++ws)
 | _,_,_,_,.nil,s=>s
 | _,_,_,_,.cons r t,s=>.cons r (Vals.append t s)
theorem Vals.take:∀{xs:List V} {us:2e5} (n:Nat),Vals xs us->Vals (xs.take n) (us.take n)
 | _,_,0,_=>.nil
 | _,_,_ + 1,.nil=>.nil
 | _,_,n + 1,.cons r t=>.cons r (Vals.take n t)
theorem Vals.drop:∀{xs:List V} {us:2e5} (n:Nat),Vals xs us->Vals (xs.drop n) (us.drop n)
 | _,_,0,r=>r
 | _,_,_ + 1,.nil=>.nil
 | _,_,n + 1,.cons _ t=>Vals.drop n t
def RelO:Option V->Option Value->Prop
 | some v,some u=>RelV v u
 | none,none=>True
 | _,_=>False
def KV {κ:Type}:List (κ×V)->List (κ×Value)->Prop:=Paired fun (p:κ×V) (q:κ×Value)=>p.1=q.1/\RelV p.2 q.2
def kV:Key->V
 | .inl i=>.int i
 | .inr x=>.str x
inductive HO where
  | lst (xs:List V)
  | tup (xs:List V)
  | dK (kvs:List (Key×V)) | dT (kvs:List (List Key×V))
  | set (S:Int->Bool) (n:Nat)
  | ins (C dx:Addr) (fs:List (Str×V))
  | own (x:Addr)
  | xd (fs:List (Str×V))
  | met (f x:Addr)
  | rng (lo hi:Int)
  | frz (o:Obj) (u:HO)
  | tbl (ps:Array Value)
  | ext (φ:Heap->Prop)
abbrev Hp:=Addr->Option HO
def upd (H:Hp)(a:Addr)(o:HO):Hp:=fun b=>if b=a then some o else H b
theorem Zam {H:Hp}{a:Addr}{o:HO}:upd H a o a=some o:=by unfold upd;rw[if_pos rfl]
theorem Zag {H:Hp}{a b:Addr}{o:HO}(h:b≠a):upd H a o b=H b:=by unfold upd;rw[if_neg h]
theorem ne_of {H:Hp}{a b:Addr}{o u:HO}(h:H a=some o)(h':H b=some u)(d:o≠u):a≠b:=by
 intro e;subst e;rw[h] at h';exact d (YI h')
theorem Zak {H:Hp}{a b:Addr}{o:HO}(h:H a=some o)(h':H b=none):a≠b:=by
 intro e;subst e;rw[h] at h';cases h'
section
variable (P:Yy)(w:World)
def ObjOk (H:Hp)(h:Heap)(a:Addr):HO->Prop
 | .lst xs=>xs.length<=Yr/\∃(its:2e5) (n:Nat),Vals xs its/\h.get? a=some { cls:=.type "list",data:=.seq its.toArray n }
 | .tup xs=>xs.length<=Yr/\∃its:List Value,Vals xs its/\IsTup h a its.toArray
 | .dK kvs=>kvs.length<=Yr/\(a==XE)=false/\∃vs,KV kvs vs/\h.DictOf (mixKind P w) a vs
 | .dT kvs=>kvs.length<=Yr/\(a==XE)=false/\∃xs:List 7e9,
   Paired (fun (p:List Key×V) (q:List Key×Addr×Value)=>p.1=q.1/\H q.2.1=some (.tup (p.1.map kV))/\RelV p.2 q.2.2) kvs xs/\
   ∃o es ep,h.get? a=some o/\o.ExactDict/\o.data=.dict es ep/\es.toList=xs.map (Yar (Vh (mixKind P w)))/\(xs.map (·.1)).Nodup
 | .set S n=>h.SetOf (intKind P w) a S n
 | .ins C dx fs=>H dx=some (.own a)/\fs.length<=1000/\dx≠a/\h.get? a=some (W.instObj C dx)/\
   ∃mA,h.Ns1 dx mA/\(∀f,RelO (fs.lookup f) (mA f))/\PySem.Within mA (fs.map (·.1))
 | .own _=>∃o,h.get? a=some o
 | .xd fs=>∃mA,h.Ns1 a mA/\∀f,RelO (fs.lookup f) (mA f)
 | .rng lo hi=>∃t u v,h.get? a=some { cls:=.type "range",data:=.fields #[.int lo t,.int hi u,.int 1 v] }
 | .frz o u=>h.get? a=some o/\ObjOk H h a u
 | .tbl ps=>h.get? a=some { cls:=.none,data:=.fields ps }
 | .met f x=>h.get? a=some (W.methodObj (.ref f) (.ref x))
 | .ext φ=>φ h/\(∃o,h.get? a=some o)/\∀h1 h2:Heap,φ h1->(∀o,h1.get? a=some o->h2.get? a=some o)->φ h2
def HOk (H:Hp)(h:Heap):Prop:=∀a o,H a=some o->ObjOk P w H h a o
end
section
variable {P:Yy}{w:World}{H H':Hp}{h h':Heap}{a:Addr}{o:HO}
theorem ObjOk.lt (x:ObjOk P w H h a o):a < h.objs.size:=by
 cases o with
 | lst xs=>obtain ⟨_,_,_,_,e⟩:=x;exact Yq e
 | tup xs=>obtain ⟨_,_,_,p⟩:=x;exact p.lt
 | dK kvs=>obtain ⟨_,_,_,_,o,_,_,e,_⟩:=x;exact Yq e
 | dT kvs=>obtain ⟨_,_,_,_,o,_,_,e,_⟩:=x;exact Yq e
 | set S n=>obtain ⟨o,_,_,_,e,_⟩:=x;exact Yq e
 | ins C dx fs=>obtain ⟨_,_,_,e,_⟩:=x;exact Yq e
 | own y=>obtain ⟨_,e⟩:=x;exact Yq e
 | xd fs=>obtain ⟨_,⟨_,_,_,e,_⟩,_⟩:=x;exact Yq e
 | rng lo hi=>obtain ⟨_,_,_,e⟩:=x;exact Yq e
 | frz ob u=>obtain ⟨e,_⟩:=x;exact Yq e
 | tbl ps=>exact Yq (show h.get? a=some _ from x)
 | met f y=>exact Yq (show h.get? a=some _ from x)
 | ext φ=>obtain ⟨_,⟨_,e⟩,_⟩:=x;exact Yq e
theorem Paired.mapP {α β:Type}{F G:α->β->Prop}:∀{l₁:List α} {l₂:List β},Paired F l₁ l₂->(∀a b,F a b->G a b)->Paired G l₁ l₂
 | _,_,.nil,_=>.nil
 | _,_,.cons r t,f=>.cons (f _ _ r) (Paired.mapP t f)
theorem ObjOk.stay (x:ObjOk P w H h a o)(k:∀b u,(b=a\/H b=some (.own a))->h.get? b=some u->h'.get? b=some u)
  (ho:∀b,H b=some (.own a)->H' b=some (.own a)) (ht:∀b xs,H b=some (.tup xs)->H' b=some (.tup xs)):ObjOk P w H' h' a o:=by
 induction o with
 | lst xs=>obtain ⟨z,its,n,r,e⟩:=x;exact ⟨z,its,n,r,k _ _ (.inl rfl) e⟩
 | tup xs=>obtain ⟨z,its,r,ob,e,c⟩:=x;exact ⟨z,its,r,ob,k _ _ (.inl rfl) e,c⟩
 | dK kvs=>obtain ⟨z,y,vs,r,ob,es,ep,e,c⟩:=x;exact ⟨z,y,vs,r,ob,es,ep,k _ _ (.inl rfl) e,c⟩
 | dT kvs=>
  obtain ⟨z,y,xs,r,ob,es,ep,e,c⟩:=x
  exact ⟨z,y,xs,Paired.mapP r fun p q z=>⟨z.1,ht _ _ z.2.1,z.2.2⟩,ob,es,ep,k _ _ (.inl rfl) e,c⟩
 | set S n=>obtain ⟨ob,es,ep,t,e,c⟩:=x;exact ⟨ob,es,ep,t,k _ _ (.inl rfl) e,c⟩
 | ins C dx fs=>
  obtain ⟨d,z,ne,e,mA,⟨od,es,ep,e2,c⟩,r⟩:=x
  exact ⟨ho _ d,z,ne,k _ _ (.inl rfl) e,mA,⟨od,es,ep,k _ _ (.inr d) e2,c⟩,r⟩
 | own y=>obtain ⟨ob,e⟩:=x;exact ⟨ob,k _ _ (.inl rfl) e⟩
 | xd fs=>obtain ⟨mA,⟨od,es,ep,e,c⟩,r⟩:=x;exact ⟨mA,⟨od,es,ep,k _ _ (.inl rfl) e,c⟩,r⟩
 | rng lo hi=>obtain ⟨t,u,v,e⟩:=x;exact ⟨t,u,v,k _ _ (.inl rfl) e⟩
 | frz ob u ih=>obtain ⟨e,q⟩:=x;exact ⟨k _ _ (.inl rfl) e,ih q⟩
 | tbl ps=>
  have e:h.get? a=some { cls:=.none,data:=.fields ps }:=x
  show h'.get? a=some { cls:=.none,data:=.fields ps }
  exact k a _ (.inl rfl) e
 | met f y=>
  have e:h.get? a=some (W.methodObj (.ref f) (.ref y)):=x
  show h'.get? a=some (W.methodObj (.ref f) (.ref y))
  exact k a _ (.inl rfl) e
 | ext φ=>obtain ⟨p,⟨o,e⟩,st⟩:=x;exact ⟨st _ _ p fun o q=>k _ _ (.inl rfl) q,⟨o,k _ _ (.inl rfl) e⟩,st⟩
theorem HOk.lt (x:HOk P w H h)(e:H a=some o):a < h.objs.size:=(x a o e).lt
theorem HOk.fresh (x:HOk P w H h)(e:h.objs.size<=a):H a=none:=by
 cases q:H a with
 | none=>rfl
 | some u=>exact absurd (Yo (x.lt q) e) (X8 _)
theorem HOk.kept (x:HOk P w H h)(k:∀b u,h.get? b=some u->h'.get? b=some u):HOk P w H h':=fun a o e=>
 (x a o e).stay (fun b u _ q=>k b u q) (fun _ q=>q) fun _ _ q=>q
theorem HOk.laid (x:HOk P w H h)(k:∀b u,h.get? b=some u->h'.get? b=some u)(hp:h.objs.size<=a)(new:ObjOk P w (upd H a o) h' a o):HOk P w (upd H a o) h':=fun b u e=>by
 have hn:=x.fresh hp
 by_cases hb:b=a
 ·subst hb;rw[Zam] at e;cases e;exact new
 ·rw[Zag hb] at e
  exact (x b u e).stay (fun c v _ q=>k c v q) (fun c q=>by rw[Zag (Zak q hn)];exact q) fun c xs q=>by rw[Zag (Zak q hn)];exact q
end
def Rd (H:Hp)(a:Addr)(u:HO):Prop:=H a=some u\/∃o,H a=some (.frz o u)
theorem Rd.ok {P:Yy}{w:World}{H:Hp}{h:Heap}{a:Addr}{u:HO}(r:Rd H a u)(x:HOk P w H h):ObjOk P w H h a u:=by
 rcases r with r | ⟨o,r⟩
 ·exact x a u r
 ·obtain ⟨_,q⟩:=x a _ r
  exact q
def Mut:Option HO->Prop
 | some (.lst _)=>True
 | some (.dK _)=>True
 | some (.dT _)=>True
 | some (.set _ _)=>True
 | some (.ins _ _ _)=>True
 | some (.ext _)=>True
 | _=>False
section
variable {P:Yy}{w:World}{H:Hp}{h h':Heap}{x e:Addr}{o':HO}
theorem HOk.write (ok:HOk P w H h)(mu:Mut (H x))(he:e=x\/H e=some (.own x))(k:∀b u,b≠e->h.get? b=some u->h'.get? b=some u)(heo:∃u,h'.get? e=some u)
  (new:ObjOk P w (upd H x o') h' x o'):HOk P w (upd H x o') h':=fun b u q=>by
 have nown:∀c y,H c=some (.own y)->c≠x:=fun c y r z=>by subst z;rw[r] at mu;exact mu
 have ntup:∀c xs,H c=some (.tup xs)->c≠x:=fun c xs r z=>by subst z;rw[r] at mu;exact mu
 by_cases hb:b=x
 ·subst hb;rw[Zam] at q;cases q;exact new
 ·rw[Zag hb] at q
  by_cases hbe:b=e
  ·have q':H b=some (.own x):=by
    rcases he with z | z
    ·exact absurd (hbe.trans z) hb
    ·rw[hbe];exact z
   rw[q] at q';cases q'
   obtain ⟨v,hv⟩:=heo
   exact ⟨v,by rw[hbe];exact hv⟩
  ·refine (ok b u q).stay (fun c v hc r=>k c v ?_ r) (fun c r=>by rw[Zag (nown c b r)];exact r) fun c xs r=>by rw[Zag (ntup c xs r)];exact r
   rcases hc with rfl | hc
   ·exact hbe
   ·rintro rfl
    rcases he with z | z
    ·exact nown c b hc z
    ·rw[hc] at z;cases z;exact hb rfl
end
structure Un (fs ex:List Addr)(H H':Hp)(h h':Heap):Prop where
 keep:∀b o,h.get? b=some o->H b=none->b∉fs->b∉ex->h'.get? b=some o
 slot:∀b o,h.get? b=some o->H b=none->b∈fs->b∉ex->∃sl,h'.get? b=some { o with slots:=sl }
 free:∀b o,h.get? b=some o->H b=none->b∉ex->H' b=none
 there:∀b o,h.get? b=some o->b∉ex->∃o',h'.get? b=some o'
 tups:∀b xs,H b=some (.tup xs)->H' b=some (.tup xs)
 frzs:∀b o u,H b=some (.frz o u)->H' b=some (.frz o u)
 tbls:∀b ps,H b=some (.tbl ps)->∃more,H' b=some (.tbl (ps++more))
section
variable {fs fs' ex ex':2e2}{H H1 H2:Hp}{h h1 h2 h':Heap}{a x e:Addr}{o:HO}
theorem Un.any (u:Un fs ex H H1 h h1){b:Addr}{ob:Obj}(q:h.get? b=some ob)(n:H b=none)(hx:b∉ex):∃sl,h1.get? b=some { ob with slots:=sl }:=by
 by_cases hb:b∈fs
 ·exact u.slot b ob q n hb hx
 ·exact ⟨ob.slots,u.keep b ob q n hb hx⟩
theorem Un.kept (k:∀b u,h.get? b=some u->h'.get? b=some u):Un fs ex H H h h':=
 ⟨fun b ob q _ _ _=>k b ob q,fun b ob q _ _ _=>⟨ob.slots,k b ob q⟩,fun _ _ _ n _=>n,fun b ob q _=>⟨ob,k b ob q⟩,fun _ _ q=>q,fun _ _ _ q=>q,fun _ ps q=>⟨#[],by rw[q];simp⟩⟩
theorem Un.refl:Un fs ex H H h h:=Un.kept fun _ _ q=>q
theorem Un.laid (k:∀b u,h.get? b=some u->h'.get? b=some u)(hp:h.objs.size<=a)(hn:H a=none):Un fs ex H (upd H a o) h h' where
 keep:=fun b u q _ _ _=>k b u q
 slot:=fun b u q _ _ _=>⟨u.slots,k b u q⟩
 free:=fun b u q n _=>by rw[Zag (Yt (Yo (Yq q) hp))];exact n
 there:=fun b u q _=>⟨u,k b u q⟩
 tups:=fun b xs q=>by rw[Zag (Zak q hn)];exact q
 frzs:=fun b u xs q=>by rw[Zag (Zak q hn)];exact q
 tbls:=fun b ps q=>⟨#[],by rw[Zag (Zak q hn),q];simp⟩
theorem Un.write (mu:Mut (H x))(he:e=x\/H e=some (.own x))(k:∀b u,b≠e->h.get? b=some u->h'.get? b=some u)(heo:∃u,h'.get? e=some u):Un fs ex H (upd H x o) h h':=by
 have hx:∀b,H b=none->b≠x:=fun b n z=>by subst z;rw[n] at mu;exact mu
 have hb:∀b,H b=none->b≠e:=fun b n z=>by
  subst z
  rcases he with r | r
  ·exact hx b n r
  ·rw[n] at r;cases r
 have hm:∀b u,H b=some u->¬Mut (some u)->b≠x:=fun b u q nm z=>by subst z;rw[q] at mu;exact nm mu
 refine ⟨fun b u q n _ _=>k b u (hb b n) q,fun b u q n _ _=>⟨u.slots,k b u (hb b n) q⟩,fun b u q n _=>by rw[Zag (hx b n)];exact n,fun b u q _=>?_,
  fun b xs q=>by rw[Zag (hm b _ q fun z=>z)];exact q,fun b u xs q=>by rw[Zag (hm b _ q fun z=>z)];exact q,fun b ps q=>⟨#[],by rw[Zag (hm b _ q fun z=>z),q];simp⟩⟩
 by_cases hbe:b=e
 ·subst hbe;exact heo
 ·exact ⟨u,k b u hbe q⟩
end
def trk (h:Heap)(H:Hp):List Addr:=(YW h.objs.size).filter fun a=>(H a).isSome
def hidT (h:Heap)(H:Hp):Heap:=W.hideAll h (trk h H)
theorem hidT_size (h:Heap)(H:Hp):(hidT h H).objs.size=h.objs.size:=W.hideAll_size _ _
theorem hidT_get {h:Heap}{H:Hp}{b:Addr}{o:Obj}(e:h.get? b=some o)(n:H b=none):(hidT h H).get? b=some o:=
 W.hideAll_get _ e fun hm=>by
  have q:(H b).isSome=true:=(X0.mp hm).2
  rw[n] at q;simp at q
theorem of_hidT {h:Heap}{H:Hp}{b:Addr}{o:Obj}(e:(hidT h H).get? b=some o):h.get? b=some o/\H b=none:=by
 have e':h.get? b=some o:=W.of_hideAll (trk h H) e
 refine ⟨e',?_⟩
 cases q:H b with
 | none=>rfl
 | some x=>
  have hm:b∈trk h H:=X0.mpr ⟨Xq.mpr (Yq e'),by simp[q]⟩
  have z:(hidT h H).get? b=none:=W.hideAll_none (trk h H) hm
  rw[z] at e;cases e
def allNews (g h:Heap)(L:Addr):List (Addr×Obj):=(YW h.objs.size).filterMap fun a=>if a=L\/(g.get? a).isSome=true then none else (h.get? a).map fun o=>(a,o)
def rest (g h:Heap)(L d:Addr):List (Addr×Obj):=(allNews g h L).filter fun p=>decide (p.1≠d)
structure Mod (K:W.Frag)(mg:Str->Option Value)(base:Heap):Prop where
 kin:K.In base
 glob:base.Ns U1 mg
 blt:∃mb,base.Ns builtinsNs mb/\∀x:Str,x≠"__name__"->mb x=Xz x
 nolimit:base.NoLimit
structure Cx where
 prog:Yy
 w:World
 K:W.Frag
 mg:Str->Option Value
 base:Heap
 A:Around
 N:List Str
 s₀:Shared
 H₀:Hp
 env:Env
 outer:List Env
 stack:List Env
 ex:List Addr
 fn:Str->Bool
 calm:Bool
 pn:List (Addr×Obj)
 xe:Value->Shared->Prop
def frs (l:List Env):List Addr:=l.filterMap (·.frame)
abbrev Cx.fs (X:Cx):List Addr:=frs X.outer
def Vis (sc:Scope)(x:Str):Prop:=sc.names.lookup x=some .local\/sc.names.lookup x=some .cell\/sc.names.lookup x=some .free
def Loc (sc:Scope)(x:Str):Prop:=sc.names.lookup x=some .local\/sc.names.lookup x=some .cell
def Look (env:Env)(h:Heap)(m:2e6)(x:Str)(u:Value):Prop:=
 (env.kindOf x=some .local/\m x=some u)\/((env.kindOf x=some .cell\/env.kindOf x=some .free)/\∃c,env.cells.lookup x=some c/\h.IsCell c (some u))
structure Cx.Ok (X:Cx):Prop where
 mod:Mod X.K X.mg X.base
 kind:X.env.scope.kind=.function
 glob:X.env.globals=U1
 blt:X.env.builtins=builtinsNs
 above:X.s₀.heap.objs.size<=X.env.locals
 inj:∀x y c,X.env.cells.lookup x=some c->X.env.cells.lookup y=some c->x=y
 has:∀x,(X.env.kindOf x=some .cell\/X.env.kindOf x=some .free)->∃c,X.env.cells.lookup x=some c
 cab:∀x c,X.fn x=true->X.env.cells.lookup x=some c->X.s₀.heap.objs.size<=c
 hd:X.calm=true->X.A.handled=none
 frames:X.A.frames=some X.stack
 stk:X.stack=X.outer\/(X.stack=X.env::X.outer/\X.env.frame=some X.env.locals)
 exf:∀b∈X.ex,b≠X.env.locals/\∀x c,X.env.cells.lookup x=some c->c≠b
 bs:∀b o,X.base.get? b=some o->X.s₀.heap.get? b=some o/\X.H₀ b=none
 bsz:X.base.objs.size<=X.s₀.heap.objs.size
 noex:∀b o,X.base.get? b=some o->b∉X.ex
 exfs:∀b∈X.ex,b∉X.fs
 funs:X.s₀.heap.FunFrames X.base X.outer
 frf:∀b∈X.fs,X.H₀ b=none
structure Inv (X:Cx)(pins:List (Addr×Obj))(σ:List (Option V))(H:Hp)(s:Shared):Prop where
 ok:X.Ok
 os:s.os=X.s₀.os
 bare:Yad s.gens
 base:Un X.fs X.ex X.H₀ H X.s₀.heap s.heap
 loc:∃m,s.heap.Ns X.env.locals m/\∀(i:Nat) (x:Str) (v:V),X.N[i]? = some x->σ[i]? = some (some v)->Vis X.env.scope x->∃u,RelV v u/\Look X.env s.heap m x u
 cell:∀x c,X.env.cells.lookup x=some c->∃v,s.heap.IsCell c v
 free:H X.env.locals=none
 freeC:∀x c,X.env.cells.lookup x=some c->H c=none
 pin:∀p∈X.pn++pins,s.heap.get? p.1=some p.2/\H p.1=none/\p.1≠X.env.locals/\p.1∉X.fs/\∀v,p.2.data≠.cell v
 hok:HOk X.prog X.w H s.heap
 len:σ.length=X.N.length
section
variable {X:Cx}{pins:1e6}{σ:List (Option V)}{H H':Hp}{s:Shared}{h':Heap}
theorem Cx.Ok.nofr (ok:X.Ok){b:Addr}{o:Obj}(e:X.base.get? b=some o):b∉X.fs:=fun hb=>by
 have:=(ok.funs.mem hb).1
 rw[e] at this;cases this
theorem Inv.bs (I:1e7):∀b o,X.base.get? b=some o->s.heap.get? b=some o/\H b=none:=fun b o e=>
 ⟨I.base.keep b o (I.ok.bs b o e).1 (I.ok.bs b o e).2 (I.ok.nofr e) (I.ok.noex b o e),I.base.free b o (I.ok.bs b o e).1 (I.ok.bs b o e).2 (I.ok.noex b o e)⟩
theorem Inv.bk (I:1e7):∀b o,X.base.get? b=some o->s.heap.get? b=some o:=fun b o e=>(I.bs b o e).1
theorem Inv.mod (I:1e7):Mod X.K X.mg X.base:=I.ok.mod
theorem Inv.kIn (I:1e7):X.K.In s.heap:=I.ok.mod.kin.keeps I.bk
theorem Inv.nolimit (I:1e7):s.heap.NoLimit:=I.ok.mod.nolimit.keeps I.bk
theorem Inv.lt (I:1e7):X.env.locals < s.heap.objs.size:=let ⟨_,hn,_⟩:=I.loc;hn.lt
theorem Inv.sz (I:1e7):X.s₀.heap.objs.size<=s.heap.objs.size:=YQ I.ok.above (Xv I.lt)
theorem Inv.nofs (I:1e7){a:Addr}(h:s.heap.objs.size<=a):a∉X.fs:=fun hb=>by
 obtain ⟨_,o,ho,_⟩:=I.ok.funs.mem hb
 exact absurd (Yo (Yq ho) (YQ I.sz h)) (X8 _)
theorem Inv.cne (I:1e7):∀x c,X.env.cells.lookup x=some c->c≠X.env.locals:=fun x c e z=>by
 obtain ⟨v,o,ho,hd⟩:=I.cell x c e
 obtain ⟨m,⟨o',es,ep,ho',hd',_⟩,_⟩:=I.loc
 rw[z,ho'] at ho;cases ho;rw[hd'] at hd;cases hd
theorem Inv.funs (I:1e7):s.heap.FunFrames X.base X.outer:=by
 have all:∀(l:List Env),(∀b∈frs l,b∈X.fs)->X.s₀.heap.FunFrames X.base l->s.heap.FunFrames X.base l:=by
  intro l
  induction l with
  | nil=>intro _ _;trivial
  | cons env r ih=>
   intro hs hl
   obtain ⟨hk,⟨L,o,hf,hn,ho,hd⟩,hr⟩:=hl
   have hL:L∈X.fs:=hs L (by unfold frs;rw[WH,hf];exact YJ)
   obtain ⟨sl,e⟩:=I.base.slot L o ho (I.ok.frf L hL) hL fun z=>I.ok.exfs L z hL
   exact ⟨hk,⟨L,_,hf,hn,e,hd⟩,ih (fun b hb=>hs b (by unfold frs;rw[WH,hf];exact Yz _ hb)) hr⟩
 exact all X.outer (fun _ hb=>hb) I.ok.funs
theorem Inv.stack (I:1e7):s.heap.FunFrames X.base X.stack:=by
 rcases I.ok.stk with e | ⟨e,hf⟩
 ·rw[e];exact I.funs
 ·rw[e]
  obtain ⟨m,hn,_⟩:=I.loc
  refine .cons (by rw[I.ok.kind];decide) hf hn ?_ I.funs
  exact Heap.get?_none_of_le (YQ I.ok.bsz I.ok.above)
theorem Inv.stkSub (I:1e7):∀b∈frs X.stack,b∈X.env.locals::X.fs:=fun b hb=>by
 rcases I.ok.stk with e | ⟨e,hf⟩
 ·rw[e] at hb;exact Yz _ hb
 ·rw[e] at hb
  unfold frs at hb
  rw[WH,hf] at hb
  exact hb
theorem Inv.stkFree (I:1e7):∀b∈frs X.stack,H b=none:=fun b hb=>by
 rcases Yl.mp (I.stkSub b hb) with e | hb
 ·rw[e];exact I.free
 ·obtain ⟨_,o,ho,_⟩:=I.ok.funs.mem hb
  exact I.base.free b o ho (I.ok.frf b hb) fun z=>I.ok.exfs b z hb
theorem Inv.step {g':Array GenState}{t':Nat}{d':Drawn}{ch:2e2}(I:1e7)
  (hch:∀b∈ch,(b∈X.ex\/X.s₀.heap.objs.size<=b)/\b≠X.env.locals/\(∀x c,X.env.cells.lookup x=some c->c≠b)/\∀p∈X.pn++pins,p.1≠b)
  (keep:∀b o,b≠X.env.locals->b∉X.fs->b∉ch->s.heap.get? b=some o->H b=none->h'.get? b=some o)
  (slot:∀b o,b≠X.env.locals->b∈X.fs->b∉ch->s.heap.get? b=some o->H b=none->∃sl,h'.get? b=some { o with slots:=sl }) (free:∀b o,b∉ch->s.heap.get? b=some o->H b=none->H' b=none)
  (there:∀b o,b∉ch->s.heap.get? b=some o->∃o',h'.get? b=some o')
  (tups:∀b xs,H b=some (.tup xs)->H' b=some (.tup xs)) (frzs:∀b o u,H b=some (.frz o u)->H' b=some (.frz o u)) (tbls:∀b ps,H b=some (.tbl ps)->∃more,H' b=some (.tbl (ps++more)))
  (ns:∀m,s.heap.Ns X.env.locals m->h'.Ns X.env.locals m) (hok:HOk X.prog X.w H' h') (hg:Yad g'):
  Inv X pins σ H' { s with heap:=h',gens:=g',drawn:=d',toks:=t' }:=by
 have neL:∀b o,X.s₀.heap.get? b=some o->b≠X.env.locals:=fun b o e=>Yt (Yo (Yq e) I.ok.above)
 have neC:∀b o,X.s₀.heap.get? b=some o->b∉X.ex->b∉ch:=fun b o e hx hb=>by
  rcases (hch b hb).1 with z | z
  ·exact hx z
  ·exact absurd (Yo (Yq e) z) (X8 _)
 have cellK:∀x c,X.env.cells.lookup x=some c->∀v,s.heap.IsCell c v->h'.IsCell c v:=fun x c e v h_=>by
  obtain ⟨o,ho,hd⟩:=h_
  have nch:c∉ch:=fun z=>(hch c z).2.2.1 x c e rfl
  by_cases hc:c∈X.fs
  ·obtain ⟨sl,q⟩:=slot c o (I.cne x c e) hc nch ho (I.freeC x c e)
   exact ⟨_,q,hd⟩
  ·exact ⟨o,keep c o (I.cne x c e) hc nch ho (I.freeC x c e),hd⟩
 refine ⟨I.ok,I.os,hg,⟨fun b o e n hb hx=>?_,fun b o e n hb hx=>?_,fun b o e n hx=>?_,fun b o e hx=>?_,fun b xs e=>tups b xs (I.base.tups b xs e),fun b o xs e=>frzs b o xs (I.base.frzs b o xs e),fun b ps e=>?_⟩,?_,fun x c e=>?_,?_,fun x c e=>?_,fun p hp=>?_,hok,I.len⟩
 ·exact keep b o (neL b o e) hb (neC b o e hx) (I.base.keep b o e n hb hx) (I.base.free b o e n hx)
 ·obtain ⟨sl,e1⟩:=I.base.slot b o e n hb hx
  obtain ⟨sl',e2⟩:=slot b _ (neL b o e) hb (neC b o e hx) e1 (I.base.free b o e n hx)
  exact ⟨sl',e2⟩
 ·obtain ⟨o',e1⟩:=I.base.there b o e hx
  exact free b o' (neC b o e hx) e1 (I.base.free b o e n hx)
 ·obtain ⟨o',e1⟩:=I.base.there b o e hx
  exact there b o' (neC b o e hx) e1
 ·obtain ⟨m1,e1⟩:=I.base.tbls b ps e
  obtain ⟨m2,e2⟩:=tbls b _ e1
  exact ⟨m1++m2,by rw[e2,Array.append_assoc]⟩
 ·obtain ⟨m,hn,hl⟩:=I.loc
  refine ⟨m,ns m hn,fun i x v e1 e2 e3=>?_⟩
  obtain ⟨u,r,l⟩:=hl i x v e1 e2 e3
  refine ⟨u,r,?_⟩
  rcases l with l | ⟨k,c,e,z⟩
  ·exact .inl l
  ·exact .inr ⟨k,c,e,cellK x c e _ z⟩
 ·obtain ⟨v,z⟩:=I.cell x c e
  exact ⟨v,cellK x c e v z⟩
 ·obtain ⟨m,⟨o,_,_,ho,_⟩,_⟩:=I.loc
  exact free _ o (fun z=>(hch _ z).2.1 rfl) ho I.free
 ·obtain ⟨v,o,ho,hd⟩:=I.cell x c e
  exact free c o (fun z=>(hch c z).2.2.1 x c e rfl) ho (I.freeC x c e)
 ·obtain ⟨e,n,ne,nf,d⟩:=I.pin p hp
  have nch:p.1∉ch:=fun z=>(hch p.1 z).2.2.2 p hp rfl
  exact ⟨keep p.1 p.2 ne nf nch e n,free p.1 p.2 nch e n,ne,nf,d⟩
theorem Inv.un {t':Nat}(I:1e7)(u:Un X.fs [] H H' s.heap h')(hok:HOk X.prog X.w H' h'):Inv X pins σ H' { s with heap:=h',toks:=t' }:=by
 obtain ⟨m,⟨o,es,ep,ho,r⟩,_⟩:=id I.loc
 obtain ⟨sl,hL⟩:=u.any ho I.free 3e0
 exact I.step (g':=s.gens) (d':=s.drawn) (ch:=[]) (fun _ z=>nomatch z) (fun b o _ hb _ e n=>u.keep b o e n hb 3e0) (fun b o _ hb _ e n=>u.slot b o e n hb 3e0) (fun b o _ e n=>u.free b o e n 3e0) (fun b o _ e=>u.there b o e 3e0) u.tups u.frzs u.tbls (fun m' hm=>by
  obtain ⟨o',es',ep',ho',r'⟩:=hm
  rw[ho] at ho';cases ho'
  exact ⟨_,es',ep',hL,r'⟩) hok I.bare
theorem Inv.call {g':Array GenState}{t':Nat}{d':Drawn}{ch:2e2}(I:1e7)(u:Un (frs X.stack) ch H H' s.heap h')(hok:HOk X.prog X.w H' h')(hg:Yad g')
  (hch:∀b∈ch,(b∈X.ex\/X.s₀.heap.objs.size<=b)/\b≠X.env.locals/\(∀x c,X.env.cells.lookup x=some c->c≠b)/\∀p∈X.pn++pins,p.1≠b):
  Inv X pins σ H' { s with heap:=h',gens:=g',drawn:=d',toks:=t' }:=by
 obtain ⟨m,⟨o,es,ep,ho,r⟩,_⟩:=id I.loc
 obtain ⟨sl,hL⟩:=u.any ho I.free fun z=>(hch _ z).2.1 rfl
 exact I.step (ch:=ch) hch (fun b o hL hb hc e n=>u.keep b o e n (fun z=>(Yl.mp (I.stkSub b z)).elim hL hb) hc) (fun b o _ _ hc e n=>u.any e n hc) (fun b o hc e n=>u.free b o e n hc) (fun b o hc e=>u.there b o e hc) u.tups u.frzs u.tbls (fun m' hm=>by
  obtain ⟨o',es',ep',ho',r'⟩:=hm
  rw[ho] at ho';cases ho'
  exact ⟨_,es',ep',hL,r'⟩) hok hg
theorem Inv.turned {t':Nat}{it:Addr}(I:1e7)(k:∀b o,b≠it->s.heap.get? b=some o->h'.get? b=some o)(hn:H it=none)(hL:it≠X.env.locals)
  (h1:it∈X.ex\/X.s₀.heap.objs.size<=it) (h2:∀x c,X.env.cells.lookup x=some c->c≠it) (h3:∀p∈X.pn++pins,p.1≠it):Inv X pins σ H { s with heap:=h',toks:=t' }:=by
 have nit:∀b u,H b=some u->b≠it:=fun b u e z=>by rw[z,hn] at e;cases e
 refine I.step (g':=s.gens) (d':=s.drawn) (ch:=[it]) (fun b hb=>?_) (fun b o _ _ hc e _=>k b o (fun z=>hc (by simp[z])) e) (fun b o _ _ hc e _=>⟨o.slots,k b o (fun z=>hc (by simp[z])) e⟩) (fun _ _ _ _ n=>n)
  (fun b o hc e=>⟨o,k b o (fun z=>hc (by simp[z])) e⟩) (fun _ _ e=>e) (fun _ _ _ e=>e) (fun b ps e=>⟨#[],by rw[e];simp⟩) (fun m hm=>?_) (fun b u e=>?_) I.bare
 ·have e:b=it:=by simpa using hb
  subst e
  exact ⟨h1,hL,h2,h3⟩
 ·obtain ⟨o,es,ep,ho,r⟩:=hm
  exact ⟨o,es,ep,k _ o (XH hL) ho,r⟩
 ·refine (I.hok b u e).stay (fun c v hc q=>k c v ?_ q) (fun _ q=>q) fun _ _ q=>q
  rcases hc with z | z
  ·rw[z];exact nit b u e
  ·exact nit c _ z
theorem Inv.tok (I:1e7)(t:Nat):Inv X pins σ H { s with toks:=t }:=I.un (h':=s.heap) (t':=t) Un.refl I.hok
theorem Inv.kept {t':Nat}(I:1e7)(k:∀b u,s.heap.get? b=some u->h'.get? b=some u):Inv X pins σ H { s with heap:=h',toks:=t' }:=I.un (Un.kept k) (I.hok.kept k)
theorem Inv.laid {a:Addr}{o:HO}{t':Nat}(I:1e7)(k:∀b u,s.heap.get? b=some u->h'.get? b=some u)(hp:s.heap.objs.size<=a)(new:ObjOk X.prog X.w (upd H a o) h' a o):
  Inv X pins σ (upd H a o) { s with heap:=h',toks:=t' }:=I.un (Un.laid k hp (I.hok.fresh hp)) (I.hok.laid k hp new)
theorem Inv.write {x e:Addr}{o:HO}{t':Nat}(I:1e7)(mu:Mut (H x))(he:e=x\/H e=some (.own x))(k:∀b u,b≠e->s.heap.get? b=some u->h'.get? b=some u)(heo:∃u,h'.get? e=some u)
  (new:ObjOk X.prog X.w (upd H x o) h' x o):Inv X pins σ (upd H x o) { s with heap:=h',toks:=t' }:=I.un (Un.write mu he k heo) (I.hok.write mu he k heo new)
theorem Inv.pins_of {pins':1e6}(I:1e7)(h:∀p∈pins',s.heap.get? p.1=some p.2/\H p.1=none/\p.1≠X.env.locals/\p.1∉X.fs/\∀v,p.2.data≠.cell v):Inv X pins' σ H s:=
 ⟨I.ok,I.os,I.bare,I.base,I.loc,I.cell,I.free,I.freeC,fun p hp=>(YU.mp hp).elim (fun z=>I.pin p (YY _ z)) (h p),I.hok,I.len⟩
theorem nodup_ix {N:4e0}(hN:N.Nodup){i j:Nat}{x:Str}(a:N[i]? = some x)(b:N[j]? = some x):i=j:=by
 obtain ⟨h1,e1⟩:=Y2.mp a
 obtain ⟨h2,e2⟩:=Y2.mp b
 exact (Vp hN).mp (e1.trans e2.symm)
theorem store_ok2 {M:Model}{A:Around}{E:1e1}{i:Nat}{x:Str}{v:V}{u:Value}{Q:Unit->Shared->Prop}(I:1e7)(hN:X.N.Nodup)(hi:X.N[i]? = some x)(hx:Loc X.env.scope x)(r:RelV v u)
  (h:∀s',Inv X pins (σ.set i (some v)) H s'->(∃a,Xw a s.heap s'.heap/\(a=X.env.locals\/X.env.cells.lookup x=some a))->Q () s') (hf:5e1:=by first | exact .inl rfl | exact .inr rfl | assumption):wpAny M A (storeName X.env x u) Q E s:=by
 obtain ⟨m,hn,hl⟩:=id I.loc
 have hcls:(X.env.scope.kind==.class||(X.env.scope.kind==.module&&X.env.locals != X.env.globals))=false:=by rw[I.ok.kind];rfl
 have hiσ:i < σ.length:=by rw[I.len];exact (Y2.mp hi).1
 have cne:=I.cne
 have tracked:∀{a:Addr} {h':Heap},(∃o,s.heap.get? a=some o/\H a=none)->Xw a s.heap h'->HOk X.prog X.w H h':=fun {a h'} ha hs b ob e=>by
  obtain ⟨_,_,hfree⟩:=ha
  refine (I.hok b ob e).stay (fun c w' hc q=>(hs.2 c ?_).trans q) (fun _ q=>q) fun _ _ q=>q
  rintro rfl
  rcases hc with rfl | hc
  ·rw[hfree] at e;cases e
  ·rw[hfree] at hc;cases hc
 rcases hx with hk | hk
 ·refine wpAny_storeName_local hk hn (fun h' hn' hs=>?_) hcls
  obtain ⟨oL,_,_,hoL,_⟩:=id hn
  refine h _ ⟨I.ok,I.os,I.bare,⟨fun b o e n hb hx=>?_,fun b o e n hb hx=>?_,I.base.free,fun b o e hx=>?_,I.base.tups,I.base.frzs,I.base.tbls⟩,⟨_,hn',fun j y v' e1 e2 e3=>?_⟩,fun y c e=>?_,I.free,I.freeC,fun p hp=>?_,tracked ⟨oL,hoL,I.free⟩ hs,by simpa using I.len⟩ ⟨_,hs,.inl rfl⟩
  ·exact (hs.2 b (Yt (Yo (Yq e) I.ok.above))).trans (I.base.keep b o e n hb hx)
  ·obtain ⟨sl,e1⟩:=I.base.slot b o e n hb hx
   exact ⟨sl,(hs.2 b (Yt (Yo (Yq e) I.ok.above))).trans e1⟩
  ·obtain ⟨o',e1⟩:=I.base.there b o e hx
   exact ⟨o',(hs.2 b (Yt (Yo (Yq e) I.ok.above))).trans e1⟩
  ·by_cases hj:j=i
   ·subst hj
    rw[hi] at e1;cases e1
    rw[Xf hiσ] at e2
    cases e2
    exact ⟨u,r,.inl ⟨hk,by simp⟩⟩
   ·rw[YA (XH hj)] at e2
    obtain ⟨u',r',q⟩:=hl j y v' e1 e2 e3
    refine ⟨u',r',?_⟩
    rcases q with ⟨k,e⟩ | ⟨k,c,e,z⟩
    ·refine .inl ⟨k,?_⟩
     have:y≠x:=fun e=>hj (nodup_ix hN e1 (e ▸ hi))
     simp[this,e]
    ·exact .inr ⟨k,c,e,z.sameBut hs (cne y c e)⟩
  ·obtain ⟨w',z⟩:=I.cell y c e
   exact ⟨w',z.sameBut hs (cne y c e)⟩
  ·obtain ⟨e,n,ne,nf,d⟩:=I.pin p hp
   exact ⟨(hs.2 p.1 ne).trans e,n,ne,nf,d⟩
 ·have hfn:X.fn x=true:=by
   rcases hf with z | z
   ·exact z
   ·rw[z] at hk;cases hk
  obtain ⟨c,hc⟩:=I.ok.has x (.inl hk)
  obtain ⟨w',z⟩:=I.cell x c hc
  refine wpAny_storeName_cell I.ok.kind hk hc z (fun h' hc' hs=>?_)
  obtain ⟨oc,hoc,hocd⟩:=id z
  refine h { s with heap:=h' } ⟨I.ok,I.os,I.bare,⟨fun b o e n hb hx=>?_,fun b o e n hb hx=>?_,I.base.free,fun b o e hx=>?_,I.base.tups,I.base.frzs,I.base.tbls⟩,⟨m,hn.sameBut hs (XH (cne x c hc)),fun j y v' e1 e2 e3=>?_⟩,fun y c' e=>?_,I.free,I.freeC,fun p hp=>?_,tracked ⟨oc,hoc,I.freeC x c hc⟩ hs,by simpa using I.len⟩ ⟨c,hs,.inr hc⟩
  ·exact (hs.2 b (Yt (Yo (Yq e) (I.ok.cab x c hfn hc)))).trans (I.base.keep b o e n hb hx)
  ·obtain ⟨sl,e1⟩:=I.base.slot b o e n hb hx
   exact ⟨sl,(hs.2 b (Yt (Yo (Yq e) (I.ok.cab x c hfn hc)))).trans e1⟩
  ·obtain ⟨o',e1⟩:=I.base.there b o e hx
   exact ⟨o',(hs.2 b (Yt (Yo (Yq e) (I.ok.cab x c hfn hc)))).trans e1⟩
  ·by_cases hj:j=i
   ·subst hj
    rw[hi] at e1;cases e1
    rw[Xf hiσ] at e2
    cases e2
    exact ⟨u,r,.inr ⟨.inl hk,c,hc,hc'⟩⟩
   ·rw[YA (XH hj)] at e2
    obtain ⟨u',r',q⟩:=hl j y v' e1 e2 e3
    refine ⟨u',r',?_⟩
    rcases q with q | ⟨k,c',e,z'⟩
    ·exact .inl q
    ·refine .inr ⟨k,c',e,z'.sameBut hs ?_⟩
     rintro rfl
     exact hj (nodup_ix hN e1 (I.ok.inj _ _ _ e hc ▸ hi))
  ·by_cases hcc:c'=c
   ·subst hcc;exact ⟨_,hc'⟩
   ·obtain ⟨w2,z2⟩:=I.cell y c' e
    exact ⟨w2,z2.sameBut hs hcc⟩
  ·obtain ⟨e,n,ne,nf,d⟩:=I.pin p hp
   refine ⟨(hs.2 p.1 ?_).trans e,n,ne,nf,d⟩
   intro q
   rw[q,hoc] at e
   have q':oc=p.2:=YI e
   exact d w' (by rw[←q'];exact hocd)
theorem store_ok {M:Model}{A:Around}{E:1e1}{i:Nat}{x:Str}{v:V}{u:Value}{Q:Unit->Shared->Prop}(I:1e7)(hN:X.N.Nodup)(hi:X.N[i]? = some x)(hx:Loc X.env.scope x)(r:RelV v u)
  (h:∀s',Inv X pins (σ.set i (some v)) H s'->Q () s') (hf:5e1:=by first | exact .inl rfl | exact .inr rfl | assumption):wpAny M A (storeName X.env x u) Q E s:=
 store_ok2 I hN hi hx r (fun s' I' _=>h s' I') hf
theorem Inv.call' {s':Shared}{ch:2e2}(I:1e7)(ho:s'.os=s.os)(u:Un (frs X.stack) ch H H' s.heap s'.heap)(hok:HOk X.prog X.w H' s'.heap)(hg:Yad s'.gens)
  (hch:∀b∈ch,(b∈X.ex\/X.s₀.heap.objs.size<=b)/\b≠X.env.locals/\(∀x c,X.env.cells.lookup x=some c->c≠b)/\∀p∈X.pn++pins,p.1≠b):Inv X pins σ H' s':=by
 obtain ⟨h',g',d',t',o'⟩:=s'
 have e:o'=s.os:=ho
 subst e
 exact I.call (g':=g') (t':=t') (d':=d') u hok hg hch
end
abbrev XK:=Value->Option Addr->Hp->Prop
abbrev St:=List (Option V)
abbrev VK:=V->Hp->Prop
abbrev TE:=St->Hp->VK->Prop
abbrev TT:=St->Hp->(Bool->Hp->Prop)->Prop
abbrev TA:=St->Hp->(List V->Hp->Prop)->Prop
structure Ends where
 nx:St->Hp->Prop
 rt:VK
 bk:St->Hp->Prop:=fun _ _=>False
 ct:St->Hp->Prop:=fun _ _=>False
abbrev TS:=Ends->St->Hp->Prop
def EP (X:Cx)(pins:1e6)(σ:St)(Q:VK)(u:Value)(s':Shared):Prop:=∃v H',Inv X pins σ H' s'/\RelV v u/\Q v H'
def TP (X:Cx)(pins:1e6)(σ:St)(Q:Bool->Hp->Prop)(b:Bool)(s':Shared):Prop:=∃H',Inv X pins σ H' s'/\Q b H'
def AP (X:Cx)(pins:1e6)(σ:St)(Q:List V->Hp->Prop)(us:2e5)(s':Shared):Prop:=∃vs H',Inv X pins σ H' s'/\Vals vs us/\Q vs H'
def SP (X:Cx)(pins:1e6)(D:Ends)(f:Flow)(s':Shared):Prop:=
 match f with
 | .next=>∃σ' H',Inv X pins σ' H' s'/\D.nx σ' H'
 | .brk=>∃σ' H',Inv X pins σ' H' s'/\D.bk σ' H'
 | .cont=>∃σ' H',Inv X pins σ' H' s'/\D.ct σ' H'
 | .ret u=>∃v σ' H',Inv X pins σ' H' s'/\RelV v u/\D.rt v H'
def PE (X:Cx)(e:Expr)(t:TE):Prop:=
 ∀(pins:1e6) (s:Shared) (σ:St) (H:Hp) (Q:VK),Inv X pins σ H s->t σ H Q->wpAny 2e0 X.A (eval e X.env) (EP X pins σ Q) X.xe s
def PT (X:Cx)(e:Expr)(t:TT):Prop:=
 ∀(pins:1e6) (s:Shared) (σ:St) (H:Hp) (Q:Bool->Hp->Prop),Inv X pins σ H s->t σ H Q->wpAny 2e0 X.A (isTrue e X.env (eval e X.env)) (TP X pins σ Q) X.xe s
def PW (X:Cx)(e:Expr)(t:TT):Prop:=
 ∀(whole:Sem Value) (pins:1e6) (s:Shared) (σ:St) (H:Hp) (Q:Bool->Hp->Prop),Inv X pins σ H s->t σ H Q->wpAny 2e0 X.A (isTrue e X.env whole) (TP X pins σ Q) X.xe s
def PA (X:Cx)(es:3e2)(t:TA):Prop:=
 ∀(pos:Pos) (pins:1e6) (s:Shared) (σ:St) (H:Hp) (Q:List V->Hp->Prop),Inv X pins σ H s->t σ H Q->wpAny 2e0 X.A (spliced (backTo pos (Ys es X.env))) (AP X pins σ Q) X.xe s
def PS (X:Cx)(st:Stmt)(t:TS):Prop:=
 ∀(pins:1e6) (s:Shared) (σ:St) (H:Hp) (D:Ends),Inv X pins σ H s->t D σ H->wpAny 2e0 X.A (exec st X.env) (SP X pins D) X.xe s
def PSs (X:Cx)(st:List Stmt)(t:TS):Prop:=
 ∀(pins:1e6) (s:Shared) (σ:St) (H:Hp) (D:Ends),Inv X pins σ H s->t D σ H->wpAny 2e0 X.A (execs st X.env) (SP X pins D) X.xe s
theorem thn {α:Type}{t:Sem α}{Q Q':α->Shared->Prop}{M:Model}{A:Around}{E:1e1}{s:Shared}(h:wpAny M A t Q E s)(hQ:∀a s,Q a s->Q' a s):wpAny M A t Q' E s:=Y5 h hQ fun _ _ x=>x
section
variable {X:Cx}
theorem bin {a b:Expr}{ta tb:TE}(ha:PE X a ta)(hb:PE X b tb){pins:1e6}{s:Shared}{σ:St}{H:Hp}{R:V->V->Hp->Prop}(I:1e7)(h:ta σ H fun x H1=>tb σ H1 fun y H2=>R x y H2)
  {α:Type} {Q:α->Shared->Prop} {f:Value->Value->Sem α}
  (hf:∀v u s2 x y H2,Inv X pins σ H2 s2->RelV x v->RelV y u->R x y H2->wpAny 2e0 X.A (f v u) Q X.xe s2):
  wpAny 2e0 X.A (eval a X.env) (fun v s₁=>wpAny 2e0 X.A (eval b X.env) (fun u s₂=>wpAny 2e0 X.A (f v u) Q X.xe s₂) X.xe s₁) X.xe s:=by
 refine thn (ha pins s σ H _ I h) fun v s1 h_=>?_
 obtain ⟨x,H1,I1,r1,q1⟩:=h_
 refine thn (hb pins s1 σ H1 _ I1 q1) fun u s2 h_=>?_
 obtain ⟨y,H2,I2,r2,q2⟩:=h_
 exact hf v u s2 x y H2 I2 r1 r2 q2
def tVar (i:Nat):TE:=fun σ H Q=>∃v,σ[i]? = some (some v)/\Q v H
def tC (v:V):TE:=fun _ H Q=>Q v H
theorem pe_var {i:Nat}{x:Str}{pos:Pos}(hN:X.N[i]? = some x)(hv:Vis X.env.scope x)(hd:3e4:=by decide)(hcd:(x==("__classdict__":Str))=false:=by decide):PE X (.Name x pos) (tVar i):=by
 intro pins s σ H Q I h
 obtain ⟨v,e,h⟩:=h
 obtain ⟨m,hn,hl⟩:=I.loc
 obtain ⟨u,r,l⟩:=hl i x v hN e hv
 have fin:EP X pins σ Q u s:=⟨v,H,I,r,h⟩
 rcases l with ⟨hk,hm⟩ | ⟨hk,c,hc,hcell⟩
 ·exact wpAny_Name (wpAny_loadName_local I.ok.kind hk hn hm fin) hd
 ·rcases hk with hk | hk
  ·exact wpAny_Name (wpAny_loadName_cell I.ok.kind hk hc hcell fin) hd
  ·exact wpAny_Name (wpAny_loadName_free I.ok.kind hk hc hcell fin hcd) hd
theorem pe_int {i j pos}:PE X (.Constant (.int i) j pos) (tC (.int i)):=fun _ _ _ H _ I h=>wpAny_Constant_int ⟨.int i,H,I.tok _,7e1,h⟩
theorem pe_bl {b j pos}:PE X (.Constant (.bool b) j pos) (tC (.bl b)):=fun _ _ _ H _ I h=>Constant_bool ⟨.bl b,H,I,rfl,h⟩
theorem pe_str {x j pos}:PE X (.Constant (.str x) j pos) (tC (.str x)):=fun _ _ _ H _ I h=>Calls.Constant_str ⟨.str x,H,I.tok _,7e1,h⟩
def Gl (X:Cx)(x:Str):Prop:=X.env.kindOf x=some .globalImplicit
theorem ld_glob {E:1e1}{pins:1e6}{s:Shared}{σ:St}{H:Hp}{x:Str}{u:Value}{pos:Pos}{Q:1e1}(I:1e7)(hg:Gl X x)(hm:X.mg x=some u)(h:Q u s)
  (hd:3e4:=by decide):wpAny 2e0 X.A (eval (.Name x pos) X.env) Q E s:=
 UC I.ok.kind hg (Calls.loadGlobal_global (by rw[I.ok.glob];exact I.mod.glob.keeps I.bk) hm h) hd
theorem Zc6 {E:1e1}{pins:1e6}{s:Shared}{σ:St}{H:Hp}{x:Str}{u:Value}{pos:Pos}{Q:1e1}(I:1e7)(hg:Gl X x)(hm:X.mg x=none)(hv:Xz x=some u)(h:Q u s)
  (hn:x≠"__name__":=by decide) (hd:3e4:=by decide):wpAny 2e0 X.A (eval (.Name x pos) X.env) Q E s:=by
 obtain ⟨mb,h1,h2⟩:=I.mod.blt
 exact UC I.ok.kind hg (Calls.loadGlobal_builtin (by rw[I.ok.glob];exact I.mod.glob.keeps I.bk) hm (by rw[I.ok.blt];exact h1.keeps I.bk) ((h2 x hn).trans hv) h) hd
theorem pe_glob {x:Str}{v:V}{u:Value}{pos:Pos}(hg:Gl X x)(hm:X.mg x=some u)(r:RelV v u)(hd:3e4:=by decide):PE X (.Name x pos) (tC v):=
 fun _ _ _ H _ I h=>ld_glob I hg hm ⟨v,H,I,r,h⟩ hd
variable {a b:Expr}{ta tb:TE}{pos:Pos}
variable {tA tB':TT}{rest:3e2}
def tAnd (t u:TT):TT:=fun σ H Q=>t σ H fun c H1=>if c=true then u σ H1 Q else Q false H1
theorem pw_and1 (ha:PT X a tA):PW X (.BoolOp .And [a] pos) tA:=by
 intro wh pins s σ H Q I h
 refine isTrue_and (thn (ha pins s σ H Q I h) fun c s1 e=>?_)
 cases c with
 | true=>exact isTrue_and_nil e
 | false=>exact e
theorem pw_and (ha:PT X a tA)(hb:PW X (.BoolOp .And (b::rest) pos) tB'):PW X (.BoolOp .And (a::b::rest) pos) (tAnd tA tB'):=by
 intro wh pins s σ H Q I h
 refine isTrue_and (thn (ha pins s σ H _ I h) fun c s1 h_=>?_)
 obtain ⟨H1,I1,q1⟩:=h_
 cases c with
 | true=>exact hb wh pins s1 σ H1 Q I1 q1
 | false=>exact ⟨H1,I1,q1⟩
def tAndV (ta tb:TE):TE:=fun σ H Q=>ta σ H fun x H1=>∃c,x=.bl c/\if c=true then tb σ H1 Q else Q (.bl false) H1
theorem pe_one {op}{t:TE}(h:PE X a t):PE X (.BoolOp op [a] pos) t:=fun pins s σ H Q I hw=>BoolOp_one (h pins s σ H Q I hw)
theorem pe_and (ha:PE X a ta)(hb:PE X (.BoolOp .And (b::rest) pos) tb):PE X (.BoolOp .And (a::b::rest) pos) (tAndV ta tb):=by
 intro pins s σ H Q I h
 refine BoolOp_and (thn (ha pins s σ H _ I h) fun v s1 h_=>?_)
 obtain ⟨x,H1,I1,r1,q1⟩:=h_
 obtain ⟨c,rfl,q1⟩:=q1
 cases r1
 refine VX ?_
 cases c with
 | true=>exact hb pins s1 σ H1 Q I1 q1
 | false=>exact ⟨.bl false,H1,I1,rfl,q1⟩
end
def SqL (K:W.Frag)(H:Hp)(a:Addr)(xs:List V):Prop:=
 Rd H a (.lst xs)\/
  ∃(o:Obj) (its:Array Value) (n:Nat),K.lookup a=some o/\o.cls=.type "list"/\o.dict=none/\o.data=.seq its n/\its.size<=Yr/\Vals xs its.toList
def SqT (K:W.Frag)(H:Hp)(a:Addr)(xs:List V):Prop:=
 Rd H a (.tup xs)\/
  ∃(o:Obj) (its:Array Value) (n:Nat),K.lookup a=some o/\o.cls=.type "tuple"/\o.data=.seq its n/\its.size<=Yr/\Vals xs its.toList
def absV:Value->Option V
 | .none=>some .non
 | .bool b=>some (.bl b)
 | .int i _=>some (.int i)
 | .str x _=>some (.str x)
 | .bytes b _=>some (.byt b)
 | .float b _=>some (.flt b)
 | .ref a=>some (.ref a)
 | .type n=>some (.ty n)
 | _=>none
theorem RelV.abs {x:V}{u:Value}(r:RelV x u):absV u=some x:=by
 cases x with
 | non=>cases r;rfl
 | bl _=>cases r;rfl
 | int _=>obtain ⟨t,rfl⟩:=r;rfl
 | str _=>obtain ⟨t,rfl⟩:=r;rfl
 | byt _=>obtain ⟨t,rfl⟩:=r;rfl
 | flt _=>obtain ⟨t,rfl⟩:=r;rfl
 | ref _=>cases r;rfl
 | ty _=>cases r;rfl
theorem RelV.inj {x y:V}{u:Value}(r:RelV x u)(q:RelV y u):x=y:=YI (r.abs.symm.trans q.abs)
theorem Vals.inj:∀{xs ys:List V} {us:2e5},Vals xs us->Vals ys us->xs=ys
 | _,_,_,.nil,.nil=>rfl
 | _,_,_,.cons r t,.cons r' t'=>by rw[r.inj r',Vals.inj t t']
section
variable {X:Cx}{pins:1e6}{σ:St}{H:Hp}{s:Shared}{a:Addr}{xs ys:List V}
theorem SqL.of {K:W.Frag}(h:H a=some (.lst xs)):SqL K H a xs:=.inl (.inl h)
theorem Inv.list (I:1e7)(h:SqL X.K H a xs):∃its:List Value,Vals xs its/\PlainL s.heap a its.toArray/\xs.length<=sizeLine:=by
 rcases h with h | ⟨o,its,n,hk,hc,hd,hs,hz,r⟩
 ·obtain ⟨z,its,n,r,e⟩:=h.ok I.hok
  exact ⟨its,r,⟨_,n,e,rfl,rfl,rfl⟩,z⟩
 ·refine ⟨its.toList,r,⟨o,n,I.kIn a o hk,hc,hd,by simpa using hs⟩,?_⟩
  have e:=r.length
  simp only[YK] at e
  lia
theorem Inv.tuple (I:1e7)(h:SqT X.K H a xs):∃its:List Value,Vals xs its/\IsTup s.heap a its.toArray/\xs.length<=sizeLine:=by
 rcases h with h | ⟨o,its,n,hk,hc,hs,hz,r⟩
 ·obtain ⟨z,its,r,p⟩:=h.ok I.hok
  exact ⟨its,r,p,z⟩
 ·refine ⟨its.toList,r,⟨o,I.kIn a o hk,hc,n,by simpa using hs⟩,?_⟩
  have e:=r.length
  simp only[YK] at e
  lia
theorem Inv.list_inj (I:1e7)(h:SqL X.K H a xs)(h':SqL X.K H a ys):xs=ys:=by
 obtain ⟨its,r,⟨o,n,e,_,_,d⟩,_⟩:=I.list h
 obtain ⟨its',r',⟨o',n',e',_,_,d'⟩,_⟩:=I.list h'
 rw[e] at e';cases e'
 rw[d] at d'
 injection d' with d1 _
 have:its=its':=by simpa using congrArg Array.toList d1
 subst this
 exact r.inj r'
theorem Inv.tuple_inj (I:1e7)(h:SqT X.K H a xs)(h':SqT X.K H a ys):xs=ys:=by
 obtain ⟨its,r,⟨o,e,_,n,d⟩,_⟩:=I.tuple h
 obtain ⟨its',r',⟨o',e',_,n',d'⟩,_⟩:=I.tuple h'
 rw[e] at e';cases e'
 rw[d] at d'
 injection d' with d1 _
 have:its=its':=by simpa using congrArg Array.toList d1
 subst this
 exact r.inj r'
end
abbrev Cx.wish (X:Cx)(E:1e1):Cx:={ X with xe:=E }
abbrev Cx.nox (X:Cx):Cx:=X.wish fun _ _=>False
theorem Cx.Ok.wish {X:Cx}(ok:X.Ok)(E:1e1):(X.wish E).Ok:=
 ⟨ok.mod,ok.kind,ok.glob,ok.blt,ok.above,ok.inj,ok.has,ok.cab,ok.hd,ok.frames,ok.stk,ok.exf,ok.bs,ok.bsz,ok.noex,ok.exfs,ok.funs,ok.frf⟩
theorem Cx.Ok.unwish {X:Cx}{E:1e1}(ok:(X.wish E).Ok):X.Ok:=
 ⟨ok.mod,ok.kind,ok.glob,ok.blt,ok.above,ok.inj,ok.has,ok.cab,ok.hd,ok.frames,ok.stk,ok.exf,ok.bs,ok.bsz,ok.noex,ok.exfs,ok.funs,ok.frf⟩
section
variable {X:Cx}{pins:1e6}{σ:St}{H:Hp}{s:Shared}{E:1e1}
theorem Inv.wish (I:1e7)(E:1e1):Inv (X.wish E) pins σ H s:=⟨I.ok.wish E,I.os,I.bare,I.base,I.loc,I.cell,I.free,I.freeC,I.pin,I.hok,I.len⟩
theorem Inv.unwish (I:Inv (X.wish E) pins σ H s):Inv X pins σ H s:=⟨I.ok.unwish,I.os,I.bare,I.base,I.loc,I.cell,I.free,I.freeC,I.pin,I.hok,I.len⟩
theorem SP.unwish {D:Ends}{f:Flow}{s':Shared}(h:SP (X.wish E) pins D f s'):SP X pins D f s':=by
 cases f with
 | next=>obtain ⟨σ',H',I,q⟩:=h;exact ⟨σ',H',I.unwish,q⟩
 | brk=>obtain ⟨σ',H',I,q⟩:=h;exact ⟨σ',H',I.unwish,q⟩
 | cont=>obtain ⟨σ',H',I,q⟩:=h;exact ⟨σ',H',I.unwish,q⟩
 | ret u=>obtain ⟨v,σ',H',I,r,q⟩:=h;exact ⟨v,σ',H',I.unwish,r,q⟩
theorem PSs.nox {st:List Stmt}{t:TS}(h:PSs X.nox st t):PSs X st t:=fun pins s σ H D I hw=>
 Y5 (h pins s σ H D (I.wish _) hw) (fun _ _ q=>q.unwish) fun _ _ z=>WW z
end
section
variable {X:Cx}{st:Stmt}{rest:List Stmt}{t u:TS}{e:Expr}{te:TE}{pos:Pos}
def tNext:TS:=fun D σ H=>D.nx σ H
def tSeq (t u:TS):TS:=fun D σ H=>t { D with nx:=u D } σ H
theorem pss_nil:PSs X [] tNext:=fun _ _ σ H _ I h=>Ur ⟨σ,H,I,h⟩
theorem Zcy (h1:PS X st t)(h2:PSs X rest u):PSs X (st::rest) (tSeq t u):=by
 intro pins s σ H D I h
 refine wpAny_execs_cons (thn (h1 pins s σ H { D with nx:=u D } I h) fun f s1 q=>?_)
 cases f with
 | next=>
  obtain ⟨σ',H',I',q⟩:=q
  exact h2 pins s1 σ' H' D I' q
 | ret v=>exact q
 | brk=>exact q
 | cont=>exact q
theorem pss_one (h1:PS X st t):PSs X [st] t:=by
 intro pins s σ H D I h
 refine wpAny_execs_cons (thn (h1 pins s σ H D I h) fun f s1 q=>?_)
 cases f with
 | next=>exact Ur q
 | ret v=>exact q
 | brk=>exact q
 | cont=>exact q
theorem Inv.quiet {pins:1e6}{σ:St}{H:Hp}{s:Shared}(I:1e7):interactive X.env=false:=by simp[interactive,I.ok.kind]
def tDrop (te:TE):TS:=fun D σ H=>te σ H fun _ H1=>D.nx σ H1
theorem ps_expr (he:PE X e te)(hs:Wv e none pos.line X.env=pure false:=by rfl):PS X (.Expr e pos) (tDrop te):=by
 intro pins s σ H D I h
 exact wpAny_Expr_any (thn (he pins s σ H _ I h) fun v s1 ⟨x,H1,I1,r1,q1⟩=>⟨σ,H1,I1,q1⟩) I.quiet hs
def tRet (te:TE):TS:=fun D σ H=>te σ H D.rt
theorem ps_ret (he:PE X e te):PS X (.Return (some e) pos) (tRet te):=by
 intro pins s σ H D I h
 exact wpAny_Return_some (thn (he pins s σ H _ I h) fun v s1 ⟨x,H1,I1,r1,q1⟩=>⟨x,σ,H1,I1,r1,q1⟩)
def tIfS (c:TT)(t u:TS):TS:=fun D σ H=>c σ H fun b H1=>if b=true then t D σ H1 else u D σ H1
theorem ps_if {c:Expr}{a b:List Stmt}{tc:TT}(hc:PT X c tc)(ha:PSs X a t)(hb:PSs X b u):PS X (.If c a b pos) (tIfS tc t u):=by
 intro pins s σ H D I h
 refine wpAny_If (thn (hc pins s σ H _ I h) fun d s1 h_=>?_)
 obtain ⟨H1,I1,q1⟩:=h_
 cases d with
 | true=>exact ha pins s1 σ H1 D I1 q1
 | false=>exact hb pins s1 σ H1 D I1 q1
end
abbrev TG:=V->St->Hp->(St->Hp->Prop)->Prop
abbrev TGs:=List V->St->Hp->(St->Hp->Prop)->Prop
def PG (X:Cx)(target:Expr)(t:TG):Prop:=
 ∀(pins:1e6) (s:Shared) (σ:St) (H:Hp) (v:V) (u:Value) (Q:St->Hp->Prop),Inv X pins σ H s->RelV v u->t v σ H Q->
  wpAny 2e0 X.A (assign target X.env u) (fun _ s'=>∃σ' H',Inv X pins σ' H' s'/\Q σ' H') X.xe s
def PGs (X:Cx)(ts:3e2)(t:TGs):Prop:=
 ∀(pins:1e6) (s:Shared) (σ:St) (H:Hp) (vs:List V) (us:2e5) (Q:St->Hp->Prop),Inv X pins σ H s->Vals vs us->t vs σ H Q->
  wpAny 2e0 X.A (assignInOrder ((WX ts X.env).map (·.2)) us) (fun _ s'=>∃σ' H',Inv X pins σ' H' s'/\Q σ' H') X.xe s
abbrev TSet:=V->V->V->Hp->(Hp->Prop)->Prop
def PSet (X:Cx)(t:TSet):Prop:=
 ∀(pins:1e6) (s:Shared) (σ:St) (H:Hp) (o i v:V) (ov iv u:Value) (Q:Hp->Prop),Inv X pins σ H s->RelV o ov->RelV i iv->RelV v u->t o i v H Q->
  wpAny 2e0 X.A (setItem ov iv u) (fun _ s'=>∃H',Inv X pins σ H' s'/\Q H') X.xe s
section
variable {X:Cx}{pos:Pos}
def gName (i:Nat):TG:=fun v σ H Q=>Q (σ.set i (some v)) H
theorem pg_name {i:Nat}{x:Str}(hN:X.N.Nodup)(hi:X.N[i]? = some x)(hx:Loc X.env.scope x)(hf:5e1:=by first | exact .inl rfl | exact .inr rfl | assumption):PG X (.Name x pos) (gName i):=by
 intro pins s σ H v u Q I r h
 exact wpAny_assign_Name (store_ok I hN hi hx r (fun s' I'=>⟨_,H,I',h⟩) hf)
def gNil:TGs:=fun vs σ H Q=>vs=[]/\Q σ H
def gCons (t:TG)(u:TGs):TGs:=fun vs σ H Q=>∃v r,vs=v::r/\t v σ H fun σ' H'=>u r σ' H' Q
theorem pgs_nil:PGs X [] gNil:=by
 intro pins s σ H vs us Q I r h
 obtain ⟨e,h⟩:=h
 subst e
 cases r
 exact assignInOrder_nil ⟨σ,H,I,h⟩
theorem pgs_cons {e:Expr}{es:3e2}{t:TG}{u:TGs}(h1:PG X e t)(h2:PGs X es u)
  (hs:(WX 4e6 X.env).map (·.2)=assign e X.env::(WX es X.env).map (·.2):=by rfl):PGs X 4e6 (gCons t u):=by
 intro pins s σ H vs us Q I r h
 obtain ⟨v,vr,e1,h⟩:=h
 subst e1
 cases r with
 | cons r rr=>
  rw[hs]
  refine assignInOrder_cons (thn (h1 pins s σ H _ _ _ I r h) fun _ s1 h_=>?_)
  obtain ⟨σ1,H1,I1,q1⟩:=h_
  exact h2 pins s1 σ1 H1 _ _ Q I1 rr q1
def gTup (K:W.Frag)(n:Nat)(t:TGs):TG:=fun v σ H Q=>∃a xs,v=.ref a/\SqT K H a xs/\xs.length=n/\t xs σ H Q
theorem pg_tup {es:3e2}{k:Nat}{t:TGs}{n:Nat}(hc:5e2)(h:PGs X es t)
  (hn:(WX es X.env).length=n:=by rfl) (hst:(WX es X.env).findIdx? (·.1)=none:=by rfl):PG X (.Tuple es k pos) (gTup X.K n t):=by
 intro pins s σ H v u Q I r hw
 obtain ⟨a,xs,e1,hq,hl,hw⟩:=hw
 subst e1
 cases r
 obtain ⟨its,rv,ht,hz⟩:=I.tuple hq
 refine assign_Tuple_tuple (I.ok.hd hc) ht (by simp[hn,←hl,rv.length]) hst fun h' hx=>?_
 have I1:Inv X pins σ H { s with heap:=h' }:=I.kept (t':=s.toks) fun b o e=>hx b o (Yt (Yq e)) e
 exact h pins _ σ H xs _ Q I1 (by simpa using rv) hw
def gSub (to ti:TE)(t:TSet):TG:=fun v σ H Q=>to σ H fun o H1=>ti σ H1 fun i H2=>t o i v H2 fun H3=>Q σ H3
theorem pg_sub {o i:Expr}{to ti:TE}{t:TSet}(ho:PE X o to)(hi:PE X i ti)(hs:PSet X t)
  (ha:∀v,assign (.Subscript o i pos) X.env v=(do
   let ov ←U2 [v] (eval o X.env)
   let iv ←U2 [v,ov] (eval i X.env)
   standAt pos
   U2 [v,ov,iv] (setItem ov iv v)
   release [v,ov,iv] []):=by intro _;rfl):PG X (.Subscript o i pos) (gSub to ti t):=by
 intro pins s σ H v u Q I r h
 rw[ha]
 refine Ya (Xa (thn (ho pins s σ H _ I h) fun ov s1 h_=>?_))
 obtain ⟨x,H1,I1,r1,q1⟩:=h_
 refine Ya (Xa (thn (hi pins s1 σ H1 _ I1 q1) fun iv s2 h_=>?_))
 obtain ⟨y,H2,I2,r2,q2⟩:=h_
 refine Ya (WI (Ya (Xa (thn (hs pins s2 σ H2 x y v ov iv u _ I2 r1 r2 r q2) fun _ s3 h_=>?_))))
 obtain ⟨H3,I3,q3⟩:=h_
 exact wpAny_release ⟨σ,H3,I3,q3⟩
def tAsg (te:TE)(g:TG):TS:=fun D σ H=>te σ H fun x H1=>g x σ H1 D.nx
theorem ps_asg {tg e:Expr}{te:TE}{g:TG}(he:PE X e te)(hg:PG X tg g)(hs:swapsWithSole [tg] e pos.line X.env=pure false:=by rfl)(hw:swappedStores [tg] e X.env=pure none:=by rfl)
  (h1:(WX [tg] X.env).map (·.2)=[assign tg X.env]:=by rfl):PS X (.Assign [tg] e pos) (tAsg te g):=by
 intro pins s σ H D I h
 refine wpAny_Assign_stores (thn (he pins s σ H _ I h) fun v s1 ⟨x,H1,I1,r1,q1⟩=>?_) hs hw
 rw[h1]
 exact thn (hg pins s1 σ H1 x v _ I1 r1 q1) fun _ s2 q=>q
theorem ps_set {i:Nat}{x:Str}{e:Expr}{te:TE}{pos':Pos}(hN:X.N.Nodup)(hi:X.N[i]? = some x)(hx:Loc X.env.scope x)(he:PE X e te)(hs:Wv e (some (.Name x pos')) pos.line X.env=pure false:=by rfl)(hf:5e1:=by first | exact .inl rfl | exact .inr rfl | assumption):
  PS X (.Assign [.Name x pos'] e pos) (tAsg te (gName i)):=by
 intro pins s σ H D I h
 refine wpAny_Assign_Name (thn (he pins s σ H _ I h) fun v s1 ⟨y,H1,I1,r1,q1⟩=>?_) hs
 exact store_ok I1 hN hi hx r1 (fun s2 I2=>⟨_,H1,I2,q1⟩) hf
def tWhile (c:TT)(tb:TS):TS:=fun D σ H=>∃W:Nat->St->Hp->Prop,(∃m,W m σ H)/\∀m σ H,W m σ H->
 c σ H fun b H1=>if b=true then ∃N:St->Hp->Prop,(∀σ' H',N σ' H'->∃m',m' < m/\W m' σ' H')/\tb { D with nx:=N,ct:=N,bk:=D.nx } σ H1 else D.nx σ H1
theorem ps_while {c:Expr}{body:List Stmt}{tc:TT}{tb:TS}(hp:UU 2e0 X.A X.env X.xe)(hc:PT X c tc)(hb:PSs X body tb):PS X (.While c body [] pos) (tWhile tc tb):=by
 intro pins s σ H D I h
 obtain ⟨W,⟨m0,w0⟩,turn⟩:=h
 refine wpAny_While (codeAny_whileLoop (fun n s'=>∃σ' H',Inv X pins σ' H' s'/\W n σ' H') ?_ m0 ⟨σ,H,I,w0⟩)
 rintro n s1 ⟨σ1,H1,I1,w1⟩
 refine Ww hp (thn (hc pins s1 σ1 H1 _ I1 (turn n σ1 H1 w1)) fun b s2 h_=>?_)
 obtain ⟨H2,I2,q2⟩:=h_
 cases b with
 | true=>
  obtain ⟨N,hN,q2⟩:=q2
  rw[if_pos rfl]
  refine Ww hp (thn (hb pins s2 σ1 H2 _ I2 q2) fun f s3 q3=>?_)
  cases f with
  | next=>
   obtain ⟨σ3,H3,I3,n3⟩:=q3
   obtain ⟨m',hm,w3⟩:=hN σ3 H3 n3
   exact ⟨m',hm,σ3,H3,I3,w3⟩
  | cont=>
   obtain ⟨σ3,H3,I3,n3⟩:=q3
   obtain ⟨m',hm,w3⟩:=hN σ3 H3 n3
   exact ⟨m',hm,σ3,H3,I3,w3⟩
  | brk=>exact q3
  | ret v=>exact q3
 | false=>
  rw[if_neg YD]
  exact Ur ⟨σ1,H2,I2,q2⟩
end
structure It where
 go:Nat->Hp->Prop
 yld:Nat->Hp->V->Hp->Prop
 stop:Nat->Hp->Prop
def FpOk (X:Cx)(pins:1e6)(H:Hp)(b:Addr):Prop:=
 H b=none/\b≠X.env.locals/\b∉X.fs/\(b∈X.ex\/X.s₀.heap.objs.size<=b)/\(∀x c,X.env.cells.lookup x=some c->c≠b)/\∀p∈X.pn++pins,p.1≠b
theorem Inv.fpOk {X:Cx}{pins:1e6}{σ:St}{H H':Hp}{s:Shared}{b:Addr}(I:1e7)(hb:s.heap.objs.size<=b)(hn:H' b=none):FpOk X pins H' b:=by
 refine ⟨hn,X1 (Yo I.lt hb),I.nofs hb,.inr (YQ I.sz hb),fun x c e z=>?_,fun p hp z=>?_⟩
 ·obtain ⟨v,q⟩:=I.cell x c e
  exact absurd (Yo q.lt (by rw[z];exact hb)) (X8 _)
 ·exact absurd (Yo (Yq (I.pin p hp).1) (by rw[z];exact hb)) (X8 _)
structure Turn (P:Yy)(w:World)(K:W.Frag)(tg:Expr)(J:It)(fp:List Addr)(it:Addr)(tn:Nat->Heap->Prop):Prop where
 mem:it∈fp
 obj:∀i h,tn i h->∀b∈fp,∃o,h.get? b=some o/\∀v,o.data≠.cell v
 keep:∀i h h',tn i h->(∀b∈fp,∀o,h.get? b=some o->h'.get? b=some o)->tn i h'
 item:∀(X:Cx),X.prog=P->X.w=w->X.K=K->X.calm=true->∀(i:Nat) (pins:1e6) (s:Shared) (σ:St) (H:Hp) (E:1e1),Inv X pins σ H s->(∀b∈fp,FpOk X pins H b)->tn i s.heap->J.go i H->
  wpAny (model P w) X.A (pyNext (.ref it)) (fun r s1=>∃u,r=some u/\
   wpAny (model P w) X.A (X2 tg (.ref it) u) (fun _ s2=>∃x H',Inv X pins σ H' s2/\RelV x u/\J.yld i H x H'/\tn (i + 1) s2.heap/\∀b∈fp,H' b=none) E s1) E s
 done:∀(X:Cx),X.prog=P->X.w=w->X.K=K->X.calm=true->∀(i:Nat) (pins:1e6) (s:Shared) (σ:St) (H:Hp) (E:1e1),Inv X pins σ H s->(∀b∈fp,FpOk X pins H b)->tn i s.heap->J.stop i H->
  wpAny (model P w) X.A (pyNext (.ref it)) (fun r s1=>r=none/\Inv X pins σ H s1) E s
 self:∀(A:Around) (i:Nat) (s:Shared) (Q:1e1) (E:1e1),tn i s.heap->Q (.ref it) s->wpAny (model P w) A (pyIter (.ref it)) Q E s
abbrev TI:=St->Hp->(It->Hp->Prop)->Prop
def PIE (X:Cx)(pins:1e6)(σ:St)(tg:Expr)(R:It->Hp->Prop)(itv:Value)(s2:Shared):Prop:=
 ∃(it:Addr) (fp:2e2) (tn:Nat->Heap->Prop) (J:It) (H':Hp),itv=.ref it/\Inv X pins σ H' s2/\Turn X.prog X.w X.K tg J fp it tn/\tn 0 s2.heap/\(∀b∈fp,FpOk X pins H' b)/\R J H'
def PI (X:Cx)(tg iter:Expr)(wi:TI):Prop:=
 ∀(pins:1e6) (s:Shared) (σ:St) (H:Hp) (R:It->Hp->Prop),Inv X pins σ H s->wi σ H R->
  wpAny 2e0 X.A (eval iter X.env) (fun v s1=>wpAny 2e0 X.A (pyIter v) (PIE X pins σ tg R) X.xe s1) X.xe s
theorem go_of {M:Model}{A:Around}{E:1e1}{s:Shared}{tg:Expr}{it:Addr}{u:Value}{o:Obj}{n:String}{vs:Array Value}{Q:Unit->Shared->Prop}(ho:s.heap.get? it=some o)(hc:o.cls=.type n)(hd:o.data=.fields vs)
    (hn:["enumerate","zip","dict_itemiterator","dict_reverseitemiterator","odict_iterator","itertools.zip_longest","itertools.pairwise"].contains n=false) (hQ:Q () s):wpAny M A (X2 tg (.ref it) u) Q E s:=by
  unfold X2
  cases tg<;>first
    | exact Yc hQ
    | (cases u<;>first
        | exact Yc hQ
        | (refine Ya (wpAny_load ho ?_)
           rw[hc,hd]
           show wpAny M A (if (["enumerate","zip","dict_itemiterator","dict_reverseitemiterator","odict_iterator","itertools.zip_longest","itertools.pairwise"].contains n&&vs[0]?==some (rawInt _))=true then _ else _) Q E s
           rw[if_neg (by intro h;rw[hn,Bool.false_and] at h;cases h)]
           exact Yc hQ))
def Itl (K:W.Frag)(a:Addr):It:=
 ⟨fun i H=>∃xs x,SqL K H a xs/\xs[i]? = some x,fun i H x H'=>H'=H/\∀xs,SqL K H a xs->xs[i]? = some x,fun i H=>∃xs,SqL K H a xs/\xs.length<=i⟩
def Itt (K:W.Frag)(a:Addr):It:=
 ⟨fun i H=>∃xs x,SqT K H a xs/\xs[i]? = some x,fun i H x H'=>H'=H/\∀xs,SqT K H a xs->xs[i]? = some x,fun i H=>∃xs,SqT K H a xs/\xs.length<=i⟩
def Itr (lo:Int)(n:Nat):It:=⟨fun i _=>i < n,fun i H x H'=>H'=H/\x=.int (lo + i),fun i _=>n<=i⟩
theorem turn_list {P:Yy}{w:World}{K:W.Frag}{tg:Expr}(a it:Addr):Turn P w K tg (Itl K a) [it] it (fun i h=>h.IsListIter it a i) where
 mem:=by simp
 obj:=fun i h st b hb=>by
  have e:b=it:=by simpa using hb
  subst e
  obtain ⟨o,e,c,d⟩:=st
  exact ⟨o,e,fun v z=>by rw[d] at z;cases z⟩
 keep:=fun i h h' st k=>st.at fun o e=>k it 3e0 o e
 item:=by
  sleep 1
  obtain ⟨xs,x,hq,hx⟩:=hg
  obtain ⟨its,rv,p,hz⟩:=I.list hq
  obtain ⟨u,hu,ru⟩:=rv.get hx
  sleep 4
  refine wpAny_pyNext_list_item st p.isList (x:=u) (by simpa using hu) fun h' st' sb=>?_
  have I1:Inv X pins σ H { s with heap:=h' }:=I.turned (t':=s.toks) (fun b o hb e=>(sb.2 b hb).trans e) f0 f1 f3 f4 f5
  obtain ⟨o,e,c,d⟩:=id st'
  exact ⟨u,rfl,go_of (s:={ s with heap:=h' }) e c d (by decide) ⟨x,H,I1,ru,⟨rfl,fun ys hy=>by rw[I.list_inj hy hq];exact hx⟩,st',fun b hb=>(hf b hb).1⟩⟩
 done:=by
  sleep 1
  obtain ⟨xs,hq,hx⟩:=hg
  obtain ⟨its,rv,p,hz⟩:=I.list hq
  sleep 4
  have hl:=rv.length
  exact wpAny_pyNext_list_end (I.ok.hd hc) st p.isList (by simp;lia) fun h' eb=>⟨rfl,I.turned (t':=s.toks) (fun b o hb e=>eb b o hb e) f0 f1 f3 f4 f5⟩
 self:=fun _ _ _ _ _ st h=>wpAny_pyIter_listiter st h
theorem turn_tuple {P:Yy}{w:World}{K:W.Frag}{tg:Expr}(a it:Addr):Turn P w K tg (Itt K a) [it] it (fun i h=>h.IsTupleIter it a i) where
 mem:=by simp
 obj:=fun i h st b hb=>by
  have e:b=it:=by simpa using hb
  subst e
  obtain ⟨o,e,c,d⟩:=st
  exact ⟨o,e,fun v z=>by rw[d] at z;cases z⟩
 keep:=fun i h h' st k=>st.at fun o e=>k it 3e0 o e
 item:=by
  sleep 1
  obtain ⟨xs,x,hq,hx⟩:=hg
  obtain ⟨its,rv,p,hz⟩:=I.tuple hq
  obtain ⟨u,hu,ru⟩:=rv.get hx
  sleep 4
  refine wpAny_pyNext_tuple_item st (show s.heap.IsTuple a its.toArray from p) (x:=u) (by simpa using hu) fun h' st' sb=>?_
  have I1:Inv X pins σ H { s with heap:=h' }:=I.turned (t':=s.toks) (fun b o hb e=>(sb.2 b hb).trans e) f0 f1 f3 f4 f5
  obtain ⟨o,e,c,d⟩:=id st'
  exact ⟨u,rfl,go_of (s:={ s with heap:=h' }) e c d (by decide) ⟨x,H,I1,ru,⟨rfl,fun ys hy=>by rw[I.tuple_inj hy hq];exact hx⟩,st',fun b hb=>(hf b hb).1⟩⟩
 done:=by
  sleep 1
  obtain ⟨xs,hq,hx⟩:=hg
  obtain ⟨its,rv,p,hz⟩:=I.tuple hq
  sleep 4
  have hl:=rv.length
  exact wpAny_pyNext_tuple_end (I.ok.hd hc) st (show s.heap.IsTuple a its.toArray from p) (by simp;lia) fun h' eb=>⟨rfl,I.turned (t':=s.toks) (fun b o hb e=>eb b o hb e) f0 f1 f3 f4 f5⟩
 self:=fun _ _ _ _ _ st h=>wpAny_pyIter_tupleiter st h
theorem turn_range {P:Yy}{w:World}{K:W.Frag}{tg:Expr}(it:Addr)(lo:Int)(n:Nat):Turn P w K tg (Itr lo n) [it] it (fun i h=>IsRangeIter h it (lo + (i:Nat) * 1) ((n:Int) - (i:Nat)) 1) where
 mem:=by simp
 obj:=fun i h st b hb=>by
  have e:b=it:=by simpa using hb
  subst e
  exact ⟨_,st,fun v z=>by
   have z':Data.fields _=Data.cell v:=z
   cases z'⟩
 keep:=fun i h h' st k=>k it 3e0 _ st
 item:=by
  sleep 1
  sleep 4
  have W:=Walks.range (prog:=X.prog) (w:=X.w) (I.ok.hd hc) it lo 1 n
  refine W.item i s _ _ hg st fun v h' tk hv st' kk=>?_
  obtain ⟨t,rfl⟩:=hv
  have I1:Inv X pins σ H { s with heap:=h',toks:=tk }:=I.turned (fun b o hb e=>kk b o (by simpa using hb) e) f0 f1 f3 f4 f5
  refine ⟨_,rfl,go_of (s:={ s with heap:=h',toks:=tk }) (n:="range_iterator") st' rfl rfl (by decide) ⟨.int (lo + i),H,I1,⟨t,?_⟩,⟨rfl,rfl⟩,st',fun b hb=>(hf b hb).1⟩⟩
  rw[Int.mul_one]
 done:=by
  sleep 1
  sleep 4
  exact wpAny_pyNext_range_end (I.ok.hd hc) st (by have:n<=i:=hg;lia) fun h' eb=>⟨rfl,I.turned (t':=s.toks) (fun b o hb e=>eb b o hb e) f0 f1 f3 f4 f5⟩
 self:=fun _ _ _ _ _ st h=>wpAny_pyIter_rangeiter st h
section
variable {X:Cx}{tg:Expr}
theorem range_it {pins:1e6}{σ:St}{H:Hp}{s:Shared}{R:It->Hp->Prop}{E:1e1}{lo hi:Int}{t u v:Tok}{tk:Nat}(I:1e7)(h1:-(2 ^ 62)<=lo)(h2:lo < 2 ^ 62)(h3:-(2 ^ 62)<=hi)(h4:hi < 2 ^ 62)
  (q:R (Itr lo (hi - lo).toNat) H):wpAny 2e0 X.A (pyIter 4e5) (PIE X pins σ tg R) E { s with heap:=s.heap.push { cls:=.type "range",data:=.fields #[.int lo t,.int hi u,.int 1 v] },toks:=tk }:=by
 refine wpAny_pyIter_range (IsRange.new ..) (small_one h1 h2 h3 h4) ?_
 have I1:Inv X pins σ H { s with heap:=s.heap.push { cls:=.type "range",data:=.fields #[.int lo t,.int hi u,.int 1 v] },toks:=tk }:=I.kept fun b o e=>Yb _ e
 refine ⟨(s.heap.push { cls:=.type "range",data:=.fields #[.int lo t,.int hi u,.int 1 v] }).objs.size,[(s.heap.push { cls:=.type "range",data:=.fields #[.int lo t,.int hi u,.int 1 v] }).objs.size],_,_,H,rfl,
  I1.kept (t':=tk) fun b o e=>Yb _ e,turn_range _ lo (hi - lo).toNat,?_,fun b hb=>?_,q⟩
 ·have e1:lo + ((0:Nat):Int) * 1=lo:=by simp
  have e2:(((hi - lo).toNat:Nat):Int) - ((0:Nat):Int)=Builtin.Range.rangeSize lo hi 1:=by rw[rangeSize_one];split<;>lia
  show IsRangeIter _ _ (lo + ((0:Nat):Int) * 1) ((((hi - lo).toNat:Nat):Int) - ((0:Nat):Int)) 1
  rw[e1,e2]
  exact Ye _ rfl
 ·have e:b=(s.heap.push { cls:=.type "range",data:=.fields #[.int lo t,.int hi u,.int 1 v] }).objs.size:=by simpa using hb
  subst e
  exact I1.fpOk (Yi _) (I1.hok.fresh (Yi _))
def iRng1 (ta:TA):TI:=fun σ H R=>ta σ H fun vs H1=>∃j:Int,vs=[.int j]/\-(2 ^ 62)<=j/\j < 2 ^ 62/\R (Itr 0 j.toNat) H1
theorem pi_range1 {a:Expr}{ta:TA}{p pos:Pos}(hg:Gl X "range")(hm:X.mg "range"=none)(ha:PA X [a] ta)(hs:Ys [a] X.env=[(false,eval a X.env)]:=by rfl):PI X tg (.Call (.Name "range" p) [a] [] pos) (iRng1 ta):=by
 intro pins s σ H R I h
 refine Call_ (Zc6 I hg hm boot_range (XI (thn (ha pos pins s σ H _ I h) fun us s1 ⟨vs,H1,I1,r1,q1⟩=>?_) hs rfl))
 obtain ⟨j,e,q1,q2,q⟩:=q1
 subst e
 cases r1 with
 | cons r rr=>
  cases rr
  obtain ⟨t,rfl⟩:=r
  exact call_range_1 (range_it I1 1e2 1e2 q1 q2 (by simpa using q))
def tFor (wi:TI)(g:TG)(tb:TS):TS:=fun D σ H=>wi σ H fun J H1=>∃W:Nat->Nat->St->Hp->Prop,(∃m,W 0 m σ H1)/\∀i m σ H,W i m σ H->
 (J.stop i H/\D.nx σ H)\/(J.go i H/\∃N:St->Hp->Prop,(∀σ' H',N σ' H'->∃m',m' < m/\W (i + 1) m' σ' H')/\∀x H',J.yld i H x H'->g x σ H' fun σ2 H2=>tb { D with nx:=N,ct:=N,bk:=D.nx } σ2 H2)
def pinsAt (fp:2e2)(h:Heap):List (Addr×Obj):=fp.filterMap fun b=>(h.get? b).map fun o=>(b,o)
theorem ZaC {fp:2e2}{h:Heap}{b:Addr}{o:Obj}(hb:b∈fp)(e:h.get? b=some o):(b,o)∈pinsAt fp h:=UG.mpr ⟨b,hb,by rw[e];rfl⟩
theorem of_pinsAt {fp:2e2}{h:Heap}{p:Addr×Obj}(hp:p∈pinsAt fp h):p.1∈fp/\h.get? p.1=some p.2:=by
 obtain ⟨b,hb,e⟩:=UG.mp hp
 cases q:h.get? b with
 | none=>rw[q] at e;cases e
 | some o=>
  rw[q] at e
  have e':(b,o)=p:=YI e
  subst e'
  exact ⟨hb,q⟩
theorem Inv.pinned {pins:1e6}{σ:St}{H:Hp}{s:Shared}{fp:2e2}(I:1e7)(hf:∀b∈fp,FpOk X pins H b)(ho:∀b∈fp,∃o,s.heap.get? b=some o/\∀v,o.data≠.cell v):Inv X (pins++pinsAt fp s.heap) σ H s:=
 I.pins_of fun p hp=>(YU.mp hp).elim (fun z=>I.pin p (Yg _ z)) fun z=>by
  obtain ⟨hb,e⟩:=of_pinsAt z
  obtain ⟨f0,f1,f2,_⟩:=hf p.1 hb
  obtain ⟨o,e',d⟩:=ho p.1 hb
  rw[e] at e';cases e'
  exact ⟨e,f0,f1,f2,d⟩
theorem Inv.unpinned {pins pl:1e6}{σ:St}{H:Hp}{s:Shared}(I:Inv X (pins++pl) σ H s):Inv X pins σ H s:=I.pins_of fun p hp=>I.pin p (Yg _ (YY _ hp))
theorem ps_for {iter:Expr}{body:List Stmt}{wi:TI}{g:TG}{tb:TS}{pos:Pos}(hp:UU 2e0 X.A X.env X.xe)(hc:5e2)(hi:PI X tg iter wi)(hg:PG X tg g)(hb:PSs X body tb)
  (hs:7e7:=by intro _;rfl):PS X (.For tg iter body [] pos) (tFor wi g tb):=by
 intro pins s σ H D I h
 refine wpAny_For (thn (hi pins s σ H _ I h) fun v s1 h1=>thn h1 fun itv s2 h2=>?_) hs
 obtain ⟨it,fp,tn,J,H2,e,I2,T,st2,f2,W,⟨m0,w0⟩,turn⟩:=h2
 subst e
 have stat:∀{H':Hp},8e7->∀b∈fp,FpOk X pins H' b:=fun hn b hb=>⟨hn b hb,(f2 b hb).2⟩
 refine codeAny_forLoop_any (fun n s'=>∃i σ' H',Inv X pins σ' H' s'/\tn i s'.heap/\8e7/\W i n σ' H') ?_ m0 ⟨0,σ,H2,I2,st2,fun b hb=>(f2 b hb).1,w0⟩
 rintro n s3 ⟨i,σ3,H3,I3,st3,fr3,w3⟩
 rcases turn i n σ3 H3 w3 with ⟨stop,qn⟩ | ⟨go,N,hN,step⟩
 ·refine Ww hp (thn (T.done X rfl rfl rfl hc i pins s3 σ3 H3 X.xe I3 (stat fr3) st3 stop) fun r s4 h_=>?_)
  obtain ⟨hr,I4⟩:=h_
  subst hr
  exact Ur ⟨σ3,H3,I4,qn⟩
 ·refine Ww hp (thn (T.item X rfl rfl rfl hc i pins s3 σ3 H3 X.xe I3 (stat fr3) st3 go) fun r s4 h_=>?_)
  obtain ⟨u,hr,h4⟩:=h_
  subst hr
  refine Ww hp (thn h4 fun _ s5 h_=>?_)
  obtain ⟨x,H5,I5,r5,y5,st5,fr5⟩:=h_
  have I5':=I5.pinned (stat fr5) (T.obj _ _ st5)
  refine Ww hp (thn (hg _ s5 σ3 H5 x u _ I5' r5 (step x H5 y5)) fun _ s6 h_=>?_)
  obtain ⟨σ6,H6,I6,q6⟩:=h_
  refine Ww hp (thn (hb _ s6 σ6 H6 _ I6 q6) fun f s7 q7=>?_)
  have again:∀{σ7:St} {H7:Hp},Inv X (pins++pinsAt fp s5.heap) σ7 H7 s7->N σ7 H7->∃m,m < n/\∃i σ' H',Inv X pins σ' H' s7/\tn i s7.heap/\8e7/\W i m σ' H':=fun {σ7 H7} I7 n7=>by
   obtain ⟨m',hm,w7⟩:=hN σ7 H7 n7
   refine ⟨m',hm,i + 1,σ7,H7,I7.unpinned,T.keep _ _ _ st5 fun b hb o e=>(I7.pin (b,o) (Yg _ (Yg _ (ZaC hb e)))).1,fun b hb=>?_,w7⟩
   obtain ⟨o,e,d⟩:=T.obj _ _ st5 b hb
   exact (I7.pin (b,o) (Yg _ (Yg _ (ZaC hb e)))).2.1
  cases f with
  | next=>obtain ⟨σ7,H7,I7,n7⟩:=q7;exact again I7 n7
  | cont=>obtain ⟨σ7,H7,I7,n7⟩:=q7;exact again I7 n7
  | brk=>obtain ⟨σ7,H7,I7,q7⟩:=q7;exact ⟨σ7,H7,I7.unpinned,q7⟩
  | ret v=>obtain ⟨x7,σ7,H7,I7,r7,q7⟩:=q7;exact ⟨x7,σ7,H7,I7.unpinned,r7,q7⟩
end
abbrev R2:=V->V->Hp->VK->Prop
def OpR (X:Cx)(f:Value->Value->Sem Value)(r:R2):Prop:=
 ∀(pins:1e6) (s:Shared) (σ:St) (H:Hp) (x y:V) (v u:Value) (Q:VK),Inv X pins σ H s->RelV x v->RelV y u->r x y H Q->
  wpAny 2e0 X.A (f v u) (EP X pins σ Q) X.xe s
def UnR (X:Cx)(f:Value->Sem Value)(r:V->Hp->VK->Prop):Prop:=
 ∀(pins:1e6) (s:Shared) (σ:St) (H:Hp) (x:V) (v:Value) (Q:VK),Inv X pins σ H s->RelV x v->r x H Q->
  wpAny 2e0 X.A (f v) (EP X pins σ Q) X.xe s
def CallR (X:Cx)(f:Value)(r:List V->Hp->VK->Prop):Prop:=
 ∀(pins:1e6) (s:Shared) (σ:St) (H:Hp) (xs:List V) (us:2e5) (Q:VK),Inv X pins σ H s->Vals xs us->r xs H Q->
  wpAny 2e0 X.A (call f us) (EP X pins σ Q) X.xe s
def TruR (X:Cx)(r:V->Hp->(Bool->Hp->Prop)->Prop):Prop:=
 ∀(pins:1e6) (s:Shared) (σ:St) (H:Hp) (x:V) (v:Value) (Q:Bool->Hp->Prop),Inv X pins σ H s->RelV x v->r x H Q->
  wpAny 2e0 X.A (truthy v) (TP X pins σ Q) X.xe s
def tOp (r:R2)(ta tb:TE):TE:=fun σ H Q=>ta σ H fun x H1=>tb σ H1 fun y H2=>r x y H2 Q
def tUn (r:V->Hp->VK->Prop)(ta:TE):TE:=fun σ H Q=>ta σ H fun x H1=>r x H1 Q
def rI (C:Int->Int->Prop)(g:Int->Int->V):R2:=fun x y H Q=>∃i j,x=.int i/\y=.int j/\C i j/\Q (g i j) H
def rI0 (g:Int->Int->V):R2:=fun x y H Q=>∃i j,x=.int i/\y=.int j/\Q (g i j) H
def rU (g:Int->V):V->Hp->VK->Prop:=fun x H Q=>∃i,x=.int i/\Q (g i) H
section
variable {X:Cx}{a b c:Expr}{ta tb tc:TE}{pos:Pos}
theorem binT (ha:PE X a ta)(hb:PE X b tb){pins:1e6}{s:Shared}{σ:St}{H:Hp}{R:V->V->Hp->Prop}(I:1e7)
  (h:ta σ H fun x H1=>tb σ H1 fun y H2=>R x y H2) {Q:1e1} {f:Value->Value->Sem Value}
  (hf:∀v u s2 x y H2,Inv X pins σ H2 s2->RelV x v->RelV y u->R x y H2->wpAny 2e0 X.A (f v u) Q X.xe s2):
  wpAny 2e0 X.A (eval a X.env) (fun v s₁=>wpAny 2e0 X.A (eval b X.env) (fun u s₂=>wpAny 2e0 X.A (f v u) Q X.xe s₂) X.xe s₁) X.xe s:=by
 refine thn (ha pins s σ H _ I h) fun v s1 h_=>?_
 obtain ⟨x,H1,I1,r1,q1⟩:=h_
 refine thn (hb pins s1 σ H1 _ I1 q1) fun u s2 h_=>?_
 obtain ⟨y,H2,I2,r2,q2⟩:=h_
 exact hf v u s2 x y H2 I2 r1 r2 q2
theorem pe_op {op:Operator}{r:R2}(ho:OpR X (Va op) r)(ha:PE X a ta)(hb:PE X b tb):PE X (.BinOp a op b pos) (tOp r ta tb):=by
 intro pins s σ H Q I h
 exact wpAny_BinOp (binT ha hb I h fun v u s2 x y H2 I2 rx ry q=>ho pins s2 σ H2 x y v u Q I2 rx ry q)
theorem pe_un {op:UnaryOp}{r:V->Hp->VK->Prop}(ho:UnR X (unaryOp op) r)(ha:PE X a ta):PE X (.UnaryOp op a pos) (tUn r ta):=by
 intro pins s σ H Q I h
 exact UnaryOp_ (thn (ha pins s σ H _ I h) fun v s1 ⟨x,H1,I1,r1,q1⟩=>ho pins s1 σ H1 x v Q I1 r1 q1)
theorem opI {f:Value->Value->Sem Value}{C:Int->Int->Prop}{g:Int->Int->Int}
  (rule:∀(i j:Int) (t u:Tok) (s:Shared) (Q:1e1) (E:1e1),C i j->Q (.int (g i j) s.toks) { s with toks:=s.toks + 1 }->wpAny (model X.prog X.w) X.A (f (.int i t) (.int j u)) Q E s):
  OpR X f (rI C fun i j=>.int (g i j)):=by
 sleep 3
 obtain ⟨i,j,rfl,rfl,hc,q⟩:=h
 obtain ⟨t,rfl⟩:=rx
 obtain ⟨t',rfl⟩:=ry
 exact rule i j t t' s _ _ hc ⟨.int (g i j),H,I.tok _,7e1,q⟩
theorem opI0 {f:Value->Value->Sem Value}{g:Int->Int->Int}
  (rule:∀(i j:Int) (t u:Tok) (s:Shared) (Q:1e1) (E:1e1),Q (.int (g i j) s.toks) { s with toks:=s.toks + 1 }->wpAny (model X.prog X.w) X.A (f (.int i t) (.int j u)) Q E s):
  OpR X f (rI0 fun i j=>.int (g i j)):=by
 sleep 3
 obtain ⟨i,j,rfl,rfl,q⟩:=h
 obtain ⟨t,rfl⟩:=rx
 obtain ⟨t',rfl⟩:=ry
 exact rule i j t t' s _ _ ⟨.int (g i j),H,I.tok _,7e1,q⟩
theorem opB0 {f:Value->Value->Sem Value}{g:Int->Int->Bool}
  (rule:∀(i j:Int) (t u:Tok) (s:Shared) (Q:1e1) (E:1e1),Q (.bool (g i j)) s->wpAny 2e0 X.A (f (.int i t) (.int j u)) Q E s):
  OpR X f (rI0 fun i j=>.bl (g i j)):=by
 sleep 3
 obtain ⟨i,j,rfl,rfl,q⟩:=h
 obtain ⟨t,rfl⟩:=rx
 obtain ⟨t',rfl⟩:=ry
 exact rule i j t t' s _ _ ⟨.bl (g i j),H,I,rfl,q⟩
def CPow (i j:Int):Prop:=0<=j/\j<=1000000/\i.natAbs < 2 ^ 64
def CMul (i j:Int):Prop:=(-(2 ^ 64) < i/\i < 2 ^ 64)\/(-(2 ^ 64) < j/\j < 2 ^ 64)
theorem CMul.ok {i j:Int}(h:CMul i j):IntMulOk i j:=by
 rcases h with ⟨h1,h2⟩ | ⟨h1,h2⟩
 ·exact .of_left (intBits_le_64 h1 h2)
 ·exact .of_right (intBits_le_64 h1 h2)
theorem op_add:OpR X (Va .Add) (rI0 fun i j=>.int (i + j)):=opI0 fun _ _ _ _ _ _ _ q=>add_int q
theorem op_sub:OpR X (Va .Sub) (rI0 fun i j=>.int (i - j)):=opI0 fun _ _ _ _ _ _ _ q=>sub_int q
theorem op_mul:OpR X (Va .Mult) (rI CMul fun i j=>.int (i * j)):=opI fun _ _ _ _ _ _ _ hc q=>mul_int q hc.ok
theorem op_mod:OpR X (Va .Mod) (rI (fun _ j=>0 < j) fun i j=>.int (i % j)):=opI fun i j _ _ _ _ _ hc q=>by
 have h1:(0:Int) < j:=hc
 exact mod_int' 1e2 (by rw[Int.fmod_eq_emod_of_nonneg i 1e2];exact q)
theorem op_pow:OpR X (Va .Pow) (rI CPow fun i j=>.int (i ^ j.toNat)):=opI fun _ _ _ _ _ _ _ hc q=>pow_int_small hc.1 hc.2.1 hc.2.2 q
theorem unI {f:Value->Sem Value}{g:Int->Int}
  (rule:∀(i:Int) (t:Tok) (s:Shared) (Q:1e1) (E:1e1),Q (.int (g i) s.toks) { s with toks:=s.toks + 1 }->wpAny (model X.prog X.w) X.A (f (.int i t)) Q E s):
  UnR X f (rU fun i=>.int (g i)):=by
 intro pins s σ H x v Q I rx h
 obtain ⟨i,rfl,q⟩:=h
 obtain ⟨t,rfl⟩:=rx
 exact rule i t s _ _ ⟨.int (g i),H,I.tok _,7e1,q⟩
theorem un_neg:UnR X (unaryOp .USub) (rU fun i=>.int (-i)):=unI fun _ _ _ _ _ q=>neg_int q
end
def scal:V->V->Bool
 | .non,.non=>true | .non,.int _=>true | .int _,.non=>true | .non,.bl _=>true | .bl _,.non=>true | .non,.str _=>true | .str _,.non=>true
 | .int _,.int _=>true | .bl _,.bl _=>true | .str _,.str _=>true | .byt _,.byt _=>true
 | .int _,.str _=>true | .str _,.int _=>true | .bl _,.str _=>true | .str _,.bl _=>true
 | _,_=>false
def rEq:R2:=fun x y H Q=>scal x y=true/\Q (.bl (decide (x=y))) H
theorem dec_int {i j:Int}:decide (V.int i=V.int j)=(i==j):=by
 rw[X3]
 simp
theorem dec_bl {i j:Bool}:decide (V.bl i=V.bl j)=(i==j):=by
 rw[X3]
 simp
theorem dec_str {i j:Str}:decide (V.str i=V.str j)=(i==j):=by
 rw[X3]
 simp
theorem dec_byt {i j:Array UInt8}:decide (V.byt i=V.byt j)=(i.toList==j.toList):=by
 rw[X3]
 cases i
 cases j
 simp
section
variable {X:Cx}{a b c:Expr}{ta tb tc:TE}{pos:Pos}
theorem ZaV {pins:1e6}{σ:St}{H:Hp}{s:Shared}{Q:VK}{k k':Bool}(I:1e7)(q:Q (.bl k) H)(e:k=k'):EP X pins σ Q (.bool k') s:=by
 subst e
 exact ⟨.bl k,H,I,rfl,q⟩
theorem op_eq:OpR X (X7 .Eq) rEq:=by
 sleep 3
 obtain ⟨hs,q⟩:=h
 cases x with
 | non=>
  cases rx
  cases y with
  | non=>cases ry;exact PySem.EqNone.eq_none_none (ZaV I q 3e0)
  | bl j=>cases ry;exact PySem.EqNone.eq_none_bool (ZaV I q 3e0)
  | int j=>obtain ⟨t',rfl⟩:=ry;exact PySem.EqNone.eq_none_int (ZaV I q 3e0)
  | str j=>obtain ⟨t',rfl⟩:=ry;exact PySem.EqNone.eq_none_str (ZaV I q 3e0)
  | _=>exact absurd (show false=true from hs) YD
 | bl i=>
  cases rx
  cases y with
  | non=>cases ry;exact PySem.EqNone.eq_bool_none (ZaV I q 3e0)
  | bl j=>cases ry;exact eq_bool (ZaV I q dec_bl)
  | str j=>obtain ⟨t',rfl⟩:=ry;exact PySem.EqMixed.eq_bool_str (ZaV I q 3e0)
  | _=>exact absurd (show false=true from hs) YD
 | int i=>
  obtain ⟨t,rfl⟩:=rx
  cases y with
  | non=>cases ry;exact PySem.EqNone.eq_int_none (ZaV I q 3e0)
  | int j=>obtain ⟨t',rfl⟩:=ry;exact eq_int (ZaV I q dec_int)
  | str j=>obtain ⟨t',rfl⟩:=ry;exact PySem.EqMixed.eq_int_str (ZaV I q 3e0)
  | _=>exact absurd (show false=true from hs) YD
 | str i=>
  obtain ⟨t,rfl⟩:=rx
  cases y with
  | non=>cases ry;exact PySem.EqNone.eq_str_none (ZaV I q 3e0)
  | bl j=>cases ry;exact PySem.EqMixed.eq_str_bool (ZaV I q 3e0)
  | int j=>obtain ⟨t',rfl⟩:=ry;exact PySem.EqMixed.eq_str_int (ZaV I q 3e0)
  | str j=>obtain ⟨t',rfl⟩:=ry;exact eq_str (ZaV I q dec_str)
  | _=>exact absurd (show false=true from hs) YD
 | byt i=>
  obtain ⟨t,rfl⟩:=rx
  cases y with
  | byt j=>obtain ⟨t',rfl⟩:=ry;exact W.eq_bytes (ZaV I q dec_byt)
  | _=>exact absurd (show false=true from hs) YD
 | _=>cases y<;>exact absurd (show false=true from hs) YD
theorem op_lt:OpR X (X7 .Lt) (rI0 fun i j=>.bl (decide (i < j))):=opB0 fun _ _ _ _ _ _ _ q=>lt_int q
theorem op_gt:OpR X (X7 .Gt) (rI0 fun i j=>.bl (decide (j < i))):=opB0 fun _ _ _ _ _ _ _ q=>gt_int q
theorem nomark (b:Expr){op:CmpOp}(h:op≠.In:=by decide)(h2:op≠.NotIn:=by decide):VD op b=false:=by
 have e1:(op==CmpOp.In)=false:=by cases op<;>first | rfl | exact absurd rfl h
 have e2:(op==CmpOp.NotIn)=false:=by cases op<;>first | rfl | exact absurd rfl h2
 cases b<;>simp[VD,e1,e2]
theorem pe_cmpR {op:CmpOp}{r:R2}(ho:OpR X (X7 op) r)(ha:PE X a ta)(hb:PE X b tb)(hm:VD op b=false):PE X (.Compare a [op] [b] pos) (tOp r ta tb):=by
 intro pins s σ H Q I h
 exact wpAny_Compare1 (binT ha hb I h fun v u s2 x y H2 I2 rx ry q=>ho pins s2 σ H2 x y v u Q I2 rx ry q) hm
def tTest (t:TE):TT:=fun σ H Q=>t σ H fun x H'=>∃k,x=.bl k/\Q k H'
theorem pt_cmpR {op:CmpOp}{r:R2}(ho:OpR X (X7 op) r)(ha:PE X a ta)(hb:PE X b tb)(hm:VD op b=false):PT X (.Compare a [op] [b] pos) (tTest (tOp r ta tb)):=by
 intro pins s σ H Q I h
 refine wpAny_isTrue_Compare1 (thn (ha pins s σ H _ I h) fun v s1 ⟨x,H1,I1,r1,q1⟩=>thn (hb pins s1 σ H1 _ I1 q1) fun u s2 ⟨y,H2,I2,r2,q2⟩=>
  thn (ho pins s2 σ H2 x y v u _ I2 r1 r2 q2) fun c s3 ⟨z,H3,I3,r3,k,e,q3⟩=>?_) hm
 subst e
 cases r3
 exact VX ⟨H3,I3,q3⟩
def TruV (K:W.Frag)(x:V)(H:Hp)(k:Bool):Prop:=
 match x with
 | .non=>k=false
 | .bl b=>k=b
 | .int i=>k=(i != 0)
 | .str y=>y.length<=Yr/\k=((y.length:Int) != 0)
 | .byt y=>y.size<=Yr/\k=((y.size:Int) != 0)
 | .ref p=>(∃xs,SqL K H p xs/\k=!xs.isEmpty)\/(∃xs,SqT K H p xs/\k=!xs.isEmpty)\/∃kvs,H p=some (.dK kvs)/\k=!kvs.isEmpty
 | _=>False
theorem isEmpty_kv {κ:Type}{kvs:List (κ×V)}{vs:List (κ×Value)}(r:KV kvs vs):(!vs.isEmpty)=!kvs.isEmpty:=by
 cases r<;>rfl
theorem ZdG {xs:List V}{its:2e5}(r:Vals xs its):(!its.toArray.isEmpty)=!xs.isEmpty:=by
 cases r<;>simp
theorem line63:(Yr:Nat) < 2 ^ 63:=by rw[YN];decide
theorem tru_ok:TruR X (fun x H Q=>∃k,TruV X.K x H k/\Q k H):=by
 intro pins s σ H x v Q I rx h
 obtain ⟨k,e,q⟩:=h
 have hl:=line63
 have hs:Yr=16777216:=YN
 cases x with
 | non=>
  cases rx
  have e':k=false:=e
  subst e'
  exact truthy_none ⟨H,I,q⟩
 | bl b=>
  cases rx
  have e':k=b:=e
  subst e'
  exact VX ⟨H,I,q⟩
 | int i=>
  obtain ⟨t,rfl⟩:=rx
  have e':k=(i != 0):=e
  subst e'
  exact PySem.P.truthy_int ⟨H,I,q⟩
 | str y=>
  obtain ⟨t,rfl⟩:=rx
  obtain ⟨hy,e'⟩:y.length<=Yr/\k=((y.length:Int) != 0):=e
  subst e'
  exact PySem.P.truthy_str 1e2 ⟨H,I.tok _,q⟩
 | byt y=>
  obtain ⟨t,rfl⟩:=rx
  obtain ⟨hy,e'⟩:y.size<=Yr/\k=((y.size:Int) != 0):=e
  subst e'
  exact W.truthy_bytes 1e2 ⟨H,I.tok _,q⟩
 | ref p=>
  cases rx
  have e':(∃xs,SqL X.K H p xs/\k=!xs.isEmpty)\/(∃xs,SqT X.K H p xs/\k=!xs.isEmpty)\/∃kvs,H p=some (.dK kvs)/\k=!kvs.isEmpty:=e
  rcases e' with ⟨xs,hx,e'⟩ | ⟨xs,hx,e'⟩ | ⟨kvs,hx,e'⟩
  ·subst e'
   obtain ⟨its,r,pl,hz⟩:=I.list hx
   have hlen:=r.length
   exact wpAny_truthy_list pl.isList (by simp only[Yn];lia) ⟨H,I.tok _,by rw[ZdG r];exact q⟩
  ·subst e'
   obtain ⟨its,r,pl,hz⟩:=I.tuple hx
   have hlen:=r.length
   exact truthy_tuple pl (by simp only[Yn];lia) ⟨H,I.tok _,by rw[ZdG r];exact q⟩
  ·subst e'
   obtain ⟨hz,hS,vs,r,m⟩:kvs.length<=Yr/\(p==XE)=false/\∃vs,KV kvs vs/\s.heap.DictOf (mixKind X.prog X.w) p vs:=I.hok p _ hx
   have hlen:kvs.length=vs.length:=Wm r
   exact wpAny_truthy_dict hS m 1e2 ⟨H,I.tok _,by rw[isEmpty_kv r];exact q⟩
 | _=>exact (show False from e).elim
theorem pt_truth (ha:PE X a ta)(he:∀whole,isTrue a X.env whole=(do let v ←whole;standAt a.pos;U2 [v] (truthy v))):
  PT X a (fun σ H Q=>ta σ H fun x H'=>∃k,TruV X.K x H' k/\Q k H'):=by
 intro pins s σ H Q I h
 exact isTrue_plain (thn (ha pins s σ H _ I h) fun v s1 ⟨x,H1,I1,r1,q1⟩=>tru_ok pins s1 σ H1 x v Q I1 r1 q1) (he _)
theorem op_add_str:OpR X (Va .Add) (fun x y H Q=>∃i j,x=.str i/\y=.str j/\i.length + j.length<=Yr/\Q (.str (i++j)) H):=by
 sleep 3
 obtain ⟨i,j,rfl,rfl,hz,q⟩:=h
 obtain ⟨t,rfl⟩:=rx
 obtain ⟨t',rfl⟩:=ry
 exact add_str (fun t' tk=>⟨.str (i++j),H,I.tok _,7e1,q⟩) hz
theorem vals1 {x:V}{us:2e5}(r:Vals [x] us):∃u,us=[u]/\RelV x u:=by
 cases r with
 | cons r1 r2=>cases r2;exact ⟨_,rfl,r1⟩
theorem vals2 {x y:V}{us:2e5}(r:Vals [x,y] us):∃u w',us=[u,w']/\RelV x u/\RelV y w':=by
 cases r with
 | cons r1 r2=>
  cases r2 with
  | cons r3 r4=>cases r4;exact ⟨_,_,rfl,r1,r3⟩
theorem call_max2 (hc:5e2):CallR X (.builtin "max") (fun xs H Q=>∃i j,xs=[.int i,.int j]/\Q (.int (if j > i then j else i)) H):=by
 intro pins s σ H xs us Q I r h
 obtain ⟨i,j,rfl,q⟩:=h
 obtain ⟨u,w',rfl,⟨t,rfl⟩,⟨t',rfl⟩⟩:=vals2 r
 refine max_two_ints (I.ok.hd hc) fun h' tk k=>⟨_,H,I.kept k,?_,q⟩
 by_cases hj:j > i
 ·rw[if_pos hj,if_pos hj];exact 7e1
 ·rw[if_neg hj,if_neg hj];exact 7e1
theorem call_int1:CallR X (.type "int") (fun xs H Q=>(∃i,xs=[.int i]/\Q (.int i) H)\/∃k,xs=[.bl k]/\Q (.int (if k then 1 else 0)) H):=by
 intro pins s σ H xs us Q I r h
 rcases h with ⟨i,rfl,q⟩ | ⟨k,rfl,q⟩
 ·obtain ⟨u,rfl,t,rfl⟩:=vals1 r
  exact call_int_int ⟨.int i,H,I,7e1,q⟩
 ·obtain ⟨u,rfl,r1⟩:=vals1 r
  cases r1
  exact call_int_bool ⟨.int (if k then 1 else 0),H,I.tok _,7e1,q⟩
def LenV (K:W.Frag)(x:V)(H:Hp)(n:Nat):Prop:=
 match x with
 | .str y=>y.length<=Yr/\n=y.length
 | .byt y=>y.size<=Yr/\n=y.size
 | .ref p=>(∃xs,SqL K H p xs/\n=xs.length)\/∃xs,SqT K H p xs/\n=xs.length
 | _=>False
theorem call_len:CallR X (.builtin "len") (fun xs H Q=>∃x n,xs=[x]/\LenV X.K x H n/\Q (.int n) H):=by
 intro pins s σ H xs us Q I r h
 obtain ⟨x,n,rfl,e,q⟩:=h
 obtain ⟨u,rfl,rx⟩:=vals1 r
 have hl:=line63
 have hs:Yr=16777216:=YN
 cases x with
 | str y=>
  obtain ⟨t,rfl⟩:=rx
  obtain ⟨hy,e'⟩:y.length<=Yr/\n=y.length:=e
  subst e'
  exact len_str 1e2 ⟨.int _,H,I.tok _,7e1,q⟩
 | byt y=>
  obtain ⟨t,rfl⟩:=rx
  obtain ⟨hy,e'⟩:y.size<=Yr/\n=y.size:=e
  subst e'
  exact W.len_bytes 1e2 ⟨.int _,H,I.tok _,7e1,q⟩
 | ref p=>
  cases rx
  have e':(∃xs,SqL X.K H p xs/\n=xs.length)\/∃xs,SqT X.K H p xs/\n=xs.length:=e
  rcases e' with ⟨xs,hx,e'⟩ | ⟨xs,hx,e'⟩
  ·subst e'
   obtain ⟨its,r',pl,hz⟩:=I.list hx
   have hlen:=r'.length
   exact Calls.call_len_list pl.isList (by simp only[Yn];lia) ⟨.int xs.length,H,I.tok _,⟨_,by simp only[Yn];rw[hlen]⟩,q⟩
  ·subst e'
   obtain ⟨its,r',pl,hz⟩:=I.tuple hx
   have hlen:=r'.length
   exact len_tuple pl (by simp only[Yn];lia) ⟨.int xs.length,H,I.tok _,⟨_,by simp only[Yn];rw[hlen]⟩,q⟩
 | _=>exact (show False from e).elim
end
structure ObjM (h:Heap)(x dx C:Addr)(mA:Str->Option Value):Prop where
 obj:h.get? x=some (W.instObj C dx)
 ns:h.Ns1 dx mA
 ne:dx≠x
theorem RelO.some_of {v:V}{o:Option Value}(r:RelO (some v) o):∃u,o=some u/\RelV v u:=by
 cases o with
 | none=>exact (show False from r).elim
 | some u=>exact ⟨u,rfl,r⟩
section
variable {P:Yy}{w:World}{H H':Hp}{h h':Heap}{a C dx:Addr}{fs fs':List (Str×V)}
theorem ins_get (hok:HOk P w H h)(e:H a=some (.ins C dx fs)):∃mA,ObjM h a dx C mA/\(∀f,RelO (fs.lookup f) (mA f))/\PySem.Within mA (fs.map (·.1))/\fs.length<=1000/\H dx=some (.own a):=by
 obtain ⟨d,z,ne,ob,mA,n,r,q⟩:=(show ObjOk P w H h a (.ins C dx fs) from hok a _ e)
 exact ⟨mA,⟨ob,n,ne⟩,r,q,z,d⟩
end
structure Room (k:Nat)(A:Around):Prop where
 hd:A.handled=none
 dp:A.depth + 3 * k + 5 < recursionLimit
 un:A.units + 16 * k + 200 < cLine
theorem Room.mono {j k:Nat}{A:Around}(r:Room k A)(h:j<=k):Room j A:=⟨r.hd,by have:=r.dp;lia,by have:=r.un;lia⟩
theorem Room.deeper {k:Nat}{A:Around}(r:Room (k + 1) A)(env:Env):Room k (A.deeper env):=
 ⟨r.hd,by have:=r.dp;show A.depth + 1 + 3 * k + 5 < _;lia,by have:=r.un;show A.units + 3 + 16 * k + 200 < _;lia⟩
theorem Room.depth {k:Nat}{A:Around}(r:Room k A):A.depth < recursionLimit:=by have:=r.dp;lia
theorem Room.units {k:Nat}{A:Around}(r:Room k A):A.units + 64 < cLine:=by have:=r.un;lia
def tNil:TA:=fun _ H Q=>Q [] H
def tCons (ta:TE)(tr:TA):TA:=fun σ H Q=>ta σ H fun x H1=>tr σ H1 fun xs H2=>Q (x::xs) H2
section
variable {X:Cx}{e:Expr}{es:3e2}{te:TE}{t:TA}{pos:Pos}
theorem pa_nil:PA X [] tNil:=fun _ _ _ _ H Q I h=>UV ⟨[],H,I,.nil,h⟩
theorem pa_cons (ha:PE X e te)(hr:PA X es t)(hs:1e5:=by rfl):PA X 4e6 (tCons te t):=by
 intro pos pins s σ H Q I h
 rw[hs]
 show wpAny _ _ (spliced ((false,eval e X.env)::backTo pos (Ys es X.env))) _ _ s
 refine UH (thn (ha pins s σ H _ I h) fun u s1 h_=>?_)
 obtain ⟨x,H1,I1,r1,q1⟩:=h_
 exact thn (hr pos pins s1 σ H1 _ I1 q1) fun us s2 ⟨xs,H2,I2,r2,q2⟩=>⟨x::xs,H2,I2,.cons r1 r2,q2⟩
def tTup (t:TA):TE:=fun σ H Q=>t σ H fun xs H1=>xs.length<=Yr/\∀p,H1 p=none->Q (.ref p) (upd H1 p (.tup xs))
def tLst (t:TA):TE:=fun σ H Q=>t σ H fun xs H1=>xs.length<=Yr/\∀p,H1 p=none->Q (.ref p) (upd H1 p (.lst xs))
theorem pe_tup {x1}(h:PA X es t):PE X (.Tuple es x1 pos) (tTup t):=by
 intro pins s σ H Q I hq
 refine wpAny_Tuple_spliced (thn (h pos pins s σ H _ I hq) fun us s1 ⟨xs,H1,I1,r,z,q⟩=>⟨by rw[←r.length];exact z,?_⟩)
 have hf:H1 s1.heap.objs.size=none:=I1.hok.fresh (Yi _)
 refine ⟨.ref s1.heap.objs.size,upd H1 s1.heap.objs.size (.tup xs),I1.laid (t':=s1.toks) (fun b u e=>Yb _ e) (Yi _) ?_,rfl,q _ hf⟩
 exact ⟨z,us,r,⟨_,Ye _ rfl,rfl,_,rfl⟩⟩
theorem pe_lst (h:PA X es t):PE X (.List es pos) (tLst t):=by
 intro pins s σ H Q I hq
 refine wpAny_List_spliced (thn (h pos pins s σ H _ I hq) fun us s1 ⟨xs,H1,I1,r,z,q⟩=>⟨by rw[←r.length];exact z,?_⟩)
 have hf:H1 s1.heap.objs.size=none:=I1.hok.fresh (Yi _)
 refine ⟨.ref s1.heap.objs.size,upd H1 s1.heap.objs.size (.lst xs),I1.laid (t':=s1.toks) (fun b u e=>Yb _ e) (Yi _) ?_,rfl,q _ hf⟩
 exact ⟨z,us,0,r,Ye _ rfl⟩
end
abbrev Sp:=List V->Hp->VK->XK->Prop
abbrev CXT:=List Env->Hp->Shared->XK->Value->Shared->Prop
structure Env0 (P:Yy)(w:World)(K:W.Frag)(mg:Str->Option Value)(base:Heap)(A:Around)(outer:List Env)(s:Shared)(H:Hp):Prop where
 frames:A.frames=some outer
 mod:Mod K mg base
 bs:∀b o,base.get? b=some o->s.heap.get? b=some o/\H b=none
 bsz:base.objs.size<=s.heap.objs.size
 funs:s.heap.FunFrames base outer
 frf:∀b∈frs outer,H b=none
 hok:HOk P w H s.heap
 bare:Yad s.gens
def CE (outer:List Env)(P:Yy)(w:World)(H:Hp)(s:Shared)(Q:VK)(u:Value)(s':Shared):Prop:=
 ∃v H',s'.os=s.os/\Yad s'.gens/\Un (frs outer) [] H H' s.heap s'.heap/\HOk P w H' s'.heap/\RelV v u/\Q v H'
def CR (CX:CXT)(outer:List Env)(P:Yy)(w:World)(H:Hp)(s:Shared)(Q:VK)(E:XK)(r:Result)(s':Shared):Prop:=
 match r with
 | .ok (.ret u)=>CE outer P w H s Q u s'
 | .ok _=>False
 | .error e=>CX outer H s E e s'
structure FnOk (P:Yy)(w:World)(K:W.Frag)(mg:Str->Option Value)(base:Heap)(CX:CXT)(k:Nat)(f:Addr)(fd:Wh)(ps:List Str)(sp:Sp):Prop where
 len:∀vs H Q E,sp vs H Q E->vs.length=ps.length
 run:∀(A:Around) (outer:List Env) (s:Shared) (H:Hp) (args:Args) (us:2e5) (vs:List V) (Q:VK) (E:XK),Room k A->Env0 P w K mg base A outer s H->BindsTo s fd args (ps.zip us)->Vals vs us->sp vs H Q E->
  XT (model P w) A (.call (.ref f) args) (CR CX outer P w H s Q E) s
theorem FnOk.imp {P:Yy}{w:World}{K:W.Frag}{mg:2e6}{base:Heap}{CX:CXT}{k:Nat}{f:Addr}{fd:Wh}{ps:4e0}{sp sp':Sp}(F:FnOk P w K mg base CX k f fd ps sp)
  (h:∀vs H Q E,sp' vs H Q E->sp vs H Q E):FnOk P w K mg base CX k f fd ps sp':=
 ⟨fun vs H Q E q=>F.len vs H Q E (h _ _ _ _ q),fun A outer s H args us vs Q E hr he hb hv hs=>F.run A outer s H args us vs Q E hr he hb hv (h _ _ _ _ hs)⟩
section
variable {X:Cx}{pins:1e6}{σ:St}{H:Hp}{s s':Shared}
theorem Inv.env0 (I:1e7):Env0 X.prog X.w X.K X.mg X.base X.A X.stack s H:=
 ⟨I.ok.frames,I.ok.mod,I.bs,YQ I.ok.bsz I.sz,I.stack,I.stkFree,I.hok,I.bare⟩
theorem Inv.after {Q:VK}{u:Value}(I:1e7)(h:CE X.stack X.prog X.w H s Q u s'):EP X pins σ Q u s':=by
 obtain ⟨v,H',os,bare,un,hok,r,q⟩:=h
 obtain ⟨hh,g,d,t,os'⟩:=s'
 obtain rfl:os'=s.os:=os
 exact ⟨v,H',I.call (h':=hh) (g':=g) (d':=d) (t':=t) (ch:=[]) un hok bare (fun b z=>absurd z 3e0),r,q⟩
end
def tCall (sp:Sp)(dvs:List V)(E:XK)(t:TA):TE:=fun σ H Q=>t σ H fun vs H1=>sp (vs++dvs) H1 Q E
def Binds (K:W.Frag)(fd:Wh)(ps:4e0)(ds:2e5):Prop:=
 ∀(s:Shared) (us:2e5),K.In s.heap->(us++ds).length=ps.length->BindsTo s fd ⟨us,[]⟩ (ps.zip (us++ds))
theorem Binds.all {K:W.Frag}{fd:Wh}{ps:4e0}(h:∀us:List Value,us.length=ps.length->bindArgs fd ⟨us,[]⟩=pure (ps.zip us)):Binds K fd ps []:=fun s us _ hl=>by
 rw[YL] at hl ⊢
 exact .of_eq (h us hl)
def Passes (CX:CXT)(X:Cx)(E:XK):Prop:=∀(pins:1e6) (σ:St) (H:Hp) (s:Shared) (e:Value) (s':Shared),Inv X pins σ H s->CX X.stack H s E e s'->X.xe e s'
section
variable {X:Cx}{CX:CXT}{k:Nat}{f C:Addr}{fd:Wh}{ps:4e0}{sp:Sp}{dvs:List V}{ds:2e5}{E:XK}{x m:Str}{p pos apos:Pos}{e o:Expr}{es:3e2}{ta:TE}{t:TA}
theorem run_fn {pins:1e6}{σ:St}{H:Hp}{s:Shared}{Q:VK}{us:2e5}{vs:List V}(F:FnOk X.prog X.w X.K X.mg X.base CX k f fd ps sp)(hr:Room k X.A)(hb:Binds X.K fd ps ds)(hd:Vals dvs ds)(hx:Passes CX X E)
  (I:1e7) (r:Vals vs us) (h:sp (vs++dvs) H Q E):wpAny 2e0 X.A (call (.ref f) us) (EP X pins σ Q) X.xe s:=by
 have r2:Vals (vs++dvs) (us++ds):=r.append hd
 have hl:(us++ds).length=ps.length:=by rw[←r2.length];exact F.len _ _ _ _ h
 refine wpAny_call (V9 (F.run X.A X.stack s H ⟨us,[]⟩ (us++ds) (vs++dvs) Q E hr I.env0 (hb s us I.kIn hl) r2 h) fun r s' hq=>?_)
 cases r with
 | error e=>exact hx pins σ H s e s' I hq
 | ok fl=>
  cases fl with
  | ret u=>exact I.after hq
  | next=>exact WW hq
  | brk=>exact WW hq
  | cont=>exact WW hq
theorem pe_call (F:FnOk X.prog X.w X.K X.mg X.base CX k f fd ps sp)(hr:Room k X.A)(hg:Gl X x)(hm:X.mg x=some (.ref f))(hk:U3 X.K (.ref f)=true)(hb:Binds X.K fd ps ds)(hd:Vals dvs ds)(hx:Passes CX X E)
  (ha:PA X 4e6 t) (hdb:3e4:=by decide) (he:1e5:=by rfl) (hpl:2e7:=by rfl):
  PE X 8e9 (tCall sp dvs E t):=by
 intro pins s σ H Q I h
 refine W1 (ld_glob I hg hm ?_ hdb)
 refine W.callWith_K (h₀:=X.base) I.ok.mod.kin hk (thn (ha pos pins s σ H _ I h) fun us s1 ⟨vs,H1,I1,r,q⟩=>⟨I1.kIn,?_⟩) he hpl
 exact run_fn F hr hb hd hx I1 r q
structure Mk (K:W.Frag)(C f:Addr):Prop where
 makes:W.makesIn K C=true
 init:W.findIn K (.ref C) "__init__"=some (some (.ref f))
 fn:W.isFn K (.ref f)=true
 kp:U3 K (.ref C)=true
end
structure FnScope (N P:List Str)(sc:Scope):Prop where
 kind:sc.kind=.function
 co:sc.isCoroutine=false
 gen:sc.isGenerator=false
 nd:N.Nodup
 pre:N.take P.length=P
 par:∀x∈P,sc.names.lookup x=some .local\/sc.names.lookup x=some .cell
 nofree:∀y∈sc.names,y.2≠.free
theorem bindL_out {kindOf:Str->Option VE}{x:Str}:∀{binds:List (Str×Value)} {m:2e6},(∀v,(x,v)∉binds)->bindL kindOf binds m x=m x
  | [],_,_=>rfl
  | (n,v)::r,m,h=>by
    unfold bindL
    rw[bindL_out fun w hw=>h w (Yz _ hw)]
    split
    · have:x≠n:=by rintro rfl;exact h v YJ
      simp[this]
    · rfl
theorem bindC_out {kindOf:Str->Option VE}{x:Str}:∀{binds:List (Str×Value)} {m:2e6},(∀v,(x,v)∉binds)->bindC kindOf binds m x=m x
  | [],_,_=>rfl
  | (n,v)::r,m,h=>by
    unfold bindC
    rw[bindC_out fun w hw=>h w (Yz _ hw)]
    split
    · rfl
    · have:x≠n:=by rintro rfl;exact h v YJ
      simp[this]
theorem bindL_get {kindOf:Str->Option VE}{x:Str}{v:Value}:∀{P:4e0} {vs:2e5} {i:Nat} {m:2e6},P.Nodup->P[i]? = some x->vs[i]? = some v->kindOf x=some .local->
  bindL kindOf (P.zip vs) m x=some v
 | [],_,_,_,_,h,_,_=>by simp at h
 | _::_,[],_,_,_,_,h,_=>by simp at h
 | p::P,w::vs,0,m,nd,h1,h2,hk=>by
  simp at h1 h2;subst h1;subst h2
  show bindL kindOf ((p,w)::P.zip vs) m p=_
  unfold bindL
  rw[bindL_out fun v hv=>(Xc.mp nd).1 (Yae hv).1,if_pos hk]
  simp
 | p::P,w::vs,i + 1,m,nd,h1,h2,hk=>by
  show bindL kindOf ((p,w)::P.zip vs) m x=_
  unfold bindL
  exact bindL_get (i:=i) (Xc.mp nd).2 (by simpa using h1) (by simpa using h2) hk
theorem bindC_get {kindOf:Str->Option VE}{x:Str}{v:Value}:∀{P:4e0} {vs:2e5} {i:Nat} {m:2e6},P.Nodup->P[i]? = some x->vs[i]? = some v->kindOf x≠some .local->
  bindC kindOf (P.zip vs) m x=some v
 | [],_,_,_,_,h,_,_=>by simp at h
 | _::_,[],_,_,_,_,h,_=>by simp at h
 | p::P,w::vs,0,m,nd,h1,h2,hk=>by
  simp at h1 h2;subst h1;subst h2
  show bindC kindOf ((p,w)::P.zip vs) m p=_
  unfold bindC
  rw[bindC_out fun v hv=>(Xc.mp nd).1 (Yae hv).1,if_neg hk]
  simp
 | p::P,w::vs,i + 1,m,nd,h1,h2,hk=>by
  show bindC kindOf ((p,w)::P.zip vs) m x=_
  unfold bindC
  exact bindC_get (i:=i) (Xc.mp nd).2 (by simpa using h1) (by simpa using h2) hk
def start (N:4e0)(vs:List V):St:=vs.map some++Vi (N.length - vs.length) none
def cxOf (CX:CXT)(P:Yy)(w:World)(K:W.Frag)(mg:2e6)(base:Heap)(N:4e0)(qual:Str)(scope:Scope)(f:Addr)(cd:Value)(A:Around)(outer:List Env)(s:Shared)(H:Hp)(E:XK):Cx where
 prog:=P
 w:=w
 K:=K
 mg:=mg
 base:=base
 A:=A.deeper (envOfC qual scope s.heap.objs.size f cd)
 N:=N
 s₀:=s
 H₀:=H
 env:=envOfC qual scope s.heap.objs.size f cd
 outer:=outer
 stack:=envOfC qual scope s.heap.objs.size f cd::outer
 ex:=[]
 calm:=true
 fn:=fun _=>true
 pn:=[]
 xe:=fun e s'=>wpAny (model P w) (A.deeper (envOfC qual scope s.heap.objs.size f cd)) (leaving (envOfC qual scope s.heap.objs.size f cd) e) (fun _ s''=>CX outer H s E e s'') (fun e' s''=>CX outer H s E e' s'') s'
theorem cell_has {sc:Scope}{n:Nat}{x:Str}(h:sc.names.lookup x=some .cell):∃c,(cellsFrom n sc.names []).lookup x=some c:=by
 have q:=W.cellsFrom_some sc.names n [] (.inl h)
 exact Vw.mp q
theorem inv_start {CX:CXT}{P:Yy}{w:World}{K:W.Frag}{mg:2e6}{base:Heap}{N ps:4e0}{qual:Str}{scope:Scope}{f:Addr}{cd:Value}{A:Around}{outer:List Env}{s s1:Shared}{H:Hp}{E:XK}{us:2e5}{vs:List V}
  (S:FnScope N ps scope) (hd:7e8) (e0:Env0 P w K mg base A outer s H) (hl:vs.length=ps.length) (r:Vals vs us)
  (x:InCallC s s.heap.objs.size (bindL (envOfC qual scope s.heap.objs.size f cd).kindOf (ps.zip us) fun _=>none) (cellsFrom (s.heap.objs.size + 1) scope.names []) (bindC (envOfC qual scope s.heap.objs.size f cd).kindOf (ps.zip us) fun _=>none) s1):
  Inv (cxOf CX P w K mg base N qual scope f cd A outer s H E) [] (start N vs) H s1:=by
 have hpl:ps.length<=N.length:=by have:=congrArg List.length S.pre;rw[WP] at this;lia
 obtain ⟨h1,tk,rfl,hk⟩:=x.done
 have noA:∀b:Addr,b∉(cxOf CX P w K mg base N qual scope f cd A outer s H E).ex:=fun b z=>absurd (show b∈([]:List Addr) from z) 3e0
 refine ⟨⟨e0.mod,S.kind,rfl,rfl,Yi _,fun y z c h1 h2=>?_,fun y hy=>?_,fun y c _ h=>?_,fun _=>hd,Around.frames_deeper e0.frames,.inr ⟨rfl,rfl⟩,fun b z=>absurd z (noA b),e0.bs,e0.bsz,fun b _ _=>noA b,fun b z=>absurd z (noA b),e0.funs,e0.frf⟩,
  rfl,e0.bare,Un.kept hk,⟨_,x.toInCall.ns,fun i y v h1 h2 h3=>?_⟩,fun y c h=>⟨_,x.cell y c h⟩,e0.hok.fresh (Yi _),fun y c h=>?_,fun p hp=>absurd (show p∈([]:List (Addr×Obj)) from hp) (by simp),e0.hok.kept hk,?_⟩
 ·exact name_of_addr x.apart (WJ h1) (WJ h2)
 ·have hy:scope.names.lookup y=some .cell\/scope.names.lookup y=some .free:=hy
  rcases hy with hy | hy
  ·exact cell_has hy
  ·exact absurd rfl (S.nofree _ (WJ hy))
 ·exact Xv (x.above y c (WJ h))
 ·have hi:i < vs.length:=by
   unfold start at h2
   by_cases hi:i < vs.length
   ·exact hi
   ·rw[YZ (by simpa using hi)] at h2
    rw[List.getElem?_replicate] at h2
    split at h2<;>cases h2
  have ha:vs[i]? = some v:=by
   unfold start at h2
   rw[YE (by simpa using hi),Yx] at h2
   cases e:vs[i]? with
   | none=>rw[e] at h2;cases h2
   | some a=>rw[e] at h2;cases h2;rfl
  obtain ⟨u,hu,rv⟩:=r.get ha
  have hp:ps[i]? = some y:=by
   rw[←S.pre,Vx 1e2];exact h1
  have ndP:ps.Nodup:=by rw[←S.pre];exact S.nd.sublist (List.take_sublist _ _)
  refine ⟨u,rv,?_⟩
  rcases S.par y (YB hp) with k | k
  ·exact .inl ⟨k,bindL_get ndP hp hu k⟩
  ·obtain ⟨c,e⟩:=cell_has (n:=s.heap.objs.size + 1) k
   refine .inr ⟨.inl k,c,e,?_⟩
   have q:=x.cell y c e
   rw[bindC_get ndP hp hu (by show scope.names.lookup y≠_;rw[k];decide)] at q
   exact q
 ·exact e0.hok.fresh (Xv (x.above y c (WJ h)))
 ·unfold start
  show _=N.length
  rw[Yu,Yf,List.length_replicate]
  lia
theorem fn_of {CX:CXT}{P:Yy}{w:World}{K:W.Frag}{mg:2e6}{base:Heap}{k:Nat}{f:Addr}{name qual:Str}{params:Arguments}{body:List Stmt}{scope:Scope}{dV kV doc pm cdv ct oc:Value}{an od:Option Addr}
  {osl:Array (Option Value)} {N ps:4e0} {sp:Sp} (lk:K.lookup f=some ⟨oc,od,.func (W.fnOf name qual params body scope dV kV doc pm an cdv ct),osl⟩) (hcd:W.codeIn K cdv qual=true) (S:FnScope N ps scope)
  (len:∀vs H Q E,sp vs H Q E->vs.length=ps.length)
  (hbody:∀(A:Around) (outer:List Env) (s:Shared) (H:Hp) (vs:List V) (Q:VK) (E:XK),Room k (A.deeper (envOfC qual scope s.heap.objs.size f cdv))->sp vs H Q E->
   ∃t,PSs (cxOf CX P w K mg base N qual scope f cdv A outer s H E) body t/\t { nx:=fun _ H'=>Q .non H',rt:=Q } (start N vs) H):
  FnOk P w K mg base CX (k + 1) f (W.fnOf name qual params body scope dV kV doc pm an cdv ct) ps sp:=by
 refine ⟨len,fun A outer s H args us vs Q E hr e0 hb r hsp=>?_⟩
 have hl:=len _ _ _ _ hsp
 have KX:K.In s.heap:=e0.mod.kin.keeps fun b o e=>(e0.bs b o e).1
 have lim:s.heap.NoLimit:=e0.mod.nolimit.keeps fun b o e=>(e0.bs b o e).1
 have hkind:∀y∈ps.zip us,scope.names.lookup y.1=some .local\/(scope.names.lookup y.1=some .cell/\((cellsFrom (s.heap.objs.size + 1) scope.names []).lookup y.1).isSome=true):=fun ⟨n,v⟩ hy=>by
  rcases S.par n (Yae hy).1 with q | q
  ·exact .inl q
  ·exact .inr ⟨q,W.cellsFrom_some _ _ _ (.inl q)⟩
 refine codeAny_call_function hr.depth (KX _ _ lk) rfl S.co S.gen rfl (W.codeRec_of KX hcd) (hb _ _ _ _ ?_)
 refine wpAny_newFunctionEnv_cells S.kind hkind fun env he s1 x=>?_
 subst he
 refine ⟨lim.keeps x.toInCall.keep,codeAny_func ?_⟩
 obtain ⟨t,ht,hq⟩:=hbody A outer s H vs Q E (hr.deeper _) hsp
 have I:Inv (cxOf CX P w K mg base N qual scope f cdv A outer s H E) [] (start N vs) H s1:=inv_start S hr.hd e0 hl r x
 refine Y5 (ht [] s1 (start N vs) H _ I hq) (fun fl s' hs=>?_) fun e s' hs=>hs
 have fin:∀{σ':St} {H':Hp} {v:V} {u:Value},Inv (cxOf CX P w K mg base N qual scope f cdv A outer s H E) [] σ' H' s'->RelV v u->Q v H'->CE outer P w H s Q u s':=
  fun {σ' H' v u} J rv q=>⟨v,H',J.os,J.bare,J.base,J.hok,rv,q⟩
 cases fl with
 | ret u=>
  obtain ⟨v,σ',H',J,rv,q⟩:=hs
  exact fin J rv q
 | next=>
  obtain ⟨σ',H',J,q⟩:=hs
  exact fin (v:=V.non) (u:=Xu) J rfl q
 | brk=>
  obtain ⟨_,_,_,q⟩:=hs
  exact WW q
 | cont=>
  obtain ⟨_,_,_,q⟩:=hs
  exact WW q
section
variable {X:Cx}{x:Str}{p pos:Pos}{e:Expr}{es:3e2}{t:TA}{id T:String}{r:List V->Hp->VK->Prop}
def tCB (r:List V->Hp->VK->Prop)(t:TA):TE:=fun σ H Q=>t σ H fun vs H1=>r vs H1 Q
theorem pe_callB (hc:CallR X (.builtin id) r)(hg:Gl X x)(hm:X.mg x=none)(hv:Xz x=some (.builtin id))(ha:PA X 4e6 t)(hn:x≠"__name__":=by decide)(hdb:3e4:=by decide)
  (he:1e5:=by rfl) (hpl:2e7:=by rfl):PE X 8e9 (tCB r t):=by
 intro pins s σ H Q I h
 refine W1 (Zc6 I hg hm hv ?_ hn hdb)
 exact Ua (thn (ha pos pins s σ H _ I h) fun us s1 ⟨vs,H1,I1,r1,q1⟩=>hc pins s1 σ H1 vs us Q I1 r1 q1) he hpl
theorem pe_callTy (hc:CallR X (.type T) r)(hg:Gl X x)(hm:X.mg x=none)(hv:Xz x=some (.type T))(ha:PA X 4e6 t)(hn:x≠"__name__":=by decide)(hdb:3e4:=by decide)
  (he:1e5:=by rfl) (hpl:2e7:=by rfl):PE X 8e9 (tCB r t):=by
 intro pins s σ H Q I h
 refine W1 (Zc6 I hg hm hv ?_ hn hdb)
 exact XI (thn (ha pos pins s σ H _ I h) fun us s1 ⟨vs,H1,I1,r1,q1⟩=>hc pins s1 σ H1 vs us Q I1 r1 q1) he hpl
end
end L2
namespace HT
open PySem PyProof.Rows
section
variable {prog:Yy}{w:World}{A:Around}{E:1e1}{s:Shared}
theorem cat_tup {t b:Addr}{vs ws:2e5}{Q:1e1}(ht:IsTup s.heap t vs.toArray)(hb:IsTup s.heap b ws.toArray)(hv:vs≠[])
  (h1:ws=[]->Q (.ref t) s) (h2:ws≠[]->Q 4e5 { s with heap:=s.heap.push { cls:=.type "tuple",data:=.seq (vs++ws).toArray } })
  (hsz:vs.length + ws.length<=Yr):wpAny 1e9 A (Va .Add (.ref t) (.ref b)) Q E s:=by
 obtain ⟨⟨cls,dd,data,sl⟩,ho,hc,n,hd⟩:=id ht
 obtain ⟨⟨cls2,dd2,data2,sl2⟩,ho2,hc2,n2,hd2⟩:=id hb
 simp only at hc hd hc2 hd2
 subst hc hd hc2 hd2
 have e:vs.toArray++ws.toArray=(vs++ws).toArray:=by simp
 by_cases hw:ws=[]
 ·exact Yaf ⟨_,ho,rfl⟩ ⟨_,ho2,rfl⟩ U9 seq_tuple_add VV VF (Vy _ _)
   (tuple_addW1 t b vs.toArray ws.toArray n n2 dd dd2 sl sl2 (by simpa using hv) (by simp[hw])) ⟨ho,ho2,h1 hw⟩
 ·refine Yaf ⟨_,ho,rfl⟩ ⟨_,ho2,rfl⟩ U9 seq_tuple_add VV VF (Vy _ _)
   (tuple_addW2 t b vs.toArray ws.toArray n n2 dd dd2 sl sl2 (by simpa using hv) (by simpa using hw) (by rw[Yn,Yn];exact hsz)) ⟨ho,ho2,?_⟩
  rw[e]
  exact h2 hw
def sIx (n d:Nat):Option Int->Nat
 | none=>d
 | some v=>if v < 0 then (v + (n:Int)).toNat else min v.toNat n
theorem sIx_le (n d:Nat)(hd:d<=n)(o:Option Int):sIx n d o<=n:=by
 cases o with
 | none=>exact hd
 | some v=>
  show (if v < 0 then (v + (n:Int)).toNat else min v.toNat n)<=n
  by_cases hv:v < 0
  ·rw[if_pos hv];lia
  ·rw[if_neg hv];exact Nat.min_le_right _ _
theorem clip_eq (v:Int)(n d:Nat):(if v < 0 then max (v + (n:Int)) 0 else min v (n:Int))=((sIx n d (some v):Nat):Int):=by
 show (if v < 0 then max (v + (n:Int)) 0 else min v (n:Int))=(((if v < 0 then (v + (n:Int)).toNat else min v.toNat n):Nat):Int)
 by_cases hv:v < 0
 ·simp only[if_pos hv];lia
 ·simp only[if_neg hv];lia
theorem adjust_gen (lo hi:Option Int)(n:Nat):Vj lo hi 1 (n:Int)=(((sIx n 0 lo:Nat):Int),((sIx n n hi:Nat):Int)):=by
 have h1:¬((1:Int) < 0):=by lia
 unfold Vj
 simp only[h1,if_false]
 refine Prod.ext ?_ ?_
 ·cases lo with
  | none=>rfl
  | some v=>exact clip_eq v n 0
 ·cases hi with
  | none=>rfl
  | some v=>exact clip_eq v n n
theorem places_gen (i j:Nat):Ws (i:Int) (j:Int) 1=j - i:=by
 unfold Ws
 have h1:(1:Int) > 0:=by lia
 simp only[h1,if_true,Int.ediv_one]
 split<;>lia
theorem slicePart_ {v:Value}{o:Option Int}{Q:Option Int->Shared->Prop}(p:IsPart v o)(h:Q o s):wpAny 1e9 A (Builtin.Slice.slicePartIndex v) Q E s:=by
 cases p with
 | none=>exact slicePart_none h
 | int i t=>exact slicePart_int h
theorem sliceApplied_gen {sl:Addr}{vl vu:Value}{lo hi:Option Int}{n:Nat}{Q:Int×Int×Nat->Shared->Prop}(hs:s.heap.IsSliceOf sl vl vu .none)(pl:IsPart vl lo)(pu:IsPart vu hi)
  (h:Q (((sIx n 0 lo:Nat):Int),1,sIx n n hi - sIx n 0 lo) s):wpAny 1e9 A (UD (.ref sl) (pure (n:Int))) Q E s:=by
 obtain ⟨os,hos,hcs,hds⟩:=id hs
 unfold UD Builtin.Slice.sliceFields
 refine Ya (Ya (Yau hos hds (x:=vl) rfl (Ya (Yau hos hds (x:=vu) rfl (Ya (Yau hos hds (x:=.none) rfl (Yc ?_)))))))
 refine Ya (slicePart_none ?_)
 show wpAny _ _ (if ((1:Int)==0)=true then _ else _) _ _ s
 rw[if_neg 1e4]
 refine Ya (slicePart_ pl (Ya (slicePart_ pu (Ya (Yc ?_)))))
 show wpAny _ _ (match Vj lo hi 1 (n:Int) with | (lo,hi)=>pure (lo,(1:Int),Ws lo hi 1)) _ _ s
 rw[adjust_gen lo hi n]
 show wpAny _ _ (pure (((sIx n 0 lo:Nat):Int),(1:Int),Ws ((sIx n 0 lo:Nat):Int) ((sIx n n hi:Nat):Int) 1)) _ _ s
 rw[places_gen]
 exact Yc h
theorem pick_gen (xs:Array Value)(i k:Nat):((YW k).filterMap fun (m:Nat)=>xs[((i:Int) + (m:Int) * 1).toNat]?).toArray=((xs.toList.drop i).take k).toArray:=by
 have e:(fun (m:Nat)=>xs[((i:Int) + (m:Int) * 1).toNat]?)=fun m=>xs[i + m]?:=by
  funext m
  have:((i:Int) + (m:Int) * 1).toNat=i + m:=by lia
  rw[this]
 rw[e]
 have:=pick_run xs i k
 rw[List.filterMap_map] at this
 have e2:((fun x=>xs[x]?) ∘ fun x=>i + x)=fun m=>xs[i + m]?:=rfl
 rw[e2] at this
 rw[this]
theorem getItem_tuple_cut {t sl:Addr}{items:Array Value}{vl vu:Value}{lo hi:Option Int}{Q:1e1}(ht:IsTup s.heap t items)(hs:s.heap.IsSliceOf sl vl vu .none)(pl:IsPart vl lo)(pu:IsPart vu hi)
  (hw:¬(sIx items.size 0 lo=0/\sIx items.size items.size hi=items.size))
  (h:Q 4e5 { s with heap:=s.heap.push { cls:=.type "tuple",data:=.seq ((items.toList.drop (sIx items.size 0 lo)).take (sIx items.size items.size hi - sIx items.size 0 lo)).toArray } })
  (hsz:items.size<=Yr):wpAny 1e9 A (Yav (.ref t) (.ref sl)) Q E s:=by
 have htake:sizeOk (.seq ((items.toList.drop (sIx items.size 0 lo)).take (sIx items.size items.size hi - sIx items.size 0 lo)).toArray):=by
  show ((items.toList.drop (sIx items.size 0 lo)).take (sIx items.size items.size hi - sIx items.size 0 lo)).toArray.size<=Yr
  rw[Yn,WP,Vq,YK]
  lia
 have hj:sIx items.size items.size hi<=items.size:=sIx_le _ _ (Yi _) hi
 obtain ⟨os,hos,hcs,hds⟩:=id hs
 have hTs:s.TypeIs (.ref sl) "slice":=⟨os,hos,hcs⟩
 unfold Yav
 try with_reducible refine Xa ?_
 first | refine Ya (Yc ?_) | skip
 refine Ya (wpAny_sequenceKey ht.typeIs 1e4 ?_)
 refine Ya (Xo (name:=Wn "__getitem__") ht.typeIs Xj
  (Y7 Xj ht.typeIs entry_tuple_getitem ?_ (args_tuple_getitem _ _)))
 show wpAny _ _ (Vf (.ref t) >>= _) _ _ s
 refine Ya (tupleItemsOf_ ht ?_)
 refine Ya (Vz hTs ?_)
 rw[if_pos 1e4]
 refine Ya (sliceApplied_gen hs pl pu ?_)
 have hno:¬((((sIx items.size 0 lo:Nat):Int)==0&&(1:Int)==1&&(sIx items.size items.size hi - sIx items.size 0 lo)==items.size)=true):=by
  intro q
  rw[Yp,Yp] at q
  have q1:((sIx items.size 0 lo:Nat):Int)=0:=eq_of_beq q.1.1
  have q2:sIx items.size items.size hi - sIx items.size 0 lo=items.size:=eq_of_beq q.2
  exact hw ⟨by lia,by lia⟩
 show wpAny _ _ (if (((sIx items.size 0 lo:Nat):Int)==0&&(1:Int)==1&&(sIx items.size items.size hi - sIx items.size 0 lo)==items.size)=true then _ else _) _ _ s
 rw[if_neg hno,pick_gen]
 first
  | exact Ya (m:=Wx _) (Xk (Yc ⟨_,rfl,Yc h⟩) htake)
  | exact Ya (m:=Wx _) (Xk (Ya (Yc (Yc ⟨_,rfl,Yc h⟩))) htake)
  | exact Ya (Ya (m:=Wx _) (Xk (Yc (Yc ⟨_,rfl,Yc h⟩)) htake))
  | exact Ya (Ya (m:=Wx _) (Xk (Yc ⟨_,rfl,Yc h⟩) htake))
end
end HT
namespace L2
open PySem PySem.Spec PyProof.Rows
abbrev TO:=St->Hp->(Option Int->Hp->Prop)->Prop
def PO (X:Cx)(e:Option Expr)(t:TO):Prop:=
 ∀(pins:1e6) (s:Shared) (σ:St) (H:Hp) (Q:Option Int->Hp->Prop),Inv X pins σ H s->t σ H Q->
  wpAny 2e0 X.A (evalPart e X.env) (fun u s'=>∃o H',Inv X pins σ H' s'/\IsPart u o/\Q o H') X.xe s
def tNoPart:TO:=fun _ H Q=>Q none H
def tPart (t:TE):TO:=fun σ H Q=>t σ H fun x H1=>∃i,x=.int i/\Q (some i) H1
section
variable {X:Cx}{e:Expr}{te:TE}{lo hi:Option Expr}{tl th:TO}{pos p2:Pos}
theorem po_none:PO X none tNoPart:=by
 intro pins s σ H Q I h
 rw[evalPart_none]
 exact Yc ⟨none,H,I,.none,h⟩
theorem po_some (h:PE X e te):PO X (some e) (tPart te):=by
 intro pins s σ H Q I hw
 rw[evalPart_some]
 refine thn (h pins s σ H _ I hw) fun u s1 h_=>?_
 obtain ⟨x,H1,I1,r1,q1⟩:=h_
 obtain ⟨i,rfl,q⟩:=q1
 obtain ⟨t,rfl⟩:=r1
 exact ⟨some i,H1,I1,.int i t,q⟩
def SlR (X:Cx)(r:V->Option Int->Option Int->Hp->VK->Prop):Prop:=
 ∀(pins:1e6) (s:Shared) (σ:St) (H:Hp) (x:V) (v vl vu:Value) (lo hi:Option Int) (sl:Addr) (Q:VK),Inv X pins σ H s->RelV x v->s.heap.IsSliceOf sl vl vu .none->IsPart vl lo->IsPart vu hi->r x lo hi H Q->
  ∃T id,typeLookup (.type T) "__getitem__"=pure (some (.builtin id))/\s.TypeIs v T/\wpAny 2e0 X.A (Yav v (.ref sl)) (EP X pins σ Q) X.xe s
theorem SlR.or {r r':V->Option Int->Option Int->Hp->VK->Prop}(h:SlR X r)(h':SlR X r'):SlR X (fun x lo hi H Q=>r x lo hi H Q\/r' x lo hi H Q):=by
 intro pins s σ H x v vl vu lo hi sl Q I rx hs pl pu q
 rcases q with q | q
 ·exact h pins s σ H x v vl vu lo hi sl Q I rx hs pl pu q
 ·exact h' pins s σ H x v vl vu lo hi sl Q I rx hs pl pu q
def tSl (r:V->Option Int->Option Int->Hp->VK->Prop)(te:TE)(tl th:TO):TE:=fun σ H Q=>te σ H fun x H1=>tl σ H1 fun l H2=>th σ H2 fun u H3=>r x l u H3 Q
theorem pe_slice {r:V->Option Int->Option Int->Hp->VK->Prop}(hr:SlR X r)(he:PE X e te)(hl:PO X lo tl)(hu:PO X hi th):PE X (.Subscript e (.Slice lo hi none p2) pos) (tSl r te tl th):=by
 intro pins s σ H Q I h
 refine Subscript_ (thn (he pins s σ H _ I h) fun v s1 h_=>?_)
 obtain ⟨x,H1,I1,r1,q1⟩:=h_
 refine wpAny_Slice (thn (hl pins s1 σ H1 _ I1 q1) fun vl s2 ⟨l,H2,I2,pl,q2⟩=>thn (hu pins s2 σ H2 _ I2 q2) fun vu s3 h_=>?_)
 obtain ⟨u,H3,I3,pu,q3⟩:=h_
 rw[evalPart_none]
 refine Yc ?_
 have I4:Inv X pins σ H3 { s3 with heap:=s3.heap.push { cls:=.type "slice",data:=.fields #[vl,vu,.none] } }:=I3.kept (t':=s3.toks) fun b ob q=>Yb _ q
 obtain ⟨T,id,hT,ht,hg⟩:=hr pins { s3 with heap:=s3.heap.push { cls:=.type "slice",data:=.fields #[vl,vu,.none] } } σ H3 x v vl vu l u s3.heap.objs.size Q I4 r1 (Heap.IsSliceOf.new ..) pl pu q3
 show wpAny 2e0 X.A (subscriptTail e (.Slice lo hi none p2) v (.ref s3.heap.objs.size)) (EP X pins σ Q) X.xe { s3 with heap:=s3.heap.push { cls:=.type "slice",data:=.fields #[vl,vu,.none] } }
 exact tail_any (ops:=[.ref s3.heap.objs.size,v]) ht hT hg (by with_unfolding_all rfl)
def cutV (xs:List V)(lo hi:Option Int):List V:=(xs.drop (HT.sIx xs.length 0 lo)).take (HT.sIx xs.length xs.length hi - HT.sIx xs.length 0 lo)
theorem Zdj (xs:List V)(lo hi:Option Int):(cutV xs lo hi).length<=xs.length:=by
 unfold cutV
 rw[WP,Vq]
 lia
def rSlT (K:W.Frag):V->Option Int->Option Int->Hp->VK->Prop:=fun x lo hi H Q=>∃a xs,x=.ref a/\SqT K H a xs/\
 ¬(HT.sIx xs.length 0 lo=0/\HT.sIx xs.length xs.length hi=xs.length)/\∀p,H p=none->Q (.ref p) (upd H p (.tup (cutV xs lo hi)))
theorem sl_tup:SlR X (rSlT X.K):=by
 intro pins s σ H x v vl vu lo hi sl Q I rx hs pl pu h
 obtain ⟨a,xs,rfl,hx,hw,q⟩:=h
 cases rx
 obtain ⟨its,r,ht,hz⟩:=I.tuple hx
 have hlen:its.toArray.size=xs.length:=by rw[Yn];exact r.length.symm
 refine ⟨"tuple",_,Xj.lookup,ht.typeIs,?_⟩
 refine HT.getItem_tuple_cut ht hs pl pu (by rw[hlen];exact hw) ?_ (by rw[hlen];exact hz)
 rw[hlen]
 refine ⟨.ref s.heap.objs.size,_,I.laid (t':=s.toks) (o:=.tup (cutV xs lo hi)) (fun b ob q=>Yb _ q) (Yi _) ?_,rfl,q _ (I.hok.fresh (Yi _))⟩
 exact ⟨YQ (Zdj xs lo hi) hz,_,(r.drop (HT.sIx xs.length 0 lo)).take (HT.sIx xs.length xs.length hi - HT.sIx xs.length 0 lo),IsTup.new _ _⟩
def rCatT (K:W.Frag):R2:=fun x y H Q=>∃a b xs ys,x=.ref a/\y=.ref b/\SqT K H a xs/\SqT K H b ys/\xs≠[]/\xs.length + ys.length<=Yr/\
 (ys=[]->Q (.ref a) H)/\(ys≠[]->∀p,H p=none->Q (.ref p) (upd H p (.tup (xs++ys))))
theorem Vals.nil_iff {xs:List V}{us:2e5}(r:Vals xs us):us=[]↔xs=[]:=by
 cases r with
 | nil=>simp
 | cons _ _=>simp
theorem op_catT:OpR X (Va .Add) (rCatT X.K):=by
 sleep 3
 obtain ⟨a,b,xs,ys,rfl,rfl,ha,hb,hx,hz,q1,q2⟩:=h
 cases rx
 cases ry
 obtain ⟨its,r1,p1,_⟩:=I.tuple ha
 obtain ⟨its2,r2,p2,_⟩:=I.tuple hb
 refine HT.cat_tup p1 p2 (fun z=>hx (r1.nil_iff.mp z)) (fun z=>⟨.ref a,H,I,rfl,q1 (r2.nil_iff.mp z)⟩) (fun z=>?_) (by rw[←r1.length,←r2.length];exact hz)
 refine ⟨.ref s.heap.objs.size,_,I.laid (t':=s.toks) (o:=.tup (xs++ys)) (fun b ob q=>Yb _ q) (Yi _) ?_,rfl,q2 (fun w=>z (r2.nil_iff.mpr w)) _ (I.hok.fresh (Yi _))⟩
 exact ⟨by rw[Yu];exact hz,_,r1.append r2,IsTup.new _ _⟩
end
def ixN (n:Nat)(i:Int):Option Nat:=if 0<=i then (if i < n then some i.toNat else none) else if -(n:Int)<=i then some (i + n).toNat else none
def atI {α:Type}(xs:List α)(i:Int):Option α:=(ixN xs.length i).bind fun j=>xs[j]?
theorem ixN_seq {n:Nat}{i:Int}{j:Nat}(h:ixN n i=some j):seqIndex? i n=some j/\j < n/\-(n:Int)<=i/\i < n:=by
 unfold ixN at h
 by_cases h0:0<=i
 ·rw[if_pos h0] at h
  by_cases h1:i < n
  ·rw[if_pos h1] at h
   have e:i.toNat=j:=YI h
   exact ⟨by rw[seqIndex_of h0 h1,e],by lia,by lia,h1⟩
  ·rw[if_neg h1] at h;cases h
 ·rw[if_neg h0] at h
  by_cases h1:-(n:Int)<=i
  ·rw[if_pos h1] at h
   have e:(i + n).toNat=j:=YI h
   exact ⟨by rw[seqIndex_neg 1e2 h1,e],by lia,h1,by lia⟩
  ·rw[if_neg h1] at h;cases h
theorem atI_get {α:Type}{xs:List α}{i:Int}{v:α}(h:atI xs i=some v):∃j,seqIndex? i xs.length=some j/\xs[j]? = some v/\j < xs.length/\-(xs.length:Int)<=i/\i < xs.length:=by
 unfold atI at h
 cases e:ixN xs.length i with
 | none=>rw[e] at h;cases h
 | some j=>
  rw[e] at h
  obtain ⟨h1,h2,h3,h4⟩:=ixN_seq e
  exact ⟨j,h1,h,h2,h3,h4⟩
def PlainIx (b:Expr):Prop:=∀o i,subscripted b false o i=operate [o,i] (Yav o i)
def IxR (X:Cx)(r:R2):Prop:=
 ∀(value slice:Expr) (pins:1e6) (s:Shared) (σ:St) (H:Hp) (x y:V) (v u:Value) (Q:VK),Inv X pins σ H s->RelV x v->RelV y u->r x y H Q->
  subscripted slice false v u=operate [v,u] (Yav v u)->wpAny 2e0 X.A (subscriptTail value slice v u) (EP X pins σ Q) X.xe s
def MtR (X:Cx)(id:String)(r:V->List V->Hp->VK->Prop):Prop:=
 ∀(pins:1e6) (s:Shared) (σ:St) (H:Hp) (x:V) (xs:List V) (v:Value) (us:2e5) (Q:VK),Inv X pins σ H s->RelV x v->Vals xs us->r x xs H Q->
  wpAny 2e0 X.A (call (.builtin id) (v::us)) (EP X pins σ Q) X.xe s
section
variable {X:Cx}{a b:Expr}{ta tb:TE}{pos:Pos}
theorem IxR.or {r r':R2}(h:IxR X r)(h':IxR X r'):IxR X (fun x y H Q=>r x y H Q\/r' x y H Q):=by
 intro value slice pins s σ H x y v u Q I rx ry q hs
 rcases q with q | q
 ·exact h value slice pins s σ H x y v u Q I rx ry q hs
 ·exact h' value slice pins s σ H x y v u Q I rx ry q hs
theorem pe_ix {r:R2}(hr:IxR X r)(ha:PE X a ta)(hb:PE X b tb)(hs:PlainIx b):PE X (.Subscript a b pos) (tOp r ta tb):=by
 intro pins s σ H Q I h
 exact Subscript_ (binT ha hb I h fun v u s2 x y H2 I2 rx ry q=>hr a b pins s2 σ H2 x y v u Q I2 rx ry q (hs _ _))
def rIxL (K:W.Frag):R2:=fun x y H Q=>∃p xs i v,x=.ref p/\y=.int i/\SqL K H p xs/\atI xs i=some v/\Q v H
def rIxT (K:W.Frag):R2:=fun x y H Q=>∃p xs i v,x=.ref p/\y=.int i/\SqT K H p xs/\atI xs i=some v/\Q v H
def rIxS:R2:=fun x y H Q=>∃z i c,x=.str z/\y=.int i/\z.length<=Yr/\atI z.cps.toList i=some c/\Q (.str ⟨#[c]⟩) H
theorem ix_list:IxR X (rIxL X.K):=by
 intro value slice pins s σ H x y v u Q I rx ry h hs
 obtain ⟨p,xs,i,z,rfl,rfl,hq,he,q⟩:=h
 cases rx
 obtain ⟨t,rfl⟩:=ry
 obtain ⟨its,r,pl,hz⟩:=I.list hq
 obtain ⟨j,h1,h2,h3,h4,h5⟩:=atI_get he
 obtain ⟨w,ew,rw'⟩:=r.get h2
 have hl:=r.length
 have hn:=line63
 have fin:EP X pins σ Q w s:=⟨z,H,I,rw',q⟩
 by_cases h0:0<=i
 ·have hj:i.toNat=j:=by
   rw[seqIndex_of h0 h5] at h1
   exact YI h1
  exact item_listR pl.isList h0 1e2 (by rw[hj];simpa using ew) fin hs
 ·have hj:(i + (its.toArray.size:Int)).toNat=j:=by
   rw[seqIndex_neg 1e2 h4] at h1
   rw[Yn,←hl]
   exact YI h1
  exact subscriptTail_builtinR (x:=w) pl.isList.typeIs slot_list_getitem.lookup
   (wpAny_getItem_list_neg (Q:=fun r s'=>r=w/\EP X pins σ Q r s') pl.isList 1e2 (by rw[Yn]<;>lia) 1e2 (by rw[hj];simpa using ew) ⟨rfl,fin⟩) hs
theorem ix_tup:IxR X (rIxT X.K):=by
 intro value slice pins s σ H x y v u Q I rx ry h hs
 obtain ⟨p,xs,i,z,rfl,rfl,hq,he,q⟩:=h
 cases rx
 obtain ⟨t,rfl⟩:=ry
 obtain ⟨its,r,pl,hz⟩:=I.tuple hq
 obtain ⟨j,h1,h2,h3,h4,h5⟩:=atI_get he
 obtain ⟨w,ew,rw'⟩:=r.get h2
 have hl:=r.length
 have hn:=line63
 have fin:EP X pins σ Q w s:=⟨z,H,I,rw',q⟩
 exact subscriptTail_builtinR (x:=w) pl.typeIs slot_tuple_getitem.lookup
  (getItem_tuple (j:=j) (Q:=fun r s'=>r=w/\EP X pins σ Q r s') pl 1e2 1e2 (by rw[Yn,←hl];exact h1) (by simpa using ew) ⟨rfl,fin⟩) hs
theorem ix_str:IxR X rIxS:=by
 intro value slice pins s σ H x y v u Q I rx ry h hs
 obtain ⟨z,i,c,rfl,rfl,hz,he,q⟩:=h
 obtain ⟨t,rfl⟩:=rx
 obtain ⟨t',rfl⟩:=ry
 obtain ⟨j,h1,h2,h3,h4,h5⟩:=atI_get he
 have hl:z.cps.toList.length=z.length:=by simp[Str.length]
 rw[hl] at h1 h4 h5
 have hn:=line63
 exact tail_any (typeIs_str s z t) slot_str_getitem.lookup (getItem_str (c:=c) (by
  have e1:decide (i < -(2 ^ 63:Int))=false:=decide_eq_false 1e2
  have e2:decide (i ≥ 2 ^ 63)=false:=decide_eq_false 1e2
  rw[e1,e2,Bool.or_false]) (by rw[h1];simpa using h2) ⟨.str ⟨#[c]⟩,H,I.tok _,⟨_,rfl⟩,q⟩) hs
def rIx (K:W.Frag):R2:=fun x y H Q=>rIxL K x y H Q\/rIxT K x y H Q\/rIxS x y H Q
theorem ix_seq:IxR X (rIx X.K):=ix_list.or (ix_tup.or ix_str)
theorem mapSeq_set (its:2e5)(n j:Nat)(u:Value):XN (·.setIfInBounds j u) { cls:=.type "list",data:=.seq its.toArray n }={ cls:=.type "list",data:=.seq (its.set j u).toArray n }:=by
 simp[XN]
theorem Inv.lst {pins:1e6}{σ:St}{H:Hp}{s:Shared}{p:Addr}{xs:List V}(I:1e7)(h:H p=some (.lst xs)):
  ∃(its:2e5) (n:Nat),Vals xs its/\s.heap.get? p=some { cls:=.type "list",data:=.seq its.toArray n }/\xs.length<=sizeLine:=by
 obtain ⟨z,its,n,r,e⟩:=I.hok p _ h
 exact ⟨its,n,r,e,z⟩
theorem Inv.lstUpd {pins:1e6}{σ:St}{H:Hp}{s:Shared}{p:Addr}{xs ys:List V}{its its':2e5}{n n':Nat}{f:Obj->Obj}(I:1e7)(h:H p=some (.lst xs))
  (ho:s.heap.get? p=some { cls:=.type "list",data:=.seq its.toArray n }) (hf:f { cls:=.type "list",data:=.seq its.toArray n }={ cls:=.type "list",data:=.seq its'.toArray n' }) (r:Vals ys its') (hz:ys.length<=Yr) (t:Nat):
  Inv X pins σ (upd H p (.lst ys)) { s with heap:=s.heap.update p f,toks:=t }:=by
 have e:(s.heap.update p f).get? p=some { cls:=.type "list",data:=.seq its'.toArray n' }:=by
  rw[Xn f ho (by rw[hf]<;>rfl),hf]
 refine I.write (x:=p) (e:=p) (by rw[h];trivial) (.inl rfl) (fun b u hb q=>(Heap.get?_update_other _ _ (XH hb)).trans q) ⟨_,e⟩ ?_
 exact ⟨hz,its',n',r,e⟩
def rSetL:V->V->V->Hp->(Hp->Prop)->Prop:=fun o i v H Q=>∃p xs k j,o=.ref p/\i=.int k/\H p=some (.lst xs)/\ixN xs.length k=some j/\Q (upd H p (.lst (xs.set j v)))
theorem set_list:PSet X rSetL:=by
 intro pins s σ H o i v ov iv u Q I ro ri rv h
 obtain ⟨p,xs,k,j,rfl,rfl,hp,hj,q⟩:=h
 cases ro
 obtain ⟨t,rfl⟩:=ri
 obtain ⟨its,n,r,ho,hz⟩:=I.lst hp
 obtain ⟨h1,h2,h3,h4⟩:=ixN_seq hj
 have hl:=r.length
 have hn:=line63
 have I':Inv X pins σ (upd H p (.lst (xs.set j v))) { s with heap:=s.heap.update p (XN (·.setIfInBounds j u)) }:=
  I.lstUpd hp ho (mapSeq_set its n j u) (r.set rv j) (by rw[XB];exact hz) s.toks
 by_cases h0:0<=k
 ·have hk:k.toNat=j:=by
   rw[seqIndex_of h0 h4] at h1
   exact YI h1
  exact W.ki_setAt ho h0 1e2 (by rw[Yn,←hl];exact h4) (by rw[hk];exact ⟨_,I',q⟩)
 ·have hk:(k + (its.toArray.size:Int)).toNat=j:=by
   rw[seqIndex_neg 1e2 h3] at h1
   rw[Yn,←hl]
   exact YI h1
  exact W.ki_setBack ho 1e2 (by rw[Yn,←hl];exact h3) 1e2 (by rw[hk];exact ⟨_,I',q⟩)
theorem slice_bounds (lo hi:Option Int)(n:Nat):(VY lo hi none n).1=((HT.sIx n 0 lo:Nat):Int)/\(VY lo hi none n).2.1=((HT.sIx n n hi:Nat):Int)/\(VY lo hi none n).2.2=1:=by
 refine ⟨?_,?_,rfl⟩
 ·cases lo with
  | none=>simp[VY,HT.sIx]
  | some i=>
   simp only[VY,HT.sIx,Option.getD_none,show (1:Int) > 0 by decide,if_true]
   by_cases h:i < 0
   ·simp only[h,if_true]<;>lia
   ·simp only[h,if_false]<;>lia
 ·cases hi with
  | none=>simp[VY,HT.sIx]
  | some i=>
   simp only[VY,HT.sIx,Option.getD_none,show (1:Int) > 0 by decide,if_true]
   by_cases h:i < 0
   ·simp only[h,if_true]<;>lia
   ·simp only[h,if_false]<;>lia
theorem slicePick_cut (its:2e5)(lo hi:Option Int):slicePick its.toArray lo hi none=((its.drop (HT.sIx its.length 0 lo)).take (HT.sIx its.length its.length hi - HT.sIx its.length 0 lo)).toArray:=by
 obtain ⟨h1,h2,h3⟩:=slice_bounds lo hi its.toArray.size
 unfold slicePick
 rw[h1,h2,h3]
 simp only[sliceRange_one,pick_run,Yn]<;>rfl
def rSlL (K:W.Frag):V->Option Int->Option Int->Hp->VK->Prop:=fun x lo hi H Q=>∃a xs,x=.ref a/\SqL K H a xs/\∀p,H p=none->Q (.ref p) (upd H p (.lst (cutV xs lo hi)))
theorem sl_list:SlR X (rSlL X.K):=by
 intro pins s σ H x v vl vu lo hi sl Q I rx hs pl pu h
 obtain ⟨a,xs,rfl,hx,q⟩:=h
 cases rx
 obtain ⟨its,r,ht,hz⟩:=I.list hx
 have hlen:=r.length
 refine ⟨"list",_,slot_list_getitem.lookup,ht.isList.typeIs,?_⟩
 refine wpAny_getItem_list_slice ht.isList hs pl pu .none 3e0 ?_ (by rw[Yn]<;>lia)
 rw[slicePick_cut,←hlen]
 refine ⟨.ref s.heap.objs.size,_,I.laid (t':=s.toks) (o:=.lst (cutV xs lo hi)) (fun b ob q=>Yb _ q) (Yi _) ?_,rfl,q _ (I.hok.fresh (Yi _))⟩
 exact ⟨YQ (Zdj xs lo hi) hz,_,0,(r.drop (HT.sIx xs.length 0 lo)).take (HT.sIx xs.length xs.length hi - HT.sIx xs.length 0 lo),Ye _ rfl⟩
theorem CallR.or {f:Value}{r r':List V->Hp->VK->Prop}(h:CallR X f r)(h':CallR X f r'):CallR X f (fun xs H Q=>r xs H Q\/r' xs H Q):=by
 intro pins s σ H xs us Q I rs q
 rcases q with q | q
 ·exact h pins s σ H xs us Q I rs q
 ·exact h' pins s σ H xs us Q I rs q
theorem call_tuple_of:CallR X (.type "tuple") (fun xs H Q=>∃p ys,xs=[.ref p]/\((SqL X.K H p ys/\∀l,H l=none->Q (.ref l) (upd H l (.tup ys)))\/(SqT X.K H p ys/\Q (.ref p) H))):=by
 intro pins s σ H xs us Q I r h
 obtain ⟨p,ys,rfl,h⟩:=h
 obtain ⟨u,rfl,rx⟩:=vals1 r
 cases rx
 rcases h with ⟨hq,q⟩ | ⟨hq,q⟩
 ·obtain ⟨its,r',pl,hz⟩:=I.list hq
  have hlen:=r'.length
  refine call_tuple_list pl.isList (fun h' kp=>?_) (by simp only[Yn]<;>lia)
  have I1:Inv X pins σ H { s with heap:=h' }:=I.kept (t':=s.toks) kp
  have I2:Inv X pins σ (upd H h'.objs.size (.tup ys)) { s with heap:=h'.push { cls:=.type "tuple",data:=.seq its.toArray } }:=
   I1.laid (t':=s.toks) (fun b o e=>Yb _ e) (Yi _) (show ObjOk X.prog X.w _ _ _ (.tup ys) from ⟨hz,its,r',IsTup.new _ _⟩)
  exact ⟨.ref h'.objs.size,_,I2,rfl,q _ (I1.hok.fresh (Yi _))⟩
 ·obtain ⟨its,r',pl,hz⟩:=I.tuple hq
  exact call_tuple_same pl ⟨.ref p,H,I,rfl,q⟩
def tyV (K:W.Frag)(T:String)(x:V)(H:Hp):Prop:=match x with
 | .str _=>T="str"
 | .int _=>T="int"
 | .ref p=>(T="list"/\∃xs,SqL K H p xs)\/(T="tuple"/\∃o,K.lookup p=some o/\o.cls=.type "tuple"/\o.dict=none)\/
   (T="dict"/\((∃kvs,H p=some (.dK kvs))\/∃kvs,H p=some (.dT kvs)))\/(T="set"/\∃S n,H p=some (.set S n))
 | _=>False
theorem tyV_is {pins:1e6}{σ:St}{H:Hp}{s:Shared}{T:String}{x:V}{v:Value}(I:1e7)(r:RelV x v)(ty:tyV X.K T x H):
  s.TypeIs v T/\∀a,v=.ref a->∃ob,s.heap.get? a=some ob/\ob.dict=none:=by
 cases x with
 | str z=>
  obtain ⟨t,rfl⟩:=r
  cases (show T="str" from ty)
  exact ⟨typeIs_str s z t,fun _ e=>nomatch e⟩
 | int i=>
  obtain ⟨t,rfl⟩:=r
  cases (show T="int" from ty)
  exact ⟨typeIs_int s i t,fun _ e=>nomatch e⟩
 | ref p=>
  cases r
  rcases ty with ⟨rfl,xs,hq⟩ | ⟨rfl,o,hk,hc,hd⟩ | ⟨rfl,hk⟩ | ⟨rfl,S,n,hk⟩
  ·obtain ⟨its,_,pl,_⟩:=I.list hq
   refine ⟨pl.isList.typeIs,fun a e=>?_⟩
   cases e
   obtain ⟨o,n,e,c,hd,_⟩:=pl
   exact ⟨o,e,hd⟩
  ·refine ⟨⟨o,I.kIn p o hk,hc⟩,fun a e=>?_⟩
   cases e
   exact ⟨o,I.kIn _ o hk,hd⟩
  ·have z:∃o,s.heap.get? p=some o/\o.ExactDict:=by
    rcases hk with ⟨kvs,hk⟩ | ⟨kvs,hk⟩
    ·obtain ⟨_,_,_,_,o,_,_,e,ex,_⟩:=I.hok p _ hk
     exact ⟨o,e,ex⟩
    ·obtain ⟨_,_,_,_,o,_,_,e,ex,_⟩:=I.hok p _ hk
     exact ⟨o,e,ex⟩
   obtain ⟨o,e,ex⟩:=z
   refine ⟨⟨o,e,ex.1⟩,fun a e2=>?_⟩
   cases e2
   exact ⟨o,e,ex.2.1⟩
  ·obtain ⟨o,_,_,_,e,ex,_⟩:=I.hok p _ hk
   refine ⟨⟨o,e,ex.1⟩,fun a e2=>?_⟩
   cases e2
   exact ⟨o,e,ex.2.1⟩
 | _=>exact WW ty
def tBM (K:W.Frag)(T:String)(r:V->List V->Hp->VK->Prop)(to:TE)(t:TA):TE:=fun σ H Q=>to σ H fun x H1=>tyV K T x H1/\t σ H1 fun xs H2=>r x xs H2 Q
variable {o e:Expr}{es:3e2}{to:TE}{t:TA}{name:Str}{apos cpos:Pos}{T id:String}{r:V->List V->Hp->VK->Prop}
theorem pe_bm (pa:PlainAttrs T)(slot:Slot T name id)(hty:typeOf (.builtin id)=pure (.type "method_descriptor"))(hm:MtR X id r)(ho:PE X o to)(ha:PA X 4e6 t)
  (hbase:XW o name X.env (eval o X.env)=eval o X.env:=by rfl)
  (hfew:((backTo cpos (Ys 4e6 X.env)).all (fun x=>!x.1)&&(backToKw cpos (U4 [] X.env)).all (fun x=>x.1.isSome)
   &&decide ((e::es).length + ([]:List U5).length + (if ([]:List U5).isEmpty then 0 else 1) < 30))=true:=by rfl)
  (hline:(apos.endLine==cpos.line)=true:=by rfl) (hs:1e5:=by rfl) (hplain:(backTo cpos (Ys es X.env)).any (·.1)=false:=by rfl):
  PE X (.Call (.Attribute o name apos) 4e6 [] cpos) (tBM X.K T r to t):=by
 intro pins s σ H Q I h
 refine wpAny_Call_method_late hbase hfew hline rfl (thn (ho pins s σ H _ I h) fun v s1 h_=>?_)
 obtain ⟨x,H1,I1,r1,ty,q1⟩:=h_
 obtain ⟨h1,h2⟩:=tyV_is I1 r1 ty
 refine ⟨T,id,pa,slot,hty,h1,h2,?_⟩
 have hA:=ha cpos pins s1 σ H1 _ I1 q1
 rw[hs] at hA ⊢
 refine WZ (by show (false||(backTo cpos (Ys es X.env)).any (·.1))=false;rw[hplain]<;>rfl) (Calls.evalArgs_plain ?_)
 exact thn hA fun us s2 ⟨vs,H2,I2,r2,q2⟩=>hm pins s2 σ H2 x vs v us Q I2 r1 r2 q2
end
def MtM (X:Cx)(id:String)(r:V->List V->Hp->VK->Prop):Prop:=
 ∀(pins:1e6) (s:Shared) (σ:St) (H:Hp) (x:V) (xs:List V) (v:Value) (us:2e5) (Q:VK),Inv X pins σ H s->RelV x v->Vals xs us->r x xs H Q->
  wpAny 2e0 X.A (call (.builtin id) (v::us)) (EP X pins σ Q) X.xe s
theorem Vals.one:∀{x:V} {us:2e5},Vals [x] us->∃u,us=[u]/\RelV x u:=by
 intro x us r
 cases r with
 | cons r t=>cases t;exact ⟨_,rfl,r⟩
section
variable {X:Cx}{pins:1e6}{σ:St}{H:Hp}{s:Shared}{l b:Addr}{xs ys zs:List V}
theorem Inv.lset {its its':2e5}{n:Nat}{f:Array Value->Array Value}{t':Nat}(I:1e7)(hH:H l=some (.lst xs))
  (e:s.heap.get? l=some { cls:=.type "list",data:=.seq its.toArray n }) (hf:f its.toArray=its'.toArray) (hv:Vals ys its') (hz:ys.length<=Yr):
  Inv X pins σ (upd H l (.lst ys)) { s with heap:=s.heap.update l (XN f),toks:=t' }:=by
 have q:=PySem.IsL.update e f
 rw[hf] at q
 refine I.write (x:=l) (e:=l) (by rw[hH];exact trivial) (.inl rfl) (fun b' u hb hu=>(Heap.get?_update_other s.heap (XN f) (XH hb)).trans hu) ⟨_,q⟩ ?_
 exact ⟨hz,its',_,hv,q⟩
theorem Inv.lnew {its:2e5}{t':Nat}(I:1e7)(hv:Vals ys its)(hz:ys.length<=Yr):
  Inv X pins σ (upd H s.heap.objs.size (.lst ys)) { s with heap:=s.heap.push { cls:=.type "list",data:=.seq its.toArray },toks:=t' }:=
 I.laid (fun _ _ q=>Yb _ q) (Yi _) ⟨hz,its,0,hv,Ye _ rfl⟩
theorem Inv.fresh (I:1e7):H s.heap.objs.size=none:=I.hok.fresh (Yi _)
theorem Inv.lstM (I:1e7)(hH:H l=some (.lst xs)):xs.length<=Yr/\∃(its:2e5) (n:Nat),Vals xs its/\xs.length=its.length/\s.heap.get? l=some { cls:=.type "list",data:=.seq its.toArray n }:=by
 obtain ⟨z,its,n,r,e⟩:=I.hok l _ hH
 exact ⟨z,its,n,r,r.length,e⟩
theorem notLongL {n:Nat}(h:n<=Yr):Wy n=false:=by
 unfold Wy
 exact decide_eq_false 1e2
end
section
variable {X:Cx}
def rAppend:V->List V->Hp->VK->Prop:=fun x vs H Q=>∃l xs y,x=.ref l/\vs=[y]/\H l=some (.lst xs)/\xs.length < Yr/\Q .non (upd H l (.lst (xs++[y])))
theorem mt_append:MtM X "list.append" rAppend:=by
 intro pins s σ H x vs v us Q I rx rv h
 obtain ⟨l,xs,y,rfl,rfl,hH,hz,q⟩:=h
 cases rx
 obtain ⟨u,rfl,ru⟩:=rv.one
 obtain ⟨z,its,n,r,hl,e⟩:=I.lstM hH
 refine call_meets F.slot_list_append ⟨_,e,rfl⟩ F.entry_list_append (F.args_list_append_2 _ _) (PySem.list_append l its.toArray n u (by rw[Yn];lia)) ⟨e,?_⟩
 refine ⟨.non,_,I.lset (its':=its++[u]) hH e 3e0 (r.append (.cons ru .nil)) ?_,rfl,q⟩
 rw[Yu,W5]
 lia
end
end L2
namespace Att
open PySem PySem.W PySem.Calls PyProof.Rows
theorem Zdb {P:Params}{h:Heap}:∀(ns:List Int) (vs:2e5),WellAll P h vs (ns.map WData.int)->IntsAre vs ns:=by
 intro ns
 induction ns with
 | nil=>
  intro vs w
  rw[Yag] at w
  cases w
  exact .nil
 | cons n ns ih=>
  intro vs w
  rw[Ym] at w
  cases w with
  | cons a b=>
   cases a
   exact .cons _ _ (ih _ b)
theorem script_of {l:OpenLaw}{n:Nat}(hn:l.most=some n){P:Params}{h:Heap}{args:List WData}{vals:2e5}
    (hpre:l.row.toRowW.claim.pre args=true) (hwl:WellAll P h vals args):
    ∃a vs ns,vals=[YG a]/\args=[WData.list (ns.map WData.int)]/\h.get? a=some { cls:=.type "list",data:=.seq vs.toArray }/\IntsAre vs ns/\ns.length<=n:=by
  have hsh:WShape.hasAll [] args [.list .int]=true:=(pre_splitW hpre).1
  have hc:l.pre.holds [] { args:=args }=true:=(pre_splitW hpre).2
  obtain ⟨d,r,rfl,h1,h2⟩:=hasAllW_cons hsh
  obtain rfl:=hasAllW_nil h2
  obtain ⟨xs,rfl,h3⟩:=hasW_list h1
  obtain ⟨ns,rfl⟩:=items_int h3
  have hlen:ns.length<=n:=by
    unfold OpenLaw.pre at hc
    have h4:(WTm.not (.lt (.lit (.int (n:Int))) (.len (.arg 0)))).holds [] { args:=[.list (ns.map .int)] }=true:=by
      have h4:=(holds_andW hc).1
      rw[hn] at h4
      exact h4
    have h5:=condW_of h4 (w_not (w_lt w_lit (w_len_list (w_arg rfl))))
    rw[Yf] at h5
    refine Yaa fun q=>?_
    have q':(n:Int) < ((ns.length:Nat):Int):=by lia
    first
      | (rw[decide_eq_true q'] at h5;exact absurd h5 (by decide))
      | (simp at h5;lia)
  cases hwl with
  | cons w1 w2=>
    cases w2
    cases w1 with
    | list ho hall=>exact ⟨_,_,ns,rfl,rfl,ho,Zdb ns _ hall,hlen⟩
theorem post_true (l:OpenLaw)(args:List WData):l.row.toRowW.claim.post args (.bool true) args=true:=
 postW_of (r:=l.row.toRowW) (X:=(true==true))
  (show WShape.has [] (.bool true) .bool=true by first | rfl | decide | simp[WShape.has,WShape.arms,WShape.armsAll])
  (show (WTm.eq .res (.lit (.bool true))).value [] { args:=args,res:=some (.bool true),after:=args }=some (.bool (true==true)) from w_eq_bool (w_res rfl) w_lit) rfl
theorem attach_call {l:OpenLaw}{n:Nat}{q:Yy}{loose:4e0}{XP:(Str->Option Value)->Heap->Prop}{YP:World->Heap->Prop}{d:DefRec}
  (hn:l.most=some n) (hdf:d.params.defaults=[])
  (call:∀(w:World) (s₀ s₁:Shared) (mg mb:2e6) (fa:Addr) (o:Obj) (pm cd doc:Value) (a:Addr) (vs:2e5) (ns:List Int),
   Ground q loose [] XP w s₀ mg mb s₁.heap->YP w s₁.heap->
   s₁.heap.get? fa=some o->o.data=.func (docDef d.name d.params d.body d.scope pm cd doc)->s₁.heap.CodeRec cd d.name->mg d.name=some (.ref fa)->
   s₁.heap.get? a=some { cls:=.type "list",data:=.seq vs.toArray }->IntsAre vs ns->ns.length<=n->s₁.gens=#[]->
   XT (model l.prog w) Ybc (.call (.ref fa) ⟨[.ref a],[]⟩) (fun r s'=>r=.ok (.ret (.bool true))/\OldK s₁.heap s'.heap/\s'.os=s₁.os/\Yad s'.gens) s₁):
  WalkO q loose XP YP l.row.toRowW d [] (fun f vs=>PySem.call f vs):=by
 intro w s₀ s₁ mg mb G Y fa o pm cd doc dV kV ho hd hcd hD hmg hg args vals as hpre hlay hrd hwl hlo
 obtain rfl:dV=.none:=Dflts.none hD hdf
 obtain rfl:kV=.none:=Dflts.noKw hD
 obtain ⟨a,vs,ns,rfl,rfl,hobj,hints,hlen⟩:=script_of hn hpre hwl
 refine enter_call (V9 (call w s₀ s₁ mg mb fa o pm cd doc a vs ns G Y ho (fd_plain hd) hcd hmg hobj hints hlen hg) fun r s' hq=>?_)
 obtain ⟨rfl,h2,h3,h4⟩:=hq
 exact ⟨.inl ⟨.bool true,.bool true,[],rfl,fun _=>rfl,.bool true,post_true l _,fun _=>⟨List.Pairwise.nil,fun _ hm=>(nomatch hm)⟩⟩,h2,h3,h4⟩
end Att
namespace L2
open PySem PySem.Spec PyProof.Rows
theorem vals_ints:∀{vs:2e5} {ns:List Int},IntsAre vs ns->Vals (ns.map V.int) vs
 | _,_,.nil=>.nil
 | _,_,.cons n t h=>.cons ⟨t,rfl⟩ (vals_ints h)
def Only (H:Hp):Prop:=∀b,H b=none\/∃o xs,H b=some (.frz o (.lst xs))
theorem law_call {P:Yy}{w:World}{K:W.Frag}{mg mb:2e6}{CX:CXT}{k:Nat}{fa a:Addr}{fd:Wh}{x:Str}{sp:Sp}{s₁:Shared}{vs:2e5}{ns:List Int}
  (KX:K.In s₁.heap) (hns:s₁.heap.Ns U1 mg) (hb:s₁.heap.Ns builtinsNs mb) (hbb:∀x:Str,x≠"__name__"->mb x=Xz x) (hlim:s₁.heap.NoLimit) (hg:s₁.gens=#[])
  (ha:s₁.heap.get? a=some { cls:=.type "list",data:=.seq vs.toArray }) (hi:IntsAre vs ns) (hl:ns.length<=Yr) (hr:Room k Ybc)
  (F:∀base:Heap,K.In base->base.Ns U1 mg->FnOk P w K mg base CX k fa fd [x] sp) (hbind:∀(s:Shared) (u:Value),BindsTo s fd ⟨[u],[]⟩ [(x,u)])
  (hsp:∀H:Hp,Only H->SqL K H a (ns.map V.int)->sp [.ref a] H (fun v _=>v=.bl true) fun _ _ _=>False)
  (hCX:∀H e s',CX [] H s₁ (fun _ _ _=>False) e s'->False):
  XT (model P w) Ybc (.call (.ref fa) ⟨[.ref a],[]⟩) (fun r s'=>r=.ok (.ret (.bool true))/\OldK s₁.heap s'.heap/\s'.os=s₁.os/\Yad s'.gens) s₁:=by
 have rv:=vals_ints hi
 have lenV:=hi.length
 have core:∀H:Hp,Only H->SqL K H a (ns.map V.int)->HOk P w H s₁.heap->(∀b,H b≠none->b=a)->(H a≠none->K.lookup a=none)->
   XT (model P w) Ybc (.call (.ref fa) ⟨[.ref a],[]⟩) (fun r s'=>r=.ok (.ret (.bool true))/\OldK s₁.heap s'.heap/\s'.os=s₁.os/\Yad s'.gens) s₁:=by
  intro H hO hS hok hA hK
  have base_of:∀{b:Addr} {o:Obj},s₁.heap.get? b=some o->H b=none->(hidT s₁.heap H).get? b=some o:=fun e n=>hidT_get e n
  have noA:∀{b:Addr} {o:Obj} {es:Array VG} {ep:Nat},s₁.heap.get? b=some o->o.data=.dict es ep->H b=none:=fun {b o es ep} e d=>by
   cases q:H b with
   | none=>rfl
   | some u=>
    have e':b=a:=hA b (by rw[q];simp)
    subst e'
    rw[ha] at e;cases e
    have d':Data.seq vs.toArray _=Data.dict es ep:=d
    cases d'
  have nsK:∀{b:Addr} {m:2e6},s₁.heap.Ns b m->(hidT s₁.heap H).Ns b m:=fun {b m} ⟨o,es,ep,e,d,r⟩=>⟨o,es,ep,base_of e (noA e d),d,r⟩
  have hKb:K.In (hidT s₁.heap H):=fun b o e=>base_of (KX b o e) (by
   cases q:H b with
   | none=>rfl
   | some u=>
    have e':b=a:=hA b (by rw[q];simp)
    subst e'
    rw[hK (by rw[q];simp)] at e;cases e)
  have hM:Mod K mg (hidT s₁.heap H):=⟨hKb,nsK hns,⟨mb,nsK hb,hbb⟩,let ⟨mc,h1,h2⟩:=hlim;⟨mc,nsK h1,h2⟩⟩
  have e0:Env0 P w K mg (hidT s₁.heap H) Ybc [] s₁ H:=⟨rfl,hM,fun b o e=>of_hidT e,Nat.le_of_eq (hidT_size _ _),trivial,fun b hb=>absurd (show b∈([]:List Addr) from hb) 3e0,hok,.of_eq hg⟩
  refine V9 ((F _ hKb (nsK hns)).run Ybc [] s₁ H ⟨[.ref a],[]⟩ [.ref a] [.ref a] _ _ hr e0 (hbind s₁ (.ref a)) (.cons rfl .nil) (hsp H hO hS)) fun r s' h=>?_
  cases r with
  | error e=>exact (hCX H e s' h).elim
  | ok fl=>
   cases fl with
   | next=>exact WW h
   | brk=>exact WW h
   | cont=>exact WW h
   | ret u=>
    obtain ⟨v,H',os,bare,un,hok',r',q⟩:=h
    have q':v=.bl true:=q
    subst q'
    obtain rfl:u=UT true:=r'
    refine ⟨rfl,OldK.of_keep fun b o e=>?_,os,bare⟩
    cases q:H b with
    | none=>exact un.keep b o e q (by intro z;exact absurd (show b∈([]:List Addr) from z) 3e0) 3e0
    | some u=>
     rcases hO b with z | ⟨ob,xs,z⟩
     ·rw[q] at z;cases z
     ·have z2:=un.frzs b ob _ z
      obtain ⟨e1,_⟩:=hok b _ z
      obtain ⟨e2,_⟩:=hok' b _ z2
      rw[e] at e1;cases e1
      exact e2
 cases hk:K.lookup a with
 | some o=>
  have e:=KX a o hk
  rw[ha] at e
  cases e
  refine core (fun _=>none) (fun _=>.inl rfl) (.inr ⟨_,vs.toArray,_,hk,rfl,rfl,rfl,by rw[Yn,lenV];exact hl,by simpa using rv⟩) (fun b u z=>by have z':(none:Option HO)=some u:=z;cases z') (fun b z=>absurd rfl z) fun z=>absurd rfl z
 | none=>
  refine core (fun b=>if b=a then some (.frz { cls:=.type "list",data:=.seq vs.toArray } (.lst (ns.map V.int))) else none) (fun b=>?_) (.inl (.inr ⟨{ cls:=.type "list",data:=.seq vs.toArray },if_pos rfl⟩)) (fun b u z=>?_) (fun b z=>?_) fun _=>hk
  ·by_cases hb:b=a
   ·exact .inr ⟨_,_,if_pos hb⟩
   ·exact .inl (if_neg hb)
  ·by_cases hb:b=a
   ·have z':=(if_pos hb).symm.trans z
    cases z'
    subst hb
    exact ⟨ha,by rw[Yf];exact hl,vs,_,rv,ha⟩
   ·have z':=(if_neg hb).symm.trans z
    cases z'
  ·by_cases hb:b=a
   ·exact hb
   ·exact absurd (if_neg hb) z
def defArgs (s:Stmt):Arguments:=match s with
 | .FunctionDef _ a _ _ _ _ _ _ _ _=>a
 | _=>{ posonlyargs:=[],args:=[],vararg:=none,kwonlyargs:=[],kw_defaults:=[],kwarg:=none,defaults:=[] }
def defBody (s:Stmt):List Stmt:=match s with
 | .FunctionDef _ _ b _ _ _ _ _ _ _=>b
 | _=>[]
def defScope (s:Stmt):Scope:=match s with
 | .FunctionDef _ _ _ _ _ _ sc _ _ _=>sc
 | _=>{ kind:=.function,names:=[],isGenerator:=false,isCoroutine:=false }
abbrev CX0:CXT:=fun _ _ _ _ _ _=>False
abbrev E0:XK:=fun _ _ _=>False
theorem pass0 {X:Cx}:Passes CX0 X E0:=fun _ _ _ _ _ _ _ h=>h.elim
structure Fun (K:W.Frag)(x qual:Str)(st:Stmt)(f:Addr)(fd:Wh):Prop where
 ex:∃(oc:Value) (od:Option Addr) (kV doc pm:Value) (an:Option Addr) (cdv ct:Value) (osl:Array (Option Value)),
  fd=W.fnOf x qual (defArgs st) (defBody st) (defScope st) .none kV doc pm an cdv ct/\K.lookup f=some ⟨oc,od,.func fd,osl⟩/\W.codeIn K cdv qual=true
 kp:U3 K (.ref f)=true
section
variable {P:Yy}{w:World}{K:W.Frag}{mg:2e6}{base:Heap}
theorem Fun.ok {x qual:Str}{st:Stmt}{f:Addr}{fd:Wh}{N ps:4e0}{k:Nat}{sp:Sp}(F:Fun K x qual st f fd)(S:FnScope N ps (defScope st))(len:∀vs H Q E,sp vs H Q E->vs.length=ps.length)
  (hbody:∀(cdv:Value) (A:Around) (outer:List Env) (s:Shared) (H:Hp) (vs:List V) (Q:VK) (E:XK),Room k (A.deeper (envOfC qual (defScope st) s.heap.objs.size f cdv))->sp vs H Q E->
   ∃t,PSs (cxOf CX0 P w K mg base N qual (defScope st) f cdv A outer s H E).nox (defBody st) t/\t { nx:=fun _ H'=>Q .non H',rt:=Q } (start N vs) H):FnOk P w K mg base CX0 (k + 1) f fd ps sp:=by
 obtain ⟨oc,od,kV,doc,pm,an,cdv,ct,osl,rfl,lk,hcd⟩:=F.ex
 refine fn_of lk hcd S len fun A outer s H vs Q E hr hsp=>?_
 obtain ⟨t,h,q⟩:=hbody cdv A outer s H vs Q E hr hsp
 exact ⟨t,h.nox,q⟩
theorem Fun.binds {x qual:Str}{st:Stmt}{f:Addr}{fd:Wh}{ps:4e0}(F:Fun K x qual st f fd)
  (h:∀(kV doc pm:Value) (an:Option Addr) (cdv ct:Value) (us:2e5),us.length=ps.length->bindArgs (W.fnOf x qual (defArgs st) (defBody st) (defScope st) .none kV doc pm an cdv ct) ⟨us,[]⟩=pure (ps.zip us)):Binds K fd ps []:=by
 obtain ⟨oc,od,kV,doc,pm,an,cdv,ct,osl,rfl,lk,hcd⟩:=F.ex
 exact .all (h kV doc pm an cdv ct)
theorem fun_mk {x qual:Str}{st:Stmt}{f:Addr}{oc:Value}{od an:Option Addr}{osl:Array (Option Value)}{kV doc pm cdv ct:Value}(l:K.lookup f=some ⟨oc,od,.func (W.fnOf x qual (defArgs st) (defBody st) (defScope st) .none kV doc pm an cdv ct),osl⟩)
  (c:W.codeIn K cdv qual=true) (k:U3 K (.ref f)=true):Fun K x qual st f (W.fnOf x qual (defArgs st) (defBody st) (defScope st) .none kV doc pm an cdv ct):=⟨⟨oc,od,kV,doc,pm,an,cdv,ct,osl,rfl,l,c⟩,k⟩
end
theorem Zas {A:Around}{k:Nat}(hr:Room k A):A.units + 1 < cLine:=UI (Nat.add_le_add_left (by decide:1<=64) _) hr.units
section
variable {X:Cx}
theorem pv (i:Nat){x:Str}{pos:Pos}(hN:X.N[i]? = some x:=by rfl)(hv:Vis X.env.scope x:=by first | exact Or.inl rfl | exact Or.inr 3e3 | exact Or.inr (Or.inr rfl))(hd:3e4:=by decide)
  (hcd:(x==("__classdict__":Str))=false:=by decide):PE X (.Name x pos) (tVar i):=pe_var hN hv hd hcd
end
end L2
set_option maxHeartbeats 4000000
namespace L2
open PySem PySem.Spec PyProof.Rows
section
variable {κ:Type} [DecidableEq κ]
def valV (kvs:List (κ×V))(k:κ):Option V:=(kvs.find? fun kv=>decide (kv.1=k)).map (·.2)
def putK (kvs:List (κ×V))(k:κ)(v:V):List (κ×V):=
 if (kvs.any fun kv=>decide (kv.1=k))=true then kvs.map (fun kv=>if kv.1=k then (kv.1,v) else kv) else kvs++[(k,v)]
theorem Zbr {p:κ×V}{r:List (κ×V)}{k:κ}(e:p.1=k):valV (p::r) k=some p.2:=by simp[valV,W6,e]
theorem Zbs {p:κ×V}{r:List (κ×V)}{k:κ}(e:¬p.1=k):valV (p::r) k=valV r k:=by simp[valV,W6,e]
theorem valV_any (k:κ):∀kvs:List (κ×V),(kvs.any fun kv=>decide (kv.1=k))=(valV kvs k).isSome
 | []=>rfl
 | p::r=>by
  rw[Xg]
  by_cases e:p.1=k
  ·simp only[Zbr e,decide_eq_true e,Bool.true_or,Option.isSome_some]
  ·rw[Zbs e,decide_eq_false e,Bool.false_or];exact valV_any k r
theorem ZaU (kvs:List (κ×V))(k:κ)(v:V):(putK kvs k v).length<=kvs.length + 1:=by
 unfold putK
 split
 ·rw[Yf];lia
 ·rw[Yu,YC,Wz];lia
theorem RelO.isSome_eq {o:Option V}{u:Option Value}(r:RelO o u):o.isSome=u.isSome:=by
 cases o with
 | none=>cases u with
  | none=>rfl
  | some _=>exact (show False from r).elim
 | some _=>cases u with
  | none=>exact (show False from r).elim
  | some _=>rfl
theorem KV.val {kvs:List (κ×V)}{vs:List (κ×Value)}(r:KV kvs vs)(k:κ):RelO (valV kvs k) (Ybd vs k):=by
 unfold KV at r
 induction r with
 | nil=>exact Uo
 | @cons p q ps qs h t ih=>
  obtain ⟨h1,h2⟩:=h
  by_cases e:p.1=k
  ·have e':q.1=k:=h1.symm.trans e
   have b:Ybd (q::qs) k=some q.2:=by simp[Ybd,W6,e']
   rw[Zbr e,b];exact h2
  ·have e':¬q.1=k:=fun z=>e (h1.trans z)
   have b:Ybd (q::qs) k=Ybd qs k:=by simp[Ybd,W6,e']
   rw[Zbs e,b];exact ih
theorem KV.any {kvs:List (κ×V)}{vs:List (κ×Value)}(r:KV kvs vs)(k:κ):(kvs.any fun kv=>decide (kv.1=k))=vs.any fun kv=>decide (kv.1=k):=by
 unfold KV at r
 induction r with
 | nil=>rfl
 | cons h t ih=>rw[Xg,Xg,ih,h.1]
theorem KV.repl {kvs:List (κ×V)}{vs:List (κ×Value)}(r:KV kvs vs)(k:κ){y:V}{u:Value}(ry:RelV y u):
  KV (kvs.map fun kv=>if kv.1=k then (kv.1,y) else kv) (vs.map fun kv=>if kv.1=k then (kv.1,u) else kv):=by
 unfold KV at r ⊢
 induction r with
 | nil=>exact .nil
 | @cons p q ps qs h t ih=>
  rw[Ym,Ym]
  refine .cons ?_ ih
  obtain ⟨h1,h2⟩:=h
  by_cases e:p.1=k
  ·rw[if_pos e,if_pos (h1.symm.trans e)];exact ⟨h1,ry⟩
  ·rw[if_neg e,if_neg (fun z=>e (h1.trans z))];exact ⟨h1,h2⟩
theorem KV.put {kvs:List (κ×V)}{vs:List (κ×Value)}(r:KV kvs vs)(k:κ){y:V}{u:Value}(ry:RelV y u):KV (putK kvs k y) (stored vs k u):=by
 unfold putK stored
 rw[r.any k]
 by_cases e:(vs.any fun kv=>decide (kv.1=k))=true
 ·rw[if_pos e,if_pos e];exact r.repl k ry
 ·rw[if_neg e,if_neg e];exact Paired.snoc r ⟨rfl,ry⟩
theorem KV.keys {kvs:List (κ×V)}{vs:List (κ×Value)}(r:KV kvs vs):kvs.map (·.1)=vs.map (·.1):=by
 unfold KV at r
 induction r with
 | nil=>rfl
 | cons h t ih=>rw[Ym,Ym,ih,h.1]
theorem KV.length {kvs:List (κ×V)}{vs:List (κ×Value)}(r:KV kvs vs):kvs.length=vs.length:=Wm r
end
theorem kV_is {P:Yy}{w:World}{k:Key}{u:Value}(r:RelV (kV k) u):(mixKind P w).is k u=true:=by
 cases k with
 | inl i=>obtain ⟨t,e⟩:=(show ∃t,u=Value.int i t from r);subst e;exact mixKind_int P w i t
 | inr x=>obtain ⟨t,e⟩:=(show ∃t,u=Value.str x t from r);subst e;exact mixKind_str P w x t
theorem items_are {P:Yy}{w:World}:∀{ks:5e6} {us:2e5},Vals (ks.map kV) us->ItemsAre (mixKind P w) ks us
 | [],_,r=>by rw[Yag] at r;cases r;exact .nil
 | k::ks,_,r=>by
  rw[Ym] at r
  cases r with
  | cons h t=>exact .cons (kV_is h) (items_are t)
abbrev KT (H:Hp):List (List Key×V)->List 7e9->Prop:=Paired fun p q=>p.1=q.1/\H q.2.1=some (.tup (p.1.map kV))/\RelV p.2 q.2.2
theorem KT.val {H:Hp}{kvs:5e4}{xs:List 7e9}(r:KT H kvs xs)(k:5e6):RelO (valV kvs k) ((atKey xs k).map (·.2)):=by
 induction r with
 | nil=>exact Uo
 | @cons p q ps qs h t ih=>
  obtain ⟨h1,_,h2⟩:=h
  by_cases e:p.1=k
  ·have e':q.1=k:=h1.symm.trans e
   have b:atKey (q::qs) k=some q.2:=by simp[atKey,W6,e']
   rw[Zbr e,b];exact h2
  ·have e':¬q.1=k:=fun z=>e (h1.trans z)
   have b:atKey (q::qs) k=atKey qs k:=by simp[atKey,W6,e']
   rw[Zbs e,b];exact ih
theorem KT.repl {H:Hp}{kvs:5e4}{xs:List 7e9}(r:KT H kvs xs)(k:5e6){y:V}{u:Value}(ry:RelV y u):
  KT H (kvs.map fun kv=>if kv.1=k then (kv.1,y) else kv) (xs.map (putAt k u)):=by
 induction r with
 | nil=>exact .nil
 | @cons p q ps qs h t ih=>
  rw[Ym,Ym]
  refine .cons ?_ ih
  obtain ⟨h1,h2,h3⟩:=h
  unfold putAt
  by_cases e:p.1=k
  ·rw[if_pos e,if_pos (h1.symm.trans e)];exact ⟨h1,h2,ry⟩
  ·rw[if_neg e,if_neg (fun z=>e (h1.trans z))];exact ⟨h1,h2,h3⟩
theorem KT.put {H:Hp}{kvs:5e4}{xs:List 7e9}(r:KT H kvs xs)(k:5e6){b:Addr}{y:V}{u:Value}(hb:H b=some (.tup (k.map kV)))(ry:RelV y u):
  KT H (putK kvs k y) (storedH xs k b u):=by
 have e:(kvs.any fun kv=>decide (kv.1=k))=(atKey xs k).isSome:=by
  rw[valV_any,(r.val k).isSome_eq,UW]
 unfold putK storedH
 rw[e]
 by_cases q:(atKey xs k).isSome=true
 ·rw[if_pos q,if_pos q];exact r.repl k ry
 ·rw[if_neg q,if_neg q];exact Paired.snoc r ⟨rfl,hb,ry⟩
theorem KT.keeps {H H':Hp}{kvs:5e4}{xs:List 7e9}(r:KT H kvs xs)(ht:∀b ys,H b=some (.tup ys)->H' b=some (.tup ys)):KT H' kvs xs:=
 Paired.mapP r fun _ _ z=>⟨z.1,ht _ _ z.2.1,z.2.2⟩
section
variable {P:Yy}{w:World}{H:Hp}{h:Heap}{a:Addr}
theorem rd_of {u:HO}(ok:HOk P w H h)(e:Rd H a u):ObjOk P w H h a u:=e.ok ok
theorem dk_rd {kvs:List (Key×V)}(ok:HOk P w H h)(e:Rd H a (.dK kvs)):kvs.length<=Yr/\(a==XE)=false/\∃vs,KV kvs vs/\h.DictOf (mixKind P w) a vs:=
 show ObjOk P w H h a (.dK kvs) from rd_of ok e
theorem dk_of {kvs:List (Key×V)}(ok:HOk P w H h)(e:H a=some (.dK kvs)):kvs.length<=Yr/\(a==XE)=false/\∃vs,KV kvs vs/\h.DictOf (mixKind P w) a vs:=dk_rd ok (.inl e)
theorem Zc8 {ks:5e6}(ok:HOk P w H h)(e:H a=some (.tup (ks.map kV))):(Vh (mixKind P w)).is h ks a:=by
 obtain ⟨_,its,r,o,h1,h2,n,h3⟩:=(show ObjOk P w H h a (.tup (ks.map kV)) from ok a _ e)
 exact ⟨o,its.toArray,n,h1,h2,h3,by simpa using items_are r⟩
theorem dt_rd {kvs:5e4}(ok:HOk P w H h)(e:Rd H a (.dT kvs)):kvs.length<=Yr/\(a==XE)=false/\
  ∃xs,KT H kvs xs/\h.DictOfH (Vh (mixKind P w)) a xs:=by
 obtain ⟨z,y,xs,r,o,es,ep,h1,h2,h3,h4,h5⟩:=(show ObjOk P w H h a (.dT kvs) from rd_of ok e)
 refine ⟨z,y,xs,r,o,es,ep,h1,h2,h3,h4,fun x hx=>?_,h5⟩
 have all:∀{l:5e4} {m:List 7e9},KT H l m->∀x∈m,(Vh (mixKind P w)).is h x.1 x.2.1:=by
  intro l m q
  induction q with
  | nil=>intro x hx;exact nomatch hx
  | @cons p q ps qs hq t ih=>
   intro x hx
   rcases Yl.mp hx with e | hx
   ·subst e
    exact Zc8 ok (by rw[←hq.1];exact hq.2.1)
   ·exact ih x hx
 exact all r x hx
theorem dt_of {kvs:5e4}(ok:HOk P w H h)(e:H a=some (.dT kvs)):kvs.length<=Yr/\(a==XE)=false/\
  ∃xs,KT H kvs xs/\h.DictOfH (Vh (mixKind P w)) a xs:=dt_rd ok (.inl e)
end
def DGet (H:Hp)(a:Addr)(y:V)(r:Option V):Prop:=
 (∃kvs k,Rd H a (.dK kvs)/\y=kV k/\r=valV kvs k)\/∃kvs k b,Rd H a (.dT kvs)/\y=.ref b/\H b=some (.tup (k.map kV))/\r=valV kvs k
def DPut (H:Hp)(a:Addr)(y v:V)(H':Hp):Prop:=
 (∃kvs k,H a=some (.dK kvs)/\y=kV k/\kvs.length < Yr/\H'=upd H a (.dK (putK kvs k v)))\/
 ∃kvs k b,H a=some (.dT kvs)/\y=.ref b/\H b=some (.tup (k.map kV))/\kvs.length < Yr/\H'=upd H a (.dT (putK kvs k v))
theorem DGet.k {H:Hp}{a:Addr}{kvs:List (Key×V)}{k:Key}(e:H a=some (.dK kvs)):DGet H a (kV k) (valV kvs k):=.inl ⟨kvs,k,.inl e,rfl,rfl⟩
theorem DPut.t {H:Hp}{a b:Addr}{kvs:5e4}{k:5e6}{v:V}(e:H a=some (.dT kvs))(eb:H b=some (.tup (k.map kV)))(hl:kvs.length < Yr):
  DPut H a (.ref b) v (upd H a (.dT (putK kvs k v))):=.inr ⟨kvs,k,b,e,rfl,eb,hl,rfl⟩
section
variable {X:Cx}{pins:1e6}{σ:St}{H:Hp}{s:Shared}{a:Addr}{y v:V}{u r:Value}{o:Option V}{A:Around}{E:1e1}
theorem Inv.big (I:1e7):XE < s.heap.objs.size:=by
 have h:U1 < s.heap.objs.size:=(I.mod.glob.keeps I.bk).lt
 exact UJ 1e4 h
theorem d_getItem {Q:1e1}(hu:A.units + 1 < cLine)(I:1e7)(g:DGet H a y (some v))(ry:RelV y u)(h:∀w' s',Inv X pins σ H s'->RelV v w'->Q w' s'):
  wpAny 2e0 A (Yav (.ref a) u) Q E s:=by
 rcases g with ⟨kvs,k,e,ey,l⟩ | ⟨kvs,k,b,e,ey,eb,l⟩
 ·subst ey
  obtain ⟨z,hd,vs,rel,dd⟩:=dk_rd I.hok e
  obtain ⟨w',hw,rw'⟩:=RelO.some_of (v:=v) (o:=Ybd vs k) (by rw[l];exact rel.val k)
  exact wpAny_getItem_of (kV_is ry) dd.mapOf hw (h w' _ (I.tok _) rw')
 ·subst ey
  cases (show u=YG b from ry)
  obtain ⟨z,hd,xs,rel,dd⟩:=dt_rd I.hok e
  obtain ⟨w',hw,rw'⟩:=RelO.some_of (v:=v) (o:=(atKey xs k).map (·.2)) (by rw[l];exact rel.val k)
  obtain ⟨p,hp,hp2⟩:=Xh.mp hw
  refine wpAny_getItem_heap (W2 hu) (Zc8 I.hok eb) dd hp ?_
  rw[hp2]
  exact h w' _ (I.tok _) rw'
theorem d_in {Q:1e1}(hu:A.units + 1 < cLine)(I:1e7)(g:DGet H a y o)(ry:RelV y u)(h:∀s',Inv X pins σ H s'->Q (.bool o.isSome) s'):
  wpAny 2e0 A (X7 .In u (.ref a)) Q E s:=by
 rcases g with ⟨kvs,k,e,ey,l⟩ | ⟨kvs,k,b,e,ey,eb,l⟩
 ·subst ey
  obtain ⟨z,hd,vs,rel,dd⟩:=dk_rd I.hok e
  refine wpAny_in_of (kV_is ry) hd dd.mapOf ?_
  rw[←(rel.val k).isSome_eq,←l]
  exact h _ (I.tok _)
 ·subst ey
  cases (show u=YG b from ry)
  obtain ⟨z,hd,xs,rel,dd⟩:=dt_rd I.hok e
  refine wpAny_in_heap (W2 hu) (Zc8 I.hok eb) hd dd ?_
  have q:=(rel.val k).isSome_eq
  rw[UW] at q
  rw[←q,←l]
  exact h _ (I.tok _)
theorem d_notIn {Q:1e1}(hu:A.units + 1 < cLine)(I:1e7)(g:DGet H a y o)(ry:RelV y u)(h:∀s',Inv X pins σ H s'->Q (.bool (!o.isSome)) s'):
  wpAny 2e0 A (X7 .NotIn u (.ref a)) Q E s:=by
 rcases g with ⟨kvs,k,e,ey,l⟩ | ⟨kvs,k,b,e,ey,eb,l⟩
 ·subst ey
  obtain ⟨z,hd,vs,rel,dd⟩:=dk_rd I.hok e
  refine wpAny_notIn_of (kV_is ry) hd dd.mapOf ?_
  rw[←(rel.val k).isSome_eq,←l]
  exact h _ (I.tok _)
 ·subst ey
  cases (show u=YG b from ry)
  obtain ⟨z,hd,xs,rel,dd⟩:=dt_rd I.hok e
  refine wpAny_notIn_heap (W2 hu) (Zc8 I.hok eb) hd dd ?_
  have q:=(rel.val k).isSome_eq
  rw[UW] at q
  rw[←q,←l]
  exact h _ (I.tok _)
theorem Zdi {h':Heap}{t':Nat}{ob:HO}(I:1e7)(mu:Mut (H a))(hs:Xw a s.heap h')(he:∃q,h'.get? a=some q)(new:ObjOk X.prog X.w (upd H a ob) h' a ob):
  Inv X pins σ (upd H a ob) { s with heap:=h',toks:=t' }:=
 I.write (x:=a) (e:=a) mu (.inl rfl) (fun b q hb z=>(hs.2 b hb).trans z) he new
theorem dk_new {P:Yy}{w:World}{H':Hp}{h':Heap}{kvs:List (Key×V)}{vs:List (Key×Value)}(z:kvs.length<=Yr)(hd:(a==XE)=false)(rel:KV kvs vs)(dd:h'.DictOf (mixKind P w) a vs):
  ObjOk P w H' h' a (.dK kvs):=⟨z,hd,vs,rel,dd⟩
theorem d_setItem {H':Hp}{Q:Unit->Shared->Prop}(hu:A.units + 1 < cLine)(I:1e7)(g:DPut H a y v H')(ry:RelV y u)(rv:RelV v r)(h:∀s',Inv X pins σ H' s'->Q () s'):
  wpAny 2e0 A (setItem (.ref a) u r) Q E s:=by
 rcases g with ⟨kvs,k,e,ey,l,eH⟩ | ⟨kvs,k,b,e,ey,eb,l,eH⟩
 ·subst ey eH
  obtain ⟨z,hd,vs,rel,dd⟩:=dk_of I.hok e
  have hz:vs.length<=sizeLine:=by rw[←rel.length];exact z
  have hl:(putK kvs k v).length<=sizeLine:=by have:=ZaU kvs k v;lia
  refine wpAny_setItem_pairs (hsz:=hz) (kV_is ry) dd fun h' dd' hs=>h _ ?_
  have he:∃q,h'.get? a=some q:=let ⟨q,_,_,hq,_⟩:=dd';⟨q,hq⟩
  exact Zdi I (by rw[e];exact Uo) hs he (dk_new hl hd (rel.put k rv) dd')
 ·subst ey eH
  cases (show u=YG b from ry)
  obtain ⟨z,hd,xs,rel,dd⟩:=dt_of I.hok e
  have hz:xs.length<=sizeLine:=by rw[←Wm rel];exact z
  have hl:(putK kvs k v).length<=sizeLine:=by have:=ZaU kvs k v;lia
  refine wpAny_setItem_heap (hsz:=hz) (W2 hu) (Zc8 I.hok eb) dd fun h' dd' hs=>h _ ?_
  obtain ⟨q,es,ep,hq,h2,h3,h4,_,h5⟩:=dd'
  refine Zdi I (by rw[e];exact Uo) hs ⟨q,hq⟩ ⟨hl,hd,_,(rel.put k eb rv).keeps fun c ys ec=>?_,q,es,ep,hq,h2,h3,h4,h5⟩
  rw[Zag (ne_of ec e (fun z=>nomatch z))]
  exact ec
end
theorem dict_typeIs {X:Cx}{pins:1e6}{σ:St}{H:Hp}{s:Shared}{a:Addr}{y:V}{o:Option V}(I:1e7)(g:DGet H a y o):s.TypeIs (.ref a) "dict":=by
 rcases g with ⟨kvs,k,e,_,_⟩ | ⟨kvs,k,b,e,_,_,_⟩
 ·obtain ⟨_,_,vs,_,dd⟩:=dk_rd I.hok e
  exact dd.typeIs
 ·obtain ⟨_,_,xs,_,dd⟩:=dt_rd I.hok e
  exact dd.typeIs
def sDPut (td ty tv:TE):TS:=fun D σ H=>tv σ H fun v H1=>td σ H1 fun x H2=>ty σ H2 fun y H3=>∃a H4,x=.ref a/\DPut H3 a y v H4/\D.nx σ H4
section
variable {X:Cx}{o i e value:Expr}{pos pos' tpos:Pos}{td ty tv:TE}
theorem ps_dput (hu:X.A.units + 1 < cLine)(ho:PE X o td)(hi:PE X i ty)(hv:PE X value tv)(hs:Wv value (some (.Subscript o i pos')) pos.line X.env=pure false):
  PS X (.Assign [.Subscript o i pos'] value pos) (sDPut td ty tv):=by
 intro pins s σ H D I h
 refine wpAny_Assign_Subscript (thn (hv pins s σ H _ I h) fun r s1 ⟨v,H1,I1,rv,q1⟩=>thn (ho pins s1 σ H1 _ I1 q1) fun u s2 ⟨x,H2,I2,rx,q2⟩=>thn (hi pins s2 σ H2 _ I2 q2) fun iv s3 ⟨y,H3,I3,ry,a,H4,ex,g,q3⟩=>?_) hs
 subst ex
 obtain rfl:u=YG a:=rx
 exact d_setItem hu I3 g ry rv fun s4 I4=>⟨σ,H4,I4,q3⟩
end
theorem dt_empty {P:Yy}{w:World}{H:Hp}(h:Heap)(hb:XE < h.objs.size):ObjOk P w H (h.push { cls:=.type "dict",data:=.dict #[] }) h.objs.size (.dT []):=
 ⟨Y4 _,beq_eq_false_iff_ne.mpr (XH (Yt hb)),[],.nil,_,#[],0,Ye _ rfl,⟨rfl,rfl,rfl⟩,rfl,rfl,List.nodup_nil⟩
def tDNewT:TE:=fun _ H Q=>∀p,H p=none->Q (.ref p) (upd H p (.dT []))
section
variable {X:Cx}{pos:Pos}
theorem pe_dnewT:PE X (.Dict [] [] pos) tDNewT:=fun pins s σ H Q I h=>
 wpAny_Dict_empty ⟨.ref s.heap.objs.size,_,I.laid (a:=s.heap.objs.size) (o:=.dT []) (t':=s.toks) (fun _ _ q=>Yb _ q) (Yi _) (dt_empty s.heap I.big),rfl,h _ (I.hok.fresh (Yi _))⟩
end
def IsD (H:Hp)(a:Addr):Prop:=(∃kvs,Rd H a (.dK kvs))\/∃kvs,Rd H a (.dT kvs)
theorem isD_at {X:Cx}{pins:1e6}{σ:St}{H:Hp}{s:Shared}{a:Addr}(I:1e7)(d:IsD H a):
  s.TypeIs (.ref a) "dict"/\(∀b,YG a=.ref b->∃ob,s.heap.get? b=some ob/\ob.dict=none)/\(a==XE)=false:=by
 rcases d with ⟨kvs,e⟩ | ⟨kvs,e⟩
 ·obtain ⟨_,hd,vs,_,dd⟩:=dk_rd I.hok e
  refine ⟨dd.typeIs,fun b q=>?_,hd⟩
  cases q
  obtain ⟨ob,_,_,h1,h2,_⟩:=dd
  exact ⟨ob,h1,h2.2.1⟩
 ·obtain ⟨_,hd,xs,_,dd⟩:=dt_rd I.hok e
  refine ⟨dd.typeIs,fun b q=>?_,hd⟩
  cases q
  obtain ⟨ob,_,_,h1,h2,_⟩:=dd
  exact ⟨ob,h1,h2.2.1⟩
def clFrom (cells:List (Str×Addr)):List (Str×VE)->List (Str×Addr)->List (Str×Addr)
  | [],cs=>cs
  | (n,k)::r,cs=>clFrom cells r (if k=.free then (n,(cells.lookup n).getD 0)::cs else cs)
theorem Zdo {cells:List (Str×Addr)}:∀{names:List (Str×VE)} {cs:List (Str×Addr)},(∀y∈names,y.2=.free->∃c,cells.lookup y.1=some c)->(∀x c,cs.lookup x=some c->cells.lookup x=some c)->
    ∀x c,(clFrom cells names cs).lookup x=some c->cells.lookup x=some c
  | [],_,_,h,x,c,e=>h x c e
  | (n,k)::r,cs,hn,h,x,c,e=>by
    unfold clFrom at e
    refine Zdo (fun y hy=>hn y (Yz _ hy)) (fun y d q=>?_) x c e
    by_cases hk:k=.free
    · rw[if_pos hk] at q
      obtain ⟨c',hc'⟩:=hn (n,k) YJ hk
      rw[Xb] at q
      by_cases hy:y==n
      · rw[hy] at q
        have:y=n:=by simpa using hy
        subst this
        rw[show cells.lookup y=some c' from hc'] at q ⊢
        simpa using q
      · have hy':(y==n)=false:=by simpa using hy
        rw[hy'] at q
        exact h y d q
    · rw[if_neg hk] at q
      exact h y d q
theorem Zcr {cells:List (Str×Addr)}{x:Str}:∀{names:List (Str×VE)} {cs:List (Str×Addr)},(∃c,cs.lookup x=some c)->∃c,(clFrom cells names cs).lookup x=some c
  | [],_,h=>h
  | (n,k)::r,cs,h=>by
    unfold clFrom
    refine Zcr ?_
    by_cases hk:k=.free
    · rw[if_pos hk,Xb]
      by_cases hy:x==n
      · rw[hy];exact 7e1
      · have hy':(x==n)=false:=by simpa using hy
        rw[hy'];exact h
    · rw[if_neg hk];exact h
theorem Zcl {cells:List (Str×Addr)}{x:Str}:∀{names:List (Str×VE)} {cs:List (Str×Addr)},(x,Xs)∈names->∃c,(clFrom cells names cs).lookup x=some c
  | [],_,h=>nomatch h
  | (n,k)::r,cs,h=>by
    unfold clFrom
    rcases Yl.mp h with e | h
    · cases e
      refine Zcr ?_
      rw[if_pos rfl,Xb]
      simp
    · exact Zcl h
theorem ZbF {env:Env}{scope:Scope}(h:∀y∈scope.names,y.2=.free->∃c,env.cells.lookup y.1=some c):closureFor scope env=pure (clFrom env.cells scope.names []):=by
 simp only[closureFor]
 have key:∀(names:List (Str×VE)) (cs:List (Str×Addr)),(∀y∈names,y.2=.free->∃c,env.cells.lookup y.1=some c)->
   (forIn names cs fun x r=>if (x.2==Xs)=true then do let a ←cellOf env x.1;pure (W7 ((x.1,a)::r)) else pure (W7 r):Sem (List (Str×Addr)))=pure (clFrom env.cells names cs):=by
  intro names
  induction names with
  | nil=>intro cs _;rfl
  | cons y r ih=>
   intro cs hn
   obtain ⟨n,k⟩:=y
   rw[Yah]
   by_cases hk:k=.free
   ·obtain ⟨c,hc⟩:=hn (n,k) YJ hk
    have hc':env.cells.lookup n=some c:=hc
    subst hk
    have e1:cellOf env n=pure c:=by unfold cellOf;rw[hc']
    show (_ >>= _)=_
    simp only[beq_self_eq_true,if_true,e1]
    unfold clFrom
    rw[if_pos rfl,hc']
    exact ih _ fun y hy=>hn y (Yz _ hy)
   ·have e2:(k==Xs)=false:=by simpa using hk
    show (_ >>= _)=_
    simp only[e2,Yv,if_false]
    unfold clFrom
    rw[if_neg hk]
    exact ih _ fun y hy=>hn y (Yz _ hy)
 rw[key scope.names [] h]
 rfl
section
variable {prog:Yy}{w:World}{A:Around}{R:9e2}{s:Shared}
abbrev Out (prog:Yy)(w:World)(A:Around)(env:Env)(R:9e2):Value->Shared->Prop:=notedBy 1e9 A env fun e s'=>R (.error e) s'
abbrev testsOf (env:Env)(ifs:3e2):Sem Bool:=forIn ifs true fun c r=>if r=true then do let ok ←isTrue c env (eval c env);pure (W7 ok) else pure (W7 r)
theorem compLoop_any {elt target iter:Expr}{ifs:3e2}{scope:Scope}{pos:Pos}{it acc:Value}{env:Env}(I:Nat->Shared->Prop)
  (turn:∀k z,I k z->wpAny 1e9 A (pyNext it) (fun r z1=>match r with
   | none=>R (.ok .next) z1
   | some v=>wpAny 1e9 A (X2 target it v) (fun _ z2=>wpAny 1e9 A (assign target env v) (fun _ z3=>wpAny 1e9 A (testsOf env ifs) (fun yes z4=>
     if yes=true then wpAny 1e9 A (eval elt env) (fun x z5=>wpAny 1e9 A (call (.builtin "list.append") [acc,x]) (fun _ z6=>∃m,m < k/\I m z6) (Out prog w A env R) z5) (Out prog w A env R) z4
     else ∃m,m < k/\I m z4) (Out prog w A env R) z3) (Out prog w A env R) z2) (Out prog w A env R) z1) (Out prog w A env R) z)
  (n:Nat) (h:I n s):XT 1e9 A (.compLoop (.ListComp elt [⟨target,iter,ifs,0⟩] scope pos) 0 it acc env) R s:=by
 refine codeAny_loop rfl I ?_ n h
 intro k z hz
 refine wpAny_noted ?_
 rw[compTurn_list]
 apply Ya
 apply WI
 apply Ya
 refine Y5 (turn k z hz) ?_ fun _ _ e=>e
 rintro (_ | v) z1 y1
 ·exact Yc y1
 apply Ya
 refine Y5 y1 (fun _ z2 y2=>?_) fun _ _ e=>e
 apply Ya
 refine Y5 y2 (fun _ z3 y3=>?_) fun _ _ e=>e
 apply Ya
 refine Y5 y3 (fun yes z4 y4=>?_) fun _ _ e=>e
 by_cases b:yes=true
 ·subst b
  apply Ya
  apply Ya
  refine Y5 y4 (fun x z5 y5=>?_) fun _ _ e=>e
  apply Ya
  exact Y5 y5 (fun _ z6 y6=>Yc (Yc ⟨rfl,y6⟩)) fun _ _ e=>e
 ·have nb:yes=false:=by simpa using b
  subst nb
  exact Yc ⟨rfl,y4⟩
end
def CompCx (X:Cx)(N':4e0)(scope:Scope)(C:Addr)(s₀:Shared)(H₀:Hp)(ex:2e2)(pn:1e6):Cx:=
 { X with N:=N',s₀:=s₀,H₀:=H₀,env:=Yas scope (clFrom X.env.cells scope.names []) C X.env,outer:=X.stack,ex:=ex,fn:=fun _=>false,pn:=pn,xe:=fun _ _=>False }
structure CSc (X:Cx)(scope:Scope)(vs fs:List Str)(fr:List Nat):Prop where
 kind:scope.kind=.function
 cell:(scope.names.all fun y=>y.2 != .cell)=true
 free:(scope.names.all fun y=>y.2 != .free||(X.env.kindOf y.1==some .cell||X.env.kindOf y.1==some .free))=true
 loc:(scope.names.all fun y=>y.2 != .local||scope.names.lookup y.1==some .local)=true
 fre:(scope.names.all fun y=>y.2 != .free||scope.names.lookup y.1==some .free)=true
 fsf:(fs.all fun x=>scope.names.lookup x==some .free)=true
 at':fr.map (fun i=>X.N[i]?)=fs.map some
def PTs (X:Cx)(ifs:3e2)(t:TT):Prop:=
 ∀(pins:1e6) (s:Shared) (σ:St) (H:Hp) (Q:Bool->Hp->Prop),Inv X pins σ H s->t σ H Q->
  wpAny 2e0 X.A (forIn ifs true fun c r=>if r=true then do let ok ←isTrue c X.env (eval c X.env);pure (W7 ok) else pure (W7 r)) (TP X pins σ Q) X.xe s
def tYes:TT:=fun _ H Q=>Q true H
theorem pts_nil {X:Cx}:PTs X [] tYes:=fun _ _ _ H _ I h=>wpAny_tests_nil ⟨H,I,h⟩
theorem pts_one {X:Cx}{c:Expr}{t:TT}(h:PT X c t):PTs X [c] t:=fun pins s σ H Q I q=>wpAny_tests_one (h pins s σ H Q I q)
def stIn (vs:4e0)(fr:6e3)(σ:St):St:=vs.map (fun _=>none)++fr.map fun i=>(σ[i]?).join
def CompW (J:It)(vs:4e0)(fr:6e3)(g:TG)(tt:TT)(te:TE)(σ:St)(H1:Hp)(Q:VK):Prop:=
 ∃W:Nat->Nat->St->List V->Hp->Prop,(∃m,W 0 m (stIn vs fr σ) [] H1)/\∀i m σ' ys H,W i m σ' ys H->
  (J.stop i H/\ys.length<=Yr/\∀D,H D=none->Q (.ref D) (upd H D (.lst ys)))\/
  (J.go i H/\ys.length<=Yr/\∃N:St->List V->Hp->Prop,(∀σ2 ys2 H2,N σ2 ys2 H2->∃m',m' < m/\W (i + 1) m' σ2 ys2 H2)/\∀x H',J.yld i H x H'->g x σ' H' fun σ2 H2=>tt σ2 H2 fun b H3=>
   if b=true then te σ2 H3 fun y H4=>N σ2 (ys++[y]) H4 else N σ2 ys H3)
def tComp (wi:TI)(vs:4e0)(fr:6e3)(g:TG)(tt:TT)(te:TE):TE:=fun σ H Q=>wi σ H fun J H1=>CompW J vs fr g tt te σ H1 Q
section
variable {X:Cx}{tg elt iter:Expr}{ifs:3e2}{scope:Scope}{pos:Pos}{vs fs:4e0}{fr:6e3}
theorem mem_all {α:Type}{p:α->Bool}{l:List α}(h:l.all p=true){x:α}(hx:x∈l):p x=true:=YR.mp h x hx
theorem CSc.cell' (S:6e2):∀y∈scope.names,y.2≠.cell:=fun y hy e=>by have:=mem_all S.cell hy;rw[e] at this;simp at this
theorem CSc.free' (S:6e2):∀y∈scope.names,y.2=.free->X.env.kindOf y.1=some .cell\/X.env.kindOf y.1=some .free:=fun y hy e=>by
 have:=mem_all S.free hy;rw[e] at this;simpa using this
theorem CSc.loc' (S:6e2):∀y∈scope.names,y.2=.local->scope.names.lookup y.1=some .local:=fun y hy e=>by
 have:=mem_all S.loc hy;rw[e] at this;simpa using this
theorem Zba {α β:Type} [BEq α] [LawfulBEq α]:∀{l:List (α×β)} {x:α} {k:β},l.lookup x=some k->(x,k)∈l
  | [],_,_,h=>by simp at h
  | (n,k')::r,x,k,h=>by
    rw[Xb] at h
    cases e:x==n with
    | true=>rw[e] at h;cases h;rw[eq_of_beq e];exact YJ
    | false=>rw[e] at h;exact Yz _ (Zba h)
theorem Zbn {env:Env}{x:Str}:∀{names:List (Str×VE)} {k:VE},
    (names.map fun (n,k)=>if (k==Xs&&env.scope.kind==.function&&env.kindOf n==some .cell) then (n,WK) else (n,k)).lookup x=some k->
    names.lookup x=some k\/(k=.cell/\names.lookup x=some .free)
  | [],_,h=>by simp at h
  | (n,k')::r,k,h=>by
    have ih:=@Zbn env x r k
    have h':List.lookup x ((if (k'==Xs&&env.scope.kind==.function&&env.kindOf n==some .cell)=true then (n,WK) else (n,k'))::(r.map fun (n,k)=>if (k==Xs&&env.scope.kind==.function&&env.kindOf n==some .cell) then (n,WK) else (n,k)))=some k:=h
    cases hx:x==n with
    | true=>
      by_cases hc:(k'==Xs&&env.scope.kind==.function&&env.kindOf n==some .cell)=true
      · rw[if_pos hc] at h'
        simp only[Xb,hx] at h' ⊢
        cases h'
        have:k'=.free:=by simp at hc;exact hc.1.1
        exact .inr ⟨rfl,by rw[this]⟩
      · rw[if_neg hc] at h'
        simp only[Xb,hx] at h' ⊢
        exact .inl h'
    | false=>
      by_cases hc:(k'==Xs&&env.scope.kind==.function&&env.kindOf n==some .cell)=true
      · rw[if_pos hc] at h'
        simp only[Xb,hx] at h' ⊢
        exact ih h'
      · rw[if_neg hc] at h'
        simp only[Xb,hx] at h' ⊢
        exact ih h'
theorem Zcp {env:Env}{x:Str}:∀{names:List (Str×VE)},names.lookup x=some .free->
    let l:=(names.map fun (n,k)=>if (k==Xs&&env.scope.kind==.function&&env.kindOf n==some .cell) then (n,WK) else (n,k)).lookup x
    l=some .cell\/l=some .free
  | [],h=>by simp at h
  | (n,k')::r,h=>by
    have ih:=@Zcp env x r
    show List.lookup x ((if (k'==Xs&&env.scope.kind==.function&&env.kindOf n==some .cell)=true then (n,WK) else (n,k'))::(r.map fun (n,k)=>if (k==Xs&&env.scope.kind==.function&&env.kindOf n==some .cell) then (n,WK) else (n,k)))=some .cell\/
      List.lookup x ((if (k'==Xs&&env.scope.kind==.function&&env.kindOf n==some .cell)=true then (n,WK) else (n,k'))::(r.map fun (n,k)=>if (k==Xs&&env.scope.kind==.function&&env.kindOf n==some .cell) then (n,WK) else (n,k)))=some .free
    cases hx:x==n with
    | true=>
      simp only[Xb,hx] at h
      have h:k'=.free:=YI h
      by_cases hc:(k'==Xs&&env.scope.kind==.function&&env.kindOf n==some .cell)=true
      · rw[if_pos hc,Xb,hx];exact .inl rfl
      · rw[if_neg hc,Xb,hx,h];exact .inr rfl
    | false=>
      simp only[Xb,hx] at h
      by_cases hc:(k'==Xs&&env.scope.kind==.function&&env.kindOf n==some .cell)=true
      · rw[if_pos hc];simp only[Xb,hx];exact ih h
      · rw[if_neg hc];simp only[Xb,hx];exact ih h
end
section
variable {X:Cx}{tg elt iter:Expr}{ifs:3e2}{scope:Scope}{pos:Pos}{vs fs:4e0}{fr:6e3}
theorem CSc.clos (S:6e2)(ok:X.Ok):∀y∈scope.names,y.2=.free->∃c,X.env.cells.lookup y.1=some c:=fun y hy e=>ok.has y.1 (S.free' y hy e)
theorem CSc.cl (S:6e2)(ok:X.Ok){x:Str}{c:Addr}(e:(clFrom X.env.cells scope.names []).lookup x=some c):X.env.cells.lookup x=some c:=
 Zdo (S.clos ok) (fun _ _ q=>by simp at q) x c e
theorem Zaw {h:Heap}{b:Addr}{o:Obj}{n:Nat}(e:h.get? b=some o)(hn:h.objs.size<=n):b≠n:=Yt (Yo (Yq e) hn)
theorem Zck {pins:1e6}{σ:St}{H:Hp}{s:Shared}{fp:2e2}{C:Addr}{h1:Heap}{tk:Nat}{m1:2e6}(S:6e2)(I:1e7)
  (hf:∀b∈fp,FpOk X pins H b) (hfo:∀b∈fp,∃o,s.heap.get? b=some o) (hC:s.heap.objs.size<=C) (hn:h1.Ns C m1) (old:∀b o,s.heap.get? b=some o->h1.get? b=some o):
  Inv (CompCx X (vs++fs) scope C s H fp (X.pn++pins)) [] (stIn vs fr σ) H { s with heap:=h1,toks:=tk }:=by
 have cl:=fun x c e=>S.cl I.ok (x:=x) (c:=c) e
 have hsub:=I.stkSub
 have cellLt:∀x c,X.env.cells.lookup x=some c->c < s.heap.objs.size:=fun x c e=>by obtain ⟨v,q⟩:=I.cell x c e;exact q.lt
 refine ⟨⟨I.ok.mod,S.kind,I.ok.glob,I.ok.blt,hC,fun x y c e1 e2=>I.ok.inj x y c (cl x c e1) (cl y c e2),fun x hx=>?_,fun _ _ z _=>(nomatch z),I.ok.hd,I.ok.frames,.inl rfl,fun b hb=>?_,I.bs,YQ I.ok.bsz I.sz,fun b o e hb=>?_,fun b hb z=>?_,I.stack,I.stkFree⟩,
  rfl,I.bare,Un.kept old,⟨m1,hn,fun i x v e1 e2 e3=>?_⟩,fun x c e=>?_,I.hok.fresh hC,fun x c e=>I.freeC x c (cl x c e),fun p hp=>?_,I.hok.kept old,?_⟩
 ·-- has
  have hx':(relabel scope X.env).names.lookup x=some .cell\/(relabel scope X.env).names.lookup x=some .free:=hx
  have:scope.names.lookup x=some .free:=by
   rcases hx' with q | q
   ·rcases Zbn q with q | ⟨_,q⟩
    ·exact absurd rfl (S.cell' _ (Zba q))
    ·exact q
   ·rcases Zbn q with q | ⟨q,_⟩
    ·exact q
    ·cases q
  exact Zcl (Zba this)
 ·-- exf
  obtain ⟨o,ho⟩:=hfo b hb
  obtain ⟨f0,f1,f2,f3,f4,f5⟩:=hf b hb
  exact ⟨Zaw ho hC,fun x c e=>f4 x c (cl x c e)⟩
 ·-- noex
  have e':=(I.ok.bs b o e).1
  obtain ⟨_,_,_,f3,_,_⟩:=hf b hb
  rcases f3 with z | z
  ·exact I.ok.noex b o e z
  ·exact absurd (Yo (Yq e') z) (X8 _)
 ·-- exfs
  obtain ⟨_,f1,f2,_⟩:=hf b hb
  rcases Yl.mp (hsub b z) with q | q
  ·exact f1 q
  ·exact f2 q
 ·-- loc
  have e1:(vs++fs)[i]? = some x:=e1
  unfold stIn at e2
  by_cases hi:i < vs.length
  ·rw[YE (by simpa using hi)] at e2
   simp[hi] at e2
  ·rw[YZ (by simpa using hi),Yf,Yx] at e2
   rw[YZ (by simpa using hi)] at e1
   obtain ⟨j,hj⟩:∃j,fr[i - vs.length]? = some j:=by
    cases q:fr[i - vs.length]? with
    | none=>rw[q] at e2;cases e2
    | some j=>exact ⟨j,rfl⟩
   rw[hj] at e2
   have e2':(σ[j]?).join=some v:=YI e2
   have hσ:σ[j]? = some (some v):=by
    cases q:σ[j]? with
    | none=>rw[q] at e2';cases e2'
    | some r=>rw[q] at e2';exact congrArg some e2'
   have hN:X.N[j]? = some x:=by
    have:=congrArg (fun l=>l[i - vs.length]?) S.at'
    simp only[Yx,hj,e1,Us] at this
    exact YI this
   have hxf:scope.names.lookup x=some .free:=by
    have:=mem_all S.fsf (YB e1)
    simpa using this
   have hk:=S.free' _ (Zba hxf) rfl
   obtain ⟨m,hm,hl⟩:=I.loc
   have hvis:Vis X.env.scope x:=by
    rcases hk with k | k
    ·exact .inr (.inl k)
    ·exact .inr (.inr k)
   obtain ⟨u,ru,lk⟩:=hl j x v hN hσ hvis
   refine ⟨u,ru,?_⟩
   rcases lk with ⟨k,_⟩ | ⟨_,c,hc,hv⟩
   ·have k':X.env.kindOf x=some .local:=k
    rcases hk with z | z
    ·have z':X.env.kindOf x=some .cell:=z
     rw[k'] at z';cases z'
    ·have z':X.env.kindOf x=some .free:=z
     rw[k'] at z';cases z'
   ·obtain ⟨c',hc'⟩:=Zcl (cells:=X.env.cells) (cs:=[]) (Zba hxf)
    have:=cl x c' hc'
    rw[hc] at this
    cases this
    refine .inr ⟨Zcp hxf,c,hc',?_⟩
    obtain ⟨o,ho,hd⟩:=hv
    exact ⟨o,old c o ho,hd⟩
 ·-- cell
  obtain ⟨v,o,ho,hd⟩:=I.cell x c (cl x c e)
  exact ⟨v,o,old c o ho,hd⟩
 ·-- pin
  have hp':p∈X.pn++pins:=by simpa[CompCx] using hp
  obtain ⟨e,n,ne,nf,d⟩:=I.pin p hp'
  refine ⟨old _ _ e,n,Zaw e hC,fun z=>?_,d⟩
  rcases Yl.mp (hsub _ z) with q | q
  ·exact ne q
  ·exact nf q
 ·show (stIn vs fr σ).length=(vs++fs).length
  have:=congrArg List.length S.at'
  simp only[Yf] at this
  unfold stIn
  simp[this]
theorem comp_back {pins:1e6}{σ σ':St}{H H':Hp}{s s':Shared}{fp:2e2}{C D:Addr}{ys:List V}{its:2e5}{n:Nat}{pl:1e6}(I:1e7)
  (hf:∀b∈fp,FpOk X pins H b) (J:Inv (CompCx X (vs++fs) scope C s H fp (X.pn++pins)) pl σ' H' s')
  (hD:s.heap.objs.size<=D) (hDn:H' D=none) (hl:ys.length<=Yr) (r:Vals ys its) (ho:s'.heap.get? D=some { cls:=.type "list",data:=.seq its.toArray n }):Inv X pins σ (upd H' D (.lst ys)) s':=by
 have ne:∀b o,s.heap.get? b=some o->b≠D:=fun b o e=>Zaw e hD
 have u:Un (frs X.stack) fp H H' s.heap s'.heap:=J.base
 refine I.call' (ch:=fp) J.os ⟨u.keep,u.slot,fun b o e q hx=>?_,u.there,fun b xs e=>?_,fun b o xs e=>?_,fun b ps e=>?_⟩ (fun b o e=>?_) J.bare fun b hb=>?_
 ·rw[Zag (ne b o e)];exact u.free b o e q hx
 ·rw[Zag (Zak (u.tups b xs e) hDn)];exact u.tups b xs e
 ·rw[Zag (Zak (u.frzs b o xs e) hDn)];exact u.frzs b o xs e
 ·obtain ⟨more,q⟩:=u.tbls b ps e
  exact ⟨more,by rw[Zag (Zak q hDn)];exact q⟩
 ·by_cases hb:b=D
  ·subst hb
   rw[Zam] at e;cases e
   exact ⟨hl,its,n,r,ho⟩
  ·rw[Zag hb] at e
   exact (J.hok b o e).stay (fun _ _ _ q=>q) (fun c q=>by rw[Zag (Zak q hDn)];exact q) fun c xs q=>by rw[Zag (Zak q hDn)];exact q
 ·obtain ⟨f0,f1,f2,f3,f4,f5⟩:=hf b hb
  exact ⟨f3,f1,f4,f5⟩
end
section
variable {X:Cx}{tg elt iter:Expr}{ifs:3e2}{scope:Scope}{pos:Pos}{vs fs:4e0}{fr:6e3}{g:TG}{tt:TT}{te:TE}
theorem ZaN {α:Type}{M:Model}{A:Around}{t:Sem α}{Q Q':α->Shared->Prop}{E:1e1}{s:Shared}(h:wpAny M A t Q (fun _ _=>False) s)(hQ:∀a s,Q a s->Q' a s):wpAny M A t Q' E s:=
 Y5 h hQ fun _ _ f=>WW f
theorem ZdJ {pins:1e6}{σ:St}{H:Hp}{s:Shared}{Q:VK}{it:Addr}{fp:2e2}{tn:Nat->Heap->Prop}{J:It}{RR:Value->Addr->Result->Shared->Prop}
  (S:6e2) (hc:5e2)
  (bG:∀C s₀ H₀ ex pn,PG 1e0 tg g) (bT:∀C s₀ H₀ ex pn,PTs 1e0 ifs tt) (bE:∀C s₀ H₀ ex pn,PE 1e0 elt te)
  (I:1e7) (T:Turn X.prog X.w X.K tg J fp it tn) (st:tn 0 s.heap) (hf:∀b∈fp,FpOk X pins H b)
  (q:CompW J vs fr g tt te σ H Q)
  (hRR:∀D C H' s' m',Inv X pins σ H' s'->Q (.ref D) H'->s'.heap.Ns C m'->H' C=none->s.heap.objs.size<=C->RR (.ref D) C (.ok .next) s'):
  wpAny 2e0 X.A (newList []) (fun acc s₃=>wpAny 2e0 X.A (newFunctionEnv scope X.env.globals (clFrom X.env.cells scope.names []) [] X.env.qual none .none (some X.env)) (fun cenv s₄=>
   XT (model X.prog X.w) X.A (.compStart (.ListComp elt [⟨tg,iter,ifs,0⟩] scope pos) 0 (.ref it) acc { cenv with scope:=relabel scope X.env }) (RR acc cenv.locals) s₄) X.xe s₃) X.xe s:=by
 obtain ⟨W,⟨m0,w0⟩,turn⟩:=q
 refine Xk (Ug S.cell' (by intro y hy;simp at hy) (fun h₁ hns₁ hsb₁=>?_) S.kind)
 dsimp only at hns₁ hsb₁ ⊢
 generalize hH2:s.heap.push { cls:=.type "list",dict:=none,data:=.seq ([]:List Value).toArray }=H2 at hns₁ hsb₁ ⊢
 have hCs:H2.objs.size=s.heap.objs.size + 1:=by rw[←hH2,Vk]
 have hDC:s.heap.objs.size≠H2.objs.size:=by rw[hCs];exact Yt (WQ _)
 have hCle:s.heap.objs.size<=H2.objs.size:=by rw[hCs];exact Yaw _
 have old:∀b o,s.heap.get? b=some o->h₁.get? b=some o:=fun b o e=>hsb₁.extBut b o (Zaw e hCle) (Yb _ (hH2 ▸ Yb _ e))
 have hacc:h₁.get? s.heap.objs.size=some { cls:=.type "list",data:=.seq ([]:List Value).toArray 0 }:=hsb₁.extBut _ _ hDC (Yb _ (hH2 ▸ Ye _ rfl))
 have hfo:∀b∈fp,∃o,s.heap.get? b=some o:=fun b hb=>by obtain ⟨o,e,_⟩:=T.obj 0 _ st b hb;exact ⟨o,e⟩
 generalize hY:CompCx X (vs++fs) scope H2.objs.size s H fp (X.pn++pins)=Y
 have J0:Inv Y [] (stIn vs fr σ) H { s with heap:=h₁,toks:=s.toks + ([]:List (Str×Value)).length }:=by
  rw[←hY];exact Zck S I hf hfo hCle hns₁ old
 have hG:PG Y tg g:=by rw[←hY];exact bG _ _ _ _ _
 have hT:PTs Y ifs tt:=by rw[←hY];exact bT _ _ _ _ _
 have hE:PE Y elt te:=by rw[←hY];exact bE _ _ _ _ _
 have ePr:Y.prog=X.prog:=by rw[←hY];rfl
 have eW:Y.w=X.w:=by rw[←hY];rfl
 have eK:Y.K=X.K:=by rw[←hY];rfl
 have eA:Y.A=X.A:=by rw[←hY];rfl
 have eC:Y.calm=true:=by rw[←hY];exact hc
 have eEnv:Y.env=Yas scope (clFrom X.env.cells scope.names []) H2.objs.size X.env:=by rw[←hY];rfl
 have eL:Y.env.locals=H2.objs.size:=by rw[eEnv];rfl
 have eX:Y.xe=fun _ _=>False:=by rw[←hY];rfl
 have eS:Y.s₀=s:=by rw[←hY];rfl
 have eEx:Y.ex=fp:=by rw[←hY];rfl
 have eFs:Y.fs=frs X.stack:=by rw[←hY];rfl
 have ePn:Y.pn=X.pn++pins:=by rw[←hY];rfl
 have eCl:∀x c,Y.env.cells.lookup x=some c->X.env.cells.lookup x=some c:=fun x c e=>by
  rw[eEnv] at e;exact S.cl I.ok e
 have cellLt:∀x c,Y.env.cells.lookup x=some c->c≠s.heap.objs.size:=fun x c e=>by
  obtain ⟨v,z⟩:=I.cell x c (eCl x c e);exact Yt z.lt
 have pnLt:∀p∈Y.pn,p.1≠s.heap.objs.size:=fun p hp=>by
  rw[ePn] at hp;exact Zaw (I.pin p hp).1 (Yi _)
 have fpD:∀b∈fp,b≠s.heap.objs.size:=fun b hb=>by obtain ⟨o,e⟩:=hfo b hb;exact Zaw e (Yi _)
 have hDfs:s.heap.objs.size∉Y.fs:=fun z=>by
  rw[eFs] at z
  rcases Yl.mp (I.stkSub _ z) with z | z
  ·exact absurd I.lt (by rw[←z];exact X8 _)
  ·exact I.nofs (Yi _) z
 have stat:∀{H':Hp} {o:Obj},8e7->∀b∈fp,FpOk Y [(s.heap.objs.size,o)] H' b:=fun {H' o} hn b hb=>by
  obtain ⟨f0,f1,f2,f3,f4,f5⟩:=hf b hb
  obtain ⟨ob,e⟩:=hfo b hb
  refine ⟨hn b hb,by rw[eL];exact Zaw e hCle,fun z=>?_,.inl (by rw[eEx];exact hb),fun x c e=>f4 x c (eCl x c e),fun p hp=>?_⟩
  ·rw[eFs] at z
   rcases Yl.mp (I.stkSub _ z) with z | z
   ·exact f1 z
   ·exact f2 z
  ·rcases YU.mp hp with hp | hp
   ·rw[ePn] at hp;exact f5 p hp
   ·have:p=(s.heap.objs.size,o):=by simpa using hp
    rw[this];exact XH (fpD b hb)
 have pinD:∀{σ':St} {H':Hp} {s':Shared} {its:2e5} {k:Nat},Inv Y [] σ' H' s'->H' s.heap.objs.size=none->s'.heap.get? s.heap.objs.size=some { cls:=.type "list",data:=.seq its.toArray k }->
   Inv Y [(s.heap.objs.size,{ cls:=.type "list",data:=.seq its.toArray k })] σ' H' s':=fun {σ' H' s' its k} i hn e=>i.pins_of fun p hp=>by
  have:p=(s.heap.objs.size,{ cls:=.type "list",data:=.seq its.toArray k }):=by simpa using hp
  subst this
  exact ⟨e,hn,by rw[eL];exact hDC,hDfs,fun v z=>by cases z⟩
 have loop:∀s₃:Shared,s₃={ s with heap:=h₁,toks:=s.toks + ([]:List (Str×Value)).length }->
   XT 2e0 X.A (.compLoop 6e4 0 (.ref it) 4e5 (Yas scope (clFrom X.env.cells scope.names []) H2.objs.size X.env))
    (RR 4e5 H2.objs.size) s₃:=by
  rintro s₃ rfl
  rw[←eEnv,←ePr,←eW,←eA]
  refine compLoop_any (fun n s'=>∃i σ' ys its k H',Inv Y [(s.heap.objs.size,{ cls:=.type "list",data:=.seq its.toArray k })] σ' H' s'/\Vals ys its/\tn i s'.heap/\8e7/\W i n σ' ys H') ?_ m0
   ⟨0,_,[],[],0,H,pinD J0 (I.hok.fresh (Yi _)) hacc,.nil,T.keep _ _ _ st fun b _ o e=>old b o e,fun b hb=>(hf b hb).1,w0⟩
  rintro n s3 ⟨i,σ3,ys,its,k,H3,J3,rv,st3,fr3,w3⟩
  have pD:=J3.pin (s.heap.objs.size,_) (Yg _ (Yk.mpr rfl))
  have eI:=rv.length
  rcases turn i n σ3 ys H3 w3 with ⟨stop,hlen,qn⟩ | ⟨go,hlen,N,hN,step⟩
  ·have dn:=T.done Y ePr eW eK eC i _ s3 σ3 H3 (fun _ _=>False) J3 (stat fr3) st3 stop
   rw[←ePr,←eW] at dn
   refine ZaN dn fun r s4 h_=>?_
   obtain ⟨hr,J4⟩:=h_
   subst hr
   have pD4:=J4.pin (s.heap.objs.size,_) (Yg _ (Yk.mpr rfl))
   obtain ⟨m4,hm4,_⟩:=id J4.loc
   rw[eL] at hm4
   have nC:H3 H2.objs.size=none:=by rw[←eL];exact J4.free
   refine hRR _ _ _ s4 m4 (comp_back I hf (by rw[hY];exact J4) (Yi _) pD4.2.1 hlen rv pD4.1) (qn _ pD4.2.1) hm4 ?_ hCle
   rw[Zag (XH hDC)];exact nC
  ·have im:=T.item Y ePr eW eK eC i _ s3 σ3 H3 (fun _ _=>False) J3 (stat fr3) st3 go
   rw[←ePr,←eW] at im
   refine ZaN im fun r s4 h_=>?_
   obtain ⟨u,hr,h4⟩:=h_
   subst hr
   refine ZaN h4 fun _ s5 h_=>?_
   obtain ⟨x,H5,J5,r5,y5,st5,fr5⟩:=h_
   have J5':=J5.pinned (stat fr5) (T.obj _ _ st5)
   have go1:=hG _ s5 σ3 H5 x u _ J5' r5 (step x H5 y5)
   rw[eX] at go1
   refine ZaN go1 fun _ s6 h_=>?_
   obtain ⟨σ6,H6,J6,q6⟩:=h_
   have go2:=hT _ s6 σ6 H6 _ J6 q6
   rw[eX] at go2
   refine ZaN go2 fun ok s7 h_=>?_
   obtain ⟨H7,J7,q7⟩:=h_
   have fin:∀{σ8:St} {H8:Hp} {s8:Shared},Inv Y ([(s.heap.objs.size,{ cls:=.type "list",data:=.seq its.toArray k })]++pinsAt fp s5.heap) σ8 H8 s8->
     tn (i + 1) s8.heap/\(∀b∈fp,H8 b=none):=fun {σ8 H8 s8} J8=>by
    refine ⟨T.keep _ _ _ st5 fun b hb o e=>(J8.pin (b,o) (Yg _ (Yg _ (ZaC hb e)))).1,fun b hb=>?_⟩
    obtain ⟨o,e,d⟩:=T.obj _ _ st5 b hb
    exact (J8.pin (b,o) (Yg _ (Yg _ (ZaC hb e)))).2.1
   cases ok with
   | false=>
    rw[if_neg YD] at q7 ⊢
    obtain ⟨m',hm,w7⟩:=hN _ _ _ q7
    exact ⟨m',hm,i + 1,σ6,ys,its,k,H7,J7.unpinned,rv,(fin J7).1,(fin J7).2,w7⟩
   | true=>
    rw[if_pos rfl] at q7 ⊢
    have go3:=hE _ s7 σ6 H7 _ J7 q7
    rw[eX] at go3
    refine ZaN go3 fun yv s8 h_=>?_
    obtain ⟨y,H8,J8,r8,n8⟩:=h_
    obtain ⟨m',hm,w8⟩:=hN _ _ _ n8
    have pD8:=J8.pin (s.heap.objs.size,_) (Yg _ (YY _ (Yk.mpr rfl)))
    refine append_at (hsz:=by rw[Yn,←eI];exact hlen) pD8.1 fun h9 hs9 hD9=>?_
    have J9:Inv Y [] σ6 H8 { s8 with heap:=h9 }:=(J8.pins_of (pins':=[]) fun p hp=>absurd hp (by simp)).turned (t':=s8.toks) (fun b o hb e=>(hs9.2 b hb).trans e) pD8.2.1 (by rw[eL];exact hDC)
     (.inr (by rw[eS];exact Yi _)) cellLt fun p hp=>pnLt p (by simpa using hp)
    refine ⟨m',hm,i + 1,σ6,ys++[y],its++[yv],k + 1,H8,pinD J9 pD8.2.1 (by rw[hD9,List.push_toArray]),Vals.append rv (.cons r8 .nil),?_,(fin J8).2,w8⟩
    exact T.keep _ _ _ (fin J8).1 fun b hb o e=>(hs9.2 b (fpD b hb)).trans e
 exact codeAny_compStart_list (loop _ rfl) (T.self _ 0 _ _ _ (T.keep _ _ _ st fun b _ o e=>old b o e) (loop _ rfl))
theorem pe_comp {wi:TI}(S:6e2)(hc:5e2)(hi:PI X tg iter wi)
  (bG:∀C s₀ H₀ ex pn,PG 1e0 tg g) (bT:∀C s₀ H₀ ex pn,PTs 1e0 ifs tt) (bE:∀C s₀ H₀ ex pn,PE 1e0 elt te)
  (hs:7e7:=by intro _;rfl):
  PE X 6e4 (tComp wi vs fr g tt te):=by
 intro pins s σ H Q I h
 rw[eval_ListComp]
 refine WA (use:=none) rfl hs (ZbF (S.clos I.ok)) S.kind S.loc' (thn (hi pins s σ H _ I h) fun v s1 h1=>thn h1 fun itv s2 h2=>?_)
 obtain ⟨it,fp,tn,J,H2,e,I2,T,st2,f2,q2⟩:=h2
 subst e
 refine ZdJ (RR:=fun acc C=>compPost 2e0 X.A X.xe none (EP X pins σ Q) acc C) S hc bG bT bE I2 T st2 f2 q2 ?_
 intro D C H' s' m' I' hq hn hC hle
 refine ⟨m',hn,fun h' hs'=>⟨.ref D,H',?_,rfl,hq⟩⟩
 refine I'.turned (t':=s'.toks) (fun b o hb e=>(hs'.2 b hb).trans e) hC ?_ (.inr (YQ I2.sz hle)) ?_ ?_
 ·exact X1 (Yo I2.lt hle)
 ·intro x c e
  obtain ⟨v,z⟩:=I2.cell x c e
  exact Yt (Yo z.lt hle)
 ·intro p hp
  exact Zaw (I2.pin p hp).1 hle
theorem ps_comp {wi:TI}{i:Nat}{x:Str}{px spos:Pos}(hN:X.N.Nodup)(hx:X.N[i]? = some x)(hl:X.env.scope.names.lookup x=some .local)
  (S:6e2) (hc:5e2) (hi:PI X tg iter wi)
  (bG:∀C s₀ H₀ ex pn,PG 1e0 tg g) (bT:∀C s₀ H₀ ex pn,PTs 1e0 ifs tt) (bE:∀C s₀ H₀ ex pn,PE 1e0 elt te)
  (hsw:Wv 6e4 (some (.Name x px)) spos.line X.env=pure true:=by rfl)
  (hs:7e7:=by intro _;rfl):
  PS X (.Assign [.Name x px] 6e4 spos) (fun D σ H=>tComp wi vs fr g tt te σ H fun v H1=>D.nx (σ.set i (some v)) H1):=by
 intro pins s σ H D I h
 rw[exec_Assign_Name_used _ _ _ _ hsw]
 refine Ya (WI (Ya ?_))
 show wpAny _ X.A (do let _ ←comprehension 6e4 scope X.env _ (newList []) false (eval iter X.env) (some (assign (.Name x px) X.env))) _ _ s
 refine Ya (Y5 (WA (use:=some (assign (.Name x px) X.env)) (Q:=fun _ s'=>SP X pins D .next s') rfl hs (ZbF (S.clos I.ok)) S.kind S.loc'
  (thn (hi pins s σ H _ I h) fun v s1 h1=>thn h1 fun itv s2 h2=>?_)) (fun _ s' hq=>Yc (Yc hq)) fun _ _ e=>e)
 obtain ⟨it,fp,tn,J,H2,e,I2,T,st2,f2,q2⟩:=h2
 subst e
 refine ZdJ (RR:=fun acc C=>compPost 2e0 X.A X.xe (some (assign (.Name x px) X.env)) (fun _ s'=>SP X pins D .next s') acc C) (Q:=fun v H1=>D.nx (σ.set i (some v)) H1) S hc bG bT bE I2 T st2 f2 q2 ?_
 intro Dd C H' s' m' I' hq hn hC hle
 show wpAny _ X.A (assign (.Name x px) X.env (.ref Dd)) _ _ _
 have hCL:C≠X.env.locals:=X1 (Yo I2.lt hle)
 have hCc:∀x c,X.env.cells.lookup x=some c->c≠C:=fun x c e=>by
  obtain ⟨v,z⟩:=I2.cell x c e
  exact Yt (Yo z.lt hle)
 refine wpAny_assign_Name (store_ok2 I' hN hx (.inl hl) (v:=.ref Dd) rfl (fun s'' I'' hch=>?_) (.inr hl))
 obtain ⟨a,hs'',ha⟩:=hch
 have hCa:C≠a:=by
  rcases ha with rfl | ha
  ·exact hCL
  ·exact XH (hCc x a ha)
 refine ⟨m',hn.sameBut hs'' hCa,fun h' hs'=>⟨σ.set i (some (.ref Dd)),H',?_,hq⟩⟩
 refine I''.turned (t':=s''.toks) (fun b o hb e=>(hs'.2 b hb).trans e) hC hCL (.inr (YQ I2.sz hle)) hCc ?_
 intro p hp
 exact Zaw (I2.pin p hp).1 hle
end
section
variable {prog:Yy}{w:World}{A:Around}{R:9e2}{s:Shared}
theorem compLoop_anyD {kx vx target iter:Expr}{ifs:3e2}{scope:Scope}{pos:Pos}{it:Value}{D:Addr}{env:Env}(I:Nat->Shared->Prop)
  (turn:∀k z,I k z->wpAny 1e9 A (pyNext it) (fun r z1=>match r with
   | none=>R (.ok .next) z1
   | some v=>wpAny 1e9 A (X2 target it v) (fun _ z2=>wpAny 1e9 A (assign target env v) (fun _ z3=>wpAny 1e9 A (testsOf env ifs) (fun yes z4=>
     if yes=true then wpAny 1e9 A (eval kx env) (fun x z5=>wpAny 1e9 A (eval vx env) (fun y z6=>wpAny 1e9 A (dictSet D x y) (fun _ z7=>∃m,m < k/\I m z7) (Out prog w A env R) z6) (Out prog w A env R) z5) (Out prog w A env R) z4
     else ∃m,m < k/\I m z4) (Out prog w A env R) z3) (Out prog w A env R) z2) (Out prog w A env R) z1) (Out prog w A env R) z)
  (n:Nat) (h:I n s):XT 1e9 A (.compLoop (.DictComp kx vx [⟨target,iter,ifs,0⟩] scope pos) 0 it (.ref D) env) R s:=by
 refine codeAny_loop rfl I ?_ n h
 intro k z hz
 refine wpAny_noted ?_
 rw[compTurn_dict]
 apply Ya
 apply WI
 apply Ya
 refine Y5 (turn k z hz) ?_ fun _ _ e=>e
 rintro (_ | v) z1 y1
 ·exact Yc y1
 apply Ya
 refine Y5 y1 (fun _ z2 y2=>?_) fun _ _ e=>e
 apply Ya
 refine Y5 y2 (fun _ z3 y3=>?_) fun _ _ e=>e
 apply Ya
 refine Y5 y3 (fun yes z4 y4=>?_) fun _ _ e=>e
 by_cases b:yes=true
 ·subst b
  apply Ya
  apply Ya
  refine Y5 y4 (fun x z5 y5=>?_) fun _ _ e=>e
  apply Ya
  apply Xa
  refine Y5 y5 (fun y z6 y6=>?_) fun _ _ e=>e
  apply Ya
  apply WI
  apply Xa
  exact Y5 y6 (fun _ z7 y7=>Yc ⟨rfl,y7⟩) fun _ _ e=>e
 ·have nb:yes=false:=by simpa using b
  subst nb
  exact Yc ⟨rfl,y4⟩
end
section
variable {X:Cx}{pins:1e6}{σ:St}{H:Hp}{s:Shared}{a:Addr}{y v:V}{u r:Value}{A:Around}{E:1e1}
theorem d_dictSet {H':Hp}{Q:Unit->Shared->Prop}(hu:A.units + 1 < cLine)(I:1e7)(g:DPut H a y v H')(ry:RelV y u)(rv:RelV v r)(h:∀s',Inv X pins σ H' s'->Q () s'):
  wpAny 2e0 A (dictSet a u r) Q E s:=by
 rcases g with ⟨kvs,k,e,ey,l,eH⟩ | ⟨kvs,k,b,e,ey,eb,l,eH⟩
 ·subst ey eH
  obtain ⟨z,hd,vs,rel,dd⟩:=dk_of I.hok e
  have hz:vs.length<=sizeLine:=by rw[←rel.length];exact z
  have hl:(putK kvs k v).length<=sizeLine:=by have:=ZaU kvs k v;lia
  refine wpAny_dictSet_pairs (hsz:=hz) (kV_is ry) dd fun h' dd' hs=>h _ ?_
  have he:∃q,h'.get? a=some q:=let ⟨q,_,_,hq,_⟩:=dd';⟨q,hq⟩
  exact Zdi I (by rw[e];exact Uo) hs he (dk_new hl hd (rel.put k rv) dd')
 ·subst ey eH
  cases (show u=YG b from ry)
  obtain ⟨z,hd,xs,rel,dd⟩:=dt_of I.hok e
  have hz:xs.length<=sizeLine:=by rw[←Wm rel];exact z
  have hl:(putK kvs k v).length<=sizeLine:=by have:=ZaU kvs k v;lia
  refine wpAny_dictSet_heap (hsz:=hz) (show (Vh (mixKind X.prog X.w)).room A from by show A.units < cLine;lia) (Zc8 I.hok eb) dd fun h' dd' hs=>h _ ?_
  obtain ⟨q,es,ep,hq,h2,h3,h4,_,h5⟩:=dd'
  refine Zdi I (by rw[e];exact Uo) hs ⟨q,hq⟩ ⟨hl,hd,_,(rel.put k eb rv).keeps fun c ys ec=>?_,q,es,ep,hq,h2,h3,h4,h5⟩
  rw[Zag (ne_of ec e (fun z=>nomatch z))]
  exact ec
end
def CompWD (J:It)(vs:4e0)(fr:6e3)(g:TG)(tt:TT)(tk te:TE)(σ:St)(H1:Hp)(Q:VK):Prop:=
 ∀D,H1 D=none->∃W:Nat->Nat->St->Hp->Prop,(∃m,W 0 m (stIn vs fr σ) (upd H1 D (.dT [])))/\∀i m σ' H,W i m σ' H->
  (J.stop i H/\Q (.ref D) H)\/
  (J.go i H/\∃N:St->Hp->Prop,(∀σ2 H2,N σ2 H2->∃m',m' < m/\W (i + 1) m' σ2 H2)/\∀x H',J.yld i H x H'->g x σ' H' fun σ2 H2=>tt σ2 H2 fun b H3=>
   if b=true then tk σ2 H3 fun y H4=>te σ2 H4 fun v H5=>∃H6,DPut H5 D y v H6/\N σ2 H6 else N σ2 H3)
def tCompD (wi:TI)(vs:4e0)(fr:6e3)(g:TG)(tt:TT)(tk te:TE):TE:=fun σ H Q=>wi σ H fun J H1=>CompWD J vs fr g tt tk te σ H1 Q
section
variable {X:Cx}{tg kx vx iter:Expr}{ifs:3e2}{scope:Scope}{pos:Pos}{vs fs:4e0}{fr:6e3}{g:TG}{tt:TT}{tk te:TE}
theorem comp_backD {pins:1e6}{σ σ':St}{H H':Hp}{s s':Shared}{fp:2e2}{C:Addr}{pl:1e6}(I:1e7)
  (hf:∀b∈fp,FpOk X pins H b) (J:Inv (CompCx X (vs++fs) scope C s H fp (X.pn++pins)) pl σ' H' s'):Inv X pins σ H' s':=by
 have u:Un (frs X.stack) fp H H' s.heap s'.heap:=J.base
 refine I.call' (ch:=fp) J.os u J.hok J.bare fun b hb=>?_
 obtain ⟨f0,f1,f2,f3,f4,f5⟩:=hf b hb
 exact ⟨f3,f1,f4,f5⟩
theorem comp_blockD {pins:1e6}{σ:St}{H:Hp}{s:Shared}{Q:VK}{it:Addr}{fp:2e2}{tn:Nat->Heap->Prop}{J:It}{RR:Value->Addr->Result->Shared->Prop}
  (S:6e2) (hc:5e2) (hu:X.A.units + 1 < cLine)
  (bG:∀C s₀ H₀ ex pn,PG 1e0 tg g) (bT:∀C s₀ H₀ ex pn,PTs 1e0 ifs tt) (bK:∀C s₀ H₀ ex pn,PE 1e0 kx tk) (bE:∀C s₀ H₀ ex pn,PE 1e0 vx te)
  (I:1e7) (T:Turn X.prog X.w X.K tg J fp it tn) (st:tn 0 s.heap) (hf:∀b∈fp,FpOk X pins H b)
  (q:CompWD J vs fr g tt tk te σ H Q)
  (hRR:∀D C H' s' m',Inv X pins σ H' s'->Q (.ref D) H'->s'.heap.Ns C m'->H' C=none->s.heap.objs.size<=C->RR (.ref D) C (.ok .next) s'):
  wpAny 2e0 X.A newDict (fun acc s₃=>wpAny 2e0 X.A (newFunctionEnv scope X.env.globals (clFrom X.env.cells scope.names []) [] X.env.qual none .none (some X.env)) (fun cenv s₄=>
   XT (model X.prog X.w) X.A (.compStart (.DictComp kx vx [⟨tg,iter,ifs,0⟩] scope pos) 0 (.ref it) acc { cenv with scope:=relabel scope X.env }) (RR acc cenv.locals) s₄) X.xe s₃) X.xe s:=by
 have hDn:H s.heap.objs.size=none:=I.hok.fresh (Yi _)
 obtain ⟨W,⟨m0,w0⟩,turn⟩:=q s.heap.objs.size hDn
 have I':=I.laid (a:=s.heap.objs.size) (o:=.dT []) (t':=s.toks) (fun _ _ q=>Yb _ q) (Yi _) (dt_empty s.heap I.big)
 have hfo0:∀b∈fp,∃o,s.heap.get? b=some o:=fun b hb=>by obtain ⟨o,e,_⟩:=T.obj 0 _ st b hb;exact ⟨o,e⟩
 have fpD:∀b∈fp,b≠s.heap.objs.size:=fun b hb=>by obtain ⟨o,e⟩:=hfo0 b hb;exact Zaw e (Yi _)
 have hf':∀b∈fp,FpOk X pins (upd H s.heap.objs.size (.dT [])) b:=fun b hb=>by
  obtain ⟨f0,f1,f2,f3,f4,f5⟩:=hf b hb
  exact ⟨by rw[Zag (fpD b hb)];exact f0,f1,f2,f3,f4,f5⟩
 refine Xk (Ug S.cell' (by intro y hy;simp at hy) (fun h₁ hns₁ hsb₁=>?_) S.kind)
 dsimp only at hns₁ hsb₁ ⊢
 generalize hH2:s.heap.push { cls:=.type "dict",data:=.dict #[] }=H2 at hns₁ hsb₁ I' ⊢
 have hCs:H2.objs.size=s.heap.objs.size + 1:=by rw[←hH2,Vk]
 have old:∀b o,H2.get? b=some o->h₁.get? b=some o:=fun b o e=>hsb₁.extBut b o (Zaw e (Yi _)) (Yb _ e)
 have old0:∀b o,s.heap.get? b=some o->H2.get? b=some o:=fun b o e=>by rw[←hH2];exact Yb _ e
 have hfo:∀b∈fp,∃o,H2.get? b=some o:=fun b hb=>by obtain ⟨o,e⟩:=hfo0 b hb;exact ⟨o,old0 b o e⟩
 generalize hs2:({ s with heap:=H2,toks:=s.toks }:Shared)=s2 at I'
 have es2:s2.heap=H2:=by rw[←hs2]
 generalize hY:CompCx X (vs++fs) scope H2.objs.size s2 (upd H s.heap.objs.size (.dT [])) fp (X.pn++pins)=Y
 have J0:Inv Y [] (stIn vs fr σ) (upd H s.heap.objs.size (.dT [])) { s with heap:=h₁,toks:=s.toks + ([]:List (Str×Value)).length }:=by
  rw[←hY]
  have:=Zck (tk:=s.toks + ([]:List (Str×Value)).length) S I' hf' (by rw[es2];exact hfo) (by rw[es2];exact Yi _) hns₁ (by rw[es2];exact old)
  rw[←hs2] at this ⊢;exact this
 have hG:PG Y tg g:=by rw[←hY];exact bG _ _ _ _ _
 have hT:PTs Y ifs tt:=by rw[←hY];exact bT _ _ _ _ _
 have hK:PE Y kx tk:=by rw[←hY];exact bK _ _ _ _ _
 have hE:PE Y vx te:=by rw[←hY];exact bE _ _ _ _ _
 have ePr:Y.prog=X.prog:=by rw[←hY];rfl
 have eW:Y.w=X.w:=by rw[←hY];rfl
 have eK:Y.K=X.K:=by rw[←hY];rfl
 have eA:Y.A=X.A:=by rw[←hY];rfl
 have eC:Y.calm=true:=by rw[←hY];exact hc
 have eEnv:Y.env=Yas scope (clFrom X.env.cells scope.names []) H2.objs.size X.env:=by rw[←hY];rfl
 have eL:Y.env.locals=H2.objs.size:=by rw[eEnv];rfl
 have eX:Y.xe=fun _ _=>False:=by rw[←hY];rfl
 have eEx:Y.ex=fp:=by rw[←hY];rfl
 have eFs:Y.fs=frs X.stack:=by rw[←hY];rfl
 have ePn:Y.pn=X.pn++pins:=by rw[←hY];rfl
 have eCl:∀x c,Y.env.cells.lookup x=some c->X.env.cells.lookup x=some c:=fun x c e=>by
  rw[eEnv] at e;exact S.cl I.ok e
 have stat:∀{H':Hp},8e7->∀b∈fp,FpOk Y [] H' b:=fun {H'} hn b hb=>by
  obtain ⟨f0,f1,f2,f3,f4,f5⟩:=hf b hb
  obtain ⟨ob,e⟩:=hfo b hb
  refine ⟨hn b hb,by rw[eL];exact Zaw e (Yi _),fun z=>?_,.inl (by rw[eEx];exact hb),fun x c e=>f4 x c (eCl x c e),fun p hp=>?_⟩
  ·rw[eFs] at z
   rcases Yl.mp (I.stkSub _ z) with z | z
   ·exact f1 z
   ·exact f2 z
  ·rw[YL,ePn] at hp;exact f5 p hp
 have loop:∀s₃:Shared,s₃={ s with heap:=h₁,toks:=s.toks + ([]:List (Str×Value)).length }->
   XT 2e0 X.A (.compLoop (.DictComp kx vx [⟨tg,iter,ifs,0⟩] scope pos) 0 (.ref it) 4e5 (Yas scope (clFrom X.env.cells scope.names []) H2.objs.size X.env))
    (RR 4e5 H2.objs.size) s₃:=by
  rintro s₃ rfl
  rw[←eEnv,←ePr,←eW,←eA]
  refine compLoop_anyD (fun n s'=>∃i σ' H',Inv Y [] σ' H' s'/\tn i s'.heap/\8e7/\W i n σ' H') ?_ m0
   ⟨0,_,_,J0,T.keep _ _ _ st fun b _ o e=>old b o (old0 b o e),fun b hb=>(hf' b hb).1,w0⟩
  rintro n s3 ⟨i,σ3,H3,J3,st3,fr3,w3⟩
  rcases turn i n σ3 H3 w3 with ⟨stop,qn⟩ | ⟨go,N,hN,step⟩
  ·have dn:=T.done Y ePr eW eK eC i _ s3 σ3 H3 (fun _ _=>False) J3 (stat fr3) st3 stop
   rw[←ePr,←eW] at dn
   refine ZaN dn fun r s4 h_=>?_
   obtain ⟨hr,J4⟩:=h_
   subst hr
   obtain ⟨m4,hm4,_⟩:=id J4.loc
   rw[eL] at hm4
   have nC:H3 H2.objs.size=none:=by rw[←eL];exact J4.free
   exact hRR _ _ _ s4 m4 (comp_backD I' hf' (by rw[hY];exact J4)) qn hm4 nC (by rw[hCs];exact Yaw _)
  ·have im:=T.item Y ePr eW eK eC i _ s3 σ3 H3 (fun _ _=>False) J3 (stat fr3) st3 go
   rw[←ePr,←eW] at im
   refine ZaN im fun r s4 h_=>?_
   obtain ⟨u,hr,h4⟩:=h_
   subst hr
   refine ZaN h4 fun _ s5 h_=>?_
   obtain ⟨x,H5,J5,r5,y5,st5,fr5⟩:=h_
   have J5':=J5.pinned (stat fr5) (T.obj _ _ st5)
   have go1:=hG _ s5 σ3 H5 x u _ J5' r5 (step x H5 y5)
   rw[eX] at go1
   refine ZaN go1 fun _ s6 h_=>?_
   obtain ⟨σ6,H6,J6,q6⟩:=h_
   have go2:=hT _ s6 σ6 H6 _ J6 q6
   rw[eX] at go2
   refine ZaN go2 fun ok s7 h_=>?_
   obtain ⟨H7,J7,q7⟩:=h_
   have fin:∀{σ8:St} {H8:Hp} {s8:Shared},Inv Y ([]++pinsAt fp s5.heap) σ8 H8 s8->
     tn (i + 1) s8.heap/\(∀b∈fp,H8 b=none):=fun {σ8 H8 s8} J8=>by
    refine ⟨T.keep _ _ _ st5 fun b hb o e=>(J8.pin (b,o) (Yg _ (Yg _ (ZaC hb e)))).1,fun b hb=>?_⟩
    obtain ⟨o,e,d⟩:=T.obj _ _ st5 b hb
    exact (J8.pin (b,o) (Yg _ (Yg _ (ZaC hb e)))).2.1
   cases ok with
   | false=>
    rw[if_neg YD] at q7 ⊢
    obtain ⟨m',hm,w7⟩:=hN _ _ q7
    exact ⟨m',hm,i + 1,σ6,H7,J7.unpinned,(fin J7).1,(fin J7).2,w7⟩
   | true=>
    rw[if_pos rfl] at q7 ⊢
    have go3:=hK _ s7 σ6 H7 _ J7 q7
    rw[eX] at go3
    refine ZaN go3 fun kv s8 h_=>?_
    obtain ⟨y,H8,J8,r8,q8⟩:=h_
    have go4:=hE _ s8 σ6 H8 _ J8 q8
    rw[eX] at go4
    refine ZaN go4 fun vv s9 h_=>?_
    obtain ⟨v,H9,J9,r9,H10,pt,n10⟩:=h_
    obtain ⟨m',hm,w10⟩:=hN _ _ n10
    exact d_dictSet (by rw[eA];exact hu) J9 pt r8 r9 fun s10 J10=>⟨m',hm,i + 1,σ6,H10,J10.unpinned,(fin J10).1,(fin J10).2,w10⟩
 exact codeAny_compStart_dict (loop _ rfl) (T.self _ 0 _ _ _ (T.keep _ _ _ st fun b _ o e=>old b o (old0 b o e)) (loop _ rfl))
end
section
variable {X:Cx}{tg kx vx iter:Expr}{ifs:3e2}{scope:Scope}{pos:Pos}{vs fs:4e0}{fr:6e3}{g:TG}{tt:TT}{tk te:TE}
theorem pe_compD {wi:TI}(S:6e2)(hc:5e2)(hu:X.A.units + 1 < cLine)(hi:PI X tg iter wi)
  (bG:∀C s₀ H₀ ex pn,PG 1e0 tg g) (bT:∀C s₀ H₀ ex pn,PTs 1e0 ifs tt) (bK:∀C s₀ H₀ ex pn,PE 1e0 kx tk) (bE:∀C s₀ H₀ ex pn,PE 1e0 vx te)
  (hs:7e7:=by intro _;rfl):
  PE X (.DictComp kx vx [⟨tg,iter,ifs,0⟩] scope pos) (tCompD wi vs fr g tt tk te):=by
 intro pins s σ H Q I h
 rw[arm_eval_DictComp]
 refine WA (use:=none) rfl hs (ZbF (S.clos I.ok)) S.kind S.loc' (thn (hi pins s σ H _ I h) fun v s1 h1=>thn h1 fun itv s2 h2=>?_)
 obtain ⟨it,fp,tn,J,H2,e,I2,T,st2,f2,q2⟩:=h2
 subst e
 refine comp_blockD (RR:=fun acc C=>compPost 2e0 X.A X.xe none (EP X pins σ Q) acc C) S hc hu bG bT bK bE I2 T st2 f2 q2 ?_
 intro D C H' s' m' I' hq hn hC hle
 refine ⟨m',hn,fun h' hs'=>⟨.ref D,H',?_,rfl,hq⟩⟩
 refine I'.turned (t':=s'.toks) (fun b o hb e=>(hs'.2 b hb).trans e) hC ?_ (.inr (YQ I2.sz hle)) ?_ ?_
 ·exact X1 (Yo I2.lt hle)
 ·intro x c e
  obtain ⟨v,z⟩:=I2.cell x c e
  exact Yt (Yo z.lt hle)
 ·intro p hp
  exact Zaw (I2.pin p hp).1 hle
end
section
variable {X:Cx}
def Its (z:Str):It:=⟨fun i _=>i < z.cps.size,fun i H x H'=>H'=H/\∃c,z.cps[i]? = some c/\x=.str ⟨#[c]⟩,fun i _=>i=z.cps.size⟩
theorem turn_str {P:Yy}{w:World}{K:W.Frag}{tg:Expr}{it:Addr}{z:Str}{t:Tok}{ty:String}(hty:ty="str_ascii_iterator"\/ty="str_iterator"):Turn P w K tg (Its z) [it] it (fun i h=>h.IsStrIter it ty z t i) where
 mem:=by simp
 obj:=fun i h st b hb=>by
  have e:b=it:=by simpa using hb
  subst e
  obtain ⟨o,e,c,d⟩:=st
  exact ⟨o,e,fun v z=>by rw[d] at z;cases z⟩
 keep:=fun i h h' st k=>by
  obtain ⟨o,e,c,d⟩:=st
  exact ⟨o,k it 3e0 o e,c,d⟩
 item:=by
  sleep 1
  sleep 4
  have fin:∀v h' tk,SignAt z i v->h'.IsStrIter it ty z t (i + 1)->(∀b o,b∉[it]->s.heap.get? b=some o->h'.get? b=some o)->
    ∃u,some v=some u/\wpAny 2e0 X.A (X2 tg (.ref it) u) (fun _ s2=>∃x H',Inv X pins σ H' s2/\RelV x u/\(Its z).yld i H x H'/\s2.heap.IsStrIter it ty z t (i + 1)/\∀b∈[it],H' b=none) E { s with heap:=h',toks:=tk }:=fun v h' tk hv st' kk=>by
   obtain ⟨c,u,hcx,rfl⟩:=hv
   have I1:Inv X pins σ H { s with heap:=h',toks:=tk }:=I.turned (fun b o hb e=>kk b o (by simpa using hb) e) f0 f1 f3 f4 f5
   obtain ⟨o,e,oc,d⟩:=id st'
   refine ⟨_,rfl,go_of (s:={ s with heap:=h',toks:=tk }) e oc d (by rcases hty with rfl | rfl<;>decide) ⟨.str ⟨#[c]⟩,H,I1,⟨u,rfl⟩,⟨rfl,c,hcx,rfl⟩,st',fun b hb=>(hf b hb).1⟩⟩
  rcases hty with rfl | rfl
  ·exact (Walks.strAscii (prog:=X.prog) (w:=X.w) (I.ok.hd hc) it z t).item i s _ _ hg st fin
  ·exact (Walks.strWide (prog:=X.prog) (w:=X.w) (I.ok.hd hc) it z t).item i s _ _ hg st fin
 done:=by
  sleep 1
  sleep 4
  have hg:i=z.cps.size:=hg
  subst hg
  have fin:∀h' tk,(∀b o,b∉[it]->s.heap.get? b=some o->h'.get? b=some o)->(none:Option Value)=none/\Inv X pins σ H { s with heap:=h',toks:=tk }:=fun h' tk kk=>
   ⟨rfl,I.turned (fun b o hb e=>kk b o (by simpa using hb) e) f0 f1 f3 f4 f5⟩
  rcases hty with rfl | rfl
  ·exact (Walks.strAscii (prog:=X.prog) (w:=X.w) (I.ok.hd hc) it z t).done s _ _ st fin
  ·exact (Walks.strWide (prog:=X.prog) (w:=X.w) (I.ok.hd hc) it z t).done s _ _ st fin
 self:=fun _ _ _ _ _ st h=>by
  rcases hty with rfl | rfl
  ·exact wpAny_pyIter_striter_ascii st h
  ·exact wpAny_pyIter_striter_wide st h
end
end L2
namespace Se
open PySem PySem.SetTable
def adv (mask:Nat)(p:Probe):Probe:=
 if p.more > 0 then { p with j:=p.j + 1,more:=p.more - 1 } else
 { p with j:=(leap mask p.i p.perturb).1,more:=runEnd mask (leap mask p.i p.perturb).1 - (leap mask p.i p.perturb).1,i:=(leap mask p.i p.perturb).1,perturb:=(leap mask p.i p.perturb).2 }
theorem adv_eq (t:XC)(p:Probe):t.advance p=adv t.mask p:=by unfold SetTable.advance adv;rfl
def it (mask:Nat):Nat->Probe->Probe
 | 0,p=>p
 | n + 1,p=>it mask n (adv mask p)
theorem it_succ (mask n:Nat):∀p,it mask (n + 1) p=adv mask (it mask n p):=by
 induction n with
 | zero=>intro p;rfl
 | succ n ih=>intro p;exact ih (adv mask p)
theorem Zcq (mask a:Nat):∀(b:Nat) (p:Probe),it mask (a + b) p=it mask b (it mask a p):=by
 induction a with
 | zero=>intro b p;rw[XO];rfl
 | succ a ih=>intro b p;rw[Nat.succ_add];exact ih b (adv mask p)
def inRun (mask i d pt:Nat):Probe:={ j:=i + d,more:=runEnd mask i - i - d,i:=i,perturb:=pt,dummy:=none }
def len (mask i:Nat):Nat:=runEnd mask i - i
theorem len_le (mask i:Nat):len mask i<=9:=by unfold len runEnd;split<;>lia
theorem adv_in {mask i d pt:Nat}(h:d < len mask i):adv mask (inRun mask i d pt)=inRun mask i (d + 1) pt:=by
 unfold len at h
 unfold adv inRun
 dsimp only
 rw[if_pos 1e2]
 have e1:i + d + 1=i + (d + 1):=by lia
 have e2:runEnd mask i - i - d - 1=runEnd mask i - i - (d + 1):=by lia
 rw[e1,e2]
theorem adv_out {mask i d pt:Nat}(h:d=len mask i):adv mask (inRun mask i d pt)=inRun mask (leap mask i pt).1 0 (leap mask i pt).2:=by
 unfold len at h
 unfold adv inRun
 dsimp only
 rw[if_neg 1e2]
 rfl
theorem it_in {mask i pt:Nat}:∀(k d:Nat),d + k<=len mask i->it mask k (inRun mask i d pt)=inRun mask i (d + k) pt
 | 0,d,_=>rfl
 | k + 1,d,h=>by
  show it mask k (adv mask (inRun mask i d pt))=_
  rw[adv_in 1e2,it_in k (d + 1) 1e2]
  have e:d + 1 + k=d + (k + 1):=by lia
  rw[e]
theorem it_next {mask i d pt:Nat}(h:d<=len mask i):it mask (len mask i - d + 1) (inRun mask i d pt)=inRun mask (leap mask i pt).1 0 (leap mask i pt).2:=by
 rw[it_succ,it_in _ _ 1e2,adv_out 1e2]
def lp (mask:Nat):Nat->Nat×Nat->Nat×Nat
 | 0,p=>p
 | n + 1,p=>lp mask n (leap mask p.1 p.2)
theorem it_lp (mask:Nat):∀(k i pt:Nat),∃c,c<=10 * k/\it mask c (inRun mask i 0 pt)=inRun mask (lp mask k (i,pt)).1 0 (lp mask k (i,pt)).2
 | 0,i,pt=>⟨0,Y4 _,rfl⟩
 | k + 1,i,pt=>by
  obtain ⟨c,hc,e⟩:=it_lp mask k (leap mask i pt).1 (leap mask i pt).2
  refine ⟨(len mask i - 0 + 1) + c,?_,?_⟩
  ·have:=len_le mask i;lia
  ·rw[Zcq,it_next (Y4 _),e];rfl
theorem lp_add (mask a:Nat):∀(b:Nat) (p:Nat×Nat),lp mask (a + b) p=lp mask b (lp mask a p):=by
 induction a with
 | zero=>intro b p;rw[XO];rfl
 | succ a ih=>intro b p;rw[Nat.succ_add];exact ih b _
theorem lp_pt (mask:Nat):∀(k i pt:Nat),(lp mask k (i,pt)).2=pt / 32 ^ k
 | 0,i,pt=>by simp[lp]
 | k + 1,i,pt=>by
  show (lp mask k (leap mask i pt)).2=_
  have:leap mask i pt=((i * 5 + 1 + pt / 32) % (mask + 1),pt / 32):=rfl
  rw[this,lp_pt mask k,Nat.div_div_eq_div_mul,Nat.pow_succ,Nat.mul_comm]
theorem lp_lt (mask:Nat):∀(k i pt:Nat),i < mask + 1->(lp mask k (i,pt)).1 < mask + 1
 | 0,i,pt,h=>h
 | k + 1,i,pt,h=>lp_lt mask k _ _ (Up _ (UK _))
def f (mask i:Nat):Nat:=(i * 5 + 1) % (mask + 1)
def fk (mask:Nat):Nat->Nat->Nat
 | 0,i=>i
 | n + 1,i=>fk mask n (f mask i)
theorem lp_zero (mask:Nat):∀(k i:Nat),lp mask k (i,0)=(fk mask k i,0)
 | 0,i=>rfl
 | k + 1,i=>by
  show lp mask k (leap mask i 0)=_
  have:leap mask i 0=(f mask i,0):=by simp[leap,f]
  rw[this,lp_zero mask k];rfl
theorem fk_add (mask a:Nat):∀(b i:Nat),fk mask (a + b) i=fk mask b (fk mask a i):=by
 induction a with
 | zero=>intro b i;rw[XO];rfl
 | succ a ih=>intro b i;rw[Nat.succ_add];exact ih b _
def Mk (mask:Nat):Prop:=mask=7\/mask=31\/mask=127
def orb (mask:Nat):Nat->Nat->List Nat
 | 0,_=>[]
 | n + 1,i=>i::orb mask n (f mask i)
theorem orb_get (mask:Nat):∀(n i j:Nat),j∈orb mask n i->∃k,k < n/\fk mask k i=j
 | 0,i,j,h=>by cases h
 | n + 1,i,j,h=>by
  rcases Yl.mp h with rfl | h
  ·exact ⟨0,by lia,rfl⟩
  ·obtain ⟨k,hk,e⟩:=orb_get mask n _ _ h
   exact ⟨k + 1,by lia,e⟩
theorem orb_all {mask:Nat}(h:Mk mask):(YW (mask + 1)).all (fun j=>(orb mask (mask + 1) 0).elem j)=true/\fk mask (mask + 1) 0=0:=by
 rcases h with rfl | rfl | rfl<;>exact ⟨by decide +kernel,by decide +kernel⟩
theorem from0 {mask j:Nat}(h:Mk mask)(hj:j < mask + 1):∃k,k < mask + 1/\fk mask k 0=j:=by
 have:=YR.mp (orb_all h).1 j (Xq.mpr hj)
 exact orb_get mask _ _ _ (List.elem_iff.mp this)
theorem goes {mask i j:Nat}(h:Mk mask)(hi:i < mask + 1)(hj:j < mask + 1):∃k,k < mask + 1/\fk mask k i=j:=by
 obtain ⟨a,ha,ea⟩:=from0 h hi
 obtain ⟨b,hb,eb⟩:=from0 h hj
 by_cases hab:a<=b
 ·refine ⟨b - a,by lia,?_⟩
  rw[←ea,←fk_add,show a + (b - a)=b by lia,eb]
 ·refine ⟨b + (mask + 1) - a,by lia,?_⟩
  rw[←ea,←fk_add,show a + (b + (mask + 1) - a)=(mask + 1) + b by lia,fk_add,(orb_all h).2,eb]
theorem meets {mask i d pt j:Nat}(h:Mk mask)(hd:d<=len mask i)(hpt:pt < 2 ^ 64)(hj:j < mask + 1):∃k,k < 10 * turns mask/\(it mask k (inRun mask i d pt)).j=j:=by
 have e1:=it_next (pt:=pt) hd
 obtain ⟨c,hc,e2⟩:=it_lp mask 13 (leap mask i pt).1 (leap mask i pt).2
 have hz:(lp mask 13 ((leap mask i pt).1,(leap mask i pt).2)).2=0:=by
  rw[lp_pt]
  have:(leap mask i pt).2=pt / 32:=rfl
  rw[this,Nat.div_div_eq_div_mul]
  exact Nat.div_eq_of_lt (UJ hpt 1e4)
 have hl:(lp mask 13 ((leap mask i pt).1,(leap mask i pt).2)).1 < mask + 1:=lp_lt mask 13 _ _ (Up _ (UK _))
 generalize lp mask 13 ((leap mask i pt).1,(leap mask i pt).2)=q at hz hl e2
 obtain ⟨i2,pt2⟩:=q
 dsimp only at hz hl e2
 subst hz
 obtain ⟨k,hk,ek⟩:=goes h hl hj
 obtain ⟨c2,hc2,e3⟩:=it_lp mask k i2 0
 rw[lp_zero,ek] at e3
 refine ⟨(len mask i - d + 1) + (c + c2),?_,?_⟩
 ·have:=len_le mask i;unfold turns;lia
 ·rw[Zcq,e1,Zcq,e2,e3];rfl
theorem bits_lt (h:Int):bits h < 2 ^ 64:=by
 unfold bits
 have h1:0<=h % (2 ^ 64:Int):=Xl _ 1e4
 have h2:h % (2 ^ 64:Int) < 2 ^ 64:=Xd _ 1e4
 lia
def Wf (mask:Nat)(p:Probe):Prop:=∃i d pt,p=inRun mask i d pt/\d<=len mask i/\pt < 2 ^ 64
theorem Wf.adv {mask:Nat}{p:Probe}(h:Wf mask p):Wf mask (adv mask p):=by
 obtain ⟨i,d,pt,rfl,hd,hp⟩:=h
 by_cases e:d=len mask i
 ·rw[adv_out e];exact ⟨_,0,_,rfl,Y4 _,UI (Nat.div_le_self _ _) hp⟩
 ·rw[adv_in 1e2];exact ⟨i,d + 1,pt,rfl,by lia,hp⟩
theorem Wf.it {mask:Nat}:∀(n:Nat) {p:Probe},Wf mask p->Wf mask (it mask n p)
 | 0,p,h=>h
 | n + 1,p,h=>Wf.it n h.adv
theorem Wf.start (mask:Nat)(h:Int):Wf mask (inRun mask (bits h % (mask + 1)) 0 (bits h)):=⟨_,0,_,rfl,Y4 _,bits_lt h⟩
theorem Wf.meets {mask j:Nat}{p:Probe}(w:Wf mask p)(h:Mk mask)(hj:j < mask + 1):∃k,k < 10 * turns mask/\(Se.it mask k p).j=j:=by
 obtain ⟨i,d,pt,rfl,hd,hp⟩:=w
 exact Se.meets h hd hp hj
theorem Wf.dummy {mask:Nat}{p:Probe}(w:Wf mask p):p.dummy=none:=by obtain ⟨i,d,pt,rfl,_⟩:=w;rfl
def Rising (xs:8e5):Prop:=∀(a b:Nat) (x y:Nat),a < b->xs[a]? = some x->xs[b]? = some y->x < y
theorem below_go {xs:8e5}{j:Nat}(hr:Rising xs):∀(fuel lo hi:Nat),lo<=hi->hi<=xs.size->hi - lo<=fuel->(∀k x,k < lo->xs[k]? = some x->x < j)->(∀k x,hi<=k->xs[k]? = some x->j<=x)->
  (∀k x,k < below.go xs j fuel lo hi->xs[k]? = some x->x < j)/\(∀k x,below.go xs j fuel lo hi<=k->xs[k]? = some x->j<=x)/\below.go xs j fuel lo hi<=xs.size
 | 0,lo,hi,h1,h2,h3,ha,hb=>by
  have:hi=lo:=by lia
  subst this
  exact ⟨ha,hb,h2⟩
 | fuel + 1,lo,hi,h1,h2,h3,ha,hb=>by
  unfold below.go
  by_cases hlt:lo < hi
  ·rw[if_pos hlt]
   have hm:(lo + hi) / 2 < xs.size:=by lia
   obtain ⟨v,hv⟩:∃v,xs[(lo + hi) / 2]? = some v:=⟨_,Yj hm⟩
   have hd:xs.getD ((lo + hi) / 2) j=v:=by rw[YM,hv];rfl
   dsimp only
   rw[hd]
   by_cases hj:v < j
   ·rw[if_pos hj]
    refine below_go hr fuel _ hi 1e2 h2 1e2 (fun k x hk hx=>?_) hb
    rcases YS k ((lo + hi) / 2) with q | q
    ·exact UJ (hr k _ x v q hx hv) hj
    ·have:k=(lo + hi) / 2:=by lia
     subst this;rw[hv] at hx;cases hx;exact hj
   ·rw[if_neg hj]
    refine below_go hr fuel lo _ 1e2 1e2 1e2 ha (fun k x hk hx=>?_)
    rcases YS ((lo + hi) / 2) k with q | q
    ·exact Xv (UI (Yaa hj) (hr _ k v x q hv hx))
    ·have:k=(lo + hi) / 2:=by lia
     subst this;rw[hv] at hx;cases hx;exact Yaa hj
  ·rw[if_neg hlt]
   have:hi=lo:=by lia
   subst this
   exact ⟨ha,hb,h2⟩
theorem ZcE {xs:8e5}(hr:Rising xs)(j:Nat):(∀k x,k < below xs j->xs[k]? = some x->x < j)/\(∀k x,below xs j<=k->xs[k]? = some x->j<=x)/\below xs j<=xs.size:=
 below_go hr _ 0 _ (Y4 _) (Yi _) 1e2 (fun k x h=>absurd h (Wd _)) (fun k x h e=>by rw[YH h] at e;cases e)
theorem below_at {xs:8e5}(hr:Rising xs){i j:Nat}(e:xs[i]? = some j):below xs j=i:=by
 obtain ⟨h1,h2,h3⟩:=ZcE hr j
 rcases VZ (below xs j) i with q | q | q
 ·obtain ⟨v,hv⟩:∃v,xs[below xs j]? = some v:=by
   have hi:i < xs.size:=by rcases YS i xs.size with z | z;exact z;rw[YH z] at e;cases e
   exact ⟨_,Yj 1e2⟩
  have a:=h2 _ _ (Yi _) hv
  have b:=hr _ _ _ _ q hv e
  lia
 ·exact q
 ·have:=h1 i j q e;lia
theorem ZbT {t:XC}{i j:Nat}(hr:Rising t.place)(e:t.place[i]? = some j):t.slot j=.live i:=by
 unfold U6
 rw[below_at hr e]
 dsimp only
 rw[e]
 simp
theorem live_slot {t:XC}{i j:Nat}(e:t.slot j=.live i):t.place[i]? = some j:=by
 unfold U6 at e
 dsimp only at e
 split at e
 ·rename_i h;cases e;exact eq_of_beq h
 ·split at e<;>cases e
theorem has_none (j:Nat):has #[] j=false:=by unfold has;simp
theorem slot_free {t:XC}{j:Nat}(hd:t.dummies=#[])(hn:∀i:Nat,t.place[i]?≠some j):t.slot j=.empty:=by
 unfold U6
 dsimp only
 rw[if_neg (by simpa using hn _),hd,has_none]
 simp
theorem free_slot {t:XC}{j:Nat}(hr:Rising t.place)(e:t.slot j=.empty):∀i:Nat,t.place[i]?≠some j:=by
 intro i q
 rw[ZbT hr q] at e
 cases e
theorem slot_kind {t:XC}(hd:t.dummies=#[])(j:Nat):t.slot j≠.dummy:=by
 unfold U6
 dsimp only
 rw[hd,has_none]
 split<;>simp
def Sees (t:XC)(hashAt:Nat->Int)(h:Int)(p:Probe)(m:Met):Prop:=
 ∃n,(∀k,k < n->∃i,t.slot (it t.mask k p).j=.live i/\hashAt i≠h)/\
  ((m=.empty (it t.mask n p).j none/\t.slot (it t.mask n p).j=.empty)\/∃i,m=.candidate (it t.mask n p).j i (it t.mask (n + 1) p)/\t.slot (it t.mask n p).j=.live i/\hashAt i=h)
theorem go_sees {t:XC}{hashAt:Nat->Int}{h:Int}(hd:t.dummies=#[]):∀(fuel:Nat) (p:Probe),Wf t.mask p->(∃k,k < fuel/\t.slot (it t.mask k p).j=.empty)->∃m,probe.go t hashAt h fuel p=some m/\Sees t hashAt h p m
 | 0,p,_,hk=>by obtain ⟨k,hk,_⟩:=hk;exact absurd hk (Wd _)
 | fuel + 1,p,w,hk=>by
  unfold probe.go
  cases e:t.slot p.j with
  | empty=>exact ⟨_,rfl,0,fun k hk=>absurd hk (Wd _),.inl ⟨by rw[w.dummy];rfl,e⟩⟩
  | dummy=>exact absurd e (slot_kind hd _)
  | live i=>
   dsimp only
   by_cases q:(hashAt i==h)=true
   ·rw[if_pos q]
    refine ⟨_,rfl,0,fun k hk=>absurd hk (Wd _),.inr ⟨i,?_,e,eq_of_beq q⟩⟩
    rw[adv_eq];rfl
   ·rw[if_neg q,adv_eq]
    obtain ⟨k,hk,ek⟩:=hk
    have k0:k≠0:=by rintro rfl;rw[show (it t.mask 0 p).j=p.j from rfl,e] at ek;cases ek
    obtain ⟨k,rfl⟩:∃k',k=k' + 1:=⟨k - 1,by lia⟩
    obtain ⟨m,em,n,h1,h2⟩:=go_sees hd fuel (adv t.mask p) w.adv ⟨k,by lia,ek⟩
    refine ⟨m,em,n + 1,fun k hk=>?_,h2⟩
    cases k with
    | zero=>exact ⟨i,e,by simpa using q⟩
    | succ k=>exact h1 k 1e2
theorem nd_sub {α:Type} [BEq α] [LawfulBEq α]:∀(l l':List α),l.Nodup->(∀x∈l,x∈l')->l.length<=l'.length
 | [],_,_,_=>Y4 _
 | x::l,l',hn,hs=>by
  obtain ⟨h1,h2⟩:=Xc.mp hn
  have hx:x∈l':=hs x 8e0
  have:=nd_sub l (l'.erase x) h2 fun y hy=>(List.mem_erase_of_ne (by rintro rfl;exact h1 hy)).mpr (hs y (.tail _ hy))
  rw[List.length_erase_of_mem hx] at this
  have:=List.length_pos_of_mem hx
  simp only[YC];lia
def start (mask:Nat)(h:Int):Probe:=inRun mask (bits h % (mask + 1)) 0 (bits h)
structure T0 (t:XC)(es:Array (Int×Value)):Prop where
 mm:Mk t.mask
 dm:t.dummies=#[]
 rs:Rising t.place
 sz:t.place.size=es.size
 lt:∀i j:Nat,t.place[i]? = some j->j < t.mask + 1
 rc:∀(i j:Nat) (e:Int×Value),t.place[i]? = some j->es[i]? = some e->∃n,(it t.mask n (start t.mask e.1)).j=j/\∀m,m < n->∃i':Nat,t.place[i']? = some (it t.mask m (start t.mask e.1)).j
structure TI (t:XC)(es:Array (Int×Value)):Prop extends T0 t es where
 fl:es.size * 5 < t.mask * 3
theorem ZcQ {xs:8e5}(hr:Rising xs){M:Nat}(h:∀j,j < M->∃i:Nat,xs[i]? = some j):∀j,j < M->∃i:Nat,j<=i/\xs[i]? = some j
 | 0,hj=>by obtain ⟨i,e⟩:=h 0 hj;exact ⟨i,Y4 _,e⟩
 | j + 1,hj=>by
  obtain ⟨i,hi,e⟩:=ZcQ hr h j 1e2
  obtain ⟨i',e'⟩:=h (j + 1) hj
  refine ⟨i',?_,e'⟩
  rcases VZ i i' with q | q | q
  ·lia
  ·subst q;rw[e] at e';exact absurd (YI e') 1e2
  ·have:=hr _ _ _ _ q e' e;lia
theorem Mk.pos {mask:Nat}(h:Mk mask):7<=mask/\mask<=127/\mask % 2=1:=by rcases h with rfl | rfl | rfl<;>decide
theorem T0.room {t:XC}{es:4e7}(T:T0 t es)(hs:es.size < t.mask + 1):∃j,j < t.mask + 1/\t.slot j=.empty:=by
 by_cases h:∃j,j < t.mask + 1/\∀i:Nat,t.place[i]?≠some j
 ·obtain ⟨j,hj,hn⟩:=h;exact ⟨j,hj,slot_free T.dm hn⟩
 ·exfalso
  have h':∀j,j < t.mask + 1->∃i:Nat,t.place[i]? = some j:=fun j hj=>by
   apply Classical.byContradiction;intro q
   exact h ⟨j,hj,fun i e=>q ⟨i,e⟩⟩
  obtain ⟨i,hi,e⟩:=ZcQ T.rs h' t.mask 1e2
  have:i < t.place.size:=by
   rcases YS i t.place.size with z | z
   ·exact z
   ·rw[YH z] at e;cases e
  have:=T.sz;lia
theorem TI.few {t:XC}{es:4e7}(T:TI t es):es.size < t.mask:=by have:=T.fl;lia
theorem T0.fits {t:XC}{es:4e7}(T:T0 t es)(h:es.size<=t.mask):t.fits es.size=true:=by
 unfold SetTable.fits SetTable.fill
 rw[T.dm,T.sz]
 simpa using h
theorem ins_get {α:Type}(xs:Array α)(p:Nat)(x:α)(hp:p<=xs.size)(i:Nat):(insertAt xs p x)[i]? = if i < p then xs[i]? else if i=p then some x else xs[i - 1]?:=by
 rw[←Y8,SetTable.toList_insertAt]
 have hl:(xs.toList.take p).length=p:=by simp;lia
 by_cases h:i < p
 ·rw[if_pos h,YE 1e2,Vx h,Y8]
 ·rw[if_neg h,YZ 1e2,hl]
  by_cases e:i=p
  ·subst e;simp
  ·rw[if_neg e]
   obtain ⟨k,hk⟩:∃k,i - p=k + 1:=⟨i - p - 1,by lia⟩
   rw[hk,VH,List.getElem?_drop,Y8]
   congr 1;lia
theorem ins_size {α:Type}(xs:Array α)(p:Nat)(x:α):(insertAt xs p x).size=xs.size + 1:=by
 rw[←YK,SetTable.toList_insertAt]
 simp only[Yu,YC,WP,Vq,YK];lia
theorem T0.put {t:XC}{es:4e7}(T:T0 t es){h:Int}{x:Value}{n:Nat}(hn:(it t.mask n (start t.mask h)).j < t.mask + 1)(hf:t.slot (it t.mask n (start t.mask h)).j=.empty)(hm:∀m,m < n->∃i:Nat,t.place[i]? = some (it t.mask m (start t.mask h)).j):
  ∀t1 p,t.put (it t.mask n (start t.mask h)).j=(t1,p)->p<=es.size/\t1.mask=t.mask/\t1.led=t.led/\T0 t1 (insertAt es p (h,x)):=by
 intro t1 p e
 unfold SetTable.put at e
 dsimp only at e
 rw[T.dm,has_none] at e
 cases e
 have fr:=free_slot T.rs hf
 obtain ⟨b1,b2,b3⟩:=ZcE T.rs (it t.mask n (start t.mask h)).j
 generalize hj:(it t.mask n (start t.mask h)).j=j at *
 generalize hp:below t.place j=p at *
 have hpe:p<=es.size:=by rw[←T.sz];exact b3
 have pg:=ins_get t.place p j b3
 have eg:=ins_get es p (h,x) hpe
 have old:∀i v:Nat,t.place[i]? = some v->(insertAt t.place p j)[if i < p then i else i + 1]? = some v:=fun i v e=>by
  rw[pg]
  by_cases q:i < p
  ·rw[if_pos q,if_pos q];exact e
  ·rw[if_neg q,if_neg 1e2,if_neg 1e2];exact e
 refine ⟨hpe,rfl,rfl,⟨T.mm,rfl,?_,?_,?_,?_⟩⟩
 ·intro a b u v hab hu hv
  have hu:(insertAt t.place p j)[a]? = some u:=hu
  have hv:(insertAt t.place p j)[b]? = some v:=hv
  rw[pg] at hu hv
  split at hu
  ·rename_i ha
   split at hv
   ·exact T.rs _ _ _ _ hab hu hv
   ·split at hv
    ·cases hv;exact b1 _ _ ha hu
    ·have z:=b2 _ _ (show p<=b - 1 by lia) hv
     exact Yo (b1 _ _ ha hu) z
  ·split at hu
   ·cases hu
    rw[if_neg 1e2,if_neg 1e2] at hv
    have z:=b2 _ _ (show p<=b - 1 by lia) hv
    rcases Nat.lt_or_eq_of_le z with q | q
    ·exact q
    ·exact absurd (q ▸ hv) (fr _)
   ·rw[if_neg 1e2,if_neg 1e2] at hv
    exact T.rs _ _ _ _ 1e2 hu hv
 ·show (insertAt t.place p j).size=_
  rw[ins_size,ins_size,T.sz]
 ·intro i v e
  have e:(insertAt t.place p j)[i]? = some v:=e
  rw[pg] at e
  split at e
  ·exact T.lt _ _ e
  ·split at e
   ·cases e;exact hn
   ·exact T.lt _ _ e
 ·intro i v e hv he
  have hv:(insertAt t.place p j)[i]? = some v:=hv
  rw[pg] at hv
  rw[eg] at he
  have keep:(∃n,(it t.mask n (start t.mask e.1)).j=v/\∀m,m < n->∃i':Nat,t.place[i']? = some (it t.mask m (start t.mask e.1)).j)->
    ∃n,(it t.mask n (start t.mask e.1)).j=v/\∀m,m < n->∃i':Nat,(insertAt t.place p j)[i']? = some (it t.mask m (start t.mask e.1)).j:=
   fun ⟨n,h1,h2⟩=>⟨n,h1,fun m hm=>let ⟨i',q⟩:=h2 m hm;⟨_,old _ _ q⟩⟩
  split at hv
  ·rename_i q
   rw[if_pos q] at he
   exact keep (T.rc _ _ _ hv he)
  ·rename_i q
   rw[if_neg q] at he
   split at hv
   ·rename_i q2
    rw[if_pos q2] at he
    cases hv;cases he
    exact ⟨n,hj,fun m hm'=>let ⟨i',q⟩:=hm m hm';⟨_,old _ _ q⟩⟩
   ·rename_i q2
    rw[if_neg q2] at he
    exact keep (T.rc _ _ _ hv he)
theorem cover_lp {mask i pt j:Nat}(h:Mk mask)(hi:i < mask + 1)(hpt:pt < 2 ^ 64)(hj:j < mask + 1):∃k,k < turns mask/\(lp mask k (i,pt)).1=j:=by
 have hz:(lp mask 13 (i,pt)).2=0:=by
  rw[lp_pt];exact Nat.div_eq_of_lt (UJ hpt 1e4)
 have hl:=lp_lt mask 13 i pt hi
 generalize e:lp mask 13 (i,pt)=q at hz hl
 obtain ⟨i2,pt2⟩:=q
 dsimp only at hz hl
 subst hz
 obtain ⟨k,hk,ek⟩:=goes h hl hj
 refine ⟨13 + k,by unfold turns;lia,?_⟩
 rw[lp_add,e,lp_zero];exact ek
def own (owner:Array (Option Nat))(j:Nat):Option Nat:=owner.getD j (some 0)
theorem free_ok {mask:Nat}{owner:Array (Option Nat)}:∀(fuel i pt:Nat),(∃k,k < fuel/\own owner (lp mask k (i,pt)).1=none)->
  ∃j n,layClean.free mask owner fuel i pt=some j/\(it mask n (inRun mask i 0 pt)).j=j/\own owner j=none/\∀m,m < n->own owner (it mask m (inRun mask i 0 pt)).j≠none
 | 0,i,pt,h=>by obtain ⟨k,hk,_⟩:=h;exact absurd hk (Wd _)
 | fuel + 1,i,pt,h=>by
  unfold layClean.free
  have hle:i<=runEnd mask i:=by unfold runEnd;split<;>lia
  cases e:(YW (runEnd mask i + 1 - i)).find? (fun k=>(owner.getD (i + k) (some 0)).isNone) with
  | some k=>
   obtain ⟨h1,h2,h3⟩:=List.find?_range_eq_some.mp e
   have hk:=Xq.mp h2
   have hi:=it_in (mask:=mask) (i:=i) (pt:=pt) k 0 (by unfold len;lia)
   refine ⟨i + k,k,rfl,?_,?_,fun m hm q=>?_⟩
   ·rw[hi,XO];rfl
   ·exact Option.isNone_iff_eq_none.mp h1
   ·have:=h3 m hm
    rw[it_in m 0 (by unfold len;lia),XO] at q
    have q:owner.getD (i + m) (some 0)=none:=q
    rw[q] at this
    simp at this
  | none=>
   have hn:=List.find?_range_eq_none.mp e
   obtain ⟨k,hk,ek⟩:=h
   have k0:k≠0:=by
    rintro rfl
    have ek:owner.getD i (some 0)=none:=ek
    have:=hn 0 1e2
    rw[Nat.add_zero,ek] at this
    simp at this
   obtain ⟨k,rfl⟩:∃k',k=k' + 1:=⟨k - 1,by lia⟩
   obtain ⟨j,n,h1,h2,h3,h4⟩:=free_ok fuel (leap mask i pt).1 (leap mask i pt).2 ⟨k,by lia,ek⟩
   refine ⟨j,(len mask i - 0 + 1) + n,h1,?_,h3,fun m hm=>?_⟩
   ·rw[Zcq,it_next (Y4 _)];exact h2
   ·by_cases q:m<=len mask i
    ·rw[it_in m 0 1e2,XO]
     have:=hn m (by unfold len at q;lia)
     intro z
     have z:owner.getD (i + m) (some 0)=none:=z
     rw[z] at this
     simp at this
    ·obtain ⟨m',rfl⟩:∃m',m=(len mask i - 0 + 1) + m':=⟨m - (len mask i + 1),by lia⟩
     rw[Zcq,it_next (Y4 _)]
     exact h4 m' 1e2
structure OI (mask:Nat)(hs:List Int)(owner:Array (Option Nat)):Prop where
 sz:owner.size=mask + 1
 lt:∀j i:Nat,owner[j]? = some (some i)->i < hs.length
 on:∀i,i < hs.length->∃j:Nat,owner[j]? = some (some i)
 inj:∀j j' i:Nat,owner[j]? = some (some i)->owner[j']? = some (some i)->j=j'
 rc:∀(j i:Nat) (h:Int),owner[j]? = some (some i)->hs[i]? = some h->∃n,(it mask n (start mask h)).j=j/\∀m,m < n->∃i':Nat,owner[(it mask m (start mask h)).j]? = some (some i')
theorem own_some {owner:Array (Option Nat)}{j:Nat}(hj:j < owner.size)(h:own owner j≠none):∃i:Nat,owner[j]? = some (some i):=by
 unfold own at h
 rw[YM,Yj hj] at h
 rw[Yj hj]
 cases e:owner[j] with
 | none=>rw[e] at h;exact absurd rfl h
 | some i=>exact ⟨i,rfl⟩
theorem own_none {owner:Array (Option Nat)}{j:Nat}(h:own owner j=none):j < owner.size/\owner[j]? = some none:=by
 unfold own at h
 rw[YM] at h
 rcases YS j owner.size with q | q
 ·rw[Yj q] at h
  have h:owner[j]=none:=h
  exact ⟨q,by rw[Yj q,h]⟩
 ·rw[YH q] at h;cases h
theorem OI.room {mask:Nat}{hs:List Int}{owner:Array (Option Nat)}(O:OI mask hs owner)(h:hs.length < mask + 1):∃j,j < mask + 1/\own owner j=none:=by
 apply Classical.byContradiction
 intro q
 have al:∀j,j < mask + 1->∃i:Nat,owner[j]? = some (some i):=fun j hj=>own_some (by rw[O.sz];exact hj) fun z=>q ⟨j,hj,z⟩
 have g:∀j,j < mask + 1->owner[j]? = some (some ((owner.getD j none).getD 0)):=fun j hj=>by
  obtain ⟨i,e⟩:=al j hj
  rw[YM,e];rfl
 have:=nd_sub ((YW (mask + 1)).map fun j=>(owner.getD j none).getD 0) (YW hs.length) ?_ ?_
 ·simp at this;lia
 ·refine Xy.mpr (VA (fun {a b} ha hb hab e=>?_) Ue)
  have h1:=g a (Xq.mp ha)
  have h2:=g b (Xq.mp hb)
  rw[e] at h1
  exact hab (O.inj _ _ _ h1 h2)
 ·intro x hx
  obtain ⟨j,hj,rfl⟩:=Yw.mp hx
  exact Xq.mpr (O.lt _ _ (g j (Xq.mp hj)))
theorem it_lt {mask:Nat}{h:Int}(hM:Mk mask)(n:Nat):(it mask n (start mask h)).j < mask + 1:=by
 have key:∀n,∃i d pt,it mask n (start mask h)=inRun mask i d pt/\d<=len mask i/\i < mask + 1:=by
  intro n
  induction n with
  | zero=>exact ⟨_,0,_,rfl,Y4 _,Up _ (UK _)⟩
  | succ n ih=>
   obtain ⟨i,d,pt,e,hd,hi⟩:=ih
   rw[it_succ,e]
   by_cases q:d=len mask i
   ·rw[adv_out q];exact ⟨_,0,_,rfl,Y4 _,Up _ (UK _)⟩
   ·rw[adv_in 1e2];exact ⟨i,d + 1,pt,rfl,by lia,hi⟩
 obtain ⟨i,d,pt,e,hd,hi⟩:=key n
 rw[e]
 show i + d < mask + 1
 unfold len runEnd at hd
 split at hd<;>lia
theorem OI.step {mask:Nat}{hs:List Int}{owner:Array (Option Nat)}(O:OI mask hs owner)(hM:Mk mask)(h:hs.length < mask + 1)(hh:Int):
  ∃j,layClean.free mask owner (turns mask) (bits hh % (mask + 1)) (bits hh)=some j/\OI mask (hs++[hh]) (owner.setIfInBounds j (some hs.length)):=by
 obtain ⟨j0,hj0,e0⟩:=O.room h
 obtain ⟨k,hk,ek⟩:=cover_lp hM (Up (bits hh) (UK mask)) (bits_lt hh) hj0
 obtain ⟨j,n,h1,h2,h3,h4⟩:=free_ok (mask:=mask) (owner:=owner) (turns mask) (bits hh % (mask + 1)) (bits hh) ⟨k,hk,by rw[ek];exact e0⟩
 have h2:(it mask n (start mask hh)).j=j:=h2
 obtain ⟨hj,hjn⟩:=own_none h3
 have gs:∀a:Nat,(owner.setIfInBounds j (some hs.length))[a]? = if j=a then some (some hs.length) else owner[a]?:=fun a=>by
  rw[Array.getElem?_setIfInBounds]
  by_cases q:j=a
  ·rw[if_pos q,if_pos q,if_pos hj]
  ·rw[if_neg q,if_neg q]
 have old:∀a i:Nat,owner[a]? = some (some i)->(owner.setIfInBounds j (some hs.length))[a]? = some (some i):=fun a i e=>by
  rw[gs,if_neg];exact e
  rintro rfl;rw[hjn] at e;cases e
 refine ⟨j,h1,⟨by simpa using O.sz,fun a i e=>?_,fun i hi=>?_,fun a b i ea eb=>?_,fun a i x ea ex=>?_⟩⟩
 ·rw[gs] at e
  split at e
  ·cases e;simp
  ·have:=O.lt _ _ e;simp;lia
 ·by_cases q:i < hs.length
  ·obtain ⟨a,e⟩:=O.on i q;exact ⟨a,old _ _ e⟩
  ·have:i=hs.length:=by simp at hi;lia
   subst this
   exact ⟨j,by rw[gs,if_pos rfl]⟩
 ·rw[gs] at ea eb
  split at ea
  ·rename_i qa
   cases ea
   split at eb
   ·rename_i qb;lia
   ·have:=O.lt _ _ eb;lia
  ·split at eb
   ·cases eb;have:=O.lt _ _ ea;lia
   ·exact O.inj _ _ _ ea eb
 ·rw[gs] at ea
  split at ea
  ·rename_i qa
   subst qa
   cases ea
   have:x=hh:=by simpa using ex.symm
   subst this
   refine ⟨n,h2,fun m hm=>?_⟩
   obtain ⟨i',e'⟩:=own_some (by rw[O.sz];exact it_lt hM m) (h4 m hm)
   exact ⟨i',old _ _ e'⟩
  ·have hl:=O.lt _ _ ea
   rw[YE hl] at ex
   obtain ⟨n',q1,q2⟩:=O.rc _ _ _ ea ex
   exact ⟨n',q1,fun m hm=>let ⟨i',e'⟩:=q2 m hm;⟨i',old _ _ e'⟩⟩
def stepO (mask:Nat)(acc:Option (Array (Option Nat)×Nat))(h:Int):Option (Array (Option Nat)×Nat):=do
 let (owner,k) ←acc
 let j ←layClean.free mask owner (turns mask) (bits h % (mask + 1)) (bits h)
 pure (owner.setIfInBounds j (some k),k + 1)
theorem layClean_ok {mask:Nat}(hM:Mk mask)(hashes:Array Int)(h:hashes.size < mask + 1):∃owner,layClean mask hashes=some owner/\OI mask hashes.toList owner:=by
 have key:∀(rest pre:List Int) (owner:Array (Option Nat)),OI mask pre owner->pre.length + rest.length < mask + 1->∃o',rest.foldl (stepO mask) (some (owner,pre.length))=some (o',pre.length + rest.length)/\OI mask (pre++rest) o':=by
  intro rest
  induction rest with
  | nil=>intro pre owner O _;exact ⟨owner,rfl,by rw[YL];exact O⟩
  | cons x rest ih=>
   intro pre owner O hl
   simp only[YC] at hl
   obtain ⟨j,e,O'⟩:=O.step hM 1e2 x
   obtain ⟨o',e',O2⟩:=ih (pre++[x]) _ O' (by simp;lia)
   refine ⟨o',?_,by rw[List.append_cons];exact O2⟩
   rw[VI]
   have:stepO mask (some (owner,pre.length)) x=some (owner.setIfInBounds j (some pre.length),(pre++[x]).length):=by
    unfold stepO
    show (layClean.free mask owner (turns mask) (bits x % (mask + 1)) (bits x)).bind _=_
    rw[e];simp
   rw[this,e']
   congr 2
   simp;lia
 have O0:OI mask [] (Yai (mask + 1) none):=by
  have z:∀j i:Nat,(Yai (mask + 1) (none:Option Nat))[j]?≠some (some i):=fun j i e=>by
   rw[Array.getElem?_replicate] at e
   split at e<;>cases e
  exact ⟨by simp,fun j i e=>absurd e (z _ _),fun i hi=>absurd hi (Wd _),fun j j' i e=>absurd e (z _ _),fun j i x e=>absurd e (z _ _)⟩
 obtain ⟨o',e',O'⟩:=key hashes.toList [] _ O0 7e3
 refine ⟨o',?_,by simpa using O'⟩
 unfold layClean
 rw[←Array.foldl_toList]
 show (hashes.toList.foldl (stepO mask) (some (Yai (mask + 1) none,0))).map (·.1)=_
 have:([]:List Int).length=0:=rfl
 rw[this] at e'
 rw[e'];rfl
theorem nd_perm:∀(l l':6e3),l.Nodup->l'.Nodup->(∀x,x∈l↔x∈l')->l.Perm l'
 | [],l',_,_,h=>by
  cases l' with
  | nil=>exact .nil
  | cons y r=>exact absurd ((h y).mpr 8e0) Xp
 | x::l,l',hn,hn',h=>by
  obtain ⟨h1,h2⟩:=Xc.mp hn
  have hx:x∈l':=(h x).mp 8e0
  refine (List.Perm.cons x (nd_perm l (l'.erase x) h2 (hn'.erase x) fun y=>?_)).trans (List.perm_cons_erase hx).symm
  rw[hn'.mem_erase_iff]
  constructor
  ·intro hy;exact ⟨by rintro rfl;exact h1 hy,(h y).mp (.tail _ hy)⟩
  ·rintro ⟨q,hy⟩
   exact (Yl.mp ((h y).mpr hy)).resolve_left q
theorem fmap_get {α β:Type}(g:α->Option β):∀(l:List α),(∀x∈l,∃y,g x=some y)->∀i:Nat,(l.filterMap g)[i]? = (l[i]?).bind g
 | [],_,i=>by simp
 | x::l,h,i=>by
  obtain ⟨y,e⟩:=h x 8e0
  rw[List.filterMap_cons_some e]
  cases i with
  | zero=>simp[e]
  | succ i=>simpa using fmap_get g l (fun z hz=>h z (.tail _ hz)) i
def live (mask:Nat)(owner:Array (Option Nat)):List (Nat×Nat):=(YW (mask + 1)).filterMap fun j=>(owner.getD j none).map (j,·)
theorem live_mem {mask:Nat}{owner:Array (Option Nat)}(hs:owner.size=mask + 1){j i:Nat}:(j,i)∈live mask owner↔owner[j]? = some (some i):=by
 unfold live
 rw[UG]
 constructor
 ·rintro ⟨a,ha,e⟩
  obtain ⟨b,e1,e2⟩:=Xh.mp e
  cases e2
  rw[YM] at e1
  cases q:owner[j]? with
  | none=>rw[q] at e1;cases e1
  | some v=>rw[q] at e1;have e1:v=some i:=e1;rw[e1]
 ·intro e
  have hj:j < mask + 1:=by
   rw[←hs]
   rcases YS j owner.size with z | z
   ·exact z
   ·rw[YH z] at e;cases e
  exact ⟨j,Xq.mpr hj,by rw[YM,e];rfl⟩
theorem live_rise (mask:Nat)(owner:Array (Option Nat)):(live mask owner).Pairwise fun a b=>a.1 < b.1:=by
 unfold live
 refine List.Pairwise.filterMap _ (fun a a' h b hb b' hb'=>?_) List.pairwise_lt_range
 obtain ⟨_,_,rfl⟩:=Xh.mp hb
 obtain ⟨_,_,rfl⟩:=Xh.mp hb'
 exact h
theorem pw_get {α:Type}{R:α->α->Prop}{l:List α}(h:l.Pairwise R){a b:Nat}{x y:α}(hab:a < b)(hx:l[a]? = some x)(hy:l[b]? = some y):R x y:=by
 obtain ⟨ha,rfl⟩:=Y2.mp hx
 obtain ⟨hb,rfl⟩:=Y2.mp hy
 exact List.pairwise_iff_getElem.mp h a b ha hb hab
theorem laid_ok {mask finger moves:Nat}{led plain:Bool}(hM:Mk mask)(es:4e7)(hs:es.size * 5 < mask * 3):
  ∃t' order,laid mask finger moves led plain (es.map (·.1))=some (t',order)/\(order.filterMap (es[·]?)).size=es.size/\(order.filterMap (es[·]?)).toList.Perm es.toList/\TI t' (order.filterMap (es[·]?))/\t'.mask=mask/\t'.led=led:=by
 obtain ⟨owner,e,O⟩:=layClean_ok hM (es.map (·.1)) (by simp;lia)
 have hlen:(es.map (·.1)).toList.length=es.size:=by simp
 have lm:=@live_mem mask owner O.sz
 have lr:=live_rise mask owner
 generalize hL:live mask owner=L at lm lr
 refine ⟨_,_,by unfold laid;rw[e];rfl,?_⟩
 show (((live mask owner).map (·.2)).toArray.filterMap (es[·]?)).size=es.size/\_
 have hpl:(((YW (mask + 1)).filterMap fun j=>(owner.getD j none).map (j,·)).map (·.1))=L.map (·.1):=by rw[←hL];rfl
 have hor:(((YW (mask + 1)).filterMap fun j=>(owner.getD j none).map (j,·)).map (·.2))=L.map (·.2):=by rw[←hL];rfl
 rw[hpl,hor,hL]
 have ordPerm:(L.map (·.2)).Perm (YW es.size):=by
  refine nd_perm _ _ ?_ Ue fun x=>?_
  ·refine Xy.mpr (VA (fun {a b} ha hb hab q=>?_) lr)
   obtain ⟨a1,a2⟩:=a
   obtain ⟨b1,b2⟩:=b
   have q:a2=b2:=q
   subst q
   have:=O.inj _ _ _ (lm.mp ha) (lm.mp hb)
   have hab:a1 < b1:=hab
   lia
  ·rw[Yw,Xq]
   constructor
   ·rintro ⟨⟨a,b⟩,h1,rfl⟩
    have:=O.lt _ _ (lm.mp h1)
    rw[hlen] at this;exact this
   ·intro hx
    obtain ⟨j,q⟩:=O.on x (by rw[hlen];exact hx)
    exact ⟨(j,x),lm.mpr q,rfl⟩
 have hperm:((L.map (·.2)).toArray.filterMap (es[·]?)).toList.Perm es.toList:=by
  rw[Array.toList_filterMap]
  exact (ordPerm.filterMap _).trans (by rw[filterMap_getElem?_range])
 have hsz:((L.map (·.2)).toArray.filterMap (es[·]?)).size=es.size:=by rw[←YK,hperm.length_eq,YK]
 have hll:L.length=es.size:=by have:=ordPerm.length_eq;simpa using this
 have eg:∀i:Nat,((L.map (·.2)).toArray.filterMap (es[·]?))[i]? = (L[i]?).bind fun p=>es[p.2]?:=fun i=>by
  rw[←Y8,Array.toList_filterMap]
  show ((L.map (·.2)).filterMap (es[·]?))[i]? = _
  rw[fmap_get]
  ·rw[Yx];cases L[i]?<;>rfl
  ·intro x hx
   have hx:=Xq.mp (ordPerm.mem_iff.mp hx)
   exact ⟨_,Yj hx⟩
 have pg:∀i j:Nat,(L.map (·.1)).toArray[i]? = some j->∃k,L[i]? = some (j,k):=fun i j q=>by
  rw[Wo,Yx] at q
  obtain ⟨⟨a,k⟩,h1,h2⟩:=Xh.mp q
  exact ⟨k,by rw[h1];exact congrArg (fun z=>some (z,k)) h2⟩
 refine ⟨hsz,hperm,⟨⟨hM,rfl,?_,?_,?_,?_⟩,?_⟩,rfl,rfl⟩
 ·intro a b x y hab hx hy
  obtain ⟨k1,q1⟩:=pg _ _ hx
  obtain ⟨k2,q2⟩:=pg _ _ hy
  exact pw_get lr hab q1 q2
 ·show (L.map (·.1)).toArray.size=_
  rw[hsz];simpa using hll
 ·intro i j q
  obtain ⟨k,q⟩:=pg _ _ q
  have:=lm.mp (YB q)
  show j < mask + 1
  rw[←O.sz]
  rcases YS j owner.size with z | z
  ·exact z
  ·rw[YH z] at this;cases this
 ·intro i j x q qx
  obtain ⟨k,q⟩:=pg _ _ q
  rw[eg,q] at qx
  have qx:es[k]? = some x:=qx
  have ho:=lm.mp (YB q)
  obtain ⟨n,h1,h2⟩:=O.rc j k x.1 ho (by rw[Y8,Array.getElem?_map,qx];rfl)
  refine ⟨n,h1,fun m hm=>?_⟩
  obtain ⟨i',q'⟩:=h2 m hm
  obtain ⟨a,ha,hb⟩:=WL (lm.mpr q')
  refine ⟨a,?_⟩
  show (L.map (·.1)).toArray[a]? = _
  rw[Wo,Yx,Yd ha,hb];rfl
 ·show _ * 5 < mask * 3
  rw[hsz];exact hs
theorem grown_ok {mask n:Nat}(h:Mk mask)(h1:n * 5 < mask * 3)(h2:¬(n + 1) * 5 < mask * 3)(h3:n + 1 < 77):Mk (sizeAbove (grown (n + 1)) - 1)/\(n + 1) * 5 < (sizeAbove (grown (n + 1)) - 1) * 3:=by
 rcases h with rfl | rfl | rfl
 ·have:n=4:=by lia
  subst this;exact ⟨.inr (.inl 1e4),by decide⟩
 ·have:n=18:=by lia
  subst this;exact ⟨.inr (.inr 1e4),by decide⟩
 ·lia
section
variable {prog:Yy}{w:World}{K:Type} [DecidableEq K]{knd:KeyKind prog w K}{A:Around}{E:1e1}{s:Shared}
theorem oacs_scalar {v:Value}(n:Nat)(h:V4 v=true):UX n v=pure false:=by
 cases v<;>first | (cases n<;>rfl) | (exfalso;revert h;simp[V4])
theorem loop_calm {M:Model}{β:Type}{J:β->Prop}{ok:Value->Prop}{f:Value->β->Sem (ForInStep β)}
  (step:∀v b (Q:ForInStep β->Shared->Prop),ok v->J b->(∀b',J b'->Q (.yield b') s)->(∀b',J b'->Q (.done b') s)->wpAny M A (f v b) Q E s):
  ∀(xs:2e5) (b:β) (Q:β->Shared->Prop),(∀v∈xs,ok v)->J b->(∀b',J b'->Q b' s)->wpAny M A (forIn xs b f) Q E s
 | [],b,Q,_,j,q=>by rw[List.forIn_nil];exact Yc (q b j)
 | v::xs,b,Q,hx,j,q=>by
  rw[Yah]
  exact Ya (step v b _ (hx v 8e0) j (fun b' j'=>loop_calm step xs b' Q (fun u z=>hx u (.tail _ z)) j' q) fun b' j'=>Yc (q b' j'))
theorem hbv_scalar {v:Value}(n:Nat)(h:V4 v=true):∃b,hashByValue n v=pure b:=by
 cases v<;>cases n<;>first | exact 7e1 | (exfalso;revert h;simp[V4])
end
section
variable {prog:Yy}{w:World}{K:Type} [DecidableEq K]{knd:KeyKind prog w K}{A:Around}{E:1e1}{s:Shared}
def Els (knd:KeyKind prog w K)(h:Heap)(es:4e7):Prop:=∀(i:Nat) (e:Int×Value),es[i]? = some e->∃k b,e=(tupleKeyHash knd k,YG b)/\IsTupleKey knd h k b
def Unmet (knd:KeyKind prog w K)(h:Heap)(es:4e7)(t:XC)(k:List K)(n:Nat):Prop:=∀m,m < n->∃i,t.slot (it t.mask m (start t.mask (tupleKeyHash knd k))).j=.live i/\∀(u:Int) (b:Addr),es[i]? = some (u,.ref b)->¬IsTupleKey knd h k b
end
section
variable {prog:Yy}{w:World}{K:Type} [DecidableEq K]{knd:KeyKind prog w K}{A:Around}{E:1e1}{s:Shared}
theorem T0.plainOff {t:XC}{es:4e7}(T:T0 t es)(b:Bool):T0 (if b then t else { t with plain:=false }) es:=by
 cases b
 ·exact ⟨T.mm,T.dm,T.rs,T.sz,T.lt,T.rc⟩
 ·exact T
theorem get_store {h:Heap}{a:Addr}{o:Obj}{es:4e7}{ep:Nat}{t:XC}(ho:h.get? a=some o)(hd:o.data=.set es ep t)(es':4e7)(t':XC):
  (h.update a (Obj.putSet es' t')).get? a=some { o with data:=.set es' (ep + 1) t' }:=by
 have q:=Xn (Obj.putSet es' t') ho (by rw[putSet_of es' t' hd];rfl)
 rw[putSet_of es' t' hd] at q;exact q
theorem perm_ins {α:Type}(xs:Array α)(p:Nat)(x:α):(insertAt xs p x).toList.Perm (xs.toList++[x]):=by
 have q:=SetTable.insertAt_perm xs p x
 rwa[V0] at q
theorem mask_off (t:XC)(b:Bool):(if b then t else { t with plain:=false }).mask=t.mask/\(if b then t else { t with plain:=false }).place=t.place/\(if b then t else { t with plain:=false }).dummies=t.dummies:=by
 cases b<;>exact ⟨rfl,rfl,rfl⟩
end
end Se
namespace Se
open PySem PySem.Spec
section
variable {prog:Yy}{w:World}{A:Around}{R:9e2}{I S:Addr}{fp wr:2e2}{G:Array GenState->Array GenState->Prop}{n:Nat}{P:Nat->Value->Prop}{Z:Nat->Shared->Prop}{J:Nat->Heap->Prop}
theorem loop_ (W:WalksS prog w A.in1 I fp wr G n P Z)(out:S∉fp)
  (add:∀(i:Nat) (v:Value) (s:Shared) (Q:4e4) (E:1e1),i < n->P i v->J i s.heap->(∀b h' tk,Xw S s.heap h'->J (i + 1) h'->s.toks<=tk->Q b { s with heap:=h',toks:=tk })->wpAny (model prog w) A.in1 (setAdd S v) Q E s)
  (keep:∀(i:Nat) (h h':Heap),J i h->(∀b o,b∉wr->h.get? b=some o->h'.get? b=some o)->J i h'):
  ∀(m i:Nat) (s:Shared),i + m=n->Z i s->J i s.heap->(∀s',Moved (S::wr) G s s'->J n s'.heap->R (.ok (.ret .none)) s')->
   XT 1e9 A (.builtin "set.update.loop" ⟨[.ref S,.ref I],[]⟩) R s:=by
 have up:∀b∈wr,b∈S::wr:=fun b m=>.tail _ m
 intro m
 induction m with
 | zero=>
  rintro i s rfl z j r
  refine XJ Vl ?_;rw[Wt X9 _]
  show wpAny 1e9 A.in1 (pyNext (.ref I) >>= _) _ _ s
  refine Ya (W.done s _ _ z fun s' mv=>?_);show wpAny 1e9 A.in1 (ret Xu) _ _ s'
  exact Yc (r s' (mv.mono up) (keep _ _ _ j mv.heap))
 | succ m ih=>
  intro i s e z j r
  refine XJ Vl ?_;rw[Wt X9 _]
  show wpAny 1e9 A.in1 (pyNext (.ref I) >>= _) _ _ s
  refine Ya (W.item i s _ _ 1e2 z fun v s' p z' mv=>?_)
  show wpAny 1e9 A.in1 (U2 [v] (setAdd S v) >>= _) _ _ s'
  refine Ya (Xa (add i v s' _ _ 1e2 p (keep _ _ _ j mv.heap) fun b h' tk sb j' tl=>?_))
  refine Yc ⟨plainId_quiet X9 _,ih (i + 1) _ 1e2 (W.frame _ s' _ _ z' tl fun c hc o g=>?_) j' fun s'' mv2 j2=>?_⟩
  ·rw[sb.2 c (by rintro rfl;exact out hc)];exact g
  ·refine r s'' (Moved.trans W.gtrans ((mv.mono up).then_heap tl fun c o hc g=>?_) mv2) j2
   rw[sb.2 c (by rintro rfl;exact hc 8e0)];exact g
end
theorem sub_ts:UY (.type "tuple") (.type "set")=pure false:=by rw[V5];kernel_rfl
theorem sub_tf:UY (.type "tuple") (.type "frozenset")=pure false:=by rw[V5];kernel_rfl
abbrev newSetObj (led:Bool):Obj:={ cls:=.type "set",dict:=none,data:=.set #[] 0 (.fresh 0 0 led) }
section
variable {prog:Yy}{w:World}{A:Around}{E:1e1}{s:Shared}
theorem init_ {l D:Addr}{items:Array Value}{J:Nat->Heap->Prop}{led:Bool}{g0:Heap}{P:PySem.Fin->Shared->Prop}(hh:7e8)(src:g0.IsList l items\/g0.IsTuple l items)(hD:D=g0.objs.size)
  (j0:∀h',(∀b o,b < D->g0.get? b=some o->h'.get? b=some o)->h'.get? D=some (newSetObj led)->J 0 h')
  (add:∀(A':Around) (i:Nat) (v:Value) (s:Shared) (Q:4e4) (E:1e1),A'.units<=A.units + 4->i < items.size->items[i]? = some v->J i s.heap->(∀b h' tk,Xw D s.heap h'->J (i + 1) h'->s.toks<=tk->Q b { s with heap:=h',toks:=tk })->wpAny (model prog w) A' (setAdd D v) Q E s)
  (keep:∀(i:Nat) (h h':Heap),J i h->(∀b o,b≠D + 1->h.get? b=some o->h'.get? b=some o)->J i h')
  (hs:s.heap=g0.push (newSetObj led))
  (h:∀h' tk,J items.size h'->(∀b o,b < D->g0.get? b=some o->h'.get? b=some o)->P (.done (.ret .none)) { s with heap:=h',toks:=tk }):
  wpAny 1e9 A (Wj.«set.__init__» ⟨[.ref D,.ref l],[]⟩) P E s:=by
 have hgS:s.heap.get? D=some (newSetObj led):=by rw[hs,hD];exact Ye _ rfl
 have hne:(X5 "list"==X5 "dict")=false:=by decide
 have hne2:(X5 "tuple"==X5 "dict")=false:=by decide
 have a1:=PySem.F.sub_list_set
 have a2:=PySem.F.sub_list_frozenset
 have a3:=sub_ts
 have a4:=sub_tf
 have hl:l < g0.objs.size:=by rcases src with ⟨o,g,_⟩ | ⟨o,g,_⟩<;>exact Yq g
 have hz:s.heap.objs.size=D + 1:=by rw[hs,Vk,hD]
 have hlD:l < D:=by rw[hD];exact hl
 have n1:l≠s.heap.objs.size:=by rw[hz];exact Yt (WB hlD)
 have n2:D∉[s.heap.objs.size,l]:=by
  rw[hz];intro m
  rcases Yl.mp m with q | m
  ·exact absurd q (Yt (WQ D))
  ·exact absurd (Yk.mp m) (X1 hlD)
 have n3:∀b:Addr,b < D->b∉[D,s.heap.objs.size]:=fun b hb m=>by
  rw[hz] at m
  rcases Yl.mp m with q | m
  ·exact absurd q (Yt hb)
  ·exact absurd (Yk.mp m) (Yt (WB hb))
 have n4:∀b:Addr,b∉[s.heap.objs.size]->b≠D + 1:=fun b m q=>m (by rw[hz,q];exact .head _)
 have n5:∀b:Addr,b≠D + 1->b∉[s.heap.objs.size]:=fun b q m=>q (by rw[hz] at m;exact Yk.mp m)
 have old:∀b o,b < D->g0.get? b=some o->s.heap.get? b=some o:=fun b o hb e=>by rw[hs];exact Yb _ e
 rcases src with ⟨ol,gl,hc,nl,hd⟩ | ⟨ol,gl,hc,nl,hd⟩
 ·obtain ⟨ocls,odict,odata,oslots⟩:=ol
  simp only at hc hd;subst hc hd
  have gl':s.heap.get? l=some ⟨.type "list",odict,.seq items nl,oslots⟩:=by rw[hs];exact Yb _ gl
  have il:s.heap.IsList l items:=⟨_,gl',rfl,nl,rfl⟩
  unfold Wj.«set.__init__» noKeywords Ui;generalize hPI:pyIter=PI
  wp_walk
  subst hPI
  refine UZ il ?_;refine Ya (V6 ?_)
  refine loop_ (J:=J) ((Walks.list (by simp[hh]) _ l n1 items).toS) (S:=D) n2 (fun i v s Q E hi hv j k=>add _ i v s Q E (by simp[Around.in1]) hi hv j k) (fun i h h' j k=>keep i h h' j fun b o nb e=>k b o (n5 b nb) e) items.size 0 _ (XO _) ⟨8e8,il.push _⟩ (j0 _ (fun b o hb e=>Yb _ (old b o hb e)) (Yb _ hgS)) fun s' mv j=>?_
  obtain ⟨h',g',d',tk',os'⟩:=s'
  cases (show g'=s.gens from mv.gens);cases (show d'=s.drawn from mv.drawn);cases (show os'=s.os from mv.os)
  show wpAny _ _ _ _ _ _
  refine Yc ?_;show wpAny 1e9 _ (ret Xu) _ _ _
  exact Yc (h h' tk' j fun b o hb e=>mv.heap b o (n3 b hb) (Yb _ (old b o hb e)))
 ·obtain ⟨ocls,odict,odata,oslots⟩:=ol
  simp only at hc hd;subst hc hd
  have gl':s.heap.get? l=some ⟨.type "tuple",odict,.seq items nl,oslots⟩:=by rw[hs];exact Yb _ gl
  have il:s.heap.IsTuple l items:=⟨_,gl',rfl,nl,rfl⟩
  unfold Wj.«set.__init__» noKeywords Ui;generalize hPI:pyIter=PI
  wp_walk
  subst hPI
  refine wpAny_pyIter_tuple il ?_;refine Ya (V6 ?_)
  refine loop_ (J:=J) ((Walks.tuple (by simp[hh]) _ l n1 items).toS) (S:=D) n2 (fun i v s Q E hi hv j k=>add _ i v s Q E (by simp[Around.in1]) hi hv j k) (fun i h h' j k=>keep i h h' j fun b o nb e=>k b o (n5 b nb) e) items.size 0 _ (XO _) ⟨8e8,il.push _⟩ (j0 _ (fun b o hb e=>Yb _ (old b o hb e)) (Yb _ hgS)) fun s' mv j=>?_
  obtain ⟨h',g',d',tk',os'⟩:=s'
  cases (show g'=s.gens from mv.gens);cases (show d'=s.drawn from mv.drawn);cases (show os'=s.os from mv.os)
  show wpAny _ _ _ _ _ _
  refine Yc ?_;show wpAny 1e9 _ (ret Xu) _ _ _
  exact Yc (h h' tk' j fun b o hb e=>mv.heap b o (n3 b hb) (Yb _ (old b o hb e)))
end
end Se
namespace Pu
open PySem PySem.Spec PyProof.Rows L2
inductive PV where
 | non | bl (b:Bool) | int (i:Int) | str (x:Str) | tup (xs:List PV) | lst (xs:List PV) | dct (ks vs:List PV) | dtt (ks:List (List Key)) (vs:List PV) | fn (a:Addr) | ty (n:String)
def kP:Key->PV
 | .inl i=>.int i
 | .inr x=>.str x
def LsR (K:W.Frag)(ι:2e2)(H:Hp)(a:Addr)(vs:List V):Prop:=
 (a∉ι/\Rd H a (.lst vs))\/
  ∃(o:Obj) (its:Array Value) (n:Nat),K.lookup a=some o/\o.cls=.type "list"/\o.dict=none/\o.data=.seq its n/\its.size<=Yr/\Vals vs its.toList
theorem LsR.sq {K:W.Frag}{ι:2e2}{H:Hp}{a:Addr}{vs:List V}(h:LsR K ι H a vs):SqL K H a vs:=by
 rcases h with ⟨_,h⟩ | h
 ·exact .inl h
 ·exact .inr h
def TpR (H:Hp)(a:Addr)(vs:List V):Prop:=H a=some (.tup vs)
theorem TpR.sq {K:W.Frag}{H:Hp}{a:Addr}{vs:List V}(h:TpR H a vs):SqT K H a vs:=.inl (.inl h)
mutual
def Rep (K:W.Frag)(ι:2e2)(H:Hp):PV->V->Prop
 | .non,v=>v=.non
 | .bl b,v=>v=.bl b
 | .int i,v=>v=.int i
 | .str x,v=>v=.str x/\x.length<=Yr
 | .tup ps,v=>∃a vs,v=.ref a/\TpR H a vs/\Reps K ι H ps vs
 | .lst ps,v=>∃a vs,v=.ref a/\LsR K ι H a vs/\Reps K ι H ps vs
 | .dct ks ps,v=>∃(a:Addr) (qs:5e6) (vs:List V),v=.ref a/\a∉ι/\H a=some (.dK (qs.zip vs))/\qs.length=vs.length/\ks=qs.map kP/\Reps K ι H ps vs
 | .dtt ks ps,v=>∃(a:Addr) (vs:List V),v=.ref a/\a∉ι/\Rd H a (.dT (ks.zip vs))/\ks.length=vs.length/\Reps K ι H ps vs
 | .fn a,v=>v=.ref a
 | .ty n,v=>v=.ty n
def Reps (K:W.Frag)(ι:2e2)(H:Hp):List PV->List V->Prop
 | [],vs=>vs=[]
 | p::ps,vs=>∃v r,vs=v::r/\Rep K ι H p v/\Reps K ι H ps r
end
inductive SV where
 | v (p:PV) | c (k:Nat)
abbrev Cs:=List PV
def RepS (K:W.Frag)(ι:2e2)(H:Hp):SV->V->Prop
 | .v p,x=>Rep K ι H p x
 | .c k,x=>∃a,x=.ref a/\ι[k]? = some a
def RepSs (K:W.Frag)(ι:2e2)(H:Hp):List SV->List V->Prop
 | [],vs=>vs=[]
 | p::ps,vs=>∃v r,vs=v::r/\RepS K ι H p v/\RepSs K ι H ps r
def CellOk (K:W.Frag)(ι:2e2)(H:Hp)(a:Addr):PV->Prop
 | .lst ps=>∃vs,H a=some (.lst vs)/\Reps K ι H ps vs
 | .dct ks ps=>∃(qs:5e6) (vs:List V),H a=some (.dK (qs.zip vs))/\qs.length=vs.length/\ks=qs.map kP/\Reps K ι H ps vs
 | .dtt ks ps=>∃(vs:List V),H a=some (.dT (ks.zip vs))/\ks.length=vs.length/\Reps K ι H ps vs
 | _=>False
structure CR (K:W.Frag)(ι:List Addr)(H:Hp)(C:Cs):Prop where
 len:ι.length=C.length
 nd:ι.Nodup
 ok:∀(k:Nat) (a:Addr) (c:PV),ι[k]? = some a->C[k]? = some c->CellOk K ι H a c
def Fr (ι:2e2)(H H':Hp):Prop:=∀b o,b∉ι->H b=some o->H' b=some o
theorem Fr.refl {ι:2e2}{H:Hp}:Fr ι H H:=fun _ _ _ h=>h
theorem Fr.trans {ι:2e2}{H H1 H2:Hp}(a:Fr ι H H1)(b:Fr ι H1 H2):Fr ι H H2:=fun c o n h=>b c o n (a c o n h)
theorem Fr.new {ι:2e2}{H:Hp}{p:Addr}{o:HO}(h:H p=none):Fr ι H (upd H p o):=fun b u _ e=>by rw[Zag (Zak e h)];exact e
section
variable {K:W.Frag}{ι:2e2}{H H':Hp}{C:Cs}
theorem CR.at' (cr:7e2){a:Addr}(h:a∈ι):∃(k:Nat) (c:PV),ι[k]? = some a/\C[k]? = some c/\CellOk K ι H a c:=by
 obtain ⟨k,hk,e⟩:=WL h
 have h1:ι[k]? = some a:=by rw[Yd hk,e]
 have hk2:k < C.length:=by rw[←cr.len];exact hk
 exact ⟨k,C[k],h1,Yd hk2,cr.ok k a _ h1 (Yd hk2)⟩
theorem CR.mut (cr:7e2){a:Addr}(h:a∈ι):(∃vs,H a=some (.lst vs))\/(∃kvs,H a=some (.dK kvs))\/∃kvs,H a=some (.dT kvs):=by
 obtain ⟨k,c,_,_,ok⟩:=cr.at' h
 cases c with
 | lst ps=>obtain ⟨vs,e,_⟩:=ok;exact .inl ⟨vs,e⟩
 | dct ks ps=>obtain ⟨qs,vs,e,_⟩:=ok;exact .inr (.inl ⟨_,e⟩)
 | dtt ks ps=>obtain ⟨vs,e,_⟩:=ok;exact .inr (.inr ⟨_,e⟩)
 | _=>exact ok.elim
theorem CR.notup (cr:7e2){a:Addr}{o:HO}(e:H a=some o)(h1:∀vs,o≠.lst vs)(h2:∀kvs,o≠.dK kvs)(h3:∀kvs,o≠.dT kvs:=by intro kvs z;cases z):a∉ι:=fun h=>by
 rcases cr.mut h with ⟨vs,z⟩ | ⟨kvs,z⟩ | ⟨kvs,z⟩
 ·rw[e] at z;exact h1 vs (YI z)
 ·rw[e] at z;exact h2 kvs (YI z)
 ·rw[e] at z;exact h3 kvs (YI z)
theorem tpR_mono (cr:7e2)(fr:Fr ι H H'){a:Addr}{vs:List V}(h:TpR H a vs):TpR H' a vs:=
 fr _ _ (cr.notup h (fun _ e=>nomatch e) fun _ e=>nomatch e) h
theorem LsR.mono (fr:Fr ι H H'){a:Addr}{vs:List V}(h:LsR K ι H a vs):LsR K ι H' a vs:=by
 rcases h with ⟨n,h | ⟨o,h⟩⟩ | h
 ·exact .inl ⟨n,.inl (fr _ _ n h)⟩
 ·exact .inl ⟨n,.inr ⟨o,fr _ _ n h⟩⟩
 ·exact .inr h
theorem rd_mono {a:Addr}{u:HO}(k:∀o,H a=some o->H' a=some o)(h:Rd H a u):Rd H' a u:=by
 rcases h with h | ⟨o,h⟩
 ·exact .inl (k _ h)
 ·exact .inr ⟨o,k _ h⟩
mutual
theorem Rep.mono (cr:7e2)(fr:Fr ι H H'):∀(p:PV) (v:V),Rep K ι H p v->Rep K ι H' p v
 | .non,v,h=>by unfold Rep at h ⊢;exact h
 | .bl b,v,h=>by unfold Rep at h ⊢;exact h
 | .int i,v,h=>by unfold Rep at h ⊢;exact h
 | .str x,v,h=>by unfold Rep at h ⊢;exact h
 | .tup ps,v,h=>by
  unfold Rep at h ⊢
  obtain ⟨a,vs,e,sq,r⟩:=h
  exact ⟨a,vs,e,tpR_mono cr fr sq,Reps.mono cr fr ps vs r⟩
 | .lst ps,v,h=>by
  unfold Rep at h ⊢
  obtain ⟨a,vs,e,sq,r⟩:=h
  exact ⟨a,vs,e,sq.mono fr,Reps.mono cr fr ps vs r⟩
 | .dct ks ps,v,h=>by
  unfold Rep at h ⊢
  obtain ⟨a,qs,vs,e,n,hd,hl,hk,r⟩:=h
  exact ⟨a,qs,vs,e,n,fr _ _ n hd,hl,hk,Reps.mono cr fr ps vs r⟩
 | .dtt ks ps,v,h=>by
  unfold Rep at h ⊢
  obtain ⟨a,vs,e,n,hd,hl,r⟩:=h
  exact ⟨a,vs,e,n,rd_mono (fun o e=>fr _ o n e) hd,hl,Reps.mono cr fr ps vs r⟩
 | .fn a,v,h=>by unfold Rep at h ⊢;exact h
 | .ty n,v,h=>by unfold Rep at h ⊢;exact h
theorem Reps.mono (cr:7e2)(fr:Fr ι H H'):∀(ps:List PV) (vs:List V),Reps K ι H ps vs->Reps K ι H' ps vs
 | [],vs,h=>by unfold Reps at h ⊢;exact h
 | p::ps,vs,h=>by
  unfold Reps at h ⊢
  obtain ⟨v,r,e,h1,h2⟩:=h
  exact ⟨v,r,e,Rep.mono cr fr p v h1,Reps.mono cr fr ps r h2⟩
end
theorem RepS.mono (cr:7e2)(fr:Fr ι H H'){s:SV}{v:V}(h:RepS K ι H s v):RepS K ι H' s v:=by
 cases s with
 | v p=>exact Rep.mono cr fr p v h
 | c k=>exact h
mutual
theorem Rep.stay (sm:∀b o,H b=some o->H' b=some o):∀(p:PV) (v:V),Rep K ι H p v->Rep K ι H' p v
 | .non,v,h=>by unfold Rep at h ⊢;exact h
 | .bl b,v,h=>by unfold Rep at h ⊢;exact h
 | .int i,v,h=>by unfold Rep at h ⊢;exact h
 | .str x,v,h=>by unfold Rep at h ⊢;exact h
 | .tup ps,v,h=>by
  unfold Rep at h ⊢
  obtain ⟨a,vs,e,sq,r⟩:=h
  exact ⟨a,vs,e,sm _ _ sq,Reps.stay sm ps vs r⟩
 | .lst ps,v,h=>by
  unfold Rep at h ⊢
  obtain ⟨a,vs,e,sq,r⟩:=h
  exact ⟨a,vs,e,sq.mono (fun b o _ e=>sm b o e),Reps.stay sm ps vs r⟩
 | .dct ks ps,v,h=>by
  unfold Rep at h ⊢
  obtain ⟨a,qs,vs,e,n,hd,hl,hk,r⟩:=h
  exact ⟨a,qs,vs,e,n,sm _ _ hd,hl,hk,Reps.stay sm ps vs r⟩
 | .dtt ks ps,v,h=>by
  unfold Rep at h ⊢
  obtain ⟨a,vs,e,n,hd,hl,r⟩:=h
  exact ⟨a,vs,e,n,rd_mono (fun o e=>sm _ o e) hd,hl,Reps.stay sm ps vs r⟩
 | .fn a,v,h=>by unfold Rep at h ⊢;exact h
 | .ty n,v,h=>by unfold Rep at h ⊢;exact h
theorem Reps.stay (sm:∀b o,H b=some o->H' b=some o):∀(ps:List PV) (vs:List V),Reps K ι H ps vs->Reps K ι H' ps vs
 | [],vs,h=>by unfold Reps at h ⊢;exact h
 | p::ps,vs,h=>by
  unfold Reps at h ⊢
  obtain ⟨v,r,e,h1,h2⟩:=h
  exact ⟨v,r,e,Rep.stay sm p v h1,Reps.stay sm ps r h2⟩
end
mutual
theorem Rep.cells {ι':2e2}(hs:∀b o,H b=some o->b∉ι->b∉ι'):∀(p:PV) (v:V),Rep K ι H p v->Rep K ι' H p v
 | .non,v,h=>by unfold Rep at h ⊢;exact h
 | .bl b,v,h=>by unfold Rep at h ⊢;exact h
 | .int i,v,h=>by unfold Rep at h ⊢;exact h
 | .str x,v,h=>by unfold Rep at h ⊢;exact h
 | .tup ps,v,h=>by
  unfold Rep at h ⊢
  obtain ⟨a,vs,e,sq,r⟩:=h
  exact ⟨a,vs,e,sq,Reps.cells hs ps vs r⟩
 | .lst ps,v,h=>by
  unfold Rep at h ⊢
  obtain ⟨a,vs,e,sq,r⟩:=h
  refine ⟨a,vs,e,?_,Reps.cells hs ps vs r⟩
  rcases sq with ⟨n,q | ⟨o,q⟩⟩ | q
  ·exact .inl ⟨hs _ _ q n,.inl q⟩
  ·exact .inl ⟨hs _ _ q n,.inr ⟨o,q⟩⟩
  ·exact .inr q
 | .dct ks ps,v,h=>by
  unfold Rep at h ⊢
  obtain ⟨a,qs,vs,e,n,hd,hl,hk,r⟩:=h
  exact ⟨a,qs,vs,e,hs _ _ hd n,hd,hl,hk,Reps.cells hs ps vs r⟩
 | .dtt ks ps,v,h=>by
  unfold Rep at h ⊢
  obtain ⟨a,vs,e,n,hd,hl,r⟩:=h
  exact ⟨a,vs,e,by rcases id hd with q | ⟨o,q⟩<;>exact hs _ _ q n,hd,hl,Reps.cells hs ps vs r⟩
 | .fn a,v,h=>by unfold Rep at h ⊢;exact h
 | .ty n,v,h=>by unfold Rep at h ⊢;exact h
theorem Reps.cells {ι':2e2}(hs:∀b o,H b=some o->b∉ι->b∉ι'):∀(ps:List PV) (vs:List V),Reps K ι H ps vs->Reps K ι' H ps vs
 | [],vs,h=>by unfold Reps at h ⊢;exact h
 | p::ps,vs,h=>by
  unfold Reps at h ⊢
  obtain ⟨v,r,e,h1,h2⟩:=h
  exact ⟨v,r,e,Rep.cells hs p v h1,Reps.cells hs ps r h2⟩
end
theorem Reps.nil:Reps K ι H [] []:=by unfold Reps;rfl
theorem Reps.cons {p:PV}{v:V}{ps:List PV}{vs:List V}(h:Rep K ι H p v)(t:Reps K ι H ps vs):Reps K ι H (p::ps) (v::vs):=by unfold Reps;exact ⟨v,vs,rfl,h,t⟩
theorem Reps.inv {p:PV}{ps:List PV}{vs:List V}(h:Reps K ι H (p::ps) vs):∃v r,vs=v::r/\Rep K ι H p v/\Reps K ι H ps r:=by unfold Reps at h;exact h
theorem Reps.inv0 {vs:List V}(h:Reps K ι H [] vs):vs=[]:=by unfold Reps at h;exact h
theorem Reps.length:∀{ps:List PV} {vs:List V},Reps K ι H ps vs->ps.length=vs.length
 | [],vs,h=>by rw[h.inv0];rfl
 | p::ps,vs,h=>by obtain ⟨v,r,rfl,_,t⟩:=h.inv;rw[YC,YC,t.length]
theorem Reps.append:∀{ps qs:List PV} {vs ws:List V},Reps K ι H ps vs->Reps K ι H qs ws->Reps K ι H (ps++qs) (vs++ws)
 | [],_,vs,_,h,t=>by rw[h.inv0];exact t
 | p::ps,_,vs,_,h,t=>by obtain ⟨v,r,rfl,h1,h2⟩:=h.inv;exact .cons h1 (h2.append t)
theorem Reps.get:∀{ps:List PV} {vs:List V} {i:Nat} {p:PV},Reps K ι H ps vs->ps[i]? = some p->∃v,vs[i]? = some v/\Rep K ι H p v
 | [],_,_,_,h,e=>by simp at e
 | q::ps,vs,0,p,h,e=>by
  obtain ⟨v,r,rfl,h1,h2⟩:=h.inv
  simp at e;subst e;exact ⟨v,rfl,h1⟩
 | q::ps,vs,i + 1,p,h,e=>by
  obtain ⟨v,r,rfl,h1,h2⟩:=h.inv
  obtain ⟨w,e1,r1⟩:=h2.get (i:=i) (by simpa using e)
  exact ⟨w,by simpa using e1,r1⟩
theorem Reps.get':∀{ps:List PV} {vs:List V} {i:Nat} {v:V},Reps K ι H ps vs->vs[i]? = some v->∃p,ps[i]? = some p/\Rep K ι H p v:=fun {ps vs i v} h e=>by
 have hi:i < ps.length:=by
  rw[h.length]
  rcases YS i vs.length with q | q
  ·exact q
  ·rw[YF.mpr q] at e;cases e
 obtain ⟨w,e1,r⟩:=h.get (Yd hi)
 rw[e] at e1;cases e1
 exact ⟨_,Yd hi,r⟩
theorem Reps.take:∀{ps:List PV} {vs:List V} (n:Nat),Reps K ι H ps vs->Reps K ι H (ps.take n) (vs.take n)
 | _,_,0,_=>by simp;exact .nil
 | [],vs,n + 1,h=>by rw[h.inv0];simp;exact .nil
 | p::ps,vs,n + 1,h=>by obtain ⟨v,r,rfl,h1,h2⟩:=h.inv;simp only[List.take_succ_cons];exact .cons h1 (h2.take n)
theorem Reps.drop:∀{ps:List PV} {vs:List V} (n:Nat),Reps K ι H ps vs->Reps K ι H (ps.drop n) (vs.drop n)
 | _,_,0,h=>by simpa using h
 | [],vs,n + 1,h=>by rw[h.inv0];simp;exact .nil
 | p::ps,vs,n + 1,h=>by obtain ⟨v,r,rfl,h1,h2⟩:=h.inv;simpa using h2.drop n
theorem Reps.set:∀{ps:List PV} {vs:List V} (i:Nat) {p:PV} {v:V},Reps K ι H ps vs->Rep K ι H p v->Reps K ι H (ps.set i p) (vs.set i v)
 | [],vs,i,p,v,h,_=>by rw[h.inv0];simp;exact .nil
 | q::ps,vs,0,p,v,h,hp=>by obtain ⟨w,r,rfl,h1,h2⟩:=h.inv;simp;exact .cons hp h2
 | q::ps,vs,i + 1,p,v,h,hp=>by obtain ⟨w,r,rfl,h1,h2⟩:=h.inv;simp;exact .cons h1 (h2.set i hp)
theorem CellOk.mono (cr:7e2)(fr:Fr ι H H'){a:Addr}{c:PV}(ha:∀o,H a=some o->H' a=some o)(h:CellOk K ι H a c):CellOk K ι H' a c:=by
 cases c with
 | lst ps=>obtain ⟨vs,e,r⟩:=h;exact ⟨vs,ha _ e,Reps.mono cr fr _ _ r⟩
 | dct ks ps=>obtain ⟨qs,vs,e,hl,hk,r⟩:=h;exact ⟨qs,vs,ha _ e,hl,hk,Reps.mono cr fr _ _ r⟩
 | dtt ks ps=>obtain ⟨vs,e,hl,r⟩:=h;exact ⟨vs,ha _ e,hl,Reps.mono cr fr _ _ r⟩
 | _=>exact h.elim
theorem CR.same (cr:7e2)(sm:∀b o,H b=some o->H' b=some o):CR K ι H' C:=
 ⟨cr.len,cr.nd,fun k a c h1 h2=>(cr.ok k a c h1 h2).mono cr (fun b o _ e=>sm b o e) fun o e=>sm a o e⟩
theorem CR.new (cr:7e2){p:Addr}{o:HO}(h:H p=none):CR K ι (upd H p o) C:=cr.same fun b u e=>by rw[Zag (Zak e h)];exact e
theorem CR.put (cr:7e2){k:Nat}{a:Addr}{c:PV}{o:HO}(hk:ι[k]? = some a)(ok:CellOk K ι (upd H a o) a c):CR K ι (upd H a o) (C.set k c):=by
 have fr:Fr ι H (upd H a o):=fun b u n e=>by
  rw[Zag (fun z=>n (by rw[z];exact YB hk))];exact e
 refine ⟨by rw[XB];exact cr.len,cr.nd,fun j b d h1 h2=>?_⟩
 by_cases hj:j=k
 ·subst hj
  rw[hk] at h1;cases h1
  have hlt:j < C.length:=by
   rw[←cr.len]
   rcases YS j ι.length with q | q
   ·exact q
   ·rw[YF.mpr q] at hk;cases hk
  rw[Xf hlt] at h2
  cases h2;exact ok
 ·rw[YA (XH hj)] at h2
  refine (cr.ok j b d h1 h2).mono cr fr fun u e=>?_
  have hb:b≠a:=fun z=>by
   subst z
   have hjl:j < ι.length:=by
    rcases YS j ι.length with q | q
    ·exact q
    ·rw[YF.mpr q] at h1;cases h1
   have hkl:k < ι.length:=by
    rcases YS k ι.length with q | q
    ·exact q
    ·rw[YF.mpr q] at hk;cases hk
   have e1:=(Y2.mp h1).2
   have e2:=(Y2.mp hk).2
   exact hj ((Vp cr.nd).mp (e1.trans e2.symm))
  rw[Zag hb];exact e
theorem repHs {p:Addr}(hp:H p=none):∀b u,H b=some u->b∉ι->b∉ι++[p]:=fun b u e n z=>by
 rcases YU.mp z with z | z
 ·exact n z
 ·exact Zak e hp (by simpa using z)
theorem RepsNew (cr:7e2){p:Addr}{o:HO}(hp:H p=none)(q:List PV)(v:List V)(r:Reps K ι H q v):Reps K (ι++[p]) (upd H p o) q v:=by
 exact Reps.stay (fun b u e=>by rw[Zag (Zak e hp)];exact e) q v (Reps.cells (ι':=ι++[p]) (repHs hp) q v r)
theorem CR.add (cr:7e2){p:Addr}{c:PV}{o:HO}(hp:H p=none)(ok:CellOk K (ι++[p]) (upd H p o) p c):CR K (ι++[p]) (upd H p o) (C++[c]):=by
 have hni:p∉ι:=fun z=>by
  rcases cr.mut z with ⟨vs,e⟩ | ⟨kvs,e⟩ | ⟨kvs,e⟩
  ·rw[hp] at e;cases e
  ·rw[hp] at e;cases e
  ·rw[hp] at e;cases e
 have hc:∀b u,(upd H p o) b=some u->b∉ι->b≠p->b∉ι++[p]:=fun b u _ n1 n2 z=>by
  rcases YU.mp z with z | z
  ·exact n1 z
  ·exact n2 (by simpa using z)
 have up:∀b u,H b=some u->(upd H p o) b=some u:=fun b u e=>by rw[Zag (Zak e hp)];exact e
 have lift:∀(b:Addr) (d:PV),CellOk K ι H b d->CellOk K (ι++[p]) (upd H p o) b d:=fun b d h=>by
  have hs:∀b u,H b=some u->b∉ι->b∉ι++[p]:=fun b u e n=>hc b u (up b u e) n (Zak e hp)
  have cr':CR K ι (upd H p o) C:=cr.new hp
  cases d with
  | lst ps=>
   obtain ⟨vs,e,r⟩:=h
   exact ⟨vs,up _ _ e,RepsNew cr hp ps vs r⟩
  | dct ks ps=>
   obtain ⟨qs,vs,e,hl,hk,r⟩:=h
   exact ⟨qs,vs,up _ _ e,hl,hk,RepsNew cr hp ps vs r⟩
  | dtt ks ps=>
   obtain ⟨vs,e,hl,r⟩:=h
   exact ⟨vs,up _ _ e,hl,RepsNew cr hp ps vs r⟩
  | _=>exact h.elim
 refine ⟨by simp[cr.len],?_,fun k a d h1 h2=>?_⟩
 ·rw[Xm]
  refine ⟨cr.nd,by simp,fun a ha b hb=>?_⟩
  have:b=p:=by simpa using hb
  subst this
  exact fun z=>hni (z ▸ ha)
 ·rcases YS k ι.length with hk | hk
  ·rw[YE hk] at h1
   rw[YE (by rw[←cr.len];exact hk)] at h2
   exact lift a d (cr.ok k a d h1 h2)
  ·rw[YZ hk] at h1
   rw[YZ (by rw[←cr.len];exact hk)] at h2
   rw[←cr.len] at h2
   cases hz:k - ι.length with
   | zero=>
    rw[hz] at h1 h2
    simp at h1 h2
    subst h1 h2
    exact ok
   | succ j=>rw[hz] at h1;simp at h1
end
end Pu
namespace Pu
open PySem PySem.Spec L2
open PyProof.Rows hiding St
abbrev M (α:Type):=Cs->Option (α×Cs)
def ret {α:Type}(a:α):M α:=fun C=>some (a,C)
def bnd {α β:Type}(x:M α)(f:α->M β):M β:=fun C=>match x C with
 | none=>none
 | some (a,C')=>f a C'
def opM {α:Type}(g:Cs->Option α):M α:=fun C=>match g C with
 | none=>none
 | some a=>some (a,C)
theorem Zae {α β:Type}{x:M α}{f:α->M β}{C C2:Cs}{b:β}(h:bnd x f C=some (b,C2)):∃a C1,x C=some (a,C1)/\f a C1=some (b,C2):=by
 unfold bnd at h
 cases e:x C with
 | none=>rw[e] at h;cases h
 | some p=>obtain ⟨a,C1⟩:=p;rw[e] at h;exact ⟨a,C1,rfl,h⟩
theorem Zav {α:Type}{g:Cs->Option α}{C C2:Cs}{b:α}(h:opM g C=some (b,C2)):g C=some b/\C2=C:=by
 unfold opM at h
 cases e:g C with
 | none=>rw[e] at h;cases h
 | some p=>rw[e] at h;cases h;exact ⟨rfl,rfl⟩
abbrev PSt:=List (Option SV)
def asB:SV->Option Bool
 | .v (.bl b)=>some b
 | _=>none
def mB (x:SV):M Bool:=opM fun _=>asB x
theorem mB_some {x:SV}{C C2:Cs}{b:Bool}(h:mB x C=some (b,C2)):x=.v (.bl b)/\C2=C:=by
 obtain ⟨h,e⟩:=Zav h
 refine ⟨?_,e⟩
 cases x with
 | c k=>cases h
 | v p=>cases p<;>first | (cases h;rfl) | cases h
theorem repB {K:W.Frag}{ι:2e2}{H:Hp}{b:Bool}{v:V}(h:RepS K ι H (.v (.bl b)) v):v=.bl b:=by unfold RepS Rep at h;exact h
theorem repB' {K:W.Frag}{ι:2e2}{H:Hp}{b:Bool}:RepS K ι H (.v (.bl b)) (.bl b):=by unfold RepS Rep;rfl
inductive PF where
 | nx (ρ:PSt) | rt (r:SV) | bk (ρ:PSt) | ct (ρ:PSt) | rf (ps:List PV) | rq (qs:List SV)
structure SR (K:W.Frag)(ι:List Addr)(H:Hp)(ρ:PSt)(σ:St)(C:Cs):Prop where
 cr:CR K ι H C
 len:ρ.length=σ.length
 loc:∀(i:Nat) (s:SV),ρ[i]? = some (some s)->∃v,σ[i]? = some (some v)/\RepS K ι H s v
section
variable {K:W.Frag}{ι:2e2}{H H':Hp}{C C':Cs}{ρ:PSt}{σ:St}
theorem SR.step (sr:SR K ι H ρ σ C)(fr:Fr ι H H')(cr:CR K ι H' C'):SR K ι H' ρ σ C':=
 ⟨cr,sr.len,fun i s e=>by obtain ⟨v,h1,h2⟩:=sr.loc i s e;exact ⟨v,h1,h2.mono sr.cr fr⟩⟩
theorem SR.set (sr:SR K ι H ρ σ C){s:SV}{v:V}(i:Nat)(r:RepS K ι H s v):SR K ι H (ρ.set i (some s)) (σ.set i (some v)) C:=by
 refine ⟨sr.cr,by simp[sr.len],fun j t e=>?_⟩
 by_cases hj:i=j
 ·subst hj
  have hi:i < ρ.length:=by
   rcases YS i ρ.length with q | q
   ·exact q
   ·rw[YF.mpr (by simpa using q)] at e;cases e
  rw[Xf hi] at e
  cases e
  exact ⟨v,by rw[Xf (by rw[←sr.len];exact hi)],r⟩
 ·rw[YA hj] at e
  rw[YA hj]
  exact sr.loc j t e
end
def tM (K:W.Frag)(f:2e4):TE:=fun σ H Q=>∃ι ρ C r C',SR K ι H ρ σ C/\f ρ C=some (r,C')/\∀v H',Fr ι H H'->CR K ι H' C'->RepS K ι H' r v->Q v H'
def tMA (K:W.Frag)(f:2e1):TA:=fun σ H Q=>∃ι ρ C r C',SR K ι H ρ σ C/\f ρ C=some (r,C')/\∀v H',Fr ι H H'->CR K ι H' C'->RepSs K ι H' r v->Q v H'
def tMB (K:W.Frag)(f:3e8):TT:=fun σ H Q=>∃ι ρ C r C',SR K ι H ρ σ C/\f ρ C=some (r,C')/\∀H',Fr ι H H'->CR K ι H' C'->Q r H'
def tMF (K:W.Frag)(f:6e5):TE:=fun σ H Q=>∃ι ρ C ps C',SR K ι H ρ σ C/\f ρ C=some (ps,C')/\∀p vs H',Fr ι H H'->CR K ι H' C'->H' p=none->Reps K ι H' ps vs->Q (.ref p) (upd H' p (.lst vs))
def EM (X:Cx)(e:Expr)(f:2e4):Prop:=PE X e (tM X.K f)
def AM (X:Cx)(es:3e2)(f:2e1):Prop:=PA X es (tMA X.K f)
def TMt (X:Cx)(e:Expr)(f:3e8):Prop:=PT X e (tMB X.K f)
def WM (X:Cx)(e:Expr)(f:3e8):Prop:=PW X e (tMB X.K f)
def FM (X:Cx)(e:Expr)(f:6e5):Prop:=PE X e (tMF X.K f)
theorem PE.imp {X:Cx}{e:Expr}{t t':TE}(h:PE X e t)(k:∀σ H Q,t' σ H Q->t σ H Q):PE X e t':=fun pins s σ H Q I q=>h pins s σ H Q I (k σ H Q q)
theorem PT.imp {X:Cx}{e:Expr}{t t':TT}(h:PT X e t)(k:∀σ H Q,t' σ H Q->t σ H Q):PT X e t':=fun pins s σ H Q I q=>h pins s σ H Q I (k σ H Q q)
theorem PW.imp {X:Cx}{e:Expr}{t t':TT}(h:PW X e t)(k:∀σ H Q,t' σ H Q->t σ H Q):PW X e t':=fun wh pins s σ H Q I q=>h wh pins s σ H Q I (k σ H Q q)
theorem PA.imp {X:Cx}{e:3e2}{t t':TA}(h:PA X e t)(k:∀σ H Q,t' σ H Q->t σ H Q):PA X e t':=fun pos pins s σ H Q I q=>h pos pins s σ H Q I (k σ H Q q)
theorem PS.imp {X:Cx}{e:Stmt}{t t':TS}(h:PS X e t)(k:∀D σ H,t' D σ H->t D σ H):PS X e t':=fun pins s σ H D I q=>h pins s σ H D I (k D σ H q)
theorem PSs.imp {X:Cx}{e:List Stmt}{t t':TS}(h:PSs X e t)(k:∀D σ H,t' D σ H->t D σ H):PSs X e t':=fun pins s σ H D I q=>h pins s σ H D I (k D σ H q)
theorem PI.imp {X:Cx}{tg e:Expr}{t t':TI}(h:PI X tg e t)(k:∀σ H Q,t' σ H Q->t σ H Q):PI X tg e t':=fun pins s σ H Q I q=>h pins s σ H Q I (k σ H Q q)
section
variable {X:Cx}{a b e c:Expr}{es:3e2}{fa fb fc:2e4}{pos p:Pos}{x:Str}
def mVar (i:Nat):PSt->M SV:=fun ρ C=>match ρ[i]? with
 | some (some s)=>some (s,C)
 | _=>none
def mC (p:PV):PSt->M SV:=fun _ C=>some (.v p,C)
theorem ZcC {v:V}{q:PV}(h:PE X e (tC v))(r:∀ι H,Rep X.K ι H q v):EM X e (mC q):=by
 refine PE.imp h fun σ H Q h_=>?_
 obtain ⟨ι,ρ,C,z,C',sr,e,k⟩:=h_
 cases e
 exact k v H .refl sr.cr (r ι H)
def mOp (g:Cs->SV->SV->Option SV)(fa fb:2e4):PSt->M SV:=fun ρ=>bnd (fa ρ) fun x=>bnd (fb ρ) fun y=>opM fun C=>g C x y
def R2ok (K:W.Frag)(r:R2)(g:Cs->SV->SV->Option SV):Prop:=
 ∀(ι:2e2) (H:Hp) (C:Cs) (x y:SV) (vx vy:V) (z:SV) (Q:VK),CR K ι H C->RepS K ι H x vx->RepS K ι H y vy->g C x y=some z->(∀v H',Fr ι H H'->CR K ι H' C->RepS K ι H' z v->Q v H')->r vx vy H Q
theorem tM_op {K:W.Frag}{r:R2}{g:Cs->SV->SV->Option SV}(hg:R2ok K r g){σ:St}{H:Hp}{Q:VK}(h:tM K (mOp g fa fb) σ H Q):tOp r (tM K fa) (tM K fb) σ H Q:=by
 obtain ⟨ι,ρ,C,z,C',sr,e,q⟩:=h
 obtain ⟨x,C1,e1,e⟩:=Zae e
 obtain ⟨y,C2,e2,e⟩:=Zae e
 obtain ⟨e3,rfl⟩:=Zav e
 exact ⟨ι,ρ,C,x,C1,sr,e1,fun vx H1 f1 c1 r1=>⟨ι,ρ,C1,y,C',sr.step f1 c1,e2,fun vy H2 f2 c2 r2=>hg ι H2 C' x y vx vy z _ c2 (r1.mono c1 f2) r2 e3 fun v H3 f3 c3 r3=>q v H3 (f1.trans (f2.trans f3)) c3 r3⟩⟩
theorem em_op {op:Operator}{r:R2}{g:Cs->SV->SV->Option SV}(ho:OpR X (Va op) r)(hg:R2ok X.K r g)(ha:EM X a fa)(hb:EM X b fb):EM X (.BinOp a op b pos) (mOp g fa fb):=
 PE.imp (pe_op ho ha hb) fun _ _ _ h=>tM_op hg h
theorem em_ix {r:R2}{g:Cs->SV->SV->Option SV}(hr:IxR X r)(hg:R2ok X.K r g)(ha:EM X a fa)(hb:EM X b fb)(hs:PlainIx b):EM X (.Subscript a b pos) (mOp g fa fb):=
 PE.imp (pe_ix hr ha hb hs) fun _ _ _ h=>tM_op hg h
def mChain (g g':Cs->SV->SV->Option SV)(fa fb fc:2e4):PSt->M SV:=fun ρ=>bnd (fa ρ) fun x=>bnd (fb ρ) fun y=>bnd (opM fun C=>g C x y) fun z=>bnd (mB z) fun b=>
 if b then bnd (fc ρ) fun w=>opM fun C=>g' C y w else ret (.v (.bl false))
def mTest (f:2e4):PSt->M Bool:=fun ρ=>bnd (f ρ) mB
theorem tM_test {K:W.Frag}{f:2e4}{σ:St}{H:Hp}{Q:Bool->Hp->Prop}(h:tMB K (mTest f) σ H Q):tTest (tM K f) σ H Q:=by
 obtain ⟨ι,ρ,C,z,C',sr,e,q⟩:=h
 obtain ⟨x,C1,e1,e⟩:=Zae e
 obtain ⟨rfl,rfl⟩:=mB_some e
 exact ⟨ι,ρ,C,_,C',sr,e1,fun v H1 f1 c1 r1=>⟨_,repB r1,q H1 f1 c1⟩⟩
def deref (C:Cs):SV->Option PV
 | .v p=>some p
 | .c k=>C[k]?
def truP:PV->Option Bool
 | .non=>some false
 | .bl b=>some b
 | .int i=>some (i != 0)
 | .str y=>some ((y.length:Int) != 0)
 | .tup xs=>some (!xs.isEmpty)
 | .lst xs=>some (!xs.isEmpty)
 | .dct ks _=>some (!ks.isEmpty)
 | _=>none
def mTru (f:2e4):PSt->M Bool:=fun ρ=>bnd (f ρ) fun x=>opM fun C=>(deref C x).bind truP
inductive Lies (K:W.Frag)(ι:List Addr)(H:Hp):PV->V->Prop
 | non:Lies K ι H .non .non
 | bl (b:Bool):Lies K ι H (.bl b) (.bl b)
 | int (i:Int):Lies K ι H (.int i) (.int i)
 | str (x:Str) (h:x.length<=Yr):Lies K ι H (.str x) (.str x)
 | tup {a:Addr} {ps:List PV} {vs:List V} (h:TpR H a vs) (r:Reps K ι H ps vs):Lies K ι H (.tup ps) (.ref a)
 | lst {a:Addr} {ps:List PV} {vs:List V} (h:SqL K H a vs) (r:Reps K ι H ps vs):Lies K ι H (.lst ps) (.ref a)
 | dct {a:Addr} {qs:List Key} {ps:List PV} {vs:List V} (h:H a=some (.dK (qs.zip vs))) (hl:qs.length=vs.length) (r:Reps K ι H ps vs):Lies K ι H (.dct (qs.map kP) ps) (.ref a)
 | dtt {a:Addr} {ks:List (List Key)} {ps:List PV} {vs:List V} (h:Rd H a (.dT (ks.zip vs))) (hl:ks.length=vs.length) (r:Reps K ι H ps vs):Lies K ι H (.dtt ks ps) (.ref a)
 | fn (a:Addr):Lies K ι H (.fn a) (.ref a)
 | ty (n:String):Lies K ι H (.ty n) (.ty n)
theorem Rep.lies {K:W.Frag}{ι:2e2}{H:Hp}:∀{p:PV} {v:V},Rep K ι H p v->Lies K ι H p v
 | .non,v,h=>by unfold Rep at h;subst h;exact .non
 | .bl b,v,h=>by unfold Rep at h;subst h;exact .bl b
 | .int i,v,h=>by unfold Rep at h;subst h;exact .int i
 | .str x,v,h=>by unfold Rep at h;obtain ⟨rfl,h⟩:=h;exact .str x h
 | .tup ps,v,h=>by unfold Rep at h;obtain ⟨a,vs,rfl,h,r⟩:=h;exact .tup h r
 | .lst ps,v,h=>by unfold Rep at h;obtain ⟨a,vs,rfl,h,r⟩:=h;exact .lst h.sq r
 | .dct ks ps,v,h=>by unfold Rep at h;obtain ⟨a,qs,vs,rfl,n,hd,hl,rfl,r⟩:=h;exact .dct hd hl r
 | .dtt ks ps,v,h=>by unfold Rep at h;obtain ⟨a,vs,rfl,n,hd,hl,r⟩:=h;exact .dtt hd hl r
 | .fn a,v,h=>by unfold Rep at h;subst h;exact .fn a
 | .ty n,v,h=>by unfold Rep at h;subst h;exact .ty n
theorem RepS.lies {K:W.Frag}{ι:2e2}{H:Hp}{C:Cs}(cr:7e2){x:SV}{p:PV}{v:V}(r:RepS K ι H x v)(e:deref C x=some p):Lies K ι H p v:=by
 cases x with
 | v q=>cases e;exact Rep.lies r
 | c k=>
  obtain ⟨a,rfl,hk⟩:=r
  have ok:=cr.ok k a p hk e
  cases p with
  | lst ps=>obtain ⟨vs,h,r⟩:=ok;exact .lst (.of h) r
  | dct ks ps=>obtain ⟨qs,vs,h,hl,rfl,r⟩:=ok;exact .dct h hl r
  | dtt ks ps=>obtain ⟨vs,h,hl,r⟩:=ok;exact .dtt (.inl h) hl r
  | _=>exact ok.elim
theorem Reps.isEmpty {K:W.Frag}{ι:2e2}{H:Hp}{ps:List PV}{vs:List V}(r:Reps K ι H ps vs):ps.isEmpty=vs.isEmpty:=by
 have:=r.length
 cases ps<;>cases vs<;>simp at this ⊢
theorem Lies.tru {K:W.Frag}{ι:2e2}{H:Hp}{p:PV}{v:V}{k:Bool}(l:Lies K ι H p v)(e:truP p=some k):TruV K v H k:=by
 cases l with
 | non=>cases e;rfl
 | bl b=>cases e;rfl
 | int i=>cases e;rfl
 | str x h=>cases e;exact ⟨h,rfl⟩
 | tup h r=>cases e;exact .inr (.inl ⟨_,h.sq,by rw[r.isEmpty]⟩)
 | lst h r=>cases e;exact .inl ⟨_,h,by rw[r.isEmpty]⟩
 | @dct a qs ps vs h hl r=>
  cases e
  refine .inr (.inr ⟨_,h,?_⟩)
  cases qs<;>cases vs<;>simp at hl ⊢
 | dtt h hl r=>cases e
 | fn a=>cases e
 | ty n=>cases e
def mNotT (f:3e8):PSt->M Bool:=fun ρ=>bnd (f ρ) fun b=>ret (!b)
def mAndT (f g:3e8):PSt->M Bool:=fun ρ=>bnd (f ρ) fun b=>if b then g ρ else ret false
def mOrT (f g:3e8):PSt->M Bool:=fun ρ=>bnd (f ρ) fun b=>if b then ret true else g ρ
def mAndV (f g:2e4):PSt->M SV:=fun ρ=>bnd (f ρ) fun x=>bnd (mB x) fun b=>if b then g ρ else ret (.v (.bl false))
def mOrV (f g:2e4):PSt->M SV:=fun ρ=>bnd (f ρ) fun x=>bnd (mB x) fun b=>if b then ret (.v (.bl true)) else g ρ
def mNotV (f:2e4):PSt->M SV:=fun ρ=>bnd (f ρ) fun x=>bnd (mB x) fun b=>ret (.v (.bl !b))
def mIf (t:3e8)(f g:2e4):PSt->M SV:=fun ρ=>bnd (t ρ) fun b=>if b then f ρ else g ρ
def aNil:PSt->M (List SV):=fun _=>ret []
def aCons (f:2e4)(g:2e1):PSt->M (List SV):=fun ρ=>bnd (f ρ) fun x=>bnd (g ρ) fun xs=>ret (x::xs)
theorem am_nil:AM X [] aNil:=PA.imp pa_nil fun σ H Q h_=>by obtain ⟨ι,ρ,C,z,C',sr,e,q⟩:=h_;cases e;exact q [] H .refl sr.cr rfl
theorem am_cons {f:2e4}{g:2e1}(h:EM X e f)(k:AM X es g)(hs:1e5:=by rfl):AM X 4e6 (aCons f g):=PA.imp (pa_cons h k hs) fun σ H Q h=>by
 obtain ⟨ι,ρ,C,z,C',sr,e,q⟩:=h
 obtain ⟨x,C1,e1,e⟩:=Zae e
 obtain ⟨xs,C2,e2,e⟩:=Zae e
 cases e
 exact ⟨ι,ρ,C,x,C1,sr,e1,fun v H1 f1 c1 r1=>⟨ι,ρ,C1,xs,C',sr.step f1 c1,e2,fun vs H2 f2 c2 r2=>q (v::vs) H2 (f1.trans f2) c2 ⟨v,vs,rfl,r1.mono c1 f2,r2⟩⟩⟩
def C1ok (K:W.Frag)(r:List V->Hp->VK->Prop)(g:Cs->List SV->Option SV):Prop:=
 ∀(ι:2e2) (H:Hp) (C:Cs) (xs:List SV) (vs:List V) (z:SV) (Q:VK),CR K ι H C->RepSs K ι H xs vs->g C xs=some z->(∀v H',Fr ι H H'->CR K ι H' C->RepS K ι H' z v->Q v H')->r vs H Q
def mCB (g:Cs->List SV->Option SV)(fs:2e1):PSt->M SV:=fun ρ=>bnd (fs ρ) fun xs=>opM fun C=>g C xs
theorem tM_CB {K:W.Frag}{r:List V->Hp->VK->Prop}{g:Cs->List SV->Option SV}{fs:2e1}(hg:C1ok K r g){σ:St}{H:Hp}{Q:VK}(h:tM K (mCB g fs) σ H Q):tCB r (tMA K fs) σ H Q:=by
 obtain ⟨ι,ρ,C,z,C',sr,e,q⟩:=h
 obtain ⟨xs,C1,e1,e⟩:=Zae e
 obtain ⟨e2,rfl⟩:=Zav e
 exact ⟨ι,ρ,C,xs,C',sr,e1,fun vs H1 f1 c1 r1=>hg ι H1 C' xs vs z _ c1 r1 e2 fun v H2 f2 c2 r2=>q v H2 (f1.trans f2) c2 r2⟩
theorem em_callB {id:String}{r:List V->Hp->VK->Prop}{g:Cs->List SV->Option SV}{fs:2e1}(hc:CallR X (.builtin id) r)(hg:C1ok X.K r g)(hgl:Gl X x)(hm:X.mg x=none)(hv:Xz x=some (.builtin id))(ha:AM X 4e6 fs)(hn:x≠"__name__":=by decide)(hdb:3e4:=by decide)
  (he:1e5:=by rfl) (hpl:2e7:=by rfl):EM X 8e9 (mCB g fs):=
 PE.imp (pe_callB hc hgl hm hv ha hn hdb he hpl) fun _ _ _ h=>tM_CB hg h
theorem em_callTy {T:String}{r:List V->Hp->VK->Prop}{g:Cs->List SV->Option SV}{fs:2e1}(hc:CallR X (.type T) r)(hg:C1ok X.K r g)(hgl:Gl X x)(hm:X.mg x=none)(hv:Xz x=some (.type T))(ha:AM X 4e6 fs)(hn:x≠"__name__":=by decide)(hdb:3e4:=by decide)
  (he:1e5:=by rfl) (hpl:2e7:=by rfl):EM X 8e9 (mCB g fs):=
 PE.imp (pe_callTy hc hgl hm hv ha hn hdb he hpl) fun _ _ _ h=>tM_CB hg h
def liftSp (K:W.Frag)(F:List SV->M SV):Sp:=fun vs H Q _=>∃ι ss C r C',CR K ι H C/\RepSs K ι H ss vs/\F ss C=some (r,C')/\∀v H',Fr ι H H'->CR K ι H' C'->RepS K ι H' r v->Q v H'
def mFn (F:List SV->M SV)(fs:2e1):PSt->M SV:=fun ρ=>bnd (fs ρ) F
theorem em_call {k:Nat}{f:Addr}{fd:Wh}{ps:4e0}{F:List SV->M SV}{fs:2e1}(G:FnOk X.prog X.w X.K X.mg X.base CX0 k f fd ps (liftSp X.K F))(hr:Room k X.A)(hg:Gl X x)(hm:X.mg x=some (.ref f))(hk:U3 X.K (.ref f)=true)(hb:Binds X.K fd ps [])
  (ha:AM X 4e6 fs) (hdb:3e4:=by decide) (he:1e5:=by rfl) (hpl:2e7:=by rfl):
  EM X 8e9 (mFn F fs):=PE.imp (pe_call G hr hg hm hk hb .nil pass0 ha hdb he hpl) fun σ H Q h=>by
 obtain ⟨ι,ρ,C,z,C',sr,e,q⟩:=h
 obtain ⟨xs,C1,e1,e⟩:=Zae e
 refine ⟨ι,ρ,C,xs,C1,sr,e1,fun vs H1 f1 c1 r1=>?_⟩
 show liftSp X.K F (vs++[]) H1 Q E0
 rw[YL]
 exact ⟨ι,xs,C1,z,C',c1,r1,e,fun v H2 f2 c2 r2=>q v H2 (f1.trans f2) c2 r2⟩
end
def Ex (ι ι2:2e2)(H H':Hp):Prop:=Fr ι H H'/\∀b∈ι2,H b=none
section
variable {K:W.Frag}{ι ι2 ι3 ι':2e2}{H H1 H2 H':Hp}{C C' C1:Cs}{ρ:PSt}{σ:St}
mutual
theorem Rep.tr (cr:7e2)(h:∀b o,b∉ι->H b=some o->b∉ι'/\H' b=some o):∀(p:PV) (v:V),Rep K ι H p v->Rep K ι' H' p v
 | .non,v,q=>by unfold Rep at q ⊢;exact q
 | .bl b,v,q=>by unfold Rep at q ⊢;exact q
 | .int i,v,q=>by unfold Rep at q ⊢;exact q
 | .str x,v,q=>by unfold Rep at q ⊢;exact q
 | .tup ps,v,q=>by
  unfold Rep at q ⊢
  obtain ⟨a,vs,e,sq,r⟩:=q
  exact ⟨a,vs,e,(h _ _ (cr.notup sq (fun _ e=>nomatch e) fun _ e=>nomatch e) sq).2,Reps.tr cr h ps vs r⟩
 | .lst ps,v,q=>by
  unfold Rep at q ⊢
  obtain ⟨a,vs,e,sq,r⟩:=q
  refine ⟨a,vs,e,?_,Reps.tr cr h ps vs r⟩
  rcases sq with ⟨n,z | ⟨o,z⟩⟩ | z
  ·exact .inl ⟨(h _ _ n z).1,.inl (h _ _ n z).2⟩
  ·exact .inl ⟨(h _ _ n z).1,.inr ⟨o,(h _ _ n z).2⟩⟩
  ·exact .inr z
 | .dct ks ps,v,q=>by
  unfold Rep at q ⊢
  obtain ⟨a,qs,vs,e,n,hd,hl,hk,r⟩:=q
  exact ⟨a,qs,vs,e,(h _ _ n hd).1,(h _ _ n hd).2,hl,hk,Reps.tr cr h ps vs r⟩
 | .dtt ks ps,v,q=>by
  unfold Rep at q ⊢
  obtain ⟨a,vs,e,n,hd,hl,r⟩:=q
  exact ⟨a,vs,e,by rcases id hd with q | ⟨o,q⟩<;>exact (h _ _ n q).1,rd_mono (fun o q=>(h _ o n q).2) hd,hl,Reps.tr cr h ps vs r⟩
 | .fn a,v,q=>by unfold Rep at q ⊢;exact q
 | .ty n,v,q=>by unfold Rep at q ⊢;exact q
theorem Reps.tr (cr:7e2)(h:∀b o,b∉ι->H b=some o->b∉ι'/\H' b=some o):∀(ps:List PV) (vs:List V),Reps K ι H ps vs->Reps K ι' H' ps vs
 | [],vs,q=>by unfold Reps at q ⊢;exact q
 | p::ps,vs,q=>by
  unfold Reps at q ⊢
  obtain ⟨v,r,e,h1,h2⟩:=q
  exact ⟨v,r,e,Rep.tr cr h p v h1,Reps.tr cr h ps r h2⟩
end
theorem Ex.fr (f:Fr ι H H'):Ex ι [] H H':=⟨f,fun _ z=>nomatch z⟩
theorem Ex.out (x:Ex ι ι2 H H'):∀b o,b∉ι->H b=some o->b∉ι++ι2/\H' b=some o:=fun b o n e=>by
 refine ⟨fun z=>?_,x.1 b o n e⟩
 rcases YU.mp z with z | z
 ·exact n z
 ·rw[x.2 b z] at e;cases e
theorem Ex.trans (c:CR K 5e8 H1 C1)(x:Ex ι ι2 H H1)(y:Ex 5e8 ι3 H1 H2):Ex ι (ι2++ι3) H H2:=by
 refine ⟨fun b o n e=>(y.out b o (x.out b o n e).1 (x.out b o n e).2).2,fun b hb=>?_⟩
 rcases YU.mp hb with hb | hb
 ·exact x.2 b hb
 ·cases e:H b with
  | none=>rfl
  | some o=>
   by_cases n:b∈ι
   ·rcases c.mut (YY _ n) with ⟨vs,z⟩ | ⟨vs,z⟩ | ⟨vs,z⟩
    ·rw[y.2 b hb] at z;cases z
    ·rw[y.2 b hb] at z;cases z
    ·rw[y.2 b hb] at z;cases z
   ·have:=x.1 b o n e
    rw[y.2 b hb] at this;cases this
theorem RepS.ex (cr:7e2)(x:Ex ι ι2 H H'){s:SV}{v:V}(r:RepS K ι H s v):RepS K 5e8 H' s v:=by
 cases s with
 | v p=>exact Rep.tr cr x.out p v r
 | c k=>
  obtain ⟨a,e,hk⟩:=r
  refine ⟨a,e,?_⟩
  have hl:k < ι.length:=by
   rcases YS k ι.length with q | q
   ·exact q
   ·rw[YF.mpr q] at hk;cases hk
  rw[YE hl];exact hk
theorem SR.ex (sr:SR K ι H ρ σ C)(x:Ex ι ι2 H H')(c:CR K 5e8 H' C'):SR K 5e8 H' ρ σ C':=
 ⟨c,sr.len,fun i s e=>by obtain ⟨v,h1,h2⟩:=sr.loc i s e;exact ⟨v,h1,h2.ex sr.cr x⟩⟩
end
theorem RepSs.length {K:W.Frag}{ι:2e2}{H:Hp}:∀{ss:List SV} {vs:List V},RepSs K ι H ss vs->ss.length=vs.length
 | [],vs,h=>by rw[show vs=[] from h];rfl
 | s::ss,vs,h=>by obtain ⟨v,r,rfl,_,t⟩:=h;rw[YC,YC,RepSs.length t]
def Done (K:W.Frag)(ι:2e2)(H:Hp)(D:Ends)(C':Cs):PF->Prop
 | .nx ρ=>∀ι2 σ' H',Ex ι ι2 H H'->SR K 5e8 H' ρ σ' C'->D.nx σ' H'
 | .rt r=>∀ι2 v H',Ex ι ι2 H H'->CR K 5e8 H' C'->RepS K 5e8 H' r v->D.rt v H'
 | .bk ρ=>∀ι2 σ' H',Ex ι ι2 H H'->SR K 5e8 H' ρ σ' C'->D.bk σ' H'
 | .ct ρ=>∀ι2 σ' H',Ex ι ι2 H H'->SR K 5e8 H' ρ σ' C'->D.ct σ' H'
 | .rf ps=>∀ι2 p vs H',Ex ι ι2 H H'->CR K 5e8 H' C'->H' p=none->Reps K 5e8 H' ps vs->D.rt (.ref p) (upd H' p (.lst vs))
 | .rq qs=>∀ι2 p vs H',Ex ι ι2 H H'->CR K 5e8 H' C'->H' p=none->RepSs K 5e8 H' qs vs->D.rt (.ref p) (upd H' p (.tup vs))
def tMS (K:W.Frag)(f:7e5):TS:=fun D σ H=>∃ι ρ C fl C',SR K ι H ρ σ C/\f ρ C=some (fl,C')/\Done K ι H D C' fl
def SM (X:Cx)(st:Stmt)(f:7e5):Prop:=PS X st (tMS X.K f)
def BM (X:Cx)(sts:List Stmt)(f:7e5):Prop:=PSs X sts (tMS X.K f)
section
variable {K:W.Frag}{ι ι2:2e2}{H H':Hp}{C C' C1:Cs}{ρ:PSt}{σ:St}{D:Ends}{fl:PF}
theorem Done.tr (c:CR K 5e8 H' C1)(x:Ex ι ι2 H H')(d:Done K ι H D C' fl):Done K 5e8 H' D C' fl:=by
 cases fl with
 | nx ρ=>intro ι3 σ' H2 y sr;rw[Yh] at sr;exact d _ σ' H2 (x.trans c y) sr
 | rt r=>intro ι3 v H2 y cr rr;rw[Yh] at cr rr;exact d _ v H2 (x.trans c y) cr rr
 | bk ρ=>intro ι3 σ' H2 y sr;rw[Yh] at sr;exact d _ σ' H2 (x.trans c y) sr
 | ct ρ=>intro ι3 σ' H2 y sr;rw[Yh] at sr;exact d _ σ' H2 (x.trans c y) sr
 | rf ps=>intro ι3 p vs H2 y cr hp rs;rw[Yh] at cr rs;exact d _ p vs H2 (x.trans c y) cr hp rs
 | rq ps=>intro ι3 p vs H2 y cr hp rs;rw[Yh] at cr rs;exact d _ p vs H2 (x.trans c y) cr hp rs
theorem Done.fr (c:CR K ι H' C1)(f:Fr ι H H')(d:Done K ι H D C' fl):Done K ι H' D C' fl:=by
 have:=Done.tr (ι2:=[]) (by rw[YL];exact c) (Ex.fr f) d
 rw[YL] at this;exact this
theorem Done.nx0 (sr:SR K ι H ρ σ C')(d:Done K ι H D C' (.nx ρ)):D.nx σ H:=d [] σ H (Ex.fr .refl) (by rw[YL];exact sr)
end
section
variable {X:Cx}{a b e c tg:Expr}{es:3e2}{st:Stmt}{rest sts sts':List Stmt}{f g:7e5}{pos p pos':Pos}{x:Str}
def mSkip:PSt->M PF:=fun ρ=>ret (.nx ρ)
def mSeq (f g:7e5):PSt->M PF:=fun ρ=>bnd (f ρ) fun fl=>match fl with
 | .nx ρ'=>g ρ'
 | fl=>ret fl
def mIfS (t:3e8)(f g:7e5):PSt->M PF:=fun ρ=>bnd (t ρ) fun b=>if b then f ρ else g ρ
def mRet (f:2e4):PSt->M PF:=fun ρ=>bnd (f ρ) fun r=>ret (.rt r)
def mRetF (f:6e5):PSt->M PF:=fun ρ=>bnd (f ρ) fun r=>ret (.rf r)
def mDrop (f:2e4):PSt->M PF:=fun ρ=>bnd (f ρ) fun _=>ret (.nx ρ)
def mSet (i:Nat)(f:2e4):PSt->M PF:=fun ρ=>bnd (f ρ) fun r=>ret (.nx (ρ.set i (some r)))
def mNew (i:Nat)(f:6e5):PSt->M PF:=fun ρ=>bnd (f ρ) fun ps=>fun C=>some (.nx (ρ.set i (some (.c C.length))),C++[.lst ps])
theorem new_cell {K:W.Frag}{ι:2e2}{H H':Hp}{ρ:PSt}{σ:St}{C C1:Cs}{D:Ends}{i:Nat}{ps:List PV}{q:Addr}{vs:List V}(sr:SR K ι H ρ σ C)(d:Done K ι H D (C1++[.lst ps]) (.nx (ρ.set i (some (.c C1.length)))))
  (f1:Fr ι H H') (c1:CR K ι H' C1) (hq:H' q=none) (rs:Reps K ι H' ps vs):D.nx (σ.set i (some (.ref q))) (upd H' q (.lst vs)):=by
 have c2:CR K (ι++[q]) (upd H' q (.lst vs)) (C1++[.lst ps]):=c1.add hq ⟨vs,Zam,RepsNew c1 hq ps vs rs⟩
 have x:Ex ι [q] H (upd H' q (.lst vs)):=⟨f1.trans (Fr.new hq),fun b hb=>by
  have:b=q:=by simpa using hb
  subst this
  cases e:H b with
  | none=>rfl
  | some o=>
   by_cases n:b∈ι
   ·rcases c1.mut n with ⟨vs,z⟩ | ⟨vs,z⟩ | ⟨vs,z⟩
    ·rw[hq] at z;cases z
    ·rw[hq] at z;cases z
    ·rw[hq] at z;cases z
   ·have:=f1 b o n e;rw[hq] at this;cases this⟩
 refine d [q] _ _ x ((sr.ex x c2).set i ⟨q,rfl,?_⟩)
 rw[←c1.len];simp
def plain:List SV->Option 2e9
 | []=>some []
 | .v p::r=>(plain r).map (p::·)
 | .c _::_=>none
theorem Za9 {K:W.Frag}{ι:2e2}{H:Hp}:∀{xs:List SV} {ps:List PV} {vs:List V},plain xs=some ps->RepSs K ι H xs vs->Reps K ι H ps vs/\vs.length=xs.length
 | [],ps,vs,e,r=>by cases e;rw[show vs=[] from r];exact ⟨.nil,rfl⟩
 | .v p::xs,ps,vs,e,r=>by
  obtain ⟨v,w,rfl,h1,h2⟩:=r
  unfold plain at e
  cases h:plain xs with
  | none=>rw[h] at e;cases e
  | some qs=>
   rw[h] at e;cases e
   exact ⟨.cons h1 (Za9 h h2).1,by rw[YC,YC,(Za9 h h2).2]⟩
 | .c _::_,ps,vs,e,r=>by cases e
theorem k1000 {n:Nat}(h:n<=1000):n<=sizeLine:=YQ h (by rw[YN];decide)
def mTup (fs:2e1):PSt->M SV:=fun ρ=>bnd (fs ρ) fun xs=>opM fun _=>if xs.length<=1000 then (plain xs).map fun ps=>.v (.tup ps) else none
def mLst (fs:2e1):PSt->M 2e9:=fun ρ=>bnd (fs ρ) fun xs=>opM fun _=>if xs.length<=1000 then plain xs else none
theorem fm_lst {fs:2e1}(h:AM X es fs):FM X (.List es pos) (mLst fs):=PE.imp (pe_lst h) fun σ H Q h_=>by
 obtain ⟨ι,ρ,C,z,C',sr,e,q⟩:=h_
 obtain ⟨xs,C1,e1,e⟩:=Zae e
 obtain ⟨e2,rfl⟩:=Zav e
 refine ⟨ι,ρ,C,xs,_,sr,e1,fun vs H1 f1 c1 r1=>?_⟩
 by_cases hl:xs.length<=1000
 ·rw[if_pos hl] at e2
  obtain ⟨rs,hv⟩:=Za9 e2 r1
  exact ⟨by rw[hv];exact k1000 hl,fun q' hq=>q q' vs H1 f1 c1 hq rs⟩
 ·rw[if_neg hl] at e2;cases e2
def mVal (f:6e5):PSt->M SV:=fun ρ=>bnd (f ρ) fun ps=>ret (.v 6e8)
theorem Zci {K:W.Frag}{ι:2e2}{H:Hp}{C:Cs}{ps:List PV}{q:Addr}{vs:List V}(c1:7e2)(hq:H q=none)(rs:Reps K ι H ps vs):Rep K ι (upd H q (.lst vs)) 6e8 (.ref q):=by
 unfold Rep
 refine ⟨q,vs,rfl,.inl ⟨fun z=>?_,.inl Zam⟩,Reps.stay (fun b o e=>by rw[Zag (Zak e hq)];exact e) ps vs rs⟩
 rcases c1.mut z with ⟨_,e⟩ | ⟨_,e⟩ | ⟨_,e⟩
 ·rw[hq] at e;cases e
 ·rw[hq] at e;cases e
 ·rw[hq] at e;cases e
def tMG (K:W.Frag)(g:2e8):TG:=fun v σ H Q=>∃ι ρ C p ρ',SR K ι H ρ σ C/\Rep K ι H p v/\g p ρ=some ρ'/\∀σ',SR K ι H ρ' σ' C->Q σ' H
def tMGs (K:W.Frag)(g:List PV->PSt->Option PSt):TGs:=fun v σ H Q=>∃ι ρ C p ρ',SR K ι H ρ σ C/\Reps K ι H p v/\g p ρ=some ρ'/\∀σ',SR K ι H ρ' σ' C->Q σ' H
def GM (X:Cx)(tg:Expr)(g:2e8):Prop:=PG X tg (tMG X.K g)
def GMs (X:Cx)(ts:3e2)(g:List PV->PSt->Option PSt):Prop:=PGs X ts (tMGs X.K g)
theorem PG.imp {t t':TG}(h:PG X tg t)(k:∀v σ H Q,t' v σ H Q->t v σ H Q):PG X tg t':=fun pins s σ H v u Q I r q=>h pins s σ H v u Q I r (k v σ H Q q)
theorem PGs.imp {t t':TGs}(h:PGs X es t)(k:∀v σ H Q,t' v σ H Q->t v σ H Q):PGs X es t':=fun pins s σ H v u Q I r q=>h pins s σ H v u Q I r (k v σ H Q q)
def hName (i:Nat):PV->PSt->Option PSt:=fun p ρ=>some (ρ.set i (some (.v p)))
def hNil:List PV->PSt->Option PSt
 | [],ρ=>some ρ
 | _::_,_=>none
def hCons (g:2e8)(gs:List PV->PSt->Option PSt):List PV->PSt->Option PSt
 | [],_=>none
 | p::ps,ρ=>(g p ρ).bind fun ρ'=>gs ps ρ'
def hTup (gs:List PV->PSt->Option PSt)(n:Nat):PV->PSt->Option PSt
 | .tup ps,ρ=>if ps.length=n then gs ps ρ else none
 | _,_=>none
def mAsg (f:2e4)(g:2e8):PSt->M PF:=fun ρ=>bnd (f ρ) fun r=>match r with
 | .v p=>fun C=>(g p ρ).map fun ρ'=>(.nx ρ',C)
 | .c _=>fun _=>none
end
structure Iter (K:W.Frag)(ι:List Addr)(H1:Hp)(xs:List PV)(J:It):Prop where
 go:∀ι2 H2 C2,Ex ι ι2 H1 H2->CR K 5e8 H2 C2->∀i,i < xs.length->J.go i H2
 yld:∀ι2 H2 C2,Ex ι ι2 H1 H2->CR K 5e8 H2 C2->∀i v H3,i < xs.length->J.yld i H2 v H3->(∀b o,H2 b=some o->H3 b=some o)/\∃p,xs[i]? = some p/\Rep K 5e8 H3 p v
 stop:∀ι2 H2 C2,Ex ι ι2 H1 H2->CR K 5e8 H2 C2->J.stop xs.length H2
def tMI (K:W.Frag)(f:6e5):TI:=fun σ H R=>∃ι ρ C xs C',SR K ι H ρ σ C/\f ρ C=some (xs,C')/\∀J H1,Fr ι H H1->CR K ι H1 C'->Iter K ι H1 xs J->R J H1
def IM (X:Cx)(tg iter:Expr)(f:6e5):Prop:=PI X tg iter (tMI X.K f)
section
variable {X:Cx}{e tg iter elt:Expr}{es:3e2}{body:List Stmt}{f:7e5}{pos p:Pos}{x:Str}
def loop (g:2e8)(f:7e5):List PV->PSt->M PF
 | [],ρ=>ret (.nx ρ)
 | x::xs,ρ=>match g x ρ with
  | none=>fun _=>none
  | some ρ1=>bnd (f ρ1) fun fl=>match fl with
   | .nx ρ2=>loop g f xs ρ2
   | .ct ρ2=>loop g f xs ρ2
   | .bk ρ2=>ret (.nx ρ2)
   | .rt r=>ret (.rt r)
   | .rf ps=>ret (.rf ps)
   | .rq ps=>ret (.rq ps)
def mFor (it:6e5)(g:2e8)(f:7e5):PSt->M PF:=fun ρ=>bnd (it ρ) fun xs=>loop g f xs ρ
def stIn' (vs:4e0)(fr:6e3)(ρ:PSt):PSt:=vs.map (fun _=>none)++fr.map fun i=>(ρ[i]?).join
def compL (g:2e8)(tt:3e8)(te:2e4):List PV->PSt->List PV->M 2e9
 | [],_,ys=>ret ys
 | x::xs,ρ,ys=>match g x ρ with
  | none=>fun _=>none
  | some ρ1=>bnd (tt ρ1) fun b=>if b then bnd (te ρ1) fun y=>match y with
    | .v p=>compL g tt te xs ρ1 (ys++[p])
    | .c _=>fun _=>none
   else compL g tt te xs ρ1 ys
def mComp (it:6e5)(vs:4e0)(fr:6e3)(g:2e8)(tt:3e8)(te:2e4):PSt->M 2e9:=fun ρ=>bnd (it ρ) fun xs=>if xs.length<=100000 then compL g tt te xs (stIn' vs fr ρ) [] else fun _=>none
theorem SR.block {K:W.Frag}{ι:2e2}{H:Hp}{ρ:PSt}{σ:St}{C:Cs}(sr:SR K ι H ρ σ C)(vs:4e0)(fr:6e3):SR K ι H (stIn' vs fr ρ) (stIn vs fr σ) C:=by
 refine ⟨sr.cr,by simp[stIn',stIn],fun i s e=>?_⟩
 unfold stIn' at e
 unfold stIn
 rcases YS i vs.length with h | h
 ·rw[YE 7e3] at e
  simp at e
 ·rw[YZ 7e3] at e
  rw[YZ 7e3]
  simp only[Yf,Yx] at e ⊢
  cases hj:fr[i - vs.length]? with
  | none=>rw[hj] at e;cases e
  | some j=>
   rw[hj] at e
   have e':(ρ[j]?).join=some s:=by simpa using e
   have e2:ρ[j]? = some (some s):=by
    cases hr:ρ[j]? with
    | none=>rw[hr] at e';cases e'
    | some o=>rw[hr] at e';simp at e';rw[e']
   obtain ⟨v,h1,h2⟩:=sr.loc j s e2
   refine ⟨v,?_,h2⟩
   simp[h1]
theorem k100000 {n:Nat}(h:n<=100000):n<=sizeLine:=YQ h (by rw[YN];decide)
theorem Zdk {K:W.Frag}{it:6e5}{vs:4e0}{fr:6e3}{g:2e8}{tt:3e8}{te:2e4}{σ:St}{H:Hp}{Q:VK}{ι:2e2}{ρ:PSt}{C C':Cs}{res:List PV}(sr:SR K ι H ρ σ C)
  (e:mComp it vs fr g tt te ρ C=some (res,C')) (q:∀p vs H',Fr ι H H'->CR K ι H' C'->H' p=none->Reps K ι H' res vs->Q (.ref p) (upd H' p (.lst vs))):tComp (tMI K it) vs fr (tMG K g) (tMB K tt) (tM K te) σ H Q:=by
 obtain ⟨xs,C1,e1,e⟩:=Zae e
 refine ⟨ι,ρ,C,xs,C1,sr,e1,fun J H1 f1 c1 it1=>?_⟩
 by_cases hz:xs.length<=100000
 case neg=>rw[if_neg hz] at e;cases e
 rw[if_pos hz] at e
 have sr1:=(sr.step f1 c1).block vs fr
 have x0:∀{H2:Hp},Fr ι H1 H2->Ex ι [] H1 H2:=fun f=>Ex.fr f
 have c0:∀{H2:Hp} {C2:Cs},CR K ι H2 C2->CR K (ι++[]) H2 C2:=fun c=>by rw[YL];exact c
 refine ⟨fun i m σ2 ys H2=>∃ρ2 C2 ps,m=xs.length - i/\i<=xs.length/\Fr ι H1 H2/\SR K ι H2 ρ2 σ2 C2/\Reps K ι H2 ps ys/\ps.length<=i/\compL g tt te (xs.drop i) ρ2 ps C2=some (res,C'),⟨xs.length,_,C1,[],rfl,Y4 _,.refl,sr1,.nil,Yi _,e⟩,?_⟩
 rintro i m σ2 ys H2 ⟨ρ2,C2,ps,rfl,hi2,f2,sr2,rs2,hps,e2⟩
 have hys:ys.length<=sizeLine:=by rw[←rs2.length];exact k100000 (YQ (YQ hps hi2) hz)
 rcases YS i xs.length with hlt | hge
 ·right
  refine ⟨it1.go [] H2 C2 (x0 f2) (c0 sr2.cr) i hlt,hys,fun σ' ys' H'=>∃ρ2 C2 ps,Fr ι H1 H'/\SR K ι H' ρ2 σ' C2/\Reps K ι H' ps ys'/\ps.length<=i + 1/\compL g tt te (xs.drop (i + 1)) ρ2 ps C2=some (res,C'),?_,?_⟩
  ·rintro σ' ys' H' ⟨ρ3,C3,ps3,f3,sr3,rs3,h3,e3⟩
   exact ⟨xs.length - (i + 1),by lia,ρ3,C3,ps3,rfl,hlt,f3,sr3,rs3,h3,e3⟩
  ·intro v H3 y
   obtain ⟨sm,qv,hq,rq⟩:=it1.yld [] H2 C2 (x0 f2) (c0 sr2.cr) i v H3 hlt y
   rw[YL] at rq
   have hd:xs.drop i=qv::xs.drop (i + 1):=by
    rw[Xr hlt]
    rw[Yd hlt] at hq
    rw[YI hq]
   rw[hd] at e2
   unfold compL at e2
   cases hg1:g qv ρ2 with
   | none=>rw[hg1] at e2;cases e2
   | some ρ3=>
    rw[hg1] at e2
    obtain ⟨b,C3,e3,e4⟩:=Zae e2
    have fr3:Fr ι H2 H3:=fun b o _ z=>sm b o z
    have cr3:CR K ι H3 C2:=sr2.cr.same sm
    refine ⟨ι,ρ2,C2,qv,ρ3,sr2.step fr3 cr3,rq,hg1,fun σ4 sr4=>⟨ι,ρ3,C2,b,C3,sr4,e3,fun H5 f5 c5=>?_⟩⟩
    have f15:=f2.trans (fr3.trans f5)
    have rs5:Reps K ι H5 ps ys:=Reps.mono cr3 f5 _ _ (Reps.mono sr2.cr fr3 _ _ rs2)
    cases b with
    | true=>
     rw[if_pos rfl] at e4
     dsimp only
     rw[if_pos rfl]
     obtain ⟨y1,C6,e6,e7⟩:=Zae e4
     refine ⟨ι,ρ3,C3,y1,C6,sr4.step f5 c5,e6,fun v7 H7 f7 c7 r7=>?_⟩
     cases y1 with
     | c k=>cases e7
     | v p7=>exact ⟨ρ3,C6,ps++[p7],f15.trans f7,(sr4.step f5 c5).step f7 c7,(Reps.mono c5 f7 _ _ rs5).append (.cons r7 .nil),by simp;exact hps,e7⟩
    | false=>
     rw[if_neg YD] at e4
     dsimp only
     rw[if_neg YD]
     exact ⟨ρ3,C3,ps,f15,sr4.step f5 c5,rs5,Nat.le_succ_of_le hps,e4⟩
 ·left
  have hi3:i=xs.length:=by lia
  subst hi3
  rw[WR] at e2
  cases e2
  exact ⟨it1.stop [] H2 _ (x0 f2) (c0 sr2.cr),hys,fun D hD=>q D ys H2 (f1.trans f2) sr2.cr hD rs2⟩
section
variable {ifs:3e2}{scope:Scope}{vs fs:4e0}{fr:6e3}{it:6e5}{g:2e8}{tt:3e8}{te:2e4}
def TsM (X:Cx)(ifs:3e2)(t:3e8):Prop:=PTs X ifs (tMB X.K t)
def tOk:PSt->M Bool:=fun _=>ret true
end
end
theorem CR.cut {K:W.Frag}{ι ι2:2e2}{H:Hp}{C:Cs}{n:Nat}(c:CR K 5e8 H C)(hn:ι.length=n):CR K ι H (C.take n):=by
 have hlen:(ι++ι2).length=C.length:=c.len
 rw[Yu] at hlen
 have hs:∀b o,H b=some o->b∉ι++ι2->b∉ι:=fun b o _ z q=>z (YY _ q)
 refine ⟨by rw[WP];lia,(Xm.mp c.nd).1,fun k a d h1 h2=>?_⟩
 have hk:k < ι.length:=by
  rcases YS k ι.length with q | q
  ·exact q
  ·rw[YF.mpr q] at h1;cases h1
 rw[Vx 1e2] at h2
 have ok:=c.ok k a d (by rw[YE hk];exact h1) h2
 cases d with
 | lst ps=>obtain ⟨vs,e,r⟩:=ok;exact ⟨vs,e,Reps.cells hs _ _ r⟩
 | dct ks ps=>obtain ⟨qs,vs,e,hl,hk,r⟩:=ok;exact ⟨qs,vs,e,hl,hk,Reps.cells hs _ _ r⟩
 | dtt ks ps=>obtain ⟨vs,e,hl,r⟩:=ok;exact ⟨vs,e,hl,Reps.cells hs _ _ r⟩
 | _=>exact ok.elim
def fin (n:Nat)(C':Cs):SV->Option (SV×Cs)
 | .v p=>some (.v p,C'.take n)
 | .c k=>if k < n then some (.c k,C'.take n) else (C'[k]?).map fun c=>(.v c,C'.take n)
def finQ (n:Nat)(C':Cs):List SV->Option 2e9
 | []=>some []
 | .v p::r=>(finQ n C' r).map (p::·)
 | .c k::r=>if k < n then none else (C'[k]?).bind fun c=>(finQ n C' r).map (c::·)
def mDef (n pad:Nat)(body:7e5):List SV->M SV:=fun ss C=>if ss.length=n then (match body (ss.map some++Vi pad none) C with
 | some (.rt r,C')=>fin C.length C' r
 | some (.nx _,C')=>some (.v .non,C'.take C.length)
 | some (.rf ps,C')=>some (.v 6e8,C'.take C.length)
 | some (.rq qs,C')=>(finQ C.length C' qs).map fun ps=>(.v (.tup ps),C'.take C.length)
 | _=>none) else none
def mDefF (n pad:Nat)(body:7e5):List SV->M 2e9:=fun ss C=>if ss.length=n then (match body (ss.map some++Vi pad none) C with
 | some (.rf ps,C')=>some (ps,C'.take C.length)
 | _=>none) else none
def liftSpF (K:W.Frag)(F:List SV->M 2e9):Sp:=fun vs H Q _=>∃ι ss C ps C',CR K ι H C/\RepSs K ι H ss vs/\F ss C=some (ps,C')/\∀p vs H',Fr ι H H'->CR K ι H' C'->H' p=none->Reps K ι H' ps vs->Q (.ref p) (upd H' p (.lst vs))
def mFnF (F:List SV->M 2e9)(fs:2e1):PSt->M 2e9:=fun ρ=>bnd (fs ρ) F
theorem fm_call {X:Cx}{e:Expr}{es:3e2}{p pos:Pos}{x:Str}{k:Nat}{f:Addr}{fd:Wh}{ps:4e0}{F:List SV->M 2e9}{fs:2e1}(G:FnOk X.prog X.w X.K X.mg X.base CX0 k f fd ps (liftSpF X.K F))(hr:Room k X.A)(hg:Gl X x)(hm:X.mg x=some (.ref f))(hk:U3 X.K (.ref f)=true)(hb:L2.Binds X.K fd ps [])
  (ha:AM X 4e6 fs) (hdb:3e4:=by decide) (he:1e5:=by rfl) (hpl:2e7:=by rfl):
  FM X 8e9 (mFnF F fs):=PE.imp (pe_call G hr hg hm hk hb .nil pass0 ha hdb he hpl) fun σ H Q h_=>by
 obtain ⟨ι,ρ,C,z,C',sr,e,q⟩:=h_
 obtain ⟨xs,C1,e1,g1⟩:=Zae e
 refine ⟨ι,ρ,C,xs,C1,sr,e1,fun vs H1 f1 c1 r1=>?_⟩
 show liftSpF X.K F (vs++[]) H1 Q E0
 rw[YL]
 exact ⟨ι,xs,C1,z,C',c1,r1,g1,fun q' ws H2 f2 c2 h2 r2=>q q' ws H2 (f1.trans f2) c2 h2 r2⟩
theorem fin_ok {K:W.Frag}{ι ι2:2e2}{H:Hp}{C' C2:Cs}{n:Nat}{r r':SV}{v:V}(c:CR K 5e8 H C')(hn:ι.length=n)(rr:RepS K 5e8 H r v)(e:fin n C' r=some (r',C2)):CR K ι H C2/\RepS K ι H r' v:=by
 have hs:∀b o,H b=some o->b∉ι++ι2->b∉ι:=fun b o _ z q=>z (YY _ q)
 cases r with
 | v p=>cases e;exact ⟨c.cut hn,Rep.cells hs p v rr⟩
 | c k=>
  obtain ⟨a,rfl,hk⟩:=rr
  replace e:(if k < n then some (SV.c k,C'.take n) else (C'[k]?).map fun c=>(SV.v c,C'.take n))=some (r',C2):=e
  by_cases h:k < n
  ·rw[if_pos h] at e
   cases e
   refine ⟨c.cut hn,a,rfl,?_⟩
   rw[YE 1e2] at hk;exact hk
  ·rw[if_neg h] at e
   cases hd:C'[k]? with
   | none=>rw[hd] at e;cases e
   | some d=>
    rw[hd] at e
    cases e
    refine ⟨c.cut hn,?_⟩
    have ok:=c.ok k a d hk hd
    have hna:a∉ι:=fun z=>by
     obtain ⟨j,hj,ej⟩:=WL z
     have hjk:(ι++ι2)[j]? = some a:=by rw[YE hj,Yd hj,ej]
     have hkl:k < (ι++ι2).length:=by
      rcases YS k (ι++ι2).length with q | q
      ·exact q
      ·rw[YF.mpr q] at hk;cases hk
     have hjl:j < (ι++ι2).length:=by rw[Yu];lia
     have e1:=(Y2.mp hjk).2
     have e2:=(Y2.mp hk).2
     have:=(Vp c.nd).mp (e1.trans e2.symm)
     lia
    show Rep K ι H d (.ref a)
    cases d with
    | lst ps=>obtain ⟨vs,e,r⟩:=ok;unfold Rep;exact ⟨a,vs,rfl,.inl ⟨hna,.inl e⟩,Reps.cells hs _ _ r⟩
    | dct ks ps=>obtain ⟨qs,vs,e,hl,hk,r⟩:=ok;unfold Rep;exact ⟨a,qs,vs,rfl,hna,e,hl,hk,Reps.cells hs _ _ r⟩
    | dtt ks ps=>obtain ⟨vs,e,hl,r⟩:=ok;unfold Rep;exact ⟨a,vs,rfl,hna,.inl e,hl,Reps.cells hs _ _ r⟩
    | _=>exact ok.elim
theorem finQ_ok {K:W.Frag}{ι ι2:2e2}{H:Hp}{C':Cs}{n:Nat}(c:CR K 5e8 H C')(hn:ι.length=n):∀{qs:List SV} {ps:List PV} {vs:List V},RepSs K 5e8 H qs vs->finQ n C' qs=some ps->Reps K ι H ps vs
 | [],ps,vs,r,e=>by cases e;rw[show vs=[] from r];exact .nil
 | .v p::qs,ps,vs,r,e=>by
  obtain ⟨v,w,rfl,h1,h2⟩:=r
  unfold finQ at e
  cases hq:finQ n C' qs with
  | none=>rw[hq] at e;cases e
  | some z=>
   rw[hq] at e;cases e
   exact .cons (fin_ok (r:=.v p) (r':=.v p) c hn h1 rfl).2 (finQ_ok c hn h2 hq)
 | .c k::qs,ps,vs,r,e=>by
  obtain ⟨v,w,rfl,h1,h2⟩:=r
  unfold finQ at e
  by_cases hk:k < n
  ·rw[if_pos hk] at e;cases e
  ·rw[if_neg hk] at e
   cases hc:C'[k]? with
   | none=>rw[hc] at e;cases e
   | some d=>
    cases hq:finQ n C' qs with
    | none=>rw[hc,hq] at e;cases e
    | some z=>
     rw[hc,hq] at e;cases e
     exact .cons (fin_ok (r:=.c k) (r':=.v d) c hn h1 (show (if k < n then some (SV.c k,C'.take n) else (C'[k]?).map fun c=>(SV.v c,C'.take n))=some (.v d,C'.take n) by rw[if_neg hk,hc];rfl)).2 (finQ_ok c hn h2 hq)
theorem RepSs.get {K:W.Frag}{ι:2e2}{H:Hp}:∀{ss:List SV} {vs:List V} {i:Nat} {s:SV},RepSs K ι H ss vs->ss[i]? = some s->∃v,vs[i]? = some v/\RepS K ι H s v
 | [],_,_,_,h,e=>by simp at e
 | q::ss,vs,0,s,h,e=>by
  obtain ⟨v,r,rfl,h1,h2⟩:=h
  simp at e;subst e;exact ⟨v,rfl,h1⟩
 | q::ss,vs,i + 1,s,h,e=>by
  obtain ⟨v,r,rfl,h1,h2⟩:=h
  obtain ⟨w,e1,r1⟩:=RepSs.get (i:=i) h2 (by simpa using e)
  exact ⟨w,by simpa using e1,r1⟩
theorem sr_start {K:W.Frag}{ι:2e2}{H:Hp}{C:Cs}{ss:List SV}{vs:List V}{N:4e0}(cr:7e2)(rs:RepSs K ι H ss vs):SR K ι H (ss.map some++Vi (N.length - ss.length) none) (L2.start N vs) C:=by
 have hl:=RepSs.length rs
 refine ⟨cr,by unfold L2.start;simp[hl],fun i s e=>?_⟩
 unfold L2.start
 rcases YS i ss.length with h | h
 ·rw[YE 7e3,Yx] at e
  rw[YE (by rw[Yf,←hl];exact h),Yx]
  cases hs:ss[i]? with
  | none=>rw[hs] at e;cases e
  | some s'=>
   rw[hs] at e
   have:s'=s:=by simpa using e
   subst this
   obtain ⟨v,h1,h2⟩:=RepSs.get rs hs
   exact ⟨v,by rw[h1];rfl,h2⟩
 ·rw[YZ 7e3,List.getElem?_replicate] at e
  split at e<;>cases e
section
variable {P:Yy}{w:World}{K:W.Frag}{mg:2e6}{base:Heap}
theorem fn_mk {x qual:Str}{st:Stmt}{f:Addr}{fd:Wh}{N ps:4e0}{k:Nat}{body:7e5}(F:Fun K x qual st f fd)(S:FnScope N ps (defScope st))
  (hbody:∀(cdv:Value) (A:Around) (outer:List Env) (s:Shared) (H:Hp) (E:XK),Room k (A.deeper (envOfC qual (defScope st) s.heap.objs.size f cdv))->
   BM (cxOf CX0 P w K mg base N qual (defScope st) f cdv A outer s H E).nox (defBody st) body):FnOk P w K mg base CX0 (k + 1) f fd ps (liftSp K (mDef ps.length (N.length - ps.length) body)):=by
 refine F.ok S (fun vs H Q E h_=>?_) (fun cdv A outer s H vs Q E hr h_=>?_)<;>obtain ⟨ι,ss,C,r,C',cr,rs,e,q⟩:=h_
 ·unfold mDef at e
  by_cases h:ss.length=ps.length
  ·rw[←RepSs.length rs];exact h
  ·rw[if_neg h] at e;cases e
 ·refine ⟨_,hbody cdv A outer s H E hr,?_⟩
  unfold mDef at e
  by_cases h:ss.length=ps.length
  case neg=>rw[if_neg h] at e;cases e
  rw[if_pos h] at e
  have sr:=sr_start (N:=N) cr rs
  rw[h] at sr
  cases hb:body (ss.map some++Vi (N.length - ps.length) none) C with
  | none=>rw[hb] at e;cases e
  | some z=>
   obtain ⟨fl,C2⟩:=z
   rw[hb] at e
   refine ⟨ι,_,C,fl,C2,sr,hb,?_⟩
   cases fl with
   | rt r2=>
    intro ι2 v H' x c r3
    obtain ⟨c4,r4⟩:=fin_ok c cr.len r3 e
    exact q v H' x.1 c4 r4
   | nx ρ2=>
    intro ι2 σ' H' x sr'
    cases e
    refine q .non H' x.1 (sr'.cr.cut cr.len) ?_
    show Rep K ι H' .non .non
    unfold Rep;rfl
   | rf ps'=>
    intro ι2 p' vs' H' x c hp rs'
    cases e
    have hs:∀b o,H' b=some o->b∉ι++ι2->b∉ι:=fun b o _ z q=>z (YY _ q)
    have c4:=c.cut cr.len
    exact q _ _ (x.1.trans (Fr.new hp)) (c4.new hp) (show Rep _ _ _ _ _ from Zci c4 hp (Reps.cells hs _ _ rs'))
   | rq qs'=>
    intro ι2 p' vs' H' x c hp rs'
    replace e:(finQ C.length C2 qs').map (fun ps=>(SV.v (.tup ps),C2.take C.length))=some (r,C'):=e
    cases hq:finQ C.length C2 qs' with
    | none=>rw[hq] at e;cases e
    | some ps'=>
     rw[hq] at e;cases e
     have c4:=c.cut cr.len
     refine q _ _ (x.1.trans (Fr.new hp)) (c4.new hp) ?_
     show Rep _ _ _ (.tup ps') _
     unfold Rep
     exact ⟨p',vs',rfl,Zam,Reps.stay (fun b o e=>by rw[Zag (Zak e hp)];exact e) _ _ (finQ_ok c cr.len rs' hq)⟩
   | bk _=>cases e
   | ct _=>cases e
theorem fn_mkF {x qual:Str}{st:Stmt}{f:Addr}{fd:Wh}{N ps:4e0}{k:Nat}{body:7e5}(F:Fun K x qual st f fd)(S:FnScope N ps (defScope st))
  (hbody:∀(cdv:Value) (A:Around) (outer:List Env) (s:Shared) (H:Hp) (E:XK),Room k (A.deeper (envOfC qual (defScope st) s.heap.objs.size f cdv))->
   BM (cxOf CX0 P w K mg base N qual (defScope st) f cdv A outer s H E).nox (defBody st) body):FnOk P w K mg base CX0 (k + 1) f fd ps (liftSpF K (mDefF ps.length (N.length - ps.length) body)):=by
 refine F.ok S (fun vs H Q E h_=>?_) (fun cdv A outer s H vs Q E hr h_=>?_)<;>obtain ⟨ι,ss,C,r,C',cr,rs,e,q⟩:=h_
 ·unfold mDefF at e
  by_cases h:ss.length=ps.length
  ·rw[←RepSs.length rs];exact h
  ·rw[if_neg h] at e;cases e
 ·refine ⟨_,hbody cdv A outer s H E hr,?_⟩
  unfold mDefF at e
  by_cases h:ss.length=ps.length
  case neg=>rw[if_neg h] at e;cases e
  rw[if_pos h] at e
  have sr:=sr_start (N:=N) cr rs
  rw[h] at sr
  cases hb:body (ss.map some++Vi (N.length - ps.length) none) C with
  | none=>rw[hb] at e;cases e
  | some z=>
   obtain ⟨fl,C2⟩:=z
   rw[hb] at e
   refine ⟨ι,_,C,fl,C2,sr,hb,?_⟩
   cases fl with
   | rf ps'=>
    intro ι2 p' vs' H' x c hp rs'
    cases e
    have hs:∀b o,H' b=some o->b∉ι++ι2->b∉ι:=fun b o _ z q=>z (YY _ q)
    exact q p' vs' H' x.1 (c.cut cr.len) hp (Reps.cells hs _ _ rs')
   | _=>cases e
end
end Pu
namespace Pu
open PySem PySem.Spec L2
open PyProof.Rows hiding St Fr
def g2 (h:PV->PV->Option PV):Cs->SV->SV->Option SV:=fun C x y=>match deref C x,deref C y with
 | some p,some q=>(h p q).map .v
 | _,_=>none
def L2ok (K:W.Frag)(r:R2)(h:PV->PV->Option PV):Prop:=
 ∀(ι:2e2) (H:Hp) (C:Cs) (p q:PV) (vx vy:V) (z:PV) (Q:VK),CR K ι H C->Lies K ι H p vx->Lies K ι H q vy->h p q=some z->(∀v H',Fr ι H H'->CR K ι H' C->Rep K ι H' z v->Q v H')->r vx vy H Q
theorem L2ok.r {K:W.Frag}{r:R2}{h:PV->PV->Option PV}(k:L2ok K r h):R2ok K r (g2 h):=by
 intro ι H C x y vx vy z Q cr rx ry e q
 unfold g2 at e
 cases hx:deref C x with
 | none=>rw[hx] at e;cases e
 | some p=>
  cases hy:deref C y with
  | none=>rw[hx,hy] at e;cases e
  | some p2=>
   rw[hx,hy] at e
   cases hz:h p p2 with
   | none=>simp[hz] at e
   | some z2=>
    simp[hz] at e
    subst e
    exact k ι H C p p2 vx vy z2 Q cr (rx.lies cr hx) (ry.lies cr hy) hz q
theorem OpR.or {X:Cx}{f:Value->Value->Sem Value}{r r':R2}(h:OpR X f r)(h':OpR X f r'):OpR X f (fun x y H Q=>r x y H Q\/r' x y H Q):=by
 intro pins s σ H x y v u Q I rx ry q
 rcases q with q | q
 ·exact h pins s σ H x y v u Q I rx ry q
 ·exact h' pins s σ H x y v u Q I rx ry q
section
variable {K:W.Frag}{ι:2e2}{H:Hp}{C:Cs}{Q:VK}{z:PV}
theorem liesS {v:V}{i:Str}(h:Lies K ι H (.str i) v):v=.str i/\i.length<=sizeLine:=by cases h;exact ⟨rfl,by assumption⟩
theorem liesT {v:V}{ps:List PV}(h:Lies K ι H (.tup ps) v):∃a vs,v=.ref a/\TpR H a vs/\Reps K ι H ps vs:=by cases h;exact ⟨_,_,rfl,by assumption,by assumption⟩
theorem liesL {v:V}{ps:List PV}(h:Lies K ι H 6e8 v):∃a vs,v=.ref a/\SqL K H a vs/\Reps K ι H ps vs:=by cases h;exact ⟨_,_,rfl,by assumption,by assumption⟩
theorem repI {i:Int}:Rep K ι H (.int i) (.int i):=by unfold Rep;rfl
theorem repBl {i:Bool}:Rep K ι H (.bl i) (.bl i):=by unfold Rep;rfl
theorem repN:Rep K ι H .non .non:=by unfold Rep;rfl
theorem repS {i:Str}(h:i.length<=Yr):Rep K ι H (.str i) (.str i):=by unfold Rep;exact ⟨rfl,h⟩
theorem k1000000 {n:Nat}(h:n<=1000000):n<=sizeLine:=YQ h (by rw[YN];decide)
theorem Zc1 {ps:List PV}{q:Addr}{vs:List V}(hq:H q=none)(rs:Reps K ι H ps vs):Rep K ι (upd H q (.tup vs)) (.tup ps) (.ref q):=by
 unfold Rep
 exact ⟨q,vs,rfl,Zam,Reps.stay (fun b o e=>by rw[Zag (Zak e hq)];exact e) ps vs rs⟩
end
def addP:PV->PV->Option PV
 | .int i,.int j=>some (.int (i + j))
 | .str i,.str j=>if i.length + j.length<=1000000 then some (.str (i++j)) else none
 | .lst a,.lst b=>if a.length + b.length<=1000000 then some (.lst (a++b)) else none
 | .tup a,.tup b=>if a.length + b.length<=1000000 then some (.tup (a++b)) else none
 | _,_=>none
def rCatL (K:W.Frag):R2:=fun x y H Q=>∃l b xs zs,x=.ref l/\y=.ref b/\SqL K H l xs/\SqL K H b zs/\xs.length + zs.length<=Yr/\∀p,H p=none->Q (.ref p) (upd H p (.lst (xs++zs)))
section
variable {X:Cx}
theorem op_catL:OpR X (Va .Add) (rCatL X.K):=by
 sleep 3
 obtain ⟨l,b,xs,zs,rfl,rfl,hH,hB,hz,q⟩:=h
 cases rx
 cases ry
 obtain ⟨its,r,pl,_⟩:=I.list hH
 obtain ⟨its2,r2,pl2,_⟩:=I.list hB
 obtain ⟨⟨cls,dd,data,sl⟩,ho,hc,n,hd⟩:=id pl.isList
 obtain ⟨⟨cls2,dd2,data2,sl2⟩,ho2,hc2,n2,hd2⟩:=id pl2.isList
 simp only at hc hd hc2 hd2
 subst hc hd hc2 hd2
 have h1:=r.length
 have h2:=r2.length
 have ea:its.toArray++its2.toArray=(its++its2).toArray:=by simp
 refine Yaf ⟨_,ho,rfl⟩ ⟨_,ho2,rfl⟩ noFill_list_add seq_list_add PySem.F.slot_list_add PySem.F.entry_list_add (PySem.F.args_list_add_2 _ _) (list_addW l b its.toArray its2.toArray n n2 dd dd2 sl sl2 (by simp;lia)) ⟨ho,ho2,?_⟩
 rw[ea]
 exact ⟨.ref _,_,I.lnew (t':=s.toks) (r.append r2) (by rw[Yu];lia),rfl,q _ I.fresh⟩
def rCatT' (K:W.Frag):R2:=fun x y H Q=>∃a b xs ys,x=.ref a/\y=.ref b/\SqT K H a xs/\SqT K H b ys/\xs.length + ys.length<=Yr/\
 (xs=[]->Q (.ref b) H)/\(xs≠[]->ys=[]->Q (.ref a) H)/\(xs≠[]->ys≠[]->∀p,H p=none->Q (.ref p) (upd H p (.tup (xs++ys))))
theorem op_catT':OpR X (Va .Add) (rCatT' X.K):=by
 sleep 3
 obtain ⟨a,b,xs,ys,rfl,rfl,ha,hb,hz,q0,q1,q2⟩:=h
 by_cases hx:xs=[]
 ·cases rx
  cases ry
  obtain ⟨its,r1,p1,_⟩:=I.tuple ha
  obtain ⟨its2,r2,p2,_⟩:=I.tuple hb
  obtain ⟨⟨cls,dd,data,sl⟩,ho,hc,n,hd⟩:=id p1
  obtain ⟨⟨cls2,dd2,data2,sl2⟩,ho2,hc2,n2,hd2⟩:=id p2
  simp only at hc hd hc2 hd2
  subst hc hd hc2 hd2
  exact Yaf ⟨_,ho,rfl⟩ ⟨_,ho2,rfl⟩ U9 seq_tuple_add VV VF (Vy _ _)
   (tuple_addW0 a b its.toArray its2.toArray n n2 dd dd2 sl sl2 (by simp[r1.nil_iff.mpr hx])) ⟨ho,ho2,⟨.ref b,H,I,rfl,q0 hx⟩⟩
 ·exact op_catT pins s σ H _ _ v u Q I rx ry ⟨a,b,xs,ys,rfl,rfl,ha,hb,hx,hz,q1 hx,q2 hx⟩
theorem op_addAll:OpR X (Va .Add) (fun x y H Q=>(rI0 fun i j=>.int (i + j)) x y H Q\/(∃i j,x=.str i/\y=.str j/\i.length + j.length<=Yr/\Q (.str (i++j)) H)\/rCatL X.K x y H Q\/rCatT' X.K x y H Q):=
 OpR.or op_add (OpR.or op_add_str (OpR.or op_catL op_catT'))
theorem str_app_len (i j:Str):(i++j).length=i.length + j.length:=by
 show (i.cps++j.cps).size=_
 rw[Array.size_append];rfl
theorem add_ok:L2ok X.K (fun x y H Q=>(rI0 fun i j=>.int (i + j)) x y H Q\/(∃i j,x=.str i/\y=.str j/\i.length + j.length<=Yr/\Q (.str (i++j)) H)\/rCatL X.K x y H Q\/rCatT' X.K x y H Q) addP:=by
 intro ι H C p q vx vy z Q cr lx ly e k
 unfold addP at e
 split at e
 ·cases e;cases lx;cases ly
  exact .inl ⟨_,_,rfl,rfl,k _ H .refl cr repI⟩
 ·split at e
  ·rename_i hl
   cases e;cases lx;cases ly
   exact .inr (.inl ⟨_,_,rfl,rfl,k1000000 hl,k _ H .refl cr (repS (by rw[str_app_len];exact k1000000 hl))⟩)
  ·cases e
 ·split at e
  ·rename_i hl
   cases e
   obtain ⟨a,vs,rfl,h1,r1⟩:=liesL lx
   obtain ⟨b,ws,rfl,h2,r2⟩:=liesL ly
   exact .inr (.inr (.inl ⟨a,b,vs,ws,rfl,rfl,h1,h2,by rw[←r1.length,←r2.length];exact k1000000 hl,fun p hp=>k _ _ (Fr.new hp) (cr.new hp) (Zci cr hp (r1.append r2))⟩))
  ·cases e
 ·split at e
  ·rename_i hl
   cases e
   rename_i xs ys
   obtain ⟨a,vs,rfl,h1,r1⟩:=liesT lx
   obtain ⟨b,ws,rfl,h2,r2⟩:=liesT ly
   refine .inr (.inr (.inr ⟨a,b,vs,ws,rfl,rfl,h1.sq,h2.sq,by rw[←r1.length,←r2.length];exact k1000000 hl,fun e=>?_,fun _ e=>?_,fun _ _ p hp=>k _ _ (Fr.new hp) (cr.new hp) (Zc1 hp (r1.append r2))⟩))
   ·subst e
    have:=r1.length
    have hx:xs=[]:=Uf this
    subst hx
    exact k _ H .refl cr (by unfold Rep;exact ⟨b,ws,rfl,h2,r2⟩)
   ·subst e
    have:=r2.length
    have hy:ys=[]:=Uf this
    subst hy
    rw[YL] at k
    exact k _ H .refl cr (by unfold Rep;exact ⟨a,vs,rfl,h1,r1⟩)
  ·cases e
 ·cases e
variable {a b e c:Expr}{es:3e2}{fa fb fc:2e4}{pos p:Pos}{x:Str}
def intP (c:Int->Int->Bool)(f:Int->Int->PV):PV->PV->Option PV
 | .int i,.int j=>if c i j then some (f i j) else none
 | _,_=>none
theorem int_ok {C0:Int->Int->Prop}{f:Int->Int->Int}{c:Int->Int->Bool}(h:∀i j,c i j=true->C0 i j):L2ok X.K (rI C0 fun i j=>.int (f i j)) (intP c fun i j=>.int (f i j)):=by
 intro ι H C p q vx vy z Q cr lx ly e k
 unfold intP at e
 split at e
 ·split at e
  ·rename_i hc
   cases e;cases lx;cases ly
   exact ⟨_,_,rfl,rfl,h _ _ hc,k _ H .refl cr repI⟩
  ·cases e
 ·cases e
theorem int_ok0 {f:Int->Int->V}{g:Int->Int->PV}(h:∀i j,∀ι H,Rep X.K ι H (g i j) (f i j)):L2ok X.K (rI0 f) (intP (fun _ _=>true) g):=by
 intro ι H C p q vx vy z Q cr lx ly e k
 unfold intP at e
 split at e
 ·simp only[if_true] at e
  cases e;cases lx;cases ly
  exact ⟨_,_,rfl,rfl,k _ H .refl cr (h _ _ _ _)⟩
 ·cases e
abbrev subP:=intP (fun _ _=>true) fun i j=>.int (i - j)
abbrev mulP:=intP (fun i j=>decide (-(2 ^ 64) < i/\i < 2 ^ 64)||decide (-(2 ^ 64) < j/\j < 2 ^ 64)) fun i j=>.int (i * j)
abbrev modP:=intP (fun _ j=>decide (0 < j)) fun i j=>.int (i % j)
abbrev powP:=intP (fun i j=>decide (0<=j/\j<=1000/\i.natAbs < 2 ^ 64)) fun i j=>.int (i ^ j.toNat)
abbrev ltP:=intP (fun _ _=>true) fun i j=>.bl (decide (i < j))
abbrev gtP:=intP (fun _ _=>true) fun i j=>.bl (decide (j < i))
def negP (C:Cs)(x:SV):Option SV:=match deref C x with
 | some (.int i)=>some (.v (.int (-i)))
 | _=>none
def mNeg (f:2e4):PSt->M SV:=fun ρ=>bnd (f ρ) fun x=>opM fun C=>negP C x
theorem lt_ok:L2ok X.K (rI0 fun i j=>.bl (decide (i < j))) ltP:=int_ok0 fun _ _ _ _=>repBl
theorem gt_ok:L2ok X.K (rI0 fun i j=>.bl (decide (j < i))) gtP:=int_ok0 fun _ _ _ _=>repBl
def scP:PV->PV->Option Bool
 | .non,.non=>some true | .non,.int _=>some false | .int _,.non=>some false | .non,.bl _=>some false | .bl _,.non=>some false | .non,.str _=>some false | .str _,.non=>some false
 | .int i,.int j=>some (decide (i=j)) | .bl i,.bl j=>some (decide (i=j)) | .str i,.str j=>some (decide (i=j))
 | .int _,.str _=>some false | .str _,.int _=>some false | .bl _,.str _=>some false | .str _,.bl _=>some false
 | _,_=>none
def eqP (p q:PV):Option PV:=(scP p q).map .bl
def neP (p q:PV):Option PV:=(scP p q).map fun b=>.bl (!b)
theorem sc_ok {K:W.Frag}{ι:2e2}{H:Hp}{p q:PV}{vx vy:V}{b:Bool}(lx:Lies K ι H p vx)(ly:Lies K ι H q vy)(e:scP p q=some b):scal vx vy=true/\decide (vx=vy)=b:=by
  unfold scP at e
  split at e<;>first
    | (cases e;cases lx;cases ly;exact ⟨rfl,by simp⟩)
    | cases e
theorem eq_ok:L2ok X.K rEq eqP:=by
 intro ι H C p q vx vy z Q cr lx ly e k
 unfold eqP at e
 cases hb:scP p q with
 | none=>rw[hb] at e;cases e
 | some b=>
  rw[hb] at e;cases e
  obtain ⟨h1,h2⟩:=sc_ok lx ly hb
  exact ⟨h1,by rw[h2];exact k _ H .refl cr repBl⟩
def ixP:PV->PV->Option PV
 | .lst xs,.int i=>atI xs i
 | .tup xs,.int i=>atI xs i
 | .str z,.int i=>(atI z.cps.toList i).map fun c=>.str ⟨#[c]⟩
 | _,_=>none
theorem atI_rep {K:W.Frag}{ι:2e2}{H:Hp}{ps:List PV}{vs:List V}{i:Int}{z:PV}(r:Reps K ι H ps vs)(e:atI ps i=some z):∃v,atI vs i=some v/\Rep K ι H z v:=by
 unfold atI at e ⊢
 rw[←r.length]
 cases h:ixN ps.length i with
 | none=>rw[h] at e;cases e
 | some j=>rw[h] at e;exact r.get e
theorem ix_ok:L2ok X.K (rIx X.K) ixP:=by
 intro ι H C p q vx vy z Q cr lx ly e k
 unfold ixP at e
 split at e
 ·obtain ⟨a,vs,rfl,h1,r1⟩:=liesL lx
  cases ly
  obtain ⟨v,e1,r⟩:=atI_rep r1 e
  exact .inl ⟨a,vs,_,v,rfl,rfl,h1,e1,k v H .refl cr r⟩
 ·obtain ⟨a,vs,rfl,h1,r1⟩:=liesT lx
  cases ly
  obtain ⟨v,e1,r⟩:=atI_rep r1 e
  exact .inr (.inl ⟨a,vs,_,v,rfl,rfl,h1.sq,e1,k v H .refl cr r⟩)
 ·obtain ⟨rfl,hz⟩:=liesS lx
  cases ly
  rename_i z' i
  cases hc:atI z'.cps.toList i with
  | none=>rw[hc] at e;cases e
  | some c=>
   rw[hc] at e;cases e
   exact .inr (.inr ⟨_,_,c,rfl,rfl,hz,hc,k _ H .refl cr (repS (by show 1<=Yr;rw[YN];decide))⟩)
 ·cases e
def tyN:PV->Option String
 | .non=>some "NoneType"
 | .bl _=>some "bool"
 | .int _=>some "int"
 | .str _=>some "str"
 | .tup _=>some "tuple"
 | .lst _=>some "list"
 | .dct _ _=>some "dict"
 | _=>none
def isiP (p:PV)(n:String):Option Bool:=match tyN p with
 | none=>none
 | some t=>if n="int" then some (t=="int"||t=="bool") else if n="str"\/n="bool"\/n="tuple"\/n="list"\/n="dict" then some (t==n) else none
end
inductive LiesAll (K:W.Frag)(ι:List Addr)(H:Hp):List PV->List V->Prop
 | nil:LiesAll K ι H [] []
 | cons {p:PV} {v:V} {ps:List PV} {vs:List V} (h:Lies K ι H p v) (t:LiesAll K ι H ps vs):LiesAll K ι H (p::ps) (v::vs)
def derefs (C:Cs):List SV->Option 2e9
 | []=>some []
 | x::xs=>match deref C x,derefs C xs with
  | some p,some ps=>some (p::ps)
  | _,_=>none
theorem Zdh {K:W.Frag}{ι:2e2}{H:Hp}{C:Cs}(cr:7e2):∀{xs:List SV} {ps:List PV} {vs:List V},RepSs K ι H xs vs->derefs C xs=some ps->LiesAll K ι H ps vs
 | [],ps,vs,r,e=>by cases e;rw[show vs=[] from r];exact .nil
 | x::xs,ps,vs,r,e=>by
  obtain ⟨v,w,rfl,h1,h2⟩:=r
  unfold derefs at e
  split at e
  ·rename_i p qs hp hq
   cases e
   exact .cons (h1.lies cr hp) (Zdh cr h2 hq)
  ·cases e
def g1 (h:List PV->Option PV):Cs->List SV->Option SV:=fun C xs=>match derefs C xs with
 | some ps=>(h ps).map .v
 | none=>none
def L1ok (K:W.Frag)(r:List V->Hp->VK->Prop)(h:List PV->Option PV):Prop:=
 ∀(ι:2e2) (H:Hp) (C:Cs) (ps:List PV) (vs:List V) (z:PV) (Q:VK),CR K ι H C->LiesAll K ι H ps vs->h ps=some z->(∀v H',Fr ι H H'->CR K ι H' C->Rep K ι H' z v->Q v H')->r vs H Q
theorem L1ok.c {K:W.Frag}{r:List V->Hp->VK->Prop}{h:List PV->Option PV}(k:L1ok K r h):C1ok K r (g1 h):=by
 intro ι H C xs vs z Q cr rs e q
 unfold g1 at e
 cases hd:derefs C xs with
 | none=>rw[hd] at e;cases e
 | some ps=>
  rw[hd] at e
  cases hz:h ps with
  | none=>simp[hz] at e
  | some z2=>
   simp[hz] at e
   subst e
   exact k ι H C ps vs z2 Q cr (Zdh cr rs hd) hz q
section
variable {X:Cx}{a b e c o:Expr}{es:3e2}{fa fb fc fo:2e4}{fs:2e1}{pos p apos cpos:Pos}{x:Str}
def isiH:List PV->Option PV
 | [p,.ty n]=>(isiP p n).map .bl
 | _=>none
def lenH:List PV->Option PV
 | [.str z]=>some (.int z.length)
 | [.lst xs]=>some (.int xs.length)
 | [.tup xs]=>some (.int xs.length)
 | _=>none
theorem len_ok:L1ok X.K (fun xs H Q=>∃x n,xs=[x]/\LenV X.K x H n/\Q (.int n) H) lenH:=by
 intro ι H C ps vs z Q cr ls e k
 unfold lenH at e
 split at e
 ·cases e;cases ls with
  | cons l t=>cases t;obtain ⟨rfl,hz⟩:=liesS l;exact ⟨_,_,rfl,⟨hz,rfl⟩,k _ H .refl cr repI⟩
 ·cases e;cases ls with
  | cons l t=>cases t;obtain ⟨a,ws,rfl,h1,r1⟩:=liesL l;exact ⟨_,_,rfl,.inl ⟨ws,h1,r1.length⟩,k _ H .refl cr repI⟩
 ·cases e;cases ls with
  | cons l t=>cases t;obtain ⟨a,ws,rfl,h1,r1⟩:=liesT l;exact ⟨_,_,rfl,.inr ⟨ws,h1.sq,r1.length⟩,k _ H .refl cr repI⟩
 ·cases e
def maxH:List PV->Option PV
 | [.int i,.int j]=>some (.int (if j > i then j else i))
 | _=>none
theorem max_ok:L1ok X.K (fun xs H Q=>∃i j,xs=[.int i,.int j]/\Q (.int (if j > i then j else i)) H) maxH:=by
 intro ι H C ps vs z Q cr ls e k
 unfold maxH at e
 split at e
 ·cases e;cases ls with
  | cons l t=>cases t with
   | cons l2 t=>cases t;cases l;cases l2;exact ⟨_,_,rfl,k _ H .refl cr repI⟩
 ·cases e
def intH:List PV->Option PV
 | [.int i]=>some (.int i)
 | [.bl k]=>some (.int (if k then 1 else 0))
 | _=>none
theorem intc_ok:L1ok X.K (fun xs H Q=>(∃i,xs=[.int i]/\Q (.int i) H)\/∃k,xs=[.bl k]/\Q (.int (if k then 1 else 0)) H) intH:=by
 intro ι H C ps vs z Q cr ls e k
 unfold intH at e
 split at e
 ·cases e;cases ls with
  | cons l t=>cases t;cases l;exact .inl ⟨_,rfl,k _ H .refl cr repI⟩
 ·cases e;cases ls with
  | cons l t=>cases t;cases l;exact .inr ⟨_,rfl,k _ H .refl cr repI⟩
 ·cases e
def tupH:List PV->Option PV
 | [.lst xs]=>some (.tup xs)
 | [.tup xs]=>some (.tup xs)
 | _=>none
theorem tup_ok:L1ok X.K (fun xs H Q=>∃p ys,xs=[.ref p]/\((SqL X.K H p ys/\∀l,H l=none->Q (.ref l) (upd H l (.tup ys)))\/(SqT X.K H p ys/\Q (.ref p) H))) tupH:=by
 intro ι H C ps vs z Q cr ls e k
 unfold tupH at e
 split at e
 ·cases e;cases ls with
  | cons l t=>cases t;obtain ⟨a,ws,rfl,h1,r1⟩:=liesL l;exact ⟨a,ws,rfl,.inl ⟨h1,fun q hq=>k _ _ (Fr.new hq) (cr.new hq) (Zc1 hq r1)⟩⟩
 ·cases e;cases ls with
  | cons l t=>cases t;obtain ⟨a,ws,rfl,h1,r1⟩:=liesT l;exact ⟨a,ws,rfl,.inr ⟨h1.sq,k _ H .refl cr (by unfold Rep;exact ⟨a,ws,rfl,h1,r1⟩)⟩⟩
 ·cases e
def listH (C:Cs):List SV->Option 2e9
 | [x]=>match deref C x with
  | some (.lst xs)=>some xs
  | some (.tup xs)=>some xs
  | _=>none
 | _=>none
def mList (fs:2e1):PSt->M 2e9:=fun ρ=>bnd (fs ρ) fun xs=>opM fun C=>listH C xs
def boolsP:List PV->Option (List Bool)
 | []=>some []
 | .bl b::r=>(boolsP r).map (b::·)
 | _::_=>none
theorem bools_rep {K:W.Frag}{ι:2e2}{H:Hp}:∀{ps:List PV} {vs:List V} {bs:List Bool},Reps K ι H ps vs->boolsP ps=some bs->vs=bs.map V.bl
 | [],vs,bs,r,e=>by cases e;rw[r.inv0];rfl
 | p::ps,vs,bs,r,e=>by
  obtain ⟨v,w,rfl,h1,h2⟩:=r.inv
  cases p with
  | bl b=>
   unfold boolsP at e
   cases hb:boolsP ps with
   | none=>rw[hb] at e;cases e
   | some cs=>
    rw[hb] at e;cases e
    have h1:v=.bl b:=by unfold Rep at h1;exact h1
    rw[h1,bools_rep h2 hb];rfl
  | _=>cases e
end
section
variable {X:Cx}{a b e c o i:Expr}{es:3e2}{fa fb fc fo fi fv:2e4}{fs:2e1}{pos p apos cpos:Pos}{x:Str}
def isLst (x:SV):M Unit:=fun C=>match x with
 | .c k=>match C[k]? with
  | some (.lst _)=>some ((),C)
  | _=>none
 | _=>none
theorem ZdE {x:SV}{C C2:Cs}(h:isLst x C=some ((),C2)):C2=C/\∃k ps,x=.c k/\C[k]? = some 6e8:=by
 unfold isLst at h
 split at h
 ·split at h
  ·rename_i k _ ps e;cases h;exact ⟨rfl,k,ps,rfl,e⟩
  ·cases h
 ·cases h
def appC (x:SV)(ys:List SV):M SV:=fun C=>match x,ys with
 | .c k,[.v p]=>match C[k]? with
  | some (.lst ps)=>if ps.length < 100000 then some (.v .non,C.set k (.lst (ps++[p]))) else none
  | _=>none
 | _,_=>none
theorem appC_some {x:SV}{ys:List SV}{C C2:Cs}{r:SV}(h:appC x ys C=some (r,C2)):∃k p ps,x=.c k/\ys=[.v p]/\C[k]? = some 6e8/\ps.length < 100000/\r=.v .non/\C2=C.set k (.lst (ps++[p])):=by
 unfold appC at h
 split at h
 ·split at h
  ·split at h
   ·cases h;exact ⟨_,_,_,rfl,rfl,by assumption,by assumption,rfl,rfl⟩
   ·cases h
  ·cases h
 ·cases h
def mApp (fo:2e4)(fs:2e1):PSt->M SV:=fun ρ=>bnd (fo ρ) fun x=>bnd (isLst x) fun _=>bnd (fs ρ) fun ys=>appC x ys
theorem Zca {K:W.Frag}{ι:2e2}{H:Hp}{C:Cs}{k:Nat}{a:Addr}{ps:List PV}(cr:7e2)(hk:ι[k]? = some a)(hc:C[k]? = some 6e8):∃vs,H a=some (.lst vs)/\Reps K ι H ps vs:=cr.ok k a _ hk hc
theorem cr_set {K:W.Frag}{ι:2e2}{H:Hp}{C:Cs}{k:Nat}{a:Addr}{ps:List PV}{vs:List V}(cr:7e2)(hk:ι[k]? = some a)(r:Reps K ι H ps vs):CR K ι (upd H a (.lst vs)) (C.set k 6e8)/\Fr ι H (upd H a (.lst vs)):=by
 have fr:Fr ι H (upd H a (.lst vs)):=fun b u n e=>by
  rw[Zag (fun z=>n (by rw[z];exact YB hk))];exact e
 exact ⟨cr.put hk ⟨vs,Zam,Reps.mono cr fr _ _ r⟩,fr⟩
def setC (v o i:SV)(ρ:PSt):M PF:=fun C=>match o,i,v with
 | .c k,.v (.int n),.v p=>match C[k]? with
  | some (.lst ps)=>match ixN ps.length n with
   | some j=>some (.nx ρ,C.set k (.lst (ps.set j p)))
   | none=>none
  | _=>none
 | _,_,_=>none
theorem setC_some {v o i:SV}{ρ:PSt}{C C2:Cs}{fl:PF}(h:setC v o i ρ C=some (fl,C2)):∃k n p ps j,o=.c k/\i=.v (.int n)/\v=.v p/\C[k]? = some 6e8/\ixN ps.length n=some j/\fl=.nx ρ/\C2=C.set k (.lst (ps.set j p)):=by
 unfold setC at h
 split at h
 ·split at h
  ·split at h
   ·cases h;exact ⟨_,_,_,_,_,rfl,rfl,rfl,by assumption,by assumption,rfl,rfl⟩
   ·cases h
  ·cases h
 ·cases h
def mSetIx (fv fo fi:2e4):PSt->M PF:=fun ρ=>bnd (fv ρ) fun v=>bnd (fo ρ) fun o=>bnd (fi ρ) fun i=>setC v o i ρ
def itemsP:SV->Option 2e9
 | .v (.lst xs)=>some xs
 | .v (.tup xs)=>some xs
 | .v (.str z)=>some (z.cps.toList.map fun c=>.str ⟨#[c]⟩)
 | _=>none
def mItems (f:2e4):PSt->M 2e9:=fun ρ=>bnd (f ρ) fun x=>opM fun _=>itemsP x
theorem iter_list {K:W.Frag}{ι:2e2}{H:Hp}{C:Cs}{a:Addr}{xs:List PV}{vs:List V}(cr:7e2)(h:LsR K ι H a vs)(r:Reps K ι H xs vs):Iter K ι H xs (Itl K a):=by
 have keep:∀ι2 H2,Ex ι ι2 H H2->SqL K H2 a vs:=fun ι2 H2 x=>by
  rcases h with ⟨n,q | ⟨o,q⟩⟩ | q
  ·exact .inl (.inl (x.out _ _ n q).2)
  ·exact .inl (.inr ⟨o,(x.out _ _ n q).2⟩)
  ·exact .inr q
 refine ⟨fun ι2 H2 C2 x c i hi=>?_,fun ι2 H2 C2 x c i v H3 hi y=>?_,fun ι2 H2 C2 x c=>⟨vs,keep ι2 H2 x,by rw[r.length];exact Yi _⟩⟩
 ·obtain ⟨v,e,_⟩:=r.get (Yd hi)
  exact ⟨vs,v,keep ι2 H2 x,e⟩
 ·obtain ⟨rfl,y⟩:=y
  obtain ⟨p,hp,rp⟩:=r.get' (y vs (keep ι2 _ x))
  exact ⟨fun b o e=>e,p,hp,Rep.tr cr x.out p v rp⟩
theorem iter_tup {K:W.Frag}{ι:2e2}{H:Hp}{C:Cs}{a:Addr}{xs:List PV}{vs:List V}(cr:7e2)(h:SqT K H a vs)(r:Reps K ι H xs vs):Iter K ι H xs (Itt K a):=by
 have keep:∀ι2 H2,Ex ι ι2 H H2->SqT K H2 a vs:=fun ι2 H2 x=>by
  rcases h with (q | ⟨o,q⟩) | q
  ·exact .inl (.inl (x.out _ _ (cr.notup q (fun _ e=>nomatch e) fun _ e=>nomatch e) q).2)
  ·exact .inl (.inr ⟨o,(x.out _ _ (cr.notup q (fun _ e=>nomatch e) fun _ e=>nomatch e) q).2⟩)
  ·exact .inr q
 refine ⟨fun ι2 H2 C2 x c i hi=>?_,fun ι2 H2 C2 x c i v H3 hi y=>?_,fun ι2 H2 C2 x c=>⟨vs,keep ι2 H2 x,by rw[r.length];exact Yi _⟩⟩
 ·obtain ⟨v,e,_⟩:=r.get (Yd hi)
  exact ⟨vs,v,keep ι2 H2 x,e⟩
 ·obtain ⟨rfl,y⟩:=y
  obtain ⟨p,hp,rp⟩:=r.get' (y vs (keep ι2 _ x))
  exact ⟨fun b o e=>e,p,hp,Rep.tr cr x.out p v rp⟩
theorem iter_str {K:W.Frag}{ι:2e2}{H:Hp}{z:Str}:Iter K ι H (z.cps.toList.map fun c=>.str ⟨#[c]⟩) (Its z):=by
 refine ⟨fun ι2 H2 C2 x c i hi=>by show i < z.cps.size;simpa using hi,fun ι2 H2 C2 x c i v H3 hi y=>?_,fun ι2 H2 C2 x c=>by show _=_;simp⟩
 obtain ⟨rfl,d,hd,rfl⟩:=y
 refine ⟨fun b o e=>e,.str ⟨#[d]⟩,by simp[hd],?_⟩
 exact repS (by show 1<=Yr;rw[YN];decide)
theorem iter_range {K:W.Frag}{ι:2e2}{H:Hp}{lo:Int}{n:Nat}:Iter K ι H ((YW n).map fun (k:Nat)=>.int (lo + k)) (Itr lo n):=by
 refine ⟨fun ι2 H2 C2 x c i hi=>by show i < n;simpa using hi,fun ι2 H2 C2 x c i v H3 hi y=>?_,fun ι2 H2 C2 x c=>by show n<=_;simp⟩
 obtain ⟨rfl,rfl⟩:=y
 have hi':i < n:=by simpa using hi
 exact ⟨fun b o e=>e,.int (lo + i),by simp[hi'],repI⟩
variable {tg l:Expr}
def rng1P:List SV->Option 2e9
 | [.v (.int j)]=>if -1000000<=j/\j<=1000000 then some ((YW j.toNat).map fun (k:Nat)=>.int (0 + k)) else none
 | _=>none
def mRange1 (fs:2e1):PSt->M 2e9:=fun ρ=>bnd (fs ρ) fun xs=>opM fun _=>rng1P xs
theorem rng1_some {xs:List SV}{ys:List PV}(h:rng1P xs=some ys):∃j,xs=[.v (.int j)]/\(-1000000<=j/\j<=1000000)/\ys=(YW j.toNat).map fun (k:Nat)=>.int (0 + k):=by
 unfold rng1P at h
 split at h
 ·split at h
  ·cases h;exact ⟨_,rfl,by assumption,rfl⟩
  ·cases h
 ·cases h
end
section
variable {prog:Yy}{w:World}{A:Around}{E:1e1}{s:Shared}
theorem ZbQ {t sl:Addr}{items:Array Value}{vl vu:Value}{lo hi:Option Int}{Q:1e1}(ht:IsTup s.heap t items)(hs:s.heap.IsSliceOf sl vl vu .none)(pl:IsPart vl lo)(pu:IsPart vu hi)
  (hw:HT.sIx items.size 0 lo=0/\HT.sIx items.size items.size hi=items.size) (h:Q (.ref t) s):wpAny 1e9 A (Yav (.ref t) (.ref sl)) Q E s:=by
 obtain ⟨os,hos,hcs,hds⟩:=id hs
 have hTs:s.TypeIs (.ref sl) "slice":=⟨os,hos,hcs⟩
 unfold Yav
 try with_reducible refine Xa ?_
 first | refine Ya (Yc ?_) | skip
 refine Ya (wpAny_sequenceKey ht.typeIs 1e4 ?_)
 refine Ya (Xo (name:=Wn "__getitem__") ht.typeIs Xj
  (Y7 Xj ht.typeIs entry_tuple_getitem ?_ (args_tuple_getitem _ _)))
 show wpAny _ _ (Vf (.ref t) >>= _) _ _ s
 refine Ya (tupleItemsOf_ ht ?_)
 refine Ya (Vz hTs ?_)
 rw[if_pos 1e4]
 refine Ya (HT.sliceApplied_gen hs pl pu ?_)
 have hyes:(((HT.sIx items.size 0 lo:Nat):Int)==0&&(1:Int)==1&&(HT.sIx items.size items.size hi - HT.sIx items.size 0 lo)==items.size)=true:=by
  rw[hw.1,hw.2];simp
 show wpAny _ _ (if (((HT.sIx items.size 0 lo:Nat):Int)==0&&(1:Int)==1&&(HT.sIx items.size items.size hi - HT.sIx items.size 0 lo)==items.size)=true then _ else _) _ _ s
 rw[if_pos hyes]
 unfold Builtin.Tuple.tupleIsExact
 refine Ya (Ya (Vz ht.typeIs (Yc ?_)))
 rw[if_pos 1e4]
 refine Ya (U0 ?_)
 exact Ya (Yc (Yc ⟨_,rfl,Yc h⟩))
end
def rSlTW (K:W.Frag):V->Option Int->Option Int->Hp->VK->Prop:=fun x lo hi H Q=>∃a xs,x=.ref a/\SqT K H a xs/\(HT.sIx xs.length 0 lo=0/\HT.sIx xs.length xs.length hi=xs.length)/\Q (.ref a) H
def tMO (K:W.Frag)(f:PSt->M (Option Int)):TO:=fun σ H Q=>∃ι ρ C r C',SR K ι H ρ σ C/\f ρ C=some (r,C')/\∀H',Fr ι H H'->CR K ι H' C'->Q r H'
def OM (X:Cx)(e:Option Expr)(f:PSt->M (Option Int)):Prop:=PO X e (tMO X.K f)
def oNo:PSt->M (Option Int):=fun _=>ret none
def intD (C:Cs)(x:SV):Option (Option Int):=match deref C x with
 | some (.int i)=>some (some i)
 | _=>none
def oPart (f:2e4):PSt->M (Option Int):=fun ρ=>bnd (f ρ) fun x=>opM fun C=>intD C x
def cutP (xs:List PV)(lo hi:Option Int):List PV:=(xs.drop (HT.sIx xs.length 0 lo)).take (HT.sIx xs.length xs.length hi - HT.sIx xs.length 0 lo)
def sliceP (lo hi:Option Int):PV->Option PV
 | .lst xs=>some (.lst (cutP xs lo hi))
 | .tup xs=>some (.tup (cutP xs lo hi))
 | _=>none
def sliceD (C:Cs)(x:SV)(lo hi:Option Int):Option SV:=match deref C x with
 | some p=>(sliceP lo hi p).map .v
 | none=>none
def mSlice (f:2e4)(l h:PSt->M (Option Int)):PSt->M SV:=fun ρ=>bnd (f ρ) fun x=>bnd (l ρ) fun lo=>bnd (h ρ) fun hi=>opM fun C=>sliceD C x lo hi
theorem reps_cut {K:W.Frag}{ι:2e2}{H:Hp}{ps:List PV}{vs:List V}(r:Reps K ι H ps vs)(lo hi:Option Int):Reps K ι H (cutP ps lo hi) (cutV vs lo hi):=by
 unfold cutP cutV
 rw[r.length]
 exact (r.drop _).take _
theorem sliceD_some {C:Cs}{x z:SV}{lo hi:Option Int}(h:sliceD C x lo hi=some z):(∃xs,deref C x=some (.lst xs)/\z=.v (.lst (cutP xs lo hi)))\/∃xs,deref C x=some (.tup xs)/\z=.v (.tup (cutP xs lo hi)):=by
 unfold sliceD at h
 split at h
 ·rename_i p hd
  cases p with
  | lst xs=>cases h;exact .inl ⟨xs,hd,rfl⟩
  | tup xs=>cases h;exact .inr ⟨xs,hd,rfl⟩
  | _=>cases h
 ·cases h
section
variable {X:Cx}{a b e c o i:Expr}{es:3e2}{fa fb fc fo fi fv:2e4}{fs:2e1}{pos p apos cpos p2:Pos}{x:Str}{lo hi:Option Expr}{l h:PSt->M (Option Int)}
theorem PO.imp {e:Option Expr}{t t':TO}(h:PO X e t)(k:∀σ H Q,t' σ H Q->t σ H Q):PO X e t':=fun pins s σ H Q I q=>h pins s σ H Q I (k σ H Q q)
theorem sl_tupW:SlR X (rSlTW X.K):=by
 intro pins s σ H x v vl vu lo hi sl Q I rx hs pl pu h
 obtain ⟨a,xs,rfl,hx,hw,q⟩:=h
 cases rx
 obtain ⟨its,r,ht,hz⟩:=I.tuple hx
 have hlen:its.toArray.size=xs.length:=by rw[Yn];exact r.length.symm
 exact ⟨"tuple",_,Xj.lookup,ht.typeIs,ZbQ ht hs pl pu (by rw[hlen];exact hw) ⟨.ref a,H,I,rfl,q⟩⟩
theorem cut_whole {xs:List PV}{lo hi:Option Int}(h:HT.sIx xs.length 0 lo=0/\HT.sIx xs.length xs.length hi=xs.length):cutP xs lo hi=xs:=by
 unfold cutP;rw[h.1,h.2];simp
def tyP (T:String):PV->Bool
 | .str _=>T=="str"
 | .int _=>T=="int"
 | .lst _=>T=="list"
 | .dct _ _=>T=="dict"
 | .dtt _ _=>T=="dict"
 | _=>false
def isTy (T:String)(x:SV):M Unit:=fun C=>match deref C x with
 | some q=>if tyP T q then some ((),C) else none
 | none=>none
def mtD (h:PV->List PV->Option PV)(C:Cs)(x:SV)(xs:List SV):Option SV:=match deref C x,derefs C xs with
 | some q,some ps=>(h q ps).map .v
 | _,_=>none
def mMt (T:String)(h:PV->List PV->Option PV)(fo:2e4)(fs:2e1):PSt->M SV:=fun ρ=>bnd (fo ρ) fun x=>bnd (isTy T x) fun _=>bnd (fs ρ) fun xs=>opM fun C=>mtD h C x xs
end
section
variable {X:Cx}{a b e c o i:Expr}{es:3e2}{fa fb fc fo fi fv:2e4}{fs:2e1}{pos p apos cpos p2:Pos}{x:Str}
def strsP:List PV->Option (List Str)
 | []=>some []
 | .str b::r=>(strsP r).map (b::·)
 | _::_=>none
def joinH:PV->List PV->Option PV
 | .str z,[.lst xs]=>match strsP xs with
  | some ys=>if (ys.map (·.length)).sum + ys.length * z.length<=1000000 then some (.str (Txt.join z ys)) else none
  | none=>none
 | _,_=>none
def keyP:PV->Option Key
 | .int i=>some (.inl i)
 | .str z=>some (.inr z)
 | _=>none
theorem keyP_kP (k:Key):keyP (kP k)=some k:=by cases k<;>rfl
def lookP:List PV->List PV->Key->Option PV
 | k::ks,v::vs,q=>if keyP k=some q then some v else lookP ks vs q
 | _,_,_=>none
theorem look_rep {K:W.Frag}{ι:2e2}{H:Hp}{q:Key}:∀{qs:5e6} {ps:List PV} {vs:List V},qs.length=vs.length->Reps K ι H ps vs->
  (∀z,lookP (qs.map kP) ps q=some z->∃v,valV (qs.zip vs) q=some v/\Rep K ι H z v)/\(lookP (qs.map kP) ps q=none->valV (qs.zip vs) q=none)
 | [],ps,vs,hl,r=>by
  refine ⟨fun z h=>?_,fun _=>rfl⟩
  cases ps<;>cases h
 | k::qs,[],vs,hl,r=>by rw[r.inv0] at hl;cases hl
 | k::qs,p::ps,vs,hl,r=>by
  obtain ⟨v,w,rfl,h1,h2⟩:=r.inv
  have ih:=look_rep (q:=q) (qs:=qs) (ps:=ps) (vs:=w) (by simpa using hl) h2
  rw[Ym,Xe]
  unfold lookP
  rw[keyP_kP]
  by_cases h:k=q
  ·subst h
   rw[if_pos rfl,Zbr (p:=(k,v)) rfl]
   exact ⟨fun z e=>by cases e;exact ⟨v,rfl,h1⟩,fun e=>nomatch e⟩
  ·rw[if_neg (fun e=>h (YI e)),Zbs (p:=(k,v)) h]
   exact ih
theorem lies_key {K:W.Frag}{ι:2e2}{H:Hp}{x:PV}{v:V}{q:Key}(l:Lies K ι H x v)(h:keyP x=some q):v=kV q:=by
 cases l<;>first | (cases h;rfl) | cases h
theorem liesD {K:W.Frag}{ι:2e2}{H:Hp}{ks ps:List PV}{v:V}(l:Lies K ι H (.dct ks ps) v):∃(a:Addr) (qs:5e6) (vs:List V),v=.ref a/\ks=qs.map kP/\H a=some (.dK (qs.zip vs))/\qs.length=vs.length/\Reps K ι H ps vs:=by
 cases l;exact ⟨_,_,_,rfl,rfl,by assumption,by assumption,by assumption⟩
def rDGet:R2:=fun x y H Q=>∃a v,x=.ref a/\DGet H a y (some v)/\Q v H
theorem ix_dict (hu:X.A.units + 1 < cLine):IxR X rDGet:=by
 intro value slice pins s σ H x y v u Q I rx ry h hs
 obtain ⟨a,w,rfl,g,q⟩:=h
 cases rx
 exact tail_any (dict_typeIs I g) PySem.F.slot_dict_getitem.lookup (d_getItem hu I g ry fun w' s' I' r'=>⟨w,H,I',r',q⟩) hs
def ixQ (x y:PV):Option PV:=match x with
 | .dct ks vs=>match keyP y with
  | some q=>lookP ks vs q
  | none=>none
 | x=>ixP x y
theorem ixQ_ok:L2ok X.K (fun x y H Q=>rIx X.K x y H Q\/rDGet x y H Q) ixQ:=by
 intro ι H C p q vx vy z Q cr lx ly e k
 unfold ixQ at e
 split at e
 ·rename_i ks vs
  split at e
  ·rename_i key hk
   obtain ⟨a,qs,ws,rfl,rfl,hd,hl,r⟩:=liesD lx
   obtain ⟨v,hv,rv⟩:=(look_rep hl r).1 z e
   rw[lies_key ly hk]
   exact .inr ⟨a,v,rfl,by rw[←hv];exact DGet.k hd,k v H .refl cr rv⟩
  ·cases e
 ·exact .inl (ix_ok ι H C p q vx vy z Q cr lx ly e k)
theorem track {pins:1e6}{σ:St}{H:Hp}{s:Shared}{d:Addr}{ob:HO}(I:1e7)(hn:H d=none)(hd:X.s₀.heap.objs.size<=d)(hL:d≠X.env.locals)(hc:∀x c,X.env.cells.lookup x=some c->c≠d)
  (hp:∀p∈X.pn++pins,p.1≠d) (new:ObjOk X.prog X.w (upd H d ob) s.heap d ob):Inv X pins σ (upd H d ob) s:=by
 have u:=I.base
 refine ⟨I.ok,I.os,I.bare,⟨u.keep,u.slot,fun b o e q hx=>?_,u.there,fun b xs e=>?_,fun b o xs e=>?_,fun b ps e=>?_⟩,I.loc,I.cell,?_,fun x c e=>?_,fun p hp'=>?_,fun b o e=>?_,I.len⟩
 ·rw[Zag (Yt (Yo (Yq e) hd))];exact u.free b o e q hx
 ·rw[Zag (Zak (u.tups b xs e) hn)];exact u.tups b xs e
 ·rw[Zag (Zak (u.frzs b o xs e) hn)];exact u.frzs b o xs e
 ·obtain ⟨more,q⟩:=u.tbls b ps e
  exact ⟨more,by rw[Zag (Zak q hn)];exact q⟩
 ·rw[Zag (XH hL)];exact I.free
 ·rw[Zag (hc x c e)];exact I.freeC x c e
 ·obtain ⟨h1,h2,h3⟩:=I.pin p hp'
  exact ⟨h1,by rw[Zag (hp p hp')];exact h2,h3⟩
 ·by_cases hb:b=d
  ·subst hb
   rw[Zam] at e;cases e;exact new
  ·rw[Zag hb] at e
   exact (I.hok b o e).stay (fun _ _ _ q=>q) (fun c q=>by rw[Zag (Zak q hn)];exact q) fun c xs q=>by rw[Zag (Zak q hn)];exact q
theorem DictOf_empty {P:Yy}{w:World}{h:Heap}{d:Addr}(e:h.get? d=some { cls:=.type "dict",data:=.dict #[] }):h.DictOf (mixKind P w) d []:=by
 have hn:=Heap.DictOf.new (knd:=mixKind P w) { h with objs:=#[] }
 obtain ⟨o,es,ep,h1,h2,h3,h4⟩:=hn
 rw[Ye _ rfl] at h1
 cases h1
 exact ⟨_,es,ep,e,h2,h3,h4⟩
def PRel:List Str->List V->List (Value×Value)->Prop
 | [],[],[]=>True
 | k::ks,v::vs,(u,w)::r=>keyIs (.inr k) u=true/\RelV v w/\PRel ks vs r
 | _,_,_=>False
def DP (X:Cx)(ks:List (Option Expr))(es:3e2)(keys:4e0)(t:TA):Prop:=
 ∀(pos:Pos) (pins:1e6) (s:Shared) (σ:St) (H:Hp) (Q:List V->Hp->Prop),Inv X pins σ H s->t σ H Q->
  wpAny 2e0 X.A (evalPairs (pairTrees ks es X.env pos)) (fun us s'=>∃vs H',Inv X pins σ H' s'/\PRel keys vs us/\Q vs H') X.xe s
def DM (X:Cx)(ks:List (Option Expr))(es:3e2)(keys:4e0)(f:2e1):Prop:=DP X ks es keys (tMA X.K f)
def mDict (keys:4e0)(fs:2e1):PSt->M SV:=fun ρ=>bnd (fs ρ) fun xs=>opM fun _=>(plain xs).map fun ps=>.v (.dct (keys.map PV.str) ps)
theorem prel_carries {P:Yy}{w:World}:∀{keys:4e0} {vs:List V} {us:List (Value×Value)},PRel keys vs us->keys.length=vs.length/\us.length=keys.length/\∃kvs:List (Key×Value),Carries (mixKind P w) us kvs/\KV ((keys.map WY).zip vs) kvs/\kvs.map (·.1)=keys.map Sum.inr:=by
 intro keys
 induction keys with
 | nil=>
  intro vs us h
  cases vs with
  | nil=>cases us with
   | nil=>exact ⟨rfl,rfl,[],trivial,.nil,rfl⟩
   | cons _ _=>exact h.elim
  | cons _ _=>exact h.elim
 | cons k ks ih=>
  intro vs us h
  cases vs with
  | nil=>exact h.elim
  | cons v vs=>cases us with
   | nil=>exact h.elim
   | cons y r=>
    obtain ⟨h1,h2,h3⟩:=h
    obtain ⟨a1,a2,kvs,a3,a4,a5⟩:=ih h3
    exact ⟨by simp[a1],by simp[a2],(WY k,y.2)::kvs,⟨h1,rfl,a3⟩,.cons ⟨rfl,h2⟩ a4,by simp[a5]⟩
end
section
variable {X:Cx}{a b e c o i:Expr}{es:3e2}{fa fb fc fo fi fv:2e4}{fs:2e1}{pos p apos cpos p2:Pos}{x:Str}{d:Addr}{tab:List (Str×Addr)}
def mDict0:PSt->M SV:=fun _=>ret (.v (.dct [] []))
end
section
variable {X:Cx}{pins:1e6}{σ:St}{H:Hp}{s:Shared}
theorem turnedL {t':Nat}{h':Heap}{ch:2e2}(I:1e7)(k:∀b o,b∉ch->s.heap.get? b=some o->h'.get? b=some o)(hf:∀b∈ch,FpOk X pins H b):Inv X pins σ H { s with heap:=h',toks:=t' }:=by
 have nit:∀b u,H b=some u->b∉ch:=fun b u e z=>by rw[(hf b z).1] at e;cases e
 refine I.step (g':=s.gens) (d':=s.drawn) (ch:=ch) (fun b hb=>⟨(hf b hb).2.2.2.1,(hf b hb).2.1,(hf b hb).2.2.2.2.1,(hf b hb).2.2.2.2.2⟩) (fun b o _ _ hc e _=>k b o hc e) (fun b o _ _ hc e _=>⟨o.slots,k b o hc e⟩) (fun _ _ _ _ n=>n)
  (fun b o hc e=>⟨o,k b o hc e⟩) (fun _ _ e=>e) (fun _ _ _ e=>e) (fun b ps e=>⟨#[],by rw[e];simp⟩) (fun m hm=>?_) (fun b u e=>?_) I.bare
 ·obtain ⟨o,es,ep,ho,r⟩:=hm
  exact ⟨o,es,ep,k _ o (fun z=>(hf _ z).2.1 rfl) ho,r⟩
 ·refine (I.hok b u e).stay (fun c v hc q=>k c v ?_ q) (fun _ q=>q) fun _ _ q=>q
  rcases hc with z | z
  ·rw[z];exact nit b u e
  ·exact nit c _ z
end
mutual
def HRep (h:Heap):PV->Value->Prop
 | .non,u=>u=.none
 | .bl b,u=>u=.bool b
 | .int i,u=>∃t,u=.int i t
 | .str x,u=>∃t,u=.str x t
 | .tup ps,u=>∃(a:Addr) (us:2e5),u=.ref a/\h.IsTuple a us.toArray/\HReps h ps us
 | .lst ps,u=>∃(a:Addr) (us:2e5),u=.ref a/\h.IsList a us.toArray/\HReps h ps us
 | _,_=>False
def HReps (h:Heap):List PV->List Value->Prop
 | [],us=>us=[]
 | p::ps,us=>∃v r,us=v::r/\HRep h p v/\HReps h ps r
end
mutual
def dat:PV->Bool
 | .tup ps=>dats ps
 | .lst ps=>dats ps
 | .dct _ _=>false
 | .dtt _ _=>false
 | .fn _=>false
 | .ty _=>false
 | _=>true
def dats:List PV->Bool
 | []=>true
 | p::ps=>dat p&&dats ps
end
mutual
def dep:PV->Nat
 | .tup ps=>deps ps + 1
 | .lst ps=>deps ps + 1
 | _=>0
def deps:List PV->Nat
 | []=>0
 | p::ps=>max (dep p) (deps ps)
end
mutual
theorem Rep.heap {X:Cx}{pins:1e6}{σ:St}{H:Hp}{s:Shared}{ι:2e2}(I:1e7):∀(p:PV) {v:V} {u:Value},Rep X.K ι H p v->RelV v u->dat p=true->HRep s.heap p u
 | .non,v,u,h,r,_=>by unfold Rep at h;subst h;unfold HRep;exact r
 | .bl b,v,u,h,r,_=>by unfold Rep at h;subst h;unfold HRep;exact r
 | .int i,v,u,h,r,_=>by unfold Rep at h;subst h;unfold HRep;exact r
 | .str x,v,u,h,r,_=>by unfold Rep at h;obtain ⟨rfl,h⟩:=h;unfold HRep;exact r
 | .tup ps,v,u,h,r,d=>by
  unfold Rep at h;obtain ⟨a,vs,rfl,h,rs⟩:=h
  cases r
  obtain ⟨its,r',pl,hz⟩:=I.tuple h.sq
  unfold HRep
  unfold dat at d
  exact ⟨a,its,rfl,pl,Reps.heap I ps rs r' d⟩
 | .lst ps,v,u,h,r,d=>by
  unfold Rep at h;obtain ⟨a,vs,rfl,h,rs⟩:=h
  cases r
  obtain ⟨its,r',pl,hz⟩:=I.list h.sq
  unfold HRep
  unfold dat at d
  exact ⟨a,its,rfl,pl.isList,Reps.heap I ps rs r' d⟩
 | .dct ks ps,v,u,h,r,d=>by unfold dat at d;cases d
 | .dtt ks ps,v,u,h,r,d=>by unfold dat at d;cases d
 | .fn a,v,u,h,r,d=>by unfold dat at d;cases d
 | .ty n,v,u,h,r,d=>by unfold dat at d;cases d
theorem Reps.heap {X:Cx}{pins:1e6}{σ:St}{H:Hp}{s:Shared}{ι:2e2}(I:1e7):∀(ps:List PV) {vs:List V} {us:2e5},Reps X.K ι H ps vs->Vals vs us->dats ps=true->HReps s.heap ps us
 | [],vs,us,h,r,_=>by unfold Reps at h;subst h;cases r;unfold HReps;rfl
 | p::ps,vs,us,h,r,d=>by
  unfold Reps at h;obtain ⟨v,w,rfl,h1,h2⟩:=h
  cases r with
  | cons r1 r2=>
   unfold dats at d
   rw[Yp] at d
   unfold HReps
   exact ⟨_,_,rfl,Rep.heap I p h1 r1 d.1,Reps.heap I ps h2 r2 d.2⟩
end
theorem Lies.heap {X:Cx}{pins:1e6}{σ:St}{H:Hp}{s:Shared}{ι:2e2}(I:1e7){p:PV}{v:V}{u:Value}(l:Lies X.K ι H p v)(r:RelV v u)(d:dat p=true):HRep s.heap p u:=by
 cases l with
 | non=>unfold HRep;exact r
 | bl b=>unfold HRep;exact r
 | int i=>unfold HRep;exact r
 | str x h=>unfold HRep;exact r
 | tup h rs=>
  cases r
  obtain ⟨its,r',pl,hz⟩:=I.tuple h.sq
  unfold HRep
  unfold dat at d
  exact ⟨_,its,rfl,pl,Reps.heap I _ rs r' d⟩
 | lst h rs=>
  cases r
  obtain ⟨its,r',pl,hz⟩:=I.list h
  unfold HRep
  unfold dat at d
  exact ⟨_,its,rfl,pl.isList,Reps.heap I _ rs r' d⟩
 | dct h hl rs=>unfold dat at d;cases d
 | dtt h hl rs=>unfold dat at d;cases d
 | fn a=>unfold dat at d;cases d
 | ty n=>unfold dat at d;cases d
mutual
def eqD:PV->PV->Bool
 | .non,.non=>true
 | .bl a,.bl b=>a==b
 | .bl a,.int b=>(if a then 1 else 0)==b
 | .int a,.bl b=>a==(if b then 1 else 0)
 | .int a,.int b=>a==b
 | .str a,.str b=>a==b
 | .tup xs,.tup ys=>eqDs xs ys
 | .lst xs,.lst ys=>eqDs xs ys
 | _,_=>false
def eqDs:List PV->List PV->Bool
 | [],[]=>true
 | x::xs,y::ys=>eqD x y&&eqDs xs ys
 | _,_=>false
end
theorem Zda {h:Heap}{a:Addr}{us vs:2e5}(h1:h.IsTuple a us.toArray)(h2:h.IsTuple a vs.toArray):us=vs:=by
 obtain ⟨o,e,_,n,d⟩:=h1
 obtain ⟨o',e',_,n',d'⟩:=h2
 rw[e] at e';cases e'
 rw[d] at d';injection d' with d1 _
 simpa using d1
theorem ZdF {h:Heap}{a:Addr}{us vs:2e5}(h1:h.IsList a us.toArray)(h2:h.IsList a vs.toArray):us=vs:=by
 obtain ⟨o,e,_,n,d⟩:=h1
 obtain ⟨o',e',_,n',d'⟩:=h2
 rw[e] at e';cases e'
 rw[d] at d';injection d' with d1 _
 simpa using d1
theorem Zcz {h:Heap}{a:Addr}{us vs:2e5}(h1:h.IsTuple a us.toArray)(h2:h.IsList a vs.toArray):False:=by
 obtain ⟨o,e,c,_⟩:=h1
 obtain ⟨o',e',c',_⟩:=h2
 rw[e] at e';cases e'
 rw[c] at c';injection c' with c';exact absurd c' (by decide)
mutual
theorem HRep.same {h:Heap}:∀(p:PV) {q:PV} {u:Value},HRep h p u->HRep h q u->eqD p q=true
 | .non,q,u,a,b=>by
  unfold HRep at a;subst a
  cases q<;>unfold HRep at b<;>first | rfl | (cases b;done) | (obtain ⟨_,e⟩:=b;cases e;done) | (obtain ⟨_,_,e,_⟩:=b;cases e;done) | exact b.elim
 | .bl x,q,u,a,b=>by
  unfold HRep at a;subst a
  cases q<;>unfold HRep at b<;>first | (cases b;done) | (cases b;unfold eqD;exact beq_self_eq_true _) | (obtain ⟨_,e⟩:=b;cases e;done) | (obtain ⟨_,_,e,_⟩:=b;cases e;done) | exact b.elim
 | .int x,q,u,a,b=>by
  unfold HRep at a;obtain ⟨t,rfl⟩:=a
  cases q<;>unfold HRep at b<;>first | (cases b;done) | (obtain ⟨_,e⟩:=b;cases e;done) | (obtain ⟨_,e⟩:=b;cases e;unfold eqD;exact beq_self_eq_true _) | (obtain ⟨_,_,e,_⟩:=b;cases e;done) | exact b.elim
 | .str x,q,u,a,b=>by
  unfold HRep at a;obtain ⟨t,rfl⟩:=a
  cases q<;>unfold HRep at b<;>first | (cases b;done) | (obtain ⟨_,e⟩:=b;cases e;done) | (obtain ⟨_,e⟩:=b;cases e;unfold eqD;exact beq_self_eq_true _) | (obtain ⟨_,_,e,_⟩:=b;cases e;done) | exact b.elim
 | .tup ps,q,u,a,b=>by
  unfold HRep at a;obtain ⟨l,us,rfl,h1,r1⟩:=a
  cases q with
  | tup qs=>
   unfold HRep at b;obtain ⟨l',vs,e,h2,r2⟩:=b
   cases e
   cases Zda h1 h2
   unfold eqD
   exact HReps.same ps r1 r2
  | lst qs=>unfold HRep at b;obtain ⟨l',vs,e,h2,r2⟩:=b;cases e;exact (Zcz h1 h2).elim
  | _=>unfold HRep at b;first | (cases b;done) | (obtain ⟨_,e⟩:=b;cases e;done) | exact b.elim
 | .lst ps,q,u,a,b=>by
  unfold HRep at a;obtain ⟨l,us,rfl,h1,r1⟩:=a
  cases q with
  | lst qs=>
   unfold HRep at b;obtain ⟨l',vs,e,h2,r2⟩:=b
   cases e
   cases ZdF h1 h2
   unfold eqD
   exact HReps.same ps r1 r2
  | tup qs=>unfold HRep at b;obtain ⟨l',vs,e,h2,r2⟩:=b;cases e;exact (Zcz h2 h1).elim
  | _=>unfold HRep at b;first | (cases b;done) | (obtain ⟨_,e⟩:=b;cases e;done) | exact b.elim
 | .dct _ _,q,u,a,b=>by unfold HRep at a;exact a.elim
 | .dtt _ _,q,u,a,b=>by unfold HRep at a;exact a.elim
 | .fn _,q,u,a,b=>by unfold HRep at a;exact a.elim
 | .ty _,q,u,a,b=>by unfold HRep at a;exact a.elim
theorem HReps.same {h:Heap}:∀(ps:List PV) {qs:List PV} {us:2e5},HReps h ps us->HReps h qs us->eqDs ps qs=true
 | [],qs,us,a,b=>by
  unfold HReps at a;subst a
  cases qs with
  | nil=>rfl
  | cons q qs=>unfold HReps at b;obtain ⟨_,_,e,_⟩:=b;cases e
 | p::ps,qs,us,a,b=>by
  unfold HReps at a;obtain ⟨v,r,rfl,a1,a2⟩:=a
  cases qs with
  | nil=>unfold HReps at b;cases b
  | cons q qs=>
   unfold HReps at b;obtain ⟨v',r',e,b1,b2⟩:=b
   cases e
   unfold eqDs
   rw[HRep.same p a1 b1,HReps.same ps a2 b2];rfl
end
end Pu
namespace Pu
open PySem PySem.Spec L2 PySem.SeqAt
open PyProof.Rows hiding St Fr
theorem HReps.length {h:Heap}:∀{ps:List PV} {us:2e5},HReps h ps us->ps.length=us.length
 | [],us,a=>by unfold HReps at a;subst a;rfl
 | p::ps,us,a=>by unfold HReps at a;obtain ⟨v,r,rfl,_,b⟩:=a;rw[YC,YC,b.length]
theorem ZbD:∀(ps qs:List PV),(((YW (min ps.length qs.length)).all fun j=>eqD (ps.getD j .non) (qs.getD j .non))&&ps.length==qs.length)=eqDs ps qs
 | [],[]=>rfl
 | [],_::_=>by unfold eqDs;simp
 | _::_,[]=>by unfold eqDs;simp
 | p::ps,q::qs=>by
  rw[eqDs,←ZbD ps qs,YC,YC,Nat.succ_min_succ,List.range_succ_eq_map,Vb,List.all_map]
  rw[show (ps.length + 1==qs.length + 1)=(ps.length==qs.length) by simp[BEq.beq]]
  rw[Bool.and_assoc]
  rfl
theorem Zdd {ps qs:List PV}(e:ps.length=qs.length):((YW ps.length).all fun j=>eqD (ps.getD j .non) (qs.getD j .non))=eqDs ps qs:=by
 have:=ZbD ps qs
 rw[←e,Nat.min_self,beq_self_eq_true,Bool.and_true] at this
 exact this
theorem eqDs_len:∀{ps qs:List PV},ps.length≠qs.length->eqDs ps qs=false
 | [],[],h=>absurd rfl h
 | [],_::_,_=>by unfold eqDs;rfl
 | _::_,[],_=>by unfold eqDs;rfl
 | p::ps,q::qs,h=>by unfold eqDs;rw[eqDs_len fun z=>h (by rw[YC,YC,z]),UN]
section
variable {s:Shared}
theorem RcAt.tupD {A:Around}{a b:Addr}{us vs:2e5}{ps qs:List PV}(h1:s.heap.IsTuple a us.toArray)(h2:s.heap.IsTuple b vs.toArray)(l1:ps.length=us.length)(l2:qs.length=vs.length)(hu:3e1)
  (he:∀j (h1:j < us.length) (h2:j < vs.length),EqAt A.in1 s us[j] vs[j] (eqD (ps.getD j .non) (qs.getD j .non))):RcAt A s (.ref a) (.ref b) (eqDs ps qs):=by
 have:=RcAt.tuples h1 h2 hu (e:=fun j=>eqD (ps.getD j .non) (qs.getD j .non)) (fun j z1 z2=>by simpa using he j (by simpa using z1) (by simpa using z2))
 simp only[Yn,←l1,←l2] at this
 rw[ZbD] at this;exact this
theorem RcAt.lstD {A:Around}{a b:Addr}{us vs:2e5}{ps qs:List PV}(h1:s.heap.IsList a us.toArray)(h2:s.heap.IsList b vs.toArray)(l1:ps.length=us.length)(l2:qs.length=vs.length)(hu:3e1)
  (he:∀j (h1:j < us.length) (h2:j < vs.length),EqAt A.in1 s us[j] vs[j] (eqD (ps.getD j .non) (qs.getD j .non))):RcAt A s (.ref a) (.ref b) (eqDs ps qs):=by
 by_cases e:us.length=vs.length
 ·have:=RcAt.lists h1 h2 (by simpa using e) hu (e:=fun j=>eqD (ps.getD j .non) (qs.getD j .non)) (fun j z1 z2=>by simpa using he j (by simpa using z1) (by simpa using z2))
  simp only[Yn,←l1] at this
  rw[Zdd 1e2] at this;exact this
 ·have:=RcAt.lists_lengths h1 h2 (by simpa using e) hu
  rw[eqDs_len 1e2];exact this
theorem RcNeAt.tupD {A:Around}{a b:Addr}{us vs:2e5}{ps qs:List PV}(h1:s.heap.IsTuple a us.toArray)(h2:s.heap.IsTuple b vs.toArray)(l1:ps.length=us.length)(l2:qs.length=vs.length)(hu:3e1)
  (he:∀j (h1:j < us.length) (h2:j < vs.length),EqAt A.in1 s us[j] vs[j] (eqD (ps.getD j .non) (qs.getD j .non))):RcNeAt A s (.ref a) (.ref b) (!eqDs ps qs):=by
 have:=RcNeAt.tuples h1 h2 hu (e:=fun j=>eqD (ps.getD j .non) (qs.getD j .non)) (fun j z1 z2=>by simpa using he j (by simpa using z1) (by simpa using z2))
 simp only[Yn,←l1,←l2] at this
 rw[ZbD] at this;exact this
theorem RcNeAt.lstD {A:Around}{a b:Addr}{us vs:2e5}{ps qs:List PV}(h1:s.heap.IsList a us.toArray)(h2:s.heap.IsList b vs.toArray)(l1:ps.length=us.length)(l2:qs.length=vs.length)(hu:3e1)
  (he:∀j (h1:j < us.length) (h2:j < vs.length),EqAt A.in1 s us[j] vs[j] (eqD (ps.getD j .non) (qs.getD j .non))):RcNeAt A s (.ref a) (.ref b) (!eqDs ps qs):=by
 by_cases e:us.length=vs.length
 ·have:=RcNeAt.lists h1 h2 (by simpa using e) hu (e:=fun j=>eqD (ps.getD j .non) (qs.getD j .non)) (fun j z1 z2=>by simpa using he j (by simpa using z1) (by simpa using z2))
  simp only[Yn,←l1] at this
  rw[Zdd 1e2] at this;exact this
 ·have:=RcNeAt.lists_lengths h1 h2 (by simpa using e) hu
  rw[eqDs_len 1e2];exact this
end
section
variable {s:Shared}
theorem EqAt.x_non {q:PV}{u v:Value}{A:Around}(a:HRep s.heap .non u)(b:HRep s.heap q v)(hu':3e1):EqAt A s u v (eqD .non q):=by
 unfold HRep at a;subst a
 cases q<;>unfold HRep at b
 ·unfold eqD;subst b;exact EqAt.same _
 ·unfold eqD;subst b;exact EqAt.none_bool _
 ·unfold eqD;obtain ⟨_,rfl⟩:=b;exact EqAt.none_int _ _
 ·unfold eqD;obtain ⟨_,rfl⟩:=b;exact EqAt.none_str _ _
 ·unfold eqD;obtain ⟨_,_,rfl,h_b,_⟩:=b;exact EqAt.none_tuple h_b hu'
 ·unfold eqD;obtain ⟨_,_,rfl,h_b,_⟩:=b;exact EqAt.none_list h_b hu'
 ·exact b.elim
 ·exact b.elim
 ·exact b.elim
 ·exact b.elim
theorem EqAt.x_bl {x:Bool}{q:PV}{u v:Value}{A:Around}(a:HRep s.heap (.bl x) u)(b:HRep s.heap q v)(hu':3e1):EqAt A s u v (eqD (.bl x) q):=by
 unfold HRep at a;subst a
 cases q<;>unfold HRep at b
 ·unfold eqD;subst b;exact EqAt.bool_none _
 ·unfold eqD;subst b;exact EqAt.bool_bool _ _
 ·unfold eqD;obtain ⟨_,rfl⟩:=b;exact EqAt.bool_int _ _ _
 ·unfold eqD;obtain ⟨_,rfl⟩:=b;exact EqAt.bool_str _ _ _
 ·unfold eqD;obtain ⟨_,_,rfl,h_b,_⟩:=b;exact EqAt.bool_tuple _ h_b hu'
 ·unfold eqD;obtain ⟨_,_,rfl,h_b,_⟩:=b;exact EqAt.bool_list _ h_b hu'
 ·exact b.elim
 ·exact b.elim
 ·exact b.elim
 ·exact b.elim
theorem EqAt.x_int {x:Int}{q:PV}{u v:Value}{A:Around}(a:HRep s.heap (.int x) u)(b:HRep s.heap q v)(hu':3e1):EqAt A s u v (eqD (.int x) q):=by
 unfold HRep at a;obtain ⟨_,rfl⟩:=a
 cases q<;>unfold HRep at b
 ·unfold eqD;subst b;exact EqAt.int_none _ _
 ·unfold eqD;subst b;exact EqAt.int_bool _ _ _
 ·unfold eqD;obtain ⟨_,rfl⟩:=b;exact EqAt.int_int _ _ _ _
 ·unfold eqD;obtain ⟨_,rfl⟩:=b;exact EqAt.int_str _ _ _ _
 ·unfold eqD;obtain ⟨_,_,rfl,h_b,_⟩:=b;exact EqAt.int_tuple _ _ h_b hu'
 ·unfold eqD;obtain ⟨_,_,rfl,h_b,_⟩:=b;exact EqAt.int_list _ _ h_b hu'
 ·exact b.elim
 ·exact b.elim
 ·exact b.elim
 ·exact b.elim
theorem EqAt.x_str {x:Str}{q:PV}{u v:Value}{A:Around}(a:HRep s.heap (.str x) u)(b:HRep s.heap q v)(hu':3e1):EqAt A s u v (eqD (.str x) q):=by
 unfold HRep at a;obtain ⟨_,rfl⟩:=a
 cases q<;>unfold HRep at b
 ·unfold eqD;subst b;exact EqAt.str_none _ _
 ·unfold eqD;subst b;exact EqAt.str_bool _ _ _
 ·unfold eqD;obtain ⟨_,rfl⟩:=b;exact EqAt.str_int _ _ _ _
 ·unfold eqD;obtain ⟨_,rfl⟩:=b;exact EqAt.str_str _ _ _ _
 ·unfold eqD;obtain ⟨_,_,rfl,h_b,_⟩:=b;exact EqAt.str_tuple _ _ h_b hu'
 ·unfold eqD;obtain ⟨_,_,rfl,h_b,_⟩:=b;exact EqAt.str_list _ _ h_b hu'
 ·exact b.elim
 ·exact b.elim
 ·exact b.elim
 ·exact b.elim
theorem EqAt.x_tup_non {ps:List PV}{u v:Value}{A:Around}(a:7e6)(b:HRep s.heap .non v)(hu':3e1):EqAt A s u v (eqD (.tup ps) .non):=by
 unfold HRep at a b;unfold eqD;obtain ⟨_,_,rfl,h_a,_⟩:=a;subst b;exact EqAt.tuple_none h_a hu'
theorem EqAt.x_tup_bl {x:Bool}{ps:List PV}{u v:Value}{A:Around}(a:7e6)(b:HRep s.heap (.bl x) v)(hu':3e1):EqAt A s u v (eqD (.tup ps) (.bl x)):=by
 unfold HRep at a b;unfold eqD;obtain ⟨_,_,rfl,h_a,_⟩:=a;subst b;exact EqAt.tuple_bool _ h_a hu'
theorem EqAt.x_tup_int {x:Int}{ps:List PV}{u v:Value}{A:Around}(a:7e6)(b:HRep s.heap (.int x) v)(hu':3e1):EqAt A s u v (eqD (.tup ps) (.int x)):=by
 unfold HRep at a b;unfold eqD;obtain ⟨_,_,rfl,h_a,_⟩:=a;obtain ⟨_,rfl⟩:=b;exact EqAt.tuple_int _ _ h_a hu'
theorem EqAt.x_tup_str {x:Str}{ps:List PV}{u v:Value}{A:Around}(a:7e6)(b:HRep s.heap (.str x) v)(hu':3e1):EqAt A s u v (eqD (.tup ps) (.str x)):=by
 unfold HRep at a b;unfold eqD;obtain ⟨_,_,rfl,h_a,_⟩:=a;obtain ⟨_,rfl⟩:=b;exact EqAt.tuple_str _ _ h_a hu'
theorem EqAt.x_tup_lst {x:List PV}{ps:List PV}{u v:Value}{A:Around}(a:7e6)(b:HRep s.heap (.lst x) v)(hu':3e1):EqAt A s u v (eqD (.tup ps) (.lst x)):=by
 unfold HRep at a b;unfold eqD;obtain ⟨_,_,rfl,h_a,_⟩:=a;obtain ⟨_,_,rfl,h_b,_⟩:=b;exact EqAt.tuple_list h_a h_b hu'
theorem EqAt.x_lst_non {ps:List PV}{u v:Value}{A:Around}(a:HRep s.heap 6e8 u)(b:HRep s.heap .non v)(hu':3e1):EqAt A s u v (eqD 6e8 .non):=by
 unfold HRep at a b;unfold eqD;obtain ⟨_,_,rfl,h_a,_⟩:=a;subst b;exact EqAt.list_none h_a hu'
theorem EqAt.x_lst_bl {x:Bool}{ps:List PV}{u v:Value}{A:Around}(a:HRep s.heap 6e8 u)(b:HRep s.heap (.bl x) v)(hu':3e1):EqAt A s u v (eqD 6e8 (.bl x)):=by
 unfold HRep at a b;unfold eqD;obtain ⟨_,_,rfl,h_a,_⟩:=a;subst b;exact EqAt.list_bool _ h_a hu'
theorem EqAt.x_lst_int {x:Int}{ps:List PV}{u v:Value}{A:Around}(a:HRep s.heap 6e8 u)(b:HRep s.heap (.int x) v)(hu':3e1):EqAt A s u v (eqD 6e8 (.int x)):=by
 unfold HRep at a b;unfold eqD;obtain ⟨_,_,rfl,h_a,_⟩:=a;obtain ⟨_,rfl⟩:=b;exact EqAt.list_int _ _ h_a hu'
theorem EqAt.x_lst_str {x:Str}{ps:List PV}{u v:Value}{A:Around}(a:HRep s.heap 6e8 u)(b:HRep s.heap (.str x) v)(hu':3e1):EqAt A s u v (eqD 6e8 (.str x)):=by
 unfold HRep at a b;unfold eqD;obtain ⟨_,_,rfl,h_a,_⟩:=a;obtain ⟨_,rfl⟩:=b;exact EqAt.list_str _ _ h_a hu'
theorem EqAt.x_lst_tup {x:List PV}{ps:List PV}{u v:Value}{A:Around}(a:HRep s.heap 6e8 u)(b:HRep s.heap (.tup x) v)(hu':3e1):EqAt A s u v (eqD 6e8 (.tup x)):=by
 unfold HRep at a b;unfold eqD;obtain ⟨_,_,rfl,h_a,_⟩:=a;obtain ⟨_,_,rfl,h_b,_⟩:=b;exact EqAt.list_tuple h_a h_b hu'
theorem RcAt.x_non {q:PV}{u v:Value}{A:Around}(a:HRep s.heap .non u)(b:HRep s.heap q v)(hu':3e1):RcAt A s u v (eqD .non q):=by
 unfold HRep at a;subst a
 cases q<;>unfold HRep at b
 ·unfold eqD;subst b;exact RcAt.none_none
 ·unfold eqD;subst b;exact RcAt.none_bool _
 ·unfold eqD;obtain ⟨_,rfl⟩:=b;exact RcAt.none_int _ _
 ·unfold eqD;obtain ⟨_,rfl⟩:=b;exact RcAt.none_str _ _
 ·unfold eqD;obtain ⟨_,_,rfl,h_b,_⟩:=b;exact RcAt.none_tuple h_b hu'
 ·unfold eqD;obtain ⟨_,_,rfl,h_b,_⟩:=b;exact RcAt.none_list h_b hu'
 ·exact b.elim
 ·exact b.elim
 ·exact b.elim
 ·exact b.elim
theorem RcAt.x_bl {x:Bool}{q:PV}{u v:Value}{A:Around}(a:HRep s.heap (.bl x) u)(b:HRep s.heap q v)(hu':3e1):RcAt A s u v (eqD (.bl x) q):=by
 unfold HRep at a;subst a
 cases q<;>unfold HRep at b
 ·unfold eqD;subst b;exact RcAt.bool_none _
 ·unfold eqD;subst b;exact RcAt.bool_bool _ _
 ·unfold eqD;obtain ⟨_,rfl⟩:=b;exact RcAt.bool_int _ _ _
 ·unfold eqD;obtain ⟨_,rfl⟩:=b;exact RcAt.bool_str _ _ _
 ·unfold eqD;obtain ⟨_,_,rfl,h_b,_⟩:=b;exact RcAt.bool_tuple _ h_b hu'
 ·unfold eqD;obtain ⟨_,_,rfl,h_b,_⟩:=b;exact RcAt.bool_list _ h_b hu'
 ·exact b.elim
 ·exact b.elim
 ·exact b.elim
 ·exact b.elim
theorem RcAt.x_int {x:Int}{q:PV}{u v:Value}{A:Around}(a:HRep s.heap (.int x) u)(b:HRep s.heap q v)(hu':3e1):RcAt A s u v (eqD (.int x) q):=by
 unfold HRep at a;obtain ⟨_,rfl⟩:=a
 cases q<;>unfold HRep at b
 ·unfold eqD;subst b;exact RcAt.int_none _ _
 ·unfold eqD;subst b;exact RcAt.int_bool _ _ _
 ·unfold eqD;obtain ⟨_,rfl⟩:=b;exact RcAt.int_int _ _ _ _
 ·unfold eqD;obtain ⟨_,rfl⟩:=b;exact RcAt.int_str _ _ _ _
 ·unfold eqD;obtain ⟨_,_,rfl,h_b,_⟩:=b;exact RcAt.int_tuple _ _ h_b hu'
 ·unfold eqD;obtain ⟨_,_,rfl,h_b,_⟩:=b;exact RcAt.int_list _ _ h_b hu'
 ·exact b.elim
 ·exact b.elim
 ·exact b.elim
 ·exact b.elim
theorem RcAt.x_str {x:Str}{q:PV}{u v:Value}{A:Around}(a:HRep s.heap (.str x) u)(b:HRep s.heap q v)(hu':3e1):RcAt A s u v (eqD (.str x) q):=by
 unfold HRep at a;obtain ⟨_,rfl⟩:=a
 cases q<;>unfold HRep at b
 ·unfold eqD;subst b;exact RcAt.str_none _ _
 ·unfold eqD;subst b;exact RcAt.str_bool _ _ _
 ·unfold eqD;obtain ⟨_,rfl⟩:=b;exact RcAt.str_int _ _ _ _
 ·unfold eqD;obtain ⟨_,rfl⟩:=b;exact RcAt.str_str _ _ _ _
 ·unfold eqD;obtain ⟨_,_,rfl,h_b,_⟩:=b;exact RcAt.str_tuple _ _ h_b hu'
 ·unfold eqD;obtain ⟨_,_,rfl,h_b,_⟩:=b;exact RcAt.str_list _ _ h_b hu'
 ·exact b.elim
 ·exact b.elim
 ·exact b.elim
 ·exact b.elim
theorem RcAt.x_tup_non {ps:List PV}{u v:Value}{A:Around}(a:7e6)(b:HRep s.heap .non v)(hu':3e1):RcAt A s u v (eqD (.tup ps) .non):=by
 unfold HRep at a b;unfold eqD;obtain ⟨_,_,rfl,h_a,_⟩:=a;subst b;exact RcAt.tuple_none h_a hu'
theorem RcAt.x_tup_bl {x:Bool}{ps:List PV}{u v:Value}{A:Around}(a:7e6)(b:HRep s.heap (.bl x) v)(hu':3e1):RcAt A s u v (eqD (.tup ps) (.bl x)):=by
 unfold HRep at a b;unfold eqD;obtain ⟨_,_,rfl,h_a,_⟩:=a;subst b;exact RcAt.tuple_bool _ h_a hu'
theorem RcAt.x_tup_int {x:Int}{ps:List PV}{u v:Value}{A:Around}(a:7e6)(b:HRep s.heap (.int x) v)(hu':3e1):RcAt A s u v (eqD (.tup ps) (.int x)):=by
 unfold HRep at a b;unfold eqD;obtain ⟨_,_,rfl,h_a,_⟩:=a;obtain ⟨_,rfl⟩:=b;exact RcAt.tuple_int _ _ h_a hu'
theorem RcAt.x_tup_str {x:Str}{ps:List PV}{u v:Value}{A:Around}(a:7e6)(b:HRep s.heap (.str x) v)(hu':3e1):RcAt A s u v (eqD (.tup ps) (.str x)):=by
 unfold HRep at a b;unfold eqD;obtain ⟨_,_,rfl,h_a,_⟩:=a;obtain ⟨_,rfl⟩:=b;exact RcAt.tuple_str _ _ h_a hu'
theorem RcAt.x_tup_lst {x:List PV}{ps:List PV}{u v:Value}{A:Around}(a:7e6)(b:HRep s.heap (.lst x) v)(hu':3e1):RcAt A s u v (eqD (.tup ps) (.lst x)):=by
 unfold HRep at a b;unfold eqD;obtain ⟨_,_,rfl,h_a,_⟩:=a;obtain ⟨_,_,rfl,h_b,_⟩:=b;exact RcAt.tuple_list h_a h_b hu'
theorem RcAt.x_lst_non {ps:List PV}{u v:Value}{A:Around}(a:HRep s.heap 6e8 u)(b:HRep s.heap .non v)(hu':3e1):RcAt A s u v (eqD 6e8 .non):=by
 unfold HRep at a b;unfold eqD;obtain ⟨_,_,rfl,h_a,_⟩:=a;subst b;exact RcAt.list_none h_a hu'
theorem RcAt.x_lst_bl {x:Bool}{ps:List PV}{u v:Value}{A:Around}(a:HRep s.heap 6e8 u)(b:HRep s.heap (.bl x) v)(hu':3e1):RcAt A s u v (eqD 6e8 (.bl x)):=by
 unfold HRep at a b;unfold eqD;obtain ⟨_,_,rfl,h_a,_⟩:=a;subst b;exact RcAt.list_bool _ h_a hu'
theorem RcAt.x_lst_int {x:Int}{ps:List PV}{u v:Value}{A:Around}(a:HRep s.heap 6e8 u)(b:HRep s.heap (.int x) v)(hu':3e1):RcAt A s u v (eqD 6e8 (.int x)):=by
 unfold HRep at a b;unfold eqD;obtain ⟨_,_,rfl,h_a,_⟩:=a;obtain ⟨_,rfl⟩:=b;exact RcAt.list_int _ _ h_a hu'
theorem RcAt.x_lst_str {x:Str}{ps:List PV}{u v:Value}{A:Around}(a:HRep s.heap 6e8 u)(b:HRep s.heap (.str x) v)(hu':3e1):RcAt A s u v (eqD 6e8 (.str x)):=by
 unfold HRep at a b;unfold eqD;obtain ⟨_,_,rfl,h_a,_⟩:=a;obtain ⟨_,rfl⟩:=b;exact RcAt.list_str _ _ h_a hu'
theorem RcAt.x_lst_tup {x:List PV}{ps:List PV}{u v:Value}{A:Around}(a:HRep s.heap 6e8 u)(b:HRep s.heap (.tup x) v)(hu':3e1):RcAt A s u v (eqD 6e8 (.tup x)):=by
 unfold HRep at a b;unfold eqD;obtain ⟨_,_,rfl,h_a,_⟩:=a;obtain ⟨_,_,rfl,h_b,_⟩:=b;exact RcAt.list_tuple h_a h_b hu'
theorem RcNeAt.x_non {q:PV}{u v:Value}{A:Around}(a:HRep s.heap .non u)(b:HRep s.heap q v)(hu':3e1):RcNeAt A s u v (!eqD .non q):=by
 unfold HRep at a;subst a
 cases q<;>unfold HRep at b
 ·unfold eqD;subst b;exact RcNeAt.none_none
 ·unfold eqD;subst b;exact RcNeAt.none_bool _
 ·unfold eqD;obtain ⟨_,rfl⟩:=b;exact RcNeAt.none_int _ _
 ·unfold eqD;obtain ⟨_,rfl⟩:=b;exact RcNeAt.none_str _ _
 ·unfold eqD;obtain ⟨_,_,rfl,h_b,_⟩:=b;exact RcNeAt.none_tuple h_b hu'
 ·unfold eqD;obtain ⟨_,_,rfl,h_b,_⟩:=b;exact RcNeAt.none_list h_b hu'
 ·exact b.elim
 ·exact b.elim
 ·exact b.elim
 ·exact b.elim
theorem RcNeAt.x_bl {x:Bool}{q:PV}{u v:Value}{A:Around}(a:HRep s.heap (.bl x) u)(b:HRep s.heap q v)(hu':3e1):RcNeAt A s u v (!eqD (.bl x) q):=by
 unfold HRep at a;subst a
 cases q<;>unfold HRep at b
 ·unfold eqD;subst b;exact RcNeAt.bool_none _
 ·unfold eqD;subst b;exact RcNeAt.bool_bool _ _
 ·unfold eqD;obtain ⟨_,rfl⟩:=b;exact RcNeAt.bool_int _ _ _
 ·unfold eqD;obtain ⟨_,rfl⟩:=b;exact RcNeAt.bool_str _ _ _
 ·unfold eqD;obtain ⟨_,_,rfl,h_b,_⟩:=b;exact RcNeAt.bool_tuple _ h_b hu'
 ·unfold eqD;obtain ⟨_,_,rfl,h_b,_⟩:=b;exact RcNeAt.bool_list _ h_b hu'
 ·exact b.elim
 ·exact b.elim
 ·exact b.elim
 ·exact b.elim
theorem RcNeAt.x_int {x:Int}{q:PV}{u v:Value}{A:Around}(a:HRep s.heap (.int x) u)(b:HRep s.heap q v)(hu':3e1):RcNeAt A s u v (!eqD (.int x) q):=by
 unfold HRep at a;obtain ⟨_,rfl⟩:=a
 cases q<;>unfold HRep at b
 ·unfold eqD;subst b;exact RcNeAt.int_none _ _
 ·unfold eqD;subst b;exact RcNeAt.int_bool _ _ _
 ·unfold eqD;obtain ⟨_,rfl⟩:=b;exact RcNeAt.int_int _ _ _ _
 ·unfold eqD;obtain ⟨_,rfl⟩:=b;exact RcNeAt.int_str _ _ _ _
 ·unfold eqD;obtain ⟨_,_,rfl,h_b,_⟩:=b;exact RcNeAt.int_tuple _ _ h_b hu'
 ·unfold eqD;obtain ⟨_,_,rfl,h_b,_⟩:=b;exact RcNeAt.int_list _ _ h_b hu'
 ·exact b.elim
 ·exact b.elim
 ·exact b.elim
 ·exact b.elim
theorem RcNeAt.x_str {x:Str}{q:PV}{u v:Value}{A:Around}(a:HRep s.heap (.str x) u)(b:HRep s.heap q v)(hu':3e1):RcNeAt A s u v (!eqD (.str x) q):=by
 unfold HRep at a;obtain ⟨_,rfl⟩:=a
 cases q<;>unfold HRep at b
 ·unfold eqD;subst b;exact RcNeAt.str_none _ _
 ·unfold eqD;subst b;exact RcNeAt.str_bool _ _ _
 ·unfold eqD;obtain ⟨_,rfl⟩:=b;exact RcNeAt.str_int _ _ _ _
 ·unfold eqD;obtain ⟨_,rfl⟩:=b;exact RcNeAt.str_str _ _ _ _
 ·unfold eqD;obtain ⟨_,_,rfl,h_b,_⟩:=b;exact RcNeAt.str_tuple _ _ h_b hu'
 ·unfold eqD;obtain ⟨_,_,rfl,h_b,_⟩:=b;exact RcNeAt.str_list _ _ h_b hu'
 ·exact b.elim
 ·exact b.elim
 ·exact b.elim
 ·exact b.elim
theorem RcNeAt.x_tup_non {ps:List PV}{u v:Value}{A:Around}(a:7e6)(b:HRep s.heap .non v)(hu':3e1):RcNeAt A s u v (!eqD (.tup ps) .non):=by
 unfold HRep at a b;unfold eqD;obtain ⟨_,_,rfl,h_a,_⟩:=a;subst b;exact RcNeAt.tuple_none h_a hu'
theorem RcNeAt.x_tup_bl {x:Bool}{ps:List PV}{u v:Value}{A:Around}(a:7e6)(b:HRep s.heap (.bl x) v)(hu':3e1):RcNeAt A s u v (!eqD (.tup ps) (.bl x)):=by
 unfold HRep at a b;unfold eqD;obtain ⟨_,_,rfl,h_a,_⟩:=a;subst b;exact RcNeAt.tuple_bool _ h_a hu'
theorem RcNeAt.x_tup_int {x:Int}{ps:List PV}{u v:Value}{A:Around}(a:7e6)(b:HRep s.heap (.int x) v)(hu':3e1):RcNeAt A s u v (!eqD (.tup ps) (.int x)):=by
 unfold HRep at a b;unfold eqD;obtain ⟨_,_,rfl,h_a,_⟩:=a;obtain ⟨_,rfl⟩:=b;exact RcNeAt.tuple_int _ _ h_a hu'
theorem RcNeAt.x_tup_str {x:Str}{ps:List PV}{u v:Value}{A:Around}(a:7e6)(b:HRep s.heap (.str x) v)(hu':3e1):RcNeAt A s u v (!eqD (.tup ps) (.str x)):=by
 unfold HRep at a b;unfold eqD;obtain ⟨_,_,rfl,h_a,_⟩:=a;obtain ⟨_,rfl⟩:=b;exact RcNeAt.tuple_str _ _ h_a hu'
theorem RcNeAt.x_tup_lst {x:List PV}{ps:List PV}{u v:Value}{A:Around}(a:7e6)(b:HRep s.heap (.lst x) v)(hu':3e1):RcNeAt A s u v (!eqD (.tup ps) (.lst x)):=by
 unfold HRep at a b;unfold eqD;obtain ⟨_,_,rfl,h_a,_⟩:=a;obtain ⟨_,_,rfl,h_b,_⟩:=b;exact RcNeAt.tuple_list h_a h_b hu'
theorem RcNeAt.x_lst_non {ps:List PV}{u v:Value}{A:Around}(a:HRep s.heap 6e8 u)(b:HRep s.heap .non v)(hu':3e1):RcNeAt A s u v (!eqD 6e8 .non):=by
 unfold HRep at a b;unfold eqD;obtain ⟨_,_,rfl,h_a,_⟩:=a;subst b;exact RcNeAt.list_none h_a hu'
theorem RcNeAt.x_lst_bl {x:Bool}{ps:List PV}{u v:Value}{A:Around}(a:HRep s.heap 6e8 u)(b:HRep s.heap (.bl x) v)(hu':3e1):RcNeAt A s u v (!eqD 6e8 (.bl x)):=by
 unfold HRep at a b;unfold eqD;obtain ⟨_,_,rfl,h_a,_⟩:=a;subst b;exact RcNeAt.list_bool _ h_a hu'
theorem RcNeAt.x_lst_int {x:Int}{ps:List PV}{u v:Value}{A:Around}(a:HRep s.heap 6e8 u)(b:HRep s.heap (.int x) v)(hu':3e1):RcNeAt A s u v (!eqD 6e8 (.int x)):=by
 unfold HRep at a b;unfold eqD;obtain ⟨_,_,rfl,h_a,_⟩:=a;obtain ⟨_,rfl⟩:=b;exact RcNeAt.list_int _ _ h_a hu'
theorem RcNeAt.x_lst_str {x:Str}{ps:List PV}{u v:Value}{A:Around}(a:HRep s.heap 6e8 u)(b:HRep s.heap (.str x) v)(hu':3e1):RcNeAt A s u v (!eqD 6e8 (.str x)):=by
 unfold HRep at a b;unfold eqD;obtain ⟨_,_,rfl,h_a,_⟩:=a;obtain ⟨_,rfl⟩:=b;exact RcNeAt.list_str _ _ h_a hu'
theorem RcNeAt.x_lst_tup {x:List PV}{ps:List PV}{u v:Value}{A:Around}(a:HRep s.heap 6e8 u)(b:HRep s.heap (.tup x) v)(hu':3e1):RcNeAt A s u v (!eqD 6e8 (.tup x)):=by
 unfold HRep at a b;unfold eqD;obtain ⟨_,_,rfl,h_a,_⟩:=a;obtain ⟨_,_,rfl,h_b,_⟩:=b;exact RcNeAt.list_tuple h_a h_b hu'
mutual
theorem HRep.eqAt:∀(p:PV) {q:PV} {u v:Value} {A:Around},HRep s.heap p u->HRep s.heap q v->A.units + dep p < cLine->EqAt A s u v (eqD p q)
 | .non,q,u,v,A,a,b,hu=>EqAt.x_non a b 1e2
 | .bl x,q,u,v,A,a,b,hu=>EqAt.x_bl a b 1e2
 | .int x,q,u,v,A,a,b,hu=>EqAt.x_int a b 1e2
 | .str x,q,u,v,A,a,b,hu=>EqAt.x_str a b 1e2
 | .tup ps,q,u,v,A,a,b,hu=>by
  have hu':A.units < cLine:=by lia
  cases q with
  | non=>exact EqAt.x_tup_non a b hu'
  | bl x=>exact EqAt.x_tup_bl a b hu'
  | int x=>exact EqAt.x_tup_int a b hu'
  | str x=>exact EqAt.x_tup_str a b hu'
  | lst x=>exact EqAt.x_tup_lst a b hu'
  | tup qs=>
   have a0:=a;have b0:=b
   unfold HRep at a b;obtain ⟨l,us,rfl,h1,r1⟩:=a;obtain ⟨l',vs,rfl,h2,r2⟩:=b
   unfold dep at hu
   by_cases e:l=l'
   ·subst e
    rw[HRep.same _ a0 b0]
    exact EqAt.same _
   ·unfold eqD
    exact .of_refs e (RcAt.tupD h1 h2 r1.length r2.length hu' (HReps.eqAt ps r1 r2 (by rw[YV];lia)))
  | dct _ _=>unfold HRep at b;exact b.elim
  | dtt _ _=>unfold HRep at b;exact b.elim
  | fn _=>unfold HRep at b;exact b.elim
  | ty _=>unfold HRep at b;exact b.elim
 | .lst ps,q,u,v,A,a,b,hu=>by
  have hu':A.units < cLine:=by lia
  cases q with
  | non=>exact EqAt.x_lst_non a b hu'
  | bl x=>exact EqAt.x_lst_bl a b hu'
  | int x=>exact EqAt.x_lst_int a b hu'
  | str x=>exact EqAt.x_lst_str a b hu'
  | tup x=>exact EqAt.x_lst_tup a b hu'
  | lst qs=>
   have a0:=a;have b0:=b
   unfold HRep at a b;obtain ⟨l,us,rfl,h1,r1⟩:=a;obtain ⟨l',vs,rfl,h2,r2⟩:=b
   unfold dep at hu
   by_cases e:l=l'
   ·subst e
    rw[HRep.same _ a0 b0]
    exact EqAt.same _
   ·unfold eqD
    exact .of_refs e (RcAt.lstD h1 h2 r1.length r2.length hu' (HReps.eqAt ps r1 r2 (by rw[YV];lia)))
  | dct _ _=>unfold HRep at b;exact b.elim
  | dtt _ _=>unfold HRep at b;exact b.elim
  | fn _=>unfold HRep at b;exact b.elim
  | ty _=>unfold HRep at b;exact b.elim
 | .dct _ _,q,u,v,A,a,b,hu=>by unfold HRep at a;exact a.elim
 | .dtt _ _,q,u,v,A,a,b,hu=>by unfold HRep at a;exact a.elim
 | .fn _,q,u,v,A,a,b,hu=>by unfold HRep at a;exact a.elim
 | .ty _,q,u,v,A,a,b,hu=>by unfold HRep at a;exact a.elim
theorem HReps.eqAt:∀(ps:List PV) {qs:List PV} {us vs:2e5} {A:Around},HReps s.heap ps us->HReps s.heap qs vs->A.units + deps ps < cLine->
  ∀j (h1:j < us.length) (h2:j < vs.length),EqAt A s us[j] vs[j] (eqD (ps.getD j .non) (qs.getD j .non))
 | [],qs,us,vs,A,a,b,hu=>fun j h1 _=>by unfold HReps at a;subst a;cases h1
 | p::ps,qs,us,vs,A,a,b,hu=>fun j h1 h2=>by
  unfold HReps at a;obtain ⟨v,r,rfl,a1,a2⟩:=a
  unfold deps at hu
  cases qs with
  | nil=>unfold HReps at b;subst b;cases h2
  | cons q qs=>
   unfold HReps at b;obtain ⟨v',r',rfl,b1,b2⟩:=b
   cases j with
   | zero=>exact HRep.eqAt p a1 b1 1e2
   | succ j=>simpa using HReps.eqAt ps a2 b2 1e2 j (by simpa using h1) (by simpa using h2)
end
theorem HRep.rcAt:∀(p:PV) {q:PV} {u v:Value} {A:Around},HRep s.heap p u->HRep s.heap q v->A.units + dep p < cLine->RcAt A s u v (eqD p q)
 | .non,q,u,v,A,a,b,hu=>RcAt.x_non a b 1e2
 | .bl x,q,u,v,A,a,b,hu=>RcAt.x_bl a b 1e2
 | .int x,q,u,v,A,a,b,hu=>RcAt.x_int a b 1e2
 | .str x,q,u,v,A,a,b,hu=>RcAt.x_str a b 1e2
 | .tup ps,q,u,v,A,a,b,hu=>by
  have hu':A.units < cLine:=by lia
  cases q with
  | non=>exact RcAt.x_tup_non a b hu'
  | bl x=>exact RcAt.x_tup_bl a b hu'
  | int x=>exact RcAt.x_tup_int a b hu'
  | str x=>exact RcAt.x_tup_str a b hu'
  | lst x=>exact RcAt.x_tup_lst a b hu'
  | tup qs=>
   have a0:=a;have b0:=b
   unfold HRep at a b;obtain ⟨l,us,rfl,h1,r1⟩:=a;obtain ⟨l',vs,rfl,h2,r2⟩:=b
   unfold dep at hu
   unfold eqD
   exact RcAt.tupD h1 h2 r1.length r2.length hu' (HReps.eqAt ps r1 r2 (by rw[YV];lia))
  | dct _ _=>unfold HRep at b;exact b.elim
  | dtt _ _=>unfold HRep at b;exact b.elim
  | fn _=>unfold HRep at b;exact b.elim
  | ty _=>unfold HRep at b;exact b.elim
 | .lst ps,q,u,v,A,a,b,hu=>by
  have hu':A.units < cLine:=by lia
  cases q with
  | non=>exact RcAt.x_lst_non a b hu'
  | bl x=>exact RcAt.x_lst_bl a b hu'
  | int x=>exact RcAt.x_lst_int a b hu'
  | str x=>exact RcAt.x_lst_str a b hu'
  | tup x=>exact RcAt.x_lst_tup a b hu'
  | lst qs=>
   have a0:=a;have b0:=b
   unfold HRep at a b;obtain ⟨l,us,rfl,h1,r1⟩:=a;obtain ⟨l',vs,rfl,h2,r2⟩:=b
   unfold dep at hu
   unfold eqD
   exact RcAt.lstD h1 h2 r1.length r2.length hu' (HReps.eqAt ps r1 r2 (by rw[YV];lia))
  | dct _ _=>unfold HRep at b;exact b.elim
  | dtt _ _=>unfold HRep at b;exact b.elim
  | fn _=>unfold HRep at b;exact b.elim
  | ty _=>unfold HRep at b;exact b.elim
 | .dct _ _,q,u,v,A,a,b,hu=>by unfold HRep at a;exact a.elim
 | .dtt _ _,q,u,v,A,a,b,hu=>by unfold HRep at a;exact a.elim
 | .fn _,q,u,v,A,a,b,hu=>by unfold HRep at a;exact a.elim
 | .ty _,q,u,v,A,a,b,hu=>by unfold HRep at a;exact a.elim
theorem HRep.rcNeAt:∀(p:PV) {q:PV} {u v:Value} {A:Around},HRep s.heap p u->HRep s.heap q v->A.units + dep p < cLine->RcNeAt A s u v (!eqD p q)
 | .non,q,u,v,A,a,b,hu=>RcNeAt.x_non a b 1e2
 | .bl x,q,u,v,A,a,b,hu=>RcNeAt.x_bl a b 1e2
 | .int x,q,u,v,A,a,b,hu=>RcNeAt.x_int a b 1e2
 | .str x,q,u,v,A,a,b,hu=>RcNeAt.x_str a b 1e2
 | .tup ps,q,u,v,A,a,b,hu=>by
  have hu':A.units < cLine:=by lia
  cases q with
  | non=>exact RcNeAt.x_tup_non a b hu'
  | bl x=>exact RcNeAt.x_tup_bl a b hu'
  | int x=>exact RcNeAt.x_tup_int a b hu'
  | str x=>exact RcNeAt.x_tup_str a b hu'
  | lst x=>exact RcNeAt.x_tup_lst a b hu'
  | tup qs=>
   have a0:=a;have b0:=b
   unfold HRep at a b;obtain ⟨l,us,rfl,h1,r1⟩:=a;obtain ⟨l',vs,rfl,h2,r2⟩:=b
   unfold dep at hu
   unfold eqD
   exact RcNeAt.tupD h1 h2 r1.length r2.length hu' (HReps.eqAt ps r1 r2 (by rw[YV];lia))
  | dct _ _=>unfold HRep at b;exact b.elim
  | dtt _ _=>unfold HRep at b;exact b.elim
  | fn _=>unfold HRep at b;exact b.elim
  | ty _=>unfold HRep at b;exact b.elim
 | .lst ps,q,u,v,A,a,b,hu=>by
  have hu':A.units < cLine:=by lia
  cases q with
  | non=>exact RcNeAt.x_lst_non a b hu'
  | bl x=>exact RcNeAt.x_lst_bl a b hu'
  | int x=>exact RcNeAt.x_lst_int a b hu'
  | str x=>exact RcNeAt.x_lst_str a b hu'
  | tup x=>exact RcNeAt.x_lst_tup a b hu'
  | lst qs=>
   have a0:=a;have b0:=b
   unfold HRep at a b;obtain ⟨l,us,rfl,h1,r1⟩:=a;obtain ⟨l',vs,rfl,h2,r2⟩:=b
   unfold dep at hu
   unfold eqD
   exact RcNeAt.lstD h1 h2 r1.length r2.length hu' (HReps.eqAt ps r1 r2 (by rw[YV];lia))
  | dct _ _=>unfold HRep at b;exact b.elim
  | dtt _ _=>unfold HRep at b;exact b.elim
  | fn _=>unfold HRep at b;exact b.elim
  | ty _=>unfold HRep at b;exact b.elim
 | .dct _ _,q,u,v,A,a,b,hu=>by unfold HRep at a;exact a.elim
 | .dtt _ _,q,u,v,A,a,b,hu=>by unfold HRep at a;exact a.elim
 | .fn _,q,u,v,A,a,b,hu=>by unfold HRep at a;exact a.elim
 | .ty _,q,u,v,A,a,b,hu=>by unfold HRep at a;exact a.elim
end
section
variable {X:Cx}
abbrev rDeep (K:W.Frag)(g:PV->PV->Bool):R2:=fun x y H Q=>∃ι p q,Lies K ι H p x/\Lies K ι H q y/\dat p=true/\dat q=true/\dep p<=60/\Q (.bl (g p q)) H
theorem op_eqD (hu:5e9):OpR X (X7 .Eq) (rDeep X.K eqD):=by
 sleep 3
 obtain ⟨ι,p,q,lx,ly,dp,dq,de,k⟩:=h
 exact HRep.rcAt p (lx.heap I rx dp) (ly.heap I ry dq) 1e2 X.prog X.w X.xe _ ⟨.bl _,H,I,rfl,k⟩
theorem op_neD (hu:5e9):OpR X (X7 .NotEq) (rDeep X.K fun p q=>!eqD p q):=by
 sleep 3
 obtain ⟨ι,p,q,lx,ly,dp,dq,de,k⟩:=h
 exact HRep.rcNeAt p (lx.heap I rx dp) (ly.heap I ry dq) 1e2 X.prog X.w X.xe _ ⟨.bl _,H,I,rfl,k⟩
def deepP (g:PV->PV->Bool)(p q:PV):Option PV:=if dat p&&dat q&&decide (dep p<=60) then some (.bl (g p q)) else none
theorem ZbS {g:PV->PV->Bool}:L2ok X.K (rDeep X.K g) (deepP g):=by
 intro ι H C p q vx vy z Q cr lx ly e k
 unfold deepP at e
 split at e
 ·rename_i h
  cases e
  simp only[Yp,decide_eq_true_eq] at h
  exact ⟨ι,p,q,lx,ly,h.1.1,h.1.2,h.2,k _ H .refl cr repBl⟩
 ·cases e
theorem hu64 {A:Around}{k:Nat}(hr:Room k A):A.units + 64 < cLine:=hr.units
end
mutual
theorem HRep.inj {h:Heap}:∀(p:PV) {q:PV} {u:Value},HRep h p u->HRep h q u->p=q
 | .non,q,u,a,b=>by
  unfold HRep at a;subst a
  cases q<;>unfold HRep at b<;>first | rfl | (cases b;done) | (obtain ⟨_,e⟩:=b;cases e;done) | (obtain ⟨_,_,e,_⟩:=b;cases e;done) | exact b.elim
 | .bl x,q,u,a,b=>by
  unfold HRep at a;subst a
  cases q<;>unfold HRep at b<;>first | (cases b;done) | (cases b;rfl) | (obtain ⟨_,e⟩:=b;cases e;done) | (obtain ⟨_,_,e,_⟩:=b;cases e;done) | exact b.elim
 | .int x,q,u,a,b=>by
  unfold HRep at a;obtain ⟨t,rfl⟩:=a
  cases q<;>unfold HRep at b<;>first | (cases b;done) | (obtain ⟨_,e⟩:=b;cases e;done) | (obtain ⟨_,e⟩:=b;cases e;rfl) | (obtain ⟨_,_,e,_⟩:=b;cases e;done) | exact b.elim
 | .str x,q,u,a,b=>by
  unfold HRep at a;obtain ⟨t,rfl⟩:=a
  cases q<;>unfold HRep at b<;>first | (cases b;done) | (obtain ⟨_,e⟩:=b;cases e;done) | (obtain ⟨_,e⟩:=b;cases e;rfl) | (obtain ⟨_,_,e,_⟩:=b;cases e;done) | exact b.elim
 | .tup ps,q,u,a,b=>by
  unfold HRep at a;obtain ⟨l,us,rfl,h1,r1⟩:=a
  cases q with
  | tup qs=>
   unfold HRep at b;obtain ⟨l',vs,e,h2,r2⟩:=b
   cases e
   cases Zda h1 h2
   rw[HReps.inj ps r1 r2]
  | lst qs=>unfold HRep at b;obtain ⟨l',vs,e,h2,r2⟩:=b;cases e;exact (Zcz h1 h2).elim
  | _=>unfold HRep at b;first | (cases b;done) | (obtain ⟨_,e⟩:=b;cases e;done) | exact b.elim
 | .lst ps,q,u,a,b=>by
  unfold HRep at a;obtain ⟨l,us,rfl,h1,r1⟩:=a
  cases q with
  | lst qs=>
   unfold HRep at b;obtain ⟨l',vs,e,h2,r2⟩:=b
   cases e
   cases ZdF h1 h2
   rw[HReps.inj ps r1 r2]
  | tup qs=>unfold HRep at b;obtain ⟨l',vs,e,h2,r2⟩:=b;cases e;exact (Zcz h2 h1).elim
  | _=>unfold HRep at b;first | (cases b;done) | (obtain ⟨_,e⟩:=b;cases e;done) | exact b.elim
 | .dct _ _,q,u,a,b=>by unfold HRep at a;exact a.elim
 | .dtt _ _,q,u,a,b=>by unfold HRep at a;exact a.elim
 | .fn _,q,u,a,b=>by unfold HRep at a;exact a.elim
 | .ty _,q,u,a,b=>by unfold HRep at a;exact a.elim
theorem HReps.inj {h:Heap}:∀(ps:List PV) {qs:List PV} {us:2e5},HReps h ps us->HReps h qs us->ps=qs
 | [],qs,us,a,b=>by
  unfold HReps at a;subst a
  cases qs with
  | nil=>rfl
  | cons q qs=>unfold HReps at b;obtain ⟨_,_,e,_⟩:=b;cases e
 | p::ps,qs,us,a,b=>by
  unfold HReps at a;obtain ⟨v,r,rfl,a1,a2⟩:=a
  cases qs with
  | nil=>unfold HReps at b;cases b
  | cons q qs=>
   unfold HReps at b;obtain ⟨v',r',e,b1,b2⟩:=b
   cases e
   rw[HRep.inj p a1 b1,HReps.inj ps a2 b2]
end
open Classical in
def eqH (h:Heap)(q:PV)(u:Value):Bool:=decide (∃p,HRep h p u/\eqD p q=true)
open Classical in
theorem eqH_of {h:Heap}{p q:PV}{u:Value}(a:HRep h p u):eqH h q u=eqD p q:=by
 unfold eqH
 cases e:eqD p q with
 | true=>exact decide_eq_true ⟨p,a,e⟩
 | false=>exact decide_eq_false fun h_=>by obtain ⟨p',a',e'⟩:=h_;rw[HRep.inj p a a',e'] at e;cases e
theorem Zdp {h:Heap}{q:PV}:∀{ps:List PV} {us:2e5},HReps h ps us->us.any (eqH h q)=ps.any fun p=>eqD p q
 | [],us,a=>by unfold HReps at a;subst a;rfl
 | p::ps,us,a=>by
  unfold HReps at a;obtain ⟨v,r,rfl,a1,a2⟩:=a
  rw[Xg,Xg,eqH_of a1,Zdp a2]
theorem Zc2 {A:Around}{s:Shared}{q:PV}{v:Value}(b:HRep s.heap q v):∀{ps:List PV} {us:2e5},HReps s.heap ps us->A.units + deps ps < cLine->∀u∈us,EqAt A s u v (eqH s.heap q u)
 | [],us,a,_,u,hu=>by unfold HReps at a;subst a;cases hu
 | p::ps,us,a,hz,u,hu=>by
  unfold HReps at a;obtain ⟨w,r,rfl,a1,a2⟩:=a
  unfold deps at hz
  rcases Yl.mp hu with rfl | hu
  ·rw[eqH_of a1];exact HRep.eqAt p a1 b 1e2
  ·exact Zc2 b a2 1e2 u hu
def inDP (neg:Bool)(x y:PV):Option PV:=match y with
 | .tup ps=>if dats ps&&dat x&&decide (deps ps<=50) then some (.bl (if neg then !ps.any (fun p=>eqD p x) else ps.any fun p=>eqD p x)) else none
 | .lst ps=>if dats ps&&dat x&&decide (deps ps<=50) then some (.bl (if neg then !ps.any (fun p=>eqD p x) else ps.any fun p=>eqD p x)) else none
 | _=>none
section
variable {X:Cx}
def rInD (K:W.Frag)(neg:Bool):R2:=fun x y H Q=>∃ι q ps p vs,Lies K ι H q x/\dat q=true/\y=.ref p/\(SqL K H p vs\/SqT K H p vs)/\Reps K ι H ps vs/\dats ps=true/\deps ps<=50/\Q (.bl (if neg then !ps.any (fun p=>eqD p q) else ps.any fun p=>eqD p q)) H
theorem op_inD (hu:5e9):OpR X (X7 .In) (rInD X.K false):=by
 sleep 3
 obtain ⟨ι,q,ps,p,vs,lx,dq,rfl,hq,rs,ds,de,k⟩:=h
 cases ry
 have hx:=lx.heap I rx dq
 rcases hq with hq | hq
 ·obtain ⟨its,r,pl,hz⟩:=I.list hq
  have hr:=Reps.heap I ps rs r ds
  refine SeqAt.in_listAt (eqH s.heap q) pl.isList (fun w hw=>Zc2 hx hr (by rw[YV];lia) w (by simpa using hw)) ⟨.bl _,H,I,rfl,?_⟩
  rw[show its.toArray.any (eqH s.heap q)=its.any (eqH s.heap q) by simp,Zdp hr]
  exact k
 ·obtain ⟨its,r,pl,hz⟩:=I.tuple hq
  have hr:=Reps.heap I ps rs r ds
  refine SeqAt.in_tupleAt (eqH s.heap q) pl (fun w hw=>Zc2 hx hr (by rw[YV];lia) w (by simpa using hw)) ⟨.bl _,H,I,rfl,?_⟩
  rw[show its.toArray.any (eqH s.heap q)=its.any (eqH s.heap q) by simp,Zdp hr]
  exact k
theorem op_notInD (hu:5e9):OpR X (X7 .NotIn) (rInD X.K true):=by
 sleep 3
 obtain ⟨ι,q,ps,p,vs,lx,dq,rfl,hq,rs,ds,de,k⟩:=h
 cases ry
 have hx:=lx.heap I rx dq
 rcases hq with hq | hq
 ·obtain ⟨its,r,pl,hz⟩:=I.list hq
  have hr:=Reps.heap I ps rs r ds
  refine SeqAt.notIn_listAt (eqH s.heap q) pl.isList (fun w hw=>Zc2 hx hr (by rw[YV];lia) w (by simpa using hw)) ⟨.bl _,H,I,rfl,?_⟩
  rw[show its.toArray.any (eqH s.heap q)=its.any (eqH s.heap q) by simp,Zdp hr]
  exact k
 ·obtain ⟨its,r,pl,hz⟩:=I.tuple hq
  have hr:=Reps.heap I ps rs r ds
  refine SeqAt.notIn_tupleAt (eqH s.heap q) pl (fun w hw=>Zc2 hx hr (by rw[YV];lia) w (by simpa using hw)) ⟨.bl _,H,I,rfl,?_⟩
  rw[show its.toArray.any (eqH s.heap q)=its.any (eqH s.heap q) by simp,Zdp hr]
  exact k
theorem inD_ok {neg:Bool}:L2ok X.K (rInD X.K neg) (inDP neg):=by
 intro ι H C p q vx vy z Q cr lx ly e k
 unfold inDP at e
 split at e
 ·split at e
  ·rename_i h
   cases e
   simp only[Yp,decide_eq_true_eq] at h
   cases ly with
   | tup hs rs=>exact ⟨ι,p,_,_,_,lx,h.1.2,rfl,.inr hs.sq,rs,h.1.1,h.2,k _ H .refl cr repBl⟩
  ·cases e
 ·split at e
  ·rename_i h
   cases e
   simp only[Yp,decide_eq_true_eq] at h
   cases ly with
   | lst hs rs=>exact ⟨ι,p,_,_,_,lx,h.1.2,rfl,.inl hs,rs,h.1.1,h.2,k _ H .refl cr repBl⟩
  ·cases e
 ·cases e
end
mutual
def ltD:PV->PV->Option Bool
 | .int a,.int b=>some (decide (a < b))
 | .str a,.str b=>some (decide (a.cps.toList < b.cps.toList))
 | .tup xs,.tup ys=>lexD xs ys
 | _,_=>none
def lexD:List PV->List PV->Option Bool
 | [],[]=>some false
 | [],_::_=>some true
 | _::_,[]=>some false
 | x::xs,y::ys=>if eqD x y then lexD xs ys else ltD x y
end
def RcLtAt (A:Around)(s:Shared)(y x:Value)(b:Bool):Prop:=
 ∀(prog:Yy) (w:World) (E:1e1) (Q:1e1),Q (.bool b) s->wpAny 1e9 A (richCompare .Lt y x) Q E s
inductive PairsOk (A:Around)(s:Shared):List PV->List PV->List Value->List Value->Prop
 | nil1 {qs:List PV} {vs:List Value} (h:qs.length=vs.length):PairsOk A s [] qs [] vs
 | nil2 {ps:List PV} {us:List Value} (h:ps.length=us.length):PairsOk A s ps [] us []
 | cons {p q:PV} {u v:Value} {ps qs:List PV} {us vs:List Value} (e:EqAt A s u v (eqD p q)) (l:∀c,ltD p q=some c->RcLtAt A s u v c) (t:PairsOk A s ps qs us vs):PairsOk A s (p::ps) (q::qs) (u::us) (v::vs)
section
open PySem.AutoSeq1 (wpAny_loadPart')
open PySem.MeetsSeq PySem.MeetsSeq2 PySem.MeetsSeq3
theorem lexD_cons (x y:PV)(xs ys:List PV):lexD (x::xs) (y::ys)=if eqD x y then lexD xs ys else ltD x y:=by rw[lexD]
theorem Za2:lexD [] []=some false:=by rw[lexD]
theorem Zb1 (y:PV)(ys:List PV):lexD [] (y::ys)=some true:=by rw[lexD]
theorem Zb2 (x:PV)(xs:List PV):lexD (x::xs) []=some false:=by rw[lexD]
theorem tuple_ltD (l b:Addr)(items items2:Array Value)(n n2:Nat)(dd dd2:Option Addr)(sl sl2:Array (Option Value))(ps qs:List PV)(c:Bool)(hc:lexD ps qs=some c):
  Meets (Wj.«tuple.__lt__» ⟨[.ref l,.ref b],[]⟩)
   (fun A R s=>s.heap.get? l=some { cls:=.type "tuple",dict:=dd,data:=.seq items n,slots:=sl }/\s.heap.get? b=some { cls:=.type "tuple",dict:=dd2,data:=.seq items2 n2,slots:=sl2 }/\
    PairsOk A.in1 s ps qs items.toList items2.toList/\R (.ok (.ret (.bool c))) s):=
 .of_wp fun prog w A R s h=>by
  obtain ⟨hp,g,d,tk,os⟩:=s;obtain ⟨hl,hb,hpr,h⟩:=h
  have f2:=AutoSeq1.sub_tuple_tuple
  wp_walk using VJ hl,VJ hb,wpAny_forIn_list _ (fun rest b s'=>b.1=none/\s'=⟨hp,g,d,tk,os⟩/\∃(vs ws:2e5) (ps' qs':List PV),rest=vs.zip ws/\
   PairsOk A.in1 ⟨hp,g,d,tk,os⟩ ps' qs' vs ws/\vs.length + items2.size=ws.length + items.size/\lexD ps' qs'=some c) _
  case turn=>
   rintro ⟨y,x⟩ rest b s' ⟨hb',rfl,vs,ws,ps',qs',hz,hpr',hlen,hR⟩
   cases hpr' with
   | nil1 hh=>rw[List.zip_nil_left] at hz;cases hz
   | nil2 hh=>rw[List.zip_nil_right] at hz;cases hz
   | @cons p q u v ps2 qs2 us2 vs2 e lt t=>
    rw[Xe] at hz
    injection hz with hyx hrest
    injection hyx with hy hx
    subst hy hx
    rw[lexD_cons] at hR
    simp only[YC] at hlen
    refine Ya (e prog w _ _ ?_)
    cases ee:eqD p q with
    | true=>
     rw[ee,if_pos rfl] at hR
     wp_walk
     exact ⟨rfl,rfl,_,_,_,_,hrest,t,by lia,hR⟩
    | false=>
     rw[ee,if_neg YD] at hR
     have hri:=lt c hR prog w
     wp_walk using hri
     exact ⟨_,rfl,by simpa using h⟩
  case fin=>
   rintro ⟨b1,b2⟩ s' ⟨hb',rfl,vs,ws,ps',qs',hz,hpr',hlen,hR⟩
   simp only at hb'
   subst hb'
   have hv:c=decide (items.size < items2.size):=by
    cases hpr' with
    | nil1 hh=>
     cases qs' with
     | nil=>
      rw[Za2] at hR;cases hR
      simp only[Wz] at hlen hh
      exact (decide_eq_false 1e2).symm
     | cons q qs2=>
      rw[Zb1] at hR;cases hR
      simp only[Wz,YC] at hlen hh
      exact (decide_eq_true 1e2).symm
    | nil2 hh=>
     cases ps' with
     | nil=>
      rw[Za2] at hR;cases hR
      simp only[Wz] at hlen hh
      exact (decide_eq_false 1e2).symm
     | cons q qs2=>
      rw[Zb2] at hR;cases hR
      simp only[Wz,YC] at hlen hh
      exact (decide_eq_false 1e2).symm
    | cons e lt t=>rw[Xe] at hz;cases hz
   rw[hv] at h
   wp_walk
   exact ⟨_,rfl,by simpa[Builtin.Tuple.tupleCompareSizes] using h⟩
  case h=>
   exact ⟨rfl,rfl,items.toList,items2.toList,ps,qs,rfl,hpr,by simp;lia,hc⟩
end
section
variable {s:Shared}
theorem RcLtAt.int (a:Int)(t:Tok)(c:Int)(u:Tok)(A:Around):RcLtAt A s (.int a t) (.int c u) (decide (a < c)):=fun prog w E Q h=>
 (PyProof.Rows.lt_int h:wpAny 1e9 A (X7 .Lt (.int a t) (.int c u)) Q E s)
theorem RcLtAt.str (a:Str)(t:Tok)(c:Str)(u:Tok)(A:Around):RcLtAt A s (.str a t) (.str c u) (decide (a.cps.toList < c.cps.toList)):=fun prog w E Q h=>
 (PyProof.Rows.lt_str h:wpAny 1e9 A (X7 .Lt (.str a t) (.str c u)) Q E s)
theorem RcLtAt.tup {A:Around}{l b:Addr}{us vs:2e5}{ps qs:List PV}{c:Bool}(hl:s.heap.IsTuple l us.toArray)(hb:s.heap.IsTuple b vs.toArray)(hu:3e1)(hp:PairsOk A.in1 s ps qs us vs)(hc:lexD ps qs=some c):
  RcLtAt A s (.ref l) (.ref b) c:=fun prog w E Q h=>by
 obtain ⟨⟨cls,dd,data,sl⟩,ho,hcl,n,hd⟩:=id hl
 obtain ⟨⟨cls2,dd2,data2,sl2⟩,ho2,hcl2,n2,hd2⟩:=id hb
 simp only at hcl hd hcl2 hd2
 subst hcl hd hcl2 hd2
 exact richCompare_meets_room (op:=.Lt) ⟨_,ho,rfl⟩ ⟨_,ho2,rfl⟩ PySem.F.slot_tuple_lt PySem.F.entry_tuple_lt (PySem.F.args_tuple_lt_2 _ _) (tuple_ltD l b us.toArray vs.toArray n n2 dd dd2 sl sl2 ps qs c hc)
  ⟨ho,ho2,hp,show UT c≠Value.notImplemented/\Q (.bool c) s from ⟨(fun x=>nomatch x),h⟩⟩ hu
mutual
theorem HRep.rcLt:∀(p:PV) {q:PV} {u v:Value} {A:Around} {c:Bool},HRep s.heap p u->HRep s.heap q v->A.units + dep p < cLine->ltD p q=some c->RcLtAt A s u v c
 | .int x,q,u,v,A,c,a,b,hu,e=>by
  cases q with
  | int y=>
   unfold HRep at a b;obtain ⟨t,rfl⟩:=a;obtain ⟨t',rfl⟩:=b
   unfold ltD at e;cases e;exact .int _ _ _ _ _
  | _=>unfold ltD at e;cases e
 | .str x,q,u,v,A,c,a,b,hu,e=>by
  cases q with
  | str y=>
   unfold HRep at a b;obtain ⟨t,rfl⟩:=a;obtain ⟨t',rfl⟩:=b
   unfold ltD at e;cases e;exact .str _ _ _ _ _
  | _=>unfold ltD at e;cases e
 | .tup ps,q,u,v,A,c,a,b,hu,e=>by
  cases q with
  | tup qs=>
   unfold HRep at a b;obtain ⟨l,us,rfl,h1,r1⟩:=a;obtain ⟨l',vs,rfl,h2,r2⟩:=b
   unfold ltD at e
   unfold dep at hu
   exact .tup h1 h2 1e2 (HReps.pairs ps r1 r2 (by rw[YV];lia)) e
  | _=>unfold ltD at e;cases e
 | .non,q,u,v,A,c,a,b,hu,e=>by unfold ltD at e;cases e
 | .bl _,q,u,v,A,c,a,b,hu,e=>by unfold ltD at e;cases e
 | .lst _,q,u,v,A,c,a,b,hu,e=>by unfold ltD at e;cases e
 | .dct _ _,q,u,v,A,c,a,b,hu,e=>by unfold ltD at e;cases e
 | .dtt _ _,q,u,v,A,c,a,b,hu,e=>by unfold ltD at e;cases e
 | .fn _,q,u,v,A,c,a,b,hu,e=>by unfold ltD at e;cases e
 | .ty _,q,u,v,A,c,a,b,hu,e=>by unfold ltD at e;cases e
theorem HReps.pairs:∀(ps:List PV) {qs:List PV} {us vs:2e5} {A:Around},HReps s.heap ps us->HReps s.heap qs vs->A.units + deps ps < cLine->PairsOk A s ps qs us vs
 | [],qs,us,vs,A,a,b,hu=>by
  have:=b.length
  unfold HReps at a;subst a
  exact .nil1 this
 | p::ps,qs,us,vs,A,a,b,hu=>by
  cases qs with
  | nil=>
   have:=a.length
   unfold HReps at b;subst b
   exact .nil2 this
  | cons q qs=>
   unfold HReps at a b;obtain ⟨x,r,rfl,a1,a2⟩:=a;obtain ⟨y,r',rfl,b1,b2⟩:=b
   unfold deps at hu
   exact .cons (HRep.eqAt p a1 b1 1e2) (fun c e=>HRep.rcLt p a1 b1 1e2 e) (HReps.pairs ps a2 b2 1e2)
end
end
end Pu
namespace Pu
open PySem PySem.W
open PyProof.Rows hiding St Fr
def runT {α:Type}(o:Nat->Nat->Bool):KasT α->α
 | .ret a=>a
 | .ask i j k=>runT o (k (o i j))
theorem Za8 {α β:Type}(o:Nat->Nat->Bool)(f:α->KasT β):∀t:KasT α,runT o (t.bind f)=runT o (f (runT o t))
 | .ret _=>rfl
 | .ask i j k=>Za8 o f (k (o i j))
structure Wk (lt:Nat->Nat->Bool):Prop where
 irr:∀a,lt a a=false
 asy:∀a b,lt a b=true->lt b a=false
 tr:∀a b c,lt b a=false->lt c b=false->lt c a=false
section
variable {lt:Nat->Nat->Bool}
def Srt (lt:Nat->Nat->Bool)(p:8e5)(k:Nat):Prop:=∀i j,i<=j->j < k->lt (p.getD j 0) (p.getD i 0)=false
def Non (lt:Nat->Nat->Bool)(p:8e5)(k:Nat):Prop:=∀i j,i<=j->j < k->lt (p.getD i 0) (p.getD j 0)=false
def Eqv (lt:Nat->Nat->Bool)(p:8e5)(a b:Nat):Prop:=∀i j,a<=i->i < b->a<=j->j < b->lt (p.getD i 0) (p.getD j 0)=false
theorem ZcA {p:8e5}{i j:Nat}(hj:j<=p.size)(k:Nat):(W0 p i j).getD k 0=if i<=k/\k < j then p.getD (i + j - 1 - k) 0 else p.getD k 0:=by
 unfold W0
 rw[YM,getElem?_mirror_all hj]
 split<;>rw[YM]
theorem getD_bub {p:8e5}{k l:Nat}(hk:k < p.size)(hl:l<=k)(i:Nat):(bubble p k (k - l)).getD i 0=if i=l then p.getD k 0 else if l < i/\i<=k then p.getD (i - 1) 0 else p.getD i 0:=by
 rw[YM,getElem?_bubble hk _ 1e2,show k - (k - l)=l by lia]
 by_cases h:i=l
 ·rw[if_pos h,if_pos h,YM]
 ·rw[if_neg h,if_neg h]
  by_cases h2:l < i/\i<=k
  ·rw[if_pos h2,if_pos h2,YM]
  ·rw[if_neg h2,if_neg h2,YM]
theorem Srt.step (W:Wk lt){p:8e5}{k:Nat}(h:Srt lt p k)(h1:1<=k)(e:lt (p.getD k 0) (p.getD (k - 1) 0)=false):Srt lt p (k + 1):=by
 intro i j hij hj
 by_cases hjk:j < k
 ·exact h i j hij hjk
 ·have:j=k:=by lia
  subst this
  by_cases hi:i=j
  ·subst hi;exact W.irr _
  ·exact W.tr _ _ _ (h i (j - 1) 1e2 1e2) e
theorem Non.step (W:Wk lt){p:8e5}{k:Nat}(h:Non lt p k)(h1:1<=k)(e:lt (p.getD (k - 1) 0) (p.getD k 0)=false):Non lt p (k + 1):=by
 intro i j hij hj
 by_cases hjk:j < k
 ·exact h i j hij hjk
 ·have:j=k:=by lia
  subst this
  by_cases hi:i=j
  ·subst hi;exact W.irr _
  ·exact W.tr _ _ _ e (h i (j - 1) 1e2 1e2)
theorem Non.rev (W:Wk lt){p:8e5}{m a b:Nat}(h:Non lt p m)(hab:a<=b)(hb:b<=m)(hm:m<=p.size)(e:Eqv lt p a b):Non lt (W0 p a b) m:=by
 intro i j hij hj
 rw[ZcA 1e2,ZcA 1e2]
 by_cases hi:a<=i/\i < b
 ·by_cases hj2:a<=j/\j < b
  ·rw[if_pos hi,if_pos hj2];exact e _ _ 1e2 1e2 1e2 1e2
  ·rw[if_pos hi,if_neg hj2];exact h _ _ 1e2 1e2
 ·by_cases hj2:a<=j/\j < b
  ·rw[if_neg hi,if_pos hj2];exact h _ _ 1e2 1e2
  ·rw[if_neg hi,if_neg hj2];exact h _ _ hij hj
theorem Non.srt {p:8e5}{n:Nat}(h:Non lt p n)(hn:n<=p.size):Srt lt (W0 p 0 n) n:=by
 intro i j hij hj
 rw[ZcA hn,ZcA hn,if_pos 1e2,if_pos 1e2]
 exact h _ _ 1e2 1e2
theorem asc_ok (W:Wk lt)(p:8e5):∀(f n:Nat),1<=n->Srt lt p n->
  n<=runT lt (Vt p f n)/\runT lt (Vt p f n)<=n + f/\Srt lt p (runT lt (Vt p f n))/\(runT lt (Vt p f n) < n + f->lt (p.getD (runT lt (Vt p f n)) 0) (p.getD (runT lt (Vt p f n) - 1) 0)=true)
 | 0,n,h1,h=>⟨Yi _,Yi _,h,fun z=>absurd z (X8 _)⟩
 | f + 1,n,h1,h=>by
  show n<=runT lt (if lt (p.getD n 0) 6e0=true then Yaz n else Vt p f (n + 1))/\runT lt (if lt (p.getD n 0) 6e0=true then Yaz n else Vt p f (n + 1))<=n + (f + 1)/\
   Srt lt p (runT lt (if lt (p.getD n 0) 6e0=true then Yaz n else Vt p f (n + 1)))/\(runT lt (if lt (p.getD n 0) 6e0=true then Yaz n else Vt p f (n + 1)) < n + (f + 1)->
    lt (p.getD (runT lt (if lt (p.getD n 0) (p.getD (n - 1) 0)=true then Yaz n else Vt p f (n + 1))) 0) (p.getD (runT lt (if lt (p.getD n 0) (p.getD (n - 1) 0)=true then Yaz n else Vt p f (n + 1)) - 1) 0)=true)
  by_cases c:lt (p.getD n 0) 6e0=true
  ·rw[if_pos c];exact ⟨Yi _,Nat.le_add_right _ _,h,fun _=>c⟩
  ·rw[if_neg c]
   obtain ⟨a1,a2,a3,a4⟩:=asc_ok W p f (n + 1) 1e2 (h.step W h1 (by simpa using c))
   exact ⟨by lia,by lia,a3,fun z=>a4 1e2⟩
structure DS (lt:Nat->Nat->Bool)(N:Nat)(p0 p:Array Nat)(n q:Nat):Prop where
 sz:p.size=p0.size
 pm:p.Perm p0
 n1:1<=n
 nN:n<=N
 q1:q + 1<=n
 non:Non lt p n
 eqv:Eqv lt p (n - (q + 1)) n
theorem desc_ok (W:Wk lt){p0:8e5}{N:Nat}(hN:N<=p0.size):∀(f:Nat) (p:8e5) (n q:Nat),DS lt N p0 p n q->n + f=N->
  DS lt N p0 (runT lt (Wi f p n q)).1 (runT lt (Wi f p n q)).2.1 (runT lt (Wi f p n q)).2.2
 | 0,p,n,q,D,_=>D
 | f + 1,p,n,q,D,hf=>by
  show DS lt N p0 (runT lt (if lt (p.getD n 0) 6e0=true then (if q > 0 then Wi f (W0 p (n - (q + 1)) n) (n + 1) 0 else Wi f p (n + 1) 0) else .ask 6e0 (p.getD n 0) fun d=>if d=true then .ret (p,n,q) else Wi f p (n + 1) (q + 1))).1
   (runT lt (if lt (p.getD n 0) 6e0=true then (if q > 0 then Wi f (W0 p (n - (q + 1)) n) (n + 1) 0 else Wi f p (n + 1) 0) else .ask 6e0 (p.getD n 0) fun d=>if d=true then .ret (p,n,q) else Wi f p (n + 1) (q + 1))).2.1
   (runT lt (if lt (p.getD n 0) 6e0=true then (if q > 0 then Wi f (W0 p (n - (q + 1)) n) (n + 1) 0 else Wi f p (n + 1) 0) else .ask 6e0 (p.getD n 0) fun d=>if d=true then .ret (p,n,q) else Wi f p (n + 1) (q + 1))).2.2
  have hsz:=D.sz
  have hq1:=D.q1
  have hn1:=D.n1
  have one:∀p':Array Nat,Eqv lt p' (n + 1 - (0 + 1)) (n + 1):=fun p' i j a b c d=>by
   have:i=j:=by lia
   subst this;exact W.irr _
  by_cases c:lt (p.getD n 0) 6e0=true
  ·rw[if_pos c]
   have hn:=D.non.step W D.n1 (W.asy _ _ c)
   by_cases hq:q > 0
   ·rw[if_pos hq]
    exact desc_ok W hN f _ _ _ ⟨by unfold W0;rw[Yax];exact hsz,(U7 _ _ _ _).trans D.pm,by lia,by lia,by lia,hn.rev W 1e2 1e2 1e2 D.eqv,one _⟩ 1e2
   ·rw[if_neg hq]
    exact desc_ok W hN f _ _ _ ⟨hsz,D.pm,by lia,by lia,by lia,hn,one _⟩ 1e2
  ·rw[if_neg c]
   show DS lt N p0 (runT lt (if lt 6e0 (p.getD n 0)=true then .ret (p,n,q) else Wi f p (n + 1) (q + 1))).1 (runT lt (if lt 6e0 (p.getD n 0)=true then .ret (p,n,q) else Wi f p (n + 1) (q + 1))).2.1 (runT lt (if lt 6e0 (p.getD n 0)=true then .ret (p,n,q) else Wi f p (n + 1) (q + 1))).2.2
   by_cases d:lt 6e0 (p.getD n 0)=true
   ·rw[if_pos d];exact D
   ·rw[if_neg d]
    have c':lt (p.getD n 0) 6e0=false:=by simpa using c
    have d':lt 6e0 (p.getD n 0)=false:=by simpa using d
    refine desc_ok W hN f _ _ _ ⟨hsz,D.pm,by lia,by lia,by lia,D.non.step W D.n1 d',?_⟩ 1e2
    intro i j a1 a2 b1 b2
    by_cases hi:i=n
    ·by_cases hj:j=n
     ·subst hi;subst hj;exact W.irr _
     ·subst hi;exact W.tr _ _ _ (D.eqv _ _ 1e2 1e2 1e2 1e2) c'
    ·by_cases hj:j=n
     ·subst hj;exact W.tr _ _ _ d' (D.eqv _ _ 1e2 1e2 1e2 1e2)
     ·exact D.eqv _ _ 1e2 1e2 1e2 1e2
structure CS (lt:Nat->Nat->Bool)(N:Nat)(p0:Array Nat)(r:Nat×Array Nat):Prop where
 sz:r.2.size=p0.size
 pm:r.2.Perm p0
 n1:1<=r.1
 nN:r.1<=N
 srt:Srt lt r.2 r.1
theorem tail3_ok (W:Wk lt){p0 p:8e5}{N n:Nat}(hN:N<=p0.size)(hs:p.size=p0.size)(hp:p.Perm p0)(h1:1<=n)(hn:n<=N)(h:Non lt p n):CS lt N p0 (runT lt (kas_tail3 n N p)):=by
 unfold kas_tail3
 rw[Za8]
 obtain ⟨a1,a2,a3,_⟩:=asc_ok W (W0 p 0 n) (N - n) n h1 (h.srt 1e2)
 exact ⟨by show (W0 p 0 n).size=_;unfold W0;rw[Yax];exact hs,(U7 _ _ _ _).trans hp,by show 1<=runT lt (Vt (W0 p 0 n) (N - n) n);lia,by show runT lt (Vt (W0 p 0 n) (N - n) n)<=N;lia,a3⟩
theorem Zdf (W:Wk lt){p0 p:8e5}{N n:Nat}(hN:N<=p0.size)(hs:p.size=p0.size)(hp:p.Perm p0)(h1:1<=n)(hn:n + 1<=N)(h:Non lt p (n + 1)):CS lt N p0 (runT lt (Yaj n N p)):=by
 unfold Yaj
 rw[Za8]
 have D:=desc_ok W hN (N - (n + 1)) p (n + 1) 0 ⟨hs,hp,by lia,hn,by lia,h,fun i j a b c d=>(show i=j by lia) ▸ W.irr _⟩ 1e2
 generalize runT lt (Wi (N - (n + 1)) p (n + 1) 0)=r at D ⊢
 have hsz:=D.sz
 have hnN:=D.nN
 by_cases hq:r.2.2 > 0
 ·rw[if_pos hq]
  exact tail3_ok W hN (by unfold W0;rw[Yax];exact hsz) ((U7 _ _ _ _).trans D.pm) D.n1 D.nN (D.non.rev W 1e2 1e2 1e2 D.eqv)
 ·rw[if_neg hq]
  exact tail3_ok W hN hsz D.pm D.n1 D.nN D.non
theorem count_ok (W:Wk lt){p:8e5}{N:Nat}(hN:N<=p.size)(h1:1<=N):CS lt N p (runT lt (kas_count N p)):=by
 unfold kas_count
 rw[Za8]
 have s1:Srt lt p 1:=fun i j a b=>(show i=j by lia) ▸ W.irr _
 obtain ⟨a1,a2,a3,a4⟩:=asc_ok W p (N - 1) 1 1e2 s1
 generalize runT lt (Vt p (N - 1) 1)=n at a1 a2 a3 a4 ⊢
 by_cases e:(n==N)=true
 ·rw[if_pos e];exact ⟨rfl,Ut _,a1,by show n<=N;lia,a3⟩
 ·rw[if_neg e]
  have e':n≠N:=by simpa using e
  have st:=a4 1e2
  by_cases hn:n > 1
  ·rw[if_pos hn]
   show CS lt N p (runT lt (if lt (p.getD 0 0) 6e0=true then .ret (n,p) else Yaj n N (W0 p 0 n)))
   by_cases c:lt (p.getD 0 0) 6e0=true
   ·rw[if_pos c];exact ⟨rfl,Ut _,a1,by show n<=N;lia,a3⟩
   ·rw[if_neg c]
    have c':lt (p.getD 0 0) 6e0=false:=by simpa using c
    have eq:Eqv lt p 0 n:=fun i j _ hi _ hj=>
     W.tr _ _ _ (W.tr _ _ _ (a3 j (n - 1) 1e2 1e2) c') (a3 0 i 1e2 hi)
    have non:Non lt p n:=fun i j _ hj=>eq i j 1e2 1e2 1e2 hj
    have non1:=non.step W a1 (W.asy _ _ st)
    exact Zdf W hN (by unfold W0;rw[Yax]) (U7 _ _ _ _) a1 1e2 (non1.rev W 1e2 1e2 1e2 eq)
  ·rw[if_neg hn]
   have:n=1:=by lia
   subst this
   have non:Non lt p 1:=fun i j a b=>(show i=j by lia) ▸ W.irr _
   exact Zdf W hN rfl (Ut _) 1e2 1e2 (non.step W 1e2 (W.asy _ _ st))
theorem place_ok (W:Wk lt){p:8e5}{k:Nat}(hs:Srt lt p k):∀(f l r:Nat),r - l<=f->l<=r->r<=k->(∀i,i < l->lt (p.getD k 0) (p.getD i 0)=false)->(∀i,r<=i->i < k->lt (p.getD k 0) (p.getD i 0)=true)->
  runT lt (WT p k f l r)<=k/\(∀i,i < runT lt (WT p k f l r)->lt (p.getD k 0) (p.getD i 0)=false)/\(∀i,runT lt (WT p k f l r)<=i->i < k->lt (p.getD k 0) (p.getD i 0)=true)
 | 0,l,r,hf,hlr,hr,hl,hg=>⟨by show l<=k;lia,hl,fun i a b=>hg i (YQ (by lia:r<=l) a) b⟩
 | f + 1,l,r,hf,hlr,hr,hl,hg=>by
  unfold WT
  by_cases c:l ≥ r
  ·rw[if_pos c];exact ⟨by show l<=k;lia,hl,fun i a b=>hg i (YQ (by lia:r<=l) a) b⟩
  ·rw[if_neg c]
   generalize hm:(l + r) / 2=m
   show runT lt (if lt (p.getD k 0) (p.getD m 0)=true then WT p k f l m else WT p k f (m + 1) r)<=k/\(∀i,i < runT lt (if lt (p.getD k 0) (p.getD m 0)=true then WT p k f l m else WT p k f (m + 1) r)->lt (p.getD k 0) (p.getD i 0)=false)/\
    (∀i,runT lt (if lt (p.getD k 0) (p.getD m 0)=true then WT p k f l m else WT p k f (m + 1) r)<=i->i < k->lt (p.getD k 0) (p.getD i 0)=true)
   by_cases d:lt (p.getD k 0) (p.getD m 0)=true
   ·rw[if_pos d]
    refine place_ok W hs f l m 1e2 1e2 1e2 hl fun i a b=>?_
    cases z:lt (p.getD k 0) (p.getD i 0) with
    | true=>rfl
    | false=>rw[W.tr _ _ _ (hs m i a b) z] at d;cases d
   ·rw[if_neg d]
    refine place_ok W hs f (m + 1) r 1e2 1e2 1e2 (fun i a=>?_) hg
    exact W.tr _ _ _ (hs i m 1e2 1e2) (by simpa using d)
theorem bub_ok (W:Wk lt){p:8e5}{k l:Nat}(hs:Srt lt p k)(hk:k < p.size)(hl:l<=k)(h1:∀i,i < l->lt (p.getD k 0) (p.getD i 0)=false)(h2:∀i,l<=i->i < k->lt (p.getD k 0) (p.getD i 0)=true):Srt lt (bubble p k (k - l)) (k + 1):=by
 intro i j hij hj
 rw[getD_bub hk hl,getD_bub hk hl]
 by_cases hjl:j=l
 ·rw[if_pos hjl]
  by_cases hil:i=l
  ·rw[if_pos hil];exact W.irr _
  ·rw[if_neg hil,if_neg 1e2];exact h1 i 1e2
 ·rw[if_neg hjl]
  by_cases hil:i=l
  ·rw[if_pos hil,if_pos 1e2];exact W.asy _ _ (h2 _ 1e2 1e2)
  ·rw[if_neg hil]
   by_cases hj2:l < j/\j<=k
   ·rw[if_pos hj2]
    by_cases hi2:l < i/\i<=k
    ·rw[if_pos hi2];exact hs _ _ 1e2 1e2
    ·rw[if_neg hi2];exact hs _ _ 1e2 1e2
   ·rw[if_neg hj2,if_neg 1e2];exact hs _ _ hij 1e2
theorem bin_ok (W:Wk lt):∀(f:Nat) (p:8e5) (k:Nat),Srt lt p k->k + f<=p.size->(runT lt (kas_bin f p k)).Perm p/\Srt lt (runT lt (kas_bin f p k)) (k + f)
 | 0,p,k,h,_=>⟨Ut _,h⟩
 | f + 1,p,k,h,hs=>by
  unfold kas_bin
  rw[Za8]
  obtain ⟨a1,a2,a3⟩:=place_ok W h k 0 k 1e2 1e2 1e2 (fun i z=>absurd z 1e2) (fun i z y=>absurd z 1e2)
  generalize runT lt (WT p k k 0 k)=l at a1 a2 a3 ⊢
  obtain ⟨b1,b2⟩:=bin_ok W f (bubble p k (k - l)) (k + 1) (bub_ok W h 1e2 a1 a2 a3) (by rw[bubble_size];lia)
  exact ⟨b1.trans (bubble_perm _ _ _),by rw[show k + (f + 1)=k + 1 + f by lia];exact b2⟩
theorem sort_ok (W:Wk lt){n:Nat}(h1:1<=n):(runT lt (XA n)).Perm (W8 (YW n))/\Srt lt (runT lt (XA n)) n:=by
 unfold XA
 rw[Za8]
 have C:=count_ok W (p:=W8 (YW n)) (N:=n) 3e0 h1
 generalize runT lt (kas_count n (W8 (YW n)))=r at C ⊢
 have hsz:r.2.size=n:=by rw[C.sz];simp
 have hn:=C.nN
 have hn1:=C.n1
 by_cases c:r.1 < n
 ·rw[if_pos c]
  have e:max r.1 1=r.1:=by lia
  rw[e]
  obtain ⟨b1,b2⟩:=bin_ok W (n - r.1) r.2 r.1 C.srt 1e2
  exact ⟨b1.trans C.pm,by rw[show r.1 + (n - r.1)=n by lia] at b2;exact b2⟩
 ·rw[if_neg c]
  exact ⟨C.pm,fun i j a b=>C.srt i j a 1e2⟩
end
def InR {α:Type}(n:Nat)(P:α->Prop):KasT α->Prop
 | .ret a=>P a
 | .ask i j k=>i < n/\j < n/\∀b,InR n P (k b)
theorem InR.bind {α β:Type}{n:Nat}{P:α->Prop}{Q:β->Prop}{f:α->KasT β}(hf:∀a,P a->InR n Q (f a)):∀{t:KasT α},InR n P t->InR n Q (t.bind f)
 | .ret a,h=>hf a h
 | .ask i j k,h=>⟨h.1,h.2.1,fun b=>InR.bind hf (h.2.2 b)⟩
def AllIn (n:Nat)(p:8e5):Prop:=0 < n/\p.size=n/\∀x,x∈p.toList->x < n
theorem AllIn.at {n:Nat}{p:8e5}(h:AllIn n p)(i:Nat):p.getD i 0 < n:=by
 rw[YM]
 cases e:p[i]? with
 | none=>exact h.1
 | some x=>
  refine h.2.2 x ?_
  rw[Wu]
  exact Ub e
theorem AllIn.perm {n:Nat}{p q:8e5}(h:AllIn n p)(e:q.Perm p):AllIn n q:=⟨h.1,by rw[←h.2.1,←YK,←YK];exact (Vg.mp e).length_eq,fun x hx=>h.2.2 x ((Vg.mp e).mem_iff.mp hx)⟩
theorem AllIn.rev {n:Nat}{p:8e5}(h:AllIn n p)(i j:Nat):AllIn n (W0 p i j):=h.perm (U7 _ _ _ _)
theorem asc_in {n:Nat}{p:8e5}(h:AllIn n p):∀(f m:Nat),InR n (fun _=>True) (Vt p f m)
 | 0,m=>trivial
 | f + 1,m=>⟨h.at _,h.at _,fun b=>by cases b<;>first | exact asc_in h f (m + 1) | trivial⟩
theorem desc_in {n:Nat}:∀(f:Nat) (p:8e5) (m q:Nat),AllIn n p->InR n (fun r=>AllIn n r.1) (Wi f p m q)
 | 0,p,m,q,h=>h
 | f + 1,p,m,q,h=>⟨h.at _,h.at _,fun b=>by
  cases b with
  | true=>
   show InR n _ (if q > 0 then Wi f (W0 p (m - (q + 1)) m) (m + 1) 0 else Wi f p (m + 1) 0)
   split
   ·exact desc_in f _ _ _ (h.rev _ _)
   ·exact desc_in f _ _ _ h
  | false=>
   exact ⟨h.at _,h.at _,fun d=>by cases d<;>first | exact desc_in f _ _ _ h | exact h⟩⟩
theorem tail3_in {n m nrem:Nat}{p:8e5}(h:AllIn n p):InR n (fun r=>AllIn n r.2) (kas_tail3 m nrem p):=by
 unfold kas_tail3
 refine InR.bind (P:=fun _=>True) (fun k _=>?_) (asc_in (h.rev _ _) _ _)
 show AllIn n (W0 p 0 m)
 exact h.rev 0 m
theorem Zdg {n m nrem:Nat}{p:8e5}(h:AllIn n p):InR n (fun r=>AllIn n r.2) (Yaj m nrem p):=InR.bind (fun r hr=>by
 split
 ·exact tail3_in (hr.rev _ _)
 ·exact tail3_in hr) (desc_in _ _ _ _ h)
theorem count_in {n nrem:Nat}{p:8e5}(h:AllIn n p):InR n (fun r=>AllIn n r.2) (kas_count nrem p):=InR.bind (fun m _=>by
 split
 ·exact h
 ·split
  ·exact ⟨h.at _,h.at _,fun b=>by cases b<;>first | exact Zdg (h.rev _ _) | exact h⟩
  ·exact Zdg h) (asc_in h _ _)
theorem place_in {n k:Nat}{p:8e5}(h:AllIn n p):∀(f l r:Nat),InR n (fun _=>True) (WT p k f l r)
 | 0,l,r=>trivial
 | f + 1,l,r=>by
  unfold WT
  split
  ·trivial
  ·exact ⟨h.at _,h.at _,fun b=>by cases b<;>exact place_in h f _ _⟩
theorem bin_in {n:Nat}:∀(f:Nat) (p:8e5) (k:Nat),AllIn n p->InR n (AllIn n) (kas_bin f p k)
 | 0,p,k,h=>h
 | f + 1,p,k,h=>InR.bind (fun l _=>bin_in f _ _ (h.perm (bubble_perm _ _ _))) (place_in h _ _ _)
theorem Zbk {n:Nat}(h1:1<=n):InR n (AllIn n) (XA n):=by
 have h:AllIn n (W8 (YW n)):=⟨h1,by simp,fun x hx=>by simpa using hx⟩
 refine InR.bind (fun r hr=>?_) (count_in h)
 split
 ·exact bin_in _ _ _ hr
 ·exact hr
theorem wp_run {α:Type}{n:Nat}{P:α->Prop}{o:Nat->Nat->Bool}{cmp:Nat->Nat->(Bool->Shared->Prop)->Shared->Prop}{Q:α->Shared->Prop}{s:Shared}
  (hc:∀i j (C:4e4),i < n->j < n->C (o i j) s->cmp i j C s):∀(t:KasT α),InR n P t->Q (runT o t) s->t.kasWp cmp Q s
 | .ret a,_,h=>h
 | .ask i j k,hi,h=>hc i j _ hi.1 hi.2.1 (wp_run hc (k (o i j)) (hi.2.2 _) h)
theorem Zco {α:Type}{n:Nat}{P:α->Prop}{o:Nat->Nat->Bool}:∀(t:KasT α),InR n P t->P (runT o t)
 | .ret a,h=>h
 | .ask i j k,h=>Zco (k (o i j)) (h.2.2 _)
end Pu
namespace Pu
open PySem PySem.W PySem.Calls
open PyProof.Rows hiding St Fr
section
variable {prog:Yy}{w:World}{A:Around}{E:1e1}{s:Shared}{a l:Addr}{vs:2e5}{κ:Uj}{o:Nat->Nat->Bool}
def KeepBut (a:Addr)(h h':Heap):Prop:=∀b u,b≠a->h.get? b=some u->h'.get? b=some u
def outs (o:Nat->Nat->Bool)(vs:2e5):List Value:=(runT o (XA vs.length)).toList.map fun i=>vs.getD i Xu
theorem lsort_at {n:Nat}{P:PySem.Fin->Shared->Prop}(ho:s.heap.get? a=some (seqObj "list" vs.toArray n))(h2:2<=vs.length)(h64:vs.length < 64)
  (hk:∀h',KeepBut a s.heap h'->∀Q:Uj->Shared->Prop,Q κ { s with heap:=h' }->wpAny (model prog w) A (keyKind' vs.toArray) Q (fun _ _=>False) { s with heap:=h' })
  (hc:∀h',KeepBut a s.heap h'->∀i j (C:4e4),i < vs.length->j < vs.length->C (o i j) { s with heap:=h' }->kas_ask prog w A κ vs i j C { s with heap:=h' })
  (h:∀h' c,KeepBut a s.heap h'->h'.get? a=some (seqObj "list" (outs o vs).toArray c)->P (.done (.ret .none)) { s with heap:=h' }):
  wpAny 1e9 A (Wj.«list.sort» ⟨[.ref a],[]⟩) P E s:=by
 have s1:=Y3 s.heap a (XN fun _=>(#[]:Array Value))
 obtain ⟨c1,ho1⟩:∃c1,(s.heap.update a (XN fun _=>(#[]:Array Value))).get? a=some (seqObj "list" #[] c1):=⟨_,WC ho fun _=>#[]⟩
 have hlt:a < s.heap.objs.size:=Yq ho
 generalize hg:((s.heap.update a (XN fun _=>(#[]:Array Value))).push (seqObj "tuple" vs.toArray 0)).push (seqObj "list" #[] 0)=g3
 have kb:KeepBut a s.heap g3:=fun b u nb e=>by
  rw[←hg]
  refine Yb _ (Yb _ ?_)
  rw[XU _ _ _ _ nb];exact e
 have g3a:g3.get? a=some (seqObj "list" #[] c1):=by rw[←hg];exact Yb _ (Yb _ ho1)
 rw[list_sort_plain]
 refine Ya (Yak ho rfl ?_);refine Ya (Uk ho rfl ?_ (by rw[Yn,YN];lia) (Y4 _))
 refine Ya (Yay ho1 rfl ?_);refine Ya (wpAny_newTuple ?_ (by show vs.length<=_;rw[YN];lia))
 refine Ya (WN ?_ (Y4 _));refine Xa ?_
 show wpAny 1e9 A _ P E { s with heap:=((s.heap.update a (XN fun _=>(#[]:Array Value))).push (seqObj "tuple" vs.toArray 0)).push (seqObj "list" #[] 0) }
 rw[hg]
 dsimp only
 have n2:¬vs.toArray.size < 2:=by rw[Yn];lia
 rw[if_neg n2,if_neg n2]
 refine Ya (Y5 (hk g3 kb (fun k s'=>k=κ/\s'={ s with heap:=g3 }) ⟨rfl,rfl⟩) (fun k s' e=>?_) fun _ _ x=>x.elim)
 obtain ⟨rfl,rfl⟩:=e
 refine Ya (Y5 (kat_run (ks:=vs) (vs:=vs) (Q:=fun st' s'=>∃p:Array Nat,p.size=vs.length/\arrOf st'=p.map (kas_item (vs.toArray.zip vs.toArray))/\failedOf st'=none/\p=runT o (XA vs.length)/\s'={ s with heap:=g3 })
  (G:=fun p s'=>p=runT o (XA vs.length)/\s'={ s with heap:=g3 }) rfl h2 h64 (fun p st' s' a1 a2 a3 a4=>⟨p,a1,a2,a3,a4.1,a4.2⟩)
  (wp_run (o:=o) (hc g3 kb) _ (Zbk (by lia)) ⟨rfl,rfl⟩)) ?_ fun _ _ e=>e)
 rintro ⟨⟨⟩,st'⟩ s' ⟨p,hp,har,hf,ep,rfl⟩
 dsimp only
 have ho2:=kat_snds (ks:=vs) (vs:=vs) rfl har
 rw[ho2,ep]
 have hz:(W8 ((runT o (XA vs.length)).toList.map fun i=>vs.getD i Xu)).size=vs.length:=by rw[Yn,Yf,YK,←ep,hp]
 obtain ⟨c2,hc2⟩:∃c2,(g3.update a (XN fun _=>W8 ((runT o (XA vs.length)).toList.map fun i=>vs.getD i Xu))).get? a=some (seqObj "list" (W8 ((runT o (XA vs.length)).toList.map fun i=>vs.getD i Xu)) c2):=⟨_,WC g3a fun _=>_⟩
 refine Ya (Yay g3a rfl ?_)
 refine Ya (Uk g3a rfl ?_ (Y4 _) (YQ (Nat.le_of_eq hz) (by rw[YN];lia)))
 rw[hf]
 simp only[bne_self_eq_false,Yv,if_false]
 exact Yc (h _ c2 (fun b u nb e=>by rw[XU _ _ _ _ nb];exact kb b u nb e) hc2)
end
section
variable {prog:Yy}{w:World}{A:Around}{E:1e1}{s:Shared}{a l:Addr}{vs:2e5}{κ:Uj}{o:Nat->Nat->Bool}
theorem Zc3 {n:Nat}{P:PySem.Fin->Shared->Prop}(ho:s.heap.get? a=some (seqObj "list" vs.toArray n))(h2:vs.length < 2)
  (h:∀h' c,KeepBut a s.heap h'->h'.get? a=some (seqObj "list" vs.toArray c)->P (.done (.ret .none)) { s with heap:=h' }):
  wpAny 1e9 A (Wj.«list.sort» ⟨[.ref a],[]⟩) P E s:=by
 obtain ⟨c1,ho1⟩:∃c1,(s.heap.update a (XN fun _=>(#[]:Array Value))).get? a=some (seqObj "list" #[] c1):=⟨_,WC ho fun _=>#[]⟩
 generalize hg:((s.heap.update a (XN fun _=>(#[]:Array Value))).push (seqObj "tuple" vs.toArray 0)).push (seqObj "list" #[] 0)=g3
 have kb:KeepBut a s.heap g3:=fun b u nb e=>by
  rw[←hg]
  refine Yb _ (Yb _ ?_)
  rw[XU _ _ _ _ nb];exact e
 have g3a:g3.get? a=some (seqObj "list" #[] c1):=by rw[←hg];exact Yb _ (Yb _ ho1)
 rw[list_sort_plain]
 refine Ya (Yak ho rfl ?_);refine Ya (Uk ho rfl ?_ (by rw[Yn,YN];lia) (Y4 _))
 refine Ya (Yay ho1 rfl ?_);refine Ya (wpAny_newTuple ?_ (by show vs.length<=_;rw[YN];lia))
 refine Ya (WN ?_ (Y4 _));refine Xa ?_
 show wpAny 1e9 A _ P E { s with heap:=((s.heap.update a (XN fun _=>(#[]:Array Value))).push (seqObj "tuple" vs.toArray 0)).push (seqObj "list" #[] 0) }
 rw[hg]
 dsimp only
 have n2:vs.toArray.size < 2:=by rw[Yn];lia
 simp only[if_pos n2]
 apply Ya
 apply Yc
 simp only[StateT.run_pure]
 apply Ya
 apply Yc
 dsimp only
 have ez:(arrOf (SortSt.mk' general' (vs.toArray.zip vs.toArray) #[] 7 none)).map (·.2)=vs.toArray:=by
  show (vs.toArray.zip vs.toArray).map (·.2)=vs.toArray
  apply Array.toList_inj.mp
  rw[Array.toList_map,Array.toList_zip,List.map_snd_zip 3e0]
 rw[ez]
 obtain ⟨c2,hc2⟩:∃c2,(g3.update a (XN fun _=>vs.toArray)).get? a=some (seqObj "list" vs.toArray c2):=⟨_,WC g3a fun _=>_⟩
 refine Ya (Yay g3a rfl ?_)
 refine Ya (Uk g3a rfl ?_ (Y4 _) (by rw[Yn,YN];lia))
 simp only[bne_self_eq_false,Yv,if_false]
 exact Yc (h _ c2 (fun b u nb e=>by rw[XU _ _ _ _ nb];exact kb b u nb e) hc2)
def outs2 (o:Nat->Nat->Bool)(vs:2e5):List Value:=if vs.length < 2 then vs else outs o vs
theorem sorted_at {v:Value}{Q:1e1}{h1:Heap}(hcol:∀(Q':List Value->Shared->Prop),Q' vs { s with heap:=h1 }->wpAny (model prog w) A.in1 (Yal v) Q' E s)(kp:∀b u,s.heap.get? b=some u->h1.get? b=some u)(hle:s.heap.objs.size<=h1.objs.size)(h64:vs.length < 64)
  (hk:2<=vs.length->∀h',7e4->∀Q:Uj->Shared->Prop,Q κ { s with heap:=h' }->wpAny (model prog w) A.in1.in1 (keyKind' vs.toArray) Q (fun _ _=>False) { s with heap:=h' })
  (hc:2<=vs.length->∀h',7e4->∀i j (C:4e4),i < vs.length->j < vs.length->C (o i j) { s with heap:=h' }->kas_ask prog w A.in1.in1 κ vs i j C { s with heap:=h' })
  (h:∀D h' c,s.heap.objs.size<=D->7e4->h'.get? D=some (seqObj "list" (outs2 o vs).toArray c)->Q (.ref D) { s with heap:=h' }):
  wpAny 1e9 A (call (.builtin "sorted") [v]) Q E s:=by
 refine Vm kind_sorted plain_sorted entry_sorted (args_sorted1 _) ?_
 unfold Wj.«sorted»
 refine Ya (m:=checkCount "sorted" 1 1 _) (Yc ?_);refine Ya (hcol _ ?_)
 refine Ya (WN ?_ (by rw[YN];lia))
 have hoL:(h1.push 8e6).get? h1.objs.size=some 8e6:=Ye _ rfl
 have keep:∀b u,s.heap.get? b=some u->(h1.push 8e6).get? b=some u:=fun b u e=>Yb _ (kp b u e)
 have kb:∀h',KeepBut h1.objs.size (h1.push 8e6) h'->∀b u,s.heap.get? b=some u->h'.get? b=some u:=fun h' k b u e=>
  k b u (Yt (Yo (Yq e) hle)) (keep b u e)
 show wpAny _ _ _ _ _ { s with heap:=h1.push (seqObj "list" vs.toArray 0) }
 refine Ya (Xa (Y7 slot_list_sort ⟨_,hoL,rfl⟩ entry_list_sort ?body (args_list_sort _)))
 case body=>
  by_cases h2:vs.length < 2
  ·refine Zc3 (s:={ s with heap:=h1.push (seqObj "list" vs.toArray 0) }) hoL h2 fun h' c k e=>⟨_,rfl,Yc ⟨_,rfl,h _ h' c hle (kb h' k) ?_⟩⟩
   unfold outs2;rw[if_pos h2];exact e
  ·refine lsort_at (s:={ s with heap:=h1.push (seqObj "list" vs.toArray 0) }) (κ:=κ) (o:=o) hoL (by lia) h64 (fun h' k=>hk (by lia) h' (kb h' k)) (fun h' k=>hc (by lia) h' (kb h' k)) fun h' c k e=>⟨_,rfl,Yc ⟨_,rfl,h _ h' c hle (kb h' k) ?_⟩⟩
   unfold outs2;rw[if_neg h2];exact e
end
end Pu
namespace Pu
open PySem PySem.Spec PySem.W PySem.Calls L2 PySem.SeqAt
open PyProof.Rows hiding St Fr
def fstK:PV->Nat
 | .int _=>1
 | .str _=>2
 | .tup (.int _::_)=>3
 | .tup (.str _::_)=>4
 | _=>0
def oP (ps:List PV)(i j:Nat):Bool:=(ltD (ps.getD (min i (ps.length - 1)) .non) (ps.getD (min j (ps.length - 1)) .non)).getD false
def perm (ps:List PV):List Nat:=if ps.length < 2 then YW ps.length else (runT (oP ps) (XA ps.length)).toList
def sortL (ps:List PV):List PV:=(perm ps).map fun i=>ps.getD i .non
def sortable (ps:List PV):Bool:=(ps.all fun p=>fstK p==1)||(ps.all fun p=>fstK p==2)||(ps.all fun p=>fstK p==3)||(ps.all fun p=>fstK p==4)
def cmpAll (ps:List PV):Bool:=ps.all fun p=>ps.all fun q=>(ltD p q).isSome
def sortP (ps:List PV):Option 2e9:=if dats ps&&decide (deps ps<=40)&&decide (ps.length < 64)&&sortable ps&&cmpAll ps then some (sortL ps) else none
mutual
theorem HRep.keep {h h':Heap}(k:∀b u,h.get? b=some u->h'.get? b=some u):∀(p:PV) {u:Value},HRep h p u->HRep h' p u
 | .non,u,a=>by unfold HRep at a ⊢;exact a
 | .bl x,u,a=>by unfold HRep at a ⊢;exact a
 | .int x,u,a=>by unfold HRep at a ⊢;exact a
 | .str x,u,a=>by unfold HRep at a ⊢;exact a
 | .tup ps,u,a=>by
  unfold HRep at a ⊢;obtain ⟨l,us,rfl,⟨o,e,c⟩,r⟩:=a
  exact ⟨l,us,rfl,⟨o,k _ _ e,c⟩,HReps.keep k ps r⟩
 | .lst ps,u,a=>by
  unfold HRep at a ⊢;obtain ⟨l,us,rfl,⟨o,e,c⟩,r⟩:=a
  exact ⟨l,us,rfl,⟨o,k _ _ e,c⟩,HReps.keep k ps r⟩
 | .dct _ _,u,a=>by unfold HRep at a;exact a.elim
 | .dtt _ _,u,a=>by unfold HRep at a;exact a.elim
 | .fn _,u,a=>by unfold HRep at a;exact a.elim
 | .ty _,u,a=>by unfold HRep at a;exact a.elim
theorem HReps.keep {h h':Heap}(k:∀b u,h.get? b=some u->h'.get? b=some u):∀(ps:List PV) {us:2e5},HReps h ps us->HReps h' ps us
 | [],us,a=>by unfold HReps at a ⊢;exact a
 | p::ps,us,a=>by
  unfold HReps at a ⊢;obtain ⟨v,r,rfl,a1,a2⟩:=a
  exact ⟨v,r,rfl,HRep.keep k p a1,HReps.keep k ps a2⟩
end
theorem HReps.get {h:Heap}:∀{ps:List PV} {us:2e5} {i:Nat},HReps h ps us->i < us.length->HRep h (ps.getD i .non) (us.getD i Xu)
 | [],us,i,a,hi=>by unfold HReps at a;subst a;cases hi
 | p::ps,us,i,a,hi=>by
  unfold HReps at a;obtain ⟨v,r,rfl,a1,a2⟩:=a
  cases i with
  | zero=>exact a1
  | succ i=>simpa using HReps.get a2 (by simpa using hi)
theorem Zb0 {ps:List PV}{i:Nat}(hi:i < ps.length):ps.getD i .non∈ps:=by
 rw[XS,Yd hi];exact XQ hi
section
variable {prog:Yy}{w:World}{A:Around}{s:Shared}
theorem katLex_of {b fin:Bool}{Q:4e4}{c:Bool}:∀{ps qs:List PV} {us vs:2e5} (i:Nat),PairsOk A s ps qs us vs->lexD ps qs=some c->fin=decide (us.length < vs.length)->
  ((b&&i==0)=true->∀p ps' q qs' u us' v vs',ps=p::ps'->qs=q::qs'->us=u::us'->vs=v::vs'->∀c,ltD p q=some c->∀Q:Bool->Shared->Prop,Q c s->wpAny 1e9 A (oneLt' true u v) Q (fun _ _=>False) s)->
  Q c s->KatLex prog w A b fin Q (us.zip vs) i s
  :=by
 intro ps qs us vs i pk
 induction pk generalizing i with
 | @nil1 qs _ hh=>
  intro e hf hz q
  rw[List.zip_nil_left]
  refine kat_nil ?_
  cases qs with
  | nil=>rw[Za2] at e;cases e;rw[hf,←hh];exact q
  | cons y ys=>rw[Zb1] at e;cases e;rw[hf,←hh];simpa using q
 | @nil2 ps _ hh=>
  intro e hf hz q
  rw[List.zip_nil_right]
  refine kat_nil ?_
  cases ps with
  | nil=>rw[Za2] at e;cases e;rw[hf,←hh];exact q
  | cons y ys=>rw[Zb2] at e;cases e;rw[hf];simpa using q
 | @cons p q' u v ps qs us vs ee lt t ih=>
  intro e hf hz q
  rw[Xe]
  refine kat_cons (ee prog w _ _ ?_)
  rw[lexD_cons] at e
  cases he:eqD p q' with
  | true=>
   rw[he,if_pos rfl] at e
   exact kat_yes (ih (i + 1) e (by rw[hf];simp) (fun z=>by simp at z) q)
  | false=>
   rw[he,if_neg YD] at e
   refine kat_no ?_
   cases hb:(b&&i==0) with
   | true=>exact hz hb _ _ _ _ _ _ _ _ rfl rfl rfl rfl c e _ q
   | false=>exact kat_one _ _ (lt c e prog w _ _ q)
theorem one_int {a c:Int}{t u:Tok}{E:1e1}{Q:4e4}(h:Q (decide (a < c)) s):wpAny 1e9 A (oneLt' true (.int a t) (.int c u)) Q E s:=by
 rw[←keyLt'_oneType];exact kat_lt_int h
theorem one_str {a c:Str}{t u:Tok}{E:1e1}{Q:4e4}(h:Q (decide (a.cps.toList < c.cps.toList)) s):wpAny 1e9 A (oneLt' true (.str a t) (.str c u)) Q E s:=by
 rw[←keyLt'_oneType];exact kas_lt_str h
theorem ask_one {p q:PV}{u v:Value}{c:Bool}{Q:4e4}(a:HRep s.heap p u)(b:HRep s.heap q v)(hk:fstK p=1/\fstK q=1\/fstK p=2/\fstK q=2)(e:ltD p q=some c)(h:Q c s):wpAny 1e9 A (keyLt' oneType' u v) Q (fun _ _=>False) s:=by
 rw[keyLt'_oneType]
 cases p with
 | int x=>
  cases q with
  | int y=>unfold HRep at a b;obtain ⟨t,rfl⟩:=a;obtain ⟨t',rfl⟩:=b;unfold ltD at e;cases e;exact one_int h
  | _=>unfold ltD at e;cases e
 | str x=>
  cases q with
  | str y=>unfold HRep at a b;obtain ⟨t,rfl⟩:=a;obtain ⟨t',rfl⟩:=b;unfold ltD at e;cases e;exact one_str h
  | _=>unfold ltD at e;cases e
 | tup xs=>
  exfalso
  cases xs with
  | nil=>simp[fstK] at hk
  | cons y ys=>cases y<;>simp[fstK] at hk
 | _=>unfold ltD at e;cases e
theorem ask_tup {p q:PV}{u v:Value}{c:Bool}{Q:4e4}(a:HRep s.heap p u)(b:HRep s.heap q v)(hk:fstK p=3/\fstK q=3\/fstK p=4/\fstK q=4)(e:ltD p q=some c)(hu:A.units + dep p < cLine)(h:Q c s):wpAny 1e9 A (keyLt' (tuples' true) u v) Q (fun _ _=>False) s:=by
 cases p with
 | tup xs=>
  cases q with
  | tup ys=>
   unfold HRep at a b;obtain ⟨l,us,rfl,⟨ol,el,_,nl,dl⟩,r1⟩:=a;obtain ⟨l',vs,rfl,⟨ol',el',_,nl',dl'⟩,r2⟩:=b
   unfold ltD at e
   unfold dep at hu
   refine kat_lt el dl el' dl' ?_
   refine katLex_of 0 (HReps.pairs xs r1 r2 1e2) e 3e0 (fun _=>?_) h
   intro p ps' q qs' u us' v vs' e1 e2 e3 e4 c' el Q' hq
   subst e1 e2 e3 e4
   unfold HReps at r1 r2
   obtain ⟨_,_,z1,a1,_⟩:=r1
   obtain ⟨_,_,z2,b1,_⟩:=r2
   cases z1;cases z2
   cases p with
   | int x=>
    cases q with
    | int y=>unfold HRep at a1 b1;obtain ⟨t,rfl⟩:=a1;obtain ⟨t',rfl⟩:=b1;unfold ltD at el;cases el;exact one_int hq
    | _=>unfold ltD at el;cases el
   | str x=>
    cases q with
    | str y=>unfold HRep at a1 b1;obtain ⟨t,rfl⟩:=a1;obtain ⟨t',rfl⟩:=b1;unfold ltD at el;cases el;exact one_str hq
    | _=>unfold ltD at el;cases el
   | tup xs=>simp[fstK] at hk
   | _=>unfold ltD at el;cases el
  | _=>unfold ltD at e;cases e
 | _=>simp[fstK] at hk
end
theorem Za6 {ps:List PV}:∀i∈perm ps,i < ps.length:=by
 intro i hi
 unfold perm at hi
 split at hi
 ·simpa using hi
 ·exact (Zco (XA ps.length) (Zbk 1e2)).2.2 i hi
def sortV (ps:List PV)(ys:List V):List V:=(perm ps).map fun i=>ys.getD i .non
def sortU (ps:List PV)(us:2e5):List Value:=(perm ps).map fun i=>us.getD i Xu
theorem ZbY {ps:List PV}{us:2e5}(e:ps.length=us.length):outs2 (oP ps) us=sortU ps us:=by
 unfold outs2 sortU perm outs
 rw[←e]
 split
 ·have:us=(YW us.length).map fun i=>us.getD i Value.none:=by
   apply XV
   intro i
   rw[Yx]
   by_cases hi:i < us.length
   ·rw[Uu hi];simp[hi]
   ·rw[XF 1e2,XF (by simp;lia)];rfl
  rw[e];exact this
 ·rfl
theorem vals_getD:∀{ys:List V} {us:2e5} {i:Nat},Vals ys us->i < us.length->RelV (ys.getD i .non) (us.getD i Xu)
 | _,_,i,.nil,hi=>by cases hi
 | _,_,i,.cons r t,hi=>by
  cases i with
  | zero=>exact r
  | succ i=>simpa using vals_getD t (by simpa using hi)
theorem Zbq {ys:List V}{us:2e5}(r:Vals ys us):∀{is:6e3},(∀i∈is,i < us.length)->Vals (is.map fun i=>ys.getD i .non) (is.map fun i=>us.getD i Xu)
 | [],_=>.nil
 | i::is,h=>.cons (vals_getD r (h i 8e0)) (Zbq r fun j hj=>h j (.tail _ hj))
theorem reps_getD {K:W.Frag}{ι:2e2}{H:Hp}:∀{ps:List PV} {ys:List V} {i:Nat},Reps K ι H ps ys->i < ps.length->Rep K ι H (ps.getD i .non) (ys.getD i .non)
 | [],ys,i,a,hi=>by cases hi
 | p::ps,ys,i,a,hi=>by
  unfold Reps at a;obtain ⟨v,r,rfl,a1,a2⟩:=a
  cases i with
  | zero=>exact a1
  | succ i=>simpa using reps_getD a2 (by simpa using hi)
theorem Zbz {K:W.Frag}{ι:2e2}{H:Hp}{ps:List PV}{ys:List V}(r:Reps K ι H ps ys):∀{is:6e3},(∀i∈is,i < ps.length)->Reps K ι H (is.map fun i=>ps.getD i .non) (is.map fun i=>ys.getD i .non)
 | [],_=>by unfold Reps;rfl
 | i::is,h=>by
  unfold Reps
  exact ⟨_,_,rfl,reps_getD r (h i 8e0),Zbz r fun j hj=>h j (.tail _ hj)⟩
section
variable {prog:Yy}{w:World}{A:Around}{s:Shared}
theorem Zdc {h:Heap}:∀{ps:List PV} {us:2e5},HReps h ps us->∀u∈us,∃p∈ps,HRep h p u
 | [],us,a,u,hu=>by unfold HReps at a;subst a;cases hu
 | p::ps,us,a,u,hu=>by
  unfold HReps at a;obtain ⟨v,r,rfl,a1,a2⟩:=a
  rcases Yl.mp hu with rfl | hu
  ·exact ⟨p,.head _,a1⟩
  ·obtain ⟨q,hq,b⟩:=Zdc a2 u hu
   exact ⟨q,.tail _ hq,b⟩
def headV (h:Heap)(k:Nat)(f:Value):Prop:=(k=3/\∃i t,f=.int i t)\/(k=4/\∃x t,f=.str x t)
theorem tups_of {h:Heap}{k:Nat}(hk:k=3\/k=4):∀{ps:List PV} {us:2e5},HReps h ps us->(ps.all fun p=>fstK p==k)=true->∃fs,KatTups h us fs/\fs.length=us.length/\∀f∈fs,headV h k f
 | [],us,a,_=>by unfold HReps at a;subst a;exact ⟨[],.nil,rfl,fun f hf=>by cases hf⟩
 | p::ps,us,a,e=>by
  unfold HReps at a;obtain ⟨v,r,rfl,a1,a2⟩:=a
  rw[Vb,Yp] at e
  obtain ⟨fs,t,hl,hf⟩:=tups_of hk a2 e.2
  have e1:fstK p=k:=by simpa using e.1
  cases p with
  | tup xs=>
   unfold HRep at a1;obtain ⟨l,us',rfl,⟨o,ho,hc,n,hd⟩,r1⟩:=a1
   cases xs with
   | nil=>simp[fstK] at e1;lia
   | cons y ys=>
    unfold HReps at r1;obtain ⟨f,r',rfl,b1,_⟩:=r1
    refine ⟨f::fs,.cons ho hc hd 3e0 t,by simp[hl],fun g hg=>?_⟩
    rcases Yl.mp hg with rfl | hg
    ·cases y with
     | int i=>unfold HRep at b1;simp[fstK] at e1;obtain ⟨t,rfl⟩:=b1;exact .inl ⟨e1.symm,_,_,rfl⟩
     | str x=>unfold HRep at b1;simp[fstK] at e1;obtain ⟨t,rfl⟩:=b1;exact .inr ⟨e1.symm,_,_,rfl⟩
     | _=>simp[fstK] at e1;lia
    ·exact hf g hg
  | int i=>simp[fstK] at e1;lia
  | str i=>simp[fstK] at e1;lia
  | _=>simp[fstK] at e1;lia
def kindP (ps:List PV):SortKind:=if (ps.all fun p=>fstK p==1)||(ps.all fun p=>fstK p==2) then oneType' else tuples' true
theorem Zc7 {ps:List PV}{us:2e5}{Q:Uj->Shared->Prop}{E:1e1}(a:HReps s.heap ps us)(h2:2<=us.length)(e:sortable ps=true)(h:Q (kindP ps) s):wpAny 1e9 A (keyKind' us.toArray) Q E s:=by
 unfold sortable at e
 unfold kindP at h
 by_cases h1:(ps.all fun p=>fstK p==1)=true
 ·rw[h1,Bool.true_or,if_pos rfl] at h
  refine kas_kind (T:=.type "int") h2 (fun v hv=>?_) 1e4 1e4 h
  obtain ⟨p,hp,b⟩:=Zdc a v hv
  have:=YR.mp h1 p hp
  cases p with
  | int i=>unfold HRep at b;obtain ⟨t,rfl⟩:=b;exact U8 rfl
  | tup xs=>cases xs with
   | nil=>simp[fstK] at this
   | cons y ys=>cases y<;>simp[fstK] at this
  | _=>simp[fstK] at this
 ·by_cases h3:(ps.all fun p=>fstK p==2)=true
  ·rw[h3,Yam,if_pos rfl] at h
   refine kas_kind (T:=.type "str") h2 (fun v hv=>?_) 1e4 1e4 h
   obtain ⟨p,hp,b⟩:=Zdc a v hv
   have:=YR.mp h3 p hp
   cases p with
   | str i=>unfold HRep at b;obtain ⟨t,rfl⟩:=b;exact U8 rfl
   | tup xs=>cases xs with
    | nil=>simp[fstK] at this
    | cons y ys=>cases y<;>simp[fstK] at this
   | _=>simp[fstK] at this
  ·rw[Bool.not_eq_true] at h1 h3
   rw[h1,h3] at h e
   rw[if_neg 1e4] at h
   simp only[Bool.false_or,Uv] at e
   rcases e with e | e
   ·obtain ⟨fs,t,hl,hf⟩:=tups_of (.inl rfl) a e
    refine kat_kind (T:=.type "int") t 1e2 (fun v hv=>?_) 1e4 h
    rcases hf v hv with ⟨_,i,t,rfl⟩ | ⟨z,_⟩
    ·exact U8 rfl
    ·cases z
   ·obtain ⟨fs,t,hl,hf⟩:=tups_of (.inr rfl) a e
    refine kat_kind (T:=.type "str") t 1e2 (fun v hv=>?_) 1e4 h
    rcases hf v hv with ⟨z,_⟩ | ⟨_,i,t,rfl⟩
    ·cases z
    ·exact U8 rfl
theorem dep_getD:∀{ps:List PV} (i:Nat),dep (ps.getD i .non)<=deps ps
 | [],i=>by simp[dep,deps]
 | p::ps,i=>by
  unfold deps
  cases i with
  | zero=>exact Nat.le_max_left _ _
  | succ i=>exact YQ (by simpa using dep_getD (ps:=ps) i) (Nat.le_max_right _ _)
theorem ask_of {ps:List PV}{us:2e5}{i j:Nat}{C:4e4}(a:HReps s.heap ps us)(e:sortable ps=true)(ec:cmpAll ps=true)(hu:A.units + deps ps < cLine)(hi:i < us.length)(hj:j < us.length)(h:C (oP ps i j) s):kas_ask prog w A (kindP ps) us i j C s:=by
 have hl:=a.length
 have mi:=Zb0 (ps:=ps) (i:=i) 1e2
 have mj:=Zb0 (ps:=ps) (i:=j) 1e2
 have hs:(ltD (ps.getD i .non) (ps.getD j .non)).isSome=true:=YR.mp (YR.mp ec _ mi) _ mj
 obtain ⟨c,hc⟩:=Vw.mp hs
 unfold oP at h
 rw[Uw 1e2,Uw 1e2,hc] at h
 have ai:=HReps.get a hi
 have aj:=HReps.get a hj
 have hd:=dep_getD (ps:=ps) i
 unfold kas_ask kindP
 have at':∀k,(ps.all fun p=>fstK p==k)=true->fstK (ps.getD i .non)=k/\fstK (ps.getD j .non)=k:=fun k z=>⟨by simpa using YR.mp z _ mi,by simpa using YR.mp z _ mj⟩
 by_cases h1:(ps.all fun p=>fstK p==1)=true
 ·rw[h1,Bool.true_or,if_pos rfl];exact ask_one ai aj (.inl (at' 1 h1)) hc h
 ·by_cases h3:(ps.all fun p=>fstK p==2)=true
  ·rw[h3,Yam,if_pos rfl];exact ask_one ai aj (.inr (at' 2 h3)) hc h
  ·unfold sortable at e
   rw[Bool.not_eq_true] at h1 h3
   rw[h1,h3] at e ⊢
   rw[if_neg 1e4]
   simp only[Bool.false_or,Uv] at e
   rcases e with e | e
   ·exact ask_tup ai aj (.inl (at' 3 e)) hc 1e2 h
   ·exact ask_tup ai aj (.inr (at' 4 e)) hc 1e2 h
end
section
variable {X:Cx}
def rSorted (K:W.Frag):List V->Hp->VK->Prop:=fun xs H Q=>∃p ys ι ps,xs=[.ref p]/\SqL K H p ys/\Reps K ι H ps ys/\(sortP ps).isSome=true/\∀l,H l=none->Q (.ref l) (upd H l (.lst (sortV ps ys)))
theorem call_sorted (hu:5e9):CallR X (.builtin "sorted") (rSorted X.K):=by
 intro pins s σ H xs us Q I r h
 obtain ⟨p,ys,ι,ps,rfl,hq,rs,hs,q⟩:=h
 obtain ⟨u,rfl,rx⟩:=vals1 r
 cases rx
 obtain ⟨its,r',pl,hz⟩:=I.list hq
 unfold sortP at hs
 split at hs
 ·rename_i hh
  simp only[Yp,decide_eq_true_eq] at hh
  obtain ⟨⟨⟨⟨hd,hde⟩,h64⟩,hso⟩,hcm⟩:=hh
  have hr:=Reps.heap I ps rs r' hd
  have hl:=hr.length
  have hyl:=r'.length
  refine sorted_at (vs:=its) (κ:=kindP ps) (o:=oP ps) (h1:=(s.heap.push (seqObj "list" #[] 0)).update s.heap.objs.size (XN (·++its.toArray))) (fun Q' q'=>collect_list pl.isList q' 1e2) (fun b u e=>?_) ?_ 1e2 (fun h2 h' k Q' q'=>?_) (fun h2 h' k i j C hi hj hC=>?_) (fun D h' c hD k e=>?_)
  ·rw[XU _ _ _ _ (Yt (Yq e))];exact Yb _ e
  ·rw[Heap.size_update,size_push'];lia
  ·exact Zc7 (s:={ s with heap:=h' }) (hr.keep k) h2 hso q'
  ·exact ask_of (s:={ s with heap:=h' }) (hr.keep k) hso hcm (by rw[YV,YV];lia) hi hj hC
  ·rw[ZbY hl] at e
   refine ⟨.ref D,_,I.laid (t':=s.toks) k hD (show ObjOk X.prog X.w _ h' _ (.lst (sortV ps ys)) from ⟨?_,sortU ps its,c,?_,e⟩),rfl,q _ (I.hok.fresh hD)⟩
   ·unfold sortV
    rw[Yf]
    have:(perm ps).length<=64:=by
     unfold perm
     split
     ·rw[Wa];lia
     ·rename_i h2
      rw[YK]
      rw[(Zco (o:=oP ps) (XA ps.length) (Zbk 1e2)).2.1];lia
    exact YQ this (by rw[YN];decide)
   ·exact Zbq r' fun i hi=>by have:=Za6 i hi;lia
 ·cases hs
end
section
variable {X:Cx}{e:Expr}{es:3e2}{fs:2e1}{p pos:Pos}
theorem Zbt {ps qs:List PV}(e:sortP ps=some qs):qs=sortL ps:=by
 unfold sortP at e;split at e
 ·cases e;rfl
 ·cases e
end
end Pu
namespace Pu
open PySem PySem.Spec PySem.W
mutual
def pur:PV->Bool
 | .int _=>true
 | .str _=>true
 | .tup ps=>purs ps
 | _=>false
def purs:List PV->Bool
 | []=>true
 | p::ps=>pur p&&purs ps
end
mutual
def lT:PV->PV->Bool
 | .int a,.int b=>decide (a < b)
 | .int _,.str _=>true
 | .int _,.tup _=>true
 | .str a,.str b=>decide (a.cps.toList < b.cps.toList)
 | .str _,.tup _=>true
 | .tup xs,.tup ys=>lTs xs ys
 | _,_=>false
def lTs:List PV->List PV->Bool
 | [],[]=>false
 | [],_::_=>true
 | _::_,[]=>false
 | x::xs,y::ys=>if eqD x y then lTs xs ys else lT x y
end
mutual
theorem ZaH:∀(p:PV) {q:PV},pur p=true->pur q=true->(eqD p q=true↔p=q)
 | .int a,q,_,hq=>by cases q<;>simp[eqD]<;>simp[pur] at hq
 | .str a,q,_,_=>by cases q<;>simp[eqD]
 | .tup ps,q,h,hq=>by
  unfold pur at h
  cases q with
  | tup qs=>unfold pur at hq;unfold eqD;rw[eqDs_pur ps h hq];simp
  | _=>simp[eqD]
 | .non,q,h,_=>by simp[pur] at h
 | .bl _,q,h,_=>by simp[pur] at h
 | .lst _,q,h,_=>by simp[pur] at h
 | .dct _ _,q,h,_=>by simp[pur] at h
 | .dtt _ _,q,h,_=>by simp[pur] at h
 | .fn _,q,h,_=>by simp[pur] at h
 | .ty _,q,h,_=>by simp[pur] at h
theorem eqDs_pur:∀(ps:List PV) {qs:List PV},purs ps=true->purs qs=true->(eqDs ps qs=true↔ps=qs)
 | [],qs,_,_=>by cases qs<;>simp[eqDs]
 | p::ps,qs,h,hq=>by
  unfold purs at h
  rw[Yp] at h
  cases qs with
  | nil=>simp[eqDs]
  | cons q qs=>
   unfold purs at hq
   rw[Yp] at hq
   unfold eqDs;rw[Yp,ZaH p h.1 hq.1,eqDs_pur ps h.2 hq.2,W9]
end
theorem Za3 {p:PV}(h:pur p=true):eqD p p=true:=(ZaH p h h).mpr rfl
theorem str_tri {a b:Str}(h1:¬a.cps.toList < b.cps.toList)(h2:¬b.cps.toList < a.cps.toList):a=b:=by
 obtain ⟨⟨x⟩⟩:=a
 obtain ⟨⟨y⟩⟩:=b
 have:x=y:=List.le_antisymm (List.not_lt.mp h2) (List.not_lt.mp h1)
 rw[this]
mutual
theorem lT_irr:∀(p:PV),pur p=true->lT p p=false
 | .int a,_=>by simp[lT]
 | .str a,_=>by simp[lT,List.lt_irrefl]
 | .tup ps,h=>by unfold pur at h;unfold lT;exact lTs_irr ps h
 | .non,_=>by simp[lT]
 | .bl _,_=>by simp[lT]
 | .lst _,_=>by simp[lT]
 | .dct _ _,_=>by simp[lT]
 | .dtt _ _,_=>by simp[lT]
 | .fn _,_=>by simp[lT]
 | .ty _,_=>by simp[lT]
theorem lTs_irr:∀(ps:List PV),purs ps=true->lTs ps ps=false
 | [],_=>by simp[lTs]
 | p::ps,h=>by
  unfold purs at h;rw[Yp] at h
  unfold lTs;rw[Za3 h.1,if_pos rfl];exact lTs_irr ps h.2
end
mutual
theorem lT_tri:∀(p:PV) {q:PV},pur p=true->pur q=true->lT p q=false->lT q p=false->p=q
 | .int a,q,_,hq,h1,h2=>by
  cases q<;>simp[lT,pur] at h1 h2 hq ⊢
  lia
 | .str a,q,_,hq,h1,h2=>by
  cases q with
  | str b=>
   unfold lT at h1 h2
   have:a=b:=str_tri (of_decide_eq_false h1) (of_decide_eq_false h2)
   rw[this]
  | int _=>simp[lT] at h2
  | tup _=>simp[lT] at h1
  | _=>simp[pur] at hq
 | .tup ps,q,h,hq,h1,h2=>by
  unfold pur at h
  cases q with
  | tup qs=>unfold pur at hq;unfold lT at h1 h2;rw[lTs_tri ps h hq h1 h2]
  | int _=>simp[lT] at h2
  | str _=>simp[lT] at h2
  | _=>simp[pur] at hq
 | .non,q,h,_,_,_=>by simp[pur] at h
 | .bl _,q,h,_,_,_=>by simp[pur] at h
 | .lst _,q,h,_,_,_=>by simp[pur] at h
 | .dct _ _,q,h,_,_,_=>by simp[pur] at h
 | .dtt _ _,q,h,_,_,_=>by simp[pur] at h
 | .fn _,q,h,_,_,_=>by simp[pur] at h
 | .ty _,q,h,_,_,_=>by simp[pur] at h
theorem lTs_tri:∀(ps:List PV) {qs:List PV},purs ps=true->purs qs=true->lTs ps qs=false->lTs qs ps=false->ps=qs
 | [],qs,_,_,h1,h2=>by cases qs<;>simp[lTs] at h1 h2 ⊢
 | p::ps,qs,h,hq,h1,h2=>by
  unfold purs at h;rw[Yp] at h
  cases qs with
  | nil=>simp[lTs] at h2
  | cons q qs=>
   unfold purs at hq;rw[Yp] at hq
   unfold lTs at h1 h2
   by_cases e:p=q
   ·subst e
    rw[Za3 h.1,if_pos rfl] at h1 h2
    rw[lTs_tri ps h.2 hq.2 h1 h2]
   ·rw[if_neg (fun z=>e ((ZaH p h.1 hq.1).mp z))] at h1
    rw[if_neg (fun z=>e ((ZaH q hq.1 h.1).mp z).symm)] at h2
    exact absurd (lT_tri p h.1 hq.1 h1 h2) e
end
mutual
theorem lT_tr:∀(p:PV) {q r:PV},pur p=true->pur q=true->pur r=true->lT p q=true->lT q r=true->lT p r=true
 | .int a,q,r,_,hq,hr,h1,h2=>by
  cases q<;>cases r<;>simp[lT,pur] at h1 h2 hq hr ⊢
  lia
 | .str a,q,r,_,hq,hr,h1,h2=>by
  cases q<;>cases r<;>simp[lT,pur] at h1 h2 hq hr ⊢
  exact List.lt_trans h1 h2
 | .tup ps,q,r,h,hq,hr,h1,h2=>by
  unfold pur at h
  cases q with
  | tup qs=>
   cases r with
   | tup rs=>unfold pur at hq hr;unfold lT at h1 h2 ⊢;exact lTs_tr ps h hq hr h1 h2
   | _=>simp[lT] at h2
  | _=>simp[lT] at h1
 | .non,q,r,h,_,_,_,_=>by simp[pur] at h
 | .bl _,q,r,h,_,_,_,_=>by simp[pur] at h
 | .lst _,q,r,h,_,_,_,_=>by simp[pur] at h
 | .dct _ _,q,r,h,_,_,_,_=>by simp[pur] at h
 | .dtt _ _,q,r,h,_,_,_,_=>by simp[pur] at h
 | .fn _,q,r,h,_,_,_,_=>by simp[pur] at h
 | .ty _,q,r,h,_,_,_,_=>by simp[pur] at h
theorem lTs_tr:∀(ps:List PV) {qs rs:List PV},purs ps=true->purs qs=true->purs rs=true->lTs ps qs=true->lTs qs rs=true->lTs ps rs=true
 | [],qs,rs,_,_,_,h1,h2=>by cases qs<;>cases rs<;>simp[lTs] at h1 h2 ⊢
 | p::ps,qs,rs,h,hq,hr,h1,h2=>by
  unfold purs at h;rw[Yp] at h
  cases qs with
  | nil=>simp[lTs] at h1
  | cons q qs=>
   cases rs with
   | nil=>simp[lTs] at h2
   | cons r rs=>
    unfold purs at hq hr;rw[Yp] at hq hr
    unfold lTs at h1 h2 ⊢
    by_cases e:p=q
    ·subst e
     rw[Za3 h.1,if_pos rfl] at h1
     by_cases e2:p=r
     ·subst e2
      rw[Za3 h.1,if_pos rfl] at h2 ⊢
      exact lTs_tr ps h.2 hq.2 hr.2 h1 h2
     ·have ne:=fun z=>e2 ((ZaH p h.1 hr.1).mp z)
      rw[if_neg ne] at h2 ⊢;exact h2
    ·rw[if_neg (fun z=>e ((ZaH p h.1 hq.1).mp z))] at h1
     by_cases e2:q=r
     ·subst e2
      rw[if_neg (fun z=>e ((ZaH p h.1 hq.1).mp z))];exact h1
     ·rw[if_neg (fun z=>e2 ((ZaH q hq.1 hr.1).mp z))] at h2
      have t:=lT_tr p h.1 hq.1 hr.1 h1 h2
      by_cases e3:p=r
      ·subst e3;rw[lT_irr p h.1] at t;cases t
      ·rw[if_neg (fun z=>e3 ((ZaH p h.1 hr.1).mp z))];exact t
end
mutual
theorem ltD_lT:∀(p:PV) {q:PV} {c:Bool},ltD p q=some c->c=lT p q
 | .int a,q,c,e=>by cases q<;>simp[ltD,lT] at e ⊢<;>exact e.symm
 | .str a,q,c,e=>by cases q<;>simp[ltD,lT] at e ⊢<;>exact e.symm
 | .tup ps,q,c,e=>by
  cases q with
  | tup qs=>unfold ltD at e;unfold lT;exact lexD_lT ps e
  | _=>simp[ltD] at e
 | .non,q,c,e=>by simp[ltD] at e
 | .bl _,q,c,e=>by simp[ltD] at e
 | .lst _,q,c,e=>by simp[ltD] at e
 | .dct _ _,q,c,e=>by simp[ltD] at e
 | .dtt _ _,q,c,e=>by simp[ltD] at e
 | .fn _,q,c,e=>by simp[ltD] at e
 | .ty _,q,c,e=>by simp[ltD] at e
theorem lexD_lT:∀(ps:List PV) {qs:List PV} {c:Bool},lexD ps qs=some c->c=lTs ps qs
 | [],qs,c,e=>by cases qs<;>simp[lexD,lTs] at e ⊢<;>simp[e]
 | p::ps,qs,c,e=>by
  cases qs with
  | nil=>simp[lexD,lTs] at e ⊢;simp[e]
  | cons q qs=>
   unfold lexD at e;unfold lTs
   split at e
   ·rename_i z;rw[if_pos z];exact lexD_lT ps e
   ·rename_i z;rw[if_neg z];exact ltD_lT p e
end
theorem Za0:∀{ps:List PV},purs ps=true->∀p∈ps,pur p=true
 | [],_,p,hp=>by cases hp
 | q::ps,h,p,hp=>by
  unfold purs at h;rw[Yp] at h
  rcases Yl.mp hp with rfl | hp
  ·exact h.1
  ·exact Za0 h.2 p hp
theorem oP_eq {ps:List PV}(h1:1<=ps.length)(hc:cmpAll ps=true)(i j:Nat):oP ps i j=lT (ps.getD (min i (ps.length - 1)) .non) (ps.getD (min j (ps.length - 1)) .non):=by
 have mi:=Zb0 (ps:=ps) (i:=min i (ps.length - 1)) 1e2
 have mj:=Zb0 (ps:=ps) (i:=min j (ps.length - 1)) 1e2
 obtain ⟨c,e⟩:=Vw.mp (YR.mp (YR.mp hc _ mi) _ mj)
 unfold oP;rw[e];exact ltD_lT _ e
theorem wk_of {ps:List PV}(h1:1<=ps.length)(hc:cmpAll ps=true)(hp:purs ps=true):Wk (oP ps):=by
 have P:∀i,pur (ps.getD (min i (ps.length - 1)) .non)=true:=fun i=>Za0 hp _ (Zb0 1e2)
 have irr:∀a,oP ps a a=false:=fun a=>by rw[oP_eq h1 hc];exact lT_irr _ (P a)
 have asy:∀a b,oP ps a b=true->oP ps b a=false:=fun a b h=>by
  rw[oP_eq h1 hc] at h ⊢
  cases e:lT (ps.getD (min b (ps.length - 1)) .non) (ps.getD (min a (ps.length - 1)) .non) with
  | false=>rfl
  | true=>
   have t:=lT_tr _ (P a) (P b) (P a) h e
   rw[lT_irr _ (P a)] at t;cases t
 refine ⟨irr,asy,fun a b c h2 h3=>?_⟩
 rw[oP_eq h1 hc] at h2 h3 ⊢
 cases e:lT (ps.getD (min c (ps.length - 1)) .non) (ps.getD (min a (ps.length - 1)) .non) with
 | false=>rfl
 | true=>
  cases e2:lT (ps.getD (min a (ps.length - 1)) .non) (ps.getD (min b (ps.length - 1)) .non) with
  | true=>rw[lT_tr _ (P c) (P a) (P b) e e2] at h3;cases h3
  | false=>rw[lT_tri _ (P a) (P b) e2 h2] at e;rw[e] at h3;cases h3
theorem Za7 (ps:List PV):(YW ps.length).map (fun i=>ps.getD i .non)=ps:=by
 apply XV
 intro i
 rw[Yx]
 by_cases hi:i < ps.length
 ·rw[Uu hi];simp[hi]
 ·rw[XF (by simp;lia),XF 1e2];rfl
theorem Zbu {ps:List PV}(hc:cmpAll ps=true)(hp:purs ps=true):(sortL ps).Perm ps:=by
 unfold sortL perm
 split
 ·rw[Za7]
 ·rename_i h2
  have S:=(sort_ok (wk_of 1e2 hc hp) (n:=ps.length) 1e2).1
  have:=(Vg.mp S).map fun i=>ps.getD i .non
  rw[show (W8 (YW ps.length)).toList=YW ps.length by simp,Za7] at this
  exact this
def Rising (qs:List PV):Prop:=qs.Pairwise fun a b=>lT b a=false
theorem Zbl {ps:List PV}(hc:cmpAll ps=true)(hp:purs ps=true):Rising (sortL ps):=by
 unfold Rising sortL perm
 split
 ·rename_i h2
  rw[Za7]
  match ps,h2 with
  | [],_=>exact .nil
  | [p],_=>exact List.pairwise_singleton _ _
 ·rename_i h2
  have W:=wk_of 1e2 hc hp
  have S:=(sort_ok W (n:=ps.length) 1e2).2
  have B:=Zco (o:=oP ps) (XA ps.length) (Zbk 1e2)
  rw[Xy,List.pairwise_iff_getElem]
  intro i j hi hj hij
  have hz:(runT (oP ps) (XA ps.length)).size=ps.length:=B.2.1
  rw[YK] at hi hj
  have s:=S i j 1e2 1e2
  have g:∀k,k < (runT (oP ps) (XA ps.length)).size->(runT (oP ps) (XA ps.length)).getD k 0=(runT (oP ps) (XA ps.length)).toList[k]!:=fun k hk=>by
   rw[YM];simp[hk]
  rw[g i hi,g j hj] at s
  have b:∀k,(hk:k < (runT (oP ps) (XA ps.length)).toList.length)->(runT (oP ps) (XA ps.length)).toList[k]! = (runT (oP ps) (XA ps.length)).toList[k]:=fun k hk=>by
   rw[List.getElem!_eq_getElem?_getD,Yd hk];rfl
  rw[b i (by simpa using hi),b j (by simpa using hj)] at s
  have l:∀k,(hk:k < (runT (oP ps) (XA ps.length)).toList.length)->(runT (oP ps) (XA ps.length)).toList[k] < ps.length:=fun k hk=>B.2.2 _ (XQ hk)
  have l1:=l i (by simpa using hi)
  have l2:=l j (by simpa using hj)
  rw[oP_eq 1e2 hc,Uw 1e2,Uw 1e2] at s
  exact s
theorem ZbU:∀{xs ys:List PV},purs xs=true->xs.Perm ys->Rising xs->Rising ys->xs=ys
 | [],ys,_,hp,_,_=>by rw[hp.symm.eq_nil]
 | x::xs,ys,h,hp,h1,h2=>by
  cases ys with
  | nil=>exact absurd hp.length_eq 3e0
  | cons y ys=>
   have hm:∀z∈x::xs,pur z=true:=Za0 h
   have my:pur y=true:=hm y (hp.mem_iff.mpr 8e0)
   have mx:pur x=true:=hm x 8e0
   unfold Rising at h1 h2
   rw[List.pairwise_cons] at h1 h2
   have e:x=y:=by
    have a:lT y x=false:=by
     rcases Yl.mp (hp.mem_iff.mpr (YJ (a:=y) (l:=ys))) with e | e
     ·rw[e];exact lT_irr _ mx
     ·exact h1.1 y e
    have b:lT x y=false:=by
     rcases Yl.mp (hp.mem_iff.mp (YJ (a:=x) (l:=xs))) with e | e
     ·rw[e];exact lT_irr _ my
     ·exact h2.1 x e
    exact lT_tri x mx my b a
   subst e
   unfold purs at h;rw[Yp] at h
   rw[ZbU h.2 (List.perm_cons _ |>.mp hp) h1.2 h2.2]
theorem sortL_eq {ps ys:List PV}(hc:cmpAll ps=true)(hp:purs ps=true)(e:ps.Perm ys)(r:Rising ys):sortL ps=ys:=by
 have pl:=Zbu hc hp
 refine ZbU ?_ (pl.trans e) (Zbl hc hp) r
 have m:=Za0 hp
 have:∀{l:List PV},(∀p∈l,pur p=true)->purs l=true:=fun {l}=>by
  intro h
  induction l with
  | nil=>rfl
  | cons q l ih=>unfold purs;rw[h q 8e0,ih fun p hp=>h p (.tail _ hp)];rfl
 exact this fun p h=>m p (pl.mem_iff.mp h)
end Pu
namespace Pu
open PySem PySem.W PySem.Calls
open PyProof.Rows hiding St Fr
def RawD (h:Heap)(d:Addr)(es:Array VG)(ep:Nat):Prop:=∃o,h.get? d=some o/\o.ExactDict/\o.data=.dict es ep
section
variable {prog:Yy}{w:World}{A:Around}{E:1e1}{s:Shared}{d it:Addr}{es:Array VG}{ep i:Nat}
theorem RawD.at {h h':Heap}(x:RawD h d es ep)(e:∀o,h.get? d=some o->h'.get? d=some o):RawD h' d es ep:=let ⟨o,ho,r⟩:=x;⟨o,e _ ho,r⟩
theorem RawD.ty (x:RawD s.heap d es ep):s.TypeIs (.ref d) "dict":=let ⟨o,ho,hc,_⟩:=x;⟨o,ho,hc.1⟩
theorem RawD.lt {h:Heap}(x:RawD h d es ep):d < h.objs.size:=let ⟨_,ho,_⟩:=x;Yq ho
theorem raw_iter {Q:1e1}(lo:(d==XE)=false)(hm:RawD s.heap d es ep)
  (q:Q 4e5 { s with heap:=s.heap.push { cls:=.type "dict_keyiterator",data:=.fields #[.ref d,.int 0 0,.int es.size 0,.int ep 0] } }):wpAny (model prog w) A (pyIter (.ref d)) Q E s:=by
 obtain ⟨o1,b1,b2,b3⟩:=id hm
 have shows:Wp d=pure ():=by delta Wp;simp only[lo];rfl
 have own:∀{P:1e1} {B:1e1} {A':Around},P (.ref d) s->wpAny 1e9 A' (Builtin.Dict.dictSlotNone "__iter__" ⟨[.ref d],[]⟩) P B s:=fun z=>by
  delta Builtin.Dict.dictSlotNone
  exact Ya (Uc hm.ty (Yc z))
 apply V1 hm.ty F.slot_dict_iter
 apply Y7 F.slot_dict_iter hm.ty F.entry_dict_iter _ (F.args_dict_iter_1 _)
 delta Wj.«dict.__iter__»
 apply Ya
 apply own
 repeat first
  | refine wpAny_of_eq shows ?_
  | refine Vc b1 b3 ?_
  | refine Ux b1 b3 ?_
  | refine Xk ?_
  | apply Ya
  | apply Yc
 exact ⟨_,rfl,"dict_keyiterator",_,⟨_,Ye _ rfl,rfl⟩,W3.lookup,by simpa[rawInt] using q⟩
theorem raw_next {Q:Option Value->Shared->Prop}(hh:es[i]? = none->A.handled=none)(hit:s.heap.IsKeyIter it d i es.size ep)(hm:RawD s.heap d es ep)
  (q1:∀e,es[i]? = some e->∀h',h'.IsKeyIter it d (i + 1) es.size ep->Xw it s.heap h'->Q (some e.key) { s with heap:=h' })
  (q2:es[i]? = none->∀h',Uy it s.heap h'->Q none { s with heap:=h' }):wpAny (model prog w) A (pyNext (.ref it)) Q E s:=by
 obtain ⟨o1,a1,a2,a3⟩:=id hit
 obtain ⟨o2,b1,b2,b3⟩:=hm
 have one:W4 "dict_keyiterator"=false:=by decide
 have there:(YG d==Xu)=false:=rfl
 delta pyNext
 apply Ya
 apply VL
 apply Xo (name:=Wn "__next__") hit.typeIs W3
 apply Y7 W3 hit.typeIs F.entry_dict_keyiterator_next _ (F.args_dict_keyiterator_next_1 _)
 repeat first
  | refine WU hit.typeIs ?_
  | refine Vn a1 a3 ?_
  | refine Vc b1 b3 ?_
  | refine Ux b1 b3 ?_
  | simp only[one,there,bne_self_eq_false,Yv,if_false]
  | apply Ya
  | apply Yc
 have up:¬(i:Int) < 0:=by lia
 simp only[up,if_false,XG]
 cases hx:es[i]? with
 | some e=>
  have on:(s.heap.update it (XX (·.setIfInBounds 1 (rawInt ((i:Int) + 1))))).IsKeyIter it d (i + 1) es.size ep:=⟨_,Xn _ a1 (X4 (Xi a3 _)),(Vd ..).trans a2,by rw[Xi a3];simp[rawInt]⟩
  have ty:({ s with heap:=s.heap.update it (XX (·.setIfInBounds 1 (rawInt ((i:Int) + 1)))) }:Shared).TypeIs (.ref it) "dict_keyiterator":=Heap.IsKeyIter.typeIs on
  dsimp only
  repeat first
   | refine WU hit.typeIs ?_
   | refine wpAny_isOneOf_keyiter hit.typeIs ?_
   | refine wpAny_isOneOf_keyiter ty ?_
   | simp only[one,Yv,if_false,XO]
   | refine XY a1 a3 (by simp) ?_
   | apply Xa
   | apply Ya
   | apply Yc
  exact ⟨_,rfl,Yc (q1 e hx _ on (Y3 ..))⟩
 | none=>
  have calm:A.in1.handled=none:=hh hx
  dsimp only
  repeat first
   | refine WU hit.typeIs ?_
   | simp only[one,Yv,if_false,XO]
   | refine XY a1 a3 (by simp) ?_
   | refine Yan ?_
   | refine Vu calm ?_
   | apply Ya
   | apply Yc
  refine UO (Ye _ rfl) (Yc ?_)
  have stop:UY (.type "StopIteration") (.type "StopIteration")=pure true:=UQ
  dsimp only
  rw[stop]
  exact Yc (Yc (q2 hx _ (((Y3 ..).extBut.push _).push _)))
theorem raw_item {e:VG}{Q:Option Value->Shared->Prop}(hit:s.heap.IsKeyIter it d i es.size ep)(hm:RawD s.heap d es ep)(hx:es[i]? = some e)
  (q:∀h',h'.IsKeyIter it d (i + 1) es.size ep->Xw it s.heap h'->Q (some e.key) { s with heap:=h' }):wpAny (model prog w) A (pyNext (.ref it)) Q E s:=
 raw_next (fun z=>by rw[hx] at z;cases z) hit hm (fun e' z=>by rw[hx] at z;cases z;exact q) fun z=>by rw[hx] at z;cases z
theorem raw_end {Q:Option Value->Shared->Prop}(hh:7e8)(hit:s.heap.IsKeyIter it d i es.size ep)(hm:RawD s.heap d es ep)(hx:es.size<=i)
  (q:∀h',Uy it s.heap h'->Q none { s with heap:=h' }):wpAny (model prog w) A (pyNext (.ref it)) Q E s:=
 raw_next (fun _=>hh) hit hm (fun e' z=>by rw[YH hx] at z;cases z) fun _=>q
theorem raw_walks (hh:7e8)(I:Addr)(hne:d≠I):
  Walks prog w A I [I,d] [I] es.size (fun i v=>∃e,es[i]? = some e/\v=e.key) (fun i h=>h.IsKeyIter I d i es.size ep/\RawD h d es ep) where
 sub:=fun b hb=>by rw[Yk.mp hb];exact YJ
 frame:=fun _ _ _ st hk=>⟨st.1.at (hk I 8e0),st.2.at (hk d (.tail _ 8e0))⟩
 item:=fun i s Q E hi st hQ=>by
  have hx:es[i]? = some es[i]:=Yj hi
  exact raw_item st.1 st.2 hx fun h' k2 sb=>hQ _ h' s.toks ⟨_,hx,rfl⟩ ⟨k2,st.2.at fun o e=>sb.extBut d o hne e⟩ fun b o hb e=>sb.extBut b o (fun z=>hb (Yk.mpr z)) e
 done:=fun s Q E st hQ=>raw_end hh st.1 st.2 (Yi _) fun h' x=>hQ h' s.toks fun b o hb e=>x b o (fun z=>hb (Yk.mpr z)) e
 self:=fun _ _ _ _ st hQ=>wpAny_pyIter_keyiter st.1 hQ
theorem raw_src (lo:(d==XE)=false):KdlSrc prog w "dict" d d es.size (fun i v=>∃e,es[i]? = some e/\v=e.key) (fun h=>RawD h d es ep) where
 type:=fun _ hm=>hm.ty
 there:=fun _ hm=>⟨hm.lt,hm.lt⟩
 keep:=fun _ _ hm hk=>hm.at (hk d (.inl rfl))
 notList:=by decide
 notTuple:=by decide
 hint:=fun _ _ _ _ hm hq=>kdl_hint_dict hm.ty hq
 iter:=fun _ _ hh hm=>⟨_,_,fun _ _ hq=>raw_iter lo hm hq,raw_walks hh _ (Yt hm.lt),8e8,hm.at fun o e=>Yb _ e⟩
end
section
variable {prog:Yy}{w:World}{A:Around}{E:1e1}{s:Shared}{T:String}{r d:Addr}{n:Nat}{P:Nat->Value->Prop}{OK:Heap->Prop}
theorem ext_src {R:9e2}(K:KdlSrc prog w T r d n P OK)(hh:7e8)(hok:OK s.heap)(S:Addr)(hSr:S≠r)(hSd:S≠d)(c₀:Nat)(hS:s.heap.get? S=some { cls:=.type "list",data:=.seq #[] c₀ })(hn:n<=Yr)
  (hR:∀h' tk acc c,(∀b o,b≠S->s.heap.get? b=some o->h'.get? b=some o)->h'.get? S=some { cls:=.type "list",dict:=none,data:=.seq acc c,slots:=#[] }->Ybe P acc n->R (.ok (.ret (.ref S))) { s with heap:=h',toks:=tk }):
  XT 1e9 A (.builtin "list.__iadd__" ⟨[.ref S,.ref r],[]⟩) R s:=by
 refine XJ Yab ?_
 rw[Wt (show plainId "list.__iadd__"=true by decide +kernel) _]
 exact kdl_extend K hh hok S hSr hSd (.ref S) c₀ hS hR hn
theorem Zdm {Q:List Value->Shared->Prop}(K:KdlSrc prog w T r d n P OK)(hh:7e8)(hok:OK s.heap)(hn:n<=Yr)
  (h:∀h' tk acc,(∀b o,s.heap.get? b=some o->h'.get? b=some o)->s.heap.objs.size<=h'.objs.size->Ybe P acc n->Q acc.toList { s with heap:=h',toks:=tk }):wpAny (model prog w) A (Yal (.ref r)) Q E s:=by
 unfold Yal
 refine Ya (V6 (XJ Uh ?_))
 refine Ya (WN (Yc ⟨VM _ 6e1,?_⟩))
 have hS:(s.heap.push (seqObj "list" #[] 0)).get? s.heap.objs.size=some { cls:=.type "list",data:=.seq #[] 0 }:=Ye _ rfl
 have hlt:=K.there _ hok
 refine ext_src (s:={ s with heap:=s.heap.push (seqObj "list" #[] 0) }) K hh (K.keep _ _ hok fun b _ o e=>Yb _ e) s.heap.objs.size (X1 hlt.1) (X1 hlt.2) 0 hS hn fun h' tk acc c k e ai=>?_
 refine Ya (wpAny_load e ?_)
 exact Yc (h h' tk acc (fun b o z=>k b o (Yt (Yq z)) (Yb _ z)) (Xv (Yq e)) ai)
end
section
variable {prog:Yy}{w:World}{A:Around}{E:1e1}{s:Shared}{vs:2e5}{κ:Uj}{o:Nat->Nat->Bool}
theorem Zcb {v:Value}{Q:1e1}(hcol:∀(Q':List Value->Shared->Prop),(∀h1 tk,(∀b u,s.heap.get? b=some u->h1.get? b=some u)->s.heap.objs.size<=h1.objs.size->Q' vs { s with heap:=h1,toks:=tk })->wpAny (model prog w) A.in1 (Yal v) Q' E s)(h64:vs.length < 64)
  (hk:2<=vs.length->∀h' tk,7e4->∀Q:Uj->Shared->Prop,Q κ { s with heap:=h',toks:=tk }->wpAny (model prog w) A.in1.in1 (keyKind' vs.toArray) Q (fun _ _=>False) { s with heap:=h',toks:=tk })
  (hc:2<=vs.length->∀h' tk,7e4->∀i j (C:4e4),i < vs.length->j < vs.length->C (o i j) { s with heap:=h',toks:=tk }->kas_ask prog w A.in1.in1 κ vs i j C { s with heap:=h',toks:=tk })
  (h:∀D h' tk c,s.heap.objs.size<=D->7e4->h'.get? D=some (seqObj "list" (outs2 o vs).toArray c)->Q (.ref D) { s with heap:=h',toks:=tk }):
  wpAny 1e9 A (call (.builtin "sorted") [v]) Q E s:=by
 refine Vm kind_sorted plain_sorted entry_sorted (args_sorted1 _) ?_
 unfold Wj.«sorted»
 refine Ya (m:=checkCount "sorted" 1 1 _) (Yc ?_);refine Ya (hcol _ fun h1 tk kp hle=>?_)
 refine Ya (WN ?_ (by rw[YN];lia))
 have hoL:(h1.push 8e6).get? h1.objs.size=some 8e6:=Ye _ rfl
 have keep:∀b u,s.heap.get? b=some u->(h1.push 8e6).get? b=some u:=fun b u e=>Yb _ (kp b u e)
 have kb:∀h',KeepBut h1.objs.size (h1.push 8e6) h'->∀b u,s.heap.get? b=some u->h'.get? b=some u:=fun h' k b u e=>
  k b u (Yt (Yo (Yq e) hle)) (keep b u e)
 show wpAny _ _ _ _ _ { s with heap:=h1.push (seqObj "list" vs.toArray 0),toks:=tk }
 refine Ya (Xa (Y7 slot_list_sort ⟨_,hoL,rfl⟩ entry_list_sort ?body (args_list_sort _)))
 case body=>
  by_cases h2:vs.length < 2
  ·refine Zc3 (s:={ s with heap:=h1.push (seqObj "list" vs.toArray 0),toks:=tk }) hoL h2 fun h' c k e=>⟨_,rfl,Yc ⟨_,rfl,h _ h' tk c hle (kb h' k) ?_⟩⟩
   unfold outs2;rw[if_pos h2];exact e
  ·refine lsort_at (s:={ s with heap:=h1.push (seqObj "list" vs.toArray 0),toks:=tk }) (κ:=κ) (o:=o) hoL (by lia) h64 (fun h' k=>hk (by lia) h' tk (kb h' k)) (fun h' k=>hc (by lia) h' tk (kb h' k)) fun h' c k e=>⟨_,rfl,Yc ⟨_,rfl,h _ h' tk c hle (kb h' k) ?_⟩⟩
   unfold outs2;rw[if_neg h2];exact e
end
end Pu
namespace Pu
open PySem PySem.Spec PySem.W PySem.Calls L2 PySem.SeqAt
open PyProof.Rows hiding St Fr
def tupK (k:5e6):PV:=.tup (k.map kP)
def keyOk:Key->Bool
 | .inl _=>true
 | .inr x=>decide (x.length<=1000)
def keysOk (ks:4e2):Bool:=ks.all fun k=>k.all keyOk
theorem rep_kP {K:W.Frag}{ι:2e2}{H:Hp}:∀{k:Key},keyOk k=true->Rep K ι H (kP k) (kV k)
 | .inl i,_=>repI
 | .inr x,h=>repS (k1000 (of_decide_eq_true h))
theorem reps_kP {K:W.Frag}{ι:2e2}{H:Hp}:∀{k:5e6},k.all keyOk=true->Reps K ι H (k.map kP) (k.map kV)
 | [],_=>.nil
 | x::k,h=>by
  rw[Vb,Yp] at h
  exact .cons (rep_kP h.1) (reps_kP h.2)
theorem rep_tupK {K:W.Frag}{ι:2e2}{H:Hp}{k:5e6}{b:Addr}(h:k.all keyOk=true)(e:H b=some (.tup (k.map kV))):Rep K ι H (tupK k) (.ref b):=by
 unfold tupK Rep;exact ⟨b,_,rfl,e,reps_kP h⟩
theorem kt_reps {K:W.Frag}{ι:2e2}{H:Hp}{kvs:5e4}{xs:List 7e9}(r:KT H kvs xs)(h:keysOk (kvs.map (·.1))=true):Reps K ι H (kvs.map fun q=>tupK q.1) (xs.map fun x=>V.ref x.2.1):=by
 induction r with
 | nil=>exact .nil
 | @cons p q ps qs a t ih=>
  rw[Ym] at h
  unfold keysOk at h
  rw[Vb,Yp] at h
  exact .cons (rep_tupK h.1 a.2.1) (ih h.2)
theorem ZcG:∀(xs:List 7e9),Vals (xs.map fun x=>V.ref x.2.1) (xs.map fun x=>YG x.2.1)
 | []=>.nil
 | x::xs=>.cons rfl (ZcG xs)
theorem items_raw {xs:List 7e9}{es:Array VG}{prog:Yy}{w:World}{acc:Array Value}(he:es.toList=xs.map (Yar (Vh (mixKind prog w))))(h:Ybe (fun i v=>∃e,es[i]? = some e/\v=e.key) acc es.size):acc.toList=xs.map fun x=>YG x.2.1:=by
 have hl:es.size=xs.length:=VN he
 apply XV
 intro i
 rw[Y8,Yx]
 by_cases hi:i < acc.size
 ·obtain ⟨e,e1,e2⟩:=h.2 i _ (Yj hi)
  rw[Yj hi,e2]
  rw[entry_at he] at e1
  cases hx:xs[i]? with
  | none=>rw[hx] at e1;cases e1
  | some x=>rw[hx] at e1;cases e1;rfl
 ·rw[YH 1e2,XF (by have:=h.1;lia)];rfl
section
variable {X:Cx}
def rSortedD (K:W.Frag):List V->Hp->VK->Prop:=fun xs H Q=>∃p kvs,xs=[.ref p]/\Rd H p (.dT kvs)/\keysOk (kvs.map (·.1))=true/\(sortP (kvs.map fun q=>tupK q.1)).isSome=true/\
 ∀ys:List V,(∀ι,Reps K ι H (kvs.map fun q=>tupK q.1) ys)->∀l,H l=none->Q (.ref l) (upd H l (.lst (sortV (kvs.map fun q=>tupK q.1) ys)))
theorem call_sortedD (hcm:5e2)(hu:5e9):CallR X (.builtin "sorted") (rSortedD X.K):=by
 intro pins s σ H xs us Q I r h
 obtain ⟨p,kvs,rfl,hq,hko,hs,q⟩:=h
 obtain ⟨u,rfl,rx⟩:=vals1 r
 cases rx
 obtain ⟨hz,lo,xs,kt,o,es,ep,ho,hex,hda,he,his,hnd⟩:=dt_rd I.hok hq
 have hl:es.size=xs.length:=VN he
 have hkl:kvs.length=xs.length:=Wm kt
 generalize hps:(kvs.map fun q=>tupK q.1)=ps at hs q
 have hpl:ps.length=kvs.length:=by rw[←hps,Yf]
 have rs:∀ι,Reps X.K ι H ps (xs.map fun x=>V.ref x.2.1):=fun ι=>by rw[←hps];exact kt_reps kt hko
 unfold sortP at hs
 split at hs
 ·rename_i hh
  simp only[Yp,decide_eq_true_eq] at hh
  obtain ⟨⟨⟨⟨hd,hde⟩,h64⟩,hso⟩,hcm'⟩:=hh
  have hr:=Reps.heap I ps (rs []) (ZcG xs) hd
  have hvl:(xs.map fun x=>YG x.2.1).length=ps.length:=by rw[Yf];lia
  refine Zcb (vs:=xs.map fun x=>YG x.2.1) (κ:=kindP ps) (o:=oP ps) (fun Q' q'=>?_) 1e2 (fun h2 h' tk k Q' q'=>?_) (fun h2 h' tk k i j C hi hj hC=>?_) (fun D h' tk c hD k e=>?_)
  ·refine Zdm (raw_src (es:=es) (ep:=ep) lo) (I.ok.hd hcm) ⟨o,ho,hex,hda⟩ (by rw[YN];lia) fun h' tk acc k hle ai=>?_
   rw[items_raw he ai]
   exact q' h' tk k hle
  ·exact Zc7 (s:={ s with heap:=h',toks:=tk }) (hr.keep k) h2 hso q'
  ·exact ask_of (s:={ s with heap:=h',toks:=tk }) (hr.keep k) hso hcm' (by rw[YV,YV];lia) hi hj hC
  ·rw[ZbY hvl.symm] at e
   refine ⟨.ref D,_,I.laid (t':=tk) k hD (show ObjOk X.prog X.w _ h' _ (.lst (sortV ps (xs.map fun x=>V.ref x.2.1))) from ⟨?_,sortU ps (xs.map fun x=>YG x.2.1),c,?_,e⟩),rfl,q _ rs _ (I.hok.fresh hD)⟩
   ·unfold sortV
    rw[Yf]
    have:(perm ps).length<=64:=by
     unfold perm
     split
     ·rw[Wa];lia
     ·rw[YK,(Zco (o:=oP ps) (XA ps.length) (Zbk 1e2)).2.1];lia
    exact YQ this (by rw[YN];decide)
   ·exact Zbq (ZcG xs) fun i hi=>by have:=Za6 i hi;lia
 ·cases hs
theorem collect_tup {prog:Yy}{w:World}{A:Around}{E:1e1}{s:Shared}{l:Addr}{vs:2e5}{Q:List Value->Shared->Prop}(ht:s.heap.IsTuple l vs.toArray)(hsz:vs.length<=Yr)
  (h:∀h',(∀b o,s.heap.get? b=some o->h'.get? b=some o)->s.heap.objs.size<=h'.objs.size->Q vs { s with heap:=h' }):wpAny (model prog w) A (Yal (.ref l)) Q E s:=by
 obtain ⟨o,ho,hc,n,hd⟩:=ht
 have new:(s.heap.push (seqObj "list" #[] 0)).get? s.heap.objs.size=some (seqObj "list" #[] 0):=Ye _ rfl
 have hk:=Yb (seqObj "list" #[] 0) ho
 unfold Yal
 refine Ya (V6 (XJ Uh (Ya (WN (Yc ⟨VM _ 6e1,XJ Yab ?_⟩)))))
 show wpAny _ _ (We 4e5 (.ref l) 4e5) _ _ { s with heap:=s.heap.push (seqObj "list" #[] 0) }
 unfold We
 refine Ya (Vz (T:="tuple") ⟨o,hk,hc⟩ ?_)
 have yes:(VB 4e5 (.ref l)||X5 "tuple"==X5 "list"||X5 "tuple"==X5 "tuple")=true:=by rw[show (X5 "tuple"==X5 "tuple")=true by rfl,Yam]
 rw[if_pos yes]
 refine Ya (Yak hk hd (Ya (Yak new rfl ?_)))
 rw[if_neg 3e0];refine Ya (Uk new rfl ?_ (Y4 _) (by show (#[]++vs.toArray).size<=Yr + 1;simp;lia))
 have e2:=WC new (fun a=>a++vs.toArray)
 refine Yc (Ya (wpAny_load e2 ?_))
 show wpAny _ _ (pure ((#[]:Array Value)++vs.toArray).toList) Q E _
 rw[show ((#[]:Array Value)++vs.toArray).toList=vs by simp]
 refine Yc (h _ (fun b u e=>?_) ?_)
 ·rw[XU _ _ _ _ (Yt (Yq e))];exact Yb _ e
 ·rw[Heap.size_update,size_push'];lia
def rSortedT (K:W.Frag):List V->Hp->VK->Prop:=fun xs H Q=>∃p ys ι ps,xs=[.ref p]/\SqT K H p ys/\Reps K ι H ps ys/\(sortP ps).isSome=true/\∀l,H l=none->Q (.ref l) (upd H l (.lst (sortV ps ys)))
theorem call_sortedT (hu:5e9):CallR X (.builtin "sorted") (rSortedT X.K):=by
 intro pins s σ H xs us Q I r h
 obtain ⟨p,ys,ι,ps,rfl,hq,rs,hs,q⟩:=h
 obtain ⟨u,rfl,rx⟩:=vals1 r
 cases rx
 obtain ⟨its,r',pl,hz⟩:=I.tuple hq
 unfold sortP at hs
 split at hs
 ·rename_i hh
  simp only[Yp,decide_eq_true_eq] at hh
  obtain ⟨⟨⟨⟨hd,hde⟩,h64⟩,hso⟩,hcm⟩:=hh
  have hr:=Reps.heap I ps rs r' hd
  have hl:=hr.length
  have hyl:=r'.length
  refine Zcb (vs:=its) (κ:=kindP ps) (o:=oP ps) (fun Q' q'=>collect_tup pl (by rw[YN];lia) fun h' k hle=>q' h' s.toks k hle) 1e2 (fun h2 h' tk k Q' q'=>?_) (fun h2 h' tk k i j C hi hj hC=>?_) (fun D h' tk c hD k e=>?_)
  ·exact Zc7 (s:={ s with heap:=h',toks:=tk }) (hr.keep k) h2 hso q'
  ·exact ask_of (s:={ s with heap:=h',toks:=tk }) (hr.keep k) hso hcm (by rw[YV,YV];lia) hi hj hC
  ·rw[ZbY hl] at e
   refine ⟨.ref D,_,I.laid (t':=tk) k hD (show ObjOk X.prog X.w _ h' _ (.lst (sortV ps ys)) from ⟨?_,sortU ps its,c,?_,e⟩),rfl,q _ (I.hok.fresh hD)⟩
   ·unfold sortV
    rw[Yf]
    have:(perm ps).length<=64:=by
     unfold perm
     split
     ·rw[Wa];lia
     ·rw[YK,(Zco (o:=oP ps) (XA ps.length) (Zbk 1e2)).2.1];lia
    exact YQ this (by rw[YN];decide)
   ·exact Zbq r' fun i hi=>by have:=Za6 i hi;lia
 ·cases hs
def sortedH2 (C:Cs):List SV->Option 2e9
 | [x]=>match deref C x with
  | some (.lst xs)=>sortP xs
  | some (.tup xs)=>sortP xs
  | some (.dtt ks _)=>if keysOk ks then sortP (ks.map tupK) else none
  | _=>none
 | _=>none
def mSorted2 (fs:2e1):PSt->M 2e9:=fun ρ=>bnd (fs ρ) fun xs=>opM fun C=>sortedH2 C xs
theorem fm_sorted2 {e:Expr}{es:3e2}{fs:2e1}{p pos:Pos}(hcm:5e2)(hu:5e9)(hgl:Gl X "sorted")(hm:X.mg "sorted"=none)(hv:Xz "sorted"=some (.builtin "sorted"))(ha:AM X 4e6 fs)
  (he:1e5:=by rfl) (hpl:2e7:=by rfl):FM X (.Call (.Name "sorted" p) 4e6 [] pos) (mSorted2 fs):=
 PE.imp (pe_callB ((call_sorted hu).or ((call_sortedT hu).or (call_sortedD hcm hu))) hgl hm hv ha 1e4 1e4 he hpl) fun σ H Q h_=>by
  obtain ⟨ι,ρ,C,z,C',sr,e,q⟩:=h_
  obtain ⟨xs,C1,e1,e⟩:=Zae e
  obtain ⟨e2,rfl⟩:=Zav e
  refine ⟨ι,ρ,C,xs,_,sr,e1,fun vs H1 f1 c1 r1=>?_⟩
  unfold sortedH2 at e2
  split at e2
  ·rename_i x
   obtain ⟨v,w,rfl,r1,hw⟩:=r1
   cases (show w=[] from hw)
   split at e2
   ·rename_i ps hd
    obtain ⟨a,ws,rfl,h1,r2⟩:=liesL (r1.lies c1 hd)
    refine .inl ⟨a,ws,ι,ps,rfl,h1,r2,by rw[e2];rfl,fun l hl=>?_⟩
    refine q l _ H1 f1 c1 hl ?_
    rw[Zbt e2]
    exact Zbz r2 fun i hi=>Za6 i hi
   ·rename_i ps hd
    obtain ⟨a,ws,rfl,h1,r2⟩:=liesT (r1.lies c1 hd)
    refine .inr (.inl ⟨a,ws,ι,ps,rfl,h1.sq,r2,by rw[e2];rfl,fun l hl=>?_⟩)
    refine q l _ H1 f1 c1 hl ?_
    rw[Zbt e2]
    exact Zbz r2 fun i hi=>Za6 i hi
   ·rename_i ks ps hd
    have li:=r1.lies c1 hd
    cases li with
    | @dtt a _ _ ws h1 hl r2=>
     by_cases hk:keysOk ks=true
     ·rw[if_pos hk] at e2
      have ek:((ks.zip ws).map fun q=>tupK q.1)=ks.map tupK:=by
       have:(ks.zip ws).map Yba=ks:=Vr 1e2
       exact (Y9 (f:=Yba) (g:=tupK) (l:=ks.zip ws)).symm.trans (by rw[this])
      have ef:(ks.zip ws).map (·.1)=ks:=Vr 1e2
      refine .inr (.inr ⟨a,ks.zip ws,rfl,h1,by rw[ef];exact hk,by rw[ek,e2];rfl,fun ys ry l hl=>?_⟩)
      refine q l _ H1 f1 c1 hl ?_
      rw[Zbt e2,ek]
      have ry':=ry ι
      rw[ek] at ry'
      exact Zbz ry' fun i hi=>Za6 i hi
     ·rw[if_neg hk] at e2;cases e2
   ·cases e2
  ·cases e2
end
def inK {κ:Type} [DecidableEq κ](k:κ)(ks:List κ):Bool:=ks.any fun a=>decide (a=k)
def putKs {κ:Type} [DecidableEq κ](ks:List κ)(k:κ):List κ:=if inK k ks then ks else ks++[k]
def putVs {κ:Type} [DecidableEq κ]{α:Type}(ks:List κ)(xs:List α)(k:κ)(x:α):List α:=if inK k ks then (ks.zip xs).map (fun q=>if q.1=k then x else q.2) else xs++[x]
theorem Zbp {κ:Type} [DecidableEq κ]{k:κ}{ks:List κ}:inK k ks=true↔k∈ks:=by
 unfold inK;rw[XD]
 constructor
 ·rintro ⟨a,h,e⟩;rw[←of_decide_eq_true e];exact h
 ·intro h;exact ⟨k,h,decide_eq_true rfl⟩
theorem ZcF {κ:Type} [DecidableEq κ]{k:κ}{v:V}:∀{ks:List κ} {vs:List V},ks.length=vs.length->((ks.zip vs).map fun kv=>if kv.1=k then (kv.1,v) else kv)=ks.zip ((ks.zip vs).map fun q=>if q.1=k then v else q.2)
 | [],vs,_=>by simp
 | a::ks,[],h=>by simp at h
 | a::ks,b::vs,h=>by
  rw[Xe,Ym,Ym,Xe,ZcF 7e3]
  by_cases e:a=k
  ·simp[e]
  ·simp[e]
theorem zip_any {κ:Type} [DecidableEq κ]{k:κ}:∀{ks:List κ} {vs:List V},ks.length=vs.length->((ks.zip vs).any fun kv=>decide (kv.1=k))=inK k ks
 | [],vs,_=>by simp[inK]
 | a::ks,[],h=>by simp at h
 | a::ks,b::vs,h=>by
  rw[Xe,Xg,zip_any 7e3]
  unfold inK;rw[Xg]
theorem put_zip {κ:Type} [DecidableEq κ]{k:κ}{v:V}{ks:List κ}{vs:List V}(h:ks.length=vs.length):putK (ks.zip vs) k v=(putKs ks k).zip (putVs ks vs k v)/\(putKs ks k).length=(putVs ks vs k v).length:=by
 unfold putK putKs putVs
 rw[zip_any h]
 cases e:inK k ks with
 | true=>
  simp only[if_true]
  refine ⟨ZcF h,?_⟩
  rw[Yf,WD];lia
 | false=>
  simp only[Yv,if_false]
  refine ⟨?_,by simp[h]⟩
  rw[List.zip_append h];rfl
theorem reps_put {κ:Type} [DecidableEq κ]{K:W.Frag}{ι:2e2}{H:Hp}{k:κ}{p:PV}{v:V}(hp:Rep K ι H p v){ks:List κ}{ps:List PV}{vs:List V}(r:Reps K ι H ps vs):Reps K ι H (putVs ks ps k p) (putVs ks vs k v):=by
 unfold putVs
 by_cases e:inK k ks=true
 ·rw[if_pos e,if_pos e]
  clear e
  induction ks generalizing ps vs with
  | nil=>simp;exact .nil
  | cons a ks ih=>
   cases ps with
   | nil=>rw[r.inv0];simp;exact .nil
   | cons q ps=>
    obtain ⟨w,ws,rfl,h1,h2⟩:=r.inv
    rw[Xe,Xe,Ym,Ym]
    refine .cons ?_ (ih h2)
    by_cases z:a=k
    ·simp only[z,if_true];exact hp
    ·simp only[z,if_false];exact h1
 ·rw[if_neg e,if_neg e];exact r.append (.cons hp .nil)
def dFold {α:Type}:List (List Key×α)->List (List Key)->List α->List (List Key)×List α
  | [],ks,xs=>(ks,xs)
  | (k,x)::r,ks,xs=>dFold r (putKs ks k) (putVs ks xs k x)
def keysP:List PV->Option (List Key)
 | []=>some []
 | p::r=>match keyP p,keysP r with
  | some k,some ks=>some (k::ks)
  | _,_=>none
def pairP:PV->Option (List Key×PV)
 | .tup [.tup qs,v]=>(keysP qs).map fun k=>(k,v)
 | _=>none
section
variable {K:W.Frag}{ι:2e2}{H:Hp}
theorem rep_key {x:PV}{v:V}{q:Key}(l:Rep K ι H x v)(h:keyP x=some q):v=kV q:=lies_key (Rep.lies l) h
theorem ZcR:∀{qs:List PV} {ws:List V} {k:5e6},Reps K ι H qs ws->keysP qs=some k->ws=k.map kV
 | [],ws,k,r,e=>by cases e;exact r.inv0
 | p::qs,ws,k,r,e=>by
  obtain ⟨v,w,rfl,h1,h2⟩:=r.inv
  unfold keysP at e
  split at e
  ·rename_i a b e1 e2
   cases e
   rw[rep_key h1 e1,ZcR h2 e2];rfl
  ·cases e
theorem ZbM {qs:List PV}{k:5e6}{v:V}(r:Rep K ι H (.tup qs) v)(e:keysP qs=some k):∃b,v=.ref b/\H b=some (.tup (k.map kV)):=by
 unfold Rep at r
 obtain ⟨b,ws,rfl,h,rs⟩:=r
 rw[ZcR rs e] at h
 exact ⟨b,rfl,h⟩
theorem CR.none_out {C:Cs}(cr:7e2){a:Addr}(h:H a=none):a∉ι:=fun z=>by
 rcases cr.mut z with ⟨_,e⟩ | ⟨_,e⟩ | ⟨_,e⟩
 ·rw[h] at e;cases e
 ·rw[h] at e;cases e
 ·rw[h] at e;cases e
end
section
variable {X:Cx}{e o i:Expr}{es:3e2}{fs:2e1}{p pos pos':Pos}{x:Str}{fv fo fi:2e4}
def mNewT (i:Nat):PSt->M PF:=fun ρ C=>some (.nx (ρ.set i (some (.c C.length))),C++[.dtt [] []])
def setT (v o i:SV)(ρ:PSt):M PF:=fun C=>match o,i,v with
 | .c k,.v (.tup qs),.v p=>match C[k]?,keysP qs with
  | some (.dtt ks ps),some key=>if ks.length < 1000 then some (.nx ρ,C.set k (.dtt (putKs ks key) (putVs ks ps key p))) else none
  | _,_=>none
 | _,_,_=>none
def mSetIxT (fv fo fi:2e4):PSt->M PF:=fun ρ=>bnd (fv ρ) fun v=>bnd (fo ρ) fun o=>bnd (fi ρ) fun i=>setT v o i ρ
theorem setT_some {v o i:SV}{ρ:PSt}{C C2:Cs}{fl:PF}(h:setT v o i ρ C=some (fl,C2)):∃k qs p ks ps key,o=.c k/\i=.v (.tup qs)/\v=.v p/\C[k]? = some (.dtt ks ps)/\keysP qs=some key/\ks.length < 1000/\fl=.nx ρ/\C2=C.set k (.dtt (putKs ks key) (putVs ks ps key p)):=by
 unfold setT at h
 split at h
 ·split at h
  ·split at h
   ·cases h;exact ⟨_,_,_,_,_,_,rfl,rfl,rfl,by assumption,by assumption,by assumption,rfl,rfl⟩
   ·cases h
  ·cases h
 ·cases h
end
def lookT:List (List Key)->List PV->List Key->Option PV
 | k::ks,v::vs,q=>if k=q then some v else lookT ks vs q
 | _,_,_=>none
theorem lookT_rep {K:W.Frag}{ι:2e2}{H:Hp}{q:5e6}:∀{ks:4e2} {ps:List PV} {vs:List V},ks.length=vs.length->Reps K ι H ps vs->
  (∀z,lookT ks ps q=some z->∃v,valV (ks.zip vs) q=some v/\Rep K ι H z v)/\(valV (ks.zip vs) q).isSome=inK q ks:=by
 intro ks
 induction ks with
 | nil=>
  intro ps vs hl r
  refine ⟨fun z h=>?_,rfl⟩
  cases ps<;>cases h
 | cons k ks ih=>
  intro ps vs hl r
  cases ps with
  | nil=>rw[r.inv0] at hl;cases hl
  | cons p ps=>
   obtain ⟨v,w,rfl,h1,h2⟩:=r.inv
   have ih:=ih (by simpa using hl) h2
   rw[Xe]
   unfold lookT inK
   rw[Xg]
   by_cases h:k=q
   ·rw[if_pos h,Zbr (p:=(k,v)) h,decide_eq_true h]
    exact ⟨fun z e=>by cases e;exact ⟨v,rfl,h1⟩,rfl⟩
   ·rw[if_neg h,Zbs (p:=(k,v)) h,decide_eq_false h]
    exact ⟨ih.1,by rw[ih.2];rfl⟩
theorem dgetT {H:Hp}{a b:Addr}{kvs:5e4}{k:5e6}(e:Rd H a (.dT kvs))(eb:H b=some (.tup (k.map kV))):DGet H a (.ref b) (valV kvs k):=.inr ⟨kvs,k,b,e,rfl,eb,rfl⟩
theorem liesTT {K:W.Frag}{ι:2e2}{H:Hp}{ks:4e2}{ps:List PV}{v:V}(l:Lies K ι H (.dtt ks ps) v):∃(a:Addr) (vs:List V),v=.ref a/\Rd H a (.dT (ks.zip vs))/\ks.length=vs.length/\Reps K ι H ps vs:=by
 cases l;exact ⟨_,_,rfl,by assumption,by assumption,by assumption⟩
theorem lies_keys {K:W.Frag}{ι:2e2}{H:Hp}{qs:List PV}{k:5e6}{v:V}(l:Lies K ι H (.tup qs) v)(e:keysP qs=some k):∃b,v=.ref b/\H b=some (.tup (k.map kV)):=by
 obtain ⟨b,ws,rfl,h,rs⟩:=liesT l
 rw[ZcR rs e] at h
 exact ⟨b,rfl,h⟩
def inTP (neg:Bool)(x y:PV):Option PV:=match x,y with
 | .tup qs,.dtt ks _=>match keysP qs with
  | some k=>some (.bl (if neg then !inK k ks else inK k ks))
  | none=>none
 | _,_=>none
section
variable {X:Cx}{a b:Expr}{fa fb:2e4}{pos:Pos}
def rInT (neg:Bool):R2:=fun x y H Q=>∃p o,y=.ref p/\DGet H p x o/\Q (.bl (if neg then !o.isSome else o.isSome)) H
theorem op_inT (hu:5e9):OpR X (X7 .In) (rInT false):=by
 sleep 3
 obtain ⟨p,o,rfl,g,q⟩:=h
 cases ry
 exact d_in 1e2 I g rx fun s' I'=>⟨.bl o.isSome,H,I',rfl,q⟩
theorem op_notInT (hu:5e9):OpR X (X7 .NotIn) (rInT true):=by
 sleep 3
 obtain ⟨p,o,rfl,g,q⟩:=h
 cases ry
 exact d_notIn 1e2 I g rx fun s' I'=>⟨.bl (!o.isSome),H,I',rfl,q⟩
theorem inT_ok {neg:Bool}:L2ok X.K (rInT neg) (inTP neg):=by
 intro ι H C p q vx vy z Q cr lx ly e k
 unfold inTP at e
 split at e
 ·split at e
  ·rename_i key hk
   cases e
   obtain ⟨b,rfl,hb⟩:=lies_keys lx hk
   obtain ⟨a,vs,rfl,hd,hl,r⟩:=liesTT ly
   refine ⟨a,_,rfl,dgetT hd hb,?_⟩
   rw[(lookT_rep hl r).2]
   exact k _ H .refl cr repBl
  ·cases e
 ·cases e
def ixT (x y:PV):Option PV:=match x with
 | .dtt ks vs=>match y with
  | .tup qs=>match keysP qs with
   | some q=>lookT ks vs q
   | none=>none
  | _=>none
 | x=>ixQ x y
theorem ixT_ok:L2ok X.K (fun x y H Q=>rIx X.K x y H Q\/rDGet x y H Q) ixT:=by
 intro ι H C p q vx vy z Q cr lx ly e k
 unfold ixT at e
 split at e
 ·split at e
  ·split at e
   ·rename_i key hk
    obtain ⟨a,ws,rfl,hd,hl,r⟩:=liesTT lx
    obtain ⟨b,rfl,hb⟩:=lies_keys ly hk
    obtain ⟨v,hv,rv⟩:=(lookT_rep hl r).1 z e
    exact .inr ⟨a,v,rfl,by rw[←hv];exact dgetT hd hb,k v H .refl cr rv⟩
   ·cases e
  ·cases e
 ·exact ixQ_ok ι H C p q vx vy z Q cr lx ly e k
end
section
variable {X:Cx}{pos:Pos}{c:Expr}{f:7e5}{body:List Stmt}
def loopW (t:3e8)(f:7e5):Nat->PSt->M PF
 | 0,_=>fun _=>none
 | n + 1,ρ=>bnd (t ρ) fun b=>if b then bnd (f ρ) (fun fl=>match fl with
   | .nx ρ2=>loopW t f n ρ2
   | .ct ρ2=>loopW t f n ρ2
   | .bk ρ2=>Pu.ret (.nx ρ2)
   | .rt r=>Pu.ret (.rt r)
   | .rf ps=>Pu.ret (.rf ps)
   | .rq ps=>Pu.ret (.rq ps)) else Pu.ret (.nx ρ)
def mWhile (t:3e8)(f:7e5):PSt->M PF:=loopW t f 1000
end
section
variable {X:Cx}{e:Expr}{es:3e2}{fs:2e1}{p pos:Pos}
theorem range_any (bs:List Bool):((YW bs.length).any fun i=>bs.getD i false)=bs.any id:=by
 rw[X3]
 simp only[XD,Xq]
 constructor
 ·rintro ⟨i,hi,h⟩
  rw[XS,Yd hi] at h
  exact ⟨_,XQ hi,by simpa using h⟩
 ·rintro ⟨b,hb,h⟩
  obtain ⟨i,hi,e⟩:=WL hb
  refine ⟨i,hi,?_⟩
  rw[XS,Yd hi]
  subst e;simpa using h
theorem call_any_bl (hc:5e2):CallR X (.builtin "any") (fun xs H Q=>∃(a:Addr) (bs:List Bool),xs=[.ref a]/\SqL X.K H a (bs.map V.bl)/\Q (.bl (bs.any id)) H):=by
 intro pins s σ H xs us Q I r h
 obtain ⟨a,bs,rfl,hq,q⟩:=h
 obtain ⟨u,rfl,ru⟩:=Vals.one r
 cases (show u=YG a from ru)
 obtain ⟨its,rv,p,hz⟩:=I.list hq
 have hlt:a < s.heap.objs.size:=by obtain ⟨o,e,_⟩:=p.isList;exact Yq e
 refine call_any_walk (UZ p.isList ?_)
 have hlen:its.toArray.size=bs.length:=by have:=rv.length;simp at this;simp[this]
 refine ⟨s.heap.objs.size,_,_,its.toArray.size,_,_,fun i=>bs.getD i false,rfl,Walks.list (by exact I.ok.hd hc) s.heap.objs.size a (Yt hlt) its.toArray,⟨8e8,p.isList.push _⟩,?_,?_⟩
 ·intro i v s' Q' E' hv hQ'
  have hi:i < bs.length:=by
   rw[←hlen]
   exact (Array.getElem?_eq_some_iff.mp hv).1
  obtain ⟨u,e1,r1⟩:=rv.get (i:=i) (x:=V.bl bs[i]) (by simp[hi])
  have e2:its[i]? = some v:=by simpa using hv
  rw[e1] at e2
  have e3:u=v:=YI e2
  have e4:u=UT bs[i]:=r1
  rw[←e3,e4]
  refine VX ?_
  have:bs.getD i false=bs[i]:=by rw[XS,Yd hi];rfl
  have hQ2:Q' (bs.getD i false) s':=hQ'
  rw[this] at hQ2
  exact hQ2
 ·intro h' tk kk
  refine ⟨.bl _,H,I.kept fun b o e=>kk b o (fun z=>?_) (Yb _ e),?_,q⟩
  ·have:b=s.heap.objs.size:=by simpa using z
   exact absurd this (Yt (Yq e))
  ·show UT _=UT _
   rw[hlen,range_any]
def anyH:List PV->Option PV
 | [.lst xs]=>(boolsP xs).map fun bs=>.bl (bs.any id)
 | _=>none
theorem any_ok:L1ok X.K (fun xs H Q=>∃(a:Addr) (bs:List Bool),xs=[.ref a]/\SqL X.K H a (bs.map V.bl)/\Q (.bl (bs.any id)) H) anyH:=by
 intro ι H C ps vs z Q cr ls e k
 unfold anyH at e
 split at e
 ·rename_i xs
  cases ls with
  | cons l t=>
   cases t
   obtain ⟨a,ws,rfl,h1,r1⟩:=liesL l
   cases hb:boolsP xs with
   | none=>rw[hb] at e;cases e
   | some bs=>
    rw[hb] at e;cases e
    exact ⟨a,bs,rfl,by rw[←bools_rep r1 hb];exact h1,k _ H .refl cr repBl⟩
 ·cases e
end
end Pu
namespace Se
open PySem PySem.Spec L2
def ins {α:Type} [DecidableEq α](acc:List α)(x:α):List α:=if x∈acc then acc else acc++[x]
def fm {α:Type} [DecidableEq α](l:List α):List α:=l.foldl ins []
section
variable {prog:Yy}{w:World}{A:Around}{E:1e1}{s:Shared}
theorem TI.fresh (led:Bool):TI (.fresh 0 0 led) #[]:=⟨⟨.inl rfl,rfl,fun a b x y _ h=>by simp[SetTable.fresh] at h,rfl,fun i j h=>by simp[SetTable.fresh] at h,fun i j e h=>by simp[SetTable.fresh] at h⟩,by show 0 * 5 < 7 * 3;decide⟩
end
end Se
namespace Se
open PySem PySem.SetTable
section
variable {α:Type}{M:Model}{A:Around}{E:1e1}
theorem wpAny_choose {src:Source}{n:Nat}{s:Shared}{Q:Nat->Shared->Prop}(hn:n≠0)(h:∀i d,i < n->Q i { s with drawn:=d }):wpAny M A (choose src n) Q E s:=fun Γ p hΓ=>by
 unfold choose
 rw[Sem.wp_choose]
 exact ⟨hn,h _ _ (Up _ (Nat.pos_of_ne_zero hn))⟩
theorem Zch:∀{l:List α} {i:Nat} {x:α},l[i]? = some x->(x::l.eraseIdx i).Perm l
 | [],_,_,h=>by simp at h
 | y::l,0,x,h=>by simp at h;subst h;simp
 | y::l,i + 1,x,h=>by
  have:=Zch (l:=l) (i:=i) 7e3
  rw[List.eraseIdx_cons_succ]
  exact (List.Perm.swap y x _).trans (this.cons y)
theorem Zb5:∀(n:Nat) (xs:List α) (s:Shared) (Q:List α->Shared->Prop),xs.length=n->(∀ys d,ys.Perm xs->Q ys { s with drawn:=d })->wpAny M A (drawOrder n xs) Q E s
 | 0,xs,s,Q,hn,h=>by
  have:xs=[]:=List.length_eq_zero_iff.mp hn
  subst this
  unfold drawOrder
  exact Yc (h [] s.drawn (.refl _))
 | n + 1,[],s,Q,hn,h=>by simp at hn
 | n + 1,x0::xs0,s,Q,hn,h=>by
  unfold drawOrder
  generalize hxs:x0::xs0=xs at *
  refine Ya (wpAny_choose 1e2 fun i d hi=>?_)
  obtain ⟨x,hx⟩:∃x,xs[i]? = some x:=⟨_,Yd hi⟩
  rw[hx]
  dsimp only
  refine Ya (Zb5 n (xs.eraseIdx i) _ _ (by rw[UE hi];lia) fun ys d' hp=>Yc (h (x::ys) d' ?_))
  exact (hp.cons x).trans (Zch hx)
theorem pick_go {next:Nat->Nat}:∀(fuel k:Nat) (left:List α) (out:Array α),left.length=fuel->(pickOrder.go next fuel k left out).toList.Perm (out.toList++left)
 | 0,k,left,out,h=>by
  have:left=[]:=List.length_eq_zero_iff.mp h
  subst this
  unfold pickOrder.go;simp
 | f + 1,k,left,out,h=>by
  unfold pickOrder.go
  have hi:next k % left.length < left.length:=Up _ 1e2
  obtain ⟨x,hx⟩:∃x,left[next k % left.length]? = some x:=⟨_,Yd hi⟩
  rw[hx]
  dsimp only
  refine (pick_go f (k + 1) _ _ (by rw[UE hi];lia)).trans ?_
  rw[V0,Yh]
  exact (Zch hx).append_left _
theorem pick_perm {next:Nat->Nat}(xs:Array α):(Yao next xs).toList.Perm xs.toList:=by
 have:=pick_go (next:=next) xs.size 0 xs.toList #[] 3e0
 simpa[Yao] using this
end
theorem Zah:Slot "set_iterator" "__next__" "set_iterator.__next__":=
 .of (owner:="set_iterator") (n:="__next__") (by rw[typeLookup_type,builtinLookup_eq_fast];kernel_rfl) 6e1 6e1 6e1
  (by first | exact .inl 6e1 | exact .inr 6e1) (by rw[V5];kernel_rfl)
theorem Zat:entryFor table "set_iterator.__next__"=some Wj.«set_iterator.__next__»:=entryFor_of_tree (by kernel_rfl)
theorem Za1:Manifest.owners.lookup (String.ofList ['r','o','t','a','r','e','t','i','_','t','e','s'].reverse)=some Manifest.sig_set_iterator:=by kernel_rfl
theorem Zaq (a:Value):argsOk "set_iterator.__next__" ⟨[a],[]⟩:=by
 unfold argsOk;rw[signature?_of (id:="set_iterator.__next__") (n:=['_','_','t','x','e','n','_','_']) (o:=['r','o','t','a','r','e','t','i','_','t','e','s']) (by kernel_rfl) Za1];kernel_rfl
theorem Zdt:entryFor table "set.__iter__"=some Wj.«frozenset.__iter__»:=entryFor_alias (id':="frozenset.__iter__") (by kernel_rfl) rfl 6e1 (by kernel_rfl)
def IsSetIter (h:Heap)(I:Addr)(first:Value)(i:Nat)(a:Addr)(n ep:Nat):Prop:=∃o,h.get? I=some o/\o.cls=.type "set_iterator"/\o.data=.fields #[first,.int i 0,.ref a,.int n 0,.int ep 0]
theorem IsSetIter.at {h h':Heap}{I a:Addr}{f:Value}{i n ep:Nat}(x:IsSetIter h I f i a n ep)(g:∀o,h.get? I=some o->h'.get? I=some o):IsSetIter h' I f i a n ep:=let ⟨o,ho,r⟩:=x;⟨o,g _ ho,r⟩
end Se
namespace Se
open PySem PySem.SetTable PySem.W
open PyProof.Rows hiding St Fr
def RawS (h:Heap)(a:Addr)(es:4e7)(ep:Nat)(t:XC):Prop:=∃o,h.get? a=some o/\o.ExactSet/\o.data=.set es ep t
theorem RawS.at {h h':Heap}{a:Addr}{es:4e7}{ep:Nat}{t:XC}(x:RawS h a es ep t)(g:∀o,h.get? a=some o->h'.get? a=some o):RawS h' a es ep t:=let ⟨o,ho,r⟩:=x;⟨o,g _ ho,r⟩
section
variable {prog:Yy}{w:World}{A:Around}{E:1e1}{s:Shared}{I a T:Addr}{es:4e7}{ep i:Nat}{t:XC}
theorem RawS.ty (x:RawS s.heap a es ep t):s.TypeIs (.ref a) "set":=let ⟨o,ho,hc,_⟩:=x;⟨o,ho,hc.1⟩
theorem RawS.lt {h:Heap}(x:RawS h a es ep t):a < h.objs.size:=let ⟨_,ho,_⟩:=x;Yq ho
theorem IsSetIter.ty {f:Value}{n:Nat}(x:IsSetIter s.heap I f i a n ep):s.TypeIs (.ref I) "set_iterator":=let ⟨o,ho,hc,_⟩:=x;⟨o,ho,hc⟩
theorem next_slot {slot nx:Nat}{x:Value}{Q:Option Value->Shared->Prop}(hit:IsSetIter s.heap I (.int slot 0) i a es.size ep)(hm:RawS s.heap a es ep t)(hf:t.fits es.size=true)
  (hn:∀(A':Around) (Q':Option (Value×Nat)->Shared->Prop) (E':1e1),Q' (some (x,nx)) s->wpAny 1e9 A' (setNext a slot i ep) Q' E' s)
  (q:∀h',IsSetIter h' I (.int nx 0) (i + 1) a es.size ep->Xw I s.heap h'->Q (some x) { s with heap:=h' }):wpAny (model prog w) A (pyNext (.ref I)) Q E s:=by
 have Ty:=hit.ty
 obtain ⟨o,ho,hc,hd⟩:=hit
 obtain ⟨od,hod,hcd,hdd⟩:=hm
 unfold pyNext
 refine Ya (VL (Xo (name:=Wn "__next__") Ty Zah (Y7 Zah Ty Zat ?body (Zaq _))))
 case body=>
  unfold Wj.«set_iterator.__next__»
  refine Ya (Yc ?_)
  refine Ya (Vn ho hd ?_)
  unfold Yat
  refine Ya (Ya (Y1 hod hdd hf (Yc ?_)))
  rw[if_neg 3e0]
  dsimp only
  simp only[XG]
  refine Ya (hn _ _ _ ?_)
  dsimp only
  refine Ya (XY ho hd 3e0 ?_)
  have g1:=Xn (XX (·.setIfInBounds 0 (rawInt nx))) ho (X4 (Xi hd _))
  have d1:(XX (·.setIfInBounds 0 (rawInt nx)) o).data=.fields #[.int nx 0,.int i 0,.ref a,.int es.size 0,.int ep 0]:=by rw[Xi hd];simp[rawInt]
  refine Ya (XY (s:={ s with heap:=s.heap.update I (XX (·.setIfInBounds 0 (rawInt nx))) }) g1 d1 (by simp) ?_)
  have g2:=Xn (XX (·.setIfInBounds 1 (rawInt ((i:Int) + 1)))) g1 (X4 (Xi d1 _))
  refine Yc ⟨_,rfl,Yc (q _ ⟨_,g2,by rw[Vd,Vd];exact hc,by rw[Xi d1];simp[rawInt]⟩ ((Y3 ..).trans (Y3 ..)))⟩
theorem end_slot {slot:Nat}{Q:Option Value->Shared->Prop}(hh:7e8)(hit:IsSetIter s.heap I (.int slot 0) i a es.size ep)(hm:RawS s.heap a es ep t)(hf:t.fits es.size=true)
  (hn:∀(A':Around) (Q':Option (Value×Nat)->Shared->Prop) (E':1e1),Q' none s->wpAny 1e9 A' (setNext a slot i ep) Q' E' s)
  (q:∀h',Uy I s.heap h'->Q none { s with heap:=h' }):wpAny (model prog w) A (pyNext (.ref I)) Q E s:=by
 have Ty:=hit.ty
 obtain ⟨o,ho,hc,hd⟩:=hit
 obtain ⟨od,hod,hcd,hdd⟩:=hm
 unfold pyNext
 refine Ya (VL (Xo (name:=Wn "__next__") Ty Zah (Y7 Zah Ty Zat ?body (Zaq _))))
 case body=>
  unfold Wj.«set_iterator.__next__»
  refine Ya (Yc ?_)
  refine Ya (Vn ho hd ?_)
  unfold Yat
  refine Ya (Ya (Y1 hod hdd hf (Yc ?_)))
  rw[if_neg 3e0]
  dsimp only
  simp only[XG]
  refine Ya (hn _ _ _ ?_)
  dsimp only
  refine Ya (XY ho hd 3e0 ?_)
  have calm:A.in1.handled=none:=hh
  have stop:UY (.type "StopIteration") (.type "StopIteration")=pure true:=UQ
  repeat first
   | refine Yan ?_
   | refine Vu calm ?_
   | apply Ya
   | apply Yc
  refine UO (Ye _ rfl) (Yc ?_)
  dsimp only
  rw[stop]
  exact Yc (Yc (q _ (((Y3 ..).extBut.push _).push _)))
theorem next_tup {places:Array Value}{o':Obj}{pl c:Nat}{e:Int×Value}{Q:Option Value->Shared->Prop}(hit:IsSetIter s.heap I (.ref T) i a es.size ep)(hm:RawS s.heap a es ep t)(hf:t.fits es.size=true)(hT:s.heap.get? T=some o')(hTd:o'.data=.seq places c)
  (hp:places[i]? = some (.int pl 0)) (he:es[pl]? = some e)
  (q:∀h',IsSetIter h' I (.ref T) (i + 1) a es.size ep->Xw I s.heap h'->Q (some e.2) { s with heap:=h' }):wpAny (model prog w) A (pyNext (.ref I)) Q E s:=by
 have Ty:=hit.ty
 obtain ⟨o,ho,hc,hd⟩:=hit
 obtain ⟨od,hod,hcd,hdd⟩:=hm
 unfold pyNext
 refine Ya (VL (Xo (name:=Wn "__next__") Ty Zah (Y7 Zah Ty Zat ?body (Zaq _))))
 case body=>
  unfold Wj.«set_iterator.__next__»
  refine Ya (Yc ?_)
  refine Ya (Vn ho hd ?_)
  unfold Yat
  refine Ya (Ya (Y1 hod hdd hf (Yc ?_)))
  rw[if_neg 3e0]
  dsimp only
  refine Ya (V7 hT hTd ?_)
  simp only[XG,hp]
  unfold setNextDrawn
  refine Ya (Ya (Y1 hod hdd hf ?_))
  dsimp only
  rw[if_neg 3e0,he]
  refine Yc ?_
  refine Ya (XY ho hd 3e0 ?_)
  have g2:=Xn (XX (·.setIfInBounds 1 (rawInt ((i:Int) + 1)))) ho (X4 (Xi hd _))
  refine Yc ⟨_,rfl,Yc (q _ ⟨_,g2,by rw[Vd];exact hc,by rw[Xi hd];simp[rawInt]⟩ (Y3 ..))⟩
theorem end_tup {places:Array Value}{o':Obj}{c:Nat}{Q:Option Value->Shared->Prop}(hh:7e8)(hit:IsSetIter s.heap I (.ref T) i a es.size ep)(hm:RawS s.heap a es ep t)(hf:t.fits es.size=true)(hT:s.heap.get? T=some o')(hTd:o'.data=.seq places c)
  (hp:places.size<=i)
  (q:∀h',Uy I s.heap h'->Q none { s with heap:=h' }):wpAny (model prog w) A (pyNext (.ref I)) Q E s:=by
 have Ty:=hit.ty
 obtain ⟨o,ho,hc,hd⟩:=hit
 obtain ⟨od,hod,hcd,hdd⟩:=hm
 unfold pyNext
 refine Ya (VL (Xo (name:=Wn "__next__") Ty Zah (Y7 Zah Ty Zat ?body (Zaq _))))
 case body=>
  unfold Wj.«set_iterator.__next__»
  refine Ya (Yc ?_)
  refine Ya (Vn ho hd ?_)
  unfold Yat
  refine Ya (Ya (Y1 hod hdd hf (Yc ?_)))
  rw[if_neg 3e0]
  dsimp only
  refine Ya (V7 hT hTd ?_)
  simp only[XG,YH hp]
  refine Ya (XY ho hd 3e0 ?_)
  have g1:=Xn (XX (·.setIfInBounds 0 (rawInt 0))) ho (X4 (Xi hd _))
  have d1:=Xi hd (·.setIfInBounds 0 (rawInt 0))
  refine Ya (XY (s:={ s with heap:=s.heap.update I (XX (·.setIfInBounds 0 (rawInt 0))) }) g1 d1 (by simp) ?_)
  have calm:A.in1.handled=none:=hh
  have stop:UY (.type "StopIteration") (.type "StopIteration")=pure true:=UQ
  repeat first
   | refine Yan ?_
   | refine Vu calm ?_
   | apply Ya
   | apply Yc
  refine UO (Ye _ rfl) (Yc ?_)
  dsimp only
  rw[stop]
  exact Yc (Yc (q _ ((((Y3 ..).trans (Y3 ..)).extBut.push _).push _)))
theorem ZcI {slot ep':Nat}{Q:Option (Value×Nat)->Shared->Prop}(hb:w.params.followText "set-order"=false)(hm:RawS s.heap a es ep t)(hf:t.fits es.size=true)(hnd:(!t.plain&&decide (es.size > 1))=false)(hl:t.led=true)
  (q:Q (match es[below t.place slot]?,t.place[below t.place slot]? with | some (_,x),some j=>some (x,j + 1) | _,_=>none) s):wpAny (model prog w) A (setNext a slot i ep') Q E s:=by
 obtain ⟨od,hod,hcd,hdd⟩:=hm
 unfold setNext setsByText
 refine Ya (Y1 hod hdd hf ?_)
 dsimp only
 refine Ya (Ya (Wl (Yc ?_)))
 refine Wg (fun hab=>absurd (hab.symm.trans (show _=false from hb)) 1e4) (fun _=>?_)
 refine Wg (fun hab=>absurd (hab.symm.trans (show _=false from hnd)) 1e4) (fun _=>?_)
 refine Ya (Wg (fun hab=>absurd hab (by rw[hl];simp)) (fun _=>Yc ?_))
 exact Yc q
theorem Zcm {slot:Nat}{Q:Option (Value×Nat)->Shared->Prop}(hb:w.params.followText "set-order"=true)(hm:RawS s.heap a es ep t)(hf:t.fits es.size=true)
  (q:Q (((Yao (w.params.setOrder a ep) es)[i]?).map fun e=>(e.2,slot)) s):wpAny 1e9 A (setNext a slot i ep) Q E s:=by
 obtain ⟨od,hod,hcd,hdd⟩:=hm
 unfold setNext setsByText
 refine Ya (Y1 hod hdd hf ?_)
 dsimp only
 refine Ya (Ya (Wl (Yc ?_)))
 refine Wg (fun _=>?_) (fun hab=>absurd hb hab)
 refine Wg (fun hab=>absurd hab 3e0) (fun _=>?_)
 unfold setWalk setsByText
 refine Ya (Ya (Y1 hod hdd hf ?_))
 dsimp only
 refine Ya (Ya (Wl (Yc ?_)))
 refine Wg (fun _=>?_) (fun hab=>absurd hb hab)
 refine Ya (Wl (Yc ?_))
 exact Yc q
end
theorem below_zero {xs:8e5}(hr:Rising xs):below xs 0=0:=by
 obtain ⟨h1,h2,h3⟩:=ZcE hr 0
 rcases Nat.eq_zero_or_pos (below xs 0) with z | z
 ·exact z
 ·have hlt:0 < xs.size:=Yo z h3
  exact absurd (h1 0 _ z (Yj hlt)) (Wd _)
theorem below_next {xs:8e5}(hr:Rising xs){i j:Nat}(e:xs[i]? = some j):below xs (j + 1)=i + 1:=by
 obtain ⟨h1,h2,h3⟩:=ZcE hr (j + 1)
 rcases VZ (below xs (j + 1)) (i + 1) with z | z | z
 ·have:=h2 i j 1e2 e;lia
 ·exact z
 ·have hlt:i + 1 < xs.size:=Yo z h3
  have a:=h1 (i + 1) _ z (Yj hlt)
  have b:=hr i (i + 1) _ _ 1e2 e (Yj hlt)
  lia
section
variable {prog:Yy}{w:World}{A:Around}{E:1e1}{s:Shared}{I a T:Addr}{es:4e7}{ep i:Nat}{t:XC}
abbrev PA (arr:4e7):Nat->Value->Prop:=fun i v=>∃e,arr[i]? = some e/\v=e.2
theorem ZaJ:Slot "set_iterator" "__iter__" "set_iterator.__iter__":=
 .of (owner:="set_iterator") (n:="__iter__") (by rw[typeLookup_type,builtinLookup_eq_fast];kernel_rfl) 6e1 6e1 6e1
  (by first | exact .inl 6e1 | exact .inr 6e1) (by rw[V5];kernel_rfl)
theorem Zbi:entryFor table "set_iterator.__iter__"=some Wj.«dict_keyiterator.__iter__»:=entryFor_alias (id':="dict_keyiterator.__iter__") (by kernel_rfl) rfl 6e1 (by kernel_rfl)
theorem Zbd (a:Value):argsOk "set_iterator.__iter__" ⟨[a],[]⟩:=by
 unfold argsOk;rw[signature?_of (id:="set_iterator.__iter__") (n:=['_','_','r','e','t','i','_','_']) (o:=['r','o','t','a','r','e','t','i','_','t','e','s']) (by kernel_rfl) Za1];kernel_rfl
theorem ZbP {f:Value}{n:Nat}{Q:1e1}(hit:IsSetIter s.heap I f i a n ep)(h:Q (.ref I) s):wpAny 1e9 A (pyIter (.ref I)) Q E s:=by
 refine V1 hit.ty ZaJ (Y7 ZaJ hit.ty Zbi ?_ (Zbd _))
 show wpAny _ _ (ret (.ref I)) _ _ s
 exact Yc ⟨_,rfl,"set_iterator",_,hit.ty,Zah.lookup,h⟩
theorem walk_led (hh:7e8)(hne:a≠I)(hb:w.params.followText "set-order"=false)(TT:TI t es)(hnd:(!t.plain&&decide (es.size > 1))=false)(hl:t.led=true):
  Walks prog w A I [I,a] [I] es.size (PA es) (fun i h=>∃slot,IsSetIter h I (.int (slot:Nat) 0) i a es.size ep/\RawS h a es ep t/\below t.place slot=i) where
 sub:=fun b hb=>by rw[Yk.mp hb];exact YJ
 frame:=fun _ _ _ ⟨slot,h1,h2,h3⟩ hk=>⟨slot,h1.at (hk I 8e0),h2.at (hk a (.tail _ 8e0)),h3⟩
 item:=fun i s Q E hi ⟨slot,h1,h2,h3⟩ hQ=>by
  have hf:=TT.fits (Xv TT.few)
  have ei:es[i]? = some es[i]:=Yj hi
  obtain ⟨j,ej⟩:∃j,t.place[i]? = some j:=⟨_,Yj (by rw[TT.sz];exact hi)⟩
  refine next_slot (x:=es[i].2) (nx:=j + 1) h1 h2 hf (fun A' Q' E' q=>ZcI hb h2 hf hnd hl ?_) fun h' k2 sb=>hQ _ h' s.toks ⟨_,ei,rfl⟩ ⟨_,k2,h2.at fun o e=>sb.extBut a o hne e,below_next TT.rs ej⟩ fun b o hb e=>sb.extBut b o (fun z=>hb (Yk.mpr z)) e
  rw[h3,ei,ej];exact q
 done:=fun s Q E ⟨slot,h1,h2,h3⟩ hQ=>by
  have hf:=TT.fits (Xv TT.few)
  refine end_slot hh h1 h2 hf (fun A' Q' E' q=>ZcI hb h2 hf hnd hl ?_) fun h' x=>hQ h' s.toks fun b o hb e=>x b o (fun z=>hb (Yk.mpr z)) e
  rw[h3,YH (Yi _)];exact q
 self:=fun _ _ _ _ ⟨slot,h1,_⟩ hQ=>ZbP h1 hQ
theorem walk_text (hh:7e8)(hne:a≠I)(hb:w.params.followText "set-order"=true)(TT:TI t es):
  Walks prog w A I [I,a] [I] (Yao (w.params.setOrder a ep) es).size (PA (Yao (w.params.setOrder a ep) es)) (fun i h=>IsSetIter h I (.int (0:Nat) 0) i a es.size ep/\RawS h a es ep t) where
 sub:=fun b hb=>by rw[Yk.mp hb];exact YJ
 frame:=fun _ _ _ ⟨h1,h2⟩ hk=>⟨h1.at (hk I 8e0),h2.at (hk a (.tail _ 8e0))⟩
 item:=fun i s Q E hi ⟨h1,h2⟩ hQ=>by
  have hf:=TT.fits (Xv TT.few)
  have ei:=Yj hi
  refine next_slot (x:=(Yao (w.params.setOrder a ep) es)[i].2) (nx:=0) h1 h2 hf (fun A' Q' E' q=>Zcm hb h2 hf ?_) fun h' k2 sb=>hQ _ h' s.toks ⟨_,ei,rfl⟩ ⟨k2,h2.at fun o e=>sb.extBut a o hne e⟩ fun b o hb e=>sb.extBut b o (fun z=>hb (Yk.mpr z)) e
  rw[ei];exact q
 done:=fun s Q E ⟨h1,h2⟩ hQ=>by
  have hf:=TT.fits (Xv TT.few)
  refine end_slot hh h1 h2 hf (fun A' Q' E' q=>Zcm hb h2 hf ?_) fun h' x=>hQ h' s.toks fun b o hb e=>x b o (fun z=>hb (Yk.mpr z)) e
  rw[YH (Yi _)];exact q
 self:=fun _ _ _ _ ⟨h1,_⟩ hQ=>ZbP h1 hQ
def drawnArr (es:4e7)(ys:6e3):Array (Int×Value):=(ys.map fun i=>es.getD i (0,.none)).toArray
theorem walk_drawn (hh:7e8)(hne:a≠I)(hTI:T≠I)(TT:TI t es){ys:6e3}(hy:∀y∈ys,y < es.size):
  Walks prog w A I [I,a,T] [I] (drawnArr es ys).size (PA (drawnArr es ys)) (fun i h=>IsSetIter h I (.ref T) i a es.size ep/\RawS h a es ep t/\∃o,h.get? T=some o/\∃c,o.data=.seq (ys.map fun (i:Nat)=>rawInt i).toArray c) where
 sub:=fun b hb=>by rw[Yk.mp hb];exact YJ
 frame:=fun _ _ _ ⟨h1,h2,o,h3,h4⟩ hk=>⟨h1.at (hk I 8e0),h2.at (hk a (.tail _ 8e0)),o,hk T (.tail _ (.tail _ 8e0)) _ h3,h4⟩
 item:=fun i s Q E hi ⟨h1,h2,o,h3,c,h4⟩ hQ=>by
  have hf:=TT.fits (Xv TT.few)
  have hi':i < ys.length:=by simpa[drawnArr] using hi
  have hlt:ys[i] < es.size:=hy _ (XQ hi')
  have ei:(drawnArr es ys)[i]? = some es[ys[i]]:=by
   unfold drawnArr
   rw[Wo,Yx,Yd hi']
   simp[hlt]
  refine next_tup (pl:=ys[i]) (e:=es[ys[i]]) h1 h2 hf h3 h4 (by rw[Wo,Yx,Yd hi'];rfl) (Yj hlt) fun h' k2 sb=>hQ _ h' s.toks ⟨_,ei,rfl⟩ ⟨k2,h2.at fun o e=>sb.extBut a o hne e,o,sb.extBut T o hTI h3,c,h4⟩ fun b o hb e=>sb.extBut b o (fun z=>hb (Yk.mpr z)) e
 done:=fun s Q E ⟨h1,h2,o,h3,c,h4⟩ hQ=>by
  have hf:=TT.fits (Xv TT.few)
  exact end_tup hh h1 h2 hf h3 h4 (by simp[drawnArr]) fun h' x=>hQ h' s.toks fun b o hb e=>x b o (fun z=>hb (Yk.mpr z)) e
 self:=fun _ _ _ _ ⟨h1,_⟩ hQ=>ZbP h1 hQ
theorem drawn_perm {ys:6e3}(h:ys.Perm (YW es.size)):(drawnArr es ys).toList.Perm es.toList:=by
 unfold drawnArr
 have q:=h.map fun i=>es.getD i (0,Xu)
 have e:(YW es.size).map (fun i=>es.getD i (0,Xu))=es.toList:=by
  apply XV
  intro i
  rw[Yx]
  by_cases hi:i < es.size
  ·rw[Uu hi];simp[hi]
  ·rw[XF (by simp;lia),XF (by simp;lia)];rfl
 rw[e] at q
 simpa using q
theorem iter_set {Q:1e1}(hm:RawS s.heap a es ep t)(TT:TI t es)(hl:w.params.followText "set-order"=false->t.led=true)
  (q:∀(I:Addr) (h':Heap) (d:Drawn) (arr:4e7) (fp:2e2) (St:Nat->Heap->Prop),s.heap.objs.size<=I->(∀b∈fp,b=a\/s.heap.objs.size<=b)->(∀b o,s.heap.get? b=some o->h'.get? b=some o)->arr.toList.Perm es.toList->
   (∀A':Around,A'.handled=none->Walks prog w A' I fp [I] arr.size (PA arr) St)->St 0 h'->Q (.ref I) { s with heap:=h',drawn:=d }):wpAny (model prog w) A (pyIter (.ref a)) Q E s:=by
 have Ty:=hm.ty
 have hf:=TT.fits (Xv TT.few)
 have hlt:=hm.lt
 obtain ⟨o,ho,hc,hd⟩:=id hm
 refine V1 Ty F.slot_set_iter (Y7 F.slot_set_iter Ty Zdt ?body (F.args_set_iter_1 _))
 case body=>
  unfold Wj.«frozenset.__iter__» Builtin.Frozenset.slot0 slotArgs
  simp only[List.isEmpty_nil,VO,Yv,↓reduceIte,bind_assoc,Wz,bne_self_eq_false]
  refine Ya (Yc ?_)
  unfold Builtin.Frozenset.sizeOf Yat Builtin.Frozenset.addrOf
  refine Ya (Yc ?_)
  refine Ya (Ya (Ya (Y1 ho hd hf (Yc (Yc ?_)))))
  unfold setDrawn setsByText setEpoch
  refine Ya (Ya (Y1 ho hd hf ?_))
  dsimp only
  refine Ya (Ya (Wl (Yc (Yc ?_))))
  refine Wg (fun hab=>?_) (fun hab=>?_)
  ·refine Ya (Zb5 _ _ _ _ Wa fun ys d hp=>?_)
   have hsm:es.size<=1000000:=by have:=TT.few;have:=TT.mm.pos;lia
   have hyl:ys.length=es.size:=by rw[hp.length_eq,Wa]
   refine Ya (wpAny_newTuple ?_ (by rw[Yf,hyl,YN];lia))
   have hoA:(s.heap.push { cls:=.type "tuple",data:=.seq (ys.map fun (i:Nat)=>rawInt i).toArray }).get? a=some o:=Yb _ ho
   refine Ya (Ya (Y1 (s:={ s with drawn:=d,heap:=s.heap.push { cls:=.type "tuple",data:=.seq (ys.map fun (i:Nat)=>rawInt i).toArray } }) hoA hd hf (Yc ?_)))
   refine Ya (Xk (Yc ⟨_,rfl,_,_,⟨_,Ye _ rfl,rfl⟩,Zah.lookup,?_⟩))
   generalize hh1:s.heap.push { cls:=.type "tuple",data:=.seq (ys.map fun (i:Nat)=>rawInt i).toArray }=h1
   have hz:h1.objs.size=s.heap.objs.size + 1:=by rw[←hh1,Vk]
   have hoA1:h1.get? a=some o:=by rw[←hh1];exact hoA
   have hT1:h1.get? s.heap.objs.size=some { cls:=.type "tuple",data:=.seq (ys.map fun (i:Nat)=>rawInt i).toArray }:=by rw[←hh1];exact Ye _ rfl
   refine q h1.objs.size _ d (drawnArr es ys) [h1.objs.size,a,s.heap.objs.size] _ 1e2 (fun b hb=>?_) (fun b u e=>Yb _ (by rw[←hh1];exact Yb _ e)) (drawn_perm hp) (fun A' hh=>walk_drawn (t:=t) (ep:=ep) hh (Yt (Yo hlt (by rw[hz];exact Yaw _))) (by rw[hz];exact Yt (WQ _)) TT fun y hy=>by have:=hp.mem_iff.mp hy;simpa using this) ⟨⟨_,Ye _ rfl,rfl,by simp[rawInt]⟩,⟨o,Yb _ hoA1,hc,hd⟩,_,Yb _ hT1,0,rfl⟩
   simp only[Yl,Xp,or_false] at hb
   rcases hb with rfl | rfl | rfl
   ·exact .inr 1e2
   ·exact .inl rfl
   ·exact .inr (Yi _)
  ·refine Ya (Yc ?_)
   refine Ya (Ya (Y1 ho hd hf (Yc ?_)))
   refine Ya (Xk (Yc ⟨_,rfl,_,_,⟨_,Ye _ rfl,rfl⟩,Zah.lookup,?_⟩))
   have hfp:∀b∈[s.heap.objs.size,a],b=a\/s.heap.objs.size<=b:=fun b hb=>by
    simp only[Yl,Xp,or_false] at hb
    rcases hb with rfl | rfl
    ·exact .inr (Yi _)
    ·exact .inl rfl
   cases hb:w.params.followText "set-order" with
   | true=>
    exact q s.heap.objs.size _ s.drawn _ [s.heap.objs.size,a] _ (Yi _) hfp (fun b u e=>Yb _ e) (pick_perm es) (fun A' hh=>walk_text (t:=t) (ep:=ep) hh (Yt hlt) hb TT) ⟨⟨_,Ye _ rfl,rfl,by simp[rawInt]⟩,⟨o,Yb _ ho,hc,hd⟩⟩
   | false=>
    have hnd:(!t.plain&&decide (es.size > 1))=false:=by
     have h2:¬((!w.params.followText "set-order")&&(!t.plain&&decide (es.size > 1)))=true:=hab
     rw[hb] at h2
     simpa using h2
    exact q s.heap.objs.size _ s.drawn es [s.heap.objs.size,a] _ (Yi _) hfp (fun b u e=>Yb _ e) (.refl _) (fun A' hh=>walk_led (t:=t) (ep:=ep) hh (Yt hlt) hb TT hnd (hl hb)) ⟨0,⟨_,Ye _ rfl,rfl,by simp[rawInt]⟩,⟨o,Yb _ ho,hc,hd⟩,below_zero TT.rs⟩
theorem hint_set {r:Addr}{Q:4e4}(hT:s.TypeIs (.ref r) "set")(h:Q false s):wpAny 1e9 A (Uz (.ref r)) Q E s:=by
 have own:UY (.type "set") (.type "set")=pure true:=by rw[V5];kernel_rfl
 have parts:∀id,id="set.__len__"->splitId id=some ("set","__len__"):=fun id e=>by rw[e];decide +kernel
 delta Uz
 apply Ya
 refine VQ hT PySem.F.slot_set_len.lookup ?_
 generalize en:("set.__len__":String)=nm
 dsimp only
 rw[parts nm en.symm]
 subst en
 apply Ya
 refine wpAny_isInstance hT own ?_
 simp only[VO,Yv,if_false]
 rw[if_pos 6e1]
 apply Ya
 exact Vz hT (Yc h)
theorem items_perm {arr:4e7}{acc:Array Value}(h:Ybe (PA arr) acc arr.size)(p:arr.toList.Perm es.toList):acc.toList.Perm (es.toList.map (·.2)):=by
 have e:acc.toList=arr.toList.map (·.2):=by
  apply XV
  intro i
  rw[Yx,Y8,Y8]
  by_cases hi:i < arr.size
  ·have hi2:i < acc.size:=by rw[h.1];exact hi
   obtain ⟨x,e1,e2⟩:=h.2 i _ (Yj hi2)
   rw[Yj hi2,e1,e2];rfl
  ·have hz:=h.1
   rw[YH (show acc.size<=i by lia),YH (show arr.size<=i by lia)];rfl
 rw[e];exact p.map _
theorem touch {S:Addr}{c:Nat}{Q:Unit->Shared->Prop}(at_S:s.heap.get? S=some { cls:=.type "list",data:=.seq #[] c })
  (q:∀h' c',h'.get? S=some { cls:=.type "list",data:=.seq #[] c' }->(∀b o,b≠S->s.heap.get? b=some o->h'.get? b=some o)->Q () { s with heap:=h' }):wpAny (model prog w) A (Builtin.List.listTouch (.ref S)) Q E s:=by
 have up:=fun (h:Heap) (o:Obj) (f:Array Value->Array Value) (b:Addr) (n:b≠S) (e:h.get? b=some o)=>(XU h b S (XN f) n).trans e
 have one:=WC (c:="list") at_S (·.push Xu)
 have two:=WC (c:="list") one (·.pop)
 apply Ya
 refine Yap at_S rfl ?_
 refine Yap (hz:=by seq_fits) one rfl ?_
 exact q _ _ two fun b o n e=>up _ o _ b n (up _ o _ b n e)
theorem loop_all {I S:Addr}{n c:Nat}{P:Nat->Value->Prop}{fp:2e2}{St:Nat->Heap->Prop}{R:9e2}{res:Value}(W:Walks prog w A.in1 I fp [I] n P St)(few:n<=Yr)(off:S∉fp)(st:St 0 s.heap)
  (at_S:s.heap.get? S=some { cls:=.type "list",data:=.seq #[] c })
  (q:∀h' tk acc c',(∀b o,b≠S->b≠I->s.heap.get? b=some o->h'.get? b=some o)->h'.get? S=some { cls:=.type "list",dict:=none,data:=.seq acc c',slots:=#[] }->Ybe P acc n->R (.ok (.ret res)) { s with heap:=h',toks:=tk }):
  XT 1e9 A (.builtin "list.extend.loop" ⟨[.ref S,.ref I,res],[]⟩) R s:=by
 refine codeAny_extend_loopS W.toS few S off res n 0 s #[] c rfl (Y4 _) st at_S (ItemsOf.nil _) ?_
 intro z acc c' mv az items
 have e:=Moved.eq_with mv
 rw[e]
 exact q _ _ acc c' (fun b o n1 n2 x=>mv.heap b o (by simp[n1,n2]) x) az items
theorem extend_set {R:9e2}(hh:7e8)(hm:RawS s.heap a es ep t)(TT:TI t es)(hl:w.params.followText "set-order"=false->t.led=true)(S:Addr)(hSa:S≠a)(res:Value)(c₀:Nat)(hS:s.heap.get? S=some { cls:=.type "list",data:=.seq #[] c₀ })
  (hR:∀h' d tk acc' c',(∀b o,b≠S->s.heap.get? b=some o->h'.get? b=some o)->h'.get? S=some { cls:=.type "list",dict:=none,data:=.seq acc' c',slots:=#[] }->acc'.toList.Perm (es.toList.map (·.2))->R (.ok (.ret res)) { s with heap:=h',drawn:=d,toks:=tk }):
  wpAny 1e9 A.in1 (We (.ref S) (.ref a) res)
   (fun fin s'=>match fin with | .done f=>R (.ok f) s' | .again c'=>c'.quiet=true/\XT (model prog w) A c' R s') (fun e s'=>R (.error e) s') s:=by
 have small:es.size<=1000000:=by have:=TT.few;have:=TT.mm.pos;lia
 have other:VB (.ref S) (.ref a)=false:=by simpa[VB] using hSa
 have kinds:(X5 "set"==X5 "list")=false/\(X5 "set"==X5 "tuple")=false:=by decide
 have S_lt:=Yq hS
 delta We
 apply Ya
 refine Vz (T:="set") hm.ty ?_
 rw[other,kinds.1,kinds.2]
 apply Ya
 refine iter_set hm TT hl fun I h2 d arr fp St hI hfp k2 pm W st=>?_
 have off:S∉fp:=fun z=>(hfp S z).elim hSa fun y=>X8 _ (Yo S_lt y)
 have few:arr.size<=sizeLine:=by
  have l:=pm.length_eq
  rw[YK,YK] at l
  rw[YN];lia
 have rest:∀h c1,St 0 h->h.get? S=some { cls:=.type "list",data:=.seq #[] c1 }->(∀b o,b≠S->s.heap.get? b=some o->h.get? b=some o)->
   XT 1e9 A (.builtin "list.extend.loop" ⟨[.ref S,.ref I,res],[]⟩) R { s with heap:=h,drawn:=d }:=fun h c1 st1 at_S kept=>
  loop_all (s:={ s with heap:=h,drawn:=d }) (W A.in1 hh) few off st1 at_S fun h' tk acc c' k a its=>hR h' d tk acc c' (fun b o n e=>k b o n (Yt (Yo (Yq e) hI)) (kept b o n e)) a (items_perm its pm)
 have quiet:=plainId_quiet PySem.F.plain_extend_loop ⟨[.ref S,.ref I,res],[]⟩
 apply Ya
 apply Xa
 refine hint_set (s:={ s with heap:=h2,drawn:=d }) (RawS.ty (s:={ s with heap:=h2,drawn:=d }) (hm.at fun o e=>k2 _ _ e)) ?_
 refine Wg (fun _=>?_) fun _=>Yc ⟨quiet,rest h2 c₀ st (k2 _ _ hS) fun b o _ e=>k2 b o e⟩
 apply Ya
 apply U0
 apply Ya
 refine touch (s:={ s with heap:=h2,drawn:=d }) (k2 _ _ hS) fun h3 c3 a3 k3=>Yc ⟨quiet,rest h3 c3 ?_ a3 fun b o n e=>k3 b o n (k2 b o e)⟩
 exact (W A.in1 hh).frame 0 _ _ st fun b hb o e=>k3 b o (fun z=>off (z ▸ hb)) e
theorem ext_set {R:9e2}(hh:7e8)(hm:RawS s.heap a es ep t)(TT:TI t es)(hl:w.params.followText "set-order"=false->t.led=true)(S:Addr)(hSa:S≠a)(c₀:Nat)(hS:s.heap.get? S=some { cls:=.type "list",data:=.seq #[] c₀ })
  (hR:∀h' d tk acc' c',(∀b o,b≠S->s.heap.get? b=some o->h'.get? b=some o)->h'.get? S=some { cls:=.type "list",dict:=none,data:=.seq acc' c',slots:=#[] }->acc'.toList.Perm (es.toList.map (·.2))->R (.ok (.ret (.ref S))) { s with heap:=h',drawn:=d,toks:=tk }):
  XT 1e9 A (.builtin "list.__iadd__" ⟨[.ref S,.ref a],[]⟩) R s:=by
 refine XJ Yab ?_
 rw[Wt (show plainId "list.__iadd__"=true by decide +kernel) _]
 exact extend_set hh hm TT hl S hSa (.ref S) c₀ hS hR
theorem collect_set {Q:List Value->Shared->Prop}(hh:7e8)(hm:RawS s.heap a es ep t)(TT:TI t es)(hl:w.params.followText "set-order"=false->t.led=true)
  (h:∀h' d tk vs,(∀b o,s.heap.get? b=some o->h'.get? b=some o)->s.heap.objs.size<=h'.objs.size->vs.Perm (es.toList.map (·.2))->Q vs { s with heap:=h',drawn:=d,toks:=tk }):wpAny (model prog w) A (Yal (.ref a)) Q E s:=by
 unfold Yal
 refine Ya (V6 (XJ Uh ?_))
 refine Ya (WN (Yc ⟨VM _ 6e1,?_⟩))
 have hS:(s.heap.push (seqObj "list" #[] 0)).get? s.heap.objs.size=some { cls:=.type "list",data:=.seq #[] 0 }:=Ye _ rfl
 refine ext_set (s:={ s with heap:=s.heap.push (seqObj "list" #[] 0) }) hh (hm.at fun o e=>Yb _ e) TT hl s.heap.objs.size (X1 hm.lt) 0 hS fun h' d tk acc c k e ai=>?_
 refine Ya (wpAny_load e ?_)
 exact Yc (h h' d tk acc.toList (fun b o z=>k b o (Yt (Yq z)) (Yb _ z)) (Xv (Yq e)) ai)
end
end Se
namespace L2
open PySem PySem.Spec PyProof.Rows Se
section
variable {prog:Yy}{w:World}{A:Around}{R:9e2}{s:Shared}{elt t0 i0 t1 i1:Expr}{ifs:3e2}{scope:Scope}{pos:Pos}
abbrev noted (prog:Yy)(w:World)(A:Around)(env:Env)(R:9e2):Value->Shared->Prop:=Out prog w A env R
end
abbrev BS:=List (List Key×Addr)
section
variable {X:Cx}{elt t0 i0 t1 i1:Expr}{ifs:3e2}{scope:Scope}{pos:Pos}{vs fs:4e0}{fr:6e3}{g0 g1:TG}{wi1:TI}{tt:TT}{te:TE}
abbrev ledOf (X:Cx):Bool:=!X.w.params.followText "set-order"
end
end L2
namespace Pu
open PySem PySem.Spec PySem.W PySem.Calls L2 Se
open PyProof.Rows hiding St Fr
theorem boot_set_:Xz "set"=some (.type "set"):=by decide +kernel
end Pu
namespace Pu
open PySem PySem.Spec PySem.W PySem.Calls L2
open PyProof.Rows hiding St Fr
section
variable {X:Cx}{a b e:Expr}{fa fb:2e4}{pos p:Pos}{es:3e2}{fs:2e1}
theorem Reps.rev {K:W.Frag}{ι:2e2}{H:Hp}:∀{ps:List PV} {vs:List V},Reps K ι H ps vs->Reps K ι H ps.reverse vs.reverse
 | [],vs,r=>by rw[r.inv0];exact .nil
 | p::ps,vs,r=>by
  obtain ⟨v,w,rfl,h1,h2⟩:=r.inv
  rw[V2,V2]
  exact (Reps.rev h2).append (.cons h1 .nil)
end
end Pu
namespace Pu
open PySem PySem.Spec PySem.W PySem.Calls L2 PySem.SeqAt
open PyProof.Rows hiding St Fr
theorem ZaK:∀(qs:5e6),keysP (qs.map kP)=some qs
 | []=>rfl
 | q::qs=>by rw[Ym];unfold keysP;rw[keyP_kP,ZaK qs]
mutual
def flat:PV->Bool
 | .lst _=>false
 | .dct _ _=>false
 | .dtt _ _=>false
 | .tup xs=>flats xs
 | _=>true
def flats:List PV->Bool
 | []=>true
 | p::r=>flat p&&flats r
end
def flatC:PV->Bool
 | .lst ps=>flats ps
 | .dct _ ps=>flats ps
 | .dtt _ ps=>flats ps
 | _=>false
section
variable {K:W.Frag}{ι ι':2e2}{H H':Hp}{C:Cs}
mutual
theorem Rep.flat:∀(p:PV) (v:V),Pu.flat p=true->Rep K ι H p v->Rep K ι' H p v
 | .non,v,_,h=>by unfold Rep at h ⊢;exact h
 | .bl b,v,_,h=>by unfold Rep at h ⊢;exact h
 | .int i,v,_,h=>by unfold Rep at h ⊢;exact h
 | .str x,v,_,h=>by unfold Rep at h ⊢;exact h
 | .tup ps,v,f,h=>by
  unfold Rep at h ⊢
  obtain ⟨a,vs,e,sq,r⟩:=h
  exact ⟨a,vs,e,sq,Reps.flat ps vs (by unfold Pu.flat at f;exact f) r⟩
 | .lst ps,v,f,h=>by unfold Pu.flat at f;cases f
 | .dct ks ps,v,f,h=>by unfold Pu.flat at f;cases f
 | .dtt ks ps,v,f,h=>by unfold Pu.flat at f;cases f
 | .fn a,v,_,h=>by unfold Rep at h ⊢;exact h
 | .ty n,v,_,h=>by unfold Rep at h ⊢;exact h
theorem Reps.flat:∀(ps:List PV) (vs:List V),Pu.flats ps=true->Reps K ι H ps vs->Reps K ι' H ps vs
 | [],vs,_,h=>by unfold Reps at h ⊢;exact h
 | p::ps,vs,f,h=>by
  unfold Reps at h ⊢
  obtain ⟨v,r,e,h1,h2⟩:=h
  unfold Pu.flats at f
  rw[Yp] at f
  exact ⟨v,r,e,Rep.flat p v f.1 h1,Reps.flat ps r f.2 h2⟩
end
theorem CellOk.flat {a:Addr}{c:PV}(f:flatC c=true)(h:CellOk K ι H a c):CellOk K ι' H a c:=by
 cases c with
 | lst ps=>obtain ⟨vs,e,r⟩:=h;exact ⟨vs,e,Reps.flat _ _ f r⟩
 | dct ks ps=>obtain ⟨qs,vs,e,hl,hk,r⟩:=h;exact ⟨qs,vs,e,hl,hk,Reps.flat _ _ f r⟩
 | dtt ks ps=>obtain ⟨vs,e,hl,r⟩:=h;exact ⟨vs,e,hl,Reps.flat _ _ f r⟩
 | _=>exact h.elim
theorem CellOk.cells {a:Addr}{c:PV}(hs:∀b o,H b=some o->b∉ι->b∉ι')(h:CellOk K ι H a c):CellOk K ι' H a c:=by
 cases c with
 | lst ps=>obtain ⟨vs,e,r⟩:=h;exact ⟨vs,e,Reps.cells hs _ _ r⟩
 | dct ks ps=>obtain ⟨qs,vs,e,hl,hk,r⟩:=h;exact ⟨qs,vs,e,hl,hk,Reps.cells hs _ _ r⟩
 | dtt ks ps=>obtain ⟨vs,e,hl,r⟩:=h;exact ⟨vs,e,hl,Reps.cells hs _ _ r⟩
 | _=>exact h.elim
theorem CellOk.rep {a:Addr}{c:PV}(hna:a∉ι')(hs:∀b o,H b=some o->b∉ι->b∉ι')(h:CellOk K ι H a c):Rep K ι' H c (.ref a):=by
 cases c with
 | lst ps=>obtain ⟨vs,e,r⟩:=h;unfold Rep;exact ⟨a,vs,rfl,.inl ⟨hna,.inl e⟩,Reps.cells hs _ _ r⟩
 | dct ks ps=>obtain ⟨qs,vs,e,hl,hk,r⟩:=h;unfold Rep;exact ⟨a,qs,vs,rfl,hna,e,hl,hk,Reps.cells hs _ _ r⟩
 | dtt ks ps=>obtain ⟨vs,e,hl,r⟩:=h;unfold Rep;exact ⟨a,vs,rfl,hna,.inl e,hl,Reps.cells hs _ _ r⟩
 | _=>exact h.elim
end
def pickK (xs:List SV):List Nat->Option (List Nat)
 | []=>some []
 | i::r=>match xs[i]?,pickK xs r with
  | some (.c k),some ks=>if k∈ks then none else some (k::ks)
  | _,_=>none
def smallX (C:Cs)(ks:6e3):List SV->Option (List SV)
 | []=>some []
 | .v p::r=>(smallX C ks r).map (.v p::·)
 | .c k::r=>match ks.idxOf? k with
  | some j=>(smallX C ks r).map (.c j::·)
  | none=>match C[k]? with
   | some c=>(smallX C ks r).map (.v c::·)
   | none=>none
def smallC (C:Cs):List Nat->Option Cs
 | []=>some []
 | k::r=>match C[k]?,smallC C r with
  | some c,some cs=>some (c::cs)
  | _,_=>none
def backC (C:Cs):List Nat->Cs->Cs
 | k::ks,c::cs=>backC (C.set k c) ks cs
 | _,_=>C
section
variable {K:W.Frag}{ι:2e2}{H H':Hp}{C D:Cs}
theorem Zdv:∀{ks:6e3} {D:Cs},smallC C ks=some D->D.length=ks.length/\∀(j k:Nat),ks[j]? = some k->∃c,D[j]? = some c/\C[k]? = some c
 | [],D,h=>by cases h;exact ⟨rfl,fun j k e=>by simp at e⟩
 | k::ks,D,h=>by
  unfold smallC at h
  split at h
  ·rename_i c cs h1 h2
   cases h
   obtain ⟨a,b⟩:=Zdv h2
   refine ⟨by simp[a],fun j k' e=>?_⟩
   cases j with
   | zero=>simp at e;subst e;exact ⟨c,rfl,h1⟩
   | succ j=>exact b j k' (by simpa using e)
  ·cases h
theorem backC_len:∀{ks:6e3} {C D:Cs},(backC C ks D).length=C.length
 | [],C,D=>by unfold backC;rfl
 | k::ks,C,[]=>by unfold backC;rfl
 | k::ks,C,c::D=>by unfold backC;rw[backC_len,XB]
theorem backC_get:∀{ks:6e3} {C D:Cs},ks.Nodup->D.length=ks.length->(∀k∈ks,k < C.length)->(∀(j k:Nat),ks[j]? = some k->(backC C ks D)[k]? = D[j]?)/\∀(k:Nat),k∉ks->(backC C ks D)[k]? = C[k]?
 | [],C,D,_,_,_=>⟨fun j k e=>by simp at e,fun k _=>by unfold backC;rfl⟩
 | k::ks,C,[],_,h,_=>by simp at h
 | k::ks,C,c::D,nd,h,hl=>by
  rw[Xc] at nd
  have ih:=backC_get (ks:=ks) (C:=C.set k c) (D:=D) nd.2 7e3 (fun q hq=>by rw[XB];exact hl q (Yz _ hq))
  unfold backC
  refine ⟨fun j q e=>?_,fun q hq=>?_⟩
  ·cases j with
   | zero=>
    simp at e;subst e
    rw[ih.2 k nd.1,Xf (hl k YJ)];rfl
   | succ j=>rw[ih.1 j q (by simpa using e)];rfl
  ·rw[Yl,not_or] at hq
   rw[ih.2 q hq.2,YA (XH hq.1)]
theorem pickK_ok {xs:List SV}{vs:List V}(rs:RepSs K ι H xs vs):∀{ix ks:6e3},pickK xs ix=some ks->ks.Nodup/\∀k∈ks,k < ι.length
 | [],ks,h=>by cases h;exact ⟨.nil,fun k hk=>by cases hk⟩
 | i::ix,ks,h=>by
  unfold pickK at h
  split at h
  ·rename_i k ks' h1 h2
   split at h
   ·cases h
   ·rename_i hn
    cases h
    obtain ⟨a,b⟩:=pickK_ok rs h2
    refine ⟨Xc.mpr ⟨hn,a⟩,fun q hq=>?_⟩
    rcases Yl.mp hq with rfl | hq
    ·obtain ⟨v,_,a,_,e⟩:=RepSs.get rs h1
     rcases YS q ι.length with z | z
     ·exact z
     ·rw[YF.mpr z] at e;cases e
    ·exact b q hq
  ·cases h
def addrs (ι:2e2)(ks:6e3):List Addr:=ks.map fun k=>ι.getD k 0
theorem Zdr {ks:6e3}(hl:∀k∈ks,k < ι.length){j k:Nat}(e:ks[j]? = some k):(addrs ι ks)[j]? = ι[k]?:=by
 unfold addrs
 rw[Yx,e]
 have:=hl k (YB e)
 simp[Yd this]
theorem ZaW {ks:6e3}(hl:∀k∈ks,k < ι.length){b:Addr}(h:b∈addrs ι ks):∃k∈ks,ι[k]? = some b:=by
 unfold addrs at h
 obtain ⟨k,hk,e⟩:=Yw.mp h
 refine ⟨k,hk,?_⟩
 have:=hl k hk
 simp[Yd this] at e ⊢
 exact e
theorem get_inj (nd:ι.Nodup){j k:Nat}{a:Addr}(h1:ι[j]? = some a)(h2:ι[k]? = some a):j=k:=by
 obtain ⟨l1,e1⟩:=Y2.mp h1
 obtain ⟨l2,e2⟩:=Y2.mp h2
 exact (Vp nd).mp (e1.trans e2.symm)
theorem Zdq (nd:ι.Nodup):∀{ks:6e3},ks.Nodup->(∀k∈ks,k < ι.length)->(addrs ι ks).Nodup
 | [],_,_=>.nil
 | k::ks,h,hl=>by
  rw[Xc] at h
  show (ι.getD k 0::addrs ι ks).Nodup
  refine Xc.mpr ⟨fun z=>?_,Zdq nd h.2 fun q hq=>hl q (Yz _ hq)⟩
  obtain ⟨q,hq,e⟩:=ZaW (fun q hq=>hl q (Yz _ hq)) z
  have hk:=hl k YJ
  have e2:ι[k]? = some (ι.getD k 0):=by simp[Yd hk]
  exact h.1 ((get_inj nd e2 e) ▸ hq)
theorem small_cr (cr:7e2){ks:6e3}(nd:ks.Nodup)(hl:∀k∈ks,k < ι.length)(e:smallC C ks=some D):CR K (addrs ι ks) H D:=by
 obtain ⟨l,g⟩:=Zdv e
 have hs:∀b o,H b=some o->b∉ι->b∉addrs ι ks:=fun b o _ n z=>by
  obtain ⟨k,_,q⟩:=ZaW hl z
  exact n (YB q)
 refine ⟨by unfold addrs;rw[Yf,l],Zdq cr.nd nd hl,fun j a c h1 h2=>?_⟩
 have hj:j < ks.length:=by
  rcases YS j ks.length with z | z
  ·exact z
  ·rw[YF.mpr 1e2] at h2;cases h2
 have ek:=Yd hj
 rw[Zdr hl ek] at h1
 obtain ⟨c',g1,g2⟩:=g j _ ek
 rw[h2] at g1;cases g1
 exact (cr.ok _ a c h1 g2).cells hs
theorem Zbv (cr:7e2){ks:6e3}(hl:∀k∈ks,k < ι.length):∀{xs ys:List SV} {vs:List V},RepSs K ι H xs vs->smallX C ks xs=some ys->RepSs K (addrs ι ks) H ys vs
 | [],ys,vs,r,e=>by cases e;exact r
 | .v p::xs,ys,vs,r,e=>by
  obtain ⟨v,w,rfl,h1,h2⟩:=r
  unfold smallX at e
  cases hq:smallX C ks xs with
  | none=>rw[hq] at e;cases e
  | some z=>
   rw[hq] at e;cases e
   exact ⟨v,w,rfl,Rep.cells (fun b o _ n z=>by obtain ⟨k,_,q⟩:=ZaW hl z;exact n (YB q)) p v h1,Zbv cr hl h2 hq⟩
 | .c k::xs,ys,vs,r,e=>by
  obtain ⟨v,w,rfl,⟨a,rfl,ha⟩,h2⟩:=r
  unfold smallX at e
  cases hi:ks.idxOf? k with
  | some j=>
   rw[hi] at e
   cases hq:smallX C ks xs with
   | none=>rw[hq] at e;cases e
   | some z=>
    rw[hq] at e;cases e
    refine ⟨.ref a,w,rfl,⟨a,rfl,?_⟩,Zbv cr hl h2 hq⟩
    have ej:ks[j]? = some k:=by
     rw[List.idxOf?_eq_some_iff] at hi
     obtain ⟨h,e,_⟩:=hi
     rw[Yd h,e]
    rw[Zdr hl ej];exact ha
  | none=>
   rw[hi] at e
   have hk:k∉ks:=List.idxOf?_eq_none_iff.mp hi
   cases hc:C[k]? with
   | none=>rw[hc] at e;cases e
   | some c=>
    rw[hc] at e
    cases hq:smallX C ks xs with
    | none=>rw[hq] at e;cases e
    | some z=>
     rw[hq] at e;cases e
     refine ⟨.ref a,w,rfl,(cr.ok k a c ha hc).rep (fun z=>?_) (fun b o _ n z=>by obtain ⟨k,_,q⟩:=ZaW hl z;exact n (YB q)),Zbv cr hl h2 hq⟩
     obtain ⟨k',hk',q⟩:=ZaW hl z
     exact hk ((get_inj cr.nd ha q) ▸ hk')
theorem small_fr {ks:6e3}(hl:∀k∈ks,k < ι.length)(f:Fr (addrs ι ks) H H'):Fr ι H H':=fun b o n e=>f b o (fun z=>by obtain ⟨k,_,q⟩:=ZaW hl z;exact n (YB q)) e
theorem small_back (cr:7e2){ks:6e3}(nd:ks.Nodup)(hl:∀k∈ks,k < ι.length)(f:Fr (addrs ι ks) H H')(c2:CR K (addrs ι ks) H' D)(fl:D.all flatC=true):CR K ι H' (backC C ks D):=by
 have hlD:D.length=ks.length:=by rw[←c2.len];unfold addrs;rw[Yf]
 obtain ⟨g1,g2⟩:=backC_get (C:=C) (D:=D) nd hlD fun k hk=>by rw[←cr.len];exact hl k hk
 refine ⟨by rw[backC_len];exact cr.len,cr.nd,fun k a c h1 h2=>?_⟩
 by_cases hk:k∈ks
 ·obtain ⟨j,hj,e⟩:=WL hk
  have ej:ks[j]? = some k:=by rw[Yd hj,e]
  rw[g1 j k ej] at h2
  have:=c2.ok j a c (by rw[Zdr hl ej];exact h1) h2
  exact this.flat (YR.mp fl c (YB h2))
 ·rw[g2 k hk] at h2
  refine (cr.ok k a c h1 h2).mono cr (small_fr hl f) fun o e=>f a o (fun z=>?_) e
  obtain ⟨k',hk',q⟩:=ZaW hl z
  exact hk ((get_inj cr.nd h1 q) ▸ hk')
end
theorem keyIs_rel {k:Key}{u:Value}(h:keyIs k u=true):RelV (kV k) u:=by
 rcases Zau h with ⟨i,t,rfl,rfl⟩ | ⟨x,t,rfl,rfl⟩
 ·exact ⟨t,rfl⟩
 ·exact ⟨t,rfl⟩
theorem pairs_vals {P:Yy}{w:World}{es:List VG}{vs:List (Key×Value)}(h:Pairs (mixKind P w) es vs):Vals (vs.map fun q=>kV q.1) (es.map (·.key)):=by
 induction h with
 | nil=>exact .nil
 | cons h1 h2 h3 ih=>exact .cons (keyIs_rel h1) ih
theorem items_keys {es:Array VG}{acc:Array Value}(h:Ybe (fun i v=>∃e,es[i]? = some e/\v=e.key) acc es.size):acc.toList=es.toList.map (·.key):=by
 apply XV
 intro i
 rw[Y8,Yx,Y8]
 by_cases hi:i < acc.size
 ·obtain ⟨e,e1,e2⟩:=h.2 i _ (Yj hi)
  rw[Yj hi,e2,e1];rfl
 ·have:=h.1
  rw[YH 1e2,YH 1e2];rfl
section
variable {X:Cx}
def rSortedK (K:W.Frag):List V->Hp->VK->Prop:=fun xs H Q=>∃p kvs,xs=[.ref p]/\H p=some (.dK kvs)/\(kvs.map (·.1)).all keyOk=true/\(sortP (kvs.map fun q=>kP q.1)).isSome=true/\
 ∀l,H l=none->Q (.ref l) (upd H l (.lst (sortV (kvs.map fun q=>kP q.1) (kvs.map fun q=>kV q.1))))
theorem call_sortedK (hcm:5e2)(hu:5e9):CallR X (.builtin "sorted") (rSortedK X.K):=by
 intro pins s σ H xs us Q I r h
 obtain ⟨p,kvs,rfl,hq,hko,hs,q⟩:=h
 obtain ⟨u,rfl,rx⟩:=vals1 r
 cases rx
 obtain ⟨hz,lo,vs,kv,o,es,ep,ho,hex,hda,hke,hpa,hnd⟩:=dk_of I.hok hq
 have hkv:(kvs.map fun q=>kV q.1)=vs.map fun q=>kV q.1:=by
  have:=kv.keys
  have e1:(kvs.map fun q=>kV q.1)=(kvs.map (·.1)).map kV:=by rw[Y9];rfl
  have e2:(vs.map fun q=>kV q.1)=(vs.map (·.1)).map kV:=by rw[Y9];rfl
  rw[e1,e2,this]
 have hv:=pairs_vals hpa
 rw[←hkv] at hv
 have hl:es.size=kvs.length:=by
  have:=hv.length
  simpa using this.symm
 generalize hps:(kvs.map fun q=>kP q.1)=ps at hs q
 have hpl:ps.length=kvs.length:=by rw[←hps,Yf]
 have rs:∀ι,Reps X.K ι H ps (kvs.map fun q=>kV q.1):=fun ι=>by
  rw[←hps,show (kvs.map fun q=>kP q.1)=(kvs.map (·.1)).map kP by rw[Y9];rfl,show (kvs.map fun q=>kV q.1)=(kvs.map (·.1)).map kV by rw[Y9];rfl]
  exact reps_kP hko
 unfold sortP at hs
 split at hs
 ·rename_i hh
  simp only[Yp,decide_eq_true_eq] at hh
  obtain ⟨⟨⟨⟨hd,hde⟩,h64⟩,hso⟩,hcm'⟩:=hh
  have hr:=Reps.heap I ps (rs []) hv hd
  have hvl:(es.toList.map (·.key)).length=ps.length:=by rw[Yf,YK];lia
  refine Zcb (vs:=es.toList.map (·.key)) (κ:=kindP ps) (o:=oP ps) (fun Q' q'=>?_) 1e2 (fun h2 h' tk k Q' q'=>?_) (fun h2 h' tk k i j C hi hj hC=>?_) (fun D h' tk c hD k e=>?_)
  ·refine Zdm (raw_src (es:=es) (ep:=ep) lo) (I.ok.hd hcm) ⟨o,ho,hex,hda⟩ (by rw[YN];lia) fun h' tk acc k hle ai=>?_
   rw[items_keys ai]
   exact q' h' tk k hle
  ·exact Zc7 (s:={ s with heap:=h',toks:=tk }) (hr.keep k) h2 hso q'
  ·exact ask_of (s:={ s with heap:=h',toks:=tk }) (hr.keep k) hso hcm' (by rw[YV,YV];lia) hi hj hC
  ·rw[ZbY hvl.symm] at e
   refine ⟨.ref D,_,I.laid (t':=tk) k hD (show ObjOk X.prog X.w _ h' _ (.lst (sortV ps (kvs.map fun q=>kV q.1))) from ⟨?_,sortU ps (es.toList.map (·.key)),c,?_,e⟩),rfl,q _ (I.hok.fresh hD)⟩
   ·unfold sortV
    rw[Yf]
    have:(perm ps).length<=64:=by
     unfold perm
     split
     ·rw[Wa];lia
     ·rw[YK,(Zco (o:=oP ps) (XA ps.length) (Zbk 1e2)).2.1];lia
    exact YQ this (by rw[YN];decide)
   ·exact Zbq hv fun i hi=>by have:=Za6 i hi;simp only[Yf,YK] at hvl ⊢;lia
 ·cases hs
def sortedH3 (C:Cs):List SV->Option 2e9
 | [x]=>match deref C x with
  | some (.dct ks _)=>match keysP ks with
   | some qs=>if qs.all keyOk then sortP ks else none
   | none=>none
  | _=>sortedH2 C [x]
 | _=>none
def mSorted3 (fs:2e1):PSt->M 2e9:=fun ρ=>bnd (fs ρ) fun xs=>opM fun C=>sortedH3 C xs
theorem PE.or {e:Expr}{t t':TE}(h:PE X e t)(k:PE X e t'):PE X e fun σ H Q=>t σ H Q\/t' σ H Q:=fun pins s σ H Q I q=>by
 rcases q with q | q
 ·exact h pins s σ H Q I q
 ·exact k pins s σ H Q I q
end
end Pu
namespace Pu
open PySem PySem.Spec L2
open PyProof.Rows hiding St Fr
def Je (K:W.Frag)(a:Addr):It:=⟨fun i H=>∃xs v,SqL K H a xs/\xs[i]? = some v,fun i H x H'=>∃b v,H b=none/\x=.ref b/\H'=upd H b (.tup [.int i,v])/\∀xs,SqL K H a xs->xs[i]? = some v,
 fun i H=>∃xs,SqL K H a xs/\xs.length<=i⟩
theorem turn_enum {P:Yy}{w:World}{K:W.Frag}{elts:3e2}{x1:Nat}{pos:Pos}{a e it:Addr}(hne:e≠it):Turn P w K (.Tuple elts x1 pos) (Je K a) [e,it] e
  (fun i h=>(∃old,IsEnum h e it i old)/\h.IsListIter it a i) where
 mem:=by simp
 obj:=fun i h st b hb=>by
  obtain ⟨⟨old,he⟩,o,hi,hc,hd⟩:=st
  simp only[Yl,Xp,or_false] at hb
  rcases hb with rfl | rfl
  ·exact ⟨_,he,fun v q=>by cases q⟩
  ·exact ⟨o,hi,fun v q=>by rw[hd] at q;cases q⟩
 keep:=fun i h h' st k=>by
  obtain ⟨⟨old,he⟩,hi⟩:=st
  exact ⟨⟨old,k e 3e0 _ he⟩,hi.at fun o z=>k it 3e0 o z⟩
 item:=by
  sleep 1
  obtain ⟨⟨old,he⟩,hi⟩:=st
  obtain ⟨xs,v,hq,hx⟩:=hg
  obtain ⟨its,rv,p,hz⟩:=I.list hq
  obtain ⟨u,hu,ru⟩:=rv.get hx
  refine wpAny_pyNext_enum_item he hi p.isList (x:=u) (by simpa using hu) hne fun h' ho hi' hT hsz hk=>⟨_,rfl,?_⟩
  refine wpAny_letOwnedTupleGo_enum (s:={ s with heap:=h',toks:=s.toks + 1 }) ho fun h3 he3 sb=>?_
  have J1:Inv X pins σ H { s with heap:=h3,toks:=s.toks + 1 }:=turnedL (ch:=[e,it]) I (fun b o hb z=>by
   simp only[Yl,Xp,or_false,not_or] at hb
   exact sb.extBut _ _ hb.1 (hk b o hb.1 hb.2 z)) hf
  have hlt:∀{b o},s.heap.get? b=some o->b≠s.heap.objs.size:=fun e=>Yt (Yq e)
  have hn:H s.heap.objs.size=none:=I.hok.fresh (Yi _)
  have hT3:=sb.extBut _ _ (hlt he).symm hT
  have J2:=track (ob:=.tup [.int i,v]) J1 hn I.sz (X1 I.lt) (fun x c e=>by obtain ⟨v,q⟩:=I.cell x c e;exact Yt q.lt) (fun p hp=>hlt (I.pin p hp).1)
   ⟨by show 2<=Yr;rw[YN];decide,[.int i s.toks,u],.cons 7e1 (.cons ru .nil),⟨_,hT3,rfl,_,rfl⟩⟩
  refine ⟨.ref s.heap.objs.size,_,J2,rfl,⟨_,v,hn,rfl,rfl,fun ys hy=>by rw[I.list_inj hy hq];exact hx⟩,⟨⟨_,he3⟩,hi'.at fun o z=>sb.extBut _ _ hne.symm z⟩,fun b hb=>?_⟩
  have hb':b≠s.heap.objs.size:=by
   simp only[Yl,Xp,or_false] at hb
   rcases hb with rfl | rfl
   ·exact hlt he
   ·obtain ⟨o,z,_⟩:=hi;exact hlt z
  rw[Zag hb'];exact (hf b hb).1
 done:=by
  sleep 1
  obtain ⟨⟨old,he⟩,hi⟩:=st
  obtain ⟨xs,hq,hx⟩:=hg
  obtain ⟨its,rv,p,hz⟩:=I.list hq
  have hl:=rv.length
  refine wpAny_pyNext_enum_end (I.ok.hd hc) he hi p.isList (by simp;lia) fun h' eb=>⟨rfl,turnedL (t':=s.toks) (ch:=[e,it]) I (fun b o hb z=>?_) hf⟩
  simp only[Yl,Xp,or_false,not_or] at hb
  exact eb b o hb.2 z
 self:=fun _ _ _ _ _ st h=>by obtain ⟨⟨old,he⟩,_⟩:=st;exact wpAny_pyIter_enum he h
section
variable {X:Cx}{l:Expr}{elts:3e2}{x1:Nat}{tpos p pos:Pos}
def iEnum (K:W.Frag)(tl:TA):TI:=fun σ H R=>tl σ H fun xs H1=>∃a,xs=[.ref a]/\(∃vs,SqL K H1 a vs)/\R (Je K a) H1
theorem pi_enum {tl:TA}(hg:Gl X "enumerate")(hm:X.mg "enumerate"=none)(ha:PA X [l] tl)(hs:Ys [l] X.env=[(false,eval l X.env)]:=by rfl):PI X (.Tuple elts x1 tpos) (.Call (.Name "enumerate" p) [l] [] pos) (iEnum X.K tl):=by
 intro pins s σ H R I h
 refine Call_ (Zc6 I hg hm 1e3 (XI (thn (ha pos pins s σ H _ I h) fun us s1 ⟨vs,H1,I1,r1,q1⟩=>?_) hs rfl))
 obtain ⟨a,rfl,⟨ws,hq⟩,q⟩:=q1
 obtain ⟨u,rfl,ru⟩:=vals1 r1
 cases ru
 obtain ⟨its,rv,pl,hz⟩:=I1.list hq
 refine call_enumerate_list pl.isList fun h' he hi hsz k=>?_
 have J:Inv X pins σ H1 { s1 with heap:=h' }:=I1.kept (t':=s1.toks) k
 refine wpAny_pyIter_enum (s:={ s1 with heap:=h' }) he ⟨s1.heap.objs.size + 1,[s1.heap.objs.size + 1,s1.heap.objs.size],_,_,H1,rfl,J,turn_enum (Nat.succ_ne_self _),⟨⟨_,he⟩,hi⟩,fun b hb=>?_,q⟩
 have hb':s1.heap.objs.size<=b:=by
  simp only[Yl,Xp,or_false] at hb
  rcases hb with rfl | rfl<;>lia
 exact I1.fpOk hb' (I1.hok.fresh hb')
def enumL (xs:List PV):List PV:=(YW xs.length).map fun i=>.tup [.int (i:Nat),xs.getD i .non]
def enumP:List SV->Option 2e9
 | [.v (.lst xs)]=>some (enumL xs)
 | _=>none
def mEnum (fs:2e1):PSt->M 2e9:=fun ρ=>bnd (fs ρ) fun xs=>opM fun _=>enumP xs
theorem Zde (xs:List PV):(enumL xs).length=xs.length:=by unfold enumL;simp
theorem iter_enum {K:W.Frag}{ι:2e2}{H:Hp}{C:Cs}{a:Addr}{xs:List PV}{vs:List V}(cr:7e2)(h:LsR K ι H a vs)(r:Reps K ι H xs vs):Iter K ι H (enumL xs) (Je K a):=by
 have keep:∀ι2 H2,Ex ι ι2 H H2->SqL K H2 a vs:=fun ι2 H2 x=>by
  rcases h with ⟨n,q | ⟨o,q⟩⟩ | q
  ·exact .inl (.inl (x.out _ _ n q).2)
  ·exact .inl (.inr ⟨o,(x.out _ _ n q).2⟩)
  ·exact .inr q
 refine ⟨fun ι2 H2 C2 x c i hi=>?_,fun ι2 H2 C2 x c i v H3 hi y=>?_,fun ι2 H2 C2 x c=>⟨vs,keep ι2 H2 x,by rw[Zde,r.length];exact Yi _⟩⟩
 ·rw[Zde] at hi
  obtain ⟨v,e,_⟩:=r.get (Yd hi)
  exact ⟨vs,v,keep ι2 H2 x,e⟩
 ·rw[Zde] at hi
  obtain ⟨b,w,hn,rfl,rfl,y⟩:=y
  obtain ⟨p,hp,rp⟩:=r.get' (y vs (keep ι2 _ x))
  refine ⟨fun c o e=>by rw[Zag (Zak e hn)];exact e,.tup [.int (i:Nat),p],?_,Zc1 hn (.cons repI (.cons (Rep.tr cr x.out p w rp) .nil))⟩
  unfold enumL
  simp[hi]
  rw[Yd hi] at hp
  exact YI hp
end
def putD (k:Nat)(y v:SV):M Unit:=fun C=>match y,v with
 | .v (.tup qs),.v p=>match C[k]?,keysP qs with
  | some (.dtt ks ps),some key=>if ks.length < 1000 then some ((),C.set k (.dtt (putKs ks key) (putVs ks ps key p))) else none
  | _,_=>none
 | _,_=>none
theorem putD_some {k:Nat}{y v:SV}{C C2:Cs}{u:Unit}(h:putD k y v C=some (u,C2)):∃qs p ks ps key,y=.v (.tup qs)/\v=.v p/\C[k]? = some (.dtt ks ps)/\keysP qs=some key/\ks.length < 1000/\C2=C.set k (.dtt (putKs ks key) (putVs ks ps key p)):=by
 unfold putD at h
 split at h
 ·split at h
  ·split at h
   ·cases h;exact ⟨_,_,_,_,_,rfl,rfl,by assumption,by assumption,by assumption,rfl⟩
   ·cases h
  ·cases h
 ·cases h
def compD (g:2e8)(tt:3e8)(tk te:2e4)(k:Nat):List PV->PSt->M Unit
 | [],_=>ret ()
 | x::xs,ρ=>match g x ρ with
  | none=>fun _=>none
  | some ρ1=>bnd (tt ρ1) fun b=>if b then bnd (tk ρ1) fun y=>bnd (te ρ1) fun v=>bnd (putD k y v) fun _=>compD g tt tk te k xs ρ1
   else compD g tt tk te k xs ρ1
def mCompD (it:6e5)(vs:4e0)(fr:6e3)(g:2e8)(tt:3e8)(tk te:2e4):PSt->M SV:=fun ρ=>bnd (it ρ) fun xs C=>match compD g tt tk te C.length xs (stIn' vs fr ρ) (C++[.dtt [] []]) with
 | some (_,C')=>fin C.length C' (.c C.length)
 | none=>none
theorem compD_pure {K:W.Frag}{it:6e5}{vs:4e0}{fr:6e3}{g:2e8}{tt:3e8}{tk te:2e4}{σ:St}{H:Hp}{Q:VK}{ι:2e2}{ρ:PSt}{C C':Cs}{z:SV}(sr:SR K ι H ρ σ C)
  (e:mCompD it vs fr g tt tk te ρ C=some (z,C')) (q:∀v H',Fr ι H H'->CR K ι H' C'->RepS K ι H' z v->Q v H'):tCompD (tMI K it) vs fr (tMG K g) (tMB K tt) (tM K tk) (tM K te) σ H Q:=by
 obtain ⟨xs,C1,e1,e⟩:=Zae e
 refine ⟨ι,ρ,C,xs,C1,sr,e1,fun J H1 f1 c1 it1=>?_⟩
 intro D hD
 cases hc:compD g tt tk te C1.length xs (stIn' vs fr ρ) (C1++[.dtt [] []]) with
 | none=>rw[hc] at e;cases e
 | some r=>
 obtain ⟨u,C9⟩:=r
 rw[hc] at e
 replace e:fin C1.length C9 (.c C1.length)=some (z,C'):=e
 have x0:Ex ι [D] H1 (upd H1 D (.dT [])):=⟨Fr.new hD,fun b hb=>by
  have:b=D:=by simpa using hb
  subst this;exact hD⟩
 have c2:CR K (ι++[D]) (upd H1 D (.dT [])) (C1++[.dtt [] []]):=c1.add hD ⟨[],Zam,rfl,.nil⟩
 have sr1:=((sr.step f1 c1).block vs fr).ex x0 c2
 have hkD:(ι++[D])[C1.length]? = some D:=by rw[←c1.len];simp
 refine ⟨fun i m σ2 H2=>∃ρ2 C2,m=xs.length - i/\i<=xs.length/\Ex ι [D] H1 H2/\SR K (ι++[D]) H2 ρ2 σ2 C2/\compD g tt tk te C1.length (xs.drop i) ρ2 C2=some (u,C9),⟨xs.length,_,_,rfl,Y4 _,x0,sr1,hc⟩,?_⟩
 rintro i m σ2 H2 ⟨ρ2,C2,rfl,hi2,x2,sr2,e2⟩
 rcases YS i xs.length with hlt | hge
 ·right
  refine ⟨it1.go [D] H2 C2 x2 sr2.cr i hlt,fun σ' H'=>∃ρ2 C2,Ex ι [D] H1 H'/\SR K (ι++[D]) H' ρ2 σ' C2/\compD g tt tk te C1.length (xs.drop (i + 1)) ρ2 C2=some (u,C9),?_,?_⟩
  ·rintro σ' H' ⟨ρ3,C3,x3,sr3,e3⟩
   exact ⟨xs.length - (i + 1),by lia,ρ3,C3,rfl,hlt,x3,sr3,e3⟩
  ·intro v H3 y
   obtain ⟨sm,qv,hq,rq⟩:=it1.yld [D] H2 C2 x2 sr2.cr i v H3 hlt y
   have hd:xs.drop i=qv::xs.drop (i + 1):=by
    rw[Xr hlt]
    rw[Yd hlt] at hq
    rw[YI hq]
   rw[hd] at e2
   unfold compD at e2
   have nx:∀{Ha Hb:Hp},Ex ι [D] H1 Ha->Fr (ι++[D]) Ha Hb->Ex ι [D] H1 Hb:=fun {Ha Hb} x f=>⟨fun b o n e=>f b o (x.out b o n e).1 (x.out b o n e).2,x.2⟩
   have fr3:Fr (ι++[D]) H2 H3:=fun b o _ z=>sm b o z
   have cr3:CR K (ι++[D]) H3 C2:=sr2.cr.same sm
   cases hg1:g qv ρ2 with
   | none=>rw[hg1] at e2;cases e2
   | some ρ3=>
    rw[hg1] at e2
    obtain ⟨b,C3,e3,e4⟩:=Zae e2
    refine ⟨ι++[D],ρ2,C2,qv,ρ3,sr2.step fr3 cr3,rq,hg1,fun σ4 sr4=>⟨ι++[D],ρ3,C2,b,C3,sr4,e3,fun H5 f5 c5=>?_⟩⟩
    have x5:=nx (nx x2 fr3) f5
    have sr5:=sr4.step f5 c5
    cases b with
    | false=>
     rw[if_neg YD] at e4
     dsimp only
     rw[if_neg YD]
     exact ⟨ρ3,C3,x5,sr5,e4⟩
    | true=>
     rw[if_pos rfl] at e4
     dsimp only
     rw[if_pos rfl]
     obtain ⟨y1,C4,e5,e6⟩:=Zae e4
     obtain ⟨y2,C5,e7,e8⟩:=Zae e6
     obtain ⟨y3,C6,e9,e10⟩:=Zae e8
     obtain ⟨qs,p,ks,ps,key,rfl,rfl,hcell,hkey,hlen,rfl⟩:=putD_some e9
     refine ⟨ι++[D],ρ3,C3,_,C4,sr5,e5,fun v6 H6 f6 c6 r6=>⟨ι++[D],ρ3,C4,_,C5,sr5.step f6 c6,e7,fun v7 H7 f7 c7 r7=>?_⟩⟩
     obtain ⟨vs',h1,hl,rv⟩:=(show CellOk K (ι++[D]) H7 D (.dtt ks ps) from c7.ok C1.length D _ hkD hcell)
     obtain ⟨bk,rfl,hb⟩:=ZbM (show Rep K (ι++[D]) H7 (.tup qs) v6 from Rep.mono c6 f7 _ _ r6) hkey
     obtain ⟨z1,z2⟩:=put_zip (k:=key) (v:=v7) hl
     have fr8:Fr (ι++[D]) H7 (upd H7 D (.dT (putK (ks.zip vs') key v7))):=fun b u n e=>by
      rw[Zag (fun z=>n (by rw[z];exact YB hkD))];exact e
     have c8:CR K (ι++[D]) (upd H7 D (.dT (putK (ks.zip vs') key v7))) (C5.set C1.length (.dtt (putKs ks key) (putVs ks ps key p))):=
      c7.put hkD ⟨putVs ks vs' key v7,by rw[←z1];exact Zam,z2,Reps.mono c7 fr8 _ _ (reps_put r7 rv)⟩
     exact ⟨_,DPut.t h1 hb (by rw[WD,YN];lia),ρ3,_,nx (nx (nx x5 f6) f7) fr8,((sr5.step f6 c6).step f7 c7).step fr8 c8,e10⟩
 ·left
  have hi3:i=xs.length:=by lia
  subst hi3
  rw[WR] at e2
  cases e2
  refine ⟨it1.stop [D] H2 _ x2 sr2.cr,?_⟩
  obtain ⟨c4,r4⟩:=fin_ok sr2.cr c1.len (show RepS K (ι++[D]) H2 (.c C1.length) (.ref D) from ⟨D,rfl,hkD⟩) e
  exact q _ H2 (f1.trans x2.1) c4 r4
end Pu
namespace Pu
open PySem PySem.W PySem.Calls
open PyProof.Rows hiding St Fr
section
variable {prog:Yy}{w:World}{A:Around}{E:1e1}{s:Shared}{d it v:Addr}{es:Array VG}{ep i:Nat}
theorem rawv_call {Q:1e1}(lo:(d==XE)=false)(hm:RawD s.heap d es ep)
  (q:Q 4e5 { s with heap:=s.heap.push { cls:=.type "dict_values",data:=.fields #[.ref d] } }):wpAny (model prog w) A (call (.builtin "dict.values") [.ref d]) Q E s:=by
 have T:=hm.ty
 have shows:Wp d=pure ():=by delta Wp;simp only[lo];rfl
 apply Y7 VC T PySem.F.entry_dict_values _ (PySem.F.args_dict_values_1 _)
 refine Ya ?_
 delta Builtin.Dict.noArgs
 refine Ya (Uc T (Yc ?_))
 refine Ya (m:=Wp d) ?_
 rw[shows]
 refine Yc (Ya (Xk (Yc ⟨_,rfl,q⟩)))
theorem rawv_iter {Q:1e1}(hv:s.heap.IsValuesView v d)(hm:RawD s.heap d es ep)
  (q:Q 4e5 { s with heap:=s.heap.push { cls:=.type "dict_valueiterator",data:=.fields #[.ref d,.int 0 0,.int es.size 0,.int ep 0] } }):wpAny (model prog w) A (pyIter (.ref v)) Q E s:=by
 obtain ⟨o1,a1,a2,a3⟩:=id hv
 obtain ⟨o2,b1,b2,b3⟩:=hm
 have one:W4 "dict_valueiterator"=false:=by decide
 have made:∀{P:1e1} {B:1e1} {A':Around},P 4e5 { s with heap:=s.heap.push { cls:=.type "dict_valueiterator",data:=.fields #[.ref d,.int 0 0,.int es.size 0,.int ep 0] } }->wpAny (model prog w) A' (Ud "dict_valueiterator" d) P B s:=fun z=>by
  delta Ud
  apply Ya
  refine Vc b1 b3 ?_
  apply Ya
  refine Ux b1 b3 ?_
  simp only[one,Yv,if_false]
  refine Xk ?_
  simpa[rawInt] using z
 have view:∀{P:Addr->Shared->Prop} {B:1e1} {A':Around},P d s->wpAny 1e9 A' (Builtin.Dict_items.dictOf (.ref v)) P B s:=fun z=>by
  delta Builtin.Dict_items.dictOf
  apply Ya
  exact Yau a1 a3 (x:=.ref d) rfl (Yc z)
 apply V1 hv.typeIs F.slot_dict_values_iter
 apply Y7 F.slot_dict_values_iter hv.typeIs F.entry_dict_values_iter _ (F.args_dict_values_iter_1 _)
 delta Wj.«dict_values.__iter__»
 apply Ya
 apply Yc
 apply Ya
 apply view
 apply Ya
 apply made
 exact Yc ⟨_,rfl,"dict_valueiterator",_,⟨_,Ye _ rfl,rfl⟩,WG.lookup,q⟩
theorem rawv_next {Q:Option Value->Shared->Prop}(hh:7e8)(hit:s.heap.IsValIter it d i es.size ep)(hm:RawD s.heap d es ep)
  (q1:∀e,es[i]? = some e->∀h',h'.IsValIter it d (i + 1) es.size ep->Xw it s.heap h'->Q (some e.val) { s with heap:=h' })
  (q2:es[i]? = none->∀h',Uy it s.heap h'->Q none { s with heap:=h' }):wpAny (model prog w) A (pyNext (.ref it)) Q E s:=by
 obtain ⟨o1,a1,a2,a3⟩:=id hit
 obtain ⟨o2,b1,b2,b3⟩:=hm
 have one:W4 "dict_valueiterator"=false:=by decide
 have there:(YG d==Xu)=false:=rfl
 delta pyNext
 apply Ya
 apply VL
 apply Xo (name:=Wn "__next__") hit.typeIs WG
 apply Y7 WG hit.typeIs F.entry_dict_valueiterator_next _ (F.args_dict_valueiterator_next_1 _)
 repeat first
  | refine WV hit.typeIs ?_
  | refine Vn a1 a3 ?_
  | refine Vc b1 b3 ?_
  | refine Ux b1 b3 ?_
  | simp only[one,there,bne_self_eq_false,Yv,if_false]
  | apply Ya
  | apply Yc
 have up:¬(i:Int) < 0:=by lia
 simp only[up,if_false,XG]
 cases hx:es[i]? with
 | some e=>
  have on:(s.heap.update it (XX (·.setIfInBounds 1 (rawInt ((i:Int) + 1))))).IsValIter it d (i + 1) es.size ep:=⟨_,Xn _ a1 (X4 (Xi a3 _)),(Vd ..).trans a2,by rw[Xi a3];simp[rawInt]⟩
  have ty:({ s with heap:=s.heap.update it (XX (·.setIfInBounds 1 (rawInt ((i:Int) + 1)))) }:Shared).TypeIs (.ref it) "dict_valueiterator":=Heap.IsValIter.typeIs on
  dsimp only
  repeat first
   | refine WV hit.typeIs ?_
   | refine wpAny_isOneOf_valiter hit.typeIs ?_
   | refine wpAny_isOneOf_valiter ty ?_
   | simp only[one,Yv,if_false,XO]
   | refine XY a1 a3 (by simp) ?_
   | apply Xa
   | apply Ya
   | apply Yc
  exact ⟨_,rfl,Yc (q1 e hx _ on (Y3 ..))⟩
 | none=>
  have calm:A.in1.handled=none:=hh
  dsimp only
  repeat first
   | refine WV hit.typeIs ?_
   | simp only[one,Yv,if_false,XO]
   | refine XY a1 a3 (by simp) ?_
   | refine Yan ?_
   | refine Vu calm ?_
   | apply Ya
   | apply Yc
  refine UO (Ye _ rfl) (Yc ?_)
  have stop:UY (.type "StopIteration") (.type "StopIteration")=pure true:=UQ
  dsimp only
  rw[stop]
  exact Yc (Yc (q2 hx _ (((Y3 ..).extBut.push _).push _)))
theorem rawv_item {e:VG}{Q:Option Value->Shared->Prop}(hh:7e8)(hit:s.heap.IsValIter it d i es.size ep)(hm:RawD s.heap d es ep)(hx:es[i]? = some e)
  (q:∀h',h'.IsValIter it d (i + 1) es.size ep->Xw it s.heap h'->Q (some e.val) { s with heap:=h' }):wpAny (model prog w) A (pyNext (.ref it)) Q E s:=
 rawv_next hh hit hm (fun e' z=>by rw[hx] at z;cases z;exact q) fun z=>by rw[hx] at z;cases z
theorem rawv_end {Q:Option Value->Shared->Prop}(hh:7e8)(hit:s.heap.IsValIter it d i es.size ep)(hm:RawD s.heap d es ep)(hx:es.size<=i)
  (q:∀h',Uy it s.heap h'->Q none { s with heap:=h' }):wpAny (model prog w) A (pyNext (.ref it)) Q E s:=
 rawv_next hh hit hm (fun e' z=>by rw[YH hx] at z;cases z) fun _=>q
theorem rawv_walks (hh:7e8)(I:Addr)(hne:d≠I):
  Walks prog w A I [I,d] [I] es.size (fun i v=>∃e,es[i]? = some e/\v=e.val) (fun i h=>h.IsValIter I d i es.size ep/\RawD h d es ep) where
 sub:=fun b hb=>by rw[Yk.mp hb];exact YJ
 frame:=fun _ _ _ st hk=>⟨by obtain ⟨o,e,r⟩:=st.1;exact ⟨o,hk I 8e0 o e,r⟩,st.2.at (hk d (.tail _ 8e0))⟩
 item:=fun i s Q E hi st hQ=>by
  have hx:es[i]? = some es[i]:=Yj hi
  exact rawv_item hh st.1 st.2 hx fun h' k2 sb=>hQ _ h' s.toks ⟨_,hx,rfl⟩ ⟨k2,st.2.at fun o e=>sb.extBut d o hne e⟩ fun b o hb e=>sb.extBut b o (fun z=>hb (Yk.mpr z)) e
 done:=fun s Q E st hQ=>rawv_end hh st.1 st.2 (Yi _) fun h' x=>hQ h' s.toks fun b o hb e=>x b o (fun z=>hb (Yk.mpr z)) e
 self:=fun i s Q E st hQ=>wpAny_pyIter_valiter st.1 hQ
theorem rawv_src:KdlSrc prog w "dict_values" v d es.size (fun i v=>∃e,es[i]? = some e/\v=e.val) (fun h=>h.IsValuesView v d/\RawD h d es ep) where
 type:=fun _ hm=>hm.1.typeIs
 there:=fun _ hm=>⟨let ⟨_,ho,_⟩:=hm.1;Yq ho,hm.2.lt⟩
 keep:=fun _ _ hm hk=>⟨let ⟨o,ho,x⟩:=hm.1;⟨o,hk v (.inl rfl) o ho,x⟩,hm.2.at (hk d (.inr rfl))⟩
 notList:=by decide
 notTuple:=by decide
 hint:=fun _ _ _ _ hm hq=>kdl_hint_values hm.1.typeIs hq
 iter:=fun _ _ hh hm=>⟨_,_,fun _ _ hq=>rawv_iter hm.1 hm.2 hq,rawv_walks hh _ (Yt hm.2.lt),8e8,hm.2.at fun o e=>Yb _ e⟩
end
end Pu
namespace Pu
open PySem PySem.Spec L2
open PyProof.Rows hiding St Fr
section
variable {X:Cx}{e o st:Expr}{fa fo fs:2e4}{p p2 pos apos cpos:Pos}
def revS (C:Cs)(x k:SV):Option 2e9:=match deref C x,k with
 | some (.lst xs),.v (.int i)=>if i=-1 then some xs.reverse else none
 | _,_=>none
def mRevS (fa fs:2e4):PSt->M 2e9:=fun ρ=>bnd (fa ρ) fun x=>bnd (fs ρ) fun k=>opM fun C=>revS C x k
theorem revS_some {C:Cs}{x k:SV}{z:List PV}(h:revS C x k=some z):∃xs,deref C x=some (.lst xs)/\k=.v (.int (-1))/\z=xs.reverse:=by
 unfold revS at h
 split at h
 ·split at h
  ·rename_i hi
   subst hi
   cases h;exact ⟨_,by assumption,rfl,rfl⟩
  ·cases h
 ·cases h
theorem Vals.rev:∀{vs:List V} {us:2e5},Vals vs us->Vals vs.reverse us.reverse
 | _,_,.nil=>.nil
 | _,_,.cons h t=>by rw[V2,V2];exact Vals.append (Vals.rev t) (.cons h .nil)
theorem items_vals {es:Array VG}{acc:Array Value}(h:Ybe (fun i v=>∃e,es[i]? = some e/\v=e.val) acc es.size):acc.toList=es.toList.map (·.val):=by
 apply XV
 intro i
 rw[Y8,Yx,Y8]
 by_cases hi:i < acc.size
 ·obtain ⟨e,e1,e2⟩:=h.2 i _ (Yj hi)
  rw[Yj hi,e2,e1];rfl
 ·have:=h.1
  rw[YH 1e2,YH 1e2];rfl
theorem kt_vals {H:Hp}{kvs:5e4}{xs:List 7e9}(r:KT H kvs xs):Vals (kvs.map (·.2)) (xs.map fun x=>x.2.2):=by
 induction r with
 | nil=>exact .nil
 | cons a t ih=>exact .cons a.2.2 ih
theorem entry_vals {prog:Yy}{w:World}(xs:List 7e9):(xs.map (Yar (Vh (mixKind prog w)))).map (·.val)=xs.map fun x=>x.2.2:=by rw[Y9];rfl
def valsH (C:Cs)(x:SV):Option 2e9:=match deref C x with
 | some (.dtt _ ps)=>if ps.length<=1000 then some ps else none
 | _=>none
def mListVals (fo:2e4):PSt->M 2e9:=fun ρ=>bnd (fo ρ) fun x=>opM fun C=>valsH C x
end
section
variable {X:Cx}
def rExtS (K:W.Frag):V->List V->Hp->VK->Prop:=fun x vs H Q=>∃l b xs zs,x=.ref l/\vs=[.ref b]/\H l=some (.lst xs)/\SqL K H b zs/\xs.length + zs.length<=Yr/\Q .non (upd H l (.lst (xs++zs)))
theorem extW (l:Addr)(items:Array Value)(n:Nat)(b:Addr)(items2:Array Value)(n2:Nat)(dd:Option Addr)(sl:Array (Option Value))(hc0:¬(!items.isEmpty&&Wy (items.size + items2.size))=true)(hc1:items.size<=Yr)(hs2:items.size + items2.size<=Yr + 1):
  Meets (Wj.«list.extend» ⟨[.ref l,.ref b],[]⟩) (fun _ R s=>s.heap.get? l=some { cls:=.type "list",dict:=none,data:=.seq items n,slots:=#[] }/\s.heap.get? b=some { cls:=.type "list",dict:=dd,data:=.seq items2 n2,slots:=sl }/\R (.ok (.ret Xu)) { s with heap:=s.heap.update l (XN fun x=>x++items2),toks:=s.toks }):=
 .of_wp fun prog w A R s h=>by
  obtain ⟨hp,g,d,tk,os⟩:=s;obtain ⟨hl,hb,h⟩:=h;have f1:=AutoSeq1.idx_int;have f2:=AutoSeq1.sub_tuple_tuple;have f3:=AutoSeq1.sub_list_list;have f4:=AutoSeq1.sub_tuple_list;have f5:=AutoSeq1.sub_list_tuple
  have hz':(items++items2).size<=Yr + 1:=by rw[Array.size_append];exact hs2
  wp_walk using (Yap hl rfl (hz:=hc1) (_hz':=hz')),VJ hl,VJ hb;exact ⟨_,rfl,h⟩
theorem mt_extS:MtM X "list.extend" (rExtS X.K):=by
 intro pins s σ H x vs v us Q I rx rv h
 obtain ⟨l,b,xs,zs,rfl,rfl,hH,hB,hz,q⟩:=h
 cases rx
 obtain ⟨u,rfl,ru⟩:=rv.one
 cases ru
 obtain ⟨z,its,n,r,hl,e⟩:=I.lstM hH
 obtain ⟨its2,r2,pl2,_⟩:=I.list hB
 obtain ⟨⟨cls2,dd2,data2,sl2⟩,ho2,hc2,n2,hd2⟩:=id pl2.isList
 simp only at hc2 hd2
 subst hc2 hd2
 have h2:=r2.length
 have hsz:its.toArray.size + its2.toArray.size<=sizeLine:=by rw[Yn,Yn];lia
 have hlong:¬(!its.toArray.isEmpty&&Wy (its.toArray.size + its2.toArray.size))=true:=by
  rw[notLongL hsz,UN]
  exact YD
 refine call_meets F.slot_list_extend ⟨_,e,rfl⟩ F.entry_list_extend (F.args_list_extend_2 _ _)
  (extW l its.toArray n b its2.toArray n2 dd2 sl2 hlong (by rw[Yn];lia) 1e2) ⟨e,ho2,?_⟩
 refine ⟨.non,_,I.lset (its':=its++its2) hH e 3e0 (r.append r2) ?_,rfl,q⟩
 rw[Yu]
 lia
def extC (x:SV)(ys:List SV):M SV:=fun C=>match x,ys with
 | .c k,[.v (.lst qs)]=>match C[k]? with
  | some (.lst ps)=>if ps.length + qs.length < 100000 then some (.v .non,C.set k (.lst (ps++qs))) else none
  | _=>none
 | _,_=>none
theorem extC_some {x:SV}{ys:List SV}{C C2:Cs}{r:SV}(h:extC x ys C=some (r,C2)):∃k qs ps,x=.c k/\ys=[.v (.lst qs)]/\C[k]? = some 6e8/\ps.length + qs.length < 100000/\r=.v .non/\C2=C.set k (.lst (ps++qs)):=by
 unfold extC at h
 split at h
 ·split at h
  ·split at h
   ·cases h;exact ⟨_,_,_,rfl,rfl,by assumption,by assumption,rfl,rfl⟩
   ·cases h
  ·cases h
 ·cases h
def mExt (fo:2e4)(fs:2e1):PSt->M SV:=fun ρ=>bnd (fo ρ) fun x=>bnd (isLst x) fun _=>bnd (fs ρ) fun ys=>extC x ys
variable {o e:Expr}{es:3e2}{fo:2e4}{fs:2e1}{apos cpos:Pos}
end
end Pu
namespace Pu
open PySem PySem.Spec PySem.W PySem.Calls L2 PySem.SeqAt Se
open PyProof.Rows hiding St Fr
section
variable {prog:Yy}{w:World}{A:Around}{E:1e1}{s:Shared}
theorem sorted_at3 {v:Value}{Q:1e1}{OKv:List Value->Prop}{κ:List Value->Uj}{o:List Value->Nat->Nat->Bool}
  (hcol:∀(Q':List Value->Shared->Prop),(∀h1 d tk vs,(∀b u,s.heap.get? b=some u->h1.get? b=some u)->s.heap.objs.size<=h1.objs.size->OKv vs->Q' vs { s with heap:=h1,drawn:=d,toks:=tk })->wpAny (model prog w) A.in1 (Yal v) Q' E s) (h64:∀vs,OKv vs->vs.length < 64)
  (hk:∀vs,OKv vs->2<=vs.length->∀h' d tk,7e4->∀Q:Uj->Shared->Prop,Q (κ vs) { s with heap:=h',drawn:=d,toks:=tk }->wpAny (model prog w) A.in1.in1 (keyKind' vs.toArray) Q (fun _ _=>False) { s with heap:=h',drawn:=d,toks:=tk })
  (hc:∀vs,OKv vs->2<=vs.length->∀h' d tk,7e4->∀i j (C:4e4),i < vs.length->j < vs.length->C (o vs i j) { s with heap:=h',drawn:=d,toks:=tk }->kas_ask prog w A.in1.in1 (κ vs) vs i j C { s with heap:=h',drawn:=d,toks:=tk })
  (h:∀vs D h' d tk c,OKv vs->s.heap.objs.size<=D->7e4->h'.get? D=some (seqObj "list" (outs2 (o vs) vs).toArray c)->Q (.ref D) { s with heap:=h',drawn:=d,toks:=tk }):
  wpAny 1e9 A (call (.builtin "sorted") [v]) Q E s:=by
 refine Vm kind_sorted plain_sorted entry_sorted (args_sorted1 _) ?_
 unfold Wj.«sorted»
 refine Ya (m:=checkCount "sorted" 1 1 _) (Yc ?_);refine Ya (hcol _ fun h1 d tk vs kp hle ok=>?_)
 have h64:=h64 vs ok
 refine Ya (WN ?_ (by rw[YN];lia))
 have hoL:(h1.push 8e6).get? h1.objs.size=some 8e6:=Ye _ rfl
 have keep:∀b u,s.heap.get? b=some u->(h1.push 8e6).get? b=some u:=fun b u e=>Yb _ (kp b u e)
 have kb:∀h',KeepBut h1.objs.size (h1.push 8e6) h'->∀b u,s.heap.get? b=some u->h'.get? b=some u:=fun h' k b u e=>
  k b u (Yt (Yo (Yq e) hle)) (keep b u e)
 show wpAny _ _ _ _ _ { s with heap:=h1.push (seqObj "list" vs.toArray 0),drawn:=d,toks:=tk }
 refine Ya (Xa (Y7 slot_list_sort ⟨_,hoL,rfl⟩ entry_list_sort ?body (args_list_sort _)))
 case body=>
  by_cases h2:vs.length < 2
  ·refine Zc3 (s:={ s with heap:=h1.push (seqObj "list" vs.toArray 0),drawn:=d,toks:=tk }) hoL h2 fun h' c k e=>⟨_,rfl,Yc ⟨_,rfl,h vs _ h' d tk c ok hle (kb h' k) ?_⟩⟩
   unfold outs2;rw[if_pos h2];exact e
  ·refine lsort_at (s:={ s with heap:=h1.push (seqObj "list" vs.toArray 0),drawn:=d,toks:=tk }) (κ:=κ vs) (o:=o vs) hoL (by lia) h64 (fun h' k=>hk vs ok (by lia) h' d tk (kb h' k)) (fun h' k=>hc vs ok (by lia) h' d tk (kb h' k)) fun h' c k e=>⟨_,rfl,Yc ⟨_,rfl,h vs _ h' d tk c ok hle (kb h' k) ?_⟩⟩
   unfold outs2;rw[if_neg h2];exact e
end
theorem perm_map_inv {α β:Type}{f:α->β}{l₁ l₂:List β}(h:l₁.Perm l₂):∀xs:List α,l₂=xs.map f->∃ys:List α,ys.Perm xs/\l₁=ys.map f:=by
 induction h with
 | nil=>intro xs e;cases xs with
  | nil=>exact ⟨[],.nil,rfl⟩
  | cons x xs=>simp at e
 | cons x _ ih=>intro xs e;cases xs with
  | nil=>simp at e
  | cons y xs=>
   rw[Ym] at e
   obtain ⟨e1,e2⟩:=Ul e
   subst e1
   obtain ⟨ys,p,rfl⟩:=ih xs e2
   exact ⟨y::ys,p.cons y,rfl⟩
 | swap x y l=>intro xs e;match xs,e with
  | a::b::r,e=>
   simp only[Ym,W9] at e
   obtain ⟨rfl,rfl,rfl⟩:=e
   exact ⟨b::a::r,.swap a b r,rfl⟩
  | [a],e=>simp at e
  | [],e=>simp at e
 | trans _ _ ih1 ih2=>intro xs e;obtain ⟨ys,p,rfl⟩:=ih2 xs e;obtain ⟨zs,q,e'⟩:=ih1 ys rfl;exact ⟨zs,q.trans p,e'⟩
theorem ZcD:∀(ps:List PV),dats ps=ps.all dat
 | []=>rfl
 | p::ps=>by rw[dats,Vb,ZcD ps]
theorem deps_le {n:Nat}:∀(ps:List PV),deps ps<=n↔∀p∈ps,dep p<=n
 | []=>by simp[deps]
 | p::ps=>by rw[deps,Nat.max_le,deps_le ps];simp
theorem Za4 {α:Type}{f:α->Bool}{l l':List α}(h:l.Perm l'):l.all f=l'.all f:=by
 rw[X3,YR,YR]
 exact ⟨fun q x hx=>q x (h.mem_iff.mpr hx),fun q x hx=>q x (h.mem_iff.mp hx)⟩
theorem Zdn {ps ps':List PV}(h:ps.Perm ps'):cmpAll ps=cmpAll ps':=by
 unfold cmpAll
 rw[Za4 h]
 congr 1
 funext p
 exact Za4 h
theorem sortable_perm {ps ps':List PV}(h:ps.Perm ps'):sortable ps=sortable ps':=by
 unfold sortable;rw[Za4 h,Za4 h,Za4 h,Za4 h]
end Pu
namespace Hd
open PySem PySem.W PySem.Spec PySem.Calls L2 Pu
open PyProof.Rows hiding St Fr
def kf (h:Heap)(as:2e2):Frag:=as.filterMap fun a=>(h.get? a).map fun o=>(a,o)
theorem kf_get {h:Heap}:∀{as:2e2} {a:Addr} {o:Obj},(kf h as).lookup a=some o->h.get? a=some o
 | [],_,_,e=>by cases e
 | b::as,a,o,e=>by
  unfold kf at e
  rw[WH] at e
  cases g:h.get? b with
  | none=>rw[g] at e;exact kf_get e
  | some p=>
   rw[g] at e
   simp only[Us,Xb] at e
   by_cases q:a=b
   ·subst q;rw[beq_self_eq_true] at e;cases e;exact g
   ·rw[beq_eq_false_iff_ne.mpr q] at e;exact kf_get e
theorem kf_in (h:Heap)(as:2e2):(kf h as).In h:=fun _ _ e=>kf_get e
theorem kf_at {h:Heap}{a:Addr}{o:Obj}(g:h.get? a=some o):∀{as:2e2},a∈as->(kf h as).lookup a=some o
 | [],m=>by cases m
 | b::as,m=>by
  unfold kf
  rw[WH]
  by_cases q:a=b
  ·subst q;rw[g];simp
  ·have m':a∈as:=(Yl.mp m).resolve_left q
   cases g':h.get? b with
   | none=>exact kf_at g m'
   | some p=>
    simp only[Us,Xb]
    rw[beq_eq_false_iff_ne.mpr q]
    exact kf_at g m'
def At (mg:2e6)(h:Heap)(as:2e2)(d:DefRec):Prop:=∃(a c:Addr) (o:Obj) (pm doc:Value),mg d.name=some (.ref a)/\h.get? a=some o/\o.data=.func (docDef d.name d.params d.body d.scope pm (.ref c) doc)/\h.CodeRec (.ref c) d.name/\a∈as/\c∈as
theorem at_all {mg:2e6}{h:Heap}(as0:2e2):∀ds:List DefRec,(∀d∈ds,∃a o pm code doc,mg d.name=some (.ref a)/\h.get? a=some o/\o.data=.func (docDef d.name d.params d.body d.scope pm code doc)/\h.CodeRec code d.name)->
  ∃as:List Addr,(∀a∈as0,a∈as)/\∀d∈ds,At mg h as d
 | [],_=>⟨as0,fun _ m=>m,fun _ m=>nomatch m⟩
 | d::ds,T=>by
  obtain ⟨as,h0,ih⟩:=at_all as0 ds fun e m=>T e (.tail _ m)
  obtain ⟨a,o,pm,cd,doc,h1,h2,h3,h4⟩:=T d 8e0
  obtain ⟨c,oc,vs,t,rfl,r⟩:=h4
  refine ⟨a::c::as,fun b m=>.tail _ (.tail _ (h0 b m)),fun e m=>?_⟩
  rcases Yl.mp m with rfl | m
  ·exact ⟨a,c,o,pm,doc,h1,h2,h3,⟨c,oc,vs,t,rfl,r⟩,.head _,.tail _ 8e0⟩
  ·obtain ⟨a',c',o',pm',doc',q1,q2,q3,q4,q5,q6⟩:=ih e m
   exact ⟨a',c',o',pm',doc',q1,q2,q3,q4,.tail _ (.tail _ q5),.tail _ (.tail _ q6)⟩
def FnAt (K:Frag)(mg:2e6)(x:Str)(st:Stmt):Prop:=∃f fd,mg x=some (.ref f)/\Fun K x x st f fd
def four (d:DefRec):Str×Arguments×List Stmt×Scope:=(d.name,d.params,d.body,d.scope)
def fourS (p:Str×Stmt):Str×Arguments×List Stmt×Scope:=(p.1,defArgs p.2,defBody p.2,defScope p.2)
theorem fn_at {mg:2e6}{h:Heap}{as:2e2}{ds:List DefRec}{sts:List (Str×Stmt)}(A:∀d∈ds,At mg h as d)(es:ds.map four=sts.map fourS)(i:Nat){x:Str}{st:Stmt}(e:sts[i]? = some (x,st)):FnAt (kf h as) mg x st:=by
 have q:(ds.map four)[i]? = some (fourS (x,st)):=by rw[es,Yx,e];rfl
 obtain ⟨d,e',q⟩:=Xh.mp ((Yx ..).symm.trans q)
 obtain ⟨n,ps,b,sc,p⟩:=d
 obtain ⟨rfl,q⟩:=Prod.mk.inj q
 obtain ⟨q1,q⟩:=Prod.mk.inj q
 obtain ⟨q2,q3⟩:=Prod.mk.inj q
 dsimp only at q1 q2 q3
 subst q1 q2 q3
 obtain ⟨a,c,o,pm,doc,h1,h2,h3,h4,h5,h6⟩:=A _ (YB e')
 obtain ⟨c',oc,vs,t,e1,g,hd,hv⟩:=h4
 cases e1
 obtain ⟨cl,dd,dt,sl⟩:=o
 cases (show dt=_ from h3)
 have k1:=kf_at h2 h5
 have k2:=kf_at g h6
 refine ⟨a,_,h1,fun_mk (oc:=cl) (od:=dd) (osl:=sl) (kV:=.none) (doc:=doc) (pm:=pm) (an:=none) (ct:=.none) (cdv:=.ref c) k1 ?_ ?_⟩
 ·obtain ⟨ocl,odd,odt,osl⟩:=oc
  cases (show odt=_ from hd)
  unfold codeIn
  dsimp only
  rw[k2]
  obtain ⟨l⟩:=vs
  match l,hv with
  | _::v::r,hv=>
   cases (show v=_ by simpa using hv)
   simp
 ·unfold keepIn
  dsimp only
  rw[k1]
theorem str_of {mg:2e6}{x y:Str}(h:∃v,mg x=some v/\∀h':Heap,Reads h' v (.str y) []):∃t,mg x=some (.str y t):=by
 obtain ⟨v,e,r⟩:=h
 cases r default
 exact ⟨_,e⟩
def defPos (s:Stmt):Pos:=match s with
 | .FunctionDef _ _ _ _ _ _ _ _ _ p=>p
 | _=>⟨0,0,0,0⟩
def isHere (p:Yy)(loose:4e0)(x:Str):Bool:=startupNames.contains x||loose.contains x||((recsOf p).map (·.name)).contains x||((litsOf p).map (·.1)).contains x||((clssOf p loose).map (·.name)).contains x
theorem nones {p:Yy}{loose:4e0}{mean:ExcName->Option Value}{mg mb:2e6}{h:Heap}(T:Top p loose mean mg mb h){xs:4e0}(e:xs.all (fun x=>!isHere p loose x)=true)(i:Nat){x:Str}(hx:xs[i]? = some x):mg x=none:=by
 have q:=YR.mp e x (YB hx)
 unfold isHere at q
 simp only[Bool.not_or,Yp,Bool.not_eq_true',List.contains_eq_mem,decide_eq_false_iff_not] at q
 exact T.free x q.1.1.1.1 q.1.1.1.2 q.1.1.2 q.1.2 q.2
def spLaw (K:Frag):Sp:=fun vs H Q _=>∃(a:Addr) (ns:List Int),vs=[.ref a]/\SqL K H a (ns.map V.int)/\ns.length<=63/\∀H',Q (.bl true) H'
theorem reps_ints {K:Frag}{ι:2e2}{H:Hp}:∀ns:List Int,Reps K ι H (ns.map PV.int) (ns.map V.int)
 | []=>by unfold Reps;rfl
 | n::ns=>by
  rw[Ym,Ym];unfold Reps
  exact ⟨_,_,rfl,by unfold Rep;rfl,reps_ints ns⟩
theorem spLaw_lift {K:Frag}{F:List SV->M SV}(hF:∀ns:List Int,ns.length<=63->F [.v (.lst (ns.map .int))] []=some (.v (.bl true),[]))(vs:List V)(H:Hp)(Q:VK)(E:XK)(h:spLaw K vs H Q E):liftSp K F vs H Q E:=by
 obtain ⟨a,ns,rfl,hS,hl,hQ⟩:=h
 refine ⟨[],[.v (.lst (ns.map .int))],[],.v (.bl true),[],⟨rfl,List.nodup_nil,fun k a c e=>by cases e⟩,?_,hF ns hl,fun v H' _ _ r=>?_⟩
 ·unfold RepSs
  refine ⟨_,_,rfl,?_,by unfold RepSs;rfl⟩
  unfold RepS Rep
  refine ⟨a,_,rfl,?_,reps_ints ns⟩
  rcases hS with h | h
  ·exact .inl ⟨Xp,h⟩
  ·exact .inr h
 ·have e:v=.bl true:=by unfold RepS Rep at r;exact r
  subst e;exact hQ H'
theorem walk {l:OpenLaw}{k:Nat}{q:Yy}{loose:4e0}{XP:(Str->Option Value)->Heap->Prop}{YP:World->Heap->Prop}{d:DefRec}(hn:l.most=some 63)(hdf:d.params.defaults=[])(hr:Room k Ybc)(as0:2e2)
  (F:∀(w:World) (s₀:Shared) (mg mb:2e6) (h:Heap) (as:2e2),Ground q loose [] XP w s₀ mg mb h->YP w h->(∀a∈as0,a∈as)->(∀d∈recsOf q,At mg h as d)->∀fa:Addr,mg d.name=some (.ref fa)->
   ∃fd:Wh,(∀(s:Shared) (u:Value),BindsTo s fd ⟨[u],[]⟩ [("_law_script",u)])/\∀base:Heap,FnOk l.prog w (kf h as) mg base CX0 k fa fd ["_law_script"] (spLaw (kf h as))):
  WalkO q loose XP YP l.row.toRowW d [] (fun f vs=>PySem.call f vs):=by
 refine Att.attach_call hn hdf fun w s₀ s₁ mg mb fa o pm cd doc a vs ns G Y ho hd hcd hmg hobj hints hlen hg=>?_
 obtain ⟨as,h0,A⟩:=at_all as0 (recsOf q) G.T.fn
 obtain ⟨fd,hb,hF⟩:=F w s₀ mg mb _ as G Y h0 A fa hmg
 exact law_call (kf_in s₁.heap as) G.T.g G.T.b G.T.builtins G.T.nolimit hg hobj hints (YQ hlen 1e4) hr (fun base _ _=>hF base) hb (fun H hO hS=>⟨a,ns,rfl,hS,hlen,fun _=>rfl⟩) fun H e s' z=>z
end Hd
namespace L2
open PySem PySem.Spec PyProof.Rows
abbrev GT:=TI×TG×TT
abbrev lobj (its:2e5)(k:Nat):Obj:={ cls:=.type "list",data:=.seq its.toArray k }
def CBody (te:TE):List GT->List V->St->Hp->(St->List V->Hp->Prop)->Prop
  | [],ys,σ,H,N=>te σ H fun y H4=>ys.length<=Yr/\N σ (ys++[y]) H4
  | (wi,g,tt)::rest,ys0,σ0,H0,N=>wi σ0 H0 fun J H1=>
    ∃W:Nat->Nat->St->List V->Hp->Prop,(∃m,W 0 m σ0 ys0 H1)/\∀i m σ ys H,W i m σ ys H->
      (J.stop i H/\N σ ys H)\/
      (J.go i H/\∃N1:St->List V->Hp->Prop,(∀σ2 ys2 H2,N1 σ2 ys2 H2->∃m',m' < m/\W (i + 1) m' σ2 ys2 H2)/\∀x H',J.yld i H x H'->g x σ H' fun σ2 H2=>tt σ2 H2 fun b H3=>
        if b=true then CBody te rest ys σ2 H3 N1 else N1 σ2 ys H3)
def CLoop (J:It)(g:TG)(tt:TT)(rest:List GT)(te:TE)(ys0:List V)(σ0:St)(H1:Hp)(N:St->List V->Hp->Prop):Prop:=
  ∃W:Nat->Nat->St->List V->Hp->Prop,(∃m,W 0 m σ0 ys0 H1)/\∀i m σ ys H,W i m σ ys H->
   (J.stop i H/\N σ ys H)\/
   (J.go i H/\∃N1:St->List V->Hp->Prop,(∀σ2 ys2 H2,N1 σ2 ys2 H2->∃m',m' < m/\W (i + 1) m' σ2 ys2 H2)/\∀x H',J.yld i H x H'->g x σ H' fun σ2 H2=>tt σ2 H2 fun b H3=>
    if b=true then CBody te rest ys σ2 H3 N1 else N1 σ2 ys H3)
inductive GensOk (Y:Cx):List XZ->List GT->Prop
 | nil:GensOk Y [] []
 | cons {t i:Expr} {ifs:List Expr} {gs:List XZ} {wi:TI} {g:TG} {tt:TT} {rs:List GT} (hI:PI Y t i wi) (hG:PG Y t g) (hT:PTs Y ifs tt) (hs:∀x,YX i Y.env x=pure x) (r:GensOk Y gs rs):GensOk Y (⟨t,i,ifs,0⟩::gs) ((wi,g,tt)::rs)
section
variable {prog:Yy}{w:World}{A:Around}{R:9e2}{s:Shared}{elt t i:Expr}{ifs:3e2}{gens:List XZ}{scope:Scope}{pos:Pos}{d:Nat}
theorem turn_head {it:Value}{env:Env}{α:Type}{P Q:Shared->Prop}{z:Shared}{fin:Sem α}{tl:Bool->Sem α}{G:α->Shared->Prop}(h0:∀z1,P z1->wpAny 1e9 A fin G (noted prog w A env R) z1)
  (h:wpAny 1e9 A (pyNext it) (fun r z1=>match r with
   | none=>P z1
   | some v=>wpAny (model prog w) A (X2 t it v) (fun _ z2=>wpAny (model prog w) A (assign t env v) (fun _ z3=>wpAny (model prog w) A (testsOf env ifs) (fun yes z4=>wpAny (model prog w) A (tl yes) G (noted prog w A env R) z4) (noted prog w A env R) z3) (noted prog w A env R) z2) (noted prog w A env R) z1) (noted prog w A env R) z):
  wpAny 1e9 A (do standAt i.pos;match ←pyNext it with | none=>fin | some v=>do X2 t it v;assign t env v;let yes ←testsOf env ifs;tl yes) G (noted prog w A env R) z:=by
 apply Ya
 apply WI
 apply Ya
 refine Y5 h ?_ fun _ _ e=>e
 rintro (_ | v) z1 y1
 ·exact h0 z1 y1
 apply Ya
 refine Y5 y1 (fun _ z2 y2=>?_) fun _ _ e=>e
 apply Ya
 refine Y5 y2 (fun _ z3 y3=>?_) fun _ _ e=>e
 apply Ya
 exact y3
theorem Zb9 {it acc:Value}{env:Env}(hg:gens[d]? = some ⟨t,i,ifs,0⟩)(step:(Shared->Prop)->Shared->Prop)
  (hstep:(gens[d + 1]? = none/\∀P s,step P s->wpAny 1e9 A (eval elt env) (fun x s₄=>wpAny 1e9 A (call (.builtin "list.append") [acc,x]) (fun _ s₅=>P s₅) (noted prog w A env R) s₄) (noted prog w A env R) s)\/
   ∃t1 i1 ifs1,gens[d + 1]? = some ⟨t1,i1,ifs1,0⟩/\(∀x,YX i1 env x=pure x)/\∀P s,step P s->wpAny 1e9 A (eval i1 env) (fun x s₃=>wpAny 1e9 A (pyIter x) (fun it' s₄=>
      XT (model prog w) A (.compStart (.ListComp elt gens scope pos) (d + 1) it' acc env) (fun r s₅=>match r with | .ok _=>P s₅ | .error _=>False) s₄)
      (noted prog w A env R) s₃) (noted prog w A env R) s)
  (I:Nat->Shared->Prop)
  (turn:∀k z,I k z->wpAny 1e9 A (pyNext it) (fun r z1=>match r with
   | none=>R (.ok .next) z1
   | some v=>wpAny 1e9 A (X2 t it v) (fun _ z2=>wpAny 1e9 A (assign t env v) (fun _ z3=>wpAny 1e9 A (testsOf env ifs) (fun yes z4=>
     if yes=true then step (fun z5=>∃m,m < k/\I m z5) z4 else ∃m,m < k/\I m z4) (noted prog w A env R) z3) (noted prog w A env R) z2) (noted prog w A env R) z1) (noted prog w A env R) z)
  (n:Nat) (h:I n s):XT 1e9 A (.compLoop (.ListComp elt gens scope pos) d it acc env) R s:=by
 refine codeAny_loop rfl I ?_ n h
 intro k z hz
 apply wpAny_noted
 delta compTurn
 rcases hstep with ⟨hn,hst⟩ | ⟨t1,i1,ifs1,hn,hs1,hst⟩
 all_goals
  simp only[hg,hn]
  refine turn_head (P:=fun z1=>R (.ok .next) z1) (Q:=fun _=>True) (fun z1 y=>Yc y) (Y5 (turn k z hz) ?_ fun _ _ e=>e)
  rintro (_ | v) z1 y1
  ·exact y1
  refine Y5 y1 (fun _ z2 y2=>Y5 y2 (fun _ z3 y3=>Y5 y3 (fun yes z4 y4=>?_) fun _ _ e=>e) fun _ _ e=>e) fun _ _ e=>e
  by_cases b:yes=true
  case neg=>
   have nb:yes=false:=by simpa using b
   subst nb
   exact Yc ⟨rfl,y4⟩
  subst b
  have y5:=hst _ _ (show step _ z4 from y4)
 ·apply Ya
  apply Ya
  refine Y5 y5 (fun x z5 y6=>?_) fun _ _ e=>e
  apply Ya
  exact Y5 y6 (fun _ z6 y7=>Yc (Yc ⟨rfl,y7⟩)) fun _ _ e=>e
 ·apply Ya
  refine Y5 y5 (fun x z5 y6=>?_) fun _ _ e=>e
  apply Ya
  apply WI
  rw[hs1]
  apply Ya
  apply Yc
  apply Ya
  apply Xa
  refine Y5 y6 (fun j z6 y7=>?_) fun _ _ e=>e
  apply Ya
  refine wpAny_runOwn (V9 y7 ?_)
  rintro (e | f) z7 y8
  ·exact y8.elim
  ·exact Yc ⟨rfl,y8⟩
theorem Zdl {it acc:Value}{env:Env}(hg:gens[d]? = some ⟨t,i,ifs,0⟩)
  (h0:XT 1e9 A (.compLoop (.ListComp elt gens scope pos) d it acc env) R s)
  (h:wpAny 1e9 A (pyIter it) (fun j z=>XT 1e9 A (.compLoop (.ListComp elt gens scope pos) d j acc env) R z) (noted prog w A env R) s):
  XT 1e9 A (.compStart (.ListComp elt gens scope pos) d it acc env) R s:=by
 have cl:(clausesOf (.ListComp elt gens scope pos))[d]? = some ⟨t,i,ifs,0⟩:=hg
 refine Yaq (wpAny_notedAt ?_)
 delta compStart
 simp only[cl]
 refine Ya (m:=ask) (Wl (wpAny_ite ?_))
 split
 ·first
   | exact Yc ⟨rfl,h0⟩
   | exact Ya (Yc (Yc ⟨rfl,h0⟩))
 ·refine Ya (U0 ?_)
  refine Ya (m:=standAt _) (WI (Ya (Y5 h ?_ fun _ _ e=>e)))
  exact fun j z y=>Yc ⟨rfl,y⟩
end
section
variable {Y:Cx}{elt:Expr}{gens:List XZ}{scope:Scope}{pos:Pos}{te:TE}{D:Addr}
theorem runN (eC:Y.calm=true)(eX:Y.xe=fun _ _=>False)(hE:PE Y elt te)(hDl:D≠Y.env.locals)(hDf:D∉Y.fs)(hDe:D∈Y.ex\/Y.s₀.heap.objs.size<=D)(hDc:∀x c,Y.env.cells.lookup x=some c->c≠D)(hDp:∀p∈Y.pn,p.1≠D):
  ∀(rest:List GT) (d:Nat) (t i:Expr) (ifs:3e2) (g:TG) (tt:TT),gens[d]? = some ⟨t,i,ifs,0⟩->PG Y t g->PTs Y ifs tt->GensOk Y (gens.drop (d + 1)) rest->
  ∀(pl:1e6) (J:It) (it:Addr) (fp:2e2) (tn:Nat->Heap->Prop) (ys:List V) (its:2e5) (k:Nat) (σ:St) (H:Hp) (s:Shared) (N:St->List V->Hp->Prop) (R:9e2),
   (∀p∈pl,p.1≠D)->Turn Y.prog Y.w Y.K t J fp it tn->CLoop J g tt rest te ys σ H N->Inv Y ((D,lobj its k)::pl) σ H s->Vals ys its->tn 0 s.heap->(∀b∈fp,FpOk Y ((D,lobj its k)::pl) H b)->
   (∀σ' ys' its' k' H' s',Inv Y ((D,lobj its' k')::pl) σ' H' s'->Vals ys' its'->N σ' ys' H'->R (.ok .next) s')->
   XT (model Y.prog Y.w) Y.A (.compStart (.ListComp elt gens scope pos) d (.ref it) (.ref D) Y.env) R s:=by
 intro rest
 induction rest with
 | nil=>
  intro d t i ifs g tt hg hG hT hgs pl J it fp tn ys its k σ H s N R hpl T q I rv st f1 hR
  have hn:gens[d + 1]? = none:=by
   generalize hz:gens.drop (d + 1)=z at hgs
   cases hgs
   have:gens.length<=d + 1:=by simpa using hz
   exact YF.mpr this
  obtain ⟨W,⟨m0,w0⟩,turn⟩:=q
  have fpD:∀b∈fp,b≠D:=fun b hb=>XH ((f1 b hb).2.2.2.2.2 (D,lobj its k) (Yg _ YJ))
  have stat:∀{H':Hp} {its':2e5} {k':Nat},8e7->∀b∈fp,FpOk Y ((D,lobj its' k')::pl) H' b:=fun {H' its' k'} hn b hb=>by
   obtain ⟨a0,a1,a2,a3,a4,a5⟩:=f1 b hb
   refine ⟨hn b hb,a1,a2,a3,a4,fun p hp=>?_⟩
   rcases YU.mp hp with hp | hp
   ·exact a5 p (YY _ hp)
   ·rcases Yl.mp hp with rfl | hp
    ·exact XH (fpD b hb)
    ·exact a5 p (Yg _ (Yz _ hp))
  have loop:XT (model Y.prog Y.w) Y.A (.compLoop (.ListComp elt gens scope pos) d (.ref it) (.ref D) Y.env) R s:=by
   refine Zb9 hg (fun P s=>wpAny (model Y.prog Y.w) Y.A (eval elt Y.env) (fun x s₄=>wpAny (model Y.prog Y.w) Y.A (call (.builtin "list.append") [.ref D,x]) (fun _ s₅=>P s₅) (noted Y.prog Y.w Y.A Y.env R) s₄) (noted Y.prog Y.w Y.A Y.env R) s) (.inl ⟨hn,fun P s h=>h⟩)
    (fun n s'=>∃i σ' ys' its' k' H',Inv Y ((D,lobj its' k')::pl) σ' H' s'/\Vals ys' its'/\tn i s'.heap/\8e7/\W i n σ' ys' H') ?_ m0
    ⟨0,σ,ys,its,k,H,I,rv,st,fun b hb=>(f1 b hb).1,w0⟩
   rintro n s3 ⟨i,σ3,ys3,its3,k3,H3,J3,rv3,st3,fr3,w3⟩
   rcases turn i n σ3 ys3 H3 w3 with ⟨stop,qn⟩ | ⟨go,N1,hN,step⟩
   ·refine ZaN (T.done Y rfl rfl rfl eC i _ s3 σ3 H3 (fun _ _=>False) J3 (stat fr3) st3 stop) fun r s4 h_=>?_
    obtain ⟨hr,J4⟩:=h_
    subst hr
    exact hR σ3 ys3 its3 k3 H3 s4 J4 rv3 qn
   ·refine ZaN (T.item Y rfl rfl rfl eC i _ s3 σ3 H3 (fun _ _=>False) J3 (stat fr3) st3 go) fun r s4 h_=>?_
    obtain ⟨u,hr,h4⟩:=h_
    subst hr
    refine ZaN h4 fun _ s5 h_=>?_
    obtain ⟨x,H5,J5,r5,y5,st5,fr5⟩:=h_
    have J5':=J5.pinned (stat fr5) (T.obj _ _ st5)
    have go1:=hG _ s5 σ3 H5 x u _ J5' r5 (step x H5 y5)
    rw[eX] at go1
    refine ZaN go1 fun _ s6 h_=>?_
    obtain ⟨σ6,H6,J6,q6⟩:=h_
    have go2:=hT _ s6 σ6 H6 _ J6 q6
    rw[eX] at go2
    refine ZaN go2 fun ok s7 h_=>?_
    obtain ⟨H7,J7,q7⟩:=h_
    have fin:∀{σ8:St} {H8:Hp} {s8:Shared},Inv Y (((D,lobj its3 k3)::pl)++pinsAt fp s5.heap) σ8 H8 s8->
      tn (i + 1) s8.heap/\(∀b∈fp,H8 b=none):=fun {σ8 H8 s8} J8=>by
     refine ⟨T.keep _ _ _ st5 fun b hb o e=>(J8.pin (b,o) (Yg _ (Yg _ (ZaC hb e)))).1,fun b hb=>?_⟩
     obtain ⟨o,e,d⟩:=T.obj _ _ st5 b hb
     exact (J8.pin (b,o) (Yg _ (Yg _ (ZaC hb e)))).2.1
    cases ok with
    | false=>
     rw[if_neg YD] at q7 ⊢
     obtain ⟨m',hm,w7⟩:=hN _ _ _ q7
     exact ⟨m',hm,i + 1,σ6,ys3,its3,k3,H7,J7.unpinned,rv3,(fin J7).1,(fin J7).2,w7⟩
    | true=>
     rw[if_pos rfl] at q7 ⊢
     have go3:=hE _ s7 σ6 H7 _ J7 q7
     rw[eX] at go3
     refine ZaN go3 fun yv s8 h_=>?_
     obtain ⟨y,H8,J8,r8,hlen,n8⟩:=h_
     obtain ⟨m',hm,w8⟩:=hN _ _ _ n8
     have pD8:=J8.pin (D,lobj its3 k3) (Yg _ (YY _ YJ))
     refine append_at (hsz:=by rw[Yn,←rv3.length];exact hlen) pD8.1 fun h9 hs9 hD9=>?_
     have Jp:Inv Y pl σ6 H8 s8:=J8.pins_of fun p hp=>J8.pin p (Yg _ (YY _ (Yz _ hp)))
     have J9:Inv Y pl σ6 H8 { s8 with heap:=h9 }:=Jp.turned (t':=s8.toks) (fun b o hb e=>(hs9.2 b hb).trans e) pD8.2.1 hDl hDe hDc fun p hp=>by
      rcases YU.mp hp with hp | hp
      ·exact hDp p hp
      ·exact hpl p hp
     refine ⟨m',hm,i + 1,σ6,ys3++[y],its3++[yv],k3 + 1,H8,J9.pins_of fun p hp=>?_,Vals.append rv3 (.cons r8 .nil),?_,(fin J8).2,w8⟩
     ·rcases Yl.mp hp with rfl | hp
      ·exact ⟨by show h9.get? D=_;rw[hD9,List.push_toArray],pD8.2.1,hDl,hDf,fun v z=>by cases z⟩
      ·exact J9.pin p (Yg _ hp)
     ·exact T.keep _ _ _ (fin J8).1 fun b hb o e=>(hs9.2 b (fpD b hb)).trans e
  exact Zdl hg loop (T.self _ 0 _ _ _ st loop)
 | cons r rest ih=>
  intro d t i ifs g tt hg hG hT hgs pl J it fp tn ys its k σ H s N R hpl T q I rv st f1 hR
  generalize hz:gens.drop (d + 1)=z at hgs
  cases hgs with
  | @cons t1 i1 ifs1 gs1 wi1 g1 tt1 _ hI1 hG1 hT1 hs1 r1=>
  have hn:gens[d + 1]? = some ⟨t1,i1,ifs1,0⟩:=by
   have:=congrArg (fun l=>l[0]?) hz
   simpa using this
  have hgs2:gens.drop (d + 1 + 1)=gs1:=by
   have:=congrArg (fun l=>l.drop 1) hz
   simpa[List.drop_drop,Nat.add_comm] using this
  obtain ⟨W,⟨m0,w0⟩,turn⟩:=q
  have fpD:∀b∈fp,b≠D:=fun b hb=>XH ((f1 b hb).2.2.2.2.2 (D,lobj its k) (Yg _ YJ))
  have stat:∀{H':Hp} {its':2e5} {k':Nat},8e7->∀b∈fp,FpOk Y ((D,lobj its' k')::pl) H' b:=fun {H' its' k'} hn b hb=>by
   obtain ⟨a0,a1,a2,a3,a4,a5⟩:=f1 b hb
   refine ⟨hn b hb,a1,a2,a3,a4,fun p hp=>?_⟩
   rcases YU.mp hp with hp | hp
   ·exact a5 p (YY _ hp)
   ·rcases Yl.mp hp with rfl | hp
    ·exact XH (fpD b hb)
    ·exact a5 p (Yg _ (Yz _ hp))
  have loop:XT (model Y.prog Y.w) Y.A (.compLoop (.ListComp elt gens scope pos) d (.ref it) (.ref D) Y.env) R s:=by
   refine Zb9 hg (fun P s=>wpAny (model Y.prog Y.w) Y.A (eval i1 Y.env) (fun x s₃=>wpAny (model Y.prog Y.w) Y.A (pyIter x) (fun it' s₄=>
      XT (model Y.prog Y.w) Y.A (.compStart (.ListComp elt gens scope pos) (d + 1) it' (.ref D) Y.env) (fun r s₅=>match r with | .ok _=>P s₅ | .error _=>False) s₄)
      (noted Y.prog Y.w Y.A Y.env R) s₃) (noted Y.prog Y.w Y.A Y.env R) s) (.inr ⟨t1,i1,ifs1,hn,hs1,fun P s h=>h⟩)
    (fun n s'=>∃i σ' ys' its' k' H',Inv Y ((D,lobj its' k')::pl) σ' H' s'/\Vals ys' its'/\tn i s'.heap/\8e7/\W i n σ' ys' H') ?_ m0
    ⟨0,σ,ys,its,k,H,I,rv,st,fun b hb=>(f1 b hb).1,w0⟩
   rintro n s3 ⟨i,σ3,ys3,its3,k3,H3,J3,rv3,st3,fr3,w3⟩
   rcases turn i n σ3 ys3 H3 w3 with ⟨stop,qn⟩ | ⟨go,N1,hN,step⟩
   ·refine ZaN (T.done Y rfl rfl rfl eC i _ s3 σ3 H3 (fun _ _=>False) J3 (stat fr3) st3 stop) fun r s4 h_=>?_
    obtain ⟨hr,J4⟩:=h_
    subst hr
    exact hR σ3 ys3 its3 k3 H3 s4 J4 rv3 qn
   ·refine ZaN (T.item Y rfl rfl rfl eC i _ s3 σ3 H3 (fun _ _=>False) J3 (stat fr3) st3 go) fun r s4 h_=>?_
    obtain ⟨u,hr,h4⟩:=h_
    subst hr
    refine ZaN h4 fun _ s5 h_=>?_
    obtain ⟨x,H5,J5,r5,y5,st5,fr5⟩:=h_
    have J5':=J5.pinned (stat fr5) (T.obj _ _ st5)
    have go1:=hG _ s5 σ3 H5 x u _ J5' r5 (step x H5 y5)
    rw[eX] at go1
    refine ZaN go1 fun _ s6 h_=>?_
    obtain ⟨σ6,H6,J6,q6⟩:=h_
    have go2:=hT _ s6 σ6 H6 _ J6 q6
    rw[eX] at go2
    refine ZaN go2 fun ok s7 h_=>?_
    obtain ⟨H7,J7,q7⟩:=h_
    have fin:∀{its':2e5} {k':Nat} {σ8:St} {H8:Hp} {s8:Shared},Inv Y ((D,lobj its' k')::(pl++pinsAt fp s5.heap)) σ8 H8 s8->
      tn (i + 1) s8.heap/\(∀b∈fp,H8 b=none):=fun {its' k' σ8 H8 s8} J8=>by
     refine ⟨T.keep _ _ _ st5 fun b hb o e=>(J8.pin (b,o) (Yg _ (Yz _ (Yg _ (ZaC hb e))))).1,fun b hb=>?_⟩
     obtain ⟨o,e,d⟩:=T.obj _ _ st5 b hb
     exact (J8.pin (b,o) (Yg _ (Yz _ (Yg _ (ZaC hb e))))).2.1
    have un:∀{its':2e5} {k':Nat} {σ8:St} {H8:Hp} {s8:Shared},Inv Y ((D,lobj its' k')::(pl++pinsAt fp s5.heap)) σ8 H8 s8->Inv Y ((D,lobj its' k')::pl) σ8 H8 s8:=fun {its' k' σ8 H8 s8} J8=>J8.pins_of fun p hp=>J8.pin p (Yg _ (by
     rcases Yl.mp hp with rfl | hp
     ·exact YJ
     ·exact Yz _ (YY _ hp)))
    cases ok with
    | false=>
     rw[if_neg YD] at q7 ⊢
     obtain ⟨m',hm,w7⟩:=hN _ _ _ q7
     exact ⟨m',hm,i + 1,σ6,ys3,its3,k3,H7,un J7,rv3,(fin J7).1,(fin J7).2,w7⟩
    | true=>
     rw[if_pos rfl] at q7 ⊢
     have go3:=hI1 _ s7 σ6 H7 _ J7 q7
     rw[eX] at go3
     refine ZaN go3 fun xv s8 h8=>ZaN h8 fun itv s9 h9=>?_
     obtain ⟨it1,fp1,tn1,J1,H9,e9,J9,T1,st9,f9,q9⟩:=h9
     subst e9
     refine ih (d + 1) t1 i1 ifs1 g1 tt1 hn hG1 hT1 (by rw[hgs2];exact r1) (pl++pinsAt fp s5.heap) J1 it1 fp1 tn1 ys3 its3 k3 σ6 H9 s9 N1 _ (fun p hp=>?_) T1 q9 J9 rv3 st9 f9 fun σ' ys' its' k' H' s' J' rv' n'=>?_
     ·rcases YU.mp hp with hp | hp
      ·exact hpl p hp
      ·exact fpD _ (of_pinsAt hp).1
     ·obtain ⟨m',hm,w'⟩:=hN _ _ _ n'
      exact ⟨m',hm,i + 1,σ',ys',its',k',H',un J',rv',(fin J').1,(fin J').2,w'⟩
  exact Zdl hg loop (T.self _ 0 _ _ _ st loop)
end
section
variable {X:Cx}{tg elt iter:Expr}{ifs:3e2}{gs:List XZ}{scope:Scope}{pos:Pos}{vs fs:4e0}{fr:6e3}{g:TG}{tt:TT}{te:TE}{rest:List GT}
def CompWN (J:It)(vs:4e0)(fr:6e3)(g:TG)(tt:TT)(rest:List GT)(te:TE)(σ:St)(H1:Hp)(Q:VK):Prop:=
 CLoop J g tt rest te [] (stIn vs fr σ) H1 fun _ ys H=>ys.length<=Yr/\∀D,H D=none->Q (.ref D) (upd H D (.lst ys))
theorem comp_blockN {pins:1e6}{σ:St}{H:Hp}{s:Shared}{Q:VK}{it:Addr}{fp:2e2}{tn:Nat->Heap->Prop}{J:It}{RR:Value->Addr->Result->Shared->Prop}
  (S:6e2) (hc:5e2)
  (bG:∀C s₀ H₀ ex pn,PG 1e0 tg g) (bT:∀C s₀ H₀ ex pn,PTs 1e0 ifs tt) (bR:∀C s₀ H₀ ex pn,GensOk 1e0 gs rest) (bE:∀C s₀ H₀ ex pn,PE 1e0 elt te)
  (I:1e7) (T:Turn X.prog X.w X.K tg J fp it tn) (st:tn 0 s.heap) (hf:∀b∈fp,FpOk X pins H b)
  (q:CompWN J vs fr g tt rest te σ H Q)
  (hRR:∀D C H' s' m',Inv X pins σ H' s'->Q (.ref D) H'->s'.heap.Ns C m'->H' C=none->s.heap.objs.size<=C->RR (.ref D) C (.ok .next) s'):
  wpAny 2e0 X.A (newList []) (fun acc s₃=>wpAny 2e0 X.A (newFunctionEnv scope X.env.globals (clFrom X.env.cells scope.names []) [] X.env.qual none .none (some X.env)) (fun cenv s₄=>
   XT (model X.prog X.w) X.A (.compStart (.ListComp elt (⟨tg,iter,ifs,0⟩::gs) scope pos) 0 (.ref it) acc { cenv with scope:=relabel scope X.env }) (RR acc cenv.locals) s₄) X.xe s₃) X.xe s:=by
 refine Xk (Ug S.cell' (by intro y hy;simp at hy) (fun h₁ hns₁ hsb₁=>?_) S.kind)
 dsimp only at hns₁ hsb₁ ⊢
 generalize hH2:s.heap.push { cls:=.type "list",dict:=none,data:=.seq ([]:List Value).toArray }=H2 at hns₁ hsb₁ ⊢
 have hCs:H2.objs.size=s.heap.objs.size + 1:=by rw[←hH2,Vk]
 have hDC:s.heap.objs.size≠H2.objs.size:=by rw[hCs];exact Yt (WQ _)
 have hCle:s.heap.objs.size<=H2.objs.size:=by rw[hCs];exact Yaw _
 have old:∀b o,s.heap.get? b=some o->h₁.get? b=some o:=fun b o e=>hsb₁.extBut b o (Zaw e hCle) (Yb _ (hH2 ▸ Yb _ e))
 have hacc:h₁.get? s.heap.objs.size=some { cls:=.type "list",data:=.seq ([]:List Value).toArray 0 }:=hsb₁.extBut _ _ hDC (Yb _ (hH2 ▸ Ye _ rfl))
 have hfo:∀b∈fp,∃o,s.heap.get? b=some o:=fun b hb=>by obtain ⟨o,e,_⟩:=T.obj 0 _ st b hb;exact ⟨o,e⟩
 generalize hY:CompCx X (vs++fs) scope H2.objs.size s H fp (X.pn++pins)=Y
 have J0:Inv Y [] (stIn vs fr σ) H { s with heap:=h₁,toks:=s.toks + ([]:List (Str×Value)).length }:=by
  rw[←hY];exact Zck S I hf hfo hCle hns₁ old
 have hG:PG Y tg g:=by rw[←hY];exact bG _ _ _ _ _
 have hGs:GensOk Y gs rest:=by rw[←hY];exact bR _ _ _ _ _
 have hT:PTs Y ifs tt:=by rw[←hY];exact bT _ _ _ _ _
 have hE:PE Y elt te:=by rw[←hY];exact bE _ _ _ _ _
 have ePr:Y.prog=X.prog:=by rw[←hY];rfl
 have eW:Y.w=X.w:=by rw[←hY];rfl
 have eK:Y.K=X.K:=by rw[←hY];rfl
 have eA:Y.A=X.A:=by rw[←hY];rfl
 have eC:Y.calm=true:=by rw[←hY];exact hc
 have eEnv:Y.env=Yas scope (clFrom X.env.cells scope.names []) H2.objs.size X.env:=by rw[←hY];rfl
 have eL:Y.env.locals=H2.objs.size:=by rw[eEnv];rfl
 have eX:Y.xe=fun _ _=>False:=by rw[←hY];rfl
 have eS:Y.s₀=s:=by rw[←hY];rfl
 have eEx:Y.ex=fp:=by rw[←hY];rfl
 have eFs:Y.fs=frs X.stack:=by rw[←hY];rfl
 have ePn:Y.pn=X.pn++pins:=by rw[←hY];rfl
 have eCl:∀x c,Y.env.cells.lookup x=some c->X.env.cells.lookup x=some c:=fun x c e=>by
  rw[eEnv] at e;exact S.cl I.ok e
 have cellLt:∀x c,Y.env.cells.lookup x=some c->c≠s.heap.objs.size:=fun x c e=>by
  obtain ⟨v,z⟩:=I.cell x c (eCl x c e);exact Yt z.lt
 have pnLt:∀p∈Y.pn,p.1≠s.heap.objs.size:=fun p hp=>by
  rw[ePn] at hp;exact Zaw (I.pin p hp).1 (Yi _)
 have fpD:∀b∈fp,b≠s.heap.objs.size:=fun b hb=>by obtain ⟨o,e⟩:=hfo b hb;exact Zaw e (Yi _)
 have hDfs:s.heap.objs.size∉Y.fs:=fun z=>by
  rw[eFs] at z
  rcases Yl.mp (I.stkSub _ z) with z | z
  ·exact absurd I.lt (by rw[←z];exact X8 _)
  ·exact I.nofs (Yi _) z
 have stat:∀{H':Hp} {o:Obj},8e7->∀b∈fp,FpOk Y [(s.heap.objs.size,o)] H' b:=fun {H' o} hn b hb=>by
  obtain ⟨f0,f1,f2,f3,f4,f5⟩:=hf b hb
  obtain ⟨ob,e⟩:=hfo b hb
  refine ⟨hn b hb,by rw[eL];exact Zaw e hCle,fun z=>?_,.inl (by rw[eEx];exact hb),fun x c e=>f4 x c (eCl x c e),fun p hp=>?_⟩
  ·rw[eFs] at z
   rcases Yl.mp (I.stkSub _ z) with z | z
   ·exact f1 z
   ·exact f2 z
  ·rcases YU.mp hp with hp | hp
   ·rw[ePn] at hp;exact f5 p hp
   ·have:p=(s.heap.objs.size,o):=by simpa using hp
    rw[this];exact XH (fpD b hb)
 have pinD:∀{σ':St} {H':Hp} {s':Shared} {its:2e5} {k:Nat},Inv Y [] σ' H' s'->H' s.heap.objs.size=none->s'.heap.get? s.heap.objs.size=some { cls:=.type "list",data:=.seq its.toArray k }->
   Inv Y [(s.heap.objs.size,{ cls:=.type "list",data:=.seq its.toArray k })] σ' H' s':=fun {σ' H' s' its k} i hn e=>i.pins_of fun p hp=>by
  have:p=(s.heap.objs.size,{ cls:=.type "list",data:=.seq its.toArray k }):=by simpa using hp
  subst this
  exact ⟨e,hn,by rw[eL];exact hDC,hDfs,fun v z=>by cases z⟩
 have T':Turn Y.prog Y.w Y.K tg J fp it tn:=by rw[ePr,eW,eK];exact T
 have run:∀s₃:Shared,s₃={ s with heap:=h₁,toks:=s.toks + ([]:List (Str×Value)).length }->
   XT 2e0 X.A (.compStart (.ListComp elt (⟨tg,iter,ifs,0⟩::gs) scope pos) 0 (.ref it) 4e5 (Yas scope (clFrom X.env.cells scope.names []) H2.objs.size X.env))
    (RR 4e5 H2.objs.size) s₃:=by
  rintro s₃ rfl
  rw[←eEnv,←ePr,←eW,←eA]
  refine runN (gens:=⟨tg,iter,ifs,0⟩::gs) (D:=s.heap.objs.size) eC eX hE (by rw[eL];exact hDC) hDfs (.inr (by rw[eS];exact Yi _)) cellLt pnLt rest 0 tg iter ifs g tt rfl hG hT hGs [] J it fp tn [] [] 0 (stIn vs fr σ) H _ _ _ (fun p hp=>(nomatch hp)) T' q (pinD J0 (I.hok.fresh (Yi _)) hacc) .nil (T.keep _ _ _ st fun b _ o e=>old b o e) (stat fun b hb=>(hf b hb).1) fun σ' ys its k H3 s4 J4 rv qn=>?_
  have pD4:=J4.pin (s.heap.objs.size,_) (Yg _ (Yk.mpr rfl))
  obtain ⟨m4,hm4,_⟩:=id J4.loc
  rw[eL] at hm4
  have nC:H3 H2.objs.size=none:=by rw[←eL];exact J4.free
  refine hRR _ _ _ s4 m4 (comp_back I hf (by rw[hY];exact J4) (Yi _) pD4.2.1 qn.1 rv pD4.1) (qn.2 _ pD4.2.1) hm4 ?_ hCle
  rw[Zag (XH hDC)];exact nC
 exact run _ rfl
def tCompN (wi:TI)(vs:4e0)(fr:6e3)(g:TG)(tt:TT)(rest:List GT)(te:TE):TE:=fun σ H Q=>wi σ H fun J H1=>CompWN J vs fr g tt rest te σ H1 Q
theorem pe_compN {wi:TI}(S:6e2)(hc:5e2)(hi:PI X tg iter wi)
  (bG:∀C s₀ H₀ ex pn,PG 1e0 tg g) (bT:∀C s₀ H₀ ex pn,PTs 1e0 ifs tt) (bR:∀C s₀ H₀ ex pn,GensOk 1e0 gs rest) (bE:∀C s₀ H₀ ex pn,PE 1e0 elt te)
  (hs:7e7:=by intro _;rfl):
  PE X (.ListComp elt (⟨tg,iter,ifs,0⟩::gs) scope pos) (tCompN wi vs fr g tt rest te):=by
 intro pins s σ H Q I h
 rw[eval_ListComp]
 refine WA (use:=none) rfl hs (ZbF (S.clos I.ok)) S.kind S.loc' (thn (hi pins s σ H _ I h) fun v s1 h1=>thn h1 fun itv s2 h2=>?_)
 obtain ⟨it,fp,tn,J,H2,e,I2,T,st2,f2,q2⟩:=h2
 subst e
 refine comp_blockN (RR:=fun acc C=>compPost 2e0 X.A X.xe none (EP X pins σ Q) acc C) S hc bG bT bR bE I2 T st2 f2 q2 ?_
 intro D C H' s' m' I' hq hn hC hle
 refine ⟨m',hn,fun h' hs'=>⟨.ref D,H',?_,rfl,hq⟩⟩
 refine I'.turned (t':=s'.toks) (fun b o hb e=>(hs'.2 b hb).trans e) hC ?_ (.inr (YQ I2.sz hle)) ?_ ?_
 ·exact X1 (Yo I2.lt hle)
 ·intro x c e
  obtain ⟨v,z⟩:=I2.cell x c e
  exact Yt (Yo z.lt hle)
 ·intro p hp
  exact Zaw (I2.pin p hp).1 hle
end
end L2
namespace Pu
open PySem PySem.Spec PySem.W PySem.Calls L2
open PyProof.Rows hiding St Fr
def Cal (P:Yy)(w:World)(K:W.Frag)(mg:2e6)(base:Heap)(k:Nat)(x:Str)(ps:4e0)(S:Sp):Prop:=∃(f:Addr) (fd:Wh),FnOk P w K mg base CX0 k f fd ps S/\mg x=some (.ref f)/\U3 K (.ref f)=true/\Binds K fd ps []
end Pu
namespace Pu
open PySem PySem.Spec PySem.W PySem.Calls L2
open PyProof.Rows hiding St Fr strKind
open PySem.Builtin.Str (partsBetween occurrences strKind)
def numS (i:Int):Str:=Wn (toString i)
section
variable {X:Cx}{e:Expr}{es:3e2}{f:2e4}{fs:2e1}{p pos:Pos}
def strH:List PV->Option PV
 | [.int i]=>if i.natAbs.log2 < 1920 then some (.str (numS i)) else none
 | [.str y]=>some (.str y)
 | _=>none
def intTH:List PV->Option PV
 | [.str x]=>if x.length<=640 then (PySem.intText? x).map .int else none
 | _=>none
variable {o:Expr}{fo:2e4}{apos cpos:Pos}
def catS:Str->List SV->Option Str
 | out,[]=>some out
 | out,.v (.str y)::r=>if (out++y).length<=1000000 then catS (out++y) r else none
 | _,_=>none
def JM (X:Cx)(es:3e2)(fs:2e1):Prop:=∀(pins:1e6) (s:Shared) (σ:St) (H:Hp) (Q:VK) (out:Str),L2.Inv X pins σ H s->
 (∃ι ρ C xs C' z,SR X.K ι H ρ σ C/\fs ρ C=some (xs,C')/\catS out xs=some z/\out.length<=1000000/\∀H',Pu.Fr ι H H'->CR X.K ι H' C'->Rep X.K ι H' (.str z) (.str z)->Q (.str z) H')->
 wpAny 2e0 X.A (joinParts out (evalEach es X.env)) (EP X pins σ Q) X.xe s
abbrev fdivWP:=intP (fun _ j=>decide (0 < j/\j < 2 ^ 200)) fun i j=>.int (i / j)
theorem op_fdivW:OpR X (Va .FloorDiv) (rI (fun _ j=>0 < j/\j < 2 ^ 200) fun i j=>.int (i / j)):=opI fun i j _ _ _ _ _ hc q=>by
 have h1:(0:Int) < j:=hc.1
 have h2:j < 2 ^ 200:=hc.2
 refine floordiv_int 1e2 (by rw[Int.fdiv_eq_ediv_of_nonneg i 1e2];exact q) (.inl (PyProof.noPylong_of_log2 ?_))
 have:j.natAbs < 2 ^ 200:=by lia
 have h0:j.natAbs≠0:=by lia
 exact UJ ((Nat.log2_lt h0).mpr this) 1e4
end
end Pu
namespace Sn
open PySem PySem.Spec PySem.SetTable Pu L2
open Sem (wp)
mutual
def hashN (w:World):PV->Int
 | .int i=>keyH w (.inl i)
 | .str x=>keyH w (.inr x)
 | .tup ps=>reduceHash (Builtin.Tuple.tupleHashOf (hashNs w ps))
 | _=>0
def hashNs (w:World):List PV->List Int
 | []=>[]
 | p::ps=>hashN w p::hashNs w ps
end
mutual
def drawsN:PV->Nat
 | .tup ps=>drawsNs ps + 1
 | _=>1
def drawsNs:List PV->Nat
 | []=>0
 | p::ps=>drawsN p + drawsNs ps
end
theorem purs_cons {p:PV}{ps:List PV}:purs (p::ps)=true↔pur p=true/\purs ps=true:=by
 rw[purs,Yp]
theorem deps_cons {p:PV}{ps:List PV}{n:Nat}:deps (p::ps)<=n↔dep p<=n/\deps ps<=n:=by
 rw[deps,Nat.max_le]
theorem shape {h:Heap}{p:PV}{v:Value}(hp:pur p=true)(hr:HRep h p v):(V4 v=true/\dep p=0/\∃k:Key,keyIs k v=true/\(∀w,hashN w p=keyH w k)/\drawsN p=1)\/∃ps a us,p=.tup ps/\v=.ref a/\h.IsTuple a us.toArray/\HReps h ps us/\purs ps=true:=by
 cases p with
 | int i=>
  unfold HRep at hr
  obtain ⟨t,rfl⟩:=hr
  exact .inl ⟨rfl,rfl,.inl i,keyIs_int i t,fun w=>rfl,rfl⟩
 | str x=>
  unfold HRep at hr
  obtain ⟨t,rfl⟩:=hr
  exact .inl ⟨rfl,rfl,.inr x,Zc9 x t,fun w=>rfl,rfl⟩
 | tup ps=>
  unfold HRep at hr
  obtain ⟨a,us,rfl,ht,hs⟩:=hr
  unfold pur at hp
  exact .inr ⟨ps,a,us,rfl,rfl,ht,hs,hp⟩
 | _=>simp[pur] at hp
section
variable {prog:Yy}{w:World}{A:Around}{E:1e1}{s:Shared}
theorem each_ok {h:Heap}{n:Nat}:∀{ps:List PV} {us:2e5},HReps h ps us->purs ps=true->deps ps<=n->∀v∈us,∃q,HRep h q v/\pur q=true/\dep q<=n
 | [],us,r,_,_,v,hv=>by rw[HReps] at r;subst r;cases hv
 | p::ps,us,r,x,y,v,hv=>by
  rw[HReps] at r
  obtain ⟨u,us',rfl,r1,r2⟩:=r
  rw[purs_cons] at x
  rw[deps_cons] at y
  cases hv with
  | head=>exact ⟨p,r1,x.1,y.1⟩
  | tail _ hv=>exact each_ok r2 x.2 y.2 v hv
theorem quietN:∀(n:Nat) (p:PV) (v:Value) (Q:4e4),pur p=true->dep p<=n->HRep s.heap p v->Q true s->wpAny 1e9 A (eqIsQuiet n v) Q E s
 | 0,p,v,Q,hp,hd,hr,h=>by
  rcases shape hp hr with ⟨hv,_⟩ | ⟨ps,a,us,rfl,_⟩
  ·rw[eqIsQuiet_byValue _ hv];exact Yc h
  ·rw[dep] at hd;lia
 | n + 1,p,v,Q,hp,hd,hr,h=>by
  rcases shape hp hr with ⟨hv,_⟩ | ⟨ps,a,us,rfl,rfl,ht,hs,hps⟩
  ·rw[eqIsQuiet_byValue _ hv];exact Yc h
  ·obtain ⟨o,b1,b2,c,b3⟩:=id ht
   have ty:s.TypeIs (.ref a) "tuple":=⟨o,b1,b2⟩
   rw[dep] at hd
   rw[eqIsQuiet]
   apply Ya
   refine VQ ty F.slot_tuple_eq.lookup ?_
   refine Ya (m:=isInstance (.ref a) (.type "tuple")) (wpAny_isInstance ty isSubtype_tuple_tuple ?_)
   repeat first
    | refine V7 b1 b3 ?_
    | simp only[VO,Yv,if_false]
    | apply Ya
   rw[←VR]
   refine Se.loop_calm (J:=fun r=>r.1=none) (ok:=fun v=>∃q,HRep s.heap q v/\pur q=true/\dep q<=n) (fun v r Q z j q _=>?_) _ _ _ (each_ok hs hps 1e2) rfl ?_
   ·obtain ⟨x,x1,x2,x3⟩:=z
    apply Ya
    exact quietN n x v _ x2 x3 x1 (Yc (q _ rfl))
   ·rintro ⟨r,u⟩ j
    cases (show r=none from j)
    exact Yc h
theorem oacsN:∀(n:Nat) (p:PV) (v:Value) (Q:4e4),pur p=true->dep p<=n->HRep s.heap p v->Q false s->wpAny 1e9 A (UX n v) Q E s
 | 0,p,v,Q,hp,hd,hr,h=>by
  rcases shape hp hr with ⟨hv,_⟩ | ⟨ps,a,us,rfl,_⟩
  ·rw[Se.oacs_scalar _ hv];exact Yc h
  ·rw[dep] at hd;lia
 | n + 1,p,v,Q,hp,hd,hr,h=>by
  rcases shape hp hr with ⟨hv,_⟩ | ⟨ps,a,us,rfl,rfl,ht,hs,hps⟩
  ·rw[Se.oacs_scalar _ hv];exact Yc h
  ·obtain ⟨o,b1,b2,c,b3⟩:=id ht
   have same:("tuple"=="tuple")=true:=by decide
   rw[dep] at hd
   rw[UX]
   apply Ya
   refine Vz ⟨o,b1,b2⟩ ?_
   simp only[same,if_true]
   repeat first
    | refine V7 b1 b3 ?_
    | simp only[VO,Yv,if_false]
    | apply Yc
    | apply Ya
   rw[←VR]
   refine Se.loop_calm (J:=fun r=>r.1=none) (ok:=fun v=>∃q,HRep s.heap q v/\pur q=true/\dep q<=n) (fun v r Q z j q _=>?_) _ _ _ (each_ok hs hps 1e2) rfl ?_
   ·obtain ⟨x,x1,x2,x3⟩:=z
    apply Ya
    exact oacsN n x v _ x2 x3 x1 (Yc (q _ rfl))
   ·rintro ⟨r,u⟩ j
    cases (show r=none from j)
    exact Yc h
theorem hbvN:∀(n:Nat) (p:PV) (v:Value) (Q:4e4),pur p=true->HRep s.heap p v->(∀b,Q b s)->wpAny 1e9 A (hashByValue n v) Q E s:=by
 intro n
 induction n with
 | zero=>
  intro p v Q hp hr h
  rcases shape hp hr with ⟨hv,_⟩ | ⟨ps,a,us,rfl,rfl,_⟩
  ·obtain ⟨b,e⟩:=Se.hbv_scalar 0 hv
   rw[e];exact Yc (h _)
  ·exact Yc (h _)
 | succ n ih=>
  intro p v Q hp hr h
  rcases shape hp hr with ⟨hv,_⟩ | ⟨ps,a,us,rfl,rfl,ht,hs,hps⟩
  ·obtain ⟨b,e⟩:=Se.hbv_scalar (n + 1) hv
   rw[e];exact Yc (h _)
  ·obtain ⟨o,b1,b2,c,b3⟩:=id ht
   rw[hashByValue]
   apply Ya
   refine VQ (T:="tuple") ⟨o,b1,b2⟩ Ve.lookup ?_
   apply Ya
   refine V7 b1 b3 ?_
   apply Ya
   rw[←VR]
   refine Se.loop_calm (J:=fun _=>True) (ok:=fun v=>∃q,HRep s.heap q v/\pur q=true/\dep q<=deps ps) (fun v r Q z _ q1 q2=>?_) _ _ _ (each_ok hs hps (Yi _)) trivial ?_
   ·obtain ⟨x,x1,x2,_⟩:=z
    apply Ya
    refine ih x v _ x2 x1 fun b=>?_
    cases b
    ·exact Yc (q2 _ trivial)
    ·exact Yc (q1 _ trivial)
   ·rintro ⟨_ | r,u⟩ _
    ·exact Yc (h _)
    ·exact Yc (h _)
end
section
variable {prog:Yy}{w:World}
theorem hash_loop {n:Nat}{A:Around}{E:1e1}{s:Shared}{f:Value->Array Int->Sem (ForInStep (Array Int))}
  (hf:∀x r z (Q:ForInStep (Array Int)->Shared->Prop),wpAny 1e9 A (pyHash x) (fun i z'=>Q (.yield (r.push i)) z') E z->wpAny 1e9 A (f x r) Q E z)
  (one:∀(p:PV) (v:Value) (z:Shared) (Q:Int->Shared->Prop),z.heap=s.heap->pur p=true->dep p<=n->HRep s.heap p v->Q (hashN w p) { z with toks:=z.toks + drawsN p }->wpAny (model prog w) A (pyHash v) Q E z):
  ∀(ps:List PV) (us:2e5) (b:Array Int) (t:Nat) (Q:Array Int->Shared->Prop),HReps s.heap ps us->purs ps=true->deps ps<=n->
   (∀b',b'.toList=b.toList++hashNs w ps->Q b' { s with toks:=t + drawsNs ps })->wpAny (model prog w) A (forIn us b f) Q E { s with toks:=t }
 | [],us,b,t,Q,r,_,_,q=>by
  rw[HReps] at r
  subst r
  rw[List.forIn_nil]
  exact Yc (q b (by rw[hashNs,YL]))
 | p::ps,us,b,t,Q,r,x,y,q=>by
  rw[HReps] at r
  obtain ⟨u,us',rfl,r1,r2⟩:=r
  rw[purs_cons] at x
  rw[deps_cons] at y
  rw[Yah]
  apply Ya
  refine hf _ _ _ _ (one p u _ _ rfl x.1 y.1 r1 (hash_loop hf one ps us' _ _ Q r2 x.2 y.2 fun b' e=>?_))
  have e2:=q b' (by rw[e,hashNs,V0,Yh];rfl)
  rw[drawsNs,←Nat.add_assoc] at e2
  exact e2
theorem pyHashN:∀(n:Nat) (p:PV) (v:Value) (A:Around) (E:1e1) (s:Shared) (Q:Int->Shared->Prop),pur p=true->dep p<=n->HRep s.heap p v->A.units + n < cLine->Q (hashN w p) { s with toks:=s.toks + drawsN p }->wpAny (model prog w) A (pyHash v) Q E s:=by
 intro n
 induction n with
 | zero=>
  intro p v A E s Q hp hd hr hu h
  rcases shape hp hr with ⟨hv,_,k,hk,hh,hdr⟩ | ⟨ps,a,us,rfl,_⟩
  ·rw[hh,hdr] at h
   exact (mixKind prog w).pyHash (k:=k) hk h
  ·rw[dep] at hd;lia
 | succ n ih=>
  intro p v A E s Q hp hd hr hu h
  rcases shape hp hr with ⟨hv,_,k,hk,hh,hdr⟩ | ⟨ps,a,us,rfl,rfl,ht,hs,hps⟩
  ·rw[hh,hdr] at h
   exact (mixKind prog w).pyHash (k:=k) hk h
  ·obtain ⟨o,b1,b2,c,b3⟩:=id ht
   have ty:s.TypeIs (.ref a) "tuple":=⟨o,b1,b2⟩
   have some_:(some (Value.builtin "tuple.__hash__")==some Xu)=false:=by rw[beq_builtin_none]
   rw[dep] at hd
   rw[hashN,drawsN,←Nat.add_assoc] at h
   delta pyHash pyHashByItsType
   dsimp only
   apply Ya
   refine wpAny_cRoomFor_or (.inr 1e2) ?_
   apply Ya
   refine VQ ty Ve.lookup ?_
   simp only[some_,Yv,if_false]
   apply Ya
   refine VQ ty Ve.lookup ?_
   refine Ya (m:=callSpecialIfBoundUnlessNone? (.ref a) "__hash__" _) ?_
   apply wpAny_callSpecialIfBoundUnlessNone?_slot ty Ve
   apply Y7 Ve ty F.entry_tuple_hash _ (F.args_tuple_hash_1 _)
   refine Ya (m:=Vf (.ref a)) (wpAny_tupleItemsOf b1 b3 ?_)
   apply Ya
   rw[←VR]
   refine hash_loop (s:=s) (n:=n) (fun x r z Q y=>Ya (Y5 y (fun i z' y'=>?_) fun _ _ y'=>y')) (fun p v z Q e x1 x2 x3 q=>ih p v _ _ _ _ x1 x2 (by rw[e];exact x3) (by simp[YV];lia) q) ps us #[] s.toks _ hs hps 1e2 fun b' e=>?_
   ·first
     | exact Yc y'
     | exact Ya (Yc (Yc y'))
   ·have e2:b'.toList=hashNs w ps:=e
    dsimp only
    rw[e2]
    refine wpAny_ret_mkInt ?_
    dsimp only
    delta pyHashByItsType.reduced
    rw[reduceHash] at h
    split at h
    ·rename_i in_
     rw[if_pos in_]
     exact Yc h
    ·rename_i out_
     rw[if_neg out_]
     apply Ya
     exact U0 (Yc h)
end
end Sn
namespace Sn
open PySem PySem.Spec PySem.SetTable Pu L2 Se
section
variable {prog:Yy}{w:World}{A:Around}{E:1e1}{s:Shared}
def NK (h:Heap)(p:PV)(a:Addr):Prop:=pur p=true/\dep p<=8/\HRep h p (.ref a)
theorem NK.inj {h:Heap}{p q:PV}{a:Addr}(x:NK h p a)(y:NK h q a):p=q:=HRep.inj p x.2.2 y.2.2
theorem NK.keep {h h':Heap}{p:PV}{a:Addr}(x:NK h p a)(k:∀b u,h.get? b=some u->h'.get? b=some u):NK h' p a:=⟨x.1,x.2.1,HRep.keep k p x.2.2⟩
theorem eqN {x y:PV}{a b:Addr}{Q:4e4}(hu:A.units + 8 < cLine)(hx:NK s.heap x a)(hy:NK s.heap y b)(h1:x=y->Q true s)(h2:x≠y->Q false s):wpAny 1e9 A (eqBool (.ref a) (.ref b)) Q E s:=by
 have hd:=hx.2.1
 refine HRep.eqAt x hx.2.2 hy.2.2 (A:=A) 1e2 prog w E Q ?_
 by_cases e:x=y
 ·rw[(ZaH x hx.1 hy.1).mpr e];exact h1 e
 ·have:eqD x y=false:=by
   cases q:eqD x y with
   | false=>rfl
   | true=>exact absurd ((ZaH x hx.1 hy.1).mp q) e
  rw[this];exact h2 e
theorem seenN {ks:PV}{a:Addr}{stored:2e5}{Q:4e4}(hk:NK s.heap ks a)(hst:∀v∈stored,∃ks' b,v=.ref b/\NK s.heap ks' b)(h:Q false s):
  wpAny 1e9 A (searchCouldBeSeen (.ref a) stored) Q E s:=by
 unfold searchCouldBeSeen
 refine Ya ?_
 refine wpAny_forIn_list _ (fun rest r s'=>s'=s/\r.1=none/\∀v∈rest,∃ks' b,v=.ref b/\NK s.heap ks' b) _ ?_ ?_ _ _ ⟨rfl,rfl,hst⟩
 ·rintro x rest r s' ⟨rfl,hr,hx⟩
  obtain ⟨ks',b,rfl,hb⟩:=hx x YJ
  dsimp only
  split
  ·exact Yc ⟨rfl,rfl,fun v hv=>hx v (Yz _ hv)⟩
  ·refine Ya (quietN 8 _ _ _ hk.1 hk.2.1 hk.2.2 ?_)
   simp only[VO,Yv,if_false]
   refine Ya (quietN 8 _ _ _ hb.1 hb.2.1 hb.2.2 ?_)
   simp only[VO,Yv,if_false]
   refine Ya (oacsN 8 _ _ _ hk.1 hk.2.1 hk.2.2 ?_)
   simp only[Yv,if_false]
   refine Ya (oacsN 8 _ _ _ hb.1 hb.2.1 hb.2.2 ?_)
   simp only[Yv,if_false]
   exact Yc ⟨rfl,rfl,fun v hv=>hx v (Yz _ hv)⟩
 ·rintro ⟨r1,r2⟩ s' ⟨rfl,hr,_⟩
  simp only at hr
  subst hr
  exact Yc h
def Els (w:World)(h:Heap)(es:4e7):Prop:=∀(i:Nat) (e:Int×Value),es[i]? = some e->∃k b,e=(hashN w k,YG b)/\NK h k b
def Unmet (w:World)(h:Heap)(es:4e7)(t:XC)(k:PV)(n:Nat):Prop:=∀m,m < n->∃i,t.slot (it t.mask m 6e7).j=.live i/\∀(u:Int) (b:Addr),es[i]? = some (u,.ref b)->¬NK h k b
theorem searchN {a x:Addr}{o:Obj}{es:4e7}{ep:Nat}{t:XC}{k:PV}{Q:SetFound->Shared->Prop}(hu:A.units + 8 < cLine)(ho:s.heap.get? a=some o)(hd:o.data=.set es ep t)(T:TI t es)(he:Els w s.heap es)(hk:NK s.heap k x)
  (hmet:∀(i:Nat) (u:Int) (b:Addr),es[i]? = some (u,.ref b)->NK s.heap k b->Q (.there none) s)
  (hfree:∀n,t.slot (it t.mask n 6e7).j=.empty->Unmet w s.heap es t k n->Q (.free (it t.mask n 6e7).j false) s):
  ∀(fuel n:Nat) (stand:Option Probe),stand.getD (t.probeStart (hashN w k))=it t.mask n 6e7->(∃N,n<=N/\N < n + fuel/\t.slot (it t.mask N 6e7).j=.empty)->Unmet w s.heap es t k n->
   wpAny 1e9 A (Wq a (.ref x) (hashN w k) true fuel stand) Q E s:=by
 have hf:t.fits es.size=true:=T.fits (Xv T.few)
 intro fuel
 induction fuel with
 | zero=>rintro n stand _ ⟨N,h1,h2,_⟩ _;lia
 | succ fuel ih=>
  intro n stand hs hN hun
  unfold Wq
  refine Ya (Y1 ho hd hf ?_)
  dsimp only
  have hg:t.gaveWay=false:=by
   unfold SetTable.gaveWay
   rw[T.mm.pos.2.2];rfl
  rw[hg]
  simp only[Yv,↓reduceIte]
  rw[hs]
  have w0:Wf t.mask 6e7:=Wf.start _ _
  have wn:=w0.it n
  obtain ⟨j0,hj0,e0⟩:=T.room (WB T.few)
  obtain ⟨c,hc,ec⟩:=wn.meets T.mm hj0
  obtain ⟨m,em,n1,sk,hm⟩:=go_sees (hashAt:=fun i=>(es[i]?.map (·.1)).getD 0) (h:=hashN w k) T.dm (10 * turns t.mask) _ wn ⟨c,hc,by rw[ec];exact e0⟩
  have em:t.probe (fun i=>(es[i]?.map (·.1)).getD 0) (hashN w k) (it t.mask n 6e7)=some m:=em
  have un1:Unmet w s.heap es t k (n + n1):=by
   intro q hq
   by_cases z:q < n
   ·exact hun q z
   ·obtain ⟨i,h1,h2⟩:=sk (q - n) 1e2
    rw[←Zcq,show n + (q - n)=q by lia] at h1
    refine ⟨i,h1,fun u b eb hb=>h2 ?_⟩
    obtain ⟨k',b',e',hb'⟩:=he i _ eb
    cases e'
    dsimp only
    rw[eb]
    show hashN w k'=_
    rw[hb'.inj hb]
  rw[←Zcq] at hm
  generalize hP:t.probe _ (hashN w k) (it t.mask n 6e7)=r
  have hr:r=some m:=hP.symm.trans em
  subst hr
  clear hP
  dsimp only
  rcases hm with ⟨rfl,hm⟩ | ⟨i,rfl,hl,hh⟩
  ·exact Yc (hfree _ hm un1)
  ·dsimp only
   have hpi:=live_slot hl
   have hi:i < es.size:=by
    rw[←T.sz]
    rcases YS i t.place.size with z | z
    ·exact z
    ·rw[YH z] at hpi;cases hpi
   obtain ⟨k',b,ee,hb⟩:=he i _ (Yj hi)
   have ei:es[i]? = some (hashN w k',YG b):=by rw[Yj hi,ee]
   have onward:¬NK s.heap k b->wpAny 1e9 A (Wq a (.ref x) (hashN w k) true fuel (some (it t.mask (n1 + 1) (it t.mask n 6e7)))) Q E s:=by
    intro hne
    obtain ⟨N,h1,h2,h3⟩:=hN
    refine ih (n + n1 + 1) _ ?_ ⟨N,?_,by lia,h3⟩ ?_
    ·show it t.mask (n1 + 1) (it t.mask n 6e7)=_
     rw[←Zcq];rfl
    ·rcases YS (n + n1) N with z | z
     ·exact z
     ·exfalso
      rcases Nat.lt_or_eq_of_le z with z | z
      ·obtain ⟨i',q,_⟩:=un1 N z
       rw[q] at h3;cases h3
      ·subst z;rw[hl] at h3;cases h3
    ·intro q hq
     by_cases z:q < n + n1
     ·exact un1 q z
     ·have:q=n + n1:=by lia
      subst this
      refine ⟨i,hl,fun u b' eb=>?_⟩
      rw[ei] at eb;cases eb;exact hne
   have main:wpAny 1e9 A (match es[i]? with
     | some (fst,y)=>do
      let equal ←U2 [y] (eqBool y (YG x))
      let __x ←setState a
      if (true&&equal)=true then pure (UR none)
       else
        match __x.2.snd.sameMemory t.moves t.mask with
        | some same=>
         match if same=true then __x.2.snd.slot (it t.mask (n + n1) 6e7).j else Slot.empty with
         | Slot.live i'=>
          match __x.fst[i']? with
          | some (fst,y')=>do
           let __do_lift ←isSame y' y
           let still ←pure (if __do_lift=true then some i' else none)
           match still with
            | none=>do
             rule "set.search.anew"
             Wq a (YG x) (hashN w k) true fuel none
            | some i'=>
             if equal=true then pure (UR (some i'))
             else Wq a (YG x) (hashN w k) true fuel (some (it t.mask (n1 + 1) (it t.mask n 6e7)))
          | none=>do
           let still ←pure none
           match still with
            | none=>do
             rule "set.search.anew"
             Wq a (YG x) (hashN w k) true fuel none
            | some i'=>
             if equal=true then pure (UR (some i'))
             else Wq a (YG x) (hashN w k) true fuel (some (it t.mask (n1 + 1) (it t.mask n 6e7)))
         | x_1=>do
          let still ←pure none
          match still with
           | none=>do
            rule "set.search.anew"
            Wq a (YG x) (hashN w k) true fuel none
           | some i'=>
            if equal=true then pure (UR (some i'))
            else Wq a (YG x) (hashN w k) true fuel (some (it t.mask (n1 + 1) (it t.mask n 6e7)))
        | _=>unsupported "set.changed-during-lookup:is-the-new-block-at-the-old-address"
     | _=>unsupported "internal:set-entry") Q E s:=by
    rw[ei]
    dsimp only
    refine Ya (Xa (eqN hu hb hk (fun hq=>?_) (fun hq=>?_)))
    ·refine Ya (Y1 ho hd hf ?_)
     dsimp only
     exact Yc (hmet i _ b ei (hq ▸ hb))
    ·refine Ya (Y1 ho hd hf ?_)
     dsimp only
     have hsm:t.sameMemory t.moves t.mask=some true:=by unfold SetTable.sameMemory;simp
     rw[hsm]
     simp only[UN,Yv,↓reduceIte]
     rw[hl]
     dsimp only
     rw[ei]
     dsimp only
     refine Ya (wpAny_isSame_ref_self ?_)
     refine Ya (Yc ?_)
     simp only[↓reduceIte]
     exact onward fun z=>hq (hb.inj z)
   split
   ·refine Ya (seenN hk (fun v hv=>?_) ?_)
    ·obtain ⟨⟨u,v'⟩,hm1,rfl⟩:=Yw.mp hv
     have hm1:=Wu.mp hm1
     obtain ⟨j,hj,q⟩:=Array.getElem_of_mem (Array.mem_filter.mp hm1).1
     obtain ⟨k2,b2,e2,h2⟩:=he j _ (Yj hj)
     rw[q] at e2;cases e2
     exact ⟨k2,b2,rfl,h2⟩
    ·simp only[Yv,↓reduceIte]
     exact main
   ·exact main
def SetN (w:World)(h:Heap)(a:Addr)(L:Bool)(bs:5e5):Prop:=∃o es ep t,h.get? a=some o/\o.ExactSet/\o.data=.set es ep t/\t.led=L/\TI t es/\(bs.map (·.1)).Nodup/\
 es.toList.Perm (bs.map fun p=>(hashN w p.1,YG p.2))
open Classical in
def insN (bs:5e5)(k:PV)(x:Addr):List (PV×Addr):=if k∈bs.map (·.1) then bs else bs++[(k,x)]
theorem insN_in {bs:5e5}{k:PV}{x:Addr}(h:k∈bs.map (·.1)):insN bs k x=bs:=if_pos h
theorem insN_new {bs:5e5}{k:PV}{x:Addr}(h:k∉bs.map (·.1)):insN bs k x=bs++[(k,x)]:=if_neg h
theorem SetN.at {h h':Heap}{a:Addr}{L:Bool}{bs:5e5}(x:SetN w h a L bs)(g:∀o,h.get? a=some o->h'.get? a=some o):SetN w h' a L bs:=by
 obtain ⟨o,es,ep,t,ho,r⟩:=x
 exact ⟨o,es,ep,t,g _ ho,r⟩
theorem addN {a x:Addr}{k:PV}{bs:5e5}{L:Bool}{Q:4e4}(hu:A.units + 8 < cLine)(hS:SetN w s.heap a L bs)(hbk:∀p∈bs,NK s.heap p.1 p.2)(hk:NK s.heap k x)(hroom:bs.length + 1 < 77)
  (h:∀(b:Bool) h',Xw a s.heap h'->SetN w h' a L (insN bs k x)->Q b { s with heap:=h' }):
  wpAny 1e9 A (setAddHashed a (.ref x) (hashN w k)) Q E s:=by
 obtain ⟨o,es,ep,t,ho,hex,hd,hL,T,nd,hpm⟩:=hS
 have hf:t.fits es.size=true:=T.fits (Xv T.few)
 have hlen:es.size=bs.length:=by rw[←YK,hpm.length_eq];simp
 have he:Els w s.heap es:=fun i e q=>by
  have hm:e∈es.toList:=Wu.mpr (Ub q)
  obtain ⟨p,hp,rfl⟩:=Yw.mp (hpm.mem_iff.mp hm)
  exact ⟨p.1,p.2,rfl,hbk p hp⟩
 unfold setAddHashed setAddHashedIn
 refine Xa (Ya (Y1 ho hd hf ?_))
 dsimp only
 rw[show byScan (YG x) es=false from rfl]
 simp only[Yv,↓reduceIte]
 have stay:k∈bs.map (·.1)->Q false s:=fun hin=>by
  have q:=h false s.heap (Heap.SameBut.refl a s.heap)
  rw[insN_in hin] at q
  exact q ⟨o,es,ep,t,ho,hex,hd,hL,T,nd,hpm⟩
 refine Ya ?_
 unfold setSearch
 obtain ⟨j0,hj0,e0⟩:=T.room (WB T.few)
 obtain ⟨c,hc,ec⟩:=(Wf.start t.mask (hashN w k)).meets T.mm hj0
 refine searchN hu ho hd T he hk (fun i u b eb hb=>?_) (fun n hn hun=>?_) 100000 0 none rfl ⟨c,Y4 _,?_,(congrArg t.slot ec).trans e0⟩ (fun m hm=>absurd hm (Wd _))
 ·-- it is there
  have hm:(u,YG b)∈es.toList:=Wu.mpr (Ub eb)
  obtain ⟨p,hp,q⟩:=Yw.mp (hpm.mem_iff.mp hm)
  cases q
  have:=(hbk p hp).inj hb
  exact Yc (stay (by rw[←this];exact Y6 hp))
 ·-- it is new
  have hnew:k∉bs.map (·.1):=by
   intro hin
   obtain ⟨p,hp,rfl⟩:=Yw.mp hin
   have hm:(hashN w p.1,YG p.2)∈es.toList:=hpm.mem_iff.mpr (Yw.mpr ⟨p,hp,rfl⟩)
   obtain ⟨i,hi,q⟩:=Array.getElem_of_mem (Wu.mp hm)
   have ei:es[i]? = some (hashN w p.1,YG p.2):=by rw[Yj hi,q]
   obtain ⟨j,pj⟩:∃j,t.place[i]? = some j:=⟨_,Yj (by rw[T.sz];exact hi)⟩
   obtain ⟨m,h1,h2⟩:=T.rc i j _ pj ei
   have h1:(it t.mask m (start t.mask (hashN w p.1))).j=j:=h1
   rcases VZ m n with z | z | z
   ·obtain ⟨i',q1,q2⟩:=hun m z
    rw[h1,ZbT T.rs pj] at q1
    cases q1
    exact q2 _ _ ei (hbk p hp)
   ·subst z
    rw[h1,ZbT T.rs pj] at hn;cases hn
   ·obtain ⟨i',q1⟩:=h2 n z
    rw[ZbT T.rs q1] at hn;cases hn
  have hway:∀m,m < n->∃i:Nat,t.place[i]? = some (it t.mask m 6e7).j:=fun m hm=>let ⟨i,q,_⟩:=hun m hm;⟨i,live_slot q⟩
  dsimp only
  refine Ya (Y1 ho hd hf ?_)
  dsimp only
  obtain ⟨t1,p,hput⟩:∃t1 p,t.put (it t.mask n (start t.mask (hashN w k))).j=(t1,p):=⟨_,_,rfl⟩
  obtain ⟨hp,hmk,hld,T1⟩:=T.toT0.put (x:=YG x) (it_lt T.mm n) hn hway t1 p hput
  rw[hput]
  dsimp only
  have tail:∀b:Bool,wpAny 1e9 A (do
    storeSet a (insertAt es p (hashN w k,YG x)) (if b=true then t1 else { t1 with plain:=false })
    if (!false&&(if b=true then t1 else { t1 with plain:=false }).tooFull)=true then do
      setRelay a (V8 (es.size + 1))
      pure true
     else pure true) Q E s:=by
   intro b
   have T2:=T1.plainOff b
   obtain ⟨m1,m2,m3⟩:=mask_off t1 b
   have m4:(if b=true then t1 else { t1 with plain:=false }).led=L:=by rw[←hL,←hld];cases b<;>rfl
   generalize (if b=true then t1 else { t1 with plain:=false })=t2 at T2 m1 m2 m3 m4 ⊢
   have hmk2:t2.mask=t.mask:=m1.trans hmk
   have hz:(insertAt es p (hashN w k,YG x)).size=es.size + 1:=ins_size _ _ _
   have hbig:=T.few
   have hM:=T.mm.pos
   refine Ya (wpAny_storeSet_of ho hd ?_ (by rw[hz,YN];lia))
   have g1:=get_store ho hd (insertAt es p (hashN w k,YG x)) t2
   have sb1:=Y3 s.heap a (Obj.putSet (insertAt es p (hashN w k,YG x)) t2)
   generalize hh1:s.heap.update a (Obj.putSet (insertAt es p (hashN w k,YG x)) t2)=h1 at g1 sb1
   have done_:∀(h':Heap) (es':4e7) (ep':Nat) (t':XC),Xw a s.heap h'->h'.get? a=some { o with data:=.set es' ep' t' }->TI t' es'->t'.led=L->es'.toList.Perm (es.toList++[(hashN w k,YG x)])->Q true { s with heap:=h' }:=by
    intro h' es' ep' t' sb g Ti hl pm
    have q:=h true h' sb
    rw[insN_new hnew] at q
    refine q ⟨_,es',ep',t',g,hex,rfl,hl,Ti,?_,?_⟩
    ·rw[YO,Xm]
     exact ⟨nd,by simp,fun y hy z hz e=>by rw[List.map_singleton,Yk] at hz;subst hz;subst e;exact hnew hy⟩
    ·rw[YO]
     exact pm.trans (hpm.append_right _)
   by_cases hfull:(es.size + 1) * 5 < t2.mask * 3
   ·have:t2.tooFull=false:=by
     unfold SetTable.tooFull SetTable.fill
     rw[T2.dm,T2.sz,hz]
     simp;lia
    rw[this]
    simp only[UN,Yv,↓reduceIte]
    exact Yc (done_ h1 _ _ t2 sb1 g1 ⟨T2,by rw[hz];exact hfull⟩ m4 (perm_ins _ _ _))
   ·have:t2.tooFull=true:=by
     unfold SetTable.tooFull SetTable.fill
     rw[T2.dm,T2.sz,hz]
     simp;lia
    rw[this]
    simp only[Bool.not_false,Bool.and_self,↓reduceIte]
    refine Ya ?_
    unfold setRelay
    have hf2:t2.fits (insertAt es p (hashN w k,YG x)).size=true:=T2.fits (by rw[hz,hmk2];lia)
    have hd1:({ o with data:=.set (insertAt es p (hashN w k,YG x)) (ep + 1) t2 }:Obj).data=.set (insertAt es p (hashN w k,YG x)) (ep + 1) t2:=rfl
    refine Ya (Y1 (s:={ s with heap:=h1 }) g1 hd1 hf2 ?_)
    dsimp only
    obtain ⟨gM,gS⟩:=grown_ok T.mm T.fl (by rw[hmk2] at hfull;exact hfull) (by rw[hlen];exact hroom)
    have hsl:¬UL (V8 (es.size + 1)) > sizeLine:=by
     have:=gM.pos;rw[YN];lia
    rw[if_neg hsl]
    obtain ⟨t',order,e1,e2,e3,e4,_,e6⟩:=laid_ok (mask:=UL (V8 (es.size + 1)) - 1) (finger:=t2.finger) (moves:=t2.movedTo (UL (V8 (es.size + 1)) - 1)) (led:=t2.led) (plain:=t2.plain) gM (insertAt es p (hashN w k,YG x)) (by rw[hz];exact gS)
    have e1:t2.relaid ((insertAt es p (hashN w k,YG x)).map (·.1)) (V8 (es.size + 1))=some (t',order):=e1
    rw[e1]
    refine Ya ?_
    show wpAny _ _ (if ((order.filterMap ((insertAt es p (hashN w k,YG x))[·]?)).size != (insertAt es p (hashN w k,YG x)).size)=true then _ else _) _ _ _
    rw[if_neg (by rw[e2];simp)]
    refine Yc ?_
    dsimp only
    have g2:=get_store g1 hd1 (order.filterMap ((insertAt es p (hashN w k,YG x))[·]?)) t'
    refine wpAny_storeSet_of (s:={ s with heap:=h1 }) g1 hd1 ?_ (by rw[e2,hz,YN];lia)
    exact Yc (done_ _ _ _ t' (sb1.trans (Y3 _ a _)) g2 e4 (e6.trans m4) (e3.trans (perm_ins _ _ _)))
  cases hpl:t1.plain with
  | true=>
   simp only[↓reduceIte]
   refine Ya (hbvN 8 _ _ _ hk.1 hk.2.2 fun b=>?_)
   exact tail b
  | false=>
   simp only[Yv,↓reduceIte]
   refine Ya (Yc ?_)
   exact tail true
 ·have:=T.mm.pos;unfold turns at hc;lia
end
section
variable {prog:Yy}{w:World}{A:Around}{E:1e1}{s:Shared}
theorem new_led (a:Value){Q₁:1e1}
  (h:Q₁ 4e5 { s with heap:=s.heap.push (newSetObj (!w.params.followText "set-order")) }):
  XT 1e9 A (.call (.builtin "set.__new__") ⟨[.type "set",a],[]⟩) (wants Q₁ E) s:=by
 have ask:checkBuiltinCall "set.__new__" ⟨[.type "set",a],[]⟩=pure ():=F.newCall_set_1 a
 have self:=sub_set_self
 apply Yaq
 refine Ya (m:=checkBuiltinCall "set.__new__" ⟨[.type "set",a],[]⟩) ?_
 rw[ask]
 apply Yc
 refine Yc ⟨plainId_quiet F.plain_set_new _,?_⟩
 apply XJ F.entry_set_new
 rw[Wt F.plain_set_new]
 delta Wj.«set.__new__» Builtin.Frozenset.newClass
 cases s
 repeat first
  | exact Yc h
  | assumption
  | refine Wl ?_
  | refine wpAny_alloc ?_
  | with_reducible refine Yc ?_
  | wp_step
theorem callL_ {l:Addr}{items:Array Value}{J:Nat->Heap->Prop}{Q:1e1}(hh:7e8)(src:s.heap.IsList l items\/s.heap.IsTuple l items)
  (j0:∀h',(∀b o,b < s.heap.objs.size->s.heap.get? b=some o->h'.get? b=some o)->h'.get? s.heap.objs.size=some (newSetObj (!w.params.followText "set-order"))->J 0 h')
  (add:∀(A':Around) (i:Nat) (v:Value) (s':Shared) (Q:4e4) (E:1e1),A'.units<=A.units + 8->i < items.size->items[i]? = some v->J i s'.heap->(∀b h' tk,Xw s.heap.objs.size s'.heap h'->J (i + 1) h'->s'.toks<=tk->Q b { s' with heap:=h',toks:=tk })->wpAny (model prog w) A' (setAdd s.heap.objs.size v) Q E s')
  (keep:∀(i:Nat) (h h':Heap),J i h->(∀b o,b≠s.heap.objs.size + 1->h.get? b=some o->h'.get? b=some o)->J i h')
  (h:∀h' tk,J items.size h'->(∀b o,b < s.heap.objs.size->s.heap.get? b=some o->h'.get? b=some o)->Q 4e5 { s with heap:=h',toks:=tk }):
  wpAny 1e9 A (call (.type "set") [.ref l]) Q E s:=by
 obtain ⟨cc,tl,hmro⟩:=XM.mro
 have c1:=XM.made
 have c2:=XM.sub
 refine wpAny_call (Yaq ?_);show wpAny 1e9 _ (callAny (.type "set") _) _ _ _
 refine Yc ⟨VM _ 6e1,XJ PySem.F.entry_type_call ?_⟩;rw[Around.under_plain (weight_type_call_type "set" [.ref l] []) rfl]
 have c3:=XM.notType
 have c4:=XM.canCreate
 have c5:=PySem.F.typeCall_set_1 (.ref l)
 repeat (any_goals (first | assumption | wp_step))
 refine V9 (new_led (.ref l) (E:=E) (Q₁:=fun obj s1=>obj=.ref s.heap.objs.size/\s1={ s with heap:=s.heap.push (newSetObj (!w.params.followText "set-order")) }) ⟨rfl,rfl⟩) fun r s1 hr=>?_
 cases r with
 | error e=>exact hr
 | ok fl=>
  cases fl with
  | ret obj=>
   obtain ⟨rfl,rfl⟩:=hr
   generalize hled:(!w.params.followText "set-order")=led at *
   have g1:(s.heap.push (newSetObj led)).get? s.heap.objs.size=some (newSetObj led):=Ye _ rfl
   have t1:Shared.TypeIs { s with heap:=s.heap.push (newSetObj led) } (.ref s.heap.objs.size) "set":=⟨_,g1,rfl⟩
   have c6:=XM.init.lookup
   have c7:=XM.init.bind 4e5
   repeat (any_goals (first | assumption | wp_step))
   refine V9 (codeAny_call_builtin (R:=wants (fun r s2=>r=.none/\∃h' tk,s2={ s with heap:=h',toks:=tk }/\J items.size h'/\(∀b o,b < s.heap.objs.size->s.heap.get? b=some o->h'.get? b=some o)) E) XM.init.plain PySem.F.entry_set_init (check_set_init_1 t1 ?_)) fun r2 s2 hr2=>?_
   ·refine init_ (g0:=s.heap) (led:=led) (J:=J) (D:=s.heap.objs.size) (by simp[hh]) src rfl j0 (fun A' i v s' Q E hu=>add A' i v s' Q E (by simp[Around.in1] at hu ⊢;lia)) keep rfl fun h' tk j k=>⟨rfl,h',tk,rfl,j,k⟩
   ·cases r2 with
    | error e=>exact hr2
    | ok fl2=>
     cases fl2 with
     | ret r=>
      obtain ⟨rfl,h',tk,rfl,j,k⟩:=hr2
      repeat (any_goals (first | assumption | wp_step))
      exact h _ _ j k
     | _=>exact hr2.elim
  | _=>exact hr.elim
def foldN (l:5e5):List (PV×Addr):=l.foldl (fun bs q=>insN bs q.1 q.2) []
theorem foldN_take {l:5e5}{i:Nat}{q:PV×Addr}(h:l[i]? = some q):foldN (l.take (i + 1))=insN (foldN (l.take i)) q.1 q.2:=by
 unfold foldN
 rw[List.take_add_one,h,List.foldl_append];rfl
theorem insN_len (bs:5e5)(k:PV)(x:Addr):(insN bs k x).length<=bs.length + 1:=by
 unfold insN;split<;>simp
theorem foldN_len (l:5e5):(foldN l).length<=l.length:=by
 have:∀(l acc:5e5),(l.foldl (fun bs q=>insN bs q.1 q.2) acc).length<=acc.length + l.length:=by
  intro l
  induction l with
  | nil=>intro acc;simp
  | cons q l ih=>
   intro acc
   have h1:=ih (insN acc q.1 q.2)
   have h2:=insN_len acc q.1 q.2
   rw[VI,YC];lia
 have h:=this l []
 unfold foldN
 rw[Wz,XO] at h
 exact h
theorem insN_mem {bs:5e5}{k:PV}{x:Addr}{q:PV×Addr}(h:q∈insN bs k x):q∈bs\/q=(k,x):=by
 unfold insN at h
 split at h
 ·exact .inl h
 ·rcases YU.mp h with h | h
  ·exact .inl h
  ·exact .inr (Yk.mp h)
theorem foldN_mem {l:5e5}:∀q∈foldN l,q∈l:=by
 have:∀(l acc:5e5) (q:PV×Addr),q∈l.foldl (fun bs q=>insN bs q.1 q.2) acc->q∈acc\/q∈l:=by
  intro l
  induction l with
  | nil=>intro acc q h;exact .inl h
  | cons r l ih=>
   intro acc q h
   rcases ih _ q h with h | h
   ·rcases insN_mem h with h | rfl
    ·exact .inl h
    ·exact .inr 8e0
   ·exact .inr (.tail _ h)
 intro q h
 rcases this l [] q h with h | h
 ·cases h
 ·exact h
theorem set_nested {l:Addr}{as:2e2}{qs:5e5}{Q:1e1}(hh:7e8)(hu:A.units + 32 < cLine)(src:s.heap.IsList l (as.map YG).toArray\/s.heap.IsTuple l (as.map YG).toArray)(hq:qs.map (·.2)=as)(hk:∀q∈qs,NK s.heap q.1 q.2)(hb:qs.length < 76)
  (h:∀h' tk,SetN w h' s.heap.objs.size (!w.params.followText "set-order") (foldN qs)->(∀b o,s.heap.get? b=some o->h'.get? b=some o)->Q 4e5 { s with heap:=h',toks:=tk }):
  wpAny 1e9 A (call (.type "set") [.ref l]) Q E s:=by
 have hsz:(as.map YG).toArray.size=qs.length:=by rw[Yn,Yf,←hq,Yf]
 refine callL_ (J:=fun i h=>SetN w h s.heap.objs.size (!w.params.followText "set-order") (foldN (qs.take i))/\∀b o,s.heap.get? b=some o->h.get? b=some o) hh src (fun h' old g=>⟨?_,fun b o e=>old b o (Yq e) e⟩) (fun A' i v s' Q E hu' hlt hv j k=>?_) (fun i h1 h2 j k=>⟨j.1.at fun o e=>k _ o (Yt (WQ _)) e,fun b o e=>k b o (Yt (WB (Yq e))) (j.2 b o e)⟩) fun h' tk j k=>?_
 ·exact ⟨_,#[],0,_,g,⟨rfl,rfl,rfl⟩,rfl,rfl,TI.fresh _,by simp[foldN],by simp[foldN]⟩
 ·have hik:i < qs.length:=by rw[←hsz];exact hlt
  obtain ⟨q,eq⟩:∃q,qs[i]? = some q:=⟨_,Yd hik⟩
  have ea:(as.map YG).toArray[i]? = some (.ref q.2):=by
   rw[Wo,Yx,←hq,Yx,eq];rfl
  rw[ea] at hv
  cases hv
  have hm:q∈qs:=YB eq
  have n0:=(hk q hm).keep j.2
  unfold setAdd
  have room:A'.units + 8 < cLine:=by lia
  refine Xa (Ya (pyHashN 8 q.1 (.ref q.2) _ _ _ _ n0.1 n0.2.1 n0.2.2 room ?_))
  have hl:=foldN_len (qs.take i)
  have hl2:(qs.take i).length<=i:=by rw[WP];lia
  refine addN (s:={ s' with toks:=s'.toks + drawsN q.1 }) room j.1 (fun p hp=>(hk p (List.mem_of_mem_take (foldN_mem p hp))).keep j.2) n0 (by lia) fun b h' sb S'=>k b h' _ sb ⟨?_,fun c o e=>?_⟩ (Nat.le_add_right _ _)
  ·rw[foldN_take eq];exact S'
  ·rw[sb.2 c (Yt (Yq e))];exact j.2 c o e
 ·refine h h' tk ?_ j.2
  have j1:=j.1
  rw[hsz,List.take_length] at j1;exact j1
end
end Sn
namespace Pu
open PySem PySem.Spec PySem.W PySem.Calls L2 PySem.SeqAt Se
open PyProof.Rows hiding St Fr
theorem purs_perm {ps ps':List PV}(h:ps'.Perm ps)(e:purs ps=true):purs ps'=true:=by
 have all:∀l:List PV,purs l=l.all pur:=by
  intro l
  induction l with
  | nil=>rfl
  | cons p l ih=>rw[purs,Vb,ih]
 rw[all] at e ⊢
 rw[Za4 h];exact e
theorem sortP_permN {ps ps':List PV}(hp:ps'.Perm ps)(hpu:purs ps=true){qs:List PV}(e:sortP ps=some qs):sortP ps'=some qs:=by
 have e1:=Zbt e
 unfold sortP at e ⊢
 split at e
 ·rename_i hh
  simp only[Yp,decide_eq_true_eq] at hh
  obtain ⟨⟨⟨⟨hd,hde⟩,h64⟩,hso⟩,hcm⟩:=hh
  rw[if_pos ?_]
  ·congr 1
   rw[e1]
   exact sortL_eq (by rw[Zdn hp];exact hcm) (purs_perm hp hpu) (hp.trans (Zbu hcm hpu).symm) (Zbl hcm hpu)
  ·simp only[Yp,decide_eq_true_eq]
   refine ⟨⟨⟨⟨?_,?_⟩,?_⟩,?_⟩,?_⟩
   ·rw[ZcD] at hd ⊢;rw[Za4 hp];exact hd
   ·rw[deps_le] at hde ⊢;exact fun p hq=>hde p (hp.mem_iff.mp hq)
   ·rw[hp.length_eq];exact h64
   ·rw[sortable_perm hp];exact hso
   ·rw[Zdn hp];exact hcm
 ·cases e
theorem reps_prsN {K:W.Frag}{ι:2e2}{H:Hp}:∀{bs:5e5},(∀q∈bs,Rep K ι H q.1 (.ref q.2))->Reps K ι H (bs.map (·.1)) (bs.map fun p=>V.ref p.2)
 | [],_=>.nil
 | p::bs,h=>.cons (h p 8e0) (reps_prsN fun q hq=>h q (.tail _ hq))
theorem bs_valsN:∀(bs:5e5),Vals (bs.map fun p=>V.ref p.2) (bs.map fun p=>YG p.2)
 | []=>.nil
 | p::bs=>.cons rfl (bs_valsN bs)
section
variable {X:Cx}
theorem sorted_setN {ι:2e2}{pins:1e6}{s:Shared}{σ:St}{H:Hp}{D:Addr}{bs:5e5}{qs:List PV}{Q:VK}(hcm:5e2)(hu:5e9)(I:1e7)(SU:Sn.SetN X.w s.heap D (ledOf X) bs)(hf:∀q∈bs,Rep X.K ι H q.1 (.ref q.2))(hpu:purs (bs.map (·.1))=true)(hs:sortP (bs.map (·.1))=some qs)
  (q:∀ws l,Reps X.K ι H qs ws->H l=none->Q (.ref l) (upd H l (.lst ws))):wpAny 2e0 X.A (call (.builtin "sorted") [.ref D]) (EP X pins σ Q) X.xe s:=by
 obtain ⟨o,es,ep,t,ho,hex,hd,hL,TT,nd,hpm⟩:=SU
 have ev:(es.toList.map (·.2)).Perm (bs.map fun p=>YG p.2):=by
  have:=hpm.map (·.2)
  rw[Y9] at this
  exact this
 have hs':∀bs':List (PV×Addr),bs'.Perm bs->sortP (bs'.map (·.1))=some qs:=fun bs' hp=>sortP_permN (hp.map _) hpu hs
 classical
 let ps:List Value->List PV:=fun vs=>if h:∃bs':List (PV×Addr),bs'.Perm bs/\vs=bs'.map (fun p=>YG p.2) then (Classical.choose h).map (·.1) else []
 have key:∀vs,(∃bs':List (PV×Addr),bs'.Perm bs/\vs=bs'.map fun p=>YG p.2)->∃bs':List (PV×Addr),bs'.Perm bs/\vs=(bs'.map fun p=>YG p.2)/\ps vs=bs'.map (·.1):=fun vs h=>by
  refine ⟨Classical.choose h,(Classical.choose_spec h).1,(Classical.choose_spec h).2,?_⟩
  exact dif_pos h
 have all:∀vs,(∃bs':List (PV×Addr),bs'.Perm bs/\vs=bs'.map fun p=>YG p.2)->HReps s.heap (ps vs) vs/\sortable (ps vs)=true/\cmpAll (ps vs)=true/\deps (ps vs)<=40/\(ps vs).length < 64/\(ps vs).length=vs.length/\sortL (ps vs)=qs/\∃ys,Vals ys vs/\Reps X.K ι H (ps vs) ys:=fun vs h=>by
  obtain ⟨bs',hp,e,ep⟩:=key vs h
  have h1:=hs' bs' hp
  have h2:=Zbt h1
  unfold sortP at h1
  split at h1
  ·rename_i hh
   simp only[Yp,decide_eq_true_eq] at hh
   obtain ⟨⟨⟨⟨hd,hde⟩,h64⟩,hso⟩,hcm⟩:=hh
   have rs:Reps X.K ι H (bs'.map (·.1)) (bs'.map fun p=>V.ref p.2):=reps_prsN fun q hq=>hf q (hp.mem_iff.mp hq)
   rw[ep,e]
   refine ⟨Reps.heap I _ rs (bs_valsN bs') hd,hso,hcm,hde,h64,by simp,h2.symm,_,bs_valsN bs',rs⟩
  ·cases h1
 refine sorted_at3 (OKv:=fun vs=>∃bs':List (PV×Addr),bs'.Perm bs/\vs=bs'.map fun p=>YG p.2) (κ:=fun vs=>kindP (ps vs)) (o:=fun vs=>oP (ps vs)) (fun Q' q'=>?_) (fun vs ok=>?_) (fun vs ok h2 h' d tk k Q' q'=>?_) (fun vs ok h2 h' d tk k i j C hi hj hC=>?_) (fun vs D' h' d tk c ok hD k e=>?_)
 ·refine collect_set (I.ok.hd hcm) ⟨o,ho,hex,hd⟩ TT (fun z=>by rw[hL];unfold ledOf;rw[z];rfl) fun h' d tk vs k hle pm=>?_
  obtain ⟨bs',p,e⟩:=perm_map_inv (pm.trans ev) bs rfl
  exact q' h' d tk vs k hle ⟨bs',p,e⟩
 ·obtain ⟨_,_,_,_,h64,hl,_⟩:=all vs ok;lia
 ·obtain ⟨hr,hso,_⟩:=all vs ok
  exact Zc7 (s:={ s with heap:=h',drawn:=d,toks:=tk }) (hr.keep k) h2 hso q'
 ·obtain ⟨hr,hso,hcm',hde,_⟩:=all vs ok
  exact ask_of (s:={ s with heap:=h',drawn:=d,toks:=tk }) (hr.keep k) hso hcm' (by rw[YV,YV];lia) hi hj hC
 ·obtain ⟨hr,hso,hcm',hde,h64,hl,hsl,ys,rv,rs⟩:=all vs ok
  rw[ZbY hl] at e
  have I':Inv X pins σ H { s with drawn:=d }:=⟨I.ok,I.os,I.bare,I.base,I.loc,I.cell,I.free,I.freeC,I.pin,I.hok,I.len⟩
  refine ⟨.ref D',_,I'.laid (t':=tk) k hD (show ObjOk X.prog X.w _ h' _ (.lst (sortV (ps vs) ys)) from ⟨?_,sortU (ps vs) vs,c,?_,e⟩),rfl,q _ _ ?_ (I.hok.fresh hD)⟩
  ·unfold sortV
   rw[Yf]
   have:(perm (ps vs)).length<=64:=by
    unfold perm
    split
    ·rw[Wa];lia
    ·rw[YK,(Zco (o:=oP (ps vs)) (XA (ps vs).length) (Zbk 1e2)).2.1];lia
   exact YQ this (by rw[YN];decide)
  ·exact Zbq rv fun i hi=>by have:=Za6 i hi;lia
  ·rw[←hsl];exact Zbz rs fun i hi=>Za6 i hi
end
def isTup:PV->Bool
 | .tup _=>true
 | _=>false
def putN (acc:List PV)(p:PV):List PV:=if acc.any fun q=>eqD q p then acc else acc++[p]
def dedN (ps:List PV):List PV:=ps.foldl putN []
def inOrdL (ps:List PV):Option 2e9:=if purs ps&&ps.all isTup&&decide (deps ps<=8)&&decide (ps.length < 76) then sortP (dedN ps) else none
def inOrdH (C:Cs):List SV->Option 2e9
 | [x]=>match deref C x with
  | some (.lst ps)=>inOrdL ps
  | _=>none
 | _=>none
def mInOrd (fs:2e1):PSt->M 2e9:=fun ρ=>bnd (fs ρ) fun xs=>opM fun C=>inOrdH C xs
theorem purs_app {as bs:List PV}:purs (as++bs)=true↔purs as=true/\purs bs=true:=by
 induction as with
 | nil=>simp[purs]
 | cons a as ih=>rw[Yac,Sn.purs_cons,Sn.purs_cons,ih,and_assoc]
theorem insN_fst {bs:5e5}{k:PV}{x:Addr}(h:purs (bs.map (·.1))=true)(hk:pur k=true):(Sn.insN bs k x).map (·.1)=putN (bs.map (·.1)) k/\purs ((Sn.insN bs k x).map (·.1))=true:=by
 have hiff:((bs.map (·.1)).any fun q=>eqD q k)=true↔k∈bs.map (·.1):=by
  rw[XD]
  constructor
  ·rintro ⟨q,hq,e⟩
   rw[←(ZaH q (Za0 h q hq) hk).mp e];exact hq
  ·exact fun hq=>⟨k,hq,Za3 hk⟩
 unfold Sn.insN putN
 by_cases q:k∈bs.map (·.1)
 ·rw[if_pos q,if_pos (hiff.mpr q)];exact ⟨rfl,h⟩
 ·rw[if_neg q,if_neg (fun z=>q (hiff.mp z)),YO]
  exact ⟨rfl,purs_app.mpr ⟨h,by rw[List.map_singleton,Sn.purs_cons];exact ⟨hk,rfl⟩⟩⟩
theorem foldN_fst {qs:5e5}(h:purs (qs.map (·.1))=true):(Sn.foldN qs).map (·.1)=dedN (qs.map (·.1))/\purs ((Sn.foldN qs).map (·.1))=true:=by
 have:∀(qs bs:5e5),purs (qs.map (·.1))=true->purs (bs.map (·.1))=true->(qs.foldl (fun bs q=>Sn.insN bs q.1 q.2) bs).map (·.1)=(qs.map (·.1)).foldl putN (bs.map (·.1))/\purs ((qs.foldl (fun bs q=>Sn.insN bs q.1 q.2) bs).map (·.1))=true:=by
  intro qs
  induction qs with
  | nil=>intro bs _ hb;exact ⟨rfl,hb⟩
  | cons q qs ih=>
   intro bs hq hb
   rw[Ym,Sn.purs_cons] at hq
   obtain ⟨e1,e2⟩:=insN_fst (x:=q.2) hb hq.1
   obtain ⟨e3,e4⟩:=ih (Sn.insN bs q.1 q.2) hq.2 e2
   rw[VI,Ym,VI,←e1]
   exact ⟨e3,e4⟩
 exact this qs [] h rfl
theorem refs_of {K:W.Frag}{ι:2e2}{H:Hp}:∀{ps:List PV} {ws:List V},Reps K ι H ps ws->ps.all isTup=true->∃qs:List (PV×Addr),ps=qs.map (·.1)/\ws=qs.map (fun q=>V.ref q.2)/\∀q∈qs,Rep K ι H q.1 (.ref q.2)
 | [],ws,r,_=>by rw[r.inv0];exact ⟨[],rfl,rfl,fun _ h=>(nomatch h)⟩
 | p::ps,ws,r,h=>by
  obtain ⟨v,w,rfl,h1,h2⟩:=r.inv
  rw[Vb,Yp] at h
  obtain ⟨qs,rfl,rfl,hq⟩:=refs_of h2 h.2
  cases p with
  | tup xs=>
   have h1':=h1
   unfold Rep at h1
   obtain ⟨a,vs,rfl,_,_⟩:=h1
   exact ⟨(.tup xs,a)::qs,rfl,rfl,fun q hm=>(Yl.mp hm).elim (fun e=>e ▸ h1') (hq q)⟩
  | _=>cases h.1
theorem ZdH {h:Heap}:∀{qs:5e5},HReps h (qs.map (·.1)) (qs.map fun q=>YG q.2)->∀q∈qs,HRep h q.1 (.ref q.2)
 | [],_,q,hq=>(nomatch hq)
 | p::qs,r,q,hq=>by
  rw[Ym,Ym] at r
  unfold HReps at r
  obtain ⟨v,w,e,h1,h2⟩:=r
  cases e
  rcases Yl.mp hq with rfl | hq
  ·exact h1
  ·exact ZdH h2 q hq
theorem Zdu:∀{qs:5e5} {us:2e5},Vals (qs.map fun q=>V.ref q.2) us->us=qs.map fun q=>YG q.2
 | [],_,.nil=>rfl
 | a::as,_,.cons r t=>by cases (show _=YG a.2 from r);rw[Zdu t];rfl
theorem dats_pur:∀{ps:List PV},purs ps=true->dats ps=true:=by
 have one:∀(n:Nat) (p:PV),dep p<=n->pur p=true->dat p=true:=by
  intro n
  induction n with
  | zero=>
   intro p hd hp
   cases p with
   | tup ps=>unfold dep at hd;lia
   | _=>first | rfl | simp[pur] at hp
  | succ n ih=>
   intro p hd hp
   cases p with
   | tup ps=>
    unfold dep at hd
    unfold pur at hp
    unfold dat
    rw[ZcD,YR]
    intro q hq
    exact ih q ((deps_le ps).mp (Nat.le_of_succ_le_succ hd) q hq) (Za0 hp q hq)
   | _=>first | rfl | simp[pur] at hp
 intro ps h
 rw[ZcD,YR]
 intro q hq
 exact one (dep q) q (Yi _) (Za0 h q hq)
end Pu
namespace Pu
open PySem PySem.Spec PySem.W PySem.Calls L2
open PyProof.Rows hiding St Fr
section
variable {prog:Yy}{w:World}{K:Type} [DecidableEq K]{knd:HeapKind prog w K}{A:Around}{E:1e1}{s:Shared}{d a:Addr}
theorem ZbR {xs:List (K×Addr×Value)}{k:K}{v:Value}{Q:1e1}(hu:knd.room A)(hkey:knd.is s.heap k a)(hm:s.heap.DictOfH knd d xs)
  (h1:∀p,atKey xs k=some p->Q p.2 { s with toks:=s.toks + knd.draws k })
  (h2:atKey xs k=none->∀h',h'.DictOfH knd d (storedH xs k a v)->Xw d s.heap h'->Q v { s with heap:=h',toks:=s.toks + knd.draws k })
  (hsz:xs.length<=Yr):
  wpAny 1e9 A (dictSetDefault d (.ref a) v) Q E s:=by
 obtain ⟨o,es,ep,c1,c2,c3,c4,c5,c6⟩:=hm
 delta dictSetDefault
 try with_reducible apply Xa
 apply Ya
 refine knd.pyHash hu hkey ?_
 apply Ya
 refine wpAny_dictFind_heap (s:={ s with toks:=s.toks + knd.draws k }) hu hkey c1 c3 c4 c5 c6 (fun away=>?_) fun j p at'=>?_
 ·have gone:=atKey_none_of_get away
  have room:es.size<=sizeLine:=by have e:=VN c4;lia
  have one:storedH xs k a v=xs++[(k,a,v)]:=storedH_new gone a v
  apply Ya
  apply U0
  apply Ya
  have both:∀x∈xs++[(k,a,v)],knd.is s.heap x.1 x.2.1:=fun x hx=>(YU.mp hx).elim (c5 x) fun z=>by
   rw[Yk.mp z];exact hkey
  have keys:((xs++[(k,a,v)]).map (·.1)).Nodup:=by
   rw[YO]
   exact Xm.mpr ⟨c6,by simp,fun x hx y hy e=>not_mem_keys_of_get away (by have z:=Yk.mp hy;rw[e,z] at hx;exact hx)⟩
  refine wpAny_updateDictKeys (hz:=by lia) (s:={ s with toks:=s.toks + knd.draws k }) c1 c3 (Yc (h2 gone _ ?_ (Y3 ..)))
  have at':=Xn (Obj.mapDictKeys fun es=>es.push ⟨knd.hash k,.ref a,v⟩) c1 (Obj.isFreed_of_dict (Obj.data_mapDictKeys c3 _))
  refine ⟨_,_,ep + 1,at',c2.mapDictKeys _,Obj.data_mapDictKeys c3 _,?_,?_,?_⟩
  ·rw[one,V0,c4,YO];rfl
  ·rw[one]
   exact fun x hx=>knd.keeps (both x hx) c1 c3 (Y3 ..)
  ·rw[one];exact keys
 ·apply Ya
  refine Vc (s:={ s with toks:=s.toks + knd.draws k }) c1 c3 ?_
  rw[entry_at c4 j,at']
  apply Ya
  exact U0 (Yc (h1 p (atKey_of_get c6 at')))
end
section
variable {prog:Yy}{w:World}{K:Type} [DecidableEq K](knd:HeapKind prog w K)(d a:Addr)
theorem Zcj (hd:(d==XE)=false)(dflt:Value):
  MeetsIn prog w (Wj.«dict.setdefault» ⟨[.ref d,.ref a,dflt],[]⟩) (fun A R s=>knd.room A.in1/\∃k xs,knd.is s.heap k a/\s.heap.DictOfH knd d xs/\xs.length<=Yr/\
   (∀p,atKey xs k=some p->R (.ok (.ret p.2)) { s with toks:=s.toks + knd.draws k })/\
   (atKey xs k=none->∀h',h'.DictOfH knd d (storedH xs k a dflt)->Xw d s.heap h'->R (.ok (.ret dflt)) { s with heap:=h',toks:=s.toks + knd.draws k })):=
 .of_wp fun A R s h_=>by
  obtain ⟨hu,k,xs,hkey,hm,hz,h1,h2⟩:=h_
  delta Wj.«dict.setdefault» Builtin.Dict.keyAndDefault
  apply Ya
  apply Ya
  refine Uc hm.typeIs (Yc ?_)
  simp only[hd,Yv,if_false]
  exact Ya (ZbR hu hkey hm (fun p hp=>Yc ⟨p.2,rfl,h1 p hp⟩) (fun hn h' hm' hs'=>Yc ⟨dflt,rfl,h2 hn h' hm' hs'⟩) hz)
end
def rSetDef:V->List V->Hp->VK->Prop:=fun x vs H Q=>∃a b y kvs k,x=.ref a/\vs=[.ref b,y]/\H a=some (.dT kvs)/\H b=some (.tup (k.map kV))/\kvs.length < Yr/\
 (∀u,valV kvs k=some u->Q u H)/\(valV kvs k=none->Q y (upd H a (.dT (putK kvs k y))))
section
variable {X:Cx}
theorem mt_setdef (hu:5e9):MtR X "dict.setdefault" rSetDef:=by
 intro pins s σ H x vs v us Q I rx rv h
 obtain ⟨a,b,y,kvs,k,rfl,rfl,e,eb,hl,h1,h2⟩:=h
 cases rx
 cases rv with
 | cons r1 r2=>
  cases r1
  obtain ⟨r,rfl,ry⟩:=Vals.one r2
  obtain ⟨z,hd,xs,rel,dd⟩:=dt_of I.hok e
  have hz:xs.length<=sizeLine:=by rw[←Wm rel];exact z
  have hv:=rel.val k
  refine call_meetsIn Um dd.typeIs PySem.F.entry_dict_setdefault (PySem.F.args_dict_setdefault_3 _ _ _) (Zcj (Vh (mixKind X.prog X.w)) a b hd r) ⟨W2 1e2,k,xs,Zc8 I.hok eb,dd,hz,fun p hp=>?_,fun hn h' dd' hs=>?_⟩
  ·rw[hp] at hv
   cases hq:valV kvs k with
   | none=>rw[hq] at hv;exact absurd hv (by simp[RelO])
   | some u=>
    rw[hq] at hv
    exact ⟨u,H,I.tok _,hv,h1 u hq⟩
  ·rw[hn] at hv
   have hq:valV kvs k=none:=by
    cases hq:valV kvs k with
    | none=>rfl
    | some u=>rw[hq] at hv;exact absurd hv (by simp[RelO])
   have hl2:(putK kvs k y).length<=sizeLine:=by have:=ZaU kvs k y;lia
   obtain ⟨q,es,ep,hq1,g2,g3,g4,_,g5⟩:=dd'
   refine ⟨y,upd H a (.dT (putK kvs k y)),Zdi (ob:=.dT (putK kvs k y)) I (by rw[e];exact Uo) hs ⟨q,hq1⟩ ⟨hl2,hd,_,(rel.put k eb ry).keeps fun c ys ec=>?_,q,es,ep,hq1,g2,g3,g4,g5⟩,ry,h2 hq⟩
   rw[Zag (ne_of ec e (fun z=>nomatch z))]
   exact ec
end
def hideC (L:Nat)(ρ:PSt):PSt:=ρ.map fun o=>match o with
 | some (.c k)=>if k < L then some (.c k) else none
 | o=>o
def okC (n L:Nat)(ρ:PSt):Bool:=(match ρ[n]? with
 | some (some (.c k))=>decide (k=L)
 | _=>false)&&(ρ.set n none).all fun o=>match o with
 | some (.c k)=>decide (k < L)
 | _=>true
def addL:List (List Key)->List 2e9->List Key->PV->List 2e9
 | k'::ks,l::ls,k,p=>if k'=k then (l++[p])::ls else l::addL ks ls k p
 | _,_,k,p=>[[p]]
def sdLoop (n L:Nat)(g:2e8)(fk fv:2e4):List PV->PSt->List (List Key)->List 2e9->Option (PSt×List (List Key)×List 2e9)
 | [],ρ,ks,ls=>if okC n L ρ then some (ρ.set n (some (.v (.dtt ks (ls.map .lst)))),ks,ls) else none
 | x::xs,ρ,ks,ls=>match g x ρ with
  | none=>none
  | some ρ1=>match ρ1[n]? with
   | some (some (.c j))=>if j=L then (match fk (hideC 0 ρ1) [] with
    | some (.v (.tup qs),_)=>match keysP qs with
     | some k=>match fv (hideC 0 ρ1) [] with
      | some (.v p,_)=>if pur p&&decide (ks.length < 1000)&&ls.all (fun l=>decide (l.length < 1000)) then sdLoop n L g fk fv xs ρ1 (putKs ks k) (addL ks ls k p) else none
      | _=>none
     | none=>none
    | _=>none) else none
   | _=>none
def mSdl (n:Nat)(it:6e5)(g:2e8)(fk fv:2e4):PSt->M PF:=fun ρ C=>match it (ρ.set n (some (.c C.length))) (C++[.dtt [] []]) with
 | some (xs,D)=>match D.getLast? with
  | some (.dtt [] [])=>match sdLoop n C.length g fk fv xs (ρ.set n (some (.c C.length))) [] [] with
   | some (ρ',_,_)=>some (.nx ρ',D.dropLast)
   | none=>none
  | _=>none
 | none=>none
theorem inK_cons {k k':5e6}{ks:4e2}:inK k (k'::ks)=(decide (k'=k)||inK k ks):=rfl
theorem sd_find:∀(ks:4e2) (qs:2e2) (ls:List 2e9) (k:5e6),ks.length=qs.length->ls.length=qs.length->
  (∃j q l,valV (ks.zip (qs.map V.ref)) k=some (.ref q)/\qs[j]? = some q/\ls[j]? = some l/\inK k ks=true/\∀p,addL ks ls k p=ls.set j (l++[p]))\/
  (valV (ks.zip (qs.map V.ref)) k=none/\inK k ks=false/\∀p,addL ks ls k p=ls++[[p]])
 | [],[],[],k,_,_=>.inr ⟨rfl,rfl,fun p=>rfl⟩
 | [],_::_,_,k,h,_=>by simp at h
 | _::_,[],_,k,h,_=>by simp at h
 | [],[],_::_,k,_,h=>by simp at h
 | _::_,_::_,[],k,_,h=>by simp at h
 | k'::ks,q::qs,l::ls,k,h1,h2=>by
  rw[Ym,Xe,inK_cons]
  by_cases e:k'=k
  ·refine .inl ⟨0,q,l,Zbr (p:=(k',V.ref q)) e,rfl,rfl,by simp[e],fun p=>?_⟩
   unfold addL;rw[if_pos e];rfl
  ·rw[Zbs (p:=(k',V.ref q)) e]
   rcases sd_find ks qs ls k (by simpa using h1) (by simpa using h2) with ⟨j,q',l',a1,a2,a3,a4,a5⟩ | ⟨a1,a2,a3⟩
   ·refine .inl ⟨j + 1,q',l',a1,a2,a3,by rw[a4];simp,fun p=>?_⟩
    unfold addL;rw[if_neg e,a5];rfl
   ·refine .inr ⟨a1,by rw[a2];simp[e],fun p=>?_⟩
    unfold addL;rw[if_neg e,a3];rfl
mutual
theorem rep_pur {K:W.Frag}{ι ι':2e2}{H H':Hp}(ht:∀a vs,H a=some (.tup vs)->H' a=some (.tup vs)):∀(p:PV) {v:V},pur p=true->Rep K ι H p v->Rep K ι' H' p v
 | .int i,v,_,r=>by unfold Rep at r ⊢;exact r
 | .str x,v,_,r=>by unfold Rep at r ⊢;exact r
 | .tup ps,v,hp,r=>by
  unfold Rep at r ⊢
  unfold pur at hp
  obtain ⟨a,vs,rfl,h,rs⟩:=r
  exact ⟨a,vs,rfl,ht a vs h,reps_pur ht ps hp rs⟩
 | .non,v,hp,_=>by simp[pur] at hp
 | .bl _,v,hp,_=>by simp[pur] at hp
 | .lst _,v,hp,_=>by simp[pur] at hp
 | .dct _ _,v,hp,_=>by simp[pur] at hp
 | .dtt _ _,v,hp,_=>by simp[pur] at hp
 | .fn _,v,hp,_=>by simp[pur] at hp
 | .ty _,v,hp,_=>by simp[pur] at hp
theorem reps_pur {K:W.Frag}{ι ι':2e2}{H H':Hp}(ht:∀a vs,H a=some (.tup vs)->H' a=some (.tup vs)):∀(ps:List PV) {vs:List V},purs ps=true->Reps K ι H ps vs->Reps K ι' H' ps vs
 | [],vs,_,r=>by unfold Reps at r ⊢;exact r
 | p::ps,vs,hp,r=>by
  rw[Sn.purs_cons] at hp
  unfold Reps at r ⊢
  obtain ⟨v,w,rfl,h1,h2⟩:=r
  exact ⟨v,w,rfl,rep_pur ht p hp.1 h1,reps_pur ht ps hp.2 h2⟩
end
theorem reps_fn {K:W.Frag}{ι:2e2}{H:Hp}:∀{qs:2e2} {vs:List V},Reps K ι H (qs.map .fn) vs->vs=qs.map V.ref
 | [],vs,r=>r.inv0
 | q::qs,vs,r=>by
  obtain ⟨v,w,rfl,h1,h2⟩:=r.inv
  unfold Rep at h1
  subst h1
  rw[reps_fn h2];rfl
theorem fn_reps {K:W.Frag}{ι:2e2}{H:Hp}:∀(qs:2e2),Reps K ι H (qs.map .fn) (qs.map V.ref)
 | []=>.nil
 | q::qs=>.cons (by unfold Rep;rfl) (fn_reps qs)
section
variable {K:W.Frag}{ι:2e2}{H:Hp}{ρ:PSt}{σ:St}{C:Cs}
theorem SR.vals (sr:SR K ι H ρ σ C):SR K [] H (hideC 0 ρ) σ []:=by
 refine ⟨⟨rfl,.nil,fun k a c h=>by simp at h⟩,by rw[←sr.len];simp[hideC],fun i s e=>?_⟩
 unfold hideC at e
 rw[Yx] at e
 obtain ⟨o,e1,e2⟩:=Xh.mp e
 cases o with
 | none=>cases e2
 | some x=>
  cases x with
  | c k=>simp at e2
  | v p=>
   have e2:some (SV.v p)=some s:=e2
   cases e2
   obtain ⟨v,h1,h2⟩:=sr.loc i _ e1
   exact ⟨v,h1,Rep.tr sr.cr (fun b o _ z=>⟨by simp,z⟩) p v h2⟩
end
section
variable {K:W.Frag}{ι ι':2e2}{H:Hp}{ρ:PSt}{σ:St}{C C1:Cs}{dd:Addr}{qs:2e2}{ks:4e2}{ls:List 2e9}
theorem CellOk.less {a:Addr}{c:PV}(cr:7e2)(h:∀b o,b∉ι->H b=some o->b∉ι'/\H b=some o)(x:CellOk K ι H a c):CellOk K ι' H a c:=by
 cases c with
 | lst ps=>obtain ⟨vs,e,r⟩:=x;exact ⟨vs,e,Reps.tr cr h _ _ r⟩
 | dct k ps=>obtain ⟨q,vs,e,l,z,r⟩:=x;exact ⟨q,vs,e,l,z,Reps.tr cr h _ _ r⟩
 | dtt k ps=>obtain ⟨vs,e,l,r⟩:=x;exact ⟨vs,e,l,Reps.tr cr h _ _ r⟩
 | _=>exact x.elim
theorem reps_idx:∀{ls:List 2e9} {qs:2e2},ls.length=qs.length->(∀(j:Nat) q l,qs[j]? = some q->ls[j]? = some l->Rep K ι H (.lst l) (.ref q))->Reps K ι H (ls.map .lst) (qs.map V.ref)
 | [],[],_,_=>.nil
 | [],_::_,h,_=>by simp at h
 | _::_,[],h,_=>by simp at h
 | l::ls,q::qs,h,f=>.cons (f 0 q l rfl rfl) (reps_idx 7e3 fun j q' l' a b=>f (j + 1) q' l' a b)
theorem at_dd:((ι++[dd])++qs)[ι.length]? = some dd:=by simp
theorem at_q (j:Nat):((ι++[dd])++qs)[ι.length + 1 + j]? = qs[j]?:=by
 rw[YZ 3e0,Yu,W5,show ι.length + 1 + j - (ι.length + 1)=j by lia]
theorem at_c0 {c:PV}{E:List PV}:((C1++[c])++E)[C1.length]? = some c:=by simp
theorem at_c (j:Nat){c:PV}{E:List PV}:((C1++[c])++E)[C1.length + 1 + j]? = E[j]?:=by
 rw[YZ 3e0,Yu,W5,show C1.length + 1 + j - (C1.length + 1)=j by lia]
theorem set_c0 {c c':PV}{E:List PV}:((C1++[c])++E).set C1.length c'=(C1++[c'])++E:=by
 rw[Yh,List.set_append_right _ _ (Yi _),Nat.sub_self,Yh];rfl
theorem set_c (j:Nat){c c':PV}{E:List PV}:((C1++[c])++E).set (C1.length + 1 + j) c'=(C1++[c])++E.set j c':=by
 rw[List.set_append_right _ _ 3e0,Yu,W5,show C1.length + 1 + j - (C1.length + 1)=j by lia]
def SdS (K:W.Frag)(ι:2e2)(C1:Cs)(dd:Addr)(qs:2e2)(ks:4e2)(ls:List 2e9)(H:Hp)(ρ:PSt)(σ:St):Prop:=
 SR K ((ι++[dd])++qs) H ρ σ ((C1++[.dtt ks (qs.map .fn)])++ls.map .lst)
theorem SdS.dict (s:SdS K ι C1 dd qs ks ls H ρ σ)(hL:ι.length=C1.length):H dd=some (.dT (ks.zip (qs.map V.ref)))/\ks.length=qs.length/\ls.length=qs.length:=by
 obtain ⟨vs,e,l,r⟩:=(show CellOk K _ H dd (.dtt ks (qs.map .fn)) from s.cr.ok ι.length dd _ at_dd (by rw[hL];exact at_c0))
 rw[reps_fn r] at e l
 have h:=s.cr.len
 simp at h l
 exact ⟨e,l,by lia⟩
theorem SdS.list (s:SdS K ι C1 dd qs ks ls H ρ σ)(hL:ι.length=C1.length){j:Nat}{q:Addr}{l:List PV}(hq:qs[j]? = some q)(hl:ls[j]? = some l):∃vs,H q=some (.lst vs)/\Reps K ((ι++[dd])++qs) H l vs:=
 s.cr.ok (ι.length + 1 + j) q (.lst l) (by rw[at_q];exact hq) (by rw[hL,at_c,Yx,hl];rfl)
theorem SdS.same {H':Hp}(s:SdS K ι C1 dd qs ks ls H ρ σ)(sm:∀b o,H b=some o->H' b=some o):SdS K ι C1 dd qs ks ls H' ρ σ:=SR.step s (fun b o _ e=>sm b o e) (s.cr.same sm)
theorem SdS.app (s:SdS K ι C1 dd qs ks ls H ρ σ)(hL:ι.length=C1.length){j:Nat}{q:Addr}{l:List PV}{vs:List V}{p:PV}{v:V}(hq:qs[j]? = some q)(hl:ls[j]? = some l)(hH:H q=some (.lst vs))(hp:pur p=true)(r:Rep K [] H p v):SdS K ι C1 dd qs ks (ls.set j (l++[p])) (upd H q (.lst (vs++[v]))) ρ σ:=by
 obtain ⟨vs',e,rs⟩:=s.list hL hq hl
 rw[hH] at e;cases e
 obtain ⟨c,f⟩:=cr_set s.cr (k:=ι.length + 1 + j) (a:=q) (by rw[at_q];exact hq) (rs.append (.cons (rep_pur (fun a vs h=>h) p hp r) .nil))
 rw[hL,set_c,←List.map_set (f:=PV.lst)] at c
 exact SR.step s f c
theorem SdS.new (s:SdS K ι C1 dd qs ks ls H ρ σ)(hL:ι.length=C1.length){l0:Addr}{k:5e6}(h0:H l0=none)(hk:inK k ks=false):SdS K ι C1 dd (qs++[l0]) (putKs ks k) (ls++[[]]) (upd (upd H l0 (.lst [])) dd (.dT (putK (ks.zip (qs.map V.ref)) k (.ref l0)))) ρ σ:=by
 obtain ⟨hd,hl,hl2⟩:=s.dict hL
 have c1:=s.cr.add (p:=l0) (c:=.lst []) (o:=.lst []) h0 ⟨[],Zam,.nil⟩
 have x1:Ex ((ι++[dd])++qs) [l0] H (upd H l0 (.lst [])):=⟨Fr.new h0,fun b hb=>by rw[Yk.mp hb];exact h0⟩
 have s1:=SR.ex s x1 c1
 obtain ⟨z1,z2⟩:=put_zip (k:=k) (v:=V.ref l0) (ks:=ks) (vs:=qs.map V.ref) (by rw[Yf];exact hl)
 have ev:putVs ks (qs.map V.ref) k (V.ref l0)=(qs++[l0]).map V.ref:=by unfold putVs;rw[hk];simp
 rw[ev] at z1 z2
 have c2:=c1.put (k:=ι.length) (a:=dd) (c:=.dtt (putKs ks k) ((qs++[l0]).map .fn)) (o:=.dT (putK (ks.zip (qs.map V.ref)) k (.ref l0))) (by rw[Yh];exact at_dd) ⟨(qs++[l0]).map V.ref,by rw[←z1];exact Zam,z2,fn_reps _⟩
 have f2:Fr ((ι++[dd]++qs)++[l0]) (upd H l0 (.lst [])) (upd (upd H l0 (.lst [])) dd (.dT (putK (ks.zip (qs.map V.ref)) k (.ref l0)))):=fun b u n e=>by
  rw[Zag (fun z=>n (by rw[z];simp))];exact e
 have s2:=SR.step s1 f2 c2
 unfold SdS
 rw[hL,Yh (C1++[_]),set_c0] at s2
 rw[←Yh,YO (f:=PV.lst)]
 exact s2
theorem SdS.give {n:Nat}(s:SdS K ι C1 dd qs ks ls H ρ σ)(hL:ι.length=C1.length)(hok:okC n C1.length ρ=true):SR K ι H (ρ.set n (some (.v (.dtt ks (ls.map .lst))))) σ C1:=by
 obtain ⟨hd,hl,hl2⟩:=s.dict hL
 have nd:=s.cr.nd
 unfold okC at hok
 rw[Yp] at hok
 obtain ⟨hok1,hok2⟩:=hok
 have hnd:ι.Nodup/\dd∉ι:=by
  have h1:=(Xm.mp nd).1
  have h2:=Xm.mp h1
  exact ⟨h2.1,fun z=>h2.2.2 dd z dd 3e0 rfl⟩
 have out:∀b o,b∉(ι++[dd])++qs->H b=some o->b∉ι/\H b=some o:=fun b o n e=>⟨fun z=>n (by simp[z]),e⟩
 have hval:Rep K ι H (.dtt ks (ls.map .lst)) (.ref dd):=by
  unfold Rep
  refine ⟨dd,qs.map V.ref,rfl,hnd.2,.inl hd,by rw[Yf];exact hl,reps_idx hl2 fun j q l hq hl=>?_⟩
  obtain ⟨vs,e,r⟩:=s.list hL hq hl
  unfold Rep
  refine ⟨q,vs,rfl,.inl ⟨fun z=>?_,.inl e⟩,Reps.tr s.cr out _ _ r⟩
  exact (Xm.mp nd).2.2 q (by simp[z]) q (YB hq) rfl
 have hsn:∃v,σ[n]? = some (some v)/\v=.ref dd/\n < ρ.length:=by
  cases hr:ρ[n]? with
  | none=>rw[hr] at hok1;cases hok1
  | some o=>
   have hlt:n < ρ.length:=by
    rcases YS n ρ.length with z | z
    ·exact z
    ·rw[YF.mpr z] at hr;cases hr
   rw[hr] at hok1
   cases o with
   | none=>cases hok1
   | some x=>
    cases x with
    | v p=>cases hok1
    | c k=>
     have hk:k=C1.length:=of_decide_eq_true hok1
     subst hk
     obtain ⟨v,h1,a,h2,h3⟩:=s.loc n _ hr
     rw[←hL,at_dd] at h3
     exact ⟨v,h1,by rw[h2,YI h3],hlt⟩
 obtain ⟨vn,hσ,rfl,hlt⟩:=hsn
 refine ⟨⟨hL,hnd.1,fun k a c h1 h2=>?_⟩,by rw[XB];exact s.len,fun i x e=>?_⟩
 ·have hk:k < C1.length:=by
   rcases YS k C1.length with z | z
   ·exact z
   ·rw[YF.mpr z] at h2;cases h2
  refine CellOk.less s.cr out (s.cr.ok k a c ?_ ?_)
  ·rw[Yh,YE 1e2];exact h1
  ·rw[Yh,YE hk];exact h2
 ·by_cases hi:i=n
  ·subst hi
   rw[Xf hlt] at e
   cases e
   exact ⟨_,hσ,hval⟩
  ·rw[YA (XH hi)] at e
   obtain ⟨v,h1,h2⟩:=s.loc i x e
   refine ⟨v,h1,?_⟩
   cases x with
   | v p=>exact Rep.tr s.cr out p v h2
   | c k=>
    obtain ⟨a,rfl,ha⟩:=h2
    refine ⟨a,rfl,?_⟩
    have hm:some (SV.c k)∈ρ.set n none:=by
     refine YB (i:=i) ?_
     rw[YA (XH hi)];exact e
    have hk:k < C1.length:=of_decide_eq_true (YR.mp hok2 _ hm)
    rw[Yh,YE 1e2] at ha
    exact ha
end
abbrev MG:=(PSt->M 2e9)×(PV->PSt->Option PSt)×(PSt->M Bool)
def cLoop (g:2e8)(tt:3e8)(f:PSt->List PV->M (PSt×List PV)):List PV->PSt->List PV->M (PSt×List PV)
 | [],ρ,ys=>ret (ρ,ys)
 | x::xs,ρ,ys=>match g x ρ with
  | none=>fun _=>none
  | some ρ1=>bnd (tt ρ1) fun b=>if b then bnd (f ρ1 ys) fun r=>cLoop g tt f xs r.1 r.2 else cLoop g tt f xs ρ1 ys
def cBody (te:2e4):List MG->PSt->List PV->M (PSt×List PV)
  | [],ρ,ys=>bnd (te ρ) fun y=>match y with
    | .v p=>if ys.length < 100000 then ret (ρ,ys++[p]) else fun _=>none
    | .c _=>fun _=>none
  | (it,g,tt)::rest,ρ,ys=>bnd (it ρ) fun xs=>cLoop g tt (cBody te rest) xs ρ ys
def mCompN (it:6e5)(vs:4e0)(fr:6e3)(g:2e8)(tt:3e8)(rest:List MG)(te:2e4):PSt->M 2e9:=fun ρ=>bnd (it ρ) fun xs=>bnd (cLoop g tt (cBody te rest) xs (stIn' vs fr ρ) []) fun r=>ret r.2
def gtOf (K:W.Frag)(m:MG):GT:=(tMI K m.1,tMG K m.2.1,tMB K m.2.2)
section
variable {K:W.Frag}{ι:2e2}
def NOk (K:W.Frag)(ι:2e2)(H0:Hp)(ρ:PSt)(ps:List PV)(C:Cs)(σ:St)(ys:List V)(H:Hp):Prop:=Fr ι H0 H/\SR K ι H ρ σ C/\Reps K ι H ps ys/\ps.length<=100000
theorem ZbG {g:2e8}{tt:3e8}{te:TE}{rest:List GT}{f:PSt->List PV->M (PSt×List PV)}
  (hf:∀(ρ:PSt) (ps:List PV) (C:Cs) (ρ':PSt) (ps':List PV) (C':Cs) (σ:St) (ys:List V) (H:Hp) (N:St->List V->Hp->Prop),f ρ ps C=some ((ρ',ps'),C')->SR K ι H ρ σ C->Reps K ι H ps ys->ps.length<=100000->(∀σ' ys' H',NOk K ι H ρ' ps' C' σ' ys' H'->N σ' ys' H')->CBody te rest ys σ H N)
  {J:It} {xs:List PV} {H1:Hp} {C C':Cs} {ρ ρ':PSt} {ps ps':List PV} {σ:St} {ys:List V} {N:St->List V->Hp->Prop} (it1:Iter K ι H1 xs J) (sr:SR K ι H1 ρ σ C) (rs:Reps K ι H1 ps ys) (hl:ps.length<=100000)
  (e:cLoop g tt f xs ρ ps C=some ((ρ',ps'),C')) (hN:∀σ' ys' H',NOk K ι H1 ρ' ps' C' σ' ys' H'->N σ' ys' H'):CLoop J (tMG K g) (tMB K tt) rest te ys σ H1 N:=by
 have x0:∀{H2:Hp},Fr ι H1 H2->Ex ι [] H1 H2:=fun f=>Ex.fr f
 have c0:∀{H2:Hp} {C2:Cs},CR K ι H2 C2->CR K (ι++[]) H2 C2:=fun c=>by rw[YL];exact c
 refine ⟨fun i m σ2 ys2 H2=>∃ρ2 C2 ps2,m=xs.length - i/\i<=xs.length/\NOk K ι H1 ρ2 ps2 C2 σ2 ys2 H2/\cLoop g tt f (xs.drop i) ρ2 ps2 C2=some ((ρ',ps'),C'),⟨xs.length,ρ,C,ps,rfl,Y4 _,⟨.refl,sr,rs,hl⟩,e⟩,?_⟩
 rintro i m σ2 ys2 H2 ⟨ρ2,C2,ps2,rfl,hi2,⟨f2,sr2,rs2,hps⟩,e2⟩
 rcases YS i xs.length with hlt | hge
 ·right
  refine ⟨it1.go [] H2 C2 (x0 f2) (c0 sr2.cr) i hlt,fun σ' ys' H'=>∃ρ2 C2 ps2,NOk K ι H1 ρ2 ps2 C2 σ' ys' H'/\cLoop g tt f (xs.drop (i + 1)) ρ2 ps2 C2=some ((ρ',ps'),C'),?_,?_⟩
  ·rintro σ' ys' H' ⟨ρ3,C3,ps3,n3,e3⟩
   exact ⟨xs.length - (i + 1),by lia,ρ3,C3,ps3,rfl,hlt,n3,e3⟩
  ·intro v H3 y
   obtain ⟨sm,qv,hq,rq⟩:=it1.yld [] H2 C2 (x0 f2) (c0 sr2.cr) i v H3 hlt y
   rw[YL] at rq
   have hd:xs.drop i=qv::xs.drop (i + 1):=by
    rw[Xr hlt]
    rw[Yd hlt] at hq
    rw[YI hq]
   rw[hd] at e2
   unfold cLoop at e2
   cases hg1:g qv ρ2 with
   | none=>rw[hg1] at e2;cases e2
   | some ρ3=>
    rw[hg1] at e2
    obtain ⟨b,C3,e3,e4⟩:=Zae e2
    have fr3:Fr ι H2 H3:=fun b o _ z=>sm b o z
    have cr3:CR K ι H3 C2:=sr2.cr.same sm
    refine ⟨ι,ρ2,C2,qv,ρ3,sr2.step fr3 cr3,rq,hg1,fun σ4 sr4=>⟨ι,ρ3,C2,b,C3,sr4,e3,fun H5 f5 c5=>?_⟩⟩
    have f15:=f2.trans (fr3.trans f5)
    have rs5:Reps K ι H5 ps2 ys2:=Reps.mono cr3 f5 _ _ (Reps.mono sr2.cr fr3 _ _ rs2)
    have sr5:=sr4.step f5 c5
    cases b with
    | true=>
     rw[if_pos rfl] at e4
     dsimp only
     rw[if_pos rfl]
     obtain ⟨⟨ρ6,ps6⟩,C6,e6,e7⟩:=Zae e4
     exact hf _ _ _ _ _ _ _ _ _ _ e6 sr5 rs5 hps fun σ' ys' H' n'=>⟨ρ6,C6,ps6,⟨f15.trans n'.1,n'.2⟩,e7⟩
    | false=>
     rw[if_neg YD] at e4
     dsimp only
     rw[if_neg YD]
     exact ⟨ρ3,C3,ps2,⟨f15,sr5,rs5,hps⟩,e4⟩
 ·left
  have hi3:i=xs.length:=by lia
  subst hi3
  rw[WR] at e2
  unfold cLoop at e2
  have e2':some ((ρ2,ps2),C2)=some ((ρ',ps'),C'):=e2
  simp only[Option.some.injEq,Prod.mk.injEq] at e2'
  obtain ⟨⟨rfl,rfl⟩,rfl⟩:=e2'
  exact ⟨it1.stop [] H2 _ (x0 f2) (c0 sr2.cr),hN σ2 ys2 H2 ⟨f2,sr2,rs2,hps⟩⟩
theorem ZbH {te:2e4}:∀(rest:List MG) (ρ:PSt) (ps:List PV) (C:Cs) (ρ':PSt) (ps':List PV) (C':Cs) (σ:St) (ys:List V) (H:Hp) (N:St->List V->Hp->Prop),cBody te rest ρ ps C=some ((ρ',ps'),C')->SR K ι H ρ σ C->Reps K ι H ps ys->ps.length<=100000->(∀σ' ys' H',NOk K ι H ρ' ps' C' σ' ys' H'->N σ' ys' H')->CBody (tM K te) (rest.map (gtOf K)) ys σ H N
  | [],ρ,ps,C,ρ',ps',C',σ,ys,H,N,e,sr,rs,hl,hN=>by
    unfold cBody at e
    obtain ⟨y,C1,e1,e2⟩:=Zae e
    refine ⟨ι,ρ,C,y,C1,sr,e1,fun v H1 f1 c1 r1=>?_⟩
    cases y with
    | c k=>cases e2
    | v p=>
      by_cases hz:ps.length < 100000
      · replace e2:(if ps.length < 100000 then ret (ρ,ps++[p]) else fun _=>none) C1=some ((ρ',ps'),C'):=e2
        rw[if_pos hz] at e2
        cases e2
        exact ⟨by rw[←rs.length];exact k100000 hl,hN _ _ _ ⟨f1,sr.step f1 c1,(Reps.mono sr.cr f1 _ _ rs).append (.cons r1 .nil),by rw[Yu];simp;lia⟩⟩
      · replace e2:(if ps.length < 100000 then ret (ρ,ps++[p]) else fun _=>none) C1=some ((ρ',ps'),C'):=e2
        rw[if_neg hz] at e2;cases e2
  | (it,g,tt)::rest,ρ,ps,C,ρ',ps',C',σ,ys,H,N,e,sr,rs,hl,hN=>by
    unfold cBody at e
    obtain ⟨xs,C1,e1,e2⟩:=Zae e
    refine ⟨ι,ρ,C,xs,C1,sr,e1,fun J H1 f1 c1 it1=>?_⟩
    exact ZbG (ZbH rest) it1 (sr.step f1 c1) (Reps.mono sr.cr f1 _ _ rs) hl e2 fun σ' ys' H' n'=>hN σ' ys' H' ⟨f1.trans n'.1,n'.2⟩
end
inductive GsM (Y:Cx):List XZ->List MG->Prop
 | nil:GsM Y [] []
 | cons {t i:Expr} {ifs:List Expr} {gs:List XZ} {it:PSt->M (List PV)} {g:PV->PSt->Option PSt} {tt:PSt->M Bool} {rs:List MG} (hI:IM Y t i it) (hG:GM Y t g) (hT:TsM Y ifs tt) (hs:∀x,YX i Y.env x=pure x) (r:GsM Y gs rs):GsM Y (⟨t,i,ifs,0⟩::gs) ((it,g,tt)::rs)
theorem gs_nil {Y:Cx}:GsM Y [] []:=.nil
theorem GsM.ok {Y:Cx}{gs:List XZ}{rs:List MG}(h:GsM Y gs rs):GensOk Y gs (rs.map (gtOf Y.K)):=by
 induction h with
 | nil=>exact .nil
 | cons hI hG hT hs _ ih=>exact .cons hI hG hT hs ih
def NF (X:Cx)(d:Addr):Prop:=∀o u,X.H₀ d≠some (.frz o u)
theorem upd_comm {H:Hp}{a b:Addr}{x y:HO}(h:a≠b):upd (upd H a x) b y=upd (upd H b y) a x:=by
 funext c
 unfold upd
 by_cases h1:c=b
 ·by_cases h2:c=a
  ·exact absurd (h2.symm.trans h1) h
  ·simp[h1,h2,XH h]
 ·simp[h1]
section
variable {X:Cx}{pins:1e6}{σ:St}{H:Hp}{s:Shared}{d:Addr}{kvs:5e4}{ob:Obj}
theorem inv_re {o o':HO}(I:1e7)(h1:H d=some o)(n1:∀xs,o≠.tup xs)(n2:∀y,o≠.own y)(n3:∀ps,o≠.tbl ps)(hz:∀ob u,X.H₀ d=some (.frz ob u)->o'=.frz ob u)(new:ObjOk X.prog X.w (upd H d o') s.heap d o'):Inv X pins σ (upd H d o') s:=by
 have ne:∀b u,H b=some u->u≠o->b≠d:=fun b u e n z=>by subst z;rw[h1] at e;exact n (YI e).symm
 have nn:∀b,H b=none->b≠d:=fun b e z=>by subst z;rw[h1] at e;cases e
 refine ⟨I.ok,I.os,I.bare,⟨I.base.keep,I.base.slot,fun b u q n hx=>?_,I.base.there,fun b xs e=>?_,fun b u v e=>?_,fun b ps e=>?_⟩,I.loc,I.cell,?_,fun x c e=>?_,fun p hp=>?_,fun b u q=>?_,I.len⟩
 ·have:=I.base.free b u q n hx
  rw[Zag (nn b this)];exact this
 ·have:=I.base.tups b xs e
  rw[Zag (ne b _ this fun z=>n1 xs z.symm)];exact this
 ·by_cases z:b=d
  ·subst z;rw[Zam,hz u v e]
  ·rw[Zag z];exact I.base.frzs b u v e
 ·obtain ⟨m,this⟩:=I.base.tbls b ps e
  exact ⟨m,by rw[Zag (ne b _ this fun z=>n3 _ z.symm)];exact this⟩
 ·rw[Zag (nn _ I.free)];exact I.free
 ·have:=I.freeC x c e
  rw[Zag (nn _ this)];exact this
 ·obtain ⟨a1,a2,a3⟩:=I.pin p hp
  exact ⟨a1,by rw[Zag (nn _ a2)];exact a2,a3⟩
 ·by_cases z:b=d
  ·subst z;rw[Zam] at q;cases q;exact new
  ·rw[Zag z] at q
   exact (I.hok b u q).stay (fun c v _ r=>r) (fun c r=>by rw[Zag (ne c _ r fun z=>n2 _ z.symm)];exact r) fun c xs r=>by rw[Zag (ne c _ r fun z=>n1 xs z.symm)];exact r
theorem objok_re {o o':HO}{u:HO}{h:Heap}(h1:H d=some o)(n1:∀xs,o≠.tup xs)(n2:∀y,o≠.own y)(x:ObjOk X.prog X.w H h d u):ObjOk X.prog X.w (upd H d o') h d u:=
 x.stay (fun c v _ r=>r) (fun c r=>by rw[Zag (fun z=>by subst z;rw[h1] at r;cases r;exact n2 _ rfl)];exact r) fun c xs r=>by rw[Zag (fun z=>by subst z;rw[h1] at r;cases r;exact n1 _ rfl)];exact r
theorem inv_freeze (I:1e7)(hd:H d=some (.dT kvs)):∃ob,s.heap.get? d=some ob/\NF X d/\Inv X pins σ (upd H d 4e8) s:=by
 have ok:=(show ObjOk X.prog X.w H s.heap d (.dT kvs) from I.hok d _ hd)
 obtain ⟨_,_,_,_,ob,es,ep,hg,_⟩:=id ok
 have nf:NF X d:=fun o u e=>by
  have:=I.base.frzs d o u e
  rw[hd] at this;cases this
 refine ⟨ob,hg,nf,inv_re I hd (fun _ z=>nomatch z) (fun _ z=>nomatch z) (fun _ z=>nomatch z) (fun o u e=>absurd e (nf o u)) ⟨hg,objok_re hd (fun _ z=>nomatch z) (fun _ z=>nomatch z) ok⟩⟩
theorem Zb3 (I:1e7)(hd:H d=some 4e8)(nf:NF X d):Inv X pins σ (upd H d (.dT kvs)) s:=by
 have ok:=(show ObjOk X.prog X.w H s.heap d 4e8 from I.hok d _ hd)
 exact inv_re I hd (fun _ z=>nomatch z) (fun _ z=>nomatch z) (fun _ z=>nomatch z) (fun o u e=>absurd e (nf o u)) (objok_re (u:=.dT kvs) hd (fun _ z=>nomatch z) (fun _ z=>nomatch z) ok.2)
end
def thw (X:Cx){α:Type}(Q:α->Hp->Prop):α->Hp->Prop:=fun v H=>Q v H\/∃d ob kvs,H d=some 4e8/\NF X d/\Q v (upd H d (.dT kvs))
def thwD (X:Cx)(D:Ends):Ends:={ nx:=thw X D.nx,rt:=thw X D.rt,bk:=thw X D.bk,ct:=thw X D.ct }
section
variable {X:Cx}
theorem PE.thaw {e:Expr}{t:TE}(h:PE X e t):PE X e fun σ H Q=>t σ H (thw X Q):=fun pins s σ H Q I q=>thn (h pins s σ H _ I q) fun v s1 h_=>by
 obtain ⟨x,H1,I1,r1,q1⟩:=h_
 rcases q1 with q1 | ⟨d,ob,kvs,hd,nf,q1⟩
 ·exact ⟨x,H1,I1,r1,q1⟩
 ·exact ⟨x,_,Zb3 I1 hd nf,r1,q1⟩
theorem PS.thaw {st:Stmt}{t:TS}(h:PS X st t):PS X st fun D σ H=>t (thwD X D) σ H:=fun pins s σ H D I q=>thn (h pins s σ H _ I q) fun f s1 q1=>by
 cases f with
 | next=>
  obtain ⟨σ1,H1,I1,q1 | ⟨d,ob,kvs,hd,nf,q1⟩⟩:=q1
  ·exact ⟨σ1,H1,I1,q1⟩
  ·exact ⟨σ1,_,Zb3 I1 hd nf,q1⟩
 | brk=>
  obtain ⟨σ1,H1,I1,q1 | ⟨d,ob,kvs,hd,nf,q1⟩⟩:=q1
  ·exact ⟨σ1,H1,I1,q1⟩
  ·exact ⟨σ1,_,Zb3 I1 hd nf,q1⟩
 | cont=>
  obtain ⟨σ1,H1,I1,q1 | ⟨d,ob,kvs,hd,nf,q1⟩⟩:=q1
  ·exact ⟨σ1,H1,I1,q1⟩
  ·exact ⟨σ1,_,Zb3 I1 hd nf,q1⟩
 | ret u=>
  obtain ⟨v,σ1,H1,I1,r1,q1 | ⟨d,ob,kvs,hd,nf,q1⟩⟩:=q1
  ·exact ⟨v,σ1,H1,I1,r1,q1⟩
  ·exact ⟨v,σ1,_,Zb3 I1 hd nf,r1,q1⟩
end
structure Sw (H H':Hp)(d:Addr):Prop where
 tup:∀a vs,H a=some (.tup vs)->H' a=some (.tup vs)
 lst:∀a vs,Rd H a (.lst vs)->Rd H' a (.lst vs)
 dk:∀a kvs,H a=some (.dK kvs)->H' a=some (.dK kvs)
 dt:∀a kvs,Rd H a (.dT kvs)->Rd H' a (.dT kvs)
 oth:∀a,a≠d->H' a=H a
section
variable {K:W.Frag}{ι:2e2}{H H':Hp}{d:Addr}
mutual
theorem Rep.sw (s:Sw H H' d):∀(p:PV) (v:V),Rep K ι H p v->Rep K ι H' p v
 | .non,v,q=>by unfold Rep at q ⊢;exact q
 | .bl b,v,q=>by unfold Rep at q ⊢;exact q
 | .int i,v,q=>by unfold Rep at q ⊢;exact q
 | .str x,v,q=>by unfold Rep at q ⊢;exact q
 | .tup ps,v,q=>by
  unfold Rep at q ⊢
  obtain ⟨a,vs,e,h,r⟩:=q
  exact ⟨a,vs,e,s.tup a vs h,Reps.sw s ps vs r⟩
 | .lst ps,v,q=>by
  unfold Rep at q ⊢
  obtain ⟨a,vs,e,h,r⟩:=q
  refine ⟨a,vs,e,?_,Reps.sw s ps vs r⟩
  rcases h with ⟨n,h⟩ | h
  ·exact .inl ⟨n,s.lst a vs h⟩
  ·exact .inr h
 | .dct ks ps,v,q=>by
  unfold Rep at q ⊢
  obtain ⟨a,qs,vs,e,n,hd,hl,hk,r⟩:=q
  exact ⟨a,qs,vs,e,n,s.dk a _ hd,hl,hk,Reps.sw s ps vs r⟩
 | .dtt ks ps,v,q=>by
  unfold Rep at q ⊢
  obtain ⟨a,vs,e,n,hd,hl,r⟩:=q
  exact ⟨a,vs,e,n,s.dt a _ hd,hl,Reps.sw s ps vs r⟩
 | .fn a,v,q=>by unfold Rep at q ⊢;exact q
 | .ty n,v,q=>by unfold Rep at q ⊢;exact q
theorem Reps.sw (s:Sw H H' d):∀(ps:List PV) (vs:List V),Reps K ι H ps vs->Reps K ι H' ps vs
 | [],vs,q=>by unfold Reps at q ⊢;exact q
 | p::ps,vs,q=>by
  unfold Reps at q ⊢
  obtain ⟨v,w,e,h1,h2⟩:=q
  exact ⟨v,w,e,Rep.sw s p v h1,Reps.sw s ps w h2⟩
end
theorem RepS.sw (s:Sw H H' d){x:SV}{v:V}(h:RepS K ι H x v):RepS K ι H' x v:=by
 cases x with
 | v p=>exact Rep.sw s p v h
 | c k=>exact h
theorem RepSs.sw (s:Sw H H' d):∀{xs:List SV} {vs:List V},RepSs K ι H xs vs->RepSs K ι H' xs vs
 | [],vs,h=>h
 | x::xs,vs,h=>by
  obtain ⟨v,w,e,h1,h2⟩:=h
  exact ⟨v,w,e,h1.sw s,RepSs.sw s h2⟩
theorem CR.sw {C:Cs}(s:Sw H H' d)(hd:d∉ι)(c:7e2):CR K ι H' C:=⟨c.len,c.nd,fun k a x h1 h2=>by
 have hne:a≠d:=fun z=>hd (by rw[←z];exact YB h1)
 have ok:=c.ok k a x h1 h2
 cases x with
 | lst ps=>obtain ⟨vs,e,r⟩:=ok;exact ⟨vs,by rw[s.oth a hne];exact e,Reps.sw s _ _ r⟩
 | dct ks ps=>obtain ⟨q,vs,e,l,z,r⟩:=ok;exact ⟨q,vs,by rw[s.oth a hne];exact e,l,z,Reps.sw s _ _ r⟩
 | dtt ks ps=>obtain ⟨vs,e,l,r⟩:=ok;exact ⟨vs,by rw[s.oth a hne];exact e,l,Reps.sw s _ _ r⟩
 | _=>exact ok.elim⟩
theorem SR.sw {C:Cs}{ρ:PSt}{σ:St}(s:Sw H H' d)(hd:d∉ι)(r:SR K ι H ρ σ C):SR K ι H' ρ σ C:=⟨CR.sw s hd r.cr,r.len,fun i x e=>by
 obtain ⟨v,h1,h2⟩:=r.loc i x e
 exact ⟨v,h1,h2.sw s⟩⟩
theorem sw_freeze {kvs:5e4}{ob:Obj}(h:H d=some (.dT kvs)):Sw H (upd H d 4e8) d where
 tup:=fun a vs e=>by rw[Zag (fun z=>by subst z;rw[h] at e;cases e)];exact e
 lst:=fun a vs e=>by
  have:a≠d:=fun z=>by
   subst z
   rcases e with e | ⟨o,e⟩<;>(rw[h] at e;cases e)
  rcases e with e | ⟨o,e⟩
  ·exact .inl (by rw[Zag this];exact e)
  ·exact .inr ⟨o,by rw[Zag this];exact e⟩
 dk:=fun a vs e=>by rw[Zag (fun z=>by subst z;rw[h] at e;cases e)];exact e
 dt:=fun a vs e=>by
  by_cases z:a=d
  ·subst z
   rcases e with e | ⟨o,e⟩
   ·rw[h] at e;cases e;exact .inr ⟨ob,Zam⟩
   ·rw[h] at e;cases e
  ·rcases e with e | ⟨o,e⟩
   ·exact .inl (by rw[Zag z];exact e)
   ·exact .inr ⟨o,by rw[Zag z];exact e⟩
 oth:=fun a n=>Zag n
theorem Za5 {kvs:5e4}{ob:Obj}(h:H d=some 4e8):Sw H (upd H d (.dT kvs)) d where
 tup:=fun a vs e=>by rw[Zag (fun z=>by subst z;rw[h] at e;cases e)];exact e
 lst:=fun a vs e=>by
  have:a≠d:=fun z=>by
   subst z
   rcases e with e | ⟨o,e⟩<;>(rw[h] at e;cases e)
  rcases e with e | ⟨o,e⟩
  ·exact .inl (by rw[Zag this];exact e)
  ·exact .inr ⟨o,by rw[Zag this];exact e⟩
 dk:=fun a vs e=>by rw[Zag (fun z=>by subst z;rw[h] at e;cases e)];exact e
 dt:=fun a vs e=>by
  by_cases z:a=d
  ·subst z
   rcases e with e | ⟨o,e⟩
   ·rw[h] at e;cases e
   ·rw[h] at e;cases e;exact .inl Zam
  ·rcases e with e | ⟨o,e⟩
   ·exact .inl (by rw[Zag z];exact e)
   ·exact .inr ⟨o,by rw[Zag z];exact e⟩
 oth:=fun a n=>Zag n
end
section
variable {X:Cx}{ι:2e2}{H:Hp}{d:Addr}{kvs:5e4}{ob:Obj}{D:Ends}{C':Cs}{fl:PF}
theorem done_thaw (hd:H d=some (.dT kvs))(hn:d∉ι)(nf:NF X d)(dn:Done X.K ι H D C' fl):Done X.K ι (upd H d 4e8) (thwD X D) C' fl:=by
 have hf:(upd H d 4e8) d=some 4e8:=Zam
 have at':∀{ι2:2e2} {H':Hp},Ex ι ι2 (upd H d 4e8) H'->H' d=some 4e8/\d∉ι++ι2/\Ex ι ι2 H (upd H' d (.dT kvs)):=fun {ι2 H'} x=>by
  refine ⟨x.1 d _ hn hf,fun z=>?_,fun b o n e=>?_,fun b hb=>?_⟩
  ·rcases YU.mp z with z | z
   ·exact hn z
   ·have:=x.2 d z;rw[hf] at this;cases this
  ·by_cases z:b=d
   ·subst z;rw[hd] at e;cases e;exact Zam
   ·rw[Zag z]
    exact x.1 b o n (by rw[Zag z];exact e)
  ·have:=x.2 b hb
   by_cases z:b=d
   ·subst z;rw[hf] at this;cases this
   ·rw[Zag z] at this;exact this
 cases fl with
 | nx ρ=>
  exact fun ι2 σ' H' x sr=>by
   obtain ⟨h1,h2,h3⟩:=at' x
   exact .inr ⟨d,ob,kvs,h1,nf,dn ι2 σ' _ h3 (sr.sw (Za5 h1) h2)⟩
 | bk ρ=>
  exact fun ι2 σ' H' x sr=>by
   obtain ⟨h1,h2,h3⟩:=at' x
   exact .inr ⟨d,ob,kvs,h1,nf,dn ι2 σ' _ h3 (sr.sw (Za5 h1) h2)⟩
 | ct ρ=>
  exact fun ι2 σ' H' x sr=>by
   obtain ⟨h1,h2,h3⟩:=at' x
   exact .inr ⟨d,ob,kvs,h1,nf,dn ι2 σ' _ h3 (sr.sw (Za5 h1) h2)⟩
 | rt r=>
  exact fun ι2 v H' x c rr=>by
   obtain ⟨h1,h2,h3⟩:=at' x
   exact .inr ⟨d,ob,kvs,h1,nf,dn ι2 v _ h3 (CR.sw (Za5 h1) h2 c) (rr.sw (Za5 h1))⟩
 | rf ps=>
  exact fun ι2 p vs H' x c hp rr=>by
   obtain ⟨h1,h2,h3⟩:=at' x
   have hpd:p≠d:=fun z=>by subst z;rw[h1] at hp;cases hp
   refine .inr ⟨d,ob,kvs,by rw[Zag (XH hpd)];exact h1,nf,?_⟩
   rw[upd_comm hpd]
   exact dn ι2 p vs _ h3 (CR.sw (Za5 h1) h2 c) (by rw[Zag hpd];exact hp) (Reps.sw (Za5 h1) _ _ rr)
 | rq qs=>
  exact fun ι2 p vs H' x c hp rr=>by
   obtain ⟨h1,h2,h3⟩:=at' x
   have hpd:p≠d:=fun z=>by subst z;rw[h1] at hp;cases hp
   refine .inr ⟨d,ob,kvs,by rw[Zag (XH hpd)];exact h1,nf,?_⟩
   rw[upd_comm hpd]
   exact dn ι2 p vs _ h3 (CR.sw (Za5 h1) h2 c) (by rw[Zag hpd];exact hp) (RepSs.sw (Za5 h1) rr)
theorem done_thw (dn:Done X.K ι H D C' fl):Done X.K ι H (thwD X D) C' fl:=by
 cases fl with
 | nx ρ=>exact fun ι2 σ' H' x sr=>.inl (dn ι2 σ' H' x sr)
 | bk ρ=>exact fun ι2 σ' H' x sr=>.inl (dn ι2 σ' H' x sr)
 | ct ρ=>exact fun ι2 σ' H' x sr=>.inl (dn ι2 σ' H' x sr)
 | rt r=>exact fun ι2 v H' x c rr=>.inl (dn ι2 v H' x c rr)
 | rf ps=>exact fun ι2 p vs H' x c hp rr=>.inl (dn ι2 p vs H' x c hp rr)
 | rq qs=>exact fun ι2 p vs H' x c hp rr=>.inl (dn ι2 p vs H' x c hp rr)
end
def ItV (d:Addr)(ob:Obj)(kvs:5e4):It:=
 ⟨fun i H=>H d=some 4e8/\i < kvs.length,fun i H x H'=>H'=H/\∃k,kvs[i]? = some (k,x),fun i H=>H d=some 4e8/\kvs.length<=i⟩
theorem kt_at {H:Hp}{kvs:5e4}{xs:List 7e9}(r:KT H kvs xs){i:Nat}{k:5e6}{x:V}(h:kvs[i]? = some (k,x)):∃b u,xs[i]? = some (k,b,u)/\H b=some (.tup (k.map kV))/\RelV x u:=by
 induction r generalizing i with
 | nil=>simp at h
 | @cons p q ps qs hq t ih=>
  cases i with
  | zero=>
   have h:some p=some (k,x):=h
   cases h
   obtain ⟨q1,q2,q3⟩:=q
   obtain ⟨e1,e2,e3⟩:=hq
   have e1:k=q1:=e1
   subst e1
   exact ⟨q2,q3,rfl,e2,e3⟩
  | succ i=>exact ih h
theorem raw_of {P:Yy}{w:World}{H:Hp}{h:Heap}{d:Addr}{ob:Obj}{kvs:5e4}(ok:HOk P w H h)(e:H d=some 4e8):∃xs es ep,KT H kvs xs/\ob.data=.dict es ep/\RawD h d es ep/\es.toList=xs.map (Yar (Vh (mixKind P w)))/\es.size=kvs.length/\(d==XE)=false:=by
 obtain ⟨hob,z,lo,xs,kt,o,es,ep,h1,h2,h3,h4,_⟩:=(show ObjOk P w H h d 4e8 from ok d _ e)
 rw[hob] at h1;cases h1
 refine ⟨xs,es,ep,kt,h3,⟨ob,hob,h2,h3⟩,h4,?_,lo⟩
 rw[VN h4,←Wm kt]
theorem turn_vals {P:Yy}{w:World}{K:W.Frag}{tg:Expr}(d it:Addr)(ob:Obj)(kvs:5e4):Turn P w K tg (ItV d ob kvs) [it] it (fun i h=>∃es ep,ob.data=.dict es ep/\h.IsValIter it d i es.size ep) where
 mem:=by simp
 obj:=fun i h st b hb=>by
  have e:b=it:=by simpa using hb
  subst e
  obtain ⟨es,ep,_,o,e,c,dd⟩:=st
  exact ⟨o,e,fun v z=>by rw[dd] at z;cases z⟩
 keep:=fun i h h' ⟨es,ep,hd,st⟩ k=>⟨es,ep,hd,st.at fun o e=>k it 3e0 o e⟩
 item:=by
  sleep 1
  obtain ⟨es,ep,hd,st⟩:=st
  obtain ⟨hdd,hi⟩:=hg
  obtain ⟨xs,es',ep',kt,hd',raw,he,hsz,lo⟩:=raw_of I.hok hdd
  rw[hd] at hd';cases hd'
  obtain ⟨⟨k,x⟩,hx⟩:∃p,kvs[i]? = some p:=⟨kvs[i],by simp[hi]⟩
  obtain ⟨b,u,hxs,hb,ru⟩:=kt_at kt hx
  have hes:es[i]? = some (Yar (Vh (mixKind X.prog X.w)) (k,b,u)):=by rw[entry_at he i,hxs];rfl
  sleep 4
  refine rawv_item (I.ok.hd hc) st raw hes fun h' st' sb=>?_
  have I1:Inv X pins σ H { s with heap:=h' }:=I.turned (t':=s.toks) (fun b o hb e=>(sb.2 b hb).trans e) f0 f1 f3 f4 f5
  obtain ⟨o,e,c,dd⟩:=id st'
  exact ⟨u,rfl,go_of (s:={ s with heap:=h' }) e c dd (by decide) ⟨x,H,I1,ru,⟨rfl,k,hx⟩,⟨es,ep,hd,st'⟩,fun b hb=>(hf b hb).1⟩⟩
 done:=by
  sleep 1
  obtain ⟨es,ep,hd,st⟩:=st
  obtain ⟨hdd,hi⟩:=hg
  obtain ⟨xs,es',ep',kt,hd',raw,he,hsz,lo⟩:=raw_of I.hok hdd
  rw[hd] at hd';cases hd'
  sleep 4
  exact rawv_end (I.ok.hd hc) st raw 1e2 fun h' eb=>⟨rfl,I.turned (t':=s.toks) (fun b o hb e=>eb b o hb e) f0 f1 f3 f4 f5⟩
 self:=fun _ _ _ _ _ ⟨_,_,_,st⟩ h=>wpAny_pyIter_valiter st h
def iKnown (X:Cx)(mk:Addr->Obj->List (List Key×V)->It)(tl:TE):TI:=fun σ H R=>tl σ H fun x H1=>∃d kvs,x=.ref d/\
 ((H1 d=some (.dT kvs)/\∀ob,NF X d->R (mk d ob kvs) (upd H1 d 4e8))\/∃ob,H1 d=some 4e8/\R (mk d ob kvs) H1)
section
variable {X:Cx}{tg o:Expr}{tl:TE}{apos cpos:Pos}
theorem pi_vals (ho:PE X o tl)(hbase:XW o "values" X.env (eval o X.env)=eval o X.env:=by rfl)(hline:(apos.endLine==cpos.line)=true:=by rfl):
  PI X tg (.Call (.Attribute o "values" apos) [] [] cpos) (iKnown X ItV tl):=by
 intro pins s σ H R I h
 refine VT hbase hline (thn (ho pins s σ H _ I h) fun v s1 h_=>?_)
 obtain ⟨x,H1,I1,r1,d,kvs,ex,hq⟩:=h_
 subst ex
 cases r1
 obtain ⟨ob,Hf,hdf,If,hR⟩:∃ob Hf,Hf d=some (.frz ob (.dT kvs))/\Inv X pins σ Hf s1/\R (ItV d ob kvs) Hf:=by
  rcases hq with ⟨hd,hq⟩ | ⟨ob,hd,hq⟩
  ·obtain ⟨ob,hob,nf,If⟩:=inv_freeze I1 hd
   exact ⟨ob,_,Zam,If,hq ob nf⟩
  ·exact ⟨ob,H1,hd,I1,hq⟩
 obtain ⟨xs,es,ep,kt,hda,raw,he,hsz,lo⟩:=raw_of If.hok hdf
 obtain ⟨ty,nd,_⟩:=isD_at If (.inr ⟨kvs,.inr ⟨ob,hdf⟩⟩)
 refine ⟨"dict",_,WO,VC,PySem.F.type_dict_values,ty,nd,WZ rfl (UA (rawv_call lo raw ?_))⟩
 have hv:(s1.heap.push { cls:=.type "dict_values",data:=.fields #[.ref d] }).IsValuesView s1.heap.objs.size d:=8e8
 have raw2:RawD (s1.heap.push { cls:=.type "dict_values",data:=.fields #[.ref d] }) d es ep:=raw.at fun o e=>Yb _ e
 have I2:Inv X pins σ Hf { s1 with heap:=s1.heap.push { cls:=.type "dict_values",data:=.fields #[.ref d] } }:=If.kept (t':=s1.toks) fun b o e=>Yb _ e
 refine rawv_iter (s:={ s1 with heap:=s1.heap.push { cls:=.type "dict_values",data:=.fields #[.ref d] } }) hv raw2 ?_
 refine ⟨_,[_],_,_,Hf,rfl,I2.kept (t':=s1.toks) fun b o e=>Yb _ e,turn_vals d _ ob kvs,⟨es,ep,hda,_,Ye _ rfl,rfl,rfl⟩,fun b hb=>?_,hR⟩
 have e:b=_:=Yk.mp hb
 subst e
 exact I2.fpOk (Yi _) (I2.hok.fresh (Yi _))
end
section
variable {K:W.Frag}{ι:2e2}{H:Hp}{d:Addr}{ob:Obj}{kvs:5e4}
theorem iter_vals {ps:List PV}{ks:4e2}{vs:List V}(hk:kvs=ks.zip vs)(hl:ks.length=vs.length)(c:∃C,CR K ι H C)(hd:H d=some 4e8)(hn:d∉ι)(r:Reps K ι H ps vs):Iter K ι H ps (ItV d ob kvs):=by
 have hpl:=r.length
 have hkl:kvs.length=ps.length:=by rw[hk,WD];lia
 obtain ⟨C,c⟩:=c
 refine ⟨fun ι2 H2 C2 x c2 i hi=>⟨x.1 d _ hn hd,by rw[hkl];exact hi⟩,fun ι2 H2 C2 x c2 i v H3 hi y=>?_,fun ι2 H2 C2 x c2=>⟨x.1 d _ hn hd,by rw[hkl];exact Yi _⟩⟩
 obtain ⟨e3,k,hx⟩:=y
 rw[e3]
 refine ⟨fun b o e=>e,?_⟩
 have r2:Reps K 5e8 H2 ps vs:=Reps.tr c x.out _ _ r
 have hv:vs[i]? = some v:=by
  rw[hk,Vo] at hx
  exact hx.2
 exact r2.get' hv
end
def valsV:SV->Option 2e9
 | .v (.dtt _ ps)=>some ps
 | _=>none
def mValsI (fo:2e4):PSt->M 2e9:=fun ρ=>bnd (fo ρ) fun x=>opM fun _=>valsV x
section
variable {K:W.Frag}{ι:2e2}{g:2e8}{f:7e5}
theorem for_pure {J:It}{xs:List PV}{H1:Hp}{C1 C':Cs}{ρ:PSt}{σ:St}{fl:PF}{D:Ends}(it1:Iter K ι H1 xs J)(sr1:SR K ι H1 ρ σ C1)(d1:Done K ι H1 D C' fl)(e:loop g f xs ρ C1=some (fl,C')):
  ∃W:Nat->Nat->St->Hp->Prop,(∃m,W 0 m σ H1)/\∀i m σ H,W i m σ H->
 (J.stop i H/\D.nx σ H)\/(J.go i H/\∃N:St->Hp->Prop,(∀σ' H',N σ' H'->∃m',m' < m/\W (i + 1) m' σ' H')/\∀x H',J.yld i H x H'->tMG K g x σ H' fun σ2 H2=>tMS K f { D with nx:=N,ct:=N,bk:=D.nx } σ2 H2):=by
 refine ⟨fun i m σ2 H2=>∃ι2 ρ2 C2,m=xs.length - i/\i<=xs.length/\Ex ι ι2 H1 H2/\SR K 5e8 H2 ρ2 σ2 C2/\loop g f (xs.drop i) ρ2 C2=some (fl,C'),⟨xs.length,[],ρ,C1,rfl,Y4 _,Ex.fr .refl,by rw[YL];exact sr1,e⟩,?_⟩
 rintro i m σ2 H2 ⟨ι2,ρ2,C2,rfl,hi2,x2,sr2,e2⟩
 rcases YS i xs.length with hlt | hge
 ·right
  refine ⟨it1.go ι2 H2 C2 x2 sr2.cr i hlt,fun σ' H'=>∃ι2 ρ2 C2,Ex ι ι2 H1 H'/\SR K 5e8 H' ρ2 σ' C2/\loop g f (xs.drop (i + 1)) ρ2 C2=some (fl,C'),?_,?_⟩
  ·rintro σ' H' ⟨ι3,ρ3,C3,x3,sr3,e3⟩
   exact ⟨xs.length - (i + 1),by lia,ι3,ρ3,C3,rfl,hlt,x3,sr3,e3⟩
  ·intro v H3 y
   obtain ⟨sm,q,hq,rq⟩:=it1.yld ι2 H2 C2 x2 sr2.cr i v H3 hlt y
   have hd:xs.drop i=q::xs.drop (i + 1):=by
    rw[Xr hlt]
    rw[Yd hlt] at hq
    rw[YI hq]
   rw[hd] at e2
   unfold loop at e2
   cases hg1:g q ρ2 with
   | none=>rw[hg1] at e2;cases e2
   | some ρ3=>
    rw[hg1] at e2
    obtain ⟨fl1,C3,e3,e4⟩:=Zae e2
    have fr3:Fr 5e8 H2 H3:=fun b o _ z=>sm b o z
    have cr3:CR K 5e8 H3 C2:=sr2.cr.same sm
    have x3:Ex ι ι2 H1 H3:=⟨fun b o n z=>sm b o (x2.1 b o n z),x2.2⟩
    refine ⟨ι++ι2,ρ2,C2,q,ρ3,sr2.step fr3 cr3,rq,hg1,fun σ4 sr4=>⟨ι++ι2,ρ3,C2,fl1,C3,sr4,e3,?_⟩⟩
    cases fl1 with
    | nx ρ5=>exact fun ι5 σ5 H5 x5 sr5=>⟨ι2++ι5,ρ5,C3,x3.trans cr3 x5,by rw[←Yh];exact sr5,e4⟩
    | ct ρ5=>exact fun ι5 σ5 H5 x5 sr5=>⟨ι2++ι5,ρ5,C3,x3.trans cr3 x5,by rw[←Yh];exact sr5,e4⟩
    | bk ρ5=>cases e4;exact fun ι5 σ5 H5 x5 sr5=>d1 (ι2++ι5) σ5 H5 (x3.trans cr3 x5) (by rw[←Yh];exact sr5)
    | rf ps=>cases e4;exact fun ι5 q5 vs5 H5 x5 c5 h5 r5=>d1 (ι2++ι5) q5 vs5 H5 (x3.trans cr3 x5) (by rw[←Yh];exact c5) h5 (by rw[←Yh];exact r5)
    | rq ps=>cases e4;exact fun ι5 q5 vs5 H5 x5 c5 h5 r5=>d1 (ι2++ι5) q5 vs5 H5 (x3.trans cr3 x5) (by rw[←Yh];exact c5) h5 (by rw[←Yh];exact r5)
    | rt r=>cases e4;exact fun ι5 v5 H5 x5 c5 r5=>d1 (ι2++ι5) v5 H5 (x3.trans cr3 x5) (by rw[←Yh];exact c5) (by rw[←Yh];exact r5)
 ·left
  have hi3:i=xs.length:=by lia
  subst hi3
  rw[WR] at e2
  cases e2
  exact ⟨it1.stop ι2 H2 _ x2 sr2.cr,d1 ι2 σ2 H2 x2 sr2⟩
end
section
variable {X:Cx}{o tg elt:Expr}{body:List Stmt}{ifs:3e2}{gs:List XZ}{scope:Scope}{apos cpos pos:Pos}{fo te:2e4}{g:2e8}{f:7e5}{vs fs:4e0}{fr:6e3}{tt:3e8}{rest:List MG}
theorem known_of {mk:Addr->Obj->List (List Key×V)->It}{it:6e5}{σ:St}{H:Hp}{R:It->Hp->Prop}{ι:2e2}{ρ:PSt}{C C1:Cs}{xs:List PV}(sr:SR X.K ι H ρ σ C)
  (hit:∀xs C1,it ρ C=some (xs,C1)->∃x ks ps,fo ρ C=some (x,C1)/\x=.v (.dtt ks ps)/\∀(H1:Hp) d ob us,CR X.K ι H1 C1->ks.length=us.length->Reps X.K ι H1 ps us->d∉ι->H1 d=some (.frz ob (.dT (ks.zip us)))->(∃ks2,Rd H1 d (.dT (ks2)))->Iter X.K ι H1 xs (mk d ob (ks.zip us)))
  (e:it ρ C=some (xs,C1))
  (h1:∀H1 d kvs ob,Fr ι H H1->CR X.K ι H1 C1->H1 d=some (.dT kvs)->d∉ι->NF X d->Iter X.K ι (upd H1 d 4e8) xs (mk d ob kvs)->CR X.K ι (upd H1 d 4e8) C1->SR X.K ι (upd H1 d 4e8) ρ σ C1->R (mk d ob kvs) (upd H1 d 4e8))
  (h2:∀H1 d kvs ob,Fr ι H H1->CR X.K ι H1 C1->Iter X.K ι H1 xs (mk d ob kvs)->R (mk d ob kvs) H1):iKnown X mk (tM X.K fo) σ H R:=by
 obtain ⟨x,ks,ps,e1,rfl,hI⟩:=hit xs C1 e
 refine ⟨ι,ρ,C,_,C1,sr,e1,fun v H1 f1 c1 r1=>?_⟩
 have r1:Rep X.K ι H1 (.dtt ks ps) v:=r1
 unfold Rep at r1
 obtain ⟨d,us,rfl,hn,hd,hl,r⟩:=r1
 refine ⟨d,ks.zip us,rfl,?_⟩
 rcases hd with hd | ⟨ob,hd⟩
 ·refine .inl ⟨hd,fun ob nf=>?_⟩
  have s:=sw_freeze (ob:=ob) hd
  exact h1 H1 d _ ob f1 c1 hd hn nf (hI _ d ob us (CR.sw s hn c1) hl (Reps.sw s _ _ r) hn Zam ⟨_,.inr ⟨ob,Zam⟩⟩) (CR.sw s hn c1) (SR.sw s hn (sr.step f1 c1))
 ·exact .inr ⟨ob,hd,h2 H1 d _ ob f1 c1 (hI H1 d ob us c1 hl r hn hd ⟨_,.inr ⟨ob,hd⟩⟩)⟩
theorem vals_it {ι:2e2}{ρ:PSt}{C:Cs}:∀xs C1,mValsI fo ρ C=some (xs,C1)->∃x ks ps,fo ρ C=some (x,C1)/\x=.v (.dtt ks ps)/\∀(H1:Hp) d ob us,CR X.K ι H1 C1->ks.length=us.length->Reps X.K ι H1 ps us->d∉ι->H1 d=some (.frz ob (.dT (ks.zip us)))->(∃ks2,Rd H1 d (.dT (ks2)))->Iter X.K ι H1 xs (ItV d ob (ks.zip us)):=fun xs C1 e=>by
 obtain ⟨x,C2,e1,e2⟩:=Zae e
 obtain ⟨e3,hC⟩:=Zav e2
 subst hC
 unfold valsV at e3
 split at e3
 ·cases e3
  exact ⟨_,_,_,e1,rfl,fun H1 d ob us c hl r hn hd _=>iter_vals rfl hl ⟨_,c⟩ hd hn r⟩
 ·cases e3
theorem sm_forK {mk:Addr->Obj->List (List Key×V)->It}{it:6e5}{iter:Expr}(hp:UU 2e0 X.A X.env X.xe)(hc:5e2)(hi:PI X tg iter (iKnown X mk (tM X.K fo)))
  (hit:∀(ι:2e2) (ρ:PSt) (C:Cs),∀xs C1,it ρ C=some (xs,C1)->∃x ks ps,fo ρ C=some (x,C1)/\x=.v (.dtt ks ps)/\∀(H1:Hp) d ob us,CR X.K ι H1 C1->ks.length=us.length->Reps X.K ι H1 ps us->d∉ι->H1 d=some (.frz ob (.dT (ks.zip us)))->(∃ks2,Rd H1 d (.dT (ks2)))->Iter X.K ι H1 xs (mk d ob (ks.zip us)))
  (hg:GM X tg g) (hb:BM X body f) (hs:7e7):SM X (.For tg iter body [] pos) (mFor it g f):=
 PS.imp (PS.thaw (ps_for hp hc hi hg hb hs)) fun D σ H h_=>by
  obtain ⟨ι,ρ,C,fl,C',sr,e,dn⟩:=h_
  obtain ⟨xs,C1,e1,e2⟩:=Zae e
  refine known_of sr (hit ι ρ C) e1 (fun H1 d kvs ob f1 c1 hd hn nf it1 cf srf=>?_) (fun H1 d kvs ob f1 c1 it1=>?_)
  ·exact for_pure it1 srf (done_thaw hd hn nf (dn.fr c1 f1)) e2
  ·exact for_pure it1 (sr.step f1 c1) (done_thw (dn.fr c1 f1)) e2
theorem fm_compK {mk:Addr->Obj->List (List Key×V)->It}{it:6e5}{iter:Expr}(S:6e2)(hc:5e2)(hi:PI X tg iter (iKnown X mk (tM X.K fo)))
  (hit:∀(ι:2e2) (ρ:PSt) (C:Cs),∀xs C1,it ρ C=some (xs,C1)->∃x ks ps,fo ρ C=some (x,C1)/\x=.v (.dtt ks ps)/\∀(H1:Hp) d ob us,CR X.K ι H1 C1->ks.length=us.length->Reps X.K ι H1 ps us->d∉ι->H1 d=some (.frz ob (.dT (ks.zip us)))->(∃ks2,Rd H1 d (.dT (ks2)))->Iter X.K ι H1 xs (mk d ob (ks.zip us)))
  (bG:∀C s₀ H₀ ex pn,GM 1e0 tg g) (bT:∀C s₀ H₀ ex pn,TsM 1e0 ifs tt) (bR:∀C s₀ H₀ ex pn,GsM 1e0 gs rest) (bE:∀C s₀ H₀ ex pn,EM 1e0 elt te)
  (hs:7e7):
  FM X (.ListComp elt (⟨tg,iter,ifs,0⟩::gs) scope pos) (mCompN it vs fr g tt rest te):=
 PE.imp (PE.thaw (pe_compN (wi:=iKnown X mk (tM X.K fo)) (g:=tMG X.K g) (tt:=tMB X.K tt) (te:=tM X.K te) (rest:=rest.map (gtOf X.K)) S hc hi bG bT (fun C s₀ H₀ ex pn=>(bR C s₀ H₀ ex pn).ok) bE hs)) fun σ H Q h_=>by
  obtain ⟨ι,ρ,C,res,C',sr,e,q⟩:=h_
  obtain ⟨xs,C1,e1,e2⟩:=Zae e
  obtain ⟨⟨ρ',ps'⟩,C2,e3,e4⟩:=Zae e2
  cases e4
  refine known_of sr (hit ι ρ C) e1 (fun H1 d kvs ob f1 c1 hd hn nf it1 cf srf=>?_) (fun H1 d kvs ob f1 c1 it1=>?_)
  ·refine ZbG (ZbH rest) it1 (srf.block vs fr) .nil 3e0 e3 fun σ' ys' H' n'=>⟨by rw[←n'.2.2.1.length];exact k100000 n'.2.2.2,fun D hD=>.inr ?_⟩
   obtain ⟨g1,g2,g3,g4⟩:=n'
   have hd':H' d=some 4e8:=g1 d _ hn Zam
   have hDd:D≠d:=fun z=>by subst z;rw[hd'] at hD;cases hD
   have s:=Za5 hd'
   refine ⟨d,ob,kvs,by rw[Zag (XH hDd)];exact hd',nf,?_⟩
   rw[upd_comm hDd]
   refine q D ys' _ (fun b o nb z=>?_) (CR.sw s hn g2.cr) (by rw[Zag hDd];exact hD) (Reps.sw s _ _ g3)
   by_cases hb:b=d
   ·subst hb
    have:=f1 b o nb z
    rw[hd] at this;cases this;exact Zam
   ·rw[Zag hb]
    exact g1 b o nb (by rw[Zag hb];exact f1 b o nb z)
  ·refine ZbG (ZbH rest) it1 ((sr.step f1 c1).block vs fr) .nil 3e0 e3 fun σ' ys' H' n'=>⟨by rw[←n'.2.2.1.length];exact k100000 n'.2.2.2,fun D hD=>.inl ?_⟩
   exact q D ys' H' (f1.trans n'.1) n'.2.1.cr hD n'.2.2.1
end
def ItI (d:Addr)(ob:Obj)(kvs:List (Key×V)):It:=
 ⟨fun i H=>H d=some (.frz ob (.dK kvs))/\i < kvs.length,fun i H x H'=>∃b k v,H b=none/\x=.ref b/\H'=upd H b (.tup [kV k,v])/\kvs[i]? = some (k,v),fun i H=>H d=some (.frz ob (.dK kvs))/\kvs.length<=i⟩
theorem kv_at {kvs:List (Key×V)}{vs:List (Key×Value)}(r:KV kvs vs){i:Nat}{k:Key}{x:V}(h:kvs[i]? = some (k,x)):∃u,vs[i]? = some (k,u)/\RelV x u:=by
 unfold KV at r
 induction r generalizing i with
 | nil=>simp at h
 | @cons p q ps qs hq t ih=>
  cases i with
  | zero=>
   have h:some p=some (k,x):=h
   cases h
   obtain ⟨q1,q2⟩:=q
   obtain ⟨e1,e2⟩:=hq
   have e1:k=q1:=e1
   subst e1
   exact ⟨q2,rfl,e2⟩
  | succ i=>exact ih h
theorem rawk_of {P:Yy}{w:World}{H:Hp}{h:Heap}{d:Addr}{ob:Obj}{kvs:List (Key×V)}(ok:HOk P w H h)(e:H d=some (.frz ob (.dK kvs))):∃vs es ep,KV kvs vs/\ob.data=.dict es ep/\h.DictAt (mixKind P w) d vs ep/\vs.length=kvs.length/\(d==XE)=false:=by
 obtain ⟨hob,z,lo,vs,kv,o,es,ep,h1,h2,h3,h4⟩:=(show ObjOk P w H h d (.frz ob (.dK kvs)) from ok d _ e)
 rw[hob] at h1;cases h1
 exact ⟨vs,es,ep,kv,h3,⟨ob,es,hob,h2,h3,h4⟩,kv.length.symm,lo⟩
theorem relK {P:Yy}{w:World}{k:Key}{u:Value}(h:(mixKind P w).is k u=true):RelV (kV k) u:=by
 rcases Zau h with ⟨i,t,rfl,rfl⟩ | ⟨x,t,rfl,rfl⟩
 ·exact ⟨t,rfl⟩
 ·exact ⟨t,rfl⟩
theorem turn_items {P:Yy}{w:World}{K:W.Frag}{elts:3e2}{x1:Nat}{pos:Pos}(d it:Addr)(ob:Obj)(kvs:List (Key×V))(hne:d≠it):Turn P w K (.Tuple elts x1 pos) (ItI d ob kvs) [it] it (fun i h=>∃es ep ok ov,ob.data=.dict es ep/\IsItemIter h it d i kvs.length ep ok ov) where
 mem:=by simp
 obj:=fun i h st b hb=>by
  have e:b=it:=by simpa using hb
  subst e
  obtain ⟨es,ep,ok,ov,_,st⟩:=st
  exact ⟨_,st,fun v z=>by
   have z':Data.fields _=Data.cell v:=z
   cases z'⟩
 keep:=fun i h h' ⟨es,ep,ok,ov,hd,st⟩ k=>⟨es,ep,ok,ov,hd,k it 3e0 _ st⟩
 item:=by
  sleep 1
  obtain ⟨es,ep,ok,ov,hd,st⟩:=st
  obtain ⟨hdd,hi⟩:=hg
  obtain ⟨ws,es',ep',kv,hd',dat,hl,lo⟩:=rawk_of I.hok hdd
  rw[hd] at hd';cases hd'
  obtain ⟨⟨k,v⟩,hx⟩:∃p,kvs[i]? = some p:=⟨kvs[i],by simp[hi]⟩
  obtain ⟨u,hu,ru⟩:=kv_at kv hx
  rw[←hl] at st
  refine wpAny_pyNext_items_item st dat hu fun key h' hkey ho hT hsz hk=>⟨_,rfl,?_⟩
  refine wpAny_letOwnedTupleGo_items (s:={ s with heap:=h' }) ho fun h3 he3 sb=>?_
  have J1:Inv X pins σ H { s with heap:=h3 }:=turnedL (t':=s.toks) (ch:=[it]) I (fun b o hb z=>by
   have hb:b≠it:=by simpa using hb
   exact sb.extBut _ _ hb (hk b o hb z)) hf
  have hlt:∀{b o},s.heap.get? b=some o->b≠s.heap.objs.size:=fun e=>Yt (Yq e)
  have hn:H s.heap.objs.size=none:=I.hok.fresh (Yi _)
  have hT3:=sb.extBut _ _ (hlt st).symm hT
  have J2:=track (ob:=.tup [kV k,v]) J1 hn I.sz (X1 I.lt) (fun x c e=>by obtain ⟨v,q⟩:=I.cell x c e;exact Yt q.lt) (fun p hp=>hlt (I.pin p hp).1)
   ⟨by show 2<=Yr;rw[YN];decide,[key,u],.cons (relK hkey) (.cons ru .nil),⟨_,hT3,rfl,_,rfl⟩⟩
  refine ⟨.ref s.heap.objs.size,_,J2,rfl,⟨_,k,v,hn,rfl,rfl,hx⟩,⟨es,ep,_,_,hd,by rw[←hl];exact he3⟩,fun b hb=>?_⟩
  have hb':b=it:=by simpa using hb
  subst hb'
  rw[Zag (hlt st)];exact (hf b 3e0).1
 done:=by
  sleep 1
  obtain ⟨es,ep,ok,ov,hd,st⟩:=st
  obtain ⟨hdd,hi⟩:=hg
  obtain ⟨ws,es',ep',kv,hd',dat,hl,lo⟩:=rawk_of I.hok hdd
  rw[hd] at hd';cases hd'
  sleep 4
  rw[←hl] at st
  exact wpAny_pyNext_items_end (I.ok.hd hc) st dat (YF.mpr 1e2) fun h' eb=>⟨rfl,I.turned (t':=s.toks) (fun b o hb e=>eb b o hb e) f0 f1 f3 f4 f5⟩
 self:=fun _ _ _ _ _ ⟨_,_,_,_,_,st⟩ h=>W.kcp_self st h
def iItems (tl:TE):TI:=fun σ H R=>tl σ H fun x H1=>∃d ob kvs,x=.ref d/\H1 d=some (.frz ob (.dK kvs))/\R (ItI d ob kvs) H1
section
variable {X:Cx}{o:Expr}{tl:TE}{apos cpos tpos:Pos}{elts:3e2}{x1:Nat}
theorem pi_items (ho:PE X o tl)(hbase:XW o "items" X.env (eval o X.env)=eval o X.env:=by rfl)(hline:(apos.endLine==cpos.line)=true:=by rfl):
  PI X (.Tuple elts x1 tpos) (.Call (.Attribute o "items" apos) [] [] cpos) (iItems tl):=by
 intro pins s σ H R I h
 refine VT hbase hline (thn (ho pins s σ H _ I h) fun v s1 h_=>?_)
 obtain ⟨x,H1,I1,r1,d,ob,kvs,ex,hdf,hR⟩:=h_
 subst ex
 cases r1
 obtain ⟨ws,es,ep,kv,hda,dat,hl,lo⟩:=rawk_of I1.hok hdf
 obtain ⟨ty,nd,_⟩:=isD_at I1 (.inl ⟨kvs,.inr ⟨ob,hdf⟩⟩)
 have hof:s1.heap.DictOf (mixKind X.prog X.w) d ws:=let ⟨o,es,r⟩:=dat;⟨o,es,ep,r⟩
 refine ⟨"dict",_,WO,PySem.F.slot_dict_items,PySem.F.type_dict_items,ty,nd,WZ rfl (UA (call_meetsIn PySem.F.slot_dict_items ty PySem.F.entry_dict_items (PySem.F.args_dict_items_1 _) (meets_dict_items (mixKind X.prog X.w) d lo) ⟨⟨ws,hof⟩,?_⟩))⟩
 have hv:(s1.heap.push { cls:=.type "dict_items",data:=.fields #[.ref d] }).IsItemsView s1.heap.objs.size d:=8e8
 have dat2:(s1.heap.push { cls:=.type "dict_items",data:=.fields #[.ref d] }).DictAt (mixKind X.prog X.w) d ws ep:=dat.at' fun o e=>Yb _ e
 have I2:Inv X pins σ H1 { s1 with heap:=s1.heap.push { cls:=.type "dict_items",data:=.fields #[.ref d] } }:=I1.kept (t':=s1.toks) fun b o e=>Yb _ e
 have hlt:d < s1.heap.objs.size:=let ⟨o,_,ho,_⟩:=dat;Yq ho
 refine wpAny_pyIter_items (s:={ s1 with heap:=s1.heap.push { cls:=.type "dict_items",data:=.fields #[.ref d] } }) hv dat2 ?_
 refine ⟨_,[_],_,_,H1,rfl,I2.kept (t':=s1.toks) fun b o e=>Yb _ e,turn_items d _ ob kvs ?_,⟨es,ep,.none,.none,hda,?_⟩,fun b hb=>?_,hR⟩
 ·rw[Vk];exact Yt (WB hlt)
 ·rw[←hl];exact Ye _ rfl
 ·have e:b=_:=Yk.mp hb
  subst e
  exact I2.fpOk (Yi _) (I2.hok.fresh (Yi _))
end
def tDF (K:W.Frag)(keys:4e0)(fs:2e1):TE:=fun σ H Q=>∃ι ρ C ps xs C',SR K ι H ρ σ C/\fs ρ C=some (xs,C')/\plain xs=some ps/\
 ∀p ob vs H',Fr ι H H'->CR K ι H' C'->H' p=none->Reps K ι H' ps vs->keys.length=vs.length->Q (.ref p) (upd H' p (.frz ob (.dK ((keys.map WY).zip vs))))
section
variable {X:Cx}{es:3e2}{fs:2e1}{pos:Pos}
theorem pe_dictF {ks:List (Option Expr)}{keys:4e0}(h:DM X ks es keys fs)(nd:(keys.map (WY:Str->Key)).Nodup)(hall:ks.all (·.isSome)=true)(hl:ks.length=es.length)(h0:ks≠[])(hlen:ks.length<=15)(hk:keys.length=ks.length):
  PE X (.Dict ks es pos) (tDF X.K keys fs):=by
 intro pins s σ H Q I h_
 obtain ⟨ι,ρ,C,ps,xs,C',sr,e1,hp,q⟩:=h_
 have hbig:XE < s.heap.objs.size:=modules_low I.nolimit
 have hf:H s.heap.objs.size=none:=I.hok.fresh (Yi _)
 have I0:Inv X pins σ H { s with heap:=s.heap.push { cls:=.type "dict",data:=.dict #[] } }:=I.kept (t':=s.toks) fun b o e=>Yb _ e
 have I1:Inv X ((s.heap.objs.size,{ cls:=.type "dict",data:=.dict #[] })::pins) σ H { s with heap:=s.heap.push { cls:=.type "dict",data:=.dict #[] } }:=I0.pins_of fun p hp=>by
  rcases Yl.mp hp with rfl | hp
  ·exact ⟨Ye _ rfl,hf,X1 I.lt,I.nofs (Yi _),fun v z=>by cases z⟩
  ·exact I0.pin p (Yg _ hp)
 refine PySem.wpAny_Dict_walk (knd:=mixKind X.prog X.w) hall hl h0 hlen ?_
 refine thn (h pos _ _ σ H (fun vs H2=>Fr ι H H2/\CR X.K ι H2 C'/\RepSs X.K ι H2 xs vs) I1 ⟨ι,ρ,C,xs,C',sr,e1,fun vs H2 f2 c2 r2=>⟨f2,c2,r2⟩⟩) fun us s1 h_=>?_
 obtain ⟨vs,H1,J1,pr,f1,c1,rs⟩:=h_
 obtain ⟨a1,a2,kvs,a3,a4,a5⟩:=prel_carries (P:=X.prog) (w:=X.w) pr
 have pd:=J1.pin (s.heap.objs.size,_) (Yg _ YJ)
 refine ⟨kvs,a3,DictOf_empty pd.1,fun h' hd hs=>?_⟩
 rw[merged_nil_of_nodup kvs (by rw[a5];exact nd)] at hd
 have J2:Inv X pins σ H1 s1:=J1.pins_of fun p hp=>J1.pin p (Yg _ (Yz _ hp))
 have hcl:∀x c,X.env.cells.lookup x=some c->c≠s.heap.objs.size:=fun x c e=>by
  obtain ⟨v,z⟩:=I.cell x c e
  exact Yt z.lt
 have hpn:∀p∈X.pn++pins,p.1≠s.heap.objs.size:=fun p hp=>Yt (Yq (I.pin p hp).1)
 have J3:Inv X pins σ H1 { s1 with heap:=h',toks:=s1.toks + us.length }:=J2.turned (t':=s1.toks + us.length) (fun b o hb e=>(hs.2 b hb).trans e) pd.2.1 pd.2.2.1 (.inr I.sz) hcl hpn
 have hkl:keys.length<=15:=by rw[hk];exact hlen
 obtain ⟨ob,ho⟩:∃ob,h'.get? s.heap.objs.size=some ob:=let ⟨o,_,_,ho,_⟩:=hd;⟨o,ho⟩
 have J4:=track (ob:=.frz ob (.dK ((keys.map WY).zip vs))) J3 pd.2.1 I.sz pd.2.2.1 hcl hpn ⟨ho,YQ (by rw[WD];exact YQ (Nat.min_le_left _ _) (by rw[Yf];exact hkl)) (by rw[YN];decide),beq_eq_false_iff_ne.mpr (XH (Yt hbig)),kvs,a4,hd⟩
 obtain ⟨rr,hv⟩:=Za9 hp rs
 exact ⟨.ref s.heap.objs.size,_,J4,rfl,q _ ob vs H1 f1 c1 pd.2.1 rr a1⟩
end
def itemsL (keys:4e0)(ps:List PV):List PV:=(keys.zip ps).map fun q=>.tup [.str q.1,q.2]
def mDispI (n:Nat)(keys:4e0)(fs:2e1)(vs:4e0)(fr:6e3)(g:2e8)(tt:3e8)(te:2e4):PSt->M PF:=fun ρ=>bnd (fs ρ) fun xs=>match plain xs with
 | some ps=>if (keys.all fun k=>decide (k.length<=1000))&&decide (n < ρ.length) then bnd (cLoop g tt (cBody te []) (itemsL keys ps) (stIn' vs fr (ρ.set n none)) []) fun r=>ret (.rf r.2) else fun _=>none
 | none=>fun _=>none
section
variable {K:W.Frag}{ι:2e2}{H:Hp}{ρ:PSt}{σ:St}{C:Cs}
theorem SR.unset (sr:SR K ι H ρ σ C)(n:Nat)(v:Option V):SR K ι H (ρ.set n none) (σ.set n v) C:=by
 refine ⟨sr.cr,by simp[sr.len],fun i s e=>?_⟩
 by_cases h:n=i
 ·subst h
  by_cases hl:n < ρ.length
  ·rw[Xf hl] at e;cases e
  ·rw[YF.mpr (by simp;lia)] at e;cases e
 ·rw[YA h] at e
  obtain ⟨v',h1,h2⟩:=sr.loc i s e
  exact ⟨v',by rw[YA h];exact h1,h2⟩
theorem iter_items {d:Addr}{ob:Obj}{keys:4e0}{ps:List PV}{vs:List V}(c:7e2)(hd:H d=some (.frz ob (.dK ((keys.map WY).zip vs))))(hn:d∉ι)(hl:keys.length=vs.length)(hk:(keys.all fun k=>decide (k.length<=1000))=true)(r:Reps K ι H ps vs):Iter K ι H (itemsL keys ps) (ItI d ob ((keys.map WY).zip vs)):=by
 have hpl:=r.length
 have h1:((keys.map (WY:Str->Key)).zip vs).length=(itemsL keys ps).length:=by simp[itemsL];lia
 refine ⟨fun ι2 H2 C2 x c2 i hi=>⟨x.1 d _ hn hd,by rw[h1];exact hi⟩,fun ι2 H2 C2 x c2 i v H3 hi y=>?_,fun ι2 H2 C2 x c2=>⟨x.1 d _ hn hd,by rw[h1];exact Yi _⟩⟩
 obtain ⟨b,k,w,hb,rfl,rfl,hx⟩:=y
 rw[Vo,Yx] at hx
 obtain ⟨hx1,hx2⟩:=hx
 obtain ⟨t,ht,rfl⟩:=Xh.mp hx1
 obtain ⟨p,hp,rp⟩:=r.get' hx2
 refine ⟨fun c o e=>by rw[Zag (Zak e hb)];exact e,.tup [.str t,p],?_,Zc1 hb (.cons (repS ?_) (.cons (Rep.tr c x.out p w rp) .nil))⟩
 ·unfold itemsL
  rw[Yx]
  have:(keys.zip ps)[i]? = some (t,p):=by rw[Vo];exact ⟨ht,hp⟩
  rw[this];rfl
 ·have:=of_decide_eq_true (YR.mp hk t (YB ht))
  exact YQ this (by rw[YN];decide)
end
end Pu
namespace Pu
open PySem PySem.Spec L2
open PyProof.Rows hiding St Fr
def mFnFS (F:List SV->M 2e9)(ix:6e3)(fs:2e1):PSt->M 2e9:=fun ρ=>bnd (fs ρ) fun xs C=>match pickK xs ix with
 | some ks=>match smallX C ks xs,smallC C ks with
  | some ys,some D=>match F ys D with
   | some (ps,D')=>if flats ps&&D'.all flatC then some (ps,backC C ks D') else none
   | _=>none
  | _,_=>none
 | none=>none
theorem mFnFS_some {F:List SV->M 2e9}{ix:6e3}{xs:List SV}{C C':Cs}{z:List PV}(h:(match pickK xs ix with
 | some ks=>match smallX C ks xs,smallC C ks with
  | some ys,some D=>match F ys D with
   | some (ps,D')=>if flats ps&&D'.all flatC then some (ps,backC C ks D') else none
   | _=>none
  | _,_=>none
 | none=>none:Option (List PV×Cs))=some (z,C')):∃ks ys D D',pickK xs ix=some ks/\smallX C ks xs=some ys/\smallC C ks=some D/\F ys D=some (z,D')/\flats z=true/\D'.all flatC=true/\C'=backC C ks D':=by
 split at h
 ·split at h
  ·split at h
   ·split at h
    ·rename_i hf
     rw[Yp] at hf
     cases h
     exact ⟨_,_,_,_,by assumption,by assumption,by assumption,by assumption,hf.1,hf.2,rfl⟩
    ·cases h
   ·cases h
  ·cases h
 ·cases h
theorem fm_callS {X:Cx}{e:Expr}{es:3e2}{p pos:Pos}{x:Str}{k:Nat}{f:Addr}{fd:Wh}{ps:4e0}{F:List SV->M 2e9}{fs:2e1}(ix:6e3)(G:FnOk X.prog X.w X.K X.mg X.base CX0 k f fd ps (liftSpF X.K F))(hr:Room k X.A)(hg:Gl X x)(hm:X.mg x=some (.ref f))(hk:U3 X.K (.ref f)=true)(hb:Binds X.K fd ps [])
  (ha:AM X 4e6 fs) (hdb:3e4:=by decide) (he:1e5:=by rfl) (hpl:2e7:=by rfl):
  FM X 8e9 (mFnFS F ix fs):=PE.imp (pe_call G hr hg hm hk hb .nil pass0 ha hdb he hpl) fun σ H Q h=>by
 obtain ⟨ι,ρ,C,z,C',sr,e,q⟩:=h
 obtain ⟨xs,C1,e1,e⟩:=Zae e
 refine ⟨ι,ρ,C,xs,C1,sr,e1,fun vs H1 f1 c1 r1=>?_⟩
 obtain ⟨ks,ys,D,D',a1,a2,a3,a4,a5,a6,rfl⟩:=mFnFS_some e
 obtain ⟨nd,hl⟩:=pickK_ok r1 a1
 show liftSpF X.K F (vs++[]) H1 Q E0
 rw[YL]
 exact ⟨addrs ι ks,ys,D,z,D',small_cr c1 nd hl a3,Zbv c1 hl r1 a2,a4,fun p us H2 f2 c2 hp r2=>q p us H2 (f1.trans (small_fr hl f2)) (small_back c1 nd hl f2 c2 a6) hp (Reps.flat z us a5 r2)⟩
def derefA (C:Cs)(ρ:PSt):PSt:=ρ.map fun o=>match o with
 | some (.c k)=>(C[k]?).map .v
 | o=>o
def mPureF (f:6e5):PSt->M 2e9:=fun ρ C=>match f (derefA C ρ) [] with
 | some (ps,[])=>if flats ps then some (ps,C) else none
 | _=>none
theorem mPureF_some {f:6e5}{ρ:PSt}{C C':Cs}{ps:List PV}(h:mPureF f ρ C=some (ps,C')):f (derefA C ρ) []=some (ps,[])/\flats ps=true/\C'=C:=by
 unfold mPureF at h
 split at h
 ·split at h
  ·cases h;exact ⟨by assumption,by assumption,rfl⟩
  ·cases h
 ·cases h
section
variable {K:W.Frag}{ι:2e2}{H:Hp}{ρ:PSt}{σ:St}{C:Cs}
theorem SR.derefA (sr:SR K ι H ρ σ C):SR K [] H (derefA C ρ) σ []:=by
 have out:∀b o,b∉ι->H b=some o->b∉([]:List Addr)/\H b=some o:=fun b o _ z=>⟨by simp,z⟩
 refine ⟨⟨rfl,.nil,fun k a c h=>by simp at h⟩,by rw[←sr.len];simp[Pu.derefA],fun i s e=>?_⟩
 unfold Pu.derefA at e
 rw[Yx] at e
 obtain ⟨o,e1,e2⟩:=Xh.mp e
 cases o with
 | none=>cases e2
 | some x=>
  cases x with
  | v p=>
   have e2:some (SV.v p)=some s:=e2
   cases e2
   obtain ⟨v,h1,h2⟩:=sr.loc i _ e1
   exact ⟨v,h1,Rep.tr sr.cr out p v h2⟩
  | c k=>
   have e2:(C[k]?).map SV.v=some s:=e2
   obtain ⟨c,hc,rfl⟩:=Xh.mp e2
   obtain ⟨v,h1,a,rfl,ha⟩:=sr.loc i _ e1
   refine ⟨_,h1,?_⟩
   show Rep K [] H c (.ref a)
   have ok:=sr.cr.ok k a c ha hc
   cases c with
   | lst ps=>obtain ⟨vs,e,r⟩:=ok;unfold Rep;exact ⟨a,vs,rfl,.inl ⟨by simp,.inl e⟩,Reps.tr sr.cr out _ _ r⟩
   | dct ks ps=>obtain ⟨qs,vs,e,hl,hk,r⟩:=ok;unfold Rep;exact ⟨a,qs,vs,rfl,by simp,e,hl,hk,Reps.tr sr.cr out _ _ r⟩
   | dtt ks ps=>obtain ⟨vs,e,hl,r⟩:=ok;unfold Rep;exact ⟨a,vs,rfl,by simp,.inl e,hl,Reps.tr sr.cr out _ _ r⟩
   | _=>exact ok.elim
end
def mDict0T:PSt->M SV:=fun _=>ret (.v (.dtt [] []))
end Pu
namespace Pu
open PySem PySem.Spec L2
open PyProof.Rows hiding St Fr
@[irreducible] def QEM (X:Cx) (e:Expr) (f:2e4):Prop:=EM X e f
theorem QEM_eq:@QEM=@EM:=by unfold QEM;rfl
@[irreducible] def QAM (X:Cx) (es:3e2) (f:2e1):Prop:=AM X es f
theorem QAM_eq:@QAM=@AM:=by unfold QAM;rfl
@[irreducible] def QTMt (X:Cx) (e:Expr) (f:3e8):Prop:=TMt X e f
theorem QTMt_eq:@QTMt=@TMt:=by unfold QTMt;rfl
@[irreducible] def QWM (X:Cx) (e:Expr) (f:3e8):Prop:=WM X e f
theorem QWM_eq:@QWM=@WM:=by unfold QWM;rfl
@[irreducible] def QFM (X:Cx) (e:Expr) (f:6e5):Prop:=FM X e f
theorem QFM_eq:@QFM=@FM:=by unfold QFM;rfl
@[irreducible] def QSM (X:Cx) (st:Stmt) (f:7e5):Prop:=SM X st f
theorem QSM_eq:@QSM=@SM:=by unfold QSM;rfl
@[irreducible] def QBM (X:Cx) (sts:List Stmt) (f:7e5):Prop:=BM X sts f
theorem QBM_eq:@QBM=@BM:=by unfold QBM;rfl
@[irreducible] def QGM (X:Cx) (tg:Expr) (g:2e8):Prop:=GM X tg g
theorem QGM_eq:@QGM=@GM:=by unfold QGM;rfl
@[irreducible] def QGMs (X:Cx) (ts:3e2) (g:List PV->PSt->Option PSt):Prop:=GMs X ts g
theorem QGMs_eq:@QGMs=@GMs:=by unfold QGMs;rfl
@[irreducible] def QIM (X:Cx) (tg iter:Expr) (f:6e5):Prop:=IM X tg iter f
theorem QIM_eq:@QIM=@IM:=by unfold QIM;rfl
@[irreducible] def QTsM (X:Cx) (ifs:3e2) (t:3e8):Prop:=TsM X ifs t
theorem QTsM_eq:@QTsM=@TsM:=by unfold QTsM;rfl
@[irreducible] def QOM (X:Cx) (e:Option Expr) (f:PSt->M (Option Int)):Prop:=OM X e f
theorem QOM_eq:@QOM=@OM:=by unfold QOM;rfl
@[irreducible] def QDM (X:Cx) (ks:List (Option Expr)) (es:3e2) (keys:4e0) (f:2e1):Prop:=DM X ks es keys f
theorem QDM_eq:@QDM=@DM:=by unfold QDM;rfl
@[irreducible] def QJM (X:Cx) (es:3e2) (fs:2e1):Prop:=JM X es fs
theorem QJM_eq:@QJM=@JM:=by unfold QJM;rfl
end Pu
local macro_rules
 | `(tactic| subst_eqs)=>`(tactic| simp only[Pu.QEM_eq,Pu.QAM_eq,Pu.QTMt_eq,Pu.QWM_eq,Pu.QFM_eq,Pu.QSM_eq,Pu.QBM_eq,Pu.QGM_eq,Pu.QGMs_eq,Pu.QIM_eq,Pu.QTsM_eq,Pu.QOM_eq,Pu.QDM_eq,Pu.QJM_eq] at *)
namespace Pu
open PySem PySem.Spec L2
open PyProof.Rows hiding St
theorem q_WM_t {X:Cx}{e:Expr}{f:3e8}(h:QWM X e f):QTMt X e f:=by
 subst_eqs
 exact h _
section
variable {X:Cx}{a b e c:Expr}{es:3e2}{fa fb fc:2e4}{pos p:Pos}{x:Str}
theorem Zab (i:Nat){x:Str}{pos:Pos}(hN:X.N[i]? = some x:=by rfl)(hv:Vis X.env.scope x:=by first | exact Or.inl rfl | exact Or.inr 3e3 | exact Or.inr (Or.inr rfl))(hd:3e4:=by decide)
  (hcd:(x==("__classdict__":Str))=false:=by decide):QEM X (.Name x pos) (mVar i):=by
 subst_eqs
 refine PE.imp (pe_var hN hv hd hcd) fun σ H Q h_=>?_
 obtain ⟨ι,ρ,C,r,C',sr,e,q⟩:=h_
 unfold mVar at e
 cases e1:ρ[i]? with
 | none=>rw[e1] at e;cases e
 | some o=>
  cases o with
  | none=>rw[e1] at e;cases e
  | some s=>
   rw[e1] at e;cases e
   obtain ⟨v,h1,h2⟩:=sr.loc i _ e1
   exact ⟨v,h1,q v H .refl sr.cr h2⟩
theorem Zac {i j pos}:QEM X (.Constant (.int i) j pos) (mC (.int i)):=by
 subst_eqs
 exact ZcC pe_int fun ι H=>by unfold Rep;rfl
theorem q_em_bl {i j pos}:QEM X (.Constant (.bool i) j pos) (mC (.bl i)):=by
 subst_eqs
 exact ZcC pe_bl fun ι H=>by unfold Rep;rfl
theorem ZaB {i j pos}(h:i.length<=sizeLine:=by decide +kernel):QEM X (.Constant (.str i) j pos) (mC (.str i)):=by
 subst_eqs
 exact ZcC pe_str fun ι H=>by unfold Rep;exact ⟨rfl,h⟩
theorem q_em_globS {i:Str}(hg:Gl X x)(hm:∃t,X.mg x=some (.str i t))(h:i.length<=sizeLine:=by decide +kernel)(hd:3e4:=by decide):QEM X (.Name x pos) (mC (.str i)):=by
 subst_eqs
 obtain ⟨t,hm⟩:=hm
 exact ZcC (pe_glob (v:=.str i) hg hm 7e1 hd) fun ι H=>by unfold Rep;exact ⟨rfl,h⟩
theorem ZaZ {op:CmpOp}{r:R2}{g:Cs->SV->SV->Option SV}(ho:OpR X (X7 op) r)(hg:R2ok X.K r g)(ha:QEM X a fa)(hb:QEM X b fb)(hm:VD op b=false):QEM X (.Compare a [op] [b] pos) (mOp g fa fb):=by
 subst_eqs
 exact PE.imp (pe_cmpR ho ha hb hm) fun _ _ _ h=>tM_op hg h
theorem Zax {op:CmpOp}{r:R2}{g:Cs->SV->SV->Option SV}(ho:OpR X (X7 op) r)(hg:R2ok X.K r g)(ha:QEM X a fa)(hb:QEM X b fb)(hm:VD op b=false):QTMt X (.Compare a [op] [b] pos) (mTest (mOp g fa fb)):=by
 subst_eqs
 exact PT.imp (pt_cmpR ho ha hb hm) fun σ H Q h=>by
    obtain ⟨ι,ρ,C,x,C',sr,e,q⟩:=tM_test h
    exact tM_op hg ⟨ι,ρ,C,x,C',sr,e,q⟩
theorem q_tm_tru (ha:QEM X a fa)(he:∀whole,isTrue a X.env whole=(do let v ←whole;standAt a.pos;U2 [v] (truthy v)):=by intro _;rfl):QTMt X a (mTru fa):=by
 subst_eqs
 exact PT.imp (pt_truth ha he) fun σ H Q h=>by
    obtain ⟨ι,ρ,C,z,C',sr,e,q⟩:=h
    obtain ⟨x,C1,e1,e⟩:=Zae e
    obtain ⟨e2,rfl⟩:=Zav e
    refine ⟨ι,ρ,C,x,C',sr,e1,fun v H1 f1 c1 r1=>⟨z,?_,q H1 f1 c1⟩⟩
    cases hd:deref C' x with
    | none=>rw[hd] at e2;cases e2
    | some p=>rw[hd] at e2;exact (r1.lies c1 hd).tru e2
theorem ZcS {f:3e8}(h:QTMt X a f):QWM X (.BoolOp .And [a] pos) f:=by
 subst_eqs
 exact pw_and1 h
theorem Zct {rest:3e2}{f g:3e8}(h:QTMt X a f)(k:QWM X (.BoolOp .And (b::rest) pos) g):QWM X (.BoolOp .And (a::b::rest) pos) (mAndT f g):=by
 subst_eqs
 exact PW.imp (pw_and h k) fun σ H Q h=>by
   obtain ⟨ι,ρ,C,z,C',sr,e,q⟩:=h
   obtain ⟨x,C1,e1,e⟩:=Zae e
   refine ⟨ι,ρ,C,x,C1,sr,e1,fun H1 f1 c1=>?_⟩
   cases x with
   | true=>rw[if_pos rfl] at e ⊢;exact ⟨ι,ρ,C1,z,C',sr.step f1 c1,e,fun H2 f2 c2=>q H2 (f1.trans f2) c2⟩
   | false=>rw[if_neg YD] at e ⊢;cases e;exact q H1 f1 c1
theorem q_em_one {op}{f:2e4}(h:QEM X a f):QEM X (.BoolOp op [a] pos) f:=by
 subst_eqs
 exact pe_one h
theorem q_em_and {rest:3e2}{f g:2e4}(h:QEM X a f)(k:QEM X (.BoolOp .And (b::rest) pos) g):QEM X (.BoolOp .And (a::b::rest) pos) (mAndV f g):=by
 subst_eqs
 exact PE.imp (pe_and h k) fun σ H Q h=>by
   obtain ⟨ι,ρ,C,z,C',sr,e,q⟩:=h
   obtain ⟨x,C1,e1,e⟩:=Zae e
   obtain ⟨k,C2,e2,e3⟩:=Zae e
   obtain ⟨hx,hC⟩:=mB_some e2
   subst hx hC
   clear e e2
   have e:=e3
   refine ⟨ι,ρ,C,_,C2,sr,e1,fun v H1 f1 c1 r1=>⟨k,repB r1,?_⟩⟩
   cases k with
   | true=>rw[if_pos rfl] at e ⊢;exact ⟨ι,ρ,C2,z,C',sr.step f1 c1,e,fun v' H2 f2 c2 r2=>q v' H2 (f1.trans f2) c2 r2⟩
   | false=>rw[if_neg YD] at e ⊢;cases e;exact q _ H1 f1 c1 repB'
theorem Zad:QAM X [] aNil:=by
 subst_eqs;apply @am_nil<;>assumption
theorem Zaa {f:2e4}{g:2e1}(h:QEM X e f)(k:QAM X es g)(hs:1e5:=by rfl):QAM X 4e6 (aCons f g):=by
 subst_eqs;apply @am_cons<;>assumption
end
section
variable {X:Cx}{a b e c tg:Expr}{es:3e2}{st:Stmt}{rest sts sts':List Stmt}{f g:7e5}{pos p pos':Pos}{x:Str}
theorem ZaQ:QBM X [] mSkip:=by
 subst_eqs
 exact PSs.imp pss_nil fun D σ H h_=>by obtain ⟨ι,ρ,C,fl,C',sr,e,d⟩:=h_;cases e;exact d.nx0 sr
theorem Zal (h:QSM X st f):QBM X [st] f:=by
 subst_eqs
 exact pss_one h
theorem Zaf (h:QSM X st f)(k:QBM X rest g):QBM X (st::rest) (mSeq f g):=by
 subst_eqs
 exact PSs.imp (Zcy h k) fun D σ H h_=>by
   sleep 2
   obtain ⟨fl1,C1,e1,e⟩:=Zae e
   refine ⟨ι,ρ,C,fl1,C1,sr,e1,?_⟩
   cases fl1 with
   | nx ρ1=>exact fun ι2 σ' H' x sr'=>⟨ι++ι2,ρ1,C1,fl,C',sr',e,d.tr sr'.cr x⟩
   | rt r=>cases e;exact d
   | bk ρ1=>cases e;exact d
   | ct ρ1=>cases e;exact d
   | rf ps=>cases e;exact d
   | rq ps=>cases e;exact d
theorem Zbe {t:3e8}(hc:QTMt X c t)(h:QBM X sts f)(k:QBM X sts' g):QSM X (.If c sts sts' pos) (mIfS t f g):=by
 subst_eqs
 exact PS.imp (ps_if hc h k) fun D σ H h_=>by
   sleep 2
   obtain ⟨z,C1,e1,e⟩:=Zae e
   refine ⟨ι,ρ,C,z,C1,sr,e1,fun H1 f1 c1=>?_⟩
   cases z with
   | true=>rw[if_pos rfl] at e ⊢;exact ⟨ι,ρ,C1,fl,C',sr.step f1 c1,e,d.fr c1 f1⟩
   | false=>rw[if_neg YD] at e ⊢;exact ⟨ι,ρ,C1,fl,C',sr.step f1 c1,e,d.fr c1 f1⟩
theorem ZaD {f:2e4}(h:QEM X e f):QSM X (.Return (some e) pos) (mRet f):=by
 subst_eqs
 exact PS.imp (ps_ret h) fun D σ H h_=>by
   sleep 2
   obtain ⟨z,C1,e1,e⟩:=Zae e
   cases e
   exact ⟨ι,ρ,C,z,_,sr,e1,fun v H1 f1 c1 r1=>d [] v H1 (Ex.fr f1) (by rw[YL];exact c1) (by rw[YL];exact r1)⟩
theorem ZaE {f:6e5}(h:QFM X e f):QSM X (.Return (some e) pos) (mRetF f):=by
 subst_eqs
 exact PS.imp (ps_ret h) fun D σ H h_=>by
   sleep 2
   obtain ⟨ps,C1,e1,g1⟩:=Zae e
   cases g1
   exact ⟨ι,ρ,C,ps,_,sr,e1,fun q vs H1 f1 c1 hq rs=>d [] q vs H1 (Ex.fr f1) (by rw[YL];exact c1) hq (by rw[YL];exact rs)⟩
theorem ZaS {f:2e4}(h:QEM X e f)(hs:Wv e none pos.line X.env=pure false:=by rfl):QSM X (.Expr e pos) (mDrop f):=by
 subst_eqs
 exact PS.imp (ps_expr h hs) fun D σ H h_=>by
   sleep 2
   obtain ⟨z,C1,e1,e⟩:=Zae e
   cases e
   exact ⟨ι,ρ,C,z,_,sr,e1,fun v H1 f1 c1 r1=>Done.nx0 (sr.step f1 c1) (d.fr c1 f1)⟩
theorem Zao {i:Nat}{f:2e4}(hN:X.N.Nodup)(hi:X.N[i]? = some x)(hx:Loc X.env.scope x)(h:QEM X e f)(hs:Wv e (some (.Name x pos')) pos.line X.env=pure false:=by rfl)
  (hf:5e1:=by first | exact .inl rfl | exact .inr rfl | assumption):QSM X (.Assign [.Name x pos'] e pos) (mSet i f):=by
 subst_eqs
 exact PS.imp (ps_set hN hi hx h hs hf) fun D σ H h_=>by
   sleep 2
   obtain ⟨z,C1,e1,e⟩:=Zae e
   cases e
   exact ⟨ι,ρ,C,z,_,sr,e1,fun v H1 f1 c1 r1=>Done.nx0 ((sr.step f1 c1).set i r1) (d.fr c1 f1)⟩
theorem ZbA {i:Nat}{f:6e5}(hN:X.N.Nodup)(hi:X.N[i]? = some x)(hx:Loc X.env.scope x)(h:QFM X e f)(hs:Wv e (some (.Name x pos')) pos.line X.env=pure false:=by rfl)
  (hf:5e1:=by first | exact .inl rfl | exact .inr rfl | assumption):QSM X (.Assign [.Name x pos'] e pos) (mNew i f):=by
 subst_eqs
 exact PS.imp (ps_set hN hi hx h hs hf) fun D σ H h_=>by
   sleep 2
   obtain ⟨ps,C1,e1,e⟩:=Zae e
   cases e
   exact ⟨ι,ρ,C,ps,C1,sr,e1,fun q vs H' f1 c1 hq rs=>new_cell sr d f1 c1 hq rs⟩
theorem Zar {x1}{fs:2e1}(h:QAM X es fs):QEM X (.Tuple es x1 pos) (mTup fs):=by
 subst_eqs
 exact PE.imp (pe_tup h) fun σ H Q h_=>by
   obtain ⟨ι,ρ,C,z,C',sr,e,q⟩:=h_
   obtain ⟨xs,C1,e1,e⟩:=Zae e
   obtain ⟨e2,rfl⟩:=Zav e
   refine ⟨ι,ρ,C,xs,_,sr,e1,fun vs H1 f1 c1 r1=>?_⟩
   by_cases hl:xs.length<=1000
   ·rw[if_pos hl] at e2
    cases hp:plain xs with
    | none=>rw[hp] at e2;cases e2
    | some ps=>
     rw[hp] at e2;cases e2
     obtain ⟨rs,hv⟩:=Za9 hp r1
     refine ⟨by rw[hv];exact k1000 hl,fun q' hq=>q _ _ (f1.trans (Fr.new hq)) (c1.new hq) ?_⟩
     show Rep _ _ _ (.tup ps) _
     unfold Rep
     exact ⟨q',vs,rfl,Zam,Reps.stay (fun b o e=>by rw[Zag (Zak e hq)];exact e) ps vs rs⟩
   ·rw[if_neg hl] at e2;cases e2
theorem ZaF {fs:2e1}(h:QAM X es fs):QFM X (.List es pos) (mLst fs):=by
 subst_eqs;apply @fm_lst<;>assumption
theorem ZaG {f:6e5}(h:QFM X e f):QEM X e (mVal f):=by
 subst_eqs
 exact PE.imp h fun σ H Q h_=>by
   obtain ⟨ι,ρ,C,z,C',sr,e,q⟩:=h_
   obtain ⟨ps,C1,e1,e⟩:=Zae e
   cases e
   exact ⟨ι,ρ,C,ps,_,sr,e1,fun q' vs H1 f1 c1 hq rs=>q _ _ (f1.trans (Fr.new hq)) (c1.new hq) (Zci c1 hq rs)⟩
theorem Zan {i:Nat}(hN:X.N.Nodup)(hi:X.N[i]? = some x)(hx:Loc X.env.scope x)(hf:5e1:=by first | exact .inl rfl | exact .inr rfl | assumption):QGM X (.Name x pos) (hName i):=by
 subst_eqs
 exact PG.imp (pg_name hN hi hx hf) fun v σ H Q h_=>by obtain ⟨ι,ρ,C,p,ρ',sr,r,e,q⟩:=h_;cases e;exact q _ (sr.set i r)
theorem ZcW:QGMs X [] hNil:=by
 subst_eqs
 exact PGs.imp pgs_nil fun v σ H Q h_=>by
   obtain ⟨ι,ρ,C,p,ρ',sr,r,e,q⟩:=h_
   cases p with
   | nil=>cases e;exact ⟨r.inv0,q σ sr⟩
   | cons _ _=>cases e
theorem ZaR {g:2e8}{gs:List PV->PSt->Option PSt}(h:QGM X e g)(k:QGMs X es gs)(hs:(WX 4e6 X.env).map (·.2)=assign e X.env::(WX es X.env).map (·.2):=by rfl):QGMs X 4e6 (hCons g gs):=by
 subst_eqs
 exact PGs.imp (pgs_cons h k hs) fun v σ H Q h_=>by
    obtain ⟨ι,ρ,C,p,ρ',sr,r,e,q⟩:=h_
    cases p with
    | nil=>cases e
    | cons p ps=>
     obtain ⟨w,ws,rfl,r1,r2⟩:=r.inv
     replace e:(g p ρ).bind (fun ρ'=>gs ps ρ')=some ρ':=e
     cases h1:g p ρ with
     | none=>rw[h1] at e;cases e
     | some ρ1=>
      rw[h1] at e
      exact ⟨w,ws,rfl,ι,ρ,C,p,ρ1,sr,r1,h1,fun σ1 sr1=>⟨ι,ρ1,C,ps,ρ',sr1,r2,e,q⟩⟩
theorem q_gm_tup {gs:List PV->PSt->Option PSt}{k n:Nat}(hc:5e2)(h:QGMs X es gs)(hn:(WX es X.env).length=n:=by rfl)(hst:(WX es X.env).findIdx? (·.1)=none:=by rfl):QGM X (.Tuple es k pos) (hTup gs n):=by
 subst_eqs
 exact PG.imp (pg_tup hc h hn hst) fun v σ H Q h_=>by
    obtain ⟨ι,ρ,C,p,ρ',sr,r,e,q⟩:=h_
    cases p with
    | tup ps=>
     unfold Rep at r
     obtain ⟨a,vs,rfl,sq,rs⟩:=r
     replace e:(if ps.length=n then gs ps ρ else none)=some ρ':=e
     by_cases hl:ps.length=n
     ·rw[if_pos hl] at e
      exact ⟨a,vs,rfl,sq.sq,by rw[←rs.length];exact hl,ι,ρ,C,ps,ρ',sr,rs,e,q⟩
     ·rw[if_neg hl] at e;cases e
    | _=>cases e
end
section
variable {X:Cx}{e tg iter elt:Expr}{es:3e2}{body:List Stmt}{f:7e5}{pos p:Pos}{x:Str}
theorem q_sm_for {it:6e5}{g:2e8}(hp:UU 2e0 X.A X.env X.xe)(hc:5e2)(hi:QIM X tg iter it)(hg:QGM X tg g)(hb:QBM X body f)
  (hs:7e7:=by intro _;rfl):QSM X (.For tg iter body [] pos) (mFor it g f):=by
 subst_eqs
 exact PS.imp (ps_for hp hc hi hg hb hs) fun D σ H h_=>by
   sleep 2
   obtain ⟨xs,C1,e1,e⟩:=Zae e
   refine ⟨ι,ρ,C,xs,C1,sr,e1,fun J H1 f1 c1 it1=>?_⟩
   have d1:=d.fr c1 f1
   have sr1:=sr.step f1 c1
   refine ⟨fun i m σ2 H2=>∃ι2 ρ2 C2,m=xs.length - i/\i<=xs.length/\Ex ι ι2 H1 H2/\SR X.K 5e8 H2 ρ2 σ2 C2/\loop g f (xs.drop i) ρ2 C2=some (fl,C'),⟨xs.length,[],ρ,C1,rfl,Y4 _,Ex.fr .refl,by rw[YL];exact sr1,e⟩,?_⟩
   rintro i m σ2 H2 ⟨ι2,ρ2,C2,rfl,hi2,x2,sr2,e2⟩
   rcases YS i xs.length with hlt | hge
   ·right
    refine ⟨it1.go ι2 H2 C2 x2 sr2.cr i hlt,fun σ' H'=>∃ι2 ρ2 C2,Ex ι ι2 H1 H'/\SR X.K 5e8 H' ρ2 σ' C2/\loop g f (xs.drop (i + 1)) ρ2 C2=some (fl,C'),?_,?_⟩
    ·rintro σ' H' ⟨ι3,ρ3,C3,x3,sr3,e3⟩
     exact ⟨xs.length - (i + 1),by lia,ι3,ρ3,C3,rfl,hlt,x3,sr3,e3⟩
    ·intro v H3 y
     obtain ⟨sm,q,hq,rq⟩:=it1.yld ι2 H2 C2 x2 sr2.cr i v H3 hlt y
     have hd:xs.drop i=q::xs.drop (i + 1):=by
      rw[Xr hlt]
      rw[Yd hlt] at hq
      rw[YI hq]
     rw[hd] at e2
     unfold loop at e2
     cases hg1:g q ρ2 with
     | none=>rw[hg1] at e2;cases e2
     | some ρ3=>
      rw[hg1] at e2
      obtain ⟨fl1,C3,e3,e4⟩:=Zae e2
      have fr3:Fr 5e8 H2 H3:=fun b o _ z=>sm b o z
      have cr3:CR X.K 5e8 H3 C2:=sr2.cr.same sm
      have x3:Ex ι ι2 H1 H3:=⟨fun b o n z=>sm b o (x2.1 b o n z),x2.2⟩
      refine ⟨ι++ι2,ρ2,C2,q,ρ3,sr2.step fr3 cr3,rq,hg1,fun σ4 sr4=>⟨ι++ι2,ρ3,C2,fl1,C3,sr4,e3,?_⟩⟩
      cases fl1 with
      | nx ρ5=>exact fun ι5 σ5 H5 x5 sr5=>⟨ι2++ι5,ρ5,C3,x3.trans cr3 x5,by rw[←Yh];exact sr5,e4⟩
      | ct ρ5=>exact fun ι5 σ5 H5 x5 sr5=>⟨ι2++ι5,ρ5,C3,x3.trans cr3 x5,by rw[←Yh];exact sr5,e4⟩
      | bk ρ5=>cases e4;exact fun ι5 σ5 H5 x5 sr5=>d1 (ι2++ι5) σ5 H5 (x3.trans cr3 x5) (by rw[←Yh];exact sr5)
      | rf ps=>cases e4;exact fun ι5 q5 vs5 H5 x5 c5 h5 r5=>d1 (ι2++ι5) q5 vs5 H5 (x3.trans cr3 x5) (by rw[←Yh];exact c5) h5 (by rw[←Yh];exact r5)
      | rq ps=>cases e4;exact fun ι5 q5 vs5 H5 x5 c5 h5 r5=>d1 (ι2++ι5) q5 vs5 H5 (x3.trans cr3 x5) (by rw[←Yh];exact c5) h5 (by rw[←Yh];exact r5)
      | rt r=>cases e4;exact fun ι5 v5 H5 x5 c5 r5=>d1 (ι2++ι5) v5 H5 (x3.trans cr3 x5) (by rw[←Yh];exact c5) (by rw[←Yh];exact r5)
   ·left
    have hi3:i=xs.length:=by lia
    subst hi3
    rw[WR] at e2
    cases e2
    exact ⟨it1.stop ι2 H2 _ x2 sr2.cr,d1 ι2 σ2 H2 x2 sr2⟩
section
variable {ifs:3e2}{scope:Scope}{vs fs:4e0}{fr:6e3}{it:6e5}{g:2e8}{tt:3e8}{te:2e4}
theorem ZaO:QTsM X [] tOk:=by
 subst_eqs
 exact fun pins s σ H Q I h_=>by
   obtain ⟨ι,ρ,C,b,C',sr,e,q⟩:=h_
   cases e
   exact pts_nil pins s σ H Q I (q H .refl sr.cr)
theorem Zcu {c:Expr}{t:3e8}(h:QTMt X c t):QTsM X [c] t:=by
 subst_eqs
 exact pts_one h
theorem q_fm_comp (S:6e2)(hc:5e2)(hi:QIM X tg iter it)
  (bG:∀C s₀ H₀ ex pn,QGM 1e0 tg g) (bT:∀C s₀ H₀ ex pn,QTsM 1e0 ifs tt) (bE:∀C s₀ H₀ ex pn,QEM 1e0 elt te)
  (hs:7e7:=by intro _;rfl):QFM X 6e4 (mComp it vs fr g tt te):=by
 subst_eqs
 exact PE.imp (pe_comp (g:=tMG X.K g) (tt:=tMB X.K tt) (te:=tM X.K te) S hc hi bG bT bE hs) fun σ H Q ⟨ι,ρ,C,res,C',sr,e,q⟩=>Zdk sr e q
theorem q_sm_comp {i:Nat}{px spos:Pos}(hN:X.N.Nodup)(hx:X.N[i]? = some x)(hl:X.env.scope.names.lookup x=some .local)(S:6e2)(hc:5e2)(hi:QIM X tg iter it)
  (bG:∀C s₀ H₀ ex pn,QGM 1e0 tg g) (bT:∀C s₀ H₀ ex pn,QTsM 1e0 ifs tt) (bE:∀C s₀ H₀ ex pn,QEM 1e0 elt te)
  (hsw:Wv 6e4 (some (.Name x px)) spos.line X.env=pure true:=by rfl) (hs:7e7:=by intro _;rfl):
  QSM X (.Assign [.Name x px] 6e4 spos) (mSet i (mVal (mComp it vs fr g tt te))):=by
 subst_eqs
 exact PS.imp (ps_comp (g:=tMG X.K g) (tt:=tMB X.K tt) (te:=tM X.K te) hN hx hl S hc hi bG bT bE hsw hs) fun D σ H h_=>by
   sleep 2
   obtain ⟨z,C1,e1,e⟩:=Zae e
   cases e
   obtain ⟨res,C2,e2,e3⟩:=Zae e1
   cases e3
   exact Zdk sr e2 fun q vs H' f1 c1 hq rs=>Done.nx0 (((sr.step f1 c1).step (Fr.new hq) (c1.new hq)).set i (s:=.v (.lst _)) (Zci c1 hq rs)) (d.fr (c1.new hq) (f1.trans (Fr.new hq)))
end
end
section
variable {P:Yy}{w:World}{K:W.Frag}{mg:2e6}{base:Heap}
theorem q_fn_mk {x qual:Str}{st:Stmt}{f:Addr}{fd:Wh}{N ps:4e0}{k:Nat}{body:7e5}(F:Fun K x qual st f fd)(S:FnScope N ps (defScope st))
  (hbody:∀(cdv:Value) (A:Around) (outer:List Env) (s:Shared) (H:Hp) (E:XK),Room k (A.deeper (envOfC qual (defScope st) s.heap.objs.size f cdv))->
   QBM (cxOf CX0 P w K mg base N qual (defScope st) f cdv A outer s H E).nox (defBody st) body):FnOk P w K mg base CX0 (k + 1) f fd ps (liftSp K (mDef ps.length (N.length - ps.length) body)):=by
 subst_eqs;apply @fn_mk<;>assumption
end
end Pu
namespace Pu
open PySem PySem.Spec L2
open PyProof.Rows hiding St Fr
section
variable {X:Cx}
variable {a b e c:Expr}{es:3e2}{fa fb fc:2e4}{pos p:Pos}{x:Str}
theorem Zap (ha:QEM X a fa)(hb:QEM X b fb):QEM X (.BinOp a .Add b pos) (mOp 8e1 fa fb):=by
 subst_eqs
 exact em_op op_addAll add_ok.r ha hb
theorem q_em_sub (ha:QEM X a fa)(hb:QEM X b fb):QEM X (.BinOp a .Sub b pos) (mOp (g2 subP) fa fb):=by
 subst_eqs
 exact em_op op_sub (int_ok0 fun _ _ _ _=>repI).r ha hb
theorem ZaI (ha:QEM X a fa)(hb:QEM X b fb):QEM X (.BinOp a .Mult b pos) (mOp (g2 mulP) fa fb):=by
 subst_eqs
 exact em_op op_mul (int_ok fun i j h=>by
   rw[Uv] at h
   rcases h with h | h
   ·exact .inl (of_decide_eq_true h)
   ·exact .inr (of_decide_eq_true h)).r ha hb
theorem Zaz (ha:QEM X a fa)(hb:QEM X b fb):QEM X (.BinOp a .Mod b pos) (mOp (g2 modP) fa fb):=by
 subst_eqs
 exact em_op op_mod (int_ok fun i j h=>of_decide_eq_true h).r ha hb
theorem q_em_pow (ha:QEM X a fa)(hb:QEM X b fb):QEM X (.BinOp a .Pow b pos) (mOp (g2 powP) fa fb):=by
 subst_eqs
 exact em_op op_pow (int_ok fun i j h=>by
   have h:=of_decide_eq_true h
   exact ⟨h.1,Int.le_trans h.2.1 (by decide),h.2.2⟩).r ha hb
theorem q_em_neg (ha:QEM X a fa):QEM X (.UnaryOp .USub a pos) (mNeg fa):=by
 subst_eqs
 refine PE.imp (pe_un un_neg ha) fun σ H Q h_=>?_
 obtain ⟨ι,ρ,C,z,C',sr,e,k⟩:=h_
 obtain ⟨x,C1,e1,e⟩:=Zae e
 obtain ⟨e2,rfl⟩:=Zav e
 refine ⟨ι,ρ,C,x,_,sr,e1,fun v H1 f1 c1 r1=>?_⟩
 unfold negP at e2
 split at e2
 ·rename_i i hd
  cases e2
  have l:=r1.lies c1 hd
  cases l
  exact ⟨i,rfl,k _ H1 f1 c1 (show Rep _ _ _ _ _ from repI)⟩
 ·cases e2
end
section
variable {X:Cx}{a b e c o:Expr}{es:3e2}{fa fb fc fo:2e4}{fs:2e1}{pos p apos cpos:Pos}{x:Str}
theorem q_em_len (hgl:Gl X "len")(hm:X.mg "len"=none)(ha:QAM X 4e6 fs)
  (he:1e5:=by rfl) (hpl:2e7:=by rfl):QEM X (.Call (.Name "len" p) 4e6 [] pos) (mCB (g1 lenH) fs):=by
 subst_eqs
 exact em_callB call_len len_ok.c hgl hm PySem.boot_len ha 1e4 1e4 he hpl
theorem Zcw (hc:5e2)(hgl:Gl X "max")(hm:X.mg "max"=none)(hv:Xz "max"=some (.builtin "max"))(ha:QAM X 4e6 fs)
  (he:1e5:=by rfl) (hpl:2e7:=by rfl):QEM X (.Call (.Name "max" p) 4e6 [] pos) (mCB (g1 maxH) fs):=by
 subst_eqs
 exact em_callB (call_max2 hc) max_ok.c hgl hm hv ha 1e4 1e4 he hpl
theorem q_em_intc (hgl:Gl X "int")(hm:X.mg "int"=none)(hv:Xz "int"=some (.type "int"))(ha:QAM X 4e6 fs)
  (he:1e5:=by rfl) (hpl:2e7:=by rfl):QEM X (.Call (.Name "int" p) 4e6 [] pos) (mCB (g1 intH) fs):=by
 subst_eqs
 exact em_callTy call_int1 intc_ok.c hgl hm hv ha 1e4 1e4 he hpl
theorem q_em_tupc (hgl:Gl X "tuple")(hm:X.mg "tuple"=none)(hv:Xz "tuple"=some (.type "tuple"))(ha:QAM X 4e6 fs)
  (he:1e5:=by rfl) (hpl:2e7:=by rfl):QEM X (.Call (.Name "tuple" p) 4e6 [] pos) (mCB (g1 tupH) fs):=by
 subst_eqs
 exact em_callTy call_tuple_of tup_ok.c hgl hm hv ha 1e4 1e4 he hpl
end
section
variable {X:Cx}{a b e c o i:Expr}{es:3e2}{fa fb fc fo fi fv:2e4}{fs:2e1}{pos p apos cpos:Pos}{x:Str}
theorem ZaT (ho:QEM X o fo)(ha:QAM X 4e6 fs)(hbase:XW o "append" X.env (eval o X.env)=eval o X.env:=by rfl)
  (hfew:((backTo cpos (Ys 4e6 X.env)).all (fun x=>!x.1)&&(backToKw cpos (U4 [] X.env)).all (fun x=>x.1.isSome)
   &&decide ((e::es).length + ([]:List U5).length + (if ([]:List U5).isEmpty then 0 else 1) < 30))=true:=by rfl)
  (hline:(apos.endLine==cpos.line)=true:=by rfl) (hs:1e5:=by rfl) (hplain:(backTo cpos (Ys es X.env)).any (·.1)=false:=by rfl):
  QEM X (.Call (.Attribute o "append" apos) 4e6 [] cpos) (mApp fo fs):=by
 subst_eqs
 exact PE.imp (pe_bm VU PySem.F.slot_list_append PySem.F.type_list_append mt_append ho ha hbase hfew hline hs hplain) fun σ H Q h_=>by
    obtain ⟨ι,ρ,C,z,C',sr,e,q⟩:=h_
    obtain ⟨x,C1,e1,g1⟩:=Zae e
    obtain ⟨u,C2,e2,g2⟩:=Zae g1
    obtain ⟨ys,C3,e3,g3⟩:=Zae g2
    obtain ⟨hC,k,ps0,hx,hc0⟩:=ZdE e2
    obtain ⟨k',p',ps,hx',hy,hc,hl,hr,hC'⟩:=appC_some g3
    clear e g1 g2 g3 e2
    subst hC hx hr hC' hy
    cases hx'
    refine ⟨ι,ρ,C,_,_,sr,e1,fun v H1 f1 c1 r1=>?_⟩
    obtain ⟨a,rfl,hk⟩:=r1
    obtain ⟨vs0,h0,_⟩:=Zca c1 hk hc0
    refine ⟨.inl ⟨rfl,_,.of h0⟩,ι,ρ,_,_,C3,sr.step f1 c1,e3,fun ws H2 f2 c2 r2=>?_⟩
    obtain ⟨w,wr,rfl,rw1,hw⟩:=r2
    cases (show wr=[] from hw)
    obtain ⟨vs,h1,rv⟩:=Zca c2 hk hc
    obtain ⟨c4,f4⟩:=cr_set c2 hk (rv.append (.cons rw1 .nil))
    exact ⟨a,vs,w,rfl,rfl,h1,by rw[←rv.length];exact Yo hl (k100000 (Yi _)),q _ _ (f1.trans (f2.trans f4)) c4 (show Rep _ _ _ _ _ from repN)⟩
theorem Zdx {spos:Pos}(hv:QEM X e fv)(ho:QEM X o fo)(hi:QEM X i fi)
  (ha:∀v,assign (.Subscript o i spos) X.env v=(do
   let ov ←U2 [v] (eval o X.env)
   let iv ←U2 [v,ov] (eval i X.env)
   standAt spos
   U2 [v,ov,iv] (setItem ov iv v)
   release [v,ov,iv] []):=by intro _;rfl)
  (hs:swapsWithSole [.Subscript o i spos] e pos.line X.env=pure false:=by rfl) (hw:swappedStores [.Subscript o i spos] e X.env=pure none:=by rfl)
  (h1:(WX [.Subscript o i spos] X.env).map (·.2)=[assign (.Subscript o i spos) X.env]:=by rfl):QSM X (.Assign [.Subscript o i spos] e pos) (mSetIx fv fo fi):=by
 subst_eqs
 exact PS.imp (ps_asg hv (pg_sub ho hi set_list ha) hs hw h1) fun D σ H h_=>by
    sleep 2
    obtain ⟨v,C1,e1,g1⟩:=Zae e
    obtain ⟨o,C2,e2,g2⟩:=Zae g1
    obtain ⟨i,C3,e3,g3⟩:=Zae g2
    obtain ⟨k,n,p',ps,j,ho,hi,hv,hc,hj,hf,hC⟩:=setC_some g3
    clear e g1 g2 g3
    subst ho hi hv hf hC
    refine ⟨ι,ρ,C,_,C1,sr,e1,fun x H1 f1 c1 r1=>⟨ι,ρ,C1,_,C2,sr.step f1 c1,e2,fun y H2 f2 c2 r2=>⟨ι,ρ,C2,_,C3,(sr.step f1 c1).step f2 c2,e3,fun w H3 f3 c3 r3=>?_⟩⟩⟩
    obtain ⟨a,rfl,hk⟩:=r2
    have r3:w=.int n:=by unfold RepS Rep at r3;exact r3
    obtain ⟨vs,h1,rv⟩:=Zca c3 hk hc
    have r1':Rep X.K ι H3 p' x:=Rep.mono c2 f3 _ _ (Rep.mono c1 f2 _ _ r1)
    obtain ⟨c4,f4⟩:=cr_set c3 hk (rv.set j r1')
    refine ⟨a,vs,n,j,rfl,r3,h1,by rw[←rv.length];exact hj,?_⟩
    exact Done.nx0 ((((sr.step f1 c1).step f2 c2).step f3 c3).step f4 c4) (d.fr c4 (f1.trans (f2.trans (f3.trans f4))))
variable {tg l:Expr}
theorem ZaP (hl:QEM X l fa):QIM X tg l (mItems fa):=by
 subst_eqs
 intro pins s σ H R I h
 obtain ⟨ι,ρ,C,xs,C',sr,e,q⟩:=h
 obtain ⟨x,C1,e1,e⟩:=Zae e
 obtain ⟨e2,rfl⟩:=Zav e
 refine thn (hl pins s σ H (fun v H1=>Fr ι H H1/\CR X.K ι H1 C'/\RepS X.K ι H1 x v) I ⟨ι,ρ,C,x,C',sr,e1,fun v H1 f1 c1 r1=>⟨f1,c1,r1⟩⟩) fun v s1 h_=>?_
 obtain ⟨y,H1,I1,r1,f1,c1,rx⟩:=h_
 have fp:∀b∈[s1.heap.objs.size],FpOk X pins H1 b:=fun b hb=>by
  have e:b=s1.heap.objs.size:=by simpa using hb
  subst e
  exact I1.fpOk (Yi _) (I1.hok.fresh (Yi _))
 unfold itemsP at e2
 split at e2
 ·cases e2
  have rx:Rep X.K ι H1 (.lst _) y:=rx
  unfold Rep at rx
  obtain ⟨a,vs,rfl,hq,rv⟩:=rx
  cases r1
  obtain ⟨its,_,p,hz⟩:=I1.list hq.sq
  refine UZ p.isList ?_
  exact ⟨s1.heap.objs.size,[s1.heap.objs.size],_,_,H1,rfl,I1.kept (t':=s1.toks) fun b o e=>Yb _ e,turn_list a _,8e8,fp,q _ H1 f1 c1 (iter_list c1 hq rv)⟩
 ·cases e2
  have rx:Rep X.K ι H1 (.tup _) y:=rx
  unfold Rep at rx
  obtain ⟨a,vs,rfl,hq,rv⟩:=rx
  cases r1
  obtain ⟨its,_,p,hz⟩:=I1.tuple hq.sq
  refine wpAny_pyIter_tuple (show s1.heap.IsTuple a its.toArray from p) ?_
  exact ⟨s1.heap.objs.size,[s1.heap.objs.size],_,_,H1,rfl,I1.kept (t':=s1.toks) fun b o e=>Yb _ e,turn_tuple a _,8e8,fp,q _ H1 f1 c1 (iter_tup c1 hq.sq rv)⟩
 ·cases e2
  have rx:Rep X.K ι H1 (.str _) y:=rx
  rename Str=>z
  unfold Rep at rx
  obtain ⟨rfl,hz⟩:=rx
  obtain ⟨t,rfl⟩:=r1
  cases ha:z.cps.all (· < 128)
  ·exact wpAny_pyIter_wide ha ⟨s1.heap.objs.size,[s1.heap.objs.size],_,_,H1,rfl,I1.kept (t':=s1.toks) fun b o e=>Yb _ e,turn_str (t:=t) (.inr rfl),8e8,fp,q _ H1 f1 c1 iter_str⟩
  ·exact wpAny_pyIter_ascii ha ⟨s1.heap.objs.size,[s1.heap.objs.size],_,_,H1,rfl,I1.kept (t':=s1.toks) fun b o e=>Yb _ e,turn_str (t:=t) (.inl rfl),8e8,fp,q _ H1 f1 c1 iter_str⟩
 ·cases e2
theorem ZbN (hg:Gl X "range")(hm:X.mg "range"=none)(ha:QAM X [a] fs)(hs:Ys [a] X.env=[(false,eval a X.env)]:=by rfl):QIM X tg (.Call (.Name "range" p) [a] [] pos) (mRange1 fs):=by
 subst_eqs
 exact PI.imp (pi_range1 hg hm ha hs) fun σ H R h_=>by
    obtain ⟨ι,ρ,C,xs,C',sr,e,q⟩:=h_
    obtain ⟨zs,C1,e1,g1⟩:=Zae e
    obtain ⟨e2,hC⟩:=Zav g1
    subst hC
    refine ⟨ι,ρ,C,zs,_,sr,e1,fun vs H1 f1 c1 r1=>?_⟩
    obtain ⟨j,rfl,h,rfl⟩:=rng1_some e2
    obtain ⟨v,w,rfl,r1,hw⟩:=r1
    cases (show w=[] from hw)
    have r1:v=.int j:=by unfold RepS Rep at r1;exact r1
    subst r1
    exact ⟨j,rfl,by lia,by lia,q _ H1 f1 c1 iter_range⟩
end
section
variable {X:Cx}{a b e c o i:Expr}{es:3e2}{fa fb fc fo fi fv:2e4}{fs:2e1}{pos p apos cpos p2:Pos}{x:Str}{lo hi:Option Expr}{l h:PSt->M (Option Int)}
theorem ZcV:QOM X none oNo:=by
 subst_eqs
 exact PO.imp po_none fun σ H Q h_=>by obtain ⟨ι,ρ,C,r,C',sr,e,q⟩:=h_;cases e;exact q H .refl sr.cr
theorem ZcU (he:QEM X e fa):QOM X (some e) (oPart fa):=by
 subst_eqs
 exact PO.imp (po_some he) fun σ H Q h_=>by
   obtain ⟨ι,ρ,C,r,C',sr,e,q⟩:=h_
   obtain ⟨z,C1,e1,g1⟩:=Zae e
   obtain ⟨e2,hC⟩:=Zav g1
   subst hC
   refine ⟨ι,ρ,C,z,_,sr,e1,fun v H1 f1 c1 r1=>?_⟩
   unfold intD at e2
   split at e2
   ·rename_i j hd
    cases e2
    have l:=r1.lies c1 hd
    cases l
    exact ⟨j,rfl,q H1 f1 c1⟩
   ·cases e2
theorem Zcg (he:QEM X e fa)(hl:QOM X lo l)(hh:QOM X hi h):QEM X (.Subscript e (.Slice lo hi none p2) pos) (mSlice fa l h):=by
 subst_eqs
 exact PE.imp (pe_slice (SlR.or sl_list (SlR.or sl_tup sl_tupW)) he hl hh) fun σ H Q h_=>by
    obtain ⟨ι,ρ,C,z,C',sr,e,q⟩:=h_
    obtain ⟨x,C1,e1,g1⟩:=Zae e
    obtain ⟨i,C2,e2,g2⟩:=Zae g1
    obtain ⟨j,C3,e3,g3⟩:=Zae g2
    obtain ⟨e4,hC⟩:=Zav g3
    subst hC
    clear e g1 g2 g3
    refine ⟨ι,ρ,C,x,C1,sr,e1,fun v H1 f1 c1 r1=>⟨ι,ρ,C1,i,C2,sr.step f1 c1,e2,fun H2 f2 c2=>⟨ι,ρ,C2,j,_,(sr.step f1 c1).step f2 c2,e3,fun H3 f3 c3=>?_⟩⟩⟩
    have fr:=f1.trans (f2.trans f3)
    have r3:=(r1.mono c1 f2).mono c2 f3
    rcases sliceD_some e4 with ⟨xs,hd,rfl⟩ | ⟨xs,hd,rfl⟩
    ·obtain ⟨a,vs,rfl,h1,rv⟩:=liesL (r3.lies c3 hd)
     exact .inl ⟨a,vs,rfl,h1,fun p hp=>q _ _ (fr.trans (Fr.new hp)) (c3.new hp) (show Rep _ _ _ _ _ from Zci c3 hp (reps_cut rv i j))⟩
    ·obtain ⟨a,vs,rfl,h1,rv⟩:=liesT (r3.lies c3 hd)
     by_cases hw:HT.sIx vs.length 0 i=0/\HT.sIx vs.length vs.length j=vs.length
     ·refine .inr (.inr ⟨a,vs,rfl,h1.sq,hw,?_⟩)
      rw[←rv.length] at hw
      rw[cut_whole hw] at q
      exact q _ H3 fr c3 (show Rep _ _ _ _ _ by unfold Rep;exact ⟨a,vs,rfl,h1,rv⟩)
     ·exact .inr (.inl ⟨a,vs,rfl,h1.sq,hw,fun p hp=>q _ _ (fr.trans (Fr.new hp)) (c3.new hp) (show Rep _ _ _ _ _ from Zc1 hp (reps_cut rv i j))⟩)
end
section
variable {X:Cx}{a b e c o i:Expr}{es:3e2}{fa fb fc fo fi fv:2e4}{fs:2e1}{pos p apos cpos p2:Pos}{x:Str}
theorem Zaj (hu:X.A.units + 1 < cLine)(ha:QEM X a fa)(hb:QEM X b fb)(hs:PlainIx b:=by exact fun _ _=>rfl):QEM X (.Subscript a b pos) (mOp 4e9 fa fb):=by
 subst_eqs
 exact em_ix (IxR.or ix_seq (ix_dict hu)) ixQ_ok.r ha hb hs
theorem q_dm_nil:QDM X [] [] [] aNil:=by
 subst_eqs
 exact fun pos pins s σ H Q I h_=>by
   obtain ⟨ι,ρ,C,r,C',sr,e,q⟩:=h_
   cases e
   exact PySem.pairTrees_nil_walk ⟨[],H,I,trivial,q [] H .refl sr.cr rfl⟩
theorem ZbX {k:Str}{j1:Nat}{p1:Pos}{ks:List (Option Expr)}{keys:4e0}(h:QEM X e fa)(t:QDM X ks es keys fs):QDM X (some (.Constant (.str k) j1 p1)::ks) 4e6 (k::keys) (aCons fa fs):=by
 subst_eqs
 intro pos pins s σ H Q I h_
 obtain ⟨ι,ρ,C,r,C',sr,e,q⟩:=h_
 obtain ⟨x,C1,e1,g1⟩:=Zae e
 obtain ⟨xs,C2,e2,g2⟩:=Zae g1
 cases g2
 refine PySem.pairTrees_cons_walk (Calls.Constant_str ?_)
 refine thn (h pins _ σ H (fun v H1=>Fr ι H H1/\CR X.K ι H1 C1/\RepS X.K ι H1 x v) (I.tok _) ⟨ι,ρ,C,x,C1,sr,e1,fun v H1 f1 c1 r1=>⟨f1,c1,r1⟩⟩) fun u s1 h_=>?_
 obtain ⟨v,H1,I1,r1,f1,c1,rx⟩:=h_
 refine thn (t pos pins s1 σ H1 (fun vs H2=>Fr ι H1 H2/\CR X.K ι H2 C'/\RepSs X.K ι H2 xs vs) I1 ⟨ι,ρ,C1,xs,C',sr.step f1 c1,e2,fun vs H2 f2 c2 r2=>⟨f2,c2,r2⟩⟩) fun us s2 h_=>?_
 obtain ⟨vs,H2,I2,pr,f2,c2,rs⟩:=h_
 exact ⟨v::vs,H2,I2,⟨Zc9 k _,r1,pr⟩,q (v::vs) H2 (f1.trans f2) c2 ⟨v,vs,rfl,rx.mono c1 f2,rs⟩⟩
end
end Pu
namespace Pu
open PySem PySem.Spec PySem.W PySem.Calls L2 PySem.SeqAt
open PyProof.Rows hiding St Fr
section
variable {X:Cx}{e o i:Expr}{es:3e2}{fs:2e1}{p pos pos':Pos}{x:Str}{fv fo fi:2e4}
theorem q_sm_newT {n:Nat}{dpos:Pos}(hN:X.N.Nodup)(hi:X.N[n]? = some x)(hx:Loc X.env.scope x)(hs:Wv (.Dict [] [] dpos) (some (.Name x pos')) pos.line X.env=pure false:=by rfl)
  (hf:5e1:=by first | exact .inl rfl | exact .inr rfl | assumption):QSM X (.Assign [.Name x pos'] (.Dict [] [] dpos) pos) (mNewT n):=by
 subst_eqs
 exact PS.imp (ps_set hN hi hx pe_dnewT hs hf) fun D σ H h_=>by
   sleep 2
   cases e
   intro q hq
   have c1:=sr.cr
   have c2:CR X.K (ι++[q]) (upd H q (.dT [])) (C++[.dtt [] []]):=c1.add hq ⟨[],Zam,rfl,.nil⟩
   have x:Ex ι [q] H (upd H q (.dT [])):=⟨Fr.new hq,fun b hb=>by
    have:b=q:=by simpa using hb
    subst this;exact hq⟩
   refine d [q] _ _ x ((sr.ex x c2).set n ⟨q,rfl,?_⟩)
   rw[←c1.len];simp
theorem ZcT {spos:Pos}(hu:5e9)(hv:QEM X e fv)(ho:QEM X o fo)(hi:QEM X i fi)
  (hs:Wv e (some (.Subscript o i spos)) pos.line X.env=pure false:=by rfl):QSM X (.Assign [.Subscript o i spos] e pos) (mSetIxT fv fo fi):=by
 subst_eqs
 exact PS.imp (ps_dput 1e2 ho hi hv hs) fun D σ H h_=>by
    sleep 2
    obtain ⟨v,C1,e1,g1⟩:=Zae e
    obtain ⟨o,C2,e2,g2⟩:=Zae g1
    obtain ⟨i,C3,e3,g3⟩:=Zae g2
    obtain ⟨k,qs,p',ks,ps,key,ho,hi,hv,hc,hj,hlen,hf,hC⟩:=setT_some g3
    clear e g1 g2 g3
    subst ho hi hv hf hC
    refine ⟨ι,ρ,C,_,C1,sr,e1,fun x H1 f1 c1 r1=>⟨ι,ρ,C1,_,C2,sr.step f1 c1,e2,fun y H2 f2 c2 r2=>⟨ι,ρ,C2,_,C3,(sr.step f1 c1).step f2 c2,e3,fun w H3 f3 c3 r3=>?_⟩⟩⟩
    obtain ⟨a,rfl,hk⟩:=r2
    obtain ⟨vs,h1,hl,rv⟩:=(show CellOk X.K ι H3 a (.dtt ks ps) from c3.ok k a _ hk hc)
    obtain ⟨b,rfl,hb⟩:=ZbM (show Rep X.K ι H3 (.tup qs) w from r3) hj
    have r1':Rep X.K ι H3 p' x:=Rep.mono c2 f3 _ _ (Rep.mono c1 f2 _ _ r1)
    obtain ⟨z1,z2⟩:=put_zip (k:=key) (v:=x) hl
    have fr:Fr ι H3 (upd H3 a (.dT (putK (ks.zip vs) key x))):=fun b u n e=>by
     rw[Zag (fun z=>n (by rw[z];exact YB hk))];exact e
    have c4:CR X.K ι (upd H3 a (.dT (putK (ks.zip vs) key x))) (C3.set k (.dtt (putKs ks key) (putVs ks ps key p'))):=
     c3.put hk ⟨putVs ks vs key x,by rw[←z1];exact Zam,z2,Reps.mono c3 fr _ _ (reps_put r1' rv)⟩
    refine ⟨a,_,rfl,DPut.t h1 hb (by rw[WD,YN];lia),?_⟩
    exact Done.nx0 ((((sr.step f1 c1).step f2 c2).step f3 c3).step fr c4) (d.fr c4 (f1.trans (f2.trans (f3.trans fr))))
end
section
variable {X:Cx}{a b:Expr}{fa fb:2e4}{pos:Pos}
theorem Zbf (hu:X.A.units + 1 < cLine)(ha:QEM X a fa)(hb:QEM X b fb)(hs:PlainIx b:=by exact fun _ _=>rfl):QEM X (.Subscript a b pos) (mOp (g2 ixT) fa fb):=by
 subst_eqs
 exact em_ix (IxR.or ix_seq (ix_dict hu)) ixT_ok.r ha hb hs
end
section
variable {X:Cx}{pos:Pos}{c:Expr}{f:7e5}{body:List Stmt}
theorem q_sm_while {t:3e8}(hp:UU 2e0 X.A X.env X.xe)(hc:QTMt X c t)(hb:QBM X body f):QSM X (.While c body [] pos) (mWhile t f):=by
 subst_eqs
 exact PS.imp (ps_while hp hc hb) fun D σ H h_=>by
   sleep 2
   refine ⟨fun m σ2 H2=>∃ι2 ρ2 C2,Ex ι ι2 H H2/\SR X.K 5e8 H2 ρ2 σ2 C2/\loopW t f m ρ2 C2=some (fl,C'),⟨1000,[],ρ,C,Ex.fr .refl,by rw[YL];exact sr,e⟩,?_⟩
   rintro m σ2 H2 ⟨ι2,ρ2,C2,x2,sr2,e2⟩
   cases m with
   | zero=>cases e2
   | succ m=>
    unfold loopW at e2
    obtain ⟨z,C3,e3,e2⟩:=Zae e2
    refine ⟨ι++ι2,ρ2,C2,z,C3,sr2,e3,fun H3 f3 c3=>?_⟩
    have x3:Ex ι ι2 H H3:=⟨fun b o n e=>f3 b o (x2.out b o n e).1 (x2.out b o n e).2,x2.2⟩
    have sr3:=sr2.step f3 c3
    cases z with
    | true=>
     rw[if_pos rfl] at e2
     dsimp only
     rw[if_pos rfl]
     obtain ⟨fl1,C4,e4,e5⟩:=Zae e2
     refine ⟨fun σ' H'=>∃ι2 ρ2 C2,Ex ι ι2 H H'/\SR X.K 5e8 H' ρ2 σ' C2/\loopW t f m ρ2 C2=some (fl,C'),fun σ' H' h=>⟨m,WQ _,h⟩,ι++ι2,ρ2,C3,fl1,C4,sr3,e4,?_⟩
     cases fl1 with
     | nx ρ5=>exact fun ι5 σ5 H5 x5 sr5=>⟨ι2++ι5,ρ5,C4,Ex.trans c3 x3 x5,by rw[←Yh];exact sr5,e5⟩
     | ct ρ5=>exact fun ι5 σ5 H5 x5 sr5=>⟨ι2++ι5,ρ5,C4,Ex.trans c3 x3 x5,by rw[←Yh];exact sr5,e5⟩
     | bk ρ5=>cases e5;exact fun ι5 σ5 H5 x5 sr5=>d (ι2++ι5) σ5 H5 (Ex.trans c3 x3 x5) (by rw[←Yh];exact sr5)
     | rf ps=>cases e5;exact fun ι5 q5 vs5 H5 x5 c5 h5 r5=>d (ι2++ι5) q5 vs5 H5 (Ex.trans c3 x3 x5) (by rw[←Yh];exact c5) h5 (by rw[←Yh];exact r5)
     | rq ps=>cases e5;exact fun ι5 q5 vs5 H5 x5 c5 h5 r5=>d (ι2++ι5) q5 vs5 H5 (Ex.trans c3 x3 x5) (by rw[←Yh];exact c5) h5 (by rw[←Yh];exact r5)
     | rt r=>cases e5;exact fun ι5 v5 H5 x5 c5 r5=>d (ι2++ι5) v5 H5 (Ex.trans c3 x3 x5) (by rw[←Yh];exact c5) (by rw[←Yh];exact r5)
    | false=>
     rw[if_neg YD] at e2
     dsimp only
     rw[if_neg YD]
     cases e2
     exact d ι2 σ2 H3 x3 sr3
end
section
variable {X:Cx}{e:Expr}{es:3e2}{fs:2e1}{p pos:Pos}
theorem q_em_any (hc:5e2)(hgl:Gl X "any")(hm:X.mg "any"=none)(hv:Xz "any"=some (.builtin "any"))(ha:QAM X 4e6 fs)
  (he:1e5:=by rfl) (hpl:2e7:=by rfl):QEM X (.Call (.Name "any" p) 4e6 [] pos) (mCB (g1 anyH) fs):=by
 subst_eqs
 exact em_callB (call_any_bl hc) any_ok.c hgl hm hv ha 1e4 1e4 he hpl
end
end Pu
namespace Pu
open PySem PySem.Spec PySem.W PySem.Calls L2 PySem.SeqAt
open PyProof.Rows hiding St Fr
section
variable {X:Cx}
theorem ZaY {e:Expr}{es:3e2}{fs:2e1}{p pos:Pos}(hcm:5e2)(hu:5e9)(hgl:Gl X "sorted")(hm:X.mg "sorted"=none)(hv:Xz "sorted"=some (.builtin "sorted"))(ha:QAM X 4e6 fs)
  (he:1e5:=by rfl) (hpl:2e7:=by rfl):QFM X (.Call (.Name "sorted" p) 4e6 [] pos) (mSorted3 fs):=by
 subst_eqs
 exact PE.imp (PE.or (fm_sorted2 (p:=p) (pos:=pos) hcm hu hgl hm hv ha he hpl) (pe_callB (call_sortedK hcm hu) hgl hm hv ha 1e4 1e4 he hpl)) fun σ H Q h_=>by
    obtain ⟨ι,ρ,C,z,C',sr,e,q⟩:=h_
    obtain ⟨xs,C1,e1,e⟩:=Zae e
    obtain ⟨e2,rfl⟩:=Zav e
    unfold sortedH3 at e2
    split at e2
    ·rename_i x
     split at e2
     ·rename_i ks vs hd
      split at e2
      ·rename_i qs hk
       by_cases ho:qs.all keyOk=true
       ·rw[if_pos ho] at e2
        refine .inr ⟨ι,ρ,C,[x],_,sr,e1,fun vs H1 f1 c1 r1=>?_⟩
        obtain ⟨v,w,rfl,r1,hw⟩:=r1
        cases (show w=[] from hw)
        obtain ⟨a,qs',ws,rfl,rfl,hd',hl,r⟩:=liesD (r1.lies c1 hd)
        rw[ZaK] at hk
        cases hk
        have ek:((qs.zip ws).map fun q=>kP q.1)=qs.map kP:=by
         have:(qs.zip ws).map Yba=qs:=Vr 1e2
         exact (Y9 (f:=Yba) (g:=kP) (l:=qs.zip ws)).symm.trans (by rw[this])
        have ev:((qs.zip ws).map fun q=>kV q.1)=qs.map kV:=by
         have:(qs.zip ws).map Yba=qs:=Vr 1e2
         exact (Y9 (f:=Yba) (g:=kV) (l:=qs.zip ws)).symm.trans (by rw[this])
        have ef:(qs.zip ws).map (·.1)=qs:=Vr 1e2
        refine ⟨a,qs.zip ws,rfl,hd',by rw[ef];exact ho,by rw[ek,e2];rfl,fun l hl=>?_⟩
        refine q l _ H1 f1 c1 hl ?_
        rw[Zbt e2,ek,ev]
        exact Zbz (reps_kP ho) fun i hi=>Za6 i hi
       ·rw[if_neg ho] at e2;cases e2
      ·cases e2
     ·exact .inl ⟨ι,ρ,C,z,_,sr,by unfold mSorted2;show bnd (fs ρ) _ C=_;unfold bnd;rw[e1];show opM _ _=_;unfold opM;dsimp only;rw[e2],q⟩
    ·cases e2
end
end Pu
namespace Pu
open PySem PySem.Spec L2
open PyProof.Rows hiding St Fr
section
variable {X:Cx}{l:Expr}{elts:3e2}{x1:Nat}{tpos p pos:Pos}
theorem q_im_enum {fs:2e1}(hg:Gl X "enumerate")(hm:X.mg "enumerate"=none)(ha:QAM X [l] fs)(hs:Ys [l] X.env=[(false,eval l X.env)]:=by rfl):QIM X (.Tuple elts x1 tpos) (.Call (.Name "enumerate" p) [l] [] pos) (mEnum fs):=by
 subst_eqs
 exact PI.imp (pi_enum hg hm ha hs) fun σ H R h_=>by
    obtain ⟨ι,ρ,C,xs,C',sr,e,q⟩:=h_
    obtain ⟨zs,C1,e1,g1⟩:=Zae e
    obtain ⟨e2,hC⟩:=Zav g1
    subst hC
    refine ⟨ι,ρ,C,zs,_,sr,e1,fun vs H1 f1 c1 r1=>?_⟩
    unfold enumP at e2
    split at e2
    ·cases e2
     obtain ⟨v,w,rfl,r1,hw⟩:=r1
     cases (show w=[] from hw)
     replace r1:Rep X.K ι H1 (.lst _) v:=r1
     unfold Rep at r1
     obtain ⟨a,vs,rfl,hq,rv⟩:=r1
     exact ⟨a,rfl,⟨vs,hq.sq⟩,q _ H1 f1 c1 (iter_enum c1 hq rv)⟩
    ·cases e2
end
section
variable {X:Cx}{tg kx vx iter:Expr}{ifs:3e2}{pos:Pos}{scope:Scope}{vs fs:4e0}{fr:6e3}{it:6e5}{g:2e8}{tt:3e8}{tk te:2e4}
theorem q_em_compD (S:6e2)(hc:5e2)(hu:5e9)(hi:QIM X tg iter it)
  (bG:∀C s₀ H₀ ex pn,QGM 1e0 tg g) (bT:∀C s₀ H₀ ex pn,QTsM 1e0 ifs tt) (bK:∀C s₀ H₀ ex pn,QEM 1e0 kx tk) (bE:∀C s₀ H₀ ex pn,QEM 1e0 vx te)
  (hs:7e7:=by intro _;rfl):QEM X (.DictComp kx vx [⟨tg,iter,ifs,0⟩] scope pos) (mCompD it vs fr g tt tk te):=by
 subst_eqs
 exact PE.imp (pe_compD (g:=tMG X.K g) (tt:=tMB X.K tt) (tk:=tM X.K tk) (te:=tM X.K te) S hc 1e2 hi bG bT bK bE hs) fun σ H Q ⟨ι,ρ,C,res,C',sr,e,q⟩=>compD_pure sr e q
end
end Pu
namespace Pu
open PySem PySem.Spec L2
open PyProof.Rows hiding St Fr
section
variable {X:Cx}{e o st:Expr}{fa fo fs:2e4}{p p2 pos apos cpos:Pos}
theorem q_fm_revS (he:QEM X e fa)(hs:QEM X st fs):QFM X (.Subscript e (.Slice none none (some st) p2) pos) (mRevS fa fs):=by
 subst_eqs
 intro pins s σ H Q I h_
 obtain ⟨ι,ρ,C,z,C',sr,e0,q⟩:=h_
 obtain ⟨x,C1,e1,g1⟩:=Zae e0
 obtain ⟨k,C2,e2,g2⟩:=Zae g1
 obtain ⟨e3,hC⟩:=Zav g2
 subst hC
 obtain ⟨xs,hd,rfl,rfl⟩:=revS_some e3
 refine Subscript_ (thn (he pins s σ H (fun v H1=>Pu.Fr ι H H1/\CR X.K ι H1 C1/\RepS X.K ι H1 x v) I ⟨ι,ρ,C,x,C1,sr,e1,fun v H1 f1 c1 r1=>⟨f1,c1,r1⟩⟩) fun v s1 h_=>?_)
 obtain ⟨y,H1,I1,r1,f1,c1,rx⟩:=h_
 refine wpAny_Slice ?_
 rw[evalPart_none]
 refine Yc (Yc ?_)
 rw[evalPart_some]
 refine thn (hs pins s1 σ H1 (fun v H2=>Pu.Fr ι H1 H2/\CR X.K ι H2 C'/\RepS X.K ι H2 (.v (.int (-1))) v) I1 ⟨ι,ρ,C1,_,C',sr.step f1 c1,e2,fun v H2 f2 c2 r2=>⟨f2,c2,r2⟩⟩) fun u s2 h_=>?_
 obtain ⟨y2,H2,I2,r2,f2,c2,rk⟩:=h_
 have hk:y2=.int (-1):=by unfold RepS Rep at rk;exact rk
 subst hk
 obtain ⟨t,rfl⟩:=r2
 obtain ⟨a,vs,rfl,h1,rv⟩:=liesL ((rx.mono c1 f2).lies c2 hd)
 cases r1
 have I4:Inv X pins σ H2 { s2 with heap:=s2.heap.push { cls:=.type "slice",data:=.fields #[.none,.none,.int (-1) t] } }:=I2.kept (t':=s2.toks) fun b ob q=>Yb _ q
 obtain ⟨its,r,ht,hz⟩:=I4.list h1
 have hlen:=r.length
 refine tail_any (ops:=[.ref a,.ref s2.heap.objs.size]) ht.isList.typeIs slot_list_getitem.lookup ?_ (by with_unfolding_all rfl)
 refine wpAny_getItem_list_slice ht.isList (Heap.IsSliceOf.new ..) .none .none (.int (-1) t) 3e0 ?_ (by rw[Yn]<;>lia)
 rw[W.krv_pick]
 refine ⟨.ref _,_,I4.laid (t':=s2.toks) (o:=.lst vs.reverse) (fun b ob q=>Yb _ q) (Yi _) ?_,rfl,q _ vs.reverse H2 (f1.trans f2) c2 (I4.hok.fresh (Yi _)) rv.rev⟩
 exact ⟨by rw[List.length_reverse];exact hz,_,0,Vals.rev r,Ye _ rfl⟩
theorem q_fm_listvals (hc:5e2)(hg:Gl X "list")(hm:X.mg "list"=none)(ho:QEM X o fo)
  (hbase:XW o "values" X.env (eval o X.env)=eval o X.env:=by rfl) (hline:(apos.endLine==cpos.line)=true:=by rfl)
  (hs:Ys [.Call (.Attribute o "values" apos) [] [] cpos] X.env=[(false,eval (.Call (.Attribute o "values" apos) [] [] cpos) X.env)]:=by rfl):
  QFM X (.Call (.Name "list" p) [.Call (.Attribute o "values" apos) [] [] cpos] [] pos) (mListVals fo):=by
 subst_eqs
 intro pins s σ H Q I h_
 obtain ⟨ι,ρ,C,z,C',sr,e0,q⟩:=h_
 obtain ⟨x,C1,e1,g1⟩:=Zae e0
 obtain ⟨e3,hC⟩:=Zav g1
 subst hC
 refine Call_ (Zc6 I hg hm 1e3 (XI ?_ hs 1e3))
 rw[hs]
 show wpAny _ _ (spliced ((false,eval _ X.env)::backTo pos [])) _ _ s
 refine UH (VT hbase hline (thn (ho pins s σ H (fun v H1=>Pu.Fr ι H H1/\CR X.K ι H1 C'/\RepS X.K ι H1 x v) I ⟨ι,ρ,C,x,C',sr,e1,fun v H1 f1 c1 r1=>⟨f1,c1,r1⟩⟩) fun v s1 h_=>?_))
 obtain ⟨y,H1,I1,r1,f1,c1,rx⟩:=h_
 unfold valsH at e3
 split at e3
 ·rename_i ks zs hd
  by_cases hl:zs.length<=1000
  case neg=>rw[if_neg hl] at e3;cases e3
  rw[if_pos hl] at e3;cases e3
  obtain ⟨a,vs,rfl,hd',hkl,rv⟩:=liesTT (rx.lies c1 hd)
  cases r1
  obtain ⟨ty,nd,lo⟩:=isD_at I1 (.inr ⟨_,hd'⟩)
  obtain ⟨hz,_,xs,kt,ob,es,ep,hob,hex,hda,he,his,hnd⟩:=dt_rd I1.hok hd'
  refine ⟨"dict",_,WO,VC,PySem.F.type_dict_values,ty,nd,WZ rfl (UA (rawv_call lo ⟨ob,hob,hex,hda⟩ ?_))⟩
  refine UV ?_
  have hraw:RawD (s1.heap.push { cls:=.type "dict_values",data:=.fields #[.ref a] }) a es ep:=⟨ob,Yb _ hob,hex,hda⟩
  have hv:(s1.heap.push { cls:=.type "dict_values",data:=.fields #[.ref a] }).IsValuesView s1.heap.objs.size a:=8e8
  have hes:es.size=xs.length:=VN he
  have hkx:(ks.zip vs).length=xs.length:=Wm kt
  have hpl:=rv.length
  rw[WD] at hkx
  refine W.kdl_call (s:={ s1 with heap:=s1.heap.push { cls:=.type "dict_values",data:=.fields #[.ref a] } }) rawv_src (I1.ok.hd hc) ⟨hv,hraw⟩ (by rw[YN];lia) fun h' tk acc c kp hD ai=>?_
  have I2:Inv X pins σ H1 { s1 with heap:=s1.heap.push { cls:=.type "dict_values",data:=.fields #[.ref a] } }:=I1.kept (t':=s1.toks) fun b o e=>Yb _ e
  have hvs:Vals vs acc.toList:=by
   rw[items_vals ai,he,entry_vals]
   have:=kt_vals kt
   rw[List.map_snd_zip 1e2] at this
   exact this
  refine ⟨.ref _,_,I2.laid (t':=tk) (o:=.lst vs) kp (Yi _) ⟨by rw[←hpl];exact k1000 hl,acc.toList,c,hvs,by simpa using hD⟩,rfl,q _ vs H1 f1 c1 (I2.hok.fresh (Yi _)) rv⟩
 ·cases e3
end
section
variable {X:Cx}
variable {o e:Expr}{es:3e2}{fo:2e4}{fs:2e1}{apos cpos:Pos}
theorem ZcY (ho:QEM X o fo)(ha:QAM X 4e6 fs)(hbase:XW o "extend" X.env (eval o X.env)=eval o X.env:=by rfl)
  (hfew:((backTo cpos (Ys 4e6 X.env)).all (fun x=>!x.1)&&(backToKw cpos (U4 [] X.env)).all (fun x=>x.1.isSome)
   &&decide ((e::es).length + ([]:List U5).length + (if ([]:List U5).isEmpty then 0 else 1) < 30))=true:=by rfl)
  (hline:(apos.endLine==cpos.line)=true:=by rfl) (hs:1e5:=by rfl) (hplain:(backTo cpos (Ys es X.env)).any (·.1)=false:=by rfl):
  QEM X (.Call (.Attribute o "extend" apos) 4e6 [] cpos) (mExt fo fs):=by
 subst_eqs
 exact PE.imp (pe_bm VU PySem.F.slot_list_extend PySem.F.type_list_extend mt_extS ho ha hbase hfew hline hs hplain) fun σ H Q h_=>by
    obtain ⟨ι,ρ,C,z,C',sr,e,q⟩:=h_
    obtain ⟨x,C1,e1,g1⟩:=Zae e
    obtain ⟨u,C2,e2,g2⟩:=Zae g1
    obtain ⟨ys,C3,e3,g3⟩:=Zae g2
    obtain ⟨hC,k,ps0,hx,hc0⟩:=ZdE e2
    obtain ⟨k',qs,ps,hx',hy,hc,hl,hr,hC'⟩:=extC_some g3
    clear e g1 g2 g3 e2
    subst hC hx hr hC' hy
    cases hx'
    refine ⟨ι,ρ,C,_,_,sr,e1,fun v H1 f1 c1 r1=>?_⟩
    obtain ⟨a,rfl,hk⟩:=r1
    obtain ⟨vs0,h0,_⟩:=Zca c1 hk hc0
    refine ⟨.inl ⟨rfl,_,.of h0⟩,ι,ρ,_,_,C3,sr.step f1 c1,e3,fun ws H2 f2 c2 r2=>?_⟩
    obtain ⟨w,wr,rfl,rw1,hw⟩:=r2
    cases (show wr=[] from hw)
    obtain ⟨b,zs,rfl,hb,rz⟩:=rw1
    obtain ⟨vs,h1,rv⟩:=Zca c2 hk hc
    obtain ⟨c4,f4⟩:=cr_set c2 hk (rv.append rz)
    exact ⟨a,b,vs,zs,rfl,rfl,h1,hb.sq,by rw[←rv.length,←rz.length];exact Xv (Yo hl (k100000 (Yi _))),q _ _ (f1.trans (f2.trans f4)) c4 (show Rep _ _ _ _ _ from repN)⟩
end
end Pu
namespace Pu
open PySem PySem.Spec PySem.W PySem.Calls L2
open PyProof.Rows hiding St Fr
section
variable {X:Cx}{e:Expr}{es:3e2}{p pos:Pos}{x:Str}{k:Nat}{ps:4e0}{F:List SV->M SV}{fs:2e1}
theorem Zai (c:Cal X.prog X.w X.K X.mg X.base k x ps (liftSp X.K F))(hr:Room k X.A)(hg:Gl X x)(ha:QAM X 4e6 fs)(hdb:3e4:=by decide)(he:1e5:=by rfl)(hpl:2e7:=by rfl):
  QEM X 8e9 (mFn F fs):=by
 subst_eqs
 obtain ⟨f,fd,G,m,k,b⟩:=c
 exact em_call G hr hg m k b ha hdb he hpl
theorem Zcv {F:List SV->M 2e9}(c:Cal X.prog X.w X.K X.mg X.base k x ps (liftSpF X.K F))(hr:Room k X.A)(hg:Gl X x)(ha:QAM X 4e6 fs)(hdb:3e4:=by decide)(he:1e5:=by rfl)(hpl:2e7:=by rfl):
  QFM X 8e9 (mFnF F fs):=by
 subst_eqs
 obtain ⟨f,fd,G,m,k,b⟩:=c
 exact fm_call G hr hg m k b ha hdb he hpl
end
section
variable {P:Yy}{w:World}{K:W.Frag}{mg:2e6}{base:Heap}{x:Str}{st:Stmt}{N ps:4e0}{k:Nat}{body:7e5}
theorem Zay (F:Hd.FnAt K mg x st)(S:FnScope N ps (defScope st))(hb:∀(kV doc pm:Value) (an:Option Addr) (cdv ct:Value) (us:2e5),us.length=ps.length->bindArgs (W.fnOf x x (defArgs st) (defBody st) (defScope st) .none kV doc pm an cdv ct) ⟨us,[]⟩=pure (ps.zip us))
  (hbody:∀(f:Addr) (cdv:Value) (A:Around) (outer:List Env) (s:Shared) (H:Hp) (E:XK),Room k (A.deeper (envOfC x (defScope st) s.heap.objs.size f cdv))->
   QBM (cxOf CX0 P w K mg base N x (defScope st) f cdv A outer s H E).nox (defBody st) body):Cal P w K mg base (k + 1) x ps (liftSp K (mDef ps.length (N.length - ps.length) body)):=by
 subst_eqs
 obtain ⟨f,fd,m,F⟩:=F
 exact ⟨f,fd,fn_mk F S (hbody f),m,F.kp,F.binds hb⟩
theorem ZbW (F:Hd.FnAt K mg x st)(S:FnScope N ps (defScope st))(hb:∀(kV doc pm:Value) (an:Option Addr) (cdv ct:Value) (us:2e5),us.length=ps.length->bindArgs (W.fnOf x x (defArgs st) (defBody st) (defScope st) .none kV doc pm an cdv ct) ⟨us,[]⟩=pure (ps.zip us))
  (hbody:∀(f:Addr) (cdv:Value) (A:Around) (outer:List Env) (s:Shared) (H:Hp) (E:XK),Room k (A.deeper (envOfC x (defScope st) s.heap.objs.size f cdv))->
   QBM (cxOf CX0 P w K mg base N x (defScope st) f cdv A outer s H E).nox (defBody st) body):Cal P w K mg base (k + 1) x ps (liftSpF K (mDefF ps.length (N.length - ps.length) body)):=by
 subst_eqs
 obtain ⟨f,fd,m,F⟩:=F
 exact ⟨f,fd,fn_mkF F S (hbody f),m,F.kp,F.binds hb⟩
end
end Pu
namespace Pu
open PySem PySem.Spec PySem.W PySem.Calls L2
open PyProof.Rows hiding St Fr strKind
open PySem.Builtin.Str (partsBetween occurrences strKind)
section
variable {X:Cx}{e:Expr}{es:3e2}{f:2e4}{fs:2e1}{p pos:Pos}
variable {o:Expr}{fo:2e4}{apos cpos:Pos}
theorem q_em_fdivW {a b:Expr}{fa fb:2e4}(ha:QEM X a fa)(hb:QEM X b fb):QEM X (.BinOp a .FloorDiv b pos) (mOp (g2 fdivWP) fa fb):=by
 subst_eqs
 exact em_op op_fdivW (int_ok fun i j h=>(of_decide_eq_true h:0 < j/\j < 2 ^ 200)).r ha hb
end
end Pu
namespace Pu
open PySem PySem.Spec PySem.W PySem.Calls L2 PySem.SeqAt Se
open PyProof.Rows hiding St Fr
section
variable {X:Cx}{e:Expr}{fs:2e1}{p p2 pos pos2:Pos}
theorem Zdy (hcm:5e2)(hu:5e9)(hgl:Gl X "sorted")(hml:X.mg "sorted"=none)(hv:Xz "sorted"=some (.builtin "sorted"))(hgs:Gl X "set")(hms:X.mg "set"=none)(ha:QAM X [e] fs)(he:Ys [e] X.env=(false,eval e X.env)::Ys [] X.env:=by rfl):
  QFM X (.Call (.Name "sorted" p) [.Call (.Name "set" p2) [e] [] pos2] [] pos) (mInOrd fs):=by
 subst_eqs
 intro pins s σ H Q I h_
 obtain ⟨ι,ρ,C,res,C',sr,e0,q⟩:=h_
 obtain ⟨xs,C1,e1,e2⟩:=Zae e0
 obtain ⟨e3,hC⟩:=Zav e2
 cases hC
 refine W1 (Zc6 I hgl hml hv ?_ 1e4 1e4)
 refine Ua ?_ rfl rfl
 show wpAny _ _ (spliced ((false,eval (.Call (.Name "set" p2) [e] [] pos2) X.env)::backTo pos (Ys [] X.env))) _ _ s
 refine UH ?_
 refine W1 (Zc6 I hgs hms boot_set_ ?_ 1e4 1e4)
 refine XI (thn (ha pos2 pins s σ H (fun vs H1=>Fr ι H H1/\CR X.K ι H1 C'/\RepSs X.K ι H1 xs vs) I ⟨ι,ρ,C,xs,C',sr,e1,fun vs H1 f1 c1 r1=>⟨f1,c1,r1⟩⟩) fun us s1 ⟨vs,H1,I1,r1,f1,c1,rr⟩=>?_) he rfl
 unfold inOrdH at e3
 split at e3
 ·rename_i x
  obtain ⟨v,vs',rfl,rv,rn⟩:=rr
  cases (show vs'=[] from rn)
  split at e3
  ·rename_i ps hd
   obtain ⟨a,ws,rfl,sq,rs⟩:=liesL (rv.lies c1 hd)
   unfold inOrdL at e3
   split at e3
   ·rename_i hh
    simp only[Yp,decide_eq_true_eq] at hh
    obtain ⟨⟨⟨hpu,hti⟩,hde⟩,hlen⟩:=hh
    obtain ⟨u,rfl,ru⟩:=Vals.one r1
    cases (show u=YG a from ru)
    obtain ⟨qs,rfl,rfl,hq⟩:=refs_of rs hti
    obtain ⟨its,vi,⟨o,n,g1,g2,g3,g4⟩,_⟩:=I1.list sq
    cases Zdu vi
    have hr:=Reps.heap I1 _ rs vi (dats_pur hpu)
    have nk:∀q∈qs,Sn.NK s1.heap q.1 q.2:=fun q hm=>⟨Za0 hpu _ (Y6 hm),(deps_le _).mp hde _ (Y6 hm),ZdH hr q hm⟩
    have hh:=I1.ok.hd hcm
    obtain ⟨k1,k2⟩:=foldN_fst hpu
    refine Sn.set_nested (as:=qs.map (·.2)) hh 1e2 (.inl ⟨o,g1,g2,n,by rw[Y9];exact g4⟩) rfl nk (by rw[Yf] at hlen;exact hlen) fun h' tk SN kp=>?_
    have I2:Inv X pins σ H1 { s1 with heap:=h',toks:=tk }:=I1.kept fun b o e=>kp b o e
    refine UV (sorted_setN hcm hu I2 SN (fun q hm=>hq q (Sn.foldN_mem q hm)) k2 (qs:=res) (by rw[k1];exact e3) fun ws l rs hl=>q l ws H1 f1 c1 hl rs)
   ·cases e3
  ·cases e3
 ·cases e3
end
end Pu
namespace Pu
open PySem PySem.Spec PySem.W PySem.Calls L2
open PyProof.Rows hiding St Fr
section
variable {X:Cx}{tg iter e1 e2:Expr}{rest:List Stmt}{it:6e5}{g:2e8}{fk fv:2e4}{fr:7e5}{x:Str}{n:Nat}{pos' dpos pos0 p1 ap1 lp cp1 ap2 cp2 ep fpos:Pos}
theorem q_bm_sdl (hu:5e9)(hN:X.N.Nodup)(hi:X.N[n]? = some x)(hx:Loc X.env.scope x)(hvx:Vis X.env.scope x)(hp:UU 2e0 X.A X.env X.xe)(hc:5e2)
  (hit:QIM X tg iter it) (hg:QGM X tg g) (hk:QEM X e1 fk) (hv:QEM X e2 fv) (hr:QBM X rest fr)
  (hd1:3e4:=by decide) (hd2:(x==("__classdict__":Str))=false:=by decide)
  (hs0:Wv (.Dict [] [] dpos) (some (.Name x pos')) pos0.line X.env=pure false:=by rfl)
  (hf:5e1:=by first | exact .inl rfl | exact .inr rfl | assumption)
  (hsf:∀y,YX iter X.env y=pure y:=by intro _;rfl)
  (hse:Wv (.Call (.Attribute (.Call (.Attribute (.Name x p1) "setdefault" ap1) [e1,.List [] lp] [] cp1) "append" ap2) [e2] [] cp2) none ep.line X.env=pure false:=by rfl)
  (hb1:XW (.Name x p1) "setdefault" X.env (eval (.Name x p1) X.env)=eval (.Name x p1) X.env:=by rfl)
  (hw1:((backTo cp1 (Ys [e1,.List [] lp] X.env)).all (fun x=>!x.1)&&(backToKw cp1 (U4 [] X.env)).all (fun x=>x.1.isSome)
   &&decide ([e1,Expr.List [] lp].length + ([]:List U5).length + (if ([]:List U5).isEmpty then 0 else 1) < 30))=true:=by rfl)
  (hl1:(ap1.endLine==cp1.line)=true:=by rfl) (ht1:Ys [e1,.List [] lp] X.env=(false,eval e1 X.env)::Ys [.List [] lp] X.env:=by rfl) (hq1:(backTo cp1 (Ys [.List [] lp] X.env)).any (·.1)=false:=by rfl)
  (ht1':Ys [.List [] lp] X.env=(false,eval (.List [] lp) X.env)::Ys [] X.env:=by rfl)
  (hb2:XW (.Call (.Attribute (.Name x p1) "setdefault" ap1) [e1,.List [] lp] [] cp1) "append" X.env (eval (.Call (.Attribute (.Name x p1) "setdefault" ap1) [e1,.List [] lp] [] cp1) X.env)=eval (.Call (.Attribute (.Name x p1) "setdefault" ap1) [e1,.List [] lp] [] cp1) X.env:=by rfl)
  (hw2:((backTo cp2 (Ys [e2] X.env)).all (fun x=>!x.1)&&(backToKw cp2 (U4 [] X.env)).all (fun x=>x.1.isSome)
   &&decide ([e2].length + ([]:List U5).length + (if ([]:List U5).isEmpty then 0 else 1) < 30))=true:=by rfl)
  (hl2:(ap2.endLine==cp2.line)=true:=by rfl) (ht2:Ys [e2] X.env=(false,eval e2 X.env)::Ys [] X.env:=by rfl) (hq2:(backTo cp2 (Ys [] X.env)).any (·.1)=false:=by rfl):
  QBM X (.Assign [.Name x pos'] (.Dict [] [] dpos) pos0::.For tg iter [.Expr (.Call (.Attribute (.Call (.Attribute (.Name x p1) "setdefault" ap1) [e1,.List [] lp] [] cp1) "append" ap2) [e2] [] cp2) ep] [] fpos::rest) (mSeq (mSdl n it g fk fv) fr):=by
 subst_eqs
 have hb:PE X (.Call (.Attribute (.Call (.Attribute (.Name x p1) "setdefault" ap1) [e1,.List [] lp] [] cp1) "append" ap2) [e2] [] cp2) (tBM X.K "list" rAppend (tBM X.K "dict" rSetDef (tVar n) (tCons (tM X.K fk) (tCons (tMF X.K (mLst aNil)) tNil))) (tMA X.K (aCons fv aNil))):=
  pe_bm VU PySem.F.slot_list_append PySem.F.type_list_append mt_append (pe_bm WO Um PySem.F.type_dict_setdefault (mt_setdef hu) (pe_var hi hvx hd1 hd2) (pa_cons hk (pa_cons (fm_lst am_nil) pa_nil ht1') ht1) hb1 hw1 hl1 ht1 hq1) (am_cons hv am_nil ht2) hb2 hw2 hl2 ht2 hq2
 refine PSs.imp (Zcy (ps_set hN hi hx pe_dnewT hs0 hf) (Zcy (ps_for hp hc hit hg (pss_one (ps_expr hb hse)) hsf) hr)) fun D σ H h_=>?_
 sleep 2
 obtain ⟨fl1,C2,em,e⟩:=Zae e
 unfold mSdl at em
 split at em
 ·rename_i xs D0 hxs
  split at em
  ·rename_i hlast
   split at em
   ·rename_i ρ' ks' ls' hloop
    cases em
    intro dd hdd
    have c1:CR X.K (ι++[dd]) (upd H dd (.dT [])) (C++[.dtt [] []]):=sr.cr.add hdd ⟨[],Zam,rfl,.nil⟩
    have x1:Ex ι [dd] H (upd H dd (.dT [])):=⟨Fr.new hdd,fun b hb=>by rw[Yk.mp hb];exact hdd⟩
    have sr1:SR X.K (ι++[dd]) (upd H dd (.dT [])) (ρ.set n (some (.c C.length))) (σ.set n (some (.ref dd))) (C++[.dtt [] []]):=(sr.ex x1 c1).set n ⟨dd,rfl,by rw[←sr.cr.len];simp⟩
    refine ⟨ι++[dd],ρ.set n (some (.c C.length)),C++[.dtt [] []],xs,D0,sr1,hxs,fun J H1 f1 cr1 it1=>?_⟩
    obtain ⟨C1,rfl⟩:∃C1,D0=C1++[.dtt [] []]:=by
     obtain ⟨l,e⟩:=List.getLast?_eq_some_iff.mp hlast
     exact ⟨l,e⟩
    rw[List.dropLast_concat] at e
    have hL:ι.length=C1.length:=by have:=cr1.len;simp at this;exact this
    have hLC:C.length=C1.length:=by rw[←sr.cr.len];exact hL
    rw[hLC] at hloop sr1
    have s0:SdS X.K ι C1 dd [] [] [] H1 (ρ.set n (some (.c C1.length))) (σ.set n (some (.ref dd))):=by
     unfold SdS
     simp only[Yag,YL]
     exact sr1.step f1 cr1
    refine ⟨fun i m σ2 H2=>∃ρ2 ks ls qs,m=xs.length - i/\i<=xs.length/\Ex (ι++[dd]) qs H1 H2/\SdS X.K ι C1 dd qs ks ls H2 ρ2 σ2/\sdLoop n C1.length g fk fv (xs.drop i) ρ2 ks ls=some (ρ',ks',ls'),⟨xs.length,_,[],[],[],rfl,Y4 _,Ex.fr .refl,s0,hloop⟩,?_⟩
    rintro i m σ2 H2 ⟨ρ2,ks,ls,qs,rfl,hi2,x2,s2,e2⟩
    rcases YS i xs.length with hlt | hge
    ·right
     refine ⟨it1.go qs H2 _ x2 s2.cr i hlt,fun σ' H'=>∃ρ2 ks ls qs,Ex (ι++[dd]) qs H1 H'/\SdS X.K ι C1 dd qs ks ls H' ρ2 σ'/\sdLoop n C1.length g fk fv (xs.drop (i + 1)) ρ2 ks ls=some (ρ',ks',ls'),?_,?_⟩
     ·rintro σ' H' ⟨ρ3,ks3,ls3,qs3,x3,s3,e3⟩
      exact ⟨xs.length - (i + 1),by lia,ρ3,ks3,ls3,qs3,rfl,hlt,x3,s3,e3⟩
     ·intro v H3 y
      obtain ⟨sm,q,hq,rq⟩:=it1.yld qs H2 _ x2 s2.cr i v H3 hlt y
      have hd:xs.drop i=q::xs.drop (i + 1):=by
       rw[Xr hlt]
       rw[Yd hlt] at hq
       rw[YI hq]
      rw[hd] at e2
      unfold sdLoop at e2
      cases hg1:g q ρ2 with
      | none=>rw[hg1] at e2;cases e2
      | some ρ3=>
       rw[hg1] at e2
       dsimp only at e2
       split at e2
       ·rename_i j hj
        by_cases hjL:j=C1.length
        case neg=>rw[if_neg hjL] at e2;cases e2
        rw[if_pos hjL] at e2
        subst hjL
        split at e2
        ·rename_i kq Ck hfk
         split at e2
         ·rename_i k hkk
          split at e2
          ·rename_i p Cv hfv
           split at e2
           ·rename_i hcond
            simp only[Yp,decide_eq_true_eq] at hcond
            obtain ⟨⟨hpu,hkl⟩,hll⟩:=hcond
            have s3:=s2.same sm
            refine ⟨_,ρ2,_,q,ρ3,s3,rq,hg1,fun σ4 sr4=>?_⟩
            have s4:SdS X.K ι C1 dd qs ks ls H3 ρ3 σ4:=sr4
            obtain ⟨vd,hvd,rvd⟩:=s4.loc n _ hj
            obtain ⟨a,rfl,ha⟩:=rvd
            have:a=dd:=by
             rw[←hL,at_dd] at ha;exact (YI ha).symm
            subst this
            refine ⟨.ref a,hvd,.inr (.inr (.inl ⟨rfl,.inr ⟨_,(s4.dict hL).1⟩⟩)),?_⟩
            refine ⟨[],hideC 0 ρ3,[],_,_,SR.vals s4,hfk,fun w H4 f4 c4 r4=>?_⟩
            have sm4:∀b o,H3 b=some o->H4 b=some o:=fun b o z=>f4 b o 3e0 z
            have s5:=s4.same sm4
            obtain ⟨b,rfl,hb⟩:=ZbM (show Rep X.K [] H4 (.tup kq) w from r4) hkk
            refine ⟨[],hideC 0 ρ3,[],[],[],SR.vals s5,rfl,fun l0 vs5 H5 f5 c5 h0 r5=>?_⟩
            cases (show vs5=[] from r5)
            have sm5:∀b o,H4 b=some o->H5 b=some o:=fun b o z=>f5 b o 3e0 z
            have s6:=s5.same sm5
            have hb5:=sm5 _ _ hb
            obtain ⟨hdd5,hlk,hll5⟩:=s6.dict hL
            have smn:∀b o,H5 b=some o->(upd H5 l0 (.lst [])) b=some o:=fun b o z=>by rw[Zag (Zak z h0)];exact z
            have s7:=s6.same smn
            have x5:Ex (ι++[a]) qs H1 H5:=⟨fun b o nb z=>sm5 b o (sm4 b o (sm b o (x2.1 b o nb z))),x2.2⟩
            have hkv:(ks.zip (qs.map V.ref)).length < sizeLine:=by rw[WD,YN];lia
            have app:∀(H7:Hp) (qs7:2e2) (ks7:4e2) (ls7:List 2e9) (c:Addr) (jj:Nat) (l:List PV),SdS X.K ι C1 a qs7 ks7 ls7 H7 ρ3 σ4->Ex (ι++[a]) qs7 H1 H7->qs7[jj]? = some c->ls7[jj]? = some l->l.length < 1000->ks7=putKs ks k->ls7.set jj (l++[p])=addL ks ls k p->
              tyV X.K "list" (.ref c) H7/\tMA X.K (aCons fv aNil) σ4 H7 fun ws H8=>rAppend (.ref c) ws H8 fun _ H9=>∃ρ2 ks ls qs,Ex (ι++[a]) qs H1 H9/\SdS X.K ι C1 a qs ks ls H9 ρ2 σ4/\sdLoop n C1.length g fk fv (xs.drop (i + 1)) ρ2 ks ls=some (ρ',ks',ls'):=by
             intro H7 qs7 ks7 ls7 c jj l s8 x8 hc8 hl8 hlen ek el
             obtain ⟨vs8,hv8,rs8⟩:=s8.list hL hc8 hl8
             refine ⟨.inl ⟨rfl,vs8,.inl (.inl hv8)⟩,?_⟩
             refine ⟨[],hideC 0 ρ3,[],[.v p],Cv,SR.vals s8,by unfold aCons aNil bnd;rw[hfv];rfl,fun ws H8 f8 c8 r8=>?_⟩
             have sm8:∀b o,H7 b=some o->H8 b=some o:=fun b o z=>f8 b o 3e0 z
             obtain ⟨v8,w8,rfl,rv8,rn8⟩:=r8
             cases (show w8=[] from rn8)
             have hv9:=sm8 _ _ hv8
             refine ⟨c,vs8,v8,rfl,rfl,hv9,by rw[←rs8.length,YN];lia,?_⟩
             refine ⟨ρ3,ks7,ls7.set jj (l++[p]),qs7,?_,(s8.same sm8).app hL hc8 hl8 hv9 hpu rv8,by rw[ek,el];exact e2⟩
             refine ⟨fun b o nb z=>?_,x8.2⟩
             have hne:b≠c:=fun h=>by
              have:=x8.2 c (YB hc8)
              rw[←h,z] at this;cases this
             rw[Zag hne]
             exact sm8 b o (x8.1 b o nb z)
            refine ⟨a,b,.ref l0,ks.zip (qs.map V.ref),k,rfl,rfl,smn _ _ hdd5,smn _ _ hb5,hkv,fun u hu'=>?_,fun hn=>?_⟩
            ·rcases sd_find ks qs ls k hlk hll5 with ⟨jj,q',l,a1,a2,a3,a4,a5⟩ | ⟨a1,_,_⟩
             ·rw[a1] at hu';cases hu'
              refine app _ qs ks ls q' jj l s7 ⟨fun b o nb z=>smn b o (x5.1 b o nb z),x5.2⟩ a2 a3 ?_ ?_ (a5 p).symm
              ·exact of_decide_eq_true (YR.mp hll l (YB a3))
              ·unfold putKs;rw[if_pos a4]
             ·rw[a1] at hu';cases hu'
            ·rcases sd_find ks qs ls k hlk hll5 with ⟨jj,q',l,a1,a2,a3,a4,a5⟩ | ⟨a1,a2,a3⟩
             ·rw[a1] at hn;cases hn
             ·refine app _ (qs++[l0]) (putKs ks k) (ls++[[]]) l0 qs.length [] (s6.new hL h0 a2) ⟨fun b o nb z=>?_,fun b hb=>?_⟩ 3e0 (by rw[←hll5];simp) 3e0 rfl ?_
              ·have hne:b≠a:=fun h=>nb (by rw[h];simp)
               rw[Zag hne]
               exact smn b o (x5.1 b o nb z)
              ·rcases YU.mp hb with hb | hb
               ·exact x5.2 b hb
               ·rw[Yk.mp hb]
                cases hz:H1 l0 with
                | none=>rfl
                | some o=>
                 exfalso
                 by_cases hin:l0∈ι++[a]
                 ·exact s6.cr.none_out h0 (YY _ hin)
                 ·rw[x5.1 l0 o hin hz] at h0;cases h0
              ·rw[a3,←hll5];simp
           ·cases e2
          ·cases e2
         ·cases e2
        ·cases e2
       ·cases e2
    ·left
     have hi3:i=xs.length:=by lia
     subst hi3
     rw[WR] at e2
     unfold sdLoop at e2
     split at e2
     ·rename_i hok
      cases e2
      have sE:=s2.give hL hok
      have xE:Ex ι [dd] H H2:=by
       refine ⟨fun b o nb z=>?_,x1.2⟩
       have hne:b≠dd:=fun h=>by rw[h,hdd] at z;cases z
       have hn2:b∉ι++[dd]:=fun h=>by
        rcases YU.mp h with h | h
        ·exact nb h
        ·exact hne (Yk.mp h)
       exact x2.1 b o hn2 (f1 b o hn2 (x1.1 b o nb z))
      exact ⟨it1.stop qs H2 _ x2 s2.cr,ι,_,C1,fl,C',sE,e,d.fr sE.cr xE.1⟩
     ·cases e2
   ·cases em
  ·cases em
 ·cases em
end
theorem ZbV {Y:Cx}{t i:Expr}{ifs:3e2}{gs:List XZ}{it:6e5}{g:2e8}{tt:3e8}{rs:List MG}(hI:QIM Y t i it)(hG:QGM Y t g)(hT:QTsM Y ifs tt)(r:GsM Y gs rs)(hs:∀x,YX i Y.env x=pure x:=by intro _;rfl):GsM Y (⟨t,i,ifs,0⟩::gs) ((it,g,tt)::rs):=by
 subst_eqs
 exact .cons hI hG hT hs r
section
variable {X:Cx}{o tg elt:Expr}{body:List Stmt}{ifs:3e2}{gs:List XZ}{scope:Scope}{apos cpos pos:Pos}{fo te:2e4}{g:2e8}{f:7e5}{vs fs:4e0}{fr:6e3}{tt:3e8}{rest:List MG}
theorem q_sm_forV (hp:UU 2e0 X.A X.env X.xe)(hc:5e2)(ho:QEM X o fo)(hg:QGM X tg g)(hb:QBM X body f)
  (hbase:XW o "values" X.env (eval o X.env)=eval o X.env:=by rfl) (hline:(apos.endLine==cpos.line)=true:=by rfl) (hs:∀x,YX (.Call (.Attribute o "values" apos) [] [] cpos) X.env x=pure x:=by intro _;rfl):
  QSM X (.For tg (.Call (.Attribute o "values" apos) [] [] cpos) body [] pos) (mFor (mValsI fo) g f):=by
 subst_eqs
 exact sm_forK hp hc (pi_vals ho hbase hline) (fun ι ρ C=>vals_it) hg hb hs
theorem Zdz (S:6e2)(hc:5e2)(ho:QEM X o fo)
  (bG:∀C s₀ H₀ ex pn,QGM 1e0 tg g) (bT:∀C s₀ H₀ ex pn,QTsM 1e0 ifs tt) (bR:∀C s₀ H₀ ex pn,GsM 1e0 gs rest) (bE:∀C s₀ H₀ ex pn,QEM 1e0 elt te)
  (hbase:XW o "values" X.env (eval o X.env)=eval o X.env:=by rfl) (hline:(apos.endLine==cpos.line)=true:=by rfl) (hs:∀x,YX (.Call (.Attribute o "values" apos) [] [] cpos) X.env x=pure x:=by intro _;rfl):
  QFM X (.ListComp elt (⟨tg,.Call (.Attribute o "values" apos) [] [] cpos,ifs,0⟩::gs) scope pos) (mCompN (mValsI fo) vs fr g tt rest te):=by
 subst_eqs
 exact fm_compK S hc (pi_vals ho hbase hline) (fun ι ρ C=>vals_it) bG bT bR bE hs
end
section
variable {X:Cx}{elt:Expr}{es elts:3e2}{ifs:3e2}{scope:Scope}{pos' dpos pos0 p1 ap cp tpos lpos rpos:Pos}{fs:2e1}{te:2e4}{g:2e8}{vs fvs:4e0}{fr:6e3}{tt:3e8}{x:Str}{n x1:Nat}
theorem q_bm_dispI {ks:List (Option Expr)}{keys:4e0}(hN:X.N.Nodup)(hi:X.N[n]? = some x)(hx:Loc X.env.scope x)(hvx:Vis X.env.scope x)(hc:5e2)
  (hD:QDM X ks es keys fs) (nd:(keys.map (WY:Str->Key)).Nodup) (hall:ks.all (·.isSome)=true) (hl:ks.length=es.length) (h0:ks≠[]) (hlen:ks.length<=15) (hk:keys.length=ks.length)
  (S:CSc X scope vs fvs fr)
  (bG:∀C s₀ H₀ ex pn,QGM (CompCx X (vs++fvs) scope C s₀ H₀ ex pn) (.Tuple elts x1 tpos) g) (bT:∀C s₀ H₀ ex pn,QTsM (CompCx X (vs++fvs) scope C s₀ H₀ ex pn) ifs tt) (bE:∀C s₀ H₀ ex pn,QEM (CompCx X (vs++fvs) scope C s₀ H₀ ex pn) elt te)
  (hd1:3e4:=by decide) (hd2:(x==("__classdict__":Str))=false:=by decide)
  (hs0:Wv (.Dict ks es dpos) (some (.Name x pos')) pos0.line X.env=pure false:=by rfl)
  (hf:5e1:=by first | exact .inl rfl | exact .inr rfl | assumption)
  (hbase:XW (.Name x p1) "items" X.env (eval (.Name x p1) X.env)=eval (.Name x p1) X.env:=by rfl) (hline:(ap.endLine==cp.line)=true:=by rfl)
  (hsf:∀y,YX (.Call (.Attribute (.Name x p1) "items" ap) [] [] cp) X.env y=pure y:=by intro _;rfl):
  QBM X [.Assign [.Name x pos'] (.Dict ks es dpos) pos0,.Return (some (.ListComp elt [⟨.Tuple elts x1 tpos,.Call (.Attribute (.Name x p1) "items" ap) [] [] cp,ifs,0⟩] scope lpos)) rpos] (mDispI n keys fs vs fr g tt te):=by
 subst_eqs
 refine PSs.imp (Zcy (ps_set hN hi hx (pe_dictF hD nd hall hl h0 hlen hk) hs0 hf) (pss_one (ps_ret (pe_compN (wi:=iItems (tVar n)) (g:=tMG X.K g) (tt:=tMB X.K tt) (te:=tM X.K te) (rest:=[]) S hc (pi_items (pe_var hi hvx hd1 hd2) hbase hline) bG bT (fun _ _ _ _ _=>.nil) bE hsf)))) fun D σ H h_=>?_
 sleep 2
 obtain ⟨xs,C1,e1,e⟩:=Zae e
 cases hp:plain xs with
 | none=>rw[hp] at e;cases e
 | some ps=>
  rw[hp] at e
  dsimp only at e
  split at e
  ·rename_i hkl
   rw[Yp,decide_eq_true_eq] at hkl
   obtain ⟨hkl,hnρ⟩:=hkl
   obtain ⟨⟨ρ',ps'⟩,C2,e3,e4⟩:=Zae e
   cases e4
   refine ⟨ι,ρ,C,ps,xs,C1,sr,e1,hp,fun p ob us H1 f1 c1 hp1 rs hln=>?_⟩
   have c2:=c1.new (o:=.frz ob (.dK ((keys.map WY).zip us))) hp1
   have f2:Fr ι H1 (upd H1 p (.frz ob (.dK ((keys.map WY).zip us)))):=Fr.new hp1
   have rs2:=Reps.mono c1 f2 _ _ rs
   have sr2:=((sr.step f1 c1).step f2 c2).unset n (some (V.ref p))
   have hnσ:n < σ.length:=by rw[←sr.len];exact hnρ
   refine ⟨.ref p,Xf hnσ,p,ob,_,rfl,Zam,?_⟩
   refine ZbG (ZbH []) (iter_items c2 Zam (c1.none_out hp1) hln hkl rs2) (sr2.block vs fr) .nil 3e0 e3 fun σ' ys' H' n'=>⟨by rw[←n'.2.2.1.length];exact k100000 n'.2.2.2,fun D' hD'=>?_⟩
   exact d [] D' ys' H' (Ex.fr (f1.trans (f2.trans n'.1))) (by rw[YL];exact n'.2.1.cr) hD' (by rw[YL];exact n'.2.2.1)
  ·cases e
end
end Pu
namespace Pu
open PySem PySem.Spec L2
open PyProof.Rows hiding St Fr
section
variable {X:Cx}{e:Expr}{es:3e2}{p pos:Pos}{x:Str}{k:Nat}{ps:4e0}{fs:2e1}
theorem ZcX {F:List SV->M 2e9}(ix:6e3)(c:Cal X.prog X.w X.K X.mg X.base k x ps (liftSpF X.K F))(hr:Room k X.A)(hg:Gl X x)(ha:QAM X 4e6 fs)(hdb:3e4:=by decide)(he:1e5:=by rfl)(hpl:2e7:=by rfl):
  QFM X 8e9 (mFnFS F ix fs):=by
 subst_eqs
 obtain ⟨f,fd,G,m,k,b⟩:=c
 exact fm_callS ix G hr hg m k b ha hdb he hpl
end
section
variable {X:Cx}{x:Str}{tg elt iter:Expr}{ifs:3e2}{scope:Scope}{pos:Pos}{vs fs:4e0}{fr:6e3}{it:6e5}{g:2e8}{tt:3e8}{te:2e4}
theorem q_sm_compP {i:Nat}{px spos:Pos}(hN:X.N.Nodup)(hx:X.N[i]? = some x)(hl:X.env.scope.names.lookup x=some .local)(S:6e2)(hc:5e2)(hi:QIM X tg iter it)
  (bG:∀C s₀ H₀ ex pn,QGM 1e0 tg g) (bT:∀C s₀ H₀ ex pn,QTsM 1e0 ifs tt) (bE:∀C s₀ H₀ ex pn,QEM 1e0 elt te)
  (hsw:Wv 6e4 (some (.Name x px)) spos.line X.env=pure true:=by rfl) (hs:7e7:=by intro _;rfl):
  QSM X (.Assign [.Name x px] 6e4 spos) (mSet i (mVal (mPureF (mComp it vs fr g tt te)))):=by
 subst_eqs
 exact PS.imp (ps_comp (g:=tMG X.K g) (tt:=tMB X.K tt) (te:=tM X.K te) hN hx hl S hc hi bG bT bE hsw hs) fun D σ H h_=>by
   sleep 2
   obtain ⟨z,C1,e1,e⟩:=Zae e
   cases e
   obtain ⟨res,C2,e2,e3⟩:=Zae e1
   cases e3
   obtain ⟨e4,hf,rfl⟩:=mPureF_some e2
   refine Zdk sr.derefA e4 fun q vs H' f1 c1 hq rs=>?_
   have c1':=sr.cr.same fun b o z=>f1 b o 3e0 z
   have f1':Fr ι H H':=fun b o _ z=>f1 b o 3e0 z
   exact Done.nx0 (((sr.step f1' c1').step (Fr.new hq) (c1'.new hq)).set i (s:=.v (.lst _)) (Zci c1' hq (Reps.flat _ _ hf rs))) (d.fr (c1'.new hq) (f1'.trans (Fr.new hq)))
end
theorem ZbO {X:Cx}{pos:Pos}:QEM X (.Dict [] [] pos) mDict0T:=by
 subst_eqs
 exact PE.imp pe_dnewT fun σ H Q h_=>by
   obtain ⟨ι,ρ,C,z,C',sr,e,q⟩:=h_
   cases e
   intro p hp
   refine q _ _ (Fr.new hp) (sr.cr.new hp) ?_
   show Rep _ _ _ (.dtt [] []) _
   unfold Rep
   exact ⟨p,[],rfl,sr.cr.none_out hp,.inl Zam,rfl,.nil⟩
end Pu
namespace K32
open PySem PySem.Spec L2 Pu
open PyProof.Rows hiding St Fr
abbrev B_name_of:PSt->M PF:=(mRet (mSlice 3e7 oNo (oPart (mC (.int 3)))))
def F_name_of:List SV->M SV:=mDef 1 0 (B_name_of)
abbrev B_in_order:PSt->M PF:=(mRetF (mInOrd (aCons 3e7 aNil)))
def F_in_order:List SV->M SV:=mDef 1 0 (B_in_order)
def FF_in_order:List SV->M 2e9:=mDefF 1 0 (B_in_order)
abbrev B_by_name:PSt->M PF:=(mRet (mCompD (mItems 3e7) ["letter"] [] (hName 0) tOk (mFn F_name_of (aCons 3e7 aNil)) 3e7))
def F_by_name:List SV->M SV:=mDef 1 0 (B_by_name)
abbrev B_followed:PSt->M PF:=(mRet (mTup (aCons (mOp 4e9 3e7 4e1) (aCons (mOp 4e9 3e7 5e7) (aCons (mOp 4e9 3e7 (mC (.int 3))) aNil)))))
def F_followed:List SV->M SV:=mDef 1 0 (B_followed)
abbrev B_row_among:PSt->M PF:=(mSeq (mNewT 2) (mSeq (mWhile (mAndT (mTest (mOp (g2 (inTP false)) 4e3 3e7)) (mTest (mOp (g2 (inTP true)) 4e3 6e9))) (mSeq (mSetIxT (mOp (g2 ixT) 3e7 4e3) 6e9 4e3) (mSet 1 (mFn F_followed (aCons (mOp (g2 ixT) 3e7 4e3) aNil))))) (mRetF (mRevS (mVal (mListVals 6e9)) (mNeg 5e7)))))
def F_row_among:List SV->M SV:=mDef 2 1 (B_row_among)
abbrev B_is_back:PSt->M PF:=(mSeq (mSet 2 (mFn F_followed (aCons 4e3 aNil))) (mRet (mAndV (mOp (g2 (inTP false)) 6e9 3e7) (mOp (g2 ltP) (mOp 4e9 4e3 (mC (.int 5))) (mOp 4e9 (mOp (g2 ixT) 3e7 6e9) (mC (.int 5)))))))
def F_is_back:List SV->M SV:=mDef 2 1 (B_is_back)
abbrev B_is_loose:PSt->M PF:=(mSeq (mSet 2 (mFn F_name_of (aCons 4e3 aNil))) (mRet (mOp (g2 (deepP eqD)) (mFn F_followed (aCons (mOp 4e9 (mFn F_row_among (aCons 3e7 (aCons 6e9 aNil))) 4e1) aNil)) 6e9)))
def F_is_loose:List SV->M SV:=mDef 2 1 (B_is_loose)
abbrev B_is_behind:PSt->M PF:=(mSeq (mSet 3 (mVal (mComp (mItems (mOp 4e9 4e3 (mC (.int 4)))) ["got"] [0] (hName 0) (mAndT (mTest (mOp (g2 (inTP false)) 3e7 4e3)) (mTest (mOp (g2 eqP) (mOp 4e9 3e7 4e1) (mC (.str "bell"))))) (mOp 4e9 (mOp (g2 ixT) 4e3 3e7) (mC (.int 5)))))) (mRet (mCB (g1 anyH) (aCons (mVal (mComp (mItems 9e1) ["time"] [2,1] (hName 0) tOk (mOp (g2 gtP) 3e7 (mOp 8e1 (mOp 4e9 6e9 (mC (.int 5))) 4e3)))) aNil))))
def F_is_behind:List SV->M SV:=mDef 3 1 (B_is_behind)
abbrev B_is_ahead:PSt->M PF:=(mSeq (mSet 3 (mFn F_name_of (aCons 4e3 aNil))) (mRet (mAndV (mOp (g2 (inTP false)) 9e1 3e7) (mOp (g2 gtP) (mOp 4e9 4e3 (mC (.int 5))) (mOp 8e1 (mOp (g2 ixT) 3e7 9e1) 6e9)))))
def F_is_ahead:List SV->M SV:=mDef 3 1 (B_is_ahead)
abbrev B_twins:PSt->M PF:=(mSeq (mSdl 1 (mItems (mVal (mSorted3 (aCons 3e7 aNil)))) (hName 2) (mFn F_followed (aCons (mOp (g2 ixT) 3e7 6e9) aNil)) 6e9) (mRetF (mCompN (mValsI 4e3) 6e6 [] (hName 0) tOk [((mEnum (aCons 3e7 aNil)),(hTup (hCons (hName 1) (hCons (hName 2) hNil)) 2),tOk),((mItems (mSlice 3e7 (oPart (mOp 8e1 4e3 5e7)) oNo)),(hName 3),tOk)] (mTup (aCons (mC (.str "twin")) (aCons 6e9 (aCons 9e1 aNil)))))))
def F_twins:List SV->M SV:=mDef 1 2 (B_twins)
def FF_twins:List SV->M 2e9:=mDefF 1 2 (B_twins)
abbrev B_marks_of:PSt->M PF:=(mSeq (mSet 4 (mFn F_name_of (aCons 4e3 aNil))) (mDispI 5 ["back","loose","behind","ahead"] (aCons (mFn F_is_back (aCons 3e7 (aCons 4e3 aNil))) (aCons (mFn F_is_loose (aCons 3e7 (aCons 4e3 aNil))) (aCons (mFn F_is_behind (aCons 3e7 (aCons 4e3 (aCons 9e1 aNil)))) (aCons (mFn F_is_ahead (aCons 6e9 (aCons 4e3 (aCons 9e1 aNil)))) aNil)))) ["word","is_so"] [4] (hTup (hCons (hName 0) (hCons (hName 1) hNil)) 2) (mTru 4e3) (mTup (aCons 3e7 (aCons 6e9 aNil)))))
def F_marks_of:List SV->M SV:=mDef 4 2 (B_marks_of)
abbrev B_marks:PSt->M PF:=(mSeq (mSet 3 (mFn F_by_name (aCons 4e3 aNil))) (mSeq (mNew 4 (mFnF FF_twins (aCons 9e1 aNil))) (mSeq (mFor (mValsI 9e1) (hName 5) (mDrop (mExt (mVar 4) (aCons (mFn F_marks_of (aCons 9e1 (aCons (mVar 5) (aCons 6e9 (aCons (mOp 4e9 3e7 4e1) aNil))))) aNil)))) (mRetF (mFnFS FF_in_order [] (aCons (mVar 4) aNil))))))
def F_marks:List SV->M SV:=mDef 3 3 (B_marks)
def FF_marks:List SV->M 2e9:=mDefF 3 3 (B_marks)
abbrev B_l_cell_at:PSt->M PF:=(mSeq (mIfS (mTest (mOp (g2 ltP) 4e3 (mCB (g1 lenH) (aCons 3e7 aNil)))) (mRet (mOp 4e9 3e7 4e3)) mSkip) (mRet 4e1))
def F_l_cell_at:List SV->M SV:=mDef 2 0 (B_l_cell_at)
abbrev B_l_left:PSt->M PF:=(mSeq (mSet 2 (mFn F_l_cell_at (aCons 3e7 (aCons (mOp (g2 modP) 4e3 (mCB (g1 maxH) (aCons 5e7 (aCons (mCB (g1 lenH) (aCons 3e7 aNil)) aNil)))) aNil)))) (mSeq (mSet 3 (mOp (g2 modP) (mOp (g2 mulP) (mOp 8e1 (mOp 8e1 (mOp (g2 modP) 6e9 (mC (.int 2147483629))) (mOp (g2 mulP) (mOp (g2 mulP) (mC (.int 7919)) 4e3) 4e3)) (mC (.int 11))) (mC (.int 48271))) (mC (.int 2147483647)))) (mSeq (mIfS (mTest (mOp (g2 eqP) (mOp (g2 modP) (mFn F_l_cell_at (aCons 3e7 (aCons 4e1 aNil))) (mC (.int 2))) 4e1)) (mSet 2 4e1) mSkip) (mRetF (mLst (aCons (mOp (g2 modP) 6e9 (mOp (g2 powP) (mC (.int 10)) (mC (.int 40)))) (aCons 9e1 aNil)))))))
def F_l_left:List SV->M SV:=mDef 2 2 (B_l_left)
def FF_l_left:List SV->M 2e9:=mDefF 2 2 (B_l_left)
abbrev B_l_pick:PSt->M PF:=(mSeq (mIfS (mTest (mOp (g2 gtP) (mOp 4e9 3e7 4e1) 4e1)) (mSeq (mSet 2 (mOp (g2 modP) (mOp 4e9 3e7 4e1) 4e3)) (mSeq (mSetIx (mOp (g2 fdivWP) (mOp 4e9 3e7 4e1) 4e3) 3e7 4e1) (mRet 6e9))) mSkip) (mSeq (mSetIx (mOp (g2 modP) (mOp 8e1 (mOp (g2 mulP) (mOp 4e9 3e7 5e7) (mC (.int 48271))) (mC (.int 12345))) (mC (.int 2147483647))) 3e7 5e7) (mRet (mOp (g2 modP) (mOp (g2 modP) (mOp (g2 mulP) (mOp 4e9 3e7 5e7) (mOp 4e9 3e7 5e7)) (mC (.int 1999999973))) 4e3))))
def F_l_pick:List SV->M SV:=mDef 2 1 (B_l_pick)
abbrev B_l_words:PSt->M PF:=(mSeq (mSet 2 (mC (.str "abcdefghijklmnopqrstuvwxyz"))) (mSeq (mSet 3 (mFn F_l_pick (aCons 3e7 (aCons (mC (.int 26)) aNil)))) (mSeq (mSet 4 (mOp 4e9 (mVal (mLst (aCons 5e7 (aCons (mC (.int 3)) (aCons (mC (.int 5)) (aCons (mC (.int 7)) (aCons (mC (.int 9)) (aCons (mC (.int 11)) aNil)))))))) (mFn F_l_pick (aCons 3e7 (aCons (mC (.int 6)) aNil))))) (mRetF (mComp (mRange1 (aCons 4e3 aNil)) ["_law_k"] [2,3,4] (hName 0) tOk (mOp 8e1 (mOp 4e9 4e3 (mOp (g2 modP) (mOp 8e1 6e9 (mOp (g2 mulP) 9e1 3e7)) (mC (.int 26)))) (mOp 4e9 (mVal (mLst (aCons (mC (.str "")) (aCons (mC (.str "zq")) (aCons (mC (.str "x")) (aCons (mC (.str "qqzzx")) aNil)))))) (mOp (g2 modP) (mOp 8e1 6e9 (mOp (g2 mulP) 3e7 3e7)) (mC (.int 4))))))))))
def F_l_words:List SV->M SV:=mDef 2 3 (B_l_words)
abbrev B_law:PSt->M PF:=(mSeq (mNew 1 (mFnF FF_l_left (aCons 3e7 (aCons 5e7 aNil)))) (mSeq (mSet 2 (mFn F_l_words (aCons 4e3 (aCons (mC (.int 12)) aNil)))) (mSeq (mSet 3 (mOp 4e9 (mVal (mLst (aCons 4e1 (aCons 5e7 (aCons (mC (.int 7)) (aCons (mC (.int 40)) (aCons (mOp 8e1 (mOp (g2 powP) (mC (.int 10)) (mC (.int 20))) (mC (.int 3))) aNil))))))) (mFn F_l_pick (aCons 4e3 (aCons (mC (.int 5)) aNil))))) (mSeq (mNew 4 (mLst aNil)) (mSeq (mNewT 5) (mSeq (mNew 6 (mLst aNil)) (mSeq (mFor (mRange1 (aCons (mOp 8e1 5e7 (mFn F_l_pick (aCons 4e3 (aCons (mC (.int 9)) aNil)))) aNil)) (hName 7) (mSeq (mSet 8 (mOp 8e1 (mFn F_l_pick (aCons 4e3 (aCons (mC (.int 50)) aNil))) (mOp (g2 mulP) 9e1 (mFn F_l_pick (aCons 4e3 (aCons (mC (.int 3)) aNil)))))) (mSeq (mNew 9 (mLst aNil)) (mSeq (mFor (mRange1 (aCons (mOp 8e1 5e7 (mFn F_l_pick (aCons 4e3 (aCons (mC (.int 3)) aNil)))) aNil)) (hName 10) (mSeq (mSet 11 (mOp 4e9 (mVal (mLst (aCons (mC (.str "bell")) (aCons (mOp 4e9 6e9 (mC (.int 11))) aNil)))) (mCB (g1 intH) (aCons (mOp (g2 (deepP eqD)) (mFn F_l_pick (aCons 4e3 (aCons (mC (.int 3)) aNil))) 4e1) aNil)))) (mSeq (mSet 12 (mCB (g1 maxH) (aCons 4e1 (aCons (mOp 8e1 (mOp 8e1 (mVar 8) 9e1) (mOp 4e9 (mVal (mLst (aCons 4e1 (aCons 5e7 (aCons (mNeg 5e7) (aCons (mC (.int 2)) aNil)))))) (mFn F_l_pick (aCons 4e3 (aCons (mC (.int 4)) aNil))))) aNil)))) (mSeq (mSet 13 (mTup (aCons (mVar 11) (aCons (mOp 4e9 6e9 (mVar 7)) (aCons (mOp 8e1 5e7 (mVar 10)) aNil))))) (mSeq (mDrop (mApp (mVar 9) (aCons (mVar 13) aNil))) (mIfS (mTest (mOp (g2 gtP) (mFn F_l_pick (aCons 4e3 (aCons (mC (.int 5)) aNil))) 4e1)) (mSeq (mDrop (mApp (mVar 4) (aCons (mOp 8e1 (mVar 13) (mTup (aCons 4e1 (aCons (mTup aNil) (aCons (mVar 12) (aCons (mTup (aCons (mC (.str "note")) aNil)) aNil)))))) aNil))) (mIfS (mAndT (mTest (mOp (g2 (deepP eqD)) (mVar 11) (mC (.str "bell")))) (mAndT (mTest (mOp (g2 gtP) (mVar 12) (mOp 8e1 (mVar 8) 9e1))) (mTest (mOp (g2 (inDP true)) (mTup (aCons (mC (.str "behind")) (aCons (mTup (aCons (mOp 4e9 6e9 (mC (.int 10))) (aCons (mOp 4e9 6e9 (mVar 7)) (aCons (mC (.int 4)) aNil)))) aNil))) (mVar 6))))) (mDrop (mApp (mVar 6) (aCons (mTup (aCons (mC (.str "behind")) (aCons (mTup (aCons (mOp 4e9 6e9 (mC (.int 10))) (aCons (mOp 4e9 6e9 (mVar 7)) (aCons (mC (.int 4)) aNil)))) aNil))) aNil))) mSkip)) mSkip)))))) (mSeq (mDrop (mApp (mVar 4) (aCons (mTup (aCons (mOp 4e9 6e9 (mC (.int 10))) (aCons (mOp 4e9 6e9 (mVar 7)) (aCons (mC (.int 4)) (aCons 4e1 (aCons (mCB (g1 tupH) (aCons (mVal (mSorted3 (aCons (mVar 9) aNil))) aNil)) (aCons (mVar 8) (aCons (mTup (aCons (mC (.str "note")) aNil)) aNil)))))))) aNil))) (mSeq (mSet 14 (mCB (g1 maxH) (aCons 4e1 (aCons (mOp 8e1 (mOp (g2 subP) (mVar 8) 9e1) (mOp 4e9 (mVal (mLst (aCons 4e1 (aCons 5e7 (aCons (mNeg 5e7) (aCons (mC (.int 5)) aNil)))))) (mFn F_l_pick (aCons 4e3 (aCons (mC (.int 4)) aNil))))) aNil)))) (mIfS (mTest (mOp (g2 gtP) (mFn F_l_pick (aCons 4e3 (aCons (mC (.int 4)) aNil))) 4e1)) (mSeq (mSetIxT (mVar 14) (mVar 5) (mTup (aCons (mOp 4e9 6e9 (mC (.int 10))) (aCons (mOp 4e9 6e9 (mVar 7)) (aCons (mC (.int 4)) aNil))))) (mIfS (mTest (mOp (g2 gtP) (mVar 8) (mOp 8e1 (mVar 14) 9e1))) (mDrop (mApp (mVar 6) (aCons (mTup (aCons (mC (.str "ahead")) (aCons (mTup (aCons (mOp 4e9 6e9 (mC (.int 10))) (aCons (mOp 4e9 6e9 (mVar 7)) (aCons (mC (.int 4)) aNil)))) aNil))) aNil))) mSkip)) mSkip))))))) (mSeq (mSet 15 (mVal (mComp (mItems (mVal (mFnFS FF_marks [] (aCons (mTup (aCons 9e1 (aCons mDict0T aNil))) (aCons (mVar 4) (aCons (mVar 5) aNil)))))) ["_law_claim"] [] (hName 0) (mTest (mOp (g2 (deepP fun p q=>!eqD p q)) (mOp 4e9 3e7 4e1) (mC (.str "twin")))) 3e7))) (mSeq (mIfS (mTest (mOp (g2 (deepP fun p q=>!eqD p q)) (mVar 15) (mVal (mSorted3 (aCons (mVar 6) aNil))))) (mRet (mC (.bl false))) mSkip) (mSeq (mSet 16 (mVal (mPureF (mComp (mItems (mVar 4)) ["_law_letter"] [2] (hName 0) (mTest (mOp (g2 (deepP eqD)) (mOp 4e9 3e7 4e1) (mOp 4e9 4e3 (mC (.int 10))))) 3e7)))) (mRet (mOp (g2 (deepP eqD)) (mVal (mFnF FF_marks (aCons (mTup (aCons 9e1 (aCons mDict0T aNil))) (aCons (mVar 16) (aCons mDict0T aNil))))) (mVal (mLst aNil))))))))))))))
def F_law:List SV->M SV:=mDef 1 16 (B_law)
def top (i:Nat):Stmt:=PySem.Challenge.pw_holdword_k32_clocks_at_the_bound.main.body.getD i (.Pass ⟨0,0,0,0⟩)
structure Txt (mg:Str->Option Value):Prop where
 c_JUDGE:∃t,mg "JUDGE"=some (.str "bell" t)
 b_any:mg "any"=none
 b_enumerate:mg "enumerate"=none
 b_int:mg "int"=none
 b_len:mg "len"=none
 b_list:mg "list"=none
 b_max:mg "max"=none
 b_range:mg "range"=none
 b_set:mg "set"=none
 b_sorted:mg "sorted"=none
 b_tuple:mg "tuple"=none
section
variable {P:Yy}{w:World}{K:W.Frag}{mg:2e6}{base:Heap}
abbrev ZcM:Stmt:=top 2
theorem sc_name_of:FnScope ["letter"] ["letter"] (defScope ZcM):=1e8
theorem ln0 {P:List Value->Prop}(h:P []):∀us:List Value,us.length=0->P us:=by
 intro us hl
 cases us with
 | nil=>exact h
 | cons a r=>simp at hl
theorem ln1 {P:List Value->Prop}(h:∀a,P [a]):∀us:List Value,us.length=1->P us:=by
 intro us hl
 cases us with
 | nil=>simp at hl
 | cons a r=>exact ln0 (P:=fun r=>P (a::r)) (h a) r (by simpa using hl)
theorem ln2 {P:List Value->Prop}(h:∀a b,P [a,b]):∀us:List Value,us.length=2->P us:=by
 intro us hl
 cases us with
 | nil=>simp at hl
 | cons a r=>exact ln1 (P:=fun r=>P (a::r)) (h a) r (by simpa using hl)
theorem ln3 {P:List Value->Prop}(h:∀a b c,P [a,b,c]):∀us:List Value,us.length=3->P us:=by
 intro us hl
 cases us with
 | nil=>simp at hl
 | cons a r=>exact ln2 (P:=fun r=>P (a::r)) (h a) r (by simpa using hl)
theorem ln4 {P:List Value->Prop}(h:∀a b c d,P [a,b,c,d]):∀us:List Value,us.length=4->P us:=by
 intro us hl
 cases us with
 | nil=>simp at hl
 | cons a r=>exact ln3 (P:=fun r=>P (a::r)) (h a) r (by simpa using hl)
theorem ok_name_of (Fn:Hd.FnAt K mg "name_of" ZcM)(T:Txt mg):Cal P w K mg base 1 "name_of" ["letter"] (liftSp K (F_name_of)):=
 Zay Fn sc_name_of (fun _ _ _ _ _ _=>ln1 fun _=>rfl) fun _ cdv A outer s H E hr=>(@Zal _ _ _ (@ZaD _ _ _ _ (Zcg (Zab 0) ZcV (ZcU Zac))))
end
section
variable {P:Yy}{w:World}{K:W.Frag}{mg:2e6}{base:Heap}
abbrev Zby:Stmt:=top 4
theorem ZcL:FnScope ["claims"] ["claims"] (defScope Zby):=1e8
theorem ok_in_order (Fn:Hd.FnAt K mg "in_order" Zby)(T:Txt mg):Cal P w K mg base 1 "in_order" ["claims"] (liftSp K (F_in_order)):=
 Zay Fn ZcL (fun _ _ _ _ _ _=>ln1 fun _=>rfl) fun _ cdv A outer s H E hr=>(@Zal _ _ _ (ZaE (Zdy rfl (hu64 hr) 1e3 T.b_sorted 1e3 1e3 T.b_set (@Zaa _ _ _ _ _ (Zab 0) Zad 1e3))))
theorem okF_in_order (Fn:Hd.FnAt K mg "in_order" Zby)(T:Txt mg):Cal P w K mg base 1 "in_order" ["claims"] (liftSpF K (FF_in_order)):=
 ZbW Fn ZcL (fun _ _ _ _ _ _=>ln1 fun _=>rfl) fun _ cdv A outer s H E hr=>(@Zal _ _ _ (ZaE (Zdy rfl (hu64 hr) 1e3 T.b_sorted 1e3 1e3 T.b_set (@Zaa _ _ _ _ _ (Zab 0) Zad 1e3))))
end
section
variable {P:Yy}{w:World}{K:W.Frag}{mg:2e6}{base:Heap}
abbrev ZcP:Stmt:=top 6
theorem sc_by_name:FnScope ["pile"] ["pile"] (defScope ZcP):=1e8
theorem ok_by_name (Fn:Hd.FnAt K mg "by_name" ZcP)(T:Txt mg)(c_name_of:Cal P w K mg base 1 "name_of" ["letter"] (liftSp K F_name_of)):Cal P w K mg base 2 "by_name" ["pile"] (liftSp K (F_by_name)):=
 Zay Fn sc_by_name (fun _ _ _ _ _ _=>ln1 fun _=>rfl) fun _ cdv A outer s H E hr=>(@Zal _ _ _ (@ZaD _ _ _ _ (q_em_compD (vs:=["letter"]) (fs:=[]) (fr:=[]) 8e4 rfl (hu64 hr) (ZaP (Zab 0)) (fun _ _ _ _ _=>(Zan (i:=0) (show ((["letter"]:List Str)++([]:List Str)).Nodup by decide +kernel) rfl 3e3)) (fun _ _ _ _ _=>ZaO) (fun _ _ _ _ _=>(Zai c_name_of 3e9 1e3 (@Zaa _ _ _ _ _ (Zab 0) Zad 1e3))) (fun _ _ _ _ _=>(Zab 0)))))
end
section
variable {P:Yy}{w:World}{K:W.Frag}{mg:2e6}{base:Heap}
abbrev Zcf:Stmt:=top 7
theorem sc_followed:FnScope ["letter"] ["letter"] (defScope Zcf):=1e8
theorem ok_followed (Fn:Hd.FnAt K mg "followed" Zcf)(T:Txt mg):Cal P w K mg base 1 "followed" ["letter"] (liftSp K (F_followed)):=
 Zay Fn sc_followed (fun _ _ _ _ _ _=>ln1 fun _=>rfl) fun _ cdv A outer s H E hr=>(@Zal _ _ _ (@ZaD _ _ _ _ (Zar (@Zaa _ _ _ _ _ 9e0 (@Zaa _ _ _ _ _ 9e0 (@Zaa _ _ _ _ _ 9e0 Zad 1e3) 1e3) 1e3))))
end
section
variable {P:Yy}{w:World}{K:W.Frag}{mg:2e6}{base:Heap}
abbrev ZbJ:Stmt:=top 9
theorem Zbm:FnScope ["letters","name","found"] ["letters","name"] (defScope ZbJ):=1e8
theorem ok_row_among (Fn:Hd.FnAt K mg "row_among" ZbJ)(T:Txt mg)(c_followed:Cal P w K mg base 1 "followed" ["letter"] (liftSp K F_followed)):Cal P w K mg base 2 "row_among" ["letters","name"] (liftSp K (F_row_among)):=
 Zay Fn Zbm (fun _ _ _ _ _ _=>ln2 fun _ _=>rfl) fun _ cdv A outer s H E hr=>(@Zaf _ _ _ _ _ (q_sm_newT (n:=2) Zbm.nd rfl 3e3) (@Zaf _ _ _ _ _ (q_sm_while WE (q_WM_t (Zct (Zax (op_inT (hu64 hr)) inT_ok.r (Zab 1) (Zab 0) rfl) (ZcS (Zax (op_notInT (hu64 hr)) inT_ok.r (Zab 1) (Zab 2) rfl)))) (@Zaf _ _ _ _ _ (ZcT (hu64 hr) (Zbf 7e0 (Zab 0) (Zab 1)) (Zab 2) (Zab 1)) (@Zal _ _ _ (Zao (i:=1) Zbm.nd rfl 3e3 (Zai c_followed 3e9 1e3 (@Zaa _ _ _ _ _ (Zbf 7e0 (Zab 0) (Zab 1)) Zad 1e3)))))) (@Zal _ _ _ (ZaE (q_fm_revS (ZaG (q_fm_listvals rfl 1e3 T.b_list (Zab 2))) (q_em_neg Zac))))))
end
section
variable {P:Yy}{w:World}{K:W.Frag}{mg:2e6}{base:Heap}
abbrev ZcO:Stmt:=top 11
theorem Zdw:FnScope ["letters","letter","ahead"] ["letters","letter"] (defScope ZcO):=1e8
theorem ok_is_back (Fn:Hd.FnAt K mg "is_back" ZcO)(T:Txt mg)(c_followed:Cal P w K mg base 1 "followed" ["letter"] (liftSp K F_followed)):Cal P w K mg base 2 "is_back" ["letters","letter"] (liftSp K (F_is_back)):=
 Zay Fn Zdw (fun _ _ _ _ _ _=>ln2 fun _ _=>rfl) fun _ cdv A outer s H E hr=>(@Zaf _ _ _ _ _ (Zao (i:=2) Zdw.nd rfl 3e3 (Zai c_followed 3e9 1e3 (@Zaa _ _ _ _ _ (Zab 1) Zad 1e3))) (@Zal _ _ _ (@ZaD _ _ _ _ (q_em_and (ZaZ (op_inT (hu64 hr)) inT_ok.r (Zab 2) (Zab 0) rfl) (q_em_one (ZaZ op_lt lt_ok.r (Zaj 7e0 (Zab 1) Zac) (Zaj 7e0 (Zbf 7e0 (Zab 0) (Zab 2)) Zac) (nomark _)))))))
end
section
variable {P:Yy}{w:World}{K:W.Frag}{mg:2e6}{base:Heap}
abbrev Zcd:Stmt:=top 12
theorem ZcJ:FnScope ["letters","letter","name"] ["letters","letter"] (defScope Zcd):=1e8
theorem ok_is_loose (Fn:Hd.FnAt K mg "is_loose" Zcd)(T:Txt mg)(c_name_of:Cal P w K mg base 1 "name_of" ["letter"] (liftSp K F_name_of))(c_row_among:Cal P w K mg base 2 "row_among" ["letters","name"] (liftSp K F_row_among))(c_followed:Cal P w K mg base 1 "followed" ["letter"] (liftSp K F_followed)):Cal P w K mg base 3 "is_loose" ["letters","letter"] (liftSp K (F_is_loose)):=
 Zay Fn ZcJ (fun _ _ _ _ _ _=>ln2 fun _ _=>rfl) fun _ cdv A outer s H E hr=>(@Zaf _ _ _ _ _ (Zao (i:=2) ZcJ.nd rfl 3e3 (Zai c_name_of 3e9 1e3 (@Zaa _ _ _ _ _ (Zab 1) Zad 1e3))) (@Zal _ _ _ (@ZaD _ _ _ _ (ZaZ (op_eqD (hu64 hr)) ZbS.r (Zai c_followed 3e9 1e3 (@Zaa _ _ _ _ _ (Zaj 7e0 (Zai c_row_among 3e9 1e3 (@Zaa _ _ _ _ _ (Zab 0) (@Zaa _ _ _ _ _ (Zab 2) Zad 1e3) 1e3)) Zac) Zad 1e3)) (Zab 2) (nomark _)))))
end
section
variable {P:Yy}{w:World}{K:W.Frag}{mg:2e6}{base:Heap}
abbrev ZbL:Stmt:=top 13
theorem Zcn:FnScope ["letters","letter","span","times"] ["letters","letter","span"] (defScope ZbL):=1e8
theorem ok_is_behind (Fn:Hd.FnAt K mg "is_behind" ZbL)(T:Txt mg):Cal P w K mg base 1 "is_behind" ["letters","letter","span"] (liftSp K (F_is_behind)):=
 Zay Fn Zcn (fun _ _ _ _ _ _=>ln3 fun _ _ _=>rfl) fun _ cdv A outer s H E hr=>(@Zaf _ _ _ _ _ (q_sm_comp (i:=3) Zcn.nd rfl rfl (vs:=["got"]) (fs:=["letters"]) (fr:=[0]) 8e4 rfl (ZaP (Zaj 7e0 (Zab 1) Zac)) (fun _ _ _ _ _=>(Zan (i:=0) (show ((["got"]:List Str)++(["letters"]:List Str)).Nodup by decide +kernel) rfl 3e3)) (fun _ _ _ _ _=>(Zcu (q_WM_t (Zct (Zax (op_inT (hu64 hr)) inT_ok.r (Zab 0) (Zab 1) rfl) (ZcS (Zax op_eq eq_ok.r 9e0 (q_em_globS 1e3 T.c_JUDGE) (nomark _))))))) (fun _ _ _ _ _=>(Zaj 7e0 (Zbf 7e0 (Zab 1) (Zab 0)) Zac))) (@Zal _ _ _ (@ZaD _ _ _ _ (q_em_any rfl 1e3 T.b_any 1e3 (@Zaa _ _ _ _ _ (ZaG (q_fm_comp (vs:=["time"]) (fs:=["span","letter"]) (fr:=[2,1]) 8e4 rfl (ZaP (Zab 3)) (fun _ _ _ _ _=>(Zan (i:=0) (show ((["time"]:List Str)++(["span","letter"]:List Str)).Nodup by decide +kernel) rfl 3e3)) (fun _ _ _ _ _=>ZaO) (fun _ _ _ _ _=>(ZaZ op_gt gt_ok.r (Zab 0) (Zap (Zaj 7e0 (Zab 2) Zac) (Zab 1)) (nomark _))))) Zad 1e3)))))
end
section
variable {P:Yy}{w:World}{K:W.Frag}{mg:2e6}{base:Heap}
abbrev Zce:Stmt:=top 14
theorem ZcK:FnScope ["comings","letter","span","name"] ["comings","letter","span"] (defScope Zce):=1e8
theorem ok_is_ahead (Fn:Hd.FnAt K mg "is_ahead" Zce)(T:Txt mg)(c_name_of:Cal P w K mg base 1 "name_of" ["letter"] (liftSp K F_name_of)):Cal P w K mg base 2 "is_ahead" ["comings","letter","span"] (liftSp K (F_is_ahead)):=
 Zay Fn ZcK (fun _ _ _ _ _ _=>ln3 fun _ _ _=>rfl) fun _ cdv A outer s H E hr=>(@Zaf _ _ _ _ _ (Zao (i:=3) ZcK.nd rfl 3e3 (Zai c_name_of 3e9 1e3 (@Zaa _ _ _ _ _ (Zab 1) Zad 1e3))) (@Zal _ _ _ (@ZaD _ _ _ _ (q_em_and (ZaZ (op_inT (hu64 hr)) inT_ok.r (Zab 3) (Zab 0) rfl) (q_em_one (ZaZ op_gt gt_ok.r (Zaj 7e0 (Zab 1) Zac) (Zap (Zbf 7e0 (Zab 0) (Zab 3)) (Zab 2)) (nomark _)))))))
end
section
variable {P:Yy}{w:World}{K:W.Frag}{mg:2e6}{base:Heap}
abbrev s_twins:Stmt:=top 15
theorem Zbw:FnScope ["letters","after","name"] ["letters"] (defScope s_twins):=1e8
theorem ok_twins (Fn:Hd.FnAt K mg "twins" s_twins)(T:Txt mg)(c_followed:Cal P w K mg base 1 "followed" ["letter"] (liftSp K F_followed)):Cal P w K mg base 2 "twins" ["letters"] (liftSp K (F_twins)):=
 Zay Fn Zbw (fun _ _ _ _ _ _=>ln1 fun _=>rfl) fun _ cdv A outer s H E hr=>(q_bm_sdl (n:=1) (hu64 hr) Zbw.nd rfl 3e3 (by first | exact Or.inl rfl | exact Or.inr 3e3 | exact Or.inr (Or.inr rfl)) WE rfl (ZaP (ZaG (ZaY rfl (hu64 hr) 1e3 T.b_sorted 1e3 (@Zaa _ _ _ _ _ (Zab 0) Zad 1e3)))) (Zan (i:=2) Zbw.nd rfl 3e3) (Zai c_followed 3e9 1e3 (@Zaa _ _ _ _ _ (Zbf 7e0 (Zab 0) (Zab 2)) Zad 1e3)) (Zab 2) (@Zal _ _ _ (ZaE (Zdz (vs:=6e6) (fs:=[]) (fr:=[]) 8e4 rfl (Zab 1) (fun _ _ _ _ _=>(Zan (i:=0) (show ((6e6:List Str)++([]:List Str)).Nodup by decide +kernel) rfl 3e3)) (fun _ _ _ _ _=>ZaO) (fun _ _ _ _ _=>(ZbV (q_im_enum 1e3 T.b_enumerate (@Zaa _ _ _ _ _ (Zab 0) Zad 1e3)) (q_gm_tup rfl (ZaR (Zan (i:=1) (show ((6e6:List Str)++([]:List Str)).Nodup by decide +kernel) rfl 3e3) (ZaR (Zan (i:=2) (show ((6e6:List Str)++([]:List Str)).Nodup by decide +kernel) rfl 3e3) ZcW))) ZaO (ZbV (ZaP (Zcg (Zab 0) (ZcU (Zap (Zab 1) Zac)) ZcV)) (Zan (i:=3) (show ((6e6:List Str)++([]:List Str)).Nodup by decide +kernel) rfl 3e3) ZaO gs_nil))) (fun _ _ _ _ _=>(Zar (@Zaa _ _ _ _ _ ZaB (@Zaa _ _ _ _ _ (Zab 2) (@Zaa _ _ _ _ _ (Zab 3) Zad 1e3) 1e3) 1e3)))))))
theorem okF_twins (Fn:Hd.FnAt K mg "twins" s_twins)(T:Txt mg)(c_followed:Cal P w K mg base 1 "followed" ["letter"] (liftSp K F_followed)):Cal P w K mg base 2 "twins" ["letters"] (liftSpF K (FF_twins)):=
 ZbW Fn Zbw (fun _ _ _ _ _ _=>ln1 fun _=>rfl) fun _ cdv A outer s H E hr=>(q_bm_sdl (n:=1) (hu64 hr) Zbw.nd rfl 3e3 (by first | exact Or.inl rfl | exact Or.inr 3e3 | exact Or.inr (Or.inr rfl)) WE rfl (ZaP (ZaG (ZaY rfl (hu64 hr) 1e3 T.b_sorted 1e3 (@Zaa _ _ _ _ _ (Zab 0) Zad 1e3)))) (Zan (i:=2) Zbw.nd rfl 3e3) (Zai c_followed 3e9 1e3 (@Zaa _ _ _ _ _ (Zbf 7e0 (Zab 0) (Zab 2)) Zad 1e3)) (Zab 2) (@Zal _ _ _ (ZaE (Zdz (vs:=6e6) (fs:=[]) (fr:=[]) 8e4 rfl (Zab 1) (fun _ _ _ _ _=>(Zan (i:=0) (show ((6e6:List Str)++([]:List Str)).Nodup by decide +kernel) rfl 3e3)) (fun _ _ _ _ _=>ZaO) (fun _ _ _ _ _=>(ZbV (q_im_enum 1e3 T.b_enumerate (@Zaa _ _ _ _ _ (Zab 0) Zad 1e3)) (q_gm_tup rfl (ZaR (Zan (i:=1) (show ((6e6:List Str)++([]:List Str)).Nodup by decide +kernel) rfl 3e3) (ZaR (Zan (i:=2) (show ((6e6:List Str)++([]:List Str)).Nodup by decide +kernel) rfl 3e3) ZcW))) ZaO (ZbV (ZaP (Zcg (Zab 0) (ZcU (Zap (Zab 1) Zac)) ZcV)) (Zan (i:=3) (show ((6e6:List Str)++([]:List Str)).Nodup by decide +kernel) rfl 3e3) ZaO gs_nil))) (fun _ _ _ _ _=>(Zar (@Zaa _ _ _ _ _ ZaB (@Zaa _ _ _ _ _ (Zab 2) (@Zaa _ _ _ _ _ (Zab 3) Zad 1e3) 1e3) 1e3)))))))
end
section
variable {P:Yy}{w:World}{K:W.Frag}{mg:2e6}{base:Heap}
abbrev Zcc:Stmt:=top 16
theorem ZbI:FnScope ["letters","letter","comings","span","name","said"] ["letters","letter","comings","span"] (defScope Zcc):=1e8
theorem ok_marks_of (Fn:Hd.FnAt K mg "marks_of" Zcc)(T:Txt mg)(c_name_of:Cal P w K mg base 1 "name_of" ["letter"] (liftSp K F_name_of))(c_is_ahead:Cal P w K mg base 2 "is_ahead" ["comings","letter","span"] (liftSp K F_is_ahead))(c_is_behind:Cal P w K mg base 1 "is_behind" ["letters","letter","span"] (liftSp K F_is_behind))(c_is_loose:Cal P w K mg base 3 "is_loose" ["letters","letter"] (liftSp K F_is_loose))(c_is_back:Cal P w K mg base 2 "is_back" ["letters","letter"] (liftSp K F_is_back)):Cal P w K mg base 4 "marks_of" ["letters","letter","comings","span"] (liftSp K (F_marks_of)):=
 Zay Fn ZbI (fun _ _ _ _ _ _=>ln4 fun _ _ _ _=>rfl) fun _ cdv A outer s H E hr=>(@Zaf _ _ _ _ _ (Zao (i:=4) ZbI.nd rfl (Or.inr rfl) (Zai c_name_of 3e9 1e3 (@Zaa _ _ _ _ _ (Zab 1) Zad 1e3))) (q_bm_dispI (n:=5) ZbI.nd rfl 3e3 (by first | exact Or.inl rfl | exact Or.inr 3e3 | exact Or.inr (Or.inr rfl)) rfl (@ZbX _ _ _ _ _ _ _ _ _ _ (Zai c_is_back 3e9 1e3 (@Zaa _ _ _ _ _ (Zab 0) (@Zaa _ _ _ _ _ (Zab 1) Zad 1e3) 1e3)) (@ZbX _ _ _ _ _ _ _ _ _ _ (Zai c_is_loose 3e9 1e3 (@Zaa _ _ _ _ _ (Zab 0) (@Zaa _ _ _ _ _ (Zab 1) Zad 1e3) 1e3)) (@ZbX _ _ _ _ _ _ _ _ _ _ (Zai c_is_behind 3e9 1e3 (@Zaa _ _ _ _ _ (Zab 0) (@Zaa _ _ _ _ _ (Zab 1) (@Zaa _ _ _ _ _ (Zab 3) Zad 1e3) 1e3) 1e3)) (@ZbX _ _ _ _ _ _ _ _ _ _ (Zai c_is_ahead 3e9 1e3 (@Zaa _ _ _ _ _ (Zab 2) (@Zaa _ _ _ _ _ (Zab 1) (@Zaa _ _ _ _ _ (Zab 3) Zad 1e3) 1e3) 1e3)) q_dm_nil)))) 6e1 rfl rfl 3e0 1e4 rfl (vs:=["word","is_so"]) (fvs:=["name"]) (fr:=[4]) 8e4 (fun _ _ _ _ _=>(q_gm_tup rfl (ZaR (Zan (i:=0) (show ((["word","is_so"]:List Str)++(["name"]:List Str)).Nodup by decide +kernel) rfl 3e3) (ZaR (Zan (i:=1) (show ((["word","is_so"]:List Str)++(["name"]:List Str)).Nodup by decide +kernel) rfl 3e3) ZcW)))) (fun _ _ _ _ _=>(Zcu (q_tm_tru (Zab 1)))) (fun _ _ _ _ _=>(Zar (@Zaa _ _ _ _ _ (Zab 0) (@Zaa _ _ _ _ _ (Zab 2) Zad 1e3) 1e3)))))
end
section
variable {P:Yy}{w:World}{K:W.Frag}{mg:2e6}{base:Heap}
abbrev s_marks:Stmt:=top 17
theorem ZaX:FnScope ["town","pile","comings","letters","found","letter"] ["town","pile","comings"] (defScope s_marks):=1e8
theorem ok_marks (Fn:Hd.FnAt K mg "marks" s_marks)(T:Txt mg)(c_by_name:Cal P w K mg base 2 "by_name" ["pile"] (liftSp K F_by_name))(cF_twins:Cal P w K mg base 2 "twins" ["letters"] (liftSpF K FF_twins))(c_marks_of:Cal P w K mg base 4 "marks_of" ["letters","letter","comings","span"] (liftSp K F_marks_of))(cF_in_order:Cal P w K mg base 1 "in_order" ["claims"] (liftSpF K FF_in_order)):Cal P w K mg base 5 "marks" ["town","pile","comings"] (liftSp K (F_marks)):=
 Zay Fn ZaX (fun _ _ _ _ _ _=>ln3 fun _ _ _=>rfl) fun _ cdv A outer s H E hr=>(@Zaf _ _ _ _ _ (Zao (i:=3) ZaX.nd rfl 3e3 (Zai c_by_name 3e9 1e3 (@Zaa _ _ _ _ _ (Zab 1) Zad 1e3))) (@Zaf _ _ _ _ _ (ZbA (i:=4) ZaX.nd rfl 3e3 (Zcv cF_twins 3e9 1e3 (@Zaa _ _ _ _ _ (Zab 3) Zad 1e3))) (@Zaf _ _ _ _ _ (q_sm_forV WE rfl (Zab 3) (Zan (i:=5) ZaX.nd rfl 3e3) (@Zal _ _ _ (ZaS (ZcY (Zab 4) (@Zaa _ _ _ _ _ (Zai c_marks_of 3e9 1e3 (@Zaa _ _ _ _ _ (Zab 3) (@Zaa _ _ _ _ _ (Zab 5) (@Zaa _ _ _ _ _ (Zab 2) (@Zaa _ _ _ _ _ 9e0 Zad 1e3) 1e3) 1e3) 1e3)) Zad 1e3))))) (@Zal _ _ _ (ZaE (ZcX [] cF_in_order 3e9 1e3 (@Zaa _ _ _ _ _ (Zab 4) Zad 1e3)))))))
theorem okF_marks (Fn:Hd.FnAt K mg "marks" s_marks)(T:Txt mg)(c_by_name:Cal P w K mg base 2 "by_name" ["pile"] (liftSp K F_by_name))(cF_twins:Cal P w K mg base 2 "twins" ["letters"] (liftSpF K FF_twins))(c_marks_of:Cal P w K mg base 4 "marks_of" ["letters","letter","comings","span"] (liftSp K F_marks_of))(cF_in_order:Cal P w K mg base 1 "in_order" ["claims"] (liftSpF K FF_in_order)):Cal P w K mg base 5 "marks" ["town","pile","comings"] (liftSpF K (FF_marks)):=
 ZbW Fn ZaX (fun _ _ _ _ _ _=>ln3 fun _ _ _=>rfl) fun _ cdv A outer s H E hr=>(@Zaf _ _ _ _ _ (Zao (i:=3) ZaX.nd rfl 3e3 (Zai c_by_name 3e9 1e3 (@Zaa _ _ _ _ _ (Zab 1) Zad 1e3))) (@Zaf _ _ _ _ _ (ZbA (i:=4) ZaX.nd rfl 3e3 (Zcv cF_twins 3e9 1e3 (@Zaa _ _ _ _ _ (Zab 3) Zad 1e3))) (@Zaf _ _ _ _ _ (q_sm_forV WE rfl (Zab 3) (Zan (i:=5) ZaX.nd rfl 3e3) (@Zal _ _ _ (ZaS (ZcY (Zab 4) (@Zaa _ _ _ _ _ (Zai c_marks_of 3e9 1e3 (@Zaa _ _ _ _ _ (Zab 3) (@Zaa _ _ _ _ _ (Zab 5) (@Zaa _ _ _ _ _ (Zab 2) (@Zaa _ _ _ _ _ 9e0 Zad 1e3) 1e3) 1e3) 1e3)) Zad 1e3))))) (@Zal _ _ _ (ZaE (ZcX [] cF_in_order 3e9 1e3 (@Zaa _ _ _ _ _ (Zab 4) Zad 1e3)))))))
end
section
variable {P:Yy}{w:World}{K:W.Frag}{mg:2e6}{base:Heap}
abbrev ZbK:Stmt:=top 19
theorem sc_l_cell_at:FnScope ["_law_script","_law_k"] ["_law_script","_law_k"] (defScope ZbK):=1e8
theorem ok_l_cell_at (Fn:Hd.FnAt K mg "_law_cell_at" ZbK)(T:Txt mg):Cal P w K mg base 1 "_law_cell_at" ["_law_script","_law_k"] (liftSp K (F_l_cell_at)):=
 Zay Fn sc_l_cell_at (fun _ _ _ _ _ _=>ln2 fun _ _=>rfl) fun _ cdv A outer s H E hr=>(@Zaf _ _ _ _ _ (@Zbe _ _ _ _ _ _ _ _ (Zax op_lt lt_ok.r (Zab 1) (q_em_len 1e3 T.b_len (@Zaa _ _ _ _ _ (Zab 0) Zad 1e3)) (nomark _)) (@Zal _ _ _ (@ZaD _ _ _ _ (Zaj 7e0 (Zab 0) (Zab 1)))) ZaQ) (@Zal _ _ _ (@ZaD _ _ _ _ Zac)))
end
section
variable {P:Yy}{w:World}{K:W.Frag}{mg:2e6}{base:Heap}
abbrev Zcs:Stmt:=top 20
theorem ZaM:FnScope ["_law_script","_law_k","_law_cell","_law_seed"] ["_law_script","_law_k"] (defScope Zcs):=1e8
theorem ok_l_left (Fn:Hd.FnAt K mg "_law_left" Zcs)(T:Txt mg)(c__law_cell_at:Cal P w K mg base 1 "_law_cell_at" ["_law_script","_law_k"] (liftSp K F_l_cell_at)):Cal P w K mg base 2 "_law_left" ["_law_script","_law_k"] (liftSp K (F_l_left)):=
 Zay Fn ZaM (fun _ _ _ _ _ _=>ln2 fun _ _=>rfl) fun _ cdv A outer s H E hr=>(@Zaf _ _ _ _ _ (Zao (i:=2) ZaM.nd rfl 3e3 (Zai c__law_cell_at 3e9 1e3 (@Zaa _ _ _ _ _ (Zab 0) (@Zaa _ _ _ _ _ (Zaz (Zab 1) (Zcw rfl 1e3 T.b_max 1e3 (@Zaa _ _ _ _ _ Zac (@Zaa _ _ _ _ _ (q_em_len 1e3 T.b_len (@Zaa _ _ _ _ _ (Zab 0) Zad 1e3)) Zad 1e3) 1e3))) Zad 1e3) 1e3))) (@Zaf _ _ _ _ _ (Zao (i:=3) ZaM.nd rfl 3e3 (Zaz (ZaI (Zap (Zap (Zaz (Zab 2) Zac) (ZaI (ZaI Zac (Zab 1)) (Zab 1))) Zac) Zac) Zac)) (@Zaf _ _ _ _ _ (@Zbe _ _ _ _ _ _ _ _ (Zax op_eq eq_ok.r (Zaz (Zai c__law_cell_at 3e9 1e3 (@Zaa _ _ _ _ _ (Zab 0) 3e5 1e3)) Zac) Zac (nomark _)) (@Zal _ _ _ (Zao (i:=2) ZaM.nd rfl 3e3 Zac)) ZaQ) (@Zal _ _ _ (ZaE (ZaF (@Zaa _ _ _ _ _ (Zaz (Zab 2) (q_em_pow Zac Zac)) (@Zaa _ _ _ _ _ (Zab 3) Zad 1e3) 1e3)))))))
theorem okF_l_left (Fn:Hd.FnAt K mg "_law_left" Zcs)(T:Txt mg)(c__law_cell_at:Cal P w K mg base 1 "_law_cell_at" ["_law_script","_law_k"] (liftSp K F_l_cell_at)):Cal P w K mg base 2 "_law_left" ["_law_script","_law_k"] (liftSpF K (FF_l_left)):=
 ZbW Fn ZaM (fun _ _ _ _ _ _=>ln2 fun _ _=>rfl) fun _ cdv A outer s H E hr=>(@Zaf _ _ _ _ _ (Zao (i:=2) ZaM.nd rfl 3e3 (Zai c__law_cell_at 3e9 1e3 (@Zaa _ _ _ _ _ (Zab 0) (@Zaa _ _ _ _ _ (Zaz (Zab 1) (Zcw rfl 1e3 T.b_max 1e3 (@Zaa _ _ _ _ _ Zac (@Zaa _ _ _ _ _ (q_em_len 1e3 T.b_len (@Zaa _ _ _ _ _ (Zab 0) Zad 1e3)) Zad 1e3) 1e3))) Zad 1e3) 1e3))) (@Zaf _ _ _ _ _ (Zao (i:=3) ZaM.nd rfl 3e3 (Zaz (ZaI (Zap (Zap (Zaz (Zab 2) Zac) (ZaI (ZaI Zac (Zab 1)) (Zab 1))) Zac) Zac) Zac)) (@Zaf _ _ _ _ _ (@Zbe _ _ _ _ _ _ _ _ (Zax op_eq eq_ok.r (Zaz (Zai c__law_cell_at 3e9 1e3 (@Zaa _ _ _ _ _ (Zab 0) 3e5 1e3)) Zac) Zac (nomark _)) (@Zal _ _ _ (Zao (i:=2) ZaM.nd rfl 3e3 Zac)) ZaQ) (@Zal _ _ _ (ZaE (ZaF (@Zaa _ _ _ _ _ (Zaz (Zab 2) (q_em_pow Zac Zac)) (@Zaa _ _ _ _ _ (Zab 3) Zad 1e3) 1e3)))))))
end
section
variable {P:Yy}{w:World}{K:W.Frag}{mg:2e6}{base:Heap}
abbrev s_l_pick:Stmt:=top 21
theorem sc_l_pick:FnScope ["_law_left_here","_law_many","_law_digit"] ["_law_left_here","_law_many"] (defScope s_l_pick):=1e8
theorem ok_l_pick (Fn:Hd.FnAt K mg "_law_pick" s_l_pick)(T:Txt mg):Cal P w K mg base 1 "_law_pick" ["_law_left_here","_law_many"] (liftSp K (F_l_pick)):=
 Zay Fn sc_l_pick (fun _ _ _ _ _ _=>ln2 fun _ _=>rfl) fun _ cdv A outer s H E hr=>(@Zaf _ _ _ _ _ (@Zbe _ _ _ _ _ _ _ _ (Zax op_gt gt_ok.r 9e0 Zac (nomark _)) (@Zaf _ _ _ _ _ (Zao (i:=2) sc_l_pick.nd rfl 3e3 (Zaz 9e0 (Zab 1))) (@Zaf _ _ _ _ _ (Zdx (q_em_fdivW 9e0 (Zab 1)) (Zab 0) Zac) (@Zal _ _ _ (@ZaD _ _ _ _ (Zab 2))))) ZaQ) (@Zaf _ _ _ _ _ (Zdx (Zaz (Zap (ZaI 9e0 Zac) Zac) Zac) (Zab 0) Zac) (@Zal _ _ _ (@ZaD _ _ _ _ (Zaz (Zaz (ZaI 9e0 9e0) Zac) (Zab 1))))))
end
section
variable {P:Yy}{w:World}{K:W.Frag}{mg:2e6}{base:Heap}
abbrev ZcN:Stmt:=top 22
theorem Zbx:FnScope ["_law_left_here","_law_many","_law_letters","_law_first","_law_step"] ["_law_left_here","_law_many"] (defScope ZcN):=1e8
theorem ok_l_words (Fn:Hd.FnAt K mg "_law_words" ZcN)(T:Txt mg)(c__law_pick:Cal P w K mg base 1 "_law_pick" ["_law_left_here","_law_many"] (liftSp K F_l_pick)):Cal P w K mg base 2 "_law_words" ["_law_left_here","_law_many"] (liftSp K (F_l_words)):=
 Zay Fn Zbx (fun _ _ _ _ _ _=>ln2 fun _ _=>rfl) fun _ cdv A outer s H E hr=>(@Zaf _ _ _ _ _ (Zao (i:=2) Zbx.nd rfl (Or.inr rfl) ZaB) (@Zaf _ _ _ _ _ (Zao (i:=3) Zbx.nd rfl (Or.inr rfl) (Zai c__law_pick 3e9 1e3 (@Zaa _ _ _ _ _ (Zab 0) 3e5 1e3))) (@Zaf _ _ _ _ _ (Zao (i:=4) Zbx.nd rfl (Or.inr rfl) (Zaj 7e0 (ZaG (ZaF (@Zaa _ _ _ _ _ Zac (@Zaa _ _ _ _ _ Zac (@Zaa _ _ _ _ _ Zac (@Zaa _ _ _ _ _ Zac (@Zaa _ _ _ _ _ Zac 3e5 1e3) 1e3) 1e3) 1e3) 1e3))) (Zai c__law_pick 3e9 1e3 (@Zaa _ _ _ _ _ (Zab 0) 3e5 1e3)))) (@Zal _ _ _ (ZaE (q_fm_comp (vs:=["_law_k"]) (fs:=["_law_letters","_law_first","_law_step"]) (fr:=[2,3,4]) 8e4 rfl (ZbN 1e3 T.b_range (@Zaa _ _ _ _ _ (Zab 1) Zad 1e3)) (fun _ _ _ _ _=>(Zan (i:=0) (show ((["_law_k"]:List Str)++(["_law_letters","_law_first","_law_step"]:List Str)).Nodup by decide +kernel) rfl 3e3)) (fun _ _ _ _ _=>ZaO) (fun _ _ _ _ _=>(Zap (Zaj 7e0 (Zab 1) (Zaz (Zap (Zab 2) (ZaI (Zab 3) (Zab 0))) Zac)) (Zaj 7e0 (ZaG (ZaF (@Zaa _ _ _ _ _ ZaB (@Zaa _ _ _ _ _ ZaB (@Zaa _ _ _ _ _ ZaB (@Zaa _ _ _ _ _ ZaB Zad 1e3) 1e3) 1e3) 1e3))) (Zaz (Zap (Zab 2) (ZaI (Zab 0) (Zab 0))) Zac))))))))))
end
section
variable {P:Yy}{w:World}{K:W.Frag}{mg:2e6}{base:Heap}
abbrev s_law:Stmt:=top 23
theorem ZaL:FnScope ["_law_script","_law_left_here","_law_words_here","_law_span","_law_letters","_law_comings","_law_due","_law_k","_law_time","_law_gots","_law_j","_law_house","_law_late","_law_got","_law_came","_law_found","_law_alone"] ["_law_script"] (defScope s_law):=1e8
theorem ok_law {f_me:Addr}{fd_me:Wh}(Fn:Fun K "law" "law" s_law f_me fd_me)(T:Txt mg)(cF__law_left:Cal P w K mg base 2 "_law_left" ["_law_script","_law_k"] (liftSpF K FF_l_left))(c__law_words:Cal P w K mg base 2 "_law_words" ["_law_left_here","_law_many"] (liftSp K F_l_words))(c__law_pick:Cal P w K mg base 1 "_law_pick" ["_law_left_here","_law_many"] (liftSp K F_l_pick))(cF_marks:Cal P w K mg base 5 "marks" ["town","pile","comings"] (liftSpF K FF_marks)):FnOk P w K mg base CX0 6 f_me fd_me ["_law_script"] (liftSp K (F_law)):=
 q_fn_mk Fn ZaL fun cdv A outer s H E hr=>(@Zaf _ _ _ _ _ (ZbA (i:=1) ZaL.nd rfl 3e3 (Zcv cF__law_left 3e9 1e3 (@Zaa _ _ _ _ _ (Zab 0) 3e5 1e3))) (@Zaf _ _ _ _ _ (Zao (i:=2) ZaL.nd rfl (Or.inr rfl) (Zai c__law_words 3e9 1e3 (@Zaa _ _ _ _ _ (Zab 1) 3e5 1e3))) (@Zaf _ _ _ _ _ (Zao (i:=3) ZaL.nd rfl 3e3 (Zaj 7e0 (ZaG (ZaF (@Zaa _ _ _ _ _ Zac (@Zaa _ _ _ _ _ Zac (@Zaa _ _ _ _ _ Zac (@Zaa _ _ _ _ _ Zac (@Zaa _ _ _ _ _ (Zap (q_em_pow Zac Zac) Zac) Zad 1e3) 1e3) 1e3) 1e3) 1e3))) 5e0)) (@Zaf _ _ _ _ _ (ZbA (i:=4) ZaL.nd rfl 3e3 (ZaF Zad)) (@Zaf _ _ _ _ _ (q_sm_newT (n:=5) ZaL.nd rfl 3e3) (@Zaf _ _ _ _ _ (ZbA (i:=6) ZaL.nd rfl 3e3 (ZaF Zad)) (@Zaf _ _ _ _ _ (q_sm_for WE rfl (ZbN 1e3 T.b_range (@Zaa _ _ _ _ _ (Zap Zac 5e0) Zad 1e3)) (Zan (i:=7) ZaL.nd rfl 3e3) (@Zaf _ _ _ _ _ (Zao (i:=8) ZaL.nd rfl 3e3 (Zap 5e0 (ZaI (Zab 3) 5e0))) (@Zaf _ _ _ _ _ (ZbA (i:=9) ZaL.nd rfl 3e3 (ZaF Zad)) (@Zaf _ _ _ _ _ (q_sm_for WE rfl (ZbN 1e3 T.b_range (@Zaa _ _ _ _ _ (Zap Zac 5e0) Zad 1e3)) (Zan (i:=10) ZaL.nd rfl 3e3) (@Zaf _ _ _ _ _ (Zao (i:=11) ZaL.nd rfl 3e3 (Zaj 7e0 (ZaG (ZaF (@Zaa _ _ _ _ _ ZaB (@Zaa _ _ _ _ _ (Zaj 7e0 (Zab 2) Zac) Zad 1e3) 1e3))) (q_em_intc 1e3 T.b_int 1e3 (@Zaa _ _ _ _ _ (ZaZ (op_eqD (hu64 hr)) ZbS.r 5e0 Zac (nomark _)) Zad 1e3)))) (@Zaf _ _ _ _ _ (Zao (i:=12) ZaL.nd rfl 3e3 (Zcw rfl 1e3 T.b_max 1e3 (@Zaa _ _ _ _ _ Zac (@Zaa _ _ _ _ _ (Zap (Zap (Zab 8) (Zab 3)) (Zaj 7e0 (ZaG (ZaF (@Zaa _ _ _ _ _ Zac (@Zaa _ _ _ _ _ Zac (@Zaa _ _ _ _ _ (q_em_neg Zac) 3e5 1e3) 1e3) 1e3))) 5e0)) Zad 1e3) 1e3))) (@Zaf _ _ _ _ _ (Zao (i:=13) ZaL.nd rfl 3e3 (Zar (@Zaa _ _ _ _ _ (Zab 11) (@Zaa _ _ _ _ _ (Zaj 7e0 (Zab 2) (Zab 7)) (@Zaa _ _ _ _ _ (Zap Zac (Zab 10)) Zad 1e3) 1e3) 1e3))) (@Zaf _ _ _ _ _ (ZaS (ZaT (Zab 9) (@Zaa _ _ _ _ _ (Zab 13) Zad 1e3))) (@Zal _ _ _ (@Zbe _ _ _ _ _ _ _ _ (Zax op_gt gt_ok.r 5e0 Zac (nomark _)) (@Zaf _ _ _ _ _ (ZaS (ZaT (Zab 4) (@Zaa _ _ _ _ _ (Zap (Zab 13) (Zar (@Zaa _ _ _ _ _ Zac (@Zaa _ _ _ _ _ (Zar Zad) (@Zaa _ _ _ _ _ (Zab 12) (@Zaa _ _ _ _ _ (Zar (@Zaa _ _ _ _ _ ZaB Zad 1e3)) Zad 1e3) 1e3) 1e3) 1e3))) Zad 1e3))) (@Zal _ _ _ (@Zbe _ _ _ _ _ _ _ _ (q_WM_t (Zct (Zax (op_eqD (hu64 hr)) ZbS.r (Zab 11) ZaB (nomark _)) (Zct (Zax op_gt gt_ok.r (Zab 12) (Zap (Zab 8) (Zab 3)) (nomark _)) (ZcS (Zax (op_notInD (hu64 hr)) inD_ok.r (Zar (@Zaa _ _ _ _ _ ZaB (@Zaa _ _ _ _ _ (Zar (@Zaa _ _ _ _ _ (Zaj 7e0 (Zab 2) Zac) (@Zaa _ _ _ _ _ (Zaj 7e0 (Zab 2) (Zab 7)) 3e5 1e3) 1e3)) Zad 1e3) 1e3)) (Zab 6) rfl))))) (@Zal _ _ _ (ZaS (ZaT (Zab 6) (@Zaa _ _ _ _ _ (Zar (@Zaa _ _ _ _ _ ZaB (@Zaa _ _ _ _ _ (Zar (@Zaa _ _ _ _ _ (Zaj 7e0 (Zab 2) Zac) (@Zaa _ _ _ _ _ (Zaj 7e0 (Zab 2) (Zab 7)) 3e5 1e3) 1e3)) Zad 1e3) 1e3)) Zad 1e3)))) ZaQ))) ZaQ))))))) (@Zaf _ _ _ _ _ (ZaS (ZaT (Zab 4) (@Zaa _ _ _ _ _ (Zar (@Zaa _ _ _ _ _ (Zaj 7e0 (Zab 2) Zac) (@Zaa _ _ _ _ _ (Zaj 7e0 (Zab 2) (Zab 7)) (@Zaa _ _ _ _ _ Zac (@Zaa _ _ _ _ _ Zac (@Zaa _ _ _ _ _ (q_em_tupc 1e3 T.b_tuple 1e3 (@Zaa _ _ _ _ _ (ZaG (ZaY rfl (hu64 hr) 1e3 T.b_sorted 1e3 (@Zaa _ _ _ _ _ (Zab 9) Zad 1e3))) Zad 1e3)) (@Zaa _ _ _ _ _ (Zab 8) (@Zaa _ _ _ _ _ (Zar (@Zaa _ _ _ _ _ ZaB Zad 1e3)) Zad 1e3) 1e3) 1e3) 1e3) 1e3) 1e3) 1e3)) Zad 1e3))) (@Zaf _ _ _ _ _ (Zao (i:=14) ZaL.nd rfl 3e3 (Zcw rfl 1e3 T.b_max 1e3 (@Zaa _ _ _ _ _ Zac (@Zaa _ _ _ _ _ (Zap (q_em_sub (Zab 8) (Zab 3)) (Zaj 7e0 (ZaG (ZaF (@Zaa _ _ _ _ _ Zac (@Zaa _ _ _ _ _ Zac (@Zaa _ _ _ _ _ (q_em_neg Zac) 3e5 1e3) 1e3) 1e3))) 5e0)) Zad 1e3) 1e3))) (@Zal _ _ _ (@Zbe _ _ _ _ _ _ _ _ (Zax op_gt gt_ok.r 5e0 Zac (nomark _)) (@Zaf _ _ _ _ _ (ZcT (hu64 hr) (Zab 14) (Zab 5) (Zar (@Zaa _ _ _ _ _ (Zaj 7e0 (Zab 2) Zac) (@Zaa _ _ _ _ _ (Zaj 7e0 (Zab 2) (Zab 7)) 3e5 1e3) 1e3))) (@Zal _ _ _ (@Zbe _ _ _ _ _ _ _ _ (Zax op_gt gt_ok.r (Zab 8) (Zap (Zab 14) (Zab 3)) (nomark _)) (@Zal _ _ _ (ZaS (ZaT (Zab 6) (@Zaa _ _ _ _ _ (Zar (@Zaa _ _ _ _ _ ZaB (@Zaa _ _ _ _ _ (Zar (@Zaa _ _ _ _ _ (Zaj 7e0 (Zab 2) Zac) (@Zaa _ _ _ _ _ (Zaj 7e0 (Zab 2) (Zab 7)) 3e5 1e3) 1e3)) Zad 1e3) 1e3)) Zad 1e3)))) ZaQ))) ZaQ)))))))) (@Zaf _ _ _ _ _ (q_sm_comp (i:=15) ZaL.nd rfl rfl (vs:=["_law_claim"]) (fs:=[]) (fr:=[]) 8e4 rfl (ZaP (ZaG (ZcX [] cF_marks 3e9 1e3 (@Zaa _ _ _ _ _ (Zar (@Zaa _ _ _ _ _ (Zab 3) (@Zaa _ _ _ _ _ ZbO Zad 1e3) 1e3)) (@Zaa _ _ _ _ _ (Zab 4) (@Zaa _ _ _ _ _ (Zab 5) Zad 1e3) 1e3) 1e3)))) (fun _ _ _ _ _=>(Zan (i:=0) (show ((["_law_claim"]:List Str)++([]:List Str)).Nodup by decide +kernel) rfl 3e3)) (fun _ _ _ _ _=>(Zcu (Zax (op_neD (hu64 hr)) ZbS.r 9e0 ZaB (nomark _)))) (fun _ _ _ _ _=>(Zab 0))) (@Zaf _ _ _ _ _ (@Zbe _ _ _ _ _ _ _ _ (Zax (op_neD (hu64 hr)) ZbS.r (Zab 15) (ZaG (ZaY rfl (hu64 hr) 1e3 T.b_sorted 1e3 (@Zaa _ _ _ _ _ (Zab 6) Zad 1e3))) (nomark _)) (@Zal _ _ _ (@ZaD _ _ _ _ q_em_bl)) ZaQ) (@Zaf _ _ _ _ _ (q_sm_compP (i:=16) ZaL.nd rfl rfl (vs:=["_law_letter"]) (fs:=["_law_words_here"]) (fr:=[2]) 8e4 rfl (ZaP (Zab 4)) (fun _ _ _ _ _=>(Zan (i:=0) (show ((["_law_letter"]:List Str)++(["_law_words_here"]:List Str)).Nodup by decide +kernel) rfl 3e3)) (fun _ _ _ _ _=>(Zcu (Zax (op_eqD (hu64 hr)) ZbS.r 9e0 (Zaj 7e0 (Zab 1) Zac) (nomark _)))) (fun _ _ _ _ _=>(Zab 0))) (@Zal _ _ _ (@ZaD _ _ _ _ (ZaZ (op_eqD (hu64 hr)) ZbS.r (ZaG (Zcv cF_marks 3e9 1e3 (@Zaa _ _ _ _ _ (Zar (@Zaa _ _ _ _ _ (Zab 3) (@Zaa _ _ _ _ _ ZbO Zad 1e3) 1e3)) (@Zaa _ _ _ _ _ (Zab 16) (@Zaa _ _ _ _ _ ZbO Zad 1e3) 1e3) 1e3))) (ZaG (ZaF Zad)) (nomark _))))))))))))))
end
local macro_rules
 | `(tactic| simp![$args,*])=>`(tactic| simp[mDef,mRet,mRetF,mAndV,mOrV,mNotV,mCB,mOp,mChain,mTest,mTru,mNotT,mAndT,mOrT,mIf,mIfS,mSeq,mSkip,mSet,mDrop,mTup,mLst,mVal,mFn,mFnF,mSlice,mMt,mDict,mDict0,mList,listH,bnd,opM,aCons,aNil,mVar,mC,Pu.ret,g1,g2,derefs,deref,isiH,isiP,tyN,mB,asB,intP,fin,truP,lenH,Pu.plain,oNo,oPart,Pu.intD,sliceD,sliceP,isTy,tyP,mtD,eqP,neP,scP,$args,*])
local macro_rules
 |`(#[$x])=>`(some (.v $x))
theorem comp_map {te:2e4}{f:PV->PV}:∀(xs:List PV) (ρ:PSt) (ys:List PV) (C:Cs),(∀x∈xs,te (ρ.set 0 #[x]) C=some (.v (f x),C))->compL (hName 0) tOk te xs ρ ys C=some (ys++xs.map f,C)
 | [],ρ,ys,C,_=>by simp[compL,Pu.ret]
 | x::xs,ρ,ys,C,h=>by
  have h1:=h x 3e0
  have h2:=comp_map xs (ρ.set 0 #[x]) (ys++[f x]) C fun y hy=>by rw[List.set_set];exact h y (by simp[hy])
  simp[compL,hName,bnd,tOk,Pu.ret,h1,h2]
theorem bools_map {α:Type}(g:α->Bool):∀l:List α,boolsP (l.map fun c=>PV.bl (g c))=some (l.map g)
 | []=>rfl
 | a::l=>by simp[boolsP,bools_map g l]
theorem tk (C:Cs)(k:Nat)(v:PV):(C.set k v).take C.length=C.set k v:=VW 3e0
theorem setAt {C:Cs}{k:Nat}{v w:PV}(h:C[k]? = some w):(C.set k v)[k]? = some v:=by
 have:k < C.length:=by
  rcases YS k C.length with q | q
  ·exact q
  ·rw[YF.mpr q] at h;cases h
 rw[Xf this]
theorem pick_spec (k:Nat)(x y m:Int)(C:Cs)(hC:C[k]? = some (.lst [.int x,.int y]))(hy:0<=y/\y < 2147483647)(hm:0 < m/\m < 1606938044258990275541962092341162602522202993782792835301376):
  ∃d x' y',F_l_pick [.c k,.v (.int m)] C=some (.v (.int d),C.set k (.lst [.int x',.int y']))/\0<=d/\d < m/\0<=y'/\y' < 2147483647:=by
 by_cases hx:0 < x
 ·refine ⟨x % m,x / m,y,?_,Xl _ 1e2,Xd _ hm.1,hy.1,hy.2⟩
  simp![F_l_pick,ixQ,ixP,atI,ixN,hC,hx,hm.1,hm.2,mSetIx,setC,tk]
 ·have h1:0<=(y * 48271 + 12345) % 2147483647:=Xl _ 1e4
  have h2:(y * 48271 + 12345) % 2147483647 < 2147483647:=Xd _ 1e4
  refine ⟨(y * 48271 + 12345) % 2147483647 * ((y * 48271 + 12345) % 2147483647) % 1999999973 % m,x,(y * 48271 + 12345) % 2147483647,?_,Xl _ 1e2,Xd _ hm.1,h1,h2⟩
  generalize hz:(y * 48271 + 12345) % 2147483647=z at h1 h2
  have c1:(-18446744073709551616 < z/\z < 18446744073709551616):=by lia
  simp![F_l_pick,ixQ,ixP,atI,ixN,hC,hx,hm.1,hm.2,mSetIx,setC,tk,addP,setAt hC,hz,c1]
def GS (C:Cs)(k:Nat):Prop:=∃x y:Int,C[k]? = some (.lst [.int x,.int y])/\0<=y/\y < 2147483647
structure Adv (k:Nat)(C C':Cs):Prop where
 len:C'.length=C.length
 gs:GS C' k
 oth:∀j,j≠k->C'[j]? = C[j]?
theorem Adv.trans {k:Nat}{C C1 C2:Cs}(a:Adv k C C1)(b:Adv k C1 C2):Adv k C C2:=⟨b.len.trans a.len,b.gs,fun j h=>(b.oth j h).trans (a.oth j h)⟩
theorem Adv.take {k:Nat}{C C':Cs}(a:Adv k C C'):C'.take C.length=C':=VW (by rw[a.len];exact Yi _)
theorem pick_adv (k:Nat)(m:Int)(C:Cs)(h:GS C k)(hm:0 < m/\m < 1606938044258990275541962092341162602522202993782792835301376):∃d C',F_l_pick [.c k,.v (.int m)] C=some (.v (.int d),C')/\0<=d/\d < m/\Adv k C C':=by
 obtain ⟨x,y,hC,h1,h2⟩:=h
 obtain ⟨d,x',y',e,a1,a2,a3,a4⟩:=pick_spec k x y m C hC ⟨h1,h2⟩ hm
 exact ⟨d,_,e,a1,a2,by simp,⟨x',y',setAt hC,a3,a4⟩,fun j hj=>by rw[YA (XH hj)]⟩
theorem ZdK (ns:List Int)(i:Int)(C:Cs)(hi:0<=i):∃v:Int,F_l_cell_at [.v (.lst (ns.map .int)),.v (.int i)] C=some (.v (.int v),C):=by
 by_cases h:i < ns.length
 ·have hd:i.toNat < ns.length:=by lia
  refine ⟨ns[i.toNat],?_⟩
  simp![F_l_cell_at,ixQ,ixP,atI,ixN,hi,h,Yd hd]
 ·exact ⟨0,by simp![F_l_cell_at,h]⟩
theorem left_eq (ns:List Int)(k:Int)(C:Cs)(h1:0<=k)(h2:k<=1000):∃x y:Int,FF_l_left [.v (.lst (ns.map .int)),.v (.int k)] C=some ([.int x,.int y],C)/\0<=y/\y < 2147483647:=by
 have hm:0 < (if (ns.length:Int) > 1 then (ns.length:Int) else 1):=by split<;>lia
 obtain ⟨v,ev⟩:=ZdK ns (k % (if (ns.length:Int) > 1 then (ns.length:Int) else 1)) C (Xl _ 1e2)
 obtain ⟨u,eu⟩:=ZdK ns 0 C 1e4
 have c1:-18446744073709551616 < k/\k < 18446744073709551616:=by lia
 have hm':0 < (if 1 < (ns.length:Int) then (ns.length:Int) else 1):=hm
 have ev':F_l_cell_at [.v (.lst (ns.map .int)),.v (.int (k % (if 1 < (ns.length:Int) then (ns.length:Int) else 1)))] C=some (.v (.int v),C):=ev
 have hcast:(if 1 < (ns.length:Int) then (ns.length:Int) else 1)=if 1 < ns.length then (ns.length:Int) else 1:=by
  by_cases q:1 < ns.length
  ·rw[if_pos q,if_pos 1e2]
  ·rw[if_neg q,if_neg 1e2]
 have p40:(0:Int) < 10 ^ 40:=by decide
 by_cases hu:u % 2=0
 ·refine ⟨0,(v % 2147483629 + 7919 * k * k + 11) * 48271 % 2147483647,?_,Xl _ 1e4,Xd _ 1e4⟩
  simp![FF_l_left,mDefF,maxH,ev',eu,hm',c1,addP,hu]
 ·refine ⟨v % 10 ^ 40,(v % 2147483629 + 7919 * k * k + 11) * 48271 % 2147483647,?_,Xl _ 1e4,Xd _ 1e4⟩
  simp![FF_l_left,mDefF,maxH,ev',eu,hm',c1,addP,hu]
theorem ZaA {f g:7e5}{ρ ρ1:PSt}{C C1:Cs}(h:f ρ C=some (.nx ρ1,C1)):mSeq f g ρ C=g ρ1 C1:=by
 unfold mSeq bnd;rw[h]
theorem ZcH {c:3e8}{f:7e5}{ρ:PSt}{C C1:Cs}(h:c ρ C=some (false,C1)):mIfS c f mSkip ρ C=some (.nx ρ,C1):=by
 unfold mIfS bnd;rw[h];rfl
theorem if_t {c:3e8}{f g:7e5}{ρ:PSt}{C C1:Cs}(h:c ρ C=some (true,C1)):mIfS c f g ρ C=f ρ C1:=by
 unfold mIfS bnd;rw[h];rfl
structure Lt where
 h:Str
 d:Str
 n:Int
 pv:Int
 gs:List (List Key)
 t:Int
 dd:List Key
def Lt.P (l:Lt):PV:=.tup [.str l.h,.str l.d,.int l.n,.int l.pv,.tup (l.gs.map tupK),.int l.t,tupK l.dd]
def Lt.nm (l:Lt):List Key:=[.inr l.h,.inr l.d,.inl l.n]
def Lt.fo (l:Lt):List Key:=[.inr l.h,.inr l.d,.inl l.pv]
theorem ZbE {α:Type}{f:α->PV}(h:∀x,dat (f x)=true):∀l:List α,dats (l.map f)=true
 | []=>rfl
 | a::l=>by rw[Ym];unfold dats;rw[h a,ZbE h l];rfl
theorem Zbj {α:Type}{f:α->PV}{n:Nat}(h:∀x,dep (f x)<=n):∀l:List α,deps (l.map f)<=n
 | []=>Y4 _
 | a::l=>by rw[Ym];unfold deps;have:=h a;have:=Zbj h l;lia
theorem Zcx {α:Type}{f:α->PV}(h:∀x,pur (f x)=true):∀l:List α,purs (l.map f)=true
 | []=>rfl
 | a::l=>by rw[Ym];unfold purs;rw[h a,Zcx h l];rfl
theorem Zbc {α:Type}{f:α->PV}(h:∀x,flat (f x)=true):∀l:List α,flats (l.map f)=true
 | []=>rfl
 | a::l=>by rw[Ym];unfold flats;rw[h a,Zbc h l];rfl
theorem dat_kP (k:Key):dat (kP k)=true:=by cases k<;>rfl
theorem dep_kP (k:Key):dep (kP k)<=0:=by cases k<;>exact Yi _
theorem pur_kP (k:Key):pur (kP k)=true:=by cases k<;>rfl
theorem flat_kP (k:Key):flat (kP k)=true:=by cases k<;>rfl
theorem Zb7 (k:5e6):dat (tupK k)=true:=by unfold tupK dat;exact ZbE dat_kP k
theorem Zb6 (k:5e6):dep (tupK k)<=1:=by unfold tupK dep;have:=Zbj dep_kP k;lia
theorem ZbB (k:5e6):pur (tupK k)=true:=by unfold tupK pur;exact Zcx pur_kP k
theorem Zb4 (k:5e6):flat (tupK k)=true:=by unfold tupK flat;exact Zbc flat_kP k
theorem flat_P (l:Lt):flat l.P=true:=by simp[Lt.P,flat,flats,Zbc Zb4,Zb4]
theorem nm_P (l:Lt):tupK l.nm=.tup [.str l.h,.str l.d,.int l.n]:=rfl
theorem fo_P (l:Lt):tupK l.fo=.tup [.str l.h,.str l.d,.int l.pv]:=rfl
theorem cut3 (l:Lt):cutP [PV.str l.h,.str l.d,.int l.n,.int l.pv,.tup (l.gs.map tupK),.int l.t,tupK l.dd] none (some 3)=[.str l.h,.str l.d,.int l.n]:=by
 simp[cutP,HT.sIx]
theorem ZbC (l:Lt)(C:Cs):F_name_of [.v l.P] C=some (.v (tupK l.nm),C):=by
 simp![F_name_of,Lt.P,cut3,nm_P]
theorem Zbh (l:Lt)(C:Cs):F_followed [.v l.P] C=some (.v (tupK l.fo),C):=by
 simp![F_followed,Lt.P,ixQ,ixP,atI,ixN,fo_P]
def pr (l:Lt):List Key×PV:=(l.nm,l.P)
def dF (ls:List Lt):List (List Key)×List PV:=dFold (ls.map pr) [] []
theorem put_len {ks:4e2}{ps:List PV}{k:5e6}{p:PV}(h:ks.length=ps.length):(putKs ks k).length=(putVs ks ps k p).length:=by
 unfold putKs putVs
 cases inK k ks with
 | true=>simp[h]
 | false=>simp[h]
theorem putKs_le (ks:4e2)(k:5e6):(putKs ks k).length<=ks.length + 1:=by
 unfold putKs;split<;>simp
theorem inK_put (ks:4e2)(k q:5e6):inK q (putKs ks k)=(decide (k=q)||inK q ks):=by
 unfold putKs
 cases e:inK k ks with
 | true=>
  simp only[if_true]
  by_cases h:k=q
  ·subst h;rw[e];simp
  ·simp[h]
 | false=>
  simp only[Yv,if_false]
  unfold inK
  rw[List.any_append]
  simp[Bool.or_comm]
theorem Zc4 (k q:5e6)(p:PV):∀{ks:4e2} {ps:List PV},ks.length=ps.length->inK k ks=true->lookT ks ((ks.zip ps).map fun z=>if z.1=k then p else z.2) q=if k=q then some p else lookT ks ps q
 | [],ps,h,hi=>by cases hi
 | a::ks,[],h,hi=>by simp at h
 | a::ks,b::ps,h,hi=>by
  rw[Xe,Ym]
  unfold lookT
  by_cases ha:a=k
  ·subst ha
   by_cases hq:a=q
   ·simp[hq]
   ·simp only[if_true,hq,if_false]
    by_cases hi2:inK a ks=true
    ·rw[Zc4 a q p 7e3 hi2,if_neg hq]
    ·have:((ks.zip ps).map fun z=>if z.1=a then p else z.2)=ps:=by
      clear hi
      induction ks generalizing ps with
      | nil=>cases ps with
       | nil=>rfl
       | cons _ _=>simp at h
      | cons c ks ih=>
       cases ps with
       | nil=>simp at h
       | cons d ps=>
        have hc:¬c=a:=fun z=>hi2 (by unfold inK;rw[Xg,z];simp)
        rw[Xe,Ym,ih (ps:=ps) 7e3 (fun z=>hi2 (by unfold inK at z ⊢;rw[Xg,z];simp))]
        simp[hc]
     rw[this]
  ·have hi2:inK k ks=true:=by unfold inK at hi ⊢;rw[Xg,decide_eq_false ha] at hi;simpa using hi
   simp only[ha,if_false]
   by_cases hq:a=q
   ·subst hq
    rw[if_pos rfl,if_pos rfl,if_neg (fun z=>ha z.symm)]
   ·rw[if_neg hq,if_neg hq];exact Zc4 k q p 7e3 hi2
theorem ZdC (k q:5e6)(p:PV):∀{ks:4e2} {ps:List PV},ks.length=ps.length->inK k ks=false->lookT (ks++[k]) (ps++[p]) q=if k=q then some p else lookT ks ps q
 | [],[],h,hi=>by simp[lookT]
 | [],_::_,h,hi=>by simp at h
 | a::ks,[],h,hi=>by simp at h
 | a::ks,b::ps,h,hi=>by
  unfold inK at hi
  rw[Xg,Bool.or_eq_false_iff] at hi
  have ha:¬a=k:=of_decide_eq_false hi.1
  rw[Yac,Yac]
  unfold lookT
  by_cases hq:a=q
  ·subst hq
   rw[if_pos rfl,if_pos rfl,if_neg (fun z=>ha z.symm)]
  ·rw[if_neg hq,if_neg hq];exact ZdC k q p 7e3 hi.2
theorem lookT_put {ks:4e2}{ps:List PV}(k q:5e6)(p:PV)(h:ks.length=ps.length):lookT (putKs ks k) (putVs ks ps k p) q=if k=q then some p else lookT ks ps q:=by
 unfold putKs putVs
 cases e:inK k ks with
 | true=>simp only[if_true];exact Zc4 k q p h e
 | false=>simp only[Yv,if_false];exact ZdC k q p h e
theorem dF_look (q:5e6):∀(ls:List Lt) (ks:4e2) (ps:List PV),ks.length=ps.length->
  (∃l∈ls,l.nm=q/\lookT (dFold (ls.map pr) ks ps).1 (dFold (ls.map pr) ks ps).2 q=some l.P/\inK q (dFold (ls.map pr) ks ps).1=true)\/
  ((∀l∈ls,l.nm≠q)/\lookT (dFold (ls.map pr) ks ps).1 (dFold (ls.map pr) ks ps).2 q=lookT ks ps q/\inK q (dFold (ls.map pr) ks ps).1=inK q ks)
 | [],ks,ps,h=>.inr ⟨(fun _ z=>(nomatch z)),rfl,rfl⟩
 | l::ls,ks,ps,h=>by
  rw[show dFold ((l::ls).map pr) ks ps=dFold (ls.map pr) (putKs ks l.nm) (putVs ks ps l.nm l.P) from rfl]
  rcases dF_look q ls (putKs ks l.nm) (putVs ks ps l.nm l.P) (put_len h) with ⟨m,hm,e1,e2,e3⟩ | ⟨h1,h2,h3⟩
  ·exact .inl ⟨m,Yz _ hm,e1,e2,e3⟩
  ·by_cases hq:l.nm=q
   ·refine .inl ⟨l,YJ,hq,?_,?_⟩
    ·exact h2.trans (by rw[lookT_put _ _ _ h,if_pos hq])
    ·exact h3.trans (by rw[inK_put,decide_eq_true hq];rfl)
   ·refine .inr ⟨fun m hm=>?_,?_,?_⟩
    ·rcases Yl.mp hm with rfl | hm
     ·exact hq
     ·exact h1 m hm
    ·exact h2.trans (by rw[lookT_put _ _ _ h,if_neg hq])
    ·exact h3.trans (by rw[inK_put,decide_eq_false hq];rfl)
def Uq (ls:List Lt):Prop:=∀l∈ls,∀m∈ls,l.nm=m.nm->l=m
theorem look_in {ls:List Lt}(u:Uq ls){l:Lt}(h:l∈ls):lookT (dF ls).1 (dF ls).2 l.nm=some l.P/\inK l.nm (dF ls).1=true:=by
 rcases dF_look l.nm ls [] [] rfl with ⟨m,hm,e1,e2,e3⟩ | ⟨h1,_⟩
 ·rw[u m hm l h e1] at e2;exact ⟨e2,e3⟩
 ·exact absurd rfl (h1 l h)
theorem look_out {ls:List Lt}{q:5e6}(h:∀l∈ls,l.nm≠q):inK q (dF ls).1=false:=by
 rcases dF_look q ls [] [] rfl with ⟨m,hm,e1,e2,e3⟩ | ⟨h1,_,h3⟩
 ·exact absurd e1 (h m hm)
 ·exact h3
abbrev bte:PSt->M SV:=mFn F_name_of (aCons 3e7 aNil)
theorem compD_run (C0:Cs):∀(ls:List Lt) (ρ:PSt) (ks:4e2) (ps:List PV),ρ.length=1->ks.length + ls.length<=1000->
  compD (hName 0) tOk bte 3e7 C0.length (ls.map Lt.P) ρ (C0++[.dtt ks ps])=some ((),C0++[.dtt (dFold (ls.map pr) ks ps).1 (dFold (ls.map pr) ks ps).2])
 | [],ρ,ks,ps,hr,h=>rfl
 | l::ls,[o],ks,ps,hr,h=>by
  have ih:=compD_run C0 ls [#[l.P]] (putKs ks l.nm) (putVs ks ps l.nm l.P) rfl (by have:=putKs_le ks l.nm;simp at h;lia)
  have hl:ks.length < 1000:=by simp at h;lia
  have hk:keysP [PV.str l.h,.str l.d,.int l.n]=some l.nm:=ZaK l.nm
  rw[Ym,Ym]
  show compD _ _ _ _ _ _ _ _=some ((),C0++[.dtt (dFold (ls.map pr) (putKs ks l.nm) (putVs ks ps l.nm l.P)).1 _])
  unfold compD
  simp![hName,tOk,bte,ZbC,nm_P,putD,hk,hl,ih]
  rfl
theorem by_name_eq (ls:List Lt)(C:Cs)(h:ls.length<=1000):F_by_name [.v (.lst (ls.map Lt.P))] C=some (.v (.dtt (dF ls).1 (dF ls).2),C):=by
 have:=compD_run C ls [none] [] [] rfl 7e3
 have hb:B_by_name=mRet (mCompD (mItems 3e7) ["letter"] [] (hName 0) tOk bte 3e7):=rfl
 unfold F_by_name
 rw[hb]
 generalize hz:(dFold (ls.map pr) [] []:List (List Key)×List PV)=z at this
 simp![mCompD,mItems,itemsP,stIn',this,dF,hz]
def azs:Str:="abcdefghijklmnopqrstuvwxyz"
def azc (d:Int):Nat:=azs.cps.toList.getD d.toNat 0
def sfx (d:Int):Str:=(["","zq","x","qqzzx"]:List Str).getD d.toNat ""
theorem az_inj:∀i j:Fin 26,azs.cps.toList.getD i.1 0=azs.cps.toList.getD j.1 0->i=j:=by decide +kernel
theorem azc_inj {a b:Int}(ha:0<=a/\a < 26)(hb:0<=b/\b < 26)(h:azc a=azc b):a=b:=by
 have:=az_inj ⟨a.toNat,by lia⟩ ⟨b.toNat,by lia⟩ h
 have h2:a.toNat=b.toNat:=by simpa using this
 lia
theorem ix_azc (d:Int)(h:0<=d/\d < 26):ixQ (.str "abcdefghijklmnopqrstuvwxyz") (.int d)=some (.str ⟨[azc d].toArray⟩):=by
 have hl:azs.cps.toList.length=26:=by rfl
 have hd:d.toNat < azs.cps.toList.length:=by lia
 have h3:d < ((azs.cps.toList.length:Nat):Int):=by lia
 show (atI azs.cps.toList d).map _=_
 unfold atI ixN
 rw[if_pos h.1,if_pos h3]
 show ((azs.cps.toList[d.toNat]?).map _)=_
 unfold azc
 rw[Yd hd,XS,Yd hd]
 rfl
def wd (f s:Int)(j:Nat):Str:=(⟨[azc ((f + s * j) % 26)].toArray⟩:Str)++sfx ((f + j * j) % 4)
theorem sfx_len (d:Int)(h:0<=d/\d < 4):(sfx d).length<=5:=by
 have:d=0\/d=1\/d=2\/d=3:=by lia
 rcases this with rfl | rfl | rfl | rfl<;>decide +kernel
theorem ix_sfx (d:Int)(h:0<=d/\d < 4):ixQ (.lst [.str "",.str "zq",.str "x",.str "qqzzx"]) (.int d)=some (.str (sfx d)):=by
 have:d=0\/d=1\/d=2\/d=3:=by lia
 rcases this with rfl | rfl | rfl | rfl<;>simp[ixQ,ixP,atI,ixN,sfx]
theorem app_cps (a b:Str):(a++b).cps=a.cps++b.cps:=rfl
theorem app_len (a b:Str):(a++b).length=a.length + b.length:=by
 show (a.cps++b.cps).size=a.cps.size + b.cps.size
 simp
theorem wd_len (f s:Int)(j:Nat):(wd f s j).length<=10:=by
 unfold wd
 rw[app_len]
 have:=sfx_len ((f + j * j) % 4) ⟨Xl _ 1e4,Xd _ 1e4⟩
 show 1 + _<=10
 lia
theorem wd_n4 (f s:Int)(j:Nat):(wd f s j).length≠4:=by
 unfold wd
 rw[app_len]
 have h1:=Xl (f + j * j) (show (4:Int)≠0 by decide)
 have h2:=Xd (f + j * j) (show (0:Int) < 4 by decide)
 generalize (f + j * j) % 4=d at h1 h2
 have:d=0\/d=1\/d=2\/d=3:=by lia
 show 1 + _≠4
 rcases this with rfl | rfl | rfl | rfl<;>decide +kernel
def stepOk (s:Int):Prop:=s=1\/s=3\/s=5\/s=7\/s=9\/s=11
theorem wd_inj {f s:Int}(hs:stepOk s){i j:Nat}(hi:i < 12)(hj:j < 12)(h:wd f s i=wd f s j):i=j:=by
 have h0:(wd f s i).cps[0]? = (wd f s j).cps[0]?:=by rw[h]
 unfold wd at h0
 rw[app_cps,app_cps] at h0
 have h1:azc ((f + s * i) % 26)=azc ((f + s * j) % 26):=by
  rw[UF 3e0,UF 3e0] at h0
  simpa using h0
 have h2:=azc_inj ⟨Xl _ 1e4,Xd _ 1e4⟩ ⟨Xl _ 1e4,Xd _ 1e4⟩ h1
 rcases hs with rfl | rfl | rfl | rfl | rfl | rfl<;>lia
abbrev wdt:PSt->M SV:=mOp 8e1 (mOp 4e9 4e3 (mOp (g2 modP) (mOp 8e1 6e9 (mOp (g2 mulP) 9e1 3e7)) (mC (.int 26)))) (mOp 4e9 (mVal (mLst (aCons (mC (.str "")) (aCons (mC (.str "zq")) (aCons (mC (.str "x")) (aCons (mC (.str "qqzzx")) aNil)))))) (mOp (g2 modP) (mOp 8e1 6e9 (mOp (g2 mulP) 3e7 3e7)) (mC (.int 4))))
theorem wdt_gen (f s j:Int)(az c z:Str)(h1:ixQ (.str az) (.int ((f + s * j) % 26))=some (.str c))(h2:ixQ (.lst [.str "",.str "zq",.str "x",.str "qqzzx"]) (.int ((f + j * j) % 4))=some (.str z))(hl:c.length + z.length<=1000000)(hs:-18446744073709551616 < s/\s < 18446744073709551616)(hj:-18446744073709551616 < j/\j < 18446744073709551616)(C:Cs):
  wdt [#[.int j],#[.str az],#[.int f],#[.int s]] C=some (.v (.str (c++z)),C):=by
 simp![addP,hs,hj,h1,h2,hl]
theorem one_len (c:Nat):(⟨[c].toArray⟩:Str).length=1:=rfl
theorem wdt_eq (f s:Int)(j:Nat)(hf:0<=f/\f < 26)(hs:stepOk s)(hj:j < 12)(C:Cs):wdt [#[(.int (0 + (j:Int)))],#[.str "abcdefghijklmnopqrstuvwxyz"],#[.int f],#[.int s]] C=some (.v (.str (wd f s j)),C):=by
 rw[Int.zero_add]
 unfold wd
 refine wdt_gen f s (j:Int) _ _ _ (ix_azc _ ⟨Xl _ 1e4,Xd _ 1e4⟩) (ix_sfx _ ⟨Xl _ 1e4,Xd _ 1e4⟩) ?_ ?_ ?_ C
 ·have h3:=sfx_len ((f + j * j) % 4) ⟨Xl _ 1e4,Xd _ 1e4⟩
  rw[one_len];lia
 ·unfold stepOk at hs;lia
 ·lia
theorem words_adv (k:Nat)(C:Cs)(h:GS C k):∃(ws:4e0) (C':Cs),F_l_words [.c k,.v (.int 12)] C=some (.v (.lst 8e2),C')/\ws.length=12/\ws.Nodup/\(∀w∈ws,w.length<=10/\w.length≠4)/\Adv k C C':=by
 obtain ⟨d,C1,e1,d1,d2,a1⟩:=pick_adv k 26 C h 1e4
 obtain ⟨s,C2,e2,s1,s2,a2⟩:=pick_adv k 6 C1 a1.gs 1e4
 have a:=a1.trans a2
 obtain ⟨st,ep,hst⟩:∃st,ixQ (.lst [.int 1,.int 3,.int 5,.int 7,.int 9,.int 11]) (.int s)=some (.int st)/\stepOk st:=by
  have:s=0\/s=1\/s=2\/s=3\/s=4\/s=5:=by lia
  rcases this with rfl | rfl | rfl | rfl | rfl | rfl
  ·exact ⟨1,rfl,.inl rfl⟩
  ·exact ⟨3,rfl,.inr (.inl rfl)⟩
  ·exact ⟨5,rfl,.inr (.inr (.inl rfl))⟩
  ·exact ⟨7,rfl,.inr (.inr (.inr (.inl rfl)))⟩
  ·exact ⟨9,rfl,.inr (.inr (.inr (.inr (.inl rfl))))⟩
  ·exact ⟨11,rfl,.inr (.inr (.inr (.inr (.inr rfl))))⟩
 have hF:F_l_words=mDef 2 3 (mSeq (mSet 2 (mC (.str "abcdefghijklmnopqrstuvwxyz"))) (mSeq (mSet 3 (mFn F_l_pick (aCons 3e7 (aCons (mC (.int 26)) aNil)))) (mSeq (mSet 4 (mOp 4e9 (mVal (mLst (aCons 5e7 (aCons (mC (.int 3)) (aCons (mC (.int 5)) (aCons (mC (.int 7)) (aCons (mC (.int 9)) (aCons (mC (.int 11)) aNil)))))))) (mFn F_l_pick (aCons 3e7 (aCons (mC (.int 6)) aNil))))) (mRetF (mComp (mRange1 (aCons 4e3 aNil)) ["_law_k"] [2,3,4] (hName 0) tOk wdt))))):=rfl
 rw[hF]
 have ec:=comp_map (te:=wdt) (f:=fun p=>match p with | .int i=>.str (wd d st i.toNat) | _=>.non) ((YW 12).map fun (j:Nat)=>PV.int (0 + j)) [none,#[.str "abcdefghijklmnopqrstuvwxyz"],#[.int d],#[.int st]] [] C2 (fun x hx=>by
  obtain ⟨j,hj,rfl⟩:=Yw.mp hx
  have:=wdt_eq d st j ⟨d1,d2⟩ hst (Xq.mp hj) C2
  show wdt [#[(.int (0 + (j:Int)))],_,_,_] C2=some (.v (.str (wd d st (0 + (j:Int)).toNat)),C2)
  rw[show (0 + (j:Int)).toNat=j by lia]
  exact this)
 rw[WF,Y9] at ec
 have em:(YW 12).map ((fun p=>match p with | .int i=>.str (wd d st i.toNat) | _=>.non) ∘ fun (j:Nat)=>PV.int (0 + (j:Int)))=((YW 12).map (wd d st)).map PV.str:=by
  rw[Y9]
  apply UB
  intro j hj
  show PV.str (wd d st (0 + (j:Int)).toNat)=_
  rw[show (0 + (j:Int)).toNat=j by lia];rfl
 rw[em] at ec
 refine ⟨(YW 12).map (wd d st),C2,?_,by simp,?_,?_,a⟩
 ·have hr:rng1P [.v (.int 12)]=some ((YW 12).map fun (j:Nat)=>PV.int (0 + j)):=rfl
  have hl9:((YW 12).map fun (j:Nat)=>PV.int (0 + j)).length<=100000:=by decide
  generalize ((YW 12).map fun (j:Nat)=>PV.int (0 + j))=rs at ec hr hl9
  generalize ((YW 12).map (wd d st)).map PV.str=zs at ec
  generalize ("abcdefghijklmnopqrstuvwxyz":Str)=az at ec ⊢
  generalize wdt=te at ec
  simp![e1,e2,ep,mComp,mRange1,hr,hl9,stIn',ec,a.take]
 ·rw[Y0,Xy]
  refine VA (fun {x y} hx hy hne e=>?_) (Y0.mp Ue)
  exact hne (wd_inj hst (Xq.mp hx) (Xq.mp hy) e)
 ·intro w hw
  obtain ⟨j,_,rfl⟩:=Yw.mp hw
  exact ⟨wd_len _ _ _,wd_n4 _ _ _⟩
def look (ls:List Lt)(q:5e6):Option Lt:=ls.find? fun l=>decide (l.nm=q)
theorem Zbb {ls:List Lt}{q:5e6}{l:Lt}(h:look ls q=some l):l∈ls/\l.nm=q:=by
 unfold look at h
 have h2:=List.find?_some h
 exact ⟨List.mem_of_find?_eq_some h,by simpa using h2⟩
theorem Zbo {ls:List Lt}{q:5e6}(h:look ls q=none):∀l∈ls,l.nm≠q:=by
 unfold look at h
 intro l hl e
 have:=List.find?_eq_none.mp h l hl
 simp[e] at this
def chain (ls:List Lt):Nat->List Key->List Lt->List Lt
 | 0,_,acc=>acc
 | n + 1,q,acc=>match look ls q with
  | none=>acc
  | some l=>if inK q (acc.map Lt.nm) then acc else chain ls n l.fo (l::acc)
abbrev wte:PSt->M Bool:=mAndT (mTest (mOp (g2 (inTP false)) 4e3 3e7)) (mTest (mOp (g2 (inTP true)) 4e3 6e9))
abbrev wbo:PSt->M PF:=mSeq (mSetIxT (mOp (g2 ixT) 3e7 4e3) 6e9 4e3) (mSet 1 (mFn F_followed (aCons (mOp (g2 ixT) 3e7 4e3) aNil)))
theorem inK_rev (q:5e6)(ks:4e2):inK q ks.reverse=inK q ks:=by unfold inK;rw[List.any_reverse]
theorem Zc5 {α:Type}:∀{a b:List α},a.Nodup->(∀x∈a,x∈b)->a.length<=b.length
 | [],b,_,_=>Y4 _
 | x::a,b,nd,h=>by
  obtain ⟨b1,b2,rfl⟩:=List.append_of_mem (h x YJ)
  rw[Xc] at nd
  have:=Zc5 (a:=a) (b:=b1++b2) nd.2 fun y hy=>by
   have h1:=h y (Yz _ hy)
   rcases YU.mp h1 with h1 | h1
   ·exact YY _ h1
   ·rcases Yl.mp h1 with rfl | h1
    ·exact absurd hy nd.1
    ·exact Yg _ h1
  simp at this ⊢;lia
theorem ZbZ {ls acc:List Lt}(nd:(acc.map Lt.nm).Nodup)(sub:∀l∈acc,l∈ls):acc.length<=ls.length:=by
 have h:=Zc5 (b:=ls.map Lt.nm) nd fun x hx=>by
  obtain ⟨l,hl,rfl⟩:=Yw.mp hx
  exact Y6 (sub l hl)
 simpa using h
theorem ZdB {ls:List Lt}(u:Uq ls)(hls:ls.length < 900)(k:Nat):∀(m:Nat) (q:5e6) (acc:List Lt) (C:Cs),C[k]? = some (.dtt (acc.reverse.map Lt.nm) (acc.reverse.map Lt.P))->(acc.map Lt.nm).Nodup->(∀l∈acc,l∈ls)->ls.length < acc.length + m->
  ∃q',loopW wte wbo m [#[.dtt (dF ls).1 (dF ls).2],#[tupK q],some (.c k)] C=some (.nx [#[.dtt (dF ls).1 (dF ls).2],#[tupK q'],some (.c k)],C.set k (.dtt ((chain ls m q acc).reverse.map Lt.nm) ((chain ls m q acc).reverse.map Lt.P)))
 | 0,q,acc,C,hC,nd,sub,hm=>by have:=ZbZ nd sub;lia
 | m + 1,q,acc,C,hC,nd,sub,hm=>by
  have hk:keysP (q.map kP)=some q:=ZaK q
  have same:C.set k (.dtt (acc.reverse.map Lt.nm) (acc.reverse.map Lt.P))=C:=by
   apply XV
   intro j
   by_cases hj:k=j
   ·subst hj;rw[setAt hC,hC]
   ·rw[YA hj]
  unfold chain
  cases hl:look ls q with
  | none=>
   have:=look_out (Zbo hl)
   refine ⟨q,?_⟩
   unfold loopW
   simp[wte,mAndT,mTest,mOp,bnd,mVar,opM,g2,deref,inTP,tupK,hk,this,mB,asB,Pu.ret]
   simpa using same.symm
  | some l=>
   obtain ⟨hin,hnm⟩:=Zbb hl
   obtain ⟨e1,e2⟩:=look_in u hin
   rw[hnm] at e1 e2
   by_cases hq:inK q (acc.map Lt.nm)=true
   ·have h2:inK q (acc.reverse.map Lt.nm)=true:=by rw[X6,inK_rev];exact hq
    have h2':inK q (acc.map Lt.nm).reverse=true:=by rw[←X6];exact h2
    refine ⟨q,?_⟩
    unfold loopW
    dsimp only
    rw[if_pos hq]
    have hC':C[k]? = some (.dtt (acc.map Lt.nm).reverse (acc.map Lt.P).reverse):=by rw[hC,X6,X6]
    simp[wte,mAndT,mTest,mOp,bnd,mVar,opM,g2,deref,inTP,tupK,hk,e2,mB,asB,Pu.ret,hC',h2']
    simpa using same.symm
   ·have h2:inK q (acc.reverse.map Lt.nm)=false:=by rw[X6,inK_rev];simpa using hq
    have hlen:=ZbZ nd sub
    have hput:putKs (acc.reverse.map Lt.nm) q=((l::acc).reverse.map Lt.nm):=by unfold putKs;rw[h2];simp[hnm]
    have hpv:putVs (acc.reverse.map Lt.nm) (acc.reverse.map Lt.P) q l.P=((l::acc).reverse.map Lt.P):=by unfold putVs;rw[h2];simp
    obtain ⟨q',ih⟩:=ZdB u hls k m l.fo (l::acc) (C.set k (.dtt ((l::acc).reverse.map Lt.nm) ((l::acc).reverse.map Lt.P))) (setAt hC) (by rw[Ym,Xc,hnm];exact ⟨fun z=>hq (Zbp.mpr z),nd⟩) (fun x hx=>by
     rcases Yl.mp hx with rfl | hx
     ·exact hin
     ·exact sub x hx) (by simp;lia)
    refine ⟨q',?_⟩
    rw[List.set_set] at ih
    unfold loopW
    dsimp only
    rw[if_neg hq]
    have hl9:acc.length < 1000:=by lia
    generalize hR:chain ls m l.fo (l::acc)=R at ih ⊢
    have step:(fun ρ=>wbo ρ) [#[.dtt (dF ls).1 (dF ls).2],#[tupK q],some (.c k)] C=some (.nx [#[.dtt (dF ls).1 (dF ls).2],#[tupK l.fo],some (.c k)],C.set k (.dtt ((l::acc).reverse.map Lt.nm) ((l::acc).reverse.map Lt.P))):=by
     have ee:setT (.v l.P) (.c k) (.v (.tup (q.map kP))) [#[.dtt (dF ls).1 (dF ls).2],#[tupK q],some (.c k)] C=some (.nx [#[.dtt (dF ls).1 (dF ls).2],#[tupK q],some (.c k)],C.set k (.dtt ((l::acc).reverse.map Lt.nm) ((l::acc).reverse.map Lt.P))):=by
      unfold setT
      simp only[hC,hk]
      rw[if_pos (by simpa using hl9),hput,hpv]
     simp only[wbo,mSeq,mSetIxT,mSet,mOp,bnd,mVar,opM,g2,deref,ixT,tupK,hk,e1,List.getElem?_cons_zero,VH,Us] at ee ⊢
     simp[ee,mFn,aCons,aNil,bnd,mVar,opM,Pu.ret,Zbh,hk,e1,tupK,mOp,g2,deref,ixT]
    have test:wte [#[.dtt (dF ls).1 (dF ls).2],#[tupK q],some (.c k)] C=some (true,C):=by
     have hC':C[k]? = some (.dtt (acc.map Lt.nm).reverse (acc.map Lt.P).reverse):=by rw[hC,X6,X6]
     have h2':inK q (acc.map Lt.nm).reverse=false:=by rw[←X6];exact h2
     simp[wte,mAndT,mTest,mOp,bnd,mVar,opM,g2,deref,inTP,tupK,hk,e2,mB,asB,Pu.ret,hC',h2']
    unfold bnd
    rw[test]
    dsimp only
    rw[if_pos rfl]
    dsimp only at step
    rw[step]
    exact ih
def rowL (ls:List Lt)(q:5e6):List Lt:=chain ls 1000 q []
def Lk:List Lt->Prop
 | a::b::r=>b.fo=a.nm/\Lk (b::r)
 | _=>True
theorem chain_ok {ls:List Lt}:∀(m:Nat) (q:5e6) (acc:List Lt),(acc.map Lt.nm).Nodup->(∀l∈acc,l∈ls)->Lk acc->(∀a r,acc=a::r->q=a.fo)->ls.length < acc.length + m->
  ((chain ls m q acc).map Lt.nm).Nodup/\(∀l∈chain ls m q acc,l∈ls)/\Lk (chain ls m q acc)/\(∃pre,chain ls m q acc=pre++acc)/\∀a r,chain ls m q acc=a::r->(∀l∈ls,l.nm≠a.fo)\/a.fo∈(chain ls m q acc).map Lt.nm
 | 0,q,acc,nd,sub,lk,hq,hm=>by have:=ZbZ nd sub;lia
 | m + 1,q,acc,nd,sub,lk,hq,hm=>by
  unfold chain
  cases hl:look ls q with
  | none=>exact ⟨nd,sub,lk,⟨[],rfl⟩,fun a r e=>.inl (by rw[←hq a r e];exact Zbo hl)⟩
  | some l=>
   obtain ⟨hin,hnm⟩:=Zbb hl
   dsimp only
   by_cases hi:inK q (acc.map Lt.nm)=true
   ·rw[if_pos hi]
    exact ⟨nd,sub,lk,⟨[],rfl⟩,fun a r e=>.inr (by rw[←hq a r e];exact Zbp.mp hi)⟩
   ·rw[if_neg hi]
    have ih:=chain_ok (ls:=ls) m l.fo (l::acc) (by rw[Ym,Xc,hnm];exact ⟨fun z=>hi (Zbp.mpr z),nd⟩) (fun x hx=>by
     rcases Yl.mp hx with rfl | hx
     ·exact hin
     ·exact sub x hx) (by
     cases acc with
     | nil=>trivial
     | cons a r=>exact ⟨by rw[hnm];exact (hq a r rfl).symm,lk⟩) (fun a r e=>by cases e;rfl) (by simp;lia)
    obtain ⟨a1,a2,a3,⟨pre,a4⟩,a5⟩:=ih
    exact ⟨a1,a2,a3,⟨pre++[l],by rw[a4];simp⟩,a5⟩
theorem chain_len {ls:List Lt}(hls:ls.length < 900)(q:5e6):(rowL ls q).length<=ls.length:=by
 obtain ⟨a1,a2,_⟩:=chain_ok (ls:=ls) 1000 q [] 3e0 (fun _ z=>(nomatch z)) trivial (fun a r e=>by cases e) (by simp;lia)
 exact ZbZ a1 a2
theorem row_among_eq {ls:List Lt}(u:Uq ls)(hls:ls.length < 900)(q:5e6)(C:Cs):F_row_among [.v (.dtt (dF ls).1 (dF ls).2),.v (tupK q)] C=some (.v (.lst ((rowL ls q).map Lt.P)),C):=by
 obtain ⟨q',e⟩:=ZdB u hls C.length 1000 q [] (C++[.dtt [] []]) 3e0 3e0 (fun _ z=>(nomatch z)) (by simp;lia)
 have hl:=chain_len hls q
 have hb:B_row_among=mSeq (mNewT 2) (mSeq (mWhile wte wbo) (mRetF (mRevS (mVal (mListVals 6e9)) (mNeg 5e7)))):=rfl
 have e':mWhile wte wbo [#[.dtt (dF ls).1 (dF ls).2],#[tupK q],some (.c C.length)] (C++[.dtt [] []])=some (.nx [#[.dtt (dF ls).1 (dF ls).2],#[tupK q'],some (.c C.length)],C++[.dtt ((rowL ls q).reverse.map Lt.nm) ((rowL ls q).reverse.map Lt.P)]):=by
  have e2:(C++[PV.dtt [] []]).set C.length (.dtt ((rowL ls q).reverse.map Lt.nm) ((rowL ls q).reverse.map Lt.P))=C++[.dtt ((rowL ls q).reverse.map Lt.nm) ((rowL ls q).reverse.map Lt.P)]:=by simp
  rw[←e2]
  exact e
 unfold F_row_among
 rw[hb]
 generalize rowL ls q=R at e' hl
 have hR:R.length<=1000:=by lia
 simp[mDef,mSeq,mNewT,bnd,e',mRetF,mRevS,mVal,mListVals,mVar,opM,valsH,deref,hR,mNeg,negP,mC,Pu.ret,revS,intP,Pu.intD]
structure Good (ls:List Lt):Prop where
 nd:(ls.map Lt.nm).Nodup
 pv:∀l∈ls,l.pv=0/\1<=l.n
 ln:∀l∈ls,l.h.length<=10/\l.d.length<=10
 gs:∀l∈ls,l.gs.length<=3/\∀q∈l.gs,∃m:Lt,q=m.nm
 few:ls.length<=36
theorem uq_of:∀{ls:List Lt},(ls.map Lt.nm).Nodup->Uq ls
 | [],_=>fun _ h=>(nomatch h)
 | a::ls,h=>by
  rw[Ym,Xc] at h
  intro l hl m hm e
  rcases Yl.mp hl with rfl | hl'
  ·rcases Yl.mp hm with rfl | hm'
   ·rfl
   ·exact absurd (e ▸ Y6 hm') h.1
  ·rcases Yl.mp hm with rfl | hm'
   ·exact absurd (e ▸ Y6 hl') h.1
   ·exact uq_of h.2 l hl' m hm' e
theorem Good.uq {ls:List Lt}(g:Good ls):Uq ls:=uq_of g.nd
theorem Good.fo {ls:List Lt}(g:Good ls){l:Lt}(h:l∈ls):∀m∈ls,m.nm≠l.fo:=fun m hm e=>by
 have h1:=(g.pv m hm).2
 have h2:=(g.pv l h).1
 have:m.n=l.pv:=by unfold Lt.nm Lt.fo at e;simpa using (Ul (Ul (Ul e).2).2).1
 lia
abbrev DD (ls:List Lt):PV:=.dtt (dF ls).1 (dF ls).2
theorem inT_k (neg:Bool)(a:5e6)(dk:4e2)(dp:List PV):inTP neg (tupK a) (.dtt dk dp)=some (.bl (if neg then !inK a dk else inK a dk)):=by
 unfold tupK inTP;simp only[ZaK]
theorem ixT_k (a:5e6)(dk:4e2)(dp:List PV):ixT (.dtt dk dp) (tupK a)=lookT dk dp a:=by
 unfold tupK ixT;simp only[ZaK]
theorem P_4 (l:Lt):ixQ l.P (.int 4)=some (.tup (l.gs.map tupK)):=by simp[Lt.P,ixQ,ixP,atI,ixN]
theorem P_5 (l:Lt):ixQ l.P (.int 5)=some (.int l.t):=by simp[Lt.P,ixQ,ixP,atI,ixN]
theorem is_back_eq {ls:List Lt}(g:Good ls){l:Lt}(h:l∈ls)(C:Cs):F_is_back [.v (DD ls),.v l.P] C=some (.v (.bl false),C):=by
 have e1:=Zbh l C
 have e2:=look_out (g.fo h)
 have e3:inTP false (tupK l.fo) (DD ls)=some (.bl false):=by
  have:=inT_k false l.fo (dF ls).1 (dF ls).2
  rw[e2] at this;exact this
 generalize l.P=LP at *
 generalize tupK l.fo=FO at *
 generalize DD ls=D at *
 simp![F_is_back,e1,e3]
theorem row_one {ls:List Lt}(g:Good ls){l:Lt}(h:l∈ls):rowL ls l.nm=[l]:=by
 have hlk:look ls l.nm=some l:=by
  cases e:look ls l.nm with
  | none=>exact absurd rfl (Zbo e l h)
  | some m=>obtain ⟨a,b⟩:=Zbb e;rw[g.uq m a l h b]
 have hl2:look ls l.fo=none:=by
  cases e:look ls l.fo with
  | none=>rfl
  | some m=>obtain ⟨a,b⟩:=Zbb e;exact absurd b (g.fo h m a)
 unfold rowL
 show (match look ls l.nm with | none=>[] | some l'=>if inK l.nm (([]:List Lt).map Lt.nm) then [] else chain ls 999 l'.fo [l'])=_
 rw[hlk]
 show (match look ls l.fo with | none=>[l] | some l'=>if inK l.fo ([l].map Lt.nm) then [l] else chain ls 998 l'.fo (l'::[l]))=_
 rw[hl2]
theorem tupK_inj {a b:5e6}(h:tupK a=tupK b):a=b:=by
 have h1:=ZaK a
 have h2:=ZaK b
 have:a.map kP=b.map kP:=by unfold tupK at h;exact PV.tup.inj h
 rw[this,h2] at h1
 exact (YI h1).symm
theorem eqD_tupK (a b:5e6):eqD (tupK a) (tupK b)=decide (a=b):=by
 have:=ZaH (tupK a) (q:=tupK b) (ZbB a) (ZbB b)
 by_cases h:a=b
 ·rw[decide_eq_true h];exact this.mpr (by rw[h])
 ·rw[decide_eq_false h]
  cases e:eqD (tupK a) (tupK b) with
  | false=>rfl
  | true=>exact absurd (tupK_inj (this.mp e)) h
theorem deep_tupK (a b:5e6):deepP eqD (tupK a) (tupK b)=some (.bl (decide (a=b))):=by
 have:=Zb6 a
 unfold deepP
 rw[Zb7,Zb7,eqD_tupK,if_pos (by simp;lia)]
theorem is_loose_eq {ls:List Lt}(g:Good ls){l:Lt}(h:l∈ls)(C:Cs):F_is_loose [.v (DD ls),.v l.P] C=some (.v (.bl false),C):=by
 have e1:=ZbC l C
 have hls:ls.length < 900:=by have:=g.few;lia
 have e2:F_row_among [.v (DD ls),.v (tupK l.nm)] C=some (.v (.lst ([l].map Lt.P)),C):=by
  have:=row_among_eq g.uq hls l.nm C
  rw[row_one g h] at this;exact this
 have e3:=Zbh l C
 have e4:=deep_tupK l.fo l.nm
 rw[decide_eq_false (fun e=>g.fo h l h e.symm)] at e4
 have e5:ixQ (.lst [l.P]) (.int 0)=some l.P:=rfl
 rw[show ([l].map Lt.P)=[l.P] from rfl] at e2
 generalize l.P=LP at *
 generalize tupK l.fo=FO at *
 generalize tupK l.nm=NM at *
 generalize DD ls=D at *
 simp![F_is_loose,e1,e2,e3,e4,e5]
theorem Zb8 {tt:3e8}{te:2e4}{p:PV->Bool}{f:PV->PV}:∀(xs:List PV) (ρ:PSt) (ys:List PV) (C:Cs),(∀x∈xs,tt (ρ.set 0 #[x]) C=some (p x,C)/\(p x=true->te (ρ.set 0 #[x]) C=some (.v (f x),C)))->compL (hName 0) tt te xs ρ ys C=some (ys++(xs.filter p).map f,C)
 | [],ρ,ys,C,_=>by simp[compL,Pu.ret]
 | x::xs,ρ,ys,C,h=>by
  obtain ⟨h1,h1'⟩:=h x 3e0
  have h2:=fun ys=>Zb8 (tt:=tt) (te:=te) (p:=p) (f:=f) xs (ρ.set 0 #[x]) ys C fun y hy=>by rw[List.set_set];exact h y (by simp[hy])
  cases e:p x with
  | true=>
   rw[e] at h1
   simp[compL,hName,bnd,h1,h1' e,h2,e]
  | false=>
   rw[e] at h1
   simp[compL,hName,bnd,h1,h2,e]
def isBell (q:5e6):Bool:=match q with
 | .inr h::_=>decide (h="bell")
 | _=>false
def tOf (ls:List Lt)(q:5e6):Int:=match look ls q with
 | some m=>m.t
 | none=>0
def behB (ls:List Lt)(s:Int)(l:Lt):Bool:=(l.gs.filter fun q=>inK q (dF ls).1&&isBell q).any fun q=>decide (l.t + s < tOf ls q)
def iT:PSt->M Bool:=mAndT (mTest (mOp (g2 (inTP false)) 3e7 4e3)) (mTest (mOp (g2 eqP) (mOp 4e9 3e7 4e1) (mC (.str "bell"))))
def iE:PSt->M SV:=mOp 4e9 (mOp (g2 ixT) 4e3 3e7) (mC (.int 5))
def iG:PSt->M SV:=mOp (g2 gtP) 3e7 (mOp 8e1 (mOp 4e9 6e9 (mC (.int 5))) 4e3)
def i1:PSt->M PF:=mSet 3 (mVal (mComp (mItems (mOp 4e9 4e3 (mC (.int 4)))) ["got"] [0] (hName 0) iT iE))
def i2:PSt->M PF:=mRet (mCB (g1 anyH) (aCons (mVal (mComp (mItems 9e1) ["time"] [2,1] (hName 0) tOk iG)) aNil))
theorem behind_is:B_is_behind=mSeq i1 i2:=rfl
theorem look_t {ls:List Lt}(u:Uq ls){q:5e6}(h:inK q (dF ls).1=true):∃m∈ls,look ls q=some m/\m.nm=q/\lookT (dF ls).1 (dF ls).2 q=some m.P:=by
 cases e:look ls q with
 | none=>rw[look_out (Zbo e)] at h;cases h
 | some m=>
  obtain ⟨a,b⟩:=Zbb e
  have:=(look_in u a).1
  rw[b] at this
  exact ⟨m,a,rfl,b,this⟩
def gB (z:Int)(x:PV):PV:=match x with
 | .int i=>.bl (decide (z < i))
 | _=>.non
def unK:PV->List Key:=fun p=>match p with
 | .tup qs=>(keysP qs).getD []
 | _=>[]
theorem unK_k (q:5e6):unK (tupK q)=q:=by unfold unK tupK;simp only[ZaK];rfl
theorem ZcB {α β:Type}(f:α->β)(p:β->Bool):∀l:List α,(l.map f).filter p=(l.filter fun a=>p (f a)).map f
 | []=>rfl
 | a::l=>by rw[Ym,Xx,Xx,ZcB f p l];split<;>rfl
theorem is_behind_eq {ls:List Lt}(g:Good ls){l:Lt}(h:l∈ls)(s:Int)(C:Cs):F_is_behind [.v (DD ls),.v l.P,.v (.int s)] C=some (.v (.bl (behB ls s l)),C):=by
 have hg:=g.gs l h
 have c1:=Zb8 (tt:=iT) (te:=iE) (p:=fun x=>inK (unK x) (dF ls).1&&isBell (unK x)) (f:=fun x=>.int (tOf ls (unK x))) (l.gs.map tupK) [none,#[DD ls]] [] C (fun x hx=>by
  obtain ⟨q,hq,rfl⟩:=Yw.mp hx
  obtain ⟨m,rfl⟩:=hg.2 q hq
  rw[unK_k]
  have e1:inTP false (tupK m.nm) (DD ls)=some (.bl (inK m.nm (dF ls).1)):=inT_k false m.nm (dF ls).1 (dF ls).2
  have e2:ixQ (tupK m.nm) (.int 0)=some (.str m.h):=rfl
  have e3:=ixT_k m.nm (dF ls).1 (dF ls).2
  have e4:isBell m.nm=decide (m.h="bell"):=rfl
  constructor
  ·rw[e4]
   generalize hK:inK m.nm (dF ls).1=b at *
   generalize tupK m.nm=NM at *
   generalize DD ls=D at *
   cases b with
   | false=>simp![iT,e1]
   | true=>simp![iT,e1,e2]
  ·intro hp
   rw[Yp] at hp
   obtain ⟨m',hm',k1,k2,k3⟩:=look_t g.uq hp.1
   rw[k3] at e3
   have e5:=P_5 m'
   have e6:tOf ls m.nm=m'.t:=by unfold tOf;rw[k1]
   rw[e6]
   have e3':ixT (DD ls) (tupK m.nm)=some m'.P:=e3
   generalize tupK m.nm=NM at *
   generalize DD ls=D at *
   generalize m'.P=MP at *
   simp![iE,e3',e5])
 rw[WF,ZcB,Y9] at c1
 have fm:(l.gs.filter fun a=>inK (unK (tupK a)) (dF ls).1&&isBell (unK (tupK a)))=l.gs.filter fun q=>inK q (dF ls).1&&isBell q:=by simp only[unK_k]
 rw[fm] at c1
 generalize hF:(l.gs.filter fun q=>inK q (dF ls).1&&isBell q)=fs at c1
 have hfl:fs.length<=3:=by rw[←hF];exact YQ (Wr _ _) hg.1
 have cm:fs.map ((fun x=>PV.int (tOf ls (unK x))) ∘ tupK)=(fs.map (tOf ls)).map .int:=by
  rw[Y9];apply UB;intro q _;show PV.int (tOf ls (unK (tupK q)))=_;rw[unK_k];rfl
 rw[cm] at c1
 have c2:=comp_map (te:=iG) (f:=gB (l.t + s)) ((fs.map (tOf ls)).map .int) [none,#[.int s],#[l.P]] [] C (fun x hx=>by
  obtain ⟨i,_,rfl⟩:=Yw.mp hx
  have e5:=P_5 l
  generalize l.P=LP at *
  simp![iG,e5,gtP,addP,gB])
 rw[WF] at c2
 have cm2:((fs.map (tOf ls)).map PV.int).map (gB (l.t + s))=(fs.map fun q=>.bl (decide (l.t + s < tOf ls q))):=by
  rw[Y9,Y9];rfl
 rw[cm2] at c2
 have e4:=P_4 l
 have hl1:(l.gs.map tupK).length<=100000:=by have:=hg.1;rw[Yf];lia
 have hl2:((fs.map (tOf ls)).map PV.int).length<=100000:=by rw[Yf,Yf];lia
 have hb:=bools_map (fun q=>decide (l.t + s < tOf ls q)) fs
 have s1:i1 [#[DD ls],#[l.P],#[.int s],none] C=some (.nx [#[DD ls],#[l.P],#[.int s],#[.lst ((fs.map (tOf ls)).map .int)]],C):=by
  generalize (fs.map (tOf ls)).map PV.int=TS at *
  generalize l.gs.map tupK=GS at *
  generalize DD ls=D at *
  generalize l.P=LP at *
  simp![i1,mComp,mItems,e4,itemsP,hl1,stIn',c1]
 have s2:i2 [#[DD ls],#[l.P],#[.int s],#[.lst ((fs.map (tOf ls)).map .int)]] C=some (.rt (.v (.bl (behB ls s l))),C):=by
  have hbe:behB ls s l=(fs.map fun q=>decide (l.t + s < tOf ls q)).any id:=by unfold behB;rw[hF,List.any_map];rfl
  rw[hbe]
  generalize (fs.map (tOf ls)).map PV.int=TS at *
  generalize (fs.map fun q=>decide (l.t + s < tOf ls q))=BS at *
  generalize (fs.map fun q=>PV.bl (decide (l.t + s < tOf ls q)))=VS at *
  generalize DD ls=D at *
  generalize l.P=LP at *
  simp![i2,mComp,mItems,itemsP,hl2,stIn',c2,anyH,hb]
 have run:B_is_behind [#[DD ls],#[l.P],#[.int s],none] C=some (.rt (.v (.bl (behB ls s l))),C):=by
  rw[behind_is,ZaA s1];exact s2
 unfold F_is_behind
 generalize B_is_behind=bb at *
 generalize DD ls=D at *
 generalize l.P=LP at *
 simp![run]
structure Com (ck:List (List Key))(cv:List PV):Prop where
 len:ck.length=cv.length
 int:∀v∈cv,∃c:Int,v=.int c
theorem lookT_in:∀{ks:4e2} {ps:List PV} {q:5e6},ks.length=ps.length->inK q ks=true->∃v∈ps,lookT ks ps q=some v
 | [],ps,q,_,h=>by cases h
 | a::ks,[],q,h,_=>by simp at h
 | a::ks,b::ps,q,h,hi=>by
  unfold lookT
  by_cases e:a=q
  ·exact ⟨b,YJ,if_pos e⟩
  ·obtain ⟨v,hv,e2⟩:=lookT_in (ks:=ks) (ps:=ps) (q:=q) 7e3 (by unfold inK at hi ⊢;rw[Xg,decide_eq_false e] at hi;simpa using hi)
   exact ⟨v,Yz _ hv,by rw[if_neg e];exact e2⟩
def ahB (ck:4e2)(cv:List PV)(s:Int)(l:Lt):Bool:=match lookT ck cv l.nm with
 | some (.int c)=>inK l.nm ck&&decide (c + s < l.t)
 | _=>false
theorem is_ahead_eq {ck:4e2}{cv:List PV}(c:Com ck cv)(l:Lt)(s:Int)(C:Cs):F_is_ahead [.v (.dtt ck cv),.v l.P,.v (.int s)] C=some (.v (.bl (ahB ck cv s l)),C):=by
 have e1:=ZbC l C
 have e2:=inT_k false l.nm ck cv
 have e3:=ixT_k l.nm ck cv
 have e5:=P_5 l
 unfold ahB
 cases hi:inK l.nm ck with
 | false=>
  have e2:inTP false (tupK l.nm) (.dtt ck cv)=some (.bl false):=by rw[hi] at e2;exact e2
  have:(match lookT ck cv l.nm with | some (.int c)=>false&&decide (c + s < l.t) | _=>false)=false:=by split<;>simp
  rw[this]
  generalize l.P=LP at *
  generalize tupK l.nm=NM at *
  generalize PV.dtt ck cv=D at *
  simp![F_is_ahead,e1,e2]
 | true=>
  obtain ⟨v,hv,ev⟩:=lookT_in c.len hi
  obtain ⟨x,rfl⟩:=c.int v hv
  rw[ev]
  rw[ev] at e3
  have e2:inTP false (tupK l.nm) (.dtt ck cv)=some (.bl true):=by rw[hi] at e2;exact e2
  generalize l.P=LP at *
  generalize tupK l.nm=NM at *
  generalize PV.dtt ck cv=D at *
  simp![F_is_ahead,e1,e2,e3,e5,gtP,addP]
def clm (w:Str)(l:Lt):PV:=.tup [.str w,tupK l.nm]
def mkL (b a:Bool)(l:Lt):List PV:=(if b then [clm "behind" l] else [])++(if a then [clm "ahead" l] else [])
def j1:PSt->M PF:=mSet 4 (mFn F_name_of (aCons 4e3 aNil))
def jA:PSt->M (List SV):=aCons (mFn F_is_back (aCons 3e7 (aCons 4e3 aNil))) (aCons (mFn F_is_loose (aCons 3e7 (aCons 4e3 aNil))) (aCons (mFn F_is_behind (aCons 3e7 (aCons 4e3 (aCons 9e1 aNil)))) (aCons (mFn F_is_ahead (aCons 6e9 (aCons 4e3 (aCons 9e1 aNil)))) aNil)))
def jE:PSt->M SV:=mTup (aCons 3e7 (aCons 6e9 aNil))
def j2:PSt->M PF:=mDispI 5 ["back","loose","behind","ahead"] jA ["word","is_so"] [4] (hTup (hCons (hName 0) (hCons (hName 1) hNil)) 2) (mTru 4e3) jE
theorem marks_of_is:B_marks_of=mSeq j1 j2:=rfl
theorem disp_eq (b a:Bool)(x:PV)(C:Cs):∃r,cLoop (hTup (hCons (hName 0) (hCons (hName 1) hNil)) 2) (mTru 4e3) (cBody jE []) (itemsL ["back","loose","behind","ahead"] [.bl false,.bl false,.bl b,.bl a]) [none,none,#[x]] [] C=some ((r,(if b then [.tup [.str "behind",x]] else [])++(if a then [.tup [.str "ahead",x]] else [])),C):=by
 cases b<;>cases a<;>exact 7e1
theorem marks_of_eq {ls:List Lt}(g:Good ls){l:Lt}(h:l∈ls){ck:4e2}{cv:List PV}(c:Com ck cv)(s:Int)(C:Cs):F_marks_of [.v (DD ls),.v l.P,.v (.dtt ck cv),.v (.int s)] C=some (.v (.lst (mkL (behB ls s l) (ahB ck cv s l) l)),C):=by
 have e1:=ZbC l C
 have e2:=is_back_eq g h C
 have e3:=is_loose_eq g h C
 have e4:=is_behind_eq g h s C
 have e5:=is_ahead_eq c l s C
 obtain ⟨r,e6⟩:=disp_eq (behB ls s l) (ahB ck cv s l) (tupK l.nm) C
 unfold mkL clm
 generalize behB ls s l=b at *
 generalize ahB ck cv s l=a at *
 generalize (if b then [PV.tup [.str "behind",tupK l.nm]] else [])++(if a then [PV.tup [.str "ahead",tupK l.nm]] else [])=R at *
 generalize tupK l.nm=NM at *
 generalize DD ls=D at *
 generalize l.P=LP at *
 generalize PV.dtt ck cv=E at *
 have s1:j1 [#[D],#[LP],#[E],#[.int s],none,none] C=some (.nx [#[D],#[LP],#[E],#[.int s],#[NM],none],C):=by
  simp![j1,e1]
 have sA:jA [#[D],#[LP],#[E],#[.int s],#[NM],none] C=some ([.v (.bl false),.v (.bl false),.v (.bl b),.v (.bl a)],C):=by
  simp![jA,e2,e3,e4,e5]
 have s2:j2 [#[D],#[LP],#[E],#[.int s],#[NM],none] C=some (.rf R,C):=by
  have hk:(["back","loose","behind","ahead"]:List Str).all (fun k=>decide (k.length<=1000))=true:=by decide +kernel
  unfold j2
  generalize (["back","loose","behind","ahead"]:List Str)=KS at *
  unfold mDispI bnd
  rw[sA]
  have hk':∀x∈KS,x.length<=1000:=fun x hx=>of_decide_eq_true (YR.mp hk x hx)
  simp[Pu.plain,stIn',e6,Pu.ret]
  rw[if_pos hk']
  simp only[e6]
 have run:B_marks_of [#[D],#[LP],#[E],#[.int s],none,none] C=some (.rf R,C):=by
  rw[marks_of_is,ZaA s1];exact s2
 unfold F_marks_of
 generalize B_marks_of=bb at *
 simp![run]
def nmV (l:Lt):PV:=tupK l.nm
theorem dF_go:∀(ls:List Lt) (ks:4e2) (ps:List PV),(ks++ls.map Lt.nm).Nodup->dFold (ls.map pr) ks ps=(ks++ls.map Lt.nm,ps++ls.map Lt.P)
 | [],ks,ps,_=>by simp[dFold]
 | l::ls,ks,ps,h=>by
  rw[show dFold ((l::ls).map pr) ks ps=dFold (ls.map pr) (putKs ks l.nm) (putVs ks ps l.nm l.P) from rfl]
  have hk:inK l.nm ks=false:=by
   cases e:inK l.nm ks with
   | false=>rfl
   | true=>
    rw[Xm] at h
    exact absurd rfl (h.2.2 l.nm (Zbp.mp e) l.nm 3e0)
  have e1:putKs ks l.nm=ks++[l.nm]:=by unfold putKs;rw[hk];rfl
  have e2:putVs ks ps l.nm l.P=ps++[l.P]:=by unfold putVs;rw[hk];rfl
  rw[e1,e2,dF_go ls _ _ 7e3]
  simp
theorem dF_nd {ls:List Lt}(h:(ls.map Lt.nm).Nodup):dF ls=(ls.map Lt.nm,ls.map Lt.P):=by
 unfold dF;rw[dF_go ls [] [] 7e3];simp
theorem ltD_nm (t u:Lt):ltD (nmV t) (nmV u)=some (lT (nmV t) (nmV u)):=by
 have h:∃c,ltD (nmV t) (nmV u)=some c:=by
  unfold nmV
  rw[nm_P,nm_P]
  unfold ltD lexD
  split
  ·unfold lexD;split
   ·unfold lexD;split
    ·unfold lexD;exact 7e1
    ·unfold ltD;exact 7e1
   ·unfold ltD;exact 7e1
  ·unfold ltD;exact 7e1
 obtain ⟨c,e⟩:=h
 rw[e,ltD_lT _ e]
theorem all_map {α:Type}{f:α->PV}(g:PV->Bool)(ts:List α)(h:∀t,g (f t)=true):(ts.map f).all g=true:=by
 rw[YR];intro x hx;obtain ⟨t,_,rfl⟩:=Yw.mp hx;exact h t
theorem cmp_nm (ts:List Lt):cmpAll (ts.map nmV)=true:=all_map _ ts fun t=>all_map _ ts fun u=>by rw[ltD_nm];rfl
theorem purs_nm (ts:List Lt):purs (ts.map nmV)=true:=Zcx (f:=nmV) (fun t=>ZbB t.nm) ts
theorem sortP_nm (ts:List Lt)(h:ts.length < 64):sortP (ts.map nmV)=some (sortL (ts.map nmV)):=by
 have hd:deps (ts.map nmV)<=1:=Zbj (f:=nmV) (fun t=>Zb6 t.nm) ts
 have hs:sortable (ts.map nmV)=true:=by
  unfold sortable;rw[all_map (fun p=>fstK p==4) ts fun t=>rfl];simp
 unfold sortP
 rw[if_pos]
 rw[ZbE (f:=nmV) (fun t=>Zb7 t.nm) ts,hs,cmp_nm,Yf]
 simp[h];lia
theorem of_perm {α β:Type}(f:α->β):∀{xs:List β} {ls:List α},xs.Perm (ls.map f)->∃us:List α,xs=us.map f/\us.Perm ls:=by
 intro xs
 induction xs with
 | nil=>intro ls p;have:=p.length_eq;cases ls with
  | nil=>exact ⟨[],rfl,.nil⟩
  | cons _ _=>simp at this
 | cons x xs ih=>
  intro ls p
  obtain ⟨a,ha,rfl⟩:=Yw.mp (p.mem_iff.mp 8e0)
  obtain ⟨l1,l2,rfl⟩:=List.append_of_mem ha
  have p2:xs.Perm ((l1++l2).map f):=by
   rw[YO,Ym] at p
   have:=p.trans (Vs)
   rw[YO]
   exact this.cons_inv
  obtain ⟨us,rfl,pu⟩:=ih p2
  exact ⟨a::us,rfl,(pu.cons a).trans Vs.symm⟩
theorem sort_nm (ts:List Lt):∃us:List Lt,sortL (ts.map nmV)=us.map nmV/\us.Perm ts:=of_perm nmV (Zbu (cmp_nm ts) (purs_nm ts))
inductive GR:List (List Key)->List (List Lt)->Prop
 | nil:GR [] []
 | cons {k:List Key} {g:List Lt} {ks:List (List Key)} {gs:List (List Lt)}:(∀u∈g,u.fo=k)->g≠[]->GR ks gs->GR (k::ks) (g::gs)
def gP (gs:List (List Lt)):List 2e9:=gs.map fun g=>g.map nmV
theorem GR.add (u:Lt){ks:4e2}{gs:List (List Lt)}(h:GR ks gs):∃gs',addL ks (gP gs) u.fo (nmV u)=gP gs'/\GR (putKs ks u.fo) gs'/\gs'.flatten.Perm (u::gs.flatten):=by
 induction h with
 | nil=>exact ⟨[[u]],rfl,.cons 3e0 3e0 .nil,by simp⟩
 | @cons k g ks gs hg hne r ih=>
  by_cases e:k=u.fo
  ·refine ⟨(g++[u])::gs,?_,?_,?_⟩
   ·unfold gP;rw[Ym];unfold addL;rw[if_pos e];simp
   ·unfold putKs;rw[show inK u.fo (k::ks)=true from by unfold inK;rw[Xg,decide_eq_true e];rfl,if_pos rfl]
    exact .cons (fun v hv=>by
     rcases YU.mp hv with q | q
     ·exact hg v q
     ·rw[Yk.mp q];exact e.symm) (by simp) r
   ·rw[Wb,Wb,Yh]
    exact Vs
  ·obtain ⟨gs',e1,r1,p1⟩:=ih
   refine ⟨g::gs',?_,?_,?_⟩
   ·unfold gP at e1 ⊢;rw[Ym];unfold addL;rw[if_neg e,e1];rfl
   ·have:putKs (k::ks) u.fo=k::putKs ks u.fo:=by
     unfold putKs
     rw[show inK u.fo (k::ks)=inK u.fo ks from by unfold inK;rw[Xg,decide_eq_false e];rfl]
     split<;>rfl
    rw[this];exact .cons hg hne r1
   ·rw[Wb,Wb]
    exact (p1.append_left g).trans Vs
theorem GR.most {ks:4e2}{gs:List (List Lt)}(h:GR ks gs):gs.length<=gs.flatten.length:=by
 induction h with
 | nil=>simp
 | @cons k g ks gs hg hne r ih=>
  have:1<=g.length:=by cases g with
   | nil=>exact absurd rfl hne
   | cons _ _=>simp
  rw[Wb,Yu,YC];lia
theorem GR.same {ks:4e2}{gs:List (List Lt)}(h:GR ks gs):∀g∈gs,∀a∈g,∀b∈g,a.fo=b.fo:=by
 induction h with
 | nil=>intro g hg;cases hg
 | cons hg _ r ih=>
  intro g h a ha b hb
  rcases Yl.mp h with rfl | h
  ·rw[hg a ha,hg b hb]
  ·exact ih g h a ha b hb
theorem len_flat {α:Type}{gs:List (List α)}{g:List α}(h:g∈gs):g.length<=gs.flatten.length:=by
 induction gs with
 | nil=>cases h
 | cons a gs ih=>
  rw[Wb,Yu]
  rcases Yl.mp h with rfl | h
  ·lia
  ·have:=ih h;lia
def tK:PSt->M SV:=mFn F_followed (aCons (mOp (g2 ixT) 3e7 6e9) aNil)
theorem sd_run {ls:List Lt}(u:Uq ls)(L:Nat):∀(us:List Lt) (ks:4e2) (gs:List (List Lt)) (x2:Option PV),(∀v∈us,v∈ls)->GR ks gs->gs.flatten.length + us.length<=100->ks.length + us.length<=100->
  ∃ks' gs' y2,sdLoop 1 L (hName 2) tK 6e9 (us.map nmV) [#[DD ls],some (.c L),x2.map .v] ks (gP gs)=some ([#[DD ls],#[.dtt ks' ((gP gs').map .lst)],y2],ks',gP gs')/\GR ks' gs'/\gs'.flatten.Perm (us++gs.flatten)
 | [],ks,gs,x2,_,r,_,_=>by
  refine ⟨ks,gs,x2.map .v,?_,r,by simp⟩
  have hc:okC 1 L [#[DD ls],some (.c L),x2.map .v]=true:=by
   cases x2<;>simp[okC]
  unfold sdLoop
  rw[Yag]
  dsimp only
  rw[if_pos hc];rfl
 | v::us,ks,gs,x2,hu,r,hl,hl2=>by
  obtain ⟨gs1,e1,r1,p1⟩:=r.add v
  have hput:=putKs_le ks v.fo
  obtain ⟨ks',gs',y2,e2,r2,p2⟩:=sd_run u L us (putKs ks v.fo) gs1 (some (nmV v)) (fun w hw=>hu w (.tail _ hw)) r1 (by have:=p1.length_eq;rw[YC] at this hl;lia) (by rw[YC] at hl2;lia)
  refine ⟨ks',gs',y2,?_,r2,?_⟩
  ·have hx:=ixT_k v.nm (dF ls).1 (dF ls).2
   rw[(look_in u (hu v 8e0)).1] at hx
   have hx':ixT (DD ls) (nmV v)=some v.P:=hx
   have hf:=Zbh v []
   have hk:tK [#[DD ls],none,#[nmV v]] []=some (.v (.tup (v.fo.map kP)),[]):=by
    have:tupK v.fo=.tup (v.fo.map kP):=rfl
    rw[←this]
    generalize tupK v.fo=FO at *
    generalize nmV v=NV at *
    generalize v.P=VP at *
    generalize DD ls=D at *
    simp![tK,hx',hf]
   have hp:pur (nmV v)=true:=ZbB v.nm
   have ha:(gP gs).all (fun l=>decide (l.length < 1000))=true:=by
    rw[YR];intro l hl'
    obtain ⟨g,hg,rfl⟩:=Yw.mp hl'
    have:=len_flat hg
    rw[Yf];exact decide_eq_true 1e2
   have hkl:ks.length < 1000:=by lia
   rw[Ym]
   unfold sdLoop
   have g1:([#[DD ls],some (.c L),#[nmV v]]:PSt)[1]? = some (some (.c L)):=rfl
   have hid:hideC 0 [#[DD ls],some (.c L),#[nmV v]]=[#[DD ls],none,#[nmV v]]:=rfl
   have hv:mVar 2 [#[DD ls],none,#[nmV v]] []=some (.v (nmV v),[]):=rfl
   have hg:hName 2 (nmV v) [#[DD ls],some (.c L),x2.map .v]=some [#[DD ls],some (.c L),#[nmV v]]:=rfl
   have hck:(pur (nmV v)&&decide (ks.length < 1000)&&(gP gs).all fun l=>decide (l.length < 1000))=true:=by rw[hp,ha,decide_eq_true hkl];rfl
   simp only[hg,g1,if_true,hid,hk,ZaK,hv,hck,e1]
   exact e2
  ·exact p2.trans ((p1.append_left us).trans Vs)
def prs:List Lt->List (Lt×Lt)
 | []=>[]
 | x::xs=>xs.map (fun y=>(x,y))++prs xs
def twV (p:Lt×Lt):PV:=.tup [.str "twin",nmV p.1,nmV p.2]
def tE:PSt->M SV:=mTup (aCons (mC (.str "twin")) (aCons 6e9 (aCons 9e1 aNil)))
def tI:PSt->M 2e9:=mItems (mSlice 3e7 (oPart (mOp 8e1 4e3 5e7)) oNo)
def tH:PV->PSt->Option PSt:=hTup (hCons (hName 1) (hCons (hName 2) hNil)) 2
theorem in_run (G A:PV)(v:Lt)(C:Cs):∀(us:List Lt) (x3:Option SV) (ys:List PV),ys.length + us.length<=10000->
  ∃y3,cLoop (hName 3) tOk (cBody tE []) (us.map nmV) [#[G],#[A],#[nmV v],x3] ys C=some (([#[G],#[A],#[nmV v],y3],ys++(us.map fun y=>twV (v,y))),C)
 | [],x3,ys,_=>⟨x3,by simp[cLoop,Pu.ret]⟩
 | u::us,x3,ys,h=>by
  rw[YC] at h
  obtain ⟨y3,e⟩:=in_run G A v C us #[nmV u] (ys++[twV (v,u)]) (by simp;lia)
  refine ⟨y3,?_⟩
  have hl:ys.length < 100000:=by lia
  have hb:cBody tE [] [#[G],#[A],#[nmV v],#[nmV u]] ys C=some (([#[G],#[A],#[nmV v],#[nmV u]],ys++[twV (v,u)]),C):=by
   unfold twV
   generalize nmV v=V
   generalize nmV u=U
   simp![cBody,tE,hl]
  rw[Ym,Ym]
  unfold cLoop
  have hg:hName 3 (nmV u) [#[G],#[A],#[nmV v],x3]=some [#[G],#[A],#[nmV v],#[nmV u]]:=rfl
  simp only[hg,tOk,bnd,Pu.ret,if_true,hb,e]
  simp
def enS:Nat->List PV->List PV
 | _,[]=>[]
 | i,x::r=>.tup [.int (i:Nat),x]::enS (i + 1) r
theorem enS_eq:∀(i:Nat) (xs:List PV),enS i xs=(YW xs.length).map fun j=>.tup [.int ((i + j:Nat):Int),xs.getD j .non]
 | i,[]=>rfl
 | i,x::xs=>by
  unfold enS
  rw[enS_eq (i + 1) xs,YC,List.range_succ_eq_map,Ym,Y9]
  congr 1
  apply UB
  intro j _
  show _=PV.tup [.int ((i + (j + 1):Nat):Int),(x::xs).getD (j + 1) .non]
  rw[show i + (j + 1)=i + 1 + j by lia];rfl
theorem enum_eq (xs:List PV):enumL xs=enS 0 xs:=by
 rw[enS_eq];unfold enumL;simp
theorem cut_from (xs:List PV)(i:Int)(h:0<=i)(h2:i<=xs.length):cutP xs (some i) none=xs.drop i.toNat:=by
 have e:HT.sIx xs.length 0 (some i)=i.toNat:=by unfold HT.sIx;simp only[];rw[if_neg 1e2];lia
 have e2:HT.sIx xs.length xs.length none=xs.length:=rfl
 unfold cutP
 rw[e,e2]
 exact VW (by rw[Vq];lia)
theorem tI_eq (g:List PV)(i:Nat)(x2 x3:Option SV)(C:Cs)(h:i + 1<=g.length):tI [#[.lst g],#[(.int (i:Nat))],x2,x3] C=some (g.drop (i + 1),C):=by
 have e:=cut_from g ((i:Int) + 1) 1e2 1e2
 rw[show ((i:Int) + 1).toNat=i + 1 by lia] at e
 simp![tI,mItems,addP,itemsP,e]
theorem mid_run (g:List Lt)(hg:g.length<=100)(C:Cs):∀(r:List Lt) (i:Nat) (x1 x2 x3:Option SV) (ys:List PV),g.drop i=r->ys.length + 100 * r.length<=10000->
  ∃y1 y2 y3,cLoop tH tOk (cBody tE [(tI,hName 3,tOk)]) (enS i (r.map nmV)) [#[.lst (g.map nmV)],x1,x2,x3] ys C=some (([#[.lst (g.map nmV)],y1,y2,y3],ys++(prs r).map twV),C)
 | [],i,x1,x2,x3,ys,_,_=>⟨x1,x2,x3,by simp[cLoop,Pu.ret,enS,prs]⟩
 | v::r,i,x1,x2,x3,ys,hr,h=>by
  rw[YC] at h
  have hlen:i < g.length:=by
   rcases YS i g.length with q | q
   ·exact q
   ·rw[List.drop_eq_nil_of_le q] at hr;cases hr
  have hr':g.drop (i + 1)=r:=by rw[←List.drop_drop,hr];rfl
  have hrl:r.length<=100:=by rw[←hr',Vq];lia
  obtain ⟨z3,e1⟩:=in_run (.lst (g.map nmV)) (.int (i:Nat)) v C r x3 ys 1e2
  obtain ⟨y1,y2,y3,e2⟩:=mid_run g hg C r (i + 1) #[(.int (i:Nat))] #[nmV v] z3 (ys++r.map fun y=>twV (v,y)) hr' (by rw[Yu,Yf];lia)
  refine ⟨y1,y2,y3,?_⟩
  have ht:=tI_eq (g.map nmV) i #[nmV v] x3 C (by rw[Yf];lia)
  rw[←List.map_drop,hr'] at ht
  rw[Ym]
  unfold enS cLoop
  have hh:tH (.tup [.int (i:Nat),nmV v]) [#[.lst (g.map nmV)],x1,x2,x3]=some [#[.lst (g.map nmV)],#[(.int (i:Nat))],#[nmV v],x3]:=rfl
  have hb:cBody tE [(tI,hName 3,tOk)] [#[.lst (g.map nmV)],#[(.int (i:Nat))],#[nmV v],x3] ys C=some (([#[.lst (g.map nmV)],#[(.int (i:Nat))],#[nmV v],z3],ys++r.map fun y=>twV (v,y)),C):=by
   unfold cBody bnd
   rw[ht];exact e1
  simp only[hh,tOk,bnd,Pu.ret,if_true,hb]
  rw[e2]
  simp[prs]
theorem out_run (C:Cs):∀(gs:List (List Lt)) (x0 x1 x2 x3:Option SV) (ys:List PV),(∀g∈gs,g.length<=3)->ys.length + 3 * gs.length<=1000->
  ∃r,cLoop (hName 0) tOk (cBody tE [(mEnum (aCons 3e7 aNil),tH,tOk),(tI,hName 3,tOk)]) ((gP gs).map .lst) [x0,x1,x2,x3] ys C=some ((r,ys++(gs.flatMap prs).map twV),C)
 | [],x0,x1,x2,x3,ys,_,_=>⟨_,by simp[cLoop,Pu.ret,gP];rfl⟩
 | g::gs,x0,x1,x2,x3,ys,hg,h=>by
  rw[YC] at h
  have hg3:=hg g 8e0
  obtain ⟨y1,y2,y3,e1⟩:=mid_run g 1e2 C g 0 x1 x2 x3 ys rfl 1e2
  have hp3:(prs g).length<=3:=by
   match g,hg3 with
   | [],_=>simp[prs]
   | [_],_=>simp[prs]
   | [_,_],_=>simp[prs]
   | [_,_,_],_=>simp[prs]
   | _::_::_::_::_,z=>simp at z
  obtain ⟨r,e2⟩:=out_run C gs #[.lst (g.map nmV)] y1 y2 y3 (ys++(prs g).map twV) (fun a ha=>hg a (.tail _ ha)) (by rw[Yu,Yf];lia)
  refine ⟨r,?_⟩
  have he:mEnum (aCons 3e7 aNil) [#[.lst (g.map nmV)],x1,x2,x3] C=some (enS 0 (g.map nmV),C):=by
   rw[←enum_eq]
   generalize g.map nmV=G
   simp![mEnum,enumP]
  have hb:cBody tE [(mEnum (aCons 3e7 aNil),tH,tOk),(tI,hName 3,tOk)] [#[.lst (g.map nmV)],x1,x2,x3] ys C=some (([#[.lst (g.map nmV)],y1,y2,y3],ys++(prs g).map twV),C):=by
   rw[cBody,bnd,he];exact e1
  rw[show (gP (g::gs)).map PV.lst=.lst (g.map nmV)::(gP gs).map .lst from rfl]
  rw[cLoop]
  have hh:hName 0 (.lst (g.map nmV)) [x0,x1,x2,x3]=some [#[.lst (g.map nmV)],x1,x2,x3]:=rfl
  have ht:tOk [#[.lst (g.map nmV)],x1,x2,x3] C=some (true,C):=rfl
  simp only[hh,bnd,ht,if_true,hb,e2]
  simp
def t1:PSt->M PF:=mSdl 1 (mItems (mVal (mSorted3 (aCons 3e7 aNil)))) (hName 2) tK 6e9
def t2:PSt->M PF:=mRetF (mCompN (mValsI 4e3) 6e6 [] (hName 0) tOk [(mEnum (aCons 3e7 aNil),tH,tOk),(tI,hName 3,tOk)] tE)
theorem twins_is:B_twins=mSeq t1 t2:=rfl
def Bd (ls:List Lt)(b:Nat):Prop:=∀g:List Lt,(g.map Lt.nm).Nodup->(∀v∈g,v∈ls)->(∀x∈g,∀y∈g,x.fo=y.fo)->g.length<=b
theorem keys_ok {ls:List Lt}(g:Good ls):keysOk (ls.map Lt.nm)=true:=by
 unfold keysOk
 rw[YR];intro k hk
 obtain ⟨t,ht,rfl⟩:=Yw.mp hk
 obtain ⟨h1,h2⟩:=g.ln t ht
 have h3:t.h.length<=1000:=by lia
 have h4:t.d.length<=1000:=by lia
 simp[Lt.nm,keyOk,h3,h4]
theorem nd_mem {gs:List (List Lt)}{g:List Lt}(h:g∈gs)(nd:(gs.flatten.map Lt.nm).Nodup):(g.map Lt.nm).Nodup:=by
 have:g.Sublist gs.flatten:=List.sublist_flatten_of_mem h
 exact (this.map Lt.nm).nodup nd
theorem prs_few:∀(gs:List (List Lt)),(∀g∈gs,g.length<=3)->(gs.flatMap prs).length<=gs.flatten.length
 | [],_=>by simp
 | g::gs,h=>by
  have ih:=prs_few gs fun a ha=>h a (.tail _ ha)
  have hp3:(prs g).length<=g.length:=by
   match g,h g 8e0 with
   | [],_=>simp[prs]
   | [_],_=>simp[prs]
   | [_,_],_=>simp[prs]
   | [_,_,_],_=>simp[prs]
   | _::_::_::_::_,z=>simp at z
  rw[Wc,Wb,Yu,Yu];lia
theorem prs_none:∀(gs:List (List Lt)),(∀g∈gs,g.length<=1)->gs.flatMap prs=[]
 | [],_=>rfl
 | g::gs,h=>by
  rw[Wc,prs_none gs fun a ha=>h a (.tail _ ha)]
  match g,h g 8e0 with
  | [],_=>rfl
  | [_],_=>rfl
  | _::_::_,z=>simp at z
theorem twins_eq {ls:List Lt}(g:Good ls){b:Nat}(hb:Bd ls b)(hb3:b<=3)(C:Cs):∃ts:List (Lt×Lt),FF_twins [.v (DD ls)] C=some (ts.map twV,C)/\ts.length<=ls.length/\(b<=1->ts=[]):=by
 have hd:=dF_nd g.nd
 have hfew:=g.few
 obtain ⟨us,eu,pu⟩:=sort_nm ls
 have hul:=pu.length_eq
 obtain ⟨ks,gs,y2,e1,r,p⟩:=sd_run g.uq C.length us [] [] none (fun v hv=>pu.mem_iff.mp hv) .nil (by simp;lia) (by simp;lia)
 rw[List.flatten_nil,YL] at p
 have hperm:=p.trans pu
 have hgl:∀x∈gs,x.length<=b:=fun x hx=>hb x (nd_mem hx ((hperm.map Lt.nm).nodup_iff.mpr g.nd)) (fun v hv=>hperm.mem_iff.mp (List.mem_flatten.mpr ⟨x,hx,hv⟩)) (r.same x hx)
 have hl3:∀x∈gs,x.length<=3:=fun x hx=>YQ (hgl x hx) hb3
 refine ⟨gs.flatMap prs,?_,by rw[←hperm.length_eq];exact prs_few gs hl3,fun q=>prs_none gs fun x hx=>YQ (hgl x hx) q⟩
 have hso:sortedH3 (C++[.dtt [] []]) [.v (DD ls)]=some (us.map nmV):=by
  have hk:=keys_ok g
  have hn:(ls.map Lt.nm).map tupK=ls.map nmV:=by rw[Y9];rfl
  have:sortedH3 (C++[.dtt [] []]) [.v (DD ls)]=if keysOk (dF ls).1 then sortP ((dF ls).1.map tupK) else none:=rfl
  rw[this,hd]
  show (if keysOk (ls.map Lt.nm) then sortP ((ls.map Lt.nm).map tupK) else none)=_
  rw[if_pos hk,hn,sortP_nm ls 1e2,eu]
 have hgs:3 * gs.length<=1000:=by
  have h1:=r.most
  have h2:=hperm.length_eq
  lia
 obtain ⟨rr,e2⟩:=out_run C gs none none none none [] hl3 (by simpa using hgs)
 have s1:t1 [#[DD ls],none,none] C=some (.nx [#[DD ls],#[.dtt ks ((gP gs).map .lst)],y2],C):=by
  have hi:mItems (mVal (mSorted3 (aCons 3e7 aNil))) [#[DD ls],some (.c C.length),none] (C++[.dtt [] []])=some (us.map nmV,C++[.dtt [] []]):=by
   generalize us.map nmV=US at *
   generalize DD ls=D at *
   simp![mItems,mSorted3,hso,itemsP]
  unfold t1 mSdl
  rw[show ([#[DD ls],none,none]:PSt).set 1 (some (.c C.length))=[#[DD ls],some (.c C.length),none] from rfl,hi]
  simp only[List.getLast?_concat,List.dropLast_concat]
  have e1':sdLoop 1 C.length (hName 2) tK 6e9 (us.map nmV) [#[DD ls],some (.c C.length),none] [] []=_:=e1
  rw[e1']
 have s2:t2 [#[DD ls],#[.dtt ks ((gP gs).map .lst)],y2] C=some (.rf ((gs.flatMap prs).map twV),C):=by
  have hv:mValsI 4e3 [#[DD ls],#[.dtt ks ((gP gs).map .lst)],y2] C=some ((gP gs).map .lst,C):=rfl
  have hs:stIn' 6e6 [] [#[DD ls],#[.dtt ks ((gP gs).map .lst)],y2]=[none,none,none,none]:=rfl
  unfold t2 mRetF mCompN
  simp only[bnd,hv,hs,e2,Pu.ret]
  rfl
 have run:B_twins [#[DD ls],none,none] C=some (.rf ((gs.flatMap prs).map twV),C):=by
  rw[twins_is,ZaA s1];exact s2
 unfold FF_twins
 generalize B_twins=bb at *
 generalize (gs.flatMap prs).map twV=R at *
 generalize DD ls=D at *
 simp[mDefF,run]
inductive Cm
 | tw (p:Lt×Lt)
 | cl (w:Bool) (l:Lt)
def Cm.P:Cm->PV
 | .tw p=>twV p
 | .cl w l=>clm (if w then "behind" else "ahead") l
def mkC (b a:Bool)(l:Lt):List Cm:=(if b then [.cl true l] else [])++(if a then [.cl false l] else [])
theorem mkC_P (b a:Bool)(l:Lt):mkL b a l=(mkC b a l).map Cm.P:=by
 cases b<;>cases a<;>rfl
theorem Zc0 (c:Cm):pur c.P=true:=by
 cases c with
 | tw p=>simp[Cm.P,twV,nmV,pur,purs,ZbB]
 | cl w l=>simp[Cm.P,clm,pur,purs,ZbB]
theorem dat_cm (c:Cm):dat c.P=true:=by
 cases c with
 | tw p=>simp[Cm.P,twV,nmV,dat,dats,Zb7]
 | cl w l=>simp[Cm.P,clm,dat,dats,Zb7]
theorem flat_cm (c:Cm):flat c.P=true:=by
 cases c with
 | tw p=>simp[Cm.P,twV,nmV,flat,flats,Zb4]
 | cl w l=>simp[Cm.P,clm,flat,flats,Zb4]
theorem dep_cm (c:Cm):dep c.P<=2:=by
 cases c with
 | tw p=>
  have h1:=Zb6 p.1.nm
  have h2:=Zb6 p.2.nm
  simp only[Cm.P,twV,nmV,dep,deps];lia
 | cl w l=>
  have h1:=Zb6 l.nm
  simp only[Cm.P,clm,dep,deps];lia
theorem Zbg {p q:PV}{ps qs:List PV}(h1:(ltD p q).isSome=true)(h2:eqD p q=true->(lexD ps qs).isSome=true):(lexD (p::ps) (q::qs)).isSome=true:=by
 unfold lexD
 split
 ·rename_i h;exact h2 h
 ·exact h1
theorem lt_nm (t u:Lt):(ltD (nmV t) (nmV u)).isSome=true:=by rw[ltD_nm];rfl
theorem lt_str (a b:Str):(ltD (.str a) (.str b)).isSome=true:=by unfold ltD;rfl
theorem lt_tup {ps qs:List PV}(h:(lexD ps qs).isSome=true):(ltD (.tup ps) (.tup qs)).isSome=true:=by unfold ltD;exact h
theorem lex_nil:(lexD [] []).isSome=true:=by unfold lexD;rfl
theorem ne_word {w:Bool}:eqD (.str "twin") (.str (if w then "behind" else "ahead"))=false/\eqD (.str (if w then "behind" else "ahead")) (.str "twin")=false:=by
 cases w<;>constructor<;>(unfold eqD;decide +kernel)
theorem lt_cm (c d:Cm):(ltD c.P d.P).isSome=true:=by
 cases c with
 | tw p=>
  cases d with
  | tw q=>exact lt_tup (Zbg (lt_str _ _) fun _=>Zbg (lt_nm _ _) fun _=>Zbg (lt_nm _ _) fun _=>lex_nil)
  | cl w l=>exact lt_tup (Zbg (lt_str _ _) fun h=>by rw[ne_word.1] at h;cases h)
 | cl v k=>
  cases d with
  | tw q=>exact lt_tup (Zbg (lt_str _ _) fun h=>by rw[ne_word.2] at h;cases h)
  | cl w l=>exact lt_tup (Zbg (lt_str _ _) fun _=>Zbg (lt_nm k l) fun _=>lex_nil)
theorem cmp_cm (cs:List Cm):cmpAll (cs.map Cm.P)=true:=all_map _ cs fun t=>all_map _ cs fun u=>lt_cm t u
theorem ZcZ (cs:List Cm):purs (cs.map Cm.P)=true:=Zcx (f:=Cm.P) Zc0 cs
theorem tup_cm (c:Cm):isTup c.P=true/\(fstK c.P==4)=true:=by cases c<;>exact ⟨rfl,rfl⟩
theorem sortP_cm (cs:List Cm)(h:cs.length < 64):sortP (cs.map Cm.P)=some (sortL (cs.map Cm.P)):=by
 have hd:deps (cs.map Cm.P)<=2:=Zbj (f:=Cm.P) dep_cm cs
 have hs:sortable (cs.map Cm.P)=true:=by
  unfold sortable;rw[all_map (fun p=>fstK p==4) cs fun t=>(tup_cm t).2];simp
 unfold sortP
 rw[if_pos]
 rw[ZbE (f:=Cm.P) dat_cm cs,hs,cmp_cm,Yf]
 simp[h];lia
theorem put_cm (as:List Cm)(c:Cm):∃as':List Cm,putN (as.map Cm.P) c.P=as'.map Cm.P/\((as.map Cm.P).Nodup->(as'.map Cm.P).Nodup)/\(∀x,x∈as'.map Cm.P↔x∈as.map Cm.P\/x=c.P)/\as'.length<=as.length + 1:=by
 unfold putN
 by_cases h:((as.map Cm.P).any fun q=>eqD q c.P)=true
 ·rw[if_pos h]
  refine ⟨as,rfl,id,fun x=>⟨.inl,fun z=>z.elim id fun e=>?_⟩,by lia⟩
  obtain ⟨q,hq,e2⟩:=XD.mp h
  obtain ⟨d,_,rfl⟩:=Yw.mp hq
  rw[e,←(ZaH d.P (Zc0 d) (Zc0 c)).mp e2];exact hq
 ·rw[if_neg h]
  refine ⟨as++[c],by simp,fun nd=>?_,fun x=>by simp,by simp⟩
  rw[YO,Xm]
  refine ⟨nd,by simp,fun a ha b hb e=>?_⟩
  have hb:b=c.P:=by simpa using hb
  subst hb e
  exact h (XD.mpr ⟨_,ha,Za3 (Zc0 c)⟩)
theorem ded_go:∀(cs as:List Cm),(as.map Cm.P).Nodup->∃rs:List Cm,(cs.map Cm.P).foldl putN (as.map Cm.P)=rs.map Cm.P/\(rs.map Cm.P).Nodup/\(∀x,x∈rs.map Cm.P↔x∈as.map Cm.P\/x∈cs.map Cm.P)/\rs.length<=as.length + cs.length
 | [],as,nd=>⟨as,rfl,nd,fun x=>by simp,by simp⟩
 | c::cs,as,nd=>by
  obtain ⟨as',e,n,m,l⟩:=put_cm as c
  obtain ⟨rs,e2,n2,m2,l2⟩:=ded_go cs as' (n nd)
  refine ⟨rs,?_,n2,fun x=>?_,by rw[YC];lia⟩
  ·rw[Ym,VI,e];exact e2
  ·rw[m2,m,Ym,Yl,or_assoc]
theorem inord_eq (cs:List Cm)(h:cs.length < 64):∃rs:List Cm,inOrdL (cs.map Cm.P)=some (rs.map Cm.P)/\(rs.map Cm.P).Nodup/\Rising (rs.map Cm.P)/\rs.length < 64/\∀x,x∈rs.map Cm.P↔x∈cs.map Cm.P:=by
 obtain ⟨ds,e,nd,mm,hl⟩:=ded_go cs [] 3e0
 have e:dedN (cs.map Cm.P)=ds.map Cm.P:=e
 have hl:ds.length<=cs.length:=by simpa using hl
 have pm:=Zbu (cmp_cm ds) (ZcZ ds)
 have ri:=Zbl (cmp_cm ds) (ZcZ ds)
 obtain ⟨rs,er,pr⟩:=of_perm Cm.P pm
 rw[er] at ri pm
 refine ⟨rs,?_,pm.nodup_iff.mpr nd,ri,by rw[pr.length_eq];lia,fun x=>?_⟩
 ·have hd:deps (cs.map Cm.P)<=2:=Zbj (f:=Cm.P) dep_cm cs
  unfold inOrdL
  rw[if_pos,e,sortP_cm ds 1e2,er]
  rw[ZcZ,all_map isTup cs fun t=>(tup_cm t).1,Yf]
  simp;lia
 ·rw[pm.mem_iff,mm];simp
def m1:PSt->M PF:=mSet 3 (mFn F_by_name (aCons 4e3 aNil))
def m2:PSt->M PF:=mNew 4 (mFnF FF_twins (aCons 9e1 aNil))
def m3:PSt->M PF:=mDrop (mExt (mVar 4) (aCons (mFn F_marks_of (aCons 9e1 (aCons (mVar 5) (aCons 6e9 (aCons (mOp 4e9 3e7 4e1) aNil))))) aNil))
def m4:PSt->M PF:=mRetF (mFnFS FF_in_order [] (aCons (mVar 4) aNil))
theorem marks_is:B_marks=mSeq m1 (mSeq m2 (mSeq (mFor (mValsI 9e1) (hName 5) m3) m4)):=rfl
theorem ext_c {C:Cs}{L qs:List PV}(h:L.length + qs.length < 100000):extC (.c C.length) [.v (.lst qs)] (C++[.lst L])=some (.v .non,C++[.lst (L++qs)]):=by
 unfold extC
 simp[h]
theorem isLst_c {C:Cs}{L:List PV}:isLst (.c C.length) (C++[.lst L])=some ((),C++[.lst L]):=by
 unfold isLst;simp
section
variable {ls:List Lt}{ck:4e2}{cv:List PV}(s:Int)(C:Cs)(y:PV)
def mf (ls:List Lt)(ck:4e2)(cv:List PV)(s:Int)(l:Lt):List Cm:=mkC (behB ls s l) (ahB ck cv s l) l
def MS (ls:List Lt)(ck:4e2)(cv:List PV)(s:Int)(n:Nat)(y q:PV)(x5:Option SV):PSt:=[#[.tup [.int s,y]],#[q],#[.dtt ck cv],#[DD ls],some (.c n),x5]
theorem m_loop (g:Good ls)(c:Com ck cv)(q:PV):∀(us:List Lt) (L:List PV) (x5:Option SV),(∀u∈us,u∈ls)->L.length + 2 * us.length<=1000->
  ∃y5,loop (hName 5) m3 (us.map Lt.P) (MS ls ck cv s C.length y q x5) (C++[.lst L])=some (.nx (MS ls ck cv s C.length y q y5),C++[.lst (L++(us.flatMap (mf ls ck cv s)).map Cm.P)])
 | [],L,x5,_,_=>⟨x5,by simp[loop,Pu.ret]⟩
 | u::us,L,x5,hu,hl=>by
  rw[YC] at hl
  have e1:=marks_of_eq g (hu u 8e0) c s (C++[.lst L])
  rw[mkC_P] at e1
  have hlen:((mkC (behB ls s u) (ahB ck cv s u) u).map Cm.P).length<=2:=by
   rw[Yf];unfold mkC;split<;>split<;>simp
  have e2:=ext_c (C:=C) (L:=L) (qs:=(mkC (behB ls s u) (ahB ck cv s u) u).map Cm.P) 1e2
  obtain ⟨y5,e3⟩:=m_loop g c q us (L++(mkC (behB ls s u) (ahB ck cv s u) u).map Cm.P) #[u.P] (fun v hv=>hu v (.tail _ hv)) (by rw[Yu];lia)
  refine ⟨y5,?_⟩
  have hb:m3 (MS ls ck cv s C.length y q #[u.P]) (C++[.lst L])=some (.nx (MS ls ck cv s C.length y q #[u.P]),C++[.lst (L++(mkC (behB ls s u) (ahB ck cv s u) u).map Cm.P)]):=by
   unfold MS
   have e0:=isLst_c (C:=C) (L:=L)
   have e4:ixQ (.tup [.int s,y]) (.int 0)=some (.int s):=rfl
   generalize (mkC (behB ls s u) (ahB ck cv s u) u).map Cm.P=R at *
   generalize C++[.lst (L++R)]=C2 at *
   generalize C++[.lst L]=C1 at *
   generalize u.P=UP at *
   generalize DD ls=D at *
   generalize PV.dtt ck cv=E at *
   generalize PV.tup [.int s,y]=T at *
   simp![m3,mExt,e0,e1,e4,e2]
  rw[Ym]
  unfold loop
  have hh:hName 5 u.P (MS ls ck cv s C.length y q x5)=some (MS ls ck cv s C.length y q #[u.P]):=rfl
  simp only[hh,bnd,hb,e3]
  simp[mf]
theorem marks_eq (g:Good ls)(c:Com ck cv){b:Nat}(hb:Bd ls b)(hb3:b<=3)(hm:(ls.flatMap (mf ls ck cv s)).length<=20):∃(ts:List (Lt×Lt)) (rs:List Cm),FF_marks [.v (.tup [.int s,y]),.v (.lst (ls.map Lt.P)),.v (.dtt ck cv)] C=some (rs.map Cm.P,C)/\(rs.map Cm.P).Nodup/\Rising (rs.map Cm.P)/\(∀x,x∈rs.map Cm.P↔x∈ts.map twV\/x∈(ls.flatMap (mf ls ck cv s)).map Cm.P)/\(b<=1->ts=[])/\rs.length < 64:=by
 have hfew:=g.few
 have e1:=by_name_eq ls C 1e2
 obtain ⟨ts,e2,tl,t0⟩:=twins_eq g hb hb3 C
 have htw:ts.map twV=(ts.map Cm.tw).map Cm.P:=by rw[Y9];rfl
 rw[htw] at e2
 obtain ⟨rs,e4,nd,ri,hrl,mm⟩:=inord_eq (ts.map Cm.tw++ls.flatMap (mf ls ck cv s)) (by rw[Yu,Yf];lia)
 refine ⟨ts,rs,?_,nd,ri,fun x=>by rw[mm,YO,YU,htw],t0,hrl⟩
 obtain ⟨y5,e3⟩:=m_loop s C y g c (.lst (ls.map Lt.P)) ls ((ts.map Cm.tw).map Cm.P) none (fun _ h=>h) (by rw[Yf,Yf];lia)
 rw[←YO] at e3
 have s1:m1 [#[.tup [.int s,y]],#[.lst (ls.map Lt.P)],#[.dtt ck cv],none,none,none] C=some (.nx [#[.tup [.int s,y]],#[.lst (ls.map Lt.P)],#[.dtt ck cv],#[DD ls],none,none],C):=by
  have e1:F_by_name [.v (.lst (ls.map Lt.P))] C=some (.v (DD ls),C):=e1
  generalize ls.map Lt.P=LS at *
  generalize DD ls=D at *
  simp![m1,e1]
 have s2:m2 [#[.tup [.int s,y]],#[.lst (ls.map Lt.P)],#[.dtt ck cv],#[DD ls],none,none] C=some (.nx (MS ls ck cv s C.length y (.lst (ls.map Lt.P)) none),C++[.lst ((ts.map Cm.tw).map Cm.P)]):=by
  unfold MS
  generalize ls.map Lt.P=LS at *
  generalize DD ls=D at *
  generalize (ts.map Cm.tw).map Cm.P=TS at *
  simp![m2,mNew,e2]
 have s3:mFor (mValsI 9e1) (hName 5) m3 (MS ls ck cv s C.length y (.lst (ls.map Lt.P)) none) (C++[.lst ((ts.map Cm.tw).map Cm.P)])=some (.nx (MS ls ck cv s C.length y (.lst (ls.map Lt.P)) y5),C++[.lst ((ts.map Cm.tw++ls.flatMap (mf ls ck cv s)).map Cm.P)]):=by
  have hv:mValsI 9e1 (MS ls ck cv s C.length y (.lst (ls.map Lt.P)) none) (C++[.lst ((ts.map Cm.tw).map Cm.P)])=some (ls.map Lt.P,C++[.lst ((ts.map Cm.tw).map Cm.P)]):=by
   have:(dF ls).2=ls.map Lt.P:=by rw[dF_nd g.nd]
   rw[←this];rfl
  unfold mFor bnd
  rw[hv];exact e3
 have s4:m4 (MS ls ck cv s C.length y (.lst (ls.map Lt.P)) y5) (C++[.lst ((ts.map Cm.tw++ls.flatMap (mf ls ck cv s)).map Cm.P)])=some (.rf (rs.map Cm.P),C++[.lst ((ts.map Cm.tw++ls.flatMap (mf ls ck cv s)).map Cm.P)]):=by
  have hf:flats (rs.map Cm.P)=true:=Zbc (f:=Cm.P) flat_cm rs
  have hF:FF_in_order [.v (.lst ((ts.map Cm.tw++ls.flatMap (mf ls ck cv s)).map Cm.P))] []=some (rs.map Cm.P,[]):=by
   generalize (ts.map Cm.tw++ls.flatMap (mf ls ck cv s)).map Cm.P=L at *
   generalize rs.map Cm.P=R at *
   simp![FF_in_order,mDefF,mInOrd,inOrdH,e4]
  generalize (ts.map Cm.tw++ls.flatMap (mf ls ck cv s)).map Cm.P=L at *
  generalize rs.map Cm.P=R at *
  unfold MS
  simp![m4,mFnFS,pickK,smallX,smallC,hF,hf,backC]
 have run:B_marks [#[.tup [.int s,y]],#[.lst (ls.map Lt.P)],#[.dtt ck cv],none,none,none] C=some (.rf (rs.map Cm.P),C++[.lst ((ts.map Cm.tw++ls.flatMap (mf ls ck cv s)).map Cm.P)]):=by
  rw[marks_is,ZaA s1,ZaA s2,ZaA s3];exact s4
 unfold FF_marks
 generalize B_marks=bb at *
 generalize (ts.map Cm.tw++ls.flatMap (mf ls ck cv s)).map Cm.P=L at *
 generalize rs.map Cm.P=R at *
 generalize ls.map Lt.P=LS at *
 simp[mDefF,run]
end
structure Rc where
 w:Str
 t:Int
 gots:List (Lt×Bool)
 gs:List (List Key)
 came:Option Int
section
variable (a b:Str)(s:Int)
def note:List Key:=[.inr "note"]
def Rc.main (r:Rc):Lt:=⟨a,r.w,4,0,r.gs,r.t,note⟩
def Rc.gl (r:Rc):List Lt:=(r.gots.filter (·.2)).map (·.1)
def Rc.ls (r:Rc):List Lt:=r.gl++[r.main a]
def Rc.beh (r:Rc):Bool:=r.gots.any fun p=>p.2&&decide (p.1.h="bell")&&decide (r.t + s < p.1.t)
def Rc.ahd (r:Rc):Bool:=match r.came with
 | some c=>decide (c + s < r.t)
 | none=>false
def Rc.due (r:Rc):List Cm:=mkC (r.beh s) (r.ahd s) (r.main a)
structure GotOk (r:Rc)(g:Lt):Prop where
 d:g.d=r.w
 h:g.h="bell"\/g.h=b
 n:1<=g.n/\g.n<=3
 pv:g.pv=0
 gs:g.gs=[]
structure Rc.Ok (r:Rc):Prop where
 got:∀p∈r.gots,GotOk b r p.1
 nd:(r.gots.map fun p=>p.1.n).Nodup
 few:r.gots.length<=3
 gs:r.gs.Perm (r.gots.map fun p=>p.1.nm)
 len:r.w.length<=10
structure Rs (rs:List Rc):Prop where
 ok:∀r∈rs,r.Ok b
 nd:(rs.map Rc.w).Nodup
 few:rs.length<=9
 a1:a.length<=10
 b1:b.length<=10
 ab:a≠b
 a4:a≠"bell"
def lsR (rs:List Rc):List Lt:=rs.flatMap (Rc.ls a)
def ckR (rs:List Rc):List (List Key):=(rs.filter fun r=>r.came.isSome).map fun r=>(r.main a).nm
def cvR (rs:List Rc):List PV:=(rs.filter fun r=>r.came.isSome).map fun r=>.int (r.came.getD 0)
end
section
variable {a b:Str}{s:Int}
theorem ZdA {r:Rc}{l:Lt}(h:l∈r.ls a):(∃p∈r.gots,p.2=true/\l=p.1)\/l=r.main a:=by
 rcases YU.mp h with h | h
 ·obtain ⟨p,hp,e⟩:=Yw.mp h
  obtain ⟨h1,h2⟩:=X0.mp hp
  exact .inl ⟨p,h1,h2,e.symm⟩
 ·exact .inr (Yk.mp h)
theorem got_in {r:Rc}{p:Lt×Bool}(h:p∈r.gots)(h2:p.2=true):p.1∈r.ls a:=YY _ (Y6 (X0.mpr ⟨h,h2⟩))
theorem main_in (r:Rc):r.main a∈r.ls a:=Yg _ (Yk.mpr rfl)
theorem ls_d {r:Rc}(o:r.Ok b){l:Lt}(h:l∈r.ls a):l.d=r.w:=by
 rcases ZdA h with ⟨p,hp,_,rfl⟩ | rfl
 ·exact (o.got p hp).d
 ·rfl
theorem nm_d {l m:Lt}(e:l.nm=m.nm):l.h=m.h/\l.d=m.d/\l.n=m.n:=by
 unfold Lt.nm at e
 simp only[W9,Sum.inr.injEq,Sum.inl.injEq,and_true] at e
 exact e
theorem nm_of {l m:Lt}(h:l.h=m.h)(d:l.d=m.d)(n:l.n=m.n):l.nm=m.nm:=by unfold Lt.nm;rw[h,d,n]
theorem got_uq {r:Rc}(o:r.Ok b){p q:Lt×Bool}(hp:p∈r.gots)(hq:q∈r.gots)(e:p.1.n=q.1.n):p=q:=by
 have:∀{l:List (Lt×Bool)},(l.map fun p=>p.1.n).Nodup->p∈l->q∈l->p=q:=by
  intro l
  induction l with
  | nil=>intro _ h;cases h
  | cons x l ih=>
   intro nd h1 h2
   rw[Ym,Xc] at nd
   rcases Yl.mp h1 with rfl | h1'
   ·rcases Yl.mp h2 with rfl | h2'
    ·rfl
    ·exact absurd (e ▸ Y6 (f:=fun p:Lt×Bool=>p.1.n) h2') nd.1
   ·rcases Yl.mp h2 with rfl | h2'
    ·exact absurd (e ▸ Y6 (f:=fun p:Lt×Bool=>p.1.n) h1') nd.1
    ·exact ih nd.2 h1' h2'
 exact this o.nd hp hq
theorem w_uq {rs:List Rc}(nd:(rs.map Rc.w).Nodup){r q:Rc}(hr:r∈rs)(hq:q∈rs)(e:r.w=q.w):r=q:=by
 induction rs with
 | nil=>cases hr
 | cons x l ih=>
  rw[Ym,Xc] at nd
  rcases Yl.mp hr with rfl | h1'
  ·rcases Yl.mp hq with rfl | h2'
   ·rfl
   ·exact absurd (e ▸ Y6 h2') nd.1
  ·rcases Yl.mp hq with rfl | h2'
   ·exact absurd (e ▸ Y6 h1') nd.1
   ·exact ih nd.2 h1' h2'
theorem Rs.of_nm {rs:List Rc}(R:Rs a b rs){r:Rc}(hr:r∈rs){m l:Lt}(hm:m∈lsR a rs)(hd:l.d=r.w)(e:m.nm=l.nm):m∈r.ls a:=by
 obtain ⟨q,hq,h⟩:=XR.mp hm
 have:q.w=r.w:=by rw[←ls_d (R.ok q hq) h,←hd];exact (nm_d e).2.1
 rw[←w_uq R.nd hq hr this];exact h
theorem Rs.of_got {rs:List Rc}(R:Rs a b rs){r:Rc}(hr:r∈rs){p:Lt×Bool}(hp:p∈r.gots){m:Lt}(hm:m∈lsR a rs)(e:m.nm=p.1.nm):p.2=true/\m=p.1:=by
 have o:=R.ok r hr
 have hg:=o.got p hp
 rcases ZdA (R.of_nm hr hm hg.d e) with ⟨q,hq,h2,rfl⟩ | rfl
 ·have:=got_uq o hq hp (nm_d e).2.2
  subst this;exact ⟨h2,rfl⟩
 ·have h1:=(nm_d e).2.2
  have h2:=hg.n
  have h3:(4:Int)=p.1.n:=h1
  lia
theorem ls_nd {r:Rc}(o:r.Ok b):((r.ls a).map Lt.nm).Nodup:=by
 unfold Rc.ls Rc.gl
 rw[YO,Xm]
 refine ⟨?_,by simp,fun x hx y hy e=>?_⟩
 ·rw[Y9]
  have hs:((r.gots.filter (·.2)).map fun p=>p.1.n).Sublist (r.gots.map fun p=>p.1.n):=(List.filter_sublist).map _
  have:=List.Nodup.sublist hs o.nd
  rw[Y0,Xy] at this ⊢
  exact this.imp fun {p q} h z=>h (nm_d z).2.2
 ·obtain ⟨l,hl,rfl⟩:=Yw.mp hx
  obtain ⟨p,hp,rfl⟩:=Yw.mp hl
  have hy:y=(r.main a).nm:=by simpa using hy
  subst hy
  have h1:=(nm_d e).2.2
  have h2:=(o.got p (X0.mp hp).1).n
  have h3:p.1.n=(4:Int):=h1
  lia
theorem len_ls {r:Rc}(o:r.Ok b):(r.ls a).length<=4:=by
 unfold Rc.ls Rc.gl
 have:=o.few
 have h2:=Wr (fun p:Lt×Bool=>p.2) r.gots
 simp;lia
theorem ZdD {α β:Type}{f:α->List β}{n:Nat}:∀{l:List α},(∀x∈l,(f x).length<=n)->(l.flatMap f).length<=n * l.length
 | [],_=>by simp
 | x::l,h=>by
  have h1:=h x 8e0
  have h2:=ZdD (f:=f) (n:=n) (l:=l) fun y hy=>h y (.tail _ hy)
  rw[Wc,Yu,YC,Nat.mul_add];lia
theorem Rs.good {rs:List Rc}(R:Rs a b rs):Good (lsR a rs):=by
 refine ⟨?_,fun l hl=>?_,fun l hl=>?_,fun l hl=>?_,?_⟩
 ·unfold lsR
  rw[List.map_flatMap,Y0,List.pairwise_flatMap]
  refine ⟨fun r hr=>ls_nd (R.ok r hr),?_⟩
  have:=R.nd
  rw[Y0,Xy] at this
  refine this.imp_of_mem fun {r q} hr hq h x hx y hy e=>?_
  obtain ⟨l,hl,rfl⟩:=Yw.mp hx
  obtain ⟨m,hm,rfl⟩:=Yw.mp hy
  exact h (by rw[←ls_d (R.ok r hr) hl,←ls_d (R.ok q hq) hm];exact (nm_d e).2.1)
 ·obtain ⟨r,hr,h⟩:=XR.mp hl
  rcases ZdA h with ⟨p,hp,_,rfl⟩ | rfl
  ·have:=(R.ok r hr).got p hp;exact ⟨this.pv,this.n.1⟩
  ·exact ⟨rfl,by show (1:Int)<=4;decide⟩
 ·obtain ⟨r,hr,h⟩:=XR.mp hl
  have o:=R.ok r hr
  rcases ZdA h with ⟨p,hp,_,rfl⟩ | rfl
  ·have g:=o.got p hp
   refine ⟨?_,by rw[g.d];exact o.len⟩
   rcases g.h with e | e
   ·rw[e];decide
   ·rw[e];exact R.b1
  ·exact ⟨R.a1,o.len⟩
 ·obtain ⟨r,hr,h⟩:=XR.mp hl
  have o:=R.ok r hr
  rcases ZdA h with ⟨p,hp,_,rfl⟩ | rfl
  ·rw[(o.got p hp).gs];simp
  ·refine ⟨?_,fun q hq=>?_⟩
   ·show r.gs.length<=3
    rw[o.gs.length_eq,Yf];exact o.few
   ·obtain ⟨p,_,e⟩:=Yw.mp (o.gs.mem_iff.mp hq)
    exact ⟨p.1,e.symm⟩
 ·have:=ZdD (f:=Rc.ls a) (n:=4) (l:=rs) fun r hr=>len_ls (R.ok r hr)
  have h2:=R.few
  unfold lsR;lia
theorem Rs.look_got {rs:List Rc}(R:Rs a b rs){r:Rc}(hr:r∈rs){p:Lt×Bool}(hp:p∈r.gots):inK p.1.nm (dF (lsR a rs)).1=p.2/\(p.2=true->tOf (lsR a rs) p.1.nm=p.1.t):=by
 have hd:=dF_nd R.good.nd
 have hi:p.1.nm∈(lsR a rs).map Lt.nm↔p.2=true:=by
  constructor
  ·intro h
   obtain ⟨m,hm,e⟩:=Yw.mp h
   exact (R.of_got hr hp hm e).1
  ·intro h
   exact Y6 (XR.mpr ⟨r,hr,got_in hp h⟩)
 refine ⟨?_,fun h=>?_⟩
 ·rw[hd]
  show inK p.1.nm ((lsR a rs).map Lt.nm)=p.2
  cases e:p.2 with
  | true=>exact Zbp.mpr (hi.mpr e)
  | false=>
   cases e2:inK p.1.nm ((lsR a rs).map Lt.nm) with
   | false=>rfl
   | true=>have:=hi.mp (Zbp.mp e2);rw[e] at this;cases this
 ·unfold tOf
  cases e:look (lsR a rs) p.1.nm with
  | none=>exact absurd rfl (Zbo e p.1 (XR.mpr ⟨r,hr,got_in hp h⟩))
  | some m=>
   obtain ⟨h1,h2⟩:=Zbb e
   show m.t=p.1.t
   rw[(R.of_got hr hp h1 h2).2]
theorem any_perm {α:Type}{l m:List α}(h:l.Perm m)(f:α->Bool):l.any f=m.any f:=by
 cases e:m.any f with
 | true=>obtain ⟨x,hx,q⟩:=XD.mp e;exact XD.mpr ⟨x,h.mem_iff.mpr hx,q⟩
 | false=>
  cases e2:l.any f with
  | false=>rfl
  | true=>
   obtain ⟨x,hx,q⟩:=XD.mp e2
   rw[XD.mpr ⟨x,h.mem_iff.mp hx,q⟩] at e;cases e
theorem ZdL {α:Type}{f g:α->Bool}:∀{l:List α},(∀x∈l,f x=g x)->l.any f=l.any g
 | [],_=>rfl
 | x::l,h=>by rw[Xg,Xg,h x 8e0,ZdL fun y hy=>h y (.tail _ hy)]
theorem Rs.beh_main {rs:List Rc}(R:Rs a b rs){r:Rc}(hr:r∈rs):behB (lsR a rs) s (r.main a)=r.beh s:=by
 have o:=R.ok r hr
 unfold behB Rc.beh
 rw[List.any_filter]
 show (r.gs.any fun q=>(inK q (dF (lsR a rs)).1&&isBell q)&&decide (r.t + s < tOf (lsR a rs) q))=_
 rw[any_perm o.gs,List.any_map]
 refine ZdL fun p hp=>?_
 obtain ⟨h1,h2⟩:=R.look_got hr hp
 show ((inK p.1.nm (dF (lsR a rs)).1&&isBell p.1.nm)&&decide (r.t + s < tOf (lsR a rs) p.1.nm))=_
 rw[h1,show isBell p.1.nm=decide (p.1.h="bell") from rfl]
 cases e:p.2 with
 | false=>rfl
 | true=>rw[h2 e]
theorem beh_nil {ls:List Lt}{l:Lt}(h:l.gs=[]):behB ls s l=false:=by unfold behB;rw[h];rfl
theorem com_ok (rs:List Rc):Com (ckR a rs) (cvR rs):=⟨by unfold ckR cvR;simp,fun v hv=>by
 obtain ⟨r,_,rfl⟩:=Yw.mp hv;exact ⟨_,rfl⟩⟩
theorem look_ck {q:5e6}:∀(rs:List Rc),(∀r∈rs,¬(r.came.isSome=true/\(r.main a).nm=q))->lookT (ckR a rs) (cvR rs) q=none
 | [],_=>rfl
 | r::rs,h=>by
  have ih:=look_ck rs fun x hx=>h x (.tail _ hx)
  have h0:=h r 8e0
  unfold ckR cvR at ih ⊢
  rw[Xx]
  split
  ·rename_i hs
   rw[Ym,Ym]
   unfold lookT
   rw[if_neg fun z=>h0 ⟨hs,z⟩];exact ih
  ·exact ih
theorem look_ck2:∀{rs:List Rc} {r:Rc},r∈rs->(rs.map Rc.w).Nodup->r.came.isSome=true->lookT (ckR a rs) (cvR rs) (r.main a).nm=some (.int (r.came.getD 0))/\inK (r.main a).nm (ckR a rs)=true
 | x::rs,r,hr,nd,hc=>by
  rw[Ym,Xc] at nd
  rcases Yl.mp hr with rfl | hr'
  ·have e1:ckR a (r::rs)=(r.main a).nm::ckR a rs:=by unfold ckR;rw[Xx,if_pos hc];rfl
   have e2:cvR (r::rs)=.int (r.came.getD 0)::cvR rs:=by unfold cvR;rw[Xx,if_pos hc];rfl
   rw[e1,e2]
   refine ⟨?_,?_⟩
   ·unfold lookT;rw[if_pos rfl]
   ·unfold inK;rw[Xg,decide_eq_true rfl];rfl
  ·have ih:=look_ck2 hr' nd.2 hc
   have hne:¬(x.main a).nm=(r.main a).nm:=fun z=>nd.1 (by
    rw[show x.w=r.w from (nm_d z).2.1];exact Y6 hr')
   cases hx:x.came.isSome with
   | true=>
    have e1:ckR a (x::rs)=(x.main a).nm::ckR a rs:=by unfold ckR;rw[Xx,if_pos hx];rfl
    have e2:cvR (x::rs)=.int (x.came.getD 0)::cvR rs:=by unfold cvR;rw[Xx,if_pos hx];rfl
    rw[e1,e2]
    refine ⟨?_,?_⟩
    ·unfold lookT;rw[if_neg hne];exact ih.1
    ·have h2:=ih.2
     unfold inK at h2 ⊢;rw[Xg,h2,Yam]
   | false=>
    have e1:ckR a (x::rs)=ckR a rs:=by unfold ckR;rw[Xx,if_neg (by rw[hx];decide)]
    have e2:cvR (x::rs)=cvR rs:=by unfold cvR;rw[Xx,if_neg (by rw[hx];decide)]
    rw[e1,e2];exact ih
theorem Rs.ah_main {rs:List Rc}(R:Rs a b rs){r:Rc}(hr:r∈rs):ahB (ckR a rs) (cvR rs) s (r.main a)=r.ahd s:=by
 unfold ahB Rc.ahd
 cases hc:r.came with
 | none=>
  rw[look_ck rs fun q hq z=>by
   have:q=r:=w_uq R.nd hq hr (nm_d z.2).2.1
   rw[this,hc] at z;cases z.1]
 | some c=>
  obtain ⟨e1,e2⟩:=look_ck2 (a:=a) hr R.nd (by rw[hc];rfl)
  rw[e1,e2,hc];rfl
theorem ah_got {rs:List Rc}{l:Lt}(h:l.n<=3):ahB (ckR a rs) (cvR rs) s l=false:=by
 unfold ahB
 rw[look_ck rs fun q hq z=>by
  have h1:=(nm_d z.2).2.2
  have h3:(4:Int)=l.n:=h1
  lia]
theorem fm_congr {α β:Type}{f g:α->List β}:∀{l:List α},(∀x∈l,f x=g x)->l.flatMap f=l.flatMap g
 | [],_=>rfl
 | x::l,h=>by rw[Wc,Wc,h x 8e0,fm_congr fun y hy=>h y (.tail _ hy)]
theorem Rs.all_due {rs:List Rc}(R:Rs a b rs):(lsR a rs).flatMap (mf (lsR a rs) (ckR a rs) (cvR rs) s)=rs.flatMap 8e3:=by
 generalize hm:mf (lsR a rs) (ckR a rs) (cvR rs) s=f
 unfold lsR
 rw[List.flatMap_assoc]
 refine fm_congr fun r hr=>?_
 have o:=R.ok r hr
 unfold Rc.ls
 rw[List.flatMap_append]
 have h1:r.gl.flatMap f=[]:=List.flatMap_eq_nil_iff.mpr fun l hl=>by
  obtain ⟨p,hp,rfl⟩:=Yw.mp hl
  have g:=o.got p (X0.mp hp).1
  subst hm
  unfold mf
  rw[beh_nil g.gs,ah_got g.n.2];rfl
 rw[h1,WF]
 show f (r.main a)++[]=_
 rw[YL]
 subst hm
 unfold mf Rc.due
 rw[R.beh_main hr,R.ah_main hr]
theorem len_due (r:Rc):(r.due a s).length<=2:=by
 unfold Rc.due mkC;split<;>split<;>simp
theorem n_nd {g:List Lt}(nd:(g.map Lt.nm).Nodup)(h:∀x∈g,∀y∈g,x.fo=y.fo):(g.map Lt.n).Nodup:=by
 rw[Y0,Xy] at nd ⊢
 refine nd.imp_of_mem fun {x y} hx hy hne e=>hne ?_
 have hf:=h x hx y hy
 unfold Lt.fo at hf
 simp only[W9,Sum.inr.injEq,Sum.inl.injEq,and_true] at hf
 exact nm_of hf.1 hf.2.1 e
theorem Rs.bd {rs:List Rc}(R:Rs a b rs):Bd (lsR a rs) 3:=by
 intro g nd sub same
 have hn:=n_nd nd same
 cases g with
 | nil=>simp
 | cons x g=>
  have hx:∀y∈x::g,y.h=x.h:=fun y hy=>by
   have hf:=same y hy x 8e0
   unfold Lt.fo at hf
   simp only[W9,Sum.inr.injEq,Sum.inl.injEq,and_true] at hf
   exact hf.1
  have cls:∀y∈x::g,(y.h=a/\y.n=4)\/(y.h≠a/\1<=y.n/\y.n<=3):=fun y hy=>by
   obtain ⟨r,hr,h⟩:=XR.mp (sub y hy)
   rcases ZdA h with ⟨p,hp,_,rfl⟩ | rfl
   ·have o:=(R.ok r hr).got p hp
    refine .inr ⟨?_,o.n⟩
    rcases o.h with e | e
    ·rw[e];exact fun z=>R.a4 z.symm
    ·rw[e];exact fun z=>R.ab z.symm
   ·exact .inl ⟨rfl,rfl⟩
  by_cases hxa:x.h=a
  ·have:=Zc5 (b:=[(4:Int)]) hn fun z hz=>by
    obtain ⟨y,hy,rfl⟩:=Yw.mp hz
    rcases cls y hy with q | q
    ·simp[q.2]
    ·exact absurd ((hx y hy).trans hxa) q.1
   rw[Yf] at this
   exact YQ this 1e4
  ·have:=Zc5 (b:=[(1:Int),2,3]) hn fun z hz=>by
    obtain ⟨y,hy,rfl⟩:=Yw.mp hz
    rcases cls y hy with q | q
    ·exact absurd ((hx y hy).symm.trans q.1) hxa
    ·have:y.n=1\/y.n=2\/y.n=3:=by lia
     simpa using this
   rw[Yf] at this
   simpa using this
def mains (a:Str)(rs:List Rc):List Lt:=rs.map (Rc.main a)
theorem mains_in {rs:List Rc}{l:Lt}(h:l∈mains a rs):l∈lsR a rs:=by
 obtain ⟨r,hr,rfl⟩:=Yw.mp h
 exact XR.mpr ⟨r,hr,main_in r⟩
theorem Rs.good2 {rs:List Rc}(R:Rs a b rs):Good (mains a rs):=by
 have g:=R.good
 refine ⟨?_,fun l hl=>g.pv l (mains_in hl),fun l hl=>g.ln l (mains_in hl),fun l hl=>g.gs l (mains_in hl),?_⟩
 ·unfold mains
  rw[Y9]
  have:=R.nd
  rw[Y0,Xy] at this ⊢
  exact this.imp fun {r q} h e=>h (nm_d (l:=r.main a) (m:=q.main a) e).2.1
 ·unfold mains;rw[Yf];have:=R.few;lia
theorem bd2 (rs:List Rc):Bd (mains a rs) 1:=by
 intro g nd sub same
 have hn:=n_nd nd same
 have:=Zc5 (b:=[(4:Int)]) hn fun z hz=>by
  obtain ⟨y,hy,rfl⟩:=Yw.mp hz
  obtain ⟨r,hr,rfl⟩:=Yw.mp (sub y hy)
  simp[Rc.main]
 rw[Yf] at this
 simpa using this
theorem Rs.none2 {rs:List Rc}(R:Rs a b rs):(mains a rs).flatMap (mf (mains a rs) [] [] s)=[]:=by
 refine List.flatMap_eq_nil_iff.mpr fun l hl=>?_
 obtain ⟨r,hr,rfl⟩:=Yw.mp hl
 have o:=R.ok r hr
 have hb:behB (mains a rs) s (r.main a)=false:=by
  unfold behB
  have:((r.main a).gs.filter fun q=>inK q (dF (mains a rs)).1&&isBell q)=[]:=by
   rw[List.filter_eq_nil_iff]
   intro q hq
   obtain ⟨p,hp,rfl⟩:=Yw.mp (o.gs.mem_iff.mp hq)
   rw[dF_nd R.good2.nd]
   show ¬(inK p.1.nm ((mains a rs).map Lt.nm)&&isBell p.1.nm)=true
   intro z
   rw[Yp] at z
   obtain ⟨m,hm,e⟩:=Yw.mp (Zbp.mp z.1)
   obtain ⟨q,hq',rfl⟩:=Yw.mp hm
   have h1:(4:Int)=p.1.n:=(nm_d e).2.2
   have h2:=(o.got p hp).n
   lia
  rw[this];rfl
 unfold mf
 rw[hb]
 rfl
end
theorem ix_mem (L:List PV)(d:Int)(h1:0<=d)(h2:d < L.length):∃p∈L,ixQ (.lst L) (.int d)=some p:=by
 have hd:d.toNat < L.length:=by lia
 refine ⟨L[d.toNat],XQ hd,?_⟩
 simp[ixQ,ixP,atI,ixN,h1,h2,Yd hd]
def wk:PSt->M SV:=mOp 4e9 6e9 (mVar 7)
def wa:PSt->M SV:=mOp 4e9 6e9 (mC (.int 10))
def pk (m:Int):PSt->M SV:=mFn F_l_pick (aCons 4e3 (aCons (mC (.int m)) aNil))
def bhV:PSt->M SV:=mTup (aCons (mC (.str "behind")) (aCons (mTup (aCons wa (aCons wk (aCons (mC (.int 4)) aNil)))) aNil))
def e1:PSt->M PF:=mSet 11 (mOp 4e9 (mVal (mLst (aCons (mC (.str "bell")) (aCons (mOp 4e9 6e9 (mC (.int 11))) aNil)))) (mCB (g1 intH) (aCons (mOp (g2 (deepP eqD)) (pk 3) 4e1) aNil)))
def e2:PSt->M PF:=mSet 12 (mCB (g1 maxH) (aCons 4e1 (aCons (mOp 8e1 (mOp 8e1 (mVar 8) 9e1) (mOp 4e9 (mVal (mLst (aCons 4e1 (aCons 5e7 (aCons (mNeg 5e7) (aCons (mC (.int 2)) aNil)))))) (pk 4))) aNil)))
def e3:PSt->M PF:=mSet 13 (mTup (aCons (mVar 11) (aCons wk (aCons (mOp 8e1 5e7 (mVar 10)) aNil))))
def e4:PSt->M PF:=mDrop (mApp (mVar 9) (aCons (mVar 13) aNil))
def eL:PSt->M SV:=mOp 8e1 (mVar 13) (mTup (aCons 4e1 (aCons (mTup aNil) (aCons (mVar 12) (aCons (mTup (aCons (mC (.str "note")) aNil)) aNil)))))
def e6:PSt->M PF:=mDrop (mApp (mVar 4) (aCons eL aNil))
def c1:PSt->M Bool:=mTest (mOp (g2 (deepP eqD)) (mVar 11) (mC (.str "bell")))
def c2:PSt->M Bool:=mTest (mOp (g2 gtP) (mVar 12) (mOp 8e1 (mVar 8) 9e1))
def c3:PSt->M Bool:=mTest (mOp (g2 (inDP true)) bhV (mVar 6))
def e8:PSt->M PF:=mDrop (mApp (mVar 6) (aCons bhV aNil))
def e7:PSt->M PF:=mIfS (mAndT c1 (mAndT c2 c3)) e8 mSkip
def c5:PSt->M Bool:=mTest (mOp (g2 gtP) (pk 5) 4e1)
def e5:PSt->M PF:=mIfS c5 (mSeq e6 e7) mSkip
def eb:PSt->M PF:=mSeq e1 (mSeq e2 (mSeq e3 (mSeq e4 e5)))
def IS (NS WS:PV)(s k t:Int)(n:Nat)(x10 x11 x12 x13 x14 x15 x16:Option SV):PSt:=[#[NS],some (.c 0),#[WS],#[.int s],some (.c 1),some (.c 2),some (.c 3),#[.int k],#[.int t],some (.c n),x10,x11,x12,x13,x14,x15,x16]
def behG (t s:Int)(G:List (Lt×Bool)):Bool:=G.any fun p=>p.2&&decide (p.1.h="bell")&&decide (t + s < p.1.t)
def bV (a w:Str):PV:=.tup [.str "behind",.tup [.str a,.str w,.int 4]]
def glG (G:List (Lt×Bool)):List Lt:=(G.filter (·.2)).map (·.1)
structure IV (a b w:Str)(s t:Int)(rs:List Rc)(n:Nat)(G:List (Lt×Bool))(C:Cs):Prop where
 gs:GS C 0
 c1:C[1]? = some (.lst ((lsR a rs++glG G).map Lt.P))
 c2:C[2]? = some (.dtt (ckR a rs) (cvR rs))
 c3:C[3]? = some (.lst ((rs.flatMap 8e3).map Cm.P++(if behG t s G then [bV a w] else [])))
 cn:C[n]? = some (.lst (G.map fun p=>nmV p.1))
 hn:4<=n
 got:∀p∈G,GotOk b ⟨w,t,G,[],none⟩ p.1
 nr:G.map (fun p=>p.1.n)=(YW G.length).map fun (j:Nat)=>(1 + (j:Int))
 few:G.length<=3
theorem IV.adv {a b w:Str}{s t:Int}{rs:List Rc}{n:Nat}{G:List (Lt×Bool)}{C C':Cs}(v:IV a b w s t rs n G C)(A:Adv 0 C C'):IV a b w s t rs n G C':=
 have h:=v.hn
 ⟨A.gs,by rw[A.oth 1 1e4];exact v.c1,by rw[A.oth 2 1e4];exact v.c2,by rw[A.oth 3 1e4];exact v.c3,by rw[A.oth n 1e2];exact v.cn,v.hn,v.got,v.nr,v.few⟩
theorem app_ok {fo f:2e4}{ρ:PSt}{C:Cs}{n:Nat}{p:PV}{ps:List PV}(ho:fo ρ C=some (.c n,C))(hf:f ρ C=some (.v p,C))(hc:C[n]? = some 6e8)(hl:ps.length < 100000):mDrop (mApp fo (aCons f aNil)) ρ C=some (.nx ρ,C.set n (.lst (ps++[p]))):=by
 simp[mDrop,mApp,bnd,ho,isLst,hc,aCons,aNil,hf,Pu.ret,appC,hl]
theorem and_t {f g:3e8}{ρ:PSt}{C:Cs}{x y:Bool}(h1:f ρ C=some (x,C))(h2:g ρ C=some (y,C)):mAndT f g ρ C=some (x&&y,C):=by
 unfold mAndT bnd
 rw[h1]
 cases x with
 | false=>rfl
 | true=>exact h2
theorem ZdI {C:Cs}{n:Nat}{v:PV}(h:GS C 0)(hn:n≠0):GS (C.set n v) 0:=by
 obtain ⟨x,y,e,r⟩:=h
 exact ⟨x,y,by rw[YA hn];exact e,r⟩
section
variable {NS WS:PV}{s k t:Int}{n:Nat}{a b w:Str}
theorem Zds (m:Int)(hm:0 < m/\m < 1000)(ρ:PSt)(h1:ρ[1]? = some (some (.c 0)))(C:Cs)(g:GS C 0):∃d C',pk m ρ C=some (.v (.int d),C')/\0<=d/\d < m/\Adv 0 C C':=by
 obtain ⟨d,C',e,r⟩:=pick_adv 0 m C g ⟨hm.1,by lia⟩
 refine ⟨d,C',?_,r⟩
 have hv:mVar 1 ρ C=some (.c 0,C):=by unfold mVar;rw[h1]
 simp[pk,mFn,bnd,aCons,aNil,hv,mC,Pu.ret,e]
theorem e1_ok (hb:ixQ WS (.int 11)=some (.str b))(x10 x11 x12 x13 x14 x15 x16:Option SV)(C:Cs)(g:GS C 0):∃h C',e1 3e6 C=some (.nx (IS NS WS s k t n x10 #[.str h] x12 x13 x14 x15 x16),C')/\(h="bell"\/h=b)/\Adv 0 C C':=by
 obtain ⟨d,C1,p1,h1,h2,A⟩:=Zds 3 1e4 3e6 rfl C g
 have hd:deepP eqD (.int d) (.int 0)=some (.bl (decide (d=0))):=by
  unfold deepP eqD
  simp[dat,dep]
  rw[X3];simp
 unfold IS at *
 generalize hbe:("bell":Str)=be at *
 by_cases q:d=0
 ·subst q
  refine ⟨b,C1,?_,.inr rfl,A⟩
  have hd:deepP eqD (.int 0) (.int 0)=some (.bl true):=hd
  have hx:ixQ (.lst [.str be,.str b]) (.int 1)=some (.str b):=by simp[ixQ,ixP,atI,ixN]
  unfold e1
  rw[hbe]
  simp![hb,p1,hd,intH,hx]
 ·refine ⟨be,C1,?_,.inl rfl,A⟩
  rw[decide_eq_false q] at hd
  have hx:ixQ (.lst [.str be,.str b]) (.int 0)=some (.str be):=by simp[ixQ,ixP,atI,ixN]
  unfold e1
  rw[hbe]
  simp![hb,p1,hd,intH,hx]
theorem e2_ok (x10 x11 x12 x13 x14 x15 x16:Option SV)(C:Cs)(g:GS C 0):∃(tm:Int) (C':Cs),e2 3e6 C=some (.nx (IS NS WS s k t n x10 x11 #[.int tm] x13 x14 x15 x16),C')/\Adv 0 C C':=by
 obtain ⟨d,C1,p1,h1,h2,A⟩:=Zds 4 1e4 3e6 rfl C g
 obtain ⟨p,hp,ex⟩:=ix_mem [.int 0,.int 1,.int (-1),.int 2] d h1 (by simpa using h2)
 obtain ⟨z,rfl⟩:∃z:Int,p=.int z:=by
  simp only[Yl,Xp,or_false] at hp
  rcases hp with rfl | rfl | rfl | rfl<;>exact ⟨_,rfl⟩
 refine ⟨if t + s + z > 0 then t + s + z else 0,C1,?_,A⟩
 unfold IS at *
 simp![e2,p1,mNeg,negP,addP,ex,maxH]
theorem e3_ok (hk:ixQ WS (.int k)=some (.str w))(h:Str)(j:Int)(x12 x13 x14 x15 x16:Option SV)(C:Cs):e3 (IS NS WS s k t n #[.int j] #[.str h] x12 x13 x14 x15 x16) C=some (.nx (IS NS WS s k t n #[.int j] #[.str h] x12 #[.tup [.str h,.str w,.int (1 + j)]] x14 x15 x16),C):=by
 unfold IS
 simp![e3,wk,hk,addP]
theorem bh_eq (ha:ixQ WS (.int 10)=some (.str a))(hk:ixQ WS (.int k)=some (.str w))(x10 x11 x12 x13 x14 x15 x16:Option SV)(C:Cs):bhV 3e6 C=some (.v (bV a w),C):=by
 unfold IS bV bhV
 generalize ("behind":Str)=be
 simp![wk,wa,ha,hk]
def mM (a w:Str):Lt:=⟨a,w,4,0,[],0,note⟩
theorem due_P {rs:List Rc}{c:Cm}(hc:c∈rs.flatMap 8e3):∃r∈rs,∃v,c=.cl v (r.main a):=by
 obtain ⟨r,hr,h⟩:=XR.mp hc
 unfold Rc.due mkC at h
 rcases YU.mp h with h | h
 ·split at h
  ·exact ⟨r,hr,true,Yk.mp h⟩
  ·cases h
 ·split at h
  ·exact ⟨r,hr,false,Yk.mp h⟩
  ·cases h
theorem cl_nm {v u:Bool}{l m:Lt}(h:(Cm.cl v l).P=(Cm.cl u m).P):l.nm=m.nm:=by
 have:[PV.str (if v then "behind" else "ahead"),tupK l.nm]=[.str (if u then "behind" else "ahead"),tupK m.nm]:=PV.tup.inj h
 simp only[W9,and_true] at this
 exact tupK_inj this.2
theorem c3_val {rs:List Rc}(hw:∀r∈rs,r.w≠w)(bb:Bool):inDP true (bV a w) (.lst ((rs.flatMap 8e3).map Cm.P++(if bb then [bV a w] else [])))=some (.bl (!bb)):=by
 have hP:bV a w=(Cm.cl true (mM a w)).P:=rfl
 have hL:((rs.flatMap 8e3).map Cm.P++(if bb then [bV a w] else []))=(rs.flatMap 8e3++(if bb then [Cm.cl true (mM a w)] else [])).map Cm.P:=by
  rw[YO];cases bb<;>rfl
 rw[hL]
 have hd:deps ((rs.flatMap 8e3++(if bb then [Cm.cl true (mM a w)] else [])).map Cm.P)<=2:=Zbj (f:=Cm.P) dep_cm _
 have hany:(((rs.flatMap 8e3++(if bb then [Cm.cl true (mM a w)] else [])).map Cm.P).any fun p=>eqD p (bV a w))=bb:=by
  cases bb with
  | true=>exact XD.mpr ⟨bV a w,by simp[hP],Za3 (hP ▸ Zc0 _)⟩
  | false=>
   rw[List.any_eq_false]
   intro p hp
   obtain ⟨c,hc,rfl⟩:=Yw.mp hp
   have hc:c∈rs.flatMap 8e3:=by simpa using hc
   obtain ⟨r,hr,v,rfl⟩:=due_P hc
   intro z
   have:=(ZaH _ (Zc0 (.cl v (r.main a))) (Zc0 (.cl true (mM a w)))).mp z
   exact hw r hr (nm_d (cl_nm this)).2.1
 unfold inDP
 dsimp only
 rw[ZbE (f:=Cm.P) dat_cm,hP,dat_cm,decide_eq_true (show _<=50 by lia),←hP,hany]
 rfl
theorem IV.grow {rs:List Rc}{G:List (Lt×Bool)}{C C':Cs}(v:IV a b w s t rs n G C)(l:Lt)(f:Bool)(hl:GotOk b ⟨w,t,G,[],none⟩ l)(hnr:l.n=1 + (G.length:Int))(hG:G.length < 3)(h0:GS C' 0)
  (h1:C'[1]? = some (.lst ((lsR a rs++glG G++if f then [l] else []).map Lt.P))) (h2:C'[2]? = C[2]?) (h3:C'[3]? = some (.lst ((rs.flatMap 8e3).map Cm.P++(if behG t s (G++[(l,f)]) then [bV a w] else [])))) (h4:C'[n]? = some (.lst ((G.map fun p=>nmV p.1)++[nmV l]))):IV a b w s t rs n (G++[(l,f)]) C':=by
 refine ⟨h0,?_,h2.trans v.c2,h3,by rw[h4,YO];rfl,v.hn,fun p hp=>?_,?_,by simp;lia⟩
 ·rw[h1]
  have:glG (G++[(l,f)])=glG G++if f then [l] else []:=by
   unfold glG;rw[UM,YO];cases f<;>rfl
  rw[this,Yh]
 ·rcases YU.mp hp with q | q
  ·have:=v.got p q;exact ⟨this.d,this.h,this.n,this.pv,this.gs⟩
  ·rw[Yk.mp q];exact ⟨hl.d,hl.h,hl.n,hl.pv,hl.gs⟩
 ·rw[YO,v.nr,Yu,show ([(l,f)]:List (Lt×Bool)).length=1 from rfl,List.range_succ,YO]
  show _++[l.n]=_++[1 + (G.length:Int)]
  rw[hnr]
theorem beh_app (G:List (Lt×Bool))(l:Lt)(f:Bool):behG t s (G++[(l,f)])=(behG t s G||(f&&decide (l.h="bell")&&decide (t + s < l.t))):=by
 unfold behG;rw[List.any_append];simp
theorem eb_ok (ha:ixQ WS (.int 10)=some (.str a))(hb:ixQ WS (.int 11)=some (.str b))(hk:ixQ WS (.int k)=some (.str w)){rs:List Rc}(hw:∀r∈rs,r.w≠w)(hrs:rs.length<=9)(hls:(lsR a rs).length<=100){G:List (Lt×Bool)}{C:Cs}(v:IV a b w s t rs n G C)(hG:G.length < 3)(x11 x12 x13 x14 x15 x16:Option SV):
  ∃G' C' y11 y12 y13,eb (IS NS WS s k t n #[(.int (0 + (G.length:Int)))] x11 x12 x13 x14 x15 x16) C=some (.nx (IS NS WS s k t n #[(.int (0 + (G.length:Int)))] y11 y12 y13 x14 x15 x16),C')/\IV a b w s t rs n G' C'/\G'.length=G.length + 1/\C'.length=C.length:=by
 generalize hj:(0 + (G.length:Int))=j
 have hn4:=v.hn
 obtain ⟨h,C1,r1,hh,A1⟩:=e1_ok (NS:=NS) (s:=s) (k:=k) (t:=t) (n:=n) hb #[.int j] x11 x12 x13 x14 x15 x16 C v.gs
 obtain ⟨tm,C2,r2,A2⟩:=e2_ok (NS:=NS) (WS:=WS) (s:=s) (k:=k) (t:=t) (n:=n) #[.int j] #[.str h] x12 x13 x14 x15 x16 C1 A1.gs
 have r3:=e3_ok (NS:=NS) (s:=s) (t:=t) (n:=n) hk h j #[.int tm] x13 x14 x15 x16 C2
 have v2:=v.adv (A1.trans A2)
 obtain ⟨l,hl⟩:∃l:Lt,l=⟨h,w,1 + j,0,[],tm,note⟩:=7e1
 have hnm:PV.tup [.str h,.str w,.int (1 + j)]=nmV l:=by rw[hl];rfl
 rw[hnm] at r3
 have hok:GotOk b ⟨w,t,G,[],none⟩ l:=by
  rw[hl];exact ⟨rfl,hh,⟨by show (1:Int)<=1 + j;lia,by show 1 + j<=3;lia⟩,rfl,rfl⟩
 have hnr:l.n=1 + (G.length:Int):=by rw[hl];show 1 + j=_;lia
 have hglen:(G.map fun p=>nmV p.1).length < 100000:=by rw[Yf];lia
 have r4:e4 2e3 C2=some (.nx 2e3,C2.set n (.lst ((G.map fun p=>nmV p.1)++[nmV l]))):=app_ok rfl rfl v2.cn hglen
 obtain ⟨C3,hC3⟩:∃C3,C3=C2.set n (.lst ((G.map fun p=>nmV p.1)++[nmV l])):=7e1
 rw[←hC3] at r4
 have g3:GS C3 0:=by rw[hC3];exact ZdI v2.gs 1e2
 have l3:C3.length=C.length:=by rw[hC3,XB,A2.len,A1.len]
 have o3:∀i,i≠n->C3[i]? = C2[i]?:=fun i hi=>by rw[hC3,YA (XH hi)]
 have n3:C3[n]? = some (.lst ((G.map fun p=>nmV p.1)++[nmV l])):=by rw[hC3];exact setAt v2.cn
 obtain ⟨d,C4,p5,d1,d2,A5⟩:=Zds 5 1e4 2e3 rfl C3 g3
 have o4:∀i,i≠n->i≠0->C4[i]? = C2[i]?:=fun i h1 h2=>(A5.oth i h2).trans (o3 i h1)
 have n4:C4[n]? = some (.lst ((G.map fun p=>nmV p.1)++[nmV l])):=(A5.oth n 1e2).trans n3
 have t5:c5 2e3 C3=some (decide (0 < d),C4):=by
  generalize IS NS WS s k t n #[.int j] #[.str h] #[.int tm] #[nmV l] x14 x15 x16=ρ at *
  simp![c5,p5,gtP]
 have run4:eb (IS NS WS s k t n #[.int j] x11 x12 x13 x14 x15 x16) C=e5 2e3 C3:=by
  unfold eb;rw[ZaA r1,ZaA r2,ZaA r3,ZaA r4]
 by_cases hd:0 < d
 ·rw[decide_eq_true hd] at t5
  have c41:=(o4 1 1e2 1e4).trans v2.c1
  have hl1:((lsR a rs++glG G).map Lt.P).length < 100000:=by
   rw[Yf,Yu]
   have:(glG G).length<=G.length:=by unfold glG;rw[Yf];exact Wr _ _
   lia
  have hEL:∀D,eL 2e3 D=some (.v l.P,D):=fun D=>by
   rw[←hnm,hl]
   generalize hno:("note":Str)=no
   unfold IS Lt.P
   rw[show tupK note=.tup [.str no] from by rw[←hno];rfl]
   unfold eL
   rw[hno]
   simp![addP]
  have r6:e6 2e3 C4=some (.nx 2e3,C4.set 1 (.lst ((lsR a rs++glG G).map Lt.P++[l.P]))):=app_ok rfl (hEL C4) c41 hl1
  obtain ⟨C5,hC5⟩:∃C5,C5=C4.set 1 (.lst ((lsR a rs++glG G).map Lt.P++[l.P])):=7e1
  rw[←hC5] at r6
  have o5:∀i,i≠1->C5[i]? = C4[i]?:=fun i hi=>by rw[hC5,YA (XH hi)]
  have l5:C5.length=C.length:=by rw[hC5,XB,A5.len,l3]
  have g5:GS C5 0:=by rw[hC5];exact ZdI A5.gs 1e4
  have c51:C5[1]? = some (.lst ((lsR a rs++glG G++if true then [l] else []).map Lt.P)):=by
   rw[hC5,setAt c41,YO (l₂:=if true then [l] else [])];rfl
  have c53:=((o5 3 1e4).trans (o4 3 1e2 1e4)).trans v2.c3
  have q1:c1 2e3 C5=some (decide (h="bell"),C5):=by
   have hde:deepP eqD (.str h) (.str "bell")=some (.bl (decide (h="bell"))):=by
    unfold deepP eqD;simp[dat,dep]
    rw[X3];simp
   unfold IS c1
   generalize ("bell":Str)=be at *
   generalize hx:decide (h=be)=z at *
   simp![hde]
  have q2:c2 2e3 C5=some (decide (t + s < tm),C5):=by
   unfold IS
   simp![c2,gtP,addP]
  have q3:c3 2e3 C5=some (!behG t s G,C5):=by
   have hbh:=bh_eq (NS:=NS) (s:=s) (t:=t) (n:=n) ha hk #[.int j] #[.str h] #[.int tm] #[nmV l] x14 x15 x16 C5
   have hv:=c3_val (a:=a) (s:=s) hw (behG t s G)
   have h6:mVar 6 2e3 C5=some (.c 3,C5):=rfl
   generalize ((rs.flatMap 8e3).map Cm.P++(if behG t s G then [bV a w] else []))=DU at *
   generalize IS NS WS s k t n #[.int j] #[.str h] #[.int tm] #[nmV l] x14 x15 x16=ρ at *
   simp[c3,mTest,mOp,bnd,hbh,h6,opM,g2,deref,c53,hv,mB,asB,Pu.ret]
  have q:mAndT c1 (mAndT c2 c3) 2e3 C5=some (decide (h="bell")&&(decide (t + s < tm)&&!behG t s G),C5):=and_t q1 (and_t q2 q3)
  have hbG:behG t s (G++[(l,true)])=(behG t s G||(decide (h="bell")&&decide (t + s < tm))):=by
   rw[beh_app,hl];simp
  have run6:eb (IS NS WS s k t n #[.int j] x11 x12 x13 x14 x15 x16) C=e7 2e3 C5:=by
   rw[run4];unfold e5;rw[if_t t5,ZaA r6]
  cases hX:(decide (h="bell")&&(decide (t + s < tm)&&!behG t s G)) with
  | false=>
   rw[hX] at q
   refine ⟨G++[(l,true)],C5,#[.str h],#[.int tm],#[nmV l],?_,?_,by simp,l5⟩
   ·rw[run6];exact ZcH q
   ·refine v.grow l true hok hnr hG g5 c51 ?_ ?_ ((o5 n 1e2).trans n4)
    ·rw[o5 2 1e4,o4 2 1e2 1e4,v2.c2,v.c2]
    ·rw[c53]
     have:behG t s (G++[(l,true)])=behG t s G:=by
      rw[hbG]
      revert hX
      cases behG t s G<;>cases decide (h="bell")<;>cases decide (t + s < tm)<;>simp
     rw[this]
  | true=>
   rw[hX] at q
   have hfalse:behG t s G=false:=by
    revert hX
    cases behG t s G<;>cases decide (h="bell")<;>cases decide (t + s < tm)<;>simp
   have htrue:behG t s (G++[(l,true)])=true:=by
    rw[hbG]
    revert hX
    cases behG t s G<;>cases decide (h="bell")<;>cases decide (t + s < tm)<;>simp
   rw[hfalse] at c53
   have c53:C5[3]? = some (.lst ((rs.flatMap 8e3).map Cm.P)):=by rw[c53];simp
   have hdl:((rs.flatMap 8e3).map Cm.P).length < 100000:=by
    have:=ZdD (f:=Rc.due a s) (n:=2) (l:=rs) fun r _=>len_due r
    rw[Yf];lia
   have r8:e8 2e3 C5=some (.nx 2e3,C5.set 3 (.lst ((rs.flatMap 8e3).map Cm.P++[bV a w]))):=app_ok rfl (bh_eq ha hk _ _ _ _ _ _ _ C5) c53 hdl
   refine ⟨G++[(l,true)],C5.set 3 (.lst ((rs.flatMap 8e3).map Cm.P++[bV a w])),#[.str h],#[.int tm],#[nmV l],?_,?_,by simp,by rw[XB,l5]⟩
   ·rw[run6];unfold e7;rw[if_t q];exact r8
   ·refine v.grow l true hok hnr hG (ZdI g5 1e4) ?_ ?_ ?_ ?_
    ·rw[YA 1e4];exact c51
    ·rw[YA 1e4,o5 2 1e4,o4 2 1e2 1e4,v2.c2,v.c2]
    ·rw[setAt c53,htrue];rfl
    ·rw[YA 1e2,o5 n 1e2];exact n4
 ·rw[decide_eq_false hd] at t5
  refine ⟨G++[(l,false)],C4,#[.str h],#[.int tm],#[nmV l],?_,?_,by simp,by rw[A5.len,l3]⟩
  ·rw[run4];exact ZcH t5
  ·refine v.grow l false hok hnr hG A5.gs ?_ ?_ ?_ n4
   ·rw[o4 1 1e2 1e4,v2.c1];simp
   ·rw[o4 2 1e2 1e4,v2.c2,v.c2]
   ·rw[o4 3 1e2 1e4,v2.c3,beh_app];simp
end
def f1:PSt->M PF:=mSet 8 (mOp 8e1 (pk 50) (mOp (g2 mulP) 9e1 (pk 3)))
def f2:PSt->M PF:=mNew 9 (mLst aNil)
def fR:PSt->M 2e9:=mRange1 (aCons (mOp 8e1 5e7 (pk 3)) aNil)
def f3:PSt->M PF:=mFor fR (hName 10) eb
def fM:PSt->M SV:=mTup (aCons wa (aCons wk (aCons (mC (.int 4)) (aCons 4e1 (aCons (mCB (g1 tupH) (aCons (mVal (mSorted3 (aCons (mVar 9) aNil))) aNil)) (aCons (mVar 8) (aCons (mTup (aCons (mC (.str "note")) aNil)) aNil)))))))
def f4:PSt->M PF:=mDrop (mApp (mVar 4) (aCons fM aNil))
def f5:PSt->M PF:=mSet 14 (mCB (g1 maxH) (aCons 4e1 (aCons (mOp 8e1 (mOp (g2 subP) (mVar 8) 9e1) (mOp 4e9 (mVal (mLst (aCons 4e1 (aCons 5e7 (aCons (mNeg 5e7) (aCons (mC (.int 5)) aNil)))))) (pk 4))) aNil)))
def c6:PSt->M Bool:=mTest (mOp (g2 gtP) (pk 4) 4e1)
def f7:PSt->M PF:=mSetIxT (mVar 14) (mVar 5) (mTup (aCons wa (aCons wk (aCons (mC (.int 4)) aNil))))
def c8:PSt->M Bool:=mTest (mOp (g2 gtP) (mVar 8) (mOp 8e1 (mVar 14) 9e1))
def ahV:PSt->M SV:=mTup (aCons (mC (.str "ahead")) (aCons (mTup (aCons wa (aCons wk (aCons (mC (.int 4)) aNil)))) aNil))
def f9:PSt->M PF:=mDrop (mApp (mVar 6) (aCons ahV aNil))
def f6:PSt->M PF:=mIfS c6 (mSeq f7 (mIfS c8 f9 mSkip)) mSkip
def fb:PSt->M PF:=mSeq f1 (mSeq f2 (mSeq f3 (mSeq f4 (mSeq f5 f6))))
structure OV (a b:Str)(s:Int)(rs:List Rc)(C:Cs):Prop where
 gs:GS C 0
 c1:C[1]? = some (.lst ((lsR a rs).map Lt.P))
 c2:C[2]? = some (.dtt (ckR a rs) (cvR rs))
 c3:C[3]? = some (.lst ((rs.flatMap 8e3).map Cm.P))
 len:4<=C.length
section
variable {NS WS:PV}{s k t:Int}{n:Nat}{a b w:Str}
theorem i_loop (ha:ixQ WS (.int 10)=some (.str a))(hb:ixQ WS (.int 11)=some (.str b))(hk:ixQ WS (.int k)=some (.str w)){rs:List Rc}(hw:∀r∈rs,r.w≠w)(hrs:rs.length<=9)(hls:(lsR a rs).length<=100)(x14 x15 x16:Option SV):∀(m:Nat) (G:List (Lt×Bool)) (C:Cs) (x10 x11 x12 x13:Option SV),IV a b w s t rs n G C->G.length + m<=3->
  ∃G' C' y10 y11 y12 y13,loop (hName 10) eb ((Vv G.length m).map fun (q:Nat)=>PV.int (0 + q)) 3e6 C=some (.nx (IS NS WS s k t n y10 y11 y12 y13 x14 x15 x16),C')/\IV a b w s t rs n G' C'/\G'.length=G.length + m/\C'.length=C.length
 | 0,G,C,x10,x11,x12,x13,v,_=>⟨G,C,x10,x11,x12,x13,rfl,v,rfl,rfl⟩
 | m + 1,G,C,x10,x11,x12,x13,v,hm=>by
  obtain ⟨G1,C1,z11,z12,z13,e1,v1,l1,c1⟩:=eb_ok (NS:=NS) ha hb hk hw hrs hls v 1e2 x11 x12 x13 x14 x15 x16
  obtain ⟨G2,C2,y10,y11,y12,y13,e2,v2,l2,c2⟩:=i_loop ha hb hk hw hrs hls x14 x15 x16 m G1 C1 #[(.int (0 + (G.length:Int)))] z11 z12 z13 v1 1e2
  refine ⟨G2,C2,y10,y11,y12,y13,?_,v2,by lia,by lia⟩
  rw[List.range'_succ,Ym]
  rw[l1] at e2
  unfold loop
  have hh:hName 10 (.int (0 + (G.length:Int))) 3e6=some (IS NS WS s k t n #[(.int (0 + (G.length:Int)))] x11 x12 x13 x14 x15 x16):=rfl
  simp only[hh,bnd,e1,e2]
def OS (NS WS:PV)(s:Int)(x7 x8 x9 x10 x11 x12 x13 x14 x15 x16:Option SV):PSt:=[#[NS],some (.c 0),#[WS],#[.int s],some (.c 1),some (.c 2),some (.c 3),x7,x8,x9,x10,x11,x12,x13,x14,x15,x16]
theorem f1_ok (x7 x8 x9 x10 x11 x12 x13 x14 x15 x16:Option SV)(C:Cs)(g:GS C 0):∃(t:Int) (C':Cs),f1 (OS NS WS s x7 x8 x9 x10 x11 x12 x13 x14 x15 x16) C=some (.nx (OS NS WS s x7 #[.int t] x9 x10 x11 x12 x13 x14 x15 x16),C')/\Adv 0 C C':=by
 obtain ⟨d,C1,p1,_,_,A1⟩:=Zds 50 1e4 (OS NS WS s x7 x8 x9 x10 x11 x12 x13 x14 x15 x16) rfl C g
 obtain ⟨e,C2,p2,h1,h2,A2⟩:=Zds 3 1e4 (OS NS WS s x7 x8 x9 x10 x11 x12 x13 x14 x15 x16) rfl C1 A1.gs
 refine ⟨d + s * e,C2,?_,A1.trans A2⟩
 have hm:mulP (.int s) (.int e)=some (.int (s * e)):=by
  show (if _ then _ else _)=_
  rw[if_pos]
  rw[Uv]
  exact .inr (decide_eq_true ⟨by lia,by lia⟩)
 unfold OS at *
 simp only[f1,mSet,mOp,bnd,p1,p2,mVar,List.getElem?_cons_zero,VH,opM,g2,deref,hm,Option.map,addP,Pu.ret]
 rfl
theorem f5_ok (x10 x11 x12 x13 x14 x15 x16:Option SV)(C:Cs)(g:GS C 0):∃(cm:Int) (C':Cs),f5 3e6 C=some (.nx (IS NS WS s k t n x10 x11 x12 x13 #[.int cm] x15 x16),C')/\Adv 0 C C':=by
 obtain ⟨d,C1,p1,h1,h2,A⟩:=Zds 4 1e4 3e6 rfl C g
 obtain ⟨p,hp,ex⟩:=ix_mem [.int 0,.int 1,.int (-1),.int 5] d h1 (by simpa using h2)
 obtain ⟨z,rfl⟩:∃z:Int,p=.int z:=by
  simp only[Yl,Xp,or_false] at hp
  rcases hp with rfl | rfl | rfl | rfl<;>exact ⟨_,rfl⟩
 refine ⟨if t - s + z > 0 then t - s + z else 0,C1,?_,A⟩
 unfold IS at *
 simp![f5,p1,mNeg,negP,addP,ex,maxH]
theorem fM_ok (ha:ixQ WS (.int 10)=some (.str a))(hk:ixQ WS (.int k)=some (.str w)){ps us:List PV}(x10 x11 x12 x13 x14 x15 x16:Option SV){C:Cs}(hc:C[n]? = some 6e8)(hs:sortP ps=some us):fM 3e6 C=some (.v (.tup [.str a,.str w,.int 4,.int 0,.tup us,.int t,tupK note]),C):=by
 have e0:tupK note=.tup [.str "note"]:=rfl
 rw[e0]
 unfold IS fM
 generalize ("note":Str)=no
 simp![wk,wa,ha,hk,mSorted3,sortedH3,sortedH2,hc,hs,tupH]
theorem ah_eq (ha:ixQ WS (.int 10)=some (.str a))(hk:ixQ WS (.int k)=some (.str w))(x10 x11 x12 x13 x14 x15 x16:Option SV)(C:Cs):ahV 3e6 C=some (.v (.tup [.str "ahead",.tup [.str a,.str w,.int 4]]),C):=by
 unfold IS ahV
 generalize ("ahead":Str)=be
 simp![wk,wa,ha,hk]
theorem f7_ok (ha:ixQ WS (.int 10)=some (.str a))(hk:ixQ WS (.int k)=some (.str w))(cm:Int)(x10 x11 x12 x13 x15 x16:Option SV){C:Cs}{ks:4e2}{vs:List PV}(hc:C[2]? = some (.dtt ks vs))(hl:ks.length < 1000)(hn:inK (mM a w).nm ks=false):f7 (IS NS WS s k t n x10 x11 x12 x13 #[.int cm] x15 x16) C=some (.nx (IS NS WS s k t n x10 x11 x12 x13 #[.int cm] x15 x16),C.set 2 (.dtt (ks++[(mM a w).nm]) (vs++[.int cm]))):=by
 have hk2:keysP [.str a,.str w,.int 4]=some (mM a w).nm:=rfl
 have hset:∀ρ,setT (.v (.int cm)) (.c 2) (.v (.tup [.str a,.str w,.int 4])) ρ C=some (.nx ρ,C.set 2 (.dtt (ks++[(mM a w).nm]) (vs++[.int cm]))):=fun ρ=>by
  unfold setT
  simp only[hc,hk2]
  rw[if_pos hl]
  unfold putKs putVs
  rw[hn];rfl
 unfold IS
 simp![f7,wk,wa,mSetIxT,ha,hk,hset]
end
section
variable {NS WS:PV}{s:Int}{a b w:Str}
theorem nd_nr {G:List (Lt×Bool)}(h:G.map (fun p=>p.1.n)=(YW G.length).map fun (j:Nat)=>(1 + (j:Int))):(G.map fun p=>p.1.n).Nodup:=by
 rw[h,Y0,Xy]
 exact (Y0.mp Ue).imp fun {x y} z e=>z 1e2
theorem ck_new {rs:List Rc}(hw:∀r∈rs,r.w≠w):inK (mM a w).nm (ckR a rs)=false:=by
 cases e:inK (mM a w).nm (ckR a rs) with
 | false=>rfl
 | true=>
  obtain ⟨r,hr,q⟩:=Yw.mp (Zbp.mp e)
  exact absurd (nm_d q).2.1 (hw r (X0.mp hr).1)
theorem ck_len (rs:List Rc):(ckR a rs).length<=rs.length:=by
 unfold ckR;rw[Yf];exact Wr _ _
theorem fm_one {α β:Type}(f:α->List β)(l:List α)(x:α):(l++[x]).flatMap f=l.flatMap f++f x:=by
 rw[List.flatMap_append];simp
theorem ck_one (rs:List Rc)(r:Rc):ckR a (rs++[r])=ckR a rs++(if r.came.isSome then [(r.main a).nm] else [])/\cvR (rs++[r])=cvR rs++(if r.came.isSome then [.int (r.came.getD 0)] else []):=by
 unfold ckR cvR
 rw[UM,YO,YO]
 cases h:r.came.isSome<;>simp[Xx,h]
theorem fb_ok (ha:ixQ WS (.int 10)=some (.str a))(hb:ixQ WS (.int 11)=some (.str b))(k:Int)(hk:ixQ WS (.int k)=some (.str w)){rs:List Rc}(R:Rs a b rs)(hw:∀r∈rs,r.w≠w)(hwl:w.length<=10)(hrs:rs.length < 9){C:Cs}(v:OV a b s rs C)(x8 x9 x10 x11 x12 x13 x14 x15 x16:Option SV):
  ∃r C' y8 y9 y10 y11 y12 y13 y14,fb (OS NS WS s #[.int k] x8 x9 x10 x11 x12 x13 x14 x15 x16) C=some (.nx (OS NS WS s #[.int k] y8 y9 y10 y11 y12 y13 y14 x15 x16),C')/\OV a b s (rs++[r]) C'/\Rs a b (rs++[r])/\r.w=w:=by
 obtain ⟨t,C1,r1,A1⟩:=f1_ok (NS:=NS) (WS:=WS) (s:=s) #[.int k] x8 x9 x10 x11 x12 x13 x14 x15 x16 C v.gs
 have hlen1:4<=C1.length:=by rw[A1.len];exact v.len
 obtain ⟨n,hn⟩:∃n,n=C1.length:=7e1
 have r2:f2 (OS NS WS s #[.int k] #[.int t] x9 x10 x11 x12 x13 x14 x15 x16) C1=some (.nx 3e6,C1++[.lst []]):=by rw[hn];rfl
 have ob:∀i,i < C1.length->(C1++[PV.lst []])[i]? = C1[i]?:=fun i hi=>YE hi
 have gg2:GS (C1++[.lst []]) 0:=by
  obtain ⟨x,y,e,q⟩:=A1.gs
  exact ⟨x,y,by rw[ob 0 1e2];exact e,q⟩
 have hls:(lsR a rs).length<=100:=by have:=R.good.few;lia
 have v2:IV a b w s t rs n [] (C1++[.lst []]):=by
  refine ⟨gg2,?_,?_,?_,?_,by lia,fun p hp=>(nomatch hp),rfl,by simp⟩
  ·rw[ob 1 1e2,A1.oth 1 1e4,v.c1]
   rw[show glG ([]:List (Lt×Bool))=[] from rfl,YL]
  ·rw[ob 2 1e2,A1.oth 2 1e4,v.c2]
  ·rw[ob 3 1e2,A1.oth 3 1e4,v.c3]
   rw[show behG t s ([]:List (Lt×Bool))=false from rfl];simp
  ·rw[hn];simp
 obtain ⟨d,C3,p3,d1,d2,A3⟩:=Zds 3 1e4 3e6 rfl (C1++[.lst []]) gg2
 have v3:=v2.adv A3
 obtain ⟨m,hm,hm3⟩:∃m:Nat,1 + d=(m:Int)/\m<=3:=⟨(1 + d).toNat,by lia,by lia⟩
 obtain ⟨G,C4,y10,y11,y12,y13,e4,v4,l4,_⟩:=i_loop (NS:=NS) (s:=s) (t:=t) (n:=n) ha hb hk hw 1e2 hls x14 x15 x16 m [] C3 x10 x11 x12 x13 v3 (by simpa using hm3)
 have r3:f3 3e6 (C1++[.lst []])=some (.nx (IS NS WS s k t n y10 y11 y12 y13 x14 x15 x16),C4):=by
  have hr:fR 3e6 (C1++[.lst []])=some ((Vv 0 m).map fun (q:Nat)=>PV.int (0 + q),C3):=by
   have hrg:rng1P [.v (.int (1 + d))]=some ((Vv 0 m).map fun (q:Nat)=>PV.int (0 + q)):=by
    unfold rng1P;dsimp only
    rw[if_pos 1e2,hm,XG,List.range_eq_range']
   generalize IS NS WS s k t n x10 x11 x12 x13 x14 x15 x16=ρ at *
   generalize ((Vv 0 m).map fun (q:Nat)=>PV.int (0 + q))=RG at *
   simp![fR,mRange1,p3,addP,hrg]
  unfold f3 mFor bnd
  rw[hr];exact e4
 have hGl:G.length<=3:=v4.few
 obtain ⟨us,eu,pu⟩:=sort_nm (G.map (·.1))
 have hGn:(G.map fun p=>nmV p.1)=(G.map (·.1)).map nmV:=by rw[Y9];rfl
 have hso:sortP (G.map fun p=>nmV p.1)=some (us.map nmV):=by
  rw[hGn,sortP_nm _ (by rw[Yf];lia),eu]
 obtain ⟨gs,hgs⟩:∃gs,gs=us.map Lt.nm:=7e1
 have hmain:∀c,PV.tup [.str a,.str w,.int 4,.int 0,.tup (us.map nmV),.int t,tupK note]=(Rc.main a ⟨w,t,G,gs,c⟩).P:=fun c=>by
  rw[hgs];unfold Rc.main Lt.P;rw[Y9];rfl
 have hok:∀c,Rc.Ok b ⟨w,t,G,gs,c⟩:=fun c=>by
  refine ⟨fun p hp=>?_,nd_nr v4.nr,hGl,?_,hwl⟩
  ·have:=v4.got p hp;exact ⟨this.d,this.h,this.n,this.pv,this.gs⟩
  ·rw[hgs]
   have:=pu.map Lt.nm
   rw[Y9] at this
   exact this
 have hRs:∀c,Rs a b (rs++[⟨w,t,G,gs,c⟩]):=fun c=>by
  refine ⟨fun r hr=>?_,?_,by simp;lia,R.a1,R.b1,R.ab,R.a4⟩
  ·rcases YU.mp hr with q | q
   ·exact R.ok r q
   ·rw[Yk.mp q];exact hok c
  ·rw[YO,Xm]
   refine ⟨R.nd,by simp,fun x hx y hy e=>?_⟩
   obtain ⟨r,hr,rfl⟩:=Yw.mp hx
   have hy:y=w:=by simpa using hy
   exact hw r hr (e.trans hy)
 have hl1:((lsR a rs++glG G).map Lt.P).length < 100000:=by
  rw[Yf,Yu]
  have:(glG G).length<=G.length:=by unfold glG;rw[Yf];exact Wr _ _
  lia
 have r4:f4 (IS NS WS s k t n y10 y11 y12 y13 x14 x15 x16) C4=some (.nx (IS NS WS s k t n y10 y11 y12 y13 x14 x15 x16),C4.set 1 (.lst ((lsR a rs++glG G).map Lt.P++[PV.tup [.str a,.str w,.int 4,.int 0,.tup (us.map nmV),.int t,tupK note]]))):=app_ok rfl (fM_ok ha hk _ _ _ _ _ _ _ v4.cn hso) v4.c1 hl1
 have hLs:∀c,((lsR a rs++glG G).map Lt.P++[PV.tup [.str a,.str w,.int 4,.int 0,.tup (us.map nmV),.int t,tupK note]])=(lsR a (rs++[⟨w,t,G,gs,c⟩])).map Lt.P:=fun c=>by
  rw[hmain c];unfold lsR;rw[fm_one,YO,YO,Yh];unfold Rc.ls;rw[YO];rfl
 have hn4:=v4.hn
 obtain ⟨C5,hC5⟩:∃C5,C5=C4.set 1 (.lst ((lsR a rs++glG G).map Lt.P++[PV.tup [.str a,.str w,.int 4,.int 0,.tup (us.map nmV),.int t,tupK note]])):=7e1
 rw[←hC5] at r4
 have g5:GS C5 0:=by rw[hC5];exact ZdI v4.gs 1e4
 have c51:∀c,C5[1]? = some (.lst ((lsR a (rs++[⟨w,t,G,gs,c⟩])).map Lt.P)):=fun c=>by rw[hC5,setAt v4.c1,hLs c]
 have c52:C5[2]? = some (.dtt (ckR a rs) (cvR rs)):=by rw[hC5,YA 1e4];exact v4.c2
 have c53:C5[3]? = some (.lst ((rs.flatMap 8e3).map Cm.P++(if behG t s G then [bV a w] else []))):=by rw[hC5,YA 1e4];exact v4.c3
 have l5:4<=C5.length:=by
  have:C5[3]?≠none:=by rw[c53];simp
  rcases YS 3 C5.length with q | q
  ·exact q
  ·exact absurd (YF.mpr q) this
 obtain ⟨cm,C6,r5,A6⟩:=f5_ok (NS:=NS) (WS:=WS) (s:=s) (k:=k) (t:=t) (n:=n) y10 y11 y12 y13 x14 x15 x16 C5 g5
 obtain ⟨e,C7,p7,e1,e2,A7⟩:=Zds 4 1e4 (IS NS WS s k t n y10 y11 y12 y13 #[.int cm] x15 x16) rfl C6 A6.gs
 have A:=A6.trans A7
 have l7:4<=C7.length:=by rw[A.len];exact l5
 have o7:∀i,i≠0->C7[i]? = C5[i]?:=A.oth
 have t6:c6 (IS NS WS s k t n y10 y11 y12 y13 #[.int cm] x15 x16) C6=some (decide (0 < e),C7):=by
  generalize IS NS WS s k t n y10 y11 y12 y13 #[.int cm] x15 x16=ρ at *
  simp![c6,p7,gtP]
 have run:fb (OS NS WS s #[.int k] x8 x9 x10 x11 x12 x13 x14 x15 x16) C=f6 (IS NS WS s k t n y10 y11 y12 y13 #[.int cm] x15 x16) C6:=by
  unfold fb;rw[ZaA r1,ZaA r2,ZaA r3,ZaA r4,ZaA r5]
 have hbe:∀c,Rc.beh s ⟨w,t,G,gs,c⟩=behG t s G:=fun c=>rfl
 have hdu:∀c,((rs++[(⟨w,t,G,gs,c⟩:Rc)]).flatMap 8e3).map Cm.P=(rs.flatMap 8e3).map Cm.P++((if behG t s G then [bV a w] else [])++(if Rc.ahd s ⟨w,t,G,gs,c⟩ then [.tup [.str "ahead",.tup [.str a,.str w,.int 4]]] else [])):=fun c=>by
  rw[fm_one,YO]
  congr 1
  unfold Rc.due
  rw[hbe,←mkC_P];rfl
 have hdl:((rs.flatMap 8e3).map Cm.P++(if behG t s G then [bV a w] else [])).length < 100000:=by
  have:=ZdD (f:=Rc.due a s) (n:=2) (l:=rs) fun r _=>len_due r
  have h1:(if behG t s G then [bV a w] else []).length<=1:=by split<;>simp
  rw[Yu,Yf];lia
 by_cases he:0 < e
 ·rw[decide_eq_true he] at t6
  have r7:=f7_ok (NS:=NS) (s:=s) (t:=t) (n:=n) ha hk cm y10 y11 y12 y13 x15 x16 ((o7 2 1e4).trans c52) (by have:=ck_len (a:=a) rs;lia) (ck_new hw)
  obtain ⟨C8,hC8⟩:∃C8,C8=C7.set 2 (.dtt (ckR a rs++[(mM a w).nm]) (cvR rs++[.int cm])):=7e1
  rw[←hC8] at r7
  have t8:c8 (IS NS WS s k t n y10 y11 y12 y13 #[.int cm] x15 x16) C8=some (decide (cm + s < t),C8):=by
   unfold IS
   simp![c8,gtP,addP]
  have o8:∀i,i≠0->i≠2->C8[i]? = C5[i]?:=fun i h1 h2=>by rw[hC8,YA (XH h2)];exact o7 i h1
  have c82:C8[2]? = some (.dtt (ckR a (rs++[⟨w,t,G,gs,some cm⟩])) (cvR (rs++[⟨w,t,G,gs,some cm⟩]))):=by
   rw[hC8,setAt ((o7 2 1e4).trans c52),(ck_one rs _).1,(ck_one (a:=a) rs _).2];rfl
  have g8:GS C8 0:=by rw[hC8];exact ZdI A.gs 1e4
  have run8:fb (OS NS WS s #[.int k] x8 x9 x10 x11 x12 x13 x14 x15 x16) C=mIfS c8 f9 mSkip (IS NS WS s k t n y10 y11 y12 y13 #[.int cm] x15 x16) C8:=by
   rw[run];unfold f6;rw[if_t t6,ZaA r7]
  have hah:Rc.ahd s ⟨w,t,G,gs,some cm⟩=decide (cm + s < t):=rfl
  by_cases hx:cm + s < t
  ·rw[decide_eq_true hx] at t8 hah
   have r9:f9 (IS NS WS s k t n y10 y11 y12 y13 #[.int cm] x15 x16) C8=some (.nx (IS NS WS s k t n y10 y11 y12 y13 #[.int cm] x15 x16),C8.set 3 (.lst ((rs.flatMap 8e3).map Cm.P++(if behG t s G then [bV a w] else [])++[.tup [.str "ahead",.tup [.str a,.str w,.int 4]]]))):=app_ok rfl (ah_eq ha hk _ _ _ _ _ _ _ C8) ((o8 3 1e4 1e4).trans c53) hdl
   refine ⟨⟨w,t,G,gs,some cm⟩,_,#[.int t],some (.c n),y10,y11,y12,y13,#[.int cm],run8.trans ((if_t t8).trans r9),?_,hRs _,rfl⟩
   refine ⟨ZdI g8 1e4,?_,?_,?_,by rw[XB,hC8,XB];exact l7⟩
   ·rw[YA 1e4,o8 1 1e4 1e4];exact c51 _
   ·rw[YA 1e4];exact c82
   ·rw[setAt ((o8 3 1e4 1e4).trans c53),hdu,hah,Yh];rfl
  ·rw[decide_eq_false hx] at t8 hah
   refine ⟨⟨w,t,G,gs,some cm⟩,_,#[.int t],some (.c n),y10,y11,y12,y13,#[.int cm],run8.trans (ZcH t8),?_,hRs _,rfl⟩
   refine ⟨g8,?_,c82,?_,by rw[hC8,XB];exact l7⟩
   ·rw[o8 1 1e4 1e4];exact c51 _
   ·rw[o8 3 1e4 1e4,c53,hdu,hah];simp
 ·rw[decide_eq_false he] at t6
  refine ⟨⟨w,t,G,gs,none⟩,C7,#[.int t],some (.c n),y10,y11,y12,y13,#[.int cm],run.trans (ZcH t6),?_,hRs _,rfl⟩
  refine ⟨A.gs,?_,?_,?_,l7⟩
  ·rw[o7 1 1e4];exact c51 _
  ·rw[o7 2 1e4,c52,(ck_one rs _).1,(ck_one (a:=a) rs _).2];simp
  ·rw[o7 3 1e4,c53,hdu]
   have:Rc.ahd s ⟨w,t,G,gs,none⟩=false:=rfl
   rw[this];simp
end
theorem ix_ws (ws:4e0)(i:Nat)(h:i < ws.length):ixQ (.lst 8e2) (.int (i:Int))=some (.str ws[i]):=by
 have h1:(0:Int)<=i:=by lia
 have h2:(i:Int) < ((ws.map PV.str).length:Nat):=by rw[Yf];lia
 show atI (ws.map PV.str) (i:Int)=_
 unfold atI ixN
 rw[if_pos h1,if_pos h2]
 show (ws.map PV.str)[(i:Int).toNat]? = _
 rw[XG,Yx,Yd h];rfl
theorem nd_take {ws:4e0}(nd:ws.Nodup){i:Nat}(h:i < ws.length):ws[i]∉ws.take i:=fun z=>by
 have e:ws=ws.take i++ws.drop i:=(List.take_append_drop i ws).symm
 rw[e,Xm] at nd
 refine nd.2.2 _ z _ ?_ rfl
 rw[Xr h];exact .head _
section
variable {NS:PV}{s:Int}{a b:Str}
theorem o_loop {ws:4e0}(hl:ws.length=12)(nd:ws.Nodup)(h10:∀w∈ws,w.length<=10)(ha:ixQ (.lst 8e2) (.int 10)=some (.str a))(hb:ixQ (.lst 8e2) (.int 11)=some (.str b))(x15 x16:Option SV):∀(m:Nat) (rs:List Rc) (C:Cs) (x7 x8 x9 x10 x11 x12 x13 x14:Option SV),OV a b s rs C->Rs a b rs->rs.map Rc.w=ws.take rs.length->rs.length + m<=9->
  ∃rs' C' y7 y8 y9 y10 y11 y12 y13 y14,loop (hName 7) fb ((Vv rs.length m).map fun (q:Nat)=>PV.int (0 + q)) (OS NS (.lst 8e2) s x7 x8 x9 x10 x11 x12 x13 x14 x15 x16) C=some (.nx (OS NS (.lst 8e2) s y7 y8 y9 y10 y11 y12 y13 y14 x15 x16),C')/\OV a b s rs' C'/\Rs a b rs'
 | 0,rs,C,x7,x8,x9,x10,x11,x12,x13,x14,v,R,_,_=>⟨rs,C,x7,x8,x9,x10,x11,x12,x13,x14,rfl,v,R⟩
 | m + 1,rs,C,x7,x8,x9,x10,x11,x12,x13,x14,v,R,ht,hm=>by
  have hi:rs.length < ws.length:=by lia
  have hk:ixQ (.lst 8e2) (.int (0 + (rs.length:Int)))=some (.str ws[rs.length]):=by rw[Int.zero_add];exact ix_ws ws rs.length hi
  obtain ⟨r,C1,y8,y9,y10,y11,y12,y13,y14,e1,v1,R1,hw⟩:=fb_ok (NS:=NS) ha hb (0 + (rs.length:Int)) hk R (fun r hr z=>nd_take nd hi (by rw[←ht,←z];exact Y6 hr)) (h10 _ (XQ hi)) 1e2 v x8 x9 x10 x11 x12 x13 x14 x15 x16
  have hl1:(rs++[r]).length=rs.length + 1:=by simp
  obtain ⟨rs2,C2,z7,z8,z9,z10,z11,z12,z13,z14,e2,q⟩:=o_loop hl nd h10 ha hb x15 x16 m (rs++[r]) C1 #[(.int (0 + (rs.length:Int)))] y8 y9 y10 y11 y12 y13 y14 v1 R1 (by
   rw[YO,ht,hl1,List.take_succ_eq_append_getElem hi,←hw];rfl) (by lia)
  refine ⟨rs2,C2,z7,z8,z9,z10,z11,z12,z13,z14,?_,q⟩
  rw[List.range'_succ,Ym]
  rw[hl1] at e2
  unfold loop
  have hh:hName 7 (.int (0 + (rs.length:Int))) (OS NS (.lst 8e2) s x7 x8 x9 x10 x11 x12 x13 x14 x15 x16)=some (OS NS (.lst 8e2) s #[(.int (0 + (rs.length:Int)))] x8 x9 x10 x11 x12 x13 x14 x15 x16):=rfl
  simp only[hh,bnd,e1,e2]
def noTw (x:PV):Bool:=match x with
 | .tup (z::_)=>!eqD z (.str "twin")
 | _=>false
theorem noTw_tw (p:Lt×Lt):noTw (twV p)=false:=by
 unfold noTw twV
 simp only[Za3 (show pur (.str "twin")=true from rfl)];rfl
theorem noTw_cl (v:Bool)(l:Lt):noTw (Cm.cl v l).P=true:=by
 show (!eqD (.str (if v then "behind" else "ahead")) (.str "twin"))=true
 rw[ne_word.2];rfl
def kT:PSt->M Bool:=mTest (mOp (g2 (deepP fun p q=>!eqD p q)) (mOp 4e9 3e7 4e1) (mC (.str "twin")))
theorem kT_ok (c:Cm)(ρ:PSt)(C:Cs):kT (#[c.P]::ρ) C=some (noTw c.P,C):=by
 obtain ⟨z,zs,e⟩:∃z zs,c.P=.tup (.str z::zs):=by cases c<;>exact ⟨_,_,rfl⟩
 rw[e]
 have hx:ixQ (.tup (.str z::zs)) (.int 0)=some (.str z):=by simp[ixQ,ixP,atI,ixN]
 have hd:deepP (fun p q=>!eqD p q) (.str z) (.str "twin")=some (.bl (!eqD (.str z) (.str "twin"))):=by
  unfold deepP;simp[dat,dep]
 have hn:noTw (.tup (.str z::zs))=!eqD (.str z) (.str "twin"):=rfl
 rw[hn]
 unfold kT
 generalize (!eqD (.str z) (.str "twin"))=bb at *
 generalize ("twin":Str)=tw at *
 generalize PV.tup (.str z::zs)=T at *
 simp![hx,hd]
def kM:PSt->M 2e9:=mFnFS FF_marks [] (aCons (mTup (aCons 9e1 (aCons mDict0T aNil))) (aCons (mVar 4) (aCons (mVar 5) aNil)))
def k1:PSt->M PF:=mSet 15 (mVal (mComp (mItems (mVal kM)) ["_law_claim"] [] (hName 0) kT 3e7))
def k2c:PSt->M Bool:=mTest (mOp (g2 (deepP fun p q=>!eqD p q)) (mVar 15) (mVal (mSorted3 (aCons (mVar 6) aNil))))
def kA:PSt->M Bool:=mTest (mOp (g2 (deepP eqD)) (mOp 4e9 3e7 4e1) (mOp 4e9 4e3 (mC (.int 10))))
def k3:PSt->M PF:=mSet 16 (mVal (mPureF (mComp (mItems (mVar 4)) ["_law_letter"] [2] (hName 0) kA 3e7)))
def k4:PSt->M PF:=mRet (mOp (g2 (deepP eqD)) (mVal (mFnF FF_marks (aCons (mTup (aCons 9e1 (aCons mDict0T aNil))) (aCons (mVar 16) (aCons mDict0T aNil))))) (mVal (mLst aNil)))
theorem due_nd {rs:List Rc}(R:Rs a b rs):((rs.flatMap 8e3).map Cm.P).Nodup:=by
 rw[List.map_flatMap,Y0,List.pairwise_flatMap]
 constructor
 ·intro r hr
  unfold Rc.due mkC
  have hne:(Cm.cl true (r.main a)).P≠(Cm.cl false (r.main a)).P:=fun z=>by
   have:[PV.str "behind",tupK (r.main a).nm]=[.str "ahead",tupK (r.main a).nm]:=PV.tup.inj z
   have h2:PV.str "behind"=.str "ahead":=(Ul this).1
   exact absurd (PV.str.inj h2) 6e1
  cases r.beh s<;>cases r.ahd s<;>simp[hne]
 ·have:=R.nd
  rw[Y0,Xy] at this
  refine this.imp_of_mem fun {r q} hr hq h x hx y hy e=>?_
  obtain ⟨c,hc,rfl⟩:=Yw.mp hx
  obtain ⟨d,hd,rfl⟩:=Yw.mp hy
  obtain ⟨r',hr',v,rfl⟩:=due_P (a:=a) (s:=s) (rs:=[r]) (c:=c) (by simpa using hc)
  obtain ⟨q',hq',u,rfl⟩:=due_P (a:=a) (s:=s) (rs:=[q]) (c:=d) (by simpa using hd)
  rw[Yk.mp hr',Yk.mp hq'] at e
  exact h (nm_d (cl_nm e)).2.1
theorem found_eq {rs:List Rc}(R:Rs a b rs){ts:List (Lt×Lt)}{cs:List Cm}(nd:(cs.map Cm.P).Nodup)(ri:Rising (cs.map Cm.P))(mm:∀x,x∈cs.map Cm.P↔x∈ts.map twV\/x∈(rs.flatMap 8e3).map Cm.P):
  sortL ((rs.flatMap 8e3).map Cm.P)=(cs.map Cm.P).filter noTw:=by
 refine sortL_eq (cmp_cm _) (ZcZ _) ?_ (ri.filter _)
 refine (List.perm_ext_iff_of_nodup (due_nd R) (List.Nodup.sublist (List.filter_sublist) nd)).mpr fun x=>?_
 rw[X0,mm]
 constructor
 ·intro h
  refine ⟨.inr h,?_⟩
  obtain ⟨c,hc,rfl⟩:=Yw.mp h
  obtain ⟨r,_,v,rfl⟩:=due_P hc
  exact noTw_cl v _
 ·rintro ⟨h | h,h2⟩
  ·obtain ⟨p,_,rfl⟩:=Yw.mp h
   rw[noTw_tw] at h2;cases h2
  ·exact h
theorem eqDs_self {ps:List PV}(h:purs ps=true):eqDs ps ps=true:=(eqDs_pur ps h h).mpr rfl
theorem deep_same {cs:List Cm}:deepP (fun p q=>!eqD p q) (.lst (cs.map Cm.P)) (.lst (cs.map Cm.P))=some (.bl false):=by
 have hd:deps (cs.map Cm.P)<=2:=Zbj (f:=Cm.P) dep_cm _
 have he:eqD (.lst (cs.map Cm.P)) (.lst (cs.map Cm.P))=true:=by unfold eqD;exact eqDs_self (ZcZ cs)
 unfold deepP
 dsimp only
 rw[he]
 unfold dat dep
 rw[ZbE (f:=Cm.P) dat_cm,decide_eq_true (show deps (cs.map Cm.P) + 1<=60 by lia)];rfl
theorem alone_eq {rs:List Rc}(R:Rs a b rs):((lsR a rs).filter fun l=>decide (l.h=a))=mains a rs:=by
 unfold lsR mains
 rw[List.filter_flatMap]
 have:∀r∈rs,(r.ls a).filter (fun l=>decide (l.h=a))=[r.main a]:=fun r hr=>by
  have o:=R.ok r hr
  unfold Rc.ls
  rw[UM]
  have h1:r.gl.filter (fun l=>decide (l.h=a))=[]:=by
   rw[List.filter_eq_nil_iff]
   intro l hl
   obtain ⟨p,hp,rfl⟩:=Yw.mp hl
   have g:=o.got p (X0.mp hp).1
   intro z
   have z:=of_decide_eq_true z
   rcases g.h with e | e
   ·exact R.a4 (z.symm.trans e)
   ·exact R.ab (z.symm.trans e)
  rw[h1]
  have:decide ((r.main a).h=a)=true:=decide_eq_true rfl
  rw[WF,Xx,if_pos this];rfl
 rw[fm_congr this]
 induction rs with
 | nil=>rfl
 | cons r rs ih=>rw[Wc,Ym];exact congrArg _ (by
   clear R this ih
   induction rs with
   | nil=>rfl
   | cons q rs ih=>rw[Wc,Ym,ih];rfl)
end
section
variable {NS WS:PV}{s:Int}{a b:Str}
theorem end_ok (ha:ixQ WS (.int 10)=some (.str a)){rs:List Rc}(R:Rs a b rs){C:Cs}(v:OV a b s rs C)(x7 x8 x9 x10 x11 x12 x13 x14 x15 x16:Option SV):
  mSeq k1 (mSeq (mIfS k2c (mRet (mC (.bl false))) mSkip) (mSeq k3 k4)) (OS NS WS s x7 x8 x9 x10 x11 x12 x13 x14 x15 x16) C=some (.rt (.v (.bl true)),C):=by
 have hdue:=R.all_due (s:=s)
 obtain ⟨ts,cs,e1,nd,ri,mm,_,hcs⟩:=marks_eq (ls:=lsR a rs) s [] (.dtt [] []) R.good (com_ok (a:=a) rs) R.bd (Yi 3) (by
  rw[hdue]
  have:=ZdD (f:=Rc.due a s) (n:=2) (l:=rs) fun r _=>len_due r
  have:=R.few
  lia)
 rw[hdue] at mm
 have hfe:=found_eq R nd ri mm
 have hds:(rs.flatMap 8e3).length < 64:=by
  have:=ZdD (f:=Rc.due a s) (n:=2) (l:=rs) fun r _=>len_due r
  have:=R.few
  lia
 have hso:=sortP_cm _ hds
 rw[hfe] at hso
 have hfl:flats (cs.map Cm.P)=true:=Zbc (f:=Cm.P) flat_cm cs
 have hcl:(cs.map Cm.P).length<=100000:=by rw[Yf];lia
 obtain ⟨ds,hds2⟩:∃ds:List Cm,(cs.map Cm.P).filter noTw=ds.map Cm.P:=⟨cs.filter fun c=>noTw c.P,ZcB _ _ _⟩
 have c1:=v.c1
 have c2:=v.c2
 have c3:=v.c3
 have s1:k1 (OS NS WS s x7 x8 x9 x10 x11 x12 x13 x14 x15 x16) C=some (.nx 5e3,C):=by
  have hM:kM (OS NS WS s x7 x8 x9 x10 x11 x12 x13 x14 x15 x16) C=some (cs.map Cm.P,C):=by
   generalize (lsR a rs).map Lt.P=LS at *
   generalize ckR a rs=ck at *
   generalize cvR rs=cv at *
   generalize cs.map Cm.P=R' at *
   unfold OS
   simp![kM,mFnFS,mDict0T,pickK,smallX,smallC,c1,c2,e1,hfl,backC]
  have hc:=Zb8 (tt:=kT) (te:=mVar 0) (p:=noTw) (f:=fun x=>x) (cs.map Cm.P) [none] [] C (fun x hx=>by
   obtain ⟨c,_,rfl⟩:=Yw.mp hx
   exact ⟨kT_ok c [] C,fun _=>rfl⟩)
  rw[WF,List.map_id',hds2] at hc
  generalize cs.map Cm.P=R' at *
  generalize ds.map Cm.P=DS at *
  have hs:stIn' ["_law_claim"] [] (OS NS WS s x7 x8 x9 x10 x11 x12 x13 x14 x15 x16)=[none]:=rfl
  unfold k1 mSet mVal mComp mItems
  simp only[bnd,mVal,hM,Pu.ret,opM,itemsP,hcl,if_true,hs,hc]
  rfl
 have s2:k2c 5e3 C=some (false,C):=by
  rw[hds2] at hso
  have hd:=deep_same (cs:=ds)
  generalize ds.map Cm.P=DS at *
  generalize (rs.flatMap 8e3).map Cm.P=DU at *
  unfold OS
  simp![k2c,mSorted3,sortedH3,sortedH2,c3,hso,hd]
 have hma:=alone_eq R
 have s3:k3 5e3 C=some (.nx (OS NS WS s x7 x8 x9 x10 x11 x12 x13 x14 #[.lst (ds.map Cm.P)] #[.lst ((mains a rs).map Lt.P)]),C):=by
  have hc:=Zb8 (tt:=kA) (te:=mVar 0) (p:=fun x=>match x with | .tup (.str h::_)=>decide (h=a) | _=>false) (f:=fun x=>x) ((lsR a rs).map Lt.P) [none,#[WS]] [] [] (fun x hx=>by
   obtain ⟨l,_,rfl⟩:=Yw.mp hx
   refine ⟨?_,fun _=>rfl⟩
   have h0:ixQ l.P (.int 0)=some (.str l.h):=by simp[Lt.P,ixQ,ixP,atI,ixN]
   have hd:deepP eqD (.str l.h) (.str a)=some (.bl (decide (l.h=a))):=by
    unfold deepP eqD;simp[dat,dep]
    rw[X3];simp
   show kA [#[l.P],#[WS]] []=some (decide (l.h=a),[])
   generalize decide (l.h=a)=bb at *
   generalize l.P=LP at *
   simp![kA,h0,ha,hd])
  rw[WF,List.map_id',ZcB] at hc
  have hf:((lsR a rs).filter fun l=>match l.P with | .tup (.str h::_)=>decide (h=a) | _=>false)=(lsR a rs).filter fun l=>decide (l.h=a):=rfl
  rw[hf,hma] at hc
  have hll:((lsR a rs).map Lt.P).length<=100000:=by have:=R.good.few;rw[Yf];lia
  have hfl2:flats ((mains a rs).map Lt.P)=true:=Zbc (f:=Lt.P) flat_P _
  have hP:mPureF (mComp (mItems (mVar 4)) ["_law_letter"] [2] (hName 0) kA 3e7) 5e3 C=some ((mains a rs).map Lt.P,C):=by
   have hr:mComp (mItems (mVar 4)) ["_law_letter"] [2] (hName 0) kA 3e7 (derefA C 5e3) []=some ((mains a rs).map Lt.P,[]):=by
    have hi:mItems (mVar 4) (derefA C 5e3) []=some ((lsR a rs).map Lt.P,[]):=by
     have h4:(derefA C 5e3)[4]? = some #[.lst ((lsR a rs).map Lt.P)]:=by
      show some ((C[1]?).map SV.v)=_
      rw[c1];rfl
     have hv:mVar 4 (derefA C 5e3) []=some (.v (.lst ((lsR a rs).map Lt.P)),[]):=by unfold mVar;rw[h4]
     unfold mItems bnd
     rw[hv];rfl
    have hs:stIn' ["_law_letter"] [2] (derefA C 5e3)=[none,#[WS]]:=rfl
    unfold mComp
    simp only[bnd,hi,hll,if_true,hs,hc]
   unfold mPureF
   rw[hr]
   simp only[hfl2,if_true]
  generalize (mains a rs).map Lt.P=MS' at *
  generalize ds.map Cm.P=DS at *
  unfold k3 mSet mVal
  simp only[bnd,hP,Pu.ret]
  rfl
 have s4:k4 (OS NS WS s x7 x8 x9 x10 x11 x12 x13 x14 #[.lst (ds.map Cm.P)] #[.lst ((mains a rs).map Lt.P)]) C=some (.rt (.v (.bl true)),C):=by
  obtain ⟨ts2,cs2,e2,_,_,mm2,t0,_⟩:=marks_eq (ls:=mains a rs) (ck:=[]) (cv:=[]) s C (.dtt [] []) R.good2 ⟨rfl,fun v h=>(nomatch h)⟩ (bd2 rs) 1e4 (by rw[R.none2];simp)
  rw[R.none2,t0 (Yi 1)] at mm2
  have hn:cs2.map Cm.P=[]:=by
   cases h:cs2.map Cm.P with
   | nil=>rfl
   | cons x l=>
    have:=(mm2 x).mp (by rw[h];exact .head _)
    simp at this
  rw[hn] at e2
  have hd:deepP eqD (.lst []) (.lst [])=some (.bl true):=by
   unfold deepP eqD eqDs;simp[dat,dats,dep,deps]
  generalize (mains a rs).map Lt.P=MS' at *
  generalize ds.map Cm.P=DS at *
  unfold OS
  simp![k4,mDict0T,e2,hd]
 rw[ZaA s1,ZaA (ZcH s2),ZaA s3]
 exact s4
end
def l1:PSt->M PF:=mNew 1 (mFnF FF_l_left (aCons 3e7 (aCons 5e7 aNil)))
def l2:PSt->M PF:=mSet 2 (mFn F_l_words (aCons 4e3 (aCons (mC (.int 12)) aNil)))
def l3:PSt->M PF:=mSet 3 (mOp 4e9 (mVal (mLst (aCons 4e1 (aCons 5e7 (aCons (mC (.int 7)) (aCons (mC (.int 40)) (aCons (mOp 8e1 (mOp (g2 powP) (mC (.int 10)) (mC (.int 20))) (mC (.int 3))) aNil))))))) (pk 5))
def lR:PSt->M 2e9:=mRange1 (aCons (mOp 8e1 5e7 (pk 9)) aNil)
theorem law_is:B_law=mSeq l1 (mSeq l2 (mSeq l3 (mSeq (mNew 4 (mLst aNil)) (mSeq (mNewT 5) (mSeq (mNew 6 (mLst aNil)) (mSeq (mFor lR (hName 7) fb) (mSeq k1 (mSeq (mIfS k2c (mRet (mC (.bl false))) mSkip) (mSeq k3 k4))))))))):=rfl
theorem law_pure (_ht:True)(ns:List Int)(hn:ns.length<=63):F_law [.v (.lst (ns.map .int))] []=some (.v (.bl true),[]):=by
 obtain ⟨x,y,e1,hy⟩:=left_eq ns 1 [] 1e4 1e4
 have g0:GS [.lst [.int x,.int y]] 0:=⟨x,y,rfl,hy⟩
 obtain ⟨ws,C1,e2,hl,nd,hw,A1⟩:=words_adv 0 [.lst [.int x,.int y]] g0
 have ha:=ix_ws ws 10 1e2
 have hb:=ix_ws ws 11 1e2
 have hlen1:C1.length=1:=A1.len
 generalize ns.map PV.int=NS at *
 have r1:l1 [#[.lst NS],none,none,none,none,none,none,none,none,none,none,none,none,none,none,none,none] []=some (.nx [#[.lst NS],some (.c 0),none,none,none,none,none,none,none,none,none,none,none,none,none,none,none],[.lst [.int x,.int y]]):=by
  simp![l1,mNew,e1]
 have r2:l2 [#[.lst NS],some (.c 0),none,none,none,none,none,none,none,none,none,none,none,none,none,none,none] [.lst [.int x,.int y]]=some (.nx [#[.lst NS],some (.c 0),#[.lst 8e2],none,none,none,none,none,none,none,none,none,none,none,none,none,none],C1):=by
  generalize ws.map PV.str=WS at *
  simp![l2,e2]
 obtain ⟨d,C2,p3,d1,d2,A2⟩:=Zds 5 1e4 [#[.lst NS],some (.c 0),#[.lst 8e2],none,none,none,none,none,none,none,none,none,none,none,none,none,none] rfl C1 A1.gs
 obtain ⟨p,hp,ex⟩:=ix_mem [.int 0,.int 1,.int 7,.int 40,.int (10 ^ 20 + 3)] d d1 (by simpa using d2)
 obtain ⟨s,rfl⟩:∃s:Int,p=.int s:=by
  simp only[Yl,Xp,or_false] at hp
  rcases hp with rfl | rfl | rfl | rfl | rfl<;>exact ⟨_,rfl⟩
 have r3:l3 [#[.lst NS],some (.c 0),#[.lst 8e2],none,none,none,none,none,none,none,none,none,none,none,none,none,none] C1=some (.nx [#[.lst NS],some (.c 0),#[.lst 8e2],#[.int s],none,none,none,none,none,none,none,none,none,none,none,none,none],C2):=by
  have hpw:powP (.int 10) (.int 20)=some (.int (10 ^ 20)):=rfl
  generalize ws.map PV.str=WS at *
  generalize (10:Int) ^ 20=z at *
  unfold l3
  generalize pk 5=pp at *
  simp only[mSet,mOp,bnd,mVal,mLst,aCons,aNil,mC,Pu.ret,opM,g2,deref,hpw,Option.map,addP,Pu.plain]
  rw[if_pos 3e0]
  simp only[p3,ex]
  rfl
 have hlen2:C2.length=1:=by rw[A2.len,hlen1]
 have r4:mNew 4 (mLst aNil) [#[.lst NS],some (.c 0),#[.lst 8e2],#[.int s],none,none,none,none,none,none,none,none,none,none,none,none,none] C2=some (.nx [#[.lst NS],some (.c 0),#[.lst 8e2],#[.int s],some (.c 1),none,none,none,none,none,none,none,none,none,none,none,none],C2++[.lst []]):=by
  rw[←hlen2];rfl
 have r5:mNewT 5 [#[.lst NS],some (.c 0),#[.lst 8e2],#[.int s],some (.c 1),none,none,none,none,none,none,none,none,none,none,none,none] (C2++[.lst []])=some (.nx [#[.lst NS],some (.c 0),#[.lst 8e2],#[.int s],some (.c 1),some (.c 2),none,none,none,none,none,none,none,none,none,none,none],C2++[.lst []]++[.dtt [] []]):=by
  have:(C2++[PV.lst []]).length=2:=by rw[Yu,hlen2];rfl
  rw[show (some (SV.c 2):Option SV)=some (.c (C2++[PV.lst []]).length) from by rw[this]];rfl
 have r6:mNew 6 (mLst aNil) [#[.lst NS],some (.c 0),#[.lst 8e2],#[.int s],some (.c 1),some (.c 2),none,none,none,none,none,none,none,none,none,none,none] (C2++[.lst []]++[.dtt [] []])=some (.nx (OS (.lst NS) (.lst 8e2) s none none none none none none none none none none),C2++[.lst []]++[.dtt [] []]++[.lst []]):=by
  have:(C2++[PV.lst []]++[PV.dtt [] []]).length=3:=by rw[Yu,Yu,hlen2];rfl
  unfold OS
  rw[show (some (SV.c 3):Option SV)=some (.c (C2++[PV.lst []]++[PV.dtt [] []]).length) from by rw[this]];rfl
 obtain ⟨C3,hC3⟩:∃C3,C3=C2++[.lst []]++[.dtt [] []]++[.lst []]:=7e1
 rw[←hC3] at r6
 have hsh:∃q,C2=[q]:=by
  cases C2 with
  | nil=>simp at hlen2
  | cons q l=>cases l with
   | nil=>exact ⟨q,rfl⟩
   | cons _ _=>simp at hlen2
 have g3:GS C3 0:=by
  obtain ⟨x,y,e,q⟩:=A2.gs
  obtain ⟨z,rfl⟩:=hsh
  exact ⟨x,y,by rw[hC3];exact e,q⟩
 have v0:OV ws[10] ws[11] s [] C3:=by
  obtain ⟨z,rfl⟩:=hsh
  refine ⟨g3,?_,?_,?_,?_⟩<;>(rw[hC3];first | rfl | simp)
 have R0:Rs ws[10] ws[11] ([]:List Rc):=by
  refine ⟨fun r h=>(nomatch h),by simp,by simp,(hw _ (XQ _)).1,(hw _ (XQ _)).1,fun z=>?_,fun z=>?_⟩
  ·have:=(Vp nd).mp z
   lia
  ·have:=(hw ws[10] (XQ _)).2
   rw[z] at this
   exact this 6e1
 obtain ⟨f,C4,p7,f1',f2',A4⟩:=Zds 9 1e4 (OS (.lst NS) (.lst 8e2) s none none none none none none none none none none) rfl C3 g3
 have v4:OV ws[10] ws[11] s [] C4:=⟨A4.gs,by rw[A4.oth 1 1e4];exact v0.c1,by rw[A4.oth 2 1e4];exact v0.c2,by rw[A4.oth 3 1e4];exact v0.c3,by rw[A4.len];exact v0.len⟩
 obtain ⟨m,hm,hm9⟩:∃m:Nat,1 + f=(m:Int)/\m<=9:=⟨(1 + f).toNat,by lia,by lia⟩
 obtain ⟨rs,C5,y7,y8,y9,y10,y11,y12,y13,y14,e5,v5,R5⟩:=o_loop (NS:=.lst NS) (s:=s) hl nd (fun w h=>(hw w h).1) ha hb none none m [] C4 none none none none none none none none v4 R0 rfl (by simpa using hm9)
 have r7:mFor lR (hName 7) fb (OS (.lst NS) (.lst 8e2) s none none none none none none none none none none) C3=some (.nx (OS (.lst NS) (.lst 8e2) s y7 y8 y9 y10 y11 y12 y13 y14 none none),C5):=by
  have hr:lR (OS (.lst NS) (.lst 8e2) s none none none none none none none none none none) C3=some ((Vv 0 m).map fun (q:Nat)=>PV.int (0 + q),C4):=by
   have hrg:rng1P [.v (.int (1 + f))]=some ((Vv 0 m).map fun (q:Nat)=>PV.int (0 + q)):=by
    unfold rng1P;dsimp only
    rw[if_pos 1e2,hm,XG,List.range_eq_range']
   generalize OS (.lst NS) (.lst 8e2) s none none none none none none none none none none=ρ at *
   generalize ((Vv 0 m).map fun (q:Nat)=>PV.int (0 + q))=RG at *
   simp![lR,mRange1,p7,addP,hrg]
  unfold mFor bnd
  rw[hr];exact e5
 have r8:=end_ok (NS:=.lst NS) ha R5 v5 y7 y8 y9 y10 y11 y12 y13 y14 none none
 have run:B_law [#[.lst NS],none,none,none,none,none,none,none,none,none,none,none,none,none,none,none,none] []=some (.rt (.v (.bl true)),C5):=by
  rw[law_is,ZaA r1,ZaA r2,ZaA r3,ZaA r4,ZaA r5,ZaA r6,ZaA r7];exact r8
 unfold F_law
 generalize B_law=bl at *
 simp![run]
def qv:Program:=W.view PySem.Challenge.pw_holdword_k32_clocks_at_the_bound [0,2,4,6,7,9,11,12,13,14,15,16,17,19,20,21,22,23]
def fnames:List Str:=List.map Wn ["name_of","in_order","by_name","followed","row_among","is_back","is_loose","is_behind","is_ahead","twins","marks_of","marks","_law_cell_at","_law_left","_law_pick","_law_words","law"]
def sts:List (Str×Stmt):=fnames.zip (List.map top [2,4,6,7,9,11,12,13,14,15,16,17,19,20,21,22,23])
theorem sts_ok:(recsOf qv).map Hd.four=sts.map Hd.fourS:=by kernel_rfl
def hk:W.Hook:=W.Hook.none
theorem hl:W.LeftO PySem.Challenge.pw_holdword_k32_clocks_at_the_bound qv [] (fun s=>W.xlAt qv [] s&&W.recOk [] s) hk.obs hk.val 1242:=
 W.LeftO.of_split "special-get-raises" (fun w=>by kernel_rfl)
theorem all_mk {P:Yy}{w:World}{K:W.Frag}{mg:2e6}{fa:Addr}(hfa:mg "law"=some (.ref fa))(T:Txt mg)
  (e_name_of:Hd.FnAt K mg "name_of" ZcM)
  (e_in_order:Hd.FnAt K mg "in_order" Zby)
  (e_by_name:Hd.FnAt K mg "by_name" ZcP)
  (e_followed:Hd.FnAt K mg "followed" Zcf)
  (e_row_among:Hd.FnAt K mg "row_among" ZbJ)
  (e_is_back:Hd.FnAt K mg "is_back" ZcO)
  (e_is_loose:Hd.FnAt K mg "is_loose" Zcd)
  (e_is_behind:Hd.FnAt K mg "is_behind" ZbL)
  (e_is_ahead:Hd.FnAt K mg "is_ahead" Zce)
  (e_twins:Hd.FnAt K mg "twins" s_twins)
  (e_marks_of:Hd.FnAt K mg "marks_of" Zcc)
  (e_marks:Hd.FnAt K mg "marks" s_marks)
  (e__law_cell_at:Hd.FnAt K mg "_law_cell_at" ZbK)
  (e__law_left:Hd.FnAt K mg "_law_left" Zcs)
  (e__law_pick:Hd.FnAt K mg "_law_pick" s_l_pick)
  (e__law_words:Hd.FnAt K mg "_law_words" ZcN)
  (e_law:Hd.FnAt K mg "law" s_law)
  :∃fd:Wh,(∀(s:Shared) (v:Value),BindsTo s fd ⟨[v],[]⟩ [("_law_script",v)])/\∀base:Heap,FnOk P w K mg base CX0 6 fa fd ["_law_script"] (Hd.spLaw K):=by
 obtain ⟨f_law,fd_law,m_law,N_law⟩:=e_law
 have e:=hfa.symm.trans m_law;cases e
 have hb:∀(s:Shared) (v:Value),BindsTo s fd_law ⟨[v],[]⟩ [("_law_script",v)]:=by
  obtain ⟨oc,od,kV,doc,pm,an,cdv,ct,osl,rfl,lk,hcd⟩:=N_law.ex
  exact fun s v=>.of_eq rfl
 refine ⟨fd_law,hb,fun base=>?_⟩
 have E_name_of:=ok_name_of (P:=P) (w:=w) (base:=base) e_name_of T
 have E_in_order:=ok_in_order (P:=P) (w:=w) (base:=base) e_in_order T
 have EF_in_order:=okF_in_order (P:=P) (w:=w) (base:=base) e_in_order T
 have E_by_name:=ok_by_name (P:=P) (w:=w) (base:=base) e_by_name T E_name_of
 have E_followed:=ok_followed (P:=P) (w:=w) (base:=base) e_followed T
 have E_row_among:=ok_row_among (P:=P) (w:=w) (base:=base) e_row_among T E_followed
 have E_is_back:=ok_is_back (P:=P) (w:=w) (base:=base) e_is_back T E_followed
 have E_is_loose:=ok_is_loose (P:=P) (w:=w) (base:=base) e_is_loose T E_name_of E_row_among E_followed
 have E_is_behind:=ok_is_behind (P:=P) (w:=w) (base:=base) e_is_behind T
 have E_is_ahead:=ok_is_ahead (P:=P) (w:=w) (base:=base) e_is_ahead T E_name_of
 have E_twins:=ok_twins (P:=P) (w:=w) (base:=base) e_twins T E_followed
 have EF_twins:=okF_twins (P:=P) (w:=w) (base:=base) e_twins T E_followed
 have E_marks_of:=ok_marks_of (P:=P) (w:=w) (base:=base) e_marks_of T E_name_of E_is_ahead E_is_behind E_is_loose E_is_back
 have E_marks:=ok_marks (P:=P) (w:=w) (base:=base) e_marks T E_by_name EF_twins E_marks_of EF_in_order
 have EF_marks:=okF_marks (P:=P) (w:=w) (base:=base) e_marks T E_by_name EF_twins E_marks_of EF_in_order
 have E__law_cell_at:=ok_l_cell_at (P:=P) (w:=w) (base:=base) e__law_cell_at T
 have E__law_left:=ok_l_left (P:=P) (w:=w) (base:=base) e__law_left T E__law_cell_at
 have EF__law_left:=okF_l_left (P:=P) (w:=w) (base:=base) e__law_left T E__law_cell_at
 have E__law_pick:=ok_l_pick (P:=P) (w:=w) (base:=base) e__law_pick T
 have E__law_words:=ok_l_words (P:=P) (w:=w) (base:=base) e__law_words T E__law_pick
 have E_law:=ok_law (P:=P) (w:=w) (base:=base) N_law T EF__law_left E__law_words E__law_pick EF_marks
 exact E_law.imp (Hd.spLaw_lift fun ns hl=>law_pure trivial ns hl)
def bl:List Str:=["any","enumerate","int","len","list","max","range","set","sorted","tuple"]
theorem hbl:bl.all (fun x=>!Hd.isHere qv (W.looseW qv []) x)=true:=by kernel_rfl
theorem said:PySem.Challenge.rw_holdword_k32_clocks_at_the_bound.wellSaid=true:=by kernel_rfl
end K32
open PySem PySem.W PyProof.Rows
set_option maxRecDepth 100000 in
set_option maxHeartbeats 0 in
theorem PySem.Challenge.cw_holdword_k32_clocks_at_the_bound_holds : PySem.Challenge.rw_holdword_k32_clocks_at_the_bound.Holds := by
 refine holds_law K32.said fun said=>?_
 refine holds_open (q:=K32.qv) (loose:=[]) (Xt:=fun s=>xlAt K32.qv [] s&&recOk [] s) (XP:=XL K32.qv []) (YP:=K32.hk.says) K32.hl (Hook.of K32.hk) (Hook.keeps K32.hk) (fun s e=>xl_of s (Bool.and_eq_true_iff.mp e).1) XL.keeps (d:=⟨"law",L2.defArgs K32.s_law,L2.defBody K32.s_law,L2.defScope K32.s_law,Hd.defPos K32.s_law⟩) (kwd:=[]) (by kernel_rfl) (by kernel_rfl) (by kernel_rfl) (fun s e=>recFacts_of (Bool.and_eq_true_iff.mp e).2) 1e3 said (by kernel_rfl) ⟨rfl,rfl,rfl,rfl,rfl,by decide +kernel⟩ ⟨[.list []],by decide +kernel,by decide +kernel⟩ ?_
 refine Hd.walk (k:=6) rfl rfl ⟨rfl,by decide,by decide⟩ [] fun w s₀ mg mb h as G Y h0 A fa hmg=>?_
 refine K32.all_mk hmg ⟨Hd.str_of (G.T.const "JUDGE" (.str "bell") (by kernel_rfl)),Hd.nones G.T K32.hbl 0 rfl,Hd.nones G.T K32.hbl 1 rfl,Hd.nones G.T K32.hbl 2 rfl,Hd.nones G.T K32.hbl 3 rfl,Hd.nones G.T K32.hbl 4 rfl,Hd.nones G.T K32.hbl 5 rfl,Hd.nones G.T K32.hbl 6 rfl,Hd.nones G.T K32.hbl 7 rfl,Hd.nones G.T K32.hbl 8 rfl,Hd.nones G.T K32.hbl 9 rfl⟩ (Hd.fn_at A K32.sts_ok 0 rfl) (Hd.fn_at A K32.sts_ok 1 rfl) (Hd.fn_at A K32.sts_ok 2 rfl) (Hd.fn_at A K32.sts_ok 3 rfl) (Hd.fn_at A K32.sts_ok 4 rfl) (Hd.fn_at A K32.sts_ok 5 rfl) (Hd.fn_at A K32.sts_ok 6 rfl) (Hd.fn_at A K32.sts_ok 7 rfl) (Hd.fn_at A K32.sts_ok 8 rfl) (Hd.fn_at A K32.sts_ok 9 rfl) (Hd.fn_at A K32.sts_ok 10 rfl) (Hd.fn_at A K32.sts_ok 11 rfl) (Hd.fn_at A K32.sts_ok 12 rfl) (Hd.fn_at A K32.sts_ok 13 rfl) (Hd.fn_at A K32.sts_ok 14 rfl) (Hd.fn_at A K32.sts_ok 15 rfl) (Hd.fn_at A K32.sts_ok 16 rfl)