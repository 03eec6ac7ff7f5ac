import PyProof.Rows.All
import Wide.All
import OpenK.AllK
import Wide.FinOn
import Lean
import PyProof.EqAt
import PyProof.EqKinds
import PyProof.TupleCall
import PyProof.DictCompW
import PySem.SetOps
import PyProof.SetScanFacts
import PyProof.SetKind
import PyProof.TupleKey
import PyProof.DictRoadsH
import PyProof.IsRules
import PyProof.Rows.SetFrom
import PyProof.WalksMore
import PyProof.NeKinds
import KE.KSortTup
import KE.KDictOf
import PyProof.DictFindH
import PyProof.AttrMissSeq
import KE.KDictList
import PyProof.CollectWalk
import PyProof.StrBlock2
import PyProof.SeqI3
import PyProof.EnumMake
import PyProof.WalksEnum
import PyProof.DictValues
import PyProof.DictWalks
import KE.KRevSl
import PyProof.ListMulAny
import PyProof.Rows.ListMul
import PyProof.Draws
import PyProof.Rows.IntBool
import KE.KRevIter
import PyProof.Rows.FStr
import PyProof.Rows.StrNews
import PyProof.Rows.StrSplitAre
import PyProof.CallStr
import KE.KIntText
import PyProof.AutoListH
import PySem.Challenge.RW_holdword_k82_claims_shown
set_option backward.eqns.nonrecursive false
set_option genSizeOf false
set_option compiler.extract_closed false
set_option bootstrap.genMatcherCode false
set_option Elab.async false
set_option linter.all false
set_option maxRecDepth 100000
namespace Hd
open PySem PySem.W
noncomputable def seenTab (names : List Str) (tas : List Addr) (h : Heap) : Option (List (Option (Option Value))) × List (Option Obj) :=
 ((h.get? mainGlobals).map fun om => names.map (nsIn [(mainGlobals, om)] mainGlobals), tas.map h.get?)
noncomputable def tabHook (names : List Str) (vals : List (Option (Option Value))) (tas : List Addr) (tos : Params -> List Obj) : Hook where
 α := Option (List (Option (Option Value))) × List (Option Obj)
 obs := fun s => seenTab names tas s.heap
 val := fun w => (some vals, (tos w.params).map some)
 says := fun w h => (∃ om, h.get? mainGlobals = some om /\ names.map (nsIn [(mainGlobals, om)] mainGlobals) = vals) /\ tas.map h.get? = (tos w.params).map some
 of := fun w s e => by
  obtain ⟨e1, e2⟩ := Prod.mk.inj e
  obtain ⟨om, g, e⟩ := Option.map_eq_some_iff.mp e1
  exact ⟨⟨om, g, e⟩, e2⟩
 keeps := fun w h h' ⟨⟨om, g, e⟩, e2⟩ k => by
  refine ⟨⟨om, k _ _ g, e⟩, ?_⟩
  rw [← e2]
  refine List.map_congr_left fun a m => ?_
  have : ∃ o, h.get? a = some o := by
   have m2 : h.get? a ∈ tas.map h.get? := List.mem_map_of_mem m
   rw [e2] at m2
   obtain ⟨o, _, q⟩ := List.mem_map.mp m2
   exact ⟨o, q.symm⟩
  obtain ⟨o, q⟩ := this
  rw [q, k _ _ q]
end Hd
namespace K82
open PySem
set_option maxHeartbeats 4000000
noncomputable def qv : Program := W.view PySem.Challenge.pw_holdword_k82_claims_shown [1, 2, 3, 4, 5, 6, 7, 9, 10, 12, 13, 14, 15, 18, 23, 24, 25, 27, 28, 29, 30, 31, 32, 33, 34, 36, 37, 38, 39, 40, 41, 42, 43, 44, 45, 46, 47]
noncomputable def tnames : List Str := ["READ_FORMS", "is_of_due", "is_of_clause", "is_of_name", "MARK_FORMS", "is_of_two_names"]
noncomputable def tvals : List (Option (Option Value)) := [some (some (.ref 83)), some (some (.ref 61)), some (some (.ref 68)), some (some (.ref 75)), some (some (.ref 84)), some (some (.ref 82))]
noncomputable def Zbp (P : Params) : List DictEntry := [⟨PyData.keyHash P "held", .str "held" 272, .ref 61⟩, ⟨PyData.keyHash P "kept", .str "kept" 273, .ref 68⟩, ⟨PyData.keyHash P "late", .str "late" 274, .ref 68⟩, ⟨PyData.keyHash P "ill", .str "ill" 275, .ref 75⟩]
noncomputable def Zbq (P : Params) : List DictEntry := [⟨PyData.keyHash P "back", .str "back" 281, .ref 75⟩, ⟨PyData.keyHash P "twin", .str "twin" 282, .ref 82⟩, ⟨PyData.keyHash P "loose", .str "loose" 283, .ref 75⟩, ⟨PyData.keyHash P "behind", .str "behind" 284, .ref 75⟩, ⟨PyData.keyHash P "ahead", .str "ahead" 285, .ref 75⟩]
noncomputable def tobjs (P : Params) : List Obj := [⟨.type "dict", none, .dict (Zbp P).toArray 4, #[]⟩, ⟨.type "dict", none, .dict (Zbq P).toArray 5, #[]⟩]
noncomputable def hk : W.Hook := Hd.tabHook tnames tvals [83, 84] tobjs
theorem hl : W.LeftO PySem.Challenge.pw_holdword_k82_claims_shown qv ["READ_FORMS", "MARK_FORMS", "HoldError", "NoLetter"] (fun s => W.xlAt qv [] s && W.recOk [] s) hk.obs hk.val 3444 :=
 W.LeftO.of_split "special-get-raises" (fun w => by kernel_rfl)
end K82
namespace L2
open PySem PySem.Spec PyProof.Rows
noncomputable abbrev Key := Sum Int Str
noncomputable def keyIs : Key -> Value -> Bool
 | .inl k, v => Value.isInt k v
 | .inr x, v => Value.isStrOf x v
noncomputable def keyH (w : World) : Key -> Int
 | .inl k => hashInt k
 | .inr x => hashStr w x
theorem Zay : ∀ {k : Key} {v : Value}, keyIs k v = true -> (∃ i t, k = Sum.inl i /\ v = Value.int i t) \/ (∃ x t, k = Sum.inr x /\ v = Value.str x t)
 | .inl i, v, h => by
  obtain ⟨t, e⟩ := Value.isInt_shape (k := i) (v := v) h
  exact .inl ⟨i, t, rfl, e⟩
 | .inr x, v, h => by
  obtain ⟨t, e⟩ := Value.isStrOf_shape (x := x) (v := v) h
  exact .inr ⟨x, t, rfl, e⟩
theorem keyIs_int (i : Int) (t : Tok) : keyIs (.inl i) (.int i t) = true := by simp [keyIs, Value.isInt]
theorem keyIs_str (x : Str) (t : Tok) : keyIs (.inr x) (.str x t) = true := by simp [keyIs, Value.isStrOf]
theorem key_ll (a b : Int) : decide ((Sum.inl a : Key) = Sum.inl b) = (a == b) := by
 by_cases e : a = b
 ·subst e; simp
 ·have h : ¬ (Sum.inl a : Key) = Sum.inl b := fun q => e (Sum.inl.inj q)
  rw [decide_eq_false h]
  exact (beq_eq_false_iff_ne.mpr e).symm
theorem key_rr (a b : Str) : decide ((Sum.inr a : Key) = Sum.inr b) = decide (a = b) := by
 by_cases e : a = b
 ·subst e; simp
 ·have h : ¬ (Sum.inr a : Key) = Sum.inr b := fun q => e (Sum.inr.inj q)
  rw [decide_eq_false h, decide_eq_false e]
theorem key_lr (a : Int) (b : Str) : decide ((Sum.inl a : Key) = Sum.inr b) = false := decide_eq_false (fun q => nomatch q)
theorem key_rl (a : Str) (b : Int) : decide ((Sum.inr a : Key) = Sum.inl b) = false := decide_eq_false (fun q => nomatch q)
noncomputable def mixKind (prog : Program) (w : World) : PySem.KeyKind prog w Key where
 is := keyIs
 hash := keyH w
 inj := fun v a b ha hb => by
  rcases Zay ha with ⟨i, t, rfl, rfl⟩ | ⟨x, t, rfl, rfl⟩
  ·rcases Zay hb with ⟨j, u, rfl, e⟩ | ⟨y, u, rfl, e⟩
   ·injection e with e1 _; rw [e1]
   ·exact nomatch e
  ·rcases Zay hb with ⟨j, u, rfl, e⟩ | ⟨y, u, rfl, e⟩
   ·exact nomatch e
   ·injection e with e1 _; rw [e1]
 byValue := fun k v h => by
  rcases Zay h with ⟨i, t, rfl, rfl⟩ | ⟨x, t, rfl, rfl⟩ <;> rfl
 pyHash := fun hv h => by
  rcases Zay hv with ⟨i, t, rfl, rfl⟩ | ⟨x, t, rfl, rfl⟩
  ·exact wpAny_pyHash_int h
  ·exact wpAny_pyHash_str h
 eqBool := fun hu hv h => by
  rcases Zay hu with ⟨i, t, rfl, rfl⟩ | ⟨x, t, rfl, rfl⟩
  ·rcases Zay hv with ⟨j, u, rfl, rfl⟩ | ⟨y, u, rfl, rfl⟩
   ·rw [key_ll] at h; exact wpAny_eqBool_int h
   ·rw [key_lr] at h; exact SeqAt.EqAt.int_str i t y u _ _ _ _ h
  ·rcases Zay hv with ⟨j, u, rfl, rfl⟩ | ⟨y, u, rfl, rfl⟩
   ·rw [key_rl] at h; exact SeqAt.EqAt.str_int x t j u _ _ _ _ h
   ·rw [key_rr] at h; exact wpAny_eqBool_str h
 «strs» := fun k x t v h => by
  rcases Zay h with ⟨i, u, rfl, e⟩ | ⟨y, u, rfl, e⟩
  ·exact nomatch e
  ·injection e with e1 _
   subst e1
   cases v <;> rfl
theorem mixKind_int (prog : Program) (w : World) (i : Int) (t : Tok) : (mixKind prog w).is (.inl i) (.int i t) = true := keyIs_int i t
theorem mixKind_str (prog : Program) (w : World) (x : Str) (t : Tok) : (mixKind prog w).is (.inr x) (.str x t) = true := keyIs_str x t
inductive V where
 | non | bl (b : Bool) | int (i : Int) | str (x : Str) | byt (b : Array UInt8) | flt (b : UInt64) | ref (a : Addr) | ty (n : String)
 deriving DecidableEq
noncomputable def RelV : V -> Value -> Prop
 | .non, u => u = Value.none
 | .bl b, u => u = Value.bool b
 | .int i, u => ∃ t, u = Value.int i t
 | .str x, u => ∃ t, u = Value.str x t
 | .byt b, u => ∃ t, u = Value.bytes b t
 | .flt b, u => ∃ t, u = Value.float b t
 | .ref a, u => u = Value.ref a
 | .ty n, u => u = Value.type n
noncomputable abbrev Vals : List V -> List Value -> Prop := Paired RelV
theorem Vals.length {xs : List V} {us : List Value} (r : Vals xs us) : xs.length = us.length := Paired.length r
theorem Vals.get : ∀ {xs : List V} {us : List Value} {i : Nat} {x : V}, Vals xs us -> xs[i]? = some x -> ∃ u, us[i]? = some u /\ RelV x u
 | _, _, _, _, .nil, e => by simp at e
 | _, _, 0, _, .cons r _, e => by simp at e; subst e; exact ⟨_, rfl, r⟩
 | _, _, i + 1, x, .cons _ t, e => by
  obtain ⟨u, h1, h2⟩ := Vals.get (i := i) (x := x) t (by simpa using e)
  exact ⟨u, by simpa using h1, h2⟩
theorem Vals.set {x : V} {u : Value} (r : RelV x u) : ∀ {xs : List V} {us : List Value} (i : Nat), Vals xs us -> Vals (xs.set i x) (us.set i u)
 | _, _, _, .nil => .nil
 | _, _, 0, .cons _ t => .cons r t
 | _, _, i + 1, .cons q t => .cons q (Vals.set r i t)
theorem Vals.append : ∀ {xs ys : List V} {us ws : List Value}, Vals xs us -> Vals ys ws -> Vals (xs ++ ys) (us ++ ws)
 | _, _, _, _, .nil, s => s
 | _, _, _, _, .cons r t, s => .cons r (Vals.append t s)
theorem Vals.take : ∀ {xs : List V} {us : List Value} (n : Nat), Vals xs us -> Vals (xs.take n) (us.take n)
 | _, _, 0, _ => .nil
 | _, _, _ + 1, .nil => .nil
 | _, _, n + 1, .cons r t => .cons r (Vals.take n t)
theorem Vals.drop : ∀ {xs : List V} {us : List Value} (n : Nat), Vals xs us -> Vals (xs.drop n) (us.drop n)
 | _, _, 0, r => r
 | _, _, _ + 1, .nil => .nil
 | _, _, n + 1, .cons _ t => Vals.drop n t
noncomputable def RelO : Option V -> Option Value -> Prop
 | some v, some u => RelV v u
 | none, none => True
 | _, _ => False
noncomputable def KV {κ : Type} : List (κ × V) -> List (κ × Value) -> Prop := Paired fun (p : κ × V) (q : κ × Value) => p.1 = q.1 /\ RelV p.2 q.2
noncomputable def kV : Key -> V
 | .inl i => .int i
 | .inr x => .str x
inductive HO where
  | lst (xs : List V)
  | tup (xs : List V)
  | dK (kvs : List (Key × V)) | dT (kvs : List (List Key × V))
  | set (S : Int -> Bool) (n : Nat)
  | ins (C dx : Addr) (fs : List (Str × V))
  | own (x : Addr)
  | xd (fs : List (Str × V))
  | met (f x : Addr)
  | rng (lo hi : Int)
  | frz (o : Obj) (u : HO)
  | tbl (ps : Array Value)
  | ext (φ : Heap -> Prop)
noncomputable abbrev Hp := Addr -> Option HO
noncomputable def upd (H : Hp) (a : Addr) (o : HO) : Hp := fun b => if b = a then some o else H b
theorem ZaP {H : Hp} {a : Addr} {o : HO} : upd H a o a = some o := by unfold upd; rw [if_pos rfl]
theorem Zam {H : Hp} {a b : Addr} {o : HO} (h : b ≠ a) : upd H a o b = H b := by unfold upd; rw [if_neg h]
theorem Zak {H : Hp} {a b : Addr} {o : HO} (h : H a = some o) (h' : H b = none) : a ≠ b := by
 intro e; subst e; rw [h] at h'; cases h'
section
variable (P : Program) (w : World)
noncomputable def ObjOk (H : Hp) (h : Heap) (a : Addr) : HO -> Prop
 | .lst xs => xs.length <= sizeLine /\ ∃ (its : List Value) (n : Nat), Vals xs its /\ h.get? a = some { cls := .type "list", data := .seq its.toArray n }
 | .tup xs => xs.length <= sizeLine /\ ∃ its : List Value, Vals xs its /\ IsTup h a its.toArray
 | .dK kvs => kvs.length <= sizeLine /\ (a == sysModules) = false /\ ∃ vs, KV kvs vs /\ h.DictOf (mixKind P w) a vs
 | .dT kvs => kvs.length <= sizeLine /\ (a == sysModules) = false /\ ∃ xs : List (List Key × Addr × Value),
   Paired (fun (p : List Key × V) (q : List Key × Addr × Value) => p.1 = q.1 /\ H q.2.1 = some (.tup (p.1.map kV)) /\ RelV p.2 q.2.2) kvs xs /\
   ∃ o es ep, h.get? a = some o /\ o.ExactDict /\ o.data = .dict es ep /\ es.toList = xs.map (entryOfKey (tupleKind (mixKind P w))) /\ (xs.map (·.1)).Nodup
 | .set S n => h.SetOf (intKind P w) a S n
 | .ins C dx fs => H dx = some (.own a) /\ fs.length <= 1000 /\ dx ≠ a /\ h.get? a = some (W.instObj C dx) /\
   ∃ mA, h.Ns1 dx mA /\ (∀ f, RelO (fs.lookup f) (mA f)) /\ PySem.Within mA (fs.map (·.1))
 | .own _ => ∃ o, h.get? a = some o
 | .xd fs => ∃ mA, h.Ns1 a mA /\ ∀ f, RelO (fs.lookup f) (mA f)
 | .rng lo hi => ∃ t u v, h.get? a = some { cls := .type "range", data := .fields #[.int lo t, .int hi u, .int 1 v] }
 | .frz o u => h.get? a = some o /\ ObjOk H h a u
 | .tbl ps => h.get? a = some { cls := .none, data := .fields ps }
 | .met f x => h.get? a = some (W.methodObj (.ref f) (.ref x))
 | .ext φ => φ h /\ (∃ o, h.get? a = some o) /\ ∀ h1 h2 : Heap, φ h1 -> (∀ o, h1.get? a = some o -> h2.get? a = some o) -> φ h2
noncomputable def HOk (H : Hp) (h : Heap) : Prop := ∀ a o, H a = some o -> ObjOk P w H h a o
end
section
variable {P : Program} {w : World} {H H' : Hp} {h h' : Heap} {a : Addr} {o : HO}
theorem ObjOk.lt (x : ObjOk P w H h a o) : a < h.objs.size := by
 cases o with
 | lst xs => obtain ⟨_, _, _, _, e⟩ := x; exact Heap.lt_size e
 | tup xs => obtain ⟨_, _, _, p⟩ := x; exact p.lt
 | dK kvs => obtain ⟨_, _, _, _, o, _, _, e, _⟩ := x; exact Heap.lt_size e
 | dT kvs => obtain ⟨_, _, _, _, o, _, _, e, _⟩ := x; exact Heap.lt_size e
 | set S n => obtain ⟨o, _, _, _, e, _⟩ := x; exact Heap.lt_size e
 | ins C dx fs => obtain ⟨_, _, _, e, _⟩ := x; exact Heap.lt_size e
 | own y => obtain ⟨_, e⟩ := x; exact Heap.lt_size e
 | xd fs => obtain ⟨_, ⟨_, _, _, e, _⟩, _⟩ := x; exact Heap.lt_size e
 | rng lo hi => obtain ⟨_, _, _, e⟩ := x; exact Heap.lt_size e
 | frz ob u => obtain ⟨e, _⟩ := x; exact Heap.lt_size e
 | tbl ps => exact Heap.lt_size (show h.get? a = some _ from x)
 | met f y => exact Heap.lt_size (show h.get? a = some _ from x)
 | ext φ => obtain ⟨_, ⟨_, e⟩, _⟩ := x; exact Heap.lt_size e
theorem Paired.mapP {α β : Type} {F G : α -> β -> Prop} : ∀ {l₁ : List α} {l₂ : List β}, Paired F l₁ l₂ -> (∀ a b, F a b -> G a b) -> Paired G l₁ l₂
 | _, _, .nil, _ => .nil
 | _, _, .cons r t, f => .cons (f _ _ r) (Paired.mapP t f)
theorem ObjOk.stay (x : ObjOk P w H h a o) (k : ∀ b u, (b = a \/ H b = some (.own a)) -> h.get? b = some u -> h'.get? b = some u)
  (ho : ∀ b, H b = some (.own a) -> H' b = some (.own a)) (ht : ∀ b xs, H b = some (.tup xs) -> H' b = some (.tup xs)) : ObjOk P w H' h' a o := by
 induction o with
 | lst xs => obtain ⟨z, its, n, r, e⟩ := x; exact ⟨z, its, n, r, k _ _ (.inl rfl) e⟩
 | tup xs => obtain ⟨z, its, r, ob, e, c⟩ := x; exact ⟨z, its, r, ob, k _ _ (.inl rfl) e, c⟩
 | dK kvs => obtain ⟨z, y, vs, r, ob, es, ep, e, c⟩ := x; exact ⟨z, y, vs, r, ob, es, ep, k _ _ (.inl rfl) e, c⟩
 | dT kvs =>
  obtain ⟨z, y, xs, r, ob, es, ep, e, c⟩ := x
  exact ⟨z, y, xs, Paired.mapP r fun p q z => ⟨z.1, ht _ _ z.2.1, z.2.2⟩, ob, es, ep, k _ _ (.inl rfl) e, c⟩
 | set S n => obtain ⟨ob, es, ep, t, e, c⟩ := x; exact ⟨ob, es, ep, t, k _ _ (.inl rfl) e, c⟩
 | ins C dx fs =>
  obtain ⟨d, z, ne, e, mA, ⟨od, es, ep, e2, c⟩, r⟩ := x
  exact ⟨ho _ d, z, ne, k _ _ (.inl rfl) e, mA, ⟨od, es, ep, k _ _ (.inr d) e2, c⟩, r⟩
 | own y => obtain ⟨ob, e⟩ := x; exact ⟨ob, k _ _ (.inl rfl) e⟩
 | xd fs => obtain ⟨mA, ⟨od, es, ep, e, c⟩, r⟩ := x; exact ⟨mA, ⟨od, es, ep, k _ _ (.inl rfl) e, c⟩, r⟩
 | rng lo hi => obtain ⟨t, u, v, e⟩ := x; exact ⟨t, u, v, k _ _ (.inl rfl) e⟩
 | frz ob u ih => obtain ⟨e, q⟩ := x; exact ⟨k _ _ (.inl rfl) e, ih q⟩
 | tbl ps =>
  have e : h.get? a = some { cls := .none, data := .fields ps } := x
  show h'.get? a = some { cls := .none, data := .fields ps }
  exact k a _ (.inl rfl) e
 | met f y =>
  have e : h.get? a = some (W.methodObj (.ref f) (.ref y)) := x
  show h'.get? a = some (W.methodObj (.ref f) (.ref y))
  exact k a _ (.inl rfl) e
 | ext φ => obtain ⟨p, ⟨o, e⟩, st⟩ := x; exact ⟨st _ _ p fun o q => k _ _ (.inl rfl) q, ⟨o, k _ _ (.inl rfl) e⟩, st⟩
theorem HOk.lt (x : HOk P w H h) (e : H a = some o) : a < h.objs.size := (x a o e).lt
theorem HOk.fresh (x : HOk P w H h) (e : h.objs.size <= a) : H a = none := by
 cases q : H a with
 | none => rfl
 | some u => exact absurd (Nat.lt_of_lt_of_le (x.lt q) e) (Nat.lt_irrefl _)
theorem HOk.kept (x : HOk P w H h) (k : ∀ b u, h.get? b = some u -> h'.get? b = some u) : HOk P w H h' := fun a o e =>
 (x a o e).stay (fun b u _ q => k b u q) (fun _ q => q) fun _ _ q => q
theorem HOk.laid (x : HOk P w H h) (k : ∀ b u, h.get? b = some u -> h'.get? b = some u) (hp : h.objs.size <= a) (new : ObjOk P w (upd H a o) h' a o) : HOk P w (upd H a o) h' := fun b u e => by
 have hn := x.fresh hp
 by_cases hb : b = a
 ·subst hb; rw [ZaP] at e; cases e; exact new
 ·rw [Zam hb] at e
  exact (x b u e).stay (fun c v _ q => k c v q) (fun c q => by rw [Zam (Zak q hn)]; exact q) fun c xs q => by rw [Zam (Zak q hn)]; exact q
end
noncomputable def Rd (H : Hp) (a : Addr) (u : HO) : Prop := H a = some u \/ ∃ o, H a = some (.frz o u)
theorem Rd.ok {P : Program} {w : World} {H : Hp} {h : Heap} {a : Addr} {u : HO} (r : Rd H a u) (x : HOk P w H h) : ObjOk P w H h a u := by
 rcases r with r | ⟨o, r⟩
 ·exact x a u r
 ·obtain ⟨_, q⟩ := x a _ r
  exact q
noncomputable def Mut : Option HO -> Prop
 | some (.lst _) => True
 | some (.dK _) => True
 | some (.dT _) => True
 | some (.set _ _) => True
 | some (.ins _ _ _) => True
 | some (.ext _) => True
 | _ => False
section
variable {P : Program} {w : World} {H : Hp} {h h' : Heap} {x e : Addr} {o' : HO}
theorem HOk.write (ok : HOk P w H h) (mu : Mut (H x)) (he : e = x \/ H e = some (.own x)) (k : ∀ b u, b ≠ e -> h.get? b = some u -> h'.get? b = some u) (heo : ∃ u, h'.get? e = some u)
  (new : ObjOk P w (upd H x o') h' x o') : HOk P w (upd H x o') h' := fun b u q => by
 have nown : ∀ c y, H c = some (.own y) -> c ≠ x := fun c y r z => by subst z; rw [r] at mu; exact mu
 have ntup : ∀ c xs, H c = some (.tup xs) -> c ≠ x := fun c xs r z => by subst z; rw [r] at mu; exact mu
 by_cases hb : b = x
 ·subst hb; rw [ZaP] at q; cases q; exact new
 ·rw [Zam hb] at q
  by_cases hbe : b = e
  ·have q' : H b = some (.own x) := by
    rcases he with z | z
    ·exact absurd (hbe.trans z) hb
    ·rw [hbe]; exact z
   rw [q] at q'; cases q'
   obtain ⟨v, hv⟩ := heo
   exact ⟨v, by rw [hbe]; exact hv⟩
  ·refine (ok b u q).stay (fun c v hc r => k c v ?_ r) (fun c r => by rw [Zam (nown c b r)]; exact r) fun c xs r => by rw [Zam (ntup c xs r)]; exact r
   rcases hc with rfl | hc
   ·exact hbe
   ·rintro rfl
    rcases he with z | z
    ·exact nown c b hc z
    ·rw [hc] at z; cases z; exact hb rfl
end
structure Un (fs ex : List Addr) (H H' : Hp) (h h' : Heap) : Prop where
 keep : ∀ b o, h.get? b = some o -> H b = none -> b ∉ fs -> b ∉ ex -> h'.get? b = some o
 slot : ∀ b o, h.get? b = some o -> H b = none -> b ∈ fs -> b ∉ ex -> ∃ sl, h'.get? b = some { o with slots := sl }
 free : ∀ b o, h.get? b = some o -> H b = none -> b ∉ ex -> H' b = none
 there : ∀ b o, h.get? b = some o -> b ∉ ex -> ∃ o', h'.get? b = some o'
 tups : ∀ b xs, H b = some (.tup xs) -> H' b = some (.tup xs)
 frzs : ∀ b o u, H b = some (.frz o u) -> H' b = some (.frz o u)
 tbls : ∀ b ps, H b = some (.tbl ps) -> ∃ more, H' b = some (.tbl (ps ++ more))
section
variable {fs fs' ex ex' : List Addr} {H H1 H2 : Hp} {h h1 h2 h' : Heap} {a x e : Addr} {o : HO}
theorem Un.any (u : Un fs ex H H1 h h1) {b : Addr} {ob : Obj} (q : h.get? b = some ob) (n : H b = none) (hx : b ∉ ex) : ∃ sl, h1.get? b = some { ob with slots := sl } := by
 by_cases hb : b ∈ fs
 ·exact u.slot b ob q n hb hx
 ·exact ⟨ob.slots, u.keep b ob q n hb hx⟩
theorem Un.kept (k : ∀ b u, h.get? b = some u -> h'.get? b = some u) : Un fs ex H H h h' :=
 ⟨fun b ob q _ _ _ => k b ob q, fun b ob q _ _ _ => ⟨ob.slots, k b ob q⟩, fun _ _ _ n _ => n, fun b ob q _ => ⟨ob, k b ob q⟩, fun _ _ q => q, fun _ _ _ q => q, fun _ ps q => ⟨#[], by rw [q]; simp⟩⟩
theorem Un.refl : Un fs ex H H h h := Un.kept fun _ _ q => q
theorem Un.laid (k : ∀ b u, h.get? b = some u -> h'.get? b = some u) (hp : h.objs.size <= a) (hn : H a = none) : Un fs ex H (upd H a o) h h' where
 keep := fun b u q _ _ _ => k b u q
 slot := fun b u q _ _ _ => ⟨u.slots, k b u q⟩
 free := fun b u q n _ => by rw [Zam (Nat.ne_of_lt (Nat.lt_of_lt_of_le (Heap.lt_size q) hp))]; exact n
 there := fun b u q _ => ⟨u, k b u q⟩
 tups := fun b xs q => by rw [Zam (Zak q hn)]; exact q
 frzs := fun b u xs q => by rw [Zam (Zak q hn)]; exact q
 tbls := fun b ps q => ⟨#[], by rw [Zam (Zak q hn), q]; simp⟩
theorem Un.write (mu : Mut (H x)) (he : e = x \/ H e = some (.own x)) (k : ∀ b u, b ≠ e -> h.get? b = some u -> h'.get? b = some u) (heo : ∃ u, h'.get? e = some u) : Un fs ex H (upd H x o) h h' := by
 have hx : ∀ b, H b = none -> b ≠ x := fun b n z => by subst z; rw [n] at mu; exact mu
 have hb : ∀ b, H b = none -> b ≠ e := fun b n z => by
  subst z
  rcases he with r | r
  ·exact hx b n r
  ·rw [n] at r; cases r
 have hm : ∀ b u, H b = some u -> ¬ Mut (some u) -> b ≠ x := fun b u q nm z => by subst z; rw [q] at mu; exact nm mu
 refine ⟨fun b u q n _ _ => k b u (hb b n) q, fun b u q n _ _ => ⟨u.slots, k b u (hb b n) q⟩, fun b u q n _ => by rw [Zam (hx b n)]; exact n, fun b u q _ => ?_,
  fun b xs q => by rw [Zam (hm b _ q fun z => z)]; exact q, fun b u xs q => by rw [Zam (hm b _ q fun z => z)]; exact q, fun b ps q => ⟨#[], by rw [Zam (hm b _ q fun z => z), q]; simp⟩⟩
 by_cases hbe : b = e
 ·subst hbe; exact heo
 ·exact ⟨u, k b u hbe q⟩
end
noncomputable def trk (h : Heap) (H : Hp) : List Addr := (List.range h.objs.size).filter fun a => (H a).isSome
noncomputable def hidT (h : Heap) (H : Hp) : Heap := W.hideAll h (trk h H)
theorem hidT_size (h : Heap) (H : Hp) : (hidT h H).objs.size = h.objs.size := W.hideAll_size _ _
theorem hidT_get {h : Heap} {H : Hp} {b : Addr} {o : Obj} (e : h.get? b = some o) (n : H b = none) : (hidT h H).get? b = some o :=
 W.hideAll_get _ e fun hm => by
  have q : (H b).isSome = true := (List.mem_filter.mp hm).2
  rw [n] at q; simp at q
theorem of_hidT {h : Heap} {H : Hp} {b : Addr} {o : Obj} (e : (hidT h H).get? b = some o) : h.get? b = some o /\ H b = none := by
 have e' : h.get? b = some o := W.of_hideAll (trk h H) e
 refine ⟨e', ?_⟩
 cases q : H b with
 | none => rfl
 | some x =>
  have hm : b ∈ trk h H := List.mem_filter.mpr ⟨List.mem_range.mpr (Heap.lt_size e'), by simp [q]⟩
  have z : (hidT h H).get? b = none := W.hideAll_none (trk h H) hm
  rw [z] at e; cases e
noncomputable def allNews (g h : Heap) (L : Addr) : List (Addr × Obj) := (List.range h.objs.size).filterMap fun a => if a = L \/ (g.get? a).isSome = true then none else (h.get? a).map fun o => (a, o)
noncomputable def rest (g h : Heap) (L d : Addr) : List (Addr × Obj) := (allNews g h L).filter fun p => decide (p.1 ≠ d)
structure Mod (K : W.Frag) (mg : Str -> Option Value) (base : Heap) : Prop where
 kin : K.In base
 glob : base.Ns mainGlobals mg
 blt : ∃ mb, base.Ns builtinsNs mb /\ ∀ x : Str, x ≠ "__name__" -> mb x = bootBuiltins x
 nolimit : base.NoLimit
structure Cx where
 prog : Program
 w : World
 K : W.Frag
 mg : Str -> Option Value
 base : Heap
 A : Around
 N : List Str
 s₀ : Shared
 H₀ : Hp
 env : Env
 outer : List Env
 stack : List Env
 ex : List Addr
 fn : Str -> Bool
 calm : Bool
 pn : List (Addr × Obj)
 xe : Value -> Shared -> Prop
noncomputable def frs (l : List Env) : List Addr := l.filterMap (·.frame)
noncomputable abbrev Cx.fs (X : Cx) : List Addr := frs X.outer
noncomputable def Vis (sc : Scope) (x : Str) : Prop := sc.names.lookup x = some .local \/ sc.names.lookup x = some .cell \/ sc.names.lookup x = some .free
noncomputable def Loc (sc : Scope) (x : Str) : Prop := sc.names.lookup x = some .local \/ sc.names.lookup x = some .cell
noncomputable def Look (env : Env) (h : Heap) (m : Str -> Option Value) (x : Str) (u : Value) : Prop :=
 (env.kindOf x = some .local /\ m x = some u) \/ ((env.kindOf x = some .cell \/ env.kindOf x = some .free) /\ ∃ c, env.cells.lookup x = some c /\ h.IsCell c (some u))
structure Cx.Ok (X : Cx) : Prop where
 mod : Mod X.K X.mg X.base
 kind : X.env.scope.kind = .function
 glob : X.env.globals = mainGlobals
 blt : X.env.builtins = builtinsNs
 above : X.s₀.heap.objs.size <= X.env.locals
 inj : ∀ x y c, X.env.cells.lookup x = some c -> X.env.cells.lookup y = some c -> x = y
 has : ∀ x, (X.env.kindOf x = some .cell \/ X.env.kindOf x = some .free) -> ∃ c, X.env.cells.lookup x = some c
 cab : ∀ x c, X.fn x = true -> X.env.cells.lookup x = some c -> X.s₀.heap.objs.size <= c
 hd : X.calm = true -> X.A.handled = none
 frames : X.A.frames = some X.stack
 stk : X.stack = X.outer \/ (X.stack = X.env :: X.outer /\ X.env.frame = some X.env.locals)
 exf : ∀ b ∈ X.ex, b ≠ X.env.locals /\ ∀ x c, X.env.cells.lookup x = some c -> c ≠ b
 bs : ∀ b o, X.base.get? b = some o -> X.s₀.heap.get? b = some o /\ X.H₀ b = none
 bsz : X.base.objs.size <= X.s₀.heap.objs.size
 noex : ∀ b o, X.base.get? b = some o -> b ∉ X.ex
 exfs : ∀ b ∈ X.ex, b ∉ X.fs
 funs : X.s₀.heap.FunFrames X.base X.outer
 frf : ∀ b ∈ X.fs, X.H₀ b = none
structure Inv (X : Cx) (pins : List (Addr × Obj)) (σ : List (Option V)) (H : Hp) (s : Shared) : Prop where
 ok : X.Ok
 os : s.os = X.s₀.os
 bare : AllBare s.gens
 base : Un X.fs X.ex X.H₀ H X.s₀.heap s.heap
 loc : ∃ m, s.heap.Ns X.env.locals m /\ ∀ (i : Nat) (x : Str) (v : V), X.N[i]? = some x -> σ[i]? = some (some v) -> Vis X.env.scope x -> ∃ u, RelV v u /\ Look X.env s.heap m x u
 cell : ∀ x c, X.env.cells.lookup x = some c -> ∃ v, s.heap.IsCell c v
 free : H X.env.locals = none
 freeC : ∀ x c, X.env.cells.lookup x = some c -> H c = none
 pin : ∀ p ∈ X.pn ++ pins, s.heap.get? p.1 = some p.2 /\ H p.1 = none /\ p.1 ≠ X.env.locals /\ p.1 ∉ X.fs /\ ∀ v, p.2.data ≠ .cell v
 hok : HOk X.prog X.w H s.heap
 len : σ.length = X.N.length
section
variable {X : Cx} {pins : List (Addr × Obj)} {σ : List (Option V)} {H H' : Hp} {s : Shared} {h' : Heap}
theorem Cx.Ok.nofr (ok : X.Ok) {b : Addr} {o : Obj} (e : X.base.get? b = some o) : b ∉ X.fs := fun hb => by
 have := (ok.funs.mem hb).1
 rw [e] at this; cases this
theorem Inv.bs (I : Inv X pins σ H s) : ∀ b o, X.base.get? b = some o -> s.heap.get? b = some o /\ H b = none := fun b o e =>
 ⟨I.base.keep b o (I.ok.bs b o e).1 (I.ok.bs b o e).2 (I.ok.nofr e) (I.ok.noex b o e), I.base.free b o (I.ok.bs b o e).1 (I.ok.bs b o e).2 (I.ok.noex b o e)⟩
theorem Inv.bk (I : Inv X pins σ H s) : ∀ b o, X.base.get? b = some o -> s.heap.get? b = some o := fun b o e => (I.bs b o e).1
theorem Inv.mod (I : Inv X pins σ H s) : Mod X.K X.mg X.base := I.ok.mod
theorem Inv.kIn (I : Inv X pins σ H s) : X.K.In s.heap := I.ok.mod.kin.keeps I.bk
theorem Inv.lt (I : Inv X pins σ H s) : X.env.locals < s.heap.objs.size := let ⟨_, hn, _⟩ := I.loc; hn.lt
theorem Inv.sz (I : Inv X pins σ H s) : X.s₀.heap.objs.size <= s.heap.objs.size := Nat.le_trans I.ok.above (Nat.le_of_lt I.lt)
theorem Inv.nofs (I : Inv X pins σ H s) {a : Addr} (h : s.heap.objs.size <= a) : a ∉ X.fs := fun hb => by
 obtain ⟨_, o, ho, _⟩ := I.ok.funs.mem hb
 exact absurd (Nat.lt_of_lt_of_le (Heap.lt_size ho) (Nat.le_trans I.sz h)) (Nat.lt_irrefl _)
theorem Inv.cne (I : Inv X pins σ H s) : ∀ x c, X.env.cells.lookup x = some c -> c ≠ X.env.locals := fun x c e z => by
 obtain ⟨v, o, ho, hd⟩ := I.cell x c e
 obtain ⟨m, ⟨o', es, ep, ho', hd', _⟩, _⟩ := I.loc
 rw [z, ho'] at ho; cases ho; rw [hd'] at hd; cases hd
theorem Inv.funs (I : Inv X pins σ H s) : s.heap.FunFrames X.base X.outer := by
 have all : ∀ (l : List Env), (∀ b ∈ frs l, b ∈ X.fs) -> X.s₀.heap.FunFrames X.base l -> s.heap.FunFrames X.base l := by
  intro l
  induction l with
  | nil => intro _ _; trivial
  | cons env r ih =>
   intro hs hl
   obtain ⟨hk, ⟨L, o, hf, hn, ho, hd⟩, hr⟩ := hl
   have hL : L ∈ X.fs := hs L (by unfold frs; rw [List.filterMap_cons, hf]; exact List.mem_cons_self)
   obtain ⟨sl, e⟩ := I.base.slot L o ho (I.ok.frf L hL) hL fun z => I.ok.exfs L z hL
   exact ⟨hk, ⟨L, _, hf, hn, e, hd⟩, ih (fun b hb => hs b (by unfold frs; rw [List.filterMap_cons, hf]; exact List.mem_cons_of_mem _ hb)) hr⟩
 exact all X.outer (fun _ hb => hb) I.ok.funs
theorem Inv.stack (I : Inv X pins σ H s) : s.heap.FunFrames X.base X.stack := by
 rcases I.ok.stk with e | ⟨e, hf⟩
 ·rw [e]; exact I.funs
 ·rw [e]
  obtain ⟨m, hn, _⟩ := I.loc
  refine .cons (by rw [I.ok.kind]; decide) hf hn ?_ I.funs
  exact Heap.get?_none_of_le (Nat.le_trans I.ok.bsz I.ok.above)
theorem Inv.stkSub (I : Inv X pins σ H s) : ∀ b ∈ frs X.stack, b ∈ X.env.locals :: X.fs := fun b hb => by
 rcases I.ok.stk with e | ⟨e, hf⟩
 ·rw [e] at hb; exact List.mem_cons_of_mem _ hb
 ·rw [e] at hb
  unfold frs at hb
  rw [List.filterMap_cons, hf] at hb
  exact hb
theorem Inv.stkFree (I : Inv X pins σ H s) : ∀ b ∈ frs X.stack, H b = none := fun b hb => by
 rcases List.mem_cons.mp (I.stkSub b hb) with e | hb
 ·rw [e]; exact I.free
 ·obtain ⟨_, o, ho, _⟩ := I.ok.funs.mem hb
  exact I.base.free b o ho (I.ok.frf b hb) fun z => I.ok.exfs b z hb
theorem Inv.step {g' : Array GenState} {t' : Nat} {d' : Drawn} {ch : List Addr} (I : Inv X pins σ H s)
  (hch : ∀ b ∈ ch, (b ∈ X.ex \/ X.s₀.heap.objs.size <= b) /\ b ≠ X.env.locals /\ (∀ x c, X.env.cells.lookup x = some c -> c ≠ b) /\ ∀ p ∈ X.pn ++ pins, p.1 ≠ b)
  (keep : ∀ b o, b ≠ X.env.locals -> b ∉ X.fs -> b ∉ ch -> s.heap.get? b = some o -> H b = none -> h'.get? b = some o)
  (slot : ∀ b o, b ≠ X.env.locals -> b ∈ X.fs -> b ∉ ch -> s.heap.get? b = some o -> H b = none -> ∃ sl, h'.get? b = some { o with slots := sl }) (free : ∀ b o, b ∉ ch -> s.heap.get? b = some o -> H b = none -> H' b = none)
  (there : ∀ b o, b ∉ ch -> s.heap.get? b = some o -> ∃ o', h'.get? b = some o')
  (tups : ∀ b xs, H b = some (.tup xs) -> H' b = some (.tup xs)) (frzs : ∀ b o u, H b = some (.frz o u) -> H' b = some (.frz o u)) (tbls : ∀ b ps, H b = some (.tbl ps) -> ∃ more, H' b = some (.tbl (ps ++ more)))
  (ns : ∀ m, s.heap.Ns X.env.locals m -> h'.Ns X.env.locals m) (hok : HOk X.prog X.w H' h') (hg : AllBare g') :
  Inv X pins σ H' { s with heap := h', gens := g', drawn := d', toks := t' } := by
 have neL : ∀ b o, X.s₀.heap.get? b = some o -> b ≠ X.env.locals := fun b o e => Nat.ne_of_lt (Nat.lt_of_lt_of_le (Heap.lt_size e) I.ok.above)
 have neC : ∀ b o, X.s₀.heap.get? b = some o -> b ∉ X.ex -> b ∉ ch := fun b o e hx hb => by
  rcases (hch b hb).1 with z | z
  ·exact hx z
  ·exact absurd (Nat.lt_of_lt_of_le (Heap.lt_size e) z) (Nat.lt_irrefl _)
 have cellK : ∀ x c, X.env.cells.lookup x = some c -> ∀ v, s.heap.IsCell c v -> h'.IsCell c v := fun x c e v h_ => by
  obtain ⟨o, ho, hd⟩ := h_
  have nch : c ∉ ch := fun z => (hch c z).2.2.1 x c e rfl
  by_cases hc : c ∈ X.fs
  ·obtain ⟨sl, q⟩ := slot c o (I.cne x c e) hc nch ho (I.freeC x c e)
   exact ⟨_, q, hd⟩
  ·exact ⟨o, keep c o (I.cne x c e) hc nch ho (I.freeC x c e), hd⟩
 refine ⟨I.ok, I.os, hg, ⟨fun b o e n hb hx => ?_, fun b o e n hb hx => ?_, fun b o e n hx => ?_, fun b o e hx => ?_, fun b xs e => tups b xs (I.base.tups b xs e), fun b o xs e => frzs b o xs (I.base.frzs b o xs e), fun b ps e => ?_⟩, ?_, fun x c e => ?_, ?_, fun x c e => ?_, fun p hp => ?_, hok, I.len⟩
 ·exact keep b o (neL b o e) hb (neC b o e hx) (I.base.keep b o e n hb hx) (I.base.free b o e n hx)
 ·obtain ⟨sl, e1⟩ := I.base.slot b o e n hb hx
  obtain ⟨sl', e2⟩ := slot b _ (neL b o e) hb (neC b o e hx) e1 (I.base.free b o e n hx)
  exact ⟨sl', e2⟩
 ·obtain ⟨o', e1⟩ := I.base.there b o e hx
  exact free b o' (neC b o e hx) e1 (I.base.free b o e n hx)
 ·obtain ⟨o', e1⟩ := I.base.there b o e hx
  exact there b o' (neC b o e hx) e1
 ·obtain ⟨m1, e1⟩ := I.base.tbls b ps e
  obtain ⟨m2, e2⟩ := tbls b _ e1
  exact ⟨m1 ++ m2, by rw [e2, Array.append_assoc]⟩
 ·obtain ⟨m, hn, hl⟩ := I.loc
  refine ⟨m, ns m hn, fun i x v e1 e2 e3 => ?_⟩
  obtain ⟨u, r, l⟩ := hl i x v e1 e2 e3
  refine ⟨u, r, ?_⟩
  rcases l with l | ⟨k, c, e, z⟩
  ·exact .inl l
  ·exact .inr ⟨k, c, e, cellK x c e _ z⟩
 ·obtain ⟨v, z⟩ := I.cell x c e
  exact ⟨v, cellK x c e v z⟩
 ·obtain ⟨m, ⟨o, _, _, ho, _⟩, _⟩ := I.loc
  exact free _ o (fun z => (hch _ z).2.1 rfl) ho I.free
 ·obtain ⟨v, o, ho, hd⟩ := I.cell x c e
  exact free c o (fun z => (hch c z).2.2.1 x c e rfl) ho (I.freeC x c e)
 ·obtain ⟨e, n, ne, nf, d⟩ := I.pin p hp
  have nch : p.1 ∉ ch := fun z => (hch p.1 z).2.2.2 p hp rfl
  exact ⟨keep p.1 p.2 ne nf nch e n, free p.1 p.2 nch e n, ne, nf, d⟩
theorem Inv.un {t' : Nat} (I : Inv X pins σ H s) (u : Un X.fs [] H H' s.heap h') (hok : HOk X.prog X.w H' h') : Inv X pins σ H' { s with heap := h', toks := t' } := by
 obtain ⟨m, ⟨o, es, ep, ho, r⟩, _⟩ := id I.loc
 obtain ⟨sl, hL⟩ := u.any ho I.free (by simp)
 exact I.step (g' := s.gens) (d' := s.drawn) (ch := []) (fun _ z => nomatch z) (fun b o _ hb _ e n => u.keep b o e n hb (by simp)) (fun b o _ hb _ e n => u.slot b o e n hb (by simp)) (fun b o _ e n => u.free b o e n (by simp)) (fun b o _ e => u.there b o e (by simp)) u.tups u.frzs u.tbls (fun m' hm => by
  obtain ⟨o', es', ep', ho', r'⟩ := hm
  rw [ho] at ho'; cases ho'
  exact ⟨_, es', ep', hL, r'⟩) hok I.bare
theorem Inv.call {g' : Array GenState} {t' : Nat} {d' : Drawn} {ch : List Addr} (I : Inv X pins σ H s) (u : Un (frs X.stack) ch H H' s.heap h') (hok : HOk X.prog X.w H' h') (hg : AllBare g')
  (hch : ∀ b ∈ ch, (b ∈ X.ex \/ X.s₀.heap.objs.size <= b) /\ b ≠ X.env.locals /\ (∀ x c, X.env.cells.lookup x = some c -> c ≠ b) /\ ∀ p ∈ X.pn ++ pins, p.1 ≠ b) :
  Inv X pins σ H' { s with heap := h', gens := g', drawn := d', toks := t' } := by
 obtain ⟨m, ⟨o, es, ep, ho, r⟩, _⟩ := id I.loc
 obtain ⟨sl, hL⟩ := u.any ho I.free fun z => (hch _ z).2.1 rfl
 exact I.step (ch := ch) hch (fun b o hL hb hc e n => u.keep b o e n (fun z => (List.mem_cons.mp (I.stkSub b z)).elim hL hb) hc) (fun b o _ _ hc e n => u.any e n hc) (fun b o hc e n => u.free b o e n hc) (fun b o hc e => u.there b o e hc) u.tups u.frzs u.tbls (fun m' hm => by
  obtain ⟨o', es', ep', ho', r'⟩ := hm
  rw [ho] at ho'; cases ho'
  exact ⟨_, es', ep', hL, r'⟩) hok hg
theorem Inv.turned {t' : Nat} {it : Addr} (I : Inv X pins σ H s) (k : ∀ b o, b ≠ it -> s.heap.get? b = some o -> h'.get? b = some o) (hn : H it = none) (hL : it ≠ X.env.locals)
  (h1 : it ∈ X.ex \/ X.s₀.heap.objs.size <= it) (h2 : ∀ x c, X.env.cells.lookup x = some c -> c ≠ it) (h3 : ∀ p ∈ X.pn ++ pins, p.1 ≠ it) : Inv X pins σ H { s with heap := h', toks := t' } := by
 have nit : ∀ b u, H b = some u -> b ≠ it := fun b u e z => by rw [z, hn] at e; cases e
 refine I.step (g' := s.gens) (d' := s.drawn) (ch := [it]) (fun b hb => ?_) (fun b o _ _ hc e _ => k b o (fun z => hc (by simp [z])) e) (fun b o _ _ hc e _ => ⟨o.slots, k b o (fun z => hc (by simp [z])) e⟩) (fun _ _ _ _ n => n)
  (fun b o hc e => ⟨o, k b o (fun z => hc (by simp [z])) e⟩) (fun _ _ e => e) (fun _ _ _ e => e) (fun b ps e => ⟨#[], by rw [e]; simp⟩) (fun m hm => ?_) (fun b u e => ?_) I.bare
 ·have e : b = it := by simpa using hb
  subst e
  exact ⟨h1, hL, h2, h3⟩
 ·obtain ⟨o, es, ep, ho, r⟩ := hm
  exact ⟨o, es, ep, k _ o (Ne.symm hL) ho, r⟩
 ·refine (I.hok b u e).stay (fun c v hc q => k c v ?_ q) (fun _ q => q) fun _ _ q => q
  rcases hc with z | z
  ·rw [z]; exact nit b u e
  ·exact nit c _ z
theorem Inv.tok (I : Inv X pins σ H s) (t : Nat) : Inv X pins σ H { s with toks := t } := I.un (h' := s.heap) (t' := t) Un.refl I.hok
theorem Inv.kept {t' : Nat} (I : Inv X pins σ H s) (k : ∀ b u, s.heap.get? b = some u -> h'.get? b = some u) : Inv X pins σ H { s with heap := h', toks := t' } := I.un (Un.kept k) (I.hok.kept k)
theorem Inv.laid {a : Addr} {o : HO} {t' : Nat} (I : Inv X pins σ H s) (k : ∀ b u, s.heap.get? b = some u -> h'.get? b = some u) (hp : s.heap.objs.size <= a) (new : ObjOk X.prog X.w (upd H a o) h' a o) :
  Inv X pins σ (upd H a o) { s with heap := h', toks := t' } := I.un (Un.laid k hp (I.hok.fresh hp)) (I.hok.laid k hp new)
theorem Inv.write {x e : Addr} {o : HO} {t' : Nat} (I : Inv X pins σ H s) (mu : Mut (H x)) (he : e = x \/ H e = some (.own x)) (k : ∀ b u, b ≠ e -> s.heap.get? b = some u -> h'.get? b = some u) (heo : ∃ u, h'.get? e = some u)
  (new : ObjOk X.prog X.w (upd H x o) h' x o) : Inv X pins σ (upd H x o) { s with heap := h', toks := t' } := I.un (Un.write mu he k heo) (I.hok.write mu he k heo new)
theorem Inv.pins_of {pins' : List (Addr × Obj)} (I : Inv X pins σ H s) (h : ∀ p ∈ pins', s.heap.get? p.1 = some p.2 /\ H p.1 = none /\ p.1 ≠ X.env.locals /\ p.1 ∉ X.fs /\ ∀ v, p.2.data ≠ .cell v) : Inv X pins' σ H s :=
 ⟨I.ok, I.os, I.bare, I.base, I.loc, I.cell, I.free, I.freeC, fun p hp => (List.mem_append.mp hp).elim (fun z => I.pin p (List.mem_append_left _ z)) (h p), I.hok, I.len⟩
theorem nodup_ix {N : List Str} (hN : N.Nodup) {i j : Nat} {x : Str} (a : N[i]? = some x) (b : N[j]? = some x) : i = j := by
 obtain ⟨h1, e1⟩ := List.getElem?_eq_some_iff.mp a
 obtain ⟨h2, e2⟩ := List.getElem?_eq_some_iff.mp b
 exact (List.getElem_inj hN).mp (e1.trans e2.symm)
theorem store_ok2 {M : Model} {A : Around} {E : Value -> Shared -> Prop} {i : Nat} {x : Str} {v : V} {u : Value} {Q : Unit -> Shared -> Prop} (I : Inv X pins σ H s) (hN : X.N.Nodup) (hi : X.N[i]? = some x) (hx : Loc X.env.scope x) (r : RelV v u)
  (h : ∀ s', Inv X pins (σ.set i (some v)) H s' -> (∃ a, Heap.SameBut a s.heap s'.heap /\ (a = X.env.locals \/ X.env.cells.lookup x = some a)) -> Q () s') (hf : X.fn x = true \/ X.env.scope.names.lookup x = some .local := by first | exact .inl rfl | exact .inr rfl | assumption) : wpAny M A (storeName X.env x u) Q E s := by
 obtain ⟨m, hn, hl⟩ := id I.loc
 have hcls : (X.env.scope.kind == .class || (X.env.scope.kind == .module && X.env.locals != X.env.globals)) = false := by rw [I.ok.kind]; rfl
 have hiσ : i < σ.length := by rw [I.len]; exact (List.getElem?_eq_some_iff.mp hi).1
 have cne := I.cne
 have tracked : ∀ {a : Addr} {h' : Heap}, (∃ o, s.heap.get? a = some o /\ H a = none) -> Heap.SameBut a s.heap h' -> HOk X.prog X.w H h' := fun {a h'} ha hs b ob e => by
  obtain ⟨_, _, hfree⟩ := ha
  refine (I.hok b ob e).stay (fun c w' hc q => (hs.2 c ?_).trans q) (fun _ q => q) fun _ _ q => q
  rintro rfl
  rcases hc with rfl | hc
  ·rw [hfree] at e; cases e
  ·rw [hfree] at hc; cases hc
 rcases hx with hk | hk
 ·refine wpAny_storeName_local hk hn (fun h' hn' hs => ?_) hcls
  obtain ⟨oL, _, _, hoL, _⟩ := id hn
  refine h _ ⟨I.ok, I.os, I.bare, ⟨fun b o e n hb hx => ?_, fun b o e n hb hx => ?_, I.base.free, fun b o e hx => ?_, I.base.tups, I.base.frzs, I.base.tbls⟩, ⟨_, hn', fun j y v' e1 e2 e3 => ?_⟩, fun y c e => ?_, I.free, I.freeC, fun p hp => ?_, tracked ⟨oL, hoL, I.free⟩ hs, by simpa using I.len⟩ ⟨_, hs, .inl rfl⟩
  ·exact (hs.2 b (Nat.ne_of_lt (Nat.lt_of_lt_of_le (Heap.lt_size e) I.ok.above))).trans (I.base.keep b o e n hb hx)
  ·obtain ⟨sl, e1⟩ := I.base.slot b o e n hb hx
   exact ⟨sl, (hs.2 b (Nat.ne_of_lt (Nat.lt_of_lt_of_le (Heap.lt_size e) I.ok.above))).trans e1⟩
  ·obtain ⟨o', e1⟩ := I.base.there b o e hx
   exact ⟨o', (hs.2 b (Nat.ne_of_lt (Nat.lt_of_lt_of_le (Heap.lt_size e) I.ok.above))).trans e1⟩
  ·by_cases hj : j = i
   ·subst hj
    rw [hi] at e1; cases e1
    rw [List.getElem?_set_self hiσ] at e2
    cases e2
    exact ⟨u, r, .inl ⟨hk, by simp⟩⟩
   ·rw [List.getElem?_set_ne (Ne.symm hj)] at e2
    obtain ⟨u', r', q⟩ := hl j y v' e1 e2 e3
    refine ⟨u', r', ?_⟩
    rcases q with ⟨k, e⟩ | ⟨k, c, e, z⟩
    ·refine .inl ⟨k, ?_⟩
     have : y ≠ x := fun e => hj (nodup_ix hN e1 (e ▸ hi))
     simp [this, e]
    ·exact .inr ⟨k, c, e, z.sameBut hs (cne y c e)⟩
  ·obtain ⟨w', z⟩ := I.cell y c e
   exact ⟨w', z.sameBut hs (cne y c e)⟩
  ·obtain ⟨e, n, ne, nf, d⟩ := I.pin p hp
   exact ⟨(hs.2 p.1 ne).trans e, n, ne, nf, d⟩
 ·have hfn : X.fn x = true := by
   rcases hf with z | z
   ·exact z
   ·rw [z] at hk; cases hk
  obtain ⟨c, hc⟩ := I.ok.has x (.inl hk)
  obtain ⟨w', z⟩ := I.cell x c hc
  refine wpAny_storeName_cell I.ok.kind hk hc z (fun h' hc' hs => ?_)
  obtain ⟨oc, hoc, hocd⟩ := id z
  refine h { s with heap := h' } ⟨I.ok, I.os, I.bare, ⟨fun b o e n hb hx => ?_, fun b o e n hb hx => ?_, I.base.free, fun b o e hx => ?_, I.base.tups, I.base.frzs, I.base.tbls⟩, ⟨m, hn.sameBut hs (Ne.symm (cne x c hc)), fun j y v' e1 e2 e3 => ?_⟩, fun y c' e => ?_, I.free, I.freeC, fun p hp => ?_, tracked ⟨oc, hoc, I.freeC x c hc⟩ hs, by simpa using I.len⟩ ⟨c, hs, .inr hc⟩
  ·exact (hs.2 b (Nat.ne_of_lt (Nat.lt_of_lt_of_le (Heap.lt_size e) (I.ok.cab x c hfn hc)))).trans (I.base.keep b o e n hb hx)
  ·obtain ⟨sl, e1⟩ := I.base.slot b o e n hb hx
   exact ⟨sl, (hs.2 b (Nat.ne_of_lt (Nat.lt_of_lt_of_le (Heap.lt_size e) (I.ok.cab x c hfn hc)))).trans e1⟩
  ·obtain ⟨o', e1⟩ := I.base.there b o e hx
   exact ⟨o', (hs.2 b (Nat.ne_of_lt (Nat.lt_of_lt_of_le (Heap.lt_size e) (I.ok.cab x c hfn hc)))).trans e1⟩
  ·by_cases hj : j = i
   ·subst hj
    rw [hi] at e1; cases e1
    rw [List.getElem?_set_self hiσ] at e2
    cases e2
    exact ⟨u, r, .inr ⟨.inl hk, c, hc, hc'⟩⟩
   ·rw [List.getElem?_set_ne (Ne.symm hj)] at e2
    obtain ⟨u', r', q⟩ := hl j y v' e1 e2 e3
    refine ⟨u', r', ?_⟩
    rcases q with q | ⟨k, c', e, z'⟩
    ·exact .inl q
    ·refine .inr ⟨k, c', e, z'.sameBut hs ?_⟩
     rintro rfl
     exact hj (nodup_ix hN e1 (I.ok.inj _ _ _ e hc ▸ hi))
  ·by_cases hcc : c' = c
   ·subst hcc; exact ⟨_, hc'⟩
   ·obtain ⟨w2, z2⟩ := I.cell y c' e
    exact ⟨w2, z2.sameBut hs hcc⟩
  ·obtain ⟨e, n, ne, nf, d⟩ := I.pin p hp
   refine ⟨(hs.2 p.1 ?_).trans e, n, ne, nf, d⟩
   intro q
   rw [q, hoc] at e
   have q' : oc = p.2 := Option.some.inj e
   exact d w' (by rw [← q']; exact hocd)
theorem store_ok {M : Model} {A : Around} {E : Value -> Shared -> Prop} {i : Nat} {x : Str} {v : V} {u : Value} {Q : Unit -> Shared -> Prop} (I : Inv X pins σ H s) (hN : X.N.Nodup) (hi : X.N[i]? = some x) (hx : Loc X.env.scope x) (r : RelV v u)
  (h : ∀ s', Inv X pins (σ.set i (some v)) H s' -> Q () s') (hf : X.fn x = true \/ X.env.scope.names.lookup x = some .local := by first | exact .inl rfl | exact .inr rfl | assumption) : wpAny M A (storeName X.env x u) Q E s :=
 store_ok2 I hN hi hx r (fun s' I' _ => h s' I') hf
theorem Inv.call' {s' : Shared} {ch : List Addr} (I : Inv X pins σ H s) (ho : s'.os = s.os) (u : Un (frs X.stack) ch H H' s.heap s'.heap) (hok : HOk X.prog X.w H' s'.heap) (hg : AllBare s'.gens)
  (hch : ∀ b ∈ ch, (b ∈ X.ex \/ X.s₀.heap.objs.size <= b) /\ b ≠ X.env.locals /\ (∀ x c, X.env.cells.lookup x = some c -> c ≠ b) /\ ∀ p ∈ X.pn ++ pins, p.1 ≠ b) : Inv X pins σ H' s' := by
 obtain ⟨h', g', d', t', o'⟩ := s'
 have e : o' = s.os := ho
 subst e
 exact I.call (g' := g') (t' := t') (d' := d') u hok hg hch
end
noncomputable abbrev XK := Value -> Option Addr -> Hp -> Prop
noncomputable abbrev St := List (Option V)
noncomputable abbrev VK := V -> Hp -> Prop
noncomputable abbrev TE := St -> Hp -> VK -> Prop
noncomputable abbrev TT := St -> Hp -> (Bool -> Hp -> Prop) -> Prop
noncomputable abbrev TA := St -> Hp -> (List V -> Hp -> Prop) -> Prop
structure Ends where
 nx : St -> Hp -> Prop
 rt : VK
 bk : St -> Hp -> Prop := fun _ _ => False
 ct : St -> Hp -> Prop := fun _ _ => False
noncomputable abbrev TS := Ends -> St -> Hp -> Prop
noncomputable def EP (X : Cx) (pins : List (Addr × Obj)) (σ : St) (Q : VK) (u : Value) (s' : Shared) : Prop := ∃ v H', Inv X pins σ H' s' /\ RelV v u /\ Q v H'
noncomputable def TP (X : Cx) (pins : List (Addr × Obj)) (σ : St) (Q : Bool -> Hp -> Prop) (b : Bool) (s' : Shared) : Prop := ∃ H', Inv X pins σ H' s' /\ Q b H'
noncomputable def AP (X : Cx) (pins : List (Addr × Obj)) (σ : St) (Q : List V -> Hp -> Prop) (us : List Value) (s' : Shared) : Prop := ∃ vs H', Inv X pins σ H' s' /\ Vals vs us /\ Q vs H'
noncomputable def SP (X : Cx) (pins : List (Addr × Obj)) (D : Ends) (f : Flow) (s' : Shared) : Prop :=
 match f with
 | .next => ∃ σ' H', Inv X pins σ' H' s' /\ D.nx σ' H'
 | .brk => ∃ σ' H', Inv X pins σ' H' s' /\ D.bk σ' H'
 | .cont => ∃ σ' H', Inv X pins σ' H' s' /\ D.ct σ' H'
 | .ret u => ∃ v σ' H', Inv X pins σ' H' s' /\ RelV v u /\ D.rt v H'
noncomputable def PE (X : Cx) (e : Expr) (t : TE) : Prop :=
 ∀ (pins : List (Addr × Obj)) (s : Shared) (σ : St) (H : Hp) (Q : VK), Inv X pins σ H s -> t σ H Q -> wpAny (model X.prog X.w) X.A (eval e X.env) (EP X pins σ Q) X.xe s
noncomputable def PT (X : Cx) (e : Expr) (t : TT) : Prop :=
 ∀ (pins : List (Addr × Obj)) (s : Shared) (σ : St) (H : Hp) (Q : Bool -> Hp -> Prop), Inv X pins σ H s -> t σ H Q -> wpAny (model X.prog X.w) X.A (isTrue e X.env (eval e X.env)) (TP X pins σ Q) X.xe s
noncomputable def PW (X : Cx) (e : Expr) (t : TT) : Prop :=
 ∀ (whole : Sem Value) (pins : List (Addr × Obj)) (s : Shared) (σ : St) (H : Hp) (Q : Bool -> Hp -> Prop), Inv X pins σ H s -> t σ H Q -> wpAny (model X.prog X.w) X.A (isTrue e X.env whole) (TP X pins σ Q) X.xe s
noncomputable def PA (X : Cx) (es : List Expr) (t : TA) : Prop :=
 ∀ (pos : Pos) (pins : List (Addr × Obj)) (s : Shared) (σ : St) (H : Hp) (Q : List V -> Hp -> Prop), Inv X pins σ H s -> t σ H Q -> wpAny (model X.prog X.w) X.A (spliced (backTo pos (starEach es X.env))) (AP X pins σ Q) X.xe s
noncomputable def PS (X : Cx) (st : Stmt) (t : TS) : Prop :=
 ∀ (pins : List (Addr × Obj)) (s : Shared) (σ : St) (H : Hp) (D : Ends), Inv X pins σ H s -> t D σ H -> wpAny (model X.prog X.w) X.A (exec st X.env) (SP X pins D) X.xe s
noncomputable def PSs (X : Cx) (st : List Stmt) (t : TS) : Prop :=
 ∀ (pins : List (Addr × Obj)) (s : Shared) (σ : St) (H : Hp) (D : Ends), Inv X pins σ H s -> t D σ H -> wpAny (model X.prog X.w) X.A (execs st X.env) (SP X pins D) X.xe s
theorem thn {α : Type} {t : Sem α} {Q Q' : α -> Shared -> Prop} {M : Model} {A : Around} {E : Value -> Shared -> Prop} {s : Shared} (h : wpAny M A t Q E s) (hQ : ∀ a s, Q a s -> Q' a s) : wpAny M A t Q' E s := wpAny_mono h hQ fun _ _ x => x
section
variable {X : Cx}
theorem bin {a b : Expr} {ta tb : TE} (ha : PE X a ta) (hb : PE X b tb) {pins : List (Addr × Obj)} {s : Shared} {σ : St} {H : Hp} {R : V -> V -> Hp -> Prop} (I : Inv X pins σ H s) (h : ta σ H fun x H1 => tb σ H1 fun y H2 => R x y H2)
  {α : Type} {Q : α -> Shared -> Prop} {f : Value -> Value -> Sem α}
  (hf : ∀ v u s2 x y H2, Inv X pins σ H2 s2 -> RelV x v -> RelV y u -> R x y H2 -> wpAny (model X.prog X.w) X.A (f v u) Q X.xe s2) :
  wpAny (model X.prog X.w) X.A (eval a X.env) (fun v s₁ => wpAny (model X.prog X.w) X.A (eval b X.env) (fun u s₂ => wpAny (model X.prog X.w) X.A (f v u) Q X.xe s₂) X.xe s₁) X.xe s := by
 refine thn (ha pins s σ H _ I h) fun v s1 h_ => ?_
 obtain ⟨x, H1, I1, r1, q1⟩ := h_
 refine thn (hb pins s1 σ H1 _ I1 q1) fun u s2 h_ => ?_
 obtain ⟨y, H2, I2, r2, q2⟩ := h_
 exact hf v u s2 x y H2 I2 r1 r2 q2
noncomputable def tVar (i : Nat) : TE := fun σ H Q => ∃ v, σ[i]? = some (some v) /\ Q v H
noncomputable def tC (v : V) : TE := fun _ H Q => Q v H
theorem pe_var {i : Nat} {x : Str} {pos : Pos} (hN : X.N[i]? = some x) (hv : Vis X.env.scope x) (hd : (x == ("__debug__" : Str)) = false := by decide) (hcd : (x == ("__classdict__" : Str)) = false := by decide) : PE X (.Name x pos) (tVar i) := by
 intro pins s σ H Q I h
 obtain ⟨v, e, h⟩ := h
 obtain ⟨m, hn, hl⟩ := I.loc
 obtain ⟨u, r, l⟩ := hl i x v hN e hv
 have fin : EP X pins σ Q u s := ⟨v, H, I, r, h⟩
 rcases l with ⟨hk, hm⟩ | ⟨hk, c, hc, hcell⟩
 ·exact wpAny_Name (wpAny_loadName_local I.ok.kind hk hn hm fin) hd
 ·rcases hk with hk | hk
  ·exact wpAny_Name (wpAny_loadName_cell I.ok.kind hk hc hcell fin) hd
  ·exact wpAny_Name (wpAny_loadName_free I.ok.kind hk hc hcell fin hcd) hd
theorem pe_int {i j pos} : PE X (.Constant (.int i) j pos) (tC (.int i)) := fun _ _ _ H _ I h => wpAny_Constant_int ⟨.int i, H, I.tok _, ⟨_, rfl⟩, h⟩
theorem pe_bl {b j pos} : PE X (.Constant (.bool b) j pos) (tC (.bl b)) := fun _ _ _ H _ I h => Constant_bool ⟨.bl b, H, I, rfl, h⟩
theorem pe_str {x j pos} : PE X (.Constant (.str x) j pos) (tC (.str x)) := fun _ _ _ H _ I h => Calls.Constant_str ⟨.str x, H, I.tok _, ⟨_, rfl⟩, h⟩
noncomputable def Gl (X : Cx) (x : Str) : Prop := X.env.kindOf x = some .globalImplicit
theorem ld_glob {E : Value -> Shared -> Prop} {pins : List (Addr × Obj)} {s : Shared} {σ : St} {H : Hp} {x : Str} {u : Value} {pos : Pos} {Q : Value -> Shared -> Prop} (I : Inv X pins σ H s) (hg : Gl X x) (hm : X.mg x = some u) (h : Q u s)
  (hd : (x == ("__debug__" : Str)) = false := by decide) : wpAny (model X.prog X.w) X.A (eval (.Name x pos) X.env) Q E s :=
 Calls.Name_function_global I.ok.kind hg (Calls.loadGlobal_global (by rw [I.ok.glob]; exact I.mod.glob.keeps I.bk) hm h) hd
theorem Zci {E : Value -> Shared -> Prop} {pins : List (Addr × Obj)} {s : Shared} {σ : St} {H : Hp} {x : Str} {u : Value} {pos : Pos} {Q : Value -> Shared -> Prop} (I : Inv X pins σ H s) (hg : Gl X x) (hm : X.mg x = none) (hv : bootBuiltins x = some u) (h : Q u s)
  (hn : x ≠ "__name__" := by decide) (hd : (x == ("__debug__" : Str)) = false := by decide) : wpAny (model X.prog X.w) X.A (eval (.Name x pos) X.env) Q E s := by
 obtain ⟨mb, h1, h2⟩ := I.mod.blt
 exact Calls.Name_function_global I.ok.kind hg (Calls.loadGlobal_builtin (by rw [I.ok.glob]; exact I.mod.glob.keeps I.bk) hm (by rw [I.ok.blt]; exact h1.keeps I.bk) ((h2 x hn).trans hv) h) hd
theorem pe_glob {x : Str} {v : V} {u : Value} {pos : Pos} (hg : Gl X x) (hm : X.mg x = some u) (r : RelV v u) (hd : (x == ("__debug__" : Str)) = false := by decide) : PE X (.Name x pos) (tC v) :=
 fun _ _ _ H _ I h => ld_glob I hg hm ⟨v, H, I, r, h⟩ hd
theorem pe_bltn {x : Str} {v : V} {u : Value} {pos : Pos} (hg : Gl X x) (hm : X.mg x = none) (hv : bootBuiltins x = some u) (r : RelV v u) (hn : x ≠ "__name__" := by decide) (hd : (x == ("__debug__" : Str)) = false := by decide) : PE X (.Name x pos) (tC v) :=
 fun _ _ _ H _ I h => Zci I hg hm hv ⟨v, H, I, r, h⟩ hn hd
variable {a b : Expr} {ta tb : TE} {pos : Pos}
variable {tA tB' : TT} {rest : List Expr}
noncomputable def tOr (t u : TT) : TT := fun σ H Q => t σ H fun c H1 => if c = true then Q true H1 else u σ H1 Q
noncomputable def tNot (t : TT) : TT := fun σ H Q => t σ H fun c H1 => Q (!c) H1
theorem pw_or1 (ha : PT X a tA) : PW X (.BoolOp .Or [a] pos) tA := by
 intro wh pins s σ H Q I h
 refine isTrue_or (thn (ha pins s σ H Q I h) fun c s1 e => ?_)
 cases c with
 | false => exact isTrue_or_nil e
 | true => exact e
theorem pw_or (ha : PT X a tA) (hb : PW X (.BoolOp .Or (b :: rest) pos) tB') : PW X (.BoolOp .Or (a :: b :: rest) pos) (tOr tA tB') := by
 intro wh pins s σ H Q I h
 refine isTrue_or (thn (ha pins s σ H _ I h) fun c s1 h_ => ?_)
 obtain ⟨H1, I1, q1⟩ := h_
 cases c with
 | true => exact ⟨H1, I1, q1⟩
 | false => exact hb wh pins s1 σ H1 Q I1 q1
theorem pt_not (ha : PT X a tA) : PT X (.UnaryOp .Not a pos) (tNot tA) := by
 intro pins s σ H Q I h
 exact isTrue_not (ha pins s σ H (fun c H1 => Q (!c) H1) I h)
noncomputable def tAndV (ta tb : TE) : TE := fun σ H Q => ta σ H fun x H1 => ∃ c, x = .bl c /\ if c = true then tb σ H1 Q else Q (.bl false) H1
noncomputable def tOrV (ta tb : TE) : TE := fun σ H Q => ta σ H fun x H1 => ∃ c, x = .bl c /\ if c = true then Q (.bl true) H1 else tb σ H1 Q
noncomputable def tNotV (ta : TE) : TE := fun σ H Q => ta σ H fun x H1 => ∃ c, x = .bl c /\ Q (.bl (!c)) H1
theorem pe_one {op} {t : TE} (h : PE X a t) : PE X (.BoolOp op [a] pos) t := fun pins s σ H Q I hw => BoolOp_one (h pins s σ H Q I hw)
theorem pe_and (ha : PE X a ta) (hb : PE X (.BoolOp .And (b :: rest) pos) tb) : PE X (.BoolOp .And (a :: b :: rest) pos) (tAndV ta tb) := by
 intro pins s σ H Q I h
 refine BoolOp_and (thn (ha pins s σ H _ I h) fun v s1 h_ => ?_)
 obtain ⟨x, H1, I1, r1, q1⟩ := h_
 obtain ⟨c, rfl, q1⟩ := q1
 cases r1
 refine wpAny_truthy_bool ?_
 cases c with
 | true => exact hb pins s1 σ H1 Q I1 q1
 | false => exact ⟨.bl false, H1, I1, rfl, q1⟩
theorem pe_or (ha : PE X a ta) (hb : PE X (.BoolOp .Or (b :: rest) pos) tb) : PE X (.BoolOp .Or (a :: b :: rest) pos) (tOrV ta tb) := by
 intro pins s σ H Q I h
 refine BoolOp_or (thn (ha pins s σ H _ I h) fun v s1 h_ => ?_)
 obtain ⟨x, H1, I1, r1, q1⟩ := h_
 obtain ⟨c, rfl, q1⟩ := q1
 cases r1
 refine wpAny_truthy_bool ?_
 cases c with
 | false => exact hb pins s1 σ H1 Q I1 q1
 | true => exact ⟨.bl true, H1, I1, rfl, q1⟩
theorem pe_not (ha : PE X a ta) : PE X (.UnaryOp .Not a pos) (tNotV ta) := by
 intro pins s σ H Q I h
 refine UnaryOp_ (thn (ha pins s σ H _ I h) fun v s1 h_ => ?_)
 obtain ⟨x, H1, I1, r1, q1⟩ := h_
 obtain ⟨c, rfl, q1⟩ := q1
 cases r1
 exact not_of (wpAny_truthy_bool ⟨.bl (!c), H1, I1, rfl, q1⟩)
noncomputable def tIf (t : TT) (ta tb : TE) : TE := fun σ H Q => t σ H fun c H1 => if c = true then ta σ H1 Q else tb σ H1 Q
theorem pe_ifExp {c : Expr} (hc : PT X c tA) (ha : PE X a ta) (hb : PE X b tb) : PE X (.IfExp c a b pos) (tIf tA ta tb) := by
 intro pins s σ H Q I h
 refine wpAny_IfExp (thn (hc pins s σ H _ I h) fun d s1 h_ => ?_)
 obtain ⟨H1, I1, q1⟩ := h_
 cases d with
 | true => exact ha pins s1 σ H1 Q I1 q1
 | false => exact hb pins s1 σ H1 Q I1 q1
end
noncomputable def SqL (K : W.Frag) (H : Hp) (a : Addr) (xs : List V) : Prop :=
 Rd H a (.lst xs) \/
  ∃ (o : Obj) (its : Array Value) (n : Nat), K.lookup a = some o /\ o.cls = .type "list" /\ o.dict = none /\ o.data = .seq its n /\ its.size <= sizeLine /\ Vals xs its.toList
noncomputable def SqT (K : W.Frag) (H : Hp) (a : Addr) (xs : List V) : Prop :=
 Rd H a (.tup xs) \/
  ∃ (o : Obj) (its : Array Value) (n : Nat), K.lookup a = some o /\ o.cls = .type "tuple" /\ o.data = .seq its n /\ its.size <= sizeLine /\ Vals xs its.toList
noncomputable def absV : Value -> Option V
 | .none => some .non
 | .bool b => some (.bl b)
 | .int i _ => some (.int i)
 | .str x _ => some (.str x)
 | .bytes b _ => some (.byt b)
 | .float b _ => some (.flt b)
 | .ref a => some (.ref a)
 | .type n => some (.ty n)
 | _ => none
theorem RelV.abs {x : V} {u : Value} (r : RelV x u) : absV u = some x := by
 cases x with
 | non => cases r; rfl
 | bl _ => cases r; rfl
 | int _ => obtain ⟨t, rfl⟩ := r; rfl
 | str _ => obtain ⟨t, rfl⟩ := r; rfl
 | byt _ => obtain ⟨t, rfl⟩ := r; rfl
 | flt _ => obtain ⟨t, rfl⟩ := r; rfl
 | ref _ => cases r; rfl
 | ty _ => cases r; rfl
theorem RelV.inj {x y : V} {u : Value} (r : RelV x u) (q : RelV y u) : x = y := Option.some.inj (r.abs.symm.trans q.abs)
theorem Vals.inj : ∀ {xs ys : List V} {us : List Value}, Vals xs us -> Vals ys us -> xs = ys
 | _, _, _, .nil, .nil => rfl
 | _, _, _, .cons r t, .cons r' t' => by rw [r.inj r', Vals.inj t t']
section
variable {X : Cx} {pins : List (Addr × Obj)} {σ : St} {H : Hp} {s : Shared} {a : Addr} {xs ys : List V}
theorem SqL.of {K : W.Frag} (h : H a = some (.lst xs)) : SqL K H a xs := .inl (.inl h)
theorem Inv.list (I : Inv X pins σ H s) (h : SqL X.K H a xs) : ∃ its : List Value, Vals xs its /\ PlainL s.heap a its.toArray /\ xs.length <= sizeLine := by
 rcases h with h | ⟨o, its, n, hk, hc, hd, hs, hz, r⟩
 ·obtain ⟨z, its, n, r, e⟩ := h.ok I.hok
  exact ⟨its, r, ⟨_, n, e, rfl, rfl, rfl⟩, z⟩
 ·refine ⟨its.toList, r, ⟨o, n, I.kIn a o hk, hc, hd, by simpa using hs⟩, ?_⟩
  have e := r.length
  simp only [Array.length_toList] at e
  lia
theorem Inv.tuple (I : Inv X pins σ H s) (h : SqT X.K H a xs) : ∃ its : List Value, Vals xs its /\ IsTup s.heap a its.toArray /\ xs.length <= sizeLine := by
 rcases h with h | ⟨o, its, n, hk, hc, hs, hz, r⟩
 ·obtain ⟨z, its, r, p⟩ := h.ok I.hok
  exact ⟨its, r, p, z⟩
 ·refine ⟨its.toList, r, ⟨o, I.kIn a o hk, hc, n, by simpa using hs⟩, ?_⟩
  have e := r.length
  simp only [Array.length_toList] at e
  lia
theorem Inv.list_inj (I : Inv X pins σ H s) (h : SqL X.K H a xs) (h' : SqL X.K H a ys) : xs = ys := by
 obtain ⟨its, r, ⟨o, n, e, _, _, d⟩, _⟩ := I.list h
 obtain ⟨its', r', ⟨o', n', e', _, _, d'⟩, _⟩ := I.list h'
 rw [e] at e'; cases e'
 rw [d] at d'
 injection d' with d1 _
 have : its = its' := by simpa using congrArg Array.toList d1
 subst this
 exact r.inj r'
theorem Inv.tuple_inj (I : Inv X pins σ H s) (h : SqT X.K H a xs) (h' : SqT X.K H a ys) : xs = ys := by
 obtain ⟨its, r, ⟨o, e, _, n, d⟩, _⟩ := I.tuple h
 obtain ⟨its', r', ⟨o', e', _, n', d'⟩, _⟩ := I.tuple h'
 rw [e] at e'; cases e'
 rw [d] at d'
 injection d' with d1 _
 have : its = its' := by simpa using congrArg Array.toList d1
 subst this
 exact r.inj r'
end
noncomputable abbrev Cx.wish (X : Cx) (E : Value -> Shared -> Prop) : Cx := { X with xe := E }
noncomputable abbrev Cx.nox (X : Cx) : Cx := X.wish fun _ _ => False
theorem Cx.Ok.wish {X : Cx} (ok : X.Ok) (E : Value -> Shared -> Prop) : (X.wish E).Ok :=
 ⟨ok.mod, ok.kind, ok.glob, ok.blt, ok.above, ok.inj, ok.has, ok.cab, ok.hd, ok.frames, ok.stk, ok.exf, ok.bs, ok.bsz, ok.noex, ok.exfs, ok.funs, ok.frf⟩
theorem Cx.Ok.unwish {X : Cx} {E : Value -> Shared -> Prop} (ok : (X.wish E).Ok) : X.Ok :=
 ⟨ok.mod, ok.kind, ok.glob, ok.blt, ok.above, ok.inj, ok.has, ok.cab, ok.hd, ok.frames, ok.stk, ok.exf, ok.bs, ok.bsz, ok.noex, ok.exfs, ok.funs, ok.frf⟩
section
variable {X : Cx} {pins : List (Addr × Obj)} {σ : St} {H : Hp} {s : Shared} {E : Value -> Shared -> Prop}
theorem Inv.wish (I : Inv X pins σ H s) (E : Value -> Shared -> Prop) : Inv (X.wish E) pins σ H s := ⟨I.ok.wish E, I.os, I.bare, I.base, I.loc, I.cell, I.free, I.freeC, I.pin, I.hok, I.len⟩
theorem Inv.unwish (I : Inv (X.wish E) pins σ H s) : Inv X pins σ H s := ⟨I.ok.unwish, I.os, I.bare, I.base, I.loc, I.cell, I.free, I.freeC, I.pin, I.hok, I.len⟩
theorem SP.unwish {D : Ends} {f : Flow} {s' : Shared} (h : SP (X.wish E) pins D f s') : SP X pins D f s' := by
 cases f with
 | next => obtain ⟨σ', H', I, q⟩ := h; exact ⟨σ', H', I.unwish, q⟩
 | brk => obtain ⟨σ', H', I, q⟩ := h; exact ⟨σ', H', I.unwish, q⟩
 | cont => obtain ⟨σ', H', I, q⟩ := h; exact ⟨σ', H', I.unwish, q⟩
 | ret u => obtain ⟨v, σ', H', I, r, q⟩ := h; exact ⟨v, σ', H', I.unwish, r, q⟩
theorem PSs.nox {st : List Stmt} {t : TS} (h : PSs X.nox st t) : PSs X st t := fun pins s σ H D I hw =>
 wpAny_mono (h pins s σ H D (I.wish _) hw) (fun _ _ q => q.unwish) fun _ _ z => False.elim z
end
section
variable {X : Cx} {st : Stmt} {rest : List Stmt} {t u : TS} {e : Expr} {te : TE} {pos : Pos}
noncomputable def tNext : TS := fun D σ H => D.nx σ H
noncomputable def tSeq (t u : TS) : TS := fun D σ H => t { D with nx := u D } σ H
theorem pss_nil : PSs X [] tNext := fun _ _ σ H _ I h => wpAny_execs_nil ⟨σ, H, I, h⟩
theorem pss_cons (h1 : PS X st t) (h2 : PSs X rest u) : PSs X (st :: rest) (tSeq t u) := by
 intro pins s σ H D I h
 refine wpAny_execs_cons (thn (h1 pins s σ H { D with nx := u D } I h) fun f s1 q => ?_)
 cases f with
 | next =>
  obtain ⟨σ', H', I', q⟩ := q
  exact h2 pins s1 σ' H' D I' q
 | ret v => exact q
 | brk => exact q
 | cont => exact q
theorem pss_one (h1 : PS X st t) : PSs X [st] t := by
 intro pins s σ H D I h
 refine wpAny_execs_cons (thn (h1 pins s σ H D I h) fun f s1 q => ?_)
 cases f with
 | next => exact wpAny_execs_nil q
 | ret v => exact q
 | brk => exact q
 | cont => exact q
theorem Inv.quiet {pins : List (Addr × Obj)} {σ : St} {H : Hp} {s : Shared} (I : Inv X pins σ H s) : interactive X.env = false := by simp [interactive, I.ok.kind]
noncomputable def tDrop (te : TE) : TS := fun D σ H => te σ H fun _ H1 => D.nx σ H1
theorem ps_expr (he : PE X e te) (hs : swapsWith e none pos.line X.env = pure false := by rfl) : PS X (.Expr e pos) (tDrop te) := by
 intro pins s σ H D I h
 exact wpAny_Expr_any (thn (he pins s σ H _ I h) fun v s1 ⟨x, H1, I1, r1, q1⟩ => ⟨σ, H1, I1, q1⟩) I.quiet hs
noncomputable def tRet (te : TE) : TS := fun D σ H => te σ H D.rt
theorem ps_ret (he : PE X e te) : PS X (.Return (some e) pos) (tRet te) := by
 intro pins s σ H D I h
 exact wpAny_Return_some (thn (he pins s σ H _ I h) fun v s1 ⟨x, H1, I1, r1, q1⟩ => ⟨x, σ, H1, I1, r1, q1⟩)
noncomputable def tIfS (c : TT) (t u : TS) : TS := fun D σ H => c σ H fun b H1 => if b = true then t D σ H1 else u D σ H1
theorem ps_if {c : Expr} {a b : List Stmt} {tc : TT} (hc : PT X c tc) (ha : PSs X a t) (hb : PSs X b u) : PS X (.If c a b pos) (tIfS tc t u) := by
 intro pins s σ H D I h
 refine wpAny_If (thn (hc pins s σ H _ I h) fun d s1 h_ => ?_)
 obtain ⟨H1, I1, q1⟩ := h_
 cases d with
 | true => exact ha pins s1 σ H1 D I1 q1
 | false => exact hb pins s1 σ H1 D I1 q1
end
noncomputable abbrev TG := V -> St -> Hp -> (St -> Hp -> Prop) -> Prop
noncomputable abbrev TGs := List V -> St -> Hp -> (St -> Hp -> Prop) -> Prop
noncomputable def PG (X : Cx) (target : Expr) (t : TG) : Prop :=
 ∀ (pins : List (Addr × Obj)) (s : Shared) (σ : St) (H : Hp) (v : V) (u : Value) (Q : St -> Hp -> Prop), Inv X pins σ H s -> RelV v u -> t v σ H Q ->
  wpAny (model X.prog X.w) X.A (assign target X.env u) (fun _ s' => ∃ σ' H', Inv X pins σ' H' s' /\ Q σ' H') X.xe s
noncomputable def PGs (X : Cx) (ts : List Expr) (t : TGs) : Prop :=
 ∀ (pins : List (Addr × Obj)) (s : Shared) (σ : St) (H : Hp) (vs : List V) (us : List Value) (Q : St -> Hp -> Prop), Inv X pins σ H s -> Vals vs us -> t vs σ H Q ->
  wpAny (model X.prog X.w) X.A (assignInOrder ((assignEach ts X.env).map (·.2)) us) (fun _ s' => ∃ σ' H', Inv X pins σ' H' s' /\ Q σ' H') X.xe s
noncomputable abbrev TSet := V -> V -> V -> Hp -> (Hp -> Prop) -> Prop
noncomputable def PSet (X : Cx) (t : TSet) : Prop :=
 ∀ (pins : List (Addr × Obj)) (s : Shared) (σ : St) (H : Hp) (o i v : V) (ov iv u : Value) (Q : Hp -> Prop), Inv X pins σ H s -> RelV o ov -> RelV i iv -> RelV v u -> t o i v H Q ->
  wpAny (model X.prog X.w) X.A (setItem ov iv u) (fun _ s' => ∃ H', Inv X pins σ H' s' /\ Q H') X.xe s
section
variable {X : Cx} {pos : Pos}
noncomputable def gName (i : Nat) : TG := fun v σ H Q => Q (σ.set i (some v)) H
theorem pg_name {i : Nat} {x : Str} (hN : X.N.Nodup) (hi : X.N[i]? = some x) (hx : Loc X.env.scope x) (hf : X.fn x = true \/ X.env.scope.names.lookup x = some .local := by first | exact .inl rfl | exact .inr rfl | assumption) : PG X (.Name x pos) (gName i) := by
 intro pins s σ H v u Q I r h
 exact wpAny_assign_Name (store_ok I hN hi hx r (fun s' I' => ⟨_, H, I', h⟩) hf)
noncomputable def gNil : TGs := fun vs σ H Q => vs = [] /\ Q σ H
noncomputable def gCons (t : TG) (u : TGs) : TGs := fun vs σ H Q => ∃ v r, vs = v :: r /\ t v σ H fun σ' H' => u r σ' H' Q
theorem pgs_nil : PGs X [] gNil := by
 intro pins s σ H vs us Q I r h
 obtain ⟨e, h⟩ := h
 subst e
 cases r
 exact assignInOrder_nil ⟨σ, H, I, h⟩
theorem pgs_cons {e : Expr} {es : List Expr} {t : TG} {u : TGs} (h1 : PG X e t) (h2 : PGs X es u)
  (hs : (assignEach (e :: es) X.env).map (·.2) = assign e X.env :: (assignEach es X.env).map (·.2) := by rfl) : PGs X (e :: es) (gCons t u) := by
 intro pins s σ H vs us Q I r h
 obtain ⟨v, vr, e1, h⟩ := h
 subst e1
 cases r with
 | cons r rr =>
  rw [hs]
  refine assignInOrder_cons (thn (h1 pins s σ H _ _ _ I r h) fun _ s1 h_ => ?_)
  obtain ⟨σ1, H1, I1, q1⟩ := h_
  exact h2 pins s1 σ1 H1 _ _ Q I1 rr q1
noncomputable def gTup (K : W.Frag) (n : Nat) (t : TGs) : TG := fun v σ H Q => ∃ a xs, v = .ref a /\ SqT K H a xs /\ xs.length = n /\ t xs σ H Q
theorem pg_tup {es : List Expr} {k : Nat} {t : TGs} {n : Nat} (hc : X.calm = true) (h : PGs X es t)
  (hn : (assignEach es X.env).length = n := by rfl) (hst : (assignEach es X.env).findIdx? (·.1) = none := by rfl) : PG X (.Tuple es k pos) (gTup X.K n t) := by
 intro pins s σ H v u Q I r hw
 obtain ⟨a, xs, e1, hq, hl, hw⟩ := hw
 subst e1
 cases r
 obtain ⟨its, rv, ht, hz⟩ := I.tuple hq
 refine assign_Tuple_tuple (I.ok.hd hc) ht (by simp [hn, ← hl, rv.length]) hst fun h' hx => ?_
 have I1 : Inv X pins σ H { s with heap := h' } := I.kept (t' := s.toks) fun b o e => hx b o (Nat.ne_of_lt (Heap.lt_size e)) e
 exact h pins _ σ H xs _ Q I1 (by simpa using rv) hw
noncomputable def gSub (to ti : TE) (t : TSet) : TG := fun v σ H Q => to σ H fun o H1 => ti σ H1 fun i H2 => t o i v H2 fun H3 => Q σ H3
theorem pg_sub {o i : Expr} {to ti : TE} {t : TSet} (ho : PE X o to) (hi : PE X i ti) (hs : PSet X t)
  (ha : ∀ v, assign (.Subscript o i pos) X.env v = (do
   let ov ← holding [v] (eval o X.env)
   let iv ← holding [v, ov] (eval i X.env)
   standAt pos
   holding [v, ov, iv] (setItem ov iv v)
   release [v, ov, iv] []) := by intro _; rfl) : PG X (.Subscript o i pos) (gSub to ti t) := by
 intro pins s σ H v u Q I r h
 rw [ha]
 refine wpAny_bind (wpAny_holding (thn (ho pins s σ H _ I h) fun ov s1 h_ => ?_))
 obtain ⟨x, H1, I1, r1, q1⟩ := h_
 refine wpAny_bind (wpAny_holding (thn (hi pins s1 σ H1 _ I1 q1) fun iv s2 h_ => ?_))
 obtain ⟨y, H2, I2, r2, q2⟩ := h_
 refine wpAny_bind (wpAny_standAt (wpAny_bind (wpAny_holding (thn (hs pins s2 σ H2 x y v ov iv u _ I2 r1 r2 r q2) fun _ s3 h_ => ?_))))
 obtain ⟨H3, I3, q3⟩ := h_
 exact wpAny_release ⟨σ, H3, I3, q3⟩
noncomputable def tAsg (te : TE) (g : TG) : TS := fun D σ H => te σ H fun x H1 => g x σ H1 D.nx
theorem ps_asg {tg e : Expr} {te : TE} {g : TG} (he : PE X e te) (hg : PG X tg g) (hs : swapsWithSole [tg] e pos.line X.env = pure false := by rfl) (hw : swappedStores [tg] e X.env = pure none := by rfl)
  (h1 : (assignEach [tg] X.env).map (·.2) = [assign tg X.env] := by rfl) : PS X (.Assign [tg] e pos) (tAsg te g) := by
 intro pins s σ H D I h
 refine wpAny_Assign_stores (thn (he pins s σ H _ I h) fun v s1 ⟨x, H1, I1, r1, q1⟩ => ?_) hs hw
 rw [h1]
 exact thn (hg pins s1 σ H1 x v _ I1 r1 q1) fun _ s2 q => q
theorem ps_set {i : Nat} {x : Str} {e : Expr} {te : TE} {pos' : Pos} (hN : X.N.Nodup) (hi : X.N[i]? = some x) (hx : Loc X.env.scope x) (he : PE X e te) (hs : swapsWith e (some (.Name x pos')) pos.line X.env = pure false := by rfl) (hf : X.fn x = true \/ X.env.scope.names.lookup x = some .local := by first | exact .inl rfl | exact .inr rfl | assumption) :
  PS X (.Assign [.Name x pos'] e pos) (tAsg te (gName i)) := by
 intro pins s σ H D I h
 refine wpAny_Assign_Name (thn (he pins s σ H _ I h) fun v s1 ⟨y, H1, I1, r1, q1⟩ => ?_) hs
 exact store_ok I1 hN hi hx r1 (fun s2 I2 => ⟨_, H1, I2, q1⟩) hf
end
structure It where
 go : Nat -> Hp -> Prop
 yld : Nat -> Hp -> V -> Hp -> Prop
 stop : Nat -> Hp -> Prop
noncomputable def FpOk (X : Cx) (pins : List (Addr × Obj)) (H : Hp) (b : Addr) : Prop :=
 H b = none /\ b ≠ X.env.locals /\ b ∉ X.fs /\ (b ∈ X.ex \/ X.s₀.heap.objs.size <= b) /\ (∀ x c, X.env.cells.lookup x = some c -> c ≠ b) /\ ∀ p ∈ X.pn ++ pins, p.1 ≠ b
theorem Inv.fpOk {X : Cx} {pins : List (Addr × Obj)} {σ : St} {H H' : Hp} {s : Shared} {b : Addr} (I : Inv X pins σ H s) (hb : s.heap.objs.size <= b) (hn : H' b = none) : FpOk X pins H' b := by
 refine ⟨hn, Nat.ne_of_gt (Nat.lt_of_lt_of_le I.lt hb), I.nofs hb, .inr (Nat.le_trans I.sz hb), fun x c e z => ?_, fun p hp z => ?_⟩
 ·obtain ⟨v, q⟩ := I.cell x c e
  exact absurd (Nat.lt_of_lt_of_le q.lt (by rw [z]; exact hb)) (Nat.lt_irrefl _)
 ·exact absurd (Nat.lt_of_lt_of_le (Heap.lt_size (I.pin p hp).1) (by rw [z]; exact hb)) (Nat.lt_irrefl _)
structure Turn (P : Program) (w : World) (K : W.Frag) (tg : Expr) (J : It) (fp : List Addr) (it : Addr) (tn : Nat -> Heap -> Prop) : Prop where
 mem : it ∈ fp
 obj : ∀ i h, tn i h -> ∀ b ∈ fp, ∃ o, h.get? b = some o /\ ∀ v, o.data ≠ .cell v
 keep : ∀ i h h', tn i h -> (∀ b ∈ fp, ∀ o, h.get? b = some o -> h'.get? b = some o) -> tn i h'
 item : ∀ (X : Cx), X.prog = P -> X.w = w -> X.K = K -> X.calm = true -> ∀ (i : Nat) (pins : List (Addr × Obj)) (s : Shared) (σ : St) (H : Hp) (E : Value -> Shared -> Prop), Inv X pins σ H s -> (∀ b ∈ fp, FpOk X pins H b) -> tn i s.heap -> J.go i H ->
  wpAny (model P w) X.A (pyNext (.ref it)) (fun r s1 => ∃ u, r = some u /\
   wpAny (model P w) X.A (letOwnedTupleGo tg (.ref it) u) (fun _ s2 => ∃ x H', Inv X pins σ H' s2 /\ RelV x u /\ J.yld i H x H' /\ tn (i + 1) s2.heap /\ ∀ b ∈ fp, H' b = none) E s1) E s
 done : ∀ (X : Cx), X.prog = P -> X.w = w -> X.K = K -> X.calm = true -> ∀ (i : Nat) (pins : List (Addr × Obj)) (s : Shared) (σ : St) (H : Hp) (E : Value -> Shared -> Prop), Inv X pins σ H s -> (∀ b ∈ fp, FpOk X pins H b) -> tn i s.heap -> J.stop i H ->
  wpAny (model P w) X.A (pyNext (.ref it)) (fun r s1 => r = none /\ Inv X pins σ H s1) E s
 self : ∀ (A : Around) (i : Nat) (s : Shared) (Q : Value -> Shared -> Prop) (E : Value -> Shared -> Prop), tn i s.heap -> Q (.ref it) s -> wpAny (model P w) A (pyIter (.ref it)) Q E s
noncomputable abbrev TI := St -> Hp -> (It -> Hp -> Prop) -> Prop
noncomputable def PIE (X : Cx) (pins : List (Addr × Obj)) (σ : St) (tg : Expr) (R : It -> Hp -> Prop) (itv : Value) (s2 : Shared) : Prop :=
 ∃ (it : Addr) (fp : List Addr) (tn : Nat -> Heap -> Prop) (J : It) (H' : Hp), itv = .ref it /\ Inv X pins σ H' s2 /\ Turn X.prog X.w X.K tg J fp it tn /\ tn 0 s2.heap /\ (∀ b ∈ fp, FpOk X pins H' b) /\ R J H'
noncomputable def PI (X : Cx) (tg iter : Expr) (wi : TI) : Prop :=
 ∀ (pins : List (Addr × Obj)) (s : Shared) (σ : St) (H : Hp) (R : It -> Hp -> Prop), Inv X pins σ H s -> wi σ H R ->
  wpAny (model X.prog X.w) X.A (eval iter X.env) (fun v s1 => wpAny (model X.prog X.w) X.A (pyIter v) (PIE X pins σ tg R) X.xe s1) X.xe s
theorem go_of {M : Model} {A : Around} {E : Value -> Shared -> Prop} {s : Shared} {tg : Expr} {it : Addr} {u : Value} {o : Obj} {n : String} {vs : Array Value} {Q : Unit -> Shared -> Prop} (ho : s.heap.get? it = some o) (hc : o.cls = .type n) (hd : o.data = .fields vs)
    (hn : ["enumerate", "zip", "dict_itemiterator", "dict_reverseitemiterator", "odict_iterator", "itertools.zip_longest", "itertools.pairwise"].contains n = false) (hQ : Q () s) : wpAny M A (letOwnedTupleGo tg (.ref it) u) Q E s := by
  unfold letOwnedTupleGo
  cases tg <;> first
    | exact wpAny_pure hQ
    | (cases u <;> first
        | exact wpAny_pure hQ
        | (refine wpAny_bind (wpAny_load ho ?_)
           rw [hc, hd]
           show wpAny M A (if (["enumerate", "zip", "dict_itemiterator", "dict_reverseitemiterator", "odict_iterator", "itertools.zip_longest", "itertools.pairwise"].contains n && vs[0]? == some (rawInt _)) = true then _ else _) Q E s
           rw [if_neg (by intro h; rw [hn, Bool.false_and] at h; cases h)]
           exact wpAny_pure hQ))
noncomputable def Itl (K : W.Frag) (a : Addr) : It :=
 ⟨fun i H => ∃ xs x, SqL K H a xs /\ xs[i]? = some x, fun i H x H' => H' = H /\ ∀ xs, SqL K H a xs -> xs[i]? = some x, fun i H => ∃ xs, SqL K H a xs /\ xs.length <= i⟩
noncomputable def Itt (K : W.Frag) (a : Addr) : It :=
 ⟨fun i H => ∃ xs x, SqT K H a xs /\ xs[i]? = some x, fun i H x H' => H' = H /\ ∀ xs, SqT K H a xs -> xs[i]? = some x, fun i H => ∃ xs, SqT K H a xs /\ xs.length <= i⟩
noncomputable def Itr (lo : Int) (n : Nat) : It := ⟨fun i _ => i < n, fun i H x H' => H' = H /\ x = .int (lo + i), fun i _ => n <= i⟩
theorem turn_list {P : Program} {w : World} {K : W.Frag} {tg : Expr} (a it : Addr) : Turn P w K tg (Itl K a) [it] it (fun i h => h.IsListIter it a i) where
 mem := by simp
 obj := fun i h st b hb => by
  have e : b = it := by simpa using hb
  subst e
  obtain ⟨o, e, c, d⟩ := st
  exact ⟨o, e, fun v z => by rw [d] at z; cases z⟩
 keep := fun i h h' st k => st.at fun o e => k it (by simp) o e
 item := by
  intro X hP hw hK hc i pins s σ H E I hf st hg
  subst hP hw hK
  obtain ⟨xs, x, hq, hx⟩ := hg
  obtain ⟨its, rv, p, hz⟩ := I.list hq
  obtain ⟨u, hu, ru⟩ := rv.get hx
  obtain ⟨f0, f1, f2, f3, f4, f5⟩ := hf it (by simp)
  refine wpAny_pyNext_list_item st p.isList (x := u) (by simpa using hu) fun h' st' sb => ?_
  have I1 : Inv X pins σ H { s with heap := h' } := I.turned (t' := s.toks) (fun b o hb e => (sb.2 b hb).trans e) f0 f1 f3 f4 f5
  obtain ⟨o, e, c, d⟩ := id st'
  exact ⟨u, rfl, go_of (s := { s with heap := h' }) e c d (by decide) ⟨x, H, I1, ru, ⟨rfl, fun ys hy => by rw [I.list_inj hy hq]; exact hx⟩, st', fun b hb => (hf b hb).1⟩⟩
 done := by
  intro X hP hw hK hc i pins s σ H E I hf st hg
  subst hP hw hK
  obtain ⟨xs, hq, hx⟩ := hg
  obtain ⟨its, rv, p, hz⟩ := I.list hq
  obtain ⟨f0, f1, f2, f3, f4, f5⟩ := hf it (by simp)
  have hl := rv.length
  exact wpAny_pyNext_list_end (I.ok.hd hc) st p.isList (by simp; lia) fun h' eb => ⟨rfl, I.turned (t' := s.toks) (fun b o hb e => eb b o hb e) f0 f1 f3 f4 f5⟩
 self := fun _ _ _ _ _ st h => wpAny_pyIter_listiter st h
theorem turn_tuple {P : Program} {w : World} {K : W.Frag} {tg : Expr} (a it : Addr) : Turn P w K tg (Itt K a) [it] it (fun i h => h.IsTupleIter it a i) where
 mem := by simp
 obj := fun i h st b hb => by
  have e : b = it := by simpa using hb
  subst e
  obtain ⟨o, e, c, d⟩ := st
  exact ⟨o, e, fun v z => by rw [d] at z; cases z⟩
 keep := fun i h h' st k => st.at fun o e => k it (by simp) o e
 item := by
  intro X hP hw hK hc i pins s σ H E I hf st hg
  subst hP hw hK
  obtain ⟨xs, x, hq, hx⟩ := hg
  obtain ⟨its, rv, p, hz⟩ := I.tuple hq
  obtain ⟨u, hu, ru⟩ := rv.get hx
  obtain ⟨f0, f1, f2, f3, f4, f5⟩ := hf it (by simp)
  refine wpAny_pyNext_tuple_item st (show s.heap.IsTuple a its.toArray from p) (x := u) (by simpa using hu) fun h' st' sb => ?_
  have I1 : Inv X pins σ H { s with heap := h' } := I.turned (t' := s.toks) (fun b o hb e => (sb.2 b hb).trans e) f0 f1 f3 f4 f5
  obtain ⟨o, e, c, d⟩ := id st'
  exact ⟨u, rfl, go_of (s := { s with heap := h' }) e c d (by decide) ⟨x, H, I1, ru, ⟨rfl, fun ys hy => by rw [I.tuple_inj hy hq]; exact hx⟩, st', fun b hb => (hf b hb).1⟩⟩
 done := by
  intro X hP hw hK hc i pins s σ H E I hf st hg
  subst hP hw hK
  obtain ⟨xs, hq, hx⟩ := hg
  obtain ⟨its, rv, p, hz⟩ := I.tuple hq
  obtain ⟨f0, f1, f2, f3, f4, f5⟩ := hf it (by simp)
  have hl := rv.length
  exact wpAny_pyNext_tuple_end (I.ok.hd hc) st (show s.heap.IsTuple a its.toArray from p) (by simp; lia) fun h' eb => ⟨rfl, I.turned (t' := s.toks) (fun b o hb e => eb b o hb e) f0 f1 f3 f4 f5⟩
 self := fun _ _ _ _ _ st h => wpAny_pyIter_tupleiter st h
theorem turn_range {P : Program} {w : World} {K : W.Frag} {tg : Expr} (it : Addr) (lo : Int) (n : Nat) : Turn P w K tg (Itr lo n) [it] it (fun i h => IsRangeIter h it (lo + (i : Nat) * 1) ((n : Int) - (i : Nat)) 1) where
 mem := by simp
 obj := fun i h st b hb => by
  have e : b = it := by simpa using hb
  subst e
  exact ⟨_, st, fun v z => by
   have z' : Data.fields _ = Data.cell v := z
   cases z'⟩
 keep := fun i h h' st k => k it (by simp) _ st
 item := by
  intro X hP hw hK hc i pins s σ H E I hf st hg
  subst hP hw hK
  obtain ⟨f0, f1, f2, f3, f4, f5⟩ := hf it (by simp)
  have W := Walks.range (prog := X.prog) (w := X.w) (I.ok.hd hc) it lo 1 n
  refine W.item i s _ _ hg st fun v h' tk hv st' kk => ?_
  obtain ⟨t, rfl⟩ := hv
  have I1 : Inv X pins σ H { s with heap := h', toks := tk } := I.turned (fun b o hb e => kk b o (by simpa using hb) e) f0 f1 f3 f4 f5
  refine ⟨_, rfl, go_of (s := { s with heap := h', toks := tk }) (n := "range_iterator") st' rfl rfl (by decide) ⟨.int (lo + i), H, I1, ⟨t, ?_⟩, ⟨rfl, rfl⟩, st', fun b hb => (hf b hb).1⟩⟩
  rw [Int.mul_one]
 done := by
  intro X hP hw hK hc i pins s σ H E I hf st hg
  subst hP hw hK
  obtain ⟨f0, f1, f2, f3, f4, f5⟩ := hf it (by simp)
  exact wpAny_pyNext_range_end (I.ok.hd hc) st (by have : n <= i := hg; lia) fun h' eb => ⟨rfl, I.turned (t' := s.toks) (fun b o hb e => eb b o hb e) f0 f1 f3 f4 f5⟩
 self := fun _ _ _ _ _ st h => wpAny_pyIter_rangeiter st h
section
variable {X : Cx} {tg : Expr}
theorem range_it {pins : List (Addr × Obj)} {σ : St} {H : Hp} {s : Shared} {R : It -> Hp -> Prop} {E : Value -> Shared -> Prop} {lo hi : Int} {t u v : Tok} {tk : Nat} (I : Inv X pins σ H s) (h1 : -(2 ^ 62) <= lo) (h2 : lo < 2 ^ 62) (h3 : -(2 ^ 62) <= hi) (h4 : hi < 2 ^ 62)
  (q : R (Itr lo (hi - lo).toNat) H) : wpAny (model X.prog X.w) X.A (pyIter (.ref s.heap.objs.size)) (PIE X pins σ tg R) E { s with heap := s.heap.push { cls := .type "range", data := .fields #[.int lo t, .int hi u, .int 1 v] }, toks := tk } := by
 refine wpAny_pyIter_range (IsRange.new ..) (small_one h1 h2 h3 h4) ?_
 have I1 : Inv X pins σ H { s with heap := s.heap.push { cls := .type "range", data := .fields #[.int lo t, .int hi u, .int 1 v] }, toks := tk } := I.kept fun b o e => Heap.get?_push_of_some _ e
 refine ⟨(s.heap.push { cls := .type "range", data := .fields #[.int lo t, .int hi u, .int 1 v] }).objs.size, [(s.heap.push { cls := .type "range", data := .fields #[.int lo t, .int hi u, .int 1 v] }).objs.size], _, _, H, rfl,
  I1.kept (t' := tk) fun b o e => Heap.get?_push_of_some _ e, turn_range _ lo (hi - lo).toNat, ?_, fun b hb => ?_, q⟩
 ·have e1 : lo + ((0 : Nat) : Int) * 1 = lo := by simp
  have e2 : (((hi - lo).toNat : Nat) : Int) - ((0 : Nat) : Int) = Builtin.Range.rangeSize lo hi 1 := by rw [rangeSize_one]; split <;> lia
  show IsRangeIter _ _ (lo + ((0 : Nat) : Int) * 1) ((((hi - lo).toNat : Nat) : Int) - ((0 : Nat) : Int)) 1
  rw [e1, e2]
  exact Heap.get?_push_size _ rfl
 ·have e : b = (s.heap.push { cls := .type "range", data := .fields #[.int lo t, .int hi u, .int 1 v] }).objs.size := by simpa using hb
  subst e
  exact I1.fpOk (Nat.le_refl _) (I1.hok.fresh (Nat.le_refl _))
noncomputable def iRng1 (ta : TA) : TI := fun σ H R => ta σ H fun vs H1 => ∃ j : Int, vs = [.int j] /\ -(2 ^ 62) <= j /\ j < 2 ^ 62 /\ R (Itr 0 j.toNat) H1
theorem pi_range1 {a : Expr} {ta : TA} {p pos : Pos} (hg : Gl X "range") (hm : X.mg "range" = none) (ha : PA X [a] ta) (hs : starEach [a] X.env = [(false, eval a X.env)] := by rfl) : PI X tg (.Call (.Name "range" p) [a] [] pos) (iRng1 ta) := by
 intro pins s σ H R I h
 refine Call_ (Zci I hg hm boot_range (PyProof.Rows.callWith_type1 (thn (ha pos pins s σ H _ I h) fun us s1 ⟨vs, H1, I1, r1, q1⟩ => ?_) hs rfl))
 obtain ⟨j, e, q1, q2, q⟩ := q1
 subst e
 cases r1 with
 | cons r rr =>
  cases rr
  obtain ⟨t, rfl⟩ := r
  exact call_range_1 (range_it I1 (by lia) (by lia) q1 q2 (by simpa using q))
noncomputable def tFor (wi : TI) (g : TG) (tb : TS) : TS := fun D σ H => wi σ H fun J H1 => ∃ W : Nat -> Nat -> St -> Hp -> Prop, (∃ m, W 0 m σ H1) /\ ∀ i m σ H, W i m σ H ->
 (J.stop i H /\ D.nx σ H) \/ (J.go i H /\ ∃ N : St -> Hp -> Prop, (∀ σ' H', N σ' H' -> ∃ m', m' < m /\ W (i + 1) m' σ' H') /\ ∀ x H', J.yld i H x H' -> g x σ H' fun σ2 H2 => tb { D with nx := N, ct := N, bk := D.nx } σ2 H2)
noncomputable def pinsAt (fp : List Addr) (h : Heap) : List (Addr × Obj) := fp.filterMap fun b => (h.get? b).map fun o => (b, o)
theorem Zbe {fp : List Addr} {h : Heap} {b : Addr} {o : Obj} (hb : b ∈ fp) (e : h.get? b = some o) : (b, o) ∈ pinsAt fp h := List.mem_filterMap.mpr ⟨b, hb, by rw [e]; rfl⟩
theorem of_pinsAt {fp : List Addr} {h : Heap} {p : Addr × Obj} (hp : p ∈ pinsAt fp h) : p.1 ∈ fp /\ h.get? p.1 = some p.2 := by
 obtain ⟨b, hb, e⟩ := List.mem_filterMap.mp hp
 cases q : h.get? b with
 | none => rw [q] at e; cases e
 | some o =>
  rw [q] at e
  have e' : (b, o) = p := Option.some.inj e
  subst e'
  exact ⟨hb, q⟩
theorem Inv.pinned {pins : List (Addr × Obj)} {σ : St} {H : Hp} {s : Shared} {fp : List Addr} (I : Inv X pins σ H s) (hf : ∀ b ∈ fp, FpOk X pins H b) (ho : ∀ b ∈ fp, ∃ o, s.heap.get? b = some o /\ ∀ v, o.data ≠ .cell v) : Inv X (pins ++ pinsAt fp s.heap) σ H s :=
 I.pins_of fun p hp => (List.mem_append.mp hp).elim (fun z => I.pin p (List.mem_append_right _ z)) fun z => by
  obtain ⟨hb, e⟩ := of_pinsAt z
  obtain ⟨f0, f1, f2, _⟩ := hf p.1 hb
  obtain ⟨o, e', d⟩ := ho p.1 hb
  rw [e] at e'; cases e'
  exact ⟨e, f0, f1, f2, d⟩
theorem Inv.unpinned {pins pl : List (Addr × Obj)} {σ : St} {H : Hp} {s : Shared} (I : Inv X (pins ++ pl) σ H s) : Inv X pins σ H s := I.pins_of fun p hp => I.pin p (List.mem_append_right _ (List.mem_append_left _ hp))
theorem ps_for {iter : Expr} {body : List Stmt} {wi : TI} {g : TG} {tb : TS} {pos : Pos} (hp : PassesOwn (model X.prog X.w) X.A X.env X.xe) (hc : X.calm = true) (hi : PI X tg iter wi) (hg : PG X tg g) (hb : PSs X body tb)
  (hs : ∀ x, foldedSetIterable iter X.env x = pure x := by intro _; rfl) : PS X (.For tg iter body [] pos) (tFor wi g tb) := by
 intro pins s σ H D I h
 refine wpAny_For (thn (hi pins s σ H _ I h) fun v s1 h1 => thn h1 fun itv s2 h2 => ?_) hs
 obtain ⟨it, fp, tn, J, H2, e, I2, T, st2, f2, W, ⟨m0, w0⟩, turn⟩ := h2
 subst e
 have stat : ∀ {H' : Hp}, (∀ b ∈ fp, H' b = none) -> ∀ b ∈ fp, FpOk X pins H' b := fun hn b hb => ⟨hn b hb, (f2 b hb).2⟩
 refine codeAny_forLoop_any (fun n s' => ∃ i σ' H', Inv X pins σ' H' s' /\ tn i s'.heap /\ (∀ b ∈ fp, H' b = none) /\ W i n σ' H') ?_ m0 ⟨0, σ, H2, I2, st2, fun b hb => (f2 b hb).1, w0⟩
 rintro n s3 ⟨i, σ3, H3, I3, st3, fr3, w3⟩
 rcases turn i n σ3 H3 w3 with ⟨stop, qn⟩ | ⟨go, N, hN, step⟩
 ·refine wpAny_passesOwn hp (thn (T.done X rfl rfl rfl hc i pins s3 σ3 H3 X.xe I3 (stat fr3) st3 stop) fun r s4 h_ => ?_)
  obtain ⟨hr, I4⟩ := h_
  subst hr
  exact wpAny_execs_nil ⟨σ3, H3, I4, qn⟩
 ·refine wpAny_passesOwn hp (thn (T.item X rfl rfl rfl hc i pins s3 σ3 H3 X.xe I3 (stat fr3) st3 go) fun r s4 h_ => ?_)
  obtain ⟨u, hr, h4⟩ := h_
  subst hr
  refine wpAny_passesOwn hp (thn h4 fun _ s5 h_ => ?_)
  obtain ⟨x, H5, I5, r5, y5, st5, fr5⟩ := h_
  have I5' := I5.pinned (stat fr5) (T.obj _ _ st5)
  refine wpAny_passesOwn hp (thn (hg _ s5 σ3 H5 x u _ I5' r5 (step x H5 y5)) fun _ s6 h_ => ?_)
  obtain ⟨σ6, H6, I6, q6⟩ := h_
  refine wpAny_passesOwn hp (thn (hb _ s6 σ6 H6 _ I6 q6) fun f s7 q7 => ?_)
  have again : ∀ {σ7 : St} {H7 : Hp}, Inv X (pins ++ pinsAt fp s5.heap) σ7 H7 s7 -> N σ7 H7 -> ∃ m, m < n /\ ∃ i σ' H', Inv X pins σ' H' s7 /\ tn i s7.heap /\ (∀ b ∈ fp, H' b = none) /\ W i m σ' H' := fun {σ7 H7} I7 n7 => by
   obtain ⟨m', hm, w7⟩ := hN σ7 H7 n7
   refine ⟨m', hm, i + 1, σ7, H7, I7.unpinned, T.keep _ _ _ st5 fun b hb o e => (I7.pin (b, o) (List.mem_append_right _ (List.mem_append_right _ (Zbe hb e)))).1, fun b hb => ?_, w7⟩
   obtain ⟨o, e, d⟩ := T.obj _ _ st5 b hb
   exact (I7.pin (b, o) (List.mem_append_right _ (List.mem_append_right _ (Zbe hb e)))).2.1
  cases f with
  | next => obtain ⟨σ7, H7, I7, n7⟩ := q7; exact again I7 n7
  | cont => obtain ⟨σ7, H7, I7, n7⟩ := q7; exact again I7 n7
  | brk => obtain ⟨σ7, H7, I7, q7⟩ := q7; exact ⟨σ7, H7, I7.unpinned, q7⟩
  | ret v => obtain ⟨x7, σ7, H7, I7, r7, q7⟩ := q7; exact ⟨x7, σ7, H7, I7.unpinned, r7, q7⟩
end
noncomputable abbrev R2 := V -> V -> Hp -> VK -> Prop
noncomputable def OpR (X : Cx) (f : Value -> Value -> Sem Value) (r : R2) : Prop :=
 ∀ (pins : List (Addr × Obj)) (s : Shared) (σ : St) (H : Hp) (x y : V) (v u : Value) (Q : VK), Inv X pins σ H s -> RelV x v -> RelV y u -> r x y H Q ->
  wpAny (model X.prog X.w) X.A (f v u) (EP X pins σ Q) X.xe s
noncomputable def CallR (X : Cx) (f : Value) (r : List V -> Hp -> VK -> Prop) : Prop :=
 ∀ (pins : List (Addr × Obj)) (s : Shared) (σ : St) (H : Hp) (xs : List V) (us : List Value) (Q : VK), Inv X pins σ H s -> Vals xs us -> r xs H Q ->
  wpAny (model X.prog X.w) X.A (call f us) (EP X pins σ Q) X.xe s
noncomputable def TruR (X : Cx) (r : V -> Hp -> (Bool -> Hp -> Prop) -> Prop) : Prop :=
 ∀ (pins : List (Addr × Obj)) (s : Shared) (σ : St) (H : Hp) (x : V) (v : Value) (Q : Bool -> Hp -> Prop), Inv X pins σ H s -> RelV x v -> r x H Q ->
  wpAny (model X.prog X.w) X.A (truthy v) (TP X pins σ Q) X.xe s
noncomputable def tOp (r : R2) (ta tb : TE) : TE := fun σ H Q => ta σ H fun x H1 => tb σ H1 fun y H2 => r x y H2 Q
noncomputable def rI (C : Int -> Int -> Prop) (g : Int -> Int -> V) : R2 := fun x y H Q => ∃ i j, x = .int i /\ y = .int j /\ C i j /\ Q (g i j) H
noncomputable def rI0 (g : Int -> Int -> V) : R2 := fun x y H Q => ∃ i j, x = .int i /\ y = .int j /\ Q (g i j) H
section
variable {X : Cx} {a b c : Expr} {ta tb tc : TE} {pos : Pos}
theorem binT (ha : PE X a ta) (hb : PE X b tb) {pins : List (Addr × Obj)} {s : Shared} {σ : St} {H : Hp} {R : V -> V -> Hp -> Prop} (I : Inv X pins σ H s)
  (h : ta σ H fun x H1 => tb σ H1 fun y H2 => R x y H2) {Q : Value -> Shared -> Prop} {f : Value -> Value -> Sem Value}
  (hf : ∀ v u s2 x y H2, Inv X pins σ H2 s2 -> RelV x v -> RelV y u -> R x y H2 -> wpAny (model X.prog X.w) X.A (f v u) Q X.xe s2) :
  wpAny (model X.prog X.w) X.A (eval a X.env) (fun v s₁ => wpAny (model X.prog X.w) X.A (eval b X.env) (fun u s₂ => wpAny (model X.prog X.w) X.A (f v u) Q X.xe s₂) X.xe s₁) X.xe s := by
 refine thn (ha pins s σ H _ I h) fun v s1 h_ => ?_
 obtain ⟨x, H1, I1, r1, q1⟩ := h_
 refine thn (hb pins s1 σ H1 _ I1 q1) fun u s2 h_ => ?_
 obtain ⟨y, H2, I2, r2, q2⟩ := h_
 exact hf v u s2 x y H2 I2 r1 r2 q2
theorem pe_op {op : Operator} {r : R2} (ho : OpR X (binaryOp op) r) (ha : PE X a ta) (hb : PE X b tb) : PE X (.BinOp a op b pos) (tOp r ta tb) := by
 intro pins s σ H Q I h
 exact wpAny_BinOp (binT ha hb I h fun v u s2 x y H2 I2 rx ry q => ho pins s2 σ H2 x y v u Q I2 rx ry q)
theorem opI {f : Value -> Value -> Sem Value} {C : Int -> Int -> Prop} {g : Int -> Int -> Int}
  (rule : ∀ (i j : Int) (t u : Tok) (s : Shared) (Q : Value -> Shared -> Prop) (E : Value -> Shared -> Prop), C i j -> Q (.int (g i j) s.toks) { s with toks := s.toks + 1 } -> wpAny (model X.prog X.w) X.A (f (.int i t) (.int j u)) Q E s) :
  OpR X f (rI C fun i j => .int (g i j)) := by
 intro pins s σ H x y v u Q I rx ry h
 obtain ⟨i, j, rfl, rfl, hc, q⟩ := h
 obtain ⟨t, rfl⟩ := rx
 obtain ⟨t', rfl⟩ := ry
 exact rule i j t t' s _ _ hc ⟨.int (g i j), H, I.tok _, ⟨_, rfl⟩, q⟩
theorem opI0 {f : Value -> Value -> Sem Value} {g : Int -> Int -> Int}
  (rule : ∀ (i j : Int) (t u : Tok) (s : Shared) (Q : Value -> Shared -> Prop) (E : Value -> Shared -> Prop), Q (.int (g i j) s.toks) { s with toks := s.toks + 1 } -> wpAny (model X.prog X.w) X.A (f (.int i t) (.int j u)) Q E s) :
  OpR X f (rI0 fun i j => .int (g i j)) := by
 intro pins s σ H x y v u Q I rx ry h
 obtain ⟨i, j, rfl, rfl, q⟩ := h
 obtain ⟨t, rfl⟩ := rx
 obtain ⟨t', rfl⟩ := ry
 exact rule i j t t' s _ _ ⟨.int (g i j), H, I.tok _, ⟨_, rfl⟩, q⟩
theorem opB0 {f : Value -> Value -> Sem Value} {g : Int -> Int -> Bool}
  (rule : ∀ (i j : Int) (t u : Tok) (s : Shared) (Q : Value -> Shared -> Prop) (E : Value -> Shared -> Prop), Q (.bool (g i j)) s -> wpAny (model X.prog X.w) X.A (f (.int i t) (.int j u)) Q E s) :
  OpR X f (rI0 fun i j => .bl (g i j)) := by
 intro pins s σ H x y v u Q I rx ry h
 obtain ⟨i, j, rfl, rfl, q⟩ := h
 obtain ⟨t, rfl⟩ := rx
 obtain ⟨t', rfl⟩ := ry
 exact rule i j t t' s _ _ ⟨.bl (g i j), H, I, rfl, q⟩
noncomputable def CPow (i j : Int) : Prop := 0 <= j /\ j <= 1000000 /\ i.natAbs < 2 ^ 64
noncomputable def CMul (i j : Int) : Prop := (-(2 ^ 64) < i /\ i < 2 ^ 64) \/ (-(2 ^ 64) < j /\ j < 2 ^ 64)
theorem CMul.ok {i j : Int} (h : CMul i j) : IntMulOk i j := by
 rcases h with ⟨h1, h2⟩ | ⟨h1, h2⟩
 ·exact .of_left (intBits_le_64 h1 h2)
 ·exact .of_right (intBits_le_64 h1 h2)
theorem op_add : OpR X (binaryOp .Add) (rI0 fun i j => .int (i + j)) := opI0 fun _ _ _ _ _ _ _ q => add_int q
theorem op_sub : OpR X (binaryOp .Sub) (rI0 fun i j => .int (i - j)) := opI0 fun _ _ _ _ _ _ _ q => sub_int q
theorem op_mul : OpR X (binaryOp .Mult) (rI CMul fun i j => .int (i * j)) := opI fun _ _ _ _ _ _ _ hc q => mul_int q hc.ok
theorem op_mod : OpR X (binaryOp .Mod) (rI (fun _ j => 0 < j) fun i j => .int (i % j)) := opI fun i j _ _ _ _ _ hc q => by
 have h1 : (0 : Int) < j := hc
 exact mod_int' (by lia) (by rw [Int.fmod_eq_emod_of_nonneg i (by lia)]; exact q)
theorem op_pow : OpR X (binaryOp .Pow) (rI CPow fun i j => .int (i ^ j.toNat)) := opI fun _ _ _ _ _ _ _ hc q => pow_int_small hc.1 hc.2.1 hc.2.2 q
end
noncomputable def scal : V -> V -> Bool
 | .non, .non => true | .non, .int _ => true | .int _, .non => true | .non, .bl _ => true | .bl _, .non => true | .non, .str _ => true | .str _, .non => true
 | .int _, .int _ => true | .bl _, .bl _ => true | .str _, .str _ => true | .byt _, .byt _ => true
 | .int _, .str _ => true | .str _, .int _ => true | .bl _, .str _ => true | .str _, .bl _ => true
 | _, _ => false
noncomputable def rEq : R2 := fun x y H Q => scal x y = true /\ Q (.bl (decide (x = y))) H
noncomputable def rNe : R2 := fun x y H Q => scal x y = true /\ Q (.bl (!decide (x = y))) H
theorem dec_int {i j : Int} : decide (V.int i = V.int j) = (i == j) := by
 rw [Bool.eq_iff_iff]
 simp
theorem dec_bl {i j : Bool} : decide (V.bl i = V.bl j) = (i == j) := by
 rw [Bool.eq_iff_iff]
 simp
theorem dec_str {i j : Str} : decide (V.str i = V.str j) = (i == j) := by
 rw [Bool.eq_iff_iff]
 simp
theorem dec_byt {i j : Array UInt8} : decide (V.byt i = V.byt j) = (i.toList == j.toList) := by
 rw [Bool.eq_iff_iff]
 cases i
 cases j
 simp
section
variable {X : Cx} {a b c : Expr} {ta tb tc : TE} {pos : Pos}
theorem Zar {pins : List (Addr × Obj)} {σ : St} {H : Hp} {s : Shared} {Q : VK} {k k' : Bool} (I : Inv X pins σ H s) (q : Q (.bl k) H) (e : k = k') : EP X pins σ Q (.bool k') s := by
 subst e
 exact ⟨.bl k, H, I, rfl, q⟩
theorem ZbS : OpR X (compareOp .Eq) rEq := by
 intro pins s σ H x y v u Q I rx ry h
 obtain ⟨hs, q⟩ := h
 cases x with
 | non =>
  cases rx
  cases y with
  | non => cases ry; exact PySem.EqNone.eq_none_none (Zar I q (by simp))
  | bl j => cases ry; exact PySem.EqNone.eq_none_bool (Zar I q (by simp))
  | int j => obtain ⟨t', rfl⟩ := ry; exact PySem.EqNone.eq_none_int (Zar I q (by simp))
  | str j => obtain ⟨t', rfl⟩ := ry; exact PySem.EqNone.eq_none_str (Zar I q (by simp))
  | _ => exact absurd (show false = true from hs) Bool.false_ne_true
 | bl i =>
  cases rx
  cases y with
  | non => cases ry; exact PySem.EqNone.eq_bool_none (Zar I q (by simp))
  | bl j => cases ry; exact eq_bool (Zar I q dec_bl)
  | str j => obtain ⟨t', rfl⟩ := ry; exact PySem.EqMixed.eq_bool_str (Zar I q (by simp))
  | _ => exact absurd (show false = true from hs) Bool.false_ne_true
 | int i =>
  obtain ⟨t, rfl⟩ := rx
  cases y with
  | non => cases ry; exact PySem.EqNone.eq_int_none (Zar I q (by simp))
  | int j => obtain ⟨t', rfl⟩ := ry; exact eq_int (Zar I q dec_int)
  | str j => obtain ⟨t', rfl⟩ := ry; exact PySem.EqMixed.eq_int_str (Zar I q (by simp))
  | _ => exact absurd (show false = true from hs) Bool.false_ne_true
 | str i =>
  obtain ⟨t, rfl⟩ := rx
  cases y with
  | non => cases ry; exact PySem.EqNone.eq_str_none (Zar I q (by simp))
  | bl j => cases ry; exact PySem.EqMixed.eq_str_bool (Zar I q (by simp))
  | int j => obtain ⟨t', rfl⟩ := ry; exact PySem.EqMixed.eq_str_int (Zar I q (by simp))
  | str j => obtain ⟨t', rfl⟩ := ry; exact eq_str (Zar I q dec_str)
  | _ => exact absurd (show false = true from hs) Bool.false_ne_true
 | byt i =>
  obtain ⟨t, rfl⟩ := rx
  cases y with
  | byt j => obtain ⟨t', rfl⟩ := ry; exact W.eq_bytes (Zar I q dec_byt)
  | _ => exact absurd (show false = true from hs) Bool.false_ne_true
 | _ => cases y <;> exact absurd (show false = true from hs) Bool.false_ne_true
theorem op_ne : OpR X (compareOp .NotEq) rNe := by
 intro pins s σ H x y v u Q I rx ry h
 obtain ⟨hs, q⟩ := h
 cases x with
 | non =>
  cases rx
  cases y with
  | non => cases ry; exact PySem.EqNone.ne_none_none (Zar I q (by simp))
  | bl j => cases ry; exact PySem.EqNone.ne_none_bool (Zar I q (by simp))
  | int j => obtain ⟨t', rfl⟩ := ry; exact PySem.EqNone.ne_none_int (Zar I q (by simp))
  | str j => obtain ⟨t', rfl⟩ := ry; exact PySem.EqNone.ne_none_str (Zar I q (by simp))
  | _ => exact absurd (show false = true from hs) Bool.false_ne_true
 | bl i =>
  cases rx
  cases y with
  | non => cases ry; exact PySem.EqNone.ne_bool_none (Zar I q (by simp))
  | bl j => cases ry; exact ne_bool (Zar I q (congrArg not dec_bl))
  | str j => obtain ⟨t', rfl⟩ := ry; exact PySem.EqMixed.ne_bool_str (Zar I q (by simp))
  | _ => exact absurd (show false = true from hs) Bool.false_ne_true
 | int i =>
  obtain ⟨t, rfl⟩ := rx
  cases y with
  | non => cases ry; exact PySem.EqNone.ne_int_none (Zar I q (by simp))
  | int j => obtain ⟨t', rfl⟩ := ry; exact ne_int (Zar I q (congrArg not dec_int))
  | str j => obtain ⟨t', rfl⟩ := ry; exact PySem.EqMixed.ne_int_str (Zar I q (by simp))
  | _ => exact absurd (show false = true from hs) Bool.false_ne_true
 | str i =>
  obtain ⟨t, rfl⟩ := rx
  cases y with
  | non => cases ry; exact PySem.EqNone.ne_str_none (Zar I q (by simp))
  | bl j => cases ry; exact PySem.EqMixed.ne_str_bool (Zar I q (by simp))
  | int j => obtain ⟨t', rfl⟩ := ry; exact PySem.EqMixed.ne_str_int (Zar I q (by simp))
  | str j => obtain ⟨t', rfl⟩ := ry; exact ne_str (Zar I q (congrArg not dec_str))
  | _ => exact absurd (show false = true from hs) Bool.false_ne_true
 | byt i =>
  obtain ⟨t, rfl⟩ := rx
  cases y with
  | byt j => obtain ⟨t', rfl⟩ := ry; exact W.ne_bytes (Zar I q (congrArg not dec_byt))
  | _ => exact absurd (show false = true from hs) Bool.false_ne_true
 | _ => cases y <;> exact absurd (show false = true from hs) Bool.false_ne_true
theorem op_lt : OpR X (compareOp .Lt) (rI0 fun i j => .bl (decide (i < j))) := opB0 fun _ _ _ _ _ _ _ q => lt_int q
theorem op_le : OpR X (compareOp .LtE) (rI0 fun i j => .bl (decide (i <= j))) := opB0 fun _ _ _ _ _ _ _ q => le_int q
theorem op_gt : OpR X (compareOp .Gt) (rI0 fun i j => .bl (decide (j < i))) := opB0 fun _ _ _ _ _ _ _ q => gt_int q
theorem op_ge : OpR X (compareOp .GtE) (rI0 fun i j => .bl (decide (j <= i))) := opB0 fun _ _ _ _ _ _ _ q => ge_int q
theorem op_in_str : OpR X (compareOp .In) (fun x y H Q => ∃ i j, x = .str i /\ y = .str j /\ Q (.bl (!(Builtin.Str.occurrences j i 0 j.length 1).isEmpty)) H) := by
 intro pins s σ H x y v u Q I rx ry h
 obtain ⟨i, j, rfl, rfl, q⟩ := h
 obtain ⟨t, rfl⟩ := rx
 obtain ⟨t', rfl⟩ := ry
 exact in_str (Zar I q rfl)
theorem nomark (b : Expr) {op : CmpOp} (h : op ≠ .In := by decide) (h2 : op ≠ .NotIn := by decide) : behindInMarks op b = false := by
 have e1 : (op == CmpOp.In) = false := by cases op <;> first | rfl | exact absurd rfl h
 have e2 : (op == CmpOp.NotIn) = false := by cases op <;> first | rfl | exact absurd rfl h2
 cases b <;> simp [behindInMarks, e1, e2]
theorem pe_cmpR {op : CmpOp} {r : R2} (ho : OpR X (compareOp op) r) (ha : PE X a ta) (hb : PE X b tb) (hm : behindInMarks op b = false) : PE X (.Compare a [op] [b] pos) (tOp r ta tb) := by
 intro pins s σ H Q I h
 exact wpAny_Compare1 (binT ha hb I h fun v u s2 x y H2 I2 rx ry q => ho pins s2 σ H2 x y v u Q I2 rx ry q) hm
noncomputable def tTest (t : TE) : TT := fun σ H Q => t σ H fun x H' => ∃ k, x = .bl k /\ Q k H'
theorem pt_cmpR {op : CmpOp} {r : R2} (ho : OpR X (compareOp op) r) (ha : PE X a ta) (hb : PE X b tb) (hm : behindInMarks op b = false) : PT X (.Compare a [op] [b] pos) (tTest (tOp r ta tb)) := by
 intro pins s σ H Q I h
 refine wpAny_isTrue_Compare1 (thn (ha pins s σ H _ I h) fun v s1 ⟨x, H1, I1, r1, q1⟩ => thn (hb pins s1 σ H1 _ I1 q1) fun u s2 ⟨y, H2, I2, r2, q2⟩ =>
  thn (ho pins s2 σ H2 x y v u _ I2 r1 r2 q2) fun c s3 ⟨z, H3, I3, r3, k, e, q3⟩ => ?_) hm
 subst e
 cases r3
 exact wpAny_truthy_bool ⟨H3, I3, q3⟩
noncomputable def tChain (r r' : R2) (ta tb tc : TE) : TE := fun σ H Q => ta σ H fun x H1 => tb σ H1 fun y H2 => r x y H2 fun z H3 => ∃ k, z = .bl k /\
 (if k = true then tc σ H3 fun w' H4 => r' y w' H4 Q else Q (.bl false) H3)
theorem pe_chain {op op' : CmpOp} {r r' : R2} (ho : OpR X (compareOp op) r) (ho' : OpR X (compareOp op') r') (ha : PE X a ta) (hb : PE X b tb) (hc : PE X c tc)
  (hm : lastMarks [op, op'] [b, c] = false := by with_unfolding_all rfl) : PE X (.Compare a [op, op'] [b, c] pos) (tChain r r' ta tb tc) := by
 intro pins s σ H Q I h
 refine Compare_chain (thn (ha pins s σ H _ I h) fun v s1 ⟨x, H1, I1, r1, q1⟩ => chain_link (thn (hb pins s1 σ H1 _ I1 q1) fun u s2 ⟨y, H2, I2, r2, q2⟩ =>
  thn (ho pins s2 σ H2 x y v u _ I2 r1 r2 q2) fun d s3 ⟨z, H3, I3, r3, k, e, q3⟩ => ?_)) hm
 subst e
 cases r3
 refine wpAny_truthy_bool ?_
 cases k with
 | false => exact ite_ff ⟨.bl false, H3, I3, rfl, q3⟩
 | true => exact ite_tt (chain_last (thn (hc pins s3 σ H3 _ I3 q3) fun w' s4 ⟨z', H4, I4, r4, q4⟩ => ho' pins s4 σ H4 y z' u w' Q I4 r2 r4 q4))
theorem pt_chain {op op' : CmpOp} {r r' : R2} (ho : OpR X (compareOp op) r) (ho' : OpR X (compareOp op') r') (ha : PE X a ta) (hb : PE X b tb) (hc : PE X c tc)
  (hm : lastMarks [op, op'] [b, c] = false := by with_unfolding_all rfl) : PT X (.Compare a [op, op'] [b, c] pos) (tTest (tChain r r' ta tb tc)) := by
 intro pins s σ H Q I h
 refine isTrue_chain (thn (ha pins s σ H _ I h) fun v s1 ⟨x, H1, I1, r1, q1⟩ => test_link (thn (hb pins s1 σ H1 _ I1 q1) fun u s2 ⟨y, H2, I2, r2, q2⟩ =>
  thn (ho pins s2 σ H2 x y v u _ I2 r1 r2 q2) fun d s3 ⟨z, H3, I3, r3, k, e, q3⟩ => ?_)) hm
 subst e
 cases r3
 refine wpAny_truthy_bool ?_
 cases k with
 | false =>
  obtain ⟨k', e', q'⟩ := q3
  cases e'
  exact ite_ff ⟨H3, I3, q'⟩
 | true =>
  refine ite_tt (test_last (thn (hc pins s3 σ H3 _ I3 q3) fun w' s4 ⟨z', H4, I4, r4, q4⟩ => thn (ho' pins s4 σ H4 y z' u w' _ I4 r2 r4 q4) fun d' s5 h_ => ?_))
  obtain ⟨z2, H5, I5, r5, k2, e2, q5⟩ := h_
  subst e2
  cases r5
  exact wpAny_truthy_bool ⟨H5, I5, q5⟩
noncomputable def TruV (K : W.Frag) (x : V) (H : Hp) (k : Bool) : Prop :=
 match x with
 | .non => k = false
 | .bl b => k = b
 | .int i => k = (i != 0)
 | .str y => y.length <= sizeLine /\ k = ((y.length : Int) != 0)
 | .byt y => y.size <= sizeLine /\ k = ((y.size : Int) != 0)
 | .ref p => (∃ xs, SqL K H p xs /\ k = !xs.isEmpty) \/ (∃ xs, SqT K H p xs /\ k = !xs.isEmpty) \/ ∃ kvs, H p = some (.dK kvs) /\ k = !kvs.isEmpty
 | _ => False
theorem isEmpty_kv {κ : Type} {kvs : List (κ × V)} {vs : List (κ × Value)} (r : KV kvs vs) : (!vs.isEmpty) = !kvs.isEmpty := by
 cases r <;> rfl
theorem Zcl {xs : List V} {its : List Value} (r : Vals xs its) : (!its.toArray.isEmpty) = !xs.isEmpty := by
 cases r <;> simp
theorem line63 : (sizeLine : Nat) < 2 ^ 63 := by rw [sizeLine_eq]; decide
theorem tru_ok : TruR X (fun x H Q => ∃ k, TruV X.K x H k /\ Q k H) := by
 intro pins s σ H x v Q I rx h
 obtain ⟨k, e, q⟩ := h
 have hl := line63
 have hs : sizeLine = 16777216 := sizeLine_eq
 cases x with
 | non =>
  cases rx
  have e' : k = false := e
  subst e'
  exact truthy_none ⟨H, I, q⟩
 | bl b =>
  cases rx
  have e' : k = b := e
  subst e'
  exact wpAny_truthy_bool ⟨H, I, q⟩
 | int i =>
  obtain ⟨t, rfl⟩ := rx
  have e' : k = (i != 0) := e
  subst e'
  exact PySem.P.truthy_int ⟨H, I, q⟩
 | str y =>
  obtain ⟨t, rfl⟩ := rx
  obtain ⟨hy, e'⟩ : y.length <= sizeLine /\ k = ((y.length : Int) != 0) := e
  subst e'
  exact PySem.P.truthy_str (by lia) ⟨H, I.tok _, q⟩
 | byt y =>
  obtain ⟨t, rfl⟩ := rx
  obtain ⟨hy, e'⟩ : y.size <= sizeLine /\ k = ((y.size : Int) != 0) := e
  subst e'
  exact W.truthy_bytes (by lia) ⟨H, I.tok _, q⟩
 | ref p =>
  cases rx
  have e' : (∃ xs, SqL X.K H p xs /\ k = !xs.isEmpty) \/ (∃ xs, SqT X.K H p xs /\ k = !xs.isEmpty) \/ ∃ kvs, H p = some (.dK kvs) /\ k = !kvs.isEmpty := e
  rcases e' with ⟨xs, hx, e'⟩ | ⟨xs, hx, e'⟩ | ⟨kvs, hx, e'⟩
  ·subst e'
   obtain ⟨its, r, pl, hz⟩ := I.list hx
   have hlen := r.length
   exact wpAny_truthy_list pl.isList (by simp only [List.size_toArray]; lia) ⟨H, I.tok _, by rw [Zcl r]; exact q⟩
  ·subst e'
   obtain ⟨its, r, pl, hz⟩ := I.tuple hx
   have hlen := r.length
   exact truthy_tuple pl (by simp only [List.size_toArray]; lia) ⟨H, I.tok _, by rw [Zcl r]; exact q⟩
  ·subst e'
   obtain ⟨hz, hS, vs, r, m⟩ : kvs.length <= sizeLine /\ (p == sysModules) = false /\ ∃ vs, KV kvs vs /\ s.heap.DictOf (mixKind X.prog X.w) p vs := I.hok p _ hx
   have hlen : kvs.length = vs.length := Paired.length r
   exact wpAny_truthy_dict hS m (by lia) ⟨H, I.tok _, by rw [isEmpty_kv r]; exact q⟩
 | _ => exact (show False from e).elim
theorem pt_truth (ha : PE X a ta) (he : ∀ whole, isTrue a X.env whole = (do let v ← whole; standAt a.pos; holding [v] (truthy v))) :
  PT X a (fun σ H Q => ta σ H fun x H' => ∃ k, TruV X.K x H' k /\ Q k H') := by
 intro pins s σ H Q I h
 exact isTrue_plain (thn (ha pins s σ H _ I h) fun v s1 ⟨x, H1, I1, r1, q1⟩ => tru_ok pins s1 σ H1 x v Q I1 r1 q1) (he _)
theorem op_add_str : OpR X (binaryOp .Add) (fun x y H Q => ∃ i j, x = .str i /\ y = .str j /\ i.length + j.length <= sizeLine /\ Q (.str (i ++ j)) H) := by
 intro pins s σ H x y v u Q I rx ry h
 obtain ⟨i, j, rfl, rfl, hz, q⟩ := h
 obtain ⟨t, rfl⟩ := rx
 obtain ⟨t', rfl⟩ := ry
 exact add_str (fun t' tk => ⟨.str (i ++ j), H, I.tok _, ⟨_, rfl⟩, q⟩) hz
theorem vals1 {x : V} {us : List Value} (r : Vals [x] us) : ∃ u, us = [u] /\ RelV x u := by
 cases r with
 | cons r1 r2 => cases r2; exact ⟨_, rfl, r1⟩
theorem vals2 {x y : V} {us : List Value} (r : Vals [x, y] us) : ∃ u w', us = [u, w'] /\ RelV x u /\ RelV y w' := by
 cases r with
 | cons r1 r2 =>
  cases r2 with
  | cons r3 r4 => cases r4; exact ⟨_, _, rfl, r1, r3⟩
theorem call_max2 (hc : X.calm = true) : CallR X (.builtin "max") (fun xs H Q => ∃ i j, xs = [.int i, .int j] /\ Q (.int (if j > i then j else i)) H) := by
 intro pins s σ H xs us Q I r h
 obtain ⟨i, j, rfl, q⟩ := h
 obtain ⟨u, w', rfl, ⟨t, rfl⟩, ⟨t', rfl⟩⟩ := vals2 r
 refine max_two_ints (I.ok.hd hc) fun h' tk k => ⟨_, H, I.kept k, ?_, q⟩
 by_cases hj : j > i
 ·rw [if_pos hj, if_pos hj]; exact ⟨_, rfl⟩
 ·rw [if_neg hj, if_neg hj]; exact ⟨_, rfl⟩
theorem call_min2 (hc : X.calm = true) : CallR X (.builtin "min") (fun xs H Q => ∃ i j, xs = [.int i, .int j] /\ Q (.int (if j < i then j else i)) H) := by
 intro pins s σ H xs us Q I r h
 obtain ⟨i, j, rfl, q⟩ := h
 obtain ⟨u, w', rfl, ⟨t, rfl⟩, ⟨t', rfl⟩⟩ := vals2 r
 refine min_two_ints (I.ok.hd hc) fun h' tk k => ⟨_, H, I.kept k, ?_, q⟩
 by_cases hj : j < i
 ·rw [if_pos hj, if_pos hj]; exact ⟨_, rfl⟩
 ·rw [if_neg hj, if_neg hj]; exact ⟨_, rfl⟩
theorem call_int1 : CallR X (.type "int") (fun xs H Q => (∃ i, xs = [.int i] /\ Q (.int i) H) \/ ∃ k, xs = [.bl k] /\ Q (.int (if k then 1 else 0)) H) := by
 intro pins s σ H xs us Q I r h
 rcases h with ⟨i, rfl, q⟩ | ⟨k, rfl, q⟩
 ·obtain ⟨u, rfl, t, rfl⟩ := vals1 r
  exact call_int_int ⟨.int i, H, I, ⟨_, rfl⟩, q⟩
 ·obtain ⟨u, rfl, r1⟩ := vals1 r
  cases r1
  exact call_int_bool ⟨.int (if k then 1 else 0), H, I.tok _, ⟨_, rfl⟩, q⟩
noncomputable def LenV (K : W.Frag) (x : V) (H : Hp) (n : Nat) : Prop :=
 match x with
 | .str y => y.length <= sizeLine /\ n = y.length
 | .byt y => y.size <= sizeLine /\ n = y.size
 | .ref p => (∃ xs, SqL K H p xs /\ n = xs.length) \/ ∃ xs, SqT K H p xs /\ n = xs.length
 | _ => False
theorem call_len : CallR X (.builtin "len") (fun xs H Q => ∃ x n, xs = [x] /\ LenV X.K x H n /\ Q (.int n) H) := by
 intro pins s σ H xs us Q I r h
 obtain ⟨x, n, rfl, e, q⟩ := h
 obtain ⟨u, rfl, rx⟩ := vals1 r
 have hl := line63
 have hs : sizeLine = 16777216 := sizeLine_eq
 cases x with
 | str y =>
  obtain ⟨t, rfl⟩ := rx
  obtain ⟨hy, e'⟩ : y.length <= sizeLine /\ n = y.length := e
  subst e'
  exact len_str (by lia) ⟨.int _, H, I.tok _, ⟨_, rfl⟩, q⟩
 | byt y =>
  obtain ⟨t, rfl⟩ := rx
  obtain ⟨hy, e'⟩ : y.size <= sizeLine /\ n = y.size := e
  subst e'
  exact W.len_bytes (by lia) ⟨.int _, H, I.tok _, ⟨_, rfl⟩, q⟩
 | ref p =>
  cases rx
  have e' : (∃ xs, SqL X.K H p xs /\ n = xs.length) \/ ∃ xs, SqT X.K H p xs /\ n = xs.length := e
  rcases e' with ⟨xs, hx, e'⟩ | ⟨xs, hx, e'⟩
  ·subst e'
   obtain ⟨its, r', pl, hz⟩ := I.list hx
   have hlen := r'.length
   exact Calls.call_len_list pl.isList (by simp only [List.size_toArray]; lia) ⟨.int xs.length, H, I.tok _, ⟨_, by simp only [List.size_toArray]; rw [hlen]⟩, q⟩
  ·subst e'
   obtain ⟨its, r', pl, hz⟩ := I.tuple hx
   have hlen := r'.length
   exact len_tuple pl (by simp only [List.size_toArray]; lia) ⟨.int xs.length, H, I.tok _, ⟨_, by simp only [List.size_toArray]; rw [hlen]⟩, q⟩
 | _ => exact (show False from e).elim
end
structure ObjM (h : Heap) (x dx C : Addr) (mA : Str -> Option Value) : Prop where
 obj : h.get? x = some (W.instObj C dx)
 ns : h.Ns1 dx mA
 ne : dx ≠ x
theorem lookIn_ns {h : Heap} {dx : Addr} {mA : Str -> Option Value} (n : h.Ns1 dx mA) : ∃ od, h.get? dx = some od /\ ∀ name, W.lookIn name od = some (mA name) := by
 obtain ⟨o, es, ep, ho, hd, hk, _, hm⟩ := n
 refine ⟨o, ho, fun name => ?_⟩
 have e := hm name
 unfold nsFind findBy at e
 rw [← Array.find?_toList] at e
 unfold W.lookIn
 rw [hd]
 dsimp only
 split
 ·rename_i y q
  rw [q] at e
  exact congrArg some e
 ·rename_i q
  rw [q] at e
  have a : es.toList.any (·.refKey) = false := by
   rw [List.any_eq_false]
   intro y hy
   obtain ⟨z, t, hkey⟩ := hk y (Array.mem_toList_iff.mp hy)
   simp [DictEntry.refKey, hkey]
  have a' : ¬ es.toList.any (·.refKey) = true := by rw [a]; exact Bool.false_ne_true
  rw [if_neg a']
  exact congrArg some e
theorem ObjM.look {h : Heap} {x dx C : Addr} {mA : Str -> Option Value} (I : ObjM h x dx C mA) : ∃ od, W.InstAt h x (W.instObj C dx) C (some od) /\ ∀ name, W.lookIn name od = some (mA name) :=
 let ⟨od, ho, hl⟩ := lookIn_ns I.ns
 ⟨od, ⟨I.obj, rfl, rfl, ho⟩, hl⟩
theorem RelO.some_of {v : V} {o : Option Value} (r : RelO (some v) o) : ∃ u, o = some u /\ RelV v u := by
 cases o with
 | none => exact (show False from r).elim
 | some u => exact ⟨u, rfl, r⟩
section
variable {P : Program} {w : World} {H H' : Hp} {h h' : Heap} {a C dx : Addr} {fs fs' : List (Str × V)}
theorem ins_get (hok : HOk P w H h) (e : H a = some (.ins C dx fs)) : ∃ mA, ObjM h a dx C mA /\ (∀ f, RelO (fs.lookup f) (mA f)) /\ PySem.Within mA (fs.map (·.1)) /\ fs.length <= 1000 /\ H dx = some (.own a) := by
 obtain ⟨d, z, ne, ob, mA, n, r, q⟩ := (show ObjOk P w H h a (.ins C dx fs) from hok a _ e)
 exact ⟨mA, ⟨ob, n, ne⟩, r, q, z, d⟩
end
structure Cls (K : W.Frag) (C : Addr) : Prop where
 pg : W.plainGet K C Str.empty = true
 hd : W.hasDictIn K C = true
 po : W.plainOver K C = true
 sa : W.findIn K (.ref C) "__setattr__" = some (some (.builtin "object.__setattr__"))
theorem Cls.get {K : W.Frag} {C : Addr} (c : Cls K C) (f : Str) : W.plainGet K C f = true := c.pg
section
variable {X : Cx} {pins : List (Addr × Obj)} {σ : St} {H : Hp} {s : Shared} {A : Around} {E : Value -> Shared -> Prop} {Q : Value -> Shared -> Prop} {c : Value} {b : Bool}
inductive TyOf (K : W.Frag) (H : Hp) : V -> Value -> Prop where
 | non : TyOf K H .non (.type "NoneType")
 | bl (x : Bool) : TyOf K H (.bl x) (.type "bool")
 | int (i : Int) : TyOf K H (.int i) (.type "int")
 | str (x : Str) : TyOf K H (.str x) (.type "str")
 | flt (x : UInt64) : TyOf K H (.flt x) (.type "float")
 | lst {a : Addr} {xs : List V} (e : H a = some (.lst xs)) : TyOf K H (.ref a) (.type "list")
 | frz {a : Addr} {o : Obj} {xs : List V} (e : H a = some (.frz o (.lst xs))) : TyOf K H (.ref a) (.type "list")
 | tup {a : Addr} {xs : List V} (e : H a = some (.tup xs)) : TyOf K H (.ref a) (.type "tuple")
 | dK {a : Addr} {kvs : List (Key × V)} (e : H a = some (.dK kvs)) : TyOf K H (.ref a) (.type "dict")
 | dT {a : Addr} {kvs : List (List Key × V)} (e : H a = some (.dT kvs)) : TyOf K H (.ref a) (.type "dict")
 | ins {a C dx : Addr} {fs : List (Str × V)} (e : H a = some (.ins C dx fs)) (cl : Cls K C) (ha : W.findIn K (.ref C) "__class__" = some (some (.builtin "object.__class__")))
   (hn : W.specialIn K (.builtin "object.__class__") "__get__" = some (some (.builtin "getset_descriptor.__get__"))) (htk : W.takesIn K (.builtin "object.__class__") = some true)
   (hm : W.mroIn K C (.type "object") = some true) : TyOf K H (.ref a) (.ref C)
theorem Zbc {x : V} {u t : Value} (I : Inv X pins σ H s) (rx : RelV x u) (ty : TyOf X.K H x t) (e : W.kitOne X.K t c = some b) (h : ∀ tk, Q (.bool b) { s with toks := tk }) :
  wpAny (model X.prog X.w) A (call (.builtin "isinstance") [u, c]) Q E s := by
 cases ty with
 | non => cases (show u = Value.none from rx); exact W.kia_one W.kitx_none I.kIn True.intro e (fun z => nomatch z) h
 | bl y => cases (show u = Value.bool y from rx); exact W.kia_one W.kitx_bool I.kIn True.intro e (fun z => nomatch z) h
 | int i => obtain ⟨t, q⟩ := (show ∃ t, u = Value.int i t from rx); cases q; exact W.kia_one W.kitx_int I.kIn True.intro e (fun z => nomatch z) h
 | str y => obtain ⟨t, q⟩ := (show ∃ t, u = Value.str y t from rx); cases q; exact W.kia_one W.kitx_str I.kIn True.intro e (fun z => nomatch z) h
 | flt y => obtain ⟨t, q⟩ := (show ∃ t, u = Value.float y t from rx); cases q; exact W.kia_one W.kitx_float I.kIn True.intro e (fun z => nomatch z) h
 | @lst a xs ea =>
  cases (show u = Value.ref a from rx)
  obtain ⟨_, _, n, _, h1⟩ := (show ObjOk X.prog X.w H s.heap a (.lst xs) from I.hok a _ ea)
  exact W.kia_one W.kitx_list I.kIn ⟨_, h1, rfl⟩ e (fun z => nomatch z) h
 | @frz a ob xs ea =>
  cases (show u = Value.ref a from rx)
  obtain ⟨_, _, _, n, _, h1⟩ := (show ObjOk X.prog X.w H s.heap a (.frz ob (.lst xs)) from I.hok a _ ea)
  exact W.kia_one W.kitx_list I.kIn ⟨_, h1, rfl⟩ e (fun z => nomatch z) h
 | @tup a xs ea =>
  cases (show u = Value.ref a from rx)
  obtain ⟨_, _, _, p⟩ := (show ObjOk X.prog X.w H s.heap a (.tup xs) from I.hok a _ ea)
  obtain ⟨o, h1, h2, _⟩ := p
  exact W.kia_one W.kitx_tuple I.kIn ⟨o, h1, h2⟩ e (fun z => nomatch z) h
 | @dK a kvs ea =>
  cases (show u = Value.ref a from rx)
  obtain ⟨_, _, vs, _, p⟩ := (show ObjOk X.prog X.w H s.heap a (.dK kvs) from I.hok a _ ea)
  obtain ⟨o, es, ep, h1, h2, _⟩ := p
  exact W.kia_one W.kitx_dict I.kIn ⟨o, h1, h2.1⟩ e (fun z => nomatch z) h
 | @dT a kvs ea =>
  cases (show u = Value.ref a from rx)
  obtain ⟨_, _, xs, _, o, es, ep, h1, h2, _⟩ := (show ObjOk X.prog X.w H s.heap a (.dT kvs) from I.hok a _ ea)
  exact W.kia_one W.kitx_dict I.kIn ⟨o, h1, h2.1⟩ e (fun z => nomatch z) h
 | @ins a C dx fs ea cl ha hn htk hm =>
  cases (show u = Value.ref a from rx)
  obtain ⟨mA, O, _⟩ := ins_get I.hok ea
  obtain ⟨od, J, _⟩ := O.look
  exact W.kia_one (W.kitx_own (cl.get _) cl.hd ha hn htk hm) I.kIn J e (fun z => nomatch z) h
end
structure Room (k : Nat) (A : Around) : Prop where
 hd : A.handled = none
 dp : A.depth + 3 * k + 5 < recursionLimit
 un : A.units + 16 * k + 200 < cLine
theorem Room.mono {j k : Nat} {A : Around} (r : Room k A) (h : j <= k) : Room j A := ⟨r.hd, by have := r.dp; lia, by have := r.un; lia⟩
theorem Room.deeper {k : Nat} {A : Around} (r : Room (k + 1) A) (env : Env) : Room k (A.deeper env) :=
 ⟨r.hd, by have := r.dp; show A.depth + 1 + 3 * k + 5 < _; lia, by have := r.un; show A.units + 3 + 16 * k + 200 < _; lia⟩
theorem Room.depth {k : Nat} {A : Around} (r : Room k A) : A.depth < recursionLimit := by have := r.dp; lia
theorem Room.units {k : Nat} {A : Around} (r : Room k A) : A.units + 64 < cLine := by have := r.un; lia
noncomputable def tNil : TA := fun _ H Q => Q [] H
noncomputable def tCons (ta : TE) (tr : TA) : TA := fun σ H Q => ta σ H fun x H1 => tr σ H1 fun xs H2 => Q (x :: xs) H2
section
variable {X : Cx} {e : Expr} {es : List Expr} {te : TE} {t : TA} {pos : Pos}
theorem pa_nil : PA X [] tNil := fun _ _ _ _ H Q I h => Calls.spliced_nil ⟨[], H, I, .nil, h⟩
theorem pa_cons (ha : PE X e te) (hr : PA X es t) (hs : starEach (e :: es) X.env = (false, eval e X.env) :: starEach es X.env := by rfl) : PA X (e :: es) (tCons te t) := by
 intro pos pins s σ H Q I h
 rw [hs]
 show wpAny _ _ (spliced ((false, eval e X.env) :: backTo pos (starEach es X.env))) _ _ s
 refine Calls.spliced_cons (thn (ha pins s σ H _ I h) fun u s1 h_ => ?_)
 obtain ⟨x, H1, I1, r1, q1⟩ := h_
 exact thn (hr pos pins s1 σ H1 _ I1 q1) fun us s2 ⟨xs, H2, I2, r2, q2⟩ => ⟨x :: xs, H2, I2, .cons r1 r2, q2⟩
noncomputable def tTup (t : TA) : TE := fun σ H Q => t σ H fun xs H1 => xs.length <= sizeLine /\ ∀ p, H1 p = none -> Q (.ref p) (upd H1 p (.tup xs))
noncomputable def tLst (t : TA) : TE := fun σ H Q => t σ H fun xs H1 => xs.length <= sizeLine /\ ∀ p, H1 p = none -> Q (.ref p) (upd H1 p (.lst xs))
theorem pe_tup {x1} (h : PA X es t) : PE X (.Tuple es x1 pos) (tTup t) := by
 intro pins s σ H Q I hq
 refine wpAny_Tuple_spliced (thn (h pos pins s σ H _ I hq) fun us s1 ⟨xs, H1, I1, r, z, q⟩ => ⟨by rw [← r.length]; exact z, ?_⟩)
 have hf : H1 s1.heap.objs.size = none := I1.hok.fresh (Nat.le_refl _)
 refine ⟨.ref s1.heap.objs.size, upd H1 s1.heap.objs.size (.tup xs), I1.laid (t' := s1.toks) (fun b u e => Heap.get?_push_of_some _ e) (Nat.le_refl _) ?_, rfl, q _ hf⟩
 exact ⟨z, us, r, ⟨_, Heap.get?_push_size _ rfl, rfl, _, rfl⟩⟩
theorem pe_lst (h : PA X es t) : PE X (.List es pos) (tLst t) := by
 intro pins s σ H Q I hq
 refine wpAny_List_spliced (thn (h pos pins s σ H _ I hq) fun us s1 ⟨xs, H1, I1, r, z, q⟩ => ⟨by rw [← r.length]; exact z, ?_⟩)
 have hf : H1 s1.heap.objs.size = none := I1.hok.fresh (Nat.le_refl _)
 refine ⟨.ref s1.heap.objs.size, upd H1 s1.heap.objs.size (.lst xs), I1.laid (t' := s1.toks) (fun b u e => Heap.get?_push_of_some _ e) (Nat.le_refl _) ?_, rfl, q _ hf⟩
 exact ⟨z, us, 0, r, Heap.get?_push_size _ rfl⟩
end
noncomputable abbrev Sp := List V -> Hp -> VK -> XK -> Prop
noncomputable abbrev CXT := List Env -> Hp -> Shared -> XK -> Value -> Shared -> Prop
structure Env0 (P : Program) (w : World) (K : W.Frag) (mg : Str -> Option Value) (base : Heap) (A : Around) (outer : List Env) (s : Shared) (H : Hp) : Prop where
 frames : A.frames = some outer
 mod : Mod K mg base
 bs : ∀ b o, base.get? b = some o -> s.heap.get? b = some o /\ H b = none
 bsz : base.objs.size <= s.heap.objs.size
 funs : s.heap.FunFrames base outer
 frf : ∀ b ∈ frs outer, H b = none
 hok : HOk P w H s.heap
 bare : AllBare s.gens
noncomputable def CE (outer : List Env) (P : Program) (w : World) (H : Hp) (s : Shared) (Q : VK) (u : Value) (s' : Shared) : Prop :=
 ∃ v H', s'.os = s.os /\ AllBare s'.gens /\ Un (frs outer) [] H H' s.heap s'.heap /\ HOk P w H' s'.heap /\ RelV v u /\ Q v H'
noncomputable def CR (CX : CXT) (outer : List Env) (P : Program) (w : World) (H : Hp) (s : Shared) (Q : VK) (E : XK) (r : Result) (s' : Shared) : Prop :=
 match r with
 | .ok (.ret u) => CE outer P w H s Q u s'
 | .ok _ => False
 | .error e => CX outer H s E e s'
structure FnOk (P : Program) (w : World) (K : W.Frag) (mg : Str -> Option Value) (base : Heap) (CX : CXT) (k : Nat) (f : Addr) (fd : FuncData) (ps : List Str) (sp : Sp) : Prop where
 len : ∀ vs H Q E, sp vs H Q E -> vs.length = ps.length
 run : ∀ (A : Around) (outer : List Env) (s : Shared) (H : Hp) (args : Args) (us : List Value) (vs : List V) (Q : VK) (E : XK), Room k A -> Env0 P w K mg base A outer s H -> BindsTo s fd args (ps.zip us) -> Vals vs us -> sp vs H Q E ->
  codeAny (model P w) A (.call (.ref f) args) (CR CX outer P w H s Q E) s
theorem FnOk.mono {P : Program} {w : World} {K : W.Frag} {mg : Str -> Option Value} {base : Heap} {CX : CXT} {j k : Nat} {f : Addr} {fd : FuncData} {ps : List Str} {sp : Sp} (F : FnOk P w K mg base CX j f fd ps sp) (h : j <= k) :
  FnOk P w K mg base CX k f fd ps sp := ⟨F.len, fun A outer s H args us vs Q E hr => F.run A outer s H args us vs Q E (hr.mono h)⟩
theorem FnOk.imp {P : Program} {w : World} {K : W.Frag} {mg : Str -> Option Value} {base : Heap} {CX : CXT} {k : Nat} {f : Addr} {fd : FuncData} {ps : List Str} {sp sp' : Sp} (F : FnOk P w K mg base CX k f fd ps sp)
  (h : ∀ vs H Q E, sp' vs H Q E -> sp vs H Q E) : FnOk P w K mg base CX k f fd ps sp' :=
 ⟨fun vs H Q E q => F.len vs H Q E (h _ _ _ _ q), fun A outer s H args us vs Q E hr he hb hv hs => F.run A outer s H args us vs Q E hr he hb hv (h _ _ _ _ hs)⟩
section
variable {X : Cx} {pins : List (Addr × Obj)} {σ : St} {H : Hp} {s s' : Shared}
theorem Inv.env0 (I : Inv X pins σ H s) : Env0 X.prog X.w X.K X.mg X.base X.A X.stack s H :=
 ⟨I.ok.frames, I.ok.mod, I.bs, Nat.le_trans I.ok.bsz I.sz, I.stack, I.stkFree, I.hok, I.bare⟩
theorem Inv.after {Q : VK} {u : Value} (I : Inv X pins σ H s) (h : CE X.stack X.prog X.w H s Q u s') : EP X pins σ Q u s' := by
 obtain ⟨v, H', os, bare, un, hok, r, q⟩ := h
 obtain ⟨hh, g, d, t, os'⟩ := s'
 obtain rfl : os' = s.os := os
 exact ⟨v, H', I.call (h' := hh) (g' := g) (d' := d) (t' := t) (ch := []) un hok bare (fun b z => absurd z (by simp)), r, q⟩
end
noncomputable def tCall (sp : Sp) (dvs : List V) (E : XK) (t : TA) : TE := fun σ H Q => t σ H fun vs H1 => sp (vs ++ dvs) H1 Q E
noncomputable def Binds (K : W.Frag) (fd : FuncData) (ps : List Str) (ds : List Value) : Prop :=
 ∀ (s : Shared) (us : List Value), K.In s.heap -> (us ++ ds).length = ps.length -> BindsTo s fd ⟨us, []⟩ (ps.zip (us ++ ds))
theorem Binds.all {K : W.Frag} {fd : FuncData} {ps : List Str} (h : ∀ us : List Value, us.length = ps.length -> bindArgs fd ⟨us, []⟩ = pure (ps.zip us)) : Binds K fd ps [] := fun s us _ hl => by
 rw [List.append_nil] at hl ⊢
 exact .of_eq (h us hl)
noncomputable def Passes (CX : CXT) (X : Cx) (E : XK) : Prop := ∀ (pins : List (Addr × Obj)) (σ : St) (H : Hp) (s : Shared) (e : Value) (s' : Shared), Inv X pins σ H s -> CX X.stack H s E e s' -> X.xe e s'
section
variable {X : Cx} {CX : CXT} {k : Nat} {f C : Addr} {fd : FuncData} {ps : List Str} {sp : Sp} {dvs : List V} {ds : List Value} {E : XK} {x m : Str} {p pos apos : Pos} {e o : Expr} {es : List Expr} {ta : TE} {t : TA}
theorem run_fn {pins : List (Addr × Obj)} {σ : St} {H : Hp} {s : Shared} {Q : VK} {us : List Value} {vs : List V} (F : FnOk X.prog X.w X.K X.mg X.base CX k f fd ps sp) (hr : Room k X.A) (hb : Binds X.K fd ps ds) (hd : Vals dvs ds) (hx : Passes CX X E)
  (I : Inv X pins σ H s) (r : Vals vs us) (h : sp (vs ++ dvs) H Q E) : wpAny (model X.prog X.w) X.A (call (.ref f) us) (EP X pins σ Q) X.xe s := by
 have r2 : Vals (vs ++ dvs) (us ++ ds) := r.append hd
 have hl : (us ++ ds).length = ps.length := by rw [← r2.length]; exact F.len _ _ _ _ h
 refine wpAny_call (codeAny_mono (F.run X.A X.stack s H ⟨us, []⟩ (us ++ ds) (vs ++ dvs) Q E hr I.env0 (hb s us I.kIn hl) r2 h) fun r s' hq => ?_)
 cases r with
 | error e => exact hx pins σ H s e s' I hq
 | ok fl =>
  cases fl with
  | ret u => exact I.after hq
  | next => exact False.elim hq
  | brk => exact False.elim hq
  | cont => exact False.elim hq
theorem pe_call (F : FnOk X.prog X.w X.K X.mg X.base CX k f fd ps sp) (hr : Room k X.A) (hg : Gl X x) (hm : X.mg x = some (.ref f)) (hk : W.keepIn X.K (.ref f) = true) (hb : Binds X.K fd ps ds) (hd : Vals dvs ds) (hx : Passes CX X E)
  (ha : PA X (e :: es) t) (hdb : (x == ("__debug__" : Str)) = false := by decide) (he : starEach (e :: es) X.env = (false, eval e X.env) :: starEach es X.env := by rfl) (hpl : (backTo pos (starEach es X.env)).any (·.1) = false := by rfl) :
  PE X (.Call (.Name x p) (e :: es) [] pos) (tCall sp dvs E t) := by
 intro pins s σ H Q I h
 refine wpAny_Call_Name_kw (ld_glob I hg hm ?_ hdb)
 refine W.callWith_K (h₀ := X.base) I.ok.mod.kin hk (thn (ha pos pins s σ H _ I h) fun us s1 ⟨vs, H1, I1, r, q⟩ => ⟨I1.kIn, ?_⟩) he hpl
 exact run_fn F hr hb hd hx I1 r q
structure Mk (K : W.Frag) (C f : Addr) : Prop where
 makes : W.makesIn K C = true
 init : W.findIn K (.ref C) "__init__" = some (some (.ref f))
 fn : W.isFn K (.ref f) = true
 kp : W.keepIn K (.ref C) = true
end
structure FnScope (N P : List Str) (sc : Scope) : Prop where
 kind : sc.kind = .function
 co : sc.isCoroutine = false
 gen : sc.isGenerator = false
 nd : N.Nodup
 pre : N.take P.length = P
 par : ∀ x ∈ P, sc.names.lookup x = some .local \/ sc.names.lookup x = some .cell
 nofree : ∀ y ∈ sc.names, y.2 ≠ .free
theorem bindL_out {kindOf : Str -> Option NameKind} {x : Str} : ∀ {binds : List (Str × Value)} {m : Str -> Option Value}, (∀ v, (x, v) ∉ binds) -> bindL kindOf binds m x = m x
  | [], _, _ => rfl
  | (n, v) :: r, m, h => by
    unfold bindL
    rw [bindL_out fun w hw => h w (List.mem_cons_of_mem _ hw)]
    split
    · have : x ≠ n := by rintro rfl; exact h v List.mem_cons_self
      simp [this]
    · rfl
theorem bindC_out {kindOf : Str -> Option NameKind} {x : Str} : ∀ {binds : List (Str × Value)} {m : Str -> Option Value}, (∀ v, (x, v) ∉ binds) -> bindC kindOf binds m x = m x
  | [], _, _ => rfl
  | (n, v) :: r, m, h => by
    unfold bindC
    rw [bindC_out fun w hw => h w (List.mem_cons_of_mem _ hw)]
    split
    · rfl
    · have : x ≠ n := by rintro rfl; exact h v List.mem_cons_self
      simp [this]
theorem bindL_get {kindOf : Str -> Option NameKind} {x : Str} {v : Value} : ∀ {P : List Str} {vs : List Value} {i : Nat} {m : Str -> Option Value}, P.Nodup -> P[i]? = some x -> vs[i]? = some v -> kindOf x = some .local ->
  bindL kindOf (P.zip vs) m x = some v
 | [], _, _, _, _, h, _, _ => by simp at h
 | _ :: _, [], _, _, _, _, h, _ => by simp at h
 | p :: P, w :: vs, 0, m, nd, h1, h2, hk => by
  simp at h1 h2; subst h1; subst h2
  show bindL kindOf ((p, w) :: P.zip vs) m p = _
  unfold bindL
  rw [bindL_out fun v hv => (List.nodup_cons.mp nd).1 (List.of_mem_zip hv).1, if_pos hk]
  simp
 | p :: P, w :: vs, i + 1, m, nd, h1, h2, hk => by
  show bindL kindOf ((p, w) :: P.zip vs) m x = _
  unfold bindL
  exact bindL_get (i := i) (List.nodup_cons.mp nd).2 (by simpa using h1) (by simpa using h2) hk
theorem bindC_get {kindOf : Str -> Option NameKind} {x : Str} {v : Value} : ∀ {P : List Str} {vs : List Value} {i : Nat} {m : Str -> Option Value}, P.Nodup -> P[i]? = some x -> vs[i]? = some v -> kindOf x ≠ some .local ->
  bindC kindOf (P.zip vs) m x = some v
 | [], _, _, _, _, h, _, _ => by simp at h
 | _ :: _, [], _, _, _, _, h, _ => by simp at h
 | p :: P, w :: vs, 0, m, nd, h1, h2, hk => by
  simp at h1 h2; subst h1; subst h2
  show bindC kindOf ((p, w) :: P.zip vs) m p = _
  unfold bindC
  rw [bindC_out fun v hv => (List.nodup_cons.mp nd).1 (List.of_mem_zip hv).1, if_neg hk]
  simp
 | p :: P, w :: vs, i + 1, m, nd, h1, h2, hk => by
  show bindC kindOf ((p, w) :: P.zip vs) m x = _
  unfold bindC
  exact bindC_get (i := i) (List.nodup_cons.mp nd).2 (by simpa using h1) (by simpa using h2) hk
noncomputable def start (N : List Str) (vs : List V) : St := vs.map some ++ List.replicate (N.length - vs.length) none
noncomputable def cxOf (CX : CXT) (P : Program) (w : World) (K : W.Frag) (mg : Str -> Option Value) (base : Heap) (N : List Str) (qual : Str) (scope : Scope) (f : Addr) (cd : Value) (A : Around) (outer : List Env) (s : Shared) (H : Hp) (E : XK) : Cx where
 prog := P
 w := w
 K := K
 mg := mg
 base := base
 A := A.deeper (envOfC qual scope s.heap.objs.size f cd)
 N := N
 s₀ := s
 H₀ := H
 env := envOfC qual scope s.heap.objs.size f cd
 outer := outer
 stack := envOfC qual scope s.heap.objs.size f cd :: outer
 ex := []
 calm := true
 fn := fun _ => true
 pn := []
 xe := fun e s' => wpAny (model P w) (A.deeper (envOfC qual scope s.heap.objs.size f cd)) (leaving (envOfC qual scope s.heap.objs.size f cd) e) (fun _ s'' => CX outer H s E e s'') (fun e' s'' => CX outer H s E e' s'') s'
theorem cell_has {sc : Scope} {n : Nat} {x : Str} (h : sc.names.lookup x = some .cell) : ∃ c, (cellsFrom n sc.names []).lookup x = some c := by
 have q := W.cellsFrom_some sc.names n [] (.inl h)
 exact Option.isSome_iff_exists.mp q
theorem inv_start {CX : CXT} {P : Program} {w : World} {K : W.Frag} {mg : Str -> Option Value} {base : Heap} {N ps : List Str} {qual : Str} {scope : Scope} {f : Addr} {cd : Value} {A : Around} {outer : List Env} {s s1 : Shared} {H : Hp} {E : XK} {us : List Value} {vs : List V}
  (S : FnScope N ps scope) (hd : A.handled = none) (e0 : Env0 P w K mg base A outer s H) (hl : vs.length = ps.length) (r : Vals vs us)
  (x : InCallC s s.heap.objs.size (bindL (envOfC qual scope s.heap.objs.size f cd).kindOf (ps.zip us) fun _ => none) (cellsFrom (s.heap.objs.size + 1) scope.names []) (bindC (envOfC qual scope s.heap.objs.size f cd).kindOf (ps.zip us) fun _ => none) s1) :
  Inv (cxOf CX P w K mg base N qual scope f cd A outer s H E) [] (start N vs) H s1 := by
 have hpl : ps.length <= N.length := by have := congrArg List.length S.pre; rw [List.length_take] at this; lia
 obtain ⟨h1, tk, rfl, hk⟩ := x.done
 have noA : ∀ b : Addr, b ∉ (cxOf CX P w K mg base N qual scope f cd A outer s H E).ex := fun b z => absurd (show b ∈ ([] : List Addr) from z) (by simp)
 refine ⟨⟨e0.mod, S.kind, rfl, rfl, Nat.le_refl _, fun y z c h1 h2 => ?_, fun y hy => ?_, fun y c _ h => ?_, fun _ => hd, Around.frames_deeper e0.frames, .inr ⟨rfl, rfl⟩, fun b z => absurd z (noA b), e0.bs, e0.bsz, fun b _ _ => noA b, fun b z => absurd z (noA b), e0.funs, e0.frf⟩,
  rfl, e0.bare, Un.kept hk, ⟨_, x.toInCall.ns, fun i y v h1 h2 h3 => ?_⟩, fun y c h => ⟨_, x.cell y c h⟩, e0.hok.fresh (Nat.le_refl _), fun y c h => ?_, fun p hp => absurd (show p ∈ ([] : List (Addr × Obj)) from hp) (by simp), e0.hok.kept hk, ?_⟩
 ·exact name_of_addr x.apart (PySem.mem_of_lookup h1) (PySem.mem_of_lookup h2)
 ·have hy : scope.names.lookup y = some .cell \/ scope.names.lookup y = some .free := hy
  rcases hy with hy | hy
  ·exact cell_has hy
  ·exact absurd rfl (S.nofree _ (PySem.mem_of_lookup hy))
 ·exact Nat.le_of_lt (x.above y c (PySem.mem_of_lookup h))
 ·have hi : i < vs.length := by
   unfold start at h2
   by_cases hi : i < vs.length
   ·exact hi
   ·rw [List.getElem?_append_right (by simpa using hi)] at h2
    rw [List.getElem?_replicate] at h2
    split at h2 <;> cases h2
  have ha : vs[i]? = some v := by
   unfold start at h2
   rw [List.getElem?_append_left (by simpa using hi), List.getElem?_map] at h2
   cases e : vs[i]? with
   | none => rw [e] at h2; cases h2
   | some a => rw [e] at h2; cases h2; rfl
  obtain ⟨u, hu, rv⟩ := r.get ha
  have hp : ps[i]? = some y := by
   rw [← S.pre, List.getElem?_take_of_lt (by lia)]; exact h1
  have ndP : ps.Nodup := by rw [← S.pre]; exact S.nd.sublist (List.take_sublist _ _)
  refine ⟨u, rv, ?_⟩
  rcases S.par y (List.mem_of_getElem? hp) with k | k
  ·exact .inl ⟨k, bindL_get ndP hp hu k⟩
  ·obtain ⟨c, e⟩ := cell_has (n := s.heap.objs.size + 1) k
   refine .inr ⟨.inl k, c, e, ?_⟩
   have q := x.cell y c e
   rw [bindC_get ndP hp hu (by show scope.names.lookup y ≠ _; rw [k]; decide)] at q
   exact q
 ·exact e0.hok.fresh (Nat.le_of_lt (x.above y c (PySem.mem_of_lookup h)))
 ·unfold start
  show _ = N.length
  rw [List.length_append, List.length_map, List.length_replicate]
  lia
theorem fn_of {CX : CXT} {P : Program} {w : World} {K : W.Frag} {mg : Str -> Option Value} {base : Heap} {k : Nat} {f : Addr} {name qual : Str} {params : Arguments} {body : List Stmt} {scope : Scope} {dV kV doc pm cdv ct oc : Value} {an od : Option Addr}
  {osl : Array (Option Value)} {N ps : List Str} {sp : Sp} (lk : K.lookup f = some ⟨oc, od, .func (W.fnOf name qual params body scope dV kV doc pm an cdv ct), osl⟩) (hcd : W.codeIn K cdv qual = true) (S : FnScope N ps scope)
  (len : ∀ vs H Q E, sp vs H Q E -> vs.length = ps.length)
  (hbody : ∀ (A : Around) (outer : List Env) (s : Shared) (H : Hp) (vs : List V) (Q : VK) (E : XK), Room k (A.deeper (envOfC qual scope s.heap.objs.size f cdv)) -> sp vs H Q E ->
   ∃ t, PSs (cxOf CX P w K mg base N qual scope f cdv A outer s H E) body t /\ t { nx := fun _ H' => Q .non H', rt := Q } (start N vs) H) :
  FnOk P w K mg base CX (k + 1) f (W.fnOf name qual params body scope dV kV doc pm an cdv ct) ps sp := by
 refine ⟨len, fun A outer s H args us vs Q E hr e0 hb r hsp => ?_⟩
 have hl := len _ _ _ _ hsp
 have KX : K.In s.heap := e0.mod.kin.keeps fun b o e => (e0.bs b o e).1
 have lim : s.heap.NoLimit := e0.mod.nolimit.keeps fun b o e => (e0.bs b o e).1
 have hkind : ∀ y ∈ ps.zip us, scope.names.lookup y.1 = some .local \/ (scope.names.lookup y.1 = some .cell /\ ((cellsFrom (s.heap.objs.size + 1) scope.names []).lookup y.1).isSome = true) := fun ⟨n, v⟩ hy => by
  rcases S.par n (List.of_mem_zip hy).1 with q | q
  ·exact .inl q
  ·exact .inr ⟨q, W.cellsFrom_some _ _ _ (.inl q)⟩
 refine codeAny_call_function hr.depth (KX _ _ lk) rfl S.co S.gen rfl (W.codeRec_of KX hcd) (hb _ _ _ _ ?_)
 refine wpAny_newFunctionEnv_cells S.kind hkind fun env he s1 x => ?_
 subst he
 refine ⟨lim.keeps x.toInCall.keep, codeAny_func ?_⟩
 obtain ⟨t, ht, hq⟩ := hbody A outer s H vs Q E (hr.deeper _) hsp
 have I : Inv (cxOf CX P w K mg base N qual scope f cdv A outer s H E) [] (start N vs) H s1 := inv_start S hr.hd e0 hl r x
 refine wpAny_mono (ht [] s1 (start N vs) H _ I hq) (fun fl s' hs => ?_) fun e s' hs => hs
 have fin : ∀ {σ' : St} {H' : Hp} {v : V} {u : Value}, Inv (cxOf CX P w K mg base N qual scope f cdv A outer s H E) [] σ' H' s' -> RelV v u -> Q v H' -> CE outer P w H s Q u s' :=
  fun {σ' H' v u} J rv q => ⟨v, H', J.os, J.bare, J.base, J.hok, rv, q⟩
 cases fl with
 | ret u =>
  obtain ⟨v, σ', H', J, rv, q⟩ := hs
  exact fin J rv q
 | next =>
  obtain ⟨σ', H', J, q⟩ := hs
  exact fin (v := V.non) (u := Value.none) J rfl q
 | brk =>
  obtain ⟨_, _, _, q⟩ := hs
  exact False.elim q
 | cont =>
  obtain ⟨_, _, _, q⟩ := hs
  exact False.elim q
section
variable {X : Cx} {x : Str} {p pos : Pos} {e : Expr} {es : List Expr} {t : TA} {id T : String} {r : List V -> Hp -> VK -> Prop}
noncomputable def tCB (r : List V -> Hp -> VK -> Prop) (t : TA) : TE := fun σ H Q => t σ H fun vs H1 => r vs H1 Q
theorem pe_callB (hc : CallR X (.builtin id) r) (hg : Gl X x) (hm : X.mg x = none) (hv : bootBuiltins x = some (.builtin id)) (ha : PA X (e :: es) t) (hn : x ≠ "__name__" := by decide) (hdb : (x == ("__debug__" : Str)) = false := by decide)
  (he : starEach (e :: es) X.env = (false, eval e X.env) :: starEach es X.env := by rfl) (hpl : (backTo pos (starEach es X.env)).any (·.1) = false := by rfl) : PE X (.Call (.Name x p) (e :: es) [] pos) (tCB r t) := by
 intro pins s σ H Q I h
 refine wpAny_Call_Name_kw (Zci I hg hm hv ?_ hn hdb)
 exact PyProof.Rows.callWith_builtin1 (thn (ha pos pins s σ H _ I h) fun us s1 ⟨vs, H1, I1, r1, q1⟩ => hc pins s1 σ H1 vs us Q I1 r1 q1) he hpl
theorem pe_callTy (hc : CallR X (.type T) r) (hg : Gl X x) (hm : X.mg x = none) (hv : bootBuiltins x = some (.type T)) (ha : PA X (e :: es) t) (hn : x ≠ "__name__" := by decide) (hdb : (x == ("__debug__" : Str)) = false := by decide)
  (he : starEach (e :: es) X.env = (false, eval e X.env) :: starEach es X.env := by rfl) (hpl : (backTo pos (starEach es X.env)).any (·.1) = false := by rfl) : PE X (.Call (.Name x p) (e :: es) [] pos) (tCB r t) := by
 intro pins s σ H Q I h
 refine wpAny_Call_Name_kw (Zci I hg hm hv ?_ hn hdb)
 exact PyProof.Rows.callWith_type1 (thn (ha pos pins s σ H _ I h) fun us s1 ⟨vs, H1, I1, r1, q1⟩ => hc pins s1 σ H1 vs us Q I1 r1 q1) he hpl
end
end L2
namespace HT
open PySem PyProof.Rows
section
variable {prog : Program} {w : World} {A : Around} {E : Value -> Shared -> Prop} {s : Shared}
theorem cat_tup {t b : Addr} {vs ws : List Value} {Q : Value -> Shared -> Prop} (ht : IsTup s.heap t vs.toArray) (hb : IsTup s.heap b ws.toArray) (hv : vs ≠ [])
  (h1 : ws = [] -> Q (.ref t) s) (h2 : ws ≠ [] -> Q (.ref s.heap.objs.size) { s with heap := s.heap.push { cls := .type "tuple", data := .seq (vs ++ ws).toArray } })
  (hsz : vs.length + ws.length <= sizeLine) : wpAny (model prog w) A (binaryOp .Add (.ref t) (.ref b)) Q E s := by
 obtain ⟨⟨cls, dd, data, sl⟩, ho, hc, n, hd⟩ := id ht
 obtain ⟨⟨cls2, dd2, data2, sl2⟩, ho2, hc2, n2, hd2⟩ := id hb
 simp only at hc hd hc2 hd2
 subst hc hd hc2 hd2
 have e : vs.toArray ++ ws.toArray = (vs ++ ws).toArray := by simp
 by_cases hw : ws = []
 ·exact concat_meets ⟨_, ho, rfl⟩ ⟨_, ho2, rfl⟩ noFill_tuple_add seq_tuple_add PySem.F.slot_tuple_add PySem.F.entry_tuple_add (PySem.F.args_tuple_add_2 _ _)
   (tuple_addW1 t b vs.toArray ws.toArray n n2 dd dd2 sl sl2 (by simpa using hv) (by simp [hw])) ⟨ho, ho2, h1 hw⟩
 ·refine concat_meets ⟨_, ho, rfl⟩ ⟨_, ho2, rfl⟩ noFill_tuple_add seq_tuple_add PySem.F.slot_tuple_add PySem.F.entry_tuple_add (PySem.F.args_tuple_add_2 _ _)
   (tuple_addW2 t b vs.toArray ws.toArray n n2 dd dd2 sl sl2 (by simpa using hv) (by simpa using hw) (by rw [List.size_toArray, List.size_toArray]; exact hsz)) ⟨ho, ho2, ?_⟩
  rw [e]
  exact h2 hw
noncomputable def sIx (n d : Nat) : Option Int -> Nat
 | none => d
 | some v => if v < 0 then (v + (n : Int)).toNat else min v.toNat n
theorem sIx_le (n d : Nat) (hd : d <= n) (o : Option Int) : sIx n d o <= n := by
 cases o with
 | none => exact hd
 | some v =>
  show (if v < 0 then (v + (n : Int)).toNat else min v.toNat n) <= n
  by_cases hv : v < 0
  ·rw [if_pos hv]; lia
  ·rw [if_neg hv]; exact Nat.min_le_right _ _
theorem clip_eq (v : Int) (n d : Nat) : (if v < 0 then max (v + (n : Int)) 0 else min v (n : Int)) = ((sIx n d (some v) : Nat) : Int) := by
 show (if v < 0 then max (v + (n : Int)) 0 else min v (n : Int)) = (((if v < 0 then (v + (n : Int)).toNat else min v.toNat n) : Nat) : Int)
 by_cases hv : v < 0
 ·simp only [if_pos hv]; lia
 ·simp only [if_neg hv]; lia
theorem adjust_gen (lo hi : Option Int) (n : Nat) : Builtin.Slice.sliceAdjust lo hi 1 (n : Int) = (((sIx n 0 lo : Nat) : Int), ((sIx n n hi : Nat) : Int)) := by
 have h1 : ¬ ((1 : Int) < 0) := by lia
 unfold Builtin.Slice.sliceAdjust
 simp only [h1, if_false]
 refine Prod.ext ?_ ?_
 ·cases lo with
  | none => rfl
  | some v => exact clip_eq v n 0
 ·cases hi with
  | none => rfl
  | some v => exact clip_eq v n n
theorem places_gen (i j : Nat) : Builtin.Slice.slicePlaces (i : Int) (j : Int) 1 = j - i := by
 unfold Builtin.Slice.slicePlaces
 have h1 : (1 : Int) > 0 := by lia
 simp only [h1, if_true, Int.ediv_one]
 split <;> lia
theorem slicePart_ {v : Value} {o : Option Int} {Q : Option Int -> Shared -> Prop} (p : IsPart v o) (h : Q o s) : wpAny (model prog w) A (Builtin.Slice.slicePartIndex v) Q E s := by
 cases p with
 | none => exact slicePart_none h
 | int i t => exact slicePart_int h
theorem sliceApplied_gen {sl : Addr} {vl vu : Value} {lo hi : Option Int} {n : Nat} {Q : Int × Int × Nat -> Shared -> Prop} (hs : s.heap.IsSliceOf sl vl vu .none) (pl : IsPart vl lo) (pu : IsPart vu hi)
  (h : Q (((sIx n 0 lo : Nat) : Int), 1, sIx n n hi - sIx n 0 lo) s) : wpAny (model prog w) A (Builtin.Slice.sliceApplied (.ref sl) (pure (n : Int))) Q E s := by
 obtain ⟨os, hos, hcs, hds⟩ := id hs
 unfold Builtin.Slice.sliceApplied Builtin.Slice.sliceFields
 refine wpAny_bind (wpAny_bind (wpAny_field hos hds (x := vl) rfl (wpAny_bind (wpAny_field hos hds (x := vu) rfl (wpAny_bind (wpAny_field hos hds (x := .none) rfl (wpAny_pure ?_)))))))
 refine wpAny_bind (slicePart_none ?_)
 show wpAny _ _ (if ((1 : Int) == 0) = true then _ else _) _ _ s
 rw [if_neg (by decide)]
 refine wpAny_bind (slicePart_ pl (wpAny_bind (slicePart_ pu (wpAny_bind (wpAny_pure ?_)))))
 show wpAny _ _ (match Builtin.Slice.sliceAdjust lo hi 1 (n : Int) with | (lo, hi) => pure (lo, (1 : Int), Builtin.Slice.slicePlaces lo hi 1)) _ _ s
 rw [adjust_gen lo hi n]
 show wpAny _ _ (pure (((sIx n 0 lo : Nat) : Int), (1 : Int), Builtin.Slice.slicePlaces ((sIx n 0 lo : Nat) : Int) ((sIx n n hi : Nat) : Int) 1)) _ _ s
 rw [places_gen]
 exact wpAny_pure h
theorem pick_gen (xs : Array Value) (i k : Nat) : ((List.range k).filterMap fun (m : Nat) => xs[((i : Int) + (m : Int) * 1).toNat]?).toArray = ((xs.toList.drop i).take k).toArray := by
 have e : (fun (m : Nat) => xs[((i : Int) + (m : Int) * 1).toNat]?) = fun m => xs[i + m]? := by
  funext m
  have : ((i : Int) + (m : Int) * 1).toNat = i + m := by lia
  rw [this]
 rw [e]
 have := pick_run xs i k
 rw [List.filterMap_map] at this
 have e2 : ((fun x => xs[x]?) ∘ fun x => i + x) = fun m => xs[i + m]? := rfl
 rw [e2] at this
 rw [this]
theorem getItem_tuple_cut {t sl : Addr} {items : Array Value} {vl vu : Value} {lo hi : Option Int} {Q : Value -> Shared -> Prop} (ht : IsTup s.heap t items) (hs : s.heap.IsSliceOf sl vl vu .none) (pl : IsPart vl lo) (pu : IsPart vu hi)
  (hw : ¬ (sIx items.size 0 lo = 0 /\ sIx items.size items.size hi = items.size))
  (h : Q (.ref s.heap.objs.size) { s with heap := s.heap.push { cls := .type "tuple", data := .seq ((items.toList.drop (sIx items.size 0 lo)).take (sIx items.size items.size hi - sIx items.size 0 lo)).toArray } })
  (hsz : items.size <= sizeLine) : wpAny (model prog w) A (getItem (.ref t) (.ref sl)) Q E s := by
 have htake : sizeOk (.seq ((items.toList.drop (sIx items.size 0 lo)).take (sIx items.size items.size hi - sIx items.size 0 lo)).toArray) := by
  show ((items.toList.drop (sIx items.size 0 lo)).take (sIx items.size items.size hi - sIx items.size 0 lo)).toArray.size <= sizeLine
  rw [List.size_toArray, List.length_take, List.length_drop, Array.length_toList]
  lia
 have hj : sIx items.size items.size hi <= items.size := sIx_le _ _ (Nat.le_refl _) hi
 obtain ⟨os, hos, hcs, hds⟩ := id hs
 have hTs : s.TypeIs (.ref sl) "slice" := ⟨os, hos, hcs⟩
 unfold getItem
 try with_reducible refine wpAny_holding ?_
 first | refine wpAny_bind (wpAny_pure ?_) | skip
 refine wpAny_bind (wpAny_sequenceKey ht.typeIs (by decide) ?_)
 refine wpAny_bind (wpAny_callSpecial?_slot (name := Str.ofString "__getitem__") ht.typeIs PyProof.Rows.slot_tuple_getitem
  (wpAny_call_entry PyProof.Rows.slot_tuple_getitem ht.typeIs entry_tuple_getitem ?_ (args_tuple_getitem _ _)))
 show wpAny _ _ (Builtin.Tuple.tupleItemsOf (.ref t) >>= _) _ _ s
 refine wpAny_bind (tupleItemsOf_ ht ?_)
 refine wpAny_bind (wpAny_typeOf hTs ?_)
 rw [if_pos (by decide)]
 refine wpAny_bind (sliceApplied_gen hs pl pu ?_)
 have hno : ¬ ((((sIx items.size 0 lo : Nat) : Int) == 0 && (1 : Int) == 1 && (sIx items.size items.size hi - sIx items.size 0 lo) == items.size) = true) := by
  intro q
  rw [Bool.and_eq_true, Bool.and_eq_true] at q
  have q1 : ((sIx items.size 0 lo : Nat) : Int) = 0 := eq_of_beq q.1.1
  have q2 : sIx items.size items.size hi - sIx items.size 0 lo = items.size := eq_of_beq q.2
  exact hw ⟨by lia, by lia⟩
 show wpAny _ _ (if (((sIx items.size 0 lo : Nat) : Int) == 0 && (1 : Int) == 1 && (sIx items.size items.size hi - sIx items.size 0 lo) == items.size) = true then _ else _) _ _ s
 rw [if_neg hno, pick_gen]
 first
  | exact wpAny_bind (m := Builtin.Tuple.tupleExact _) (wpAny_newObj_type (wpAny_pure ⟨_, rfl, wpAny_pure h⟩) htake)
  | exact wpAny_bind (m := Builtin.Tuple.tupleExact _) (wpAny_newObj_type (wpAny_bind (wpAny_pure (wpAny_pure ⟨_, rfl, wpAny_pure h⟩))) htake)
  | exact wpAny_bind (wpAny_bind (m := Builtin.Tuple.tupleExact _) (wpAny_newObj_type (wpAny_pure (wpAny_pure ⟨_, rfl, wpAny_pure h⟩)) htake))
  | exact wpAny_bind (wpAny_bind (m := Builtin.Tuple.tupleExact _) (wpAny_newObj_type (wpAny_pure ⟨_, rfl, wpAny_pure h⟩) htake))
end
end HT
namespace L2
open PySem PySem.Spec PyProof.Rows
noncomputable abbrev TO := St -> Hp -> (Option Int -> Hp -> Prop) -> Prop
noncomputable def PO (X : Cx) (e : Option Expr) (t : TO) : Prop :=
 ∀ (pins : List (Addr × Obj)) (s : Shared) (σ : St) (H : Hp) (Q : Option Int -> Hp -> Prop), Inv X pins σ H s -> t σ H Q ->
  wpAny (model X.prog X.w) X.A (evalPart e X.env) (fun u s' => ∃ o H', Inv X pins σ H' s' /\ IsPart u o /\ Q o H') X.xe s
noncomputable def tNoPart : TO := fun _ H Q => Q none H
noncomputable def tPart (t : TE) : TO := fun σ H Q => t σ H fun x H1 => ∃ i, x = .int i /\ Q (some i) H1
section
variable {X : Cx} {e : Expr} {te : TE} {lo hi : Option Expr} {tl th : TO} {pos p2 : Pos}
theorem po_none : PO X none tNoPart := by
 intro pins s σ H Q I h
 rw [evalPart_none]
 exact wpAny_pure ⟨none, H, I, .none, h⟩
theorem po_some (h : PE X e te) : PO X (some e) (tPart te) := by
 intro pins s σ H Q I hw
 rw [evalPart_some]
 refine thn (h pins s σ H _ I hw) fun u s1 h_ => ?_
 obtain ⟨x, H1, I1, r1, q1⟩ := h_
 obtain ⟨i, rfl, q⟩ := q1
 obtain ⟨t, rfl⟩ := r1
 exact ⟨some i, H1, I1, .int i t, q⟩
noncomputable def SlR (X : Cx) (r : V -> Option Int -> Option Int -> Hp -> VK -> Prop) : Prop :=
 ∀ (pins : List (Addr × Obj)) (s : Shared) (σ : St) (H : Hp) (x : V) (v vl vu : Value) (lo hi : Option Int) (sl : Addr) (Q : VK), Inv X pins σ H s -> RelV x v -> s.heap.IsSliceOf sl vl vu .none -> IsPart vl lo -> IsPart vu hi -> r x lo hi H Q ->
  ∃ T id, typeLookup (.type T) "__getitem__" = pure (some (.builtin id)) /\ s.TypeIs v T /\ wpAny (model X.prog X.w) X.A (getItem v (.ref sl)) (EP X pins σ Q) X.xe s
theorem SlR.or {r r' : V -> Option Int -> Option Int -> Hp -> VK -> Prop} (h : SlR X r) (h' : SlR X r') : SlR X (fun x lo hi H Q => r x lo hi H Q \/ r' x lo hi H Q) := by
 intro pins s σ H x v vl vu lo hi sl Q I rx hs pl pu q
 rcases q with q | q
 ·exact h pins s σ H x v vl vu lo hi sl Q I rx hs pl pu q
 ·exact h' pins s σ H x v vl vu lo hi sl Q I rx hs pl pu q
noncomputable def tSl (r : V -> Option Int -> Option Int -> Hp -> VK -> Prop) (te : TE) (tl th : TO) : TE := fun σ H Q => te σ H fun x H1 => tl σ H1 fun l H2 => th σ H2 fun u H3 => r x l u H3 Q
theorem pe_slice {r : V -> Option Int -> Option Int -> Hp -> VK -> Prop} (hr : SlR X r) (he : PE X e te) (hl : PO X lo tl) (hu : PO X hi th) : PE X (.Subscript e (.Slice lo hi none p2) pos) (tSl r te tl th) := by
 intro pins s σ H Q I h
 refine Subscript_ (thn (he pins s σ H _ I h) fun v s1 h_ => ?_)
 obtain ⟨x, H1, I1, r1, q1⟩ := h_
 refine wpAny_Slice (thn (hl pins s1 σ H1 _ I1 q1) fun vl s2 ⟨l, H2, I2, pl, q2⟩ => thn (hu pins s2 σ H2 _ I2 q2) fun vu s3 h_ => ?_)
 obtain ⟨u, H3, I3, pu, q3⟩ := h_
 rw [evalPart_none]
 refine wpAny_pure ?_
 have I4 : Inv X pins σ H3 { s3 with heap := s3.heap.push { cls := .type "slice", data := .fields #[vl, vu, .none] } } := I3.kept (t' := s3.toks) fun b ob q => Heap.get?_push_of_some _ q
 obtain ⟨T, id, hT, ht, hg⟩ := hr pins { s3 with heap := s3.heap.push { cls := .type "slice", data := .fields #[vl, vu, .none] } } σ H3 x v vl vu l u s3.heap.objs.size Q I4 r1 (Heap.IsSliceOf.new ..) pl pu q3
 show wpAny (model X.prog X.w) X.A (subscriptTail e (.Slice lo hi none p2) v (.ref s3.heap.objs.size)) (EP X pins σ Q) X.xe { s3 with heap := s3.heap.push { cls := .type "slice", data := .fields #[vl, vu, .none] } }
 exact tail_any (ops := [.ref s3.heap.objs.size, v]) ht hT hg (by with_unfolding_all rfl)
noncomputable def cutV (xs : List V) (lo hi : Option Int) : List V := (xs.drop (HT.sIx xs.length 0 lo)).take (HT.sIx xs.length xs.length hi - HT.sIx xs.length 0 lo)
theorem Zb2 (xs : List V) (lo hi : Option Int) : (cutV xs lo hi).length <= xs.length := by
 unfold cutV
 rw [List.length_take, List.length_drop]
 lia
noncomputable def rSlT (K : W.Frag) : V -> Option Int -> Option Int -> Hp -> VK -> Prop := fun x lo hi H Q => ∃ a xs, x = .ref a /\ SqT K H a xs /\
 ¬ (HT.sIx xs.length 0 lo = 0 /\ HT.sIx xs.length xs.length hi = xs.length) /\ ∀ p, H p = none -> Q (.ref p) (upd H p (.tup (cutV xs lo hi)))
theorem sl_tup : SlR X (rSlT X.K) := by
 intro pins s σ H x v vl vu lo hi sl Q I rx hs pl pu h
 obtain ⟨a, xs, rfl, hx, hw, q⟩ := h
 cases rx
 obtain ⟨its, r, ht, hz⟩ := I.tuple hx
 have hlen : its.toArray.size = xs.length := by rw [List.size_toArray]; exact r.length.symm
 refine ⟨"tuple", _, PyProof.Rows.slot_tuple_getitem.lookup, ht.typeIs, ?_⟩
 refine HT.getItem_tuple_cut ht hs pl pu (by rw [hlen]; exact hw) ?_ (by rw [hlen]; exact hz)
 rw [hlen]
 refine ⟨.ref s.heap.objs.size, _, I.laid (t' := s.toks) (o := .tup (cutV xs lo hi)) (fun b ob q => Heap.get?_push_of_some _ q) (Nat.le_refl _) ?_, rfl, q _ (I.hok.fresh (Nat.le_refl _))⟩
 exact ⟨Nat.le_trans (Zb2 xs lo hi) hz, _, (r.drop (HT.sIx xs.length 0 lo)).take (HT.sIx xs.length xs.length hi - HT.sIx xs.length 0 lo), IsTup.new _ _⟩
noncomputable def rCatT (K : W.Frag) : R2 := fun x y H Q => ∃ a b xs ys, x = .ref a /\ y = .ref b /\ SqT K H a xs /\ SqT K H b ys /\ xs ≠ [] /\ xs.length + ys.length <= sizeLine /\
 (ys = [] -> Q (.ref a) H) /\ (ys ≠ [] -> ∀ p, H p = none -> Q (.ref p) (upd H p (.tup (xs ++ ys))))
theorem Vals.nil_iff {xs : List V} {us : List Value} (r : Vals xs us) : us = [] ↔ xs = [] := by
 cases r with
 | nil => simp
 | cons _ _ => simp
theorem op_catT : OpR X (binaryOp .Add) (rCatT X.K) := by
 intro pins s σ H x y v u Q I rx ry h
 obtain ⟨a, b, xs, ys, rfl, rfl, ha, hb, hx, hz, q1, q2⟩ := h
 cases rx
 cases ry
 obtain ⟨its, r1, p1, _⟩ := I.tuple ha
 obtain ⟨its2, r2, p2, _⟩ := I.tuple hb
 refine HT.cat_tup p1 p2 (fun z => hx (r1.nil_iff.mp z)) (fun z => ⟨.ref a, H, I, rfl, q1 (r2.nil_iff.mp z)⟩) (fun z => ?_) (by rw [← r1.length, ← r2.length]; exact hz)
 refine ⟨.ref s.heap.objs.size, _, I.laid (t' := s.toks) (o := .tup (xs ++ ys)) (fun b ob q => Heap.get?_push_of_some _ q) (Nat.le_refl _) ?_, rfl, q2 (fun w => z (r2.nil_iff.mpr w)) _ (I.hok.fresh (Nat.le_refl _))⟩
 exact ⟨by rw [List.length_append]; exact hz, _, r1.append r2, IsTup.new _ _⟩
end
noncomputable def ixN (n : Nat) (i : Int) : Option Nat := if 0 <= i then (if i < n then some i.toNat else none) else if -(n : Int) <= i then some (i + n).toNat else none
noncomputable def atI {α : Type} (xs : List α) (i : Int) : Option α := (ixN xs.length i).bind fun j => xs[j]?
theorem ixN_seq {n : Nat} {i : Int} {j : Nat} (h : ixN n i = some j) : seqIndex? i n = some j /\ j < n /\ -(n : Int) <= i /\ i < n := by
 unfold ixN at h
 by_cases h0 : 0 <= i
 ·rw [if_pos h0] at h
  by_cases h1 : i < n
  ·rw [if_pos h1] at h
   have e : i.toNat = j := Option.some.inj h
   exact ⟨by rw [seqIndex_of h0 h1, e], by lia, by lia, h1⟩
  ·rw [if_neg h1] at h; cases h
 ·rw [if_neg h0] at h
  by_cases h1 : -(n : Int) <= i
  ·rw [if_pos h1] at h
   have e : (i + n).toNat = j := Option.some.inj h
   exact ⟨by rw [seqIndex_neg (by lia) h1, e], by lia, h1, by lia⟩
  ·rw [if_neg h1] at h; cases h
theorem atI_get {α : Type} {xs : List α} {i : Int} {v : α} (h : atI xs i = some v) : ∃ j, seqIndex? i xs.length = some j /\ xs[j]? = some v /\ j < xs.length /\ -(xs.length : Int) <= i /\ i < xs.length := by
 unfold atI at h
 cases e : ixN xs.length i with
 | none => rw [e] at h; cases h
 | some j =>
  rw [e] at h
  obtain ⟨h1, h2, h3, h4⟩ := ixN_seq e
  exact ⟨j, h1, h, h2, h3, h4⟩
noncomputable def PlainIx (b : Expr) : Prop := ∀ o i, subscripted b false o i = operate [o, i] (getItem o i)
noncomputable def IxR (X : Cx) (r : R2) : Prop :=
 ∀ (value slice : Expr) (pins : List (Addr × Obj)) (s : Shared) (σ : St) (H : Hp) (x y : V) (v u : Value) (Q : VK), Inv X pins σ H s -> RelV x v -> RelV y u -> r x y H Q ->
  subscripted slice false v u = operate [v, u] (getItem v u) -> wpAny (model X.prog X.w) X.A (subscriptTail value slice v u) (EP X pins σ Q) X.xe s
noncomputable def MtR (X : Cx) (id : String) (r : V -> List V -> Hp -> VK -> Prop) : Prop :=
 ∀ (pins : List (Addr × Obj)) (s : Shared) (σ : St) (H : Hp) (x : V) (xs : List V) (v : Value) (us : List Value) (Q : VK), Inv X pins σ H s -> RelV x v -> Vals xs us -> r x xs H Q ->
  wpAny (model X.prog X.w) X.A (call (.builtin id) (v :: us)) (EP X pins σ Q) X.xe s
section
variable {X : Cx} {a b : Expr} {ta tb : TE} {pos : Pos}
theorem IxR.or {r r' : R2} (h : IxR X r) (h' : IxR X r') : IxR X (fun x y H Q => r x y H Q \/ r' x y H Q) := by
 intro value slice pins s σ H x y v u Q I rx ry q hs
 rcases q with q | q
 ·exact h value slice pins s σ H x y v u Q I rx ry q hs
 ·exact h' value slice pins s σ H x y v u Q I rx ry q hs
theorem pe_ix {r : R2} (hr : IxR X r) (ha : PE X a ta) (hb : PE X b tb) (hs : PlainIx b) : PE X (.Subscript a b pos) (tOp r ta tb) := by
 intro pins s σ H Q I h
 exact Subscript_ (binT ha hb I h fun v u s2 x y H2 I2 rx ry q => hr a b pins s2 σ H2 x y v u Q I2 rx ry q (hs _ _))
noncomputable def rIxL (K : W.Frag) : R2 := fun x y H Q => ∃ p xs i v, x = .ref p /\ y = .int i /\ SqL K H p xs /\ atI xs i = some v /\ Q v H
noncomputable def rIxT (K : W.Frag) : R2 := fun x y H Q => ∃ p xs i v, x = .ref p /\ y = .int i /\ SqT K H p xs /\ atI xs i = some v /\ Q v H
noncomputable def rIxS : R2 := fun x y H Q => ∃ z i c, x = .str z /\ y = .int i /\ z.length <= sizeLine /\ atI z.cps.toList i = some c /\ Q (.str ⟨#[c]⟩) H
theorem ix_list : IxR X (rIxL X.K) := by
 intro value slice pins s σ H x y v u Q I rx ry h hs
 obtain ⟨p, xs, i, z, rfl, rfl, hq, he, q⟩ := h
 cases rx
 obtain ⟨t, rfl⟩ := ry
 obtain ⟨its, r, pl, hz⟩ := I.list hq
 obtain ⟨j, h1, h2, h3, h4, h5⟩ := atI_get he
 obtain ⟨w, ew, rw'⟩ := r.get h2
 have hl := r.length
 have hn := line63
 have fin : EP X pins σ Q w s := ⟨z, H, I, rw', q⟩
 by_cases h0 : 0 <= i
 ·have hj : i.toNat = j := by
   rw [seqIndex_of h0 h5] at h1
   exact Option.some.inj h1
  exact item_listR pl.isList h0 (by lia) (by rw [hj]; simpa using ew) fin hs
 ·have hj : (i + (its.toArray.size : Int)).toNat = j := by
   rw [seqIndex_neg (by lia) h4] at h1
   rw [List.size_toArray, ← hl]
   exact Option.some.inj h1
  exact subscriptTail_builtinR (x := w) pl.isList.typeIs slot_list_getitem.lookup
   (wpAny_getItem_list_neg (Q := fun r s' => r = w /\ EP X pins σ Q r s') pl.isList (by lia) (by rw [List.size_toArray] <;> lia) (by lia) (by rw [hj]; simpa using ew) ⟨rfl, fin⟩) hs
theorem ix_tup : IxR X (rIxT X.K) := by
 intro value slice pins s σ H x y v u Q I rx ry h hs
 obtain ⟨p, xs, i, z, rfl, rfl, hq, he, q⟩ := h
 cases rx
 obtain ⟨t, rfl⟩ := ry
 obtain ⟨its, r, pl, hz⟩ := I.tuple hq
 obtain ⟨j, h1, h2, h3, h4, h5⟩ := atI_get he
 obtain ⟨w, ew, rw'⟩ := r.get h2
 have hl := r.length
 have hn := line63
 have fin : EP X pins σ Q w s := ⟨z, H, I, rw', q⟩
 exact subscriptTail_builtinR (x := w) pl.typeIs slot_tuple_getitem.lookup
  (getItem_tuple (j := j) (Q := fun r s' => r = w /\ EP X pins σ Q r s') pl (by lia) (by lia) (by rw [List.size_toArray, ← hl]; exact h1) (by simpa using ew) ⟨rfl, fin⟩) hs
theorem ix_str : IxR X rIxS := by
 intro value slice pins s σ H x y v u Q I rx ry h hs
 obtain ⟨z, i, c, rfl, rfl, hz, he, q⟩ := h
 obtain ⟨t, rfl⟩ := rx
 obtain ⟨t', rfl⟩ := ry
 obtain ⟨j, h1, h2, h3, h4, h5⟩ := atI_get he
 have hl : z.cps.toList.length = z.length := by simp [Str.length]
 rw [hl] at h1 h4 h5
 have hn := line63
 exact tail_any (typeIs_str s z t) slot_str_getitem.lookup (getItem_str (c := c) (by
  have e1 : decide (i < -(2 ^ 63 : Int)) = false := decide_eq_false (by lia)
  have e2 : decide (i ≥ 2 ^ 63) = false := decide_eq_false (by lia)
  rw [e1, e2, Bool.or_false]) (by rw [h1]; simpa using h2) ⟨.str ⟨#[c]⟩, H, I.tok _, ⟨_, rfl⟩, q⟩) hs
noncomputable def rIx (K : W.Frag) : R2 := fun x y H Q => rIxL K x y H Q \/ rIxT K x y H Q \/ rIxS x y H Q
theorem ix_seq : IxR X (rIx X.K) := ix_list.or (ix_tup.or ix_str)
theorem mapSeq_set (its : List Value) (n j : Nat) (u : Value) : Obj.mapSeq (·.setIfInBounds j u) { cls := .type "list", data := .seq its.toArray n } = { cls := .type "list", data := .seq (its.set j u).toArray n } := by
 simp [Obj.mapSeq]
theorem Inv.lst {pins : List (Addr × Obj)} {σ : St} {H : Hp} {s : Shared} {p : Addr} {xs : List V} (I : Inv X pins σ H s) (h : H p = some (.lst xs)) :
  ∃ (its : List Value) (n : Nat), Vals xs its /\ s.heap.get? p = some { cls := .type "list", data := .seq its.toArray n } /\ xs.length <= sizeLine := by
 obtain ⟨z, its, n, r, e⟩ := I.hok p _ h
 exact ⟨its, n, r, e, z⟩
theorem Inv.lstUpd {pins : List (Addr × Obj)} {σ : St} {H : Hp} {s : Shared} {p : Addr} {xs ys : List V} {its its' : List Value} {n n' : Nat} {f : Obj -> Obj} (I : Inv X pins σ H s) (h : H p = some (.lst xs))
  (ho : s.heap.get? p = some { cls := .type "list", data := .seq its.toArray n }) (hf : f { cls := .type "list", data := .seq its.toArray n } = { cls := .type "list", data := .seq its'.toArray n' }) (r : Vals ys its') (hz : ys.length <= sizeLine) (t : Nat) :
  Inv X pins σ (upd H p (.lst ys)) { s with heap := s.heap.update p f, toks := t } := by
 have e : (s.heap.update p f).get? p = some { cls := .type "list", data := .seq its'.toArray n' } := by
  rw [Heap.get?_update_self f ho (by rw [hf] <;> rfl), hf]
 refine I.write (x := p) (e := p) (by rw [h]; trivial) (.inl rfl) (fun b u hb q => (Heap.get?_update_other _ _ (Ne.symm hb)).trans q) ⟨_, e⟩ ?_
 exact ⟨hz, its', n', r, e⟩
noncomputable def rSetL : V -> V -> V -> Hp -> (Hp -> Prop) -> Prop := fun o i v H Q => ∃ p xs k j, o = .ref p /\ i = .int k /\ H p = some (.lst xs) /\ ixN xs.length k = some j /\ Q (upd H p (.lst (xs.set j v)))
theorem set_list : PSet X rSetL := by
 intro pins s σ H o i v ov iv u Q I ro ri rv h
 obtain ⟨p, xs, k, j, rfl, rfl, hp, hj, q⟩ := h
 cases ro
 obtain ⟨t, rfl⟩ := ri
 obtain ⟨its, n, r, ho, hz⟩ := I.lst hp
 obtain ⟨h1, h2, h3, h4⟩ := ixN_seq hj
 have hl := r.length
 have hn := line63
 have I' : Inv X pins σ (upd H p (.lst (xs.set j v))) { s with heap := s.heap.update p (Obj.mapSeq (·.setIfInBounds j u)) } :=
  I.lstUpd hp ho (mapSeq_set its n j u) (r.set rv j) (by rw [List.length_set]; exact hz) s.toks
 by_cases h0 : 0 <= k
 ·have hk : k.toNat = j := by
   rw [seqIndex_of h0 h4] at h1
   exact Option.some.inj h1
  exact W.ki_setAt ho h0 (by lia) (by rw [List.size_toArray, ← hl]; exact h4) (by rw [hk]; exact ⟨_, I', q⟩)
 ·have hk : (k + (its.toArray.size : Int)).toNat = j := by
   rw [seqIndex_neg (by lia) h3] at h1
   rw [List.size_toArray, ← hl]
   exact Option.some.inj h1
  exact W.ki_setBack ho (by lia) (by rw [List.size_toArray, ← hl]; exact h3) (by lia) (by rw [hk]; exact ⟨_, I', q⟩)
theorem slice_bounds (lo hi : Option Int) (n : Nat) : (sliceBounds lo hi none n).1 = ((HT.sIx n 0 lo : Nat) : Int) /\ (sliceBounds lo hi none n).2.1 = ((HT.sIx n n hi : Nat) : Int) /\ (sliceBounds lo hi none n).2.2 = 1 := by
 refine ⟨?_, ?_, rfl⟩
 ·cases lo with
  | none => simp [sliceBounds, HT.sIx]
  | some i =>
   simp only [sliceBounds, HT.sIx, Option.getD_none, show (1 : Int) > 0 by decide, if_true]
   by_cases h : i < 0
   ·simp only [h, if_true] <;> lia
   ·simp only [h, if_false] <;> lia
 ·cases hi with
  | none => simp [sliceBounds, HT.sIx]
  | some i =>
   simp only [sliceBounds, HT.sIx, Option.getD_none, show (1 : Int) > 0 by decide, if_true]
   by_cases h : i < 0
   ·simp only [h, if_true] <;> lia
   ·simp only [h, if_false] <;> lia
theorem slicePick_cut (its : List Value) (lo hi : Option Int) : slicePick its.toArray lo hi none = ((its.drop (HT.sIx its.length 0 lo)).take (HT.sIx its.length its.length hi - HT.sIx its.length 0 lo)).toArray := by
 obtain ⟨h1, h2, h3⟩ := slice_bounds lo hi its.toArray.size
 unfold slicePick
 rw [h1, h2, h3]
 simp only [sliceRange_one, pick_run, List.size_toArray] <;> rfl
noncomputable def rSlL (K : W.Frag) : V -> Option Int -> Option Int -> Hp -> VK -> Prop := fun x lo hi H Q => ∃ a xs, x = .ref a /\ SqL K H a xs /\ ∀ p, H p = none -> Q (.ref p) (upd H p (.lst (cutV xs lo hi)))
theorem sl_list : SlR X (rSlL X.K) := by
 intro pins s σ H x v vl vu lo hi sl Q I rx hs pl pu h
 obtain ⟨a, xs, rfl, hx, q⟩ := h
 cases rx
 obtain ⟨its, r, ht, hz⟩ := I.list hx
 have hlen := r.length
 refine ⟨"list", _, slot_list_getitem.lookup, ht.isList.typeIs, ?_⟩
 refine wpAny_getItem_list_slice ht.isList hs pl pu .none (by simp) ?_ (by rw [List.size_toArray] <;> lia)
 rw [slicePick_cut, ← hlen]
 refine ⟨.ref s.heap.objs.size, _, I.laid (t' := s.toks) (o := .lst (cutV xs lo hi)) (fun b ob q => Heap.get?_push_of_some _ q) (Nat.le_refl _) ?_, rfl, q _ (I.hok.fresh (Nat.le_refl _))⟩
 exact ⟨Nat.le_trans (Zb2 xs lo hi) hz, _, 0, (r.drop (HT.sIx xs.length 0 lo)).take (HT.sIx xs.length xs.length hi - HT.sIx xs.length 0 lo), Heap.get?_push_size _ rfl⟩
noncomputable def flatV : V -> Bool
 | .non => true
 | .bl _ => true
 | .int _ => true
 | .str _ => true
 | _ => false
noncomputable def eqV : V -> V -> Bool
 | .non, .non => true
 | .bl a, .bl b => a == b
 | .bl a, .int b => (if a then 1 else 0) == b
 | .int a, .bl b => a == (if b then 1 else 0)
 | .int a, .int b => a == b
 | .str a, .str b => a == b
 | _, _ => false
theorem eqAt_V {A : Around} {s : Shared} {y x : V} {u v : Value} (ry : RelV y u) (rx : RelV x v) (fy : flatV y = true) (fx : flatV x = true) : SeqAt.EqAt A s u v (eqV y x) := by
 cases y with
 | non =>
  cases ry
  cases x with
  | non => cases rx; exact SeqAt.EqAt.same _
  | bl b => cases rx; exact SeqAt.EqAt.none_bool b
  | int b => obtain ⟨t, rfl⟩ := rx; exact SeqAt.EqAt.none_int b t
  | str b => obtain ⟨t, rfl⟩ := rx; exact SeqAt.EqAt.none_str b t
  | _ => exact absurd (show false = true from fx) Bool.false_ne_true
 | bl a =>
  cases ry
  cases x with
  | non => cases rx; exact SeqAt.EqAt.bool_none a
  | bl b => cases rx; exact SeqAt.EqAt.bool_bool a b
  | int b => obtain ⟨t, rfl⟩ := rx; exact SeqAt.EqAt.bool_int a b t
  | str b => obtain ⟨t, rfl⟩ := rx; exact SeqAt.EqAt.bool_str a b t
  | _ => exact absurd (show false = true from fx) Bool.false_ne_true
 | int a =>
  obtain ⟨t', rfl⟩ := ry
  cases x with
  | non => cases rx; exact SeqAt.EqAt.int_none a t'
  | bl b => cases rx; exact SeqAt.EqAt.int_bool a t' b
  | int b => obtain ⟨t, rfl⟩ := rx; exact SeqAt.EqAt.int_int a t' b t
  | str b => obtain ⟨t, rfl⟩ := rx; exact SeqAt.EqAt.int_str a t' b t
  | _ => exact absurd (show false = true from fx) Bool.false_ne_true
 | str a =>
  obtain ⟨t', rfl⟩ := ry
  cases x with
  | non => cases rx; exact SeqAt.EqAt.str_none a t'
  | bl b => cases rx; exact SeqAt.EqAt.str_bool a t' b
  | int b => obtain ⟨t, rfl⟩ := rx; exact SeqAt.EqAt.str_int a t' b t
  | str b => obtain ⟨t, rfl⟩ := rx; exact SeqAt.EqAt.str_str a t' b t
  | _ => exact absurd (show false = true from fx) Bool.false_ne_true
 | _ => exact absurd (show false = true from fy) Bool.false_ne_true
noncomputable def eqU (x : V) (u : Value) : Bool := match u with
 | .none => eqV .non x
 | .bool b => eqV (.bl b) x
 | .int i _ => eqV (.int i) x
 | .str z _ => eqV (.str z) x
 | _ => false
theorem eqU_of {x y : V} {u : Value} (r : RelV y u) (f : flatV y = true) : eqU x u = eqV y x := by
 cases y with
 | non => cases r; rfl
 | bl b => cases r; rfl
 | int i => obtain ⟨t, rfl⟩ := r; rfl
 | str z => obtain ⟨t, rfl⟩ := r; rfl
 | _ => exact absurd (show false = true from f) Bool.false_ne_true
theorem any_eqU {x : V} : ∀ {xs : List V} {us : List Value}, Vals xs us -> xs.all flatV = true -> us.any (eqU x) = xs.any fun y => eqV y x
 | _, _, .nil, _ => rfl
 | y :: xs, u :: us, .cons r t, f => by
  rw [List.all_cons, Bool.and_eq_true] at f
  rw [List.any_cons, List.any_cons, eqU_of r f.1, any_eqU t f.2]
theorem mem_eqAt {A : Around} {s : Shared} {x : V} {v : Value} (rx : RelV x v) (fx : flatV x = true) : ∀ {xs : List V} {us : List Value}, Vals xs us -> xs.all flatV = true -> ∀ u ∈ us, SeqAt.EqAt A s u v (eqU x u)
 | _, _, .nil, _ => fun u hu => by cases hu
 | y :: xs, u :: us, .cons r t, f => fun u' hu => by
  rw [List.all_cons, Bool.and_eq_true] at f
  rcases List.mem_cons.mp hu with rfl | hu
  ·rw [eqU_of r f.1]; exact eqAt_V r rx f.1 fx
  ·exact mem_eqAt rx fx t f.2 u' hu
noncomputable def inV (x : V) (xs : List V) : Bool := xs.any fun y => eqV y x
noncomputable def rIn (K : W.Frag) (neg : Bool) : R2 := fun x y H Q => ∃ p xs, y = .ref p /\ (SqL K H p xs \/ SqT K H p xs) /\ flatV x = true /\ xs.all flatV = true /\ Q (.bl (if neg then !inV x xs else inV x xs)) H
theorem op_in_seq : OpR X (compareOp .In) (rIn X.K false) := by
 intro pins s σ H x y v u Q I rx ry h
 obtain ⟨p, xs, rfl, hq, fx, fs, q⟩ := h
 cases ry
 rcases hq with hq | hq
 ·obtain ⟨its, r, pl, hz⟩ := I.list hq
  refine SeqAt.in_listAt (eqU x) pl.isList (fun w hw => mem_eqAt rx fx r fs w (by simpa using hw)) ⟨.bl _, H, I, rfl, ?_⟩
  rw [show its.toArray.any (eqU x) = its.any (eqU x) by simp, any_eqU r fs]
  exact q
 ·obtain ⟨its, r, pl, hz⟩ := I.tuple hq
  refine SeqAt.in_tupleAt (eqU x) pl (fun w hw => mem_eqAt rx fx r fs w (by simpa using hw)) ⟨.bl _, H, I, rfl, ?_⟩
  rw [show its.toArray.any (eqU x) = its.any (eqU x) by simp, any_eqU r fs]
  exact q
theorem call_tuple_of : CallR X (.type "tuple") (fun xs H Q => ∃ p ys, xs = [.ref p] /\ ((SqL X.K H p ys /\ ∀ l, H l = none -> Q (.ref l) (upd H l (.tup ys))) \/ (SqT X.K H p ys /\ Q (.ref p) H))) := by
 intro pins s σ H xs us Q I r h
 obtain ⟨p, ys, rfl, h⟩ := h
 obtain ⟨u, rfl, rx⟩ := vals1 r
 cases rx
 rcases h with ⟨hq, q⟩ | ⟨hq, q⟩
 ·obtain ⟨its, r', pl, hz⟩ := I.list hq
  have hlen := r'.length
  refine call_tuple_list pl.isList (fun h' kp => ?_) (by simp only [List.size_toArray] <;> lia)
  have I1 : Inv X pins σ H { s with heap := h' } := I.kept (t' := s.toks) kp
  have I2 : Inv X pins σ (upd H h'.objs.size (.tup ys)) { s with heap := h'.push { cls := .type "tuple", data := .seq its.toArray } } :=
   I1.laid (t' := s.toks) (fun b o e => Heap.get?_push_of_some _ e) (Nat.le_refl _) (show ObjOk X.prog X.w _ _ _ (.tup ys) from ⟨hz, its, r', IsTup.new _ _⟩)
  exact ⟨.ref h'.objs.size, _, I2, rfl, q _ (I1.hok.fresh (Nat.le_refl _))⟩
 ·obtain ⟨its, r', pl, hz⟩ := I.tuple hq
  exact call_tuple_same pl ⟨.ref p, H, I, rfl, q⟩
noncomputable def tyV (K : W.Frag) (T : String) (x : V) (H : Hp) : Prop := match x with
 | .str _ => T = "str"
 | .int _ => T = "int"
 | .ref p => (T = "list" /\ ∃ xs, SqL K H p xs) \/ (T = "tuple" /\ ∃ o, K.lookup p = some o /\ o.cls = .type "tuple" /\ o.dict = none) \/
   (T = "dict" /\ ((∃ kvs, H p = some (.dK kvs)) \/ ∃ kvs, H p = some (.dT kvs))) \/ (T = "set" /\ ∃ S n, H p = some (.set S n))
 | _ => False
theorem tyV_is {pins : List (Addr × Obj)} {σ : St} {H : Hp} {s : Shared} {T : String} {x : V} {v : Value} (I : Inv X pins σ H s) (r : RelV x v) (ty : tyV X.K T x H) :
  s.TypeIs v T /\ ∀ a, v = .ref a -> ∃ ob, s.heap.get? a = some ob /\ ob.dict = none := by
 cases x with
 | str z =>
  obtain ⟨t, rfl⟩ := r
  cases (show T = "str" from ty)
  exact ⟨typeIs_str s z t, fun _ e => nomatch e⟩
 | int i =>
  obtain ⟨t, rfl⟩ := r
  cases (show T = "int" from ty)
  exact ⟨typeIs_int s i t, fun _ e => nomatch e⟩
 | ref p =>
  cases r
  rcases ty with ⟨rfl, xs, hq⟩ | ⟨rfl, o, hk, hc, hd⟩ | ⟨rfl, hk⟩ | ⟨rfl, S, n, hk⟩
  ·obtain ⟨its, _, pl, _⟩ := I.list hq
   refine ⟨pl.isList.typeIs, fun a e => ?_⟩
   cases e
   obtain ⟨o, n, e, c, hd, _⟩ := pl
   exact ⟨o, e, hd⟩
  ·refine ⟨⟨o, I.kIn p o hk, hc⟩, fun a e => ?_⟩
   cases e
   exact ⟨o, I.kIn _ o hk, hd⟩
  ·have z : ∃ o, s.heap.get? p = some o /\ o.ExactDict := by
    rcases hk with ⟨kvs, hk⟩ | ⟨kvs, hk⟩
    ·obtain ⟨_, _, _, _, o, _, _, e, ex, _⟩ := I.hok p _ hk
     exact ⟨o, e, ex⟩
    ·obtain ⟨_, _, _, _, o, _, _, e, ex, _⟩ := I.hok p _ hk
     exact ⟨o, e, ex⟩
   obtain ⟨o, e, ex⟩ := z
   refine ⟨⟨o, e, ex.1⟩, fun a e2 => ?_⟩
   cases e2
   exact ⟨o, e, ex.2.1⟩
  ·obtain ⟨o, _, _, _, e, ex, _⟩ := I.hok p _ hk
   refine ⟨⟨o, e, ex.1⟩, fun a e2 => ?_⟩
   cases e2
   exact ⟨o, e, ex.2.1⟩
 | _ => exact False.elim ty
noncomputable def tBM (K : W.Frag) (T : String) (r : V -> List V -> Hp -> VK -> Prop) (to : TE) (t : TA) : TE := fun σ H Q => to σ H fun x H1 => tyV K T x H1 /\ t σ H1 fun xs H2 => r x xs H2 Q
variable {o e : Expr} {es : List Expr} {to : TE} {t : TA} {name : Str} {apos cpos : Pos} {T id : String} {r : V -> List V -> Hp -> VK -> Prop}
theorem pe_bm (pa : PlainAttrs T) (slot : Slot T name id) (hty : typeOf (.builtin id) = pure (.type "method_descriptor")) (hm : MtR X id r) (ho : PE X o to) (ha : PA X (e :: es) t)
  (hbase : attributeBase o name X.env (eval o X.env) = eval o X.env := by rfl)
  (hfew : ((backTo cpos (starEach (e :: es) X.env)).all (fun x => !x.1) && (backToKw cpos (keywordEach [] X.env)).all (fun x => x.1.isSome)
   && decide ((e :: es).length + ([] : List Keyword).length + (if ([] : List Keyword).isEmpty then 0 else 1) < 30)) = true := by rfl)
  (hline : (apos.endLine == cpos.line) = true := by rfl) (hs : starEach (e :: es) X.env = (false, eval e X.env) :: starEach es X.env := by rfl) (hplain : (backTo cpos (starEach es X.env)).any (·.1) = false := by rfl) :
  PE X (.Call (.Attribute o name apos) (e :: es) [] cpos) (tBM X.K T r to t) := by
 intro pins s σ H Q I h
 refine wpAny_Call_method_late hbase hfew hline rfl (thn (ho pins s σ H _ I h) fun v s1 h_ => ?_)
 obtain ⟨x, H1, I1, r1, ty, q1⟩ := h_
 obtain ⟨h1, h2⟩ := tyV_is I1 r1 ty
 refine ⟨T, id, pa, slot, hty, h1, h2, ?_⟩
 have hA := ha cpos pins s1 σ H1 _ I1 q1
 rw [hs] at hA ⊢
 refine Calls.callWith_builtin (by show (false || (backTo cpos (starEach es X.env)).any (·.1)) = false; rw [hplain] <;> rfl) (Calls.evalArgs_plain ?_)
 exact thn hA fun us s2 ⟨vs, H2, I2, r2, q2⟩ => hm pins s2 σ H2 x vs v us Q I2 r1 r2 q2
end
noncomputable def MtM (X : Cx) (id : String) (r : V -> List V -> Hp -> VK -> Prop) : Prop :=
 ∀ (pins : List (Addr × Obj)) (s : Shared) (σ : St) (H : Hp) (x : V) (xs : List V) (v : Value) (us : List Value) (Q : VK), Inv X pins σ H s -> RelV x v -> Vals xs us -> r x xs H Q ->
  wpAny (model X.prog X.w) X.A (call (.builtin id) (v :: us)) (EP X pins σ Q) X.xe s
theorem Vals.one : ∀ {x : V} {us : List Value}, Vals [x] us -> ∃ u, us = [u] /\ RelV x u := by
 intro x us r
 cases r with
 | cons r t => cases t; exact ⟨_, rfl, r⟩
theorem Vals.two : ∀ {x y : V} {us : List Value}, Vals [x, y] us -> ∃ u v, us = [u, v] /\ RelV x u /\ RelV y v := by
 intro x y us r
 cases r with
 | cons r t => cases t with
  | cons q t => cases t; exact ⟨_, _, rfl, r, q⟩
section
variable {X : Cx} {pins : List (Addr × Obj)} {σ : St} {H : Hp} {s : Shared} {l b : Addr} {xs ys zs : List V}
theorem Inv.lset {its its' : List Value} {n : Nat} {f : Array Value -> Array Value} {t' : Nat} (I : Inv X pins σ H s) (hH : H l = some (.lst xs))
  (e : s.heap.get? l = some { cls := .type "list", data := .seq its.toArray n }) (hf : f its.toArray = its'.toArray) (hv : Vals ys its') (hz : ys.length <= sizeLine) :
  Inv X pins σ (upd H l (.lst ys)) { s with heap := s.heap.update l (Obj.mapSeq f), toks := t' } := by
 have q := PySem.IsL.update e f
 rw [hf] at q
 refine I.write (x := l) (e := l) (by rw [hH]; exact trivial) (.inl rfl) (fun b' u hb hu => (Heap.get?_update_other s.heap (Obj.mapSeq f) (Ne.symm hb)).trans hu) ⟨_, q⟩ ?_
 exact ⟨hz, its', _, hv, q⟩
theorem Inv.lnew {its : List Value} {t' : Nat} (I : Inv X pins σ H s) (hv : Vals ys its) (hz : ys.length <= sizeLine) :
  Inv X pins σ (upd H s.heap.objs.size (.lst ys)) { s with heap := s.heap.push { cls := .type "list", data := .seq its.toArray }, toks := t' } :=
 I.laid (fun _ _ q => Heap.get?_push_of_some _ q) (Nat.le_refl _) ⟨hz, its, 0, hv, Heap.get?_push_size _ rfl⟩
theorem Inv.fresh (I : Inv X pins σ H s) : H s.heap.objs.size = none := I.hok.fresh (Nat.le_refl _)
theorem Inv.lstM (I : Inv X pins σ H s) (hH : H l = some (.lst xs)) : xs.length <= sizeLine /\ ∃ (its : List Value) (n : Nat), Vals xs its /\ xs.length = its.length /\ s.heap.get? l = some { cls := .type "list", data := .seq its.toArray n } := by
 obtain ⟨z, its, n, r, e⟩ := I.hok l _ hH
 exact ⟨z, its, n, r, r.length, e⟩
end
section
variable {X : Cx}
noncomputable def rAppend : V -> List V -> Hp -> VK -> Prop := fun x vs H Q => ∃ l xs y, x = .ref l /\ vs = [y] /\ H l = some (.lst xs) /\ xs.length < sizeLine /\ Q .non (upd H l (.lst (xs ++ [y])))
theorem mt_append : MtM X "list.append" rAppend := by
 intro pins s σ H x vs v us Q I rx rv h
 obtain ⟨l, xs, y, rfl, rfl, hH, hz, q⟩ := h
 cases rx
 obtain ⟨u, rfl, ru⟩ := rv.one
 obtain ⟨z, its, n, r, hl, e⟩ := I.lstM hH
 refine call_meets F.slot_list_append ⟨_, e, rfl⟩ F.entry_list_append (F.args_list_append_2 _ _) (PySem.list_append l its.toArray n u (by rw [List.size_toArray]; lia)) ⟨e, ?_⟩
 refine ⟨.non, _, I.lset (its' := its ++ [u]) hH e (by simp) (r.append (.cons ru .nil)) ?_, rfl, q⟩
 rw [List.length_append, List.length_singleton]
 lia
end
end L2
namespace Att
open PySem PySem.W PySem.Calls PyProof.Rows
theorem ZbW {P : Params} {h : Heap} : ∀ (ns : List Int) (vs : List Value), WellAll P h vs (ns.map WData.int) -> IntsAre vs ns := by
 intro ns
 induction ns with
 | nil =>
  intro vs w
  rw [List.map_nil] at w
  cases w
  exact .nil
 | cons n ns ih =>
  intro vs w
  rw [List.map_cons] at w
  cases w with
  | cons a b =>
   cases a
   exact .cons _ _ (ih _ b)
theorem script_of {l : OpenLaw} {n : Nat} (hn : l.most = some n) {P : Params} {h : Heap} {args : List WData} {vals : List Value}
    (hpre : l.row.toRowW.claim.pre args = true) (hwl : WellAll P h vals args) :
    ∃ a vs ns, vals = [Value.ref a] /\ args = [WData.list (ns.map WData.int)] /\ h.get? a = some { cls := .type "list", data := .seq vs.toArray } /\ IntsAre vs ns /\ ns.length <= n := by
  have hsh : WShape.hasAll [] args [.list .int] = true := (pre_splitW hpre).1
  have hc : l.pre.holds [] { args := args } = true := (pre_splitW hpre).2
  obtain ⟨d, r, rfl, h1, h2⟩ := hasAllW_cons hsh
  obtain rfl := hasAllW_nil h2
  obtain ⟨xs, rfl, h3⟩ := hasW_list h1
  obtain ⟨ns, rfl⟩ := items_int h3
  have hlen : ns.length <= n := by
    unfold OpenLaw.pre at hc
    have h4 : (WTm.not (.lt (.lit (.int (n : Int))) (.len (.arg 0)))).holds [] { args := [.list (ns.map .int)] } = true := by
      have h4 := (holds_andW hc).1
      rw [hn] at h4
      exact h4
    have h5 := condW_of h4 (w_not (w_lt w_lit (w_len_list (w_arg rfl))))
    rw [List.length_map] at h5
    refine Nat.le_of_not_lt fun q => ?_
    have q' : (n : Int) < ((ns.length : Nat) : Int) := by lia
    first
      | (rw [decide_eq_true q'] at h5; exact absurd h5 (by decide))
      | (simp at h5; lia)
  cases hwl with
  | cons w1 w2 =>
    cases w2
    cases w1 with
    | list ho hall => exact ⟨_, _, ns, rfl, rfl, ho, ZbW ns _ hall, hlen⟩
theorem post_true (l : OpenLaw) (args : List WData) : l.row.toRowW.claim.post args (.bool true) args = true :=
 postW_of (r := l.row.toRowW) (X := (true == true))
  (show WShape.has [] (.bool true) .bool = true by first | rfl | decide | simp [WShape.has, WShape.arms, WShape.armsAll])
  (show (WTm.eq .res (.lit (.bool true))).value [] { args := args, res := some (.bool true), after := args } = some (.bool (true == true)) from w_eq_bool (w_res rfl) w_lit) rfl
theorem attach_call {l : OpenLaw} {n : Nat} {q : Program} {loose : List Str} {XP : (Str -> Option Value) -> Heap -> Prop} {YP : World -> Heap -> Prop} {d : DefRec}
  (hn : l.most = some n) (hdf : d.params.defaults = [])
  (call : ∀ (w : World) (s₀ s₁ : Shared) (mg mb : Str -> Option Value) (fa : Addr) (o : Obj) (pm cd doc : Value) (a : Addr) (vs : List Value) (ns : List Int),
   Ground q loose [] XP w s₀ mg mb s₁.heap -> YP w s₁.heap ->
   s₁.heap.get? fa = some o -> o.data = .func (docDef d.name d.params d.body d.scope pm cd doc) -> s₁.heap.CodeRec cd d.name -> mg d.name = some (.ref fa) ->
   s₁.heap.get? a = some { cls := .type "list", data := .seq vs.toArray } -> IntsAre vs ns -> ns.length <= n -> s₁.gens = #[] ->
   codeAny (model l.prog w) callerA (.call (.ref fa) ⟨[.ref a], []⟩) (fun r s' => r = .ok (.ret (.bool true)) /\ OldK s₁.heap s'.heap /\ s'.os = s₁.os /\ AllBare s'.gens) s₁) :
  WalkO q loose XP YP l.row.toRowW d [] (fun f vs => PySem.call f vs) := by
 intro w s₀ s₁ mg mb G Y fa o pm cd doc dV kV ho hd hcd hD hmg hg args vals as hpre hlay hrd hwl hlo
 obtain rfl : dV = .none := Dflts.none hD hdf
 obtain rfl : kV = .none := Dflts.noKw hD
 obtain ⟨a, vs, ns, rfl, rfl, hobj, hints, hlen⟩ := script_of hn hpre hwl
 refine enter_call (codeAny_mono (call w s₀ s₁ mg mb fa o pm cd doc a vs ns G Y ho (fd_plain hd) hcd hmg hobj hints hlen hg) fun r s' hq => ?_)
 obtain ⟨rfl, h2, h3, h4⟩ := hq
 exact ⟨.inl ⟨.bool true, .bool true, [], rfl, fun _ => rfl, .bool true, post_true l _, fun _ => ⟨List.Pairwise.nil, fun _ hm => (nomatch hm)⟩⟩, h2, h3, h4⟩
end Att
namespace L2
open PySem PySem.Spec PyProof.Rows
theorem vals_ints : ∀ {vs : List Value} {ns : List Int}, IntsAre vs ns -> Vals (ns.map V.int) vs
 | _, _, .nil => .nil
 | _, _, .cons n t h => .cons ⟨t, rfl⟩ (vals_ints h)
noncomputable def Only (H : Hp) : Prop := ∀ b, H b = none \/ ∃ o xs, H b = some (.frz o (.lst xs))
theorem law_call {P : Program} {w : World} {K : W.Frag} {mg mb : Str -> Option Value} {CX : CXT} {k : Nat} {fa a : Addr} {fd : FuncData} {x : Str} {sp : Sp} {s₁ : Shared} {vs : List Value} {ns : List Int}
  (KX : K.In s₁.heap) (hns : s₁.heap.Ns mainGlobals mg) (hb : s₁.heap.Ns builtinsNs mb) (hbb : ∀ x : Str, x ≠ "__name__" -> mb x = bootBuiltins x) (hlim : s₁.heap.NoLimit) (hg : s₁.gens = #[])
  (ha : s₁.heap.get? a = some { cls := .type "list", data := .seq vs.toArray }) (hi : IntsAre vs ns) (hl : ns.length <= sizeLine) (hr : Room k callerA)
  (F : ∀ base : Heap, K.In base -> base.Ns mainGlobals mg -> FnOk P w K mg base CX k fa fd [x] sp) (hbind : ∀ (s : Shared) (u : Value), BindsTo s fd ⟨[u], []⟩ [(x, u)])
  (hsp : ∀ H : Hp, Only H -> SqL K H a (ns.map V.int) -> sp [.ref a] H (fun v _ => v = .bl true) fun _ _ _ => False)
  (hCX : ∀ H e s', CX [] H s₁ (fun _ _ _ => False) e s' -> False) :
  codeAny (model P w) callerA (.call (.ref fa) ⟨[.ref a], []⟩) (fun r s' => r = .ok (.ret (.bool true)) /\ OldK s₁.heap s'.heap /\ s'.os = s₁.os /\ AllBare s'.gens) s₁ := by
 have rv := vals_ints hi
 have lenV := hi.length
 have core : ∀ H : Hp, Only H -> SqL K H a (ns.map V.int) -> HOk P w H s₁.heap -> (∀ b, H b ≠ none -> b = a) -> (H a ≠ none -> K.lookup a = none) ->
   codeAny (model P w) callerA (.call (.ref fa) ⟨[.ref a], []⟩) (fun r s' => r = .ok (.ret (.bool true)) /\ OldK s₁.heap s'.heap /\ s'.os = s₁.os /\ AllBare s'.gens) s₁ := by
  intro H hO hS hok hA hK
  have base_of : ∀ {b : Addr} {o : Obj}, s₁.heap.get? b = some o -> H b = none -> (hidT s₁.heap H).get? b = some o := fun e n => hidT_get e n
  have noA : ∀ {b : Addr} {o : Obj} {es : Array DictEntry} {ep : Nat}, s₁.heap.get? b = some o -> o.data = .dict es ep -> H b = none := fun {b o es ep} e d => by
   cases q : H b with
   | none => rfl
   | some u =>
    have e' : b = a := hA b (by rw [q]; simp)
    subst e'
    rw [ha] at e; cases e
    have d' : Data.seq vs.toArray _ = Data.dict es ep := d
    cases d'
  have nsK : ∀ {b : Addr} {m : Str -> Option Value}, s₁.heap.Ns b m -> (hidT s₁.heap H).Ns b m := fun {b m} ⟨o, es, ep, e, d, r⟩ => ⟨o, es, ep, base_of e (noA e d), d, r⟩
  have hKb : K.In (hidT s₁.heap H) := fun b o e => base_of (KX b o e) (by
   cases q : H b with
   | none => rfl
   | some u =>
    have e' : b = a := hA b (by rw [q]; simp)
    subst e'
    rw [hK (by rw [q]; simp)] at e; cases e)
  have hM : Mod K mg (hidT s₁.heap H) := ⟨hKb, nsK hns, ⟨mb, nsK hb, hbb⟩, let ⟨mc, h1, h2⟩ := hlim; ⟨mc, nsK h1, h2⟩⟩
  have e0 : Env0 P w K mg (hidT s₁.heap H) callerA [] s₁ H := ⟨rfl, hM, fun b o e => of_hidT e, Nat.le_of_eq (hidT_size _ _), trivial, fun b hb => absurd (show b ∈ ([] : List Addr) from hb) (by simp), hok, .of_eq hg⟩
  refine codeAny_mono ((F _ hKb (nsK hns)).run callerA [] s₁ H ⟨[.ref a], []⟩ [.ref a] [.ref a] _ _ hr e0 (hbind s₁ (.ref a)) (.cons rfl .nil) (hsp H hO hS)) fun r s' h => ?_
  cases r with
  | error e => exact (hCX H e s' h).elim
  | ok fl =>
   cases fl with
   | next => exact False.elim h
   | brk => exact False.elim h
   | cont => exact False.elim h
   | ret u =>
    obtain ⟨v, H', os, bare, un, hok', r', q⟩ := h
    have q' : v = .bl true := q
    subst q'
    obtain rfl : u = Value.bool true := r'
    refine ⟨rfl, OldK.of_keep fun b o e => ?_, os, bare⟩
    cases q : H b with
    | none => exact un.keep b o e q (by intro z; exact absurd (show b ∈ ([] : List Addr) from z) (by simp)) (by simp)
    | some u =>
     rcases hO b with z | ⟨ob, xs, z⟩
     ·rw [q] at z; cases z
     ·have z2 := un.frzs b ob _ z
      obtain ⟨e1, _⟩ := hok b _ z
      obtain ⟨e2, _⟩ := hok' b _ z2
      rw [e] at e1; cases e1
      exact e2
 cases hk : K.lookup a with
 | some o =>
  have e := KX a o hk
  rw [ha] at e
  cases e
  refine core (fun _ => none) (fun _ => .inl rfl) (.inr ⟨_, vs.toArray, _, hk, rfl, rfl, rfl, by rw [List.size_toArray, lenV]; exact hl, by simpa using rv⟩) (fun b u z => by have z' : (none : Option HO) = some u := z; cases z') (fun b z => absurd rfl z) fun z => absurd rfl z
 | none =>
  refine core (fun b => if b = a then some (.frz { cls := .type "list", data := .seq vs.toArray } (.lst (ns.map V.int))) else none) (fun b => ?_) (.inl (.inr ⟨{ cls := .type "list", data := .seq vs.toArray }, if_pos rfl⟩)) (fun b u z => ?_) (fun b z => ?_) fun _ => hk
  ·by_cases hb : b = a
   ·exact .inr ⟨_, _, if_pos hb⟩
   ·exact .inl (if_neg hb)
  ·by_cases hb : b = a
   ·have z' := (if_pos hb).symm.trans z
    cases z'
    subst hb
    exact ⟨ha, by rw [List.length_map]; exact hl, vs, _, rv, ha⟩
   ·have z' := (if_neg hb).symm.trans z
    cases z'
  ·by_cases hb : b = a
   ·exact hb
   ·exact absurd (if_neg hb) z
noncomputable def defArgs (s : Stmt) : Arguments := match s with
 | .FunctionDef _ a _ _ _ _ _ _ _ _ => a
 | _ => { posonlyargs := [], args := [], vararg := none, kwonlyargs := [], kw_defaults := [], kwarg := none, defaults := [] }
noncomputable def defBody (s : Stmt) : List Stmt := match s with
 | .FunctionDef _ _ b _ _ _ _ _ _ _ => b
 | _ => []
noncomputable def defScope (s : Stmt) : Scope := match s with
 | .FunctionDef _ _ _ _ _ _ sc _ _ _ => sc
 | _ => { kind := .function, names := [], isGenerator := false, isCoroutine := false }
noncomputable abbrev CX0 : CXT := fun _ _ _ _ _ _ => False
noncomputable abbrev E0 : XK := fun _ _ _ => False
theorem pass0 {X : Cx} : Passes CX0 X E0 := fun _ _ _ _ _ _ _ h => h.elim
structure Fun (K : W.Frag) (x qual : Str) (st : Stmt) (f : Addr) (fd : FuncData) : Prop where
 ex : ∃ (oc : Value) (od : Option Addr) (kV doc pm : Value) (an : Option Addr) (cdv ct : Value) (osl : Array (Option Value)),
  fd = W.fnOf x qual (defArgs st) (defBody st) (defScope st) .none kV doc pm an cdv ct /\ K.lookup f = some ⟨oc, od, .func fd, osl⟩ /\ W.codeIn K cdv qual = true
 kp : W.keepIn K (.ref f) = true
section
variable {P : Program} {w : World} {K : W.Frag} {mg : Str -> Option Value} {base : Heap}
theorem Fun.ok {x qual : Str} {st : Stmt} {f : Addr} {fd : FuncData} {N ps : List Str} {k : Nat} {sp : Sp} (F : Fun K x qual st f fd) (S : FnScope N ps (defScope st)) (len : ∀ vs H Q E, sp vs H Q E -> vs.length = ps.length)
  (hbody : ∀ (cdv : Value) (A : Around) (outer : List Env) (s : Shared) (H : Hp) (vs : List V) (Q : VK) (E : XK), Room k (A.deeper (envOfC qual (defScope st) s.heap.objs.size f cdv)) -> sp vs H Q E ->
   ∃ t, PSs (cxOf CX0 P w K mg base N qual (defScope st) f cdv A outer s H E).nox (defBody st) t /\ t { nx := fun _ H' => Q .non H', rt := Q } (start N vs) H) : FnOk P w K mg base CX0 (k + 1) f fd ps sp := by
 obtain ⟨oc, od, kV, doc, pm, an, cdv, ct, osl, rfl, lk, hcd⟩ := F.ex
 refine fn_of lk hcd S len fun A outer s H vs Q E hr hsp => ?_
 obtain ⟨t, h, q⟩ := hbody cdv A outer s H vs Q E hr hsp
 exact ⟨t, h.nox, q⟩
theorem Fun.binds {x qual : Str} {st : Stmt} {f : Addr} {fd : FuncData} {ps : List Str} (F : Fun K x qual st f fd)
  (h : ∀ (kV doc pm : Value) (an : Option Addr) (cdv ct : Value) (us : List Value), us.length = ps.length -> bindArgs (W.fnOf x qual (defArgs st) (defBody st) (defScope st) .none kV doc pm an cdv ct) ⟨us, []⟩ = pure (ps.zip us)) : Binds K fd ps [] := by
 obtain ⟨oc, od, kV, doc, pm, an, cdv, ct, osl, rfl, lk, hcd⟩ := F.ex
 exact .all (h kV doc pm an cdv ct)
theorem fun_mk {x qual : Str} {st : Stmt} {f : Addr} {oc : Value} {od an : Option Addr} {osl : Array (Option Value)} {kV doc pm cdv ct : Value} (l : K.lookup f = some ⟨oc, od, .func (W.fnOf x qual (defArgs st) (defBody st) (defScope st) .none kV doc pm an cdv ct), osl⟩)
  (c : W.codeIn K cdv qual = true) (k : W.keepIn K (.ref f) = true) : Fun K x qual st f (W.fnOf x qual (defArgs st) (defBody st) (defScope st) .none kV doc pm an cdv ct) := ⟨⟨oc, od, kV, doc, pm, an, cdv, ct, osl, rfl, l, c⟩, k⟩
end
theorem Zaz {A : Around} {k : Nat} (hr : Room k A) : A.units + 1 < cLine := Nat.lt_of_le_of_lt (Nat.add_le_add_left (by decide : 1 <= 64) _) hr.units
end L2
set_option maxHeartbeats 4000000
namespace L2
open PySem PySem.Spec PyProof.Rows
section
variable {κ : Type} [DecidableEq κ]
noncomputable def valV (kvs : List (κ × V)) (k : κ) : Option V := (kvs.find? fun kv => decide (kv.1 = k)).map (·.2)
theorem valV_pos {p : κ × V} {r : List (κ × V)} {k : κ} (e : p.1 = k) : valV (p :: r) k = some p.2 := by simp [valV, List.find?_cons, e]
theorem valV_neg {p : κ × V} {r : List (κ × V)} {k : κ} (e : ¬ p.1 = k) : valV (p :: r) k = valV r k := by simp [valV, List.find?_cons, e]
theorem KV.val {kvs : List (κ × V)} {vs : List (κ × Value)} (r : KV kvs vs) (k : κ) : RelO (valV kvs k) (valueAt vs k) := by
 unfold KV at r
 induction r with
 | nil => exact True.intro
 | @cons p q ps qs h t ih =>
  obtain ⟨h1, h2⟩ := h
  by_cases e : p.1 = k
  ·have e' : q.1 = k := h1.symm.trans e
   have b : valueAt (q :: qs) k = some q.2 := by simp [valueAt, List.find?_cons, e']
   rw [valV_pos e, b]; exact h2
  ·have e' : ¬ q.1 = k := fun z => e (h1.trans z)
   have b : valueAt (q :: qs) k = valueAt qs k := by simp [valueAt, List.find?_cons, e']
   rw [valV_neg e, b]; exact ih
end
theorem kV_is {P : Program} {w : World} {k : Key} {u : Value} (r : RelV (kV k) u) : (mixKind P w).is k u = true := by
 cases k with
 | inl i => obtain ⟨t, e⟩ := (show ∃ t, u = Value.int i t from r); subst e; exact mixKind_int P w i t
 | inr x => obtain ⟨t, e⟩ := (show ∃ t, u = Value.str x t from r); subst e; exact mixKind_str P w x t
theorem items_are {P : Program} {w : World} : ∀ {ks : List Key} {us : List Value}, Vals (ks.map kV) us -> ItemsAre (mixKind P w) ks us
 | [], _, r => by rw [List.map_nil] at r; cases r; exact .nil
 | k :: ks, _, r => by
  rw [List.map_cons] at r
  cases r with
  | cons h t => exact .cons (kV_is h) (items_are t)
noncomputable abbrev KT (H : Hp) : List (List Key × V) -> List (List Key × Addr × Value) -> Prop := Paired fun p q => p.1 = q.1 /\ H q.2.1 = some (.tup (p.1.map kV)) /\ RelV p.2 q.2.2
theorem KT.val {H : Hp} {kvs : List (List Key × V)} {xs : List (List Key × Addr × Value)} (r : KT H kvs xs) (k : List Key) : RelO (valV kvs k) ((atKey xs k).map (·.2)) := by
 induction r with
 | nil => exact True.intro
 | @cons p q ps qs h t ih =>
  obtain ⟨h1, _, h2⟩ := h
  by_cases e : p.1 = k
  ·have e' : q.1 = k := h1.symm.trans e
   have b : atKey (q :: qs) k = some q.2 := by simp [atKey, List.find?_cons, e']
   rw [valV_pos e, b]; exact h2
  ·have e' : ¬ q.1 = k := fun z => e (h1.trans z)
   have b : atKey (q :: qs) k = atKey qs k := by simp [atKey, List.find?_cons, e']
   rw [valV_neg e, b]; exact ih
section
variable {P : Program} {w : World} {H : Hp} {h : Heap} {a : Addr}
theorem rd_of {u : HO} (ok : HOk P w H h) (e : Rd H a u) : ObjOk P w H h a u := e.ok ok
theorem dk_rd {kvs : List (Key × V)} (ok : HOk P w H h) (e : Rd H a (.dK kvs)) : kvs.length <= sizeLine /\ (a == sysModules) = false /\ ∃ vs, KV kvs vs /\ h.DictOf (mixKind P w) a vs :=
 show ObjOk P w H h a (.dK kvs) from rd_of ok e
theorem key_of {ks : List Key} (ok : HOk P w H h) (e : H a = some (.tup (ks.map kV))) : (tupleKind (mixKind P w)).is h ks a := by
 obtain ⟨_, its, r, o, h1, h2, n, h3⟩ := (show ObjOk P w H h a (.tup (ks.map kV)) from ok a _ e)
 exact ⟨o, its.toArray, n, h1, h2, h3, by simpa using items_are r⟩
theorem dt_rd {kvs : List (List Key × V)} (ok : HOk P w H h) (e : Rd H a (.dT kvs)) : kvs.length <= sizeLine /\ (a == sysModules) = false /\
  ∃ xs, KT H kvs xs /\ h.DictOfH (tupleKind (mixKind P w)) a xs := by
 obtain ⟨z, y, xs, r, o, es, ep, h1, h2, h3, h4, h5⟩ := (show ObjOk P w H h a (.dT kvs) from rd_of ok e)
 refine ⟨z, y, xs, r, o, es, ep, h1, h2, h3, h4, fun x hx => ?_, h5⟩
 have all : ∀ {l : List (List Key × V)} {m : List (List Key × Addr × Value)}, KT H l m -> ∀ x ∈ m, (tupleKind (mixKind P w)).is h x.1 x.2.1 := by
  intro l m q
  induction q with
  | nil => intro x hx; exact nomatch hx
  | @cons p q ps qs hq t ih =>
   intro x hx
   rcases List.mem_cons.mp hx with e | hx
   ·subst e
    exact key_of ok (by rw [← hq.1]; exact hq.2.1)
   ·exact ih x hx
 exact all r x hx
end
noncomputable def DGet (H : Hp) (a : Addr) (y : V) (r : Option V) : Prop :=
 (∃ kvs k, Rd H a (.dK kvs) /\ y = kV k /\ r = valV kvs k) \/ ∃ kvs k b, Rd H a (.dT kvs) /\ y = .ref b /\ H b = some (.tup (k.map kV)) /\ r = valV kvs k
theorem DGet.k {H : Hp} {a : Addr} {kvs : List (Key × V)} {k : Key} (e : H a = some (.dK kvs)) : DGet H a (kV k) (valV kvs k) := .inl ⟨kvs, k, .inl e, rfl, rfl⟩
section
variable {X : Cx} {pins : List (Addr × Obj)} {σ : St} {H : Hp} {s : Shared} {a : Addr} {y v : V} {u r : Value} {o : Option V} {A : Around} {E : Value -> Shared -> Prop}
theorem d_getItem {Q : Value -> Shared -> Prop} (hu : A.units + 1 < cLine) (I : Inv X pins σ H s) (g : DGet H a y (some v)) (ry : RelV y u) (h : ∀ w' s', Inv X pins σ H s' -> RelV v w' -> Q w' s') :
  wpAny (model X.prog X.w) A (getItem (.ref a) u) Q E s := by
 rcases g with ⟨kvs, k, e, ey, l⟩ | ⟨kvs, k, b, e, ey, eb, l⟩
 ·subst ey
  obtain ⟨z, hd, vs, rel, dd⟩ := dk_rd I.hok e
  obtain ⟨w', hw, rw'⟩ := RelO.some_of (v := v) (o := valueAt vs k) (by rw [l]; exact rel.val k)
  exact wpAny_getItem_of (kV_is ry) dd.mapOf hw (h w' _ (I.tok _) rw')
 ·subst ey
  cases (show u = Value.ref b from ry)
  obtain ⟨z, hd, xs, rel, dd⟩ := dt_rd I.hok e
  obtain ⟨w', hw, rw'⟩ := RelO.some_of (v := v) (o := (atKey xs k).map (·.2)) (by rw [l]; exact rel.val k)
  obtain ⟨p, hp, hp2⟩ := Option.map_eq_some_iff.mp hw
  refine wpAny_getItem_heap (tupleKind_room_in1 hu) (key_of I.hok eb) dd hp ?_
  rw [hp2]
  exact h w' _ (I.tok _) rw'
end
theorem dict_typeIs {X : Cx} {pins : List (Addr × Obj)} {σ : St} {H : Hp} {s : Shared} {a : Addr} {y : V} {o : Option V} (I : Inv X pins σ H s) (g : DGet H a y o) : s.TypeIs (.ref a) "dict" := by
 rcases g with ⟨kvs, k, e, _, _⟩ | ⟨kvs, k, b, e, _, _, _⟩
 ·obtain ⟨_, _, vs, _, dd⟩ := dk_rd I.hok e
  exact dd.typeIs
 ·obtain ⟨_, _, xs, _, dd⟩ := dt_rd I.hok e
  exact dd.typeIs
noncomputable def clFrom (cells : List (Str × Addr)) : List (Str × NameKind) -> List (Str × Addr) -> List (Str × Addr)
  | [], cs => cs
  | (n, k) :: r, cs => clFrom cells r (if k = .free then (n, (cells.lookup n).getD 0) :: cs else cs)
theorem Zb4 {cells : List (Str × Addr)} : ∀ {names : List (Str × NameKind)} {cs : List (Str × Addr)}, (∀ y ∈ names, y.2 = .free -> ∃ c, cells.lookup y.1 = some c) -> (∀ x c, cs.lookup x = some c -> cells.lookup x = some c) ->
    ∀ x c, (clFrom cells names cs).lookup x = some c -> cells.lookup x = some c
  | [], _, _, h, x, c, e => h x c e
  | (n, k) :: r, cs, hn, h, x, c, e => by
    unfold clFrom at e
    refine Zb4 (fun y hy => hn y (List.mem_cons_of_mem _ hy)) (fun y d q => ?_) x c e
    by_cases hk : k = .free
    · rw [if_pos hk] at q
      obtain ⟨c', hc'⟩ := hn (n, k) List.mem_cons_self hk
      rw [List.lookup_cons] at q
      by_cases hy : y == n
      · rw [hy] at q
        have : y = n := by simpa using hy
        subst this
        rw [show cells.lookup y = some c' from hc'] at q ⊢
        simpa using q
      · have hy' : (y == n) = false := by simpa using hy
        rw [hy'] at q
        exact h y d q
    · rw [if_neg hk] at q
      exact h y d q
theorem ZbC {cells : List (Str × Addr)} {x : Str} : ∀ {names : List (Str × NameKind)} {cs : List (Str × Addr)}, (∃ c, cs.lookup x = some c) -> ∃ c, (clFrom cells names cs).lookup x = some c
  | [], _, h => h
  | (n, k) :: r, cs, h => by
    unfold clFrom
    refine ZbC ?_
    by_cases hk : k = .free
    · rw [if_pos hk, List.lookup_cons]
      by_cases hy : x == n
      · rw [hy]; exact ⟨_, rfl⟩
      · have hy' : (x == n) = false := by simpa using hy
        rw [hy']; exact h
    · rw [if_neg hk]; exact h
theorem Zbw {cells : List (Str × Addr)} {x : Str} : ∀ {names : List (Str × NameKind)} {cs : List (Str × Addr)}, (x, NameKind.free) ∈ names -> ∃ c, (clFrom cells names cs).lookup x = some c
  | [], _, h => nomatch h
  | (n, k) :: r, cs, h => by
    unfold clFrom
    rcases List.mem_cons.mp h with e | h
    · cases e
      refine ZbC ?_
      rw [if_pos rfl, List.lookup_cons]
      simp
    · exact Zbw h
theorem Zco {env : Env} {scope : Scope} (h : ∀ y ∈ scope.names, y.2 = .free -> ∃ c, env.cells.lookup y.1 = some c) : closureFor scope env = pure (clFrom env.cells scope.names []) := by
 simp only [closureFor]
 have key : ∀ (names : List (Str × NameKind)) (cs : List (Str × Addr)), (∀ y ∈ names, y.2 = .free -> ∃ c, env.cells.lookup y.1 = some c) ->
   (forIn names cs fun x r => if (x.2 == NameKind.free) = true then do let a ← cellOf env x.1; pure (ForInStep.yield ((x.1, a) :: r)) else pure (ForInStep.yield r) : Sem (List (Str × Addr))) = pure (clFrom env.cells names cs) := by
  intro names
  induction names with
  | nil => intro cs _; rfl
  | cons y r ih =>
   intro cs hn
   obtain ⟨n, k⟩ := y
   rw [List.forIn_cons]
   by_cases hk : k = .free
   ·obtain ⟨c, hc⟩ := hn (n, k) List.mem_cons_self hk
    have hc' : env.cells.lookup n = some c := hc
    subst hk
    have e1 : cellOf env n = pure c := by unfold cellOf; rw [hc']
    show (_ >>= _) = _
    simp only [beq_self_eq_true, if_true, e1]
    unfold clFrom
    rw [if_pos rfl, hc']
    exact ih _ fun y hy => hn y (List.mem_cons_of_mem _ hy)
   ·have e2 : (k == NameKind.free) = false := by simpa using hk
    show (_ >>= _) = _
    simp only [e2, Bool.false_eq_true, if_false]
    unfold clFrom
    rw [if_neg hk]
    exact ih _ fun y hy => hn y (List.mem_cons_of_mem _ hy)
 rw [key scope.names [] h]
 rfl
section
variable {prog : Program} {w : World} {A : Around} {R : Result -> Shared -> Prop} {s : Shared}
abbrev Out (prog : Program) (w : World) (A : Around) (env : Env) (R : Result → Shared → Prop) : Value → Shared → Prop := notedBy (model prog w) A env fun e s' => R (.error e) s'
abbrev testsOf (env : Env) (ifs : List Expr) : Sem Bool := forIn ifs true fun c r => if r = true then do let ok ← isTrue c env (eval c env); pure (ForInStep.yield ok) else pure (ForInStep.yield r)
theorem compLoop_any {elt target iter : Expr} {ifs : List Expr} {scope : Scope} {pos : Pos} {it acc : Value} {env : Env} (I : Nat → Shared → Prop)
    (turn : ∀ k z, I k z → wpAny (model prog w) A (pyNext it) (fun r z1 => match r with
      | none => R (.ok .next) z1
      | some v => wpAny (model prog w) A (letOwnedTupleGo target it v) (fun _ z2 => wpAny (model prog w) A (assign target env v) (fun _ z3 => wpAny (model prog w) A (testsOf env ifs) (fun yes z4 =>
          if yes = true then wpAny (model prog w) A (eval elt env) (fun x z5 => wpAny (model prog w) A (call (.builtin "list.append") [acc, x]) (fun _ z6 => ∃ m, m < k ∧ I m z6) (Out prog w A env R) z5) (Out prog w A env R) z4
          else ∃ m, m < k ∧ I m z4) (Out prog w A env R) z3) (Out prog w A env R) z2) (Out prog w A env R) z1) (Out prog w A env R) z)
    (n : Nat) (h : I n s) : codeAny (model prog w) A (.compLoop (.ListComp elt [⟨target, iter, ifs, 0⟩] scope pos) 0 it acc env) R s := by
  refine codeAny_loop rfl I ?_ n h
  intro k z hz
  refine wpAny_noted ?_
  rw [compTurn_list]
  apply wpAny_bind
  apply wpAny_standAt
  apply wpAny_bind
  refine wpAny_mono (turn k z hz) ?_ fun _ _ e => e
  rintro (_ | v) z1 y1
  · exact wpAny_pure y1
  apply wpAny_bind
  refine wpAny_mono y1 (fun _ z2 y2 => ?_) fun _ _ e => e
  apply wpAny_bind
  refine wpAny_mono y2 (fun _ z3 y3 => ?_) fun _ _ e => e
  apply wpAny_bind
  refine wpAny_mono y3 (fun yes z4 y4 => ?_) fun _ _ e => e
  by_cases b : yes = true
  · subst b
    apply wpAny_bind
    apply wpAny_bind
    refine wpAny_mono y4 (fun x z5 y5 => ?_) fun _ _ e => e
    apply wpAny_bind
    exact wpAny_mono y5 (fun _ z6 y6 => wpAny_pure (wpAny_pure ⟨rfl, y6⟩)) fun _ _ e => e
  · have nb : yes = false := by simpa using b
    subst nb
    exact wpAny_pure ⟨rfl, y4⟩
end
noncomputable def CompCx (X : Cx) (N' : List Str) (scope : Scope) (C : Addr) (s₀ : Shared) (H₀ : Hp) (ex : List Addr) (pn : List (Addr × Obj)) : Cx :=
 { X with N := N', s₀ := s₀, H₀ := H₀, env := compEnvC scope (clFrom X.env.cells scope.names []) C X.env, outer := X.stack, ex := ex, fn := fun _ => false, pn := pn, xe := fun _ _ => False }
structure CSc (X : Cx) (scope : Scope) (vs fs : List Str) (fr : List Nat) : Prop where
 kind : scope.kind = .function
 cell : (scope.names.all fun y => y.2 != .cell) = true
 free : (scope.names.all fun y => y.2 != .free || (X.env.kindOf y.1 == some .cell || X.env.kindOf y.1 == some .free)) = true
 loc : (scope.names.all fun y => y.2 != .local || scope.names.lookup y.1 == some .local) = true
 fre : (scope.names.all fun y => y.2 != .free || scope.names.lookup y.1 == some .free) = true
 fsf : (fs.all fun x => scope.names.lookup x == some .free) = true
 at' : fr.map (fun i => X.N[i]?) = fs.map some
noncomputable def PTs (X : Cx) (ifs : List Expr) (t : TT) : Prop :=
 ∀ (pins : List (Addr × Obj)) (s : Shared) (σ : St) (H : Hp) (Q : Bool -> Hp -> Prop), Inv X pins σ H s -> t σ H Q ->
  wpAny (model X.prog X.w) X.A (forIn ifs true fun c r => if r = true then do let ok ← isTrue c X.env (eval c X.env); pure (ForInStep.yield ok) else pure (ForInStep.yield r)) (TP X pins σ Q) X.xe s
noncomputable def tYes : TT := fun _ H Q => Q true H
theorem pts_nil {X : Cx} : PTs X [] tYes := fun _ _ _ H _ I h => wpAny_tests_nil ⟨H, I, h⟩
theorem pts_one {X : Cx} {c : Expr} {t : TT} (h : PT X c t) : PTs X [c] t := fun pins s σ H Q I q => wpAny_tests_one (h pins s σ H Q I q)
noncomputable def stIn (vs : List Str) (fr : List Nat) (σ : St) : St := vs.map (fun _ => none) ++ fr.map fun i => (σ[i]?).join
noncomputable def CompW (J : It) (vs : List Str) (fr : List Nat) (g : TG) (tt : TT) (te : TE) (σ : St) (H1 : Hp) (Q : VK) : Prop :=
 ∃ W : Nat -> Nat -> St -> List V -> Hp -> Prop, (∃ m, W 0 m (stIn vs fr σ) [] H1) /\ ∀ i m σ' ys H, W i m σ' ys H ->
  (J.stop i H /\ ys.length <= sizeLine /\ ∀ D, H D = none -> Q (.ref D) (upd H D (.lst ys))) \/
  (J.go i H /\ ys.length <= sizeLine /\ ∃ N : St -> List V -> Hp -> Prop, (∀ σ2 ys2 H2, N σ2 ys2 H2 -> ∃ m', m' < m /\ W (i + 1) m' σ2 ys2 H2) /\ ∀ x H', J.yld i H x H' -> g x σ' H' fun σ2 H2 => tt σ2 H2 fun b H3 =>
   if b = true then te σ2 H3 fun y H4 => N σ2 (ys ++ [y]) H4 else N σ2 ys H3)
noncomputable def tComp (wi : TI) (vs : List Str) (fr : List Nat) (g : TG) (tt : TT) (te : TE) : TE := fun σ H Q => wi σ H fun J H1 => CompW J vs fr g tt te σ H1 Q
section
variable {X : Cx} {tg elt iter : Expr} {ifs : List Expr} {scope : Scope} {pos : Pos} {vs fs : List Str} {fr : List Nat}
theorem mem_all {α : Type} {p : α -> Bool} {l : List α} (h : l.all p = true) {x : α} (hx : x ∈ l) : p x = true := List.all_eq_true.mp h x hx
theorem CSc.cell' (S : CSc X scope vs fs fr) : ∀ y ∈ scope.names, y.2 ≠ .cell := fun y hy e => by have := mem_all S.cell hy; rw [e] at this; simp at this
theorem CSc.free' (S : CSc X scope vs fs fr) : ∀ y ∈ scope.names, y.2 = .free -> X.env.kindOf y.1 = some .cell \/ X.env.kindOf y.1 = some .free := fun y hy e => by
 have := mem_all S.free hy; rw [e] at this; simpa using this
theorem CSc.loc' (S : CSc X scope vs fs fr) : ∀ y ∈ scope.names, y.2 = .local -> scope.names.lookup y.1 = some .local := fun y hy e => by
 have := mem_all S.loc hy; rw [e] at this; simpa using this
theorem ZaU {α β : Type} [BEq α] [LawfulBEq α] : ∀ {l : List (α × β)} {x : α} {k : β}, l.lookup x = some k -> (x, k) ∈ l
  | [], _, _, h => by simp at h
  | (n, k') :: r, x, k, h => by
    rw [List.lookup_cons] at h
    cases e : x == n with
    | true => rw [e] at h; cases h; rw [eq_of_beq e]; exact List.mem_cons_self
    | false => rw [e] at h; exact List.mem_cons_of_mem _ (ZaU h)
theorem Za8 {env : Env} {x : Str} : ∀ {names : List (Str × NameKind)} {k : NameKind},
    (names.map fun (n, k) => if (k == NameKind.free && env.scope.kind == .function && env.kindOf n == some .cell) then (n, NameKind.cell) else (n, k)).lookup x = some k ->
    names.lookup x = some k \/ (k = .cell /\ names.lookup x = some .free)
  | [], _, h => by simp at h
  | (n, k') :: r, k, h => by
    have ih := @Za8 env x r k
    have h' : List.lookup x ((if (k' == NameKind.free && env.scope.kind == .function && env.kindOf n == some .cell) = true then (n, NameKind.cell) else (n, k')) :: (r.map fun (n, k) => if (k == NameKind.free && env.scope.kind == .function && env.kindOf n == some .cell) then (n, NameKind.cell) else (n, k))) = some k := h
    cases hx : x == n with
    | true =>
      by_cases hc : (k' == NameKind.free && env.scope.kind == .function && env.kindOf n == some .cell) = true
      · rw [if_pos hc] at h'
        simp only [List.lookup_cons, hx] at h' ⊢
        cases h'
        have : k' = .free := by simp at hc; exact hc.1.1
        exact .inr ⟨rfl, by rw [this]⟩
      · rw [if_neg hc] at h'
        simp only [List.lookup_cons, hx] at h' ⊢
        exact .inl h'
    | false =>
      by_cases hc : (k' == NameKind.free && env.scope.kind == .function && env.kindOf n == some .cell) = true
      · rw [if_pos hc] at h'
        simp only [List.lookup_cons, hx] at h' ⊢
        exact ih h'
      · rw [if_neg hc] at h'
        simp only [List.lookup_cons, hx] at h' ⊢
        exact ih h'
theorem Zbz {env : Env} {x : Str} : ∀ {names : List (Str × NameKind)}, names.lookup x = some .free ->
    let l := (names.map fun (n, k) => if (k == NameKind.free && env.scope.kind == .function && env.kindOf n == some .cell) then (n, NameKind.cell) else (n, k)).lookup x
    l = some .cell \/ l = some .free
  | [], h => by simp at h
  | (n, k') :: r, h => by
    have ih := @Zbz env x r
    show List.lookup x ((if (k' == NameKind.free && env.scope.kind == .function && env.kindOf n == some .cell) = true then (n, NameKind.cell) else (n, k')) :: (r.map fun (n, k) => if (k == NameKind.free && env.scope.kind == .function && env.kindOf n == some .cell) then (n, NameKind.cell) else (n, k))) = some .cell \/
      List.lookup x ((if (k' == NameKind.free && env.scope.kind == .function && env.kindOf n == some .cell) = true then (n, NameKind.cell) else (n, k')) :: (r.map fun (n, k) => if (k == NameKind.free && env.scope.kind == .function && env.kindOf n == some .cell) then (n, NameKind.cell) else (n, k))) = some .free
    cases hx : x == n with
    | true =>
      simp only [List.lookup_cons, hx] at h
      have h : k' = .free := Option.some.inj h
      by_cases hc : (k' == NameKind.free && env.scope.kind == .function && env.kindOf n == some .cell) = true
      · rw [if_pos hc, List.lookup_cons, hx]; exact .inl rfl
      · rw [if_neg hc, List.lookup_cons, hx, h]; exact .inr rfl
    | false =>
      simp only [List.lookup_cons, hx] at h
      by_cases hc : (k' == NameKind.free && env.scope.kind == .function && env.kindOf n == some .cell) = true
      · rw [if_pos hc]; simp only [List.lookup_cons, hx]; exact ih h
      · rw [if_neg hc]; simp only [List.lookup_cons, hx]; exact ih h
end
section
variable {X : Cx} {tg elt iter : Expr} {ifs : List Expr} {scope : Scope} {pos : Pos} {vs fs : List Str} {fr : List Nat}
theorem CSc.clos (S : CSc X scope vs fs fr) (ok : X.Ok) : ∀ y ∈ scope.names, y.2 = .free -> ∃ c, X.env.cells.lookup y.1 = some c := fun y hy e => ok.has y.1 (S.free' y hy e)
theorem CSc.cl (S : CSc X scope vs fs fr) (ok : X.Ok) {x : Str} {c : Addr} (e : (clFrom X.env.cells scope.names []).lookup x = some c) : X.env.cells.lookup x = some c :=
 Zb4 (S.clos ok) (fun _ _ q => by simp at q) x c e
theorem ZaT {h : Heap} {b : Addr} {o : Obj} {n : Nat} (e : h.get? b = some o) (hn : h.objs.size <= n) : b ≠ n := Nat.ne_of_lt (Nat.lt_of_lt_of_le (Heap.lt_size e) hn)
theorem comp_start {pins : List (Addr × Obj)} {σ : St} {H : Hp} {s : Shared} {fp : List Addr} {C : Addr} {h1 : Heap} {tk : Nat} {m1 : Str -> Option Value} (S : CSc X scope vs fs fr) (I : Inv X pins σ H s)
  (hf : ∀ b ∈ fp, FpOk X pins H b) (hfo : ∀ b ∈ fp, ∃ o, s.heap.get? b = some o) (hC : s.heap.objs.size <= C) (hn : h1.Ns C m1) (old : ∀ b o, s.heap.get? b = some o -> h1.get? b = some o) :
  Inv (CompCx X (vs ++ fs) scope C s H fp (X.pn ++ pins)) [] (stIn vs fr σ) H { s with heap := h1, toks := tk } := by
 have cl := fun x c e => S.cl I.ok (x := x) (c := c) e
 have hsub := I.stkSub
 have cellLt : ∀ x c, X.env.cells.lookup x = some c -> c < s.heap.objs.size := fun x c e => by obtain ⟨v, q⟩ := I.cell x c e; exact q.lt
 refine ⟨⟨I.ok.mod, S.kind, I.ok.glob, I.ok.blt, hC, fun x y c e1 e2 => I.ok.inj x y c (cl x c e1) (cl y c e2), fun x hx => ?_, fun _ _ z _ => (nomatch z), I.ok.hd, I.ok.frames, .inl rfl, fun b hb => ?_, I.bs, Nat.le_trans I.ok.bsz I.sz, fun b o e hb => ?_, fun b hb z => ?_, I.stack, I.stkFree⟩,
  rfl, I.bare, Un.kept old, ⟨m1, hn, fun i x v e1 e2 e3 => ?_⟩, fun x c e => ?_, I.hok.fresh hC, fun x c e => I.freeC x c (cl x c e), fun p hp => ?_, I.hok.kept old, ?_⟩
 ·-- has
  have hx' : (relabel scope X.env).names.lookup x = some .cell \/ (relabel scope X.env).names.lookup x = some .free := hx
  have : scope.names.lookup x = some .free := by
   rcases hx' with q | q
   ·rcases Za8 q with q | ⟨_, q⟩
    ·exact absurd rfl (S.cell' _ (ZaU q))
    ·exact q
   ·rcases Za8 q with q | ⟨q, _⟩
    ·exact q
    ·cases q
  exact Zbw (ZaU this)
 ·-- exf
  obtain ⟨o, ho⟩ := hfo b hb
  obtain ⟨f0, f1, f2, f3, f4, f5⟩ := hf b hb
  exact ⟨ZaT ho hC, fun x c e => f4 x c (cl x c e)⟩
 ·-- noex
  have e' := (I.ok.bs b o e).1
  obtain ⟨_, _, _, f3, _, _⟩ := hf b hb
  rcases f3 with z | z
  ·exact I.ok.noex b o e z
  ·exact absurd (Nat.lt_of_lt_of_le (Heap.lt_size e') z) (Nat.lt_irrefl _)
 ·-- exfs
  obtain ⟨_, f1, f2, _⟩ := hf b hb
  rcases List.mem_cons.mp (hsub b z) with q | q
  ·exact f1 q
  ·exact f2 q
 ·-- loc
  have e1 : (vs ++ fs)[i]? = some x := e1
  unfold stIn at e2
  by_cases hi : i < vs.length
  ·rw [List.getElem?_append_left (by simpa using hi)] at e2
   simp [hi] at e2
  ·rw [List.getElem?_append_right (by simpa using hi), List.length_map, List.getElem?_map] at e2
   rw [List.getElem?_append_right (by simpa using hi)] at e1
   obtain ⟨j, hj⟩ : ∃ j, fr[i - vs.length]? = some j := by
    cases q : fr[i - vs.length]? with
    | none => rw [q] at e2; cases e2
    | some j => exact ⟨j, rfl⟩
   rw [hj] at e2
   have e2' : (σ[j]?).join = some v := Option.some.inj e2
   have hσ : σ[j]? = some (some v) := by
    cases q : σ[j]? with
    | none => rw [q] at e2'; cases e2'
    | some r => rw [q] at e2'; exact congrArg some e2'
   have hN : X.N[j]? = some x := by
    have := congrArg (fun l => l[i - vs.length]?) S.at'
    simp only [List.getElem?_map, hj, e1, Option.map_some] at this
    exact Option.some.inj this
   have hxf : scope.names.lookup x = some .free := by
    have := mem_all S.fsf (List.mem_of_getElem? e1)
    simpa using this
   have hk := S.free' _ (ZaU hxf) rfl
   obtain ⟨m, hm, hl⟩ := I.loc
   have hvis : Vis X.env.scope x := by
    rcases hk with k | k
    ·exact .inr (.inl k)
    ·exact .inr (.inr k)
   obtain ⟨u, ru, lk⟩ := hl j x v hN hσ hvis
   refine ⟨u, ru, ?_⟩
   rcases lk with ⟨k, _⟩ | ⟨_, c, hc, hv⟩
   ·have k' : X.env.kindOf x = some .local := k
    rcases hk with z | z
    ·have z' : X.env.kindOf x = some .cell := z
     rw [k'] at z'; cases z'
    ·have z' : X.env.kindOf x = some .free := z
     rw [k'] at z'; cases z'
   ·obtain ⟨c', hc'⟩ := Zbw (cells := X.env.cells) (cs := []) (ZaU hxf)
    have := cl x c' hc'
    rw [hc] at this
    cases this
    refine .inr ⟨Zbz hxf, c, hc', ?_⟩
    obtain ⟨o, ho, hd⟩ := hv
    exact ⟨o, old c o ho, hd⟩
 ·-- cell
  obtain ⟨v, o, ho, hd⟩ := I.cell x c (cl x c e)
  exact ⟨v, o, old c o ho, hd⟩
 ·-- pin
  have hp' : p ∈ X.pn ++ pins := by simpa [CompCx] using hp
  obtain ⟨e, n, ne, nf, d⟩ := I.pin p hp'
  refine ⟨old _ _ e, n, ZaT e hC, fun z => ?_, d⟩
  rcases List.mem_cons.mp (hsub _ z) with q | q
  ·exact ne q
  ·exact nf q
 ·show (stIn vs fr σ).length = (vs ++ fs).length
  have := congrArg List.length S.at'
  simp only [List.length_map] at this
  unfold stIn
  simp [this]
theorem comp_back {pins : List (Addr × Obj)} {σ σ' : St} {H H' : Hp} {s s' : Shared} {fp : List Addr} {C D : Addr} {ys : List V} {its : List Value} {n : Nat} {pl : List (Addr × Obj)} (I : Inv X pins σ H s)
  (hf : ∀ b ∈ fp, FpOk X pins H b) (J : Inv (CompCx X (vs ++ fs) scope C s H fp (X.pn ++ pins)) pl σ' H' s')
  (hD : s.heap.objs.size <= D) (hDn : H' D = none) (hl : ys.length <= sizeLine) (r : Vals ys its) (ho : s'.heap.get? D = some { cls := .type "list", data := .seq its.toArray n }) : Inv X pins σ (upd H' D (.lst ys)) s' := by
 have ne : ∀ b o, s.heap.get? b = some o -> b ≠ D := fun b o e => ZaT e hD
 have u : Un (frs X.stack) fp H H' s.heap s'.heap := J.base
 refine I.call' (ch := fp) J.os ⟨u.keep, u.slot, fun b o e q hx => ?_, u.there, fun b xs e => ?_, fun b o xs e => ?_, fun b ps e => ?_⟩ (fun b o e => ?_) J.bare fun b hb => ?_
 ·rw [Zam (ne b o e)]; exact u.free b o e q hx
 ·rw [Zam (Zak (u.tups b xs e) hDn)]; exact u.tups b xs e
 ·rw [Zam (Zak (u.frzs b o xs e) hDn)]; exact u.frzs b o xs e
 ·obtain ⟨more, q⟩ := u.tbls b ps e
  exact ⟨more, by rw [Zam (Zak q hDn)]; exact q⟩
 ·by_cases hb : b = D
  ·subst hb
   rw [ZaP] at e; cases e
   exact ⟨hl, its, n, r, ho⟩
  ·rw [Zam hb] at e
   exact (J.hok b o e).stay (fun _ _ _ q => q) (fun c q => by rw [Zam (Zak q hDn)]; exact q) fun c xs q => by rw [Zam (Zak q hDn)]; exact q
 ·obtain ⟨f0, f1, f2, f3, f4, f5⟩ := hf b hb
  exact ⟨f3, f1, f4, f5⟩
end
section
variable {X : Cx} {tg elt iter : Expr} {ifs : List Expr} {scope : Scope} {pos : Pos} {vs fs : List Str} {fr : List Nat} {g : TG} {tt : TT} {te : TE}
theorem no_xe {α : Type} {M : Model} {A : Around} {t : Sem α} {Q Q' : α -> Shared -> Prop} {E : Value -> Shared -> Prop} {s : Shared} (h : wpAny M A t Q (fun _ _ => False) s) (hQ : ∀ a s, Q a s -> Q' a s) : wpAny M A t Q' E s :=
 wpAny_mono h hQ fun _ _ f => False.elim f
theorem Zcn {pins : List (Addr × Obj)} {σ : St} {H : Hp} {s : Shared} {Q : VK} {it : Addr} {fp : List Addr} {tn : Nat -> Heap -> Prop} {J : It} {RR : Value -> Addr -> Result -> Shared -> Prop}
  (S : CSc X scope vs fs fr) (hc : X.calm = true)
  (bG : ∀ C s₀ H₀ ex pn, PG (CompCx X (vs ++ fs) scope C s₀ H₀ ex pn) tg g) (bT : ∀ C s₀ H₀ ex pn, PTs (CompCx X (vs ++ fs) scope C s₀ H₀ ex pn) ifs tt) (bE : ∀ C s₀ H₀ ex pn, PE (CompCx X (vs ++ fs) scope C s₀ H₀ ex pn) elt te)
  (I : Inv X pins σ H s) (T : Turn X.prog X.w X.K tg J fp it tn) (st : tn 0 s.heap) (hf : ∀ b ∈ fp, FpOk X pins H b)
  (q : CompW J vs fr g tt te σ H Q)
  (hRR : ∀ D C H' s' m', Inv X pins σ H' s' -> Q (.ref D) H' -> s'.heap.Ns C m' -> H' C = none -> s.heap.objs.size <= C -> RR (.ref D) C (.ok .next) s') :
  wpAny (model X.prog X.w) X.A (newList []) (fun acc s₃ => wpAny (model X.prog X.w) X.A (newFunctionEnv scope X.env.globals (clFrom X.env.cells scope.names []) [] X.env.qual none .none (some X.env)) (fun cenv s₄ =>
   codeAny (model X.prog X.w) X.A (.compStart (.ListComp elt [⟨tg, iter, ifs, 0⟩] scope pos) 0 (.ref it) acc { cenv with scope := relabel scope X.env }) (RR acc cenv.locals) s₄) X.xe s₃) X.xe s := by
 obtain ⟨W, ⟨m0, w0⟩, turn⟩ := q
 refine wpAny_newObj_type (wpAny_newFunctionEnv S.cell' (by intro y hy; simp at hy) (fun h₁ hns₁ hsb₁ => ?_) S.kind)
 dsimp only at hns₁ hsb₁ ⊢
 generalize hH2 : s.heap.push { cls := .type "list", dict := none, data := .seq ([] : List Value).toArray } = H2 at hns₁ hsb₁ ⊢
 have hCs : H2.objs.size = s.heap.objs.size + 1 := by rw [← hH2, Heap.size_push]
 have hDC : s.heap.objs.size ≠ H2.objs.size := by rw [hCs]; exact Nat.ne_of_lt (Nat.lt_succ_self _)
 have hCle : s.heap.objs.size <= H2.objs.size := by rw [hCs]; exact Nat.le_succ _
 have old : ∀ b o, s.heap.get? b = some o -> h₁.get? b = some o := fun b o e => hsb₁.extBut b o (ZaT e hCle) (Heap.get?_push_of_some _ (hH2 ▸ Heap.get?_push_of_some _ e))
 have hacc : h₁.get? s.heap.objs.size = some { cls := .type "list", data := .seq ([] : List Value).toArray 0 } := hsb₁.extBut _ _ hDC (Heap.get?_push_of_some _ (hH2 ▸ Heap.get?_push_size _ rfl))
 have hfo : ∀ b ∈ fp, ∃ o, s.heap.get? b = some o := fun b hb => by obtain ⟨o, e, _⟩ := T.obj 0 _ st b hb; exact ⟨o, e⟩
 generalize hY : CompCx X (vs ++ fs) scope H2.objs.size s H fp (X.pn ++ pins) = Y
 have J0 : Inv Y [] (stIn vs fr σ) H { s with heap := h₁, toks := s.toks + ([] : List (Str × Value)).length } := by
  rw [← hY]; exact comp_start S I hf hfo hCle hns₁ old
 have hG : PG Y tg g := by rw [← hY]; exact bG _ _ _ _ _
 have hT : PTs Y ifs tt := by rw [← hY]; exact bT _ _ _ _ _
 have hE : PE Y elt te := by rw [← hY]; exact bE _ _ _ _ _
 have ePr : Y.prog = X.prog := by rw [← hY]; rfl
 have eW : Y.w = X.w := by rw [← hY]; rfl
 have eK : Y.K = X.K := by rw [← hY]; rfl
 have eA : Y.A = X.A := by rw [← hY]; rfl
 have eC : Y.calm = true := by rw [← hY]; exact hc
 have eEnv : Y.env = compEnvC scope (clFrom X.env.cells scope.names []) H2.objs.size X.env := by rw [← hY]; rfl
 have eL : Y.env.locals = H2.objs.size := by rw [eEnv]; rfl
 have eX : Y.xe = fun _ _ => False := by rw [← hY]; rfl
 have eS : Y.s₀ = s := by rw [← hY]; rfl
 have eEx : Y.ex = fp := by rw [← hY]; rfl
 have eFs : Y.fs = frs X.stack := by rw [← hY]; rfl
 have ePn : Y.pn = X.pn ++ pins := by rw [← hY]; rfl
 have eCl : ∀ x c, Y.env.cells.lookup x = some c -> X.env.cells.lookup x = some c := fun x c e => by
  rw [eEnv] at e; exact S.cl I.ok e
 have cellLt : ∀ x c, Y.env.cells.lookup x = some c -> c ≠ s.heap.objs.size := fun x c e => by
  obtain ⟨v, z⟩ := I.cell x c (eCl x c e); exact Nat.ne_of_lt z.lt
 have pnLt : ∀ p ∈ Y.pn, p.1 ≠ s.heap.objs.size := fun p hp => by
  rw [ePn] at hp; exact ZaT (I.pin p hp).1 (Nat.le_refl _)
 have fpD : ∀ b ∈ fp, b ≠ s.heap.objs.size := fun b hb => by obtain ⟨o, e⟩ := hfo b hb; exact ZaT e (Nat.le_refl _)
 have hDfs : s.heap.objs.size ∉ Y.fs := fun z => by
  rw [eFs] at z
  rcases List.mem_cons.mp (I.stkSub _ z) with z | z
  ·exact absurd I.lt (by rw [← z]; exact Nat.lt_irrefl _)
  ·exact I.nofs (Nat.le_refl _) z
 have stat : ∀ {H' : Hp} {o : Obj}, (∀ b ∈ fp, H' b = none) -> ∀ b ∈ fp, FpOk Y [(s.heap.objs.size, o)] H' b := fun {H' o} hn b hb => by
  obtain ⟨f0, f1, f2, f3, f4, f5⟩ := hf b hb
  obtain ⟨ob, e⟩ := hfo b hb
  refine ⟨hn b hb, by rw [eL]; exact ZaT e hCle, fun z => ?_, .inl (by rw [eEx]; exact hb), fun x c e => f4 x c (eCl x c e), fun p hp => ?_⟩
  ·rw [eFs] at z
   rcases List.mem_cons.mp (I.stkSub _ z) with z | z
   ·exact f1 z
   ·exact f2 z
  ·rcases List.mem_append.mp hp with hp | hp
   ·rw [ePn] at hp; exact f5 p hp
   ·have : p = (s.heap.objs.size, o) := by simpa using hp
    rw [this]; exact Ne.symm (fpD b hb)
 have pinD : ∀ {σ' : St} {H' : Hp} {s' : Shared} {its : List Value} {k : Nat}, Inv Y [] σ' H' s' -> H' s.heap.objs.size = none -> s'.heap.get? s.heap.objs.size = some { cls := .type "list", data := .seq its.toArray k } ->
   Inv Y [(s.heap.objs.size, { cls := .type "list", data := .seq its.toArray k })] σ' H' s' := fun {σ' H' s' its k} i hn e => i.pins_of fun p hp => by
  have : p = (s.heap.objs.size, { cls := .type "list", data := .seq its.toArray k }) := by simpa using hp
  subst this
  exact ⟨e, hn, by rw [eL]; exact hDC, hDfs, fun v z => by cases z⟩
 have loop : ∀ s₃ : Shared, s₃ = { s with heap := h₁, toks := s.toks + ([] : List (Str × Value)).length } ->
   codeAny (model X.prog X.w) X.A (.compLoop (.ListComp elt [⟨tg, iter, ifs, 0⟩] scope pos) 0 (.ref it) (.ref s.heap.objs.size) (compEnvC scope (clFrom X.env.cells scope.names []) H2.objs.size X.env))
    (RR (.ref s.heap.objs.size) H2.objs.size) s₃ := by
  rintro s₃ rfl
  rw [← eEnv, ← ePr, ← eW, ← eA]
  refine compLoop_any (fun n s' => ∃ i σ' ys its k H', Inv Y [(s.heap.objs.size, { cls := .type "list", data := .seq its.toArray k })] σ' H' s' /\ Vals ys its /\ tn i s'.heap /\ (∀ b ∈ fp, H' b = none) /\ W i n σ' ys H') ?_ m0
   ⟨0, _, [], [], 0, H, pinD J0 (I.hok.fresh (Nat.le_refl _)) hacc, .nil, T.keep _ _ _ st fun b _ o e => old b o e, fun b hb => (hf b hb).1, w0⟩
  rintro n s3 ⟨i, σ3, ys, its, k, H3, J3, rv, st3, fr3, w3⟩
  have pD := J3.pin (s.heap.objs.size, _) (List.mem_append_right _ (List.mem_singleton.mpr rfl))
  have eI := rv.length
  rcases turn i n σ3 ys H3 w3 with ⟨stop, hlen, qn⟩ | ⟨go, hlen, N, hN, step⟩
  ·have dn := T.done Y ePr eW eK eC i _ s3 σ3 H3 (fun _ _ => False) J3 (stat fr3) st3 stop
   rw [← ePr, ← eW] at dn
   refine no_xe dn fun r s4 h_ => ?_
   obtain ⟨hr, J4⟩ := h_
   subst hr
   have pD4 := J4.pin (s.heap.objs.size, _) (List.mem_append_right _ (List.mem_singleton.mpr rfl))
   obtain ⟨m4, hm4, _⟩ := id J4.loc
   rw [eL] at hm4
   have nC : H3 H2.objs.size = none := by rw [← eL]; exact J4.free
   refine hRR _ _ _ s4 m4 (comp_back I hf (by rw [hY]; exact J4) (Nat.le_refl _) pD4.2.1 hlen rv pD4.1) (qn _ pD4.2.1) hm4 ?_ hCle
   rw [Zam (Ne.symm hDC)]; exact nC
  ·have im := T.item Y ePr eW eK eC i _ s3 σ3 H3 (fun _ _ => False) J3 (stat fr3) st3 go
   rw [← ePr, ← eW] at im
   refine no_xe im fun r s4 h_ => ?_
   obtain ⟨u, hr, h4⟩ := h_
   subst hr
   refine no_xe h4 fun _ s5 h_ => ?_
   obtain ⟨x, H5, J5, r5, y5, st5, fr5⟩ := h_
   have J5' := J5.pinned (stat fr5) (T.obj _ _ st5)
   have go1 := hG _ s5 σ3 H5 x u _ J5' r5 (step x H5 y5)
   rw [eX] at go1
   refine no_xe go1 fun _ s6 h_ => ?_
   obtain ⟨σ6, H6, J6, q6⟩ := h_
   have go2 := hT _ s6 σ6 H6 _ J6 q6
   rw [eX] at go2
   refine no_xe go2 fun ok s7 h_ => ?_
   obtain ⟨H7, J7, q7⟩ := h_
   have fin : ∀ {σ8 : St} {H8 : Hp} {s8 : Shared}, Inv Y ([(s.heap.objs.size, { cls := .type "list", data := .seq its.toArray k })] ++ pinsAt fp s5.heap) σ8 H8 s8 ->
     tn (i + 1) s8.heap /\ (∀ b ∈ fp, H8 b = none) := fun {σ8 H8 s8} J8 => by
    refine ⟨T.keep _ _ _ st5 fun b hb o e => (J8.pin (b, o) (List.mem_append_right _ (List.mem_append_right _ (Zbe hb e)))).1, fun b hb => ?_⟩
    obtain ⟨o, e, d⟩ := T.obj _ _ st5 b hb
    exact (J8.pin (b, o) (List.mem_append_right _ (List.mem_append_right _ (Zbe hb e)))).2.1
   cases ok with
   | false =>
    rw [if_neg Bool.false_ne_true] at q7 ⊢
    obtain ⟨m', hm, w7⟩ := hN _ _ _ q7
    exact ⟨m', hm, i + 1, σ6, ys, its, k, H7, J7.unpinned, rv, (fin J7).1, (fin J7).2, w7⟩
   | true =>
    rw [if_pos rfl] at q7 ⊢
    have go3 := hE _ s7 σ6 H7 _ J7 q7
    rw [eX] at go3
    refine no_xe go3 fun yv s8 h_ => ?_
    obtain ⟨y, H8, J8, r8, n8⟩ := h_
    obtain ⟨m', hm, w8⟩ := hN _ _ _ n8
    have pD8 := J8.pin (s.heap.objs.size, _) (List.mem_append_right _ (List.mem_append_left _ (List.mem_singleton.mpr rfl)))
    refine append_at (hsz := by rw [List.size_toArray, ← eI]; exact hlen) pD8.1 fun h9 hs9 hD9 => ?_
    have J9 : Inv Y [] σ6 H8 { s8 with heap := h9 } := (J8.pins_of (pins' := []) fun p hp => absurd hp (by simp)).turned (t' := s8.toks) (fun b o hb e => (hs9.2 b hb).trans e) pD8.2.1 (by rw [eL]; exact hDC)
     (.inr (by rw [eS]; exact Nat.le_refl _)) cellLt fun p hp => pnLt p (by simpa using hp)
    refine ⟨m', hm, i + 1, σ6, ys ++ [y], its ++ [yv], k + 1, H8, pinD J9 pD8.2.1 (by rw [hD9, List.push_toArray]), Vals.append rv (.cons r8 .nil), ?_, (fin J8).2, w8⟩
    exact T.keep _ _ _ (fin J8).1 fun b hb o e => (hs9.2 b (fpD b hb)).trans e
 exact codeAny_compStart_list (loop _ rfl) (T.self _ 0 _ _ _ (T.keep _ _ _ st fun b _ o e => old b o e) (loop _ rfl))
theorem pe_comp {wi : TI} (S : CSc X scope vs fs fr) (hc : X.calm = true) (hi : PI X tg iter wi)
  (bG : ∀ C s₀ H₀ ex pn, PG (CompCx X (vs ++ fs) scope C s₀ H₀ ex pn) tg g) (bT : ∀ C s₀ H₀ ex pn, PTs (CompCx X (vs ++ fs) scope C s₀ H₀ ex pn) ifs tt) (bE : ∀ C s₀ H₀ ex pn, PE (CompCx X (vs ++ fs) scope C s₀ H₀ ex pn) elt te)
  (hs : ∀ x, foldedSetIterable iter X.env x = pure x := by intro _; rfl) :
  PE X (.ListComp elt [⟨tg, iter, ifs, 0⟩] scope pos) (tComp wi vs fr g tt te) := by
 intro pins s σ H Q I h
 rw [eval_ListComp]
 refine wpAny_comprehension_free (use := none) rfl hs (Zco (S.clos I.ok)) S.kind S.loc' (thn (hi pins s σ H _ I h) fun v s1 h1 => thn h1 fun itv s2 h2 => ?_)
 obtain ⟨it, fp, tn, J, H2, e, I2, T, st2, f2, q2⟩ := h2
 subst e
 refine Zcn (RR := fun acc C => compPost (model X.prog X.w) X.A X.xe none (EP X pins σ Q) acc C) S hc bG bT bE I2 T st2 f2 q2 ?_
 intro D C H' s' m' I' hq hn hC hle
 refine ⟨m', hn, fun h' hs' => ⟨.ref D, H', ?_, rfl, hq⟩⟩
 refine I'.turned (t' := s'.toks) (fun b o hb e => (hs'.2 b hb).trans e) hC ?_ (.inr (Nat.le_trans I2.sz hle)) ?_ ?_
 ·exact Nat.ne_of_gt (Nat.lt_of_lt_of_le I2.lt hle)
 ·intro x c e
  obtain ⟨v, z⟩ := I2.cell x c e
  exact Nat.ne_of_lt (Nat.lt_of_lt_of_le z.lt hle)
 ·intro p hp
  exact ZaT (I2.pin p hp).1 hle
theorem ps_comp {wi : TI} {i : Nat} {x : Str} {px spos : Pos} (hN : X.N.Nodup) (hx : X.N[i]? = some x) (hl : X.env.scope.names.lookup x = some .local)
  (S : CSc X scope vs fs fr) (hc : X.calm = true) (hi : PI X tg iter wi)
  (bG : ∀ C s₀ H₀ ex pn, PG (CompCx X (vs ++ fs) scope C s₀ H₀ ex pn) tg g) (bT : ∀ C s₀ H₀ ex pn, PTs (CompCx X (vs ++ fs) scope C s₀ H₀ ex pn) ifs tt) (bE : ∀ C s₀ H₀ ex pn, PE (CompCx X (vs ++ fs) scope C s₀ H₀ ex pn) elt te)
  (hsw : swapsWith (.ListComp elt [⟨tg, iter, ifs, 0⟩] scope pos) (some (.Name x px)) spos.line X.env = pure true := by rfl)
  (hs : ∀ x, foldedSetIterable iter X.env x = pure x := by intro _; rfl) :
  PS X (.Assign [.Name x px] (.ListComp elt [⟨tg, iter, ifs, 0⟩] scope pos) spos) (fun D σ H => tComp wi vs fr g tt te σ H fun v H1 => D.nx (σ.set i (some v)) H1) := by
 intro pins s σ H D I h
 rw [exec_Assign_Name_used _ _ _ _ hsw]
 refine wpAny_bind (wpAny_standAt (wpAny_bind ?_))
 show wpAny _ X.A (do let _ ← comprehension (.ListComp elt [⟨tg, iter, ifs, 0⟩] scope pos) scope X.env _ (newList []) false (eval iter X.env) (some (assign (.Name x px) X.env))) _ _ s
 refine wpAny_bind (wpAny_mono (wpAny_comprehension_free (use := some (assign (.Name x px) X.env)) (Q := fun _ s' => SP X pins D .next s') rfl hs (Zco (S.clos I.ok)) S.kind S.loc'
  (thn (hi pins s σ H _ I h) fun v s1 h1 => thn h1 fun itv s2 h2 => ?_)) (fun _ s' hq => wpAny_pure (wpAny_pure hq)) fun _ _ e => e)
 obtain ⟨it, fp, tn, J, H2, e, I2, T, st2, f2, q2⟩ := h2
 subst e
 refine Zcn (RR := fun acc C => compPost (model X.prog X.w) X.A X.xe (some (assign (.Name x px) X.env)) (fun _ s' => SP X pins D .next s') acc C) (Q := fun v H1 => D.nx (σ.set i (some v)) H1) S hc bG bT bE I2 T st2 f2 q2 ?_
 intro Dd C H' s' m' I' hq hn hC hle
 show wpAny _ X.A (assign (.Name x px) X.env (.ref Dd)) _ _ _
 have hCL : C ≠ X.env.locals := Nat.ne_of_gt (Nat.lt_of_lt_of_le I2.lt hle)
 have hCc : ∀ x c, X.env.cells.lookup x = some c -> c ≠ C := fun x c e => by
  obtain ⟨v, z⟩ := I2.cell x c e
  exact Nat.ne_of_lt (Nat.lt_of_lt_of_le z.lt hle)
 refine wpAny_assign_Name (store_ok2 I' hN hx (.inl hl) (v := .ref Dd) rfl (fun s'' I'' hch => ?_) (.inr hl))
 obtain ⟨a, hs'', ha⟩ := hch
 have hCa : C ≠ a := by
  rcases ha with rfl | ha
  ·exact hCL
  ·exact Ne.symm (hCc x a ha)
 refine ⟨m', hn.sameBut hs'' hCa, fun h' hs' => ⟨σ.set i (some (.ref Dd)), H', ?_, hq⟩⟩
 refine I''.turned (t' := s''.toks) (fun b o hb e => (hs'.2 b hb).trans e) hC hCL (.inr (Nat.le_trans I2.sz hle)) hCc ?_
 intro p hp
 exact ZaT (I2.pin p hp).1 hle
end
section
variable {X : Cx}
noncomputable def Its (z : Str) : It := ⟨fun i _ => i < z.cps.size, fun i H x H' => H' = H /\ ∃ c, z.cps[i]? = some c /\ x = .str ⟨#[c]⟩, fun i _ => i = z.cps.size⟩
theorem turn_str {P : Program} {w : World} {K : W.Frag} {tg : Expr} {it : Addr} {z : Str} {t : Tok} {ty : String} (hty : ty = "str_ascii_iterator" \/ ty = "str_iterator") : Turn P w K tg (Its z) [it] it (fun i h => h.IsStrIter it ty z t i) where
 mem := by simp
 obj := fun i h st b hb => by
  have e : b = it := by simpa using hb
  subst e
  obtain ⟨o, e, c, d⟩ := st
  exact ⟨o, e, fun v z => by rw [d] at z; cases z⟩
 keep := fun i h h' st k => by
  obtain ⟨o, e, c, d⟩ := st
  exact ⟨o, k it (by simp) o e, c, d⟩
 item := by
  intro X hP hw hK hc i pins s σ H E I hf st hg
  subst hP hw hK
  obtain ⟨f0, f1, f2, f3, f4, f5⟩ := hf it (by simp)
  have fin : ∀ v h' tk, SignAt z i v -> h'.IsStrIter it ty z t (i + 1) -> (∀ b o, b ∉ [it] -> s.heap.get? b = some o -> h'.get? b = some o) ->
    ∃ u, some v = some u /\ wpAny (model X.prog X.w) X.A (letOwnedTupleGo tg (.ref it) u) (fun _ s2 => ∃ x H', Inv X pins σ H' s2 /\ RelV x u /\ (Its z).yld i H x H' /\ s2.heap.IsStrIter it ty z t (i + 1) /\ ∀ b ∈ [it], H' b = none) E { s with heap := h', toks := tk } := fun v h' tk hv st' kk => by
   obtain ⟨c, u, hcx, rfl⟩ := hv
   have I1 : Inv X pins σ H { s with heap := h', toks := tk } := I.turned (fun b o hb e => kk b o (by simpa using hb) e) f0 f1 f3 f4 f5
   obtain ⟨o, e, oc, d⟩ := id st'
   refine ⟨_, rfl, go_of (s := { s with heap := h', toks := tk }) e oc d (by rcases hty with rfl | rfl <;> decide) ⟨.str ⟨#[c]⟩, H, I1, ⟨u, rfl⟩, ⟨rfl, c, hcx, rfl⟩, st', fun b hb => (hf b hb).1⟩⟩
  rcases hty with rfl | rfl
  ·exact (Walks.strAscii (prog := X.prog) (w := X.w) (I.ok.hd hc) it z t).item i s _ _ hg st fin
  ·exact (Walks.strWide (prog := X.prog) (w := X.w) (I.ok.hd hc) it z t).item i s _ _ hg st fin
 done := by
  intro X hP hw hK hc i pins s σ H E I hf st hg
  subst hP hw hK
  obtain ⟨f0, f1, f2, f3, f4, f5⟩ := hf it (by simp)
  have hg : i = z.cps.size := hg
  subst hg
  have fin : ∀ h' tk, (∀ b o, b ∉ [it] -> s.heap.get? b = some o -> h'.get? b = some o) -> (none : Option Value) = none /\ Inv X pins σ H { s with heap := h', toks := tk } := fun h' tk kk =>
   ⟨rfl, I.turned (fun b o hb e => kk b o (by simpa using hb) e) f0 f1 f3 f4 f5⟩
  rcases hty with rfl | rfl
  ·exact (Walks.strAscii (prog := X.prog) (w := X.w) (I.ok.hd hc) it z t).done s _ _ st fin
  ·exact (Walks.strWide (prog := X.prog) (w := X.w) (I.ok.hd hc) it z t).done s _ _ st fin
 self := fun _ _ _ _ _ st h => by
  rcases hty with rfl | rfl
  ·exact wpAny_pyIter_striter_ascii st h
  ·exact wpAny_pyIter_striter_wide st h
theorem range_all (bs : List Bool) : ((List.range bs.length).all fun i => bs.getD i false) = bs.all id := by
 rw [Bool.eq_iff_iff]
 simp only [List.all_eq_true, List.mem_range]
 constructor
 ·intro h b hb
  obtain ⟨i, hi, e⟩ := List.getElem_of_mem hb
  have := h i hi
  rw [List.getD_eq_getElem?_getD, List.getElem?_eq_getElem hi] at this
  subst e
  simpa using this
 ·intro h i hi
  rw [List.getD_eq_getElem?_getD, List.getElem?_eq_getElem hi]
  simpa using h _ (List.getElem_mem hi)
theorem call_all_bl (hc : X.calm = true) : CallR X (.builtin "all") (fun xs H Q => ∃ (a : Addr) (bs : List Bool), xs = [.ref a] /\ SqL X.K H a (bs.map V.bl) /\ Q (.bl (bs.all id)) H) := by
 intro pins s σ H xs us Q I r h
 obtain ⟨a, bs, rfl, hq, q⟩ := h
 obtain ⟨u, rfl, ru⟩ := Vals.one r
 cases (show u = Value.ref a from ru)
 obtain ⟨its, rv, p, hz⟩ := I.list hq
 have hlt : a < s.heap.objs.size := by obtain ⟨o, e, _⟩ := p.isList; exact Heap.lt_size e
 refine call_all_walk (wpAny_pyIter_list p.isList ?_)
 have hlen : its.toArray.size = bs.length := by have := rv.length; simp at this; simp [this]
 refine ⟨s.heap.objs.size, _, _, its.toArray.size, _, _, fun i => bs.getD i false, rfl, Walks.list (by exact I.ok.hd hc) s.heap.objs.size a (Nat.ne_of_lt hlt) its.toArray, ⟨⟨_, Heap.get?_push_size _ rfl, rfl, rfl⟩, p.isList.push _⟩, ?_, ?_⟩
 ·intro i v s' Q' E' hv hQ'
  have hi : i < bs.length := by
   rw [← hlen]
   exact (Array.getElem?_eq_some_iff.mp hv).1
  obtain ⟨u, e1, r1⟩ := rv.get (i := i) (x := V.bl bs[i]) (by simp [hi])
  have e2 : its[i]? = some v := by simpa using hv
  rw [e1] at e2
  have e3 : u = v := Option.some.inj e2
  have e4 : u = Value.bool bs[i] := r1
  rw [← e3, e4]
  refine wpAny_truthy_bool ?_
  have : bs.getD i false = bs[i] := by rw [List.getD_eq_getElem?_getD, List.getElem?_eq_getElem hi]; rfl
  have hQ2 : Q' (bs.getD i false) s' := hQ'
  rw [this] at hQ2
  exact hQ2
 ·intro h' tk kk
  refine ⟨.bl _, H, I.kept fun b o e => kk b o (fun z => ?_) (Heap.get?_push_of_some _ e), ?_, q⟩
  ·have : b = s.heap.objs.size := by simpa using z
   exact absurd this (Nat.ne_of_lt (Heap.lt_size e))
  ·show Value.bool _ = Value.bool _
   rw [hlen, range_all]
theorem Zb7 : ∀ {ys : List Str} {us : List Value}, Vals (ys.map V.str) us -> StrsAre us ys
 | [], _, .nil => .nil
 | _ :: _, _, .cons r t => by
  obtain ⟨k, rfl⟩ := r
  exact .cons _ _ (Zb7 t)
theorem mt_join : MtR X "str.join" (fun x xs H Q => ∃ (z : Str) (p : Addr) (ys : List Str), x = .str z /\ xs = [.ref p] /\ SqL X.K H p (ys.map V.str) /\ (ys.map (·.length)).sum + ys.length * z.length <= 16777216 /\ Q (.str (Txt.join z ys)) H) := by
 intro pins s σ H x xs v us Q I rx rs h
 obtain ⟨z, p, ys, rfl, rfl, hq, hw, q⟩ := h
 obtain ⟨t, rfl⟩ := rx
 obtain ⟨u, rfl, ru⟩ := Vals.one rs
 cases (show u = Value.ref p from ru)
 obtain ⟨its, rv, pl, hz⟩ := I.list hq
 exact join_list pl.isList (Zb7 (by simpa using rv)) hw fun t' k => ⟨.str _, H, I.tok k, ⟨t', rfl⟩, q⟩
end
end L2
namespace Se
open PySem PySem.SetTable
noncomputable def adv (mask : Nat) (p : Probe) : Probe :=
 if p.more > 0 then { p with j := p.j + 1, more := p.more - 1 } else
 { p with j := (leap mask p.i p.perturb).1, more := runEnd mask (leap mask p.i p.perturb).1 - (leap mask p.i p.perturb).1, i := (leap mask p.i p.perturb).1, perturb := (leap mask p.i p.perturb).2 }
noncomputable def it (mask : Nat) : Nat -> Probe -> Probe
 | 0, p => p
 | n + 1, p => it mask n (adv mask p)
noncomputable def inRun (mask i d pt : Nat) : Probe := { j := i + d, more := runEnd mask i - i - d, i := i, perturb := pt, dummy := none }
noncomputable def len (mask i : Nat) : Nat := runEnd mask i - i
noncomputable def f (mask i : Nat) : Nat := (i * 5 + 1) % (mask + 1)
noncomputable def Mk (mask : Nat) : Prop := mask = 7 \/ mask = 31 \/ mask = 127
noncomputable def Rising (xs : Array Nat) : Prop := ∀ (a b : Nat) (x y : Nat), a < b -> xs[a]? = some x -> xs[b]? = some y -> x < y
noncomputable def start (mask : Nat) (h : Int) : Probe := inRun mask (bits h % (mask + 1)) 0 (bits h)
structure T0 (t : SetTable) (es : Array (Int × Value)) : Prop where
 mm : Mk t.mask
 dm : t.dummies = #[]
 rs : Rising t.place
 sz : t.place.size = es.size
 lt : ∀ i j : Nat, t.place[i]? = some j -> j < t.mask + 1
 rc : ∀ (i j : Nat) (e : Int × Value), t.place[i]? = some j -> es[i]? = some e -> ∃ n, (it t.mask n (start t.mask e.1)).j = j /\ ∀ m, m < n -> ∃ i' : Nat, t.place[i']? = some (it t.mask m (start t.mask e.1)).j
structure TI (t : SetTable) (es : Array (Int × Value)) : Prop extends T0 t es where
 fl : es.size * 5 < t.mask * 3
end Se
namespace Pu
open PySem PySem.Spec PyProof.Rows L2
inductive PV where
 | non | bl (b : Bool) | int (i : Int) | str (x : Str) | tup (xs : List PV) | lst (xs : List PV) | dct (ks vs : List PV) | dtt (ks : List (List Key)) (vs : List PV) | fn (a : Addr) | ty (n : String)
noncomputable def kP : Key -> PV
 | .inl i => .int i
 | .inr x => .str x
noncomputable def LsR (K : W.Frag) (ι : List Addr) (H : Hp) (a : Addr) (vs : List V) : Prop :=
 (a ∉ ι /\ Rd H a (.lst vs)) \/
  ∃ (o : Obj) (its : Array Value) (n : Nat), K.lookup a = some o /\ o.cls = .type "list" /\ o.dict = none /\ o.data = .seq its n /\ its.size <= sizeLine /\ Vals vs its.toList
theorem LsR.sq {K : W.Frag} {ι : List Addr} {H : Hp} {a : Addr} {vs : List V} (h : LsR K ι H a vs) : SqL K H a vs := by
 rcases h with ⟨_, h⟩ | h
 ·exact .inl h
 ·exact .inr h
noncomputable def TpR (H : Hp) (a : Addr) (vs : List V) : Prop := H a = some (.tup vs)
theorem TpR.sq {K : W.Frag} {H : Hp} {a : Addr} {vs : List V} (h : TpR H a vs) : SqT K H a vs := .inl (.inl h)
mutual
noncomputable def Rep (K : W.Frag) (ι : List Addr) (H : Hp) : PV -> V -> Prop
 | .non, v => v = .non
 | .bl b, v => v = .bl b
 | .int i, v => v = .int i
 | .str x, v => v = .str x /\ x.length <= sizeLine
 | .tup ps, v => ∃ a vs, v = .ref a /\ TpR H a vs /\ Reps K ι H ps vs
 | .lst ps, v => ∃ a vs, v = .ref a /\ LsR K ι H a vs /\ Reps K ι H ps vs
 | .dct ks ps, v => ∃ (a : Addr) (qs : List Key) (vs : List V), v = .ref a /\ a ∉ ι /\ H a = some (.dK (qs.zip vs)) /\ qs.length = vs.length /\ ks = qs.map kP /\ Reps K ι H ps vs
 | .dtt ks ps, v => ∃ (a : Addr) (vs : List V), v = .ref a /\ a ∉ ι /\ H a = some (.dT (ks.zip vs)) /\ ks.length = vs.length /\ Reps K ι H ps vs
 | .fn a, v => v = .ref a
 | .ty n, v => v = .ty n
noncomputable def Reps (K : W.Frag) (ι : List Addr) (H : Hp) : List PV -> List V -> Prop
 | [], vs => vs = []
 | p :: ps, vs => ∃ v r, vs = v :: r /\ Rep K ι H p v /\ Reps K ι H ps r
end
inductive SV where
 | v (p : PV) | c (k : Nat)
noncomputable abbrev Cs := List PV
noncomputable def RepS (K : W.Frag) (ι : List Addr) (H : Hp) : SV -> V -> Prop
 | .v p, x => Rep K ι H p x
 | .c k, x => ∃ a, x = .ref a /\ ι[k]? = some a
noncomputable def RepSs (K : W.Frag) (ι : List Addr) (H : Hp) : List SV -> List V -> Prop
 | [], vs => vs = []
 | p :: ps, vs => ∃ v r, vs = v :: r /\ RepS K ι H p v /\ RepSs K ι H ps r
noncomputable def CellOk (K : W.Frag) (ι : List Addr) (H : Hp) (a : Addr) : PV -> Prop
 | .lst ps => ∃ vs, H a = some (.lst vs) /\ Reps K ι H ps vs
 | .dct ks ps => ∃ (qs : List Key) (vs : List V), H a = some (.dK (qs.zip vs)) /\ qs.length = vs.length /\ ks = qs.map kP /\ Reps K ι H ps vs
 | .dtt ks ps => ∃ (vs : List V), H a = some (.dT (ks.zip vs)) /\ ks.length = vs.length /\ Reps K ι H ps vs
 | _ => False
structure CR (K : W.Frag) (ι : List Addr) (H : Hp) (C : Cs) : Prop where
 len : ι.length = C.length
 nd : ι.Nodup
 ok : ∀ (k : Nat) (a : Addr) (c : PV), ι[k]? = some a -> C[k]? = some c -> CellOk K ι H a c
noncomputable def Fr (ι : List Addr) (H H' : Hp) : Prop := ∀ b o, b ∉ ι -> H b = some o -> H' b = some o
theorem Fr.refl {ι : List Addr} {H : Hp} : Fr ι H H := fun _ _ _ h => h
theorem Fr.trans {ι : List Addr} {H H1 H2 : Hp} (a : Fr ι H H1) (b : Fr ι H1 H2) : Fr ι H H2 := fun c o n h => b c o n (a c o n h)
theorem Fr.new {ι : List Addr} {H : Hp} {p : Addr} {o : HO} (h : H p = none) : Fr ι H (upd H p o) := fun b u _ e => by rw [Zam (Zak e h)]; exact e
section
variable {K : W.Frag} {ι : List Addr} {H H' : Hp} {C : Cs}
theorem CR.at' (cr : CR K ι H C) {a : Addr} (h : a ∈ ι) : ∃ (k : Nat) (c : PV), ι[k]? = some a /\ C[k]? = some c /\ CellOk K ι H a c := by
 obtain ⟨k, hk, e⟩ := List.getElem_of_mem h
 have h1 : ι[k]? = some a := by rw [List.getElem?_eq_getElem hk, e]
 have hk2 : k < C.length := by rw [← cr.len]; exact hk
 exact ⟨k, C[k], h1, List.getElem?_eq_getElem hk2, cr.ok k a _ h1 (List.getElem?_eq_getElem hk2)⟩
theorem CR.mut (cr : CR K ι H C) {a : Addr} (h : a ∈ ι) : (∃ vs, H a = some (.lst vs)) \/ (∃ kvs, H a = some (.dK kvs)) \/ ∃ kvs, H a = some (.dT kvs) := by
 obtain ⟨k, c, _, _, ok⟩ := cr.at' h
 cases c with
 | lst ps => obtain ⟨vs, e, _⟩ := ok; exact .inl ⟨vs, e⟩
 | dct ks ps => obtain ⟨qs, vs, e, _⟩ := ok; exact .inr (.inl ⟨_, e⟩)
 | dtt ks ps => obtain ⟨vs, e, _⟩ := ok; exact .inr (.inr ⟨_, e⟩)
 | _ => exact ok.elim
theorem CR.notup (cr : CR K ι H C) {a : Addr} {o : HO} (e : H a = some o) (h1 : ∀ vs, o ≠ .lst vs) (h2 : ∀ kvs, o ≠ .dK kvs) (h3 : ∀ kvs, o ≠ .dT kvs := by intro kvs z; cases z) : a ∉ ι := fun h => by
 rcases cr.mut h with ⟨vs, z⟩ | ⟨kvs, z⟩ | ⟨kvs, z⟩
 ·rw [e] at z; exact h1 vs (Option.some.inj z)
 ·rw [e] at z; exact h2 kvs (Option.some.inj z)
 ·rw [e] at z; exact h3 kvs (Option.some.inj z)
theorem tpR_mono (cr : CR K ι H C) (fr : Fr ι H H') {a : Addr} {vs : List V} (h : TpR H a vs) : TpR H' a vs :=
 fr _ _ (cr.notup h (fun _ e => nomatch e) fun _ e => nomatch e) h
theorem LsR.mono (fr : Fr ι H H') {a : Addr} {vs : List V} (h : LsR K ι H a vs) : LsR K ι H' a vs := by
 rcases h with ⟨n, h | ⟨o, h⟩⟩ | h
 ·exact .inl ⟨n, .inl (fr _ _ n h)⟩
 ·exact .inl ⟨n, .inr ⟨o, fr _ _ n h⟩⟩
 ·exact .inr h
mutual
theorem Rep.mono (cr : CR K ι H C) (fr : Fr ι H H') : ∀ (p : PV) (v : V), Rep K ι H p v -> Rep K ι H' p v
 | .non, v, h => by unfold Rep at h ⊢; exact h
 | .bl b, v, h => by unfold Rep at h ⊢; exact h
 | .int i, v, h => by unfold Rep at h ⊢; exact h
 | .str x, v, h => by unfold Rep at h ⊢; exact h
 | .tup ps, v, h => by
  unfold Rep at h ⊢
  obtain ⟨a, vs, e, sq, r⟩ := h
  exact ⟨a, vs, e, tpR_mono cr fr sq, Reps.mono cr fr ps vs r⟩
 | .lst ps, v, h => by
  unfold Rep at h ⊢
  obtain ⟨a, vs, e, sq, r⟩ := h
  exact ⟨a, vs, e, sq.mono fr, Reps.mono cr fr ps vs r⟩
 | .dct ks ps, v, h => by
  unfold Rep at h ⊢
  obtain ⟨a, qs, vs, e, n, hd, hl, hk, r⟩ := h
  exact ⟨a, qs, vs, e, n, fr _ _ n hd, hl, hk, Reps.mono cr fr ps vs r⟩
 | .dtt ks ps, v, h => by
  unfold Rep at h ⊢
  obtain ⟨a, vs, e, n, hd, hl, r⟩ := h
  exact ⟨a, vs, e, n, fr _ _ n hd, hl, Reps.mono cr fr ps vs r⟩
 | .fn a, v, h => by unfold Rep at h ⊢; exact h
 | .ty n, v, h => by unfold Rep at h ⊢; exact h
theorem Reps.mono (cr : CR K ι H C) (fr : Fr ι H H') : ∀ (ps : List PV) (vs : List V), Reps K ι H ps vs -> Reps K ι H' ps vs
 | [], vs, h => by unfold Reps at h ⊢; exact h
 | p :: ps, vs, h => by
  unfold Reps at h ⊢
  obtain ⟨v, r, e, h1, h2⟩ := h
  exact ⟨v, r, e, Rep.mono cr fr p v h1, Reps.mono cr fr ps r h2⟩
end
theorem RepS.mono (cr : CR K ι H C) (fr : Fr ι H H') {s : SV} {v : V} (h : RepS K ι H s v) : RepS K ι H' s v := by
 cases s with
 | v p => exact Rep.mono cr fr p v h
 | c k => exact h
mutual
theorem Rep.stay (sm : ∀ b o, H b = some o -> H' b = some o) : ∀ (p : PV) (v : V), Rep K ι H p v -> Rep K ι H' p v
 | .non, v, h => by unfold Rep at h ⊢; exact h
 | .bl b, v, h => by unfold Rep at h ⊢; exact h
 | .int i, v, h => by unfold Rep at h ⊢; exact h
 | .str x, v, h => by unfold Rep at h ⊢; exact h
 | .tup ps, v, h => by
  unfold Rep at h ⊢
  obtain ⟨a, vs, e, sq, r⟩ := h
  exact ⟨a, vs, e, sm _ _ sq, Reps.stay sm ps vs r⟩
 | .lst ps, v, h => by
  unfold Rep at h ⊢
  obtain ⟨a, vs, e, sq, r⟩ := h
  exact ⟨a, vs, e, sq.mono (fun b o _ e => sm b o e), Reps.stay sm ps vs r⟩
 | .dct ks ps, v, h => by
  unfold Rep at h ⊢
  obtain ⟨a, qs, vs, e, n, hd, hl, hk, r⟩ := h
  exact ⟨a, qs, vs, e, n, sm _ _ hd, hl, hk, Reps.stay sm ps vs r⟩
 | .dtt ks ps, v, h => by
  unfold Rep at h ⊢
  obtain ⟨a, vs, e, n, hd, hl, r⟩ := h
  exact ⟨a, vs, e, n, sm _ _ hd, hl, Reps.stay sm ps vs r⟩
 | .fn a, v, h => by unfold Rep at h ⊢; exact h
 | .ty n, v, h => by unfold Rep at h ⊢; exact h
theorem Reps.stay (sm : ∀ b o, H b = some o -> H' b = some o) : ∀ (ps : List PV) (vs : List V), Reps K ι H ps vs -> Reps K ι H' ps vs
 | [], vs, h => by unfold Reps at h ⊢; exact h
 | p :: ps, vs, h => by
  unfold Reps at h ⊢
  obtain ⟨v, r, e, h1, h2⟩ := h
  exact ⟨v, r, e, Rep.stay sm p v h1, Reps.stay sm ps r h2⟩
end
mutual
theorem Rep.cells {ι' : List Addr} (hs : ∀ b o, H b = some o -> b ∉ ι -> b ∉ ι') : ∀ (p : PV) (v : V), Rep K ι H p v -> Rep K ι' H p v
 | .non, v, h => by unfold Rep at h ⊢; exact h
 | .bl b, v, h => by unfold Rep at h ⊢; exact h
 | .int i, v, h => by unfold Rep at h ⊢; exact h
 | .str x, v, h => by unfold Rep at h ⊢; exact h
 | .tup ps, v, h => by
  unfold Rep at h ⊢
  obtain ⟨a, vs, e, sq, r⟩ := h
  exact ⟨a, vs, e, sq, Reps.cells hs ps vs r⟩
 | .lst ps, v, h => by
  unfold Rep at h ⊢
  obtain ⟨a, vs, e, sq, r⟩ := h
  refine ⟨a, vs, e, ?_, Reps.cells hs ps vs r⟩
  rcases sq with ⟨n, q | ⟨o, q⟩⟩ | q
  ·exact .inl ⟨hs _ _ q n, .inl q⟩
  ·exact .inl ⟨hs _ _ q n, .inr ⟨o, q⟩⟩
  ·exact .inr q
 | .dct ks ps, v, h => by
  unfold Rep at h ⊢
  obtain ⟨a, qs, vs, e, n, hd, hl, hk, r⟩ := h
  exact ⟨a, qs, vs, e, hs _ _ hd n, hd, hl, hk, Reps.cells hs ps vs r⟩
 | .dtt ks ps, v, h => by
  unfold Rep at h ⊢
  obtain ⟨a, vs, e, n, hd, hl, r⟩ := h
  exact ⟨a, vs, e, hs _ _ hd n, hd, hl, Reps.cells hs ps vs r⟩
 | .fn a, v, h => by unfold Rep at h ⊢; exact h
 | .ty n, v, h => by unfold Rep at h ⊢; exact h
theorem Reps.cells {ι' : List Addr} (hs : ∀ b o, H b = some o -> b ∉ ι -> b ∉ ι') : ∀ (ps : List PV) (vs : List V), Reps K ι H ps vs -> Reps K ι' H ps vs
 | [], vs, h => by unfold Reps at h ⊢; exact h
 | p :: ps, vs, h => by
  unfold Reps at h ⊢
  obtain ⟨v, r, e, h1, h2⟩ := h
  exact ⟨v, r, e, Rep.cells hs p v h1, Reps.cells hs ps r h2⟩
end
theorem Reps.nil : Reps K ι H [] [] := by unfold Reps; rfl
theorem Reps.cons {p : PV} {v : V} {ps : List PV} {vs : List V} (h : Rep K ι H p v) (t : Reps K ι H ps vs) : Reps K ι H (p :: ps) (v :: vs) := by unfold Reps; exact ⟨v, vs, rfl, h, t⟩
theorem Reps.inv {p : PV} {ps : List PV} {vs : List V} (h : Reps K ι H (p :: ps) vs) : ∃ v r, vs = v :: r /\ Rep K ι H p v /\ Reps K ι H ps r := by unfold Reps at h; exact h
theorem Reps.inv0 {vs : List V} (h : Reps K ι H [] vs) : vs = [] := by unfold Reps at h; exact h
theorem Reps.length : ∀ {ps : List PV} {vs : List V}, Reps K ι H ps vs -> ps.length = vs.length
 | [], vs, h => by rw [h.inv0]; rfl
 | p :: ps, vs, h => by obtain ⟨v, r, rfl, _, t⟩ := h.inv; rw [List.length_cons, List.length_cons, t.length]
theorem Reps.append : ∀ {ps qs : List PV} {vs ws : List V}, Reps K ι H ps vs -> Reps K ι H qs ws -> Reps K ι H (ps ++ qs) (vs ++ ws)
 | [], _, vs, _, h, t => by rw [h.inv0]; exact t
 | p :: ps, _, vs, _, h, t => by obtain ⟨v, r, rfl, h1, h2⟩ := h.inv; exact .cons h1 (h2.append t)
theorem Reps.get : ∀ {ps : List PV} {vs : List V} {i : Nat} {p : PV}, Reps K ι H ps vs -> ps[i]? = some p -> ∃ v, vs[i]? = some v /\ Rep K ι H p v
 | [], _, _, _, h, e => by simp at e
 | q :: ps, vs, 0, p, h, e => by
  obtain ⟨v, r, rfl, h1, h2⟩ := h.inv
  simp at e; subst e; exact ⟨v, rfl, h1⟩
 | q :: ps, vs, i + 1, p, h, e => by
  obtain ⟨v, r, rfl, h1, h2⟩ := h.inv
  obtain ⟨w, e1, r1⟩ := h2.get (i := i) (by simpa using e)
  exact ⟨w, by simpa using e1, r1⟩
theorem Reps.get' : ∀ {ps : List PV} {vs : List V} {i : Nat} {v : V}, Reps K ι H ps vs -> vs[i]? = some v -> ∃ p, ps[i]? = some p /\ Rep K ι H p v := fun {ps vs i v} h e => by
 have hi : i < ps.length := by
  rw [h.length]
  rcases Nat.lt_or_ge i vs.length with q | q
  ·exact q
  ·rw [List.getElem?_eq_none_iff.mpr q] at e; cases e
 obtain ⟨w, e1, r⟩ := h.get (List.getElem?_eq_getElem hi)
 rw [e] at e1; cases e1
 exact ⟨_, List.getElem?_eq_getElem hi, r⟩
theorem Reps.take : ∀ {ps : List PV} {vs : List V} (n : Nat), Reps K ι H ps vs -> Reps K ι H (ps.take n) (vs.take n)
 | _, _, 0, _ => by simp; exact .nil
 | [], vs, n + 1, h => by rw [h.inv0]; simp; exact .nil
 | p :: ps, vs, n + 1, h => by obtain ⟨v, r, rfl, h1, h2⟩ := h.inv; simp only [List.take_succ_cons]; exact .cons h1 (h2.take n)
theorem Reps.drop : ∀ {ps : List PV} {vs : List V} (n : Nat), Reps K ι H ps vs -> Reps K ι H (ps.drop n) (vs.drop n)
 | _, _, 0, h => by simpa using h
 | [], vs, n + 1, h => by rw [h.inv0]; simp; exact .nil
 | p :: ps, vs, n + 1, h => by obtain ⟨v, r, rfl, h1, h2⟩ := h.inv; simpa using h2.drop n
theorem Reps.set : ∀ {ps : List PV} {vs : List V} (i : Nat) {p : PV} {v : V}, Reps K ι H ps vs -> Rep K ι H p v -> Reps K ι H (ps.set i p) (vs.set i v)
 | [], vs, i, p, v, h, _ => by rw [h.inv0]; simp; exact .nil
 | q :: ps, vs, 0, p, v, h, hp => by obtain ⟨w, r, rfl, h1, h2⟩ := h.inv; simp; exact .cons hp h2
 | q :: ps, vs, i + 1, p, v, h, hp => by obtain ⟨w, r, rfl, h1, h2⟩ := h.inv; simp; exact .cons h1 (h2.set i hp)
theorem CellOk.mono (cr : CR K ι H C) (fr : Fr ι H H') {a : Addr} {c : PV} (ha : ∀ o, H a = some o -> H' a = some o) (h : CellOk K ι H a c) : CellOk K ι H' a c := by
 cases c with
 | lst ps => obtain ⟨vs, e, r⟩ := h; exact ⟨vs, ha _ e, Reps.mono cr fr _ _ r⟩
 | dct ks ps => obtain ⟨qs, vs, e, hl, hk, r⟩ := h; exact ⟨qs, vs, ha _ e, hl, hk, Reps.mono cr fr _ _ r⟩
 | dtt ks ps => obtain ⟨vs, e, hl, r⟩ := h; exact ⟨vs, ha _ e, hl, Reps.mono cr fr _ _ r⟩
 | _ => exact h.elim
theorem CR.same (cr : CR K ι H C) (sm : ∀ b o, H b = some o -> H' b = some o) : CR K ι H' C :=
 ⟨cr.len, cr.nd, fun k a c h1 h2 => (cr.ok k a c h1 h2).mono cr (fun b o _ e => sm b o e) fun o e => sm a o e⟩
theorem CR.new (cr : CR K ι H C) {p : Addr} {o : HO} (h : H p = none) : CR K ι (upd H p o) C := cr.same fun b u e => by rw [Zam (Zak e h)]; exact e
theorem CR.put (cr : CR K ι H C) {k : Nat} {a : Addr} {c : PV} {o : HO} (hk : ι[k]? = some a) (ok : CellOk K ι (upd H a o) a c) : CR K ι (upd H a o) (C.set k c) := by
 have fr : Fr ι H (upd H a o) := fun b u n e => by
  rw [Zam (fun z => n (by rw [z]; exact List.mem_of_getElem? hk))]; exact e
 refine ⟨by rw [List.length_set]; exact cr.len, cr.nd, fun j b d h1 h2 => ?_⟩
 by_cases hj : j = k
 ·subst hj
  rw [hk] at h1; cases h1
  have hlt : j < C.length := by
   rw [← cr.len]
   rcases Nat.lt_or_ge j ι.length with q | q
   ·exact q
   ·rw [List.getElem?_eq_none_iff.mpr q] at hk; cases hk
  rw [List.getElem?_set_self hlt] at h2
  cases h2; exact ok
 ·rw [List.getElem?_set_ne (Ne.symm hj)] at h2
  refine (cr.ok j b d h1 h2).mono cr fr fun u e => ?_
  have hb : b ≠ a := fun z => by
   subst z
   have hjl : j < ι.length := by
    rcases Nat.lt_or_ge j ι.length with q | q
    ·exact q
    ·rw [List.getElem?_eq_none_iff.mpr q] at h1; cases h1
   have hkl : k < ι.length := by
    rcases Nat.lt_or_ge k ι.length with q | q
    ·exact q
    ·rw [List.getElem?_eq_none_iff.mpr q] at hk; cases hk
   have e1 := (List.getElem?_eq_some_iff.mp h1).2
   have e2 := (List.getElem?_eq_some_iff.mp hk).2
   exact hj ((List.getElem_inj cr.nd).mp (e1.trans e2.symm))
  rw [Zam hb]; exact e
theorem repHs {p : Addr} (hp : H p = none) : ∀ b u, H b = some u -> b ∉ ι -> b ∉ ι ++ [p] := fun b u e n z => by
 rcases List.mem_append.mp z with z | z
 ·exact n z
 ·exact Zak e hp (by simpa using z)
theorem RepsNew (cr : CR K ι H C) {p : Addr} {o : HO} (hp : H p = none) (q : List PV) (v : List V) (r : Reps K ι H q v) : Reps K (ι ++ [p]) (upd H p o) q v := by
 exact Reps.stay (fun b u e => by rw [Zam (Zak e hp)]; exact e) q v (Reps.cells (ι' := ι ++ [p]) (repHs hp) q v r)
theorem CR.add (cr : CR K ι H C) {p : Addr} {c : PV} {o : HO} (hp : H p = none) (ok : CellOk K (ι ++ [p]) (upd H p o) p c) : CR K (ι ++ [p]) (upd H p o) (C ++ [c]) := by
 have hni : p ∉ ι := fun z => by
  rcases cr.mut z with ⟨vs, e⟩ | ⟨kvs, e⟩ | ⟨kvs, e⟩
  ·rw [hp] at e; cases e
  ·rw [hp] at e; cases e
  ·rw [hp] at e; cases e
 have hc : ∀ b u, (upd H p o) b = some u -> b ∉ ι -> b ≠ p -> b ∉ ι ++ [p] := fun b u _ n1 n2 z => by
  rcases List.mem_append.mp z with z | z
  ·exact n1 z
  ·exact n2 (by simpa using z)
 have up : ∀ b u, H b = some u -> (upd H p o) b = some u := fun b u e => by rw [Zam (Zak e hp)]; exact e
 have lift : ∀ (b : Addr) (d : PV), CellOk K ι H b d -> CellOk K (ι ++ [p]) (upd H p o) b d := fun b d h => by
  have hs : ∀ b u, H b = some u -> b ∉ ι -> b ∉ ι ++ [p] := fun b u e n => hc b u (up b u e) n (Zak e hp)
  have cr' : CR K ι (upd H p o) C := cr.new hp
  cases d with
  | lst ps =>
   obtain ⟨vs, e, r⟩ := h
   exact ⟨vs, up _ _ e, RepsNew cr hp ps vs r⟩
  | dct ks ps =>
   obtain ⟨qs, vs, e, hl, hk, r⟩ := h
   exact ⟨qs, vs, up _ _ e, hl, hk, RepsNew cr hp ps vs r⟩
  | dtt ks ps =>
   obtain ⟨vs, e, hl, r⟩ := h
   exact ⟨vs, up _ _ e, hl, RepsNew cr hp ps vs r⟩
  | _ => exact h.elim
 refine ⟨by simp [cr.len], ?_, fun k a d h1 h2 => ?_⟩
 ·rw [List.nodup_append]
  refine ⟨cr.nd, by simp, fun a ha b hb => ?_⟩
  have : b = p := by simpa using hb
  subst this
  exact fun z => hni (z ▸ ha)
 ·rcases Nat.lt_or_ge k ι.length with hk | hk
  ·rw [List.getElem?_append_left hk] at h1
   rw [List.getElem?_append_left (by rw [← cr.len]; exact hk)] at h2
   exact lift a d (cr.ok k a d h1 h2)
  ·rw [List.getElem?_append_right hk] at h1
   rw [List.getElem?_append_right (by rw [← cr.len]; exact hk)] at h2
   rw [← cr.len] at h2
   cases hz : k - ι.length with
   | zero =>
    rw [hz] at h1 h2
    simp at h1 h2
    subst h1 h2
    exact ok
   | succ j => rw [hz] at h1; simp at h1
end
end Pu
namespace Pu
open PySem PySem.Spec L2
open PyProof.Rows hiding St
noncomputable abbrev M (α : Type) := Cs -> Option (α × Cs)
noncomputable def ret {α : Type} (a : α) : M α := fun C => some (a, C)
noncomputable def bnd {α β : Type} (x : M α) (f : α -> M β) : M β := fun C => match x C with
 | none => none
 | some (a, C') => f a C'
noncomputable def opM {α : Type} (g : Cs -> Option α) : M α := fun C => match g C with
 | none => none
 | some a => some (a, C)
theorem Zaf {α β : Type} {x : M α} {f : α -> M β} {C C2 : Cs} {b : β} (h : bnd x f C = some (b, C2)) : ∃ a C1, x C = some (a, C1) /\ f a C1 = some (b, C2) := by
 unfold bnd at h
 cases e : x C with
 | none => rw [e] at h; cases h
 | some p => obtain ⟨a, C1⟩ := p; rw [e] at h; exact ⟨a, C1, rfl, h⟩
theorem Zas {α : Type} {g : Cs -> Option α} {C C2 : Cs} {b : α} (h : opM g C = some (b, C2)) : g C = some b /\ C2 = C := by
 unfold opM at h
 cases e : g C with
 | none => rw [e] at h; cases h
 | some p => rw [e] at h; cases h; exact ⟨rfl, rfl⟩
noncomputable abbrev PSt := List (Option SV)
noncomputable def asB : SV -> Option Bool
 | .v (.bl b) => some b
 | _ => none
noncomputable def mB (x : SV) : M Bool := opM fun _ => asB x
theorem ZbV {x : SV} {C C2 : Cs} {b : Bool} (h : mB x C = some (b, C2)) : x = .v (.bl b) /\ C2 = C := by
 obtain ⟨h, e⟩ := Zas h
 refine ⟨?_, e⟩
 cases x with
 | c k => cases h
 | v p => cases p <;> first | (cases h; rfl) | cases h
theorem repB {K : W.Frag} {ι : List Addr} {H : Hp} {b : Bool} {v : V} (h : RepS K ι H (.v (.bl b)) v) : v = .bl b := by unfold RepS Rep at h; exact h
theorem repB' {K : W.Frag} {ι : List Addr} {H : Hp} {b : Bool} : RepS K ι H (.v (.bl b)) (.bl b) := by unfold RepS Rep; rfl
inductive PF where
 | nx (ρ : PSt) | rt (r : SV) | bk (ρ : PSt) | ct (ρ : PSt) | rf (ps : List PV) | rq (qs : List SV)
structure SR (K : W.Frag) (ι : List Addr) (H : Hp) (ρ : PSt) (σ : St) (C : Cs) : Prop where
 cr : CR K ι H C
 len : ρ.length = σ.length
 loc : ∀ (i : Nat) (s : SV), ρ[i]? = some (some s) -> ∃ v, σ[i]? = some (some v) /\ RepS K ι H s v
section
variable {K : W.Frag} {ι : List Addr} {H H' : Hp} {C C' : Cs} {ρ : PSt} {σ : St}
theorem SR.step (sr : SR K ι H ρ σ C) (fr : Fr ι H H') (cr : CR K ι H' C') : SR K ι H' ρ σ C' :=
 ⟨cr, sr.len, fun i s e => by obtain ⟨v, h1, h2⟩ := sr.loc i s e; exact ⟨v, h1, h2.mono sr.cr fr⟩⟩
theorem SR.set (sr : SR K ι H ρ σ C) {s : SV} {v : V} (i : Nat) (r : RepS K ι H s v) : SR K ι H (ρ.set i (some s)) (σ.set i (some v)) C := by
 refine ⟨sr.cr, by simp [sr.len], fun j t e => ?_⟩
 by_cases hj : i = j
 ·subst hj
  have hi : i < ρ.length := by
   rcases Nat.lt_or_ge i ρ.length with q | q
   ·exact q
   ·rw [List.getElem?_eq_none_iff.mpr (by simpa using q)] at e; cases e
  rw [List.getElem?_set_self hi] at e
  cases e
  exact ⟨v, by rw [List.getElem?_set_self (by rw [← sr.len]; exact hi)], r⟩
 ·rw [List.getElem?_set_ne hj] at e
  rw [List.getElem?_set_ne hj]
  exact sr.loc j t e
end
noncomputable def tM (K : W.Frag) (f : PSt -> M SV) : TE := fun σ H Q => ∃ ι ρ C r C', SR K ι H ρ σ C /\ f ρ C = some (r, C') /\ ∀ v H', Fr ι H H' -> CR K ι H' C' -> RepS K ι H' r v -> Q v H'
noncomputable def tMA (K : W.Frag) (f : PSt -> M (List SV)) : TA := fun σ H Q => ∃ ι ρ C r C', SR K ι H ρ σ C /\ f ρ C = some (r, C') /\ ∀ v H', Fr ι H H' -> CR K ι H' C' -> RepSs K ι H' r v -> Q v H'
noncomputable def tMB (K : W.Frag) (f : PSt -> M Bool) : TT := fun σ H Q => ∃ ι ρ C r C', SR K ι H ρ σ C /\ f ρ C = some (r, C') /\ ∀ H', Fr ι H H' -> CR K ι H' C' -> Q r H'
noncomputable def tMF (K : W.Frag) (f : PSt -> M (List PV)) : TE := fun σ H Q => ∃ ι ρ C ps C', SR K ι H ρ σ C /\ f ρ C = some (ps, C') /\ ∀ p vs H', Fr ι H H' -> CR K ι H' C' -> H' p = none -> Reps K ι H' ps vs -> Q (.ref p) (upd H' p (.lst vs))
noncomputable def EM (X : Cx) (e : Expr) (f : PSt -> M SV) : Prop := PE X e (tM X.K f)
noncomputable def AM (X : Cx) (es : List Expr) (f : PSt -> M (List SV)) : Prop := PA X es (tMA X.K f)
noncomputable def TMt (X : Cx) (e : Expr) (f : PSt -> M Bool) : Prop := PT X e (tMB X.K f)
noncomputable def WM (X : Cx) (e : Expr) (f : PSt -> M Bool) : Prop := PW X e (tMB X.K f)
noncomputable def FM (X : Cx) (e : Expr) (f : PSt -> M (List PV)) : Prop := PE X e (tMF X.K f)
theorem PE.imp {X : Cx} {e : Expr} {t t' : TE} (h : PE X e t) (k : ∀ σ H Q, t' σ H Q -> t σ H Q) : PE X e t' := fun pins s σ H Q I q => h pins s σ H Q I (k σ H Q q)
theorem PT.imp {X : Cx} {e : Expr} {t t' : TT} (h : PT X e t) (k : ∀ σ H Q, t' σ H Q -> t σ H Q) : PT X e t' := fun pins s σ H Q I q => h pins s σ H Q I (k σ H Q q)
theorem PW.imp {X : Cx} {e : Expr} {t t' : TT} (h : PW X e t) (k : ∀ σ H Q, t' σ H Q -> t σ H Q) : PW X e t' := fun wh pins s σ H Q I q => h wh pins s σ H Q I (k σ H Q q)
theorem PA.imp {X : Cx} {e : List Expr} {t t' : TA} (h : PA X e t) (k : ∀ σ H Q, t' σ H Q -> t σ H Q) : PA X e t' := fun pos pins s σ H Q I q => h pos pins s σ H Q I (k σ H Q q)
theorem PS.imp {X : Cx} {e : Stmt} {t t' : TS} (h : PS X e t) (k : ∀ D σ H, t' D σ H -> t D σ H) : PS X e t' := fun pins s σ H D I q => h pins s σ H D I (k D σ H q)
theorem PSs.imp {X : Cx} {e : List Stmt} {t t' : TS} (h : PSs X e t) (k : ∀ D σ H, t' D σ H -> t D σ H) : PSs X e t' := fun pins s σ H D I q => h pins s σ H D I (k D σ H q)
theorem PI.imp {X : Cx} {tg e : Expr} {t t' : TI} (h : PI X tg e t) (k : ∀ σ H Q, t' σ H Q -> t σ H Q) : PI X tg e t' := fun pins s σ H Q I q => h pins s σ H Q I (k σ H Q q)
section
variable {X : Cx} {a b e c : Expr} {es : List Expr} {fa fb fc : PSt -> M SV} {pos p : Pos} {x : Str}
noncomputable def mVar (i : Nat) : PSt -> M SV := fun ρ C => match ρ[i]? with
 | some (some s) => some (s, C)
 | _ => none
theorem em_var (i : Nat) {x : Str} {pos : Pos} (hN : X.N[i]? = some x := by rfl) (hv : Vis X.env.scope x := by first | exact Or.inl rfl | exact Or.inr (Or.inl rfl) | exact Or.inr (Or.inr rfl)) (hd : (x == ("__debug__" : Str)) = false := by decide)
  (hcd : (x == ("__classdict__" : Str)) = false := by decide) : EM X (.Name x pos) (mVar i) := by
 refine PE.imp (pe_var hN hv hd hcd) fun σ H Q h_ => ?_
 obtain ⟨ι, ρ, C, r, C', sr, e, q⟩ := h_
 unfold mVar at e
 cases e1 : ρ[i]? with
 | none => rw [e1] at e; cases e
 | some o =>
  cases o with
  | none => rw [e1] at e; cases e
  | some s =>
   rw [e1] at e; cases e
   obtain ⟨v, h1, h2⟩ := sr.loc i _ e1
   exact ⟨v, h1, q v H .refl sr.cr h2⟩
noncomputable def mC (p : PV) : PSt -> M SV := fun _ C => some (.v p, C)
theorem Za6 {v : V} {q : PV} (h : PE X e (tC v)) (r : ∀ ι H, Rep X.K ι H q v) : EM X e (mC q) := by
 refine PE.imp h fun σ H Q h_ => ?_
 obtain ⟨ι, ρ, C, z, C', sr, e, k⟩ := h_
 cases e
 exact k v H .refl sr.cr (r ι H)
noncomputable def mOp (g : Cs -> SV -> SV -> Option SV) (fa fb : PSt -> M SV) : PSt -> M SV := fun ρ => bnd (fa ρ) fun x => bnd (fb ρ) fun y => opM fun C => g C x y
noncomputable def R2ok (K : W.Frag) (r : R2) (g : Cs -> SV -> SV -> Option SV) : Prop :=
 ∀ (ι : List Addr) (H : Hp) (C : Cs) (x y : SV) (vx vy : V) (z : SV) (Q : VK), CR K ι H C -> RepS K ι H x vx -> RepS K ι H y vy -> g C x y = some z -> (∀ v H', Fr ι H H' -> CR K ι H' C -> RepS K ι H' z v -> Q v H') -> r vx vy H Q
theorem tM_op {K : W.Frag} {r : R2} {g : Cs -> SV -> SV -> Option SV} (hg : R2ok K r g) {σ : St} {H : Hp} {Q : VK} (h : tM K (mOp g fa fb) σ H Q) : tOp r (tM K fa) (tM K fb) σ H Q := by
 obtain ⟨ι, ρ, C, z, C', sr, e, q⟩ := h
 obtain ⟨x, C1, e1, e⟩ := Zaf e
 obtain ⟨y, C2, e2, e⟩ := Zaf e
 obtain ⟨e3, rfl⟩ := Zas e
 exact ⟨ι, ρ, C, x, C1, sr, e1, fun vx H1 f1 c1 r1 => ⟨ι, ρ, C1, y, C', sr.step f1 c1, e2, fun vy H2 f2 c2 r2 => hg ι H2 C' x y vx vy z _ c2 (r1.mono c1 f2) r2 e3 fun v H3 f3 c3 r3 => q v H3 (f1.trans (f2.trans f3)) c3 r3⟩⟩
theorem em_op {op : Operator} {r : R2} {g : Cs -> SV -> SV -> Option SV} (ho : OpR X (binaryOp op) r) (hg : R2ok X.K r g) (ha : EM X a fa) (hb : EM X b fb) : EM X (.BinOp a op b pos) (mOp g fa fb) :=
 PE.imp (pe_op ho ha hb) fun _ _ _ h => tM_op hg h
theorem em_ix {r : R2} {g : Cs -> SV -> SV -> Option SV} (hr : IxR X r) (hg : R2ok X.K r g) (ha : EM X a fa) (hb : EM X b fb) (hs : PlainIx b) : EM X (.Subscript a b pos) (mOp g fa fb) :=
 PE.imp (pe_ix hr ha hb hs) fun _ _ _ h => tM_op hg h
noncomputable def mChain (g g' : Cs -> SV -> SV -> Option SV) (fa fb fc : PSt -> M SV) : PSt -> M SV := fun ρ => bnd (fa ρ) fun x => bnd (fb ρ) fun y => bnd (opM fun C => g C x y) fun z => bnd (mB z) fun b =>
 if b then bnd (fc ρ) fun w => opM fun C => g' C y w else ret (.v (.bl false))
theorem tM_chain {K : W.Frag} {r r' : R2} {g g' : Cs -> SV -> SV -> Option SV} (hg : R2ok K r g) (hg' : R2ok K r' g') {σ : St} {H : Hp} {Q : VK} (h : tM K (mChain g g' fa fb fc) σ H Q) : tChain r r' (tM K fa) (tM K fb) (tM K fc) σ H Q := by
 obtain ⟨ι, ρ, C, z, C', sr, e, q⟩ := h
 obtain ⟨x, C1, e1, e⟩ := Zaf e
 obtain ⟨y, C2, e2, e⟩ := Zaf e
 obtain ⟨z1, C3, e3, e'⟩ := Zaf e
 obtain ⟨e3g, hC3⟩ := Zas e3
 obtain ⟨k, C4, e4, e9⟩ := Zaf e'
 obtain ⟨hz1, hC4⟩ := ZbV e4
 subst hz1 hC4 hC3
 clear e' e4 e3 e
 have e := e9
 refine ⟨ι, ρ, C, x, C1, sr, e1, fun vx H1 f1 c1 r1 => ⟨ι, ρ, C1, y, C4, sr.step f1 c1, e2, fun vy H2 f2 c2 r2 => hg ι H2 C4 x y vx vy _ _ c2 (r1.mono c1 f2) r2 e3g fun v H3 f3 c3 r3 => ?_⟩⟩
 refine ⟨k, repB r3, ?_⟩
 cases k with
 | true =>
  rw [if_pos rfl] at e ⊢
  obtain ⟨w, C5, e5, e⟩ := Zaf e
  obtain ⟨e6, rfl⟩ := Zas e
  exact ⟨ι, ρ, C4, w, C', ((sr.step f1 c1).step f2 c2).step f3 c3, e5, fun vw H4 f4 c4 r4 => hg' ι H4 C' y w vy vw z _ c4 ((r2.mono c2 f3).mono c3 f4) r4 e6 fun v' H5 f5 c5 r5 =>
   q v' H5 (f1.trans (f2.trans (f3.trans (f4.trans f5)))) c5 r5⟩
 | false =>
  rw [if_neg Bool.false_ne_true] at e ⊢
  cases e
  exact q _ H3 (f1.trans (f2.trans f3)) c3 repB'
noncomputable def mTest (f : PSt -> M SV) : PSt -> M Bool := fun ρ => bnd (f ρ) mB
theorem tM_test {K : W.Frag} {f : PSt -> M SV} {σ : St} {H : Hp} {Q : Bool -> Hp -> Prop} (h : tMB K (mTest f) σ H Q) : tTest (tM K f) σ H Q := by
 obtain ⟨ι, ρ, C, z, C', sr, e, q⟩ := h
 obtain ⟨x, C1, e1, e⟩ := Zaf e
 obtain ⟨rfl, rfl⟩ := ZbV e
 exact ⟨ι, ρ, C, _, C', sr, e1, fun v H1 f1 c1 r1 => ⟨_, repB r1, q H1 f1 c1⟩⟩
noncomputable def deref (C : Cs) : SV -> Option PV
 | .v p => some p
 | .c k => C[k]?
noncomputable def truP : PV -> Option Bool
 | .non => some false
 | .bl b => some b
 | .int i => some (i != 0)
 | .str y => some ((y.length : Int) != 0)
 | .tup xs => some (!xs.isEmpty)
 | .lst xs => some (!xs.isEmpty)
 | .dct ks _ => some (!ks.isEmpty)
 | _ => none
noncomputable def mTru (f : PSt -> M SV) : PSt -> M Bool := fun ρ => bnd (f ρ) fun x => opM fun C => (deref C x).bind truP
inductive Lies (K : W.Frag) (ι : List Addr) (H : Hp) : PV -> V -> Prop
 | non : Lies K ι H .non .non
 | bl (b : Bool) : Lies K ι H (.bl b) (.bl b)
 | int (i : Int) : Lies K ι H (.int i) (.int i)
 | str (x : Str) (h : x.length <= sizeLine) : Lies K ι H (.str x) (.str x)
 | tup {a : Addr} {ps : List PV} {vs : List V} (h : TpR H a vs) (r : Reps K ι H ps vs) : Lies K ι H (.tup ps) (.ref a)
 | lst {a : Addr} {ps : List PV} {vs : List V} (h : SqL K H a vs) (r : Reps K ι H ps vs) : Lies K ι H (.lst ps) (.ref a)
 | dct {a : Addr} {qs : List Key} {ps : List PV} {vs : List V} (h : H a = some (.dK (qs.zip vs))) (hl : qs.length = vs.length) (r : Reps K ι H ps vs) : Lies K ι H (.dct (qs.map kP) ps) (.ref a)
 | dtt {a : Addr} {ks : List (List Key)} {ps : List PV} {vs : List V} (h : H a = some (.dT (ks.zip vs))) (hl : ks.length = vs.length) (r : Reps K ι H ps vs) : Lies K ι H (.dtt ks ps) (.ref a)
 | fn (a : Addr) : Lies K ι H (.fn a) (.ref a)
 | ty (n : String) : Lies K ι H (.ty n) (.ty n)
theorem Rep.lies {K : W.Frag} {ι : List Addr} {H : Hp} : ∀ {p : PV} {v : V}, Rep K ι H p v -> Lies K ι H p v
 | .non, v, h => by unfold Rep at h; subst h; exact .non
 | .bl b, v, h => by unfold Rep at h; subst h; exact .bl b
 | .int i, v, h => by unfold Rep at h; subst h; exact .int i
 | .str x, v, h => by unfold Rep at h; obtain ⟨rfl, h⟩ := h; exact .str x h
 | .tup ps, v, h => by unfold Rep at h; obtain ⟨a, vs, rfl, h, r⟩ := h; exact .tup h r
 | .lst ps, v, h => by unfold Rep at h; obtain ⟨a, vs, rfl, h, r⟩ := h; exact .lst h.sq r
 | .dct ks ps, v, h => by unfold Rep at h; obtain ⟨a, qs, vs, rfl, n, hd, hl, rfl, r⟩ := h; exact .dct hd hl r
 | .dtt ks ps, v, h => by unfold Rep at h; obtain ⟨a, vs, rfl, n, hd, hl, r⟩ := h; exact .dtt hd hl r
 | .fn a, v, h => by unfold Rep at h; subst h; exact .fn a
 | .ty n, v, h => by unfold Rep at h; subst h; exact .ty n
theorem RepS.lies {K : W.Frag} {ι : List Addr} {H : Hp} {C : Cs} (cr : CR K ι H C) {x : SV} {p : PV} {v : V} (r : RepS K ι H x v) (e : deref C x = some p) : Lies K ι H p v := by
 cases x with
 | v q => cases e; exact Rep.lies r
 | c k =>
  obtain ⟨a, rfl, hk⟩ := r
  have ok := cr.ok k a p hk e
  cases p with
  | lst ps => obtain ⟨vs, h, r⟩ := ok; exact .lst (.of h) r
  | dct ks ps => obtain ⟨qs, vs, h, hl, rfl, r⟩ := ok; exact .dct h hl r
  | dtt ks ps => obtain ⟨vs, h, hl, r⟩ := ok; exact .dtt h hl r
  | _ => exact ok.elim
theorem Reps.isEmpty {K : W.Frag} {ι : List Addr} {H : Hp} {ps : List PV} {vs : List V} (r : Reps K ι H ps vs) : ps.isEmpty = vs.isEmpty := by
 have := r.length
 cases ps <;> cases vs <;> simp at this ⊢
theorem Lies.tru {K : W.Frag} {ι : List Addr} {H : Hp} {p : PV} {v : V} {k : Bool} (l : Lies K ι H p v) (e : truP p = some k) : TruV K v H k := by
 cases l with
 | non => cases e; rfl
 | bl b => cases e; rfl
 | int i => cases e; rfl
 | str x h => cases e; exact ⟨h, rfl⟩
 | tup h r => cases e; exact .inr (.inl ⟨_, h.sq, by rw [r.isEmpty]⟩)
 | lst h r => cases e; exact .inl ⟨_, h, by rw [r.isEmpty]⟩
 | @dct a qs ps vs h hl r =>
  cases e
  refine .inr (.inr ⟨_, h, ?_⟩)
  cases qs <;> cases vs <;> simp at hl ⊢
 | dtt h hl r => cases e
 | fn a => cases e
 | ty n => cases e
noncomputable def mNotT (f : PSt -> M Bool) : PSt -> M Bool := fun ρ => bnd (f ρ) fun b => ret (!b)
noncomputable def mAndT (f g : PSt -> M Bool) : PSt -> M Bool := fun ρ => bnd (f ρ) fun b => if b then g ρ else ret false
noncomputable def mOrT (f g : PSt -> M Bool) : PSt -> M Bool := fun ρ => bnd (f ρ) fun b => if b then ret true else g ρ
noncomputable def mAndV (f g : PSt -> M SV) : PSt -> M SV := fun ρ => bnd (f ρ) fun x => bnd (mB x) fun b => if b then g ρ else ret (.v (.bl false))
noncomputable def mOrV (f g : PSt -> M SV) : PSt -> M SV := fun ρ => bnd (f ρ) fun x => bnd (mB x) fun b => if b then ret (.v (.bl true)) else g ρ
noncomputable def mNotV (f : PSt -> M SV) : PSt -> M SV := fun ρ => bnd (f ρ) fun x => bnd (mB x) fun b => ret (.v (.bl !b))
noncomputable def mIf (t : PSt -> M Bool) (f g : PSt -> M SV) : PSt -> M SV := fun ρ => bnd (t ρ) fun b => if b then f ρ else g ρ
noncomputable def aNil : PSt -> M (List SV) := fun _ => ret []
noncomputable def aCons (f : PSt -> M SV) (g : PSt -> M (List SV)) : PSt -> M (List SV) := fun ρ => bnd (f ρ) fun x => bnd (g ρ) fun xs => ret (x :: xs)
noncomputable def C1ok (K : W.Frag) (r : List V -> Hp -> VK -> Prop) (g : Cs -> List SV -> Option SV) : Prop :=
 ∀ (ι : List Addr) (H : Hp) (C : Cs) (xs : List SV) (vs : List V) (z : SV) (Q : VK), CR K ι H C -> RepSs K ι H xs vs -> g C xs = some z -> (∀ v H', Fr ι H H' -> CR K ι H' C -> RepS K ι H' z v -> Q v H') -> r vs H Q
noncomputable def mCB (g : Cs -> List SV -> Option SV) (fs : PSt -> M (List SV)) : PSt -> M SV := fun ρ => bnd (fs ρ) fun xs => opM fun C => g C xs
theorem tM_CB {K : W.Frag} {r : List V -> Hp -> VK -> Prop} {g : Cs -> List SV -> Option SV} {fs : PSt -> M (List SV)} (hg : C1ok K r g) {σ : St} {H : Hp} {Q : VK} (h : tM K (mCB g fs) σ H Q) : tCB r (tMA K fs) σ H Q := by
 obtain ⟨ι, ρ, C, z, C', sr, e, q⟩ := h
 obtain ⟨xs, C1, e1, e⟩ := Zaf e
 obtain ⟨e2, rfl⟩ := Zas e
 exact ⟨ι, ρ, C, xs, C', sr, e1, fun vs H1 f1 c1 r1 => hg ι H1 C' xs vs z _ c1 r1 e2 fun v H2 f2 c2 r2 => q v H2 (f1.trans f2) c2 r2⟩
theorem Zbs {id : String} {r : List V -> Hp -> VK -> Prop} {g : Cs -> List SV -> Option SV} {fs : PSt -> M (List SV)} (hc : CallR X (.builtin id) r) (hg : C1ok X.K r g) (hgl : Gl X x) (hm : X.mg x = none) (hv : bootBuiltins x = some (.builtin id)) (ha : AM X (e :: es) fs) (hn : x ≠ "__name__" := by decide) (hdb : (x == ("__debug__" : Str)) = false := by decide)
  (he : starEach (e :: es) X.env = (false, eval e X.env) :: starEach es X.env := by rfl) (hpl : (backTo pos (starEach es X.env)).any (·.1) = false := by rfl) : EM X (.Call (.Name x p) (e :: es) [] pos) (mCB g fs) :=
 PE.imp (pe_callB hc hgl hm hv ha hn hdb he hpl) fun _ _ _ h => tM_CB hg h
theorem Zbr {T : String} {r : List V -> Hp -> VK -> Prop} {g : Cs -> List SV -> Option SV} {fs : PSt -> M (List SV)} (hc : CallR X (.type T) r) (hg : C1ok X.K r g) (hgl : Gl X x) (hm : X.mg x = none) (hv : bootBuiltins x = some (.type T)) (ha : AM X (e :: es) fs) (hn : x ≠ "__name__" := by decide) (hdb : (x == ("__debug__" : Str)) = false := by decide)
  (he : starEach (e :: es) X.env = (false, eval e X.env) :: starEach es X.env := by rfl) (hpl : (backTo pos (starEach es X.env)).any (·.1) = false := by rfl) : EM X (.Call (.Name x p) (e :: es) [] pos) (mCB g fs) :=
 PE.imp (pe_callTy hc hgl hm hv ha hn hdb he hpl) fun _ _ _ h => tM_CB hg h
noncomputable def liftSp (K : W.Frag) (F : List SV -> M SV) : Sp := fun vs H Q _ => ∃ ι ss C r C', CR K ι H C /\ RepSs K ι H ss vs /\ F ss C = some (r, C') /\ ∀ v H', Fr ι H H' -> CR K ι H' C' -> RepS K ι H' r v -> Q v H'
noncomputable def mFn (F : List SV -> M SV) (fs : PSt -> M (List SV)) : PSt -> M SV := fun ρ => bnd (fs ρ) F
end
noncomputable def Ex (ι ι2 : List Addr) (H H' : Hp) : Prop := Fr ι H H' /\ ∀ b ∈ ι2, H b = none
section
variable {K : W.Frag} {ι ι2 ι3 ι' : List Addr} {H H1 H2 H' : Hp} {C C' C1 : Cs} {ρ : PSt} {σ : St}
mutual
theorem Rep.tr (cr : CR K ι H C) (h : ∀ b o, b ∉ ι -> H b = some o -> b ∉ ι' /\ H' b = some o) : ∀ (p : PV) (v : V), Rep K ι H p v -> Rep K ι' H' p v
 | .non, v, q => by unfold Rep at q ⊢; exact q
 | .bl b, v, q => by unfold Rep at q ⊢; exact q
 | .int i, v, q => by unfold Rep at q ⊢; exact q
 | .str x, v, q => by unfold Rep at q ⊢; exact q
 | .tup ps, v, q => by
  unfold Rep at q ⊢
  obtain ⟨a, vs, e, sq, r⟩ := q
  exact ⟨a, vs, e, (h _ _ (cr.notup sq (fun _ e => nomatch e) fun _ e => nomatch e) sq).2, Reps.tr cr h ps vs r⟩
 | .lst ps, v, q => by
  unfold Rep at q ⊢
  obtain ⟨a, vs, e, sq, r⟩ := q
  refine ⟨a, vs, e, ?_, Reps.tr cr h ps vs r⟩
  rcases sq with ⟨n, z | ⟨o, z⟩⟩ | z
  ·exact .inl ⟨(h _ _ n z).1, .inl (h _ _ n z).2⟩
  ·exact .inl ⟨(h _ _ n z).1, .inr ⟨o, (h _ _ n z).2⟩⟩
  ·exact .inr z
 | .dct ks ps, v, q => by
  unfold Rep at q ⊢
  obtain ⟨a, qs, vs, e, n, hd, hl, hk, r⟩ := q
  exact ⟨a, qs, vs, e, (h _ _ n hd).1, (h _ _ n hd).2, hl, hk, Reps.tr cr h ps vs r⟩
 | .dtt ks ps, v, q => by
  unfold Rep at q ⊢
  obtain ⟨a, vs, e, n, hd, hl, r⟩ := q
  exact ⟨a, vs, e, (h _ _ n hd).1, (h _ _ n hd).2, hl, Reps.tr cr h ps vs r⟩
 | .fn a, v, q => by unfold Rep at q ⊢; exact q
 | .ty n, v, q => by unfold Rep at q ⊢; exact q
theorem Reps.tr (cr : CR K ι H C) (h : ∀ b o, b ∉ ι -> H b = some o -> b ∉ ι' /\ H' b = some o) : ∀ (ps : List PV) (vs : List V), Reps K ι H ps vs -> Reps K ι' H' ps vs
 | [], vs, q => by unfold Reps at q ⊢; exact q
 | p :: ps, vs, q => by
  unfold Reps at q ⊢
  obtain ⟨v, r, e, h1, h2⟩ := q
  exact ⟨v, r, e, Rep.tr cr h p v h1, Reps.tr cr h ps r h2⟩
end
theorem Ex.fr (f : Fr ι H H') : Ex ι [] H H' := ⟨f, fun _ z => nomatch z⟩
theorem Ex.out (x : Ex ι ι2 H H') : ∀ b o, b ∉ ι -> H b = some o -> b ∉ ι ++ ι2 /\ H' b = some o := fun b o n e => by
 refine ⟨fun z => ?_, x.1 b o n e⟩
 rcases List.mem_append.mp z with z | z
 ·exact n z
 ·rw [x.2 b z] at e; cases e
theorem Ex.trans (c : CR K (ι ++ ι2) H1 C1) (x : Ex ι ι2 H H1) (y : Ex (ι ++ ι2) ι3 H1 H2) : Ex ι (ι2 ++ ι3) H H2 := by
 refine ⟨fun b o n e => (y.out b o (x.out b o n e).1 (x.out b o n e).2).2, fun b hb => ?_⟩
 rcases List.mem_append.mp hb with hb | hb
 ·exact x.2 b hb
 ·cases e : H b with
  | none => rfl
  | some o =>
   by_cases n : b ∈ ι
   ·rcases c.mut (List.mem_append_left _ n) with ⟨vs, z⟩ | ⟨vs, z⟩ | ⟨vs, z⟩
    ·rw [y.2 b hb] at z; cases z
    ·rw [y.2 b hb] at z; cases z
    ·rw [y.2 b hb] at z; cases z
   ·have := x.1 b o n e
    rw [y.2 b hb] at this; cases this
theorem RepS.ex (cr : CR K ι H C) (x : Ex ι ι2 H H') {s : SV} {v : V} (r : RepS K ι H s v) : RepS K (ι ++ ι2) H' s v := by
 cases s with
 | v p => exact Rep.tr cr x.out p v r
 | c k =>
  obtain ⟨a, e, hk⟩ := r
  refine ⟨a, e, ?_⟩
  have hl : k < ι.length := by
   rcases Nat.lt_or_ge k ι.length with q | q
   ·exact q
   ·rw [List.getElem?_eq_none_iff.mpr q] at hk; cases hk
  rw [List.getElem?_append_left hl]; exact hk
theorem SR.ex (sr : SR K ι H ρ σ C) (x : Ex ι ι2 H H') (c : CR K (ι ++ ι2) H' C') : SR K (ι ++ ι2) H' ρ σ C' :=
 ⟨c, sr.len, fun i s e => by obtain ⟨v, h1, h2⟩ := sr.loc i s e; exact ⟨v, h1, h2.ex sr.cr x⟩⟩
end
theorem RepSs.length {K : W.Frag} {ι : List Addr} {H : Hp} : ∀ {ss : List SV} {vs : List V}, RepSs K ι H ss vs -> ss.length = vs.length
 | [], vs, h => by rw [show vs = [] from h]; rfl
 | s :: ss, vs, h => by obtain ⟨v, r, rfl, _, t⟩ := h; rw [List.length_cons, List.length_cons, RepSs.length t]
noncomputable def Done (K : W.Frag) (ι : List Addr) (H : Hp) (D : Ends) (C' : Cs) : PF -> Prop
 | .nx ρ => ∀ ι2 σ' H', Ex ι ι2 H H' -> SR K (ι ++ ι2) H' ρ σ' C' -> D.nx σ' H'
 | .rt r => ∀ ι2 v H', Ex ι ι2 H H' -> CR K (ι ++ ι2) H' C' -> RepS K (ι ++ ι2) H' r v -> D.rt v H'
 | .bk ρ => ∀ ι2 σ' H', Ex ι ι2 H H' -> SR K (ι ++ ι2) H' ρ σ' C' -> D.bk σ' H'
 | .ct ρ => ∀ ι2 σ' H', Ex ι ι2 H H' -> SR K (ι ++ ι2) H' ρ σ' C' -> D.ct σ' H'
 | .rf ps => ∀ ι2 p vs H', Ex ι ι2 H H' -> CR K (ι ++ ι2) H' C' -> H' p = none -> Reps K (ι ++ ι2) H' ps vs -> D.rt (.ref p) (upd H' p (.lst vs))
 | .rq qs => ∀ ι2 p vs H', Ex ι ι2 H H' -> CR K (ι ++ ι2) H' C' -> H' p = none -> RepSs K (ι ++ ι2) H' qs vs -> D.rt (.ref p) (upd H' p (.tup vs))
noncomputable def tMS (K : W.Frag) (f : PSt -> M PF) : TS := fun D σ H => ∃ ι ρ C fl C', SR K ι H ρ σ C /\ f ρ C = some (fl, C') /\ Done K ι H D C' fl
noncomputable def SM (X : Cx) (st : Stmt) (f : PSt -> M PF) : Prop := PS X st (tMS X.K f)
noncomputable def BM (X : Cx) (sts : List Stmt) (f : PSt -> M PF) : Prop := PSs X sts (tMS X.K f)
section
variable {K : W.Frag} {ι ι2 : List Addr} {H H' : Hp} {C C' C1 : Cs} {ρ : PSt} {σ : St} {D : Ends} {fl : PF}
theorem Done.tr (c : CR K (ι ++ ι2) H' C1) (x : Ex ι ι2 H H') (d : Done K ι H D C' fl) : Done K (ι ++ ι2) H' D C' fl := by
 cases fl with
 | nx ρ => intro ι3 σ' H2 y sr; rw [List.append_assoc] at sr; exact d _ σ' H2 (x.trans c y) sr
 | rt r => intro ι3 v H2 y cr rr; rw [List.append_assoc] at cr rr; exact d _ v H2 (x.trans c y) cr rr
 | bk ρ => intro ι3 σ' H2 y sr; rw [List.append_assoc] at sr; exact d _ σ' H2 (x.trans c y) sr
 | ct ρ => intro ι3 σ' H2 y sr; rw [List.append_assoc] at sr; exact d _ σ' H2 (x.trans c y) sr
 | rf ps => intro ι3 p vs H2 y cr hp rs; rw [List.append_assoc] at cr rs; exact d _ p vs H2 (x.trans c y) cr hp rs
 | rq ps => intro ι3 p vs H2 y cr hp rs; rw [List.append_assoc] at cr rs; exact d _ p vs H2 (x.trans c y) cr hp rs
theorem Done.fr (c : CR K ι H' C1) (f : Fr ι H H') (d : Done K ι H D C' fl) : Done K ι H' D C' fl := by
 have := Done.tr (ι2 := []) (by rw [List.append_nil]; exact c) (Ex.fr f) d
 rw [List.append_nil] at this; exact this
theorem Done.nx0 (sr : SR K ι H ρ σ C') (d : Done K ι H D C' (.nx ρ)) : D.nx σ H := d [] σ H (Ex.fr .refl) (by rw [List.append_nil]; exact sr)
end
section
variable {X : Cx} {a b e c tg : Expr} {es : List Expr} {st : Stmt} {rest sts sts' : List Stmt} {f g : PSt -> M PF} {pos p pos' : Pos} {x : Str}
noncomputable def mSkip : PSt -> M PF := fun ρ => ret (.nx ρ)
noncomputable def mSeq (f g : PSt -> M PF) : PSt -> M PF := fun ρ => bnd (f ρ) fun fl => match fl with
 | .nx ρ' => g ρ'
 | fl => ret fl
noncomputable def mIfS (t : PSt -> M Bool) (f g : PSt -> M PF) : PSt -> M PF := fun ρ => bnd (t ρ) fun b => if b then f ρ else g ρ
noncomputable def mRet (f : PSt -> M SV) : PSt -> M PF := fun ρ => bnd (f ρ) fun r => ret (.rt r)
noncomputable def mRetF (f : PSt -> M (List PV)) : PSt -> M PF := fun ρ => bnd (f ρ) fun r => ret (.rf r)
noncomputable def mDrop (f : PSt -> M SV) : PSt -> M PF := fun ρ => bnd (f ρ) fun _ => ret (.nx ρ)
noncomputable def mSet (i : Nat) (f : PSt -> M SV) : PSt -> M PF := fun ρ => bnd (f ρ) fun r => ret (.nx (ρ.set i (some r)))
noncomputable def mNew (i : Nat) (f : PSt -> M (List PV)) : PSt -> M PF := fun ρ => bnd (f ρ) fun ps => fun C => some (.nx (ρ.set i (some (.c C.length))), C ++ [.lst ps])
theorem new_cell {K : W.Frag} {ι : List Addr} {H H' : Hp} {ρ : PSt} {σ : St} {C C1 : Cs} {D : Ends} {i : Nat} {ps : List PV} {q : Addr} {vs : List V} (sr : SR K ι H ρ σ C) (d : Done K ι H D (C1 ++ [.lst ps]) (.nx (ρ.set i (some (.c C1.length)))))
  (f1 : Fr ι H H') (c1 : CR K ι H' C1) (hq : H' q = none) (rs : Reps K ι H' ps vs) : D.nx (σ.set i (some (.ref q))) (upd H' q (.lst vs)) := by
 have c2 : CR K (ι ++ [q]) (upd H' q (.lst vs)) (C1 ++ [.lst ps]) := c1.add hq ⟨vs, ZaP, RepsNew c1 hq ps vs rs⟩
 have x : Ex ι [q] H (upd H' q (.lst vs)) := ⟨f1.trans (Fr.new hq), fun b hb => by
  have : b = q := by simpa using hb
  subst this
  cases e : H b with
  | none => rfl
  | some o =>
   by_cases n : b ∈ ι
   ·rcases c1.mut n with ⟨vs, z⟩ | ⟨vs, z⟩ | ⟨vs, z⟩
    ·rw [hq] at z; cases z
    ·rw [hq] at z; cases z
    ·rw [hq] at z; cases z
   ·have := f1 b o n e; rw [hq] at this; cases this⟩
 refine d [q] _ _ x ((sr.ex x c2).set i ⟨q, rfl, ?_⟩)
 rw [← c1.len]; simp
noncomputable def plain : List SV -> Option (List PV)
 | [] => some []
 | .v p :: r => (plain r).map (p :: ·)
 | .c _ :: _ => none
theorem Zbd {K : W.Frag} {ι : List Addr} {H : Hp} : ∀ {xs : List SV} {ps : List PV} {vs : List V}, plain xs = some ps -> RepSs K ι H xs vs -> Reps K ι H ps vs /\ vs.length = xs.length
 | [], ps, vs, e, r => by cases e; rw [show vs = [] from r]; exact ⟨.nil, rfl⟩
 | .v p :: xs, ps, vs, e, r => by
  obtain ⟨v, w, rfl, h1, h2⟩ := r
  unfold plain at e
  cases h : plain xs with
  | none => rw [h] at e; cases e
  | some qs =>
   rw [h] at e; cases e
   exact ⟨.cons h1 (Zbd h h2).1, by rw [List.length_cons, List.length_cons, (Zbd h h2).2]⟩
 | .c _ :: _, ps, vs, e, r => by cases e
theorem k1000 {n : Nat} (h : n <= 1000) : n <= sizeLine := Nat.le_trans h (by rw [sizeLine_eq]; decide)
noncomputable def mTup (fs : PSt -> M (List SV)) : PSt -> M SV := fun ρ => bnd (fs ρ) fun xs => opM fun _ => if xs.length <= 1000 then (plain xs).map fun ps => .v (.tup ps) else none
noncomputable def mLst (fs : PSt -> M (List SV)) : PSt -> M (List PV) := fun ρ => bnd (fs ρ) fun xs => opM fun _ => if xs.length <= 1000 then plain xs else none
noncomputable def mVal (f : PSt -> M (List PV)) : PSt -> M SV := fun ρ => bnd (f ρ) fun ps => ret (.v (.lst ps))
theorem Zbv {K : W.Frag} {ι : List Addr} {H : Hp} {C : Cs} {ps : List PV} {q : Addr} {vs : List V} (c1 : CR K ι H C) (hq : H q = none) (rs : Reps K ι H ps vs) : Rep K ι (upd H q (.lst vs)) (.lst ps) (.ref q) := by
 unfold Rep
 refine ⟨q, vs, rfl, .inl ⟨fun z => ?_, .inl ZaP⟩, Reps.stay (fun b o e => by rw [Zam (Zak e hq)]; exact e) ps vs rs⟩
 rcases c1.mut z with ⟨_, e⟩ | ⟨_, e⟩ | ⟨_, e⟩
 ·rw [hq] at e; cases e
 ·rw [hq] at e; cases e
 ·rw [hq] at e; cases e
noncomputable def tMG (K : W.Frag) (g : PV -> PSt -> Option PSt) : TG := fun v σ H Q => ∃ ι ρ C p ρ', SR K ι H ρ σ C /\ Rep K ι H p v /\ g p ρ = some ρ' /\ ∀ σ', SR K ι H ρ' σ' C -> Q σ' H
noncomputable def tMGs (K : W.Frag) (g : List PV -> PSt -> Option PSt) : TGs := fun v σ H Q => ∃ ι ρ C p ρ', SR K ι H ρ σ C /\ Reps K ι H p v /\ g p ρ = some ρ' /\ ∀ σ', SR K ι H ρ' σ' C -> Q σ' H
noncomputable def GM (X : Cx) (tg : Expr) (g : PV -> PSt -> Option PSt) : Prop := PG X tg (tMG X.K g)
noncomputable def GMs (X : Cx) (ts : List Expr) (g : List PV -> PSt -> Option PSt) : Prop := PGs X ts (tMGs X.K g)
theorem PG.imp {t t' : TG} (h : PG X tg t) (k : ∀ v σ H Q, t' v σ H Q -> t v σ H Q) : PG X tg t' := fun pins s σ H v u Q I r q => h pins s σ H v u Q I r (k v σ H Q q)
theorem PGs.imp {t t' : TGs} (h : PGs X es t) (k : ∀ v σ H Q, t' v σ H Q -> t v σ H Q) : PGs X es t' := fun pins s σ H v u Q I r q => h pins s σ H v u Q I r (k v σ H Q q)
noncomputable def hName (i : Nat) : PV -> PSt -> Option PSt := fun p ρ => some (ρ.set i (some (.v p)))
noncomputable def hNil : List PV -> PSt -> Option PSt
 | [], ρ => some ρ
 | _ :: _, _ => none
noncomputable def hCons (g : PV -> PSt -> Option PSt) (gs : List PV -> PSt -> Option PSt) : List PV -> PSt -> Option PSt
 | [], _ => none
 | p :: ps, ρ => (g p ρ).bind fun ρ' => gs ps ρ'
noncomputable def hTup (gs : List PV -> PSt -> Option PSt) (n : Nat) : PV -> PSt -> Option PSt
 | .tup ps, ρ => if ps.length = n then gs ps ρ else none
 | _, _ => none
noncomputable def mAsg (f : PSt -> M SV) (g : PV -> PSt -> Option PSt) : PSt -> M PF := fun ρ => bnd (f ρ) fun r => match r with
 | .v p => fun C => (g p ρ).map fun ρ' => (.nx ρ', C)
 | .c _ => fun _ => none
end
structure Iter (K : W.Frag) (ι : List Addr) (H1 : Hp) (xs : List PV) (J : It) : Prop where
 go : ∀ ι2 H2 C2, Ex ι ι2 H1 H2 -> CR K (ι ++ ι2) H2 C2 -> ∀ i, i < xs.length -> J.go i H2
 yld : ∀ ι2 H2 C2, Ex ι ι2 H1 H2 -> CR K (ι ++ ι2) H2 C2 -> ∀ i v H3, i < xs.length -> J.yld i H2 v H3 -> (∀ b o, H2 b = some o -> H3 b = some o) /\ ∃ p, xs[i]? = some p /\ Rep K (ι ++ ι2) H3 p v
 stop : ∀ ι2 H2 C2, Ex ι ι2 H1 H2 -> CR K (ι ++ ι2) H2 C2 -> J.stop xs.length H2
noncomputable def tMI (K : W.Frag) (f : PSt -> M (List PV)) : TI := fun σ H R => ∃ ι ρ C xs C', SR K ι H ρ σ C /\ f ρ C = some (xs, C') /\ ∀ J H1, Fr ι H H1 -> CR K ι H1 C' -> Iter K ι H1 xs J -> R J H1
noncomputable def IM (X : Cx) (tg iter : Expr) (f : PSt -> M (List PV)) : Prop := PI X tg iter (tMI X.K f)
section
variable {X : Cx} {e tg iter elt : Expr} {es : List Expr} {body : List Stmt} {f : PSt -> M PF} {pos p : Pos} {x : Str}
noncomputable def loop (g : PV -> PSt -> Option PSt) (f : PSt -> M PF) : List PV -> PSt -> M PF
 | [], ρ => ret (.nx ρ)
 | x :: xs, ρ => match g x ρ with
  | none => fun _ => none
  | some ρ1 => bnd (f ρ1) fun fl => match fl with
   | .nx ρ2 => loop g f xs ρ2
   | .ct ρ2 => loop g f xs ρ2
   | .bk ρ2 => ret (.nx ρ2)
   | .rt r => ret (.rt r)
   | .rf ps => ret (.rf ps)
   | .rq ps => ret (.rq ps)
noncomputable def mFor (it : PSt -> M (List PV)) (g : PV -> PSt -> Option PSt) (f : PSt -> M PF) : PSt -> M PF := fun ρ => bnd (it ρ) fun xs => loop g f xs ρ
noncomputable def stIn' (vs : List Str) (fr : List Nat) (ρ : PSt) : PSt := vs.map (fun _ => none) ++ fr.map fun i => (ρ[i]?).join
noncomputable def compL (g : PV -> PSt -> Option PSt) (tt : PSt -> M Bool) (te : PSt -> M SV) : List PV -> PSt -> List PV -> M (List PV)
 | [], _, ys => ret ys
 | x :: xs, ρ, ys => match g x ρ with
  | none => fun _ => none
  | some ρ1 => bnd (tt ρ1) fun b => if b then bnd (te ρ1) fun y => match y with
    | .v p => compL g tt te xs ρ1 (ys ++ [p])
    | .c _ => fun _ => none
   else compL g tt te xs ρ1 ys
noncomputable def mComp (it : PSt -> M (List PV)) (vs : List Str) (fr : List Nat) (g : PV -> PSt -> Option PSt) (tt : PSt -> M Bool) (te : PSt -> M SV) : PSt -> M (List PV) := fun ρ => bnd (it ρ) fun xs => if xs.length <= 100000 then compL g tt te xs (stIn' vs fr ρ) [] else fun _ => none
theorem SR.block {K : W.Frag} {ι : List Addr} {H : Hp} {ρ : PSt} {σ : St} {C : Cs} (sr : SR K ι H ρ σ C) (vs : List Str) (fr : List Nat) : SR K ι H (stIn' vs fr ρ) (stIn vs fr σ) C := by
 refine ⟨sr.cr, by simp [stIn', stIn], fun i s e => ?_⟩
 unfold stIn' at e
 unfold stIn
 rcases Nat.lt_or_ge i vs.length with h | h
 ·rw [List.getElem?_append_left (by simpa using h)] at e
  simp at e
 ·rw [List.getElem?_append_right (by simpa using h)] at e
  rw [List.getElem?_append_right (by simpa using h)]
  simp only [List.length_map, List.getElem?_map] at e ⊢
  cases hj : fr[i - vs.length]? with
  | none => rw [hj] at e; cases e
  | some j =>
   rw [hj] at e
   have e' : (ρ[j]?).join = some s := by simpa using e
   have e2 : ρ[j]? = some (some s) := by
    cases hr : ρ[j]? with
    | none => rw [hr] at e'; cases e'
    | some o => rw [hr] at e'; simp at e'; rw [e']
   obtain ⟨v, h1, h2⟩ := sr.loc j s e2
   refine ⟨v, ?_, h2⟩
   simp [h1]
theorem k100000 {n : Nat} (h : n <= 100000) : n <= sizeLine := Nat.le_trans h (by rw [sizeLine_eq]; decide)
theorem comp_pure {K : W.Frag} {it : PSt -> M (List PV)} {vs : List Str} {fr : List Nat} {g : PV -> PSt -> Option PSt} {tt : PSt -> M Bool} {te : PSt -> M SV} {σ : St} {H : Hp} {Q : VK} {ι : List Addr} {ρ : PSt} {C C' : Cs} {res : List PV} (sr : SR K ι H ρ σ C)
  (e : mComp it vs fr g tt te ρ C = some (res, C')) (q : ∀ p vs H', Fr ι H H' -> CR K ι H' C' -> H' p = none -> Reps K ι H' res vs -> Q (.ref p) (upd H' p (.lst vs))) : tComp (tMI K it) vs fr (tMG K g) (tMB K tt) (tM K te) σ H Q := by
 obtain ⟨xs, C1, e1, e⟩ := Zaf e
 refine ⟨ι, ρ, C, xs, C1, sr, e1, fun J H1 f1 c1 it1 => ?_⟩
 by_cases hz : xs.length <= 100000
 case neg => rw [if_neg hz] at e; cases e
 rw [if_pos hz] at e
 have sr1 := (sr.step f1 c1).block vs fr
 have x0 : ∀ {H2 : Hp}, Fr ι H1 H2 -> Ex ι [] H1 H2 := fun f => Ex.fr f
 have c0 : ∀ {H2 : Hp} {C2 : Cs}, CR K ι H2 C2 -> CR K (ι ++ []) H2 C2 := fun c => by rw [List.append_nil]; exact c
 refine ⟨fun i m σ2 ys H2 => ∃ ρ2 C2 ps, m = xs.length - i /\ i <= xs.length /\ Fr ι H1 H2 /\ SR K ι H2 ρ2 σ2 C2 /\ Reps K ι H2 ps ys /\ ps.length <= i /\ compL g tt te (xs.drop i) ρ2 ps C2 = some (res, C'), ⟨xs.length, _, C1, [], rfl, Nat.zero_le _, .refl, sr1, .nil, Nat.le_refl _, e⟩, ?_⟩
 rintro i m σ2 ys H2 ⟨ρ2, C2, ps, rfl, hi2, f2, sr2, rs2, hps, e2⟩
 have hys : ys.length <= sizeLine := by rw [← rs2.length]; exact k100000 (Nat.le_trans (Nat.le_trans hps hi2) hz)
 rcases Nat.lt_or_ge i xs.length with hlt | hge
 ·right
  refine ⟨it1.go [] H2 C2 (x0 f2) (c0 sr2.cr) i hlt, hys, fun σ' ys' H' => ∃ ρ2 C2 ps, Fr ι H1 H' /\ SR K ι H' ρ2 σ' C2 /\ Reps K ι H' ps ys' /\ ps.length <= i + 1 /\ compL g tt te (xs.drop (i + 1)) ρ2 ps C2 = some (res, C'), ?_, ?_⟩
  ·rintro σ' ys' H' ⟨ρ3, C3, ps3, f3, sr3, rs3, h3, e3⟩
   exact ⟨xs.length - (i + 1), by lia, ρ3, C3, ps3, rfl, hlt, f3, sr3, rs3, h3, e3⟩
  ·intro v H3 y
   obtain ⟨sm, qv, hq, rq⟩ := it1.yld [] H2 C2 (x0 f2) (c0 sr2.cr) i v H3 hlt y
   rw [List.append_nil] at rq
   have hd : xs.drop i = qv :: xs.drop (i + 1) := by
    rw [List.drop_eq_getElem_cons hlt]
    rw [List.getElem?_eq_getElem hlt] at hq
    rw [Option.some.inj hq]
   rw [hd] at e2
   unfold compL at e2
   cases hg1 : g qv ρ2 with
   | none => rw [hg1] at e2; cases e2
   | some ρ3 =>
    rw [hg1] at e2
    obtain ⟨b, C3, e3, e4⟩ := Zaf e2
    have fr3 : Fr ι H2 H3 := fun b o _ z => sm b o z
    have cr3 : CR K ι H3 C2 := sr2.cr.same sm
    refine ⟨ι, ρ2, C2, qv, ρ3, sr2.step fr3 cr3, rq, hg1, fun σ4 sr4 => ⟨ι, ρ3, C2, b, C3, sr4, e3, fun H5 f5 c5 => ?_⟩⟩
    have f15 := f2.trans (fr3.trans f5)
    have rs5 : Reps K ι H5 ps ys := Reps.mono cr3 f5 _ _ (Reps.mono sr2.cr fr3 _ _ rs2)
    cases b with
    | true =>
     rw [if_pos rfl] at e4
     dsimp only
     rw [if_pos rfl]
     obtain ⟨y1, C6, e6, e7⟩ := Zaf e4
     refine ⟨ι, ρ3, C3, y1, C6, sr4.step f5 c5, e6, fun v7 H7 f7 c7 r7 => ?_⟩
     cases y1 with
     | c k => cases e7
     | v p7 => exact ⟨ρ3, C6, ps ++ [p7], f15.trans f7, (sr4.step f5 c5).step f7 c7, (Reps.mono c5 f7 _ _ rs5).append (.cons r7 .nil), by simp; exact hps, e7⟩
    | false =>
     rw [if_neg Bool.false_ne_true] at e4
     dsimp only
     rw [if_neg Bool.false_ne_true]
     exact ⟨ρ3, C3, ps, f15, sr4.step f5 c5, rs5, Nat.le_succ_of_le hps, e4⟩
 ·left
  have hi3 : i = xs.length := by lia
  subst hi3
  rw [List.drop_length] at e2
  cases e2
  exact ⟨it1.stop [] H2 _ (x0 f2) (c0 sr2.cr), hys, fun D hD => q D ys H2 (f1.trans f2) sr2.cr hD rs2⟩
section
variable {ifs : List Expr} {scope : Scope} {vs fs : List Str} {fr : List Nat} {it : PSt -> M (List PV)} {g : PV -> PSt -> Option PSt} {tt : PSt -> M Bool} {te : PSt -> M SV}
noncomputable def TsM (X : Cx) (ifs : List Expr) (t : PSt -> M Bool) : Prop := PTs X ifs (tMB X.K t)
noncomputable def tOk : PSt -> M Bool := fun _ => ret true
end
end
theorem CR.cut {K : W.Frag} {ι ι2 : List Addr} {H : Hp} {C : Cs} {n : Nat} (c : CR K (ι ++ ι2) H C) (hn : ι.length = n) : CR K ι H (C.take n) := by
 have hlen : (ι ++ ι2).length = C.length := c.len
 rw [List.length_append] at hlen
 have hs : ∀ b o, H b = some o -> b ∉ ι ++ ι2 -> b ∉ ι := fun b o _ z q => z (List.mem_append_left _ q)
 refine ⟨by rw [List.length_take]; lia, (List.nodup_append.mp c.nd).1, fun k a d h1 h2 => ?_⟩
 have hk : k < ι.length := by
  rcases Nat.lt_or_ge k ι.length with q | q
  ·exact q
  ·rw [List.getElem?_eq_none_iff.mpr q] at h1; cases h1
 rw [List.getElem?_take_of_lt (by lia)] at h2
 have ok := c.ok k a d (by rw [List.getElem?_append_left hk]; exact h1) h2
 cases d with
 | lst ps => obtain ⟨vs, e, r⟩ := ok; exact ⟨vs, e, Reps.cells hs _ _ r⟩
 | dct ks ps => obtain ⟨qs, vs, e, hl, hk, r⟩ := ok; exact ⟨qs, vs, e, hl, hk, Reps.cells hs _ _ r⟩
 | dtt ks ps => obtain ⟨vs, e, hl, r⟩ := ok; exact ⟨vs, e, hl, Reps.cells hs _ _ r⟩
 | _ => exact ok.elim
noncomputable def fin (n : Nat) (C' : Cs) : SV -> Option (SV × Cs)
 | .v p => some (.v p, C'.take n)
 | .c k => if k < n then some (.c k, C'.take n) else (C'[k]?).map fun c => (.v c, C'.take n)
noncomputable def finQ (n : Nat) (C' : Cs) : List SV -> Option (List PV)
 | [] => some []
 | .v p :: r => (finQ n C' r).map (p :: ·)
 | .c k :: r => if k < n then none else (C'[k]?).bind fun c => (finQ n C' r).map (c :: ·)
noncomputable def mDef (n pad : Nat) (body : PSt -> M PF) : List SV -> M SV := fun ss C => if ss.length = n then (match body (ss.map some ++ List.replicate pad none) C with
 | some (.rt r, C') => fin C.length C' r
 | some (.nx _, C') => some (.v .non, C'.take C.length)
 | some (.rf ps, C') => some (.v (.lst ps), C'.take C.length)
 | some (.rq qs, C') => (finQ C.length C' qs).map fun ps => (.v (.tup ps), C'.take C.length)
 | _ => none) else none
noncomputable def mDefF (n pad : Nat) (body : PSt -> M PF) : List SV -> M (List PV) := fun ss C => if ss.length = n then (match body (ss.map some ++ List.replicate pad none) C with
 | some (.rf ps, C') => some (ps, C'.take C.length)
 | _ => none) else none
noncomputable def liftSpF (K : W.Frag) (F : List SV -> M (List PV)) : Sp := fun vs H Q _ => ∃ ι ss C ps C', CR K ι H C /\ RepSs K ι H ss vs /\ F ss C = some (ps, C') /\ ∀ p vs H', Fr ι H H' -> CR K ι H' C' -> H' p = none -> Reps K ι H' ps vs -> Q (.ref p) (upd H' p (.lst vs))
noncomputable def mFnF (F : List SV -> M (List PV)) (fs : PSt -> M (List SV)) : PSt -> M (List PV) := fun ρ => bnd (fs ρ) F
theorem fin_ok {K : W.Frag} {ι ι2 : List Addr} {H : Hp} {C' C2 : Cs} {n : Nat} {r r' : SV} {v : V} (c : CR K (ι ++ ι2) H C') (hn : ι.length = n) (rr : RepS K (ι ++ ι2) H r v) (e : fin n C' r = some (r', C2)) : CR K ι H C2 /\ RepS K ι H r' v := by
 have hs : ∀ b o, H b = some o -> b ∉ ι ++ ι2 -> b ∉ ι := fun b o _ z q => z (List.mem_append_left _ q)
 cases r with
 | v p => cases e; exact ⟨c.cut hn, Rep.cells hs p v rr⟩
 | c k =>
  obtain ⟨a, rfl, hk⟩ := rr
  replace e : (if k < n then some (SV.c k, C'.take n) else (C'[k]?).map fun c => (SV.v c, C'.take n)) = some (r', C2) := e
  by_cases h : k < n
  ·rw [if_pos h] at e
   cases e
   refine ⟨c.cut hn, a, rfl, ?_⟩
   rw [List.getElem?_append_left (by lia)] at hk; exact hk
  ·rw [if_neg h] at e
   cases hd : C'[k]? with
   | none => rw [hd] at e; cases e
   | some d =>
    rw [hd] at e
    cases e
    refine ⟨c.cut hn, ?_⟩
    have ok := c.ok k a d hk hd
    have hna : a ∉ ι := fun z => by
     obtain ⟨j, hj, ej⟩ := List.getElem_of_mem z
     have hjk : (ι ++ ι2)[j]? = some a := by rw [List.getElem?_append_left hj, List.getElem?_eq_getElem hj, ej]
     have hkl : k < (ι ++ ι2).length := by
      rcases Nat.lt_or_ge k (ι ++ ι2).length with q | q
      ·exact q
      ·rw [List.getElem?_eq_none_iff.mpr q] at hk; cases hk
     have hjl : j < (ι ++ ι2).length := by rw [List.length_append]; lia
     have e1 := (List.getElem?_eq_some_iff.mp hjk).2
     have e2 := (List.getElem?_eq_some_iff.mp hk).2
     have := (List.getElem_inj c.nd).mp (e1.trans e2.symm)
     lia
    show Rep K ι H d (.ref a)
    cases d with
    | lst ps => obtain ⟨vs, e, r⟩ := ok; unfold Rep; exact ⟨a, vs, rfl, .inl ⟨hna, .inl e⟩, Reps.cells hs _ _ r⟩
    | dct ks ps => obtain ⟨qs, vs, e, hl, hk, r⟩ := ok; unfold Rep; exact ⟨a, qs, vs, rfl, hna, e, hl, hk, Reps.cells hs _ _ r⟩
    | dtt ks ps => obtain ⟨vs, e, hl, r⟩ := ok; unfold Rep; exact ⟨a, vs, rfl, hna, e, hl, Reps.cells hs _ _ r⟩
    | _ => exact ok.elim
theorem finQ_ok {K : W.Frag} {ι ι2 : List Addr} {H : Hp} {C' : Cs} {n : Nat} (c : CR K (ι ++ ι2) H C') (hn : ι.length = n) : ∀ {qs : List SV} {ps : List PV} {vs : List V}, RepSs K (ι ++ ι2) H qs vs -> finQ n C' qs = some ps -> Reps K ι H ps vs
 | [], ps, vs, r, e => by cases e; rw [show vs = [] from r]; exact .nil
 | .v p :: qs, ps, vs, r, e => by
  obtain ⟨v, w, rfl, h1, h2⟩ := r
  unfold finQ at e
  cases hq : finQ n C' qs with
  | none => rw [hq] at e; cases e
  | some z =>
   rw [hq] at e; cases e
   exact .cons (fin_ok (r := .v p) (r' := .v p) c hn h1 rfl).2 (finQ_ok c hn h2 hq)
 | .c k :: qs, ps, vs, r, e => by
  obtain ⟨v, w, rfl, h1, h2⟩ := r
  unfold finQ at e
  by_cases hk : k < n
  ·rw [if_pos hk] at e; cases e
  ·rw [if_neg hk] at e
   cases hc : C'[k]? with
   | none => rw [hc] at e; cases e
   | some d =>
    cases hq : finQ n C' qs with
    | none => rw [hc, hq] at e; cases e
    | some z =>
     rw [hc, hq] at e; cases e
     exact .cons (fin_ok (r := .c k) (r' := .v d) c hn h1 (show (if k < n then some (SV.c k, C'.take n) else (C'[k]?).map fun c => (SV.v c, C'.take n)) = some (.v d, C'.take n) by rw [if_neg hk, hc]; rfl)).2 (finQ_ok c hn h2 hq)
theorem RepSs.get {K : W.Frag} {ι : List Addr} {H : Hp} : ∀ {ss : List SV} {vs : List V} {i : Nat} {s : SV}, RepSs K ι H ss vs -> ss[i]? = some s -> ∃ v, vs[i]? = some v /\ RepS K ι H s v
 | [], _, _, _, h, e => by simp at e
 | q :: ss, vs, 0, s, h, e => by
  obtain ⟨v, r, rfl, h1, h2⟩ := h
  simp at e; subst e; exact ⟨v, rfl, h1⟩
 | q :: ss, vs, i + 1, s, h, e => by
  obtain ⟨v, r, rfl, h1, h2⟩ := h
  obtain ⟨w, e1, r1⟩ := RepSs.get (i := i) h2 (by simpa using e)
  exact ⟨w, by simpa using e1, r1⟩
theorem sr_start {K : W.Frag} {ι : List Addr} {H : Hp} {C : Cs} {ss : List SV} {vs : List V} {N : List Str} (cr : CR K ι H C) (rs : RepSs K ι H ss vs) : SR K ι H (ss.map some ++ List.replicate (N.length - ss.length) none) (L2.start N vs) C := by
 have hl := RepSs.length rs
 refine ⟨cr, by unfold L2.start; simp [hl], fun i s e => ?_⟩
 unfold L2.start
 rcases Nat.lt_or_ge i ss.length with h | h
 ·rw [List.getElem?_append_left (by simpa using h), List.getElem?_map] at e
  rw [List.getElem?_append_left (by rw [List.length_map, ← hl]; exact h), List.getElem?_map]
  cases hs : ss[i]? with
  | none => rw [hs] at e; cases e
  | some s' =>
   rw [hs] at e
   have : s' = s := by simpa using e
   subst this
   obtain ⟨v, h1, h2⟩ := RepSs.get rs hs
   exact ⟨v, by rw [h1]; rfl, h2⟩
 ·rw [List.getElem?_append_right (by simpa using h), List.getElem?_replicate] at e
  split at e <;> cases e
end Pu
namespace Pu
open PySem PySem.Spec L2
open PyProof.Rows hiding St Fr
noncomputable def g2 (h : PV -> PV -> Option PV) : Cs -> SV -> SV -> Option SV := fun C x y => match deref C x, deref C y with
 | some p, some q => (h p q).map .v
 | _, _ => none
noncomputable def L2ok (K : W.Frag) (r : R2) (h : PV -> PV -> Option PV) : Prop :=
 ∀ (ι : List Addr) (H : Hp) (C : Cs) (p q : PV) (vx vy : V) (z : PV) (Q : VK), CR K ι H C -> Lies K ι H p vx -> Lies K ι H q vy -> h p q = some z -> (∀ v H', Fr ι H H' -> CR K ι H' C -> Rep K ι H' z v -> Q v H') -> r vx vy H Q
theorem L2ok.r {K : W.Frag} {r : R2} {h : PV -> PV -> Option PV} (k : L2ok K r h) : R2ok K r (g2 h) := by
 intro ι H C x y vx vy z Q cr rx ry e q
 unfold g2 at e
 cases hx : deref C x with
 | none => rw [hx] at e; cases e
 | some p =>
  cases hy : deref C y with
  | none => rw [hx, hy] at e; cases e
  | some p2 =>
   rw [hx, hy] at e
   cases hz : h p p2 with
   | none => simp [hz] at e
   | some z2 =>
    simp [hz] at e
    subst e
    exact k ι H C p p2 vx vy z2 Q cr (rx.lies cr hx) (ry.lies cr hy) hz q
theorem OpR.or {X : Cx} {f : Value -> Value -> Sem Value} {r r' : R2} (h : OpR X f r) (h' : OpR X f r') : OpR X f (fun x y H Q => r x y H Q \/ r' x y H Q) := by
 intro pins s σ H x y v u Q I rx ry q
 rcases q with q | q
 ·exact h pins s σ H x y v u Q I rx ry q
 ·exact h' pins s σ H x y v u Q I rx ry q
section
variable {K : W.Frag} {ι : List Addr} {H : Hp} {C : Cs} {Q : VK} {z : PV}
theorem liesS {v : V} {i : Str} (h : Lies K ι H (.str i) v) : v = .str i /\ i.length <= sizeLine := by cases h; exact ⟨rfl, by assumption⟩
theorem liesT {v : V} {ps : List PV} (h : Lies K ι H (.tup ps) v) : ∃ a vs, v = .ref a /\ TpR H a vs /\ Reps K ι H ps vs := by cases h; exact ⟨_, _, rfl, by assumption, by assumption⟩
theorem liesL {v : V} {ps : List PV} (h : Lies K ι H (.lst ps) v) : ∃ a vs, v = .ref a /\ SqL K H a vs /\ Reps K ι H ps vs := by cases h; exact ⟨_, _, rfl, by assumption, by assumption⟩
theorem repI {i : Int} : Rep K ι H (.int i) (.int i) := by unfold Rep; rfl
theorem repBl {i : Bool} : Rep K ι H (.bl i) (.bl i) := by unfold Rep; rfl
theorem repN : Rep K ι H .non .non := by unfold Rep; rfl
theorem repS {i : Str} (h : i.length <= sizeLine) : Rep K ι H (.str i) (.str i) := by unfold Rep; exact ⟨rfl, h⟩
theorem k1000000 {n : Nat} (h : n <= 1000000) : n <= sizeLine := Nat.le_trans h (by rw [sizeLine_eq]; decide)
theorem ZbU {ps : List PV} {q : Addr} {vs : List V} (hq : H q = none) (rs : Reps K ι H ps vs) : Rep K ι (upd H q (.tup vs)) (.tup ps) (.ref q) := by
 unfold Rep
 exact ⟨q, vs, rfl, ZaP, Reps.stay (fun b o e => by rw [Zam (Zak e hq)]; exact e) ps vs rs⟩
end
noncomputable def addP : PV -> PV -> Option PV
 | .int i, .int j => some (.int (i + j))
 | .str i, .str j => if i.length + j.length <= 1000000 then some (.str (i ++ j)) else none
 | .lst a, .lst b => if a.length + b.length <= 1000000 then some (.lst (a ++ b)) else none
 | .tup a, .tup b => if a.length + b.length <= 1000000 then some (.tup (a ++ b)) else none
 | _, _ => none
noncomputable def rCatL (K : W.Frag) : R2 := fun x y H Q => ∃ l b xs zs, x = .ref l /\ y = .ref b /\ SqL K H l xs /\ SqL K H b zs /\ xs.length + zs.length <= sizeLine /\ ∀ p, H p = none -> Q (.ref p) (upd H p (.lst (xs ++ zs)))
section
variable {X : Cx}
theorem op_catL : OpR X (binaryOp .Add) (rCatL X.K) := by
 intro pins s σ H x y v u Q I rx ry h
 obtain ⟨l, b, xs, zs, rfl, rfl, hH, hB, hz, q⟩ := h
 cases rx
 cases ry
 obtain ⟨its, r, pl, _⟩ := I.list hH
 obtain ⟨its2, r2, pl2, _⟩ := I.list hB
 obtain ⟨⟨cls, dd, data, sl⟩, ho, hc, n, hd⟩ := id pl.isList
 obtain ⟨⟨cls2, dd2, data2, sl2⟩, ho2, hc2, n2, hd2⟩ := id pl2.isList
 simp only at hc hd hc2 hd2
 subst hc hd hc2 hd2
 have h1 := r.length
 have h2 := r2.length
 have ea : its.toArray ++ its2.toArray = (its ++ its2).toArray := by simp
 refine concat_meets ⟨_, ho, rfl⟩ ⟨_, ho2, rfl⟩ noFill_list_add seq_list_add PySem.F.slot_list_add PySem.F.entry_list_add (PySem.F.args_list_add_2 _ _) (list_addW l b its.toArray its2.toArray n n2 dd dd2 sl sl2 (by simp; lia)) ⟨ho, ho2, ?_⟩
 rw [ea]
 exact ⟨.ref _, _, I.lnew (t' := s.toks) (r.append r2) (by rw [List.length_append]; lia), rfl, q _ I.fresh⟩
noncomputable def rCatT' (K : W.Frag) : R2 := fun x y H Q => ∃ a b xs ys, x = .ref a /\ y = .ref b /\ SqT K H a xs /\ SqT K H b ys /\ xs.length + ys.length <= sizeLine /\
 (xs = [] -> Q (.ref b) H) /\ (xs ≠ [] -> ys = [] -> Q (.ref a) H) /\ (xs ≠ [] -> ys ≠ [] -> ∀ p, H p = none -> Q (.ref p) (upd H p (.tup (xs ++ ys))))
theorem op_catT' : OpR X (binaryOp .Add) (rCatT' X.K) := by
 intro pins s σ H x y v u Q I rx ry h
 obtain ⟨a, b, xs, ys, rfl, rfl, ha, hb, hz, q0, q1, q2⟩ := h
 by_cases hx : xs = []
 ·cases rx
  cases ry
  obtain ⟨its, r1, p1, _⟩ := I.tuple ha
  obtain ⟨its2, r2, p2, _⟩ := I.tuple hb
  obtain ⟨⟨cls, dd, data, sl⟩, ho, hc, n, hd⟩ := id p1
  obtain ⟨⟨cls2, dd2, data2, sl2⟩, ho2, hc2, n2, hd2⟩ := id p2
  simp only at hc hd hc2 hd2
  subst hc hd hc2 hd2
  exact concat_meets ⟨_, ho, rfl⟩ ⟨_, ho2, rfl⟩ noFill_tuple_add seq_tuple_add PySem.F.slot_tuple_add PySem.F.entry_tuple_add (PySem.F.args_tuple_add_2 _ _)
   (tuple_addW0 a b its.toArray its2.toArray n n2 dd dd2 sl sl2 (by simp [r1.nil_iff.mpr hx])) ⟨ho, ho2, ⟨.ref b, H, I, rfl, q0 hx⟩⟩
 ·exact op_catT pins s σ H _ _ v u Q I rx ry ⟨a, b, xs, ys, rfl, rfl, ha, hb, hx, hz, q1 hx, q2 hx⟩
theorem op_addAll : OpR X (binaryOp .Add) (fun x y H Q => (rI0 fun i j => .int (i + j)) x y H Q \/ (∃ i j, x = .str i /\ y = .str j /\ i.length + j.length <= sizeLine /\ Q (.str (i ++ j)) H) \/ rCatL X.K x y H Q \/ rCatT' X.K x y H Q) :=
 OpR.or op_add (OpR.or op_add_str (OpR.or op_catL op_catT'))
theorem str_app_len (i j : Str) : (i ++ j).length = i.length + j.length := by
 show (i.cps ++ j.cps).size = _
 rw [Array.size_append]; rfl
theorem add_ok : L2ok X.K (fun x y H Q => (rI0 fun i j => .int (i + j)) x y H Q \/ (∃ i j, x = .str i /\ y = .str j /\ i.length + j.length <= sizeLine /\ Q (.str (i ++ j)) H) \/ rCatL X.K x y H Q \/ rCatT' X.K x y H Q) addP := by
 intro ι H C p q vx vy z Q cr lx ly e k
 unfold addP at e
 split at e
 ·cases e; cases lx; cases ly
  exact .inl ⟨_, _, rfl, rfl, k _ H .refl cr repI⟩
 ·split at e
  ·rename_i hl
   cases e; cases lx; cases ly
   exact .inr (.inl ⟨_, _, rfl, rfl, k1000000 hl, k _ H .refl cr (repS (by rw [str_app_len]; exact k1000000 hl))⟩)
  ·cases e
 ·split at e
  ·rename_i hl
   cases e
   obtain ⟨a, vs, rfl, h1, r1⟩ := liesL lx
   obtain ⟨b, ws, rfl, h2, r2⟩ := liesL ly
   exact .inr (.inr (.inl ⟨a, b, vs, ws, rfl, rfl, h1, h2, by rw [← r1.length, ← r2.length]; exact k1000000 hl, fun p hp => k _ _ (Fr.new hp) (cr.new hp) (Zbv cr hp (r1.append r2))⟩))
  ·cases e
 ·split at e
  ·rename_i hl
   cases e
   rename_i xs ys
   obtain ⟨a, vs, rfl, h1, r1⟩ := liesT lx
   obtain ⟨b, ws, rfl, h2, r2⟩ := liesT ly
   refine .inr (.inr (.inr ⟨a, b, vs, ws, rfl, rfl, h1.sq, h2.sq, by rw [← r1.length, ← r2.length]; exact k1000000 hl, fun e => ?_, fun _ e => ?_, fun _ _ p hp => k _ _ (Fr.new hp) (cr.new hp) (ZbU hp (r1.append r2))⟩))
   ·subst e
    have := r1.length
    have hx : xs = [] := List.eq_nil_of_length_eq_zero this
    subst hx
    exact k _ H .refl cr (by unfold Rep; exact ⟨b, ws, rfl, h2, r2⟩)
   ·subst e
    have := r2.length
    have hy : ys = [] := List.eq_nil_of_length_eq_zero this
    subst hy
    rw [List.append_nil] at k
    exact k _ H .refl cr (by unfold Rep; exact ⟨a, vs, rfl, h1, r1⟩)
  ·cases e
 ·cases e
variable {a b e c : Expr} {es : List Expr} {fa fb fc : PSt -> M SV} {pos p : Pos} {x : Str}
noncomputable def intP (c : Int -> Int -> Bool) (f : Int -> Int -> PV) : PV -> PV -> Option PV
 | .int i, .int j => if c i j then some (f i j) else none
 | _, _ => none
theorem int_ok {C0 : Int -> Int -> Prop} {f : Int -> Int -> Int} {c : Int -> Int -> Bool} (h : ∀ i j, c i j = true -> C0 i j) : L2ok X.K (rI C0 fun i j => .int (f i j)) (intP c fun i j => .int (f i j)) := by
 intro ι H C p q vx vy z Q cr lx ly e k
 unfold intP at e
 split at e
 ·split at e
  ·rename_i hc
   cases e; cases lx; cases ly
   exact ⟨_, _, rfl, rfl, h _ _ hc, k _ H .refl cr repI⟩
  ·cases e
 ·cases e
theorem ZbX {f : Int -> Int -> V} {g : Int -> Int -> PV} (h : ∀ i j, ∀ ι H, Rep X.K ι H (g i j) (f i j)) : L2ok X.K (rI0 f) (intP (fun _ _ => true) g) := by
 intro ι H C p q vx vy z Q cr lx ly e k
 unfold intP at e
 split at e
 ·simp only [if_true] at e
  cases e; cases lx; cases ly
  exact ⟨_, _, rfl, rfl, k _ H .refl cr (h _ _ _ _)⟩
 ·cases e
noncomputable abbrev subP := intP (fun _ _ => true) fun i j => .int (i - j)
noncomputable abbrev mulP := intP (fun i j => decide (-(2 ^ 64) < i /\ i < 2 ^ 64) || decide (-(2 ^ 64) < j /\ j < 2 ^ 64)) fun i j => .int (i * j)
noncomputable abbrev modP := intP (fun _ j => decide (0 < j)) fun i j => .int (i % j)
noncomputable abbrev powP := intP (fun i j => decide (0 <= j /\ j <= 1000 /\ i.natAbs < 2 ^ 64)) fun i j => .int (i ^ j.toNat)
noncomputable abbrev ltP := intP (fun _ _ => true) fun i j => .bl (decide (i < j))
noncomputable abbrev leP := intP (fun _ _ => true) fun i j => .bl (decide (i <= j))
noncomputable abbrev gtP := intP (fun _ _ => true) fun i j => .bl (decide (j < i))
noncomputable abbrev geP := intP (fun _ _ => true) fun i j => .bl (decide (j <= i))
theorem lt_ok : L2ok X.K (rI0 fun i j => .bl (decide (i < j))) ltP := ZbX fun _ _ _ _ => repBl
theorem le_ok : L2ok X.K (rI0 fun i j => .bl (decide (i <= j))) leP := ZbX fun _ _ _ _ => repBl
theorem gt_ok : L2ok X.K (rI0 fun i j => .bl (decide (j < i))) gtP := ZbX fun _ _ _ _ => repBl
theorem ge_ok : L2ok X.K (rI0 fun i j => .bl (decide (j <= i))) geP := ZbX fun _ _ _ _ => repBl
noncomputable def scP : PV -> PV -> Option Bool
 | .non, .non => some true | .non, .int _ => some false | .int _, .non => some false | .non, .bl _ => some false | .bl _, .non => some false | .non, .str _ => some false | .str _, .non => some false
 | .int i, .int j => some (decide (i = j)) | .bl i, .bl j => some (decide (i = j)) | .str i, .str j => some (decide (i = j))
 | .int _, .str _ => some false | .str _, .int _ => some false | .bl _, .str _ => some false | .str _, .bl _ => some false
 | _, _ => none
noncomputable def eqP (p q : PV) : Option PV := (scP p q).map .bl
noncomputable def neP (p q : PV) : Option PV := (scP p q).map fun b => .bl (!b)
theorem sc_ok {K : W.Frag} {ι : List Addr} {H : Hp} {p q : PV} {vx vy : V} {b : Bool} (lx : Lies K ι H p vx) (ly : Lies K ι H q vy) (e : scP p q = some b) : scal vx vy = true /\ decide (vx = vy) = b := by
  unfold scP at e
  split at e <;> first
    | (cases e; cases lx; cases ly; exact ⟨rfl, by simp⟩)
    | cases e
theorem Zb0 : L2ok X.K rEq eqP := by
 intro ι H C p q vx vy z Q cr lx ly e k
 unfold eqP at e
 cases hb : scP p q with
 | none => rw [hb] at e; cases e
 | some b =>
  rw [hb] at e; cases e
  obtain ⟨h1, h2⟩ := sc_ok lx ly hb
  exact ⟨h1, by rw [h2]; exact k _ H .refl cr repBl⟩
theorem ne_ok : L2ok X.K rNe neP := by
 intro ι H C p q vx vy z Q cr lx ly e k
 unfold neP at e
 cases hb : scP p q with
 | none => rw [hb] at e; cases e
 | some b =>
  rw [hb] at e; cases e
  obtain ⟨h1, h2⟩ := sc_ok lx ly hb
  exact ⟨h1, by rw [h2]; exact k _ H .refl cr repBl⟩
noncomputable def ixP : PV -> PV -> Option PV
 | .lst xs, .int i => atI xs i
 | .tup xs, .int i => atI xs i
 | .str z, .int i => (atI z.cps.toList i).map fun c => .str ⟨#[c]⟩
 | _, _ => none
theorem atI_rep {K : W.Frag} {ι : List Addr} {H : Hp} {ps : List PV} {vs : List V} {i : Int} {z : PV} (r : Reps K ι H ps vs) (e : atI ps i = some z) : ∃ v, atI vs i = some v /\ Rep K ι H z v := by
 unfold atI at e ⊢
 rw [← r.length]
 cases h : ixN ps.length i with
 | none => rw [h] at e; cases e
 | some j => rw [h] at e; exact r.get e
theorem ix_ok : L2ok X.K (rIx X.K) ixP := by
 intro ι H C p q vx vy z Q cr lx ly e k
 unfold ixP at e
 split at e
 ·obtain ⟨a, vs, rfl, h1, r1⟩ := liesL lx
  cases ly
  obtain ⟨v, e1, r⟩ := atI_rep r1 e
  exact .inl ⟨a, vs, _, v, rfl, rfl, h1, e1, k v H .refl cr r⟩
 ·obtain ⟨a, vs, rfl, h1, r1⟩ := liesT lx
  cases ly
  obtain ⟨v, e1, r⟩ := atI_rep r1 e
  exact .inr (.inl ⟨a, vs, _, v, rfl, rfl, h1.sq, e1, k v H .refl cr r⟩)
 ·obtain ⟨rfl, hz⟩ := liesS lx
  cases ly
  rename_i z' i
  cases hc : atI z'.cps.toList i with
  | none => rw [hc] at e; cases e
  | some c =>
   rw [hc] at e; cases e
   exact .inr (.inr ⟨_, _, c, rfl, rfl, hz, hc, k _ H .refl cr (repS (by show 1 <= sizeLine; rw [sizeLine_eq]; decide))⟩)
 ·cases e
noncomputable def tyN : PV -> Option String
 | .non => some "NoneType"
 | .bl _ => some "bool"
 | .int _ => some "int"
 | .str _ => some "str"
 | .tup _ => some "tuple"
 | .lst _ => some "list"
 | .dct _ _ => some "dict"
 | _ => none
noncomputable def isiP (p : PV) (n : String) : Option Bool := match tyN p with
 | none => none
 | some t => if n = "int" then some (t == "int" || t == "bool") else if n = "str" \/ n = "bool" \/ n = "tuple" \/ n = "list" \/ n = "dict" then some (t == n) else none
theorem kit_ok {K : W.Frag} {t n : String} {b : Bool} (ht : t = "NoneType" \/ t = "bool" \/ t = "int" \/ t = "str" \/ t = "tuple" \/ t = "list" \/ t = "dict") (hn : n = "int" \/ n = "str" \/ n = "bool" \/ n = "tuple" \/ n = "list" \/ n = "dict")
  (e : (if n = "int" then some (t == "int" || t == "bool") else if n = "str" \/ n = "bool" \/ n = "tuple" \/ n = "list" \/ n = "dict" then some (t == n) else none) = some b) : W.kitOne K (.type t) (.type n) = some b := by
 rcases ht with rfl | rfl | rfl | rfl | rfl | rfl | rfl <;> rcases hn with rfl | rfl | rfl | rfl | rfl | rfl <;> (simp at e; subst e; rfl)
end
inductive LiesAll (K : W.Frag) (ι : List Addr) (H : Hp) : List PV -> List V -> Prop
 | nil : LiesAll K ι H [] []
 | cons {p : PV} {v : V} {ps : List PV} {vs : List V} (h : Lies K ι H p v) (t : LiesAll K ι H ps vs) : LiesAll K ι H (p :: ps) (v :: vs)
noncomputable def derefs (C : Cs) : List SV -> Option (List PV)
 | [] => some []
 | x :: xs => match deref C x, derefs C xs with
  | some p, some ps => some (p :: ps)
  | _, _ => none
theorem Zbj {K : W.Frag} {ι : List Addr} {H : Hp} {C : Cs} (cr : CR K ι H C) : ∀ {xs : List SV} {ps : List PV} {vs : List V}, RepSs K ι H xs vs -> derefs C xs = some ps -> LiesAll K ι H ps vs
 | [], ps, vs, r, e => by cases e; rw [show vs = [] from r]; exact .nil
 | x :: xs, ps, vs, r, e => by
  obtain ⟨v, w, rfl, h1, h2⟩ := r
  unfold derefs at e
  split at e
  ·rename_i p qs hp hq
   cases e
   exact .cons (h1.lies cr hp) (Zbj cr h2 hq)
  ·cases e
noncomputable def g1 (h : List PV -> Option PV) : Cs -> List SV -> Option SV := fun C xs => match derefs C xs with
 | some ps => (h ps).map .v
 | none => none
noncomputable def L1ok (K : W.Frag) (r : List V -> Hp -> VK -> Prop) (h : List PV -> Option PV) : Prop :=
 ∀ (ι : List Addr) (H : Hp) (C : Cs) (ps : List PV) (vs : List V) (z : PV) (Q : VK), CR K ι H C -> LiesAll K ι H ps vs -> h ps = some z -> (∀ v H', Fr ι H H' -> CR K ι H' C -> Rep K ι H' z v -> Q v H') -> r vs H Q
theorem L1ok.c {K : W.Frag} {r : List V -> Hp -> VK -> Prop} {h : List PV -> Option PV} (k : L1ok K r h) : C1ok K r (g1 h) := by
 intro ι H C xs vs z Q cr rs e q
 unfold g1 at e
 cases hd : derefs C xs with
 | none => rw [hd] at e; cases e
 | some ps =>
  rw [hd] at e
  cases hz : h ps with
  | none => simp [hz] at e
  | some z2 =>
   simp [hz] at e
   subst e
   exact k ι H C ps vs z2 Q cr (Zbj cr rs hd) hz q
section
variable {X : Cx} {a b e c o : Expr} {es : List Expr} {fa fb fc fo : PSt -> M SV} {fs : PSt -> M (List SV)} {pos p apos cpos : Pos} {x : Str}
noncomputable def TyV (K : W.Frag) (H : Hp) (x : V) (t : String) : Prop := match x with
 | .non => t = "NoneType"
 | .bl _ => t = "bool"
 | .int _ => t = "int"
 | .str _ => t = "str"
 | .ref a => (t = "tuple" /\ ∃ vs, SqT K H a vs) \/ (t = "list" /\ ∃ vs, SqL K H a vs) \/ (t = "dict" /\ ∃ kvs, H a = some (.dK kvs))
 | _ => False
theorem call_isi : CallR X (.builtin "isinstance") (fun xs H Q => ∃ x n t b, xs = [x, .ty n] /\ TyV X.K H x t /\ W.kitOne X.K (.type t) (.type n) = some b /\ Q (.bl b) H) := by
 intro pins s σ H xs us Q I r h
 obtain ⟨x, n, t, b, rfl, ty, e, q⟩ := h
 obtain ⟨u, v, rfl, ru, rv⟩ := Vals.two r
 cases (show v = Value.type n from rv)
 have fin : ∀ tk, EP X pins σ Q (.bool b) { s with toks := tk } := fun tk => ⟨.bl b, H, I.tok tk, rfl, q⟩
 cases x with
 | non => cases (show t = "NoneType" from ty); exact Zbc I ru (TyOf.non) e fin
 | bl y => cases (show t = "bool" from ty); exact Zbc I ru (TyOf.bl y) e fin
 | int y => cases (show t = "int" from ty); exact Zbc I ru (TyOf.int y) e fin
 | str y => cases (show t = "str" from ty); exact Zbc I ru (TyOf.str y) e fin
 | ref a =>
  cases (show u = Value.ref a from ru)
  rcases (show _ from ty) with ⟨rfl, vs, h⟩ | ⟨rfl, vs, h⟩ | ⟨rfl, kvs, h⟩
  ·obtain ⟨its, _, ⟨o, h1, h2, _⟩, _⟩ := I.tuple h
   exact W.kia_one W.kitx_tuple I.kIn ⟨o, h1, h2⟩ e (fun z => nomatch z) fin
  ·obtain ⟨its, _, ⟨o, n, h1, h2, _⟩, _⟩ := I.list h
   exact W.kia_one W.kitx_list I.kIn ⟨o, h1, h2⟩ e (fun z => nomatch z) fin
  ·exact Zbc I ru (TyOf.dK h) e fin
 | _ => exact (show False from ty).elim
noncomputable def isiH : List PV -> Option PV
 | [p, .ty n] => (isiP p n).map .bl
 | _ => none
theorem isi_ok : L1ok X.K (fun xs H Q => ∃ x n t b, xs = [x, .ty n] /\ TyV X.K H x t /\ W.kitOne X.K (.type t) (.type n) = some b /\ Q (.bl b) H) isiH := by
 intro ι H C ps vs z Q cr ls e k
 unfold isiH at e
 split at e
 ·rename_i p n
  cases ls with
  | cons l1 ls => cases ls with
   | cons l2 ls =>
    cases ls
    cases l2
    cases hb : isiP p n with
    | none => rw [hb] at e; cases e
    | some b =>
     rw [hb] at e; cases e
     unfold isiP at hb
     cases ht : tyN p with
     | none => rw [ht] at hb; cases hb
     | some t =>
      rw [ht] at hb
      dsimp only at hb
      have hn : n = "int" \/ n = "str" \/ n = "bool" \/ n = "tuple" \/ n = "list" \/ n = "dict" := by
       by_cases h1 : n = "int"
       ·exact .inl h1
       ·rw [if_neg h1] at hb
        by_cases h2 : n = "str" \/ n = "bool" \/ n = "tuple" \/ n = "list" \/ n = "dict"
        ·exact .inr h2
        ·rw [if_neg h2] at hb; cases hb
      refine ⟨_, n, t, b, rfl, ?_, kit_ok ?_ hn hb, k _ H .refl cr repBl⟩
      ·cases l1 <;> (unfold tyN at ht; first | (cases ht; rfl) | (cases ht; exact .inl ⟨rfl, _, TpR.sq (by assumption)⟩) | (cases ht; exact .inr (.inl ⟨rfl, _, by assumption⟩)) | (cases ht; exact .inr (.inr ⟨rfl, _, by assumption⟩)) | cases ht)
      ·cases p <;> (unfold tyN at ht; first | (cases ht; simp) | cases ht)
 ·cases e
noncomputable def lenH : List PV -> Option PV
 | [.str z] => some (.int z.length)
 | [.lst xs] => some (.int xs.length)
 | [.tup xs] => some (.int xs.length)
 | _ => none
theorem len_ok : L1ok X.K (fun xs H Q => ∃ x n, xs = [x] /\ LenV X.K x H n /\ Q (.int n) H) lenH := by
 intro ι H C ps vs z Q cr ls e k
 unfold lenH at e
 split at e
 ·cases e; cases ls with
  | cons l t => cases t; obtain ⟨rfl, hz⟩ := liesS l; exact ⟨_, _, rfl, ⟨hz, rfl⟩, k _ H .refl cr repI⟩
 ·cases e; cases ls with
  | cons l t => cases t; obtain ⟨a, ws, rfl, h1, r1⟩ := liesL l; exact ⟨_, _, rfl, .inl ⟨ws, h1, r1.length⟩, k _ H .refl cr repI⟩
 ·cases e; cases ls with
  | cons l t => cases t; obtain ⟨a, ws, rfl, h1, r1⟩ := liesT l; exact ⟨_, _, rfl, .inr ⟨ws, h1.sq, r1.length⟩, k _ H .refl cr repI⟩
 ·cases e
noncomputable def maxH : List PV -> Option PV
 | [.int i, .int j] => some (.int (if j > i then j else i))
 | _ => none
noncomputable def minH : List PV -> Option PV
 | [.int i, .int j] => some (.int (if j < i then j else i))
 | _ => none
theorem max_ok : L1ok X.K (fun xs H Q => ∃ i j, xs = [.int i, .int j] /\ Q (.int (if j > i then j else i)) H) maxH := by
 intro ι H C ps vs z Q cr ls e k
 unfold maxH at e
 split at e
 ·cases e; cases ls with
  | cons l t => cases t with
   | cons l2 t => cases t; cases l; cases l2; exact ⟨_, _, rfl, k _ H .refl cr repI⟩
 ·cases e
theorem min_ok : L1ok X.K (fun xs H Q => ∃ i j, xs = [.int i, .int j] /\ Q (.int (if j < i then j else i)) H) minH := by
 intro ι H C ps vs z Q cr ls e k
 unfold minH at e
 split at e
 ·cases e; cases ls with
  | cons l t => cases t with
   | cons l2 t => cases t; cases l; cases l2; exact ⟨_, _, rfl, k _ H .refl cr repI⟩
 ·cases e
noncomputable def intH : List PV -> Option PV
 | [.int i] => some (.int i)
 | [.bl k] => some (.int (if k then 1 else 0))
 | _ => none
theorem intc_ok : L1ok X.K (fun xs H Q => (∃ i, xs = [.int i] /\ Q (.int i) H) \/ ∃ k, xs = [.bl k] /\ Q (.int (if k then 1 else 0)) H) intH := by
 intro ι H C ps vs z Q cr ls e k
 unfold intH at e
 split at e
 ·cases e; cases ls with
  | cons l t => cases t; cases l; exact .inl ⟨_, rfl, k _ H .refl cr repI⟩
 ·cases e; cases ls with
  | cons l t => cases t; cases l; exact .inr ⟨_, rfl, k _ H .refl cr repI⟩
 ·cases e
noncomputable def tupH : List PV -> Option PV
 | [.lst xs] => some (.tup xs)
 | [.tup xs] => some (.tup xs)
 | _ => none
theorem tup_ok : L1ok X.K (fun xs H Q => ∃ p ys, xs = [.ref p] /\ ((SqL X.K H p ys /\ ∀ l, H l = none -> Q (.ref l) (upd H l (.tup ys))) \/ (SqT X.K H p ys /\ Q (.ref p) H))) tupH := by
 intro ι H C ps vs z Q cr ls e k
 unfold tupH at e
 split at e
 ·cases e; cases ls with
  | cons l t => cases t; obtain ⟨a, ws, rfl, h1, r1⟩ := liesL l; exact ⟨a, ws, rfl, .inl ⟨h1, fun q hq => k _ _ (Fr.new hq) (cr.new hq) (ZbU hq r1)⟩⟩
 ·cases e; cases ls with
  | cons l t => cases t; obtain ⟨a, ws, rfl, h1, r1⟩ := liesT l; exact ⟨a, ws, rfl, .inr ⟨h1.sq, k _ H .refl cr (by unfold Rep; exact ⟨a, ws, rfl, h1, r1⟩)⟩⟩
 ·cases e
noncomputable def listH (C : Cs) : List SV -> Option (List PV)
 | [x] => match deref C x with
  | some (.lst xs) => some xs
  | some (.tup xs) => some xs
  | _ => none
 | _ => none
noncomputable def mList (fs : PSt -> M (List SV)) : PSt -> M (List PV) := fun ρ => bnd (fs ρ) fun xs => opM fun C => listH C xs
noncomputable def boolsP : List PV -> Option (List Bool)
 | [] => some []
 | .bl b :: r => (boolsP r).map (b :: ·)
 | _ :: _ => none
theorem bools_rep {K : W.Frag} {ι : List Addr} {H : Hp} : ∀ {ps : List PV} {vs : List V} {bs : List Bool}, Reps K ι H ps vs -> boolsP ps = some bs -> vs = bs.map V.bl
 | [], vs, bs, r, e => by cases e; rw [r.inv0]; rfl
 | p :: ps, vs, bs, r, e => by
  obtain ⟨v, w, rfl, h1, h2⟩ := r.inv
  cases p with
  | bl b =>
   unfold boolsP at e
   cases hb : boolsP ps with
   | none => rw [hb] at e; cases e
   | some cs =>
    rw [hb] at e; cases e
    have h1 : v = .bl b := by unfold Rep at h1; exact h1
    rw [h1, bools_rep h2 hb]; rfl
  | _ => cases e
noncomputable def allH : List PV -> Option PV
 | [.lst xs] => (boolsP xs).map fun bs => .bl (bs.all id)
 | _ => none
theorem all_ok : L1ok X.K (fun xs H Q => ∃ (a : Addr) (bs : List Bool), xs = [.ref a] /\ SqL X.K H a (bs.map V.bl) /\ Q (.bl (bs.all id)) H) allH := by
 intro ι H C ps vs z Q cr ls e k
 unfold allH at e
 split at e
 ·rename_i xs
  cases ls with
  | cons l t =>
   cases t
   obtain ⟨a, ws, rfl, h1, r1⟩ := liesL l
   cases hb : boolsP xs with
   | none => rw [hb] at e; cases e
   | some bs =>
    rw [hb] at e; cases e
    exact ⟨a, bs, rfl, by rw [← bools_rep r1 hb]; exact h1, k _ H .refl cr repBl⟩
 ·cases e
end
section
variable {X : Cx} {a b e c o i : Expr} {es : List Expr} {fa fb fc fo fi fv : PSt -> M SV} {fs : PSt -> M (List SV)} {pos p apos cpos : Pos} {x : Str}
noncomputable def isLst (x : SV) : M Unit := fun C => match x with
 | .c k => match C[k]? with
  | some (.lst _) => some ((), C)
  | _ => none
 | _ => none
theorem isLst_some {x : SV} {C C2 : Cs} (h : isLst x C = some ((), C2)) : C2 = C /\ ∃ k ps, x = .c k /\ C[k]? = some (.lst ps) := by
 unfold isLst at h
 split at h
 ·split at h
  ·rename_i k _ ps e; cases h; exact ⟨rfl, k, ps, rfl, e⟩
  ·cases h
 ·cases h
noncomputable def appC (x : SV) (ys : List SV) : M SV := fun C => match x, ys with
 | .c k, [.v p] => match C[k]? with
  | some (.lst ps) => if ps.length < 100000 then some (.v .non, C.set k (.lst (ps ++ [p]))) else none
  | _ => none
 | _, _ => none
theorem appC_some {x : SV} {ys : List SV} {C C2 : Cs} {r : SV} (h : appC x ys C = some (r, C2)) : ∃ k p ps, x = .c k /\ ys = [.v p] /\ C[k]? = some (.lst ps) /\ ps.length < 100000 /\ r = .v .non /\ C2 = C.set k (.lst (ps ++ [p])) := by
 unfold appC at h
 split at h
 ·split at h
  ·split at h
   ·cases h; exact ⟨_, _, _, rfl, rfl, by assumption, by assumption, rfl, rfl⟩
   ·cases h
  ·cases h
 ·cases h
noncomputable def mApp (fo : PSt -> M SV) (fs : PSt -> M (List SV)) : PSt -> M SV := fun ρ => bnd (fo ρ) fun x => bnd (isLst x) fun _ => bnd (fs ρ) fun ys => appC x ys
theorem cell_lst {K : W.Frag} {ι : List Addr} {H : Hp} {C : Cs} {k : Nat} {a : Addr} {ps : List PV} (cr : CR K ι H C) (hk : ι[k]? = some a) (hc : C[k]? = some (.lst ps)) : ∃ vs, H a = some (.lst vs) /\ Reps K ι H ps vs := cr.ok k a _ hk hc
theorem cr_set {K : W.Frag} {ι : List Addr} {H : Hp} {C : Cs} {k : Nat} {a : Addr} {ps : List PV} {vs : List V} (cr : CR K ι H C) (hk : ι[k]? = some a) (r : Reps K ι H ps vs) : CR K ι (upd H a (.lst vs)) (C.set k (.lst ps)) /\ Fr ι H (upd H a (.lst vs)) := by
 have fr : Fr ι H (upd H a (.lst vs)) := fun b u n e => by
  rw [Zam (fun z => n (by rw [z]; exact List.mem_of_getElem? hk))]; exact e
 exact ⟨cr.put hk ⟨vs, ZaP, Reps.mono cr fr _ _ r⟩, fr⟩
noncomputable def setC (v o i : SV) (ρ : PSt) : M PF := fun C => match o, i, v with
 | .c k, .v (.int n), .v p => match C[k]? with
  | some (.lst ps) => match ixN ps.length n with
   | some j => some (.nx ρ, C.set k (.lst (ps.set j p)))
   | none => none
  | _ => none
 | _, _, _ => none
theorem setC_some {v o i : SV} {ρ : PSt} {C C2 : Cs} {fl : PF} (h : setC v o i ρ C = some (fl, C2)) : ∃ k n p ps j, o = .c k /\ i = .v (.int n) /\ v = .v p /\ C[k]? = some (.lst ps) /\ ixN ps.length n = some j /\ fl = .nx ρ /\ C2 = C.set k (.lst (ps.set j p)) := by
 unfold setC at h
 split at h
 ·split at h
  ·split at h
   ·cases h; exact ⟨_, _, _, _, _, rfl, rfl, rfl, by assumption, by assumption, rfl, rfl⟩
   ·cases h
  ·cases h
 ·cases h
noncomputable def mSetIx (fv fo fi : PSt -> M SV) : PSt -> M PF := fun ρ => bnd (fv ρ) fun v => bnd (fo ρ) fun o => bnd (fi ρ) fun i => setC v o i ρ
noncomputable def itemsP : SV -> Option (List PV)
 | .v (.lst xs) => some xs
 | .v (.tup xs) => some xs
 | .v (.str z) => some (z.cps.toList.map fun c => .str ⟨#[c]⟩)
 | _ => none
noncomputable def mItems (f : PSt -> M SV) : PSt -> M (List PV) := fun ρ => bnd (f ρ) fun x => opM fun _ => itemsP x
theorem iter_list {K : W.Frag} {ι : List Addr} {H : Hp} {C : Cs} {a : Addr} {xs : List PV} {vs : List V} (cr : CR K ι H C) (h : LsR K ι H a vs) (r : Reps K ι H xs vs) : Iter K ι H xs (Itl K a) := by
 have keep : ∀ ι2 H2, Ex ι ι2 H H2 -> SqL K H2 a vs := fun ι2 H2 x => by
  rcases h with ⟨n, q | ⟨o, q⟩⟩ | q
  ·exact .inl (.inl (x.out _ _ n q).2)
  ·exact .inl (.inr ⟨o, (x.out _ _ n q).2⟩)
  ·exact .inr q
 refine ⟨fun ι2 H2 C2 x c i hi => ?_, fun ι2 H2 C2 x c i v H3 hi y => ?_, fun ι2 H2 C2 x c => ⟨vs, keep ι2 H2 x, by rw [r.length]; exact Nat.le_refl _⟩⟩
 ·obtain ⟨v, e, _⟩ := r.get (List.getElem?_eq_getElem hi)
  exact ⟨vs, v, keep ι2 H2 x, e⟩
 ·obtain ⟨rfl, y⟩ := y
  obtain ⟨p, hp, rp⟩ := r.get' (y vs (keep ι2 _ x))
  exact ⟨fun b o e => e, p, hp, Rep.tr cr x.out p v rp⟩
theorem iter_tup {K : W.Frag} {ι : List Addr} {H : Hp} {C : Cs} {a : Addr} {xs : List PV} {vs : List V} (cr : CR K ι H C) (h : SqT K H a vs) (r : Reps K ι H xs vs) : Iter K ι H xs (Itt K a) := by
 have keep : ∀ ι2 H2, Ex ι ι2 H H2 -> SqT K H2 a vs := fun ι2 H2 x => by
  rcases h with (q | ⟨o, q⟩) | q
  ·exact .inl (.inl (x.out _ _ (cr.notup q (fun _ e => nomatch e) fun _ e => nomatch e) q).2)
  ·exact .inl (.inr ⟨o, (x.out _ _ (cr.notup q (fun _ e => nomatch e) fun _ e => nomatch e) q).2⟩)
  ·exact .inr q
 refine ⟨fun ι2 H2 C2 x c i hi => ?_, fun ι2 H2 C2 x c i v H3 hi y => ?_, fun ι2 H2 C2 x c => ⟨vs, keep ι2 H2 x, by rw [r.length]; exact Nat.le_refl _⟩⟩
 ·obtain ⟨v, e, _⟩ := r.get (List.getElem?_eq_getElem hi)
  exact ⟨vs, v, keep ι2 H2 x, e⟩
 ·obtain ⟨rfl, y⟩ := y
  obtain ⟨p, hp, rp⟩ := r.get' (y vs (keep ι2 _ x))
  exact ⟨fun b o e => e, p, hp, Rep.tr cr x.out p v rp⟩
theorem iter_str {K : W.Frag} {ι : List Addr} {H : Hp} {z : Str} : Iter K ι H (z.cps.toList.map fun c => .str ⟨#[c]⟩) (Its z) := by
 refine ⟨fun ι2 H2 C2 x c i hi => by show i < z.cps.size; simpa using hi, fun ι2 H2 C2 x c i v H3 hi y => ?_, fun ι2 H2 C2 x c => by show _ = _; simp⟩
 obtain ⟨rfl, d, hd, rfl⟩ := y
 refine ⟨fun b o e => e, .str ⟨#[d]⟩, by simp [hd], ?_⟩
 exact repS (by show 1 <= sizeLine; rw [sizeLine_eq]; decide)
theorem iter_range {K : W.Frag} {ι : List Addr} {H : Hp} {lo : Int} {n : Nat} : Iter K ι H ((List.range n).map fun (k : Nat) => .int (lo + k)) (Itr lo n) := by
 refine ⟨fun ι2 H2 C2 x c i hi => by show i < n; simpa using hi, fun ι2 H2 C2 x c i v H3 hi y => ?_, fun ι2 H2 C2 x c => by show n <= _; simp⟩
 obtain ⟨rfl, rfl⟩ := y
 have hi' : i < n := by simpa using hi
 exact ⟨fun b o e => e, .int (lo + i), by simp [hi'], repI⟩
variable {tg l : Expr}
noncomputable def rng1P : List SV -> Option (List PV)
 | [.v (.int j)] => if -1000000 <= j /\ j <= 1000000 then some ((List.range j.toNat).map fun (k : Nat) => .int (0 + k)) else none
 | _ => none
noncomputable def mRange1 (fs : PSt -> M (List SV)) : PSt -> M (List PV) := fun ρ => bnd (fs ρ) fun xs => opM fun _ => rng1P xs
theorem rng1_some {xs : List SV} {ys : List PV} (h : rng1P xs = some ys) : ∃ j, xs = [.v (.int j)] /\ (-1000000 <= j /\ j <= 1000000) /\ ys = (List.range j.toNat).map fun (k : Nat) => .int (0 + k) := by
 unfold rng1P at h
 split at h
 ·split at h
  ·cases h; exact ⟨_, rfl, by assumption, rfl⟩
  ·cases h
 ·cases h
end
section
variable {prog : Program} {w : World} {A : Around} {E : Value -> Shared -> Prop} {s : Shared}
theorem Zbi {t sl : Addr} {items : Array Value} {vl vu : Value} {lo hi : Option Int} {Q : Value -> Shared -> Prop} (ht : IsTup s.heap t items) (hs : s.heap.IsSliceOf sl vl vu .none) (pl : IsPart vl lo) (pu : IsPart vu hi)
  (hw : HT.sIx items.size 0 lo = 0 /\ HT.sIx items.size items.size hi = items.size) (h : Q (.ref t) s) : wpAny (model prog w) A (getItem (.ref t) (.ref sl)) Q E s := by
 obtain ⟨os, hos, hcs, hds⟩ := id hs
 have hTs : s.TypeIs (.ref sl) "slice" := ⟨os, hos, hcs⟩
 unfold getItem
 try with_reducible refine wpAny_holding ?_
 first | refine wpAny_bind (wpAny_pure ?_) | skip
 refine wpAny_bind (wpAny_sequenceKey ht.typeIs (by decide) ?_)
 refine wpAny_bind (wpAny_callSpecial?_slot (name := Str.ofString "__getitem__") ht.typeIs PyProof.Rows.slot_tuple_getitem
  (wpAny_call_entry PyProof.Rows.slot_tuple_getitem ht.typeIs entry_tuple_getitem ?_ (args_tuple_getitem _ _)))
 show wpAny _ _ (Builtin.Tuple.tupleItemsOf (.ref t) >>= _) _ _ s
 refine wpAny_bind (tupleItemsOf_ ht ?_)
 refine wpAny_bind (wpAny_typeOf hTs ?_)
 rw [if_pos (by decide)]
 refine wpAny_bind (HT.sliceApplied_gen hs pl pu ?_)
 have hyes : (((HT.sIx items.size 0 lo : Nat) : Int) == 0 && (1 : Int) == 1 && (HT.sIx items.size items.size hi - HT.sIx items.size 0 lo) == items.size) = true := by
  rw [hw.1, hw.2]; simp
 show wpAny _ _ (if (((HT.sIx items.size 0 lo : Nat) : Int) == 0 && (1 : Int) == 1 && (HT.sIx items.size items.size hi - HT.sIx items.size 0 lo) == items.size) = true then _ else _) _ _ s
 rw [if_pos hyes]
 unfold Builtin.Tuple.tupleIsExact
 refine wpAny_bind (wpAny_bind (wpAny_typeOf ht.typeIs (wpAny_pure ?_)))
 rw [if_pos (by decide)]
 refine wpAny_bind (wpAny_rule ?_)
 exact wpAny_bind (wpAny_pure (wpAny_pure ⟨_, rfl, wpAny_pure h⟩))
end
noncomputable def rSlTW (K : W.Frag) : V -> Option Int -> Option Int -> Hp -> VK -> Prop := fun x lo hi H Q => ∃ a xs, x = .ref a /\ SqT K H a xs /\ (HT.sIx xs.length 0 lo = 0 /\ HT.sIx xs.length xs.length hi = xs.length) /\ Q (.ref a) H
noncomputable def tMO (K : W.Frag) (f : PSt -> M (Option Int)) : TO := fun σ H Q => ∃ ι ρ C r C', SR K ι H ρ σ C /\ f ρ C = some (r, C') /\ ∀ H', Fr ι H H' -> CR K ι H' C' -> Q r H'
noncomputable def OM (X : Cx) (e : Option Expr) (f : PSt -> M (Option Int)) : Prop := PO X e (tMO X.K f)
noncomputable def oNo : PSt -> M (Option Int) := fun _ => ret none
noncomputable def intD (C : Cs) (x : SV) : Option (Option Int) := match deref C x with
 | some (.int i) => some (some i)
 | _ => none
noncomputable def oPart (f : PSt -> M SV) : PSt -> M (Option Int) := fun ρ => bnd (f ρ) fun x => opM fun C => intD C x
noncomputable def cutP (xs : List PV) (lo hi : Option Int) : List PV := (xs.drop (HT.sIx xs.length 0 lo)).take (HT.sIx xs.length xs.length hi - HT.sIx xs.length 0 lo)
noncomputable def sliceP (lo hi : Option Int) : PV -> Option PV
 | .lst xs => some (.lst (cutP xs lo hi))
 | .tup xs => some (.tup (cutP xs lo hi))
 | _ => none
noncomputable def sliceD (C : Cs) (x : SV) (lo hi : Option Int) : Option SV := match deref C x with
 | some p => (sliceP lo hi p).map .v
 | none => none
noncomputable def mSlice (f : PSt -> M SV) (l h : PSt -> M (Option Int)) : PSt -> M SV := fun ρ => bnd (f ρ) fun x => bnd (l ρ) fun lo => bnd (h ρ) fun hi => opM fun C => sliceD C x lo hi
theorem reps_cut {K : W.Frag} {ι : List Addr} {H : Hp} {ps : List PV} {vs : List V} (r : Reps K ι H ps vs) (lo hi : Option Int) : Reps K ι H (cutP ps lo hi) (cutV vs lo hi) := by
 unfold cutP cutV
 rw [r.length]
 exact (r.drop _).take _
theorem sliceD_some {C : Cs} {x z : SV} {lo hi : Option Int} (h : sliceD C x lo hi = some z) : (∃ xs, deref C x = some (.lst xs) /\ z = .v (.lst (cutP xs lo hi))) \/ ∃ xs, deref C x = some (.tup xs) /\ z = .v (.tup (cutP xs lo hi)) := by
 unfold sliceD at h
 split at h
 ·rename_i p hd
  cases p with
  | lst xs => cases h; exact .inl ⟨xs, hd, rfl⟩
  | tup xs => cases h; exact .inr ⟨xs, hd, rfl⟩
  | _ => cases h
 ·cases h
section
variable {X : Cx} {a b e c o i : Expr} {es : List Expr} {fa fb fc fo fi fv : PSt -> M SV} {fs : PSt -> M (List SV)} {pos p apos cpos p2 : Pos} {x : Str} {lo hi : Option Expr} {l h : PSt -> M (Option Int)}
theorem PO.imp {e : Option Expr} {t t' : TO} (h : PO X e t) (k : ∀ σ H Q, t' σ H Q -> t σ H Q) : PO X e t' := fun pins s σ H Q I q => h pins s σ H Q I (k σ H Q q)
theorem sl_tupW : SlR X (rSlTW X.K) := by
 intro pins s σ H x v vl vu lo hi sl Q I rx hs pl pu h
 obtain ⟨a, xs, rfl, hx, hw, q⟩ := h
 cases rx
 obtain ⟨its, r, ht, hz⟩ := I.tuple hx
 have hlen : its.toArray.size = xs.length := by rw [List.size_toArray]; exact r.length.symm
 exact ⟨"tuple", _, PyProof.Rows.slot_tuple_getitem.lookup, ht.typeIs, Zbi ht hs pl pu (by rw [hlen]; exact hw) ⟨.ref a, H, I, rfl, q⟩⟩
theorem cut_whole {xs : List PV} {lo hi : Option Int} (h : HT.sIx xs.length 0 lo = 0 /\ HT.sIx xs.length xs.length hi = xs.length) : cutP xs lo hi = xs := by
 unfold cutP; rw [h.1, h.2]; simp
noncomputable def flatP : PV -> Bool
 | .non => true
 | .bl _ => true
 | .int _ => true
 | .str _ => true
 | _ => false
noncomputable def eqF : PV -> PV -> Bool
 | .non, .non => true
 | .bl a, .bl b => a == b
 | .bl a, .int b => (if a then 1 else 0) == b
 | .int a, .bl b => a == (if b then 1 else 0)
 | .int a, .int b => a == b
 | .str a, .str b => a == b
 | _, _ => false
noncomputable def strIn (i j : Str) : Bool := !(Builtin.Str.occurrences j i 0 j.length 1).isEmpty
noncomputable def inB (x : PV) : PV -> Option Bool
 | .str j => match x with
  | .str i => some (strIn i j)
  | _ => none
 | .lst xs => if flatP x && xs.all flatP then some (xs.any fun y => eqF y x) else none
 | .tup xs => if flatP x && xs.all flatP then some (xs.any fun y => eqF y x) else none
 | _ => none
noncomputable def inP (x y : PV) : Option PV := (inB x y).map .bl
theorem flat_rep {K : W.Frag} {ι : List Addr} {H : Hp} {q : PV} {v : V} (r : Lies K ι H q v) (h : flatP q = true) : flatV v = true := by cases r <;> first | rfl | cases h
theorem eqF_rep {K : W.Frag} {ι : List Addr} {H : Hp} {q r : PV} {v w : V} (h1 : Lies K ι H q v) (h2 : Lies K ι H r w) (f1 : flatP q = true) (f2 : flatP r = true) : eqV v w = eqF q r := by
 cases h1 <;> cases h2 <;> first | rfl | cases f1 | cases f2
theorem ZbZ {K : W.Frag} {ι : List Addr} {H : Hp} {x : PV} {vx : V} (lx : Lies K ι H x vx) (fx : flatP x = true) : ∀ {ps : List PV} {vs : List V}, Reps K ι H ps vs -> ps.all flatP = true -> vs.all flatV = true /\ inV vx vs = ps.any fun y => eqF y x
 | [], vs, r, h => by rw [r.inv0]; exact ⟨rfl, rfl⟩
 | q :: ps, vs, r, h => by
  obtain ⟨v, w, rfl, h1, h2⟩ := r.inv
  rw [List.all_cons, Bool.and_eq_true] at h
  obtain ⟨k1, k2⟩ := ZbZ lx fx h2 h.2
  refine ⟨by rw [List.all_cons, flat_rep (Rep.lies h1) h.1, k1]; rfl, ?_⟩
  unfold inV at k2 ⊢
  rw [List.any_cons, List.any_cons, k2, eqF_rep (Rep.lies h1) lx h.1 fx]
theorem in_ok : L2ok X.K (fun x y H Q => (∃ i j, x = .str i /\ y = .str j /\ Q (.bl (!(Builtin.Str.occurrences j i 0 j.length 1).isEmpty)) H) \/ rIn X.K false x y H Q) inP := by
 intro ι H C p q vx vy z Q cr lx ly e k
 unfold inP at e
 cases hb : inB p q with
 | none => rw [hb] at e; cases e
 | some b =>
  rw [hb] at e; cases e
  unfold inB at hb
  split at hb
  ·split at hb
   ·cases hb; cases lx; cases ly; exact .inl ⟨_, _, rfl, rfl, k _ H .refl cr repBl⟩
   ·cases hb
  ·split at hb
   ·rename_i xs hf
    cases hb
    rw [Bool.and_eq_true] at hf
    obtain ⟨a, vs, rfl, h1, rv⟩ := liesL ly
    obtain ⟨k1, k2⟩ := ZbZ lx hf.1 rv hf.2
    exact .inr ⟨a, vs, rfl, .inl h1, flat_rep lx hf.1, k1, by rw [if_neg Bool.false_ne_true, k2]; exact k _ H .refl cr repBl⟩
   ·cases hb
  ·split at hb
   ·rename_i xs hf
    cases hb
    rw [Bool.and_eq_true] at hf
    obtain ⟨a, vs, rfl, h1, rv⟩ := liesT ly
    obtain ⟨k1, k2⟩ := ZbZ lx hf.1 rv hf.2
    exact .inr ⟨a, vs, rfl, .inr h1.sq, flat_rep lx hf.1, k1, by rw [if_neg Bool.false_ne_true, k2]; exact k _ H .refl cr repBl⟩
   ·cases hb
  ·cases hb
theorem op_inAll : OpR X (compareOp .In) (fun x y H Q => (∃ i j, x = .str i /\ y = .str j /\ Q (.bl (!(Builtin.Str.occurrences j i 0 j.length 1).isEmpty)) H) \/ rIn X.K false x y H Q) := OpR.or op_in_str op_in_seq
noncomputable def Mtok (K : W.Frag) (r : V -> List V -> Hp -> VK -> Prop) (h : PV -> List PV -> Option PV) : Prop :=
 ∀ (ι : List Addr) (H : Hp) (C : Cs) (q : PV) (v : V) (ps : List PV) (vs : List V) (z : PV) (Q : VK), CR K ι H C -> Lies K ι H q v -> LiesAll K ι H ps vs -> h q ps = some z -> (∀ v H', Fr ι H H' -> CR K ι H' C -> Rep K ι H' z v -> Q v H') -> r v vs H Q
noncomputable def tyP (T : String) : PV -> Bool
 | .str _ => T == "str"
 | .int _ => T == "int"
 | .lst _ => T == "list"
 | .dct _ _ => T == "dict"
 | .dtt _ _ => T == "dict"
 | _ => false
noncomputable def isTy (T : String) (x : SV) : M Unit := fun C => match deref C x with
 | some q => if tyP T q then some ((), C) else none
 | none => none
noncomputable def mtD (h : PV -> List PV -> Option PV) (C : Cs) (x : SV) (xs : List SV) : Option SV := match deref C x, derefs C xs with
 | some q, some ps => (h q ps).map .v
 | _, _ => none
noncomputable def mMt (T : String) (h : PV -> List PV -> Option PV) (fo : PSt -> M SV) (fs : PSt -> M (List SV)) : PSt -> M SV := fun ρ => bnd (fo ρ) fun x => bnd (isTy T x) fun _ => bnd (fs ρ) fun xs => opM fun C => mtD h C x xs
theorem lies_ty {K : W.Frag} {ι : List Addr} {H : Hp} {T : String} {q : PV} {v : V} (l : Lies K ι H q v) (h : tyP T q = true) : tyV K T v H := by
 cases l with
 | str y hy => exact eq_of_beq (by simpa [tyP] using h)
 | int y => exact eq_of_beq (by simpa [tyP] using h)
 | lst h1 r => exact .inl ⟨eq_of_beq (by simpa [tyP] using h), _, h1⟩
 | dct h1 hl r => exact .inr (.inr (.inl ⟨eq_of_beq (by simpa [tyP] using h), .inl ⟨_, h1⟩⟩))
 | dtt h1 hl r => exact .inr (.inr (.inl ⟨eq_of_beq (by simpa [tyP] using h), .inr ⟨_, h1⟩⟩))
 | _ => cases h
theorem em_mt {T id : String} {name : Str} {r : V -> List V -> Hp -> VK -> Prop} {h : PV -> List PV -> Option PV} (pa : PlainAttrs T) (slot : Slot T name id) (hty : typeOf (.builtin id) = pure (.type "method_descriptor")) (hm : MtR X id r) (hk : Mtok X.K r h)
  (ho : EM X o fo) (ha : AM X (e :: es) fs) (hbase : attributeBase o name X.env (eval o X.env) = eval o X.env := by rfl)
  (hfew : ((backTo cpos (starEach (e :: es) X.env)).all (fun x => !x.1) && (backToKw cpos (keywordEach [] X.env)).all (fun x => x.1.isSome)
   && decide ((e :: es).length + ([] : List Keyword).length + (if ([] : List Keyword).isEmpty then 0 else 1) < 30)) = true := by rfl)
  (hline : (apos.endLine == cpos.line) = true := by rfl) (hs : starEach (e :: es) X.env = (false, eval e X.env) :: starEach es X.env := by rfl) (hplain : (backTo cpos (starEach es X.env)).any (·.1) = false := by rfl) :
  EM X (.Call (.Attribute o name apos) (e :: es) [] cpos) (mMt T h fo fs) :=
 PE.imp (pe_bm pa slot hty hm ho ha hbase hfew hline hs hplain) fun σ H Q h_ => by
  obtain ⟨ι, ρ, C, z, C', sr, e, q⟩ := h_
  obtain ⟨x, C1, e1, g1⟩ := Zaf e
  obtain ⟨u, C2, e2, g2⟩ := Zaf g1
  obtain ⟨xs, C3, e3, g3⟩ := Zaf g2
  obtain ⟨e4, hC⟩ := Zas g3
  subst hC
  clear e g1 g2 g3
  refine ⟨ι, ρ, C, x, C1, sr, e1, fun v H1 f1 c1 r1 => ?_⟩
  unfold isTy at e2
  split at e2
  ·rename_i q0 hd0
   split at e2
   ·rename_i ht
    cases e2
    refine ⟨lies_ty (r1.lies c1 hd0) ht, ι, ρ, _, xs, _, sr.step f1 c1, e3, fun vs H2 f2 c2 r2 => ?_⟩
    unfold mtD at e4
    split at e4
    ·rename_i q1 ps hd1 hds
     cases hz : h q1 ps with
     | none => rw [hz] at e4; cases e4
     | some z1 =>
      rw [hz] at e4; cases e4
      exact hk ι H2 _ q1 v ps vs z1 Q c2 ((r1.mono c1 f2).lies c2 hd1) (Zbj c2 r2 hds) hz fun v' H3 f3 c3 r3 => q v' H3 (f1.trans (f2.trans f3)) c3 r3
    ·cases e4
   ·cases e2
  ·cases e2
end
section
variable {X : Cx} {a b e c o i : Expr} {es : List Expr} {fa fb fc fo fi fv : PSt -> M SV} {fs : PSt -> M (List SV)} {pos p apos cpos p2 : Pos} {x : Str}
noncomputable def strsP : List PV -> Option (List Str)
 | [] => some []
 | .str b :: r => (strsP r).map (b :: ·)
 | _ :: _ => none
theorem strs_rep {K : W.Frag} {ι : List Addr} {H : Hp} : ∀ {ps : List PV} {vs : List V} {bs : List Str}, Reps K ι H ps vs -> strsP ps = some bs -> vs = bs.map V.str
 | [], vs, bs, r, e => by cases e; rw [r.inv0]; rfl
 | p :: ps, vs, bs, r, e => by
  obtain ⟨v, w, rfl, h1, h2⟩ := r.inv
  cases p with
  | str b =>
   unfold strsP at e
   cases hb : strsP ps with
   | none => rw [hb] at e; cases e
   | some cs =>
    rw [hb] at e; cases e
    have h1 : v = .str b := by unfold Rep at h1; exact h1.1
    rw [h1, strs_rep h2 hb]; rfl
  | _ => cases e
noncomputable def joinH : PV -> List PV -> Option PV
 | .str z, [.lst xs] => match strsP xs with
  | some ys => if (ys.map (·.length)).sum + ys.length * z.length <= 1000000 then some (.str (Txt.join z ys)) else none
  | none => none
 | _, _ => none
theorem join_len (z : Str) (ys : List Str) : (Txt.join z ys).length <= (ys.map (·.length)).sum + ys.length * z.length := by
 have e : (Txt.join z ys).length = (ys.map (·.length)).sum + (ys.length - 1) * z.length := size_glued z ys
 rw [e]
 exact Nat.add_le_add_left (Nat.mul_le_mul_right _ (Nat.sub_le _ _)) _
theorem join_ok : Mtok X.K (fun x xs H Q => ∃ (z : Str) (p : Addr) (ys : List Str), x = .str z /\ xs = [.ref p] /\ SqL X.K H p (ys.map V.str) /\ (ys.map (·.length)).sum + ys.length * z.length <= 16777216 /\ Q (.str (Txt.join z ys)) H) joinH := by
 intro ι H C q v ps vs z Q cr lq ls e k
 unfold joinH at e
 split at e
 ·rename_i z0 xs
  split at e
  ·rename_i ys hy
   split at e
   ·rename_i hl
    cases e
    cases ls with
    | cons l t =>
     cases t
     obtain ⟨rfl, hz⟩ := liesS lq
     obtain ⟨a, ws, rfl, h1, r1⟩ := liesL l
     exact ⟨_, a, ys, rfl, rfl, by rw [← strs_rep r1 hy]; exact h1, Nat.le_trans hl (by decide), k _ H .refl cr (repS (Nat.le_trans (join_len _ _) (k1000000 hl)))⟩
   ·cases e
  ·cases e
 ·cases e
noncomputable def keyP : PV -> Option Key
 | .int i => some (.inl i)
 | .str z => some (.inr z)
 | _ => none
theorem keyP_kP (k : Key) : keyP (kP k) = some k := by cases k <;> rfl
noncomputable def lookP : List PV -> List PV -> Key -> Option PV
 | k :: ks, v :: vs, q => if keyP k = some q then some v else lookP ks vs q
 | _, _, _ => none
theorem look_rep {K : W.Frag} {ι : List Addr} {H : Hp} {q : Key} : ∀ {qs : List Key} {ps : List PV} {vs : List V}, qs.length = vs.length -> Reps K ι H ps vs ->
  (∀ z, lookP (qs.map kP) ps q = some z -> ∃ v, valV (qs.zip vs) q = some v /\ Rep K ι H z v) /\ (lookP (qs.map kP) ps q = none -> valV (qs.zip vs) q = none)
 | [], ps, vs, hl, r => by
  refine ⟨fun z h => ?_, fun _ => rfl⟩
  cases ps <;> cases h
 | k :: qs, [], vs, hl, r => by rw [r.inv0] at hl; cases hl
 | k :: qs, p :: ps, vs, hl, r => by
  obtain ⟨v, w, rfl, h1, h2⟩ := r.inv
  have ih := look_rep (q := q) (qs := qs) (ps := ps) (vs := w) (by simpa using hl) h2
  rw [List.map_cons, List.zip_cons_cons]
  unfold lookP
  rw [keyP_kP]
  by_cases h : k = q
  ·subst h
   rw [if_pos rfl, valV_pos (p := (k, v)) rfl]
   exact ⟨fun z e => by cases e; exact ⟨v, rfl, h1⟩, fun e => nomatch e⟩
  ·rw [if_neg (fun e => h (Option.some.inj e)), valV_neg (p := (k, v)) h]
   exact ih
theorem lies_key {K : W.Frag} {ι : List Addr} {H : Hp} {x : PV} {v : V} {q : Key} (l : Lies K ι H x v) (h : keyP x = some q) : v = kV q := by
 cases l <;> first | (cases h; rfl) | cases h
theorem liesD {K : W.Frag} {ι : List Addr} {H : Hp} {ks ps : List PV} {v : V} (l : Lies K ι H (.dct ks ps) v) : ∃ (a : Addr) (qs : List Key) (vs : List V), v = .ref a /\ ks = qs.map kP /\ H a = some (.dK (qs.zip vs)) /\ qs.length = vs.length /\ Reps K ι H ps vs := by
 cases l; exact ⟨_, _, _, rfl, rfl, by assumption, by assumption, by assumption⟩
noncomputable def rDGet : R2 := fun x y H Q => ∃ a v, x = .ref a /\ DGet H a y (some v) /\ Q v H
theorem ix_dict (hu : X.A.units + 1 < cLine) : IxR X rDGet := by
 intro value slice pins s σ H x y v u Q I rx ry h hs
 obtain ⟨a, w, rfl, g, q⟩ := h
 cases rx
 exact tail_any (dict_typeIs I g) PySem.F.slot_dict_getitem.lookup (d_getItem hu I g ry fun w' s' I' r' => ⟨w, H, I', r', q⟩) hs
noncomputable def ixQ (x y : PV) : Option PV := match x with
 | .dct ks vs => match keyP y with
  | some q => lookP ks vs q
  | none => none
 | x => ixP x y
theorem ixQ_ok : L2ok X.K (fun x y H Q => rIx X.K x y H Q \/ rDGet x y H Q) ixQ := by
 intro ι H C p q vx vy z Q cr lx ly e k
 unfold ixQ at e
 split at e
 ·rename_i ks vs
  split at e
  ·rename_i key hk
   obtain ⟨a, qs, ws, rfl, rfl, hd, hl, r⟩ := liesD lx
   obtain ⟨v, hv, rv⟩ := (look_rep hl r).1 z e
   rw [lies_key ly hk]
   exact .inr ⟨a, v, rfl, by rw [← hv]; exact DGet.k hd, k v H .refl cr rv⟩
  ·cases e
 ·exact .inl (ix_ok ι H C p q vx vy z Q cr lx ly e k)
theorem track {pins : List (Addr × Obj)} {σ : St} {H : Hp} {s : Shared} {d : Addr} {ob : HO} (I : Inv X pins σ H s) (hn : H d = none) (hd : X.s₀.heap.objs.size <= d) (hL : d ≠ X.env.locals) (hc : ∀ x c, X.env.cells.lookup x = some c -> c ≠ d)
  (hp : ∀ p ∈ X.pn ++ pins, p.1 ≠ d) (new : ObjOk X.prog X.w (upd H d ob) s.heap d ob) : Inv X pins σ (upd H d ob) s := by
 have u := I.base
 refine ⟨I.ok, I.os, I.bare, ⟨u.keep, u.slot, fun b o e q hx => ?_, u.there, fun b xs e => ?_, fun b o xs e => ?_, fun b ps e => ?_⟩, I.loc, I.cell, ?_, fun x c e => ?_, fun p hp' => ?_, fun b o e => ?_, I.len⟩
 ·rw [Zam (Nat.ne_of_lt (Nat.lt_of_lt_of_le (Heap.lt_size e) hd))]; exact u.free b o e q hx
 ·rw [Zam (Zak (u.tups b xs e) hn)]; exact u.tups b xs e
 ·rw [Zam (Zak (u.frzs b o xs e) hn)]; exact u.frzs b o xs e
 ·obtain ⟨more, q⟩ := u.tbls b ps e
  exact ⟨more, by rw [Zam (Zak q hn)]; exact q⟩
 ·rw [Zam (Ne.symm hL)]; exact I.free
 ·rw [Zam (hc x c e)]; exact I.freeC x c e
 ·obtain ⟨h1, h2, h3⟩ := I.pin p hp'
  exact ⟨h1, by rw [Zam (hp p hp')]; exact h2, h3⟩
 ·by_cases hb : b = d
  ·subst hb
   rw [ZaP] at e; cases e; exact new
  ·rw [Zam hb] at e
   exact (I.hok b o e).stay (fun _ _ _ q => q) (fun c q => by rw [Zam (Zak q hn)]; exact q) fun c xs q => by rw [Zam (Zak q hn)]; exact q
noncomputable def PRel : List Str -> List V -> List (Value × Value) -> Prop
 | [], [], [] => True
 | k :: ks, v :: vs, (u, w) :: r => keyIs (.inr k) u = true /\ RelV v w /\ PRel ks vs r
 | _, _, _ => False
noncomputable def DP (X : Cx) (ks : List (Option Expr)) (es : List Expr) (keys : List Str) (t : TA) : Prop :=
 ∀ (pos : Pos) (pins : List (Addr × Obj)) (s : Shared) (σ : St) (H : Hp) (Q : List V -> Hp -> Prop), Inv X pins σ H s -> t σ H Q ->
  wpAny (model X.prog X.w) X.A (evalPairs (pairTrees ks es X.env pos)) (fun us s' => ∃ vs H', Inv X pins σ H' s' /\ PRel keys vs us /\ Q vs H') X.xe s
noncomputable def DM (X : Cx) (ks : List (Option Expr)) (es : List Expr) (keys : List Str) (f : PSt -> M (List SV)) : Prop := DP X ks es keys (tMA X.K f)
noncomputable def mDict (keys : List Str) (fs : PSt -> M (List SV)) : PSt -> M SV := fun ρ => bnd (fs ρ) fun xs => opM fun _ => (plain xs).map fun ps => .v (.dct (keys.map PV.str) ps)
end
structure TopD (K : W.Frag) (w : World) (d : Addr) (tab : List (Str × Addr)) : Prop where
 ex : ∃ (es : Array DictEntry) (n : Nat), K.lookup d = some ⟨.type "dict", none, .dict es n, #[]⟩ /\ W.KeysLit w.params es.toList /\ Paired (fun (p : Str × Addr) (e : DictEntry) => Value.isStrOf p.1 e.key = true /\ e.val = .ref p.2) tab es.toList
 lo : (d == sysModules) = false
theorem isStrOf_iff {x y : Str} {v : Value} (h : Value.isStrOf y v = true) : Value.isStrOf x v = decide (x = y) := by
 obtain ⟨t, rfl⟩ := Value.isStrOf_shape h
 by_cases e : x = y
 ·subst e; simp [Value.isStrOf]
 ·have : ¬ (y = x) := fun z => e z.symm
  simp [Value.isStrOf, e, this]
theorem tab_find {x : Str} : ∀ {tab : List (Str × Addr)} {es : List DictEntry}, Paired (fun (p : Str × Addr) (e : DictEntry) => Value.isStrOf p.1 e.key = true /\ e.val = .ref p.2) tab es ->
    (es.find? fun d => Value.isStrOf x d.key).map (·.val) = (tab.lookup x).map Value.ref
  | _, _, .nil => rfl
  | (k, f) :: tab, e :: es, .cons h t => by
    have ih := tab_find (x := x) t
    rw [List.find?_cons, List.lookup_cons, isStrOf_iff h.1]
    by_cases hx : x = k
    · subst hx
      rw [decide_eq_true rfl, beq_self_eq_true]
      simp [h.2]
    · rw [decide_eq_false hx, beq_eq_false_iff_ne.mpr hx]
      exact ih
theorem TopD.map {K : W.Frag} {w : World} {d : Addr} {tab : List (Str × Addr)} (T : TopD K w d tab) (prog : Program) {h : Heap} (X : K.In h) : h.MapOf (strKind prog w) d (fun k => (tab.lookup k).map Value.ref) := by
 obtain ⟨es, n, hl, hk, hp⟩ := T.ex
 have m := W.mapOf_K (prog := prog) X hl hk
 have e : (fun k => findBy Value.isStrOf es k) = fun k => (tab.lookup k).map Value.ref := by
  funext k
  rw [← tab_find hp]
  obtain ⟨l⟩ := es
  unfold findBy
  rw [List.find?_toArray]
 rw [← e]; exact m
section
variable {X : Cx} {a b e c o i : Expr} {es : List Expr} {fa fb fc fo fi fv : PSt -> M SV} {fs : PSt -> M (List SV)} {pos p apos cpos p2 : Pos} {x : Str} {d : Addr} {tab : List (Str × Addr)}
noncomputable def topG (d : Addr) (tab : List (Str × Addr)) (C : Cs) (x y : SV) : Option SV := match x, deref C y with
 | .v (.fn d'), some (.str k) => if d' = d then (tab.lookup k).map fun f => .v (.fn f) else none
 | _, _ => none
noncomputable def topI (d : Addr) (tab : List (Str × Addr)) (neg : Bool) (C : Cs) (x y : SV) : Option SV := match y, deref C x with
 | .v (.fn d'), some (.str k) => if d' = d then some (.v (.bl (if neg then !(tab.lookup k).isSome else (tab.lookup k).isSome))) else none
 | _, _ => none
theorem ix_top (T : TopD X.K X.w d tab) : IxR X (fun x y H Q => ∃ k f, x = .ref d /\ y = .str k /\ tab.lookup k = some f /\ Q (.ref f) H) := by
 intro value slice pins s σ H x y v u Q I rx ry h hs
 obtain ⟨k, f, rfl, rfl, hk, q⟩ := h
 cases rx
 obtain ⟨t, rfl⟩ := ry
 have m := T.map X.prog I.kIn
 exact tail_any m.typeIs slot_dict_getitem.lookup (wpAny_getItem_of (strKind_is X.prog X.w k t) m (by rw [hk]; rfl) ⟨.ref f, H, I.tok _, rfl, q⟩) hs
theorem topG_ok {K : W.Frag} : R2ok K (fun x y H Q => ∃ k f, x = .ref d /\ y = .str k /\ tab.lookup k = some f /\ Q (.ref f) H) (topG d tab) := by
 intro ι H C x y vx vy z Q cr rx ry e k
 unfold topG at e
 split at e
 ·rename_i d' key hy
  split at e
  ·rename_i hd
   subst hd
   cases hf : tab.lookup key with
   | none => rw [hf] at e; cases e
   | some f =>
    rw [hf] at e
    cases e
    have rx : vx = .ref d' := by unfold RepS Rep at rx; exact rx
    obtain ⟨rfl, _⟩ := liesS (ry.lies cr hy)
    exact ⟨key, f, rx, rfl, hf, k _ H .refl cr (by unfold RepS Rep; rfl)⟩
  ·cases e
 ·cases e
theorem op_topin (T : TopD X.K X.w d tab) : OpR X (compareOp .In) (fun x y H Q => ∃ k, y = .ref d /\ x = .str k /\ Q (.bl (tab.lookup k).isSome) H) := by
 intro pins s σ H x y v u Q I rx ry h
 obtain ⟨k, rfl, rfl, q⟩ := h
 cases ry
 obtain ⟨t, rfl⟩ := rx
 refine wpAny_in_of (strKind_is X.prog X.w k t) T.lo (T.map X.prog I.kIn) ?_
 rw [Option.isSome_map]
 exact ⟨.bl _, H, I.tok _, rfl, q⟩
theorem topI_ok {K : W.Frag} : R2ok K (fun x y H Q => ∃ k, y = .ref d /\ x = .str k /\ Q (.bl (tab.lookup k).isSome) H) (topI d tab false) := by
 intro ι H C x y vx vy z Q cr rx ry e k
 unfold topI at e
 split at e
 ·rename_i d' key hy
  split at e
  ·rename_i hd
   subst hd
   cases e
   have ry : vy = .ref d' := by unfold RepS Rep at ry; exact ry
   obtain ⟨rfl, _⟩ := liesS (rx.lies cr hy)
   exact ⟨key, ry, rfl, k _ H .refl cr repB'⟩
  ·cases e
 ·cases e
noncomputable def callF (T : List (Addr × (List SV -> M SV))) (f : SV) (xs : List SV) : M SV := fun C => match f with
 | .v (.fn a) => match T.lookup a with
  | some F => F xs C
  | none => none
 | _ => none
noncomputable def mCallV (i : Nat) (T : List (Addr × (List SV -> M SV))) (fs : PSt -> M (List SV)) : PSt -> M SV := fun ρ => bnd (mVar i ρ) fun f => bnd (fs ρ) fun xs => callF T f xs
theorem callV_some {T : List (Addr × (List SV -> M SV))} {f : SV} {xs : List SV} {C C2 : Cs} {r : SV} (h : callF T f xs C = some (r, C2)) : ∃ a F, f = .v (.fn a) /\ T.lookup a = some F /\ F xs C = some (r, C2) := by
 unfold callF at h
 split at h
 ·split at h
  ·exact ⟨_, _, rfl, by assumption, h⟩
  ·cases h
 ·cases h
theorem hv_of {T : List (Addr × (List SV -> M SV))} {Pd : Addr -> (List SV -> M SV) -> Prop} (h : ∀ q ∈ T, Pd q.1 q.2) : ∀ a F, T.lookup a = some F -> Pd a F := fun a F e => h (a, F) (ZaU e)
noncomputable def mDict0 : PSt -> M SV := fun _ => ret (.v (.dct [] []))
theorem Zcm {K : W.Frag} {x1 x2 q1 q2 : Str} {s1 s2 : Stmt} {f1 f2 : Addr} {d1 d2 : FuncData} (F1 : Fun K x1 q1 s1 f1 d1) (F2 : Fun K x2 q2 s2 f2 d2) (h : x1 ≠ x2) : f1 ≠ f2 := by
 obtain ⟨oc, od, kV, doc, pm, an, cdv, ct, osl, e1, l1, _⟩ := F1.ex
 obtain ⟨oc2, od2, kV2, doc2, pm2, an2, cdv2, ct2, osl2, e2, l2, _⟩ := F2.ex
 intro e
 subst e
 rw [l1] at l2
 injection l2 with l2
 injection l2 with _ _ l3 _
 injection l3 with l4
 rw [e1, e2] at l4
 exact h (congrArg FuncData.name l4)
end
structure NextAt (P : Program) (w : World) (it : Addr) (us : List Addr) (R : Value -> Prop) (st st' : Heap -> Prop) : Prop where
 item : ∀ (A : Around) (E : Value -> Shared -> Prop) (s : Shared) (Q : Value -> Shared -> Prop), st s.heap -> (∀ u h' tk, R u -> st' h' -> Heap.SameBut it s.heap h' -> Q u { s with heap := h', toks := tk }) -> wpAny (model P w) A (Builtin.SmallTypes.nextOf (.ref it)) Q E s
 keep : ∀ h h' : Heap, st h -> (∀ b ∈ us, ∀ o, h.get? b = some o -> h'.get? b = some o) -> st h'
 keep' : ∀ h h' : Heap, st' h -> (∀ b ∈ us, ∀ o, h.get? b = some o -> h'.get? b = some o) -> st' h'
structure EndAt (P : Program) (w : World) (it : Addr) (us : List Addr) (st : Heap -> Prop) : Prop where
 done : ∀ (A : Around) (E : Value -> Shared -> Prop) (s : Shared) (Q : Value -> Shared -> Prop), A.handled = none -> st s.heap -> (∀ h' e, Heap.ExtBut it s.heap h' -> (∃ o, h'.get? e = some o /\ o.cls = .type "StopIteration") -> E (.ref e) { s with heap := h' }) -> wpAny (model P w) A (Builtin.SmallTypes.nextOf (.ref it)) Q E s
 keep : ∀ h h' : Heap, st h -> (∀ b ∈ us, ∀ o, h.get? b = some o -> h'.get? b = some o) -> st h'
structure ZApart (z TI TO i1 i2 : Addr) (us1 us2 : List Addr) : Prop where
 a1 : TI ≠ z
 a2 : TO ≠ z
 a3 : i1 ≠ z
 a4 : i2 ≠ z
 a5 : TI ≠ TO
 a6 : TI ≠ i1
 a7 : TI ≠ i2
 a8 : TO ≠ i1
 a9 : TO ≠ i2
 b1 : z ∉ us1
 b2 : TO ∉ us1
 b3 : i2 ∉ us1
 c1 : z ∉ us2
 c2 : TO ∉ us2
 c3 : i1 ∉ us2
section
variable {P : Program} {w : World} {A : Around} {E : Value -> Shared -> Prop} {s : Shared} {z TI TO i1 i2 : Addr} {us1 us2 : List Addr} {R1 R2 : Value -> Prop} {st1 st1' st2 st2' : Heap -> Prop}
theorem zip_item {a b : Value} {Q : Value -> Shared -> Prop} (D : ZApart z TI TO i1 i2 us1 us2) (N1 : NextAt P w i1 us1 R1 st1 st1') (N2 : NextAt P w i2 us2 R2 st2 st2')
  (hz : IsZip s.heap z TI TO .none) (hTI : IsPair s.heap TI (.ref i1) (.ref i2)) (hTO : IsPair s.heap TO a b) (h1 : st1 s.heap) (h2 : st2 s.heap)
  (hQ : ∀ x y h' tk, R1 x -> R2 y -> IsZip h' z TI TO (rawInt s.heap.objs.size) -> IsPair h' TO x y -> st1' h' -> st2' h' -> IsPair h' s.heap.objs.size x y -> h'.objs.size = s.heap.objs.size + 1 ->
   (∀ c o, c ≠ z -> c ≠ TO -> c ≠ i1 -> c ≠ i2 -> s.heap.get? c = some o -> h'.get? c = some o) -> Q (.ref s.heap.objs.size) { s with heap := h', toks := tk }) :
  wpAny (model P w) A (Builtin.«zip.__next__» ⟨[.ref z], []⟩) (fun fin s' => ∃ v, fin = .done (.ret v) /\ Q v s') E s := by
 show wpAny _ _ (field (.ref z) 2 >>= _) _ _ _; refine wpAny_bind (wpAny_field hz rfl (x := .bool false) rfl ?_)
 show wpAny _ _ (field (.ref z) 3 >>= _) _ _ _; refine wpAny_bind (wpAny_field hz rfl (x := .ref TI) rfl ?_)
 refine wpAny_bind (wpAny_seqItems hTI rfl ?_); show wpAny _ _ (Builtin.SmallTypes.ownedTupleIsFree (.ref z) >>= _) _ _ _
 refine wpAny_bind ?_; unfold Builtin.SmallTypes.ownedTupleIsFree
 refine wpAny_bind (wpAny_field hz rfl (x := .none) rfl (wpAny_pure ?_)); simp only [if_true]
 refine wpAny_bind (wpAny_rule ?_); refine wpAny_bind (wpAny_field hz rfl (x := .ref TO) rfl ?_)
 refine wpAny_bind (wpAny_setField_rec hz (by simp) fun g1 hz1 hs1 => ?_); replace hz1 : IsZip g1 z TI TO .ellipsis := hz1
 refine wpAny_bind ?_; simp only [List.zipIdx_cons, List.zipIdx_nil, List.forIn_cons, List.forIn_nil]
 refine wpAny_bind (wpAny_bind (wpAny_onRaise ?_)); show wpAny _ _ (Builtin.SmallTypes.nextOf (.ref i1) >>= _) _ _ _
 have k1 : ∀ c o, c ≠ z -> s.heap.get? c = some o -> g1.get? c = some o := fun c o n e => hs1.extBut _ _ n e
 refine wpAny_bind (N1.item _ _ _ _ (N1.keep _ _ h1 fun b hb o e => k1 b o (fun q => D.b1 (q ▸ hb)) e) fun x g2 tk2 rx h1' hs2 => wpAny_pure ?_)
 have k2 : ∀ c o, c ≠ z -> c ≠ i1 -> s.heap.get? c = some o -> g2.get? c = some o := fun c o n1 n2 e => hs2.extBut _ _ n2 (k1 c o n1 e)
 have hTO2 : IsPair g2 TO a b := k2 _ _ D.a2 D.a8 hTO
 refine wpAny_bind (wpAny_seqItems hTO2 rfl ?_); refine wpAny_bind (wpAny_updateSeq_pair hTO2 fun g3 hTO3 hs3 => ?_); replace hTO3 : IsPair g3 TO x b := hTO3
 have k3 : ∀ c o, c ≠ z -> c ≠ i1 -> c ≠ TO -> s.heap.get? c = some o -> g3.get? c = some o := fun c o n1 n2 n3 e => hs3.extBut _ _ n3 (k2 c o n1 n2 e)
 refine wpAny_bind (wpAny_letGo (wpAny_pure ?_)); refine wpAny_bind (wpAny_bind (wpAny_onRaise ?_)); show wpAny _ _ (Builtin.SmallTypes.nextOf (.ref i2) >>= _) _ _ _
 refine wpAny_bind (N2.item _ _ _ _ (N2.keep _ _ h2 fun b hb o e => k3 b o (fun q => D.c1 (q ▸ hb)) (fun q => D.c3 (q ▸ hb)) (fun q => D.c2 (q ▸ hb)) e) fun y g4 tk4 ry h2' hs4 => wpAny_pure ?_)
 have hTO4 : IsPair g4 TO x b := hs4.extBut _ _ D.a9 hTO3
 refine wpAny_bind (wpAny_seqItems hTO4 rfl ?_); refine wpAny_bind (wpAny_updateSeq_pair hTO4 fun g5 hTO5 hs5 => ?_); replace hTO5 : IsPair g5 TO x y := hTO5
 refine wpAny_bind (wpAny_letGo (wpAny_pure (wpAny_pure ?_))); refine wpAny_bind (wpAny_seqItems hTO5 rfl ?_); refine wpAny_bind (wpAny_newTuple ?_)
 have e1 := hs1.1; have e2 := hs2.1; have e3 := hs3.1; have e4 := hs4.1; have e5 := hs5.1
 have hsz : g5.objs.size = s.heap.objs.size := by simp only at e2 e4; rw [e5, e4, e3, e2, e1]
 have k5 : ∀ c o, c ≠ z -> c ≠ TO -> c ≠ i1 -> c ≠ i2 -> s.heap.get? c = some o -> g5.get? c = some o := fun c o n1 n2 n3 n4 e => hs5.extBut _ _ n2 (hs4.extBut _ _ n4 (k3 c o n1 n3 n2 e))
 have hz5 : IsZip g5 z TI TO .ellipsis := hs5.extBut _ _ D.a2.symm (hs4.extBut _ _ D.a4.symm (hs3.extBut _ _ D.a2.symm (hs2.extBut _ _ D.a3.symm hz1)))
 have q1 : st1' g5 := N1.keep' _ _ h1' fun b hb o e => hs5.extBut _ _ (fun q => D.b2 (q ▸ hb)) (hs4.extBut _ _ (fun q => D.b3 (q ▸ hb)) (hs3.extBut _ _ (fun q => D.b2 (q ▸ hb)) e))
 have q2 : st2' g5 := N2.keep' _ _ h2' fun b hb o e => hs5.extBut _ _ (fun q => D.c2 (q ▸ hb)) e
 have ltz : z < g5.objs.size := Heap.lt_size hz5
 show wpAny _ _ (Builtin.SmallTypes.ownedTupleHandOut (.ref z) (.ref g5.objs.size) >>= _) _ _ _
 refine wpAny_bind ?_; unfold Builtin.SmallTypes.ownedTupleHandOut
 have hz6 : IsZip (g5.push { cls := .type "tuple", data := .seq #[x, y] }) z TI TO .ellipsis := Heap.get?_push_of_some _ hz5
 refine wpAny_bind (wpAny_setField_rec hz6 (by simp) fun g7 hz7 hs7 => ?_); replace hz7 : IsZip g7 z TI TO (rawInt g5.objs.size) := hz7
 refine wpAny_setField_rec hz7 (by simp) fun g8 hz8 hs8 => ?_; replace hz8 : IsZip g8 z TI TO (rawInt g5.objs.size) := hz8
 have up : ∀ c o, c ≠ z -> g5.get? c = some o -> g8.get? c = some o := fun c o n e => hs8.extBut _ _ n (hs7.extBut _ _ n (Heap.get?_push_of_some _ e))
 have hT8 : IsPair g8 g5.objs.size x y := hs8.extBut _ _ (Nat.ne_of_gt ltz) (hs7.extBut _ _ (Nat.ne_of_gt ltz) (Heap.get?_push_size _ rfl))
 have sz8 : g8.objs.size = g5.objs.size + 1 := by rw [hs8.1, hs7.1, Heap.size_push]
 rw [hsz] at hz8 hT8 sz8; refine wpAny_pure ⟨_, rfl, ?_⟩; show Q (.ref g5.objs.size) _; rw [hsz]
 exact hQ x y g8 _ rx ry hz8 (up _ _ D.a2 hTO5) (N1.keep' _ _ q1 fun b hb o e => up b o (fun q => D.b1 (q ▸ hb)) e) (N2.keep' _ _ q2 fun b hb o e => up b o (fun q => D.c1 (q ▸ hb)) e) hT8 sz8 fun c o n1 n2 n3 n4 e => up c o n1 (k5 c o n1 n2 n3 n4 e)
theorem zip_end {a b : Value} {Q : Fin -> Shared -> Prop} (hh : A.handled = none) (D : ZApart z TI TO i1 i2 us1 us2)
  (N : EndAt P w i1 us1 st1 \/ ∃ R1 st1', NextAt P w i1 us1 R1 st1 st1' /\ EndAt P w i2 us2 st2)
  (hz : IsZip s.heap z TI TO .none) (hTI : IsPair s.heap TI (.ref i1) (.ref i2)) (hTO : IsPair s.heap TO a b) (h1 : st1 s.heap) (h2 : st2 s.heap)
  (hE : ∀ h' e tk, (∀ c o, c ≠ z -> c ≠ TO -> c ≠ i1 -> c ≠ i2 -> s.heap.get? c = some o -> h'.get? c = some o) -> (∃ o, h'.get? e = some o /\ o.cls = .type "StopIteration") -> E (.ref e) { s with heap := h', toks := tk }) :
  wpAny (model P w) A (Builtin.«zip.__next__» ⟨[.ref z], []⟩) Q E s := by
 show wpAny _ _ (field (.ref z) 2 >>= _) _ _ _; refine wpAny_bind (wpAny_field hz rfl (x := .bool false) rfl ?_)
 show wpAny _ _ (field (.ref z) 3 >>= _) _ _ _; refine wpAny_bind (wpAny_field hz rfl (x := .ref TI) rfl ?_)
 refine wpAny_bind (wpAny_seqItems hTI rfl ?_); show wpAny _ _ (Builtin.SmallTypes.ownedTupleIsFree (.ref z) >>= _) _ _ _
 refine wpAny_bind ?_; unfold Builtin.SmallTypes.ownedTupleIsFree
 refine wpAny_bind (wpAny_field hz rfl (x := .none) rfl (wpAny_pure ?_)); simp only [if_true]
 refine wpAny_bind (wpAny_rule ?_); refine wpAny_bind (wpAny_field hz rfl (x := .ref TO) rfl ?_)
 refine wpAny_bind (wpAny_setField_rec hz (by simp) fun g1 hz1 hs1 => ?_); replace hz1 : IsZip g1 z TI TO .ellipsis := hz1
 refine wpAny_bind ?_; simp only [List.zipIdx_cons, List.zipIdx_nil, List.forIn_cons, List.forIn_nil]
 refine wpAny_bind (wpAny_bind (wpAny_onRaise ?_)); show wpAny _ _ (Builtin.SmallTypes.nextOf (.ref i1) >>= _) _ _ _
 have k1 : ∀ c o, c ≠ z -> s.heap.get? c = some o -> g1.get? c = some o := fun c o n e => hs1.extBut _ _ n e
 rcases N with N1 | ⟨R1, st1', N1, N2⟩
 ·refine wpAny_bind (N1.done _ _ _ _ hh (N1.keep _ _ h1 fun b hb o e => k1 b o (fun q => D.b1 (q ▸ hb)) e) fun g2 e hs2 he => ?_)
  obtain ⟨oe, hoe, hce⟩ := he
  have hz2 : IsZip g2 z TI TO .ellipsis := hs2 _ _ D.a3.symm hz1
  have hez : e ≠ z := fun x => by subst x; rw [hz2] at hoe; cases hoe; simp at hce
  refine wpAny_setField_rec hz2 (by simp) fun g3 _ hs3 => hE g3 e s.toks (fun c o n1 _ n3 _ x => hs3.extBut _ _ n1 (hs2 _ _ n3 (k1 c o n1 x))) ⟨oe, hs3.extBut _ _ hez hoe, hce⟩
 ·refine wpAny_bind (N1.item _ _ _ _ (N1.keep _ _ h1 fun b hb o e => k1 b o (fun q => D.b1 (q ▸ hb)) e) fun x g2 tk2 rx h1' hs2 => wpAny_pure ?_)
  have k2 : ∀ c o, c ≠ z -> c ≠ i1 -> s.heap.get? c = some o -> g2.get? c = some o := fun c o n1 n2 e => hs2.extBut _ _ n2 (k1 c o n1 e)
  have hTO2 : IsPair g2 TO a b := k2 _ _ D.a2 D.a8 hTO
  refine wpAny_bind (wpAny_seqItems hTO2 rfl ?_); refine wpAny_bind (wpAny_updateSeq_pair hTO2 fun g3 hTO3 hs3 => ?_); replace hTO3 : IsPair g3 TO x b := hTO3
  have k3 : ∀ c o, c ≠ z -> c ≠ i1 -> c ≠ TO -> s.heap.get? c = some o -> g3.get? c = some o := fun c o n1 n2 n3 e => hs3.extBut _ _ n3 (k2 c o n1 n2 e)
  refine wpAny_bind (wpAny_letGo (wpAny_pure ?_)); refine wpAny_bind (wpAny_bind (wpAny_onRaise ?_)); show wpAny _ _ (Builtin.SmallTypes.nextOf (.ref i2) >>= _) _ _ _
  refine wpAny_bind (N2.done _ _ _ _ hh (N2.keep _ _ h2 fun b hb o e => k3 b o (fun q => D.c1 (q ▸ hb)) (fun q => D.c3 (q ▸ hb)) (fun q => D.c2 (q ▸ hb)) e) fun g4 e hs4 he => ?_)
  obtain ⟨oe, hoe, hce⟩ := he
  have hz4 : IsZip g4 z TI TO .ellipsis := hs4 _ _ D.a4.symm (hs3.extBut _ _ D.a2.symm (hs2.extBut _ _ D.a3.symm hz1))
  have hez : e ≠ z := fun x => by subst x; rw [hz4] at hoe; cases hoe; simp at hce
  refine wpAny_setField_rec hz4 (by simp) fun g5 _ hs5 => hE g5 e tk2 (fun c o n1 n2 n3 n4 x => hs5.extBut _ _ n1 (hs4 _ _ n4 (k3 c o n1 n3 n2 x))) ⟨oe, hs5.extBut _ _ hez hoe, hce⟩
theorem zip_next {a b : Value} {Q : Option Value -> Shared -> Prop} (D : ZApart z TI TO i1 i2 us1 us2) (N1 : NextAt P w i1 us1 R1 st1 st1') (N2 : NextAt P w i2 us2 R2 st2 st2')
  (hz : IsZip s.heap z TI TO .none) (hTI : IsPair s.heap TI (.ref i1) (.ref i2)) (hTO : IsPair s.heap TO a b) (h1 : st1 s.heap) (h2 : st2 s.heap)
  (hQ : ∀ x y h' tk, R1 x -> R2 y -> IsZip h' z TI TO (rawInt s.heap.objs.size) -> IsPair h' TO x y -> st1' h' -> st2' h' -> IsPair h' s.heap.objs.size x y -> h'.objs.size = s.heap.objs.size + 1 ->
   (∀ c o, c ≠ z -> c ≠ TO -> c ≠ i1 -> c ≠ i2 -> s.heap.get? c = some o -> h'.get? c = some o) -> Q (some (.ref s.heap.objs.size)) { s with heap := h', toks := tk }) :
  wpAny (model P w) A (pyNext (.ref z)) Q E s := by
 have hT : s.TypeIs (.ref z) "zip" := ⟨_, hz, rfl⟩
 unfold pyNext
 exact wpAny_bind (wpAny_attempt (wpAny_callSpecial?_slot (name := Str.ofString "__next__") hT PySem.F.slot_zip_next (wpAny_call_entry PySem.F.slot_zip_next hT PySem.F.entry_zip_next
   (zip_item D N1 N2 hz hTI hTO h1 h2 fun x y h' tk a1 a2 a3 a4 a5 a6 a7 a8 a9 => wpAny_pure (hQ x y h' tk a1 a2 a3 a4 a5 a6 a7 a8 a9)) (PySem.F.args_zip_next_1 _))))
theorem zip_done {a b : Value} {Q : Option Value -> Shared -> Prop} (hh : A.handled = none) (D : ZApart z TI TO i1 i2 us1 us2)
  (N : EndAt P w i1 us1 st1 \/ ∃ R1 st1', NextAt P w i1 us1 R1 st1 st1' /\ EndAt P w i2 us2 st2)
  (hz : IsZip s.heap z TI TO .none) (hTI : IsPair s.heap TI (.ref i1) (.ref i2)) (hTO : IsPair s.heap TO a b) (h1 : st1 s.heap) (h2 : st2 s.heap)
  (hQ : ∀ h' tk, (∀ c o, c ≠ z -> c ≠ TO -> c ≠ i1 -> c ≠ i2 -> s.heap.get? c = some o -> h'.get? c = some o) -> Q none { s with heap := h', toks := tk }) : wpAny (model P w) A (pyNext (.ref z)) Q E s := by
 have hT : s.TypeIs (.ref z) "zip" := ⟨_, hz, rfl⟩
 unfold pyNext
 refine wpAny_bind (wpAny_attempt (wpAny_callSpecial?_slot (name := Str.ofString "__next__") hT PySem.F.slot_zip_next (wpAny_call_entry PySem.F.slot_zip_next hT PySem.F.entry_zip_next (zip_end hh D N hz hTI hTO h1 h2 fun h' e tk hk he => ?_) (PySem.F.args_zip_next_1 _))))
 obtain ⟨o, ho, hc⟩ := he
 exact wpAny_bind (wpAny_isInstance (T := "StopIteration") (b := true) ⟨o, ho, hc⟩ isSubtype_stop (wpAny_pure (hQ _ _ hk)))
theorem tup_nextOf {it t : Addr} {i : Nat} {items : Array Value} {x : Value} {Q : Value -> Shared -> Prop} (hit : s.heap.IsTupleIter it t i) (ht : s.heap.IsTuple t items) (hx : items[i]? = some x)
  (hQ : ∀ h', h'.IsTupleIter it t (i + 1) -> Heap.SameBut it s.heap h' -> Q x { s with heap := h' }) : wpAny (model P w) A (Builtin.SmallTypes.nextOf (.ref it)) Q E s := by
 obtain ⟨o, ho, hc, hd⟩ := id hit; obtain ⟨ol, hol, _, nl, hdl⟩ := ht
 unfold Builtin.SmallTypes.nextOf
 refine wpAny_bind (wpAny_callSpecial?_slot (name := Str.ofString "__next__") hit.typeIs PySem.F.slot_tuple_iterator_next (wpAny_call_entry PySem.F.slot_tuple_iterator_next hit.typeIs PySem.F.entry_tuple_iterator_next ?_ (PySem.F.args_tuple_iterator_next_1 _)))
 show wpAny _ _ (field (.ref it) 0 >>= _) _ _ s; refine wpAny_bind (wpAny_field ho hd (x := .ref t) rfl ?_)
 show wpAny _ _ (if (Value.ref t == Value.none) = true then _ else _) _ _ s; rw [if_neg (show ¬ ((Value.ref t == Value.none) = true) from Bool.false_ne_true)]
 show wpAny _ _ (field (.ref it) 1 >>= _) _ _ s; refine wpAny_bind (wpAny_field ho hd (x := .int i 0) rfl ?_)
 show wpAny _ _ (seqItems? (.ref t) >>= _) _ _ s; refine wpAny_bind (wpAny_seqItems hol hdl ?_); simp only [Int.toNat_natCast, hx]
 refine wpAny_bind (wpAny_setField ho hd (by simp) (wpAny_pure ⟨x, rfl, wpAny_pure (hQ _ ?_ (Heap.SameBut.update ..))⟩)); exact ⟨_, Heap.get?_update_self _ ho (Obj.isFreed_of_fields (Obj.data_mapFields hd _)), (Obj.cls_mapFields ..).trans hc, by rw [Obj.data_mapFields hd]; simp [rawInt]⟩
theorem tup_nextEnd {it t : Addr} {i : Nat} {items : Array Value} {Q : Value -> Shared -> Prop} (hh : A.handled = none) (hit : s.heap.IsTupleIter it t i) (ht : s.heap.IsTuple t items) (hx : items[i]? = none)
  (hE : ∀ h' e, Heap.ExtBut it s.heap h' -> (∃ o, h'.get? e = some o /\ o.cls = .type "StopIteration") -> E (.ref e) { s with heap := h' }) : wpAny (model P w) A (Builtin.SmallTypes.nextOf (.ref it)) Q E s := by
 obtain ⟨o, ho, hc, hd⟩ := id hit; obtain ⟨ol, hol, _, nl, hdl⟩ := ht
 unfold Builtin.SmallTypes.nextOf
 refine wpAny_bind (wpAny_callSpecial?_slot (name := Str.ofString "__next__") hit.typeIs PySem.F.slot_tuple_iterator_next (wpAny_call_entry PySem.F.slot_tuple_iterator_next hit.typeIs PySem.F.entry_tuple_iterator_next ?_ (PySem.F.args_tuple_iterator_next_1 _)))
 show wpAny _ _ (field (.ref it) 0 >>= _) _ _ s; refine wpAny_bind (wpAny_field ho hd (x := .ref t) rfl ?_)
 show wpAny _ _ (if (Value.ref t == Value.none) = true then _ else _) _ _ s; rw [if_neg (show ¬ ((Value.ref t == Value.none) = true) from Bool.false_ne_true)]
 show wpAny _ _ (field (.ref it) 1 >>= _) _ _ s; refine wpAny_bind (wpAny_field ho hd (x := .int i 0) rfl ?_)
 show wpAny _ _ (seqItems? (.ref t) >>= _) _ _ s; refine wpAny_bind (wpAny_seqItems hol hdl ?_); simp only [Int.toNat_natCast, hx]
 refine wpAny_bind (wpAny_rule (wpAny_bind (wpAny_setField ho hd (by simp) ?_))); show wpAny _ _ (newExc (.type "StopIteration") [] >>= _) _ _ _
 refine wpAny_bind ?_; simp only [newExc, newTuple]; refine wpAny_bind (wpAny_newObj_type ?_ (by size_fits))
 refine wpAny_bind (m := firstArgMember _ _) (wpAny_of_eq (a := Value.none) (by first | rfl | (simp only [firstArgMember]; rfl)) ?_); refine wpAny_newObj_type ?_ (by size_fits)
 simp only [raiseNew]; refine wpAny_bind (wpAny_handled ?_); first | rw [show A.in1.handled = none from hh] | rw [hh]
 refine wpAny_bind (wpAny_pure (wpAny_throw ?_)); exact hE _ _ (((Heap.SameBut.update ..).extBut.push _).push _) ⟨_, Heap.get?_push_size _ rfl, rfl⟩
end
inductive ZS where
 | l (a : Addr) | t (a : Addr) | s (z : Str) (tk : Tok) (wd : Bool)
noncomputable def ZS.at' (S : ZS) (it : Addr) (i : Nat) (h : Heap) : Prop := match S with
 | .l a => h.IsListIter it a i
 | .t a => h.IsTupleIter it a i
 | .s z tk wd => h.IsStrIter it (if wd then "str_iterator" else "str_ascii_iterator") z tk i
noncomputable def ZS.has (K : W.Frag) (H : Hp) (S : ZS) (i : Nat) (v : V) : Prop := match S with
 | .l a => ∃ xs, SqL K H a xs /\ xs[i]? = some v
 | .t a => ∃ xs, SqT K H a xs /\ xs[i]? = some v
 | .s z _ _ => ∃ c, z.cps[i]? = some c /\ v = .str ⟨#[c]⟩
noncomputable def ZS.ends (K : W.Frag) (H : Hp) (S : ZS) (i : Nat) : Prop := match S with
 | .l a => ∃ xs, SqL K H a xs /\ xs.length <= i
 | .t a => ∃ xs, SqT K H a xs /\ xs.length <= i
 | .s z _ _ => z.cps.size <= i
noncomputable def ZS.us (S : ZS) (it : Addr) : List Addr := match S with
 | .l a => [it, a]
 | .t a => [it, a]
 | .s _ _ _ => [it]
theorem ZS.keepAt {S : ZS} {it : Addr} {i : Nat} {h h' : Heap} (x : S.at' it i h) (k : ∀ o, h.get? it = some o -> h'.get? it = some o) : S.at' it i h' := by
 cases S with
 | l a => exact Heap.IsListIter.at x k
 | t a => exact Heap.IsTupleIter.at x k
 | s z tk wd => obtain ⟨o, e, r⟩ := x; exact ⟨o, k o e, r⟩
section
variable {X : Cx} {pins : List (Addr × Obj)} {σ : St} {H : Hp} {s : Shared}
theorem next_of {S : ZS} {it : Addr} {i : Nat} {v : V} (I : Inv X pins σ H s) (hs : S.has X.K H i v) (ne : ∀ b ∈ S.us it, b = it \/ b ≠ it) (hne : ∀ a, (S = .l a \/ S = .t a) -> a ≠ it) :
  ∃ st : Heap -> Prop, (S.at' it i s.heap -> st s.heap) /\ NextAt X.prog X.w it (S.us it) (fun u => RelV v u) st (fun h => S.at' it (i + 1) h) := by
 cases S with
 | l a =>
  obtain ⟨xs, hq, hx⟩ := hs
  obtain ⟨its, rv, p, hz⟩ := I.list hq
  obtain ⟨u, hu, ru⟩ := rv.get hx
  refine ⟨fun h => h.IsListIter it a i /\ h.IsList a its.toArray, fun x => ⟨x, p.isList⟩, ⟨fun A E s Q st hQ => ?_, fun h h' st k => ⟨st.1.at fun o e => k it (by simp [ZS.us]) o e, st.2.at fun o e => k a (by simp [ZS.us]) o e⟩, fun h h' st k => Heap.IsListIter.at st fun o e => k it (by simp [ZS.us]) o e⟩⟩
  exact wpAny_nextOf_list_item st.1 st.2 (x := u) (by simpa using hu) fun h' a1 a2 => hQ u h' s.toks ru a1 a2
 | t a =>
  obtain ⟨xs, hq, hx⟩ := hs
  obtain ⟨its, rv, p, hz⟩ := I.tuple hq
  obtain ⟨u, hu, ru⟩ := rv.get hx
  refine ⟨fun h => h.IsTupleIter it a i /\ h.IsTuple a its.toArray, fun x => ⟨x, p⟩, ⟨fun A E s Q st hQ => ?_, fun h h' st k => ⟨st.1.at fun o e => k it (by simp [ZS.us]) o e, st.2.at fun o e => k a (by simp [ZS.us]) o e⟩, fun h h' st k => Heap.IsTupleIter.at st fun o e => k it (by simp [ZS.us]) o e⟩⟩
  exact tup_nextOf st.1 st.2 (x := u) (by simpa using hu) fun h' a1 a2 => hQ u h' s.toks ru a1 a2
 | s z tk wd =>
  obtain ⟨c, hc, rfl⟩ := hs
  refine ⟨fun h => ZS.at' (.s z tk wd) it i h, fun x => x, ⟨fun A E s Q st hQ => ?_, fun h h' st k => ZS.keepAt st fun o e => k it (by simp [ZS.us]) o e, fun h h' st k => ZS.keepAt (S := .s z tk wd) st fun o e => k it (by simp [ZS.us]) o e⟩⟩
  cases wd with
  | true => exact wpAny_nextOf_wide_item st hc fun h' a1 a2 => hQ _ h' _ ⟨_, rfl⟩ a1 a2
  | false => exact wpAny_nextOf_ascii_item st hc fun h' a1 a2 => hQ _ h' _ ⟨_, rfl⟩ a1 a2
theorem end_of {S : ZS} {it : Addr} {i : Nat} (I : Inv X pins σ H s) (hs : S.ends X.K H i) : ∃ st : Heap -> Prop, (S.at' it i s.heap -> st s.heap) /\ EndAt X.prog X.w it (S.us it) st := by
 cases S with
 | l a =>
  obtain ⟨xs, hq, hx⟩ := hs
  obtain ⟨its, rv, p, hz⟩ := I.list hq
  have hl := rv.length
  exact ⟨fun h => h.IsListIter it a i /\ h.IsList a its.toArray, fun x => ⟨x, p.isList⟩, ⟨fun A E s Q hh st hE => wpAny_nextOf_list_end hh st.1 st.2 (by simp; lia) hE, fun h h' st k => ⟨st.1.at fun o e => k it (by simp [ZS.us]) o e, st.2.at fun o e => k a (by simp [ZS.us]) o e⟩⟩⟩
 | t a =>
  obtain ⟨xs, hq, hx⟩ := hs
  obtain ⟨its, rv, p, hz⟩ := I.tuple hq
  have hl := rv.length
  exact ⟨fun h => h.IsTupleIter it a i /\ h.IsTuple a its.toArray, fun x => ⟨x, p⟩, ⟨fun A E s Q hh st hE => tup_nextEnd hh st.1 st.2 (by simp; lia) hE, fun h h' st k => ⟨st.1.at fun o e => k it (by simp [ZS.us]) o e, st.2.at fun o e => k a (by simp [ZS.us]) o e⟩⟩⟩
 | s z tk wd =>
  refine ⟨fun h => ZS.at' (.s z tk wd) it i h, fun x => x, ⟨fun A E s Q hh st hE => ?_, fun h h' st k => ZS.keepAt st fun o e => k it (by simp [ZS.us]) o e⟩⟩
  have hx : z.cps[i]? = none := Array.getElem?_eq_none hs
  cases wd with
  | true => exact wpAny_nextOf_wide_end hh st hx hE
  | false => exact wpAny_nextOf_ascii_end hh st hx hE
end
noncomputable def ZS.val : ZS -> Value
 | .l a => .ref a
 | .t a => .ref a
 | .s z tk _ => .str z tk
noncomputable def ZS.obj : ZS -> Obj
 | .l a => { cls := .type "list_iterator", data := .fields #[.ref a, .int 0 0] }
 | .t a => { cls := .type "tuple_iterator", data := .fields #[.ref a, .int 0 0] }
 | .s z tk wd => { cls := .type (if wd then "str_iterator" else "str_ascii_iterator"), data := .fields #[.str z tk, .int 0 0] }
noncomputable def ZS.src (S : ZS) (h : Heap) : Prop := match S with
 | .l a => ∃ its, h.IsList a its
 | .t a => ∃ its, h.IsTuple a its
 | .s z _ wd => wd = !(z.cps.all (· < 128))
theorem ZS.src_push {S : ZS} {h : Heap} (x : S.src h) (o : Obj) : S.src (h.push o) := by
 cases S with
 | l a => obtain ⟨its, e⟩ := x; exact ⟨its, Heap.IsList.push e _⟩
 | t a => obtain ⟨its, e⟩ := x; exact ⟨its, Heap.IsTuple.at e fun o e => Heap.get?_push_of_some _ e⟩
 | s z tk wd => exact x
theorem ZS.iter {S : ZS} {P : Program} {w : World} {A : Around} {E : Value -> Shared -> Prop} {s : Shared} {Q : Value -> Shared -> Prop} (x : S.src s.heap) (hQ : Q (.ref s.heap.objs.size) { s with heap := s.heap.push S.obj }) :
  wpAny (model P w) A (pyIter S.val) Q E s := by
 cases S with
 | l a => obtain ⟨its, e⟩ := x; exact wpAny_pyIter_list e hQ
 | t a => obtain ⟨its, e⟩ := x; exact wpAny_pyIter_tuple e hQ
 | s z tk wd =>
  cases ha : z.cps.all (· < 128) with
  | true =>
   have : wd = false := by rw [show wd = !(z.cps.all (· < 128)) from x, ha]; rfl
   subst this
   exact wpAny_pyIter_ascii ha hQ
  | false =>
   have : wd = true := by rw [show wd = !(z.cps.all (· < 128)) from x, ha]; rfl
   subst this
   exact wpAny_pyIter_wide ha hQ
noncomputable abbrev zH3 (h : Heap) (S1 S2 : ZS) : Heap := ((h.push S1.obj).push S2.obj).push { cls := .type "tuple", data := .seq #[.ref h.objs.size, .ref (h.push S1.obj).objs.size] }
noncomputable abbrev zH4 (h : Heap) (S1 S2 : ZS) : Heap := (zH3 h S1 S2).push { cls := .type "tuple", data := .seq #[.none, .none] }
noncomputable abbrev zH5 (h : Heap) (S1 S2 : ZS) : Heap := (zH4 h S1 S2).push { cls := .type "zip", data := .fields #[.none, .bool false, .bool false, .ref ((h.push S1.obj).push S2.obj).objs.size, .ref (zH3 h S1 S2).objs.size] }
theorem zip_new (S1 S2 : ZS) : Meets (Builtin.«zip.__new__» ⟨[.type "zip", S1.val, S2.val], []⟩) (fun _ R s => S1.src s.heap ∧ S2.src s.heap ∧ R (.ok (.ret (.ref (zH4 s.heap S1 S2).objs.size))) { s with heap := zH5 s.heap S1 S2 }) :=
  .of_wp fun prog w A R ⟨hp, g, d, tk, os⟩ ⟨hl1, hl2, h⟩ => by
    have below := sub_zip
    have hL1 : S1.src (Shared.heap ⟨hp, g, d, tk, os⟩) := hl1
    have hL2 : S2.src (Shared.heap ⟨hp.push S1.obj, g, d, tk, os⟩) := ZS.src_push hl2 _
    wp_walk using ZS.iter hL1, ZS.iter hL2
    exact ⟨_, rfl, h⟩
section
variable {X : Cx} {pins : List (Addr × Obj)} {σ : St} {H : Hp} {s : Shared}
theorem turnedL {t' : Nat} {h' : Heap} {ch : List Addr} (I : Inv X pins σ H s) (k : ∀ b o, b ∉ ch -> s.heap.get? b = some o -> h'.get? b = some o) (hf : ∀ b ∈ ch, FpOk X pins H b) : Inv X pins σ H { s with heap := h', toks := t' } := by
 have nit : ∀ b u, H b = some u -> b ∉ ch := fun b u e z => by rw [(hf b z).1] at e; cases e
 refine I.step (g' := s.gens) (d' := s.drawn) (ch := ch) (fun b hb => ⟨(hf b hb).2.2.2.1, (hf b hb).2.1, (hf b hb).2.2.2.2.1, (hf b hb).2.2.2.2.2⟩) (fun b o _ _ hc e _ => k b o hc e) (fun b o _ _ hc e _ => ⟨o.slots, k b o hc e⟩) (fun _ _ _ _ n => n)
  (fun b o hc e => ⟨o, k b o hc e⟩) (fun _ _ e => e) (fun _ _ _ e => e) (fun b ps e => ⟨#[], by rw [e]; simp⟩) (fun m hm => ?_) (fun b u e => ?_) I.bare
 ·obtain ⟨o, es, ep, ho, r⟩ := hm
  exact ⟨o, es, ep, k _ o (fun z => (hf _ z).2.1 rfl) ho, r⟩
 ·refine (I.hok b u e).stay (fun c v hc q => k c v ?_ q) (fun _ q => q) fun _ _ q => q
  rcases hc with z | z
  ·rw [z]; exact nit b u e
  ·exact nit c _ z
theorem ZbG {a b : Addr} {xs : List V} (I : Inv X pins σ H s) (h : SqL X.K H a xs) (f : FpOk X pins H b) : a ≠ b := by
 rintro rfl
 rcases h with (h | ⟨o, h⟩) | ⟨o, its, n, hk, _⟩
 ·rw [f.1] at h; cases h
 ·rw [f.1] at h; cases h
 ·have hb := I.ok.mod.kin _ _ hk
  rcases f.2.2.2.1 with z | z
  ·exact I.ok.noex _ _ hb z
  ·exact absurd (Nat.lt_of_lt_of_le (Heap.lt_size hb) (Nat.le_trans I.ok.bsz z)) (Nat.lt_irrefl _)
theorem ZbF {a b : Addr} {xs : List V} (I : Inv X pins σ H s) (h : SqT X.K H a xs) (f : FpOk X pins H b) : a ≠ b := by
 rintro rfl
 rcases h with (h | ⟨o, h⟩) | ⟨o, its, n, hk, _⟩
 ·rw [f.1] at h; cases h
 ·rw [f.1] at h; cases h
 ·have hb := I.ok.mod.kin _ _ hk
  rcases f.2.2.2.1 with z | z
  ·exact I.ok.noex _ _ hb z
  ·exact absurd (Nat.lt_of_lt_of_le (Heap.lt_size hb) (Nat.le_trans I.ok.bsz z)) (Nat.lt_irrefl _)
noncomputable def ZS.rd (S : ZS) (K : W.Frag) (H : Hp) : Prop := match S with
 | .l a => ∃ xs, SqL K H a xs
 | .t a => ∃ xs, SqT K H a xs
 | .s _ _ _ => True
theorem ZbD {S : ZS} {it b : Addr} (I : Inv X pins σ H s) (r : S.rd X.K H) (f : FpOk X pins H b) (hb : it ≠ b) : b ∉ S.us it := by
 cases S with
 | l a =>
  obtain ⟨xs, h⟩ := r
  intro z
  rcases List.mem_cons.mp z with z | z
  ·exact hb z.symm
  ·exact ZbG I h f (List.mem_singleton.mp z).symm
 | t a =>
  obtain ⟨xs, h⟩ := r
  intro z
  rcases List.mem_cons.mp z with z | z
  ·exact hb z.symm
  ·exact ZbF I h f (List.mem_singleton.mp z).symm
 | s z tk wd =>
  intro q
  exact hb (List.mem_singleton.mp q).symm
theorem has_inj {S : ZS} {i : Nat} {u v : V} (I : Inv X pins σ H s) (h : S.has X.K H i u) (h' : S.has X.K H i v) : u = v := by
 cases S with
 | l a =>
  obtain ⟨xs, h1, h2⟩ := h
  obtain ⟨ys, h3, h4⟩ := h'
  rw [I.list_inj h1 h3, h4] at h2
  exact (Option.some.inj h2).symm
 | t a =>
  obtain ⟨xs, h1, h2⟩ := h
  obtain ⟨ys, h3, h4⟩ := h'
  rw [I.tuple_inj h1 h3, h4] at h2
  exact (Option.some.inj h2).symm
 | s z tk wd =>
  obtain ⟨c, h1, rfl⟩ := h
  obtain ⟨d, h2, rfl⟩ := h'
  rw [h1] at h2
  cases h2; rfl
theorem ZS.has_rd {S : ZS} {K : W.Frag} {i : Nat} {v : V} (h : S.has K H i v) : S.rd K H := by
 cases S with
 | l a => obtain ⟨xs, h, _⟩ := h; exact ⟨xs, h⟩
 | t a => obtain ⟨xs, h, _⟩ := h; exact ⟨xs, h⟩
 | s z tk wd => trivial
end
structure ZNe (z TI TO i1 i2 : Addr) : Prop where
 a1 : TI ≠ z
 a2 : TO ≠ z
 a3 : i1 ≠ z
 a4 : i2 ≠ z
 a5 : TI ≠ TO
 a6 : TI ≠ i1
 a7 : TI ≠ i2
 a8 : TO ≠ i1
 a9 : TO ≠ i2
 a10 : i1 ≠ i2
theorem zne (n : Nat) : ZNe (n + 4) (n + 2) (n + 3) n (n + 1) := by
 have h : ∀ a b : Nat, a ≠ b -> n + a ≠ n + b := fun a b h e => h (Nat.add_left_cancel e)
 exact ⟨h 2 4 (by decide), h 3 4 (by decide), h 0 4 (by decide), h 1 4 (by decide), h 2 3 (by decide), h 2 0 (by decide), h 2 1 (by decide), h 3 0 (by decide), h 3 1 (by decide), h 0 1 (by decide)⟩
noncomputable def Jz (K : W.Frag) (S1 S2 : ZS) : It := ⟨fun i H => (∃ v, S1.has K H i v) /\ ∃ v, S2.has K H i v, fun i H x H' => ∃ a u v, H a = none /\ x = .ref a /\ H' = upd H a (.tup [u, v]) /\ (∀ u', S1.has K H i u' -> u' = u) /\ ∀ v', S2.has K H i v' -> v' = v,
 fun i H => S1.rd K H /\ S2.rd K H /\ (S1.ends K H i \/ ((∃ v, S1.has K H i v) /\ S2.ends K H i))⟩
theorem turn_zip {P : Program} {w : World} {K : W.Frag} {elts : List Expr} {x1 : Nat} {pos : Pos} {S1 S2 : ZS} {z TI TO i1 i2 : Addr} (N : ZNe z TI TO i1 i2) : Turn P w K (.Tuple elts x1 pos) (Jz K S1 S2) [z, TI, TO, i1, i2] z
  (fun i h => IsZip h z TI TO .none /\ IsPair h TI (.ref i1) (.ref i2) /\ (∃ a b, IsPair h TO a b) /\ S1.at' i1 i h /\ S2.at' i2 i h) where
 mem := by simp
 obj := fun i h st b hb => by
  obtain ⟨hz, hTI, ⟨a, c, hTO⟩, h1, h2⟩ := st
  have it : ∀ {S : ZS} {it : Addr}, S.at' it i h -> ∃ o, h.get? it = some o /\ ∀ v, o.data ≠ .cell v := fun {S it} x => by
   cases S with
   | l a => obtain ⟨o, e, _, d⟩ := x; exact ⟨o, e, fun v q => by rw [d] at q; cases q⟩
   | t a => obtain ⟨o, e, _, d⟩ := x; exact ⟨o, e, fun v q => by rw [d] at q; cases q⟩
   | s z tk wd => obtain ⟨o, e, _, d⟩ := x; exact ⟨o, e, fun v q => by rw [d] at q; cases q⟩
  simp only [List.mem_cons, List.not_mem_nil, or_false] at hb
  rcases hb with rfl | rfl | rfl | rfl | rfl
  ·exact ⟨_, hz, fun v q => by cases q⟩
  ·exact ⟨_, hTI, fun v q => by cases q⟩
  ·exact ⟨_, hTO, fun v q => by cases q⟩
  ·exact it h1
  ·exact it h2
 keep := fun i h h' st k => by
  obtain ⟨hz, hTI, ⟨a, c, hTO⟩, h1, h2⟩ := st
  exact ⟨k z (by simp) _ hz, k TI (by simp) _ hTI, ⟨a, c, k TO (by simp) _ hTO⟩, ZS.keepAt h1 fun o e => k i1 (by simp) o e, ZS.keepAt h2 fun o e => k i2 (by simp) o e⟩
 item := by
  intro X hP hw hK hc i pins s σ H E I hf st hg
  subst hP hw hK
  obtain ⟨hz, hTI, ⟨a, c, hTO⟩, h1, h2⟩ := st
  obtain ⟨⟨v1, g1⟩, ⟨v2, g2⟩⟩ := hg
  have f := fun b hb => hf b hb
  obtain ⟨st1, e1, N1⟩ := next_of (it := i1) I g1 (fun b _ => Classical.em _) (fun a ha => by rcases ha with rfl | rfl; exact ZbG I g1.choose_spec.1 (f i1 (by simp)); exact ZbF I g1.choose_spec.1 (f i1 (by simp)))
  obtain ⟨st2, e2, N2⟩ := next_of (it := i2) I g2 (fun b _ => Classical.em _) (fun a ha => by rcases ha with rfl | rfl; exact ZbG I g2.choose_spec.1 (f i2 (by simp)); exact ZbF I g2.choose_spec.1 (f i2 (by simp)))
  have D : ZApart z TI TO i1 i2 (S1.us i1) (S2.us i2) := ⟨N.a1, N.a2, N.a3, N.a4, N.a5, N.a6, N.a7, N.a8, N.a9, ZbD I (ZS.has_rd g1) (f z (by simp)) N.a3, ZbD I (ZS.has_rd g1) (f TO (by simp)) N.a8.symm, ZbD I (ZS.has_rd g1) (f i2 (by simp)) N.a10,
   ZbD I (ZS.has_rd g2) (f z (by simp)) N.a4, ZbD I (ZS.has_rd g2) (f TO (by simp)) N.a9.symm, ZbD I (ZS.has_rd g2) (f i1 (by simp)) N.a10.symm⟩
  refine zip_next D N1 N2 hz hTI hTO (e1 h1) (e2 h2) fun x y h' tk rx ry a1 a2 a3 a4 a5 a6 a7 => ⟨_, rfl, ?_⟩
  refine wpAny_letOwnedTupleGo_zip (s := { s with heap := h', toks := tk }) a1 fun h3 hz3 sb => ?_
  have hlt : ∀ {b o}, s.heap.get? b = some o -> b ≠ s.heap.objs.size := fun e => Nat.ne_of_lt (Heap.lt_size e)
  have J1 : Inv X pins σ H { s with heap := h3, toks := tk } := turnedL (ch := [z, TI, TO, i1, i2]) I (fun b o hb e => by
   simp only [List.mem_cons, List.not_mem_nil, or_false, not_or] at hb
   exact sb.extBut _ _ hb.1 (a7 b o hb.1 hb.2.2.1 hb.2.2.2.1 hb.2.2.2.2 e)) hf
  have hn : H s.heap.objs.size = none := I.hok.fresh (Nat.le_refl _)
  have ltz := hlt hz
  have hT : IsPair h3 s.heap.objs.size x y := sb.extBut _ _ ltz.symm a5
  have J2 := track (ob := .tup [v1, v2]) J1 hn I.sz (Nat.ne_of_gt I.lt) (fun x c e => by obtain ⟨v, q⟩ := I.cell x c e; exact Nat.ne_of_lt q.lt) (fun p hp => hlt (I.pin p hp).1)
   ⟨by show 2 <= sizeLine; rw [sizeLine_eq]; decide, [x, y], .cons rx (.cons ry .nil), ⟨_, hT, rfl, _, rfl⟩⟩
  refine ⟨.ref s.heap.objs.size, _, J2, rfl, ⟨_, v1, v2, hn, rfl, rfl, fun u' q => has_inj I q g1, fun u' q => has_inj I q g2⟩, ⟨hz3, sb.extBut _ _ N.a1 (a7 TI _ N.a1 N.a5 N.a6 N.a7 hTI), ⟨_, _, sb.extBut _ _ N.a2 a2⟩, ZS.keepAt a3 fun o e => sb.extBut _ _ N.a3 e, ZS.keepAt a4 fun o e => sb.extBut _ _ N.a4 e⟩, fun b hb => ?_⟩
  have hb' : b ≠ s.heap.objs.size := by
   simp only [List.mem_cons, List.not_mem_nil, or_false] at hb
   have it : ∀ {S : ZS} {it : Addr}, S.at' it i s.heap -> it ≠ s.heap.objs.size := fun {S it} x => by
    cases S with
    | l a => obtain ⟨o, e, _⟩ := x; exact hlt e
    | t a => obtain ⟨o, e, _⟩ := x; exact hlt e
    | s z tk wd => obtain ⟨o, e, _⟩ := x; exact hlt e
   rcases hb with rfl | rfl | rfl | rfl | rfl
   ·exact hlt hz
   ·exact hlt hTI
   ·exact hlt hTO
   ·exact it h1
   ·exact it h2
  rw [Zam hb']; exact (hf b hb).1
 done := by
  intro X hP hw hK hc i pins s σ H E I hf st hg
  subst hP hw hK
  obtain ⟨hz, hTI, ⟨a, c, hTO⟩, h1, h2⟩ := st
  obtain ⟨r1, r2, hg⟩ := hg
  have f := fun b hb => hf b hb
  have D : ZApart z TI TO i1 i2 (S1.us i1) (S2.us i2) := ⟨N.a1, N.a2, N.a3, N.a4, N.a5, N.a6, N.a7, N.a8, N.a9, ZbD I r1 (f z (by simp)) N.a3, ZbD I r1 (f TO (by simp)) N.a8.symm, ZbD I r1 (f i2 (by simp)) N.a10,
   ZbD I r2 (f z (by simp)) N.a4, ZbD I r2 (f TO (by simp)) N.a9.symm, ZbD I r2 (f i1 (by simp)) N.a10.symm⟩
  have fin : ∀ h' tk, (∀ c o, c ≠ z -> c ≠ TO -> c ≠ i1 -> c ≠ i2 -> s.heap.get? c = some o -> h'.get? c = some o) -> (none : Option Value) = none /\ Inv X pins σ H { s with heap := h', toks := tk } := fun h' tk k => ⟨rfl, turnedL (ch := [z, TI, TO, i1, i2]) I (fun b o hb e => by
   simp only [List.mem_cons, List.not_mem_nil, or_false, not_or] at hb
   exact k b o hb.1 hb.2.2.1 hb.2.2.2.1 hb.2.2.2.2 e) hf⟩
  rcases hg with g1 | ⟨⟨v1, g1⟩, g2⟩
  ·obtain ⟨st1, e1, N1⟩ := end_of (it := i1) I g1
   exact zip_done (st2 := fun _ => True) (I.ok.hd hc) D (.inl N1) hz hTI hTO (e1 h1) trivial fin
  ·obtain ⟨st1, e1, N1⟩ := next_of (it := i1) I g1 (fun b _ => Classical.em _) (fun a ha => by rcases ha with rfl | rfl; exact ZbG I g1.choose_spec.1 (f i1 (by simp)); exact ZbF I g1.choose_spec.1 (f i1 (by simp)))
   obtain ⟨st2, e2, N2⟩ := end_of (it := i2) I g2
   exact zip_done (I.ok.hd hc) D (.inr ⟨_, _, N1, N2⟩) hz hTI hTO (e1 h1) (e2 h2) fin
 self := fun _ _ _ _ _ st h => wpAny_pyIter_zip st.1 h
structure ZSrc (K : W.Frag) (ι : List Addr) (H : Hp) (S : ZS) (ps : List PV) : Prop where
 rd : ∀ ι2 H2, Ex ι ι2 H H2 -> S.rd K H2
 has : ∀ ι2 H2, Ex ι ι2 H H2 -> ∀ i p, ps[i]? = some p -> ∃ v, S.has K H2 i v /\ Rep K (ι ++ ι2) H2 p v
 ends : ∀ ι2 H2, Ex ι ι2 H H2 -> ∀ i, ps.length <= i -> S.ends K H2 i
section
variable {X : Cx} {pins : List (Addr × Obj)} {σ : St} {H : Hp} {s : Shared}
theorem src_of {ι : List Addr} {C : Cs} {x : SV} {ps : List PV} {v : V} {u : Value} (I : Inv X pins σ H s) (cr : CR X.K ι H C) (r : RepS X.K ι H x v) (e : itemsP x = some ps) (ru : RelV v u) : ∃ S : ZS, u = S.val /\ S.src s.heap /\ ZSrc X.K ι H S ps := by
 unfold itemsP at e
 split at e
 ·cases e
  replace r : Rep X.K ι H (.lst _) v := r
  unfold Rep at r
  obtain ⟨a, vs, rfl, hq, rv⟩ := r
  obtain ⟨its, _, p, _⟩ := I.list hq.sq
  have keep : ∀ ι2 H2, Ex ι ι2 H H2 -> SqL X.K H2 a vs := fun ι2 H2 x => by
   rcases hq with ⟨n, q | ⟨o, q⟩⟩ | q
   ·exact .inl (.inl (x.out _ _ n q).2)
   ·exact .inl (.inr ⟨o, (x.out _ _ n q).2⟩)
   ·exact .inr q
  refine ⟨.l a, ru, ⟨_, p.isList⟩, fun ι2 H2 x => ⟨vs, keep ι2 H2 x⟩, fun ι2 H2 x i p hp => ?_, fun ι2 H2 x i hi => ⟨vs, keep ι2 H2 x, by rw [← rv.length]; exact hi⟩⟩
  obtain ⟨w, e1, r1⟩ := rv.get hp
  exact ⟨w, ⟨vs, keep ι2 H2 x, e1⟩, Rep.tr cr x.out p w r1⟩
 ·cases e
  replace r : Rep X.K ι H (.tup _) v := r
  unfold Rep at r
  obtain ⟨a, vs, rfl, hq, rv⟩ := r
  obtain ⟨its, _, p, _⟩ := I.tuple hq.sq
  have keep : ∀ ι2 H2, Ex ι ι2 H H2 -> SqT X.K H2 a vs := fun ι2 H2 x => by
   rcases hq.sq (K := X.K) with (q | ⟨o, q⟩) | q
   ·exact .inl (.inl (x.out _ _ (cr.notup q (fun _ e => nomatch e) fun _ e => nomatch e) q).2)
   ·exact .inl (.inr ⟨o, (x.out _ _ (cr.notup q (fun _ e => nomatch e) fun _ e => nomatch e) q).2⟩)
   ·exact .inr q
  refine ⟨.t a, ru, ⟨_, p⟩, fun ι2 H2 x => ⟨vs, keep ι2 H2 x⟩, fun ι2 H2 x i p hp => ?_, fun ι2 H2 x i hi => ⟨vs, keep ι2 H2 x, by rw [← rv.length]; exact hi⟩⟩
  obtain ⟨w, e1, r1⟩ := rv.get hp
  exact ⟨w, ⟨vs, keep ι2 H2 x, e1⟩, Rep.tr cr x.out p w r1⟩
 ·cases e
  rename Str => z
  replace r : Rep X.K ι H (.str z) v := r
  unfold Rep at r
  obtain ⟨rfl, hz⟩ := r
  obtain ⟨t, rfl⟩ := ru
  refine ⟨.s z t (!(z.cps.all (· < 128))), rfl, rfl, fun _ _ _ => trivial, fun ι2 H2 x i p hp => ?_, fun ι2 H2 x i hi => by show z.cps.size <= i; simpa using hi⟩
  rw [List.getElem?_map] at hp
  cases hc : z.cps.toList[i]? with
  | none => rw [hc] at hp; cases hp
  | some d =>
   rw [hc] at hp; cases hp
   exact ⟨.str ⟨#[d]⟩, ⟨d, by simpa using hc, rfl⟩, repS (by show 1 <= sizeLine; rw [sizeLine_eq]; decide)⟩
 ·cases e
theorem iter_zip {K : W.Frag} {ι : List Addr} {S1 S2 : ZS} {ps qs : List PV} (Z1 : ZSrc K ι H S1 ps) (Z2 : ZSrc K ι H S2 qs) : Iter K ι H (List.zipWith (fun a b => .tup [a, b]) ps qs) (Jz K S1 S2) := by
 have hl : (List.zipWith (fun a b => PV.tup [a, b]) ps qs).length = min ps.length qs.length := by simp
 refine ⟨fun ι2 H2 C2 x c i hi => ?_, fun ι2 H2 C2 x c i v H3 hi y => ?_, fun ι2 H2 C2 x c => ?_⟩
 ·rw [hl] at hi
  have h1 : i < ps.length := by lia
  have h2 : i < qs.length := by lia
  obtain ⟨v, g1, _⟩ := Z1.has ι2 H2 x i _ (List.getElem?_eq_getElem h1)
  obtain ⟨u, g2, _⟩ := Z2.has ι2 H2 x i _ (List.getElem?_eq_getElem h2)
  exact ⟨⟨v, g1⟩, ⟨u, g2⟩⟩
 ·rw [hl] at hi
  have h1 : i < ps.length := by lia
  have h2 : i < qs.length := by lia
  obtain ⟨v1, g1, r1⟩ := Z1.has ι2 H2 x i _ (List.getElem?_eq_getElem h1)
  obtain ⟨v2, g2, r2⟩ := Z2.has ι2 H2 x i _ (List.getElem?_eq_getElem h2)
  obtain ⟨a, u, w, hn, rfl, rfl, e1, e2⟩ := y
  rw [← e1 v1 g1, ← e2 v2 g2]
  refine ⟨fun b o e => by rw [Zam (Zak e hn)]; exact e, .tup [ps[i], qs[i]], ?_, ZbU hn (.cons r1 (.cons r2 .nil))⟩
  rw [List.getElem?_zipWith, List.getElem?_eq_getElem h1, List.getElem?_eq_getElem h2]
 ·refine ⟨Z1.rd ι2 H2 x, Z2.rd ι2 H2 x, ?_⟩
  rw [hl]
  rcases Nat.le_total ps.length qs.length with h | h
  ·exact .inl (Z1.ends ι2 H2 x _ (by lia))
  ·by_cases he : ps.length <= qs.length
   ·exact .inl (Z1.ends ι2 H2 x _ (by lia))
   ·right
    have h1 : min ps.length qs.length < ps.length := by lia
    obtain ⟨v, g1, _⟩ := Z1.has ι2 H2 x _ _ (List.getElem?_eq_getElem h1)
    exact ⟨⟨v, g1⟩, Z2.ends ι2 H2 x _ (by lia)⟩
end
noncomputable def zipP : List SV -> Option (List PV)
 | [x, y] => match itemsP x, itemsP y with
  | some ps, some qs => some (List.zipWith (fun a b => .tup [a, b]) ps qs)
  | _, _ => none
 | _ => none
theorem zipP_some {xs : List SV} {ys : List PV} (h : zipP xs = some ys) : ∃ x y ps qs, xs = [x, y] /\ itemsP x = some ps /\ itemsP y = some qs /\ ys = List.zipWith (fun a b => .tup [a, b]) ps qs := by
 unfold zipP at h
 split at h
 ·split at h
  ·cases h; exact ⟨_, _, _, _, rfl, by assumption, by assumption, rfl⟩
  ·cases h
 ·cases h
noncomputable def mZip (fs : PSt -> M (List SV)) : PSt -> M (List PV) := fun ρ => bnd (fs ρ) fun xs => opM fun _ => zipP xs
end Pu
namespace Se
open PySem PySem.SetTable PySem.W
open PyProof.Rows hiding St Fr
section
variable {prog : Program} {w : World} {A : Around} {E : Value -> Shared -> Prop} {s : Shared} {I a T : Addr} {es : Array (Int × Value)} {ep i : Nat} {t : SetTable}
noncomputable abbrev PA (arr : Array (Int × Value)) : Nat -> Value -> Prop := fun i v => ∃ e, arr[i]? = some e /\ v = e.2
end
end Se
namespace Pu
open PySem PySem.Spec PySem.W PySem.Calls L2
open PyProof.Rows hiding St Fr
noncomputable def mulSP (x y : PV) : Option PV := match x, y with
 | .str z, .int n => if z.length = 1 /\ n < 1000 /\ -1000 < n then some (.str (Txt.mul z n)) else none
 | _, _ => none
theorem ZbY (c : Array Nat) : ∀ (k : Nat) (acc : Array Nat), ((List.replicate k c).foldl (· ++ ·) acc).toList = acc.toList ++ (List.replicate k c.toList).flatten
 | 0, acc => by simp
 | k + 1, acc => by
  rw [List.replicate_succ, List.foldl_cons, ZbY c k, List.replicate_succ, List.flatten_cons, Array.toList_append, List.append_assoc]
theorem mulS_list {z : Str} {c : Nat} (hz : z.cps.toList = [c]) (n : Int) : (Txt.mul z n).cps.toList = List.replicate n.toNat c := by
 unfold Txt.mul
 by_cases h : n < 1
 ·rw [if_pos h, show n.toNat = 0 by lia]; rfl
 ·rw [if_neg h]
  have hl : z.length = 1 := by show z.cps.size = 1; rw [← Array.length_toList, hz]; rfl
  by_cases h1 : n = 1
  ·subst h1; simp [hz]
  ·rw [if_neg (by simp [h1, hl])]
   show ((List.replicate n.toNat z.cps).foldl (· ++ ·) #[]).toList = _
   rw [ZbY, hz]
   simp [List.flatten_replicate_singleton]
theorem mulS_len {z : Str} (hz : z.length = 1) (n : Int) : (Txt.mul z n).length = n.toNat := by
 have : z.cps.toList.length = 1 := by rw [Array.length_toList]; exact hz
 obtain ⟨c, e⟩ : ∃ c, z.cps.toList = [c] := by
  match z.cps.toList, this with
  | [c], _ => exact ⟨c, rfl⟩
 show (Txt.mul z n).cps.size = _
 rw [← Array.length_toList, mulS_list e]; simp
section
variable {X : Cx} {a b e : Expr} {fa fb : PSt -> M SV} {pos p : Pos} {es : List Expr} {fs : PSt -> M (List SV)}
noncomputable def rMulS : R2 := fun x y H Q => ∃ z n, x = .str z /\ y = .int n /\ z.length = 1 /\ n < 1000 /\ -1000 < n /\ Q (.str (Txt.mul z n)) H
theorem op_mulS : OpR X (binaryOp .Mult) rMulS := by
 intro pins s σ H x y v u Q I rx ry h
 obtain ⟨z, n, rfl, rfl, hz, h1, h2, q⟩ := h
 obtain ⟨t, rfl⟩ := (show ∃ t, v = .str z t from rx)
 obtain ⟨t', rfl⟩ := (show ∃ t, u = .int n t from ry)
 refine SB.mul ⟨?_, fun g _ => ?_, fun g _ => ?_⟩ fun t2 k => ⟨.str (Txt.mul z n), H, I.tok _, ⟨_, rfl⟩, q⟩
 ·simp; lia
 ·rw [hz]
  have : (1 : Int) <= (2 ^ 63 - 1) / n := by
   rw [Int.le_ediv_iff_mul_le (by lia)]; lia
  lia
 ·have : z.length * n.toNat <= sizeLine := by rw [hz, sizeLine_eq]; lia
  exact decide_eq_false (Nat.not_lt.mpr this)
theorem mulS_ok : L2ok X.K rMulS mulSP := by
 intro ι H C p q vx vy z Q cr lx ly e k
 unfold mulSP at e
 split at e
 ·split at e
  ·rename_i s n hc
   cases e
   obtain ⟨rfl, hs⟩ := liesS lx
   cases ly
   refine ⟨_, _, rfl, rfl, hc.1, hc.2.1, hc.2.2, k _ H .refl cr ?_⟩
   unfold Rep
   exact ⟨rfl, by rw [mulS_len hc.1, sizeLine_eq]; lia⟩
  ·cases e
 ·cases e
end
end Pu
namespace Pu
open PySem PySem.Spec L2
open PyProof.Rows hiding St Fr
noncomputable def Je (K : W.Frag) (a : Addr) : It := ⟨fun i H => ∃ xs v, SqL K H a xs /\ xs[i]? = some v, fun i H x H' => ∃ b v, H b = none /\ x = .ref b /\ H' = upd H b (.tup [.int i, v]) /\ ∀ xs, SqL K H a xs -> xs[i]? = some v,
 fun i H => ∃ xs, SqL K H a xs /\ xs.length <= i⟩
theorem turn_enum {P : Program} {w : World} {K : W.Frag} {elts : List Expr} {x1 : Nat} {pos : Pos} {a e it : Addr} (hne : e ≠ it) : Turn P w K (.Tuple elts x1 pos) (Je K a) [e, it] e
  (fun i h => (∃ old, IsEnum h e it i old) /\ h.IsListIter it a i) where
 mem := by simp
 obj := fun i h st b hb => by
  obtain ⟨⟨old, he⟩, o, hi, hc, hd⟩ := st
  simp only [List.mem_cons, List.not_mem_nil, or_false] at hb
  rcases hb with rfl | rfl
  ·exact ⟨_, he, fun v q => by cases q⟩
  ·exact ⟨o, hi, fun v q => by rw [hd] at q; cases q⟩
 keep := fun i h h' st k => by
  obtain ⟨⟨old, he⟩, hi⟩ := st
  exact ⟨⟨old, k e (by simp) _ he⟩, hi.at fun o z => k it (by simp) o z⟩
 item := by
  intro X hP hw hK hc i pins s σ H E I hf st hg
  subst hP hw hK
  obtain ⟨⟨old, he⟩, hi⟩ := st
  obtain ⟨xs, v, hq, hx⟩ := hg
  obtain ⟨its, rv, p, hz⟩ := I.list hq
  obtain ⟨u, hu, ru⟩ := rv.get hx
  refine wpAny_pyNext_enum_item he hi p.isList (x := u) (by simpa using hu) hne fun h' ho hi' hT hsz hk => ⟨_, rfl, ?_⟩
  refine wpAny_letOwnedTupleGo_enum (s := { s with heap := h', toks := s.toks + 1 }) ho fun h3 he3 sb => ?_
  have J1 : Inv X pins σ H { s with heap := h3, toks := s.toks + 1 } := turnedL (ch := [e, it]) I (fun b o hb z => by
   simp only [List.mem_cons, List.not_mem_nil, or_false, not_or] at hb
   exact sb.extBut _ _ hb.1 (hk b o hb.1 hb.2 z)) hf
  have hlt : ∀ {b o}, s.heap.get? b = some o -> b ≠ s.heap.objs.size := fun e => Nat.ne_of_lt (Heap.lt_size e)
  have hn : H s.heap.objs.size = none := I.hok.fresh (Nat.le_refl _)
  have hT3 := sb.extBut _ _ (hlt he).symm hT
  have J2 := track (ob := .tup [.int i, v]) J1 hn I.sz (Nat.ne_of_gt I.lt) (fun x c e => by obtain ⟨v, q⟩ := I.cell x c e; exact Nat.ne_of_lt q.lt) (fun p hp => hlt (I.pin p hp).1)
   ⟨by show 2 <= sizeLine; rw [sizeLine_eq]; decide, [.int i s.toks, u], .cons ⟨_, rfl⟩ (.cons ru .nil), ⟨_, hT3, rfl, _, rfl⟩⟩
  refine ⟨.ref s.heap.objs.size, _, J2, rfl, ⟨_, v, hn, rfl, rfl, fun ys hy => by rw [I.list_inj hy hq]; exact hx⟩, ⟨⟨_, he3⟩, hi'.at fun o z => sb.extBut _ _ hne.symm z⟩, fun b hb => ?_⟩
  have hb' : b ≠ s.heap.objs.size := by
   simp only [List.mem_cons, List.not_mem_nil, or_false] at hb
   rcases hb with rfl | rfl
   ·exact hlt he
   ·obtain ⟨o, z, _⟩ := hi; exact hlt z
  rw [Zam hb']; exact (hf b hb).1
 done := by
  intro X hP hw hK hc i pins s σ H E I hf st hg
  subst hP hw hK
  obtain ⟨⟨old, he⟩, hi⟩ := st
  obtain ⟨xs, hq, hx⟩ := hg
  obtain ⟨its, rv, p, hz⟩ := I.list hq
  have hl := rv.length
  refine wpAny_pyNext_enum_end (I.ok.hd hc) he hi p.isList (by simp; lia) fun h' eb => ⟨rfl, turnedL (t' := s.toks) (ch := [e, it]) I (fun b o hb z => ?_) hf⟩
  simp only [List.mem_cons, List.not_mem_nil, or_false, not_or] at hb
  exact eb b o hb.2 z
 self := fun _ _ _ _ _ st h => by obtain ⟨⟨old, he⟩, _⟩ := st; exact wpAny_pyIter_enum he h
section
variable {X : Cx} {l : Expr} {elts : List Expr} {x1 : Nat} {tpos p pos : Pos}
noncomputable def iEnum (K : W.Frag) (tl : TA) : TI := fun σ H R => tl σ H fun xs H1 => ∃ a, xs = [.ref a] /\ (∃ vs, SqL K H1 a vs) /\ R (Je K a) H1
theorem pi_enum {tl : TA} (hg : Gl X "enumerate") (hm : X.mg "enumerate" = none) (ha : PA X [l] tl) (hs : starEach [l] X.env = [(false, eval l X.env)] := by rfl) : PI X (.Tuple elts x1 tpos) (.Call (.Name "enumerate" p) [l] [] pos) (iEnum X.K tl) := by
 intro pins s σ H R I h
 refine Call_ (Zci I hg hm (by rfl) (PyProof.Rows.callWith_type1 (thn (ha pos pins s σ H _ I h) fun us s1 ⟨vs, H1, I1, r1, q1⟩ => ?_) hs rfl))
 obtain ⟨a, rfl, ⟨ws, hq⟩, q⟩ := q1
 obtain ⟨u, rfl, ru⟩ := vals1 r1
 cases ru
 obtain ⟨its, rv, pl, hz⟩ := I1.list hq
 refine call_enumerate_list pl.isList fun h' he hi hsz k => ?_
 have J : Inv X pins σ H1 { s1 with heap := h' } := I1.kept (t' := s1.toks) k
 refine wpAny_pyIter_enum (s := { s1 with heap := h' }) he ⟨s1.heap.objs.size + 1, [s1.heap.objs.size + 1, s1.heap.objs.size], _, _, H1, rfl, J, turn_enum (Nat.succ_ne_self _), ⟨⟨_, he⟩, hi⟩, fun b hb => ?_, q⟩
 have hb' : s1.heap.objs.size <= b := by
  simp only [List.mem_cons, List.not_mem_nil, or_false] at hb
  rcases hb with rfl | rfl <;> lia
 exact I1.fpOk hb' (I1.hok.fresh hb')
noncomputable def enumL (xs : List PV) : List PV := (List.range xs.length).map fun i => .tup [.int (i : Nat), xs.getD i .non]
noncomputable def enumP : List SV -> Option (List PV)
 | [.v (.lst xs)] => some (enumL xs)
 | _ => none
noncomputable def mEnum (fs : PSt -> M (List SV)) : PSt -> M (List PV) := fun ρ => bnd (fs ρ) fun xs => opM fun _ => enumP xs
theorem Zb1 (xs : List PV) : (enumL xs).length = xs.length := by unfold enumL; simp
theorem iter_enum {K : W.Frag} {ι : List Addr} {H : Hp} {C : Cs} {a : Addr} {xs : List PV} {vs : List V} (cr : CR K ι H C) (h : LsR K ι H a vs) (r : Reps K ι H xs vs) : Iter K ι H (enumL xs) (Je K a) := by
 have keep : ∀ ι2 H2, Ex ι ι2 H H2 -> SqL K H2 a vs := fun ι2 H2 x => by
  rcases h with ⟨n, q | ⟨o, q⟩⟩ | q
  ·exact .inl (.inl (x.out _ _ n q).2)
  ·exact .inl (.inr ⟨o, (x.out _ _ n q).2⟩)
  ·exact .inr q
 refine ⟨fun ι2 H2 C2 x c i hi => ?_, fun ι2 H2 C2 x c i v H3 hi y => ?_, fun ι2 H2 C2 x c => ⟨vs, keep ι2 H2 x, by rw [Zb1, r.length]; exact Nat.le_refl _⟩⟩
 ·rw [Zb1] at hi
  obtain ⟨v, e, _⟩ := r.get (List.getElem?_eq_getElem hi)
  exact ⟨vs, v, keep ι2 H2 x, e⟩
 ·rw [Zb1] at hi
  obtain ⟨b, w, hn, rfl, rfl, y⟩ := y
  obtain ⟨p, hp, rp⟩ := r.get' (y vs (keep ι2 _ x))
  refine ⟨fun c o e => by rw [Zam (Zak e hn)]; exact e, .tup [.int (i : Nat), p], ?_, ZbU hn (.cons repI (.cons (Rep.tr cr x.out p w rp) .nil))⟩
  unfold enumL
  simp [hi]
  rw [List.getElem?_eq_getElem hi] at hp
  exact Option.some.inj hp
end
end Pu
namespace Pu
open PySem PySem.Spec L2
open PyProof.Rows hiding St Fr
section
variable {X : Cx} {e o : Expr} {es : List Expr} {fo : PSt -> M SV} {fs : PSt -> M (List SV)} {apos cpos : Pos}
variable {a b : Expr} {fa fb : PSt -> M SV} {pos : Pos}
theorem fn_none {P : Program} {w : World} {K : W.Frag} {mg : Str -> Option Value} {base : Heap} {k : Nat} {f : Addr} {fd : FuncData} {ps : List Str} : FnOk P w K mg base CX0 k f fd ps (liftSp K fun _ _ => none) :=
 ⟨fun vs H Q E h => (by obtain ⟨_, _, _, _, _, _, _, e, _⟩ := h; cases e), fun A outer s H args us vs Q E _ _ _ _ h => by obtain ⟨_, _, _, _, _, _, _, e, _⟩ := h; cases e⟩
end
end Pu
namespace Hd
open PySem PySem.W PySem.Spec PySem.Calls L2 Pu
open PyProof.Rows hiding St Fr
noncomputable def kf (h : Heap) (as : List Addr) : Frag := as.filterMap fun a => (h.get? a).map fun o => (a, o)
theorem kf_get {h : Heap} : ∀ {as : List Addr} {a : Addr} {o : Obj}, (kf h as).lookup a = some o -> h.get? a = some o
 | [], _, _, e => by cases e
 | b :: as, a, o, e => by
  unfold kf at e
  rw [List.filterMap_cons] at e
  cases g : h.get? b with
  | none => rw [g] at e; exact kf_get e
  | some p =>
   rw [g] at e
   simp only [Option.map_some, List.lookup_cons] at e
   by_cases q : a = b
   ·subst q; rw [beq_self_eq_true] at e; cases e; exact g
   ·rw [beq_eq_false_iff_ne.mpr q] at e; exact kf_get e
theorem kf_in (h : Heap) (as : List Addr) : (kf h as).In h := fun _ _ e => kf_get e
theorem kf_at {h : Heap} {a : Addr} {o : Obj} (g : h.get? a = some o) : ∀ {as : List Addr}, a ∈ as -> (kf h as).lookup a = some o
 | [], m => by cases m
 | b :: as, m => by
  unfold kf
  rw [List.filterMap_cons]
  by_cases q : a = b
  ·subst q; rw [g]; simp
  ·have m' : a ∈ as := (List.mem_cons.mp m).resolve_left q
   cases g' : h.get? b with
   | none => exact kf_at g m'
   | some p =>
    simp only [Option.map_some, List.lookup_cons]
    rw [beq_eq_false_iff_ne.mpr q]
    exact kf_at g m'
noncomputable def At (mg : Str -> Option Value) (h : Heap) (as : List Addr) (d : DefRec) : Prop := ∃ (a c : Addr) (o : Obj) (pm doc : Value), mg d.name = some (.ref a) /\ h.get? a = some o /\ o.data = .func (docDef d.name d.params d.body d.scope pm (.ref c) doc) /\ h.CodeRec (.ref c) d.name /\ a ∈ as /\ c ∈ as
theorem at_all {mg : Str -> Option Value} {h : Heap} (as0 : List Addr) : ∀ ds : List DefRec, (∀ d ∈ ds, ∃ a o pm code doc, mg d.name = some (.ref a) /\ h.get? a = some o /\ o.data = .func (docDef d.name d.params d.body d.scope pm code doc) /\ h.CodeRec code d.name) ->
  ∃ as : List Addr, (∀ a ∈ as0, a ∈ as) /\ ∀ d ∈ ds, At mg h as d
 | [], _ => ⟨as0, fun _ m => m, fun _ m => nomatch m⟩
 | d :: ds, T => by
  obtain ⟨as, h0, ih⟩ := at_all as0 ds fun e m => T e (.tail _ m)
  obtain ⟨a, o, pm, cd, doc, h1, h2, h3, h4⟩ := T d (.head _)
  obtain ⟨c, oc, vs, t, rfl, r⟩ := h4
  refine ⟨a :: c :: as, fun b m => .tail _ (.tail _ (h0 b m)), fun e m => ?_⟩
  rcases List.mem_cons.mp m with rfl | m
  ·exact ⟨a, c, o, pm, doc, h1, h2, h3, ⟨c, oc, vs, t, rfl, r⟩, .head _, .tail _ (.head _)⟩
  ·obtain ⟨a', c', o', pm', doc', q1, q2, q3, q4, q5, q6⟩ := ih e m
   exact ⟨a', c', o', pm', doc', q1, q2, q3, q4, .tail _ (.tail _ q5), .tail _ (.tail _ q6)⟩
noncomputable def FnAt (K : Frag) (mg : Str -> Option Value) (x : Str) (st : Stmt) : Prop := ∃ f fd, mg x = some (.ref f) /\ Fun K x x st f fd
noncomputable def four (d : DefRec) : Str × Arguments × List Stmt × Scope := (d.name, d.params, d.body, d.scope)
noncomputable def fourS (p : Str × Stmt) : Str × Arguments × List Stmt × Scope := (p.1, defArgs p.2, defBody p.2, defScope p.2)
theorem fn_at {mg : Str -> Option Value} {h : Heap} {as : List Addr} {ds : List DefRec} {sts : List (Str × Stmt)} (A : ∀ d ∈ ds, At mg h as d) (es : ds.map four = sts.map fourS) (i : Nat) {x : Str} {st : Stmt} (e : sts[i]? = some (x, st)) : FnAt (kf h as) mg x st := by
 have q : (ds.map four)[i]? = some (fourS (x, st)) := by rw [es, List.getElem?_map, e]; rfl
 obtain ⟨d, e', q⟩ := Option.map_eq_some_iff.mp ((List.getElem?_map ..).symm.trans q)
 obtain ⟨n, ps, b, sc, p⟩ := d
 obtain ⟨rfl, q⟩ := Prod.mk.inj q
 obtain ⟨q1, q⟩ := Prod.mk.inj q
 obtain ⟨q2, q3⟩ := Prod.mk.inj q
 dsimp only at q1 q2 q3
 subst q1 q2 q3
 obtain ⟨a, c, o, pm, doc, h1, h2, h3, h4, h5, h6⟩ := A _ (List.mem_of_getElem? e')
 obtain ⟨c', oc, vs, t, e1, g, hd, hv⟩ := h4
 cases e1
 obtain ⟨cl, dd, dt, sl⟩ := o
 cases (show dt = _ from h3)
 have k1 := kf_at h2 h5
 have k2 := kf_at g h6
 refine ⟨a, _, h1, fun_mk (oc := cl) (od := dd) (osl := sl) (kV := .none) (doc := doc) (pm := pm) (an := none) (ct := .none) (cdv := .ref c) k1 ?_ ?_⟩
 ·obtain ⟨ocl, odd, odt, osl⟩ := oc
  cases (show odt = _ from hd)
  unfold codeIn
  dsimp only
  rw [k2]
  obtain ⟨l⟩ := vs
  match l, hv with
  | _ :: v :: r, hv =>
   cases (show v = _ by simpa using hv)
   simp
 ·unfold keepIn
  dsimp only
  rw [k1]
theorem int_of {mg : Str -> Option Value} {x : Str} {i : Int} (h : ∃ v, mg x = some v /\ ∀ h' : Heap, Reads h' v (.int i) []) : ∃ t, mg x = some (.int i t) := by
 obtain ⟨v, e, r⟩ := h
 cases r default
 exact ⟨_, e⟩
theorem str_of {mg : Str -> Option Value} {x y : Str} (h : ∃ v, mg x = some v /\ ∀ h' : Heap, Reads h' v (.str y) []) : ∃ t, mg x = some (.str y t) := by
 obtain ⟨v, e, r⟩ := h
 cases r default
 exact ⟨_, e⟩
theorem tab_mg {h : Heap} {mg : Str -> Option Value} (G : h.Ns mainGlobals mg) {names : List Str} {vals : List (Option (Option Value))} (Y : ∃ om, h.get? mainGlobals = some om /\ names.map (nsIn [(mainGlobals, om)] mainGlobals) = vals) (i : Nat) {x : Str} {v : Value}
  (e1 : names[i]? = some x) (e2 : vals[i]? = some (some (some v))) : mg x = some v := by
 obtain ⟨om, g, e⟩ := Y
 refine mg_of (K := [(mainGlobals, om)]) (fun a o q => ?_) G ?_
 ·rw [List.lookup_cons] at q
  by_cases z : a = mainGlobals
  ·subst z; rw [beq_self_eq_true] at q; cases q; exact g
  ·rw [beq_eq_false_iff_ne.mpr z] at q; cases q
 ·rw [← e, List.getElem?_map, e1] at e2
  simpa using e2
theorem tab_at {h : Heap} {tas : List Addr} {tos : List Obj} (e : tas.map h.get? = tos.map some) (i : Nat) {a : Addr} {o : Obj} (e1 : tas[i]? = some a) (e2 : tos[i]? = some o) : h.get? a = some o := by
 have q := congrArg (fun l : List (Option Obj) => l[i]?) e
 simp only [List.getElem?_map, e1, e2, Option.map_some] at q
 exact Option.some.inj q
noncomputable def defPos (s : Stmt) : Pos := match s with
 | .FunctionDef _ _ _ _ _ _ _ _ _ p => p
 | _ => ⟨0, 0, 0, 0⟩
noncomputable def isHere (p : Program) (loose : List Str) (x : Str) : Bool := startupNames.contains x || loose.contains x || ((recsOf p).map (·.name)).contains x || ((litsOf p).map (·.1)).contains x || ((clssOf p loose).map (·.name)).contains x
theorem nones {p : Program} {loose : List Str} {mean : ExcName -> Option Value} {mg mb : Str -> Option Value} {h : Heap} (T : Top p loose mean mg mb h) {xs : List Str} (e : xs.all (fun x => !isHere p loose x) = true) (i : Nat) {x : Str} (hx : xs[i]? = some x) : mg x = none := by
 have q := List.all_eq_true.mp e x (List.mem_of_getElem? hx)
 unfold isHere at q
 simp only [Bool.not_or, Bool.and_eq_true, Bool.not_eq_true', List.contains_eq_mem, decide_eq_false_iff_not] at q
 exact T.free x q.1.1.1.1 q.1.1.1.2 q.1.1.2 q.1.2 q.2
noncomputable def spLaw (K : Frag) : Sp := fun vs H Q _ => ∃ (a : Addr) (ns : List Int), vs = [.ref a] /\ SqL K H a (ns.map V.int) /\ ns.length <= 63 /\ ∀ H', Q (.bl true) H'
theorem reps_ints {K : Frag} {ι : List Addr} {H : Hp} : ∀ ns : List Int, Reps K ι H (ns.map PV.int) (ns.map V.int)
 | [] => by unfold Reps; rfl
 | n :: ns => by
  rw [List.map_cons, List.map_cons]; unfold Reps
  exact ⟨_, _, rfl, by unfold Rep; rfl, reps_ints ns⟩
theorem spLaw_lift {K : Frag} {F : List SV -> M SV} (hF : ∀ ns : List Int, ns.length <= 63 -> F [.v (.lst (ns.map .int))] [] = some (.v (.bl true), [])) (vs : List V) (H : Hp) (Q : VK) (E : XK) (h : spLaw K vs H Q E) : liftSp K F vs H Q E := by
 obtain ⟨a, ns, rfl, hS, hl, hQ⟩ := h
 refine ⟨[], [.v (.lst (ns.map .int))], [], .v (.bl true), [], ⟨rfl, List.nodup_nil, fun k a c e => by cases e⟩, ?_, hF ns hl, fun v H' _ _ r => ?_⟩
 ·unfold RepSs
  refine ⟨_, _, rfl, ?_, by unfold RepSs; rfl⟩
  unfold RepS Rep
  refine ⟨a, _, rfl, ?_, reps_ints ns⟩
  rcases hS with h | h
  ·exact .inl ⟨List.not_mem_nil, h⟩
  ·exact .inr h
 ·have e : v = .bl true := by unfold RepS Rep at r; exact r
  subst e; exact hQ H'
theorem walk {l : OpenLaw} {k : Nat} {q : Program} {loose : List Str} {XP : (Str -> Option Value) -> Heap -> Prop} {YP : World -> Heap -> Prop} {d : DefRec} (hn : l.most = some 63) (hdf : d.params.defaults = []) (hr : Room k callerA) (as0 : List Addr)
  (F : ∀ (w : World) (s₀ : Shared) (mg mb : Str -> Option Value) (h : Heap) (as : List Addr), Ground q loose [] XP w s₀ mg mb h -> YP w h -> (∀ a ∈ as0, a ∈ as) -> (∀ d ∈ recsOf q, At mg h as d) -> ∀ fa : Addr, mg d.name = some (.ref fa) ->
   ∃ fd : FuncData, (∀ (s : Shared) (u : Value), BindsTo s fd ⟨[u], []⟩ [("_law_script", u)]) /\ ∀ base : Heap, FnOk l.prog w (kf h as) mg base CX0 k fa fd ["_law_script"] (spLaw (kf h as))) :
  WalkO q loose XP YP l.row.toRowW d [] (fun f vs => PySem.call f vs) := by
 refine Att.attach_call hn hdf fun w s₀ s₁ mg mb fa o pm cd doc a vs ns G Y ho hd hcd hmg hobj hints hlen hg => ?_
 obtain ⟨as, h0, A⟩ := at_all as0 (recsOf q) G.T.fn
 obtain ⟨fd, hb, hF⟩ := F w s₀ mg mb _ as G Y h0 A fa hmg
 exact law_call (kf_in s₁.heap as) G.T.g G.T.b G.T.builtins G.T.nolimit hg hobj hints (Nat.le_trans hlen (by decide)) hr (fun base _ _ => hF base) hb (fun H hO hS => ⟨a, ns, rfl, hS, hlen, fun _ => rfl⟩) fun H e s' z => z
end Hd
namespace Pu
open PySem PySem.Spec PySem.W PySem.Calls L2
open PyProof.Rows hiding St Fr strKind
open PySem.Builtin.Str (partsBetween occurrences strKind)
noncomputable def mNo : PSt -> M PF := fun _ _ => none
noncomputable def numS (i : Int) : Str := Str.ofString (toString i)
theorem num_fits {i : Int} (h : i.natAbs.log2 < 1920) : (numS i).length <= sizeLine := int_text_fits h
section
variable {X : Cx} {e : Expr} {es : List Expr} {f : PSt -> M SV} {fs : PSt -> M (List SV)} {p pos : Pos}
noncomputable def strH : List PV -> Option PV
 | [.int i] => if i.natAbs.log2 < 1920 then some (.str (numS i)) else none
 | [.str y] => some (.str y)
 | _ => none
theorem call_strR : CallR X (.type "str") (fun xs H Q => (∃ i : Int, xs = [.int i] /\ i.natAbs.log2 < 1920 /\ Q (.str (numS i)) H) \/ ∃ y, xs = [.str y] /\ Q (.str y) H) := by
 intro pins s σ H xs us Q I r h
 rcases h with ⟨i, rfl, hi, q⟩ | ⟨y, rfl, q⟩
 ·obtain ⟨u, rfl, t, rfl⟩ := Vals.one r
  exact P.str_of_int hi ⟨.str _, H, I.tok _, ⟨_, rfl⟩, q⟩
 ·obtain ⟨u, rfl, t, rfl⟩ := Vals.one r
  exact P.str_of_str ⟨.str _, H, I, ⟨_, rfl⟩, q⟩
theorem strc_ok : L1ok X.K (fun xs H Q => (∃ i : Int, xs = [.int i] /\ i.natAbs.log2 < 1920 /\ Q (.str (numS i)) H) \/ ∃ y, xs = [.str y] /\ Q (.str y) H) strH := by
 intro ι H C ps vs z Q cr ls e k
 unfold strH at e
 split at e
 ·split at e
  ·rename_i i hi
   cases e
   cases ls with
   | cons l t => cases t; cases l; exact .inl ⟨_, rfl, hi, k _ H .refl cr (repS (num_fits hi))⟩
  ·cases e
 ·cases e
  cases ls with
  | cons l t => cases t; cases l; exact .inr ⟨_, rfl, k _ H .refl cr (repS (by assumption))⟩
 ·cases e
noncomputable def intTH : List PV -> Option PV
 | [.str x] => if x.length <= 640 then (PySem.intText? x).map .int else none
 | _ => none
theorem call_intR : CallR X (.type "int") (fun xs H Q => ∃ x n, xs = [.str x] /\ PySem.intText? x = some n /\ x.length <= 640 /\ Q (.int n) H) := by
 intro pins s σ H xs us Q I r h
 obtain ⟨x, n, rfl, hn, hl, q⟩ := h
 obtain ⟨u, rfl, t, rfl⟩ := Vals.one r
 exact KIN.call_text hn hl ⟨.int _, H, I.tok _, ⟨_, rfl⟩, q⟩
theorem intT_ok : L1ok X.K (fun xs H Q => ∃ x n, xs = [.str x] /\ PySem.intText? x = some n /\ x.length <= 640 /\ Q (.int n) H) intTH := by
 intro ι H C ps vs z Q cr ls e k
 unfold intTH at e
 split at e
 ·split at e
  ·rename_i x hx
   cases hn : PySem.intText? x with
   | none => rw [hn] at e; cases e
   | some n =>
    rw [hn] at e; cases e
    cases ls with
    | cons l t => cases t; cases l; exact ⟨_, _, rfl, hn, hx, k _ H .refl cr repI⟩
  ·cases e
 ·cases e
theorem split_at {prog : Program} {w : World} {A : Around} {E : Value -> Shared -> Prop} {s : Shared} {x y : Str} {t u : Tok} {Q : Value -> Shared -> Prop} (hy : (y.length == 0) = false)
  (h : ∀ l k, l.map (·.1) = Txt.split x y -> Q (.ref s.heap.objs.size) { s with heap := s.heap.push { cls := .type "list", data := .seq (strValues l).toArray }, toks := k })
  (hsz : x.length + 2 <= sizeLine) : wpAny (model prog w) A (call (.builtin "str.split") [.str x t, .str y u]) Q E s := by
 have hn : (partsBetween x (occurrences x y 0 x.length (x.length + 1)) y.length).length <= sizeLine := by
  have e1 := StrLaws.occ_length_le x y 0 x.length (x.length + 1)
  rw [length_partsBetween]; lia
 cases h1 : (decide (x.length < y.length) || decide (strKind x < strKind y))
 ·cases hf : (occurrences x y 0 x.length (x.length + 1)).isEmpty
  ·refine call_meets F.slot_str_split (typeIs_str _ _ _) F.entry_str_split (F.args_str_split_2 _ _) (meets_str_split_sep x y t u h1 hy hf (by lia) hn) ?_
   show wants Q E _ { s with toks := _, heap := s.heap.push { cls := .type "list", data := .seq (strsFrom s.toks (partsBetween x (occurrences x y 0 x.length (x.length + 1)) y.length)).toArray } }
   rw [strsFrom_eq]
   exact h (numbered s.toks _) _ ((numbered_texts _ _).trans ((if_neg (ne_true_of_eq_false h1)).trans (if_neg (ne_true_of_eq_false hf))).symm)
  ·exact call_meets F.slot_str_split (typeIs_str _ _ _) F.entry_str_split (F.args_str_split_2 _ _) (meets_str_split_not_found x y t u h1 hy hf)
    (h [(x, t)] s.toks ((if_neg (ne_true_of_eq_false h1)).trans (if_pos hf)).symm)
 ·exact call_meets F.slot_str_split (typeIs_str _ _ _) F.entry_str_split (F.args_str_split_2 _ _) (meets_str_split_cannot_occur x y t u h1)
    (h [(x, t)] s.toks (if_pos h1).symm)
theorem vals_strs : ∀ l : List (Str × Tok), Vals ((l.map (·.1)).map V.str) (strValues l)
 | [] => .nil
 | p :: r => .cons ⟨_, rfl⟩ (vals_strs r)
theorem reps_strs {K : W.Frag} {ι : List Addr} {H : Hp} : ∀ l : List Str, (∀ a ∈ l, a.length <= sizeLine) -> Reps K ι H (l.map PV.str) (l.map V.str)
 | [], _ => by unfold Reps; rfl
 | a :: r, h => by unfold Reps; exact ⟨_, _, rfl, repS (h a (.head _)), reps_strs r fun b hb => h b (.tail _ hb)⟩
theorem split_few (x y : Str) : (Txt.split x y).length <= x.length + 2 := by
 unfold Txt.split
 split
 ·simp
 ·split
  ·simp
  ·rw [length_partsBetween]
   have := StrLaws.occ_length_le x y 0 x.length (x.length + 1)
   lia
noncomputable def rSplit : V -> List V -> Hp -> VK -> Prop := fun x xs H Q => ∃ z y : Str, x = .str z /\ xs = [.str y] /\ (y.length == 0) = false /\ z.length <= 100000 /\ ∀ p, H p = none -> Q (.ref p) (upd H p (.lst ((Txt.split z y).map V.str)))
theorem mt_split : MtR X "str.split" rSplit := by
 intro pins s σ H x xs v us Q I rx r h
 obtain ⟨z, y, rfl, rfl, hy, hz, q⟩ := h
 obtain ⟨t, rfl⟩ := rx
 obtain ⟨u, rfl, t', rfl⟩ := Vals.one r
 refine split_at hy (fun l k hl => ?_) (by rw [sizeLine_eq]; lia)
 have e := vals_strs l
 rw [hl] at e
 refine ⟨.ref _, _, I.laid (t' := k) (o := .lst ((Txt.split z y).map V.str)) (fun b ob q => Heap.get?_push_of_some _ q) (Nat.le_refl _) ⟨?_, _, 0, e, Heap.get?_push_size _ rfl⟩, rfl, q _ (I.hok.fresh (Nat.le_refl _))⟩
 have := split_few z y
 rw [List.length_map, sizeLine_eq]; lia
noncomputable def splitH : PV -> List PV -> Option PV
 | .str z, [.str y] => if 1 <= y.length /\ z.length <= 100000 then some (.lst ((Txt.split z y).map .str)) else none
 | _, _ => none
theorem split_ok : Mtok X.K rSplit splitH := by
 intro ι H C q v ps vs z Q cr lq ls e k
 unfold splitH at e
 split at e
 ·split at e
  ·rename_i x y hy
   cases e
   cases ls with
   | cons l t =>
    cases t
    obtain ⟨rfl, hz⟩ := liesS lq
    obtain ⟨rfl, hy'⟩ := liesS l
    exact ⟨_, _, rfl, rfl, by have := hy.1; simp; lia, hy.2, fun p hp => k _ _ (.new hp) (cr.new hp) (Zbv cr hp (reps_strs _ fun a ha => Nat.le_trans (part_short ha) hz))⟩
  ·cases e
 ·cases e
variable {o : Expr} {fo : PSt -> M SV} {apos cpos : Pos}
noncomputable def fmtH (C : Cs) (x : SV) : Option SV := match deref C x with
 | some (.int i) => if i.natAbs.log2 < 1920 then some (.v (.str (numS i))) else none
 | some (.str y) => some (.v (.str y))
 | _ => none
noncomputable def mFmt (f : PSt -> M SV) : PSt -> M SV := fun ρ => bnd (f ρ) fun x => opM fun C => fmtH C x
noncomputable def catS : Str -> List SV -> Option Str
 | out, [] => some out
 | out, .v (.str y) :: r => if (out ++ y).length <= 1000000 then catS (out ++ y) r else none
 | _, _ => none
noncomputable def mJoined (fs : PSt -> M (List SV)) : PSt -> M SV := fun ρ => bnd (fs ρ) fun xs => opM fun _ => (catS Str.empty xs).map fun z => .v (.str z)
noncomputable def JM (X : Cx) (es : List Expr) (fs : PSt -> M (List SV)) : Prop := ∀ (pins : List (Addr × Obj)) (s : Shared) (σ : St) (H : Hp) (Q : VK) (out : Str), L2.Inv X pins σ H s ->
 (∃ ι ρ C xs C' z, SR X.K ι H ρ σ C /\ fs ρ C = some (xs, C') /\ catS out xs = some z /\ out.length <= 1000000 /\ ∀ H', Pu.Fr ι H H' -> CR X.K ι H' C' -> Rep X.K ι H' (.str z) (.str z) -> Q (.str z) H') ->
 wpAny (model X.prog X.w) X.A (joinParts out (evalEach es X.env)) (EP X pins σ Q) X.xe s
noncomputable def mulTP (x y : PV) : Option PV := match x, y with
 | .str z, .int n => if z.length <= 1000 /\ n < 1000 /\ -1000 < n then some (.str (Txt.mul z n)) else none
 | _, _ => none
theorem mulT_list (z : Str) (n : Int) : (Txt.mul z n).cps.toList = (List.replicate n.toNat z.cps.toList).flatten := by
 unfold Txt.mul
 by_cases h : n < 1
 ·rw [if_pos h, show n.toNat = 0 by lia]; rfl
 ·rw [if_neg h]
  split
  ·rename_i h1
   rcases (Bool.or_eq_true _ _).mp h1 with h1 | h1
   ·have : n = 1 := by simpa using h1
    subst this; simp
   ·have h2 : z.cps.toList = [] := by
     have : z.cps.size = 0 := by have := of_decide_eq_true h1; exact this
     simpa [← Array.length_toList] using this
    simp [h2]
  ·show ((List.replicate n.toNat z.cps).foldl (· ++ ·) #[]).toList = _
   rw [ZbY]; simp
theorem mulT_len (z : Str) (n : Int) : (Txt.mul z n).length = n.toNat * z.length := by
 show (Txt.mul z n).cps.size = _
 rw [← Array.length_toList, mulT_list]
 simp [List.length_flatten]
 rfl
noncomputable def rMulT : R2 := fun x y H Q => ∃ z n, x = .str z /\ y = .int n /\ z.length <= 1000 /\ n < 1000 /\ -1000 < n /\ Q (.str (Txt.mul z n)) H
theorem op_mulT : OpR X (binaryOp .Mult) rMulT := by
 intro pins s σ H x y v u Q I rx ry h
 obtain ⟨z, n, rfl, rfl, hz, h1, h2, q⟩ := h
 obtain ⟨t, rfl⟩ := (show ∃ t, v = .str z t from rx)
 obtain ⟨t', rfl⟩ := (show ∃ t, u = .int n t from ry)
 refine SB.mul ⟨?_, fun g _ => ?_, fun g _ => ?_⟩ fun t2 k => ⟨.str (Txt.mul z n), H, I.tok _, ⟨_, rfl⟩, q⟩
 ·simp; lia
 ·have : (1000 : Int) <= (2 ^ 63 - 1) / n := by
   rw [Int.le_ediv_iff_mul_le (by lia)]; lia
  lia
 ·have : z.length * n.toNat <= 1000 * 1000 := Nat.mul_le_mul hz (by lia)
  exact decide_eq_false (Nat.not_lt.mpr (Nat.le_trans this (by rw [sizeLine_eq]; lia)))
theorem mulT_ok : L2ok X.K rMulT mulTP := by
 intro ι H C p q vx vy z Q cr lx ly e k
 unfold mulTP at e
 split at e
 ·split at e
  ·rename_i s n hc
   cases e
   obtain ⟨rfl, hs⟩ := liesS lx
   cases ly
   refine ⟨_, _, rfl, rfl, hc.1, hc.2.1, hc.2.2, k _ H .refl cr ?_⟩
   unfold Rep
   refine ⟨rfl, ?_⟩
   have : n.toNat * s.length <= 1000 * 1000 := Nat.mul_le_mul (by lia) hc.1
   rw [mulT_len, sizeLine_eq]; lia
  ·cases e
 ·cases e
noncomputable def rSlS : V -> Option Int -> Option Int -> Hp -> VK -> Prop := fun x lo hi H Q => ∃ z : Str, x = .str z /\ z.length <= sizeLine /\ Q (.str (Txt.slice z lo hi)) H
theorem sl_str : SlR X rSlS := by
 intro pins s σ H x v vl vu lo hi sl Q I rx hs pl pu h
 obtain ⟨z, rfl, hz, q⟩ := h
 obtain ⟨t, rfl⟩ := (show ∃ t, v = .str z t from rx)
 refine ⟨"str", _, PySem.F.slot_str_getitem.lookup, typeIs_str _ _ _, ?_⟩
 have k : ∀ (l u : Option (Int × Tok)), vl = partValue l -> vu = partValue u -> l.map (·.1) = lo -> u.map (·.1) = hi -> wpAny (model X.prog X.w) X.A (getItem (.str z t) (.ref sl)) (EP X pins σ Q) X.xe s := by
  rintro l u rfl rfl rfl rfl
  exact wpAny_getItem_str_slice (l := l) (u := u) (st := none) hs rfl (post_val_or_str ⟨Nat.le_trans (Txt.slice_le z _ _) hz, fun t' k => ⟨.str _, H, I.tok _, ⟨_, rfl⟩, q⟩⟩)
 cases pl <;> cases pu
 ·exact k none none rfl rfl rfl rfl
 ·exact k none (some (_, _)) rfl rfl rfl rfl
 ·exact k (some (_, _)) none rfl rfl rfl rfl
 ·exact k (some (_, _)) (some (_, _)) rfl rfl rfl rfl
noncomputable def sliceSD (C : Cs) (x : SV) (lo hi : Option Int) : Option SV := match deref C x with
 | some (.str z) => some (.v (.str (Txt.slice z lo hi)))
 | _ => none
noncomputable def mSliceS (f : PSt -> M SV) (l h : PSt -> M (Option Int)) : PSt -> M SV := fun ρ => bnd (f ρ) fun x => bnd (l ρ) fun lo => bnd (h ρ) fun hi => opM fun C => sliceSD C x lo hi
noncomputable abbrev fdivWP := intP (fun _ j => decide (0 < j /\ j < 2 ^ 200)) fun i j => .int (i / j)
theorem op_fdivW : OpR X (binaryOp .FloorDiv) (rI (fun _ j => 0 < j /\ j < 2 ^ 200) fun i j => .int (i / j)) := opI fun i j _ _ _ _ _ hc q => by
 have h1 : (0 : Int) < j := hc.1
 have h2 : j < 2 ^ 200 := hc.2
 refine floordiv_int (by lia) (by rw [Int.fdiv_eq_ediv_of_nonneg i (by lia)]; exact q) (.inl (PyProof.noPylong_of_log2 ?_))
 have : j.natAbs < 2 ^ 200 := by lia
 have h0 : j.natAbs ≠ 0 := by lia
 exact Nat.lt_trans ((Nat.log2_lt h0).mpr this) (by decide)
end
end Pu
namespace Pu
open PySem PySem.Spec L2
open PyProof.Rows hiding St Fr
@[irreducible] noncomputable def QEM (X : Cx) (e : Expr) (f : PSt -> M SV) : Prop := EM X e f
theorem QEM_eq : @QEM = @EM := by unfold QEM; rfl
@[irreducible] noncomputable def QAM (X : Cx) (es : List Expr) (f : PSt -> M (List SV)) : Prop := AM X es f
theorem QAM_eq : @QAM = @AM := by unfold QAM; rfl
@[irreducible] noncomputable def QTMt (X : Cx) (e : Expr) (f : PSt -> M Bool) : Prop := TMt X e f
theorem QTMt_eq : @QTMt = @TMt := by unfold QTMt; rfl
@[irreducible] noncomputable def QWM (X : Cx) (e : Expr) (f : PSt -> M Bool) : Prop := WM X e f
theorem QWM_eq : @QWM = @WM := by unfold QWM; rfl
@[irreducible] noncomputable def QFM (X : Cx) (e : Expr) (f : PSt -> M (List PV)) : Prop := FM X e f
theorem QFM_eq : @QFM = @FM := by unfold QFM; rfl
@[irreducible] noncomputable def QSM (X : Cx) (st : Stmt) (f : PSt -> M PF) : Prop := SM X st f
theorem QSM_eq : @QSM = @SM := by unfold QSM; rfl
@[irreducible] noncomputable def QBM (X : Cx) (sts : List Stmt) (f : PSt -> M PF) : Prop := BM X sts f
theorem QBM_eq : @QBM = @BM := by unfold QBM; rfl
@[irreducible] noncomputable def QGM (X : Cx) (tg : Expr) (g : PV -> PSt -> Option PSt) : Prop := GM X tg g
theorem QGM_eq : @QGM = @GM := by unfold QGM; rfl
@[irreducible] noncomputable def QGMs (X : Cx) (ts : List Expr) (g : List PV -> PSt -> Option PSt) : Prop := GMs X ts g
theorem QGMs_eq : @QGMs = @GMs := by unfold QGMs; rfl
@[irreducible] noncomputable def QIM (X : Cx) (tg iter : Expr) (f : PSt -> M (List PV)) : Prop := IM X tg iter f
theorem QIM_eq : @QIM = @IM := by unfold QIM; rfl
@[irreducible] noncomputable def QTsM (X : Cx) (ifs : List Expr) (t : PSt -> M Bool) : Prop := TsM X ifs t
theorem QTsM_eq : @QTsM = @TsM := by unfold QTsM; rfl
@[irreducible] noncomputable def QOM (X : Cx) (e : Option Expr) (f : PSt -> M (Option Int)) : Prop := OM X e f
theorem QOM_eq : @QOM = @OM := by unfold QOM; rfl
@[irreducible] noncomputable def QDM (X : Cx) (ks : List (Option Expr)) (es : List Expr) (keys : List Str) (f : PSt -> M (List SV)) : Prop := DM X ks es keys f
theorem QDM_eq : @QDM = @DM := by unfold QDM; rfl
@[irreducible] noncomputable def QJM (X : Cx) (es : List Expr) (fs : PSt -> M (List SV)) : Prop := JM X es fs
theorem QJM_eq : @QJM = @JM := by unfold QJM; rfl
end Pu
local macro_rules
 | `(tactic| subst_eqs) => `(tactic| simp only [Pu.QEM_eq, Pu.QAM_eq, Pu.QTMt_eq, Pu.QWM_eq, Pu.QFM_eq, Pu.QSM_eq, Pu.QBM_eq, Pu.QGM_eq, Pu.QGMs_eq, Pu.QIM_eq, Pu.QTsM_eq, Pu.QOM_eq, Pu.QDM_eq, Pu.QJM_eq] at *)
namespace Pu
open PySem PySem.Spec L2
open PyProof.Rows hiding St
theorem q_WM_t {X : Cx} {e : Expr} {f : PSt -> M Bool} (h : QWM X e f) : QTMt X e f := by
 subst_eqs
 exact h _
section
variable {X : Cx} {a b e c : Expr} {es : List Expr} {fa fb fc : PSt -> M SV} {pos p : Pos} {x : Str}
theorem Zab (i : Nat) {x : Str} {pos : Pos} (hN : X.N[i]? = some x := by rfl) (hv : Vis X.env.scope x := by first | exact Or.inl rfl | exact Or.inr (Or.inl rfl) | exact Or.inr (Or.inr rfl)) (hd : (x == ("__debug__" : Str)) = false := by decide)
  (hcd : (x == ("__classdict__" : Str)) = false := by decide) : QEM X (.Name x pos) (mVar i) := by
 subst_eqs; apply @em_var <;> assumption
theorem Zad {i j pos} : QEM X (.Constant (.int i) j pos) (mC (.int i)) := by
 subst_eqs
 exact Za6 pe_int fun ι H => by unfold Rep; rfl
theorem Zba {i j pos} : QEM X (.Constant (.bool i) j pos) (mC (.bl i)) := by
 subst_eqs
 exact Za6 pe_bl fun ι H => by unfold Rep; rfl
theorem Zaj {i j pos} (h : i.length <= sizeLine := by decide +kernel) : QEM X (.Constant (.str i) j pos) (mC (.str i)) := by
 subst_eqs
 exact Za6 pe_str fun ι H => by unfold Rep; exact ⟨rfl, h⟩
theorem Zcd {i : Int} (hg : Gl X x) (hm : ∃ t, X.mg x = some (.int i t)) (hd : (x == ("__debug__" : Str)) = false := by decide) : QEM X (.Name x pos) (mC (.int i)) := by
 subst_eqs
 obtain ⟨t, hm⟩ := hm
 exact Za6 (pe_glob (v := .int i) hg hm ⟨_, rfl⟩ hd) fun ι H => by unfold Rep; rfl
theorem Zcc {i : Str} (hg : Gl X x) (hm : ∃ t, X.mg x = some (.str i t)) (h : i.length <= sizeLine := by decide +kernel) (hd : (x == ("__debug__" : Str)) = false := by decide) : QEM X (.Name x pos) (mC (.str i)) := by
 subst_eqs
 obtain ⟨t, hm⟩ := hm
 exact Za6 (pe_glob (v := .str i) hg hm ⟨_, rfl⟩ hd) fun ι H => by unfold Rep; exact ⟨rfl, h⟩
theorem ZaL {n : String} (hg : Gl X x) (hm : X.mg x = none) (hv : bootBuiltins x = some (.type n)) (hn : x ≠ "__name__" := by decide) (hd : (x == ("__debug__" : Str)) = false := by decide) : QEM X (.Name x pos) (mC (.ty n)) := by
 subst_eqs
 exact Za6 (pe_bltn (v := .ty n) hg hm hv rfl hn hd) fun ι H => by unfold Rep; rfl
theorem Zau {op : CmpOp} {r : R2} {g : Cs -> SV -> SV -> Option SV} (ho : OpR X (compareOp op) r) (hg : R2ok X.K r g) (ha : QEM X a fa) (hb : QEM X b fb) (hm : behindInMarks op b = false) : QEM X (.Compare a [op] [b] pos) (mOp g fa fb) := by
 subst_eqs
 exact PE.imp (pe_cmpR ho ha hb hm) fun _ _ _ h => tM_op hg h
theorem q_em_chain {op op' : CmpOp} {r r' : R2} {g g' : Cs -> SV -> SV -> Option SV} (ho : OpR X (compareOp op) r) (ho' : OpR X (compareOp op') r') (hg : R2ok X.K r g) (hg' : R2ok X.K r' g') (ha : QEM X a fa) (hb : QEM X b fb) (hc : QEM X c fc)
  (hm : lastMarks [op, op'] [b, c] = false := by with_unfolding_all rfl) : QEM X (.Compare a [op, op'] [b, c] pos) (mChain g g' fa fb fc) := by
 subst_eqs
 exact PE.imp (pe_chain ho ho' ha hb hc hm) fun _ _ _ h => tM_chain hg hg' h
theorem ZaQ {op : CmpOp} {r : R2} {g : Cs -> SV -> SV -> Option SV} (ho : OpR X (compareOp op) r) (hg : R2ok X.K r g) (ha : QEM X a fa) (hb : QEM X b fb) (hm : behindInMarks op b = false) : QTMt X (.Compare a [op] [b] pos) (mTest (mOp g fa fb)) := by
 subst_eqs
 exact PT.imp (pt_cmpR ho ha hb hm) fun σ H Q h => by
    obtain ⟨ι, ρ, C, x, C', sr, e, q⟩ := tM_test h
    exact tM_op hg ⟨ι, ρ, C, x, C', sr, e, q⟩
theorem q_tm_chain {op op' : CmpOp} {r r' : R2} {g g' : Cs -> SV -> SV -> Option SV} (ho : OpR X (compareOp op) r) (ho' : OpR X (compareOp op') r') (hg : R2ok X.K r g) (hg' : R2ok X.K r' g') (ha : QEM X a fa) (hb : QEM X b fb) (hc : QEM X c fc)
  (hm : lastMarks [op, op'] [b, c] = false := by with_unfolding_all rfl) : QTMt X (.Compare a [op, op'] [b, c] pos) (mTest (mChain g g' fa fb fc)) := by
 subst_eqs
 exact PT.imp (pt_chain ho ho' ha hb hc hm) fun σ H Q h => by
    obtain ⟨ι, ρ, C, x, C', sr, e, q⟩ := tM_test h
    exact tM_chain hg hg' ⟨ι, ρ, C, x, C', sr, e, q⟩
theorem ZaD (ha : QEM X a fa) (he : ∀ whole, isTrue a X.env whole = (do let v ← whole; standAt a.pos; holding [v] (truthy v)) := by intro _; rfl) : QTMt X a (mTru fa) := by
 subst_eqs
 exact PT.imp (pt_truth ha he) fun σ H Q h => by
    obtain ⟨ι, ρ, C, z, C', sr, e, q⟩ := h
    obtain ⟨x, C1, e1, e⟩ := Zaf e
    obtain ⟨e2, rfl⟩ := Zas e
    refine ⟨ι, ρ, C, x, C', sr, e1, fun v H1 f1 c1 r1 => ⟨z, ?_, q H1 f1 c1⟩⟩
    cases hd : deref C' x with
    | none => rw [hd] at e2; cases e2
    | some p => rw [hd] at e2; exact (r1.lies c1 hd).tru e2
theorem ZaR {f : PSt -> M Bool} (h : QTMt X a f) : QTMt X (.UnaryOp .Not a pos) (mNotT f) := by
 subst_eqs
 exact PT.imp (pt_not h) fun σ H Q h => by
   obtain ⟨ι, ρ, C, z, C', sr, e, q⟩ := h
   obtain ⟨x, C1, e1, e⟩ := Zaf e
   cases e
   exact ⟨ι, ρ, C, x, _, sr, e1, fun H1 f1 c1 => q H1 f1 c1⟩
theorem ZbH {f : PSt -> M Bool} (h : QTMt X a f) : QWM X (.BoolOp .Or [a] pos) f := by
 subst_eqs
 exact pw_or1 h
theorem ZbM {rest : List Expr} {f g : PSt -> M Bool} (h : QTMt X a f) (k : QWM X (.BoolOp .Or (b :: rest) pos) g) : QWM X (.BoolOp .Or (a :: b :: rest) pos) (mOrT f g) := by
 subst_eqs
 exact PW.imp (pw_or h k) fun σ H Q h => by
   obtain ⟨ι, ρ, C, z, C', sr, e, q⟩ := h
   obtain ⟨x, C1, e1, e⟩ := Zaf e
   refine ⟨ι, ρ, C, x, C1, sr, e1, fun H1 f1 c1 => ?_⟩
   cases x with
   | true => rw [if_pos rfl] at e ⊢; cases e; exact q H1 f1 c1
   | false => rw [if_neg Bool.false_ne_true] at e ⊢; exact ⟨ι, ρ, C1, z, C', sr.step f1 c1, e, fun H2 f2 c2 => q H2 (f1.trans f2) c2⟩
theorem ZaK {op} {f : PSt -> M SV} (h : QEM X a f) : QEM X (.BoolOp op [a] pos) f := by
 subst_eqs
 exact pe_one h
theorem Zap {rest : List Expr} {f g : PSt -> M SV} (h : QEM X a f) (k : QEM X (.BoolOp .And (b :: rest) pos) g) : QEM X (.BoolOp .And (a :: b :: rest) pos) (mAndV f g) := by
 subst_eqs
 exact PE.imp (pe_and h k) fun σ H Q h => by
   obtain ⟨ι, ρ, C, z, C', sr, e, q⟩ := h
   obtain ⟨x, C1, e1, e⟩ := Zaf e
   obtain ⟨k, C2, e2, e3⟩ := Zaf e
   obtain ⟨hx, hC⟩ := ZbV e2
   subst hx hC
   clear e e2
   have e := e3
   refine ⟨ι, ρ, C, _, C2, sr, e1, fun v H1 f1 c1 r1 => ⟨k, repB r1, ?_⟩⟩
   cases k with
   | true => rw [if_pos rfl] at e ⊢; exact ⟨ι, ρ, C2, z, C', sr.step f1 c1, e, fun v' H2 f2 c2 r2 => q v' H2 (f1.trans f2) c2 r2⟩
   | false => rw [if_neg Bool.false_ne_true] at e ⊢; cases e; exact q _ H1 f1 c1 repB'
theorem q_em_or {rest : List Expr} {f g : PSt -> M SV} (h : QEM X a f) (k : QEM X (.BoolOp .Or (b :: rest) pos) g) : QEM X (.BoolOp .Or (a :: b :: rest) pos) (mOrV f g) := by
 subst_eqs
 exact PE.imp (pe_or h k) fun σ H Q h => by
   obtain ⟨ι, ρ, C, z, C', sr, e, q⟩ := h
   obtain ⟨x, C1, e1, e⟩ := Zaf e
   obtain ⟨k, C2, e2, e3⟩ := Zaf e
   obtain ⟨hx, hC⟩ := ZbV e2
   subst hx hC
   clear e e2
   have e := e3
   refine ⟨ι, ρ, C, _, C2, sr, e1, fun v H1 f1 c1 r1 => ⟨k, repB r1, ?_⟩⟩
   cases k with
   | false => rw [if_neg Bool.false_ne_true] at e ⊢; exact ⟨ι, ρ, C2, z, C', sr.step f1 c1, e, fun v' H2 f2 c2 r2 => q v' H2 (f1.trans f2) c2 r2⟩
   | true => rw [if_pos rfl] at e ⊢; cases e; exact q _ H1 f1 c1 repB'
theorem q_em_not {f : PSt -> M SV} (h : QEM X a f) : QEM X (.UnaryOp .Not a pos) (mNotV f) := by
 subst_eqs
 exact PE.imp (pe_not h) fun σ H Q h => by
   obtain ⟨ι, ρ, C, z, C', sr, e, q⟩ := h
   obtain ⟨x, C1, e1, e⟩ := Zaf e
   obtain ⟨k, C2, e2, e3⟩ := Zaf e
   obtain ⟨hx, hC⟩ := ZbV e2
   subst hx hC
   clear e e2
   have e := e3
   refine ⟨ι, ρ, C, _, C2, sr, e1, fun v H1 f1 c1 r1 => ⟨k, repB r1, ?_⟩⟩
   cases e
   exact q _ H1 f1 c1 repB'
theorem q_em_if {t : PSt -> M Bool} {f g : PSt -> M SV} (hc : QTMt X c t) (h : QEM X a f) (k : QEM X b g) : QEM X (.IfExp c a b pos) (mIf t f g) := by
 subst_eqs
 exact PE.imp (pe_ifExp hc h k) fun σ H Q h => by
   obtain ⟨ι, ρ, C, z, C', sr, e, q⟩ := h
   obtain ⟨x, C1, e1, e⟩ := Zaf e
   refine ⟨ι, ρ, C, x, C1, sr, e1, fun H1 f1 c1 => ?_⟩
   cases x with
   | true => rw [if_pos rfl] at e ⊢; exact ⟨ι, ρ, C1, z, C', sr.step f1 c1, e, fun v H2 f2 c2 r2 => q v H2 (f1.trans f2) c2 r2⟩
   | false => rw [if_neg Bool.false_ne_true] at e ⊢; exact ⟨ι, ρ, C1, z, C', sr.step f1 c1, e, fun v H2 f2 c2 r2 => q v H2 (f1.trans f2) c2 r2⟩
theorem Zac : QAM X [] aNil := by
 subst_eqs
 exact PA.imp pa_nil fun σ H Q h_ => by obtain ⟨ι, ρ, C, z, C', sr, e, q⟩ := h_; cases e; exact q [] H .refl sr.cr rfl
theorem Zaa {f : PSt -> M SV} {g : PSt -> M (List SV)} (h : QEM X e f) (k : QAM X es g) (hs : starEach (e :: es) X.env = (false, eval e X.env) :: starEach es X.env := by rfl) : QAM X (e :: es) (aCons f g) := by
 subst_eqs
 exact PA.imp (pa_cons h k hs) fun σ H Q h => by
   obtain ⟨ι, ρ, C, z, C', sr, e, q⟩ := h
   obtain ⟨x, C1, e1, e⟩ := Zaf e
   obtain ⟨xs, C2, e2, e⟩ := Zaf e
   cases e
   exact ⟨ι, ρ, C, x, C1, sr, e1, fun v H1 f1 c1 r1 => ⟨ι, ρ, C1, xs, C', sr.step f1 c1, e2, fun vs H2 f2 c2 r2 => q (v :: vs) H2 (f1.trans f2) c2 ⟨v, vs, rfl, r1.mono c1 f2, r2⟩⟩⟩
theorem Zae {k : Nat} {f : Addr} {fd : FuncData} {ps : List Str} {F : List SV -> M SV} {fs : PSt -> M (List SV)} (G : FnOk X.prog X.w X.K X.mg X.base CX0 k f fd ps (liftSp X.K F)) (hr : Room k X.A) (hg : Gl X x) (hm : X.mg x = some (.ref f)) (hk : W.keepIn X.K (.ref f) = true) (hb : Binds X.K fd ps [])
  (ha : QAM X (e :: es) fs) (hdb : (x == ("__debug__" : Str)) = false := by decide) (he : starEach (e :: es) X.env = (false, eval e X.env) :: starEach es X.env := by rfl) (hpl : (backTo pos (starEach es X.env)).any (·.1) = false := by rfl) :
  QEM X (.Call (.Name x p) (e :: es) [] pos) (mFn F fs) := by
 subst_eqs
 exact PE.imp (pe_call G hr hg hm hk hb .nil pass0 ha hdb he hpl) fun σ H Q h => by
   obtain ⟨ι, ρ, C, z, C', sr, e, q⟩ := h
   obtain ⟨xs, C1, e1, e⟩ := Zaf e
   refine ⟨ι, ρ, C, xs, C1, sr, e1, fun vs H1 f1 c1 r1 => ?_⟩
   show liftSp X.K F (vs ++ []) H1 Q E0
   rw [List.append_nil]
   exact ⟨ι, xs, C1, z, C', c1, r1, e, fun v H2 f2 c2 r2 => q v H2 (f1.trans f2) c2 r2⟩
end
section
variable {X : Cx} {a b e c tg : Expr} {es : List Expr} {st : Stmt} {rest sts sts' : List Stmt} {f g : PSt -> M PF} {pos p pos' : Pos} {x : Str}
theorem Zax : QBM X [] mSkip := by
 subst_eqs
 exact PSs.imp pss_nil fun D σ H h_ => by obtain ⟨ι, ρ, C, fl, C', sr, e, d⟩ := h_; cases e; exact d.nx0 sr
theorem Zah (h : QSM X st f) : QBM X [st] f := by
 subst_eqs
 exact pss_one h
theorem Zag (h : QSM X st f) (k : QBM X rest g) : QBM X (st :: rest) (mSeq f g) := by
 subst_eqs
 exact PSs.imp (pss_cons h k) fun D σ H h_ => by
   obtain ⟨ι, ρ, C, fl, C', sr, e, d⟩ := h_
   obtain ⟨fl1, C1, e1, e⟩ := Zaf e
   refine ⟨ι, ρ, C, fl1, C1, sr, e1, ?_⟩
   cases fl1 with
   | nx ρ1 => exact fun ι2 σ' H' x sr' => ⟨ι ++ ι2, ρ1, C1, fl, C', sr', e, d.tr sr'.cr x⟩
   | rt r => cases e; exact d
   | bk ρ1 => cases e; exact d
   | ct ρ1 => cases e; exact d
   | rf ps => cases e; exact d
   | rq ps => cases e; exact d
theorem ZaH {t : PSt -> M Bool} (hc : QTMt X c t) (h : QBM X sts f) (k : QBM X sts' g) : QSM X (.If c sts sts' pos) (mIfS t f g) := by
 subst_eqs
 exact PS.imp (ps_if hc h k) fun D σ H h_ => by
   obtain ⟨ι, ρ, C, fl, C', sr, e, d⟩ := h_
   obtain ⟨z, C1, e1, e⟩ := Zaf e
   refine ⟨ι, ρ, C, z, C1, sr, e1, fun H1 f1 c1 => ?_⟩
   cases z with
   | true => rw [if_pos rfl] at e ⊢; exact ⟨ι, ρ, C1, fl, C', sr.step f1 c1, e, d.fr c1 f1⟩
   | false => rw [if_neg Bool.false_ne_true] at e ⊢; exact ⟨ι, ρ, C1, fl, C', sr.step f1 c1, e, d.fr c1 f1⟩
theorem Zai {f : PSt -> M SV} (h : QEM X e f) : QSM X (.Return (some e) pos) (mRet f) := by
 subst_eqs
 exact PS.imp (ps_ret h) fun D σ H h_ => by
   obtain ⟨ι, ρ, C, fl, C', sr, e, d⟩ := h_
   obtain ⟨z, C1, e1, e⟩ := Zaf e
   cases e
   exact ⟨ι, ρ, C, z, _, sr, e1, fun v H1 f1 c1 r1 => d [] v H1 (Ex.fr f1) (by rw [List.append_nil]; exact c1) (by rw [List.append_nil]; exact r1)⟩
theorem ZbN {f : PSt -> M (List PV)} (h : QFM X e f) : QSM X (.Return (some e) pos) (mRetF f) := by
 subst_eqs
 exact PS.imp (ps_ret h) fun D σ H h_ => by
   obtain ⟨ι, ρ, C, fl, C', sr, e, d⟩ := h_
   obtain ⟨ps, C1, e1, g1⟩ := Zaf e
   cases g1
   exact ⟨ι, ρ, C, ps, _, sr, e1, fun q vs H1 f1 c1 hq rs => d [] q vs H1 (Ex.fr f1) (by rw [List.append_nil]; exact c1) hq (by rw [List.append_nil]; exact rs)⟩
theorem ZaX {f : PSt -> M SV} (h : QEM X e f) (hs : swapsWith e none pos.line X.env = pure false := by rfl) : QSM X (.Expr e pos) (mDrop f) := by
 subst_eqs
 exact PS.imp (ps_expr h hs) fun D σ H h_ => by
   obtain ⟨ι, ρ, C, fl, C', sr, e, d⟩ := h_
   obtain ⟨z, C1, e1, e⟩ := Zaf e
   cases e
   exact ⟨ι, ρ, C, z, _, sr, e1, fun v H1 f1 c1 r1 => Done.nx0 (sr.step f1 c1) (d.fr c1 f1)⟩
theorem Zan {i : Nat} {f : PSt -> M SV} (hN : X.N.Nodup) (hi : X.N[i]? = some x) (hx : Loc X.env.scope x) (h : QEM X e f) (hs : swapsWith e (some (.Name x pos')) pos.line X.env = pure false := by rfl)
  (hf : X.fn x = true \/ X.env.scope.names.lookup x = some .local := by first | exact .inl rfl | exact .inr rfl | assumption) : QSM X (.Assign [.Name x pos'] e pos) (mSet i f) := by
 subst_eqs
 exact PS.imp (ps_set hN hi hx h hs hf) fun D σ H h_ => by
   obtain ⟨ι, ρ, C, fl, C', sr, e, d⟩ := h_
   obtain ⟨z, C1, e1, e⟩ := Zaf e
   cases e
   exact ⟨ι, ρ, C, z, _, sr, e1, fun v H1 f1 c1 r1 => Done.nx0 ((sr.step f1 c1).set i r1) (d.fr c1 f1)⟩
theorem q_sm_new {i : Nat} {f : PSt -> M (List PV)} (hN : X.N.Nodup) (hi : X.N[i]? = some x) (hx : Loc X.env.scope x) (h : QFM X e f) (hs : swapsWith e (some (.Name x pos')) pos.line X.env = pure false := by rfl)
  (hf : X.fn x = true \/ X.env.scope.names.lookup x = some .local := by first | exact .inl rfl | exact .inr rfl | assumption) : QSM X (.Assign [.Name x pos'] e pos) (mNew i f) := by
 subst_eqs
 exact PS.imp (ps_set hN hi hx h hs hf) fun D σ H h_ => by
   obtain ⟨ι, ρ, C, fl, C', sr, e, d⟩ := h_
   obtain ⟨ps, C1, e1, e⟩ := Zaf e
   cases e
   exact ⟨ι, ρ, C, ps, C1, sr, e1, fun q vs H' f1 c1 hq rs => new_cell sr d f1 c1 hq rs⟩
theorem ZaM {x1} {fs : PSt -> M (List SV)} (h : QAM X es fs) : QEM X (.Tuple es x1 pos) (mTup fs) := by
 subst_eqs
 exact PE.imp (pe_tup h) fun σ H Q h_ => by
   obtain ⟨ι, ρ, C, z, C', sr, e, q⟩ := h_
   obtain ⟨xs, C1, e1, e⟩ := Zaf e
   obtain ⟨e2, rfl⟩ := Zas e
   refine ⟨ι, ρ, C, xs, _, sr, e1, fun vs H1 f1 c1 r1 => ?_⟩
   by_cases hl : xs.length <= 1000
   ·rw [if_pos hl] at e2
    cases hp : plain xs with
    | none => rw [hp] at e2; cases e2
    | some ps =>
     rw [hp] at e2; cases e2
     obtain ⟨rs, hv⟩ := Zbd hp r1
     refine ⟨by rw [hv]; exact k1000 hl, fun q' hq => q _ _ (f1.trans (Fr.new hq)) (c1.new hq) ?_⟩
     show Rep _ _ _ (.tup ps) _
     unfold Rep
     exact ⟨q', vs, rfl, ZaP, Reps.stay (fun b o e => by rw [Zam (Zak e hq)]; exact e) ps vs rs⟩
   ·rw [if_neg hl] at e2; cases e2
theorem ZaE {fs : PSt -> M (List SV)} (h : QAM X es fs) : QFM X (.List es pos) (mLst fs) := by
 subst_eqs
 exact PE.imp (pe_lst h) fun σ H Q h_ => by
   obtain ⟨ι, ρ, C, z, C', sr, e, q⟩ := h_
   obtain ⟨xs, C1, e1, e⟩ := Zaf e
   obtain ⟨e2, rfl⟩ := Zas e
   refine ⟨ι, ρ, C, xs, _, sr, e1, fun vs H1 f1 c1 r1 => ?_⟩
   by_cases hl : xs.length <= 1000
   ·rw [if_pos hl] at e2
    obtain ⟨rs, hv⟩ := Zbd e2 r1
    exact ⟨by rw [hv]; exact k1000 hl, fun q' hq => q q' vs H1 f1 c1 hq rs⟩
   ·rw [if_neg hl] at e2; cases e2
theorem ZaI {f : PSt -> M (List PV)} (h : QFM X e f) : QEM X e (mVal f) := by
 subst_eqs
 exact PE.imp h fun σ H Q h_ => by
   obtain ⟨ι, ρ, C, z, C', sr, e, q⟩ := h_
   obtain ⟨ps, C1, e1, e⟩ := Zaf e
   cases e
   exact ⟨ι, ρ, C, ps, _, sr, e1, fun q' vs H1 f1 c1 hq rs => q _ _ (f1.trans (Fr.new hq)) (c1.new hq) (Zbv c1 hq rs)⟩
theorem Zaq {i : Nat} (hN : X.N.Nodup) (hi : X.N[i]? = some x) (hx : Loc X.env.scope x) (hf : X.fn x = true \/ X.env.scope.names.lookup x = some .local := by first | exact .inl rfl | exact .inr rfl | assumption) : QGM X (.Name x pos) (hName i) := by
 subst_eqs
 exact PG.imp (pg_name hN hi hx hf) fun v σ H Q h_ => by obtain ⟨ι, ρ, C, p, ρ', sr, r, e, q⟩ := h_; cases e; exact q _ (sr.set i r)
theorem ZbP : QGMs X [] hNil := by
 subst_eqs
 exact PGs.imp pgs_nil fun v σ H Q h_ => by
   obtain ⟨ι, ρ, C, p, ρ', sr, r, e, q⟩ := h_
   cases p with
   | nil => cases e; exact ⟨r.inv0, q σ sr⟩
   | cons _ _ => cases e
theorem ZaO {g : PV -> PSt -> Option PSt} {gs : List PV -> PSt -> Option PSt} (h : QGM X e g) (k : QGMs X es gs) (hs : (assignEach (e :: es) X.env).map (·.2) = assign e X.env :: (assignEach es X.env).map (·.2) := by rfl) : QGMs X (e :: es) (hCons g gs) := by
 subst_eqs
 exact PGs.imp (pgs_cons h k hs) fun v σ H Q h_ => by
    obtain ⟨ι, ρ, C, p, ρ', sr, r, e, q⟩ := h_
    cases p with
    | nil => cases e
    | cons p ps =>
     obtain ⟨w, ws, rfl, r1, r2⟩ := r.inv
     replace e : (g p ρ).bind (fun ρ' => gs ps ρ') = some ρ' := e
     cases h1 : g p ρ with
     | none => rw [h1] at e; cases e
     | some ρ1 =>
      rw [h1] at e
      exact ⟨w, ws, rfl, ι, ρ, C, p, ρ1, sr, r1, h1, fun σ1 sr1 => ⟨ι, ρ1, C, ps, ρ', sr1, r2, e, q⟩⟩
theorem q_gm_tup {gs : List PV -> PSt -> Option PSt} {k n : Nat} (hc : X.calm = true) (h : QGMs X es gs) (hn : (assignEach es X.env).length = n := by rfl) (hst : (assignEach es X.env).findIdx? (·.1) = none := by rfl) : QGM X (.Tuple es k pos) (hTup gs n) := by
 subst_eqs
 exact PG.imp (pg_tup hc h hn hst) fun v σ H Q h_ => by
    obtain ⟨ι, ρ, C, p, ρ', sr, r, e, q⟩ := h_
    cases p with
    | tup ps =>
     unfold Rep at r
     obtain ⟨a, vs, rfl, sq, rs⟩ := r
     replace e : (if ps.length = n then gs ps ρ else none) = some ρ' := e
     by_cases hl : ps.length = n
     ·rw [if_pos hl] at e
      exact ⟨a, vs, rfl, sq.sq, by rw [← rs.length]; exact hl, ι, ρ, C, ps, ρ', sr, rs, e, q⟩
     ·rw [if_neg hl] at e; cases e
    | _ => cases e
theorem q_sm_asg {f : PSt -> M SV} {g : PV -> PSt -> Option PSt} (h : QEM X e f) (k : QGM X tg g) (hs : swapsWithSole [tg] e pos.line X.env = pure false := by rfl) (hw : swappedStores [tg] e X.env = pure none := by rfl)
  (h1 : (assignEach [tg] X.env).map (·.2) = [assign tg X.env] := by rfl) : QSM X (.Assign [tg] e pos) (mAsg f g) := by
 subst_eqs
 exact PS.imp (ps_asg h k hs hw h1) fun D σ H h_ => by
   obtain ⟨ι, ρ, C, fl, C', sr, e, d⟩ := h_
   obtain ⟨z, C1, e1, e⟩ := Zaf e
   refine ⟨ι, ρ, C, z, C1, sr, e1, fun v H1 f1 c1 r1 => ?_⟩
   cases z with
   | c k => cases e
   | v p =>
    have e : (g p ρ).map (fun ρ' => (PF.nx ρ', C1)) = some (fl, C') := e
    cases hg : g p ρ with
    | none => rw [hg] at e; cases e
    | some ρ1 =>
     rw [hg] at e
     cases e
     exact ⟨ι, ρ, _, p, ρ1, sr.step f1 c1, r1, hg, fun σ' sr' => Done.nx0 sr' (d.fr c1 f1)⟩
end
section
variable {X : Cx} {e tg iter elt : Expr} {es : List Expr} {body : List Stmt} {f : PSt -> M PF} {pos p : Pos} {x : Str}
theorem q_sm_for {it : PSt -> M (List PV)} {g : PV -> PSt -> Option PSt} (hp : PassesOwn (model X.prog X.w) X.A X.env X.xe) (hc : X.calm = true) (hi : QIM X tg iter it) (hg : QGM X tg g) (hb : QBM X body f)
  (hs : ∀ x, foldedSetIterable iter X.env x = pure x := by intro _; rfl) : QSM X (.For tg iter body [] pos) (mFor it g f) := by
 subst_eqs
 exact PS.imp (ps_for hp hc hi hg hb hs) fun D σ H h_ => by
   obtain ⟨ι, ρ, C, fl, C', sr, e, d⟩ := h_
   obtain ⟨xs, C1, e1, e⟩ := Zaf e
   refine ⟨ι, ρ, C, xs, C1, sr, e1, fun J H1 f1 c1 it1 => ?_⟩
   have d1 := d.fr c1 f1
   have sr1 := sr.step f1 c1
   refine ⟨fun i m σ2 H2 => ∃ ι2 ρ2 C2, m = xs.length - i /\ i <= xs.length /\ Ex ι ι2 H1 H2 /\ SR X.K (ι ++ ι2) H2 ρ2 σ2 C2 /\ loop g f (xs.drop i) ρ2 C2 = some (fl, C'), ⟨xs.length, [], ρ, C1, rfl, Nat.zero_le _, Ex.fr .refl, by rw [List.append_nil]; exact sr1, e⟩, ?_⟩
   rintro i m σ2 H2 ⟨ι2, ρ2, C2, rfl, hi2, x2, sr2, e2⟩
   rcases Nat.lt_or_ge i xs.length with hlt | hge
   ·right
    refine ⟨it1.go ι2 H2 C2 x2 sr2.cr i hlt, fun σ' H' => ∃ ι2 ρ2 C2, Ex ι ι2 H1 H' /\ SR X.K (ι ++ ι2) H' ρ2 σ' C2 /\ loop g f (xs.drop (i + 1)) ρ2 C2 = some (fl, C'), ?_, ?_⟩
    ·rintro σ' H' ⟨ι3, ρ3, C3, x3, sr3, e3⟩
     exact ⟨xs.length - (i + 1), by lia, ι3, ρ3, C3, rfl, hlt, x3, sr3, e3⟩
    ·intro v H3 y
     obtain ⟨sm, q, hq, rq⟩ := it1.yld ι2 H2 C2 x2 sr2.cr i v H3 hlt y
     have hd : xs.drop i = q :: xs.drop (i + 1) := by
      rw [List.drop_eq_getElem_cons hlt]
      rw [List.getElem?_eq_getElem hlt] at hq
      rw [Option.some.inj hq]
     rw [hd] at e2
     unfold loop at e2
     cases hg1 : g q ρ2 with
     | none => rw [hg1] at e2; cases e2
     | some ρ3 =>
      rw [hg1] at e2
      obtain ⟨fl1, C3, e3, e4⟩ := Zaf e2
      have fr3 : Fr (ι ++ ι2) H2 H3 := fun b o _ z => sm b o z
      have cr3 : CR X.K (ι ++ ι2) H3 C2 := sr2.cr.same sm
      have x3 : Ex ι ι2 H1 H3 := ⟨fun b o n z => sm b o (x2.1 b o n z), x2.2⟩
      refine ⟨ι ++ ι2, ρ2, C2, q, ρ3, sr2.step fr3 cr3, rq, hg1, fun σ4 sr4 => ⟨ι ++ ι2, ρ3, C2, fl1, C3, sr4, e3, ?_⟩⟩
      cases fl1 with
      | nx ρ5 => exact fun ι5 σ5 H5 x5 sr5 => ⟨ι2 ++ ι5, ρ5, C3, x3.trans cr3 x5, by rw [← List.append_assoc]; exact sr5, e4⟩
      | ct ρ5 => exact fun ι5 σ5 H5 x5 sr5 => ⟨ι2 ++ ι5, ρ5, C3, x3.trans cr3 x5, by rw [← List.append_assoc]; exact sr5, e4⟩
      | bk ρ5 => cases e4; exact fun ι5 σ5 H5 x5 sr5 => d1 (ι2 ++ ι5) σ5 H5 (x3.trans cr3 x5) (by rw [← List.append_assoc]; exact sr5)
      | rf ps => cases e4; exact fun ι5 q5 vs5 H5 x5 c5 h5 r5 => d1 (ι2 ++ ι5) q5 vs5 H5 (x3.trans cr3 x5) (by rw [← List.append_assoc]; exact c5) h5 (by rw [← List.append_assoc]; exact r5)
      | rq ps => cases e4; exact fun ι5 q5 vs5 H5 x5 c5 h5 r5 => d1 (ι2 ++ ι5) q5 vs5 H5 (x3.trans cr3 x5) (by rw [← List.append_assoc]; exact c5) h5 (by rw [← List.append_assoc]; exact r5)
      | rt r => cases e4; exact fun ι5 v5 H5 x5 c5 r5 => d1 (ι2 ++ ι5) v5 H5 (x3.trans cr3 x5) (by rw [← List.append_assoc]; exact c5) (by rw [← List.append_assoc]; exact r5)
   ·left
    have hi3 : i = xs.length := by lia
    subst hi3
    rw [List.drop_length] at e2
    cases e2
    exact ⟨it1.stop ι2 H2 _ x2 sr2.cr, d1 ι2 σ2 H2 x2 sr2⟩
section
variable {ifs : List Expr} {scope : Scope} {vs fs : List Str} {fr : List Nat} {it : PSt -> M (List PV)} {g : PV -> PSt -> Option PSt} {tt : PSt -> M Bool} {te : PSt -> M SV}
theorem Za4 : QTsM X [] tOk := by
 subst_eqs
 exact fun pins s σ H Q I h_ => by
   obtain ⟨ι, ρ, C, b, C', sr, e, q⟩ := h_
   cases e
   exact pts_nil pins s σ H Q I (q H .refl sr.cr)
theorem q_ts_one {c : Expr} {t : PSt -> M Bool} (h : QTMt X c t) : QTsM X [c] t := by
 subst_eqs
 exact pts_one h
theorem ZaV (S : CSc X scope vs fs fr) (hc : X.calm = true) (hi : QIM X tg iter it)
  (bG : ∀ C s₀ H₀ ex pn, QGM (CompCx X (vs ++ fs) scope C s₀ H₀ ex pn) tg g) (bT : ∀ C s₀ H₀ ex pn, QTsM (CompCx X (vs ++ fs) scope C s₀ H₀ ex pn) ifs tt) (bE : ∀ C s₀ H₀ ex pn, QEM (CompCx X (vs ++ fs) scope C s₀ H₀ ex pn) elt te)
  (hs : ∀ x, foldedSetIterable iter X.env x = pure x := by intro _; rfl) : QFM X (.ListComp elt [⟨tg, iter, ifs, 0⟩] scope pos) (mComp it vs fr g tt te) := by
 subst_eqs
 exact PE.imp (pe_comp (g := tMG X.K g) (tt := tMB X.K tt) (te := tM X.K te) S hc hi bG bT bE hs) fun σ H Q ⟨ι, ρ, C, res, C', sr, e, q⟩ => comp_pure sr e q
theorem q_sm_comp {i : Nat} {px spos : Pos} (hN : X.N.Nodup) (hx : X.N[i]? = some x) (hl : X.env.scope.names.lookup x = some .local) (S : CSc X scope vs fs fr) (hc : X.calm = true) (hi : QIM X tg iter it)
  (bG : ∀ C s₀ H₀ ex pn, QGM (CompCx X (vs ++ fs) scope C s₀ H₀ ex pn) tg g) (bT : ∀ C s₀ H₀ ex pn, QTsM (CompCx X (vs ++ fs) scope C s₀ H₀ ex pn) ifs tt) (bE : ∀ C s₀ H₀ ex pn, QEM (CompCx X (vs ++ fs) scope C s₀ H₀ ex pn) elt te)
  (hsw : swapsWith (.ListComp elt [⟨tg, iter, ifs, 0⟩] scope pos) (some (.Name x px)) spos.line X.env = pure true := by rfl) (hs : ∀ x, foldedSetIterable iter X.env x = pure x := by intro _; rfl) :
  QSM X (.Assign [.Name x px] (.ListComp elt [⟨tg, iter, ifs, 0⟩] scope pos) spos) (mSet i (mVal (mComp it vs fr g tt te))) := by
 subst_eqs
 exact PS.imp (ps_comp (g := tMG X.K g) (tt := tMB X.K tt) (te := tM X.K te) hN hx hl S hc hi bG bT bE hsw hs) fun D σ H h_ => by
   obtain ⟨ι, ρ, C, fl, C', sr, e, d⟩ := h_
   obtain ⟨z, C1, e1, e⟩ := Zaf e
   cases e
   obtain ⟨res, C2, e2, e3⟩ := Zaf e1
   cases e3
   exact comp_pure sr e2 fun q vs H' f1 c1 hq rs => Done.nx0 (((sr.step f1 c1).step (Fr.new hq) (c1.new hq)).set i (s := .v (.lst _)) (Zbv c1 hq rs)) (d.fr (c1.new hq) (f1.trans (Fr.new hq)))
end
end
theorem q_fm_call {X : Cx} {e : Expr} {es : List Expr} {p pos : Pos} {x : Str} {k : Nat} {f : Addr} {fd : FuncData} {ps : List Str} {F : List SV -> M (List PV)} {fs : PSt -> M (List SV)} (G : FnOk X.prog X.w X.K X.mg X.base CX0 k f fd ps (liftSpF X.K F)) (hr : Room k X.A) (hg : Gl X x) (hm : X.mg x = some (.ref f)) (hk : W.keepIn X.K (.ref f) = true) (hb : L2.Binds X.K fd ps [])
  (ha : QAM X (e :: es) fs) (hdb : (x == ("__debug__" : Str)) = false := by decide) (he : starEach (e :: es) X.env = (false, eval e X.env) :: starEach es X.env := by rfl) (hpl : (backTo pos (starEach es X.env)).any (·.1) = false := by rfl) :
  QFM X (.Call (.Name x p) (e :: es) [] pos) (mFnF F fs) := by
 subst_eqs
 exact PE.imp (pe_call G hr hg hm hk hb .nil pass0 ha hdb he hpl) fun σ H Q h_ => by
   obtain ⟨ι, ρ, C, z, C', sr, e, q⟩ := h_
   obtain ⟨xs, C1, e1, g1⟩ := Zaf e
   refine ⟨ι, ρ, C, xs, C1, sr, e1, fun vs H1 f1 c1 r1 => ?_⟩
   show liftSpF X.K F (vs ++ []) H1 Q E0
   rw [List.append_nil]
   exact ⟨ι, xs, C1, z, C', c1, r1, g1, fun q' ws H2 f2 c2 h2 r2 => q q' ws H2 (f1.trans f2) c2 h2 r2⟩
section
variable {P : Program} {w : World} {K : W.Frag} {mg : Str -> Option Value} {base : Heap}
theorem Zao {x qual : Str} {st : Stmt} {f : Addr} {fd : FuncData} {N ps : List Str} {k : Nat} {body : PSt -> M PF} (F : Fun K x qual st f fd) (S : FnScope N ps (defScope st))
  (hbody : ∀ (cdv : Value) (A : Around) (outer : List Env) (s : Shared) (H : Hp) (E : XK), Room k (A.deeper (envOfC qual (defScope st) s.heap.objs.size f cdv)) ->
   QBM (cxOf CX0 P w K mg base N qual (defScope st) f cdv A outer s H E).nox (defBody st) body) : FnOk P w K mg base CX0 (k + 1) f fd ps (liftSp K (mDef ps.length (N.length - ps.length) body)) := by
 subst_eqs
 refine F.ok S (fun vs H Q E h_ => ?_) (fun cdv A outer s H vs Q E hr h_ => ?_) <;> obtain ⟨ι, ss, C, r, C', cr, rs, e, q⟩ := h_
 ·unfold mDef at e
  by_cases h : ss.length = ps.length
  ·rw [← RepSs.length rs]; exact h
  ·rw [if_neg h] at e; cases e
 ·refine ⟨_, hbody cdv A outer s H E hr, ?_⟩
  unfold mDef at e
  by_cases h : ss.length = ps.length
  case neg => rw [if_neg h] at e; cases e
  rw [if_pos h] at e
  have sr := sr_start (N := N) cr rs
  rw [h] at sr
  cases hb : body (ss.map some ++ List.replicate (N.length - ps.length) none) C with
  | none => rw [hb] at e; cases e
  | some z =>
   obtain ⟨fl, C2⟩ := z
   rw [hb] at e
   refine ⟨ι, _, C, fl, C2, sr, hb, ?_⟩
   cases fl with
   | rt r2 =>
    intro ι2 v H' x c r3
    obtain ⟨c4, r4⟩ := fin_ok c cr.len r3 e
    exact q v H' x.1 c4 r4
   | nx ρ2 =>
    intro ι2 σ' H' x sr'
    cases e
    refine q .non H' x.1 (sr'.cr.cut cr.len) ?_
    show Rep K ι H' .non .non
    unfold Rep; rfl
   | rf ps' =>
    intro ι2 p' vs' H' x c hp rs'
    cases e
    have hs : ∀ b o, H' b = some o -> b ∉ ι ++ ι2 -> b ∉ ι := fun b o _ z q => z (List.mem_append_left _ q)
    have c4 := c.cut cr.len
    exact q _ _ (x.1.trans (Fr.new hp)) (c4.new hp) (show Rep _ _ _ _ _ from Zbv c4 hp (Reps.cells hs _ _ rs'))
   | rq qs' =>
    intro ι2 p' vs' H' x c hp rs'
    replace e : (finQ C.length C2 qs').map (fun ps => (SV.v (.tup ps), C2.take C.length)) = some (r, C') := e
    cases hq : finQ C.length C2 qs' with
    | none => rw [hq] at e; cases e
    | some ps' =>
     rw [hq] at e; cases e
     have c4 := c.cut cr.len
     refine q _ _ (x.1.trans (Fr.new hp)) (c4.new hp) ?_
     show Rep _ _ _ (.tup ps') _
     unfold Rep
     exact ⟨p', vs', rfl, ZaP, Reps.stay (fun b o e => by rw [Zam (Zak e hp)]; exact e) _ _ (finQ_ok c cr.len rs' hq)⟩
   | bk _ => cases e
   | ct _ => cases e
theorem q_fn_mkF {x qual : Str} {st : Stmt} {f : Addr} {fd : FuncData} {N ps : List Str} {k : Nat} {body : PSt -> M PF} (F : Fun K x qual st f fd) (S : FnScope N ps (defScope st))
  (hbody : ∀ (cdv : Value) (A : Around) (outer : List Env) (s : Shared) (H : Hp) (E : XK), Room k (A.deeper (envOfC qual (defScope st) s.heap.objs.size f cdv)) ->
   QBM (cxOf CX0 P w K mg base N qual (defScope st) f cdv A outer s H E).nox (defBody st) body) : FnOk P w K mg base CX0 (k + 1) f fd ps (liftSpF K (mDefF ps.length (N.length - ps.length) body)) := by
 subst_eqs
 refine F.ok S (fun vs H Q E h_ => ?_) (fun cdv A outer s H vs Q E hr h_ => ?_) <;> obtain ⟨ι, ss, C, r, C', cr, rs, e, q⟩ := h_
 ·unfold mDefF at e
  by_cases h : ss.length = ps.length
  ·rw [← RepSs.length rs]; exact h
  ·rw [if_neg h] at e; cases e
 ·refine ⟨_, hbody cdv A outer s H E hr, ?_⟩
  unfold mDefF at e
  by_cases h : ss.length = ps.length
  case neg => rw [if_neg h] at e; cases e
  rw [if_pos h] at e
  have sr := sr_start (N := N) cr rs
  rw [h] at sr
  cases hb : body (ss.map some ++ List.replicate (N.length - ps.length) none) C with
  | none => rw [hb] at e; cases e
  | some z =>
   obtain ⟨fl, C2⟩ := z
   rw [hb] at e
   refine ⟨ι, _, C, fl, C2, sr, hb, ?_⟩
   cases fl with
   | rf ps' =>
    intro ι2 p' vs' H' x c hp rs'
    cases e
    have hs : ∀ b o, H' b = some o -> b ∉ ι ++ ι2 -> b ∉ ι := fun b o _ z q => z (List.mem_append_left _ q)
    exact q p' vs' H' x.1 (c.cut cr.len) hp (Reps.cells hs _ _ rs')
   | _ => cases e
end
end Pu
namespace Pu
open PySem PySem.Spec L2
open PyProof.Rows hiding St Fr
section
variable {X : Cx}
variable {a b e c : Expr} {es : List Expr} {fa fb fc : PSt -> M SV} {pos p : Pos} {x : Str}
theorem ZaG (ha : QEM X a fa) (hb : QEM X b fb) : QEM X (.BinOp a .Add b pos) (mOp (g2 addP) fa fb) := by
 subst_eqs
 exact em_op op_addAll add_ok.r ha hb
theorem q_em_sub (ha : QEM X a fa) (hb : QEM X b fb) : QEM X (.BinOp a .Sub b pos) (mOp (g2 subP) fa fb) := by
 subst_eqs
 exact em_op op_sub (ZbX fun _ _ _ _ => repI).r ha hb
theorem ZaS (ha : QEM X a fa) (hb : QEM X b fb) : QEM X (.BinOp a .Mult b pos) (mOp (g2 mulP) fa fb) := by
 subst_eqs
 exact em_op op_mul (int_ok fun i j h => by
   rw [Bool.or_eq_true] at h
   rcases h with h | h
   ·exact .inl (of_decide_eq_true h)
   ·exact .inr (of_decide_eq_true h)).r ha hb
theorem Zav (ha : QEM X a fa) (hb : QEM X b fb) : QEM X (.BinOp a .Mod b pos) (mOp (g2 modP) fa fb) := by
 subst_eqs
 exact em_op op_mod (int_ok fun i j h => of_decide_eq_true h).r ha hb
theorem Zbl (ha : QEM X a fa) (hb : QEM X b fb) : QEM X (.BinOp a .Pow b pos) (mOp (g2 powP) fa fb) := by
 subst_eqs
 exact em_op op_pow (int_ok fun i j h => by
   have h := of_decide_eq_true h
   exact ⟨h.1, Int.le_trans h.2.1 (by decide), h.2.2⟩).r ha hb
end
section
variable {X : Cx} {a b e c o : Expr} {es : List Expr} {fa fb fc fo : PSt -> M SV} {fs : PSt -> M (List SV)} {pos p apos cpos : Pos} {x : Str}
theorem Zaw (hgl : Gl X "isinstance") (hm : X.mg "isinstance" = none) (hv : bootBuiltins "isinstance" = some (.builtin "isinstance")) (ha : QAM X (e :: es) fs)
  (he : starEach (e :: es) X.env = (false, eval e X.env) :: starEach es X.env := by rfl) (hpl : (backTo pos (starEach es X.env)).any (·.1) = false := by rfl) : QEM X (.Call (.Name "isinstance" p) (e :: es) [] pos) (mCB (g1 isiH) fs) := by
 subst_eqs
 exact Zbs call_isi isi_ok.c hgl hm hv ha (by decide) (by decide) he hpl
theorem ZaF (hgl : Gl X "len") (hm : X.mg "len" = none) (ha : QAM X (e :: es) fs)
  (he : starEach (e :: es) X.env = (false, eval e X.env) :: starEach es X.env := by rfl) (hpl : (backTo pos (starEach es X.env)).any (·.1) = false := by rfl) : QEM X (.Call (.Name "len" p) (e :: es) [] pos) (mCB (g1 lenH) fs) := by
 subst_eqs
 exact Zbs call_len len_ok.c hgl hm PySem.boot_len ha (by decide) (by decide) he hpl
theorem q_em_max (hc : X.calm = true) (hgl : Gl X "max") (hm : X.mg "max" = none) (hv : bootBuiltins "max" = some (.builtin "max")) (ha : QAM X (e :: es) fs)
  (he : starEach (e :: es) X.env = (false, eval e X.env) :: starEach es X.env := by rfl) (hpl : (backTo pos (starEach es X.env)).any (·.1) = false := by rfl) : QEM X (.Call (.Name "max" p) (e :: es) [] pos) (mCB (g1 maxH) fs) := by
 subst_eqs
 exact Zbs (call_max2 hc) max_ok.c hgl hm hv ha (by decide) (by decide) he hpl
theorem q_em_min (hc : X.calm = true) (hgl : Gl X "min") (hm : X.mg "min" = none) (hv : bootBuiltins "min" = some (.builtin "min")) (ha : QAM X (e :: es) fs)
  (he : starEach (e :: es) X.env = (false, eval e X.env) :: starEach es X.env := by rfl) (hpl : (backTo pos (starEach es X.env)).any (·.1) = false := by rfl) : QEM X (.Call (.Name "min" p) (e :: es) [] pos) (mCB (g1 minH) fs) := by
 subst_eqs
 exact Zbs (call_min2 hc) min_ok.c hgl hm hv ha (by decide) (by decide) he hpl
theorem q_em_intc (hgl : Gl X "int") (hm : X.mg "int" = none) (hv : bootBuiltins "int" = some (.type "int")) (ha : QAM X (e :: es) fs)
  (he : starEach (e :: es) X.env = (false, eval e X.env) :: starEach es X.env := by rfl) (hpl : (backTo pos (starEach es X.env)).any (·.1) = false := by rfl) : QEM X (.Call (.Name "int" p) (e :: es) [] pos) (mCB (g1 intH) fs) := by
 subst_eqs
 exact Zbr call_int1 intc_ok.c hgl hm hv ha (by decide) (by decide) he hpl
theorem q_em_tupc (hgl : Gl X "tuple") (hm : X.mg "tuple" = none) (hv : bootBuiltins "tuple" = some (.type "tuple")) (ha : QAM X (e :: es) fs)
  (he : starEach (e :: es) X.env = (false, eval e X.env) :: starEach es X.env := by rfl) (hpl : (backTo pos (starEach es X.env)).any (·.1) = false := by rfl) : QEM X (.Call (.Name "tuple" p) (e :: es) [] pos) (mCB (g1 tupH) fs) := by
 subst_eqs
 exact Zbr call_tuple_of tup_ok.c hgl hm hv ha (by decide) (by decide) he hpl
theorem q_em_all (hc : X.calm = true) (hgl : Gl X "all") (hm : X.mg "all" = none) (hv : bootBuiltins "all" = some (.builtin "all")) (ha : QAM X (e :: es) fs)
  (he : starEach (e :: es) X.env = (false, eval e X.env) :: starEach es X.env := by rfl) (hpl : (backTo pos (starEach es X.env)).any (·.1) = false := by rfl) : QEM X (.Call (.Name "all" p) (e :: es) [] pos) (mCB (g1 allH) fs) := by
 subst_eqs
 exact Zbs (call_all_bl hc) all_ok.c hgl hm hv ha (by decide) (by decide) he hpl
end
section
variable {X : Cx} {a b e c o i : Expr} {es : List Expr} {fa fb fc fo fi fv : PSt -> M SV} {fs : PSt -> M (List SV)} {pos p apos cpos : Pos} {x : Str}
theorem ZbR (ho : QEM X o fo) (ha : QAM X (e :: es) fs) (hbase : attributeBase o "append" X.env (eval o X.env) = eval o X.env := by rfl)
  (hfew : ((backTo cpos (starEach (e :: es) X.env)).all (fun x => !x.1) && (backToKw cpos (keywordEach [] X.env)).all (fun x => x.1.isSome)
   && decide ((e :: es).length + ([] : List Keyword).length + (if ([] : List Keyword).isEmpty then 0 else 1) < 30)) = true := by rfl)
  (hline : (apos.endLine == cpos.line) = true := by rfl) (hs : starEach (e :: es) X.env = (false, eval e X.env) :: starEach es X.env := by rfl) (hplain : (backTo cpos (starEach es X.env)).any (·.1) = false := by rfl) :
  QEM X (.Call (.Attribute o "append" apos) (e :: es) [] cpos) (mApp fo fs) := by
 subst_eqs
 exact PE.imp (pe_bm PySem.F.plainAttrs_list PySem.F.slot_list_append PySem.F.type_list_append mt_append ho ha hbase hfew hline hs hplain) fun σ H Q h_ => by
    obtain ⟨ι, ρ, C, z, C', sr, e, q⟩ := h_
    obtain ⟨x, C1, e1, g1⟩ := Zaf e
    obtain ⟨u, C2, e2, g2⟩ := Zaf g1
    obtain ⟨ys, C3, e3, g3⟩ := Zaf g2
    obtain ⟨hC, k, ps0, hx, hc0⟩ := isLst_some e2
    obtain ⟨k', p', ps, hx', hy, hc, hl, hr, hC'⟩ := appC_some g3
    clear e g1 g2 g3 e2
    subst hC hx hr hC' hy
    cases hx'
    refine ⟨ι, ρ, C, _, _, sr, e1, fun v H1 f1 c1 r1 => ?_⟩
    obtain ⟨a, rfl, hk⟩ := r1
    obtain ⟨vs0, h0, _⟩ := cell_lst c1 hk hc0
    refine ⟨.inl ⟨rfl, _, .of h0⟩, ι, ρ, _, _, C3, sr.step f1 c1, e3, fun ws H2 f2 c2 r2 => ?_⟩
    obtain ⟨w, wr, rfl, rw1, hw⟩ := r2
    cases (show wr = [] from hw)
    obtain ⟨vs, h1, rv⟩ := cell_lst c2 hk hc
    obtain ⟨c4, f4⟩ := cr_set c2 hk (rv.append (.cons rw1 .nil))
    exact ⟨a, vs, w, rfl, rfl, h1, by rw [← rv.length]; exact Nat.lt_of_lt_of_le hl (k100000 (Nat.le_refl _)), q _ _ (f1.trans (f2.trans f4)) c4 (show Rep _ _ _ _ _ from repN)⟩
theorem Zb9 {spos : Pos} (hv : QEM X e fv) (ho : QEM X o fo) (hi : QEM X i fi)
  (ha : ∀ v, assign (.Subscript o i spos) X.env v = (do
   let ov ← holding [v] (eval o X.env)
   let iv ← holding [v, ov] (eval i X.env)
   standAt spos
   holding [v, ov, iv] (setItem ov iv v)
   release [v, ov, iv] []) := by intro _; rfl)
  (hs : swapsWithSole [.Subscript o i spos] e pos.line X.env = pure false := by rfl) (hw : swappedStores [.Subscript o i spos] e X.env = pure none := by rfl)
  (h1 : (assignEach [.Subscript o i spos] X.env).map (·.2) = [assign (.Subscript o i spos) X.env] := by rfl) : QSM X (.Assign [.Subscript o i spos] e pos) (mSetIx fv fo fi) := by
 subst_eqs
 exact PS.imp (ps_asg hv (pg_sub ho hi set_list ha) hs hw h1) fun D σ H h_ => by
    obtain ⟨ι, ρ, C, fl, C', sr, e, d⟩ := h_
    obtain ⟨v, C1, e1, g1⟩ := Zaf e
    obtain ⟨o, C2, e2, g2⟩ := Zaf g1
    obtain ⟨i, C3, e3, g3⟩ := Zaf g2
    obtain ⟨k, n, p', ps, j, ho, hi, hv, hc, hj, hf, hC⟩ := setC_some g3
    clear e g1 g2 g3
    subst ho hi hv hf hC
    refine ⟨ι, ρ, C, _, C1, sr, e1, fun x H1 f1 c1 r1 => ⟨ι, ρ, C1, _, C2, sr.step f1 c1, e2, fun y H2 f2 c2 r2 => ⟨ι, ρ, C2, _, C3, (sr.step f1 c1).step f2 c2, e3, fun w H3 f3 c3 r3 => ?_⟩⟩⟩
    obtain ⟨a, rfl, hk⟩ := r2
    have r3 : w = .int n := by unfold RepS Rep at r3; exact r3
    obtain ⟨vs, h1, rv⟩ := cell_lst c3 hk hc
    have r1' : Rep X.K ι H3 p' x := Rep.mono c2 f3 _ _ (Rep.mono c1 f2 _ _ r1)
    obtain ⟨c4, f4⟩ := cr_set c3 hk (rv.set j r1')
    refine ⟨a, vs, n, j, rfl, r3, h1, by rw [← rv.length]; exact hj, ?_⟩
    exact Done.nx0 ((((sr.step f1 c1).step f2 c2).step f3 c3).step f4 c4) (d.fr c4 (f1.trans (f2.trans (f3.trans f4))))
variable {tg l : Expr}
theorem Za5 (hl : QEM X l fa) : QIM X tg l (mItems fa) := by
 subst_eqs
 intro pins s σ H R I h
 obtain ⟨ι, ρ, C, xs, C', sr, e, q⟩ := h
 obtain ⟨x, C1, e1, e⟩ := Zaf e
 obtain ⟨e2, rfl⟩ := Zas e
 refine thn (hl pins s σ H (fun v H1 => Fr ι H H1 /\ CR X.K ι H1 C' /\ RepS X.K ι H1 x v) I ⟨ι, ρ, C, x, C', sr, e1, fun v H1 f1 c1 r1 => ⟨f1, c1, r1⟩⟩) fun v s1 h_ => ?_
 obtain ⟨y, H1, I1, r1, f1, c1, rx⟩ := h_
 have fp : ∀ b ∈ [s1.heap.objs.size], FpOk X pins H1 b := fun b hb => by
  have e : b = s1.heap.objs.size := by simpa using hb
  subst e
  exact I1.fpOk (Nat.le_refl _) (I1.hok.fresh (Nat.le_refl _))
 unfold itemsP at e2
 split at e2
 ·cases e2
  have rx : Rep X.K ι H1 (.lst _) y := rx
  unfold Rep at rx
  obtain ⟨a, vs, rfl, hq, rv⟩ := rx
  cases r1
  obtain ⟨its, _, p, hz⟩ := I1.list hq.sq
  refine wpAny_pyIter_list p.isList ?_
  exact ⟨s1.heap.objs.size, [s1.heap.objs.size], _, _, H1, rfl, I1.kept (t' := s1.toks) fun b o e => Heap.get?_push_of_some _ e, turn_list a _, ⟨_, Heap.get?_push_size _ rfl, rfl, rfl⟩, fp, q _ H1 f1 c1 (iter_list c1 hq rv)⟩
 ·cases e2
  have rx : Rep X.K ι H1 (.tup _) y := rx
  unfold Rep at rx
  obtain ⟨a, vs, rfl, hq, rv⟩ := rx
  cases r1
  obtain ⟨its, _, p, hz⟩ := I1.tuple hq.sq
  refine wpAny_pyIter_tuple (show s1.heap.IsTuple a its.toArray from p) ?_
  exact ⟨s1.heap.objs.size, [s1.heap.objs.size], _, _, H1, rfl, I1.kept (t' := s1.toks) fun b o e => Heap.get?_push_of_some _ e, turn_tuple a _, ⟨_, Heap.get?_push_size _ rfl, rfl, rfl⟩, fp, q _ H1 f1 c1 (iter_tup c1 hq.sq rv)⟩
 ·cases e2
  have rx : Rep X.K ι H1 (.str _) y := rx
  rename Str => z
  unfold Rep at rx
  obtain ⟨rfl, hz⟩ := rx
  obtain ⟨t, rfl⟩ := r1
  cases ha : z.cps.all (· < 128)
  ·exact wpAny_pyIter_wide ha ⟨s1.heap.objs.size, [s1.heap.objs.size], _, _, H1, rfl, I1.kept (t' := s1.toks) fun b o e => Heap.get?_push_of_some _ e, turn_str (t := t) (.inr rfl), ⟨_, Heap.get?_push_size _ rfl, rfl, rfl⟩, fp, q _ H1 f1 c1 iter_str⟩
  ·exact wpAny_pyIter_ascii ha ⟨s1.heap.objs.size, [s1.heap.objs.size], _, _, H1, rfl, I1.kept (t' := s1.toks) fun b o e => Heap.get?_push_of_some _ e, turn_str (t := t) (.inl rfl), ⟨_, Heap.get?_push_size _ rfl, rfl, rfl⟩, fp, q _ H1 f1 c1 iter_str⟩
 ·cases e2
theorem ZbO (hg : Gl X "range") (hm : X.mg "range" = none) (ha : QAM X [a] fs) (hs : starEach [a] X.env = [(false, eval a X.env)] := by rfl) : QIM X tg (.Call (.Name "range" p) [a] [] pos) (mRange1 fs) := by
 subst_eqs
 exact PI.imp (pi_range1 hg hm ha hs) fun σ H R h_ => by
    obtain ⟨ι, ρ, C, xs, C', sr, e, q⟩ := h_
    obtain ⟨zs, C1, e1, g1⟩ := Zaf e
    obtain ⟨e2, hC⟩ := Zas g1
    subst hC
    refine ⟨ι, ρ, C, zs, _, sr, e1, fun vs H1 f1 c1 r1 => ?_⟩
    obtain ⟨j, rfl, h, rfl⟩ := rng1_some e2
    obtain ⟨v, w, rfl, r1, hw⟩ := r1
    cases (show w = [] from hw)
    have r1 : v = .int j := by unfold RepS Rep at r1; exact r1
    subst r1
    exact ⟨j, rfl, by lia, by lia, q _ H1 f1 c1 iter_range⟩
end
section
variable {X : Cx} {a b e c o i : Expr} {es : List Expr} {fa fb fc fo fi fv : PSt -> M SV} {fs : PSt -> M (List SV)} {pos p apos cpos p2 : Pos} {x : Str} {lo hi : Option Expr} {l h : PSt -> M (Option Int)}
theorem ZaZ : QOM X none oNo := by
 subst_eqs
 exact PO.imp po_none fun σ H Q h_ => by obtain ⟨ι, ρ, C, r, C', sr, e, q⟩ := h_; cases e; exact q H .refl sr.cr
theorem ZaY (he : QEM X e fa) : QOM X (some e) (oPart fa) := by
 subst_eqs
 exact PO.imp (po_some he) fun σ H Q h_ => by
   obtain ⟨ι, ρ, C, r, C', sr, e, q⟩ := h_
   obtain ⟨z, C1, e1, g1⟩ := Zaf e
   obtain ⟨e2, hC⟩ := Zas g1
   subst hC
   refine ⟨ι, ρ, C, z, _, sr, e1, fun v H1 f1 c1 r1 => ?_⟩
   unfold intD at e2
   split at e2
   ·rename_i j hd
    cases e2
    have l := r1.lies c1 hd
    cases l
    exact ⟨j, rfl, q H1 f1 c1⟩
   ·cases e2
theorem Za0 (he : QEM X e fa) (hl : QOM X lo l) (hh : QOM X hi h) : QEM X (.Subscript e (.Slice lo hi none p2) pos) (mSlice fa l h) := by
 subst_eqs
 exact PE.imp (pe_slice (SlR.or sl_list (SlR.or sl_tup sl_tupW)) he hl hh) fun σ H Q h_ => by
    obtain ⟨ι, ρ, C, z, C', sr, e, q⟩ := h_
    obtain ⟨x, C1, e1, g1⟩ := Zaf e
    obtain ⟨i, C2, e2, g2⟩ := Zaf g1
    obtain ⟨j, C3, e3, g3⟩ := Zaf g2
    obtain ⟨e4, hC⟩ := Zas g3
    subst hC
    clear e g1 g2 g3
    refine ⟨ι, ρ, C, x, C1, sr, e1, fun v H1 f1 c1 r1 => ⟨ι, ρ, C1, i, C2, sr.step f1 c1, e2, fun H2 f2 c2 => ⟨ι, ρ, C2, j, _, (sr.step f1 c1).step f2 c2, e3, fun H3 f3 c3 => ?_⟩⟩⟩
    have fr := f1.trans (f2.trans f3)
    have r3 := (r1.mono c1 f2).mono c2 f3
    rcases sliceD_some e4 with ⟨xs, hd, rfl⟩ | ⟨xs, hd, rfl⟩
    ·obtain ⟨a, vs, rfl, h1, rv⟩ := liesL (r3.lies c3 hd)
     exact .inl ⟨a, vs, rfl, h1, fun p hp => q _ _ (fr.trans (Fr.new hp)) (c3.new hp) (show Rep _ _ _ _ _ from Zbv c3 hp (reps_cut rv i j))⟩
    ·obtain ⟨a, vs, rfl, h1, rv⟩ := liesT (r3.lies c3 hd)
     by_cases hw : HT.sIx vs.length 0 i = 0 /\ HT.sIx vs.length vs.length j = vs.length
     ·refine .inr (.inr ⟨a, vs, rfl, h1.sq, hw, ?_⟩)
      rw [← rv.length] at hw
      rw [cut_whole hw] at q
      exact q _ H3 fr c3 (show Rep _ _ _ _ _ by unfold Rep; exact ⟨a, vs, rfl, h1, rv⟩)
     ·exact .inr (.inl ⟨a, vs, rfl, h1.sq, hw, fun p hp => q _ _ (fr.trans (Fr.new hp)) (c3.new hp) (show Rep _ _ _ _ _ from ZbU hp (reps_cut rv i j))⟩)
end
section
variable {X : Cx} {a b e c o i : Expr} {es : List Expr} {fa fb fc fo fi fv : PSt -> M SV} {fs : PSt -> M (List SV)} {pos p apos cpos p2 : Pos} {x : Str}
theorem Za1 (ho : QEM X o fo) (ha : QAM X (e :: es) fs) (hbase : attributeBase o "join" X.env (eval o X.env) = eval o X.env := by rfl)
  (hfew : ((backTo cpos (starEach (e :: es) X.env)).all (fun x => !x.1) && (backToKw cpos (keywordEach [] X.env)).all (fun x => x.1.isSome)
   && decide ((e :: es).length + ([] : List Keyword).length + (if ([] : List Keyword).isEmpty then 0 else 1) < 30)) = true := by rfl)
  (hline : (apos.endLine == cpos.line) = true := by rfl) (hs : starEach (e :: es) X.env = (false, eval e X.env) :: starEach es X.env := by rfl) (hplain : (backTo cpos (starEach es X.env)).any (·.1) = false := by rfl) :
  QEM X (.Call (.Attribute o "join" apos) (e :: es) [] cpos) (mMt "str" joinH fo fs) := by
 subst_eqs
 exact em_mt PySem.F.plainAttrs_str PySem.F.slot_str_join PySem.F.type_str_join mt_join join_ok ho ha hbase hfew hline hs hplain
theorem Zal (hu : X.A.units + 1 < cLine) (ha : QEM X a fa) (hb : QEM X b fb) (hs : PlainIx b := by exact fun _ _ => rfl) : QEM X (.Subscript a b pos) (mOp (g2 ixQ) fa fb) := by
 subst_eqs
 exact em_ix (IxR.or ix_seq (ix_dict hu)) ixQ_ok.r ha hb hs
end
section
variable {X : Cx} {a b e c o i : Expr} {es : List Expr} {fa fb fc fo fi fv : PSt -> M SV} {fs : PSt -> M (List SV)} {pos p apos cpos p2 : Pos} {x : Str} {d : Addr} {tab : List (Str × Addr)}
theorem ZbI (hg : Gl X x) (hm : X.mg x = some (.ref d)) (hd : (x == ("__debug__" : Str)) = false := by decide) : QEM X (.Name x pos) (mC (.fn d)) := by
 subst_eqs
 exact Za6 (pe_glob (v := .ref d) hg hm rfl hd) fun ι H => by unfold Rep; rfl
theorem Zca (T : TopD X.K X.w d tab) (ha : QEM X a fa) (hb : QEM X b fb) (hs : PlainIx b := by exact fun _ _ => rfl) : QEM X (.Subscript a b pos) (mOp (topG d tab) fa fb) := by
 subst_eqs
 exact em_ix (ix_top T) topG_ok ha hb hs
theorem Zce {k : Nat} {T : List (Addr × (List SV -> M SV))} (i : Nat) (hok : ∀ a F, T.lookup a = some F -> ∃ fd ps, FnOk X.prog X.w X.K X.mg X.base CX0 k a fd ps (liftSp X.K F) /\ W.keepIn X.K (.ref a) = true /\ L2.Binds X.K fd ps []) (hr : Room k X.A) (ha : QAM X (e :: es) fs)
  (hN : X.N[i]? = some x := by rfl) (hv : Vis X.env.scope x := by first | exact Or.inl rfl | exact Or.inr (Or.inl rfl) | exact Or.inr (Or.inr rfl)) (hdb : (x == ("__debug__" : Str)) = false := by decide) (hcd : (x == ("__classdict__" : Str)) = false := by decide)
  (he : starEach (e :: es) X.env = (false, eval e X.env) :: starEach es X.env := by rfl) (hpl : (backTo pos (starEach es X.env)).any (·.1) = false := by rfl) :
  QEM X (.Call (.Name x p) (e :: es) [] pos) (mCallV i T fs) := by
 subst_eqs
 intro pins s σ H Q I h_
 obtain ⟨ι, ρ, C, z, C', sr, e, q⟩ := h_
 obtain ⟨f, C1, e1, g1⟩ := Zaf e
 obtain ⟨xs, C2, e2, g2⟩ := Zaf g1
 obtain ⟨a, F, rfl, hT, e3⟩ := callV_some g2
 obtain ⟨fd, ps, G, hk, hb⟩ := hok a F hT
 refine wpAny_Call_Name_kw (thn (em_var i hN hv hdb hcd pins s σ H (fun v H1 => Fr ι H H1 /\ CR X.K ι H1 C1 /\ v = .ref a) I ⟨ι, ρ, C, _, C1, sr, e1, fun v H1 f1 c1 r1 => ⟨f1, c1, by unfold RepS Rep at r1; exact r1⟩⟩) fun u s1 h_ => ?_)
 obtain ⟨v, H1, I1, r1, f1, c1, hv⟩ := h_
 subst hv
 cases r1
 refine W.callWith_K (h₀ := X.base) I.ok.mod.kin hk (thn (ha pos pins s1 σ H1 (fun vs H2 => Fr ι H1 H2 /\ CR X.K ι H2 C2 /\ RepSs X.K ι H2 xs vs) I1 ⟨ι, ρ, C1, xs, C2, sr.step f1 c1, e2, fun vs H2 f2 c2 r2 => ⟨f2, c2, r2⟩⟩) fun us s2 ⟨vs, H2, I2, r2, f2, c2, rs⟩ => ⟨I2.kIn, ?_⟩) he hpl
 refine run_fn (dvs := []) (ds := []) G hr hb .nil pass0 I2 r2 ?_
 rw [List.append_nil]
 exact ⟨ι, xs, C2, z, C', c2, rs, e3, fun v H3 f3 c3 r3 => q v H3 (f1.trans (f2.trans f3)) c3 r3⟩
end
theorem q_im_zip {X : Cx} {a b : Expr} {fs : PSt -> M (List SV)} {elts : List Expr} {x1 : Nat} {tpos p pos : Pos} (hg : Gl X "zip") (hm : X.mg "zip" = none) (ha : QAM X [a, b] fs)
  (hs : starEach [a, b] X.env = [(false, eval a X.env), (false, eval b X.env)] := by rfl) (hs2 : starEach [b] X.env = [(false, eval b X.env)] := by rfl) : QIM X (.Tuple elts x1 tpos) (.Call (.Name "zip" p) [a, b] [] pos) (mZip fs) := by
 subst_eqs
 intro pins s σ H R I h_
 obtain ⟨ι, ρ, C, xs, C', sr, e, q⟩ := h_
 obtain ⟨zs, C1, e1, g1⟩ := Zaf e
 obtain ⟨e2, hC⟩ := Zas g1
 subst hC
 obtain ⟨x, y, ps, qs, rfl, hx, hy, rfl⟩ := zipP_some e2
 refine Call_ (Zci I hg hm (by rfl) (PyProof.Rows.callWith_type1 (thn (ha pos pins s σ H (fun vs H1 => Fr ι H H1 /\ CR X.K ι H1 C' /\ RepSs X.K ι H1 [x, y] vs) I ⟨ι, ρ, C, _, C', sr, e1, fun vs H1 f1 c1 r1 => ⟨f1, c1, r1⟩⟩) fun us s1 ⟨vs, H1, I1, r1, f1, c1, rs⟩ => ?_) (by rw [hs, hs2]) (by rw [hs2]; rfl)))
 obtain ⟨v1, w, rfl, rx, hw⟩ := rs
 obtain ⟨v2, w2, rfl, ry, hw⟩ := hw
 cases (show w2 = [] from hw)
 obtain ⟨u1, u2, rfl, ru1, ru2⟩ := Vals.two r1
 obtain ⟨S1, rfl, hS1, Z1⟩ := src_of I1 c1 rx hx ru1
 obtain ⟨S2, rfl, hS2, Z2⟩ := src_of I1 c1 ry hy ru2
 refine callType_new PySem.F.called_zip (by decide) (PySem.F.typeCall_zip_2 _ _) (PySem.F.newCall_zip_2 _ _) (fun obj => PySem.F.args_object_init_3 obj _ _) PySem.F.entry_zip_new (zip_new S1 S2) ⟨hS1, hS2, ?_⟩
 have z1 : (s1.heap.push S1.obj).objs.size = s1.heap.objs.size + 1 := Heap.size_push ..
 have z2 : ((s1.heap.push S1.obj).push S2.obj).objs.size = s1.heap.objs.size + 2 := by rw [Heap.size_push, z1]
 have z3 : (zH3 s1.heap S1 S2).objs.size = s1.heap.objs.size + 3 := by rw [Heap.size_push, z2]
 have z4 : (zH4 s1.heap S1 S2).objs.size = s1.heap.objs.size + 4 := by rw [Heap.size_push, z3]
 have up : ∀ c o, s1.heap.get? c = some o -> (zH5 s1.heap S1 S2).get? c = some o := fun c o x => Heap.get?_push_of_some _ (Heap.get?_push_of_some _ (Heap.get?_push_of_some _ (Heap.get?_push_of_some _ (Heap.get?_push_of_some _ x))))
 have g5 : (zH5 s1.heap S1 S2).get? (zH4 s1.heap S1 S2).objs.size = some _ := Heap.get?_push_size _ rfl
 have g4 : (zH5 s1.heap S1 S2).get? (zH3 s1.heap S1 S2).objs.size = some _ := Heap.get?_push_of_some _ (Heap.get?_push_size _ rfl)
 have g3 : (zH5 s1.heap S1 S2).get? ((s1.heap.push S1.obj).push S2.obj).objs.size = some _ := Heap.get?_push_of_some _ (Heap.get?_push_of_some _ (Heap.get?_push_size _ rfl))
 have g2 : (zH5 s1.heap S1 S2).get? (s1.heap.push S1.obj).objs.size = some _ := Heap.get?_push_of_some _ (Heap.get?_push_of_some _ (Heap.get?_push_of_some _ (Heap.get?_push_size _ (by cases S2 <;> rfl))))
 have g1 : (zH5 s1.heap S1 S2).get? s1.heap.objs.size = some _ := Heap.get?_push_of_some _ (Heap.get?_push_of_some _ (Heap.get?_push_of_some _ (Heap.get?_push_of_some _ (Heap.get?_push_size _ (by cases S1 <;> rfl)))))
 show _ /\ _
 rw [z2, z3, z4] at g5
 rw [z1, z2] at g3
 rw [z3] at g4
 rw [z1] at g2
 rw [z4]
 have at0 : ∀ {S : ZS} {it : Addr} {h : Heap}, h.get? it = some S.obj -> S.at' it 0 h := fun {S it h} e => by
  cases S with
  | l a => exact ⟨_, e, rfl, rfl⟩
  | t a => exact ⟨_, e, rfl, rfl⟩
  | s z tk wd => exact ⟨_, e, rfl, rfl⟩
 have J : Inv X pins σ H1 { s1 with heap := zH5 s1.heap S1 S2 } := I1.kept (t' := s1.toks) up
 refine ⟨⟨_, g5, rfl⟩, wpAny_pyIter_zip g5 ⟨s1.heap.objs.size + 4, [s1.heap.objs.size + 4, s1.heap.objs.size + 2, s1.heap.objs.size + 3, s1.heap.objs.size, s1.heap.objs.size + 1], _, _, H1, rfl, J,
  turn_zip (S1 := S1) (S2 := S2) (zne s1.heap.objs.size), ⟨g5, g3, ⟨_, _, g4⟩, at0 g1, at0 g2⟩, fun b hb => ?_, q _ H1 f1 c1 (iter_zip Z1 Z2)⟩⟩
 have hb' : s1.heap.objs.size <= b := by
  simp only [List.mem_cons, List.not_mem_nil, or_false] at hb
  rcases hb with rfl | rfl | rfl | rfl | rfl <;> lia
 exact I1.fpOk hb' (I1.hok.fresh hb')
end Pu
namespace Pu
open PySem PySem.Spec PySem.W PySem.Calls L2
open PyProof.Rows hiding St Fr
section
variable {X : Cx} {a b e : Expr} {fa fb : PSt -> M SV} {pos p : Pos} {es : List Expr} {fs : PSt -> M (List SV)}
theorem ZbQ (ha : QEM X a fa) (hb : QEM X b fb) : QEM X (.BinOp a .Mult b pos) (mOp (g2 mulSP) fa fb) := by
 subst_eqs
 exact em_op op_mulS mulS_ok.r ha hb
end
end Pu
namespace Pu
open PySem PySem.Spec L2
open PyProof.Rows hiding St Fr
section
variable {X : Cx} {l : Expr} {elts : List Expr} {x1 : Nat} {tpos p pos : Pos}
theorem q_im_enum {fs : PSt -> M (List SV)} (hg : Gl X "enumerate") (hm : X.mg "enumerate" = none) (ha : QAM X [l] fs) (hs : starEach [l] X.env = [(false, eval l X.env)] := by rfl) : QIM X (.Tuple elts x1 tpos) (.Call (.Name "enumerate" p) [l] [] pos) (mEnum fs) := by
 subst_eqs
 exact PI.imp (pi_enum hg hm ha hs) fun σ H R h_ => by
    obtain ⟨ι, ρ, C, xs, C', sr, e, q⟩ := h_
    obtain ⟨zs, C1, e1, g1⟩ := Zaf e
    obtain ⟨e2, hC⟩ := Zas g1
    subst hC
    refine ⟨ι, ρ, C, zs, _, sr, e1, fun vs H1 f1 c1 r1 => ?_⟩
    unfold enumP at e2
    split at e2
    ·cases e2
     obtain ⟨v, w, rfl, r1, hw⟩ := r1
     cases (show w = [] from hw)
     replace r1 : Rep X.K ι H1 (.lst _) v := r1
     unfold Rep at r1
     obtain ⟨a, vs, rfl, hq, rv⟩ := r1
     exact ⟨a, rfl, ⟨vs, hq.sq⟩, q _ H1 f1 c1 (iter_enum c1 hq rv)⟩
    ·cases e2
end
end Pu
namespace Pu
open PySem PySem.Spec PySem.W PySem.Calls L2
open PyProof.Rows hiding St Fr strKind
open PySem.Builtin.Str (partsBetween occurrences strKind)
section
variable {X : Cx} {e : Expr} {es : List Expr} {f : PSt -> M SV} {fs : PSt -> M (List SV)} {p pos : Pos}
theorem q_sm_raise {a b : Option Expr} : QSM X (.Raise a b pos) mNo := by
 subst_eqs
 exact fun pins s σ H D I h_ => by obtain ⟨ι, ρ, C, fl, C', sr, e, d⟩ := h_; cases e
theorem q_em_strc (hgl : Gl X "str") (hm : X.mg "str" = none) (hv : bootBuiltins "str" = some (.type "str")) (ha : QAM X (e :: es) fs)
  (he : starEach (e :: es) X.env = (false, eval e X.env) :: starEach es X.env := by rfl) (hpl : (backTo pos (starEach es X.env)).any (·.1) = false := by rfl) : QEM X (.Call (.Name "str" p) (e :: es) [] pos) (mCB (g1 strH) fs) := by
 subst_eqs
 exact Zbr call_strR strc_ok.c hgl hm hv ha (by decide) (by decide) he hpl
theorem q_em_intT (hgl : Gl X "int") (hm : X.mg "int" = none) (hv : bootBuiltins "int" = some (.type "int")) (ha : QAM X (e :: es) fs)
  (he : starEach (e :: es) X.env = (false, eval e X.env) :: starEach es X.env := by rfl) (hpl : (backTo pos (starEach es X.env)).any (·.1) = false := by rfl) : QEM X (.Call (.Name "int" p) (e :: es) [] pos) (mCB (g1 intTH) fs) := by
 subst_eqs
 exact Zbr call_intR intT_ok.c hgl hm hv ha (by decide) (by decide) he hpl
variable {o : Expr} {fo : PSt -> M SV} {apos cpos : Pos}
theorem Zcb (ho : QEM X o fo) (ha : QAM X (e :: es) fs) (hbase : attributeBase o "split" X.env (eval o X.env) = eval o X.env := by rfl)
  (hfew : ((backTo cpos (starEach (e :: es) X.env)).all (fun x => !x.1) && (backToKw cpos (keywordEach [] X.env)).all (fun x => x.1.isSome)
   && decide ((e :: es).length + ([] : List Keyword).length + (if ([] : List Keyword).isEmpty then 0 else 1) < 30)) = true := by rfl)
  (hline : (apos.endLine == cpos.line) = true := by rfl) (hs : starEach (e :: es) X.env = (false, eval e X.env) :: starEach es X.env := by rfl) (hplain : (backTo cpos (starEach es X.env)).any (·.1) = false := by rfl) :
  QEM X (.Call (.Attribute o "split" apos) (e :: es) [] cpos) (mMt "str" splitH fo fs) := by
 subst_eqs
 exact em_mt PySem.F.plainAttrs_str PySem.F.slot_str_split PySem.F.type_str_split mt_split split_ok ho ha hbase hfew hline hs hplain
theorem ZbJ (h : QEM X e f) : QEM X (.FormattedValue e (-1) none pos) (mFmt f) := by
 subst_eqs
 intro pins s σ H Q I h_
 obtain ⟨ι, ρ, C, z, C', sr, e0, q⟩ := h_
 obtain ⟨x, C1, e1, g1⟩ := Zaf e0
 obtain ⟨e3, hC⟩ := Zas g1
 subst hC
 refine FormattedValue_plain (thn (h pins s σ H (fun v H1 => Pu.Fr ι H H1 /\ CR X.K ι H1 C' /\ RepS X.K ι H1 x v) I ⟨ι, ρ, C, x, C', sr, e1, fun v H1 f1 c1 r1 => ⟨f1, c1, r1⟩⟩) fun v s1 h_ => ?_)
 obtain ⟨y, H1, I1, r1, f1, c1, rx⟩ := h_
 unfold fmtH at e3
 split at e3
 ·rename_i i hd
  split at e3
  ·rename_i hi
   cases e3
   have l := rx.lies c1 hd
   cases l
   obtain ⟨t, rfl⟩ := r1
   refine formatField_int_small hi ⟨.str _, H1, (I1.tok _).tok _, ⟨_, rfl⟩, q _ H1 f1 c1 (show Rep X.K ι H1 (.str (numS i)) _ from repS (num_fits hi))⟩
  ·cases e3
 ·rename_i y hd
  cases e3
  obtain ⟨rfl, hy⟩ := liesS (rx.lies c1 hd)
  obtain ⟨t, rfl⟩ := r1
  exact formatField_str (fun t' tk => ⟨.str _, H1, I1.tok _, ⟨_, rfl⟩, q _ H1 f1 c1 (show Rep X.K ι H1 (.str y) _ from repS hy)⟩) hy
 ·cases e3
theorem q_em_joined1 (h : QEM X e f) : QEM X (.JoinedStr [e] pos) f := by
 subst_eqs
 exact fun pins s σ H Q I q => JoinedStr_one (h pins s σ H Q I q)
theorem q_jm_nil : QJM X [] aNil := by
 subst_eqs
 exact fun pins s σ H Q out I h_ => by
   obtain ⟨ι, ρ, C, xs, C', z, sr, e, ez, ho, q⟩ := h_
   cases e
   cases ez
   exact joinParts_nil ⟨.str _, H, I.tok _, ⟨_, rfl⟩, q H .refl sr.cr (repS (k1000000 ho))⟩ (k1000000 ho)
theorem Za9 {f : PSt -> M SV} {g : PSt -> M (List SV)} (h : QEM X e f) (k : QJM X es g) : QJM X (e :: es) (aCons f g) := by
 subst_eqs
 exact fun pins s σ H Q out I h_ => by
   obtain ⟨ι, ρ, C, xs, C', z, sr, e0, ez, ho, q⟩ := h_
   obtain ⟨x, C1, e1, e2⟩ := Zaf e0
   obtain ⟨ys, C2, e3, e4⟩ := Zaf e2
   cases e4
   have hx : ∃ y : Str, x = .v (.str y) /\ (out ++ y).length <= 1000000 /\ catS (out ++ y) ys = some z := by
    cases x with
    | c k => cases ez
    | v p =>
     cases p with
     | str y =>
      by_cases hl : (out ++ y).length <= 1000000
      ·exact ⟨y, rfl, hl, by rw [catS, if_pos hl] at ez; exact ez⟩
      ·rw [catS, if_neg hl] at ez; cases ez
     | _ => cases ez
   obtain ⟨y, rfl, hl, ez'⟩ := hx
   refine joinParts_cons (thn (h pins s σ H (fun v H1 => Pu.Fr ι H H1 /\ CR X.K ι H1 C1 /\ RepS X.K ι H1 (.v (.str y)) v) I ⟨ι, ρ, C, _, C1, sr, e1, fun v H1 f1 c1 r1 => ⟨f1, c1, r1⟩⟩) fun v s1 h_ => ?_)
   obtain ⟨w, H1, I1, r1, f1, c1, rx⟩ := h_
   have hw : w = .str y := by unfold RepS Rep at rx; exact rx.1
   subst hw
   obtain ⟨t, rfl⟩ := r1
   exact ⟨k1000000 hl, k pins s1 σ H1 Q (out ++ y) I1 ⟨ι, ρ, C1, ys, _, z, sr.step f1 c1, e3, ez', hl, fun H2 f2 c2 r2 => q H2 (f1.trans f2) c2 r2⟩⟩
theorem q_em_joined {e2 : Expr} (h : QJM X (e :: e2 :: es) fs) : QEM X (.JoinedStr (e :: e2 :: es) pos) (mJoined fs) := by
 subst_eqs
 exact fun pins s σ H Q I h_ => by
   obtain ⟨ι, ρ, C, z, C', sr, e0, q⟩ := h_
   obtain ⟨xs, C1, e1, g1⟩ := Zaf e0
   obtain ⟨e3, hC⟩ := Zas g1
   subst hC
   cases hz : catS Str.empty xs with
   | none => rw [hz] at e3; cases e3
   | some y =>
    rw [hz] at e3; cases e3
    exact JoinedStr_many (h pins s σ H Q Str.empty I ⟨ι, ρ, C, xs, _, y, sr, e1, hz, by decide, fun H' f c r => q _ H' f c r⟩)
theorem q_em_mulT {a b : Expr} {fa fb : PSt -> M SV} (ha : QEM X a fa) (hb : QEM X b fb) : QEM X (.BinOp a .Mult b pos) (mOp (g2 mulTP) fa fb) := by
 subst_eqs
 exact em_op op_mulT mulT_ok.r ha hb
theorem q_em_sliceS {lo hi : Option Expr} {l h : PSt -> M (Option Int)} {fa : PSt -> M SV} {p2 : Pos} (he : QEM X e fa) (hl : QOM X lo l) (hh : QOM X hi h) : QEM X (.Subscript e (.Slice lo hi none p2) pos) (mSliceS fa l h) := by
 subst_eqs
 exact PE.imp (pe_slice sl_str he hl hh) fun σ H Q h_ => by
    obtain ⟨ι, ρ, C, z, C', sr, e, q⟩ := h_
    obtain ⟨x, C1, e1, g1⟩ := Zaf e
    obtain ⟨i, C2, e2, g2⟩ := Zaf g1
    obtain ⟨j, C3, e3, g3⟩ := Zaf g2
    obtain ⟨e4, hC⟩ := Zas g3
    subst hC
    clear e g1 g2 g3
    refine ⟨ι, ρ, C, x, C1, sr, e1, fun v H1 f1 c1 r1 => ⟨ι, ρ, C1, i, C2, sr.step f1 c1, e2, fun H2 f2 c2 => ⟨ι, ρ, C2, j, _, (sr.step f1 c1).step f2 c2, e3, fun H3 f3 c3 => ?_⟩⟩⟩
    have fr := f1.trans (f2.trans f3)
    have r3 := (r1.mono c1 f2).mono c2 f3
    unfold sliceSD at e4
    split at e4
    ·rename_i y hd
     cases e4
     obtain ⟨rfl, hy⟩ := liesS (r3.lies c3 hd)
     exact ⟨y, rfl, hy, q _ H3 fr c3 (show Rep X.K ι H3 (.str _) _ from repS (Nat.le_trans (Txt.slice_le _ _ _) hy))⟩
    ·cases e4
theorem q_em_fdivW {a b : Expr} {fa fb : PSt -> M SV} (ha : QEM X a fa) (hb : QEM X b fb) : QEM X (.BinOp a .FloorDiv b pos) (mOp (g2 fdivWP) fa fb) := by
 subst_eqs
 exact em_op op_fdivW (int_ok fun i j h => (of_decide_eq_true h : 0 < j /\ j < 2 ^ 200)).r ha hb
end
end Pu
namespace K82
open PySem PySem.Spec L2 Pu
open PyProof.Rows hiding St Fr
noncomputable def Zat (f_qbd f_qbc f_qbe : Addr) : List (Str × Addr) := [("held", f_qbd), ("kept", f_qbc), ("late", f_qbc), ("ill", f_qbe)]
noncomputable def ZaA (f_qbe f_qbf : Addr) : List (Str × Addr) := [("back", f_qbe), ("twin", f_qbf), ("loose", f_qbe), ("behind", f_qbe), ("ahead", f_qbe)]
noncomputable abbrev B_qba : PSt -> M PF := (mRet (mAndV (mCB (g1 isiH) (aCons (mVar 0) (aCons (mC (.ty "int")) aNil))) (mAndV (mNotV (mCB (g1 isiH) (aCons (mVar 0) (aCons (mC (.ty "bool")) aNil)))) (mOp (g2 geP) (mVar 0) (mVar 1)))))
noncomputable def F_qba : List SV -> M SV := mDef 2 0 (B_qba)
noncomputable abbrev B_qbb : PSt -> M PF := (mRet (mAndV (mFn F_qba (aCons (mVar 0) (aCons (mC (.int 0)) aNil))) (mOp (g2 ltP) (mVar 0) (mVar 1))))
noncomputable def F_qbb : List SV -> M SV := mDef 2 0 (B_qbb)
noncomputable abbrev B_qbg : PSt -> M PF := (mRet (mAndV (mCB (g1 isiH) (aCons (mVar 0) (aCons (mC (.ty "tuple")) aNil))) (mChain (g2 leP) (g2 leP) (mVar 1) (mCB (g1 lenH) (aCons (mVar 0) aNil)) (mVar 2))))
noncomputable def F_qbg : List SV -> M SV := mDef 3 0 (B_qbg)
noncomputable abbrev B_qbh : PSt -> M PF := (mSeq (mIfS (mOrT (mNotT (mTru (mCB (g1 isiH) (aCons (mVar 0) (aCons (mC (.ty "str")) aNil))))) (mNotT (mTest (mChain (g2 leP) (g2 leP) (mC (.int 1)) (mCB (g1 lenH) (aCons (mVar 0) aNil)) (mC (.int 12)))))) (mRet (mC (.bl false))) mSkip) (mRet (mCB (g1 allH) (aCons (mVal (mComp (mItems (mVar 0)) ["sign"] [] (hName 0) tOk (mOp (g2 inP) (mVar 0) (mC (.str "abcdefghijklmnopqrstuvwxyz"))))) aNil))))
noncomputable def F_qbh : List SV -> M SV := mDef 1 0 (B_qbh)
noncomputable abbrev B_qax : PSt -> M PF := (mRet (mFn F_qbb (aCons (mVar 0) (aCons (mC (.int 12)) aNil))))
noncomputable def F_qax : List SV -> M SV := mDef 1 0 (B_qax)
noncomputable abbrev B_qaz : PSt -> M PF := (mRet (mAndV (mFn F_qbg (aCons (mVar 0) (aCons (mC (.int 3)) (aCons (mC (.int 3)) aNil)))) (mAndV (mFn F_qbh (aCons (mOp (g2 ixQ) (mVar 0) (mC (.int 0))) aNil)) (mAndV (mFn F_qbh (aCons (mOp (g2 ixQ) (mVar 0) (mC (.int 1))) aNil)) (mFn F_qba (aCons (mOp (g2 ixQ) (mVar 0) (mC (.int 2))) (aCons (mC (.int 1)) aNil)))))))
noncomputable def F_qaz : List SV -> M SV := mDef 1 0 (B_qaz)
noncomputable abbrev B_qbd : PSt -> M PF := (mRet (mAndV (mOp (g2 eqP) (mCB (g1 lenH) (aCons (mVar 0) aNil)) (mC (.int 3))) (mAndV (mFn F_qaz (aCons (mOp (g2 ixQ) (mVar 0) (mC (.int 0))) aNil)) (mAndV (mFn F_qax (aCons (mOp (g2 ixQ) (mVar 0) (mC (.int 1))) aNil)) (mFn F_qba (aCons (mOp (g2 ixQ) (mVar 0) (mC (.int 2))) (aCons (mC (.int 0)) aNil)))))))
noncomputable def F_qbd : List SV -> M SV := mDef 1 0 (B_qbd)
noncomputable abbrev B_qbc : PSt -> M PF := (mRet (mAndV (mOp (g2 eqP) (mCB (g1 lenH) (aCons (mVar 0) aNil)) (mC (.int 2))) (mAndV (mFn F_qaz (aCons (mOp (g2 ixQ) (mVar 0) (mC (.int 0))) aNil)) (mFn F_qax (aCons (mOp (g2 ixQ) (mVar 0) (mC (.int 1))) aNil)))))
noncomputable def F_qbc : List SV -> M SV := mDef 1 0 (B_qbc)
noncomputable abbrev B_qbe : PSt -> M PF := (mRet (mAndV (mOp (g2 eqP) (mCB (g1 lenH) (aCons (mVar 0) aNil)) (mC (.int 1))) (mFn F_qaz (aCons (mOp (g2 ixQ) (mVar 0) (mC (.int 0))) aNil))))
noncomputable def F_qbe : List SV -> M SV := mDef 1 0 (B_qbe)
noncomputable abbrev B_qbf : PSt -> M PF := (mRet (mAndV (mOp (g2 eqP) (mCB (g1 lenH) (aCons (mVar 0) aNil)) (mC (.int 2))) (mAndV (mFn F_qaz (aCons (mOp (g2 ixQ) (mVar 0) (mC (.int 0))) aNil)) (mFn F_qaz (aCons (mOp (g2 ixQ) (mVar 0) (mC (.int 1))) aNil)))))
noncomputable def F_qbf : List SV -> M SV := mDef 1 0 (B_qbf)
noncomputable def ZaC (f_qbd f_qbc f_qbe f_qbf : Addr) : List (Addr × (List SV -> M SV)) := [(f_qbd, F_qbd), (f_qbc, F_qbc), (f_qbe, F_qbe), (f_qbf, F_qbf)]
noncomputable abbrev B_qaw (d_READ_FORMS f_qbd f_qbc f_qbe d_MARK_FORMS f_qbf : Addr) : PSt -> M PF := (mSeq (mIfS (mOrT (mNotT (mTru (mCB (g1 isiH) (aCons (mVar 0) (aCons (mC (.ty "tuple")) aNil))))) (mOrT (mNotT (mTru (mVar 0))) (mNotT (mTru (mCB (g1 isiH) (aCons (mOp (g2 ixQ) (mVar 0) (mC (.int 0))) (aCons (mC (.ty "str")) aNil))))))) (mRet (mC (.bl false))) mSkip) (mSeq (mIfS (mTest (mOp (topI d_READ_FORMS (Zat f_qbd f_qbc f_qbe) false) (mOp (g2 ixQ) (mVar 0) (mC (.int 0))) (mC (.fn d_READ_FORMS)))) (mSeq (mSet 1 (mOp (topG d_READ_FORMS (Zat f_qbd f_qbc f_qbe)) (mC (.fn d_READ_FORMS)) (mOp (g2 ixQ) (mVar 0) (mC (.int 0))))) (mRet (mCallV 1 (ZaC f_qbd f_qbc f_qbe f_qbf) (aCons (mSlice (mVar 0) (oPart (mC (.int 1))) oNo) aNil)))) mSkip) (mSeq (mIfS (mTest (mOp (topI d_MARK_FORMS (ZaA f_qbe f_qbf) false) (mOp (g2 ixQ) (mVar 0) (mC (.int 0))) (mC (.fn d_MARK_FORMS)))) (mSeq (mSet 1 (mOp (topG d_MARK_FORMS (ZaA f_qbe f_qbf)) (mC (.fn d_MARK_FORMS)) (mOp (g2 ixQ) (mVar 0) (mC (.int 0))))) (mRet (mCallV 1 (ZaC f_qbd f_qbc f_qbe f_qbf) (aCons (mSlice (mVar 0) (oPart (mC (.int 1))) oNo) aNil)))) mSkip) (mRet (mC (.bl false))))))
noncomputable def F_qaw (d_READ_FORMS f_qbd f_qbc f_qbe d_MARK_FORMS f_qbf : Addr) : List SV -> M SV := mDef 1 1 (B_qaw d_READ_FORMS f_qbd f_qbc f_qbe d_MARK_FORMS f_qbf)
noncomputable abbrev B_qbq : PSt -> M PF := (mRetF (mComp (mItems (mMt "str" splitH (mVar 0) (aCons (mC (.str " ")) aNil))) ["word"] [] (hName 0) (mTru (mVar 0)) (mVar 0)))
noncomputable def F_qbq : List SV -> M SV := mDef 1 0 (B_qbq)
noncomputable abbrev B_qay : PSt -> M PF := (mRet (mOrV (mOp (g2 eqP) (mVar 0) (mC (.str "0"))) (mAndV (mOp (g2 neP) (mVar 0) (mC (.str ""))) (mAndV (mOp (g2 neP) (mOp (g2 ixQ) (mVar 0) (mC (.int 0))) (mC (.str "0"))) (mCB (g1 allH) (aCons (mVal (mComp (mItems (mVar 0)) ["sign"] [] (hName 0) tOk (mOp (g2 inP) (mVar 0) (mC (.str "0123456789"))))) aNil))))))
noncomputable def F_qay : List SV -> M SV := mDef 1 0 (B_qay)
noncomputable abbrev B_qbj : PSt -> M PF := (mIfS (mNotT (mTru (mVar 0))) mNo mSkip)
noncomputable def F_qbj : List SV -> M SV := mDef 1 0 (B_qbj)
noncomputable abbrev B_qbo : PSt -> M PF := (mSeq (mAsg (mVar 0) (hTup (hCons (hName 1) (hCons (hName 2) (hCons (hName 3) hNil))) 3)) (mRet (mJoined (aCons (mFmt (mVar 1)) (aCons (mC (.str ".")) (aCons (mFmt (mVar 2)) (aCons (mC (.str ".")) (aCons (mFmt (mVar 3)) aNil))))))))
noncomputable def F_qbo : List SV -> M SV := mDef 1 3 (B_qbo)
noncomputable abbrev B_qbp : PSt -> M PF := (mRet (mIf (mTru (mCB (g1 isiH) (aCons (mVar 0) (aCons (mC (.ty "tuple")) aNil)))) (mFn F_qbo (aCons (mVar 0) aNil)) (mFmt (mVar 0))))
noncomputable def F_qbp : List SV -> M SV := mDef 1 0 (B_qbp)
noncomputable abbrev B_qbn : PSt -> M PF := (mRet (mMt "str" joinH (mC (.str " ")) (aCons (mVal (mComp (mItems (mVar 0)) ["part"] [] (hName 0) tOk (mFn F_qbp (aCons (mVar 0) aNil)))) aNil)))
noncomputable def F_qbn : List SV -> M SV := mDef 1 0 (B_qbn)
noncomputable abbrev B_qbr : PSt -> M PF := (mSeq (mDrop (mFn F_qbj (aCons (mCB (g1 isiH) (aCons (mVar 0) (aCons (mC (.ty "str")) aNil))) aNil))) (mRet (mFn F_qbq (aCons (mVar 0) aNil))))
noncomputable def F_qbr : List SV -> M SV := mDef 1 0 (B_qbr)
noncomputable abbrev B_qbm : PSt -> M PF := (mSeq (mDrop (mFn F_qbj (aCons (mFn F_qay (aCons (mVar 0) aNil)) aNil))) (mRet (mCB (g1 intTH) (aCons (mVar 0) aNil))))
noncomputable def F_qbm : List SV -> M SV := mDef 1 0 (B_qbm)
noncomputable abbrev B_qbl : PSt -> M PF := (mSeq (mSet 1 (mMt "str" splitH (mVar 0) (aCons (mC (.str ".")) aNil))) (mSeq (mDrop (mFn F_qbj (aCons (mOp (g2 eqP) (mCB (g1 lenH) (aCons (mVar 1) aNil)) (mC (.int 3))) aNil))) (mRet (mTup (aCons (mOp (g2 ixQ) (mVar 1) (mC (.int 0))) (aCons (mOp (g2 ixQ) (mVar 1) (mC (.int 1))) (aCons (mFn F_qbm (aCons (mOp (g2 ixQ) (mVar 1) (mC (.int 2))) aNil)) aNil)))))))
noncomputable def F_qbl : List SV -> M SV := mDef 1 1 (B_qbl)
noncomputable abbrev B_qbk (d_READ_FORMS f_qbd f_qbc f_qbe d_MARK_FORMS f_qbf : Addr) : PSt -> M PF := (mSeq (mSet 1 (mFn F_qbr (aCons (mVar 0) aNil))) (mSeq (mSet 2 (mVal (mComp (mItems (mSlice (mVar 1) (oPart (mC (.int 1))) oNo)) ["word"] [] (hName 0) tOk (mIf (mTest (mOp (g2 inP) (mC (.str ".")) (mVar 0))) (mFn F_qbl (aCons (mVar 0) aNil)) (mFn F_qbm (aCons (mVar 0) aNil)))))) (mSeq (mSet 3 (mCB (g1 tupH) (aCons (mOp (g2 addP) (mSlice (mVar 1) oNo (oPart (mC (.int 1)))) (mVar 2)) aNil))) (mSeq (mDrop (mFn F_qbj (aCons (mFn (F_qaw d_READ_FORMS f_qbd f_qbc f_qbe d_MARK_FORMS f_qbf) (aCons (mVar 3) aNil)) aNil))) (mRet (mVar 3))))))
noncomputable def F_qbk (d_READ_FORMS f_qbd f_qbc f_qbe d_MARK_FORMS f_qbf : Addr) : List SV -> M SV := mDef 1 3 (B_qbk d_READ_FORMS f_qbd f_qbc f_qbe d_MARK_FORMS f_qbf)
noncomputable abbrev B_qaa : PSt -> M PF := (mSeq (mIfS (mTest (mOp (g2 ltP) (mVar 1) (mCB (g1 lenH) (aCons (mVar 0) aNil)))) (mRet (mOp (g2 ixQ) (mVar 0) (mVar 1))) mSkip) (mRet (mC (.int 0))))
noncomputable def F_qaa : List SV -> M SV := mDef 2 0 (B_qaa)
noncomputable abbrev B_qag : PSt -> M PF := (mSeq (mSet 2 (mFn F_qaa (aCons (mVar 0) (aCons (mOp (g2 modP) (mVar 1) (mCB (g1 maxH) (aCons (mC (.int 1)) (aCons (mCB (g1 lenH) (aCons (mVar 0) aNil)) aNil)))) aNil)))) (mSeq (mSet 3 (mOp (g2 modP) (mOp (g2 mulP) (mOp (g2 addP) (mOp (g2 addP) (mOp (g2 modP) (mVar 2) (mC (.int 2147483629))) (mOp (g2 mulP) (mOp (g2 mulP) (mC (.int 7919)) (mVar 1)) (mVar 1))) (mC (.int 11))) (mC (.int 48271))) (mC (.int 2147483647)))) (mSeq (mIfS (mTest (mOp (g2 eqP) (mOp (g2 modP) (mFn F_qaa (aCons (mVar 0) (aCons (mC (.int 0)) aNil))) (mC (.int 2))) (mC (.int 0)))) (mSet 2 (mC (.int 0))) mSkip) (mRetF (mLst (aCons (mOp (g2 modP) (mVar 2) (mOp (g2 powP) (mC (.int 10)) (mC (.int 40)))) (aCons (mVar 3) aNil)))))))
noncomputable def F_qag : List SV -> M SV := mDef 2 2 (B_qag)
noncomputable def FF_qag : List SV -> M (List PV) := mDefF 2 2 (B_qag)
noncomputable abbrev B_qao : PSt -> M PF := (mSeq (mIfS (mTest (mOp (g2 gtP) (mOp (g2 ixQ) (mVar 0) (mC (.int 0))) (mC (.int 0)))) (mSeq (mSet 2 (mOp (g2 modP) (mOp (g2 ixQ) (mVar 0) (mC (.int 0))) (mVar 1))) (mSeq (mSetIx (mOp (g2 fdivWP) (mOp (g2 ixQ) (mVar 0) (mC (.int 0))) (mVar 1)) (mVar 0) (mC (.int 0))) (mRet (mVar 2)))) mSkip) (mSeq (mSetIx (mOp (g2 modP) (mOp (g2 addP) (mOp (g2 mulP) (mOp (g2 ixQ) (mVar 0) (mC (.int 1))) (mC (.int 48271))) (mC (.int 12345))) (mC (.int 2147483647))) (mVar 0) (mC (.int 1))) (mRet (mOp (g2 modP) (mOp (g2 modP) (mOp (g2 mulP) (mOp (g2 ixQ) (mVar 0) (mC (.int 1))) (mOp (g2 ixQ) (mVar 0) (mC (.int 1)))) (mC (.int 1999999973))) (mVar 1)))))
noncomputable def F_qao : List SV -> M SV := mDef 2 1 (B_qao)
noncomputable abbrev B_qam : PSt -> M PF := (mSeq (mSet 1 (mOp (g2 ixQ) (mVal (mLst (aCons (mC (.int 9)) (aCons (mC (.int 100)) (aCons (mOp (g2 powP) (mC (.int 10)) (mC (.int 29))) (aCons (mOp (g2 powP) (mC (.int 10)) (mC (.int 30))) aNil)))))) (mFn F_qao (aCons (mVar 0) (aCons (mC (.int 4)) aNil))))) (mRet (mOp (g2 ixQ) (mVal (mLst (aCons (mFn F_qao (aCons (mVar 0) (aCons (mVar 1) aNil))) (aCons (mOp (g2 subP) (mOp (g2 subP) (mVar 1) (mC (.int 1))) (mFn F_qao (aCons (mVar 0) (aCons (mC (.int 3)) aNil)))) aNil)))) (mFn F_qao (aCons (mVar 0) (aCons (mC (.int 2)) aNil))))))
noncomputable def F_qam : List SV -> M SV := mDef 1 1 (B_qam)
noncomputable abbrev B_qau : PSt -> M PF := (mSeq (mSet 1 (mC (.str "abcdefghijklmnopqrstuvwxyz"))) (mSeq (mSet 2 (mVal (mLst (aCons (mC (.str "bell")) (aCons (mC (.str "at")) (aCons (mC (.str "got")) (aCons (mC (.str "after")) (aCons (mC (.str "to")) (aCons (mC (.str "join")) (aCons (mC (.str "say")) (aCons (mC (.str "do")) (aCons (mC (.str "free")) (aCons (mC (.str "hand")) (aCons (mC (.str "note")) (aCons (mC (.str "held")) (aCons (mC (.str "twin")) (aCons (mC (.str "a")) aNil))))))))))))))))) (mSeq (mSet 3 (mOp (g2 ixQ) (mVal (mLst (aCons (mC (.int 1)) (aCons (mC (.int 2)) (aCons (mC (.int 3)) (aCons (mC (.int 12)) (aCons (mOp (g2 addP) (mC (.int 1)) (mFn F_qao (aCons (mVar 0) (aCons (mC (.int 12)) aNil)))) aNil))))))) (mFn F_qao (aCons (mVar 0) (aCons (mC (.int 5)) aNil))))) (mSeq (mSet 4 (mMt "str" joinH (mC (.str "")) (aCons (mVal (mComp (mRange1 (aCons (mC (.int 4)) aNil)) ["_law_k"] [1, 0] (hName 0) tOk (mOp (g2 ixQ) (mVar 1) (mFn F_qao (aCons (mVar 2) (aCons (mC (.int 26)) aNil)))))) aNil))) (mRet (mOp (g2 ixQ) (mVal (mLst (aCons (mSliceS (mOp (g2 mulTP) (mVar 4) (mC (.int 3))) oNo (oPart (mVar 3))) (aCons (mOp (g2 ixQ) (mVar 2) (mFn F_qao (aCons (mVar 0) (aCons (mC (.int 14)) aNil)))) aNil)))) (mCB (g1 intH) (aCons (mOp (g2 eqP) (mFn F_qao (aCons (mVar 0) (aCons (mC (.int 4)) aNil))) (mC (.int 0))) aNil))))))))
noncomputable def F_qau : List SV -> M SV := mDef 1 4 (B_qau)
noncomputable abbrev B_qai : PSt -> M PF := (mSeq (mSet 1 (mFn F_qau (aCons (mVar 0) aNil))) (mSeq (mSet 2 (mFn F_qau (aCons (mVar 0) aNil))) (mRet (mTup (aCons (mVar 1) (aCons (mVar 2) (aCons (mOp (g2 addP) (mC (.int 1)) (mOp (g2 modP) (mFn F_qam (aCons (mVar 0) aNil)) (mOp (g2 subP) (mOp (g2 powP) (mC (.int 10)) (mC (.int 30))) (mC (.int 1))))) aNil)))))))
noncomputable def F_qai : List SV -> M SV := mDef 1 2 (B_qai)
noncomputable abbrev B_qak : PSt -> M PF := (mRet (mMt "str" joinH (mC (.str ".")) (aCons (mVal (mComp (mItems (mVar 0)) ["_law_part"] [] (hName 0) tOk (mCB (g1 strH) (aCons (mVar 0) aNil)))) aNil)))
noncomputable def F_qak : List SV -> M SV := mDef 1 0 (B_qak)
noncomputable abbrev B_qac : PSt -> M PF := (mSeq (mSet 1 (mFn F_qai (aCons (mVar 0) aNil))) (mSeq (mSet 2 (mFn F_qao (aCons (mVar 0) (aCons (mC (.int 12)) aNil)))) (mSeq (mSet 3 (mVal (mLst (aCons (mTup (aCons (mC (.str "held")) (aCons (mVar 1) (aCons (mVar 2) (aCons (mFn F_qam (aCons (mVar 0) aNil)) aNil))))) (aCons (mTup (aCons (mC (.str "kept")) (aCons (mVar 1) (aCons (mVar 2) aNil)))) (aCons (mTup (aCons (mC (.str "late")) (aCons (mVar 1) (aCons (mVar 2) aNil)))) (aCons (mTup (aCons (mC (.str "ill")) (aCons (mVar 1) aNil))) aNil))))))) (mSeq (mSet 3 (mOp (g2 addP) (mVar 3) (mVal (mLst (aCons (mTup (aCons (mC (.str "back")) (aCons (mVar 1) aNil))) (aCons (mTup (aCons (mC (.str "twin")) (aCons (mVar 1) (aCons (mFn F_qai (aCons (mVar 0) aNil)) aNil)))) (aCons (mTup (aCons (mC (.str "loose")) (aCons (mVar 1) aNil))) (aCons (mTup (aCons (mC (.str "behind")) (aCons (mVar 1) aNil))) (aCons (mTup (aCons (mC (.str "ahead")) (aCons (mVar 1) aNil))) aNil))))))))) (mRet (mOp (g2 ixQ) (mVar 3) (mFn F_qao (aCons (mVar 0) (aCons (mC (.int 9)) aNil)))))))))
noncomputable def F_qac : List SV -> M SV := mDef 1 3 (B_qac)
noncomputable abbrev B_qae : PSt -> M PF := (mSeq (mNew 1 (mLst (aCons (mOp (g2 ixQ) (mVar 0) (mC (.int 0))) aNil))) (mSeq (mFor (mItems (mSlice (mVar 0) (oPart (mC (.int 1))) oNo)) (hName 2) (mIfS (mTru (mCB (g1 isiH) (aCons (mVar 2) (aCons (mC (.ty "tuple")) aNil)))) (mDrop (mApp (mVar 1) (aCons (mFn F_qak (aCons (mVar 2) aNil)) aNil))) (mDrop (mApp (mVar 1) (aCons (mCB (g1 strH) (aCons (mVar 2) aNil)) aNil))))) (mRet (mVar 1))))
noncomputable def F_qae : List SV -> M SV := mDef 1 2 (B_qae)
noncomputable abbrev B_qas : PSt -> M PF := (mSeq (mSet 2 (mOp (g2 mulSP) (mC (.str " ")) (mOp (g2 ixQ) (mVal (mLst (aCons (mC (.int 0)) (aCons (mC (.int 1)) (aCons (mC (.int 0)) (aCons (mC (.int 3)) aNil)))))) (mFn F_qao (aCons (mVar 0) (aCons (mC (.int 4)) aNil)))))) (mSeq (mFor (mEnum (aCons (mVar 1) aNil)) (hTup (hCons (hName 3) (hCons (hName 4) hNil)) 2) (mSet 2 (mOp (g2 addP) (mOp (g2 addP) (mVar 2) (mOp (g2 mulSP) (mC (.str " ")) (mOp (g2 mulP) (mCB (g1 intH) (aCons (mOp (g2 gtP) (mVar 3) (mC (.int 0))) aNil)) (mOp (g2 ixQ) (mVal (mLst (aCons (mC (.int 1)) (aCons (mC (.int 1)) (aCons (mC (.int 2)) (aCons (mC (.int 4)) aNil)))))) (mFn F_qao (aCons (mVar 0) (aCons (mC (.int 4)) aNil))))))) (mVar 4)))) (mRet (mOp (g2 addP) (mVar 2) (mOp (g2 mulSP) (mC (.str " ")) (mOp (g2 ixQ) (mVal (mLst (aCons (mC (.int 0)) (aCons (mC (.int 0)) (aCons (mC (.int 1)) (aCons (mC (.int 2)) aNil)))))) (mFn F_qao (aCons (mVar 0) (aCons (mC (.int 4)) aNil)))))))))
noncomputable def F_qas : List SV -> M SV := mDef 2 3 (B_qas)
noncomputable abbrev B_qaq (Z : List SV -> M SV) : PSt -> M PF := (mSeq (mIfS (mTru (mCB (g1 isiH) (aCons (mVar 1) (aCons (mC (.ty "tuple")) aNil)))) (mSeq (mIfS (mOrT (mNotT (mTru (mCB (g1 isiH) (aCons (mVar 0) (aCons (mC (.ty "tuple")) aNil))))) (mTest (mOp (g2 neP) (mCB (g1 lenH) (aCons (mVar 0) aNil)) (mCB (g1 lenH) (aCons (mVar 1) aNil))))) (mRet (mC (.bl false))) mSkip) (mRet (mCB (g1 allH) (aCons (mVal (mComp (mZip (aCons (mVar 0) (aCons (mVar 1) aNil))) ["_law_one", "_law_other"] [] (hTup (hCons (hName 0) (hCons (hName 1) hNil)) 2) tOk (mFn Z (aCons (mVar 0) (aCons (mVar 1) aNil))))) aNil)))) mSkip) (mSeq (mIfS (mTru (mCB (g1 isiH) (aCons (mVar 1) (aCons (mC (.ty "str")) aNil)))) (mRet (mAndV (mCB (g1 isiH) (aCons (mVar 0) (aCons (mC (.ty "str")) aNil))) (mOp (g2 eqP) (mVar 0) (mVar 1)))) mSkip) (mRet (mAndV (mCB (g1 isiH) (aCons (mVar 0) (aCons (mC (.ty "int")) aNil))) (mAndV (mNotV (mCB (g1 isiH) (aCons (mVar 0) (aCons (mC (.ty "bool")) aNil)))) (mOp (g2 eqP) (mVar 0) (mVar 1)))))))
noncomputable def F_qaq : Nat -> List SV -> M SV
 | 0 => fun _ _ => none
 | n + 1 => mDef 2 0 (B_qaq (F_qaq n))
noncomputable abbrev B_law (d_READ_FORMS f_qbd f_qbc f_qbe d_MARK_FORMS f_qbf : Addr) : PSt -> M PF := (mSeq (mFor (mRange1 (aCons (mOp (g2 addP) (mC (.int 1)) (mCB (g1 minH) (aCons (mC (.int 30)) (aCons (mCB (g1 lenH) (aCons (mVar 0) aNil)) aNil)))) aNil)) (hName 1) (mSeq (mNew 2 (mFnF FF_qag (aCons (mVar 0) (aCons (mVar 1) aNil)))) (mSeq (mSet 3 (mFn F_qac (aCons (mVar 2) aNil))) (mSeq (mSet 4 (mFn F_qae (aCons (mVar 3) aNil))) (mSeq (mIfS (mOrT (mTest (mOp (g2 neP) (mFn F_qbn (aCons (mVar 3) aNil)) (mMt "str" joinH (mC (.str " ")) (aCons (mVar 4) aNil)))) (mNotT (mTru (mFn (F_qaq 12) (aCons (mFn (F_qbk d_READ_FORMS f_qbd f_qbc f_qbe d_MARK_FORMS f_qbf) (aCons (mMt "str" joinH (mC (.str " ")) (aCons (mVar 4) aNil)) aNil)) (aCons (mVar 3) aNil)))))) (mRet (mC (.bl false))) mSkip) (mSeq (mIfS (mNotT (mTru (mFn (F_qaq 12) (aCons (mFn (F_qbk d_READ_FORMS f_qbd f_qbc f_qbe d_MARK_FORMS f_qbf) (aCons (mFn F_qas (aCons (mVar 2) (aCons (mVar 4) aNil))) aNil)) (aCons (mVar 3) aNil))))) (mRet (mC (.bl false))) mSkip) (mIfS (mTest (mOp (g2 neP) (mFn F_qbn (aCons (mVar 3) aNil)) (mMt "str" joinH (mC (.str " ")) (aCons (mVar 4) aNil)))) (mRet (mC (.bl false))) mSkip))))))) (mRet (mC (.bl true))))
noncomputable def F_law (d_READ_FORMS f_qbd f_qbc f_qbe d_MARK_FORMS f_qbf : Addr) : List SV -> M SV := mDef 1 4 (B_law d_READ_FORMS f_qbd f_qbc f_qbe d_MARK_FORMS f_qbf)
noncomputable def top (i : Nat) : Stmt := PySem.Challenge.pw_holdword_k82_claims_shown.main.body.getD i (.Pass ⟨0, 0, 0, 0⟩)
structure Txt (mg : Str -> Option Value) : Prop where
 c_FIGURES : ∃ t, mg "FIGURES" = some (.str "0123456789" t)
 c_LONGEST_WORD : ∃ t, mg "LONGEST_WORD" = some (.int 12 t)
 c_MOST_CLAUSES : ∃ t, mg "MOST_CLAUSES" = some (.int 12 t)
 c_SMALL_LETTERS : ∃ t, mg "SMALL_LETTERS" = some (.str "abcdefghijklmnopqrstuvwxyz" t)
 b_all : mg "all" = none
 b_bool : mg "bool" = none
 b_enumerate : mg "enumerate" = none
 b_int : mg "int" = none
 b_isinstance : mg "isinstance" = none
 b_len : mg "len" = none
 b_max : mg "max" = none
 b_min : mg "min" = none
 b_range : mg "range" = none
 b_str : mg "str" = none
 b_tuple : mg "tuple" = none
 b_zip : mg "zip" = none
section
variable {P : Program} {w : World} {K : W.Frag} {mg : Str -> Option Value} {base : Heap}
noncomputable abbrev s_qba : Stmt := top 4
theorem sc_qba : FnScope ["thing", "least"] ["thing", "least"] (defScope s_qba) := ⟨rfl, rfl, rfl, by decide +kernel, rfl, by decide +kernel, by decide +kernel⟩
theorem ok_qba {f_me : Addr} {fd_me : FuncData} (Fn : Fun K "is_number" "is_number" s_qba f_me fd_me) (T : Txt mg) : FnOk P w K mg base CX0 1 f_me fd_me ["thing", "least"] (liftSp K (F_qba)) :=
 Zao Fn sc_qba fun cdv A outer s H E hr => (@Zah _ _ _ (@Zai _ _ _ _ (Zap (Zaw (by rfl) T.b_isinstance (by rfl) (@Zaa _ _ _ _ _ (Zab 0) (@Zaa _ _ _ _ _ (ZaL (by rfl) T.b_int (by rfl)) Zac (by rfl)) (by rfl))) (Zap (q_em_not (Zaw (by rfl) T.b_isinstance (by rfl) (@Zaa _ _ _ _ _ (Zab 0) (@Zaa _ _ _ _ _ (ZaL (by rfl) T.b_bool (by rfl)) Zac (by rfl)) (by rfl)))) (ZaK (Zau op_ge ge_ok.r (Zab 0) (Zab 1) (nomark _)))))))
end
section
variable {P : Program} {w : World} {K : W.Frag} {mg : Str -> Option Value} {base : Heap}
noncomputable abbrev s_qbb : Stmt := top 5
theorem sc_qbb : FnScope ["thing", "bound"] ["thing", "bound"] (defScope s_qbb) := ⟨rfl, rfl, rfl, by decide +kernel, rfl, by decide +kernel, by decide +kernel⟩
theorem ok_qbb {f_me : Addr} {fd_me : FuncData} {f_qba : Addr} {fd_qba : FuncData} (Fn : Fun K "is_number_below" "is_number_below" s_qbb f_me fd_me) (T : Txt mg) (G_qba : FnOk P w K mg base CX0 1 f_qba fd_qba ["thing", "least"] (liftSp K F_qba)) (m_qba : mg "is_number" = some (.ref f_qba)) (k_qba : W.keepIn K (.ref f_qba) = true) (b_qba : L2.Binds K fd_qba ["thing", "least"] []) : FnOk P w K mg base CX0 2 f_me fd_me ["thing", "bound"] (liftSp K (F_qbb)) :=
 Zao Fn sc_qbb fun cdv A outer s H E hr => (@Zah _ _ _ (@Zai _ _ _ _ (Zap (Zae G_qba (hr.mono (by decide)) (by rfl) m_qba k_qba b_qba (@Zaa _ _ _ _ _ (Zab 0) (@Zaa _ _ _ _ _ Zad Zac (by rfl)) (by rfl))) (ZaK (Zau op_lt lt_ok.r (Zab 0) (Zab 1) (nomark _))))))
end
section
variable {P : Program} {w : World} {K : W.Frag} {mg : Str -> Option Value} {base : Heap}
noncomputable abbrev s_qbg : Stmt := top 6
theorem sc_qbg : FnScope ["thing", "least", "most"] ["thing", "least", "most"] (defScope s_qbg) := ⟨rfl, rfl, rfl, by decide +kernel, rfl, by decide +kernel, by decide +kernel⟩
theorem ok_qbg {f_me : Addr} {fd_me : FuncData} (Fn : Fun K "is_row_of" "is_row_of" s_qbg f_me fd_me) (T : Txt mg) : FnOk P w K mg base CX0 1 f_me fd_me ["thing", "least", "most"] (liftSp K (F_qbg)) :=
 Zao Fn sc_qbg fun cdv A outer s H E hr => (@Zah _ _ _ (@Zai _ _ _ _ (Zap (Zaw (by rfl) T.b_isinstance (by rfl) (@Zaa _ _ _ _ _ (Zab 0) (@Zaa _ _ _ _ _ (ZaL (by rfl) T.b_tuple (by rfl)) Zac (by rfl)) (by rfl))) (ZaK (q_em_chain op_le op_le le_ok.r le_ok.r (Zab 1) (ZaF (by rfl) T.b_len (@Zaa _ _ _ _ _ (Zab 0) Zac (by rfl))) (Zab 2))))))
end
section
variable {P : Program} {w : World} {K : W.Frag} {mg : Str -> Option Value} {base : Heap}
noncomputable abbrev s_qbh : Stmt := top 7
theorem sc_qbh : FnScope ["thing"] ["thing"] (defScope s_qbh) := ⟨rfl, rfl, rfl, by decide +kernel, rfl, by decide +kernel, by decide +kernel⟩
theorem ok_qbh {f_me : Addr} {fd_me : FuncData} (Fn : Fun K "is_word" "is_word" s_qbh f_me fd_me) (T : Txt mg) : FnOk P w K mg base CX0 1 f_me fd_me ["thing"] (liftSp K (F_qbh)) :=
 Zao Fn sc_qbh fun cdv A outer s H E hr => (@Zag _ _ _ _ _ (@ZaH _ _ _ _ _ _ _ _ (q_WM_t (ZbM (ZaR (ZaD (Zaw (by rfl) T.b_isinstance (by rfl) (@Zaa _ _ _ _ _ (Zab 0) (@Zaa _ _ _ _ _ (ZaL (by rfl) T.b_str (by rfl)) Zac (by rfl)) (by rfl))))) (ZbH (ZaR (q_tm_chain op_le op_le le_ok.r le_ok.r Zad (ZaF (by rfl) T.b_len (@Zaa _ _ _ _ _ (Zab 0) Zac (by rfl))) (Zcd (by rfl) T.c_LONGEST_WORD)))))) (@Zah _ _ _ (@Zai _ _ _ _ Zba)) Zax) (@Zah _ _ _ (@Zai _ _ _ _ (q_em_all rfl (by rfl) T.b_all (by rfl) (@Zaa _ _ _ _ _ (ZaI (ZaV (vs := ["sign"]) (fs := []) (fr := []) (by exact ⟨rfl, rfl, rfl, rfl, rfl, rfl, rfl⟩) rfl (Za5 (Zab 0)) (fun _ _ _ _ _ => (Zaq (i := 0) (show ((["sign"] : List Str) ++ ([] : List Str)).Nodup by decide +kernel) rfl (Or.inl rfl))) (fun _ _ _ _ _ => Za4) (fun _ _ _ _ _ => (Zau op_inAll in_ok.r (Zab 0) (Zcc (by rfl) T.c_SMALL_LETTERS) rfl)))) Zac (by rfl))))))
end
section
variable {P : Program} {w : World} {K : W.Frag} {mg : Str -> Option Value} {base : Heap}
noncomputable abbrev s_qax : Stmt := top 9
theorem sc_qax : FnScope ["thing"] ["thing"] (defScope s_qax) := ⟨rfl, rfl, rfl, by decide +kernel, rfl, by decide +kernel, by decide +kernel⟩
theorem ok_qax {f_me : Addr} {fd_me : FuncData} {f_qbb : Addr} {fd_qbb : FuncData} (Fn : Fun K "is_clause_number" "is_clause_number" s_qax f_me fd_me) (T : Txt mg) (G_qbb : FnOk P w K mg base CX0 2 f_qbb fd_qbb ["thing", "bound"] (liftSp K F_qbb)) (m_qbb : mg "is_number_below" = some (.ref f_qbb)) (k_qbb : W.keepIn K (.ref f_qbb) = true) (b_qbb : L2.Binds K fd_qbb ["thing", "bound"] []) : FnOk P w K mg base CX0 3 f_me fd_me ["thing"] (liftSp K (F_qax)) :=
 Zao Fn sc_qax fun cdv A outer s H E hr => (@Zah _ _ _ (@Zai _ _ _ _ (Zae G_qbb (hr.mono (by decide)) (by rfl) m_qbb k_qbb b_qbb (@Zaa _ _ _ _ _ (Zab 0) (@Zaa _ _ _ _ _ (Zcd (by rfl) T.c_MOST_CLAUSES) Zac (by rfl)) (by rfl)))))
end
section
variable {P : Program} {w : World} {K : W.Frag} {mg : Str -> Option Value} {base : Heap}
noncomputable abbrev s_qaz : Stmt := top 10
theorem sc_qaz : FnScope ["thing"] ["thing"] (defScope s_qaz) := ⟨rfl, rfl, rfl, by decide +kernel, rfl, by decide +kernel, by decide +kernel⟩
theorem ok_qaz {f_me : Addr} {fd_me : FuncData} {f_qbg f_qbh f_qba : Addr} {fd_qbg fd_qbh fd_qba : FuncData} (Fn : Fun K "is_letter_name" "is_letter_name" s_qaz f_me fd_me) (T : Txt mg) (G_qbg : FnOk P w K mg base CX0 1 f_qbg fd_qbg ["thing", "least", "most"] (liftSp K F_qbg)) (m_qbg : mg "is_row_of" = some (.ref f_qbg)) (k_qbg : W.keepIn K (.ref f_qbg) = true) (b_qbg : L2.Binds K fd_qbg ["thing", "least", "most"] []) (G_qbh : FnOk P w K mg base CX0 1 f_qbh fd_qbh ["thing"] (liftSp K F_qbh)) (m_qbh : mg "is_word" = some (.ref f_qbh)) (k_qbh : W.keepIn K (.ref f_qbh) = true) (b_qbh : L2.Binds K fd_qbh ["thing"] []) (G_qba : FnOk P w K mg base CX0 1 f_qba fd_qba ["thing", "least"] (liftSp K F_qba)) (m_qba : mg "is_number" = some (.ref f_qba)) (k_qba : W.keepIn K (.ref f_qba) = true) (b_qba : L2.Binds K fd_qba ["thing", "least"] []) : FnOk P w K mg base CX0 2 f_me fd_me ["thing"] (liftSp K (F_qaz)) :=
 Zao Fn sc_qaz fun cdv A outer s H E hr => (@Zah _ _ _ (@Zai _ _ _ _ (Zap (Zae G_qbg (hr.mono (by decide)) (by rfl) m_qbg k_qbg b_qbg (@Zaa _ _ _ _ _ (Zab 0) (@Zaa _ _ _ _ _ Zad (@Zaa _ _ _ _ _ Zad Zac (by rfl)) (by rfl)) (by rfl))) (Zap (Zae G_qbh (hr.mono (by decide)) (by rfl) m_qbh k_qbh b_qbh (@Zaa _ _ _ _ _ (Zal (Zaz hr) (Zab 0) Zad) Zac (by rfl))) (Zap (Zae G_qbh (hr.mono (by decide)) (by rfl) m_qbh k_qbh b_qbh (@Zaa _ _ _ _ _ (Zal (Zaz hr) (Zab 0) Zad) Zac (by rfl))) (ZaK (Zae G_qba (hr.mono (by decide)) (by rfl) m_qba k_qba b_qba (@Zaa _ _ _ _ _ (Zal (Zaz hr) (Zab 0) Zad) (@Zaa _ _ _ _ _ Zad Zac (by rfl)) (by rfl)))))))))
end
section
variable {P : Program} {w : World} {K : W.Frag} {mg : Str -> Option Value} {base : Heap}
noncomputable abbrev s_qbd : Stmt := top 12
theorem sc_qbd : FnScope ["parts"] ["parts"] (defScope s_qbd) := ⟨rfl, rfl, rfl, by decide +kernel, rfl, by decide +kernel, by decide +kernel⟩
theorem ok_qbd {f_me : Addr} {fd_me : FuncData} {f_qaz f_qax f_qba : Addr} {fd_qaz fd_qax fd_qba : FuncData} (Fn : Fun K "is_of_due" "is_of_due" s_qbd f_me fd_me) (T : Txt mg) (G_qaz : FnOk P w K mg base CX0 2 f_qaz fd_qaz ["thing"] (liftSp K F_qaz)) (m_qaz : mg "is_letter_name" = some (.ref f_qaz)) (k_qaz : W.keepIn K (.ref f_qaz) = true) (b_qaz : L2.Binds K fd_qaz ["thing"] []) (G_qax : FnOk P w K mg base CX0 3 f_qax fd_qax ["thing"] (liftSp K F_qax)) (m_qax : mg "is_clause_number" = some (.ref f_qax)) (k_qax : W.keepIn K (.ref f_qax) = true) (b_qax : L2.Binds K fd_qax ["thing"] []) (G_qba : FnOk P w K mg base CX0 1 f_qba fd_qba ["thing", "least"] (liftSp K F_qba)) (m_qba : mg "is_number" = some (.ref f_qba)) (k_qba : W.keepIn K (.ref f_qba) = true) (b_qba : L2.Binds K fd_qba ["thing", "least"] []) : FnOk P w K mg base CX0 4 f_me fd_me ["parts"] (liftSp K (F_qbd)) :=
 Zao Fn sc_qbd fun cdv A outer s H E hr => (@Zah _ _ _ (@Zai _ _ _ _ (Zap (Zau ZbS Zb0.r (ZaF (by rfl) T.b_len (@Zaa _ _ _ _ _ (Zab 0) Zac (by rfl))) Zad (nomark _)) (Zap (Zae G_qaz (hr.mono (by decide)) (by rfl) m_qaz k_qaz b_qaz (@Zaa _ _ _ _ _ (Zal (Zaz hr) (Zab 0) Zad) Zac (by rfl))) (Zap (Zae G_qax (hr.mono (by decide)) (by rfl) m_qax k_qax b_qax (@Zaa _ _ _ _ _ (Zal (Zaz hr) (Zab 0) Zad) Zac (by rfl))) (ZaK (Zae G_qba (hr.mono (by decide)) (by rfl) m_qba k_qba b_qba (@Zaa _ _ _ _ _ (Zal (Zaz hr) (Zab 0) Zad) (@Zaa _ _ _ _ _ Zad Zac (by rfl)) (by rfl)))))))))
end
section
variable {P : Program} {w : World} {K : W.Frag} {mg : Str -> Option Value} {base : Heap}
noncomputable abbrev s_qbc : Stmt := top 13
theorem sc_qbc : FnScope ["parts"] ["parts"] (defScope s_qbc) := ⟨rfl, rfl, rfl, by decide +kernel, rfl, by decide +kernel, by decide +kernel⟩
theorem ok_qbc {f_me : Addr} {fd_me : FuncData} {f_qaz f_qax : Addr} {fd_qaz fd_qax : FuncData} (Fn : Fun K "is_of_clause" "is_of_clause" s_qbc f_me fd_me) (T : Txt mg) (G_qaz : FnOk P w K mg base CX0 2 f_qaz fd_qaz ["thing"] (liftSp K F_qaz)) (m_qaz : mg "is_letter_name" = some (.ref f_qaz)) (k_qaz : W.keepIn K (.ref f_qaz) = true) (b_qaz : L2.Binds K fd_qaz ["thing"] []) (G_qax : FnOk P w K mg base CX0 3 f_qax fd_qax ["thing"] (liftSp K F_qax)) (m_qax : mg "is_clause_number" = some (.ref f_qax)) (k_qax : W.keepIn K (.ref f_qax) = true) (b_qax : L2.Binds K fd_qax ["thing"] []) : FnOk P w K mg base CX0 4 f_me fd_me ["parts"] (liftSp K (F_qbc)) :=
 Zao Fn sc_qbc fun cdv A outer s H E hr => (@Zah _ _ _ (@Zai _ _ _ _ (Zap (Zau ZbS Zb0.r (ZaF (by rfl) T.b_len (@Zaa _ _ _ _ _ (Zab 0) Zac (by rfl))) Zad (nomark _)) (Zap (Zae G_qaz (hr.mono (by decide)) (by rfl) m_qaz k_qaz b_qaz (@Zaa _ _ _ _ _ (Zal (Zaz hr) (Zab 0) Zad) Zac (by rfl))) (ZaK (Zae G_qax (hr.mono (by decide)) (by rfl) m_qax k_qax b_qax (@Zaa _ _ _ _ _ (Zal (Zaz hr) (Zab 0) Zad) Zac (by rfl))))))))
end
section
variable {P : Program} {w : World} {K : W.Frag} {mg : Str -> Option Value} {base : Heap}
noncomputable abbrev s_qbe : Stmt := top 14
theorem sc_qbe : FnScope ["parts"] ["parts"] (defScope s_qbe) := ⟨rfl, rfl, rfl, by decide +kernel, rfl, by decide +kernel, by decide +kernel⟩
theorem ok_qbe {f_me : Addr} {fd_me : FuncData} {f_qaz : Addr} {fd_qaz : FuncData} (Fn : Fun K "is_of_name" "is_of_name" s_qbe f_me fd_me) (T : Txt mg) (G_qaz : FnOk P w K mg base CX0 2 f_qaz fd_qaz ["thing"] (liftSp K F_qaz)) (m_qaz : mg "is_letter_name" = some (.ref f_qaz)) (k_qaz : W.keepIn K (.ref f_qaz) = true) (b_qaz : L2.Binds K fd_qaz ["thing"] []) : FnOk P w K mg base CX0 3 f_me fd_me ["parts"] (liftSp K (F_qbe)) :=
 Zao Fn sc_qbe fun cdv A outer s H E hr => (@Zah _ _ _ (@Zai _ _ _ _ (Zap (Zau ZbS Zb0.r (ZaF (by rfl) T.b_len (@Zaa _ _ _ _ _ (Zab 0) Zac (by rfl))) Zad (nomark _)) (ZaK (Zae G_qaz (hr.mono (by decide)) (by rfl) m_qaz k_qaz b_qaz (@Zaa _ _ _ _ _ (Zal (Zaz hr) (Zab 0) Zad) Zac (by rfl)))))))
end
section
variable {P : Program} {w : World} {K : W.Frag} {mg : Str -> Option Value} {base : Heap}
noncomputable abbrev s_qbf : Stmt := top 15
theorem sc_qbf : FnScope ["parts"] ["parts"] (defScope s_qbf) := ⟨rfl, rfl, rfl, by decide +kernel, rfl, by decide +kernel, by decide +kernel⟩
theorem ok_qbf {f_me : Addr} {fd_me : FuncData} {f_qaz : Addr} {fd_qaz : FuncData} (Fn : Fun K "is_of_two_names" "is_of_two_names" s_qbf f_me fd_me) (T : Txt mg) (G_qaz : FnOk P w K mg base CX0 2 f_qaz fd_qaz ["thing"] (liftSp K F_qaz)) (m_qaz : mg "is_letter_name" = some (.ref f_qaz)) (k_qaz : W.keepIn K (.ref f_qaz) = true) (b_qaz : L2.Binds K fd_qaz ["thing"] []) : FnOk P w K mg base CX0 3 f_me fd_me ["parts"] (liftSp K (F_qbf)) :=
 Zao Fn sc_qbf fun cdv A outer s H E hr => (@Zah _ _ _ (@Zai _ _ _ _ (Zap (Zau ZbS Zb0.r (ZaF (by rfl) T.b_len (@Zaa _ _ _ _ _ (Zab 0) Zac (by rfl))) Zad (nomark _)) (Zap (Zae G_qaz (hr.mono (by decide)) (by rfl) m_qaz k_qaz b_qaz (@Zaa _ _ _ _ _ (Zal (Zaz hr) (Zab 0) Zad) Zac (by rfl))) (ZaK (Zae G_qaz (hr.mono (by decide)) (by rfl) m_qaz k_qaz b_qaz (@Zaa _ _ _ _ _ (Zal (Zaz hr) (Zab 0) Zad) Zac (by rfl))))))))
end
section
variable {P : Program} {w : World} {K : W.Frag} {mg : Str -> Option Value} {base : Heap}
noncomputable abbrev s_qaw : Stmt := top 18
theorem sc_qaw : FnScope ["thing", "fits"] ["thing"] (defScope s_qaw) := ⟨rfl, rfl, rfl, by decide +kernel, rfl, by decide +kernel, by decide +kernel⟩
theorem ok_qaw {f_me : Addr} {fd_me : FuncData} {f_qbd f_qbc f_qbe f_qbf d_READ_FORMS d_MARK_FORMS : Addr} {fd_qbd fd_qbc fd_qbe fd_qbf : FuncData} (Fn : Fun K "is_claim" "is_claim" s_qaw f_me fd_me) (T : Txt mg) (Tm_READ_FORMS : mg "READ_FORMS" = some (.ref d_READ_FORMS)) (TD_READ_FORMS : TopD K w d_READ_FORMS (Zat f_qbd f_qbc f_qbe)) (Tm_MARK_FORMS : mg "MARK_FORMS" = some (.ref d_MARK_FORMS)) (TD_MARK_FORMS : TopD K w d_MARK_FORMS (ZaA f_qbe f_qbf)) (G_qbd : FnOk P w K mg base CX0 4 f_qbd fd_qbd ["parts"] (liftSp K F_qbd)) (m_qbd : mg "is_of_due" = some (.ref f_qbd)) (k_qbd : W.keepIn K (.ref f_qbd) = true) (b_qbd : L2.Binds K fd_qbd ["parts"] []) (G_qbc : FnOk P w K mg base CX0 4 f_qbc fd_qbc ["parts"] (liftSp K F_qbc)) (m_qbc : mg "is_of_clause" = some (.ref f_qbc)) (k_qbc : W.keepIn K (.ref f_qbc) = true) (b_qbc : L2.Binds K fd_qbc ["parts"] []) (G_qbe : FnOk P w K mg base CX0 3 f_qbe fd_qbe ["parts"] (liftSp K F_qbe)) (m_qbe : mg "is_of_name" = some (.ref f_qbe)) (k_qbe : W.keepIn K (.ref f_qbe) = true) (b_qbe : L2.Binds K fd_qbe ["parts"] []) (G_qbf : FnOk P w K mg base CX0 3 f_qbf fd_qbf ["parts"] (liftSp K F_qbf)) (m_qbf : mg "is_of_two_names" = some (.ref f_qbf)) (k_qbf : W.keepIn K (.ref f_qbf) = true) (b_qbf : L2.Binds K fd_qbf ["parts"] []) : FnOk P w K mg base CX0 5 f_me fd_me ["thing"] (liftSp K (F_qaw d_READ_FORMS f_qbd f_qbc f_qbe d_MARK_FORMS f_qbf)) :=
 Zao Fn sc_qaw fun cdv A outer s H E hr => (@Zag _ _ _ _ _ (@ZaH _ _ _ _ _ _ _ _ (q_WM_t (ZbM (ZaR (ZaD (Zaw (by rfl) T.b_isinstance (by rfl) (@Zaa _ _ _ _ _ (Zab 0) (@Zaa _ _ _ _ _ (ZaL (by rfl) T.b_tuple (by rfl)) Zac (by rfl)) (by rfl))))) (ZbM (ZaR (ZaD (Zab 0))) (ZbH (ZaR (ZaD (Zaw (by rfl) T.b_isinstance (by rfl) (@Zaa _ _ _ _ _ (Zal (Zaz hr) (Zab 0) Zad) (@Zaa _ _ _ _ _ (ZaL (by rfl) T.b_str (by rfl)) Zac (by rfl)) (by rfl))))))))) (@Zah _ _ _ (@Zai _ _ _ _ Zba)) Zax) (@Zag _ _ _ _ _ (@ZaH _ _ _ _ _ _ _ _ (ZaQ (op_topin TD_READ_FORMS) topI_ok (Zal (Zaz hr) (Zab 0) Zad) (ZbI (by rfl) Tm_READ_FORMS) rfl) (@Zag _ _ _ _ _ (Zan (i := 1) sc_qaw.nd rfl (Or.inl rfl) (Zca TD_READ_FORMS (ZbI (by rfl) Tm_READ_FORMS) (Zal (Zaz hr) (Zab 0) Zad))) (@Zah _ _ _ (@Zai _ _ _ _ (Zce (k := 4) 1 (hv_of (fun q hq => by
  simp only [ZaC, List.mem_cons, List.not_mem_nil, or_false] at hq
  rcases hq with rfl | rfl | rfl | rfl
  ·exact ⟨_, _, G_qbd.mono (by decide), k_qbd, b_qbd⟩
  ·exact ⟨_, _, G_qbc.mono (by decide), k_qbc, b_qbc⟩
  ·exact ⟨_, _, G_qbe.mono (by decide), k_qbe, b_qbe⟩
  ·exact ⟨_, _, G_qbf.mono (by decide), k_qbf, b_qbf⟩)) (hr.mono (by decide)) (@Zaa _ _ _ _ _ (Za0 (Zab 0) (ZaY Zad) ZaZ) Zac (by rfl)))))) Zax) (@Zag _ _ _ _ _ (@ZaH _ _ _ _ _ _ _ _ (ZaQ (op_topin TD_MARK_FORMS) topI_ok (Zal (Zaz hr) (Zab 0) Zad) (ZbI (by rfl) Tm_MARK_FORMS) rfl) (@Zag _ _ _ _ _ (Zan (i := 1) sc_qaw.nd rfl (Or.inl rfl) (Zca TD_MARK_FORMS (ZbI (by rfl) Tm_MARK_FORMS) (Zal (Zaz hr) (Zab 0) Zad))) (@Zah _ _ _ (@Zai _ _ _ _ (Zce (k := 4) 1 (hv_of (fun q hq => by
  simp only [ZaC, List.mem_cons, List.not_mem_nil, or_false] at hq
  rcases hq with rfl | rfl | rfl | rfl
  ·exact ⟨_, _, G_qbd.mono (by decide), k_qbd, b_qbd⟩
  ·exact ⟨_, _, G_qbc.mono (by decide), k_qbc, b_qbc⟩
  ·exact ⟨_, _, G_qbe.mono (by decide), k_qbe, b_qbe⟩
  ·exact ⟨_, _, G_qbf.mono (by decide), k_qbf, b_qbf⟩)) (hr.mono (by decide)) (@Zaa _ _ _ _ _ (Za0 (Zab 0) (ZaY Zad) ZaZ) Zac (by rfl)))))) Zax) (@Zah _ _ _ (@Zai _ _ _ _ Zba)))))
end
section
variable {P : Program} {w : World} {K : W.Frag} {mg : Str -> Option Value} {base : Heap}
noncomputable abbrev s_qbq : Stmt := top 24
theorem sc_qbq : FnScope ["line"] ["line"] (defScope s_qbq) := ⟨rfl, rfl, rfl, by decide +kernel, rfl, by decide +kernel, by decide +kernel⟩
theorem ok_qbq {f_me : Addr} {fd_me : FuncData} (Fn : Fun K "words_in" "words_in" s_qbq f_me fd_me) (T : Txt mg) : FnOk P w K mg base CX0 1 f_me fd_me ["line"] (liftSp K (F_qbq)) :=
 Zao Fn sc_qbq fun cdv A outer s H E hr => (@Zah _ _ _ (ZbN (ZaV (vs := ["word"]) (fs := []) (fr := []) (by exact ⟨rfl, rfl, rfl, rfl, rfl, rfl, rfl⟩) rfl (Za5 (Zcb (Zab 0) (@Zaa _ _ _ _ _ Zaj Zac (by rfl)))) (fun _ _ _ _ _ => (Zaq (i := 0) (show ((["word"] : List Str) ++ ([] : List Str)).Nodup by decide +kernel) rfl (Or.inl rfl))) (fun _ _ _ _ _ => (q_ts_one (ZaD (Zab 0)))) (fun _ _ _ _ _ => (Zab 0)))))
end
section
variable {P : Program} {w : World} {K : W.Frag} {mg : Str -> Option Value} {base : Heap}
noncomputable abbrev s_qay : Stmt := top 25
theorem sc_qay : FnScope ["word"] ["word"] (defScope s_qay) := ⟨rfl, rfl, rfl, by decide +kernel, rfl, by decide +kernel, by decide +kernel⟩
theorem ok_qay {f_me : Addr} {fd_me : FuncData} (Fn : Fun K "is_figures" "is_figures" s_qay f_me fd_me) (T : Txt mg) : FnOk P w K mg base CX0 1 f_me fd_me ["word"] (liftSp K (F_qay)) :=
 Zao Fn sc_qay fun cdv A outer s H E hr => (@Zah _ _ _ (@Zai _ _ _ _ (q_em_or (Zau ZbS Zb0.r (Zab 0) Zaj (nomark _)) (ZaK (Zap (Zau op_ne ne_ok.r (Zab 0) Zaj (nomark _)) (Zap (Zau op_ne ne_ok.r (Zal (Zaz hr) (Zab 0) Zad) Zaj (nomark _)) (ZaK (q_em_all rfl (by rfl) T.b_all (by rfl) (@Zaa _ _ _ _ _ (ZaI (ZaV (vs := ["sign"]) (fs := []) (fr := []) (by exact ⟨rfl, rfl, rfl, rfl, rfl, rfl, rfl⟩) rfl (Za5 (Zab 0)) (fun _ _ _ _ _ => (Zaq (i := 0) (show ((["sign"] : List Str) ++ ([] : List Str)).Nodup by decide +kernel) rfl (Or.inl rfl))) (fun _ _ _ _ _ => Za4) (fun _ _ _ _ _ => (Zau op_inAll in_ok.r (Zab 0) (Zcc (by rfl) T.c_FIGURES) rfl)))) Zac (by rfl))))))))))
end
section
variable {P : Program} {w : World} {K : W.Frag} {mg : Str -> Option Value} {base : Heap}
noncomputable abbrev s_qbj : Stmt := top 27
theorem sc_qbj : FnScope ["holds"] ["holds"] (defScope s_qbj) := ⟨rfl, rfl, rfl, by decide +kernel, rfl, by decide +kernel, by decide +kernel⟩
theorem ok_qbj {f_me : Addr} {fd_me : FuncData} (Fn : Fun K "need" "need" s_qbj f_me fd_me) (T : Txt mg) : FnOk P w K mg base CX0 1 f_me fd_me ["holds"] (liftSp K (F_qbj)) :=
 Zao Fn sc_qbj fun cdv A outer s H E hr => (@Zah _ _ _ (@ZaH _ _ _ _ _ _ _ _ (ZaR (ZaD (Zab 0))) (@Zah _ _ _ q_sm_raise) Zax))
end
section
variable {P : Program} {w : World} {K : W.Frag} {mg : Str -> Option Value} {base : Heap}
noncomputable abbrev s_qbo : Stmt := top 28
theorem sc_qbo : FnScope ["name", "house", "deal", "nr"] ["name"] (defScope s_qbo) := ⟨rfl, rfl, rfl, by decide +kernel, rfl, by decide +kernel, by decide +kernel⟩
theorem ok_qbo {f_me : Addr} {fd_me : FuncData} (Fn : Fun K "shown_name" "shown_name" s_qbo f_me fd_me) (T : Txt mg) : FnOk P w K mg base CX0 1 f_me fd_me ["name"] (liftSp K (F_qbo)) :=
 Zao Fn sc_qbo fun cdv A outer s H E hr => (@Zag _ _ _ _ _ (q_sm_asg (Zab 0) (q_gm_tup rfl (ZaO (Zaq (i := 1) sc_qbo.nd rfl (Or.inl rfl)) (ZaO (Zaq (i := 2) sc_qbo.nd rfl (Or.inl rfl)) (ZaO (Zaq (i := 3) sc_qbo.nd rfl (Or.inl rfl)) ZbP))))) (@Zah _ _ _ (@Zai _ _ _ _ (q_em_joined (Za9 (ZbJ (Zab 1)) (Za9 Zaj (Za9 (ZbJ (Zab 2)) (Za9 Zaj (Za9 (ZbJ (Zab 3)) q_jm_nil)))))))))
end
section
variable {P : Program} {w : World} {K : W.Frag} {mg : Str -> Option Value} {base : Heap}
noncomputable abbrev s_qbp : Stmt := top 29
theorem sc_qbp : FnScope ["part"] ["part"] (defScope s_qbp) := ⟨rfl, rfl, rfl, by decide +kernel, rfl, by decide +kernel, by decide +kernel⟩
theorem ok_qbp {f_me : Addr} {fd_me : FuncData} {f_qbo : Addr} {fd_qbo : FuncData} (Fn : Fun K "shown_part" "shown_part" s_qbp f_me fd_me) (T : Txt mg) (G_qbo : FnOk P w K mg base CX0 1 f_qbo fd_qbo ["name"] (liftSp K F_qbo)) (m_qbo : mg "shown_name" = some (.ref f_qbo)) (k_qbo : W.keepIn K (.ref f_qbo) = true) (b_qbo : L2.Binds K fd_qbo ["name"] []) : FnOk P w K mg base CX0 2 f_me fd_me ["part"] (liftSp K (F_qbp)) :=
 Zao Fn sc_qbp fun cdv A outer s H E hr => (@Zah _ _ _ (@Zai _ _ _ _ (q_em_if (ZaD (Zaw (by rfl) T.b_isinstance (by rfl) (@Zaa _ _ _ _ _ (Zab 0) (@Zaa _ _ _ _ _ (ZaL (by rfl) T.b_tuple (by rfl)) Zac (by rfl)) (by rfl)))) (Zae G_qbo (hr.mono (by decide)) (by rfl) m_qbo k_qbo b_qbo (@Zaa _ _ _ _ _ (Zab 0) Zac (by rfl))) (q_em_joined1 (ZbJ (Zab 0))))))
end
section
variable {P : Program} {w : World} {K : W.Frag} {mg : Str -> Option Value} {base : Heap}
noncomputable abbrev s_qbn : Stmt := top 30
theorem sc_qbn : FnScope ["claim"] ["claim"] (defScope s_qbn) := ⟨rfl, rfl, rfl, by decide +kernel, rfl, by decide +kernel, by decide +kernel⟩
theorem ok_qbn {f_me : Addr} {fd_me : FuncData} {f_qbp : Addr} {fd_qbp : FuncData} (Fn : Fun K "shown_claim" "shown_claim" s_qbn f_me fd_me) (T : Txt mg) (G_qbp : FnOk P w K mg base CX0 2 f_qbp fd_qbp ["part"] (liftSp K F_qbp)) (m_qbp : mg "shown_part" = some (.ref f_qbp)) (k_qbp : W.keepIn K (.ref f_qbp) = true) (b_qbp : L2.Binds K fd_qbp ["part"] []) : FnOk P w K mg base CX0 3 f_me fd_me ["claim"] (liftSp K (F_qbn)) :=
 Zao Fn sc_qbn fun cdv A outer s H E hr => (@Zah _ _ _ (@Zai _ _ _ _ (Za1 Zaj (@Zaa _ _ _ _ _ (ZaI (ZaV (vs := ["part"]) (fs := []) (fr := []) (by exact ⟨rfl, rfl, rfl, rfl, rfl, rfl, rfl⟩) rfl (Za5 (Zab 0)) (fun _ _ _ _ _ => (Zaq (i := 0) (show ((["part"] : List Str) ++ ([] : List Str)).Nodup by decide +kernel) rfl (Or.inl rfl))) (fun _ _ _ _ _ => Za4) (fun _ _ _ _ _ => (Zae G_qbp (hr.mono (by decide)) (by rfl) m_qbp k_qbp b_qbp (@Zaa _ _ _ _ _ (Zab 0) Zac (by rfl)))))) Zac (by rfl)))))
end
section
variable {P : Program} {w : World} {K : W.Frag} {mg : Str -> Option Value} {base : Heap}
noncomputable abbrev s_qbr : Stmt := top 31
theorem sc_qbr : FnScope ["text"] ["text"] (defScope s_qbr) := ⟨rfl, rfl, rfl, by decide +kernel, rfl, by decide +kernel, by decide +kernel⟩
theorem ok_qbr {f_me : Addr} {fd_me : FuncData} {f_qbj f_qbq : Addr} {fd_qbj fd_qbq : FuncData} (Fn : Fun K "words_of" "words_of" s_qbr f_me fd_me) (T : Txt mg) (G_qbj : FnOk P w K mg base CX0 1 f_qbj fd_qbj ["holds"] (liftSp K F_qbj)) (m_qbj : mg "need" = some (.ref f_qbj)) (k_qbj : W.keepIn K (.ref f_qbj) = true) (b_qbj : L2.Binds K fd_qbj ["holds"] []) (G_qbq : FnOk P w K mg base CX0 1 f_qbq fd_qbq ["line"] (liftSp K F_qbq)) (m_qbq : mg "words_in" = some (.ref f_qbq)) (k_qbq : W.keepIn K (.ref f_qbq) = true) (b_qbq : L2.Binds K fd_qbq ["line"] []) : FnOk P w K mg base CX0 2 f_me fd_me ["text"] (liftSp K (F_qbr)) :=
 Zao Fn sc_qbr fun cdv A outer s H E hr => (@Zag _ _ _ _ _ (ZaX (Zae G_qbj (hr.mono (by decide)) (by rfl) m_qbj k_qbj b_qbj (@Zaa _ _ _ _ _ (Zaw (by rfl) T.b_isinstance (by rfl) (@Zaa _ _ _ _ _ (Zab 0) (@Zaa _ _ _ _ _ (ZaL (by rfl) T.b_str (by rfl)) Zac (by rfl)) (by rfl))) Zac (by rfl)))) (@Zah _ _ _ (@Zai _ _ _ _ (Zae G_qbq (hr.mono (by decide)) (by rfl) m_qbq k_qbq b_qbq (@Zaa _ _ _ _ _ (Zab 0) Zac (by rfl))))))
end
section
variable {P : Program} {w : World} {K : W.Frag} {mg : Str -> Option Value} {base : Heap}
noncomputable abbrev s_qbm : Stmt := top 32
theorem sc_qbm : FnScope ["word"] ["word"] (defScope s_qbm) := ⟨rfl, rfl, rfl, by decide +kernel, rfl, by decide +kernel, by decide +kernel⟩
theorem ok_qbm {f_me : Addr} {fd_me : FuncData} {f_qay f_qbj : Addr} {fd_qay fd_qbj : FuncData} (Fn : Fun K "read_number" "read_number" s_qbm f_me fd_me) (T : Txt mg) (G_qay : FnOk P w K mg base CX0 1 f_qay fd_qay ["word"] (liftSp K F_qay)) (m_qay : mg "is_figures" = some (.ref f_qay)) (k_qay : W.keepIn K (.ref f_qay) = true) (b_qay : L2.Binds K fd_qay ["word"] []) (G_qbj : FnOk P w K mg base CX0 1 f_qbj fd_qbj ["holds"] (liftSp K F_qbj)) (m_qbj : mg "need" = some (.ref f_qbj)) (k_qbj : W.keepIn K (.ref f_qbj) = true) (b_qbj : L2.Binds K fd_qbj ["holds"] []) : FnOk P w K mg base CX0 2 f_me fd_me ["word"] (liftSp K (F_qbm)) :=
 Zao Fn sc_qbm fun cdv A outer s H E hr => (@Zag _ _ _ _ _ (ZaX (Zae G_qbj (hr.mono (by decide)) (by rfl) m_qbj k_qbj b_qbj (@Zaa _ _ _ _ _ (Zae G_qay (hr.mono (by decide)) (by rfl) m_qay k_qay b_qay (@Zaa _ _ _ _ _ (Zab 0) Zac (by rfl))) Zac (by rfl)))) (@Zah _ _ _ (@Zai _ _ _ _ (q_em_intT (by rfl) T.b_int (by rfl) (@Zaa _ _ _ _ _ (Zab 0) Zac (by rfl))))))
end
section
variable {P : Program} {w : World} {K : W.Frag} {mg : Str -> Option Value} {base : Heap}
noncomputable abbrev s_qbl : Stmt := top 33
theorem sc_qbl : FnScope ["word", "parts"] ["word"] (defScope s_qbl) := ⟨rfl, rfl, rfl, by decide +kernel, rfl, by decide +kernel, by decide +kernel⟩
theorem ok_qbl {f_me : Addr} {fd_me : FuncData} {f_qbj f_qbm : Addr} {fd_qbj fd_qbm : FuncData} (Fn : Fun K "read_name" "read_name" s_qbl f_me fd_me) (T : Txt mg) (G_qbj : FnOk P w K mg base CX0 1 f_qbj fd_qbj ["holds"] (liftSp K F_qbj)) (m_qbj : mg "need" = some (.ref f_qbj)) (k_qbj : W.keepIn K (.ref f_qbj) = true) (b_qbj : L2.Binds K fd_qbj ["holds"] []) (G_qbm : FnOk P w K mg base CX0 2 f_qbm fd_qbm ["word"] (liftSp K F_qbm)) (m_qbm : mg "read_number" = some (.ref f_qbm)) (k_qbm : W.keepIn K (.ref f_qbm) = true) (b_qbm : L2.Binds K fd_qbm ["word"] []) : FnOk P w K mg base CX0 3 f_me fd_me ["word"] (liftSp K (F_qbl)) :=
 Zao Fn sc_qbl fun cdv A outer s H E hr => (@Zag _ _ _ _ _ (Zan (i := 1) sc_qbl.nd rfl (Or.inl rfl) (Zcb (Zab 0) (@Zaa _ _ _ _ _ Zaj Zac (by rfl)))) (@Zag _ _ _ _ _ (ZaX (Zae G_qbj (hr.mono (by decide)) (by rfl) m_qbj k_qbj b_qbj (@Zaa _ _ _ _ _ (Zau ZbS Zb0.r (ZaF (by rfl) T.b_len (@Zaa _ _ _ _ _ (Zab 1) Zac (by rfl))) Zad (nomark _)) Zac (by rfl)))) (@Zah _ _ _ (@Zai _ _ _ _ (ZaM (@Zaa _ _ _ _ _ (Zal (Zaz hr) (Zab 1) Zad) (@Zaa _ _ _ _ _ (Zal (Zaz hr) (Zab 1) Zad) (@Zaa _ _ _ _ _ (Zae G_qbm (hr.mono (by decide)) (by rfl) m_qbm k_qbm b_qbm (@Zaa _ _ _ _ _ (Zal (Zaz hr) (Zab 1) Zad) Zac (by rfl))) Zac (by rfl)) (by rfl)) (by rfl)))))))
end
section
variable {P : Program} {w : World} {K : W.Frag} {mg : Str -> Option Value} {base : Heap}
noncomputable abbrev s_qbk : Stmt := top 34
theorem sc_qbk : FnScope ["text", "words", "parts", "claim"] ["text"] (defScope s_qbk) := ⟨rfl, rfl, rfl, by decide +kernel, rfl, by decide +kernel, by decide +kernel⟩
theorem ok_qbk {f_me : Addr} {fd_me : FuncData} {f_qbr f_qbl f_qbm f_qaw f_qbj d_READ_FORMS f_qbd f_qbc f_qbe d_MARK_FORMS f_qbf : Addr} {fd_qbr fd_qbl fd_qbm fd_qaw fd_qbj : FuncData} (Fn : Fun K "read_claim" "read_claim" s_qbk f_me fd_me) (T : Txt mg) (G_qbr : FnOk P w K mg base CX0 2 f_qbr fd_qbr ["text"] (liftSp K F_qbr)) (m_qbr : mg "words_of" = some (.ref f_qbr)) (k_qbr : W.keepIn K (.ref f_qbr) = true) (b_qbr : L2.Binds K fd_qbr ["text"] []) (G_qbl : FnOk P w K mg base CX0 3 f_qbl fd_qbl ["word"] (liftSp K F_qbl)) (m_qbl : mg "read_name" = some (.ref f_qbl)) (k_qbl : W.keepIn K (.ref f_qbl) = true) (b_qbl : L2.Binds K fd_qbl ["word"] []) (G_qbm : FnOk P w K mg base CX0 2 f_qbm fd_qbm ["word"] (liftSp K F_qbm)) (m_qbm : mg "read_number" = some (.ref f_qbm)) (k_qbm : W.keepIn K (.ref f_qbm) = true) (b_qbm : L2.Binds K fd_qbm ["word"] []) (G_qaw : FnOk P w K mg base CX0 5 f_qaw fd_qaw ["thing"] (liftSp K (F_qaw d_READ_FORMS f_qbd f_qbc f_qbe d_MARK_FORMS f_qbf))) (m_qaw : mg "is_claim" = some (.ref f_qaw)) (k_qaw : W.keepIn K (.ref f_qaw) = true) (b_qaw : L2.Binds K fd_qaw ["thing"] []) (G_qbj : FnOk P w K mg base CX0 1 f_qbj fd_qbj ["holds"] (liftSp K F_qbj)) (m_qbj : mg "need" = some (.ref f_qbj)) (k_qbj : W.keepIn K (.ref f_qbj) = true) (b_qbj : L2.Binds K fd_qbj ["holds"] []) : FnOk P w K mg base CX0 6 f_me fd_me ["text"] (liftSp K (F_qbk d_READ_FORMS f_qbd f_qbc f_qbe d_MARK_FORMS f_qbf)) :=
 Zao Fn sc_qbk fun cdv A outer s H E hr => (@Zag _ _ _ _ _ (Zan (i := 1) sc_qbk.nd rfl (Or.inl rfl) (Zae G_qbr (hr.mono (by decide)) (by rfl) m_qbr k_qbr b_qbr (@Zaa _ _ _ _ _ (Zab 0) Zac (by rfl)))) (@Zag _ _ _ _ _ (q_sm_comp (i := 2) sc_qbk.nd rfl rfl (vs := ["word"]) (fs := []) (fr := []) (by exact ⟨rfl, rfl, rfl, rfl, rfl, rfl, rfl⟩) rfl (Za5 (Za0 (Zab 1) (ZaY Zad) ZaZ)) (fun _ _ _ _ _ => (Zaq (i := 0) (show ((["word"] : List Str) ++ ([] : List Str)).Nodup by decide +kernel) rfl (Or.inl rfl))) (fun _ _ _ _ _ => Za4) (fun _ _ _ _ _ => (q_em_if (ZaQ op_inAll in_ok.r Zaj (Zab 0) rfl) (Zae G_qbl (hr.mono (by decide)) (by rfl) m_qbl k_qbl b_qbl (@Zaa _ _ _ _ _ (Zab 0) Zac (by rfl))) (Zae G_qbm (hr.mono (by decide)) (by rfl) m_qbm k_qbm b_qbm (@Zaa _ _ _ _ _ (Zab 0) Zac (by rfl)))))) (@Zag _ _ _ _ _ (Zan (i := 3) sc_qbk.nd rfl (Or.inl rfl) (q_em_tupc (by rfl) T.b_tuple (by rfl) (@Zaa _ _ _ _ _ (ZaG (Za0 (Zab 1) ZaZ (ZaY Zad)) (Zab 2)) Zac (by rfl)))) (@Zag _ _ _ _ _ (ZaX (Zae G_qbj (hr.mono (by decide)) (by rfl) m_qbj k_qbj b_qbj (@Zaa _ _ _ _ _ (Zae G_qaw (hr.mono (by decide)) (by rfl) m_qaw k_qaw b_qaw (@Zaa _ _ _ _ _ (Zab 3) Zac (by rfl))) Zac (by rfl)))) (@Zah _ _ _ (@Zai _ _ _ _ (Zab 3)))))))
end
section
variable {P : Program} {w : World} {K : W.Frag} {mg : Str -> Option Value} {base : Heap}
noncomputable abbrev s_qaa : Stmt := top 36
theorem sc_qaa : FnScope ["_law_script", "_law_k"] ["_law_script", "_law_k"] (defScope s_qaa) := ⟨rfl, rfl, rfl, by decide +kernel, rfl, by decide +kernel, by decide +kernel⟩
theorem ok_qaa {f_me : Addr} {fd_me : FuncData} (Fn : Fun K "_law_cell_at" "_law_cell_at" s_qaa f_me fd_me) (T : Txt mg) : FnOk P w K mg base CX0 1 f_me fd_me ["_law_script", "_law_k"] (liftSp K (F_qaa)) :=
 Zao Fn sc_qaa fun cdv A outer s H E hr => (@Zag _ _ _ _ _ (@ZaH _ _ _ _ _ _ _ _ (ZaQ op_lt lt_ok.r (Zab 1) (ZaF (by rfl) T.b_len (@Zaa _ _ _ _ _ (Zab 0) Zac (by rfl))) (nomark _)) (@Zah _ _ _ (@Zai _ _ _ _ (Zal (Zaz hr) (Zab 0) (Zab 1)))) Zax) (@Zah _ _ _ (@Zai _ _ _ _ Zad)))
end
section
variable {P : Program} {w : World} {K : W.Frag} {mg : Str -> Option Value} {base : Heap}
noncomputable abbrev s_qag : Stmt := top 37
theorem Zby : FnScope ["_law_script", "_law_k", "_law_cell", "_law_seed"] ["_law_script", "_law_k"] (defScope s_qag) := ⟨rfl, rfl, rfl, by decide +kernel, rfl, by decide +kernel, by decide +kernel⟩
theorem ok_qag {f_me : Addr} {fd_me : FuncData} {f_qaa : Addr} {fd_qaa : FuncData} (Fn : Fun K "_law_left" "_law_left" s_qag f_me fd_me) (T : Txt mg) (G_qaa : FnOk P w K mg base CX0 1 f_qaa fd_qaa ["_law_script", "_law_k"] (liftSp K F_qaa)) (m_qaa : mg "_law_cell_at" = some (.ref f_qaa)) (k_qaa : W.keepIn K (.ref f_qaa) = true) (b_qaa : L2.Binds K fd_qaa ["_law_script", "_law_k"] []) : FnOk P w K mg base CX0 2 f_me fd_me ["_law_script", "_law_k"] (liftSp K (F_qag)) :=
 Zao Fn Zby fun cdv A outer s H E hr => (@Zag _ _ _ _ _ (Zan (i := 2) Zby.nd rfl (Or.inl rfl) (Zae G_qaa (hr.mono (by decide)) (by rfl) m_qaa k_qaa b_qaa (@Zaa _ _ _ _ _ (Zab 0) (@Zaa _ _ _ _ _ (Zav (Zab 1) (q_em_max rfl (by rfl) T.b_max (by rfl) (@Zaa _ _ _ _ _ Zad (@Zaa _ _ _ _ _ (ZaF (by rfl) T.b_len (@Zaa _ _ _ _ _ (Zab 0) Zac (by rfl))) Zac (by rfl)) (by rfl)))) Zac (by rfl)) (by rfl)))) (@Zag _ _ _ _ _ (Zan (i := 3) Zby.nd rfl (Or.inl rfl) (Zav (ZaS (ZaG (ZaG (Zav (Zab 2) Zad) (ZaS (ZaS Zad (Zab 1)) (Zab 1))) Zad) Zad) Zad)) (@Zag _ _ _ _ _ (@ZaH _ _ _ _ _ _ _ _ (ZaQ ZbS Zb0.r (Zav (Zae G_qaa (hr.mono (by decide)) (by rfl) m_qaa k_qaa b_qaa (@Zaa _ _ _ _ _ (Zab 0) (@Zaa _ _ _ _ _ Zad Zac (by rfl)) (by rfl))) Zad) Zad (nomark _)) (@Zah _ _ _ (Zan (i := 2) Zby.nd rfl (Or.inl rfl) Zad)) Zax) (@Zah _ _ _ (ZbN (ZaE (@Zaa _ _ _ _ _ (Zav (Zab 2) (Zbl Zad Zad)) (@Zaa _ _ _ _ _ (Zab 3) Zac (by rfl)) (by rfl))))))))
theorem okF_qag {f_me : Addr} {fd_me : FuncData} {f_qaa : Addr} {fd_qaa : FuncData} (Fn : Fun K "_law_left" "_law_left" s_qag f_me fd_me) (T : Txt mg) (G_qaa : FnOk P w K mg base CX0 1 f_qaa fd_qaa ["_law_script", "_law_k"] (liftSp K F_qaa)) (m_qaa : mg "_law_cell_at" = some (.ref f_qaa)) (k_qaa : W.keepIn K (.ref f_qaa) = true) (b_qaa : L2.Binds K fd_qaa ["_law_script", "_law_k"] []) : FnOk P w K mg base CX0 2 f_me fd_me ["_law_script", "_law_k"] (liftSpF K (FF_qag)) :=
 q_fn_mkF Fn Zby fun cdv A outer s H E hr => (@Zag _ _ _ _ _ (Zan (i := 2) Zby.nd rfl (Or.inl rfl) (Zae G_qaa (hr.mono (by decide)) (by rfl) m_qaa k_qaa b_qaa (@Zaa _ _ _ _ _ (Zab 0) (@Zaa _ _ _ _ _ (Zav (Zab 1) (q_em_max rfl (by rfl) T.b_max (by rfl) (@Zaa _ _ _ _ _ Zad (@Zaa _ _ _ _ _ (ZaF (by rfl) T.b_len (@Zaa _ _ _ _ _ (Zab 0) Zac (by rfl))) Zac (by rfl)) (by rfl)))) Zac (by rfl)) (by rfl)))) (@Zag _ _ _ _ _ (Zan (i := 3) Zby.nd rfl (Or.inl rfl) (Zav (ZaS (ZaG (ZaG (Zav (Zab 2) Zad) (ZaS (ZaS Zad (Zab 1)) (Zab 1))) Zad) Zad) Zad)) (@Zag _ _ _ _ _ (@ZaH _ _ _ _ _ _ _ _ (ZaQ ZbS Zb0.r (Zav (Zae G_qaa (hr.mono (by decide)) (by rfl) m_qaa k_qaa b_qaa (@Zaa _ _ _ _ _ (Zab 0) (@Zaa _ _ _ _ _ Zad Zac (by rfl)) (by rfl))) Zad) Zad (nomark _)) (@Zah _ _ _ (Zan (i := 2) Zby.nd rfl (Or.inl rfl) Zad)) Zax) (@Zah _ _ _ (ZbN (ZaE (@Zaa _ _ _ _ _ (Zav (Zab 2) (Zbl Zad Zad)) (@Zaa _ _ _ _ _ (Zab 3) Zac (by rfl)) (by rfl))))))))
end
section
variable {P : Program} {w : World} {K : W.Frag} {mg : Str -> Option Value} {base : Heap}
noncomputable abbrev s_qao : Stmt := top 38
theorem sc_qao : FnScope ["_law_left_here", "_law_many", "_law_digit"] ["_law_left_here", "_law_many"] (defScope s_qao) := ⟨rfl, rfl, rfl, by decide +kernel, rfl, by decide +kernel, by decide +kernel⟩
theorem ok_qao {f_me : Addr} {fd_me : FuncData} (Fn : Fun K "_law_pick" "_law_pick" s_qao f_me fd_me) (T : Txt mg) : FnOk P w K mg base CX0 1 f_me fd_me ["_law_left_here", "_law_many"] (liftSp K (F_qao)) :=
 Zao Fn sc_qao fun cdv A outer s H E hr => (@Zag _ _ _ _ _ (@ZaH _ _ _ _ _ _ _ _ (ZaQ op_gt gt_ok.r (Zal (Zaz hr) (Zab 0) Zad) Zad (nomark _)) (@Zag _ _ _ _ _ (Zan (i := 2) sc_qao.nd rfl (Or.inl rfl) (Zav (Zal (Zaz hr) (Zab 0) Zad) (Zab 1))) (@Zag _ _ _ _ _ (Zb9 (q_em_fdivW (Zal (Zaz hr) (Zab 0) Zad) (Zab 1)) (Zab 0) Zad) (@Zah _ _ _ (@Zai _ _ _ _ (Zab 2))))) Zax) (@Zag _ _ _ _ _ (Zb9 (Zav (ZaG (ZaS (Zal (Zaz hr) (Zab 0) Zad) Zad) Zad) Zad) (Zab 0) Zad) (@Zah _ _ _ (@Zai _ _ _ _ (Zav (Zav (ZaS (Zal (Zaz hr) (Zab 0) Zad) (Zal (Zaz hr) (Zab 0) Zad)) Zad) (Zab 1))))))
end
section
variable {P : Program} {w : World} {K : W.Frag} {mg : Str -> Option Value} {base : Heap}
noncomputable abbrev s_qam : Stmt := top 39
theorem sc_qam : FnScope ["_law_left_here", "_law_most"] ["_law_left_here"] (defScope s_qam) := ⟨rfl, rfl, rfl, by decide +kernel, rfl, by decide +kernel, by decide +kernel⟩
theorem ok_qam {f_me : Addr} {fd_me : FuncData} {f_qao : Addr} {fd_qao : FuncData} (Fn : Fun K "_law_number" "_law_number" s_qam f_me fd_me) (T : Txt mg) (G_qao : FnOk P w K mg base CX0 1 f_qao fd_qao ["_law_left_here", "_law_many"] (liftSp K F_qao)) (m_qao : mg "_law_pick" = some (.ref f_qao)) (k_qao : W.keepIn K (.ref f_qao) = true) (b_qao : L2.Binds K fd_qao ["_law_left_here", "_law_many"] []) : FnOk P w K mg base CX0 2 f_me fd_me ["_law_left_here"] (liftSp K (F_qam)) :=
 Zao Fn sc_qam fun cdv A outer s H E hr => (@Zag _ _ _ _ _ (Zan (i := 1) sc_qam.nd rfl (Or.inl rfl) (Zal (Zaz hr) (ZaI (ZaE (@Zaa _ _ _ _ _ Zad (@Zaa _ _ _ _ _ Zad (@Zaa _ _ _ _ _ (Zbl Zad Zad) (@Zaa _ _ _ _ _ (Zbl Zad Zad) Zac (by rfl)) (by rfl)) (by rfl)) (by rfl)))) (Zae G_qao (hr.mono (by decide)) (by rfl) m_qao k_qao b_qao (@Zaa _ _ _ _ _ (Zab 0) (@Zaa _ _ _ _ _ Zad Zac (by rfl)) (by rfl))))) (@Zah _ _ _ (@Zai _ _ _ _ (Zal (Zaz hr) (ZaI (ZaE (@Zaa _ _ _ _ _ (Zae G_qao (hr.mono (by decide)) (by rfl) m_qao k_qao b_qao (@Zaa _ _ _ _ _ (Zab 0) (@Zaa _ _ _ _ _ (Zab 1) Zac (by rfl)) (by rfl))) (@Zaa _ _ _ _ _ (q_em_sub (q_em_sub (Zab 1) Zad) (Zae G_qao (hr.mono (by decide)) (by rfl) m_qao k_qao b_qao (@Zaa _ _ _ _ _ (Zab 0) (@Zaa _ _ _ _ _ Zad Zac (by rfl)) (by rfl)))) Zac (by rfl)) (by rfl)))) (Zae G_qao (hr.mono (by decide)) (by rfl) m_qao k_qao b_qao (@Zaa _ _ _ _ _ (Zab 0) (@Zaa _ _ _ _ _ Zad Zac (by rfl)) (by rfl)))))))
end
section
variable {P : Program} {w : World} {K : W.Frag} {mg : Str -> Option Value} {base : Heap}
noncomputable abbrev s_qau : Stmt := top 40
theorem sc_qau : FnScope ["_law_left_here", "_law_letters", "_law_kept", "_law_size", "_law_stem"] ["_law_left_here"] (defScope s_qau) := ⟨rfl, rfl, rfl, by decide +kernel, rfl, by decide +kernel, by decide +kernel⟩
theorem ok_qau {f_me : Addr} {fd_me : FuncData} {f_qao : Addr} {fd_qao : FuncData} (Fn : Fun K "_law_word" "_law_word" s_qau f_me fd_me) (T : Txt mg) (G_qao : FnOk P w K mg base CX0 1 f_qao fd_qao ["_law_left_here", "_law_many"] (liftSp K F_qao)) (m_qao : mg "_law_pick" = some (.ref f_qao)) (k_qao : W.keepIn K (.ref f_qao) = true) (b_qao : L2.Binds K fd_qao ["_law_left_here", "_law_many"] []) : FnOk P w K mg base CX0 2 f_me fd_me ["_law_left_here"] (liftSp K (F_qau)) :=
 Zao Fn sc_qau fun cdv A outer s H E hr => (@Zag _ _ _ _ _ (Zan (i := 1) sc_qau.nd rfl (Or.inr rfl) Zaj) (@Zag _ _ _ _ _ (Zan (i := 2) sc_qau.nd rfl (Or.inl rfl) (ZaI (ZaE (@Zaa _ _ _ _ _ Zaj (@Zaa _ _ _ _ _ Zaj (@Zaa _ _ _ _ _ Zaj (@Zaa _ _ _ _ _ Zaj (@Zaa _ _ _ _ _ Zaj (@Zaa _ _ _ _ _ Zaj (@Zaa _ _ _ _ _ Zaj (@Zaa _ _ _ _ _ Zaj (@Zaa _ _ _ _ _ Zaj (@Zaa _ _ _ _ _ Zaj (@Zaa _ _ _ _ _ Zaj (@Zaa _ _ _ _ _ Zaj (@Zaa _ _ _ _ _ Zaj (@Zaa _ _ _ _ _ Zaj Zac (by rfl)) (by rfl)) (by rfl)) (by rfl)) (by rfl)) (by rfl)) (by rfl)) (by rfl)) (by rfl)) (by rfl)) (by rfl)) (by rfl)) (by rfl)) (by rfl))))) (@Zag _ _ _ _ _ (Zan (i := 3) sc_qau.nd rfl (Or.inl rfl) (Zal (Zaz hr) (ZaI (ZaE (@Zaa _ _ _ _ _ Zad (@Zaa _ _ _ _ _ Zad (@Zaa _ _ _ _ _ Zad (@Zaa _ _ _ _ _ Zad (@Zaa _ _ _ _ _ (ZaG Zad (Zae G_qao (hr.mono (by decide)) (by rfl) m_qao k_qao b_qao (@Zaa _ _ _ _ _ (Zab 0) (@Zaa _ _ _ _ _ Zad Zac (by rfl)) (by rfl)))) Zac (by rfl)) (by rfl)) (by rfl)) (by rfl)) (by rfl)))) (Zae G_qao (hr.mono (by decide)) (by rfl) m_qao k_qao b_qao (@Zaa _ _ _ _ _ (Zab 0) (@Zaa _ _ _ _ _ Zad Zac (by rfl)) (by rfl))))) (@Zag _ _ _ _ _ (Zan (i := 4) sc_qau.nd rfl (Or.inl rfl) (Za1 Zaj (@Zaa _ _ _ _ _ (ZaI (ZaV (vs := ["_law_k"]) (fs := ["_law_letters", "_law_left_here"]) (fr := [1, 0]) (by exact ⟨rfl, rfl, rfl, rfl, rfl, rfl, rfl⟩) rfl (ZbO (by rfl) T.b_range (@Zaa _ _ _ _ _ Zad Zac (by rfl))) (fun _ _ _ _ _ => (Zaq (i := 0) (show ((["_law_k"] : List Str) ++ (["_law_letters", "_law_left_here"] : List Str)).Nodup by decide +kernel) rfl (Or.inl rfl))) (fun _ _ _ _ _ => Za4) (fun _ _ _ _ _ => (Zal (Zaz hr) (Zab 1) (Zae G_qao (hr.mono (by decide)) (by rfl) m_qao k_qao b_qao (@Zaa _ _ _ _ _ (Zab 2) (@Zaa _ _ _ _ _ Zad Zac (by rfl)) (by rfl))))))) Zac (by rfl)))) (@Zah _ _ _ (@Zai _ _ _ _ (Zal (Zaz hr) (ZaI (ZaE (@Zaa _ _ _ _ _ (q_em_sliceS (q_em_mulT (Zab 4) Zad) ZaZ (ZaY (Zab 3))) (@Zaa _ _ _ _ _ (Zal (Zaz hr) (Zab 2) (Zae G_qao (hr.mono (by decide)) (by rfl) m_qao k_qao b_qao (@Zaa _ _ _ _ _ (Zab 0) (@Zaa _ _ _ _ _ Zad Zac (by rfl)) (by rfl)))) Zac (by rfl)) (by rfl)))) (q_em_intc (by rfl) T.b_int (by rfl) (@Zaa _ _ _ _ _ (Zau ZbS Zb0.r (Zae G_qao (hr.mono (by decide)) (by rfl) m_qao k_qao b_qao (@Zaa _ _ _ _ _ (Zab 0) (@Zaa _ _ _ _ _ Zad Zac (by rfl)) (by rfl))) Zad (nomark _)) Zac (by rfl))))))))))
end
section
variable {P : Program} {w : World} {K : W.Frag} {mg : Str -> Option Value} {base : Heap}
noncomputable abbrev s_qai : Stmt := top 41
theorem sc_qai : FnScope ["_law_left_here", "_law_house", "_law_deal"] ["_law_left_here"] (defScope s_qai) := ⟨rfl, rfl, rfl, by decide +kernel, rfl, by decide +kernel, by decide +kernel⟩
theorem ok_qai {f_me : Addr} {fd_me : FuncData} {f_qau f_qam : Addr} {fd_qau fd_qam : FuncData} (Fn : Fun K "_law_name" "_law_name" s_qai f_me fd_me) (T : Txt mg) (G_qau : FnOk P w K mg base CX0 2 f_qau fd_qau ["_law_left_here"] (liftSp K F_qau)) (m_qau : mg "_law_word" = some (.ref f_qau)) (k_qau : W.keepIn K (.ref f_qau) = true) (b_qau : L2.Binds K fd_qau ["_law_left_here"] []) (G_qam : FnOk P w K mg base CX0 2 f_qam fd_qam ["_law_left_here"] (liftSp K F_qam)) (m_qam : mg "_law_number" = some (.ref f_qam)) (k_qam : W.keepIn K (.ref f_qam) = true) (b_qam : L2.Binds K fd_qam ["_law_left_here"] []) : FnOk P w K mg base CX0 3 f_me fd_me ["_law_left_here"] (liftSp K (F_qai)) :=
 Zao Fn sc_qai fun cdv A outer s H E hr => (@Zag _ _ _ _ _ (Zan (i := 1) sc_qai.nd rfl (Or.inl rfl) (Zae G_qau (hr.mono (by decide)) (by rfl) m_qau k_qau b_qau (@Zaa _ _ _ _ _ (Zab 0) Zac (by rfl)))) (@Zag _ _ _ _ _ (Zan (i := 2) sc_qai.nd rfl (Or.inl rfl) (Zae G_qau (hr.mono (by decide)) (by rfl) m_qau k_qau b_qau (@Zaa _ _ _ _ _ (Zab 0) Zac (by rfl)))) (@Zah _ _ _ (@Zai _ _ _ _ (ZaM (@Zaa _ _ _ _ _ (Zab 1) (@Zaa _ _ _ _ _ (Zab 2) (@Zaa _ _ _ _ _ (ZaG Zad (Zav (Zae G_qam (hr.mono (by decide)) (by rfl) m_qam k_qam b_qam (@Zaa _ _ _ _ _ (Zab 0) Zac (by rfl))) (q_em_sub (Zbl Zad Zad) Zad))) Zac (by rfl)) (by rfl)) (by rfl)))))))
end
section
variable {P : Program} {w : World} {K : W.Frag} {mg : Str -> Option Value} {base : Heap}
noncomputable abbrev s_qak : Stmt := top 42
theorem sc_qak : FnScope ["_law_name_here"] ["_law_name_here"] (defScope s_qak) := ⟨rfl, rfl, rfl, by decide +kernel, rfl, by decide +kernel, by decide +kernel⟩
theorem ok_qak {f_me : Addr} {fd_me : FuncData} (Fn : Fun K "_law_name_text" "_law_name_text" s_qak f_me fd_me) (T : Txt mg) : FnOk P w K mg base CX0 1 f_me fd_me ["_law_name_here"] (liftSp K (F_qak)) :=
 Zao Fn sc_qak fun cdv A outer s H E hr => (@Zah _ _ _ (@Zai _ _ _ _ (Za1 Zaj (@Zaa _ _ _ _ _ (ZaI (ZaV (vs := ["_law_part"]) (fs := []) (fr := []) (by exact ⟨rfl, rfl, rfl, rfl, rfl, rfl, rfl⟩) rfl (Za5 (Zab 0)) (fun _ _ _ _ _ => (Zaq (i := 0) (show ((["_law_part"] : List Str) ++ ([] : List Str)).Nodup by decide +kernel) rfl (Or.inl rfl))) (fun _ _ _ _ _ => Za4) (fun _ _ _ _ _ => (q_em_strc (by rfl) T.b_str (by rfl) (@Zaa _ _ _ _ _ (Zab 0) Zac (by rfl)))))) Zac (by rfl)))))
end
section
variable {P : Program} {w : World} {K : W.Frag} {mg : Str -> Option Value} {base : Heap}
noncomputable abbrev s_qac : Stmt := top 43
theorem sc_qac : FnScope ["_law_left_here", "_law_name_here", "_law_c", "_law_some"] ["_law_left_here"] (defScope s_qac) := ⟨rfl, rfl, rfl, by decide +kernel, rfl, by decide +kernel, by decide +kernel⟩
theorem ok_qac {f_me : Addr} {fd_me : FuncData} {f_qai f_qao f_qam : Addr} {fd_qai fd_qao fd_qam : FuncData} (Fn : Fun K "_law_claim" "_law_claim" s_qac f_me fd_me) (T : Txt mg) (G_qai : FnOk P w K mg base CX0 3 f_qai fd_qai ["_law_left_here"] (liftSp K F_qai)) (m_qai : mg "_law_name" = some (.ref f_qai)) (k_qai : W.keepIn K (.ref f_qai) = true) (b_qai : L2.Binds K fd_qai ["_law_left_here"] []) (G_qao : FnOk P w K mg base CX0 1 f_qao fd_qao ["_law_left_here", "_law_many"] (liftSp K F_qao)) (m_qao : mg "_law_pick" = some (.ref f_qao)) (k_qao : W.keepIn K (.ref f_qao) = true) (b_qao : L2.Binds K fd_qao ["_law_left_here", "_law_many"] []) (G_qam : FnOk P w K mg base CX0 2 f_qam fd_qam ["_law_left_here"] (liftSp K F_qam)) (m_qam : mg "_law_number" = some (.ref f_qam)) (k_qam : W.keepIn K (.ref f_qam) = true) (b_qam : L2.Binds K fd_qam ["_law_left_here"] []) : FnOk P w K mg base CX0 4 f_me fd_me ["_law_left_here"] (liftSp K (F_qac)) :=
 Zao Fn sc_qac fun cdv A outer s H E hr => (@Zag _ _ _ _ _ (Zan (i := 1) sc_qac.nd rfl (Or.inl rfl) (Zae G_qai (hr.mono (by decide)) (by rfl) m_qai k_qai b_qai (@Zaa _ _ _ _ _ (Zab 0) Zac (by rfl)))) (@Zag _ _ _ _ _ (Zan (i := 2) sc_qac.nd rfl (Or.inl rfl) (Zae G_qao (hr.mono (by decide)) (by rfl) m_qao k_qao b_qao (@Zaa _ _ _ _ _ (Zab 0) (@Zaa _ _ _ _ _ Zad Zac (by rfl)) (by rfl)))) (@Zag _ _ _ _ _ (Zan (i := 3) sc_qac.nd rfl (Or.inl rfl) (ZaI (ZaE (@Zaa _ _ _ _ _ (ZaM (@Zaa _ _ _ _ _ Zaj (@Zaa _ _ _ _ _ (Zab 1) (@Zaa _ _ _ _ _ (Zab 2) (@Zaa _ _ _ _ _ (Zae G_qam (hr.mono (by decide)) (by rfl) m_qam k_qam b_qam (@Zaa _ _ _ _ _ (Zab 0) Zac (by rfl))) Zac (by rfl)) (by rfl)) (by rfl)) (by rfl))) (@Zaa _ _ _ _ _ (ZaM (@Zaa _ _ _ _ _ Zaj (@Zaa _ _ _ _ _ (Zab 1) (@Zaa _ _ _ _ _ (Zab 2) Zac (by rfl)) (by rfl)) (by rfl))) (@Zaa _ _ _ _ _ (ZaM (@Zaa _ _ _ _ _ Zaj (@Zaa _ _ _ _ _ (Zab 1) (@Zaa _ _ _ _ _ (Zab 2) Zac (by rfl)) (by rfl)) (by rfl))) (@Zaa _ _ _ _ _ (ZaM (@Zaa _ _ _ _ _ Zaj (@Zaa _ _ _ _ _ (Zab 1) Zac (by rfl)) (by rfl))) Zac (by rfl)) (by rfl)) (by rfl)) (by rfl))))) (@Zag _ _ _ _ _ (Zan (i := 3) sc_qac.nd rfl (Or.inl rfl) (ZaG (Zab 3) (ZaI (ZaE (@Zaa _ _ _ _ _ (ZaM (@Zaa _ _ _ _ _ Zaj (@Zaa _ _ _ _ _ (Zab 1) Zac (by rfl)) (by rfl))) (@Zaa _ _ _ _ _ (ZaM (@Zaa _ _ _ _ _ Zaj (@Zaa _ _ _ _ _ (Zab 1) (@Zaa _ _ _ _ _ (Zae G_qai (hr.mono (by decide)) (by rfl) m_qai k_qai b_qai (@Zaa _ _ _ _ _ (Zab 0) Zac (by rfl))) Zac (by rfl)) (by rfl)) (by rfl))) (@Zaa _ _ _ _ _ (ZaM (@Zaa _ _ _ _ _ Zaj (@Zaa _ _ _ _ _ (Zab 1) Zac (by rfl)) (by rfl))) (@Zaa _ _ _ _ _ (ZaM (@Zaa _ _ _ _ _ Zaj (@Zaa _ _ _ _ _ (Zab 1) Zac (by rfl)) (by rfl))) (@Zaa _ _ _ _ _ (ZaM (@Zaa _ _ _ _ _ Zaj (@Zaa _ _ _ _ _ (Zab 1) Zac (by rfl)) (by rfl))) Zac (by rfl)) (by rfl)) (by rfl)) (by rfl)) (by rfl)))))) (@Zah _ _ _ (@Zai _ _ _ _ (Zal (Zaz hr) (Zab 3) (Zae G_qao (hr.mono (by decide)) (by rfl) m_qao k_qao b_qao (@Zaa _ _ _ _ _ (Zab 0) (@Zaa _ _ _ _ _ Zad Zac (by rfl)) (by rfl))))))))))
end
section
variable {P : Program} {w : World} {K : W.Frag} {mg : Str -> Option Value} {base : Heap}
noncomputable abbrev s_qae : Stmt := top 44
theorem sc_qae : FnScope ["_law_claim_here", "_law_words", "_law_part"] ["_law_claim_here"] (defScope s_qae) := ⟨rfl, rfl, rfl, by decide +kernel, rfl, by decide +kernel, by decide +kernel⟩
theorem ok_qae {f_me : Addr} {fd_me : FuncData} {f_qak : Addr} {fd_qak : FuncData} (Fn : Fun K "_law_claim_words" "_law_claim_words" s_qae f_me fd_me) (T : Txt mg) (G_qak : FnOk P w K mg base CX0 1 f_qak fd_qak ["_law_name_here"] (liftSp K F_qak)) (m_qak : mg "_law_name_text" = some (.ref f_qak)) (k_qak : W.keepIn K (.ref f_qak) = true) (b_qak : L2.Binds K fd_qak ["_law_name_here"] []) : FnOk P w K mg base CX0 2 f_me fd_me ["_law_claim_here"] (liftSp K (F_qae)) :=
 Zao Fn sc_qae fun cdv A outer s H E hr => (@Zag _ _ _ _ _ (q_sm_new (i := 1) sc_qae.nd rfl (Or.inl rfl) (ZaE (@Zaa _ _ _ _ _ (Zal (Zaz hr) (Zab 0) Zad) Zac (by rfl)))) (@Zag _ _ _ _ _ (q_sm_for PassesOwn.never rfl (Za5 (Za0 (Zab 0) (ZaY Zad) ZaZ)) (Zaq (i := 2) sc_qae.nd rfl (Or.inl rfl)) (@Zah _ _ _ (@ZaH _ _ _ _ _ _ _ _ (ZaD (Zaw (by rfl) T.b_isinstance (by rfl) (@Zaa _ _ _ _ _ (Zab 2) (@Zaa _ _ _ _ _ (ZaL (by rfl) T.b_tuple (by rfl)) Zac (by rfl)) (by rfl)))) (@Zah _ _ _ (ZaX (ZbR (Zab 1) (@Zaa _ _ _ _ _ (Zae G_qak (hr.mono (by decide)) (by rfl) m_qak k_qak b_qak (@Zaa _ _ _ _ _ (Zab 2) Zac (by rfl))) Zac (by rfl))))) (@Zah _ _ _ (ZaX (ZbR (Zab 1) (@Zaa _ _ _ _ _ (q_em_strc (by rfl) T.b_str (by rfl) (@Zaa _ _ _ _ _ (Zab 2) Zac (by rfl))) Zac (by rfl)))))))) (@Zah _ _ _ (@Zai _ _ _ _ (Zab 1)))))
end
section
variable {P : Program} {w : World} {K : W.Frag} {mg : Str -> Option Value} {base : Heap}
noncomputable abbrev s_qas : Stmt := top 45
theorem sc_qas : FnScope ["_law_left_here", "_law_words", "_law_text_here", "_law_k", "_law_word_here"] ["_law_left_here", "_law_words"] (defScope s_qas) := ⟨rfl, rfl, rfl, by decide +kernel, rfl, by decide +kernel, by decide +kernel⟩
theorem ok_qas {f_me : Addr} {fd_me : FuncData} {f_qao : Addr} {fd_qao : FuncData} (Fn : Fun K "_law_text" "_law_text" s_qas f_me fd_me) (T : Txt mg) (G_qao : FnOk P w K mg base CX0 1 f_qao fd_qao ["_law_left_here", "_law_many"] (liftSp K F_qao)) (m_qao : mg "_law_pick" = some (.ref f_qao)) (k_qao : W.keepIn K (.ref f_qao) = true) (b_qao : L2.Binds K fd_qao ["_law_left_here", "_law_many"] []) : FnOk P w K mg base CX0 2 f_me fd_me ["_law_left_here", "_law_words"] (liftSp K (F_qas)) :=
 Zao Fn sc_qas fun cdv A outer s H E hr => (@Zag _ _ _ _ _ (Zan (i := 2) sc_qas.nd rfl (Or.inl rfl) (ZbQ Zaj (Zal (Zaz hr) (ZaI (ZaE (@Zaa _ _ _ _ _ Zad (@Zaa _ _ _ _ _ Zad (@Zaa _ _ _ _ _ Zad (@Zaa _ _ _ _ _ Zad Zac (by rfl)) (by rfl)) (by rfl)) (by rfl)))) (Zae G_qao (hr.mono (by decide)) (by rfl) m_qao k_qao b_qao (@Zaa _ _ _ _ _ (Zab 0) (@Zaa _ _ _ _ _ Zad Zac (by rfl)) (by rfl)))))) (@Zag _ _ _ _ _ (q_sm_for PassesOwn.never rfl (q_im_enum (by rfl) T.b_enumerate (@Zaa _ _ _ _ _ (Zab 1) Zac (by rfl))) (q_gm_tup rfl (ZaO (Zaq (i := 3) sc_qas.nd rfl (Or.inl rfl)) (ZaO (Zaq (i := 4) sc_qas.nd rfl (Or.inl rfl)) ZbP))) (@Zah _ _ _ (Zan (i := 2) sc_qas.nd rfl (Or.inl rfl) (ZaG (ZaG (Zab 2) (ZbQ Zaj (ZaS (q_em_intc (by rfl) T.b_int (by rfl) (@Zaa _ _ _ _ _ (Zau op_gt gt_ok.r (Zab 3) Zad (nomark _)) Zac (by rfl))) (Zal (Zaz hr) (ZaI (ZaE (@Zaa _ _ _ _ _ Zad (@Zaa _ _ _ _ _ Zad (@Zaa _ _ _ _ _ Zad (@Zaa _ _ _ _ _ Zad Zac (by rfl)) (by rfl)) (by rfl)) (by rfl)))) (Zae G_qao (hr.mono (by decide)) (by rfl) m_qao k_qao b_qao (@Zaa _ _ _ _ _ (Zab 0) (@Zaa _ _ _ _ _ Zad Zac (by rfl)) (by rfl))))))) (Zab 4))))) (@Zah _ _ _ (@Zai _ _ _ _ (ZaG (Zab 2) (ZbQ Zaj (Zal (Zaz hr) (ZaI (ZaE (@Zaa _ _ _ _ _ Zad (@Zaa _ _ _ _ _ Zad (@Zaa _ _ _ _ _ Zad (@Zaa _ _ _ _ _ Zad Zac (by rfl)) (by rfl)) (by rfl)) (by rfl)))) (Zae G_qao (hr.mono (by decide)) (by rfl) m_qao k_qao b_qao (@Zaa _ _ _ _ _ (Zab 0) (@Zaa _ _ _ _ _ Zad Zac (by rfl)) (by rfl))))))))))
end
section
variable {P : Program} {w : World} {K : W.Frag} {mg : Str -> Option Value} {base : Heap}
noncomputable abbrev s_qaq : Stmt := top 46
theorem sc_qaq : FnScope ["_law_found", "_law_due"] ["_law_found", "_law_due"] (defScope s_qaq) := ⟨rfl, rfl, rfl, by decide +kernel, rfl, by decide +kernel, by decide +kernel⟩
theorem Zcf {f_me : Addr} {fd_me : FuncData} (Fn : Fun K "_law_same" "_law_same" s_qaq f_me fd_me) (T : Txt mg) (m_qaq : mg "_law_same" = some (.ref f_me)) (k_qaq : W.keepIn K (.ref f_me) = true) (b_qaq : L2.Binds K fd_me ["_law_found", "_law_due"] []) : ∀ n : Nat, FnOk P w K mg base CX0 (1 + n) f_me fd_me ["_law_found", "_law_due"] (liftSp K (F_qaq n))
 | 0 => fn_none
 | n + 1 => by
  have G_qaq := Zcf Fn T m_qaq k_qaq b_qaq n
  exact Zao Fn sc_qaq fun cdv A outer s H E hr => (@Zag _ _ _ _ _ (@ZaH _ _ _ _ _ _ _ _ (ZaD (Zaw (by rfl) T.b_isinstance (by rfl) (@Zaa _ _ _ _ _ (Zab 1) (@Zaa _ _ _ _ _ (ZaL (by rfl) T.b_tuple (by rfl)) Zac (by rfl)) (by rfl)))) (@Zag _ _ _ _ _ (@ZaH _ _ _ _ _ _ _ _ (q_WM_t (ZbM (ZaR (ZaD (Zaw (by rfl) T.b_isinstance (by rfl) (@Zaa _ _ _ _ _ (Zab 0) (@Zaa _ _ _ _ _ (ZaL (by rfl) T.b_tuple (by rfl)) Zac (by rfl)) (by rfl))))) (ZbH (ZaQ op_ne ne_ok.r (ZaF (by rfl) T.b_len (@Zaa _ _ _ _ _ (Zab 0) Zac (by rfl))) (ZaF (by rfl) T.b_len (@Zaa _ _ _ _ _ (Zab 1) Zac (by rfl))) (nomark _))))) (@Zah _ _ _ (@Zai _ _ _ _ Zba)) Zax) (@Zah _ _ _ (@Zai _ _ _ _ (q_em_all rfl (by rfl) T.b_all (by rfl) (@Zaa _ _ _ _ _ (ZaI (ZaV (vs := ["_law_one", "_law_other"]) (fs := []) (fr := []) (by exact ⟨rfl, rfl, rfl, rfl, rfl, rfl, rfl⟩) rfl (q_im_zip (by rfl) T.b_zip (@Zaa _ _ _ _ _ (Zab 0) (@Zaa _ _ _ _ _ (Zab 1) Zac (by rfl)) (by rfl))) (fun _ _ _ _ _ => (q_gm_tup rfl (ZaO (Zaq (i := 0) (show ((["_law_one", "_law_other"] : List Str) ++ ([] : List Str)).Nodup by decide +kernel) rfl (Or.inl rfl)) (ZaO (Zaq (i := 1) (show ((["_law_one", "_law_other"] : List Str) ++ ([] : List Str)).Nodup by decide +kernel) rfl (Or.inl rfl)) ZbP)))) (fun _ _ _ _ _ => Za4) (fun _ _ _ _ _ => (Zae G_qaq (hr.mono (by show _ <= 1 + n; lia)) (by rfl) m_qaq k_qaq b_qaq (@Zaa _ _ _ _ _ (Zab 0) (@Zaa _ _ _ _ _ (Zab 1) Zac (by rfl)) (by rfl)))))) Zac (by rfl)))))) Zax) (@Zag _ _ _ _ _ (@ZaH _ _ _ _ _ _ _ _ (ZaD (Zaw (by rfl) T.b_isinstance (by rfl) (@Zaa _ _ _ _ _ (Zab 1) (@Zaa _ _ _ _ _ (ZaL (by rfl) T.b_str (by rfl)) Zac (by rfl)) (by rfl)))) (@Zah _ _ _ (@Zai _ _ _ _ (Zap (Zaw (by rfl) T.b_isinstance (by rfl) (@Zaa _ _ _ _ _ (Zab 0) (@Zaa _ _ _ _ _ (ZaL (by rfl) T.b_str (by rfl)) Zac (by rfl)) (by rfl))) (ZaK (Zau ZbS Zb0.r (Zab 0) (Zab 1) (nomark _)))))) Zax) (@Zah _ _ _ (@Zai _ _ _ _ (Zap (Zaw (by rfl) T.b_isinstance (by rfl) (@Zaa _ _ _ _ _ (Zab 0) (@Zaa _ _ _ _ _ (ZaL (by rfl) T.b_int (by rfl)) Zac (by rfl)) (by rfl))) (Zap (q_em_not (Zaw (by rfl) T.b_isinstance (by rfl) (@Zaa _ _ _ _ _ (Zab 0) (@Zaa _ _ _ _ _ (ZaL (by rfl) T.b_bool (by rfl)) Zac (by rfl)) (by rfl)))) (ZaK (Zau ZbS Zb0.r (Zab 0) (Zab 1) (nomark _)))))))))
theorem ok_qaq {f_me : Addr} {fd_me : FuncData} (Fn : Fun K "_law_same" "_law_same" s_qaq f_me fd_me) (T : Txt mg) (m_qaq : mg "_law_same" = some (.ref f_me)) (k_qaq : W.keepIn K (.ref f_me) = true) (b_qaq : L2.Binds K fd_me ["_law_found", "_law_due"] []) : FnOk P w K mg base CX0 13 f_me fd_me ["_law_found", "_law_due"] (liftSp K (F_qaq 12)) :=
 Zcf Fn T m_qaq k_qaq b_qaq 12
end
section
variable {P : Program} {w : World} {K : W.Frag} {mg : Str -> Option Value} {base : Heap}
noncomputable abbrev s_law : Stmt := top 47
theorem sc_law : FnScope ["_law_script", "_law_k", "_law_left_here", "_law_claim_here", "_law_words"] ["_law_script"] (defScope s_law) := ⟨rfl, rfl, rfl, by decide +kernel, rfl, by decide +kernel, by decide +kernel⟩
theorem ok_law {f_me : Addr} {fd_me : FuncData} {f_qag f_qac f_qae f_qbn f_qbk f_qaq f_qas d_READ_FORMS f_qbd f_qbc f_qbe d_MARK_FORMS f_qbf : Addr} {fd_qag fd_qac fd_qae fd_qbn fd_qbk fd_qaq fd_qas : FuncData} (Fn : Fun K "law" "law" s_law f_me fd_me) (T : Txt mg) (GF_qag : FnOk P w K mg base CX0 2 f_qag fd_qag ["_law_script", "_law_k"] (liftSpF K FF_qag)) (m_qag : mg "_law_left" = some (.ref f_qag)) (k_qag : W.keepIn K (.ref f_qag) = true) (b_qag : L2.Binds K fd_qag ["_law_script", "_law_k"] []) (G_qac : FnOk P w K mg base CX0 4 f_qac fd_qac ["_law_left_here"] (liftSp K F_qac)) (m_qac : mg "_law_claim" = some (.ref f_qac)) (k_qac : W.keepIn K (.ref f_qac) = true) (b_qac : L2.Binds K fd_qac ["_law_left_here"] []) (G_qae : FnOk P w K mg base CX0 2 f_qae fd_qae ["_law_claim_here"] (liftSp K F_qae)) (m_qae : mg "_law_claim_words" = some (.ref f_qae)) (k_qae : W.keepIn K (.ref f_qae) = true) (b_qae : L2.Binds K fd_qae ["_law_claim_here"] []) (G_qbn : FnOk P w K mg base CX0 3 f_qbn fd_qbn ["claim"] (liftSp K F_qbn)) (m_qbn : mg "shown_claim" = some (.ref f_qbn)) (k_qbn : W.keepIn K (.ref f_qbn) = true) (b_qbn : L2.Binds K fd_qbn ["claim"] []) (G_qbk : FnOk P w K mg base CX0 6 f_qbk fd_qbk ["text"] (liftSp K (F_qbk d_READ_FORMS f_qbd f_qbc f_qbe d_MARK_FORMS f_qbf))) (m_qbk : mg "read_claim" = some (.ref f_qbk)) (k_qbk : W.keepIn K (.ref f_qbk) = true) (b_qbk : L2.Binds K fd_qbk ["text"] []) (G_qaq : FnOk P w K mg base CX0 13 f_qaq fd_qaq ["_law_found", "_law_due"] (liftSp K (F_qaq 12))) (m_qaq : mg "_law_same" = some (.ref f_qaq)) (k_qaq : W.keepIn K (.ref f_qaq) = true) (b_qaq : L2.Binds K fd_qaq ["_law_found", "_law_due"] []) (G_qas : FnOk P w K mg base CX0 2 f_qas fd_qas ["_law_left_here", "_law_words"] (liftSp K F_qas)) (m_qas : mg "_law_text" = some (.ref f_qas)) (k_qas : W.keepIn K (.ref f_qas) = true) (b_qas : L2.Binds K fd_qas ["_law_left_here", "_law_words"] []) : FnOk P w K mg base CX0 14 f_me fd_me ["_law_script"] (liftSp K (F_law d_READ_FORMS f_qbd f_qbc f_qbe d_MARK_FORMS f_qbf)) :=
 Zao Fn sc_law fun cdv A outer s H E hr => (@Zag _ _ _ _ _ (q_sm_for PassesOwn.never rfl (ZbO (by rfl) T.b_range (@Zaa _ _ _ _ _ (ZaG Zad (q_em_min rfl (by rfl) T.b_min (by rfl) (@Zaa _ _ _ _ _ Zad (@Zaa _ _ _ _ _ (ZaF (by rfl) T.b_len (@Zaa _ _ _ _ _ (Zab 0) Zac (by rfl))) Zac (by rfl)) (by rfl)))) Zac (by rfl))) (Zaq (i := 1) sc_law.nd rfl (Or.inl rfl)) (@Zag _ _ _ _ _ (q_sm_new (i := 2) sc_law.nd rfl (Or.inl rfl) (q_fm_call GF_qag (hr.mono (by decide)) (by rfl) m_qag k_qag b_qag (@Zaa _ _ _ _ _ (Zab 0) (@Zaa _ _ _ _ _ (Zab 1) Zac (by rfl)) (by rfl)))) (@Zag _ _ _ _ _ (Zan (i := 3) sc_law.nd rfl (Or.inl rfl) (Zae G_qac (hr.mono (by decide)) (by rfl) m_qac k_qac b_qac (@Zaa _ _ _ _ _ (Zab 2) Zac (by rfl)))) (@Zag _ _ _ _ _ (Zan (i := 4) sc_law.nd rfl (Or.inl rfl) (Zae G_qae (hr.mono (by decide)) (by rfl) m_qae k_qae b_qae (@Zaa _ _ _ _ _ (Zab 3) Zac (by rfl)))) (@Zag _ _ _ _ _ (@ZaH _ _ _ _ _ _ _ _ (q_WM_t (ZbM (ZaQ op_ne ne_ok.r (Zae G_qbn (hr.mono (by decide)) (by rfl) m_qbn k_qbn b_qbn (@Zaa _ _ _ _ _ (Zab 3) Zac (by rfl))) (Za1 Zaj (@Zaa _ _ _ _ _ (Zab 4) Zac (by rfl))) (nomark _)) (ZbH (ZaR (ZaD (Zae G_qaq (hr.mono (by decide)) (by rfl) m_qaq k_qaq b_qaq (@Zaa _ _ _ _ _ (Zae G_qbk (hr.mono (by decide)) (by rfl) m_qbk k_qbk b_qbk (@Zaa _ _ _ _ _ (Za1 Zaj (@Zaa _ _ _ _ _ (Zab 4) Zac (by rfl))) Zac (by rfl))) (@Zaa _ _ _ _ _ (Zab 3) Zac (by rfl)) (by rfl)))))))) (@Zah _ _ _ (@Zai _ _ _ _ Zba)) Zax) (@Zag _ _ _ _ _ (@ZaH _ _ _ _ _ _ _ _ (ZaR (ZaD (Zae G_qaq (hr.mono (by decide)) (by rfl) m_qaq k_qaq b_qaq (@Zaa _ _ _ _ _ (Zae G_qbk (hr.mono (by decide)) (by rfl) m_qbk k_qbk b_qbk (@Zaa _ _ _ _ _ (Zae G_qas (hr.mono (by decide)) (by rfl) m_qas k_qas b_qas (@Zaa _ _ _ _ _ (Zab 2) (@Zaa _ _ _ _ _ (Zab 4) Zac (by rfl)) (by rfl))) Zac (by rfl))) (@Zaa _ _ _ _ _ (Zab 3) Zac (by rfl)) (by rfl))))) (@Zah _ _ _ (@Zai _ _ _ _ Zba)) Zax) (@Zah _ _ _ (@ZaH _ _ _ _ _ _ _ _ (ZaQ op_ne ne_ok.r (Zae G_qbn (hr.mono (by decide)) (by rfl) m_qbn k_qbn b_qbn (@Zaa _ _ _ _ _ (Zab 3) Zac (by rfl))) (Za1 Zaj (@Zaa _ _ _ _ _ (Zab 4) Zac (by rfl))) (nomark _)) (@Zah _ _ _ (@Zai _ _ _ _ Zba)) Zax)))))))) (@Zah _ _ _ (@Zai _ _ _ _ Zba)))
end
local macro_rules
 | `(tactic| simp! [$args,*]) => `(tactic| simp [mDef, mRet, mRetF, mAndV, mOrV, mNotV, mCB, mOp, mChain, mTest, mTru, mNotT, mAndT, mOrT, mIf, mIfS, mSeq, mSkip, mSet, mDrop, mTup, mLst, mVal, mFn, mFnF, mSlice, mMt, mDict, mDict0, mList, listH, bnd, opM, aCons, aNil, mVar, mC, Pu.ret, g1, g2, derefs, deref, isiH, isiP, tyN, mB, asB, intP, fin, truP, lenH, Pu.plain, oNo, oPart, Pu.intD, sliceD, sliceP, isTy, tyP, mtD, eqP, neP, scP, $args,*])
noncomputable def okv : PV -> Bool
 | .dtt _ _ => false
 | .fn _ => false
 | .ty _ => false
 | _ => true
noncomputable def AZ : Str := "abcdefghijklmnopqrstuvwxyz"
noncomputable def wordB (z : Str) : Bool := decide (1 <= (z.length : Int)) && decide ((z.length : Int) <= 12) && z.cps.toList.all AZ.cps.contains
noncomputable def wordP : PV -> Bool
 | .str z => wordB z
 | _ => false
noncomputable def numB (x : PV) (m : Int) : Bool := match x with
 | .int i => decide (m <= i)
 | _ => false
noncomputable def belB (x : PV) (b : Int) : Bool := match x with
 | .int i => decide (0 <= i) && decide (i < b)
 | _ => false
theorem ZaW (x : PV) (m : Int) (C : Cs) (h : okv x = true) : F_qba [.v x, .v (.int m)] C = some (.v (.bl (numB x m)), C) := by
  cases x <;> first
    | (cases h; done)
    | (simp! [F_qba, numB])
theorem Zbo (x : PV) (b : Int) (C : Cs) (h : okv x = true) : F_qbb [.v x, .v (.int b)] C = some (.v (.bl (belB x b)), C) := by
 cases x with
 | int i => by_cases hi : (0 : Int) <= i <;> simp! [F_qbb, ZaW _ _ _ h, numB, belB, hi]
 | dtt a b => cases h
 | fn a => cases h
 | ty a => cases h
 | _ => simp! [F_qbb, ZaW _ _ _ h, numB, belB]
theorem comp_map {te : PSt -> M SV} {f : PV -> PV} : ∀ (xs : List PV) (ρ : PSt) (ys : List PV) (C : Cs), (∀ x ∈ xs, te (ρ.set 0 (some (.v x))) C = some (.v (f x), C)) -> compL (hName 0) tOk te xs ρ ys C = some (ys ++ xs.map f, C)
 | [], ρ, ys, C, _ => by simp [compL, Pu.ret]
 | x :: xs, ρ, ys, C, h => by
  have h1 := h x (by simp)
  have h2 := comp_map xs (ρ.set 0 (some (.v x))) (ys ++ [f x]) C fun y hy => by rw [List.set_set]; exact h y (by simp [hy])
  simp [compL, hName, bnd, tOk, Pu.ret, h1, h2]
theorem Zb5 {α : Type} (g : α -> Bool) : ∀ l : List α, boolsP (l.map fun c => PV.bl (g c)) = some (l.map g)
 | [] => rfl
 | a :: l => by simp [boolsP, Zb5 g l]
theorem ZbL (c : Nat) (z : Str) : strIn ⟨#[c]⟩ z = z.cps.toList.contains c := by
 unfold strIn
 rw [PySem.StrLaws.found_one]
 simp
theorem AZ_contains : AZ.cps.toList.contains = AZ.cps.contains := by
 funext c; simp
theorem Zck (x : PV) (C : Cs) (h : okv x = true) : F_qbh [.v x] C = some (.v (.bl (wordP x)), C) := by
 cases x with
 | str z =>
  by_cases h1 : 1 <= (z.length : Int)
  ·by_cases h2 : (z.length : Int) <= 12
   ·have hl : z.cps.size <= 100000 := by
     have : z.cps.size = z.length := rfl
     lia
    unfold F_qbh B_qbh
    generalize hte : mOp (g2 inP) (mVar 0) (mC (.str "abcdefghijklmnopqrstuvwxyz")) = te
    have key : compL (hName 0) tOk te (z.cps.toList.map fun c => .str ⟨#[c]⟩) [none] [] C = some (z.cps.toList.map fun c => PV.bl (AZ.cps.contains c), C) := by
     subst hte
     have := comp_map (te := mOp (g2 inP) (mVar 0) (mC (.str "abcdefghijklmnopqrstuvwxyz"))) (f := fun p => match p with | .str y => .bl (strIn y AZ) | _ => .non) (z.cps.toList.map fun c => .str ⟨#[c]⟩) [none] [] C (fun x hx => by
      obtain ⟨c, _, rfl⟩ := List.mem_map.mp hx
      simp [mOp, bnd, mVar, mC, opM, g2, deref, inP, inB, AZ])
     rw [this, List.nil_append, List.map_map]
     congr 3
     funext c
     simp only [Function.comp, ZbL]
     rw [AZ_contains]
    simp! [h1, h2, mComp, mItems, itemsP, stIn', hl, key, allH, Zb5, wordP, wordB, List.all_map]
   ·simp! [F_qbh, h1, h2, wordP, wordB]
  ·simp! [F_qbh, h1, wordP, wordB]
 | dtt a b => cases h
 | fn a => cases h
 | ty a => cases h
 | _ => simp! [F_qbh, wordP]
theorem row_tup (ps : List PV) (a b : Int) (C : Cs) : F_qbg [.v (.tup ps), .v (.int a), .v (.int b)] C = some (.v (.bl (decide (a <= ps.length) && decide ((ps.length : Int) <= b))), C) := by
 by_cases h : a <= ps.length
 ·by_cases h2 : (ps.length : Int) <= b <;> simp! [F_qbg, h, h2]
 ·simp! [F_qbg, h]
theorem tk (C : Cs) (k : Nat) (v : PV) : (C.set k v).take C.length = C.set k v := List.take_of_length_le (by simp)
theorem setAt {C : Cs} {k : Nat} {v w : PV} (h : C[k]? = some w) : (C.set k v)[k]? = some v := by
 have : k < C.length := by
  rcases Nat.lt_or_ge k C.length with q | q
  ·exact q
  ·rw [List.getElem?_eq_none_iff.mpr q] at h; cases h
 rw [List.getElem?_set_self this]
theorem pick_spec (k : Nat) (x y m : Int) (C : Cs) (hC : C[k]? = some (.lst [.int x, .int y])) (hy : 0 <= y /\ y < 2147483647) (hm : 0 < m /\ m < 1606938044258990275541962092341162602522202993782792835301376) :
  ∃ d x' y', F_qao [.c k, .v (.int m)] C = some (.v (.int d), C.set k (.lst [.int x', .int y'])) /\ 0 <= d /\ d < m /\ 0 <= y' /\ y' < 2147483647 := by
 by_cases hx : 0 < x
 ·refine ⟨x % m, x / m, y, ?_, Int.emod_nonneg _ (by lia), Int.emod_lt_of_pos _ hm.1, hy.1, hy.2⟩
  simp! [F_qao, ixQ, ixP, atI, ixN, hC, hx, hm.1, hm.2, mSetIx, setC, tk]
 ·have h1 : 0 <= (y * 48271 + 12345) % 2147483647 := Int.emod_nonneg _ (by decide)
  have h2 : (y * 48271 + 12345) % 2147483647 < 2147483647 := Int.emod_lt_of_pos _ (by decide)
  refine ⟨(y * 48271 + 12345) % 2147483647 * ((y * 48271 + 12345) % 2147483647) % 1999999973 % m, x, (y * 48271 + 12345) % 2147483647, ?_, Int.emod_nonneg _ (by lia), Int.emod_lt_of_pos _ hm.1, h1, h2⟩
  generalize hz : (y * 48271 + 12345) % 2147483647 = z at h1 h2
  have c1 : (-18446744073709551616 < z /\ z < 18446744073709551616) := by lia
  simp! [F_qao, ixQ, ixP, atI, ixN, hC, hx, hm.1, hm.2, mSetIx, setC, tk, addP, setAt hC, hz, c1]
noncomputable def GS (C : Cs) (k : Nat) : Prop := ∃ x y : Int, C[k]? = some (.lst [.int x, .int y]) /\ 0 <= y /\ y < 2147483647
structure Adv (k : Nat) (C C' : Cs) : Prop where
 len : C'.length = C.length
 gs : GS C' k
 oth : ∀ j, j ≠ k -> C'[j]? = C[j]?
theorem Adv.refl {k : Nat} {C : Cs} (h : GS C k) : Adv k C C := ⟨rfl, h, fun _ _ => rfl⟩
theorem Adv.trans {k : Nat} {C C1 C2 : Cs} (a : Adv k C C1) (b : Adv k C1 C2) : Adv k C C2 := ⟨b.len.trans a.len, b.gs, fun j h => (b.oth j h).trans (a.oth j h)⟩
theorem Adv.take {k : Nat} {C C' : Cs} (a : Adv k C C') : C'.take C.length = C' := List.take_of_length_le (by rw [a.len]; exact Nat.le_refl _)
theorem ZaB (k : Nat) (m : Int) (C : Cs) (h : GS C k) (hm : 0 < m /\ m < 1606938044258990275541962092341162602522202993782792835301376) : ∃ d C', F_qao [.c k, .v (.int m)] C = some (.v (.int d), C') /\ 0 <= d /\ d < m /\ Adv k C C' := by
 obtain ⟨x, y, hC, h1, h2⟩ := h
 obtain ⟨d, x', y', e, a1, a2, a3, a4⟩ := pick_spec k x y m C hC ⟨h1, h2⟩ hm
 exact ⟨d, _, e, a1, a2, by simp, ⟨x', y', setAt hC, a3, a4⟩, fun j hj => by rw [List.getElem?_set_ne (Ne.symm hj)]⟩
theorem comp_adv {te : PSt -> M SV} {k : Nat} {Pp : PV -> Prop} : ∀ (xs : List PV) (ρ : PSt) (ys : List PV) (C : Cs), GS C k -> (∀ x C, GS C k -> ∃ p C', te (ρ.set 0 (some (.v x))) C = some (.v p, C') /\ Pp p /\ Adv k C C') ->
  ∃ zs C', compL (hName 0) tOk te xs ρ ys C = some (ys ++ zs, C') /\ zs.length = xs.length /\ (∀ p ∈ zs, Pp p) /\ Adv k C C'
 | [], ρ, ys, C, g, h => ⟨[], C, by simp [compL, Pu.ret], rfl, by simp, Adv.refl g⟩
 | x :: xs, ρ, ys, C, g, h => by
  obtain ⟨p, C1, e1, hp, a1⟩ := h x C g
  obtain ⟨zs, C2, e2, hl, hz, a2⟩ := comp_adv (te := te) (Pp := Pp) xs (ρ.set 0 (some (.v x))) (ys ++ [p]) C1 a1.gs fun y C' g' => by rw [List.set_set]; exact h y C' g'
  refine ⟨p :: zs, C2, ?_, by simp [hl], fun q hq => ?_, a1.trans a2⟩
  ·simp! [compL, hName, tOk, e1, e2]
  ·rcases List.mem_cons.mp hq with rfl | hq
   ·exact hp
   ·exact hz q hq
theorem Zcp (ns : List Int) (i : Int) (C : Cs) (hi : 0 <= i) : ∃ v : Int, F_qaa [.v (.lst (ns.map .int)), .v (.int i)] C = some (.v (.int v), C) := by
 by_cases h : i < ns.length
 ·have hd : i.toNat < ns.length := by lia
  refine ⟨ns[i.toNat], ?_⟩
  simp! [F_qaa, ixQ, ixP, atI, ixN, hi, h, List.getElem?_eq_getElem hd]
 ·exact ⟨0, by simp! [F_qaa, h]⟩
theorem left_eq (ns : List Int) (k : Int) (C : Cs) (h1 : 0 <= k) (h2 : k <= 1000) : ∃ x y : Int, FF_qag [.v (.lst (ns.map .int)), .v (.int k)] C = some ([.int x, .int y], C) /\ 0 <= y /\ y < 2147483647 := by
 have hm : 0 < (if (ns.length : Int) > 1 then (ns.length : Int) else 1) := by split <;> lia
 obtain ⟨v, ev⟩ := Zcp ns (k % (if (ns.length : Int) > 1 then (ns.length : Int) else 1)) C (Int.emod_nonneg _ (by lia))
 obtain ⟨u, eu⟩ := Zcp ns 0 C (by decide)
 have c1 : -18446744073709551616 < k /\ k < 18446744073709551616 := by lia
 have hm' : 0 < (if 1 < (ns.length : Int) then (ns.length : Int) else 1) := hm
 have ev' : F_qaa [.v (.lst (ns.map .int)), .v (.int (k % (if 1 < (ns.length : Int) then (ns.length : Int) else 1)))] C = some (.v (.int v), C) := ev
 have hcast : (if 1 < (ns.length : Int) then (ns.length : Int) else 1) = if 1 < ns.length then (ns.length : Int) else 1 := by
  by_cases q : 1 < ns.length
  ·rw [if_pos q, if_pos (by lia)]
  ·rw [if_neg q, if_neg (by lia)]
 have p40 : (0 : Int) < 10 ^ 40 := by decide
 by_cases hu : u % 2 = 0
 ·refine ⟨0, (v % 2147483629 + 7919 * k * k + 11) * 48271 % 2147483647, ?_, Int.emod_nonneg _ (by decide), Int.emod_lt_of_pos _ (by decide)⟩
  simp! [FF_qag, mDefF, maxH, ev', eu, hm', c1, addP, hu]
 ·refine ⟨v % 10 ^ 40, (v % 2147483629 + 7919 * k * k + 11) * 48271 % 2147483647, ?_, Int.emod_nonneg _ (by decide), Int.emod_lt_of_pos _ (by decide)⟩
  simp! [FF_qag, mDefF, maxH, ev', eu, hm', c1, addP, hu]
theorem loop_inv {g : PV -> PSt -> Option PSt} {f : PSt -> M PF} (Pi : PSt -> Cs -> Prop) : ∀ (xs : List PV), (∀ x ∈ xs, ∀ ρ C, Pi ρ C -> ∃ ρ1 ρ2 C2, g x ρ = some ρ1 /\ f ρ1 C = some (.nx ρ2, C2) /\ Pi ρ2 C2) -> ∀ ρ C, Pi ρ C -> ∃ ρ' C', loop g f xs ρ C = some (.nx ρ', C') /\ Pi ρ' C'
 | [], _, ρ, C, h => ⟨ρ, C, rfl, h⟩
 | x :: xs, hs, ρ, C, h => by
  obtain ⟨ρ1, ρ2, C2, e1, e2, h2⟩ := hs x (by simp) ρ C h
  obtain ⟨ρ', C', e3, h3⟩ := loop_inv Pi xs (fun y hy => hs y (by simp [hy])) ρ2 C2 h2
  refine ⟨ρ', C', ?_, h3⟩
  unfold loop
  simp only [e1, bnd, e2, e3]
noncomputable def spl (c : Nat) : List Nat -> List (List Nat)
 | [] => [[]]
 | x :: r => if x = c then [] :: spl c r else (x :: (spl c r).headD []) :: (spl c r).tail
theorem spl_ne (c : Nat) : ∀ l, spl c l ≠ []
 | [] => by simp [spl]
 | x :: r => by unfold spl; split <;> simp
theorem ht {l : List (List Nat)} (h : l ≠ []) : l.headD [] :: l.tail = l := by cases l <;> simp_all
theorem ZbE {c : Nat} : ∀ {w : List Nat}, c ∉ w -> spl c w = [w]
 | [], _ => rfl
 | x :: r, h => by
  simp only [List.mem_cons, not_or] at h
  unfold spl
  rw [if_neg (Ne.symm h.1), ZbE h.2]; rfl
theorem spl_app (c : Nat) (b : List Nat) : ∀ a, spl c (a ++ c :: b) = spl c a ++ spl c b
 | [] => by simp [spl]
 | x :: r => by
  have e := spl_app c b r
  have := spl_ne c r
  show (if x = c then [] :: spl c (r ++ c :: b) else (x :: (spl c (r ++ c :: b)).headD []) :: (spl c (r ++ c :: b)).tail) = (if x = c then [] :: spl c r else (x :: (spl c r).headD []) :: (spl c r).tail) ++ spl c b
  split
  ·rw [e]; rfl
  ·rw [e]
   cases h : spl c r with
   | nil => exact absurd h this
   | cons p q => rfl
noncomputable def glue (c : Nat) : List (List Nat) -> List Nat
 | [] => []
 | [p] => p
 | p :: q => p ++ c :: glue c q
theorem spl_glue {c : Nat} : ∀ {ps : List (List Nat)}, ps ≠ [] -> (∀ p ∈ ps, c ∉ p) -> spl c (glue c ps) = ps
 | [], h, _ => absurd rfl h
 | [p], _, h => ZbE (h p (by simp))
 | p :: q :: r, _, h => by
  show spl c (p ++ c :: glue c (q :: r)) = _
  rw [spl_app, ZbE (h p (by simp)), spl_glue (by simp) fun z hz => h z (by simp [hz])]; rfl
theorem Zbx (a b : Str) : (a ++ b).cps = a.cps ++ b.cps := rfl
theorem Zbb (c : Nat) : ∀ ps : List Str, (Str.join ⟨#[c]⟩ ps).cps.toList = glue c (ps.map (·.cps.toList))
 | [] => rfl
 | [p] => rfl
 | p :: q :: r => by
  rw [join_cons_cons, Zbx, Zbx, Array.toList_append, Array.toList_append, Zbb c (q :: r)]
  show p.cps.toList ++ [c] ++ _ = p.cps.toList ++ c :: glue c ((q :: r).map _)
  simp
theorem split_spl (c : Nat) (x : Str) : (Txt.split x ⟨#[c]⟩).map (·.cps.toList) = spl c x.cps.toList := by
 have h1 := StrLaws.join_split x ⟨#[c]⟩
 have h2 := StrLaws.split_free x c
 have h3 := split_pos x ⟨#[c]⟩
 generalize Txt.split x ⟨#[c]⟩ = P at *
 rw [← h1, Zbb, spl_glue]
 ·intro e
  rw [List.map_eq_nil_iff] at e
  subst e; simp at h3
 ·intro p hp
  obtain ⟨q, hq, rfl⟩ := List.mem_map.mp hp
  exact h2 q hq
theorem str_ext {a b : Str} (h : a.cps.toList = b.cps.toList) : a = b := by
 cases a; cases b
 congr 1
 exact Array.toList_inj.mp h
theorem map_inj : ∀ {P R : List Str}, P.map (·.cps.toList) = R.map (·.cps.toList) -> P = R
 | [], [], _ => rfl
 | [], _ :: _, h => by simp at h
 | _ :: _, [], h => by simp at h
 | a :: P, b :: R, h => by
  simp only [List.map_cons, List.cons.injEq] at h
  rw [str_ext h.1, map_inj h.2]
theorem split_join {c : Nat} {ps : List Str} (hn : ps ≠ []) (h : ∀ p ∈ ps, c ∉ p.cps.toList) : Txt.split (Str.join ⟨#[c]⟩ ps) ⟨#[c]⟩ = ps := by
 apply map_inj
 rw [split_spl, Zbb, spl_glue (by simpa using hn)]
 intro p hp
 obtain ⟨q, hq, rfl⟩ := List.mem_map.mp hp
 exact h q hq
noncomputable def ne0 (x : Str) : Bool := decide (x.length ≠ 0)
noncomputable def wds (c : Nat) (l : List Nat) : List (List Nat) := (spl c l).filter fun p => !p.isEmpty
theorem wds_app (c : Nat) (a b : List Nat) : wds c (a ++ c :: b) = wds c a ++ wds c b := by unfold wds; rw [spl_app, List.filter_append]
theorem wds_nil (c : Nat) : wds c [] = [] := rfl
theorem wds_one {c : Nat} {w : List Nat} (h : c ∉ w) (hw : w ≠ []) : wds c w = [w] := by
 unfold wds; rw [ZbE h]; simp [hw]
theorem Zbt (c : Nat) (l : List Nat) : ∀ k, wds c (List.replicate k c ++ l) = wds c l
 | 0 => rfl
 | k + 1 => by
  have := wds_app c [] (List.replicate k c ++ l)
  rw [List.replicate_succ, List.cons_append]
  rw [List.nil_append, wds_nil, List.nil_append] at this
  rw [this, Zbt c l k]
theorem wds_end (c : Nat) (l : List Nat) : ∀ k, wds c (l ++ List.replicate k c) = wds c l
 | 0 => by simp
 | k + 1 => by
  rw [List.replicate_succ, wds_app]
  have := Zbt c [] k
  rw [List.append_nil] at this
  rw [this, wds_nil, List.append_nil]
theorem wds_glue {c : Nat} : ∀ {ps : List (List Nat)}, (∀ p ∈ ps, c ∉ p /\ p ≠ []) -> wds c (glue c ps) = ps
 | [], _ => rfl
 | [p], h => wds_one (h p (by simp)).1 (h p (by simp)).2
 | p :: q :: r, h => by
  show wds c (p ++ c :: glue c (q :: r)) = _
  rw [wds_app, wds_one (h p (by simp)).1 (h p (by simp)).2, wds_glue fun z hz => h z (by simp [hz])]; rfl
theorem ZbB (x : Str) (c : Nat) (ps : List Str) (h : wds c x.cps.toList = ps.map (·.cps.toList)) : (Txt.split x ⟨#[c]⟩).filter ne0 = ps := by
 apply map_inj
 rw [← h]
 unfold wds
 rw [← split_spl, List.filter_map]
 congr 1
 apply List.filter_congr
 intro p hp
 unfold ne0
 show decide (p.cps.size ≠ 0) = !p.cps.toList.isEmpty
 rw [← Array.length_toList]
 cases p.cps.toList <;> simp
theorem dig_head (m : Nat) (h0 : m ≠ 0) : ∃ c r, Nat.toDigits 10 m = c :: r ∧ c ≠ '0' := by
  rcases Nat.lt_or_ge m 10 with h | h
  · have first : ∀ k : Fin 10, k.1 ≠ 0 → Nat.digitChar k.1 ≠ '0' := by decide
    exact ⟨_, [], Nat.toDigits_of_lt_base h, first ⟨m, h⟩ h0⟩
  · obtain ⟨c, r, e, hc⟩ := dig_head (m / 10) (by omega)
    have last := Nat.toDigits_append_toDigits (b := 10) (n := m / 10) (d := m % 10) (by decide) (by omega) (by omega)
    rw [Nat.div_add_mod, e] at last
    exact ⟨c, _, last.symm, hc⟩
termination_by m
decreasing_by omega
noncomputable def figs (z : Str) : Prop := ∀ c ∈ z.cps.toList, 48 <= c /\ c <= 57
theorem Zbm {n : Int} (h0 : 0 ≤ n) : figs (numS n) := by
  obtain ⟨m, rfl⟩ : ∃ m : Nat, n = m := ⟨n.toNat, by omega⟩
  intro c hc
  rw [numS, PySem.W.KIN.signs_num, List.mem_map] at hc
  obtain ⟨ch, hch, rfl⟩ := hc
  exact digit_range (Nat.isDigit_of_mem_toDigits (by decide) (by decide) hch)
theorem Zbu {n : Int} (h0 : 0 <= n) (h1 : n < 10 ^ 30) : (numS n).length <= 30 := by
 obtain ⟨m, rfl⟩ := Int.eq_ofNat_of_zero_le h0
 show (numS (m : Int)).cps.size <= 30
 unfold numS
 rw [← Array.length_toList, W.KIN.signs_num, List.length_map]
 exact toDigits_len_pow (by decide) (by decide) (by lia)
theorem num_ne {n : Int} (h0 : 0 ≤ n) : (numS n).cps.toList ≠ [] := by
  obtain ⟨m, rfl⟩ : ∃ m : Nat, n = m := ⟨n.toNat, by omega⟩
  rw [numS, PySem.W.KIN.signs_num]
  by_cases z : m = 0
  · subst z; decide
  · obtain ⟨c, r, q, _⟩ := dig_head m z
    rw [q]; exact fun e => nomatch e
theorem num_back {n : Int} (h0 : 0 ≤ n) (h1 : n < 10 ^ 30) : PySem.intText? (numS n) = some n := by
  have e := intText_digits (Zbm h0) (num_ne h0) (by have := Zbu h0 h1; omega)
  obtain ⟨m, rfl⟩ : ∃ m : Nat, n = m := ⟨n.toNat, by omega⟩
  rw [e, numS, PySem.W.KIN.signs_num, PySem.W.KIN.val_back]
theorem num_zero : numS 0 = "0" := by decide +kernel
theorem num_head {n : Int} (h0 : 0 <= n) : numS n = "0" \/ ∃ c r, (numS n).cps.toList = c :: r /\ c ≠ 48 := by
 by_cases hn : n = 0
 ·subst hn; exact .inl num_zero
 ·refine .inr ?_
  obtain ⟨m, rfl⟩ := Int.eq_ofNat_of_zero_le h0
  obtain ⟨c, r, e, hc⟩ := dig_head m (by lia)
  refine ⟨c.toNat, r.map Char.toNat, by unfold numS; rw [W.KIN.signs_num, e]; rfl, fun h => hc ?_⟩
  exact Char.ext (UInt32.toNat_inj.mp h)
noncomputable def FG : Str := "0123456789"
theorem fg_in {c : Nat} (h : 48 <= c /\ c <= 57) : FG.cps.toList.contains c = true := by
 have : ∀ k : Fin 10, FG.cps.toList.contains (48 + k.1) = true := by decide +kernel
 have h2 := this ⟨c - 48, by lia⟩
 rwa [show 48 + (c - 48) = c by lia] at h2
theorem is_figures_eq {z : Str} (hd : figs z) (hz : z = "0" \/ ∃ c r, z.cps.toList = c :: r /\ c ≠ 48) (hl : z.length <= 1000) (C : Cs) : F_qay [.v (.str z)] C = some (.v (.bl true), C) := by
 by_cases hz0 : z = "0"
 ·subst hz0
  simp! [F_qay]
 ·rcases hz with hz | ⟨c, r, e, hc⟩
  ·exact absurd hz hz0
  ·have hs : z.cps.size <= 100000 := by
    have : z.cps.size = z.length := rfl
    lia
   have h1 : z ≠ "" := by rintro rfl; cases e
   have h2 : ixQ (.str z) (.int 0) = some (.str ⟨#[c]⟩) := by
    have hp : (0 : Int) < (z.cps.toList.length : Int) := by rw [e]; simp
    show (atI z.cps.toList 0).map _ = _
    unfold atI ixN
    rw [if_pos (by decide), if_pos hp, e]
    rfl
   have h3 : (⟨#[c]⟩ : Str) ≠ "0" := by
    intro q
    have := congrArg (fun y : Str => y.cps.toList) q
    have h48 : ("0" : Str).cps.toList = [48] := by decide +kernel
    simp [h48] at this
    exact hc this
   unfold F_qay B_qay
   generalize hte : mOp (g2 inP) (mVar 0) (mC (.str "0123456789")) = te
   have key : compL (hName 0) tOk te (z.cps.toList.map fun c => .str ⟨#[c]⟩) [none] [] C = some (z.cps.toList.map fun c => PV.bl (FG.cps.toList.contains c), C) := by
    subst hte
    have := comp_map (te := mOp (g2 inP) (mVar 0) (mC (.str "0123456789"))) (f := fun p => match p with | .str y => .bl (strIn y FG) | _ => .non) (z.cps.toList.map fun c => .str ⟨#[c]⟩) [none] [] C (fun x hx => by
     obtain ⟨c, _, rfl⟩ := List.mem_map.mp hx
     simp [mOp, bnd, mVar, mC, opM, g2, deref, inP, inB, FG])
    rw [this, List.nil_append, List.map_map]
    congr 3
    funext c
    simp only [Function.comp, ZbL]
   have hall : ∀ c ∈ z.cps.toList, FG.cps.toList.contains c = true := fun c hc => fg_in (hd c hc)
   generalize FG.cps.toList = fg at *
   have hall2 : z.cps.toList.all fg.contains = true := List.all_eq_true.mpr hall
   simp! [hz0, h1, h2, h3, mComp, mItems, itemsP, stIn', hs, key, allH, Zb5]
   intro i hi
   have := hall z.cps[i] (by simp)
   simpa using this
theorem need_t (C : Cs) : F_qbj [.v (.bl true)] C = some (.v .non, C) := by simp! [F_qbj]
theorem Zbh {n : Int} (h0 : 0 <= n) (h1 : n < 10 ^ 30) (C : Cs) : F_qbm [.v (.str (numS n))] C = some (.v (.int n), C) := by
 have hl := Zbu h0 h1
 have e := is_figures_eq (Zbm h0) (num_head h0) (by lia) C
 have e2 := num_back h0 h1
 have hl2 : (numS n).length <= 640 := by lia
 generalize numS n = z at *
 simp! [F_qbm, e, need_t, intTH, hl2, e2]
theorem ZbA (L : List PV) (d : Int) (h1 : 0 <= d) (h2 : d < L.length) : ∃ p ∈ L, ixQ (.lst L) (.int d) = some p := by
 have hd : d.toNat < L.length := by lia
 refine ⟨L[d.toNat], List.getElem_mem hd, ?_⟩
 simp [ixQ, ixP, atI, ixN, h1, h2, List.getElem?_eq_getElem hd]
theorem Zcg (k : Nat) (C : Cs) (g : GS C k) : ∃ n C', F_qam [.c k] C = some (.v (.int n), C') /\ 0 <= n /\ n < 10 ^ 30 /\ Adv k C C' := by
 obtain ⟨d, C1, e1, h1, h2, a1⟩ := ZaB k 4 C g (by decide)
 obtain ⟨p, hp, e2⟩ := ZbA [.int 9, .int 100, .int 100000000000000000000000000000, .int 1000000000000000000000000000000] d h1 (by simpa using h2)
 obtain ⟨m, rfl, hm1, hm2⟩ : ∃ m : Int, p = .int m /\ 9 <= m /\ m <= 1000000000000000000000000000000 := by
  simp only [List.mem_cons, List.not_mem_nil, or_false] at hp
  rcases hp with rfl | rfl | rfl | rfl <;> exact ⟨_, rfl, by decide, by decide⟩
 obtain ⟨a, C2, e3, h3, h4, a2⟩ := ZaB k m C1 a1.gs (by lia)
 obtain ⟨b, C3, e4, h5, h6, a3⟩ := ZaB k 3 C2 a2.gs (by decide)
 obtain ⟨c, C4, e5, h7, h8, a4⟩ := ZaB k 2 C3 a3.gs (by decide)
 obtain ⟨q, hq, e6⟩ := ZbA [.int a, .int (m - 1 - b)] c h7 (by simpa using h8)
 have a5 := ((a1.trans a2).trans a3).trans a4
 obtain ⟨n, rfl, hn⟩ : ∃ n : Int, q = .int n /\ 0 <= n /\ n < 10 ^ 30 := by
  simp only [List.mem_cons, List.not_mem_nil, or_false] at hq
  rcases hq with rfl | rfl
  ·exact ⟨_, rfl, by lia, by lia⟩
  ·exact ⟨_, rfl, by lia, by lia⟩
 refine ⟨n, C4, ?_, hn.1, hn.2, a5⟩
 simp! [F_qam, e1, e2, e3, e4, e5, e6, a5.take]
theorem az_in (d : Int) (h1 : 0 <= d) (h2 : d < 26) : ∃ c, ixQ (.str "abcdefghijklmnopqrstuvwxyz") (.int d) = some (.str ⟨#[c]⟩) /\ AZ.cps.contains c = true := by
 have hl : ("abcdefghijklmnopqrstuvwxyz" : Str).cps.toList.length = 26 := by rfl
 have hd : d.toNat < ("abcdefghijklmnopqrstuvwxyz" : Str).cps.toList.length := by lia
 have h3 : d < (("abcdefghijklmnopqrstuvwxyz" : Str).cps.toList.length : Int) := by lia
 refine ⟨("abcdefghijklmnopqrstuvwxyz" : Str).cps.toList[d.toNat], ?_, ?_⟩
 ·show (atI ("abcdefghijklmnopqrstuvwxyz" : Str).cps.toList d).map _ = _
  unfold atI ixN
  rw [if_pos h1, if_pos h3]
  show ((("abcdefghijklmnopqrstuvwxyz" : Str).cps.toList[d.toNat]?).map _) = _
  rw [List.getElem?_eq_getElem hd]
  rfl
 ·rw [← AZ_contains]
  exact List.contains_iff_mem.mpr (List.getElem_mem hd)
noncomputable def one (c : Nat) : Str := ⟨#[c]⟩
theorem ones : ∀ {zs : List PV}, (∀ p ∈ zs, ∃ c, p = .str ⟨#[c]⟩ /\ AZ.cps.contains c = true) -> ∃ cs : List Nat, zs = cs.map (fun c => .str (one c)) /\ ∀ c ∈ cs, AZ.cps.contains c = true
 | [], _ => ⟨[], rfl, by simp⟩
 | p :: zs, h => by
  obtain ⟨c, rfl, hc⟩ := h p (by simp)
  obtain ⟨cs, rfl, hs⟩ := ones (zs := zs) fun q hq => h q (List.mem_cons_of_mem _ hq)
  exact ⟨c :: cs, rfl, fun z hz => (List.mem_cons.mp hz).elim (fun e => e ▸ hc) (hs z)⟩
noncomputable def stem (a b c d : Nat) : Str := ⟨[a, b, c, d].toArray⟩
noncomputable def wdIx : PSt -> M SV := mOp (g2 ixQ) (mVar 1) (mFn F_qao (aCons (mVar 2) (aCons (mC (.int 26)) aNil)))
noncomputable def wdRg : PSt -> M (List PV) := mRange1 (aCons (mC (.int 4)) aNil)
noncomputable def wdCo : PSt -> M (List PV) := mComp wdRg ["_law_k"] [1, 0] (hName 0) tOk wdIx
theorem stem_adv (k : Nat) (C : Cs) (g : GS C k) (x2 x3 x4 : Option SV) : ∃ a b c d C', wdCo [some (.c k), some (.v (.str "abcdefghijklmnopqrstuvwxyz")), x2, x3, x4] C = some ([.str (one a), .str (one b), .str (one c), .str (one d)], C') /\ (∀ z ∈ [a, b, c, d], AZ.cps.contains z = true) /\ Adv k C C' := by
 obtain ⟨zs, C', e, hl, hz, a⟩ := comp_adv (te := wdIx) (Pp := fun p => ∃ c, p = .str ⟨#[c]⟩ /\ AZ.cps.contains c = true) [.int 0, .int 1, .int 2, .int 3] [none, some (.v (.str "abcdefghijklmnopqrstuvwxyz")), some (.c k)] [] C g (fun x C g => by
  obtain ⟨d, C1, e1, h1, h2, a1⟩ := ZaB k 26 C g (by decide)
  obtain ⟨c, e2, hc⟩ := az_in d h1 h2
  refine ⟨_, C1, ?_, ⟨c, rfl, hc⟩, a1⟩
  simp! [wdIx, e1, e2, a1.take])
 obtain ⟨cs, rfl, hcs⟩ := ones hz
 have hr : wdRg [some (.c k), some (.v (.str "abcdefghijklmnopqrstuvwxyz")), x2, x3, x4] C = some ([.int 0, .int 1, .int 2, .int 3], C) := by rfl
 match cs, hl with
 | [a1, a2, a3, a4], _ =>
  refine ⟨a1, a2, a3, a4, C', ?_, hcs, a⟩
  simp at e
  simp [wdCo, mComp, bnd, hr, stIn', Pu.ret, e]
theorem strs_ones (a b c d : Nat) : joinH (.str "") [.lst [.str (one a), .str (one b), .str (one c), .str (one d)]] = some (.str (stem a b c d)) := by
 rfl
theorem stem_mul (a b c d : Nat) : mulTP (.str (stem a b c d)) (.int 3) = some (.str ⟨[a, b, c, d, a, b, c, d, a, b, c, d].toArray⟩) := by
 rfl
theorem cut_word (a b c d : Nat) (s : Int) (h1 : 1 <= s) (h2 : s <= 12) (h : ∀ z ∈ [a, b, c, d], AZ.cps.contains z = true) : ∃ w, Txt.slice ⟨[a, b, c, d, a, b, c, d, a, b, c, d].toArray⟩ none (some s) = w /\ wordB w = true := by
 refine ⟨_, rfl, ?_⟩
 have e := slice_closes_toL (x := ⟨[a, b, c, d, a, b, c, d, a, b, c, d].toArray⟩) (j := s) (by lia) (show s <= ((12 : Nat) : Int) by lia)
 rw [eq_of_beq e]
 simp only [List.mem_cons, List.not_mem_nil, or_false, forall_eq_or_imp, forall_eq] at h
 unfold wordB
 have hl : (⟨((List.drop (0 : Int).toNat [a, b, c, d, a, b, c, d, a, b, c, d]).take (s - 0).toNat).toArray⟩ : Str).length = s.toNat := by
  show Array.size (List.toArray _) = _
  simp; lia
 have ha : (((List.drop (0 : Int).toNat [a, b, c, d, a, b, c, d, a, b, c, d]).take (s - 0).toNat)).all AZ.cps.contains = true := by
  rw [List.all_eq_true]
  intro x hx
  have := List.mem_of_mem_drop (List.mem_of_mem_take hx)
  simp only [List.mem_cons, List.not_mem_nil, or_false] at this
  obtain ⟨p, q, r, t⟩ := h
  rcases this with rfl | rfl | rfl | rfl | rfl | rfl | rfl | rfl | rfl | rfl | rfl | rfl <;> assumption
 show (decide (1 <= (((⟨((List.drop (0 : Int).toNat [a, b, c, d, a, b, c, d, a, b, c, d]).take (s - 0).toNat).toArray⟩ : Str).length : Nat) : Int)) && decide ((((⟨((List.drop (0 : Int).toNat [a, b, c, d, a, b, c, d, a, b, c, d]).take (s - 0).toNat).toArray⟩ : Str).length : Nat) : Int) <= 12) && _) = true
 rw [hl, show (⟨((List.drop (0 : Int).toNat [a, b, c, d, a, b, c, d, a, b, c, d]).take (s - 0).toNat).toArray⟩ : Str).cps.toList = (List.drop (0 : Int).toNat [a, b, c, d, a, b, c, d, a, b, c, d]).take (s - 0).toNat from rfl, ha]
 simp; lia
theorem ZaN {f g : PSt -> M PF} {ρ ρ1 : PSt} {C C1 : Cs} (h : f ρ C = some (.nx ρ1, C1)) : mSeq f g ρ C = g ρ1 C1 := by
 unfold mSeq bnd; rw [h]
noncomputable def KPT : List PV := [.str "bell", .str "at", .str "got", .str "after", .str "to", .str "join", .str "say", .str "do", .str "free", .str "hand", .str "note", .str "held", .str "twin", .str "a"]
noncomputable def w1 : PSt -> M PF := mSet 1 (mC (.str "abcdefghijklmnopqrstuvwxyz"))
noncomputable def w2 : PSt -> M PF := mSet 2 (mVal (mLst (aCons (mC (.str "bell")) (aCons (mC (.str "at")) (aCons (mC (.str "got")) (aCons (mC (.str "after")) (aCons (mC (.str "to")) (aCons (mC (.str "join")) (aCons (mC (.str "say")) (aCons (mC (.str "do")) (aCons (mC (.str "free")) (aCons (mC (.str "hand")) (aCons (mC (.str "note")) (aCons (mC (.str "held")) (aCons (mC (.str "twin")) (aCons (mC (.str "a")) aNil))))))))))))))))
noncomputable def w3 : PSt -> M PF := mSet 3 (mOp (g2 ixQ) (mVal (mLst (aCons (mC (.int 1)) (aCons (mC (.int 2)) (aCons (mC (.int 3)) (aCons (mC (.int 12)) (aCons (mOp (g2 addP) (mC (.int 1)) (mFn F_qao (aCons (mVar 0) (aCons (mC (.int 12)) aNil)))) aNil))))))) (mFn F_qao (aCons (mVar 0) (aCons (mC (.int 5)) aNil))))
noncomputable def w4 : PSt -> M PF := mSet 4 (mMt "str" joinH (mC (.str "")) (aCons (mVal wdCo) aNil))
noncomputable def w5 : PSt -> M PF := mRet (mOp (g2 ixQ) (mVal (mLst (aCons (mSliceS (mOp (g2 mulTP) (mVar 4) (mC (.int 3))) oNo (oPart (mVar 3))) (aCons (mOp (g2 ixQ) (mVar 2) (mFn F_qao (aCons (mVar 0) (aCons (mC (.int 14)) aNil)))) aNil)))) (mCB (g1 intH) (aCons (mOp (g2 eqP) (mFn F_qao (aCons (mVar 0) (aCons (mC (.int 4)) aNil))) (mC (.int 0))) aNil)))
theorem word_is : B_qau = mSeq w1 (mSeq w2 (mSeq w3 (mSeq w4 w5))) := rfl
theorem kpt_ok : ∀ p ∈ KPT, ∃ w, p = .str w /\ wordB w = true := by
 have : KPT.all wordP = true := by decide +kernel
 intro p hp
 have h := List.all_eq_true.mp this p hp
 cases p <;> first | exact ⟨_, rfl, h⟩ | cases h
theorem word_adv (k : Nat) (C : Cs) (g : GS C k) : ∃ w C', F_qau [.c k] C = some (.v (.str w), C') /\ wordB w = true /\ Adv k C C' := by
 obtain ⟨d1, C1, e1, h1, h2, a1⟩ := ZaB k 12 C g (by decide)
 obtain ⟨d2, C2, e2, h3, h4, a2⟩ := ZaB k 5 C1 a1.gs (by decide)
 obtain ⟨p, hp, e3⟩ := ZbA [.int 1, .int 2, .int 3, .int 12, .int (1 + d1)] d2 h3 (by simpa using h4)
 obtain ⟨s, rfl, hs1, hs2⟩ : ∃ s : Int, p = .int s /\ 1 <= s /\ s <= 12 := by
  simp only [List.mem_cons, List.not_mem_nil, or_false] at hp
  rcases hp with rfl | rfl | rfl | rfl | rfl <;> exact ⟨_, rfl, by lia, by lia⟩
 obtain ⟨a, b, c, d, C3, e4, hz, a3⟩ := stem_adv k C2 a2.gs (some (.v (.lst KPT))) (some (.v (.int s))) none
 obtain ⟨d4, C4, e5, h5, h6, a4⟩ := ZaB k 14 C3 a3.gs (by decide)
 obtain ⟨q, hq, e6⟩ := ZbA KPT d4 h5 (by simpa [KPT] using h6)
 obtain ⟨v, rfl, hv⟩ := kpt_ok q hq
 obtain ⟨d5, C5, e7, h7, h8, a5⟩ := ZaB k 4 C4 a4.gs (by decide)
 obtain ⟨u, e8, hu⟩ := cut_word a b c d s hs1 hs2 hz
 have at1 := ((((a1.trans a2).trans a3).trans a4).trans a5)
 have s2 : w2 [some (.c k), some (.v (.str "abcdefghijklmnopqrstuvwxyz")), none, none, none] C = some (.nx [some (.c k), some (.v (.str "abcdefghijklmnopqrstuvwxyz")), some (.v (.lst KPT)), none, none], C) := by rfl
 have s3 : w3 [some (.c k), some (.v (.str "abcdefghijklmnopqrstuvwxyz")), some (.v (.lst KPT)), none, none] C = some (.nx [some (.c k), some (.v (.str "abcdefghijklmnopqrstuvwxyz")), some (.v (.lst KPT)), some (.v (.int s)), none], C2) := by
  generalize KPT = KK at *
  simp! [w3, addP, e1, e2, e3, a1.take, a2.take]
 have hj := strs_ones a b c d
 have s4 : w4 [some (.c k), some (.v (.str "abcdefghijklmnopqrstuvwxyz")), some (.v (.lst KPT)), some (.v (.int s)), none] C2 = some (.nx [some (.c k), some (.v (.str "abcdefghijklmnopqrstuvwxyz")), some (.v (.lst KPT)), some (.v (.int s)), some (.v (.str (stem a b c d)))], C3) := by
  generalize KPT = KK at *
  generalize stem a b c d = ST at *
  simp! [w4, e4, hj]
 have hm := stem_mul a b c d
 obtain ⟨z, hz1, hz2⟩ : ∃ z, ixQ (.lst [.str u, .str v]) (.int (if d5 = 0 then 1 else 0)) = some (.str z) /\ wordB z = true := by
  split
  ·exact ⟨v, rfl, hv⟩
  ·exact ⟨u, rfl, hu⟩
 refine ⟨z, C5, ?_, hz2, at1⟩
 have s5 : w5 [some (.c k), some (.v (.str "abcdefghijklmnopqrstuvwxyz")), some (.v (.lst KPT)), some (.v (.int s)), some (.v (.str (stem a b c d)))] C3 = some (.rt (.v (.str z)), C5) := by
  generalize KPT = KK at *
  generalize stem a b c d = ST at *
  generalize (⟨[a, b, c, d, a, b, c, d, a, b, c, d].toArray⟩ : Str) = SM at *
  simp! [w5, mSliceS, sliceSD, hm, e8, e5, e6, e7, a4.take, a5.take, intH, hz1]
 unfold F_qau
 rw [word_is]
 have run : mSeq w1 (mSeq w2 (mSeq w3 (mSeq w4 w5))) [some (.c k), none, none, none, none] C = some (.rt (.v (.str z)), C5) := by
  rw [ZaN (show w1 [some (.c k), none, none, none, none] C = some (.nx [some (.c k), some (.v (.str "abcdefghijklmnopqrstuvwxyz")), none, none, none], C) from rfl), ZaN s2, ZaN s3, ZaN s4, s5]
 generalize mSeq w1 (mSeq w2 (mSeq w3 (mSeq w4 w5))) = bl at *
 simp! [run, at1.take]
structure Nm where
 h : Str
 d : Str
 n : Int
noncomputable def Nm.P (x : Nm) : PV := .tup [.str x.h, .str x.d, .int x.n]
structure Nm.Ok (x : Nm) : Prop where
 h : wordB x.h = true
 d : wordB x.d = true
 n0 : 1 <= x.n
 n1 : x.n < 10 ^ 30
theorem name_adv (k : Nat) (C : Cs) (g : GS C k) : ∃ (x : Nm) (C' : Cs), F_qai [.c k] C = some (.v x.P, C') /\ x.Ok /\ Adv k C C' := by
 obtain ⟨h, C1, e1, h1, a1⟩ := word_adv k C g
 obtain ⟨d, C2, e2, h2, a2⟩ := word_adv k C1 a1.gs
 obtain ⟨n, C3, e3, h3, h4, a3⟩ := Zcg k C2 a2.gs
 have at1 := (a1.trans a2).trans a3
 refine ⟨⟨h, d, 1 + n % 999999999999999999999999999999⟩, C3, ?_, ⟨h1, h2, ?_, ?_⟩, at1⟩
 ·simp! [F_qai, addP, e1, e2, e3, a1.take, a2.take, a3.take, at1.take, Nm.P]
 ·have := Int.emod_nonneg n (show (999999999999999999999999999999 : Int) ≠ 0 by decide)
  show 1 <= 1 + n % _
  lia
 ·have := Int.emod_lt_of_pos n (show (0 : Int) < 999999999999999999999999999999 by decide)
  show 1 + n % _ < _
  lia
inductive Pt where
 | st (k : Str) | nm (x : Nm) | num (n : Int)
noncomputable def Nm.T (x : Nm) : Str := Str.join ⟨#[46]⟩ [x.h, x.d, numS x.n]
noncomputable def Pt.P : Pt -> PV
 | .st k => .str k
 | .nm x => x.P
 | .num n => .int n
noncomputable def Pt.T : Pt -> Str
 | .st k => k
 | .nm x => x.T
 | .num n => numS n
noncomputable def Pt.Ok : Pt -> Prop
 | .st k => wordB k = true
 | .nm x => x.Ok
 | .num n => 0 <= n /\ n < 10 ^ 30
theorem log_ok {n : Int} (h0 : 0 <= n) (h1 : n < 10 ^ 30) : n.natAbs.log2 < 1920 := by
 by_cases h : n.natAbs = 0
 ·rw [h]; decide
 ·refine Nat.lt_of_lt_of_le ((Nat.log2_lt h).mpr (show n.natAbs < 2 ^ 100 by lia)) (by decide)
theorem join_eq (z : Str) (ys : List Str) : Txt.join z ys = Str.join z ys := by
 cases ys with
 | nil => rfl
 | cons a r => exact StrLaws.glued_cons z r a
theorem strs_map : ∀ ys : List Str, strsP (ys.map .str) = some ys
 | [] => rfl
 | a :: r => by simp [strsP, strs_map r]
theorem joinH_eq (z : Str) (ys : List Str) (h : (ys.map (·.length)).sum + ys.length * z.length <= 1000000) : joinH (.str z) [.lst (ys.map .str)] = some (.str (Str.join z ys)) := by
 unfold joinH
 simp only [strs_map, if_pos h, join_eq]
theorem az_range {c : Nat} (h : AZ.cps.contains c = true) : 97 <= c /\ c <= 122 := by
 have : AZ.cps.all (fun c => decide (97 <= c /\ c <= 122)) = true := by decide +kernel
 rw [Array.all_eq_true_iff_forall_mem] at this
 have := this c (by simpa using h)
 simpa using this
theorem word_az {w : Str} (h : wordB w = true) : ∀ c ∈ w.cps.toList, 97 <= c /\ c <= 122 := by
 unfold wordB at h
 simp only [Bool.and_eq_true] at h
 intro c hc
 exact az_range (List.all_eq_true.mp h.2 c hc)
theorem Za3 {w : Str} (h : wordB w = true) : 1 <= w.length /\ w.length <= 12 := by
 unfold wordB at h
 simp only [Bool.and_eq_true, decide_eq_true_eq] at h
 lia
theorem Zch {x : Nm} (h : x.Ok) : ∀ p ∈ [x.h, x.d, numS x.n], (∀ c ∈ p.cps.toList, c ≠ 46 /\ c ≠ 32) := by
 intro p hp
 simp only [List.mem_cons, List.not_mem_nil, or_false] at hp
 intro c hc
 rcases hp with rfl | rfl | rfl
 ·have := word_az h.h c hc; lia
 ·have := word_az h.d c hc; lia
 ·have := Zbm (n := x.n) (by have := h.n0; lia) c hc; lia
theorem Zbn {x : Nm} : x.T.cps.toList = x.h.cps.toList ++ 46 :: (x.d.cps.toList ++ 46 :: (numS x.n).cps.toList) := by
 unfold Nm.T
 rw [Zbb]; rfl
theorem len_list (w : Str) : w.length = w.cps.toList.length := by rw [Array.length_toList]; rfl
theorem pt_len {p : Pt} (h : p.Ok) : 1 <= p.T.length /\ p.T.length <= 56 := by
 cases p with
 | st k => have := Za3 h; exact ⟨this.1, by show k.length <= 56; lia⟩
 | nm x =>
  have h1 := Za3 h.h
  have h2 := Za3 h.d
  have h3 := Zbu (n := x.n) (by have := h.n0; lia) h.n1
  show 1 <= x.T.length /\ x.T.length <= 56
  rw [len_list] at h1 h2 h3 ⊢
  rw [Zbn]
  simp only [List.length_append, List.length_cons]
  lia
 | num n =>
  have h1 := Zbu h.1 h.2
  have h2 := num_ne h.1
  show 1 <= (numS n).length /\ (numS n).length <= 56
  rw [len_list] at h1 ⊢
  cases e : (numS n).cps.toList with
  | nil => exact absurd e h2
  | cons a r => rw [e] at h1; simp at h1 ⊢; lia
theorem pt_free {p : Pt} (h : p.Ok) : 32 ∉ p.T.cps.toList := by
 intro hc
 cases p with
 | st k => have := word_az h 32 hc; lia
 | nm x =>
  change 32 ∈ x.T.cps.toList at hc
  rw [Zbn] at hc
  simp only [List.mem_append, List.mem_cons] at hc
  have k := Zch h
  rcases hc with hc | hc | hc | hc | hc
  ·exact (k x.h (by simp) 32 hc).2 rfl
  ·cases hc
  ·exact (k x.d (by simp) 32 hc).2 rfl
  ·cases hc
  ·exact (k (numS x.n) (by simp) 32 hc).2 rfl
 | num n => have := Zbm h.1 32 hc; lia
theorem Zb3 {α : Type} {te : PSt -> M SV} {g f : α -> PV} : ∀ (l : List α) (ρ : PSt) (ys : List PV) (C : Cs), (∀ a ∈ l, te (ρ.set 0 (some (.v (g a)))) C = some (.v (f a), C)) -> compL (hName 0) tOk te (l.map g) ρ ys C = some (ys ++ l.map f, C)
 | [], ρ, ys, C, _ => by simp [compL, Pu.ret]
 | x :: xs, ρ, ys, C, h => by
  have h1 := h x (by simp)
  have h2 := Zb3 (te := te) (g := g) (f := f) xs (ρ.set 0 (some (.v (g x)))) (ys ++ [f x]) C fun y hy => by rw [List.set_set]; exact h y (by simp [hy])
  simp! [compL, hName, tOk, h1, h2]
theorem name_text_eq {x : Nm} (h : x.Ok) (C : Cs) : F_qak [.v x.P] C = some (.v (.str x.T), C) := by
 have hl := log_ok (n := x.n) (by have := h.n0; lia) h.n1
 have h1 := Za3 h.h
 have h2 := Za3 h.d
 have h3 := Zbu (n := x.n) (by have := h.n0; lia) h.n1
 have e := joinH_eq ⟨#[46]⟩ [x.h, x.d, numS x.n] (by simp [Str.length] at *; lia)
 simp only [List.map_cons, List.map_nil] at e
 have e' : joinH (.str ".") [.lst [.str x.h, .str x.d, .str (numS x.n)]] = some (.str x.T) := e
 simp! [F_qak, Nm.P, mComp, mItems, itemsP, stIn', compL, hName, tOk, strH, hl, e']
theorem shown_name_eq {x : Nm} (h : x.Ok) (C : Cs) : F_qbo [.v x.P] C = some (.v (.str x.T), C) := by
 have hl := log_ok (n := x.n) (by have := h.n0; lia) h.n1
 have h1 := Za3 h.h
 have h2 := Za3 h.d
 have h3 := Zbu (n := x.n) (by have := h.n0; lia) h.n1
 have e : catS Str.empty [.v (.str x.h), .v (.str "."), .v (.str x.d), .v (.str "."), .v (.str (numS x.n))] = some x.T := by
  have hs : ((Str.empty ++ x.h ++ "." ++ x.d ++ "." ++ numS x.n : Str)) = x.T := by
   apply str_ext
   rw [Zbn]
   simp only [Zbx, Array.toList_append]
   show [] ++ x.h.cps.toList ++ [46] ++ x.d.cps.toList ++ [46] ++ _ = _
   simp
  have ll : ∀ a b : Str, (a ++ b).length = a.length + b.length := fun a b => Str.length_append a b
  have l0 : Str.empty.length = 0 := rfl
  have l1 : (("." : Str)).length = 1 := rfl
  simp only [catS]
  rw [if_pos, if_pos, if_pos, if_pos, if_pos, hs]
  all_goals (simp only [ll, l0, l1]; lia)
 generalize x.T = T at *
 simp! [F_qbo, Nm.P, mAsg, hTup, hCons, hName, hNil, mJoined, mFmt, fmtH, hl, e]
theorem shown_part_eq {p : Pt} (h : p.Ok) (C : Cs) : F_qbp [.v p.P] C = some (.v (.str p.T), C) := by
 cases p with
 | st k => simp! [F_qbp, Pt.P, Pt.T, mFmt, fmtH]
 | nm x =>
  have e := shown_name_eq h C
  unfold Nm.P at e
  simp! [F_qbp, Pt.P, Pt.T, Nm.P, e]
 | num n =>
  have hl := log_ok h.1 h.2
  simp! [F_qbp, Pt.P, Pt.T, mFmt, fmtH, hl]
structure Its (l : List Pt) : Prop where
 ok : ∀ p ∈ l, p.Ok
 n : l.length <= 4
 ne : l ≠ []
noncomputable def wordsOf (l : List Pt) : List Str := l.map Pt.T
noncomputable def claimP (l : List Pt) : PV := .tup (l.map Pt.P)
theorem sum_len : ∀ {l : List Pt}, (∀ p ∈ l, p.Ok) -> ((wordsOf l).map (·.length)).sum <= 56 * l.length
 | [], _ => by simp [wordsOf]
 | p :: r, h => by
  have h1 := (pt_len (h p (by simp))).2
  have h2 := sum_len (l := r) fun q hq => h q (by simp [hq])
  simp [wordsOf] at h2 ⊢
  lia
noncomputable def textOf (l : List Pt) : Str := Str.join ⟨#[32]⟩ (wordsOf l)
theorem Zcj {l : List Pt} (h : Its l) : joinH (.str " ") [.lst ((wordsOf l).map .str)] = some (.str (textOf l)) := by
 refine joinH_eq ⟨#[32]⟩ _ ?_
 have h1 := sum_len h.ok
 have h2 := h.n
 have h3 : (wordsOf l).length = l.length := by simp [wordsOf]
 show _ + _ * 1 <= _
 lia
theorem Zbg {l : List Pt} (h : Its l) (C : Cs) : F_qbn [.v (claimP l)] C = some (.v (.str (textOf l)), C) := by
 have hj := Zcj h
 unfold F_qbn B_qbn
 generalize hte : mFn F_qbp (aCons (mVar 0) aNil) = te
 have key : compL (hName 0) tOk te (l.map Pt.P) [none] [] C = some ((wordsOf l).map .str, C) := by
  subst hte
  have := Zb3 (te := mFn F_qbp (aCons (mVar 0) aNil)) (g := Pt.P) (f := fun p => .str p.T) l [none] [] C (fun p hp => by
   have e := shown_part_eq (h.ok p hp) C
   simp! [e])
  rw [this, List.nil_append]
  simp [wordsOf]
 have hn := h.n
 have hl : (l.map Pt.P).length <= 100000 := by simp; lia
 generalize textOf l = tx at *
 generalize (wordsOf l).map PV.str = ws at *
 unfold claimP
 generalize l.map Pt.P = ps at *
 simp! [mComp, mItems, itemsP, stIn', hl, key, hj]
noncomputable def cwB : PSt -> M PF := mIfS (mTru (mCB (g1 isiH) (aCons (mVar 2) (aCons (mC (.ty "tuple")) aNil)))) (mDrop (mApp (mVar 1) (aCons (mFn F_qak (aCons (mVar 2) aNil)) aNil))) (mDrop (mApp (mVar 1) (aCons (mCB (g1 strH) (aCons (mVar 2) aNil)) aNil)))
noncomputable def cwI : PSt -> M (List PV) := mItems (mSlice (mVar 0) (oPart (mC (.int 1))) oNo)
theorem cw_is : B_qae = mSeq (mNew 1 (mLst (aCons (mOp (g2 ixQ) (mVar 0) (mC (.int 0))) aNil))) (mSeq (mFor cwI (hName 2) cwB) (mRet (mVar 1))) := rfl
theorem cw_step {p : Pt} (h : p.Ok) (c : PV) (C : Cs) (ys : List PV) (hy : ys.length <= 100) : cwB [some (.v c), some (.c C.length), some (.v p.P)] (C ++ [.lst ys]) = some (.nx [some (.v c), some (.c C.length), some (.v p.P)], C ++ [.lst (ys ++ [.str p.T])]) := by
 have hy2 : ys.length < 100000 := by lia
 cases p with
 | st k => simp! [cwB, Pt.P, Pt.T, strH, mApp, isLst, appC, hy2]
 | num n =>
  have hl := log_ok h.1 h.2
  simp! [cwB, Pt.P, Pt.T, strH, mApp, isLst, appC, hy2, hl]
 | nm x =>
  have e := name_text_eq h (C ++ [.lst ys])
  unfold Nm.P at e
  simp! [cwB, Pt.P, Pt.T, Nm.P, strH, mApp, isLst, appC, hy2, e]
theorem cw_loop (c : PV) (C : Cs) : ∀ (ps : List Pt) (ys : List PV) (x2 : Option SV), (∀ p ∈ ps, p.Ok) -> ys.length + ps.length <= 100 -> ∃ x2', loop (hName 2) cwB (ps.map Pt.P) [some (.v c), some (.c C.length), x2] (C ++ [.lst ys]) = some (.nx [some (.v c), some (.c C.length), x2'], C ++ [.lst (ys ++ (wordsOf ps).map .str)])
 | [], ys, x2, _, _ => ⟨x2, by simp [loop, wordsOf, Pu.ret]⟩
 | p :: ps, ys, x2, h, hl => by
  simp only [List.length_cons] at hl
  have e := cw_step (h p (by simp)) c C ys (by lia)
  obtain ⟨x2', e2⟩ := cw_loop c C ps (ys ++ [.str p.T]) (some (.v p.P)) (fun q hq => h q (by simp [hq])) (by simp; lia)
  refine ⟨x2', ?_⟩
  simp [loop, hName, bnd, e, e2, wordsOf]
theorem Zb6 {k : Str} {ps : List Pt} (h : Its (.st k :: ps)) (C : Cs) : F_qae [.v (claimP (.st k :: ps))] C = some (.v (.lst ((wordsOf (.st k :: ps)).map .str)), C) := by
 have hn := h.n
 simp only [List.length_cons] at hn
 obtain ⟨x2', e⟩ := cw_loop (claimP (.st k :: ps)) C ps [.str k] none (fun q hq => h.ok q (by simp [hq])) (by simp; lia)
 have hc : cutP (.str k :: ps.map Pt.P) (some 1) none = ps.map Pt.P := by
  simp [cutP, HT.sIx]
  exact List.take_of_length_le (by simp)
 have hI : cwI [some (.v (claimP (.st k :: ps))), some (.c C.length), none] (C ++ [.lst [.str k]]) = some (ps.map Pt.P, C ++ [.lst [.str k]]) := by
  simp! [cwI, mItems, claimP, mSlice, itemsP, hc, Pt.P]
 have s1 : mNew 1 (mLst (aCons (mOp (g2 ixQ) (mVar 0) (mC (.int 0))) aNil)) [some (.v (claimP (.st k :: ps))), none, none] C = some (.nx [some (.v (claimP (.st k :: ps))), some (.c C.length), none], C ++ [.lst [.str k]]) := by
  simp! [mNew, claimP, ixQ, ixP, atI, ixN, Pt.P]
 have s2 : mFor cwI (hName 2) cwB [some (.v (claimP (.st k :: ps))), some (.c C.length), none] (C ++ [.lst [.str k]]) = some (.nx [some (.v (claimP (.st k :: ps))), some (.c C.length), x2'], C ++ [.lst ((wordsOf (.st k :: ps)).map .str)]) := by
  unfold mFor bnd
  rw [hI]; exact e
 have run : B_qae [some (.v (claimP (.st k :: ps))), none, none] C = some (.rt (.c C.length), C ++ [.lst ((wordsOf (.st k :: ps)).map .str)]) := by
  rw [cw_is, ZaN s1, ZaN s2]; rfl
 unfold F_qae
 generalize B_qae = bl at *
 generalize claimP (.st k :: ps) = cl at *
 generalize (wordsOf (.st k :: ps)).map PV.str = ws at *
 simp! [run]
theorem read_name_eq {x : Nm} (h : x.Ok) (C : Cs) : F_qbl [.v (.str x.T)] C = some (.v x.P, C) := by
 have hs : Txt.split x.T ⟨#[46]⟩ = [x.h, x.d, numS x.n] := split_join (by simp) fun p hp hc => (Zch h p hp 46 hc).1 rfl
 have e : splitH (.str x.T) [.str "."] = some (.lst [.str x.h, .str x.d, .str (numS x.n)]) := by
  have hl := (pt_len (p := .nm x) h).2
  show (if 1 <= (⟨#[46]⟩ : Str).length /\ x.T.length <= 100000 then some (PV.lst ((Txt.split x.T ⟨#[46]⟩).map .str)) else none) = _
  rw [if_pos ⟨by decide, by change x.T.length <= 56 at hl; lia⟩, hs]; rfl
 have r := Zbh (n := x.n) (by have := h.n0; lia) h.n1 C
 generalize x.T = T at *
 generalize numS x.n = N at *
 simp! [F_qbl, e, need_t, ixQ, ixP, atI, ixN, r, Nm.P]
theorem dot_in {p : Pt} (h : p.Ok) (hp : ∀ k, p ≠ .st k) : inP (.str ".") (.str p.T) = some (.bl (match p with | .nm _ => true | _ => false)) := by
 show some (PV.bl (strIn ⟨#[46]⟩ p.T)) = _
 rw [ZbL]
 cases p with
 | st k => exact absurd rfl (hp k)
 | nm x =>
  have : x.T.cps.toList.contains 46 = true := by rw [Zbn]; simp
  show some (PV.bl (x.T.cps.toList.contains 46)) = _
  rw [this]
 | num n =>
  have : (numS n).cps.toList.contains 46 = false := by
   rw [Bool.eq_false_iff]
   intro hc
   have := Zbm h.1 46 (by simpa using hc)
   lia
  show some (PV.bl ((numS n).cps.toList.contains 46)) = _
  rw [this]
noncomputable def rdE : PSt -> M SV := mIf (mTest (mOp (g2 inP) (mC (.str ".")) (mVar 0))) (mFn F_qbl (aCons (mVar 0) aNil)) (mFn F_qbm (aCons (mVar 0) aNil))
theorem rd_part {p : Pt} (h : p.Ok) (hp : ∀ k, p ≠ .st k) (C : Cs) : rdE [some (.v (.str p.T))] C = some (.v p.P, C) := by
 have hd := dot_in h hp
 cases p with
 | st k => exact absurd rfl (hp k)
 | nm x =>
  have e := read_name_eq h C
  change inP (.str ".") (.str x.T) = some (.bl true) at hd
  show rdE [some (.v (.str x.T))] C = some (.v x.P, C)
  simp! [rdE, hd, e]
 | num n =>
  have e := Zbh h.1 h.2 C
  change inP (.str ".") (.str (numS n)) = some (.bl false) at hd
  show rdE [some (.v (.str (numS n)))] C = some (.v (.int n), C)
  simp! [rdE, hd, e]
theorem comp_flt : ∀ (xs : List Str) (ρ0 : Option SV) (ys : List PV) (C : Cs), compL (hName 0) (mTru (mVar 0)) (mVar 0) (xs.map .str) [ρ0] ys C = some (ys ++ (xs.filter ne0).map .str, C)
 | [], ρ0, ys, C => by simp [compL, Pu.ret]
 | x :: xs, ρ0, ys, C => by
  have e := fun ys => comp_flt xs (some (.v (.str x))) ys C
  by_cases hx : x.length = 0
  ·simp! [compL, hName, ne0, hx, e]
  ·simp! [compL, hName, ne0, hx, e]
theorem words_in_eq (z : Str) (ws : List Str) (hl : z.length <= 90000) (h : (Txt.split z ⟨#[32]⟩).filter ne0 = ws) (C : Cs) : F_qbq [.v (.str z)] C = some (.v (.lst (ws.map .str)), C) := by
 have e : splitH (.str z) [.str " "] = some (.lst ((Txt.split z ⟨#[32]⟩).map .str)) := by
  show (if 1 <= (⟨#[32]⟩ : Str).length /\ z.length <= 100000 then some (PV.lst ((Txt.split z ⟨#[32]⟩).map .str)) else none) = _
  rw [if_pos ⟨by decide, by lia⟩]
 have hf := comp_flt (Txt.split z ⟨#[32]⟩) none [] C
 have hn := split_few z ⟨#[32]⟩
 have hn2 : ((Txt.split z ⟨#[32]⟩).map PV.str).length <= 100000 := by simp; lia
 rw [h, List.nil_append] at hf
 generalize (Txt.split z ⟨#[32]⟩).map PV.str = SP at *
 generalize ws.map PV.str = WS at *
 unfold F_qbq B_qbq
 generalize ht : (mTru (mVar 0)) = t at *
 generalize hv : (mVar 0) = v at *
 have hvv : v [some (.v (.str z))] C = some (.v (.str z), C) := by rw [← hv]; rfl
 simp [mDef, mRetF, mComp, mItems, mMt, bnd, hvv, opM, isTy, deref, tyP, aCons, aNil, mC, Pu.ret, mtD, derefs, e, itemsP, hn2, stIn', hf, fin]
theorem words_of_eq (z : Str) (ws : List Str) (hl : z.length <= 90000) (h : (Txt.split z ⟨#[32]⟩).filter ne0 = ws) (C : Cs) : F_qbr [.v (.str z)] C = some (.v (.lst (ws.map .str)), C) := by
 have e := words_in_eq z ws hl h C
 simp! [F_qbr, need_t, e]
theorem ZaJ {x : Nm} (h : x.Ok) (C : Cs) : F_qaz [.v x.P] C = some (.v (.bl true), C) := by
 have e0 := row_tup [.str x.h, .str x.d, .int x.n] 3 3 C
 have e1 := Zck (.str x.h) C rfl
 have e2 := Zck (.str x.d) C rfl
 have e3 := ZaW (.int x.n) 1 C rfl
 simp only [wordP, h.h, h.d] at e1 e2
 have hn : numB (.int x.n) 1 = true := by simp [numB, h.n0]
 rw [hn] at e3
 simp at e0
 simp! [F_qaz, Nm.P, ixQ, ixP, atI, ixN, e0, e1, e2, e3]
theorem Za7 {c : Int} (h0 : 0 <= c) (h1 : c < 12) (C : Cs) : F_qax [.v (.int c)] C = some (.v (.bl true), C) := by
 have e := Zbo (.int c) 12 C rfl
 have hb : belB (.int c) 12 = true := by simp [belB, h0, h1]
 rw [hb] at e
 simp! [F_qax, e]
noncomputable def yes (F : List SV -> M SV) (ps : List Pt) : Prop := ∀ C, F [.v (.tup (ps.map Pt.P))] C = some (.v (.bl true), C)
theorem of_due {x : Nm} {c n : Int} (hx : x.Ok) (h0 : 0 <= c) (h1 : c < 12) (hn : 0 <= n) : yes F_qbd [.nm x, .num c, .num n] := by
 intro C
 have e1 := ZaJ hx C
 have e2 := Za7 h0 h1 C
 have e3 := ZaW (.int n) 0 C rfl
 have hb : numB (.int n) 0 = true := by simp [numB, hn]
 rw [hb] at e3
 generalize hP : x.P = XP at *
 simp! [F_qbd, Pt.P, hP, ixQ, ixP, atI, ixN, e1, e2, e3]
theorem of_clause {x : Nm} {c : Int} (hx : x.Ok) (h0 : 0 <= c) (h1 : c < 12) : yes F_qbc [.nm x, .num c] := by
 intro C
 have e1 := ZaJ hx C
 have e2 := Za7 h0 h1 C
 generalize hP : x.P = XP at *
 simp! [F_qbc, Pt.P, hP, ixQ, ixP, atI, ixN, e1, e2]
theorem ZbT {x : Nm} (hx : x.Ok) : yes F_qbe [.nm x] := by
 intro C
 have e1 := ZaJ hx C
 generalize hP : x.P = XP at *
 simp! [F_qbe, Pt.P, hP, ixQ, ixP, atI, ixN, e1]
theorem of_two {x y : Nm} (hx : x.Ok) (hy : y.Ok) : yes F_qbf [.nm x, .nm y] := by
 intro C
 have e1 := ZaJ hx C
 have e2 := ZaJ hy C
 generalize hP : x.P = XP at *
 generalize hP2 : y.P = YP at *
 simp! [F_qbf, Pt.P, hP, hP2, ixQ, ixP, atI, ixN, e1, e2]
inductive Cl : Str -> List Pt -> Prop
 | held (x : Nm) (c n : Int) (hx : x.Ok) (h0 : 0 <= c) (h1 : c < 12) (h2 : 0 <= n) (h3 : n < 10 ^ 30) : Cl "held" [.nm x, .num c, .num n]
 | kept (x : Nm) (c : Int) (hx : x.Ok) (h0 : 0 <= c) (h1 : c < 12) : Cl "kept" [.nm x, .num c]
 | late (x : Nm) (c : Int) (hx : x.Ok) (h0 : 0 <= c) (h1 : c < 12) : Cl "late" [.nm x, .num c]
 | ill (x : Nm) (hx : x.Ok) : Cl "ill" [.nm x]
 | back (x : Nm) (hx : x.Ok) : Cl "back" [.nm x]
 | twin (x y : Nm) (hx : x.Ok) (hy : y.Ok) : Cl "twin" [.nm x, .nm y]
 | loose (x : Nm) (hx : x.Ok) : Cl "loose" [.nm x]
 | behind (x : Nm) (hx : x.Ok) : Cl "behind" [.nm x]
 | ahead (x : Nm) (hx : x.Ok) : Cl "ahead" [.nm x]
section
variable {d1 f1 f2 f3 d2 f4 : Addr} (h12 : f1 ≠ f2) (h13 : f1 ≠ f3) (h14 : f1 ≠ f4) (h23 : f2 ≠ f3) (h24 : f2 ≠ f4) (h34 : f3 ≠ f4)
theorem Zbf {k : Str} {ps : List Pt} {f : Addr} {F : List SV -> M SV} (h1 : (Zat f1 f2 f3).lookup k = some f) (h2 : (ZaC f1 f2 f3 f4).lookup f = some F) (h3 : yes F ps) (C : Cs) : F_qaw d1 f1 f2 f3 d2 f4 [.v (claimP (.st k :: ps))] C = some (.v (.bl true), C) := by
 have hc : cutP (.str k :: ps.map Pt.P) (some 1) none = ps.map Pt.P := by
  simp [cutP, HT.sIx]
  exact List.take_of_length_le (by simp)
 have e := h3 C
 unfold claimP
 simp only [List.map_cons, Pt.P]
 generalize ps.map Pt.P = PS at *
 simp! [F_qaw, ixQ, ixP, atI, ixN, topI, topG, h1, mCallV, callF, h2, hc, e]
theorem Za2 {k : Str} {ps : List Pt} {f : Addr} {F : List SV -> M SV} (h0 : (Zat f1 f2 f3).lookup k = none) (h1 : (ZaA f3 f4).lookup k = some f) (h2 : (ZaC f1 f2 f3 f4).lookup f = some F) (h3 : yes F ps) (C : Cs) : F_qaw d1 f1 f2 f3 d2 f4 [.v (claimP (.st k :: ps))] C = some (.v (.bl true), C) := by
 have hc : cutP (.str k :: ps.map Pt.P) (some 1) none = ps.map Pt.P := by
  simp [cutP, HT.sIx]
  exact List.take_of_length_le (by simp)
 have e := h3 C
 unfold claimP
 simp only [List.map_cons, Pt.P]
 generalize ps.map Pt.P = PS at *
 simp! [F_qaw, ixQ, ixP, atI, ixN, topI, topG, h0, h1, mCallV, callF, h2, hc, e]
theorem fn1 : (ZaC f1 f2 f3 f4).lookup f1 = some F_qbd := by simp [ZaC, List.lookup_cons]
include h12 in
theorem fn2 : (ZaC f1 f2 f3 f4).lookup f2 = some F_qbc := by simp [ZaC, List.lookup_cons, beq_eq_false_iff_ne.mpr (Ne.symm h12)]
include h13 h23 in
theorem fn3 : (ZaC f1 f2 f3 f4).lookup f3 = some F_qbe := by simp [ZaC, List.lookup_cons, beq_eq_false_iff_ne.mpr (Ne.symm h13), beq_eq_false_iff_ne.mpr (Ne.symm h23)]
include h14 h24 h34 in
theorem fn4 : (ZaC f1 f2 f3 f4).lookup f4 = some F_qbf := by simp [ZaC, List.lookup_cons, beq_eq_false_iff_ne.mpr (Ne.symm h14), beq_eq_false_iff_ne.mpr (Ne.symm h24), beq_eq_false_iff_ne.mpr (Ne.symm h34)]
include h12 h13 h14 h23 h24 h34 in
theorem is_claim_eq {k : Str} {ps : List Pt} (h : Cl k ps) (C : Cs) : F_qaw d1 f1 f2 f3 d2 f4 [.v (claimP (.st k :: ps))] C = some (.v (.bl true), C) := by
 cases h with
 | held x c n hx h0 h1 h2 h3 => exact Zbf (by rfl) fn1 (of_due hx h0 h1 h2) C
 | kept x c hx h0 h1 => exact Zbf (by rfl) (fn2 h12) (of_clause hx h0 h1) C
 | late x c hx h0 h1 => exact Zbf (by rfl) (fn2 h12) (of_clause hx h0 h1) C
 | ill x hx => exact Zbf (by rfl) (fn3 h13 h23) (ZbT hx) C
 | back x hx => exact Za2 (by rfl) (by rfl) (fn3 h13 h23) (ZbT hx) C
 | twin x y hx hy => exact Za2 (by rfl) (by rfl) (fn4 h14 h24 h34) (of_two hx hy) C
 | loose x hx => exact Za2 (by rfl) (by rfl) (fn3 h13 h23) (ZbT hx) C
 | behind x hx => exact Za2 (by rfl) (by rfl) (fn3 h13 h23) (ZbT hx) C
 | ahead x hx => exact Za2 (by rfl) (by rfl) (fn3 h13 h23) (ZbT hx) C
end
theorem cl_its {k : Str} {ps : List Pt} (h : Cl k ps) : Its (.st k :: ps) := by
 cases h with
 | held x c n hx h0 h1 h2 h3 => exact ⟨by simp [Pt.Ok, hx, h0, h1, h2]; exact ⟨by decide +kernel, by lia, by lia⟩, by simp, by simp⟩
 | kept x c hx h0 h1 => exact ⟨by simp [Pt.Ok, hx, h0]; exact ⟨by decide +kernel, by lia⟩, by simp, by simp⟩
 | late x c hx h0 h1 => exact ⟨by simp [Pt.Ok, hx, h0]; exact ⟨by decide +kernel, by lia⟩, by simp, by simp⟩
 | ill x hx => exact ⟨by simp [Pt.Ok, hx]; decide +kernel, by simp, by simp⟩
 | back x hx => exact ⟨by simp [Pt.Ok, hx]; decide +kernel, by simp, by simp⟩
 | twin x y hx hy => exact ⟨by simp [Pt.Ok, hx, hy]; decide +kernel, by simp, by simp⟩
 | loose x hx => exact ⟨by simp [Pt.Ok, hx]; decide +kernel, by simp, by simp⟩
 | behind x hx => exact ⟨by simp [Pt.Ok, hx]; decide +kernel, by simp, by simp⟩
 | ahead x hx => exact ⟨by simp [Pt.Ok, hx]; decide +kernel, by simp, by simp⟩
theorem cl_parts {k : Str} {ps : List Pt} (h : Cl k ps) : ∀ p ∈ ps, ∀ j, p ≠ .st j := by
 cases h <;> simp
section
variable {d1 f1 f2 f3 d2 f4 : Addr} (h12 : f1 ≠ f2) (h13 : f1 ≠ f3) (h14 : f1 ≠ f4) (h23 : f2 ≠ f3) (h24 : f2 ≠ f4) (h34 : f3 ≠ f4)
noncomputable def rdC : PSt -> M (List PV) := mComp (mItems (mSlice (mVar 1) (oPart (mC (.int 1))) oNo)) ["word"] [] (hName 0) tOk rdE
noncomputable def r1 : PSt -> M PF := mSet 1 (mFn F_qbr (aCons (mVar 0) aNil))
noncomputable def r2 : PSt -> M PF := mSet 2 (mVal rdC)
noncomputable def r3 : PSt -> M PF := mSet 3 (mCB (g1 tupH) (aCons (mOp (g2 addP) (mSlice (mVar 1) oNo (oPart (mC (.int 1)))) (mVar 2)) aNil))
noncomputable def r4 (d1 f1 f2 f3 d2 f4 : Addr) : PSt -> M PF := mDrop (mFn F_qbj (aCons (mFn (F_qaw d1 f1 f2 f3 d2 f4) (aCons (mVar 3) aNil)) aNil))
theorem read_is : B_qbk d1 f1 f2 f3 d2 f4 = mSeq r1 (mSeq r2 (mSeq r3 (mSeq (r4 d1 f1 f2 f3 d2 f4) (mRet (mVar 3))))) := rfl
theorem rd_comp {ps : List Pt} (h : ∀ p ∈ ps, p.Ok) (hp : ∀ p ∈ ps, ∀ j, p ≠ .st j) (C : Cs) : compL (hName 0) tOk rdE ((wordsOf ps).map .str) [none] [] C = some (ps.map Pt.P, C) := by
 have := Zb3 (te := rdE) (g := fun p : Pt => PV.str p.T) (f := Pt.P) ps [none] [] C (fun p hq => rd_part (h p hq) (hp p hq) C)
 rw [List.nil_append] at this
 unfold wordsOf
 rw [List.map_map]
 exact this
include h12 h13 h14 h23 h24 h34 in
theorem Zbk {k : Str} {ps : List Pt} (h : Cl k ps) (z : Str) (hl : z.length <= 90000) (hw : (Txt.split z ⟨#[32]⟩).filter ne0 = wordsOf (.st k :: ps)) (C : Cs) : F_qbk d1 f1 f2 f3 d2 f4 [.v (.str z)] C = some (.v (claimP (.st k :: ps)), C) := by
 have I := cl_its h
 have hn := I.n
 simp only [List.length_cons] at hn
 have e1 := words_of_eq z _ hl hw C
 have e2 := rd_comp (ps := ps) (fun p hp => I.ok p (by simp [hp])) (cl_parts h) C
 have e3 := is_claim_eq (d1 := d1) (d2 := d2) h12 h13 h14 h23 h24 h34 h C
 have hws : (wordsOf (.st k :: ps)).map PV.str = .str k :: (wordsOf ps).map .str := rfl
 have hcl : claimP (.st k :: ps) = .tup (.str k :: ps.map Pt.P) := rfl
 rw [hws] at e1
 have hwl : ((wordsOf ps).map PV.str).length <= 3 := by simp [wordsOf]; lia
 have hpl : (ps.map Pt.P).length <= 3 := by simp; lia
 generalize (wordsOf ps).map PV.str = WS at *
 rw [hcl] at e3 ⊢
 generalize ps.map Pt.P = PS at *
 have hc1 : cutP (.str k :: WS) (some 1) none = WS := by
  simp [cutP, HT.sIx]
 have hc2 : cutP (.str k :: WS) none (some 1) = [.str k] := by
  simp [cutP, HT.sIx]
 have s1 : r1 [some (.v (.str z)), none, none, none] C = some (.nx [some (.v (.str z)), some (.v (.lst (.str k :: WS))), none, none], C) := by
  simp! [r1, e1]
 have hw2 : WS.length <= 100000 := by lia
 have sC : rdC [some (.v (.str z)), some (.v (.lst (.str k :: WS))), none, none] C = some (PS, C) := by
  unfold rdC
  generalize rdE = te at *
  simp! [mComp, mItems, itemsP, stIn', hc1, hw2, e2]
 have s2 : r2 [some (.v (.str z)), some (.v (.lst (.str k :: WS))), none, none] C = some (.nx [some (.v (.str z)), some (.v (.lst (.str k :: WS))), some (.v (.lst PS)), none], C) := by
  unfold r2
  generalize rdC = te at *
  simp! [sC]
 have hp2 : 1 + PS.length <= 1000000 := by lia
 have s3 : r3 [some (.v (.str z)), some (.v (.lst (.str k :: WS))), some (.v (.lst PS)), none] C = some (.nx [some (.v (.str z)), some (.v (.lst (.str k :: WS))), some (.v (.lst PS)), some (.v (.tup (.str k :: PS)))], C) := by
  simp! [r3, hc2, addP, tupH, hp2]
 have s4 : r4 d1 f1 f2 f3 d2 f4 [some (.v (.str z)), some (.v (.lst (.str k :: WS))), some (.v (.lst PS)), some (.v (.tup (.str k :: PS)))] C = some (.nx [some (.v (.str z)), some (.v (.lst (.str k :: WS))), some (.v (.lst PS)), some (.v (.tup (.str k :: PS)))], C) := by
  simp! [r4, e3, need_t]
 have run : B_qbk d1 f1 f2 f3 d2 f4 [some (.v (.str z)), none, none, none] C = some (.rt (.v (.tup (.str k :: PS))), C) := by
  rw [read_is, ZaN s1, ZaN s2, ZaN s3, ZaN s4]; rfl
 unfold F_qbk
 generalize B_qbk d1 f1 f2 f3 d2 f4 = bl at *
 simp! [run]
end
noncomputable def smE (Z : List SV -> M SV) : PSt -> M SV := mFn Z (aCons (mVar 0) (aCons (mVar 1) aNil))
theorem same_st (n : Nat) (k : Str) (C : Cs) : F_qaq (n + 1) [.v (.str k), .v (.str k)] C = some (.v (.bl true), C) := by
 simp! [F_qaq]
theorem same_num (n : Nat) (k : Int) (C : Cs) : F_qaq (n + 1) [.v (.int k), .v (.int k)] C = some (.v (.bl true), C) := by
 simp! [F_qaq]
theorem same_nm (n : Nat) (x : Nm) (C : Cs) : F_qaq (n + 2) [.v x.P, .v x.P] C = some (.v (.bl true), C) := by
 have e1 := same_st n x.h C
 have e2 := same_st n x.d C
 have e3 := same_num n x.n C
 unfold Nm.P
 rw [F_qaq]
 generalize F_qaq (n + 1) = Z at *
 simp! [mComp, mZip, zipP, itemsP, stIn', compL, hTup, hCons, hName, hNil, tOk, e1, e2, e3, allH, boolsP]
theorem same_pt (n : Nat) (p : Pt) (C : Cs) : F_qaq (n + 2) [.v p.P, .v p.P] C = some (.v (.bl true), C) := by
 cases p with
 | st k => exact same_st (n + 1) k C
 | num k => exact same_num (n + 1) k C
 | nm x => exact same_nm n x C
theorem sm_comp {Z : List SV -> M SV} (C : Cs) (hZ : ∀ p : Pt, Z [.v p.P, .v p.P] C = some (.v (.bl true), C)) : ∀ (l : List Pt) (a b : Option SV) (ys : List PV), compL (hTup (hCons (hName 0) (hCons (hName 1) hNil)) 2) tOk (smE Z) (l.map fun p => .tup [p.P, p.P]) [a, b] ys C = some (ys ++ l.map fun _ => .bl true, C)
 | [], a, b, ys => by simp [compL, Pu.ret]
 | p :: l, a, b, ys => by
  have e := sm_comp C hZ l (some (.v p.P)) (some (.v p.P)) (ys ++ [.bl true])
  have h := hZ p
  rw [List.map_cons]
  have k : smE Z [some (.v p.P), some (.v p.P)] C = some (.v (.bl true), C) := by simp! [smE, h]
  generalize smE Z = te at *
  simp [compL, hTup, hCons, hName, hNil, tOk, bnd, Pu.ret, k, e]
theorem zip_self (l : List Pt) : (l.map Pt.P).map (fun a => PV.tup [a, a]) = l.map fun p => .tup [p.P, p.P] := by
 rw [List.map_map]; rfl
theorem trues : ∀ l : List Pt, boolsP (l.map fun _ => PV.bl true) = some (l.map fun _ => true)
 | [] => rfl
 | p :: l => by simp [boolsP, trues l]
theorem Zb8 {l : List Pt} (hl : l.length <= 4) (C : Cs) : F_qaq 12 [.v (claimP l), .v (claimP l)] C = some (.v (.bl true), C) := by
 have e := sm_comp (Z := F_qaq 11) C (fun p => same_pt 9 p C) l none none []
 have hz := zip_self l
 have hb := trues l
 have h1 : (l.map fun p => PV.tup [p.P, p.P]).length <= 100000 := by simp; lia
 have ha : (l.map fun _ => true).all id = true := by simp
 unfold claimP
 rw [F_qaq]
 unfold smE at e
 unfold B_qaq
 generalize F_qaq 11 = Z at *
 generalize mFn Z (aCons (mVar 0) (aCons (mVar 1) aNil)) = te at *
 generalize (l.map fun _ => true) = BT at *
 generalize (l.map fun _ => PV.bl true) = BP at *
 generalize (l.map fun p => PV.tup [p.P, p.P]) = ZP at *
 generalize l.map Pt.P = PS at *
 generalize hTup (hCons (hName 0) (hCons (hName 1) hNil)) 2 = hh at *
 simp! [mComp, mZip, zipP, itemsP, stIn', hz, h1, e, allH, hb]
 simpa using ha
theorem claim_adv (k : Nat) (C : Cs) (g : GS C k) : ∃ (kd : Str) (ps : List Pt) (C' : Cs), F_qac [.c k] C = some (.v (claimP (.st kd :: ps)), C') /\ Cl kd ps /\ Adv k C C' := by
 obtain ⟨x, C1, e1, hx, a1⟩ := name_adv k C g
 obtain ⟨c, C2, e2, hc0, hc1, a2⟩ := ZaB k 12 C1 a1.gs (by decide)
 obtain ⟨n, C3, e3, hn0, hn1, a3⟩ := Zcg k C2 a2.gs
 obtain ⟨y, C4, e4, hy, a4⟩ := name_adv k C3 a3.gs
 obtain ⟨d, C5, e5, hd0, hd1, a5⟩ := ZaB k 9 C4 a4.gs (by decide)
 have at1 := (((a1.trans a2).trans a3).trans a4).trans a5
 obtain ⟨p, hp, e6⟩ := ZbA [.tup [.str "held", x.P, .int c, .int n], .tup [.str "kept", x.P, .int c], .tup [.str "late", x.P, .int c], .tup [.str "ill", x.P], .tup [.str "back", x.P], .tup [.str "twin", x.P, y.P], .tup [.str "loose", x.P], .tup [.str "behind", x.P], .tup [.str "ahead", x.P]] d hd0 (by simpa using hd1)
 have run : F_qac [.c k] C = some (.v p, C5) := by
  generalize x.P = XP at *
  generalize y.P = YP at *
  simp! [F_qac, addP, e1, e2, e3, e4, e5, e6, a1.take, a2.take, a3.take, a4.take, a5.take, at1.take]
 rw [run]
 simp only [List.mem_cons, List.not_mem_nil, or_false] at hp
 rcases hp with rfl | rfl | rfl | rfl | rfl | rfl | rfl | rfl | rfl
 ·exact ⟨"held", [.nm x, .num c, .num n], C5, rfl, .held x c n hx hc0 hc1 hn0 hn1, at1⟩
 ·exact ⟨"kept", [.nm x, .num c], C5, rfl, .kept x c hx hc0 hc1, at1⟩
 ·exact ⟨"late", [.nm x, .num c], C5, rfl, .late x c hx hc0 hc1, at1⟩
 ·exact ⟨"ill", [.nm x], C5, rfl, .ill x hx, at1⟩
 ·exact ⟨"back", [.nm x], C5, rfl, .back x hx, at1⟩
 ·exact ⟨"twin", [.nm x, .nm y], C5, rfl, .twin x y hx hy, at1⟩
 ·exact ⟨"loose", [.nm x], C5, rfl, .loose x hx, at1⟩
 ·exact ⟨"behind", [.nm x], C5, rfl, .behind x hx, at1⟩
 ·exact ⟨"ahead", [.nm x], C5, rfl, .ahead x hx, at1⟩
theorem blanks (m : Int) (h0 : 0 <= m) (h1 : m <= 10) : ∃ b, mulSP (.str " ") (.int m) = some (.str b) /\ b.cps.toList = List.replicate m.toNat 32 /\ b.length <= 10 := by
 refine ⟨Txt.mul " " m, ?_, mulS_list (c := 32) rfl m, ?_⟩
 ·unfold mulSP
  dsimp only
  rw [if_pos ⟨rfl, by lia, by lia⟩]
 ·rw [mulS_len rfl]; lia
noncomputable def txB : PSt -> M PF := mSet 2 (mOp (g2 addP) (mOp (g2 addP) (mVar 2) (mOp (g2 mulSP) (mC (.str " ")) (mOp (g2 mulP) (mCB (g1 intH) (aCons (mOp (g2 gtP) (mVar 3) (mC (.int 0))) aNil)) (mOp (g2 ixQ) (mVal (mLst (aCons (mC (.int 1)) (aCons (mC (.int 1)) (aCons (mC (.int 2)) (aCons (mC (.int 4)) aNil)))))) (mFn F_qao (aCons (mVar 0) (aCons (mC (.int 4)) aNil))))))) (mVar 4))
structure TI (i : Nat) (done : List (List Nat)) (t : Str) : Prop where
 w : wds 32 t.cps.toList = done
 z : i = 0 -> ∃ j, t.cps.toList = List.replicate j 32
 l : t.length <= 10 + 100 * i
theorem tx_step (k : Nat) (C : Cs) (g : GS C k) (W : Option SV) (i : Nat) (hi : i <= 10) (t w : Str) (done : List (List Nat)) (I : TI i done t) (hw : 32 ∉ w.cps.toList) (hn : w.cps.toList ≠ []) (hl : w.length <= 56) :
  ∃ t' C', txB [some (.c k), W, some (.v (.str t)), some (.v (.int (i : Int))), some (.v (.str w))] C = some (.nx [some (.c k), W, some (.v (.str t')), some (.v (.int (i : Int))), some (.v (.str w))], C') /\ TI (i + 1) (done ++ [w.cps.toList]) t' /\ Adv k C C' := by
 obtain ⟨d, C1, e1, h1, h2, a1⟩ := ZaB k 4 C g (by decide)
 obtain ⟨p, hp, e2⟩ := ZbA [.int 1, .int 1, .int 2, .int 4] d h1 (by simpa using h2)
 obtain ⟨b, rfl, hb0, hb1⟩ : ∃ b : Int, p = .int b /\ 1 <= b /\ b <= 4 := by
  simp only [List.mem_cons, List.not_mem_nil, or_false] at hp
  rcases hp with rfl | rfl | rfl | rfl <;> exact ⟨_, rfl, by decide, by decide⟩
 obtain ⟨m, hm, hm0, hm1⟩ : ∃ m : Int, (if 0 < (i : Int) then (1 : Int) else 0) * b = m /\ (i = 0 -> m = 0) /\ (0 < i -> 1 <= m /\ m <= 4) /\ 0 <= m /\ m <= 10 := by
  refine ⟨_, rfl, ?_⟩
  by_cases h : i = 0
  ·subst h; simp
  ·rw [if_pos (by lia)]; lia
 obtain ⟨bl, e3, hbl, hbn⟩ := blanks m (by lia) (by lia)
 have hlt := I.l
 have ll : ∀ a b : Str, (a ++ b).length = a.length + b.length := fun a b => Str.length_append a b
 refine ⟨t ++ bl ++ w, C1, ?_, ⟨?_, fun h => absurd h (by lia), ?_⟩, a1⟩
 ·have c1 : t.length + bl.length <= 1000000 := by lia
  have c2 : (t ++ bl).length + w.length <= 1000000 := by rw [ll]; lia
  have hb : -18446744073709551616 < b /\ b < 18446744073709551616 := by lia
  by_cases h : i = 0
  ·subst h
   have hm' := hm0 rfl
   subst hm'
   simp! [txB, intH, addP, e1, e2, hb, e3, c1, c2, a1.take]
  ·have h' : 0 < i := by lia
   have hm' : b = m := by rw [← hm, if_pos (by lia)]; lia
   subst hm'
   simp! [txB, intH, addP, e1, e2, hb, e3, c1, c2, a1.take, h']
 ·rw [Zbx, Zbx, Array.toList_append, Array.toList_append, hbl]
  by_cases h : i = 0
  ·obtain ⟨j, hj⟩ := I.z h
   have hd : done = [] := by
    rw [← I.w, hj]
    have := Zbt 32 [] j
    rw [List.append_nil] at this
    exact this
   rw [hm0 h, hj, hd]
   show wds 32 (List.replicate j 32 ++ [] ++ w.cps.toList) = _
   rw [List.append_nil, Zbt, wds_one hw hn]; rfl
  ·obtain ⟨q, hq⟩ : ∃ q, m.toNat = q + 1 := ⟨m.toNat - 1, by lia⟩
   rw [hq, List.replicate_succ, List.append_assoc, List.cons_append, wds_app, I.w, Zbt, wds_one hw hn]
 ·rw [ll, ll]; lia
noncomputable def numd : Nat -> List Str -> List PV
 | _, [] => []
 | i, w :: r => .tup [.int (i : Nat), .str w] :: numd (i + 1) r
theorem numd_get : ∀ (ws : List Str) (i j : Nat), (numd i ws)[j]? = ws[j]?.map fun w => .tup [.int ((i + j : Nat) : Int), .str w]
 | [], i, j => by simp [numd]
 | w :: r, i, 0 => by simp [numd]
 | w :: r, i, j + 1 => by
  simp only [numd, List.getElem?_cons_succ, numd_get r (i + 1) j]
  congr 2
  funext w
  rw [show i + 1 + j = i + (j + 1) by lia]
theorem enum_numd (ws : List Str) : enumL (ws.map .str) = numd 0 ws := by
 apply List.ext_getElem?
 intro j
 rw [numd_get]
 unfold enumL
 by_cases h : j < ws.length
 ·simp [h, List.getD]
 ·simp [h]
noncomputable def hE : PV -> PSt -> Option PSt := hTup (hCons (hName 3) (hCons (hName 4) hNil)) 2
theorem tx_loop (k : Nat) (W : Option SV) : ∀ (rest : List Str) (i : Nat) (done : List (List Nat)) (t : Str) (x3 x4 : Option SV) (C : Cs), i + rest.length <= 10 -> (∀ w ∈ rest, 32 ∉ w.cps.toList /\ w.cps.toList ≠ [] /\ w.length <= 56) -> TI i done t -> GS C k ->
  ∃ t' x3' x4' C', loop hE txB (numd i rest) [some (.c k), W, some (.v (.str t)), x3, x4] C = some (.nx [some (.c k), W, some (.v (.str t')), x3', x4'], C') /\ TI (i + rest.length) (done ++ rest.map (·.cps.toList)) t' /\ Adv k C C'
 | [], i, done, t, x3, x4, C, _, _, I, g => ⟨t, x3, x4, C, rfl, by simpa using I, Adv.refl g⟩
 | w :: r, i, done, t, x3, x4, C, hi, hw, I, g => by
  simp only [List.length_cons] at hi
  obtain ⟨a, b, c⟩ := hw w (by simp)
  obtain ⟨t1, C1, e1, I1, a1⟩ := tx_step k C g W i (by lia) t w done I a b c
  obtain ⟨t2, y3, y4, C2, e2, I2, a2⟩ := tx_loop k W r (i + 1) _ t1 (some (.v (.int (i : Nat)))) (some (.v (.str w))) C1 (by lia) (fun z hz => hw z (by simp [hz])) I1 a1.gs
  refine ⟨t2, y3, y4, C2, ?_, ?_, a1.trans a2⟩
  ·simp only [numd, loop]
   rw [show hE (.tup [.int (i : Nat), .str w]) [some (.c k), W, some (.v (.str t)), x3, x4] = some [some (.c k), W, some (.v (.str t)), some (.v (.int (i : Nat))), some (.v (.str w))] from rfl]
   simp only [bnd, e1, e2]
  ·rw [show i + (w :: r).length = i + 1 + r.length by simp; lia]
   simpa using I2
noncomputable def t1 : PSt -> M PF := mSet 2 (mOp (g2 mulSP) (mC (.str " ")) (mOp (g2 ixQ) (mVal (mLst (aCons (mC (.int 0)) (aCons (mC (.int 1)) (aCons (mC (.int 0)) (aCons (mC (.int 3)) aNil)))))) (mFn F_qao (aCons (mVar 0) (aCons (mC (.int 4)) aNil)))))
noncomputable def t2 : PSt -> M PF := mFor (mEnum (aCons (mVar 1) aNil)) hE txB
noncomputable def t3 : PSt -> M PF := mRet (mOp (g2 addP) (mVar 2) (mOp (g2 mulSP) (mC (.str " ")) (mOp (g2 ixQ) (mVal (mLst (aCons (mC (.int 0)) (aCons (mC (.int 0)) (aCons (mC (.int 1)) (aCons (mC (.int 2)) aNil)))))) (mFn F_qao (aCons (mVar 0) (aCons (mC (.int 4)) aNil))))))
theorem text_is : B_qas = mSeq t1 (mSeq t2 t3) := rfl
theorem text_adv (k : Nat) (C : Cs) (g : GS C k) (ws : List Str) (hn : ws.length <= 4) (hw : ∀ w ∈ ws, 32 ∉ w.cps.toList /\ w.cps.toList ≠ [] /\ w.length <= 56) :
  ∃ z C', F_qas [.c k, .v (.lst (ws.map .str))] C = some (.v (.str z), C') /\ wds 32 z.cps.toList = ws.map (·.cps.toList) /\ z.length <= 90000 /\ Adv k C C' := by
 obtain ⟨d, C1, e1, h1, h2, a1⟩ := ZaB k 4 C g (by decide)
 obtain ⟨p, hp, e2⟩ := ZbA [.int 0, .int 1, .int 0, .int 3] d h1 (by simpa using h2)
 obtain ⟨m, rfl, hm0, hm1⟩ : ∃ b : Int, p = .int b /\ 0 <= b /\ b <= 10 := by
  simp only [List.mem_cons, List.not_mem_nil, or_false] at hp
  rcases hp with rfl | rfl | rfl | rfl <;> exact ⟨_, rfl, by decide, by decide⟩
 obtain ⟨bl, e3, hbl, hbn⟩ := blanks m hm0 hm1
 have I0 : TI 0 [] bl := ⟨by
  rw [hbl]
  have := Zbt 32 [] m.toNat
  rw [List.append_nil] at this
  exact this, fun _ => ⟨_, hbl⟩, by lia⟩
 obtain ⟨t', x3, x4, C2, e4, I2, a2⟩ := tx_loop k (some (.v (.lst (ws.map .str)))) ws 0 [] bl none none C1 (by lia) hw I0 a1.gs
 obtain ⟨d', C3, e5, h3, h4, a3⟩ := ZaB k 4 C2 a2.gs (by decide)
 obtain ⟨q, hq, e6⟩ := ZbA [.int 0, .int 0, .int 1, .int 2] d' h3 (by simpa using h4)
 obtain ⟨m', rfl, hm0', hm1'⟩ : ∃ b : Int, q = .int b /\ 0 <= b /\ b <= 10 := by
  simp only [List.mem_cons, List.not_mem_nil, or_false] at hq
  rcases hq with rfl | rfl | rfl | rfl <;> exact ⟨_, rfl, by decide, by decide⟩
 obtain ⟨bl', e7, hbl', hbn'⟩ := blanks m' hm0' hm1'
 have at1 := (a1.trans a2).trans a3
 have ll : ∀ a b : Str, (a ++ b).length = a.length + b.length := fun a b => Str.length_append a b
 have hl := I2.l
 have hl2 : t'.length <= 1000 := by lia
 refine ⟨t' ++ bl', C3, ?_, ?_, by rw [ll]; lia, at1⟩
 ·have hen := enum_numd ws
  generalize ws.map PV.str = WS at *
  have s1 : t1 [some (.c k), some (.v (.lst WS)), none, none, none] C = some (.nx [some (.c k), some (.v (.lst WS)), some (.v (.str bl)), none, none], C1) := by
   simp! [t1, e1, e2, e3, a1.take]
  have s2 : t2 [some (.c k), some (.v (.lst WS)), some (.v (.str bl)), none, none] C1 = some (.nx [some (.c k), some (.v (.lst WS)), some (.v (.str t')), x3, x4], C2) := by
   have : mEnum (aCons (mVar 1) aNil) [some (.c k), some (.v (.lst WS)), some (.v (.str bl)), none, none] C1 = some (numd 0 ws, C1) := by rw [← hen]; rfl
   unfold t2 mFor bnd
   rw [this]
   exact e4
  have c1 : t'.length + bl'.length <= 1000000 := by lia
  have s3 : t3 [some (.c k), some (.v (.lst WS)), some (.v (.str t')), x3, x4] C2 = some (.rt (.v (.str (t' ++ bl'))), C3) := by
   simp! [t3, addP, e5, e6, e7, c1, a3.take]
  have run : B_qas [some (.c k), some (.v (.lst WS)), none, none, none] C = some (.rt (.v (.str (t' ++ bl'))), C3) := by
   rw [text_is, ZaN s1, ZaN s2, s3]
  unfold F_qas
  generalize B_qas = bb at *
  simp! [run, at1.take]
 ·rw [Zbx, Array.toList_append, hbl', wds_end, I2.w]
  simp
theorem ZbK {l : List Pt} (h : Its l) : ∀ w ∈ wordsOf l, 32 ∉ w.cps.toList /\ w.cps.toList ≠ [] /\ w.length <= 56 := by
 intro w hw
 obtain ⟨p, hp, rfl⟩ := List.mem_map.mp hw
 have h1 := pt_len (h.ok p hp)
 refine ⟨pt_free (h.ok p hp), fun e => ?_, h1.2⟩
 have := h1.1
 rw [len_list, e] at this
 simp at this
theorem text_words {l : List Pt} (h : Its l) : (Txt.split (textOf l) ⟨#[32]⟩).filter ne0 = wordsOf l := by
 apply ZbB
 unfold textOf
 rw [Zbb]
 apply wds_glue
 intro p hp
 obtain ⟨w, hw, rfl⟩ := List.mem_map.mp hp
 have := ZbK h w hw
 exact ⟨this.1, this.2.1⟩
theorem text_len {l : List Pt} (h : Its l) : (textOf l).length <= 90000 := by
 have h1 := sum_len h.ok
 have h2 := h.n
 have h3 : (wordsOf l).length = l.length := by simp [wordsOf]
 have h4 := join_len ⟨#[32]⟩ (wordsOf l)
 rw [join_eq] at h4
 have h5 : (⟨#[32]⟩ : Str).length = 1 := rfl
 rw [h5] at h4
 show (Str.join ⟨#[32]⟩ (wordsOf l)).length <= _
 lia
section
variable {d1 f1 f2 f3 d2 f4 : Addr} (h12 : f1 ≠ f2) (h13 : f1 ≠ f3) (h14 : f1 ≠ f4) (h23 : f2 ≠ f3) (h24 : f2 ≠ f4) (h34 : f3 ≠ f4)
noncomputable def b1 : PSt -> M PF := mNew 2 (mFnF FF_qag (aCons (mVar 0) (aCons (mVar 1) aNil)))
noncomputable def b2 : PSt -> M PF := mSet 3 (mFn F_qac (aCons (mVar 2) aNil))
noncomputable def b3 : PSt -> M PF := mSet 4 (mFn F_qae (aCons (mVar 3) aNil))
noncomputable def cSh : PSt -> M Bool := mTest (mOp (g2 neP) (mFn F_qbn (aCons (mVar 3) aNil)) (mMt "str" joinH (mC (.str " ")) (aCons (mVar 4) aNil)))
noncomputable def cRd (d1 f1 f2 f3 d2 f4 : Addr) : PSt -> M Bool := mNotT (mTru (mFn (F_qaq 12) (aCons (mFn (F_qbk d1 f1 f2 f3 d2 f4) (aCons (mMt "str" joinH (mC (.str " ")) (aCons (mVar 4) aNil)) aNil)) (aCons (mVar 3) aNil))))
noncomputable def cTx (d1 f1 f2 f3 d2 f4 : Addr) : PSt -> M Bool := mNotT (mTru (mFn (F_qaq 12) (aCons (mFn (F_qbk d1 f1 f2 f3 d2 f4) (aCons (mFn F_qas (aCons (mVar 2) (aCons (mVar 4) aNil))) aNil)) (aCons (mVar 3) aNil))))
noncomputable def bb (d1 f1 f2 f3 d2 f4 : Addr) : PSt -> M PF := mSeq b1 (mSeq b2 (mSeq b3 (mSeq (mIfS (mOrT cSh (cRd d1 f1 f2 f3 d2 f4)) (mRet (mC (.bl false))) mSkip) (mSeq (mIfS (cTx d1 f1 f2 f3 d2 f4) (mRet (mC (.bl false))) mSkip) (mIfS cSh (mRet (mC (.bl false))) mSkip)))))
noncomputable def lR : PSt -> M (List PV) := mRange1 (aCons (mOp (g2 addP) (mC (.int 1)) (mCB (g1 minH) (aCons (mC (.int 30)) (aCons (mCB (g1 lenH) (aCons (mVar 0) aNil)) aNil)))) aNil)
theorem law_is : B_law d1 f1 f2 f3 d2 f4 = mSeq (mFor lR (hName 1) (bb d1 f1 f2 f3 d2 f4)) (mRet (mC (.bl true))) := rfl
theorem skip_if {c : PSt -> M Bool} {a : PSt -> M PF} {ρ : PSt} {C C1 : Cs} (h : c ρ C = some (false, C1)) : mIfS c a mSkip ρ C = some (.nx ρ, C1) := by
 unfold mIfS bnd
 rw [h]; rfl
include h12 h13 h14 h23 h24 h34 in
theorem bb_ok (ns : List Int) (i : Int) (h1 : 0 <= i) (h2 : i <= 1000) (x2 x3 x4 : Option SV) (C : Cs) : ∃ y2 y3 y4 C', bb d1 f1 f2 f3 d2 f4 [some (.v (.lst (ns.map .int))), some (.v (.int i)), x2, x3, x4] C = some (.nx [some (.v (.lst (ns.map .int))), some (.v (.int i)), y2, y3, y4], C') := by
 obtain ⟨x, y, e1, hy⟩ := left_eq ns i C h1 h2
 have g0 : GS (C ++ [.lst [.int x, .int y]]) C.length := ⟨x, y, by simp, hy⟩
 obtain ⟨kd, ps, C1, e2, hc, a1⟩ := claim_adv C.length (C ++ [.lst [.int x, .int y]]) g0
 have I := cl_its hc
 have e3 := Zb6 I C1
 have e4 := Zbg I C1
 have e5 := Zcj I
 have e6 := Zbk (d1 := d1) (d2 := d2) h12 h13 h14 h23 h24 h34 hc (textOf (.st kd :: ps)) (text_len I) (text_words I) C1
 have e7 := Zb8 I.n C1
 obtain ⟨z, C2, e8, hz, hzl, a2⟩ := text_adv C.length C1 a1.gs (wordsOf (.st kd :: ps)) (by simpa [wordsOf] using I.n) (ZbK I)
 have e9 := Zbk (d1 := d1) (d2 := d2) h12 h13 h14 h23 h24 h34 hc z hzl (ZbB z 32 _ hz) C2
 have e10 := Zb8 I.n C2
 have e11 := Zbg I C2
 generalize ns.map PV.int = NS at *
 generalize claimP (.st kd :: ps) = CL at *
 generalize textOf (.st kd :: ps) = TX at *
 generalize (wordsOf (.st kd :: ps)).map PV.str = WS at *
 have s1 : b1 [some (.v (.lst NS)), some (.v (.int i)), x2, x3, x4] C = some (.nx [some (.v (.lst NS)), some (.v (.int i)), some (.c C.length), x3, x4], C ++ [.lst [.int x, .int y]]) := by
  simp! [b1, mNew, e1]
 have s2 : b2 [some (.v (.lst NS)), some (.v (.int i)), some (.c C.length), x3, x4] (C ++ [.lst [.int x, .int y]]) = some (.nx [some (.v (.lst NS)), some (.v (.int i)), some (.c C.length), some (.v CL), x4], C1) := by
  simp! [b2, e2]
 have s3 : b3 [some (.v (.lst NS)), some (.v (.int i)), some (.c C.length), some (.v CL), x4] C1 = some (.nx [some (.v (.lst NS)), some (.v (.int i)), some (.c C.length), some (.v CL), some (.v (.lst WS))], C1) := by
  simp! [b3, e3]
 have sS : ∀ D, F_qbn [.v CL] D = some (.v (.str TX), D) -> cSh [some (.v (.lst NS)), some (.v (.int i)), some (.c C.length), some (.v CL), some (.v (.lst WS))] D = some (false, D) := fun D e => by
  simp! [cSh, e, e5]
 have sR : cRd d1 f1 f2 f3 d2 f4 [some (.v (.lst NS)), some (.v (.int i)), some (.c C.length), some (.v CL), some (.v (.lst WS))] C1 = some (false, C1) := by
  simp! [cRd, e5, e6, e7]
 have sO : mOrT cSh (cRd d1 f1 f2 f3 d2 f4) [some (.v (.lst NS)), some (.v (.int i)), some (.c C.length), some (.v CL), some (.v (.lst WS))] C1 = some (false, C1) := by
  unfold mOrT bnd
  rw [sS C1 e4]
  exact sR
 have sT : cTx d1 f1 f2 f3 d2 f4 [some (.v (.lst NS)), some (.v (.int i)), some (.c C.length), some (.v CL), some (.v (.lst WS))] C1 = some (false, C2) := by
  simp! [cTx, e8, e9, e10]
 refine ⟨some (.c C.length), some (.v CL), some (.v (.lst WS)), C2, ?_⟩
 unfold bb
 rw [ZaN s1, ZaN s2, ZaN s3, ZaN (skip_if sO), ZaN (skip_if sT), skip_if (sS C2 e11)]
include h12 h13 h14 h23 h24 h34 in
theorem law_pure (ns : List Int) (hn : ns.length <= 63) : F_law d1 f1 f2 f3 d2 f4 [.v (.lst (ns.map .int))] [] = some (.v (.bl true), []) := by
 obtain ⟨n, hr, hn2⟩ : ∃ n : Nat, lR [some (.v (.lst (ns.map .int))), none, none, none, none] [] = some ((List.range n).map fun (q : Nat) => PV.int (0 + q), []) /\ n <= 100 := by
  have hlen : lenH [.lst (ns.map .int)] = some (.int (ns.length : Int)) := by simp [lenH]
  generalize ns.length = m at *
  generalize ns.map PV.int = NS at *
  have hm : minH [.int 30, .int (m : Int)] = some (.int (if (m : Int) < 30 then (m : Int) else 30)) := rfl
  obtain ⟨q, hq, hq2⟩ : ∃ q : Nat, (if (m : Int) < 30 then (m : Int) else 30) = (q : Int) /\ q <= 30 := by
   split
   ·exact ⟨m, rfl, by lia⟩
   ·exact ⟨30, rfl, by lia⟩
  rw [hq] at hm
  have hrg : rng1P [.v (.int (1 + (q : Int)))] = some ((List.range (1 + q)).map fun (q : Nat) => PV.int (0 + q)) := by
   unfold rng1P
   dsimp only
   rw [if_pos (by lia), show (1 + (q : Int)).toNat = 1 + q by lia]
  refine ⟨1 + q, ?_, by lia⟩
  simp [lR, mRange1, aCons, aNil, mC, mOp, mCB, mVar, bnd, opM, Pu.ret, g1, g2, derefs, deref, addP, hlen, hm, hrg]
 obtain ⟨ρ', D, e, hpi⟩ := loop_inv (g := hName 1) (f := bb d1 f1 f2 f3 d2 f4) (fun ρ D => ∃ x1 x2 x3 x4, ρ = [some (.v (.lst (ns.map .int))), x1, x2, x3, x4]) ((List.range n).map fun (q : Nat) => PV.int (0 + q)) (fun z hz ρ D hh => by
   obtain ⟨q, hq, rfl⟩ := List.mem_map.mp hz
   have hq := List.mem_range.mp hq
   obtain ⟨x1, x2, x3, x4, rfl⟩ := hh
   obtain ⟨y2, y3, y4, D', e⟩ := bb_ok (d1 := d1) (d2 := d2) h12 h13 h14 h23 h24 h34 ns (0 + (q : Int)) (by lia) (by lia) x2 x3 x4 D
   exact ⟨_, _, D', rfl, e, _, _, _, _, rfl⟩) [some (.v (.lst (ns.map .int))), none, none, none, none] [] ⟨none, none, none, none, rfl⟩
 have s6 : mFor lR (hName 1) (bb d1 f1 f2 f3 d2 f4) [some (.v (.lst (ns.map .int))), none, none, none, none] [] = some (.nx ρ', D) := by
  unfold mFor
  rw [bnd, hr]; exact e
 have run : B_law d1 f1 f2 f3 d2 f4 [some (.v (.lst (ns.map .int))), none, none, none, none] [] = some (.rt (.v (.bl true)), D) := by
  rw [law_is, ZaN s6]; rfl
 unfold F_law
 generalize B_law d1 f1 f2 f3 d2 f4 = bl at *
 generalize ns.map PV.int = NS at *
 simp! [run]
end
noncomputable def fnames : List Str := List.map Str.ofString ["is_number", "is_number_below", "is_row_of", "is_word", "is_clause_number", "is_letter_name", "is_of_due", "is_of_clause", "is_of_name", "is_of_two_names", "is_claim", "words_in", "is_figures", "need", "shown_name", "shown_part", "shown_claim", "words_of", "read_number", "read_name", "read_claim", "_law_cell_at", "_law_left", "_law_pick", "_law_number", "_law_word", "_law_name", "_law_name_text", "_law_claim", "_law_claim_words", "_law_text", "_law_same", "law"]
noncomputable def sts : List (Str × Stmt) := fnames.zip (List.map top [4, 5, 6, 7, 9, 10, 12, 13, 14, 15, 18, 24, 25, 27, 28, 29, 30, 31, 32, 33, 34, 36, 37, 38, 39, 40, 41, 42, 43, 44, 45, 46, 47])
theorem sts_ok : (recsOf qv).map Hd.four = sts.map Hd.fourS := by kernel_rfl
theorem td_READ_FORMS {w : World} {h : Heap} {mg : Str -> Option Value} {as : List Addr} (G : h.Ns mainGlobals mg) (Y : hk.says w h) (m : 83 ∈ as) {f_qbd : Addr} {f_qbc : Addr} {f_qbe : Addr} (e0 : mg "is_of_due" = some (.ref f_qbd)) (e1 : mg "is_of_clause" = some (.ref f_qbc)) (e2 : mg "is_of_name" = some (.ref f_qbe)) : mg "READ_FORMS" = some (.ref 83) /\ TopD (Hd.kf h as) w 83 (Zat f_qbd f_qbc f_qbe) := by
 refine ⟨Hd.tab_mg G Y.1 0 rfl rfl, ⟨(Zbp w.params).toArray, 4, Hd.kf_at (Hd.tab_at Y.2 0 rfl rfl) m, ?_, ?_⟩, by decide⟩
 ·repeat (first | exact True.intro | refine And.intro ⟨_, _, rfl, rfl⟩ ?_)
 ·have q0 := (Hd.tab_mg G Y.1 1 rfl rfl).symm.trans e0
  cases q0
  have q1 := (Hd.tab_mg G Y.1 2 rfl rfl).symm.trans e1
  cases q1
  have q2 := (Hd.tab_mg G Y.1 3 rfl rfl).symm.trans e2
  cases q2
  repeat (first | exact Paired.nil | refine Paired.cons ⟨rfl, rfl⟩ ?_)
theorem td_MARK_FORMS {w : World} {h : Heap} {mg : Str -> Option Value} {as : List Addr} (G : h.Ns mainGlobals mg) (Y : hk.says w h) (m : 84 ∈ as) {f_qbe : Addr} {f_qbf : Addr} (e0 : mg "is_of_name" = some (.ref f_qbe)) (e1 : mg "is_of_two_names" = some (.ref f_qbf)) : mg "MARK_FORMS" = some (.ref 84) /\ TopD (Hd.kf h as) w 84 (ZaA f_qbe f_qbf) := by
 refine ⟨Hd.tab_mg G Y.1 4 rfl rfl, ⟨(Zbq w.params).toArray, 5, Hd.kf_at (Hd.tab_at Y.2 1 rfl rfl) m, ?_, ?_⟩, by decide⟩
 ·repeat (first | exact True.intro | refine And.intro ⟨_, _, rfl, rfl⟩ ?_)
 ·have q0 := (Hd.tab_mg G Y.1 3 rfl rfl).symm.trans e0
  cases q0
  have q1 := (Hd.tab_mg G Y.1 5 rfl rfl).symm.trans e1
  cases q1
  repeat (first | exact Paired.nil | refine Paired.cons ⟨rfl, rfl⟩ ?_)
theorem ln0 {P : List Value -> Prop} (h : P []) : ∀ us : List Value, us.length = 0 -> P us := by
 intro us hl
 cases us with
 | nil => exact h
 | cons a r => simp at hl
theorem ln1 {P : List Value -> Prop} (h : ∀ a, P [a]) : ∀ us : List Value, us.length = 1 -> P us := by
 intro us hl
 cases us with
 | nil => simp at hl
 | cons a r => exact ln0 (P := fun r => P (a :: r)) (h a) r (by simpa using hl)
theorem ln2 {P : List Value -> Prop} (h : ∀ a b, P [a, b]) : ∀ us : List Value, us.length = 2 -> P us := by
 intro us hl
 cases us with
 | nil => simp at hl
 | cons a r => exact ln1 (P := fun r => P (a :: r)) (h a) r (by simpa using hl)
theorem ln3 {P : List Value -> Prop} (h : ∀ a b c, P [a, b, c]) : ∀ us : List Value, us.length = 3 -> P us := by
 intro us hl
 cases us with
 | nil => simp at hl
 | cons a r => exact ln2 (P := fun r => P (a :: r)) (h a) r (by simpa using hl)
theorem all_mk {P : Program} {w : World} {K : W.Frag} {mg : Str -> Option Value} {fa : Addr} (hfa : mg "law" = some (.ref fa)) (T : Txt mg)
  (e_is_number : Hd.FnAt K mg "is_number" s_qba)
  (e_is_number_below : Hd.FnAt K mg "is_number_below" s_qbb)
  (e_is_row_of : Hd.FnAt K mg "is_row_of" s_qbg)
  (e_is_word : Hd.FnAt K mg "is_word" s_qbh)
  (e_is_clause_number : Hd.FnAt K mg "is_clause_number" s_qax)
  (e_is_letter_name : Hd.FnAt K mg "is_letter_name" s_qaz)
  (e_is_of_due : Hd.FnAt K mg "is_of_due" s_qbd)
  (e_is_of_clause : Hd.FnAt K mg "is_of_clause" s_qbc)
  (e_is_of_name : Hd.FnAt K mg "is_of_name" s_qbe)
  (e_is_of_two_names : Hd.FnAt K mg "is_of_two_names" s_qbf)
  (e_is_claim : Hd.FnAt K mg "is_claim" s_qaw)
  (e_words_in : Hd.FnAt K mg "words_in" s_qbq)
  (e_is_figures : Hd.FnAt K mg "is_figures" s_qay)
  (e_need : Hd.FnAt K mg "need" s_qbj)
  (e_shown_name : Hd.FnAt K mg "shown_name" s_qbo)
  (e_shown_part : Hd.FnAt K mg "shown_part" s_qbp)
  (e_shown_claim : Hd.FnAt K mg "shown_claim" s_qbn)
  (e_words_of : Hd.FnAt K mg "words_of" s_qbr)
  (e_read_number : Hd.FnAt K mg "read_number" s_qbm)
  (e_read_name : Hd.FnAt K mg "read_name" s_qbl)
  (e_read_claim : Hd.FnAt K mg "read_claim" s_qbk)
  (e__law_cell_at : Hd.FnAt K mg "_law_cell_at" s_qaa)
  (e__law_left : Hd.FnAt K mg "_law_left" s_qag)
  (e__law_pick : Hd.FnAt K mg "_law_pick" s_qao)
  (e__law_number : Hd.FnAt K mg "_law_number" s_qam)
  (e__law_word : Hd.FnAt K mg "_law_word" s_qau)
  (e__law_name : Hd.FnAt K mg "_law_name" s_qai)
  (e__law_name_text : Hd.FnAt K mg "_law_name_text" s_qak)
  (e__law_claim : Hd.FnAt K mg "_law_claim" s_qac)
  (e__law_claim_words : Hd.FnAt K mg "_law_claim_words" s_qae)
  (e__law_text : Hd.FnAt K mg "_law_text" s_qas)
  (e__law_same : Hd.FnAt K mg "_law_same" s_qaq)
  (e_law : Hd.FnAt K mg "law" s_law)
  {d_READ_FORMS : Addr} (tb_READ_FORMS : ∀ {f_qbd f_qbc f_qbe : Addr}, mg "is_of_due" = some (.ref f_qbd) -> mg "is_of_clause" = some (.ref f_qbc) -> mg "is_of_name" = some (.ref f_qbe) -> mg "READ_FORMS" = some (.ref d_READ_FORMS) /\ TopD K w d_READ_FORMS (Zat f_qbd f_qbc f_qbe))
  {d_MARK_FORMS : Addr} (tb_MARK_FORMS : ∀ {f_qbe f_qbf : Addr}, mg "is_of_name" = some (.ref f_qbe) -> mg "is_of_two_names" = some (.ref f_qbf) -> mg "MARK_FORMS" = some (.ref d_MARK_FORMS) /\ TopD K w d_MARK_FORMS (ZaA f_qbe f_qbf))
  : ∃ fd : FuncData, (∀ (s : Shared) (v : Value), BindsTo s fd ⟨[v], []⟩ [("_law_script", v)]) /\ ∀ base : Heap, FnOk P w K mg base CX0 14 fa fd ["_law_script"] (Hd.spLaw K) := by
 obtain ⟨f_qba, fd_qba, m_qba, N_qba⟩ := e_is_number
 have bd_qba := N_qba.binds (ps := ["thing", "least"]) fun _ _ _ _ _ _ => ln2 fun _ _ => rfl
 obtain ⟨f_qbb, fd_qbb, m_qbb, N_qbb⟩ := e_is_number_below
 have bd_qbb := N_qbb.binds (ps := ["thing", "bound"]) fun _ _ _ _ _ _ => ln2 fun _ _ => rfl
 obtain ⟨f_qbg, fd_qbg, m_qbg, N_qbg⟩ := e_is_row_of
 have bd_qbg := N_qbg.binds (ps := ["thing", "least", "most"]) fun _ _ _ _ _ _ => ln3 fun _ _ _ => rfl
 obtain ⟨f_qbh, fd_qbh, m_qbh, N_qbh⟩ := e_is_word
 have bd_qbh := N_qbh.binds (ps := ["thing"]) fun _ _ _ _ _ _ => ln1 fun _ => rfl
 obtain ⟨f_qax, fd_qax, m_qax, N_qax⟩ := e_is_clause_number
 have bd_qax := N_qax.binds (ps := ["thing"]) fun _ _ _ _ _ _ => ln1 fun _ => rfl
 obtain ⟨f_qaz, fd_qaz, m_qaz, N_qaz⟩ := e_is_letter_name
 have bd_qaz := N_qaz.binds (ps := ["thing"]) fun _ _ _ _ _ _ => ln1 fun _ => rfl
 obtain ⟨f_qbd, fd_qbd, m_qbd, N_qbd⟩ := e_is_of_due
 have bd_qbd := N_qbd.binds (ps := ["parts"]) fun _ _ _ _ _ _ => ln1 fun _ => rfl
 obtain ⟨f_qbc, fd_qbc, m_qbc, N_qbc⟩ := e_is_of_clause
 have bd_qbc := N_qbc.binds (ps := ["parts"]) fun _ _ _ _ _ _ => ln1 fun _ => rfl
 obtain ⟨f_qbe, fd_qbe, m_qbe, N_qbe⟩ := e_is_of_name
 have bd_qbe := N_qbe.binds (ps := ["parts"]) fun _ _ _ _ _ _ => ln1 fun _ => rfl
 obtain ⟨f_qbf, fd_qbf, m_qbf, N_qbf⟩ := e_is_of_two_names
 have bd_qbf := N_qbf.binds (ps := ["parts"]) fun _ _ _ _ _ _ => ln1 fun _ => rfl
 obtain ⟨f_qaw, fd_qaw, m_qaw, N_qaw⟩ := e_is_claim
 have bd_qaw := N_qaw.binds (ps := ["thing"]) fun _ _ _ _ _ _ => ln1 fun _ => rfl
 obtain ⟨f_qbq, fd_qbq, m_qbq, N_qbq⟩ := e_words_in
 have bd_qbq := N_qbq.binds (ps := ["line"]) fun _ _ _ _ _ _ => ln1 fun _ => rfl
 obtain ⟨f_qay, fd_qay, m_qay, N_qay⟩ := e_is_figures
 have bd_qay := N_qay.binds (ps := ["word"]) fun _ _ _ _ _ _ => ln1 fun _ => rfl
 obtain ⟨f_qbj, fd_qbj, m_qbj, N_qbj⟩ := e_need
 have bd_qbj := N_qbj.binds (ps := ["holds"]) fun _ _ _ _ _ _ => ln1 fun _ => rfl
 obtain ⟨f_qbo, fd_qbo, m_qbo, N_qbo⟩ := e_shown_name
 have bd_qbo := N_qbo.binds (ps := ["name"]) fun _ _ _ _ _ _ => ln1 fun _ => rfl
 obtain ⟨f_qbp, fd_qbp, m_qbp, N_qbp⟩ := e_shown_part
 have bd_qbp := N_qbp.binds (ps := ["part"]) fun _ _ _ _ _ _ => ln1 fun _ => rfl
 obtain ⟨f_qbn, fd_qbn, m_qbn, N_qbn⟩ := e_shown_claim
 have bd_qbn := N_qbn.binds (ps := ["claim"]) fun _ _ _ _ _ _ => ln1 fun _ => rfl
 obtain ⟨f_qbr, fd_qbr, m_qbr, N_qbr⟩ := e_words_of
 have bd_qbr := N_qbr.binds (ps := ["text"]) fun _ _ _ _ _ _ => ln1 fun _ => rfl
 obtain ⟨f_qbm, fd_qbm, m_qbm, N_qbm⟩ := e_read_number
 have bd_qbm := N_qbm.binds (ps := ["word"]) fun _ _ _ _ _ _ => ln1 fun _ => rfl
 obtain ⟨f_qbl, fd_qbl, m_qbl, N_qbl⟩ := e_read_name
 have bd_qbl := N_qbl.binds (ps := ["word"]) fun _ _ _ _ _ _ => ln1 fun _ => rfl
 obtain ⟨f_qbk, fd_qbk, m_qbk, N_qbk⟩ := e_read_claim
 have bd_qbk := N_qbk.binds (ps := ["text"]) fun _ _ _ _ _ _ => ln1 fun _ => rfl
 obtain ⟨f_qaa, fd_qaa, m_qaa, N_qaa⟩ := e__law_cell_at
 have bd_qaa := N_qaa.binds (ps := ["_law_script", "_law_k"]) fun _ _ _ _ _ _ => ln2 fun _ _ => rfl
 obtain ⟨f_qag, fd_qag, m_qag, N_qag⟩ := e__law_left
 have bd_qag := N_qag.binds (ps := ["_law_script", "_law_k"]) fun _ _ _ _ _ _ => ln2 fun _ _ => rfl
 obtain ⟨f_qao, fd_qao, m_qao, N_qao⟩ := e__law_pick
 have bd_qao := N_qao.binds (ps := ["_law_left_here", "_law_many"]) fun _ _ _ _ _ _ => ln2 fun _ _ => rfl
 obtain ⟨f_qam, fd_qam, m_qam, N_qam⟩ := e__law_number
 have bd_qam := N_qam.binds (ps := ["_law_left_here"]) fun _ _ _ _ _ _ => ln1 fun _ => rfl
 obtain ⟨f_qau, fd_qau, m_qau, N_qau⟩ := e__law_word
 have bd_qau := N_qau.binds (ps := ["_law_left_here"]) fun _ _ _ _ _ _ => ln1 fun _ => rfl
 obtain ⟨f_qai, fd_qai, m_qai, N_qai⟩ := e__law_name
 have bd_qai := N_qai.binds (ps := ["_law_left_here"]) fun _ _ _ _ _ _ => ln1 fun _ => rfl
 obtain ⟨f_qak, fd_qak, m_qak, N_qak⟩ := e__law_name_text
 have bd_qak := N_qak.binds (ps := ["_law_name_here"]) fun _ _ _ _ _ _ => ln1 fun _ => rfl
 obtain ⟨f_qac, fd_qac, m_qac, N_qac⟩ := e__law_claim
 have bd_qac := N_qac.binds (ps := ["_law_left_here"]) fun _ _ _ _ _ _ => ln1 fun _ => rfl
 obtain ⟨f_qae, fd_qae, m_qae, N_qae⟩ := e__law_claim_words
 have bd_qae := N_qae.binds (ps := ["_law_claim_here"]) fun _ _ _ _ _ _ => ln1 fun _ => rfl
 obtain ⟨f_qas, fd_qas, m_qas, N_qas⟩ := e__law_text
 have bd_qas := N_qas.binds (ps := ["_law_left_here", "_law_words"]) fun _ _ _ _ _ _ => ln2 fun _ _ => rfl
 obtain ⟨f_qaq, fd_qaq, m_qaq, N_qaq⟩ := e__law_same
 have bd_qaq := N_qaq.binds (ps := ["_law_found", "_law_due"]) fun _ _ _ _ _ _ => ln2 fun _ _ => rfl
 obtain ⟨f_law, fd_law, m_law, N_law⟩ := e_law
 obtain ⟨m_READ_FORMS, TD_READ_FORMS⟩ := tb_READ_FORMS m_qbd m_qbc m_qbe
 obtain ⟨m_MARK_FORMS, TD_MARK_FORMS⟩ := tb_MARK_FORMS m_qbe m_qbf
 have e := hfa.symm.trans m_law; cases e
 have hb : ∀ (s : Shared) (v : Value), BindsTo s fd_law ⟨[v], []⟩ [("_law_script", v)] := by
  obtain ⟨oc, od, kV, doc, pm, an, cdv, ct, osl, rfl, lk, hcd⟩ := N_law.ex
  exact fun s v => .of_eq rfl
 refine ⟨fd_law, hb, fun base => ?_⟩
 have E_qba := ok_qba (P := P) (w := w) (base := base) N_qba T 
 have E_qbb := ok_qbb (P := P) (w := w) (base := base) N_qbb T E_qba m_qba N_qba.kp bd_qba
 have E_qbg := ok_qbg (P := P) (w := w) (base := base) N_qbg T 
 have E_qbh := ok_qbh (P := P) (w := w) (base := base) N_qbh T 
 have E_qax := ok_qax (P := P) (w := w) (base := base) N_qax T E_qbb m_qbb N_qbb.kp bd_qbb
 have E_qaz := ok_qaz (P := P) (w := w) (base := base) N_qaz T E_qbg m_qbg N_qbg.kp bd_qbg E_qbh m_qbh N_qbh.kp bd_qbh E_qba m_qba N_qba.kp bd_qba
 have E_qbd := ok_qbd (P := P) (w := w) (base := base) N_qbd T E_qaz m_qaz N_qaz.kp bd_qaz E_qax m_qax N_qax.kp bd_qax E_qba m_qba N_qba.kp bd_qba
 have E_qbc := ok_qbc (P := P) (w := w) (base := base) N_qbc T E_qaz m_qaz N_qaz.kp bd_qaz E_qax m_qax N_qax.kp bd_qax
 have E_qbe := ok_qbe (P := P) (w := w) (base := base) N_qbe T E_qaz m_qaz N_qaz.kp bd_qaz
 have E_qbf := ok_qbf (P := P) (w := w) (base := base) N_qbf T E_qaz m_qaz N_qaz.kp bd_qaz
 have E_qaw := ok_qaw (P := P) (w := w) (base := base) N_qaw T m_READ_FORMS TD_READ_FORMS m_MARK_FORMS TD_MARK_FORMS E_qbd m_qbd N_qbd.kp bd_qbd E_qbc m_qbc N_qbc.kp bd_qbc E_qbe m_qbe N_qbe.kp bd_qbe E_qbf m_qbf N_qbf.kp bd_qbf
 have E_qbq := ok_qbq (P := P) (w := w) (base := base) N_qbq T 
 have E_qay := ok_qay (P := P) (w := w) (base := base) N_qay T 
 have E_qbj := ok_qbj (P := P) (w := w) (base := base) N_qbj T 
 have E_qbo := ok_qbo (P := P) (w := w) (base := base) N_qbo T 
 have E_qbp := ok_qbp (P := P) (w := w) (base := base) N_qbp T E_qbo m_qbo N_qbo.kp bd_qbo
 have E_qbn := ok_qbn (P := P) (w := w) (base := base) N_qbn T E_qbp m_qbp N_qbp.kp bd_qbp
 have E_qbr := ok_qbr (P := P) (w := w) (base := base) N_qbr T E_qbj m_qbj N_qbj.kp bd_qbj E_qbq m_qbq N_qbq.kp bd_qbq
 have E_qbm := ok_qbm (P := P) (w := w) (base := base) N_qbm T E_qay m_qay N_qay.kp bd_qay E_qbj m_qbj N_qbj.kp bd_qbj
 have E_qbl := ok_qbl (P := P) (w := w) (base := base) N_qbl T E_qbj m_qbj N_qbj.kp bd_qbj E_qbm m_qbm N_qbm.kp bd_qbm
 have E_qbk := ok_qbk (P := P) (w := w) (base := base) N_qbk T E_qbr m_qbr N_qbr.kp bd_qbr E_qbl m_qbl N_qbl.kp bd_qbl E_qbm m_qbm N_qbm.kp bd_qbm E_qaw m_qaw N_qaw.kp bd_qaw E_qbj m_qbj N_qbj.kp bd_qbj
 have E_qaa := ok_qaa (P := P) (w := w) (base := base) N_qaa T 
 have E_qag := ok_qag (P := P) (w := w) (base := base) N_qag T E_qaa m_qaa N_qaa.kp bd_qaa
 have EF_qag := okF_qag (P := P) (w := w) (base := base) N_qag T E_qaa m_qaa N_qaa.kp bd_qaa
 have E_qao := ok_qao (P := P) (w := w) (base := base) N_qao T 
 have E_qam := ok_qam (P := P) (w := w) (base := base) N_qam T E_qao m_qao N_qao.kp bd_qao
 have E_qau := ok_qau (P := P) (w := w) (base := base) N_qau T E_qao m_qao N_qao.kp bd_qao
 have E_qai := ok_qai (P := P) (w := w) (base := base) N_qai T E_qau m_qau N_qau.kp bd_qau E_qam m_qam N_qam.kp bd_qam
 have E_qak := ok_qak (P := P) (w := w) (base := base) N_qak T 
 have E_qac := ok_qac (P := P) (w := w) (base := base) N_qac T E_qai m_qai N_qai.kp bd_qai E_qao m_qao N_qao.kp bd_qao E_qam m_qam N_qam.kp bd_qam
 have E_qae := ok_qae (P := P) (w := w) (base := base) N_qae T E_qak m_qak N_qak.kp bd_qak
 have E_qas := ok_qas (P := P) (w := w) (base := base) N_qas T E_qao m_qao N_qao.kp bd_qao
 have E_qaq := ok_qaq (P := P) (w := w) (base := base) N_qaq T m_qaq N_qaq.kp bd_qaq
 have E_law := ok_law (P := P) (w := w) (base := base) N_law T EF_qag m_qag N_qag.kp bd_qag E_qac m_qac N_qac.kp bd_qac E_qae m_qae N_qae.kp bd_qae E_qbn m_qbn N_qbn.kp bd_qbn E_qbk m_qbk N_qbk.kp bd_qbk E_qaq m_qaq N_qaq.kp bd_qaq E_qas m_qas N_qas.kp bd_qas
 exact E_law.imp (Hd.spLaw_lift fun ns hl => law_pure (Zcm N_qbd N_qbc (by decide)) (Zcm N_qbd N_qbe (by decide)) (Zcm N_qbd N_qbf (by decide)) (Zcm N_qbc N_qbe (by decide)) (Zcm N_qbc N_qbf (by decide)) (Zcm N_qbe N_qbf (by decide)) ns hl)
noncomputable def bl : List Str := ["all", "bool", "enumerate", "int", "isinstance", "len", "max", "min", "range", "str", "tuple", "zip"]
theorem hbl : bl.all (fun x => !Hd.isHere qv (W.looseW qv ["READ_FORMS", "MARK_FORMS", "HoldError", "NoLetter"]) x) = true := by kernel_rfl
theorem said : PySem.Challenge.rw_holdword_k82_claims_shown.wellSaid = true := by kernel_rfl
end K82
open PySem PySem.W PyProof.Rows
set_option maxRecDepth 100000 in
set_option maxHeartbeats 0 in
theorem PySem.Challenge.cw_holdword_k82_claims_shown_holds : PySem.Challenge.rw_holdword_k82_claims_shown.Holds := by
 refine holds_law K82.said fun said => ?_
 refine holds_open (q := K82.qv) (loose := ["READ_FORMS", "MARK_FORMS", "HoldError", "NoLetter"]) (Xt := fun s => xlAt K82.qv [] s && recOk [] s) (XP := XL K82.qv []) (YP := K82.hk.says) K82.hl (Hook.of K82.hk) (Hook.keeps K82.hk) (fun s e => xl_of s (Bool.and_eq_true_iff.mp e).1) XL.keeps (d := ⟨"law", L2.defArgs K82.s_law, L2.defBody K82.s_law, L2.defScope K82.s_law, Hd.defPos K82.s_law⟩) (kwd := []) (by kernel_rfl) (by kernel_rfl) (by kernel_rfl) (fun s e => recFacts_of (Bool.and_eq_true_iff.mp e).2) (by rfl) said (by kernel_rfl) ⟨rfl, rfl, rfl, rfl, rfl, by decide +kernel⟩ ⟨[.list []], by decide +kernel, by decide +kernel⟩ ?_
 refine Hd.walk (k := 14) rfl rfl ⟨rfl, by decide, by decide⟩ [83, 84] fun w s₀ mg mb h as G Y h0 A fa hmg => ?_
 refine K82.all_mk hmg ⟨Hd.str_of (G.T.const "FIGURES" (.str "0123456789") (by kernel_rfl)), Hd.int_of (G.T.const "LONGEST_WORD" (.int 12) (by kernel_rfl)), Hd.int_of (G.T.const "MOST_CLAUSES" (.int 12) (by kernel_rfl)), Hd.str_of (G.T.const "SMALL_LETTERS" (.str "abcdefghijklmnopqrstuvwxyz") (by kernel_rfl)), Hd.nones G.T K82.hbl 0 rfl, Hd.nones G.T K82.hbl 1 rfl, Hd.nones G.T K82.hbl 2 rfl, Hd.nones G.T K82.hbl 3 rfl, Hd.nones G.T K82.hbl 4 rfl, Hd.nones G.T K82.hbl 5 rfl, Hd.nones G.T K82.hbl 6 rfl, Hd.nones G.T K82.hbl 7 rfl, Hd.nones G.T K82.hbl 8 rfl, Hd.nones G.T K82.hbl 9 rfl, Hd.nones G.T K82.hbl 10 rfl, Hd.nones G.T K82.hbl 11 rfl⟩ (Hd.fn_at A K82.sts_ok 0 rfl) (Hd.fn_at A K82.sts_ok 1 rfl) (Hd.fn_at A K82.sts_ok 2 rfl) (Hd.fn_at A K82.sts_ok 3 rfl) (Hd.fn_at A K82.sts_ok 4 rfl) (Hd.fn_at A K82.sts_ok 5 rfl) (Hd.fn_at A K82.sts_ok 6 rfl) (Hd.fn_at A K82.sts_ok 7 rfl) (Hd.fn_at A K82.sts_ok 8 rfl) (Hd.fn_at A K82.sts_ok 9 rfl) (Hd.fn_at A K82.sts_ok 10 rfl) (Hd.fn_at A K82.sts_ok 11 rfl) (Hd.fn_at A K82.sts_ok 12 rfl) (Hd.fn_at A K82.sts_ok 13 rfl) (Hd.fn_at A K82.sts_ok 14 rfl) (Hd.fn_at A K82.sts_ok 15 rfl) (Hd.fn_at A K82.sts_ok 16 rfl) (Hd.fn_at A K82.sts_ok 17 rfl) (Hd.fn_at A K82.sts_ok 18 rfl) (Hd.fn_at A K82.sts_ok 19 rfl) (Hd.fn_at A K82.sts_ok 20 rfl) (Hd.fn_at A K82.sts_ok 21 rfl) (Hd.fn_at A K82.sts_ok 22 rfl) (Hd.fn_at A K82.sts_ok 23 rfl) (Hd.fn_at A K82.sts_ok 24 rfl) (Hd.fn_at A K82.sts_ok 25 rfl) (Hd.fn_at A K82.sts_ok 26 rfl) (Hd.fn_at A K82.sts_ok 27 rfl) (Hd.fn_at A K82.sts_ok 28 rfl) (Hd.fn_at A K82.sts_ok 29 rfl) (Hd.fn_at A K82.sts_ok 30 rfl) (Hd.fn_at A K82.sts_ok 31 rfl) (Hd.fn_at A K82.sts_ok 32 rfl) (K82.td_READ_FORMS G.T.g Y (h0 _ (by simp))) (K82.td_MARK_FORMS G.T.g Y (h0 _ (by simp)))