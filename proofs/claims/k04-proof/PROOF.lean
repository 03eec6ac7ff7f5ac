import PyProof.Rows.All
import Wide.All
import OpenK.AllK
import Wide.FinOn
import Lean
import PyProof.EqAt
import PyProof.EqKinds
import PyProof.TupleCall
import PySem.SetOps
import PyProof.SetScanFacts
import PyProof.SetKind
import PyProof.TupleKey
import PyProof.DictRoadsH
import PyProof.IsRules
import PyProof.Rows.SetFrom
import PyProof.WalksMore
import PyProof.NeKinds
import KE.KSortTup
import KE.KDictOf
import PyProof.DictFindH
import PyProof.AttrMissSeq
import KE.KDictList
import PyProof.StrBlock2
import PyProof.SeqI3
import PySem.Challenge.RW_holdword_k04_bounds_and_ends
set_option backward.eqns.nonrecursive false
set_option genSizeOf false
set_option compiler.extract_closed false
set_option bootstrap.genMatcherCode false
set_option Elab.async false
set_option linter.all false
set_option maxRecDepth 100000
namespace L2
open PySem PySem.Spec PyProof.Rows
noncomputable abbrev Key := Sum Int Str
noncomputable def keyIs : Key -> Value -> Bool
 | .inl k, v => Value.isInt k v
 | .inr x, v => Value.isStrOf x v
noncomputable def keyH (w : World) : Key -> Int
 | .inl k => hashInt k
 | .inr x => hashStr w x
theorem ZaA : ∀ {k : Key} {v : Value}, keyIs k v = true -> (∃ i t, k = Sum.inl i /\ v = Value.int i t) \/ (∃ x t, k = Sum.inr x /\ v = Value.str x t)
 | .inl i, v, h => by
  obtain ⟨t, e⟩ := Value.isInt_shape (k := i) (v := v) h
  exact .inl ⟨i, t, rfl, e⟩
 | .inr x, v, h => by
  obtain ⟨t, e⟩ := Value.isStrOf_shape (x := x) (v := v) h
  exact .inr ⟨x, t, rfl, e⟩
theorem keyIs_int (i : Int) (t : Tok) : keyIs (.inl i) (.int i t) = true := by simp [keyIs, Value.isInt]
theorem keyIs_str (x : Str) (t : Tok) : keyIs (.inr x) (.str x t) = true := by simp [keyIs, Value.isStrOf]
theorem key_ll (a b : Int) : decide ((Sum.inl a : Key) = Sum.inl b) = (a == b) := by
 by_cases e : a = b
 ·subst e; simp
 ·have h : ¬ (Sum.inl a : Key) = Sum.inl b := fun q => e (Sum.inl.inj q)
  rw [decide_eq_false h]
  exact (beq_eq_false_iff_ne.mpr e).symm
theorem key_rr (a b : Str) : decide ((Sum.inr a : Key) = Sum.inr b) = decide (a = b) := by
 by_cases e : a = b
 ·subst e; simp
 ·have h : ¬ (Sum.inr a : Key) = Sum.inr b := fun q => e (Sum.inr.inj q)
  rw [decide_eq_false h, decide_eq_false e]
theorem key_lr (a : Int) (b : Str) : decide ((Sum.inl a : Key) = Sum.inr b) = false := decide_eq_false (fun q => nomatch q)
theorem key_rl (a : Str) (b : Int) : decide ((Sum.inr a : Key) = Sum.inl b) = false := decide_eq_false (fun q => nomatch q)
noncomputable def mixKind (prog : Program) (w : World) : PySem.KeyKind prog w Key where
 is := keyIs
 hash := keyH w
 inj := fun v a b ha hb => by
  rcases ZaA ha with ⟨i, t, rfl, rfl⟩ | ⟨x, t, rfl, rfl⟩
  ·rcases ZaA hb with ⟨j, u, rfl, e⟩ | ⟨y, u, rfl, e⟩
   ·injection e with e1 _; rw [e1]
   ·exact nomatch e
  ·rcases ZaA hb with ⟨j, u, rfl, e⟩ | ⟨y, u, rfl, e⟩
   ·exact nomatch e
   ·injection e with e1 _; rw [e1]
 byValue := fun k v h => by
  rcases ZaA h with ⟨i, t, rfl, rfl⟩ | ⟨x, t, rfl, rfl⟩ <;> rfl
 pyHash := fun hv h => by
  rcases ZaA hv with ⟨i, t, rfl, rfl⟩ | ⟨x, t, rfl, rfl⟩
  ·exact wpAny_pyHash_int h
  ·exact wpAny_pyHash_str h
 eqBool := fun hu hv h => by
  rcases ZaA hu with ⟨i, t, rfl, rfl⟩ | ⟨x, t, rfl, rfl⟩
  ·rcases ZaA hv with ⟨j, u, rfl, rfl⟩ | ⟨y, u, rfl, rfl⟩
   ·rw [key_ll] at h; exact wpAny_eqBool_int h
   ·rw [key_lr] at h; exact SeqAt.EqAt.int_str i t y u _ _ _ _ h
  ·rcases ZaA hv with ⟨j, u, rfl, rfl⟩ | ⟨y, u, rfl, rfl⟩
   ·rw [key_rl] at h; exact SeqAt.EqAt.str_int x t j u _ _ _ _ h
   ·rw [key_rr] at h; exact wpAny_eqBool_str h
 «strs» := fun k x t v h => by
  rcases ZaA h with ⟨i, u, rfl, e⟩ | ⟨y, u, rfl, e⟩
  ·exact nomatch e
  ·injection e with e1 _
   subst e1
   cases v <;> rfl
theorem mixKind_int (prog : Program) (w : World) (i : Int) (t : Tok) : (mixKind prog w).is (.inl i) (.int i t) = true := keyIs_int i t
theorem mixKind_str (prog : Program) (w : World) (x : Str) (t : Tok) : (mixKind prog w).is (.inr x) (.str x t) = true := keyIs_str x t
inductive V where
 | non | bl (b : Bool) | int (i : Int) | str (x : Str) | byt (b : Array UInt8) | flt (b : UInt64) | ref (a : Addr) | ty (n : String)
 deriving DecidableEq
noncomputable def RelV : V -> Value -> Prop
 | .non, u => u = Value.none
 | .bl b, u => u = Value.bool b
 | .int i, u => ∃ t, u = Value.int i t
 | .str x, u => ∃ t, u = Value.str x t
 | .byt b, u => ∃ t, u = Value.bytes b t
 | .flt b, u => ∃ t, u = Value.float b t
 | .ref a, u => u = Value.ref a
 | .ty n, u => u = Value.type n
noncomputable abbrev Vals : List V -> List Value -> Prop := Paired RelV
theorem Vals.length {xs : List V} {us : List Value} (r : Vals xs us) : xs.length = us.length := Paired.length r
theorem Vals.get : ∀ {xs : List V} {us : List Value} {i : Nat} {x : V}, Vals xs us -> xs[i]? = some x -> ∃ u, us[i]? = some u /\ RelV x u
 | _, _, _, _, .nil, e => by simp at e
 | _, _, 0, _, .cons r _, e => by simp at e; subst e; exact ⟨_, rfl, r⟩
 | _, _, i + 1, x, .cons _ t, e => by
  obtain ⟨u, h1, h2⟩ := Vals.get (i := i) (x := x) t (by simpa using e)
  exact ⟨u, by simpa using h1, h2⟩
theorem Vals.set {x : V} {u : Value} (r : RelV x u) : ∀ {xs : List V} {us : List Value} (i : Nat), Vals xs us -> Vals (xs.set i x) (us.set i u)
 | _, _, _, .nil => .nil
 | _, _, 0, .cons _ t => .cons r t
 | _, _, i + 1, .cons q t => .cons q (Vals.set r i t)
theorem Vals.append : ∀ {xs ys : List V} {us ws : List Value}, Vals xs us -> Vals ys ws -> Vals (xs ++ ys) (us ++ ws)
 | _, _, _, _, .nil, s => s
 | _, _, _, _, .cons r t, s => .cons r (Vals.append t s)
theorem Vals.take : ∀ {xs : List V} {us : List Value} (n : Nat), Vals xs us -> Vals (xs.take n) (us.take n)
 | _, _, 0, _ => .nil
 | _, _, _ + 1, .nil => .nil
 | _, _, n + 1, .cons r t => .cons r (Vals.take n t)
theorem Vals.drop : ∀ {xs : List V} {us : List Value} (n : Nat), Vals xs us -> Vals (xs.drop n) (us.drop n)
 | _, _, 0, r => r
 | _, _, _ + 1, .nil => .nil
 | _, _, n + 1, .cons _ t => Vals.drop n t
noncomputable def RelO : Option V -> Option Value -> Prop
 | some v, some u => RelV v u
 | none, none => True
 | _, _ => False
noncomputable def KV {κ : Type} : List (κ × V) -> List (κ × Value) -> Prop := Paired fun (p : κ × V) (q : κ × Value) => p.1 = q.1 /\ RelV p.2 q.2
noncomputable def kV : Key -> V
 | .inl i => .int i
 | .inr x => .str x
inductive HO where
  | lst (xs : List V)
  | tup (xs : List V)
  | dK (kvs : List (Key × V)) | dT (kvs : List (List Key × V))
  | set (S : Int -> Bool) (n : Nat)
  | ins (C dx : Addr) (fs : List (Str × V))
  | own (x : Addr)
  | xd (fs : List (Str × V))
  | met (f x : Addr)
  | rng (lo hi : Int)
  | frz (o : Obj) (u : HO)
  | tbl (ps : Array Value)
  | ext (φ : Heap -> Prop)
noncomputable abbrev Hp := Addr -> Option HO
noncomputable def upd (H : Hp) (a : Addr) (o : HO) : Hp := fun b => if b = a then some o else H b
theorem ZaV {H : Hp} {a : Addr} {o : HO} : upd H a o a = some o := by unfold upd; rw [if_pos rfl]
theorem Zav {H : Hp} {a b : Addr} {o : HO} (h : b ≠ a) : upd H a o b = H b := by unfold upd; rw [if_neg h]
theorem Zal {H : Hp} {a b : Addr} {o : HO} (h : H a = some o) (h' : H b = none) : a ≠ b := by
 intro e; subst e; rw [h] at h'; cases h'
section
variable (P : Program) (w : World)
noncomputable def ObjOk (H : Hp) (h : Heap) (a : Addr) : HO -> Prop
 | .lst xs => xs.length <= sizeLine /\ ∃ (its : List Value) (n : Nat), Vals xs its /\ h.get? a = some { cls := .type "list", data := .seq its.toArray n }
 | .tup xs => xs.length <= sizeLine /\ ∃ its : List Value, Vals xs its /\ IsTup h a its.toArray
 | .dK kvs => kvs.length <= sizeLine /\ (a == sysModules) = false /\ ∃ vs, KV kvs vs /\ h.DictOf (mixKind P w) a vs
 | .dT kvs => kvs.length <= sizeLine /\ (a == sysModules) = false /\ ∃ xs : List (List Key × Addr × Value),
   Paired (fun (p : List Key × V) (q : List Key × Addr × Value) => p.1 = q.1 /\ H q.2.1 = some (.tup (p.1.map kV)) /\ RelV p.2 q.2.2) kvs xs /\
   ∃ o es ep, h.get? a = some o /\ o.ExactDict /\ o.data = .dict es ep /\ es.toList = xs.map (entryOfKey (tupleKind (mixKind P w))) /\ (xs.map (·.1)).Nodup
 | .set S n => h.SetOf (intKind P w) a S n
 | .ins C dx fs => H dx = some (.own a) /\ fs.length <= 1000 /\ dx ≠ a /\ h.get? a = some (W.instObj C dx) /\
   ∃ mA, h.Ns1 dx mA /\ (∀ f, RelO (fs.lookup f) (mA f)) /\ PySem.Within mA (fs.map (·.1))
 | .own _ => ∃ o, h.get? a = some o
 | .xd fs => ∃ mA, h.Ns1 a mA /\ ∀ f, RelO (fs.lookup f) (mA f)
 | .rng lo hi => ∃ t u v, h.get? a = some { cls := .type "range", data := .fields #[.int lo t, .int hi u, .int 1 v] }
 | .frz o u => h.get? a = some o /\ ObjOk H h a u
 | .tbl ps => h.get? a = some { cls := .none, data := .fields ps }
 | .met f x => h.get? a = some (W.methodObj (.ref f) (.ref x))
 | .ext φ => φ h /\ (∃ o, h.get? a = some o) /\ ∀ h1 h2 : Heap, φ h1 -> (∀ o, h1.get? a = some o -> h2.get? a = some o) -> φ h2
noncomputable def HOk (H : Hp) (h : Heap) : Prop := ∀ a o, H a = some o -> ObjOk P w H h a o
end
section
variable {P : Program} {w : World} {H H' : Hp} {h h' : Heap} {a : Addr} {o : HO}
theorem ObjOk.lt (x : ObjOk P w H h a o) : a < h.objs.size := by
 cases o with
 | lst xs => obtain ⟨_, _, _, _, e⟩ := x; exact Heap.lt_size e
 | tup xs => obtain ⟨_, _, _, p⟩ := x; exact p.lt
 | dK kvs => obtain ⟨_, _, _, _, o, _, _, e, _⟩ := x; exact Heap.lt_size e
 | dT kvs => obtain ⟨_, _, _, _, o, _, _, e, _⟩ := x; exact Heap.lt_size e
 | set S n => obtain ⟨o, _, _, _, e, _⟩ := x; exact Heap.lt_size e
 | ins C dx fs => obtain ⟨_, _, _, e, _⟩ := x; exact Heap.lt_size e
 | own y => obtain ⟨_, e⟩ := x; exact Heap.lt_size e
 | xd fs => obtain ⟨_, ⟨_, _, _, e, _⟩, _⟩ := x; exact Heap.lt_size e
 | rng lo hi => obtain ⟨_, _, _, e⟩ := x; exact Heap.lt_size e
 | frz ob u => obtain ⟨e, _⟩ := x; exact Heap.lt_size e
 | tbl ps => exact Heap.lt_size (show h.get? a = some _ from x)
 | met f y => exact Heap.lt_size (show h.get? a = some _ from x)
 | ext φ => obtain ⟨_, ⟨_, e⟩, _⟩ := x; exact Heap.lt_size e
theorem Paired.mapP {α β : Type} {F G : α -> β -> Prop} : ∀ {l₁ : List α} {l₂ : List β}, Paired F l₁ l₂ -> (∀ a b, F a b -> G a b) -> Paired G l₁ l₂
 | _, _, .nil, _ => .nil
 | _, _, .cons r t, f => .cons (f _ _ r) (Paired.mapP t f)
theorem ObjOk.stay (x : ObjOk P w H h a o) (k : ∀ b u, (b = a \/ H b = some (.own a)) -> h.get? b = some u -> h'.get? b = some u)
  (ho : ∀ b, H b = some (.own a) -> H' b = some (.own a)) (ht : ∀ b xs, H b = some (.tup xs) -> H' b = some (.tup xs)) : ObjOk P w H' h' a o := by
 induction o with
 | lst xs => obtain ⟨z, its, n, r, e⟩ := x; exact ⟨z, its, n, r, k _ _ (.inl rfl) e⟩
 | tup xs => obtain ⟨z, its, r, ob, e, c⟩ := x; exact ⟨z, its, r, ob, k _ _ (.inl rfl) e, c⟩
 | dK kvs => obtain ⟨z, y, vs, r, ob, es, ep, e, c⟩ := x; exact ⟨z, y, vs, r, ob, es, ep, k _ _ (.inl rfl) e, c⟩
 | dT kvs =>
  obtain ⟨z, y, xs, r, ob, es, ep, e, c⟩ := x
  exact ⟨z, y, xs, Paired.mapP r fun p q z => ⟨z.1, ht _ _ z.2.1, z.2.2⟩, ob, es, ep, k _ _ (.inl rfl) e, c⟩
 | set S n => obtain ⟨ob, es, ep, t, e, c⟩ := x; exact ⟨ob, es, ep, t, k _ _ (.inl rfl) e, c⟩
 | ins C dx fs =>
  obtain ⟨d, z, ne, e, mA, ⟨od, es, ep, e2, c⟩, r⟩ := x
  exact ⟨ho _ d, z, ne, k _ _ (.inl rfl) e, mA, ⟨od, es, ep, k _ _ (.inr d) e2, c⟩, r⟩
 | own y => obtain ⟨ob, e⟩ := x; exact ⟨ob, k _ _ (.inl rfl) e⟩
 | xd fs => obtain ⟨mA, ⟨od, es, ep, e, c⟩, r⟩ := x; exact ⟨mA, ⟨od, es, ep, k _ _ (.inl rfl) e, c⟩, r⟩
 | rng lo hi => obtain ⟨t, u, v, e⟩ := x; exact ⟨t, u, v, k _ _ (.inl rfl) e⟩
 | frz ob u ih => obtain ⟨e, q⟩ := x; exact ⟨k _ _ (.inl rfl) e, ih q⟩
 | tbl ps =>
  have e : h.get? a = some { cls := .none, data := .fields ps } := x
  show h'.get? a = some { cls := .none, data := .fields ps }
  exact k a _ (.inl rfl) e
 | met f y =>
  have e : h.get? a = some (W.methodObj (.ref f) (.ref y)) := x
  show h'.get? a = some (W.methodObj (.ref f) (.ref y))
  exact k a _ (.inl rfl) e
 | ext φ => obtain ⟨p, ⟨o, e⟩, st⟩ := x; exact ⟨st _ _ p fun o q => k _ _ (.inl rfl) q, ⟨o, k _ _ (.inl rfl) e⟩, st⟩
theorem HOk.lt (x : HOk P w H h) (e : H a = some o) : a < h.objs.size := (x a o e).lt
theorem HOk.fresh (x : HOk P w H h) (e : h.objs.size <= a) : H a = none := by
 cases q : H a with
 | none => rfl
 | some u => exact absurd (Nat.lt_of_lt_of_le (x.lt q) e) (Nat.lt_irrefl _)
theorem HOk.kept (x : HOk P w H h) (k : ∀ b u, h.get? b = some u -> h'.get? b = some u) : HOk P w H h' := fun a o e =>
 (x a o e).stay (fun b u _ q => k b u q) (fun _ q => q) fun _ _ q => q
theorem HOk.laid (x : HOk P w H h) (k : ∀ b u, h.get? b = some u -> h'.get? b = some u) (hp : h.objs.size <= a) (new : ObjOk P w (upd H a o) h' a o) : HOk P w (upd H a o) h' := fun b u e => by
 have hn := x.fresh hp
 by_cases hb : b = a
 ·subst hb; rw [ZaV] at e; cases e; exact new
 ·rw [Zav hb] at e
  exact (x b u e).stay (fun c v _ q => k c v q) (fun c q => by rw [Zav (Zal q hn)]; exact q) fun c xs q => by rw [Zav (Zal q hn)]; exact q
end
noncomputable def Rd (H : Hp) (a : Addr) (u : HO) : Prop := H a = some u \/ ∃ o, H a = some (.frz o u)
theorem Rd.ok {P : Program} {w : World} {H : Hp} {h : Heap} {a : Addr} {u : HO} (r : Rd H a u) (x : HOk P w H h) : ObjOk P w H h a u := by
 rcases r with r | ⟨o, r⟩
 ·exact x a u r
 ·obtain ⟨_, q⟩ := x a _ r
  exact q
noncomputable def Mut : Option HO -> Prop
 | some (.lst _) => True
 | some (.dK _) => True
 | some (.dT _) => True
 | some (.set _ _) => True
 | some (.ins _ _ _) => True
 | some (.ext _) => True
 | _ => False
section
variable {P : Program} {w : World} {H : Hp} {h h' : Heap} {x e : Addr} {o' : HO}
theorem HOk.write (ok : HOk P w H h) (mu : Mut (H x)) (he : e = x \/ H e = some (.own x)) (k : ∀ b u, b ≠ e -> h.get? b = some u -> h'.get? b = some u) (heo : ∃ u, h'.get? e = some u)
  (new : ObjOk P w (upd H x o') h' x o') : HOk P w (upd H x o') h' := fun b u q => by
 have nown : ∀ c y, H c = some (.own y) -> c ≠ x := fun c y r z => by subst z; rw [r] at mu; exact mu
 have ntup : ∀ c xs, H c = some (.tup xs) -> c ≠ x := fun c xs r z => by subst z; rw [r] at mu; exact mu
 by_cases hb : b = x
 ·subst hb; rw [ZaV] at q; cases q; exact new
 ·rw [Zav hb] at q
  by_cases hbe : b = e
  ·have q' : H b = some (.own x) := by
    rcases he with z | z
    ·exact absurd (hbe.trans z) hb
    ·rw [hbe]; exact z
   rw [q] at q'; cases q'
   obtain ⟨v, hv⟩ := heo
   exact ⟨v, by rw [hbe]; exact hv⟩
  ·refine (ok b u q).stay (fun c v hc r => k c v ?_ r) (fun c r => by rw [Zav (nown c b r)]; exact r) fun c xs r => by rw [Zav (ntup c xs r)]; exact r
   rcases hc with rfl | hc
   ·exact hbe
   ·rintro rfl
    rcases he with z | z
    ·exact nown c b hc z
    ·rw [hc] at z; cases z; exact hb rfl
end
structure Un (fs ex : List Addr) (H H' : Hp) (h h' : Heap) : Prop where
 keep : ∀ b o, h.get? b = some o -> H b = none -> b ∉ fs -> b ∉ ex -> h'.get? b = some o
 slot : ∀ b o, h.get? b = some o -> H b = none -> b ∈ fs -> b ∉ ex -> ∃ sl, h'.get? b = some { o with slots := sl }
 free : ∀ b o, h.get? b = some o -> H b = none -> b ∉ ex -> H' b = none
 there : ∀ b o, h.get? b = some o -> b ∉ ex -> ∃ o', h'.get? b = some o'
 tups : ∀ b xs, H b = some (.tup xs) -> H' b = some (.tup xs)
 frzs : ∀ b o u, H b = some (.frz o u) -> H' b = some (.frz o u)
 tbls : ∀ b ps, H b = some (.tbl ps) -> ∃ more, H' b = some (.tbl (ps ++ more))
section
variable {fs fs' ex ex' : List Addr} {H H1 H2 : Hp} {h h1 h2 h' : Heap} {a x e : Addr} {o : HO}
theorem Un.any (u : Un fs ex H H1 h h1) {b : Addr} {ob : Obj} (q : h.get? b = some ob) (n : H b = none) (hx : b ∉ ex) : ∃ sl, h1.get? b = some { ob with slots := sl } := by
 by_cases hb : b ∈ fs
 ·exact u.slot b ob q n hb hx
 ·exact ⟨ob.slots, u.keep b ob q n hb hx⟩
theorem Un.kept (k : ∀ b u, h.get? b = some u -> h'.get? b = some u) : Un fs ex H H h h' :=
 ⟨fun b ob q _ _ _ => k b ob q, fun b ob q _ _ _ => ⟨ob.slots, k b ob q⟩, fun _ _ _ n _ => n, fun b ob q _ => ⟨ob, k b ob q⟩, fun _ _ q => q, fun _ _ _ q => q, fun _ ps q => ⟨#[], by rw [q]; simp⟩⟩
theorem Un.refl : Un fs ex H H h h := Un.kept fun _ _ q => q
theorem Un.laid (k : ∀ b u, h.get? b = some u -> h'.get? b = some u) (hp : h.objs.size <= a) (hn : H a = none) : Un fs ex H (upd H a o) h h' where
 keep := fun b u q _ _ _ => k b u q
 slot := fun b u q _ _ _ => ⟨u.slots, k b u q⟩
 free := fun b u q n _ => by rw [Zav (Nat.ne_of_lt (Nat.lt_of_lt_of_le (Heap.lt_size q) hp))]; exact n
 there := fun b u q _ => ⟨u, k b u q⟩
 tups := fun b xs q => by rw [Zav (Zal q hn)]; exact q
 frzs := fun b u xs q => by rw [Zav (Zal q hn)]; exact q
 tbls := fun b ps q => ⟨#[], by rw [Zav (Zal q hn), q]; simp⟩
theorem Un.write (mu : Mut (H x)) (he : e = x \/ H e = some (.own x)) (k : ∀ b u, b ≠ e -> h.get? b = some u -> h'.get? b = some u) (heo : ∃ u, h'.get? e = some u) : Un fs ex H (upd H x o) h h' := by
 have hx : ∀ b, H b = none -> b ≠ x := fun b n z => by subst z; rw [n] at mu; exact mu
 have hb : ∀ b, H b = none -> b ≠ e := fun b n z => by
  subst z
  rcases he with r | r
  ·exact hx b n r
  ·rw [n] at r; cases r
 have hm : ∀ b u, H b = some u -> ¬ Mut (some u) -> b ≠ x := fun b u q nm z => by subst z; rw [q] at mu; exact nm mu
 refine ⟨fun b u q n _ _ => k b u (hb b n) q, fun b u q n _ _ => ⟨u.slots, k b u (hb b n) q⟩, fun b u q n _ => by rw [Zav (hx b n)]; exact n, fun b u q _ => ?_,
  fun b xs q => by rw [Zav (hm b _ q fun z => z)]; exact q, fun b u xs q => by rw [Zav (hm b _ q fun z => z)]; exact q, fun b ps q => ⟨#[], by rw [Zav (hm b _ q fun z => z), q]; simp⟩⟩
 by_cases hbe : b = e
 ·subst hbe; exact heo
 ·exact ⟨u, k b u hbe q⟩
end
noncomputable def trk (h : Heap) (H : Hp) : List Addr := (List.range h.objs.size).filter fun a => (H a).isSome
noncomputable def hidT (h : Heap) (H : Hp) : Heap := W.hideAll h (trk h H)
theorem hidT_size (h : Heap) (H : Hp) : (hidT h H).objs.size = h.objs.size := W.hideAll_size _ _
theorem hidT_get {h : Heap} {H : Hp} {b : Addr} {o : Obj} (e : h.get? b = some o) (n : H b = none) : (hidT h H).get? b = some o :=
 W.hideAll_get _ e fun hm => by
  have q : (H b).isSome = true := (List.mem_filter.mp hm).2
  rw [n] at q; simp at q
theorem of_hidT {h : Heap} {H : Hp} {b : Addr} {o : Obj} (e : (hidT h H).get? b = some o) : h.get? b = some o /\ H b = none := by
 have e' : h.get? b = some o := W.of_hideAll (trk h H) e
 refine ⟨e', ?_⟩
 cases q : H b with
 | none => rfl
 | some x =>
  have hm : b ∈ trk h H := List.mem_filter.mpr ⟨List.mem_range.mpr (Heap.lt_size e'), by simp [q]⟩
  have z : (hidT h H).get? b = none := W.hideAll_none (trk h H) hm
  rw [z] at e; cases e
noncomputable def allNews (g h : Heap) (L : Addr) : List (Addr × Obj) := (List.range h.objs.size).filterMap fun a => if a = L \/ (g.get? a).isSome = true then none else (h.get? a).map fun o => (a, o)
noncomputable def rest (g h : Heap) (L d : Addr) : List (Addr × Obj) := (allNews g h L).filter fun p => decide (p.1 ≠ d)
structure Mod (K : W.Frag) (mg : Str -> Option Value) (base : Heap) : Prop where
 kin : K.In base
 glob : base.Ns mainGlobals mg
 blt : ∃ mb, base.Ns builtinsNs mb /\ ∀ x : Str, x ≠ "__name__" -> mb x = bootBuiltins x
 nolimit : base.NoLimit
structure Cx where
 prog : Program
 w : World
 K : W.Frag
 mg : Str -> Option Value
 base : Heap
 A : Around
 N : List Str
 s₀ : Shared
 H₀ : Hp
 env : Env
 outer : List Env
 stack : List Env
 ex : List Addr
 fn : Str -> Bool
 calm : Bool
 pn : List (Addr × Obj)
 xe : Value -> Shared -> Prop
noncomputable def frs (l : List Env) : List Addr := l.filterMap (·.frame)
noncomputable abbrev Cx.fs (X : Cx) : List Addr := frs X.outer
noncomputable def Vis (sc : Scope) (x : Str) : Prop := sc.names.lookup x = some .local \/ sc.names.lookup x = some .cell \/ sc.names.lookup x = some .free
noncomputable def Loc (sc : Scope) (x : Str) : Prop := sc.names.lookup x = some .local \/ sc.names.lookup x = some .cell
noncomputable def Look (env : Env) (h : Heap) (m : Str -> Option Value) (x : Str) (u : Value) : Prop :=
 (env.kindOf x = some .local /\ m x = some u) \/ ((env.kindOf x = some .cell \/ env.kindOf x = some .free) /\ ∃ c, env.cells.lookup x = some c /\ h.IsCell c (some u))
structure Cx.Ok (X : Cx) : Prop where
 mod : Mod X.K X.mg X.base
 kind : X.env.scope.kind = .function
 glob : X.env.globals = mainGlobals
 blt : X.env.builtins = builtinsNs
 above : X.s₀.heap.objs.size <= X.env.locals
 inj : ∀ x y c, X.env.cells.lookup x = some c -> X.env.cells.lookup y = some c -> x = y
 has : ∀ x, (X.env.kindOf x = some .cell \/ X.env.kindOf x = some .free) -> ∃ c, X.env.cells.lookup x = some c
 cab : ∀ x c, X.fn x = true -> X.env.cells.lookup x = some c -> X.s₀.heap.objs.size <= c
 hd : X.calm = true -> X.A.handled = none
 frames : X.A.frames = some X.stack
 stk : X.stack = X.outer \/ (X.stack = X.env :: X.outer /\ X.env.frame = some X.env.locals)
 exf : ∀ b ∈ X.ex, b ≠ X.env.locals /\ ∀ x c, X.env.cells.lookup x = some c -> c ≠ b
 bs : ∀ b o, X.base.get? b = some o -> X.s₀.heap.get? b = some o /\ X.H₀ b = none
 bsz : X.base.objs.size <= X.s₀.heap.objs.size
 noex : ∀ b o, X.base.get? b = some o -> b ∉ X.ex
 exfs : ∀ b ∈ X.ex, b ∉ X.fs
 funs : X.s₀.heap.FunFrames X.base X.outer
 frf : ∀ b ∈ X.fs, X.H₀ b = none
structure Inv (X : Cx) (pins : List (Addr × Obj)) (σ : List (Option V)) (H : Hp) (s : Shared) : Prop where
 ok : X.Ok
 os : s.os = X.s₀.os
 bare : AllBare s.gens
 base : Un X.fs X.ex X.H₀ H X.s₀.heap s.heap
 loc : ∃ m, s.heap.Ns X.env.locals m /\ ∀ (i : Nat) (x : Str) (v : V), X.N[i]? = some x -> σ[i]? = some (some v) -> Vis X.env.scope x -> ∃ u, RelV v u /\ Look X.env s.heap m x u
 cell : ∀ x c, X.env.cells.lookup x = some c -> ∃ v, s.heap.IsCell c v
 free : H X.env.locals = none
 freeC : ∀ x c, X.env.cells.lookup x = some c -> H c = none
 pin : ∀ p ∈ X.pn ++ pins, s.heap.get? p.1 = some p.2 /\ H p.1 = none /\ p.1 ≠ X.env.locals /\ p.1 ∉ X.fs /\ ∀ v, p.2.data ≠ .cell v
 hok : HOk X.prog X.w H s.heap
 len : σ.length = X.N.length
section
variable {X : Cx} {pins : List (Addr × Obj)} {σ : List (Option V)} {H H' : Hp} {s : Shared} {h' : Heap}
theorem Cx.Ok.nofr (ok : X.Ok) {b : Addr} {o : Obj} (e : X.base.get? b = some o) : b ∉ X.fs := fun hb => by
 have := (ok.funs.mem hb).1
 rw [e] at this; cases this
theorem Inv.bs (I : Inv X pins σ H s) : ∀ b o, X.base.get? b = some o -> s.heap.get? b = some o /\ H b = none := fun b o e =>
 ⟨I.base.keep b o (I.ok.bs b o e).1 (I.ok.bs b o e).2 (I.ok.nofr e) (I.ok.noex b o e), I.base.free b o (I.ok.bs b o e).1 (I.ok.bs b o e).2 (I.ok.noex b o e)⟩
theorem Inv.bk (I : Inv X pins σ H s) : ∀ b o, X.base.get? b = some o -> s.heap.get? b = some o := fun b o e => (I.bs b o e).1
theorem Inv.mod (I : Inv X pins σ H s) : Mod X.K X.mg X.base := I.ok.mod
theorem Inv.kIn (I : Inv X pins σ H s) : X.K.In s.heap := I.ok.mod.kin.keeps I.bk
theorem Inv.lt (I : Inv X pins σ H s) : X.env.locals < s.heap.objs.size := let ⟨_, hn, _⟩ := I.loc; hn.lt
theorem Inv.sz (I : Inv X pins σ H s) : X.s₀.heap.objs.size <= s.heap.objs.size := Nat.le_trans I.ok.above (Nat.le_of_lt I.lt)
theorem Inv.nofs (I : Inv X pins σ H s) {a : Addr} (h : s.heap.objs.size <= a) : a ∉ X.fs := fun hb => by
 obtain ⟨_, o, ho, _⟩ := I.ok.funs.mem hb
 exact absurd (Nat.lt_of_lt_of_le (Heap.lt_size ho) (Nat.le_trans I.sz h)) (Nat.lt_irrefl _)
theorem Inv.cne (I : Inv X pins σ H s) : ∀ x c, X.env.cells.lookup x = some c -> c ≠ X.env.locals := fun x c e z => by
 obtain ⟨v, o, ho, hd⟩ := I.cell x c e
 obtain ⟨m, ⟨o', es, ep, ho', hd', _⟩, _⟩ := I.loc
 rw [z, ho'] at ho; cases ho; rw [hd'] at hd; cases hd
theorem Inv.funs (I : Inv X pins σ H s) : s.heap.FunFrames X.base X.outer := by
 have all : ∀ (l : List Env), (∀ b ∈ frs l, b ∈ X.fs) -> X.s₀.heap.FunFrames X.base l -> s.heap.FunFrames X.base l := by
  intro l
  induction l with
  | nil => intro _ _; trivial
  | cons env r ih =>
   intro hs hl
   obtain ⟨hk, ⟨L, o, hf, hn, ho, hd⟩, hr⟩ := hl
   have hL : L ∈ X.fs := hs L (by unfold frs; rw [List.filterMap_cons, hf]; exact List.mem_cons_self)
   obtain ⟨sl, e⟩ := I.base.slot L o ho (I.ok.frf L hL) hL fun z => I.ok.exfs L z hL
   exact ⟨hk, ⟨L, _, hf, hn, e, hd⟩, ih (fun b hb => hs b (by unfold frs; rw [List.filterMap_cons, hf]; exact List.mem_cons_of_mem _ hb)) hr⟩
 exact all X.outer (fun _ hb => hb) I.ok.funs
theorem Inv.stack (I : Inv X pins σ H s) : s.heap.FunFrames X.base X.stack := by
 rcases I.ok.stk with e | ⟨e, hf⟩
 ·rw [e]; exact I.funs
 ·rw [e]
  obtain ⟨m, hn, _⟩ := I.loc
  refine .cons (by rw [I.ok.kind]; decide) hf hn ?_ I.funs
  exact Heap.get?_none_of_le (Nat.le_trans I.ok.bsz I.ok.above)
theorem Inv.stkSub (I : Inv X pins σ H s) : ∀ b ∈ frs X.stack, b ∈ X.env.locals :: X.fs := fun b hb => by
 rcases I.ok.stk with e | ⟨e, hf⟩
 ·rw [e] at hb; exact List.mem_cons_of_mem _ hb
 ·rw [e] at hb
  unfold frs at hb
  rw [List.filterMap_cons, hf] at hb
  exact hb
theorem Inv.stkFree (I : Inv X pins σ H s) : ∀ b ∈ frs X.stack, H b = none := fun b hb => by
 rcases List.mem_cons.mp (I.stkSub b hb) with e | hb
 ·rw [e]; exact I.free
 ·obtain ⟨_, o, ho, _⟩ := I.ok.funs.mem hb
  exact I.base.free b o ho (I.ok.frf b hb) fun z => I.ok.exfs b z hb
theorem Inv.step {g' : Array GenState} {t' : Nat} {d' : Drawn} {ch : List Addr} (I : Inv X pins σ H s)
  (hch : ∀ b ∈ ch, (b ∈ X.ex \/ X.s₀.heap.objs.size <= b) /\ b ≠ X.env.locals /\ (∀ x c, X.env.cells.lookup x = some c -> c ≠ b) /\ ∀ p ∈ X.pn ++ pins, p.1 ≠ b)
  (keep : ∀ b o, b ≠ X.env.locals -> b ∉ X.fs -> b ∉ ch -> s.heap.get? b = some o -> H b = none -> h'.get? b = some o)
  (slot : ∀ b o, b ≠ X.env.locals -> b ∈ X.fs -> b ∉ ch -> s.heap.get? b = some o -> H b = none -> ∃ sl, h'.get? b = some { o with slots := sl }) (free : ∀ b o, b ∉ ch -> s.heap.get? b = some o -> H b = none -> H' b = none)
  (there : ∀ b o, b ∉ ch -> s.heap.get? b = some o -> ∃ o', h'.get? b = some o')
  (tups : ∀ b xs, H b = some (.tup xs) -> H' b = some (.tup xs)) (frzs : ∀ b o u, H b = some (.frz o u) -> H' b = some (.frz o u)) (tbls : ∀ b ps, H b = some (.tbl ps) -> ∃ more, H' b = some (.tbl (ps ++ more)))
  (ns : ∀ m, s.heap.Ns X.env.locals m -> h'.Ns X.env.locals m) (hok : HOk X.prog X.w H' h') (hg : AllBare g') :
  Inv X pins σ H' { s with heap := h', gens := g', drawn := d', toks := t' } := by
 have neL : ∀ b o, X.s₀.heap.get? b = some o -> b ≠ X.env.locals := fun b o e => Nat.ne_of_lt (Nat.lt_of_lt_of_le (Heap.lt_size e) I.ok.above)
 have neC : ∀ b o, X.s₀.heap.get? b = some o -> b ∉ X.ex -> b ∉ ch := fun b o e hx hb => by
  rcases (hch b hb).1 with z | z
  ·exact hx z
  ·exact absurd (Nat.lt_of_lt_of_le (Heap.lt_size e) z) (Nat.lt_irrefl _)
 have cellK : ∀ x c, X.env.cells.lookup x = some c -> ∀ v, s.heap.IsCell c v -> h'.IsCell c v := fun x c e v h_ => by
  obtain ⟨o, ho, hd⟩ := h_
  have nch : c ∉ ch := fun z => (hch c z).2.2.1 x c e rfl
  by_cases hc : c ∈ X.fs
  ·obtain ⟨sl, q⟩ := slot c o (I.cne x c e) hc nch ho (I.freeC x c e)
   exact ⟨_, q, hd⟩
  ·exact ⟨o, keep c o (I.cne x c e) hc nch ho (I.freeC x c e), hd⟩
 refine ⟨I.ok, I.os, hg, ⟨fun b o e n hb hx => ?_, fun b o e n hb hx => ?_, fun b o e n hx => ?_, fun b o e hx => ?_, fun b xs e => tups b xs (I.base.tups b xs e), fun b o xs e => frzs b o xs (I.base.frzs b o xs e), fun b ps e => ?_⟩, ?_, fun x c e => ?_, ?_, fun x c e => ?_, fun p hp => ?_, hok, I.len⟩
 ·exact keep b o (neL b o e) hb (neC b o e hx) (I.base.keep b o e n hb hx) (I.base.free b o e n hx)
 ·obtain ⟨sl, e1⟩ := I.base.slot b o e n hb hx
  obtain ⟨sl', e2⟩ := slot b _ (neL b o e) hb (neC b o e hx) e1 (I.base.free b o e n hx)
  exact ⟨sl', e2⟩
 ·obtain ⟨o', e1⟩ := I.base.there b o e hx
  exact free b o' (neC b o e hx) e1 (I.base.free b o e n hx)
 ·obtain ⟨o', e1⟩ := I.base.there b o e hx
  exact there b o' (neC b o e hx) e1
 ·obtain ⟨m1, e1⟩ := I.base.tbls b ps e
  obtain ⟨m2, e2⟩ := tbls b _ e1
  exact ⟨m1 ++ m2, by rw [e2, Array.append_assoc]⟩
 ·obtain ⟨m, hn, hl⟩ := I.loc
  refine ⟨m, ns m hn, fun i x v e1 e2 e3 => ?_⟩
  obtain ⟨u, r, l⟩ := hl i x v e1 e2 e3
  refine ⟨u, r, ?_⟩
  rcases l with l | ⟨k, c, e, z⟩
  ·exact .inl l
  ·exact .inr ⟨k, c, e, cellK x c e _ z⟩
 ·obtain ⟨v, z⟩ := I.cell x c e
  exact ⟨v, cellK x c e v z⟩
 ·obtain ⟨m, ⟨o, _, _, ho, _⟩, _⟩ := I.loc
  exact free _ o (fun z => (hch _ z).2.1 rfl) ho I.free
 ·obtain ⟨v, o, ho, hd⟩ := I.cell x c e
  exact free c o (fun z => (hch c z).2.2.1 x c e rfl) ho (I.freeC x c e)
 ·obtain ⟨e, n, ne, nf, d⟩ := I.pin p hp
  have nch : p.1 ∉ ch := fun z => (hch p.1 z).2.2.2 p hp rfl
  exact ⟨keep p.1 p.2 ne nf nch e n, free p.1 p.2 nch e n, ne, nf, d⟩
theorem Inv.un {t' : Nat} (I : Inv X pins σ H s) (u : Un X.fs [] H H' s.heap h') (hok : HOk X.prog X.w H' h') : Inv X pins σ H' { s with heap := h', toks := t' } := by
 obtain ⟨m, ⟨o, es, ep, ho, r⟩, _⟩ := id I.loc
 obtain ⟨sl, hL⟩ := u.any ho I.free (by simp)
 exact I.step (g' := s.gens) (d' := s.drawn) (ch := []) (fun _ z => nomatch z) (fun b o _ hb _ e n => u.keep b o e n hb (by simp)) (fun b o _ hb _ e n => u.slot b o e n hb (by simp)) (fun b o _ e n => u.free b o e n (by simp)) (fun b o _ e => u.there b o e (by simp)) u.tups u.frzs u.tbls (fun m' hm => by
  obtain ⟨o', es', ep', ho', r'⟩ := hm
  rw [ho] at ho'; cases ho'
  exact ⟨_, es', ep', hL, r'⟩) hok I.bare
theorem Inv.call {g' : Array GenState} {t' : Nat} {d' : Drawn} {ch : List Addr} (I : Inv X pins σ H s) (u : Un (frs X.stack) ch H H' s.heap h') (hok : HOk X.prog X.w H' h') (hg : AllBare g')
  (hch : ∀ b ∈ ch, (b ∈ X.ex \/ X.s₀.heap.objs.size <= b) /\ b ≠ X.env.locals /\ (∀ x c, X.env.cells.lookup x = some c -> c ≠ b) /\ ∀ p ∈ X.pn ++ pins, p.1 ≠ b) :
  Inv X pins σ H' { s with heap := h', gens := g', drawn := d', toks := t' } := by
 obtain ⟨m, ⟨o, es, ep, ho, r⟩, _⟩ := id I.loc
 obtain ⟨sl, hL⟩ := u.any ho I.free fun z => (hch _ z).2.1 rfl
 exact I.step (ch := ch) hch (fun b o hL hb hc e n => u.keep b o e n (fun z => (List.mem_cons.mp (I.stkSub b z)).elim hL hb) hc) (fun b o _ _ hc e n => u.any e n hc) (fun b o hc e n => u.free b o e n hc) (fun b o hc e => u.there b o e hc) u.tups u.frzs u.tbls (fun m' hm => by
  obtain ⟨o', es', ep', ho', r'⟩ := hm
  rw [ho] at ho'; cases ho'
  exact ⟨_, es', ep', hL, r'⟩) hok hg
theorem Inv.turned {t' : Nat} {it : Addr} (I : Inv X pins σ H s) (k : ∀ b o, b ≠ it -> s.heap.get? b = some o -> h'.get? b = some o) (hn : H it = none) (hL : it ≠ X.env.locals)
  (h1 : it ∈ X.ex \/ X.s₀.heap.objs.size <= it) (h2 : ∀ x c, X.env.cells.lookup x = some c -> c ≠ it) (h3 : ∀ p ∈ X.pn ++ pins, p.1 ≠ it) : Inv X pins σ H { s with heap := h', toks := t' } := by
 have nit : ∀ b u, H b = some u -> b ≠ it := fun b u e z => by rw [z, hn] at e; cases e
 refine I.step (g' := s.gens) (d' := s.drawn) (ch := [it]) (fun b hb => ?_) (fun b o _ _ hc e _ => k b o (fun z => hc (by simp [z])) e) (fun b o _ _ hc e _ => ⟨o.slots, k b o (fun z => hc (by simp [z])) e⟩) (fun _ _ _ _ n => n)
  (fun b o hc e => ⟨o, k b o (fun z => hc (by simp [z])) e⟩) (fun _ _ e => e) (fun _ _ _ e => e) (fun b ps e => ⟨#[], by rw [e]; simp⟩) (fun m hm => ?_) (fun b u e => ?_) I.bare
 ·have e : b = it := by simpa using hb
  subst e
  exact ⟨h1, hL, h2, h3⟩
 ·obtain ⟨o, es, ep, ho, r⟩ := hm
  exact ⟨o, es, ep, k _ o (Ne.symm hL) ho, r⟩
 ·refine (I.hok b u e).stay (fun c v hc q => k c v ?_ q) (fun _ q => q) fun _ _ q => q
  rcases hc with z | z
  ·rw [z]; exact nit b u e
  ·exact nit c _ z
theorem Inv.tok (I : Inv X pins σ H s) (t : Nat) : Inv X pins σ H { s with toks := t } := I.un (h' := s.heap) (t' := t) Un.refl I.hok
theorem Inv.kept {t' : Nat} (I : Inv X pins σ H s) (k : ∀ b u, s.heap.get? b = some u -> h'.get? b = some u) : Inv X pins σ H { s with heap := h', toks := t' } := I.un (Un.kept k) (I.hok.kept k)
theorem Inv.laid {a : Addr} {o : HO} {t' : Nat} (I : Inv X pins σ H s) (k : ∀ b u, s.heap.get? b = some u -> h'.get? b = some u) (hp : s.heap.objs.size <= a) (new : ObjOk X.prog X.w (upd H a o) h' a o) :
  Inv X pins σ (upd H a o) { s with heap := h', toks := t' } := I.un (Un.laid k hp (I.hok.fresh hp)) (I.hok.laid k hp new)
theorem Inv.write {x e : Addr} {o : HO} {t' : Nat} (I : Inv X pins σ H s) (mu : Mut (H x)) (he : e = x \/ H e = some (.own x)) (k : ∀ b u, b ≠ e -> s.heap.get? b = some u -> h'.get? b = some u) (heo : ∃ u, h'.get? e = some u)
  (new : ObjOk X.prog X.w (upd H x o) h' x o) : Inv X pins σ (upd H x o) { s with heap := h', toks := t' } := I.un (Un.write mu he k heo) (I.hok.write mu he k heo new)
theorem Inv.pins_of {pins' : List (Addr × Obj)} (I : Inv X pins σ H s) (h : ∀ p ∈ pins', s.heap.get? p.1 = some p.2 /\ H p.1 = none /\ p.1 ≠ X.env.locals /\ p.1 ∉ X.fs /\ ∀ v, p.2.data ≠ .cell v) : Inv X pins' σ H s :=
 ⟨I.ok, I.os, I.bare, I.base, I.loc, I.cell, I.free, I.freeC, fun p hp => (List.mem_append.mp hp).elim (fun z => I.pin p (List.mem_append_left _ z)) (h p), I.hok, I.len⟩
theorem nodup_ix {N : List Str} (hN : N.Nodup) {i j : Nat} {x : Str} (a : N[i]? = some x) (b : N[j]? = some x) : i = j := by
 obtain ⟨h1, e1⟩ := List.getElem?_eq_some_iff.mp a
 obtain ⟨h2, e2⟩ := List.getElem?_eq_some_iff.mp b
 exact (List.getElem_inj hN).mp (e1.trans e2.symm)
theorem store_ok2 {M : Model} {A : Around} {E : Value -> Shared -> Prop} {i : Nat} {x : Str} {v : V} {u : Value} {Q : Unit -> Shared -> Prop} (I : Inv X pins σ H s) (hN : X.N.Nodup) (hi : X.N[i]? = some x) (hx : Loc X.env.scope x) (r : RelV v u)
  (h : ∀ s', Inv X pins (σ.set i (some v)) H s' -> (∃ a, Heap.SameBut a s.heap s'.heap /\ (a = X.env.locals \/ X.env.cells.lookup x = some a)) -> Q () s') (hf : X.fn x = true \/ X.env.scope.names.lookup x = some .local := by first | exact .inl rfl | exact .inr rfl | assumption) : wpAny M A (storeName X.env x u) Q E s := by
 obtain ⟨m, hn, hl⟩ := id I.loc
 have hcls : (X.env.scope.kind == .class || (X.env.scope.kind == .module && X.env.locals != X.env.globals)) = false := by rw [I.ok.kind]; rfl
 have hiσ : i < σ.length := by rw [I.len]; exact (List.getElem?_eq_some_iff.mp hi).1
 have cne := I.cne
 have tracked : ∀ {a : Addr} {h' : Heap}, (∃ o, s.heap.get? a = some o /\ H a = none) -> Heap.SameBut a s.heap h' -> HOk X.prog X.w H h' := fun {a h'} ha hs b ob e => by
  obtain ⟨_, _, hfree⟩ := ha
  refine (I.hok b ob e).stay (fun c w' hc q => (hs.2 c ?_).trans q) (fun _ q => q) fun _ _ q => q
  rintro rfl
  rcases hc with rfl | hc
  ·rw [hfree] at e; cases e
  ·rw [hfree] at hc; cases hc
 rcases hx with hk | hk
 ·refine wpAny_storeName_local hk hn (fun h' hn' hs => ?_) hcls
  obtain ⟨oL, _, _, hoL, _⟩ := id hn
  refine h _ ⟨I.ok, I.os, I.bare, ⟨fun b o e n hb hx => ?_, fun b o e n hb hx => ?_, I.base.free, fun b o e hx => ?_, I.base.tups, I.base.frzs, I.base.tbls⟩, ⟨_, hn', fun j y v' e1 e2 e3 => ?_⟩, fun y c e => ?_, I.free, I.freeC, fun p hp => ?_, tracked ⟨oL, hoL, I.free⟩ hs, by simpa using I.len⟩ ⟨_, hs, .inl rfl⟩
  ·exact (hs.2 b (Nat.ne_of_lt (Nat.lt_of_lt_of_le (Heap.lt_size e) I.ok.above))).trans (I.base.keep b o e n hb hx)
  ·obtain ⟨sl, e1⟩ := I.base.slot b o e n hb hx
   exact ⟨sl, (hs.2 b (Nat.ne_of_lt (Nat.lt_of_lt_of_le (Heap.lt_size e) I.ok.above))).trans e1⟩
  ·obtain ⟨o', e1⟩ := I.base.there b o e hx
   exact ⟨o', (hs.2 b (Nat.ne_of_lt (Nat.lt_of_lt_of_le (Heap.lt_size e) I.ok.above))).trans e1⟩
  ·by_cases hj : j = i
   ·subst hj
    rw [hi] at e1; cases e1
    rw [List.getElem?_set_self hiσ] at e2
    cases e2
    exact ⟨u, r, .inl ⟨hk, by simp⟩⟩
   ·rw [List.getElem?_set_ne (Ne.symm hj)] at e2
    obtain ⟨u', r', q⟩ := hl j y v' e1 e2 e3
    refine ⟨u', r', ?_⟩
    rcases q with ⟨k, e⟩ | ⟨k, c, e, z⟩
    ·refine .inl ⟨k, ?_⟩
     have : y ≠ x := fun e => hj (nodup_ix hN e1 (e ▸ hi))
     simp [this, e]
    ·exact .inr ⟨k, c, e, z.sameBut hs (cne y c e)⟩
  ·obtain ⟨w', z⟩ := I.cell y c e
   exact ⟨w', z.sameBut hs (cne y c e)⟩
  ·obtain ⟨e, n, ne, nf, d⟩ := I.pin p hp
   exact ⟨(hs.2 p.1 ne).trans e, n, ne, nf, d⟩
 ·have hfn : X.fn x = true := by
   rcases hf with z | z
   ·exact z
   ·rw [z] at hk; cases hk
  obtain ⟨c, hc⟩ := I.ok.has x (.inl hk)
  obtain ⟨w', z⟩ := I.cell x c hc
  refine wpAny_storeName_cell I.ok.kind hk hc z (fun h' hc' hs => ?_)
  obtain ⟨oc, hoc, hocd⟩ := id z
  refine h { s with heap := h' } ⟨I.ok, I.os, I.bare, ⟨fun b o e n hb hx => ?_, fun b o e n hb hx => ?_, I.base.free, fun b o e hx => ?_, I.base.tups, I.base.frzs, I.base.tbls⟩, ⟨m, hn.sameBut hs (Ne.symm (cne x c hc)), fun j y v' e1 e2 e3 => ?_⟩, fun y c' e => ?_, I.free, I.freeC, fun p hp => ?_, tracked ⟨oc, hoc, I.freeC x c hc⟩ hs, by simpa using I.len⟩ ⟨c, hs, .inr hc⟩
  ·exact (hs.2 b (Nat.ne_of_lt (Nat.lt_of_lt_of_le (Heap.lt_size e) (I.ok.cab x c hfn hc)))).trans (I.base.keep b o e n hb hx)
  ·obtain ⟨sl, e1⟩ := I.base.slot b o e n hb hx
   exact ⟨sl, (hs.2 b (Nat.ne_of_lt (Nat.lt_of_lt_of_le (Heap.lt_size e) (I.ok.cab x c hfn hc)))).trans e1⟩
  ·obtain ⟨o', e1⟩ := I.base.there b o e hx
   exact ⟨o', (hs.2 b (Nat.ne_of_lt (Nat.lt_of_lt_of_le (Heap.lt_size e) (I.ok.cab x c hfn hc)))).trans e1⟩
  ·by_cases hj : j = i
   ·subst hj
    rw [hi] at e1; cases e1
    rw [List.getElem?_set_self hiσ] at e2
    cases e2
    exact ⟨u, r, .inr ⟨.inl hk, c, hc, hc'⟩⟩
   ·rw [List.getElem?_set_ne (Ne.symm hj)] at e2
    obtain ⟨u', r', q⟩ := hl j y v' e1 e2 e3
    refine ⟨u', r', ?_⟩
    rcases q with q | ⟨k, c', e, z'⟩
    ·exact .inl q
    ·refine .inr ⟨k, c', e, z'.sameBut hs ?_⟩
     rintro rfl
     exact hj (nodup_ix hN e1 (I.ok.inj _ _ _ e hc ▸ hi))
  ·by_cases hcc : c' = c
   ·subst hcc; exact ⟨_, hc'⟩
   ·obtain ⟨w2, z2⟩ := I.cell y c' e
    exact ⟨w2, z2.sameBut hs hcc⟩
  ·obtain ⟨e, n, ne, nf, d⟩ := I.pin p hp
   refine ⟨(hs.2 p.1 ?_).trans e, n, ne, nf, d⟩
   intro q
   rw [q, hoc] at e
   have q' : oc = p.2 := Option.some.inj e
   exact d w' (by rw [← q']; exact hocd)
theorem Zbl {M : Model} {A : Around} {E : Value -> Shared -> Prop} {i : Nat} {x : Str} {v : V} {u : Value} {Q : Unit -> Shared -> Prop} (I : Inv X pins σ H s) (hN : X.N.Nodup) (hi : X.N[i]? = some x) (hx : Loc X.env.scope x) (r : RelV v u)
  (h : ∀ s', Inv X pins (σ.set i (some v)) H s' -> Q () s') (hf : X.fn x = true \/ X.env.scope.names.lookup x = some .local := by first | exact .inl rfl | exact .inr rfl | assumption) : wpAny M A (storeName X.env x u) Q E s :=
 store_ok2 I hN hi hx r (fun s' I' _ => h s' I') hf
theorem Inv.call' {s' : Shared} {ch : List Addr} (I : Inv X pins σ H s) (ho : s'.os = s.os) (u : Un (frs X.stack) ch H H' s.heap s'.heap) (hok : HOk X.prog X.w H' s'.heap) (hg : AllBare s'.gens)
  (hch : ∀ b ∈ ch, (b ∈ X.ex \/ X.s₀.heap.objs.size <= b) /\ b ≠ X.env.locals /\ (∀ x c, X.env.cells.lookup x = some c -> c ≠ b) /\ ∀ p ∈ X.pn ++ pins, p.1 ≠ b) : Inv X pins σ H' s' := by
 obtain ⟨h', g', d', t', o'⟩ := s'
 have e : o' = s.os := ho
 subst e
 exact I.call (g' := g') (t' := t') (d' := d') u hok hg hch
end
noncomputable abbrev XK := Value -> Option Addr -> Hp -> Prop
noncomputable abbrev St := List (Option V)
noncomputable abbrev VK := V -> Hp -> Prop
noncomputable abbrev TE := St -> Hp -> VK -> Prop
noncomputable abbrev TT := St -> Hp -> (Bool -> Hp -> Prop) -> Prop
noncomputable abbrev TA := St -> Hp -> (List V -> Hp -> Prop) -> Prop
structure Ends where
 nx : St -> Hp -> Prop
 rt : VK
 bk : St -> Hp -> Prop := fun _ _ => False
 ct : St -> Hp -> Prop := fun _ _ => False
noncomputable abbrev TS := Ends -> St -> Hp -> Prop
noncomputable def EP (X : Cx) (pins : List (Addr × Obj)) (σ : St) (Q : VK) (u : Value) (s' : Shared) : Prop := ∃ v H', Inv X pins σ H' s' /\ RelV v u /\ Q v H'
noncomputable def TP (X : Cx) (pins : List (Addr × Obj)) (σ : St) (Q : Bool -> Hp -> Prop) (b : Bool) (s' : Shared) : Prop := ∃ H', Inv X pins σ H' s' /\ Q b H'
noncomputable def AP (X : Cx) (pins : List (Addr × Obj)) (σ : St) (Q : List V -> Hp -> Prop) (us : List Value) (s' : Shared) : Prop := ∃ vs H', Inv X pins σ H' s' /\ Vals vs us /\ Q vs H'
noncomputable def SP (X : Cx) (pins : List (Addr × Obj)) (D : Ends) (f : Flow) (s' : Shared) : Prop :=
 match f with
 | .next => ∃ σ' H', Inv X pins σ' H' s' /\ D.nx σ' H'
 | .brk => ∃ σ' H', Inv X pins σ' H' s' /\ D.bk σ' H'
 | .cont => ∃ σ' H', Inv X pins σ' H' s' /\ D.ct σ' H'
 | .ret u => ∃ v σ' H', Inv X pins σ' H' s' /\ RelV v u /\ D.rt v H'
noncomputable def PE (X : Cx) (e : Expr) (t : TE) : Prop :=
 ∀ (pins : List (Addr × Obj)) (s : Shared) (σ : St) (H : Hp) (Q : VK), Inv X pins σ H s -> t σ H Q -> wpAny (model X.prog X.w) X.A (eval e X.env) (EP X pins σ Q) X.xe s
noncomputable def PT (X : Cx) (e : Expr) (t : TT) : Prop :=
 ∀ (pins : List (Addr × Obj)) (s : Shared) (σ : St) (H : Hp) (Q : Bool -> Hp -> Prop), Inv X pins σ H s -> t σ H Q -> wpAny (model X.prog X.w) X.A (isTrue e X.env (eval e X.env)) (TP X pins σ Q) X.xe s
noncomputable def PW (X : Cx) (e : Expr) (t : TT) : Prop :=
 ∀ (whole : Sem Value) (pins : List (Addr × Obj)) (s : Shared) (σ : St) (H : Hp) (Q : Bool -> Hp -> Prop), Inv X pins σ H s -> t σ H Q -> wpAny (model X.prog X.w) X.A (isTrue e X.env whole) (TP X pins σ Q) X.xe s
noncomputable def PA (X : Cx) (es : List Expr) (t : TA) : Prop :=
 ∀ (pos : Pos) (pins : List (Addr × Obj)) (s : Shared) (σ : St) (H : Hp) (Q : List V -> Hp -> Prop), Inv X pins σ H s -> t σ H Q -> wpAny (model X.prog X.w) X.A (spliced (backTo pos (starEach es X.env))) (AP X pins σ Q) X.xe s
noncomputable def PS (X : Cx) (st : Stmt) (t : TS) : Prop :=
 ∀ (pins : List (Addr × Obj)) (s : Shared) (σ : St) (H : Hp) (D : Ends), Inv X pins σ H s -> t D σ H -> wpAny (model X.prog X.w) X.A (exec st X.env) (SP X pins D) X.xe s
noncomputable def PSs (X : Cx) (st : List Stmt) (t : TS) : Prop :=
 ∀ (pins : List (Addr × Obj)) (s : Shared) (σ : St) (H : Hp) (D : Ends), Inv X pins σ H s -> t D σ H -> wpAny (model X.prog X.w) X.A (execs st X.env) (SP X pins D) X.xe s
theorem thn {α : Type} {t : Sem α} {Q Q' : α -> Shared -> Prop} {M : Model} {A : Around} {E : Value -> Shared -> Prop} {s : Shared} (h : wpAny M A t Q E s) (hQ : ∀ a s, Q a s -> Q' a s) : wpAny M A t Q' E s := wpAny_mono h hQ fun _ _ x => x
section
variable {X : Cx}
theorem bin {a b : Expr} {ta tb : TE} (ha : PE X a ta) (hb : PE X b tb) {pins : List (Addr × Obj)} {s : Shared} {σ : St} {H : Hp} {R : V -> V -> Hp -> Prop} (I : Inv X pins σ H s) (h : ta σ H fun x H1 => tb σ H1 fun y H2 => R x y H2)
  {α : Type} {Q : α -> Shared -> Prop} {f : Value -> Value -> Sem α}
  (hf : ∀ v u s2 x y H2, Inv X pins σ H2 s2 -> RelV x v -> RelV y u -> R x y H2 -> wpAny (model X.prog X.w) X.A (f v u) Q X.xe s2) :
  wpAny (model X.prog X.w) X.A (eval a X.env) (fun v s₁ => wpAny (model X.prog X.w) X.A (eval b X.env) (fun u s₂ => wpAny (model X.prog X.w) X.A (f v u) Q X.xe s₂) X.xe s₁) X.xe s := by
 refine thn (ha pins s σ H _ I h) fun v s1 h_ => ?_
 obtain ⟨x, H1, I1, r1, q1⟩ := h_
 refine thn (hb pins s1 σ H1 _ I1 q1) fun u s2 h_ => ?_
 obtain ⟨y, H2, I2, r2, q2⟩ := h_
 exact hf v u s2 x y H2 I2 r1 r2 q2
noncomputable def tVar (i : Nat) : TE := fun σ H Q => ∃ v, σ[i]? = some (some v) /\ Q v H
noncomputable def tC (v : V) : TE := fun _ H Q => Q v H
theorem pe_var {i : Nat} {x : Str} {pos : Pos} (hN : X.N[i]? = some x) (hv : Vis X.env.scope x) (hd : (x == ("__debug__" : Str)) = false := by decide) (hcd : (x == ("__classdict__" : Str)) = false := by decide) : PE X (.Name x pos) (tVar i) := by
 intro pins s σ H Q I h
 obtain ⟨v, e, h⟩ := h
 obtain ⟨m, hn, hl⟩ := I.loc
 obtain ⟨u, r, l⟩ := hl i x v hN e hv
 have fin : EP X pins σ Q u s := ⟨v, H, I, r, h⟩
 rcases l with ⟨hk, hm⟩ | ⟨hk, c, hc, hcell⟩
 ·exact wpAny_Name (wpAny_loadName_local I.ok.kind hk hn hm fin) hd
 ·rcases hk with hk | hk
  ·exact wpAny_Name (wpAny_loadName_cell I.ok.kind hk hc hcell fin) hd
  ·exact wpAny_Name (wpAny_loadName_free I.ok.kind hk hc hcell fin hcd) hd
theorem pe_int {i j pos} : PE X (.Constant (.int i) j pos) (tC (.int i)) := fun _ _ _ H _ I h => wpAny_Constant_int ⟨.int i, H, I.tok _, ⟨_, rfl⟩, h⟩
theorem pe_bl {b j pos} : PE X (.Constant (.bool b) j pos) (tC (.bl b)) := fun _ _ _ H _ I h => Constant_bool ⟨.bl b, H, I, rfl, h⟩
theorem pe_str {x j pos} : PE X (.Constant (.str x) j pos) (tC (.str x)) := fun _ _ _ H _ I h => Calls.Constant_str ⟨.str x, H, I.tok _, ⟨_, rfl⟩, h⟩
noncomputable def Gl (X : Cx) (x : Str) : Prop := X.env.kindOf x = some .globalImplicit
theorem ld_glob {E : Value -> Shared -> Prop} {pins : List (Addr × Obj)} {s : Shared} {σ : St} {H : Hp} {x : Str} {u : Value} {pos : Pos} {Q : Value -> Shared -> Prop} (I : Inv X pins σ H s) (hg : Gl X x) (hm : X.mg x = some u) (h : Q u s)
  (hd : (x == ("__debug__" : Str)) = false := by decide) : wpAny (model X.prog X.w) X.A (eval (.Name x pos) X.env) Q E s :=
 Calls.Name_function_global I.ok.kind hg (Calls.loadGlobal_global (by rw [I.ok.glob]; exact I.mod.glob.keeps I.bk) hm h) hd
theorem Zb9 {E : Value -> Shared -> Prop} {pins : List (Addr × Obj)} {s : Shared} {σ : St} {H : Hp} {x : Str} {u : Value} {pos : Pos} {Q : Value -> Shared -> Prop} (I : Inv X pins σ H s) (hg : Gl X x) (hm : X.mg x = none) (hv : bootBuiltins x = some u) (h : Q u s)
  (hn : x ≠ "__name__" := by decide) (hd : (x == ("__debug__" : Str)) = false := by decide) : wpAny (model X.prog X.w) X.A (eval (.Name x pos) X.env) Q E s := by
 obtain ⟨mb, h1, h2⟩ := I.mod.blt
 exact Calls.Name_function_global I.ok.kind hg (Calls.loadGlobal_builtin (by rw [I.ok.glob]; exact I.mod.glob.keeps I.bk) hm (by rw [I.ok.blt]; exact h1.keeps I.bk) ((h2 x hn).trans hv) h) hd
theorem pe_glob {x : Str} {v : V} {u : Value} {pos : Pos} (hg : Gl X x) (hm : X.mg x = some u) (r : RelV v u) (hd : (x == ("__debug__" : Str)) = false := by decide) : PE X (.Name x pos) (tC v) :=
 fun _ _ _ H _ I h => ld_glob I hg hm ⟨v, H, I, r, h⟩ hd
theorem pe_bltn {x : Str} {v : V} {u : Value} {pos : Pos} (hg : Gl X x) (hm : X.mg x = none) (hv : bootBuiltins x = some u) (r : RelV v u) (hn : x ≠ "__name__" := by decide) (hd : (x == ("__debug__" : Str)) = false := by decide) : PE X (.Name x pos) (tC v) :=
 fun _ _ _ H _ I h => Zb9 I hg hm hv ⟨v, H, I, r, h⟩ hn hd
variable {a b : Expr} {ta tb : TE} {pos : Pos}
variable {tA tB' : TT} {rest : List Expr}
noncomputable def tOr (t u : TT) : TT := fun σ H Q => t σ H fun c H1 => if c = true then Q true H1 else u σ H1 Q
noncomputable def tNot (t : TT) : TT := fun σ H Q => t σ H fun c H1 => Q (!c) H1
theorem pw_or1 (ha : PT X a tA) : PW X (.BoolOp .Or [a] pos) tA := by
 intro wh pins s σ H Q I h
 refine isTrue_or (thn (ha pins s σ H Q I h) fun c s1 e => ?_)
 cases c with
 | false => exact isTrue_or_nil e
 | true => exact e
theorem pw_or (ha : PT X a tA) (hb : PW X (.BoolOp .Or (b :: rest) pos) tB') : PW X (.BoolOp .Or (a :: b :: rest) pos) (tOr tA tB') := by
 intro wh pins s σ H Q I h
 refine isTrue_or (thn (ha pins s σ H _ I h) fun c s1 h_ => ?_)
 obtain ⟨H1, I1, q1⟩ := h_
 cases c with
 | true => exact ⟨H1, I1, q1⟩
 | false => exact hb wh pins s1 σ H1 Q I1 q1
theorem pt_not (ha : PT X a tA) : PT X (.UnaryOp .Not a pos) (tNot tA) := by
 intro pins s σ H Q I h
 exact isTrue_not (ha pins s σ H (fun c H1 => Q (!c) H1) I h)
noncomputable def tAndV (ta tb : TE) : TE := fun σ H Q => ta σ H fun x H1 => ∃ c, x = .bl c /\ if c = true then tb σ H1 Q else Q (.bl false) H1
noncomputable def tOrV (ta tb : TE) : TE := fun σ H Q => ta σ H fun x H1 => ∃ c, x = .bl c /\ if c = true then Q (.bl true) H1 else tb σ H1 Q
noncomputable def tNotV (ta : TE) : TE := fun σ H Q => ta σ H fun x H1 => ∃ c, x = .bl c /\ Q (.bl (!c)) H1
theorem pe_one {op} {t : TE} (h : PE X a t) : PE X (.BoolOp op [a] pos) t := fun pins s σ H Q I hw => BoolOp_one (h pins s σ H Q I hw)
theorem pe_and (ha : PE X a ta) (hb : PE X (.BoolOp .And (b :: rest) pos) tb) : PE X (.BoolOp .And (a :: b :: rest) pos) (tAndV ta tb) := by
 intro pins s σ H Q I h
 refine BoolOp_and (thn (ha pins s σ H _ I h) fun v s1 h_ => ?_)
 obtain ⟨x, H1, I1, r1, q1⟩ := h_
 obtain ⟨c, rfl, q1⟩ := q1
 cases r1
 refine wpAny_truthy_bool ?_
 cases c with
 | true => exact hb pins s1 σ H1 Q I1 q1
 | false => exact ⟨.bl false, H1, I1, rfl, q1⟩
theorem pe_or (ha : PE X a ta) (hb : PE X (.BoolOp .Or (b :: rest) pos) tb) : PE X (.BoolOp .Or (a :: b :: rest) pos) (tOrV ta tb) := by
 intro pins s σ H Q I h
 refine BoolOp_or (thn (ha pins s σ H _ I h) fun v s1 h_ => ?_)
 obtain ⟨x, H1, I1, r1, q1⟩ := h_
 obtain ⟨c, rfl, q1⟩ := q1
 cases r1
 refine wpAny_truthy_bool ?_
 cases c with
 | false => exact hb pins s1 σ H1 Q I1 q1
 | true => exact ⟨.bl true, H1, I1, rfl, q1⟩
theorem pe_not (ha : PE X a ta) : PE X (.UnaryOp .Not a pos) (tNotV ta) := by
 intro pins s σ H Q I h
 refine UnaryOp_ (thn (ha pins s σ H _ I h) fun v s1 h_ => ?_)
 obtain ⟨x, H1, I1, r1, q1⟩ := h_
 obtain ⟨c, rfl, q1⟩ := q1
 cases r1
 exact not_of (wpAny_truthy_bool ⟨.bl (!c), H1, I1, rfl, q1⟩)
end
noncomputable def SqL (K : W.Frag) (H : Hp) (a : Addr) (xs : List V) : Prop :=
 Rd H a (.lst xs) \/
  ∃ (o : Obj) (its : Array Value) (n : Nat), K.lookup a = some o /\ o.cls = .type "list" /\ o.dict = none /\ o.data = .seq its n /\ its.size <= sizeLine /\ Vals xs its.toList
noncomputable def SqT (K : W.Frag) (H : Hp) (a : Addr) (xs : List V) : Prop :=
 Rd H a (.tup xs) \/
  ∃ (o : Obj) (its : Array Value) (n : Nat), K.lookup a = some o /\ o.cls = .type "tuple" /\ o.data = .seq its n /\ its.size <= sizeLine /\ Vals xs its.toList
noncomputable def absV : Value -> Option V
 | .none => some .non
 | .bool b => some (.bl b)
 | .int i _ => some (.int i)
 | .str x _ => some (.str x)
 | .bytes b _ => some (.byt b)
 | .float b _ => some (.flt b)
 | .ref a => some (.ref a)
 | .type n => some (.ty n)
 | _ => none
theorem RelV.abs {x : V} {u : Value} (r : RelV x u) : absV u = some x := by
 cases x with
 | non => cases r; rfl
 | bl _ => cases r; rfl
 | int _ => obtain ⟨t, rfl⟩ := r; rfl
 | str _ => obtain ⟨t, rfl⟩ := r; rfl
 | byt _ => obtain ⟨t, rfl⟩ := r; rfl
 | flt _ => obtain ⟨t, rfl⟩ := r; rfl
 | ref _ => cases r; rfl
 | ty _ => cases r; rfl
theorem RelV.inj {x y : V} {u : Value} (r : RelV x u) (q : RelV y u) : x = y := Option.some.inj (r.abs.symm.trans q.abs)
theorem Vals.inj : ∀ {xs ys : List V} {us : List Value}, Vals xs us -> Vals ys us -> xs = ys
 | _, _, _, .nil, .nil => rfl
 | _, _, _, .cons r t, .cons r' t' => by rw [r.inj r', Vals.inj t t']
section
variable {X : Cx} {pins : List (Addr × Obj)} {σ : St} {H : Hp} {s : Shared} {a : Addr} {xs ys : List V}
theorem SqL.of {K : W.Frag} (h : H a = some (.lst xs)) : SqL K H a xs := .inl (.inl h)
theorem Inv.list (I : Inv X pins σ H s) (h : SqL X.K H a xs) : ∃ its : List Value, Vals xs its /\ PlainL s.heap a its.toArray /\ xs.length <= sizeLine := by
 rcases h with h | ⟨o, its, n, hk, hc, hd, hs, hz, r⟩
 ·obtain ⟨z, its, n, r, e⟩ := h.ok I.hok
  exact ⟨its, r, ⟨_, n, e, rfl, rfl, rfl⟩, z⟩
 ·refine ⟨its.toList, r, ⟨o, n, I.kIn a o hk, hc, hd, by simpa using hs⟩, ?_⟩
  have e := r.length
  simp only [Array.length_toList] at e
  lia
theorem Inv.tuple (I : Inv X pins σ H s) (h : SqT X.K H a xs) : ∃ its : List Value, Vals xs its /\ IsTup s.heap a its.toArray /\ xs.length <= sizeLine := by
 rcases h with h | ⟨o, its, n, hk, hc, hs, hz, r⟩
 ·obtain ⟨z, its, r, p⟩ := h.ok I.hok
  exact ⟨its, r, p, z⟩
 ·refine ⟨its.toList, r, ⟨o, I.kIn a o hk, hc, n, by simpa using hs⟩, ?_⟩
  have e := r.length
  simp only [Array.length_toList] at e
  lia
theorem Inv.list_inj (I : Inv X pins σ H s) (h : SqL X.K H a xs) (h' : SqL X.K H a ys) : xs = ys := by
 obtain ⟨its, r, ⟨o, n, e, _, _, d⟩, _⟩ := I.list h
 obtain ⟨its', r', ⟨o', n', e', _, _, d'⟩, _⟩ := I.list h'
 rw [e] at e'; cases e'
 rw [d] at d'
 injection d' with d1 _
 have : its = its' := by simpa using congrArg Array.toList d1
 subst this
 exact r.inj r'
theorem Inv.tuple_inj (I : Inv X pins σ H s) (h : SqT X.K H a xs) (h' : SqT X.K H a ys) : xs = ys := by
 obtain ⟨its, r, ⟨o, e, _, n, d⟩, _⟩ := I.tuple h
 obtain ⟨its', r', ⟨o', e', _, n', d'⟩, _⟩ := I.tuple h'
 rw [e] at e'; cases e'
 rw [d] at d'
 injection d' with d1 _
 have : its = its' := by simpa using congrArg Array.toList d1
 subst this
 exact r.inj r'
end
noncomputable abbrev Cx.wish (X : Cx) (E : Value -> Shared -> Prop) : Cx := { X with xe := E }
noncomputable abbrev Cx.nox (X : Cx) : Cx := X.wish fun _ _ => False
theorem Cx.Ok.wish {X : Cx} (ok : X.Ok) (E : Value -> Shared -> Prop) : (X.wish E).Ok :=
 ⟨ok.mod, ok.kind, ok.glob, ok.blt, ok.above, ok.inj, ok.has, ok.cab, ok.hd, ok.frames, ok.stk, ok.exf, ok.bs, ok.bsz, ok.noex, ok.exfs, ok.funs, ok.frf⟩
theorem Cx.Ok.unwish {X : Cx} {E : Value -> Shared -> Prop} (ok : (X.wish E).Ok) : X.Ok :=
 ⟨ok.mod, ok.kind, ok.glob, ok.blt, ok.above, ok.inj, ok.has, ok.cab, ok.hd, ok.frames, ok.stk, ok.exf, ok.bs, ok.bsz, ok.noex, ok.exfs, ok.funs, ok.frf⟩
section
variable {X : Cx} {pins : List (Addr × Obj)} {σ : St} {H : Hp} {s : Shared} {E : Value -> Shared -> Prop}
theorem Inv.wish (I : Inv X pins σ H s) (E : Value -> Shared -> Prop) : Inv (X.wish E) pins σ H s := ⟨I.ok.wish E, I.os, I.bare, I.base, I.loc, I.cell, I.free, I.freeC, I.pin, I.hok, I.len⟩
theorem Inv.unwish (I : Inv (X.wish E) pins σ H s) : Inv X pins σ H s := ⟨I.ok.unwish, I.os, I.bare, I.base, I.loc, I.cell, I.free, I.freeC, I.pin, I.hok, I.len⟩
theorem SP.unwish {D : Ends} {f : Flow} {s' : Shared} (h : SP (X.wish E) pins D f s') : SP X pins D f s' := by
 cases f with
 | next => obtain ⟨σ', H', I, q⟩ := h; exact ⟨σ', H', I.unwish, q⟩
 | brk => obtain ⟨σ', H', I, q⟩ := h; exact ⟨σ', H', I.unwish, q⟩
 | cont => obtain ⟨σ', H', I, q⟩ := h; exact ⟨σ', H', I.unwish, q⟩
 | ret u => obtain ⟨v, σ', H', I, r, q⟩ := h; exact ⟨v, σ', H', I.unwish, r, q⟩
theorem PSs.nox {st : List Stmt} {t : TS} (h : PSs X.nox st t) : PSs X st t := fun pins s σ H D I hw =>
 wpAny_mono (h pins s σ H D (I.wish _) hw) (fun _ _ q => q.unwish) fun _ _ z => False.elim z
end
section
variable {X : Cx} {st : Stmt} {rest : List Stmt} {t u : TS} {e : Expr} {te : TE} {pos : Pos}
noncomputable def tNext : TS := fun D σ H => D.nx σ H
noncomputable def tSeq (t u : TS) : TS := fun D σ H => t { D with nx := u D } σ H
theorem pss_nil : PSs X [] tNext := fun _ _ σ H _ I h => wpAny_execs_nil ⟨σ, H, I, h⟩
theorem pss_cons (h1 : PS X st t) (h2 : PSs X rest u) : PSs X (st :: rest) (tSeq t u) := by
 intro pins s σ H D I h
 refine wpAny_execs_cons (thn (h1 pins s σ H { D with nx := u D } I h) fun f s1 q => ?_)
 cases f with
 | next =>
  obtain ⟨σ', H', I', q⟩ := q
  exact h2 pins s1 σ' H' D I' q
 | ret v => exact q
 | brk => exact q
 | cont => exact q
theorem pss_one (h1 : PS X st t) : PSs X [st] t := by
 intro pins s σ H D I h
 refine wpAny_execs_cons (thn (h1 pins s σ H D I h) fun f s1 q => ?_)
 cases f with
 | next => exact wpAny_execs_nil q
 | ret v => exact q
 | brk => exact q
 | cont => exact q
theorem Inv.quiet {pins : List (Addr × Obj)} {σ : St} {H : Hp} {s : Shared} (I : Inv X pins σ H s) : interactive X.env = false := by simp [interactive, I.ok.kind]
noncomputable def tDrop (te : TE) : TS := fun D σ H => te σ H fun _ H1 => D.nx σ H1
theorem ps_expr (he : PE X e te) (hs : swapsWith e none pos.line X.env = pure false := by rfl) : PS X (.Expr e pos) (tDrop te) := by
 intro pins s σ H D I h
 exact wpAny_Expr_any (thn (he pins s σ H _ I h) fun v s1 ⟨x, H1, I1, r1, q1⟩ => ⟨σ, H1, I1, q1⟩) I.quiet hs
noncomputable def tRet (te : TE) : TS := fun D σ H => te σ H D.rt
theorem ps_ret (he : PE X e te) : PS X (.Return (some e) pos) (tRet te) := by
 intro pins s σ H D I h
 exact wpAny_Return_some (thn (he pins s σ H _ I h) fun v s1 ⟨x, H1, I1, r1, q1⟩ => ⟨x, σ, H1, I1, r1, q1⟩)
noncomputable def tIfS (c : TT) (t u : TS) : TS := fun D σ H => c σ H fun b H1 => if b = true then t D σ H1 else u D σ H1
theorem ps_if {c : Expr} {a b : List Stmt} {tc : TT} (hc : PT X c tc) (ha : PSs X a t) (hb : PSs X b u) : PS X (.If c a b pos) (tIfS tc t u) := by
 intro pins s σ H D I h
 refine wpAny_If (thn (hc pins s σ H _ I h) fun d s1 h_ => ?_)
 obtain ⟨H1, I1, q1⟩ := h_
 cases d with
 | true => exact ha pins s1 σ H1 D I1 q1
 | false => exact hb pins s1 σ H1 D I1 q1
end
noncomputable abbrev TG := V -> St -> Hp -> (St -> Hp -> Prop) -> Prop
noncomputable abbrev TGs := List V -> St -> Hp -> (St -> Hp -> Prop) -> Prop
noncomputable def PG (X : Cx) (target : Expr) (t : TG) : Prop :=
 ∀ (pins : List (Addr × Obj)) (s : Shared) (σ : St) (H : Hp) (v : V) (u : Value) (Q : St -> Hp -> Prop), Inv X pins σ H s -> RelV v u -> t v σ H Q ->
  wpAny (model X.prog X.w) X.A (assign target X.env u) (fun _ s' => ∃ σ' H', Inv X pins σ' H' s' /\ Q σ' H') X.xe s
noncomputable def PGs (X : Cx) (ts : List Expr) (t : TGs) : Prop :=
 ∀ (pins : List (Addr × Obj)) (s : Shared) (σ : St) (H : Hp) (vs : List V) (us : List Value) (Q : St -> Hp -> Prop), Inv X pins σ H s -> Vals vs us -> t vs σ H Q ->
  wpAny (model X.prog X.w) X.A (assignInOrder ((assignEach ts X.env).map (·.2)) us) (fun _ s' => ∃ σ' H', Inv X pins σ' H' s' /\ Q σ' H') X.xe s
noncomputable abbrev TSet := V -> V -> V -> Hp -> (Hp -> Prop) -> Prop
noncomputable def PSet (X : Cx) (t : TSet) : Prop :=
 ∀ (pins : List (Addr × Obj)) (s : Shared) (σ : St) (H : Hp) (o i v : V) (ov iv u : Value) (Q : Hp -> Prop), Inv X pins σ H s -> RelV o ov -> RelV i iv -> RelV v u -> t o i v H Q ->
  wpAny (model X.prog X.w) X.A (setItem ov iv u) (fun _ s' => ∃ H', Inv X pins σ H' s' /\ Q H') X.xe s
section
variable {X : Cx} {pos : Pos}
noncomputable def gName (i : Nat) : TG := fun v σ H Q => Q (σ.set i (some v)) H
theorem pg_name {i : Nat} {x : Str} (hN : X.N.Nodup) (hi : X.N[i]? = some x) (hx : Loc X.env.scope x) (hf : X.fn x = true \/ X.env.scope.names.lookup x = some .local := by first | exact .inl rfl | exact .inr rfl | assumption) : PG X (.Name x pos) (gName i) := by
 intro pins s σ H v u Q I r h
 exact wpAny_assign_Name (Zbl I hN hi hx r (fun s' I' => ⟨_, H, I', h⟩) hf)
noncomputable def gNil : TGs := fun vs σ H Q => vs = [] /\ Q σ H
noncomputable def gCons (t : TG) (u : TGs) : TGs := fun vs σ H Q => ∃ v r, vs = v :: r /\ t v σ H fun σ' H' => u r σ' H' Q
theorem pgs_nil : PGs X [] gNil := by
 intro pins s σ H vs us Q I r h
 obtain ⟨e, h⟩ := h
 subst e
 cases r
 exact assignInOrder_nil ⟨σ, H, I, h⟩
theorem pgs_cons {e : Expr} {es : List Expr} {t : TG} {u : TGs} (h1 : PG X e t) (h2 : PGs X es u)
  (hs : (assignEach (e :: es) X.env).map (·.2) = assign e X.env :: (assignEach es X.env).map (·.2) := by rfl) : PGs X (e :: es) (gCons t u) := by
 intro pins s σ H vs us Q I r h
 obtain ⟨v, vr, e1, h⟩ := h
 subst e1
 cases r with
 | cons r rr =>
  rw [hs]
  refine assignInOrder_cons (thn (h1 pins s σ H _ _ _ I r h) fun _ s1 h_ => ?_)
  obtain ⟨σ1, H1, I1, q1⟩ := h_
  exact h2 pins s1 σ1 H1 _ _ Q I1 rr q1
noncomputable def gTup (K : W.Frag) (n : Nat) (t : TGs) : TG := fun v σ H Q => ∃ a xs, v = .ref a /\ SqT K H a xs /\ xs.length = n /\ t xs σ H Q
theorem pg_tup {es : List Expr} {k : Nat} {t : TGs} {n : Nat} (hc : X.calm = true) (h : PGs X es t)
  (hn : (assignEach es X.env).length = n := by rfl) (hst : (assignEach es X.env).findIdx? (·.1) = none := by rfl) : PG X (.Tuple es k pos) (gTup X.K n t) := by
 intro pins s σ H v u Q I r hw
 obtain ⟨a, xs, e1, hq, hl, hw⟩ := hw
 subst e1
 cases r
 obtain ⟨its, rv, ht, hz⟩ := I.tuple hq
 refine assign_Tuple_tuple (I.ok.hd hc) ht (by simp [hn, ← hl, rv.length]) hst fun h' hx => ?_
 have I1 : Inv X pins σ H { s with heap := h' } := I.kept (t' := s.toks) fun b o e => hx b o (Nat.ne_of_lt (Heap.lt_size e)) e
 exact h pins _ σ H xs _ Q I1 (by simpa using rv) hw
noncomputable def gSub (to ti : TE) (t : TSet) : TG := fun v σ H Q => to σ H fun o H1 => ti σ H1 fun i H2 => t o i v H2 fun H3 => Q σ H3
theorem pg_sub {o i : Expr} {to ti : TE} {t : TSet} (ho : PE X o to) (hi : PE X i ti) (hs : PSet X t)
  (ha : ∀ v, assign (.Subscript o i pos) X.env v = (do
   let ov ← holding [v] (eval o X.env)
   let iv ← holding [v, ov] (eval i X.env)
   standAt pos
   holding [v, ov, iv] (setItem ov iv v)
   release [v, ov, iv] []) := by intro _; rfl) : PG X (.Subscript o i pos) (gSub to ti t) := by
 intro pins s σ H v u Q I r h
 rw [ha]
 refine wpAny_bind (wpAny_holding (thn (ho pins s σ H _ I h) fun ov s1 h_ => ?_))
 obtain ⟨x, H1, I1, r1, q1⟩ := h_
 refine wpAny_bind (wpAny_holding (thn (hi pins s1 σ H1 _ I1 q1) fun iv s2 h_ => ?_))
 obtain ⟨y, H2, I2, r2, q2⟩ := h_
 refine wpAny_bind (wpAny_standAt (wpAny_bind (wpAny_holding (thn (hs pins s2 σ H2 x y v ov iv u _ I2 r1 r2 r q2) fun _ s3 h_ => ?_))))
 obtain ⟨H3, I3, q3⟩ := h_
 exact wpAny_release ⟨σ, H3, I3, q3⟩
noncomputable def tAsg (te : TE) (g : TG) : TS := fun D σ H => te σ H fun x H1 => g x σ H1 D.nx
theorem ps_asg {tg e : Expr} {te : TE} {g : TG} (he : PE X e te) (hg : PG X tg g) (hs : swapsWithSole [tg] e pos.line X.env = pure false := by rfl) (hw : swappedStores [tg] e X.env = pure none := by rfl)
  (h1 : (assignEach [tg] X.env).map (·.2) = [assign tg X.env] := by rfl) : PS X (.Assign [tg] e pos) (tAsg te g) := by
 intro pins s σ H D I h
 refine wpAny_Assign_stores (thn (he pins s σ H _ I h) fun v s1 ⟨x, H1, I1, r1, q1⟩ => ?_) hs hw
 rw [h1]
 exact thn (hg pins s1 σ H1 x v _ I1 r1 q1) fun _ s2 q => q
theorem ps_set {i : Nat} {x : Str} {e : Expr} {te : TE} {pos' : Pos} (hN : X.N.Nodup) (hi : X.N[i]? = some x) (hx : Loc X.env.scope x) (he : PE X e te) (hs : swapsWith e (some (.Name x pos')) pos.line X.env = pure false := by rfl) (hf : X.fn x = true \/ X.env.scope.names.lookup x = some .local := by first | exact .inl rfl | exact .inr rfl | assumption) :
  PS X (.Assign [.Name x pos'] e pos) (tAsg te (gName i)) := by
 intro pins s σ H D I h
 refine wpAny_Assign_Name (thn (he pins s σ H _ I h) fun v s1 ⟨y, H1, I1, r1, q1⟩ => ?_) hs
 exact Zbl I1 hN hi hx r1 (fun s2 I2 => ⟨_, H1, I2, q1⟩) hf
end
structure It where
 go : Nat -> Hp -> Prop
 yld : Nat -> Hp -> V -> Hp -> Prop
 stop : Nat -> Hp -> Prop
noncomputable def FpOk (X : Cx) (pins : List (Addr × Obj)) (H : Hp) (b : Addr) : Prop :=
 H b = none /\ b ≠ X.env.locals /\ b ∉ X.fs /\ (b ∈ X.ex \/ X.s₀.heap.objs.size <= b) /\ (∀ x c, X.env.cells.lookup x = some c -> c ≠ b) /\ ∀ p ∈ X.pn ++ pins, p.1 ≠ b
theorem Inv.fpOk {X : Cx} {pins : List (Addr × Obj)} {σ : St} {H H' : Hp} {s : Shared} {b : Addr} (I : Inv X pins σ H s) (hb : s.heap.objs.size <= b) (hn : H' b = none) : FpOk X pins H' b := by
 refine ⟨hn, Nat.ne_of_gt (Nat.lt_of_lt_of_le I.lt hb), I.nofs hb, .inr (Nat.le_trans I.sz hb), fun x c e z => ?_, fun p hp z => ?_⟩
 ·obtain ⟨v, q⟩ := I.cell x c e
  exact absurd (Nat.lt_of_lt_of_le q.lt (by rw [z]; exact hb)) (Nat.lt_irrefl _)
 ·exact absurd (Nat.lt_of_lt_of_le (Heap.lt_size (I.pin p hp).1) (by rw [z]; exact hb)) (Nat.lt_irrefl _)
structure Turn (P : Program) (w : World) (K : W.Frag) (tg : Expr) (J : It) (fp : List Addr) (it : Addr) (tn : Nat -> Heap -> Prop) : Prop where
 mem : it ∈ fp
 obj : ∀ i h, tn i h -> ∀ b ∈ fp, ∃ o, h.get? b = some o /\ ∀ v, o.data ≠ .cell v
 keep : ∀ i h h', tn i h -> (∀ b ∈ fp, ∀ o, h.get? b = some o -> h'.get? b = some o) -> tn i h'
 item : ∀ (X : Cx), X.prog = P -> X.w = w -> X.K = K -> X.calm = true -> ∀ (i : Nat) (pins : List (Addr × Obj)) (s : Shared) (σ : St) (H : Hp) (E : Value -> Shared -> Prop), Inv X pins σ H s -> (∀ b ∈ fp, FpOk X pins H b) -> tn i s.heap -> J.go i H ->
  wpAny (model P w) X.A (pyNext (.ref it)) (fun r s1 => ∃ u, r = some u /\
   wpAny (model P w) X.A (letOwnedTupleGo tg (.ref it) u) (fun _ s2 => ∃ x H', Inv X pins σ H' s2 /\ RelV x u /\ J.yld i H x H' /\ tn (i + 1) s2.heap /\ ∀ b ∈ fp, H' b = none) E s1) E s
 done : ∀ (X : Cx), X.prog = P -> X.w = w -> X.K = K -> X.calm = true -> ∀ (i : Nat) (pins : List (Addr × Obj)) (s : Shared) (σ : St) (H : Hp) (E : Value -> Shared -> Prop), Inv X pins σ H s -> (∀ b ∈ fp, FpOk X pins H b) -> tn i s.heap -> J.stop i H ->
  wpAny (model P w) X.A (pyNext (.ref it)) (fun r s1 => r = none /\ Inv X pins σ H s1) E s
 self : ∀ (A : Around) (i : Nat) (s : Shared) (Q : Value -> Shared -> Prop) (E : Value -> Shared -> Prop), tn i s.heap -> Q (.ref it) s -> wpAny (model P w) A (pyIter (.ref it)) Q E s
noncomputable abbrev TI := St -> Hp -> (It -> Hp -> Prop) -> Prop
noncomputable def PIE (X : Cx) (pins : List (Addr × Obj)) (σ : St) (tg : Expr) (R : It -> Hp -> Prop) (itv : Value) (s2 : Shared) : Prop :=
 ∃ (it : Addr) (fp : List Addr) (tn : Nat -> Heap -> Prop) (J : It) (H' : Hp), itv = .ref it /\ Inv X pins σ H' s2 /\ Turn X.prog X.w X.K tg J fp it tn /\ tn 0 s2.heap /\ (∀ b ∈ fp, FpOk X pins H' b) /\ R J H'
noncomputable def PI (X : Cx) (tg iter : Expr) (wi : TI) : Prop :=
 ∀ (pins : List (Addr × Obj)) (s : Shared) (σ : St) (H : Hp) (R : It -> Hp -> Prop), Inv X pins σ H s -> wi σ H R ->
  wpAny (model X.prog X.w) X.A (eval iter X.env) (fun v s1 => wpAny (model X.prog X.w) X.A (pyIter v) (PIE X pins σ tg R) X.xe s1) X.xe s
theorem go_of {M : Model} {A : Around} {E : Value -> Shared -> Prop} {s : Shared} {tg : Expr} {it : Addr} {u : Value} {o : Obj} {n : String} {vs : Array Value} {Q : Unit -> Shared -> Prop} (ho : s.heap.get? it = some o) (hc : o.cls = .type n) (hd : o.data = .fields vs)
    (hn : ["enumerate", "zip", "dict_itemiterator", "dict_reverseitemiterator", "odict_iterator", "itertools.zip_longest", "itertools.pairwise"].contains n = false) (hQ : Q () s) : wpAny M A (letOwnedTupleGo tg (.ref it) u) Q E s := by
  unfold letOwnedTupleGo
  cases tg <;> first
    | exact wpAny_pure hQ
    | (cases u <;> first
        | exact wpAny_pure hQ
        | (refine wpAny_bind (wpAny_load ho ?_)
           rw [hc, hd]
           show wpAny M A (if (["enumerate", "zip", "dict_itemiterator", "dict_reverseitemiterator", "odict_iterator", "itertools.zip_longest", "itertools.pairwise"].contains n && vs[0]? == some (rawInt _)) = true then _ else _) Q E s
           rw [if_neg (by intro h; rw [hn, Bool.false_and] at h; cases h)]
           exact wpAny_pure hQ))
noncomputable def Itl (K : W.Frag) (a : Addr) : It :=
 ⟨fun i H => ∃ xs x, SqL K H a xs /\ xs[i]? = some x, fun i H x H' => H' = H /\ ∀ xs, SqL K H a xs -> xs[i]? = some x, fun i H => ∃ xs, SqL K H a xs /\ xs.length <= i⟩
noncomputable def Itt (K : W.Frag) (a : Addr) : It :=
 ⟨fun i H => ∃ xs x, SqT K H a xs /\ xs[i]? = some x, fun i H x H' => H' = H /\ ∀ xs, SqT K H a xs -> xs[i]? = some x, fun i H => ∃ xs, SqT K H a xs /\ xs.length <= i⟩
noncomputable def Itr (lo : Int) (n : Nat) : It := ⟨fun i _ => i < n, fun i H x H' => H' = H /\ x = .int (lo + i), fun i _ => n <= i⟩
theorem turn_list {P : Program} {w : World} {K : W.Frag} {tg : Expr} (a it : Addr) : Turn P w K tg (Itl K a) [it] it (fun i h => h.IsListIter it a i) where
 mem := by simp
 obj := fun i h st b hb => by
  have e : b = it := by simpa using hb
  subst e
  obtain ⟨o, e, c, d⟩ := st
  exact ⟨o, e, fun v z => by rw [d] at z; cases z⟩
 keep := fun i h h' st k => st.at fun o e => k it (by simp) o e
 item := by
  intro X hP hw hK hc i pins s σ H E I hf st hg
  subst hP hw hK
  obtain ⟨xs, x, hq, hx⟩ := hg
  obtain ⟨its, rv, p, hz⟩ := I.list hq
  obtain ⟨u, hu, ru⟩ := rv.get hx
  obtain ⟨f0, f1, f2, f3, f4, f5⟩ := hf it (by simp)
  refine wpAny_pyNext_list_item st p.isList (x := u) (by simpa using hu) fun h' st' sb => ?_
  have I1 : Inv X pins σ H { s with heap := h' } := I.turned (t' := s.toks) (fun b o hb e => (sb.2 b hb).trans e) f0 f1 f3 f4 f5
  obtain ⟨o, e, c, d⟩ := id st'
  exact ⟨u, rfl, go_of (s := { s with heap := h' }) e c d (by decide) ⟨x, H, I1, ru, ⟨rfl, fun ys hy => by rw [I.list_inj hy hq]; exact hx⟩, st', fun b hb => (hf b hb).1⟩⟩
 done := by
  intro X hP hw hK hc i pins s σ H E I hf st hg
  subst hP hw hK
  obtain ⟨xs, hq, hx⟩ := hg
  obtain ⟨its, rv, p, hz⟩ := I.list hq
  obtain ⟨f0, f1, f2, f3, f4, f5⟩ := hf it (by simp)
  have hl := rv.length
  exact wpAny_pyNext_list_end (I.ok.hd hc) st p.isList (by simp; lia) fun h' eb => ⟨rfl, I.turned (t' := s.toks) (fun b o hb e => eb b o hb e) f0 f1 f3 f4 f5⟩
 self := fun _ _ _ _ _ st h => wpAny_pyIter_listiter st h
theorem turn_tuple {P : Program} {w : World} {K : W.Frag} {tg : Expr} (a it : Addr) : Turn P w K tg (Itt K a) [it] it (fun i h => h.IsTupleIter it a i) where
 mem := by simp
 obj := fun i h st b hb => by
  have e : b = it := by simpa using hb
  subst e
  obtain ⟨o, e, c, d⟩ := st
  exact ⟨o, e, fun v z => by rw [d] at z; cases z⟩
 keep := fun i h h' st k => st.at fun o e => k it (by simp) o e
 item := by
  intro X hP hw hK hc i pins s σ H E I hf st hg
  subst hP hw hK
  obtain ⟨xs, x, hq, hx⟩ := hg
  obtain ⟨its, rv, p, hz⟩ := I.tuple hq
  obtain ⟨u, hu, ru⟩ := rv.get hx
  obtain ⟨f0, f1, f2, f3, f4, f5⟩ := hf it (by simp)
  refine wpAny_pyNext_tuple_item st (show s.heap.IsTuple a its.toArray from p) (x := u) (by simpa using hu) fun h' st' sb => ?_
  have I1 : Inv X pins σ H { s with heap := h' } := I.turned (t' := s.toks) (fun b o hb e => (sb.2 b hb).trans e) f0 f1 f3 f4 f5
  obtain ⟨o, e, c, d⟩ := id st'
  exact ⟨u, rfl, go_of (s := { s with heap := h' }) e c d (by decide) ⟨x, H, I1, ru, ⟨rfl, fun ys hy => by rw [I.tuple_inj hy hq]; exact hx⟩, st', fun b hb => (hf b hb).1⟩⟩
 done := by
  intro X hP hw hK hc i pins s σ H E I hf st hg
  subst hP hw hK
  obtain ⟨xs, hq, hx⟩ := hg
  obtain ⟨its, rv, p, hz⟩ := I.tuple hq
  obtain ⟨f0, f1, f2, f3, f4, f5⟩ := hf it (by simp)
  have hl := rv.length
  exact wpAny_pyNext_tuple_end (I.ok.hd hc) st (show s.heap.IsTuple a its.toArray from p) (by simp; lia) fun h' eb => ⟨rfl, I.turned (t' := s.toks) (fun b o hb e => eb b o hb e) f0 f1 f3 f4 f5⟩
 self := fun _ _ _ _ _ st h => wpAny_pyIter_tupleiter st h
theorem turn_range {P : Program} {w : World} {K : W.Frag} {tg : Expr} (it : Addr) (lo : Int) (n : Nat) : Turn P w K tg (Itr lo n) [it] it (fun i h => IsRangeIter h it (lo + (i : Nat) * 1) ((n : Int) - (i : Nat)) 1) where
 mem := by simp
 obj := fun i h st b hb => by
  have e : b = it := by simpa using hb
  subst e
  exact ⟨_, st, fun v z => by
   have z' : Data.fields _ = Data.cell v := z
   cases z'⟩
 keep := fun i h h' st k => k it (by simp) _ st
 item := by
  intro X hP hw hK hc i pins s σ H E I hf st hg
  subst hP hw hK
  obtain ⟨f0, f1, f2, f3, f4, f5⟩ := hf it (by simp)
  have W := Walks.range (prog := X.prog) (w := X.w) (I.ok.hd hc) it lo 1 n
  refine W.item i s _ _ hg st fun v h' tk hv st' kk => ?_
  obtain ⟨t, rfl⟩ := hv
  have I1 : Inv X pins σ H { s with heap := h', toks := tk } := I.turned (fun b o hb e => kk b o (by simpa using hb) e) f0 f1 f3 f4 f5
  refine ⟨_, rfl, go_of (s := { s with heap := h', toks := tk }) (n := "range_iterator") st' rfl rfl (by decide) ⟨.int (lo + i), H, I1, ⟨t, ?_⟩, ⟨rfl, rfl⟩, st', fun b hb => (hf b hb).1⟩⟩
  rw [Int.mul_one]
 done := by
  intro X hP hw hK hc i pins s σ H E I hf st hg
  subst hP hw hK
  obtain ⟨f0, f1, f2, f3, f4, f5⟩ := hf it (by simp)
  exact wpAny_pyNext_range_end (I.ok.hd hc) st (by have : n <= i := hg; lia) fun h' eb => ⟨rfl, I.turned (t' := s.toks) (fun b o hb e => eb b o hb e) f0 f1 f3 f4 f5⟩
 self := fun _ _ _ _ _ st h => wpAny_pyIter_rangeiter st h
section
variable {X : Cx} {tg : Expr}
theorem range_it {pins : List (Addr × Obj)} {σ : St} {H : Hp} {s : Shared} {R : It -> Hp -> Prop} {E : Value -> Shared -> Prop} {lo hi : Int} {t u v : Tok} {tk : Nat} (I : Inv X pins σ H s) (h1 : -(2 ^ 62) <= lo) (h2 : lo < 2 ^ 62) (h3 : -(2 ^ 62) <= hi) (h4 : hi < 2 ^ 62)
  (q : R (Itr lo (hi - lo).toNat) H) : wpAny (model X.prog X.w) X.A (pyIter (.ref s.heap.objs.size)) (PIE X pins σ tg R) E { s with heap := s.heap.push { cls := .type "range", data := .fields #[.int lo t, .int hi u, .int 1 v] }, toks := tk } := by
 refine wpAny_pyIter_range (IsRange.new ..) (small_one h1 h2 h3 h4) ?_
 have I1 : Inv X pins σ H { s with heap := s.heap.push { cls := .type "range", data := .fields #[.int lo t, .int hi u, .int 1 v] }, toks := tk } := I.kept fun b o e => Heap.get?_push_of_some _ e
 refine ⟨(s.heap.push { cls := .type "range", data := .fields #[.int lo t, .int hi u, .int 1 v] }).objs.size, [(s.heap.push { cls := .type "range", data := .fields #[.int lo t, .int hi u, .int 1 v] }).objs.size], _, _, H, rfl,
  I1.kept (t' := tk) fun b o e => Heap.get?_push_of_some _ e, turn_range _ lo (hi - lo).toNat, ?_, fun b hb => ?_, q⟩
 ·have e1 : lo + ((0 : Nat) : Int) * 1 = lo := by simp
  have e2 : (((hi - lo).toNat : Nat) : Int) - ((0 : Nat) : Int) = Builtin.Range.rangeSize lo hi 1 := by rw [rangeSize_one]; split <;> lia
  show IsRangeIter _ _ (lo + ((0 : Nat) : Int) * 1) ((((hi - lo).toNat : Nat) : Int) - ((0 : Nat) : Int)) 1
  rw [e1, e2]
  exact Heap.get?_push_size _ rfl
 ·have e : b = (s.heap.push { cls := .type "range", data := .fields #[.int lo t, .int hi u, .int 1 v] }).objs.size := by simpa using hb
  subst e
  exact I1.fpOk (Nat.le_refl _) (I1.hok.fresh (Nat.le_refl _))
noncomputable def iRng1 (ta : TA) : TI := fun σ H R => ta σ H fun vs H1 => ∃ j : Int, vs = [.int j] /\ -(2 ^ 62) <= j /\ j < 2 ^ 62 /\ R (Itr 0 j.toNat) H1
theorem pi_range1 {a : Expr} {ta : TA} {p pos : Pos} (hg : Gl X "range") (hm : X.mg "range" = none) (ha : PA X [a] ta) (hs : starEach [a] X.env = [(false, eval a X.env)] := by rfl) : PI X tg (.Call (.Name "range" p) [a] [] pos) (iRng1 ta) := by
 intro pins s σ H R I h
 refine Call_ (Zb9 I hg hm boot_range (PyProof.Rows.callWith_type1 (thn (ha pos pins s σ H _ I h) fun us s1 ⟨vs, H1, I1, r1, q1⟩ => ?_) hs rfl))
 obtain ⟨j, e, q1, q2, q⟩ := q1
 subst e
 cases r1 with
 | cons r rr =>
  cases rr
  obtain ⟨t, rfl⟩ := r
  exact call_range_1 (range_it I1 (by lia) (by lia) q1 q2 (by simpa using q))
noncomputable def tFor (wi : TI) (g : TG) (tb : TS) : TS := fun D σ H => wi σ H fun J H1 => ∃ W : Nat -> Nat -> St -> Hp -> Prop, (∃ m, W 0 m σ H1) /\ ∀ i m σ H, W i m σ H ->
 (J.stop i H /\ D.nx σ H) \/ (J.go i H /\ ∃ N : St -> Hp -> Prop, (∀ σ' H', N σ' H' -> ∃ m', m' < m /\ W (i + 1) m' σ' H') /\ ∀ x H', J.yld i H x H' -> g x σ H' fun σ2 H2 => tb { D with nx := N, ct := N, bk := D.nx } σ2 H2)
noncomputable def pinsAt (fp : List Addr) (h : Heap) : List (Addr × Obj) := fp.filterMap fun b => (h.get? b).map fun o => (b, o)
theorem Zbg {fp : List Addr} {h : Heap} {b : Addr} {o : Obj} (hb : b ∈ fp) (e : h.get? b = some o) : (b, o) ∈ pinsAt fp h := List.mem_filterMap.mpr ⟨b, hb, by rw [e]; rfl⟩
theorem of_pinsAt {fp : List Addr} {h : Heap} {p : Addr × Obj} (hp : p ∈ pinsAt fp h) : p.1 ∈ fp /\ h.get? p.1 = some p.2 := by
 obtain ⟨b, hb, e⟩ := List.mem_filterMap.mp hp
 cases q : h.get? b with
 | none => rw [q] at e; cases e
 | some o =>
  rw [q] at e
  have e' : (b, o) = p := Option.some.inj e
  subst e'
  exact ⟨hb, q⟩
theorem Inv.pinned {pins : List (Addr × Obj)} {σ : St} {H : Hp} {s : Shared} {fp : List Addr} (I : Inv X pins σ H s) (hf : ∀ b ∈ fp, FpOk X pins H b) (ho : ∀ b ∈ fp, ∃ o, s.heap.get? b = some o /\ ∀ v, o.data ≠ .cell v) : Inv X (pins ++ pinsAt fp s.heap) σ H s :=
 I.pins_of fun p hp => (List.mem_append.mp hp).elim (fun z => I.pin p (List.mem_append_right _ z)) fun z => by
  obtain ⟨hb, e⟩ := of_pinsAt z
  obtain ⟨f0, f1, f2, _⟩ := hf p.1 hb
  obtain ⟨o, e', d⟩ := ho p.1 hb
  rw [e] at e'; cases e'
  exact ⟨e, f0, f1, f2, d⟩
theorem Inv.unpinned {pins pl : List (Addr × Obj)} {σ : St} {H : Hp} {s : Shared} (I : Inv X (pins ++ pl) σ H s) : Inv X pins σ H s := I.pins_of fun p hp => I.pin p (List.mem_append_right _ (List.mem_append_left _ hp))
theorem ps_for {iter : Expr} {body : List Stmt} {wi : TI} {g : TG} {tb : TS} {pos : Pos} (hp : PassesOwn (model X.prog X.w) X.A X.env X.xe) (hc : X.calm = true) (hi : PI X tg iter wi) (hg : PG X tg g) (hb : PSs X body tb)
  (hs : ∀ x, foldedSetIterable iter X.env x = pure x := by intro _; rfl) : PS X (.For tg iter body [] pos) (tFor wi g tb) := by
 intro pins s σ H D I h
 refine wpAny_For (thn (hi pins s σ H _ I h) fun v s1 h1 => thn h1 fun itv s2 h2 => ?_) hs
 obtain ⟨it, fp, tn, J, H2, e, I2, T, st2, f2, W, ⟨m0, w0⟩, turn⟩ := h2
 subst e
 have stat : ∀ {H' : Hp}, (∀ b ∈ fp, H' b = none) -> ∀ b ∈ fp, FpOk X pins H' b := fun hn b hb => ⟨hn b hb, (f2 b hb).2⟩
 refine codeAny_forLoop_any (fun n s' => ∃ i σ' H', Inv X pins σ' H' s' /\ tn i s'.heap /\ (∀ b ∈ fp, H' b = none) /\ W i n σ' H') ?_ m0 ⟨0, σ, H2, I2, st2, fun b hb => (f2 b hb).1, w0⟩
 rintro n s3 ⟨i, σ3, H3, I3, st3, fr3, w3⟩
 rcases turn i n σ3 H3 w3 with ⟨stop, qn⟩ | ⟨go, N, hN, step⟩
 ·refine wpAny_passesOwn hp (thn (T.done X rfl rfl rfl hc i pins s3 σ3 H3 X.xe I3 (stat fr3) st3 stop) fun r s4 h_ => ?_)
  obtain ⟨hr, I4⟩ := h_
  subst hr
  exact wpAny_execs_nil ⟨σ3, H3, I4, qn⟩
 ·refine wpAny_passesOwn hp (thn (T.item X rfl rfl rfl hc i pins s3 σ3 H3 X.xe I3 (stat fr3) st3 go) fun r s4 h_ => ?_)
  obtain ⟨u, hr, h4⟩ := h_
  subst hr
  refine wpAny_passesOwn hp (thn h4 fun _ s5 h_ => ?_)
  obtain ⟨x, H5, I5, r5, y5, st5, fr5⟩ := h_
  have I5' := I5.pinned (stat fr5) (T.obj _ _ st5)
  refine wpAny_passesOwn hp (thn (hg _ s5 σ3 H5 x u _ I5' r5 (step x H5 y5)) fun _ s6 h_ => ?_)
  obtain ⟨σ6, H6, I6, q6⟩ := h_
  refine wpAny_passesOwn hp (thn (hb _ s6 σ6 H6 _ I6 q6) fun f s7 q7 => ?_)
  have again : ∀ {σ7 : St} {H7 : Hp}, Inv X (pins ++ pinsAt fp s5.heap) σ7 H7 s7 -> N σ7 H7 -> ∃ m, m < n /\ ∃ i σ' H', Inv X pins σ' H' s7 /\ tn i s7.heap /\ (∀ b ∈ fp, H' b = none) /\ W i m σ' H' := fun {σ7 H7} I7 n7 => by
   obtain ⟨m', hm, w7⟩ := hN σ7 H7 n7
   refine ⟨m', hm, i + 1, σ7, H7, I7.unpinned, T.keep _ _ _ st5 fun b hb o e => (I7.pin (b, o) (List.mem_append_right _ (List.mem_append_right _ (Zbg hb e)))).1, fun b hb => ?_, w7⟩
   obtain ⟨o, e, d⟩ := T.obj _ _ st5 b hb
   exact (I7.pin (b, o) (List.mem_append_right _ (List.mem_append_right _ (Zbg hb e)))).2.1
  cases f with
  | next => obtain ⟨σ7, H7, I7, n7⟩ := q7; exact again I7 n7
  | cont => obtain ⟨σ7, H7, I7, n7⟩ := q7; exact again I7 n7
  | brk => obtain ⟨σ7, H7, I7, q7⟩ := q7; exact ⟨σ7, H7, I7.unpinned, q7⟩
  | ret v => obtain ⟨x7, σ7, H7, I7, r7, q7⟩ := q7; exact ⟨x7, σ7, H7, I7.unpinned, r7, q7⟩
end
noncomputable abbrev R2 := V -> V -> Hp -> VK -> Prop
noncomputable def OpR (X : Cx) (f : Value -> Value -> Sem Value) (r : R2) : Prop :=
 ∀ (pins : List (Addr × Obj)) (s : Shared) (σ : St) (H : Hp) (x y : V) (v u : Value) (Q : VK), Inv X pins σ H s -> RelV x v -> RelV y u -> r x y H Q ->
  wpAny (model X.prog X.w) X.A (f v u) (EP X pins σ Q) X.xe s
noncomputable def CallR (X : Cx) (f : Value) (r : List V -> Hp -> VK -> Prop) : Prop :=
 ∀ (pins : List (Addr × Obj)) (s : Shared) (σ : St) (H : Hp) (xs : List V) (us : List Value) (Q : VK), Inv X pins σ H s -> Vals xs us -> r xs H Q ->
  wpAny (model X.prog X.w) X.A (call f us) (EP X pins σ Q) X.xe s
noncomputable def TruR (X : Cx) (r : V -> Hp -> (Bool -> Hp -> Prop) -> Prop) : Prop :=
 ∀ (pins : List (Addr × Obj)) (s : Shared) (σ : St) (H : Hp) (x : V) (v : Value) (Q : Bool -> Hp -> Prop), Inv X pins σ H s -> RelV x v -> r x H Q ->
  wpAny (model X.prog X.w) X.A (truthy v) (TP X pins σ Q) X.xe s
noncomputable def tOp (r : R2) (ta tb : TE) : TE := fun σ H Q => ta σ H fun x H1 => tb σ H1 fun y H2 => r x y H2 Q
noncomputable def rI (C : Int -> Int -> Prop) (g : Int -> Int -> V) : R2 := fun x y H Q => ∃ i j, x = .int i /\ y = .int j /\ C i j /\ Q (g i j) H
noncomputable def rI0 (g : Int -> Int -> V) : R2 := fun x y H Q => ∃ i j, x = .int i /\ y = .int j /\ Q (g i j) H
section
variable {X : Cx} {a b c : Expr} {ta tb tc : TE} {pos : Pos}
theorem binT (ha : PE X a ta) (hb : PE X b tb) {pins : List (Addr × Obj)} {s : Shared} {σ : St} {H : Hp} {R : V -> V -> Hp -> Prop} (I : Inv X pins σ H s)
  (h : ta σ H fun x H1 => tb σ H1 fun y H2 => R x y H2) {Q : Value -> Shared -> Prop} {f : Value -> Value -> Sem Value}
  (hf : ∀ v u s2 x y H2, Inv X pins σ H2 s2 -> RelV x v -> RelV y u -> R x y H2 -> wpAny (model X.prog X.w) X.A (f v u) Q X.xe s2) :
  wpAny (model X.prog X.w) X.A (eval a X.env) (fun v s₁ => wpAny (model X.prog X.w) X.A (eval b X.env) (fun u s₂ => wpAny (model X.prog X.w) X.A (f v u) Q X.xe s₂) X.xe s₁) X.xe s := by
 refine thn (ha pins s σ H _ I h) fun v s1 h_ => ?_
 obtain ⟨x, H1, I1, r1, q1⟩ := h_
 refine thn (hb pins s1 σ H1 _ I1 q1) fun u s2 h_ => ?_
 obtain ⟨y, H2, I2, r2, q2⟩ := h_
 exact hf v u s2 x y H2 I2 r1 r2 q2
theorem pe_op {op : Operator} {r : R2} (ho : OpR X (binaryOp op) r) (ha : PE X a ta) (hb : PE X b tb) : PE X (.BinOp a op b pos) (tOp r ta tb) := by
 intro pins s σ H Q I h
 exact wpAny_BinOp (binT ha hb I h fun v u s2 x y H2 I2 rx ry q => ho pins s2 σ H2 x y v u Q I2 rx ry q)
theorem opI {f : Value -> Value -> Sem Value} {C : Int -> Int -> Prop} {g : Int -> Int -> Int}
  (rule : ∀ (i j : Int) (t u : Tok) (s : Shared) (Q : Value -> Shared -> Prop) (E : Value -> Shared -> Prop), C i j -> Q (.int (g i j) s.toks) { s with toks := s.toks + 1 } -> wpAny (model X.prog X.w) X.A (f (.int i t) (.int j u)) Q E s) :
  OpR X f (rI C fun i j => .int (g i j)) := by
 intro pins s σ H x y v u Q I rx ry h
 obtain ⟨i, j, rfl, rfl, hc, q⟩ := h
 obtain ⟨t, rfl⟩ := rx
 obtain ⟨t', rfl⟩ := ry
 exact rule i j t t' s _ _ hc ⟨.int (g i j), H, I.tok _, ⟨_, rfl⟩, q⟩
theorem opI0 {f : Value -> Value -> Sem Value} {g : Int -> Int -> Int}
  (rule : ∀ (i j : Int) (t u : Tok) (s : Shared) (Q : Value -> Shared -> Prop) (E : Value -> Shared -> Prop), Q (.int (g i j) s.toks) { s with toks := s.toks + 1 } -> wpAny (model X.prog X.w) X.A (f (.int i t) (.int j u)) Q E s) :
  OpR X f (rI0 fun i j => .int (g i j)) := by
 intro pins s σ H x y v u Q I rx ry h
 obtain ⟨i, j, rfl, rfl, q⟩ := h
 obtain ⟨t, rfl⟩ := rx
 obtain ⟨t', rfl⟩ := ry
 exact rule i j t t' s _ _ ⟨.int (g i j), H, I.tok _, ⟨_, rfl⟩, q⟩
theorem opB0 {f : Value -> Value -> Sem Value} {g : Int -> Int -> Bool}
  (rule : ∀ (i j : Int) (t u : Tok) (s : Shared) (Q : Value -> Shared -> Prop) (E : Value -> Shared -> Prop), Q (.bool (g i j)) s -> wpAny (model X.prog X.w) X.A (f (.int i t) (.int j u)) Q E s) :
  OpR X f (rI0 fun i j => .bl (g i j)) := by
 intro pins s σ H x y v u Q I rx ry h
 obtain ⟨i, j, rfl, rfl, q⟩ := h
 obtain ⟨t, rfl⟩ := rx
 obtain ⟨t', rfl⟩ := ry
 exact rule i j t t' s _ _ ⟨.bl (g i j), H, I, rfl, q⟩
noncomputable def CDiv (i j : Int) : Prop := 0 < j /\ j < 1073741824
noncomputable def CPow (i j : Int) : Prop := 0 <= j /\ j <= 1000000 /\ i.natAbs < 2 ^ 64
noncomputable def CMul (i j : Int) : Prop := (-(2 ^ 64) < i /\ i < 2 ^ 64) \/ (-(2 ^ 64) < j /\ j < 2 ^ 64)
theorem CMul.ok {i j : Int} (h : CMul i j) : IntMulOk i j := by
 rcases h with ⟨h1, h2⟩ | ⟨h1, h2⟩
 ·exact .of_left (intBits_le_64 h1 h2)
 ·exact .of_right (intBits_le_64 h1 h2)
theorem op_add : OpR X (binaryOp .Add) (rI0 fun i j => .int (i + j)) := opI0 fun _ _ _ _ _ _ _ q => add_int q
theorem op_sub : OpR X (binaryOp .Sub) (rI0 fun i j => .int (i - j)) := opI0 fun _ _ _ _ _ _ _ q => sub_int q
theorem op_mul : OpR X (binaryOp .Mult) (rI CMul fun i j => .int (i * j)) := opI fun _ _ _ _ _ _ _ hc q => mul_int q hc.ok
theorem op_fdiv : OpR X (binaryOp .FloorDiv) (rI CDiv fun i j => .int (i / j)) := opI fun i j _ _ _ _ _ hc q => by
 have h1 : (0 : Int) < j := hc.1
 have h2 : j < 1073741824 := hc.2
 exact floordiv_int (by lia) (by rw [Int.fdiv_eq_ediv_of_nonneg i (by lia)]; exact q) (.inl (PyProof.noPylong_small (by lia)))
theorem op_mod : OpR X (binaryOp .Mod) (rI (fun _ j => 0 < j) fun i j => .int (i % j)) := opI fun i j _ _ _ _ _ hc q => by
 have h1 : (0 : Int) < j := hc
 exact mod_int' (by lia) (by rw [Int.fmod_eq_emod_of_nonneg i (by lia)]; exact q)
theorem op_pow : OpR X (binaryOp .Pow) (rI CPow fun i j => .int (i ^ j.toNat)) := opI fun _ _ _ _ _ _ _ hc q => pow_int_small hc.1 hc.2.1 hc.2.2 q
end
noncomputable def scal : V -> V -> Bool
 | .non, .non => true | .non, .int _ => true | .int _, .non => true | .non, .bl _ => true | .bl _, .non => true | .non, .str _ => true | .str _, .non => true
 | .int _, .int _ => true | .bl _, .bl _ => true | .str _, .str _ => true | .byt _, .byt _ => true
 | .int _, .str _ => true | .str _, .int _ => true | .bl _, .str _ => true | .str _, .bl _ => true
 | _, _ => false
noncomputable def rEq : R2 := fun x y H Q => scal x y = true /\ Q (.bl (decide (x = y))) H
noncomputable def rNe : R2 := fun x y H Q => scal x y = true /\ Q (.bl (!decide (x = y))) H
theorem dec_int {i j : Int} : decide (V.int i = V.int j) = (i == j) := by
 rw [Bool.eq_iff_iff]
 simp
theorem dec_bl {i j : Bool} : decide (V.bl i = V.bl j) = (i == j) := by
 rw [Bool.eq_iff_iff]
 simp
theorem dec_str {i j : Str} : decide (V.str i = V.str j) = (i == j) := by
 rw [Bool.eq_iff_iff]
 simp
theorem dec_byt {i j : Array UInt8} : decide (V.byt i = V.byt j) = (i.toList == j.toList) := by
 rw [Bool.eq_iff_iff]
 cases i
 cases j
 simp
section
variable {X : Cx} {a b c : Expr} {ta tb tc : TE} {pos : Pos}
theorem Zaw {pins : List (Addr × Obj)} {σ : St} {H : Hp} {s : Shared} {Q : VK} {k k' : Bool} (I : Inv X pins σ H s) (q : Q (.bl k) H) (e : k = k') : EP X pins σ Q (.bool k') s := by
 subst e
 exact ⟨.bl k, H, I, rfl, q⟩
theorem Zb1 : OpR X (compareOp .Eq) rEq := by
 intro pins s σ H x y v u Q I rx ry h
 obtain ⟨hs, q⟩ := h
 cases x with
 | non =>
  cases rx
  cases y with
  | non => cases ry; exact PySem.EqNone.eq_none_none (Zaw I q (by simp))
  | bl j => cases ry; exact PySem.EqNone.eq_none_bool (Zaw I q (by simp))
  | int j => obtain ⟨t', rfl⟩ := ry; exact PySem.EqNone.eq_none_int (Zaw I q (by simp))
  | str j => obtain ⟨t', rfl⟩ := ry; exact PySem.EqNone.eq_none_str (Zaw I q (by simp))
  | _ => exact absurd (show false = true from hs) Bool.false_ne_true
 | bl i =>
  cases rx
  cases y with
  | non => cases ry; exact PySem.EqNone.eq_bool_none (Zaw I q (by simp))
  | bl j => cases ry; exact eq_bool (Zaw I q dec_bl)
  | str j => obtain ⟨t', rfl⟩ := ry; exact PySem.EqMixed.eq_bool_str (Zaw I q (by simp))
  | _ => exact absurd (show false = true from hs) Bool.false_ne_true
 | int i =>
  obtain ⟨t, rfl⟩ := rx
  cases y with
  | non => cases ry; exact PySem.EqNone.eq_int_none (Zaw I q (by simp))
  | int j => obtain ⟨t', rfl⟩ := ry; exact eq_int (Zaw I q dec_int)
  | str j => obtain ⟨t', rfl⟩ := ry; exact PySem.EqMixed.eq_int_str (Zaw I q (by simp))
  | _ => exact absurd (show false = true from hs) Bool.false_ne_true
 | str i =>
  obtain ⟨t, rfl⟩ := rx
  cases y with
  | non => cases ry; exact PySem.EqNone.eq_str_none (Zaw I q (by simp))
  | bl j => cases ry; exact PySem.EqMixed.eq_str_bool (Zaw I q (by simp))
  | int j => obtain ⟨t', rfl⟩ := ry; exact PySem.EqMixed.eq_str_int (Zaw I q (by simp))
  | str j => obtain ⟨t', rfl⟩ := ry; exact eq_str (Zaw I q dec_str)
  | _ => exact absurd (show false = true from hs) Bool.false_ne_true
 | byt i =>
  obtain ⟨t, rfl⟩ := rx
  cases y with
  | byt j => obtain ⟨t', rfl⟩ := ry; exact W.eq_bytes (Zaw I q dec_byt)
  | _ => exact absurd (show false = true from hs) Bool.false_ne_true
 | _ => cases y <;> exact absurd (show false = true from hs) Bool.false_ne_true
theorem op_ne : OpR X (compareOp .NotEq) rNe := by
 intro pins s σ H x y v u Q I rx ry h
 obtain ⟨hs, q⟩ := h
 cases x with
 | non =>
  cases rx
  cases y with
  | non => cases ry; exact PySem.EqNone.ne_none_none (Zaw I q (by simp))
  | bl j => cases ry; exact PySem.EqNone.ne_none_bool (Zaw I q (by simp))
  | int j => obtain ⟨t', rfl⟩ := ry; exact PySem.EqNone.ne_none_int (Zaw I q (by simp))
  | str j => obtain ⟨t', rfl⟩ := ry; exact PySem.EqNone.ne_none_str (Zaw I q (by simp))
  | _ => exact absurd (show false = true from hs) Bool.false_ne_true
 | bl i =>
  cases rx
  cases y with
  | non => cases ry; exact PySem.EqNone.ne_bool_none (Zaw I q (by simp))
  | bl j => cases ry; exact ne_bool (Zaw I q (congrArg not dec_bl))
  | str j => obtain ⟨t', rfl⟩ := ry; exact PySem.EqMixed.ne_bool_str (Zaw I q (by simp))
  | _ => exact absurd (show false = true from hs) Bool.false_ne_true
 | int i =>
  obtain ⟨t, rfl⟩ := rx
  cases y with
  | non => cases ry; exact PySem.EqNone.ne_int_none (Zaw I q (by simp))
  | int j => obtain ⟨t', rfl⟩ := ry; exact ne_int (Zaw I q (congrArg not dec_int))
  | str j => obtain ⟨t', rfl⟩ := ry; exact PySem.EqMixed.ne_int_str (Zaw I q (by simp))
  | _ => exact absurd (show false = true from hs) Bool.false_ne_true
 | str i =>
  obtain ⟨t, rfl⟩ := rx
  cases y with
  | non => cases ry; exact PySem.EqNone.ne_str_none (Zaw I q (by simp))
  | bl j => cases ry; exact PySem.EqMixed.ne_str_bool (Zaw I q (by simp))
  | int j => obtain ⟨t', rfl⟩ := ry; exact PySem.EqMixed.ne_str_int (Zaw I q (by simp))
  | str j => obtain ⟨t', rfl⟩ := ry; exact ne_str (Zaw I q (congrArg not dec_str))
  | _ => exact absurd (show false = true from hs) Bool.false_ne_true
 | byt i =>
  obtain ⟨t, rfl⟩ := rx
  cases y with
  | byt j => obtain ⟨t', rfl⟩ := ry; exact W.ne_bytes (Zaw I q (congrArg not dec_byt))
  | _ => exact absurd (show false = true from hs) Bool.false_ne_true
 | _ => cases y <;> exact absurd (show false = true from hs) Bool.false_ne_true
theorem op_lt : OpR X (compareOp .Lt) (rI0 fun i j => .bl (decide (i < j))) := opB0 fun _ _ _ _ _ _ _ q => lt_int q
theorem Zbv : OpR X (compareOp .LtE) (rI0 fun i j => .bl (decide (i <= j))) := opB0 fun _ _ _ _ _ _ _ q => le_int q
theorem op_gt : OpR X (compareOp .Gt) (rI0 fun i j => .bl (decide (j < i))) := opB0 fun _ _ _ _ _ _ _ q => gt_int q
theorem op_ge : OpR X (compareOp .GtE) (rI0 fun i j => .bl (decide (j <= i))) := opB0 fun _ _ _ _ _ _ _ q => ge_int q
theorem op_in_str : OpR X (compareOp .In) (fun x y H Q => ∃ i j, x = .str i /\ y = .str j /\ Q (.bl (!(Builtin.Str.occurrences j i 0 j.length 1).isEmpty)) H) := by
 intro pins s σ H x y v u Q I rx ry h
 obtain ⟨i, j, rfl, rfl, q⟩ := h
 obtain ⟨t, rfl⟩ := rx
 obtain ⟨t', rfl⟩ := ry
 exact in_str (Zaw I q rfl)
theorem nomark (b : Expr) {op : CmpOp} (h : op ≠ .In := by decide) (h2 : op ≠ .NotIn := by decide) : behindInMarks op b = false := by
 have e1 : (op == CmpOp.In) = false := by cases op <;> first | rfl | exact absurd rfl h
 have e2 : (op == CmpOp.NotIn) = false := by cases op <;> first | rfl | exact absurd rfl h2
 cases b <;> simp [behindInMarks, e1, e2]
theorem pe_cmpR {op : CmpOp} {r : R2} (ho : OpR X (compareOp op) r) (ha : PE X a ta) (hb : PE X b tb) (hm : behindInMarks op b = false) : PE X (.Compare a [op] [b] pos) (tOp r ta tb) := by
 intro pins s σ H Q I h
 exact wpAny_Compare1 (binT ha hb I h fun v u s2 x y H2 I2 rx ry q => ho pins s2 σ H2 x y v u Q I2 rx ry q) hm
noncomputable def tTest (t : TE) : TT := fun σ H Q => t σ H fun x H' => ∃ k, x = .bl k /\ Q k H'
theorem pt_cmpR {op : CmpOp} {r : R2} (ho : OpR X (compareOp op) r) (ha : PE X a ta) (hb : PE X b tb) (hm : behindInMarks op b = false) : PT X (.Compare a [op] [b] pos) (tTest (tOp r ta tb)) := by
 intro pins s σ H Q I h
 refine wpAny_isTrue_Compare1 (thn (ha pins s σ H _ I h) fun v s1 ⟨x, H1, I1, r1, q1⟩ => thn (hb pins s1 σ H1 _ I1 q1) fun u s2 ⟨y, H2, I2, r2, q2⟩ =>
  thn (ho pins s2 σ H2 x y v u _ I2 r1 r2 q2) fun c s3 ⟨z, H3, I3, r3, k, e, q3⟩ => ?_) hm
 subst e
 cases r3
 exact wpAny_truthy_bool ⟨H3, I3, q3⟩
noncomputable def tChain (r r' : R2) (ta tb tc : TE) : TE := fun σ H Q => ta σ H fun x H1 => tb σ H1 fun y H2 => r x y H2 fun z H3 => ∃ k, z = .bl k /\
 (if k = true then tc σ H3 fun w' H4 => r' y w' H4 Q else Q (.bl false) H3)
theorem pe_chain {op op' : CmpOp} {r r' : R2} (ho : OpR X (compareOp op) r) (ho' : OpR X (compareOp op') r') (ha : PE X a ta) (hb : PE X b tb) (hc : PE X c tc)
  (hm : lastMarks [op, op'] [b, c] = false := by with_unfolding_all rfl) : PE X (.Compare a [op, op'] [b, c] pos) (tChain r r' ta tb tc) := by
 intro pins s σ H Q I h
 refine Compare_chain (thn (ha pins s σ H _ I h) fun v s1 ⟨x, H1, I1, r1, q1⟩ => chain_link (thn (hb pins s1 σ H1 _ I1 q1) fun u s2 ⟨y, H2, I2, r2, q2⟩ =>
  thn (ho pins s2 σ H2 x y v u _ I2 r1 r2 q2) fun d s3 ⟨z, H3, I3, r3, k, e, q3⟩ => ?_)) hm
 subst e
 cases r3
 refine wpAny_truthy_bool ?_
 cases k with
 | false => exact ite_ff ⟨.bl false, H3, I3, rfl, q3⟩
 | true => exact ite_tt (chain_last (thn (hc pins s3 σ H3 _ I3 q3) fun w' s4 ⟨z', H4, I4, r4, q4⟩ => ho' pins s4 σ H4 y z' u w' Q I4 r2 r4 q4))
theorem pt_chain {op op' : CmpOp} {r r' : R2} (ho : OpR X (compareOp op) r) (ho' : OpR X (compareOp op') r') (ha : PE X a ta) (hb : PE X b tb) (hc : PE X c tc)
  (hm : lastMarks [op, op'] [b, c] = false := by with_unfolding_all rfl) : PT X (.Compare a [op, op'] [b, c] pos) (tTest (tChain r r' ta tb tc)) := by
 intro pins s σ H Q I h
 refine isTrue_chain (thn (ha pins s σ H _ I h) fun v s1 ⟨x, H1, I1, r1, q1⟩ => test_link (thn (hb pins s1 σ H1 _ I1 q1) fun u s2 ⟨y, H2, I2, r2, q2⟩ =>
  thn (ho pins s2 σ H2 x y v u _ I2 r1 r2 q2) fun d s3 ⟨z, H3, I3, r3, k, e, q3⟩ => ?_)) hm
 subst e
 cases r3
 refine wpAny_truthy_bool ?_
 cases k with
 | false =>
  obtain ⟨k', e', q'⟩ := q3
  cases e'
  exact ite_ff ⟨H3, I3, q'⟩
 | true =>
  refine ite_tt (test_last (thn (hc pins s3 σ H3 _ I3 q3) fun w' s4 ⟨z', H4, I4, r4, q4⟩ => thn (ho' pins s4 σ H4 y z' u w' _ I4 r2 r4 q4) fun d' s5 h_ => ?_))
  obtain ⟨z2, H5, I5, r5, k2, e2, q5⟩ := h_
  subst e2
  cases r5
  exact wpAny_truthy_bool ⟨H5, I5, q5⟩
noncomputable def TruV (K : W.Frag) (x : V) (H : Hp) (k : Bool) : Prop :=
 match x with
 | .non => k = false
 | .bl b => k = b
 | .int i => k = (i != 0)
 | .str y => y.length <= sizeLine /\ k = ((y.length : Int) != 0)
 | .byt y => y.size <= sizeLine /\ k = ((y.size : Int) != 0)
 | .ref p => (∃ xs, SqL K H p xs /\ k = !xs.isEmpty) \/ (∃ xs, SqT K H p xs /\ k = !xs.isEmpty) \/ ∃ kvs, H p = some (.dK kvs) /\ k = !kvs.isEmpty
 | _ => False
theorem isEmpty_kv {κ : Type} {kvs : List (κ × V)} {vs : List (κ × Value)} (r : KV kvs vs) : (!vs.isEmpty) = !kvs.isEmpty := by
 cases r <;> rfl
theorem Zcc {xs : List V} {its : List Value} (r : Vals xs its) : (!its.toArray.isEmpty) = !xs.isEmpty := by
 cases r <;> simp
theorem line63 : (sizeLine : Nat) < 2 ^ 63 := by rw [sizeLine_eq]; decide
theorem tru_ok : TruR X (fun x H Q => ∃ k, TruV X.K x H k /\ Q k H) := by
 intro pins s σ H x v Q I rx h
 obtain ⟨k, e, q⟩ := h
 have hl := line63
 have hs : sizeLine = 16777216 := sizeLine_eq
 cases x with
 | non =>
  cases rx
  have e' : k = false := e
  subst e'
  exact truthy_none ⟨H, I, q⟩
 | bl b =>
  cases rx
  have e' : k = b := e
  subst e'
  exact wpAny_truthy_bool ⟨H, I, q⟩
 | int i =>
  obtain ⟨t, rfl⟩ := rx
  have e' : k = (i != 0) := e
  subst e'
  exact PySem.P.truthy_int ⟨H, I, q⟩
 | str y =>
  obtain ⟨t, rfl⟩ := rx
  obtain ⟨hy, e'⟩ : y.length <= sizeLine /\ k = ((y.length : Int) != 0) := e
  subst e'
  exact PySem.P.truthy_str (by lia) ⟨H, I.tok _, q⟩
 | byt y =>
  obtain ⟨t, rfl⟩ := rx
  obtain ⟨hy, e'⟩ : y.size <= sizeLine /\ k = ((y.size : Int) != 0) := e
  subst e'
  exact W.truthy_bytes (by lia) ⟨H, I.tok _, q⟩
 | ref p =>
  cases rx
  have e' : (∃ xs, SqL X.K H p xs /\ k = !xs.isEmpty) \/ (∃ xs, SqT X.K H p xs /\ k = !xs.isEmpty) \/ ∃ kvs, H p = some (.dK kvs) /\ k = !kvs.isEmpty := e
  rcases e' with ⟨xs, hx, e'⟩ | ⟨xs, hx, e'⟩ | ⟨kvs, hx, e'⟩
  ·subst e'
   obtain ⟨its, r, pl, hz⟩ := I.list hx
   have hlen := r.length
   exact wpAny_truthy_list pl.isList (by simp only [List.size_toArray]; lia) ⟨H, I.tok _, by rw [Zcc r]; exact q⟩
  ·subst e'
   obtain ⟨its, r, pl, hz⟩ := I.tuple hx
   have hlen := r.length
   exact truthy_tuple pl (by simp only [List.size_toArray]; lia) ⟨H, I.tok _, by rw [Zcc r]; exact q⟩
  ·subst e'
   obtain ⟨hz, hS, vs, r, m⟩ : kvs.length <= sizeLine /\ (p == sysModules) = false /\ ∃ vs, KV kvs vs /\ s.heap.DictOf (mixKind X.prog X.w) p vs := I.hok p _ hx
   have hlen : kvs.length = vs.length := Paired.length r
   exact wpAny_truthy_dict hS m (by lia) ⟨H, I.tok _, by rw [isEmpty_kv r]; exact q⟩
 | _ => exact (show False from e).elim
theorem pt_truth (ha : PE X a ta) (he : ∀ whole, isTrue a X.env whole = (do let v ← whole; standAt a.pos; holding [v] (truthy v))) :
  PT X a (fun σ H Q => ta σ H fun x H' => ∃ k, TruV X.K x H' k /\ Q k H') := by
 intro pins s σ H Q I h
 exact isTrue_plain (thn (ha pins s σ H _ I h) fun v s1 ⟨x, H1, I1, r1, q1⟩ => tru_ok pins s1 σ H1 x v Q I1 r1 q1) (he _)
theorem op_add_str : OpR X (binaryOp .Add) (fun x y H Q => ∃ i j, x = .str i /\ y = .str j /\ i.length + j.length <= sizeLine /\ Q (.str (i ++ j)) H) := by
 intro pins s σ H x y v u Q I rx ry h
 obtain ⟨i, j, rfl, rfl, hz, q⟩ := h
 obtain ⟨t, rfl⟩ := rx
 obtain ⟨t', rfl⟩ := ry
 exact add_str (fun t' tk => ⟨.str (i ++ j), H, I.tok _, ⟨_, rfl⟩, q⟩) hz
theorem vals1 {x : V} {us : List Value} (r : Vals [x] us) : ∃ u, us = [u] /\ RelV x u := by
 cases r with
 | cons r1 r2 => cases r2; exact ⟨_, rfl, r1⟩
theorem vals2 {x y : V} {us : List Value} (r : Vals [x, y] us) : ∃ u w', us = [u, w'] /\ RelV x u /\ RelV y w' := by
 cases r with
 | cons r1 r2 =>
  cases r2 with
  | cons r3 r4 => cases r4; exact ⟨_, _, rfl, r1, r3⟩
theorem call_max2 (hc : X.calm = true) : CallR X (.builtin "max") (fun xs H Q => ∃ i j, xs = [.int i, .int j] /\ Q (.int (if j > i then j else i)) H) := by
 intro pins s σ H xs us Q I r h
 obtain ⟨i, j, rfl, q⟩ := h
 obtain ⟨u, w', rfl, ⟨t, rfl⟩, ⟨t', rfl⟩⟩ := vals2 r
 refine max_two_ints (I.ok.hd hc) fun h' tk k => ⟨_, H, I.kept k, ?_, q⟩
 by_cases hj : j > i
 ·rw [if_pos hj, if_pos hj]; exact ⟨_, rfl⟩
 ·rw [if_neg hj, if_neg hj]; exact ⟨_, rfl⟩
theorem call_min2 (hc : X.calm = true) : CallR X (.builtin "min") (fun xs H Q => ∃ i j, xs = [.int i, .int j] /\ Q (.int (if j < i then j else i)) H) := by
 intro pins s σ H xs us Q I r h
 obtain ⟨i, j, rfl, q⟩ := h
 obtain ⟨u, w', rfl, ⟨t, rfl⟩, ⟨t', rfl⟩⟩ := vals2 r
 refine min_two_ints (I.ok.hd hc) fun h' tk k => ⟨_, H, I.kept k, ?_, q⟩
 by_cases hj : j < i
 ·rw [if_pos hj, if_pos hj]; exact ⟨_, rfl⟩
 ·rw [if_neg hj, if_neg hj]; exact ⟨_, rfl⟩
noncomputable def LenV (K : W.Frag) (x : V) (H : Hp) (n : Nat) : Prop :=
 match x with
 | .str y => y.length <= sizeLine /\ n = y.length
 | .byt y => y.size <= sizeLine /\ n = y.size
 | .ref p => (∃ xs, SqL K H p xs /\ n = xs.length) \/ ∃ xs, SqT K H p xs /\ n = xs.length
 | _ => False
theorem call_len : CallR X (.builtin "len") (fun xs H Q => ∃ x n, xs = [x] /\ LenV X.K x H n /\ Q (.int n) H) := by
 intro pins s σ H xs us Q I r h
 obtain ⟨x, n, rfl, e, q⟩ := h
 obtain ⟨u, rfl, rx⟩ := vals1 r
 have hl := line63
 have hs : sizeLine = 16777216 := sizeLine_eq
 cases x with
 | str y =>
  obtain ⟨t, rfl⟩ := rx
  obtain ⟨hy, e'⟩ : y.length <= sizeLine /\ n = y.length := e
  subst e'
  exact len_str (by lia) ⟨.int _, H, I.tok _, ⟨_, rfl⟩, q⟩
 | byt y =>
  obtain ⟨t, rfl⟩ := rx
  obtain ⟨hy, e'⟩ : y.size <= sizeLine /\ n = y.size := e
  subst e'
  exact W.len_bytes (by lia) ⟨.int _, H, I.tok _, ⟨_, rfl⟩, q⟩
 | ref p =>
  cases rx
  have e' : (∃ xs, SqL X.K H p xs /\ n = xs.length) \/ ∃ xs, SqT X.K H p xs /\ n = xs.length := e
  rcases e' with ⟨xs, hx, e'⟩ | ⟨xs, hx, e'⟩
  ·subst e'
   obtain ⟨its, r', pl, hz⟩ := I.list hx
   have hlen := r'.length
   exact Calls.call_len_list pl.isList (by simp only [List.size_toArray]; lia) ⟨.int xs.length, H, I.tok _, ⟨_, by simp only [List.size_toArray]; rw [hlen]⟩, q⟩
  ·subst e'
   obtain ⟨its, r', pl, hz⟩ := I.tuple hx
   have hlen := r'.length
   exact len_tuple pl (by simp only [List.size_toArray]; lia) ⟨.int xs.length, H, I.tok _, ⟨_, by simp only [List.size_toArray]; rw [hlen]⟩, q⟩
 | _ => exact (show False from e).elim
end
structure ObjM (h : Heap) (x dx C : Addr) (mA : Str -> Option Value) : Prop where
 obj : h.get? x = some (W.instObj C dx)
 ns : h.Ns1 dx mA
 ne : dx ≠ x
theorem lookIn_ns {h : Heap} {dx : Addr} {mA : Str -> Option Value} (n : h.Ns1 dx mA) : ∃ od, h.get? dx = some od /\ ∀ name, W.lookIn name od = some (mA name) := by
 obtain ⟨o, es, ep, ho, hd, hk, _, hm⟩ := n
 refine ⟨o, ho, fun name => ?_⟩
 have e := hm name
 unfold nsFind findBy at e
 rw [← Array.find?_toList] at e
 unfold W.lookIn
 rw [hd]
 dsimp only
 split
 ·rename_i y q
  rw [q] at e
  exact congrArg some e
 ·rename_i q
  rw [q] at e
  have a : es.toList.any (·.refKey) = false := by
   rw [List.any_eq_false]
   intro y hy
   obtain ⟨z, t, hkey⟩ := hk y (Array.mem_toList_iff.mp hy)
   simp [DictEntry.refKey, hkey]
  have a' : ¬ es.toList.any (·.refKey) = true := by rw [a]; exact Bool.false_ne_true
  rw [if_neg a']
  exact congrArg some e
theorem ObjM.look {h : Heap} {x dx C : Addr} {mA : Str -> Option Value} (I : ObjM h x dx C mA) : ∃ od, W.InstAt h x (W.instObj C dx) C (some od) /\ ∀ name, W.lookIn name od = some (mA name) :=
 let ⟨od, ho, hl⟩ := lookIn_ns I.ns
 ⟨od, ⟨I.obj, rfl, rfl, ho⟩, hl⟩
theorem RelO.some_of {v : V} {o : Option Value} (r : RelO (some v) o) : ∃ u, o = some u /\ RelV v u := by
 cases o with
 | none => exact (show False from r).elim
 | some u => exact ⟨u, rfl, r⟩
section
variable {P : Program} {w : World} {H H' : Hp} {h h' : Heap} {a C dx : Addr} {fs fs' : List (Str × V)}
theorem ins_get (hok : HOk P w H h) (e : H a = some (.ins C dx fs)) : ∃ mA, ObjM h a dx C mA /\ (∀ f, RelO (fs.lookup f) (mA f)) /\ PySem.Within mA (fs.map (·.1)) /\ fs.length <= 1000 /\ H dx = some (.own a) := by
 obtain ⟨d, z, ne, ob, mA, n, r, q⟩ := (show ObjOk P w H h a (.ins C dx fs) from hok a _ e)
 exact ⟨mA, ⟨ob, n, ne⟩, r, q, z, d⟩
end
structure Cls (K : W.Frag) (C : Addr) : Prop where
 pg : W.plainGet K C Str.empty = true
 hd : W.hasDictIn K C = true
 po : W.plainOver K C = true
 sa : W.findIn K (.ref C) "__setattr__" = some (some (.builtin "object.__setattr__"))
theorem Cls.get {K : W.Frag} {C : Addr} (c : Cls K C) (f : Str) : W.plainGet K C f = true := c.pg
section
variable {X : Cx} {pins : List (Addr × Obj)} {σ : St} {H : Hp} {s : Shared} {A : Around} {E : Value -> Shared -> Prop} {Q : Value -> Shared -> Prop} {c : Value} {b : Bool}
inductive TyOf (K : W.Frag) (H : Hp) : V -> Value -> Prop where
 | non : TyOf K H .non (.type "NoneType")
 | bl (x : Bool) : TyOf K H (.bl x) (.type "bool")
 | int (i : Int) : TyOf K H (.int i) (.type "int")
 | str (x : Str) : TyOf K H (.str x) (.type "str")
 | flt (x : UInt64) : TyOf K H (.flt x) (.type "float")
 | lst {a : Addr} {xs : List V} (e : H a = some (.lst xs)) : TyOf K H (.ref a) (.type "list")
 | frz {a : Addr} {o : Obj} {xs : List V} (e : H a = some (.frz o (.lst xs))) : TyOf K H (.ref a) (.type "list")
 | tup {a : Addr} {xs : List V} (e : H a = some (.tup xs)) : TyOf K H (.ref a) (.type "tuple")
 | dK {a : Addr} {kvs : List (Key × V)} (e : H a = some (.dK kvs)) : TyOf K H (.ref a) (.type "dict")
 | dT {a : Addr} {kvs : List (List Key × V)} (e : H a = some (.dT kvs)) : TyOf K H (.ref a) (.type "dict")
 | ins {a C dx : Addr} {fs : List (Str × V)} (e : H a = some (.ins C dx fs)) (cl : Cls K C) (ha : W.findIn K (.ref C) "__class__" = some (some (.builtin "object.__class__")))
   (hn : W.specialIn K (.builtin "object.__class__") "__get__" = some (some (.builtin "getset_descriptor.__get__"))) (htk : W.takesIn K (.builtin "object.__class__") = some true)
   (hm : W.mroIn K C (.type "object") = some true) : TyOf K H (.ref a) (.ref C)
theorem Za9 {x : V} {u t : Value} (I : Inv X pins σ H s) (rx : RelV x u) (ty : TyOf X.K H x t) (e : W.kitOne X.K t c = some b) (h : ∀ tk, Q (.bool b) { s with toks := tk }) :
  wpAny (model X.prog X.w) A (call (.builtin "isinstance") [u, c]) Q E s := by
 cases ty with
 | non => cases (show u = Value.none from rx); exact W.kia_one W.kitx_none I.kIn True.intro e (fun z => nomatch z) h
 | bl y => cases (show u = Value.bool y from rx); exact W.kia_one W.kitx_bool I.kIn True.intro e (fun z => nomatch z) h
 | int i => obtain ⟨t, q⟩ := (show ∃ t, u = Value.int i t from rx); cases q; exact W.kia_one W.kitx_int I.kIn True.intro e (fun z => nomatch z) h
 | str y => obtain ⟨t, q⟩ := (show ∃ t, u = Value.str y t from rx); cases q; exact W.kia_one W.kitx_str I.kIn True.intro e (fun z => nomatch z) h
 | flt y => obtain ⟨t, q⟩ := (show ∃ t, u = Value.float y t from rx); cases q; exact W.kia_one W.kitx_float I.kIn True.intro e (fun z => nomatch z) h
 | @lst a xs ea =>
  cases (show u = Value.ref a from rx)
  obtain ⟨_, _, n, _, h1⟩ := (show ObjOk X.prog X.w H s.heap a (.lst xs) from I.hok a _ ea)
  exact W.kia_one W.kitx_list I.kIn ⟨_, h1, rfl⟩ e (fun z => nomatch z) h
 | @frz a ob xs ea =>
  cases (show u = Value.ref a from rx)
  obtain ⟨_, _, _, n, _, h1⟩ := (show ObjOk X.prog X.w H s.heap a (.frz ob (.lst xs)) from I.hok a _ ea)
  exact W.kia_one W.kitx_list I.kIn ⟨_, h1, rfl⟩ e (fun z => nomatch z) h
 | @tup a xs ea =>
  cases (show u = Value.ref a from rx)
  obtain ⟨_, _, _, p⟩ := (show ObjOk X.prog X.w H s.heap a (.tup xs) from I.hok a _ ea)
  obtain ⟨o, h1, h2, _⟩ := p
  exact W.kia_one W.kitx_tuple I.kIn ⟨o, h1, h2⟩ e (fun z => nomatch z) h
 | @dK a kvs ea =>
  cases (show u = Value.ref a from rx)
  obtain ⟨_, _, vs, _, p⟩ := (show ObjOk X.prog X.w H s.heap a (.dK kvs) from I.hok a _ ea)
  obtain ⟨o, es, ep, h1, h2, _⟩ := p
  exact W.kia_one W.kitx_dict I.kIn ⟨o, h1, h2.1⟩ e (fun z => nomatch z) h
 | @dT a kvs ea =>
  cases (show u = Value.ref a from rx)
  obtain ⟨_, _, xs, _, o, es, ep, h1, h2, _⟩ := (show ObjOk X.prog X.w H s.heap a (.dT kvs) from I.hok a _ ea)
  exact W.kia_one W.kitx_dict I.kIn ⟨o, h1, h2.1⟩ e (fun z => nomatch z) h
 | @ins a C dx fs ea cl ha hn htk hm =>
  cases (show u = Value.ref a from rx)
  obtain ⟨mA, O, _⟩ := ins_get I.hok ea
  obtain ⟨od, J, _⟩ := O.look
  exact W.kia_one (W.kitx_own (cl.get _) cl.hd ha hn htk hm) I.kIn J e (fun z => nomatch z) h
end
structure Room (k : Nat) (A : Around) : Prop where
 hd : A.handled = none
 dp : A.depth + 3 * k + 5 < recursionLimit
 un : A.units + 16 * k + 200 < cLine
theorem Room.mono {j k : Nat} {A : Around} (r : Room k A) (h : j <= k) : Room j A := ⟨r.hd, by have := r.dp; lia, by have := r.un; lia⟩
theorem Room.deeper {k : Nat} {A : Around} (r : Room (k + 1) A) (env : Env) : Room k (A.deeper env) :=
 ⟨r.hd, by have := r.dp; show A.depth + 1 + 3 * k + 5 < _; lia, by have := r.un; show A.units + 3 + 16 * k + 200 < _; lia⟩
theorem Room.depth {k : Nat} {A : Around} (r : Room k A) : A.depth < recursionLimit := by have := r.dp; lia
theorem Room.units {k : Nat} {A : Around} (r : Room k A) : A.units + 64 < cLine := by have := r.un; lia
noncomputable def tNil : TA := fun _ H Q => Q [] H
noncomputable def tCons (ta : TE) (tr : TA) : TA := fun σ H Q => ta σ H fun x H1 => tr σ H1 fun xs H2 => Q (x :: xs) H2
section
variable {X : Cx} {e : Expr} {es : List Expr} {te : TE} {t : TA} {pos : Pos}
theorem pa_nil : PA X [] tNil := fun _ _ _ _ H Q I h => Calls.spliced_nil ⟨[], H, I, .nil, h⟩
theorem pa_cons (ha : PE X e te) (hr : PA X es t) (hs : starEach (e :: es) X.env = (false, eval e X.env) :: starEach es X.env := by rfl) : PA X (e :: es) (tCons te t) := by
 intro pos pins s σ H Q I h
 rw [hs]
 show wpAny _ _ (spliced ((false, eval e X.env) :: backTo pos (starEach es X.env))) _ _ s
 refine Calls.spliced_cons (thn (ha pins s σ H _ I h) fun u s1 h_ => ?_)
 obtain ⟨x, H1, I1, r1, q1⟩ := h_
 exact thn (hr pos pins s1 σ H1 _ I1 q1) fun us s2 ⟨xs, H2, I2, r2, q2⟩ => ⟨x :: xs, H2, I2, .cons r1 r2, q2⟩
noncomputable def tTup (t : TA) : TE := fun σ H Q => t σ H fun xs H1 => xs.length <= sizeLine /\ ∀ p, H1 p = none -> Q (.ref p) (upd H1 p (.tup xs))
noncomputable def tLst (t : TA) : TE := fun σ H Q => t σ H fun xs H1 => xs.length <= sizeLine /\ ∀ p, H1 p = none -> Q (.ref p) (upd H1 p (.lst xs))
theorem pe_tup {x1} (h : PA X es t) : PE X (.Tuple es x1 pos) (tTup t) := by
 intro pins s σ H Q I hq
 refine wpAny_Tuple_spliced (thn (h pos pins s σ H _ I hq) fun us s1 ⟨xs, H1, I1, r, z, q⟩ => ⟨by rw [← r.length]; exact z, ?_⟩)
 have hf : H1 s1.heap.objs.size = none := I1.hok.fresh (Nat.le_refl _)
 refine ⟨.ref s1.heap.objs.size, upd H1 s1.heap.objs.size (.tup xs), I1.laid (t' := s1.toks) (fun b u e => Heap.get?_push_of_some _ e) (Nat.le_refl _) ?_, rfl, q _ hf⟩
 exact ⟨z, us, r, ⟨_, Heap.get?_push_size _ rfl, rfl, _, rfl⟩⟩
theorem pe_lst (h : PA X es t) : PE X (.List es pos) (tLst t) := by
 intro pins s σ H Q I hq
 refine wpAny_List_spliced (thn (h pos pins s σ H _ I hq) fun us s1 ⟨xs, H1, I1, r, z, q⟩ => ⟨by rw [← r.length]; exact z, ?_⟩)
 have hf : H1 s1.heap.objs.size = none := I1.hok.fresh (Nat.le_refl _)
 refine ⟨.ref s1.heap.objs.size, upd H1 s1.heap.objs.size (.lst xs), I1.laid (t' := s1.toks) (fun b u e => Heap.get?_push_of_some _ e) (Nat.le_refl _) ?_, rfl, q _ hf⟩
 exact ⟨z, us, 0, r, Heap.get?_push_size _ rfl⟩
end
noncomputable abbrev Sp := List V -> Hp -> VK -> XK -> Prop
noncomputable abbrev CXT := List Env -> Hp -> Shared -> XK -> Value -> Shared -> Prop
structure Env0 (P : Program) (w : World) (K : W.Frag) (mg : Str -> Option Value) (base : Heap) (A : Around) (outer : List Env) (s : Shared) (H : Hp) : Prop where
 frames : A.frames = some outer
 mod : Mod K mg base
 bs : ∀ b o, base.get? b = some o -> s.heap.get? b = some o /\ H b = none
 bsz : base.objs.size <= s.heap.objs.size
 funs : s.heap.FunFrames base outer
 frf : ∀ b ∈ frs outer, H b = none
 hok : HOk P w H s.heap
 bare : AllBare s.gens
noncomputable def CE (outer : List Env) (P : Program) (w : World) (H : Hp) (s : Shared) (Q : VK) (u : Value) (s' : Shared) : Prop :=
 ∃ v H', s'.os = s.os /\ AllBare s'.gens /\ Un (frs outer) [] H H' s.heap s'.heap /\ HOk P w H' s'.heap /\ RelV v u /\ Q v H'
noncomputable def CR (CX : CXT) (outer : List Env) (P : Program) (w : World) (H : Hp) (s : Shared) (Q : VK) (E : XK) (r : Result) (s' : Shared) : Prop :=
 match r with
 | .ok (.ret u) => CE outer P w H s Q u s'
 | .ok _ => False
 | .error e => CX outer H s E e s'
structure FnOk (P : Program) (w : World) (K : W.Frag) (mg : Str -> Option Value) (base : Heap) (CX : CXT) (k : Nat) (f : Addr) (fd : FuncData) (ps : List Str) (sp : Sp) : Prop where
 len : ∀ vs H Q E, sp vs H Q E -> vs.length = ps.length
 run : ∀ (A : Around) (outer : List Env) (s : Shared) (H : Hp) (args : Args) (us : List Value) (vs : List V) (Q : VK) (E : XK), Room k A -> Env0 P w K mg base A outer s H -> BindsTo s fd args (ps.zip us) -> Vals vs us -> sp vs H Q E ->
  codeAny (model P w) A (.call (.ref f) args) (CR CX outer P w H s Q E) s
theorem FnOk.mono {P : Program} {w : World} {K : W.Frag} {mg : Str -> Option Value} {base : Heap} {CX : CXT} {j k : Nat} {f : Addr} {fd : FuncData} {ps : List Str} {sp : Sp} (F : FnOk P w K mg base CX j f fd ps sp) (h : j <= k) :
  FnOk P w K mg base CX k f fd ps sp := ⟨F.len, fun A outer s H args us vs Q E hr => F.run A outer s H args us vs Q E (hr.mono h)⟩
theorem FnOk.imp {P : Program} {w : World} {K : W.Frag} {mg : Str -> Option Value} {base : Heap} {CX : CXT} {k : Nat} {f : Addr} {fd : FuncData} {ps : List Str} {sp sp' : Sp} (F : FnOk P w K mg base CX k f fd ps sp)
  (h : ∀ vs H Q E, sp' vs H Q E -> sp vs H Q E) : FnOk P w K mg base CX k f fd ps sp' :=
 ⟨fun vs H Q E q => F.len vs H Q E (h _ _ _ _ q), fun A outer s H args us vs Q E hr he hb hv hs => F.run A outer s H args us vs Q E hr he hb hv (h _ _ _ _ hs)⟩
section
variable {X : Cx} {pins : List (Addr × Obj)} {σ : St} {H : Hp} {s s' : Shared}
theorem Inv.env0 (I : Inv X pins σ H s) : Env0 X.prog X.w X.K X.mg X.base X.A X.stack s H :=
 ⟨I.ok.frames, I.ok.mod, I.bs, Nat.le_trans I.ok.bsz I.sz, I.stack, I.stkFree, I.hok, I.bare⟩
theorem Inv.after {Q : VK} {u : Value} (I : Inv X pins σ H s) (h : CE X.stack X.prog X.w H s Q u s') : EP X pins σ Q u s' := by
 obtain ⟨v, H', os, bare, un, hok, r, q⟩ := h
 obtain ⟨hh, g, d, t, os'⟩ := s'
 obtain rfl : os' = s.os := os
 exact ⟨v, H', I.call (h' := hh) (g' := g) (d' := d) (t' := t) (ch := []) un hok bare (fun b z => absurd z (by simp)), r, q⟩
end
noncomputable def tCall (sp : Sp) (dvs : List V) (E : XK) (t : TA) : TE := fun σ H Q => t σ H fun vs H1 => sp (vs ++ dvs) H1 Q E
noncomputable def Binds (K : W.Frag) (fd : FuncData) (ps : List Str) (ds : List Value) : Prop :=
 ∀ (s : Shared) (us : List Value), K.In s.heap -> (us ++ ds).length = ps.length -> BindsTo s fd ⟨us, []⟩ (ps.zip (us ++ ds))
theorem Binds.all {K : W.Frag} {fd : FuncData} {ps : List Str} (h : ∀ us : List Value, us.length = ps.length -> bindArgs fd ⟨us, []⟩ = pure (ps.zip us)) : Binds K fd ps [] := fun s us _ hl => by
 rw [List.append_nil] at hl ⊢
 exact .of_eq (h us hl)
noncomputable def Passes (CX : CXT) (X : Cx) (E : XK) : Prop := ∀ (pins : List (Addr × Obj)) (σ : St) (H : Hp) (s : Shared) (e : Value) (s' : Shared), Inv X pins σ H s -> CX X.stack H s E e s' -> X.xe e s'
section
variable {X : Cx} {CX : CXT} {k : Nat} {f C : Addr} {fd : FuncData} {ps : List Str} {sp : Sp} {dvs : List V} {ds : List Value} {E : XK} {x m : Str} {p pos apos : Pos} {e o : Expr} {es : List Expr} {ta : TE} {t : TA}
theorem run_fn {pins : List (Addr × Obj)} {σ : St} {H : Hp} {s : Shared} {Q : VK} {us : List Value} {vs : List V} (F : FnOk X.prog X.w X.K X.mg X.base CX k f fd ps sp) (hr : Room k X.A) (hb : Binds X.K fd ps ds) (hd : Vals dvs ds) (hx : Passes CX X E)
  (I : Inv X pins σ H s) (r : Vals vs us) (h : sp (vs ++ dvs) H Q E) : wpAny (model X.prog X.w) X.A (call (.ref f) us) (EP X pins σ Q) X.xe s := by
 have r2 : Vals (vs ++ dvs) (us ++ ds) := r.append hd
 have hl : (us ++ ds).length = ps.length := by rw [← r2.length]; exact F.len _ _ _ _ h
 refine wpAny_call (codeAny_mono (F.run X.A X.stack s H ⟨us, []⟩ (us ++ ds) (vs ++ dvs) Q E hr I.env0 (hb s us I.kIn hl) r2 h) fun r s' hq => ?_)
 cases r with
 | error e => exact hx pins σ H s e s' I hq
 | ok fl =>
  cases fl with
  | ret u => exact I.after hq
  | next => exact False.elim hq
  | brk => exact False.elim hq
  | cont => exact False.elim hq
theorem pe_call (F : FnOk X.prog X.w X.K X.mg X.base CX k f fd ps sp) (hr : Room k X.A) (hg : Gl X x) (hm : X.mg x = some (.ref f)) (hk : W.keepIn X.K (.ref f) = true) (hb : Binds X.K fd ps ds) (hd : Vals dvs ds) (hx : Passes CX X E)
  (ha : PA X (e :: es) t) (hdb : (x == ("__debug__" : Str)) = false := by decide) (he : starEach (e :: es) X.env = (false, eval e X.env) :: starEach es X.env := by rfl) (hpl : (backTo pos (starEach es X.env)).any (·.1) = false := by rfl) :
  PE X (.Call (.Name x p) (e :: es) [] pos) (tCall sp dvs E t) := by
 intro pins s σ H Q I h
 refine wpAny_Call_Name_kw (ld_glob I hg hm ?_ hdb)
 refine W.callWith_K (h₀ := X.base) I.ok.mod.kin hk (thn (ha pos pins s σ H _ I h) fun us s1 ⟨vs, H1, I1, r, q⟩ => ⟨I1.kIn, ?_⟩) he hpl
 exact run_fn F hr hb hd hx I1 r q
structure Mk (K : W.Frag) (C f : Addr) : Prop where
 makes : W.makesIn K C = true
 init : W.findIn K (.ref C) "__init__" = some (some (.ref f))
 fn : W.isFn K (.ref f) = true
 kp : W.keepIn K (.ref C) = true
end
structure FnScope (N P : List Str) (sc : Scope) : Prop where
 kind : sc.kind = .function
 co : sc.isCoroutine = false
 gen : sc.isGenerator = false
 nd : N.Nodup
 pre : N.take P.length = P
 par : ∀ x ∈ P, sc.names.lookup x = some .local \/ sc.names.lookup x = some .cell
 nofree : ∀ y ∈ sc.names, y.2 ≠ .free
theorem bindL_out {kindOf : Str -> Option NameKind} {x : Str} : ∀ {binds : List (Str × Value)} {m : Str -> Option Value}, (∀ v, (x, v) ∉ binds) -> bindL kindOf binds m x = m x
  | [], _, _ => rfl
  | (n, v) :: r, m, h => by
    unfold bindL
    rw [bindL_out fun w hw => h w (List.mem_cons_of_mem _ hw)]
    split
    · have : x ≠ n := by rintro rfl; exact h v List.mem_cons_self
      simp [this]
    · rfl
theorem bindC_out {kindOf : Str -> Option NameKind} {x : Str} : ∀ {binds : List (Str × Value)} {m : Str -> Option Value}, (∀ v, (x, v) ∉ binds) -> bindC kindOf binds m x = m x
  | [], _, _ => rfl
  | (n, v) :: r, m, h => by
    unfold bindC
    rw [bindC_out fun w hw => h w (List.mem_cons_of_mem _ hw)]
    split
    · rfl
    · have : x ≠ n := by rintro rfl; exact h v List.mem_cons_self
      simp [this]
theorem bindL_get {kindOf : Str -> Option NameKind} {x : Str} {v : Value} : ∀ {P : List Str} {vs : List Value} {i : Nat} {m : Str -> Option Value}, P.Nodup -> P[i]? = some x -> vs[i]? = some v -> kindOf x = some .local ->
  bindL kindOf (P.zip vs) m x = some v
 | [], _, _, _, _, h, _, _ => by simp at h
 | _ :: _, [], _, _, _, _, h, _ => by simp at h
 | p :: P, w :: vs, 0, m, nd, h1, h2, hk => by
  simp at h1 h2; subst h1; subst h2
  show bindL kindOf ((p, w) :: P.zip vs) m p = _
  unfold bindL
  rw [bindL_out fun v hv => (List.nodup_cons.mp nd).1 (List.of_mem_zip hv).1, if_pos hk]
  simp
 | p :: P, w :: vs, i + 1, m, nd, h1, h2, hk => by
  show bindL kindOf ((p, w) :: P.zip vs) m x = _
  unfold bindL
  exact bindL_get (i := i) (List.nodup_cons.mp nd).2 (by simpa using h1) (by simpa using h2) hk
theorem bindC_get {kindOf : Str -> Option NameKind} {x : Str} {v : Value} : ∀ {P : List Str} {vs : List Value} {i : Nat} {m : Str -> Option Value}, P.Nodup -> P[i]? = some x -> vs[i]? = some v -> kindOf x ≠ some .local ->
  bindC kindOf (P.zip vs) m x = some v
 | [], _, _, _, _, h, _, _ => by simp at h
 | _ :: _, [], _, _, _, _, h, _ => by simp at h
 | p :: P, w :: vs, 0, m, nd, h1, h2, hk => by
  simp at h1 h2; subst h1; subst h2
  show bindC kindOf ((p, w) :: P.zip vs) m p = _
  unfold bindC
  rw [bindC_out fun v hv => (List.nodup_cons.mp nd).1 (List.of_mem_zip hv).1, if_neg hk]
  simp
 | p :: P, w :: vs, i + 1, m, nd, h1, h2, hk => by
  show bindC kindOf ((p, w) :: P.zip vs) m x = _
  unfold bindC
  exact bindC_get (i := i) (List.nodup_cons.mp nd).2 (by simpa using h1) (by simpa using h2) hk
noncomputable def start (N : List Str) (vs : List V) : St := vs.map some ++ List.replicate (N.length - vs.length) none
noncomputable def cxOf (CX : CXT) (P : Program) (w : World) (K : W.Frag) (mg : Str -> Option Value) (base : Heap) (N : List Str) (qual : Str) (scope : Scope) (f : Addr) (cd : Value) (A : Around) (outer : List Env) (s : Shared) (H : Hp) (E : XK) : Cx where
 prog := P
 w := w
 K := K
 mg := mg
 base := base
 A := A.deeper (envOfC qual scope s.heap.objs.size f cd)
 N := N
 s₀ := s
 H₀ := H
 env := envOfC qual scope s.heap.objs.size f cd
 outer := outer
 stack := envOfC qual scope s.heap.objs.size f cd :: outer
 ex := []
 calm := true
 fn := fun _ => true
 pn := []
 xe := fun e s' => wpAny (model P w) (A.deeper (envOfC qual scope s.heap.objs.size f cd)) (leaving (envOfC qual scope s.heap.objs.size f cd) e) (fun _ s'' => CX outer H s E e s'') (fun e' s'' => CX outer H s E e' s'') s'
theorem cell_has {sc : Scope} {n : Nat} {x : Str} (h : sc.names.lookup x = some .cell) : ∃ c, (cellsFrom n sc.names []).lookup x = some c := by
 have q := W.cellsFrom_some sc.names n [] (.inl h)
 exact Option.isSome_iff_exists.mp q
theorem inv_start {CX : CXT} {P : Program} {w : World} {K : W.Frag} {mg : Str -> Option Value} {base : Heap} {N ps : List Str} {qual : Str} {scope : Scope} {f : Addr} {cd : Value} {A : Around} {outer : List Env} {s s1 : Shared} {H : Hp} {E : XK} {us : List Value} {vs : List V}
  (S : FnScope N ps scope) (hd : A.handled = none) (e0 : Env0 P w K mg base A outer s H) (hl : vs.length = ps.length) (r : Vals vs us)
  (x : InCallC s s.heap.objs.size (bindL (envOfC qual scope s.heap.objs.size f cd).kindOf (ps.zip us) fun _ => none) (cellsFrom (s.heap.objs.size + 1) scope.names []) (bindC (envOfC qual scope s.heap.objs.size f cd).kindOf (ps.zip us) fun _ => none) s1) :
  Inv (cxOf CX P w K mg base N qual scope f cd A outer s H E) [] (start N vs) H s1 := by
 have hpl : ps.length <= N.length := by have := congrArg List.length S.pre; rw [List.length_take] at this; lia
 obtain ⟨h1, tk, rfl, hk⟩ := x.done
 have noA : ∀ b : Addr, b ∉ (cxOf CX P w K mg base N qual scope f cd A outer s H E).ex := fun b z => absurd (show b ∈ ([] : List Addr) from z) (by simp)
 refine ⟨⟨e0.mod, S.kind, rfl, rfl, Nat.le_refl _, fun y z c h1 h2 => ?_, fun y hy => ?_, fun y c _ h => ?_, fun _ => hd, Around.frames_deeper e0.frames, .inr ⟨rfl, rfl⟩, fun b z => absurd z (noA b), e0.bs, e0.bsz, fun b _ _ => noA b, fun b z => absurd z (noA b), e0.funs, e0.frf⟩,
  rfl, e0.bare, Un.kept hk, ⟨_, x.toInCall.ns, fun i y v h1 h2 h3 => ?_⟩, fun y c h => ⟨_, x.cell y c h⟩, e0.hok.fresh (Nat.le_refl _), fun y c h => ?_, fun p hp => absurd (show p ∈ ([] : List (Addr × Obj)) from hp) (by simp), e0.hok.kept hk, ?_⟩
 ·exact name_of_addr x.apart (PySem.mem_of_lookup h1) (PySem.mem_of_lookup h2)
 ·have hy : scope.names.lookup y = some .cell \/ scope.names.lookup y = some .free := hy
  rcases hy with hy | hy
  ·exact cell_has hy
  ·exact absurd rfl (S.nofree _ (PySem.mem_of_lookup hy))
 ·exact Nat.le_of_lt (x.above y c (PySem.mem_of_lookup h))
 ·have hi : i < vs.length := by
   unfold start at h2
   by_cases hi : i < vs.length
   ·exact hi
   ·rw [List.getElem?_append_right (by simpa using hi)] at h2
    rw [List.getElem?_replicate] at h2
    split at h2 <;> cases h2
  have ha : vs[i]? = some v := by
   unfold start at h2
   rw [List.getElem?_append_left (by simpa using hi), List.getElem?_map] at h2
   cases e : vs[i]? with
   | none => rw [e] at h2; cases h2
   | some a => rw [e] at h2; cases h2; rfl
  obtain ⟨u, hu, rv⟩ := r.get ha
  have hp : ps[i]? = some y := by
   rw [← S.pre, List.getElem?_take_of_lt (by lia)]; exact h1
  have ndP : ps.Nodup := by rw [← S.pre]; exact S.nd.sublist (List.take_sublist _ _)
  refine ⟨u, rv, ?_⟩
  rcases S.par y (List.mem_of_getElem? hp) with k | k
  ·exact .inl ⟨k, bindL_get ndP hp hu k⟩
  ·obtain ⟨c, e⟩ := cell_has (n := s.heap.objs.size + 1) k
   refine .inr ⟨.inl k, c, e, ?_⟩
   have q := x.cell y c e
   rw [bindC_get ndP hp hu (by show scope.names.lookup y ≠ _; rw [k]; decide)] at q
   exact q
 ·exact e0.hok.fresh (Nat.le_of_lt (x.above y c (PySem.mem_of_lookup h)))
 ·unfold start
  show _ = N.length
  rw [List.length_append, List.length_map, List.length_replicate]
  lia
theorem fn_of {CX : CXT} {P : Program} {w : World} {K : W.Frag} {mg : Str -> Option Value} {base : Heap} {k : Nat} {f : Addr} {name qual : Str} {params : Arguments} {body : List Stmt} {scope : Scope} {dV kV doc pm cdv ct oc : Value} {an od : Option Addr}
  {osl : Array (Option Value)} {N ps : List Str} {sp : Sp} (lk : K.lookup f = some ⟨oc, od, .func (W.fnOf name qual params body scope dV kV doc pm an cdv ct), osl⟩) (hcd : W.codeIn K cdv qual = true) (S : FnScope N ps scope)
  (len : ∀ vs H Q E, sp vs H Q E -> vs.length = ps.length)
  (hbody : ∀ (A : Around) (outer : List Env) (s : Shared) (H : Hp) (vs : List V) (Q : VK) (E : XK), Room k (A.deeper (envOfC qual scope s.heap.objs.size f cdv)) -> sp vs H Q E ->
   ∃ t, PSs (cxOf CX P w K mg base N qual scope f cdv A outer s H E) body t /\ t { nx := fun _ H' => Q .non H', rt := Q } (start N vs) H) :
  FnOk P w K mg base CX (k + 1) f (W.fnOf name qual params body scope dV kV doc pm an cdv ct) ps sp := by
 refine ⟨len, fun A outer s H args us vs Q E hr e0 hb r hsp => ?_⟩
 have hl := len _ _ _ _ hsp
 have KX : K.In s.heap := e0.mod.kin.keeps fun b o e => (e0.bs b o e).1
 have lim : s.heap.NoLimit := e0.mod.nolimit.keeps fun b o e => (e0.bs b o e).1
 have hkind : ∀ y ∈ ps.zip us, scope.names.lookup y.1 = some .local \/ (scope.names.lookup y.1 = some .cell /\ ((cellsFrom (s.heap.objs.size + 1) scope.names []).lookup y.1).isSome = true) := fun ⟨n, v⟩ hy => by
  rcases S.par n (List.of_mem_zip hy).1 with q | q
  ·exact .inl q
  ·exact .inr ⟨q, W.cellsFrom_some _ _ _ (.inl q)⟩
 refine codeAny_call_function hr.depth (KX _ _ lk) rfl S.co S.gen rfl (W.codeRec_of KX hcd) (hb _ _ _ _ ?_)
 refine wpAny_newFunctionEnv_cells S.kind hkind fun env he s1 x => ?_
 subst he
 refine ⟨lim.keeps x.toInCall.keep, codeAny_func ?_⟩
 obtain ⟨t, ht, hq⟩ := hbody A outer s H vs Q E (hr.deeper _) hsp
 have I : Inv (cxOf CX P w K mg base N qual scope f cdv A outer s H E) [] (start N vs) H s1 := inv_start S hr.hd e0 hl r x
 refine wpAny_mono (ht [] s1 (start N vs) H _ I hq) (fun fl s' hs => ?_) fun e s' hs => hs
 have fin : ∀ {σ' : St} {H' : Hp} {v : V} {u : Value}, Inv (cxOf CX P w K mg base N qual scope f cdv A outer s H E) [] σ' H' s' -> RelV v u -> Q v H' -> CE outer P w H s Q u s' :=
  fun {σ' H' v u} J rv q => ⟨v, H', J.os, J.bare, J.base, J.hok, rv, q⟩
 cases fl with
 | ret u =>
  obtain ⟨v, σ', H', J, rv, q⟩ := hs
  exact fin J rv q
 | next =>
  obtain ⟨σ', H', J, q⟩ := hs
  exact fin (v := V.non) (u := Value.none) J rfl q
 | brk =>
  obtain ⟨_, _, _, q⟩ := hs
  exact False.elim q
 | cont =>
  obtain ⟨_, _, _, q⟩ := hs
  exact False.elim q
section
variable {X : Cx} {x : Str} {p pos : Pos} {e : Expr} {es : List Expr} {t : TA} {id T : String} {r : List V -> Hp -> VK -> Prop}
noncomputable def tCB (r : List V -> Hp -> VK -> Prop) (t : TA) : TE := fun σ H Q => t σ H fun vs H1 => r vs H1 Q
theorem pe_callB (hc : CallR X (.builtin id) r) (hg : Gl X x) (hm : X.mg x = none) (hv : bootBuiltins x = some (.builtin id)) (ha : PA X (e :: es) t) (hn : x ≠ "__name__" := by decide) (hdb : (x == ("__debug__" : Str)) = false := by decide)
  (he : starEach (e :: es) X.env = (false, eval e X.env) :: starEach es X.env := by rfl) (hpl : (backTo pos (starEach es X.env)).any (·.1) = false := by rfl) : PE X (.Call (.Name x p) (e :: es) [] pos) (tCB r t) := by
 intro pins s σ H Q I h
 refine wpAny_Call_Name_kw (Zb9 I hg hm hv ?_ hn hdb)
 exact PyProof.Rows.callWith_builtin1 (thn (ha pos pins s σ H _ I h) fun us s1 ⟨vs, H1, I1, r1, q1⟩ => hc pins s1 σ H1 vs us Q I1 r1 q1) he hpl
theorem pe_callTy (hc : CallR X (.type T) r) (hg : Gl X x) (hm : X.mg x = none) (hv : bootBuiltins x = some (.type T)) (ha : PA X (e :: es) t) (hn : x ≠ "__name__" := by decide) (hdb : (x == ("__debug__" : Str)) = false := by decide)
  (he : starEach (e :: es) X.env = (false, eval e X.env) :: starEach es X.env := by rfl) (hpl : (backTo pos (starEach es X.env)).any (·.1) = false := by rfl) : PE X (.Call (.Name x p) (e :: es) [] pos) (tCB r t) := by
 intro pins s σ H Q I h
 refine wpAny_Call_Name_kw (Zb9 I hg hm hv ?_ hn hdb)
 exact PyProof.Rows.callWith_type1 (thn (ha pos pins s σ H _ I h) fun us s1 ⟨vs, H1, I1, r1, q1⟩ => hc pins s1 σ H1 vs us Q I1 r1 q1) he hpl
end
end L2
namespace HT
open PySem PyProof.Rows
section
variable {prog : Program} {w : World} {A : Around} {E : Value -> Shared -> Prop} {s : Shared}
theorem cat_tup {t b : Addr} {vs ws : List Value} {Q : Value -> Shared -> Prop} (ht : IsTup s.heap t vs.toArray) (hb : IsTup s.heap b ws.toArray) (hv : vs ≠ [])
  (h1 : ws = [] -> Q (.ref t) s) (h2 : ws ≠ [] -> Q (.ref s.heap.objs.size) { s with heap := s.heap.push { cls := .type "tuple", data := .seq (vs ++ ws).toArray } })
  (hsz : vs.length + ws.length <= sizeLine) : wpAny (model prog w) A (binaryOp .Add (.ref t) (.ref b)) Q E s := by
 obtain ⟨⟨cls, dd, data, sl⟩, ho, hc, n, hd⟩ := id ht
 obtain ⟨⟨cls2, dd2, data2, sl2⟩, ho2, hc2, n2, hd2⟩ := id hb
 simp only at hc hd hc2 hd2
 subst hc hd hc2 hd2
 have e : vs.toArray ++ ws.toArray = (vs ++ ws).toArray := by simp
 by_cases hw : ws = []
 ·exact concat_meets ⟨_, ho, rfl⟩ ⟨_, ho2, rfl⟩ noFill_tuple_add seq_tuple_add PySem.F.slot_tuple_add PySem.F.entry_tuple_add (PySem.F.args_tuple_add_2 _ _)
   (tuple_addW1 t b vs.toArray ws.toArray n n2 dd dd2 sl sl2 (by simpa using hv) (by simp [hw])) ⟨ho, ho2, h1 hw⟩
 ·refine concat_meets ⟨_, ho, rfl⟩ ⟨_, ho2, rfl⟩ noFill_tuple_add seq_tuple_add PySem.F.slot_tuple_add PySem.F.entry_tuple_add (PySem.F.args_tuple_add_2 _ _)
   (tuple_addW2 t b vs.toArray ws.toArray n n2 dd dd2 sl sl2 (by simpa using hv) (by simpa using hw) (by rw [List.size_toArray, List.size_toArray]; exact hsz)) ⟨ho, ho2, ?_⟩
  rw [e]
  exact h2 hw
noncomputable def sIx (n d : Nat) : Option Int -> Nat
 | none => d
 | some v => if v < 0 then (v + (n : Int)).toNat else min v.toNat n
theorem sIx_le (n d : Nat) (hd : d <= n) (o : Option Int) : sIx n d o <= n := by
 cases o with
 | none => exact hd
 | some v =>
  show (if v < 0 then (v + (n : Int)).toNat else min v.toNat n) <= n
  by_cases hv : v < 0
  ·rw [if_pos hv]; lia
  ·rw [if_neg hv]; exact Nat.min_le_right _ _
theorem clip_eq (v : Int) (n d : Nat) : (if v < 0 then max (v + (n : Int)) 0 else min v (n : Int)) = ((sIx n d (some v) : Nat) : Int) := by
 show (if v < 0 then max (v + (n : Int)) 0 else min v (n : Int)) = (((if v < 0 then (v + (n : Int)).toNat else min v.toNat n) : Nat) : Int)
 by_cases hv : v < 0
 ·simp only [if_pos hv]; lia
 ·simp only [if_neg hv]; lia
theorem adjust_gen (lo hi : Option Int) (n : Nat) : Builtin.Slice.sliceAdjust lo hi 1 (n : Int) = (((sIx n 0 lo : Nat) : Int), ((sIx n n hi : Nat) : Int)) := by
 have h1 : ¬ ((1 : Int) < 0) := by lia
 unfold Builtin.Slice.sliceAdjust
 simp only [h1, if_false]
 refine Prod.ext ?_ ?_
 ·cases lo with
  | none => rfl
  | some v => exact clip_eq v n 0
 ·cases hi with
  | none => rfl
  | some v => exact clip_eq v n n
theorem places_gen (i j : Nat) : Builtin.Slice.slicePlaces (i : Int) (j : Int) 1 = j - i := by
 unfold Builtin.Slice.slicePlaces
 have h1 : (1 : Int) > 0 := by lia
 simp only [h1, if_true, Int.ediv_one]
 split <;> lia
theorem slicePart_ {v : Value} {o : Option Int} {Q : Option Int -> Shared -> Prop} (p : IsPart v o) (h : Q o s) : wpAny (model prog w) A (Builtin.Slice.slicePartIndex v) Q E s := by
 cases p with
 | none => exact slicePart_none h
 | int i t => exact slicePart_int h
theorem sliceApplied_gen {sl : Addr} {vl vu : Value} {lo hi : Option Int} {n : Nat} {Q : Int × Int × Nat -> Shared -> Prop} (hs : s.heap.IsSliceOf sl vl vu .none) (pl : IsPart vl lo) (pu : IsPart vu hi)
  (h : Q (((sIx n 0 lo : Nat) : Int), 1, sIx n n hi - sIx n 0 lo) s) : wpAny (model prog w) A (Builtin.Slice.sliceApplied (.ref sl) (pure (n : Int))) Q E s := by
 obtain ⟨os, hos, hcs, hds⟩ := id hs
 unfold Builtin.Slice.sliceApplied Builtin.Slice.sliceFields
 refine wpAny_bind (wpAny_bind (wpAny_field hos hds (x := vl) rfl (wpAny_bind (wpAny_field hos hds (x := vu) rfl (wpAny_bind (wpAny_field hos hds (x := .none) rfl (wpAny_pure ?_)))))))
 refine wpAny_bind (slicePart_none ?_)
 show wpAny _ _ (if ((1 : Int) == 0) = true then _ else _) _ _ s
 rw [if_neg (by decide)]
 refine wpAny_bind (slicePart_ pl (wpAny_bind (slicePart_ pu (wpAny_bind (wpAny_pure ?_)))))
 show wpAny _ _ (match Builtin.Slice.sliceAdjust lo hi 1 (n : Int) with | (lo, hi) => pure (lo, (1 : Int), Builtin.Slice.slicePlaces lo hi 1)) _ _ s
 rw [adjust_gen lo hi n]
 show wpAny _ _ (pure (((sIx n 0 lo : Nat) : Int), (1 : Int), Builtin.Slice.slicePlaces ((sIx n 0 lo : Nat) : Int) ((sIx n n hi : Nat) : Int) 1)) _ _ s
 rw [places_gen]
 exact wpAny_pure h
theorem pick_gen (xs : Array Value) (i k : Nat) : ((List.range k).filterMap fun (m : Nat) => xs[((i : Int) + (m : Int) * 1).toNat]?).toArray = ((xs.toList.drop i).take k).toArray := by
 have e : (fun (m : Nat) => xs[((i : Int) + (m : Int) * 1).toNat]?) = fun m => xs[i + m]? := by
  funext m
  have : ((i : Int) + (m : Int) * 1).toNat = i + m := by lia
  rw [this]
 rw [e]
 have := pick_run xs i k
 rw [List.filterMap_map] at this
 have e2 : ((fun x => xs[x]?) ∘ fun x => i + x) = fun m => xs[i + m]? := rfl
 rw [e2] at this
 rw [this]
theorem getItem_tuple_cut {t sl : Addr} {items : Array Value} {vl vu : Value} {lo hi : Option Int} {Q : Value -> Shared -> Prop} (ht : IsTup s.heap t items) (hs : s.heap.IsSliceOf sl vl vu .none) (pl : IsPart vl lo) (pu : IsPart vu hi)
  (hw : ¬ (sIx items.size 0 lo = 0 /\ sIx items.size items.size hi = items.size))
  (h : Q (.ref s.heap.objs.size) { s with heap := s.heap.push { cls := .type "tuple", data := .seq ((items.toList.drop (sIx items.size 0 lo)).take (sIx items.size items.size hi - sIx items.size 0 lo)).toArray } })
  (hsz : items.size <= sizeLine) : wpAny (model prog w) A (getItem (.ref t) (.ref sl)) Q E s := by
 have htake : sizeOk (.seq ((items.toList.drop (sIx items.size 0 lo)).take (sIx items.size items.size hi - sIx items.size 0 lo)).toArray) := by
  show ((items.toList.drop (sIx items.size 0 lo)).take (sIx items.size items.size hi - sIx items.size 0 lo)).toArray.size <= sizeLine
  rw [List.size_toArray, List.length_take, List.length_drop, Array.length_toList]
  lia
 have hj : sIx items.size items.size hi <= items.size := sIx_le _ _ (Nat.le_refl _) hi
 obtain ⟨os, hos, hcs, hds⟩ := id hs
 have hTs : s.TypeIs (.ref sl) "slice" := ⟨os, hos, hcs⟩
 unfold getItem
 try with_reducible refine wpAny_holding ?_
 first | refine wpAny_bind (wpAny_pure ?_) | skip
 refine wpAny_bind (wpAny_sequenceKey ht.typeIs (by decide) ?_)
 refine wpAny_bind (wpAny_callSpecial?_slot (name := Str.ofString "__getitem__") ht.typeIs PyProof.Rows.slot_tuple_getitem
  (wpAny_call_entry PyProof.Rows.slot_tuple_getitem ht.typeIs entry_tuple_getitem ?_ (args_tuple_getitem _ _)))
 show wpAny _ _ (Builtin.Tuple.tupleItemsOf (.ref t) >>= _) _ _ s
 refine wpAny_bind (tupleItemsOf_ ht ?_)
 refine wpAny_bind (wpAny_typeOf hTs ?_)
 rw [if_pos (by decide)]
 refine wpAny_bind (sliceApplied_gen hs pl pu ?_)
 have hno : ¬ ((((sIx items.size 0 lo : Nat) : Int) == 0 && (1 : Int) == 1 && (sIx items.size items.size hi - sIx items.size 0 lo) == items.size) = true) := by
  intro q
  rw [Bool.and_eq_true, Bool.and_eq_true] at q
  have q1 : ((sIx items.size 0 lo : Nat) : Int) = 0 := eq_of_beq q.1.1
  have q2 : sIx items.size items.size hi - sIx items.size 0 lo = items.size := eq_of_beq q.2
  exact hw ⟨by lia, by lia⟩
 show wpAny _ _ (if (((sIx items.size 0 lo : Nat) : Int) == 0 && (1 : Int) == 1 && (sIx items.size items.size hi - sIx items.size 0 lo) == items.size) = true then _ else _) _ _ s
 rw [if_neg hno, pick_gen]
 first
  | exact wpAny_bind (m := Builtin.Tuple.tupleExact _) (wpAny_newObj_type (wpAny_pure ⟨_, rfl, wpAny_pure h⟩) htake)
  | exact wpAny_bind (m := Builtin.Tuple.tupleExact _) (wpAny_newObj_type (wpAny_bind (wpAny_pure (wpAny_pure ⟨_, rfl, wpAny_pure h⟩))) htake)
  | exact wpAny_bind (wpAny_bind (m := Builtin.Tuple.tupleExact _) (wpAny_newObj_type (wpAny_pure (wpAny_pure ⟨_, rfl, wpAny_pure h⟩)) htake))
  | exact wpAny_bind (wpAny_bind (m := Builtin.Tuple.tupleExact _) (wpAny_newObj_type (wpAny_pure ⟨_, rfl, wpAny_pure h⟩) htake))
end
end HT
namespace L2
open PySem PySem.Spec PyProof.Rows
noncomputable abbrev TO := St -> Hp -> (Option Int -> Hp -> Prop) -> Prop
noncomputable def PO (X : Cx) (e : Option Expr) (t : TO) : Prop :=
 ∀ (pins : List (Addr × Obj)) (s : Shared) (σ : St) (H : Hp) (Q : Option Int -> Hp -> Prop), Inv X pins σ H s -> t σ H Q ->
  wpAny (model X.prog X.w) X.A (evalPart e X.env) (fun u s' => ∃ o H', Inv X pins σ H' s' /\ IsPart u o /\ Q o H') X.xe s
noncomputable def tNoPart : TO := fun _ H Q => Q none H
noncomputable def tPart (t : TE) : TO := fun σ H Q => t σ H fun x H1 => ∃ i, x = .int i /\ Q (some i) H1
section
variable {X : Cx} {e : Expr} {te : TE} {lo hi : Option Expr} {tl th : TO} {pos p2 : Pos}
theorem po_none : PO X none tNoPart := by
 intro pins s σ H Q I h
 rw [evalPart_none]
 exact wpAny_pure ⟨none, H, I, .none, h⟩
theorem po_some (h : PE X e te) : PO X (some e) (tPart te) := by
 intro pins s σ H Q I hw
 rw [evalPart_some]
 refine thn (h pins s σ H _ I hw) fun u s1 h_ => ?_
 obtain ⟨x, H1, I1, r1, q1⟩ := h_
 obtain ⟨i, rfl, q⟩ := q1
 obtain ⟨t, rfl⟩ := r1
 exact ⟨some i, H1, I1, .int i t, q⟩
noncomputable def SlR (X : Cx) (r : V -> Option Int -> Option Int -> Hp -> VK -> Prop) : Prop :=
 ∀ (pins : List (Addr × Obj)) (s : Shared) (σ : St) (H : Hp) (x : V) (v vl vu : Value) (lo hi : Option Int) (sl : Addr) (Q : VK), Inv X pins σ H s -> RelV x v -> s.heap.IsSliceOf sl vl vu .none -> IsPart vl lo -> IsPart vu hi -> r x lo hi H Q ->
  ∃ T id, typeLookup (.type T) "__getitem__" = pure (some (.builtin id)) /\ s.TypeIs v T /\ wpAny (model X.prog X.w) X.A (getItem v (.ref sl)) (EP X pins σ Q) X.xe s
theorem SlR.or {r r' : V -> Option Int -> Option Int -> Hp -> VK -> Prop} (h : SlR X r) (h' : SlR X r') : SlR X (fun x lo hi H Q => r x lo hi H Q \/ r' x lo hi H Q) := by
 intro pins s σ H x v vl vu lo hi sl Q I rx hs pl pu q
 rcases q with q | q
 ·exact h pins s σ H x v vl vu lo hi sl Q I rx hs pl pu q
 ·exact h' pins s σ H x v vl vu lo hi sl Q I rx hs pl pu q
noncomputable def tSl (r : V -> Option Int -> Option Int -> Hp -> VK -> Prop) (te : TE) (tl th : TO) : TE := fun σ H Q => te σ H fun x H1 => tl σ H1 fun l H2 => th σ H2 fun u H3 => r x l u H3 Q
theorem pe_slice {r : V -> Option Int -> Option Int -> Hp -> VK -> Prop} (hr : SlR X r) (he : PE X e te) (hl : PO X lo tl) (hu : PO X hi th) : PE X (.Subscript e (.Slice lo hi none p2) pos) (tSl r te tl th) := by
 intro pins s σ H Q I h
 refine Subscript_ (thn (he pins s σ H _ I h) fun v s1 h_ => ?_)
 obtain ⟨x, H1, I1, r1, q1⟩ := h_
 refine wpAny_Slice (thn (hl pins s1 σ H1 _ I1 q1) fun vl s2 ⟨l, H2, I2, pl, q2⟩ => thn (hu pins s2 σ H2 _ I2 q2) fun vu s3 h_ => ?_)
 obtain ⟨u, H3, I3, pu, q3⟩ := h_
 rw [evalPart_none]
 refine wpAny_pure ?_
 have I4 : Inv X pins σ H3 { s3 with heap := s3.heap.push { cls := .type "slice", data := .fields #[vl, vu, .none] } } := I3.kept (t' := s3.toks) fun b ob q => Heap.get?_push_of_some _ q
 obtain ⟨T, id, hT, ht, hg⟩ := hr pins { s3 with heap := s3.heap.push { cls := .type "slice", data := .fields #[vl, vu, .none] } } σ H3 x v vl vu l u s3.heap.objs.size Q I4 r1 (Heap.IsSliceOf.new ..) pl pu q3
 show wpAny (model X.prog X.w) X.A (subscriptTail e (.Slice lo hi none p2) v (.ref s3.heap.objs.size)) (EP X pins σ Q) X.xe { s3 with heap := s3.heap.push { cls := .type "slice", data := .fields #[vl, vu, .none] } }
 exact tail_any (ops := [.ref s3.heap.objs.size, v]) ht hT hg (by with_unfolding_all rfl)
noncomputable def cutV (xs : List V) (lo hi : Option Int) : List V := (xs.drop (HT.sIx xs.length 0 lo)).take (HT.sIx xs.length xs.length hi - HT.sIx xs.length 0 lo)
theorem ZbZ (xs : List V) (lo hi : Option Int) : (cutV xs lo hi).length <= xs.length := by
 unfold cutV
 rw [List.length_take, List.length_drop]
 lia
noncomputable def rSlT (K : W.Frag) : V -> Option Int -> Option Int -> Hp -> VK -> Prop := fun x lo hi H Q => ∃ a xs, x = .ref a /\ SqT K H a xs /\
 ¬ (HT.sIx xs.length 0 lo = 0 /\ HT.sIx xs.length xs.length hi = xs.length) /\ ∀ p, H p = none -> Q (.ref p) (upd H p (.tup (cutV xs lo hi)))
theorem sl_tup : SlR X (rSlT X.K) := by
 intro pins s σ H x v vl vu lo hi sl Q I rx hs pl pu h
 obtain ⟨a, xs, rfl, hx, hw, q⟩ := h
 cases rx
 obtain ⟨its, r, ht, hz⟩ := I.tuple hx
 have hlen : its.toArray.size = xs.length := by rw [List.size_toArray]; exact r.length.symm
 refine ⟨"tuple", _, PyProof.Rows.slot_tuple_getitem.lookup, ht.typeIs, ?_⟩
 refine HT.getItem_tuple_cut ht hs pl pu (by rw [hlen]; exact hw) ?_ (by rw [hlen]; exact hz)
 rw [hlen]
 refine ⟨.ref s.heap.objs.size, _, I.laid (t' := s.toks) (o := .tup (cutV xs lo hi)) (fun b ob q => Heap.get?_push_of_some _ q) (Nat.le_refl _) ?_, rfl, q _ (I.hok.fresh (Nat.le_refl _))⟩
 exact ⟨Nat.le_trans (ZbZ xs lo hi) hz, _, (r.drop (HT.sIx xs.length 0 lo)).take (HT.sIx xs.length xs.length hi - HT.sIx xs.length 0 lo), IsTup.new _ _⟩
noncomputable def rCatT (K : W.Frag) : R2 := fun x y H Q => ∃ a b xs ys, x = .ref a /\ y = .ref b /\ SqT K H a xs /\ SqT K H b ys /\ xs ≠ [] /\ xs.length + ys.length <= sizeLine /\
 (ys = [] -> Q (.ref a) H) /\ (ys ≠ [] -> ∀ p, H p = none -> Q (.ref p) (upd H p (.tup (xs ++ ys))))
theorem Vals.nil_iff {xs : List V} {us : List Value} (r : Vals xs us) : us = [] ↔ xs = [] := by
 cases r with
 | nil => simp
 | cons _ _ => simp
theorem op_catT : OpR X (binaryOp .Add) (rCatT X.K) := by
 intro pins s σ H x y v u Q I rx ry h
 obtain ⟨a, b, xs, ys, rfl, rfl, ha, hb, hx, hz, q1, q2⟩ := h
 cases rx
 cases ry
 obtain ⟨its, r1, p1, _⟩ := I.tuple ha
 obtain ⟨its2, r2, p2, _⟩ := I.tuple hb
 refine HT.cat_tup p1 p2 (fun z => hx (r1.nil_iff.mp z)) (fun z => ⟨.ref a, H, I, rfl, q1 (r2.nil_iff.mp z)⟩) (fun z => ?_) (by rw [← r1.length, ← r2.length]; exact hz)
 refine ⟨.ref s.heap.objs.size, _, I.laid (t' := s.toks) (o := .tup (xs ++ ys)) (fun b ob q => Heap.get?_push_of_some _ q) (Nat.le_refl _) ?_, rfl, q2 (fun w => z (r2.nil_iff.mpr w)) _ (I.hok.fresh (Nat.le_refl _))⟩
 exact ⟨by rw [List.length_append]; exact hz, _, r1.append r2, IsTup.new _ _⟩
end
noncomputable def ixN (n : Nat) (i : Int) : Option Nat := if 0 <= i then (if i < n then some i.toNat else none) else if -(n : Int) <= i then some (i + n).toNat else none
noncomputable def atI {α : Type} (xs : List α) (i : Int) : Option α := (ixN xs.length i).bind fun j => xs[j]?
theorem ixN_seq {n : Nat} {i : Int} {j : Nat} (h : ixN n i = some j) : seqIndex? i n = some j /\ j < n /\ -(n : Int) <= i /\ i < n := by
 unfold ixN at h
 by_cases h0 : 0 <= i
 ·rw [if_pos h0] at h
  by_cases h1 : i < n
  ·rw [if_pos h1] at h
   have e : i.toNat = j := Option.some.inj h
   exact ⟨by rw [seqIndex_of h0 h1, e], by lia, by lia, h1⟩
  ·rw [if_neg h1] at h; cases h
 ·rw [if_neg h0] at h
  by_cases h1 : -(n : Int) <= i
  ·rw [if_pos h1] at h
   have e : (i + n).toNat = j := Option.some.inj h
   exact ⟨by rw [seqIndex_neg (by lia) h1, e], by lia, h1, by lia⟩
  ·rw [if_neg h1] at h; cases h
theorem atI_get {α : Type} {xs : List α} {i : Int} {v : α} (h : atI xs i = some v) : ∃ j, seqIndex? i xs.length = some j /\ xs[j]? = some v /\ j < xs.length /\ -(xs.length : Int) <= i /\ i < xs.length := by
 unfold atI at h
 cases e : ixN xs.length i with
 | none => rw [e] at h; cases h
 | some j =>
  rw [e] at h
  obtain ⟨h1, h2, h3, h4⟩ := ixN_seq e
  exact ⟨j, h1, h, h2, h3, h4⟩
noncomputable def PlainIx (b : Expr) : Prop := ∀ o i, subscripted b false o i = operate [o, i] (getItem o i)
noncomputable def IxR (X : Cx) (r : R2) : Prop :=
 ∀ (value slice : Expr) (pins : List (Addr × Obj)) (s : Shared) (σ : St) (H : Hp) (x y : V) (v u : Value) (Q : VK), Inv X pins σ H s -> RelV x v -> RelV y u -> r x y H Q ->
  subscripted slice false v u = operate [v, u] (getItem v u) -> wpAny (model X.prog X.w) X.A (subscriptTail value slice v u) (EP X pins σ Q) X.xe s
noncomputable def MtR (X : Cx) (id : String) (r : V -> List V -> Hp -> VK -> Prop) : Prop :=
 ∀ (pins : List (Addr × Obj)) (s : Shared) (σ : St) (H : Hp) (x : V) (xs : List V) (v : Value) (us : List Value) (Q : VK), Inv X pins σ H s -> RelV x v -> Vals xs us -> r x xs H Q ->
  wpAny (model X.prog X.w) X.A (call (.builtin id) (v :: us)) (EP X pins σ Q) X.xe s
section
variable {X : Cx} {a b : Expr} {ta tb : TE} {pos : Pos}
theorem IxR.or {r r' : R2} (h : IxR X r) (h' : IxR X r') : IxR X (fun x y H Q => r x y H Q \/ r' x y H Q) := by
 intro value slice pins s σ H x y v u Q I rx ry q hs
 rcases q with q | q
 ·exact h value slice pins s σ H x y v u Q I rx ry q hs
 ·exact h' value slice pins s σ H x y v u Q I rx ry q hs
theorem pe_ix {r : R2} (hr : IxR X r) (ha : PE X a ta) (hb : PE X b tb) (hs : PlainIx b) : PE X (.Subscript a b pos) (tOp r ta tb) := by
 intro pins s σ H Q I h
 exact Subscript_ (binT ha hb I h fun v u s2 x y H2 I2 rx ry q => hr a b pins s2 σ H2 x y v u Q I2 rx ry q (hs _ _))
noncomputable def rIxL (K : W.Frag) : R2 := fun x y H Q => ∃ p xs i v, x = .ref p /\ y = .int i /\ SqL K H p xs /\ atI xs i = some v /\ Q v H
noncomputable def rIxT (K : W.Frag) : R2 := fun x y H Q => ∃ p xs i v, x = .ref p /\ y = .int i /\ SqT K H p xs /\ atI xs i = some v /\ Q v H
noncomputable def rIxS : R2 := fun x y H Q => ∃ z i c, x = .str z /\ y = .int i /\ z.length <= sizeLine /\ atI z.cps.toList i = some c /\ Q (.str ⟨#[c]⟩) H
theorem ix_list : IxR X (rIxL X.K) := by
 intro value slice pins s σ H x y v u Q I rx ry h hs
 obtain ⟨p, xs, i, z, rfl, rfl, hq, he, q⟩ := h
 cases rx
 obtain ⟨t, rfl⟩ := ry
 obtain ⟨its, r, pl, hz⟩ := I.list hq
 obtain ⟨j, h1, h2, h3, h4, h5⟩ := atI_get he
 obtain ⟨w, ew, rw'⟩ := r.get h2
 have hl := r.length
 have hn := line63
 have fin : EP X pins σ Q w s := ⟨z, H, I, rw', q⟩
 by_cases h0 : 0 <= i
 ·have hj : i.toNat = j := by
   rw [seqIndex_of h0 h5] at h1
   exact Option.some.inj h1
  exact item_listR pl.isList h0 (by lia) (by rw [hj]; simpa using ew) fin hs
 ·have hj : (i + (its.toArray.size : Int)).toNat = j := by
   rw [seqIndex_neg (by lia) h4] at h1
   rw [List.size_toArray, ← hl]
   exact Option.some.inj h1
  exact subscriptTail_builtinR (x := w) pl.isList.typeIs slot_list_getitem.lookup
   (wpAny_getItem_list_neg (Q := fun r s' => r = w /\ EP X pins σ Q r s') pl.isList (by lia) (by rw [List.size_toArray] <;> lia) (by lia) (by rw [hj]; simpa using ew) ⟨rfl, fin⟩) hs
theorem ix_tup : IxR X (rIxT X.K) := by
 intro value slice pins s σ H x y v u Q I rx ry h hs
 obtain ⟨p, xs, i, z, rfl, rfl, hq, he, q⟩ := h
 cases rx
 obtain ⟨t, rfl⟩ := ry
 obtain ⟨its, r, pl, hz⟩ := I.tuple hq
 obtain ⟨j, h1, h2, h3, h4, h5⟩ := atI_get he
 obtain ⟨w, ew, rw'⟩ := r.get h2
 have hl := r.length
 have hn := line63
 have fin : EP X pins σ Q w s := ⟨z, H, I, rw', q⟩
 exact subscriptTail_builtinR (x := w) pl.typeIs slot_tuple_getitem.lookup
  (getItem_tuple (j := j) (Q := fun r s' => r = w /\ EP X pins σ Q r s') pl (by lia) (by lia) (by rw [List.size_toArray, ← hl]; exact h1) (by simpa using ew) ⟨rfl, fin⟩) hs
theorem ix_str : IxR X rIxS := by
 intro value slice pins s σ H x y v u Q I rx ry h hs
 obtain ⟨z, i, c, rfl, rfl, hz, he, q⟩ := h
 obtain ⟨t, rfl⟩ := rx
 obtain ⟨t', rfl⟩ := ry
 obtain ⟨j, h1, h2, h3, h4, h5⟩ := atI_get he
 have hl : z.cps.toList.length = z.length := by simp [Str.length]
 rw [hl] at h1 h4 h5
 have hn := line63
 exact tail_any (typeIs_str s z t) slot_str_getitem.lookup (getItem_str (c := c) (by
  have e1 : decide (i < -(2 ^ 63 : Int)) = false := decide_eq_false (by lia)
  have e2 : decide (i ≥ 2 ^ 63) = false := decide_eq_false (by lia)
  rw [e1, e2, Bool.or_false]) (by rw [h1]; simpa using h2) ⟨.str ⟨#[c]⟩, H, I.tok _, ⟨_, rfl⟩, q⟩) hs
noncomputable def rIx (K : W.Frag) : R2 := fun x y H Q => rIxL K x y H Q \/ rIxT K x y H Q \/ rIxS x y H Q
theorem ix_seq : IxR X (rIx X.K) := ix_list.or (ix_tup.or ix_str)
theorem mapSeq_set (its : List Value) (n j : Nat) (u : Value) : Obj.mapSeq (·.setIfInBounds j u) { cls := .type "list", data := .seq its.toArray n } = { cls := .type "list", data := .seq (its.set j u).toArray n } := by
 simp [Obj.mapSeq]
theorem Inv.lst {pins : List (Addr × Obj)} {σ : St} {H : Hp} {s : Shared} {p : Addr} {xs : List V} (I : Inv X pins σ H s) (h : H p = some (.lst xs)) :
  ∃ (its : List Value) (n : Nat), Vals xs its /\ s.heap.get? p = some { cls := .type "list", data := .seq its.toArray n } /\ xs.length <= sizeLine := by
 obtain ⟨z, its, n, r, e⟩ := I.hok p _ h
 exact ⟨its, n, r, e, z⟩
theorem Inv.lstUpd {pins : List (Addr × Obj)} {σ : St} {H : Hp} {s : Shared} {p : Addr} {xs ys : List V} {its its' : List Value} {n n' : Nat} {f : Obj -> Obj} (I : Inv X pins σ H s) (h : H p = some (.lst xs))
  (ho : s.heap.get? p = some { cls := .type "list", data := .seq its.toArray n }) (hf : f { cls := .type "list", data := .seq its.toArray n } = { cls := .type "list", data := .seq its'.toArray n' }) (r : Vals ys its') (hz : ys.length <= sizeLine) (t : Nat) :
  Inv X pins σ (upd H p (.lst ys)) { s with heap := s.heap.update p f, toks := t } := by
 have e : (s.heap.update p f).get? p = some { cls := .type "list", data := .seq its'.toArray n' } := by
  rw [Heap.get?_update_self f ho (by rw [hf] <;> rfl), hf]
 refine I.write (x := p) (e := p) (by rw [h]; trivial) (.inl rfl) (fun b u hb q => (Heap.get?_update_other _ _ (Ne.symm hb)).trans q) ⟨_, e⟩ ?_
 exact ⟨hz, its', n', r, e⟩
noncomputable def rSetL : V -> V -> V -> Hp -> (Hp -> Prop) -> Prop := fun o i v H Q => ∃ p xs k j, o = .ref p /\ i = .int k /\ H p = some (.lst xs) /\ ixN xs.length k = some j /\ Q (upd H p (.lst (xs.set j v)))
theorem set_list : PSet X rSetL := by
 intro pins s σ H o i v ov iv u Q I ro ri rv h
 obtain ⟨p, xs, k, j, rfl, rfl, hp, hj, q⟩ := h
 cases ro
 obtain ⟨t, rfl⟩ := ri
 obtain ⟨its, n, r, ho, hz⟩ := I.lst hp
 obtain ⟨h1, h2, h3, h4⟩ := ixN_seq hj
 have hl := r.length
 have hn := line63
 have I' : Inv X pins σ (upd H p (.lst (xs.set j v))) { s with heap := s.heap.update p (Obj.mapSeq (·.setIfInBounds j u)) } :=
  I.lstUpd hp ho (mapSeq_set its n j u) (r.set rv j) (by rw [List.length_set]; exact hz) s.toks
 by_cases h0 : 0 <= k
 ·have hk : k.toNat = j := by
   rw [seqIndex_of h0 h4] at h1
   exact Option.some.inj h1
  exact W.ki_setAt ho h0 (by lia) (by rw [List.size_toArray, ← hl]; exact h4) (by rw [hk]; exact ⟨_, I', q⟩)
 ·have hk : (k + (its.toArray.size : Int)).toNat = j := by
   rw [seqIndex_neg (by lia) h3] at h1
   rw [List.size_toArray, ← hl]
   exact Option.some.inj h1
  exact W.ki_setBack ho (by lia) (by rw [List.size_toArray, ← hl]; exact h3) (by lia) (by rw [hk]; exact ⟨_, I', q⟩)
theorem slice_bounds (lo hi : Option Int) (n : Nat) : (sliceBounds lo hi none n).1 = ((HT.sIx n 0 lo : Nat) : Int) /\ (sliceBounds lo hi none n).2.1 = ((HT.sIx n n hi : Nat) : Int) /\ (sliceBounds lo hi none n).2.2 = 1 := by
 refine ⟨?_, ?_, rfl⟩
 ·cases lo with
  | none => simp [sliceBounds, HT.sIx]
  | some i =>
   simp only [sliceBounds, HT.sIx, Option.getD_none, show (1 : Int) > 0 by decide, if_true]
   by_cases h : i < 0
   ·simp only [h, if_true] <;> lia
   ·simp only [h, if_false] <;> lia
 ·cases hi with
  | none => simp [sliceBounds, HT.sIx]
  | some i =>
   simp only [sliceBounds, HT.sIx, Option.getD_none, show (1 : Int) > 0 by decide, if_true]
   by_cases h : i < 0
   ·simp only [h, if_true] <;> lia
   ·simp only [h, if_false] <;> lia
theorem slicePick_cut (its : List Value) (lo hi : Option Int) : slicePick its.toArray lo hi none = ((its.drop (HT.sIx its.length 0 lo)).take (HT.sIx its.length its.length hi - HT.sIx its.length 0 lo)).toArray := by
 obtain ⟨h1, h2, h3⟩ := slice_bounds lo hi its.toArray.size
 unfold slicePick
 rw [h1, h2, h3]
 simp only [sliceRange_one, pick_run, List.size_toArray] <;> rfl
noncomputable def rSlL (K : W.Frag) : V -> Option Int -> Option Int -> Hp -> VK -> Prop := fun x lo hi H Q => ∃ a xs, x = .ref a /\ SqL K H a xs /\ ∀ p, H p = none -> Q (.ref p) (upd H p (.lst (cutV xs lo hi)))
theorem sl_list : SlR X (rSlL X.K) := by
 intro pins s σ H x v vl vu lo hi sl Q I rx hs pl pu h
 obtain ⟨a, xs, rfl, hx, q⟩ := h
 cases rx
 obtain ⟨its, r, ht, hz⟩ := I.list hx
 have hlen := r.length
 refine ⟨"list", _, slot_list_getitem.lookup, ht.isList.typeIs, ?_⟩
 refine wpAny_getItem_list_slice ht.isList hs pl pu .none (by simp) ?_ (by rw [List.size_toArray] <;> lia)
 rw [slicePick_cut, ← hlen]
 refine ⟨.ref s.heap.objs.size, _, I.laid (t' := s.toks) (o := .lst (cutV xs lo hi)) (fun b ob q => Heap.get?_push_of_some _ q) (Nat.le_refl _) ?_, rfl, q _ (I.hok.fresh (Nat.le_refl _))⟩
 exact ⟨Nat.le_trans (ZbZ xs lo hi) hz, _, 0, (r.drop (HT.sIx xs.length 0 lo)).take (HT.sIx xs.length xs.length hi - HT.sIx xs.length 0 lo), Heap.get?_push_size _ rfl⟩
noncomputable def flatV : V -> Bool
 | .non => true
 | .bl _ => true
 | .int _ => true
 | .str _ => true
 | _ => false
noncomputable def eqV : V -> V -> Bool
 | .non, .non => true
 | .bl a, .bl b => a == b
 | .bl a, .int b => (if a then 1 else 0) == b
 | .int a, .bl b => a == (if b then 1 else 0)
 | .int a, .int b => a == b
 | .str a, .str b => a == b
 | _, _ => false
theorem eqAt_V {A : Around} {s : Shared} {y x : V} {u v : Value} (ry : RelV y u) (rx : RelV x v) (fy : flatV y = true) (fx : flatV x = true) : SeqAt.EqAt A s u v (eqV y x) := by
 cases y with
 | non =>
  cases ry
  cases x with
  | non => cases rx; exact SeqAt.EqAt.same _
  | bl b => cases rx; exact SeqAt.EqAt.none_bool b
  | int b => obtain ⟨t, rfl⟩ := rx; exact SeqAt.EqAt.none_int b t
  | str b => obtain ⟨t, rfl⟩ := rx; exact SeqAt.EqAt.none_str b t
  | _ => exact absurd (show false = true from fx) Bool.false_ne_true
 | bl a =>
  cases ry
  cases x with
  | non => cases rx; exact SeqAt.EqAt.bool_none a
  | bl b => cases rx; exact SeqAt.EqAt.bool_bool a b
  | int b => obtain ⟨t, rfl⟩ := rx; exact SeqAt.EqAt.bool_int a b t
  | str b => obtain ⟨t, rfl⟩ := rx; exact SeqAt.EqAt.bool_str a b t
  | _ => exact absurd (show false = true from fx) Bool.false_ne_true
 | int a =>
  obtain ⟨t', rfl⟩ := ry
  cases x with
  | non => cases rx; exact SeqAt.EqAt.int_none a t'
  | bl b => cases rx; exact SeqAt.EqAt.int_bool a t' b
  | int b => obtain ⟨t, rfl⟩ := rx; exact SeqAt.EqAt.int_int a t' b t
  | str b => obtain ⟨t, rfl⟩ := rx; exact SeqAt.EqAt.int_str a t' b t
  | _ => exact absurd (show false = true from fx) Bool.false_ne_true
 | str a =>
  obtain ⟨t', rfl⟩ := ry
  cases x with
  | non => cases rx; exact SeqAt.EqAt.str_none a t'
  | bl b => cases rx; exact SeqAt.EqAt.str_bool a t' b
  | int b => obtain ⟨t, rfl⟩ := rx; exact SeqAt.EqAt.str_int a t' b t
  | str b => obtain ⟨t, rfl⟩ := rx; exact SeqAt.EqAt.str_str a t' b t
  | _ => exact absurd (show false = true from fx) Bool.false_ne_true
 | _ => exact absurd (show false = true from fy) Bool.false_ne_true
noncomputable def eqU (x : V) (u : Value) : Bool := match u with
 | .none => eqV .non x
 | .bool b => eqV (.bl b) x
 | .int i _ => eqV (.int i) x
 | .str z _ => eqV (.str z) x
 | _ => false
theorem eqU_of {x y : V} {u : Value} (r : RelV y u) (f : flatV y = true) : eqU x u = eqV y x := by
 cases y with
 | non => cases r; rfl
 | bl b => cases r; rfl
 | int i => obtain ⟨t, rfl⟩ := r; rfl
 | str z => obtain ⟨t, rfl⟩ := r; rfl
 | _ => exact absurd (show false = true from f) Bool.false_ne_true
theorem any_eqU {x : V} : ∀ {xs : List V} {us : List Value}, Vals xs us -> xs.all flatV = true -> us.any (eqU x) = xs.any fun y => eqV y x
 | _, _, .nil, _ => rfl
 | y :: xs, u :: us, .cons r t, f => by
  rw [List.all_cons, Bool.and_eq_true] at f
  rw [List.any_cons, List.any_cons, eqU_of r f.1, any_eqU t f.2]
theorem mem_eqAt {A : Around} {s : Shared} {x : V} {v : Value} (rx : RelV x v) (fx : flatV x = true) : ∀ {xs : List V} {us : List Value}, Vals xs us -> xs.all flatV = true -> ∀ u ∈ us, SeqAt.EqAt A s u v (eqU x u)
 | _, _, .nil, _ => fun u hu => by cases hu
 | y :: xs, u :: us, .cons r t, f => fun u' hu => by
  rw [List.all_cons, Bool.and_eq_true] at f
  rcases List.mem_cons.mp hu with rfl | hu
  ·rw [eqU_of r f.1]; exact eqAt_V r rx f.1 fx
  ·exact mem_eqAt rx fx t f.2 u' hu
noncomputable def inV (x : V) (xs : List V) : Bool := xs.any fun y => eqV y x
noncomputable def rIn (K : W.Frag) (neg : Bool) : R2 := fun x y H Q => ∃ p xs, y = .ref p /\ (SqL K H p xs \/ SqT K H p xs) /\ flatV x = true /\ xs.all flatV = true /\ Q (.bl (if neg then !inV x xs else inV x xs)) H
theorem op_in_seq : OpR X (compareOp .In) (rIn X.K false) := by
 intro pins s σ H x y v u Q I rx ry h
 obtain ⟨p, xs, rfl, hq, fx, fs, q⟩ := h
 cases ry
 rcases hq with hq | hq
 ·obtain ⟨its, r, pl, hz⟩ := I.list hq
  refine SeqAt.in_listAt (eqU x) pl.isList (fun w hw => mem_eqAt rx fx r fs w (by simpa using hw)) ⟨.bl _, H, I, rfl, ?_⟩
  rw [show its.toArray.any (eqU x) = its.any (eqU x) by simp, any_eqU r fs]
  exact q
 ·obtain ⟨its, r, pl, hz⟩ := I.tuple hq
  refine SeqAt.in_tupleAt (eqU x) pl (fun w hw => mem_eqAt rx fx r fs w (by simpa using hw)) ⟨.bl _, H, I, rfl, ?_⟩
  rw [show its.toArray.any (eqU x) = its.any (eqU x) by simp, any_eqU r fs]
  exact q
theorem call_list_of : CallR X (.type "list") (fun xs H Q => ∃ p ys, xs = [.ref p] /\ (SqL X.K H p ys \/ SqT X.K H p ys) /\ ∀ l, H l = none -> Q (.ref l) (upd H l (.lst ys))) := by
 intro pins s σ H xs us Q I r h
 obtain ⟨p, ys, rfl, hq, q⟩ := h
 obtain ⟨u, rfl, rx⟩ := vals1 r
 cases rx
 have fin : ∀ (its : List Value), Vals ys its -> ys.length <= sizeLine -> ∀ (h' : Heap) (c' : Nat), (∀ b o', s.heap.get? b = some o' -> h'.get? b = some o') ->
   h'.get? s.heap.objs.size = some { cls := .type "list", dict := none, data := .seq its.toArray c', slots := #[] } -> EP X pins σ Q (.ref s.heap.objs.size) { s with heap := h' } := fun its r' hz h' c' kp e =>
  ⟨.ref s.heap.objs.size, _, I.laid (t' := s.toks) kp (Nat.le_refl _) (show ObjOk X.prog X.w _ h' _ (.lst ys) from ⟨hz, its, c', r', e⟩), rfl, q _ (I.hok.fresh (Nat.le_refl _))⟩
 rcases hq with hq | hq
 ·obtain ⟨its, r', pl, hz⟩ := I.list hq
  have hlen := r'.length
  obtain ⟨o, ho, hc, n, hd⟩ := pl.isList
  exact call_list_seq p (.inl rfl) ho hc hd (fun h' c' kp e => fin its r' hz h' c' kp e) (by simp only [List.size_toArray] <;> lia)
 ·obtain ⟨its, r', pl, hz⟩ := I.tuple hq
  have hlen := r'.length
  obtain ⟨o, ho, hc, n, hd⟩ := pl
  exact call_list_seq p (.inr rfl) ho hc hd (fun h' c' kp e => fin its r' hz h' c' kp e) (by simp only [List.size_toArray] <;> lia)
theorem call_tuple_of : CallR X (.type "tuple") (fun xs H Q => ∃ p ys, xs = [.ref p] /\ ((SqL X.K H p ys /\ ∀ l, H l = none -> Q (.ref l) (upd H l (.tup ys))) \/ (SqT X.K H p ys /\ Q (.ref p) H))) := by
 intro pins s σ H xs us Q I r h
 obtain ⟨p, ys, rfl, h⟩ := h
 obtain ⟨u, rfl, rx⟩ := vals1 r
 cases rx
 rcases h with ⟨hq, q⟩ | ⟨hq, q⟩
 ·obtain ⟨its, r', pl, hz⟩ := I.list hq
  have hlen := r'.length
  refine call_tuple_list pl.isList (fun h' kp => ?_) (by simp only [List.size_toArray] <;> lia)
  have I1 : Inv X pins σ H { s with heap := h' } := I.kept (t' := s.toks) kp
  have I2 : Inv X pins σ (upd H h'.objs.size (.tup ys)) { s with heap := h'.push { cls := .type "tuple", data := .seq its.toArray } } :=
   I1.laid (t' := s.toks) (fun b o e => Heap.get?_push_of_some _ e) (Nat.le_refl _) (show ObjOk X.prog X.w _ _ _ (.tup ys) from ⟨hz, its, r', IsTup.new _ _⟩)
  exact ⟨.ref h'.objs.size, _, I2, rfl, q _ (I1.hok.fresh (Nat.le_refl _))⟩
 ·obtain ⟨its, r', pl, hz⟩ := I.tuple hq
  exact call_tuple_same pl ⟨.ref p, H, I, rfl, q⟩
noncomputable def tyV (K : W.Frag) (T : String) (x : V) (H : Hp) : Prop := match x with
 | .str _ => T = "str"
 | .int _ => T = "int"
 | .ref p => (T = "list" /\ ∃ xs, SqL K H p xs) \/ (T = "tuple" /\ ∃ o, K.lookup p = some o /\ o.cls = .type "tuple" /\ o.dict = none) \/
   (T = "dict" /\ ((∃ kvs, H p = some (.dK kvs)) \/ ∃ kvs, H p = some (.dT kvs))) \/ (T = "set" /\ ∃ S n, H p = some (.set S n))
 | _ => False
theorem tyV_is {pins : List (Addr × Obj)} {σ : St} {H : Hp} {s : Shared} {T : String} {x : V} {v : Value} (I : Inv X pins σ H s) (r : RelV x v) (ty : tyV X.K T x H) :
  s.TypeIs v T /\ ∀ a, v = .ref a -> ∃ ob, s.heap.get? a = some ob /\ ob.dict = none := by
 cases x with
 | str z =>
  obtain ⟨t, rfl⟩ := r
  cases (show T = "str" from ty)
  exact ⟨typeIs_str s z t, fun _ e => nomatch e⟩
 | int i =>
  obtain ⟨t, rfl⟩ := r
  cases (show T = "int" from ty)
  exact ⟨typeIs_int s i t, fun _ e => nomatch e⟩
 | ref p =>
  cases r
  rcases ty with ⟨rfl, xs, hq⟩ | ⟨rfl, o, hk, hc, hd⟩ | ⟨rfl, hk⟩ | ⟨rfl, S, n, hk⟩
  ·obtain ⟨its, _, pl, _⟩ := I.list hq
   refine ⟨pl.isList.typeIs, fun a e => ?_⟩
   cases e
   obtain ⟨o, n, e, c, hd, _⟩ := pl
   exact ⟨o, e, hd⟩
  ·refine ⟨⟨o, I.kIn p o hk, hc⟩, fun a e => ?_⟩
   cases e
   exact ⟨o, I.kIn _ o hk, hd⟩
  ·have z : ∃ o, s.heap.get? p = some o /\ o.ExactDict := by
    rcases hk with ⟨kvs, hk⟩ | ⟨kvs, hk⟩
    ·obtain ⟨_, _, _, _, o, _, _, e, ex, _⟩ := I.hok p _ hk
     exact ⟨o, e, ex⟩
    ·obtain ⟨_, _, _, _, o, _, _, e, ex, _⟩ := I.hok p _ hk
     exact ⟨o, e, ex⟩
   obtain ⟨o, e, ex⟩ := z
   refine ⟨⟨o, e, ex.1⟩, fun a e2 => ?_⟩
   cases e2
   exact ⟨o, e, ex.2.1⟩
  ·obtain ⟨o, _, _, _, e, ex, _⟩ := I.hok p _ hk
   refine ⟨⟨o, e, ex.1⟩, fun a e2 => ?_⟩
   cases e2
   exact ⟨o, e, ex.2.1⟩
 | _ => exact False.elim ty
noncomputable def tBM0 (K : W.Frag) (T : String) (r : V -> List V -> Hp -> VK -> Prop) (to : TE) : TE := fun σ H Q => to σ H fun x H1 => tyV K T x H1 /\ r x [] H1 Q
noncomputable def tBM (K : W.Frag) (T : String) (r : V -> List V -> Hp -> VK -> Prop) (to : TE) (t : TA) : TE := fun σ H Q => to σ H fun x H1 => tyV K T x H1 /\ t σ H1 fun xs H2 => r x xs H2 Q
variable {o e : Expr} {es : List Expr} {to : TE} {t : TA} {name : Str} {apos cpos : Pos} {T id : String} {r : V -> List V -> Hp -> VK -> Prop}
theorem pe_bm0 (pa : PlainAttrs T) (slot : Slot T name id) (hty : typeOf (.builtin id) = pure (.type "method_descriptor")) (hm : MtR X id r) (ho : PE X o to)
  (hbase : attributeBase o name X.env (eval o X.env) = eval o X.env := by rfl) (hline : (apos.endLine == cpos.line) = true := by rfl) : PE X (.Call (.Attribute o name apos) [] [] cpos) (tBM0 X.K T r to) := by
 intro pins s σ H Q I h
 refine wpAny_Call_method0_late hbase hline (thn (ho pins s σ H _ I h) fun v s1 h_ => ?_)
 obtain ⟨x, H1, I1, r1, ty, q1⟩ := h_
 obtain ⟨h1, h2⟩ := tyV_is I1 r1 ty
 exact ⟨T, id, pa, slot, hty, h1, h2, Calls.callWith_builtin rfl (PySem.evalArgs_none (hm pins s1 σ H1 x [] v [] Q I1 r1 .nil q1))⟩
theorem pe_bm (pa : PlainAttrs T) (slot : Slot T name id) (hty : typeOf (.builtin id) = pure (.type "method_descriptor")) (hm : MtR X id r) (ho : PE X o to) (ha : PA X (e :: es) t)
  (hbase : attributeBase o name X.env (eval o X.env) = eval o X.env := by rfl)
  (hfew : ((backTo cpos (starEach (e :: es) X.env)).all (fun x => !x.1) && (backToKw cpos (keywordEach [] X.env)).all (fun x => x.1.isSome)
   && decide ((e :: es).length + ([] : List Keyword).length + (if ([] : List Keyword).isEmpty then 0 else 1) < 30)) = true := by rfl)
  (hline : (apos.endLine == cpos.line) = true := by rfl) (hs : starEach (e :: es) X.env = (false, eval e X.env) :: starEach es X.env := by rfl) (hplain : (backTo cpos (starEach es X.env)).any (·.1) = false := by rfl) :
  PE X (.Call (.Attribute o name apos) (e :: es) [] cpos) (tBM X.K T r to t) := by
 intro pins s σ H Q I h
 refine wpAny_Call_method_late hbase hfew hline rfl (thn (ho pins s σ H _ I h) fun v s1 h_ => ?_)
 obtain ⟨x, H1, I1, r1, ty, q1⟩ := h_
 obtain ⟨h1, h2⟩ := tyV_is I1 r1 ty
 refine ⟨T, id, pa, slot, hty, h1, h2, ?_⟩
 have hA := ha cpos pins s1 σ H1 _ I1 q1
 rw [hs] at hA ⊢
 refine Calls.callWith_builtin (by show (false || (backTo cpos (starEach es X.env)).any (·.1)) = false; rw [hplain] <;> rfl) (Calls.evalArgs_plain ?_)
 exact thn hA fun us s2 ⟨vs, H2, I2, r2, q2⟩ => hm pins s2 σ H2 x vs v us Q I2 r1 r2 q2
end
noncomputable def MtM (X : Cx) (id : String) (r : V -> List V -> Hp -> VK -> Prop) : Prop :=
 ∀ (pins : List (Addr × Obj)) (s : Shared) (σ : St) (H : Hp) (x : V) (xs : List V) (v : Value) (us : List Value) (Q : VK), Inv X pins σ H s -> RelV x v -> Vals xs us -> r x xs H Q ->
  wpAny (model X.prog X.w) X.A (call (.builtin id) (v :: us)) (EP X pins σ Q) X.xe s
theorem Vals.one : ∀ {x : V} {us : List Value}, Vals [x] us -> ∃ u, us = [u] /\ RelV x u := by
 intro x us r
 cases r with
 | cons r t => cases t; exact ⟨_, rfl, r⟩
theorem Vals.two : ∀ {x y : V} {us : List Value}, Vals [x, y] us -> ∃ u v, us = [u, v] /\ RelV x u /\ RelV y v := by
 intro x y us r
 cases r with
 | cons r t => cases t with
  | cons q t => cases t; exact ⟨_, _, rfl, r, q⟩
theorem Vals.zero : ∀ {us : List Value}, Vals [] us -> us = []
 | _, .nil => rfl
theorem Vals.dropLast {xs : List V} {us : List Value} (h : Vals xs us) : Vals xs.dropLast us.dropLast := by
 induction h with
 | nil => exact .nil
 | cons r t ih =>
  cases t with
  | nil => exact .nil
  | cons q t' => exact .cons r ih
theorem Vals.reverse {xs : List V} {us : List Value} (h : Vals xs us) : Vals xs.reverse us.reverse := by
 induction h with
 | nil => exact .nil
 | cons r t ih => rw [List.reverse_cons, List.reverse_cons]; exact Vals.append ih (.cons r .nil)
theorem erase_last {α : Type} (l : List α) : l.eraseIdx (l.length - 1) = l.dropLast := by
 induction l with
 | nil => rfl
 | cons a r ih =>
  cases r with
  | nil => rfl
  | cons b r =>
   have e : (a :: b :: r).length - 1 = ((b :: r).length - 1) + 1 := by
    have h1 : (a :: b :: r).length = r.length + 2 := rfl
    have h2 : (b :: r).length = r.length + 1 := rfl
    lia
   rw [e, List.eraseIdx_cons_succ, ih]
   all_goals rfl
section
variable {X : Cx} {pins : List (Addr × Obj)} {σ : St} {H : Hp} {s : Shared} {l b : Addr} {xs ys zs : List V}
theorem Inv.lset {its its' : List Value} {n : Nat} {f : Array Value -> Array Value} {t' : Nat} (I : Inv X pins σ H s) (hH : H l = some (.lst xs))
  (e : s.heap.get? l = some { cls := .type "list", data := .seq its.toArray n }) (hf : f its.toArray = its'.toArray) (hv : Vals ys its') (hz : ys.length <= sizeLine) :
  Inv X pins σ (upd H l (.lst ys)) { s with heap := s.heap.update l (Obj.mapSeq f), toks := t' } := by
 have q := PySem.IsL.update e f
 rw [hf] at q
 refine I.write (x := l) (e := l) (by rw [hH]; exact trivial) (.inl rfl) (fun b' u hb hu => (Heap.get?_update_other s.heap (Obj.mapSeq f) (Ne.symm hb)).trans hu) ⟨_, q⟩ ?_
 exact ⟨hz, its', _, hv, q⟩
theorem Inv.lnew {its : List Value} {t' : Nat} (I : Inv X pins σ H s) (hv : Vals ys its) (hz : ys.length <= sizeLine) :
  Inv X pins σ (upd H s.heap.objs.size (.lst ys)) { s with heap := s.heap.push { cls := .type "list", data := .seq its.toArray }, toks := t' } :=
 I.laid (fun _ _ q => Heap.get?_push_of_some _ q) (Nat.le_refl _) ⟨hz, its, 0, hv, Heap.get?_push_size _ rfl⟩
theorem Inv.fresh (I : Inv X pins σ H s) : H s.heap.objs.size = none := I.hok.fresh (Nat.le_refl _)
theorem Inv.lstM (I : Inv X pins σ H s) (hH : H l = some (.lst xs)) : xs.length <= sizeLine /\ ∃ (its : List Value) (n : Nat), Vals xs its /\ xs.length = its.length /\ s.heap.get? l = some { cls := .type "list", data := .seq its.toArray n } := by
 obtain ⟨z, its, n, r, e⟩ := I.hok l _ hH
 exact ⟨z, its, n, r, r.length, e⟩
end
section
variable {X : Cx}
noncomputable def rAppend : V -> List V -> Hp -> VK -> Prop := fun x vs H Q => ∃ l xs y, x = .ref l /\ vs = [y] /\ H l = some (.lst xs) /\ xs.length < sizeLine /\ Q .non (upd H l (.lst (xs ++ [y])))
theorem mt_append : MtM X "list.append" rAppend := by
 intro pins s σ H x vs v us Q I rx rv h
 obtain ⟨l, xs, y, rfl, rfl, hH, hz, q⟩ := h
 cases rx
 obtain ⟨u, rfl, ru⟩ := rv.one
 obtain ⟨z, its, n, r, hl, e⟩ := I.lstM hH
 refine call_meets F.slot_list_append ⟨_, e, rfl⟩ F.entry_list_append (F.args_list_append_2 _ _) (PySem.list_append l its.toArray n u (by rw [List.size_toArray]; lia)) ⟨e, ?_⟩
 refine ⟨.non, _, I.lset (its' := its ++ [u]) hH e (by simp) (r.append (.cons ru .nil)) ?_, rfl, q⟩
 rw [List.length_append, List.length_singleton]
 lia
noncomputable def rPop : V -> List V -> Hp -> VK -> Prop := fun x vs H Q => ∃ l xs y, x = .ref l /\ vs = [] /\ H l = some (.lst xs) /\ xs[xs.length - 1]? = some y /\ Q y (upd H l (.lst xs.dropLast))
theorem mt_pop : MtM X "list.pop" rPop := by
 intro pins s σ H x vs v us Q I rx rv h
 obtain ⟨l, xs, y, rfl, rfl, hH, hy, q⟩ := h
 cases rx
 have hus := rv.zero
 subst hus
 obtain ⟨z, its, n, r, hl, e⟩ := I.lstM hH
 obtain ⟨u, hu, ru⟩ := r.get hy
 have hy' : its.toArray[its.toArray.size - 1]? = some u := by
  show its.toArray[its.length - 1]? = some u
  rw [← Array.getElem?_toList, ← hl]
  exact hu
 refine call_meets F.slot_list_pop ⟨_, e, rfl⟩ F.entry_list_pop (F.args_list_pop_1 _) (MeetsSeq.list_pop_last l its.toArray n u hy' (by rw [List.size_toArray]; lia)) ⟨e, ?_⟩
 refine ⟨y, _, I.lset (its' := its.dropLast) hH e ?_ r.dropLast ?_, ru, q⟩
 ·show its.toArray.eraseIdxIfInBounds (its.toArray.size - 1) = its.dropLast.toArray
  rw [List.size_toArray, List.eraseIdxIfInBounds_toArray, erase_last]
 ·rw [List.length_dropLast]
  lia
noncomputable def rReverse : V -> List V -> Hp -> VK -> Prop := fun x vs H Q => ∃ l xs, x = .ref l /\ vs = [] /\ H l = some (.lst xs) /\ Q .non (upd H l (.lst xs.reverse))
theorem mt_reverse : MtM X "list.reverse" rReverse := by
 intro pins s σ H x vs v us Q I rx rv h
 obtain ⟨l, xs, rfl, rfl, hH, q⟩ := h
 cases rx
 have hus := rv.zero
 subst hus
 obtain ⟨z, its, n, r, hl, e⟩ := I.lstM hH
 refine call_meets F.slot_list_reverse ⟨_, e, rfl⟩ F.entry_list_reverse (F.args_list_reverse_1 _) (AutoSeq1.list_reverse_list_0 l its.toArray n (by rw [List.size_toArray]; lia)) ⟨e, ?_⟩
 refine ⟨.non, _, I.lset (its' := its.reverse) hH e (by simp) r.reverse ?_, rfl, q⟩
 rw [List.length_reverse]
 lia
end
end L2
namespace Att
open PySem PySem.W PySem.Calls PyProof.Rows
theorem ZbV {P : Params} {h : Heap} : ∀ (ns : List Int) (vs : List Value), WellAll P h vs (ns.map WData.int) -> IntsAre vs ns := by
 intro ns
 induction ns with
 | nil =>
  intro vs w
  rw [List.map_nil] at w
  cases w
  exact .nil
 | cons n ns ih =>
  intro vs w
  rw [List.map_cons] at w
  cases w with
  | cons a b =>
   cases a
   exact .cons _ _ (ih _ b)
theorem script_of {l : OpenLaw} {n : Nat} (hn : l.most = some n) {P : Params} {h : Heap} {args : List WData} {vals : List Value}
    (hpre : l.row.toRowW.claim.pre args = true) (hwl : WellAll P h vals args) :
    ∃ a vs ns, vals = [Value.ref a] /\ args = [WData.list (ns.map WData.int)] /\ h.get? a = some { cls := .type "list", data := .seq vs.toArray } /\ IntsAre vs ns /\ ns.length <= n := by
  have hsh : WShape.hasAll [] args [.list .int] = true := (pre_splitW hpre).1
  have hc : l.pre.holds [] { args := args } = true := (pre_splitW hpre).2
  obtain ⟨d, r, rfl, h1, h2⟩ := hasAllW_cons hsh
  obtain rfl := hasAllW_nil h2
  obtain ⟨xs, rfl, h3⟩ := hasW_list h1
  obtain ⟨ns, rfl⟩ := items_int h3
  have hlen : ns.length <= n := by
    unfold OpenLaw.pre at hc
    have h4 : (WTm.not (.lt (.lit (.int (n : Int))) (.len (.arg 0)))).holds [] { args := [.list (ns.map .int)] } = true := by
      have h4 := (holds_andW hc).1
      rw [hn] at h4
      exact h4
    have h5 := condW_of h4 (w_not (w_lt w_lit (w_len_list (w_arg rfl))))
    rw [List.length_map] at h5
    refine Nat.le_of_not_lt fun q => ?_
    have q' : (n : Int) < ((ns.length : Nat) : Int) := by lia
    first
      | (rw [decide_eq_true q'] at h5; exact absurd h5 (by decide))
      | (simp at h5; lia)
  cases hwl with
  | cons w1 w2 =>
    cases w2
    cases w1 with
    | list ho hall => exact ⟨_, _, ns, rfl, rfl, ho, ZbV ns _ hall, hlen⟩
theorem post_true (l : OpenLaw) (args : List WData) : l.row.toRowW.claim.post args (.bool true) args = true :=
 postW_of (r := l.row.toRowW) (X := (true == true))
  (show WShape.has [] (.bool true) .bool = true by first | rfl | decide | simp [WShape.has, WShape.arms, WShape.armsAll])
  (show (WTm.eq .res (.lit (.bool true))).value [] { args := args, res := some (.bool true), after := args } = some (.bool (true == true)) from w_eq_bool (w_res rfl) w_lit) rfl
theorem attach_call {l : OpenLaw} {n : Nat} {q : Program} {loose : List Str} {XP : (Str -> Option Value) -> Heap -> Prop} {YP : World -> Heap -> Prop} {d : DefRec}
  (hn : l.most = some n) (hdf : d.params.defaults = [])
  (call : ∀ (w : World) (s₀ s₁ : Shared) (mg mb : Str -> Option Value) (fa : Addr) (o : Obj) (pm cd doc : Value) (a : Addr) (vs : List Value) (ns : List Int),
   Ground q loose [] XP w s₀ mg mb s₁.heap -> YP w s₁.heap ->
   s₁.heap.get? fa = some o -> o.data = .func (docDef d.name d.params d.body d.scope pm cd doc) -> s₁.heap.CodeRec cd d.name -> mg d.name = some (.ref fa) ->
   s₁.heap.get? a = some { cls := .type "list", data := .seq vs.toArray } -> IntsAre vs ns -> ns.length <= n -> s₁.gens = #[] ->
   codeAny (model l.prog w) callerA (.call (.ref fa) ⟨[.ref a], []⟩) (fun r s' => r = .ok (.ret (.bool true)) /\ OldK s₁.heap s'.heap /\ s'.os = s₁.os /\ AllBare s'.gens) s₁) :
  WalkO q loose XP YP l.row.toRowW d [] (fun f vs => PySem.call f vs) := by
 intro w s₀ s₁ mg mb G Y fa o pm cd doc dV kV ho hd hcd hD hmg hg args vals as hpre hlay hrd hwl hlo
 obtain rfl : dV = .none := Dflts.none hD hdf
 obtain rfl : kV = .none := Dflts.noKw hD
 obtain ⟨a, vs, ns, rfl, rfl, hobj, hints, hlen⟩ := script_of hn hpre hwl
 refine enter_call (codeAny_mono (call w s₀ s₁ mg mb fa o pm cd doc a vs ns G Y ho (fd_plain hd) hcd hmg hobj hints hlen hg) fun r s' hq => ?_)
 obtain ⟨rfl, h2, h3, h4⟩ := hq
 exact ⟨.inl ⟨.bool true, .bool true, [], rfl, fun _ => rfl, .bool true, post_true l _, fun _ => ⟨List.Pairwise.nil, fun _ hm => (nomatch hm)⟩⟩, h2, h3, h4⟩
end Att
namespace L2
open PySem PySem.Spec PyProof.Rows
theorem vals_ints : ∀ {vs : List Value} {ns : List Int}, IntsAre vs ns -> Vals (ns.map V.int) vs
 | _, _, .nil => .nil
 | _, _, .cons n t h => .cons ⟨t, rfl⟩ (vals_ints h)
noncomputable def Only (H : Hp) : Prop := ∀ b, H b = none \/ ∃ o xs, H b = some (.frz o (.lst xs))
theorem law_call {P : Program} {w : World} {K : W.Frag} {mg mb : Str -> Option Value} {CX : CXT} {k : Nat} {fa a : Addr} {fd : FuncData} {x : Str} {sp : Sp} {s₁ : Shared} {vs : List Value} {ns : List Int}
  (KX : K.In s₁.heap) (hns : s₁.heap.Ns mainGlobals mg) (hb : s₁.heap.Ns builtinsNs mb) (hbb : ∀ x : Str, x ≠ "__name__" -> mb x = bootBuiltins x) (hlim : s₁.heap.NoLimit) (hg : s₁.gens = #[])
  (ha : s₁.heap.get? a = some { cls := .type "list", data := .seq vs.toArray }) (hi : IntsAre vs ns) (hl : ns.length <= sizeLine) (hr : Room k callerA)
  (F : ∀ base : Heap, K.In base -> base.Ns mainGlobals mg -> FnOk P w K mg base CX k fa fd [x] sp) (hbind : ∀ (s : Shared) (u : Value), BindsTo s fd ⟨[u], []⟩ [(x, u)])
  (hsp : ∀ H : Hp, Only H -> SqL K H a (ns.map V.int) -> sp [.ref a] H (fun v _ => v = .bl true) fun _ _ _ => False)
  (hCX : ∀ H e s', CX [] H s₁ (fun _ _ _ => False) e s' -> False) :
  codeAny (model P w) callerA (.call (.ref fa) ⟨[.ref a], []⟩) (fun r s' => r = .ok (.ret (.bool true)) /\ OldK s₁.heap s'.heap /\ s'.os = s₁.os /\ AllBare s'.gens) s₁ := by
 have rv := vals_ints hi
 have lenV := hi.length
 have core : ∀ H : Hp, Only H -> SqL K H a (ns.map V.int) -> HOk P w H s₁.heap -> (∀ b, H b ≠ none -> b = a) -> (H a ≠ none -> K.lookup a = none) ->
   codeAny (model P w) callerA (.call (.ref fa) ⟨[.ref a], []⟩) (fun r s' => r = .ok (.ret (.bool true)) /\ OldK s₁.heap s'.heap /\ s'.os = s₁.os /\ AllBare s'.gens) s₁ := by
  intro H hO hS hok hA hK
  have base_of : ∀ {b : Addr} {o : Obj}, s₁.heap.get? b = some o -> H b = none -> (hidT s₁.heap H).get? b = some o := fun e n => hidT_get e n
  have noA : ∀ {b : Addr} {o : Obj} {es : Array DictEntry} {ep : Nat}, s₁.heap.get? b = some o -> o.data = .dict es ep -> H b = none := fun {b o es ep} e d => by
   cases q : H b with
   | none => rfl
   | some u =>
    have e' : b = a := hA b (by rw [q]; simp)
    subst e'
    rw [ha] at e; cases e
    have d' : Data.seq vs.toArray _ = Data.dict es ep := d
    cases d'
  have nsK : ∀ {b : Addr} {m : Str -> Option Value}, s₁.heap.Ns b m -> (hidT s₁.heap H).Ns b m := fun {b m} ⟨o, es, ep, e, d, r⟩ => ⟨o, es, ep, base_of e (noA e d), d, r⟩
  have hKb : K.In (hidT s₁.heap H) := fun b o e => base_of (KX b o e) (by
   cases q : H b with
   | none => rfl
   | some u =>
    have e' : b = a := hA b (by rw [q]; simp)
    subst e'
    rw [hK (by rw [q]; simp)] at e; cases e)
  have hM : Mod K mg (hidT s₁.heap H) := ⟨hKb, nsK hns, ⟨mb, nsK hb, hbb⟩, let ⟨mc, h1, h2⟩ := hlim; ⟨mc, nsK h1, h2⟩⟩
  have e0 : Env0 P w K mg (hidT s₁.heap H) callerA [] s₁ H := ⟨rfl, hM, fun b o e => of_hidT e, Nat.le_of_eq (hidT_size _ _), trivial, fun b hb => absurd (show b ∈ ([] : List Addr) from hb) (by simp), hok, .of_eq hg⟩
  refine codeAny_mono ((F _ hKb (nsK hns)).run callerA [] s₁ H ⟨[.ref a], []⟩ [.ref a] [.ref a] _ _ hr e0 (hbind s₁ (.ref a)) (.cons rfl .nil) (hsp H hO hS)) fun r s' h => ?_
  cases r with
  | error e => exact (hCX H e s' h).elim
  | ok fl =>
   cases fl with
   | next => exact False.elim h
   | brk => exact False.elim h
   | cont => exact False.elim h
   | ret u =>
    obtain ⟨v, H', os, bare, un, hok', r', q⟩ := h
    have q' : v = .bl true := q
    subst q'
    obtain rfl : u = Value.bool true := r'
    refine ⟨rfl, OldK.of_keep fun b o e => ?_, os, bare⟩
    cases q : H b with
    | none => exact un.keep b o e q (by intro z; exact absurd (show b ∈ ([] : List Addr) from z) (by simp)) (by simp)
    | some u =>
     rcases hO b with z | ⟨ob, xs, z⟩
     ·rw [q] at z; cases z
     ·have z2 := un.frzs b ob _ z
      obtain ⟨e1, _⟩ := hok b _ z
      obtain ⟨e2, _⟩ := hok' b _ z2
      rw [e] at e1; cases e1
      exact e2
 cases hk : K.lookup a with
 | some o =>
  have e := KX a o hk
  rw [ha] at e
  cases e
  refine core (fun _ => none) (fun _ => .inl rfl) (.inr ⟨_, vs.toArray, _, hk, rfl, rfl, rfl, by rw [List.size_toArray, lenV]; exact hl, by simpa using rv⟩) (fun b u z => by have z' : (none : Option HO) = some u := z; cases z') (fun b z => absurd rfl z) fun z => absurd rfl z
 | none =>
  refine core (fun b => if b = a then some (.frz { cls := .type "list", data := .seq vs.toArray } (.lst (ns.map V.int))) else none) (fun b => ?_) (.inl (.inr ⟨{ cls := .type "list", data := .seq vs.toArray }, if_pos rfl⟩)) (fun b u z => ?_) (fun b z => ?_) fun _ => hk
  ·by_cases hb : b = a
   ·exact .inr ⟨_, _, if_pos hb⟩
   ·exact .inl (if_neg hb)
  ·by_cases hb : b = a
   ·have z' := (if_pos hb).symm.trans z
    cases z'
    subst hb
    exact ⟨ha, by rw [List.length_map]; exact hl, vs, _, rv, ha⟩
   ·have z' := (if_neg hb).symm.trans z
    cases z'
  ·by_cases hb : b = a
   ·exact hb
   ·exact absurd (if_neg hb) z
noncomputable def defArgs (s : Stmt) : Arguments := match s with
 | .FunctionDef _ a _ _ _ _ _ _ _ _ => a
 | _ => { posonlyargs := [], args := [], vararg := none, kwonlyargs := [], kw_defaults := [], kwarg := none, defaults := [] }
noncomputable def defBody (s : Stmt) : List Stmt := match s with
 | .FunctionDef _ _ b _ _ _ _ _ _ _ => b
 | _ => []
noncomputable def defScope (s : Stmt) : Scope := match s with
 | .FunctionDef _ _ _ _ _ _ sc _ _ _ => sc
 | _ => { kind := .function, names := [], isGenerator := false, isCoroutine := false }
noncomputable abbrev CX0 : CXT := fun _ _ _ _ _ _ => False
noncomputable abbrev E0 : XK := fun _ _ _ => False
theorem pass0 {X : Cx} : Passes CX0 X E0 := fun _ _ _ _ _ _ _ h => h.elim
structure Fun (K : W.Frag) (x qual : Str) (st : Stmt) (f : Addr) (fd : FuncData) : Prop where
 ex : ∃ (oc : Value) (od : Option Addr) (kV doc pm : Value) (an : Option Addr) (cdv ct : Value) (osl : Array (Option Value)),
  fd = W.fnOf x qual (defArgs st) (defBody st) (defScope st) .none kV doc pm an cdv ct /\ K.lookup f = some ⟨oc, od, .func fd, osl⟩ /\ W.codeIn K cdv qual = true
 kp : W.keepIn K (.ref f) = true
section
variable {P : Program} {w : World} {K : W.Frag} {mg : Str -> Option Value} {base : Heap}
theorem Fun.ok {x qual : Str} {st : Stmt} {f : Addr} {fd : FuncData} {N ps : List Str} {k : Nat} {sp : Sp} (F : Fun K x qual st f fd) (S : FnScope N ps (defScope st)) (len : ∀ vs H Q E, sp vs H Q E -> vs.length = ps.length)
  (hbody : ∀ (cdv : Value) (A : Around) (outer : List Env) (s : Shared) (H : Hp) (vs : List V) (Q : VK) (E : XK), Room k (A.deeper (envOfC qual (defScope st) s.heap.objs.size f cdv)) -> sp vs H Q E ->
   ∃ t, PSs (cxOf CX0 P w K mg base N qual (defScope st) f cdv A outer s H E).nox (defBody st) t /\ t { nx := fun _ H' => Q .non H', rt := Q } (start N vs) H) : FnOk P w K mg base CX0 (k + 1) f fd ps sp := by
 obtain ⟨oc, od, kV, doc, pm, an, cdv, ct, osl, rfl, lk, hcd⟩ := F.ex
 refine fn_of lk hcd S len fun A outer s H vs Q E hr hsp => ?_
 obtain ⟨t, h, q⟩ := hbody cdv A outer s H vs Q E hr hsp
 exact ⟨t, h.nox, q⟩
theorem Fun.binds {x qual : Str} {st : Stmt} {f : Addr} {fd : FuncData} {ps : List Str} (F : Fun K x qual st f fd)
  (h : ∀ (kV doc pm : Value) (an : Option Addr) (cdv ct : Value) (us : List Value), us.length = ps.length -> bindArgs (W.fnOf x qual (defArgs st) (defBody st) (defScope st) .none kV doc pm an cdv ct) ⟨us, []⟩ = pure (ps.zip us)) : Binds K fd ps [] := by
 obtain ⟨oc, od, kV, doc, pm, an, cdv, ct, osl, rfl, lk, hcd⟩ := F.ex
 exact .all (h kV doc pm an cdv ct)
theorem fun_mk {x qual : Str} {st : Stmt} {f : Addr} {oc : Value} {od an : Option Addr} {osl : Array (Option Value)} {kV doc pm cdv ct : Value} (l : K.lookup f = some ⟨oc, od, .func (W.fnOf x qual (defArgs st) (defBody st) (defScope st) .none kV doc pm an cdv ct), osl⟩)
  (c : W.codeIn K cdv qual = true) (k : W.keepIn K (.ref f) = true) : Fun K x qual st f (W.fnOf x qual (defArgs st) (defBody st) (defScope st) .none kV doc pm an cdv ct) := ⟨⟨oc, od, kV, doc, pm, an, cdv, ct, osl, rfl, l, c⟩, k⟩
end
theorem ZaI {A : Around} {k : Nat} (hr : Room k A) : A.units + 1 < cLine := Nat.lt_of_le_of_lt (Nat.add_le_add_left (by decide : 1 <= 64) _) hr.units
end L2
set_option maxHeartbeats 4000000
namespace L2
open PySem PySem.Spec PyProof.Rows
section
variable {κ : Type} [DecidableEq κ]
noncomputable def valV (kvs : List (κ × V)) (k : κ) : Option V := (kvs.find? fun kv => decide (kv.1 = k)).map (·.2)
theorem valV_pos {p : κ × V} {r : List (κ × V)} {k : κ} (e : p.1 = k) : valV (p :: r) k = some p.2 := by simp [valV, List.find?_cons, e]
theorem valV_neg {p : κ × V} {r : List (κ × V)} {k : κ} (e : ¬ p.1 = k) : valV (p :: r) k = valV r k := by simp [valV, List.find?_cons, e]
theorem KV.val {kvs : List (κ × V)} {vs : List (κ × Value)} (r : KV kvs vs) (k : κ) : RelO (valV kvs k) (valueAt vs k) := by
 unfold KV at r
 induction r with
 | nil => exact True.intro
 | @cons p q ps qs h t ih =>
  obtain ⟨h1, h2⟩ := h
  by_cases e : p.1 = k
  ·have e' : q.1 = k := h1.symm.trans e
   have b : valueAt (q :: qs) k = some q.2 := by simp [valueAt, List.find?_cons, e']
   rw [valV_pos e, b]; exact h2
  ·have e' : ¬ q.1 = k := fun z => e (h1.trans z)
   have b : valueAt (q :: qs) k = valueAt qs k := by simp [valueAt, List.find?_cons, e']
   rw [valV_neg e, b]; exact ih
end
theorem kV_is {P : Program} {w : World} {k : Key} {u : Value} (r : RelV (kV k) u) : (mixKind P w).is k u = true := by
 cases k with
 | inl i => obtain ⟨t, e⟩ := (show ∃ t, u = Value.int i t from r); subst e; exact mixKind_int P w i t
 | inr x => obtain ⟨t, e⟩ := (show ∃ t, u = Value.str x t from r); subst e; exact mixKind_str P w x t
theorem ZbU {P : Program} {w : World} : ∀ {ks : List Key} {us : List Value}, Vals (ks.map kV) us -> ItemsAre (mixKind P w) ks us
 | [], _, r => by rw [List.map_nil] at r; cases r; exact .nil
 | k :: ks, _, r => by
  rw [List.map_cons] at r
  cases r with
  | cons h t => exact .cons (kV_is h) (ZbU t)
noncomputable abbrev KT (H : Hp) : List (List Key × V) -> List (List Key × Addr × Value) -> Prop := Paired fun p q => p.1 = q.1 /\ H q.2.1 = some (.tup (p.1.map kV)) /\ RelV p.2 q.2.2
theorem KT.val {H : Hp} {kvs : List (List Key × V)} {xs : List (List Key × Addr × Value)} (r : KT H kvs xs) (k : List Key) : RelO (valV kvs k) ((atKey xs k).map (·.2)) := by
 induction r with
 | nil => exact True.intro
 | @cons p q ps qs h t ih =>
  obtain ⟨h1, _, h2⟩ := h
  by_cases e : p.1 = k
  ·have e' : q.1 = k := h1.symm.trans e
   have b : atKey (q :: qs) k = some q.2 := by simp [atKey, List.find?_cons, e']
   rw [valV_pos e, b]; exact h2
  ·have e' : ¬ q.1 = k := fun z => e (h1.trans z)
   have b : atKey (q :: qs) k = atKey qs k := by simp [atKey, List.find?_cons, e']
   rw [valV_neg e, b]; exact ih
section
variable {P : Program} {w : World} {H : Hp} {h : Heap} {a : Addr}
theorem rd_of {u : HO} (ok : HOk P w H h) (e : Rd H a u) : ObjOk P w H h a u := e.ok ok
theorem dk_rd {kvs : List (Key × V)} (ok : HOk P w H h) (e : Rd H a (.dK kvs)) : kvs.length <= sizeLine /\ (a == sysModules) = false /\ ∃ vs, KV kvs vs /\ h.DictOf (mixKind P w) a vs :=
 show ObjOk P w H h a (.dK kvs) from rd_of ok e
theorem key_of {ks : List Key} (ok : HOk P w H h) (e : H a = some (.tup (ks.map kV))) : (tupleKind (mixKind P w)).is h ks a := by
 obtain ⟨_, its, r, o, h1, h2, n, h3⟩ := (show ObjOk P w H h a (.tup (ks.map kV)) from ok a _ e)
 exact ⟨o, its.toArray, n, h1, h2, h3, by simpa using ZbU r⟩
theorem dt_rd {kvs : List (List Key × V)} (ok : HOk P w H h) (e : Rd H a (.dT kvs)) : kvs.length <= sizeLine /\ (a == sysModules) = false /\
  ∃ xs, KT H kvs xs /\ h.DictOfH (tupleKind (mixKind P w)) a xs := by
 obtain ⟨z, y, xs, r, o, es, ep, h1, h2, h3, h4, h5⟩ := (show ObjOk P w H h a (.dT kvs) from rd_of ok e)
 refine ⟨z, y, xs, r, o, es, ep, h1, h2, h3, h4, fun x hx => ?_, h5⟩
 have all : ∀ {l : List (List Key × V)} {m : List (List Key × Addr × Value)}, KT H l m -> ∀ x ∈ m, (tupleKind (mixKind P w)).is h x.1 x.2.1 := by
  intro l m q
  induction q with
  | nil => intro x hx; exact nomatch hx
  | @cons p q ps qs hq t ih =>
   intro x hx
   rcases List.mem_cons.mp hx with e | hx
   ·subst e
    exact key_of ok (by rw [← hq.1]; exact hq.2.1)
   ·exact ih x hx
 exact all r x hx
end
noncomputable def DGet (H : Hp) (a : Addr) (y : V) (r : Option V) : Prop :=
 (∃ kvs k, Rd H a (.dK kvs) /\ y = kV k /\ r = valV kvs k) \/ ∃ kvs k b, Rd H a (.dT kvs) /\ y = .ref b /\ H b = some (.tup (k.map kV)) /\ r = valV kvs k
theorem DGet.k {H : Hp} {a : Addr} {kvs : List (Key × V)} {k : Key} (e : H a = some (.dK kvs)) : DGet H a (kV k) (valV kvs k) := .inl ⟨kvs, k, .inl e, rfl, rfl⟩
section
variable {X : Cx} {pins : List (Addr × Obj)} {σ : St} {H : Hp} {s : Shared} {a : Addr} {y v : V} {u r : Value} {o : Option V} {A : Around} {E : Value -> Shared -> Prop}
theorem d_getItem {Q : Value -> Shared -> Prop} (hu : A.units + 1 < cLine) (I : Inv X pins σ H s) (g : DGet H a y (some v)) (ry : RelV y u) (h : ∀ w' s', Inv X pins σ H s' -> RelV v w' -> Q w' s') :
  wpAny (model X.prog X.w) A (getItem (.ref a) u) Q E s := by
 rcases g with ⟨kvs, k, e, ey, l⟩ | ⟨kvs, k, b, e, ey, eb, l⟩
 ·subst ey
  obtain ⟨z, hd, vs, rel, dd⟩ := dk_rd I.hok e
  obtain ⟨w', hw, rw'⟩ := RelO.some_of (v := v) (o := valueAt vs k) (by rw [l]; exact rel.val k)
  exact wpAny_getItem_of (kV_is ry) dd.mapOf hw (h w' _ (I.tok _) rw')
 ·subst ey
  cases (show u = Value.ref b from ry)
  obtain ⟨z, hd, xs, rel, dd⟩ := dt_rd I.hok e
  obtain ⟨w', hw, rw'⟩ := RelO.some_of (v := v) (o := (atKey xs k).map (·.2)) (by rw [l]; exact rel.val k)
  obtain ⟨p, hp, hp2⟩ := Option.map_eq_some_iff.mp hw
  refine wpAny_getItem_heap (tupleKind_room_in1 hu) (key_of I.hok eb) dd hp ?_
  rw [hp2]
  exact h w' _ (I.tok _) rw'
end
theorem dict_typeIs {X : Cx} {pins : List (Addr × Obj)} {σ : St} {H : Hp} {s : Shared} {a : Addr} {y : V} {o : Option V} (I : Inv X pins σ H s) (g : DGet H a y o) : s.TypeIs (.ref a) "dict" := by
 rcases g with ⟨kvs, k, e, _, _⟩ | ⟨kvs, k, b, e, _, _, _⟩
 ·obtain ⟨_, _, vs, _, dd⟩ := dk_rd I.hok e
  exact dd.typeIs
 ·obtain ⟨_, _, xs, _, dd⟩ := dt_rd I.hok e
  exact dd.typeIs
noncomputable def clFrom (cells : List (Str × Addr)) : List (Str × NameKind) -> List (Str × Addr) -> List (Str × Addr)
  | [], cs => cs
  | (n, k) :: r, cs => clFrom cells r (if k = .free then (n, (cells.lookup n).getD 0) :: cs else cs)
theorem Zb0 {cells : List (Str × Addr)} : ∀ {names : List (Str × NameKind)} {cs : List (Str × Addr)}, (∀ y ∈ names, y.2 = .free -> ∃ c, cells.lookup y.1 = some c) -> (∀ x c, cs.lookup x = some c -> cells.lookup x = some c) ->
    ∀ x c, (clFrom cells names cs).lookup x = some c -> cells.lookup x = some c
  | [], _, _, h, x, c, e => h x c e
  | (n, k) :: r, cs, hn, h, x, c, e => by
    unfold clFrom at e
    refine Zb0 (fun y hy => hn y (List.mem_cons_of_mem _ hy)) (fun y d q => ?_) x c e
    by_cases hk : k = .free
    · rw [if_pos hk] at q
      obtain ⟨c', hc'⟩ := hn (n, k) List.mem_cons_self hk
      rw [List.lookup_cons] at q
      by_cases hy : y == n
      · rw [hy] at q
        have : y = n := by simpa using hy
        subst this
        rw [show cells.lookup y = some c' from hc'] at q ⊢
        simpa using q
      · have hy' : (y == n) = false := by simpa using hy
        rw [hy'] at q
        exact h y d q
    · rw [if_neg hk] at q
      exact h y d q
theorem ZbF {cells : List (Str × Addr)} {x : Str} : ∀ {names : List (Str × NameKind)} {cs : List (Str × Addr)}, (∃ c, cs.lookup x = some c) -> ∃ c, (clFrom cells names cs).lookup x = some c
  | [], _, h => h
  | (n, k) :: r, cs, h => by
    unfold clFrom
    refine ZbF ?_
    by_cases hk : k = .free
    · rw [if_pos hk, List.lookup_cons]
      by_cases hy : x == n
      · rw [hy]; exact ⟨_, rfl⟩
      · have hy' : (x == n) = false := by simpa using hy
        rw [hy']; exact h
    · rw [if_neg hk]; exact h
theorem Zbx {cells : List (Str × Addr)} {x : Str} : ∀ {names : List (Str × NameKind)} {cs : List (Str × Addr)}, (x, NameKind.free) ∈ names -> ∃ c, (clFrom cells names cs).lookup x = some c
  | [], _, h => nomatch h
  | (n, k) :: r, cs, h => by
    unfold clFrom
    rcases List.mem_cons.mp h with e | h
    · cases e
      refine ZbF ?_
      rw [if_pos rfl, List.lookup_cons]
      simp
    · exact Zbx h
theorem closure_eq {env : Env} {scope : Scope} (h : ∀ y ∈ scope.names, y.2 = .free -> ∃ c, env.cells.lookup y.1 = some c) : closureFor scope env = pure (clFrom env.cells scope.names []) := by
 simp only [closureFor]
 have key : ∀ (names : List (Str × NameKind)) (cs : List (Str × Addr)), (∀ y ∈ names, y.2 = .free -> ∃ c, env.cells.lookup y.1 = some c) ->
   (forIn names cs fun x r => if (x.2 == NameKind.free) = true then do let a ← cellOf env x.1; pure (ForInStep.yield ((x.1, a) :: r)) else pure (ForInStep.yield r) : Sem (List (Str × Addr))) = pure (clFrom env.cells names cs) := by
  intro names
  induction names with
  | nil => intro cs _; rfl
  | cons y r ih =>
   intro cs hn
   obtain ⟨n, k⟩ := y
   rw [List.forIn_cons]
   by_cases hk : k = .free
   ·obtain ⟨c, hc⟩ := hn (n, k) List.mem_cons_self hk
    have hc' : env.cells.lookup n = some c := hc
    subst hk
    have e1 : cellOf env n = pure c := by unfold cellOf; rw [hc']
    show (_ >>= _) = _
    simp only [beq_self_eq_true, if_true, e1]
    unfold clFrom
    rw [if_pos rfl, hc']
    exact ih _ fun y hy => hn y (List.mem_cons_of_mem _ hy)
   ·have e2 : (k == NameKind.free) = false := by simpa using hk
    show (_ >>= _) = _
    simp only [e2, Bool.false_eq_true, if_false]
    unfold clFrom
    rw [if_neg hk]
    exact ih _ fun y hy => hn y (List.mem_cons_of_mem _ hy)
 rw [key scope.names [] h]
 rfl
section
variable {prog : Program} {w : World} {A : Around} {R : Result -> Shared -> Prop} {s : Shared}
abbrev Out (prog : Program) (w : World) (A : Around) (env : Env) (R : Result → Shared → Prop) : Value → Shared → Prop := notedBy (model prog w) A env fun e s' => R (.error e) s'
abbrev testsOf (env : Env) (ifs : List Expr) : Sem Bool := forIn ifs true fun c r => if r = true then do let ok ← isTrue c env (eval c env); pure (ForInStep.yield ok) else pure (ForInStep.yield r)
theorem compLoop_any {elt target iter : Expr} {ifs : List Expr} {scope : Scope} {pos : Pos} {it acc : Value} {env : Env} (I : Nat → Shared → Prop)
    (turn : ∀ k z, I k z → wpAny (model prog w) A (pyNext it) (fun r z1 => match r with
      | none => R (.ok .next) z1
      | some v => wpAny (model prog w) A (letOwnedTupleGo target it v) (fun _ z2 => wpAny (model prog w) A (assign target env v) (fun _ z3 => wpAny (model prog w) A (testsOf env ifs) (fun yes z4 =>
          if yes = true then wpAny (model prog w) A (eval elt env) (fun x z5 => wpAny (model prog w) A (call (.builtin "list.append") [acc, x]) (fun _ z6 => ∃ m, m < k ∧ I m z6) (Out prog w A env R) z5) (Out prog w A env R) z4
          else ∃ m, m < k ∧ I m z4) (Out prog w A env R) z3) (Out prog w A env R) z2) (Out prog w A env R) z1) (Out prog w A env R) z)
    (n : Nat) (h : I n s) : codeAny (model prog w) A (.compLoop (.ListComp elt [⟨target, iter, ifs, 0⟩] scope pos) 0 it acc env) R s := by
  refine codeAny_loop rfl I ?_ n h
  intro k z hz
  refine wpAny_noted ?_
  rw [compTurn_list]
  apply wpAny_bind
  apply wpAny_standAt
  apply wpAny_bind
  refine wpAny_mono (turn k z hz) ?_ fun _ _ e => e
  rintro (_ | v) z1 y1
  · exact wpAny_pure y1
  apply wpAny_bind
  refine wpAny_mono y1 (fun _ z2 y2 => ?_) fun _ _ e => e
  apply wpAny_bind
  refine wpAny_mono y2 (fun _ z3 y3 => ?_) fun _ _ e => e
  apply wpAny_bind
  refine wpAny_mono y3 (fun yes z4 y4 => ?_) fun _ _ e => e
  by_cases b : yes = true
  · subst b
    apply wpAny_bind
    apply wpAny_bind
    refine wpAny_mono y4 (fun x z5 y5 => ?_) fun _ _ e => e
    apply wpAny_bind
    exact wpAny_mono y5 (fun _ z6 y6 => wpAny_pure (wpAny_pure ⟨rfl, y6⟩)) fun _ _ e => e
  · have nb : yes = false := by simpa using b
    subst nb
    exact wpAny_pure ⟨rfl, y4⟩
end
noncomputable def CompCx (X : Cx) (N' : List Str) (scope : Scope) (C : Addr) (s₀ : Shared) (H₀ : Hp) (ex : List Addr) (pn : List (Addr × Obj)) : Cx :=
 { X with N := N', s₀ := s₀, H₀ := H₀, env := compEnvC scope (clFrom X.env.cells scope.names []) C X.env, outer := X.stack, ex := ex, fn := fun _ => false, pn := pn, xe := fun _ _ => False }
structure CSc (X : Cx) (scope : Scope) (vs fs : List Str) (fr : List Nat) : Prop where
 kind : scope.kind = .function
 cell : (scope.names.all fun y => y.2 != .cell) = true
 free : (scope.names.all fun y => y.2 != .free || (X.env.kindOf y.1 == some .cell || X.env.kindOf y.1 == some .free)) = true
 loc : (scope.names.all fun y => y.2 != .local || scope.names.lookup y.1 == some .local) = true
 fre : (scope.names.all fun y => y.2 != .free || scope.names.lookup y.1 == some .free) = true
 fsf : (fs.all fun x => scope.names.lookup x == some .free) = true
 at' : fr.map (fun i => X.N[i]?) = fs.map some
noncomputable def PTs (X : Cx) (ifs : List Expr) (t : TT) : Prop :=
 ∀ (pins : List (Addr × Obj)) (s : Shared) (σ : St) (H : Hp) (Q : Bool -> Hp -> Prop), Inv X pins σ H s -> t σ H Q ->
  wpAny (model X.prog X.w) X.A (forIn ifs true fun c r => if r = true then do let ok ← isTrue c X.env (eval c X.env); pure (ForInStep.yield ok) else pure (ForInStep.yield r)) (TP X pins σ Q) X.xe s
noncomputable def tYes : TT := fun _ H Q => Q true H
theorem pts_nil {X : Cx} : PTs X [] tYes := fun _ _ _ H _ I h => wpAny_tests_nil ⟨H, I, h⟩
noncomputable def stIn (vs : List Str) (fr : List Nat) (σ : St) : St := vs.map (fun _ => none) ++ fr.map fun i => (σ[i]?).join
noncomputable def CompW (J : It) (vs : List Str) (fr : List Nat) (g : TG) (tt : TT) (te : TE) (σ : St) (H1 : Hp) (Q : VK) : Prop :=
 ∃ W : Nat -> Nat -> St -> List V -> Hp -> Prop, (∃ m, W 0 m (stIn vs fr σ) [] H1) /\ ∀ i m σ' ys H, W i m σ' ys H ->
  (J.stop i H /\ ys.length <= sizeLine /\ ∀ D, H D = none -> Q (.ref D) (upd H D (.lst ys))) \/
  (J.go i H /\ ys.length <= sizeLine /\ ∃ N : St -> List V -> Hp -> Prop, (∀ σ2 ys2 H2, N σ2 ys2 H2 -> ∃ m', m' < m /\ W (i + 1) m' σ2 ys2 H2) /\ ∀ x H', J.yld i H x H' -> g x σ' H' fun σ2 H2 => tt σ2 H2 fun b H3 =>
   if b = true then te σ2 H3 fun y H4 => N σ2 (ys ++ [y]) H4 else N σ2 ys H3)
noncomputable def tComp (wi : TI) (vs : List Str) (fr : List Nat) (g : TG) (tt : TT) (te : TE) : TE := fun σ H Q => wi σ H fun J H1 => CompW J vs fr g tt te σ H1 Q
section
variable {X : Cx} {tg elt iter : Expr} {ifs : List Expr} {scope : Scope} {pos : Pos} {vs fs : List Str} {fr : List Nat}
theorem mem_all {α : Type} {p : α -> Bool} {l : List α} (h : l.all p = true) {x : α} (hx : x ∈ l) : p x = true := List.all_eq_true.mp h x hx
theorem CSc.cell' (S : CSc X scope vs fs fr) : ∀ y ∈ scope.names, y.2 ≠ .cell := fun y hy e => by have := mem_all S.cell hy; rw [e] at this; simp at this
theorem CSc.free' (S : CSc X scope vs fs fr) : ∀ y ∈ scope.names, y.2 = .free -> X.env.kindOf y.1 = some .cell \/ X.env.kindOf y.1 = some .free := fun y hy e => by
 have := mem_all S.free hy; rw [e] at this; simpa using this
theorem CSc.loc' (S : CSc X scope vs fs fr) : ∀ y ∈ scope.names, y.2 = .local -> scope.names.lookup y.1 = some .local := fun y hy e => by
 have := mem_all S.loc hy; rw [e] at this; simpa using this
theorem ZaR {α β : Type} [BEq α] [LawfulBEq α] : ∀ {l : List (α × β)} {x : α} {k : β}, l.lookup x = some k -> (x, k) ∈ l
  | [], _, _, h => by simp at h
  | (n, k') :: r, x, k, h => by
    rw [List.lookup_cons] at h
    cases e : x == n with
    | true => rw [e] at h; cases h; rw [eq_of_beq e]; exact List.mem_cons_self
    | false => rw [e] at h; exact List.mem_cons_of_mem _ (ZaR h)
theorem Za7 {env : Env} {x : Str} : ∀ {names : List (Str × NameKind)} {k : NameKind},
    (names.map fun (n, k) => if (k == NameKind.free && env.scope.kind == .function && env.kindOf n == some .cell) then (n, NameKind.cell) else (n, k)).lookup x = some k ->
    names.lookup x = some k \/ (k = .cell /\ names.lookup x = some .free)
  | [], _, h => by simp at h
  | (n, k') :: r, k, h => by
    have ih := @Za7 env x r k
    have h' : List.lookup x ((if (k' == NameKind.free && env.scope.kind == .function && env.kindOf n == some .cell) = true then (n, NameKind.cell) else (n, k')) :: (r.map fun (n, k) => if (k == NameKind.free && env.scope.kind == .function && env.kindOf n == some .cell) then (n, NameKind.cell) else (n, k))) = some k := h
    cases hx : x == n with
    | true =>
      by_cases hc : (k' == NameKind.free && env.scope.kind == .function && env.kindOf n == some .cell) = true
      · rw [if_pos hc] at h'
        simp only [List.lookup_cons, hx] at h' ⊢
        cases h'
        have : k' = .free := by simp at hc; exact hc.1.1
        exact .inr ⟨rfl, by rw [this]⟩
      · rw [if_neg hc] at h'
        simp only [List.lookup_cons, hx] at h' ⊢
        exact .inl h'
    | false =>
      by_cases hc : (k' == NameKind.free && env.scope.kind == .function && env.kindOf n == some .cell) = true
      · rw [if_pos hc] at h'
        simp only [List.lookup_cons, hx] at h' ⊢
        exact ih h'
      · rw [if_neg hc] at h'
        simp only [List.lookup_cons, hx] at h' ⊢
        exact ih h'
theorem ZbB {env : Env} {x : Str} : ∀ {names : List (Str × NameKind)}, names.lookup x = some .free ->
    let l := (names.map fun (n, k) => if (k == NameKind.free && env.scope.kind == .function && env.kindOf n == some .cell) then (n, NameKind.cell) else (n, k)).lookup x
    l = some .cell \/ l = some .free
  | [], h => by simp at h
  | (n, k') :: r, h => by
    have ih := @ZbB env x r
    show List.lookup x ((if (k' == NameKind.free && env.scope.kind == .function && env.kindOf n == some .cell) = true then (n, NameKind.cell) else (n, k')) :: (r.map fun (n, k) => if (k == NameKind.free && env.scope.kind == .function && env.kindOf n == some .cell) then (n, NameKind.cell) else (n, k))) = some .cell \/
      List.lookup x ((if (k' == NameKind.free && env.scope.kind == .function && env.kindOf n == some .cell) = true then (n, NameKind.cell) else (n, k')) :: (r.map fun (n, k) => if (k == NameKind.free && env.scope.kind == .function && env.kindOf n == some .cell) then (n, NameKind.cell) else (n, k))) = some .free
    cases hx : x == n with
    | true =>
      simp only [List.lookup_cons, hx] at h
      have h : k' = .free := Option.some.inj h
      by_cases hc : (k' == NameKind.free && env.scope.kind == .function && env.kindOf n == some .cell) = true
      · rw [if_pos hc, List.lookup_cons, hx]; exact .inl rfl
      · rw [if_neg hc, List.lookup_cons, hx, h]; exact .inr rfl
    | false =>
      simp only [List.lookup_cons, hx] at h
      by_cases hc : (k' == NameKind.free && env.scope.kind == .function && env.kindOf n == some .cell) = true
      · rw [if_pos hc]; simp only [List.lookup_cons, hx]; exact ih h
      · rw [if_neg hc]; simp only [List.lookup_cons, hx]; exact ih h
end
section
variable {X : Cx} {tg elt iter : Expr} {ifs : List Expr} {scope : Scope} {pos : Pos} {vs fs : List Str} {fr : List Nat}
theorem CSc.clos (S : CSc X scope vs fs fr) (ok : X.Ok) : ∀ y ∈ scope.names, y.2 = .free -> ∃ c, X.env.cells.lookup y.1 = some c := fun y hy e => ok.has y.1 (S.free' y hy e)
theorem CSc.cl (S : CSc X scope vs fs fr) (ok : X.Ok) {x : Str} {c : Addr} (e : (clFrom X.env.cells scope.names []).lookup x = some c) : X.env.cells.lookup x = some c :=
 Zb0 (S.clos ok) (fun _ _ q => by simp at q) x c e
theorem ZaZ {h : Heap} {b : Addr} {o : Obj} {n : Nat} (e : h.get? b = some o) (hn : h.objs.size <= n) : b ≠ n := Nat.ne_of_lt (Nat.lt_of_lt_of_le (Heap.lt_size e) hn)
theorem comp_start {pins : List (Addr × Obj)} {σ : St} {H : Hp} {s : Shared} {fp : List Addr} {C : Addr} {h1 : Heap} {tk : Nat} {m1 : Str -> Option Value} (S : CSc X scope vs fs fr) (I : Inv X pins σ H s)
  (hf : ∀ b ∈ fp, FpOk X pins H b) (hfo : ∀ b ∈ fp, ∃ o, s.heap.get? b = some o) (hC : s.heap.objs.size <= C) (hn : h1.Ns C m1) (old : ∀ b o, s.heap.get? b = some o -> h1.get? b = some o) :
  Inv (CompCx X (vs ++ fs) scope C s H fp (X.pn ++ pins)) [] (stIn vs fr σ) H { s with heap := h1, toks := tk } := by
 have cl := fun x c e => S.cl I.ok (x := x) (c := c) e
 have hsub := I.stkSub
 have cellLt : ∀ x c, X.env.cells.lookup x = some c -> c < s.heap.objs.size := fun x c e => by obtain ⟨v, q⟩ := I.cell x c e; exact q.lt
 refine ⟨⟨I.ok.mod, S.kind, I.ok.glob, I.ok.blt, hC, fun x y c e1 e2 => I.ok.inj x y c (cl x c e1) (cl y c e2), fun x hx => ?_, fun _ _ z _ => (nomatch z), I.ok.hd, I.ok.frames, .inl rfl, fun b hb => ?_, I.bs, Nat.le_trans I.ok.bsz I.sz, fun b o e hb => ?_, fun b hb z => ?_, I.stack, I.stkFree⟩,
  rfl, I.bare, Un.kept old, ⟨m1, hn, fun i x v e1 e2 e3 => ?_⟩, fun x c e => ?_, I.hok.fresh hC, fun x c e => I.freeC x c (cl x c e), fun p hp => ?_, I.hok.kept old, ?_⟩
 ·-- has
  have hx' : (relabel scope X.env).names.lookup x = some .cell \/ (relabel scope X.env).names.lookup x = some .free := hx
  have : scope.names.lookup x = some .free := by
   rcases hx' with q | q
   ·rcases Za7 q with q | ⟨_, q⟩
    ·exact absurd rfl (S.cell' _ (ZaR q))
    ·exact q
   ·rcases Za7 q with q | ⟨q, _⟩
    ·exact q
    ·cases q
  exact Zbx (ZaR this)
 ·-- exf
  obtain ⟨o, ho⟩ := hfo b hb
  obtain ⟨f0, f1, f2, f3, f4, f5⟩ := hf b hb
  exact ⟨ZaZ ho hC, fun x c e => f4 x c (cl x c e)⟩
 ·-- noex
  have e' := (I.ok.bs b o e).1
  obtain ⟨_, _, _, f3, _, _⟩ := hf b hb
  rcases f3 with z | z
  ·exact I.ok.noex b o e z
  ·exact absurd (Nat.lt_of_lt_of_le (Heap.lt_size e') z) (Nat.lt_irrefl _)
 ·-- exfs
  obtain ⟨_, f1, f2, _⟩ := hf b hb
  rcases List.mem_cons.mp (hsub b z) with q | q
  ·exact f1 q
  ·exact f2 q
 ·-- loc
  have e1 : (vs ++ fs)[i]? = some x := e1
  unfold stIn at e2
  by_cases hi : i < vs.length
  ·rw [List.getElem?_append_left (by simpa using hi)] at e2
   simp [hi] at e2
  ·rw [List.getElem?_append_right (by simpa using hi), List.length_map, List.getElem?_map] at e2
   rw [List.getElem?_append_right (by simpa using hi)] at e1
   obtain ⟨j, hj⟩ : ∃ j, fr[i - vs.length]? = some j := by
    cases q : fr[i - vs.length]? with
    | none => rw [q] at e2; cases e2
    | some j => exact ⟨j, rfl⟩
   rw [hj] at e2
   have e2' : (σ[j]?).join = some v := Option.some.inj e2
   have hσ : σ[j]? = some (some v) := by
    cases q : σ[j]? with
    | none => rw [q] at e2'; cases e2'
    | some r => rw [q] at e2'; exact congrArg some e2'
   have hN : X.N[j]? = some x := by
    have := congrArg (fun l => l[i - vs.length]?) S.at'
    simp only [List.getElem?_map, hj, e1, Option.map_some] at this
    exact Option.some.inj this
   have hxf : scope.names.lookup x = some .free := by
    have := mem_all S.fsf (List.mem_of_getElem? e1)
    simpa using this
   have hk := S.free' _ (ZaR hxf) rfl
   obtain ⟨m, hm, hl⟩ := I.loc
   have hvis : Vis X.env.scope x := by
    rcases hk with k | k
    ·exact .inr (.inl k)
    ·exact .inr (.inr k)
   obtain ⟨u, ru, lk⟩ := hl j x v hN hσ hvis
   refine ⟨u, ru, ?_⟩
   rcases lk with ⟨k, _⟩ | ⟨_, c, hc, hv⟩
   ·have k' : X.env.kindOf x = some .local := k
    rcases hk with z | z
    ·have z' : X.env.kindOf x = some .cell := z
     rw [k'] at z'; cases z'
    ·have z' : X.env.kindOf x = some .free := z
     rw [k'] at z'; cases z'
   ·obtain ⟨c', hc'⟩ := Zbx (cells := X.env.cells) (cs := []) (ZaR hxf)
    have := cl x c' hc'
    rw [hc] at this
    cases this
    refine .inr ⟨ZbB hxf, c, hc', ?_⟩
    obtain ⟨o, ho, hd⟩ := hv
    exact ⟨o, old c o ho, hd⟩
 ·-- cell
  obtain ⟨v, o, ho, hd⟩ := I.cell x c (cl x c e)
  exact ⟨v, o, old c o ho, hd⟩
 ·-- pin
  have hp' : p ∈ X.pn ++ pins := by simpa [CompCx] using hp
  obtain ⟨e, n, ne, nf, d⟩ := I.pin p hp'
  refine ⟨old _ _ e, n, ZaZ e hC, fun z => ?_, d⟩
  rcases List.mem_cons.mp (hsub _ z) with q | q
  ·exact ne q
  ·exact nf q
 ·show (stIn vs fr σ).length = (vs ++ fs).length
  have := congrArg List.length S.at'
  simp only [List.length_map] at this
  unfold stIn
  simp [this]
theorem comp_back {pins : List (Addr × Obj)} {σ σ' : St} {H H' : Hp} {s s' : Shared} {fp : List Addr} {C D : Addr} {ys : List V} {its : List Value} {n : Nat} {pl : List (Addr × Obj)} (I : Inv X pins σ H s)
  (hf : ∀ b ∈ fp, FpOk X pins H b) (J : Inv (CompCx X (vs ++ fs) scope C s H fp (X.pn ++ pins)) pl σ' H' s')
  (hD : s.heap.objs.size <= D) (hDn : H' D = none) (hl : ys.length <= sizeLine) (r : Vals ys its) (ho : s'.heap.get? D = some { cls := .type "list", data := .seq its.toArray n }) : Inv X pins σ (upd H' D (.lst ys)) s' := by
 have ne : ∀ b o, s.heap.get? b = some o -> b ≠ D := fun b o e => ZaZ e hD
 have u : Un (frs X.stack) fp H H' s.heap s'.heap := J.base
 refine I.call' (ch := fp) J.os ⟨u.keep, u.slot, fun b o e q hx => ?_, u.there, fun b xs e => ?_, fun b o xs e => ?_, fun b ps e => ?_⟩ (fun b o e => ?_) J.bare fun b hb => ?_
 ·rw [Zav (ne b o e)]; exact u.free b o e q hx
 ·rw [Zav (Zal (u.tups b xs e) hDn)]; exact u.tups b xs e
 ·rw [Zav (Zal (u.frzs b o xs e) hDn)]; exact u.frzs b o xs e
 ·obtain ⟨more, q⟩ := u.tbls b ps e
  exact ⟨more, by rw [Zav (Zal q hDn)]; exact q⟩
 ·by_cases hb : b = D
  ·subst hb
   rw [ZaV] at e; cases e
   exact ⟨hl, its, n, r, ho⟩
  ·rw [Zav hb] at e
   exact (J.hok b o e).stay (fun _ _ _ q => q) (fun c q => by rw [Zav (Zal q hDn)]; exact q) fun c xs q => by rw [Zav (Zal q hDn)]; exact q
 ·obtain ⟨f0, f1, f2, f3, f4, f5⟩ := hf b hb
  exact ⟨f3, f1, f4, f5⟩
end
section
variable {X : Cx} {tg elt iter : Expr} {ifs : List Expr} {scope : Scope} {pos : Pos} {vs fs : List Str} {fr : List Nat} {g : TG} {tt : TT} {te : TE}
theorem no_xe {α : Type} {M : Model} {A : Around} {t : Sem α} {Q Q' : α -> Shared -> Prop} {E : Value -> Shared -> Prop} {s : Shared} (h : wpAny M A t Q (fun _ _ => False) s) (hQ : ∀ a s, Q a s -> Q' a s) : wpAny M A t Q' E s :=
 wpAny_mono h hQ fun _ _ f => False.elim f
theorem comp_block {pins : List (Addr × Obj)} {σ : St} {H : Hp} {s : Shared} {Q : VK} {it : Addr} {fp : List Addr} {tn : Nat -> Heap -> Prop} {J : It} {RR : Value -> Addr -> Result -> Shared -> Prop}
  (S : CSc X scope vs fs fr) (hc : X.calm = true)
  (bG : ∀ C s₀ H₀ ex pn, PG (CompCx X (vs ++ fs) scope C s₀ H₀ ex pn) tg g) (bT : ∀ C s₀ H₀ ex pn, PTs (CompCx X (vs ++ fs) scope C s₀ H₀ ex pn) ifs tt) (bE : ∀ C s₀ H₀ ex pn, PE (CompCx X (vs ++ fs) scope C s₀ H₀ ex pn) elt te)
  (I : Inv X pins σ H s) (T : Turn X.prog X.w X.K tg J fp it tn) (st : tn 0 s.heap) (hf : ∀ b ∈ fp, FpOk X pins H b)
  (q : CompW J vs fr g tt te σ H Q)
  (hRR : ∀ D C H' s' m', Inv X pins σ H' s' -> Q (.ref D) H' -> s'.heap.Ns C m' -> H' C = none -> s.heap.objs.size <= C -> RR (.ref D) C (.ok .next) s') :
  wpAny (model X.prog X.w) X.A (newList []) (fun acc s₃ => wpAny (model X.prog X.w) X.A (newFunctionEnv scope X.env.globals (clFrom X.env.cells scope.names []) [] X.env.qual none .none (some X.env)) (fun cenv s₄ =>
   codeAny (model X.prog X.w) X.A (.compStart (.ListComp elt [⟨tg, iter, ifs, 0⟩] scope pos) 0 (.ref it) acc { cenv with scope := relabel scope X.env }) (RR acc cenv.locals) s₄) X.xe s₃) X.xe s := by
 obtain ⟨W, ⟨m0, w0⟩, turn⟩ := q
 refine wpAny_newObj_type (wpAny_newFunctionEnv S.cell' (by intro y hy; simp at hy) (fun h₁ hns₁ hsb₁ => ?_) S.kind)
 dsimp only at hns₁ hsb₁ ⊢
 generalize hH2 : s.heap.push { cls := .type "list", dict := none, data := .seq ([] : List Value).toArray } = H2 at hns₁ hsb₁ ⊢
 have hCs : H2.objs.size = s.heap.objs.size + 1 := by rw [← hH2, Heap.size_push]
 have hDC : s.heap.objs.size ≠ H2.objs.size := by rw [hCs]; exact Nat.ne_of_lt (Nat.lt_succ_self _)
 have hCle : s.heap.objs.size <= H2.objs.size := by rw [hCs]; exact Nat.le_succ _
 have old : ∀ b o, s.heap.get? b = some o -> h₁.get? b = some o := fun b o e => hsb₁.extBut b o (ZaZ e hCle) (Heap.get?_push_of_some _ (hH2 ▸ Heap.get?_push_of_some _ e))
 have hacc : h₁.get? s.heap.objs.size = some { cls := .type "list", data := .seq ([] : List Value).toArray 0 } := hsb₁.extBut _ _ hDC (Heap.get?_push_of_some _ (hH2 ▸ Heap.get?_push_size _ rfl))
 have hfo : ∀ b ∈ fp, ∃ o, s.heap.get? b = some o := fun b hb => by obtain ⟨o, e, _⟩ := T.obj 0 _ st b hb; exact ⟨o, e⟩
 generalize hY : CompCx X (vs ++ fs) scope H2.objs.size s H fp (X.pn ++ pins) = Y
 have J0 : Inv Y [] (stIn vs fr σ) H { s with heap := h₁, toks := s.toks + ([] : List (Str × Value)).length } := by
  rw [← hY]; exact comp_start S I hf hfo hCle hns₁ old
 have hG : PG Y tg g := by rw [← hY]; exact bG _ _ _ _ _
 have hT : PTs Y ifs tt := by rw [← hY]; exact bT _ _ _ _ _
 have hE : PE Y elt te := by rw [← hY]; exact bE _ _ _ _ _
 have ePr : Y.prog = X.prog := by rw [← hY]; rfl
 have eW : Y.w = X.w := by rw [← hY]; rfl
 have eK : Y.K = X.K := by rw [← hY]; rfl
 have eA : Y.A = X.A := by rw [← hY]; rfl
 have eC : Y.calm = true := by rw [← hY]; exact hc
 have eEnv : Y.env = compEnvC scope (clFrom X.env.cells scope.names []) H2.objs.size X.env := by rw [← hY]; rfl
 have eL : Y.env.locals = H2.objs.size := by rw [eEnv]; rfl
 have eX : Y.xe = fun _ _ => False := by rw [← hY]; rfl
 have eS : Y.s₀ = s := by rw [← hY]; rfl
 have eEx : Y.ex = fp := by rw [← hY]; rfl
 have eFs : Y.fs = frs X.stack := by rw [← hY]; rfl
 have ePn : Y.pn = X.pn ++ pins := by rw [← hY]; rfl
 have eCl : ∀ x c, Y.env.cells.lookup x = some c -> X.env.cells.lookup x = some c := fun x c e => by
  rw [eEnv] at e; exact S.cl I.ok e
 have cellLt : ∀ x c, Y.env.cells.lookup x = some c -> c ≠ s.heap.objs.size := fun x c e => by
  obtain ⟨v, z⟩ := I.cell x c (eCl x c e); exact Nat.ne_of_lt z.lt
 have pnLt : ∀ p ∈ Y.pn, p.1 ≠ s.heap.objs.size := fun p hp => by
  rw [ePn] at hp; exact ZaZ (I.pin p hp).1 (Nat.le_refl _)
 have fpD : ∀ b ∈ fp, b ≠ s.heap.objs.size := fun b hb => by obtain ⟨o, e⟩ := hfo b hb; exact ZaZ e (Nat.le_refl _)
 have hDfs : s.heap.objs.size ∉ Y.fs := fun z => by
  rw [eFs] at z
  rcases List.mem_cons.mp (I.stkSub _ z) with z | z
  ·exact absurd I.lt (by rw [← z]; exact Nat.lt_irrefl _)
  ·exact I.nofs (Nat.le_refl _) z
 have stat : ∀ {H' : Hp} {o : Obj}, (∀ b ∈ fp, H' b = none) -> ∀ b ∈ fp, FpOk Y [(s.heap.objs.size, o)] H' b := fun {H' o} hn b hb => by
  obtain ⟨f0, f1, f2, f3, f4, f5⟩ := hf b hb
  obtain ⟨ob, e⟩ := hfo b hb
  refine ⟨hn b hb, by rw [eL]; exact ZaZ e hCle, fun z => ?_, .inl (by rw [eEx]; exact hb), fun x c e => f4 x c (eCl x c e), fun p hp => ?_⟩
  ·rw [eFs] at z
   rcases List.mem_cons.mp (I.stkSub _ z) with z | z
   ·exact f1 z
   ·exact f2 z
  ·rcases List.mem_append.mp hp with hp | hp
   ·rw [ePn] at hp; exact f5 p hp
   ·have : p = (s.heap.objs.size, o) := by simpa using hp
    rw [this]; exact Ne.symm (fpD b hb)
 have pinD : ∀ {σ' : St} {H' : Hp} {s' : Shared} {its : List Value} {k : Nat}, Inv Y [] σ' H' s' -> H' s.heap.objs.size = none -> s'.heap.get? s.heap.objs.size = some { cls := .type "list", data := .seq its.toArray k } ->
   Inv Y [(s.heap.objs.size, { cls := .type "list", data := .seq its.toArray k })] σ' H' s' := fun {σ' H' s' its k} i hn e => i.pins_of fun p hp => by
  have : p = (s.heap.objs.size, { cls := .type "list", data := .seq its.toArray k }) := by simpa using hp
  subst this
  exact ⟨e, hn, by rw [eL]; exact hDC, hDfs, fun v z => by cases z⟩
 have loop : ∀ s₃ : Shared, s₃ = { s with heap := h₁, toks := s.toks + ([] : List (Str × Value)).length } ->
   codeAny (model X.prog X.w) X.A (.compLoop (.ListComp elt [⟨tg, iter, ifs, 0⟩] scope pos) 0 (.ref it) (.ref s.heap.objs.size) (compEnvC scope (clFrom X.env.cells scope.names []) H2.objs.size X.env))
    (RR (.ref s.heap.objs.size) H2.objs.size) s₃ := by
  rintro s₃ rfl
  rw [← eEnv, ← ePr, ← eW, ← eA]
  refine compLoop_any (fun n s' => ∃ i σ' ys its k H', Inv Y [(s.heap.objs.size, { cls := .type "list", data := .seq its.toArray k })] σ' H' s' /\ Vals ys its /\ tn i s'.heap /\ (∀ b ∈ fp, H' b = none) /\ W i n σ' ys H') ?_ m0
   ⟨0, _, [], [], 0, H, pinD J0 (I.hok.fresh (Nat.le_refl _)) hacc, .nil, T.keep _ _ _ st fun b _ o e => old b o e, fun b hb => (hf b hb).1, w0⟩
  rintro n s3 ⟨i, σ3, ys, its, k, H3, J3, rv, st3, fr3, w3⟩
  have pD := J3.pin (s.heap.objs.size, _) (List.mem_append_right _ (List.mem_singleton.mpr rfl))
  have eI := rv.length
  rcases turn i n σ3 ys H3 w3 with ⟨stop, hlen, qn⟩ | ⟨go, hlen, N, hN, step⟩
  ·have dn := T.done Y ePr eW eK eC i _ s3 σ3 H3 (fun _ _ => False) J3 (stat fr3) st3 stop
   rw [← ePr, ← eW] at dn
   refine no_xe dn fun r s4 h_ => ?_
   obtain ⟨hr, J4⟩ := h_
   subst hr
   have pD4 := J4.pin (s.heap.objs.size, _) (List.mem_append_right _ (List.mem_singleton.mpr rfl))
   obtain ⟨m4, hm4, _⟩ := id J4.loc
   rw [eL] at hm4
   have nC : H3 H2.objs.size = none := by rw [← eL]; exact J4.free
   refine hRR _ _ _ s4 m4 (comp_back I hf (by rw [hY]; exact J4) (Nat.le_refl _) pD4.2.1 hlen rv pD4.1) (qn _ pD4.2.1) hm4 ?_ hCle
   rw [Zav (Ne.symm hDC)]; exact nC
  ·have im := T.item Y ePr eW eK eC i _ s3 σ3 H3 (fun _ _ => False) J3 (stat fr3) st3 go
   rw [← ePr, ← eW] at im
   refine no_xe im fun r s4 h_ => ?_
   obtain ⟨u, hr, h4⟩ := h_
   subst hr
   refine no_xe h4 fun _ s5 h_ => ?_
   obtain ⟨x, H5, J5, r5, y5, st5, fr5⟩ := h_
   have J5' := J5.pinned (stat fr5) (T.obj _ _ st5)
   have go1 := hG _ s5 σ3 H5 x u _ J5' r5 (step x H5 y5)
   rw [eX] at go1
   refine no_xe go1 fun _ s6 h_ => ?_
   obtain ⟨σ6, H6, J6, q6⟩ := h_
   have go2 := hT _ s6 σ6 H6 _ J6 q6
   rw [eX] at go2
   refine no_xe go2 fun ok s7 h_ => ?_
   obtain ⟨H7, J7, q7⟩ := h_
   have fin : ∀ {σ8 : St} {H8 : Hp} {s8 : Shared}, Inv Y ([(s.heap.objs.size, { cls := .type "list", data := .seq its.toArray k })] ++ pinsAt fp s5.heap) σ8 H8 s8 ->
     tn (i + 1) s8.heap /\ (∀ b ∈ fp, H8 b = none) := fun {σ8 H8 s8} J8 => by
    refine ⟨T.keep _ _ _ st5 fun b hb o e => (J8.pin (b, o) (List.mem_append_right _ (List.mem_append_right _ (Zbg hb e)))).1, fun b hb => ?_⟩
    obtain ⟨o, e, d⟩ := T.obj _ _ st5 b hb
    exact (J8.pin (b, o) (List.mem_append_right _ (List.mem_append_right _ (Zbg hb e)))).2.1
   cases ok with
   | false =>
    rw [if_neg Bool.false_ne_true] at q7 ⊢
    obtain ⟨m', hm, w7⟩ := hN _ _ _ q7
    exact ⟨m', hm, i + 1, σ6, ys, its, k, H7, J7.unpinned, rv, (fin J7).1, (fin J7).2, w7⟩
   | true =>
    rw [if_pos rfl] at q7 ⊢
    have go3 := hE _ s7 σ6 H7 _ J7 q7
    rw [eX] at go3
    refine no_xe go3 fun yv s8 h_ => ?_
    obtain ⟨y, H8, J8, r8, n8⟩ := h_
    obtain ⟨m', hm, w8⟩ := hN _ _ _ n8
    have pD8 := J8.pin (s.heap.objs.size, _) (List.mem_append_right _ (List.mem_append_left _ (List.mem_singleton.mpr rfl)))
    refine append_at (hsz := by rw [List.size_toArray, ← eI]; exact hlen) pD8.1 fun h9 hs9 hD9 => ?_
    have J9 : Inv Y [] σ6 H8 { s8 with heap := h9 } := (J8.pins_of (pins' := []) fun p hp => absurd hp (by simp)).turned (t' := s8.toks) (fun b o hb e => (hs9.2 b hb).trans e) pD8.2.1 (by rw [eL]; exact hDC)
     (.inr (by rw [eS]; exact Nat.le_refl _)) cellLt fun p hp => pnLt p (by simpa using hp)
    refine ⟨m', hm, i + 1, σ6, ys ++ [y], its ++ [yv], k + 1, H8, pinD J9 pD8.2.1 (by rw [hD9, List.push_toArray]), Vals.append rv (.cons r8 .nil), ?_, (fin J8).2, w8⟩
    exact T.keep _ _ _ (fin J8).1 fun b hb o e => (hs9.2 b (fpD b hb)).trans e
 exact codeAny_compStart_list (loop _ rfl) (T.self _ 0 _ _ _ (T.keep _ _ _ st fun b _ o e => old b o e) (loop _ rfl))
theorem pe_comp {wi : TI} (S : CSc X scope vs fs fr) (hc : X.calm = true) (hi : PI X tg iter wi)
  (bG : ∀ C s₀ H₀ ex pn, PG (CompCx X (vs ++ fs) scope C s₀ H₀ ex pn) tg g) (bT : ∀ C s₀ H₀ ex pn, PTs (CompCx X (vs ++ fs) scope C s₀ H₀ ex pn) ifs tt) (bE : ∀ C s₀ H₀ ex pn, PE (CompCx X (vs ++ fs) scope C s₀ H₀ ex pn) elt te)
  (hs : ∀ x, foldedSetIterable iter X.env x = pure x := by intro _; rfl) :
  PE X (.ListComp elt [⟨tg, iter, ifs, 0⟩] scope pos) (tComp wi vs fr g tt te) := by
 intro pins s σ H Q I h
 rw [eval_ListComp]
 refine wpAny_comprehension_free (use := none) rfl hs (closure_eq (S.clos I.ok)) S.kind S.loc' (thn (hi pins s σ H _ I h) fun v s1 h1 => thn h1 fun itv s2 h2 => ?_)
 obtain ⟨it, fp, tn, J, H2, e, I2, T, st2, f2, q2⟩ := h2
 subst e
 refine comp_block (RR := fun acc C => compPost (model X.prog X.w) X.A X.xe none (EP X pins σ Q) acc C) S hc bG bT bE I2 T st2 f2 q2 ?_
 intro D C H' s' m' I' hq hn hC hle
 refine ⟨m', hn, fun h' hs' => ⟨.ref D, H', ?_, rfl, hq⟩⟩
 refine I'.turned (t' := s'.toks) (fun b o hb e => (hs'.2 b hb).trans e) hC ?_ (.inr (Nat.le_trans I2.sz hle)) ?_ ?_
 ·exact Nat.ne_of_gt (Nat.lt_of_lt_of_le I2.lt hle)
 ·intro x c e
  obtain ⟨v, z⟩ := I2.cell x c e
  exact Nat.ne_of_lt (Nat.lt_of_lt_of_le z.lt hle)
 ·intro p hp
  exact ZaZ (I2.pin p hp).1 hle
end
section
variable {X : Cx}
noncomputable def Its (z : Str) : It := ⟨fun i _ => i < z.cps.size, fun i H x H' => H' = H /\ ∃ c, z.cps[i]? = some c /\ x = .str ⟨#[c]⟩, fun i _ => i = z.cps.size⟩
theorem turn_str {P : Program} {w : World} {K : W.Frag} {tg : Expr} {it : Addr} {z : Str} {t : Tok} {ty : String} (hty : ty = "str_ascii_iterator" \/ ty = "str_iterator") : Turn P w K tg (Its z) [it] it (fun i h => h.IsStrIter it ty z t i) where
 mem := by simp
 obj := fun i h st b hb => by
  have e : b = it := by simpa using hb
  subst e
  obtain ⟨o, e, c, d⟩ := st
  exact ⟨o, e, fun v z => by rw [d] at z; cases z⟩
 keep := fun i h h' st k => by
  obtain ⟨o, e, c, d⟩ := st
  exact ⟨o, k it (by simp) o e, c, d⟩
 item := by
  intro X hP hw hK hc i pins s σ H E I hf st hg
  subst hP hw hK
  obtain ⟨f0, f1, f2, f3, f4, f5⟩ := hf it (by simp)
  have fin : ∀ v h' tk, SignAt z i v -> h'.IsStrIter it ty z t (i + 1) -> (∀ b o, b ∉ [it] -> s.heap.get? b = some o -> h'.get? b = some o) ->
    ∃ u, some v = some u /\ wpAny (model X.prog X.w) X.A (letOwnedTupleGo tg (.ref it) u) (fun _ s2 => ∃ x H', Inv X pins σ H' s2 /\ RelV x u /\ (Its z).yld i H x H' /\ s2.heap.IsStrIter it ty z t (i + 1) /\ ∀ b ∈ [it], H' b = none) E { s with heap := h', toks := tk } := fun v h' tk hv st' kk => by
   obtain ⟨c, u, hcx, rfl⟩ := hv
   have I1 : Inv X pins σ H { s with heap := h', toks := tk } := I.turned (fun b o hb e => kk b o (by simpa using hb) e) f0 f1 f3 f4 f5
   obtain ⟨o, e, oc, d⟩ := id st'
   refine ⟨_, rfl, go_of (s := { s with heap := h', toks := tk }) e oc d (by rcases hty with rfl | rfl <;> decide) ⟨.str ⟨#[c]⟩, H, I1, ⟨u, rfl⟩, ⟨rfl, c, hcx, rfl⟩, st', fun b hb => (hf b hb).1⟩⟩
  rcases hty with rfl | rfl
  ·exact (Walks.strAscii (prog := X.prog) (w := X.w) (I.ok.hd hc) it z t).item i s _ _ hg st fin
  ·exact (Walks.strWide (prog := X.prog) (w := X.w) (I.ok.hd hc) it z t).item i s _ _ hg st fin
 done := by
  intro X hP hw hK hc i pins s σ H E I hf st hg
  subst hP hw hK
  obtain ⟨f0, f1, f2, f3, f4, f5⟩ := hf it (by simp)
  have hg : i = z.cps.size := hg
  subst hg
  have fin : ∀ h' tk, (∀ b o, b ∉ [it] -> s.heap.get? b = some o -> h'.get? b = some o) -> (none : Option Value) = none /\ Inv X pins σ H { s with heap := h', toks := tk } := fun h' tk kk =>
   ⟨rfl, I.turned (fun b o hb e => kk b o (by simpa using hb) e) f0 f1 f3 f4 f5⟩
  rcases hty with rfl | rfl
  ·exact (Walks.strAscii (prog := X.prog) (w := X.w) (I.ok.hd hc) it z t).done s _ _ st fin
  ·exact (Walks.strWide (prog := X.prog) (w := X.w) (I.ok.hd hc) it z t).done s _ _ st fin
 self := fun _ _ _ _ _ st h => by
  rcases hty with rfl | rfl
  ·exact wpAny_pyIter_striter_ascii st h
  ·exact wpAny_pyIter_striter_wide st h
theorem range_all (bs : List Bool) : ((List.range bs.length).all fun i => bs.getD i false) = bs.all id := by
 rw [Bool.eq_iff_iff]
 simp only [List.all_eq_true, List.mem_range]
 constructor
 ·intro h b hb
  obtain ⟨i, hi, e⟩ := List.getElem_of_mem hb
  have := h i hi
  rw [List.getD_eq_getElem?_getD, List.getElem?_eq_getElem hi] at this
  subst e
  simpa using this
 ·intro h i hi
  rw [List.getD_eq_getElem?_getD, List.getElem?_eq_getElem hi]
  simpa using h _ (List.getElem_mem hi)
theorem call_all_bl (hc : X.calm = true) : CallR X (.builtin "all") (fun xs H Q => ∃ (a : Addr) (bs : List Bool), xs = [.ref a] /\ SqL X.K H a (bs.map V.bl) /\ Q (.bl (bs.all id)) H) := by
 intro pins s σ H xs us Q I r h
 obtain ⟨a, bs, rfl, hq, q⟩ := h
 obtain ⟨u, rfl, ru⟩ := Vals.one r
 cases (show u = Value.ref a from ru)
 obtain ⟨its, rv, p, hz⟩ := I.list hq
 have hlt : a < s.heap.objs.size := by obtain ⟨o, e, _⟩ := p.isList; exact Heap.lt_size e
 refine call_all_walk (wpAny_pyIter_list p.isList ?_)
 have hlen : its.toArray.size = bs.length := by have := rv.length; simp at this; simp [this]
 refine ⟨s.heap.objs.size, _, _, its.toArray.size, _, _, fun i => bs.getD i false, rfl, Walks.list (by exact I.ok.hd hc) s.heap.objs.size a (Nat.ne_of_lt hlt) its.toArray, ⟨⟨_, Heap.get?_push_size _ rfl, rfl, rfl⟩, p.isList.push _⟩, ?_, ?_⟩
 ·intro i v s' Q' E' hv hQ'
  have hi : i < bs.length := by
   rw [← hlen]
   exact (Array.getElem?_eq_some_iff.mp hv).1
  obtain ⟨u, e1, r1⟩ := rv.get (i := i) (x := V.bl bs[i]) (by simp [hi])
  have e2 : its[i]? = some v := by simpa using hv
  rw [e1] at e2
  have e3 : u = v := Option.some.inj e2
  have e4 : u = Value.bool bs[i] := r1
  rw [← e3, e4]
  refine wpAny_truthy_bool ?_
  have : bs.getD i false = bs[i] := by rw [List.getD_eq_getElem?_getD, List.getElem?_eq_getElem hi]; rfl
  have hQ2 : Q' (bs.getD i false) s' := hQ'
  rw [this] at hQ2
  exact hQ2
 ·intro h' tk kk
  refine ⟨.bl _, H, I.kept fun b o e => kk b o (fun z => ?_) (Heap.get?_push_of_some _ e), ?_, q⟩
  ·have : b = s.heap.objs.size := by simpa using z
   exact absurd this (Nat.ne_of_lt (Heap.lt_size e))
  ·show Value.bool _ = Value.bool _
   rw [hlen, range_all]
end
end L2
namespace Se
open PySem PySem.SetTable
noncomputable def adv (mask : Nat) (p : Probe) : Probe :=
 if p.more > 0 then { p with j := p.j + 1, more := p.more - 1 } else
 { p with j := (leap mask p.i p.perturb).1, more := runEnd mask (leap mask p.i p.perturb).1 - (leap mask p.i p.perturb).1, i := (leap mask p.i p.perturb).1, perturb := (leap mask p.i p.perturb).2 }
theorem adv_eq (t : SetTable) (p : Probe) : t.advance p = adv t.mask p := by unfold SetTable.advance adv; rfl
noncomputable def it (mask : Nat) : Nat -> Probe -> Probe
 | 0, p => p
 | n + 1, p => it mask n (adv mask p)
theorem it_succ (mask n : Nat) : ∀ p, it mask (n + 1) p = adv mask (it mask n p) := by
 induction n with
 | zero => intro p; rfl
 | succ n ih => intro p; exact ih (adv mask p)
theorem ZbD (mask a : Nat) : ∀ (b : Nat) (p : Probe), it mask (a + b) p = it mask b (it mask a p) := by
 induction a with
 | zero => intro b p; rw [Nat.zero_add]; rfl
 | succ a ih => intro b p; rw [Nat.succ_add]; exact ih b (adv mask p)
noncomputable def inRun (mask i d pt : Nat) : Probe := { j := i + d, more := runEnd mask i - i - d, i := i, perturb := pt, dummy := none }
noncomputable def len (mask i : Nat) : Nat := runEnd mask i - i
theorem len_le (mask i : Nat) : len mask i <= 9 := by unfold len runEnd; split <;> lia
theorem adv_in {mask i d pt : Nat} (h : d < len mask i) : adv mask (inRun mask i d pt) = inRun mask i (d + 1) pt := by
 unfold len at h
 unfold adv inRun
 dsimp only
 rw [if_pos (by lia)]
 have e1 : i + d + 1 = i + (d + 1) := by lia
 have e2 : runEnd mask i - i - d - 1 = runEnd mask i - i - (d + 1) := by lia
 rw [e1, e2]
theorem adv_out {mask i d pt : Nat} (h : d = len mask i) : adv mask (inRun mask i d pt) = inRun mask (leap mask i pt).1 0 (leap mask i pt).2 := by
 unfold len at h
 unfold adv inRun
 dsimp only
 rw [if_neg (by lia)]
 rfl
theorem it_in {mask i pt : Nat} : ∀ (k d : Nat), d + k <= len mask i -> it mask k (inRun mask i d pt) = inRun mask i (d + k) pt
 | 0, d, _ => rfl
 | k + 1, d, h => by
  show it mask k (adv mask (inRun mask i d pt)) = _
  rw [adv_in (by lia), it_in k (d + 1) (by lia)]
  have e : d + 1 + k = d + (k + 1) := by lia
  rw [e]
theorem it_next {mask i d pt : Nat} (h : d <= len mask i) : it mask (len mask i - d + 1) (inRun mask i d pt) = inRun mask (leap mask i pt).1 0 (leap mask i pt).2 := by
 rw [it_succ, it_in _ _ (by lia), adv_out (by lia)]
noncomputable def lp (mask : Nat) : Nat -> Nat × Nat -> Nat × Nat
 | 0, p => p
 | n + 1, p => lp mask n (leap mask p.1 p.2)
theorem it_lp (mask : Nat) : ∀ (k i pt : Nat), ∃ c, c <= 10 * k /\ it mask c (inRun mask i 0 pt) = inRun mask (lp mask k (i, pt)).1 0 (lp mask k (i, pt)).2
 | 0, i, pt => ⟨0, Nat.zero_le _, rfl⟩
 | k + 1, i, pt => by
  obtain ⟨c, hc, e⟩ := it_lp mask k (leap mask i pt).1 (leap mask i pt).2
  refine ⟨(len mask i - 0 + 1) + c, ?_, ?_⟩
  ·have := len_le mask i; lia
  ·rw [ZbD, it_next (Nat.zero_le _), e]; rfl
theorem lp_add (mask a : Nat) : ∀ (b : Nat) (p : Nat × Nat), lp mask (a + b) p = lp mask b (lp mask a p) := by
 induction a with
 | zero => intro b p; rw [Nat.zero_add]; rfl
 | succ a ih => intro b p; rw [Nat.succ_add]; exact ih b _
theorem lp_pt (mask : Nat) : ∀ (k i pt : Nat), (lp mask k (i, pt)).2 = pt / 32 ^ k
 | 0, i, pt => by simp [lp]
 | k + 1, i, pt => by
  show (lp mask k (leap mask i pt)).2 = _
  have : leap mask i pt = ((i * 5 + 1 + pt / 32) % (mask + 1), pt / 32) := rfl
  rw [this, lp_pt mask k, Nat.div_div_eq_div_mul, Nat.pow_succ, Nat.mul_comm]
theorem lp_lt (mask : Nat) : ∀ (k i pt : Nat), i < mask + 1 -> (lp mask k (i, pt)).1 < mask + 1
 | 0, i, pt, h => h
 | k + 1, i, pt, h => lp_lt mask k _ _ (Nat.mod_lt _ (Nat.succ_pos _))
noncomputable def f (mask i : Nat) : Nat := (i * 5 + 1) % (mask + 1)
noncomputable def fk (mask : Nat) : Nat -> Nat -> Nat
 | 0, i => i
 | n + 1, i => fk mask n (f mask i)
theorem lp_zero (mask : Nat) : ∀ (k i : Nat), lp mask k (i, 0) = (fk mask k i, 0)
 | 0, i => rfl
 | k + 1, i => by
  show lp mask k (leap mask i 0) = _
  have : leap mask i 0 = (f mask i, 0) := by simp [leap, f]
  rw [this, lp_zero mask k]; rfl
theorem fk_add (mask a : Nat) : ∀ (b i : Nat), fk mask (a + b) i = fk mask b (fk mask a i) := by
 induction a with
 | zero => intro b i; rw [Nat.zero_add]; rfl
 | succ a ih => intro b i; rw [Nat.succ_add]; exact ih b _
noncomputable def Mk (mask : Nat) : Prop := mask = 7 \/ mask = 31 \/ mask = 127
noncomputable def orb (mask : Nat) : Nat -> Nat -> List Nat
 | 0, _ => []
 | n + 1, i => i :: orb mask n (f mask i)
theorem orb_get (mask : Nat) : ∀ (n i j : Nat), j ∈ orb mask n i -> ∃ k, k < n /\ fk mask k i = j
 | 0, i, j, h => by cases h
 | n + 1, i, j, h => by
  rcases List.mem_cons.mp h with rfl | h
  ·exact ⟨0, by lia, rfl⟩
  ·obtain ⟨k, hk, e⟩ := orb_get mask n _ _ h
   exact ⟨k + 1, by lia, e⟩
theorem orb_all {mask : Nat} (h : Mk mask) : (List.range (mask + 1)).all (fun j => (orb mask (mask + 1) 0).elem j) = true /\ fk mask (mask + 1) 0 = 0 := by
 rcases h with rfl | rfl | rfl <;> exact ⟨by decide +kernel, by decide +kernel⟩
theorem from0 {mask j : Nat} (h : Mk mask) (hj : j < mask + 1) : ∃ k, k < mask + 1 /\ fk mask k 0 = j := by
 have := List.all_eq_true.mp (orb_all h).1 j (List.mem_range.mpr hj)
 exact orb_get mask _ _ _ (List.elem_iff.mp this)
theorem goes {mask i j : Nat} (h : Mk mask) (hi : i < mask + 1) (hj : j < mask + 1) : ∃ k, k < mask + 1 /\ fk mask k i = j := by
 obtain ⟨a, ha, ea⟩ := from0 h hi
 obtain ⟨b, hb, eb⟩ := from0 h hj
 by_cases hab : a <= b
 ·refine ⟨b - a, by lia, ?_⟩
  rw [← ea, ← fk_add, show a + (b - a) = b by lia, eb]
 ·refine ⟨b + (mask + 1) - a, by lia, ?_⟩
  rw [← ea, ← fk_add, show a + (b + (mask + 1) - a) = (mask + 1) + b by lia, fk_add, (orb_all h).2, eb]
theorem meets {mask i d pt j : Nat} (h : Mk mask) (hd : d <= len mask i) (hpt : pt < 2 ^ 64) (hj : j < mask + 1) : ∃ k, k < 10 * turns mask /\ (it mask k (inRun mask i d pt)).j = j := by
 have e1 := it_next (pt := pt) hd
 obtain ⟨c, hc, e2⟩ := it_lp mask 13 (leap mask i pt).1 (leap mask i pt).2
 have hz : (lp mask 13 ((leap mask i pt).1, (leap mask i pt).2)).2 = 0 := by
  rw [lp_pt]
  have : (leap mask i pt).2 = pt / 32 := rfl
  rw [this, Nat.div_div_eq_div_mul]
  exact Nat.div_eq_of_lt (Nat.lt_trans hpt (by decide))
 have hl : (lp mask 13 ((leap mask i pt).1, (leap mask i pt).2)).1 < mask + 1 := lp_lt mask 13 _ _ (Nat.mod_lt _ (Nat.succ_pos _))
 generalize lp mask 13 ((leap mask i pt).1, (leap mask i pt).2) = q at hz hl e2
 obtain ⟨i2, pt2⟩ := q
 dsimp only at hz hl e2
 subst hz
 obtain ⟨k, hk, ek⟩ := goes h hl hj
 obtain ⟨c2, hc2, e3⟩ := it_lp mask k i2 0
 rw [lp_zero, ek] at e3
 refine ⟨(len mask i - d + 1) + (c + c2), ?_, ?_⟩
 ·have := len_le mask i; unfold turns; lia
 ·rw [ZbD, e1, ZbD, e2, e3]; rfl
theorem bits_lt (h : Int) : bits h < 2 ^ 64 := by
 unfold bits
 have h1 : 0 <= h % (2 ^ 64 : Int) := Int.emod_nonneg _ (by decide)
 have h2 : h % (2 ^ 64 : Int) < 2 ^ 64 := Int.emod_lt_of_pos _ (by decide)
 lia
noncomputable def Wf (mask : Nat) (p : Probe) : Prop := ∃ i d pt, p = inRun mask i d pt /\ d <= len mask i /\ pt < 2 ^ 64
theorem Wf.adv {mask : Nat} {p : Probe} (h : Wf mask p) : Wf mask (adv mask p) := by
 obtain ⟨i, d, pt, rfl, hd, hp⟩ := h
 by_cases e : d = len mask i
 ·rw [adv_out e]; exact ⟨_, 0, _, rfl, Nat.zero_le _, Nat.lt_of_le_of_lt (Nat.div_le_self _ _) hp⟩
 ·rw [adv_in (by lia)]; exact ⟨i, d + 1, pt, rfl, by lia, hp⟩
theorem Wf.it {mask : Nat} : ∀ (n : Nat) {p : Probe}, Wf mask p -> Wf mask (it mask n p)
 | 0, p, h => h
 | n + 1, p, h => Wf.it n h.adv
theorem Wf.start (mask : Nat) (h : Int) : Wf mask (inRun mask (bits h % (mask + 1)) 0 (bits h)) := ⟨_, 0, _, rfl, Nat.zero_le _, bits_lt h⟩
theorem Wf.meets {mask j : Nat} {p : Probe} (w : Wf mask p) (h : Mk mask) (hj : j < mask + 1) : ∃ k, k < 10 * turns mask /\ (Se.it mask k p).j = j := by
 obtain ⟨i, d, pt, rfl, hd, hp⟩ := w
 exact Se.meets h hd hp hj
theorem Wf.dummy {mask : Nat} {p : Probe} (w : Wf mask p) : p.dummy = none := by obtain ⟨i, d, pt, rfl, _⟩ := w; rfl
noncomputable def Rising (xs : Array Nat) : Prop := ∀ (a b : Nat) (x y : Nat), a < b -> xs[a]? = some x -> xs[b]? = some y -> x < y
theorem below_go {xs : Array Nat} {j : Nat} (hr : Rising xs) : ∀ (fuel lo hi : Nat), lo <= hi -> hi <= xs.size -> hi - lo <= fuel -> (∀ k x, k < lo -> xs[k]? = some x -> x < j) -> (∀ k x, hi <= k -> xs[k]? = some x -> j <= x) ->
  (∀ k x, k < below.go xs j fuel lo hi -> xs[k]? = some x -> x < j) /\ (∀ k x, below.go xs j fuel lo hi <= k -> xs[k]? = some x -> j <= x) /\ below.go xs j fuel lo hi <= xs.size
 | 0, lo, hi, h1, h2, h3, ha, hb => by
  have : hi = lo := by lia
  subst this
  exact ⟨ha, hb, h2⟩
 | fuel + 1, lo, hi, h1, h2, h3, ha, hb => by
  unfold below.go
  by_cases hlt : lo < hi
  ·rw [if_pos hlt]
   have hm : (lo + hi) / 2 < xs.size := by lia
   obtain ⟨v, hv⟩ : ∃ v, xs[(lo + hi) / 2]? = some v := ⟨_, Array.getElem?_eq_getElem hm⟩
   have hd : xs.getD ((lo + hi) / 2) j = v := by rw [Array.getD_eq_getD_getElem?, hv]; rfl
   dsimp only
   rw [hd]
   by_cases hj : v < j
   ·rw [if_pos hj]
    refine below_go hr fuel _ hi (by lia) h2 (by lia) (fun k x hk hx => ?_) hb
    rcases Nat.lt_or_ge k ((lo + hi) / 2) with q | q
    ·exact Nat.lt_trans (hr k _ x v q hx hv) hj
    ·have : k = (lo + hi) / 2 := by lia
     subst this; rw [hv] at hx; cases hx; exact hj
   ·rw [if_neg hj]
    refine below_go hr fuel lo _ (by lia) (by lia) (by lia) ha (fun k x hk hx => ?_)
    rcases Nat.lt_or_ge ((lo + hi) / 2) k with q | q
    ·exact Nat.le_of_lt (Nat.lt_of_le_of_lt (Nat.le_of_not_lt hj) (hr _ k v x q hv hx))
    ·have : k = (lo + hi) / 2 := by lia
     subst this; rw [hv] at hx; cases hx; exact Nat.le_of_not_lt hj
  ·rw [if_neg hlt]
   have : hi = lo := by lia
   subst this
   exact ⟨ha, hb, h2⟩
theorem below_ok {xs : Array Nat} (hr : Rising xs) (j : Nat) : (∀ k x, k < below xs j -> xs[k]? = some x -> x < j) /\ (∀ k x, below xs j <= k -> xs[k]? = some x -> j <= x) /\ below xs j <= xs.size :=
 below_go hr _ 0 _ (Nat.zero_le _) (Nat.le_refl _) (by lia) (fun k x h => absurd h (Nat.not_lt_zero _)) (fun k x h e => by rw [Array.getElem?_eq_none h] at e; cases e)
theorem below_at {xs : Array Nat} (hr : Rising xs) {i j : Nat} (e : xs[i]? = some j) : below xs j = i := by
 obtain ⟨h1, h2, h3⟩ := below_ok hr j
 rcases Nat.lt_trichotomy (below xs j) i with q | q | q
 ·obtain ⟨v, hv⟩ : ∃ v, xs[below xs j]? = some v := by
   have hi : i < xs.size := by rcases Nat.lt_or_ge i xs.size with z | z; exact z; rw [Array.getElem?_eq_none z] at e; cases e
   exact ⟨_, Array.getElem?_eq_getElem (by lia)⟩
  have a := h2 _ _ (Nat.le_refl _) hv
  have b := hr _ _ _ _ q hv e
  lia
 ·exact q
 ·have := h1 i j q e; lia
theorem Zbm {t : SetTable} {i j : Nat} (hr : Rising t.place) (e : t.place[i]? = some j) : t.slot j = .live i := by
 unfold SetTable.slot
 rw [below_at hr e]
 dsimp only
 rw [e]
 simp
theorem live_slot {t : SetTable} {i j : Nat} (e : t.slot j = .live i) : t.place[i]? = some j := by
 unfold SetTable.slot at e
 dsimp only at e
 split at e
 ·rename_i h; cases e; exact eq_of_beq h
 ·split at e <;> cases e
theorem has_none (j : Nat) : has #[] j = false := by unfold has; simp
theorem slot_free {t : SetTable} {j : Nat} (hd : t.dummies = #[]) (hn : ∀ i : Nat, t.place[i]? ≠ some j) : t.slot j = .empty := by
 unfold SetTable.slot
 dsimp only
 rw [if_neg (by simpa using hn _), hd, has_none]
 simp
theorem free_slot {t : SetTable} {j : Nat} (hr : Rising t.place) (e : t.slot j = .empty) : ∀ i : Nat, t.place[i]? ≠ some j := by
 intro i q
 rw [Zbm hr q] at e
 cases e
theorem slot_kind {t : SetTable} (hd : t.dummies = #[]) (j : Nat) : t.slot j ≠ .dummy := by
 unfold SetTable.slot
 dsimp only
 rw [hd, has_none]
 split <;> simp
noncomputable def Sees (t : SetTable) (hashAt : Nat -> Int) (h : Int) (p : Probe) (m : Met) : Prop :=
 ∃ n, (∀ k, k < n -> ∃ i, t.slot (it t.mask k p).j = .live i /\ hashAt i ≠ h) /\
  ((m = .empty (it t.mask n p).j none /\ t.slot (it t.mask n p).j = .empty) \/ ∃ i, m = .candidate (it t.mask n p).j i (it t.mask (n + 1) p) /\ t.slot (it t.mask n p).j = .live i /\ hashAt i = h)
theorem go_sees {t : SetTable} {hashAt : Nat -> Int} {h : Int} (hd : t.dummies = #[]) : ∀ (fuel : Nat) (p : Probe), Wf t.mask p -> (∃ k, k < fuel /\ t.slot (it t.mask k p).j = .empty) -> ∃ m, probe.go t hashAt h fuel p = some m /\ Sees t hashAt h p m
 | 0, p, _, hk => by obtain ⟨k, hk, _⟩ := hk; exact absurd hk (Nat.not_lt_zero _)
 | fuel + 1, p, w, hk => by
  unfold probe.go
  cases e : t.slot p.j with
  | empty => exact ⟨_, rfl, 0, fun k hk => absurd hk (Nat.not_lt_zero _), .inl ⟨by rw [w.dummy]; rfl, e⟩⟩
  | dummy => exact absurd e (slot_kind hd _)
  | live i =>
   dsimp only
   by_cases q : (hashAt i == h) = true
   ·rw [if_pos q]
    refine ⟨_, rfl, 0, fun k hk => absurd hk (Nat.not_lt_zero _), .inr ⟨i, ?_, e, eq_of_beq q⟩⟩
    rw [adv_eq]; rfl
   ·rw [if_neg q, adv_eq]
    obtain ⟨k, hk, ek⟩ := hk
    have k0 : k ≠ 0 := by rintro rfl; rw [show (it t.mask 0 p).j = p.j from rfl, e] at ek; cases ek
    obtain ⟨k, rfl⟩ : ∃ k', k = k' + 1 := ⟨k - 1, by lia⟩
    obtain ⟨m, em, n, h1, h2⟩ := go_sees hd fuel (adv t.mask p) w.adv ⟨k, by lia, ek⟩
    refine ⟨m, em, n + 1, fun k hk => ?_, h2⟩
    cases k with
    | zero => exact ⟨i, e, by simpa using q⟩
    | succ k => exact h1 k (by lia)
theorem nd_sub {α : Type} [BEq α] [LawfulBEq α] : ∀ (l l' : List α), l.Nodup -> (∀ x ∈ l, x ∈ l') -> l.length <= l'.length
 | [], _, _, _ => Nat.zero_le _
 | x :: l, l', hn, hs => by
  obtain ⟨h1, h2⟩ := List.nodup_cons.mp hn
  have hx : x ∈ l' := hs x (.head _)
  have := nd_sub l (l'.erase x) h2 fun y hy => (List.mem_erase_of_ne (by rintro rfl; exact h1 hy)).mpr (hs y (.tail _ hy))
  rw [List.length_erase_of_mem hx] at this
  have := List.length_pos_of_mem hx
  simp only [List.length_cons]; lia
noncomputable def start (mask : Nat) (h : Int) : Probe := inRun mask (bits h % (mask + 1)) 0 (bits h)
structure T0 (t : SetTable) (es : Array (Int × Value)) : Prop where
 mm : Mk t.mask
 dm : t.dummies = #[]
 rs : Rising t.place
 sz : t.place.size = es.size
 lt : ∀ i j : Nat, t.place[i]? = some j -> j < t.mask + 1
 rc : ∀ (i j : Nat) (e : Int × Value), t.place[i]? = some j -> es[i]? = some e -> ∃ n, (it t.mask n (start t.mask e.1)).j = j /\ ∀ m, m < n -> ∃ i' : Nat, t.place[i']? = some (it t.mask m (start t.mask e.1)).j
structure TI (t : SetTable) (es : Array (Int × Value)) : Prop extends T0 t es where
 fl : es.size * 5 < t.mask * 3
theorem ZbM {xs : Array Nat} (hr : Rising xs) {M : Nat} (h : ∀ j, j < M -> ∃ i : Nat, xs[i]? = some j) : ∀ j, j < M -> ∃ i : Nat, j <= i /\ xs[i]? = some j
 | 0, hj => by obtain ⟨i, e⟩ := h 0 hj; exact ⟨i, Nat.zero_le _, e⟩
 | j + 1, hj => by
  obtain ⟨i, hi, e⟩ := ZbM hr h j (by lia)
  obtain ⟨i', e'⟩ := h (j + 1) hj
  refine ⟨i', ?_, e'⟩
  rcases Nat.lt_trichotomy i i' with q | q | q
  ·lia
  ·subst q; rw [e] at e'; exact absurd (Option.some.inj e') (by lia)
  ·have := hr _ _ _ _ q e' e; lia
theorem Mk.pos {mask : Nat} (h : Mk mask) : 7 <= mask /\ mask <= 127 /\ mask % 2 = 1 := by rcases h with rfl | rfl | rfl <;> decide
theorem T0.room {t : SetTable} {es : Array (Int × Value)} (T : T0 t es) (hs : es.size < t.mask + 1) : ∃ j, j < t.mask + 1 /\ t.slot j = .empty := by
 by_cases h : ∃ j, j < t.mask + 1 /\ ∀ i : Nat, t.place[i]? ≠ some j
 ·obtain ⟨j, hj, hn⟩ := h; exact ⟨j, hj, slot_free T.dm hn⟩
 ·exfalso
  have h' : ∀ j, j < t.mask + 1 -> ∃ i : Nat, t.place[i]? = some j := fun j hj => by
   apply Classical.byContradiction; intro q
   exact h ⟨j, hj, fun i e => q ⟨i, e⟩⟩
  obtain ⟨i, hi, e⟩ := ZbM T.rs h' t.mask (by lia)
  have : i < t.place.size := by
   rcases Nat.lt_or_ge i t.place.size with z | z
   ·exact z
   ·rw [Array.getElem?_eq_none z] at e; cases e
  have := T.sz; lia
theorem TI.few {t : SetTable} {es : Array (Int × Value)} (T : TI t es) : es.size < t.mask := by have := T.fl; lia
theorem T0.fits {t : SetTable} {es : Array (Int × Value)} (T : T0 t es) (h : es.size <= t.mask) : t.fits es.size = true := by
 unfold SetTable.fits SetTable.fill
 rw [T.dm, T.sz]
 simpa using h
theorem ins_get {α : Type} (xs : Array α) (p : Nat) (x : α) (hp : p <= xs.size) (i : Nat) : (insertAt xs p x)[i]? = if i < p then xs[i]? else if i = p then some x else xs[i - 1]? := by
 rw [← Array.getElem?_toList, SetTable.toList_insertAt]
 have hl : (xs.toList.take p).length = p := by simp; lia
 by_cases h : i < p
 ·rw [if_pos h, List.getElem?_append_left (by lia), List.getElem?_take_of_lt h, Array.getElem?_toList]
 ·rw [if_neg h, List.getElem?_append_right (by lia), hl]
  by_cases e : i = p
  ·subst e; simp
  ·rw [if_neg e]
   obtain ⟨k, hk⟩ : ∃ k, i - p = k + 1 := ⟨i - p - 1, by lia⟩
   rw [hk, List.getElem?_cons_succ, List.getElem?_drop, Array.getElem?_toList]
   congr 1; lia
theorem ins_size {α : Type} (xs : Array α) (p : Nat) (x : α) : (insertAt xs p x).size = xs.size + 1 := by
 rw [← Array.length_toList, SetTable.toList_insertAt]
 simp only [List.length_append, List.length_cons, List.length_take, List.length_drop, Array.length_toList]; lia
theorem T0.put {t : SetTable} {es : Array (Int × Value)} (T : T0 t es) {h : Int} {x : Value} {n : Nat} (hn : (it t.mask n (start t.mask h)).j < t.mask + 1) (hf : t.slot (it t.mask n (start t.mask h)).j = .empty) (hm : ∀ m, m < n -> ∃ i : Nat, t.place[i]? = some (it t.mask m (start t.mask h)).j) :
  ∀ t1 p, t.put (it t.mask n (start t.mask h)).j = (t1, p) -> p <= es.size /\ t1.mask = t.mask /\ t1.led = t.led /\ T0 t1 (insertAt es p (h, x)) := by
 intro t1 p e
 unfold SetTable.put at e
 dsimp only at e
 rw [T.dm, has_none] at e
 cases e
 have fr := free_slot T.rs hf
 obtain ⟨b1, b2, b3⟩ := below_ok T.rs (it t.mask n (start t.mask h)).j
 generalize hj : (it t.mask n (start t.mask h)).j = j at *
 generalize hp : below t.place j = p at *
 have hpe : p <= es.size := by rw [← T.sz]; exact b3
 have pg := ins_get t.place p j b3
 have eg := ins_get es p (h, x) hpe
 have old : ∀ i v : Nat, t.place[i]? = some v -> (insertAt t.place p j)[if i < p then i else i + 1]? = some v := fun i v e => by
  rw [pg]
  by_cases q : i < p
  ·rw [if_pos q, if_pos q]; exact e
  ·rw [if_neg q, if_neg (by lia), if_neg (by lia)]; exact e
 refine ⟨hpe, rfl, rfl, ⟨T.mm, rfl, ?_, ?_, ?_, ?_⟩⟩
 ·intro a b u v hab hu hv
  have hu : (insertAt t.place p j)[a]? = some u := hu
  have hv : (insertAt t.place p j)[b]? = some v := hv
  rw [pg] at hu hv
  split at hu
  ·rename_i ha
   split at hv
   ·exact T.rs _ _ _ _ hab hu hv
   ·split at hv
    ·cases hv; exact b1 _ _ ha hu
    ·have z := b2 _ _ (show p <= b - 1 by lia) hv
     exact Nat.lt_of_lt_of_le (b1 _ _ ha hu) z
  ·split at hu
   ·cases hu
    rw [if_neg (by lia), if_neg (by lia)] at hv
    have z := b2 _ _ (show p <= b - 1 by lia) hv
    rcases Nat.lt_or_eq_of_le z with q | q
    ·exact q
    ·exact absurd (q ▸ hv) (fr _)
   ·rw [if_neg (by lia), if_neg (by lia)] at hv
    exact T.rs _ _ _ _ (by lia) hu hv
 ·show (insertAt t.place p j).size = _
  rw [ins_size, ins_size, T.sz]
 ·intro i v e
  have e : (insertAt t.place p j)[i]? = some v := e
  rw [pg] at e
  split at e
  ·exact T.lt _ _ e
  ·split at e
   ·cases e; exact hn
   ·exact T.lt _ _ e
 ·intro i v e hv he
  have hv : (insertAt t.place p j)[i]? = some v := hv
  rw [pg] at hv
  rw [eg] at he
  have keep : (∃ n, (it t.mask n (start t.mask e.1)).j = v /\ ∀ m, m < n -> ∃ i' : Nat, t.place[i']? = some (it t.mask m (start t.mask e.1)).j) ->
    ∃ n, (it t.mask n (start t.mask e.1)).j = v /\ ∀ m, m < n -> ∃ i' : Nat, (insertAt t.place p j)[i']? = some (it t.mask m (start t.mask e.1)).j :=
   fun ⟨n, h1, h2⟩ => ⟨n, h1, fun m hm => let ⟨i', q⟩ := h2 m hm; ⟨_, old _ _ q⟩⟩
  split at hv
  ·rename_i q
   rw [if_pos q] at he
   exact keep (T.rc _ _ _ hv he)
  ·rename_i q
   rw [if_neg q] at he
   split at hv
   ·rename_i q2
    rw [if_pos q2] at he
    cases hv; cases he
    exact ⟨n, hj, fun m hm' => let ⟨i', q⟩ := hm m hm'; ⟨_, old _ _ q⟩⟩
   ·rename_i q2
    rw [if_neg q2] at he
    exact keep (T.rc _ _ _ hv he)
theorem cover_lp {mask i pt j : Nat} (h : Mk mask) (hi : i < mask + 1) (hpt : pt < 2 ^ 64) (hj : j < mask + 1) : ∃ k, k < turns mask /\ (lp mask k (i, pt)).1 = j := by
 have hz : (lp mask 13 (i, pt)).2 = 0 := by
  rw [lp_pt]; exact Nat.div_eq_of_lt (Nat.lt_trans hpt (by decide))
 have hl := lp_lt mask 13 i pt hi
 generalize e : lp mask 13 (i, pt) = q at hz hl
 obtain ⟨i2, pt2⟩ := q
 dsimp only at hz hl
 subst hz
 obtain ⟨k, hk, ek⟩ := goes h hl hj
 refine ⟨13 + k, by unfold turns; lia, ?_⟩
 rw [lp_add, e, lp_zero]; exact ek
noncomputable def own (owner : Array (Option Nat)) (j : Nat) : Option Nat := owner.getD j (some 0)
theorem free_ok {mask : Nat} {owner : Array (Option Nat)} : ∀ (fuel i pt : Nat), (∃ k, k < fuel /\ own owner (lp mask k (i, pt)).1 = none) ->
  ∃ j n, layClean.free mask owner fuel i pt = some j /\ (it mask n (inRun mask i 0 pt)).j = j /\ own owner j = none /\ ∀ m, m < n -> own owner (it mask m (inRun mask i 0 pt)).j ≠ none
 | 0, i, pt, h => by obtain ⟨k, hk, _⟩ := h; exact absurd hk (Nat.not_lt_zero _)
 | fuel + 1, i, pt, h => by
  unfold layClean.free
  have hle : i <= runEnd mask i := by unfold runEnd; split <;> lia
  cases e : (List.range (runEnd mask i + 1 - i)).find? (fun k => (owner.getD (i + k) (some 0)).isNone) with
  | some k =>
   obtain ⟨h1, h2, h3⟩ := List.find?_range_eq_some.mp e
   have hk := List.mem_range.mp h2
   have hi := it_in (mask := mask) (i := i) (pt := pt) k 0 (by unfold len; lia)
   refine ⟨i + k, k, rfl, ?_, ?_, fun m hm q => ?_⟩
   ·rw [hi, Nat.zero_add]; rfl
   ·exact Option.isNone_iff_eq_none.mp h1
   ·have := h3 m hm
    rw [it_in m 0 (by unfold len; lia), Nat.zero_add] at q
    have q : owner.getD (i + m) (some 0) = none := q
    rw [q] at this
    simp at this
  | none =>
   have hn := List.find?_range_eq_none.mp e
   obtain ⟨k, hk, ek⟩ := h
   have k0 : k ≠ 0 := by
    rintro rfl
    have ek : owner.getD i (some 0) = none := ek
    have := hn 0 (by lia)
    rw [Nat.add_zero, ek] at this
    simp at this
   obtain ⟨k, rfl⟩ : ∃ k', k = k' + 1 := ⟨k - 1, by lia⟩
   obtain ⟨j, n, h1, h2, h3, h4⟩ := free_ok fuel (leap mask i pt).1 (leap mask i pt).2 ⟨k, by lia, ek⟩
   refine ⟨j, (len mask i - 0 + 1) + n, h1, ?_, h3, fun m hm => ?_⟩
   ·rw [ZbD, it_next (Nat.zero_le _)]; exact h2
   ·by_cases q : m <= len mask i
    ·rw [it_in m 0 (by lia), Nat.zero_add]
     have := hn m (by unfold len at q; lia)
     intro z
     have z : owner.getD (i + m) (some 0) = none := z
     rw [z] at this
     simp at this
    ·obtain ⟨m', rfl⟩ : ∃ m', m = (len mask i - 0 + 1) + m' := ⟨m - (len mask i + 1), by lia⟩
     rw [ZbD, it_next (Nat.zero_le _)]
     exact h4 m' (by lia)
structure OI (mask : Nat) (hs : List Int) (owner : Array (Option Nat)) : Prop where
 sz : owner.size = mask + 1
 lt : ∀ j i : Nat, owner[j]? = some (some i) -> i < hs.length
 on : ∀ i, i < hs.length -> ∃ j : Nat, owner[j]? = some (some i)
 inj : ∀ j j' i : Nat, owner[j]? = some (some i) -> owner[j']? = some (some i) -> j = j'
 rc : ∀ (j i : Nat) (h : Int), owner[j]? = some (some i) -> hs[i]? = some h -> ∃ n, (it mask n (start mask h)).j = j /\ ∀ m, m < n -> ∃ i' : Nat, owner[(it mask m (start mask h)).j]? = some (some i')
theorem own_some {owner : Array (Option Nat)} {j : Nat} (hj : j < owner.size) (h : own owner j ≠ none) : ∃ i : Nat, owner[j]? = some (some i) := by
 unfold own at h
 rw [Array.getD_eq_getD_getElem?, Array.getElem?_eq_getElem hj] at h
 rw [Array.getElem?_eq_getElem hj]
 cases e : owner[j] with
 | none => rw [e] at h; exact absurd rfl h
 | some i => exact ⟨i, rfl⟩
theorem own_none {owner : Array (Option Nat)} {j : Nat} (h : own owner j = none) : j < owner.size /\ owner[j]? = some none := by
 unfold own at h
 rw [Array.getD_eq_getD_getElem?] at h
 rcases Nat.lt_or_ge j owner.size with q | q
 ·rw [Array.getElem?_eq_getElem q] at h
  have h : owner[j] = none := h
  exact ⟨q, by rw [Array.getElem?_eq_getElem q, h]⟩
 ·rw [Array.getElem?_eq_none q] at h; cases h
theorem OI.room {mask : Nat} {hs : List Int} {owner : Array (Option Nat)} (O : OI mask hs owner) (h : hs.length < mask + 1) : ∃ j, j < mask + 1 /\ own owner j = none := by
 apply Classical.byContradiction
 intro q
 have al : ∀ j, j < mask + 1 -> ∃ i : Nat, owner[j]? = some (some i) := fun j hj => own_some (by rw [O.sz]; exact hj) fun z => q ⟨j, hj, z⟩
 have g : ∀ j, j < mask + 1 -> owner[j]? = some (some ((owner.getD j none).getD 0)) := fun j hj => by
  obtain ⟨i, e⟩ := al j hj
  rw [Array.getD_eq_getD_getElem?, e]; rfl
 have := nd_sub ((List.range (mask + 1)).map fun j => (owner.getD j none).getD 0) (List.range hs.length) ?_ ?_
 ·simp at this; lia
 ·refine List.pairwise_map.mpr (List.Pairwise.imp_of_mem (fun {a b} ha hb hab e => ?_) List.nodup_range)
  have h1 := g a (List.mem_range.mp ha)
  have h2 := g b (List.mem_range.mp hb)
  rw [e] at h1
  exact hab (O.inj _ _ _ h1 h2)
 ·intro x hx
  obtain ⟨j, hj, rfl⟩ := List.mem_map.mp hx
  exact List.mem_range.mpr (O.lt _ _ (g j (List.mem_range.mp hj)))
theorem it_lt {mask : Nat} {h : Int} (hM : Mk mask) (n : Nat) : (it mask n (start mask h)).j < mask + 1 := by
 have key : ∀ n, ∃ i d pt, it mask n (start mask h) = inRun mask i d pt /\ d <= len mask i /\ i < mask + 1 := by
  intro n
  induction n with
  | zero => exact ⟨_, 0, _, rfl, Nat.zero_le _, Nat.mod_lt _ (Nat.succ_pos _)⟩
  | succ n ih =>
   obtain ⟨i, d, pt, e, hd, hi⟩ := ih
   rw [it_succ, e]
   by_cases q : d = len mask i
   ·rw [adv_out q]; exact ⟨_, 0, _, rfl, Nat.zero_le _, Nat.mod_lt _ (Nat.succ_pos _)⟩
   ·rw [adv_in (by lia)]; exact ⟨i, d + 1, pt, rfl, by lia, hi⟩
 obtain ⟨i, d, pt, e, hd, hi⟩ := key n
 rw [e]
 show i + d < mask + 1
 unfold len runEnd at hd
 split at hd <;> lia
theorem OI.step {mask : Nat} {hs : List Int} {owner : Array (Option Nat)} (O : OI mask hs owner) (hM : Mk mask) (h : hs.length < mask + 1) (hh : Int) :
  ∃ j, layClean.free mask owner (turns mask) (bits hh % (mask + 1)) (bits hh) = some j /\ OI mask (hs ++ [hh]) (owner.setIfInBounds j (some hs.length)) := by
 obtain ⟨j0, hj0, e0⟩ := O.room h
 obtain ⟨k, hk, ek⟩ := cover_lp hM (Nat.mod_lt (bits hh) (Nat.succ_pos mask)) (bits_lt hh) hj0
 obtain ⟨j, n, h1, h2, h3, h4⟩ := free_ok (mask := mask) (owner := owner) (turns mask) (bits hh % (mask + 1)) (bits hh) ⟨k, hk, by rw [ek]; exact e0⟩
 have h2 : (it mask n (start mask hh)).j = j := h2
 obtain ⟨hj, hjn⟩ := own_none h3
 have gs : ∀ a : Nat, (owner.setIfInBounds j (some hs.length))[a]? = if j = a then some (some hs.length) else owner[a]? := fun a => by
  rw [Array.getElem?_setIfInBounds]
  by_cases q : j = a
  ·rw [if_pos q, if_pos q, if_pos hj]
  ·rw [if_neg q, if_neg q]
 have old : ∀ a i : Nat, owner[a]? = some (some i) -> (owner.setIfInBounds j (some hs.length))[a]? = some (some i) := fun a i e => by
  rw [gs, if_neg]; exact e
  rintro rfl; rw [hjn] at e; cases e
 refine ⟨j, h1, ⟨by simpa using O.sz, fun a i e => ?_, fun i hi => ?_, fun a b i ea eb => ?_, fun a i x ea ex => ?_⟩⟩
 ·rw [gs] at e
  split at e
  ·cases e; simp
  ·have := O.lt _ _ e; simp; lia
 ·by_cases q : i < hs.length
  ·obtain ⟨a, e⟩ := O.on i q; exact ⟨a, old _ _ e⟩
  ·have : i = hs.length := by simp at hi; lia
   subst this
   exact ⟨j, by rw [gs, if_pos rfl]⟩
 ·rw [gs] at ea eb
  split at ea
  ·rename_i qa
   cases ea
   split at eb
   ·rename_i qb; lia
   ·have := O.lt _ _ eb; lia
  ·split at eb
   ·cases eb; have := O.lt _ _ ea; lia
   ·exact O.inj _ _ _ ea eb
 ·rw [gs] at ea
  split at ea
  ·rename_i qa
   subst qa
   cases ea
   have : x = hh := by simpa using ex.symm
   subst this
   refine ⟨n, h2, fun m hm => ?_⟩
   obtain ⟨i', e'⟩ := own_some (by rw [O.sz]; exact it_lt hM m) (h4 m hm)
   exact ⟨i', old _ _ e'⟩
  ·have hl := O.lt _ _ ea
   rw [List.getElem?_append_left hl] at ex
   obtain ⟨n', q1, q2⟩ := O.rc _ _ _ ea ex
   exact ⟨n', q1, fun m hm => let ⟨i', e'⟩ := q2 m hm; ⟨i', old _ _ e'⟩⟩
noncomputable def stepO (mask : Nat) (acc : Option (Array (Option Nat) × Nat)) (h : Int) : Option (Array (Option Nat) × Nat) := do
 let (owner, k) ← acc
 let j ← layClean.free mask owner (turns mask) (bits h % (mask + 1)) (bits h)
 pure (owner.setIfInBounds j (some k), k + 1)
theorem layClean_ok {mask : Nat} (hM : Mk mask) (hashes : Array Int) (h : hashes.size < mask + 1) : ∃ owner, layClean mask hashes = some owner /\ OI mask hashes.toList owner := by
 have key : ∀ (rest pre : List Int) (owner : Array (Option Nat)), OI mask pre owner -> pre.length + rest.length < mask + 1 -> ∃ o', rest.foldl (stepO mask) (some (owner, pre.length)) = some (o', pre.length + rest.length) /\ OI mask (pre ++ rest) o' := by
  intro rest
  induction rest with
  | nil => intro pre owner O _; exact ⟨owner, rfl, by rw [List.append_nil]; exact O⟩
  | cons x rest ih =>
   intro pre owner O hl
   simp only [List.length_cons] at hl
   obtain ⟨j, e, O'⟩ := O.step hM (by lia) x
   obtain ⟨o', e', O2⟩ := ih (pre ++ [x]) _ O' (by simp; lia)
   refine ⟨o', ?_, by rw [List.append_cons]; exact O2⟩
   rw [List.foldl_cons]
   have : stepO mask (some (owner, pre.length)) x = some (owner.setIfInBounds j (some pre.length), (pre ++ [x]).length) := by
    unfold stepO
    show (layClean.free mask owner (turns mask) (bits x % (mask + 1)) (bits x)).bind _ = _
    rw [e]; simp
   rw [this, e']
   congr 2
   simp; lia
 have O0 : OI mask [] (Array.replicate (mask + 1) none) := by
  have z : ∀ j i : Nat, (Array.replicate (mask + 1) (none : Option Nat))[j]? ≠ some (some i) := fun j i e => by
   rw [Array.getElem?_replicate] at e
   split at e <;> cases e
  exact ⟨by simp, fun j i e => absurd e (z _ _), fun i hi => absurd hi (Nat.not_lt_zero _), fun j j' i e => absurd e (z _ _), fun j i x e => absurd e (z _ _)⟩
 obtain ⟨o', e', O'⟩ := key hashes.toList [] _ O0 (by simpa using h)
 refine ⟨o', ?_, by simpa using O'⟩
 unfold layClean
 rw [← Array.foldl_toList]
 show (hashes.toList.foldl (stepO mask) (some (Array.replicate (mask + 1) none, 0))).map (·.1) = _
 have : ([] : List Int).length = 0 := rfl
 rw [this] at e'
 rw [e']; rfl
theorem nd_perm : ∀ (l l' : List Nat), l.Nodup -> l'.Nodup -> (∀ x, x ∈ l ↔ x ∈ l') -> l.Perm l'
 | [], l', _, _, h => by
  cases l' with
  | nil => exact .nil
  | cons y r => exact absurd ((h y).mpr (.head _)) List.not_mem_nil
 | x :: l, l', hn, hn', h => by
  obtain ⟨h1, h2⟩ := List.nodup_cons.mp hn
  have hx : x ∈ l' := (h x).mp (.head _)
  refine (List.Perm.cons x (nd_perm l (l'.erase x) h2 (hn'.erase x) fun y => ?_)).trans (List.perm_cons_erase hx).symm
  rw [hn'.mem_erase_iff]
  constructor
  ·intro hy; exact ⟨by rintro rfl; exact h1 hy, (h y).mp (.tail _ hy)⟩
  ·rintro ⟨q, hy⟩
   exact (List.mem_cons.mp ((h y).mpr hy)).resolve_left q
theorem fmap_get {α β : Type} (g : α -> Option β) : ∀ (l : List α), (∀ x ∈ l, ∃ y, g x = some y) -> ∀ i : Nat, (l.filterMap g)[i]? = (l[i]?).bind g
 | [], _, i => by simp
 | x :: l, h, i => by
  obtain ⟨y, e⟩ := h x (.head _)
  rw [List.filterMap_cons_some e]
  cases i with
  | zero => simp [e]
  | succ i => simpa using fmap_get g l (fun z hz => h z (.tail _ hz)) i
noncomputable def live (mask : Nat) (owner : Array (Option Nat)) : List (Nat × Nat) := (List.range (mask + 1)).filterMap fun j => (owner.getD j none).map (j, ·)
theorem live_mem {mask : Nat} {owner : Array (Option Nat)} (hs : owner.size = mask + 1) {j i : Nat} : (j, i) ∈ live mask owner ↔ owner[j]? = some (some i) := by
 unfold live
 rw [List.mem_filterMap]
 constructor
 ·rintro ⟨a, ha, e⟩
  obtain ⟨b, e1, e2⟩ := Option.map_eq_some_iff.mp e
  cases e2
  rw [Array.getD_eq_getD_getElem?] at e1
  cases q : owner[j]? with
  | none => rw [q] at e1; cases e1
  | some v => rw [q] at e1; have e1 : v = some i := e1; rw [e1]
 ·intro e
  have hj : j < mask + 1 := by
   rw [← hs]
   rcases Nat.lt_or_ge j owner.size with z | z
   ·exact z
   ·rw [Array.getElem?_eq_none z] at e; cases e
  exact ⟨j, List.mem_range.mpr hj, by rw [Array.getD_eq_getD_getElem?, e]; rfl⟩
theorem live_rise (mask : Nat) (owner : Array (Option Nat)) : (live mask owner).Pairwise fun a b => a.1 < b.1 := by
 unfold live
 refine List.Pairwise.filterMap _ (fun a a' h b hb b' hb' => ?_) List.pairwise_lt_range
 obtain ⟨_, _, rfl⟩ := Option.map_eq_some_iff.mp hb
 obtain ⟨_, _, rfl⟩ := Option.map_eq_some_iff.mp hb'
 exact h
theorem pw_get {α : Type} {R : α -> α -> Prop} {l : List α} (h : l.Pairwise R) {a b : Nat} {x y : α} (hab : a < b) (hx : l[a]? = some x) (hy : l[b]? = some y) : R x y := by
 obtain ⟨ha, rfl⟩ := List.getElem?_eq_some_iff.mp hx
 obtain ⟨hb, rfl⟩ := List.getElem?_eq_some_iff.mp hy
 exact List.pairwise_iff_getElem.mp h a b ha hb hab
theorem laid_ok {mask finger moves : Nat} {led plain : Bool} (hM : Mk mask) (es : Array (Int × Value)) (hs : es.size * 5 < mask * 3) :
  ∃ t' order, laid mask finger moves led plain (es.map (·.1)) = some (t', order) /\ (order.filterMap (es[·]?)).size = es.size /\ (order.filterMap (es[·]?)).toList.Perm es.toList /\ TI t' (order.filterMap (es[·]?)) /\ t'.mask = mask /\ t'.led = led := by
 obtain ⟨owner, e, O⟩ := layClean_ok hM (es.map (·.1)) (by simp; lia)
 have hlen : (es.map (·.1)).toList.length = es.size := by simp
 have lm := @live_mem mask owner O.sz
 have lr := live_rise mask owner
 generalize hL : live mask owner = L at lm lr
 refine ⟨_, _, by unfold laid; rw [e]; rfl, ?_⟩
 show (((live mask owner).map (·.2)).toArray.filterMap (es[·]?)).size = es.size /\ _
 have hpl : (((List.range (mask + 1)).filterMap fun j => (owner.getD j none).map (j, ·)).map (·.1)) = L.map (·.1) := by rw [← hL]; rfl
 have hor : (((List.range (mask + 1)).filterMap fun j => (owner.getD j none).map (j, ·)).map (·.2)) = L.map (·.2) := by rw [← hL]; rfl
 rw [hpl, hor, hL]
 have ordPerm : (L.map (·.2)).Perm (List.range es.size) := by
  refine nd_perm _ _ ?_ List.nodup_range fun x => ?_
  ·refine List.pairwise_map.mpr (List.Pairwise.imp_of_mem (fun {a b} ha hb hab q => ?_) lr)
   obtain ⟨a1, a2⟩ := a
   obtain ⟨b1, b2⟩ := b
   have q : a2 = b2 := q
   subst q
   have := O.inj _ _ _ (lm.mp ha) (lm.mp hb)
   have hab : a1 < b1 := hab
   lia
  ·rw [List.mem_map, List.mem_range]
   constructor
   ·rintro ⟨⟨a, b⟩, h1, rfl⟩
    have := O.lt _ _ (lm.mp h1)
    rw [hlen] at this; exact this
   ·intro hx
    obtain ⟨j, q⟩ := O.on x (by rw [hlen]; exact hx)
    exact ⟨(j, x), lm.mpr q, rfl⟩
 have hperm : ((L.map (·.2)).toArray.filterMap (es[·]?)).toList.Perm es.toList := by
  rw [Array.toList_filterMap]
  exact (ordPerm.filterMap _).trans (by rw [filterMap_getElem?_range])
 have hsz : ((L.map (·.2)).toArray.filterMap (es[·]?)).size = es.size := by rw [← Array.length_toList, hperm.length_eq, Array.length_toList]
 have hll : L.length = es.size := by have := ordPerm.length_eq; simpa using this
 have eg : ∀ i : Nat, ((L.map (·.2)).toArray.filterMap (es[·]?))[i]? = (L[i]?).bind fun p => es[p.2]? := fun i => by
  rw [← Array.getElem?_toList, Array.toList_filterMap]
  show ((L.map (·.2)).filterMap (es[·]?))[i]? = _
  rw [fmap_get]
  ·rw [List.getElem?_map]; cases L[i]? <;> rfl
  ·intro x hx
   have hx := List.mem_range.mp (ordPerm.mem_iff.mp hx)
   exact ⟨_, Array.getElem?_eq_getElem hx⟩
 have pg : ∀ i j : Nat, (L.map (·.1)).toArray[i]? = some j -> ∃ k, L[i]? = some (j, k) := fun i j q => by
  rw [List.getElem?_toArray, List.getElem?_map] at q
  obtain ⟨⟨a, k⟩, h1, h2⟩ := Option.map_eq_some_iff.mp q
  exact ⟨k, by rw [h1]; exact congrArg (fun z => some (z, k)) h2⟩
 refine ⟨hsz, hperm, ⟨⟨hM, rfl, ?_, ?_, ?_, ?_⟩, ?_⟩, rfl, rfl⟩
 ·intro a b x y hab hx hy
  obtain ⟨k1, q1⟩ := pg _ _ hx
  obtain ⟨k2, q2⟩ := pg _ _ hy
  exact pw_get lr hab q1 q2
 ·show (L.map (·.1)).toArray.size = _
  rw [hsz]; simpa using hll
 ·intro i j q
  obtain ⟨k, q⟩ := pg _ _ q
  have := lm.mp (List.mem_of_getElem? q)
  show j < mask + 1
  rw [← O.sz]
  rcases Nat.lt_or_ge j owner.size with z | z
  ·exact z
  ·rw [Array.getElem?_eq_none z] at this; cases this
 ·intro i j x q qx
  obtain ⟨k, q⟩ := pg _ _ q
  rw [eg, q] at qx
  have qx : es[k]? = some x := qx
  have ho := lm.mp (List.mem_of_getElem? q)
  obtain ⟨n, h1, h2⟩ := O.rc j k x.1 ho (by rw [Array.getElem?_toList, Array.getElem?_map, qx]; rfl)
  refine ⟨n, h1, fun m hm => ?_⟩
  obtain ⟨i', q'⟩ := h2 m hm
  obtain ⟨a, ha, hb⟩ := List.getElem_of_mem (lm.mpr q')
  refine ⟨a, ?_⟩
  show (L.map (·.1)).toArray[a]? = _
  rw [List.getElem?_toArray, List.getElem?_map, List.getElem?_eq_getElem ha, hb]; rfl
 ·show _ * 5 < mask * 3
  rw [hsz]; exact hs
theorem grown_ok {mask n : Nat} (h : Mk mask) (h1 : n * 5 < mask * 3) (h2 : ¬ (n + 1) * 5 < mask * 3) (h3 : n + 1 < 77) : Mk (sizeAbove (grown (n + 1)) - 1) /\ (n + 1) * 5 < (sizeAbove (grown (n + 1)) - 1) * 3 := by
 rcases h with rfl | rfl | rfl
 ·have : n = 4 := by lia
  subst this; exact ⟨.inr (.inl (by decide)), by decide⟩
 ·have : n = 18 := by lia
  subst this; exact ⟨.inr (.inr (by decide)), by decide⟩
 ·lia
section
variable {prog : Program} {w : World} {K : Type} [DecidableEq K] {knd : KeyKind prog w K} {A : Around} {E : Value -> Shared -> Prop} {s : Shared}
theorem oacs_scalar {v : Value} (n : Nat) (h : carriedByValue v = true) : ofAClassStatement n v = pure false := by
 cases v <;> first | (cases n <;> rfl) | (exfalso; revert h; simp [carriedByValue])
theorem loop_calm {M : Model} {β : Type} {J : β → Prop} {ok : Value → Prop} {f : Value → β → Sem (ForInStep β)}
    (step : ∀ v b (Q : ForInStep β → Shared → Prop), ok v → J b → (∀ b', J b' → Q (.yield b') s) → (∀ b', J b' → Q (.done b') s) → wpAny M A (f v b) Q E s) :
    ∀ (xs : List Value) (b : β) (Q : β → Shared → Prop), (∀ v ∈ xs, ok v) → J b → (∀ b', J b' → Q b' s) → wpAny M A (forIn xs b f) Q E s
  | [], b, Q, _, j, q => by rw [List.forIn_nil]; exact wpAny_pure (q b j)
  | v :: xs, b, Q, hx, j, q => by
    rw [List.forIn_cons]
    exact wpAny_bind (step v b _ (hx v (.head _)) j (fun b' j' => loop_calm step xs b' Q (fun u z => hx u (.tail _ z)) j' q) fun b' j' => wpAny_pure (q b' j'))
theorem Zb8 {ks : List K} {a : Addr} {Q : Bool → Shared → Prop} (hk : IsTupleKey knd s.heap ks a) (h : Q false s) : wpAny (model prog w) A (ofAClassStatement 8 (.ref a)) Q E s := by
  obtain ⟨o, items, n, b1, b2, b3, b4⟩ := id hk
  have same : ("tuple" == "tuple") = true := by decide
  rw [ofAClassStatement]
  apply wpAny_bind
  refine wpAny_typeOf hk.typeIs ?_
  simp only [same, if_true]
  repeat first
    | refine wpAny_seqItems b1 b3 ?_
    | simp only [Bool.not_true, Bool.false_eq_true, if_false]
    | apply wpAny_pure
    | apply wpAny_bind
  rw [← Array.forIn_toList]
  refine loop_calm (J := fun r => r.1 = none) (ok := fun v => carriedByValue v = true) (fun v r Q z j q _ => ?_) _ _ _ b4.byValue rfl ?_
  · rw [oacs_scalar _ z]
    apply wpAny_bind
    apply wpAny_pure
    exact wpAny_pure (q _ rfl)
  · rintro ⟨r, u⟩ j
    cases (show r = none from j)
    exact wpAny_pure h
theorem hbv_scalar {v : Value} (n : Nat) (h : carriedByValue v = true) : ∃ b, hashByValue n v = pure b := by
 cases v <;> cases n <;> first | exact ⟨_, rfl⟩ | (exfalso; revert h; simp [carriedByValue])
theorem hbv_tuple {ks : List K} {a : Addr} {Q : Bool → Shared → Prop} (hk : IsTupleKey knd s.heap ks a) (h : ∀ b, Q b s) : wpAny (model prog w) A (hashByValue 8 (.ref a)) Q E s := by
  obtain ⟨o, items, n, b1, b2, b3, b4⟩ := id hk
  rw [hashByValue]
  apply wpAny_bind
  refine wpAny_specialOf hk.typeIs F.slot_tuple_hash.lookup ?_
  apply wpAny_bind
  refine wpAny_seqItems b1 b3 ?_
  apply wpAny_bind
  rw [← Array.forIn_toList]
  refine loop_calm (J := fun _ => True) (ok := fun v => carriedByValue v = true) (fun v r Q z _ q1 q2 => ?_) _ _ _ b4.byValue trivial ?_
  · obtain ⟨b, e⟩ := hbv_scalar 7 z
    rw [e]
    apply wpAny_bind
    apply wpAny_pure
    cases b
    · exact wpAny_pure (q2 _ trivial)
    · exact wpAny_pure (q1 _ trivial)
  · rintro ⟨_ | r, u⟩ _
    · exact wpAny_pure (h _)
    · exact wpAny_pure (h _)
theorem seen_quiet {ks : List K} {a : Addr} {stored : List Value} {Q : Bool → Shared → Prop} (hk : IsTupleKey knd s.heap ks a) (hst : ∀ v ∈ stored, ∃ ks' b, v = .ref b ∧ IsTupleKey knd s.heap ks' b) (h : Q false s) :
    wpAny (model prog w) A (searchCouldBeSeen (.ref a) stored) Q E s := by
  delta searchCouldBeSeen
  apply wpAny_bind
  refine loop_calm (J := fun r => r.1 = none) (ok := fun v => ∃ ks' b, v = .ref b ∧ IsTupleKey knd s.heap ks' b) (fun v r Q z j q1 _ => ?_) _ _ _ hst rfl ?_
  · obtain ⟨ks', b, rfl, hb⟩ := z
    dsimp only
    split
    · exact wpAny_pure (q1 _ rfl)
    · repeat first
        | exact wpAny_pure (q1 _ rfl)
        | refine (tupleKind knd).quiet hk ?_
        | refine (tupleKind knd).quiet hb ?_
        | refine Zb8 hk ?_
        | refine Zb8 hb ?_
        | simp only [Bool.not_true, Bool.false_eq_true, if_false]
        | apply wpAny_bind
  · rintro ⟨r, u⟩ j
    cases (show r = none from j)
    exact wpAny_pure h
end
section
variable {prog : Program} {w : World} {K : Type} [DecidableEq K] {knd : KeyKind prog w K} {A : Around} {E : Value -> Shared -> Prop} {s : Shared}
noncomputable def Els (knd : KeyKind prog w K) (h : Heap) (es : Array (Int × Value)) : Prop := ∀ (i : Nat) (e : Int × Value), es[i]? = some e -> ∃ k b, e = (tupleKeyHash knd k, Value.ref b) /\ IsTupleKey knd h k b
noncomputable def Unmet (knd : KeyKind prog w K) (h : Heap) (es : Array (Int × Value)) (t : SetTable) (k : List K) (n : Nat) : Prop := ∀ m, m < n -> ∃ i, t.slot (it t.mask m (start t.mask (tupleKeyHash knd k))).j = .live i /\ ∀ (u : Int) (b : Addr), es[i]? = some (u, .ref b) -> ¬ IsTupleKey knd h k b
theorem search {a x : Addr} {o : Obj} {es : Array (Int × Value)} {ep : Nat} {t : SetTable} {k : List K} {Q : SetFound -> Shared -> Prop} (hu : A.units < cLine) (ho : s.heap.get? a = some o) (hd : o.data = .set es ep t) (T : TI t es) (he : Els knd s.heap es) (hk : IsTupleKey knd s.heap k x)
  (hmet : ∀ (i : Nat) (u : Int) (b : Addr), es[i]? = some (u, .ref b) -> IsTupleKey knd s.heap k b -> Q (.there none) s)
  (hfree : ∀ n, t.slot (it t.mask n (start t.mask (tupleKeyHash knd k))).j = .empty -> Unmet knd s.heap es t k n -> Q (.free (it t.mask n (start t.mask (tupleKeyHash knd k))).j false) s) :
  ∀ (fuel n : Nat) (stand : Option Probe), stand.getD (t.probeStart (tupleKeyHash knd k)) = it t.mask n (start t.mask (tupleKeyHash knd k)) -> (∃ N, n <= N /\ N < n + fuel /\ t.slot (it t.mask N (start t.mask (tupleKeyHash knd k))).j = .empty) -> Unmet knd s.heap es t k n ->
   wpAny (model prog w) A (setSearchFrom a (.ref x) (tupleKeyHash knd k) true fuel stand) Q E s := by
 have hf : t.fits es.size = true := T.fits (Nat.le_of_lt T.few)
 intro fuel
 induction fuel with
 | zero => rintro n stand _ ⟨N, h1, h2, _⟩ _; lia
 | succ fuel ih =>
  intro n stand hs hN hun
  unfold setSearchFrom
  refine wpAny_bind (wpAny_setState_of ho hd hf ?_)
  dsimp only
  have hg : t.gaveWay = false := by
   unfold SetTable.gaveWay
   rw [T.mm.pos.2.2]; rfl
  rw [hg]
  simp only [Bool.false_eq_true, ↓reduceIte]
  rw [hs]
  have w0 : Wf t.mask (start t.mask (tupleKeyHash knd k)) := Wf.start _ _
  have wn := w0.it n
  obtain ⟨j0, hj0, e0⟩ := T.room (Nat.lt_succ_of_lt T.few)
  obtain ⟨c, hc, ec⟩ := wn.meets T.mm hj0
  obtain ⟨m, em, n1, sk, hm⟩ := go_sees (hashAt := fun i => (es[i]?.map (·.1)).getD 0) (h := tupleKeyHash knd k) T.dm (10 * turns t.mask) _ wn ⟨c, hc, by rw [ec]; exact e0⟩
  have em : t.probe (fun i => (es[i]?.map (·.1)).getD 0) (tupleKeyHash knd k) (it t.mask n (start t.mask (tupleKeyHash knd k))) = some m := em
  have un1 : Unmet knd s.heap es t k (n + n1) := by
   intro q hq
   by_cases z : q < n
   ·exact hun q z
   ·obtain ⟨i, h1, h2⟩ := sk (q - n) (by lia)
    rw [← ZbD, show n + (q - n) = q by lia] at h1
    refine ⟨i, h1, fun u b eb hb => h2 ?_⟩
    obtain ⟨k', b', e', hb'⟩ := he i _ eb
    cases e'
    dsimp only
    rw [eb]
    show tupleKeyHash knd k' = _
    rw [hb'.inj hb]
  rw [← ZbD] at hm
  generalize hP : t.probe _ (tupleKeyHash knd k) (it t.mask n (start t.mask (tupleKeyHash knd k))) = r
  have hr : r = some m := hP.symm.trans em
  subst hr
  clear hP
  dsimp only
  rcases hm with ⟨rfl, hm⟩ | ⟨i, rfl, hl, hh⟩
  ·exact wpAny_pure (hfree _ hm un1)
  ·dsimp only
   have hpi := live_slot hl
   have hi : i < es.size := by
    rw [← T.sz]
    rcases Nat.lt_or_ge i t.place.size with z | z
    ·exact z
    ·rw [Array.getElem?_eq_none z] at hpi; cases hpi
   obtain ⟨k', b, ee, hb⟩ := he i _ (Array.getElem?_eq_getElem hi)
   have ei : es[i]? = some (tupleKeyHash knd k', Value.ref b) := by rw [Array.getElem?_eq_getElem hi, ee]
   have onward : ¬ IsTupleKey knd s.heap k b -> wpAny (model prog w) A (setSearchFrom a (.ref x) (tupleKeyHash knd k) true fuel (some (it t.mask (n1 + 1) (it t.mask n (start t.mask (tupleKeyHash knd k)))))) Q E s := by
    intro hne
    obtain ⟨N, h1, h2, h3⟩ := hN
    refine ih (n + n1 + 1) _ ?_ ⟨N, ?_, by lia, h3⟩ ?_
    ·show it t.mask (n1 + 1) (it t.mask n (start t.mask (tupleKeyHash knd k))) = _
     rw [← ZbD]; rfl
    ·rcases Nat.lt_or_ge (n + n1) N with z | z
     ·exact z
     ·exfalso
      rcases Nat.lt_or_eq_of_le z with z | z
      ·obtain ⟨i', q, _⟩ := un1 N z
       rw [q] at h3; cases h3
      ·subst z; rw [hl] at h3; cases h3
    ·intro q hq
     by_cases z : q < n + n1
     ·exact un1 q z
     ·have : q = n + n1 := by lia
      subst this
      refine ⟨i, hl, fun u b' eb => ?_⟩
      rw [ei] at eb; cases eb; exact hne
   have main : wpAny (model prog w) A (match es[i]? with
     | some (fst, y) => do
      let equal ← holding [y] (eqBool y (Value.ref x))
      let __x ← setState a
      if (true && equal) = true then pure (SetFound.there none)
       else
        match __x.2.snd.sameMemory t.moves t.mask with
        | some same =>
         match if same = true then __x.2.snd.slot (it t.mask (n + n1) (start t.mask (tupleKeyHash knd k))).j else Slot.empty with
         | Slot.live i' =>
          match __x.fst[i']? with
          | some (fst, y') => do
           let __do_lift ← isSame y' y
           let still ← pure (if __do_lift = true then some i' else none)
           match still with
            | none => do
             rule "set.search.anew"
             setSearchFrom a (Value.ref x) (tupleKeyHash knd k) true fuel none
            | some i' =>
             if equal = true then pure (SetFound.there (some i'))
             else setSearchFrom a (Value.ref x) (tupleKeyHash knd k) true fuel (some (it t.mask (n1 + 1) (it t.mask n (start t.mask (tupleKeyHash knd k)))))
          | none => do
           let still ← pure none
           match still with
            | none => do
             rule "set.search.anew"
             setSearchFrom a (Value.ref x) (tupleKeyHash knd k) true fuel none
            | some i' =>
             if equal = true then pure (SetFound.there (some i'))
             else setSearchFrom a (Value.ref x) (tupleKeyHash knd k) true fuel (some (it t.mask (n1 + 1) (it t.mask n (start t.mask (tupleKeyHash knd k)))))
         | x_1 => do
          let still ← pure none
          match still with
           | none => do
            rule "set.search.anew"
            setSearchFrom a (Value.ref x) (tupleKeyHash knd k) true fuel none
           | some i' =>
            if equal = true then pure (SetFound.there (some i'))
            else setSearchFrom a (Value.ref x) (tupleKeyHash knd k) true fuel (some (it t.mask (n1 + 1) (it t.mask n (start t.mask (tupleKeyHash knd k)))))
        | _ => unsupported "set.changed-during-lookup:is-the-new-block-at-the-old-address"
     | _ => unsupported "internal:set-entry") Q E s := by
    rw [ei]
    dsimp only
    refine wpAny_bind (wpAny_holding ((tupleKind knd).eqBool hu hb hk ?_))
    refine wpAny_bind (wpAny_setState_of ho hd hf ?_)
    dsimp only
    by_cases hq : k' = k
    ·rw [decide_eq_true hq]
     exact wpAny_pure (hmet i _ b ei (hq ▸ hb))
    ·rw [decide_eq_false hq]
     have hsm : t.sameMemory t.moves t.mask = some true := by unfold SetTable.sameMemory; simp
     rw [hsm]
     simp only [Bool.and_false, Bool.false_eq_true, ↓reduceIte]
     rw [hl]
     dsimp only
     rw [ei]
     dsimp only
     refine wpAny_bind (wpAny_isSame_ref_self ?_)
     refine wpAny_bind (wpAny_pure ?_)
     simp only [↓reduceIte]
     exact onward fun z => hq (hb.inj z)
   split
   ·refine wpAny_bind (seen_quiet hk (fun v hv => ?_) ?_)
    ·obtain ⟨⟨u, v'⟩, hm1, rfl⟩ := List.mem_map.mp hv
     have hm1 := Array.mem_toList_iff.mp hm1
     obtain ⟨j, hj, q⟩ := Array.getElem_of_mem (Array.mem_filter.mp hm1).1
     obtain ⟨k2, b2, e2, h2⟩ := he j _ (Array.getElem?_eq_getElem hj)
     rw [q] at e2; cases e2
     exact ⟨k2, b2, rfl, h2⟩
    ·simp only [Bool.false_eq_true, ↓reduceIte]
     exact main
   ·exact main
end
section
variable {prog : Program} {w : World} {K : Type} [DecidableEq K] {knd : KeyKind prog w K} {A : Around} {E : Value -> Shared -> Prop} {s : Shared}
theorem key_keeps {h h' : Heap} {ks : List K} {a d : Addr} {o : Obj} {es : Array (Int × Value)} {ep : Nat} {t : SetTable} (x : IsTupleKey knd h ks a) (ho : h.get? d = some o) (hd : o.data = .set es ep t) (hs : Heap.SameBut d h h') : IsTupleKey knd h' ks a := by
 obtain ⟨o', items, n, g, hc, hd', hi⟩ := x
 refine ⟨o', items, n, (hs.2 a ?_).trans g, hc, hd', hi⟩
 rintro rfl
 cases ho.symm.trans g
 rw [hd] at hd'; cases hd'
noncomputable def SetT (knd : KeyKind prog w K) (h : Heap) (a : Addr) (ks : List (List K)) : Prop := ∃ o es ep t, h.get? a = some o /\ o.ExactSet /\ o.data = .set es ep t /\ TI t es /\ ks.Nodup /\
 ∃ bs : List (List K × Addr), bs.map (·.1) = ks /\ (∀ p ∈ bs, p.2 < a /\ IsTupleKey knd h p.1 p.2) /\ es.toList.Perm (bs.map fun p => (tupleKeyHash knd p.1, Value.ref p.2))
theorem T0.plainOff {t : SetTable} {es : Array (Int × Value)} (T : T0 t es) (b : Bool) : T0 (if b then t else { t with plain := false }) es := by
 cases b
 ·exact ⟨T.mm, T.dm, T.rs, T.sz, T.lt, T.rc⟩
 ·exact T
theorem get_store {h : Heap} {a : Addr} {o : Obj} {es : Array (Int × Value)} {ep : Nat} {t : SetTable} (ho : h.get? a = some o) (hd : o.data = .set es ep t) (es' : Array (Int × Value)) (t' : SetTable) :
  (h.update a (Obj.putSet es' t')).get? a = some { o with data := .set es' (ep + 1) t' } := by
 have q := Heap.get?_update_self (Obj.putSet es' t') ho (by rw [putSet_of es' t' hd]; rfl)
 rw [putSet_of es' t' hd] at q; exact q
theorem perm_ins {α : Type} (xs : Array α) (p : Nat) (x : α) : (insertAt xs p x).toList.Perm (xs.toList ++ [x]) := by
 have q := SetTable.insertAt_perm xs p x
 rwa [Array.toList_push] at q
theorem mask_off (t : SetTable) (b : Bool) : (if b then t else { t with plain := false }).mask = t.mask /\ (if b then t else { t with plain := false }).place = t.place /\ (if b then t else { t with plain := false }).dummies = t.dummies := by
 cases b <;> exact ⟨rfl, rfl, rfl⟩
theorem add_ {a x : Addr} {k : List K} {ks : List (List K)} {Q : Bool -> Shared -> Prop} (hu : A.units < cLine) (hS : SetT knd s.heap a ks) (hk : IsTupleKey knd s.heap k x) (hx : x < a) (hroom : ks.length + 1 < 77)
  (h : ∀ h', Heap.SameBut a s.heap h' -> SetT knd h' a (if k ∈ ks then ks else ks ++ [k]) -> Q (!decide (k ∈ ks)) { s with heap := h' }) :
  wpAny (model prog w) A (setAddHashed a (.ref x) (tupleKeyHash knd k)) Q E s := by
 obtain ⟨o, es, ep, t, ho, hex, hd, T, nd, bs, hbs, hbk, hpm⟩ := hS
 have hf : t.fits es.size = true := T.fits (Nat.le_of_lt T.few)
 have hlen : es.size = ks.length := by rw [← Array.length_toList, hpm.length_eq, ← hbs]; simp
 have he : Els knd s.heap es := fun i e q => by
  have hm : e ∈ es.toList := Array.mem_toList_iff.mpr (Array.mem_of_getElem? q)
  obtain ⟨p, hp, rfl⟩ := List.mem_map.mp (hpm.mem_iff.mp hm)
  exact ⟨p.1, p.2, rfl, (hbk p hp).2⟩
 unfold setAddHashed setAddHashedIn
 refine wpAny_holding (wpAny_bind (wpAny_setState_of ho hd hf ?_))
 dsimp only
 rw [show byScan (Value.ref x) es = false from rfl]
 simp only [Bool.false_eq_true, ↓reduceIte]
 have stay : k ∈ ks -> Q false s := fun hin => by
  have q := h s.heap (Heap.SameBut.refl a s.heap)
  rw [if_pos hin, decide_eq_true hin] at q
  exact q ⟨o, es, ep, t, ho, hex, hd, T, nd, bs, hbs, hbk, hpm⟩
 refine wpAny_bind ?_
 unfold setSearch
 obtain ⟨j0, hj0, e0⟩ := T.room (Nat.lt_succ_of_lt T.few)
 obtain ⟨c, hc, ec⟩ := (Wf.start t.mask (tupleKeyHash knd k)).meets T.mm hj0
 refine search hu ho hd T he hk (fun i u b eb hb => ?_) (fun n hn hun => ?_) 100000 0 none rfl ⟨c, Nat.zero_le _, ?_, (congrArg t.slot ec).trans e0⟩ (fun m hm => absurd hm (Nat.not_lt_zero _))
 ·-- it is there
  have hm : (u, Value.ref b) ∈ es.toList := Array.mem_toList_iff.mpr (Array.mem_of_getElem? eb)
  obtain ⟨p, hp, q⟩ := List.mem_map.mp (hpm.mem_iff.mp hm)
  cases q
  have := (hbk p hp).2.inj hb
  exact wpAny_pure (stay (by rw [← hbs, ← this]; exact List.mem_map_of_mem hp))
 ·-- it is new
  have hnew : k ∉ ks := by
   intro hin
   rw [← hbs] at hin
   obtain ⟨p, hp, rfl⟩ := List.mem_map.mp hin
   have hm : (tupleKeyHash knd p.1, Value.ref p.2) ∈ es.toList := hpm.mem_iff.mpr (List.mem_map.mpr ⟨p, hp, rfl⟩)
   obtain ⟨i, hi, q⟩ := Array.getElem_of_mem (Array.mem_toList_iff.mp hm)
   have ei : es[i]? = some (tupleKeyHash knd p.1, Value.ref p.2) := by rw [Array.getElem?_eq_getElem hi, q]
   obtain ⟨j, pj⟩ : ∃ j, t.place[i]? = some j := ⟨_, Array.getElem?_eq_getElem (by rw [T.sz]; exact hi)⟩
   obtain ⟨m, h1, h2⟩ := T.rc i j _ pj ei
   have h1 : (it t.mask m (start t.mask (tupleKeyHash knd p.1))).j = j := h1
   rcases Nat.lt_trichotomy m n with z | z | z
   ·obtain ⟨i', q1, q2⟩ := hun m z
    rw [h1, Zbm T.rs pj] at q1
    cases q1
    exact q2 _ _ ei (hbk p hp).2
   ·subst z
    rw [h1, Zbm T.rs pj] at hn; cases hn
   ·obtain ⟨i', q1⟩ := h2 n z
    rw [Zbm T.rs q1] at hn; cases hn
  have hway : ∀ m, m < n -> ∃ i : Nat, t.place[i]? = some (it t.mask m (start t.mask (tupleKeyHash knd k))).j := fun m hm => let ⟨i, q, _⟩ := hun m hm; ⟨i, live_slot q⟩
  dsimp only
  refine wpAny_bind (wpAny_setState_of ho hd hf ?_)
  dsimp only
  obtain ⟨t1, p, hput⟩ : ∃ t1 p, t.put (it t.mask n (start t.mask (tupleKeyHash knd k))).j = (t1, p) := ⟨_, _, rfl⟩
  obtain ⟨hp, hmk, _, T1⟩ := T.toT0.put (x := Value.ref x) (it_lt T.mm n) hn hway t1 p hput
  rw [hput]
  dsimp only
  have tail : ∀ b : Bool, wpAny (model prog w) A (do
    storeSet a (insertAt es p (tupleKeyHash knd k, Value.ref x)) (if b = true then t1 else { t1 with plain := false })
    if (!false && (if b = true then t1 else { t1 with plain := false }).tooFull) = true then do
      setRelay a (SetTable.grown (es.size + 1))
      pure true
     else pure true) Q E s := by
   intro b
   have T2 := T1.plainOff b
   obtain ⟨m1, m2, m3⟩ := mask_off t1 b
   generalize (if b = true then t1 else { t1 with plain := false }) = t2 at T2 m1 m2 m3 ⊢
   have hmk2 : t2.mask = t.mask := m1.trans hmk
   have hz : (insertAt es p (tupleKeyHash knd k, Value.ref x)).size = es.size + 1 := ins_size _ _ _
   have hbig := T.few
   have hM := T.mm.pos
   refine wpAny_bind (wpAny_storeSet_of ho hd ?_ (by rw [hz, sizeLine_eq]; lia))
   have g1 := get_store ho hd (insertAt es p (tupleKeyHash knd k, Value.ref x)) t2
   have sb1 := Heap.SameBut.update s.heap a (Obj.putSet (insertAt es p (tupleKeyHash knd k, Value.ref x)) t2)
   generalize hh1 : s.heap.update a (Obj.putSet (insertAt es p (tupleKeyHash knd k, Value.ref x)) t2) = h1 at g1 sb1
   have done_ : ∀ (h' : Heap) (es' : Array (Int × Value)) (ep' : Nat) (t' : SetTable), Heap.SameBut a s.heap h' -> h'.get? a = some { o with data := .set es' ep' t' } -> TI t' es' -> es'.toList.Perm (es.toList ++ [(tupleKeyHash knd k, Value.ref x)]) -> Q true { s with heap := h' } := by
    intro h' es' ep' t' sb g Ti pm
    have q := h h' sb
    rw [if_neg hnew, decide_eq_false hnew] at q
    refine q ⟨_, es', ep', t', g, hex, rfl, Ti, ?_, bs ++ [(k, x)], by simp [hbs], fun p' hp' => ?_, ?_⟩
    ·rw [List.nodup_append]
     exact ⟨nd, by simp, fun y hy z hz e => by rw [List.mem_singleton] at hz; subst hz; subst e; exact hnew hy⟩
    ·rcases List.mem_append.mp hp' with z | z
     ·exact ⟨(hbk p' z).1, key_keeps (hbk p' z).2 ho hd sb⟩
     ·rw [List.mem_singleton] at z; subst z; exact ⟨hx, key_keeps hk ho hd sb⟩
    ·rw [List.map_append]
     exact pm.trans (hpm.append_right _)
   by_cases hfull : (es.size + 1) * 5 < t2.mask * 3
   ·have : t2.tooFull = false := by
     unfold SetTable.tooFull SetTable.fill
     rw [T2.dm, T2.sz, hz]
     simp; lia
    rw [this]
    simp only [Bool.and_false, Bool.false_eq_true, ↓reduceIte]
    exact wpAny_pure (done_ h1 _ _ t2 sb1 g1 ⟨T2, by rw [hz]; exact hfull⟩ (perm_ins _ _ _))
   ·have : t2.tooFull = true := by
     unfold SetTable.tooFull SetTable.fill
     rw [T2.dm, T2.sz, hz]
     simp; lia
    rw [this]
    simp only [Bool.not_false, Bool.and_self, ↓reduceIte]
    refine wpAny_bind ?_
    unfold setRelay
    have hf2 : t2.fits (insertAt es p (tupleKeyHash knd k, Value.ref x)).size = true := T2.fits (by rw [hz, hmk2]; lia)
    have hd1 : ({ o with data := .set (insertAt es p (tupleKeyHash knd k, Value.ref x)) (ep + 1) t2 } : Obj).data = .set (insertAt es p (tupleKeyHash knd k, Value.ref x)) (ep + 1) t2 := rfl
    refine wpAny_bind (wpAny_setState_of (s := { s with heap := h1 }) g1 hd1 hf2 ?_)
    dsimp only
    obtain ⟨gM, gS⟩ := grown_ok T.mm T.fl (by rw [hmk2] at hfull; exact hfull) (by rw [hlen]; exact hroom)
    have hsl : ¬ SetTable.sizeAbove (SetTable.grown (es.size + 1)) > sizeLine := by
     have := gM.pos; rw [sizeLine_eq]; lia
    rw [if_neg hsl]
    obtain ⟨t', order, e1, e2, e3, e4, _, _⟩ := laid_ok (mask := SetTable.sizeAbove (SetTable.grown (es.size + 1)) - 1) (finger := t2.finger) (moves := t2.movedTo (SetTable.sizeAbove (SetTable.grown (es.size + 1)) - 1)) (led := t2.led) (plain := t2.plain) gM (insertAt es p (tupleKeyHash knd k, Value.ref x)) (by rw [hz]; exact gS)
    have e1 : t2.relaid ((insertAt es p (tupleKeyHash knd k, Value.ref x)).map (·.1)) (SetTable.grown (es.size + 1)) = some (t', order) := e1
    rw [e1]
    refine wpAny_bind ?_
    show wpAny _ _ (if ((order.filterMap ((insertAt es p (tupleKeyHash knd k, Value.ref x))[·]?)).size != (insertAt es p (tupleKeyHash knd k, Value.ref x)).size) = true then _ else _) _ _ _
    rw [if_neg (by rw [e2]; simp)]
    refine wpAny_pure ?_
    dsimp only
    have g2 := get_store g1 hd1 (order.filterMap ((insertAt es p (tupleKeyHash knd k, Value.ref x))[·]?)) t'
    refine wpAny_storeSet_of (s := { s with heap := h1 }) g1 hd1 ?_ (by rw [e2, hz, sizeLine_eq]; lia)
    exact wpAny_pure (done_ _ _ _ t' (sb1.trans (Heap.SameBut.update _ a _)) g2 e4 (e3.trans (perm_ins _ _ _)))
  cases hpl : t1.plain with
  | true =>
   simp only [↓reduceIte]
   refine wpAny_bind (hbv_tuple hk fun b => ?_)
   exact tail b
  | false =>
   simp only [Bool.false_eq_true, ↓reduceIte]
   refine wpAny_bind (wpAny_pure ?_)
   exact tail true
 ·have := T.mm.pos; unfold turns at hc; lia
end
end Se
namespace Se
open PySem PySem.Spec
section
variable {prog : Program} {w : World} {A : Around} {R : Result -> Shared -> Prop} {I S : Addr} {fp wr : List Addr} {G : Array GenState -> Array GenState -> Prop} {n : Nat} {P : Nat -> Value -> Prop} {Z : Nat -> Shared -> Prop} {J : Nat -> Heap -> Prop}
theorem loop_ (W : WalksS prog w A.in1 I fp wr G n P Z) (out : S ∉ fp)
  (add : ∀ (i : Nat) (v : Value) (s : Shared) (Q : Bool -> Shared -> Prop) (E : Value -> Shared -> Prop), i < n -> P i v -> J i s.heap -> (∀ b h' tk, Heap.SameBut S s.heap h' -> J (i + 1) h' -> s.toks <= tk -> Q b { s with heap := h', toks := tk }) -> wpAny (model prog w) A.in1 (setAdd S v) Q E s)
  (keep : ∀ (i : Nat) (h h' : Heap), J i h -> (∀ b o, b ∉ wr -> h.get? b = some o -> h'.get? b = some o) -> J i h') :
  ∀ (m i : Nat) (s : Shared), i + m = n -> Z i s -> J i s.heap -> (∀ s', Moved (S :: wr) G s s' -> J n s'.heap -> R (.ok (.ret .none)) s') ->
   codeAny (model prog w) A (.builtin "set.update.loop" ⟨[.ref S, .ref I], []⟩) R s := by
 have up : ∀ b ∈ wr, b ∈ S :: wr := fun b m => .tail _ m
 intro m
 induction m with
 | zero =>
  rintro i s rfl z j r
  refine codeAny_builtin PyProof.Rows.F.entry_set_update_loop ?_; rw [Around.under_plainId PyProof.Rows.F.plain_set_update_loop _]
  show wpAny (model prog w) A.in1 (pyNext (.ref I) >>= _) _ _ s
  refine wpAny_bind (W.done s _ _ z fun s' mv => ?_); show wpAny (model prog w) A.in1 (ret Value.none) _ _ s'
  exact wpAny_pure (r s' (mv.mono up) (keep _ _ _ j mv.heap))
 | succ m ih =>
  intro i s e z j r
  refine codeAny_builtin PyProof.Rows.F.entry_set_update_loop ?_; rw [Around.under_plainId PyProof.Rows.F.plain_set_update_loop _]
  show wpAny (model prog w) A.in1 (pyNext (.ref I) >>= _) _ _ s
  refine wpAny_bind (W.item i s _ _ (by lia) z fun v s' p z' mv => ?_)
  show wpAny (model prog w) A.in1 (holding [v] (setAdd S v) >>= _) _ _ s'
  refine wpAny_bind (wpAny_holding (add i v s' _ _ (by lia) p (keep _ _ _ j mv.heap) fun b h' tk sb j' tl => ?_))
  refine wpAny_pure ⟨plainId_quiet PyProof.Rows.F.plain_set_update_loop _, ih (i + 1) _ (by lia) (W.frame _ s' _ _ z' tl fun c hc o g => ?_) j' fun s'' mv2 j2 => ?_⟩
  ·rw [sb.2 c (by rintro rfl; exact out hc)]; exact g
  ·refine r s'' (Moved.trans W.gtrans ((mv.mono up).then_heap tl fun c o hc g => ?_) mv2) j2
   rw [sb.2 c (by rintro rfl; exact hc (.head _))]; exact g
end
theorem sub_ts : isSubtype (.type "tuple") (.type "set") = pure false := by rw [isSubtype_type]; kernel_rfl
theorem sub_tf : isSubtype (.type "tuple") (.type "frozenset") = pure false := by rw [isSubtype_type]; kernel_rfl
noncomputable abbrev newSetObj (led : Bool) : Obj := { cls := .type "set", dict := none, data := .set #[] 0 (.fresh 0 0 led) }
section
variable {prog : Program} {w : World} {A : Around} {E : Value -> Shared -> Prop} {s : Shared}
theorem init_ {l D : Addr} {items : Array Value} {J : Nat -> Heap -> Prop} {led : Bool} {g0 : Heap} {P : PySem.Fin -> Shared -> Prop} (hh : A.handled = none) (src : g0.IsList l items \/ g0.IsTuple l items) (hD : D = g0.objs.size)
  (j0 : ∀ h', (∀ b o, b < D -> g0.get? b = some o -> h'.get? b = some o) -> h'.get? D = some (newSetObj led) -> J 0 h')
  (add : ∀ (A' : Around) (i : Nat) (v : Value) (s : Shared) (Q : Bool -> Shared -> Prop) (E : Value -> Shared -> Prop), A'.units <= A.units + 4 -> i < items.size -> items[i]? = some v -> J i s.heap -> (∀ b h' tk, Heap.SameBut D s.heap h' -> J (i + 1) h' -> s.toks <= tk -> Q b { s with heap := h', toks := tk }) -> wpAny (model prog w) A' (setAdd D v) Q E s)
  (keep : ∀ (i : Nat) (h h' : Heap), J i h -> (∀ b o, b ≠ D + 1 -> h.get? b = some o -> h'.get? b = some o) -> J i h')
  (hs : s.heap = g0.push (newSetObj led))
  (h : ∀ h' tk, J items.size h' -> (∀ b o, b < D -> g0.get? b = some o -> h'.get? b = some o) -> P (.done (.ret .none)) { s with heap := h', toks := tk }) :
  wpAny (model prog w) A (Builtin.«set.__init__» ⟨[.ref D, .ref l], []⟩) P E s := by
 have hgS : s.heap.get? D = some (newSetObj led) := by rw [hs, hD]; exact Heap.get?_push_size _ rfl
 have hne : (Value.type "list" == Value.type "dict") = false := by decide
 have hne2 : (Value.type "tuple" == Value.type "dict") = false := by decide
 have a1 := PySem.F.sub_list_set
 have a2 := PySem.F.sub_list_frozenset
 have a3 := sub_ts
 have a4 := sub_tf
 have hl : l < g0.objs.size := by rcases src with ⟨o, g, _⟩ | ⟨o, g, _⟩ <;> exact Heap.lt_size g
 have hz : s.heap.objs.size = D + 1 := by rw [hs, Heap.size_push, hD]
 have hlD : l < D := by rw [hD]; exact hl
 have n1 : l ≠ s.heap.objs.size := by rw [hz]; exact Nat.ne_of_lt (Nat.lt_succ_of_lt hlD)
 have n2 : D ∉ [s.heap.objs.size, l] := by
  rw [hz]; intro m
  rcases List.mem_cons.mp m with q | m
  ·exact absurd q (Nat.ne_of_lt (Nat.lt_succ_self D))
  ·exact absurd (List.mem_singleton.mp m) (Nat.ne_of_gt hlD)
 have n3 : ∀ b : Addr, b < D -> b ∉ [D, s.heap.objs.size] := fun b hb m => by
  rw [hz] at m
  rcases List.mem_cons.mp m with q | m
  ·exact absurd q (Nat.ne_of_lt hb)
  ·exact absurd (List.mem_singleton.mp m) (Nat.ne_of_lt (Nat.lt_succ_of_lt hb))
 have n4 : ∀ b : Addr, b ∉ [s.heap.objs.size] -> b ≠ D + 1 := fun b m q => m (by rw [hz, q]; exact .head _)
 have n5 : ∀ b : Addr, b ≠ D + 1 -> b ∉ [s.heap.objs.size] := fun b q m => q (by rw [hz] at m; exact List.mem_singleton.mp m)
 have old : ∀ b o, b < D -> g0.get? b = some o -> s.heap.get? b = some o := fun b o hb e => by rw [hs]; exact Heap.get?_push_of_some _ e
 rcases src with ⟨ol, gl, hc, nl, hd⟩ | ⟨ol, gl, hc, nl, hd⟩
 ·obtain ⟨ocls, odict, odata, oslots⟩ := ol
  simp only at hc hd; subst hc hd
  have gl' : s.heap.get? l = some ⟨.type "list", odict, .seq items nl, oslots⟩ := by rw [hs]; exact Heap.get?_push_of_some _ gl
  have il : s.heap.IsList l items := ⟨_, gl', rfl, nl, rfl⟩
  unfold Builtin.«set.__init__» noKeywords Builtin.Frozenset.updateFrom; generalize hPI : pyIter = PI
  wp_walk
  subst hPI
  refine wpAny_pyIter_list il ?_; refine wpAny_bind (wpAny_runValue ?_)
  refine loop_ (J := J) ((Walks.list (by simp [hh]) _ l n1 items).toS) (S := D) n2 (fun i v s Q E hi hv j k => add _ i v s Q E (by simp [Around.in1]) hi hv j k) (fun i h h' j k => keep i h h' j fun b o nb e => k b o (n5 b nb) e) items.size 0 _ (Nat.zero_add _) ⟨⟨_, Heap.get?_push_size _ rfl, rfl, rfl⟩, il.push _⟩ (j0 _ (fun b o hb e => Heap.get?_push_of_some _ (old b o hb e)) (Heap.get?_push_of_some _ hgS)) fun s' mv j => ?_
  obtain ⟨h', g', d', tk', os'⟩ := s'
  cases (show g' = s.gens from mv.gens); cases (show d' = s.drawn from mv.drawn); cases (show os' = s.os from mv.os)
  show wpAny _ _ _ _ _ _
  refine wpAny_pure ?_; show wpAny (model prog w) _ (ret Value.none) _ _ _
  exact wpAny_pure (h h' tk' j fun b o hb e => mv.heap b o (n3 b hb) (Heap.get?_push_of_some _ (old b o hb e)))
 ·obtain ⟨ocls, odict, odata, oslots⟩ := ol
  simp only at hc hd; subst hc hd
  have gl' : s.heap.get? l = some ⟨.type "tuple", odict, .seq items nl, oslots⟩ := by rw [hs]; exact Heap.get?_push_of_some _ gl
  have il : s.heap.IsTuple l items := ⟨_, gl', rfl, nl, rfl⟩
  unfold Builtin.«set.__init__» noKeywords Builtin.Frozenset.updateFrom; generalize hPI : pyIter = PI
  wp_walk
  subst hPI
  refine wpAny_pyIter_tuple il ?_; refine wpAny_bind (wpAny_runValue ?_)
  refine loop_ (J := J) ((Walks.tuple (by simp [hh]) _ l n1 items).toS) (S := D) n2 (fun i v s Q E hi hv j k => add _ i v s Q E (by simp [Around.in1]) hi hv j k) (fun i h h' j k => keep i h h' j fun b o nb e => k b o (n5 b nb) e) items.size 0 _ (Nat.zero_add _) ⟨⟨_, Heap.get?_push_size _ rfl, rfl, rfl⟩, il.push _⟩ (j0 _ (fun b o hb e => Heap.get?_push_of_some _ (old b o hb e)) (Heap.get?_push_of_some _ hgS)) fun s' mv j => ?_
  obtain ⟨h', g', d', tk', os'⟩ := s'
  cases (show g' = s.gens from mv.gens); cases (show d' = s.drawn from mv.drawn); cases (show os' = s.os from mv.os)
  show wpAny _ _ _ _ _ _
  refine wpAny_pure ?_; show wpAny (model prog w) _ (ret Value.none) _ _ _
  exact wpAny_pure (h h' tk' j fun b o hb e => mv.heap b o (n3 b hb) (Heap.get?_push_of_some _ (old b o hb e)))
end
section
variable {prog : Program} {w : World} {A : Around} {E : Value -> Shared -> Prop} {s : Shared}
theorem call_ {l : Addr} {items : Array Value} {J : Nat -> Heap -> Prop} {Q : Value -> Shared -> Prop} (hh : A.handled = none) (src : s.heap.IsList l items \/ s.heap.IsTuple l items)
  (j0 : ∀ (led : Bool) h', (∀ b o, b < s.heap.objs.size -> s.heap.get? b = some o -> h'.get? b = some o) -> h'.get? s.heap.objs.size = some (newSetObj led) -> J 0 h')
  (add : ∀ (A' : Around) (i : Nat) (v : Value) (s' : Shared) (Q : Bool -> Shared -> Prop) (E : Value -> Shared -> Prop), A'.units <= A.units + 8 -> i < items.size -> items[i]? = some v -> J i s'.heap -> (∀ b h' tk, Heap.SameBut s.heap.objs.size s'.heap h' -> J (i + 1) h' -> s'.toks <= tk -> Q b { s' with heap := h', toks := tk }) -> wpAny (model prog w) A' (setAdd s.heap.objs.size v) Q E s')
  (keep : ∀ (i : Nat) (h h' : Heap), J i h -> (∀ b o, b ≠ s.heap.objs.size + 1 -> h.get? b = some o -> h'.get? b = some o) -> J i h')
  (h : ∀ h' tk, J items.size h' -> (∀ b o, b < s.heap.objs.size -> s.heap.get? b = some o -> h'.get? b = some o) -> Q (.ref s.heap.objs.size) { s with heap := h', toks := tk }) :
  wpAny (model prog w) A (call (.type "set") [.ref l]) Q E s := by
 obtain ⟨cc, tl, hmro⟩ := PySem.F.called_set.mro
 have c1 := PySem.F.called_set.made
 have c2 := PySem.F.called_set.sub
 refine wpAny_call (codeAny_of_tree ?_); show wpAny (model prog w) _ (callAny (.type "set") _) _ _ _
 refine wpAny_pure ⟨Code.quiet_builtin _ (by decide +kernel), codeAny_builtin PySem.F.entry_type_call ?_⟩; rw [Around.under_plain (weight_type_call_type "set" [.ref l] []) rfl]
 have c3 := PySem.F.called_set.notType
 have c4 := PySem.F.called_set.canCreate
 have c5 := PySem.F.typeCall_set_1 (.ref l)
 repeat (any_goals (first | assumption | wp_step))
 refine codeAny_mono (code_set_new_1 (.ref l) (E := E) (Q₁ := fun obj s1 => ∃ led : Bool, obj = .ref s.heap.objs.size /\ s1 = { s with heap := s.heap.push (newSetObj led) }) fun led => ⟨led, rfl, rfl⟩) fun r s1 hr => ?_
 cases r with
 | error e => exact hr
 | ok fl =>
  cases fl with
  | ret obj =>
   obtain ⟨led, rfl, rfl⟩ := hr
   have g1 : (s.heap.push (newSetObj led)).get? s.heap.objs.size = some (newSetObj led) := Heap.get?_push_size _ rfl
   have t1 : Shared.TypeIs { s with heap := s.heap.push (newSetObj led) } (.ref s.heap.objs.size) "set" := ⟨_, g1, rfl⟩
   have c6 := PySem.F.called_set.init.lookup
   have c7 := PySem.F.called_set.init.bind (.ref s.heap.objs.size)
   repeat (any_goals (first | assumption | wp_step))
   refine codeAny_mono (codeAny_call_builtin (R := wants (fun r s2 => r = .none /\ ∃ h' tk, s2 = { s with heap := h', toks := tk } /\ J items.size h' /\ (∀ b o, b < s.heap.objs.size -> s.heap.get? b = some o -> h'.get? b = some o)) E) PySem.F.called_set.init.plain PySem.F.entry_set_init (check_set_init_1 t1 ?_)) fun r2 s2 hr2 => ?_
   ·refine init_ (g0 := s.heap) (led := led) (J := J) (D := s.heap.objs.size) (by simp [hh]) src rfl (j0 led) (fun A' i v s' Q E hu => add A' i v s' Q E (by simp [Around.in1] at hu ⊢; lia)) keep rfl fun h' tk j k => ⟨rfl, h', tk, rfl, j, k⟩
   ·cases r2 with
    | error e => exact hr2
    | ok fl2 =>
     cases fl2 with
     | ret r =>
      obtain ⟨rfl, h', tk, rfl, j, k⟩ := hr2
      repeat (any_goals (first | assumption | wp_step))
      exact h _ _ j k
     | _ => exact hr2.elim
  | _ => exact hr.elim
end
end Se
namespace Pu
open PySem PySem.Spec PyProof.Rows L2
inductive PV where
 | non | bl (b : Bool) | int (i : Int) | str (x : Str) | tup (xs : List PV) | lst (xs : List PV) | dct (ks vs : List PV) | dtt (ks : List (List Key)) (vs : List PV) | fn (a : Addr) | ty (n : String)
noncomputable def kP : Key -> PV
 | .inl i => .int i
 | .inr x => .str x
noncomputable def LsR (K : W.Frag) (ι : List Addr) (H : Hp) (a : Addr) (vs : List V) : Prop :=
 (a ∉ ι /\ Rd H a (.lst vs)) \/
  ∃ (o : Obj) (its : Array Value) (n : Nat), K.lookup a = some o /\ o.cls = .type "list" /\ o.dict = none /\ o.data = .seq its n /\ its.size <= sizeLine /\ Vals vs its.toList
theorem LsR.sq {K : W.Frag} {ι : List Addr} {H : Hp} {a : Addr} {vs : List V} (h : LsR K ι H a vs) : SqL K H a vs := by
 rcases h with ⟨_, h⟩ | h
 ·exact .inl h
 ·exact .inr h
noncomputable def TpR (H : Hp) (a : Addr) (vs : List V) : Prop := H a = some (.tup vs)
theorem TpR.sq {K : W.Frag} {H : Hp} {a : Addr} {vs : List V} (h : TpR H a vs) : SqT K H a vs := .inl (.inl h)
mutual
noncomputable def Rep (K : W.Frag) (ι : List Addr) (H : Hp) : PV -> V -> Prop
 | .non, v => v = .non
 | .bl b, v => v = .bl b
 | .int i, v => v = .int i
 | .str x, v => v = .str x /\ x.length <= sizeLine
 | .tup ps, v => ∃ a vs, v = .ref a /\ TpR H a vs /\ Reps K ι H ps vs
 | .lst ps, v => ∃ a vs, v = .ref a /\ LsR K ι H a vs /\ Reps K ι H ps vs
 | .dct ks ps, v => ∃ (a : Addr) (qs : List Key) (vs : List V), v = .ref a /\ a ∉ ι /\ H a = some (.dK (qs.zip vs)) /\ qs.length = vs.length /\ ks = qs.map kP /\ Reps K ι H ps vs
 | .dtt ks ps, v => ∃ (a : Addr) (vs : List V), v = .ref a /\ a ∉ ι /\ H a = some (.dT (ks.zip vs)) /\ ks.length = vs.length /\ Reps K ι H ps vs
 | .fn a, v => v = .ref a
 | .ty n, v => v = .ty n
noncomputable def Reps (K : W.Frag) (ι : List Addr) (H : Hp) : List PV -> List V -> Prop
 | [], vs => vs = []
 | p :: ps, vs => ∃ v r, vs = v :: r /\ Rep K ι H p v /\ Reps K ι H ps r
end
inductive SV where
 | v (p : PV) | c (k : Nat)
noncomputable abbrev Cs := List PV
noncomputable def RepS (K : W.Frag) (ι : List Addr) (H : Hp) : SV -> V -> Prop
 | .v p, x => Rep K ι H p x
 | .c k, x => ∃ a, x = .ref a /\ ι[k]? = some a
noncomputable def RepSs (K : W.Frag) (ι : List Addr) (H : Hp) : List SV -> List V -> Prop
 | [], vs => vs = []
 | p :: ps, vs => ∃ v r, vs = v :: r /\ RepS K ι H p v /\ RepSs K ι H ps r
noncomputable def CellOk (K : W.Frag) (ι : List Addr) (H : Hp) (a : Addr) : PV -> Prop
 | .lst ps => ∃ vs, H a = some (.lst vs) /\ Reps K ι H ps vs
 | .dct ks ps => ∃ (qs : List Key) (vs : List V), H a = some (.dK (qs.zip vs)) /\ qs.length = vs.length /\ ks = qs.map kP /\ Reps K ι H ps vs
 | .dtt ks ps => ∃ (vs : List V), H a = some (.dT (ks.zip vs)) /\ ks.length = vs.length /\ Reps K ι H ps vs
 | _ => False
structure CR (K : W.Frag) (ι : List Addr) (H : Hp) (C : Cs) : Prop where
 len : ι.length = C.length
 nd : ι.Nodup
 ok : ∀ (k : Nat) (a : Addr) (c : PV), ι[k]? = some a -> C[k]? = some c -> CellOk K ι H a c
noncomputable def Fr (ι : List Addr) (H H' : Hp) : Prop := ∀ b o, b ∉ ι -> H b = some o -> H' b = some o
theorem Fr.refl {ι : List Addr} {H : Hp} : Fr ι H H := fun _ _ _ h => h
theorem Fr.trans {ι : List Addr} {H H1 H2 : Hp} (a : Fr ι H H1) (b : Fr ι H1 H2) : Fr ι H H2 := fun c o n h => b c o n (a c o n h)
theorem Fr.new {ι : List Addr} {H : Hp} {p : Addr} {o : HO} (h : H p = none) : Fr ι H (upd H p o) := fun b u _ e => by rw [Zav (Zal e h)]; exact e
section
variable {K : W.Frag} {ι : List Addr} {H H' : Hp} {C : Cs}
theorem CR.at' (cr : CR K ι H C) {a : Addr} (h : a ∈ ι) : ∃ (k : Nat) (c : PV), ι[k]? = some a /\ C[k]? = some c /\ CellOk K ι H a c := by
 obtain ⟨k, hk, e⟩ := List.getElem_of_mem h
 have h1 : ι[k]? = some a := by rw [List.getElem?_eq_getElem hk, e]
 have hk2 : k < C.length := by rw [← cr.len]; exact hk
 exact ⟨k, C[k], h1, List.getElem?_eq_getElem hk2, cr.ok k a _ h1 (List.getElem?_eq_getElem hk2)⟩
theorem CR.mut (cr : CR K ι H C) {a : Addr} (h : a ∈ ι) : (∃ vs, H a = some (.lst vs)) \/ (∃ kvs, H a = some (.dK kvs)) \/ ∃ kvs, H a = some (.dT kvs) := by
 obtain ⟨k, c, _, _, ok⟩ := cr.at' h
 cases c with
 | lst ps => obtain ⟨vs, e, _⟩ := ok; exact .inl ⟨vs, e⟩
 | dct ks ps => obtain ⟨qs, vs, e, _⟩ := ok; exact .inr (.inl ⟨_, e⟩)
 | dtt ks ps => obtain ⟨vs, e, _⟩ := ok; exact .inr (.inr ⟨_, e⟩)
 | _ => exact ok.elim
theorem CR.notup (cr : CR K ι H C) {a : Addr} {o : HO} (e : H a = some o) (h1 : ∀ vs, o ≠ .lst vs) (h2 : ∀ kvs, o ≠ .dK kvs) (h3 : ∀ kvs, o ≠ .dT kvs := by intro kvs z; cases z) : a ∉ ι := fun h => by
 rcases cr.mut h with ⟨vs, z⟩ | ⟨kvs, z⟩ | ⟨kvs, z⟩
 ·rw [e] at z; exact h1 vs (Option.some.inj z)
 ·rw [e] at z; exact h2 kvs (Option.some.inj z)
 ·rw [e] at z; exact h3 kvs (Option.some.inj z)
theorem tpR_mono (cr : CR K ι H C) (fr : Fr ι H H') {a : Addr} {vs : List V} (h : TpR H a vs) : TpR H' a vs :=
 fr _ _ (cr.notup h (fun _ e => nomatch e) fun _ e => nomatch e) h
theorem LsR.mono (fr : Fr ι H H') {a : Addr} {vs : List V} (h : LsR K ι H a vs) : LsR K ι H' a vs := by
 rcases h with ⟨n, h | ⟨o, h⟩⟩ | h
 ·exact .inl ⟨n, .inl (fr _ _ n h)⟩
 ·exact .inl ⟨n, .inr ⟨o, fr _ _ n h⟩⟩
 ·exact .inr h
mutual
theorem Rep.mono (cr : CR K ι H C) (fr : Fr ι H H') : ∀ (p : PV) (v : V), Rep K ι H p v -> Rep K ι H' p v
 | .non, v, h => by unfold Rep at h ⊢; exact h
 | .bl b, v, h => by unfold Rep at h ⊢; exact h
 | .int i, v, h => by unfold Rep at h ⊢; exact h
 | .str x, v, h => by unfold Rep at h ⊢; exact h
 | .tup ps, v, h => by
  unfold Rep at h ⊢
  obtain ⟨a, vs, e, sq, r⟩ := h
  exact ⟨a, vs, e, tpR_mono cr fr sq, Reps.mono cr fr ps vs r⟩
 | .lst ps, v, h => by
  unfold Rep at h ⊢
  obtain ⟨a, vs, e, sq, r⟩ := h
  exact ⟨a, vs, e, sq.mono fr, Reps.mono cr fr ps vs r⟩
 | .dct ks ps, v, h => by
  unfold Rep at h ⊢
  obtain ⟨a, qs, vs, e, n, hd, hl, hk, r⟩ := h
  exact ⟨a, qs, vs, e, n, fr _ _ n hd, hl, hk, Reps.mono cr fr ps vs r⟩
 | .dtt ks ps, v, h => by
  unfold Rep at h ⊢
  obtain ⟨a, vs, e, n, hd, hl, r⟩ := h
  exact ⟨a, vs, e, n, fr _ _ n hd, hl, Reps.mono cr fr ps vs r⟩
 | .fn a, v, h => by unfold Rep at h ⊢; exact h
 | .ty n, v, h => by unfold Rep at h ⊢; exact h
theorem Reps.mono (cr : CR K ι H C) (fr : Fr ι H H') : ∀ (ps : List PV) (vs : List V), Reps K ι H ps vs -> Reps K ι H' ps vs
 | [], vs, h => by unfold Reps at h ⊢; exact h
 | p :: ps, vs, h => by
  unfold Reps at h ⊢
  obtain ⟨v, r, e, h1, h2⟩ := h
  exact ⟨v, r, e, Rep.mono cr fr p v h1, Reps.mono cr fr ps r h2⟩
end
theorem RepS.mono (cr : CR K ι H C) (fr : Fr ι H H') {s : SV} {v : V} (h : RepS K ι H s v) : RepS K ι H' s v := by
 cases s with
 | v p => exact Rep.mono cr fr p v h
 | c k => exact h
mutual
theorem Rep.stay (sm : ∀ b o, H b = some o -> H' b = some o) : ∀ (p : PV) (v : V), Rep K ι H p v -> Rep K ι H' p v
 | .non, v, h => by unfold Rep at h ⊢; exact h
 | .bl b, v, h => by unfold Rep at h ⊢; exact h
 | .int i, v, h => by unfold Rep at h ⊢; exact h
 | .str x, v, h => by unfold Rep at h ⊢; exact h
 | .tup ps, v, h => by
  unfold Rep at h ⊢
  obtain ⟨a, vs, e, sq, r⟩ := h
  exact ⟨a, vs, e, sm _ _ sq, Reps.stay sm ps vs r⟩
 | .lst ps, v, h => by
  unfold Rep at h ⊢
  obtain ⟨a, vs, e, sq, r⟩ := h
  exact ⟨a, vs, e, sq.mono (fun b o _ e => sm b o e), Reps.stay sm ps vs r⟩
 | .dct ks ps, v, h => by
  unfold Rep at h ⊢
  obtain ⟨a, qs, vs, e, n, hd, hl, hk, r⟩ := h
  exact ⟨a, qs, vs, e, n, sm _ _ hd, hl, hk, Reps.stay sm ps vs r⟩
 | .dtt ks ps, v, h => by
  unfold Rep at h ⊢
  obtain ⟨a, vs, e, n, hd, hl, r⟩ := h
  exact ⟨a, vs, e, n, sm _ _ hd, hl, Reps.stay sm ps vs r⟩
 | .fn a, v, h => by unfold Rep at h ⊢; exact h
 | .ty n, v, h => by unfold Rep at h ⊢; exact h
theorem Reps.stay (sm : ∀ b o, H b = some o -> H' b = some o) : ∀ (ps : List PV) (vs : List V), Reps K ι H ps vs -> Reps K ι H' ps vs
 | [], vs, h => by unfold Reps at h ⊢; exact h
 | p :: ps, vs, h => by
  unfold Reps at h ⊢
  obtain ⟨v, r, e, h1, h2⟩ := h
  exact ⟨v, r, e, Rep.stay sm p v h1, Reps.stay sm ps r h2⟩
end
mutual
theorem Rep.cells {ι' : List Addr} (hs : ∀ b o, H b = some o -> b ∉ ι -> b ∉ ι') : ∀ (p : PV) (v : V), Rep K ι H p v -> Rep K ι' H p v
 | .non, v, h => by unfold Rep at h ⊢; exact h
 | .bl b, v, h => by unfold Rep at h ⊢; exact h
 | .int i, v, h => by unfold Rep at h ⊢; exact h
 | .str x, v, h => by unfold Rep at h ⊢; exact h
 | .tup ps, v, h => by
  unfold Rep at h ⊢
  obtain ⟨a, vs, e, sq, r⟩ := h
  exact ⟨a, vs, e, sq, Reps.cells hs ps vs r⟩
 | .lst ps, v, h => by
  unfold Rep at h ⊢
  obtain ⟨a, vs, e, sq, r⟩ := h
  refine ⟨a, vs, e, ?_, Reps.cells hs ps vs r⟩
  rcases sq with ⟨n, q | ⟨o, q⟩⟩ | q
  ·exact .inl ⟨hs _ _ q n, .inl q⟩
  ·exact .inl ⟨hs _ _ q n, .inr ⟨o, q⟩⟩
  ·exact .inr q
 | .dct ks ps, v, h => by
  unfold Rep at h ⊢
  obtain ⟨a, qs, vs, e, n, hd, hl, hk, r⟩ := h
  exact ⟨a, qs, vs, e, hs _ _ hd n, hd, hl, hk, Reps.cells hs ps vs r⟩
 | .dtt ks ps, v, h => by
  unfold Rep at h ⊢
  obtain ⟨a, vs, e, n, hd, hl, r⟩ := h
  exact ⟨a, vs, e, hs _ _ hd n, hd, hl, Reps.cells hs ps vs r⟩
 | .fn a, v, h => by unfold Rep at h ⊢; exact h
 | .ty n, v, h => by unfold Rep at h ⊢; exact h
theorem Reps.cells {ι' : List Addr} (hs : ∀ b o, H b = some o -> b ∉ ι -> b ∉ ι') : ∀ (ps : List PV) (vs : List V), Reps K ι H ps vs -> Reps K ι' H ps vs
 | [], vs, h => by unfold Reps at h ⊢; exact h
 | p :: ps, vs, h => by
  unfold Reps at h ⊢
  obtain ⟨v, r, e, h1, h2⟩ := h
  exact ⟨v, r, e, Rep.cells hs p v h1, Reps.cells hs ps r h2⟩
end
theorem Reps.nil : Reps K ι H [] [] := by unfold Reps; rfl
theorem Reps.cons {p : PV} {v : V} {ps : List PV} {vs : List V} (h : Rep K ι H p v) (t : Reps K ι H ps vs) : Reps K ι H (p :: ps) (v :: vs) := by unfold Reps; exact ⟨v, vs, rfl, h, t⟩
theorem Reps.inv {p : PV} {ps : List PV} {vs : List V} (h : Reps K ι H (p :: ps) vs) : ∃ v r, vs = v :: r /\ Rep K ι H p v /\ Reps K ι H ps r := by unfold Reps at h; exact h
theorem Reps.inv0 {vs : List V} (h : Reps K ι H [] vs) : vs = [] := by unfold Reps at h; exact h
theorem Reps.length : ∀ {ps : List PV} {vs : List V}, Reps K ι H ps vs -> ps.length = vs.length
 | [], vs, h => by rw [h.inv0]; rfl
 | p :: ps, vs, h => by obtain ⟨v, r, rfl, _, t⟩ := h.inv; rw [List.length_cons, List.length_cons, t.length]
theorem Reps.append : ∀ {ps qs : List PV} {vs ws : List V}, Reps K ι H ps vs -> Reps K ι H qs ws -> Reps K ι H (ps ++ qs) (vs ++ ws)
 | [], _, vs, _, h, t => by rw [h.inv0]; exact t
 | p :: ps, _, vs, _, h, t => by obtain ⟨v, r, rfl, h1, h2⟩ := h.inv; exact .cons h1 (h2.append t)
theorem Reps.get : ∀ {ps : List PV} {vs : List V} {i : Nat} {p : PV}, Reps K ι H ps vs -> ps[i]? = some p -> ∃ v, vs[i]? = some v /\ Rep K ι H p v
 | [], _, _, _, h, e => by simp at e
 | q :: ps, vs, 0, p, h, e => by
  obtain ⟨v, r, rfl, h1, h2⟩ := h.inv
  simp at e; subst e; exact ⟨v, rfl, h1⟩
 | q :: ps, vs, i + 1, p, h, e => by
  obtain ⟨v, r, rfl, h1, h2⟩ := h.inv
  obtain ⟨w, e1, r1⟩ := h2.get (i := i) (by simpa using e)
  exact ⟨w, by simpa using e1, r1⟩
theorem Reps.get' : ∀ {ps : List PV} {vs : List V} {i : Nat} {v : V}, Reps K ι H ps vs -> vs[i]? = some v -> ∃ p, ps[i]? = some p /\ Rep K ι H p v := fun {ps vs i v} h e => by
 have hi : i < ps.length := by
  rw [h.length]
  rcases Nat.lt_or_ge i vs.length with q | q
  ·exact q
  ·rw [List.getElem?_eq_none_iff.mpr q] at e; cases e
 obtain ⟨w, e1, r⟩ := h.get (List.getElem?_eq_getElem hi)
 rw [e] at e1; cases e1
 exact ⟨_, List.getElem?_eq_getElem hi, r⟩
theorem Reps.take : ∀ {ps : List PV} {vs : List V} (n : Nat), Reps K ι H ps vs -> Reps K ι H (ps.take n) (vs.take n)
 | _, _, 0, _ => by simp; exact .nil
 | [], vs, n + 1, h => by rw [h.inv0]; simp; exact .nil
 | p :: ps, vs, n + 1, h => by obtain ⟨v, r, rfl, h1, h2⟩ := h.inv; simp only [List.take_succ_cons]; exact .cons h1 (h2.take n)
theorem Reps.drop : ∀ {ps : List PV} {vs : List V} (n : Nat), Reps K ι H ps vs -> Reps K ι H (ps.drop n) (vs.drop n)
 | _, _, 0, h => by simpa using h
 | [], vs, n + 1, h => by rw [h.inv0]; simp; exact .nil
 | p :: ps, vs, n + 1, h => by obtain ⟨v, r, rfl, h1, h2⟩ := h.inv; simpa using h2.drop n
theorem Reps.set : ∀ {ps : List PV} {vs : List V} (i : Nat) {p : PV} {v : V}, Reps K ι H ps vs -> Rep K ι H p v -> Reps K ι H (ps.set i p) (vs.set i v)
 | [], vs, i, p, v, h, _ => by rw [h.inv0]; simp; exact .nil
 | q :: ps, vs, 0, p, v, h, hp => by obtain ⟨w, r, rfl, h1, h2⟩ := h.inv; simp; exact .cons hp h2
 | q :: ps, vs, i + 1, p, v, h, hp => by obtain ⟨w, r, rfl, h1, h2⟩ := h.inv; simp; exact .cons h1 (h2.set i hp)
theorem CellOk.mono (cr : CR K ι H C) (fr : Fr ι H H') {a : Addr} {c : PV} (ha : ∀ o, H a = some o -> H' a = some o) (h : CellOk K ι H a c) : CellOk K ι H' a c := by
 cases c with
 | lst ps => obtain ⟨vs, e, r⟩ := h; exact ⟨vs, ha _ e, Reps.mono cr fr _ _ r⟩
 | dct ks ps => obtain ⟨qs, vs, e, hl, hk, r⟩ := h; exact ⟨qs, vs, ha _ e, hl, hk, Reps.mono cr fr _ _ r⟩
 | dtt ks ps => obtain ⟨vs, e, hl, r⟩ := h; exact ⟨vs, ha _ e, hl, Reps.mono cr fr _ _ r⟩
 | _ => exact h.elim
theorem CR.same (cr : CR K ι H C) (sm : ∀ b o, H b = some o -> H' b = some o) : CR K ι H' C :=
 ⟨cr.len, cr.nd, fun k a c h1 h2 => (cr.ok k a c h1 h2).mono cr (fun b o _ e => sm b o e) fun o e => sm a o e⟩
theorem CR.new (cr : CR K ι H C) {p : Addr} {o : HO} (h : H p = none) : CR K ι (upd H p o) C := cr.same fun b u e => by rw [Zav (Zal e h)]; exact e
theorem CR.put (cr : CR K ι H C) {k : Nat} {a : Addr} {c : PV} {o : HO} (hk : ι[k]? = some a) (ok : CellOk K ι (upd H a o) a c) : CR K ι (upd H a o) (C.set k c) := by
 have fr : Fr ι H (upd H a o) := fun b u n e => by
  rw [Zav (fun z => n (by rw [z]; exact List.mem_of_getElem? hk))]; exact e
 refine ⟨by rw [List.length_set]; exact cr.len, cr.nd, fun j b d h1 h2 => ?_⟩
 by_cases hj : j = k
 ·subst hj
  rw [hk] at h1; cases h1
  have hlt : j < C.length := by
   rw [← cr.len]
   rcases Nat.lt_or_ge j ι.length with q | q
   ·exact q
   ·rw [List.getElem?_eq_none_iff.mpr q] at hk; cases hk
  rw [List.getElem?_set_self hlt] at h2
  cases h2; exact ok
 ·rw [List.getElem?_set_ne (Ne.symm hj)] at h2
  refine (cr.ok j b d h1 h2).mono cr fr fun u e => ?_
  have hb : b ≠ a := fun z => by
   subst z
   have hjl : j < ι.length := by
    rcases Nat.lt_or_ge j ι.length with q | q
    ·exact q
    ·rw [List.getElem?_eq_none_iff.mpr q] at h1; cases h1
   have hkl : k < ι.length := by
    rcases Nat.lt_or_ge k ι.length with q | q
    ·exact q
    ·rw [List.getElem?_eq_none_iff.mpr q] at hk; cases hk
   have e1 := (List.getElem?_eq_some_iff.mp h1).2
   have e2 := (List.getElem?_eq_some_iff.mp hk).2
   exact hj ((List.getElem_inj cr.nd).mp (e1.trans e2.symm))
  rw [Zav hb]; exact e
theorem repHs {p : Addr} (hp : H p = none) : ∀ b u, H b = some u -> b ∉ ι -> b ∉ ι ++ [p] := fun b u e n z => by
 rcases List.mem_append.mp z with z | z
 ·exact n z
 ·exact Zal e hp (by simpa using z)
theorem RepsNew (cr : CR K ι H C) {p : Addr} {o : HO} (hp : H p = none) (q : List PV) (v : List V) (r : Reps K ι H q v) : Reps K (ι ++ [p]) (upd H p o) q v := by
 exact Reps.stay (fun b u e => by rw [Zav (Zal e hp)]; exact e) q v (Reps.cells (ι' := ι ++ [p]) (repHs hp) q v r)
theorem CR.add (cr : CR K ι H C) {p : Addr} {c : PV} {o : HO} (hp : H p = none) (ok : CellOk K (ι ++ [p]) (upd H p o) p c) : CR K (ι ++ [p]) (upd H p o) (C ++ [c]) := by
 have hni : p ∉ ι := fun z => by
  rcases cr.mut z with ⟨vs, e⟩ | ⟨kvs, e⟩ | ⟨kvs, e⟩
  ·rw [hp] at e; cases e
  ·rw [hp] at e; cases e
  ·rw [hp] at e; cases e
 have hc : ∀ b u, (upd H p o) b = some u -> b ∉ ι -> b ≠ p -> b ∉ ι ++ [p] := fun b u _ n1 n2 z => by
  rcases List.mem_append.mp z with z | z
  ·exact n1 z
  ·exact n2 (by simpa using z)
 have up : ∀ b u, H b = some u -> (upd H p o) b = some u := fun b u e => by rw [Zav (Zal e hp)]; exact e
 have lift : ∀ (b : Addr) (d : PV), CellOk K ι H b d -> CellOk K (ι ++ [p]) (upd H p o) b d := fun b d h => by
  have hs : ∀ b u, H b = some u -> b ∉ ι -> b ∉ ι ++ [p] := fun b u e n => hc b u (up b u e) n (Zal e hp)
  have cr' : CR K ι (upd H p o) C := cr.new hp
  cases d with
  | lst ps =>
   obtain ⟨vs, e, r⟩ := h
   exact ⟨vs, up _ _ e, RepsNew cr hp ps vs r⟩
  | dct ks ps =>
   obtain ⟨qs, vs, e, hl, hk, r⟩ := h
   exact ⟨qs, vs, up _ _ e, hl, hk, RepsNew cr hp ps vs r⟩
  | dtt ks ps =>
   obtain ⟨vs, e, hl, r⟩ := h
   exact ⟨vs, up _ _ e, hl, RepsNew cr hp ps vs r⟩
  | _ => exact h.elim
 refine ⟨by simp [cr.len], ?_, fun k a d h1 h2 => ?_⟩
 ·rw [List.nodup_append]
  refine ⟨cr.nd, by simp, fun a ha b hb => ?_⟩
  have : b = p := by simpa using hb
  subst this
  exact fun z => hni (z ▸ ha)
 ·rcases Nat.lt_or_ge k ι.length with hk | hk
  ·rw [List.getElem?_append_left hk] at h1
   rw [List.getElem?_append_left (by rw [← cr.len]; exact hk)] at h2
   exact lift a d (cr.ok k a d h1 h2)
  ·rw [List.getElem?_append_right hk] at h1
   rw [List.getElem?_append_right (by rw [← cr.len]; exact hk)] at h2
   rw [← cr.len] at h2
   cases hz : k - ι.length with
   | zero =>
    rw [hz] at h1 h2
    simp at h1 h2
    subst h1 h2
    exact ok
   | succ j => rw [hz] at h1; simp at h1
end
end Pu
namespace Pu
open PySem PySem.Spec L2
open PyProof.Rows hiding St
noncomputable abbrev M (α : Type) := Cs -> Option (α × Cs)
noncomputable def ret {α : Type} (a : α) : M α := fun C => some (a, C)
noncomputable def bnd {α β : Type} (x : M α) (f : α -> M β) : M β := fun C => match x C with
 | none => none
 | some (a, C') => f a C'
noncomputable def opM {α : Type} (g : Cs -> Option α) : M α := fun C => match g C with
 | none => none
 | some a => some (a, C)
theorem Zag {α β : Type} {x : M α} {f : α -> M β} {C C2 : Cs} {b : β} (h : bnd x f C = some (b, C2)) : ∃ a C1, x C = some (a, C1) /\ f a C1 = some (b, C2) := by
 unfold bnd at h
 cases e : x C with
 | none => rw [e] at h; cases h
 | some p => obtain ⟨a, C1⟩ := p; rw [e] at h; exact ⟨a, C1, rfl, h⟩
theorem ZaF {α : Type} {g : Cs -> Option α} {C C2 : Cs} {b : α} (h : opM g C = some (b, C2)) : g C = some b /\ C2 = C := by
 unfold opM at h
 cases e : g C with
 | none => rw [e] at h; cases h
 | some p => rw [e] at h; cases h; exact ⟨rfl, rfl⟩
noncomputable abbrev PSt := List (Option SV)
noncomputable def asB : SV -> Option Bool
 | .v (.bl b) => some b
 | _ => none
noncomputable def mB (x : SV) : M Bool := opM fun _ => asB x
theorem ZbS {x : SV} {C C2 : Cs} {b : Bool} (h : mB x C = some (b, C2)) : x = .v (.bl b) /\ C2 = C := by
 obtain ⟨h, e⟩ := ZaF h
 refine ⟨?_, e⟩
 cases x with
 | c k => cases h
 | v p => cases p <;> first | (cases h; rfl) | cases h
theorem repB {K : W.Frag} {ι : List Addr} {H : Hp} {b : Bool} {v : V} (h : RepS K ι H (.v (.bl b)) v) : v = .bl b := by unfold RepS Rep at h; exact h
theorem repB' {K : W.Frag} {ι : List Addr} {H : Hp} {b : Bool} : RepS K ι H (.v (.bl b)) (.bl b) := by unfold RepS Rep; rfl
inductive PF where
 | nx (ρ : PSt) | rt (r : SV) | bk (ρ : PSt) | ct (ρ : PSt) | rf (ps : List PV)
structure SR (K : W.Frag) (ι : List Addr) (H : Hp) (ρ : PSt) (σ : St) (C : Cs) : Prop where
 cr : CR K ι H C
 len : ρ.length = σ.length
 loc : ∀ (i : Nat) (s : SV), ρ[i]? = some (some s) -> ∃ v, σ[i]? = some (some v) /\ RepS K ι H s v
section
variable {K : W.Frag} {ι : List Addr} {H H' : Hp} {C C' : Cs} {ρ : PSt} {σ : St}
theorem SR.step (sr : SR K ι H ρ σ C) (fr : Fr ι H H') (cr : CR K ι H' C') : SR K ι H' ρ σ C' :=
 ⟨cr, sr.len, fun i s e => by obtain ⟨v, h1, h2⟩ := sr.loc i s e; exact ⟨v, h1, h2.mono sr.cr fr⟩⟩
theorem SR.set (sr : SR K ι H ρ σ C) {s : SV} {v : V} (i : Nat) (r : RepS K ι H s v) : SR K ι H (ρ.set i (some s)) (σ.set i (some v)) C := by
 refine ⟨sr.cr, by simp [sr.len], fun j t e => ?_⟩
 by_cases hj : i = j
 ·subst hj
  have hi : i < ρ.length := by
   rcases Nat.lt_or_ge i ρ.length with q | q
   ·exact q
   ·rw [List.getElem?_eq_none_iff.mpr (by simpa using q)] at e; cases e
  rw [List.getElem?_set_self hi] at e
  cases e
  exact ⟨v, by rw [List.getElem?_set_self (by rw [← sr.len]; exact hi)], r⟩
 ·rw [List.getElem?_set_ne hj] at e
  rw [List.getElem?_set_ne hj]
  exact sr.loc j t e
end
noncomputable def tM (K : W.Frag) (f : PSt -> M SV) : TE := fun σ H Q => ∃ ι ρ C r C', SR K ι H ρ σ C /\ f ρ C = some (r, C') /\ ∀ v H', Fr ι H H' -> CR K ι H' C' -> RepS K ι H' r v -> Q v H'
noncomputable def tMA (K : W.Frag) (f : PSt -> M (List SV)) : TA := fun σ H Q => ∃ ι ρ C r C', SR K ι H ρ σ C /\ f ρ C = some (r, C') /\ ∀ v H', Fr ι H H' -> CR K ι H' C' -> RepSs K ι H' r v -> Q v H'
noncomputable def tMB (K : W.Frag) (f : PSt -> M Bool) : TT := fun σ H Q => ∃ ι ρ C r C', SR K ι H ρ σ C /\ f ρ C = some (r, C') /\ ∀ H', Fr ι H H' -> CR K ι H' C' -> Q r H'
noncomputable def tMF (K : W.Frag) (f : PSt -> M (List PV)) : TE := fun σ H Q => ∃ ι ρ C ps C', SR K ι H ρ σ C /\ f ρ C = some (ps, C') /\ ∀ p vs H', Fr ι H H' -> CR K ι H' C' -> H' p = none -> Reps K ι H' ps vs -> Q (.ref p) (upd H' p (.lst vs))
noncomputable def EM (X : Cx) (e : Expr) (f : PSt -> M SV) : Prop := PE X e (tM X.K f)
noncomputable def AM (X : Cx) (es : List Expr) (f : PSt -> M (List SV)) : Prop := PA X es (tMA X.K f)
noncomputable def TMt (X : Cx) (e : Expr) (f : PSt -> M Bool) : Prop := PT X e (tMB X.K f)
noncomputable def WM (X : Cx) (e : Expr) (f : PSt -> M Bool) : Prop := PW X e (tMB X.K f)
noncomputable def FM (X : Cx) (e : Expr) (f : PSt -> M (List PV)) : Prop := PE X e (tMF X.K f)
theorem WM.t {X : Cx} {e : Expr} {f : PSt -> M Bool} (h : WM X e f) : TMt X e f := h _
theorem PE.imp {X : Cx} {e : Expr} {t t' : TE} (h : PE X e t) (k : ∀ σ H Q, t' σ H Q -> t σ H Q) : PE X e t' := fun pins s σ H Q I q => h pins s σ H Q I (k σ H Q q)
theorem PT.imp {X : Cx} {e : Expr} {t t' : TT} (h : PT X e t) (k : ∀ σ H Q, t' σ H Q -> t σ H Q) : PT X e t' := fun pins s σ H Q I q => h pins s σ H Q I (k σ H Q q)
theorem PW.imp {X : Cx} {e : Expr} {t t' : TT} (h : PW X e t) (k : ∀ σ H Q, t' σ H Q -> t σ H Q) : PW X e t' := fun wh pins s σ H Q I q => h wh pins s σ H Q I (k σ H Q q)
theorem PA.imp {X : Cx} {e : List Expr} {t t' : TA} (h : PA X e t) (k : ∀ σ H Q, t' σ H Q -> t σ H Q) : PA X e t' := fun pos pins s σ H Q I q => h pos pins s σ H Q I (k σ H Q q)
theorem PS.imp {X : Cx} {e : Stmt} {t t' : TS} (h : PS X e t) (k : ∀ D σ H, t' D σ H -> t D σ H) : PS X e t' := fun pins s σ H D I q => h pins s σ H D I (k D σ H q)
theorem PSs.imp {X : Cx} {e : List Stmt} {t t' : TS} (h : PSs X e t) (k : ∀ D σ H, t' D σ H -> t D σ H) : PSs X e t' := fun pins s σ H D I q => h pins s σ H D I (k D σ H q)
theorem PI.imp {X : Cx} {tg e : Expr} {t t' : TI} (h : PI X tg e t) (k : ∀ σ H Q, t' σ H Q -> t σ H Q) : PI X tg e t' := fun pins s σ H Q I q => h pins s σ H Q I (k σ H Q q)
section
variable {X : Cx} {a b e c : Expr} {es : List Expr} {fa fb fc : PSt -> M SV} {pos p : Pos} {x : Str}
noncomputable def mVar (i : Nat) : PSt -> M SV := fun ρ C => match ρ[i]? with
 | some (some s) => some (s, C)
 | _ => none
theorem em_var (i : Nat) {x : Str} {pos : Pos} (hN : X.N[i]? = some x := by rfl) (hv : Vis X.env.scope x := by first | exact Or.inl rfl | exact Or.inr (Or.inl rfl) | exact Or.inr (Or.inr rfl)) (hd : (x == ("__debug__" : Str)) = false := by decide)
  (hcd : (x == ("__classdict__" : Str)) = false := by decide) : EM X (.Name x pos) (mVar i) := by
 refine PE.imp (pe_var hN hv hd hcd) fun σ H Q h_ => ?_
 obtain ⟨ι, ρ, C, r, C', sr, e, q⟩ := h_
 unfold mVar at e
 cases e1 : ρ[i]? with
 | none => rw [e1] at e; cases e
 | some o =>
  cases o with
  | none => rw [e1] at e; cases e
  | some s =>
   rw [e1] at e; cases e
   obtain ⟨v, h1, h2⟩ := sr.loc i _ e1
   exact ⟨v, h1, q v H .refl sr.cr h2⟩
noncomputable def mC (p : PV) : PSt -> M SV := fun _ C => some (.v p, C)
theorem Za3 {v : V} {q : PV} (h : PE X e (tC v)) (r : ∀ ι H, Rep X.K ι H q v) : EM X e (mC q) := by
 refine PE.imp h fun σ H Q h_ => ?_
 obtain ⟨ι, ρ, C, z, C', sr, e, k⟩ := h_
 cases e
 exact k v H .refl sr.cr (r ι H)
theorem em_int {i j pos} : EM X (.Constant (.int i) j pos) (mC (.int i)) := Za3 pe_int fun ι H => by unfold Rep; rfl
theorem em_bl {i j pos} : EM X (.Constant (.bool i) j pos) (mC (.bl i)) := Za3 pe_bl fun ι H => by unfold Rep; rfl
theorem em_str {i j pos} (h : i.length <= sizeLine := by decide +kernel) : EM X (.Constant (.str i) j pos) (mC (.str i)) := Za3 pe_str fun ι H => by unfold Rep; exact ⟨rfl, h⟩
theorem em_globI {i : Int} (hg : Gl X x) (hm : ∃ t, X.mg x = some (.int i t)) (hd : (x == ("__debug__" : Str)) = false := by decide) : EM X (.Name x pos) (mC (.int i)) := by
 obtain ⟨t, hm⟩ := hm
 exact Za3 (pe_glob (v := .int i) hg hm ⟨_, rfl⟩ hd) fun ι H => by unfold Rep; rfl
theorem em_globS {i : Str} (hg : Gl X x) (hm : ∃ t, X.mg x = some (.str i t)) (h : i.length <= sizeLine := by decide +kernel) (hd : (x == ("__debug__" : Str)) = false := by decide) : EM X (.Name x pos) (mC (.str i)) := by
 obtain ⟨t, hm⟩ := hm
 exact Za3 (pe_glob (v := .str i) hg hm ⟨_, rfl⟩ hd) fun ι H => by unfold Rep; exact ⟨rfl, h⟩
theorem em_ty {n : String} (hg : Gl X x) (hm : X.mg x = none) (hv : bootBuiltins x = some (.type n)) (hn : x ≠ "__name__" := by decide) (hd : (x == ("__debug__" : Str)) = false := by decide) : EM X (.Name x pos) (mC (.ty n)) :=
 Za3 (pe_bltn (v := .ty n) hg hm hv rfl hn hd) fun ι H => by unfold Rep; rfl
noncomputable def mOp (g : Cs -> SV -> SV -> Option SV) (fa fb : PSt -> M SV) : PSt -> M SV := fun ρ => bnd (fa ρ) fun x => bnd (fb ρ) fun y => opM fun C => g C x y
noncomputable def R2ok (K : W.Frag) (r : R2) (g : Cs -> SV -> SV -> Option SV) : Prop :=
 ∀ (ι : List Addr) (H : Hp) (C : Cs) (x y : SV) (vx vy : V) (z : SV) (Q : VK), CR K ι H C -> RepS K ι H x vx -> RepS K ι H y vy -> g C x y = some z -> (∀ v H', Fr ι H H' -> CR K ι H' C -> RepS K ι H' z v -> Q v H') -> r vx vy H Q
theorem tM_op {K : W.Frag} {r : R2} {g : Cs -> SV -> SV -> Option SV} (hg : R2ok K r g) {σ : St} {H : Hp} {Q : VK} (h : tM K (mOp g fa fb) σ H Q) : tOp r (tM K fa) (tM K fb) σ H Q := by
 obtain ⟨ι, ρ, C, z, C', sr, e, q⟩ := h
 obtain ⟨x, C1, e1, e⟩ := Zag e
 obtain ⟨y, C2, e2, e⟩ := Zag e
 obtain ⟨e3, rfl⟩ := ZaF e
 exact ⟨ι, ρ, C, x, C1, sr, e1, fun vx H1 f1 c1 r1 => ⟨ι, ρ, C1, y, C', sr.step f1 c1, e2, fun vy H2 f2 c2 r2 => hg ι H2 C' x y vx vy z _ c2 (r1.mono c1 f2) r2 e3 fun v H3 f3 c3 r3 => q v H3 (f1.trans (f2.trans f3)) c3 r3⟩⟩
theorem em_op {op : Operator} {r : R2} {g : Cs -> SV -> SV -> Option SV} (ho : OpR X (binaryOp op) r) (hg : R2ok X.K r g) (ha : EM X a fa) (hb : EM X b fb) : EM X (.BinOp a op b pos) (mOp g fa fb) :=
 PE.imp (pe_op ho ha hb) fun _ _ _ h => tM_op hg h
theorem em_cmp {op : CmpOp} {r : R2} {g : Cs -> SV -> SV -> Option SV} (ho : OpR X (compareOp op) r) (hg : R2ok X.K r g) (ha : EM X a fa) (hb : EM X b fb) (hm : behindInMarks op b = false) : EM X (.Compare a [op] [b] pos) (mOp g fa fb) :=
 PE.imp (pe_cmpR ho ha hb hm) fun _ _ _ h => tM_op hg h
theorem em_ix {r : R2} {g : Cs -> SV -> SV -> Option SV} (hr : IxR X r) (hg : R2ok X.K r g) (ha : EM X a fa) (hb : EM X b fb) (hs : PlainIx b) : EM X (.Subscript a b pos) (mOp g fa fb) :=
 PE.imp (pe_ix hr ha hb hs) fun _ _ _ h => tM_op hg h
noncomputable def mChain (g g' : Cs -> SV -> SV -> Option SV) (fa fb fc : PSt -> M SV) : PSt -> M SV := fun ρ => bnd (fa ρ) fun x => bnd (fb ρ) fun y => bnd (opM fun C => g C x y) fun z => bnd (mB z) fun b =>
 if b then bnd (fc ρ) fun w => opM fun C => g' C y w else ret (.v (.bl false))
theorem tM_chain {K : W.Frag} {r r' : R2} {g g' : Cs -> SV -> SV -> Option SV} (hg : R2ok K r g) (hg' : R2ok K r' g') {σ : St} {H : Hp} {Q : VK} (h : tM K (mChain g g' fa fb fc) σ H Q) : tChain r r' (tM K fa) (tM K fb) (tM K fc) σ H Q := by
 obtain ⟨ι, ρ, C, z, C', sr, e, q⟩ := h
 obtain ⟨x, C1, e1, e⟩ := Zag e
 obtain ⟨y, C2, e2, e⟩ := Zag e
 obtain ⟨z1, C3, e3, e'⟩ := Zag e
 obtain ⟨e3g, hC3⟩ := ZaF e3
 obtain ⟨k, C4, e4, e9⟩ := Zag e'
 obtain ⟨hz1, hC4⟩ := ZbS e4
 subst hz1 hC4 hC3
 clear e' e4 e3 e
 have e := e9
 refine ⟨ι, ρ, C, x, C1, sr, e1, fun vx H1 f1 c1 r1 => ⟨ι, ρ, C1, y, C4, sr.step f1 c1, e2, fun vy H2 f2 c2 r2 => hg ι H2 C4 x y vx vy _ _ c2 (r1.mono c1 f2) r2 e3g fun v H3 f3 c3 r3 => ?_⟩⟩
 refine ⟨k, repB r3, ?_⟩
 cases k with
 | true =>
  rw [if_pos rfl] at e ⊢
  obtain ⟨w, C5, e5, e⟩ := Zag e
  obtain ⟨e6, rfl⟩ := ZaF e
  exact ⟨ι, ρ, C4, w, C', ((sr.step f1 c1).step f2 c2).step f3 c3, e5, fun vw H4 f4 c4 r4 => hg' ι H4 C' y w vy vw z _ c4 ((r2.mono c2 f3).mono c3 f4) r4 e6 fun v' H5 f5 c5 r5 =>
   q v' H5 (f1.trans (f2.trans (f3.trans (f4.trans f5)))) c5 r5⟩
 | false =>
  rw [if_neg Bool.false_ne_true] at e ⊢
  cases e
  exact q _ H3 (f1.trans (f2.trans f3)) c3 repB'
theorem em_chain {op op' : CmpOp} {r r' : R2} {g g' : Cs -> SV -> SV -> Option SV} (ho : OpR X (compareOp op) r) (ho' : OpR X (compareOp op') r') (hg : R2ok X.K r g) (hg' : R2ok X.K r' g') (ha : EM X a fa) (hb : EM X b fb) (hc : EM X c fc)
  (hm : lastMarks [op, op'] [b, c] = false := by with_unfolding_all rfl) : EM X (.Compare a [op, op'] [b, c] pos) (mChain g g' fa fb fc) :=
 PE.imp (pe_chain ho ho' ha hb hc hm) fun _ _ _ h => tM_chain hg hg' h
noncomputable def mTest (f : PSt -> M SV) : PSt -> M Bool := fun ρ => bnd (f ρ) mB
theorem tM_test {K : W.Frag} {f : PSt -> M SV} {σ : St} {H : Hp} {Q : Bool -> Hp -> Prop} (h : tMB K (mTest f) σ H Q) : tTest (tM K f) σ H Q := by
 obtain ⟨ι, ρ, C, z, C', sr, e, q⟩ := h
 obtain ⟨x, C1, e1, e⟩ := Zag e
 obtain ⟨rfl, rfl⟩ := ZbS e
 exact ⟨ι, ρ, C, _, C', sr, e1, fun v H1 f1 c1 r1 => ⟨_, repB r1, q H1 f1 c1⟩⟩
theorem tm_cmp {op : CmpOp} {r : R2} {g : Cs -> SV -> SV -> Option SV} (ho : OpR X (compareOp op) r) (hg : R2ok X.K r g) (ha : EM X a fa) (hb : EM X b fb) (hm : behindInMarks op b = false) : TMt X (.Compare a [op] [b] pos) (mTest (mOp g fa fb)) :=
 PT.imp (pt_cmpR ho ha hb hm) fun σ H Q h => by
  obtain ⟨ι, ρ, C, x, C', sr, e, q⟩ := tM_test h
  exact tM_op hg ⟨ι, ρ, C, x, C', sr, e, q⟩
theorem tm_chain {op op' : CmpOp} {r r' : R2} {g g' : Cs -> SV -> SV -> Option SV} (ho : OpR X (compareOp op) r) (ho' : OpR X (compareOp op') r') (hg : R2ok X.K r g) (hg' : R2ok X.K r' g') (ha : EM X a fa) (hb : EM X b fb) (hc : EM X c fc)
  (hm : lastMarks [op, op'] [b, c] = false := by with_unfolding_all rfl) : TMt X (.Compare a [op, op'] [b, c] pos) (mTest (mChain g g' fa fb fc)) :=
 PT.imp (pt_chain ho ho' ha hb hc hm) fun σ H Q h => by
  obtain ⟨ι, ρ, C, x, C', sr, e, q⟩ := tM_test h
  exact tM_chain hg hg' ⟨ι, ρ, C, x, C', sr, e, q⟩
noncomputable def deref (C : Cs) : SV -> Option PV
 | .v p => some p
 | .c k => C[k]?
noncomputable def truP : PV -> Option Bool
 | .non => some false
 | .bl b => some b
 | .int i => some (i != 0)
 | .str y => some ((y.length : Int) != 0)
 | .tup xs => some (!xs.isEmpty)
 | .lst xs => some (!xs.isEmpty)
 | .dct ks _ => some (!ks.isEmpty)
 | _ => none
noncomputable def mTru (f : PSt -> M SV) : PSt -> M Bool := fun ρ => bnd (f ρ) fun x => opM fun C => (deref C x).bind truP
inductive Lies (K : W.Frag) (ι : List Addr) (H : Hp) : PV -> V -> Prop
 | non : Lies K ι H .non .non
 | bl (b : Bool) : Lies K ι H (.bl b) (.bl b)
 | int (i : Int) : Lies K ι H (.int i) (.int i)
 | str (x : Str) (h : x.length <= sizeLine) : Lies K ι H (.str x) (.str x)
 | tup {a : Addr} {ps : List PV} {vs : List V} (h : TpR H a vs) (r : Reps K ι H ps vs) : Lies K ι H (.tup ps) (.ref a)
 | lst {a : Addr} {ps : List PV} {vs : List V} (h : SqL K H a vs) (r : Reps K ι H ps vs) : Lies K ι H (.lst ps) (.ref a)
 | dct {a : Addr} {qs : List Key} {ps : List PV} {vs : List V} (h : H a = some (.dK (qs.zip vs))) (hl : qs.length = vs.length) (r : Reps K ι H ps vs) : Lies K ι H (.dct (qs.map kP) ps) (.ref a)
 | dtt {a : Addr} {ks : List (List Key)} {ps : List PV} {vs : List V} (h : H a = some (.dT (ks.zip vs))) (hl : ks.length = vs.length) (r : Reps K ι H ps vs) : Lies K ι H (.dtt ks ps) (.ref a)
 | fn (a : Addr) : Lies K ι H (.fn a) (.ref a)
 | ty (n : String) : Lies K ι H (.ty n) (.ty n)
theorem Rep.lies {K : W.Frag} {ι : List Addr} {H : Hp} : ∀ {p : PV} {v : V}, Rep K ι H p v -> Lies K ι H p v
 | .non, v, h => by unfold Rep at h; subst h; exact .non
 | .bl b, v, h => by unfold Rep at h; subst h; exact .bl b
 | .int i, v, h => by unfold Rep at h; subst h; exact .int i
 | .str x, v, h => by unfold Rep at h; obtain ⟨rfl, h⟩ := h; exact .str x h
 | .tup ps, v, h => by unfold Rep at h; obtain ⟨a, vs, rfl, h, r⟩ := h; exact .tup h r
 | .lst ps, v, h => by unfold Rep at h; obtain ⟨a, vs, rfl, h, r⟩ := h; exact .lst h.sq r
 | .dct ks ps, v, h => by unfold Rep at h; obtain ⟨a, qs, vs, rfl, n, hd, hl, rfl, r⟩ := h; exact .dct hd hl r
 | .dtt ks ps, v, h => by unfold Rep at h; obtain ⟨a, vs, rfl, n, hd, hl, r⟩ := h; exact .dtt hd hl r
 | .fn a, v, h => by unfold Rep at h; subst h; exact .fn a
 | .ty n, v, h => by unfold Rep at h; subst h; exact .ty n
theorem RepS.lies {K : W.Frag} {ι : List Addr} {H : Hp} {C : Cs} (cr : CR K ι H C) {x : SV} {p : PV} {v : V} (r : RepS K ι H x v) (e : deref C x = some p) : Lies K ι H p v := by
 cases x with
 | v q => cases e; exact Rep.lies r
 | c k =>
  obtain ⟨a, rfl, hk⟩ := r
  have ok := cr.ok k a p hk e
  cases p with
  | lst ps => obtain ⟨vs, h, r⟩ := ok; exact .lst (.of h) r
  | dct ks ps => obtain ⟨qs, vs, h, hl, rfl, r⟩ := ok; exact .dct h hl r
  | dtt ks ps => obtain ⟨vs, h, hl, r⟩ := ok; exact .dtt h hl r
  | _ => exact ok.elim
theorem Reps.isEmpty {K : W.Frag} {ι : List Addr} {H : Hp} {ps : List PV} {vs : List V} (r : Reps K ι H ps vs) : ps.isEmpty = vs.isEmpty := by
 have := r.length
 cases ps <;> cases vs <;> simp at this ⊢
theorem Lies.tru {K : W.Frag} {ι : List Addr} {H : Hp} {p : PV} {v : V} {k : Bool} (l : Lies K ι H p v) (e : truP p = some k) : TruV K v H k := by
 cases l with
 | non => cases e; rfl
 | bl b => cases e; rfl
 | int i => cases e; rfl
 | str x h => cases e; exact ⟨h, rfl⟩
 | tup h r => cases e; exact .inr (.inl ⟨_, h.sq, by rw [r.isEmpty]⟩)
 | lst h r => cases e; exact .inl ⟨_, h, by rw [r.isEmpty]⟩
 | @dct a qs ps vs h hl r =>
  cases e
  refine .inr (.inr ⟨_, h, ?_⟩)
  cases qs <;> cases vs <;> simp at hl ⊢
 | dtt h hl r => cases e
 | fn a => cases e
 | ty n => cases e
theorem tm_tru (ha : EM X a fa) (he : ∀ whole, isTrue a X.env whole = (do let v ← whole; standAt a.pos; holding [v] (truthy v)) := by intro _; rfl) : TMt X a (mTru fa) :=
 PT.imp (pt_truth ha he) fun σ H Q h => by
  obtain ⟨ι, ρ, C, z, C', sr, e, q⟩ := h
  obtain ⟨x, C1, e1, e⟩ := Zag e
  obtain ⟨e2, rfl⟩ := ZaF e
  refine ⟨ι, ρ, C, x, C', sr, e1, fun v H1 f1 c1 r1 => ⟨z, ?_, q H1 f1 c1⟩⟩
  cases hd : deref C' x with
  | none => rw [hd] at e2; cases e2
  | some p => rw [hd] at e2; exact (r1.lies c1 hd).tru e2
noncomputable def mNotT (f : PSt -> M Bool) : PSt -> M Bool := fun ρ => bnd (f ρ) fun b => ret (!b)
noncomputable def mAndT (f g : PSt -> M Bool) : PSt -> M Bool := fun ρ => bnd (f ρ) fun b => if b then g ρ else ret false
noncomputable def mOrT (f g : PSt -> M Bool) : PSt -> M Bool := fun ρ => bnd (f ρ) fun b => if b then ret true else g ρ
theorem tm_not {f : PSt -> M Bool} (h : TMt X a f) : TMt X (.UnaryOp .Not a pos) (mNotT f) := PT.imp (pt_not h) fun σ H Q h => by
 obtain ⟨ι, ρ, C, z, C', sr, e, q⟩ := h
 obtain ⟨x, C1, e1, e⟩ := Zag e
 cases e
 exact ⟨ι, ρ, C, x, _, sr, e1, fun H1 f1 c1 => q H1 f1 c1⟩
theorem wm_or1 {f : PSt -> M Bool} (h : TMt X a f) : WM X (.BoolOp .Or [a] pos) f := pw_or1 h
theorem wm_or {rest : List Expr} {f g : PSt -> M Bool} (h : TMt X a f) (k : WM X (.BoolOp .Or (b :: rest) pos) g) : WM X (.BoolOp .Or (a :: b :: rest) pos) (mOrT f g) := PW.imp (pw_or h k) fun σ H Q h => by
 obtain ⟨ι, ρ, C, z, C', sr, e, q⟩ := h
 obtain ⟨x, C1, e1, e⟩ := Zag e
 refine ⟨ι, ρ, C, x, C1, sr, e1, fun H1 f1 c1 => ?_⟩
 cases x with
 | true => rw [if_pos rfl] at e ⊢; cases e; exact q H1 f1 c1
 | false => rw [if_neg Bool.false_ne_true] at e ⊢; exact ⟨ι, ρ, C1, z, C', sr.step f1 c1, e, fun H2 f2 c2 => q H2 (f1.trans f2) c2⟩
noncomputable def mAndV (f g : PSt -> M SV) : PSt -> M SV := fun ρ => bnd (f ρ) fun x => bnd (mB x) fun b => if b then g ρ else ret (.v (.bl false))
noncomputable def mOrV (f g : PSt -> M SV) : PSt -> M SV := fun ρ => bnd (f ρ) fun x => bnd (mB x) fun b => if b then ret (.v (.bl true)) else g ρ
noncomputable def mNotV (f : PSt -> M SV) : PSt -> M SV := fun ρ => bnd (f ρ) fun x => bnd (mB x) fun b => ret (.v (.bl !b))
theorem em_one {op} {f : PSt -> M SV} (h : EM X a f) : EM X (.BoolOp op [a] pos) f := pe_one h
theorem em_and {rest : List Expr} {f g : PSt -> M SV} (h : EM X a f) (k : EM X (.BoolOp .And (b :: rest) pos) g) : EM X (.BoolOp .And (a :: b :: rest) pos) (mAndV f g) := PE.imp (pe_and h k) fun σ H Q h => by
 obtain ⟨ι, ρ, C, z, C', sr, e, q⟩ := h
 obtain ⟨x, C1, e1, e⟩ := Zag e
 obtain ⟨k, C2, e2, e3⟩ := Zag e
 obtain ⟨hx, hC⟩ := ZbS e2
 subst hx hC
 clear e e2
 have e := e3
 refine ⟨ι, ρ, C, _, C2, sr, e1, fun v H1 f1 c1 r1 => ⟨k, repB r1, ?_⟩⟩
 cases k with
 | true => rw [if_pos rfl] at e ⊢; exact ⟨ι, ρ, C2, z, C', sr.step f1 c1, e, fun v' H2 f2 c2 r2 => q v' H2 (f1.trans f2) c2 r2⟩
 | false => rw [if_neg Bool.false_ne_true] at e ⊢; cases e; exact q _ H1 f1 c1 repB'
theorem em_or {rest : List Expr} {f g : PSt -> M SV} (h : EM X a f) (k : EM X (.BoolOp .Or (b :: rest) pos) g) : EM X (.BoolOp .Or (a :: b :: rest) pos) (mOrV f g) := PE.imp (pe_or h k) fun σ H Q h => by
 obtain ⟨ι, ρ, C, z, C', sr, e, q⟩ := h
 obtain ⟨x, C1, e1, e⟩ := Zag e
 obtain ⟨k, C2, e2, e3⟩ := Zag e
 obtain ⟨hx, hC⟩ := ZbS e2
 subst hx hC
 clear e e2
 have e := e3
 refine ⟨ι, ρ, C, _, C2, sr, e1, fun v H1 f1 c1 r1 => ⟨k, repB r1, ?_⟩⟩
 cases k with
 | false => rw [if_neg Bool.false_ne_true] at e ⊢; exact ⟨ι, ρ, C2, z, C', sr.step f1 c1, e, fun v' H2 f2 c2 r2 => q v' H2 (f1.trans f2) c2 r2⟩
 | true => rw [if_pos rfl] at e ⊢; cases e; exact q _ H1 f1 c1 repB'
theorem em_not {f : PSt -> M SV} (h : EM X a f) : EM X (.UnaryOp .Not a pos) (mNotV f) := PE.imp (pe_not h) fun σ H Q h => by
 obtain ⟨ι, ρ, C, z, C', sr, e, q⟩ := h
 obtain ⟨x, C1, e1, e⟩ := Zag e
 obtain ⟨k, C2, e2, e3⟩ := Zag e
 obtain ⟨hx, hC⟩ := ZbS e2
 subst hx hC
 clear e e2
 have e := e3
 refine ⟨ι, ρ, C, _, C2, sr, e1, fun v H1 f1 c1 r1 => ⟨k, repB r1, ?_⟩⟩
 cases e
 exact q _ H1 f1 c1 repB'
noncomputable def mIf (t : PSt -> M Bool) (f g : PSt -> M SV) : PSt -> M SV := fun ρ => bnd (t ρ) fun b => if b then f ρ else g ρ
noncomputable def aNil : PSt -> M (List SV) := fun _ => ret []
noncomputable def aCons (f : PSt -> M SV) (g : PSt -> M (List SV)) : PSt -> M (List SV) := fun ρ => bnd (f ρ) fun x => bnd (g ρ) fun xs => ret (x :: xs)
theorem am_nil : AM X [] aNil := PA.imp pa_nil fun σ H Q h_ => by obtain ⟨ι, ρ, C, z, C', sr, e, q⟩ := h_; cases e; exact q [] H .refl sr.cr rfl
theorem am_cons {f : PSt -> M SV} {g : PSt -> M (List SV)} (h : EM X e f) (k : AM X es g) (hs : starEach (e :: es) X.env = (false, eval e X.env) :: starEach es X.env := by rfl) : AM X (e :: es) (aCons f g) := PA.imp (pa_cons h k hs) fun σ H Q h => by
 obtain ⟨ι, ρ, C, z, C', sr, e, q⟩ := h
 obtain ⟨x, C1, e1, e⟩ := Zag e
 obtain ⟨xs, C2, e2, e⟩ := Zag e
 cases e
 exact ⟨ι, ρ, C, x, C1, sr, e1, fun v H1 f1 c1 r1 => ⟨ι, ρ, C1, xs, C', sr.step f1 c1, e2, fun vs H2 f2 c2 r2 => q (v :: vs) H2 (f1.trans f2) c2 ⟨v, vs, rfl, r1.mono c1 f2, r2⟩⟩⟩
noncomputable def C1ok (K : W.Frag) (r : List V -> Hp -> VK -> Prop) (g : Cs -> List SV -> Option SV) : Prop :=
 ∀ (ι : List Addr) (H : Hp) (C : Cs) (xs : List SV) (vs : List V) (z : SV) (Q : VK), CR K ι H C -> RepSs K ι H xs vs -> g C xs = some z -> (∀ v H', Fr ι H H' -> CR K ι H' C -> RepS K ι H' z v -> Q v H') -> r vs H Q
noncomputable def mCB (g : Cs -> List SV -> Option SV) (fs : PSt -> M (List SV)) : PSt -> M SV := fun ρ => bnd (fs ρ) fun xs => opM fun C => g C xs
theorem tM_CB {K : W.Frag} {r : List V -> Hp -> VK -> Prop} {g : Cs -> List SV -> Option SV} {fs : PSt -> M (List SV)} (hg : C1ok K r g) {σ : St} {H : Hp} {Q : VK} (h : tM K (mCB g fs) σ H Q) : tCB r (tMA K fs) σ H Q := by
 obtain ⟨ι, ρ, C, z, C', sr, e, q⟩ := h
 obtain ⟨xs, C1, e1, e⟩ := Zag e
 obtain ⟨e2, rfl⟩ := ZaF e
 exact ⟨ι, ρ, C, xs, C', sr, e1, fun vs H1 f1 c1 r1 => hg ι H1 C' xs vs z _ c1 r1 e2 fun v H2 f2 c2 r2 => q v H2 (f1.trans f2) c2 r2⟩
theorem Zbh {id : String} {r : List V -> Hp -> VK -> Prop} {g : Cs -> List SV -> Option SV} {fs : PSt -> M (List SV)} (hc : CallR X (.builtin id) r) (hg : C1ok X.K r g) (hgl : Gl X x) (hm : X.mg x = none) (hv : bootBuiltins x = some (.builtin id)) (ha : AM X (e :: es) fs) (hn : x ≠ "__name__" := by decide) (hdb : (x == ("__debug__" : Str)) = false := by decide)
  (he : starEach (e :: es) X.env = (false, eval e X.env) :: starEach es X.env := by rfl) (hpl : (backTo pos (starEach es X.env)).any (·.1) = false := by rfl) : EM X (.Call (.Name x p) (e :: es) [] pos) (mCB g fs) :=
 PE.imp (pe_callB hc hgl hm hv ha hn hdb he hpl) fun _ _ _ h => tM_CB hg h
theorem em_callTy {T : String} {r : List V -> Hp -> VK -> Prop} {g : Cs -> List SV -> Option SV} {fs : PSt -> M (List SV)} (hc : CallR X (.type T) r) (hg : C1ok X.K r g) (hgl : Gl X x) (hm : X.mg x = none) (hv : bootBuiltins x = some (.type T)) (ha : AM X (e :: es) fs) (hn : x ≠ "__name__" := by decide) (hdb : (x == ("__debug__" : Str)) = false := by decide)
  (he : starEach (e :: es) X.env = (false, eval e X.env) :: starEach es X.env := by rfl) (hpl : (backTo pos (starEach es X.env)).any (·.1) = false := by rfl) : EM X (.Call (.Name x p) (e :: es) [] pos) (mCB g fs) :=
 PE.imp (pe_callTy hc hgl hm hv ha hn hdb he hpl) fun _ _ _ h => tM_CB hg h
noncomputable def liftSp (K : W.Frag) (F : List SV -> M SV) : Sp := fun vs H Q _ => ∃ ι ss C r C', CR K ι H C /\ RepSs K ι H ss vs /\ F ss C = some (r, C') /\ ∀ v H', Fr ι H H' -> CR K ι H' C' -> RepS K ι H' r v -> Q v H'
noncomputable def mFn (F : List SV -> M SV) (fs : PSt -> M (List SV)) : PSt -> M SV := fun ρ => bnd (fs ρ) F
theorem em_call {k : Nat} {f : Addr} {fd : FuncData} {ps : List Str} {F : List SV -> M SV} {fs : PSt -> M (List SV)} (G : FnOk X.prog X.w X.K X.mg X.base CX0 k f fd ps (liftSp X.K F)) (hr : Room k X.A) (hg : Gl X x) (hm : X.mg x = some (.ref f)) (hk : W.keepIn X.K (.ref f) = true) (hb : Binds X.K fd ps [])
  (ha : AM X (e :: es) fs) (hdb : (x == ("__debug__" : Str)) = false := by decide) (he : starEach (e :: es) X.env = (false, eval e X.env) :: starEach es X.env := by rfl) (hpl : (backTo pos (starEach es X.env)).any (·.1) = false := by rfl) :
  EM X (.Call (.Name x p) (e :: es) [] pos) (mFn F fs) := PE.imp (pe_call G hr hg hm hk hb .nil pass0 ha hdb he hpl) fun σ H Q h => by
 obtain ⟨ι, ρ, C, z, C', sr, e, q⟩ := h
 obtain ⟨xs, C1, e1, e⟩ := Zag e
 refine ⟨ι, ρ, C, xs, C1, sr, e1, fun vs H1 f1 c1 r1 => ?_⟩
 show liftSp X.K F (vs ++ []) H1 Q E0
 rw [List.append_nil]
 exact ⟨ι, xs, C1, z, C', c1, r1, e, fun v H2 f2 c2 r2 => q v H2 (f1.trans f2) c2 r2⟩
end
noncomputable def Ex (ι ι2 : List Addr) (H H' : Hp) : Prop := Fr ι H H' /\ ∀ b ∈ ι2, H b = none
section
variable {K : W.Frag} {ι ι2 ι3 ι' : List Addr} {H H1 H2 H' : Hp} {C C' C1 : Cs} {ρ : PSt} {σ : St}
mutual
theorem Rep.tr (cr : CR K ι H C) (h : ∀ b o, b ∉ ι -> H b = some o -> b ∉ ι' /\ H' b = some o) : ∀ (p : PV) (v : V), Rep K ι H p v -> Rep K ι' H' p v
 | .non, v, q => by unfold Rep at q ⊢; exact q
 | .bl b, v, q => by unfold Rep at q ⊢; exact q
 | .int i, v, q => by unfold Rep at q ⊢; exact q
 | .str x, v, q => by unfold Rep at q ⊢; exact q
 | .tup ps, v, q => by
  unfold Rep at q ⊢
  obtain ⟨a, vs, e, sq, r⟩ := q
  exact ⟨a, vs, e, (h _ _ (cr.notup sq (fun _ e => nomatch e) fun _ e => nomatch e) sq).2, Reps.tr cr h ps vs r⟩
 | .lst ps, v, q => by
  unfold Rep at q ⊢
  obtain ⟨a, vs, e, sq, r⟩ := q
  refine ⟨a, vs, e, ?_, Reps.tr cr h ps vs r⟩
  rcases sq with ⟨n, z | ⟨o, z⟩⟩ | z
  ·exact .inl ⟨(h _ _ n z).1, .inl (h _ _ n z).2⟩
  ·exact .inl ⟨(h _ _ n z).1, .inr ⟨o, (h _ _ n z).2⟩⟩
  ·exact .inr z
 | .dct ks ps, v, q => by
  unfold Rep at q ⊢
  obtain ⟨a, qs, vs, e, n, hd, hl, hk, r⟩ := q
  exact ⟨a, qs, vs, e, (h _ _ n hd).1, (h _ _ n hd).2, hl, hk, Reps.tr cr h ps vs r⟩
 | .dtt ks ps, v, q => by
  unfold Rep at q ⊢
  obtain ⟨a, vs, e, n, hd, hl, r⟩ := q
  exact ⟨a, vs, e, (h _ _ n hd).1, (h _ _ n hd).2, hl, Reps.tr cr h ps vs r⟩
 | .fn a, v, q => by unfold Rep at q ⊢; exact q
 | .ty n, v, q => by unfold Rep at q ⊢; exact q
theorem Reps.tr (cr : CR K ι H C) (h : ∀ b o, b ∉ ι -> H b = some o -> b ∉ ι' /\ H' b = some o) : ∀ (ps : List PV) (vs : List V), Reps K ι H ps vs -> Reps K ι' H' ps vs
 | [], vs, q => by unfold Reps at q ⊢; exact q
 | p :: ps, vs, q => by
  unfold Reps at q ⊢
  obtain ⟨v, r, e, h1, h2⟩ := q
  exact ⟨v, r, e, Rep.tr cr h p v h1, Reps.tr cr h ps r h2⟩
end
theorem Ex.fr (f : Fr ι H H') : Ex ι [] H H' := ⟨f, fun _ z => nomatch z⟩
theorem Ex.out (x : Ex ι ι2 H H') : ∀ b o, b ∉ ι -> H b = some o -> b ∉ ι ++ ι2 /\ H' b = some o := fun b o n e => by
 refine ⟨fun z => ?_, x.1 b o n e⟩
 rcases List.mem_append.mp z with z | z
 ·exact n z
 ·rw [x.2 b z] at e; cases e
theorem Ex.trans (c : CR K (ι ++ ι2) H1 C1) (x : Ex ι ι2 H H1) (y : Ex (ι ++ ι2) ι3 H1 H2) : Ex ι (ι2 ++ ι3) H H2 := by
 refine ⟨fun b o n e => (y.out b o (x.out b o n e).1 (x.out b o n e).2).2, fun b hb => ?_⟩
 rcases List.mem_append.mp hb with hb | hb
 ·exact x.2 b hb
 ·cases e : H b with
  | none => rfl
  | some o =>
   by_cases n : b ∈ ι
   ·rcases c.mut (List.mem_append_left _ n) with ⟨vs, z⟩ | ⟨vs, z⟩ | ⟨vs, z⟩
    ·rw [y.2 b hb] at z; cases z
    ·rw [y.2 b hb] at z; cases z
    ·rw [y.2 b hb] at z; cases z
   ·have := x.1 b o n e
    rw [y.2 b hb] at this; cases this
theorem RepS.ex (cr : CR K ι H C) (x : Ex ι ι2 H H') {s : SV} {v : V} (r : RepS K ι H s v) : RepS K (ι ++ ι2) H' s v := by
 cases s with
 | v p => exact Rep.tr cr x.out p v r
 | c k =>
  obtain ⟨a, e, hk⟩ := r
  refine ⟨a, e, ?_⟩
  have hl : k < ι.length := by
   rcases Nat.lt_or_ge k ι.length with q | q
   ·exact q
   ·rw [List.getElem?_eq_none_iff.mpr q] at hk; cases hk
  rw [List.getElem?_append_left hl]; exact hk
theorem SR.ex (sr : SR K ι H ρ σ C) (x : Ex ι ι2 H H') (c : CR K (ι ++ ι2) H' C') : SR K (ι ++ ι2) H' ρ σ C' :=
 ⟨c, sr.len, fun i s e => by obtain ⟨v, h1, h2⟩ := sr.loc i s e; exact ⟨v, h1, h2.ex sr.cr x⟩⟩
end
noncomputable def Done (K : W.Frag) (ι : List Addr) (H : Hp) (D : Ends) (C' : Cs) : PF -> Prop
 | .nx ρ => ∀ ι2 σ' H', Ex ι ι2 H H' -> SR K (ι ++ ι2) H' ρ σ' C' -> D.nx σ' H'
 | .rt r => ∀ ι2 v H', Ex ι ι2 H H' -> CR K (ι ++ ι2) H' C' -> RepS K (ι ++ ι2) H' r v -> D.rt v H'
 | .bk ρ => ∀ ι2 σ' H', Ex ι ι2 H H' -> SR K (ι ++ ι2) H' ρ σ' C' -> D.bk σ' H'
 | .ct ρ => ∀ ι2 σ' H', Ex ι ι2 H H' -> SR K (ι ++ ι2) H' ρ σ' C' -> D.ct σ' H'
 | .rf ps => ∀ ι2 p vs H', Ex ι ι2 H H' -> CR K (ι ++ ι2) H' C' -> H' p = none -> Reps K (ι ++ ι2) H' ps vs -> D.rt (.ref p) (upd H' p (.lst vs))
noncomputable def tMS (K : W.Frag) (f : PSt -> M PF) : TS := fun D σ H => ∃ ι ρ C fl C', SR K ι H ρ σ C /\ f ρ C = some (fl, C') /\ Done K ι H D C' fl
noncomputable def SM (X : Cx) (st : Stmt) (f : PSt -> M PF) : Prop := PS X st (tMS X.K f)
noncomputable def BM (X : Cx) (sts : List Stmt) (f : PSt -> M PF) : Prop := PSs X sts (tMS X.K f)
section
variable {K : W.Frag} {ι ι2 : List Addr} {H H' : Hp} {C C' C1 : Cs} {ρ : PSt} {σ : St} {D : Ends} {fl : PF}
theorem Done.tr (c : CR K (ι ++ ι2) H' C1) (x : Ex ι ι2 H H') (d : Done K ι H D C' fl) : Done K (ι ++ ι2) H' D C' fl := by
 cases fl with
 | nx ρ => intro ι3 σ' H2 y sr; rw [List.append_assoc] at sr; exact d _ σ' H2 (x.trans c y) sr
 | rt r => intro ι3 v H2 y cr rr; rw [List.append_assoc] at cr rr; exact d _ v H2 (x.trans c y) cr rr
 | bk ρ => intro ι3 σ' H2 y sr; rw [List.append_assoc] at sr; exact d _ σ' H2 (x.trans c y) sr
 | ct ρ => intro ι3 σ' H2 y sr; rw [List.append_assoc] at sr; exact d _ σ' H2 (x.trans c y) sr
 | rf ps => intro ι3 p vs H2 y cr hp rs; rw [List.append_assoc] at cr rs; exact d _ p vs H2 (x.trans c y) cr hp rs
theorem Done.fr (c : CR K ι H' C1) (f : Fr ι H H') (d : Done K ι H D C' fl) : Done K ι H' D C' fl := by
 have := Done.tr (ι2 := []) (by rw [List.append_nil]; exact c) (Ex.fr f) d
 rw [List.append_nil] at this; exact this
theorem Done.nx0 (sr : SR K ι H ρ σ C') (d : Done K ι H D C' (.nx ρ)) : D.nx σ H := d [] σ H (Ex.fr .refl) (by rw [List.append_nil]; exact sr)
end
section
variable {X : Cx} {a b e c tg : Expr} {es : List Expr} {st : Stmt} {rest sts sts' : List Stmt} {f g : PSt -> M PF} {pos p pos' : Pos} {x : Str}
noncomputable def mSkip : PSt -> M PF := fun ρ => ret (.nx ρ)
noncomputable def mSeq (f g : PSt -> M PF) : PSt -> M PF := fun ρ => bnd (f ρ) fun fl => match fl with
 | .nx ρ' => g ρ'
 | fl => ret fl
theorem bm_nil : BM X [] mSkip := PSs.imp pss_nil fun D σ H h_ => by obtain ⟨ι, ρ, C, fl, C', sr, e, d⟩ := h_; cases e; exact d.nx0 sr
theorem bm_one (h : SM X st f) : BM X [st] f := pss_one h
theorem bm_cons (h : SM X st f) (k : BM X rest g) : BM X (st :: rest) (mSeq f g) := PSs.imp (pss_cons h k) fun D σ H h_ => by
 obtain ⟨ι, ρ, C, fl, C', sr, e, d⟩ := h_
 obtain ⟨fl1, C1, e1, e⟩ := Zag e
 refine ⟨ι, ρ, C, fl1, C1, sr, e1, ?_⟩
 cases fl1 with
 | nx ρ1 => exact fun ι2 σ' H' x sr' => ⟨ι ++ ι2, ρ1, C1, fl, C', sr', e, d.tr sr'.cr x⟩
 | rt r => cases e; exact d
 | bk ρ1 => cases e; exact d
 | ct ρ1 => cases e; exact d
 | rf ps => cases e; exact d
noncomputable def mIfS (t : PSt -> M Bool) (f g : PSt -> M PF) : PSt -> M PF := fun ρ => bnd (t ρ) fun b => if b then f ρ else g ρ
theorem sm_if {t : PSt -> M Bool} (hc : TMt X c t) (h : BM X sts f) (k : BM X sts' g) : SM X (.If c sts sts' pos) (mIfS t f g) := PS.imp (ps_if hc h k) fun D σ H h_ => by
 obtain ⟨ι, ρ, C, fl, C', sr, e, d⟩ := h_
 obtain ⟨z, C1, e1, e⟩ := Zag e
 refine ⟨ι, ρ, C, z, C1, sr, e1, fun H1 f1 c1 => ?_⟩
 cases z with
 | true => rw [if_pos rfl] at e ⊢; exact ⟨ι, ρ, C1, fl, C', sr.step f1 c1, e, d.fr c1 f1⟩
 | false => rw [if_neg Bool.false_ne_true] at e ⊢; exact ⟨ι, ρ, C1, fl, C', sr.step f1 c1, e, d.fr c1 f1⟩
noncomputable def mRet (f : PSt -> M SV) : PSt -> M PF := fun ρ => bnd (f ρ) fun r => ret (.rt r)
theorem sm_ret {f : PSt -> M SV} (h : EM X e f) : SM X (.Return (some e) pos) (mRet f) := PS.imp (ps_ret h) fun D σ H h_ => by
 obtain ⟨ι, ρ, C, fl, C', sr, e, d⟩ := h_
 obtain ⟨z, C1, e1, e⟩ := Zag e
 cases e
 exact ⟨ι, ρ, C, z, _, sr, e1, fun v H1 f1 c1 r1 => d [] v H1 (Ex.fr f1) (by rw [List.append_nil]; exact c1) (by rw [List.append_nil]; exact r1)⟩
noncomputable def mRetF (f : PSt -> M (List PV)) : PSt -> M PF := fun ρ => bnd (f ρ) fun r => ret (.rf r)
theorem sm_retF {f : PSt -> M (List PV)} (h : FM X e f) : SM X (.Return (some e) pos) (mRetF f) := PS.imp (ps_ret h) fun D σ H h_ => by
 obtain ⟨ι, ρ, C, fl, C', sr, e, d⟩ := h_
 obtain ⟨ps, C1, e1, g1⟩ := Zag e
 cases g1
 exact ⟨ι, ρ, C, ps, _, sr, e1, fun q vs H1 f1 c1 hq rs => d [] q vs H1 (Ex.fr f1) (by rw [List.append_nil]; exact c1) hq (by rw [List.append_nil]; exact rs)⟩
noncomputable def mDrop (f : PSt -> M SV) : PSt -> M PF := fun ρ => bnd (f ρ) fun _ => ret (.nx ρ)
theorem sm_expr {f : PSt -> M SV} (h : EM X e f) (hs : swapsWith e none pos.line X.env = pure false := by rfl) : SM X (.Expr e pos) (mDrop f) := PS.imp (ps_expr h hs) fun D σ H h_ => by
 obtain ⟨ι, ρ, C, fl, C', sr, e, d⟩ := h_
 obtain ⟨z, C1, e1, e⟩ := Zag e
 cases e
 exact ⟨ι, ρ, C, z, _, sr, e1, fun v H1 f1 c1 r1 => Done.nx0 (sr.step f1 c1) (d.fr c1 f1)⟩
noncomputable def mSet (i : Nat) (f : PSt -> M SV) : PSt -> M PF := fun ρ => bnd (f ρ) fun r => ret (.nx (ρ.set i (some r)))
theorem sm_set {i : Nat} {f : PSt -> M SV} (hN : X.N.Nodup) (hi : X.N[i]? = some x) (hx : Loc X.env.scope x) (h : EM X e f) (hs : swapsWith e (some (.Name x pos')) pos.line X.env = pure false := by rfl)
  (hf : X.fn x = true \/ X.env.scope.names.lookup x = some .local := by first | exact .inl rfl | exact .inr rfl | assumption) : SM X (.Assign [.Name x pos'] e pos) (mSet i f) := PS.imp (ps_set hN hi hx h hs hf) fun D σ H h_ => by
 obtain ⟨ι, ρ, C, fl, C', sr, e, d⟩ := h_
 obtain ⟨z, C1, e1, e⟩ := Zag e
 cases e
 exact ⟨ι, ρ, C, z, _, sr, e1, fun v H1 f1 c1 r1 => Done.nx0 ((sr.step f1 c1).set i r1) (d.fr c1 f1)⟩
noncomputable def mNew (i : Nat) (f : PSt -> M (List PV)) : PSt -> M PF := fun ρ => bnd (f ρ) fun ps => fun C => some (.nx (ρ.set i (some (.c C.length))), C ++ [.lst ps])
theorem new_cell {K : W.Frag} {ι : List Addr} {H H' : Hp} {ρ : PSt} {σ : St} {C C1 : Cs} {D : Ends} {i : Nat} {ps : List PV} {q : Addr} {vs : List V} (sr : SR K ι H ρ σ C) (d : Done K ι H D (C1 ++ [.lst ps]) (.nx (ρ.set i (some (.c C1.length)))))
  (f1 : Fr ι H H') (c1 : CR K ι H' C1) (hq : H' q = none) (rs : Reps K ι H' ps vs) : D.nx (σ.set i (some (.ref q))) (upd H' q (.lst vs)) := by
 have c2 : CR K (ι ++ [q]) (upd H' q (.lst vs)) (C1 ++ [.lst ps]) := c1.add hq ⟨vs, ZaV, RepsNew c1 hq ps vs rs⟩
 have x : Ex ι [q] H (upd H' q (.lst vs)) := ⟨f1.trans (Fr.new hq), fun b hb => by
  have : b = q := by simpa using hb
  subst this
  cases e : H b with
  | none => rfl
  | some o =>
   by_cases n : b ∈ ι
   ·rcases c1.mut n with ⟨vs, z⟩ | ⟨vs, z⟩ | ⟨vs, z⟩
    ·rw [hq] at z; cases z
    ·rw [hq] at z; cases z
    ·rw [hq] at z; cases z
   ·have := f1 b o n e; rw [hq] at this; cases this⟩
 refine d [q] _ _ x ((sr.ex x c2).set i ⟨q, rfl, ?_⟩)
 rw [← c1.len]; simp
theorem sm_new {i : Nat} {f : PSt -> M (List PV)} (hN : X.N.Nodup) (hi : X.N[i]? = some x) (hx : Loc X.env.scope x) (h : FM X e f) (hs : swapsWith e (some (.Name x pos')) pos.line X.env = pure false := by rfl)
  (hf : X.fn x = true \/ X.env.scope.names.lookup x = some .local := by first | exact .inl rfl | exact .inr rfl | assumption) : SM X (.Assign [.Name x pos'] e pos) (mNew i f) := PS.imp (ps_set hN hi hx h hs hf) fun D σ H h_ => by
 obtain ⟨ι, ρ, C, fl, C', sr, e, d⟩ := h_
 obtain ⟨ps, C1, e1, e⟩ := Zag e
 cases e
 exact ⟨ι, ρ, C, ps, C1, sr, e1, fun q vs H' f1 c1 hq rs => new_cell sr d f1 c1 hq rs⟩
noncomputable def plain : List SV -> Option (List PV)
 | [] => some []
 | .v p :: r => (plain r).map (p :: ·)
 | .c _ :: _ => none
theorem Zbf {K : W.Frag} {ι : List Addr} {H : Hp} : ∀ {xs : List SV} {ps : List PV} {vs : List V}, plain xs = some ps -> RepSs K ι H xs vs -> Reps K ι H ps vs /\ vs.length = xs.length
 | [], ps, vs, e, r => by cases e; rw [show vs = [] from r]; exact ⟨.nil, rfl⟩
 | .v p :: xs, ps, vs, e, r => by
  obtain ⟨v, w, rfl, h1, h2⟩ := r
  unfold plain at e
  cases h : plain xs with
  | none => rw [h] at e; cases e
  | some qs =>
   rw [h] at e; cases e
   exact ⟨.cons h1 (Zbf h h2).1, by rw [List.length_cons, List.length_cons, (Zbf h h2).2]⟩
 | .c _ :: _, ps, vs, e, r => by cases e
theorem k1000 {n : Nat} (h : n <= 1000) : n <= sizeLine := Nat.le_trans h (by rw [sizeLine_eq]; decide)
noncomputable def mTup (fs : PSt -> M (List SV)) : PSt -> M SV := fun ρ => bnd (fs ρ) fun xs => opM fun _ => if xs.length <= 1000 then (plain xs).map fun ps => .v (.tup ps) else none
theorem em_tup {x1} {fs : PSt -> M (List SV)} (h : AM X es fs) : EM X (.Tuple es x1 pos) (mTup fs) := PE.imp (pe_tup h) fun σ H Q h_ => by
 obtain ⟨ι, ρ, C, z, C', sr, e, q⟩ := h_
 obtain ⟨xs, C1, e1, e⟩ := Zag e
 obtain ⟨e2, rfl⟩ := ZaF e
 refine ⟨ι, ρ, C, xs, _, sr, e1, fun vs H1 f1 c1 r1 => ?_⟩
 by_cases hl : xs.length <= 1000
 ·rw [if_pos hl] at e2
  cases hp : plain xs with
  | none => rw [hp] at e2; cases e2
  | some ps =>
   rw [hp] at e2; cases e2
   obtain ⟨rs, hv⟩ := Zbf hp r1
   refine ⟨by rw [hv]; exact k1000 hl, fun q' hq => q _ _ (f1.trans (Fr.new hq)) (c1.new hq) ?_⟩
   show Rep _ _ _ (.tup ps) _
   unfold Rep
   exact ⟨q', vs, rfl, ZaV, Reps.stay (fun b o e => by rw [Zav (Zal e hq)]; exact e) ps vs rs⟩
 ·rw [if_neg hl] at e2; cases e2
noncomputable def mLst (fs : PSt -> M (List SV)) : PSt -> M (List PV) := fun ρ => bnd (fs ρ) fun xs => opM fun _ => if xs.length <= 1000 then plain xs else none
theorem fm_lst {fs : PSt -> M (List SV)} (h : AM X es fs) : FM X (.List es pos) (mLst fs) := PE.imp (pe_lst h) fun σ H Q h_ => by
 obtain ⟨ι, ρ, C, z, C', sr, e, q⟩ := h_
 obtain ⟨xs, C1, e1, e⟩ := Zag e
 obtain ⟨e2, rfl⟩ := ZaF e
 refine ⟨ι, ρ, C, xs, _, sr, e1, fun vs H1 f1 c1 r1 => ?_⟩
 by_cases hl : xs.length <= 1000
 ·rw [if_pos hl] at e2
  obtain ⟨rs, hv⟩ := Zbf e2 r1
  exact ⟨by rw [hv]; exact k1000 hl, fun q' hq => q q' vs H1 f1 c1 hq rs⟩
 ·rw [if_neg hl] at e2; cases e2
noncomputable def mVal (f : PSt -> M (List PV)) : PSt -> M SV := fun ρ => bnd (f ρ) fun ps => ret (.v (.lst ps))
theorem new_val {K : W.Frag} {ι : List Addr} {H : Hp} {C : Cs} {ps : List PV} {q : Addr} {vs : List V} (c1 : CR K ι H C) (hq : H q = none) (rs : Reps K ι H ps vs) : Rep K ι (upd H q (.lst vs)) (.lst ps) (.ref q) := by
 unfold Rep
 refine ⟨q, vs, rfl, .inl ⟨fun z => ?_, .inl ZaV⟩, Reps.stay (fun b o e => by rw [Zav (Zal e hq)]; exact e) ps vs rs⟩
 rcases c1.mut z with ⟨_, e⟩ | ⟨_, e⟩ | ⟨_, e⟩
 ·rw [hq] at e; cases e
 ·rw [hq] at e; cases e
 ·rw [hq] at e; cases e
theorem FM.em {f : PSt -> M (List PV)} (h : FM X e f) : EM X e (mVal f) := PE.imp h fun σ H Q h_ => by
 obtain ⟨ι, ρ, C, z, C', sr, e, q⟩ := h_
 obtain ⟨ps, C1, e1, e⟩ := Zag e
 cases e
 exact ⟨ι, ρ, C, ps, _, sr, e1, fun q' vs H1 f1 c1 hq rs => q _ _ (f1.trans (Fr.new hq)) (c1.new hq) (new_val c1 hq rs)⟩
noncomputable def tMG (K : W.Frag) (g : PV -> PSt -> Option PSt) : TG := fun v σ H Q => ∃ ι ρ C p ρ', SR K ι H ρ σ C /\ Rep K ι H p v /\ g p ρ = some ρ' /\ ∀ σ', SR K ι H ρ' σ' C -> Q σ' H
noncomputable def tMGs (K : W.Frag) (g : List PV -> PSt -> Option PSt) : TGs := fun v σ H Q => ∃ ι ρ C p ρ', SR K ι H ρ σ C /\ Reps K ι H p v /\ g p ρ = some ρ' /\ ∀ σ', SR K ι H ρ' σ' C -> Q σ' H
noncomputable def GM (X : Cx) (tg : Expr) (g : PV -> PSt -> Option PSt) : Prop := PG X tg (tMG X.K g)
noncomputable def GMs (X : Cx) (ts : List Expr) (g : List PV -> PSt -> Option PSt) : Prop := PGs X ts (tMGs X.K g)
theorem PG.imp {t t' : TG} (h : PG X tg t) (k : ∀ v σ H Q, t' v σ H Q -> t v σ H Q) : PG X tg t' := fun pins s σ H v u Q I r q => h pins s σ H v u Q I r (k v σ H Q q)
theorem PGs.imp {t t' : TGs} (h : PGs X es t) (k : ∀ v σ H Q, t' v σ H Q -> t v σ H Q) : PGs X es t' := fun pins s σ H v u Q I r q => h pins s σ H v u Q I r (k v σ H Q q)
noncomputable def hName (i : Nat) : PV -> PSt -> Option PSt := fun p ρ => some (ρ.set i (some (.v p)))
theorem gm_name {i : Nat} (hN : X.N.Nodup) (hi : X.N[i]? = some x) (hx : Loc X.env.scope x) (hf : X.fn x = true \/ X.env.scope.names.lookup x = some .local := by first | exact .inl rfl | exact .inr rfl | assumption) : GM X (.Name x pos) (hName i) :=
 PG.imp (pg_name hN hi hx hf) fun v σ H Q h_ => by obtain ⟨ι, ρ, C, p, ρ', sr, r, e, q⟩ := h_; cases e; exact q _ (sr.set i r)
noncomputable def hNil : List PV -> PSt -> Option PSt
 | [], ρ => some ρ
 | _ :: _, _ => none
noncomputable def hCons (g : PV -> PSt -> Option PSt) (gs : List PV -> PSt -> Option PSt) : List PV -> PSt -> Option PSt
 | [], _ => none
 | p :: ps, ρ => (g p ρ).bind fun ρ' => gs ps ρ'
noncomputable def hTup (gs : List PV -> PSt -> Option PSt) (n : Nat) : PV -> PSt -> Option PSt
 | .tup ps, ρ => if ps.length = n then gs ps ρ else none
 | _, _ => none
theorem gms_nil : GMs X [] hNil := PGs.imp pgs_nil fun v σ H Q h_ => by
 obtain ⟨ι, ρ, C, p, ρ', sr, r, e, q⟩ := h_
 cases p with
 | nil => cases e; exact ⟨r.inv0, q σ sr⟩
 | cons _ _ => cases e
theorem gms_cons {g : PV -> PSt -> Option PSt} {gs : List PV -> PSt -> Option PSt} (h : GM X e g) (k : GMs X es gs) (hs : (assignEach (e :: es) X.env).map (·.2) = assign e X.env :: (assignEach es X.env).map (·.2) := by rfl) : GMs X (e :: es) (hCons g gs) :=
 PGs.imp (pgs_cons h k hs) fun v σ H Q h_ => by
  obtain ⟨ι, ρ, C, p, ρ', sr, r, e, q⟩ := h_
  cases p with
  | nil => cases e
  | cons p ps =>
   obtain ⟨w, ws, rfl, r1, r2⟩ := r.inv
   replace e : (g p ρ).bind (fun ρ' => gs ps ρ') = some ρ' := e
   cases h1 : g p ρ with
   | none => rw [h1] at e; cases e
   | some ρ1 =>
    rw [h1] at e
    exact ⟨w, ws, rfl, ι, ρ, C, p, ρ1, sr, r1, h1, fun σ1 sr1 => ⟨ι, ρ1, C, ps, ρ', sr1, r2, e, q⟩⟩
theorem gm_tup {gs : List PV -> PSt -> Option PSt} {k n : Nat} (hc : X.calm = true) (h : GMs X es gs) (hn : (assignEach es X.env).length = n := by rfl) (hst : (assignEach es X.env).findIdx? (·.1) = none := by rfl) : GM X (.Tuple es k pos) (hTup gs n) :=
 PG.imp (pg_tup hc h hn hst) fun v σ H Q h_ => by
  obtain ⟨ι, ρ, C, p, ρ', sr, r, e, q⟩ := h_
  cases p with
  | tup ps =>
   unfold Rep at r
   obtain ⟨a, vs, rfl, sq, rs⟩ := r
   replace e : (if ps.length = n then gs ps ρ else none) = some ρ' := e
   by_cases hl : ps.length = n
   ·rw [if_pos hl] at e
    exact ⟨a, vs, rfl, sq.sq, by rw [← rs.length]; exact hl, ι, ρ, C, ps, ρ', sr, rs, e, q⟩
   ·rw [if_neg hl] at e; cases e
  | _ => cases e
noncomputable def mAsg (f : PSt -> M SV) (g : PV -> PSt -> Option PSt) : PSt -> M PF := fun ρ => bnd (f ρ) fun r => match r with
 | .v p => fun C => (g p ρ).map fun ρ' => (.nx ρ', C)
 | .c _ => fun _ => none
theorem sm_asg {f : PSt -> M SV} {g : PV -> PSt -> Option PSt} (h : EM X e f) (k : GM X tg g) (hs : swapsWithSole [tg] e pos.line X.env = pure false := by rfl) (hw : swappedStores [tg] e X.env = pure none := by rfl)
  (h1 : (assignEach [tg] X.env).map (·.2) = [assign tg X.env] := by rfl) : SM X (.Assign [tg] e pos) (mAsg f g) := PS.imp (ps_asg h k hs hw h1) fun D σ H h_ => by
 obtain ⟨ι, ρ, C, fl, C', sr, e, d⟩ := h_
 obtain ⟨z, C1, e1, e⟩ := Zag e
 refine ⟨ι, ρ, C, z, C1, sr, e1, fun v H1 f1 c1 r1 => ?_⟩
 cases z with
 | c k => cases e
 | v p =>
  have e : (g p ρ).map (fun ρ' => (PF.nx ρ', C1)) = some (fl, C') := e
  cases hg : g p ρ with
  | none => rw [hg] at e; cases e
  | some ρ1 =>
   rw [hg] at e
   cases e
   exact ⟨ι, ρ, _, p, ρ1, sr.step f1 c1, r1, hg, fun σ' sr' => Done.nx0 sr' (d.fr c1 f1)⟩
end
structure Iter (K : W.Frag) (ι : List Addr) (H1 : Hp) (xs : List PV) (J : It) : Prop where
 go : ∀ ι2 H2 C2, Ex ι ι2 H1 H2 -> CR K (ι ++ ι2) H2 C2 -> ∀ i, i < xs.length -> J.go i H2
 yld : ∀ ι2 H2 C2, Ex ι ι2 H1 H2 -> CR K (ι ++ ι2) H2 C2 -> ∀ i v H3, i < xs.length -> J.yld i H2 v H3 -> (∀ b o, H2 b = some o -> H3 b = some o) /\ ∃ p, xs[i]? = some p /\ Rep K (ι ++ ι2) H3 p v
 stop : ∀ ι2 H2 C2, Ex ι ι2 H1 H2 -> CR K (ι ++ ι2) H2 C2 -> J.stop xs.length H2
noncomputable def tMI (K : W.Frag) (f : PSt -> M (List PV)) : TI := fun σ H R => ∃ ι ρ C xs C', SR K ι H ρ σ C /\ f ρ C = some (xs, C') /\ ∀ J H1, Fr ι H H1 -> CR K ι H1 C' -> Iter K ι H1 xs J -> R J H1
noncomputable def IM (X : Cx) (tg iter : Expr) (f : PSt -> M (List PV)) : Prop := PI X tg iter (tMI X.K f)
section
variable {X : Cx} {e tg iter elt : Expr} {es : List Expr} {body : List Stmt} {f : PSt -> M PF} {pos p : Pos} {x : Str}
noncomputable def loop (g : PV -> PSt -> Option PSt) (f : PSt -> M PF) : List PV -> PSt -> M PF
 | [], ρ => ret (.nx ρ)
 | x :: xs, ρ => match g x ρ with
  | none => fun _ => none
  | some ρ1 => bnd (f ρ1) fun fl => match fl with
   | .nx ρ2 => loop g f xs ρ2
   | .ct ρ2 => loop g f xs ρ2
   | .bk ρ2 => ret (.nx ρ2)
   | .rt r => ret (.rt r)
   | .rf ps => ret (.rf ps)
noncomputable def mFor (it : PSt -> M (List PV)) (g : PV -> PSt -> Option PSt) (f : PSt -> M PF) : PSt -> M PF := fun ρ => bnd (it ρ) fun xs => loop g f xs ρ
theorem sm_for {it : PSt -> M (List PV)} {g : PV -> PSt -> Option PSt} (hp : PassesOwn (model X.prog X.w) X.A X.env X.xe) (hc : X.calm = true) (hi : IM X tg iter it) (hg : GM X tg g) (hb : BM X body f)
  (hs : ∀ x, foldedSetIterable iter X.env x = pure x := by intro _; rfl) : SM X (.For tg iter body [] pos) (mFor it g f) := PS.imp (ps_for hp hc hi hg hb hs) fun D σ H h_ => by
 obtain ⟨ι, ρ, C, fl, C', sr, e, d⟩ := h_
 obtain ⟨xs, C1, e1, e⟩ := Zag e
 refine ⟨ι, ρ, C, xs, C1, sr, e1, fun J H1 f1 c1 it1 => ?_⟩
 have d1 := d.fr c1 f1
 have sr1 := sr.step f1 c1
 refine ⟨fun i m σ2 H2 => ∃ ι2 ρ2 C2, m = xs.length - i /\ i <= xs.length /\ Ex ι ι2 H1 H2 /\ SR X.K (ι ++ ι2) H2 ρ2 σ2 C2 /\ loop g f (xs.drop i) ρ2 C2 = some (fl, C'), ⟨xs.length, [], ρ, C1, rfl, Nat.zero_le _, Ex.fr .refl, by rw [List.append_nil]; exact sr1, e⟩, ?_⟩
 rintro i m σ2 H2 ⟨ι2, ρ2, C2, rfl, hi2, x2, sr2, e2⟩
 rcases Nat.lt_or_ge i xs.length with hlt | hge
 ·right
  refine ⟨it1.go ι2 H2 C2 x2 sr2.cr i hlt, fun σ' H' => ∃ ι2 ρ2 C2, Ex ι ι2 H1 H' /\ SR X.K (ι ++ ι2) H' ρ2 σ' C2 /\ loop g f (xs.drop (i + 1)) ρ2 C2 = some (fl, C'), ?_, ?_⟩
  ·rintro σ' H' ⟨ι3, ρ3, C3, x3, sr3, e3⟩
   exact ⟨xs.length - (i + 1), by lia, ι3, ρ3, C3, rfl, hlt, x3, sr3, e3⟩
  ·intro v H3 y
   obtain ⟨sm, q, hq, rq⟩ := it1.yld ι2 H2 C2 x2 sr2.cr i v H3 hlt y
   have hd : xs.drop i = q :: xs.drop (i + 1) := by
    rw [List.drop_eq_getElem_cons hlt]
    rw [List.getElem?_eq_getElem hlt] at hq
    rw [Option.some.inj hq]
   rw [hd] at e2
   unfold loop at e2
   cases hg1 : g q ρ2 with
   | none => rw [hg1] at e2; cases e2
   | some ρ3 =>
    rw [hg1] at e2
    obtain ⟨fl1, C3, e3, e4⟩ := Zag e2
    have fr3 : Fr (ι ++ ι2) H2 H3 := fun b o _ z => sm b o z
    have cr3 : CR X.K (ι ++ ι2) H3 C2 := sr2.cr.same sm
    have x3 : Ex ι ι2 H1 H3 := ⟨fun b o n z => sm b o (x2.1 b o n z), x2.2⟩
    refine ⟨ι ++ ι2, ρ2, C2, q, ρ3, sr2.step fr3 cr3, rq, hg1, fun σ4 sr4 => ⟨ι ++ ι2, ρ3, C2, fl1, C3, sr4, e3, ?_⟩⟩
    cases fl1 with
    | nx ρ5 => exact fun ι5 σ5 H5 x5 sr5 => ⟨ι2 ++ ι5, ρ5, C3, x3.trans cr3 x5, by rw [← List.append_assoc]; exact sr5, e4⟩
    | ct ρ5 => exact fun ι5 σ5 H5 x5 sr5 => ⟨ι2 ++ ι5, ρ5, C3, x3.trans cr3 x5, by rw [← List.append_assoc]; exact sr5, e4⟩
    | bk ρ5 => cases e4; exact fun ι5 σ5 H5 x5 sr5 => d1 (ι2 ++ ι5) σ5 H5 (x3.trans cr3 x5) (by rw [← List.append_assoc]; exact sr5)
    | rf ps => cases e4; exact fun ι5 q5 vs5 H5 x5 c5 h5 r5 => d1 (ι2 ++ ι5) q5 vs5 H5 (x3.trans cr3 x5) (by rw [← List.append_assoc]; exact c5) h5 (by rw [← List.append_assoc]; exact r5)
    | rt r => cases e4; exact fun ι5 v5 H5 x5 c5 r5 => d1 (ι2 ++ ι5) v5 H5 (x3.trans cr3 x5) (by rw [← List.append_assoc]; exact c5) (by rw [← List.append_assoc]; exact r5)
 ·left
  have hi3 : i = xs.length := by lia
  subst hi3
  rw [List.drop_length] at e2
  cases e2
  exact ⟨it1.stop ι2 H2 _ x2 sr2.cr, d1 ι2 σ2 H2 x2 sr2⟩
noncomputable def stIn' (vs : List Str) (fr : List Nat) (ρ : PSt) : PSt := vs.map (fun _ => none) ++ fr.map fun i => (ρ[i]?).join
noncomputable def compL (g : PV -> PSt -> Option PSt) (tt : PSt -> M Bool) (te : PSt -> M SV) : List PV -> PSt -> List PV -> M (List PV)
 | [], _, ys => ret ys
 | x :: xs, ρ, ys => match g x ρ with
  | none => fun _ => none
  | some ρ1 => bnd (tt ρ1) fun b => if b then bnd (te ρ1) fun y => match y with
    | .v p => compL g tt te xs ρ1 (ys ++ [p])
    | .c _ => fun _ => none
   else compL g tt te xs ρ1 ys
noncomputable def mComp (it : PSt -> M (List PV)) (vs : List Str) (fr : List Nat) (g : PV -> PSt -> Option PSt) (tt : PSt -> M Bool) (te : PSt -> M SV) : PSt -> M (List PV) := fun ρ => bnd (it ρ) fun xs => if xs.length <= 100000 then compL g tt te xs (stIn' vs fr ρ) [] else fun _ => none
theorem SR.block {K : W.Frag} {ι : List Addr} {H : Hp} {ρ : PSt} {σ : St} {C : Cs} (sr : SR K ι H ρ σ C) (vs : List Str) (fr : List Nat) : SR K ι H (stIn' vs fr ρ) (stIn vs fr σ) C := by
 refine ⟨sr.cr, by simp [stIn', stIn], fun i s e => ?_⟩
 unfold stIn' at e
 unfold stIn
 rcases Nat.lt_or_ge i vs.length with h | h
 ·rw [List.getElem?_append_left (by simpa using h)] at e
  simp at e
 ·rw [List.getElem?_append_right (by simpa using h)] at e
  rw [List.getElem?_append_right (by simpa using h)]
  simp only [List.length_map, List.getElem?_map] at e ⊢
  cases hj : fr[i - vs.length]? with
  | none => rw [hj] at e; cases e
  | some j =>
   rw [hj] at e
   have e' : (ρ[j]?).join = some s := by simpa using e
   have e2 : ρ[j]? = some (some s) := by
    cases hr : ρ[j]? with
    | none => rw [hr] at e'; cases e'
    | some o => rw [hr] at e'; simp at e'; rw [e']
   obtain ⟨v, h1, h2⟩ := sr.loc j s e2
   refine ⟨v, ?_, h2⟩
   simp [h1]
theorem k100000 {n : Nat} (h : n <= 100000) : n <= sizeLine := Nat.le_trans h (by rw [sizeLine_eq]; decide)
theorem comp_pure {K : W.Frag} {it : PSt -> M (List PV)} {vs : List Str} {fr : List Nat} {g : PV -> PSt -> Option PSt} {tt : PSt -> M Bool} {te : PSt -> M SV} {σ : St} {H : Hp} {Q : VK} {ι : List Addr} {ρ : PSt} {C C' : Cs} {res : List PV} (sr : SR K ι H ρ σ C)
  (e : mComp it vs fr g tt te ρ C = some (res, C')) (q : ∀ p vs H', Fr ι H H' -> CR K ι H' C' -> H' p = none -> Reps K ι H' res vs -> Q (.ref p) (upd H' p (.lst vs))) : tComp (tMI K it) vs fr (tMG K g) (tMB K tt) (tM K te) σ H Q := by
 obtain ⟨xs, C1, e1, e⟩ := Zag e
 refine ⟨ι, ρ, C, xs, C1, sr, e1, fun J H1 f1 c1 it1 => ?_⟩
 by_cases hz : xs.length <= 100000
 case neg => rw [if_neg hz] at e; cases e
 rw [if_pos hz] at e
 have sr1 := (sr.step f1 c1).block vs fr
 have x0 : ∀ {H2 : Hp}, Fr ι H1 H2 -> Ex ι [] H1 H2 := fun f => Ex.fr f
 have c0 : ∀ {H2 : Hp} {C2 : Cs}, CR K ι H2 C2 -> CR K (ι ++ []) H2 C2 := fun c => by rw [List.append_nil]; exact c
 refine ⟨fun i m σ2 ys H2 => ∃ ρ2 C2 ps, m = xs.length - i /\ i <= xs.length /\ Fr ι H1 H2 /\ SR K ι H2 ρ2 σ2 C2 /\ Reps K ι H2 ps ys /\ ps.length <= i /\ compL g tt te (xs.drop i) ρ2 ps C2 = some (res, C'), ⟨xs.length, _, C1, [], rfl, Nat.zero_le _, .refl, sr1, .nil, Nat.le_refl _, e⟩, ?_⟩
 rintro i m σ2 ys H2 ⟨ρ2, C2, ps, rfl, hi2, f2, sr2, rs2, hps, e2⟩
 have hys : ys.length <= sizeLine := by rw [← rs2.length]; exact k100000 (Nat.le_trans (Nat.le_trans hps hi2) hz)
 rcases Nat.lt_or_ge i xs.length with hlt | hge
 ·right
  refine ⟨it1.go [] H2 C2 (x0 f2) (c0 sr2.cr) i hlt, hys, fun σ' ys' H' => ∃ ρ2 C2 ps, Fr ι H1 H' /\ SR K ι H' ρ2 σ' C2 /\ Reps K ι H' ps ys' /\ ps.length <= i + 1 /\ compL g tt te (xs.drop (i + 1)) ρ2 ps C2 = some (res, C'), ?_, ?_⟩
  ·rintro σ' ys' H' ⟨ρ3, C3, ps3, f3, sr3, rs3, h3, e3⟩
   exact ⟨xs.length - (i + 1), by lia, ρ3, C3, ps3, rfl, hlt, f3, sr3, rs3, h3, e3⟩
  ·intro v H3 y
   obtain ⟨sm, qv, hq, rq⟩ := it1.yld [] H2 C2 (x0 f2) (c0 sr2.cr) i v H3 hlt y
   rw [List.append_nil] at rq
   have hd : xs.drop i = qv :: xs.drop (i + 1) := by
    rw [List.drop_eq_getElem_cons hlt]
    rw [List.getElem?_eq_getElem hlt] at hq
    rw [Option.some.inj hq]
   rw [hd] at e2
   unfold compL at e2
   cases hg1 : g qv ρ2 with
   | none => rw [hg1] at e2; cases e2
   | some ρ3 =>
    rw [hg1] at e2
    obtain ⟨b, C3, e3, e4⟩ := Zag e2
    have fr3 : Fr ι H2 H3 := fun b o _ z => sm b o z
    have cr3 : CR K ι H3 C2 := sr2.cr.same sm
    refine ⟨ι, ρ2, C2, qv, ρ3, sr2.step fr3 cr3, rq, hg1, fun σ4 sr4 => ⟨ι, ρ3, C2, b, C3, sr4, e3, fun H5 f5 c5 => ?_⟩⟩
    have f15 := f2.trans (fr3.trans f5)
    have rs5 : Reps K ι H5 ps ys := Reps.mono cr3 f5 _ _ (Reps.mono sr2.cr fr3 _ _ rs2)
    cases b with
    | true =>
     rw [if_pos rfl] at e4
     dsimp only
     rw [if_pos rfl]
     obtain ⟨y1, C6, e6, e7⟩ := Zag e4
     refine ⟨ι, ρ3, C3, y1, C6, sr4.step f5 c5, e6, fun v7 H7 f7 c7 r7 => ?_⟩
     cases y1 with
     | c k => cases e7
     | v p7 => exact ⟨ρ3, C6, ps ++ [p7], f15.trans f7, (sr4.step f5 c5).step f7 c7, (Reps.mono c5 f7 _ _ rs5).append (.cons r7 .nil), by simp; exact hps, e7⟩
    | false =>
     rw [if_neg Bool.false_ne_true] at e4
     dsimp only
     rw [if_neg Bool.false_ne_true]
     exact ⟨ρ3, C3, ps, f15, sr4.step f5 c5, rs5, Nat.le_succ_of_le hps, e4⟩
 ·left
  have hi3 : i = xs.length := by lia
  subst hi3
  rw [List.drop_length] at e2
  cases e2
  exact ⟨it1.stop [] H2 _ (x0 f2) (c0 sr2.cr), hys, fun D hD => q D ys H2 (f1.trans f2) sr2.cr hD rs2⟩
section
variable {ifs : List Expr} {scope : Scope} {vs fs : List Str} {fr : List Nat} {it : PSt -> M (List PV)} {g : PV -> PSt -> Option PSt} {tt : PSt -> M Bool} {te : PSt -> M SV}
noncomputable def TsM (X : Cx) (ifs : List Expr) (t : PSt -> M Bool) : Prop := PTs X ifs (tMB X.K t)
noncomputable def tOk : PSt -> M Bool := fun _ => ret true
theorem ts_nil : TsM X [] tOk := fun pins s σ H Q I h_ => by
 obtain ⟨ι, ρ, C, b, C', sr, e, q⟩ := h_
 cases e
 exact pts_nil pins s σ H Q I (q H .refl sr.cr)
theorem fm_comp (S : CSc X scope vs fs fr) (hc : X.calm = true) (hi : IM X tg iter it)
  (bG : ∀ C s₀ H₀ ex pn, GM (CompCx X (vs ++ fs) scope C s₀ H₀ ex pn) tg g) (bT : ∀ C s₀ H₀ ex pn, TsM (CompCx X (vs ++ fs) scope C s₀ H₀ ex pn) ifs tt) (bE : ∀ C s₀ H₀ ex pn, EM (CompCx X (vs ++ fs) scope C s₀ H₀ ex pn) elt te)
  (hs : ∀ x, foldedSetIterable iter X.env x = pure x := by intro _; rfl) : FM X (.ListComp elt [⟨tg, iter, ifs, 0⟩] scope pos) (mComp it vs fr g tt te) :=
 PE.imp (pe_comp (g := tMG X.K g) (tt := tMB X.K tt) (te := tM X.K te) S hc hi bG bT bE hs) fun σ H Q ⟨ι, ρ, C, res, C', sr, e, q⟩ => comp_pure sr e q
end
end
theorem CR.cut {K : W.Frag} {ι ι2 : List Addr} {H : Hp} {C : Cs} {n : Nat} (c : CR K (ι ++ ι2) H C) (hn : ι.length = n) : CR K ι H (C.take n) := by
 have hlen : (ι ++ ι2).length = C.length := c.len
 rw [List.length_append] at hlen
 have hs : ∀ b o, H b = some o -> b ∉ ι ++ ι2 -> b ∉ ι := fun b o _ z q => z (List.mem_append_left _ q)
 refine ⟨by rw [List.length_take]; lia, (List.nodup_append.mp c.nd).1, fun k a d h1 h2 => ?_⟩
 have hk : k < ι.length := by
  rcases Nat.lt_or_ge k ι.length with q | q
  ·exact q
  ·rw [List.getElem?_eq_none_iff.mpr q] at h1; cases h1
 rw [List.getElem?_take_of_lt (by lia)] at h2
 have ok := c.ok k a d (by rw [List.getElem?_append_left hk]; exact h1) h2
 cases d with
 | lst ps => obtain ⟨vs, e, r⟩ := ok; exact ⟨vs, e, Reps.cells hs _ _ r⟩
 | dct ks ps => obtain ⟨qs, vs, e, hl, hk, r⟩ := ok; exact ⟨qs, vs, e, hl, hk, Reps.cells hs _ _ r⟩
 | dtt ks ps => obtain ⟨vs, e, hl, r⟩ := ok; exact ⟨vs, e, hl, Reps.cells hs _ _ r⟩
 | _ => exact ok.elim
noncomputable def fin (n : Nat) (C' : Cs) : SV -> Option (SV × Cs)
 | .v p => some (.v p, C'.take n)
 | .c k => if k < n then some (.c k, C'.take n) else (C'[k]?).map fun c => (.v c, C'.take n)
noncomputable def mDef (n pad : Nat) (body : PSt -> M PF) : List SV -> M SV := fun ss C => if ss.length = n then (match body (ss.map some ++ List.replicate pad none) C with
 | some (.rt r, C') => fin C.length C' r
 | some (.nx _, C') => some (.v .non, C'.take C.length)
 | some (.rf ps, C') => some (.v (.lst ps), C'.take C.length)
 | _ => none) else none
noncomputable def mDefF (n pad : Nat) (body : PSt -> M PF) : List SV -> M (List PV) := fun ss C => if ss.length = n then (match body (ss.map some ++ List.replicate pad none) C with
 | some (.rf ps, C') => some (ps, C'.take C.length)
 | _ => none) else none
noncomputable def liftSpF (K : W.Frag) (F : List SV -> M (List PV)) : Sp := fun vs H Q _ => ∃ ι ss C ps C', CR K ι H C /\ RepSs K ι H ss vs /\ F ss C = some (ps, C') /\ ∀ p vs H', Fr ι H H' -> CR K ι H' C' -> H' p = none -> Reps K ι H' ps vs -> Q (.ref p) (upd H' p (.lst vs))
noncomputable def mFnF (F : List SV -> M (List PV)) (fs : PSt -> M (List SV)) : PSt -> M (List PV) := fun ρ => bnd (fs ρ) F
theorem fm_call {X : Cx} {e : Expr} {es : List Expr} {p pos : Pos} {x : Str} {k : Nat} {f : Addr} {fd : FuncData} {ps : List Str} {F : List SV -> M (List PV)} {fs : PSt -> M (List SV)} (G : FnOk X.prog X.w X.K X.mg X.base CX0 k f fd ps (liftSpF X.K F)) (hr : Room k X.A) (hg : Gl X x) (hm : X.mg x = some (.ref f)) (hk : W.keepIn X.K (.ref f) = true) (hb : L2.Binds X.K fd ps [])
  (ha : AM X (e :: es) fs) (hdb : (x == ("__debug__" : Str)) = false := by decide) (he : starEach (e :: es) X.env = (false, eval e X.env) :: starEach es X.env := by rfl) (hpl : (backTo pos (starEach es X.env)).any (·.1) = false := by rfl) :
  FM X (.Call (.Name x p) (e :: es) [] pos) (mFnF F fs) := PE.imp (pe_call G hr hg hm hk hb .nil pass0 ha hdb he hpl) fun σ H Q h_ => by
 obtain ⟨ι, ρ, C, z, C', sr, e, q⟩ := h_
 obtain ⟨xs, C1, e1, g1⟩ := Zag e
 refine ⟨ι, ρ, C, xs, C1, sr, e1, fun vs H1 f1 c1 r1 => ?_⟩
 show liftSpF X.K F (vs ++ []) H1 Q E0
 rw [List.append_nil]
 exact ⟨ι, xs, C1, z, C', c1, r1, g1, fun q' ws H2 f2 c2 h2 r2 => q q' ws H2 (f1.trans f2) c2 h2 r2⟩
theorem fin_ok {K : W.Frag} {ι ι2 : List Addr} {H : Hp} {C' C2 : Cs} {n : Nat} {r r' : SV} {v : V} (c : CR K (ι ++ ι2) H C') (hn : ι.length = n) (rr : RepS K (ι ++ ι2) H r v) (e : fin n C' r = some (r', C2)) : CR K ι H C2 /\ RepS K ι H r' v := by
 have hs : ∀ b o, H b = some o -> b ∉ ι ++ ι2 -> b ∉ ι := fun b o _ z q => z (List.mem_append_left _ q)
 cases r with
 | v p => cases e; exact ⟨c.cut hn, Rep.cells hs p v rr⟩
 | c k =>
  obtain ⟨a, rfl, hk⟩ := rr
  replace e : (if k < n then some (SV.c k, C'.take n) else (C'[k]?).map fun c => (SV.v c, C'.take n)) = some (r', C2) := e
  by_cases h : k < n
  ·rw [if_pos h] at e
   cases e
   refine ⟨c.cut hn, a, rfl, ?_⟩
   rw [List.getElem?_append_left (by lia)] at hk; exact hk
  ·rw [if_neg h] at e
   cases hd : C'[k]? with
   | none => rw [hd] at e; cases e
   | some d =>
    rw [hd] at e
    cases e
    refine ⟨c.cut hn, ?_⟩
    have ok := c.ok k a d hk hd
    have hna : a ∉ ι := fun z => by
     obtain ⟨j, hj, ej⟩ := List.getElem_of_mem z
     have hjk : (ι ++ ι2)[j]? = some a := by rw [List.getElem?_append_left hj, List.getElem?_eq_getElem hj, ej]
     have hkl : k < (ι ++ ι2).length := by
      rcases Nat.lt_or_ge k (ι ++ ι2).length with q | q
      ·exact q
      ·rw [List.getElem?_eq_none_iff.mpr q] at hk; cases hk
     have hjl : j < (ι ++ ι2).length := by rw [List.length_append]; lia
     have e1 := (List.getElem?_eq_some_iff.mp hjk).2
     have e2 := (List.getElem?_eq_some_iff.mp hk).2
     have := (List.getElem_inj c.nd).mp (e1.trans e2.symm)
     lia
    show Rep K ι H d (.ref a)
    cases d with
    | lst ps => obtain ⟨vs, e, r⟩ := ok; unfold Rep; exact ⟨a, vs, rfl, .inl ⟨hna, .inl e⟩, Reps.cells hs _ _ r⟩
    | dct ks ps => obtain ⟨qs, vs, e, hl, hk, r⟩ := ok; unfold Rep; exact ⟨a, qs, vs, rfl, hna, e, hl, hk, Reps.cells hs _ _ r⟩
    | dtt ks ps => obtain ⟨vs, e, hl, r⟩ := ok; unfold Rep; exact ⟨a, vs, rfl, hna, e, hl, Reps.cells hs _ _ r⟩
    | _ => exact ok.elim
theorem RepSs.length {K : W.Frag} {ι : List Addr} {H : Hp} : ∀ {ss : List SV} {vs : List V}, RepSs K ι H ss vs -> ss.length = vs.length
 | [], vs, h => by rw [show vs = [] from h]; rfl
 | s :: ss, vs, h => by obtain ⟨v, r, rfl, _, t⟩ := h; rw [List.length_cons, List.length_cons, RepSs.length t]
theorem RepSs.get {K : W.Frag} {ι : List Addr} {H : Hp} : ∀ {ss : List SV} {vs : List V} {i : Nat} {s : SV}, RepSs K ι H ss vs -> ss[i]? = some s -> ∃ v, vs[i]? = some v /\ RepS K ι H s v
 | [], _, _, _, h, e => by simp at e
 | q :: ss, vs, 0, s, h, e => by
  obtain ⟨v, r, rfl, h1, h2⟩ := h
  simp at e; subst e; exact ⟨v, rfl, h1⟩
 | q :: ss, vs, i + 1, s, h, e => by
  obtain ⟨v, r, rfl, h1, h2⟩ := h
  obtain ⟨w, e1, r1⟩ := RepSs.get (i := i) h2 (by simpa using e)
  exact ⟨w, by simpa using e1, r1⟩
theorem sr_start {K : W.Frag} {ι : List Addr} {H : Hp} {C : Cs} {ss : List SV} {vs : List V} {N : List Str} (cr : CR K ι H C) (rs : RepSs K ι H ss vs) : SR K ι H (ss.map some ++ List.replicate (N.length - ss.length) none) (L2.start N vs) C := by
 have hl := RepSs.length rs
 refine ⟨cr, by unfold L2.start; simp [hl], fun i s e => ?_⟩
 unfold L2.start
 rcases Nat.lt_or_ge i ss.length with h | h
 ·rw [List.getElem?_append_left (by simpa using h), List.getElem?_map] at e
  rw [List.getElem?_append_left (by rw [List.length_map, ← hl]; exact h), List.getElem?_map]
  cases hs : ss[i]? with
  | none => rw [hs] at e; cases e
  | some s' =>
   rw [hs] at e
   have : s' = s := by simpa using e
   subst this
   obtain ⟨v, h1, h2⟩ := RepSs.get rs hs
   exact ⟨v, by rw [h1]; rfl, h2⟩
 ·rw [List.getElem?_append_right (by simpa using h), List.getElem?_replicate] at e
  split at e <;> cases e
section
variable {P : Program} {w : World} {K : W.Frag} {mg : Str -> Option Value} {base : Heap}
theorem fn_mk {x qual : Str} {st : Stmt} {f : Addr} {fd : FuncData} {N ps : List Str} {k : Nat} {body : PSt -> M PF} (F : Fun K x qual st f fd) (S : FnScope N ps (defScope st))
  (hbody : ∀ (cdv : Value) (A : Around) (outer : List Env) (s : Shared) (H : Hp) (E : XK), Room k (A.deeper (envOfC qual (defScope st) s.heap.objs.size f cdv)) ->
   BM (cxOf CX0 P w K mg base N qual (defScope st) f cdv A outer s H E).nox (defBody st) body) : FnOk P w K mg base CX0 (k + 1) f fd ps (liftSp K (mDef ps.length (N.length - ps.length) body)) := by
 refine F.ok S (fun vs H Q E h_ => ?_) (fun cdv A outer s H vs Q E hr h_ => ?_) <;> obtain ⟨ι, ss, C, r, C', cr, rs, e, q⟩ := h_
 ·unfold mDef at e
  by_cases h : ss.length = ps.length
  ·rw [← RepSs.length rs]; exact h
  ·rw [if_neg h] at e; cases e
 ·refine ⟨_, hbody cdv A outer s H E hr, ?_⟩
  unfold mDef at e
  by_cases h : ss.length = ps.length
  case neg => rw [if_neg h] at e; cases e
  rw [if_pos h] at e
  have sr := sr_start (N := N) cr rs
  rw [h] at sr
  cases hb : body (ss.map some ++ List.replicate (N.length - ps.length) none) C with
  | none => rw [hb] at e; cases e
  | some z =>
   obtain ⟨fl, C2⟩ := z
   rw [hb] at e
   refine ⟨ι, _, C, fl, C2, sr, hb, ?_⟩
   cases fl with
   | rt r2 =>
    intro ι2 v H' x c r3
    obtain ⟨c4, r4⟩ := fin_ok c cr.len r3 e
    exact q v H' x.1 c4 r4
   | nx ρ2 =>
    intro ι2 σ' H' x sr'
    cases e
    refine q .non H' x.1 (sr'.cr.cut cr.len) ?_
    show Rep K ι H' .non .non
    unfold Rep; rfl
   | rf ps' =>
    intro ι2 p' vs' H' x c hp rs'
    cases e
    have hs : ∀ b o, H' b = some o -> b ∉ ι ++ ι2 -> b ∉ ι := fun b o _ z q => z (List.mem_append_left _ q)
    have c4 := c.cut cr.len
    exact q _ _ (x.1.trans (Fr.new hp)) (c4.new hp) (show Rep _ _ _ _ _ from new_val c4 hp (Reps.cells hs _ _ rs'))
   | bk _ => cases e
   | ct _ => cases e
theorem fn_mkF {x qual : Str} {st : Stmt} {f : Addr} {fd : FuncData} {N ps : List Str} {k : Nat} {body : PSt -> M PF} (F : Fun K x qual st f fd) (S : FnScope N ps (defScope st))
  (hbody : ∀ (cdv : Value) (A : Around) (outer : List Env) (s : Shared) (H : Hp) (E : XK), Room k (A.deeper (envOfC qual (defScope st) s.heap.objs.size f cdv)) ->
   BM (cxOf CX0 P w K mg base N qual (defScope st) f cdv A outer s H E).nox (defBody st) body) : FnOk P w K mg base CX0 (k + 1) f fd ps (liftSpF K (mDefF ps.length (N.length - ps.length) body)) := by
 refine F.ok S (fun vs H Q E h_ => ?_) (fun cdv A outer s H vs Q E hr h_ => ?_) <;> obtain ⟨ι, ss, C, r, C', cr, rs, e, q⟩ := h_
 ·unfold mDefF at e
  by_cases h : ss.length = ps.length
  ·rw [← RepSs.length rs]; exact h
  ·rw [if_neg h] at e; cases e
 ·refine ⟨_, hbody cdv A outer s H E hr, ?_⟩
  unfold mDefF at e
  by_cases h : ss.length = ps.length
  case neg => rw [if_neg h] at e; cases e
  rw [if_pos h] at e
  have sr := sr_start (N := N) cr rs
  rw [h] at sr
  cases hb : body (ss.map some ++ List.replicate (N.length - ps.length) none) C with
  | none => rw [hb] at e; cases e
  | some z =>
   obtain ⟨fl, C2⟩ := z
   rw [hb] at e
   refine ⟨ι, _, C, fl, C2, sr, hb, ?_⟩
   cases fl with
   | rf ps' =>
    intro ι2 p' vs' H' x c hp rs'
    cases e
    have hs : ∀ b o, H' b = some o -> b ∉ ι ++ ι2 -> b ∉ ι := fun b o _ z q => z (List.mem_append_left _ q)
    exact q p' vs' H' x.1 (c.cut cr.len) hp (Reps.cells hs _ _ rs')
   | _ => cases e
end
end Pu
namespace Pu
open PySem PySem.Spec L2
open PyProof.Rows hiding St Fr
noncomputable def g2 (h : PV -> PV -> Option PV) : Cs -> SV -> SV -> Option SV := fun C x y => match deref C x, deref C y with
 | some p, some q => (h p q).map .v
 | _, _ => none
noncomputable def L2ok (K : W.Frag) (r : R2) (h : PV -> PV -> Option PV) : Prop :=
 ∀ (ι : List Addr) (H : Hp) (C : Cs) (p q : PV) (vx vy : V) (z : PV) (Q : VK), CR K ι H C -> Lies K ι H p vx -> Lies K ι H q vy -> h p q = some z -> (∀ v H', Fr ι H H' -> CR K ι H' C -> Rep K ι H' z v -> Q v H') -> r vx vy H Q
theorem L2ok.r {K : W.Frag} {r : R2} {h : PV -> PV -> Option PV} (k : L2ok K r h) : R2ok K r (g2 h) := by
 intro ι H C x y vx vy z Q cr rx ry e q
 unfold g2 at e
 cases hx : deref C x with
 | none => rw [hx] at e; cases e
 | some p =>
  cases hy : deref C y with
  | none => rw [hx, hy] at e; cases e
  | some p2 =>
   rw [hx, hy] at e
   cases hz : h p p2 with
   | none => simp [hz] at e
   | some z2 =>
    simp [hz] at e
    subst e
    exact k ι H C p p2 vx vy z2 Q cr (rx.lies cr hx) (ry.lies cr hy) hz q
theorem OpR.or {X : Cx} {f : Value -> Value -> Sem Value} {r r' : R2} (h : OpR X f r) (h' : OpR X f r') : OpR X f (fun x y H Q => r x y H Q \/ r' x y H Q) := by
 intro pins s σ H x y v u Q I rx ry q
 rcases q with q | q
 ·exact h pins s σ H x y v u Q I rx ry q
 ·exact h' pins s σ H x y v u Q I rx ry q
section
variable {K : W.Frag} {ι : List Addr} {H : Hp} {C : Cs} {Q : VK} {z : PV}
theorem liesS {v : V} {i : Str} (h : Lies K ι H (.str i) v) : v = .str i /\ i.length <= sizeLine := by cases h; exact ⟨rfl, by assumption⟩
theorem liesT {v : V} {ps : List PV} (h : Lies K ι H (.tup ps) v) : ∃ a vs, v = .ref a /\ TpR H a vs /\ Reps K ι H ps vs := by cases h; exact ⟨_, _, rfl, by assumption, by assumption⟩
theorem liesL {v : V} {ps : List PV} (h : Lies K ι H (.lst ps) v) : ∃ a vs, v = .ref a /\ SqL K H a vs /\ Reps K ι H ps vs := by cases h; exact ⟨_, _, rfl, by assumption, by assumption⟩
theorem repI {i : Int} : Rep K ι H (.int i) (.int i) := by unfold Rep; rfl
theorem repBl {i : Bool} : Rep K ι H (.bl i) (.bl i) := by unfold Rep; rfl
theorem repN : Rep K ι H .non .non := by unfold Rep; rfl
theorem repS {i : Str} (h : i.length <= sizeLine) : Rep K ι H (.str i) (.str i) := by unfold Rep; exact ⟨rfl, h⟩
theorem k1000000 {n : Nat} (h : n <= 1000000) : n <= sizeLine := Nat.le_trans h (by rw [sizeLine_eq]; decide)
theorem new_tup {ps : List PV} {q : Addr} {vs : List V} (hq : H q = none) (rs : Reps K ι H ps vs) : Rep K ι (upd H q (.tup vs)) (.tup ps) (.ref q) := by
 unfold Rep
 exact ⟨q, vs, rfl, ZaV, Reps.stay (fun b o e => by rw [Zav (Zal e hq)]; exact e) ps vs rs⟩
end
noncomputable def addP : PV -> PV -> Option PV
 | .int i, .int j => some (.int (i + j))
 | .str i, .str j => if i.length + j.length <= 1000000 then some (.str (i ++ j)) else none
 | .lst a, .lst b => if a.length + b.length <= 1000000 then some (.lst (a ++ b)) else none
 | .tup a, .tup b => if a.length + b.length <= 1000000 then some (.tup (a ++ b)) else none
 | _, _ => none
noncomputable def rCatL (K : W.Frag) : R2 := fun x y H Q => ∃ l b xs zs, x = .ref l /\ y = .ref b /\ SqL K H l xs /\ SqL K H b zs /\ xs.length + zs.length <= sizeLine /\ ∀ p, H p = none -> Q (.ref p) (upd H p (.lst (xs ++ zs)))
section
variable {X : Cx}
theorem op_catL : OpR X (binaryOp .Add) (rCatL X.K) := by
 intro pins s σ H x y v u Q I rx ry h
 obtain ⟨l, b, xs, zs, rfl, rfl, hH, hB, hz, q⟩ := h
 cases rx
 cases ry
 obtain ⟨its, r, pl, _⟩ := I.list hH
 obtain ⟨its2, r2, pl2, _⟩ := I.list hB
 obtain ⟨⟨cls, dd, data, sl⟩, ho, hc, n, hd⟩ := id pl.isList
 obtain ⟨⟨cls2, dd2, data2, sl2⟩, ho2, hc2, n2, hd2⟩ := id pl2.isList
 simp only at hc hd hc2 hd2
 subst hc hd hc2 hd2
 have h1 := r.length
 have h2 := r2.length
 have ea : its.toArray ++ its2.toArray = (its ++ its2).toArray := by simp
 refine concat_meets ⟨_, ho, rfl⟩ ⟨_, ho2, rfl⟩ noFill_list_add seq_list_add PySem.F.slot_list_add PySem.F.entry_list_add (PySem.F.args_list_add_2 _ _) (list_addW l b its.toArray its2.toArray n n2 dd dd2 sl sl2 (by simp; lia)) ⟨ho, ho2, ?_⟩
 rw [ea]
 exact ⟨.ref _, _, I.lnew (t' := s.toks) (r.append r2) (by rw [List.length_append]; lia), rfl, q _ I.fresh⟩
noncomputable def rCatT' (K : W.Frag) : R2 := fun x y H Q => ∃ a b xs ys, x = .ref a /\ y = .ref b /\ SqT K H a xs /\ SqT K H b ys /\ xs.length + ys.length <= sizeLine /\
 (xs = [] -> Q (.ref b) H) /\ (xs ≠ [] -> ys = [] -> Q (.ref a) H) /\ (xs ≠ [] -> ys ≠ [] -> ∀ p, H p = none -> Q (.ref p) (upd H p (.tup (xs ++ ys))))
theorem op_catT' : OpR X (binaryOp .Add) (rCatT' X.K) := by
 intro pins s σ H x y v u Q I rx ry h
 obtain ⟨a, b, xs, ys, rfl, rfl, ha, hb, hz, q0, q1, q2⟩ := h
 by_cases hx : xs = []
 ·cases rx
  cases ry
  obtain ⟨its, r1, p1, _⟩ := I.tuple ha
  obtain ⟨its2, r2, p2, _⟩ := I.tuple hb
  obtain ⟨⟨cls, dd, data, sl⟩, ho, hc, n, hd⟩ := id p1
  obtain ⟨⟨cls2, dd2, data2, sl2⟩, ho2, hc2, n2, hd2⟩ := id p2
  simp only at hc hd hc2 hd2
  subst hc hd hc2 hd2
  exact concat_meets ⟨_, ho, rfl⟩ ⟨_, ho2, rfl⟩ noFill_tuple_add seq_tuple_add PySem.F.slot_tuple_add PySem.F.entry_tuple_add (PySem.F.args_tuple_add_2 _ _)
   (tuple_addW0 a b its.toArray its2.toArray n n2 dd dd2 sl sl2 (by simp [r1.nil_iff.mpr hx])) ⟨ho, ho2, ⟨.ref b, H, I, rfl, q0 hx⟩⟩
 ·exact op_catT pins s σ H _ _ v u Q I rx ry ⟨a, b, xs, ys, rfl, rfl, ha, hb, hx, hz, q1 hx, q2 hx⟩
theorem op_addAll : OpR X (binaryOp .Add) (fun x y H Q => (rI0 fun i j => .int (i + j)) x y H Q \/ (∃ i j, x = .str i /\ y = .str j /\ i.length + j.length <= sizeLine /\ Q (.str (i ++ j)) H) \/ rCatL X.K x y H Q \/ rCatT' X.K x y H Q) :=
 OpR.or op_add (OpR.or op_add_str (OpR.or op_catL op_catT'))
theorem str_app_len (i j : Str) : (i ++ j).length = i.length + j.length := by
 show (i.cps ++ j.cps).size = _
 rw [Array.size_append]; rfl
theorem add_ok : L2ok X.K (fun x y H Q => (rI0 fun i j => .int (i + j)) x y H Q \/ (∃ i j, x = .str i /\ y = .str j /\ i.length + j.length <= sizeLine /\ Q (.str (i ++ j)) H) \/ rCatL X.K x y H Q \/ rCatT' X.K x y H Q) addP := by
 intro ι H C p q vx vy z Q cr lx ly e k
 unfold addP at e
 split at e
 ·cases e; cases lx; cases ly
  exact .inl ⟨_, _, rfl, rfl, k _ H .refl cr repI⟩
 ·split at e
  ·rename_i hl
   cases e; cases lx; cases ly
   exact .inr (.inl ⟨_, _, rfl, rfl, k1000000 hl, k _ H .refl cr (repS (by rw [str_app_len]; exact k1000000 hl))⟩)
  ·cases e
 ·split at e
  ·rename_i hl
   cases e
   obtain ⟨a, vs, rfl, h1, r1⟩ := liesL lx
   obtain ⟨b, ws, rfl, h2, r2⟩ := liesL ly
   exact .inr (.inr (.inl ⟨a, b, vs, ws, rfl, rfl, h1, h2, by rw [← r1.length, ← r2.length]; exact k1000000 hl, fun p hp => k _ _ (Fr.new hp) (cr.new hp) (new_val cr hp (r1.append r2))⟩))
  ·cases e
 ·split at e
  ·rename_i hl
   cases e
   rename_i xs ys
   obtain ⟨a, vs, rfl, h1, r1⟩ := liesT lx
   obtain ⟨b, ws, rfl, h2, r2⟩ := liesT ly
   refine .inr (.inr (.inr ⟨a, b, vs, ws, rfl, rfl, h1.sq, h2.sq, by rw [← r1.length, ← r2.length]; exact k1000000 hl, fun e => ?_, fun _ e => ?_, fun _ _ p hp => k _ _ (Fr.new hp) (cr.new hp) (new_tup hp (r1.append r2))⟩))
   ·subst e
    have := r1.length
    have hx : xs = [] := List.eq_nil_of_length_eq_zero this
    subst hx
    exact k _ H .refl cr (by unfold Rep; exact ⟨b, ws, rfl, h2, r2⟩)
   ·subst e
    have := r2.length
    have hy : ys = [] := List.eq_nil_of_length_eq_zero this
    subst hy
    rw [List.append_nil] at k
    exact k _ H .refl cr (by unfold Rep; exact ⟨a, vs, rfl, h1, r1⟩)
  ·cases e
 ·cases e
variable {a b e c : Expr} {es : List Expr} {fa fb fc : PSt -> M SV} {pos p : Pos} {x : Str}
theorem em_add (ha : EM X a fa) (hb : EM X b fb) : EM X (.BinOp a .Add b pos) (mOp (g2 addP) fa fb) := em_op op_addAll add_ok.r ha hb
noncomputable def intP (c : Int -> Int -> Bool) (f : Int -> Int -> PV) : PV -> PV -> Option PV
 | .int i, .int j => if c i j then some (f i j) else none
 | _, _ => none
theorem int_ok {C0 : Int -> Int -> Prop} {f : Int -> Int -> Int} {c : Int -> Int -> Bool} (h : ∀ i j, c i j = true -> C0 i j) : L2ok X.K (rI C0 fun i j => .int (f i j)) (intP c fun i j => .int (f i j)) := by
 intro ι H C p q vx vy z Q cr lx ly e k
 unfold intP at e
 split at e
 ·split at e
  ·rename_i hc
   cases e; cases lx; cases ly
   exact ⟨_, _, rfl, rfl, h _ _ hc, k _ H .refl cr repI⟩
  ·cases e
 ·cases e
theorem ZbW {f : Int -> Int -> V} {g : Int -> Int -> PV} (h : ∀ i j, ∀ ι H, Rep X.K ι H (g i j) (f i j)) : L2ok X.K (rI0 f) (intP (fun _ _ => true) g) := by
 intro ι H C p q vx vy z Q cr lx ly e k
 unfold intP at e
 split at e
 ·simp only [if_true] at e
  cases e; cases lx; cases ly
  exact ⟨_, _, rfl, rfl, k _ H .refl cr (h _ _ _ _)⟩
 ·cases e
noncomputable abbrev subP := intP (fun _ _ => true) fun i j => .int (i - j)
noncomputable abbrev mulP := intP (fun i j => decide (-(2 ^ 64) < i /\ i < 2 ^ 64) || decide (-(2 ^ 64) < j /\ j < 2 ^ 64)) fun i j => .int (i * j)
noncomputable abbrev modP := intP (fun _ j => decide (0 < j)) fun i j => .int (i % j)
noncomputable abbrev fdivP := intP (fun _ j => decide (0 < j /\ j < 1073741824)) fun i j => .int (i / j)
noncomputable abbrev powP := intP (fun i j => decide (0 <= j /\ j <= 1000 /\ i.natAbs < 2 ^ 64)) fun i j => .int (i ^ j.toNat)
noncomputable abbrev ltP := intP (fun _ _ => true) fun i j => .bl (decide (i < j))
noncomputable abbrev leP := intP (fun _ _ => true) fun i j => .bl (decide (i <= j))
noncomputable abbrev gtP := intP (fun _ _ => true) fun i j => .bl (decide (j < i))
noncomputable abbrev geP := intP (fun _ _ => true) fun i j => .bl (decide (j <= i))
theorem em_sub (ha : EM X a fa) (hb : EM X b fb) : EM X (.BinOp a .Sub b pos) (mOp (g2 subP) fa fb) := em_op op_sub (ZbW fun _ _ _ _ => repI).r ha hb
theorem em_mul (ha : EM X a fa) (hb : EM X b fb) : EM X (.BinOp a .Mult b pos) (mOp (g2 mulP) fa fb) := em_op op_mul (int_ok fun i j h => by
 rw [Bool.or_eq_true] at h
 rcases h with h | h
 ·exact .inl (of_decide_eq_true h)
 ·exact .inr (of_decide_eq_true h)).r ha hb
theorem em_mod (ha : EM X a fa) (hb : EM X b fb) : EM X (.BinOp a .Mod b pos) (mOp (g2 modP) fa fb) := em_op op_mod (int_ok fun i j h => of_decide_eq_true h).r ha hb
theorem em_fdiv (ha : EM X a fa) (hb : EM X b fb) : EM X (.BinOp a .FloorDiv b pos) (mOp (g2 fdivP) fa fb) := em_op op_fdiv (int_ok fun i j h => (of_decide_eq_true h : 0 < j /\ j < 1073741824)).r ha hb
theorem em_pow (ha : EM X a fa) (hb : EM X b fb) : EM X (.BinOp a .Pow b pos) (mOp (g2 powP) fa fb) := em_op op_pow (int_ok fun i j h => by
 have h := of_decide_eq_true h
 exact ⟨h.1, Int.le_trans h.2.1 (by decide), h.2.2⟩).r ha hb
theorem lt_ok : L2ok X.K (rI0 fun i j => .bl (decide (i < j))) ltP := ZbW fun _ _ _ _ => repBl
theorem Zbw : L2ok X.K (rI0 fun i j => .bl (decide (i <= j))) leP := ZbW fun _ _ _ _ => repBl
theorem gt_ok : L2ok X.K (rI0 fun i j => .bl (decide (j < i))) gtP := ZbW fun _ _ _ _ => repBl
theorem ge_ok : L2ok X.K (rI0 fun i j => .bl (decide (j <= i))) geP := ZbW fun _ _ _ _ => repBl
noncomputable def scP : PV -> PV -> Option Bool
 | .non, .non => some true | .non, .int _ => some false | .int _, .non => some false | .non, .bl _ => some false | .bl _, .non => some false | .non, .str _ => some false | .str _, .non => some false
 | .int i, .int j => some (decide (i = j)) | .bl i, .bl j => some (decide (i = j)) | .str i, .str j => some (decide (i = j))
 | .int _, .str _ => some false | .str _, .int _ => some false | .bl _, .str _ => some false | .str _, .bl _ => some false
 | _, _ => none
noncomputable def eqP (p q : PV) : Option PV := (scP p q).map .bl
noncomputable def neP (p q : PV) : Option PV := (scP p q).map fun b => .bl (!b)
theorem sc_ok {K : W.Frag} {ι : List Addr} {H : Hp} {p q : PV} {vx vy : V} {b : Bool} (lx : Lies K ι H p vx) (ly : Lies K ι H q vy) (e : scP p q = some b) : scal vx vy = true /\ decide (vx = vy) = b := by
  unfold scP at e
  split at e <;> first
    | (cases e; cases lx; cases ly; exact ⟨rfl, by simp⟩)
    | cases e
theorem Zb2 : L2ok X.K rEq eqP := by
 intro ι H C p q vx vy z Q cr lx ly e k
 unfold eqP at e
 cases hb : scP p q with
 | none => rw [hb] at e; cases e
 | some b =>
  rw [hb] at e; cases e
  obtain ⟨h1, h2⟩ := sc_ok lx ly hb
  exact ⟨h1, by rw [h2]; exact k _ H .refl cr repBl⟩
theorem ne_ok : L2ok X.K rNe neP := by
 intro ι H C p q vx vy z Q cr lx ly e k
 unfold neP at e
 cases hb : scP p q with
 | none => rw [hb] at e; cases e
 | some b =>
  rw [hb] at e; cases e
  obtain ⟨h1, h2⟩ := sc_ok lx ly hb
  exact ⟨h1, by rw [h2]; exact k _ H .refl cr repBl⟩
noncomputable def ixP : PV -> PV -> Option PV
 | .lst xs, .int i => atI xs i
 | .tup xs, .int i => atI xs i
 | .str z, .int i => (atI z.cps.toList i).map fun c => .str ⟨#[c]⟩
 | _, _ => none
theorem atI_rep {K : W.Frag} {ι : List Addr} {H : Hp} {ps : List PV} {vs : List V} {i : Int} {z : PV} (r : Reps K ι H ps vs) (e : atI ps i = some z) : ∃ v, atI vs i = some v /\ Rep K ι H z v := by
 unfold atI at e ⊢
 rw [← r.length]
 cases h : ixN ps.length i with
 | none => rw [h] at e; cases e
 | some j => rw [h] at e; exact r.get e
theorem ix_ok : L2ok X.K (rIx X.K) ixP := by
 intro ι H C p q vx vy z Q cr lx ly e k
 unfold ixP at e
 split at e
 ·obtain ⟨a, vs, rfl, h1, r1⟩ := liesL lx
  cases ly
  obtain ⟨v, e1, r⟩ := atI_rep r1 e
  exact .inl ⟨a, vs, _, v, rfl, rfl, h1, e1, k v H .refl cr r⟩
 ·obtain ⟨a, vs, rfl, h1, r1⟩ := liesT lx
  cases ly
  obtain ⟨v, e1, r⟩ := atI_rep r1 e
  exact .inr (.inl ⟨a, vs, _, v, rfl, rfl, h1.sq, e1, k v H .refl cr r⟩)
 ·obtain ⟨rfl, hz⟩ := liesS lx
  cases ly
  rename_i z' i
  cases hc : atI z'.cps.toList i with
  | none => rw [hc] at e; cases e
  | some c =>
   rw [hc] at e; cases e
   exact .inr (.inr ⟨_, _, c, rfl, rfl, hz, hc, k _ H .refl cr (repS (by show 1 <= sizeLine; rw [sizeLine_eq]; decide))⟩)
 ·cases e
noncomputable def tyN : PV -> Option String
 | .non => some "NoneType"
 | .bl _ => some "bool"
 | .int _ => some "int"
 | .str _ => some "str"
 | .tup _ => some "tuple"
 | .lst _ => some "list"
 | .dct _ _ => some "dict"
 | _ => none
noncomputable def isiP (p : PV) (n : String) : Option Bool := match tyN p with
 | none => none
 | some t => if n = "int" then some (t == "int" || t == "bool") else if n = "str" \/ n = "bool" \/ n = "tuple" \/ n = "list" \/ n = "dict" then some (t == n) else none
theorem kit_ok {K : W.Frag} {t n : String} {b : Bool} (ht : t = "NoneType" \/ t = "bool" \/ t = "int" \/ t = "str" \/ t = "tuple" \/ t = "list" \/ t = "dict") (hn : n = "int" \/ n = "str" \/ n = "bool" \/ n = "tuple" \/ n = "list" \/ n = "dict")
  (e : (if n = "int" then some (t == "int" || t == "bool") else if n = "str" \/ n = "bool" \/ n = "tuple" \/ n = "list" \/ n = "dict" then some (t == n) else none) = some b) : W.kitOne K (.type t) (.type n) = some b := by
 rcases ht with rfl | rfl | rfl | rfl | rfl | rfl | rfl <;> rcases hn with rfl | rfl | rfl | rfl | rfl | rfl <;> (simp at e; subst e; rfl)
end
inductive LiesAll (K : W.Frag) (ι : List Addr) (H : Hp) : List PV -> List V -> Prop
 | nil : LiesAll K ι H [] []
 | cons {p : PV} {v : V} {ps : List PV} {vs : List V} (h : Lies K ι H p v) (t : LiesAll K ι H ps vs) : LiesAll K ι H (p :: ps) (v :: vs)
noncomputable def derefs (C : Cs) : List SV -> Option (List PV)
 | [] => some []
 | x :: xs => match deref C x, derefs C xs with
  | some p, some ps => some (p :: ps)
  | _, _ => none
theorem ZbY {K : W.Frag} {ι : List Addr} {H : Hp} {C : Cs} (cr : CR K ι H C) : ∀ {xs : List SV} {ps : List PV} {vs : List V}, RepSs K ι H xs vs -> derefs C xs = some ps -> LiesAll K ι H ps vs
 | [], ps, vs, r, e => by cases e; rw [show vs = [] from r]; exact .nil
 | x :: xs, ps, vs, r, e => by
  obtain ⟨v, w, rfl, h1, h2⟩ := r
  unfold derefs at e
  split at e
  ·rename_i p qs hp hq
   cases e
   exact .cons (h1.lies cr hp) (ZbY cr h2 hq)
  ·cases e
noncomputable def g1 (h : List PV -> Option PV) : Cs -> List SV -> Option SV := fun C xs => match derefs C xs with
 | some ps => (h ps).map .v
 | none => none
noncomputable def L1ok (K : W.Frag) (r : List V -> Hp -> VK -> Prop) (h : List PV -> Option PV) : Prop :=
 ∀ (ι : List Addr) (H : Hp) (C : Cs) (ps : List PV) (vs : List V) (z : PV) (Q : VK), CR K ι H C -> LiesAll K ι H ps vs -> h ps = some z -> (∀ v H', Fr ι H H' -> CR K ι H' C -> Rep K ι H' z v -> Q v H') -> r vs H Q
theorem L1ok.c {K : W.Frag} {r : List V -> Hp -> VK -> Prop} {h : List PV -> Option PV} (k : L1ok K r h) : C1ok K r (g1 h) := by
 intro ι H C xs vs z Q cr rs e q
 unfold g1 at e
 cases hd : derefs C xs with
 | none => rw [hd] at e; cases e
 | some ps =>
  rw [hd] at e
  cases hz : h ps with
  | none => simp [hz] at e
  | some z2 =>
   simp [hz] at e
   subst e
   exact k ι H C ps vs z2 Q cr (ZbY cr rs hd) hz q
section
variable {X : Cx} {a b e c o : Expr} {es : List Expr} {fa fb fc fo : PSt -> M SV} {fs : PSt -> M (List SV)} {pos p apos cpos : Pos} {x : Str}
noncomputable def TyV (K : W.Frag) (H : Hp) (x : V) (t : String) : Prop := match x with
 | .non => t = "NoneType"
 | .bl _ => t = "bool"
 | .int _ => t = "int"
 | .str _ => t = "str"
 | .ref a => (t = "tuple" /\ ∃ vs, SqT K H a vs) \/ (t = "list" /\ ∃ vs, SqL K H a vs) \/ (t = "dict" /\ ∃ kvs, H a = some (.dK kvs))
 | _ => False
theorem call_isi : CallR X (.builtin "isinstance") (fun xs H Q => ∃ x n t b, xs = [x, .ty n] /\ TyV X.K H x t /\ W.kitOne X.K (.type t) (.type n) = some b /\ Q (.bl b) H) := by
 intro pins s σ H xs us Q I r h
 obtain ⟨x, n, t, b, rfl, ty, e, q⟩ := h
 obtain ⟨u, v, rfl, ru, rv⟩ := Vals.two r
 cases (show v = Value.type n from rv)
 have fin : ∀ tk, EP X pins σ Q (.bool b) { s with toks := tk } := fun tk => ⟨.bl b, H, I.tok tk, rfl, q⟩
 cases x with
 | non => cases (show t = "NoneType" from ty); exact Za9 I ru (TyOf.non) e fin
 | bl y => cases (show t = "bool" from ty); exact Za9 I ru (TyOf.bl y) e fin
 | int y => cases (show t = "int" from ty); exact Za9 I ru (TyOf.int y) e fin
 | str y => cases (show t = "str" from ty); exact Za9 I ru (TyOf.str y) e fin
 | ref a =>
  cases (show u = Value.ref a from ru)
  rcases (show _ from ty) with ⟨rfl, vs, h⟩ | ⟨rfl, vs, h⟩ | ⟨rfl, kvs, h⟩
  ·obtain ⟨its, _, ⟨o, h1, h2, _⟩, _⟩ := I.tuple h
   exact W.kia_one W.kitx_tuple I.kIn ⟨o, h1, h2⟩ e (fun z => nomatch z) fin
  ·obtain ⟨its, _, ⟨o, n, h1, h2, _⟩, _⟩ := I.list h
   exact W.kia_one W.kitx_list I.kIn ⟨o, h1, h2⟩ e (fun z => nomatch z) fin
  ·exact Za9 I ru (TyOf.dK h) e fin
 | _ => exact (show False from ty).elim
noncomputable def isiH : List PV -> Option PV
 | [p, .ty n] => (isiP p n).map .bl
 | _ => none
theorem isi_ok : L1ok X.K (fun xs H Q => ∃ x n t b, xs = [x, .ty n] /\ TyV X.K H x t /\ W.kitOne X.K (.type t) (.type n) = some b /\ Q (.bl b) H) isiH := by
 intro ι H C ps vs z Q cr ls e k
 unfold isiH at e
 split at e
 ·rename_i p n
  cases ls with
  | cons l1 ls => cases ls with
   | cons l2 ls =>
    cases ls
    cases l2
    cases hb : isiP p n with
    | none => rw [hb] at e; cases e
    | some b =>
     rw [hb] at e; cases e
     unfold isiP at hb
     cases ht : tyN p with
     | none => rw [ht] at hb; cases hb
     | some t =>
      rw [ht] at hb
      dsimp only at hb
      have hn : n = "int" \/ n = "str" \/ n = "bool" \/ n = "tuple" \/ n = "list" \/ n = "dict" := by
       by_cases h1 : n = "int"
       ·exact .inl h1
       ·rw [if_neg h1] at hb
        by_cases h2 : n = "str" \/ n = "bool" \/ n = "tuple" \/ n = "list" \/ n = "dict"
        ·exact .inr h2
        ·rw [if_neg h2] at hb; cases hb
      refine ⟨_, n, t, b, rfl, ?_, kit_ok ?_ hn hb, k _ H .refl cr repBl⟩
      ·cases l1 <;> (unfold tyN at ht; first | (cases ht; rfl) | (cases ht; exact .inl ⟨rfl, _, TpR.sq (by assumption)⟩) | (cases ht; exact .inr (.inl ⟨rfl, _, by assumption⟩)) | (cases ht; exact .inr (.inr ⟨rfl, _, by assumption⟩)) | cases ht)
      ·cases p <;> (unfold tyN at ht; first | (cases ht; simp) | cases ht)
 ·cases e
theorem em_isi (hgl : Gl X "isinstance") (hm : X.mg "isinstance" = none) (hv : bootBuiltins "isinstance" = some (.builtin "isinstance")) (ha : AM X (e :: es) fs)
  (he : starEach (e :: es) X.env = (false, eval e X.env) :: starEach es X.env := by rfl) (hpl : (backTo pos (starEach es X.env)).any (·.1) = false := by rfl) : EM X (.Call (.Name "isinstance" p) (e :: es) [] pos) (mCB (g1 isiH) fs) :=
 Zbh call_isi isi_ok.c hgl hm hv ha (by decide) (by decide) he hpl
noncomputable def lenH : List PV -> Option PV
 | [.str z] => some (.int z.length)
 | [.lst xs] => some (.int xs.length)
 | [.tup xs] => some (.int xs.length)
 | _ => none
theorem len_ok : L1ok X.K (fun xs H Q => ∃ x n, xs = [x] /\ LenV X.K x H n /\ Q (.int n) H) lenH := by
 intro ι H C ps vs z Q cr ls e k
 unfold lenH at e
 split at e
 ·cases e; cases ls with
  | cons l t => cases t; obtain ⟨rfl, hz⟩ := liesS l; exact ⟨_, _, rfl, ⟨hz, rfl⟩, k _ H .refl cr repI⟩
 ·cases e; cases ls with
  | cons l t => cases t; obtain ⟨a, ws, rfl, h1, r1⟩ := liesL l; exact ⟨_, _, rfl, .inl ⟨ws, h1, r1.length⟩, k _ H .refl cr repI⟩
 ·cases e; cases ls with
  | cons l t => cases t; obtain ⟨a, ws, rfl, h1, r1⟩ := liesT l; exact ⟨_, _, rfl, .inr ⟨ws, h1.sq, r1.length⟩, k _ H .refl cr repI⟩
 ·cases e
theorem em_len (hgl : Gl X "len") (hm : X.mg "len" = none) (ha : AM X (e :: es) fs)
  (he : starEach (e :: es) X.env = (false, eval e X.env) :: starEach es X.env := by rfl) (hpl : (backTo pos (starEach es X.env)).any (·.1) = false := by rfl) : EM X (.Call (.Name "len" p) (e :: es) [] pos) (mCB (g1 lenH) fs) :=
 Zbh call_len len_ok.c hgl hm PySem.boot_len ha (by decide) (by decide) he hpl
noncomputable def maxH : List PV -> Option PV
 | [.int i, .int j] => some (.int (if j > i then j else i))
 | _ => none
noncomputable def minH : List PV -> Option PV
 | [.int i, .int j] => some (.int (if j < i then j else i))
 | _ => none
theorem max_ok : L1ok X.K (fun xs H Q => ∃ i j, xs = [.int i, .int j] /\ Q (.int (if j > i then j else i)) H) maxH := by
 intro ι H C ps vs z Q cr ls e k
 unfold maxH at e
 split at e
 ·cases e; cases ls with
  | cons l t => cases t with
   | cons l2 t => cases t; cases l; cases l2; exact ⟨_, _, rfl, k _ H .refl cr repI⟩
 ·cases e
theorem min_ok : L1ok X.K (fun xs H Q => ∃ i j, xs = [.int i, .int j] /\ Q (.int (if j < i then j else i)) H) minH := by
 intro ι H C ps vs z Q cr ls e k
 unfold minH at e
 split at e
 ·cases e; cases ls with
  | cons l t => cases t with
   | cons l2 t => cases t; cases l; cases l2; exact ⟨_, _, rfl, k _ H .refl cr repI⟩
 ·cases e
theorem em_max (hc : X.calm = true) (hgl : Gl X "max") (hm : X.mg "max" = none) (hv : bootBuiltins "max" = some (.builtin "max")) (ha : AM X (e :: es) fs)
  (he : starEach (e :: es) X.env = (false, eval e X.env) :: starEach es X.env := by rfl) (hpl : (backTo pos (starEach es X.env)).any (·.1) = false := by rfl) : EM X (.Call (.Name "max" p) (e :: es) [] pos) (mCB (g1 maxH) fs) :=
 Zbh (call_max2 hc) max_ok.c hgl hm hv ha (by decide) (by decide) he hpl
theorem em_min (hc : X.calm = true) (hgl : Gl X "min") (hm : X.mg "min" = none) (hv : bootBuiltins "min" = some (.builtin "min")) (ha : AM X (e :: es) fs)
  (he : starEach (e :: es) X.env = (false, eval e X.env) :: starEach es X.env := by rfl) (hpl : (backTo pos (starEach es X.env)).any (·.1) = false := by rfl) : EM X (.Call (.Name "min" p) (e :: es) [] pos) (mCB (g1 minH) fs) :=
 Zbh (call_min2 hc) min_ok.c hgl hm hv ha (by decide) (by decide) he hpl
noncomputable def tupH : List PV -> Option PV
 | [.lst xs] => some (.tup xs)
 | [.tup xs] => some (.tup xs)
 | _ => none
theorem tup_ok : L1ok X.K (fun xs H Q => ∃ p ys, xs = [.ref p] /\ ((SqL X.K H p ys /\ ∀ l, H l = none -> Q (.ref l) (upd H l (.tup ys))) \/ (SqT X.K H p ys /\ Q (.ref p) H))) tupH := by
 intro ι H C ps vs z Q cr ls e k
 unfold tupH at e
 split at e
 ·cases e; cases ls with
  | cons l t => cases t; obtain ⟨a, ws, rfl, h1, r1⟩ := liesL l; exact ⟨a, ws, rfl, .inl ⟨h1, fun q hq => k _ _ (Fr.new hq) (cr.new hq) (new_tup hq r1)⟩⟩
 ·cases e; cases ls with
  | cons l t => cases t; obtain ⟨a, ws, rfl, h1, r1⟩ := liesT l; exact ⟨a, ws, rfl, .inr ⟨h1.sq, k _ H .refl cr (by unfold Rep; exact ⟨a, ws, rfl, h1, r1⟩)⟩⟩
 ·cases e
theorem em_tupc (hgl : Gl X "tuple") (hm : X.mg "tuple" = none) (hv : bootBuiltins "tuple" = some (.type "tuple")) (ha : AM X (e :: es) fs)
  (he : starEach (e :: es) X.env = (false, eval e X.env) :: starEach es X.env := by rfl) (hpl : (backTo pos (starEach es X.env)).any (·.1) = false := by rfl) : EM X (.Call (.Name "tuple" p) (e :: es) [] pos) (mCB (g1 tupH) fs) :=
 em_callTy call_tuple_of tup_ok.c hgl hm hv ha (by decide) (by decide) he hpl
noncomputable def listH (C : Cs) : List SV -> Option (List PV)
 | [x] => match deref C x with
  | some (.lst xs) => some xs
  | some (.tup xs) => some xs
  | _ => none
 | _ => none
noncomputable def mList (fs : PSt -> M (List SV)) : PSt -> M (List PV) := fun ρ => bnd (fs ρ) fun xs => opM fun C => listH C xs
theorem fm_listc (hgl : Gl X "list") (hm : X.mg "list" = none) (hv : bootBuiltins "list" = some (.type "list")) (ha : AM X (e :: es) fs)
  (he : starEach (e :: es) X.env = (false, eval e X.env) :: starEach es X.env := by rfl) (hpl : (backTo pos (starEach es X.env)).any (·.1) = false := by rfl) : FM X (.Call (.Name "list" p) (e :: es) [] pos) (mList fs) :=
 PE.imp (pe_callTy call_list_of hgl hm hv ha (by decide) (by decide) he hpl) fun σ H Q h_ => by
  obtain ⟨ι, ρ, C, z, C', sr, e, q⟩ := h_
  obtain ⟨xs, C1, e1, e⟩ := Zag e
  obtain ⟨e2, rfl⟩ := ZaF e
  refine ⟨ι, ρ, C, xs, _, sr, e1, fun vs H1 f1 c1 r1 => ?_⟩
  unfold listH at e2
  split at e2
  ·rename_i x
   obtain ⟨v, w, rfl, r1, hw⟩ := r1
   cases (show w = [] from hw)
   split at e2
   ·rename_i hd
    cases e2
    obtain ⟨a, ws, rfl, h1, r2⟩ := liesL (r1.lies c1 hd)
    exact ⟨a, ws, rfl, .inl h1, fun l hl => q l ws H1 f1 c1 hl r2⟩
   ·rename_i hd
    cases e2
    obtain ⟨a, ws, rfl, h1, r2⟩ := liesT (r1.lies c1 hd)
    exact ⟨a, ws, rfl, .inr h1.sq, fun l hl => q l ws H1 f1 c1 hl r2⟩
   ·cases e2
  ·cases e2
noncomputable def boolsP : List PV -> Option (List Bool)
 | [] => some []
 | .bl b :: r => (boolsP r).map (b :: ·)
 | _ :: _ => none
theorem bools_rep {K : W.Frag} {ι : List Addr} {H : Hp} : ∀ {ps : List PV} {vs : List V} {bs : List Bool}, Reps K ι H ps vs -> boolsP ps = some bs -> vs = bs.map V.bl
 | [], vs, bs, r, e => by cases e; rw [r.inv0]; rfl
 | p :: ps, vs, bs, r, e => by
  obtain ⟨v, w, rfl, h1, h2⟩ := r.inv
  cases p with
  | bl b =>
   unfold boolsP at e
   cases hb : boolsP ps with
   | none => rw [hb] at e; cases e
   | some cs =>
    rw [hb] at e; cases e
    have h1 : v = .bl b := by unfold Rep at h1; exact h1
    rw [h1, bools_rep h2 hb]; rfl
  | _ => cases e
noncomputable def allH : List PV -> Option PV
 | [.lst xs] => (boolsP xs).map fun bs => .bl (bs.all id)
 | _ => none
theorem all_ok : L1ok X.K (fun xs H Q => ∃ (a : Addr) (bs : List Bool), xs = [.ref a] /\ SqL X.K H a (bs.map V.bl) /\ Q (.bl (bs.all id)) H) allH := by
 intro ι H C ps vs z Q cr ls e k
 unfold allH at e
 split at e
 ·rename_i xs
  cases ls with
  | cons l t =>
   cases t
   obtain ⟨a, ws, rfl, h1, r1⟩ := liesL l
   cases hb : boolsP xs with
   | none => rw [hb] at e; cases e
   | some bs =>
    rw [hb] at e; cases e
    exact ⟨a, bs, rfl, by rw [← bools_rep r1 hb]; exact h1, k _ H .refl cr repBl⟩
 ·cases e
theorem em_all (hc : X.calm = true) (hgl : Gl X "all") (hm : X.mg "all" = none) (hv : bootBuiltins "all" = some (.builtin "all")) (ha : AM X (e :: es) fs)
  (he : starEach (e :: es) X.env = (false, eval e X.env) :: starEach es X.env := by rfl) (hpl : (backTo pos (starEach es X.env)).any (·.1) = false := by rfl) : EM X (.Call (.Name "all" p) (e :: es) [] pos) (mCB (g1 allH) fs) :=
 Zbh (call_all_bl hc) all_ok.c hgl hm hv ha (by decide) (by decide) he hpl
end
section
variable {X : Cx} {a b e c o i : Expr} {es : List Expr} {fa fb fc fo fi fv : PSt -> M SV} {fs : PSt -> M (List SV)} {pos p apos cpos : Pos} {x : Str}
noncomputable def isLst (x : SV) : M Unit := fun C => match x with
 | .c k => match C[k]? with
  | some (.lst _) => some ((), C)
  | _ => none
 | _ => none
theorem isLst_some {x : SV} {C C2 : Cs} (h : isLst x C = some ((), C2)) : C2 = C /\ ∃ k ps, x = .c k /\ C[k]? = some (.lst ps) := by
 unfold isLst at h
 split at h
 ·split at h
  ·rename_i k _ ps e; cases h; exact ⟨rfl, k, ps, rfl, e⟩
  ·cases h
 ·cases h
noncomputable def appC (x : SV) (ys : List SV) : M SV := fun C => match x, ys with
 | .c k, [.v p] => match C[k]? with
  | some (.lst ps) => if ps.length < 100000 then some (.v .non, C.set k (.lst (ps ++ [p]))) else none
  | _ => none
 | _, _ => none
theorem appC_some {x : SV} {ys : List SV} {C C2 : Cs} {r : SV} (h : appC x ys C = some (r, C2)) : ∃ k p ps, x = .c k /\ ys = [.v p] /\ C[k]? = some (.lst ps) /\ ps.length < 100000 /\ r = .v .non /\ C2 = C.set k (.lst (ps ++ [p])) := by
 unfold appC at h
 split at h
 ·split at h
  ·split at h
   ·cases h; exact ⟨_, _, _, rfl, rfl, by assumption, by assumption, rfl, rfl⟩
   ·cases h
  ·cases h
 ·cases h
noncomputable def mApp (fo : PSt -> M SV) (fs : PSt -> M (List SV)) : PSt -> M SV := fun ρ => bnd (fo ρ) fun x => bnd (isLst x) fun _ => bnd (fs ρ) fun ys => appC x ys
theorem ZbJ {K : W.Frag} {ι : List Addr} {H : Hp} {C : Cs} {k : Nat} {a : Addr} {ps : List PV} (cr : CR K ι H C) (hk : ι[k]? = some a) (hc : C[k]? = some (.lst ps)) : ∃ vs, H a = some (.lst vs) /\ Reps K ι H ps vs := cr.ok k a _ hk hc
theorem cr_set {K : W.Frag} {ι : List Addr} {H : Hp} {C : Cs} {k : Nat} {a : Addr} {ps : List PV} {vs : List V} (cr : CR K ι H C) (hk : ι[k]? = some a) (r : Reps K ι H ps vs) : CR K ι (upd H a (.lst vs)) (C.set k (.lst ps)) /\ Fr ι H (upd H a (.lst vs)) := by
 have fr : Fr ι H (upd H a (.lst vs)) := fun b u n e => by
  rw [Zav (fun z => n (by rw [z]; exact List.mem_of_getElem? hk))]; exact e
 exact ⟨cr.put hk ⟨vs, ZaV, Reps.mono cr fr _ _ r⟩, fr⟩
theorem em_append (ho : EM X o fo) (ha : AM X (e :: es) fs) (hbase : attributeBase o "append" X.env (eval o X.env) = eval o X.env := by rfl)
  (hfew : ((backTo cpos (starEach (e :: es) X.env)).all (fun x => !x.1) && (backToKw cpos (keywordEach [] X.env)).all (fun x => x.1.isSome)
   && decide ((e :: es).length + ([] : List Keyword).length + (if ([] : List Keyword).isEmpty then 0 else 1) < 30)) = true := by rfl)
  (hline : (apos.endLine == cpos.line) = true := by rfl) (hs : starEach (e :: es) X.env = (false, eval e X.env) :: starEach es X.env := by rfl) (hplain : (backTo cpos (starEach es X.env)).any (·.1) = false := by rfl) :
  EM X (.Call (.Attribute o "append" apos) (e :: es) [] cpos) (mApp fo fs) :=
 PE.imp (pe_bm PySem.F.plainAttrs_list PySem.F.slot_list_append PySem.F.type_list_append mt_append ho ha hbase hfew hline hs hplain) fun σ H Q h_ => by
  obtain ⟨ι, ρ, C, z, C', sr, e, q⟩ := h_
  obtain ⟨x, C1, e1, g1⟩ := Zag e
  obtain ⟨u, C2, e2, g2⟩ := Zag g1
  obtain ⟨ys, C3, e3, g3⟩ := Zag g2
  obtain ⟨hC, k, ps0, hx, hc0⟩ := isLst_some e2
  obtain ⟨k', p', ps, hx', hy, hc, hl, hr, hC'⟩ := appC_some g3
  clear e g1 g2 g3 e2
  subst hC hx hr hC' hy
  cases hx'
  refine ⟨ι, ρ, C, _, _, sr, e1, fun v H1 f1 c1 r1 => ?_⟩
  obtain ⟨a, rfl, hk⟩ := r1
  obtain ⟨vs0, h0, _⟩ := ZbJ c1 hk hc0
  refine ⟨.inl ⟨rfl, _, .of h0⟩, ι, ρ, _, _, C3, sr.step f1 c1, e3, fun ws H2 f2 c2 r2 => ?_⟩
  obtain ⟨w, wr, rfl, rw1, hw⟩ := r2
  cases (show wr = [] from hw)
  obtain ⟨vs, h1, rv⟩ := ZbJ c2 hk hc
  obtain ⟨c4, f4⟩ := cr_set c2 hk (rv.append (.cons rw1 .nil))
  exact ⟨a, vs, w, rfl, rfl, h1, by rw [← rv.length]; exact Nat.lt_of_lt_of_le hl (k100000 (Nat.le_refl _)), q _ _ (f1.trans (f2.trans f4)) c4 (show Rep _ _ _ _ _ from repN)⟩
noncomputable def setC (v o i : SV) (ρ : PSt) : M PF := fun C => match o, i, v with
 | .c k, .v (.int n), .v p => match C[k]? with
  | some (.lst ps) => match ixN ps.length n with
   | some j => some (.nx ρ, C.set k (.lst (ps.set j p)))
   | none => none
  | _ => none
 | _, _, _ => none
theorem setC_some {v o i : SV} {ρ : PSt} {C C2 : Cs} {fl : PF} (h : setC v o i ρ C = some (fl, C2)) : ∃ k n p ps j, o = .c k /\ i = .v (.int n) /\ v = .v p /\ C[k]? = some (.lst ps) /\ ixN ps.length n = some j /\ fl = .nx ρ /\ C2 = C.set k (.lst (ps.set j p)) := by
 unfold setC at h
 split at h
 ·split at h
  ·split at h
   ·cases h; exact ⟨_, _, _, _, _, rfl, rfl, rfl, by assumption, by assumption, rfl, rfl⟩
   ·cases h
  ·cases h
 ·cases h
noncomputable def mSetIx (fv fo fi : PSt -> M SV) : PSt -> M PF := fun ρ => bnd (fv ρ) fun v => bnd (fo ρ) fun o => bnd (fi ρ) fun i => setC v o i ρ
theorem sm_setix {spos : Pos} (hv : EM X e fv) (ho : EM X o fo) (hi : EM X i fi)
  (ha : ∀ v, assign (.Subscript o i spos) X.env v = (do
   let ov ← holding [v] (eval o X.env)
   let iv ← holding [v, ov] (eval i X.env)
   standAt spos
   holding [v, ov, iv] (setItem ov iv v)
   release [v, ov, iv] []) := by intro _; rfl)
  (hs : swapsWithSole [.Subscript o i spos] e pos.line X.env = pure false := by rfl) (hw : swappedStores [.Subscript o i spos] e X.env = pure none := by rfl)
  (h1 : (assignEach [.Subscript o i spos] X.env).map (·.2) = [assign (.Subscript o i spos) X.env] := by rfl) : SM X (.Assign [.Subscript o i spos] e pos) (mSetIx fv fo fi) :=
 PS.imp (ps_asg hv (pg_sub ho hi set_list ha) hs hw h1) fun D σ H h_ => by
  obtain ⟨ι, ρ, C, fl, C', sr, e, d⟩ := h_
  obtain ⟨v, C1, e1, g1⟩ := Zag e
  obtain ⟨o, C2, e2, g2⟩ := Zag g1
  obtain ⟨i, C3, e3, g3⟩ := Zag g2
  obtain ⟨k, n, p', ps, j, ho, hi, hv, hc, hj, hf, hC⟩ := setC_some g3
  clear e g1 g2 g3
  subst ho hi hv hf hC
  refine ⟨ι, ρ, C, _, C1, sr, e1, fun x H1 f1 c1 r1 => ⟨ι, ρ, C1, _, C2, sr.step f1 c1, e2, fun y H2 f2 c2 r2 => ⟨ι, ρ, C2, _, C3, (sr.step f1 c1).step f2 c2, e3, fun w H3 f3 c3 r3 => ?_⟩⟩⟩
  obtain ⟨a, rfl, hk⟩ := r2
  have r3 : w = .int n := by unfold RepS Rep at r3; exact r3
  obtain ⟨vs, h1, rv⟩ := ZbJ c3 hk hc
  have r1' : Rep X.K ι H3 p' x := Rep.mono c2 f3 _ _ (Rep.mono c1 f2 _ _ r1)
  obtain ⟨c4, f4⟩ := cr_set c3 hk (rv.set j r1')
  refine ⟨a, vs, n, j, rfl, r3, h1, by rw [← rv.length]; exact hj, ?_⟩
  exact Done.nx0 ((((sr.step f1 c1).step f2 c2).step f3 c3).step f4 c4) (d.fr c4 (f1.trans (f2.trans (f3.trans f4))))
noncomputable def itemsP : SV -> Option (List PV)
 | .v (.lst xs) => some xs
 | .v (.tup xs) => some xs
 | .v (.str z) => some (z.cps.toList.map fun c => .str ⟨#[c]⟩)
 | _ => none
noncomputable def mItems (f : PSt -> M SV) : PSt -> M (List PV) := fun ρ => bnd (f ρ) fun x => opM fun _ => itemsP x
theorem iter_list {K : W.Frag} {ι : List Addr} {H : Hp} {C : Cs} {a : Addr} {xs : List PV} {vs : List V} (cr : CR K ι H C) (h : LsR K ι H a vs) (r : Reps K ι H xs vs) : Iter K ι H xs (Itl K a) := by
 have keep : ∀ ι2 H2, Ex ι ι2 H H2 -> SqL K H2 a vs := fun ι2 H2 x => by
  rcases h with ⟨n, q | ⟨o, q⟩⟩ | q
  ·exact .inl (.inl (x.out _ _ n q).2)
  ·exact .inl (.inr ⟨o, (x.out _ _ n q).2⟩)
  ·exact .inr q
 refine ⟨fun ι2 H2 C2 x c i hi => ?_, fun ι2 H2 C2 x c i v H3 hi y => ?_, fun ι2 H2 C2 x c => ⟨vs, keep ι2 H2 x, by rw [r.length]; exact Nat.le_refl _⟩⟩
 ·obtain ⟨v, e, _⟩ := r.get (List.getElem?_eq_getElem hi)
  exact ⟨vs, v, keep ι2 H2 x, e⟩
 ·obtain ⟨rfl, y⟩ := y
  obtain ⟨p, hp, rp⟩ := r.get' (y vs (keep ι2 _ x))
  exact ⟨fun b o e => e, p, hp, Rep.tr cr x.out p v rp⟩
theorem iter_tup {K : W.Frag} {ι : List Addr} {H : Hp} {C : Cs} {a : Addr} {xs : List PV} {vs : List V} (cr : CR K ι H C) (h : SqT K H a vs) (r : Reps K ι H xs vs) : Iter K ι H xs (Itt K a) := by
 have keep : ∀ ι2 H2, Ex ι ι2 H H2 -> SqT K H2 a vs := fun ι2 H2 x => by
  rcases h with (q | ⟨o, q⟩) | q
  ·exact .inl (.inl (x.out _ _ (cr.notup q (fun _ e => nomatch e) fun _ e => nomatch e) q).2)
  ·exact .inl (.inr ⟨o, (x.out _ _ (cr.notup q (fun _ e => nomatch e) fun _ e => nomatch e) q).2⟩)
  ·exact .inr q
 refine ⟨fun ι2 H2 C2 x c i hi => ?_, fun ι2 H2 C2 x c i v H3 hi y => ?_, fun ι2 H2 C2 x c => ⟨vs, keep ι2 H2 x, by rw [r.length]; exact Nat.le_refl _⟩⟩
 ·obtain ⟨v, e, _⟩ := r.get (List.getElem?_eq_getElem hi)
  exact ⟨vs, v, keep ι2 H2 x, e⟩
 ·obtain ⟨rfl, y⟩ := y
  obtain ⟨p, hp, rp⟩ := r.get' (y vs (keep ι2 _ x))
  exact ⟨fun b o e => e, p, hp, Rep.tr cr x.out p v rp⟩
theorem iter_str {K : W.Frag} {ι : List Addr} {H : Hp} {z : Str} : Iter K ι H (z.cps.toList.map fun c => .str ⟨#[c]⟩) (Its z) := by
 refine ⟨fun ι2 H2 C2 x c i hi => by show i < z.cps.size; simpa using hi, fun ι2 H2 C2 x c i v H3 hi y => ?_, fun ι2 H2 C2 x c => by show _ = _; simp⟩
 obtain ⟨rfl, d, hd, rfl⟩ := y
 refine ⟨fun b o e => e, .str ⟨#[d]⟩, by simp [hd], ?_⟩
 exact repS (by show 1 <= sizeLine; rw [sizeLine_eq]; decide)
theorem iter_range {K : W.Frag} {ι : List Addr} {H : Hp} {lo : Int} {n : Nat} : Iter K ι H ((List.range n).map fun (k : Nat) => .int (lo + k)) (Itr lo n) := by
 refine ⟨fun ι2 H2 C2 x c i hi => by show i < n; simpa using hi, fun ι2 H2 C2 x c i v H3 hi y => ?_, fun ι2 H2 C2 x c => by show n <= _; simp⟩
 obtain ⟨rfl, rfl⟩ := y
 have hi' : i < n := by simpa using hi
 exact ⟨fun b o e => e, .int (lo + i), by simp [hi'], repI⟩
variable {tg l : Expr}
theorem im_val (hl : EM X l fa) : IM X tg l (mItems fa) := by
 intro pins s σ H R I h
 obtain ⟨ι, ρ, C, xs, C', sr, e, q⟩ := h
 obtain ⟨x, C1, e1, e⟩ := Zag e
 obtain ⟨e2, rfl⟩ := ZaF e
 refine thn (hl pins s σ H (fun v H1 => Fr ι H H1 /\ CR X.K ι H1 C' /\ RepS X.K ι H1 x v) I ⟨ι, ρ, C, x, C', sr, e1, fun v H1 f1 c1 r1 => ⟨f1, c1, r1⟩⟩) fun v s1 h_ => ?_
 obtain ⟨y, H1, I1, r1, f1, c1, rx⟩ := h_
 have fp : ∀ b ∈ [s1.heap.objs.size], FpOk X pins H1 b := fun b hb => by
  have e : b = s1.heap.objs.size := by simpa using hb
  subst e
  exact I1.fpOk (Nat.le_refl _) (I1.hok.fresh (Nat.le_refl _))
 unfold itemsP at e2
 split at e2
 ·cases e2
  have rx : Rep X.K ι H1 (.lst _) y := rx
  unfold Rep at rx
  obtain ⟨a, vs, rfl, hq, rv⟩ := rx
  cases r1
  obtain ⟨its, _, p, hz⟩ := I1.list hq.sq
  refine wpAny_pyIter_list p.isList ?_
  exact ⟨s1.heap.objs.size, [s1.heap.objs.size], _, _, H1, rfl, I1.kept (t' := s1.toks) fun b o e => Heap.get?_push_of_some _ e, turn_list a _, ⟨_, Heap.get?_push_size _ rfl, rfl, rfl⟩, fp, q _ H1 f1 c1 (iter_list c1 hq rv)⟩
 ·cases e2
  have rx : Rep X.K ι H1 (.tup _) y := rx
  unfold Rep at rx
  obtain ⟨a, vs, rfl, hq, rv⟩ := rx
  cases r1
  obtain ⟨its, _, p, hz⟩ := I1.tuple hq.sq
  refine wpAny_pyIter_tuple (show s1.heap.IsTuple a its.toArray from p) ?_
  exact ⟨s1.heap.objs.size, [s1.heap.objs.size], _, _, H1, rfl, I1.kept (t' := s1.toks) fun b o e => Heap.get?_push_of_some _ e, turn_tuple a _, ⟨_, Heap.get?_push_size _ rfl, rfl, rfl⟩, fp, q _ H1 f1 c1 (iter_tup c1 hq.sq rv)⟩
 ·cases e2
  have rx : Rep X.K ι H1 (.str _) y := rx
  rename Str => z
  unfold Rep at rx
  obtain ⟨rfl, hz⟩ := rx
  obtain ⟨t, rfl⟩ := r1
  cases ha : z.cps.all (· < 128)
  ·exact wpAny_pyIter_wide ha ⟨s1.heap.objs.size, [s1.heap.objs.size], _, _, H1, rfl, I1.kept (t' := s1.toks) fun b o e => Heap.get?_push_of_some _ e, turn_str (t := t) (.inr rfl), ⟨_, Heap.get?_push_size _ rfl, rfl, rfl⟩, fp, q _ H1 f1 c1 iter_str⟩
  ·exact wpAny_pyIter_ascii ha ⟨s1.heap.objs.size, [s1.heap.objs.size], _, _, H1, rfl, I1.kept (t' := s1.toks) fun b o e => Heap.get?_push_of_some _ e, turn_str (t := t) (.inl rfl), ⟨_, Heap.get?_push_size _ rfl, rfl, rfl⟩, fp, q _ H1 f1 c1 iter_str⟩
 ·cases e2
noncomputable def rng1P : List SV -> Option (List PV)
 | [.v (.int j)] => if -1000000 <= j /\ j <= 1000000 then some ((List.range j.toNat).map fun (k : Nat) => .int (0 + k)) else none
 | _ => none
noncomputable def mRange1 (fs : PSt -> M (List SV)) : PSt -> M (List PV) := fun ρ => bnd (fs ρ) fun xs => opM fun _ => rng1P xs
theorem rng1_some {xs : List SV} {ys : List PV} (h : rng1P xs = some ys) : ∃ j, xs = [.v (.int j)] /\ (-1000000 <= j /\ j <= 1000000) /\ ys = (List.range j.toNat).map fun (k : Nat) => .int (0 + k) := by
 unfold rng1P at h
 split at h
 ·split at h
  ·cases h; exact ⟨_, rfl, by assumption, rfl⟩
  ·cases h
 ·cases h
theorem im_range1 (hg : Gl X "range") (hm : X.mg "range" = none) (ha : AM X [a] fs) (hs : starEach [a] X.env = [(false, eval a X.env)] := by rfl) : IM X tg (.Call (.Name "range" p) [a] [] pos) (mRange1 fs) :=
 PI.imp (pi_range1 hg hm ha hs) fun σ H R h_ => by
  obtain ⟨ι, ρ, C, xs, C', sr, e, q⟩ := h_
  obtain ⟨zs, C1, e1, g1⟩ := Zag e
  obtain ⟨e2, hC⟩ := ZaF g1
  subst hC
  refine ⟨ι, ρ, C, zs, _, sr, e1, fun vs H1 f1 c1 r1 => ?_⟩
  obtain ⟨j, rfl, h, rfl⟩ := rng1_some e2
  obtain ⟨v, w, rfl, r1, hw⟩ := r1
  cases (show w = [] from hw)
  have r1 : v = .int j := by unfold RepS Rep at r1; exact r1
  subst r1
  exact ⟨j, rfl, by lia, by lia, q _ H1 f1 c1 iter_range⟩
end
section
variable {prog : Program} {w : World} {A : Around} {E : Value -> Shared -> Prop} {s : Shared}
theorem Zbk {t sl : Addr} {items : Array Value} {vl vu : Value} {lo hi : Option Int} {Q : Value -> Shared -> Prop} (ht : IsTup s.heap t items) (hs : s.heap.IsSliceOf sl vl vu .none) (pl : IsPart vl lo) (pu : IsPart vu hi)
  (hw : HT.sIx items.size 0 lo = 0 /\ HT.sIx items.size items.size hi = items.size) (h : Q (.ref t) s) : wpAny (model prog w) A (getItem (.ref t) (.ref sl)) Q E s := by
 obtain ⟨os, hos, hcs, hds⟩ := id hs
 have hTs : s.TypeIs (.ref sl) "slice" := ⟨os, hos, hcs⟩
 unfold getItem
 try with_reducible refine wpAny_holding ?_
 first | refine wpAny_bind (wpAny_pure ?_) | skip
 refine wpAny_bind (wpAny_sequenceKey ht.typeIs (by decide) ?_)
 refine wpAny_bind (wpAny_callSpecial?_slot (name := Str.ofString "__getitem__") ht.typeIs PyProof.Rows.slot_tuple_getitem
  (wpAny_call_entry PyProof.Rows.slot_tuple_getitem ht.typeIs entry_tuple_getitem ?_ (args_tuple_getitem _ _)))
 show wpAny _ _ (Builtin.Tuple.tupleItemsOf (.ref t) >>= _) _ _ s
 refine wpAny_bind (tupleItemsOf_ ht ?_)
 refine wpAny_bind (wpAny_typeOf hTs ?_)
 rw [if_pos (by decide)]
 refine wpAny_bind (HT.sliceApplied_gen hs pl pu ?_)
 have hyes : (((HT.sIx items.size 0 lo : Nat) : Int) == 0 && (1 : Int) == 1 && (HT.sIx items.size items.size hi - HT.sIx items.size 0 lo) == items.size) = true := by
  rw [hw.1, hw.2]; simp
 show wpAny _ _ (if (((HT.sIx items.size 0 lo : Nat) : Int) == 0 && (1 : Int) == 1 && (HT.sIx items.size items.size hi - HT.sIx items.size 0 lo) == items.size) = true then _ else _) _ _ s
 rw [if_pos hyes]
 unfold Builtin.Tuple.tupleIsExact
 refine wpAny_bind (wpAny_bind (wpAny_typeOf ht.typeIs (wpAny_pure ?_)))
 rw [if_pos (by decide)]
 refine wpAny_bind (wpAny_rule ?_)
 exact wpAny_bind (wpAny_pure (wpAny_pure ⟨_, rfl, wpAny_pure h⟩))
end
noncomputable def rSlTW (K : W.Frag) : V -> Option Int -> Option Int -> Hp -> VK -> Prop := fun x lo hi H Q => ∃ a xs, x = .ref a /\ SqT K H a xs /\ (HT.sIx xs.length 0 lo = 0 /\ HT.sIx xs.length xs.length hi = xs.length) /\ Q (.ref a) H
noncomputable def tMO (K : W.Frag) (f : PSt -> M (Option Int)) : TO := fun σ H Q => ∃ ι ρ C r C', SR K ι H ρ σ C /\ f ρ C = some (r, C') /\ ∀ H', Fr ι H H' -> CR K ι H' C' -> Q r H'
noncomputable def OM (X : Cx) (e : Option Expr) (f : PSt -> M (Option Int)) : Prop := PO X e (tMO X.K f)
noncomputable def oNo : PSt -> M (Option Int) := fun _ => ret none
noncomputable def intD (C : Cs) (x : SV) : Option (Option Int) := match deref C x with
 | some (.int i) => some (some i)
 | _ => none
noncomputable def oPart (f : PSt -> M SV) : PSt -> M (Option Int) := fun ρ => bnd (f ρ) fun x => opM fun C => intD C x
noncomputable def cutP (xs : List PV) (lo hi : Option Int) : List PV := (xs.drop (HT.sIx xs.length 0 lo)).take (HT.sIx xs.length xs.length hi - HT.sIx xs.length 0 lo)
noncomputable def sliceP (lo hi : Option Int) : PV -> Option PV
 | .lst xs => some (.lst (cutP xs lo hi))
 | .tup xs => some (.tup (cutP xs lo hi))
 | _ => none
noncomputable def sliceD (C : Cs) (x : SV) (lo hi : Option Int) : Option SV := match deref C x with
 | some p => (sliceP lo hi p).map .v
 | none => none
noncomputable def mSlice (f : PSt -> M SV) (l h : PSt -> M (Option Int)) : PSt -> M SV := fun ρ => bnd (f ρ) fun x => bnd (l ρ) fun lo => bnd (h ρ) fun hi => opM fun C => sliceD C x lo hi
theorem reps_cut {K : W.Frag} {ι : List Addr} {H : Hp} {ps : List PV} {vs : List V} (r : Reps K ι H ps vs) (lo hi : Option Int) : Reps K ι H (cutP ps lo hi) (cutV vs lo hi) := by
 unfold cutP cutV
 rw [r.length]
 exact (r.drop _).take _
theorem sliceD_some {C : Cs} {x z : SV} {lo hi : Option Int} (h : sliceD C x lo hi = some z) : (∃ xs, deref C x = some (.lst xs) /\ z = .v (.lst (cutP xs lo hi))) \/ ∃ xs, deref C x = some (.tup xs) /\ z = .v (.tup (cutP xs lo hi)) := by
 unfold sliceD at h
 split at h
 ·rename_i p hd
  cases p with
  | lst xs => cases h; exact .inl ⟨xs, hd, rfl⟩
  | tup xs => cases h; exact .inr ⟨xs, hd, rfl⟩
  | _ => cases h
 ·cases h
section
variable {X : Cx} {a b e c o i : Expr} {es : List Expr} {fa fb fc fo fi fv : PSt -> M SV} {fs : PSt -> M (List SV)} {pos p apos cpos p2 : Pos} {x : Str} {lo hi : Option Expr} {l h : PSt -> M (Option Int)}
theorem PO.imp {e : Option Expr} {t t' : TO} (h : PO X e t) (k : ∀ σ H Q, t' σ H Q -> t σ H Q) : PO X e t' := fun pins s σ H Q I q => h pins s σ H Q I (k σ H Q q)
theorem om_none : OM X none oNo := PO.imp po_none fun σ H Q h_ => by obtain ⟨ι, ρ, C, r, C', sr, e, q⟩ := h_; cases e; exact q H .refl sr.cr
theorem om_some (he : EM X e fa) : OM X (some e) (oPart fa) := PO.imp (po_some he) fun σ H Q h_ => by
 obtain ⟨ι, ρ, C, r, C', sr, e, q⟩ := h_
 obtain ⟨z, C1, e1, g1⟩ := Zag e
 obtain ⟨e2, hC⟩ := ZaF g1
 subst hC
 refine ⟨ι, ρ, C, z, _, sr, e1, fun v H1 f1 c1 r1 => ?_⟩
 unfold intD at e2
 split at e2
 ·rename_i j hd
  cases e2
  have l := r1.lies c1 hd
  cases l
  exact ⟨j, rfl, q H1 f1 c1⟩
 ·cases e2
theorem sl_tupW : SlR X (rSlTW X.K) := by
 intro pins s σ H x v vl vu lo hi sl Q I rx hs pl pu h
 obtain ⟨a, xs, rfl, hx, hw, q⟩ := h
 cases rx
 obtain ⟨its, r, ht, hz⟩ := I.tuple hx
 have hlen : its.toArray.size = xs.length := by rw [List.size_toArray]; exact r.length.symm
 exact ⟨"tuple", _, PyProof.Rows.slot_tuple_getitem.lookup, ht.typeIs, Zbk ht hs pl pu (by rw [hlen]; exact hw) ⟨.ref a, H, I, rfl, q⟩⟩
theorem cut_whole {xs : List PV} {lo hi : Option Int} (h : HT.sIx xs.length 0 lo = 0 /\ HT.sIx xs.length xs.length hi = xs.length) : cutP xs lo hi = xs := by
 unfold cutP; rw [h.1, h.2]; simp
theorem em_slice (he : EM X e fa) (hl : OM X lo l) (hh : OM X hi h) : EM X (.Subscript e (.Slice lo hi none p2) pos) (mSlice fa l h) :=
 PE.imp (pe_slice (SlR.or sl_list (SlR.or sl_tup sl_tupW)) he hl hh) fun σ H Q h_ => by
  obtain ⟨ι, ρ, C, z, C', sr, e, q⟩ := h_
  obtain ⟨x, C1, e1, g1⟩ := Zag e
  obtain ⟨i, C2, e2, g2⟩ := Zag g1
  obtain ⟨j, C3, e3, g3⟩ := Zag g2
  obtain ⟨e4, hC⟩ := ZaF g3
  subst hC
  clear e g1 g2 g3
  refine ⟨ι, ρ, C, x, C1, sr, e1, fun v H1 f1 c1 r1 => ⟨ι, ρ, C1, i, C2, sr.step f1 c1, e2, fun H2 f2 c2 => ⟨ι, ρ, C2, j, _, (sr.step f1 c1).step f2 c2, e3, fun H3 f3 c3 => ?_⟩⟩⟩
  have fr := f1.trans (f2.trans f3)
  have r3 := (r1.mono c1 f2).mono c2 f3
  rcases sliceD_some e4 with ⟨xs, hd, rfl⟩ | ⟨xs, hd, rfl⟩
  ·obtain ⟨a, vs, rfl, h1, rv⟩ := liesL (r3.lies c3 hd)
   exact .inl ⟨a, vs, rfl, h1, fun p hp => q _ _ (fr.trans (Fr.new hp)) (c3.new hp) (show Rep _ _ _ _ _ from new_val c3 hp (reps_cut rv i j))⟩
  ·obtain ⟨a, vs, rfl, h1, rv⟩ := liesT (r3.lies c3 hd)
   by_cases hw : HT.sIx vs.length 0 i = 0 /\ HT.sIx vs.length vs.length j = vs.length
   ·refine .inr (.inr ⟨a, vs, rfl, h1.sq, hw, ?_⟩)
    rw [← rv.length] at hw
    rw [cut_whole hw] at q
    exact q _ H3 fr c3 (show Rep _ _ _ _ _ by unfold Rep; exact ⟨a, vs, rfl, h1, rv⟩)
   ·exact .inr (.inl ⟨a, vs, rfl, h1.sq, hw, fun p hp => q _ _ (fr.trans (Fr.new hp)) (c3.new hp) (show Rep _ _ _ _ _ from new_tup hp (reps_cut rv i j))⟩)
noncomputable def flatP : PV -> Bool
 | .non => true
 | .bl _ => true
 | .int _ => true
 | .str _ => true
 | _ => false
noncomputable def eqF : PV -> PV -> Bool
 | .non, .non => true
 | .bl a, .bl b => a == b
 | .bl a, .int b => (if a then 1 else 0) == b
 | .int a, .bl b => a == (if b then 1 else 0)
 | .int a, .int b => a == b
 | .str a, .str b => a == b
 | _, _ => false
noncomputable def strIn (i j : Str) : Bool := !(Builtin.Str.occurrences j i 0 j.length 1).isEmpty
noncomputable def inB (x : PV) : PV -> Option Bool
 | .str j => match x with
  | .str i => some (strIn i j)
  | _ => none
 | .lst xs => if flatP x && xs.all flatP then some (xs.any fun y => eqF y x) else none
 | .tup xs => if flatP x && xs.all flatP then some (xs.any fun y => eqF y x) else none
 | _ => none
noncomputable def inP (x y : PV) : Option PV := (inB x y).map .bl
theorem flat_rep {K : W.Frag} {ι : List Addr} {H : Hp} {q : PV} {v : V} (r : Lies K ι H q v) (h : flatP q = true) : flatV v = true := by cases r <;> first | rfl | cases h
theorem eqF_rep {K : W.Frag} {ι : List Addr} {H : Hp} {q r : PV} {v w : V} (h1 : Lies K ι H q v) (h2 : Lies K ι H r w) (f1 : flatP q = true) (f2 : flatP r = true) : eqV v w = eqF q r := by
 cases h1 <;> cases h2 <;> first | rfl | cases f1 | cases f2
theorem ZbX {K : W.Frag} {ι : List Addr} {H : Hp} {x : PV} {vx : V} (lx : Lies K ι H x vx) (fx : flatP x = true) : ∀ {ps : List PV} {vs : List V}, Reps K ι H ps vs -> ps.all flatP = true -> vs.all flatV = true /\ inV vx vs = ps.any fun y => eqF y x
 | [], vs, r, h => by rw [r.inv0]; exact ⟨rfl, rfl⟩
 | q :: ps, vs, r, h => by
  obtain ⟨v, w, rfl, h1, h2⟩ := r.inv
  rw [List.all_cons, Bool.and_eq_true] at h
  obtain ⟨k1, k2⟩ := ZbX lx fx h2 h.2
  refine ⟨by rw [List.all_cons, flat_rep (Rep.lies h1) h.1, k1]; rfl, ?_⟩
  unfold inV at k2 ⊢
  rw [List.any_cons, List.any_cons, k2, eqF_rep (Rep.lies h1) lx h.1 fx]
theorem in_ok : L2ok X.K (fun x y H Q => (∃ i j, x = .str i /\ y = .str j /\ Q (.bl (!(Builtin.Str.occurrences j i 0 j.length 1).isEmpty)) H) \/ rIn X.K false x y H Q) inP := by
 intro ι H C p q vx vy z Q cr lx ly e k
 unfold inP at e
 cases hb : inB p q with
 | none => rw [hb] at e; cases e
 | some b =>
  rw [hb] at e; cases e
  unfold inB at hb
  split at hb
  ·split at hb
   ·cases hb; cases lx; cases ly; exact .inl ⟨_, _, rfl, rfl, k _ H .refl cr repBl⟩
   ·cases hb
  ·split at hb
   ·rename_i xs hf
    cases hb
    rw [Bool.and_eq_true] at hf
    obtain ⟨a, vs, rfl, h1, rv⟩ := liesL ly
    obtain ⟨k1, k2⟩ := ZbX lx hf.1 rv hf.2
    exact .inr ⟨a, vs, rfl, .inl h1, flat_rep lx hf.1, k1, by rw [if_neg Bool.false_ne_true, k2]; exact k _ H .refl cr repBl⟩
   ·cases hb
  ·split at hb
   ·rename_i xs hf
    cases hb
    rw [Bool.and_eq_true] at hf
    obtain ⟨a, vs, rfl, h1, rv⟩ := liesT ly
    obtain ⟨k1, k2⟩ := ZbX lx hf.1 rv hf.2
    exact .inr ⟨a, vs, rfl, .inr h1.sq, flat_rep lx hf.1, k1, by rw [if_neg Bool.false_ne_true, k2]; exact k _ H .refl cr repBl⟩
   ·cases hb
  ·cases hb
theorem op_inAll : OpR X (compareOp .In) (fun x y H Q => (∃ i j, x = .str i /\ y = .str j /\ Q (.bl (!(Builtin.Str.occurrences j i 0 j.length 1).isEmpty)) H) \/ rIn X.K false x y H Q) := OpR.or op_in_str op_in_seq
noncomputable def tyP (T : String) : PV -> Bool
 | .str _ => T == "str"
 | .int _ => T == "int"
 | .lst _ => T == "list"
 | .dct _ _ => T == "dict"
 | _ => false
noncomputable def isTy (T : String) (x : SV) : M Unit := fun C => match deref C x with
 | some q => if tyP T q then some ((), C) else none
 | none => none
noncomputable def mtD (h : PV -> List PV -> Option PV) (C : Cs) (x : SV) (xs : List SV) : Option SV := match deref C x, derefs C xs with
 | some q, some ps => (h q ps).map .v
 | _, _ => none
noncomputable def mMt (T : String) (h : PV -> List PV -> Option PV) (fo : PSt -> M SV) (fs : PSt -> M (List SV)) : PSt -> M SV := fun ρ => bnd (fo ρ) fun x => bnd (isTy T x) fun _ => bnd (fs ρ) fun xs => opM fun C => mtD h C x xs
end
section
variable {X : Cx} {a b e c o i : Expr} {es : List Expr} {fa fb fc fo fi fv : PSt -> M SV} {fs : PSt -> M (List SV)} {pos p apos cpos p2 : Pos} {x : Str}
noncomputable def strsP : List PV -> Option (List Str)
 | [] => some []
 | .str b :: r => (strsP r).map (b :: ·)
 | _ :: _ => none
noncomputable def joinH : PV -> List PV -> Option PV
 | .str z, [.lst xs] => match strsP xs with
  | some ys => if (ys.map (·.length)).sum + ys.length * z.length <= 1000000 then some (.str (Txt.join z ys)) else none
  | none => none
 | _, _ => none
noncomputable def keyP : PV -> Option Key
 | .int i => some (.inl i)
 | .str z => some (.inr z)
 | _ => none
theorem keyP_kP (k : Key) : keyP (kP k) = some k := by cases k <;> rfl
noncomputable def lookP : List PV -> List PV -> Key -> Option PV
 | k :: ks, v :: vs, q => if keyP k = some q then some v else lookP ks vs q
 | _, _, _ => none
theorem look_rep {K : W.Frag} {ι : List Addr} {H : Hp} {q : Key} : ∀ {qs : List Key} {ps : List PV} {vs : List V}, qs.length = vs.length -> Reps K ι H ps vs ->
  (∀ z, lookP (qs.map kP) ps q = some z -> ∃ v, valV (qs.zip vs) q = some v /\ Rep K ι H z v) /\ (lookP (qs.map kP) ps q = none -> valV (qs.zip vs) q = none)
 | [], ps, vs, hl, r => by
  refine ⟨fun z h => ?_, fun _ => rfl⟩
  cases ps <;> cases h
 | k :: qs, [], vs, hl, r => by rw [r.inv0] at hl; cases hl
 | k :: qs, p :: ps, vs, hl, r => by
  obtain ⟨v, w, rfl, h1, h2⟩ := r.inv
  have ih := look_rep (q := q) (qs := qs) (ps := ps) (vs := w) (by simpa using hl) h2
  rw [List.map_cons, List.zip_cons_cons]
  unfold lookP
  rw [keyP_kP]
  by_cases h : k = q
  ·subst h
   rw [if_pos rfl, valV_pos (p := (k, v)) rfl]
   exact ⟨fun z e => by cases e; exact ⟨v, rfl, h1⟩, fun e => nomatch e⟩
  ·rw [if_neg (fun e => h (Option.some.inj e)), valV_neg (p := (k, v)) h]
   exact ih
theorem lies_key {K : W.Frag} {ι : List Addr} {H : Hp} {x : PV} {v : V} {q : Key} (l : Lies K ι H x v) (h : keyP x = some q) : v = kV q := by
 cases l <;> first | (cases h; rfl) | cases h
theorem liesD {K : W.Frag} {ι : List Addr} {H : Hp} {ks ps : List PV} {v : V} (l : Lies K ι H (.dct ks ps) v) : ∃ (a : Addr) (qs : List Key) (vs : List V), v = .ref a /\ ks = qs.map kP /\ H a = some (.dK (qs.zip vs)) /\ qs.length = vs.length /\ Reps K ι H ps vs := by
 cases l; exact ⟨_, _, _, rfl, rfl, by assumption, by assumption, by assumption⟩
noncomputable def rDGet : R2 := fun x y H Q => ∃ a v, x = .ref a /\ DGet H a y (some v) /\ Q v H
theorem ix_dict (hu : X.A.units + 1 < cLine) : IxR X rDGet := by
 intro value slice pins s σ H x y v u Q I rx ry h hs
 obtain ⟨a, w, rfl, g, q⟩ := h
 cases rx
 exact tail_any (dict_typeIs I g) PySem.F.slot_dict_getitem.lookup (d_getItem hu I g ry fun w' s' I' r' => ⟨w, H, I', r', q⟩) hs
noncomputable def ixQ (x y : PV) : Option PV := match x with
 | .dct ks vs => match keyP y with
  | some q => lookP ks vs q
  | none => none
 | x => ixP x y
theorem ixQ_ok : L2ok X.K (fun x y H Q => rIx X.K x y H Q \/ rDGet x y H Q) ixQ := by
 intro ι H C p q vx vy z Q cr lx ly e k
 unfold ixQ at e
 split at e
 ·rename_i ks vs
  split at e
  ·rename_i key hk
   obtain ⟨a, qs, ws, rfl, rfl, hd, hl, r⟩ := liesD lx
   obtain ⟨v, hv, rv⟩ := (look_rep hl r).1 z e
   rw [lies_key ly hk]
   exact .inr ⟨a, v, rfl, by rw [← hv]; exact DGet.k hd, k v H .refl cr rv⟩
  ·cases e
 ·exact .inl (ix_ok ι H C p q vx vy z Q cr lx ly e k)
theorem em_ixA (hu : X.A.units + 1 < cLine) (ha : EM X a fa) (hb : EM X b fb) (hs : PlainIx b := by exact fun _ _ => rfl) : EM X (.Subscript a b pos) (mOp (g2 ixQ) fa fb) := em_ix (IxR.or ix_seq (ix_dict hu)) ixQ_ok.r ha hb hs
noncomputable def PRel : List Str -> List V -> List (Value × Value) -> Prop
 | [], [], [] => True
 | k :: ks, v :: vs, (u, w) :: r => keyIs (.inr k) u = true /\ RelV v w /\ PRel ks vs r
 | _, _, _ => False
noncomputable def DP (X : Cx) (ks : List (Option Expr)) (es : List Expr) (keys : List Str) (t : TA) : Prop :=
 ∀ (pos : Pos) (pins : List (Addr × Obj)) (s : Shared) (σ : St) (H : Hp) (Q : List V -> Hp -> Prop), Inv X pins σ H s -> t σ H Q ->
  wpAny (model X.prog X.w) X.A (evalPairs (pairTrees ks es X.env pos)) (fun us s' => ∃ vs H', Inv X pins σ H' s' /\ PRel keys vs us /\ Q vs H') X.xe s
noncomputable def DM (X : Cx) (ks : List (Option Expr)) (es : List Expr) (keys : List Str) (f : PSt -> M (List SV)) : Prop := DP X ks es keys (tMA X.K f)
noncomputable def mDict (keys : List Str) (fs : PSt -> M (List SV)) : PSt -> M SV := fun ρ => bnd (fs ρ) fun xs => opM fun _ => (plain xs).map fun ps => .v (.dct (keys.map PV.str) ps)
end
structure TopD (K : W.Frag) (w : World) (d : Addr) (tab : List (Str × Addr)) : Prop where
 ex : ∃ (es : Array DictEntry) (n : Nat), K.lookup d = some ⟨.type "dict", none, .dict es n, #[]⟩ /\ W.KeysLit w.params es.toList /\ Paired (fun (p : Str × Addr) (e : DictEntry) => Value.isStrOf p.1 e.key = true /\ e.val = .ref p.2) tab es.toList
 lo : (d == sysModules) = false
theorem isStrOf_iff {x y : Str} {v : Value} (h : Value.isStrOf y v = true) : Value.isStrOf x v = decide (x = y) := by
 obtain ⟨t, rfl⟩ := Value.isStrOf_shape h
 by_cases e : x = y
 ·subst e; simp [Value.isStrOf]
 ·have : ¬ (y = x) := fun z => e z.symm
  simp [Value.isStrOf, e, this]
theorem tab_find {x : Str} : ∀ {tab : List (Str × Addr)} {es : List DictEntry}, Paired (fun (p : Str × Addr) (e : DictEntry) => Value.isStrOf p.1 e.key = true /\ e.val = .ref p.2) tab es ->
    (es.find? fun d => Value.isStrOf x d.key).map (·.val) = (tab.lookup x).map Value.ref
  | _, _, .nil => rfl
  | (k, f) :: tab, e :: es, .cons h t => by
    have ih := tab_find (x := x) t
    rw [List.find?_cons, List.lookup_cons, isStrOf_iff h.1]
    by_cases hx : x = k
    · subst hx
      rw [decide_eq_true rfl, beq_self_eq_true]
      simp [h.2]
    · rw [decide_eq_false hx, beq_eq_false_iff_ne.mpr hx]
      exact ih
theorem TopD.map {K : W.Frag} {w : World} {d : Addr} {tab : List (Str × Addr)} (T : TopD K w d tab) (prog : Program) {h : Heap} (X : K.In h) : h.MapOf (strKind prog w) d (fun k => (tab.lookup k).map Value.ref) := by
 obtain ⟨es, n, hl, hk, hp⟩ := T.ex
 have m := W.mapOf_K (prog := prog) X hl hk
 have e : (fun k => findBy Value.isStrOf es k) = fun k => (tab.lookup k).map Value.ref := by
  funext k
  rw [← tab_find hp]
  obtain ⟨l⟩ := es
  unfold findBy
  rw [List.find?_toArray]
 rw [← e]; exact m
section
variable {X : Cx} {a b e c o i : Expr} {es : List Expr} {fa fb fc fo fi fv : PSt -> M SV} {fs : PSt -> M (List SV)} {pos p apos cpos p2 : Pos} {x : Str} {d : Addr} {tab : List (Str × Addr)}
theorem em_top (hg : Gl X x) (hm : X.mg x = some (.ref d)) (hd : (x == ("__debug__" : Str)) = false := by decide) : EM X (.Name x pos) (mC (.fn d)) :=
 Za3 (pe_glob (v := .ref d) hg hm rfl hd) fun ι H => by unfold Rep; rfl
noncomputable def topG (d : Addr) (tab : List (Str × Addr)) (C : Cs) (x y : SV) : Option SV := match x, deref C y with
 | .v (.fn d'), some (.str k) => if d' = d then (tab.lookup k).map fun f => .v (.fn f) else none
 | _, _ => none
noncomputable def topI (d : Addr) (tab : List (Str × Addr)) (neg : Bool) (C : Cs) (x y : SV) : Option SV := match y, deref C x with
 | .v (.fn d'), some (.str k) => if d' = d then some (.v (.bl (if neg then !(tab.lookup k).isSome else (tab.lookup k).isSome))) else none
 | _, _ => none
theorem ix_top (T : TopD X.K X.w d tab) : IxR X (fun x y H Q => ∃ k f, x = .ref d /\ y = .str k /\ tab.lookup k = some f /\ Q (.ref f) H) := by
 intro value slice pins s σ H x y v u Q I rx ry h hs
 obtain ⟨k, f, rfl, rfl, hk, q⟩ := h
 cases rx
 obtain ⟨t, rfl⟩ := ry
 have m := T.map X.prog I.kIn
 exact tail_any m.typeIs slot_dict_getitem.lookup (wpAny_getItem_of (strKind_is X.prog X.w k t) m (by rw [hk]; rfl) ⟨.ref f, H, I.tok _, rfl, q⟩) hs
theorem topG_ok {K : W.Frag} : R2ok K (fun x y H Q => ∃ k f, x = .ref d /\ y = .str k /\ tab.lookup k = some f /\ Q (.ref f) H) (topG d tab) := by
 intro ι H C x y vx vy z Q cr rx ry e k
 unfold topG at e
 split at e
 ·rename_i d' key hy
  split at e
  ·rename_i hd
   subst hd
   cases hf : tab.lookup key with
   | none => rw [hf] at e; cases e
   | some f =>
    rw [hf] at e
    cases e
    have rx : vx = .ref d' := by unfold RepS Rep at rx; exact rx
    obtain ⟨rfl, _⟩ := liesS (ry.lies cr hy)
    exact ⟨key, f, rx, rfl, hf, k _ H .refl cr (by unfold RepS Rep; rfl)⟩
  ·cases e
 ·cases e
theorem em_topix (T : TopD X.K X.w d tab) (ha : EM X a fa) (hb : EM X b fb) (hs : PlainIx b := by exact fun _ _ => rfl) : EM X (.Subscript a b pos) (mOp (topG d tab) fa fb) := em_ix (ix_top T) topG_ok ha hb hs
theorem op_topnotin (T : TopD X.K X.w d tab) : OpR X (compareOp .NotIn) (fun x y H Q => ∃ k, y = .ref d /\ x = .str k /\ Q (.bl (!(tab.lookup k).isSome)) H) := by
 intro pins s σ H x y v u Q I rx ry h
 obtain ⟨k, rfl, rfl, q⟩ := h
 cases ry
 obtain ⟨t, rfl⟩ := rx
 refine wpAny_notIn_of (strKind_is X.prog X.w k t) T.lo (T.map X.prog I.kIn) ?_
 rw [Option.isSome_map]
 exact ⟨.bl _, H, I.tok _, rfl, q⟩
theorem topI_okN {K : W.Frag} : R2ok K (fun x y H Q => ∃ k, y = .ref d /\ x = .str k /\ Q (.bl (!(tab.lookup k).isSome)) H) (topI d tab true) := by
 intro ι H C x y vx vy z Q cr rx ry e k
 unfold topI at e
 split at e
 ·rename_i d' key hy
  split at e
  ·rename_i hd
   subst hd
   cases e
   have ry : vy = .ref d' := by unfold RepS Rep at ry; exact ry
   obtain ⟨rfl, _⟩ := liesS (rx.lies cr hy)
   exact ⟨key, ry, rfl, k _ H .refl cr repB'⟩
  ·cases e
 ·cases e
noncomputable def callF (T : List (Addr × (List SV -> M SV))) (f : SV) (xs : List SV) : M SV := fun C => match f with
 | .v (.fn a) => match T.lookup a with
  | some F => F xs C
  | none => none
 | _ => none
noncomputable def mCallV (i : Nat) (T : List (Addr × (List SV -> M SV))) (fs : PSt -> M (List SV)) : PSt -> M SV := fun ρ => bnd (mVar i ρ) fun f => bnd (fs ρ) fun xs => callF T f xs
theorem callV_some {T : List (Addr × (List SV -> M SV))} {f : SV} {xs : List SV} {C C2 : Cs} {r : SV} (h : callF T f xs C = some (r, C2)) : ∃ a F, f = .v (.fn a) /\ T.lookup a = some F /\ F xs C = some (r, C2) := by
 unfold callF at h
 split at h
 ·split at h
  ·exact ⟨_, _, rfl, by assumption, h⟩
  ·cases h
 ·cases h
theorem em_callV {k : Nat} {T : List (Addr × (List SV -> M SV))} (i : Nat) (hok : ∀ a F, T.lookup a = some F -> ∃ fd ps, FnOk X.prog X.w X.K X.mg X.base CX0 k a fd ps (liftSp X.K F) /\ W.keepIn X.K (.ref a) = true /\ L2.Binds X.K fd ps []) (hr : Room k X.A) (ha : AM X (e :: es) fs)
  (hN : X.N[i]? = some x := by rfl) (hv : Vis X.env.scope x := by first | exact Or.inl rfl | exact Or.inr (Or.inl rfl) | exact Or.inr (Or.inr rfl)) (hdb : (x == ("__debug__" : Str)) = false := by decide) (hcd : (x == ("__classdict__" : Str)) = false := by decide)
  (he : starEach (e :: es) X.env = (false, eval e X.env) :: starEach es X.env := by rfl) (hpl : (backTo pos (starEach es X.env)).any (·.1) = false := by rfl) :
  EM X (.Call (.Name x p) (e :: es) [] pos) (mCallV i T fs) := by
 intro pins s σ H Q I h_
 obtain ⟨ι, ρ, C, z, C', sr, e, q⟩ := h_
 obtain ⟨f, C1, e1, g1⟩ := Zag e
 obtain ⟨xs, C2, e2, g2⟩ := Zag g1
 obtain ⟨a, F, rfl, hT, e3⟩ := callV_some g2
 obtain ⟨fd, ps, G, hk, hb⟩ := hok a F hT
 refine wpAny_Call_Name_kw (thn (em_var i hN hv hdb hcd pins s σ H (fun v H1 => Fr ι H H1 /\ CR X.K ι H1 C1 /\ v = .ref a) I ⟨ι, ρ, C, _, C1, sr, e1, fun v H1 f1 c1 r1 => ⟨f1, c1, by unfold RepS Rep at r1; exact r1⟩⟩) fun u s1 h_ => ?_)
 obtain ⟨v, H1, I1, r1, f1, c1, hv⟩ := h_
 subst hv
 cases r1
 refine W.callWith_K (h₀ := X.base) I.ok.mod.kin hk (thn (ha pos pins s1 σ H1 (fun vs H2 => Fr ι H1 H2 /\ CR X.K ι H2 C2 /\ RepSs X.K ι H2 xs vs) I1 ⟨ι, ρ, C1, xs, C2, sr.step f1 c1, e2, fun vs H2 f2 c2 r2 => ⟨f2, c2, r2⟩⟩) fun us s2 ⟨vs, H2, I2, r2, f2, c2, rs⟩ => ⟨I2.kIn, ?_⟩) he hpl
 refine run_fn (dvs := []) (ds := []) G hr hb .nil pass0 I2 r2 ?_
 rw [List.append_nil]
 exact ⟨ι, xs, C2, z, C', c2, rs, e3, fun v H3 f3 c3 r3 => q v H3 (f1.trans (f2.trans f3)) c3 r3⟩
theorem hv_of {T : List (Addr × (List SV -> M SV))} {Pd : Addr -> (List SV -> M SV) -> Prop} (h : ∀ q ∈ T, Pd q.1 q.2) : ∀ a F, T.lookup a = some F -> Pd a F := fun a F e => h (a, F) (ZaR e)
noncomputable def mDict0 : PSt -> M SV := fun _ => ret (.v (.dct [] []))
theorem fun_ne {K : W.Frag} {x1 x2 q1 q2 : Str} {s1 s2 : Stmt} {f1 f2 : Addr} {d1 d2 : FuncData} (F1 : Fun K x1 q1 s1 f1 d1) (F2 : Fun K x2 q2 s2 f2 d2) (h : x1 ≠ x2) : f1 ≠ f2 := by
 obtain ⟨oc, od, kV, doc, pm, an, cdv, ct, osl, e1, l1, _⟩ := F1.ex
 obtain ⟨oc2, od2, kV2, doc2, pm2, an2, cdv2, ct2, osl2, e2, l2, _⟩ := F2.ex
 intro e
 subst e
 rw [l1] at l2
 injection l2 with l2
 injection l2 with _ _ l3 _
 injection l3 with l4
 rw [e1, e2] at l4
 exact h (congrArg FuncData.name l4)
end
end Pu
namespace Pu
open PySem PySem.Spec L2 PySem.SeqAt
open PyProof.Rows hiding St Fr
section
variable {X : Cx}
theorem hu64 {A : Around} {k : Nat} (hr : Room k A) : A.units + 64 < cLine := hr.units
end
end Pu
namespace Pu
open PySem PySem.Spec PySem.W PySem.Calls L2 PySem.SeqAt
open PyProof.Rows hiding St Fr
noncomputable def keysP : List PV -> Option (List Key)
 | [] => some []
 | p :: r => match keyP p, keysP r with
  | some k, some ks => some (k :: ks)
  | _, _ => none
section
variable {K : W.Frag} {ι : List Addr} {H : Hp}
theorem rep_key {x : PV} {v : V} {q : Key} (l : Rep K ι H x v) (h : keyP x = some q) : v = kV q := lies_key (Rep.lies l) h
theorem ZbN : ∀ {qs : List PV} {ws : List V} {k : List Key}, Reps K ι H qs ws -> keysP qs = some k -> ws = k.map kV
 | [], ws, k, r, e => by cases e; exact r.inv0
 | p :: qs, ws, k, r, e => by
  obtain ⟨v, w, rfl, h1, h2⟩ := r.inv
  unfold keysP at e
  split at e
  ·rename_i a b e1 e2
   cases e
   rw [rep_key h1 e1, ZbN h2 e2]; rfl
  ·cases e
theorem rep_tupKeys {qs : List PV} {k : List Key} {v : V} (r : Rep K ι H (.tup qs) v) (e : keysP qs = some k) : ∃ b, v = .ref b /\ H b = some (.tup (k.map kV)) := by
 unfold Rep at r
 obtain ⟨b, ws, rfl, h, rs⟩ := r
 rw [ZbN rs e] at h
 exact ⟨b, rfl, h⟩
end
section
variable {X : Cx}
noncomputable def isBP : PV -> PV -> Option PV
 | .bl a, .bl b => some (.bl (a == b))
 | _, _ => none
theorem op_isB : OpR X (compareOp .Is) (fun x y H Q => ∃ a b, x = .bl a /\ y = .bl b /\ Q (.bl (a == b)) H) := by
 intro pins s σ H x y v u Q I rx ry h
 obtain ⟨a, b, rfl, rfl, q⟩ := h
 cases rx; cases ry
 cases a <;> cases b <;> exact wpAny_pure (Zaw I q rfl)
theorem isB_ok : L2ok X.K (fun x y H Q => ∃ a b, x = .bl a /\ y = .bl b /\ Q (.bl (a == b)) H) isBP := by
 intro ι H C p q vx vy z Q cr lx ly e k
 unfold isBP at e
 split at e
 ·cases e; cases lx; cases ly; exact ⟨_, _, rfl, rfl, k _ H .refl cr repBl⟩
 ·cases e
end
end Pu
namespace Se
open PySem PySem.Spec L2
noncomputable def ins {α : Type} [DecidableEq α] (acc : List α) (x : α) : List α := if x ∈ acc then acc else acc ++ [x]
noncomputable def fm {α : Type} [DecidableEq α] (l : List α) : List α := l.foldl ins []
section
variable {α : Type} [DecidableEq α]
noncomputable def isIn (x : α) (l : List α) : Bool := decide (x ∈ l)
theorem isIn_ins (y x : α) (l : List α) : isIn y (ins l x) = (isIn y l || decide (y = x)) := by
 unfold isIn ins
 by_cases q : x ∈ l
 ·rw [if_pos q]
  by_cases z : y = x
  ·subst z; simp [q]
  ·simp [z]
 ·rw [if_neg q]; simp [List.mem_append, Bool.decide_or]
theorem ins_len (l : List α) (x : α) : (ins l x).length = if isIn x l then l.length else l.length + 1 := by
 unfold isIn ins
 by_cases q : x ∈ l <;> simp [q]
theorem fm_snoc (l : List α) (x : α) : fm (l ++ [x]) = ins (fm l) x := by unfold fm; rw [List.foldl_append]; rfl
theorem fm_take {l : List α} {i : Nat} {x : α} (h : l[i]? = some x) : fm (l.take (i + 1)) = ins (fm (l.take i)) x := by
 rw [← fm_snoc]
 congr 1
 rw [List.take_succ, h]; rfl
theorem ins_length (acc : List α) (x : α) : (ins acc x).length <= acc.length + 1 := by unfold ins; split <;> simp
theorem Za4 : ∀ (l acc : List α), (l.foldl ins acc).length <= acc.length + l.length
 | [], acc => Nat.le_refl _
 | x :: l, acc => by
  have h1 := Za4 l (ins acc x)
  have h2 := ins_length acc x
  simp only [List.foldl_cons, List.length_cons]; lia
theorem fm_length (l : List α) : (fm l).length <= l.length := by have := Za4 l []; unfold fm; simpa using this
theorem Zbj (l : List α) (i : Nat) : (fm (l.take i)).length <= l.length := Nat.le_trans (fm_length _) (by rw [List.length_take]; exact Nat.min_le_right _ _)
end
section
variable {prog : Program} {w : World} {A : Around} {E : Value -> Shared -> Prop} {s : Shared}
noncomputable def JS (prog : Program) (w : World) (D : Addr) (ks : List Key) (i : Nat) (h : Heap) : Prop := h.SetOf (mixKind prog w) D (fun k => isIn k (fm (ks.take i))) (fm (ks.take i)).length
noncomputable def JT (prog : Program) (w : World) (D : Addr) (ks : List (List Key)) (as : List Addr) (i : Nat) (h : Heap) : Prop := SetT (mixKind prog w) h D (fm (ks.take i)) /\ ∀ (j : Nat) (k : List Key) (a : Addr), ks[j]? = some k -> as[j]? = some a -> a < D /\ IsTupleKey (mixKind prog w) h k a
theorem TI.fresh (led : Bool) : TI (.fresh 0 0 led) #[] := ⟨⟨.inl rfl, rfl, fun a b x y _ h => by simp [SetTable.fresh] at h, rfl, fun i j h => by simp [SetTable.fresh] at h, fun i j e h => by simp [SetTable.fresh] at h⟩, by show 0 * 5 < 7 * 3; decide⟩
theorem key_at {h h' : Heap} {ks : List Key} {a : Addr} (x : IsTupleKey (mixKind prog w) h ks a) (g : ∀ o, h.get? a = some o -> h'.get? a = some o) : IsTupleKey (mixKind prog w) h' ks a := by
 obtain ⟨o, items, n, e, r⟩ := x
 exact ⟨o, items, n, g o e, r⟩
theorem SetT.at {h h' : Heap} {a : Addr} {ks : List (List Key)} (x : SetT (mixKind prog w) h a ks) (g : ∀ b o, b <= a -> h.get? b = some o -> h'.get? b = some o) : SetT (mixKind prog w) h' a ks := by
 obtain ⟨o, es, ep, t, ho, hex, hd, T, nd, bs, h1, h2, h3⟩ := x
 exact ⟨o, es, ep, t, g _ _ (Nat.le_refl _) ho, hex, hd, T, nd, bs, h1, fun p hp => ⟨(h2 p hp).1, key_at (h2 p hp).2 fun o e => g _ _ (Nat.le_of_lt (h2 p hp).1) e⟩, h3⟩
theorem set_scalars {l : Addr} {its : List Value} {ks : List Key} {Q : Value -> Shared -> Prop} (hh : A.handled = none) (src : s.heap.IsList l its.toArray \/ s.heap.IsTuple l its.toArray) (hk : ks.length = its.length) (hi : ∀ (i : Nat) (v : Value) (k : Key), its[i]? = some v -> ks[i]? = some k -> (mixKind prog w).is k v = true /\ v.scannable = true) (hb : ks.length < 76)
  (h : ∀ h' tk, h'.SetOf (mixKind prog w) s.heap.objs.size (fun k => isIn k (fm ks)) (fm ks).length -> (∀ b o, b < s.heap.objs.size -> s.heap.get? b = some o -> h'.get? b = some o) -> Q (.ref s.heap.objs.size) { s with heap := h', toks := tk }) :
  wpAny (model prog w) A (call (.type "set") [.ref l]) Q E s := by
 have hsz : its.toArray.size = ks.length := by rw [List.size_toArray, hk]
 refine call_ (J := JS prog w s.heap.objs.size ks) hh src (fun led h' _ g => ?_) (fun A' i v s' Q E hu hlt hv j k => ?_) (fun i h1 h2 j k => ?_) fun h' tk j k => ?_
 ·exact ⟨_, #[], 0, _, g, ⟨rfl, rfl, rfl⟩, rfl, fun e he => by simp at he, fun k => by simp [fm, isIn], by decide, by rfl, rfl⟩
 ·have hik : i < ks.length := by rw [← hsz]; exact hlt
  obtain ⟨kk, ek⟩ : ∃ kk, ks[i]? = some kk := ⟨_, List.getElem?_eq_getElem hik⟩
  obtain ⟨h1, h2⟩ := hi i v kk (by rw [List.getElem?_toArray] at hv; exact hv) ek
  unfold setAdd
  refine wpAny_holding (wpAny_bind ((mixKind prog w).pyHash h1 ?_))
  have hl := Zbj ks i
  refine wpAny_setAddHashed_of (s := { s' with toks := s'.toks + 1 }) h1 h2 j (by unfold scanBound; lia) fun h' sb S' => k _ h' _ sb ?_ (Nat.le_succ _)
  unfold JS
  rw [fm_take ek]
  have e1 : (fun k' => isIn k' (ins (fm (ks.take i)) kk)) = fun k' => isIn k' (fm (ks.take i)) || decide (k' = kk) := funext fun k' => isIn_ins _ _ _
  rw [e1, ins_len]; exact S'
 ·obtain ⟨o, es, ep, t, ho, r⟩ := j
  exact ⟨o, es, ep, t, k _ _ (Nat.ne_of_lt (Nat.lt_succ_self _)) ho, r⟩
 ·refine h h' tk ?_ k
  unfold JS at j
  rw [hsz, List.take_length] at j; exact j
theorem set_tuples {l : Addr} {as : List Addr} {ks : List (List Key)} {Q : Value -> Shared -> Prop} (hh : A.handled = none) (hu : A.units + 16 < cLine) (src : s.heap.IsList l (as.map Value.ref).toArray \/ s.heap.IsTuple l (as.map Value.ref).toArray) (hk : ks.length = as.length) (hi : ∀ (i : Nat) (a : Addr) (k : List Key), as[i]? = some a -> ks[i]? = some k -> IsTupleKey (mixKind prog w) s.heap k a) (hb : ks.length < 76)
  (h : ∀ h' tk, SetT (mixKind prog w) h' s.heap.objs.size (fm ks) -> (∀ b o, b < s.heap.objs.size -> s.heap.get? b = some o -> h'.get? b = some o) -> Q (.ref s.heap.objs.size) { s with heap := h', toks := tk }) :
  wpAny (model prog w) A (call (.type "set") [.ref l]) Q E s := by
 have hsz : (as.map Value.ref).toArray.size = ks.length := by rw [List.size_toArray, List.length_map, hk]
 have lt : ∀ {k : List Key} {a : Addr}, IsTupleKey (mixKind prog w) s.heap k a -> a < s.heap.objs.size := fun ⟨o, _, _, g, _⟩ => Heap.lt_size g
 refine call_ (J := JT prog w s.heap.objs.size ks as) hh src (fun led h' old g => ⟨?_, fun j k a ek ea => ?_⟩) (fun A' i v s' Q E hu' hlt hv j k => ?_) (fun i h1 h2 j k => ⟨j.1.at fun b o hb e => k b o (Nat.ne_of_lt (Nat.lt_succ_of_le hb)) e, fun n kk a ek ea => ?_⟩) fun h' tk j k => ?_
 ·exact ⟨_, #[], 0, _, g, ⟨rfl, rfl, rfl⟩, rfl, TI.fresh led, by simp [fm], [], rfl, fun _ m => (nomatch m), .nil⟩
 ·have z := hi j a k ea ek
  exact ⟨lt z, key_at z fun o e => old _ _ (lt z) e⟩
 ·have hik : i < ks.length := by rw [← hsz]; exact hlt
  obtain ⟨kk, ek⟩ : ∃ kk, ks[i]? = some kk := ⟨_, List.getElem?_eq_getElem hik⟩
  rw [List.getElem?_toArray, List.getElem?_map] at hv
  obtain ⟨a, ea, rfl⟩ := Option.map_eq_some_iff.mp hv
  obtain ⟨h1, h2⟩ := j.2 i kk a ek ea
  unfold setAdd
  have room : A'.units < cLine := by lia
  refine wpAny_holding (wpAny_bind ((tupleKind (mixKind prog w)).pyHash room h2 ?_))
  have hl := Zbj ks i
  refine add_ (s := { s' with toks := s'.toks + (tupleKind (mixKind prog w)).draws kk }) room j.1 h2 h1 (by lia) fun h' sb S' => k _ h' _ sb ⟨?_, fun n k2 a2 ek2 ea2 => ?_⟩ (Nat.le_add_right _ _)
  ·rw [fm_take ek]
   by_cases q : kk ∈ fm (ks.take i)
   ·rw [if_pos q] at S'
    unfold ins; rw [if_pos q]; exact S'
   ·rw [if_neg q] at S'
    unfold ins; rw [if_neg q]; exact S'
  ·obtain ⟨z1, z2⟩ := j.2 n k2 a2 ek2 ea2
   exact ⟨z1, key_at z2 fun o e => (sb.2 a2 (Nat.ne_of_lt z1)).trans e⟩
 ·obtain ⟨z1, z2⟩ := j.2 n kk a ek ea
  exact ⟨z1, key_at z2 fun o e => k _ _ (Nat.ne_of_lt (Nat.lt_succ_of_lt z1)) e⟩
 ·refine h h' tk ?_ k
  have j1 := j.1
  rw [hsz, List.take_length] at j1; exact j1
end
end Se
namespace Pu
open PySem PySem.Spec PySem.W PySem.Calls L2 Se
open PyProof.Rows hiding St Fr
theorem boot_set_ : bootBuiltins "set" = some (.type "set") := by decide +kernel
noncomputable def Cnt (H : Hp) (ws : List V) (n : Int) : Prop :=
 (∃ ks : List Key, ws = ks.map kV /\ ks.length < 76 /\ n = ((fm ks).length : Int)) \/
 ∃ (ks : List (List Key)) (as : List Addr), ws = as.map V.ref /\ ks.length = as.length /\ (∀ (i : Nat) (a : Addr) (k : List Key), as[i]? = some a -> ks[i]? = some k -> H a = some (.tup (k.map kV))) /\ ks.length < 76 /\ n = ((fm ks).length : Int)
noncomputable def rLS (X : Cx) : List V -> Hp -> VK -> Prop := fun xs H Q => ∃ a ws n, xs = [.ref a] /\ (SqL X.K H a ws \/ SqT X.K H a ws) /\ Cnt H ws n /\ Q (.int n) H
theorem scalar_is {prog : Program} {w : World} {k : Key} {v : Value} (r : RelV (kV k) v) : (mixKind prog w).is k v = true /\ v.scannable = true := by
 have h := ZbU (P := prog) (w := w) (ks := [k]) (us := [v]) (.cons r .nil)
 cases h with
 | cons h _ =>
  refine ⟨h, ?_⟩
  cases k with
  | inl i => obtain ⟨t, rfl⟩ := (show ∃ t, v = .int i t from r); rfl
  | inr x => obtain ⟨t, rfl⟩ := (show ∃ t, v = .str x t from r); rfl
theorem Zb3 : ∀ {as : List Addr} {us : List Value}, Vals (as.map V.ref) us -> us = as.map Value.ref
 | [], _, .nil => rfl
 | a :: as, _, .cons r t => by cases (show _ = Value.ref a from r); rw [Zb3 t]; rfl
section
variable {X : Cx} {e : Expr} {t : TA} {fs : PSt -> M (List SV)} {p p2 pos pos2 : Pos}
theorem lenset_at (hcm : X.calm = true) (hu : X.A.units + 64 < cLine) {pins : List (Addr × Obj)} {s : Shared} {σ : St} {H : Hp} {xs : List V} {us : List Value} {Q : VK} (I : Inv X pins σ H s) (r : Vals xs us) (h : rLS X xs H Q) :
  wpAny (model X.prog X.w) X.A (call (.type "set") us) (fun v s1 => wpAny (model X.prog X.w) X.A (call (.builtin "len") [v]) (EP X pins σ Q) X.xe s1) X.xe s := by
 obtain ⟨a, ws, n, rfl, sq, cnt, q⟩ := h
 obtain ⟨u, rfl, ru⟩ := Vals.one r
 cases (show u = Value.ref a from ru)
 obtain ⟨its, vi, src⟩ : ∃ its : List Value, Vals ws its /\ (s.heap.IsList a its.toArray \/ s.heap.IsTuple a its.toArray) := by
  rcases sq with sq | sq
  ·obtain ⟨its, vi, ⟨o, n, h1, h2, h3, h4⟩, _⟩ := I.list sq
   exact ⟨its, vi, .inl ⟨o, h1, h2, n, h4⟩⟩
  ·obtain ⟨its, vi, ⟨o, h1, h2, n, h3⟩, _⟩ := I.tuple sq
   exact ⟨its, vi, .inr ⟨o, h1, h2, n, h3⟩⟩
 have hh := I.ok.hd hcm
 have fin : ∀ (h' : Heap) (tk : Nat) (m : Nat), (m : Int) = n -> (∀ b o, b < s.heap.objs.size -> s.heap.get? b = some o -> h'.get? b = some o) -> EP X pins σ Q (.int m tk) { s with heap := h', toks := tk + 1 } := fun h' tk m e k =>
  ⟨.int n, H, I.kept fun b o g => k b o (Heap.lt_size g) g, ⟨_, by rw [← e]⟩, q⟩
 rcases cnt with ⟨ks, rfl, hl, rfl⟩ | ⟨ks, as, rfl, hka, hk, hl, rfl⟩
 ·refine set_scalars hh src (by rw [← vi.length, List.length_map]) (fun i v k ev ek => ?_) hl fun h' tk S k => ?_
  ·obtain ⟨v', e', r'⟩ := vi.get (i := i) (x := kV k) (by rw [List.getElem?_map, ek]; rfl)
   rw [ev] at e'; cases e'
   exact scalar_is r'
  ·obtain ⟨o, es, ep, t, ho, hex, hd, _, _, hb, hf, hn⟩ := S
   refine call_len_set ho hex hd hf (by unfold scanBound at hb; lia) ?_
   rw [hn]; exact fin h' _ _ rfl k
 ·cases Zb3 vi
  refine set_tuples hh (by lia) src hka (fun i b k eb ek => key_of I.hok (hk i b k eb ek)) hl fun h' tk S k => ?_
  obtain ⟨o, es, ep, t, ho, hex, hd, T, _, bs, h1, _, hp⟩ := S
  have hn : es.size = (fm ks).length := by rw [← Array.length_toList, hp.length_eq, List.length_map, ← h1, List.length_map]
  have hm := T.mm.pos
  have hf := T.few
  refine call_len_set ho hex hd (T.fits (Nat.le_of_lt hf)) (by lia) ?_
  rw [hn]; exact fin h' _ _ rfl k
theorem pe_lenset (hcm : X.calm = true) (hu : X.A.units + 64 < cLine) (hgl : Gl X "len") (hml : X.mg "len" = none) (hgs : Gl X "set") (hms : X.mg "set" = none) (ha : PA X [e] t) (he : starEach [e] X.env = (false, eval e X.env) :: starEach [] X.env := by rfl) :
  PE X (.Call (.Name "len" p) [.Call (.Name "set" p2) [e] [] pos2] [] pos) (tCB (rLS X) t) := by
 intro pins s σ H Q I h
 refine wpAny_Call_Name_kw (Zb9 I hgl hml PySem.boot_len ?_ (by decide) (by decide))
 refine PyProof.Rows.callWith_builtin1 ?_ rfl rfl
 show wpAny _ _ (spliced ((false, eval (.Call (.Name "set" p2) [e] [] pos2) X.env) :: backTo pos (starEach [] X.env))) _ _ s
 refine Calls.spliced_cons ?_
 refine wpAny_Call_Name_kw (Zb9 I hgs hms boot_set_ ?_ (by decide) (by decide))
 refine PyProof.Rows.callWith_type1 (thn (ha pos2 pins s σ H _ I h) fun us s1 ⟨vs, H1, I1, r1, q1⟩ => ?_) he rfl
 refine thn (lenset_at hcm hu I1 r1 q1) fun v s2 q2 => ?_
 exact Calls.spliced_nil q2
end
noncomputable def tupKeysP : List PV -> Option (List (List Key))
 | [] => some []
 | .tup qs :: r => match keysP qs, tupKeysP r with
  | some k, some ks => some (k :: ks)
  | _, _ => none
 | _ :: _ => none
theorem ZbA {K : W.Frag} {ι : List Addr} {H : Hp} : ∀ {ps : List PV} {ws : List V} {ks : List (List Key)}, Reps K ι H ps ws -> tupKeysP ps = some ks ->
  ∃ as : List Addr, ws = as.map V.ref /\ ks.length = as.length /\ ∀ (i : Nat) (a : Addr) (k : List Key), as[i]? = some a -> ks[i]? = some k -> H a = some (.tup (k.map kV))
 | [], ws, ks, r, e => by cases e; rw [r.inv0]; exact ⟨[], rfl, rfl, fun i a k h => by simp at h⟩
 | p :: ps, ws, ks, r, e => by
  obtain ⟨v, w, rfl, h1, h2⟩ := r.inv
  unfold tupKeysP at e
  cases p with
  | tup qs =>
   dsimp only at e
   split at e
   ·rename_i k ks' e1 e2
    cases e
    obtain ⟨as, rfl, hl, h⟩ := ZbA h2 e2
    obtain ⟨b, rfl, hb⟩ := rep_tupKeys h1 e1
    refine ⟨b :: as, rfl, by simp [hl], fun i a k' ea ek => ?_⟩
    cases i with
    | zero => cases ea; cases ek; exact hb
    | succ i => exact h i a k' ea ek
   ·cases e
  | _ => cases e
noncomputable def lenSetL (ps : List PV) : Option PV := if ps.length < 76 then match keysP ps with
  | some ks => some (.int (fm ks).length)
  | none => match tupKeysP ps with
   | some ks => some (.int (fm ks).length)
   | none => none
 else none
noncomputable def lenSetH : List PV -> Option PV
 | [.lst ps] => lenSetL ps
 | [.tup ps] => lenSetL ps
 | _ => none
theorem ZbC : ∀ {ps : List PV} {ks : List Key}, keysP ps = some ks -> ks.length = ps.length
 | [], ks, e => by cases e; rfl
 | p :: ps, ks, e => by
  unfold keysP at e
  split at e
  ·rename_i a b e1 e2; cases e; simp [ZbC e2]
  ·cases e
theorem Za5 : ∀ {ps : List PV} {ks : List (List Key)}, tupKeysP ps = some ks -> ks.length = ps.length
 | [], ks, e => by cases e; rfl
 | p :: ps, ks, e => by
  unfold tupKeysP at e
  cases p with
  | tup qs =>
   dsimp only at e
   split at e
   ·rename_i a b e1 e2; cases e; simp [Za5 e2]
   ·cases e
  | _ => cases e
section
variable {X : Cx} {e : Expr} {fs : PSt -> M (List SV)} {p p2 pos pos2 : Pos}
theorem ZbT {K : W.Frag} {ι : List Addr} {H : Hp} {ps : List PV} {ws : List V} {z : PV} (r : Reps K ι H ps ws) (e : lenSetL ps = some z) : ∃ n, z = .int n /\ Cnt H ws n := by
 unfold lenSetL at e
 split at e
 ·rename_i hl
  split at e
  ·rename_i ks hk
   cases e
   exact ⟨_, rfl, .inl ⟨ks, ZbN r hk, by rw [ZbC hk]; exact hl, rfl⟩⟩
  ·split at e
   ·rename_i ks hk
    cases e
    obtain ⟨as, h1, h2, h3⟩ := ZbA r hk
    exact ⟨_, rfl, .inr ⟨ks, as, h1, h2, h3, by rw [Za5 hk]; exact hl, rfl⟩⟩
   ·cases e
 ·cases e
theorem lenSet_ok : L1ok X.K (rLS X) lenSetH := by
 intro ι H C ps vs z Q cr ls e k
 unfold lenSetH at e
 split at e
 ·cases ls with
  | cons l t =>
   cases t
   obtain ⟨a, ws, rfl, h1, r1⟩ := liesL l
   obtain ⟨n, rfl, c⟩ := ZbT r1 e
   exact ⟨a, ws, n, rfl, .inl h1, c, k _ H .refl cr repI⟩
 ·cases ls with
  | cons l t =>
   cases t
   obtain ⟨a, ws, rfl, h1, r1⟩ := liesT l
   obtain ⟨n, rfl, c⟩ := ZbT r1 e
   exact ⟨a, ws, n, rfl, .inr h1.sq, c, k _ H .refl cr repI⟩
 ·cases e
theorem em_lenset (hcm : X.calm = true) (hu : X.A.units + 64 < cLine) (hgl : Gl X "len") (hml : X.mg "len" = none) (hgs : Gl X "set") (hms : X.mg "set" = none) (ha : AM X [e] fs) (he : starEach [e] X.env = (false, eval e X.env) :: starEach [] X.env := by rfl) :
  EM X (.Call (.Name "len" p) [.Call (.Name "set" p2) [e] [] pos2] [] pos) (mCB (g1 lenSetH) fs) := PE.imp (pe_lenset hcm hu hgl hml hgs hms ha he) fun _ _ _ h => tM_CB lenSet_ok.c h
end
end Pu
namespace Pu
open PySem PySem.Spec PySem.W PySem.Calls L2
open PyProof.Rows hiding St Fr
noncomputable def mulSP (x y : PV) : Option PV := match x, y with
 | .str z, .int n => if z.length = 1 /\ n < 1000 /\ -1000 < n then some (.str (Txt.mul z n)) else none
 | _, _ => none
theorem foldl_app (c : Array Nat) : ∀ (k : Nat) (acc : Array Nat), ((List.replicate k c).foldl (· ++ ·) acc).toList = acc.toList ++ (List.replicate k c.toList).flatten
 | 0, acc => by simp
 | k + 1, acc => by
  rw [List.replicate_succ, List.foldl_cons, foldl_app c k, List.replicate_succ, List.flatten_cons, Array.toList_append, List.append_assoc]
theorem mulS_list {z : Str} {c : Nat} (hz : z.cps.toList = [c]) (n : Int) : (Txt.mul z n).cps.toList = List.replicate n.toNat c := by
 unfold Txt.mul
 by_cases h : n < 1
 ·rw [if_pos h, show n.toNat = 0 by lia]; rfl
 ·rw [if_neg h]
  have hl : z.length = 1 := by show z.cps.size = 1; rw [← Array.length_toList, hz]; rfl
  by_cases h1 : n = 1
  ·subst h1; simp [hz]
  ·rw [if_neg (by simp [h1, hl])]
   show ((List.replicate n.toNat z.cps).foldl (· ++ ·) #[]).toList = _
   rw [foldl_app, hz]
   simp [List.flatten_replicate_singleton]
theorem mulS_len {z : Str} (hz : z.length = 1) (n : Int) : (Txt.mul z n).length = n.toNat := by
 have : z.cps.toList.length = 1 := by rw [Array.length_toList]; exact hz
 obtain ⟨c, e⟩ : ∃ c, z.cps.toList = [c] := by
  match z.cps.toList, this with
  | [c], _ => exact ⟨c, rfl⟩
 show (Txt.mul z n).cps.size = _
 rw [← Array.length_toList, mulS_list e]; simp
section
variable {X : Cx} {a b e : Expr} {fa fb : PSt -> M SV} {pos p : Pos} {es : List Expr} {fs : PSt -> M (List SV)}
noncomputable def rMulS : R2 := fun x y H Q => ∃ z n, x = .str z /\ y = .int n /\ z.length = 1 /\ n < 1000 /\ -1000 < n /\ Q (.str (Txt.mul z n)) H
theorem op_mulS : OpR X (binaryOp .Mult) rMulS := by
 intro pins s σ H x y v u Q I rx ry h
 obtain ⟨z, n, rfl, rfl, hz, h1, h2, q⟩ := h
 obtain ⟨t, rfl⟩ := (show ∃ t, v = .str z t from rx)
 obtain ⟨t', rfl⟩ := (show ∃ t, u = .int n t from ry)
 refine SB.mul ⟨?_, fun g _ => ?_, fun g _ => ?_⟩ fun t2 k => ⟨.str (Txt.mul z n), H, I.tok _, ⟨_, rfl⟩, q⟩
 ·simp; lia
 ·rw [hz]
  have : (1 : Int) <= (2 ^ 63 - 1) / n := by
   rw [Int.le_ediv_iff_mul_le (by lia)]; lia
  lia
 ·have : z.length * n.toNat <= sizeLine := by rw [hz, sizeLine_eq]; lia
  exact decide_eq_false (Nat.not_lt.mpr this)
theorem mulS_ok : L2ok X.K rMulS mulSP := by
 intro ι H C p q vx vy z Q cr lx ly e k
 unfold mulSP at e
 split at e
 ·split at e
  ·rename_i s n hc
   cases e
   obtain ⟨rfl, hs⟩ := liesS lx
   cases ly
   refine ⟨_, _, rfl, rfl, hc.1, hc.2.1, hc.2.2, k _ H .refl cr ?_⟩
   unfold Rep
   exact ⟨rfl, by rw [mulS_len hc.1, sizeLine_eq]; lia⟩
  ·cases e
 ·cases e
theorem em_mulS (ha : EM X a fa) (hb : EM X b fb) : EM X (.BinOp a .Mult b pos) (mOp (g2 mulSP) fa fb) := em_op op_mulS mulS_ok.r ha hb
noncomputable def intsP : List PV -> Option (List Int)
 | [] => some []
 | .int i :: r => (intsP r).map (i :: ·)
 | _ :: _ => none
noncomputable def maxI : List Int -> Int
 | [] => 0
 | [i] => i
 | i :: r => if maxI r > i then maxI r else i
theorem maxI_ok : ∀ (ns : List Int), ns ≠ [] -> maxI ns ∈ ns /\ ∀ a ∈ ns, a <= maxI ns
 | [], h => absurd rfl h
 | [i], _ => ⟨.head _, fun a m => by rw [List.mem_singleton.mp m]; exact Int.le_refl _⟩
 | i :: j :: r, _ => by
  obtain ⟨h1, h2⟩ := maxI_ok (j :: r) (by simp)
  unfold maxI
  by_cases q : maxI (j :: r) > i
  ·rw [if_pos q]
   refine ⟨.tail _ h1, fun a m => ?_⟩
   rcases List.mem_cons.mp m with rfl | m
   ·lia
   ·exact h2 a m
  ·rw [if_neg q]
   refine ⟨.head _, fun a m => ?_⟩
   rcases List.mem_cons.mp m with rfl | m
   ·exact Int.le_refl _
   ·have := h2 a m; lia
noncomputable def maxLH : List PV -> Option PV
 | [.lst ps] => match intsP ps with
  | some (n :: ns) => some (.int (maxI (n :: ns)))
  | _ => none
 | _ => none
noncomputable def rMaxL (X : Cx) : List V -> Hp -> VK -> Prop := fun xs H Q => ∃ a ns, xs = [.ref a] /\ SqL X.K H a (ns.map V.int) /\ ns ≠ [] /\ Q (.int (maxI ns)) H
theorem Zcd : ∀ {ns : List Int} {its : List Value}, Vals (ns.map V.int) its -> ∃ xs : List (Int × Tok), its = xs.map (fun p => Value.int p.1 p.2) /\ xs.map (·.1) = ns
 | [], _, .nil => ⟨[], rfl, rfl⟩
 | n :: ns, _, .cons r t => by
  obtain ⟨k, rfl⟩ := (show ∃ k, _ = Value.int n k from r)
  obtain ⟨xs, rfl, h⟩ := Zcd t
  exact ⟨(n, k) :: xs, rfl, by simp [h]⟩
theorem call_maxL (hcm : X.calm = true) : CallR X (.builtin "max") (rMaxL X) := by
 intro pins s σ H xs us Q I r h
 obtain ⟨a, ns, rfl, sq, hne, q⟩ := h
 obtain ⟨u, rfl, ru⟩ := Vals.one r
 cases (show u = Value.ref a from ru)
 obtain ⟨its, vi, pl, _⟩ := I.list sq
 obtain ⟨ps, rfl, rfl⟩ := Zcd vi
 have hl : s.heap.IsList a (intItems ps.toArray) := by
  have := pl.isList
  rwa [show (ps.map fun p => Value.int p.1 p.2).toArray = intItems ps.toArray by simp [intItems]] at this
 have hsz : 0 < ps.toArray.size := by
  cases ps with
  | nil => exact absurd rfl hne
  | cons => simp
 refine max_intList (I.ok.hd hcm) hl hsz fun v h' tk hv kp => ?_
 obtain ⟨t, rfl⟩ := intItems_at hv
 obtain ⟨h1, h2⟩ := argBest_gt (numAt ps.toArray) (ps.toArray.size - 1)
 obtain ⟨m1, m2⟩ := maxI_ok _ hne
 generalize argBest _ (ps.toArray.size - 1) = j at h1 h2 ⊢
 have at_ : ∀ i, i < ps.length -> (ps.map (·.1))[i]? = some (numAt ps.toArray i) := fun i hi => by
  unfold numAt
  rw [List.getElem?_toArray, List.getElem?_map, List.getElem?_eq_getElem hi]; rfl
 have hj : j < ps.length := by simp at hsz h1; lia
 have e : numAt ps.toArray j = maxI (ps.map (·.1)) := by
  have le1 := m2 _ (List.mem_of_getElem? (at_ j hj))
  obtain ⟨i, hi, ei⟩ := List.getElem_of_mem m1
  have hi' : i < ps.length := by simpa using hi
  have := at_ i hi'
  rw [List.getElem?_eq_getElem hi, ei] at this
  have := Option.some.inj this
  have := h2 i (by simp; lia)
  lia
 rw [e]
 exact ⟨.int (maxI (ps.map (·.1))), H, I.kept kp, ⟨_, rfl⟩, q⟩
theorem Zb4 {K : W.Frag} {ι : List Addr} {H : Hp} : ∀ {ps : List PV} {ws : List V} {ns : List Int}, Reps K ι H ps ws -> intsP ps = some ns -> ws = ns.map V.int
 | [], ws, ns, r, e => by cases e; exact r.inv0
 | p :: ps, ws, ns, r, e => by
  obtain ⟨v, w, rfl, h1, h2⟩ := r.inv
  unfold intsP at e
  cases p with
  | int i =>
   obtain ⟨ns', e', rfl⟩ := Option.map_eq_some_iff.mp e
   rw [Zb4 h2 e']
   unfold Rep at h1
   rw [h1]; rfl
  | _ => cases e
theorem maxL_ok : L1ok X.K (rMaxL X) maxLH := by
 intro ι H C ps vs z Q cr ls e k
 unfold maxLH at e
 split at e
 ·split at e
  ·rename_i n ns hi
   cases e
   cases ls with
   | cons l t =>
    cases t
    obtain ⟨a, ws, rfl, h1, r1⟩ := liesL l
    refine ⟨a, n :: ns, rfl, ?_, by simp, k _ H .refl cr repI⟩
    rw [← Zb4 r1 hi]; exact h1
  ·cases e
 ·cases e
theorem em_maxL (hcm : X.calm = true) (hgl : Gl X "max") (hm : X.mg "max" = none) (hv : bootBuiltins "max" = some (.builtin "max")) (ha : AM X (e :: es) fs)
  (he : starEach (e :: es) X.env = (false, eval e X.env) :: starEach es X.env := by rfl) (hpl : (backTo pos (starEach es X.env)).any (·.1) = false := by rfl) : EM X (.Call (.Name "max" p) (e :: es) [] pos) (mCB (g1 maxLH) fs) :=
 Zbh (call_maxL hcm) maxL_ok.c hgl hm hv ha (by decide) (by decide) he hpl
noncomputable def revC (x : SV) : M SV := fun C => match x with
 | .c k => match C[k]? with
  | some (.lst ps) => some (.v .non, C.set k (.lst ps.reverse))
  | _ => none
 | _ => none
theorem revC_some {x : SV} {C C2 : Cs} {r : SV} (h : revC x C = some (r, C2)) : ∃ k ps, x = .c k /\ C[k]? = some (.lst ps) /\ r = .v .non /\ C2 = C.set k (.lst ps.reverse) := by
 unfold revC at h
 split at h
 ·split at h
  ·cases h; exact ⟨_, _, rfl, by assumption, rfl, rfl⟩
  ·cases h
 ·cases h
noncomputable def mRev (fo : PSt -> M SV) : PSt -> M SV := fun ρ => bnd (fo ρ) revC
theorem Reps.rev {K : W.Frag} {ι : List Addr} {H : Hp} : ∀ {ps : List PV} {vs : List V}, Reps K ι H ps vs -> Reps K ι H ps.reverse vs.reverse
 | [], vs, r => by rw [r.inv0]; exact .nil
 | p :: ps, vs, r => by
  obtain ⟨v, w, rfl, h1, h2⟩ := r.inv
  rw [List.reverse_cons, List.reverse_cons]
  exact (Reps.rev h2).append (.cons h1 .nil)
theorem em_rev {X : Cx} {o : Expr} {fo : PSt -> M SV} {apos cpos : Pos} (ho : EM X o fo) (hbase : attributeBase o "reverse" X.env (eval o X.env) = eval o X.env := by rfl) (hline : (apos.endLine == cpos.line) = true := by rfl) :
  EM X (.Call (.Attribute o "reverse" apos) [] [] cpos) (mRev fo) :=
 PE.imp (pe_bm0 PySem.F.plainAttrs_list PySem.F.slot_list_reverse PySem.F.type_list_reverse mt_reverse ho hbase hline) fun σ H Q h_ => by
  obtain ⟨ι, ρ, C, z, C', sr, e, q⟩ := h_
  obtain ⟨x, C1, e1, g1⟩ := Zag e
  obtain ⟨k, ps, rfl, hc, rfl, rfl⟩ := revC_some g1
  refine ⟨ι, ρ, C, _, _, sr, e1, fun v H1 f1 c1 r1 => ?_⟩
  obtain ⟨a, rfl, hk⟩ := r1
  obtain ⟨vs, h0, rv⟩ := ZbJ c1 hk hc
  obtain ⟨c4, f4⟩ := cr_set c1 hk rv.rev
  exact ⟨.inl ⟨rfl, _, .of h0⟩, a, vs, rfl, rfl, h0, q _ _ (f1.trans f4) c4 (show Rep _ _ _ _ _ from repN)⟩
end
end Pu
namespace Pu
open PySem PySem.Spec PySem.W PySem.Calls L2 PySem.SeqAt
open PyProof.Rows hiding St Fr
section
variable {X : Cx} {pos : Pos}
noncomputable def tPar3 (i j l : Nat) (ta : TA) : TS := fun D σ H => ta σ H fun vs H1 => ∃ u v w, vs = [u, v, w] /\ D.nx (((σ.set i (some u)).set j (some v)).set l (some w)) H1
theorem ps_par3 {i j l : Nat} {x y z : Str} {a b c : Expr} {ta : TA} {px py pz pt : Pos} {kt k2 pt2} (hc : X.calm = true) (hN : X.N.Nodup) (hi : X.N[i]? = some x) (hj : X.N[j]? = some y) (hl : X.N[l]? = some z) (hij : i ≠ j) (hil : i ≠ l) (hjl : j ≠ l)
  (hx : X.env.scope.names.lookup x = some .local) (hy : X.env.scope.names.lookup y = some .local) (hz : X.env.scope.names.lookup z = some .local) (ha : PA X [a, b, c] ta)
  (hw : swappedStores [.Tuple [.Name x px, .Name y py, .Name z pz] kt pt] (.Tuple [a, b, c] k2 pt2) X.env = pure (some [x, y, z]))
  (hs : swapsWithSole [.Tuple [.Name x px, .Name y py, .Name z pz] kt pt] (.Tuple [a, b, c] k2 pt2) pos.line X.env = pure false := by rfl) :
  PS X (.Assign [.Tuple [.Name x px, .Name y py, .Name z pz] kt pt] (.Tuple [a, b, c] k2 pt2) pos) (tPar3 i j l ta) := by
 intro pins s σ H D I h
 rw [exec_Assign_arm]; refine wpAny_bind (wpAny_standAt ?_); rw [hs]
 refine wpAny_bind (wpAny_pure ?_); rw [if_neg (by decide)]
 refine wpAny_bind (Tuple_ (thn (ha _ pins s σ H _ I h) fun us s1 h_ => ?_))
 obtain ⟨vs, H1, I1, r1, q1⟩ := h_
 obtain ⟨u, v, w, e1, q1⟩ := q1
 subst e1
 obtain ⟨u1, u2, u3, rfl, ru, rv, rw'⟩ : ∃ u1 u2 u3, us = [u1, u2, u3] /\ RelV u u1 /\ RelV v u2 /\ RelV w u3 := by
  cases r1 with
  | cons p q => cases q with
   | cons p' q' => cases q' with
    | cons p'' q'' => cases q''; exact ⟨_, _, _, rfl, p, p', p''⟩
 refine wpAny_newObj_type ?_ (by show 3 <= sizeLine; decide)
 have I2 : Inv X pins σ H1 { s1 with heap := s1.heap.push { cls := .type "tuple", data := .seq [u1, u2, u3].toArray } } := I1.kept (t' := s1.toks) fun b o e => Heap.get?_push_of_some _ e
 rw [hw]; refine wpAny_bind (wpAny_pure ?_)
 show wpAny (model X.prog X.w) X.A (do rule "assign.swapped-stores"; let items ← unpackItems (.ref s1.heap.objs.size) 3 none; assignInOrder [fun v => bindName X.env z v, fun v => bindName X.env y v, fun v => bindName X.env x v] items.reverse; pure Flow.next) _ _ _
 refine wpAny_bind (wpAny_rule (wpAny_bind (unpackItems_tuple (items := #[u1, u2, u3]) (I.ok.hd hc) (IsTup.new s1.heap _) fun h' hx' => ?_)))
 have I3 := I2.kept (h' := h') (t' := s1.toks) fun b o e => hx' b o (Nat.ne_of_lt (Heap.lt_size e)) e
 show wpAny _ _ (assignInOrder [fun v => bindName X.env z v, fun v => bindName X.env y v, fun v => bindName X.env x v] [u3, u2, u1] >>= fun _ => pure Flow.next) _ _ _
 refine wpAny_bind (assignInOrder_cons (wpAny_bindName (Zbl I3 hN hl (.inl hz) rw' (fun s2 I4 => ?_) (.inr hz))))
 refine assignInOrder_cons (wpAny_bindName (Zbl I4 hN hj (.inl hy) rv (fun s3 I5 => ?_) (.inr hy)))
 refine assignInOrder_cons (wpAny_bindName (Zbl I5 hN hi (.inl hx) ru (fun s4 I6 => assignInOrder_nil (wpAny_pure ?_)) (.inr hx)))
 have e : ((σ.set l (some w)).set j (some v)).set i (some u) = ((σ.set i (some u)).set j (some v)).set l (some w) := by
  rw [List.set_comm _ _ (Ne.symm hjl), List.set_comm _ _ (Ne.symm hil), List.set_comm _ _ (Ne.symm hij)]
 rw [e] at I6
 exact ⟨_, H1, I6, q1⟩
noncomputable def mPar3 (i j l : Nat) (fs : PSt -> M (List SV)) : PSt -> M PF := fun ρ => bnd (fs ρ) fun xs => match xs with
 | [x, y, z] => Pu.ret (.nx (((ρ.set i (some x)).set j (some y)).set l (some z)))
 | _ => fun _ => none
theorem sm_par3 {i j l : Nat} {x y z : Str} {a b c : Expr} {fs : PSt -> M (List SV)} {px py pz pt : Pos} {kt k2 pt2} (hc : X.calm = true) (hN : X.N.Nodup) (hi : X.N[i]? = some x) (hj : X.N[j]? = some y) (hl : X.N[l]? = some z) (hij : i ≠ j) (hil : i ≠ l) (hjl : j ≠ l)
  (hx : X.env.scope.names.lookup x = some .local) (hy : X.env.scope.names.lookup y = some .local) (hz : X.env.scope.names.lookup z = some .local) (ha : AM X [a, b, c] fs)
  (hw : swappedStores [.Tuple [.Name x px, .Name y py, .Name z pz] kt pt] (.Tuple [a, b, c] k2 pt2) X.env = pure (some [x, y, z]))
  (hs : swapsWithSole [.Tuple [.Name x px, .Name y py, .Name z pz] kt pt] (.Tuple [a, b, c] k2 pt2) pos.line X.env = pure false := by rfl) :
  SM X (.Assign [.Tuple [.Name x px, .Name y py, .Name z pz] kt pt] (.Tuple [a, b, c] k2 pt2) pos) (mPar3 i j l fs) := PS.imp (ps_par3 hc hN hi hj hl hij hil hjl hx hy hz ha hw hs) fun D σ H h_ => by
 obtain ⟨ι, ρ, C, fl, C', sr, e, d⟩ := h_
 obtain ⟨xs, C1, e1, e⟩ := Zag e
 refine ⟨ι, ρ, C, xs, C1, sr, e1, fun vs H1 f1 c1 r1 => ?_⟩
 split at e
 ·cases e
  obtain ⟨u, r, rfl, a0, r1⟩ := r1
  obtain ⟨v, r, rfl, a1, r1⟩ := r1
  obtain ⟨w, r, rfl, a2, r1⟩ := r1
  cases (show r = [] from r1)
  exact ⟨u, v, w, rfl, Done.nx0 ((((sr.step f1 c1).set i a0).set j a1).set l a2) (d.fr c1 f1)⟩
 ·cases e
end
end Pu
namespace Pu
open PySem PySem.Spec L2
open PyProof.Rows hiding St Fr
@[irreducible] noncomputable def QEM (X : Cx) (e : Expr) (f : PSt -> M SV) : Prop := EM X e f
theorem QEM_eq : @QEM = @EM := by unfold QEM; rfl
@[irreducible] noncomputable def QAM (X : Cx) (es : List Expr) (f : PSt -> M (List SV)) : Prop := AM X es f
theorem QAM_eq : @QAM = @AM := by unfold QAM; rfl
@[irreducible] noncomputable def QTMt (X : Cx) (e : Expr) (f : PSt -> M Bool) : Prop := TMt X e f
theorem QTMt_eq : @QTMt = @TMt := by unfold QTMt; rfl
@[irreducible] noncomputable def QWM (X : Cx) (e : Expr) (f : PSt -> M Bool) : Prop := WM X e f
theorem QWM_eq : @QWM = @WM := by unfold QWM; rfl
@[irreducible] noncomputable def QFM (X : Cx) (e : Expr) (f : PSt -> M (List PV)) : Prop := FM X e f
theorem QFM_eq : @QFM = @FM := by unfold QFM; rfl
@[irreducible] noncomputable def QSM (X : Cx) (st : Stmt) (f : PSt -> M PF) : Prop := SM X st f
theorem QSM_eq : @QSM = @SM := by unfold QSM; rfl
@[irreducible] noncomputable def QBM (X : Cx) (sts : List Stmt) (f : PSt -> M PF) : Prop := BM X sts f
theorem QBM_eq : @QBM = @BM := by unfold QBM; rfl
@[irreducible] noncomputable def QGM (X : Cx) (tg : Expr) (g : PV -> PSt -> Option PSt) : Prop := GM X tg g
theorem QGM_eq : @QGM = @GM := by unfold QGM; rfl
@[irreducible] noncomputable def QGMs (X : Cx) (ts : List Expr) (g : List PV -> PSt -> Option PSt) : Prop := GMs X ts g
theorem QGMs_eq : @QGMs = @GMs := by unfold QGMs; rfl
@[irreducible] noncomputable def QIM (X : Cx) (tg iter : Expr) (f : PSt -> M (List PV)) : Prop := IM X tg iter f
theorem QIM_eq : @QIM = @IM := by unfold QIM; rfl
@[irreducible] noncomputable def QTsM (X : Cx) (ifs : List Expr) (t : PSt -> M Bool) : Prop := TsM X ifs t
theorem QTsM_eq : @QTsM = @TsM := by unfold QTsM; rfl
@[irreducible] noncomputable def QOM (X : Cx) (e : Option Expr) (f : PSt -> M (Option Int)) : Prop := OM X e f
theorem QOM_eq : @QOM = @OM := by unfold QOM; rfl
@[irreducible] noncomputable def QDM (X : Cx) (ks : List (Option Expr)) (es : List Expr) (keys : List Str) (f : PSt -> M (List SV)) : Prop := DM X ks es keys f
theorem QDM_eq : @QDM = @DM := by unfold QDM; rfl
end Pu
local macro_rules
 | `(tactic| subst_eqs) => `(tactic| simp only [Pu.QEM_eq, Pu.QAM_eq, Pu.QTMt_eq, Pu.QWM_eq, Pu.QFM_eq, Pu.QSM_eq, Pu.QBM_eq, Pu.QGM_eq, Pu.QGMs_eq, Pu.QIM_eq, Pu.QTsM_eq, Pu.QOM_eq, Pu.QDM_eq] at *)
namespace Pu
open PySem PySem.Spec L2
open PyProof.Rows hiding St
theorem Zbi {X : Cx} {e : Expr} {f : PSt -> M Bool} (h : QWM X e f) : QTMt X e f := by
 subst_eqs; apply @WM.t <;> assumption
section
variable {X : Cx} {a b e c : Expr} {es : List Expr} {fa fb fc : PSt -> M SV} {pos p : Pos} {x : Str}
theorem Zab (i : Nat) {x : Str} {pos : Pos} (hN : X.N[i]? = some x := by rfl) (hv : Vis X.env.scope x := by first | exact Or.inl rfl | exact Or.inr (Or.inl rfl) | exact Or.inr (Or.inr rfl)) (hd : (x == ("__debug__" : Str)) = false := by decide)
  (hcd : (x == ("__classdict__" : Str)) = false := by decide) : QEM X (.Name x pos) (mVar i) := by
 subst_eqs; apply @em_var <;> assumption
theorem Zad {i j pos} : QEM X (.Constant (.int i) j pos) (mC (.int i)) := by
 subst_eqs; apply @em_int <;> assumption
theorem ZaG {i j pos} : QEM X (.Constant (.bool i) j pos) (mC (.bl i)) := by
 subst_eqs; apply @em_bl <;> assumption
theorem ZaW {i j pos} (h : i.length <= sizeLine := by decide +kernel) : QEM X (.Constant (.str i) j pos) (mC (.str i)) := by
 subst_eqs; apply @em_str <;> assumption
theorem ZaJ {i : Int} (hg : Gl X x) (hm : ∃ t, X.mg x = some (.int i t)) (hd : (x == ("__debug__" : Str)) = false := by decide) : QEM X (.Name x pos) (mC (.int i)) := by
 subst_eqs; apply @em_globI <;> assumption
theorem Zb7 {i : Str} (hg : Gl X x) (hm : ∃ t, X.mg x = some (.str i t)) (h : i.length <= sizeLine := by decide +kernel) (hd : (x == ("__debug__" : Str)) = false := by decide) : QEM X (.Name x pos) (mC (.str i)) := by
 subst_eqs; apply @em_globS <;> assumption
theorem Za0 {n : String} (hg : Gl X x) (hm : X.mg x = none) (hv : bootBuiltins x = some (.type n)) (hn : x ≠ "__name__" := by decide) (hd : (x == ("__debug__" : Str)) = false := by decide) : QEM X (.Name x pos) (mC (.ty n)) := by
 subst_eqs; apply @em_ty <;> assumption
theorem ZaD {op : CmpOp} {r : R2} {g : Cs -> SV -> SV -> Option SV} (ho : OpR X (compareOp op) r) (hg : R2ok X.K r g) (ha : QEM X a fa) (hb : QEM X b fb) (hm : behindInMarks op b = false) : QEM X (.Compare a [op] [b] pos) (mOp g fa fb) := by
 subst_eqs; apply @em_cmp <;> assumption
theorem Zbe {op op' : CmpOp} {r r' : R2} {g g' : Cs -> SV -> SV -> Option SV} (ho : OpR X (compareOp op) r) (ho' : OpR X (compareOp op') r') (hg : R2ok X.K r g) (hg' : R2ok X.K r' g') (ha : QEM X a fa) (hb : QEM X b fb) (hc : QEM X c fc)
  (hm : lastMarks [op, op'] [b, c] = false := by with_unfolding_all rfl) : QEM X (.Compare a [op, op'] [b, c] pos) (mChain g g' fa fb fc) := by
 subst_eqs; apply @em_chain <;> assumption
theorem ZaB {op : CmpOp} {r : R2} {g : Cs -> SV -> SV -> Option SV} (ho : OpR X (compareOp op) r) (hg : R2ok X.K r g) (ha : QEM X a fa) (hb : QEM X b fb) (hm : behindInMarks op b = false) : QTMt X (.Compare a [op] [b] pos) (mTest (mOp g fa fb)) := by
 subst_eqs; apply @tm_cmp <;> assumption
theorem q_tm_chain {op op' : CmpOp} {r r' : R2} {g g' : Cs -> SV -> SV -> Option SV} (ho : OpR X (compareOp op) r) (ho' : OpR X (compareOp op') r') (hg : R2ok X.K r g) (hg' : R2ok X.K r' g') (ha : QEM X a fa) (hb : QEM X b fb) (hc : QEM X c fc)
  (hm : lastMarks [op, op'] [b, c] = false := by with_unfolding_all rfl) : QTMt X (.Compare a [op, op'] [b, c] pos) (mTest (mChain g g' fa fb fc)) := by
 subst_eqs; apply @tm_chain <;> assumption
theorem Zan (ha : QEM X a fa) (he : ∀ whole, isTrue a X.env whole = (do let v ← whole; standAt a.pos; holding [v] (truthy v)) := by intro _; rfl) : QTMt X a (mTru fa) := by
 subst_eqs; apply @tm_tru <;> assumption
theorem Zao {f : PSt -> M Bool} (h : QTMt X a f) : QTMt X (.UnaryOp .Not a pos) (mNotT f) := by
 subst_eqs; apply @tm_not <;> assumption
theorem ZaN {f : PSt -> M Bool} (h : QTMt X a f) : QWM X (.BoolOp .Or [a] pos) f := by
 subst_eqs; apply @wm_or1 <;> assumption
theorem ZaH {rest : List Expr} {f g : PSt -> M Bool} (h : QTMt X a f) (k : QWM X (.BoolOp .Or (b :: rest) pos) g) : QWM X (.BoolOp .Or (a :: b :: rest) pos) (mOrT f g) := by
 subst_eqs; apply @wm_or <;> assumption
theorem ZaC {op} {f : PSt -> M SV} (h : QEM X a f) : QEM X (.BoolOp op [a] pos) f := by
 subst_eqs; apply @em_one <;> assumption
theorem Zas {rest : List Expr} {f g : PSt -> M SV} (h : QEM X a f) (k : QEM X (.BoolOp .And (b :: rest) pos) g) : QEM X (.BoolOp .And (a :: b :: rest) pos) (mAndV f g) := by
 subst_eqs; apply @em_and <;> assumption
theorem q_em_or {rest : List Expr} {f g : PSt -> M SV} (h : QEM X a f) (k : QEM X (.BoolOp .Or (b :: rest) pos) g) : QEM X (.BoolOp .Or (a :: b :: rest) pos) (mOrV f g) := by
 subst_eqs; apply @em_or <;> assumption
theorem q_em_not {f : PSt -> M SV} (h : QEM X a f) : QEM X (.UnaryOp .Not a pos) (mNotV f) := by
 subst_eqs; apply @em_not <;> assumption
theorem Zac : QAM X [] aNil := by
 subst_eqs; apply @am_nil <;> assumption
theorem Zaa {f : PSt -> M SV} {g : PSt -> M (List SV)} (h : QEM X e f) (k : QAM X es g) (hs : starEach (e :: es) X.env = (false, eval e X.env) :: starEach es X.env := by rfl) : QAM X (e :: es) (aCons f g) := by
 subst_eqs; apply @am_cons <;> assumption
theorem Zae {k : Nat} {f : Addr} {fd : FuncData} {ps : List Str} {F : List SV -> M SV} {fs : PSt -> M (List SV)} (G : FnOk X.prog X.w X.K X.mg X.base CX0 k f fd ps (liftSp X.K F)) (hr : Room k X.A) (hg : Gl X x) (hm : X.mg x = some (.ref f)) (hk : W.keepIn X.K (.ref f) = true) (hb : Binds X.K fd ps [])
  (ha : QAM X (e :: es) fs) (hdb : (x == ("__debug__" : Str)) = false := by decide) (he : starEach (e :: es) X.env = (false, eval e X.env) :: starEach es X.env := by rfl) (hpl : (backTo pos (starEach es X.env)).any (·.1) = false := by rfl) :
  QEM X (.Call (.Name x p) (e :: es) [] pos) (mFn F fs) := by
 subst_eqs; apply @em_call <;> assumption
end
section
variable {X : Cx} {a b e c tg : Expr} {es : List Expr} {st : Stmt} {rest sts sts' : List Stmt} {f g : PSt -> M PF} {pos p pos' : Pos} {x : Str}
theorem Zaq : QBM X [] mSkip := by
 subst_eqs; apply @bm_nil <;> assumption
theorem Zah (h : QSM X st f) : QBM X [st] f := by
 subst_eqs; apply @bm_one <;> assumption
theorem Zaf (h : QSM X st f) (k : QBM X rest g) : QBM X (st :: rest) (mSeq f g) := by
 subst_eqs; apply @bm_cons <;> assumption
theorem Zat {t : PSt -> M Bool} (hc : QTMt X c t) (h : QBM X sts f) (k : QBM X sts' g) : QSM X (.If c sts sts' pos) (mIfS t f g) := by
 subst_eqs; apply @sm_if <;> assumption
theorem Zai {f : PSt -> M SV} (h : QEM X e f) : QSM X (.Return (some e) pos) (mRet f) := by
 subst_eqs; apply @sm_ret <;> assumption
theorem Zbn {f : PSt -> M (List PV)} (h : QFM X e f) : QSM X (.Return (some e) pos) (mRetF f) := by
 subst_eqs; apply @sm_retF <;> assumption
theorem q_sm_expr {f : PSt -> M SV} (h : QEM X e f) (hs : swapsWith e none pos.line X.env = pure false := by rfl) : QSM X (.Expr e pos) (mDrop f) := by
 subst_eqs; apply @sm_expr <;> assumption
theorem Zap {i : Nat} {f : PSt -> M SV} (hN : X.N.Nodup) (hi : X.N[i]? = some x) (hx : Loc X.env.scope x) (h : QEM X e f) (hs : swapsWith e (some (.Name x pos')) pos.line X.env = pure false := by rfl)
  (hf : X.fn x = true \/ X.env.scope.names.lookup x = some .local := by first | exact .inl rfl | exact .inr rfl | assumption) : QSM X (.Assign [.Name x pos'] e pos) (mSet i f) := by
 subst_eqs; apply @sm_set <;> assumption
theorem q_sm_new {i : Nat} {f : PSt -> M (List PV)} (hN : X.N.Nodup) (hi : X.N[i]? = some x) (hx : Loc X.env.scope x) (h : QFM X e f) (hs : swapsWith e (some (.Name x pos')) pos.line X.env = pure false := by rfl)
  (hf : X.fn x = true \/ X.env.scope.names.lookup x = some .local := by first | exact .inl rfl | exact .inr rfl | assumption) : QSM X (.Assign [.Name x pos'] e pos) (mNew i f) := by
 subst_eqs; apply @sm_new <;> assumption
theorem Zar {x1} {fs : PSt -> M (List SV)} (h : QAM X es fs) : QEM X (.Tuple es x1 pos) (mTup fs) := by
 subst_eqs; apply @em_tup <;> assumption
theorem Zbq {fs : PSt -> M (List SV)} (h : QAM X es fs) : QFM X (.List es pos) (mLst fs) := by
 subst_eqs; apply @fm_lst <;> assumption
theorem ZaU {f : PSt -> M (List PV)} (h : QFM X e f) : QEM X e (mVal f) := by
 subst_eqs; apply @FM.em <;> assumption
theorem Zaj {i : Nat} (hN : X.N.Nodup) (hi : X.N[i]? = some x) (hx : Loc X.env.scope x) (hf : X.fn x = true \/ X.env.scope.names.lookup x = some .local := by first | exact .inl rfl | exact .inr rfl | assumption) : QGM X (.Name x pos) (hName i) := by
 subst_eqs; apply @gm_name <;> assumption
theorem Za8 : QGMs X [] hNil := by
 subst_eqs; apply @gms_nil <;> assumption
theorem Zam {g : PV -> PSt -> Option PSt} {gs : List PV -> PSt -> Option PSt} (h : QGM X e g) (k : QGMs X es gs) (hs : (assignEach (e :: es) X.env).map (·.2) = assign e X.env :: (assignEach es X.env).map (·.2) := by rfl) : QGMs X (e :: es) (hCons g gs) := by
 subst_eqs; apply @gms_cons <;> assumption
theorem Zbp {gs : List PV -> PSt -> Option PSt} {k n : Nat} (hc : X.calm = true) (h : QGMs X es gs) (hn : (assignEach es X.env).length = n := by rfl) (hst : (assignEach es X.env).findIdx? (·.1) = none := by rfl) : QGM X (.Tuple es k pos) (hTup gs n) := by
 subst_eqs; apply @gm_tup <;> assumption
theorem Zbo {f : PSt -> M SV} {g : PV -> PSt -> Option PSt} (h : QEM X e f) (k : QGM X tg g) (hs : swapsWithSole [tg] e pos.line X.env = pure false := by rfl) (hw : swappedStores [tg] e X.env = pure none := by rfl)
  (h1 : (assignEach [tg] X.env).map (·.2) = [assign tg X.env] := by rfl) : QSM X (.Assign [tg] e pos) (mAsg f g) := by
 subst_eqs; apply @sm_asg <;> assumption
end
section
variable {X : Cx} {e tg iter elt : Expr} {es : List Expr} {body : List Stmt} {f : PSt -> M PF} {pos p : Pos} {x : Str}
theorem q_sm_for {it : PSt -> M (List PV)} {g : PV -> PSt -> Option PSt} (hp : PassesOwn (model X.prog X.w) X.A X.env X.xe) (hc : X.calm = true) (hi : QIM X tg iter it) (hg : QGM X tg g) (hb : QBM X body f)
  (hs : ∀ x, foldedSetIterable iter X.env x = pure x := by intro _; rfl) : QSM X (.For tg iter body [] pos) (mFor it g f) := by
 subst_eqs; apply @sm_for <;> assumption
section
variable {ifs : List Expr} {scope : Scope} {vs fs : List Str} {fr : List Nat} {it : PSt -> M (List PV)} {g : PV -> PSt -> Option PSt} {tt : PSt -> M Bool} {te : PSt -> M SV}
theorem ZaP : QTsM X [] tOk := by
 subst_eqs; apply @ts_nil <;> assumption
theorem ZaL (S : CSc X scope vs fs fr) (hc : X.calm = true) (hi : QIM X tg iter it)
  (bG : ∀ C s₀ H₀ ex pn, QGM (CompCx X (vs ++ fs) scope C s₀ H₀ ex pn) tg g) (bT : ∀ C s₀ H₀ ex pn, QTsM (CompCx X (vs ++ fs) scope C s₀ H₀ ex pn) ifs tt) (bE : ∀ C s₀ H₀ ex pn, QEM (CompCx X (vs ++ fs) scope C s₀ H₀ ex pn) elt te)
  (hs : ∀ x, foldedSetIterable iter X.env x = pure x := by intro _; rfl) : QFM X (.ListComp elt [⟨tg, iter, ifs, 0⟩] scope pos) (mComp it vs fr g tt te) := by
 subst_eqs; apply @fm_comp <;> assumption
end
end
theorem q_fm_call {X : Cx} {e : Expr} {es : List Expr} {p pos : Pos} {x : Str} {k : Nat} {f : Addr} {fd : FuncData} {ps : List Str} {F : List SV -> M (List PV)} {fs : PSt -> M (List SV)} (G : FnOk X.prog X.w X.K X.mg X.base CX0 k f fd ps (liftSpF X.K F)) (hr : Room k X.A) (hg : Gl X x) (hm : X.mg x = some (.ref f)) (hk : W.keepIn X.K (.ref f) = true) (hb : L2.Binds X.K fd ps [])
  (ha : QAM X (e :: es) fs) (hdb : (x == ("__debug__" : Str)) = false := by decide) (he : starEach (e :: es) X.env = (false, eval e X.env) :: starEach es X.env := by rfl) (hpl : (backTo pos (starEach es X.env)).any (·.1) = false := by rfl) :
  QFM X (.Call (.Name x p) (e :: es) [] pos) (mFnF F fs) := by
 subst_eqs; apply @fm_call <;> assumption
section
variable {P : Program} {w : World} {K : W.Frag} {mg : Str -> Option Value} {base : Heap}
theorem Zau {x qual : Str} {st : Stmt} {f : Addr} {fd : FuncData} {N ps : List Str} {k : Nat} {body : PSt -> M PF} (F : Fun K x qual st f fd) (S : FnScope N ps (defScope st))
  (hbody : ∀ (cdv : Value) (A : Around) (outer : List Env) (s : Shared) (H : Hp) (E : XK), Room k (A.deeper (envOfC qual (defScope st) s.heap.objs.size f cdv)) ->
   QBM (cxOf CX0 P w K mg base N qual (defScope st) f cdv A outer s H E).nox (defBody st) body) : FnOk P w K mg base CX0 (k + 1) f fd ps (liftSp K (mDef ps.length (N.length - ps.length) body)) := by
 subst_eqs; apply @fn_mk <;> assumption
theorem q_fn_mkF {x qual : Str} {st : Stmt} {f : Addr} {fd : FuncData} {N ps : List Str} {k : Nat} {body : PSt -> M PF} (F : Fun K x qual st f fd) (S : FnScope N ps (defScope st))
  (hbody : ∀ (cdv : Value) (A : Around) (outer : List Env) (s : Shared) (H : Hp) (E : XK), Room k (A.deeper (envOfC qual (defScope st) s.heap.objs.size f cdv)) ->
   QBM (cxOf CX0 P w K mg base N qual (defScope st) f cdv A outer s H E).nox (defBody st) body) : FnOk P w K mg base CX0 (k + 1) f fd ps (liftSpF K (mDefF ps.length (N.length - ps.length) body)) := by
 subst_eqs; apply @fn_mkF <;> assumption
end
end Pu
namespace Pu
open PySem PySem.Spec L2
open PyProof.Rows hiding St Fr
section
variable {X : Cx}
variable {a b e c : Expr} {es : List Expr} {fa fb fc : PSt -> M SV} {pos p : Pos} {x : Str}
theorem Zay (ha : QEM X a fa) (hb : QEM X b fb) : QEM X (.BinOp a .Add b pos) (mOp (g2 addP) fa fb) := by
 subst_eqs; apply @em_add <;> assumption
theorem ZbH (ha : QEM X a fa) (hb : QEM X b fb) : QEM X (.BinOp a .Sub b pos) (mOp (g2 subP) fa fb) := by
 subst_eqs; apply @em_sub <;> assumption
theorem ZaX (ha : QEM X a fa) (hb : QEM X b fb) : QEM X (.BinOp a .Mult b pos) (mOp (g2 mulP) fa fb) := by
 subst_eqs; apply @em_mul <;> assumption
theorem Zaz (ha : QEM X a fa) (hb : QEM X b fb) : QEM X (.BinOp a .Mod b pos) (mOp (g2 modP) fa fb) := by
 subst_eqs; apply @em_mod <;> assumption
theorem q_em_fdiv (ha : QEM X a fa) (hb : QEM X b fb) : QEM X (.BinOp a .FloorDiv b pos) (mOp (g2 fdivP) fa fb) := by
 subst_eqs; apply @em_fdiv <;> assumption
theorem q_em_pow (ha : QEM X a fa) (hb : QEM X b fb) : QEM X (.BinOp a .Pow b pos) (mOp (g2 powP) fa fb) := by
 subst_eqs; apply @em_pow <;> assumption
end
section
variable {X : Cx} {a b e c o : Expr} {es : List Expr} {fa fb fc fo : PSt -> M SV} {fs : PSt -> M (List SV)} {pos p apos cpos : Pos} {x : Str}
theorem ZaQ (hgl : Gl X "isinstance") (hm : X.mg "isinstance" = none) (hv : bootBuiltins "isinstance" = some (.builtin "isinstance")) (ha : QAM X (e :: es) fs)
  (he : starEach (e :: es) X.env = (false, eval e X.env) :: starEach es X.env := by rfl) (hpl : (backTo pos (starEach es X.env)).any (·.1) = false := by rfl) : QEM X (.Call (.Name "isinstance" p) (e :: es) [] pos) (mCB (g1 isiH) fs) := by
 subst_eqs; apply @em_isi <;> assumption
theorem Zax (hgl : Gl X "len") (hm : X.mg "len" = none) (ha : QAM X (e :: es) fs)
  (he : starEach (e :: es) X.env = (false, eval e X.env) :: starEach es X.env := by rfl) (hpl : (backTo pos (starEach es X.env)).any (·.1) = false := by rfl) : QEM X (.Call (.Name "len" p) (e :: es) [] pos) (mCB (g1 lenH) fs) := by
 subst_eqs; apply @em_len <;> assumption
theorem Za1 (hc : X.calm = true) (hgl : Gl X "max") (hm : X.mg "max" = none) (hv : bootBuiltins "max" = some (.builtin "max")) (ha : QAM X (e :: es) fs)
  (he : starEach (e :: es) X.env = (false, eval e X.env) :: starEach es X.env := by rfl) (hpl : (backTo pos (starEach es X.env)).any (·.1) = false := by rfl) : QEM X (.Call (.Name "max" p) (e :: es) [] pos) (mCB (g1 maxH) fs) := by
 subst_eqs; apply @em_max <;> assumption
theorem q_em_min (hc : X.calm = true) (hgl : Gl X "min") (hm : X.mg "min" = none) (hv : bootBuiltins "min" = some (.builtin "min")) (ha : QAM X (e :: es) fs)
  (he : starEach (e :: es) X.env = (false, eval e X.env) :: starEach es X.env := by rfl) (hpl : (backTo pos (starEach es X.env)).any (·.1) = false := by rfl) : QEM X (.Call (.Name "min" p) (e :: es) [] pos) (mCB (g1 minH) fs) := by
 subst_eqs; apply @em_min <;> assumption
theorem Zbr (hgl : Gl X "tuple") (hm : X.mg "tuple" = none) (hv : bootBuiltins "tuple" = some (.type "tuple")) (ha : QAM X (e :: es) fs)
  (he : starEach (e :: es) X.env = (false, eval e X.env) :: starEach es X.env := by rfl) (hpl : (backTo pos (starEach es X.env)).any (·.1) = false := by rfl) : QEM X (.Call (.Name "tuple" p) (e :: es) [] pos) (mCB (g1 tupH) fs) := by
 subst_eqs; apply @em_tupc <;> assumption
theorem Zb6 (hgl : Gl X "list") (hm : X.mg "list" = none) (hv : bootBuiltins "list" = some (.type "list")) (ha : QAM X (e :: es) fs)
  (he : starEach (e :: es) X.env = (false, eval e X.env) :: starEach es X.env := by rfl) (hpl : (backTo pos (starEach es X.env)).any (·.1) = false := by rfl) : QFM X (.Call (.Name "list" p) (e :: es) [] pos) (mList fs) := by
 subst_eqs; apply @fm_listc <;> assumption
theorem Zbs (hc : X.calm = true) (hgl : Gl X "all") (hm : X.mg "all" = none) (hv : bootBuiltins "all" = some (.builtin "all")) (ha : QAM X (e :: es) fs)
  (he : starEach (e :: es) X.env = (false, eval e X.env) :: starEach es X.env := by rfl) (hpl : (backTo pos (starEach es X.env)).any (·.1) = false := by rfl) : QEM X (.Call (.Name "all" p) (e :: es) [] pos) (mCB (g1 allH) fs) := by
 subst_eqs; apply @em_all <;> assumption
end
section
variable {X : Cx} {a b e c o i : Expr} {es : List Expr} {fa fb fc fo fi fv : PSt -> M SV} {fs : PSt -> M (List SV)} {pos p apos cpos : Pos} {x : Str}
theorem q_em_append (ho : QEM X o fo) (ha : QAM X (e :: es) fs) (hbase : attributeBase o "append" X.env (eval o X.env) = eval o X.env := by rfl)
  (hfew : ((backTo cpos (starEach (e :: es) X.env)).all (fun x => !x.1) && (backToKw cpos (keywordEach [] X.env)).all (fun x => x.1.isSome)
   && decide ((e :: es).length + ([] : List Keyword).length + (if ([] : List Keyword).isEmpty then 0 else 1) < 30)) = true := by rfl)
  (hline : (apos.endLine == cpos.line) = true := by rfl) (hs : starEach (e :: es) X.env = (false, eval e X.env) :: starEach es X.env := by rfl) (hplain : (backTo cpos (starEach es X.env)).any (·.1) = false := by rfl) :
  QEM X (.Call (.Attribute o "append" apos) (e :: es) [] cpos) (mApp fo fs) := by
 subst_eqs; apply @em_append <;> assumption
theorem Zb5 {spos : Pos} (hv : QEM X e fv) (ho : QEM X o fo) (hi : QEM X i fi)
  (ha : ∀ v, assign (.Subscript o i spos) X.env v = (do
   let ov ← holding [v] (eval o X.env)
   let iv ← holding [v, ov] (eval i X.env)
   standAt spos
   holding [v, ov, iv] (setItem ov iv v)
   release [v, ov, iv] []) := by intro _; rfl)
  (hs : swapsWithSole [.Subscript o i spos] e pos.line X.env = pure false := by rfl) (hw : swappedStores [.Subscript o i spos] e X.env = pure none := by rfl)
  (h1 : (assignEach [.Subscript o i spos] X.env).map (·.2) = [assign (.Subscript o i spos) X.env] := by rfl) : QSM X (.Assign [.Subscript o i spos] e pos) (mSetIx fv fo fi) := by
 subst_eqs; apply @sm_setix <;> assumption
variable {tg l : Expr}
theorem Zbd (hl : QEM X l fa) : QIM X tg l (mItems fa) := by
 subst_eqs; apply @im_val <;> assumption
theorem ZaT (hg : Gl X "range") (hm : X.mg "range" = none) (ha : QAM X [a] fs) (hs : starEach [a] X.env = [(false, eval a X.env)] := by rfl) : QIM X tg (.Call (.Name "range" p) [a] [] pos) (mRange1 fs) := by
 subst_eqs; apply @im_range1 <;> assumption
end
section
variable {X : Cx} {a b e c o i : Expr} {es : List Expr} {fa fb fc fo fi fv : PSt -> M SV} {fs : PSt -> M (List SV)} {pos p apos cpos p2 : Pos} {x : Str} {lo hi : Option Expr} {l h : PSt -> M (Option Int)}
theorem ZbP : QOM X none oNo := by
 subst_eqs; apply @om_none <;> assumption
theorem ZbO (he : QEM X e fa) : QOM X (some e) (oPart fa) := by
 subst_eqs; apply @om_some <;> assumption
theorem Zbu (he : QEM X e fa) (hl : QOM X lo l) (hh : QOM X hi h) : QEM X (.Subscript e (.Slice lo hi none p2) pos) (mSlice fa l h) := by
 subst_eqs; apply @em_slice <;> assumption
end
section
variable {X : Cx} {a b e c o i : Expr} {es : List Expr} {fa fb fc fo fi fv : PSt -> M SV} {fs : PSt -> M (List SV)} {pos p apos cpos p2 : Pos} {x : Str}
theorem Zak (hu : X.A.units + 1 < cLine) (ha : QEM X a fa) (hb : QEM X b fb) (hs : PlainIx b := by exact fun _ _ => rfl) : QEM X (.Subscript a b pos) (mOp (g2 ixQ) fa fb) := by
 subst_eqs; apply @em_ixA <;> assumption
end
section
variable {X : Cx} {a b e c o i : Expr} {es : List Expr} {fa fb fc fo fi fv : PSt -> M SV} {fs : PSt -> M (List SV)} {pos p apos cpos p2 : Pos} {x : Str} {d : Addr} {tab : List (Str × Addr)}
theorem q_em_top (hg : Gl X x) (hm : X.mg x = some (.ref d)) (hd : (x == ("__debug__" : Str)) = false := by decide) : QEM X (.Name x pos) (mC (.fn d)) := by
 subst_eqs; apply @em_top <;> assumption
theorem q_em_topix (T : TopD X.K X.w d tab) (ha : QEM X a fa) (hb : QEM X b fb) (hs : PlainIx b := by exact fun _ _ => rfl) : QEM X (.Subscript a b pos) (mOp (topG d tab) fa fb) := by
 subst_eqs; apply @em_topix <;> assumption
theorem q_em_callV {k : Nat} {T : List (Addr × (List SV -> M SV))} (i : Nat) (hok : ∀ a F, T.lookup a = some F -> ∃ fd ps, FnOk X.prog X.w X.K X.mg X.base CX0 k a fd ps (liftSp X.K F) /\ W.keepIn X.K (.ref a) = true /\ L2.Binds X.K fd ps []) (hr : Room k X.A) (ha : QAM X (e :: es) fs)
  (hN : X.N[i]? = some x := by rfl) (hv : Vis X.env.scope x := by first | exact Or.inl rfl | exact Or.inr (Or.inl rfl) | exact Or.inr (Or.inr rfl)) (hdb : (x == ("__debug__" : Str)) = false := by decide) (hcd : (x == ("__classdict__" : Str)) = false := by decide)
  (he : starEach (e :: es) X.env = (false, eval e X.env) :: starEach es X.env := by rfl) (hpl : (backTo pos (starEach es X.env)).any (·.1) = false := by rfl) :
  QEM X (.Call (.Name x p) (e :: es) [] pos) (mCallV i T fs) := by
 subst_eqs; apply @em_callV <;> assumption
end
end Pu
namespace Pu
open PySem PySem.Spec PySem.W PySem.Calls L2 Se
open PyProof.Rows hiding St Fr
section
variable {X : Cx} {e : Expr} {fs : PSt -> M (List SV)} {p p2 pos pos2 : Pos}
theorem ZbQ (hcm : X.calm = true) (hu : X.A.units + 64 < cLine) (hgl : Gl X "len") (hml : X.mg "len" = none) (hgs : Gl X "set") (hms : X.mg "set" = none) (ha : QAM X [e] fs) (he : starEach [e] X.env = (false, eval e X.env) :: starEach [] X.env := by rfl) :
  QEM X (.Call (.Name "len" p) [.Call (.Name "set" p2) [e] [] pos2] [] pos) (mCB (g1 lenSetH) fs) := by
 subst_eqs; apply @em_lenset <;> assumption
end
end Pu
namespace Pu
open PySem PySem.Spec PySem.W PySem.Calls L2
open PyProof.Rows hiding St Fr
section
variable {X : Cx} {a b e : Expr} {fa fb : PSt -> M SV} {pos p : Pos} {es : List Expr} {fs : PSt -> M (List SV)}
theorem q_em_mulS (ha : QEM X a fa) (hb : QEM X b fb) : QEM X (.BinOp a .Mult b pos) (mOp (g2 mulSP) fa fb) := by
 subst_eqs; apply @em_mulS <;> assumption
theorem q_em_maxL (hcm : X.calm = true) (hgl : Gl X "max") (hm : X.mg "max" = none) (hv : bootBuiltins "max" = some (.builtin "max")) (ha : QAM X (e :: es) fs)
  (he : starEach (e :: es) X.env = (false, eval e X.env) :: starEach es X.env := by rfl) (hpl : (backTo pos (starEach es X.env)).any (·.1) = false := by rfl) : QEM X (.Call (.Name "max" p) (e :: es) [] pos) (mCB (g1 maxLH) fs) := by
 subst_eqs; apply @em_maxL <;> assumption
theorem q_em_rev {X : Cx} {o : Expr} {fo : PSt -> M SV} {apos cpos : Pos} (ho : QEM X o fo) (hbase : attributeBase o "reverse" X.env (eval o X.env) = eval o X.env := by rfl) (hline : (apos.endLine == cpos.line) = true := by rfl) :
  QEM X (.Call (.Attribute o "reverse" apos) [] [] cpos) (mRev fo) := by
 subst_eqs; apply @em_rev <;> assumption
end
end Pu
namespace Pu
open PySem PySem.Spec PySem.W PySem.Calls L2 PySem.SeqAt
open PyProof.Rows hiding St Fr
section
variable {X : Cx} {pos : Pos}
theorem q_sm_par3 {i j l : Nat} {x y z : Str} {a b c : Expr} {fs : PSt -> M (List SV)} {px py pz pt : Pos} {kt k2 pt2} (hc : X.calm = true) (hN : X.N.Nodup) (hi : X.N[i]? = some x) (hj : X.N[j]? = some y) (hl : X.N[l]? = some z) (hij : i ≠ j) (hil : i ≠ l) (hjl : j ≠ l)
  (hx : X.env.scope.names.lookup x = some .local) (hy : X.env.scope.names.lookup y = some .local) (hz : X.env.scope.names.lookup z = some .local) (ha : QAM X [a, b, c] fs)
  (hw : swappedStores [.Tuple [.Name x px, .Name y py, .Name z pz] kt pt] (.Tuple [a, b, c] k2 pt2) X.env = pure (some [x, y, z]))
  (hs : swapsWithSole [.Tuple [.Name x px, .Name y py, .Name z pz] kt pt] (.Tuple [a, b, c] k2 pt2) pos.line X.env = pure false := by rfl) :
  QSM X (.Assign [.Tuple [.Name x px, .Name y py, .Name z pz] kt pt] (.Tuple [a, b, c] k2 pt2) pos) (mPar3 i j l fs) := by
 subst_eqs; apply @sm_par3 <;> assumption
end
end Pu
namespace Hd
open PySem PySem.W PySem.Spec PySem.Calls L2 Pu
open PyProof.Rows hiding St Fr
noncomputable def kf (h : Heap) (as : List Addr) : Frag := as.filterMap fun a => (h.get? a).map fun o => (a, o)
theorem kf_get {h : Heap} : ∀ {as : List Addr} {a : Addr} {o : Obj}, (kf h as).lookup a = some o -> h.get? a = some o
 | [], _, _, e => by cases e
 | b :: as, a, o, e => by
  unfold kf at e
  rw [List.filterMap_cons] at e
  cases g : h.get? b with
  | none => rw [g] at e; exact kf_get e
  | some p =>
   rw [g] at e
   simp only [Option.map_some, List.lookup_cons] at e
   by_cases q : a = b
   ·subst q; rw [beq_self_eq_true] at e; cases e; exact g
   ·rw [beq_eq_false_iff_ne.mpr q] at e; exact kf_get e
theorem kf_in (h : Heap) (as : List Addr) : (kf h as).In h := fun _ _ e => kf_get e
theorem kf_at {h : Heap} {a : Addr} {o : Obj} (g : h.get? a = some o) : ∀ {as : List Addr}, a ∈ as -> (kf h as).lookup a = some o
 | [], m => by cases m
 | b :: as, m => by
  unfold kf
  rw [List.filterMap_cons]
  by_cases q : a = b
  ·subst q; rw [g]; simp
  ·have m' : a ∈ as := (List.mem_cons.mp m).resolve_left q
   cases g' : h.get? b with
   | none => exact kf_at g m'
   | some p =>
    simp only [Option.map_some, List.lookup_cons]
    rw [beq_eq_false_iff_ne.mpr q]
    exact kf_at g m'
noncomputable def At (mg : Str -> Option Value) (h : Heap) (as : List Addr) (d : DefRec) : Prop := ∃ (a c : Addr) (o : Obj) (pm doc : Value), mg d.name = some (.ref a) /\ h.get? a = some o /\ o.data = .func (docDef d.name d.params d.body d.scope pm (.ref c) doc) /\ h.CodeRec (.ref c) d.name /\ a ∈ as /\ c ∈ as
theorem at_all {mg : Str -> Option Value} {h : Heap} (as0 : List Addr) : ∀ ds : List DefRec, (∀ d ∈ ds, ∃ a o pm code doc, mg d.name = some (.ref a) /\ h.get? a = some o /\ o.data = .func (docDef d.name d.params d.body d.scope pm code doc) /\ h.CodeRec code d.name) ->
  ∃ as : List Addr, (∀ a ∈ as0, a ∈ as) /\ ∀ d ∈ ds, At mg h as d
 | [], _ => ⟨as0, fun _ m => m, fun _ m => nomatch m⟩
 | d :: ds, T => by
  obtain ⟨as, h0, ih⟩ := at_all as0 ds fun e m => T e (.tail _ m)
  obtain ⟨a, o, pm, cd, doc, h1, h2, h3, h4⟩ := T d (.head _)
  obtain ⟨c, oc, vs, t, rfl, r⟩ := h4
  refine ⟨a :: c :: as, fun b m => .tail _ (.tail _ (h0 b m)), fun e m => ?_⟩
  rcases List.mem_cons.mp m with rfl | m
  ·exact ⟨a, c, o, pm, doc, h1, h2, h3, ⟨c, oc, vs, t, rfl, r⟩, .head _, .tail _ (.head _)⟩
  ·obtain ⟨a', c', o', pm', doc', q1, q2, q3, q4, q5, q6⟩ := ih e m
   exact ⟨a', c', o', pm', doc', q1, q2, q3, q4, .tail _ (.tail _ q5), .tail _ (.tail _ q6)⟩
noncomputable def FnAt (K : Frag) (mg : Str -> Option Value) (x : Str) (st : Stmt) : Prop := ∃ f fd, mg x = some (.ref f) /\ Fun K x x st f fd
noncomputable def four (d : DefRec) : Str × Arguments × List Stmt × Scope := (d.name, d.params, d.body, d.scope)
noncomputable def fourS (p : Str × Stmt) : Str × Arguments × List Stmt × Scope := (p.1, defArgs p.2, defBody p.2, defScope p.2)
theorem fn_at {mg : Str -> Option Value} {h : Heap} {as : List Addr} {ds : List DefRec} {sts : List (Str × Stmt)} (A : ∀ d ∈ ds, At mg h as d) (es : ds.map four = sts.map fourS) (i : Nat) {x : Str} {st : Stmt} (e : sts[i]? = some (x, st)) : FnAt (kf h as) mg x st := by
 have q : (ds.map four)[i]? = some (fourS (x, st)) := by rw [es, List.getElem?_map, e]; rfl
 obtain ⟨d, e', q⟩ := Option.map_eq_some_iff.mp ((List.getElem?_map ..).symm.trans q)
 obtain ⟨n, ps, b, sc, p⟩ := d
 obtain ⟨rfl, q⟩ := Prod.mk.inj q
 obtain ⟨q1, q⟩ := Prod.mk.inj q
 obtain ⟨q2, q3⟩ := Prod.mk.inj q
 dsimp only at q1 q2 q3
 subst q1 q2 q3
 obtain ⟨a, c, o, pm, doc, h1, h2, h3, h4, h5, h6⟩ := A _ (List.mem_of_getElem? e')
 obtain ⟨c', oc, vs, t, e1, g, hd, hv⟩ := h4
 cases e1
 obtain ⟨cl, dd, dt, sl⟩ := o
 cases (show dt = _ from h3)
 have k1 := kf_at h2 h5
 have k2 := kf_at g h6
 refine ⟨a, _, h1, fun_mk (oc := cl) (od := dd) (osl := sl) (kV := .none) (doc := doc) (pm := pm) (an := none) (ct := .none) (cdv := .ref c) k1 ?_ ?_⟩
 ·obtain ⟨ocl, odd, odt, osl⟩ := oc
  cases (show odt = _ from hd)
  unfold codeIn
  dsimp only
  rw [k2]
  obtain ⟨l⟩ := vs
  match l, hv with
  | _ :: v :: r, hv =>
   cases (show v = _ by simpa using hv)
   simp
 ·unfold keepIn
  dsimp only
  rw [k1]
theorem int_of {mg : Str -> Option Value} {x : Str} {i : Int} (h : ∃ v, mg x = some v /\ ∀ h' : Heap, Reads h' v (.int i) []) : ∃ t, mg x = some (.int i t) := by
 obtain ⟨v, e, r⟩ := h
 cases r default
 exact ⟨_, e⟩
theorem str_of {mg : Str -> Option Value} {x y : Str} (h : ∃ v, mg x = some v /\ ∀ h' : Heap, Reads h' v (.str y) []) : ∃ t, mg x = some (.str y t) := by
 obtain ⟨v, e, r⟩ := h
 cases r default
 exact ⟨_, e⟩
noncomputable def seenTab (names : List Str) (tas : List Addr) (h : Heap) : Option (List (Option (Option Value))) × List (Option Obj) :=
 ((h.get? mainGlobals).map fun om => names.map (nsIn [(mainGlobals, om)] mainGlobals), tas.map h.get?)
noncomputable def tabHook (names : List Str) (vals : List (Option (Option Value))) (tas : List Addr) (tos : Params -> List Obj) : Hook where
 α := Option (List (Option (Option Value))) × List (Option Obj)
 obs := fun s => seenTab names tas s.heap
 val := fun w => (some vals, (tos w.params).map some)
 says := fun w h => (∃ om, h.get? mainGlobals = some om /\ names.map (nsIn [(mainGlobals, om)] mainGlobals) = vals) /\ tas.map h.get? = (tos w.params).map some
 of := fun w s e => by
  obtain ⟨e1, e2⟩ := Prod.mk.inj e
  obtain ⟨om, g, e⟩ := Option.map_eq_some_iff.mp e1
  exact ⟨⟨om, g, e⟩, e2⟩
 keeps := fun w h h' ⟨⟨om, g, e⟩, e2⟩ k => by
  refine ⟨⟨om, k _ _ g, e⟩, ?_⟩
  rw [← e2]
  refine List.map_congr_left fun a m => ?_
  have : ∃ o, h.get? a = some o := by
   have m2 : h.get? a ∈ tas.map h.get? := List.mem_map_of_mem m
   rw [e2] at m2
   obtain ⟨o, _, q⟩ := List.mem_map.mp m2
   exact ⟨o, q.symm⟩
  obtain ⟨o, q⟩ := this
  rw [q, k _ _ q]
theorem tab_mg {h : Heap} {mg : Str -> Option Value} (G : h.Ns mainGlobals mg) {names : List Str} {vals : List (Option (Option Value))} (Y : ∃ om, h.get? mainGlobals = some om /\ names.map (nsIn [(mainGlobals, om)] mainGlobals) = vals) (i : Nat) {x : Str} {v : Value}
  (e1 : names[i]? = some x) (e2 : vals[i]? = some (some (some v))) : mg x = some v := by
 obtain ⟨om, g, e⟩ := Y
 refine mg_of (K := [(mainGlobals, om)]) (fun a o q => ?_) G ?_
 ·rw [List.lookup_cons] at q
  by_cases z : a = mainGlobals
  ·subst z; rw [beq_self_eq_true] at q; cases q; exact g
  ·rw [beq_eq_false_iff_ne.mpr z] at q; cases q
 ·rw [← e, List.getElem?_map, e1] at e2
  simpa using e2
theorem tab_at {h : Heap} {tas : List Addr} {tos : List Obj} (e : tas.map h.get? = tos.map some) (i : Nat) {a : Addr} {o : Obj} (e1 : tas[i]? = some a) (e2 : tos[i]? = some o) : h.get? a = some o := by
 have q := congrArg (fun l : List (Option Obj) => l[i]?) e
 simp only [List.getElem?_map, e1, e2, Option.map_some] at q
 exact Option.some.inj q
noncomputable def defPos (s : Stmt) : Pos := match s with
 | .FunctionDef _ _ _ _ _ _ _ _ _ p => p
 | _ => ⟨0, 0, 0, 0⟩
noncomputable def isHere (p : Program) (loose : List Str) (x : Str) : Bool := startupNames.contains x || loose.contains x || ((recsOf p).map (·.name)).contains x || ((litsOf p).map (·.1)).contains x || ((clssOf p loose).map (·.name)).contains x
theorem nones {p : Program} {loose : List Str} {mean : ExcName -> Option Value} {mg mb : Str -> Option Value} {h : Heap} (T : Top p loose mean mg mb h) {xs : List Str} (e : xs.all (fun x => !isHere p loose x) = true) (i : Nat) {x : Str} (hx : xs[i]? = some x) : mg x = none := by
 have q := List.all_eq_true.mp e x (List.mem_of_getElem? hx)
 unfold isHere at q
 simp only [Bool.not_or, Bool.and_eq_true, Bool.not_eq_true', List.contains_eq_mem, decide_eq_false_iff_not] at q
 exact T.free x q.1.1.1.1 q.1.1.1.2 q.1.1.2 q.1.2 q.2
noncomputable def spLaw (K : Frag) : Sp := fun vs H Q _ => ∃ (a : Addr) (ns : List Int), vs = [.ref a] /\ SqL K H a (ns.map V.int) /\ ns.length <= 63 /\ ∀ H', Q (.bl true) H'
theorem reps_ints {K : Frag} {ι : List Addr} {H : Hp} : ∀ ns : List Int, Reps K ι H (ns.map PV.int) (ns.map V.int)
 | [] => by unfold Reps; rfl
 | n :: ns => by
  rw [List.map_cons, List.map_cons]; unfold Reps
  exact ⟨_, _, rfl, by unfold Rep; rfl, reps_ints ns⟩
theorem spLaw_lift {K : Frag} {F : List SV -> M SV} (hF : ∀ ns : List Int, ns.length <= 63 -> F [.v (.lst (ns.map .int))] [] = some (.v (.bl true), [])) (vs : List V) (H : Hp) (Q : VK) (E : XK) (h : spLaw K vs H Q E) : liftSp K F vs H Q E := by
 obtain ⟨a, ns, rfl, hS, hl, hQ⟩ := h
 refine ⟨[], [.v (.lst (ns.map .int))], [], .v (.bl true), [], ⟨rfl, List.nodup_nil, fun k a c e => by cases e⟩, ?_, hF ns hl, fun v H' _ _ r => ?_⟩
 ·unfold RepSs
  refine ⟨_, _, rfl, ?_, by unfold RepSs; rfl⟩
  unfold RepS Rep
  refine ⟨a, _, rfl, ?_, reps_ints ns⟩
  rcases hS with h | h
  ·exact .inl ⟨List.not_mem_nil, h⟩
  ·exact .inr h
 ·have e : v = .bl true := by unfold RepS Rep at r; exact r
  subst e; exact hQ H'
theorem walk {l : OpenLaw} {k : Nat} {q : Program} {loose : List Str} {XP : (Str -> Option Value) -> Heap -> Prop} {YP : World -> Heap -> Prop} {d : DefRec} (hn : l.most = some 63) (hdf : d.params.defaults = []) (hr : Room k callerA) (as0 : List Addr)
  (F : ∀ (w : World) (s₀ : Shared) (mg mb : Str -> Option Value) (h : Heap) (as : List Addr), Ground q loose [] XP w s₀ mg mb h -> YP w h -> (∀ a ∈ as0, a ∈ as) -> (∀ d ∈ recsOf q, At mg h as d) -> ∀ fa : Addr, mg d.name = some (.ref fa) ->
   ∃ fd : FuncData, (∀ (s : Shared) (u : Value), BindsTo s fd ⟨[u], []⟩ [("_law_script", u)]) /\ ∀ base : Heap, FnOk l.prog w (kf h as) mg base CX0 k fa fd ["_law_script"] (spLaw (kf h as))) :
  WalkO q loose XP YP l.row.toRowW d [] (fun f vs => PySem.call f vs) := by
 refine Att.attach_call hn hdf fun w s₀ s₁ mg mb fa o pm cd doc a vs ns G Y ho hd hcd hmg hobj hints hlen hg => ?_
 obtain ⟨as, h0, A⟩ := at_all as0 (recsOf q) G.T.fn
 obtain ⟨fd, hb, hF⟩ := F w s₀ mg mb _ as G Y h0 A fa hmg
 exact law_call (kf_in s₁.heap as) G.T.g G.T.b G.T.builtins G.T.nolimit hg hobj hints (Nat.le_trans hlen (by decide)) hr (fun base _ _ => hF base) hb (fun H hO hS => ⟨a, ns, rfl, hS, hlen, fun _ => rfl⟩) fun H e s' z => z
end Hd
namespace K04
open PySem PySem.Spec L2 Pu
open PyProof.Rows hiding St Fr
noncomputable def ZaM (f_qay f_qbd f_qaw : Addr) : List (Str × Addr) := [("joined", f_qay), ("said", f_qbd), ("did", f_qaw)]
noncomputable abbrev B_qba : PSt -> M PF := (mRet (mAndV (mCB (g1 isiH) (aCons (mVar 0) (aCons (mC (.ty "int")) aNil))) (mAndV (mNotV (mCB (g1 isiH) (aCons (mVar 0) (aCons (mC (.ty "bool")) aNil)))) (mOp (g2 geP) (mVar 0) (mVar 1)))))
noncomputable def F_qba : List SV -> M SV := mDef 2 0 (B_qba)
noncomputable abbrev B_qbb : PSt -> M PF := (mRet (mAndV (mFn F_qba (aCons (mVar 0) (aCons (mC (.int 0)) aNil))) (mOp (g2 ltP) (mVar 0) (mVar 1))))
noncomputable def F_qbb : List SV -> M SV := mDef 2 0 (B_qbb)
noncomputable abbrev B_qbc : PSt -> M PF := (mRet (mAndV (mCB (g1 isiH) (aCons (mVar 0) (aCons (mC (.ty "tuple")) aNil))) (mChain (g2 leP) (g2 leP) (mVar 1) (mCB (g1 lenH) (aCons (mVar 0) aNil)) (mVar 2))))
noncomputable def F_qbc : List SV -> M SV := mDef 3 0 (B_qbc)
noncomputable abbrev B_qbe : PSt -> M PF := (mSeq (mIfS (mOrT (mNotT (mTru (mCB (g1 isiH) (aCons (mVar 0) (aCons (mC (.ty "str")) aNil))))) (mNotT (mTest (mChain (g2 leP) (g2 leP) (mC (.int 1)) (mCB (g1 lenH) (aCons (mVar 0) aNil)) (mC (.int 12)))))) (mRet (mC (.bl false))) mSkip) (mRet (mCB (g1 allH) (aCons (mVal (mComp (mItems (mVar 0)) ["sign"] [] (hName 0) tOk (mOp (g2 inP) (mVar 0) (mC (.str "abcdefghijklmnopqrstuvwxyz"))))) aNil))))
noncomputable def F_qbe : List SV -> M SV := mDef 1 0 (B_qbe)
noncomputable abbrev B_qaq : PSt -> M PF := (mSeq (mIfS (mOrT (mNotT (mTru (mFn F_qbc (aCons (mVar 0) (aCons (mVar 1) (aCons (mVar 2) aNil)))))) (mNotT (mTru (mCB (g1 allH) (aCons (mVal (mComp (mItems (mVar 0)) ["word"] [] (hName 0) tOk (mFn F_qbe (aCons (mVar 0) aNil)))) aNil))))) (mRet (mC (.bl false))) mSkip) (mRet (mOp (g2 eqP) (mCB (g1 lenSetH) (aCons (mVar 0) aNil)) (mCB (g1 lenH) (aCons (mVar 0) aNil)))))
noncomputable def F_qaq : List SV -> M SV := mDef 3 0 (B_qaq)
noncomputable abbrev B_qas : PSt -> M PF := (mSeq (mAsg (mSlice (mVar 0) (oPart (mC (.int 4))) oNo) (hTup (hCons (hName 1) (hCons (hName 2) hNil)) 2)) (mRet (mOp (g2 addP) (mVal (mList (aCons (mVar 1) aNil))) (mVal (mList (aCons (mSlice (mVar 2) oNo (oPart (mC (.int 1)))) aNil))))))
noncomputable def F_qas : List SV -> M SV := mDef 1 2 (B_qas)
noncomputable abbrev B_qay : PSt -> M PF := (mRet (mAndV (mOp (g2 eqP) (mCB (g1 lenH) (aCons (mVar 0) aNil)) (mC (.int 2))) (mFn F_qbb (aCons (mOp (g2 ixQ) (mVar 0) (mC (.int 1))) (aCons (mCB (g1 lenH) (aCons (mOp (g2 ixQ) (mVar 2) (mC (.int 0))) aNil)) aNil)))))
noncomputable def F_qay : List SV -> M SV := mDef 3 0 (B_qay)
noncomputable abbrev B_qbd : PSt -> M PF := (mRet (mAndV (mOp (g2 eqP) (mCB (g1 lenH) (aCons (mVar 0) aNil)) (mC (.int 3))) (mAndV (mFn F_qbb (aCons (mOp (g2 ixQ) (mVar 0) (mC (.int 1))) (aCons (mCB (g1 lenH) (aCons (mOp (g2 ixQ) (mVar 2) (mC (.int 0))) aNil)) aNil))) (mFn F_qbe (aCons (mOp (g2 ixQ) (mVar 0) (mC (.int 2))) aNil)))))
noncomputable def F_qbd : List SV -> M SV := mDef 3 0 (B_qbd)
noncomputable abbrev B_qaw : PSt -> M PF := (mSeq (mIfS (mOrT (mTest (mOp (g2 neP) (mCB (g1 lenH) (aCons (mVar 0) aNil)) (mC (.int 4)))) (mNotT (mTru (mFn F_qbb (aCons (mOp (g2 ixQ) (mVar 0) (mC (.int 1))) (aCons (mOp (g2 addP) (mCB (g1 lenH) (aCons (mOp (g2 ixQ) (mVar 2) (mC (.int 1))) aNil)) (mC (.int 1))) aNil)))))) (mRet (mC (.bl false))) mSkip) (mSeq (mAsg (mSlice (mVar 0) (oPart (mC (.int 1))) oNo) (hTup (hCons (hName 3) (hCons (hName 4) (hCons (hName 5) hNil))) 3)) (mSeq (mIfS (mTest (mOp (g2 gtP) (mVar 3) (mC (.int 0)))) (mRet (mAndV (mFn F_qbb (aCons (mVar 4) (aCons (mC (.int 12)) aNil))) (mFn F_qbb (aCons (mVar 5) (aCons (mC (.int 9)) aNil))))) mSkip) (mRet (mAndV (mFn F_qbb (aCons (mVar 4) (aCons (mCB (g1 lenH) (aCons (mOp (g2 ixQ) (mVar 2) (mC (.int 3))) aNil)) aNil))) (mAndV (mOp (g2 neP) (mVar 4) (mVar 1)) (mFn F_qbb (aCons (mVar 5) (aCons (mOp (g2 ixQ) (mOp (g2 ixQ) (mOp (g2 ixQ) (mVar 2) (mC (.int 3))) (mVar 4)) (mC (.int 2))) aNil)))))))))
noncomputable def F_qaw : List SV -> M SV := mDef 3 3 (B_qaw)
noncomputable def ZaS (f_qay f_qbd f_qaw : Addr) : List (Addr × (List SV -> M SV)) := [(f_qay, F_qay), (f_qbd, F_qbd), (f_qaw, F_qaw)]
noncomputable abbrev B_qax (d_EVENTS f_qay f_qbd f_qaw : Addr) : PSt -> M PF := (mSeq (mIfS (mOrT (mNotT (mTru (mCB (g1 isiH) (aCons (mVar 0) (aCons (mC (.ty "tuple")) aNil))))) (mOrT (mNotT (mTru (mVar 0))) (mOrT (mNotT (mTru (mCB (g1 isiH) (aCons (mOp (g2 ixQ) (mVar 0) (mC (.int 0))) (aCons (mC (.ty "str")) aNil))))) (mTest (mOp (topI d_EVENTS (ZaM f_qay f_qbd f_qaw) true) (mOp (g2 ixQ) (mVar 0) (mC (.int 0))) (mC (.fn d_EVENTS))))))) (mRet (mC (.bl false))) mSkip) (mSeq (mSet 3 (mOp (topG d_EVENTS (ZaM f_qay f_qbd f_qaw)) (mC (.fn d_EVENTS)) (mOp (g2 ixQ) (mVar 0) (mC (.int 0))))) (mRet (mCallV 3 (ZaS f_qay f_qbd f_qaw) (aCons (mVar 0) (aCons (mVar 1) (aCons (mVar 2) aNil)))))))
noncomputable def F_qax (d_EVENTS f_qay f_qbd f_qaw : Addr) : List SV -> M SV := mDef 3 1 (B_qax d_EVENTS f_qay f_qbd f_qaw)
noncomputable abbrev B_qaz : PSt -> M PF := (mRet (mOrV (mFn F_qbc (aCons (mVar 0) (aCons (mC (.int 0)) (aCons (mC (.int 0)) aNil)))) (mAndV (mFn F_qbc (aCons (mVar 0) (aCons (mC (.int 2)) (aCons (mC (.int 2)) aNil)))) (mFn F_qba (aCons (mOp (g2 ixQ) (mVar 0) (mC (.int 1))) (aCons (mC (.int 1)) aNil))))))
noncomputable def F_qaz : List SV -> M SV := mDef 1 0 (B_qaz)
noncomputable abbrev B_qau : PSt -> M PF := (mSeq (mIfS (mNotT (mTru (mFn F_qbc (aCons (mVar 0) (aCons (mC (.int 6)) (aCons (mC (.int 6)) aNil)))))) (mRet (mC (.bl false))) mSkip) (mSeq (mAsg (mVar 0) (hTup (hCons (hName 2) (hCons (hName 3) (hCons (hName 4) (hCons (hName 5) (hCons (hName 6) (hCons (hName 7) hNil)))))) 6)) (mSeq (mIfS (mOrT (mNotT (mTru (mFn F_qbb (aCons (mVar 2) (aCons (mVar 1) aNil))))) (mOrT (mNotT (mTru (mFn F_qbb (aCons (mVar 3) (aCons (mVar 1) aNil))))) (mTest (mOp (g2 eqP) (mVar 2) (mVar 3))))) (mRet (mC (.bl false))) mSkip) (mSeq (mIfS (mOrT (mNotT (mTru (mFn F_qba (aCons (mVar 4) (aCons (mC (.int 1)) aNil))))) (mOrT (mTest (mOp (g2 gtP) (mVar 4) (mC (.int 9)))) (mNotT (mTru (mFn F_qba (aCons (mVar 5) (aCons (mC (.int 1)) aNil))))))) (mRet (mC (.bl false))) mSkip) (mRet (mAndV (mFn F_qbc (aCons (mVar 6) (aCons (mC (.int 0)) (aCons (mC (.int 8)) aNil)))) (mFn F_qaz (aCons (mVar 7) aNil))))))))
noncomputable def F_qau : List SV -> M SV := mDef 2 6 (B_qau)
noncomputable abbrev B_qat (d_EVENTS f_qay f_qbd f_qaw : Addr) : PSt -> M PF := (mSeq (mSet 2 (mFn F_qas (aCons (mOp (g2 ixQ) (mOp (g2 ixQ) (mVar 1) (mC (.int 3))) (mVar 0)) aNil))) (mSeq (mIfS (mNotT (mTru (mCB (g1 allH) (aCons (mVal (mComp (mItems (mVar 2)) ["event"] [0, 1] (hName 0) tOk (mFn (F_qax d_EVENTS f_qay f_qbd f_qaw) (aCons (mVar 0) (aCons (mVar 1) (aCons (mVar 2) aNil)))))) aNil)))) (mRet (mC (.bl false))) mSkip) (mRet (mOp (g2 eqP) (mCB (g1 lenSetH) (aCons (mVar 2) aNil)) (mCB (g1 lenH) (aCons (mVar 2) aNil))))))
noncomputable def F_qat (d_EVENTS f_qay f_qbd f_qaw : Addr) : List SV -> M SV := mDef 2 1 (B_qat d_EVENTS f_qay f_qbd f_qaw)
noncomputable abbrev B_qav (d_EVENTS f_qay f_qbd f_qaw : Addr) : PSt -> M PF := (mSeq (mIfS (mNotT (mTru (mFn F_qbc (aCons (mVar 0) (aCons (mC (.int 4)) (aCons (mC (.int 4)) aNil)))))) (mRet (mC (.bl false))) mSkip) (mSeq (mAsg (mVar 0) (hTup (hCons (hName 1) (hCons (hName 2) (hCons (hName 3) (hCons (hName 4) hNil)))) 4)) (mSeq (mIfS (mOrT (mNotT (mTru (mFn F_qaq (aCons (mVar 1) (aCons (mC (.int 1)) (aCons (mC (.int 8)) aNil)))))) (mOrT (mTest (mOp (g2 inP) (mC (.str "bell")) (mVar 1))) (mNotT (mTru (mFn F_qaq (aCons (mVar 2) (aCons (mC (.int 0)) (aCons (mC (.int 4)) aNil)))))))) (mRet (mC (.bl false))) mSkip) (mSeq (mIfS (mOrT (mNotT (mTru (mFn F_qba (aCons (mVar 3) (aCons (mC (.int 0)) aNil))))) (mNotT (mTru (mFn F_qbc (aCons (mVar 4) (aCons (mC (.int 1)) (aCons (mC (.int 12)) aNil))))))) (mRet (mC (.bl false))) mSkip) (mSeq (mIfS (mNotT (mTru (mCB (g1 allH) (aCons (mVal (mComp (mItems (mVar 4)) ["clause"] [1] (hName 0) tOk (mFn F_qau (aCons (mVar 0) (aCons (mCB (g1 lenH) (aCons (mVar 1) aNil)) aNil))))) aNil)))) (mRet (mC (.bl false))) mSkip) (mRet (mCB (g1 allH) (aCons (mVal (mComp (mRange1 (aCons (mCB (g1 lenH) (aCons (mVar 4) aNil)) aNil)) ["own"] [0] (hName 0) tOk (mFn (F_qat d_EVENTS f_qay f_qbd f_qaw) (aCons (mVar 0) (aCons (mVar 1) aNil))))) aNil))))))))
noncomputable def F_qav (d_EVENTS f_qay f_qbd f_qaw : Addr) : List SV -> M SV := mDef 1 4 (B_qav d_EVENTS f_qay f_qbd f_qaw)
noncomputable abbrev B_qar : PSt -> M PF := (mRet (mOp (g2 addP) (mOp (g2 ixQ) (mVar 0) (mC (.int 2))) (mCB (g1 maxLH) (aCons (mVal (mComp (mItems (mOp (g2 ixQ) (mVar 0) (mC (.int 3)))) ["clause"] [] (hName 0) tOk (mOp (g2 ixQ) (mVar 0) (mC (.int 3))))) aNil))))
noncomputable def F_qar : List SV -> M SV := mDef 1 0 (B_qar)
noncomputable abbrev B_qaa : PSt -> M PF := (mSeq (mIfS (mTest (mOp (g2 ltP) (mVar 1) (mCB (g1 lenH) (aCons (mVar 0) aNil)))) (mRet (mOp (g2 ixQ) (mVar 0) (mVar 1))) mSkip) (mRet (mC (.int 0))))
noncomputable def F_qaa : List SV -> M SV := mDef 2 0 (B_qaa)
noncomputable abbrev B_qag : PSt -> M PF := (mSeq (mSet 2 (mFn F_qaa (aCons (mVar 0) (aCons (mOp (g2 modP) (mVar 1) (mCB (g1 maxH) (aCons (mC (.int 1)) (aCons (mCB (g1 lenH) (aCons (mVar 0) aNil)) aNil)))) aNil)))) (mSeq (mSet 3 (mOp (g2 modP) (mOp (g2 mulP) (mOp (g2 addP) (mOp (g2 addP) (mOp (g2 modP) (mVar 2) (mC (.int 2147483629))) (mOp (g2 mulP) (mOp (g2 mulP) (mC (.int 7919)) (mVar 1)) (mVar 1))) (mC (.int 11))) (mC (.int 48271))) (mC (.int 2147483647)))) (mSeq (mIfS (mTest (mOp (g2 eqP) (mOp (g2 modP) (mFn F_qaa (aCons (mVar 0) (aCons (mC (.int 0)) aNil))) (mC (.int 2))) (mC (.int 0)))) (mSet 2 (mC (.int 0))) mSkip) (mRetF (mLst (aCons (mOp (g2 modP) (mVar 2) (mOp (g2 powP) (mC (.int 10)) (mC (.int 40)))) (aCons (mVar 3) aNil)))))))
noncomputable def F_qag : List SV -> M SV := mDef 2 2 (B_qag)
noncomputable def FF_qag : List SV -> M (List PV) := mDefF 2 2 (B_qag)
noncomputable abbrev B_qak : PSt -> M PF := (mSeq (mIfS (mTest (mOp (g2 gtP) (mOp (g2 ixQ) (mVar 0) (mC (.int 0))) (mC (.int 0)))) (mSeq (mSet 2 (mOp (g2 modP) (mOp (g2 ixQ) (mVar 0) (mC (.int 0))) (mVar 1))) (mSeq (mSetIx (mOp (g2 fdivP) (mOp (g2 ixQ) (mVar 0) (mC (.int 0))) (mVar 1)) (mVar 0) (mC (.int 0))) (mRet (mVar 2)))) mSkip) (mSeq (mSetIx (mOp (g2 modP) (mOp (g2 addP) (mOp (g2 mulP) (mOp (g2 ixQ) (mVar 0) (mC (.int 1))) (mC (.int 48271))) (mC (.int 12345))) (mC (.int 2147483647))) (mVar 0) (mC (.int 1))) (mRet (mOp (g2 modP) (mOp (g2 modP) (mOp (g2 mulP) (mOp (g2 ixQ) (mVar 0) (mC (.int 1))) (mOp (g2 ixQ) (mVar 0) (mC (.int 1)))) (mC (.int 1999999973))) (mVar 1)))))
noncomputable def F_qak : List SV -> M SV := mDef 2 1 (B_qak)
noncomputable abbrev B_qam : PSt -> M PF := (mSeq (mSet 3 (mFn F_qak (aCons (mVar 0) (aCons (mC (.int 16)) aNil)))) (mSeq (mIfS (mTest (mOp (g2 eqP) (mVar 3) (mC (.int 0)))) (mRet (mOp (g2 addP) (mVar 2) (mC (.int 1)))) mSkip) (mSeq (mIfS (mTest (mOp (g2 eqP) (mVar 3) (mC (.int 1)))) (mRet (mCB (g1 maxH) (aCons (mC (.int 0)) (aCons (mOp (g2 subP) (mVar 1) (mC (.int 1))) aNil)))) mSkip) (mSeq (mIfS (mTest (mOp (g2 ltP) (mVar 3) (mC (.int 6)))) (mRet (mVar 2)) mSkip) (mRet (mOp (g2 addP) (mVar 1) (mFn F_qak (aCons (mVar 0) (aCons (mOp (g2 addP) (mOp (g2 subP) (mVar 2) (mVar 1)) (mC (.int 1))) aNil)))))))))
noncomputable def F_qam : List SV -> M SV := mDef 3 1 (B_qam)
noncomputable abbrev B_qai : PSt -> M PF := (mRetF (mComp (mRange1 (aCons (mVar 0) aNil)) ["_law_k"] [1] (hName 0) tOk (mOp (g2 addP) (mOp (g2 ixQ) (mC (.str "abcdefghijklmnop")) (mVar 0)) (mOp (g2 mulSP) (mC (.str "z")) (mOp (g2 subP) (mVar 1) (mC (.int 1)))))))
noncomputable def F_qai : List SV -> M SV := mDef 2 0 (B_qai)
noncomputable def FF_qai : List SV -> M (List PV) := mDefF 2 0 (B_qai)
noncomputable abbrev B_qao : PSt -> M PF := (mRet (mOp (g2 ixQ) (mVal (mLst (aCons (mFn F_qak (aCons (mVar 0) (aCons (mC (.int 9)) aNil))) (aCons (mFn F_qak (aCons (mVar 0) (aCons (mC (.int 1000)) aNil))) (aCons (mOp (g2 addP) (mOp (g2 powP) (mC (.int 10)) (mC (.int 29))) (mFn F_qak (aCons (mVar 0) (aCons (mC (.int 7)) aNil)))) aNil))))) (mFn F_qak (aCons (mVar 0) (aCons (mC (.int 3)) aNil)))))
noncomputable def F_qao : List SV -> M SV := mDef 1 0 (B_qao)
noncomputable abbrev B_qac : PSt -> M PF := (mSeq (mSet 1 (mCB (g1 maxH) (aCons (mC (.int 1)) (aCons (mFn F_qam (aCons (mVar 0) (aCons (mC (.int 2)) (aCons (mC (.int 8)) aNil)))) aNil)))) (mSeq (mSet 2 (mFn F_qam (aCons (mVar 0) (aCons (mC (.int 0)) (aCons (mC (.int 4)) aNil))))) (mSeq (mSet 3 (mCB (g1 maxH) (aCons (mC (.int 1)) (aCons (mFn F_qam (aCons (mVar 0) (aCons (mC (.int 1)) (aCons (mC (.int 12)) aNil)))) aNil)))) (mSeq (mSet 4 (mFn F_qao (aCons (mVar 0) aNil))) (mSeq (mNew 5 (mLst aNil)) (mSeq (mSet 6 (mAndV (mChain (g2 leP) (g2 leP) (mC (.int 2)) (mVar 1) (mC (.int 8))) (mAndV (mOp (g2 leP) (mVar 2) (mC (.int 4))) (mOp (g2 leP) (mVar 3) (mC (.int 12)))))) (mSeq (mSet 7 (mVar 4)) (mSeq (mFor (mRange1 (aCons (mFn F_qam (aCons (mVar 0) (aCons (mC (.int 1)) (aCons (mC (.int 12)) aNil)))) aNil)) (hName 8) (mSeq (mSet 9 (mFn F_qak (aCons (mVar 0) (aCons (mVar 1) aNil)))) (mSeq (mSet 10 (mOp (g2 modP) (mOp (g2 addP) (mVar 9) (mC (.int 1))) (mVar 1))) (mSeq (mPar3 11 12 13 (aCons (mFn F_qam (aCons (mVar 0) (aCons (mC (.int 1)) (aCons (mC (.int 9)) aNil)))) (aCons (mFn F_qam (aCons (mVar 0) (aCons (mC (.int 0)) (aCons (mC (.int 8)) aNil)))) (aCons (mFn F_qao (aCons (mVar 0) aNil)) aNil)))) (mSeq (mSet 14 (mCB (g1 tupH) (aCons (mVal (mComp (mItems (mFn F_qai (aCons (mVar 12) (aCons (mVar 3) aNil)))) ["_law_word"] [9] (hName 0) tOk (mTup (aCons (mC (.str "said")) (aCons (mVar 1) (aCons (mVar 0) aNil)))))) aNil))) (mSeq (mDrop (mApp (mVar 5) (aCons (mTup (aCons (mVar 9) (aCons (mVar 10) (aCons (mVar 11) (aCons (mVar 13) (aCons (mVar 14) (aCons (mOp (g2 ixQ) (mVal (mLst (aCons (mTup aNil) (aCons (mTup (aCons (mTup (aCons (mC (.str "joined")) (aCons (mVar 10) aNil))) (aCons (mC (.int 1)) aNil))) aNil)))) (mFn F_qak (aCons (mVar 0) (aCons (mC (.int 2)) aNil)))) aNil))))))) aNil))) (mSeq (mSet 6 (mAndV (mVar 6) (mAndV (mChain (g2 leP) (g2 leP) (mC (.int 1)) (mVar 11) (mC (.int 9))) (mAndV (mOp (g2 leP) (mVar 12) (mC (.int 8))) (mOp (g2 gtP) (mVar 13) (mC (.int 0))))))) (mSet 7 (mCB (g1 maxH) (aCons (mVar 7) (aCons (mOp (g2 addP) (mVar 4) (mVar 13)) aNil))))))))))) (mSeq (mNew 15 (mFnF FF_qai (aCons (mVar 2) (aCons (mVar 3) aNil)))) (mSeq (mDrop (mRev (mVar 15))) (mSeq (mSet 6 (mAndV (mVar 6) (mChain (g2 leP) (g2 leP) (mC (.int 1)) (mCB (g1 lenH) (aCons (mVar 5) aNil)) (mC (.int 12))))) (mRet (mTup (aCons (mTup (aCons (mCB (g1 tupH) (aCons (mFn F_qai (aCons (mVar 1) (aCons (mVar 3) aNil))) aNil)) (aCons (mCB (g1 tupH) (aCons (mVar 15) aNil)) (aCons (mVar 4) (aCons (mCB (g1 tupH) (aCons (mVar 5) aNil)) aNil))))) (aCons (mVar 6) (aCons (mVar 7) aNil))))))))))))))))
noncomputable def F_qac : List SV -> M SV := mDef 1 15 (B_qac)
noncomputable abbrev B_qae : PSt -> M PF := (mRet (mAndV (mCB (g1 isiH) (aCons (mVar 0) (aCons (mC (.ty "int")) aNil))) (mAndV (mNotV (mCB (g1 isiH) (aCons (mVar 0) (aCons (mC (.ty "bool")) aNil)))) (mOp (g2 eqP) (mVar 0) (mVar 1)))))
noncomputable def F_qae : List SV -> M SV := mDef 2 0 (B_qae)
noncomputable abbrev B_law (d_EVENTS f_qay f_qbd f_qaw : Addr) : PSt -> M PF := (mSeq (mSet 1 (mTup (aCons (mTup (aCons (mC (.str "a")) (aCons (mC (.str "b")) aNil))) (aCons (mTup aNil) (aCons (mC (.int 5)) (aCons (mTup (aCons (mTup (aCons (mC (.int 0)) (aCons (mC (.int 1)) (aCons (mC (.int 1)) (aCons (mC (.int 2)) (aCons (mTup aNil) (aCons (mTup aNil) aNil))))))) (aCons (mTup (aCons (mC (.int 1)) (aCons (mC (.int 0)) (aCons (mC (.int 3)) (aCons (mC (.int 9)) (aCons (mTup aNil) (aCons (mTup aNil) aNil))))))) (aCons (mTup (aCons (mC (.int 0)) (aCons (mC (.int 1)) (aCons (mC (.int 1)) (aCons (mC (.int 1)) (aCons (mTup aNil) (aCons (mTup aNil) aNil))))))) aNil)))) aNil)))))) (mSeq (mFor (mRange1 (aCons (mCB (g1 maxH) (aCons (mC (.int 6)) (aCons (mCB (g1 minH) (aCons (mC (.int 40)) (aCons (mCB (g1 lenH) (aCons (mVar 0) aNil)) aNil))) aNil))) aNil)) (hName 2) (mSeq (mNew 3 (mFnF FF_qag (aCons (mVar 0) (aCons (mVar 2) aNil)))) (mSeq (mAsg (mFn F_qac (aCons (mVar 3) aNil)) (hTup (hCons (hName 4) (hCons (hName 5) (hCons (hName 6) hNil))) 3)) (mSeq (mSet 7 (mFn (F_qav d_EVENTS f_qay f_qbd f_qaw) (aCons (mVar 4) aNil))) (mSeq (mIfS (mOrT (mNotT (mTru (mCB (g1 isiH) (aCons (mVar 7) (aCons (mC (.ty "bool")) aNil))))) (mTest (mOp (g2 neP) (mVar 7) (mVar 5)))) (mRet (mC (.bl false))) mSkip) (mIfS (mTru (mVar 5)) (mSeq (mIfS (mOrT (mNotT (mTru (mFn F_qae (aCons (mFn F_qar (aCons (mVar 4) aNil)) (aCons (mVar 6) aNil))))) (mNotT (mTru (mFn F_qae (aCons (mFn F_qar (aCons (mVar 1) aNil)) (aCons (mC (.int 14)) aNil)))))) (mRet (mC (.bl false))) mSkip) (mIfS (mNotT (mTru (mFn F_qae (aCons (mFn F_qar (aCons (mVar 4) aNil)) (aCons (mVar 6) aNil))))) (mRet (mC (.bl false))) mSkip)) mSkip)))))) (mRet (mOp (g2 isBP) (mFn (F_qav d_EVENTS f_qay f_qbd f_qaw) (aCons (mVar 1) aNil)) (mC (.bl true))))))
noncomputable def F_law (d_EVENTS f_qay f_qbd f_qaw : Addr) : List SV -> M SV := mDef 1 7 (B_law d_EVENTS f_qay f_qbd f_qaw)
noncomputable def top (i : Nat) : Stmt := PySem.Challenge.pw_holdword_k04_bounds_and_ends.main.body.getD i (.Pass ⟨0, 0, 0, 0⟩)
structure Txt (mg : Str -> Option Value) : Prop where
 c_JUDGE : ∃ t, mg "JUDGE" = some (.str "bell" t)
 c_LONGEST_WORD : ∃ t, mg "LONGEST_WORD" = some (.int 12 t)
 c_MOST_CLAUSES : ∃ t, mg "MOST_CLAUSES" = some (.int 12 t)
 c_MOST_CONDS : ∃ t, mg "MOST_CONDS" = some (.int 8 t)
 c_MOST_HOUSES : ∃ t, mg "MOST_HOUSES" = some (.int 8 t)
 c_MOST_OTHERS : ∃ t, mg "MOST_OTHERS" = some (.int 4 t)
 c_MOST_PARTS : ∃ t, mg "MOST_PARTS" = some (.int 9 t)
 c_SMALL_LETTERS : ∃ t, mg "SMALL_LETTERS" = some (.str "abcdefghijklmnopqrstuvwxyz" t)
 b_all : mg "all" = none
 b_bool : mg "bool" = none
 b_int : mg "int" = none
 b_isinstance : mg "isinstance" = none
 b_len : mg "len" = none
 b_list : mg "list" = none
 b_max : mg "max" = none
 b_min : mg "min" = none
 b_range : mg "range" = none
 b_set : mg "set" = none
 b_str : mg "str" = none
 b_tuple : mg "tuple" = none
section
variable {P : Program} {w : World} {K : W.Frag} {mg : Str -> Option Value} {base : Heap}
noncomputable abbrev s_qba : Stmt := top 9
theorem sc_qba : FnScope ["thing", "least"] ["thing", "least"] (defScope s_qba) := ⟨rfl, rfl, rfl, by decide +kernel, rfl, by decide +kernel, by decide +kernel⟩
theorem ok_qba {f_me : Addr} {fd_me : FuncData} (Fn : Fun K "is_number" "is_number" s_qba f_me fd_me) (T : Txt mg) : FnOk P w K mg base CX0 1 f_me fd_me ["thing", "least"] (liftSp K (F_qba)) :=
 Zau Fn sc_qba fun cdv A outer s H E hr => (@Zah _ _ _ (@Zai _ _ _ _ (Zas (ZaQ (by rfl) T.b_isinstance (by rfl) (@Zaa _ _ _ _ _ (Zab 0) (@Zaa _ _ _ _ _ (Za0 (by rfl) T.b_int (by rfl)) Zac (by rfl)) (by rfl))) (Zas (q_em_not (ZaQ (by rfl) T.b_isinstance (by rfl) (@Zaa _ _ _ _ _ (Zab 0) (@Zaa _ _ _ _ _ (Za0 (by rfl) T.b_bool (by rfl)) Zac (by rfl)) (by rfl)))) (ZaC (ZaD op_ge ge_ok.r (Zab 0) (Zab 1) (nomark _)))))))
end
section
variable {P : Program} {w : World} {K : W.Frag} {mg : Str -> Option Value} {base : Heap}
noncomputable abbrev s_qbb : Stmt := top 10
theorem sc_qbb : FnScope ["thing", "bound"] ["thing", "bound"] (defScope s_qbb) := ⟨rfl, rfl, rfl, by decide +kernel, rfl, by decide +kernel, by decide +kernel⟩
theorem ok_qbb {f_me : Addr} {fd_me : FuncData} {f_qba : Addr} {fd_qba : FuncData} (Fn : Fun K "is_number_below" "is_number_below" s_qbb f_me fd_me) (T : Txt mg) (G_qba : FnOk P w K mg base CX0 1 f_qba fd_qba ["thing", "least"] (liftSp K F_qba)) (m_qba : mg "is_number" = some (.ref f_qba)) (k_qba : W.keepIn K (.ref f_qba) = true) (b_qba : L2.Binds K fd_qba ["thing", "least"] []) : FnOk P w K mg base CX0 2 f_me fd_me ["thing", "bound"] (liftSp K (F_qbb)) :=
 Zau Fn sc_qbb fun cdv A outer s H E hr => (@Zah _ _ _ (@Zai _ _ _ _ (Zas (Zae G_qba (hr.mono (by decide)) (by rfl) m_qba k_qba b_qba (@Zaa _ _ _ _ _ (Zab 0) (@Zaa _ _ _ _ _ Zad Zac (by rfl)) (by rfl))) (ZaC (ZaD op_lt lt_ok.r (Zab 0) (Zab 1) (nomark _))))))
end
section
variable {P : Program} {w : World} {K : W.Frag} {mg : Str -> Option Value} {base : Heap}
noncomputable abbrev s_qbc : Stmt := top 11
theorem sc_qbc : FnScope ["thing", "least", "most"] ["thing", "least", "most"] (defScope s_qbc) := ⟨rfl, rfl, rfl, by decide +kernel, rfl, by decide +kernel, by decide +kernel⟩
theorem ok_qbc {f_me : Addr} {fd_me : FuncData} (Fn : Fun K "is_row_of" "is_row_of" s_qbc f_me fd_me) (T : Txt mg) : FnOk P w K mg base CX0 1 f_me fd_me ["thing", "least", "most"] (liftSp K (F_qbc)) :=
 Zau Fn sc_qbc fun cdv A outer s H E hr => (@Zah _ _ _ (@Zai _ _ _ _ (Zas (ZaQ (by rfl) T.b_isinstance (by rfl) (@Zaa _ _ _ _ _ (Zab 0) (@Zaa _ _ _ _ _ (Za0 (by rfl) T.b_tuple (by rfl)) Zac (by rfl)) (by rfl))) (ZaC (Zbe Zbv Zbv Zbw.r Zbw.r (Zab 1) (Zax (by rfl) T.b_len (@Zaa _ _ _ _ _ (Zab 0) Zac (by rfl))) (Zab 2))))))
end
section
variable {P : Program} {w : World} {K : W.Frag} {mg : Str -> Option Value} {base : Heap}
noncomputable abbrev s_qbe : Stmt := top 12
theorem sc_qbe : FnScope ["thing"] ["thing"] (defScope s_qbe) := ⟨rfl, rfl, rfl, by decide +kernel, rfl, by decide +kernel, by decide +kernel⟩
theorem ok_qbe {f_me : Addr} {fd_me : FuncData} (Fn : Fun K "is_word" "is_word" s_qbe f_me fd_me) (T : Txt mg) : FnOk P w K mg base CX0 1 f_me fd_me ["thing"] (liftSp K (F_qbe)) :=
 Zau Fn sc_qbe fun cdv A outer s H E hr => (@Zaf _ _ _ _ _ (@Zat _ _ _ _ _ _ _ _ (Zbi (ZaH (Zao (Zan (ZaQ (by rfl) T.b_isinstance (by rfl) (@Zaa _ _ _ _ _ (Zab 0) (@Zaa _ _ _ _ _ (Za0 (by rfl) T.b_str (by rfl)) Zac (by rfl)) (by rfl))))) (ZaN (Zao (q_tm_chain Zbv Zbv Zbw.r Zbw.r Zad (Zax (by rfl) T.b_len (@Zaa _ _ _ _ _ (Zab 0) Zac (by rfl))) (ZaJ (by rfl) T.c_LONGEST_WORD)))))) (@Zah _ _ _ (@Zai _ _ _ _ ZaG)) Zaq) (@Zah _ _ _ (@Zai _ _ _ _ (Zbs rfl (by rfl) T.b_all (by rfl) (@Zaa _ _ _ _ _ (ZaU (ZaL (vs := ["sign"]) (fs := []) (fr := []) (by exact ⟨rfl, rfl, rfl, rfl, rfl, rfl, rfl⟩) rfl (Zbd (Zab 0)) (fun _ _ _ _ _ => (Zaj (i := 0) (show ((["sign"] : List Str) ++ ([] : List Str)).Nodup by decide +kernel) rfl (Or.inl rfl))) (fun _ _ _ _ _ => ZaP) (fun _ _ _ _ _ => (ZaD op_inAll in_ok.r (Zab 0) (Zb7 (by rfl) T.c_SMALL_LETTERS) rfl)))) Zac (by rfl))))))
end
section
variable {P : Program} {w : World} {K : W.Frag} {mg : Str -> Option Value} {base : Heap}
noncomputable abbrev s_qaq : Stmt := top 13
theorem sc_qaq : FnScope ["thing", "least", "most"] ["thing", "least", "most"] (defScope s_qaq) := ⟨rfl, rfl, rfl, by decide +kernel, rfl, by decide +kernel, by decide +kernel⟩
theorem ok_qaq {f_me : Addr} {fd_me : FuncData} {f_qbc f_qbe : Addr} {fd_qbc fd_qbe : FuncData} (Fn : Fun K "are_words" "are_words" s_qaq f_me fd_me) (T : Txt mg) (G_qbc : FnOk P w K mg base CX0 1 f_qbc fd_qbc ["thing", "least", "most"] (liftSp K F_qbc)) (m_qbc : mg "is_row_of" = some (.ref f_qbc)) (k_qbc : W.keepIn K (.ref f_qbc) = true) (b_qbc : L2.Binds K fd_qbc ["thing", "least", "most"] []) (G_qbe : FnOk P w K mg base CX0 1 f_qbe fd_qbe ["thing"] (liftSp K F_qbe)) (m_qbe : mg "is_word" = some (.ref f_qbe)) (k_qbe : W.keepIn K (.ref f_qbe) = true) (b_qbe : L2.Binds K fd_qbe ["thing"] []) : FnOk P w K mg base CX0 2 f_me fd_me ["thing", "least", "most"] (liftSp K (F_qaq)) :=
 Zau Fn sc_qaq fun cdv A outer s H E hr => (@Zaf _ _ _ _ _ (@Zat _ _ _ _ _ _ _ _ (Zbi (ZaH (Zao (Zan (Zae G_qbc (hr.mono (by decide)) (by rfl) m_qbc k_qbc b_qbc (@Zaa _ _ _ _ _ (Zab 0) (@Zaa _ _ _ _ _ (Zab 1) (@Zaa _ _ _ _ _ (Zab 2) Zac (by rfl)) (by rfl)) (by rfl))))) (ZaN (Zao (Zan (Zbs rfl (by rfl) T.b_all (by rfl) (@Zaa _ _ _ _ _ (ZaU (ZaL (vs := ["word"]) (fs := []) (fr := []) (by exact ⟨rfl, rfl, rfl, rfl, rfl, rfl, rfl⟩) rfl (Zbd (Zab 0)) (fun _ _ _ _ _ => (Zaj (i := 0) (show ((["word"] : List Str) ++ ([] : List Str)).Nodup by decide +kernel) rfl (Or.inl rfl))) (fun _ _ _ _ _ => ZaP) (fun _ _ _ _ _ => (Zae G_qbe (hr.mono (by decide)) (by rfl) m_qbe k_qbe b_qbe (@Zaa _ _ _ _ _ (Zab 0) Zac (by rfl)))))) Zac (by rfl)))))))) (@Zah _ _ _ (@Zai _ _ _ _ ZaG)) Zaq) (@Zah _ _ _ (@Zai _ _ _ _ (ZaD Zb1 Zb2.r (ZbQ rfl (hu64 hr) (by rfl) T.b_len (by rfl) T.b_set (@Zaa _ _ _ _ _ (Zab 0) Zac (by rfl))) (Zax (by rfl) T.b_len (@Zaa _ _ _ _ _ (Zab 0) Zac (by rfl))) (nomark _)))))
end
section
variable {P : Program} {w : World} {K : W.Frag} {mg : Str -> Option Value} {base : Heap}
noncomputable abbrev s_qas : Stmt := top 14
theorem sc_qas : FnScope ["clause", "conds", "leave"] ["clause"] (defScope s_qas) := ⟨rfl, rfl, rfl, by decide +kernel, rfl, by decide +kernel, by decide +kernel⟩
theorem ok_qas {f_me : Addr} {fd_me : FuncData} (Fn : Fun K "events_of" "events_of" s_qas f_me fd_me) (T : Txt mg) : FnOk P w K mg base CX0 1 f_me fd_me ["clause"] (liftSp K (F_qas)) :=
 Zau Fn sc_qas fun cdv A outer s H E hr => (@Zaf _ _ _ _ _ (Zbo (Zbu (Zab 0) (ZbO Zad) ZbP) (Zbp rfl (Zam (Zaj (i := 1) sc_qas.nd rfl (Or.inl rfl)) (Zam (Zaj (i := 2) sc_qas.nd rfl (Or.inl rfl)) Za8)))) (@Zah _ _ _ (@Zai _ _ _ _ (Zay (ZaU (Zb6 (by rfl) T.b_list (by rfl) (@Zaa _ _ _ _ _ (Zab 1) Zac (by rfl)))) (ZaU (Zb6 (by rfl) T.b_list (by rfl) (@Zaa _ _ _ _ _ (Zbu (Zab 2) ZbP (ZbO Zad)) Zac (by rfl))))))))
end
section
variable {P : Program} {w : World} {K : W.Frag} {mg : Str -> Option Value} {base : Heap}
noncomputable abbrev s_qay : Stmt := top 15
theorem sc_qay : FnScope ["event", "own", "deal"] ["event", "own", "deal"] (defScope s_qay) := ⟨rfl, rfl, rfl, by decide +kernel, rfl, by decide +kernel, by decide +kernel⟩
theorem ok_qay {f_me : Addr} {fd_me : FuncData} {f_qbb : Addr} {fd_qbb : FuncData} (Fn : Fun K "is_joined" "is_joined" s_qay f_me fd_me) (T : Txt mg) (G_qbb : FnOk P w K mg base CX0 2 f_qbb fd_qbb ["thing", "bound"] (liftSp K F_qbb)) (m_qbb : mg "is_number_below" = some (.ref f_qbb)) (k_qbb : W.keepIn K (.ref f_qbb) = true) (b_qbb : L2.Binds K fd_qbb ["thing", "bound"] []) : FnOk P w K mg base CX0 3 f_me fd_me ["event", "own", "deal"] (liftSp K (F_qay)) :=
 Zau Fn sc_qay fun cdv A outer s H E hr => (@Zah _ _ _ (@Zai _ _ _ _ (Zas (ZaD Zb1 Zb2.r (Zax (by rfl) T.b_len (@Zaa _ _ _ _ _ (Zab 0) Zac (by rfl))) Zad (nomark _)) (ZaC (Zae G_qbb (hr.mono (by decide)) (by rfl) m_qbb k_qbb b_qbb (@Zaa _ _ _ _ _ (Zak (ZaI hr) (Zab 0) Zad) (@Zaa _ _ _ _ _ (Zax (by rfl) T.b_len (@Zaa _ _ _ _ _ (Zak (ZaI hr) (Zab 2) Zad) Zac (by rfl))) Zac (by rfl)) (by rfl)))))))
end
section
variable {P : Program} {w : World} {K : W.Frag} {mg : Str -> Option Value} {base : Heap}
noncomputable abbrev s_qbd : Stmt := top 16
theorem sc_qbd : FnScope ["event", "own", "deal"] ["event", "own", "deal"] (defScope s_qbd) := ⟨rfl, rfl, rfl, by decide +kernel, rfl, by decide +kernel, by decide +kernel⟩
theorem ok_qbd {f_me : Addr} {fd_me : FuncData} {f_qbb f_qbe : Addr} {fd_qbb fd_qbe : FuncData} (Fn : Fun K "is_said" "is_said" s_qbd f_me fd_me) (T : Txt mg) (G_qbb : FnOk P w K mg base CX0 2 f_qbb fd_qbb ["thing", "bound"] (liftSp K F_qbb)) (m_qbb : mg "is_number_below" = some (.ref f_qbb)) (k_qbb : W.keepIn K (.ref f_qbb) = true) (b_qbb : L2.Binds K fd_qbb ["thing", "bound"] []) (G_qbe : FnOk P w K mg base CX0 1 f_qbe fd_qbe ["thing"] (liftSp K F_qbe)) (m_qbe : mg "is_word" = some (.ref f_qbe)) (k_qbe : W.keepIn K (.ref f_qbe) = true) (b_qbe : L2.Binds K fd_qbe ["thing"] []) : FnOk P w K mg base CX0 3 f_me fd_me ["event", "own", "deal"] (liftSp K (F_qbd)) :=
 Zau Fn sc_qbd fun cdv A outer s H E hr => (@Zah _ _ _ (@Zai _ _ _ _ (Zas (ZaD Zb1 Zb2.r (Zax (by rfl) T.b_len (@Zaa _ _ _ _ _ (Zab 0) Zac (by rfl))) Zad (nomark _)) (Zas (Zae G_qbb (hr.mono (by decide)) (by rfl) m_qbb k_qbb b_qbb (@Zaa _ _ _ _ _ (Zak (ZaI hr) (Zab 0) Zad) (@Zaa _ _ _ _ _ (Zax (by rfl) T.b_len (@Zaa _ _ _ _ _ (Zak (ZaI hr) (Zab 2) Zad) Zac (by rfl))) Zac (by rfl)) (by rfl))) (ZaC (Zae G_qbe (hr.mono (by decide)) (by rfl) m_qbe k_qbe b_qbe (@Zaa _ _ _ _ _ (Zak (ZaI hr) (Zab 0) Zad) Zac (by rfl))))))))
end
section
variable {P : Program} {w : World} {K : W.Frag} {mg : Str -> Option Value} {base : Heap}
noncomputable abbrev s_qaw : Stmt := top 17
theorem sc_qaw : FnScope ["event", "own", "deal", "k", "c", "p"] ["event", "own", "deal"] (defScope s_qaw) := ⟨rfl, rfl, rfl, by decide +kernel, rfl, by decide +kernel, by decide +kernel⟩
theorem ok_qaw {f_me : Addr} {fd_me : FuncData} {f_qbb : Addr} {fd_qbb : FuncData} (Fn : Fun K "is_did" "is_did" s_qaw f_me fd_me) (T : Txt mg) (G_qbb : FnOk P w K mg base CX0 2 f_qbb fd_qbb ["thing", "bound"] (liftSp K F_qbb)) (m_qbb : mg "is_number_below" = some (.ref f_qbb)) (k_qbb : W.keepIn K (.ref f_qbb) = true) (b_qbb : L2.Binds K fd_qbb ["thing", "bound"] []) : FnOk P w K mg base CX0 3 f_me fd_me ["event", "own", "deal"] (liftSp K (F_qaw)) :=
 Zau Fn sc_qaw fun cdv A outer s H E hr => (@Zaf _ _ _ _ _ (@Zat _ _ _ _ _ _ _ _ (Zbi (ZaH (ZaB op_ne ne_ok.r (Zax (by rfl) T.b_len (@Zaa _ _ _ _ _ (Zab 0) Zac (by rfl))) Zad (nomark _)) (ZaN (Zao (Zan (Zae G_qbb (hr.mono (by decide)) (by rfl) m_qbb k_qbb b_qbb (@Zaa _ _ _ _ _ (Zak (ZaI hr) (Zab 0) Zad) (@Zaa _ _ _ _ _ (Zay (Zax (by rfl) T.b_len (@Zaa _ _ _ _ _ (Zak (ZaI hr) (Zab 2) Zad) Zac (by rfl))) Zad) Zac (by rfl)) (by rfl)))))))) (@Zah _ _ _ (@Zai _ _ _ _ ZaG)) Zaq) (@Zaf _ _ _ _ _ (Zbo (Zbu (Zab 0) (ZbO Zad) ZbP) (Zbp rfl (Zam (Zaj (i := 3) sc_qaw.nd rfl (Or.inl rfl)) (Zam (Zaj (i := 4) sc_qaw.nd rfl (Or.inl rfl)) (Zam (Zaj (i := 5) sc_qaw.nd rfl (Or.inl rfl)) Za8))))) (@Zaf _ _ _ _ _ (@Zat _ _ _ _ _ _ _ _ (ZaB op_gt gt_ok.r (Zab 3) Zad (nomark _)) (@Zah _ _ _ (@Zai _ _ _ _ (Zas (Zae G_qbb (hr.mono (by decide)) (by rfl) m_qbb k_qbb b_qbb (@Zaa _ _ _ _ _ (Zab 4) (@Zaa _ _ _ _ _ (ZaJ (by rfl) T.c_MOST_CLAUSES) Zac (by rfl)) (by rfl))) (ZaC (Zae G_qbb (hr.mono (by decide)) (by rfl) m_qbb k_qbb b_qbb (@Zaa _ _ _ _ _ (Zab 5) (@Zaa _ _ _ _ _ (ZaJ (by rfl) T.c_MOST_PARTS) Zac (by rfl)) (by rfl))))))) Zaq) (@Zah _ _ _ (@Zai _ _ _ _ (Zas (Zae G_qbb (hr.mono (by decide)) (by rfl) m_qbb k_qbb b_qbb (@Zaa _ _ _ _ _ (Zab 4) (@Zaa _ _ _ _ _ (Zax (by rfl) T.b_len (@Zaa _ _ _ _ _ (Zak (ZaI hr) (Zab 2) Zad) Zac (by rfl))) Zac (by rfl)) (by rfl))) (Zas (ZaD op_ne ne_ok.r (Zab 4) (Zab 1) (nomark _)) (ZaC (Zae G_qbb (hr.mono (by decide)) (by rfl) m_qbb k_qbb b_qbb (@Zaa _ _ _ _ _ (Zab 5) (@Zaa _ _ _ _ _ (Zak (ZaI hr) (Zak (ZaI hr) (Zak (ZaI hr) (Zab 2) Zad) (Zab 4)) Zad) Zac (by rfl)) (by rfl)))))))))))
end
section
variable {P : Program} {w : World} {K : W.Frag} {mg : Str -> Option Value} {base : Heap}
noncomputable abbrev s_qax : Stmt := top 19
theorem sc_qax : FnScope ["thing", "own", "deal", "fits"] ["thing", "own", "deal"] (defScope s_qax) := ⟨rfl, rfl, rfl, by decide +kernel, rfl, by decide +kernel, by decide +kernel⟩
theorem ok_qax {f_me : Addr} {fd_me : FuncData} {f_qay f_qbd f_qaw d_EVENTS : Addr} {fd_qay fd_qbd fd_qaw : FuncData} (Fn : Fun K "is_event" "is_event" s_qax f_me fd_me) (T : Txt mg) (Tm_EVENTS : mg "EVENTS" = some (.ref d_EVENTS)) (TD_EVENTS : TopD K w d_EVENTS (ZaM f_qay f_qbd f_qaw)) (G_qay : FnOk P w K mg base CX0 3 f_qay fd_qay ["event", "own", "deal"] (liftSp K F_qay)) (m_qay : mg "is_joined" = some (.ref f_qay)) (k_qay : W.keepIn K (.ref f_qay) = true) (b_qay : L2.Binds K fd_qay ["event", "own", "deal"] []) (G_qbd : FnOk P w K mg base CX0 3 f_qbd fd_qbd ["event", "own", "deal"] (liftSp K F_qbd)) (m_qbd : mg "is_said" = some (.ref f_qbd)) (k_qbd : W.keepIn K (.ref f_qbd) = true) (b_qbd : L2.Binds K fd_qbd ["event", "own", "deal"] []) (G_qaw : FnOk P w K mg base CX0 3 f_qaw fd_qaw ["event", "own", "deal"] (liftSp K F_qaw)) (m_qaw : mg "is_did" = some (.ref f_qaw)) (k_qaw : W.keepIn K (.ref f_qaw) = true) (b_qaw : L2.Binds K fd_qaw ["event", "own", "deal"] []) : FnOk P w K mg base CX0 4 f_me fd_me ["thing", "own", "deal"] (liftSp K (F_qax d_EVENTS f_qay f_qbd f_qaw)) :=
 Zau Fn sc_qax fun cdv A outer s H E hr => (@Zaf _ _ _ _ _ (@Zat _ _ _ _ _ _ _ _ (Zbi (ZaH (Zao (Zan (ZaQ (by rfl) T.b_isinstance (by rfl) (@Zaa _ _ _ _ _ (Zab 0) (@Zaa _ _ _ _ _ (Za0 (by rfl) T.b_tuple (by rfl)) Zac (by rfl)) (by rfl))))) (ZaH (Zao (Zan (Zab 0))) (ZaH (Zao (Zan (ZaQ (by rfl) T.b_isinstance (by rfl) (@Zaa _ _ _ _ _ (Zak (ZaI hr) (Zab 0) Zad) (@Zaa _ _ _ _ _ (Za0 (by rfl) T.b_str (by rfl)) Zac (by rfl)) (by rfl))))) (ZaN (ZaB (op_topnotin TD_EVENTS) topI_okN (Zak (ZaI hr) (Zab 0) Zad) (q_em_top (by rfl) Tm_EVENTS) rfl)))))) (@Zah _ _ _ (@Zai _ _ _ _ ZaG)) Zaq) (@Zaf _ _ _ _ _ (Zap (i := 3) sc_qax.nd rfl (Or.inl rfl) (q_em_topix TD_EVENTS (q_em_top (by rfl) Tm_EVENTS) (Zak (ZaI hr) (Zab 0) Zad))) (@Zah _ _ _ (@Zai _ _ _ _ (q_em_callV (k := 3) 3 (hv_of (fun q hq => by
  simp only [ZaS, List.mem_cons, List.not_mem_nil, or_false] at hq
  rcases hq with rfl | rfl | rfl
  ·exact ⟨_, _, G_qay.mono (by decide), k_qay, b_qay⟩
  ·exact ⟨_, _, G_qbd.mono (by decide), k_qbd, b_qbd⟩
  ·exact ⟨_, _, G_qaw.mono (by decide), k_qaw, b_qaw⟩)) (hr.mono (by decide)) (@Zaa _ _ _ _ _ (Zab 0) (@Zaa _ _ _ _ _ (Zab 1) (@Zaa _ _ _ _ _ (Zab 2) Zac (by rfl)) (by rfl)) (by rfl)))))))
end
section
variable {P : Program} {w : World} {K : W.Frag} {mg : Str -> Option Value} {base : Heap}
noncomputable abbrev s_qaz : Stmt := top 20
theorem sc_qaz : FnScope ["thing"] ["thing"] (defScope s_qaz) := ⟨rfl, rfl, rfl, by decide +kernel, rfl, by decide +kernel, by decide +kernel⟩
theorem ok_qaz {f_me : Addr} {fd_me : FuncData} {f_qbc f_qba : Addr} {fd_qbc fd_qba : FuncData} (Fn : Fun K "is_leave" "is_leave" s_qaz f_me fd_me) (T : Txt mg) (G_qbc : FnOk P w K mg base CX0 1 f_qbc fd_qbc ["thing", "least", "most"] (liftSp K F_qbc)) (m_qbc : mg "is_row_of" = some (.ref f_qbc)) (k_qbc : W.keepIn K (.ref f_qbc) = true) (b_qbc : L2.Binds K fd_qbc ["thing", "least", "most"] []) (G_qba : FnOk P w K mg base CX0 1 f_qba fd_qba ["thing", "least"] (liftSp K F_qba)) (m_qba : mg "is_number" = some (.ref f_qba)) (k_qba : W.keepIn K (.ref f_qba) = true) (b_qba : L2.Binds K fd_qba ["thing", "least"] []) : FnOk P w K mg base CX0 2 f_me fd_me ["thing"] (liftSp K (F_qaz)) :=
 Zau Fn sc_qaz fun cdv A outer s H E hr => (@Zah _ _ _ (@Zai _ _ _ _ (q_em_or (Zae G_qbc (hr.mono (by decide)) (by rfl) m_qbc k_qbc b_qbc (@Zaa _ _ _ _ _ (Zab 0) (@Zaa _ _ _ _ _ Zad (@Zaa _ _ _ _ _ Zad Zac (by rfl)) (by rfl)) (by rfl))) (ZaC (Zas (Zae G_qbc (hr.mono (by decide)) (by rfl) m_qbc k_qbc b_qbc (@Zaa _ _ _ _ _ (Zab 0) (@Zaa _ _ _ _ _ Zad (@Zaa _ _ _ _ _ Zad Zac (by rfl)) (by rfl)) (by rfl))) (ZaC (Zae G_qba (hr.mono (by decide)) (by rfl) m_qba k_qba b_qba (@Zaa _ _ _ _ _ (Zak (ZaI hr) (Zab 0) Zad) (@Zaa _ _ _ _ _ Zad Zac (by rfl)) (by rfl)))))))))
end
section
variable {P : Program} {w : World} {K : W.Frag} {mg : Str -> Option Value} {base : Heap}
noncomputable abbrev s_qau : Stmt := top 21
theorem ZbL : FnScope ["thing", "houses", "debtor", "creditor", "parts", "within", "conds", "leave"] ["thing", "houses"] (defScope s_qau) := ⟨rfl, rfl, rfl, by decide +kernel, rfl, by decide +kernel, by decide +kernel⟩
theorem ok_qau {f_me : Addr} {fd_me : FuncData} {f_qbc f_qbb f_qba f_qaz : Addr} {fd_qbc fd_qbb fd_qba fd_qaz : FuncData} (Fn : Fun K "is_clause" "is_clause" s_qau f_me fd_me) (T : Txt mg) (G_qbc : FnOk P w K mg base CX0 1 f_qbc fd_qbc ["thing", "least", "most"] (liftSp K F_qbc)) (m_qbc : mg "is_row_of" = some (.ref f_qbc)) (k_qbc : W.keepIn K (.ref f_qbc) = true) (b_qbc : L2.Binds K fd_qbc ["thing", "least", "most"] []) (G_qbb : FnOk P w K mg base CX0 2 f_qbb fd_qbb ["thing", "bound"] (liftSp K F_qbb)) (m_qbb : mg "is_number_below" = some (.ref f_qbb)) (k_qbb : W.keepIn K (.ref f_qbb) = true) (b_qbb : L2.Binds K fd_qbb ["thing", "bound"] []) (G_qba : FnOk P w K mg base CX0 1 f_qba fd_qba ["thing", "least"] (liftSp K F_qba)) (m_qba : mg "is_number" = some (.ref f_qba)) (k_qba : W.keepIn K (.ref f_qba) = true) (b_qba : L2.Binds K fd_qba ["thing", "least"] []) (G_qaz : FnOk P w K mg base CX0 2 f_qaz fd_qaz ["thing"] (liftSp K F_qaz)) (m_qaz : mg "is_leave" = some (.ref f_qaz)) (k_qaz : W.keepIn K (.ref f_qaz) = true) (b_qaz : L2.Binds K fd_qaz ["thing"] []) : FnOk P w K mg base CX0 3 f_me fd_me ["thing", "houses"] (liftSp K (F_qau)) :=
 Zau Fn ZbL fun cdv A outer s H E hr => (@Zaf _ _ _ _ _ (@Zat _ _ _ _ _ _ _ _ (Zao (Zan (Zae G_qbc (hr.mono (by decide)) (by rfl) m_qbc k_qbc b_qbc (@Zaa _ _ _ _ _ (Zab 0) (@Zaa _ _ _ _ _ Zad (@Zaa _ _ _ _ _ Zad Zac (by rfl)) (by rfl)) (by rfl))))) (@Zah _ _ _ (@Zai _ _ _ _ ZaG)) Zaq) (@Zaf _ _ _ _ _ (Zbo (Zab 0) (Zbp rfl (Zam (Zaj (i := 2) ZbL.nd rfl (Or.inl rfl)) (Zam (Zaj (i := 3) ZbL.nd rfl (Or.inl rfl)) (Zam (Zaj (i := 4) ZbL.nd rfl (Or.inl rfl)) (Zam (Zaj (i := 5) ZbL.nd rfl (Or.inl rfl)) (Zam (Zaj (i := 6) ZbL.nd rfl (Or.inl rfl)) (Zam (Zaj (i := 7) ZbL.nd rfl (Or.inl rfl)) Za8)))))))) (@Zaf _ _ _ _ _ (@Zat _ _ _ _ _ _ _ _ (Zbi (ZaH (Zao (Zan (Zae G_qbb (hr.mono (by decide)) (by rfl) m_qbb k_qbb b_qbb (@Zaa _ _ _ _ _ (Zab 2) (@Zaa _ _ _ _ _ (Zab 1) Zac (by rfl)) (by rfl))))) (ZaH (Zao (Zan (Zae G_qbb (hr.mono (by decide)) (by rfl) m_qbb k_qbb b_qbb (@Zaa _ _ _ _ _ (Zab 3) (@Zaa _ _ _ _ _ (Zab 1) Zac (by rfl)) (by rfl))))) (ZaN (ZaB Zb1 Zb2.r (Zab 2) (Zab 3) (nomark _)))))) (@Zah _ _ _ (@Zai _ _ _ _ ZaG)) Zaq) (@Zaf _ _ _ _ _ (@Zat _ _ _ _ _ _ _ _ (Zbi (ZaH (Zao (Zan (Zae G_qba (hr.mono (by decide)) (by rfl) m_qba k_qba b_qba (@Zaa _ _ _ _ _ (Zab 4) (@Zaa _ _ _ _ _ Zad Zac (by rfl)) (by rfl))))) (ZaH (ZaB op_gt gt_ok.r (Zab 4) (ZaJ (by rfl) T.c_MOST_PARTS) (nomark _)) (ZaN (Zao (Zan (Zae G_qba (hr.mono (by decide)) (by rfl) m_qba k_qba b_qba (@Zaa _ _ _ _ _ (Zab 5) (@Zaa _ _ _ _ _ Zad Zac (by rfl)) (by rfl))))))))) (@Zah _ _ _ (@Zai _ _ _ _ ZaG)) Zaq) (@Zah _ _ _ (@Zai _ _ _ _ (Zas (Zae G_qbc (hr.mono (by decide)) (by rfl) m_qbc k_qbc b_qbc (@Zaa _ _ _ _ _ (Zab 6) (@Zaa _ _ _ _ _ Zad (@Zaa _ _ _ _ _ (ZaJ (by rfl) T.c_MOST_CONDS) Zac (by rfl)) (by rfl)) (by rfl))) (ZaC (Zae G_qaz (hr.mono (by decide)) (by rfl) m_qaz k_qaz b_qaz (@Zaa _ _ _ _ _ (Zab 7) Zac (by rfl)))))))))))
end
section
variable {P : Program} {w : World} {K : W.Frag} {mg : Str -> Option Value} {base : Heap}
noncomputable abbrev s_qat : Stmt := top 22
theorem sc_qat : FnScope ["own", "deal", "events"] ["own", "deal"] (defScope s_qat) := ⟨rfl, rfl, rfl, by decide +kernel, rfl, by decide +kernel, by decide +kernel⟩
theorem ok_qat {f_me : Addr} {fd_me : FuncData} {f_qas f_qax d_EVENTS f_qay f_qbd f_qaw : Addr} {fd_qas fd_qax : FuncData} (Fn : Fun K "has_good_events" "has_good_events" s_qat f_me fd_me) (T : Txt mg) (G_qas : FnOk P w K mg base CX0 1 f_qas fd_qas ["clause"] (liftSp K F_qas)) (m_qas : mg "events_of" = some (.ref f_qas)) (k_qas : W.keepIn K (.ref f_qas) = true) (b_qas : L2.Binds K fd_qas ["clause"] []) (G_qax : FnOk P w K mg base CX0 4 f_qax fd_qax ["thing", "own", "deal"] (liftSp K (F_qax d_EVENTS f_qay f_qbd f_qaw))) (m_qax : mg "is_event" = some (.ref f_qax)) (k_qax : W.keepIn K (.ref f_qax) = true) (b_qax : L2.Binds K fd_qax ["thing", "own", "deal"] []) : FnOk P w K mg base CX0 5 f_me fd_me ["own", "deal"] (liftSp K (F_qat d_EVENTS f_qay f_qbd f_qaw)) :=
 Zau Fn sc_qat fun cdv A outer s H E hr => (@Zaf _ _ _ _ _ (Zap (i := 2) sc_qat.nd rfl (Or.inl rfl) (Zae G_qas (hr.mono (by decide)) (by rfl) m_qas k_qas b_qas (@Zaa _ _ _ _ _ (Zak (ZaI hr) (Zak (ZaI hr) (Zab 1) Zad) (Zab 0)) Zac (by rfl)))) (@Zaf _ _ _ _ _ (@Zat _ _ _ _ _ _ _ _ (Zao (Zan (Zbs rfl (by rfl) T.b_all (by rfl) (@Zaa _ _ _ _ _ (ZaU (ZaL (vs := ["event"]) (fs := ["own", "deal"]) (fr := [0, 1]) (by exact ⟨rfl, rfl, rfl, rfl, rfl, rfl, rfl⟩) rfl (Zbd (Zab 2)) (fun _ _ _ _ _ => (Zaj (i := 0) (show ((["event"] : List Str) ++ (["own", "deal"] : List Str)).Nodup by decide +kernel) rfl (Or.inl rfl))) (fun _ _ _ _ _ => ZaP) (fun _ _ _ _ _ => (Zae G_qax (hr.mono (by decide)) (by rfl) m_qax k_qax b_qax (@Zaa _ _ _ _ _ (Zab 0) (@Zaa _ _ _ _ _ (Zab 1) (@Zaa _ _ _ _ _ (Zab 2) Zac (by rfl)) (by rfl)) (by rfl)))))) Zac (by rfl))))) (@Zah _ _ _ (@Zai _ _ _ _ ZaG)) Zaq) (@Zah _ _ _ (@Zai _ _ _ _ (ZaD Zb1 Zb2.r (ZbQ rfl (hu64 hr) (by rfl) T.b_len (by rfl) T.b_set (@Zaa _ _ _ _ _ (Zab 2) Zac (by rfl))) (Zax (by rfl) T.b_len (@Zaa _ _ _ _ _ (Zab 2) Zac (by rfl))) (nomark _))))))
end
section
variable {P : Program} {w : World} {K : W.Frag} {mg : Str -> Option Value} {base : Heap}
noncomputable abbrev s_qav : Stmt := top 23
theorem sc_qav : FnScope ["thing", "houses", "others", "close", "clauses"] ["thing"] (defScope s_qav) := ⟨rfl, rfl, rfl, by decide +kernel, rfl, by decide +kernel, by decide +kernel⟩
theorem ok_qav {f_me : Addr} {fd_me : FuncData} {f_qbc f_qaq f_qba f_qau f_qat d_EVENTS f_qay f_qbd f_qaw : Addr} {fd_qbc fd_qaq fd_qba fd_qau fd_qat : FuncData} (Fn : Fun K "is_deal" "is_deal" s_qav f_me fd_me) (T : Txt mg) (G_qbc : FnOk P w K mg base CX0 1 f_qbc fd_qbc ["thing", "least", "most"] (liftSp K F_qbc)) (m_qbc : mg "is_row_of" = some (.ref f_qbc)) (k_qbc : W.keepIn K (.ref f_qbc) = true) (b_qbc : L2.Binds K fd_qbc ["thing", "least", "most"] []) (G_qaq : FnOk P w K mg base CX0 2 f_qaq fd_qaq ["thing", "least", "most"] (liftSp K F_qaq)) (m_qaq : mg "are_words" = some (.ref f_qaq)) (k_qaq : W.keepIn K (.ref f_qaq) = true) (b_qaq : L2.Binds K fd_qaq ["thing", "least", "most"] []) (G_qba : FnOk P w K mg base CX0 1 f_qba fd_qba ["thing", "least"] (liftSp K F_qba)) (m_qba : mg "is_number" = some (.ref f_qba)) (k_qba : W.keepIn K (.ref f_qba) = true) (b_qba : L2.Binds K fd_qba ["thing", "least"] []) (G_qau : FnOk P w K mg base CX0 3 f_qau fd_qau ["thing", "houses"] (liftSp K F_qau)) (m_qau : mg "is_clause" = some (.ref f_qau)) (k_qau : W.keepIn K (.ref f_qau) = true) (b_qau : L2.Binds K fd_qau ["thing", "houses"] []) (G_qat : FnOk P w K mg base CX0 5 f_qat fd_qat ["own", "deal"] (liftSp K (F_qat d_EVENTS f_qay f_qbd f_qaw))) (m_qat : mg "has_good_events" = some (.ref f_qat)) (k_qat : W.keepIn K (.ref f_qat) = true) (b_qat : L2.Binds K fd_qat ["own", "deal"] []) : FnOk P w K mg base CX0 6 f_me fd_me ["thing"] (liftSp K (F_qav d_EVENTS f_qay f_qbd f_qaw)) :=
 Zau Fn sc_qav fun cdv A outer s H E hr => (@Zaf _ _ _ _ _ (@Zat _ _ _ _ _ _ _ _ (Zao (Zan (Zae G_qbc (hr.mono (by decide)) (by rfl) m_qbc k_qbc b_qbc (@Zaa _ _ _ _ _ (Zab 0) (@Zaa _ _ _ _ _ Zad (@Zaa _ _ _ _ _ Zad Zac (by rfl)) (by rfl)) (by rfl))))) (@Zah _ _ _ (@Zai _ _ _ _ ZaG)) Zaq) (@Zaf _ _ _ _ _ (Zbo (Zab 0) (Zbp rfl (Zam (Zaj (i := 1) sc_qav.nd rfl (Or.inr rfl)) (Zam (Zaj (i := 2) sc_qav.nd rfl (Or.inl rfl)) (Zam (Zaj (i := 3) sc_qav.nd rfl (Or.inl rfl)) (Zam (Zaj (i := 4) sc_qav.nd rfl (Or.inl rfl)) Za8)))))) (@Zaf _ _ _ _ _ (@Zat _ _ _ _ _ _ _ _ (Zbi (ZaH (Zao (Zan (Zae G_qaq (hr.mono (by decide)) (by rfl) m_qaq k_qaq b_qaq (@Zaa _ _ _ _ _ (Zab 1) (@Zaa _ _ _ _ _ Zad (@Zaa _ _ _ _ _ (ZaJ (by rfl) T.c_MOST_HOUSES) Zac (by rfl)) (by rfl)) (by rfl))))) (ZaH (ZaB op_inAll in_ok.r (Zb7 (by rfl) T.c_JUDGE) (Zab 1) rfl) (ZaN (Zao (Zan (Zae G_qaq (hr.mono (by decide)) (by rfl) m_qaq k_qaq b_qaq (@Zaa _ _ _ _ _ (Zab 2) (@Zaa _ _ _ _ _ Zad (@Zaa _ _ _ _ _ (ZaJ (by rfl) T.c_MOST_OTHERS) Zac (by rfl)) (by rfl)) (by rfl))))))))) (@Zah _ _ _ (@Zai _ _ _ _ ZaG)) Zaq) (@Zaf _ _ _ _ _ (@Zat _ _ _ _ _ _ _ _ (Zbi (ZaH (Zao (Zan (Zae G_qba (hr.mono (by decide)) (by rfl) m_qba k_qba b_qba (@Zaa _ _ _ _ _ (Zab 3) (@Zaa _ _ _ _ _ Zad Zac (by rfl)) (by rfl))))) (ZaN (Zao (Zan (Zae G_qbc (hr.mono (by decide)) (by rfl) m_qbc k_qbc b_qbc (@Zaa _ _ _ _ _ (Zab 4) (@Zaa _ _ _ _ _ Zad (@Zaa _ _ _ _ _ (ZaJ (by rfl) T.c_MOST_CLAUSES) Zac (by rfl)) (by rfl)) (by rfl)))))))) (@Zah _ _ _ (@Zai _ _ _ _ ZaG)) Zaq) (@Zaf _ _ _ _ _ (@Zat _ _ _ _ _ _ _ _ (Zao (Zan (Zbs rfl (by rfl) T.b_all (by rfl) (@Zaa _ _ _ _ _ (ZaU (ZaL (vs := ["clause"]) (fs := ["houses"]) (fr := [1]) (by exact ⟨rfl, rfl, rfl, rfl, rfl, rfl, rfl⟩) rfl (Zbd (Zab 4)) (fun _ _ _ _ _ => (Zaj (i := 0) (show ((["clause"] : List Str) ++ (["houses"] : List Str)).Nodup by decide +kernel) rfl (Or.inl rfl))) (fun _ _ _ _ _ => ZaP) (fun _ _ _ _ _ => (Zae G_qau (hr.mono (by decide)) (by rfl) m_qau k_qau b_qau (@Zaa _ _ _ _ _ (Zab 0) (@Zaa _ _ _ _ _ (Zax (by rfl) T.b_len (@Zaa _ _ _ _ _ (Zab 1) Zac (by rfl))) Zac (by rfl)) (by rfl)))))) Zac (by rfl))))) (@Zah _ _ _ (@Zai _ _ _ _ ZaG)) Zaq) (@Zah _ _ _ (@Zai _ _ _ _ (Zbs rfl (by rfl) T.b_all (by rfl) (@Zaa _ _ _ _ _ (ZaU (ZaL (vs := ["own"]) (fs := ["thing"]) (fr := [0]) (by exact ⟨rfl, rfl, rfl, rfl, rfl, rfl, rfl⟩) rfl (ZaT (by rfl) T.b_range (@Zaa _ _ _ _ _ (Zax (by rfl) T.b_len (@Zaa _ _ _ _ _ (Zab 4) Zac (by rfl))) Zac (by rfl))) (fun _ _ _ _ _ => (Zaj (i := 0) (show ((["own"] : List Str) ++ (["thing"] : List Str)).Nodup by decide +kernel) rfl (Or.inl rfl))) (fun _ _ _ _ _ => ZaP) (fun _ _ _ _ _ => (Zae G_qat (hr.mono (by decide)) (by rfl) m_qat k_qat b_qat (@Zaa _ _ _ _ _ (Zab 0) (@Zaa _ _ _ _ _ (Zab 1) Zac (by rfl)) (by rfl)))))) Zac (by rfl))))))))))
end
section
variable {P : Program} {w : World} {K : W.Frag} {mg : Str -> Option Value} {base : Heap}
noncomputable abbrev s_qar : Stmt := top 24
theorem sc_qar : FnScope ["deal"] ["deal"] (defScope s_qar) := ⟨rfl, rfl, rfl, by decide +kernel, rfl, by decide +kernel, by decide +kernel⟩
theorem ok_qar {f_me : Addr} {fd_me : FuncData} (Fn : Fun K "end_of" "end_of" s_qar f_me fd_me) (T : Txt mg) : FnOk P w K mg base CX0 1 f_me fd_me ["deal"] (liftSp K (F_qar)) :=
 Zau Fn sc_qar fun cdv A outer s H E hr => (@Zah _ _ _ (@Zai _ _ _ _ (Zay (Zak (ZaI hr) (Zab 0) Zad) (q_em_maxL rfl (by rfl) T.b_max (by rfl) (@Zaa _ _ _ _ _ (ZaU (ZaL (vs := ["clause"]) (fs := []) (fr := []) (by exact ⟨rfl, rfl, rfl, rfl, rfl, rfl, rfl⟩) rfl (Zbd (Zak (ZaI hr) (Zab 0) Zad)) (fun _ _ _ _ _ => (Zaj (i := 0) (show ((["clause"] : List Str) ++ ([] : List Str)).Nodup by decide +kernel) rfl (Or.inl rfl))) (fun _ _ _ _ _ => ZaP) (fun _ _ _ _ _ => (Zak (ZaI hr) (Zab 0) Zad)))) Zac (by rfl))))))
end
section
variable {P : Program} {w : World} {K : W.Frag} {mg : Str -> Option Value} {base : Heap}
noncomputable abbrev s_qaa : Stmt := top 26
theorem sc_qaa : FnScope ["_law_script", "_law_k"] ["_law_script", "_law_k"] (defScope s_qaa) := ⟨rfl, rfl, rfl, by decide +kernel, rfl, by decide +kernel, by decide +kernel⟩
theorem ok_qaa {f_me : Addr} {fd_me : FuncData} (Fn : Fun K "_law_cell_at" "_law_cell_at" s_qaa f_me fd_me) (T : Txt mg) : FnOk P w K mg base CX0 1 f_me fd_me ["_law_script", "_law_k"] (liftSp K (F_qaa)) :=
 Zau Fn sc_qaa fun cdv A outer s H E hr => (@Zaf _ _ _ _ _ (@Zat _ _ _ _ _ _ _ _ (ZaB op_lt lt_ok.r (Zab 1) (Zax (by rfl) T.b_len (@Zaa _ _ _ _ _ (Zab 0) Zac (by rfl))) (nomark _)) (@Zah _ _ _ (@Zai _ _ _ _ (Zak (ZaI hr) (Zab 0) (Zab 1)))) Zaq) (@Zah _ _ _ (@Zai _ _ _ _ Zad)))
end
section
variable {P : Program} {w : World} {K : W.Frag} {mg : Str -> Option Value} {base : Heap}
noncomputable abbrev s_qag : Stmt := top 27
theorem Zby : FnScope ["_law_script", "_law_k", "_law_cell", "_law_seed"] ["_law_script", "_law_k"] (defScope s_qag) := ⟨rfl, rfl, rfl, by decide +kernel, rfl, by decide +kernel, by decide +kernel⟩
theorem ok_qag {f_me : Addr} {fd_me : FuncData} {f_qaa : Addr} {fd_qaa : FuncData} (Fn : Fun K "_law_left" "_law_left" s_qag f_me fd_me) (T : Txt mg) (G_qaa : FnOk P w K mg base CX0 1 f_qaa fd_qaa ["_law_script", "_law_k"] (liftSp K F_qaa)) (m_qaa : mg "_law_cell_at" = some (.ref f_qaa)) (k_qaa : W.keepIn K (.ref f_qaa) = true) (b_qaa : L2.Binds K fd_qaa ["_law_script", "_law_k"] []) : FnOk P w K mg base CX0 2 f_me fd_me ["_law_script", "_law_k"] (liftSp K (F_qag)) :=
 Zau Fn Zby fun cdv A outer s H E hr => (@Zaf _ _ _ _ _ (Zap (i := 2) Zby.nd rfl (Or.inl rfl) (Zae G_qaa (hr.mono (by decide)) (by rfl) m_qaa k_qaa b_qaa (@Zaa _ _ _ _ _ (Zab 0) (@Zaa _ _ _ _ _ (Zaz (Zab 1) (Za1 rfl (by rfl) T.b_max (by rfl) (@Zaa _ _ _ _ _ Zad (@Zaa _ _ _ _ _ (Zax (by rfl) T.b_len (@Zaa _ _ _ _ _ (Zab 0) Zac (by rfl))) Zac (by rfl)) (by rfl)))) Zac (by rfl)) (by rfl)))) (@Zaf _ _ _ _ _ (Zap (i := 3) Zby.nd rfl (Or.inl rfl) (Zaz (ZaX (Zay (Zay (Zaz (Zab 2) Zad) (ZaX (ZaX Zad (Zab 1)) (Zab 1))) Zad) Zad) Zad)) (@Zaf _ _ _ _ _ (@Zat _ _ _ _ _ _ _ _ (ZaB Zb1 Zb2.r (Zaz (Zae G_qaa (hr.mono (by decide)) (by rfl) m_qaa k_qaa b_qaa (@Zaa _ _ _ _ _ (Zab 0) (@Zaa _ _ _ _ _ Zad Zac (by rfl)) (by rfl))) Zad) Zad (nomark _)) (@Zah _ _ _ (Zap (i := 2) Zby.nd rfl (Or.inl rfl) Zad)) Zaq) (@Zah _ _ _ (Zbn (Zbq (@Zaa _ _ _ _ _ (Zaz (Zab 2) (q_em_pow Zad Zad)) (@Zaa _ _ _ _ _ (Zab 3) Zac (by rfl)) (by rfl))))))))
theorem okF_qag {f_me : Addr} {fd_me : FuncData} {f_qaa : Addr} {fd_qaa : FuncData} (Fn : Fun K "_law_left" "_law_left" s_qag f_me fd_me) (T : Txt mg) (G_qaa : FnOk P w K mg base CX0 1 f_qaa fd_qaa ["_law_script", "_law_k"] (liftSp K F_qaa)) (m_qaa : mg "_law_cell_at" = some (.ref f_qaa)) (k_qaa : W.keepIn K (.ref f_qaa) = true) (b_qaa : L2.Binds K fd_qaa ["_law_script", "_law_k"] []) : FnOk P w K mg base CX0 2 f_me fd_me ["_law_script", "_law_k"] (liftSpF K (FF_qag)) :=
 q_fn_mkF Fn Zby fun cdv A outer s H E hr => (@Zaf _ _ _ _ _ (Zap (i := 2) Zby.nd rfl (Or.inl rfl) (Zae G_qaa (hr.mono (by decide)) (by rfl) m_qaa k_qaa b_qaa (@Zaa _ _ _ _ _ (Zab 0) (@Zaa _ _ _ _ _ (Zaz (Zab 1) (Za1 rfl (by rfl) T.b_max (by rfl) (@Zaa _ _ _ _ _ Zad (@Zaa _ _ _ _ _ (Zax (by rfl) T.b_len (@Zaa _ _ _ _ _ (Zab 0) Zac (by rfl))) Zac (by rfl)) (by rfl)))) Zac (by rfl)) (by rfl)))) (@Zaf _ _ _ _ _ (Zap (i := 3) Zby.nd rfl (Or.inl rfl) (Zaz (ZaX (Zay (Zay (Zaz (Zab 2) Zad) (ZaX (ZaX Zad (Zab 1)) (Zab 1))) Zad) Zad) Zad)) (@Zaf _ _ _ _ _ (@Zat _ _ _ _ _ _ _ _ (ZaB Zb1 Zb2.r (Zaz (Zae G_qaa (hr.mono (by decide)) (by rfl) m_qaa k_qaa b_qaa (@Zaa _ _ _ _ _ (Zab 0) (@Zaa _ _ _ _ _ Zad Zac (by rfl)) (by rfl))) Zad) Zad (nomark _)) (@Zah _ _ _ (Zap (i := 2) Zby.nd rfl (Or.inl rfl) Zad)) Zaq) (@Zah _ _ _ (Zbn (Zbq (@Zaa _ _ _ _ _ (Zaz (Zab 2) (q_em_pow Zad Zad)) (@Zaa _ _ _ _ _ (Zab 3) Zac (by rfl)) (by rfl))))))))
end
section
variable {P : Program} {w : World} {K : W.Frag} {mg : Str -> Option Value} {base : Heap}
noncomputable abbrev s_qak : Stmt := top 28
theorem sc_qak : FnScope ["_law_left_here", "_law_many", "_law_digit"] ["_law_left_here", "_law_many"] (defScope s_qak) := ⟨rfl, rfl, rfl, by decide +kernel, rfl, by decide +kernel, by decide +kernel⟩
theorem ok_qak {f_me : Addr} {fd_me : FuncData} (Fn : Fun K "_law_pick" "_law_pick" s_qak f_me fd_me) (T : Txt mg) : FnOk P w K mg base CX0 1 f_me fd_me ["_law_left_here", "_law_many"] (liftSp K (F_qak)) :=
 Zau Fn sc_qak fun cdv A outer s H E hr => (@Zaf _ _ _ _ _ (@Zat _ _ _ _ _ _ _ _ (ZaB op_gt gt_ok.r (Zak (ZaI hr) (Zab 0) Zad) Zad (nomark _)) (@Zaf _ _ _ _ _ (Zap (i := 2) sc_qak.nd rfl (Or.inl rfl) (Zaz (Zak (ZaI hr) (Zab 0) Zad) (Zab 1))) (@Zaf _ _ _ _ _ (Zb5 (q_em_fdiv (Zak (ZaI hr) (Zab 0) Zad) (Zab 1)) (Zab 0) Zad) (@Zah _ _ _ (@Zai _ _ _ _ (Zab 2))))) Zaq) (@Zaf _ _ _ _ _ (Zb5 (Zaz (Zay (ZaX (Zak (ZaI hr) (Zab 0) Zad) Zad) Zad) Zad) (Zab 0) Zad) (@Zah _ _ _ (@Zai _ _ _ _ (Zaz (Zaz (ZaX (Zak (ZaI hr) (Zab 0) Zad) (Zak (ZaI hr) (Zab 0) Zad)) Zad) (Zab 1))))))
end
section
variable {P : Program} {w : World} {K : W.Frag} {mg : Str -> Option Value} {base : Heap}
noncomputable abbrev s_qam : Stmt := top 29
theorem sc_qam : FnScope ["_law_left_here", "_law_least", "_law_most", "_law_way"] ["_law_left_here", "_law_least", "_law_most"] (defScope s_qam) := ⟨rfl, rfl, rfl, by decide +kernel, rfl, by decide +kernel, by decide +kernel⟩
theorem ok_qam {f_me : Addr} {fd_me : FuncData} {f_qak : Addr} {fd_qak : FuncData} (Fn : Fun K "_law_size" "_law_size" s_qam f_me fd_me) (T : Txt mg) (G_qak : FnOk P w K mg base CX0 1 f_qak fd_qak ["_law_left_here", "_law_many"] (liftSp K F_qak)) (m_qak : mg "_law_pick" = some (.ref f_qak)) (k_qak : W.keepIn K (.ref f_qak) = true) (b_qak : L2.Binds K fd_qak ["_law_left_here", "_law_many"] []) : FnOk P w K mg base CX0 2 f_me fd_me ["_law_left_here", "_law_least", "_law_most"] (liftSp K (F_qam)) :=
 Zau Fn sc_qam fun cdv A outer s H E hr => (@Zaf _ _ _ _ _ (Zap (i := 3) sc_qam.nd rfl (Or.inl rfl) (Zae G_qak (hr.mono (by decide)) (by rfl) m_qak k_qak b_qak (@Zaa _ _ _ _ _ (Zab 0) (@Zaa _ _ _ _ _ Zad Zac (by rfl)) (by rfl)))) (@Zaf _ _ _ _ _ (@Zat _ _ _ _ _ _ _ _ (ZaB Zb1 Zb2.r (Zab 3) Zad (nomark _)) (@Zah _ _ _ (@Zai _ _ _ _ (Zay (Zab 2) Zad))) Zaq) (@Zaf _ _ _ _ _ (@Zat _ _ _ _ _ _ _ _ (ZaB Zb1 Zb2.r (Zab 3) Zad (nomark _)) (@Zah _ _ _ (@Zai _ _ _ _ (Za1 rfl (by rfl) T.b_max (by rfl) (@Zaa _ _ _ _ _ Zad (@Zaa _ _ _ _ _ (ZbH (Zab 1) Zad) Zac (by rfl)) (by rfl))))) Zaq) (@Zaf _ _ _ _ _ (@Zat _ _ _ _ _ _ _ _ (ZaB op_lt lt_ok.r (Zab 3) Zad (nomark _)) (@Zah _ _ _ (@Zai _ _ _ _ (Zab 2))) Zaq) (@Zah _ _ _ (@Zai _ _ _ _ (Zay (Zab 1) (Zae G_qak (hr.mono (by decide)) (by rfl) m_qak k_qak b_qak (@Zaa _ _ _ _ _ (Zab 0) (@Zaa _ _ _ _ _ (Zay (ZbH (Zab 2) (Zab 1)) Zad) Zac (by rfl)) (by rfl))))))))))
end
section
variable {P : Program} {w : World} {K : W.Frag} {mg : Str -> Option Value} {base : Heap}
noncomputable abbrev s_qai : Stmt := top 30
theorem sc_qai : FnScope ["_law_many", "_law_size_here"] ["_law_many", "_law_size_here"] (defScope s_qai) := ⟨rfl, rfl, rfl, by decide +kernel, rfl, by decide +kernel, by decide +kernel⟩
theorem ok_qai {f_me : Addr} {fd_me : FuncData} (Fn : Fun K "_law_names" "_law_names" s_qai f_me fd_me) (T : Txt mg) : FnOk P w K mg base CX0 1 f_me fd_me ["_law_many", "_law_size_here"] (liftSp K (F_qai)) :=
 Zau Fn sc_qai fun cdv A outer s H E hr => (@Zah _ _ _ (Zbn (ZaL (vs := ["_law_k"]) (fs := ["_law_size_here"]) (fr := [1]) (by exact ⟨rfl, rfl, rfl, rfl, rfl, rfl, rfl⟩) rfl (ZaT (by rfl) T.b_range (@Zaa _ _ _ _ _ (Zab 0) Zac (by rfl))) (fun _ _ _ _ _ => (Zaj (i := 0) (show ((["_law_k"] : List Str) ++ (["_law_size_here"] : List Str)).Nodup by decide +kernel) rfl (Or.inl rfl))) (fun _ _ _ _ _ => ZaP) (fun _ _ _ _ _ => (Zay (Zak (ZaI hr) ZaW (Zab 0)) (q_em_mulS ZaW (ZbH (Zab 1) Zad)))))))
theorem okF_qai {f_me : Addr} {fd_me : FuncData} (Fn : Fun K "_law_names" "_law_names" s_qai f_me fd_me) (T : Txt mg) : FnOk P w K mg base CX0 1 f_me fd_me ["_law_many", "_law_size_here"] (liftSpF K (FF_qai)) :=
 q_fn_mkF Fn sc_qai fun cdv A outer s H E hr => (@Zah _ _ _ (Zbn (ZaL (vs := ["_law_k"]) (fs := ["_law_size_here"]) (fr := [1]) (by exact ⟨rfl, rfl, rfl, rfl, rfl, rfl, rfl⟩) rfl (ZaT (by rfl) T.b_range (@Zaa _ _ _ _ _ (Zab 0) Zac (by rfl))) (fun _ _ _ _ _ => (Zaj (i := 0) (show ((["_law_k"] : List Str) ++ (["_law_size_here"] : List Str)).Nodup by decide +kernel) rfl (Or.inl rfl))) (fun _ _ _ _ _ => ZaP) (fun _ _ _ _ _ => (Zay (Zak (ZaI hr) ZaW (Zab 0)) (q_em_mulS ZaW (ZbH (Zab 1) Zad)))))))
end
section
variable {P : Program} {w : World} {K : W.Frag} {mg : Str -> Option Value} {base : Heap}
noncomputable abbrev s_qao : Stmt := top 31
theorem sc_qao : FnScope ["_law_left_here"] ["_law_left_here"] (defScope s_qao) := ⟨rfl, rfl, rfl, by decide +kernel, rfl, by decide +kernel, by decide +kernel⟩
theorem ok_qao {f_me : Addr} {fd_me : FuncData} {f_qak : Addr} {fd_qak : FuncData} (Fn : Fun K "_law_time" "_law_time" s_qao f_me fd_me) (T : Txt mg) (G_qak : FnOk P w K mg base CX0 1 f_qak fd_qak ["_law_left_here", "_law_many"] (liftSp K F_qak)) (m_qak : mg "_law_pick" = some (.ref f_qak)) (k_qak : W.keepIn K (.ref f_qak) = true) (b_qak : L2.Binds K fd_qak ["_law_left_here", "_law_many"] []) : FnOk P w K mg base CX0 2 f_me fd_me ["_law_left_here"] (liftSp K (F_qao)) :=
 Zau Fn sc_qao fun cdv A outer s H E hr => (@Zah _ _ _ (@Zai _ _ _ _ (Zak (ZaI hr) (ZaU (Zbq (@Zaa _ _ _ _ _ (Zae G_qak (hr.mono (by decide)) (by rfl) m_qak k_qak b_qak (@Zaa _ _ _ _ _ (Zab 0) (@Zaa _ _ _ _ _ Zad Zac (by rfl)) (by rfl))) (@Zaa _ _ _ _ _ (Zae G_qak (hr.mono (by decide)) (by rfl) m_qak k_qak b_qak (@Zaa _ _ _ _ _ (Zab 0) (@Zaa _ _ _ _ _ Zad Zac (by rfl)) (by rfl))) (@Zaa _ _ _ _ _ (Zay (q_em_pow Zad Zad) (Zae G_qak (hr.mono (by decide)) (by rfl) m_qak k_qak b_qak (@Zaa _ _ _ _ _ (Zab 0) (@Zaa _ _ _ _ _ Zad Zac (by rfl)) (by rfl)))) Zac (by rfl)) (by rfl)) (by rfl)))) (Zae G_qak (hr.mono (by decide)) (by rfl) m_qak k_qak b_qak (@Zaa _ _ _ _ _ (Zab 0) (@Zaa _ _ _ _ _ Zad Zac (by rfl)) (by rfl))))))
end
section
variable {P : Program} {w : World} {K : W.Frag} {mg : Str -> Option Value} {base : Heap}
noncomputable abbrev s_qac : Stmt := top 32
theorem ZaO : FnScope ["_law_left_here", "_law_houses", "_law_others", "_law_size_here", "_law_close", "_law_clauses", "_law_good", "_law_end", "_law_c", "_law_debtor", "_law_creditor", "_law_parts", "_law_many", "_law_within", "_law_conds", "_law_words"] ["_law_left_here"] (defScope s_qac) := ⟨rfl, rfl, rfl, by decide +kernel, rfl, by decide +kernel, by decide +kernel⟩
theorem ok_qac {f_me : Addr} {fd_me : FuncData} {f_qam f_qao f_qak f_qai : Addr} {fd_qam fd_qao fd_qak fd_qai : FuncData} (Fn : Fun K "_law_deal" "_law_deal" s_qac f_me fd_me) (T : Txt mg) (G_qam : FnOk P w K mg base CX0 2 f_qam fd_qam ["_law_left_here", "_law_least", "_law_most"] (liftSp K F_qam)) (m_qam : mg "_law_size" = some (.ref f_qam)) (k_qam : W.keepIn K (.ref f_qam) = true) (b_qam : L2.Binds K fd_qam ["_law_left_here", "_law_least", "_law_most"] []) (G_qao : FnOk P w K mg base CX0 2 f_qao fd_qao ["_law_left_here"] (liftSp K F_qao)) (m_qao : mg "_law_time" = some (.ref f_qao)) (k_qao : W.keepIn K (.ref f_qao) = true) (b_qao : L2.Binds K fd_qao ["_law_left_here"] []) (G_qak : FnOk P w K mg base CX0 1 f_qak fd_qak ["_law_left_here", "_law_many"] (liftSp K F_qak)) (m_qak : mg "_law_pick" = some (.ref f_qak)) (k_qak : W.keepIn K (.ref f_qak) = true) (b_qak : L2.Binds K fd_qak ["_law_left_here", "_law_many"] []) (G_qai : FnOk P w K mg base CX0 1 f_qai fd_qai ["_law_many", "_law_size_here"] (liftSp K F_qai)) (m_qai : mg "_law_names" = some (.ref f_qai)) (k_qai : W.keepIn K (.ref f_qai) = true) (b_qai : L2.Binds K fd_qai ["_law_many", "_law_size_here"] []) (GF_qai : FnOk P w K mg base CX0 1 f_qai fd_qai ["_law_many", "_law_size_here"] (liftSpF K FF_qai)) : FnOk P w K mg base CX0 3 f_me fd_me ["_law_left_here"] (liftSp K (F_qac)) :=
 Zau Fn ZaO fun cdv A outer s H E hr => (@Zaf _ _ _ _ _ (Zap (i := 1) ZaO.nd rfl (Or.inl rfl) (Za1 rfl (by rfl) T.b_max (by rfl) (@Zaa _ _ _ _ _ Zad (@Zaa _ _ _ _ _ (Zae G_qam (hr.mono (by decide)) (by rfl) m_qam k_qam b_qam (@Zaa _ _ _ _ _ (Zab 0) (@Zaa _ _ _ _ _ Zad (@Zaa _ _ _ _ _ Zad Zac (by rfl)) (by rfl)) (by rfl))) Zac (by rfl)) (by rfl)))) (@Zaf _ _ _ _ _ (Zap (i := 2) ZaO.nd rfl (Or.inl rfl) (Zae G_qam (hr.mono (by decide)) (by rfl) m_qam k_qam b_qam (@Zaa _ _ _ _ _ (Zab 0) (@Zaa _ _ _ _ _ Zad (@Zaa _ _ _ _ _ Zad Zac (by rfl)) (by rfl)) (by rfl)))) (@Zaf _ _ _ _ _ (Zap (i := 3) ZaO.nd rfl (Or.inl rfl) (Za1 rfl (by rfl) T.b_max (by rfl) (@Zaa _ _ _ _ _ Zad (@Zaa _ _ _ _ _ (Zae G_qam (hr.mono (by decide)) (by rfl) m_qam k_qam b_qam (@Zaa _ _ _ _ _ (Zab 0) (@Zaa _ _ _ _ _ Zad (@Zaa _ _ _ _ _ Zad Zac (by rfl)) (by rfl)) (by rfl))) Zac (by rfl)) (by rfl)))) (@Zaf _ _ _ _ _ (Zap (i := 4) ZaO.nd rfl (Or.inl rfl) (Zae G_qao (hr.mono (by decide)) (by rfl) m_qao k_qao b_qao (@Zaa _ _ _ _ _ (Zab 0) Zac (by rfl)))) (@Zaf _ _ _ _ _ (q_sm_new (i := 5) ZaO.nd rfl (Or.inl rfl) (Zbq Zac)) (@Zaf _ _ _ _ _ (Zap (i := 6) ZaO.nd rfl (Or.inl rfl) (Zas (Zbe Zbv Zbv Zbw.r Zbw.r Zad (Zab 1) Zad) (Zas (ZaD Zbv Zbw.r (Zab 2) Zad (nomark _)) (ZaC (ZaD Zbv Zbw.r (Zab 3) Zad (nomark _)))))) (@Zaf _ _ _ _ _ (Zap (i := 7) ZaO.nd rfl (Or.inl rfl) (Zab 4)) (@Zaf _ _ _ _ _ (q_sm_for PassesOwn.never rfl (ZaT (by rfl) T.b_range (@Zaa _ _ _ _ _ (Zae G_qam (hr.mono (by decide)) (by rfl) m_qam k_qam b_qam (@Zaa _ _ _ _ _ (Zab 0) (@Zaa _ _ _ _ _ Zad (@Zaa _ _ _ _ _ Zad Zac (by rfl)) (by rfl)) (by rfl))) Zac (by rfl))) (Zaj (i := 8) ZaO.nd rfl (Or.inl rfl)) (@Zaf _ _ _ _ _ (Zap (i := 9) ZaO.nd rfl (Or.inr rfl) (Zae G_qak (hr.mono (by decide)) (by rfl) m_qak k_qak b_qak (@Zaa _ _ _ _ _ (Zab 0) (@Zaa _ _ _ _ _ (Zab 1) Zac (by rfl)) (by rfl)))) (@Zaf _ _ _ _ _ (Zap (i := 10) ZaO.nd rfl (Or.inl rfl) (Zaz (Zay (Zab 9) Zad) (Zab 1))) (@Zaf _ _ _ _ _ (q_sm_par3 (i := 11) (j := 12) (l := 13) rfl ZaO.nd rfl rfl rfl (by decide) (by decide) (by decide) rfl rfl rfl (@Zaa _ _ _ _ _ (Zae G_qam (hr.mono (by decide)) (by rfl) m_qam k_qam b_qam (@Zaa _ _ _ _ _ (Zab 0) (@Zaa _ _ _ _ _ Zad (@Zaa _ _ _ _ _ Zad Zac (by rfl)) (by rfl)) (by rfl))) (@Zaa _ _ _ _ _ (Zae G_qam (hr.mono (by decide)) (by rfl) m_qam k_qam b_qam (@Zaa _ _ _ _ _ (Zab 0) (@Zaa _ _ _ _ _ Zad (@Zaa _ _ _ _ _ Zad Zac (by rfl)) (by rfl)) (by rfl))) (@Zaa _ _ _ _ _ (Zae G_qao (hr.mono (by decide)) (by rfl) m_qao k_qao b_qao (@Zaa _ _ _ _ _ (Zab 0) Zac (by rfl))) Zac (by rfl)) (by rfl)) (by rfl)) (by rfl)) (@Zaf _ _ _ _ _ (Zap (i := 14) ZaO.nd rfl (Or.inl rfl) (Zbr (by rfl) T.b_tuple (by rfl) (@Zaa _ _ _ _ _ (ZaU (ZaL (vs := ["_law_word"]) (fs := ["_law_debtor"]) (fr := [9]) (by exact ⟨rfl, rfl, rfl, rfl, rfl, rfl, rfl⟩) rfl (Zbd (Zae G_qai (hr.mono (by decide)) (by rfl) m_qai k_qai b_qai (@Zaa _ _ _ _ _ (Zab 12) (@Zaa _ _ _ _ _ (Zab 3) Zac (by rfl)) (by rfl)))) (fun _ _ _ _ _ => (Zaj (i := 0) (show ((["_law_word"] : List Str) ++ (["_law_debtor"] : List Str)).Nodup by decide +kernel) rfl (Or.inl rfl))) (fun _ _ _ _ _ => ZaP) (fun _ _ _ _ _ => (Zar (@Zaa _ _ _ _ _ ZaW (@Zaa _ _ _ _ _ (Zab 1) (@Zaa _ _ _ _ _ (Zab 0) Zac (by rfl)) (by rfl)) (by rfl)))))) Zac (by rfl)))) (@Zaf _ _ _ _ _ (q_sm_expr (q_em_append (Zab 5) (@Zaa _ _ _ _ _ (Zar (@Zaa _ _ _ _ _ (Zab 9) (@Zaa _ _ _ _ _ (Zab 10) (@Zaa _ _ _ _ _ (Zab 11) (@Zaa _ _ _ _ _ (Zab 13) (@Zaa _ _ _ _ _ (Zab 14) (@Zaa _ _ _ _ _ (Zak (ZaI hr) (ZaU (Zbq (@Zaa _ _ _ _ _ (Zar Zac) (@Zaa _ _ _ _ _ (Zar (@Zaa _ _ _ _ _ (Zar (@Zaa _ _ _ _ _ ZaW (@Zaa _ _ _ _ _ (Zab 10) Zac (by rfl)) (by rfl))) (@Zaa _ _ _ _ _ Zad Zac (by rfl)) (by rfl))) Zac (by rfl)) (by rfl)))) (Zae G_qak (hr.mono (by decide)) (by rfl) m_qak k_qak b_qak (@Zaa _ _ _ _ _ (Zab 0) (@Zaa _ _ _ _ _ Zad Zac (by rfl)) (by rfl)))) Zac (by rfl)) (by rfl)) (by rfl)) (by rfl)) (by rfl)) (by rfl))) Zac (by rfl)))) (@Zaf _ _ _ _ _ (Zap (i := 6) ZaO.nd rfl (Or.inl rfl) (Zas (Zab 6) (Zas (Zbe Zbv Zbv Zbw.r Zbw.r Zad (Zab 11) Zad) (Zas (ZaD Zbv Zbw.r (Zab 12) Zad (nomark _)) (ZaC (ZaD op_gt gt_ok.r (Zab 13) Zad (nomark _))))))) (@Zah _ _ _ (Zap (i := 7) ZaO.nd rfl (Or.inl rfl) (Za1 rfl (by rfl) T.b_max (by rfl) (@Zaa _ _ _ _ _ (Zab 7) (@Zaa _ _ _ _ _ (Zay (Zab 4) (Zab 13)) Zac (by rfl)) (by rfl)))))))))))) (@Zaf _ _ _ _ _ (q_sm_new (i := 15) ZaO.nd rfl (Or.inl rfl) (q_fm_call GF_qai (hr.mono (by decide)) (by rfl) m_qai k_qai b_qai (@Zaa _ _ _ _ _ (Zab 2) (@Zaa _ _ _ _ _ (Zab 3) Zac (by rfl)) (by rfl)))) (@Zaf _ _ _ _ _ (q_sm_expr (q_em_rev (Zab 15))) (@Zaf _ _ _ _ _ (Zap (i := 6) ZaO.nd rfl (Or.inl rfl) (Zas (Zab 6) (ZaC (Zbe Zbv Zbv Zbw.r Zbw.r Zad (Zax (by rfl) T.b_len (@Zaa _ _ _ _ _ (Zab 5) Zac (by rfl))) Zad)))) (@Zah _ _ _ (@Zai _ _ _ _ (Zar (@Zaa _ _ _ _ _ (Zar (@Zaa _ _ _ _ _ (Zbr (by rfl) T.b_tuple (by rfl) (@Zaa _ _ _ _ _ (Zae G_qai (hr.mono (by decide)) (by rfl) m_qai k_qai b_qai (@Zaa _ _ _ _ _ (Zab 1) (@Zaa _ _ _ _ _ (Zab 3) Zac (by rfl)) (by rfl))) Zac (by rfl))) (@Zaa _ _ _ _ _ (Zbr (by rfl) T.b_tuple (by rfl) (@Zaa _ _ _ _ _ (Zab 15) Zac (by rfl))) (@Zaa _ _ _ _ _ (Zab 4) (@Zaa _ _ _ _ _ (Zbr (by rfl) T.b_tuple (by rfl) (@Zaa _ _ _ _ _ (Zab 5) Zac (by rfl))) Zac (by rfl)) (by rfl)) (by rfl)) (by rfl))) (@Zaa _ _ _ _ _ (Zab 6) (@Zaa _ _ _ _ _ (Zab 7) Zac (by rfl)) (by rfl)) (by rfl))))))))))))))))
end
section
variable {P : Program} {w : World} {K : W.Frag} {mg : Str -> Option Value} {base : Heap}
noncomputable abbrev s_qae : Stmt := top 33
theorem sc_qae : FnScope ["_law_found", "_law_due"] ["_law_found", "_law_due"] (defScope s_qae) := ⟨rfl, rfl, rfl, by decide +kernel, rfl, by decide +kernel, by decide +kernel⟩
theorem ok_qae {f_me : Addr} {fd_me : FuncData} (Fn : Fun K "_law_is_end" "_law_is_end" s_qae f_me fd_me) (T : Txt mg) : FnOk P w K mg base CX0 1 f_me fd_me ["_law_found", "_law_due"] (liftSp K (F_qae)) :=
 Zau Fn sc_qae fun cdv A outer s H E hr => (@Zah _ _ _ (@Zai _ _ _ _ (Zas (ZaQ (by rfl) T.b_isinstance (by rfl) (@Zaa _ _ _ _ _ (Zab 0) (@Zaa _ _ _ _ _ (Za0 (by rfl) T.b_int (by rfl)) Zac (by rfl)) (by rfl))) (Zas (q_em_not (ZaQ (by rfl) T.b_isinstance (by rfl) (@Zaa _ _ _ _ _ (Zab 0) (@Zaa _ _ _ _ _ (Za0 (by rfl) T.b_bool (by rfl)) Zac (by rfl)) (by rfl)))) (ZaC (ZaD Zb1 Zb2.r (Zab 0) (Zab 1) (nomark _)))))))
end
section
variable {P : Program} {w : World} {K : W.Frag} {mg : Str -> Option Value} {base : Heap}
noncomputable abbrev s_law : Stmt := top 34
theorem Zbz : FnScope ["_law_script", "_law_elder", "_law_k", "_law_left_here", "_law_deal_here", "_law_good", "_law_end", "_law_found"] ["_law_script"] (defScope s_law) := ⟨rfl, rfl, rfl, by decide +kernel, rfl, by decide +kernel, by decide +kernel⟩
theorem ok_law {f_me : Addr} {fd_me : FuncData} {f_qag f_qac f_qav f_qar f_qae d_EVENTS f_qay f_qbd f_qaw : Addr} {fd_qag fd_qac fd_qav fd_qar fd_qae : FuncData} (Fn : Fun K "law" "law" s_law f_me fd_me) (T : Txt mg) (GF_qag : FnOk P w K mg base CX0 2 f_qag fd_qag ["_law_script", "_law_k"] (liftSpF K FF_qag)) (m_qag : mg "_law_left" = some (.ref f_qag)) (k_qag : W.keepIn K (.ref f_qag) = true) (b_qag : L2.Binds K fd_qag ["_law_script", "_law_k"] []) (G_qac : FnOk P w K mg base CX0 3 f_qac fd_qac ["_law_left_here"] (liftSp K F_qac)) (m_qac : mg "_law_deal" = some (.ref f_qac)) (k_qac : W.keepIn K (.ref f_qac) = true) (b_qac : L2.Binds K fd_qac ["_law_left_here"] []) (G_qav : FnOk P w K mg base CX0 6 f_qav fd_qav ["thing"] (liftSp K (F_qav d_EVENTS f_qay f_qbd f_qaw))) (m_qav : mg "is_deal" = some (.ref f_qav)) (k_qav : W.keepIn K (.ref f_qav) = true) (b_qav : L2.Binds K fd_qav ["thing"] []) (G_qar : FnOk P w K mg base CX0 1 f_qar fd_qar ["deal"] (liftSp K F_qar)) (m_qar : mg "end_of" = some (.ref f_qar)) (k_qar : W.keepIn K (.ref f_qar) = true) (b_qar : L2.Binds K fd_qar ["deal"] []) (G_qae : FnOk P w K mg base CX0 1 f_qae fd_qae ["_law_found", "_law_due"] (liftSp K F_qae)) (m_qae : mg "_law_is_end" = some (.ref f_qae)) (k_qae : W.keepIn K (.ref f_qae) = true) (b_qae : L2.Binds K fd_qae ["_law_found", "_law_due"] []) : FnOk P w K mg base CX0 7 f_me fd_me ["_law_script"] (liftSp K (F_law d_EVENTS f_qay f_qbd f_qaw)) :=
 Zau Fn Zbz fun cdv A outer s H E hr => (@Zaf _ _ _ _ _ (Zap (i := 1) Zbz.nd rfl (Or.inl rfl) (Zar (@Zaa _ _ _ _ _ (Zar (@Zaa _ _ _ _ _ ZaW (@Zaa _ _ _ _ _ ZaW Zac (by rfl)) (by rfl))) (@Zaa _ _ _ _ _ (Zar Zac) (@Zaa _ _ _ _ _ Zad (@Zaa _ _ _ _ _ (Zar (@Zaa _ _ _ _ _ (Zar (@Zaa _ _ _ _ _ Zad (@Zaa _ _ _ _ _ Zad (@Zaa _ _ _ _ _ Zad (@Zaa _ _ _ _ _ Zad (@Zaa _ _ _ _ _ (Zar Zac) (@Zaa _ _ _ _ _ (Zar Zac) Zac (by rfl)) (by rfl)) (by rfl)) (by rfl)) (by rfl)) (by rfl))) (@Zaa _ _ _ _ _ (Zar (@Zaa _ _ _ _ _ Zad (@Zaa _ _ _ _ _ Zad (@Zaa _ _ _ _ _ Zad (@Zaa _ _ _ _ _ Zad (@Zaa _ _ _ _ _ (Zar Zac) (@Zaa _ _ _ _ _ (Zar Zac) Zac (by rfl)) (by rfl)) (by rfl)) (by rfl)) (by rfl)) (by rfl))) (@Zaa _ _ _ _ _ (Zar (@Zaa _ _ _ _ _ Zad (@Zaa _ _ _ _ _ Zad (@Zaa _ _ _ _ _ Zad (@Zaa _ _ _ _ _ Zad (@Zaa _ _ _ _ _ (Zar Zac) (@Zaa _ _ _ _ _ (Zar Zac) Zac (by rfl)) (by rfl)) (by rfl)) (by rfl)) (by rfl)) (by rfl))) Zac (by rfl)) (by rfl)) (by rfl))) Zac (by rfl)) (by rfl)) (by rfl)) (by rfl)))) (@Zaf _ _ _ _ _ (q_sm_for PassesOwn.never rfl (ZaT (by rfl) T.b_range (@Zaa _ _ _ _ _ (Za1 rfl (by rfl) T.b_max (by rfl) (@Zaa _ _ _ _ _ Zad (@Zaa _ _ _ _ _ (q_em_min rfl (by rfl) T.b_min (by rfl) (@Zaa _ _ _ _ _ Zad (@Zaa _ _ _ _ _ (Zax (by rfl) T.b_len (@Zaa _ _ _ _ _ (Zab 0) Zac (by rfl))) Zac (by rfl)) (by rfl))) Zac (by rfl)) (by rfl))) Zac (by rfl))) (Zaj (i := 2) Zbz.nd rfl (Or.inl rfl)) (@Zaf _ _ _ _ _ (q_sm_new (i := 3) Zbz.nd rfl (Or.inl rfl) (q_fm_call GF_qag (hr.mono (by decide)) (by rfl) m_qag k_qag b_qag (@Zaa _ _ _ _ _ (Zab 0) (@Zaa _ _ _ _ _ (Zab 2) Zac (by rfl)) (by rfl)))) (@Zaf _ _ _ _ _ (Zbo (Zae G_qac (hr.mono (by decide)) (by rfl) m_qac k_qac b_qac (@Zaa _ _ _ _ _ (Zab 3) Zac (by rfl))) (Zbp rfl (Zam (Zaj (i := 4) Zbz.nd rfl (Or.inl rfl)) (Zam (Zaj (i := 5) Zbz.nd rfl (Or.inl rfl)) (Zam (Zaj (i := 6) Zbz.nd rfl (Or.inl rfl)) Za8))))) (@Zaf _ _ _ _ _ (Zap (i := 7) Zbz.nd rfl (Or.inl rfl) (Zae G_qav (hr.mono (by decide)) (by rfl) m_qav k_qav b_qav (@Zaa _ _ _ _ _ (Zab 4) Zac (by rfl)))) (@Zaf _ _ _ _ _ (@Zat _ _ _ _ _ _ _ _ (Zbi (ZaH (Zao (Zan (ZaQ (by rfl) T.b_isinstance (by rfl) (@Zaa _ _ _ _ _ (Zab 7) (@Zaa _ _ _ _ _ (Za0 (by rfl) T.b_bool (by rfl)) Zac (by rfl)) (by rfl))))) (ZaN (ZaB op_ne ne_ok.r (Zab 7) (Zab 5) (nomark _))))) (@Zah _ _ _ (@Zai _ _ _ _ ZaG)) Zaq) (@Zah _ _ _ (@Zat _ _ _ _ _ _ _ _ (Zan (Zab 5)) (@Zaf _ _ _ _ _ (@Zat _ _ _ _ _ _ _ _ (Zbi (ZaH (Zao (Zan (Zae G_qae (hr.mono (by decide)) (by rfl) m_qae k_qae b_qae (@Zaa _ _ _ _ _ (Zae G_qar (hr.mono (by decide)) (by rfl) m_qar k_qar b_qar (@Zaa _ _ _ _ _ (Zab 4) Zac (by rfl))) (@Zaa _ _ _ _ _ (Zab 6) Zac (by rfl)) (by rfl))))) (ZaN (Zao (Zan (Zae G_qae (hr.mono (by decide)) (by rfl) m_qae k_qae b_qae (@Zaa _ _ _ _ _ (Zae G_qar (hr.mono (by decide)) (by rfl) m_qar k_qar b_qar (@Zaa _ _ _ _ _ (Zab 1) Zac (by rfl))) (@Zaa _ _ _ _ _ Zad Zac (by rfl)) (by rfl)))))))) (@Zah _ _ _ (@Zai _ _ _ _ ZaG)) Zaq) (@Zah _ _ _ (@Zat _ _ _ _ _ _ _ _ (Zao (Zan (Zae G_qae (hr.mono (by decide)) (by rfl) m_qae k_qae b_qae (@Zaa _ _ _ _ _ (Zae G_qar (hr.mono (by decide)) (by rfl) m_qar k_qar b_qar (@Zaa _ _ _ _ _ (Zab 4) Zac (by rfl))) (@Zaa _ _ _ _ _ (Zab 6) Zac (by rfl)) (by rfl))))) (@Zah _ _ _ (@Zai _ _ _ _ ZaG)) Zaq))) Zaq))))))) (@Zah _ _ _ (@Zai _ _ _ _ (ZaD op_isB isB_ok.r (Zae G_qav (hr.mono (by decide)) (by rfl) m_qav k_qav b_qav (@Zaa _ _ _ _ _ (Zab 1) Zac (by rfl))) ZaG (nomark _))))))
end
local macro_rules
 | `(tactic| simp! [$args,*]) => `(tactic| simp [mDef, mRet, mRetF, mAndV, mOrV, mNotV, mCB, mOp, mChain, mTest, mTru, mNotT, mAndT, mOrT, mIf, mIfS, mSeq, mSkip, mSet, mDrop, mTup, mLst, mVal, mFn, mFnF, mSlice, mMt, mDict, mDict0, mList, listH, bnd, opM, aCons, aNil, mVar, mC, Pu.ret, g1, g2, derefs, deref, isiH, isiP, tyN, mB, asB, intP, fin, truP, lenH, Pu.plain, oNo, oPart, Pu.intD, sliceD, sliceP, isTy, tyP, mtD, eqP, neP, scP, $args,*])
noncomputable def okv : PV -> Bool
 | .dtt _ _ => false
 | .fn _ => false
 | .ty _ => false
 | _ => true
noncomputable def AZ : Str := "abcdefghijklmnopqrstuvwxyz"
noncomputable def wordB (z : Str) : Bool := decide (1 <= (z.length : Int)) && decide ((z.length : Int) <= 12) && z.cps.toList.all AZ.cps.contains
noncomputable def wordP : PV -> Bool
 | .str z => wordB z
 | _ => false
noncomputable def numB (x : PV) (m : Int) : Bool := match x with
 | .int i => decide (m <= i)
 | _ => false
noncomputable def belB (x : PV) (b : Int) : Bool := match x with
 | .int i => decide (0 <= i) && decide (i < b)
 | _ => false
theorem ZaK (x : PV) (m : Int) (C : Cs) (h : okv x = true) : F_qba [.v x, .v (.int m)] C = some (.v (.bl (numB x m)), C) := by
  cases x <;> first
    | (cases h; done)
    | (simp! [F_qba, numB])
theorem ZaE (x : PV) (b : Int) (C : Cs) (h : okv x = true) : F_qbb [.v x, .v (.int b)] C = some (.v (.bl (belB x b)), C) := by
 cases x with
 | int i => by_cases hi : (0 : Int) <= i <;> simp! [F_qbb, ZaK _ _ _ h, numB, belB, hi]
 | dtt a b => cases h
 | fn a => cases h
 | ty a => cases h
 | _ => simp! [F_qbb, ZaK _ _ _ h, numB, belB]
theorem Zbt {te : PSt -> M SV} {f : PV -> PV} : ∀ (xs : List PV) (ρ : PSt) (ys : List PV) (C : Cs), (∀ x ∈ xs, te (ρ.set 0 (some (.v x))) C = some (.v (f x), C)) -> compL (hName 0) tOk te xs ρ ys C = some (ys ++ xs.map f, C)
 | [], ρ, ys, C, _ => by simp [compL, Pu.ret]
 | x :: xs, ρ, ys, C, h => by
  have h1 := h x (by simp)
  have h2 := Zbt xs (ρ.set 0 (some (.v x))) (ys ++ [f x]) C fun y hy => by rw [List.set_set]; exact h y (by simp [hy])
  simp [compL, hName, bnd, tOk, Pu.ret, h1, h2]
theorem Zbb {α : Type} (g : α -> Bool) : ∀ l : List α, boolsP (l.map fun c => PV.bl (g c)) = some (l.map g)
 | [] => rfl
 | a :: l => by simp [boolsP, Zbb g l]
theorem strIn_one (c : Nat) (z : Str) : strIn ⟨#[c]⟩ z = z.cps.toList.contains c := by
 unfold strIn
 rw [PySem.StrLaws.found_one]
 simp
theorem AZ_contains : AZ.cps.toList.contains = AZ.cps.contains := by
 funext c; simp
theorem Zca (x : PV) (C : Cs) (h : okv x = true) : F_qbe [.v x] C = some (.v (.bl (wordP x)), C) := by
 cases x with
 | str z =>
  by_cases h1 : 1 <= (z.length : Int)
  ·by_cases h2 : (z.length : Int) <= 12
   ·have hl : z.cps.size <= 100000 := by
     have : z.cps.size = z.length := rfl
     lia
    unfold F_qbe B_qbe
    generalize hte : mOp (g2 inP) (mVar 0) (mC (.str "abcdefghijklmnopqrstuvwxyz")) = te
    have key : compL (hName 0) tOk te (z.cps.toList.map fun c => .str ⟨#[c]⟩) [none] [] C = some (z.cps.toList.map fun c => PV.bl (AZ.cps.contains c), C) := by
     subst hte
     have := Zbt (te := mOp (g2 inP) (mVar 0) (mC (.str "abcdefghijklmnopqrstuvwxyz"))) (f := fun p => match p with | .str y => .bl (strIn y AZ) | _ => .non) (z.cps.toList.map fun c => .str ⟨#[c]⟩) [none] [] C (fun x hx => by
      obtain ⟨c, _, rfl⟩ := List.mem_map.mp hx
      simp [mOp, bnd, mVar, mC, opM, g2, deref, inP, inB, AZ])
     rw [this, List.nil_append, List.map_map]
     congr 3
     funext c
     simp only [Function.comp, strIn_one]
     rw [AZ_contains]
    simp! [h1, h2, mComp, mItems, itemsP, stIn', hl, key, allH, Zbb, wordP, wordB, List.all_map]
   ·simp! [F_qbe, h1, h2, wordP, wordB]
  ·simp! [F_qbe, h1, wordP, wordB]
 | dtt a b => cases h
 | fn a => cases h
 | ty a => cases h
 | _ => simp! [F_qbe, wordP]
theorem Za6 (ps : List PV) (a b : Int) (C : Cs) : F_qbc [.v (.tup ps), .v (.int a), .v (.int b)] C = some (.v (.bl (decide (a <= ps.length) && decide ((ps.length : Int) <= b))), C) := by
 by_cases h : a <= ps.length
 ·by_cases h2 : (ps.length : Int) <= b <;> simp! [F_qbc, h, h2]
 ·simp! [F_qbc, h]
theorem tk (C : Cs) (k : Nat) (v : PV) : (C.set k v).take C.length = C.set k v := List.take_of_length_le (by simp)
theorem setAt {C : Cs} {k : Nat} {v w : PV} (h : C[k]? = some w) : (C.set k v)[k]? = some v := by
 have : k < C.length := by
  rcases Nat.lt_or_ge k C.length with q | q
  ·exact q
  ·rw [List.getElem?_eq_none_iff.mpr q] at h; cases h
 rw [List.getElem?_set_self this]
theorem pick_spec (k : Nat) (x y m : Int) (C : Cs) (hC : C[k]? = some (.lst [.int x, .int y])) (hy : 0 <= y /\ y < 2147483647) (hm : 0 < m /\ m < 1073741824) :
  ∃ d x' y', F_qak [.c k, .v (.int m)] C = some (.v (.int d), C.set k (.lst [.int x', .int y'])) /\ 0 <= d /\ d < m /\ 0 <= y' /\ y' < 2147483647 := by
 by_cases hx : 0 < x
 ·refine ⟨x % m, x / m, y, ?_, Int.emod_nonneg _ (by lia), Int.emod_lt_of_pos _ hm.1, hy.1, hy.2⟩
  simp! [F_qak, ixQ, ixP, atI, ixN, hC, hx, hm.1, hm.2, mSetIx, setC, tk]
 ·have h1 : 0 <= (y * 48271 + 12345) % 2147483647 := Int.emod_nonneg _ (by decide)
  have h2 : (y * 48271 + 12345) % 2147483647 < 2147483647 := Int.emod_lt_of_pos _ (by decide)
  refine ⟨(y * 48271 + 12345) % 2147483647 * ((y * 48271 + 12345) % 2147483647) % 1999999973 % m, x, (y * 48271 + 12345) % 2147483647, ?_, Int.emod_nonneg _ (by lia), Int.emod_lt_of_pos _ hm.1, h1, h2⟩
  generalize hz : (y * 48271 + 12345) % 2147483647 = z at h1 h2
  have c1 : (-18446744073709551616 < z /\ z < 18446744073709551616) := by lia
  simp! [F_qak, ixQ, ixP, atI, ixN, hC, hx, hm.1, hm.2, mSetIx, setC, tk, addP, setAt hC, hz, c1]
noncomputable def GS (C : Cs) (k : Nat) : Prop := ∃ x y : Int, C[k]? = some (.lst [.int x, .int y]) /\ 0 <= y /\ y < 2147483647
structure Adv (k : Nat) (C C' : Cs) : Prop where
 len : C'.length = C.length
 gs : GS C' k
 oth : ∀ j, j ≠ k -> C'[j]? = C[j]?
theorem Adv.trans {k : Nat} {C C1 C2 : Cs} (a : Adv k C C1) (b : Adv k C1 C2) : Adv k C C2 := ⟨b.len.trans a.len, b.gs, fun j h => (b.oth j h).trans (a.oth j h)⟩
theorem Adv.take {k : Nat} {C C' : Cs} (a : Adv k C C') : C'.take C.length = C' := List.take_of_length_le (by rw [a.len]; exact Nat.le_refl _)
theorem ZaY (k : Nat) (m : Int) (C : Cs) (h : GS C k) (hm : 0 < m /\ m < 1073741824) : ∃ d C', F_qak [.c k, .v (.int m)] C = some (.v (.int d), C') /\ 0 <= d /\ d < m /\ Adv k C C' := by
 obtain ⟨x, y, hC, h1, h2⟩ := h
 obtain ⟨d, x', y', e, a1, a2, a3, a4⟩ := pick_spec k x y m C hC ⟨h1, h2⟩ hm
 exact ⟨d, _, e, a1, a2, by simp, ⟨x', y', setAt hC, a3, a4⟩, fun j hj => by rw [List.getElem?_set_ne (Ne.symm hj)]⟩
theorem ix_all {okk : PV -> Bool} (L : List PV) (h : L.all okk = true) (d : Int) (h1 : 0 <= d) (h2 : d < L.length) : ∃ p, ixQ (.lst L) (.int d) = some p /\ okk p = true := by
 have hd : d.toNat < L.length := by lia
 refine ⟨L[d.toNat], ?_, List.all_eq_true.mp h _ (List.getElem_mem hd)⟩
 simp [ixQ, ixP, atI, ixN, h1, h2, List.getElem?_eq_getElem hd]
theorem Zce (ns : List Int) (i : Int) (C : Cs) (hi : 0 <= i) : ∃ v : Int, F_qaa [.v (.lst (ns.map .int)), .v (.int i)] C = some (.v (.int v), C) := by
 by_cases h : i < ns.length
 ·have hd : i.toNat < ns.length := by lia
  refine ⟨ns[i.toNat], ?_⟩
  simp! [F_qaa, ixQ, ixP, atI, ixN, hi, h, List.getElem?_eq_getElem hd]
 ·exact ⟨0, by simp! [F_qaa, h]⟩
theorem left_eq (ns : List Int) (k : Int) (C : Cs) (h1 : 0 <= k) (h2 : k <= 1000) : ∃ x y : Int, FF_qag [.v (.lst (ns.map .int)), .v (.int k)] C = some ([.int x, .int y], C) /\ 0 <= y /\ y < 2147483647 := by
 have hm : 0 < (if (ns.length : Int) > 1 then (ns.length : Int) else 1) := by split <;> lia
 obtain ⟨v, ev⟩ := Zce ns (k % (if (ns.length : Int) > 1 then (ns.length : Int) else 1)) C (Int.emod_nonneg _ (by lia))
 obtain ⟨u, eu⟩ := Zce ns 0 C (by decide)
 have c1 : -18446744073709551616 < k /\ k < 18446744073709551616 := by lia
 have hm' : 0 < (if 1 < (ns.length : Int) then (ns.length : Int) else 1) := hm
 have ev' : F_qaa [.v (.lst (ns.map .int)), .v (.int (k % (if 1 < (ns.length : Int) then (ns.length : Int) else 1)))] C = some (.v (.int v), C) := ev
 have hcast : (if 1 < (ns.length : Int) then (ns.length : Int) else 1) = if 1 < ns.length then (ns.length : Int) else 1 := by
  by_cases q : 1 < ns.length
  ·rw [if_pos q, if_pos (by lia)]
  ·rw [if_neg q, if_neg (by lia)]
 have p40 : (0 : Int) < 10 ^ 40 := by decide
 by_cases hu : u % 2 = 0
 ·refine ⟨0, (v % 2147483629 + 7919 * k * k + 11) * 48271 % 2147483647, ?_, Int.emod_nonneg _ (by decide), Int.emod_lt_of_pos _ (by decide)⟩
  simp! [FF_qag, mDefF, maxH, ev', eu, hm', c1, addP, hu]
 ·refine ⟨v % 10 ^ 40, (v % 2147483629 + 7919 * k * k + 11) * 48271 % 2147483647, ?_, Int.emod_nonneg _ (by decide), Int.emod_lt_of_pos _ (by decide)⟩
  simp! [FF_qag, mDefF, maxH, ev', eu, hm', c1, addP, hu]
theorem loop_inv {g : PV -> PSt -> Option PSt} {f : PSt -> M PF} (Pi : PSt -> Cs -> Prop) : ∀ (xs : List PV), (∀ x ∈ xs, ∀ ρ C, Pi ρ C -> ∃ ρ1 ρ2 C2, g x ρ = some ρ1 /\ f ρ1 C = some (.nx ρ2, C2) /\ Pi ρ2 C2) -> ∀ ρ C, Pi ρ C -> ∃ ρ' C', loop g f xs ρ C = some (.nx ρ', C') /\ Pi ρ' C'
 | [], _, ρ, C, h => ⟨ρ, C, rfl, h⟩
 | x :: xs, hs, ρ, C, h => by
  obtain ⟨ρ1, ρ2, C2, e1, e2, h2⟩ := hs x (by simp) ρ C h
  obtain ⟨ρ', C', e3, h3⟩ := loop_inv Pi xs (fun y hy => hs y (by simp [hy])) ρ2 C2 h2
  refine ⟨ρ', C', ?_, h3⟩
  unfold loop
  simp only [e1, bnd, e2, e3]
noncomputable def sg (k : Nat) : Str := ⟨#[97 + k]⟩
noncomputable def nmS (k z : Nat) : Str := sg k ++ Txt.mul "z" ((z : Int) - 1)
noncomputable def nms (n z : Nat) : List PV := (List.range n).map fun k => .str (nmS k z)
theorem zz : ("z" : Str).cps.toList = [122] := by rfl
theorem ZbI (k z : Nat) : (nmS k z).cps.toList = (97 + k) :: List.replicate (z - 1) 122 := by
 show ((sg k).cps ++ (Txt.mul "z" ((z : Int) - 1)).cps).toList = _
 rw [Array.toList_append, mulS_list zz]
 have : ((z : Int) - 1).toNat = z - 1 := by lia
 rw [this]; rfl
theorem nmS_len (k z : Nat) (h : 1 <= z) : (nmS k z).length = z := by
 show (nmS k z).cps.size = z
 rw [← Array.length_toList, ZbI]; simp; lia
theorem nmS_inj {k l z : Nat} (h : nmS k z = nmS l z) : k = l := by
 have := congrArg (fun s : Str => s.cps.toList) h
 simp only [ZbI] at this
 injection this with h1 _
 lia
theorem az_at (k : Nat) (h : k < 26) : AZ.cps.contains (97 + k) = true := by
 have : ∀ k, k < 26 -> AZ.cps.contains (97 + k) = true := by decide +kernel
 exact this k h
theorem nmS_word (k z : Nat) (hk : k < 16) (hz : 1 <= z) : wordB (nmS k z) = decide (z <= 12) := by
 unfold wordB
 rw [nmS_len k z hz, ZbI, List.all_cons, az_at k (by lia)]
 have : (List.replicate (z - 1) 122).all AZ.cps.contains = true := by
  rw [List.all_eq_true]; intro x hx
  rw [(List.mem_replicate.mp hx).2]; exact az_at 25 (by decide)
 rw [this]
 have h1 : decide (1 <= (z : Int)) = true := decide_eq_true (by lia)
 rw [h1]
 simp
 lia
theorem nmS_bell (k z : Nat) : nmS k z ≠ "bell" := by
 intro h
 have := congrArg (fun s : Str => s.cps.toList) h
 simp only [ZbI] at this
 rw [show ("bell" : Str).cps.toList = [98, 101, 108, 108] from rfl] at this
 injection this with _ h2
 have : (101 : Nat) ∈ List.replicate (z - 1) 122 := by rw [h2]; exact .head _
 have := (List.mem_replicate.mp this).2
 lia
theorem nms_len (n z : Nat) : (nms n z).length = n := by simp [nms]
theorem ix16 (k : Nat) (h : k < 16) : ixQ (.str "abcdefghijklmnop") (.int (k : Int)) = some (.str (sg k)) := by
 have : ∀ k, k < 16 -> ixQ (.str "abcdefghijklmnop") (.int ((k : Nat) : Int)) = some (.str (sg k)) := by
  intro k hk
  have hl : ("abcdefghijklmnop" : Str).cps.toList.length = 16 := by rfl
  have h3 : (k : Int) < (("abcdefghijklmnop" : Str).cps.toList.length : Int) := by lia
  show (atI ("abcdefghijklmnop" : Str).cps.toList k).map _ = _
  unfold atI ixN
  rw [if_pos (by lia), if_pos h3]
  show ((("abcdefghijklmnop" : Str).cps.toList[((k : Int)).toNat]?).map _) = _
  rw [show ((k : Int)).toNat = k by lia]
  have q : ∀ k, k < 16 -> ("abcdefghijklmnop" : Str).cps.toList[k]? = some (97 + k) := by decide +kernel
  rw [q k hk]; rfl
 exact this k h
noncomputable abbrev nte : PSt -> M SV := mOp (g2 addP) (mOp (g2 ixQ) (mC (.str "abcdefghijklmnop")) (mVar 0)) (mOp (g2 mulSP) (mC (.str "z")) (mOp (g2 subP) (mVar 1) (mC (.int 1))))
theorem names_comp (n z : Nat) (C : Cs) (hn : n <= 16) (hz : z < 100) : compL (hName 0) tOk nte ((List.range n).map fun (k : Nat) => .int (0 + k)) [none, some (.v (.int z))] [] C = some (nms n z, C) := by
 have := Zbt (te := nte) (f := fun p => match p with | .int i => .str (nmS i.toNat z) | _ => .non) ((List.range n).map fun (k : Nat) => .int (0 + k)) [none, some (.v (.int z))] [] C (fun x hx => by
  obtain ⟨k, hk, rfl⟩ := List.mem_map.mp hx
  have hk := List.mem_range.mp hk
  have e := ix16 k (by lia)
  have hl : ("z" : Str).length = 1 := rfl
  have hm : ((z : Int) - 1) < 1000 /\ -1000 < ((z : Int) - 1) := by lia
  have em : mulSP (.str "z") (.int ((z : Int) - 1)) = some (.str (Txt.mul "z" ((z : Int) - 1))) := if_pos ⟨hl, hm⟩
  have la : (sg k).length + (Txt.mul "z" ((z : Int) - 1)).length <= 1000000 := by
   rw [mulS_len hl]; have : (sg k).length = 1 := rfl
   lia
  have ea : addP (.str (sg k)) (.str (Txt.mul "z" ((z : Int) - 1))) = some (.str (nmS k z)) := if_pos la
  simp! [e, em, ea])
 rw [this, List.nil_append, List.map_map]
 congr 2
 show _ = (List.range n).map _
 apply List.map_congr_left
 intro k _
 simp only [Function.comp]
 rw [show ((0 : Int) + (k : Int)).toNat = k by lia]
theorem names_eq (n z : Nat) (C : Cs) (hn : n <= 16) (hz : z < 100) : F_qai [.v (.int n), .v (.int z)] C = some (.v (.lst (nms n z)), C) /\ FF_qai [.v (.int n), .v (.int z)] C = some (nms n z, C) := by
 have c := names_comp n z C hn hz
 unfold nte at c
 simp only [Int.zero_add] at c
 have hr : -1000000 <= (n : Int) /\ (n : Int) <= 1000000 := by lia
 have hl : n <= 100000 := by lia
 constructor
 ·unfold F_qai B_qai
  generalize mOp (g2 addP) (mOp (g2 ixQ) (mC (.str "abcdefghijklmnop")) (mVar 0)) (mOp (g2 mulSP) (mC (.str "z")) (mOp (g2 subP) (mVar 1) (mC (.int 1)))) = te at c ⊢
  simp! [mComp, mRange1, rng1P, hr, hl, stIn', c]
 ·unfold FF_qai B_qai
  generalize mOp (g2 addP) (mOp (g2 ixQ) (mC (.str "abcdefghijklmnop")) (mVar 0)) (mOp (g2 mulSP) (mC (.str "z")) (mOp (g2 subP) (mVar 1) (mC (.int 1)))) = te at c ⊢
  simp! [mDefF, mComp, mRange1, rng1P, hr, hl, stIn', c]
theorem all_bl (f : PV -> Bool) (xs : List PV) : allH [.lst (xs.map fun x => .bl (f x))] = some (.bl (xs.all f)) := by
 simp [allH, Zbb, List.all_map]
theorem ZbE {α : Type} [DecidableEq α] : ∀ (l acc : List α), (acc ++ l).Nodup -> l.foldl Se.ins acc = acc ++ l
 | [], acc, _ => by simp
 | x :: l, acc, h => by
  rw [List.foldl_cons]
  have hx : x ∉ acc := fun m => by
   rw [List.nodup_append] at h
   exact h.2.2 x m x (.head _) rfl
  have e : Se.ins acc x = acc ++ [x] := by unfold Se.ins; rw [if_neg hx]
  rw [e, ZbE l (acc ++ [x]) (by simpa using h)]; simp
theorem fm_nd {α : Type} [DecidableEq α] {l : List α} (h : l.Nodup) : Se.fm l = l := by
 unfold Se.fm; rw [ZbE l [] (by simpa using h)]; rfl
theorem keysP_str : ∀ (l : List Str), keysP (l.map PV.str) = some (l.map Sum.inr)
 | [] => rfl
 | x :: l => by rw [List.map_cons]; unfold keysP; rw [keysP_str l]; rfl
theorem ZbR {α β : Type} {f : α -> β} (hf : ∀ a b, f a = f b -> a = b) : ∀ {l : List α}, l.Nodup -> (l.map f).Nodup := fun {l} h =>
 List.pairwise_map.mpr (h.imp fun {a b} z e => z (hf a b e))
theorem lenSet_str {l : List Str} (h : l.Nodup) (hl : l.length < 76) : lenSetL (l.map PV.str) = some (.int l.length) := by
 unfold lenSetL
 rw [if_pos (by simpa using hl), keysP_str]
 show some (PV.int ((Se.fm (l.map (Sum.inr : Str -> Key))).length : Int)) = _
 rw [fm_nd (ZbR (fun a b e => Sum.inr.inj e) h), List.length_map]
theorem ZbG (l : List Str) (a b : Nat) (g : Bool) (C : Cs) (hn : l.Nodup) (hl : l.length < 76) (hw : ∀ z ∈ l, wordB z = g) :
  F_qaq [.v (.tup (l.map PV.str)), .v (.int a), .v (.int b)] C = some (.v (.bl (decide (a <= l.length) && decide (l.length <= b) && (g || l.isEmpty))), C) := by
 have hr := Za6 (l.map PV.str) a b C
 rw [List.length_map] at hr
 have e1 : decide ((a : Int) <= (l.length : Int)) = decide (a <= l.length) := by by_cases q : a <= l.length <;> simp [q] <;> lia
 have e2 : decide ((l.length : Int) <= (b : Int)) = decide (l.length <= b) := by by_cases q : l.length <= b <;> simp [q] <;> lia
 rw [e1, e2] at hr
 have hc := Zbt (te := mFn F_qbe (aCons (mVar 0) aNil)) (f := fun x => .bl (wordP x)) (l.map PV.str) [none] [] C (fun x hx => by
  obtain ⟨z, _, rfl⟩ := List.mem_map.mp hx
  simp! [Zca (.str z) C rfl])
 rw [List.nil_append] at hc
 have ha := all_bl wordP (l.map PV.str)
 have hall : (l.map PV.str).all wordP = (g || l.isEmpty) := by
  cases l with
  | nil => simp
  | cons z l =>
   rw [List.isEmpty_cons, Bool.or_false]
   cases g with
   | true => rw [List.all_map, List.all_eq_true]; exact fun x hx => hw x hx
   | false => rw [List.map_cons, List.all_cons, show wordP (.str z) = false from hw z (.head _)]; rfl
 rw [hall] at ha
 have hs := lenSet_str hn hl
 have hxl : (l.map PV.str).length = l.length := List.length_map ..
 generalize l.map PV.str = xs at hr hc ha hs hxl ⊢
 generalize xs.map (fun x => PV.bl (wordP x)) = bs at hc ha
 have hll : xs.length <= 100000 := by lia
 have hll2 : l.length <= 100000 := by lia
 unfold F_qaq B_qaq
 generalize mFn F_qbe (aCons (mVar 0) aNil) = te at hc ⊢
 by_cases q1 : a <= l.length
 ·by_cases q2 : l.length <= b
  ·cases hg : (g || l.isEmpty)
   ·rw [hg] at ha
    simp! [hr, q1, q2, mComp, mItems, itemsP, stIn', hll, hc, ha]
   ·rw [hg] at ha
    simp! [hr, q1, q2, mComp, mItems, itemsP, stIn', hll, hc, ha, lenSetH, hs, hxl, hll2]
  ·simp! [hr, q1, q2]
 ·simp! [hr, q1]
noncomputable def nmL (n z : Nat) : List Str := (List.range n).map fun k => nmS k z
theorem nms_eq (n z : Nat) : nms n z = (nmL n z).map PV.str := by simp [nms, nmL, List.map_map]
theorem nmL_nd (n z : Nat) : (nmL n z).Nodup := ZbR (fun a b e => nmS_inj e) List.nodup_range
theorem nmL_word (n z : Nat) (hn : n <= 16) (hz : 1 <= z) : ∀ x ∈ nmL n z, wordB x = decide (z <= 12) := by
 intro x hx
 obtain ⟨k, hk, rfl⟩ := List.mem_map.mp hx
 exact nmS_word k z (by have := List.mem_range.mp hk; lia) hz
theorem Za2 (n z : Nat) : (nmL n z).length = n := by simp [nmL]
noncomputable def cond (d : Int) (w : Str) : PV := .tup [.str "said", .int d, .str w]
noncomputable def lvP (c : Int) : Bool -> PV
 | true => .tup [.tup [.str "joined", .int c], .int 1]
 | false => .tup []
noncomputable def lvE (c : Int) : Bool -> List PV
 | true => [.tup [.str "joined", .int c]]
 | false => []
structure Cl where
 d : Int
 c : Int
 p : Int
 wi : Int
 ws : List Str
 lv : Bool
noncomputable def Cl.pv (x : Cl) : PV := .tup [.int x.d, .int x.c, .int x.p, .int x.wi, .tup (x.ws.map (cond x.d)), lvP x.c x.lv]
noncomputable def Cl.evs (x : Cl) : List PV := x.ws.map (cond x.d) ++ lvE x.c x.lv
theorem cut46 (a b c d e f : PV) : cutP [a, b, c, d, e, f] (some 4) none = [e, f] := by rfl
theorem cut01 (a b : PV) : cutP [a, b] none (some 1) = [a] := by rfl
theorem cut00 : cutP [] none (some 1) = [] := by rfl
theorem events_of_eq (x : Cl) (C : Cs) (h : x.ws.length <= 1000) : F_qas [.v x.pv] C = some (.v (.lst x.evs), C) := by
 obtain ⟨d, c, p, wi, ws, lv⟩ := x
 have h : ws.length <= 1000 := h
 unfold Cl.pv Cl.evs
 generalize hl : ws.map (cond d) = L
 have hL : L.length <= 1000 := by rw [← hl, List.length_map]; exact h
 cases lv
 ·have h1 : L.length <= 1000000 := by lia
  simp! [F_qas, mAsg, cut46, hTup, hCons, hName, hNil, lvP, lvE, cut00, addP, h1]
 ·have h1 : L.length + 1 <= 1000000 := by lia
  simp! [F_qas, mAsg, cut46, hTup, hCons, hName, hNil, lvP, lvE, cut01, addP, h1]
section
variable {e f1 f2 f3 : Addr} {hs : List PV} {o k cl own : PV}
theorem is_said_eq (d : Int) (w : Str) (C : Cs) : F_qbd [.v (cond d w), .v own, .v (.tup [.tup hs, o, k, cl])] C = some (.v (.bl (belB (.int d) hs.length && wordB w)), C) := by
 have h1 := ZaE (.int d) hs.length C rfl
 have h2 : F_qbe [.v (.str w)] C = some (.v (.bl (wordB w)), C) := Zca (.str w) C rfl
 unfold cond
 cases hb : belB (.int d) hs.length <;> rw [hb] at h1 <;> simp! [F_qbd, ixQ, ixP, atI, ixN, h1, h2]
theorem is_joined_eq (c : Int) (C : Cs) : F_qay [.v (.tup [.str "joined", .int c]), .v own, .v (.tup [.tup hs, o, k, cl])] C = some (.v (.bl (belB (.int c) hs.length)), C) := by
 have h1 := ZaE (.int c) hs.length C rfl
 simp! [F_qay, ixQ, ixP, atI, ixN, h1]
theorem tab1 : (ZaM f1 f2 f3).lookup ("joined" : Str) = some f1 := by rfl
theorem tab2 : (ZaM f1 f2 f3).lookup ("said" : Str) = some f2 := by rfl
theorem fns1 : (ZaS f1 f2 f3).lookup f1 = some F_qay := by simp [ZaS, List.lookup_cons]
theorem fns2 (h : f2 ≠ f1) : (ZaS f1 f2 f3).lookup f2 = some F_qbd := by simp [ZaS, List.lookup_cons, beq_eq_false_iff_ne.mpr h]
theorem ev_said (h : f2 ≠ f1) (d : Int) (w : Str) (C : Cs) : F_qax e f1 f2 f3 [.v (cond d w), .v own, .v (.tup [.tup hs, o, k, cl])] C = some (.v (.bl (belB (.int d) hs.length && wordB w)), C) := by
 have h1 := is_said_eq (hs := hs) (o := o) (k := k) (cl := cl) (own := own) d w C
 have h2 := tab2 (f1 := f1) (f2 := f2) (f3 := f3)
 have h3 := fns2 (f1 := f1) (f2 := f2) (f3 := f3) h
 unfold cond at h1 ⊢
 simp! [F_qax, ixQ, ixP, atI, ixN, topI, topG, h2, mCallV, callF, h3, h1]
theorem ev_joined (c : Int) (C : Cs) : F_qax e f1 f2 f3 [.v (.tup [.str "joined", .int c]), .v own, .v (.tup [.tup hs, o, k, cl])] C = some (.v (.bl (belB (.int c) hs.length)), C) := by
 have h1 := is_joined_eq (hs := hs) (o := o) (k := k) (cl := cl) (own := own) c C
 have h2 := tab1 (f1 := f1) (f2 := f2) (f3 := f3)
 have h3 := fns1 (f1 := f1) (f2 := f2) (f3 := f3)
 simp! [F_qax, ixQ, ixP, atI, ixN, topI, topG, h2, mCallV, callF, h3, h1]
end
noncomputable def kSaid (d : Int) (w : Str) : List Key := [.inr "said", .inl d, .inr w]
noncomputable def kEvs (x : Cl) : List (List Key) := x.ws.map (kSaid x.d) ++ (if x.lv then [[.inr "joined", .inl x.c]] else [])
theorem ZbK (d c : Int) (lv : Bool) : ∀ ws : List Str, tupKeysP (ws.map (cond d) ++ lvE c lv) = some (ws.map (kSaid d) ++ (if lv then [[.inr "joined", .inl c]] else []))
 | [] => by cases lv <;> rfl
 | w :: ws => by
  rw [List.map_cons, List.cons_append]
  unfold cond tupKeysP
  have := ZbK d c lv ws
  unfold cond at this
  rw [this]; rfl
theorem keysP_evs (d c : Int) (lv : Bool) (ws : List Str) : keysP (ws.map (cond d) ++ lvE c lv) = if ws.map (cond d) ++ lvE c lv = [] then some [] else none := by
 cases ws with
 | nil => cases lv <;> rfl
 | cons w ws => rfl
theorem kEvs_nd (x : Cl) (h : x.ws.Nodup) : (kEvs x).Nodup := by
 unfold kEvs
 rw [List.nodup_append]
 refine ⟨ZbR (fun a b e => ?_) h, by split <;> simp, fun a ha b hb e => ?_⟩
 ·unfold kSaid at e; injection e with _ e; injection e with _ e; injection e with e; exact Sum.inr.inj e
 ·obtain ⟨w, _, rfl⟩ := List.mem_map.mp ha
  split at hb
  ·rw [List.mem_singleton] at hb; subst hb
   have := congrArg List.length e
   simp [kSaid] at this
  ·cases hb
theorem lenSet_evs (x : Cl) (h : x.ws.Nodup) (hl : x.ws.length < 70) : lenSetL x.evs = some (.int x.evs.length) := by
 unfold lenSetL
 have hn : x.evs.length = (kEvs x).length := by unfold Cl.evs kEvs lvE; cases x.lv <;> simp
 have hlt : x.evs.length < 76 := by unfold Cl.evs lvE; cases x.lv <;> simp <;> lia
 rw [if_pos hlt]
 have h1 := keysP_evs x.d x.c x.lv x.ws
 have h2 := ZbK x.d x.c x.lv x.ws
 unfold Cl.evs at hn ⊢
 rw [h1]
 split
 ·rename_i ks e
  split at e
  ·cases e; rename_i z; rw [z]; rfl
  ·cases e
 ·rw [h2]
  show some (PV.int ((Se.fm (kEvs x)).length : Int)) = _
  rw [fm_nd (kEvs_nd x h), hn]
noncomputable def Cl.ok (x : Cl) : Bool := decide (x.d ≠ x.c) && decide (1 <= x.p) && decide (x.p <= 9) && decide (1 <= x.wi) && decide (x.ws.length <= 8)
theorem leave_eq (c : Int) (lv : Bool) (C : Cs) : F_qaz [.v (lvP c lv)] C = some (.v (.bl true), C) := by
 cases lv
 ·have := Za6 [] 0 0 C
  simp! [F_qaz, lvP, this]
 ·have h0 := Za6 [.tup [.str "joined", .int c], .int 1] 0 0 C
  have h1 := Za6 [.tup [.str "joined", .int c], .int 1] 2 2 C
  have h2 := ZaK (.int 1) 1 C rfl
  simp! [F_qaz, lvP, h0, h1, ixQ, ixP, atI, ixN, h2, numB]
theorem is_clause_eq (x : Cl) (h : Int) (C : Cs) (hd : 0 <= x.d /\ x.d < h) (hc : 0 <= x.c /\ x.c < h) : F_qau [.v x.pv, .v (.int h)] C = some (.v (.bl x.ok), C) := by
 obtain ⟨d, c, p, wi, ws, lv⟩ := x
 have hd : 0 <= d /\ d < h := hd
 have hc : 0 <= c /\ c < h := hc
 unfold Cl.pv Cl.ok
 have r6 := Za6 [.int d, .int c, .int p, .int wi, .tup (ws.map (cond d)), lvP c lv] 6 6 C
 have n1 := ZaE (.int d) h C rfl
 have n2 := ZaE (.int c) h C rfl
 have b1 : belB (.int d) h = true := by simp [belB, hd.1, hd.2]
 have b2 : belB (.int c) h = true := by simp [belB, hc.1, hc.2]
 rw [b1] at n1; rw [b2] at n2
 have n3 : F_qba [.v (.int p), .v (.int 1)] C = some (.v (.bl (decide (1 <= p))), C) := ZaK (.int p) 1 C rfl
 have n4 : F_qba [.v (.int wi), .v (.int 1)] C = some (.v (.bl (decide (1 <= wi))), C) := ZaK (.int wi) 1 C rfl
 have r8 := Za6 (ws.map (cond d)) 0 8 C
 have el := leave_eq c lv C
 rw [List.length_map] at r8
 have e0 : decide ((0 : Int) <= (ws.length : Int)) = true := decide_eq_true (by lia)
 have e8 : decide ((ws.length : Int) <= 8) = decide (ws.length <= 8) := by by_cases q : ws.length <= 8 <;> simp [q] <;> lia
 rw [e0, e8, Bool.true_and] at r8
 generalize ws.map (cond d) = L at *
 generalize lvP c lv = v at *
 have r6' : F_qbc [.v (.tup [.int d, .int c, .int p, .int wi, .tup L, v]), .v (.int 6), .v (.int 6)] C = some (.v (.bl true), C) := by rw [r6]; rfl
 clear r6 e0 e8
 by_cases q1 : d = c
 ·subst q1; simp! [F_qau, r6', mAsg, hTup, hCons, hName, hNil, n1, n2]
 ·by_cases q2 : 1 <= p
  ·by_cases q3 : p <= 9
   ·have q3' : ¬ (9 < p) := by lia
    by_cases q4 : 1 <= wi
    ·by_cases q5 : ws.length <= 8
     ·simp! [F_qau, r6', mAsg, hTup, hCons, hName, hNil, n1, n2, q1, n3, n4, q2, q3, q3', q4, r8, q5, el]
     ·simp! [F_qau, r6', mAsg, hTup, hCons, hName, hNil, n1, n2, q1, n3, n4, q2, q3, q3', q4, r8, q5, el]
    ·simp! [F_qau, r6', mAsg, hTup, hCons, hName, hNil, n1, n2, q1, n3, n4, q2, q3, q3', q4]
   ·have q3' : 9 < p := by lia
    simp! [F_qau, r6', mAsg, hTup, hCons, hName, hNil, n1, n2, q1, n3, q2, q3, q3']
  ·simp! [F_qau, r6', mAsg, hTup, hCons, hName, hNil, n1, n2, q1, n3, q2]
section
variable {e f1 f2 f3 : Addr} {o k : PV}
theorem good_events (hf : f2 ≠ f1) (x : Cl) (hs cls : List PV) (i : Nat) (C : Cs) (hi : cls[i]? = some x.pv) (hn : x.ws.Nodup) (hl : x.ws.length < 70) (hw : ∀ w ∈ x.ws, wordB w = true) (hd : 0 <= x.d /\ x.d < hs.length) (hc : 0 <= x.c /\ x.c < hs.length) :
  F_qat e f1 f2 f3 [.v (.int (i : Int)), .v (.tup [.tup hs, o, k, .tup cls])] C = some (.v (.bl true), C) := by
 have hil : i < cls.length := by
  rcases Nat.lt_or_ge i cls.length with q | q
  ·exact q
  ·rw [List.getElem?_eq_none q] at hi; cases hi
 have ix : ixQ (.tup cls) (.int (i : Int)) = some x.pv := by
  have h3 : (i : Int) < (cls.length : Int) := by lia
  simp [ixQ, ixP, atI, ixN, h3, hi]
 have i3 : ixQ (.tup [.tup hs, o, k, .tup cls]) (.int 3) = some (.tup cls) := rfl
 have ee := events_of_eq x C (by lia)
 have b1 : belB (.int x.d) hs.length = true := by simp [belB, hd.1, hd.2]
 have b2 : belB (.int x.c) hs.length = true := by simp [belB, hc.1, hc.2]
 have hcm := Zbt (te := mFn (F_qax e f1 f2 f3) (aCons (mVar 0) (aCons (mVar 1) (aCons (mVar 2) aNil)))) (f := fun _ => .bl true) x.evs [none, some (.v (.int (i : Int))), some (.v (.tup [.tup hs, o, k, .tup cls]))] [] C (fun y hy => by
  have hev : F_qax e f1 f2 f3 [.v y, .v (.int (i : Int)), .v (.tup [.tup hs, o, k, .tup cls])] C = some (.v (.bl true), C) := by
   unfold Cl.evs at hy
   rcases List.mem_append.mp hy with hy | hy
   ·obtain ⟨w, hm, rfl⟩ := List.mem_map.mp hy
    rw [ev_said hf, b1, hw w hm]; rfl
   ·unfold lvE at hy
    cases hlv : x.lv
    ·rw [hlv] at hy; cases hy
    ·rw [hlv] at hy
     rw [List.mem_singleton.mp hy, ev_joined, b2]
  simp! [hev])
 rw [List.nil_append] at hcm
 have ha := all_bl (fun _ => true) x.evs
 have hat : x.evs.all (fun _ => true) = true := by simp
 rw [hat] at ha
 have hls := lenSet_evs x hn hl
 have hel : x.evs.length <= 100000 := by unfold Cl.evs lvE; cases x.lv <;> simp <;> lia
 generalize x.evs = E at *
 generalize E.map (fun _ => PV.bl true) = bs at hcm ha
 generalize x.pv = v at *
 generalize hD : ([.tup hs, o, k, .tup cls] : List PV) = D at *
 unfold F_qat B_qat
 generalize mFn (F_qax e f1 f2 f3) (aCons (mVar 0) (aCons (mVar 1) (aCons (mVar 2) aNil))) = te at hcm ⊢
 simp! [i3, ix, ee, mComp, mItems, itemsP, stIn', hel, hcm, ha, lenSetH, hls]
end
theorem Zba {α : Type} {te : PSt -> M SV} {h f : α -> PV} : ∀ (ys : List α) (ρ : PSt) (zs : List PV) (C : Cs), (∀ y ∈ ys, te (ρ.set 0 (some (.v (h y)))) C = some (.v (f y), C)) -> compL (hName 0) tOk te (ys.map h) ρ zs C = some (zs ++ ys.map f, C)
 | [], ρ, zs, C, _ => by simp [compL, Pu.ret]
 | y :: ys, ρ, zs, C, hh => by
  have h1 := hh y (by simp)
  have h2 := Zba (te := te) (h := h) (f := f) ys (ρ.set 0 (some (.v (h y)))) (zs ++ [f y]) C fun x hx => by rw [List.set_set]; exact hh x (by simp [hx])
  simp [compL, hName, bnd, tOk, Pu.ret, h1, h2]
noncomputable def dealP (hs os : List Str) (close : Int) (cls : List Cl) : PV := .tup [.tup (hs.map PV.str), .tup (os.map PV.str), .int close, .tup (cls.map Cl.pv)]
structure DOk (hs os : List Str) (close : Int) (cls : List Cl) (g : Bool) : Prop where
 h1 : hs.Nodup
 h2 : hs.length < 70
 h3 : ∀ z ∈ hs, wordB z = g
 h4 : ("bell" : Str) ∉ hs
 h5 : 1 <= hs.length
 o1 : os.Nodup
 o2 : os.length < 70
 o3 : ∀ z ∈ os, wordB z = g
 cl : 0 <= close
 n : cls.length <= 1000
 x : ∀ x ∈ cls, (0 <= x.d /\ x.d < hs.length) /\ (0 <= x.c /\ x.c < hs.length) /\ x.ws.Nodup /\ x.ws.length < 70 /\ ∀ w ∈ x.ws, wordB w = g
noncomputable def goodB (hs os : List Str) (cls : List Cl) (g : Bool) : Bool := decide (hs.length <= 8) && g && decide (os.length <= 4) && decide (1 <= cls.length) && decide (cls.length <= 12) && cls.all Cl.ok
theorem bell_in {hs : List Str} (h : ("bell" : Str) ∉ hs) : inP (.str "bell") (.tup (hs.map PV.str)) = some (.bl false) := by
 unfold inP inB
 have h1 : (hs.map PV.str).all flatP = true := by rw [List.all_map, List.all_eq_true]; intro _ _; rfl
 have h2 : (hs.map PV.str).any (fun y => eqF y (.str "bell")) = false := by
  rw [List.any_map, List.any_eq_false]
  intro z hz q
  have q : (z == ("bell" : Str)) = true := q
  exact h (eq_of_beq q ▸ hz)
 simp only [h1, h2]
 rfl
section
variable {e f1 f2 f3 : Addr}
theorem Zcb (hf : f2 ≠ f1) {hs os : List Str} {close : Int} {cls : List Cl} {g : Bool} (K : DOk hs os close cls g) (C : Cs) : F_qav e f1 f2 f3 [.v (dealP hs os close cls)] C = some (.v (.bl (goodB hs os cls g)), C) := by
 have r4 := Za6 [.tup (hs.map PV.str), .tup (os.map PV.str), .int close, .tup (cls.map Cl.pv)] 4 4 C
 have r4' : F_qbc [.v (.tup [.tup (hs.map PV.str), .tup (os.map PV.str), .int close, .tup (cls.map Cl.pv)]), .v (.int 4), .v (.int 4)] C = some (.v (.bl true), C) := by rw [r4]; rfl
 have w1 := ZbG hs 1 8 g C K.h1 (by have := K.h2; lia) K.h3
 have w2 := ZbG os 0 4 g C K.o1 (by have := K.o2; lia) K.o3
 have hne : hs.isEmpty = false := by have := K.h5; cases hs <;> simp at this ⊢
 rw [hne, Bool.or_false, decide_eq_true K.h5, Bool.true_and] at w1
 rw [decide_eq_true (Nat.zero_le _), Bool.true_and] at w2
 have w1 : F_qaq [.v (.tup (hs.map PV.str)), .v (.int 1), .v (.int 8)] C = some (.v (.bl (decide (hs.length <= 8) && g)), C) := w1
 have w2 : F_qaq [.v (.tup (os.map PV.str)), .v (.int 0), .v (.int 4)] C = some (.v (.bl (decide (os.length <= 4) && (g || os.isEmpty))), C) := w2
 have bl := bell_in K.h4
 have nc : F_qba [.v (.int close), .v (.int 0)] C = some (.v (.bl true), C) := by rw [ZaK _ _ _ rfl]; simp [numB, K.cl]
 have rc := Za6 (cls.map Cl.pv) 1 12 C
 rw [List.length_map] at rc
 have e1 : decide ((1 : Int) <= (cls.length : Int)) = decide (1 <= cls.length) := by by_cases q : 1 <= cls.length <;> simp [q] <;> lia
 have e2 : decide ((cls.length : Int) <= 12) = decide (cls.length <= 12) := by by_cases q : cls.length <= 12 <;> simp [q] <;> lia
 rw [e1, e2] at rc
 have c1 := Zba (te := mFn F_qau (aCons (mVar 0) (aCons (mCB (g1 lenH) (aCons (mVar 1) aNil)) aNil))) (h := Cl.pv) (f := fun x => .bl x.ok) cls [none, some (.v (.tup (hs.map PV.str)))] [] C (fun x hx => by
  obtain ⟨a1, a2, _⟩ := K.x x hx
  have := is_clause_eq x hs.length C a1 a2
  simp! [this])
 rw [List.nil_append] at c1
 have z1 : allH [.lst (cls.map fun x => .bl x.ok)] = some (.bl (cls.all Cl.ok)) := by simp [allH, Zbb, List.all_map]
 have c2 : g = true -> compL (hName 0) tOk (mFn (F_qat e f1 f2 f3) (aCons (mVar 0) (aCons (mVar 1) aNil))) ((List.range cls.length).map fun (k : Nat) => .int (k : Int)) [none, some (.v (dealP hs os close cls))] [] C = some ((List.range cls.length).map fun _ => .bl true, C) := fun hg => by
  have := Zba (te := mFn (F_qat e f1 f2 f3) (aCons (mVar 0) (aCons (mVar 1) aNil))) (h := fun (k : Nat) => .int (k : Int)) (f := fun _ => .bl true) (List.range cls.length) [none, some (.v (dealP hs os close cls))] [] C (fun i hi => by
   have hi := List.mem_range.mp hi
   obtain ⟨a1, a2, a3, a4, a5⟩ := K.x cls[i] (List.getElem_mem hi)
   have := good_events (e := e) (f3 := f3) (o := .tup (os.map PV.str)) (k := .int close) hf cls[i] (hs.map PV.str) (cls.map Cl.pv) i C (by rw [List.getElem?_map, List.getElem?_eq_getElem hi]; rfl) a3 a4 (fun w hw => (a5 w hw).trans hg) (by simpa using a1) (by simpa using a2)
   unfold dealP
   simp! [this])
  rw [this, List.nil_append]
 have z2 : allH [.lst ((List.range cls.length).map fun _ => .bl true)] = some (.bl true) := by
  have := Zbb (fun _ : Nat => true) (List.range cls.length)
  simp only [allH, this]
  simp
 have hlc : (cls.map Cl.pv).length <= 100000 := by have := K.n; simp; lia
 have hcl : ((cls.map Cl.pv).length : Int) = cls.length := by simp
 have hrg : -1000000 <= (cls.length : Int) /\ (cls.length : Int) <= 1000000 := by have := K.n; lia
 have hl2 : cls.length <= 100000 := by have := K.n; lia
 have hhl : ((hs.map PV.str).length : Int) = hs.length := by simp
 unfold goodB dealP at *
 unfold F_qav B_qav
 generalize hs.map PV.str = H at *
 generalize os.map PV.str = O at *
 generalize cls.map Cl.pv = P at *
 generalize (cls.map fun x => PV.bl x.ok) = bs at c1 z1
 generalize ((List.range cls.length).map fun _ => PV.bl true) = ts at c2 z2
 generalize mFn F_qau (aCons (mVar 0) (aCons (mCB (g1 lenH) (aCons (mVar 1) aNil)) aNil)) = te1 at c1 ⊢
 generalize mFn (F_qat e f1 f2 f3) (aCons (mVar 0) (aCons (mVar 1) aNil)) = te2 at c2 ⊢
 by_cases q1 : hs.length <= 8
 ·cases g with
  | false => simp! [r4', mAsg, hTup, hCons, hName, hNil, w1, q1]
  | true =>
   have c2 := c2 rfl
   by_cases q2 : os.length <= 4
   ·by_cases q3 : 1 <= cls.length
    ·by_cases q4 : cls.length <= 12
     ·cases q5 : cls.all Cl.ok
      ·rw [q5] at z1
       simp! [r4', mAsg, hTup, hCons, hName, hNil, w1, q1, bl, w2, q2, nc, rc, q3, q4, mComp, mItems, itemsP, stIn', hlc, c1, z1]
      ·rw [q5] at z1
       simp! [r4', mAsg, hTup, hCons, hName, hNil, w1, q1, bl, w2, q2, nc, rc, q3, q4, mComp, mItems, itemsP, stIn', hlc, c1, z1, mRange1, rng1P, hcl, hrg, hl2, c2, z2]
     ·simp! [r4', mAsg, hTup, hCons, hName, hNil, w1, q1, bl, w2, q2, nc, rc, q3, q4]
    ·simp! [r4', mAsg, hTup, hCons, hName, hNil, w1, q1, bl, w2, q2, nc, rc, q3]
   ·simp! [r4', mAsg, hTup, hCons, hName, hNil, w1, q1, bl, w2, q2]
 ·simp! [r4', mAsg, hTup, hCons, hName, hNil, w1, q1]
end
theorem intsP_map {α : Type} (f : α -> Int) : ∀ l : List α, intsP (l.map fun x => .int (f x)) = some (l.map f)
 | [] => rfl
 | x :: l => by rw [List.map_cons]; unfold intsP; rw [intsP_map f l]; rfl
theorem end_gen (te : PSt -> M SV) {D : PV} {P bs : List PV} {close m : Int} {C : Cs} (i2 : ixQ D (.int 2) = some (.int close)) (i3 : ixQ D (.int 3) = some (.tup P)) (hl : P.length <= 100000) (c1 : compL (hName 0) tOk te P [none] [] C = some (bs, C)) (z1 : maxLH [.lst bs] = some (.int m)) :
  mDef 1 0 (mRet (mOp (g2 addP) (mOp (g2 ixQ) (mVar 0) (mC (.int 2))) (mCB (g1 maxLH) (aCons (mVal (mComp (mItems (mOp (g2 ixQ) (mVar 0) (mC (.int 3)))) ["clause"] [] (hName 0) tOk te)) aNil)))) [.v D] C = some (.v (.int (close + m)), C) := by
 simp! [i2, i3, mComp, mItems, itemsP, stIn', hl, addP, c1, z1]
theorem end_of_eq (hs os : List Str) (close : Int) (cls : List Cl) (C : Cs) (hc : cls ≠ []) (hn : cls.length <= 1000) : F_qar [.v (dealP hs os close cls)] C = some (.v (.int (close + maxI (cls.map Cl.wi))), C) := by
 have c1 := Zba (te := mOp (g2 ixQ) (mVar 0) (mC (.int 3))) (h := Cl.pv) (f := fun x => .int x.wi) cls [none] [] C (fun x hx => by
  have : ixQ x.pv (.int 3) = some (.int x.wi) := rfl
  simp! [this])
 rw [List.nil_append] at c1
 have z1 : maxLH [.lst (cls.map fun x => .int x.wi)] = some (.int (maxI (cls.map Cl.wi))) := by
  unfold maxLH
  simp only [intsP_map]
  cases cls with
  | nil => exact absurd rfl hc
  | cons x l => rfl
 have hl : (cls.map Cl.pv).length <= 100000 := by simp; lia
 have i2 : ixQ (dealP hs os close cls) (.int 2) = some (.int close) := rfl
 have i3 : ixQ (dealP hs os close cls) (.int 3) = some (.tup (cls.map Cl.pv)) := rfl
 exact end_gen _ i2 i3 hl c1 z1
theorem Zbc (k : Nat) (a b : Int) (C : Cs) (h : GS C k) (ha : 0 <= a /\ a <= b /\ b < 1000) : ∃ n C', F_qam [.c k, .v (.int a), .v (.int b)] C = some (.v (.int n), C') /\ 0 <= n /\ n <= b + 1 /\ Adv k C C' := by
 obtain ⟨d, C1, e1, d1, d2, a1⟩ := ZaY k 16 C h (by decide)
 obtain ⟨d', C2, e2, d3, d4, a2⟩ := ZaY k (b - a + 1) C1 a1.gs (by lia)
 have t1 := a1.take
 have t2 := (a1.trans a2).take
 by_cases q0 : d = 0
 ·refine ⟨b + 1, C1, ?_, by lia, by lia, a1⟩
  subst q0
  simp! [F_qam, e1, addP, t1]
 ·by_cases q1 : d = 1
  ·subst q1
   refine ⟨if a - 1 > 0 then a - 1 else 0, C1, ?_, by split <;> lia, by split <;> lia, a1⟩
   simp! [F_qam, e1, maxH, t1]
  ·by_cases q2 : d < 6
   ·refine ⟨b, C1, ?_, by lia, by lia, a1⟩
    simp! [F_qam, e1, q0, q1, q2, t1]
   ·refine ⟨a + d', C2, ?_, by lia, by lia, a1.trans a2⟩
    simp! [F_qam, e1, q0, q1, q2, addP, e2, t2]
theorem time_adv (k : Nat) (C : Cs) (h : GS C k) : ∃ n C', F_qao [.c k] C = some (.v (.int n), C') /\ 0 <= n /\ Adv k C C' := by
 obtain ⟨x1, C1, e1, d1, d2, a1⟩ := ZaY k 9 C h (by decide)
 obtain ⟨x2, C2, e2, d3, d4, a2⟩ := ZaY k 1000 C1 a1.gs (by decide)
 obtain ⟨x3, C3, e3, d5, d6, a3⟩ := ZaY k 7 C2 a2.gs (by decide)
 obtain ⟨x4, C4, e4, d7, d8, a4⟩ := ZaY k 3 C3 a3.gs (by decide)
 obtain ⟨p, ep, hp⟩ := ix_all (okk := fun x => numB x 0) [.int x1, .int x2, .int (100000000000000000000000000000 + x3)] (by simp [numB, d1, d3]; lia) x4 d7 (by simpa using d8)
 have t := (((a1.trans a2).trans a3).trans a4).take
 cases p with
 | int n =>
  refine ⟨n, C4, ?_, by simpa [numB] using hp, ((a1.trans a2).trans a3).trans a4⟩
  simp! [F_qao, e1, e2, e3, addP, e4, ep, t]
 | _ => cases hp
noncomputable abbrev ste : PSt -> M SV := mTup (aCons (mC (.str "said")) (aCons (mVar 1) (aCons (mVar 0) aNil)))
noncomputable abbrev dbodyG (te : PSt -> M SV) : PSt -> M PF := (mSeq (mSet 9 (mFn F_qak (aCons (mVar 0) (aCons (mVar 1) aNil)))) (mSeq (mSet 10 (mOp (g2 modP) (mOp (g2 addP) (mVar 9) (mC (.int 1))) (mVar 1))) (mSeq (mPar3 11 12 13 (aCons (mFn F_qam (aCons (mVar 0) (aCons (mC (.int 1)) (aCons (mC (.int 9)) aNil)))) (aCons (mFn F_qam (aCons (mVar 0) (aCons (mC (.int 0)) (aCons (mC (.int 8)) aNil)))) (aCons (mFn F_qao (aCons (mVar 0) aNil)) aNil)))) (mSeq (mSet 14 (mCB (g1 tupH) (aCons (mVal (mComp (mItems (mFn F_qai (aCons (mVar 12) (aCons (mVar 3) aNil)))) ["_law_word"] [9] (hName 0) tOk te)) aNil))) (mSeq (mDrop (mApp (mVar 5) (aCons (mTup (aCons (mVar 9) (aCons (mVar 10) (aCons (mVar 11) (aCons (mVar 13) (aCons (mVar 14) (aCons (mOp (g2 ixQ) (mVal (mLst (aCons (mTup aNil) (aCons (mTup (aCons (mTup (aCons (mC (.str "joined")) (aCons (mVar 10) aNil))) (aCons (mC (.int 1)) aNil))) aNil)))) (mFn F_qak (aCons (mVar 0) (aCons (mC (.int 2)) aNil)))) aNil))))))) aNil))) (mSeq (mSet 6 (mAndV (mVar 6) (mAndV (mChain (g2 leP) (g2 leP) (mC (.int 1)) (mVar 11) (mC (.int 9))) (mAndV (mOp (g2 leP) (mVar 12) (mC (.int 8))) (mOp (g2 gtP) (mVar 13) (mC (.int 0))))))) (mSet 7 (mCB (g1 maxH) (aCons (mVar 7) (aCons (mOp (g2 addP) (mVar 4) (mVar 13)) aNil))))))))))
theorem said_comp (m z : Nat) (d : Int) (C : Cs) : compL (hName 0) tOk ste (nms m z) [none, some (.v (.int d))] [] C = some ((nmL m z).map (cond d), C) := by
 rw [nms_eq]
 have := Zba (te := ste) (h := PV.str) (f := cond d) (nmL m z) [none, some (.v (.int d))] [] C (fun w hw => by simp! [cond])
 rw [this, List.nil_append]
noncomputable def okT (x : Cl) : Bool := decide (1 <= x.p) && decide (x.p <= 9) && decide (x.ws.length <= 8) && decide (0 < x.wi)
theorem turn (k m h o z : Nat) (close en : Int) (good : Bool) (L : List PV) (v8 v9 v10 v11 v12 v13 v14 v15 : Option SV) (C : Cs) (hG : GS C k) (hm : C[m]? = some (.lst L)) (hkm : m ≠ k) (hL : L.length < 1000) (hh : 1 <= h /\ h <= 9) (hz : z <= 13) :
  ∃ (x : Cl) (mm : Nat) (w9 w10 w11 w12 w13 w14 : Option SV) (C' : Cs), dbodyG ste [some (.c k), some (.v (.int h)), some (.v (.int o)), some (.v (.int z)), some (.v (.int close)), some (.c m), some (.v (.bl good)), some (.v (.int en)), v8, v9, v10, v11, v12, v13, v14, v15] C =
   some (.nx [some (.c k), some (.v (.int h)), some (.v (.int o)), some (.v (.int z)), some (.v (.int close)), some (.c m), some (.v (.bl (good && okT x))), some (.v (.int (if close + x.wi > en then close + x.wi else en))), v8, w9, w10, w11, w12, w13, w14, v15], C') /\
   0 <= x.d /\ x.d < h /\ x.c = (x.d + 1) % h /\ mm <= 9 /\ x.ws = nmL mm z /\ 0 <= x.wi /\ GS C' k /\ C'[m]? = some (.lst (L ++ [x.pv])) /\ C'.length = C.length /\ ∀ j, j ≠ k -> j ≠ m -> C'[j]? = C[j]? := by
 obtain ⟨d, C1, e1, d1, d2, a1⟩ := ZaY k h C hG (by lia)
 obtain ⟨p, C2, e2, p1, p2, a2⟩ := Zbc k 1 9 C1 a1.gs (by decide)
 obtain ⟨mi, C3, e3, m1, m2, a3⟩ := Zbc k 0 8 C2 a2.gs (by decide)
 obtain ⟨wi, C4, e4, w1, a4⟩ := time_adv k C3 a3.gs
 obtain ⟨l, C5, e5, l1, l2, a5⟩ := ZaY k 2 C4 a4.gs (by decide)
 obtain ⟨mm, rfl⟩ : ∃ mm : Nat, mi = mm := ⟨mi.toNat, by lia⟩
 have hmm : mm <= 9 := by lia
 have en1 := (names_eq mm z C4 (by lia) (by lia)).1
 have sc := said_comp mm z d C4
 have h0 : (0 : Int) < h := by lia
 have h0' : 0 < h := by lia
 have hC5 : C5[m]? = some (.lst L) := by rw [((((a1.trans a2).trans a3).trans a4).trans a5).oth m hkm]; exact hm
 have hC4 : C4[m]? = some (.lst L) := by rw [(((a1.trans a2).trans a3).trans a4).oth m hkm]; exact hm
 have hL2 : L.length < 100000 := by lia
 have hn1 : (nms mm z).length <= 100000 := by rw [nms_len]; lia
 have hw : ((nmL mm z).map (cond d)).length = mm := by rw [List.length_map, Za2]
 have lv : ∃ b, ixQ (.lst [.tup [], .tup [.tup [.str "joined", .int ((d + 1) % h)], .int 1]]) (.int l) = some (lvP ((d + 1) % h) b) := by
  have : l = 0 \/ l = 1 := by lia
  rcases this with rfl | rfl
  ·exact ⟨false, rfl⟩
  ·exact ⟨true, rfl⟩
 obtain ⟨b, el⟩ := lv
 have ml : m < C5.length := by
  rcases Nat.lt_or_ge m C5.length with q | q
  ·exact q
  ·rw [List.getElem?_eq_none q] at hC5; cases hC5
 refine ⟨⟨d, (d + 1) % h, p, wi, nmL mm z, b⟩, mm, some (.v (.int d)), some (.v (.int ((d + 1) % h))), some (.v (.int p)), some (.v (.int mm)), some (.v (.int wi)), some (.v (.tup ((nmL mm z).map (cond d)))), C5.set m (.lst (L ++ [Cl.pv ⟨d, (d + 1) % h, p, wi, nmL mm z, b⟩])), ?_, d1, d2, rfl, hmm, rfl, w1, ?_, ?_, ?_, fun j j1 j2 => ?_⟩
 ·have okv_ : okT ⟨d, (d + 1) % h, p, wi, nmL mm z, b⟩ = (decide (1 <= p) && decide (p <= 9) && decide (mm <= 8) && decide (0 < wi)) := by unfold okT; simp [Za2]
  have pv_ : Cl.pv ⟨d, (d + 1) % h, p, wi, nmL mm z, b⟩ = .tup [.int d, .int ((d + 1) % h), .int p, .int wi, .tup ((nmL mm z).map (cond d)), lvP ((d + 1) % h) b] := rfl
  have m8 : decide ((mm : Int) <= 8) = decide (mm <= 8) := by by_cases q : mm <= 8 <;> simp [q] <;> lia
  rw [okv_, pv_]
  generalize (nmL mm z).map (cond d) = S at *
  generalize nms mm z = N at *
  generalize lvP ((d + 1) % h) b = V at *
  generalize ste = te at sc ⊢
  have ga : ∀ x y : Int, (if x > y then x else y) = if y < x then x else y := fun _ _ => rfl
  cases good
  ·simp! [e1, e2, e3, e4, h0, h0', addP, mPar3, en1, mComp, mItems, itemsP, stIn', hn1, sc, tupH, mApp, isLst, appC, hC4, hC5, e5, el, hL2, maxH]
  ·by_cases q1 : 1 <= p
   ·by_cases q2 : p <= 9
    ·by_cases q3 : mm <= 8
     ·have q3' : (mm : Int) <= 8 := by lia
      simp! [e1, e2, e3, e4, h0, h0', addP, mPar3, en1, mComp, mItems, itemsP, stIn', hn1, sc, tupH, mApp, isLst, appC, hC4, hC5, e5, el, hL2, maxH, q1, q2, q3, q3']
     ·have q3' : ¬ (mm : Int) <= 8 := by lia
      simp! [e1, e2, e3, e4, h0, h0', addP, mPar3, en1, mComp, mItems, itemsP, stIn', hn1, sc, tupH, mApp, isLst, appC, hC4, hC5, e5, el, hL2, maxH, q1, q2, q3, q3']
    ·simp! [e1, e2, e3, e4, h0, h0', addP, mPar3, en1, mComp, mItems, itemsP, stIn', hn1, sc, tupH, mApp, isLst, appC, hC4, hC5, e5, el, hL2, maxH, q1, q2]
   ·simp! [e1, e2, e3, e4, h0, h0', addP, mPar3, en1, mComp, mItems, itemsP, stIn', hn1, sc, tupH, mApp, isLst, appC, hC4, hC5, e5, el, hL2, maxH, q1]
 ·obtain ⟨x, y, q, r⟩ := a5.gs
  exact ⟨x, y, by rw [List.getElem?_set_ne hkm]; exact q, r⟩
 ·rw [List.getElem?_set_self ml]
 ·rw [List.length_set]; exact ((((a1.trans a2).trans a3).trans a4).trans a5).len
 ·rw [List.getElem?_set_ne (Ne.symm j2)]; exact ((((a1.trans a2).trans a3).trans a4).trans a5).oth j j1
theorem loop_n {g : PV -> PSt -> Option PSt} {f : PSt -> M PF} (Pi : Nat -> PSt -> Cs -> Prop) : ∀ (xs : List PV), (∀ x ∈ xs, ∀ i ρ C, i < 100 -> Pi i ρ C -> ∃ ρ1 ρ2 C2, g x ρ = some ρ1 /\ f ρ1 C = some (.nx ρ2, C2) /\ Pi (i + 1) ρ2 C2) -> ∀ i ρ C, i + xs.length <= 100 -> Pi i ρ C -> ∃ ρ' C', loop g f xs ρ C = some (.nx ρ', C') /\ Pi (i + xs.length) ρ' C'
 | [], _, i, ρ, C, _, h => ⟨ρ, C, rfl, h⟩
 | x :: xs, hs, i, ρ, C, hi, h => by
  simp only [List.length_cons] at hi
  obtain ⟨ρ1, ρ2, C2, e1, e2, h2⟩ := hs x (by simp) i ρ C (by lia) h
  obtain ⟨ρ', C', e3, h3⟩ := loop_n Pi xs (fun y hy => hs y (by simp [hy])) (i + 1) ρ2 C2 (by lia) h2
  refine ⟨ρ', C', ?_, ?_⟩
  ·unfold loop
   simp only [e1, bnd, e2, e3]
  ·rw [List.length_cons, show i + (xs.length + 1) = i + 1 + xs.length by lia]; exact h3
structure LI (k m h o z : Nat) (close : Int) (C0 : Cs) (i : Nat) (cls : List Cl) (good : Bool) (en : Int) (g0 : Bool) (C : Cs) : Prop where
 n : cls.length = i
 gs : GS C k
 cm : C[m]? = some (.lst (cls.map Cl.pv))
 len : C.length = m + 1
 oth : ∀ j, j ≠ k -> j ≠ m -> C[j]? = C0[j]?
 xs : ∀ x ∈ cls, 0 <= x.d /\ x.d < h /\ x.c = (x.d + 1) % h /\ (∃ mm, mm <= 9 /\ x.ws = nmL mm z) /\ 0 <= x.wi
 gd : good = (g0 && cls.all okT)
 e1 : close <= en
 e2 : ∀ x ∈ cls, close + x.wi <= en
 e3 : en = close \/ ∃ x ∈ cls, en = close + x.wi
theorem clauses_loop (k m h o z : Nat) (close : Int) (g0 : Bool) (C0 : Cs) (n : Nat) (hn : n <= 50) (hkm : m ≠ k) (hh : 1 <= h /\ h <= 9) (hz : z <= 13) (hG : GS C0 k) (hm : C0[m]? = some (.lst [])) (hl : C0.length = m + 1) (v8 v9 v10 v11 v12 v13 v14 v15 : Option SV) :
  ∃ cls good en w8 w9 w10 w11 w12 w13 w14 C, loop (hName 8) (dbodyG ste) ((List.range n).map fun (j : Nat) => .int (0 + j)) [some (.c k), some (.v (.int h)), some (.v (.int o)), some (.v (.int z)), some (.v (.int close)), some (.c m), some (.v (.bl g0)), some (.v (.int close)), v8, v9, v10, v11, v12, v13, v14, v15] C0 =
   some (.nx [some (.c k), some (.v (.int h)), some (.v (.int o)), some (.v (.int z)), some (.v (.int close)), some (.c m), some (.v (.bl good)), some (.v (.int en)), w8, w9, w10, w11, w12, w13, w14, v15], C) /\ LI k m h o z close C0 n cls good en g0 C := by
 obtain ⟨ρ', C', e, cls, good, en, w8, w9, w10, w11, w12, w13, w14, rfl, L⟩ := loop_n (g := hName 8) (f := dbodyG ste) (fun i ρ C => ∃ cls good en w8 w9 w10 w11 w12 w13 w14, ρ = [some (.c k), some (.v (.int h)), some (.v (.int o)), some (.v (.int z)), some (.v (.int close)), some (.c m), some (.v (.bl good)), some (.v (.int en)), w8, w9, w10, w11, w12, w13, w14, v15] /\ LI k m h o z close C0 i cls good en g0 C)
  ((List.range n).map fun (j : Nat) => .int (0 + j)) (fun x hx i ρ C hi hP => by
   obtain ⟨cls, good, en, w8, w9, w10, w11, w12, w13, w14, rfl, L⟩ := hP
   obtain ⟨y, mm, u9, u10, u11, u12, u13, u14, C', et, a1, a2, a3, a4, a5, a6, a7, a8, a9, a10⟩ := turn k m h o z close en good (cls.map Cl.pv) (some (.v x)) w9 w10 w11 w12 w13 w14 v15 C L.gs L.cm hkm (by rw [List.length_map, L.n]; lia) hh hz
   refine ⟨_, _, C', rfl, et, cls ++ [y], _, _, _, _, _, _, _, _, _, rfl, ⟨by simp [L.n], a7, by rw [a8]; simp, a9.trans L.len, fun j j1 j2 => (a10 j j1 j2).trans (L.oth j j1 j2), fun v hv => ?_, ?_, ?_, fun v hv => ?_, ?_⟩⟩
   ·rcases List.mem_append.mp hv with hv | hv
    ·exact L.xs v hv
    ·rw [List.mem_singleton.mp hv]; exact ⟨a1, a2, a3, ⟨mm, a4, a5⟩, a6⟩
   ·rw [L.gd, List.all_append]; simp [Bool.and_assoc]
   ·have := L.e1; split <;> lia
   ·rcases List.mem_append.mp hv with hv | hv
    ·have := L.e2 v hv; split <;> lia
    ·rw [List.mem_singleton.mp hv]; split <;> lia
   ·split
    ·exact .inr ⟨y, by simp, rfl⟩
    ·rcases L.e3 with q | ⟨v, hv, q⟩
     ·exact .inl q
     ·exact .inr ⟨v, by simp [hv], q⟩) 0 _ C0 (by simp; lia) ⟨[], g0, close, v8, v9, v10, v11, v12, v13, v14, rfl, ⟨rfl, hG, hm, hl, fun _ _ _ => rfl, fun x hx => (nomatch hx), by simp, Int.le_refl _, fun x hx => (nomatch hx), .inl rfl⟩⟩
 refine ⟨cls, good, en, w8, w9, w10, w11, w12, w13, w14, C', e, ?_⟩
 simpa using L
theorem next_ne {d h : Int} (h1 : 0 <= d) (h2 : d < h) (h3 : 2 <= h) : d ≠ (d + 1) % h := by
 by_cases q : d + 1 < h
 ·rw [Int.emod_eq_of_lt (by lia) q]; lia
 ·have : d + 1 = h := by lia
  rw [this, Int.emod_self]; lia
theorem next_one {d : Int} (h1 : 0 <= d) (h2 : d < 1) : d = (d + 1) % 1 := by lia
theorem good_same (h o z : Nat) (os : List Str) (cls : List Cl) (hh : 1 <= h) (ho : os.length = o) (hx : ∀ x ∈ cls, 0 <= x.d /\ x.d < h /\ x.c = (x.d + 1) % h) :
  (((decide (2 <= h) && decide (h <= 8)) && (decide (o <= 4) && decide (z <= 12))) && cls.all okT && (decide (1 <= cls.length) && decide (cls.length <= 12))) = goodB (nmL h z) os cls (decide (z <= 12)) := by
 unfold goodB
 rw [Za2, ho]
 by_cases q : 2 <= h
 ·have e : cls.all okT = cls.all Cl.ok := by
   rw [Bool.eq_iff_iff, List.all_eq_true, List.all_eq_true]
   refine ⟨fun H x m => ?_, fun H x m => ?_⟩
   ·obtain ⟨a1, a2, a3⟩ := hx x m
    have := next_ne a1 a2 (by lia)
    rw [← a3] at this
    have := H x m
    unfold okT at this; unfold Cl.ok
    simp only [Bool.and_eq_true, decide_eq_true_eq] at this ⊢
    lia
   ·have := H x m
    unfold okT; unfold Cl.ok at this
    simp only [Bool.and_eq_true, decide_eq_true_eq] at this ⊢
    lia
  rw [e, Bool.eq_iff_iff]
  simp only [Bool.and_eq_true, decide_eq_true_eq]
  constructor
  ·rintro ⟨⟨⟨⟨a, b⟩, c, d⟩, e⟩, f, g⟩; exact ⟨⟨⟨⟨⟨b, d⟩, c⟩, f⟩, g⟩, e⟩
  ·rintro ⟨⟨⟨⟨⟨b, d⟩, c⟩, f⟩, g⟩, e⟩; exact ⟨⟨⟨⟨q, b⟩, c, d⟩, e⟩, f, g⟩
 ·have h1 : h = 1 := by lia
  subst h1
  rw [decide_eq_false q]
  cases cls with
  | nil => simp
  | cons x l =>
   obtain ⟨a1, a2, a3⟩ := hx x (.head _)
   have a3 : x.c = (x.d + 1) % 1 := a3
   have : x.ok = false := by
    unfold Cl.ok
    rw [decide_eq_false (p := x.d ≠ x.c) (by rw [a3]; have := next_one a1 (by lia : x.d < 1); intro z; exact z this)]
    simp
   simp [this]
theorem end_same (close en : Int) (cls : List Cl) (hc : cls ≠ []) (hw : ∀ x ∈ cls, 0 < x.wi) (e2 : ∀ x ∈ cls, close + x.wi <= en) (e3 : en = close \/ ∃ x ∈ cls, en = close + x.wi) : en = close + maxI (cls.map Cl.wi) := by
 obtain ⟨m1, m2⟩ := maxI_ok (cls.map Cl.wi) (by simpa using hc)
 obtain ⟨x, hx, ex⟩ := List.mem_map.mp m1
 have h1 := e2 x hx
 have h2 := hw x hx
 rcases e3 with q | ⟨y, hy, q⟩
 ·lia
 ·have := m2 y.wi (List.mem_map_of_mem hy); lia
theorem max1 (n : Int) (h : 0 <= n) : ∃ k : Nat, maxH [.int 1, .int n] = some (.int k) /\ 1 <= k /\ ((k : Int) = n \/ ((k : Int) = 1 /\ n = 0)) := by
 by_cases q : n > 1
 ·exact ⟨n.toNat, by unfold maxH; simp [q]; lia, by lia, .inl (by lia)⟩
 ·refine ⟨1, by unfold maxH; simp; lia, Nat.le_refl _, ?_⟩
  lia
theorem nms_rev (n z : Nat) : (nms n z).reverse = (nmL n z).reverse.map PV.str := by rw [nms_eq, List.map_reverse]
theorem deal_ok {h o z : Nat} {close : Int} {cls : List Cl} (hh : 1 <= h /\ h <= 9) (ho : o <= 5) (hz : 1 <= z /\ z <= 13) (hc : 0 <= close) (hn : cls.length <= 1000) (hx : ∀ x ∈ cls, 0 <= x.d /\ x.d < h /\ x.c = (x.d + 1) % h /\ (∃ mm, mm <= 9 /\ x.ws = nmL mm z) /\ 0 <= x.wi) :
  DOk (nmL h z) (nmL o z).reverse close cls (decide (z <= 12)) where
 h1 := nmL_nd h z
 h2 := by rw [Za2]; lia
 h3 := nmL_word h z (by lia) hz.1
 h4 := fun m => by obtain ⟨k, _, e⟩ := List.mem_map.mp m; exact nmS_bell k z e
 h5 := by rw [Za2]; lia
 o1 := List.pairwise_reverse.mpr ((nmL_nd o z).imp Ne.symm)
 o2 := by rw [List.length_reverse, Za2]; lia
 o3 := fun x hx => nmL_word o z (by lia) hz.1 x (List.mem_reverse.mp hx)
 cl := hc
 n := hn
 x := fun x m => by
  obtain ⟨a1, a2, a3, ⟨mm, a4, a5⟩, _⟩ := hx x m
  rw [Za2, a5]
  refine ⟨⟨a1, a2⟩, ⟨?_, ?_⟩, nmL_nd mm z, by rw [Za2]; lia, nmL_word mm z (by lia) hz.1⟩
  ·rw [a3]; exact Int.emod_nonneg _ (by lia)
  ·rw [a3]; exact Int.emod_lt_of_pos _ (by lia)
noncomputable abbrev ge1 : PSt -> M SV := mAndV (mChain (g2 leP) (g2 leP) (mC (.int 2)) (mVar 1) (mC (.int 8))) (mAndV (mOp (g2 leP) (mVar 2) (mC (.int 4))) (mOp (g2 leP) (mVar 3) (mC (.int 12))))
noncomputable abbrev ge2 : PSt -> M SV := mAndV (mVar 6) (mChain (g2 leP) (g2 leP) (mC (.int 1)) (mCB (g1 lenH) (aCons (mVar 5) aNil)) (mC (.int 12)))
theorem ge1_eq (h o z : Nat) (v0 : Option SV) (r : PSt) (C : Cs) : ge1 (v0 :: some (.v (.int h)) :: some (.v (.int o)) :: some (.v (.int z)) :: r) C = some (.v (.bl ((decide (2 <= h) && decide (h <= 8)) && (decide (o <= 4) && decide (z <= 12)))), C) := by
 have e1 : (2 : Int) <= (h : Int) ↔ 2 <= h := by lia
 have e2 : (h : Int) <= 8 ↔ h <= 8 := by lia
 have e3 : (o : Int) <= 4 ↔ o <= 4 := by lia
 have e4 : (z : Int) <= 12 ↔ z <= 12 := by lia
 by_cases q1 : 2 <= h
 ·by_cases q2 : h <= 8
  ·by_cases q3 : o <= 4 <;> simp! [e1, e2, e3, e4, q1, q2, q3]
  ·simp! [e1, e2, e3, e4, q1, q2]
 ·simp! [e1, e2, e3, e4, q1]
theorem ge2_eq (v0 v1 v2 v3 v4 : Option SV) (m : Nat) (good : Bool) (L : List PV) (r : PSt) (C : Cs) (hm : C[m]? = some (.lst L)) : ge2 (v0 :: v1 :: v2 :: v3 :: v4 :: some (.c m) :: some (.v (.bl good)) :: r) C = some (.v (.bl (good && (decide (1 <= L.length) && decide (L.length <= 12)))), C) := by
 have e1 : (1 : Int) <= (L.length : Int) ↔ 1 <= L.length := by lia
 have e2 : (L.length : Int) <= 12 ↔ L.length <= 12 := by lia
 cases good
 ·simp! []
 ·by_cases q1 : 1 <= L.length
  ·simp! [hm, e1, e2, q1]
  ·simp! [hm, e1, e2, q1]
noncomputable abbrev dealB (ge ge' : PSt -> M SV) (body : PSt -> M PF) : PSt -> M PF := (mSeq (mSet 1 (mCB (g1 maxH) (aCons (mC (.int 1)) (aCons (mFn F_qam (aCons (mVar 0) (aCons (mC (.int 2)) (aCons (mC (.int 8)) aNil)))) aNil)))) (mSeq (mSet 2 (mFn F_qam (aCons (mVar 0) (aCons (mC (.int 0)) (aCons (mC (.int 4)) aNil))))) (mSeq (mSet 3 (mCB (g1 maxH) (aCons (mC (.int 1)) (aCons (mFn F_qam (aCons (mVar 0) (aCons (mC (.int 1)) (aCons (mC (.int 12)) aNil)))) aNil)))) (mSeq (mSet 4 (mFn F_qao (aCons (mVar 0) aNil))) (mSeq (mNew 5 (mLst aNil)) (mSeq (mSet 6 ge) (mSeq (mSet 7 (mVar 4)) (mSeq (mFor (mRange1 (aCons (mFn F_qam (aCons (mVar 0) (aCons (mC (.int 1)) (aCons (mC (.int 12)) aNil)))) aNil)) (hName 8) body) (mSeq (mNew 15 (mFnF FF_qai (aCons (mVar 2) (aCons (mVar 3) aNil)))) (mSeq (mDrop (mRev (mVar 15))) (mSeq (mSet 6 ge') (mRet (mTup (aCons (mTup (aCons (mCB (g1 tupH) (aCons (mFn F_qai (aCons (mVar 1) (aCons (mVar 3) aNil))) aNil)) (aCons (mCB (g1 tupH) (aCons (mVar 15) aNil)) (aCons (mVar 4) (aCons (mCB (g1 tupH) (aCons (mVar 5) aNil)) aNil))))) (aCons (mVar 6) (aCons (mVar 7) aNil))))))))))))))))
theorem deal_adv (k : Nat) (C : Cs) (hG : GS C k) : ∃ (h o z : Nat) (close : Int) (cls : List Cl) (gd : Bool) (en : Int) (C' : Cs), F_qac [.c k] C = some (.v (.tup [dealP (nmL h z) (nmL o z).reverse close cls, .bl gd, .int en]), C') /\ DOk (nmL h z) (nmL o z).reverse close cls (decide (z <= 12)) /\
  gd = goodB (nmL h z) (nmL o z).reverse cls (decide (z <= 12)) /\ cls.length <= 1000 /\ (gd = true -> cls ≠ [] /\ en = close + maxI (cls.map Cl.wi)) /\ Adv k C C' := by
 obtain ⟨n1, C1, e1, p1, p2, a1⟩ := Zbc k 2 8 C hG (by decide)
 obtain ⟨n2, C2, e2, p3, p4, a2⟩ := Zbc k 0 4 C1 a1.gs (by decide)
 obtain ⟨n3, C3, e3, p5, p6, a3⟩ := Zbc k 1 12 C2 a2.gs (by decide)
 obtain ⟨close, C4, e4, p7, a4⟩ := time_adv k C3 a3.gs
 obtain ⟨h, eh, hh1, hh2⟩ := max1 n1 p1
 obtain ⟨z, ez, hz1, hz2⟩ := max1 n3 p5
 obtain ⟨o, rfl⟩ : ∃ o : Nat, n2 = o := ⟨n2.toNat, by lia⟩
 have A := ((a1.trans a2).trans a3).trans a4
 have hkl : k < C4.length := by
  obtain ⟨x, y, q, _⟩ := a4.gs
  rcases Nat.lt_or_ge k C4.length with z | z
  ·exact z
  ·rw [List.getElem?_eq_none z] at q; cases q
 have g5 : GS (C4 ++ [.lst []]) k := by
  obtain ⟨x, y, q, r⟩ := a4.gs
  exact ⟨x, y, by rw [List.getElem?_append_left hkl]; exact q, r⟩
 obtain ⟨n, C6, e6, p8, p9, a6⟩ := Zbc k 1 12 (C4 ++ [.lst []]) g5 (by decide)
 obtain ⟨nn, rfl⟩ : ∃ nn : Nat, n = nn := ⟨n.toNat, by lia⟩
 have hm6 : C6[C4.length]? = some (.lst []) := by rw [a6.oth _ (by lia)]; simp
 have hl6 : C6.length = C4.length + 1 := by rw [a6.len]; simp
 have hh : 1 <= h /\ h <= 9 := ⟨hh1, by lia⟩
 have hz : 1 <= z /\ z <= 13 := ⟨hz1, by lia⟩
 have ho : o <= 5 := by lia
 obtain ⟨cls, good, en, w8, w9, w10, w11, w12, w13, w14, C7, e7, L⟩ := clauses_loop k C4.length h o z close ((decide (2 <= h) && decide (h <= 8)) && (decide (o <= 4) && decide (z <= 12))) C6 nn (by lia) (by lia) hh hz.2 a6.gs hm6 hl6 none none none none none none none none
 have hn : cls.length <= 1000 := by rw [L.n]; lia
 have D := deal_ok (o := o) hh ho hz p7 hn L.xs
 have hgs := good_same h o z (nmL o z).reverse cls hh1 (by rw [List.length_reverse, Za2]) fun x m => let ⟨a, b, c, _⟩ := L.xs x m; ⟨a, b, c⟩
 have en2 := (names_eq o z C7 (by lia) (by lia)).2
 have hC7 : C7[C4.length]? = some (.lst (cls.map Cl.pv)) := L.cm
 have hl7 : C7.length = C4.length + 1 := L.len
 have en1 : ∀ C, F_qai [.v (.int h), .v (.int z)] C = some (.v (.lst (nms h z)), C) := fun C => (names_eq h z C (by lia) (by lia)).1
 have Af : Adv k C (C7.take C.length) := by
  have hl4 : C4.length = C.length := A.len
  refine ⟨by rw [List.length_take, hl7, hl4]; lia, ?_, fun j hj => ?_⟩
  ·obtain ⟨x, y, q, r⟩ := L.gs
   exact ⟨x, y, by rw [List.getElem?_take_of_lt (by lia)]; exact q, r⟩
  ·by_cases q : j < C.length
   ·rw [List.getElem?_take_of_lt q, L.oth j hj (by lia), a6.oth j hj, List.getElem?_append_left (by lia)]
    exact A.oth j hj
   ·rw [List.getElem?_eq_none (by rw [List.length_take]; lia), List.getElem?_eq_none (by lia)]
 refine ⟨h, o, z, close, cls, good && (decide (1 <= cls.length) && decide (cls.length <= 12)), en, C7.take C.length, ?_, D, by rw [L.gd, ← hgs], hn, fun hg => ?_, Af⟩
 ·have hF : F_qac = mDef 1 15 (dealB ge1 ge2 (dbodyG ste)) := rfl
  have G1 := ge1_eq h o z (some (.c k)) [some (.v (.int close)), some (.c C4.length), none, none, none, none, none, none, none, none, none, none] (C4 ++ [.lst []])
  have hC8 : (C7 ++ [PV.lst (nms o z)])[C4.length]? = some (.lst (cls.map Cl.pv)) := by rw [List.getElem?_append_left (by lia)]; exact hC7
  have hC9 : (C7 ++ [PV.lst (nms o z)])[C4.length + 1]? = some (.lst (nms o z)) := by rw [List.getElem?_append_right (by lia), hl7]; simp
  have hs8 : (C7 ++ [PV.lst (nms o z)]).set (C4.length + 1) (.lst (nms o z).reverse) = C7 ++ [PV.lst (nms o z).reverse] := by
   rw [List.set_append_right _ _ (by lia), hl7]; simp
  have hC10 : (C7 ++ [PV.lst (nms o z).reverse])[C4.length]? = some (.lst (cls.map Cl.pv)) := by rw [List.getElem?_append_left (by lia)]; exact hC7
  have hC11 : (C7 ++ [PV.lst (nms o z).reverse])[C4.length + 1]? = some (.lst (nms o z).reverse) := by rw [List.getElem?_append_right (by lia), hl7]; simp
  have G2 := ge2_eq (some (.c k)) (some (.v (.int h))) (some (.v (.int o))) (some (.v (.int z))) (some (.v (.int close))) C4.length good (cls.map Cl.pv) [some (.v (.int en)), w8, w9, w10, w11, w12, w13, w14, some (.c (C4.length + 1))] _ hC10
  rw [List.length_map] at G2
  have htk : (C7 ++ [PV.lst (nms o z).reverse]).take C.length = C7.take C.length := List.take_append_of_le_length (by rw [hl7, A.len]; lia)
  have hr : -1000000 <= (nn : Int) /\ (nn : Int) <= 1000000 := by lia
  simp only [Int.zero_add] at e7
  rw [hF]
  unfold dealP
  rw [← nms_rev, ← nms_eq]
  generalize dbodyG ste = body at e7 ⊢
  generalize ge1 = g1e at G1 ⊢
  generalize ge2 = g2e at G2 ⊢
  generalize nms o z = N at *
  generalize cls.map Cl.pv = P at *
  simp! [e1, e2, e3, e4, eh, ez, mNew, G1, mFor, mRange1, rng1P, e6, hr, e7, en2, hl7, mRev, revC, hC9, hs8, G2, en1, tupH, hC10, hC11, htk]
 ·rw [L.gd] at hg
  simp only [Bool.and_eq_true, decide_eq_true_eq, List.all_eq_true] at hg
  have hc : cls ≠ [] := by rintro rfl; have := hg.2.1; simp at this
  refine ⟨hc, end_same close en cls hc (fun x m => ?_) L.e2 L.e3⟩
  have := hg.1.2 x m
  unfold okT at this
  simp only [Bool.and_eq_true, decide_eq_true_eq] at this
  exact this.2
noncomputable def elC : List Cl := [⟨0, 1, 1, 2, [], false⟩, ⟨1, 0, 3, 9, [], false⟩, ⟨0, 1, 1, 1, [], false⟩]
noncomputable def elP : PV := dealP ["a", "b"] [] 5 elC
theorem el_ok : DOk ["a", "b"] [] 5 elC true where
 h1 := by decide +kernel
 h2 := by decide
 h3 := by
  intro z hz
  rcases List.mem_cons.mp hz with rfl | hz
  ·decide +kernel
  ·rw [List.mem_singleton.mp hz]; decide +kernel
 h4 := by decide +kernel
 h5 := by decide
 o1 := List.nodup_nil
 o2 := by decide
 o3 := fun z hz => (nomatch hz)
 cl := by decide
 n := by decide
 x := by
  intro x hx
  unfold elC at hx
  simp only [List.mem_cons, List.not_mem_nil, or_false] at hx
  rcases hx with rfl | rfl | rfl <;> exact ⟨by decide, by decide, List.nodup_nil, by decide, fun w hw => (nomatch hw)⟩
theorem is_end_eq (a b : Int) (C : Cs) : F_qae [.v (.int a), .v (.int b)] C = some (.v (.bl (decide (a = b))), C) := by
 simp! [F_qae]
section
variable {e f1 f2 f3 : Addr}
noncomputable abbrev lbody (e f1 f2 f3 : Addr) : PSt -> M PF := (mSeq (mNew 3 (mFnF FF_qag (aCons (mVar 0) (aCons (mVar 2) aNil)))) (mSeq (mAsg (mFn F_qac (aCons (mVar 3) aNil)) (hTup (hCons (hName 4) (hCons (hName 5) (hCons (hName 6) hNil))) 3)) (mSeq (mSet 7 (mFn (F_qav e f1 f2 f3) (aCons (mVar 4) aNil))) (mSeq (mIfS (mOrT (mNotT (mTru (mCB (g1 isiH) (aCons (mVar 7) (aCons (mC (.ty "bool")) aNil))))) (mTest (mOp (g2 neP) (mVar 7) (mVar 5)))) (mRet (mC (.bl false))) mSkip) (mIfS (mTru (mVar 5)) (mSeq (mIfS (mOrT (mNotT (mTru (mFn F_qae (aCons (mFn F_qar (aCons (mVar 4) aNil)) (aCons (mVar 6) aNil))))) (mNotT (mTru (mFn F_qae (aCons (mFn F_qar (aCons (mVar 1) aNil)) (aCons (mC (.int 14)) aNil)))))) (mRet (mC (.bl false))) mSkip) (mIfS (mNotT (mTru (mFn F_qae (aCons (mFn F_qar (aCons (mVar 4) aNil)) (aCons (mVar 6) aNil))))) (mRet (mC (.bl false))) mSkip)) mSkip)))))
theorem outer (hf : f2 ≠ f1) (ns : List Int) (v3 v4 v5 v6 v7 : Option SV) (k : Int) (h1 : 0 <= k) (h2 : k <= 1000) (C : Cs) :
  ∃ w3 w4 w5 w6 w7 C', lbody e f1 f2 f3 [some (.v (.lst (ns.map .int))), some (.v elP), some (.v (.int k)), v3, v4, v5, v6, v7] C = some (.nx [some (.v (.lst (ns.map .int))), some (.v elP), some (.v (.int k)), w3, w4, w5, w6, w7], C') := by
 obtain ⟨x, y, el, y0, y1⟩ := left_eq ns k C h1 h2
 have g0 : GS (C ++ [.lst [.int x, .int y]]) C.length := ⟨x, y, by simp, y0, y1⟩
 obtain ⟨h, o, z, close, cls, gd, en, C1, e1, D, hg, hn, he, a1⟩ := deal_adv C.length _ g0
 have ed := Zcb (e := e) (f3 := f3) hf D C1
 rw [← hg] at ed
 have ee := end_of_eq ["a", "b"] [] 5 elC C1 (by decide) (by decide)
 have e14 : (5 : Int) + maxI (elC.map Cl.wi) = 14 := by decide
 rw [e14] at ee
 have ee : F_qar [.v elP] C1 = some (.v (.int 14), C1) := ee
 have i14 := is_end_eq 14 14 C1
 rw [decide_eq_true rfl] at i14
 refine ⟨some (.c C.length), some (.v (dealP (nmL h z) (nmL o z).reverse close cls)), some (.v (.bl gd)), some (.v (.int en)), some (.v (.bl gd)), C1, ?_⟩
 cases gd with
 | false =>
  generalize dealP (nmL h z) (nmL o z).reverse close cls = P at *
  generalize elP = E at *
  simp! [mNew, el, e1, mAsg, hTup, hCons, hName, hNil, ed]
 | true =>
  obtain ⟨hc, rfl⟩ := he rfl
  have e2 := end_of_eq (nmL h z) (nmL o z).reverse close cls C1 hc hn
  have i2 := is_end_eq (close + maxI (cls.map Cl.wi)) (close + maxI (cls.map Cl.wi)) C1
  rw [decide_eq_true rfl] at i2
  generalize close + maxI (cls.map Cl.wi) = n at *
  generalize dealP (nmL h z) (nmL o z).reverse close cls = P at *
  generalize elP = E at *
  simp! [mNew, el, e1, mAsg, hTup, hCons, hName, hNil, ed, e2, i2, ee, i14]
theorem law_pure (hf : f2 ≠ f1) (ns : List Int) (hn : ns.length <= 63) : F_law e f1 f2 f3 [.v (.lst (ns.map .int))] [] = some (.v (.bl true), []) := by
 obtain ⟨t, ht, ht2⟩ : ∃ t : Nat, (maxH [.int 6, .int (if (40 : Int) > ns.length then (ns.length : Int) else 40)] = some (.int t)) /\ t <= 63 := by
  by_cases q : (40 : Int) > ns.length
  ·rw [if_pos q]
   by_cases q2 : (ns.length : Int) > 6
   ·exact ⟨ns.length, by unfold maxH; simp [q2], hn⟩
   ·exact ⟨6, by unfold maxH; simp; lia, by lia⟩
  ·rw [if_neg q]; exact ⟨40, by unfold maxH; simp, by lia⟩
 obtain ⟨ρ', C', e2, v2, v3, v4, v5, v6, v7, rfl⟩ := loop_inv (g := hName 2) (f := lbody e f1 f2 f3) (fun ρ _ => ∃ v2 v3 v4 v5 v6 v7, ρ = [some (.v (.lst (ns.map .int))), some (.v elP), v2, v3, v4, v5, v6, v7]) ((List.range t).map fun (j : Nat) => .int (j : Int)) (fun x hx ρ C h => by
  obtain ⟨v2, v3, v4, v5, v6, v7, rfl⟩ := h
  obtain ⟨j, hj, rfl⟩ := List.mem_map.mp hx
  have hj' := List.mem_range.mp hj
  obtain ⟨w3, w4, w5, w6, w7, C', eo⟩ := outer (e := e) (f3 := f3) hf ns v3 v4 v5 v6 v7 (j : Int) (by lia) (by lia) C
  exact ⟨_, _, C', rfl, eo, _, _, _, _, _, _, rfl⟩) [some (.v (.lst (ns.map .int))), some (.v elP), none, none, none, none, none, none] [] ⟨_, _, _, _, _, _, rfl⟩
 have hF : F_law e f1 f2 f3 = mDef 1 7 (mSeq (mSet 1 (mC elP)) (mSeq (mFor (mRange1 (aCons (mCB (g1 maxH) (aCons (mC (.int 6)) (aCons (mCB (g1 minH) (aCons (mC (.int 40)) (aCons (mCB (g1 lenH) (aCons (mVar 0) aNil)) aNil))) aNil))) aNil)) (hName 2) (lbody e f1 f2 f3)) (mRet (mOp (g2 isBP) (mFn (F_qav e f1 f2 f3) (aCons (mVar 1) aNil)) (mC (.bl true)))))) := by
  rfl
 have ed := Zcb (e := e) (f3 := f3) hf el_ok C'
 have gt : goodB ["a", "b"] [] elC true = true := by decide
 rw [gt] at ed
 have ed : F_qav e f1 f2 f3 [.v elP] C' = some (.v (.bl true), C') := ed
 have hr : -1000000 <= (t : Int) /\ (t : Int) <= 1000000 := by lia
 rw [hF]
 generalize lbody e f1 f2 f3 = lb at e2 ⊢
 generalize elP = E at *
 simp! [mFor, mRange1, minH, ht, rng1P, hr, e2, ed, isBP]
end
noncomputable def qv : Program := W.view PySem.Challenge.pw_holdword_k04_bounds_and_ends [1, 2, 3, 4, 5, 6, 7, 8, 9, 10, 11, 12, 13, 14, 15, 16, 17, 19, 20, 21, 22, 23, 24, 26, 27, 28, 29, 30, 31, 32, 33, 34]
noncomputable def fnames : List Str := List.map Str.ofString ["is_number", "is_number_below", "is_row_of", "is_word", "are_words", "events_of", "is_joined", "is_said", "is_did", "is_event", "is_leave", "is_clause", "has_good_events", "is_deal", "end_of", "_law_cell_at", "_law_left", "_law_pick", "_law_size", "_law_names", "_law_time", "_law_deal", "_law_is_end", "law"]
noncomputable def sts : List (Str × Stmt) := fnames.zip (List.map top [9, 10, 11, 12, 13, 14, 15, 16, 17, 19, 20, 21, 22, 23, 24, 26, 27, 28, 29, 30, 31, 32, 33, 34])
theorem sts_ok : (recsOf qv).map Hd.four = sts.map Hd.fourS := by kernel_rfl
noncomputable def tnames : List Str := ["EVENTS", "is_joined", "is_said", "is_did"]
noncomputable def tvals : List (Option (Option Value)) := [some (some (.ref 74)), some (some (.ref 59)), some (some (.ref 66)), some (some (.ref 73))]
noncomputable def es_EVENTS (P : Params) : List DictEntry := [⟨PyData.keyHash P "joined", .str "joined" 281, .ref 59⟩, ⟨PyData.keyHash P "said", .str "said" 282, .ref 66⟩, ⟨PyData.keyHash P "did", .str "did" 283, .ref 73⟩]
noncomputable def tobjs (P : Params) : List Obj := [⟨.type "dict", none, .dict (es_EVENTS P).toArray 3, #[]⟩]
noncomputable def hk : W.Hook := Hd.tabHook tnames tvals [74] tobjs
theorem td_EVENTS {w : World} {h : Heap} {mg : Str -> Option Value} {as : List Addr} (G : h.Ns mainGlobals mg) (Y : hk.says w h) (m : 74 ∈ as) {f_qay : Addr} {f_qbd : Addr} {f_qaw : Addr} (e0 : mg "is_joined" = some (.ref f_qay)) (e1 : mg "is_said" = some (.ref f_qbd)) (e2 : mg "is_did" = some (.ref f_qaw)) : mg "EVENTS" = some (.ref 74) /\ TopD (Hd.kf h as) w 74 (ZaM f_qay f_qbd f_qaw) := by
 refine ⟨Hd.tab_mg G Y.1 0 rfl rfl, ⟨(es_EVENTS w.params).toArray, 3, Hd.kf_at (Hd.tab_at Y.2 0 rfl rfl) m, ?_, ?_⟩, by decide⟩
 ·repeat (first | exact True.intro | refine And.intro ⟨_, _, rfl, rfl⟩ ?_)
 ·have q0 := (Hd.tab_mg G Y.1 1 rfl rfl).symm.trans e0
  cases q0
  have q1 := (Hd.tab_mg G Y.1 2 rfl rfl).symm.trans e1
  cases q1
  have q2 := (Hd.tab_mg G Y.1 3 rfl rfl).symm.trans e2
  cases q2
  repeat (first | exact Paired.nil | refine Paired.cons ⟨rfl, rfl⟩ ?_)
theorem hl : W.LeftO PySem.Challenge.pw_holdword_k04_bounds_and_ends qv ["EVENTS"] (fun s => W.xlAt qv [] s && W.recOk [] s) hk.obs hk.val 1856 :=
 W.LeftO.of_split "special-get-raises" (fun w => by kernel_rfl)
theorem ln0 {P : List Value -> Prop} (h : P []) : ∀ us : List Value, us.length = 0 -> P us := by
 intro us hl
 cases us with
 | nil => exact h
 | cons a r => simp at hl
theorem ln1 {P : List Value -> Prop} (h : ∀ a, P [a]) : ∀ us : List Value, us.length = 1 -> P us := by
 intro us hl
 cases us with
 | nil => simp at hl
 | cons a r => exact ln0 (P := fun r => P (a :: r)) (h a) r (by simpa using hl)
theorem ln2 {P : List Value -> Prop} (h : ∀ a b, P [a, b]) : ∀ us : List Value, us.length = 2 -> P us := by
 intro us hl
 cases us with
 | nil => simp at hl
 | cons a r => exact ln1 (P := fun r => P (a :: r)) (h a) r (by simpa using hl)
theorem ln3 {P : List Value -> Prop} (h : ∀ a b c, P [a, b, c]) : ∀ us : List Value, us.length = 3 -> P us := by
 intro us hl
 cases us with
 | nil => simp at hl
 | cons a r => exact ln2 (P := fun r => P (a :: r)) (h a) r (by simpa using hl)
theorem all_mk {P : Program} {w : World} {K : W.Frag} {mg : Str -> Option Value} {fa : Addr} (hfa : mg "law" = some (.ref fa)) (T : Txt mg)
  (e_is_number : Hd.FnAt K mg "is_number" s_qba)
  (e_is_number_below : Hd.FnAt K mg "is_number_below" s_qbb)
  (e_is_row_of : Hd.FnAt K mg "is_row_of" s_qbc)
  (e_is_word : Hd.FnAt K mg "is_word" s_qbe)
  (e_are_words : Hd.FnAt K mg "are_words" s_qaq)
  (e_events_of : Hd.FnAt K mg "events_of" s_qas)
  (e_is_joined : Hd.FnAt K mg "is_joined" s_qay)
  (e_is_said : Hd.FnAt K mg "is_said" s_qbd)
  (e_is_did : Hd.FnAt K mg "is_did" s_qaw)
  (e_is_event : Hd.FnAt K mg "is_event" s_qax)
  (e_is_leave : Hd.FnAt K mg "is_leave" s_qaz)
  (e_is_clause : Hd.FnAt K mg "is_clause" s_qau)
  (e_has_good_events : Hd.FnAt K mg "has_good_events" s_qat)
  (e_is_deal : Hd.FnAt K mg "is_deal" s_qav)
  (e_end_of : Hd.FnAt K mg "end_of" s_qar)
  (e__law_cell_at : Hd.FnAt K mg "_law_cell_at" s_qaa)
  (e__law_left : Hd.FnAt K mg "_law_left" s_qag)
  (e__law_pick : Hd.FnAt K mg "_law_pick" s_qak)
  (e__law_size : Hd.FnAt K mg "_law_size" s_qam)
  (e__law_names : Hd.FnAt K mg "_law_names" s_qai)
  (e__law_time : Hd.FnAt K mg "_law_time" s_qao)
  (e__law_deal : Hd.FnAt K mg "_law_deal" s_qac)
  (e__law_is_end : Hd.FnAt K mg "_law_is_end" s_qae)
  (e_law : Hd.FnAt K mg "law" s_law)
  {d_EVENTS : Addr} (tb_EVENTS : ∀ {f_qay f_qbd f_qaw : Addr}, mg "is_joined" = some (.ref f_qay) -> mg "is_said" = some (.ref f_qbd) -> mg "is_did" = some (.ref f_qaw) -> mg "EVENTS" = some (.ref d_EVENTS) /\ TopD K w d_EVENTS (ZaM f_qay f_qbd f_qaw))
  : ∃ fd : FuncData, (∀ (s : Shared) (v : Value), BindsTo s fd ⟨[v], []⟩ [("_law_script", v)]) /\ ∀ base : Heap, FnOk P w K mg base CX0 7 fa fd ["_law_script"] (Hd.spLaw K) := by
 obtain ⟨f_qba, fd_qba, m_qba, N_qba⟩ := e_is_number
 have bd_qba := N_qba.binds (ps := ["thing", "least"]) fun _ _ _ _ _ _ => ln2 fun _ _ => rfl
 obtain ⟨f_qbb, fd_qbb, m_qbb, N_qbb⟩ := e_is_number_below
 have bd_qbb := N_qbb.binds (ps := ["thing", "bound"]) fun _ _ _ _ _ _ => ln2 fun _ _ => rfl
 obtain ⟨f_qbc, fd_qbc, m_qbc, N_qbc⟩ := e_is_row_of
 have bd_qbc := N_qbc.binds (ps := ["thing", "least", "most"]) fun _ _ _ _ _ _ => ln3 fun _ _ _ => rfl
 obtain ⟨f_qbe, fd_qbe, m_qbe, N_qbe⟩ := e_is_word
 have bd_qbe := N_qbe.binds (ps := ["thing"]) fun _ _ _ _ _ _ => ln1 fun _ => rfl
 obtain ⟨f_qaq, fd_qaq, m_qaq, N_qaq⟩ := e_are_words
 have bd_qaq := N_qaq.binds (ps := ["thing", "least", "most"]) fun _ _ _ _ _ _ => ln3 fun _ _ _ => rfl
 obtain ⟨f_qas, fd_qas, m_qas, N_qas⟩ := e_events_of
 have bd_qas := N_qas.binds (ps := ["clause"]) fun _ _ _ _ _ _ => ln1 fun _ => rfl
 obtain ⟨f_qay, fd_qay, m_qay, N_qay⟩ := e_is_joined
 have bd_qay := N_qay.binds (ps := ["event", "own", "deal"]) fun _ _ _ _ _ _ => ln3 fun _ _ _ => rfl
 obtain ⟨f_qbd, fd_qbd, m_qbd, N_qbd⟩ := e_is_said
 have bd_qbd := N_qbd.binds (ps := ["event", "own", "deal"]) fun _ _ _ _ _ _ => ln3 fun _ _ _ => rfl
 obtain ⟨f_qaw, fd_qaw, m_qaw, N_qaw⟩ := e_is_did
 have bd_qaw := N_qaw.binds (ps := ["event", "own", "deal"]) fun _ _ _ _ _ _ => ln3 fun _ _ _ => rfl
 obtain ⟨f_qax, fd_qax, m_qax, N_qax⟩ := e_is_event
 have bd_qax := N_qax.binds (ps := ["thing", "own", "deal"]) fun _ _ _ _ _ _ => ln3 fun _ _ _ => rfl
 obtain ⟨f_qaz, fd_qaz, m_qaz, N_qaz⟩ := e_is_leave
 have bd_qaz := N_qaz.binds (ps := ["thing"]) fun _ _ _ _ _ _ => ln1 fun _ => rfl
 obtain ⟨f_qau, fd_qau, m_qau, N_qau⟩ := e_is_clause
 have bd_qau := N_qau.binds (ps := ["thing", "houses"]) fun _ _ _ _ _ _ => ln2 fun _ _ => rfl
 obtain ⟨f_qat, fd_qat, m_qat, N_qat⟩ := e_has_good_events
 have bd_qat := N_qat.binds (ps := ["own", "deal"]) fun _ _ _ _ _ _ => ln2 fun _ _ => rfl
 obtain ⟨f_qav, fd_qav, m_qav, N_qav⟩ := e_is_deal
 have bd_qav := N_qav.binds (ps := ["thing"]) fun _ _ _ _ _ _ => ln1 fun _ => rfl
 obtain ⟨f_qar, fd_qar, m_qar, N_qar⟩ := e_end_of
 have bd_qar := N_qar.binds (ps := ["deal"]) fun _ _ _ _ _ _ => ln1 fun _ => rfl
 obtain ⟨f_qaa, fd_qaa, m_qaa, N_qaa⟩ := e__law_cell_at
 have bd_qaa := N_qaa.binds (ps := ["_law_script", "_law_k"]) fun _ _ _ _ _ _ => ln2 fun _ _ => rfl
 obtain ⟨f_qag, fd_qag, m_qag, N_qag⟩ := e__law_left
 have bd_qag := N_qag.binds (ps := ["_law_script", "_law_k"]) fun _ _ _ _ _ _ => ln2 fun _ _ => rfl
 obtain ⟨f_qak, fd_qak, m_qak, N_qak⟩ := e__law_pick
 have bd_qak := N_qak.binds (ps := ["_law_left_here", "_law_many"]) fun _ _ _ _ _ _ => ln2 fun _ _ => rfl
 obtain ⟨f_qam, fd_qam, m_qam, N_qam⟩ := e__law_size
 have bd_qam := N_qam.binds (ps := ["_law_left_here", "_law_least", "_law_most"]) fun _ _ _ _ _ _ => ln3 fun _ _ _ => rfl
 obtain ⟨f_qai, fd_qai, m_qai, N_qai⟩ := e__law_names
 have bd_qai := N_qai.binds (ps := ["_law_many", "_law_size_here"]) fun _ _ _ _ _ _ => ln2 fun _ _ => rfl
 obtain ⟨f_qao, fd_qao, m_qao, N_qao⟩ := e__law_time
 have bd_qao := N_qao.binds (ps := ["_law_left_here"]) fun _ _ _ _ _ _ => ln1 fun _ => rfl
 obtain ⟨f_qac, fd_qac, m_qac, N_qac⟩ := e__law_deal
 have bd_qac := N_qac.binds (ps := ["_law_left_here"]) fun _ _ _ _ _ _ => ln1 fun _ => rfl
 obtain ⟨f_qae, fd_qae, m_qae, N_qae⟩ := e__law_is_end
 have bd_qae := N_qae.binds (ps := ["_law_found", "_law_due"]) fun _ _ _ _ _ _ => ln2 fun _ _ => rfl
 obtain ⟨f_law, fd_law, m_law, N_law⟩ := e_law
 obtain ⟨m_EVENTS, TD_EVENTS⟩ := tb_EVENTS m_qay m_qbd m_qaw
 have e := hfa.symm.trans m_law; cases e
 have hb : ∀ (s : Shared) (v : Value), BindsTo s fd_law ⟨[v], []⟩ [("_law_script", v)] := by
  obtain ⟨oc, od, kV, doc, pm, an, cdv, ct, osl, rfl, lk, hcd⟩ := N_law.ex
  exact fun s v => .of_eq rfl
 refine ⟨fd_law, hb, fun base => ?_⟩
 have E_qba := ok_qba (P := P) (w := w) (base := base) N_qba T 
 have E_qbb := ok_qbb (P := P) (w := w) (base := base) N_qbb T E_qba m_qba N_qba.kp bd_qba
 have E_qbc := ok_qbc (P := P) (w := w) (base := base) N_qbc T 
 have E_qbe := ok_qbe (P := P) (w := w) (base := base) N_qbe T 
 have E_qaq := ok_qaq (P := P) (w := w) (base := base) N_qaq T E_qbc m_qbc N_qbc.kp bd_qbc E_qbe m_qbe N_qbe.kp bd_qbe
 have E_qas := ok_qas (P := P) (w := w) (base := base) N_qas T 
 have E_qay := ok_qay (P := P) (w := w) (base := base) N_qay T E_qbb m_qbb N_qbb.kp bd_qbb
 have E_qbd := ok_qbd (P := P) (w := w) (base := base) N_qbd T E_qbb m_qbb N_qbb.kp bd_qbb E_qbe m_qbe N_qbe.kp bd_qbe
 have E_qaw := ok_qaw (P := P) (w := w) (base := base) N_qaw T E_qbb m_qbb N_qbb.kp bd_qbb
 have E_qax := ok_qax (P := P) (w := w) (base := base) N_qax T m_EVENTS TD_EVENTS E_qay m_qay N_qay.kp bd_qay E_qbd m_qbd N_qbd.kp bd_qbd E_qaw m_qaw N_qaw.kp bd_qaw
 have E_qaz := ok_qaz (P := P) (w := w) (base := base) N_qaz T E_qbc m_qbc N_qbc.kp bd_qbc E_qba m_qba N_qba.kp bd_qba
 have E_qau := ok_qau (P := P) (w := w) (base := base) N_qau T E_qbc m_qbc N_qbc.kp bd_qbc E_qbb m_qbb N_qbb.kp bd_qbb E_qba m_qba N_qba.kp bd_qba E_qaz m_qaz N_qaz.kp bd_qaz
 have E_qat := ok_qat (P := P) (w := w) (base := base) N_qat T E_qas m_qas N_qas.kp bd_qas E_qax m_qax N_qax.kp bd_qax
 have E_qav := ok_qav (P := P) (w := w) (base := base) N_qav T E_qbc m_qbc N_qbc.kp bd_qbc E_qaq m_qaq N_qaq.kp bd_qaq E_qba m_qba N_qba.kp bd_qba E_qau m_qau N_qau.kp bd_qau E_qat m_qat N_qat.kp bd_qat
 have E_qar := ok_qar (P := P) (w := w) (base := base) N_qar T 
 have E_qaa := ok_qaa (P := P) (w := w) (base := base) N_qaa T 
 have E_qag := ok_qag (P := P) (w := w) (base := base) N_qag T E_qaa m_qaa N_qaa.kp bd_qaa
 have EF_qag := okF_qag (P := P) (w := w) (base := base) N_qag T E_qaa m_qaa N_qaa.kp bd_qaa
 have E_qak := ok_qak (P := P) (w := w) (base := base) N_qak T 
 have E_qam := ok_qam (P := P) (w := w) (base := base) N_qam T E_qak m_qak N_qak.kp bd_qak
 have E_qai := ok_qai (P := P) (w := w) (base := base) N_qai T 
 have EF_qai := okF_qai (P := P) (w := w) (base := base) N_qai T 
 have E_qao := ok_qao (P := P) (w := w) (base := base) N_qao T E_qak m_qak N_qak.kp bd_qak
 have E_qac := ok_qac (P := P) (w := w) (base := base) N_qac T E_qam m_qam N_qam.kp bd_qam E_qao m_qao N_qao.kp bd_qao E_qak m_qak N_qak.kp bd_qak E_qai m_qai N_qai.kp bd_qai EF_qai
 have E_qae := ok_qae (P := P) (w := w) (base := base) N_qae T 
 have E_law := ok_law (P := P) (w := w) (base := base) N_law T EF_qag m_qag N_qag.kp bd_qag E_qac m_qac N_qac.kp bd_qac E_qav m_qav N_qav.kp bd_qav E_qar m_qar N_qar.kp bd_qar E_qae m_qae N_qae.kp bd_qae
 exact E_law.imp (Hd.spLaw_lift fun ns hl => law_pure (fun_ne N_qbd N_qay (by decide)) ns hl)
noncomputable def bl : List Str := ["all", "bool", "int", "isinstance", "len", "list", "max", "min", "range", "set", "str", "tuple"]
theorem hbl : bl.all (fun x => !Hd.isHere qv (W.looseW qv ["EVENTS"]) x) = true := by kernel_rfl
theorem said : PySem.Challenge.rw_holdword_k04_bounds_and_ends.wellSaid = true := by kernel_rfl
end K04
open PySem PySem.W PyProof.Rows
set_option maxRecDepth 100000 in
set_option maxHeartbeats 0 in
theorem PySem.Challenge.cw_holdword_k04_bounds_and_ends_holds : PySem.Challenge.rw_holdword_k04_bounds_and_ends.Holds := by
 refine holds_law K04.said fun said => ?_
 refine holds_open (q := K04.qv) (loose := ["EVENTS"]) (Xt := fun s => xlAt K04.qv [] s && recOk [] s) (XP := XL K04.qv []) (YP := K04.hk.says) K04.hl (Hook.of K04.hk) (Hook.keeps K04.hk) (fun s e => xl_of s (Bool.and_eq_true_iff.mp e).1) XL.keeps (d := ⟨"law", L2.defArgs K04.s_law, L2.defBody K04.s_law, L2.defScope K04.s_law, Hd.defPos K04.s_law⟩) (kwd := []) (by kernel_rfl) (by kernel_rfl) (by kernel_rfl) (fun s e => recFacts_of (Bool.and_eq_true_iff.mp e).2) (by rfl) said (by kernel_rfl) ⟨rfl, rfl, rfl, rfl, rfl, by decide +kernel⟩ ⟨[.list []], by decide +kernel, by decide +kernel⟩ ?_
 refine Hd.walk (k := 7) rfl rfl ⟨rfl, by decide, by decide⟩ [74] fun w s₀ mg mb h as G Y h0 A fa hmg => ?_
 refine K04.all_mk hmg ⟨Hd.str_of (G.T.const "JUDGE" (.str "bell") (by kernel_rfl)), Hd.int_of (G.T.const "LONGEST_WORD" (.int 12) (by kernel_rfl)), Hd.int_of (G.T.const "MOST_CLAUSES" (.int 12) (by kernel_rfl)), Hd.int_of (G.T.const "MOST_CONDS" (.int 8) (by kernel_rfl)), Hd.int_of (G.T.const "MOST_HOUSES" (.int 8) (by kernel_rfl)), Hd.int_of (G.T.const "MOST_OTHERS" (.int 4) (by kernel_rfl)), Hd.int_of (G.T.const "MOST_PARTS" (.int 9) (by kernel_rfl)), Hd.str_of (G.T.const "SMALL_LETTERS" (.str "abcdefghijklmnopqrstuvwxyz") (by kernel_rfl)), Hd.nones G.T K04.hbl 0 rfl, Hd.nones G.T K04.hbl 1 rfl, Hd.nones G.T K04.hbl 2 rfl, Hd.nones G.T K04.hbl 3 rfl, Hd.nones G.T K04.hbl 4 rfl, Hd.nones G.T K04.hbl 5 rfl, Hd.nones G.T K04.hbl 6 rfl, Hd.nones G.T K04.hbl 7 rfl, Hd.nones G.T K04.hbl 8 rfl, Hd.nones G.T K04.hbl 9 rfl, Hd.nones G.T K04.hbl 10 rfl, Hd.nones G.T K04.hbl 11 rfl⟩ (Hd.fn_at A K04.sts_ok 0 rfl) (Hd.fn_at A K04.sts_ok 1 rfl) (Hd.fn_at A K04.sts_ok 2 rfl) (Hd.fn_at A K04.sts_ok 3 rfl) (Hd.fn_at A K04.sts_ok 4 rfl) (Hd.fn_at A K04.sts_ok 5 rfl) (Hd.fn_at A K04.sts_ok 6 rfl) (Hd.fn_at A K04.sts_ok 7 rfl) (Hd.fn_at A K04.sts_ok 8 rfl) (Hd.fn_at A K04.sts_ok 9 rfl) (Hd.fn_at A K04.sts_ok 10 rfl) (Hd.fn_at A K04.sts_ok 11 rfl) (Hd.fn_at A K04.sts_ok 12 rfl) (Hd.fn_at A K04.sts_ok 13 rfl) (Hd.fn_at A K04.sts_ok 14 rfl) (Hd.fn_at A K04.sts_ok 15 rfl) (Hd.fn_at A K04.sts_ok 16 rfl) (Hd.fn_at A K04.sts_ok 17 rfl) (Hd.fn_at A K04.sts_ok 18 rfl) (Hd.fn_at A K04.sts_ok 19 rfl) (Hd.fn_at A K04.sts_ok 20 rfl) (Hd.fn_at A K04.sts_ok 21 rfl) (Hd.fn_at A K04.sts_ok 22 rfl) (Hd.fn_at A K04.sts_ok 23 rfl) (K04.td_EVENTS G.T.g Y (h0 _ (by simp)))