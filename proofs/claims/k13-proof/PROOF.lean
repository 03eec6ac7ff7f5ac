import PyProof.Rows.All
import Wide.All
import OpenK.AllK
import Wide.FinOn
import Lean
import PyProof.EqAt
import PyProof.EqKinds
import PyProof.TupleCall
import PyProof.NeKinds
import KE.KSortTup
import KE.KDictOf
import PyProof.DictFindH
import PyProof.AttrMissSeq
import KE.KDictList
import PySem.Challenge.RW_holdword_k13_letters
set_option backward.eqns.nonrecursive false
set_option genSizeOf false
set_option compiler.extract_closed false
set_option bootstrap.genMatcherCode false
set_option Elab.async false
set_option linter.all false
set_option maxRecDepth 100000
namespace L2
open PySem PySem.Spec PyProof.Rows
noncomputable abbrev Key := Sum Int Str
noncomputable def keyIs : Key -> Value -> Bool
 | .inl k, v => Value.isInt k v
 | .inr x, v => Value.isStrOf x v
noncomputable def keyH (w : World) : Key -> Int
 | .inl k => hashInt k
 | .inr x => hashStr w x
theorem ZaT : ∀ {k : Key} {v : Value}, keyIs k v = true -> (∃ i t, k = Sum.inl i /\ v = Value.int i t) \/ (∃ x t, k = Sum.inr x /\ v = Value.str x t)
 | .inl i, v, h => by
  obtain ⟨t, e⟩ := Value.isInt_shape (k := i) (v := v) h
  exact .inl ⟨i, t, rfl, e⟩
 | .inr x, v, h => by
  obtain ⟨t, e⟩ := Value.isStrOf_shape (x := x) (v := v) h
  exact .inr ⟨x, t, rfl, e⟩
theorem keyIs_int (i : Int) (t : Tok) : keyIs (.inl i) (.int i t) = true := by simp [keyIs, Value.isInt]
theorem keyIs_str (x : Str) (t : Tok) : keyIs (.inr x) (.str x t) = true := by simp [keyIs, Value.isStrOf]
theorem key_ll (a b : Int) : decide ((Sum.inl a : Key) = Sum.inl b) = (a == b) := by
 by_cases e : a = b
 ·subst e; simp
 ·have h : ¬ (Sum.inl a : Key) = Sum.inl b := fun q => e (Sum.inl.inj q)
  rw [decide_eq_false h]
  exact (beq_eq_false_iff_ne.mpr e).symm
theorem key_rr (a b : Str) : decide ((Sum.inr a : Key) = Sum.inr b) = decide (a = b) := by
 by_cases e : a = b
 ·subst e; simp
 ·have h : ¬ (Sum.inr a : Key) = Sum.inr b := fun q => e (Sum.inr.inj q)
  rw [decide_eq_false h, decide_eq_false e]
theorem key_lr (a : Int) (b : Str) : decide ((Sum.inl a : Key) = Sum.inr b) = false := decide_eq_false (fun q => nomatch q)
theorem key_rl (a : Str) (b : Int) : decide ((Sum.inr a : Key) = Sum.inl b) = false := decide_eq_false (fun q => nomatch q)
noncomputable def mixKind (prog : Program) (w : World) : PySem.KeyKind prog w Key where
 is := keyIs
 hash := keyH w
 inj := fun v a b ha hb => by
  rcases ZaT ha with ⟨i, t, rfl, rfl⟩ | ⟨x, t, rfl, rfl⟩
  ·rcases ZaT hb with ⟨j, u, rfl, e⟩ | ⟨y, u, rfl, e⟩
   ·injection e with e1 _; rw [e1]
   ·exact nomatch e
  ·rcases ZaT hb with ⟨j, u, rfl, e⟩ | ⟨y, u, rfl, e⟩
   ·exact nomatch e
   ·injection e with e1 _; rw [e1]
 byValue := fun k v h => by
  rcases ZaT h with ⟨i, t, rfl, rfl⟩ | ⟨x, t, rfl, rfl⟩ <;> rfl
 pyHash := fun hv h => by
  rcases ZaT hv with ⟨i, t, rfl, rfl⟩ | ⟨x, t, rfl, rfl⟩
  ·exact wpAny_pyHash_int h
  ·exact wpAny_pyHash_str h
 eqBool := fun hu hv h => by
  rcases ZaT hu with ⟨i, t, rfl, rfl⟩ | ⟨x, t, rfl, rfl⟩
  ·rcases ZaT hv with ⟨j, u, rfl, rfl⟩ | ⟨y, u, rfl, rfl⟩
   ·rw [key_ll] at h; exact wpAny_eqBool_int h
   ·rw [key_lr] at h; exact SeqAt.EqAt.int_str i t y u _ _ _ _ h
  ·rcases ZaT hv with ⟨j, u, rfl, rfl⟩ | ⟨y, u, rfl, rfl⟩
   ·rw [key_rl] at h; exact SeqAt.EqAt.str_int x t j u _ _ _ _ h
   ·rw [key_rr] at h; exact wpAny_eqBool_str h
 «strs» := fun k x t v h => by
  rcases ZaT h with ⟨i, u, rfl, e⟩ | ⟨y, u, rfl, e⟩
  ·exact nomatch e
  ·injection e with e1 _
   subst e1
   cases v <;> rfl
theorem mixKind_int (prog : Program) (w : World) (i : Int) (t : Tok) : (mixKind prog w).is (.inl i) (.int i t) = true := keyIs_int i t
theorem mixKind_str (prog : Program) (w : World) (x : Str) (t : Tok) : (mixKind prog w).is (.inr x) (.str x t) = true := keyIs_str x t
inductive V where
 | non | bl (b : Bool) | int (i : Int) | str (x : Str) | byt (b : Array UInt8) | flt (b : UInt64) | ref (a : Addr) | ty (n : String)
 deriving DecidableEq
noncomputable def RelV : V -> Value -> Prop
 | .non, u => u = Value.none
 | .bl b, u => u = Value.bool b
 | .int i, u => ∃ t, u = Value.int i t
 | .str x, u => ∃ t, u = Value.str x t
 | .byt b, u => ∃ t, u = Value.bytes b t
 | .flt b, u => ∃ t, u = Value.float b t
 | .ref a, u => u = Value.ref a
 | .ty n, u => u = Value.type n
noncomputable abbrev Vals : List V -> List Value -> Prop := Paired RelV
theorem Vals.length {xs : List V} {us : List Value} (r : Vals xs us) : xs.length = us.length := Paired.length r
theorem Vals.get : ∀ {xs : List V} {us : List Value} {i : Nat} {x : V}, Vals xs us -> xs[i]? = some x -> ∃ u, us[i]? = some u /\ RelV x u
 | _, _, _, _, .nil, e => by simp at e
 | _, _, 0, _, .cons r _, e => by simp at e; subst e; exact ⟨_, rfl, r⟩
 | _, _, i + 1, x, .cons _ t, e => by
  obtain ⟨u, h1, h2⟩ := Vals.get (i := i) (x := x) t (by simpa using e)
  exact ⟨u, by simpa using h1, h2⟩
theorem Vals.set {x : V} {u : Value} (r : RelV x u) : ∀ {xs : List V} {us : List Value} (i : Nat), Vals xs us -> Vals (xs.set i x) (us.set i u)
 | _, _, _, .nil => .nil
 | _, _, 0, .cons _ t => .cons r t
 | _, _, i + 1, .cons q t => .cons q (Vals.set r i t)
theorem Vals.append : ∀ {xs ys : List V} {us ws : List Value}, Vals xs us -> Vals ys ws -> Vals (xs ++ ys) (us ++ ws)
 | _, _, _, _, .nil, s => s
 | _, _, _, _, .cons r t, s => .cons r (Vals.append t s)
theorem Vals.take : ∀ {xs : List V} {us : List Value} (n : Nat), Vals xs us -> Vals (xs.take n) (us.take n)
 | _, _, 0, _ => .nil
 | _, _, _ + 1, .nil => .nil
 | _, _, n + 1, .cons r t => .cons r (Vals.take n t)
theorem Vals.drop : ∀ {xs : List V} {us : List Value} (n : Nat), Vals xs us -> Vals (xs.drop n) (us.drop n)
 | _, _, 0, r => r
 | _, _, _ + 1, .nil => .nil
 | _, _, n + 1, .cons _ t => Vals.drop n t
noncomputable def RelO : Option V -> Option Value -> Prop
 | some v, some u => RelV v u
 | none, none => True
 | _, _ => False
noncomputable def KV {κ : Type} : List (κ × V) -> List (κ × Value) -> Prop := Paired fun (p : κ × V) (q : κ × Value) => p.1 = q.1 /\ RelV p.2 q.2
noncomputable def kV : Key -> V
 | .inl i => .int i
 | .inr x => .str x
inductive HO where
  | lst (xs : List V)
  | tup (xs : List V)
  | dK (kvs : List (Key × V)) | dT (kvs : List (List Key × V))
  | set (S : Int -> Bool) (n : Nat)
  | ins (C dx : Addr) (fs : List (Str × V))
  | own (x : Addr)
  | xd (fs : List (Str × V))
  | met (f x : Addr)
  | rng (lo hi : Int)
  | frz (o : Obj) (u : HO)
  | tbl (ps : Array Value)
  | ext (φ : Heap -> Prop)
noncomputable abbrev Hp := Addr -> Option HO
noncomputable def upd (H : Hp) (a : Addr) (o : HO) : Hp := fun b => if b = a then some o else H b
theorem ZaW {H : Hp} {a : Addr} {o : HO} : upd H a o a = some o := by unfold upd; rw [if_pos rfl]
theorem Zan {H : Hp} {a b : Addr} {o : HO} (h : b ≠ a) : upd H a o b = H b := by unfold upd; rw [if_neg h]
theorem ne_of {H : Hp} {a b : Addr} {o u : HO} (h : H a = some o) (h' : H b = some u) (d : o ≠ u) : a ≠ b := by
 intro e; subst e; rw [h] at h'; exact d (Option.some.inj h')
theorem Zal {H : Hp} {a b : Addr} {o : HO} (h : H a = some o) (h' : H b = none) : a ≠ b := by
 intro e; subst e; rw [h] at h'; cases h'
section
variable (P : Program) (w : World)
noncomputable def ObjOk (H : Hp) (h : Heap) (a : Addr) : HO -> Prop
 | .lst xs => xs.length <= sizeLine /\ ∃ (its : List Value) (n : Nat), Vals xs its /\ h.get? a = some { cls := .type "list", data := .seq its.toArray n }
 | .tup xs => xs.length <= sizeLine /\ ∃ its : List Value, Vals xs its /\ IsTup h a its.toArray
 | .dK kvs => kvs.length <= sizeLine /\ (a == sysModules) = false /\ ∃ vs, KV kvs vs /\ h.DictOf (mixKind P w) a vs
 | .dT kvs => kvs.length <= sizeLine /\ (a == sysModules) = false /\ ∃ xs : List (List Key × Addr × Value),
   Paired (fun (p : List Key × V) (q : List Key × Addr × Value) => p.1 = q.1 /\ H q.2.1 = some (.tup (p.1.map kV)) /\ RelV p.2 q.2.2) kvs xs /\
   ∃ o es ep, h.get? a = some o /\ o.ExactDict /\ o.data = .dict es ep /\ es.toList = xs.map (entryOfKey (tupleKind (mixKind P w))) /\ (xs.map (·.1)).Nodup
 | .set S n => h.SetOf (intKind P w) a S n
 | .ins C dx fs => H dx = some (.own a) /\ fs.length <= 1000 /\ dx ≠ a /\ h.get? a = some (W.instObj C dx) /\
   ∃ mA, h.Ns1 dx mA /\ (∀ f, RelO (fs.lookup f) (mA f)) /\ PySem.Within mA (fs.map (·.1))
 | .own _ => ∃ o, h.get? a = some o
 | .xd fs => ∃ mA, h.Ns1 a mA /\ ∀ f, RelO (fs.lookup f) (mA f)
 | .rng lo hi => ∃ t u v, h.get? a = some { cls := .type "range", data := .fields #[.int lo t, .int hi u, .int 1 v] }
 | .frz o u => h.get? a = some o /\ ObjOk H h a u
 | .tbl ps => h.get? a = some { cls := .none, data := .fields ps }
 | .met f x => h.get? a = some (W.methodObj (.ref f) (.ref x))
 | .ext φ => φ h /\ (∃ o, h.get? a = some o) /\ ∀ h1 h2 : Heap, φ h1 -> (∀ o, h1.get? a = some o -> h2.get? a = some o) -> φ h2
noncomputable def HOk (H : Hp) (h : Heap) : Prop := ∀ a o, H a = some o -> ObjOk P w H h a o
end
section
variable {P : Program} {w : World} {H H' : Hp} {h h' : Heap} {a : Addr} {o : HO}
theorem ObjOk.lt (x : ObjOk P w H h a o) : a < h.objs.size := by
 cases o with
 | lst xs => obtain ⟨_, _, _, _, e⟩ := x; exact Heap.lt_size e
 | tup xs => obtain ⟨_, _, _, p⟩ := x; exact p.lt
 | dK kvs => obtain ⟨_, _, _, _, o, _, _, e, _⟩ := x; exact Heap.lt_size e
 | dT kvs => obtain ⟨_, _, _, _, o, _, _, e, _⟩ := x; exact Heap.lt_size e
 | set S n => obtain ⟨o, _, _, _, e, _⟩ := x; exact Heap.lt_size e
 | ins C dx fs => obtain ⟨_, _, _, e, _⟩ := x; exact Heap.lt_size e
 | own y => obtain ⟨_, e⟩ := x; exact Heap.lt_size e
 | xd fs => obtain ⟨_, ⟨_, _, _, e, _⟩, _⟩ := x; exact Heap.lt_size e
 | rng lo hi => obtain ⟨_, _, _, e⟩ := x; exact Heap.lt_size e
 | frz ob u => obtain ⟨e, _⟩ := x; exact Heap.lt_size e
 | tbl ps => exact Heap.lt_size (show h.get? a = some _ from x)
 | met f y => exact Heap.lt_size (show h.get? a = some _ from x)
 | ext φ => obtain ⟨_, ⟨_, e⟩, _⟩ := x; exact Heap.lt_size e
theorem Paired.mapP {α β : Type} {F G : α -> β -> Prop} : ∀ {l₁ : List α} {l₂ : List β}, Paired F l₁ l₂ -> (∀ a b, F a b -> G a b) -> Paired G l₁ l₂
 | _, _, .nil, _ => .nil
 | _, _, .cons r t, f => .cons (f _ _ r) (Paired.mapP t f)
theorem ObjOk.stay (x : ObjOk P w H h a o) (k : ∀ b u, (b = a \/ H b = some (.own a)) -> h.get? b = some u -> h'.get? b = some u)
  (ho : ∀ b, H b = some (.own a) -> H' b = some (.own a)) (ht : ∀ b xs, H b = some (.tup xs) -> H' b = some (.tup xs)) : ObjOk P w H' h' a o := by
 induction o with
 | lst xs => obtain ⟨z, its, n, r, e⟩ := x; exact ⟨z, its, n, r, k _ _ (.inl rfl) e⟩
 | tup xs => obtain ⟨z, its, r, ob, e, c⟩ := x; exact ⟨z, its, r, ob, k _ _ (.inl rfl) e, c⟩
 | dK kvs => obtain ⟨z, y, vs, r, ob, es, ep, e, c⟩ := x; exact ⟨z, y, vs, r, ob, es, ep, k _ _ (.inl rfl) e, c⟩
 | dT kvs =>
  obtain ⟨z, y, xs, r, ob, es, ep, e, c⟩ := x
  exact ⟨z, y, xs, Paired.mapP r fun p q z => ⟨z.1, ht _ _ z.2.1, z.2.2⟩, ob, es, ep, k _ _ (.inl rfl) e, c⟩
 | set S n => obtain ⟨ob, es, ep, t, e, c⟩ := x; exact ⟨ob, es, ep, t, k _ _ (.inl rfl) e, c⟩
 | ins C dx fs =>
  obtain ⟨d, z, ne, e, mA, ⟨od, es, ep, e2, c⟩, r⟩ := x
  exact ⟨ho _ d, z, ne, k _ _ (.inl rfl) e, mA, ⟨od, es, ep, k _ _ (.inr d) e2, c⟩, r⟩
 | own y => obtain ⟨ob, e⟩ := x; exact ⟨ob, k _ _ (.inl rfl) e⟩
 | xd fs => obtain ⟨mA, ⟨od, es, ep, e, c⟩, r⟩ := x; exact ⟨mA, ⟨od, es, ep, k _ _ (.inl rfl) e, c⟩, r⟩
 | rng lo hi => obtain ⟨t, u, v, e⟩ := x; exact ⟨t, u, v, k _ _ (.inl rfl) e⟩
 | frz ob u ih => obtain ⟨e, q⟩ := x; exact ⟨k _ _ (.inl rfl) e, ih q⟩
 | tbl ps =>
  have e : h.get? a = some { cls := .none, data := .fields ps } := x
  show h'.get? a = some { cls := .none, data := .fields ps }
  exact k a _ (.inl rfl) e
 | met f y =>
  have e : h.get? a = some (W.methodObj (.ref f) (.ref y)) := x
  show h'.get? a = some (W.methodObj (.ref f) (.ref y))
  exact k a _ (.inl rfl) e
 | ext φ => obtain ⟨p, ⟨o, e⟩, st⟩ := x; exact ⟨st _ _ p fun o q => k _ _ (.inl rfl) q, ⟨o, k _ _ (.inl rfl) e⟩, st⟩
theorem HOk.lt (x : HOk P w H h) (e : H a = some o) : a < h.objs.size := (x a o e).lt
theorem HOk.fresh (x : HOk P w H h) (e : h.objs.size <= a) : H a = none := by
 cases q : H a with
 | none => rfl
 | some u => exact absurd (Nat.lt_of_lt_of_le (x.lt q) e) (Nat.lt_irrefl _)
theorem HOk.kept (x : HOk P w H h) (k : ∀ b u, h.get? b = some u -> h'.get? b = some u) : HOk P w H h' := fun a o e =>
 (x a o e).stay (fun b u _ q => k b u q) (fun _ q => q) fun _ _ q => q
theorem HOk.laid (x : HOk P w H h) (k : ∀ b u, h.get? b = some u -> h'.get? b = some u) (hp : h.objs.size <= a) (new : ObjOk P w (upd H a o) h' a o) : HOk P w (upd H a o) h' := fun b u e => by
 have hn := x.fresh hp
 by_cases hb : b = a
 ·subst hb; rw [ZaW] at e; cases e; exact new
 ·rw [Zan hb] at e
  exact (x b u e).stay (fun c v _ q => k c v q) (fun c q => by rw [Zan (Zal q hn)]; exact q) fun c xs q => by rw [Zan (Zal q hn)]; exact q
end
noncomputable def Rd (H : Hp) (a : Addr) (u : HO) : Prop := H a = some u \/ ∃ o, H a = some (.frz o u)
theorem Rd.ok {P : Program} {w : World} {H : Hp} {h : Heap} {a : Addr} {u : HO} (r : Rd H a u) (x : HOk P w H h) : ObjOk P w H h a u := by
 rcases r with r | ⟨o, r⟩
 ·exact x a u r
 ·obtain ⟨_, q⟩ := x a _ r
  exact q
noncomputable def Mut : Option HO -> Prop
 | some (.lst _) => True
 | some (.dK _) => True
 | some (.dT _) => True
 | some (.set _ _) => True
 | some (.ins _ _ _) => True
 | some (.ext _) => True
 | _ => False
section
variable {P : Program} {w : World} {H : Hp} {h h' : Heap} {x e : Addr} {o' : HO}
theorem HOk.write (ok : HOk P w H h) (mu : Mut (H x)) (he : e = x \/ H e = some (.own x)) (k : ∀ b u, b ≠ e -> h.get? b = some u -> h'.get? b = some u) (heo : ∃ u, h'.get? e = some u)
  (new : ObjOk P w (upd H x o') h' x o') : HOk P w (upd H x o') h' := fun b u q => by
 have nown : ∀ c y, H c = some (.own y) -> c ≠ x := fun c y r z => by subst z; rw [r] at mu; exact mu
 have ntup : ∀ c xs, H c = some (.tup xs) -> c ≠ x := fun c xs r z => by subst z; rw [r] at mu; exact mu
 by_cases hb : b = x
 ·subst hb; rw [ZaW] at q; cases q; exact new
 ·rw [Zan hb] at q
  by_cases hbe : b = e
  ·have q' : H b = some (.own x) := by
    rcases he with z | z
    ·exact absurd (hbe.trans z) hb
    ·rw [hbe]; exact z
   rw [q] at q'; cases q'
   obtain ⟨v, hv⟩ := heo
   exact ⟨v, by rw [hbe]; exact hv⟩
  ·refine (ok b u q).stay (fun c v hc r => k c v ?_ r) (fun c r => by rw [Zan (nown c b r)]; exact r) fun c xs r => by rw [Zan (ntup c xs r)]; exact r
   rcases hc with rfl | hc
   ·exact hbe
   ·rintro rfl
    rcases he with z | z
    ·exact nown c b hc z
    ·rw [hc] at z; cases z; exact hb rfl
end
structure Un (fs ex : List Addr) (H H' : Hp) (h h' : Heap) : Prop where
 keep : ∀ b o, h.get? b = some o -> H b = none -> b ∉ fs -> b ∉ ex -> h'.get? b = some o
 slot : ∀ b o, h.get? b = some o -> H b = none -> b ∈ fs -> b ∉ ex -> ∃ sl, h'.get? b = some { o with slots := sl }
 free : ∀ b o, h.get? b = some o -> H b = none -> b ∉ ex -> H' b = none
 there : ∀ b o, h.get? b = some o -> b ∉ ex -> ∃ o', h'.get? b = some o'
 tups : ∀ b xs, H b = some (.tup xs) -> H' b = some (.tup xs)
 frzs : ∀ b o u, H b = some (.frz o u) -> H' b = some (.frz o u)
 tbls : ∀ b ps, H b = some (.tbl ps) -> ∃ more, H' b = some (.tbl (ps ++ more))
section
variable {fs fs' ex ex' : List Addr} {H H1 H2 : Hp} {h h1 h2 h' : Heap} {a x e : Addr} {o : HO}
theorem Un.any (u : Un fs ex H H1 h h1) {b : Addr} {ob : Obj} (q : h.get? b = some ob) (n : H b = none) (hx : b ∉ ex) : ∃ sl, h1.get? b = some { ob with slots := sl } := by
 by_cases hb : b ∈ fs
 ·exact u.slot b ob q n hb hx
 ·exact ⟨ob.slots, u.keep b ob q n hb hx⟩
theorem Un.kept (k : ∀ b u, h.get? b = some u -> h'.get? b = some u) : Un fs ex H H h h' :=
 ⟨fun b ob q _ _ _ => k b ob q, fun b ob q _ _ _ => ⟨ob.slots, k b ob q⟩, fun _ _ _ n _ => n, fun b ob q _ => ⟨ob, k b ob q⟩, fun _ _ q => q, fun _ _ _ q => q, fun _ ps q => ⟨#[], by rw [q]; simp⟩⟩
theorem Un.refl : Un fs ex H H h h := Un.kept fun _ _ q => q
theorem Un.laid (k : ∀ b u, h.get? b = some u -> h'.get? b = some u) (hp : h.objs.size <= a) (hn : H a = none) : Un fs ex H (upd H a o) h h' where
 keep := fun b u q _ _ _ => k b u q
 slot := fun b u q _ _ _ => ⟨u.slots, k b u q⟩
 free := fun b u q n _ => by rw [Zan (Nat.ne_of_lt (Nat.lt_of_lt_of_le (Heap.lt_size q) hp))]; exact n
 there := fun b u q _ => ⟨u, k b u q⟩
 tups := fun b xs q => by rw [Zan (Zal q hn)]; exact q
 frzs := fun b u xs q => by rw [Zan (Zal q hn)]; exact q
 tbls := fun b ps q => ⟨#[], by rw [Zan (Zal q hn), q]; simp⟩
theorem Un.write (mu : Mut (H x)) (he : e = x \/ H e = some (.own x)) (k : ∀ b u, b ≠ e -> h.get? b = some u -> h'.get? b = some u) (heo : ∃ u, h'.get? e = some u) : Un fs ex H (upd H x o) h h' := by
 have hx : ∀ b, H b = none -> b ≠ x := fun b n z => by subst z; rw [n] at mu; exact mu
 have hb : ∀ b, H b = none -> b ≠ e := fun b n z => by
  subst z
  rcases he with r | r
  ·exact hx b n r
  ·rw [n] at r; cases r
 have hm : ∀ b u, H b = some u -> ¬ Mut (some u) -> b ≠ x := fun b u q nm z => by subst z; rw [q] at mu; exact nm mu
 refine ⟨fun b u q n _ _ => k b u (hb b n) q, fun b u q n _ _ => ⟨u.slots, k b u (hb b n) q⟩, fun b u q n _ => by rw [Zan (hx b n)]; exact n, fun b u q _ => ?_,
  fun b xs q => by rw [Zan (hm b _ q fun z => z)]; exact q, fun b u xs q => by rw [Zan (hm b _ q fun z => z)]; exact q, fun b ps q => ⟨#[], by rw [Zan (hm b _ q fun z => z), q]; simp⟩⟩
 by_cases hbe : b = e
 ·subst hbe; exact heo
 ·exact ⟨u, k b u hbe q⟩
end
noncomputable def trk (h : Heap) (H : Hp) : List Addr := (List.range h.objs.size).filter fun a => (H a).isSome
noncomputable def hidT (h : Heap) (H : Hp) : Heap := W.hideAll h (trk h H)
theorem hidT_size (h : Heap) (H : Hp) : (hidT h H).objs.size = h.objs.size := W.hideAll_size _ _
theorem hidT_get {h : Heap} {H : Hp} {b : Addr} {o : Obj} (e : h.get? b = some o) (n : H b = none) : (hidT h H).get? b = some o :=
 W.hideAll_get _ e fun hm => by
  have q : (H b).isSome = true := (List.mem_filter.mp hm).2
  rw [n] at q; simp at q
theorem of_hidT {h : Heap} {H : Hp} {b : Addr} {o : Obj} (e : (hidT h H).get? b = some o) : h.get? b = some o /\ H b = none := by
 have e' : h.get? b = some o := W.of_hideAll (trk h H) e
 refine ⟨e', ?_⟩
 cases q : H b with
 | none => rfl
 | some x =>
  have hm : b ∈ trk h H := List.mem_filter.mpr ⟨List.mem_range.mpr (Heap.lt_size e'), by simp [q]⟩
  have z : (hidT h H).get? b = none := W.hideAll_none (trk h H) hm
  rw [z] at e; cases e
noncomputable def allNews (g h : Heap) (L : Addr) : List (Addr × Obj) := (List.range h.objs.size).filterMap fun a => if a = L \/ (g.get? a).isSome = true then none else (h.get? a).map fun o => (a, o)
noncomputable def rest (g h : Heap) (L d : Addr) : List (Addr × Obj) := (allNews g h L).filter fun p => decide (p.1 ≠ d)
structure Mod (K : W.Frag) (mg : Str -> Option Value) (base : Heap) : Prop where
 kin : K.In base
 glob : base.Ns mainGlobals mg
 blt : ∃ mb, base.Ns builtinsNs mb /\ ∀ x : Str, x ≠ "__name__" -> mb x = bootBuiltins x
 nolimit : base.NoLimit
structure Cx where
 prog : Program
 w : World
 K : W.Frag
 mg : Str -> Option Value
 base : Heap
 A : Around
 N : List Str
 s₀ : Shared
 H₀ : Hp
 env : Env
 outer : List Env
 stack : List Env
 ex : List Addr
 fn : Str -> Bool
 calm : Bool
 pn : List (Addr × Obj)
 xe : Value -> Shared -> Prop
noncomputable def frs (l : List Env) : List Addr := l.filterMap (·.frame)
noncomputable abbrev Cx.fs (X : Cx) : List Addr := frs X.outer
noncomputable def Vis (sc : Scope) (x : Str) : Prop := sc.names.lookup x = some .local \/ sc.names.lookup x = some .cell \/ sc.names.lookup x = some .free
noncomputable def Loc (sc : Scope) (x : Str) : Prop := sc.names.lookup x = some .local \/ sc.names.lookup x = some .cell
noncomputable def Look (env : Env) (h : Heap) (m : Str -> Option Value) (x : Str) (u : Value) : Prop :=
 (env.kindOf x = some .local /\ m x = some u) \/ ((env.kindOf x = some .cell \/ env.kindOf x = some .free) /\ ∃ c, env.cells.lookup x = some c /\ h.IsCell c (some u))
structure Cx.Ok (X : Cx) : Prop where
 mod : Mod X.K X.mg X.base
 kind : X.env.scope.kind = .function
 glob : X.env.globals = mainGlobals
 blt : X.env.builtins = builtinsNs
 above : X.s₀.heap.objs.size <= X.env.locals
 inj : ∀ x y c, X.env.cells.lookup x = some c -> X.env.cells.lookup y = some c -> x = y
 has : ∀ x, (X.env.kindOf x = some .cell \/ X.env.kindOf x = some .free) -> ∃ c, X.env.cells.lookup x = some c
 cab : ∀ x c, X.fn x = true -> X.env.cells.lookup x = some c -> X.s₀.heap.objs.size <= c
 hd : X.calm = true -> X.A.handled = none
 frames : X.A.frames = some X.stack
 stk : X.stack = X.outer \/ (X.stack = X.env :: X.outer /\ X.env.frame = some X.env.locals)
 exf : ∀ b ∈ X.ex, b ≠ X.env.locals /\ ∀ x c, X.env.cells.lookup x = some c -> c ≠ b
 bs : ∀ b o, X.base.get? b = some o -> X.s₀.heap.get? b = some o /\ X.H₀ b = none
 bsz : X.base.objs.size <= X.s₀.heap.objs.size
 noex : ∀ b o, X.base.get? b = some o -> b ∉ X.ex
 exfs : ∀ b ∈ X.ex, b ∉ X.fs
 funs : X.s₀.heap.FunFrames X.base X.outer
 frf : ∀ b ∈ X.fs, X.H₀ b = none
structure Inv (X : Cx) (pins : List (Addr × Obj)) (σ : List (Option V)) (H : Hp) (s : Shared) : Prop where
 ok : X.Ok
 os : s.os = X.s₀.os
 bare : AllBare s.gens
 base : Un X.fs X.ex X.H₀ H X.s₀.heap s.heap
 loc : ∃ m, s.heap.Ns X.env.locals m /\ ∀ (i : Nat) (x : Str) (v : V), X.N[i]? = some x -> σ[i]? = some (some v) -> Vis X.env.scope x -> ∃ u, RelV v u /\ Look X.env s.heap m x u
 cell : ∀ x c, X.env.cells.lookup x = some c -> ∃ v, s.heap.IsCell c v
 free : H X.env.locals = none
 freeC : ∀ x c, X.env.cells.lookup x = some c -> H c = none
 pin : ∀ p ∈ X.pn ++ pins, s.heap.get? p.1 = some p.2 /\ H p.1 = none /\ p.1 ≠ X.env.locals /\ p.1 ∉ X.fs /\ ∀ v, p.2.data ≠ .cell v
 hok : HOk X.prog X.w H s.heap
 len : σ.length = X.N.length
section
variable {X : Cx} {pins : List (Addr × Obj)} {σ : List (Option V)} {H H' : Hp} {s : Shared} {h' : Heap}
theorem Cx.Ok.nofr (ok : X.Ok) {b : Addr} {o : Obj} (e : X.base.get? b = some o) : b ∉ X.fs := fun hb => by
 have := (ok.funs.mem hb).1
 rw [e] at this; cases this
theorem Inv.bs (I : Inv X pins σ H s) : ∀ b o, X.base.get? b = some o -> s.heap.get? b = some o /\ H b = none := fun b o e =>
 ⟨I.base.keep b o (I.ok.bs b o e).1 (I.ok.bs b o e).2 (I.ok.nofr e) (I.ok.noex b o e), I.base.free b o (I.ok.bs b o e).1 (I.ok.bs b o e).2 (I.ok.noex b o e)⟩
theorem Inv.bk (I : Inv X pins σ H s) : ∀ b o, X.base.get? b = some o -> s.heap.get? b = some o := fun b o e => (I.bs b o e).1
theorem Inv.mod (I : Inv X pins σ H s) : Mod X.K X.mg X.base := I.ok.mod
theorem Inv.kIn (I : Inv X pins σ H s) : X.K.In s.heap := I.ok.mod.kin.keeps I.bk
theorem Inv.nolimit (I : Inv X pins σ H s) : s.heap.NoLimit := I.ok.mod.nolimit.keeps I.bk
theorem Inv.lt (I : Inv X pins σ H s) : X.env.locals < s.heap.objs.size := let ⟨_, hn, _⟩ := I.loc; hn.lt
theorem Inv.sz (I : Inv X pins σ H s) : X.s₀.heap.objs.size <= s.heap.objs.size := Nat.le_trans I.ok.above (Nat.le_of_lt I.lt)
theorem Inv.nofs (I : Inv X pins σ H s) {a : Addr} (h : s.heap.objs.size <= a) : a ∉ X.fs := fun hb => by
 obtain ⟨_, o, ho, _⟩ := I.ok.funs.mem hb
 exact absurd (Nat.lt_of_lt_of_le (Heap.lt_size ho) (Nat.le_trans I.sz h)) (Nat.lt_irrefl _)
theorem Inv.cne (I : Inv X pins σ H s) : ∀ x c, X.env.cells.lookup x = some c -> c ≠ X.env.locals := fun x c e z => by
 obtain ⟨v, o, ho, hd⟩ := I.cell x c e
 obtain ⟨m, ⟨o', es, ep, ho', hd', _⟩, _⟩ := I.loc
 rw [z, ho'] at ho; cases ho; rw [hd'] at hd; cases hd
theorem Inv.funs (I : Inv X pins σ H s) : s.heap.FunFrames X.base X.outer := by
 have all : ∀ (l : List Env), (∀ b ∈ frs l, b ∈ X.fs) -> X.s₀.heap.FunFrames X.base l -> s.heap.FunFrames X.base l := by
  intro l
  induction l with
  | nil => intro _ _; trivial
  | cons env r ih =>
   intro hs hl
   obtain ⟨hk, ⟨L, o, hf, hn, ho, hd⟩, hr⟩ := hl
   have hL : L ∈ X.fs := hs L (by unfold frs; rw [List.filterMap_cons, hf]; exact List.mem_cons_self)
   obtain ⟨sl, e⟩ := I.base.slot L o ho (I.ok.frf L hL) hL fun z => I.ok.exfs L z hL
   exact ⟨hk, ⟨L, _, hf, hn, e, hd⟩, ih (fun b hb => hs b (by unfold frs; rw [List.filterMap_cons, hf]; exact List.mem_cons_of_mem _ hb)) hr⟩
 exact all X.outer (fun _ hb => hb) I.ok.funs
theorem Inv.stack (I : Inv X pins σ H s) : s.heap.FunFrames X.base X.stack := by
 rcases I.ok.stk with e | ⟨e, hf⟩
 ·rw [e]; exact I.funs
 ·rw [e]
  obtain ⟨m, hn, _⟩ := I.loc
  refine .cons (by rw [I.ok.kind]; decide) hf hn ?_ I.funs
  exact Heap.get?_none_of_le (Nat.le_trans I.ok.bsz I.ok.above)
theorem Inv.stkSub (I : Inv X pins σ H s) : ∀ b ∈ frs X.stack, b ∈ X.env.locals :: X.fs := fun b hb => by
 rcases I.ok.stk with e | ⟨e, hf⟩
 ·rw [e] at hb; exact List.mem_cons_of_mem _ hb
 ·rw [e] at hb
  unfold frs at hb
  rw [List.filterMap_cons, hf] at hb
  exact hb
theorem Inv.stkFree (I : Inv X pins σ H s) : ∀ b ∈ frs X.stack, H b = none := fun b hb => by
 rcases List.mem_cons.mp (I.stkSub b hb) with e | hb
 ·rw [e]; exact I.free
 ·obtain ⟨_, o, ho, _⟩ := I.ok.funs.mem hb
  exact I.base.free b o ho (I.ok.frf b hb) fun z => I.ok.exfs b z hb
theorem Inv.step {g' : Array GenState} {t' : Nat} {d' : Drawn} {ch : List Addr} (I : Inv X pins σ H s)
  (hch : ∀ b ∈ ch, (b ∈ X.ex \/ X.s₀.heap.objs.size <= b) /\ b ≠ X.env.locals /\ (∀ x c, X.env.cells.lookup x = some c -> c ≠ b) /\ ∀ p ∈ X.pn ++ pins, p.1 ≠ b)
  (keep : ∀ b o, b ≠ X.env.locals -> b ∉ X.fs -> b ∉ ch -> s.heap.get? b = some o -> H b = none -> h'.get? b = some o)
  (slot : ∀ b o, b ≠ X.env.locals -> b ∈ X.fs -> b ∉ ch -> s.heap.get? b = some o -> H b = none -> ∃ sl, h'.get? b = some { o with slots := sl }) (free : ∀ b o, b ∉ ch -> s.heap.get? b = some o -> H b = none -> H' b = none)
  (there : ∀ b o, b ∉ ch -> s.heap.get? b = some o -> ∃ o', h'.get? b = some o')
  (tups : ∀ b xs, H b = some (.tup xs) -> H' b = some (.tup xs)) (frzs : ∀ b o u, H b = some (.frz o u) -> H' b = some (.frz o u)) (tbls : ∀ b ps, H b = some (.tbl ps) -> ∃ more, H' b = some (.tbl (ps ++ more)))
  (ns : ∀ m, s.heap.Ns X.env.locals m -> h'.Ns X.env.locals m) (hok : HOk X.prog X.w H' h') (hg : AllBare g') :
  Inv X pins σ H' { s with heap := h', gens := g', drawn := d', toks := t' } := by
 have neL : ∀ b o, X.s₀.heap.get? b = some o -> b ≠ X.env.locals := fun b o e => Nat.ne_of_lt (Nat.lt_of_lt_of_le (Heap.lt_size e) I.ok.above)
 have neC : ∀ b o, X.s₀.heap.get? b = some o -> b ∉ X.ex -> b ∉ ch := fun b o e hx hb => by
  rcases (hch b hb).1 with z | z
  ·exact hx z
  ·exact absurd (Nat.lt_of_lt_of_le (Heap.lt_size e) z) (Nat.lt_irrefl _)
 have cellK : ∀ x c, X.env.cells.lookup x = some c -> ∀ v, s.heap.IsCell c v -> h'.IsCell c v := fun x c e v h_ => by
  obtain ⟨o, ho, hd⟩ := h_
  have nch : c ∉ ch := fun z => (hch c z).2.2.1 x c e rfl
  by_cases hc : c ∈ X.fs
  ·obtain ⟨sl, q⟩ := slot c o (I.cne x c e) hc nch ho (I.freeC x c e)
   exact ⟨_, q, hd⟩
  ·exact ⟨o, keep c o (I.cne x c e) hc nch ho (I.freeC x c e), hd⟩
 refine ⟨I.ok, I.os, hg, ⟨fun b o e n hb hx => ?_, fun b o e n hb hx => ?_, fun b o e n hx => ?_, fun b o e hx => ?_, fun b xs e => tups b xs (I.base.tups b xs e), fun b o xs e => frzs b o xs (I.base.frzs b o xs e), fun b ps e => ?_⟩, ?_, fun x c e => ?_, ?_, fun x c e => ?_, fun p hp => ?_, hok, I.len⟩
 ·exact keep b o (neL b o e) hb (neC b o e hx) (I.base.keep b o e n hb hx) (I.base.free b o e n hx)
 ·obtain ⟨sl, e1⟩ := I.base.slot b o e n hb hx
  obtain ⟨sl', e2⟩ := slot b _ (neL b o e) hb (neC b o e hx) e1 (I.base.free b o e n hx)
  exact ⟨sl', e2⟩
 ·obtain ⟨o', e1⟩ := I.base.there b o e hx
  exact free b o' (neC b o e hx) e1 (I.base.free b o e n hx)
 ·obtain ⟨o', e1⟩ := I.base.there b o e hx
  exact there b o' (neC b o e hx) e1
 ·obtain ⟨m1, e1⟩ := I.base.tbls b ps e
  obtain ⟨m2, e2⟩ := tbls b _ e1
  exact ⟨m1 ++ m2, by rw [e2, Array.append_assoc]⟩
 ·obtain ⟨m, hn, hl⟩ := I.loc
  refine ⟨m, ns m hn, fun i x v e1 e2 e3 => ?_⟩
  obtain ⟨u, r, l⟩ := hl i x v e1 e2 e3
  refine ⟨u, r, ?_⟩
  rcases l with l | ⟨k, c, e, z⟩
  ·exact .inl l
  ·exact .inr ⟨k, c, e, cellK x c e _ z⟩
 ·obtain ⟨v, z⟩ := I.cell x c e
  exact ⟨v, cellK x c e v z⟩
 ·obtain ⟨m, ⟨o, _, _, ho, _⟩, _⟩ := I.loc
  exact free _ o (fun z => (hch _ z).2.1 rfl) ho I.free
 ·obtain ⟨v, o, ho, hd⟩ := I.cell x c e
  exact free c o (fun z => (hch c z).2.2.1 x c e rfl) ho (I.freeC x c e)
 ·obtain ⟨e, n, ne, nf, d⟩ := I.pin p hp
  have nch : p.1 ∉ ch := fun z => (hch p.1 z).2.2.2 p hp rfl
  exact ⟨keep p.1 p.2 ne nf nch e n, free p.1 p.2 nch e n, ne, nf, d⟩
theorem Inv.un {t' : Nat} (I : Inv X pins σ H s) (u : Un X.fs [] H H' s.heap h') (hok : HOk X.prog X.w H' h') : Inv X pins σ H' { s with heap := h', toks := t' } := by
 obtain ⟨m, ⟨o, es, ep, ho, r⟩, _⟩ := id I.loc
 obtain ⟨sl, hL⟩ := u.any ho I.free (by simp)
 exact I.step (g' := s.gens) (d' := s.drawn) (ch := []) (fun _ z => nomatch z) (fun b o _ hb _ e n => u.keep b o e n hb (by simp)) (fun b o _ hb _ e n => u.slot b o e n hb (by simp)) (fun b o _ e n => u.free b o e n (by simp)) (fun b o _ e => u.there b o e (by simp)) u.tups u.frzs u.tbls (fun m' hm => by
  obtain ⟨o', es', ep', ho', r'⟩ := hm
  rw [ho] at ho'; cases ho'
  exact ⟨_, es', ep', hL, r'⟩) hok I.bare
theorem Inv.call {g' : Array GenState} {t' : Nat} {d' : Drawn} {ch : List Addr} (I : Inv X pins σ H s) (u : Un (frs X.stack) ch H H' s.heap h') (hok : HOk X.prog X.w H' h') (hg : AllBare g')
  (hch : ∀ b ∈ ch, (b ∈ X.ex \/ X.s₀.heap.objs.size <= b) /\ b ≠ X.env.locals /\ (∀ x c, X.env.cells.lookup x = some c -> c ≠ b) /\ ∀ p ∈ X.pn ++ pins, p.1 ≠ b) :
  Inv X pins σ H' { s with heap := h', gens := g', drawn := d', toks := t' } := by
 obtain ⟨m, ⟨o, es, ep, ho, r⟩, _⟩ := id I.loc
 obtain ⟨sl, hL⟩ := u.any ho I.free fun z => (hch _ z).2.1 rfl
 exact I.step (ch := ch) hch (fun b o hL hb hc e n => u.keep b o e n (fun z => (List.mem_cons.mp (I.stkSub b z)).elim hL hb) hc) (fun b o _ _ hc e n => u.any e n hc) (fun b o hc e n => u.free b o e n hc) (fun b o hc e => u.there b o e hc) u.tups u.frzs u.tbls (fun m' hm => by
  obtain ⟨o', es', ep', ho', r'⟩ := hm
  rw [ho] at ho'; cases ho'
  exact ⟨_, es', ep', hL, r'⟩) hok hg
theorem Inv.turned {t' : Nat} {it : Addr} (I : Inv X pins σ H s) (k : ∀ b o, b ≠ it -> s.heap.get? b = some o -> h'.get? b = some o) (hn : H it = none) (hL : it ≠ X.env.locals)
  (h1 : it ∈ X.ex \/ X.s₀.heap.objs.size <= it) (h2 : ∀ x c, X.env.cells.lookup x = some c -> c ≠ it) (h3 : ∀ p ∈ X.pn ++ pins, p.1 ≠ it) : Inv X pins σ H { s with heap := h', toks := t' } := by
 have nit : ∀ b u, H b = some u -> b ≠ it := fun b u e z => by rw [z, hn] at e; cases e
 refine I.step (g' := s.gens) (d' := s.drawn) (ch := [it]) (fun b hb => ?_) (fun b o _ _ hc e _ => k b o (fun z => hc (by simp [z])) e) (fun b o _ _ hc e _ => ⟨o.slots, k b o (fun z => hc (by simp [z])) e⟩) (fun _ _ _ _ n => n)
  (fun b o hc e => ⟨o, k b o (fun z => hc (by simp [z])) e⟩) (fun _ _ e => e) (fun _ _ _ e => e) (fun b ps e => ⟨#[], by rw [e]; simp⟩) (fun m hm => ?_) (fun b u e => ?_) I.bare
 ·have e : b = it := by simpa using hb
  subst e
  exact ⟨h1, hL, h2, h3⟩
 ·obtain ⟨o, es, ep, ho, r⟩ := hm
  exact ⟨o, es, ep, k _ o (Ne.symm hL) ho, r⟩
 ·refine (I.hok b u e).stay (fun c v hc q => k c v ?_ q) (fun _ q => q) fun _ _ q => q
  rcases hc with z | z
  ·rw [z]; exact nit b u e
  ·exact nit c _ z
theorem Inv.tok (I : Inv X pins σ H s) (t : Nat) : Inv X pins σ H { s with toks := t } := I.un (h' := s.heap) (t' := t) Un.refl I.hok
theorem Inv.kept {t' : Nat} (I : Inv X pins σ H s) (k : ∀ b u, s.heap.get? b = some u -> h'.get? b = some u) : Inv X pins σ H { s with heap := h', toks := t' } := I.un (Un.kept k) (I.hok.kept k)
theorem Inv.laid {a : Addr} {o : HO} {t' : Nat} (I : Inv X pins σ H s) (k : ∀ b u, s.heap.get? b = some u -> h'.get? b = some u) (hp : s.heap.objs.size <= a) (new : ObjOk X.prog X.w (upd H a o) h' a o) :
  Inv X pins σ (upd H a o) { s with heap := h', toks := t' } := I.un (Un.laid k hp (I.hok.fresh hp)) (I.hok.laid k hp new)
theorem Inv.write {x e : Addr} {o : HO} {t' : Nat} (I : Inv X pins σ H s) (mu : Mut (H x)) (he : e = x \/ H e = some (.own x)) (k : ∀ b u, b ≠ e -> s.heap.get? b = some u -> h'.get? b = some u) (heo : ∃ u, h'.get? e = some u)
  (new : ObjOk X.prog X.w (upd H x o) h' x o) : Inv X pins σ (upd H x o) { s with heap := h', toks := t' } := I.un (Un.write mu he k heo) (I.hok.write mu he k heo new)
theorem Inv.pins_of {pins' : List (Addr × Obj)} (I : Inv X pins σ H s) (h : ∀ p ∈ pins', s.heap.get? p.1 = some p.2 /\ H p.1 = none /\ p.1 ≠ X.env.locals /\ p.1 ∉ X.fs /\ ∀ v, p.2.data ≠ .cell v) : Inv X pins' σ H s :=
 ⟨I.ok, I.os, I.bare, I.base, I.loc, I.cell, I.free, I.freeC, fun p hp => (List.mem_append.mp hp).elim (fun z => I.pin p (List.mem_append_left _ z)) (h p), I.hok, I.len⟩
theorem nodup_ix {N : List Str} (hN : N.Nodup) {i j : Nat} {x : Str} (a : N[i]? = some x) (b : N[j]? = some x) : i = j := by
 obtain ⟨h1, e1⟩ := List.getElem?_eq_some_iff.mp a
 obtain ⟨h2, e2⟩ := List.getElem?_eq_some_iff.mp b
 exact (List.getElem_inj hN).mp (e1.trans e2.symm)
theorem store_ok2 {M : Model} {A : Around} {E : Value -> Shared -> Prop} {i : Nat} {x : Str} {v : V} {u : Value} {Q : Unit -> Shared -> Prop} (I : Inv X pins σ H s) (hN : X.N.Nodup) (hi : X.N[i]? = some x) (hx : Loc X.env.scope x) (r : RelV v u)
  (h : ∀ s', Inv X pins (σ.set i (some v)) H s' -> (∃ a, Heap.SameBut a s.heap s'.heap /\ (a = X.env.locals \/ X.env.cells.lookup x = some a)) -> Q () s') (hf : X.fn x = true \/ X.env.scope.names.lookup x = some .local := by first | exact .inl rfl | exact .inr rfl | assumption) : wpAny M A (storeName X.env x u) Q E s := by
 obtain ⟨m, hn, hl⟩ := id I.loc
 have hcls : (X.env.scope.kind == .class || (X.env.scope.kind == .module && X.env.locals != X.env.globals)) = false := by rw [I.ok.kind]; rfl
 have hiσ : i < σ.length := by rw [I.len]; exact (List.getElem?_eq_some_iff.mp hi).1
 have cne := I.cne
 have tracked : ∀ {a : Addr} {h' : Heap}, (∃ o, s.heap.get? a = some o /\ H a = none) -> Heap.SameBut a s.heap h' -> HOk X.prog X.w H h' := fun {a h'} ha hs b ob e => by
  obtain ⟨_, _, hfree⟩ := ha
  refine (I.hok b ob e).stay (fun c w' hc q => (hs.2 c ?_).trans q) (fun _ q => q) fun _ _ q => q
  rintro rfl
  rcases hc with rfl | hc
  ·rw [hfree] at e; cases e
  ·rw [hfree] at hc; cases hc
 rcases hx with hk | hk
 ·refine wpAny_storeName_local hk hn (fun h' hn' hs => ?_) hcls
  obtain ⟨oL, _, _, hoL, _⟩ := id hn
  refine h _ ⟨I.ok, I.os, I.bare, ⟨fun b o e n hb hx => ?_, fun b o e n hb hx => ?_, I.base.free, fun b o e hx => ?_, I.base.tups, I.base.frzs, I.base.tbls⟩, ⟨_, hn', fun j y v' e1 e2 e3 => ?_⟩, fun y c e => ?_, I.free, I.freeC, fun p hp => ?_, tracked ⟨oL, hoL, I.free⟩ hs, by simpa using I.len⟩ ⟨_, hs, .inl rfl⟩
  ·exact (hs.2 b (Nat.ne_of_lt (Nat.lt_of_lt_of_le (Heap.lt_size e) I.ok.above))).trans (I.base.keep b o e n hb hx)
  ·obtain ⟨sl, e1⟩ := I.base.slot b o e n hb hx
   exact ⟨sl, (hs.2 b (Nat.ne_of_lt (Nat.lt_of_lt_of_le (Heap.lt_size e) I.ok.above))).trans e1⟩
  ·obtain ⟨o', e1⟩ := I.base.there b o e hx
   exact ⟨o', (hs.2 b (Nat.ne_of_lt (Nat.lt_of_lt_of_le (Heap.lt_size e) I.ok.above))).trans e1⟩
  ·by_cases hj : j = i
   ·subst hj
    rw [hi] at e1; cases e1
    rw [List.getElem?_set_self hiσ] at e2
    cases e2
    exact ⟨u, r, .inl ⟨hk, by simp⟩⟩
   ·rw [List.getElem?_set_ne (Ne.symm hj)] at e2
    obtain ⟨u', r', q⟩ := hl j y v' e1 e2 e3
    refine ⟨u', r', ?_⟩
    rcases q with ⟨k, e⟩ | ⟨k, c, e, z⟩
    ·refine .inl ⟨k, ?_⟩
     have : y ≠ x := fun e => hj (nodup_ix hN e1 (e ▸ hi))
     simp [this, e]
    ·exact .inr ⟨k, c, e, z.sameBut hs (cne y c e)⟩
  ·obtain ⟨w', z⟩ := I.cell y c e
   exact ⟨w', z.sameBut hs (cne y c e)⟩
  ·obtain ⟨e, n, ne, nf, d⟩ := I.pin p hp
   exact ⟨(hs.2 p.1 ne).trans e, n, ne, nf, d⟩
 ·have hfn : X.fn x = true := by
   rcases hf with z | z
   ·exact z
   ·rw [z] at hk; cases hk
  obtain ⟨c, hc⟩ := I.ok.has x (.inl hk)
  obtain ⟨w', z⟩ := I.cell x c hc
  refine wpAny_storeName_cell I.ok.kind hk hc z (fun h' hc' hs => ?_)
  obtain ⟨oc, hoc, hocd⟩ := id z
  refine h { s with heap := h' } ⟨I.ok, I.os, I.bare, ⟨fun b o e n hb hx => ?_, fun b o e n hb hx => ?_, I.base.free, fun b o e hx => ?_, I.base.tups, I.base.frzs, I.base.tbls⟩, ⟨m, hn.sameBut hs (Ne.symm (cne x c hc)), fun j y v' e1 e2 e3 => ?_⟩, fun y c' e => ?_, I.free, I.freeC, fun p hp => ?_, tracked ⟨oc, hoc, I.freeC x c hc⟩ hs, by simpa using I.len⟩ ⟨c, hs, .inr hc⟩
  ·exact (hs.2 b (Nat.ne_of_lt (Nat.lt_of_lt_of_le (Heap.lt_size e) (I.ok.cab x c hfn hc)))).trans (I.base.keep b o e n hb hx)
  ·obtain ⟨sl, e1⟩ := I.base.slot b o e n hb hx
   exact ⟨sl, (hs.2 b (Nat.ne_of_lt (Nat.lt_of_lt_of_le (Heap.lt_size e) (I.ok.cab x c hfn hc)))).trans e1⟩
  ·obtain ⟨o', e1⟩ := I.base.there b o e hx
   exact ⟨o', (hs.2 b (Nat.ne_of_lt (Nat.lt_of_lt_of_le (Heap.lt_size e) (I.ok.cab x c hfn hc)))).trans e1⟩
  ·by_cases hj : j = i
   ·subst hj
    rw [hi] at e1; cases e1
    rw [List.getElem?_set_self hiσ] at e2
    cases e2
    exact ⟨u, r, .inr ⟨.inl hk, c, hc, hc'⟩⟩
   ·rw [List.getElem?_set_ne (Ne.symm hj)] at e2
    obtain ⟨u', r', q⟩ := hl j y v' e1 e2 e3
    refine ⟨u', r', ?_⟩
    rcases q with q | ⟨k, c', e, z'⟩
    ·exact .inl q
    ·refine .inr ⟨k, c', e, z'.sameBut hs ?_⟩
     rintro rfl
     exact hj (nodup_ix hN e1 (I.ok.inj _ _ _ e hc ▸ hi))
  ·by_cases hcc : c' = c
   ·subst hcc; exact ⟨_, hc'⟩
   ·obtain ⟨w2, z2⟩ := I.cell y c' e
    exact ⟨w2, z2.sameBut hs hcc⟩
  ·obtain ⟨e, n, ne, nf, d⟩ := I.pin p hp
   refine ⟨(hs.2 p.1 ?_).trans e, n, ne, nf, d⟩
   intro q
   rw [q, hoc] at e
   have q' : oc = p.2 := Option.some.inj e
   exact d w' (by rw [← q']; exact hocd)
theorem store_ok {M : Model} {A : Around} {E : Value -> Shared -> Prop} {i : Nat} {x : Str} {v : V} {u : Value} {Q : Unit -> Shared -> Prop} (I : Inv X pins σ H s) (hN : X.N.Nodup) (hi : X.N[i]? = some x) (hx : Loc X.env.scope x) (r : RelV v u)
  (h : ∀ s', Inv X pins (σ.set i (some v)) H s' -> Q () s') (hf : X.fn x = true \/ X.env.scope.names.lookup x = some .local := by first | exact .inl rfl | exact .inr rfl | assumption) : wpAny M A (storeName X.env x u) Q E s :=
 store_ok2 I hN hi hx r (fun s' I' _ => h s' I') hf
theorem Inv.call' {s' : Shared} {ch : List Addr} (I : Inv X pins σ H s) (ho : s'.os = s.os) (u : Un (frs X.stack) ch H H' s.heap s'.heap) (hok : HOk X.prog X.w H' s'.heap) (hg : AllBare s'.gens)
  (hch : ∀ b ∈ ch, (b ∈ X.ex \/ X.s₀.heap.objs.size <= b) /\ b ≠ X.env.locals /\ (∀ x c, X.env.cells.lookup x = some c -> c ≠ b) /\ ∀ p ∈ X.pn ++ pins, p.1 ≠ b) : Inv X pins σ H' s' := by
 obtain ⟨h', g', d', t', o'⟩ := s'
 have e : o' = s.os := ho
 subst e
 exact I.call (g' := g') (t' := t') (d' := d') u hok hg hch
end
noncomputable abbrev XK := Value -> Option Addr -> Hp -> Prop
noncomputable abbrev St := List (Option V)
noncomputable abbrev VK := V -> Hp -> Prop
noncomputable abbrev TE := St -> Hp -> VK -> Prop
noncomputable abbrev TT := St -> Hp -> (Bool -> Hp -> Prop) -> Prop
noncomputable abbrev TA := St -> Hp -> (List V -> Hp -> Prop) -> Prop
structure Ends where
 nx : St -> Hp -> Prop
 rt : VK
 bk : St -> Hp -> Prop := fun _ _ => False
 ct : St -> Hp -> Prop := fun _ _ => False
noncomputable abbrev TS := Ends -> St -> Hp -> Prop
noncomputable def EP (X : Cx) (pins : List (Addr × Obj)) (σ : St) (Q : VK) (u : Value) (s' : Shared) : Prop := ∃ v H', Inv X pins σ H' s' /\ RelV v u /\ Q v H'
noncomputable def TP (X : Cx) (pins : List (Addr × Obj)) (σ : St) (Q : Bool -> Hp -> Prop) (b : Bool) (s' : Shared) : Prop := ∃ H', Inv X pins σ H' s' /\ Q b H'
noncomputable def AP (X : Cx) (pins : List (Addr × Obj)) (σ : St) (Q : List V -> Hp -> Prop) (us : List Value) (s' : Shared) : Prop := ∃ vs H', Inv X pins σ H' s' /\ Vals vs us /\ Q vs H'
noncomputable def SP (X : Cx) (pins : List (Addr × Obj)) (D : Ends) (f : Flow) (s' : Shared) : Prop :=
 match f with
 | .next => ∃ σ' H', Inv X pins σ' H' s' /\ D.nx σ' H'
 | .brk => ∃ σ' H', Inv X pins σ' H' s' /\ D.bk σ' H'
 | .cont => ∃ σ' H', Inv X pins σ' H' s' /\ D.ct σ' H'
 | .ret u => ∃ v σ' H', Inv X pins σ' H' s' /\ RelV v u /\ D.rt v H'
noncomputable def PE (X : Cx) (e : Expr) (t : TE) : Prop :=
 ∀ (pins : List (Addr × Obj)) (s : Shared) (σ : St) (H : Hp) (Q : VK), Inv X pins σ H s -> t σ H Q -> wpAny (model X.prog X.w) X.A (eval e X.env) (EP X pins σ Q) X.xe s
noncomputable def PT (X : Cx) (e : Expr) (t : TT) : Prop :=
 ∀ (pins : List (Addr × Obj)) (s : Shared) (σ : St) (H : Hp) (Q : Bool -> Hp -> Prop), Inv X pins σ H s -> t σ H Q -> wpAny (model X.prog X.w) X.A (isTrue e X.env (eval e X.env)) (TP X pins σ Q) X.xe s
noncomputable def PW (X : Cx) (e : Expr) (t : TT) : Prop :=
 ∀ (whole : Sem Value) (pins : List (Addr × Obj)) (s : Shared) (σ : St) (H : Hp) (Q : Bool -> Hp -> Prop), Inv X pins σ H s -> t σ H Q -> wpAny (model X.prog X.w) X.A (isTrue e X.env whole) (TP X pins σ Q) X.xe s
noncomputable def PA (X : Cx) (es : List Expr) (t : TA) : Prop :=
 ∀ (pos : Pos) (pins : List (Addr × Obj)) (s : Shared) (σ : St) (H : Hp) (Q : List V -> Hp -> Prop), Inv X pins σ H s -> t σ H Q -> wpAny (model X.prog X.w) X.A (spliced (backTo pos (starEach es X.env))) (AP X pins σ Q) X.xe s
noncomputable def PS (X : Cx) (st : Stmt) (t : TS) : Prop :=
 ∀ (pins : List (Addr × Obj)) (s : Shared) (σ : St) (H : Hp) (D : Ends), Inv X pins σ H s -> t D σ H -> wpAny (model X.prog X.w) X.A (exec st X.env) (SP X pins D) X.xe s
noncomputable def PSs (X : Cx) (st : List Stmt) (t : TS) : Prop :=
 ∀ (pins : List (Addr × Obj)) (s : Shared) (σ : St) (H : Hp) (D : Ends), Inv X pins σ H s -> t D σ H -> wpAny (model X.prog X.w) X.A (execs st X.env) (SP X pins D) X.xe s
theorem thn {α : Type} {t : Sem α} {Q Q' : α -> Shared -> Prop} {M : Model} {A : Around} {E : Value -> Shared -> Prop} {s : Shared} (h : wpAny M A t Q E s) (hQ : ∀ a s, Q a s -> Q' a s) : wpAny M A t Q' E s := wpAny_mono h hQ fun _ _ x => x
section
variable {X : Cx}
theorem bin {a b : Expr} {ta tb : TE} (ha : PE X a ta) (hb : PE X b tb) {pins : List (Addr × Obj)} {s : Shared} {σ : St} {H : Hp} {R : V -> V -> Hp -> Prop} (I : Inv X pins σ H s) (h : ta σ H fun x H1 => tb σ H1 fun y H2 => R x y H2)
  {α : Type} {Q : α -> Shared -> Prop} {f : Value -> Value -> Sem α}
  (hf : ∀ v u s2 x y H2, Inv X pins σ H2 s2 -> RelV x v -> RelV y u -> R x y H2 -> wpAny (model X.prog X.w) X.A (f v u) Q X.xe s2) :
  wpAny (model X.prog X.w) X.A (eval a X.env) (fun v s₁ => wpAny (model X.prog X.w) X.A (eval b X.env) (fun u s₂ => wpAny (model X.prog X.w) X.A (f v u) Q X.xe s₂) X.xe s₁) X.xe s := by
 refine thn (ha pins s σ H _ I h) fun v s1 h_ => ?_
 obtain ⟨x, H1, I1, r1, q1⟩ := h_
 refine thn (hb pins s1 σ H1 _ I1 q1) fun u s2 h_ => ?_
 obtain ⟨y, H2, I2, r2, q2⟩ := h_
 exact hf v u s2 x y H2 I2 r1 r2 q2
noncomputable def tVar (i : Nat) : TE := fun σ H Q => ∃ v, σ[i]? = some (some v) /\ Q v H
noncomputable def tC (v : V) : TE := fun _ H Q => Q v H
theorem pe_var {i : Nat} {x : Str} {pos : Pos} (hN : X.N[i]? = some x) (hv : Vis X.env.scope x) (hd : (x == ("__debug__" : Str)) = false := by decide) (hcd : (x == ("__classdict__" : Str)) = false := by decide) : PE X (.Name x pos) (tVar i) := by
 intro pins s σ H Q I h
 obtain ⟨v, e, h⟩ := h
 obtain ⟨m, hn, hl⟩ := I.loc
 obtain ⟨u, r, l⟩ := hl i x v hN e hv
 have fin : EP X pins σ Q u s := ⟨v, H, I, r, h⟩
 rcases l with ⟨hk, hm⟩ | ⟨hk, c, hc, hcell⟩
 ·exact wpAny_Name (wpAny_loadName_local I.ok.kind hk hn hm fin) hd
 ·rcases hk with hk | hk
  ·exact wpAny_Name (wpAny_loadName_cell I.ok.kind hk hc hcell fin) hd
  ·exact wpAny_Name (wpAny_loadName_free I.ok.kind hk hc hcell fin hcd) hd
theorem pe_int {i j pos} : PE X (.Constant (.int i) j pos) (tC (.int i)) := fun _ _ _ H _ I h => wpAny_Constant_int ⟨.int i, H, I.tok _, ⟨_, rfl⟩, h⟩
theorem pe_bl {b j pos} : PE X (.Constant (.bool b) j pos) (tC (.bl b)) := fun _ _ _ H _ I h => Constant_bool ⟨.bl b, H, I, rfl, h⟩
theorem pe_non {j pos} : PE X (.Constant .none j pos) (tC .non) := fun _ _ _ H _ I h => Constant_none ⟨.non, H, I, rfl, h⟩
theorem pe_str {x j pos} : PE X (.Constant (.str x) j pos) (tC (.str x)) := fun _ _ _ H _ I h => Calls.Constant_str ⟨.str x, H, I.tok _, ⟨_, rfl⟩, h⟩
noncomputable def Gl (X : Cx) (x : Str) : Prop := X.env.kindOf x = some .globalImplicit
theorem ld_glob {E : Value -> Shared -> Prop} {pins : List (Addr × Obj)} {s : Shared} {σ : St} {H : Hp} {x : Str} {u : Value} {pos : Pos} {Q : Value -> Shared -> Prop} (I : Inv X pins σ H s) (hg : Gl X x) (hm : X.mg x = some u) (h : Q u s)
  (hd : (x == ("__debug__" : Str)) = false := by decide) : wpAny (model X.prog X.w) X.A (eval (.Name x pos) X.env) Q E s :=
 Calls.Name_function_global I.ok.kind hg (Calls.loadGlobal_global (by rw [I.ok.glob]; exact I.mod.glob.keeps I.bk) hm h) hd
theorem ZcS {E : Value -> Shared -> Prop} {pins : List (Addr × Obj)} {s : Shared} {σ : St} {H : Hp} {x : Str} {u : Value} {pos : Pos} {Q : Value -> Shared -> Prop} (I : Inv X pins σ H s) (hg : Gl X x) (hm : X.mg x = none) (hv : bootBuiltins x = some u) (h : Q u s)
  (hn : x ≠ "__name__" := by decide) (hd : (x == ("__debug__" : Str)) = false := by decide) : wpAny (model X.prog X.w) X.A (eval (.Name x pos) X.env) Q E s := by
 obtain ⟨mb, h1, h2⟩ := I.mod.blt
 exact Calls.Name_function_global I.ok.kind hg (Calls.loadGlobal_builtin (by rw [I.ok.glob]; exact I.mod.glob.keeps I.bk) hm (by rw [I.ok.blt]; exact h1.keeps I.bk) ((h2 x hn).trans hv) h) hd
theorem pe_glob {x : Str} {v : V} {u : Value} {pos : Pos} (hg : Gl X x) (hm : X.mg x = some u) (r : RelV v u) (hd : (x == ("__debug__" : Str)) = false := by decide) : PE X (.Name x pos) (tC v) :=
 fun _ _ _ H _ I h => ld_glob I hg hm ⟨v, H, I, r, h⟩ hd
theorem pe_bltn {x : Str} {v : V} {u : Value} {pos : Pos} (hg : Gl X x) (hm : X.mg x = none) (hv : bootBuiltins x = some u) (r : RelV v u) (hn : x ≠ "__name__" := by decide) (hd : (x == ("__debug__" : Str)) = false := by decide) : PE X (.Name x pos) (tC v) :=
 fun _ _ _ H _ I h => ZcS I hg hm hv ⟨v, H, I, r, h⟩ hn hd
variable {a b : Expr} {ta tb : TE} {pos : Pos}
variable {tA tB' : TT} {rest : List Expr}
noncomputable def tOr (t u : TT) : TT := fun σ H Q => t σ H fun c H1 => if c = true then Q true H1 else u σ H1 Q
noncomputable def tNot (t : TT) : TT := fun σ H Q => t σ H fun c H1 => Q (!c) H1
theorem pw_or1 (ha : PT X a tA) : PW X (.BoolOp .Or [a] pos) tA := by
 intro wh pins s σ H Q I h
 refine isTrue_or (thn (ha pins s σ H Q I h) fun c s1 e => ?_)
 cases c with
 | false => exact isTrue_or_nil e
 | true => exact e
theorem pw_or (ha : PT X a tA) (hb : PW X (.BoolOp .Or (b :: rest) pos) tB') : PW X (.BoolOp .Or (a :: b :: rest) pos) (tOr tA tB') := by
 intro wh pins s σ H Q I h
 refine isTrue_or (thn (ha pins s σ H _ I h) fun c s1 h_ => ?_)
 obtain ⟨H1, I1, q1⟩ := h_
 cases c with
 | true => exact ⟨H1, I1, q1⟩
 | false => exact hb wh pins s1 σ H1 Q I1 q1
theorem pt_not (ha : PT X a tA) : PT X (.UnaryOp .Not a pos) (tNot tA) := by
 intro pins s σ H Q I h
 exact isTrue_not (ha pins s σ H (fun c H1 => Q (!c) H1) I h)
noncomputable def tAndV (ta tb : TE) : TE := fun σ H Q => ta σ H fun x H1 => ∃ c, x = .bl c /\ if c = true then tb σ H1 Q else Q (.bl false) H1
noncomputable def tOrV (ta tb : TE) : TE := fun σ H Q => ta σ H fun x H1 => ∃ c, x = .bl c /\ if c = true then Q (.bl true) H1 else tb σ H1 Q
noncomputable def tNotV (ta : TE) : TE := fun σ H Q => ta σ H fun x H1 => ∃ c, x = .bl c /\ Q (.bl (!c)) H1
theorem pe_one {op} {t : TE} (h : PE X a t) : PE X (.BoolOp op [a] pos) t := fun pins s σ H Q I hw => BoolOp_one (h pins s σ H Q I hw)
theorem pe_and (ha : PE X a ta) (hb : PE X (.BoolOp .And (b :: rest) pos) tb) : PE X (.BoolOp .And (a :: b :: rest) pos) (tAndV ta tb) := by
 intro pins s σ H Q I h
 refine BoolOp_and (thn (ha pins s σ H _ I h) fun v s1 h_ => ?_)
 obtain ⟨x, H1, I1, r1, q1⟩ := h_
 obtain ⟨c, rfl, q1⟩ := q1
 cases r1
 refine wpAny_truthy_bool ?_
 cases c with
 | true => exact hb pins s1 σ H1 Q I1 q1
 | false => exact ⟨.bl false, H1, I1, rfl, q1⟩
theorem pe_or (ha : PE X a ta) (hb : PE X (.BoolOp .Or (b :: rest) pos) tb) : PE X (.BoolOp .Or (a :: b :: rest) pos) (tOrV ta tb) := by
 intro pins s σ H Q I h
 refine BoolOp_or (thn (ha pins s σ H _ I h) fun v s1 h_ => ?_)
 obtain ⟨x, H1, I1, r1, q1⟩ := h_
 obtain ⟨c, rfl, q1⟩ := q1
 cases r1
 refine wpAny_truthy_bool ?_
 cases c with
 | false => exact hb pins s1 σ H1 Q I1 q1
 | true => exact ⟨.bl true, H1, I1, rfl, q1⟩
theorem pe_not (ha : PE X a ta) : PE X (.UnaryOp .Not a pos) (tNotV ta) := by
 intro pins s σ H Q I h
 refine UnaryOp_ (thn (ha pins s σ H _ I h) fun v s1 h_ => ?_)
 obtain ⟨x, H1, I1, r1, q1⟩ := h_
 obtain ⟨c, rfl, q1⟩ := q1
 cases r1
 exact not_of (wpAny_truthy_bool ⟨.bl (!c), H1, I1, rfl, q1⟩)
end
noncomputable def SqL (K : W.Frag) (H : Hp) (a : Addr) (xs : List V) : Prop :=
 Rd H a (.lst xs) \/
  ∃ (o : Obj) (its : Array Value) (n : Nat), K.lookup a = some o /\ o.cls = .type "list" /\ o.dict = none /\ o.data = .seq its n /\ its.size <= sizeLine /\ Vals xs its.toList
noncomputable def SqT (K : W.Frag) (H : Hp) (a : Addr) (xs : List V) : Prop :=
 Rd H a (.tup xs) \/
  ∃ (o : Obj) (its : Array Value) (n : Nat), K.lookup a = some o /\ o.cls = .type "tuple" /\ o.data = .seq its n /\ its.size <= sizeLine /\ Vals xs its.toList
noncomputable def absV : Value -> Option V
 | .none => some .non
 | .bool b => some (.bl b)
 | .int i _ => some (.int i)
 | .str x _ => some (.str x)
 | .bytes b _ => some (.byt b)
 | .float b _ => some (.flt b)
 | .ref a => some (.ref a)
 | .type n => some (.ty n)
 | _ => none
theorem RelV.abs {x : V} {u : Value} (r : RelV x u) : absV u = some x := by
 cases x with
 | non => cases r; rfl
 | bl _ => cases r; rfl
 | int _ => obtain ⟨t, rfl⟩ := r; rfl
 | str _ => obtain ⟨t, rfl⟩ := r; rfl
 | byt _ => obtain ⟨t, rfl⟩ := r; rfl
 | flt _ => obtain ⟨t, rfl⟩ := r; rfl
 | ref _ => cases r; rfl
 | ty _ => cases r; rfl
theorem RelV.inj {x y : V} {u : Value} (r : RelV x u) (q : RelV y u) : x = y := Option.some.inj (r.abs.symm.trans q.abs)
theorem Vals.inj : ∀ {xs ys : List V} {us : List Value}, Vals xs us -> Vals ys us -> xs = ys
 | _, _, _, .nil, .nil => rfl
 | _, _, _, .cons r t, .cons r' t' => by rw [r.inj r', Vals.inj t t']
section
variable {X : Cx} {pins : List (Addr × Obj)} {σ : St} {H : Hp} {s : Shared} {a : Addr} {xs ys : List V}
theorem SqL.of {K : W.Frag} (h : H a = some (.lst xs)) : SqL K H a xs := .inl (.inl h)
theorem Inv.list (I : Inv X pins σ H s) (h : SqL X.K H a xs) : ∃ its : List Value, Vals xs its /\ PlainL s.heap a its.toArray /\ xs.length <= sizeLine := by
 rcases h with h | ⟨o, its, n, hk, hc, hd, hs, hz, r⟩
 ·obtain ⟨z, its, n, r, e⟩ := h.ok I.hok
  exact ⟨its, r, ⟨_, n, e, rfl, rfl, rfl⟩, z⟩
 ·refine ⟨its.toList, r, ⟨o, n, I.kIn a o hk, hc, hd, by simpa using hs⟩, ?_⟩
  have e := r.length
  simp only [Array.length_toList] at e
  lia
theorem Inv.tuple (I : Inv X pins σ H s) (h : SqT X.K H a xs) : ∃ its : List Value, Vals xs its /\ IsTup s.heap a its.toArray /\ xs.length <= sizeLine := by
 rcases h with h | ⟨o, its, n, hk, hc, hs, hz, r⟩
 ·obtain ⟨z, its, r, p⟩ := h.ok I.hok
  exact ⟨its, r, p, z⟩
 ·refine ⟨its.toList, r, ⟨o, I.kIn a o hk, hc, n, by simpa using hs⟩, ?_⟩
  have e := r.length
  simp only [Array.length_toList] at e
  lia
theorem Inv.list_inj (I : Inv X pins σ H s) (h : SqL X.K H a xs) (h' : SqL X.K H a ys) : xs = ys := by
 obtain ⟨its, r, ⟨o, n, e, _, _, d⟩, _⟩ := I.list h
 obtain ⟨its', r', ⟨o', n', e', _, _, d'⟩, _⟩ := I.list h'
 rw [e] at e'; cases e'
 rw [d] at d'
 injection d' with d1 _
 have : its = its' := by simpa using congrArg Array.toList d1
 subst this
 exact r.inj r'
theorem Inv.tuple_inj (I : Inv X pins σ H s) (h : SqT X.K H a xs) (h' : SqT X.K H a ys) : xs = ys := by
 obtain ⟨its, r, ⟨o, e, _, n, d⟩, _⟩ := I.tuple h
 obtain ⟨its', r', ⟨o', e', _, n', d'⟩, _⟩ := I.tuple h'
 rw [e] at e'; cases e'
 rw [d] at d'
 injection d' with d1 _
 have : its = its' := by simpa using congrArg Array.toList d1
 subst this
 exact r.inj r'
end
noncomputable abbrev Cx.wish (X : Cx) (E : Value -> Shared -> Prop) : Cx := { X with xe := E }
noncomputable abbrev Cx.nox (X : Cx) : Cx := X.wish fun _ _ => False
theorem Cx.Ok.wish {X : Cx} (ok : X.Ok) (E : Value -> Shared -> Prop) : (X.wish E).Ok :=
 ⟨ok.mod, ok.kind, ok.glob, ok.blt, ok.above, ok.inj, ok.has, ok.cab, ok.hd, ok.frames, ok.stk, ok.exf, ok.bs, ok.bsz, ok.noex, ok.exfs, ok.funs, ok.frf⟩
theorem Cx.Ok.unwish {X : Cx} {E : Value -> Shared -> Prop} (ok : (X.wish E).Ok) : X.Ok :=
 ⟨ok.mod, ok.kind, ok.glob, ok.blt, ok.above, ok.inj, ok.has, ok.cab, ok.hd, ok.frames, ok.stk, ok.exf, ok.bs, ok.bsz, ok.noex, ok.exfs, ok.funs, ok.frf⟩
section
variable {X : Cx} {pins : List (Addr × Obj)} {σ : St} {H : Hp} {s : Shared} {E : Value -> Shared -> Prop}
theorem Inv.wish (I : Inv X pins σ H s) (E : Value -> Shared -> Prop) : Inv (X.wish E) pins σ H s := ⟨I.ok.wish E, I.os, I.bare, I.base, I.loc, I.cell, I.free, I.freeC, I.pin, I.hok, I.len⟩
theorem Inv.unwish (I : Inv (X.wish E) pins σ H s) : Inv X pins σ H s := ⟨I.ok.unwish, I.os, I.bare, I.base, I.loc, I.cell, I.free, I.freeC, I.pin, I.hok, I.len⟩
theorem SP.unwish {D : Ends} {f : Flow} {s' : Shared} (h : SP (X.wish E) pins D f s') : SP X pins D f s' := by
 cases f with
 | next => obtain ⟨σ', H', I, q⟩ := h; exact ⟨σ', H', I.unwish, q⟩
 | brk => obtain ⟨σ', H', I, q⟩ := h; exact ⟨σ', H', I.unwish, q⟩
 | cont => obtain ⟨σ', H', I, q⟩ := h; exact ⟨σ', H', I.unwish, q⟩
 | ret u => obtain ⟨v, σ', H', I, r, q⟩ := h; exact ⟨v, σ', H', I.unwish, r, q⟩
theorem PSs.nox {st : List Stmt} {t : TS} (h : PSs X.nox st t) : PSs X st t := fun pins s σ H D I hw =>
 wpAny_mono (h pins s σ H D (I.wish _) hw) (fun _ _ q => q.unwish) fun _ _ z => False.elim z
end
section
variable {X : Cx} {st : Stmt} {rest : List Stmt} {t u : TS} {e : Expr} {te : TE} {pos : Pos}
noncomputable def tNext : TS := fun D σ H => D.nx σ H
noncomputable def tSeq (t u : TS) : TS := fun D σ H => t { D with nx := u D } σ H
theorem pss_nil : PSs X [] tNext := fun _ _ σ H _ I h => wpAny_execs_nil ⟨σ, H, I, h⟩
theorem pss_cons (h1 : PS X st t) (h2 : PSs X rest u) : PSs X (st :: rest) (tSeq t u) := by
 intro pins s σ H D I h
 refine wpAny_execs_cons (thn (h1 pins s σ H { D with nx := u D } I h) fun f s1 q => ?_)
 cases f with
 | next =>
  obtain ⟨σ', H', I', q⟩ := q
  exact h2 pins s1 σ' H' D I' q
 | ret v => exact q
 | brk => exact q
 | cont => exact q
theorem pss_one (h1 : PS X st t) : PSs X [st] t := by
 intro pins s σ H D I h
 refine wpAny_execs_cons (thn (h1 pins s σ H D I h) fun f s1 q => ?_)
 cases f with
 | next => exact wpAny_execs_nil q
 | ret v => exact q
 | brk => exact q
 | cont => exact q
theorem Inv.quiet {pins : List (Addr × Obj)} {σ : St} {H : Hp} {s : Shared} (I : Inv X pins σ H s) : interactive X.env = false := by simp [interactive, I.ok.kind]
noncomputable def tDrop (te : TE) : TS := fun D σ H => te σ H fun _ H1 => D.nx σ H1
theorem ps_expr (he : PE X e te) (hs : swapsWith e none pos.line X.env = pure false := by rfl) : PS X (.Expr e pos) (tDrop te) := by
 intro pins s σ H D I h
 exact wpAny_Expr_any (thn (he pins s σ H _ I h) fun v s1 ⟨x, H1, I1, r1, q1⟩ => ⟨σ, H1, I1, q1⟩) I.quiet hs
noncomputable def tRet (te : TE) : TS := fun D σ H => te σ H D.rt
theorem ps_ret (he : PE X e te) : PS X (.Return (some e) pos) (tRet te) := by
 intro pins s σ H D I h
 exact wpAny_Return_some (thn (he pins s σ H _ I h) fun v s1 ⟨x, H1, I1, r1, q1⟩ => ⟨x, σ, H1, I1, r1, q1⟩)
noncomputable def tIfS (c : TT) (t u : TS) : TS := fun D σ H => c σ H fun b H1 => if b = true then t D σ H1 else u D σ H1
theorem ps_if {c : Expr} {a b : List Stmt} {tc : TT} (hc : PT X c tc) (ha : PSs X a t) (hb : PSs X b u) : PS X (.If c a b pos) (tIfS tc t u) := by
 intro pins s σ H D I h
 refine wpAny_If (thn (hc pins s σ H _ I h) fun d s1 h_ => ?_)
 obtain ⟨H1, I1, q1⟩ := h_
 cases d with
 | true => exact ha pins s1 σ H1 D I1 q1
 | false => exact hb pins s1 σ H1 D I1 q1
end
noncomputable abbrev TG := V -> St -> Hp -> (St -> Hp -> Prop) -> Prop
noncomputable abbrev TGs := List V -> St -> Hp -> (St -> Hp -> Prop) -> Prop
noncomputable def PG (X : Cx) (target : Expr) (t : TG) : Prop :=
 ∀ (pins : List (Addr × Obj)) (s : Shared) (σ : St) (H : Hp) (v : V) (u : Value) (Q : St -> Hp -> Prop), Inv X pins σ H s -> RelV v u -> t v σ H Q ->
  wpAny (model X.prog X.w) X.A (assign target X.env u) (fun _ s' => ∃ σ' H', Inv X pins σ' H' s' /\ Q σ' H') X.xe s
noncomputable def PGs (X : Cx) (ts : List Expr) (t : TGs) : Prop :=
 ∀ (pins : List (Addr × Obj)) (s : Shared) (σ : St) (H : Hp) (vs : List V) (us : List Value) (Q : St -> Hp -> Prop), Inv X pins σ H s -> Vals vs us -> t vs σ H Q ->
  wpAny (model X.prog X.w) X.A (assignInOrder ((assignEach ts X.env).map (·.2)) us) (fun _ s' => ∃ σ' H', Inv X pins σ' H' s' /\ Q σ' H') X.xe s
noncomputable abbrev TSet := V -> V -> V -> Hp -> (Hp -> Prop) -> Prop
noncomputable def PSet (X : Cx) (t : TSet) : Prop :=
 ∀ (pins : List (Addr × Obj)) (s : Shared) (σ : St) (H : Hp) (o i v : V) (ov iv u : Value) (Q : Hp -> Prop), Inv X pins σ H s -> RelV o ov -> RelV i iv -> RelV v u -> t o i v H Q ->
  wpAny (model X.prog X.w) X.A (setItem ov iv u) (fun _ s' => ∃ H', Inv X pins σ H' s' /\ Q H') X.xe s
section
variable {X : Cx} {pos : Pos}
noncomputable def gName (i : Nat) : TG := fun v σ H Q => Q (σ.set i (some v)) H
theorem pg_name {i : Nat} {x : Str} (hN : X.N.Nodup) (hi : X.N[i]? = some x) (hx : Loc X.env.scope x) (hf : X.fn x = true \/ X.env.scope.names.lookup x = some .local := by first | exact .inl rfl | exact .inr rfl | assumption) : PG X (.Name x pos) (gName i) := by
 intro pins s σ H v u Q I r h
 exact wpAny_assign_Name (store_ok I hN hi hx r (fun s' I' => ⟨_, H, I', h⟩) hf)
noncomputable def gNil : TGs := fun vs σ H Q => vs = [] /\ Q σ H
noncomputable def gCons (t : TG) (u : TGs) : TGs := fun vs σ H Q => ∃ v r, vs = v :: r /\ t v σ H fun σ' H' => u r σ' H' Q
theorem pgs_nil : PGs X [] gNil := by
 intro pins s σ H vs us Q I r h
 obtain ⟨e, h⟩ := h
 subst e
 cases r
 exact assignInOrder_nil ⟨σ, H, I, h⟩
theorem pgs_cons {e : Expr} {es : List Expr} {t : TG} {u : TGs} (h1 : PG X e t) (h2 : PGs X es u)
  (hs : (assignEach (e :: es) X.env).map (·.2) = assign e X.env :: (assignEach es X.env).map (·.2) := by rfl) : PGs X (e :: es) (gCons t u) := by
 intro pins s σ H vs us Q I r h
 obtain ⟨v, vr, e1, h⟩ := h
 subst e1
 cases r with
 | cons r rr =>
  rw [hs]
  refine assignInOrder_cons (thn (h1 pins s σ H _ _ _ I r h) fun _ s1 h_ => ?_)
  obtain ⟨σ1, H1, I1, q1⟩ := h_
  exact h2 pins s1 σ1 H1 _ _ Q I1 rr q1
noncomputable def gTup (K : W.Frag) (n : Nat) (t : TGs) : TG := fun v σ H Q => ∃ a xs, v = .ref a /\ SqT K H a xs /\ xs.length = n /\ t xs σ H Q
theorem pg_tup {es : List Expr} {k : Nat} {t : TGs} {n : Nat} (hc : X.calm = true) (h : PGs X es t)
  (hn : (assignEach es X.env).length = n := by rfl) (hst : (assignEach es X.env).findIdx? (·.1) = none := by rfl) : PG X (.Tuple es k pos) (gTup X.K n t) := by
 intro pins s σ H v u Q I r hw
 obtain ⟨a, xs, e1, hq, hl, hw⟩ := hw
 subst e1
 cases r
 obtain ⟨its, rv, ht, hz⟩ := I.tuple hq
 refine assign_Tuple_tuple (I.ok.hd hc) ht (by simp [hn, ← hl, rv.length]) hst fun h' hx => ?_
 have I1 : Inv X pins σ H { s with heap := h' } := I.kept (t' := s.toks) fun b o e => hx b o (Nat.ne_of_lt (Heap.lt_size e)) e
 exact h pins _ σ H xs _ Q I1 (by simpa using rv) hw
noncomputable def gSub (to ti : TE) (t : TSet) : TG := fun v σ H Q => to σ H fun o H1 => ti σ H1 fun i H2 => t o i v H2 fun H3 => Q σ H3
theorem pg_sub {o i : Expr} {to ti : TE} {t : TSet} (ho : PE X o to) (hi : PE X i ti) (hs : PSet X t)
  (ha : ∀ v, assign (.Subscript o i pos) X.env v = (do
   let ov ← holding [v] (eval o X.env)
   let iv ← holding [v, ov] (eval i X.env)
   standAt pos
   holding [v, ov, iv] (setItem ov iv v)
   release [v, ov, iv] []) := by intro _; rfl) : PG X (.Subscript o i pos) (gSub to ti t) := by
 intro pins s σ H v u Q I r h
 rw [ha]
 refine wpAny_bind (wpAny_holding (thn (ho pins s σ H _ I h) fun ov s1 h_ => ?_))
 obtain ⟨x, H1, I1, r1, q1⟩ := h_
 refine wpAny_bind (wpAny_holding (thn (hi pins s1 σ H1 _ I1 q1) fun iv s2 h_ => ?_))
 obtain ⟨y, H2, I2, r2, q2⟩ := h_
 refine wpAny_bind (wpAny_standAt (wpAny_bind (wpAny_holding (thn (hs pins s2 σ H2 x y v ov iv u _ I2 r1 r2 r q2) fun _ s3 h_ => ?_))))
 obtain ⟨H3, I3, q3⟩ := h_
 exact wpAny_release ⟨σ, H3, I3, q3⟩
noncomputable def tAsg (te : TE) (g : TG) : TS := fun D σ H => te σ H fun x H1 => g x σ H1 D.nx
theorem ps_asg {tg e : Expr} {te : TE} {g : TG} (he : PE X e te) (hg : PG X tg g) (hs : swapsWithSole [tg] e pos.line X.env = pure false := by rfl) (hw : swappedStores [tg] e X.env = pure none := by rfl)
  (h1 : (assignEach [tg] X.env).map (·.2) = [assign tg X.env] := by rfl) : PS X (.Assign [tg] e pos) (tAsg te g) := by
 intro pins s σ H D I h
 refine wpAny_Assign_stores (thn (he pins s σ H _ I h) fun v s1 ⟨x, H1, I1, r1, q1⟩ => ?_) hs hw
 rw [h1]
 exact thn (hg pins s1 σ H1 x v _ I1 r1 q1) fun _ s2 q => q
theorem ps_set {i : Nat} {x : Str} {e : Expr} {te : TE} {pos' : Pos} (hN : X.N.Nodup) (hi : X.N[i]? = some x) (hx : Loc X.env.scope x) (he : PE X e te) (hs : swapsWith e (some (.Name x pos')) pos.line X.env = pure false := by rfl) (hf : X.fn x = true \/ X.env.scope.names.lookup x = some .local := by first | exact .inl rfl | exact .inr rfl | assumption) :
  PS X (.Assign [.Name x pos'] e pos) (tAsg te (gName i)) := by
 intro pins s σ H D I h
 refine wpAny_Assign_Name (thn (he pins s σ H _ I h) fun v s1 ⟨y, H1, I1, r1, q1⟩ => ?_) hs
 exact store_ok I1 hN hi hx r1 (fun s2 I2 => ⟨_, H1, I2, q1⟩) hf
end
structure It where
 go : Nat -> Hp -> Prop
 yld : Nat -> Hp -> V -> Hp -> Prop
 stop : Nat -> Hp -> Prop
noncomputable def FpOk (X : Cx) (pins : List (Addr × Obj)) (H : Hp) (b : Addr) : Prop :=
 H b = none /\ b ≠ X.env.locals /\ b ∉ X.fs /\ (b ∈ X.ex \/ X.s₀.heap.objs.size <= b) /\ (∀ x c, X.env.cells.lookup x = some c -> c ≠ b) /\ ∀ p ∈ X.pn ++ pins, p.1 ≠ b
theorem Inv.fpOk {X : Cx} {pins : List (Addr × Obj)} {σ : St} {H H' : Hp} {s : Shared} {b : Addr} (I : Inv X pins σ H s) (hb : s.heap.objs.size <= b) (hn : H' b = none) : FpOk X pins H' b := by
 refine ⟨hn, Nat.ne_of_gt (Nat.lt_of_lt_of_le I.lt hb), I.nofs hb, .inr (Nat.le_trans I.sz hb), fun x c e z => ?_, fun p hp z => ?_⟩
 ·obtain ⟨v, q⟩ := I.cell x c e
  exact absurd (Nat.lt_of_lt_of_le q.lt (by rw [z]; exact hb)) (Nat.lt_irrefl _)
 ·exact absurd (Nat.lt_of_lt_of_le (Heap.lt_size (I.pin p hp).1) (by rw [z]; exact hb)) (Nat.lt_irrefl _)
structure Turn (P : Program) (w : World) (K : W.Frag) (tg : Expr) (J : It) (fp : List Addr) (it : Addr) (tn : Nat -> Heap -> Prop) : Prop where
 mem : it ∈ fp
 obj : ∀ i h, tn i h -> ∀ b ∈ fp, ∃ o, h.get? b = some o /\ ∀ v, o.data ≠ .cell v
 keep : ∀ i h h', tn i h -> (∀ b ∈ fp, ∀ o, h.get? b = some o -> h'.get? b = some o) -> tn i h'
 item : ∀ (X : Cx), X.prog = P -> X.w = w -> X.K = K -> X.calm = true -> ∀ (i : Nat) (pins : List (Addr × Obj)) (s : Shared) (σ : St) (H : Hp) (E : Value -> Shared -> Prop), Inv X pins σ H s -> (∀ b ∈ fp, FpOk X pins H b) -> tn i s.heap -> J.go i H ->
  wpAny (model P w) X.A (pyNext (.ref it)) (fun r s1 => ∃ u, r = some u /\
   wpAny (model P w) X.A (letOwnedTupleGo tg (.ref it) u) (fun _ s2 => ∃ x H', Inv X pins σ H' s2 /\ RelV x u /\ J.yld i H x H' /\ tn (i + 1) s2.heap /\ ∀ b ∈ fp, H' b = none) E s1) E s
 done : ∀ (X : Cx), X.prog = P -> X.w = w -> X.K = K -> X.calm = true -> ∀ (i : Nat) (pins : List (Addr × Obj)) (s : Shared) (σ : St) (H : Hp) (E : Value -> Shared -> Prop), Inv X pins σ H s -> (∀ b ∈ fp, FpOk X pins H b) -> tn i s.heap -> J.stop i H ->
  wpAny (model P w) X.A (pyNext (.ref it)) (fun r s1 => r = none /\ Inv X pins σ H s1) E s
 self : ∀ (A : Around) (i : Nat) (s : Shared) (Q : Value -> Shared -> Prop) (E : Value -> Shared -> Prop), tn i s.heap -> Q (.ref it) s -> wpAny (model P w) A (pyIter (.ref it)) Q E s
noncomputable abbrev TI := St -> Hp -> (It -> Hp -> Prop) -> Prop
noncomputable def PIE (X : Cx) (pins : List (Addr × Obj)) (σ : St) (tg : Expr) (R : It -> Hp -> Prop) (itv : Value) (s2 : Shared) : Prop :=
 ∃ (it : Addr) (fp : List Addr) (tn : Nat -> Heap -> Prop) (J : It) (H' : Hp), itv = .ref it /\ Inv X pins σ H' s2 /\ Turn X.prog X.w X.K tg J fp it tn /\ tn 0 s2.heap /\ (∀ b ∈ fp, FpOk X pins H' b) /\ R J H'
noncomputable def PI (X : Cx) (tg iter : Expr) (wi : TI) : Prop :=
 ∀ (pins : List (Addr × Obj)) (s : Shared) (σ : St) (H : Hp) (R : It -> Hp -> Prop), Inv X pins σ H s -> wi σ H R ->
  wpAny (model X.prog X.w) X.A (eval iter X.env) (fun v s1 => wpAny (model X.prog X.w) X.A (pyIter v) (PIE X pins σ tg R) X.xe s1) X.xe s
theorem go_of {M : Model} {A : Around} {E : Value -> Shared -> Prop} {s : Shared} {tg : Expr} {it : Addr} {u : Value} {o : Obj} {n : String} {vs : Array Value} {Q : Unit -> Shared -> Prop} (ho : s.heap.get? it = some o) (hc : o.cls = .type n) (hd : o.data = .fields vs)
    (hn : ["enumerate", "zip", "dict_itemiterator", "dict_reverseitemiterator", "odict_iterator", "itertools.zip_longest", "itertools.pairwise"].contains n = false) (hQ : Q () s) : wpAny M A (letOwnedTupleGo tg (.ref it) u) Q E s := by
  unfold letOwnedTupleGo
  cases tg <;> first
    | exact wpAny_pure hQ
    | (cases u <;> first
        | exact wpAny_pure hQ
        | (refine wpAny_bind (wpAny_load ho ?_)
           rw [hc, hd]
           show wpAny M A (if (["enumerate", "zip", "dict_itemiterator", "dict_reverseitemiterator", "odict_iterator", "itertools.zip_longest", "itertools.pairwise"].contains n && vs[0]? == some (rawInt _)) = true then _ else _) Q E s
           rw [if_neg (by intro h; rw [hn, Bool.false_and] at h; cases h)]
           exact wpAny_pure hQ))
noncomputable def Itl (K : W.Frag) (a : Addr) : It :=
 ⟨fun i H => ∃ xs x, SqL K H a xs /\ xs[i]? = some x, fun i H x H' => H' = H /\ ∀ xs, SqL K H a xs -> xs[i]? = some x, fun i H => ∃ xs, SqL K H a xs /\ xs.length <= i⟩
noncomputable def Itt (K : W.Frag) (a : Addr) : It :=
 ⟨fun i H => ∃ xs x, SqT K H a xs /\ xs[i]? = some x, fun i H x H' => H' = H /\ ∀ xs, SqT K H a xs -> xs[i]? = some x, fun i H => ∃ xs, SqT K H a xs /\ xs.length <= i⟩
noncomputable def Itr (lo : Int) (n : Nat) : It := ⟨fun i _ => i < n, fun i H x H' => H' = H /\ x = .int (lo + i), fun i _ => n <= i⟩
theorem turn_list {P : Program} {w : World} {K : W.Frag} {tg : Expr} (a it : Addr) : Turn P w K tg (Itl K a) [it] it (fun i h => h.IsListIter it a i) where
 mem := by simp
 obj := fun i h st b hb => by
  have e : b = it := by simpa using hb
  subst e
  obtain ⟨o, e, c, d⟩ := st
  exact ⟨o, e, fun v z => by rw [d] at z; cases z⟩
 keep := fun i h h' st k => st.at fun o e => k it (by simp) o e
 item := by
  intro X hP hw hK hc i pins s σ H E I hf st hg
  subst hP hw hK
  obtain ⟨xs, x, hq, hx⟩ := hg
  obtain ⟨its, rv, p, hz⟩ := I.list hq
  obtain ⟨u, hu, ru⟩ := rv.get hx
  obtain ⟨f0, f1, f2, f3, f4, f5⟩ := hf it (by simp)
  refine wpAny_pyNext_list_item st p.isList (x := u) (by simpa using hu) fun h' st' sb => ?_
  have I1 : Inv X pins σ H { s with heap := h' } := I.turned (t' := s.toks) (fun b o hb e => (sb.2 b hb).trans e) f0 f1 f3 f4 f5
  obtain ⟨o, e, c, d⟩ := id st'
  exact ⟨u, rfl, go_of (s := { s with heap := h' }) e c d (by decide) ⟨x, H, I1, ru, ⟨rfl, fun ys hy => by rw [I.list_inj hy hq]; exact hx⟩, st', fun b hb => (hf b hb).1⟩⟩
 done := by
  intro X hP hw hK hc i pins s σ H E I hf st hg
  subst hP hw hK
  obtain ⟨xs, hq, hx⟩ := hg
  obtain ⟨its, rv, p, hz⟩ := I.list hq
  obtain ⟨f0, f1, f2, f3, f4, f5⟩ := hf it (by simp)
  have hl := rv.length
  exact wpAny_pyNext_list_end (I.ok.hd hc) st p.isList (by simp; lia) fun h' eb => ⟨rfl, I.turned (t' := s.toks) (fun b o hb e => eb b o hb e) f0 f1 f3 f4 f5⟩
 self := fun _ _ _ _ _ st h => wpAny_pyIter_listiter st h
theorem turn_tuple {P : Program} {w : World} {K : W.Frag} {tg : Expr} (a it : Addr) : Turn P w K tg (Itt K a) [it] it (fun i h => h.IsTupleIter it a i) where
 mem := by simp
 obj := fun i h st b hb => by
  have e : b = it := by simpa using hb
  subst e
  obtain ⟨o, e, c, d⟩ := st
  exact ⟨o, e, fun v z => by rw [d] at z; cases z⟩
 keep := fun i h h' st k => st.at fun o e => k it (by simp) o e
 item := by
  intro X hP hw hK hc i pins s σ H E I hf st hg
  subst hP hw hK
  obtain ⟨xs, x, hq, hx⟩ := hg
  obtain ⟨its, rv, p, hz⟩ := I.tuple hq
  obtain ⟨u, hu, ru⟩ := rv.get hx
  obtain ⟨f0, f1, f2, f3, f4, f5⟩ := hf it (by simp)
  refine wpAny_pyNext_tuple_item st (show s.heap.IsTuple a its.toArray from p) (x := u) (by simpa using hu) fun h' st' sb => ?_
  have I1 : Inv X pins σ H { s with heap := h' } := I.turned (t' := s.toks) (fun b o hb e => (sb.2 b hb).trans e) f0 f1 f3 f4 f5
  obtain ⟨o, e, c, d⟩ := id st'
  exact ⟨u, rfl, go_of (s := { s with heap := h' }) e c d (by decide) ⟨x, H, I1, ru, ⟨rfl, fun ys hy => by rw [I.tuple_inj hy hq]; exact hx⟩, st', fun b hb => (hf b hb).1⟩⟩
 done := by
  intro X hP hw hK hc i pins s σ H E I hf st hg
  subst hP hw hK
  obtain ⟨xs, hq, hx⟩ := hg
  obtain ⟨its, rv, p, hz⟩ := I.tuple hq
  obtain ⟨f0, f1, f2, f3, f4, f5⟩ := hf it (by simp)
  have hl := rv.length
  exact wpAny_pyNext_tuple_end (I.ok.hd hc) st (show s.heap.IsTuple a its.toArray from p) (by simp; lia) fun h' eb => ⟨rfl, I.turned (t' := s.toks) (fun b o hb e => eb b o hb e) f0 f1 f3 f4 f5⟩
 self := fun _ _ _ _ _ st h => wpAny_pyIter_tupleiter st h
theorem turn_range {P : Program} {w : World} {K : W.Frag} {tg : Expr} (it : Addr) (lo : Int) (n : Nat) : Turn P w K tg (Itr lo n) [it] it (fun i h => IsRangeIter h it (lo + (i : Nat) * 1) ((n : Int) - (i : Nat)) 1) where
 mem := by simp
 obj := fun i h st b hb => by
  have e : b = it := by simpa using hb
  subst e
  exact ⟨_, st, fun v z => by
   have z' : Data.fields _ = Data.cell v := z
   cases z'⟩
 keep := fun i h h' st k => k it (by simp) _ st
 item := by
  intro X hP hw hK hc i pins s σ H E I hf st hg
  subst hP hw hK
  obtain ⟨f0, f1, f2, f3, f4, f5⟩ := hf it (by simp)
  have W := Walks.range (prog := X.prog) (w := X.w) (I.ok.hd hc) it lo 1 n
  refine W.item i s _ _ hg st fun v h' tk hv st' kk => ?_
  obtain ⟨t, rfl⟩ := hv
  have I1 : Inv X pins σ H { s with heap := h', toks := tk } := I.turned (fun b o hb e => kk b o (by simpa using hb) e) f0 f1 f3 f4 f5
  refine ⟨_, rfl, go_of (s := { s with heap := h', toks := tk }) (n := "range_iterator") st' rfl rfl (by decide) ⟨.int (lo + i), H, I1, ⟨t, ?_⟩, ⟨rfl, rfl⟩, st', fun b hb => (hf b hb).1⟩⟩
  rw [Int.mul_one]
 done := by
  intro X hP hw hK hc i pins s σ H E I hf st hg
  subst hP hw hK
  obtain ⟨f0, f1, f2, f3, f4, f5⟩ := hf it (by simp)
  exact wpAny_pyNext_range_end (I.ok.hd hc) st (by have : n <= i := hg; lia) fun h' eb => ⟨rfl, I.turned (t' := s.toks) (fun b o hb e => eb b o hb e) f0 f1 f3 f4 f5⟩
 self := fun _ _ _ _ _ st h => wpAny_pyIter_rangeiter st h
section
variable {X : Cx} {tg : Expr}
theorem range_it {pins : List (Addr × Obj)} {σ : St} {H : Hp} {s : Shared} {R : It -> Hp -> Prop} {E : Value -> Shared -> Prop} {lo hi : Int} {t u v : Tok} {tk : Nat} (I : Inv X pins σ H s) (h1 : -(2 ^ 62) <= lo) (h2 : lo < 2 ^ 62) (h3 : -(2 ^ 62) <= hi) (h4 : hi < 2 ^ 62)
  (q : R (Itr lo (hi - lo).toNat) H) : wpAny (model X.prog X.w) X.A (pyIter (.ref s.heap.objs.size)) (PIE X pins σ tg R) E { s with heap := s.heap.push { cls := .type "range", data := .fields #[.int lo t, .int hi u, .int 1 v] }, toks := tk } := by
 refine wpAny_pyIter_range (IsRange.new ..) (small_one h1 h2 h3 h4) ?_
 have I1 : Inv X pins σ H { s with heap := s.heap.push { cls := .type "range", data := .fields #[.int lo t, .int hi u, .int 1 v] }, toks := tk } := I.kept fun b o e => Heap.get?_push_of_some _ e
 refine ⟨(s.heap.push { cls := .type "range", data := .fields #[.int lo t, .int hi u, .int 1 v] }).objs.size, [(s.heap.push { cls := .type "range", data := .fields #[.int lo t, .int hi u, .int 1 v] }).objs.size], _, _, H, rfl,
  I1.kept (t' := tk) fun b o e => Heap.get?_push_of_some _ e, turn_range _ lo (hi - lo).toNat, ?_, fun b hb => ?_, q⟩
 ·have e1 : lo + ((0 : Nat) : Int) * 1 = lo := by simp
  have e2 : (((hi - lo).toNat : Nat) : Int) - ((0 : Nat) : Int) = Builtin.Range.rangeSize lo hi 1 := by rw [rangeSize_one]; split <;> lia
  show IsRangeIter _ _ (lo + ((0 : Nat) : Int) * 1) ((((hi - lo).toNat : Nat) : Int) - ((0 : Nat) : Int)) 1
  rw [e1, e2]
  exact Heap.get?_push_size _ rfl
 ·have e : b = (s.heap.push { cls := .type "range", data := .fields #[.int lo t, .int hi u, .int 1 v] }).objs.size := by simpa using hb
  subst e
  exact I1.fpOk (Nat.le_refl _) (I1.hok.fresh (Nat.le_refl _))
noncomputable def iRng1 (ta : TA) : TI := fun σ H R => ta σ H fun vs H1 => ∃ j : Int, vs = [.int j] /\ -(2 ^ 62) <= j /\ j < 2 ^ 62 /\ R (Itr 0 j.toNat) H1
noncomputable def iRng2 (ta : TA) : TI := fun σ H R => ta σ H fun vs H1 => ∃ i j : Int, vs = [.int i, .int j] /\ (-(2 ^ 62) <= i /\ i < 2 ^ 62 /\ -(2 ^ 62) <= j /\ j < 2 ^ 62) /\ R (Itr i (j - i).toNat) H1
theorem pi_range1 {a : Expr} {ta : TA} {p pos : Pos} (hg : Gl X "range") (hm : X.mg "range" = none) (ha : PA X [a] ta) (hs : starEach [a] X.env = [(false, eval a X.env)] := by rfl) : PI X tg (.Call (.Name "range" p) [a] [] pos) (iRng1 ta) := by
 intro pins s σ H R I h
 refine Call_ (ZcS I hg hm boot_range (PyProof.Rows.callWith_type1 (thn (ha pos pins s σ H _ I h) fun us s1 ⟨vs, H1, I1, r1, q1⟩ => ?_) hs rfl))
 obtain ⟨j, e, q1, q2, q⟩ := q1
 subst e
 cases r1 with
 | cons r rr =>
  cases rr
  obtain ⟨t, rfl⟩ := r
  exact call_range_1 (range_it I1 (by lia) (by lia) q1 q2 (by simpa using q))
theorem pi_range2 {a b : Expr} {ta : TA} {p pos : Pos} (hg : Gl X "range") (hm : X.mg "range" = none) (ha : PA X [a, b] ta) (hs : starEach [a, b] X.env = [(false, eval a X.env), (false, eval b X.env)] := by rfl) (hs2 : starEach [b] X.env = [(false, eval b X.env)] := by rfl) :
  PI X tg (.Call (.Name "range" p) [a, b] [] pos) (iRng2 ta) := by
 intro pins s σ H R I h
 refine Call_ (ZcS I hg hm boot_range (PyProof.Rows.callWith_type1 (thn (ha pos pins s σ H _ I h) fun us s1 ⟨vs, H1, I1, r1, q1⟩ => ?_) (by rw [hs, hs2]) (by rw [hs2]; rfl)))
 obtain ⟨i, j, e, ⟨q1, q2, q3, q4⟩, q⟩ := q1
 subst e
 cases r1 with
 | cons r rr =>
  cases rr with
  | cons r' rr =>
   cases rr
   obtain ⟨t, rfl⟩ := r
   obtain ⟨t', rfl⟩ := r'
   exact call_range_2 (range_it I1 q1 q2 q3 q4 q)
noncomputable def tFor (wi : TI) (g : TG) (tb : TS) : TS := fun D σ H => wi σ H fun J H1 => ∃ W : Nat -> Nat -> St -> Hp -> Prop, (∃ m, W 0 m σ H1) /\ ∀ i m σ H, W i m σ H ->
 (J.stop i H /\ D.nx σ H) \/ (J.go i H /\ ∃ N : St -> Hp -> Prop, (∀ σ' H', N σ' H' -> ∃ m', m' < m /\ W (i + 1) m' σ' H') /\ ∀ x H', J.yld i H x H' -> g x σ H' fun σ2 H2 => tb { D with nx := N, ct := N, bk := D.nx } σ2 H2)
noncomputable def pinsAt (fp : List Addr) (h : Heap) : List (Addr × Obj) := fp.filterMap fun b => (h.get? b).map fun o => (b, o)
theorem ZbA {fp : List Addr} {h : Heap} {b : Addr} {o : Obj} (hb : b ∈ fp) (e : h.get? b = some o) : (b, o) ∈ pinsAt fp h := List.mem_filterMap.mpr ⟨b, hb, by rw [e]; rfl⟩
theorem of_pinsAt {fp : List Addr} {h : Heap} {p : Addr × Obj} (hp : p ∈ pinsAt fp h) : p.1 ∈ fp /\ h.get? p.1 = some p.2 := by
 obtain ⟨b, hb, e⟩ := List.mem_filterMap.mp hp
 cases q : h.get? b with
 | none => rw [q] at e; cases e
 | some o =>
  rw [q] at e
  have e' : (b, o) = p := Option.some.inj e
  subst e'
  exact ⟨hb, q⟩
theorem Inv.pinned {pins : List (Addr × Obj)} {σ : St} {H : Hp} {s : Shared} {fp : List Addr} (I : Inv X pins σ H s) (hf : ∀ b ∈ fp, FpOk X pins H b) (ho : ∀ b ∈ fp, ∃ o, s.heap.get? b = some o /\ ∀ v, o.data ≠ .cell v) : Inv X (pins ++ pinsAt fp s.heap) σ H s :=
 I.pins_of fun p hp => (List.mem_append.mp hp).elim (fun z => I.pin p (List.mem_append_right _ z)) fun z => by
  obtain ⟨hb, e⟩ := of_pinsAt z
  obtain ⟨f0, f1, f2, _⟩ := hf p.1 hb
  obtain ⟨o, e', d⟩ := ho p.1 hb
  rw [e] at e'; cases e'
  exact ⟨e, f0, f1, f2, d⟩
theorem Inv.unpinned {pins pl : List (Addr × Obj)} {σ : St} {H : Hp} {s : Shared} (I : Inv X (pins ++ pl) σ H s) : Inv X pins σ H s := I.pins_of fun p hp => I.pin p (List.mem_append_right _ (List.mem_append_left _ hp))
theorem ps_for {iter : Expr} {body : List Stmt} {wi : TI} {g : TG} {tb : TS} {pos : Pos} (hp : PassesOwn (model X.prog X.w) X.A X.env X.xe) (hc : X.calm = true) (hi : PI X tg iter wi) (hg : PG X tg g) (hb : PSs X body tb)
  (hs : ∀ x, foldedSetIterable iter X.env x = pure x := by intro _; rfl) : PS X (.For tg iter body [] pos) (tFor wi g tb) := by
 intro pins s σ H D I h
 refine wpAny_For (thn (hi pins s σ H _ I h) fun v s1 h1 => thn h1 fun itv s2 h2 => ?_) hs
 obtain ⟨it, fp, tn, J, H2, e, I2, T, st2, f2, W, ⟨m0, w0⟩, turn⟩ := h2
 subst e
 have stat : ∀ {H' : Hp}, (∀ b ∈ fp, H' b = none) -> ∀ b ∈ fp, FpOk X pins H' b := fun hn b hb => ⟨hn b hb, (f2 b hb).2⟩
 refine codeAny_forLoop_any (fun n s' => ∃ i σ' H', Inv X pins σ' H' s' /\ tn i s'.heap /\ (∀ b ∈ fp, H' b = none) /\ W i n σ' H') ?_ m0 ⟨0, σ, H2, I2, st2, fun b hb => (f2 b hb).1, w0⟩
 rintro n s3 ⟨i, σ3, H3, I3, st3, fr3, w3⟩
 rcases turn i n σ3 H3 w3 with ⟨stop, qn⟩ | ⟨go, N, hN, step⟩
 ·refine wpAny_passesOwn hp (thn (T.done X rfl rfl rfl hc i pins s3 σ3 H3 X.xe I3 (stat fr3) st3 stop) fun r s4 h_ => ?_)
  obtain ⟨hr, I4⟩ := h_
  subst hr
  exact wpAny_execs_nil ⟨σ3, H3, I4, qn⟩
 ·refine wpAny_passesOwn hp (thn (T.item X rfl rfl rfl hc i pins s3 σ3 H3 X.xe I3 (stat fr3) st3 go) fun r s4 h_ => ?_)
  obtain ⟨u, hr, h4⟩ := h_
  subst hr
  refine wpAny_passesOwn hp (thn h4 fun _ s5 h_ => ?_)
  obtain ⟨x, H5, I5, r5, y5, st5, fr5⟩ := h_
  have I5' := I5.pinned (stat fr5) (T.obj _ _ st5)
  refine wpAny_passesOwn hp (thn (hg _ s5 σ3 H5 x u _ I5' r5 (step x H5 y5)) fun _ s6 h_ => ?_)
  obtain ⟨σ6, H6, I6, q6⟩ := h_
  refine wpAny_passesOwn hp (thn (hb _ s6 σ6 H6 _ I6 q6) fun f s7 q7 => ?_)
  have again : ∀ {σ7 : St} {H7 : Hp}, Inv X (pins ++ pinsAt fp s5.heap) σ7 H7 s7 -> N σ7 H7 -> ∃ m, m < n /\ ∃ i σ' H', Inv X pins σ' H' s7 /\ tn i s7.heap /\ (∀ b ∈ fp, H' b = none) /\ W i m σ' H' := fun {σ7 H7} I7 n7 => by
   obtain ⟨m', hm, w7⟩ := hN σ7 H7 n7
   refine ⟨m', hm, i + 1, σ7, H7, I7.unpinned, T.keep _ _ _ st5 fun b hb o e => (I7.pin (b, o) (List.mem_append_right _ (List.mem_append_right _ (ZbA hb e)))).1, fun b hb => ?_, w7⟩
   obtain ⟨o, e, d⟩ := T.obj _ _ st5 b hb
   exact (I7.pin (b, o) (List.mem_append_right _ (List.mem_append_right _ (ZbA hb e)))).2.1
  cases f with
  | next => obtain ⟨σ7, H7, I7, n7⟩ := q7; exact again I7 n7
  | cont => obtain ⟨σ7, H7, I7, n7⟩ := q7; exact again I7 n7
  | brk => obtain ⟨σ7, H7, I7, q7⟩ := q7; exact ⟨σ7, H7, I7.unpinned, q7⟩
  | ret v => obtain ⟨x7, σ7, H7, I7, r7, q7⟩ := q7; exact ⟨x7, σ7, H7, I7.unpinned, r7, q7⟩
end
noncomputable abbrev R2 := V -> V -> Hp -> VK -> Prop
noncomputable def OpR (X : Cx) (f : Value -> Value -> Sem Value) (r : R2) : Prop :=
 ∀ (pins : List (Addr × Obj)) (s : Shared) (σ : St) (H : Hp) (x y : V) (v u : Value) (Q : VK), Inv X pins σ H s -> RelV x v -> RelV y u -> r x y H Q ->
  wpAny (model X.prog X.w) X.A (f v u) (EP X pins σ Q) X.xe s
noncomputable def UnR (X : Cx) (f : Value -> Sem Value) (r : V -> Hp -> VK -> Prop) : Prop :=
 ∀ (pins : List (Addr × Obj)) (s : Shared) (σ : St) (H : Hp) (x : V) (v : Value) (Q : VK), Inv X pins σ H s -> RelV x v -> r x H Q ->
  wpAny (model X.prog X.w) X.A (f v) (EP X pins σ Q) X.xe s
noncomputable def CallR (X : Cx) (f : Value) (r : List V -> Hp -> VK -> Prop) : Prop :=
 ∀ (pins : List (Addr × Obj)) (s : Shared) (σ : St) (H : Hp) (xs : List V) (us : List Value) (Q : VK), Inv X pins σ H s -> Vals xs us -> r xs H Q ->
  wpAny (model X.prog X.w) X.A (call f us) (EP X pins σ Q) X.xe s
noncomputable def TruR (X : Cx) (r : V -> Hp -> (Bool -> Hp -> Prop) -> Prop) : Prop :=
 ∀ (pins : List (Addr × Obj)) (s : Shared) (σ : St) (H : Hp) (x : V) (v : Value) (Q : Bool -> Hp -> Prop), Inv X pins σ H s -> RelV x v -> r x H Q ->
  wpAny (model X.prog X.w) X.A (truthy v) (TP X pins σ Q) X.xe s
noncomputable def tOp (r : R2) (ta tb : TE) : TE := fun σ H Q => ta σ H fun x H1 => tb σ H1 fun y H2 => r x y H2 Q
noncomputable def tUn (r : V -> Hp -> VK -> Prop) (ta : TE) : TE := fun σ H Q => ta σ H fun x H1 => r x H1 Q
noncomputable def rI (C : Int -> Int -> Prop) (g : Int -> Int -> V) : R2 := fun x y H Q => ∃ i j, x = .int i /\ y = .int j /\ C i j /\ Q (g i j) H
noncomputable def rI0 (g : Int -> Int -> V) : R2 := fun x y H Q => ∃ i j, x = .int i /\ y = .int j /\ Q (g i j) H
noncomputable def rU (g : Int -> V) : V -> Hp -> VK -> Prop := fun x H Q => ∃ i, x = .int i /\ Q (g i) H
section
variable {X : Cx} {a b c : Expr} {ta tb tc : TE} {pos : Pos}
theorem binT (ha : PE X a ta) (hb : PE X b tb) {pins : List (Addr × Obj)} {s : Shared} {σ : St} {H : Hp} {R : V -> V -> Hp -> Prop} (I : Inv X pins σ H s)
  (h : ta σ H fun x H1 => tb σ H1 fun y H2 => R x y H2) {Q : Value -> Shared -> Prop} {f : Value -> Value -> Sem Value}
  (hf : ∀ v u s2 x y H2, Inv X pins σ H2 s2 -> RelV x v -> RelV y u -> R x y H2 -> wpAny (model X.prog X.w) X.A (f v u) Q X.xe s2) :
  wpAny (model X.prog X.w) X.A (eval a X.env) (fun v s₁ => wpAny (model X.prog X.w) X.A (eval b X.env) (fun u s₂ => wpAny (model X.prog X.w) X.A (f v u) Q X.xe s₂) X.xe s₁) X.xe s := by
 refine thn (ha pins s σ H _ I h) fun v s1 h_ => ?_
 obtain ⟨x, H1, I1, r1, q1⟩ := h_
 refine thn (hb pins s1 σ H1 _ I1 q1) fun u s2 h_ => ?_
 obtain ⟨y, H2, I2, r2, q2⟩ := h_
 exact hf v u s2 x y H2 I2 r1 r2 q2
theorem pe_op {op : Operator} {r : R2} (ho : OpR X (binaryOp op) r) (ha : PE X a ta) (hb : PE X b tb) : PE X (.BinOp a op b pos) (tOp r ta tb) := by
 intro pins s σ H Q I h
 exact wpAny_BinOp (binT ha hb I h fun v u s2 x y H2 I2 rx ry q => ho pins s2 σ H2 x y v u Q I2 rx ry q)
theorem pe_un {op : UnaryOp} {r : V -> Hp -> VK -> Prop} (ho : UnR X (unaryOp op) r) (ha : PE X a ta) : PE X (.UnaryOp op a pos) (tUn r ta) := by
 intro pins s σ H Q I h
 exact UnaryOp_ (thn (ha pins s σ H _ I h) fun v s1 ⟨x, H1, I1, r1, q1⟩ => ho pins s1 σ H1 x v Q I1 r1 q1)
theorem opI {f : Value -> Value -> Sem Value} {C : Int -> Int -> Prop} {g : Int -> Int -> Int}
  (rule : ∀ (i j : Int) (t u : Tok) (s : Shared) (Q : Value -> Shared -> Prop) (E : Value -> Shared -> Prop), C i j -> Q (.int (g i j) s.toks) { s with toks := s.toks + 1 } -> wpAny (model X.prog X.w) X.A (f (.int i t) (.int j u)) Q E s) :
  OpR X f (rI C fun i j => .int (g i j)) := by
 intro pins s σ H x y v u Q I rx ry h
 obtain ⟨i, j, rfl, rfl, hc, q⟩ := h
 obtain ⟨t, rfl⟩ := rx
 obtain ⟨t', rfl⟩ := ry
 exact rule i j t t' s _ _ hc ⟨.int (g i j), H, I.tok _, ⟨_, rfl⟩, q⟩
theorem opI0 {f : Value -> Value -> Sem Value} {g : Int -> Int -> Int}
  (rule : ∀ (i j : Int) (t u : Tok) (s : Shared) (Q : Value -> Shared -> Prop) (E : Value -> Shared -> Prop), Q (.int (g i j) s.toks) { s with toks := s.toks + 1 } -> wpAny (model X.prog X.w) X.A (f (.int i t) (.int j u)) Q E s) :
  OpR X f (rI0 fun i j => .int (g i j)) := by
 intro pins s σ H x y v u Q I rx ry h
 obtain ⟨i, j, rfl, rfl, q⟩ := h
 obtain ⟨t, rfl⟩ := rx
 obtain ⟨t', rfl⟩ := ry
 exact rule i j t t' s _ _ ⟨.int (g i j), H, I.tok _, ⟨_, rfl⟩, q⟩
theorem opB0 {f : Value -> Value -> Sem Value} {g : Int -> Int -> Bool}
  (rule : ∀ (i j : Int) (t u : Tok) (s : Shared) (Q : Value -> Shared -> Prop) (E : Value -> Shared -> Prop), Q (.bool (g i j)) s -> wpAny (model X.prog X.w) X.A (f (.int i t) (.int j u)) Q E s) :
  OpR X f (rI0 fun i j => .bl (g i j)) := by
 intro pins s σ H x y v u Q I rx ry h
 obtain ⟨i, j, rfl, rfl, q⟩ := h
 obtain ⟨t, rfl⟩ := rx
 obtain ⟨t', rfl⟩ := ry
 exact rule i j t t' s _ _ ⟨.bl (g i j), H, I, rfl, q⟩
noncomputable def CDiv (i j : Int) : Prop := 0 < j /\ j < 1073741824
noncomputable def CPow (i j : Int) : Prop := 0 <= j /\ j <= 1000000 /\ i.natAbs < 2 ^ 64
noncomputable def CMul (i j : Int) : Prop := (-(2 ^ 64) < i /\ i < 2 ^ 64) \/ (-(2 ^ 64) < j /\ j < 2 ^ 64)
theorem CMul.ok {i j : Int} (h : CMul i j) : IntMulOk i j := by
 rcases h with ⟨h1, h2⟩ | ⟨h1, h2⟩
 ·exact .of_left (intBits_le_64 h1 h2)
 ·exact .of_right (intBits_le_64 h1 h2)
theorem op_add : OpR X (binaryOp .Add) (rI0 fun i j => .int (i + j)) := opI0 fun _ _ _ _ _ _ _ q => add_int q
theorem op_sub : OpR X (binaryOp .Sub) (rI0 fun i j => .int (i - j)) := opI0 fun _ _ _ _ _ _ _ q => sub_int q
theorem op_mul : OpR X (binaryOp .Mult) (rI CMul fun i j => .int (i * j)) := opI fun _ _ _ _ _ _ _ hc q => mul_int q hc.ok
theorem op_fdiv : OpR X (binaryOp .FloorDiv) (rI CDiv fun i j => .int (i / j)) := opI fun i j _ _ _ _ _ hc q => by
 have h1 : (0 : Int) < j := hc.1
 have h2 : j < 1073741824 := hc.2
 exact floordiv_int (by lia) (by rw [Int.fdiv_eq_ediv_of_nonneg i (by lia)]; exact q) (.inl (PyProof.noPylong_small (by lia)))
theorem op_mod : OpR X (binaryOp .Mod) (rI (fun _ j => 0 < j) fun i j => .int (i % j)) := opI fun i j _ _ _ _ _ hc q => by
 have h1 : (0 : Int) < j := hc
 exact mod_int' (by lia) (by rw [Int.fmod_eq_emod_of_nonneg i (by lia)]; exact q)
theorem op_pow : OpR X (binaryOp .Pow) (rI CPow fun i j => .int (i ^ j.toNat)) := opI fun _ _ _ _ _ _ _ hc q => pow_int_small hc.1 hc.2.1 hc.2.2 q
theorem unI {f : Value -> Sem Value} {g : Int -> Int}
  (rule : ∀ (i : Int) (t : Tok) (s : Shared) (Q : Value -> Shared -> Prop) (E : Value -> Shared -> Prop), Q (.int (g i) s.toks) { s with toks := s.toks + 1 } -> wpAny (model X.prog X.w) X.A (f (.int i t)) Q E s) :
  UnR X f (rU fun i => .int (g i)) := by
 intro pins s σ H x v Q I rx h
 obtain ⟨i, rfl, q⟩ := h
 obtain ⟨t, rfl⟩ := rx
 exact rule i t s _ _ ⟨.int (g i), H, I.tok _, ⟨_, rfl⟩, q⟩
theorem un_neg : UnR X (unaryOp .USub) (rU fun i => .int (-i)) := unI fun _ _ _ _ _ q => neg_int q
end
noncomputable def scal : V -> V -> Bool
 | .non, .non => true | .non, .int _ => true | .int _, .non => true | .non, .bl _ => true | .bl _, .non => true | .non, .str _ => true | .str _, .non => true
 | .int _, .int _ => true | .bl _, .bl _ => true | .str _, .str _ => true | .byt _, .byt _ => true
 | .int _, .str _ => true | .str _, .int _ => true | .bl _, .str _ => true | .str _, .bl _ => true
 | _, _ => false
noncomputable def rEq : R2 := fun x y H Q => scal x y = true /\ Q (.bl (decide (x = y))) H
noncomputable def rNe : R2 := fun x y H Q => scal x y = true /\ Q (.bl (!decide (x = y))) H
theorem dec_int {i j : Int} : decide (V.int i = V.int j) = (i == j) := by
 rw [Bool.eq_iff_iff]
 simp
theorem dec_bl {i j : Bool} : decide (V.bl i = V.bl j) = (i == j) := by
 rw [Bool.eq_iff_iff]
 simp
theorem dec_str {i j : Str} : decide (V.str i = V.str j) = (i == j) := by
 rw [Bool.eq_iff_iff]
 simp
theorem dec_byt {i j : Array UInt8} : decide (V.byt i = V.byt j) = (i.toList == j.toList) := by
 rw [Bool.eq_iff_iff]
 cases i
 cases j
 simp
section
variable {X : Cx} {a b c : Expr} {ta tb tc : TE} {pos : Pos}
theorem ZaC {pins : List (Addr × Obj)} {σ : St} {H : Hp} {s : Shared} {Q : VK} {k k' : Bool} (I : Inv X pins σ H s) (q : Q (.bl k) H) (e : k = k') : EP X pins σ Q (.bool k') s := by
 subst e
 exact ⟨.bl k, H, I, rfl, q⟩
theorem ZbD : OpR X (compareOp .Eq) rEq := by
 intro pins s σ H x y v u Q I rx ry h
 obtain ⟨hs, q⟩ := h
 cases x with
 | non =>
  cases rx
  cases y with
  | non => cases ry; exact PySem.EqNone.eq_none_none (ZaC I q (by simp))
  | bl j => cases ry; exact PySem.EqNone.eq_none_bool (ZaC I q (by simp))
  | int j => obtain ⟨t', rfl⟩ := ry; exact PySem.EqNone.eq_none_int (ZaC I q (by simp))
  | str j => obtain ⟨t', rfl⟩ := ry; exact PySem.EqNone.eq_none_str (ZaC I q (by simp))
  | _ => exact absurd (show false = true from hs) Bool.false_ne_true
 | bl i =>
  cases rx
  cases y with
  | non => cases ry; exact PySem.EqNone.eq_bool_none (ZaC I q (by simp))
  | bl j => cases ry; exact eq_bool (ZaC I q dec_bl)
  | str j => obtain ⟨t', rfl⟩ := ry; exact PySem.EqMixed.eq_bool_str (ZaC I q (by simp))
  | _ => exact absurd (show false = true from hs) Bool.false_ne_true
 | int i =>
  obtain ⟨t, rfl⟩ := rx
  cases y with
  | non => cases ry; exact PySem.EqNone.eq_int_none (ZaC I q (by simp))
  | int j => obtain ⟨t', rfl⟩ := ry; exact eq_int (ZaC I q dec_int)
  | str j => obtain ⟨t', rfl⟩ := ry; exact PySem.EqMixed.eq_int_str (ZaC I q (by simp))
  | _ => exact absurd (show false = true from hs) Bool.false_ne_true
 | str i =>
  obtain ⟨t, rfl⟩ := rx
  cases y with
  | non => cases ry; exact PySem.EqNone.eq_str_none (ZaC I q (by simp))
  | bl j => cases ry; exact PySem.EqMixed.eq_str_bool (ZaC I q (by simp))
  | int j => obtain ⟨t', rfl⟩ := ry; exact PySem.EqMixed.eq_str_int (ZaC I q (by simp))
  | str j => obtain ⟨t', rfl⟩ := ry; exact eq_str (ZaC I q dec_str)
  | _ => exact absurd (show false = true from hs) Bool.false_ne_true
 | byt i =>
  obtain ⟨t, rfl⟩ := rx
  cases y with
  | byt j => obtain ⟨t', rfl⟩ := ry; exact W.eq_bytes (ZaC I q dec_byt)
  | _ => exact absurd (show false = true from hs) Bool.false_ne_true
 | _ => cases y <;> exact absurd (show false = true from hs) Bool.false_ne_true
theorem op_ne : OpR X (compareOp .NotEq) rNe := by
 intro pins s σ H x y v u Q I rx ry h
 obtain ⟨hs, q⟩ := h
 cases x with
 | non =>
  cases rx
  cases y with
  | non => cases ry; exact PySem.EqNone.ne_none_none (ZaC I q (by simp))
  | bl j => cases ry; exact PySem.EqNone.ne_none_bool (ZaC I q (by simp))
  | int j => obtain ⟨t', rfl⟩ := ry; exact PySem.EqNone.ne_none_int (ZaC I q (by simp))
  | str j => obtain ⟨t', rfl⟩ := ry; exact PySem.EqNone.ne_none_str (ZaC I q (by simp))
  | _ => exact absurd (show false = true from hs) Bool.false_ne_true
 | bl i =>
  cases rx
  cases y with
  | non => cases ry; exact PySem.EqNone.ne_bool_none (ZaC I q (by simp))
  | bl j => cases ry; exact ne_bool (ZaC I q (congrArg not dec_bl))
  | str j => obtain ⟨t', rfl⟩ := ry; exact PySem.EqMixed.ne_bool_str (ZaC I q (by simp))
  | _ => exact absurd (show false = true from hs) Bool.false_ne_true
 | int i =>
  obtain ⟨t, rfl⟩ := rx
  cases y with
  | non => cases ry; exact PySem.EqNone.ne_int_none (ZaC I q (by simp))
  | int j => obtain ⟨t', rfl⟩ := ry; exact ne_int (ZaC I q (congrArg not dec_int))
  | str j => obtain ⟨t', rfl⟩ := ry; exact PySem.EqMixed.ne_int_str (ZaC I q (by simp))
  | _ => exact absurd (show false = true from hs) Bool.false_ne_true
 | str i =>
  obtain ⟨t, rfl⟩ := rx
  cases y with
  | non => cases ry; exact PySem.EqNone.ne_str_none (ZaC I q (by simp))
  | bl j => cases ry; exact PySem.EqMixed.ne_str_bool (ZaC I q (by simp))
  | int j => obtain ⟨t', rfl⟩ := ry; exact PySem.EqMixed.ne_str_int (ZaC I q (by simp))
  | str j => obtain ⟨t', rfl⟩ := ry; exact ne_str (ZaC I q (congrArg not dec_str))
  | _ => exact absurd (show false = true from hs) Bool.false_ne_true
 | byt i =>
  obtain ⟨t, rfl⟩ := rx
  cases y with
  | byt j => obtain ⟨t', rfl⟩ := ry; exact W.ne_bytes (ZaC I q (congrArg not dec_byt))
  | _ => exact absurd (show false = true from hs) Bool.false_ne_true
 | _ => cases y <;> exact absurd (show false = true from hs) Bool.false_ne_true
theorem op_lt : OpR X (compareOp .Lt) (rI0 fun i j => .bl (decide (i < j))) := opB0 fun _ _ _ _ _ _ _ q => lt_int q
theorem op_le : OpR X (compareOp .LtE) (rI0 fun i j => .bl (decide (i <= j))) := opB0 fun _ _ _ _ _ _ _ q => le_int q
theorem op_gt : OpR X (compareOp .Gt) (rI0 fun i j => .bl (decide (j < i))) := opB0 fun _ _ _ _ _ _ _ q => gt_int q
theorem op_ge : OpR X (compareOp .GtE) (rI0 fun i j => .bl (decide (j <= i))) := opB0 fun _ _ _ _ _ _ _ q => ge_int q
theorem op_in_str : OpR X (compareOp .In) (fun x y H Q => ∃ i j, x = .str i /\ y = .str j /\ Q (.bl (!(Builtin.Str.occurrences j i 0 j.length 1).isEmpty)) H) := by
 intro pins s σ H x y v u Q I rx ry h
 obtain ⟨i, j, rfl, rfl, q⟩ := h
 obtain ⟨t, rfl⟩ := rx
 obtain ⟨t', rfl⟩ := ry
 exact in_str (ZaC I q rfl)
theorem op_isN : OpR X (compareOp .Is) (fun x y H Q => y = .non /\ Q (.bl (decide (x = .non))) H) := by
  intro pins s σ H x y v u Q I rx ry h
  obtain ⟨rfl, q⟩ := h
  cases ry
  refine is_none_gen (ZaC I q ?_)
  cases x <;> first
    | (cases rx; rfl)
    | (obtain ⟨t, rfl⟩ := rx; rfl)
theorem nomark (b : Expr) {op : CmpOp} (h : op ≠ .In := by decide) (h2 : op ≠ .NotIn := by decide) : behindInMarks op b = false := by
 have e1 : (op == CmpOp.In) = false := by cases op <;> first | rfl | exact absurd rfl h
 have e2 : (op == CmpOp.NotIn) = false := by cases op <;> first | rfl | exact absurd rfl h2
 cases b <;> simp [behindInMarks, e1, e2]
theorem pe_cmpR {op : CmpOp} {r : R2} (ho : OpR X (compareOp op) r) (ha : PE X a ta) (hb : PE X b tb) (hm : behindInMarks op b = false) : PE X (.Compare a [op] [b] pos) (tOp r ta tb) := by
 intro pins s σ H Q I h
 exact wpAny_Compare1 (binT ha hb I h fun v u s2 x y H2 I2 rx ry q => ho pins s2 σ H2 x y v u Q I2 rx ry q) hm
noncomputable def tTest (t : TE) : TT := fun σ H Q => t σ H fun x H' => ∃ k, x = .bl k /\ Q k H'
theorem pt_cmpR {op : CmpOp} {r : R2} (ho : OpR X (compareOp op) r) (ha : PE X a ta) (hb : PE X b tb) (hm : behindInMarks op b = false) : PT X (.Compare a [op] [b] pos) (tTest (tOp r ta tb)) := by
 intro pins s σ H Q I h
 refine wpAny_isTrue_Compare1 (thn (ha pins s σ H _ I h) fun v s1 ⟨x, H1, I1, r1, q1⟩ => thn (hb pins s1 σ H1 _ I1 q1) fun u s2 ⟨y, H2, I2, r2, q2⟩ =>
  thn (ho pins s2 σ H2 x y v u _ I2 r1 r2 q2) fun c s3 ⟨z, H3, I3, r3, k, e, q3⟩ => ?_) hm
 subst e
 cases r3
 exact wpAny_truthy_bool ⟨H3, I3, q3⟩
noncomputable def tChain (r r' : R2) (ta tb tc : TE) : TE := fun σ H Q => ta σ H fun x H1 => tb σ H1 fun y H2 => r x y H2 fun z H3 => ∃ k, z = .bl k /\
 (if k = true then tc σ H3 fun w' H4 => r' y w' H4 Q else Q (.bl false) H3)
theorem pe_chain {op op' : CmpOp} {r r' : R2} (ho : OpR X (compareOp op) r) (ho' : OpR X (compareOp op') r') (ha : PE X a ta) (hb : PE X b tb) (hc : PE X c tc)
  (hm : lastMarks [op, op'] [b, c] = false := by with_unfolding_all rfl) : PE X (.Compare a [op, op'] [b, c] pos) (tChain r r' ta tb tc) := by
 intro pins s σ H Q I h
 refine Compare_chain (thn (ha pins s σ H _ I h) fun v s1 ⟨x, H1, I1, r1, q1⟩ => chain_link (thn (hb pins s1 σ H1 _ I1 q1) fun u s2 ⟨y, H2, I2, r2, q2⟩ =>
  thn (ho pins s2 σ H2 x y v u _ I2 r1 r2 q2) fun d s3 ⟨z, H3, I3, r3, k, e, q3⟩ => ?_)) hm
 subst e
 cases r3
 refine wpAny_truthy_bool ?_
 cases k with
 | false => exact ite_ff ⟨.bl false, H3, I3, rfl, q3⟩
 | true => exact ite_tt (chain_last (thn (hc pins s3 σ H3 _ I3 q3) fun w' s4 ⟨z', H4, I4, r4, q4⟩ => ho' pins s4 σ H4 y z' u w' Q I4 r2 r4 q4))
theorem pt_chain {op op' : CmpOp} {r r' : R2} (ho : OpR X (compareOp op) r) (ho' : OpR X (compareOp op') r') (ha : PE X a ta) (hb : PE X b tb) (hc : PE X c tc)
  (hm : lastMarks [op, op'] [b, c] = false := by with_unfolding_all rfl) : PT X (.Compare a [op, op'] [b, c] pos) (tTest (tChain r r' ta tb tc)) := by
 intro pins s σ H Q I h
 refine isTrue_chain (thn (ha pins s σ H _ I h) fun v s1 ⟨x, H1, I1, r1, q1⟩ => test_link (thn (hb pins s1 σ H1 _ I1 q1) fun u s2 ⟨y, H2, I2, r2, q2⟩ =>
  thn (ho pins s2 σ H2 x y v u _ I2 r1 r2 q2) fun d s3 ⟨z, H3, I3, r3, k, e, q3⟩ => ?_)) hm
 subst e
 cases r3
 refine wpAny_truthy_bool ?_
 cases k with
 | false =>
  obtain ⟨k', e', q'⟩ := q3
  cases e'
  exact ite_ff ⟨H3, I3, q'⟩
 | true =>
  refine ite_tt (test_last (thn (hc pins s3 σ H3 _ I3 q3) fun w' s4 ⟨z', H4, I4, r4, q4⟩ => thn (ho' pins s4 σ H4 y z' u w' _ I4 r2 r4 q4) fun d' s5 h_ => ?_))
  obtain ⟨z2, H5, I5, r5, k2, e2, q5⟩ := h_
  subst e2
  cases r5
  exact wpAny_truthy_bool ⟨H5, I5, q5⟩
noncomputable def TruV (K : W.Frag) (x : V) (H : Hp) (k : Bool) : Prop :=
 match x with
 | .non => k = false
 | .bl b => k = b
 | .int i => k = (i != 0)
 | .str y => y.length <= sizeLine /\ k = ((y.length : Int) != 0)
 | .byt y => y.size <= sizeLine /\ k = ((y.size : Int) != 0)
 | .ref p => (∃ xs, SqL K H p xs /\ k = !xs.isEmpty) \/ (∃ xs, SqT K H p xs /\ k = !xs.isEmpty) \/ ∃ kvs, H p = some (.dK kvs) /\ k = !kvs.isEmpty
 | _ => False
theorem isEmpty_kv {κ : Type} {kvs : List (κ × V)} {vs : List (κ × Value)} (r : KV kvs vs) : (!vs.isEmpty) = !kvs.isEmpty := by
 cases r <;> rfl
theorem ZcW {xs : List V} {its : List Value} (r : Vals xs its) : (!its.toArray.isEmpty) = !xs.isEmpty := by
 cases r <;> simp
theorem line63 : (sizeLine : Nat) < 2 ^ 63 := by rw [sizeLine_eq]; decide
theorem tru_ok : TruR X (fun x H Q => ∃ k, TruV X.K x H k /\ Q k H) := by
 intro pins s σ H x v Q I rx h
 obtain ⟨k, e, q⟩ := h
 have hl := line63
 have hs : sizeLine = 16777216 := sizeLine_eq
 cases x with
 | non =>
  cases rx
  have e' : k = false := e
  subst e'
  exact truthy_none ⟨H, I, q⟩
 | bl b =>
  cases rx
  have e' : k = b := e
  subst e'
  exact wpAny_truthy_bool ⟨H, I, q⟩
 | int i =>
  obtain ⟨t, rfl⟩ := rx
  have e' : k = (i != 0) := e
  subst e'
  exact PySem.P.truthy_int ⟨H, I, q⟩
 | str y =>
  obtain ⟨t, rfl⟩ := rx
  obtain ⟨hy, e'⟩ : y.length <= sizeLine /\ k = ((y.length : Int) != 0) := e
  subst e'
  exact PySem.P.truthy_str (by lia) ⟨H, I.tok _, q⟩
 | byt y =>
  obtain ⟨t, rfl⟩ := rx
  obtain ⟨hy, e'⟩ : y.size <= sizeLine /\ k = ((y.size : Int) != 0) := e
  subst e'
  exact W.truthy_bytes (by lia) ⟨H, I.tok _, q⟩
 | ref p =>
  cases rx
  have e' : (∃ xs, SqL X.K H p xs /\ k = !xs.isEmpty) \/ (∃ xs, SqT X.K H p xs /\ k = !xs.isEmpty) \/ ∃ kvs, H p = some (.dK kvs) /\ k = !kvs.isEmpty := e
  rcases e' with ⟨xs, hx, e'⟩ | ⟨xs, hx, e'⟩ | ⟨kvs, hx, e'⟩
  ·subst e'
   obtain ⟨its, r, pl, hz⟩ := I.list hx
   have hlen := r.length
   exact wpAny_truthy_list pl.isList (by simp only [List.size_toArray]; lia) ⟨H, I.tok _, by rw [ZcW r]; exact q⟩
  ·subst e'
   obtain ⟨its, r, pl, hz⟩ := I.tuple hx
   have hlen := r.length
   exact truthy_tuple pl (by simp only [List.size_toArray]; lia) ⟨H, I.tok _, by rw [ZcW r]; exact q⟩
  ·subst e'
   obtain ⟨hz, hS, vs, r, m⟩ : kvs.length <= sizeLine /\ (p == sysModules) = false /\ ∃ vs, KV kvs vs /\ s.heap.DictOf (mixKind X.prog X.w) p vs := I.hok p _ hx
   have hlen : kvs.length = vs.length := Paired.length r
   exact wpAny_truthy_dict hS m (by lia) ⟨H, I.tok _, by rw [isEmpty_kv r]; exact q⟩
 | _ => exact (show False from e).elim
theorem pt_truth (ha : PE X a ta) (he : ∀ whole, isTrue a X.env whole = (do let v ← whole; standAt a.pos; holding [v] (truthy v))) :
  PT X a (fun σ H Q => ta σ H fun x H' => ∃ k, TruV X.K x H' k /\ Q k H') := by
 intro pins s σ H Q I h
 exact isTrue_plain (thn (ha pins s σ H _ I h) fun v s1 ⟨x, H1, I1, r1, q1⟩ => tru_ok pins s1 σ H1 x v Q I1 r1 q1) (he _)
theorem op_add_str : OpR X (binaryOp .Add) (fun x y H Q => ∃ i j, x = .str i /\ y = .str j /\ i.length + j.length <= sizeLine /\ Q (.str (i ++ j)) H) := by
 intro pins s σ H x y v u Q I rx ry h
 obtain ⟨i, j, rfl, rfl, hz, q⟩ := h
 obtain ⟨t, rfl⟩ := rx
 obtain ⟨t', rfl⟩ := ry
 exact add_str (fun t' tk => ⟨.str (i ++ j), H, I.tok _, ⟨_, rfl⟩, q⟩) hz
theorem vals1 {x : V} {us : List Value} (r : Vals [x] us) : ∃ u, us = [u] /\ RelV x u := by
 cases r with
 | cons r1 r2 => cases r2; exact ⟨_, rfl, r1⟩
theorem vals2 {x y : V} {us : List Value} (r : Vals [x, y] us) : ∃ u w', us = [u, w'] /\ RelV x u /\ RelV y w' := by
 cases r with
 | cons r1 r2 =>
  cases r2 with
  | cons r3 r4 => cases r4; exact ⟨_, _, rfl, r1, r3⟩
theorem call_max2 (hc : X.calm = true) : CallR X (.builtin "max") (fun xs H Q => ∃ i j, xs = [.int i, .int j] /\ Q (.int (if j > i then j else i)) H) := by
 intro pins s σ H xs us Q I r h
 obtain ⟨i, j, rfl, q⟩ := h
 obtain ⟨u, w', rfl, ⟨t, rfl⟩, ⟨t', rfl⟩⟩ := vals2 r
 refine max_two_ints (I.ok.hd hc) fun h' tk k => ⟨_, H, I.kept k, ?_, q⟩
 by_cases hj : j > i
 ·rw [if_pos hj, if_pos hj]; exact ⟨_, rfl⟩
 ·rw [if_neg hj, if_neg hj]; exact ⟨_, rfl⟩
theorem call_int1 : CallR X (.type "int") (fun xs H Q => (∃ i, xs = [.int i] /\ Q (.int i) H) \/ ∃ k, xs = [.bl k] /\ Q (.int (if k then 1 else 0)) H) := by
 intro pins s σ H xs us Q I r h
 rcases h with ⟨i, rfl, q⟩ | ⟨k, rfl, q⟩
 ·obtain ⟨u, rfl, t, rfl⟩ := vals1 r
  exact call_int_int ⟨.int i, H, I, ⟨_, rfl⟩, q⟩
 ·obtain ⟨u, rfl, r1⟩ := vals1 r
  cases r1
  exact call_int_bool ⟨.int (if k then 1 else 0), H, I.tok _, ⟨_, rfl⟩, q⟩
noncomputable def LenV (K : W.Frag) (x : V) (H : Hp) (n : Nat) : Prop :=
 match x with
 | .str y => y.length <= sizeLine /\ n = y.length
 | .byt y => y.size <= sizeLine /\ n = y.size
 | .ref p => (∃ xs, SqL K H p xs /\ n = xs.length) \/ ∃ xs, SqT K H p xs /\ n = xs.length
 | _ => False
theorem call_len : CallR X (.builtin "len") (fun xs H Q => ∃ x n, xs = [x] /\ LenV X.K x H n /\ Q (.int n) H) := by
 intro pins s σ H xs us Q I r h
 obtain ⟨x, n, rfl, e, q⟩ := h
 obtain ⟨u, rfl, rx⟩ := vals1 r
 have hl := line63
 have hs : sizeLine = 16777216 := sizeLine_eq
 cases x with
 | str y =>
  obtain ⟨t, rfl⟩ := rx
  obtain ⟨hy, e'⟩ : y.length <= sizeLine /\ n = y.length := e
  subst e'
  exact len_str (by lia) ⟨.int _, H, I.tok _, ⟨_, rfl⟩, q⟩
 | byt y =>
  obtain ⟨t, rfl⟩ := rx
  obtain ⟨hy, e'⟩ : y.size <= sizeLine /\ n = y.size := e
  subst e'
  exact W.len_bytes (by lia) ⟨.int _, H, I.tok _, ⟨_, rfl⟩, q⟩
 | ref p =>
  cases rx
  have e' : (∃ xs, SqL X.K H p xs /\ n = xs.length) \/ ∃ xs, SqT X.K H p xs /\ n = xs.length := e
  rcases e' with ⟨xs, hx, e'⟩ | ⟨xs, hx, e'⟩
  ·subst e'
   obtain ⟨its, r', pl, hz⟩ := I.list hx
   have hlen := r'.length
   exact Calls.call_len_list pl.isList (by simp only [List.size_toArray]; lia) ⟨.int xs.length, H, I.tok _, ⟨_, by simp only [List.size_toArray]; rw [hlen]⟩, q⟩
  ·subst e'
   obtain ⟨its, r', pl, hz⟩ := I.tuple hx
   have hlen := r'.length
   exact len_tuple pl (by simp only [List.size_toArray]; lia) ⟨.int xs.length, H, I.tok _, ⟨_, by simp only [List.size_toArray]; rw [hlen]⟩, q⟩
 | _ => exact (show False from e).elim
end
structure ObjM (h : Heap) (x dx C : Addr) (mA : Str -> Option Value) : Prop where
 obj : h.get? x = some (W.instObj C dx)
 ns : h.Ns1 dx mA
 ne : dx ≠ x
theorem lookIn_ns {h : Heap} {dx : Addr} {mA : Str -> Option Value} (n : h.Ns1 dx mA) : ∃ od, h.get? dx = some od /\ ∀ name, W.lookIn name od = some (mA name) := by
 obtain ⟨o, es, ep, ho, hd, hk, _, hm⟩ := n
 refine ⟨o, ho, fun name => ?_⟩
 have e := hm name
 unfold nsFind findBy at e
 rw [← Array.find?_toList] at e
 unfold W.lookIn
 rw [hd]
 dsimp only
 split
 ·rename_i y q
  rw [q] at e
  exact congrArg some e
 ·rename_i q
  rw [q] at e
  have a : es.toList.any (·.refKey) = false := by
   rw [List.any_eq_false]
   intro y hy
   obtain ⟨z, t, hkey⟩ := hk y (Array.mem_toList_iff.mp hy)
   simp [DictEntry.refKey, hkey]
  have a' : ¬ es.toList.any (·.refKey) = true := by rw [a]; exact Bool.false_ne_true
  rw [if_neg a']
  exact congrArg some e
theorem ObjM.look {h : Heap} {x dx C : Addr} {mA : Str -> Option Value} (I : ObjM h x dx C mA) : ∃ od, W.InstAt h x (W.instObj C dx) C (some od) /\ ∀ name, W.lookIn name od = some (mA name) :=
 let ⟨od, ho, hl⟩ := lookIn_ns I.ns
 ⟨od, ⟨I.obj, rfl, rfl, ho⟩, hl⟩
theorem RelO.some_of {v : V} {o : Option Value} (r : RelO (some v) o) : ∃ u, o = some u /\ RelV v u := by
 cases o with
 | none => exact (show False from r).elim
 | some u => exact ⟨u, rfl, r⟩
section
variable {P : Program} {w : World} {H H' : Hp} {h h' : Heap} {a C dx : Addr} {fs fs' : List (Str × V)}
theorem ins_get (hok : HOk P w H h) (e : H a = some (.ins C dx fs)) : ∃ mA, ObjM h a dx C mA /\ (∀ f, RelO (fs.lookup f) (mA f)) /\ PySem.Within mA (fs.map (·.1)) /\ fs.length <= 1000 /\ H dx = some (.own a) := by
 obtain ⟨d, z, ne, ob, mA, n, r, q⟩ := (show ObjOk P w H h a (.ins C dx fs) from hok a _ e)
 exact ⟨mA, ⟨ob, n, ne⟩, r, q, z, d⟩
end
structure Cls (K : W.Frag) (C : Addr) : Prop where
 pg : W.plainGet K C Str.empty = true
 hd : W.hasDictIn K C = true
 po : W.plainOver K C = true
 sa : W.findIn K (.ref C) "__setattr__" = some (some (.builtin "object.__setattr__"))
theorem Cls.get {K : W.Frag} {C : Addr} (c : Cls K C) (f : Str) : W.plainGet K C f = true := c.pg
section
variable {X : Cx} {pins : List (Addr × Obj)} {σ : St} {H : Hp} {s : Shared} {A : Around} {E : Value -> Shared -> Prop} {Q : Value -> Shared -> Prop} {c : Value} {b : Bool}
inductive TyOf (K : W.Frag) (H : Hp) : V -> Value -> Prop where
 | non : TyOf K H .non (.type "NoneType")
 | bl (x : Bool) : TyOf K H (.bl x) (.type "bool")
 | int (i : Int) : TyOf K H (.int i) (.type "int")
 | str (x : Str) : TyOf K H (.str x) (.type "str")
 | flt (x : UInt64) : TyOf K H (.flt x) (.type "float")
 | lst {a : Addr} {xs : List V} (e : H a = some (.lst xs)) : TyOf K H (.ref a) (.type "list")
 | frz {a : Addr} {o : Obj} {xs : List V} (e : H a = some (.frz o (.lst xs))) : TyOf K H (.ref a) (.type "list")
 | tup {a : Addr} {xs : List V} (e : H a = some (.tup xs)) : TyOf K H (.ref a) (.type "tuple")
 | dK {a : Addr} {kvs : List (Key × V)} (e : H a = some (.dK kvs)) : TyOf K H (.ref a) (.type "dict")
 | dT {a : Addr} {kvs : List (List Key × V)} (e : H a = some (.dT kvs)) : TyOf K H (.ref a) (.type "dict")
 | ins {a C dx : Addr} {fs : List (Str × V)} (e : H a = some (.ins C dx fs)) (cl : Cls K C) (ha : W.findIn K (.ref C) "__class__" = some (some (.builtin "object.__class__")))
   (hn : W.specialIn K (.builtin "object.__class__") "__get__" = some (some (.builtin "getset_descriptor.__get__"))) (htk : W.takesIn K (.builtin "object.__class__") = some true)
   (hm : W.mroIn K C (.type "object") = some true) : TyOf K H (.ref a) (.ref C)
theorem Zbt {x : V} {u t : Value} (I : Inv X pins σ H s) (rx : RelV x u) (ty : TyOf X.K H x t) (e : W.kitOne X.K t c = some b) (h : ∀ tk, Q (.bool b) { s with toks := tk }) :
  wpAny (model X.prog X.w) A (call (.builtin "isinstance") [u, c]) Q E s := by
 cases ty with
 | non => cases (show u = Value.none from rx); exact W.kia_one W.kitx_none I.kIn True.intro e (fun z => nomatch z) h
 | bl y => cases (show u = Value.bool y from rx); exact W.kia_one W.kitx_bool I.kIn True.intro e (fun z => nomatch z) h
 | int i => obtain ⟨t, q⟩ := (show ∃ t, u = Value.int i t from rx); cases q; exact W.kia_one W.kitx_int I.kIn True.intro e (fun z => nomatch z) h
 | str y => obtain ⟨t, q⟩ := (show ∃ t, u = Value.str y t from rx); cases q; exact W.kia_one W.kitx_str I.kIn True.intro e (fun z => nomatch z) h
 | flt y => obtain ⟨t, q⟩ := (show ∃ t, u = Value.float y t from rx); cases q; exact W.kia_one W.kitx_float I.kIn True.intro e (fun z => nomatch z) h
 | @lst a xs ea =>
  cases (show u = Value.ref a from rx)
  obtain ⟨_, _, n, _, h1⟩ := (show ObjOk X.prog X.w H s.heap a (.lst xs) from I.hok a _ ea)
  exact W.kia_one W.kitx_list I.kIn ⟨_, h1, rfl⟩ e (fun z => nomatch z) h
 | @frz a ob xs ea =>
  cases (show u = Value.ref a from rx)
  obtain ⟨_, _, _, n, _, h1⟩ := (show ObjOk X.prog X.w H s.heap a (.frz ob (.lst xs)) from I.hok a _ ea)
  exact W.kia_one W.kitx_list I.kIn ⟨_, h1, rfl⟩ e (fun z => nomatch z) h
 | @tup a xs ea =>
  cases (show u = Value.ref a from rx)
  obtain ⟨_, _, _, p⟩ := (show ObjOk X.prog X.w H s.heap a (.tup xs) from I.hok a _ ea)
  obtain ⟨o, h1, h2, _⟩ := p
  exact W.kia_one W.kitx_tuple I.kIn ⟨o, h1, h2⟩ e (fun z => nomatch z) h
 | @dK a kvs ea =>
  cases (show u = Value.ref a from rx)
  obtain ⟨_, _, vs, _, p⟩ := (show ObjOk X.prog X.w H s.heap a (.dK kvs) from I.hok a _ ea)
  obtain ⟨o, es, ep, h1, h2, _⟩ := p
  exact W.kia_one W.kitx_dict I.kIn ⟨o, h1, h2.1⟩ e (fun z => nomatch z) h
 | @dT a kvs ea =>
  cases (show u = Value.ref a from rx)
  obtain ⟨_, _, xs, _, o, es, ep, h1, h2, _⟩ := (show ObjOk X.prog X.w H s.heap a (.dT kvs) from I.hok a _ ea)
  exact W.kia_one W.kitx_dict I.kIn ⟨o, h1, h2.1⟩ e (fun z => nomatch z) h
 | @ins a C dx fs ea cl ha hn htk hm =>
  cases (show u = Value.ref a from rx)
  obtain ⟨mA, O, _⟩ := ins_get I.hok ea
  obtain ⟨od, J, _⟩ := O.look
  exact W.kia_one (W.kitx_own (cl.get _) cl.hd ha hn htk hm) I.kIn J e (fun z => nomatch z) h
end
structure Room (k : Nat) (A : Around) : Prop where
 hd : A.handled = none
 dp : A.depth + 3 * k + 5 < recursionLimit
 un : A.units + 16 * k + 200 < cLine
theorem Room.mono {j k : Nat} {A : Around} (r : Room k A) (h : j <= k) : Room j A := ⟨r.hd, by have := r.dp; lia, by have := r.un; lia⟩
theorem Room.deeper {k : Nat} {A : Around} (r : Room (k + 1) A) (env : Env) : Room k (A.deeper env) :=
 ⟨r.hd, by have := r.dp; show A.depth + 1 + 3 * k + 5 < _; lia, by have := r.un; show A.units + 3 + 16 * k + 200 < _; lia⟩
theorem Room.depth {k : Nat} {A : Around} (r : Room k A) : A.depth < recursionLimit := by have := r.dp; lia
theorem Room.units {k : Nat} {A : Around} (r : Room k A) : A.units + 64 < cLine := by have := r.un; lia
noncomputable def tNil : TA := fun _ H Q => Q [] H
noncomputable def tCons (ta : TE) (tr : TA) : TA := fun σ H Q => ta σ H fun x H1 => tr σ H1 fun xs H2 => Q (x :: xs) H2
section
variable {X : Cx} {e : Expr} {es : List Expr} {te : TE} {t : TA} {pos : Pos}
theorem pa_nil : PA X [] tNil := fun _ _ _ _ H Q I h => Calls.spliced_nil ⟨[], H, I, .nil, h⟩
theorem pa_cons (ha : PE X e te) (hr : PA X es t) (hs : starEach (e :: es) X.env = (false, eval e X.env) :: starEach es X.env := by rfl) : PA X (e :: es) (tCons te t) := by
 intro pos pins s σ H Q I h
 rw [hs]
 show wpAny _ _ (spliced ((false, eval e X.env) :: backTo pos (starEach es X.env))) _ _ s
 refine Calls.spliced_cons (thn (ha pins s σ H _ I h) fun u s1 h_ => ?_)
 obtain ⟨x, H1, I1, r1, q1⟩ := h_
 exact thn (hr pos pins s1 σ H1 _ I1 q1) fun us s2 ⟨xs, H2, I2, r2, q2⟩ => ⟨x :: xs, H2, I2, .cons r1 r2, q2⟩
noncomputable def tTup (t : TA) : TE := fun σ H Q => t σ H fun xs H1 => xs.length <= sizeLine /\ ∀ p, H1 p = none -> Q (.ref p) (upd H1 p (.tup xs))
noncomputable def tLst (t : TA) : TE := fun σ H Q => t σ H fun xs H1 => xs.length <= sizeLine /\ ∀ p, H1 p = none -> Q (.ref p) (upd H1 p (.lst xs))
theorem pe_tup {x1} (h : PA X es t) : PE X (.Tuple es x1 pos) (tTup t) := by
 intro pins s σ H Q I hq
 refine wpAny_Tuple_spliced (thn (h pos pins s σ H _ I hq) fun us s1 ⟨xs, H1, I1, r, z, q⟩ => ⟨by rw [← r.length]; exact z, ?_⟩)
 have hf : H1 s1.heap.objs.size = none := I1.hok.fresh (Nat.le_refl _)
 refine ⟨.ref s1.heap.objs.size, upd H1 s1.heap.objs.size (.tup xs), I1.laid (t' := s1.toks) (fun b u e => Heap.get?_push_of_some _ e) (Nat.le_refl _) ?_, rfl, q _ hf⟩
 exact ⟨z, us, r, ⟨_, Heap.get?_push_size _ rfl, rfl, _, rfl⟩⟩
theorem pe_lst (h : PA X es t) : PE X (.List es pos) (tLst t) := by
 intro pins s σ H Q I hq
 refine wpAny_List_spliced (thn (h pos pins s σ H _ I hq) fun us s1 ⟨xs, H1, I1, r, z, q⟩ => ⟨by rw [← r.length]; exact z, ?_⟩)
 have hf : H1 s1.heap.objs.size = none := I1.hok.fresh (Nat.le_refl _)
 refine ⟨.ref s1.heap.objs.size, upd H1 s1.heap.objs.size (.lst xs), I1.laid (t' := s1.toks) (fun b u e => Heap.get?_push_of_some _ e) (Nat.le_refl _) ?_, rfl, q _ hf⟩
 exact ⟨z, us, 0, r, Heap.get?_push_size _ rfl⟩
end
noncomputable abbrev Sp := List V -> Hp -> VK -> XK -> Prop
noncomputable abbrev CXT := List Env -> Hp -> Shared -> XK -> Value -> Shared -> Prop
structure Env0 (P : Program) (w : World) (K : W.Frag) (mg : Str -> Option Value) (base : Heap) (A : Around) (outer : List Env) (s : Shared) (H : Hp) : Prop where
 frames : A.frames = some outer
 mod : Mod K mg base
 bs : ∀ b o, base.get? b = some o -> s.heap.get? b = some o /\ H b = none
 bsz : base.objs.size <= s.heap.objs.size
 funs : s.heap.FunFrames base outer
 frf : ∀ b ∈ frs outer, H b = none
 hok : HOk P w H s.heap
 bare : AllBare s.gens
noncomputable def CE (outer : List Env) (P : Program) (w : World) (H : Hp) (s : Shared) (Q : VK) (u : Value) (s' : Shared) : Prop :=
 ∃ v H', s'.os = s.os /\ AllBare s'.gens /\ Un (frs outer) [] H H' s.heap s'.heap /\ HOk P w H' s'.heap /\ RelV v u /\ Q v H'
noncomputable def CR (CX : CXT) (outer : List Env) (P : Program) (w : World) (H : Hp) (s : Shared) (Q : VK) (E : XK) (r : Result) (s' : Shared) : Prop :=
 match r with
 | .ok (.ret u) => CE outer P w H s Q u s'
 | .ok _ => False
 | .error e => CX outer H s E e s'
structure FnOk (P : Program) (w : World) (K : W.Frag) (mg : Str -> Option Value) (base : Heap) (CX : CXT) (k : Nat) (f : Addr) (fd : FuncData) (ps : List Str) (sp : Sp) : Prop where
 len : ∀ vs H Q E, sp vs H Q E -> vs.length = ps.length
 run : ∀ (A : Around) (outer : List Env) (s : Shared) (H : Hp) (args : Args) (us : List Value) (vs : List V) (Q : VK) (E : XK), Room k A -> Env0 P w K mg base A outer s H -> BindsTo s fd args (ps.zip us) -> Vals vs us -> sp vs H Q E ->
  codeAny (model P w) A (.call (.ref f) args) (CR CX outer P w H s Q E) s
theorem FnOk.mono {P : Program} {w : World} {K : W.Frag} {mg : Str -> Option Value} {base : Heap} {CX : CXT} {j k : Nat} {f : Addr} {fd : FuncData} {ps : List Str} {sp : Sp} (F : FnOk P w K mg base CX j f fd ps sp) (h : j <= k) :
  FnOk P w K mg base CX k f fd ps sp := ⟨F.len, fun A outer s H args us vs Q E hr => F.run A outer s H args us vs Q E (hr.mono h)⟩
theorem FnOk.imp {P : Program} {w : World} {K : W.Frag} {mg : Str -> Option Value} {base : Heap} {CX : CXT} {k : Nat} {f : Addr} {fd : FuncData} {ps : List Str} {sp sp' : Sp} (F : FnOk P w K mg base CX k f fd ps sp)
  (h : ∀ vs H Q E, sp' vs H Q E -> sp vs H Q E) : FnOk P w K mg base CX k f fd ps sp' :=
 ⟨fun vs H Q E q => F.len vs H Q E (h _ _ _ _ q), fun A outer s H args us vs Q E hr he hb hv hs => F.run A outer s H args us vs Q E hr he hb hv (h _ _ _ _ hs)⟩
section
variable {X : Cx} {pins : List (Addr × Obj)} {σ : St} {H : Hp} {s s' : Shared}
theorem Inv.env0 (I : Inv X pins σ H s) : Env0 X.prog X.w X.K X.mg X.base X.A X.stack s H :=
 ⟨I.ok.frames, I.ok.mod, I.bs, Nat.le_trans I.ok.bsz I.sz, I.stack, I.stkFree, I.hok, I.bare⟩
theorem Inv.after {Q : VK} {u : Value} (I : Inv X pins σ H s) (h : CE X.stack X.prog X.w H s Q u s') : EP X pins σ Q u s' := by
 obtain ⟨v, H', os, bare, un, hok, r, q⟩ := h
 obtain ⟨hh, g, d, t, os'⟩ := s'
 obtain rfl : os' = s.os := os
 exact ⟨v, H', I.call (h' := hh) (g' := g) (d' := d) (t' := t) (ch := []) un hok bare (fun b z => absurd z (by simp)), r, q⟩
end
noncomputable def tCall (sp : Sp) (dvs : List V) (E : XK) (t : TA) : TE := fun σ H Q => t σ H fun vs H1 => sp (vs ++ dvs) H1 Q E
noncomputable def Binds (K : W.Frag) (fd : FuncData) (ps : List Str) (ds : List Value) : Prop :=
 ∀ (s : Shared) (us : List Value), K.In s.heap -> (us ++ ds).length = ps.length -> BindsTo s fd ⟨us, []⟩ (ps.zip (us ++ ds))
theorem Binds.all {K : W.Frag} {fd : FuncData} {ps : List Str} (h : ∀ us : List Value, us.length = ps.length -> bindArgs fd ⟨us, []⟩ = pure (ps.zip us)) : Binds K fd ps [] := fun s us _ hl => by
 rw [List.append_nil] at hl ⊢
 exact .of_eq (h us hl)
noncomputable def Passes (CX : CXT) (X : Cx) (E : XK) : Prop := ∀ (pins : List (Addr × Obj)) (σ : St) (H : Hp) (s : Shared) (e : Value) (s' : Shared), Inv X pins σ H s -> CX X.stack H s E e s' -> X.xe e s'
section
variable {X : Cx} {CX : CXT} {k : Nat} {f C : Addr} {fd : FuncData} {ps : List Str} {sp : Sp} {dvs : List V} {ds : List Value} {E : XK} {x m : Str} {p pos apos : Pos} {e o : Expr} {es : List Expr} {ta : TE} {t : TA}
theorem run_fn {pins : List (Addr × Obj)} {σ : St} {H : Hp} {s : Shared} {Q : VK} {us : List Value} {vs : List V} (F : FnOk X.prog X.w X.K X.mg X.base CX k f fd ps sp) (hr : Room k X.A) (hb : Binds X.K fd ps ds) (hd : Vals dvs ds) (hx : Passes CX X E)
  (I : Inv X pins σ H s) (r : Vals vs us) (h : sp (vs ++ dvs) H Q E) : wpAny (model X.prog X.w) X.A (call (.ref f) us) (EP X pins σ Q) X.xe s := by
 have r2 : Vals (vs ++ dvs) (us ++ ds) := r.append hd
 have hl : (us ++ ds).length = ps.length := by rw [← r2.length]; exact F.len _ _ _ _ h
 refine wpAny_call (codeAny_mono (F.run X.A X.stack s H ⟨us, []⟩ (us ++ ds) (vs ++ dvs) Q E hr I.env0 (hb s us I.kIn hl) r2 h) fun r s' hq => ?_)
 cases r with
 | error e => exact hx pins σ H s e s' I hq
 | ok fl =>
  cases fl with
  | ret u => exact I.after hq
  | next => exact False.elim hq
  | brk => exact False.elim hq
  | cont => exact False.elim hq
theorem pe_call (F : FnOk X.prog X.w X.K X.mg X.base CX k f fd ps sp) (hr : Room k X.A) (hg : Gl X x) (hm : X.mg x = some (.ref f)) (hk : W.keepIn X.K (.ref f) = true) (hb : Binds X.K fd ps ds) (hd : Vals dvs ds) (hx : Passes CX X E)
  (ha : PA X (e :: es) t) (hdb : (x == ("__debug__" : Str)) = false := by decide) (he : starEach (e :: es) X.env = (false, eval e X.env) :: starEach es X.env := by rfl) (hpl : (backTo pos (starEach es X.env)).any (·.1) = false := by rfl) :
  PE X (.Call (.Name x p) (e :: es) [] pos) (tCall sp dvs E t) := by
 intro pins s σ H Q I h
 refine wpAny_Call_Name_kw (ld_glob I hg hm ?_ hdb)
 refine W.callWith_K (h₀ := X.base) I.ok.mod.kin hk (thn (ha pos pins s σ H _ I h) fun us s1 ⟨vs, H1, I1, r, q⟩ => ⟨I1.kIn, ?_⟩) he hpl
 exact run_fn F hr hb hd hx I1 r q
theorem pe_call0 (F : FnOk X.prog X.w X.K X.mg X.base CX k f fd ps sp) (hr : Room k X.A) (hg : Gl X x) (hm : X.mg x = some (.ref f)) (hk : W.keepIn X.K (.ref f) = true) (hb : Binds X.K fd ps ds) (hd : Vals dvs ds) (hx : Passes CX X E)
  (hdb : (x == ("__debug__" : Str)) = false := by decide) : PE X (.Call (.Name x p) [] [] pos) (tCall sp dvs E tNil) := by
 intro pins s σ H Q I h
 refine wpAny_Call_Name_kw (ld_glob I hg hm ?_ hdb)
 exact W.callWith_K0 I.kIn hk (run_fn (us := []) F hr hb hd hx I .nil h)
end
structure FnScope (N P : List Str) (sc : Scope) : Prop where
 kind : sc.kind = .function
 co : sc.isCoroutine = false
 gen : sc.isGenerator = false
 nd : N.Nodup
 pre : N.take P.length = P
 par : ∀ x ∈ P, sc.names.lookup x = some .local \/ sc.names.lookup x = some .cell
 nofree : ∀ y ∈ sc.names, y.2 ≠ .free
theorem bindL_out {kindOf : Str -> Option NameKind} {x : Str} : ∀ {binds : List (Str × Value)} {m : Str -> Option Value}, (∀ v, (x, v) ∉ binds) -> bindL kindOf binds m x = m x
  | [], _, _ => rfl
  | (n, v) :: r, m, h => by
    unfold bindL
    rw [bindL_out fun w hw => h w (List.mem_cons_of_mem _ hw)]
    split
    · have : x ≠ n := by rintro rfl; exact h v List.mem_cons_self
      simp [this]
    · rfl
theorem bindC_out {kindOf : Str -> Option NameKind} {x : Str} : ∀ {binds : List (Str × Value)} {m : Str -> Option Value}, (∀ v, (x, v) ∉ binds) -> bindC kindOf binds m x = m x
  | [], _, _ => rfl
  | (n, v) :: r, m, h => by
    unfold bindC
    rw [bindC_out fun w hw => h w (List.mem_cons_of_mem _ hw)]
    split
    · rfl
    · have : x ≠ n := by rintro rfl; exact h v List.mem_cons_self
      simp [this]
theorem bindL_get {kindOf : Str -> Option NameKind} {x : Str} {v : Value} : ∀ {P : List Str} {vs : List Value} {i : Nat} {m : Str -> Option Value}, P.Nodup -> P[i]? = some x -> vs[i]? = some v -> kindOf x = some .local ->
  bindL kindOf (P.zip vs) m x = some v
 | [], _, _, _, _, h, _, _ => by simp at h
 | _ :: _, [], _, _, _, _, h, _ => by simp at h
 | p :: P, w :: vs, 0, m, nd, h1, h2, hk => by
  simp at h1 h2; subst h1; subst h2
  show bindL kindOf ((p, w) :: P.zip vs) m p = _
  unfold bindL
  rw [bindL_out fun v hv => (List.nodup_cons.mp nd).1 (List.of_mem_zip hv).1, if_pos hk]
  simp
 | p :: P, w :: vs, i + 1, m, nd, h1, h2, hk => by
  show bindL kindOf ((p, w) :: P.zip vs) m x = _
  unfold bindL
  exact bindL_get (i := i) (List.nodup_cons.mp nd).2 (by simpa using h1) (by simpa using h2) hk
theorem bindC_get {kindOf : Str -> Option NameKind} {x : Str} {v : Value} : ∀ {P : List Str} {vs : List Value} {i : Nat} {m : Str -> Option Value}, P.Nodup -> P[i]? = some x -> vs[i]? = some v -> kindOf x ≠ some .local ->
  bindC kindOf (P.zip vs) m x = some v
 | [], _, _, _, _, h, _, _ => by simp at h
 | _ :: _, [], _, _, _, _, h, _ => by simp at h
 | p :: P, w :: vs, 0, m, nd, h1, h2, hk => by
  simp at h1 h2; subst h1; subst h2
  show bindC kindOf ((p, w) :: P.zip vs) m p = _
  unfold bindC
  rw [bindC_out fun v hv => (List.nodup_cons.mp nd).1 (List.of_mem_zip hv).1, if_neg hk]
  simp
 | p :: P, w :: vs, i + 1, m, nd, h1, h2, hk => by
  show bindC kindOf ((p, w) :: P.zip vs) m x = _
  unfold bindC
  exact bindC_get (i := i) (List.nodup_cons.mp nd).2 (by simpa using h1) (by simpa using h2) hk
noncomputable def start (N : List Str) (vs : List V) : St := vs.map some ++ List.replicate (N.length - vs.length) none
noncomputable def cxOf (CX : CXT) (P : Program) (w : World) (K : W.Frag) (mg : Str -> Option Value) (base : Heap) (N : List Str) (qual : Str) (scope : Scope) (f : Addr) (cd : Value) (A : Around) (outer : List Env) (s : Shared) (H : Hp) (E : XK) : Cx where
 prog := P
 w := w
 K := K
 mg := mg
 base := base
 A := A.deeper (envOfC qual scope s.heap.objs.size f cd)
 N := N
 s₀ := s
 H₀ := H
 env := envOfC qual scope s.heap.objs.size f cd
 outer := outer
 stack := envOfC qual scope s.heap.objs.size f cd :: outer
 ex := []
 calm := true
 fn := fun _ => true
 pn := []
 xe := fun e s' => wpAny (model P w) (A.deeper (envOfC qual scope s.heap.objs.size f cd)) (leaving (envOfC qual scope s.heap.objs.size f cd) e) (fun _ s'' => CX outer H s E e s'') (fun e' s'' => CX outer H s E e' s'') s'
theorem cell_has {sc : Scope} {n : Nat} {x : Str} (h : sc.names.lookup x = some .cell) : ∃ c, (cellsFrom n sc.names []).lookup x = some c := by
 have q := W.cellsFrom_some sc.names n [] (.inl h)
 exact Option.isSome_iff_exists.mp q
theorem inv_start {CX : CXT} {P : Program} {w : World} {K : W.Frag} {mg : Str -> Option Value} {base : Heap} {N ps : List Str} {qual : Str} {scope : Scope} {f : Addr} {cd : Value} {A : Around} {outer : List Env} {s s1 : Shared} {H : Hp} {E : XK} {us : List Value} {vs : List V}
  (S : FnScope N ps scope) (hd : A.handled = none) (e0 : Env0 P w K mg base A outer s H) (hl : vs.length = ps.length) (r : Vals vs us)
  (x : InCallC s s.heap.objs.size (bindL (envOfC qual scope s.heap.objs.size f cd).kindOf (ps.zip us) fun _ => none) (cellsFrom (s.heap.objs.size + 1) scope.names []) (bindC (envOfC qual scope s.heap.objs.size f cd).kindOf (ps.zip us) fun _ => none) s1) :
  Inv (cxOf CX P w K mg base N qual scope f cd A outer s H E) [] (start N vs) H s1 := by
 have hpl : ps.length <= N.length := by have := congrArg List.length S.pre; rw [List.length_take] at this; lia
 obtain ⟨h1, tk, rfl, hk⟩ := x.done
 have noA : ∀ b : Addr, b ∉ (cxOf CX P w K mg base N qual scope f cd A outer s H E).ex := fun b z => absurd (show b ∈ ([] : List Addr) from z) (by simp)
 refine ⟨⟨e0.mod, S.kind, rfl, rfl, Nat.le_refl _, fun y z c h1 h2 => ?_, fun y hy => ?_, fun y c _ h => ?_, fun _ => hd, Around.frames_deeper e0.frames, .inr ⟨rfl, rfl⟩, fun b z => absurd z (noA b), e0.bs, e0.bsz, fun b _ _ => noA b, fun b z => absurd z (noA b), e0.funs, e0.frf⟩,
  rfl, e0.bare, Un.kept hk, ⟨_, x.toInCall.ns, fun i y v h1 h2 h3 => ?_⟩, fun y c h => ⟨_, x.cell y c h⟩, e0.hok.fresh (Nat.le_refl _), fun y c h => ?_, fun p hp => absurd (show p ∈ ([] : List (Addr × Obj)) from hp) (by simp), e0.hok.kept hk, ?_⟩
 ·exact name_of_addr x.apart (PySem.mem_of_lookup h1) (PySem.mem_of_lookup h2)
 ·have hy : scope.names.lookup y = some .cell \/ scope.names.lookup y = some .free := hy
  rcases hy with hy | hy
  ·exact cell_has hy
  ·exact absurd rfl (S.nofree _ (PySem.mem_of_lookup hy))
 ·exact Nat.le_of_lt (x.above y c (PySem.mem_of_lookup h))
 ·have hi : i < vs.length := by
   unfold start at h2
   by_cases hi : i < vs.length
   ·exact hi
   ·rw [List.getElem?_append_right (by simpa using hi)] at h2
    rw [List.getElem?_replicate] at h2
    split at h2 <;> cases h2
  have ha : vs[i]? = some v := by
   unfold start at h2
   rw [List.getElem?_append_left (by simpa using hi), List.getElem?_map] at h2
   cases e : vs[i]? with
   | none => rw [e] at h2; cases h2
   | some a => rw [e] at h2; cases h2; rfl
  obtain ⟨u, hu, rv⟩ := r.get ha
  have hp : ps[i]? = some y := by
   rw [← S.pre, List.getElem?_take_of_lt (by lia)]; exact h1
  have ndP : ps.Nodup := by rw [← S.pre]; exact S.nd.sublist (List.take_sublist _ _)
  refine ⟨u, rv, ?_⟩
  rcases S.par y (List.mem_of_getElem? hp) with k | k
  ·exact .inl ⟨k, bindL_get ndP hp hu k⟩
  ·obtain ⟨c, e⟩ := cell_has (n := s.heap.objs.size + 1) k
   refine .inr ⟨.inl k, c, e, ?_⟩
   have q := x.cell y c e
   rw [bindC_get ndP hp hu (by show scope.names.lookup y ≠ _; rw [k]; decide)] at q
   exact q
 ·exact e0.hok.fresh (Nat.le_of_lt (x.above y c (PySem.mem_of_lookup h)))
 ·unfold start
  show _ = N.length
  rw [List.length_append, List.length_map, List.length_replicate]
  lia
theorem fn_of {CX : CXT} {P : Program} {w : World} {K : W.Frag} {mg : Str -> Option Value} {base : Heap} {k : Nat} {f : Addr} {name qual : Str} {params : Arguments} {body : List Stmt} {scope : Scope} {dV kV doc pm cdv ct oc : Value} {an od : Option Addr}
  {osl : Array (Option Value)} {N ps : List Str} {sp : Sp} (lk : K.lookup f = some ⟨oc, od, .func (W.fnOf name qual params body scope dV kV doc pm an cdv ct), osl⟩) (hcd : W.codeIn K cdv qual = true) (S : FnScope N ps scope)
  (len : ∀ vs H Q E, sp vs H Q E -> vs.length = ps.length)
  (hbody : ∀ (A : Around) (outer : List Env) (s : Shared) (H : Hp) (vs : List V) (Q : VK) (E : XK), Room k (A.deeper (envOfC qual scope s.heap.objs.size f cdv)) -> sp vs H Q E ->
   ∃ t, PSs (cxOf CX P w K mg base N qual scope f cdv A outer s H E) body t /\ t { nx := fun _ H' => Q .non H', rt := Q } (start N vs) H) :
  FnOk P w K mg base CX (k + 1) f (W.fnOf name qual params body scope dV kV doc pm an cdv ct) ps sp := by
 refine ⟨len, fun A outer s H args us vs Q E hr e0 hb r hsp => ?_⟩
 have hl := len _ _ _ _ hsp
 have KX : K.In s.heap := e0.mod.kin.keeps fun b o e => (e0.bs b o e).1
 have lim : s.heap.NoLimit := e0.mod.nolimit.keeps fun b o e => (e0.bs b o e).1
 have hkind : ∀ y ∈ ps.zip us, scope.names.lookup y.1 = some .local \/ (scope.names.lookup y.1 = some .cell /\ ((cellsFrom (s.heap.objs.size + 1) scope.names []).lookup y.1).isSome = true) := fun ⟨n, v⟩ hy => by
  rcases S.par n (List.of_mem_zip hy).1 with q | q
  ·exact .inl q
  ·exact .inr ⟨q, W.cellsFrom_some _ _ _ (.inl q)⟩
 refine codeAny_call_function hr.depth (KX _ _ lk) rfl S.co S.gen rfl (W.codeRec_of KX hcd) (hb _ _ _ _ ?_)
 refine wpAny_newFunctionEnv_cells S.kind hkind fun env he s1 x => ?_
 subst he
 refine ⟨lim.keeps x.toInCall.keep, codeAny_func ?_⟩
 obtain ⟨t, ht, hq⟩ := hbody A outer s H vs Q E (hr.deeper _) hsp
 have I : Inv (cxOf CX P w K mg base N qual scope f cdv A outer s H E) [] (start N vs) H s1 := inv_start S hr.hd e0 hl r x
 refine wpAny_mono (ht [] s1 (start N vs) H _ I hq) (fun fl s' hs => ?_) fun e s' hs => hs
 have fin : ∀ {σ' : St} {H' : Hp} {v : V} {u : Value}, Inv (cxOf CX P w K mg base N qual scope f cdv A outer s H E) [] σ' H' s' -> RelV v u -> Q v H' -> CE outer P w H s Q u s' :=
  fun {σ' H' v u} J rv q => ⟨v, H', J.os, J.bare, J.base, J.hok, rv, q⟩
 cases fl with
 | ret u =>
  obtain ⟨v, σ', H', J, rv, q⟩ := hs
  exact fin J rv q
 | next =>
  obtain ⟨σ', H', J, q⟩ := hs
  exact fin (v := V.non) (u := Value.none) J rfl q
 | brk =>
  obtain ⟨_, _, _, q⟩ := hs
  exact False.elim q
 | cont =>
  obtain ⟨_, _, _, q⟩ := hs
  exact False.elim q
section
variable {X : Cx} {x : Str} {p pos : Pos} {e : Expr} {es : List Expr} {t : TA} {id T : String} {r : List V -> Hp -> VK -> Prop}
noncomputable def tCB (r : List V -> Hp -> VK -> Prop) (t : TA) : TE := fun σ H Q => t σ H fun vs H1 => r vs H1 Q
theorem pe_callB (hc : CallR X (.builtin id) r) (hg : Gl X x) (hm : X.mg x = none) (hv : bootBuiltins x = some (.builtin id)) (ha : PA X (e :: es) t) (hn : x ≠ "__name__" := by decide) (hdb : (x == ("__debug__" : Str)) = false := by decide)
  (he : starEach (e :: es) X.env = (false, eval e X.env) :: starEach es X.env := by rfl) (hpl : (backTo pos (starEach es X.env)).any (·.1) = false := by rfl) : PE X (.Call (.Name x p) (e :: es) [] pos) (tCB r t) := by
 intro pins s σ H Q I h
 refine wpAny_Call_Name_kw (ZcS I hg hm hv ?_ hn hdb)
 exact PyProof.Rows.callWith_builtin1 (thn (ha pos pins s σ H _ I h) fun us s1 ⟨vs, H1, I1, r1, q1⟩ => hc pins s1 σ H1 vs us Q I1 r1 q1) he hpl
theorem pe_callTy (hc : CallR X (.type T) r) (hg : Gl X x) (hm : X.mg x = none) (hv : bootBuiltins x = some (.type T)) (ha : PA X (e :: es) t) (hn : x ≠ "__name__" := by decide) (hdb : (x == ("__debug__" : Str)) = false := by decide)
  (he : starEach (e :: es) X.env = (false, eval e X.env) :: starEach es X.env := by rfl) (hpl : (backTo pos (starEach es X.env)).any (·.1) = false := by rfl) : PE X (.Call (.Name x p) (e :: es) [] pos) (tCB r t) := by
 intro pins s σ H Q I h
 refine wpAny_Call_Name_kw (ZcS I hg hm hv ?_ hn hdb)
 exact PyProof.Rows.callWith_type1 (thn (ha pos pins s σ H _ I h) fun us s1 ⟨vs, H1, I1, r1, q1⟩ => hc pins s1 σ H1 vs us Q I1 r1 q1) he hpl
end
end L2
namespace HT
open PySem PyProof.Rows
section
variable {prog : Program} {w : World} {A : Around} {E : Value -> Shared -> Prop} {s : Shared}
theorem cat_tup {t b : Addr} {vs ws : List Value} {Q : Value -> Shared -> Prop} (ht : IsTup s.heap t vs.toArray) (hb : IsTup s.heap b ws.toArray) (hv : vs ≠ [])
  (h1 : ws = [] -> Q (.ref t) s) (h2 : ws ≠ [] -> Q (.ref s.heap.objs.size) { s with heap := s.heap.push { cls := .type "tuple", data := .seq (vs ++ ws).toArray } })
  (hsz : vs.length + ws.length <= sizeLine) : wpAny (model prog w) A (binaryOp .Add (.ref t) (.ref b)) Q E s := by
 obtain ⟨⟨cls, dd, data, sl⟩, ho, hc, n, hd⟩ := id ht
 obtain ⟨⟨cls2, dd2, data2, sl2⟩, ho2, hc2, n2, hd2⟩ := id hb
 simp only at hc hd hc2 hd2
 subst hc hd hc2 hd2
 have e : vs.toArray ++ ws.toArray = (vs ++ ws).toArray := by simp
 by_cases hw : ws = []
 ·exact concat_meets ⟨_, ho, rfl⟩ ⟨_, ho2, rfl⟩ noFill_tuple_add seq_tuple_add PySem.F.slot_tuple_add PySem.F.entry_tuple_add (PySem.F.args_tuple_add_2 _ _)
   (tuple_addW1 t b vs.toArray ws.toArray n n2 dd dd2 sl sl2 (by simpa using hv) (by simp [hw])) ⟨ho, ho2, h1 hw⟩
 ·refine concat_meets ⟨_, ho, rfl⟩ ⟨_, ho2, rfl⟩ noFill_tuple_add seq_tuple_add PySem.F.slot_tuple_add PySem.F.entry_tuple_add (PySem.F.args_tuple_add_2 _ _)
   (tuple_addW2 t b vs.toArray ws.toArray n n2 dd dd2 sl sl2 (by simpa using hv) (by simpa using hw) (by rw [List.size_toArray, List.size_toArray]; exact hsz)) ⟨ho, ho2, ?_⟩
  rw [e]
  exact h2 hw
noncomputable def sIx (n d : Nat) : Option Int -> Nat
 | none => d
 | some v => if v < 0 then (v + (n : Int)).toNat else min v.toNat n
theorem sIx_le (n d : Nat) (hd : d <= n) (o : Option Int) : sIx n d o <= n := by
 cases o with
 | none => exact hd
 | some v =>
  show (if v < 0 then (v + (n : Int)).toNat else min v.toNat n) <= n
  by_cases hv : v < 0
  ·rw [if_pos hv]; lia
  ·rw [if_neg hv]; exact Nat.min_le_right _ _
theorem clip_eq (v : Int) (n d : Nat) : (if v < 0 then max (v + (n : Int)) 0 else min v (n : Int)) = ((sIx n d (some v) : Nat) : Int) := by
 show (if v < 0 then max (v + (n : Int)) 0 else min v (n : Int)) = (((if v < 0 then (v + (n : Int)).toNat else min v.toNat n) : Nat) : Int)
 by_cases hv : v < 0
 ·simp only [if_pos hv]; lia
 ·simp only [if_neg hv]; lia
theorem adjust_gen (lo hi : Option Int) (n : Nat) : Builtin.Slice.sliceAdjust lo hi 1 (n : Int) = (((sIx n 0 lo : Nat) : Int), ((sIx n n hi : Nat) : Int)) := by
 have h1 : ¬ ((1 : Int) < 0) := by lia
 unfold Builtin.Slice.sliceAdjust
 simp only [h1, if_false]
 refine Prod.ext ?_ ?_
 ·cases lo with
  | none => rfl
  | some v => exact clip_eq v n 0
 ·cases hi with
  | none => rfl
  | some v => exact clip_eq v n n
theorem places_gen (i j : Nat) : Builtin.Slice.slicePlaces (i : Int) (j : Int) 1 = j - i := by
 unfold Builtin.Slice.slicePlaces
 have h1 : (1 : Int) > 0 := by lia
 simp only [h1, if_true, Int.ediv_one]
 split <;> lia
theorem slicePart_ {v : Value} {o : Option Int} {Q : Option Int -> Shared -> Prop} (p : IsPart v o) (h : Q o s) : wpAny (model prog w) A (Builtin.Slice.slicePartIndex v) Q E s := by
 cases p with
 | none => exact slicePart_none h
 | int i t => exact slicePart_int h
theorem sliceApplied_gen {sl : Addr} {vl vu : Value} {lo hi : Option Int} {n : Nat} {Q : Int × Int × Nat -> Shared -> Prop} (hs : s.heap.IsSliceOf sl vl vu .none) (pl : IsPart vl lo) (pu : IsPart vu hi)
  (h : Q (((sIx n 0 lo : Nat) : Int), 1, sIx n n hi - sIx n 0 lo) s) : wpAny (model prog w) A (Builtin.Slice.sliceApplied (.ref sl) (pure (n : Int))) Q E s := by
 obtain ⟨os, hos, hcs, hds⟩ := id hs
 unfold Builtin.Slice.sliceApplied Builtin.Slice.sliceFields
 refine wpAny_bind (wpAny_bind (wpAny_field hos hds (x := vl) rfl (wpAny_bind (wpAny_field hos hds (x := vu) rfl (wpAny_bind (wpAny_field hos hds (x := .none) rfl (wpAny_pure ?_)))))))
 refine wpAny_bind (slicePart_none ?_)
 show wpAny _ _ (if ((1 : Int) == 0) = true then _ else _) _ _ s
 rw [if_neg (by decide)]
 refine wpAny_bind (slicePart_ pl (wpAny_bind (slicePart_ pu (wpAny_bind (wpAny_pure ?_)))))
 show wpAny _ _ (match Builtin.Slice.sliceAdjust lo hi 1 (n : Int) with | (lo, hi) => pure (lo, (1 : Int), Builtin.Slice.slicePlaces lo hi 1)) _ _ s
 rw [adjust_gen lo hi n]
 show wpAny _ _ (pure (((sIx n 0 lo : Nat) : Int), (1 : Int), Builtin.Slice.slicePlaces ((sIx n 0 lo : Nat) : Int) ((sIx n n hi : Nat) : Int) 1)) _ _ s
 rw [places_gen]
 exact wpAny_pure h
theorem pick_gen (xs : Array Value) (i k : Nat) : ((List.range k).filterMap fun (m : Nat) => xs[((i : Int) + (m : Int) * 1).toNat]?).toArray = ((xs.toList.drop i).take k).toArray := by
 have e : (fun (m : Nat) => xs[((i : Int) + (m : Int) * 1).toNat]?) = fun m => xs[i + m]? := by
  funext m
  have : ((i : Int) + (m : Int) * 1).toNat = i + m := by lia
  rw [this]
 rw [e]
 have := pick_run xs i k
 rw [List.filterMap_map] at this
 have e2 : ((fun x => xs[x]?) ∘ fun x => i + x) = fun m => xs[i + m]? := rfl
 rw [e2] at this
 rw [this]
theorem getItem_tuple_cut {t sl : Addr} {items : Array Value} {vl vu : Value} {lo hi : Option Int} {Q : Value -> Shared -> Prop} (ht : IsTup s.heap t items) (hs : s.heap.IsSliceOf sl vl vu .none) (pl : IsPart vl lo) (pu : IsPart vu hi)
  (hw : ¬ (sIx items.size 0 lo = 0 /\ sIx items.size items.size hi = items.size))
  (h : Q (.ref s.heap.objs.size) { s with heap := s.heap.push { cls := .type "tuple", data := .seq ((items.toList.drop (sIx items.size 0 lo)).take (sIx items.size items.size hi - sIx items.size 0 lo)).toArray } })
  (hsz : items.size <= sizeLine) : wpAny (model prog w) A (getItem (.ref t) (.ref sl)) Q E s := by
 have htake : sizeOk (.seq ((items.toList.drop (sIx items.size 0 lo)).take (sIx items.size items.size hi - sIx items.size 0 lo)).toArray) := by
  show ((items.toList.drop (sIx items.size 0 lo)).take (sIx items.size items.size hi - sIx items.size 0 lo)).toArray.size <= sizeLine
  rw [List.size_toArray, List.length_take, List.length_drop, Array.length_toList]
  lia
 have hj : sIx items.size items.size hi <= items.size := sIx_le _ _ (Nat.le_refl _) hi
 obtain ⟨os, hos, hcs, hds⟩ := id hs
 have hTs : s.TypeIs (.ref sl) "slice" := ⟨os, hos, hcs⟩
 unfold getItem
 try with_reducible refine wpAny_holding ?_
 first | refine wpAny_bind (wpAny_pure ?_) | skip
 refine wpAny_bind (wpAny_sequenceKey ht.typeIs (by decide) ?_)
 refine wpAny_bind (wpAny_callSpecial?_slot (name := Str.ofString "__getitem__") ht.typeIs PyProof.Rows.slot_tuple_getitem
  (wpAny_call_entry PyProof.Rows.slot_tuple_getitem ht.typeIs entry_tuple_getitem ?_ (args_tuple_getitem _ _)))
 show wpAny _ _ (Builtin.Tuple.tupleItemsOf (.ref t) >>= _) _ _ s
 refine wpAny_bind (tupleItemsOf_ ht ?_)
 refine wpAny_bind (wpAny_typeOf hTs ?_)
 rw [if_pos (by decide)]
 refine wpAny_bind (sliceApplied_gen hs pl pu ?_)
 have hno : ¬ ((((sIx items.size 0 lo : Nat) : Int) == 0 && (1 : Int) == 1 && (sIx items.size items.size hi - sIx items.size 0 lo) == items.size) = true) := by
  intro q
  rw [Bool.and_eq_true, Bool.and_eq_true] at q
  have q1 : ((sIx items.size 0 lo : Nat) : Int) = 0 := eq_of_beq q.1.1
  have q2 : sIx items.size items.size hi - sIx items.size 0 lo = items.size := eq_of_beq q.2
  exact hw ⟨by lia, by lia⟩
 show wpAny _ _ (if (((sIx items.size 0 lo : Nat) : Int) == 0 && (1 : Int) == 1 && (sIx items.size items.size hi - sIx items.size 0 lo) == items.size) = true then _ else _) _ _ s
 rw [if_neg hno, pick_gen]
 first
  | exact wpAny_bind (m := Builtin.Tuple.tupleExact _) (wpAny_newObj_type (wpAny_pure ⟨_, rfl, wpAny_pure h⟩) htake)
  | exact wpAny_bind (m := Builtin.Tuple.tupleExact _) (wpAny_newObj_type (wpAny_bind (wpAny_pure (wpAny_pure ⟨_, rfl, wpAny_pure h⟩))) htake)
  | exact wpAny_bind (wpAny_bind (m := Builtin.Tuple.tupleExact _) (wpAny_newObj_type (wpAny_pure (wpAny_pure ⟨_, rfl, wpAny_pure h⟩)) htake))
  | exact wpAny_bind (wpAny_bind (m := Builtin.Tuple.tupleExact _) (wpAny_newObj_type (wpAny_pure ⟨_, rfl, wpAny_pure h⟩) htake))
end
end HT
namespace L2
open PySem PySem.Spec PyProof.Rows
noncomputable abbrev TO := St -> Hp -> (Option Int -> Hp -> Prop) -> Prop
noncomputable def PO (X : Cx) (e : Option Expr) (t : TO) : Prop :=
 ∀ (pins : List (Addr × Obj)) (s : Shared) (σ : St) (H : Hp) (Q : Option Int -> Hp -> Prop), Inv X pins σ H s -> t σ H Q ->
  wpAny (model X.prog X.w) X.A (evalPart e X.env) (fun u s' => ∃ o H', Inv X pins σ H' s' /\ IsPart u o /\ Q o H') X.xe s
noncomputable def tNoPart : TO := fun _ H Q => Q none H
noncomputable def tPart (t : TE) : TO := fun σ H Q => t σ H fun x H1 => ∃ i, x = .int i /\ Q (some i) H1
section
variable {X : Cx} {e : Expr} {te : TE} {lo hi : Option Expr} {tl th : TO} {pos p2 : Pos}
theorem po_none : PO X none tNoPart := by
 intro pins s σ H Q I h
 rw [evalPart_none]
 exact wpAny_pure ⟨none, H, I, .none, h⟩
theorem po_some (h : PE X e te) : PO X (some e) (tPart te) := by
 intro pins s σ H Q I hw
 rw [evalPart_some]
 refine thn (h pins s σ H _ I hw) fun u s1 h_ => ?_
 obtain ⟨x, H1, I1, r1, q1⟩ := h_
 obtain ⟨i, rfl, q⟩ := q1
 obtain ⟨t, rfl⟩ := r1
 exact ⟨some i, H1, I1, .int i t, q⟩
noncomputable def SlR (X : Cx) (r : V -> Option Int -> Option Int -> Hp -> VK -> Prop) : Prop :=
 ∀ (pins : List (Addr × Obj)) (s : Shared) (σ : St) (H : Hp) (x : V) (v vl vu : Value) (lo hi : Option Int) (sl : Addr) (Q : VK), Inv X pins σ H s -> RelV x v -> s.heap.IsSliceOf sl vl vu .none -> IsPart vl lo -> IsPart vu hi -> r x lo hi H Q ->
  ∃ T id, typeLookup (.type T) "__getitem__" = pure (some (.builtin id)) /\ s.TypeIs v T /\ wpAny (model X.prog X.w) X.A (getItem v (.ref sl)) (EP X pins σ Q) X.xe s
theorem SlR.or {r r' : V -> Option Int -> Option Int -> Hp -> VK -> Prop} (h : SlR X r) (h' : SlR X r') : SlR X (fun x lo hi H Q => r x lo hi H Q \/ r' x lo hi H Q) := by
 intro pins s σ H x v vl vu lo hi sl Q I rx hs pl pu q
 rcases q with q | q
 ·exact h pins s σ H x v vl vu lo hi sl Q I rx hs pl pu q
 ·exact h' pins s σ H x v vl vu lo hi sl Q I rx hs pl pu q
noncomputable def tSl (r : V -> Option Int -> Option Int -> Hp -> VK -> Prop) (te : TE) (tl th : TO) : TE := fun σ H Q => te σ H fun x H1 => tl σ H1 fun l H2 => th σ H2 fun u H3 => r x l u H3 Q
theorem pe_slice {r : V -> Option Int -> Option Int -> Hp -> VK -> Prop} (hr : SlR X r) (he : PE X e te) (hl : PO X lo tl) (hu : PO X hi th) : PE X (.Subscript e (.Slice lo hi none p2) pos) (tSl r te tl th) := by
 intro pins s σ H Q I h
 refine Subscript_ (thn (he pins s σ H _ I h) fun v s1 h_ => ?_)
 obtain ⟨x, H1, I1, r1, q1⟩ := h_
 refine wpAny_Slice (thn (hl pins s1 σ H1 _ I1 q1) fun vl s2 ⟨l, H2, I2, pl, q2⟩ => thn (hu pins s2 σ H2 _ I2 q2) fun vu s3 h_ => ?_)
 obtain ⟨u, H3, I3, pu, q3⟩ := h_
 rw [evalPart_none]
 refine wpAny_pure ?_
 have I4 : Inv X pins σ H3 { s3 with heap := s3.heap.push { cls := .type "slice", data := .fields #[vl, vu, .none] } } := I3.kept (t' := s3.toks) fun b ob q => Heap.get?_push_of_some _ q
 obtain ⟨T, id, hT, ht, hg⟩ := hr pins { s3 with heap := s3.heap.push { cls := .type "slice", data := .fields #[vl, vu, .none] } } σ H3 x v vl vu l u s3.heap.objs.size Q I4 r1 (Heap.IsSliceOf.new ..) pl pu q3
 show wpAny (model X.prog X.w) X.A (subscriptTail e (.Slice lo hi none p2) v (.ref s3.heap.objs.size)) (EP X pins σ Q) X.xe { s3 with heap := s3.heap.push { cls := .type "slice", data := .fields #[vl, vu, .none] } }
 exact tail_any (ops := [.ref s3.heap.objs.size, v]) ht hT hg (by with_unfolding_all rfl)
noncomputable def cutV (xs : List V) (lo hi : Option Int) : List V := (xs.drop (HT.sIx xs.length 0 lo)).take (HT.sIx xs.length xs.length hi - HT.sIx xs.length 0 lo)
theorem ZcE (xs : List V) (lo hi : Option Int) : (cutV xs lo hi).length <= xs.length := by
 unfold cutV
 rw [List.length_take, List.length_drop]
 lia
noncomputable def rSlT (K : W.Frag) : V -> Option Int -> Option Int -> Hp -> VK -> Prop := fun x lo hi H Q => ∃ a xs, x = .ref a /\ SqT K H a xs /\
 ¬ (HT.sIx xs.length 0 lo = 0 /\ HT.sIx xs.length xs.length hi = xs.length) /\ ∀ p, H p = none -> Q (.ref p) (upd H p (.tup (cutV xs lo hi)))
theorem sl_tup : SlR X (rSlT X.K) := by
 intro pins s σ H x v vl vu lo hi sl Q I rx hs pl pu h
 obtain ⟨a, xs, rfl, hx, hw, q⟩ := h
 cases rx
 obtain ⟨its, r, ht, hz⟩ := I.tuple hx
 have hlen : its.toArray.size = xs.length := by rw [List.size_toArray]; exact r.length.symm
 refine ⟨"tuple", _, PyProof.Rows.slot_tuple_getitem.lookup, ht.typeIs, ?_⟩
 refine HT.getItem_tuple_cut ht hs pl pu (by rw [hlen]; exact hw) ?_ (by rw [hlen]; exact hz)
 rw [hlen]
 refine ⟨.ref s.heap.objs.size, _, I.laid (t' := s.toks) (o := .tup (cutV xs lo hi)) (fun b ob q => Heap.get?_push_of_some _ q) (Nat.le_refl _) ?_, rfl, q _ (I.hok.fresh (Nat.le_refl _))⟩
 exact ⟨Nat.le_trans (ZcE xs lo hi) hz, _, (r.drop (HT.sIx xs.length 0 lo)).take (HT.sIx xs.length xs.length hi - HT.sIx xs.length 0 lo), IsTup.new _ _⟩
noncomputable def rCatT (K : W.Frag) : R2 := fun x y H Q => ∃ a b xs ys, x = .ref a /\ y = .ref b /\ SqT K H a xs /\ SqT K H b ys /\ xs ≠ [] /\ xs.length + ys.length <= sizeLine /\
 (ys = [] -> Q (.ref a) H) /\ (ys ≠ [] -> ∀ p, H p = none -> Q (.ref p) (upd H p (.tup (xs ++ ys))))
theorem Vals.nil_iff {xs : List V} {us : List Value} (r : Vals xs us) : us = [] ↔ xs = [] := by
 cases r with
 | nil => simp
 | cons _ _ => simp
theorem op_catT : OpR X (binaryOp .Add) (rCatT X.K) := by
 intro pins s σ H x y v u Q I rx ry h
 obtain ⟨a, b, xs, ys, rfl, rfl, ha, hb, hx, hz, q1, q2⟩ := h
 cases rx
 cases ry
 obtain ⟨its, r1, p1, _⟩ := I.tuple ha
 obtain ⟨its2, r2, p2, _⟩ := I.tuple hb
 refine HT.cat_tup p1 p2 (fun z => hx (r1.nil_iff.mp z)) (fun z => ⟨.ref a, H, I, rfl, q1 (r2.nil_iff.mp z)⟩) (fun z => ?_) (by rw [← r1.length, ← r2.length]; exact hz)
 refine ⟨.ref s.heap.objs.size, _, I.laid (t' := s.toks) (o := .tup (xs ++ ys)) (fun b ob q => Heap.get?_push_of_some _ q) (Nat.le_refl _) ?_, rfl, q2 (fun w => z (r2.nil_iff.mpr w)) _ (I.hok.fresh (Nat.le_refl _))⟩
 exact ⟨by rw [List.length_append]; exact hz, _, r1.append r2, IsTup.new _ _⟩
end
noncomputable def ixN (n : Nat) (i : Int) : Option Nat := if 0 <= i then (if i < n then some i.toNat else none) else if -(n : Int) <= i then some (i + n).toNat else none
noncomputable def atI {α : Type} (xs : List α) (i : Int) : Option α := (ixN xs.length i).bind fun j => xs[j]?
theorem ixN_seq {n : Nat} {i : Int} {j : Nat} (h : ixN n i = some j) : seqIndex? i n = some j /\ j < n /\ -(n : Int) <= i /\ i < n := by
 unfold ixN at h
 by_cases h0 : 0 <= i
 ·rw [if_pos h0] at h
  by_cases h1 : i < n
  ·rw [if_pos h1] at h
   have e : i.toNat = j := Option.some.inj h
   exact ⟨by rw [seqIndex_of h0 h1, e], by lia, by lia, h1⟩
  ·rw [if_neg h1] at h; cases h
 ·rw [if_neg h0] at h
  by_cases h1 : -(n : Int) <= i
  ·rw [if_pos h1] at h
   have e : (i + n).toNat = j := Option.some.inj h
   exact ⟨by rw [seqIndex_neg (by lia) h1, e], by lia, h1, by lia⟩
  ·rw [if_neg h1] at h; cases h
theorem atI_get {α : Type} {xs : List α} {i : Int} {v : α} (h : atI xs i = some v) : ∃ j, seqIndex? i xs.length = some j /\ xs[j]? = some v /\ j < xs.length /\ -(xs.length : Int) <= i /\ i < xs.length := by
 unfold atI at h
 cases e : ixN xs.length i with
 | none => rw [e] at h; cases h
 | some j =>
  rw [e] at h
  obtain ⟨h1, h2, h3, h4⟩ := ixN_seq e
  exact ⟨j, h1, h, h2, h3, h4⟩
noncomputable def PlainIx (b : Expr) : Prop := ∀ o i, subscripted b false o i = operate [o, i] (getItem o i)
noncomputable def IxR (X : Cx) (r : R2) : Prop :=
 ∀ (value slice : Expr) (pins : List (Addr × Obj)) (s : Shared) (σ : St) (H : Hp) (x y : V) (v u : Value) (Q : VK), Inv X pins σ H s -> RelV x v -> RelV y u -> r x y H Q ->
  subscripted slice false v u = operate [v, u] (getItem v u) -> wpAny (model X.prog X.w) X.A (subscriptTail value slice v u) (EP X pins σ Q) X.xe s
noncomputable def MtR (X : Cx) (id : String) (r : V -> List V -> Hp -> VK -> Prop) : Prop :=
 ∀ (pins : List (Addr × Obj)) (s : Shared) (σ : St) (H : Hp) (x : V) (xs : List V) (v : Value) (us : List Value) (Q : VK), Inv X pins σ H s -> RelV x v -> Vals xs us -> r x xs H Q ->
  wpAny (model X.prog X.w) X.A (call (.builtin id) (v :: us)) (EP X pins σ Q) X.xe s
section
variable {X : Cx} {a b : Expr} {ta tb : TE} {pos : Pos}
theorem IxR.or {r r' : R2} (h : IxR X r) (h' : IxR X r') : IxR X (fun x y H Q => r x y H Q \/ r' x y H Q) := by
 intro value slice pins s σ H x y v u Q I rx ry q hs
 rcases q with q | q
 ·exact h value slice pins s σ H x y v u Q I rx ry q hs
 ·exact h' value slice pins s σ H x y v u Q I rx ry q hs
theorem pe_ix {r : R2} (hr : IxR X r) (ha : PE X a ta) (hb : PE X b tb) (hs : PlainIx b) : PE X (.Subscript a b pos) (tOp r ta tb) := by
 intro pins s σ H Q I h
 exact Subscript_ (binT ha hb I h fun v u s2 x y H2 I2 rx ry q => hr a b pins s2 σ H2 x y v u Q I2 rx ry q (hs _ _))
noncomputable def rIxL (K : W.Frag) : R2 := fun x y H Q => ∃ p xs i v, x = .ref p /\ y = .int i /\ SqL K H p xs /\ atI xs i = some v /\ Q v H
noncomputable def rIxT (K : W.Frag) : R2 := fun x y H Q => ∃ p xs i v, x = .ref p /\ y = .int i /\ SqT K H p xs /\ atI xs i = some v /\ Q v H
noncomputable def rIxS : R2 := fun x y H Q => ∃ z i c, x = .str z /\ y = .int i /\ z.length <= sizeLine /\ atI z.cps.toList i = some c /\ Q (.str ⟨#[c]⟩) H
theorem ix_list : IxR X (rIxL X.K) := by
 intro value slice pins s σ H x y v u Q I rx ry h hs
 obtain ⟨p, xs, i, z, rfl, rfl, hq, he, q⟩ := h
 cases rx
 obtain ⟨t, rfl⟩ := ry
 obtain ⟨its, r, pl, hz⟩ := I.list hq
 obtain ⟨j, h1, h2, h3, h4, h5⟩ := atI_get he
 obtain ⟨w, ew, rw'⟩ := r.get h2
 have hl := r.length
 have hn := line63
 have fin : EP X pins σ Q w s := ⟨z, H, I, rw', q⟩
 by_cases h0 : 0 <= i
 ·have hj : i.toNat = j := by
   rw [seqIndex_of h0 h5] at h1
   exact Option.some.inj h1
  exact item_listR pl.isList h0 (by lia) (by rw [hj]; simpa using ew) fin hs
 ·have hj : (i + (its.toArray.size : Int)).toNat = j := by
   rw [seqIndex_neg (by lia) h4] at h1
   rw [List.size_toArray, ← hl]
   exact Option.some.inj h1
  exact subscriptTail_builtinR (x := w) pl.isList.typeIs slot_list_getitem.lookup
   (wpAny_getItem_list_neg (Q := fun r s' => r = w /\ EP X pins σ Q r s') pl.isList (by lia) (by rw [List.size_toArray] <;> lia) (by lia) (by rw [hj]; simpa using ew) ⟨rfl, fin⟩) hs
theorem ix_tup : IxR X (rIxT X.K) := by
 intro value slice pins s σ H x y v u Q I rx ry h hs
 obtain ⟨p, xs, i, z, rfl, rfl, hq, he, q⟩ := h
 cases rx
 obtain ⟨t, rfl⟩ := ry
 obtain ⟨its, r, pl, hz⟩ := I.tuple hq
 obtain ⟨j, h1, h2, h3, h4, h5⟩ := atI_get he
 obtain ⟨w, ew, rw'⟩ := r.get h2
 have hl := r.length
 have hn := line63
 have fin : EP X pins σ Q w s := ⟨z, H, I, rw', q⟩
 exact subscriptTail_builtinR (x := w) pl.typeIs slot_tuple_getitem.lookup
  (getItem_tuple (j := j) (Q := fun r s' => r = w /\ EP X pins σ Q r s') pl (by lia) (by lia) (by rw [List.size_toArray, ← hl]; exact h1) (by simpa using ew) ⟨rfl, fin⟩) hs
theorem ix_str : IxR X rIxS := by
 intro value slice pins s σ H x y v u Q I rx ry h hs
 obtain ⟨z, i, c, rfl, rfl, hz, he, q⟩ := h
 obtain ⟨t, rfl⟩ := rx
 obtain ⟨t', rfl⟩ := ry
 obtain ⟨j, h1, h2, h3, h4, h5⟩ := atI_get he
 have hl : z.cps.toList.length = z.length := by simp [Str.length]
 rw [hl] at h1 h4 h5
 have hn := line63
 exact tail_any (typeIs_str s z t) slot_str_getitem.lookup (getItem_str (c := c) (by
  have e1 : decide (i < -(2 ^ 63 : Int)) = false := decide_eq_false (by lia)
  have e2 : decide (i ≥ 2 ^ 63) = false := decide_eq_false (by lia)
  rw [e1, e2, Bool.or_false]) (by rw [h1]; simpa using h2) ⟨.str ⟨#[c]⟩, H, I.tok _, ⟨_, rfl⟩, q⟩) hs
noncomputable def rIx (K : W.Frag) : R2 := fun x y H Q => rIxL K x y H Q \/ rIxT K x y H Q \/ rIxS x y H Q
theorem ix_seq : IxR X (rIx X.K) := ix_list.or (ix_tup.or ix_str)
theorem mapSeq_set (its : List Value) (n j : Nat) (u : Value) : Obj.mapSeq (·.setIfInBounds j u) { cls := .type "list", data := .seq its.toArray n } = { cls := .type "list", data := .seq (its.set j u).toArray n } := by
 simp [Obj.mapSeq]
theorem Inv.lst {pins : List (Addr × Obj)} {σ : St} {H : Hp} {s : Shared} {p : Addr} {xs : List V} (I : Inv X pins σ H s) (h : H p = some (.lst xs)) :
  ∃ (its : List Value) (n : Nat), Vals xs its /\ s.heap.get? p = some { cls := .type "list", data := .seq its.toArray n } /\ xs.length <= sizeLine := by
 obtain ⟨z, its, n, r, e⟩ := I.hok p _ h
 exact ⟨its, n, r, e, z⟩
theorem Inv.lstUpd {pins : List (Addr × Obj)} {σ : St} {H : Hp} {s : Shared} {p : Addr} {xs ys : List V} {its its' : List Value} {n n' : Nat} {f : Obj -> Obj} (I : Inv X pins σ H s) (h : H p = some (.lst xs))
  (ho : s.heap.get? p = some { cls := .type "list", data := .seq its.toArray n }) (hf : f { cls := .type "list", data := .seq its.toArray n } = { cls := .type "list", data := .seq its'.toArray n' }) (r : Vals ys its') (hz : ys.length <= sizeLine) (t : Nat) :
  Inv X pins σ (upd H p (.lst ys)) { s with heap := s.heap.update p f, toks := t } := by
 have e : (s.heap.update p f).get? p = some { cls := .type "list", data := .seq its'.toArray n' } := by
  rw [Heap.get?_update_self f ho (by rw [hf] <;> rfl), hf]
 refine I.write (x := p) (e := p) (by rw [h]; trivial) (.inl rfl) (fun b u hb q => (Heap.get?_update_other _ _ (Ne.symm hb)).trans q) ⟨_, e⟩ ?_
 exact ⟨hz, its', n', r, e⟩
noncomputable def rSetL : V -> V -> V -> Hp -> (Hp -> Prop) -> Prop := fun o i v H Q => ∃ p xs k j, o = .ref p /\ i = .int k /\ H p = some (.lst xs) /\ ixN xs.length k = some j /\ Q (upd H p (.lst (xs.set j v)))
theorem set_list : PSet X rSetL := by
 intro pins s σ H o i v ov iv u Q I ro ri rv h
 obtain ⟨p, xs, k, j, rfl, rfl, hp, hj, q⟩ := h
 cases ro
 obtain ⟨t, rfl⟩ := ri
 obtain ⟨its, n, r, ho, hz⟩ := I.lst hp
 obtain ⟨h1, h2, h3, h4⟩ := ixN_seq hj
 have hl := r.length
 have hn := line63
 have I' : Inv X pins σ (upd H p (.lst (xs.set j v))) { s with heap := s.heap.update p (Obj.mapSeq (·.setIfInBounds j u)) } :=
  I.lstUpd hp ho (mapSeq_set its n j u) (r.set rv j) (by rw [List.length_set]; exact hz) s.toks
 by_cases h0 : 0 <= k
 ·have hk : k.toNat = j := by
   rw [seqIndex_of h0 h4] at h1
   exact Option.some.inj h1
  exact W.ki_setAt ho h0 (by lia) (by rw [List.size_toArray, ← hl]; exact h4) (by rw [hk]; exact ⟨_, I', q⟩)
 ·have hk : (k + (its.toArray.size : Int)).toNat = j := by
   rw [seqIndex_neg (by lia) h3] at h1
   rw [List.size_toArray, ← hl]
   exact Option.some.inj h1
  exact W.ki_setBack ho (by lia) (by rw [List.size_toArray, ← hl]; exact h3) (by lia) (by rw [hk]; exact ⟨_, I', q⟩)
theorem slice_bounds (lo hi : Option Int) (n : Nat) : (sliceBounds lo hi none n).1 = ((HT.sIx n 0 lo : Nat) : Int) /\ (sliceBounds lo hi none n).2.1 = ((HT.sIx n n hi : Nat) : Int) /\ (sliceBounds lo hi none n).2.2 = 1 := by
 refine ⟨?_, ?_, rfl⟩
 ·cases lo with
  | none => simp [sliceBounds, HT.sIx]
  | some i =>
   simp only [sliceBounds, HT.sIx, Option.getD_none, show (1 : Int) > 0 by decide, if_true]
   by_cases h : i < 0
   ·simp only [h, if_true] <;> lia
   ·simp only [h, if_false] <;> lia
 ·cases hi with
  | none => simp [sliceBounds, HT.sIx]
  | some i =>
   simp only [sliceBounds, HT.sIx, Option.getD_none, show (1 : Int) > 0 by decide, if_true]
   by_cases h : i < 0
   ·simp only [h, if_true] <;> lia
   ·simp only [h, if_false] <;> lia
theorem slicePick_cut (its : List Value) (lo hi : Option Int) : slicePick its.toArray lo hi none = ((its.drop (HT.sIx its.length 0 lo)).take (HT.sIx its.length its.length hi - HT.sIx its.length 0 lo)).toArray := by
 obtain ⟨h1, h2, h3⟩ := slice_bounds lo hi its.toArray.size
 unfold slicePick
 rw [h1, h2, h3]
 simp only [sliceRange_one, pick_run, List.size_toArray] <;> rfl
noncomputable def rSlL (K : W.Frag) : V -> Option Int -> Option Int -> Hp -> VK -> Prop := fun x lo hi H Q => ∃ a xs, x = .ref a /\ SqL K H a xs /\ ∀ p, H p = none -> Q (.ref p) (upd H p (.lst (cutV xs lo hi)))
theorem sl_list : SlR X (rSlL X.K) := by
 intro pins s σ H x v vl vu lo hi sl Q I rx hs pl pu h
 obtain ⟨a, xs, rfl, hx, q⟩ := h
 cases rx
 obtain ⟨its, r, ht, hz⟩ := I.list hx
 have hlen := r.length
 refine ⟨"list", _, slot_list_getitem.lookup, ht.isList.typeIs, ?_⟩
 refine wpAny_getItem_list_slice ht.isList hs pl pu .none (by simp) ?_ (by rw [List.size_toArray] <;> lia)
 rw [slicePick_cut, ← hlen]
 refine ⟨.ref s.heap.objs.size, _, I.laid (t' := s.toks) (o := .lst (cutV xs lo hi)) (fun b ob q => Heap.get?_push_of_some _ q) (Nat.le_refl _) ?_, rfl, q _ (I.hok.fresh (Nat.le_refl _))⟩
 exact ⟨Nat.le_trans (ZcE xs lo hi) hz, _, 0, (r.drop (HT.sIx xs.length 0 lo)).take (HT.sIx xs.length xs.length hi - HT.sIx xs.length 0 lo), Heap.get?_push_size _ rfl⟩
noncomputable def flatV : V -> Bool
 | .non => true
 | .bl _ => true
 | .int _ => true
 | .str _ => true
 | _ => false
noncomputable def eqV : V -> V -> Bool
 | .non, .non => true
 | .bl a, .bl b => a == b
 | .bl a, .int b => (if a then 1 else 0) == b
 | .int a, .bl b => a == (if b then 1 else 0)
 | .int a, .int b => a == b
 | .str a, .str b => a == b
 | _, _ => false
theorem eqAt_V {A : Around} {s : Shared} {y x : V} {u v : Value} (ry : RelV y u) (rx : RelV x v) (fy : flatV y = true) (fx : flatV x = true) : SeqAt.EqAt A s u v (eqV y x) := by
 cases y with
 | non =>
  cases ry
  cases x with
  | non => cases rx; exact SeqAt.EqAt.same _
  | bl b => cases rx; exact SeqAt.EqAt.none_bool b
  | int b => obtain ⟨t, rfl⟩ := rx; exact SeqAt.EqAt.none_int b t
  | str b => obtain ⟨t, rfl⟩ := rx; exact SeqAt.EqAt.none_str b t
  | _ => exact absurd (show false = true from fx) Bool.false_ne_true
 | bl a =>
  cases ry
  cases x with
  | non => cases rx; exact SeqAt.EqAt.bool_none a
  | bl b => cases rx; exact SeqAt.EqAt.bool_bool a b
  | int b => obtain ⟨t, rfl⟩ := rx; exact SeqAt.EqAt.bool_int a b t
  | str b => obtain ⟨t, rfl⟩ := rx; exact SeqAt.EqAt.bool_str a b t
  | _ => exact absurd (show false = true from fx) Bool.false_ne_true
 | int a =>
  obtain ⟨t', rfl⟩ := ry
  cases x with
  | non => cases rx; exact SeqAt.EqAt.int_none a t'
  | bl b => cases rx; exact SeqAt.EqAt.int_bool a t' b
  | int b => obtain ⟨t, rfl⟩ := rx; exact SeqAt.EqAt.int_int a t' b t
  | str b => obtain ⟨t, rfl⟩ := rx; exact SeqAt.EqAt.int_str a t' b t
  | _ => exact absurd (show false = true from fx) Bool.false_ne_true
 | str a =>
  obtain ⟨t', rfl⟩ := ry
  cases x with
  | non => cases rx; exact SeqAt.EqAt.str_none a t'
  | bl b => cases rx; exact SeqAt.EqAt.str_bool a t' b
  | int b => obtain ⟨t, rfl⟩ := rx; exact SeqAt.EqAt.str_int a t' b t
  | str b => obtain ⟨t, rfl⟩ := rx; exact SeqAt.EqAt.str_str a t' b t
  | _ => exact absurd (show false = true from fx) Bool.false_ne_true
 | _ => exact absurd (show false = true from fy) Bool.false_ne_true
noncomputable def eqU (x : V) (u : Value) : Bool := match u with
 | .none => eqV .non x
 | .bool b => eqV (.bl b) x
 | .int i _ => eqV (.int i) x
 | .str z _ => eqV (.str z) x
 | _ => false
theorem eqU_of {x y : V} {u : Value} (r : RelV y u) (f : flatV y = true) : eqU x u = eqV y x := by
 cases y with
 | non => cases r; rfl
 | bl b => cases r; rfl
 | int i => obtain ⟨t, rfl⟩ := r; rfl
 | str z => obtain ⟨t, rfl⟩ := r; rfl
 | _ => exact absurd (show false = true from f) Bool.false_ne_true
theorem any_eqU {x : V} : ∀ {xs : List V} {us : List Value}, Vals xs us -> xs.all flatV = true -> us.any (eqU x) = xs.any fun y => eqV y x
 | _, _, .nil, _ => rfl
 | y :: xs, u :: us, .cons r t, f => by
  rw [List.all_cons, Bool.and_eq_true] at f
  rw [List.any_cons, List.any_cons, eqU_of r f.1, any_eqU t f.2]
theorem Zci {A : Around} {s : Shared} {x : V} {v : Value} (rx : RelV x v) (fx : flatV x = true) : ∀ {xs : List V} {us : List Value}, Vals xs us -> xs.all flatV = true -> ∀ u ∈ us, SeqAt.EqAt A s u v (eqU x u)
 | _, _, .nil, _ => fun u hu => by cases hu
 | y :: xs, u :: us, .cons r t, f => fun u' hu => by
  rw [List.all_cons, Bool.and_eq_true] at f
  rcases List.mem_cons.mp hu with rfl | hu
  ·rw [eqU_of r f.1]; exact eqAt_V r rx f.1 fx
  ·exact Zci rx fx t f.2 u' hu
noncomputable def inV (x : V) (xs : List V) : Bool := xs.any fun y => eqV y x
noncomputable def rIn (K : W.Frag) (neg : Bool) : R2 := fun x y H Q => ∃ p xs, y = .ref p /\ (SqL K H p xs \/ SqT K H p xs) /\ flatV x = true /\ xs.all flatV = true /\ Q (.bl (if neg then !inV x xs else inV x xs)) H
theorem op_in_seq : OpR X (compareOp .In) (rIn X.K false) := by
 intro pins s σ H x y v u Q I rx ry h
 obtain ⟨p, xs, rfl, hq, fx, fs, q⟩ := h
 cases ry
 rcases hq with hq | hq
 ·obtain ⟨its, r, pl, hz⟩ := I.list hq
  refine SeqAt.in_listAt (eqU x) pl.isList (fun w hw => Zci rx fx r fs w (by simpa using hw)) ⟨.bl _, H, I, rfl, ?_⟩
  rw [show its.toArray.any (eqU x) = its.any (eqU x) by simp, any_eqU r fs]
  exact q
 ·obtain ⟨its, r, pl, hz⟩ := I.tuple hq
  refine SeqAt.in_tupleAt (eqU x) pl (fun w hw => Zci rx fx r fs w (by simpa using hw)) ⟨.bl _, H, I, rfl, ?_⟩
  rw [show its.toArray.any (eqU x) = its.any (eqU x) by simp, any_eqU r fs]
  exact q
theorem CallR.or {f : Value} {r r' : List V -> Hp -> VK -> Prop} (h : CallR X f r) (h' : CallR X f r') : CallR X f (fun xs H Q => r xs H Q \/ r' xs H Q) := by
 intro pins s σ H xs us Q I rs q
 rcases q with q | q
 ·exact h pins s σ H xs us Q I rs q
 ·exact h' pins s σ H xs us Q I rs q
theorem call_list_of : CallR X (.type "list") (fun xs H Q => ∃ p ys, xs = [.ref p] /\ (SqL X.K H p ys \/ SqT X.K H p ys) /\ ∀ l, H l = none -> Q (.ref l) (upd H l (.lst ys))) := by
 intro pins s σ H xs us Q I r h
 obtain ⟨p, ys, rfl, hq, q⟩ := h
 obtain ⟨u, rfl, rx⟩ := vals1 r
 cases rx
 have fin : ∀ (its : List Value), Vals ys its -> ys.length <= sizeLine -> ∀ (h' : Heap) (c' : Nat), (∀ b o', s.heap.get? b = some o' -> h'.get? b = some o') ->
   h'.get? s.heap.objs.size = some { cls := .type "list", dict := none, data := .seq its.toArray c', slots := #[] } -> EP X pins σ Q (.ref s.heap.objs.size) { s with heap := h' } := fun its r' hz h' c' kp e =>
  ⟨.ref s.heap.objs.size, _, I.laid (t' := s.toks) kp (Nat.le_refl _) (show ObjOk X.prog X.w _ h' _ (.lst ys) from ⟨hz, its, c', r', e⟩), rfl, q _ (I.hok.fresh (Nat.le_refl _))⟩
 rcases hq with hq | hq
 ·obtain ⟨its, r', pl, hz⟩ := I.list hq
  have hlen := r'.length
  obtain ⟨o, ho, hc, n, hd⟩ := pl.isList
  exact call_list_seq p (.inl rfl) ho hc hd (fun h' c' kp e => fin its r' hz h' c' kp e) (by simp only [List.size_toArray] <;> lia)
 ·obtain ⟨its, r', pl, hz⟩ := I.tuple hq
  have hlen := r'.length
  obtain ⟨o, ho, hc, n, hd⟩ := pl
  exact call_list_seq p (.inr rfl) ho hc hd (fun h' c' kp e => fin its r' hz h' c' kp e) (by simp only [List.size_toArray] <;> lia)
theorem call_tuple_of : CallR X (.type "tuple") (fun xs H Q => ∃ p ys, xs = [.ref p] /\ ((SqL X.K H p ys /\ ∀ l, H l = none -> Q (.ref l) (upd H l (.tup ys))) \/ (SqT X.K H p ys /\ Q (.ref p) H))) := by
 intro pins s σ H xs us Q I r h
 obtain ⟨p, ys, rfl, h⟩ := h
 obtain ⟨u, rfl, rx⟩ := vals1 r
 cases rx
 rcases h with ⟨hq, q⟩ | ⟨hq, q⟩
 ·obtain ⟨its, r', pl, hz⟩ := I.list hq
  have hlen := r'.length
  refine call_tuple_list pl.isList (fun h' kp => ?_) (by simp only [List.size_toArray] <;> lia)
  have I1 : Inv X pins σ H { s with heap := h' } := I.kept (t' := s.toks) kp
  have I2 : Inv X pins σ (upd H h'.objs.size (.tup ys)) { s with heap := h'.push { cls := .type "tuple", data := .seq its.toArray } } :=
   I1.laid (t' := s.toks) (fun b o e => Heap.get?_push_of_some _ e) (Nat.le_refl _) (show ObjOk X.prog X.w _ _ _ (.tup ys) from ⟨hz, its, r', IsTup.new _ _⟩)
  exact ⟨.ref h'.objs.size, _, I2, rfl, q _ (I1.hok.fresh (Nat.le_refl _))⟩
 ·obtain ⟨its, r', pl, hz⟩ := I.tuple hq
  exact call_tuple_same pl ⟨.ref p, H, I, rfl, q⟩
noncomputable def tyV (K : W.Frag) (T : String) (x : V) (H : Hp) : Prop := match x with
 | .str _ => T = "str"
 | .int _ => T = "int"
 | .ref p => (T = "list" /\ ∃ xs, SqL K H p xs) \/ (T = "tuple" /\ ∃ o, K.lookup p = some o /\ o.cls = .type "tuple" /\ o.dict = none) \/
   (T = "dict" /\ ((∃ kvs, H p = some (.dK kvs)) \/ ∃ kvs, H p = some (.dT kvs))) \/ (T = "set" /\ ∃ S n, H p = some (.set S n))
 | _ => False
theorem tyV_is {pins : List (Addr × Obj)} {σ : St} {H : Hp} {s : Shared} {T : String} {x : V} {v : Value} (I : Inv X pins σ H s) (r : RelV x v) (ty : tyV X.K T x H) :
  s.TypeIs v T /\ ∀ a, v = .ref a -> ∃ ob, s.heap.get? a = some ob /\ ob.dict = none := by
 cases x with
 | str z =>
  obtain ⟨t, rfl⟩ := r
  cases (show T = "str" from ty)
  exact ⟨typeIs_str s z t, fun _ e => nomatch e⟩
 | int i =>
  obtain ⟨t, rfl⟩ := r
  cases (show T = "int" from ty)
  exact ⟨typeIs_int s i t, fun _ e => nomatch e⟩
 | ref p =>
  cases r
  rcases ty with ⟨rfl, xs, hq⟩ | ⟨rfl, o, hk, hc, hd⟩ | ⟨rfl, hk⟩ | ⟨rfl, S, n, hk⟩
  ·obtain ⟨its, _, pl, _⟩ := I.list hq
   refine ⟨pl.isList.typeIs, fun a e => ?_⟩
   cases e
   obtain ⟨o, n, e, c, hd, _⟩ := pl
   exact ⟨o, e, hd⟩
  ·refine ⟨⟨o, I.kIn p o hk, hc⟩, fun a e => ?_⟩
   cases e
   exact ⟨o, I.kIn _ o hk, hd⟩
  ·have z : ∃ o, s.heap.get? p = some o /\ o.ExactDict := by
    rcases hk with ⟨kvs, hk⟩ | ⟨kvs, hk⟩
    ·obtain ⟨_, _, _, _, o, _, _, e, ex, _⟩ := I.hok p _ hk
     exact ⟨o, e, ex⟩
    ·obtain ⟨_, _, _, _, o, _, _, e, ex, _⟩ := I.hok p _ hk
     exact ⟨o, e, ex⟩
   obtain ⟨o, e, ex⟩ := z
   refine ⟨⟨o, e, ex.1⟩, fun a e2 => ?_⟩
   cases e2
   exact ⟨o, e, ex.2.1⟩
  ·obtain ⟨o, _, _, _, e, ex, _⟩ := I.hok p _ hk
   refine ⟨⟨o, e, ex.1⟩, fun a e2 => ?_⟩
   cases e2
   exact ⟨o, e, ex.2.1⟩
 | _ => exact False.elim ty
noncomputable def tBM (K : W.Frag) (T : String) (r : V -> List V -> Hp -> VK -> Prop) (to : TE) (t : TA) : TE := fun σ H Q => to σ H fun x H1 => tyV K T x H1 /\ t σ H1 fun xs H2 => r x xs H2 Q
variable {o e : Expr} {es : List Expr} {to : TE} {t : TA} {name : Str} {apos cpos : Pos} {T id : String} {r : V -> List V -> Hp -> VK -> Prop}
theorem pe_bm (pa : PlainAttrs T) (slot : Slot T name id) (hty : typeOf (.builtin id) = pure (.type "method_descriptor")) (hm : MtR X id r) (ho : PE X o to) (ha : PA X (e :: es) t)
  (hbase : attributeBase o name X.env (eval o X.env) = eval o X.env := by rfl)
  (hfew : ((backTo cpos (starEach (e :: es) X.env)).all (fun x => !x.1) && (backToKw cpos (keywordEach [] X.env)).all (fun x => x.1.isSome)
   && decide ((e :: es).length + ([] : List Keyword).length + (if ([] : List Keyword).isEmpty then 0 else 1) < 30)) = true := by rfl)
  (hline : (apos.endLine == cpos.line) = true := by rfl) (hs : starEach (e :: es) X.env = (false, eval e X.env) :: starEach es X.env := by rfl) (hplain : (backTo cpos (starEach es X.env)).any (·.1) = false := by rfl) :
  PE X (.Call (.Attribute o name apos) (e :: es) [] cpos) (tBM X.K T r to t) := by
 intro pins s σ H Q I h
 refine wpAny_Call_method_late hbase hfew hline rfl (thn (ho pins s σ H _ I h) fun v s1 h_ => ?_)
 obtain ⟨x, H1, I1, r1, ty, q1⟩ := h_
 obtain ⟨h1, h2⟩ := tyV_is I1 r1 ty
 refine ⟨T, id, pa, slot, hty, h1, h2, ?_⟩
 have hA := ha cpos pins s1 σ H1 _ I1 q1
 rw [hs] at hA ⊢
 refine Calls.callWith_builtin (by show (false || (backTo cpos (starEach es X.env)).any (·.1)) = false; rw [hplain] <;> rfl) (Calls.evalArgs_plain ?_)
 exact thn hA fun us s2 ⟨vs, H2, I2, r2, q2⟩ => hm pins s2 σ H2 x vs v us Q I2 r1 r2 q2
end
noncomputable def MtM (X : Cx) (id : String) (r : V -> List V -> Hp -> VK -> Prop) : Prop :=
 ∀ (pins : List (Addr × Obj)) (s : Shared) (σ : St) (H : Hp) (x : V) (xs : List V) (v : Value) (us : List Value) (Q : VK), Inv X pins σ H s -> RelV x v -> Vals xs us -> r x xs H Q ->
  wpAny (model X.prog X.w) X.A (call (.builtin id) (v :: us)) (EP X pins σ Q) X.xe s
theorem Vals.one : ∀ {x : V} {us : List Value}, Vals [x] us -> ∃ u, us = [u] /\ RelV x u := by
 intro x us r
 cases r with
 | cons r t => cases t; exact ⟨_, rfl, r⟩
theorem Vals.two : ∀ {x y : V} {us : List Value}, Vals [x, y] us -> ∃ u v, us = [u, v] /\ RelV x u /\ RelV y v := by
 intro x y us r
 cases r with
 | cons r t => cases t with
  | cons q t => cases t; exact ⟨_, _, rfl, r, q⟩
section
variable {X : Cx} {pins : List (Addr × Obj)} {σ : St} {H : Hp} {s : Shared} {l b : Addr} {xs ys zs : List V}
theorem Inv.lset {its its' : List Value} {n : Nat} {f : Array Value -> Array Value} {t' : Nat} (I : Inv X pins σ H s) (hH : H l = some (.lst xs))
  (e : s.heap.get? l = some { cls := .type "list", data := .seq its.toArray n }) (hf : f its.toArray = its'.toArray) (hv : Vals ys its') (hz : ys.length <= sizeLine) :
  Inv X pins σ (upd H l (.lst ys)) { s with heap := s.heap.update l (Obj.mapSeq f), toks := t' } := by
 have q := PySem.IsL.update e f
 rw [hf] at q
 refine I.write (x := l) (e := l) (by rw [hH]; exact trivial) (.inl rfl) (fun b' u hb hu => (Heap.get?_update_other s.heap (Obj.mapSeq f) (Ne.symm hb)).trans hu) ⟨_, q⟩ ?_
 exact ⟨hz, its', _, hv, q⟩
theorem Inv.lnew {its : List Value} {t' : Nat} (I : Inv X pins σ H s) (hv : Vals ys its) (hz : ys.length <= sizeLine) :
  Inv X pins σ (upd H s.heap.objs.size (.lst ys)) { s with heap := s.heap.push { cls := .type "list", data := .seq its.toArray }, toks := t' } :=
 I.laid (fun _ _ q => Heap.get?_push_of_some _ q) (Nat.le_refl _) ⟨hz, its, 0, hv, Heap.get?_push_size _ rfl⟩
theorem Inv.fresh (I : Inv X pins σ H s) : H s.heap.objs.size = none := I.hok.fresh (Nat.le_refl _)
theorem Inv.lstM (I : Inv X pins σ H s) (hH : H l = some (.lst xs)) : xs.length <= sizeLine /\ ∃ (its : List Value) (n : Nat), Vals xs its /\ xs.length = its.length /\ s.heap.get? l = some { cls := .type "list", data := .seq its.toArray n } := by
 obtain ⟨z, its, n, r, e⟩ := I.hok l _ hH
 exact ⟨z, its, n, r, r.length, e⟩
end
section
variable {X : Cx}
noncomputable def rAppend : V -> List V -> Hp -> VK -> Prop := fun x vs H Q => ∃ l xs y, x = .ref l /\ vs = [y] /\ H l = some (.lst xs) /\ xs.length < sizeLine /\ Q .non (upd H l (.lst (xs ++ [y])))
theorem mt_append : MtM X "list.append" rAppend := by
 intro pins s σ H x vs v us Q I rx rv h
 obtain ⟨l, xs, y, rfl, rfl, hH, hz, q⟩ := h
 cases rx
 obtain ⟨u, rfl, ru⟩ := rv.one
 obtain ⟨z, its, n, r, hl, e⟩ := I.lstM hH
 refine call_meets F.slot_list_append ⟨_, e, rfl⟩ F.entry_list_append (F.args_list_append_2 _ _) (PySem.list_append l its.toArray n u (by rw [List.size_toArray]; lia)) ⟨e, ?_⟩
 refine ⟨.non, _, I.lset (its' := its ++ [u]) hH e (by simp) (r.append (.cons ru .nil)) ?_, rfl, q⟩
 rw [List.length_append, List.length_singleton]
 lia
end
end L2
namespace Att
open PySem PySem.W PySem.Calls PyProof.Rows
theorem Zcx {P : Params} {h : Heap} : ∀ (ns : List Int) (vs : List Value), WellAll P h vs (ns.map WData.int) -> IntsAre vs ns := by
 intro ns
 induction ns with
 | nil =>
  intro vs w
  rw [List.map_nil] at w
  cases w
  exact .nil
 | cons n ns ih =>
  intro vs w
  rw [List.map_cons] at w
  cases w with
  | cons a b =>
   cases a
   exact .cons _ _ (ih _ b)
theorem script_of {l : OpenLaw} {n : Nat} (hn : l.most = some n) {P : Params} {h : Heap} {args : List WData} {vals : List Value}
    (hpre : l.row.toRowW.claim.pre args = true) (hwl : WellAll P h vals args) :
    ∃ a vs ns, vals = [Value.ref a] /\ args = [WData.list (ns.map WData.int)] /\ h.get? a = some { cls := .type "list", data := .seq vs.toArray } /\ IntsAre vs ns /\ ns.length <= n := by
  have hsh : WShape.hasAll [] args [.list .int] = true := (pre_splitW hpre).1
  have hc : l.pre.holds [] { args := args } = true := (pre_splitW hpre).2
  obtain ⟨d, r, rfl, h1, h2⟩ := hasAllW_cons hsh
  obtain rfl := hasAllW_nil h2
  obtain ⟨xs, rfl, h3⟩ := hasW_list h1
  obtain ⟨ns, rfl⟩ := items_int h3
  have hlen : ns.length <= n := by
    unfold OpenLaw.pre at hc
    have h4 : (WTm.not (.lt (.lit (.int (n : Int))) (.len (.arg 0)))).holds [] { args := [.list (ns.map .int)] } = true := by
      have h4 := (holds_andW hc).1
      rw [hn] at h4
      exact h4
    have h5 := condW_of h4 (w_not (w_lt w_lit (w_len_list (w_arg rfl))))
    rw [List.length_map] at h5
    refine Nat.le_of_not_lt fun q => ?_
    have q' : (n : Int) < ((ns.length : Nat) : Int) := by lia
    first
      | (rw [decide_eq_true q'] at h5; exact absurd h5 (by decide))
      | (simp at h5; lia)
  cases hwl with
  | cons w1 w2 =>
    cases w2
    cases w1 with
    | list ho hall => exact ⟨_, _, ns, rfl, rfl, ho, Zcx ns _ hall, hlen⟩
theorem post_true (l : OpenLaw) (args : List WData) : l.row.toRowW.claim.post args (.bool true) args = true :=
 postW_of (r := l.row.toRowW) (X := (true == true))
  (show WShape.has [] (.bool true) .bool = true by first | rfl | decide | simp [WShape.has, WShape.arms, WShape.armsAll])
  (show (WTm.eq .res (.lit (.bool true))).value [] { args := args, res := some (.bool true), after := args } = some (.bool (true == true)) from w_eq_bool (w_res rfl) w_lit) rfl
theorem attach_call {l : OpenLaw} {n : Nat} {q : Program} {loose : List Str} {XP : (Str -> Option Value) -> Heap -> Prop} {YP : World -> Heap -> Prop} {d : DefRec}
  (hn : l.most = some n) (hdf : d.params.defaults = [])
  (call : ∀ (w : World) (s₀ s₁ : Shared) (mg mb : Str -> Option Value) (fa : Addr) (o : Obj) (pm cd doc : Value) (a : Addr) (vs : List Value) (ns : List Int),
   Ground q loose [] XP w s₀ mg mb s₁.heap -> YP w s₁.heap ->
   s₁.heap.get? fa = some o -> o.data = .func (docDef d.name d.params d.body d.scope pm cd doc) -> s₁.heap.CodeRec cd d.name -> mg d.name = some (.ref fa) ->
   s₁.heap.get? a = some { cls := .type "list", data := .seq vs.toArray } -> IntsAre vs ns -> ns.length <= n -> s₁.gens = #[] ->
   codeAny (model l.prog w) callerA (.call (.ref fa) ⟨[.ref a], []⟩) (fun r s' => r = .ok (.ret (.bool true)) /\ OldK s₁.heap s'.heap /\ s'.os = s₁.os /\ AllBare s'.gens) s₁) :
  WalkO q loose XP YP l.row.toRowW d [] (fun f vs => PySem.call f vs) := by
 intro w s₀ s₁ mg mb G Y fa o pm cd doc dV kV ho hd hcd hD hmg hg args vals as hpre hlay hrd hwl hlo
 obtain rfl : dV = .none := Dflts.none hD hdf
 obtain rfl : kV = .none := Dflts.noKw hD
 obtain ⟨a, vs, ns, rfl, rfl, hobj, hints, hlen⟩ := script_of hn hpre hwl
 refine enter_call (codeAny_mono (call w s₀ s₁ mg mb fa o pm cd doc a vs ns G Y ho (fd_plain hd) hcd hmg hobj hints hlen hg) fun r s' hq => ?_)
 obtain ⟨rfl, h2, h3, h4⟩ := hq
 exact ⟨.inl ⟨.bool true, .bool true, [], rfl, fun _ => rfl, .bool true, post_true l _, fun _ => ⟨List.Pairwise.nil, fun _ hm => (nomatch hm)⟩⟩, h2, h3, h4⟩
end Att
namespace L2
open PySem PySem.Spec PyProof.Rows
theorem vals_ints : ∀ {vs : List Value} {ns : List Int}, IntsAre vs ns -> Vals (ns.map V.int) vs
 | _, _, .nil => .nil
 | _, _, .cons n t h => .cons ⟨t, rfl⟩ (vals_ints h)
noncomputable def Only (H : Hp) : Prop := ∀ b, H b = none \/ ∃ o xs, H b = some (.frz o (.lst xs))
theorem law_call {P : Program} {w : World} {K : W.Frag} {mg mb : Str -> Option Value} {CX : CXT} {k : Nat} {fa a : Addr} {fd : FuncData} {x : Str} {sp : Sp} {s₁ : Shared} {vs : List Value} {ns : List Int}
  (KX : K.In s₁.heap) (hns : s₁.heap.Ns mainGlobals mg) (hb : s₁.heap.Ns builtinsNs mb) (hbb : ∀ x : Str, x ≠ "__name__" -> mb x = bootBuiltins x) (hlim : s₁.heap.NoLimit) (hg : s₁.gens = #[])
  (ha : s₁.heap.get? a = some { cls := .type "list", data := .seq vs.toArray }) (hi : IntsAre vs ns) (hl : ns.length <= sizeLine) (hr : Room k callerA)
  (F : ∀ base : Heap, K.In base -> base.Ns mainGlobals mg -> FnOk P w K mg base CX k fa fd [x] sp) (hbind : ∀ (s : Shared) (u : Value), BindsTo s fd ⟨[u], []⟩ [(x, u)])
  (hsp : ∀ H : Hp, Only H -> SqL K H a (ns.map V.int) -> sp [.ref a] H (fun v _ => v = .bl true) fun _ _ _ => False)
  (hCX : ∀ H e s', CX [] H s₁ (fun _ _ _ => False) e s' -> False) :
  codeAny (model P w) callerA (.call (.ref fa) ⟨[.ref a], []⟩) (fun r s' => r = .ok (.ret (.bool true)) /\ OldK s₁.heap s'.heap /\ s'.os = s₁.os /\ AllBare s'.gens) s₁ := by
 have rv := vals_ints hi
 have lenV := hi.length
 have core : ∀ H : Hp, Only H -> SqL K H a (ns.map V.int) -> HOk P w H s₁.heap -> (∀ b, H b ≠ none -> b = a) -> (H a ≠ none -> K.lookup a = none) ->
   codeAny (model P w) callerA (.call (.ref fa) ⟨[.ref a], []⟩) (fun r s' => r = .ok (.ret (.bool true)) /\ OldK s₁.heap s'.heap /\ s'.os = s₁.os /\ AllBare s'.gens) s₁ := by
  intro H hO hS hok hA hK
  have base_of : ∀ {b : Addr} {o : Obj}, s₁.heap.get? b = some o -> H b = none -> (hidT s₁.heap H).get? b = some o := fun e n => hidT_get e n
  have noA : ∀ {b : Addr} {o : Obj} {es : Array DictEntry} {ep : Nat}, s₁.heap.get? b = some o -> o.data = .dict es ep -> H b = none := fun {b o es ep} e d => by
   cases q : H b with
   | none => rfl
   | some u =>
    have e' : b = a := hA b (by rw [q]; simp)
    subst e'
    rw [ha] at e; cases e
    have d' : Data.seq vs.toArray _ = Data.dict es ep := d
    cases d'
  have nsK : ∀ {b : Addr} {m : Str -> Option Value}, s₁.heap.Ns b m -> (hidT s₁.heap H).Ns b m := fun {b m} ⟨o, es, ep, e, d, r⟩ => ⟨o, es, ep, base_of e (noA e d), d, r⟩
  have hKb : K.In (hidT s₁.heap H) := fun b o e => base_of (KX b o e) (by
   cases q : H b with
   | none => rfl
   | some u =>
    have e' : b = a := hA b (by rw [q]; simp)
    subst e'
    rw [hK (by rw [q]; simp)] at e; cases e)
  have hM : Mod K mg (hidT s₁.heap H) := ⟨hKb, nsK hns, ⟨mb, nsK hb, hbb⟩, let ⟨mc, h1, h2⟩ := hlim; ⟨mc, nsK h1, h2⟩⟩
  have e0 : Env0 P w K mg (hidT s₁.heap H) callerA [] s₁ H := ⟨rfl, hM, fun b o e => of_hidT e, Nat.le_of_eq (hidT_size _ _), trivial, fun b hb => absurd (show b ∈ ([] : List Addr) from hb) (by simp), hok, .of_eq hg⟩
  refine codeAny_mono ((F _ hKb (nsK hns)).run callerA [] s₁ H ⟨[.ref a], []⟩ [.ref a] [.ref a] _ _ hr e0 (hbind s₁ (.ref a)) (.cons rfl .nil) (hsp H hO hS)) fun r s' h => ?_
  cases r with
  | error e => exact (hCX H e s' h).elim
  | ok fl =>
   cases fl with
   | next => exact False.elim h
   | brk => exact False.elim h
   | cont => exact False.elim h
   | ret u =>
    obtain ⟨v, H', os, bare, un, hok', r', q⟩ := h
    have q' : v = .bl true := q
    subst q'
    obtain rfl : u = Value.bool true := r'
    refine ⟨rfl, OldK.of_keep fun b o e => ?_, os, bare⟩
    cases q : H b with
    | none => exact un.keep b o e q (by intro z; exact absurd (show b ∈ ([] : List Addr) from z) (by simp)) (by simp)
    | some u =>
     rcases hO b with z | ⟨ob, xs, z⟩
     ·rw [q] at z; cases z
     ·have z2 := un.frzs b ob _ z
      obtain ⟨e1, _⟩ := hok b _ z
      obtain ⟨e2, _⟩ := hok' b _ z2
      rw [e] at e1; cases e1
      exact e2
 cases hk : K.lookup a with
 | some o =>
  have e := KX a o hk
  rw [ha] at e
  cases e
  refine core (fun _ => none) (fun _ => .inl rfl) (.inr ⟨_, vs.toArray, _, hk, rfl, rfl, rfl, by rw [List.size_toArray, lenV]; exact hl, by simpa using rv⟩) (fun b u z => by have z' : (none : Option HO) = some u := z; cases z') (fun b z => absurd rfl z) fun z => absurd rfl z
 | none =>
  refine core (fun b => if b = a then some (.frz { cls := .type "list", data := .seq vs.toArray } (.lst (ns.map V.int))) else none) (fun b => ?_) (.inl (.inr ⟨{ cls := .type "list", data := .seq vs.toArray }, if_pos rfl⟩)) (fun b u z => ?_) (fun b z => ?_) fun _ => hk
  ·by_cases hb : b = a
   ·exact .inr ⟨_, _, if_pos hb⟩
   ·exact .inl (if_neg hb)
  ·by_cases hb : b = a
   ·have z' := (if_pos hb).symm.trans z
    cases z'
    subst hb
    exact ⟨ha, by rw [List.length_map]; exact hl, vs, _, rv, ha⟩
   ·have z' := (if_neg hb).symm.trans z
    cases z'
  ·by_cases hb : b = a
   ·exact hb
   ·exact absurd (if_neg hb) z
noncomputable def defArgs (s : Stmt) : Arguments := match s with
 | .FunctionDef _ a _ _ _ _ _ _ _ _ => a
 | _ => { posonlyargs := [], args := [], vararg := none, kwonlyargs := [], kw_defaults := [], kwarg := none, defaults := [] }
noncomputable def defBody (s : Stmt) : List Stmt := match s with
 | .FunctionDef _ _ b _ _ _ _ _ _ _ => b
 | _ => []
noncomputable def defScope (s : Stmt) : Scope := match s with
 | .FunctionDef _ _ _ _ _ _ sc _ _ _ => sc
 | _ => { kind := .function, names := [], isGenerator := false, isCoroutine := false }
noncomputable abbrev CX0 : CXT := fun _ _ _ _ _ _ => False
noncomputable abbrev E0 : XK := fun _ _ _ => False
theorem pass0 {X : Cx} : Passes CX0 X E0 := fun _ _ _ _ _ _ _ h => h.elim
structure Fun (K : W.Frag) (x qual : Str) (st : Stmt) (f : Addr) (fd : FuncData) : Prop where
 ex : ∃ (oc : Value) (od : Option Addr) (kV doc pm : Value) (an : Option Addr) (cdv ct : Value) (osl : Array (Option Value)),
  fd = W.fnOf x qual (defArgs st) (defBody st) (defScope st) .none kV doc pm an cdv ct /\ K.lookup f = some ⟨oc, od, .func fd, osl⟩ /\ W.codeIn K cdv qual = true
 kp : W.keepIn K (.ref f) = true
section
variable {P : Program} {w : World} {K : W.Frag} {mg : Str -> Option Value} {base : Heap}
theorem Fun.ok {x qual : Str} {st : Stmt} {f : Addr} {fd : FuncData} {N ps : List Str} {k : Nat} {sp : Sp} (F : Fun K x qual st f fd) (S : FnScope N ps (defScope st)) (len : ∀ vs H Q E, sp vs H Q E -> vs.length = ps.length)
  (hbody : ∀ (cdv : Value) (A : Around) (outer : List Env) (s : Shared) (H : Hp) (vs : List V) (Q : VK) (E : XK), Room k (A.deeper (envOfC qual (defScope st) s.heap.objs.size f cdv)) -> sp vs H Q E ->
   ∃ t, PSs (cxOf CX0 P w K mg base N qual (defScope st) f cdv A outer s H E).nox (defBody st) t /\ t { nx := fun _ H' => Q .non H', rt := Q } (start N vs) H) : FnOk P w K mg base CX0 (k + 1) f fd ps sp := by
 obtain ⟨oc, od, kV, doc, pm, an, cdv, ct, osl, rfl, lk, hcd⟩ := F.ex
 refine fn_of lk hcd S len fun A outer s H vs Q E hr hsp => ?_
 obtain ⟨t, h, q⟩ := hbody cdv A outer s H vs Q E hr hsp
 exact ⟨t, h.nox, q⟩
theorem Fun.binds {x qual : Str} {st : Stmt} {f : Addr} {fd : FuncData} {ps : List Str} (F : Fun K x qual st f fd)
  (h : ∀ (kV doc pm : Value) (an : Option Addr) (cdv ct : Value) (us : List Value), us.length = ps.length -> bindArgs (W.fnOf x qual (defArgs st) (defBody st) (defScope st) .none kV doc pm an cdv ct) ⟨us, []⟩ = pure (ps.zip us)) : Binds K fd ps [] := by
 obtain ⟨oc, od, kV, doc, pm, an, cdv, ct, osl, rfl, lk, hcd⟩ := F.ex
 exact .all (h kV doc pm an cdv ct)
theorem fun_mk {x qual : Str} {st : Stmt} {f : Addr} {oc : Value} {od an : Option Addr} {osl : Array (Option Value)} {kV doc pm cdv ct : Value} (l : K.lookup f = some ⟨oc, od, .func (W.fnOf x qual (defArgs st) (defBody st) (defScope st) .none kV doc pm an cdv ct), osl⟩)
  (c : W.codeIn K cdv qual = true) (k : W.keepIn K (.ref f) = true) : Fun K x qual st f (W.fnOf x qual (defArgs st) (defBody st) (defScope st) .none kV doc pm an cdv ct) := ⟨⟨oc, od, kV, doc, pm, an, cdv, ct, osl, rfl, l, c⟩, k⟩
end
theorem ZaL {A : Around} {k : Nat} (hr : Room k A) : A.units + 1 < cLine := Nat.lt_of_le_of_lt (Nat.add_le_add_left (by decide : 1 <= 64) _) hr.units
end L2
set_option maxHeartbeats 4000000
namespace L2
open PySem PySem.Spec PyProof.Rows
section
variable {κ : Type} [DecidableEq κ]
noncomputable def valV (kvs : List (κ × V)) (k : κ) : Option V := (kvs.find? fun kv => decide (kv.1 = k)).map (·.2)
noncomputable def putK (kvs : List (κ × V)) (k : κ) (v : V) : List (κ × V) :=
 if (kvs.any fun kv => decide (kv.1 = k)) = true then kvs.map (fun kv => if kv.1 = k then (kv.1, v) else kv) else kvs ++ [(k, v)]
theorem Zcb {p : κ × V} {r : List (κ × V)} {k : κ} (e : p.1 = k) : valV (p :: r) k = some p.2 := by simp [valV, List.find?_cons, e]
theorem Zcc {p : κ × V} {r : List (κ × V)} {k : κ} (e : ¬ p.1 = k) : valV (p :: r) k = valV r k := by simp [valV, List.find?_cons, e]
theorem valV_any (k : κ) : ∀ kvs : List (κ × V), (kvs.any fun kv => decide (kv.1 = k)) = (valV kvs k).isSome
 | [] => rfl
 | p :: r => by
  rw [List.any_cons]
  by_cases e : p.1 = k
  ·simp only [Zcb e, decide_eq_true e, Bool.true_or, Option.isSome_some]
  ·rw [Zcc e, decide_eq_false e, Bool.false_or]; exact valV_any k r
theorem ZbJ (kvs : List (κ × V)) (k : κ) (v : V) : (putK kvs k v).length <= kvs.length + 1 := by
 unfold putK
 split
 ·rw [List.length_map]; lia
 ·rw [List.length_append, List.length_cons, List.length_nil]; lia
theorem RelO.isSome_eq {o : Option V} {u : Option Value} (r : RelO o u) : o.isSome = u.isSome := by
 cases o with
 | none => cases u with
  | none => rfl
  | some _ => exact (show False from r).elim
 | some _ => cases u with
  | none => exact (show False from r).elim
  | some _ => rfl
theorem KV.val {kvs : List (κ × V)} {vs : List (κ × Value)} (r : KV kvs vs) (k : κ) : RelO (valV kvs k) (valueAt vs k) := by
 unfold KV at r
 induction r with
 | nil => exact True.intro
 | @cons p q ps qs h t ih =>
  obtain ⟨h1, h2⟩ := h
  by_cases e : p.1 = k
  ·have e' : q.1 = k := h1.symm.trans e
   have b : valueAt (q :: qs) k = some q.2 := by simp [valueAt, List.find?_cons, e']
   rw [Zcb e, b]; exact h2
  ·have e' : ¬ q.1 = k := fun z => e (h1.trans z)
   have b : valueAt (q :: qs) k = valueAt qs k := by simp [valueAt, List.find?_cons, e']
   rw [Zcc e, b]; exact ih
theorem KV.any {kvs : List (κ × V)} {vs : List (κ × Value)} (r : KV kvs vs) (k : κ) : (kvs.any fun kv => decide (kv.1 = k)) = vs.any fun kv => decide (kv.1 = k) := by
 unfold KV at r
 induction r with
 | nil => rfl
 | cons h t ih => rw [List.any_cons, List.any_cons, ih, h.1]
theorem KV.repl {kvs : List (κ × V)} {vs : List (κ × Value)} (r : KV kvs vs) (k : κ) {y : V} {u : Value} (ry : RelV y u) :
  KV (kvs.map fun kv => if kv.1 = k then (kv.1, y) else kv) (vs.map fun kv => if kv.1 = k then (kv.1, u) else kv) := by
 unfold KV at r ⊢
 induction r with
 | nil => exact .nil
 | @cons p q ps qs h t ih =>
  rw [List.map_cons, List.map_cons]
  refine .cons ?_ ih
  obtain ⟨h1, h2⟩ := h
  by_cases e : p.1 = k
  ·rw [if_pos e, if_pos (h1.symm.trans e)]; exact ⟨h1, ry⟩
  ·rw [if_neg e, if_neg (fun z => e (h1.trans z))]; exact ⟨h1, h2⟩
theorem KV.put {kvs : List (κ × V)} {vs : List (κ × Value)} (r : KV kvs vs) (k : κ) {y : V} {u : Value} (ry : RelV y u) : KV (putK kvs k y) (stored vs k u) := by
 unfold putK stored
 rw [r.any k]
 by_cases e : (vs.any fun kv => decide (kv.1 = k)) = true
 ·rw [if_pos e, if_pos e]; exact r.repl k ry
 ·rw [if_neg e, if_neg e]; exact Paired.snoc r ⟨rfl, ry⟩
theorem KV.length {kvs : List (κ × V)} {vs : List (κ × Value)} (r : KV kvs vs) : kvs.length = vs.length := Paired.length r
end
theorem kV_is {P : Program} {w : World} {k : Key} {u : Value} (r : RelV (kV k) u) : (mixKind P w).is k u = true := by
 cases k with
 | inl i => obtain ⟨t, e⟩ := (show ∃ t, u = Value.int i t from r); subst e; exact mixKind_int P w i t
 | inr x => obtain ⟨t, e⟩ := (show ∃ t, u = Value.str x t from r); subst e; exact mixKind_str P w x t
theorem Zcv {P : Program} {w : World} : ∀ {ks : List Key} {us : List Value}, Vals (ks.map kV) us -> ItemsAre (mixKind P w) ks us
 | [], _, r => by rw [List.map_nil] at r; cases r; exact .nil
 | k :: ks, _, r => by
  rw [List.map_cons] at r
  cases r with
  | cons h t => exact .cons (kV_is h) (Zcv t)
noncomputable abbrev KT (H : Hp) : List (List Key × V) -> List (List Key × Addr × Value) -> Prop := Paired fun p q => p.1 = q.1 /\ H q.2.1 = some (.tup (p.1.map kV)) /\ RelV p.2 q.2.2
theorem KT.val {H : Hp} {kvs : List (List Key × V)} {xs : List (List Key × Addr × Value)} (r : KT H kvs xs) (k : List Key) : RelO (valV kvs k) ((atKey xs k).map (·.2)) := by
 induction r with
 | nil => exact True.intro
 | @cons p q ps qs h t ih =>
  obtain ⟨h1, _, h2⟩ := h
  by_cases e : p.1 = k
  ·have e' : q.1 = k := h1.symm.trans e
   have b : atKey (q :: qs) k = some q.2 := by simp [atKey, List.find?_cons, e']
   rw [Zcb e, b]; exact h2
  ·have e' : ¬ q.1 = k := fun z => e (h1.trans z)
   have b : atKey (q :: qs) k = atKey qs k := by simp [atKey, List.find?_cons, e']
   rw [Zcc e, b]; exact ih
theorem KT.repl {H : Hp} {kvs : List (List Key × V)} {xs : List (List Key × Addr × Value)} (r : KT H kvs xs) (k : List Key) {y : V} {u : Value} (ry : RelV y u) :
  KT H (kvs.map fun kv => if kv.1 = k then (kv.1, y) else kv) (xs.map (putAt k u)) := by
 induction r with
 | nil => exact .nil
 | @cons p q ps qs h t ih =>
  rw [List.map_cons, List.map_cons]
  refine .cons ?_ ih
  obtain ⟨h1, h2, h3⟩ := h
  unfold putAt
  by_cases e : p.1 = k
  ·rw [if_pos e, if_pos (h1.symm.trans e)]; exact ⟨h1, h2, ry⟩
  ·rw [if_neg e, if_neg (fun z => e (h1.trans z))]; exact ⟨h1, h2, h3⟩
theorem KT.put {H : Hp} {kvs : List (List Key × V)} {xs : List (List Key × Addr × Value)} (r : KT H kvs xs) (k : List Key) {b : Addr} {y : V} {u : Value} (hb : H b = some (.tup (k.map kV))) (ry : RelV y u) :
  KT H (putK kvs k y) (storedH xs k b u) := by
 have e : (kvs.any fun kv => decide (kv.1 = k)) = (atKey xs k).isSome := by
  rw [valV_any, (r.val k).isSome_eq, Option.isSome_map]
 unfold putK storedH
 rw [e]
 by_cases q : (atKey xs k).isSome = true
 ·rw [if_pos q, if_pos q]; exact r.repl k ry
 ·rw [if_neg q, if_neg q]; exact Paired.snoc r ⟨rfl, hb, ry⟩
theorem KT.keeps {H H' : Hp} {kvs : List (List Key × V)} {xs : List (List Key × Addr × Value)} (r : KT H kvs xs) (ht : ∀ b ys, H b = some (.tup ys) -> H' b = some (.tup ys)) : KT H' kvs xs :=
 Paired.mapP r fun _ _ z => ⟨z.1, ht _ _ z.2.1, z.2.2⟩
section
variable {P : Program} {w : World} {H : Hp} {h : Heap} {a : Addr}
theorem rd_of {u : HO} (ok : HOk P w H h) (e : Rd H a u) : ObjOk P w H h a u := e.ok ok
theorem dk_rd {kvs : List (Key × V)} (ok : HOk P w H h) (e : Rd H a (.dK kvs)) : kvs.length <= sizeLine /\ (a == sysModules) = false /\ ∃ vs, KV kvs vs /\ h.DictOf (mixKind P w) a vs :=
 show ObjOk P w H h a (.dK kvs) from rd_of ok e
theorem dk_of {kvs : List (Key × V)} (ok : HOk P w H h) (e : H a = some (.dK kvs)) : kvs.length <= sizeLine /\ (a == sysModules) = false /\ ∃ vs, KV kvs vs /\ h.DictOf (mixKind P w) a vs := dk_rd ok (.inl e)
theorem key_of {ks : List Key} (ok : HOk P w H h) (e : H a = some (.tup (ks.map kV))) : (tupleKind (mixKind P w)).is h ks a := by
 obtain ⟨_, its, r, o, h1, h2, n, h3⟩ := (show ObjOk P w H h a (.tup (ks.map kV)) from ok a _ e)
 exact ⟨o, its.toArray, n, h1, h2, h3, by simpa using Zcv r⟩
theorem dt_rd {kvs : List (List Key × V)} (ok : HOk P w H h) (e : Rd H a (.dT kvs)) : kvs.length <= sizeLine /\ (a == sysModules) = false /\
  ∃ xs, KT H kvs xs /\ h.DictOfH (tupleKind (mixKind P w)) a xs := by
 obtain ⟨z, y, xs, r, o, es, ep, h1, h2, h3, h4, h5⟩ := (show ObjOk P w H h a (.dT kvs) from rd_of ok e)
 refine ⟨z, y, xs, r, o, es, ep, h1, h2, h3, h4, fun x hx => ?_, h5⟩
 have all : ∀ {l : List (List Key × V)} {m : List (List Key × Addr × Value)}, KT H l m -> ∀ x ∈ m, (tupleKind (mixKind P w)).is h x.1 x.2.1 := by
  intro l m q
  induction q with
  | nil => intro x hx; exact nomatch hx
  | @cons p q ps qs hq t ih =>
   intro x hx
   rcases List.mem_cons.mp hx with e | hx
   ·subst e
    exact key_of ok (by rw [← hq.1]; exact hq.2.1)
   ·exact ih x hx
 exact all r x hx
theorem dt_of {kvs : List (List Key × V)} (ok : HOk P w H h) (e : H a = some (.dT kvs)) : kvs.length <= sizeLine /\ (a == sysModules) = false /\
  ∃ xs, KT H kvs xs /\ h.DictOfH (tupleKind (mixKind P w)) a xs := dt_rd ok (.inl e)
end
noncomputable def DGet (H : Hp) (a : Addr) (y : V) (r : Option V) : Prop :=
 (∃ kvs k, Rd H a (.dK kvs) /\ y = kV k /\ r = valV kvs k) \/ ∃ kvs k b, Rd H a (.dT kvs) /\ y = .ref b /\ H b = some (.tup (k.map kV)) /\ r = valV kvs k
noncomputable def DPut (H : Hp) (a : Addr) (y v : V) (H' : Hp) : Prop :=
 (∃ kvs k, H a = some (.dK kvs) /\ y = kV k /\ kvs.length < sizeLine /\ H' = upd H a (.dK (putK kvs k v))) \/
 ∃ kvs k b, H a = some (.dT kvs) /\ y = .ref b /\ H b = some (.tup (k.map kV)) /\ kvs.length < sizeLine /\ H' = upd H a (.dT (putK kvs k v))
theorem DGet.k {H : Hp} {a : Addr} {kvs : List (Key × V)} {k : Key} (e : H a = some (.dK kvs)) : DGet H a (kV k) (valV kvs k) := .inl ⟨kvs, k, .inl e, rfl, rfl⟩
theorem DPut.t {H : Hp} {a b : Addr} {kvs : List (List Key × V)} {k : List Key} {v : V} (e : H a = some (.dT kvs)) (eb : H b = some (.tup (k.map kV))) (hl : kvs.length < sizeLine) :
  DPut H a (.ref b) v (upd H a (.dT (putK kvs k v))) := .inr ⟨kvs, k, b, e, rfl, eb, hl, rfl⟩
section
variable {X : Cx} {pins : List (Addr × Obj)} {σ : St} {H : Hp} {s : Shared} {a : Addr} {y v : V} {u r : Value} {o : Option V} {A : Around} {E : Value -> Shared -> Prop}
theorem Inv.big (I : Inv X pins σ H s) : sysModules < s.heap.objs.size := by
 have h : mainGlobals < s.heap.objs.size := (I.mod.glob.keeps I.bk).lt
 exact Nat.lt_trans (by decide) h
theorem d_getItem {Q : Value -> Shared -> Prop} (hu : A.units + 1 < cLine) (I : Inv X pins σ H s) (g : DGet H a y (some v)) (ry : RelV y u) (h : ∀ w' s', Inv X pins σ H s' -> RelV v w' -> Q w' s') :
  wpAny (model X.prog X.w) A (getItem (.ref a) u) Q E s := by
 rcases g with ⟨kvs, k, e, ey, l⟩ | ⟨kvs, k, b, e, ey, eb, l⟩
 ·subst ey
  obtain ⟨z, hd, vs, rel, dd⟩ := dk_rd I.hok e
  obtain ⟨w', hw, rw'⟩ := RelO.some_of (v := v) (o := valueAt vs k) (by rw [l]; exact rel.val k)
  exact wpAny_getItem_of (kV_is ry) dd.mapOf hw (h w' _ (I.tok _) rw')
 ·subst ey
  cases (show u = Value.ref b from ry)
  obtain ⟨z, hd, xs, rel, dd⟩ := dt_rd I.hok e
  obtain ⟨w', hw, rw'⟩ := RelO.some_of (v := v) (o := (atKey xs k).map (·.2)) (by rw [l]; exact rel.val k)
  obtain ⟨p, hp, hp2⟩ := Option.map_eq_some_iff.mp hw
  refine wpAny_getItem_heap (tupleKind_room_in1 hu) (key_of I.hok eb) dd hp ?_
  rw [hp2]
  exact h w' _ (I.tok _) rw'
theorem d_write {h' : Heap} {t' : Nat} {ob : HO} (I : Inv X pins σ H s) (mu : Mut (H a)) (hs : Heap.SameBut a s.heap h') (he : ∃ q, h'.get? a = some q) (new : ObjOk X.prog X.w (upd H a ob) h' a ob) :
  Inv X pins σ (upd H a ob) { s with heap := h', toks := t' } :=
 I.write (x := a) (e := a) mu (.inl rfl) (fun b q hb z => (hs.2 b hb).trans z) he new
theorem dk_new {P : Program} {w : World} {H' : Hp} {h' : Heap} {kvs : List (Key × V)} {vs : List (Key × Value)} (z : kvs.length <= sizeLine) (hd : (a == sysModules) = false) (rel : KV kvs vs) (dd : h'.DictOf (mixKind P w) a vs) :
  ObjOk P w H' h' a (.dK kvs) := ⟨z, hd, vs, rel, dd⟩
theorem d_setItem {H' : Hp} {Q : Unit -> Shared -> Prop} (hu : A.units + 1 < cLine) (I : Inv X pins σ H s) (g : DPut H a y v H') (ry : RelV y u) (rv : RelV v r) (h : ∀ s', Inv X pins σ H' s' -> Q () s') :
  wpAny (model X.prog X.w) A (setItem (.ref a) u r) Q E s := by
 rcases g with ⟨kvs, k, e, ey, l, eH⟩ | ⟨kvs, k, b, e, ey, eb, l, eH⟩
 ·subst ey eH
  obtain ⟨z, hd, vs, rel, dd⟩ := dk_of I.hok e
  have hz : vs.length <= sizeLine := by rw [← rel.length]; exact z
  have hl : (putK kvs k v).length <= sizeLine := by have := ZbJ kvs k v; lia
  refine wpAny_setItem_pairs (hsz := hz) (kV_is ry) dd fun h' dd' hs => h _ ?_
  have he : ∃ q, h'.get? a = some q := let ⟨q, _, _, hq, _⟩ := dd'; ⟨q, hq⟩
  exact d_write I (by rw [e]; exact True.intro) hs he (dk_new hl hd (rel.put k rv) dd')
 ·subst ey eH
  cases (show u = Value.ref b from ry)
  obtain ⟨z, hd, xs, rel, dd⟩ := dt_of I.hok e
  have hz : xs.length <= sizeLine := by rw [← Paired.length rel]; exact z
  have hl : (putK kvs k v).length <= sizeLine := by have := ZbJ kvs k v; lia
  refine wpAny_setItem_heap (hsz := hz) (tupleKind_room_in1 hu) (key_of I.hok eb) dd fun h' dd' hs => h _ ?_
  obtain ⟨q, es, ep, hq, h2, h3, h4, _, h5⟩ := dd'
  refine d_write I (by rw [e]; exact True.intro) hs ⟨q, hq⟩ ⟨hl, hd, _, (rel.put k eb rv).keeps fun c ys ec => ?_, q, es, ep, hq, h2, h3, h4, h5⟩
  rw [Zan (ne_of ec e (fun z => nomatch z))]
  exact ec
end
theorem dict_typeIs {X : Cx} {pins : List (Addr × Obj)} {σ : St} {H : Hp} {s : Shared} {a : Addr} {y : V} {o : Option V} (I : Inv X pins σ H s) (g : DGet H a y o) : s.TypeIs (.ref a) "dict" := by
 rcases g with ⟨kvs, k, e, _, _⟩ | ⟨kvs, k, b, e, _, _, _⟩
 ·obtain ⟨_, _, vs, _, dd⟩ := dk_rd I.hok e
  exact dd.typeIs
 ·obtain ⟨_, _, xs, _, dd⟩ := dt_rd I.hok e
  exact dd.typeIs
noncomputable def sDPut (td ty tv : TE) : TS := fun D σ H => tv σ H fun v H1 => td σ H1 fun x H2 => ty σ H2 fun y H3 => ∃ a H4, x = .ref a /\ DPut H3 a y v H4 /\ D.nx σ H4
section
variable {X : Cx} {o i e value : Expr} {pos pos' tpos : Pos} {td ty tv : TE}
theorem ps_dput (hu : X.A.units + 1 < cLine) (ho : PE X o td) (hi : PE X i ty) (hv : PE X value tv) (hs : swapsWith value (some (.Subscript o i pos')) pos.line X.env = pure false) :
  PS X (.Assign [.Subscript o i pos'] value pos) (sDPut td ty tv) := by
 intro pins s σ H D I h
 refine wpAny_Assign_Subscript (thn (hv pins s σ H _ I h) fun r s1 ⟨v, H1, I1, rv, q1⟩ => thn (ho pins s1 σ H1 _ I1 q1) fun u s2 ⟨x, H2, I2, rx, q2⟩ => thn (hi pins s2 σ H2 _ I2 q2) fun iv s3 ⟨y, H3, I3, ry, a, H4, ex, g, q3⟩ => ?_) hs
 subst ex
 obtain rfl : u = Value.ref a := rx
 exact d_setItem hu I3 g ry rv fun s4 I4 => ⟨σ, H4, I4, q3⟩
end
theorem dk_empty {P : Program} {w : World} {H : Hp} (h : Heap) (hb : sysModules < h.objs.size) : ObjOk P w H (h.push { cls := .type "dict", data := .dict #[] }) h.objs.size (.dK []) :=
 ⟨Nat.zero_le _, beq_eq_false_iff_ne.mpr (Ne.symm (Nat.ne_of_lt hb)), [], .nil, Heap.DictOf.new h⟩
theorem dt_empty {P : Program} {w : World} {H : Hp} (h : Heap) (hb : sysModules < h.objs.size) : ObjOk P w H (h.push { cls := .type "dict", data := .dict #[] }) h.objs.size (.dT []) :=
 ⟨Nat.zero_le _, beq_eq_false_iff_ne.mpr (Ne.symm (Nat.ne_of_lt hb)), [], .nil, _, #[], 0, Heap.get?_push_size _ rfl, ⟨rfl, rfl, rfl⟩, rfl, rfl, List.nodup_nil⟩
noncomputable def tDNewK : TE := fun _ H Q => ∀ p, H p = none -> Q (.ref p) (upd H p (.dK []))
noncomputable def tDNewT : TE := fun _ H Q => ∀ p, H p = none -> Q (.ref p) (upd H p (.dT []))
section
variable {X : Cx} {pos : Pos}
theorem pe_dnewK : PE X (.Dict [] [] pos) tDNewK := fun pins s σ H Q I h =>
 wpAny_Dict_empty ⟨.ref s.heap.objs.size, _, I.laid (a := s.heap.objs.size) (o := .dK []) (t' := s.toks) (fun _ _ q => Heap.get?_push_of_some _ q) (Nat.le_refl _) (dk_empty s.heap I.big), rfl, h _ (I.hok.fresh (Nat.le_refl _))⟩
theorem pe_dnewT : PE X (.Dict [] [] pos) tDNewT := fun pins s σ H Q I h =>
 wpAny_Dict_empty ⟨.ref s.heap.objs.size, _, I.laid (a := s.heap.objs.size) (o := .dT []) (t' := s.toks) (fun _ _ q => Heap.get?_push_of_some _ q) (Nat.le_refl _) (dt_empty s.heap I.big), rfl, h _ (I.hok.fresh (Nat.le_refl _))⟩
end
noncomputable def clFrom (cells : List (Str × Addr)) : List (Str × NameKind) -> List (Str × Addr) -> List (Str × Addr)
  | [], cs => cs
  | (n, k) :: r, cs => clFrom cells r (if k = .free then (n, (cells.lookup n).getD 0) :: cs else cs)
theorem ZcG {cells : List (Str × Addr)} : ∀ {names : List (Str × NameKind)} {cs : List (Str × Addr)}, (∀ y ∈ names, y.2 = .free -> ∃ c, cells.lookup y.1 = some c) -> (∀ x c, cs.lookup x = some c -> cells.lookup x = some c) ->
    ∀ x c, (clFrom cells names cs).lookup x = some c -> cells.lookup x = some c
  | [], _, _, h, x, c, e => h x c e
  | (n, k) :: r, cs, hn, h, x, c, e => by
    unfold clFrom at e
    refine ZcG (fun y hy => hn y (List.mem_cons_of_mem _ hy)) (fun y d q => ?_) x c e
    by_cases hk : k = .free
    · rw [if_pos hk] at q
      obtain ⟨c', hc'⟩ := hn (n, k) List.mem_cons_self hk
      rw [List.lookup_cons] at q
      by_cases hy : y == n
      · rw [hy] at q
        have : y = n := by simpa using hy
        subst this
        rw [show cells.lookup y = some c' from hc'] at q ⊢
        simpa using q
      · have hy' : (y == n) = false := by simpa using hy
        rw [hy'] at q
        exact h y d q
    · rw [if_neg hk] at q
      exact h y d q
theorem Zb8 {cells : List (Str × Addr)} {x : Str} : ∀ {names : List (Str × NameKind)} {cs : List (Str × Addr)}, (∃ c, cs.lookup x = some c) -> ∃ c, (clFrom cells names cs).lookup x = some c
  | [], _, h => h
  | (n, k) :: r, cs, h => by
    unfold clFrom
    refine Zb8 ?_
    by_cases hk : k = .free
    · rw [if_pos hk, List.lookup_cons]
      by_cases hy : x == n
      · rw [hy]; exact ⟨_, rfl⟩
      · have hy' : (x == n) = false := by simpa using hy
        rw [hy']; exact h
    · rw [if_neg hk]; exact h
theorem Zb0 {cells : List (Str × Addr)} {x : Str} : ∀ {names : List (Str × NameKind)} {cs : List (Str × Addr)}, (x, NameKind.free) ∈ names -> ∃ c, (clFrom cells names cs).lookup x = some c
  | [], _, h => nomatch h
  | (n, k) :: r, cs, h => by
    unfold clFrom
    rcases List.mem_cons.mp h with e | h
    · cases e
      refine Zb8 ?_
      rw [if_pos rfl, List.lookup_cons]
      simp
    · exact Zb0 h
theorem closure_eq {env : Env} {scope : Scope} (h : ∀ y ∈ scope.names, y.2 = .free -> ∃ c, env.cells.lookup y.1 = some c) : closureFor scope env = pure (clFrom env.cells scope.names []) := by
 simp only [closureFor]
 have key : ∀ (names : List (Str × NameKind)) (cs : List (Str × Addr)), (∀ y ∈ names, y.2 = .free -> ∃ c, env.cells.lookup y.1 = some c) ->
   (forIn names cs fun x r => if (x.2 == NameKind.free) = true then do let a ← cellOf env x.1; pure (ForInStep.yield ((x.1, a) :: r)) else pure (ForInStep.yield r) : Sem (List (Str × Addr))) = pure (clFrom env.cells names cs) := by
  intro names
  induction names with
  | nil => intro cs _; rfl
  | cons y r ih =>
   intro cs hn
   obtain ⟨n, k⟩ := y
   rw [List.forIn_cons]
   by_cases hk : k = .free
   ·obtain ⟨c, hc⟩ := hn (n, k) List.mem_cons_self hk
    have hc' : env.cells.lookup n = some c := hc
    subst hk
    have e1 : cellOf env n = pure c := by unfold cellOf; rw [hc']
    show (_ >>= _) = _
    simp only [beq_self_eq_true, if_true, e1]
    unfold clFrom
    rw [if_pos rfl, hc']
    exact ih _ fun y hy => hn y (List.mem_cons_of_mem _ hy)
   ·have e2 : (k == NameKind.free) = false := by simpa using hk
    show (_ >>= _) = _
    simp only [e2, Bool.false_eq_true, if_false]
    unfold clFrom
    rw [if_neg hk]
    exact ih _ fun y hy => hn y (List.mem_cons_of_mem _ hy)
 rw [key scope.names [] h]
 rfl
section
variable {prog : Program} {w : World} {A : Around} {R : Result -> Shared -> Prop} {s : Shared}
abbrev Out (prog : Program) (w : World) (A : Around) (env : Env) (R : Result → Shared → Prop) : Value → Shared → Prop := notedBy (model prog w) A env fun e s' => R (.error e) s'
abbrev testsOf (env : Env) (ifs : List Expr) : Sem Bool := forIn ifs true fun c r => if r = true then do let ok ← isTrue c env (eval c env); pure (ForInStep.yield ok) else pure (ForInStep.yield r)
theorem compLoop_any {elt target iter : Expr} {ifs : List Expr} {scope : Scope} {pos : Pos} {it acc : Value} {env : Env} (I : Nat → Shared → Prop)
    (turn : ∀ k z, I k z → wpAny (model prog w) A (pyNext it) (fun r z1 => match r with
      | none => R (.ok .next) z1
      | some v => wpAny (model prog w) A (letOwnedTupleGo target it v) (fun _ z2 => wpAny (model prog w) A (assign target env v) (fun _ z3 => wpAny (model prog w) A (testsOf env ifs) (fun yes z4 =>
          if yes = true then wpAny (model prog w) A (eval elt env) (fun x z5 => wpAny (model prog w) A (call (.builtin "list.append") [acc, x]) (fun _ z6 => ∃ m, m < k ∧ I m z6) (Out prog w A env R) z5) (Out prog w A env R) z4
          else ∃ m, m < k ∧ I m z4) (Out prog w A env R) z3) (Out prog w A env R) z2) (Out prog w A env R) z1) (Out prog w A env R) z)
    (n : Nat) (h : I n s) : codeAny (model prog w) A (.compLoop (.ListComp elt [⟨target, iter, ifs, 0⟩] scope pos) 0 it acc env) R s := by
  refine codeAny_loop rfl I ?_ n h
  intro k z hz
  refine wpAny_noted ?_
  rw [compTurn_list]
  apply wpAny_bind
  apply wpAny_standAt
  apply wpAny_bind
  refine wpAny_mono (turn k z hz) ?_ fun _ _ e => e
  rintro (_ | v) z1 y1
  · exact wpAny_pure y1
  apply wpAny_bind
  refine wpAny_mono y1 (fun _ z2 y2 => ?_) fun _ _ e => e
  apply wpAny_bind
  refine wpAny_mono y2 (fun _ z3 y3 => ?_) fun _ _ e => e
  apply wpAny_bind
  refine wpAny_mono y3 (fun yes z4 y4 => ?_) fun _ _ e => e
  by_cases b : yes = true
  · subst b
    apply wpAny_bind
    apply wpAny_bind
    refine wpAny_mono y4 (fun x z5 y5 => ?_) fun _ _ e => e
    apply wpAny_bind
    exact wpAny_mono y5 (fun _ z6 y6 => wpAny_pure (wpAny_pure ⟨rfl, y6⟩)) fun _ _ e => e
  · have nb : yes = false := by simpa using b
    subst nb
    exact wpAny_pure ⟨rfl, y4⟩
end
noncomputable def CompCx (X : Cx) (N' : List Str) (scope : Scope) (C : Addr) (s₀ : Shared) (H₀ : Hp) (ex : List Addr) (pn : List (Addr × Obj)) : Cx :=
 { X with N := N', s₀ := s₀, H₀ := H₀, env := compEnvC scope (clFrom X.env.cells scope.names []) C X.env, outer := X.stack, ex := ex, fn := fun _ => false, pn := pn, xe := fun _ _ => False }
structure CSc (X : Cx) (scope : Scope) (vs fs : List Str) (fr : List Nat) : Prop where
 kind : scope.kind = .function
 cell : (scope.names.all fun y => y.2 != .cell) = true
 free : (scope.names.all fun y => y.2 != .free || (X.env.kindOf y.1 == some .cell || X.env.kindOf y.1 == some .free)) = true
 loc : (scope.names.all fun y => y.2 != .local || scope.names.lookup y.1 == some .local) = true
 fre : (scope.names.all fun y => y.2 != .free || scope.names.lookup y.1 == some .free) = true
 fsf : (fs.all fun x => scope.names.lookup x == some .free) = true
 at' : fr.map (fun i => X.N[i]?) = fs.map some
noncomputable def PTs (X : Cx) (ifs : List Expr) (t : TT) : Prop :=
 ∀ (pins : List (Addr × Obj)) (s : Shared) (σ : St) (H : Hp) (Q : Bool -> Hp -> Prop), Inv X pins σ H s -> t σ H Q ->
  wpAny (model X.prog X.w) X.A (forIn ifs true fun c r => if r = true then do let ok ← isTrue c X.env (eval c X.env); pure (ForInStep.yield ok) else pure (ForInStep.yield r)) (TP X pins σ Q) X.xe s
noncomputable def tYes : TT := fun _ H Q => Q true H
theorem pts_nil {X : Cx} : PTs X [] tYes := fun _ _ _ H _ I h => wpAny_tests_nil ⟨H, I, h⟩
noncomputable def stIn (vs : List Str) (fr : List Nat) (σ : St) : St := vs.map (fun _ => none) ++ fr.map fun i => (σ[i]?).join
noncomputable def CompW (J : It) (vs : List Str) (fr : List Nat) (g : TG) (tt : TT) (te : TE) (σ : St) (H1 : Hp) (Q : VK) : Prop :=
 ∃ W : Nat -> Nat -> St -> List V -> Hp -> Prop, (∃ m, W 0 m (stIn vs fr σ) [] H1) /\ ∀ i m σ' ys H, W i m σ' ys H ->
  (J.stop i H /\ ys.length <= sizeLine /\ ∀ D, H D = none -> Q (.ref D) (upd H D (.lst ys))) \/
  (J.go i H /\ ys.length <= sizeLine /\ ∃ N : St -> List V -> Hp -> Prop, (∀ σ2 ys2 H2, N σ2 ys2 H2 -> ∃ m', m' < m /\ W (i + 1) m' σ2 ys2 H2) /\ ∀ x H', J.yld i H x H' -> g x σ' H' fun σ2 H2 => tt σ2 H2 fun b H3 =>
   if b = true then te σ2 H3 fun y H4 => N σ2 (ys ++ [y]) H4 else N σ2 ys H3)
noncomputable def tComp (wi : TI) (vs : List Str) (fr : List Nat) (g : TG) (tt : TT) (te : TE) : TE := fun σ H Q => wi σ H fun J H1 => CompW J vs fr g tt te σ H1 Q
section
variable {X : Cx} {tg elt iter : Expr} {ifs : List Expr} {scope : Scope} {pos : Pos} {vs fs : List Str} {fr : List Nat}
theorem mem_all {α : Type} {p : α -> Bool} {l : List α} (h : l.all p = true) {x : α} (hx : x ∈ l) : p x = true := List.all_eq_true.mp h x hx
theorem CSc.cell' (S : CSc X scope vs fs fr) : ∀ y ∈ scope.names, y.2 ≠ .cell := fun y hy e => by have := mem_all S.cell hy; rw [e] at this; simp at this
theorem CSc.free' (S : CSc X scope vs fs fr) : ∀ y ∈ scope.names, y.2 = .free -> X.env.kindOf y.1 = some .cell \/ X.env.kindOf y.1 = some .free := fun y hy e => by
 have := mem_all S.free hy; rw [e] at this; simpa using this
theorem CSc.loc' (S : CSc X scope vs fs fr) : ∀ y ∈ scope.names, y.2 = .local -> scope.names.lookup y.1 = some .local := fun y hy e => by
 have := mem_all S.loc hy; rw [e] at this; simpa using this
theorem Za8 {α β : Type} [BEq α] [LawfulBEq α] : ∀ {l : List (α × β)} {x : α} {k : β}, l.lookup x = some k -> (x, k) ∈ l
  | [], _, _, h => by simp at h
  | (n, k') :: r, x, k, h => by
    rw [List.lookup_cons] at h
    cases e : x == n with
    | true => rw [e] at h; cases h; rw [eq_of_beq e]; exact List.mem_cons_self
    | false => rw [e] at h; exact List.mem_cons_of_mem _ (Za8 h)
theorem Zbs {env : Env} {x : Str} : ∀ {names : List (Str × NameKind)} {k : NameKind},
    (names.map fun (n, k) => if (k == NameKind.free && env.scope.kind == .function && env.kindOf n == some .cell) then (n, NameKind.cell) else (n, k)).lookup x = some k ->
    names.lookup x = some k \/ (k = .cell /\ names.lookup x = some .free)
  | [], _, h => by simp at h
  | (n, k') :: r, k, h => by
    have ih := @Zbs env x r k
    have h' : List.lookup x ((if (k' == NameKind.free && env.scope.kind == .function && env.kindOf n == some .cell) = true then (n, NameKind.cell) else (n, k')) :: (r.map fun (n, k) => if (k == NameKind.free && env.scope.kind == .function && env.kindOf n == some .cell) then (n, NameKind.cell) else (n, k))) = some k := h
    cases hx : x == n with
    | true =>
      by_cases hc : (k' == NameKind.free && env.scope.kind == .function && env.kindOf n == some .cell) = true
      · rw [if_pos hc] at h'
        simp only [List.lookup_cons, hx] at h' ⊢
        cases h'
        have : k' = .free := by simp at hc; exact hc.1.1
        exact .inr ⟨rfl, by rw [this]⟩
      · rw [if_neg hc] at h'
        simp only [List.lookup_cons, hx] at h' ⊢
        exact .inl h'
    | false =>
      by_cases hc : (k' == NameKind.free && env.scope.kind == .function && env.kindOf n == some .cell) = true
      · rw [if_pos hc] at h'
        simp only [List.lookup_cons, hx] at h' ⊢
        exact ih h'
      · rw [if_neg hc] at h'
        simp only [List.lookup_cons, hx] at h' ⊢
        exact ih h'
theorem Zb5 {env : Env} {x : Str} : ∀ {names : List (Str × NameKind)}, names.lookup x = some .free ->
    let l := (names.map fun (n, k) => if (k == NameKind.free && env.scope.kind == .function && env.kindOf n == some .cell) then (n, NameKind.cell) else (n, k)).lookup x
    l = some .cell \/ l = some .free
  | [], h => by simp at h
  | (n, k') :: r, h => by
    have ih := @Zb5 env x r
    show List.lookup x ((if (k' == NameKind.free && env.scope.kind == .function && env.kindOf n == some .cell) = true then (n, NameKind.cell) else (n, k')) :: (r.map fun (n, k) => if (k == NameKind.free && env.scope.kind == .function && env.kindOf n == some .cell) then (n, NameKind.cell) else (n, k))) = some .cell \/
      List.lookup x ((if (k' == NameKind.free && env.scope.kind == .function && env.kindOf n == some .cell) = true then (n, NameKind.cell) else (n, k')) :: (r.map fun (n, k) => if (k == NameKind.free && env.scope.kind == .function && env.kindOf n == some .cell) then (n, NameKind.cell) else (n, k))) = some .free
    cases hx : x == n with
    | true =>
      simp only [List.lookup_cons, hx] at h
      have h : k' = .free := Option.some.inj h
      by_cases hc : (k' == NameKind.free && env.scope.kind == .function && env.kindOf n == some .cell) = true
      · rw [if_pos hc, List.lookup_cons, hx]; exact .inl rfl
      · rw [if_neg hc, List.lookup_cons, hx, h]; exact .inr rfl
    | false =>
      simp only [List.lookup_cons, hx] at h
      by_cases hc : (k' == NameKind.free && env.scope.kind == .function && env.kindOf n == some .cell) = true
      · rw [if_pos hc]; simp only [List.lookup_cons, hx]; exact ih h
      · rw [if_neg hc]; simp only [List.lookup_cons, hx]; exact ih h
end
section
variable {X : Cx} {tg elt iter : Expr} {ifs : List Expr} {scope : Scope} {pos : Pos} {vs fs : List Str} {fr : List Nat}
theorem CSc.clos (S : CSc X scope vs fs fr) (ok : X.Ok) : ∀ y ∈ scope.names, y.2 = .free -> ∃ c, X.env.cells.lookup y.1 = some c := fun y hy e => ok.has y.1 (S.free' y hy e)
theorem CSc.cl (S : CSc X scope vs fs fr) (ok : X.Ok) {x : Str} {c : Addr} (e : (clFrom X.env.cells scope.names []).lookup x = some c) : X.env.cells.lookup x = some c :=
 ZcG (S.clos ok) (fun _ _ q => by simp at q) x c e
theorem Zbf {h : Heap} {b : Addr} {o : Obj} {n : Nat} (e : h.get? b = some o) (hn : h.objs.size <= n) : b ≠ n := Nat.ne_of_lt (Nat.lt_of_lt_of_le (Heap.lt_size e) hn)
theorem comp_start {pins : List (Addr × Obj)} {σ : St} {H : Hp} {s : Shared} {fp : List Addr} {C : Addr} {h1 : Heap} {tk : Nat} {m1 : Str -> Option Value} (S : CSc X scope vs fs fr) (I : Inv X pins σ H s)
  (hf : ∀ b ∈ fp, FpOk X pins H b) (hfo : ∀ b ∈ fp, ∃ o, s.heap.get? b = some o) (hC : s.heap.objs.size <= C) (hn : h1.Ns C m1) (old : ∀ b o, s.heap.get? b = some o -> h1.get? b = some o) :
  Inv (CompCx X (vs ++ fs) scope C s H fp (X.pn ++ pins)) [] (stIn vs fr σ) H { s with heap := h1, toks := tk } := by
 have cl := fun x c e => S.cl I.ok (x := x) (c := c) e
 have hsub := I.stkSub
 have cellLt : ∀ x c, X.env.cells.lookup x = some c -> c < s.heap.objs.size := fun x c e => by obtain ⟨v, q⟩ := I.cell x c e; exact q.lt
 refine ⟨⟨I.ok.mod, S.kind, I.ok.glob, I.ok.blt, hC, fun x y c e1 e2 => I.ok.inj x y c (cl x c e1) (cl y c e2), fun x hx => ?_, fun _ _ z _ => (nomatch z), I.ok.hd, I.ok.frames, .inl rfl, fun b hb => ?_, I.bs, Nat.le_trans I.ok.bsz I.sz, fun b o e hb => ?_, fun b hb z => ?_, I.stack, I.stkFree⟩,
  rfl, I.bare, Un.kept old, ⟨m1, hn, fun i x v e1 e2 e3 => ?_⟩, fun x c e => ?_, I.hok.fresh hC, fun x c e => I.freeC x c (cl x c e), fun p hp => ?_, I.hok.kept old, ?_⟩
 ·-- has
  have hx' : (relabel scope X.env).names.lookup x = some .cell \/ (relabel scope X.env).names.lookup x = some .free := hx
  have : scope.names.lookup x = some .free := by
   rcases hx' with q | q
   ·rcases Zbs q with q | ⟨_, q⟩
    ·exact absurd rfl (S.cell' _ (Za8 q))
    ·exact q
   ·rcases Zbs q with q | ⟨q, _⟩
    ·exact q
    ·cases q
  exact Zb0 (Za8 this)
 ·-- exf
  obtain ⟨o, ho⟩ := hfo b hb
  obtain ⟨f0, f1, f2, f3, f4, f5⟩ := hf b hb
  exact ⟨Zbf ho hC, fun x c e => f4 x c (cl x c e)⟩
 ·-- noex
  have e' := (I.ok.bs b o e).1
  obtain ⟨_, _, _, f3, _, _⟩ := hf b hb
  rcases f3 with z | z
  ·exact I.ok.noex b o e z
  ·exact absurd (Nat.lt_of_lt_of_le (Heap.lt_size e') z) (Nat.lt_irrefl _)
 ·-- exfs
  obtain ⟨_, f1, f2, _⟩ := hf b hb
  rcases List.mem_cons.mp (hsub b z) with q | q
  ·exact f1 q
  ·exact f2 q
 ·-- loc
  have e1 : (vs ++ fs)[i]? = some x := e1
  unfold stIn at e2
  by_cases hi : i < vs.length
  ·rw [List.getElem?_append_left (by simpa using hi)] at e2
   simp [hi] at e2
  ·rw [List.getElem?_append_right (by simpa using hi), List.length_map, List.getElem?_map] at e2
   rw [List.getElem?_append_right (by simpa using hi)] at e1
   obtain ⟨j, hj⟩ : ∃ j, fr[i - vs.length]? = some j := by
    cases q : fr[i - vs.length]? with
    | none => rw [q] at e2; cases e2
    | some j => exact ⟨j, rfl⟩
   rw [hj] at e2
   have e2' : (σ[j]?).join = some v := Option.some.inj e2
   have hσ : σ[j]? = some (some v) := by
    cases q : σ[j]? with
    | none => rw [q] at e2'; cases e2'
    | some r => rw [q] at e2'; exact congrArg some e2'
   have hN : X.N[j]? = some x := by
    have := congrArg (fun l => l[i - vs.length]?) S.at'
    simp only [List.getElem?_map, hj, e1, Option.map_some] at this
    exact Option.some.inj this
   have hxf : scope.names.lookup x = some .free := by
    have := mem_all S.fsf (List.mem_of_getElem? e1)
    simpa using this
   have hk := S.free' _ (Za8 hxf) rfl
   obtain ⟨m, hm, hl⟩ := I.loc
   have hvis : Vis X.env.scope x := by
    rcases hk with k | k
    ·exact .inr (.inl k)
    ·exact .inr (.inr k)
   obtain ⟨u, ru, lk⟩ := hl j x v hN hσ hvis
   refine ⟨u, ru, ?_⟩
   rcases lk with ⟨k, _⟩ | ⟨_, c, hc, hv⟩
   ·have k' : X.env.kindOf x = some .local := k
    rcases hk with z | z
    ·have z' : X.env.kindOf x = some .cell := z
     rw [k'] at z'; cases z'
    ·have z' : X.env.kindOf x = some .free := z
     rw [k'] at z'; cases z'
   ·obtain ⟨c', hc'⟩ := Zb0 (cells := X.env.cells) (cs := []) (Za8 hxf)
    have := cl x c' hc'
    rw [hc] at this
    cases this
    refine .inr ⟨Zb5 hxf, c, hc', ?_⟩
    obtain ⟨o, ho, hd⟩ := hv
    exact ⟨o, old c o ho, hd⟩
 ·-- cell
  obtain ⟨v, o, ho, hd⟩ := I.cell x c (cl x c e)
  exact ⟨v, o, old c o ho, hd⟩
 ·-- pin
  have hp' : p ∈ X.pn ++ pins := by simpa [CompCx] using hp
  obtain ⟨e, n, ne, nf, d⟩ := I.pin p hp'
  refine ⟨old _ _ e, n, Zbf e hC, fun z => ?_, d⟩
  rcases List.mem_cons.mp (hsub _ z) with q | q
  ·exact ne q
  ·exact nf q
 ·show (stIn vs fr σ).length = (vs ++ fs).length
  have := congrArg List.length S.at'
  simp only [List.length_map] at this
  unfold stIn
  simp [this]
theorem comp_back {pins : List (Addr × Obj)} {σ σ' : St} {H H' : Hp} {s s' : Shared} {fp : List Addr} {C D : Addr} {ys : List V} {its : List Value} {n : Nat} {pl : List (Addr × Obj)} (I : Inv X pins σ H s)
  (hf : ∀ b ∈ fp, FpOk X pins H b) (J : Inv (CompCx X (vs ++ fs) scope C s H fp (X.pn ++ pins)) pl σ' H' s')
  (hD : s.heap.objs.size <= D) (hDn : H' D = none) (hl : ys.length <= sizeLine) (r : Vals ys its) (ho : s'.heap.get? D = some { cls := .type "list", data := .seq its.toArray n }) : Inv X pins σ (upd H' D (.lst ys)) s' := by
 have ne : ∀ b o, s.heap.get? b = some o -> b ≠ D := fun b o e => Zbf e hD
 have u : Un (frs X.stack) fp H H' s.heap s'.heap := J.base
 refine I.call' (ch := fp) J.os ⟨u.keep, u.slot, fun b o e q hx => ?_, u.there, fun b xs e => ?_, fun b o xs e => ?_, fun b ps e => ?_⟩ (fun b o e => ?_) J.bare fun b hb => ?_
 ·rw [Zan (ne b o e)]; exact u.free b o e q hx
 ·rw [Zan (Zal (u.tups b xs e) hDn)]; exact u.tups b xs e
 ·rw [Zan (Zal (u.frzs b o xs e) hDn)]; exact u.frzs b o xs e
 ·obtain ⟨more, q⟩ := u.tbls b ps e
  exact ⟨more, by rw [Zan (Zal q hDn)]; exact q⟩
 ·by_cases hb : b = D
  ·subst hb
   rw [ZaW] at e; cases e
   exact ⟨hl, its, n, r, ho⟩
  ·rw [Zan hb] at e
   exact (J.hok b o e).stay (fun _ _ _ q => q) (fun c q => by rw [Zan (Zal q hDn)]; exact q) fun c xs q => by rw [Zan (Zal q hDn)]; exact q
 ·obtain ⟨f0, f1, f2, f3, f4, f5⟩ := hf b hb
  exact ⟨f3, f1, f4, f5⟩
end
section
variable {X : Cx} {tg elt iter : Expr} {ifs : List Expr} {scope : Scope} {pos : Pos} {vs fs : List Str} {fr : List Nat} {g : TG} {tt : TT} {te : TE}
theorem no_xe {α : Type} {M : Model} {A : Around} {t : Sem α} {Q Q' : α -> Shared -> Prop} {E : Value -> Shared -> Prop} {s : Shared} (h : wpAny M A t Q (fun _ _ => False) s) (hQ : ∀ a s, Q a s -> Q' a s) : wpAny M A t Q' E s :=
 wpAny_mono h hQ fun _ _ f => False.elim f
theorem comp_block {pins : List (Addr × Obj)} {σ : St} {H : Hp} {s : Shared} {Q : VK} {it : Addr} {fp : List Addr} {tn : Nat -> Heap -> Prop} {J : It} {RR : Value -> Addr -> Result -> Shared -> Prop}
  (S : CSc X scope vs fs fr) (hc : X.calm = true)
  (bG : ∀ C s₀ H₀ ex pn, PG (CompCx X (vs ++ fs) scope C s₀ H₀ ex pn) tg g) (bT : ∀ C s₀ H₀ ex pn, PTs (CompCx X (vs ++ fs) scope C s₀ H₀ ex pn) ifs tt) (bE : ∀ C s₀ H₀ ex pn, PE (CompCx X (vs ++ fs) scope C s₀ H₀ ex pn) elt te)
  (I : Inv X pins σ H s) (T : Turn X.prog X.w X.K tg J fp it tn) (st : tn 0 s.heap) (hf : ∀ b ∈ fp, FpOk X pins H b)
  (q : CompW J vs fr g tt te σ H Q)
  (hRR : ∀ D C H' s' m', Inv X pins σ H' s' -> Q (.ref D) H' -> s'.heap.Ns C m' -> H' C = none -> s.heap.objs.size <= C -> RR (.ref D) C (.ok .next) s') :
  wpAny (model X.prog X.w) X.A (newList []) (fun acc s₃ => wpAny (model X.prog X.w) X.A (newFunctionEnv scope X.env.globals (clFrom X.env.cells scope.names []) [] X.env.qual none .none (some X.env)) (fun cenv s₄ =>
   codeAny (model X.prog X.w) X.A (.compStart (.ListComp elt [⟨tg, iter, ifs, 0⟩] scope pos) 0 (.ref it) acc { cenv with scope := relabel scope X.env }) (RR acc cenv.locals) s₄) X.xe s₃) X.xe s := by
 obtain ⟨W, ⟨m0, w0⟩, turn⟩ := q
 refine wpAny_newObj_type (wpAny_newFunctionEnv S.cell' (by intro y hy; simp at hy) (fun h₁ hns₁ hsb₁ => ?_) S.kind)
 dsimp only at hns₁ hsb₁ ⊢
 generalize hH2 : s.heap.push { cls := .type "list", dict := none, data := .seq ([] : List Value).toArray } = H2 at hns₁ hsb₁ ⊢
 have hCs : H2.objs.size = s.heap.objs.size + 1 := by rw [← hH2, Heap.size_push]
 have hDC : s.heap.objs.size ≠ H2.objs.size := by rw [hCs]; exact Nat.ne_of_lt (Nat.lt_succ_self _)
 have hCle : s.heap.objs.size <= H2.objs.size := by rw [hCs]; exact Nat.le_succ _
 have old : ∀ b o, s.heap.get? b = some o -> h₁.get? b = some o := fun b o e => hsb₁.extBut b o (Zbf e hCle) (Heap.get?_push_of_some _ (hH2 ▸ Heap.get?_push_of_some _ e))
 have hacc : h₁.get? s.heap.objs.size = some { cls := .type "list", data := .seq ([] : List Value).toArray 0 } := hsb₁.extBut _ _ hDC (Heap.get?_push_of_some _ (hH2 ▸ Heap.get?_push_size _ rfl))
 have hfo : ∀ b ∈ fp, ∃ o, s.heap.get? b = some o := fun b hb => by obtain ⟨o, e, _⟩ := T.obj 0 _ st b hb; exact ⟨o, e⟩
 generalize hY : CompCx X (vs ++ fs) scope H2.objs.size s H fp (X.pn ++ pins) = Y
 have J0 : Inv Y [] (stIn vs fr σ) H { s with heap := h₁, toks := s.toks + ([] : List (Str × Value)).length } := by
  rw [← hY]; exact comp_start S I hf hfo hCle hns₁ old
 have hG : PG Y tg g := by rw [← hY]; exact bG _ _ _ _ _
 have hT : PTs Y ifs tt := by rw [← hY]; exact bT _ _ _ _ _
 have hE : PE Y elt te := by rw [← hY]; exact bE _ _ _ _ _
 have ePr : Y.prog = X.prog := by rw [← hY]; rfl
 have eW : Y.w = X.w := by rw [← hY]; rfl
 have eK : Y.K = X.K := by rw [← hY]; rfl
 have eA : Y.A = X.A := by rw [← hY]; rfl
 have eC : Y.calm = true := by rw [← hY]; exact hc
 have eEnv : Y.env = compEnvC scope (clFrom X.env.cells scope.names []) H2.objs.size X.env := by rw [← hY]; rfl
 have eL : Y.env.locals = H2.objs.size := by rw [eEnv]; rfl
 have eX : Y.xe = fun _ _ => False := by rw [← hY]; rfl
 have eS : Y.s₀ = s := by rw [← hY]; rfl
 have eEx : Y.ex = fp := by rw [← hY]; rfl
 have eFs : Y.fs = frs X.stack := by rw [← hY]; rfl
 have ePn : Y.pn = X.pn ++ pins := by rw [← hY]; rfl
 have eCl : ∀ x c, Y.env.cells.lookup x = some c -> X.env.cells.lookup x = some c := fun x c e => by
  rw [eEnv] at e; exact S.cl I.ok e
 have cellLt : ∀ x c, Y.env.cells.lookup x = some c -> c ≠ s.heap.objs.size := fun x c e => by
  obtain ⟨v, z⟩ := I.cell x c (eCl x c e); exact Nat.ne_of_lt z.lt
 have pnLt : ∀ p ∈ Y.pn, p.1 ≠ s.heap.objs.size := fun p hp => by
  rw [ePn] at hp; exact Zbf (I.pin p hp).1 (Nat.le_refl _)
 have fpD : ∀ b ∈ fp, b ≠ s.heap.objs.size := fun b hb => by obtain ⟨o, e⟩ := hfo b hb; exact Zbf e (Nat.le_refl _)
 have hDfs : s.heap.objs.size ∉ Y.fs := fun z => by
  rw [eFs] at z
  rcases List.mem_cons.mp (I.stkSub _ z) with z | z
  ·exact absurd I.lt (by rw [← z]; exact Nat.lt_irrefl _)
  ·exact I.nofs (Nat.le_refl _) z
 have stat : ∀ {H' : Hp} {o : Obj}, (∀ b ∈ fp, H' b = none) -> ∀ b ∈ fp, FpOk Y [(s.heap.objs.size, o)] H' b := fun {H' o} hn b hb => by
  obtain ⟨f0, f1, f2, f3, f4, f5⟩ := hf b hb
  obtain ⟨ob, e⟩ := hfo b hb
  refine ⟨hn b hb, by rw [eL]; exact Zbf e hCle, fun z => ?_, .inl (by rw [eEx]; exact hb), fun x c e => f4 x c (eCl x c e), fun p hp => ?_⟩
  ·rw [eFs] at z
   rcases List.mem_cons.mp (I.stkSub _ z) with z | z
   ·exact f1 z
   ·exact f2 z
  ·rcases List.mem_append.mp hp with hp | hp
   ·rw [ePn] at hp; exact f5 p hp
   ·have : p = (s.heap.objs.size, o) := by simpa using hp
    rw [this]; exact Ne.symm (fpD b hb)
 have pinD : ∀ {σ' : St} {H' : Hp} {s' : Shared} {its : List Value} {k : Nat}, Inv Y [] σ' H' s' -> H' s.heap.objs.size = none -> s'.heap.get? s.heap.objs.size = some { cls := .type "list", data := .seq its.toArray k } ->
   Inv Y [(s.heap.objs.size, { cls := .type "list", data := .seq its.toArray k })] σ' H' s' := fun {σ' H' s' its k} i hn e => i.pins_of fun p hp => by
  have : p = (s.heap.objs.size, { cls := .type "list", data := .seq its.toArray k }) := by simpa using hp
  subst this
  exact ⟨e, hn, by rw [eL]; exact hDC, hDfs, fun v z => by cases z⟩
 have loop : ∀ s₃ : Shared, s₃ = { s with heap := h₁, toks := s.toks + ([] : List (Str × Value)).length } ->
   codeAny (model X.prog X.w) X.A (.compLoop (.ListComp elt [⟨tg, iter, ifs, 0⟩] scope pos) 0 (.ref it) (.ref s.heap.objs.size) (compEnvC scope (clFrom X.env.cells scope.names []) H2.objs.size X.env))
    (RR (.ref s.heap.objs.size) H2.objs.size) s₃ := by
  rintro s₃ rfl
  rw [← eEnv, ← ePr, ← eW, ← eA]
  refine compLoop_any (fun n s' => ∃ i σ' ys its k H', Inv Y [(s.heap.objs.size, { cls := .type "list", data := .seq its.toArray k })] σ' H' s' /\ Vals ys its /\ tn i s'.heap /\ (∀ b ∈ fp, H' b = none) /\ W i n σ' ys H') ?_ m0
   ⟨0, _, [], [], 0, H, pinD J0 (I.hok.fresh (Nat.le_refl _)) hacc, .nil, T.keep _ _ _ st fun b _ o e => old b o e, fun b hb => (hf b hb).1, w0⟩
  rintro n s3 ⟨i, σ3, ys, its, k, H3, J3, rv, st3, fr3, w3⟩
  have pD := J3.pin (s.heap.objs.size, _) (List.mem_append_right _ (List.mem_singleton.mpr rfl))
  have eI := rv.length
  rcases turn i n σ3 ys H3 w3 with ⟨stop, hlen, qn⟩ | ⟨go, hlen, N, hN, step⟩
  ·have dn := T.done Y ePr eW eK eC i _ s3 σ3 H3 (fun _ _ => False) J3 (stat fr3) st3 stop
   rw [← ePr, ← eW] at dn
   refine no_xe dn fun r s4 h_ => ?_
   obtain ⟨hr, J4⟩ := h_
   subst hr
   have pD4 := J4.pin (s.heap.objs.size, _) (List.mem_append_right _ (List.mem_singleton.mpr rfl))
   obtain ⟨m4, hm4, _⟩ := id J4.loc
   rw [eL] at hm4
   have nC : H3 H2.objs.size = none := by rw [← eL]; exact J4.free
   refine hRR _ _ _ s4 m4 (comp_back I hf (by rw [hY]; exact J4) (Nat.le_refl _) pD4.2.1 hlen rv pD4.1) (qn _ pD4.2.1) hm4 ?_ hCle
   rw [Zan (Ne.symm hDC)]; exact nC
  ·have im := T.item Y ePr eW eK eC i _ s3 σ3 H3 (fun _ _ => False) J3 (stat fr3) st3 go
   rw [← ePr, ← eW] at im
   refine no_xe im fun r s4 h_ => ?_
   obtain ⟨u, hr, h4⟩ := h_
   subst hr
   refine no_xe h4 fun _ s5 h_ => ?_
   obtain ⟨x, H5, J5, r5, y5, st5, fr5⟩ := h_
   have J5' := J5.pinned (stat fr5) (T.obj _ _ st5)
   have go1 := hG _ s5 σ3 H5 x u _ J5' r5 (step x H5 y5)
   rw [eX] at go1
   refine no_xe go1 fun _ s6 h_ => ?_
   obtain ⟨σ6, H6, J6, q6⟩ := h_
   have go2 := hT _ s6 σ6 H6 _ J6 q6
   rw [eX] at go2
   refine no_xe go2 fun ok s7 h_ => ?_
   obtain ⟨H7, J7, q7⟩ := h_
   have fin : ∀ {σ8 : St} {H8 : Hp} {s8 : Shared}, Inv Y ([(s.heap.objs.size, { cls := .type "list", data := .seq its.toArray k })] ++ pinsAt fp s5.heap) σ8 H8 s8 ->
     tn (i + 1) s8.heap /\ (∀ b ∈ fp, H8 b = none) := fun {σ8 H8 s8} J8 => by
    refine ⟨T.keep _ _ _ st5 fun b hb o e => (J8.pin (b, o) (List.mem_append_right _ (List.mem_append_right _ (ZbA hb e)))).1, fun b hb => ?_⟩
    obtain ⟨o, e, d⟩ := T.obj _ _ st5 b hb
    exact (J8.pin (b, o) (List.mem_append_right _ (List.mem_append_right _ (ZbA hb e)))).2.1
   cases ok with
   | false =>
    rw [if_neg Bool.false_ne_true] at q7 ⊢
    obtain ⟨m', hm, w7⟩ := hN _ _ _ q7
    exact ⟨m', hm, i + 1, σ6, ys, its, k, H7, J7.unpinned, rv, (fin J7).1, (fin J7).2, w7⟩
   | true =>
    rw [if_pos rfl] at q7 ⊢
    have go3 := hE _ s7 σ6 H7 _ J7 q7
    rw [eX] at go3
    refine no_xe go3 fun yv s8 h_ => ?_
    obtain ⟨y, H8, J8, r8, n8⟩ := h_
    obtain ⟨m', hm, w8⟩ := hN _ _ _ n8
    have pD8 := J8.pin (s.heap.objs.size, _) (List.mem_append_right _ (List.mem_append_left _ (List.mem_singleton.mpr rfl)))
    refine append_at (hsz := by rw [List.size_toArray, ← eI]; exact hlen) pD8.1 fun h9 hs9 hD9 => ?_
    have J9 : Inv Y [] σ6 H8 { s8 with heap := h9 } := (J8.pins_of (pins' := []) fun p hp => absurd hp (by simp)).turned (t' := s8.toks) (fun b o hb e => (hs9.2 b hb).trans e) pD8.2.1 (by rw [eL]; exact hDC)
     (.inr (by rw [eS]; exact Nat.le_refl _)) cellLt fun p hp => pnLt p (by simpa using hp)
    refine ⟨m', hm, i + 1, σ6, ys ++ [y], its ++ [yv], k + 1, H8, pinD J9 pD8.2.1 (by rw [hD9, List.push_toArray]), Vals.append rv (.cons r8 .nil), ?_, (fin J8).2, w8⟩
    exact T.keep _ _ _ (fin J8).1 fun b hb o e => (hs9.2 b (fpD b hb)).trans e
 exact codeAny_compStart_list (loop _ rfl) (T.self _ 0 _ _ _ (T.keep _ _ _ st fun b _ o e => old b o e) (loop _ rfl))
theorem pe_comp {wi : TI} (S : CSc X scope vs fs fr) (hc : X.calm = true) (hi : PI X tg iter wi)
  (bG : ∀ C s₀ H₀ ex pn, PG (CompCx X (vs ++ fs) scope C s₀ H₀ ex pn) tg g) (bT : ∀ C s₀ H₀ ex pn, PTs (CompCx X (vs ++ fs) scope C s₀ H₀ ex pn) ifs tt) (bE : ∀ C s₀ H₀ ex pn, PE (CompCx X (vs ++ fs) scope C s₀ H₀ ex pn) elt te)
  (hs : ∀ x, foldedSetIterable iter X.env x = pure x := by intro _; rfl) :
  PE X (.ListComp elt [⟨tg, iter, ifs, 0⟩] scope pos) (tComp wi vs fr g tt te) := by
 intro pins s σ H Q I h
 rw [eval_ListComp]
 refine wpAny_comprehension_free (use := none) rfl hs (closure_eq (S.clos I.ok)) S.kind S.loc' (thn (hi pins s σ H _ I h) fun v s1 h1 => thn h1 fun itv s2 h2 => ?_)
 obtain ⟨it, fp, tn, J, H2, e, I2, T, st2, f2, q2⟩ := h2
 subst e
 refine comp_block (RR := fun acc C => compPost (model X.prog X.w) X.A X.xe none (EP X pins σ Q) acc C) S hc bG bT bE I2 T st2 f2 q2 ?_
 intro D C H' s' m' I' hq hn hC hle
 refine ⟨m', hn, fun h' hs' => ⟨.ref D, H', ?_, rfl, hq⟩⟩
 refine I'.turned (t' := s'.toks) (fun b o hb e => (hs'.2 b hb).trans e) hC ?_ (.inr (Nat.le_trans I2.sz hle)) ?_ ?_
 ·exact Nat.ne_of_gt (Nat.lt_of_lt_of_le I2.lt hle)
 ·intro x c e
  obtain ⟨v, z⟩ := I2.cell x c e
  exact Nat.ne_of_lt (Nat.lt_of_lt_of_le z.lt hle)
 ·intro p hp
  exact Zbf (I2.pin p hp).1 hle
end
section
variable {X : Cx}
noncomputable def Its (z : Str) : It := ⟨fun i _ => i < z.cps.size, fun i H x H' => H' = H /\ ∃ c, z.cps[i]? = some c /\ x = .str ⟨#[c]⟩, fun i _ => i = z.cps.size⟩
theorem turn_str {P : Program} {w : World} {K : W.Frag} {tg : Expr} {it : Addr} {z : Str} {t : Tok} {ty : String} (hty : ty = "str_ascii_iterator" \/ ty = "str_iterator") : Turn P w K tg (Its z) [it] it (fun i h => h.IsStrIter it ty z t i) where
 mem := by simp
 obj := fun i h st b hb => by
  have e : b = it := by simpa using hb
  subst e
  obtain ⟨o, e, c, d⟩ := st
  exact ⟨o, e, fun v z => by rw [d] at z; cases z⟩
 keep := fun i h h' st k => by
  obtain ⟨o, e, c, d⟩ := st
  exact ⟨o, k it (by simp) o e, c, d⟩
 item := by
  intro X hP hw hK hc i pins s σ H E I hf st hg
  subst hP hw hK
  obtain ⟨f0, f1, f2, f3, f4, f5⟩ := hf it (by simp)
  have fin : ∀ v h' tk, SignAt z i v -> h'.IsStrIter it ty z t (i + 1) -> (∀ b o, b ∉ [it] -> s.heap.get? b = some o -> h'.get? b = some o) ->
    ∃ u, some v = some u /\ wpAny (model X.prog X.w) X.A (letOwnedTupleGo tg (.ref it) u) (fun _ s2 => ∃ x H', Inv X pins σ H' s2 /\ RelV x u /\ (Its z).yld i H x H' /\ s2.heap.IsStrIter it ty z t (i + 1) /\ ∀ b ∈ [it], H' b = none) E { s with heap := h', toks := tk } := fun v h' tk hv st' kk => by
   obtain ⟨c, u, hcx, rfl⟩ := hv
   have I1 : Inv X pins σ H { s with heap := h', toks := tk } := I.turned (fun b o hb e => kk b o (by simpa using hb) e) f0 f1 f3 f4 f5
   obtain ⟨o, e, oc, d⟩ := id st'
   refine ⟨_, rfl, go_of (s := { s with heap := h', toks := tk }) e oc d (by rcases hty with rfl | rfl <;> decide) ⟨.str ⟨#[c]⟩, H, I1, ⟨u, rfl⟩, ⟨rfl, c, hcx, rfl⟩, st', fun b hb => (hf b hb).1⟩⟩
  rcases hty with rfl | rfl
  ·exact (Walks.strAscii (prog := X.prog) (w := X.w) (I.ok.hd hc) it z t).item i s _ _ hg st fin
  ·exact (Walks.strWide (prog := X.prog) (w := X.w) (I.ok.hd hc) it z t).item i s _ _ hg st fin
 done := by
  intro X hP hw hK hc i pins s σ H E I hf st hg
  subst hP hw hK
  obtain ⟨f0, f1, f2, f3, f4, f5⟩ := hf it (by simp)
  have hg : i = z.cps.size := hg
  subst hg
  have fin : ∀ h' tk, (∀ b o, b ∉ [it] -> s.heap.get? b = some o -> h'.get? b = some o) -> (none : Option Value) = none /\ Inv X pins σ H { s with heap := h', toks := tk } := fun h' tk kk =>
   ⟨rfl, I.turned (fun b o hb e => kk b o (by simpa using hb) e) f0 f1 f3 f4 f5⟩
  rcases hty with rfl | rfl
  ·exact (Walks.strAscii (prog := X.prog) (w := X.w) (I.ok.hd hc) it z t).done s _ _ st fin
  ·exact (Walks.strWide (prog := X.prog) (w := X.w) (I.ok.hd hc) it z t).done s _ _ st fin
 self := fun _ _ _ _ _ st h => by
  rcases hty with rfl | rfl
  ·exact wpAny_pyIter_striter_ascii st h
  ·exact wpAny_pyIter_striter_wide st h
theorem range_all (bs : List Bool) : ((List.range bs.length).all fun i => bs.getD i false) = bs.all id := by
 rw [Bool.eq_iff_iff]
 simp only [List.all_eq_true, List.mem_range]
 constructor
 ·intro h b hb
  obtain ⟨i, hi, e⟩ := List.getElem_of_mem hb
  have := h i hi
  rw [List.getD_eq_getElem?_getD, List.getElem?_eq_getElem hi] at this
  subst e
  simpa using this
 ·intro h i hi
  rw [List.getD_eq_getElem?_getD, List.getElem?_eq_getElem hi]
  simpa using h _ (List.getElem_mem hi)
theorem call_all_bl (hc : X.calm = true) : CallR X (.builtin "all") (fun xs H Q => ∃ (a : Addr) (bs : List Bool), xs = [.ref a] /\ SqL X.K H a (bs.map V.bl) /\ Q (.bl (bs.all id)) H) := by
 intro pins s σ H xs us Q I r h
 obtain ⟨a, bs, rfl, hq, q⟩ := h
 obtain ⟨u, rfl, ru⟩ := Vals.one r
 cases (show u = Value.ref a from ru)
 obtain ⟨its, rv, p, hz⟩ := I.list hq
 have hlt : a < s.heap.objs.size := by obtain ⟨o, e, _⟩ := p.isList; exact Heap.lt_size e
 refine call_all_walk (wpAny_pyIter_list p.isList ?_)
 have hlen : its.toArray.size = bs.length := by have := rv.length; simp at this; simp [this]
 refine ⟨s.heap.objs.size, _, _, its.toArray.size, _, _, fun i => bs.getD i false, rfl, Walks.list (by exact I.ok.hd hc) s.heap.objs.size a (Nat.ne_of_lt hlt) its.toArray, ⟨⟨_, Heap.get?_push_size _ rfl, rfl, rfl⟩, p.isList.push _⟩, ?_, ?_⟩
 ·intro i v s' Q' E' hv hQ'
  have hi : i < bs.length := by
   rw [← hlen]
   exact (Array.getElem?_eq_some_iff.mp hv).1
  obtain ⟨u, e1, r1⟩ := rv.get (i := i) (x := V.bl bs[i]) (by simp [hi])
  have e2 : its[i]? = some v := by simpa using hv
  rw [e1] at e2
  have e3 : u = v := Option.some.inj e2
  have e4 : u = Value.bool bs[i] := r1
  rw [← e3, e4]
  refine wpAny_truthy_bool ?_
  have : bs.getD i false = bs[i] := by rw [List.getD_eq_getElem?_getD, List.getElem?_eq_getElem hi]; rfl
  have hQ2 : Q' (bs.getD i false) s' := hQ'
  rw [this] at hQ2
  exact hQ2
 ·intro h' tk kk
  refine ⟨.bl _, H, I.kept fun b o e => kk b o (fun z => ?_) (Heap.get?_push_of_some _ e), ?_, q⟩
  ·have : b = s.heap.objs.size := by simpa using z
   exact absurd this (Nat.ne_of_lt (Heap.lt_size e))
  ·show Value.bool _ = Value.bool _
   rw [hlen, range_all]
theorem ZcJ : ∀ {ys : List Str} {us : List Value}, Vals (ys.map V.str) us -> StrsAre us ys
 | [], _, .nil => .nil
 | _ :: _, _, .cons r t => by
  obtain ⟨k, rfl⟩ := r
  exact .cons _ _ (ZcJ t)
theorem mt_join : MtR X "str.join" (fun x xs H Q => ∃ (z : Str) (p : Addr) (ys : List Str), x = .str z /\ xs = [.ref p] /\ SqL X.K H p (ys.map V.str) /\ (ys.map (·.length)).sum + ys.length * z.length <= 16777216 /\ Q (.str (Txt.join z ys)) H) := by
 intro pins s σ H x xs v us Q I rx rs h
 obtain ⟨z, p, ys, rfl, rfl, hq, hw, q⟩ := h
 obtain ⟨t, rfl⟩ := rx
 obtain ⟨u, rfl, ru⟩ := Vals.one rs
 cases (show u = Value.ref p from ru)
 obtain ⟨its, rv, pl, hz⟩ := I.list hq
 exact join_list pl.isList (ZcJ (by simpa using rv)) hw fun t' k => ⟨.str _, H, I.tok k, ⟨t', rfl⟩, q⟩
theorem mt_strip : MtR X "str.strip" (fun x xs H Q => ∃ (z y : Str), x = .str z /\ xs = [.str y] /\ z.length <= sizeLine /\ Q (.str (Txt.stripChars z y)) H) := by
 intro pins s σ H x xs v us Q I rx rs h
 obtain ⟨z, y, rfl, rfl, hz, q⟩ := h
 obtain ⟨t, rfl⟩ := rx
 obtain ⟨u, rfl, ru⟩ := Vals.one rs
 obtain ⟨t2, rfl⟩ := ru
 exact SC.stripChars (fun t' k => ⟨.str _, H, I.tok k, ⟨t', rfl⟩, q⟩) hz
end
section
variable {α : Type}
theorem ZbN {p : α -> Bool} : ∀ {l : List α}, l.all p = true -> l.takeWhile p = l
 | [], _ => rfl
 | a :: r, h => by
  rw [List.all_cons, Bool.and_eq_true] at h
  rw [List.takeWhile_cons, h.1]
  simp [ZbN h.2]
theorem ZbM {p : α -> Bool} : ∀ (l : List α), (l.takeWhile p).length <= l.length
 | [] => Nat.le_refl _
 | a :: r => by
  rw [List.takeWhile_cons]
  split
  ·simpa using ZbM r
  ·simp
theorem ZbF {p : α -> Bool} : ∀ {l : List α}, (l.takeWhile p).length = l.length -> l.all p = true
 | [], _ => rfl
 | a :: r, h => by
  rw [List.takeWhile_cons] at h
  split at h
  ·rename_i hp
   rw [List.all_cons, hp, Bool.true_and]
   exact ZbF (by simpa using h)
  ·simp at h
theorem ZbH {p : α -> Bool} : ∀ {l : List α}, l.all p = false -> ∃ a r, l.drop (l.takeWhile p).length = a :: r /\ p a = false
 | [], h => by simp at h
 | a :: r, h => by
  rw [List.takeWhile_cons]
  cases hp : p a with
  | true =>
   rw [List.all_cons, hp, Bool.true_and] at h
   obtain ⟨b, q, e, hb⟩ := ZbH (p := p) h
   exact ⟨b, q, by simpa using e, hb⟩
  | false => exact ⟨a, r, by simp, hp⟩
end
theorem strip_empty (z y : Str) (g : Nat -> Bool) (hg : g = y.cps.contains) : (Txt.stripChars z y = Str.empty) ↔ z.cps.toList.all g = true := by
 subst hg
 unfold Txt.stripChars Txt.stripBy
 have hl : z.length = z.cps.toList.length := by simp [Str.length]
 cases ha : z.cps.toList.all y.cps.contains with
 | true =>
  have e1 : stripLo y.cps.contains true z = z.length := by
   unfold stripLo; rw [if_pos rfl, ZbN ha, hl]
  have e2 : stripHi y.cps.contains true z z.length = z.length := by
   unfold stripHi; rw [if_pos rfl, hl, List.drop_length]; simp
  constructor
  ·intro _; rfl
  ·intro _
   have e3 : stripped y.cps.contains true true z = Str.empty := by
    unfold stripped
    rw [e1, e2]
    unfold Builtin.Str.strSub Str.empty
    simp [Nat.min_le_left]
   rw [e3]
   split
   ·rename_i hs
    unfold stripSame at hs
    rw [e1] at hs
    have hs := (Bool.and_eq_true _ _ ▸ hs).1
    have : z.length = 0 := by simpa using hs
    have h0 : z.cps.size = 0 := this
    cases z with
    | mk c =>
     have : c = #[] := Array.eq_empty_of_size_eq_zero h0
     rw [this]; rfl
   ·rfl
 | false =>
  constructor
  ·intro h
   exfalso
   obtain ⟨a, r, e, hp⟩ := ZbH ha
   have hlo : stripLo y.cps.contains true z = (z.cps.toList.takeWhile y.cps.contains).length := by unfold stripLo; rw [if_pos rfl]
   have hne : z ≠ Str.empty := by
    intro q; rw [q] at ha; simp [Str.empty] at ha
   split at h
   ·exact hne h
   ·unfold stripped at h
    have hsz : (Builtin.Str.strSub z (stripLo y.cps.contains true z) (stripHi y.cps.contains true z (stripLo y.cps.contains true z))).cps.size = 0 := by rw [h]; rfl
    unfold Builtin.Str.strSub at hsz
    simp only [Array.size_extract] at hsz
    have hle : stripHi y.cps.contains true z (stripLo y.cps.contains true z) <= z.cps.size := by
     unfold stripHi; rw [if_pos rfl]; exact Nat.sub_le _ _
    rw [Nat.min_eq_left hle] at hsz
    have hhi : stripHi y.cps.contains true z (stripLo y.cps.contains true z) = z.length - ((a :: r).reverse.takeWhile y.cps.contains).length := by
     unfold stripHi; rw [if_pos rfl, hlo, e]
    have hdl : (z.cps.toList.drop (z.cps.toList.takeWhile y.cps.contains).length).length = r.length + 1 := by rw [e]; rfl
    rw [List.length_drop] at hdl
    have htw : ((a :: r).reverse.takeWhile y.cps.contains).length < r.length + 1 := by
     have h1 := ZbM (p := y.cps.contains) (a :: r).reverse
     rw [List.length_reverse] at h1
     rcases Nat.lt_or_ge ((a :: r).reverse.takeWhile y.cps.contains).length (r.length + 1) with q | q
     ·exact q
     ·exfalso
      have h2 : ((a :: r).reverse.takeWhile y.cps.contains).length = (a :: r).reverse.length := by rw [List.length_reverse]; exact Nat.le_antisymm h1 q
      have h3 := ZbF h2
      rw [List.all_reverse, List.all_cons, hp] at h3
      cases h3
    rw [hhi, hlo, hl] at hsz
    lia
  ·intro h; cases h
end L2
namespace Pu
open PySem PySem.Spec PyProof.Rows L2
inductive PV where
 | non | bl (b : Bool) | int (i : Int) | str (x : Str) | tup (xs : List PV) | lst (xs : List PV) | dct (ks vs : List PV) | dtt (ks : List (List Key)) (vs : List PV) | fn (a : Addr) | ty (n : String)
noncomputable def kP : Key -> PV
 | .inl i => .int i
 | .inr x => .str x
noncomputable def LsR (K : W.Frag) (ι : List Addr) (H : Hp) (a : Addr) (vs : List V) : Prop :=
 (a ∉ ι /\ Rd H a (.lst vs)) \/
  ∃ (o : Obj) (its : Array Value) (n : Nat), K.lookup a = some o /\ o.cls = .type "list" /\ o.dict = none /\ o.data = .seq its n /\ its.size <= sizeLine /\ Vals vs its.toList
theorem LsR.sq {K : W.Frag} {ι : List Addr} {H : Hp} {a : Addr} {vs : List V} (h : LsR K ι H a vs) : SqL K H a vs := by
 rcases h with ⟨_, h⟩ | h
 ·exact .inl h
 ·exact .inr h
noncomputable def TpR (H : Hp) (a : Addr) (vs : List V) : Prop := H a = some (.tup vs)
theorem TpR.sq {K : W.Frag} {H : Hp} {a : Addr} {vs : List V} (h : TpR H a vs) : SqT K H a vs := .inl (.inl h)
mutual
noncomputable def Rep (K : W.Frag) (ι : List Addr) (H : Hp) : PV -> V -> Prop
 | .non, v => v = .non
 | .bl b, v => v = .bl b
 | .int i, v => v = .int i
 | .str x, v => v = .str x /\ x.length <= sizeLine
 | .tup ps, v => ∃ a vs, v = .ref a /\ TpR H a vs /\ Reps K ι H ps vs
 | .lst ps, v => ∃ a vs, v = .ref a /\ LsR K ι H a vs /\ Reps K ι H ps vs
 | .dct ks ps, v => ∃ (a : Addr) (qs : List Key) (vs : List V), v = .ref a /\ a ∉ ι /\ H a = some (.dK (qs.zip vs)) /\ qs.length = vs.length /\ ks = qs.map kP /\ Reps K ι H ps vs
 | .dtt ks ps, v => ∃ (a : Addr) (vs : List V), v = .ref a /\ a ∉ ι /\ H a = some (.dT (ks.zip vs)) /\ ks.length = vs.length /\ Reps K ι H ps vs
 | .fn a, v => v = .ref a
 | .ty n, v => v = .ty n
noncomputable def Reps (K : W.Frag) (ι : List Addr) (H : Hp) : List PV -> List V -> Prop
 | [], vs => vs = []
 | p :: ps, vs => ∃ v r, vs = v :: r /\ Rep K ι H p v /\ Reps K ι H ps r
end
inductive SV where
 | v (p : PV) | c (k : Nat)
noncomputable abbrev Cs := List PV
noncomputable def RepS (K : W.Frag) (ι : List Addr) (H : Hp) : SV -> V -> Prop
 | .v p, x => Rep K ι H p x
 | .c k, x => ∃ a, x = .ref a /\ ι[k]? = some a
noncomputable def RepSs (K : W.Frag) (ι : List Addr) (H : Hp) : List SV -> List V -> Prop
 | [], vs => vs = []
 | p :: ps, vs => ∃ v r, vs = v :: r /\ RepS K ι H p v /\ RepSs K ι H ps r
noncomputable def CellOk (K : W.Frag) (ι : List Addr) (H : Hp) (a : Addr) : PV -> Prop
 | .lst ps => ∃ vs, H a = some (.lst vs) /\ Reps K ι H ps vs
 | .dct ks ps => ∃ (qs : List Key) (vs : List V), H a = some (.dK (qs.zip vs)) /\ qs.length = vs.length /\ ks = qs.map kP /\ Reps K ι H ps vs
 | .dtt ks ps => ∃ (vs : List V), H a = some (.dT (ks.zip vs)) /\ ks.length = vs.length /\ Reps K ι H ps vs
 | _ => False
structure CR (K : W.Frag) (ι : List Addr) (H : Hp) (C : Cs) : Prop where
 len : ι.length = C.length
 nd : ι.Nodup
 ok : ∀ (k : Nat) (a : Addr) (c : PV), ι[k]? = some a -> C[k]? = some c -> CellOk K ι H a c
noncomputable def Fr (ι : List Addr) (H H' : Hp) : Prop := ∀ b o, b ∉ ι -> H b = some o -> H' b = some o
theorem Fr.refl {ι : List Addr} {H : Hp} : Fr ι H H := fun _ _ _ h => h
theorem Fr.trans {ι : List Addr} {H H1 H2 : Hp} (a : Fr ι H H1) (b : Fr ι H1 H2) : Fr ι H H2 := fun c o n h => b c o n (a c o n h)
theorem Fr.new {ι : List Addr} {H : Hp} {p : Addr} {o : HO} (h : H p = none) : Fr ι H (upd H p o) := fun b u _ e => by rw [Zan (Zal e h)]; exact e
section
variable {K : W.Frag} {ι : List Addr} {H H' : Hp} {C : Cs}
theorem CR.at' (cr : CR K ι H C) {a : Addr} (h : a ∈ ι) : ∃ (k : Nat) (c : PV), ι[k]? = some a /\ C[k]? = some c /\ CellOk K ι H a c := by
 obtain ⟨k, hk, e⟩ := List.getElem_of_mem h
 have h1 : ι[k]? = some a := by rw [List.getElem?_eq_getElem hk, e]
 have hk2 : k < C.length := by rw [← cr.len]; exact hk
 exact ⟨k, C[k], h1, List.getElem?_eq_getElem hk2, cr.ok k a _ h1 (List.getElem?_eq_getElem hk2)⟩
theorem CR.mut (cr : CR K ι H C) {a : Addr} (h : a ∈ ι) : (∃ vs, H a = some (.lst vs)) \/ (∃ kvs, H a = some (.dK kvs)) \/ ∃ kvs, H a = some (.dT kvs) := by
 obtain ⟨k, c, _, _, ok⟩ := cr.at' h
 cases c with
 | lst ps => obtain ⟨vs, e, _⟩ := ok; exact .inl ⟨vs, e⟩
 | dct ks ps => obtain ⟨qs, vs, e, _⟩ := ok; exact .inr (.inl ⟨_, e⟩)
 | dtt ks ps => obtain ⟨vs, e, _⟩ := ok; exact .inr (.inr ⟨_, e⟩)
 | _ => exact ok.elim
theorem CR.notup (cr : CR K ι H C) {a : Addr} {o : HO} (e : H a = some o) (h1 : ∀ vs, o ≠ .lst vs) (h2 : ∀ kvs, o ≠ .dK kvs) (h3 : ∀ kvs, o ≠ .dT kvs := by intro kvs z; cases z) : a ∉ ι := fun h => by
 rcases cr.mut h with ⟨vs, z⟩ | ⟨kvs, z⟩ | ⟨kvs, z⟩
 ·rw [e] at z; exact h1 vs (Option.some.inj z)
 ·rw [e] at z; exact h2 kvs (Option.some.inj z)
 ·rw [e] at z; exact h3 kvs (Option.some.inj z)
theorem tpR_mono (cr : CR K ι H C) (fr : Fr ι H H') {a : Addr} {vs : List V} (h : TpR H a vs) : TpR H' a vs :=
 fr _ _ (cr.notup h (fun _ e => nomatch e) fun _ e => nomatch e) h
theorem LsR.mono (fr : Fr ι H H') {a : Addr} {vs : List V} (h : LsR K ι H a vs) : LsR K ι H' a vs := by
 rcases h with ⟨n, h | ⟨o, h⟩⟩ | h
 ·exact .inl ⟨n, .inl (fr _ _ n h)⟩
 ·exact .inl ⟨n, .inr ⟨o, fr _ _ n h⟩⟩
 ·exact .inr h
mutual
theorem Rep.mono (cr : CR K ι H C) (fr : Fr ι H H') : ∀ (p : PV) (v : V), Rep K ι H p v -> Rep K ι H' p v
 | .non, v, h => by unfold Rep at h ⊢; exact h
 | .bl b, v, h => by unfold Rep at h ⊢; exact h
 | .int i, v, h => by unfold Rep at h ⊢; exact h
 | .str x, v, h => by unfold Rep at h ⊢; exact h
 | .tup ps, v, h => by
  unfold Rep at h ⊢
  obtain ⟨a, vs, e, sq, r⟩ := h
  exact ⟨a, vs, e, tpR_mono cr fr sq, Reps.mono cr fr ps vs r⟩
 | .lst ps, v, h => by
  unfold Rep at h ⊢
  obtain ⟨a, vs, e, sq, r⟩ := h
  exact ⟨a, vs, e, sq.mono fr, Reps.mono cr fr ps vs r⟩
 | .dct ks ps, v, h => by
  unfold Rep at h ⊢
  obtain ⟨a, qs, vs, e, n, hd, hl, hk, r⟩ := h
  exact ⟨a, qs, vs, e, n, fr _ _ n hd, hl, hk, Reps.mono cr fr ps vs r⟩
 | .dtt ks ps, v, h => by
  unfold Rep at h ⊢
  obtain ⟨a, vs, e, n, hd, hl, r⟩ := h
  exact ⟨a, vs, e, n, fr _ _ n hd, hl, Reps.mono cr fr ps vs r⟩
 | .fn a, v, h => by unfold Rep at h ⊢; exact h
 | .ty n, v, h => by unfold Rep at h ⊢; exact h
theorem Reps.mono (cr : CR K ι H C) (fr : Fr ι H H') : ∀ (ps : List PV) (vs : List V), Reps K ι H ps vs -> Reps K ι H' ps vs
 | [], vs, h => by unfold Reps at h ⊢; exact h
 | p :: ps, vs, h => by
  unfold Reps at h ⊢
  obtain ⟨v, r, e, h1, h2⟩ := h
  exact ⟨v, r, e, Rep.mono cr fr p v h1, Reps.mono cr fr ps r h2⟩
end
theorem RepS.mono (cr : CR K ι H C) (fr : Fr ι H H') {s : SV} {v : V} (h : RepS K ι H s v) : RepS K ι H' s v := by
 cases s with
 | v p => exact Rep.mono cr fr p v h
 | c k => exact h
mutual
theorem Rep.stay (sm : ∀ b o, H b = some o -> H' b = some o) : ∀ (p : PV) (v : V), Rep K ι H p v -> Rep K ι H' p v
 | .non, v, h => by unfold Rep at h ⊢; exact h
 | .bl b, v, h => by unfold Rep at h ⊢; exact h
 | .int i, v, h => by unfold Rep at h ⊢; exact h
 | .str x, v, h => by unfold Rep at h ⊢; exact h
 | .tup ps, v, h => by
  unfold Rep at h ⊢
  obtain ⟨a, vs, e, sq, r⟩ := h
  exact ⟨a, vs, e, sm _ _ sq, Reps.stay sm ps vs r⟩
 | .lst ps, v, h => by
  unfold Rep at h ⊢
  obtain ⟨a, vs, e, sq, r⟩ := h
  exact ⟨a, vs, e, sq.mono (fun b o _ e => sm b o e), Reps.stay sm ps vs r⟩
 | .dct ks ps, v, h => by
  unfold Rep at h ⊢
  obtain ⟨a, qs, vs, e, n, hd, hl, hk, r⟩ := h
  exact ⟨a, qs, vs, e, n, sm _ _ hd, hl, hk, Reps.stay sm ps vs r⟩
 | .dtt ks ps, v, h => by
  unfold Rep at h ⊢
  obtain ⟨a, vs, e, n, hd, hl, r⟩ := h
  exact ⟨a, vs, e, n, sm _ _ hd, hl, Reps.stay sm ps vs r⟩
 | .fn a, v, h => by unfold Rep at h ⊢; exact h
 | .ty n, v, h => by unfold Rep at h ⊢; exact h
theorem Reps.stay (sm : ∀ b o, H b = some o -> H' b = some o) : ∀ (ps : List PV) (vs : List V), Reps K ι H ps vs -> Reps K ι H' ps vs
 | [], vs, h => by unfold Reps at h ⊢; exact h
 | p :: ps, vs, h => by
  unfold Reps at h ⊢
  obtain ⟨v, r, e, h1, h2⟩ := h
  exact ⟨v, r, e, Rep.stay sm p v h1, Reps.stay sm ps r h2⟩
end
mutual
theorem Rep.cells {ι' : List Addr} (hs : ∀ b o, H b = some o -> b ∉ ι -> b ∉ ι') : ∀ (p : PV) (v : V), Rep K ι H p v -> Rep K ι' H p v
 | .non, v, h => by unfold Rep at h ⊢; exact h
 | .bl b, v, h => by unfold Rep at h ⊢; exact h
 | .int i, v, h => by unfold Rep at h ⊢; exact h
 | .str x, v, h => by unfold Rep at h ⊢; exact h
 | .tup ps, v, h => by
  unfold Rep at h ⊢
  obtain ⟨a, vs, e, sq, r⟩ := h
  exact ⟨a, vs, e, sq, Reps.cells hs ps vs r⟩
 | .lst ps, v, h => by
  unfold Rep at h ⊢
  obtain ⟨a, vs, e, sq, r⟩ := h
  refine ⟨a, vs, e, ?_, Reps.cells hs ps vs r⟩
  rcases sq with ⟨n, q | ⟨o, q⟩⟩ | q
  ·exact .inl ⟨hs _ _ q n, .inl q⟩
  ·exact .inl ⟨hs _ _ q n, .inr ⟨o, q⟩⟩
  ·exact .inr q
 | .dct ks ps, v, h => by
  unfold Rep at h ⊢
  obtain ⟨a, qs, vs, e, n, hd, hl, hk, r⟩ := h
  exact ⟨a, qs, vs, e, hs _ _ hd n, hd, hl, hk, Reps.cells hs ps vs r⟩
 | .dtt ks ps, v, h => by
  unfold Rep at h ⊢
  obtain ⟨a, vs, e, n, hd, hl, r⟩ := h
  exact ⟨a, vs, e, hs _ _ hd n, hd, hl, Reps.cells hs ps vs r⟩
 | .fn a, v, h => by unfold Rep at h ⊢; exact h
 | .ty n, v, h => by unfold Rep at h ⊢; exact h
theorem Reps.cells {ι' : List Addr} (hs : ∀ b o, H b = some o -> b ∉ ι -> b ∉ ι') : ∀ (ps : List PV) (vs : List V), Reps K ι H ps vs -> Reps K ι' H ps vs
 | [], vs, h => by unfold Reps at h ⊢; exact h
 | p :: ps, vs, h => by
  unfold Reps at h ⊢
  obtain ⟨v, r, e, h1, h2⟩ := h
  exact ⟨v, r, e, Rep.cells hs p v h1, Reps.cells hs ps r h2⟩
end
theorem Reps.nil : Reps K ι H [] [] := by unfold Reps; rfl
theorem Reps.cons {p : PV} {v : V} {ps : List PV} {vs : List V} (h : Rep K ι H p v) (t : Reps K ι H ps vs) : Reps K ι H (p :: ps) (v :: vs) := by unfold Reps; exact ⟨v, vs, rfl, h, t⟩
theorem Reps.inv {p : PV} {ps : List PV} {vs : List V} (h : Reps K ι H (p :: ps) vs) : ∃ v r, vs = v :: r /\ Rep K ι H p v /\ Reps K ι H ps r := by unfold Reps at h; exact h
theorem Reps.inv0 {vs : List V} (h : Reps K ι H [] vs) : vs = [] := by unfold Reps at h; exact h
theorem Reps.length : ∀ {ps : List PV} {vs : List V}, Reps K ι H ps vs -> ps.length = vs.length
 | [], vs, h => by rw [h.inv0]; rfl
 | p :: ps, vs, h => by obtain ⟨v, r, rfl, _, t⟩ := h.inv; rw [List.length_cons, List.length_cons, t.length]
theorem Reps.append : ∀ {ps qs : List PV} {vs ws : List V}, Reps K ι H ps vs -> Reps K ι H qs ws -> Reps K ι H (ps ++ qs) (vs ++ ws)
 | [], _, vs, _, h, t => by rw [h.inv0]; exact t
 | p :: ps, _, vs, _, h, t => by obtain ⟨v, r, rfl, h1, h2⟩ := h.inv; exact .cons h1 (h2.append t)
theorem Reps.get : ∀ {ps : List PV} {vs : List V} {i : Nat} {p : PV}, Reps K ι H ps vs -> ps[i]? = some p -> ∃ v, vs[i]? = some v /\ Rep K ι H p v
 | [], _, _, _, h, e => by simp at e
 | q :: ps, vs, 0, p, h, e => by
  obtain ⟨v, r, rfl, h1, h2⟩ := h.inv
  simp at e; subst e; exact ⟨v, rfl, h1⟩
 | q :: ps, vs, i + 1, p, h, e => by
  obtain ⟨v, r, rfl, h1, h2⟩ := h.inv
  obtain ⟨w, e1, r1⟩ := h2.get (i := i) (by simpa using e)
  exact ⟨w, by simpa using e1, r1⟩
theorem Reps.get' : ∀ {ps : List PV} {vs : List V} {i : Nat} {v : V}, Reps K ι H ps vs -> vs[i]? = some v -> ∃ p, ps[i]? = some p /\ Rep K ι H p v := fun {ps vs i v} h e => by
 have hi : i < ps.length := by
  rw [h.length]
  rcases Nat.lt_or_ge i vs.length with q | q
  ·exact q
  ·rw [List.getElem?_eq_none_iff.mpr q] at e; cases e
 obtain ⟨w, e1, r⟩ := h.get (List.getElem?_eq_getElem hi)
 rw [e] at e1; cases e1
 exact ⟨_, List.getElem?_eq_getElem hi, r⟩
theorem Reps.take : ∀ {ps : List PV} {vs : List V} (n : Nat), Reps K ι H ps vs -> Reps K ι H (ps.take n) (vs.take n)
 | _, _, 0, _ => by simp; exact .nil
 | [], vs, n + 1, h => by rw [h.inv0]; simp; exact .nil
 | p :: ps, vs, n + 1, h => by obtain ⟨v, r, rfl, h1, h2⟩ := h.inv; simp only [List.take_succ_cons]; exact .cons h1 (h2.take n)
theorem Reps.drop : ∀ {ps : List PV} {vs : List V} (n : Nat), Reps K ι H ps vs -> Reps K ι H (ps.drop n) (vs.drop n)
 | _, _, 0, h => by simpa using h
 | [], vs, n + 1, h => by rw [h.inv0]; simp; exact .nil
 | p :: ps, vs, n + 1, h => by obtain ⟨v, r, rfl, h1, h2⟩ := h.inv; simpa using h2.drop n
theorem Reps.set : ∀ {ps : List PV} {vs : List V} (i : Nat) {p : PV} {v : V}, Reps K ι H ps vs -> Rep K ι H p v -> Reps K ι H (ps.set i p) (vs.set i v)
 | [], vs, i, p, v, h, _ => by rw [h.inv0]; simp; exact .nil
 | q :: ps, vs, 0, p, v, h, hp => by obtain ⟨w, r, rfl, h1, h2⟩ := h.inv; simp; exact .cons hp h2
 | q :: ps, vs, i + 1, p, v, h, hp => by obtain ⟨w, r, rfl, h1, h2⟩ := h.inv; simp; exact .cons h1 (h2.set i hp)
theorem CellOk.mono (cr : CR K ι H C) (fr : Fr ι H H') {a : Addr} {c : PV} (ha : ∀ o, H a = some o -> H' a = some o) (h : CellOk K ι H a c) : CellOk K ι H' a c := by
 cases c with
 | lst ps => obtain ⟨vs, e, r⟩ := h; exact ⟨vs, ha _ e, Reps.mono cr fr _ _ r⟩
 | dct ks ps => obtain ⟨qs, vs, e, hl, hk, r⟩ := h; exact ⟨qs, vs, ha _ e, hl, hk, Reps.mono cr fr _ _ r⟩
 | dtt ks ps => obtain ⟨vs, e, hl, r⟩ := h; exact ⟨vs, ha _ e, hl, Reps.mono cr fr _ _ r⟩
 | _ => exact h.elim
theorem CR.same (cr : CR K ι H C) (sm : ∀ b o, H b = some o -> H' b = some o) : CR K ι H' C :=
 ⟨cr.len, cr.nd, fun k a c h1 h2 => (cr.ok k a c h1 h2).mono cr (fun b o _ e => sm b o e) fun o e => sm a o e⟩
theorem CR.new (cr : CR K ι H C) {p : Addr} {o : HO} (h : H p = none) : CR K ι (upd H p o) C := cr.same fun b u e => by rw [Zan (Zal e h)]; exact e
theorem CR.put (cr : CR K ι H C) {k : Nat} {a : Addr} {c : PV} {o : HO} (hk : ι[k]? = some a) (ok : CellOk K ι (upd H a o) a c) : CR K ι (upd H a o) (C.set k c) := by
 have fr : Fr ι H (upd H a o) := fun b u n e => by
  rw [Zan (fun z => n (by rw [z]; exact List.mem_of_getElem? hk))]; exact e
 refine ⟨by rw [List.length_set]; exact cr.len, cr.nd, fun j b d h1 h2 => ?_⟩
 by_cases hj : j = k
 ·subst hj
  rw [hk] at h1; cases h1
  have hlt : j < C.length := by
   rw [← cr.len]
   rcases Nat.lt_or_ge j ι.length with q | q
   ·exact q
   ·rw [List.getElem?_eq_none_iff.mpr q] at hk; cases hk
  rw [List.getElem?_set_self hlt] at h2
  cases h2; exact ok
 ·rw [List.getElem?_set_ne (Ne.symm hj)] at h2
  refine (cr.ok j b d h1 h2).mono cr fr fun u e => ?_
  have hb : b ≠ a := fun z => by
   subst z
   have hjl : j < ι.length := by
    rcases Nat.lt_or_ge j ι.length with q | q
    ·exact q
    ·rw [List.getElem?_eq_none_iff.mpr q] at h1; cases h1
   have hkl : k < ι.length := by
    rcases Nat.lt_or_ge k ι.length with q | q
    ·exact q
    ·rw [List.getElem?_eq_none_iff.mpr q] at hk; cases hk
   have e1 := (List.getElem?_eq_some_iff.mp h1).2
   have e2 := (List.getElem?_eq_some_iff.mp hk).2
   exact hj ((List.getElem_inj cr.nd).mp (e1.trans e2.symm))
  rw [Zan hb]; exact e
theorem repHs {p : Addr} (hp : H p = none) : ∀ b u, H b = some u -> b ∉ ι -> b ∉ ι ++ [p] := fun b u e n z => by
 rcases List.mem_append.mp z with z | z
 ·exact n z
 ·exact Zal e hp (by simpa using z)
theorem RepsNew (cr : CR K ι H C) {p : Addr} {o : HO} (hp : H p = none) (q : List PV) (v : List V) (r : Reps K ι H q v) : Reps K (ι ++ [p]) (upd H p o) q v := by
 exact Reps.stay (fun b u e => by rw [Zan (Zal e hp)]; exact e) q v (Reps.cells (ι' := ι ++ [p]) (repHs hp) q v r)
theorem CR.add (cr : CR K ι H C) {p : Addr} {c : PV} {o : HO} (hp : H p = none) (ok : CellOk K (ι ++ [p]) (upd H p o) p c) : CR K (ι ++ [p]) (upd H p o) (C ++ [c]) := by
 have hni : p ∉ ι := fun z => by
  rcases cr.mut z with ⟨vs, e⟩ | ⟨kvs, e⟩ | ⟨kvs, e⟩
  ·rw [hp] at e; cases e
  ·rw [hp] at e; cases e
  ·rw [hp] at e; cases e
 have hc : ∀ b u, (upd H p o) b = some u -> b ∉ ι -> b ≠ p -> b ∉ ι ++ [p] := fun b u _ n1 n2 z => by
  rcases List.mem_append.mp z with z | z
  ·exact n1 z
  ·exact n2 (by simpa using z)
 have up : ∀ b u, H b = some u -> (upd H p o) b = some u := fun b u e => by rw [Zan (Zal e hp)]; exact e
 have lift : ∀ (b : Addr) (d : PV), CellOk K ι H b d -> CellOk K (ι ++ [p]) (upd H p o) b d := fun b d h => by
  have hs : ∀ b u, H b = some u -> b ∉ ι -> b ∉ ι ++ [p] := fun b u e n => hc b u (up b u e) n (Zal e hp)
  have cr' : CR K ι (upd H p o) C := cr.new hp
  cases d with
  | lst ps =>
   obtain ⟨vs, e, r⟩ := h
   exact ⟨vs, up _ _ e, RepsNew cr hp ps vs r⟩
  | dct ks ps =>
   obtain ⟨qs, vs, e, hl, hk, r⟩ := h
   exact ⟨qs, vs, up _ _ e, hl, hk, RepsNew cr hp ps vs r⟩
  | dtt ks ps =>
   obtain ⟨vs, e, hl, r⟩ := h
   exact ⟨vs, up _ _ e, hl, RepsNew cr hp ps vs r⟩
  | _ => exact h.elim
 refine ⟨by simp [cr.len], ?_, fun k a d h1 h2 => ?_⟩
 ·rw [List.nodup_append]
  refine ⟨cr.nd, by simp, fun a ha b hb => ?_⟩
  have : b = p := by simpa using hb
  subst this
  exact fun z => hni (z ▸ ha)
 ·rcases Nat.lt_or_ge k ι.length with hk | hk
  ·rw [List.getElem?_append_left hk] at h1
   rw [List.getElem?_append_left (by rw [← cr.len]; exact hk)] at h2
   exact lift a d (cr.ok k a d h1 h2)
  ·rw [List.getElem?_append_right hk] at h1
   rw [List.getElem?_append_right (by rw [← cr.len]; exact hk)] at h2
   rw [← cr.len] at h2
   cases hz : k - ι.length with
   | zero =>
    rw [hz] at h1 h2
    simp at h1 h2
    subst h1 h2
    exact ok
   | succ j => rw [hz] at h1; simp at h1
end
end Pu
namespace Pu
open PySem PySem.Spec L2
open PyProof.Rows hiding St
noncomputable abbrev M (α : Type) := Cs -> Option (α × Cs)
noncomputable def ret {α : Type} (a : α) : M α := fun C => some (a, C)
noncomputable def bnd {α β : Type} (x : M α) (f : α -> M β) : M β := fun C => match x C with
 | none => none
 | some (a, C') => f a C'
noncomputable def opM {α : Type} (g : Cs -> Option α) : M α := fun C => match g C with
 | none => none
 | some a => some (a, C)
theorem Zah {α β : Type} {x : M α} {f : α -> M β} {C C2 : Cs} {b : β} (h : bnd x f C = some (b, C2)) : ∃ a C1, x C = some (a, C1) /\ f a C1 = some (b, C2) := by
 unfold bnd at h
 cases e : x C with
 | none => rw [e] at h; cases h
 | some p => obtain ⟨a, C1⟩ := p; rw [e] at h; exact ⟨a, C1, rfl, h⟩
theorem ZaF {α : Type} {g : Cs -> Option α} {C C2 : Cs} {b : α} (h : opM g C = some (b, C2)) : g C = some b /\ C2 = C := by
 unfold opM at h
 cases e : g C with
 | none => rw [e] at h; cases h
 | some p => rw [e] at h; cases h; exact ⟨rfl, rfl⟩
noncomputable abbrev PSt := List (Option SV)
noncomputable def asB : SV -> Option Bool
 | .v (.bl b) => some b
 | _ => none
noncomputable def mB (x : SV) : M Bool := opM fun _ => asB x
theorem Zct {x : SV} {C C2 : Cs} {b : Bool} (h : mB x C = some (b, C2)) : x = .v (.bl b) /\ C2 = C := by
 obtain ⟨h, e⟩ := ZaF h
 refine ⟨?_, e⟩
 cases x with
 | c k => cases h
 | v p => cases p <;> first | (cases h; rfl) | cases h
theorem repB {K : W.Frag} {ι : List Addr} {H : Hp} {b : Bool} {v : V} (h : RepS K ι H (.v (.bl b)) v) : v = .bl b := by unfold RepS Rep at h; exact h
theorem repB' {K : W.Frag} {ι : List Addr} {H : Hp} {b : Bool} : RepS K ι H (.v (.bl b)) (.bl b) := by unfold RepS Rep; rfl
inductive PF where
 | nx (ρ : PSt) | rt (r : SV) | bk (ρ : PSt) | ct (ρ : PSt) | rf (ps : List PV)
structure SR (K : W.Frag) (ι : List Addr) (H : Hp) (ρ : PSt) (σ : St) (C : Cs) : Prop where
 cr : CR K ι H C
 len : ρ.length = σ.length
 loc : ∀ (i : Nat) (s : SV), ρ[i]? = some (some s) -> ∃ v, σ[i]? = some (some v) /\ RepS K ι H s v
section
variable {K : W.Frag} {ι : List Addr} {H H' : Hp} {C C' : Cs} {ρ : PSt} {σ : St}
theorem SR.step (sr : SR K ι H ρ σ C) (fr : Fr ι H H') (cr : CR K ι H' C') : SR K ι H' ρ σ C' :=
 ⟨cr, sr.len, fun i s e => by obtain ⟨v, h1, h2⟩ := sr.loc i s e; exact ⟨v, h1, h2.mono sr.cr fr⟩⟩
theorem SR.set (sr : SR K ι H ρ σ C) {s : SV} {v : V} (i : Nat) (r : RepS K ι H s v) : SR K ι H (ρ.set i (some s)) (σ.set i (some v)) C := by
 refine ⟨sr.cr, by simp [sr.len], fun j t e => ?_⟩
 by_cases hj : i = j
 ·subst hj
  have hi : i < ρ.length := by
   rcases Nat.lt_or_ge i ρ.length with q | q
   ·exact q
   ·rw [List.getElem?_eq_none_iff.mpr (by simpa using q)] at e; cases e
  rw [List.getElem?_set_self hi] at e
  cases e
  exact ⟨v, by rw [List.getElem?_set_self (by rw [← sr.len]; exact hi)], r⟩
 ·rw [List.getElem?_set_ne hj] at e
  rw [List.getElem?_set_ne hj]
  exact sr.loc j t e
end
noncomputable def tM (K : W.Frag) (f : PSt -> M SV) : TE := fun σ H Q => ∃ ι ρ C r C', SR K ι H ρ σ C /\ f ρ C = some (r, C') /\ ∀ v H', Fr ι H H' -> CR K ι H' C' -> RepS K ι H' r v -> Q v H'
noncomputable def tMA (K : W.Frag) (f : PSt -> M (List SV)) : TA := fun σ H Q => ∃ ι ρ C r C', SR K ι H ρ σ C /\ f ρ C = some (r, C') /\ ∀ v H', Fr ι H H' -> CR K ι H' C' -> RepSs K ι H' r v -> Q v H'
noncomputable def tMB (K : W.Frag) (f : PSt -> M Bool) : TT := fun σ H Q => ∃ ι ρ C r C', SR K ι H ρ σ C /\ f ρ C = some (r, C') /\ ∀ H', Fr ι H H' -> CR K ι H' C' -> Q r H'
noncomputable def tMF (K : W.Frag) (f : PSt -> M (List PV)) : TE := fun σ H Q => ∃ ι ρ C ps C', SR K ι H ρ σ C /\ f ρ C = some (ps, C') /\ ∀ p vs H', Fr ι H H' -> CR K ι H' C' -> H' p = none -> Reps K ι H' ps vs -> Q (.ref p) (upd H' p (.lst vs))
noncomputable def EM (X : Cx) (e : Expr) (f : PSt -> M SV) : Prop := PE X e (tM X.K f)
noncomputable def AM (X : Cx) (es : List Expr) (f : PSt -> M (List SV)) : Prop := PA X es (tMA X.K f)
noncomputable def TMt (X : Cx) (e : Expr) (f : PSt -> M Bool) : Prop := PT X e (tMB X.K f)
noncomputable def WM (X : Cx) (e : Expr) (f : PSt -> M Bool) : Prop := PW X e (tMB X.K f)
noncomputable def FM (X : Cx) (e : Expr) (f : PSt -> M (List PV)) : Prop := PE X e (tMF X.K f)
theorem WM.t {X : Cx} {e : Expr} {f : PSt -> M Bool} (h : WM X e f) : TMt X e f := h _
theorem PE.imp {X : Cx} {e : Expr} {t t' : TE} (h : PE X e t) (k : ∀ σ H Q, t' σ H Q -> t σ H Q) : PE X e t' := fun pins s σ H Q I q => h pins s σ H Q I (k σ H Q q)
theorem PT.imp {X : Cx} {e : Expr} {t t' : TT} (h : PT X e t) (k : ∀ σ H Q, t' σ H Q -> t σ H Q) : PT X e t' := fun pins s σ H Q I q => h pins s σ H Q I (k σ H Q q)
theorem PW.imp {X : Cx} {e : Expr} {t t' : TT} (h : PW X e t) (k : ∀ σ H Q, t' σ H Q -> t σ H Q) : PW X e t' := fun wh pins s σ H Q I q => h wh pins s σ H Q I (k σ H Q q)
theorem PA.imp {X : Cx} {e : List Expr} {t t' : TA} (h : PA X e t) (k : ∀ σ H Q, t' σ H Q -> t σ H Q) : PA X e t' := fun pos pins s σ H Q I q => h pos pins s σ H Q I (k σ H Q q)
theorem PS.imp {X : Cx} {e : Stmt} {t t' : TS} (h : PS X e t) (k : ∀ D σ H, t' D σ H -> t D σ H) : PS X e t' := fun pins s σ H D I q => h pins s σ H D I (k D σ H q)
theorem PSs.imp {X : Cx} {e : List Stmt} {t t' : TS} (h : PSs X e t) (k : ∀ D σ H, t' D σ H -> t D σ H) : PSs X e t' := fun pins s σ H D I q => h pins s σ H D I (k D σ H q)
theorem PI.imp {X : Cx} {tg e : Expr} {t t' : TI} (h : PI X tg e t) (k : ∀ σ H Q, t' σ H Q -> t σ H Q) : PI X tg e t' := fun pins s σ H Q I q => h pins s σ H Q I (k σ H Q q)
section
variable {X : Cx} {a b e c : Expr} {es : List Expr} {fa fb fc : PSt -> M SV} {pos p : Pos} {x : Str}
noncomputable def mVar (i : Nat) : PSt -> M SV := fun ρ C => match ρ[i]? with
 | some (some s) => some (s, C)
 | _ => none
theorem em_var (i : Nat) {x : Str} {pos : Pos} (hN : X.N[i]? = some x := by rfl) (hv : Vis X.env.scope x := by first | exact Or.inl rfl | exact Or.inr (Or.inl rfl) | exact Or.inr (Or.inr rfl)) (hd : (x == ("__debug__" : Str)) = false := by decide)
  (hcd : (x == ("__classdict__" : Str)) = false := by decide) : EM X (.Name x pos) (mVar i) := by
 refine PE.imp (pe_var hN hv hd hcd) fun σ H Q h_ => ?_
 obtain ⟨ι, ρ, C, r, C', sr, e, q⟩ := h_
 unfold mVar at e
 cases e1 : ρ[i]? with
 | none => rw [e1] at e; cases e
 | some o =>
  cases o with
  | none => rw [e1] at e; cases e
  | some s =>
   rw [e1] at e; cases e
   obtain ⟨v, h1, h2⟩ := sr.loc i _ e1
   exact ⟨v, h1, q v H .refl sr.cr h2⟩
noncomputable def mC (p : PV) : PSt -> M SV := fun _ C => some (.v p, C)
theorem Zbi {v : V} {q : PV} (h : PE X e (tC v)) (r : ∀ ι H, Rep X.K ι H q v) : EM X e (mC q) := by
 refine PE.imp h fun σ H Q h_ => ?_
 obtain ⟨ι, ρ, C, z, C', sr, e, k⟩ := h_
 cases e
 exact k v H .refl sr.cr (r ι H)
theorem em_int {i j pos} : EM X (.Constant (.int i) j pos) (mC (.int i)) := Zbi pe_int fun ι H => by unfold Rep; rfl
theorem em_bl {i j pos} : EM X (.Constant (.bool i) j pos) (mC (.bl i)) := Zbi pe_bl fun ι H => by unfold Rep; rfl
theorem em_non {j pos} : EM X (.Constant .none j pos) (mC .non) := Zbi pe_non fun ι H => by unfold Rep; rfl
theorem em_str {i j pos} (h : i.length <= sizeLine := by decide +kernel) : EM X (.Constant (.str i) j pos) (mC (.str i)) := Zbi pe_str fun ι H => by unfold Rep; exact ⟨rfl, h⟩
theorem em_globI {i : Int} (hg : Gl X x) (hm : ∃ t, X.mg x = some (.int i t)) (hd : (x == ("__debug__" : Str)) = false := by decide) : EM X (.Name x pos) (mC (.int i)) := by
 obtain ⟨t, hm⟩ := hm
 exact Zbi (pe_glob (v := .int i) hg hm ⟨_, rfl⟩ hd) fun ι H => by unfold Rep; rfl
theorem em_globS {i : Str} (hg : Gl X x) (hm : ∃ t, X.mg x = some (.str i t)) (h : i.length <= sizeLine := by decide +kernel) (hd : (x == ("__debug__" : Str)) = false := by decide) : EM X (.Name x pos) (mC (.str i)) := by
 obtain ⟨t, hm⟩ := hm
 exact Zbi (pe_glob (v := .str i) hg hm ⟨_, rfl⟩ hd) fun ι H => by unfold Rep; exact ⟨rfl, h⟩
theorem em_ty {n : String} (hg : Gl X x) (hm : X.mg x = none) (hv : bootBuiltins x = some (.type n)) (hn : x ≠ "__name__" := by decide) (hd : (x == ("__debug__" : Str)) = false := by decide) : EM X (.Name x pos) (mC (.ty n)) :=
 Zbi (pe_bltn (v := .ty n) hg hm hv rfl hn hd) fun ι H => by unfold Rep; rfl
noncomputable def mOp (g : Cs -> SV -> SV -> Option SV) (fa fb : PSt -> M SV) : PSt -> M SV := fun ρ => bnd (fa ρ) fun x => bnd (fb ρ) fun y => opM fun C => g C x y
noncomputable def R2ok (K : W.Frag) (r : R2) (g : Cs -> SV -> SV -> Option SV) : Prop :=
 ∀ (ι : List Addr) (H : Hp) (C : Cs) (x y : SV) (vx vy : V) (z : SV) (Q : VK), CR K ι H C -> RepS K ι H x vx -> RepS K ι H y vy -> g C x y = some z -> (∀ v H', Fr ι H H' -> CR K ι H' C -> RepS K ι H' z v -> Q v H') -> r vx vy H Q
theorem tM_op {K : W.Frag} {r : R2} {g : Cs -> SV -> SV -> Option SV} (hg : R2ok K r g) {σ : St} {H : Hp} {Q : VK} (h : tM K (mOp g fa fb) σ H Q) : tOp r (tM K fa) (tM K fb) σ H Q := by
 obtain ⟨ι, ρ, C, z, C', sr, e, q⟩ := h
 obtain ⟨x, C1, e1, e⟩ := Zah e
 obtain ⟨y, C2, e2, e⟩ := Zah e
 obtain ⟨e3, rfl⟩ := ZaF e
 exact ⟨ι, ρ, C, x, C1, sr, e1, fun vx H1 f1 c1 r1 => ⟨ι, ρ, C1, y, C', sr.step f1 c1, e2, fun vy H2 f2 c2 r2 => hg ι H2 C' x y vx vy z _ c2 (r1.mono c1 f2) r2 e3 fun v H3 f3 c3 r3 => q v H3 (f1.trans (f2.trans f3)) c3 r3⟩⟩
theorem em_op {op : Operator} {r : R2} {g : Cs -> SV -> SV -> Option SV} (ho : OpR X (binaryOp op) r) (hg : R2ok X.K r g) (ha : EM X a fa) (hb : EM X b fb) : EM X (.BinOp a op b pos) (mOp g fa fb) :=
 PE.imp (pe_op ho ha hb) fun _ _ _ h => tM_op hg h
theorem em_cmp {op : CmpOp} {r : R2} {g : Cs -> SV -> SV -> Option SV} (ho : OpR X (compareOp op) r) (hg : R2ok X.K r g) (ha : EM X a fa) (hb : EM X b fb) (hm : behindInMarks op b = false) : EM X (.Compare a [op] [b] pos) (mOp g fa fb) :=
 PE.imp (pe_cmpR ho ha hb hm) fun _ _ _ h => tM_op hg h
theorem em_ix {r : R2} {g : Cs -> SV -> SV -> Option SV} (hr : IxR X r) (hg : R2ok X.K r g) (ha : EM X a fa) (hb : EM X b fb) (hs : PlainIx b) : EM X (.Subscript a b pos) (mOp g fa fb) :=
 PE.imp (pe_ix hr ha hb hs) fun _ _ _ h => tM_op hg h
noncomputable def mChain (g g' : Cs -> SV -> SV -> Option SV) (fa fb fc : PSt -> M SV) : PSt -> M SV := fun ρ => bnd (fa ρ) fun x => bnd (fb ρ) fun y => bnd (opM fun C => g C x y) fun z => bnd (mB z) fun b =>
 if b then bnd (fc ρ) fun w => opM fun C => g' C y w else ret (.v (.bl false))
theorem tM_chain {K : W.Frag} {r r' : R2} {g g' : Cs -> SV -> SV -> Option SV} (hg : R2ok K r g) (hg' : R2ok K r' g') {σ : St} {H : Hp} {Q : VK} (h : tM K (mChain g g' fa fb fc) σ H Q) : tChain r r' (tM K fa) (tM K fb) (tM K fc) σ H Q := by
 obtain ⟨ι, ρ, C, z, C', sr, e, q⟩ := h
 obtain ⟨x, C1, e1, e⟩ := Zah e
 obtain ⟨y, C2, e2, e⟩ := Zah e
 obtain ⟨z1, C3, e3, e'⟩ := Zah e
 obtain ⟨e3g, hC3⟩ := ZaF e3
 obtain ⟨k, C4, e4, e9⟩ := Zah e'
 obtain ⟨hz1, hC4⟩ := Zct e4
 subst hz1 hC4 hC3
 clear e' e4 e3 e
 have e := e9
 refine ⟨ι, ρ, C, x, C1, sr, e1, fun vx H1 f1 c1 r1 => ⟨ι, ρ, C1, y, C4, sr.step f1 c1, e2, fun vy H2 f2 c2 r2 => hg ι H2 C4 x y vx vy _ _ c2 (r1.mono c1 f2) r2 e3g fun v H3 f3 c3 r3 => ?_⟩⟩
 refine ⟨k, repB r3, ?_⟩
 cases k with
 | true =>
  rw [if_pos rfl] at e ⊢
  obtain ⟨w, C5, e5, e⟩ := Zah e
  obtain ⟨e6, rfl⟩ := ZaF e
  exact ⟨ι, ρ, C4, w, C', ((sr.step f1 c1).step f2 c2).step f3 c3, e5, fun vw H4 f4 c4 r4 => hg' ι H4 C' y w vy vw z _ c4 ((r2.mono c2 f3).mono c3 f4) r4 e6 fun v' H5 f5 c5 r5 =>
   q v' H5 (f1.trans (f2.trans (f3.trans (f4.trans f5)))) c5 r5⟩
 | false =>
  rw [if_neg Bool.false_ne_true] at e ⊢
  cases e
  exact q _ H3 (f1.trans (f2.trans f3)) c3 repB'
theorem em_chain {op op' : CmpOp} {r r' : R2} {g g' : Cs -> SV -> SV -> Option SV} (ho : OpR X (compareOp op) r) (ho' : OpR X (compareOp op') r') (hg : R2ok X.K r g) (hg' : R2ok X.K r' g') (ha : EM X a fa) (hb : EM X b fb) (hc : EM X c fc)
  (hm : lastMarks [op, op'] [b, c] = false := by with_unfolding_all rfl) : EM X (.Compare a [op, op'] [b, c] pos) (mChain g g' fa fb fc) :=
 PE.imp (pe_chain ho ho' ha hb hc hm) fun _ _ _ h => tM_chain hg hg' h
noncomputable def mTest (f : PSt -> M SV) : PSt -> M Bool := fun ρ => bnd (f ρ) mB
theorem tM_test {K : W.Frag} {f : PSt -> M SV} {σ : St} {H : Hp} {Q : Bool -> Hp -> Prop} (h : tMB K (mTest f) σ H Q) : tTest (tM K f) σ H Q := by
 obtain ⟨ι, ρ, C, z, C', sr, e, q⟩ := h
 obtain ⟨x, C1, e1, e⟩ := Zah e
 obtain ⟨rfl, rfl⟩ := Zct e
 exact ⟨ι, ρ, C, _, C', sr, e1, fun v H1 f1 c1 r1 => ⟨_, repB r1, q H1 f1 c1⟩⟩
theorem tm_cmp {op : CmpOp} {r : R2} {g : Cs -> SV -> SV -> Option SV} (ho : OpR X (compareOp op) r) (hg : R2ok X.K r g) (ha : EM X a fa) (hb : EM X b fb) (hm : behindInMarks op b = false) : TMt X (.Compare a [op] [b] pos) (mTest (mOp g fa fb)) :=
 PT.imp (pt_cmpR ho ha hb hm) fun σ H Q h => by
  obtain ⟨ι, ρ, C, x, C', sr, e, q⟩ := tM_test h
  exact tM_op hg ⟨ι, ρ, C, x, C', sr, e, q⟩
theorem tm_chain {op op' : CmpOp} {r r' : R2} {g g' : Cs -> SV -> SV -> Option SV} (ho : OpR X (compareOp op) r) (ho' : OpR X (compareOp op') r') (hg : R2ok X.K r g) (hg' : R2ok X.K r' g') (ha : EM X a fa) (hb : EM X b fb) (hc : EM X c fc)
  (hm : lastMarks [op, op'] [b, c] = false := by with_unfolding_all rfl) : TMt X (.Compare a [op, op'] [b, c] pos) (mTest (mChain g g' fa fb fc)) :=
 PT.imp (pt_chain ho ho' ha hb hc hm) fun σ H Q h => by
  obtain ⟨ι, ρ, C, x, C', sr, e, q⟩ := tM_test h
  exact tM_chain hg hg' ⟨ι, ρ, C, x, C', sr, e, q⟩
noncomputable def deref (C : Cs) : SV -> Option PV
 | .v p => some p
 | .c k => C[k]?
noncomputable def truP : PV -> Option Bool
 | .non => some false
 | .bl b => some b
 | .int i => some (i != 0)
 | .str y => some ((y.length : Int) != 0)
 | .tup xs => some (!xs.isEmpty)
 | .lst xs => some (!xs.isEmpty)
 | .dct ks _ => some (!ks.isEmpty)
 | _ => none
noncomputable def mTru (f : PSt -> M SV) : PSt -> M Bool := fun ρ => bnd (f ρ) fun x => opM fun C => (deref C x).bind truP
inductive Lies (K : W.Frag) (ι : List Addr) (H : Hp) : PV -> V -> Prop
 | non : Lies K ι H .non .non
 | bl (b : Bool) : Lies K ι H (.bl b) (.bl b)
 | int (i : Int) : Lies K ι H (.int i) (.int i)
 | str (x : Str) (h : x.length <= sizeLine) : Lies K ι H (.str x) (.str x)
 | tup {a : Addr} {ps : List PV} {vs : List V} (h : TpR H a vs) (r : Reps K ι H ps vs) : Lies K ι H (.tup ps) (.ref a)
 | lst {a : Addr} {ps : List PV} {vs : List V} (h : SqL K H a vs) (r : Reps K ι H ps vs) : Lies K ι H (.lst ps) (.ref a)
 | dct {a : Addr} {qs : List Key} {ps : List PV} {vs : List V} (h : H a = some (.dK (qs.zip vs))) (hl : qs.length = vs.length) (r : Reps K ι H ps vs) : Lies K ι H (.dct (qs.map kP) ps) (.ref a)
 | dtt {a : Addr} {ks : List (List Key)} {ps : List PV} {vs : List V} (h : H a = some (.dT (ks.zip vs))) (hl : ks.length = vs.length) (r : Reps K ι H ps vs) : Lies K ι H (.dtt ks ps) (.ref a)
 | fn (a : Addr) : Lies K ι H (.fn a) (.ref a)
 | ty (n : String) : Lies K ι H (.ty n) (.ty n)
theorem Rep.lies {K : W.Frag} {ι : List Addr} {H : Hp} : ∀ {p : PV} {v : V}, Rep K ι H p v -> Lies K ι H p v
 | .non, v, h => by unfold Rep at h; subst h; exact .non
 | .bl b, v, h => by unfold Rep at h; subst h; exact .bl b
 | .int i, v, h => by unfold Rep at h; subst h; exact .int i
 | .str x, v, h => by unfold Rep at h; obtain ⟨rfl, h⟩ := h; exact .str x h
 | .tup ps, v, h => by unfold Rep at h; obtain ⟨a, vs, rfl, h, r⟩ := h; exact .tup h r
 | .lst ps, v, h => by unfold Rep at h; obtain ⟨a, vs, rfl, h, r⟩ := h; exact .lst h.sq r
 | .dct ks ps, v, h => by unfold Rep at h; obtain ⟨a, qs, vs, rfl, n, hd, hl, rfl, r⟩ := h; exact .dct hd hl r
 | .dtt ks ps, v, h => by unfold Rep at h; obtain ⟨a, vs, rfl, n, hd, hl, r⟩ := h; exact .dtt hd hl r
 | .fn a, v, h => by unfold Rep at h; subst h; exact .fn a
 | .ty n, v, h => by unfold Rep at h; subst h; exact .ty n
theorem RepS.lies {K : W.Frag} {ι : List Addr} {H : Hp} {C : Cs} (cr : CR K ι H C) {x : SV} {p : PV} {v : V} (r : RepS K ι H x v) (e : deref C x = some p) : Lies K ι H p v := by
 cases x with
 | v q => cases e; exact Rep.lies r
 | c k =>
  obtain ⟨a, rfl, hk⟩ := r
  have ok := cr.ok k a p hk e
  cases p with
  | lst ps => obtain ⟨vs, h, r⟩ := ok; exact .lst (.of h) r
  | dct ks ps => obtain ⟨qs, vs, h, hl, rfl, r⟩ := ok; exact .dct h hl r
  | dtt ks ps => obtain ⟨vs, h, hl, r⟩ := ok; exact .dtt h hl r
  | _ => exact ok.elim
theorem Reps.isEmpty {K : W.Frag} {ι : List Addr} {H : Hp} {ps : List PV} {vs : List V} (r : Reps K ι H ps vs) : ps.isEmpty = vs.isEmpty := by
 have := r.length
 cases ps <;> cases vs <;> simp at this ⊢
theorem Lies.tru {K : W.Frag} {ι : List Addr} {H : Hp} {p : PV} {v : V} {k : Bool} (l : Lies K ι H p v) (e : truP p = some k) : TruV K v H k := by
 cases l with
 | non => cases e; rfl
 | bl b => cases e; rfl
 | int i => cases e; rfl
 | str x h => cases e; exact ⟨h, rfl⟩
 | tup h r => cases e; exact .inr (.inl ⟨_, h.sq, by rw [r.isEmpty]⟩)
 | lst h r => cases e; exact .inl ⟨_, h, by rw [r.isEmpty]⟩
 | @dct a qs ps vs h hl r =>
  cases e
  refine .inr (.inr ⟨_, h, ?_⟩)
  cases qs <;> cases vs <;> simp at hl ⊢
 | dtt h hl r => cases e
 | fn a => cases e
 | ty n => cases e
theorem tm_tru (ha : EM X a fa) (he : ∀ whole, isTrue a X.env whole = (do let v ← whole; standAt a.pos; holding [v] (truthy v)) := by intro _; rfl) : TMt X a (mTru fa) :=
 PT.imp (pt_truth ha he) fun σ H Q h => by
  obtain ⟨ι, ρ, C, z, C', sr, e, q⟩ := h
  obtain ⟨x, C1, e1, e⟩ := Zah e
  obtain ⟨e2, rfl⟩ := ZaF e
  refine ⟨ι, ρ, C, x, C', sr, e1, fun v H1 f1 c1 r1 => ⟨z, ?_, q H1 f1 c1⟩⟩
  cases hd : deref C' x with
  | none => rw [hd] at e2; cases e2
  | some p => rw [hd] at e2; exact (r1.lies c1 hd).tru e2
noncomputable def mNotT (f : PSt -> M Bool) : PSt -> M Bool := fun ρ => bnd (f ρ) fun b => ret (!b)
noncomputable def mAndT (f g : PSt -> M Bool) : PSt -> M Bool := fun ρ => bnd (f ρ) fun b => if b then g ρ else ret false
noncomputable def mOrT (f g : PSt -> M Bool) : PSt -> M Bool := fun ρ => bnd (f ρ) fun b => if b then ret true else g ρ
theorem tm_not {f : PSt -> M Bool} (h : TMt X a f) : TMt X (.UnaryOp .Not a pos) (mNotT f) := PT.imp (pt_not h) fun σ H Q h => by
 obtain ⟨ι, ρ, C, z, C', sr, e, q⟩ := h
 obtain ⟨x, C1, e1, e⟩ := Zah e
 cases e
 exact ⟨ι, ρ, C, x, _, sr, e1, fun H1 f1 c1 => q H1 f1 c1⟩
theorem wm_or1 {f : PSt -> M Bool} (h : TMt X a f) : WM X (.BoolOp .Or [a] pos) f := pw_or1 h
theorem wm_or {rest : List Expr} {f g : PSt -> M Bool} (h : TMt X a f) (k : WM X (.BoolOp .Or (b :: rest) pos) g) : WM X (.BoolOp .Or (a :: b :: rest) pos) (mOrT f g) := PW.imp (pw_or h k) fun σ H Q h => by
 obtain ⟨ι, ρ, C, z, C', sr, e, q⟩ := h
 obtain ⟨x, C1, e1, e⟩ := Zah e
 refine ⟨ι, ρ, C, x, C1, sr, e1, fun H1 f1 c1 => ?_⟩
 cases x with
 | true => rw [if_pos rfl] at e ⊢; cases e; exact q H1 f1 c1
 | false => rw [if_neg Bool.false_ne_true] at e ⊢; exact ⟨ι, ρ, C1, z, C', sr.step f1 c1, e, fun H2 f2 c2 => q H2 (f1.trans f2) c2⟩
noncomputable def mAndV (f g : PSt -> M SV) : PSt -> M SV := fun ρ => bnd (f ρ) fun x => bnd (mB x) fun b => if b then g ρ else ret (.v (.bl false))
noncomputable def mOrV (f g : PSt -> M SV) : PSt -> M SV := fun ρ => bnd (f ρ) fun x => bnd (mB x) fun b => if b then ret (.v (.bl true)) else g ρ
noncomputable def mNotV (f : PSt -> M SV) : PSt -> M SV := fun ρ => bnd (f ρ) fun x => bnd (mB x) fun b => ret (.v (.bl !b))
theorem em_one {op} {f : PSt -> M SV} (h : EM X a f) : EM X (.BoolOp op [a] pos) f := pe_one h
theorem em_and {rest : List Expr} {f g : PSt -> M SV} (h : EM X a f) (k : EM X (.BoolOp .And (b :: rest) pos) g) : EM X (.BoolOp .And (a :: b :: rest) pos) (mAndV f g) := PE.imp (pe_and h k) fun σ H Q h => by
 obtain ⟨ι, ρ, C, z, C', sr, e, q⟩ := h
 obtain ⟨x, C1, e1, e⟩ := Zah e
 obtain ⟨k, C2, e2, e3⟩ := Zah e
 obtain ⟨hx, hC⟩ := Zct e2
 subst hx hC
 clear e e2
 have e := e3
 refine ⟨ι, ρ, C, _, C2, sr, e1, fun v H1 f1 c1 r1 => ⟨k, repB r1, ?_⟩⟩
 cases k with
 | true => rw [if_pos rfl] at e ⊢; exact ⟨ι, ρ, C2, z, C', sr.step f1 c1, e, fun v' H2 f2 c2 r2 => q v' H2 (f1.trans f2) c2 r2⟩
 | false => rw [if_neg Bool.false_ne_true] at e ⊢; cases e; exact q _ H1 f1 c1 repB'
theorem em_or {rest : List Expr} {f g : PSt -> M SV} (h : EM X a f) (k : EM X (.BoolOp .Or (b :: rest) pos) g) : EM X (.BoolOp .Or (a :: b :: rest) pos) (mOrV f g) := PE.imp (pe_or h k) fun σ H Q h => by
 obtain ⟨ι, ρ, C, z, C', sr, e, q⟩ := h
 obtain ⟨x, C1, e1, e⟩ := Zah e
 obtain ⟨k, C2, e2, e3⟩ := Zah e
 obtain ⟨hx, hC⟩ := Zct e2
 subst hx hC
 clear e e2
 have e := e3
 refine ⟨ι, ρ, C, _, C2, sr, e1, fun v H1 f1 c1 r1 => ⟨k, repB r1, ?_⟩⟩
 cases k with
 | false => rw [if_neg Bool.false_ne_true] at e ⊢; exact ⟨ι, ρ, C2, z, C', sr.step f1 c1, e, fun v' H2 f2 c2 r2 => q v' H2 (f1.trans f2) c2 r2⟩
 | true => rw [if_pos rfl] at e ⊢; cases e; exact q _ H1 f1 c1 repB'
theorem em_not {f : PSt -> M SV} (h : EM X a f) : EM X (.UnaryOp .Not a pos) (mNotV f) := PE.imp (pe_not h) fun σ H Q h => by
 obtain ⟨ι, ρ, C, z, C', sr, e, q⟩ := h
 obtain ⟨x, C1, e1, e⟩ := Zah e
 obtain ⟨k, C2, e2, e3⟩ := Zah e
 obtain ⟨hx, hC⟩ := Zct e2
 subst hx hC
 clear e e2
 have e := e3
 refine ⟨ι, ρ, C, _, C2, sr, e1, fun v H1 f1 c1 r1 => ⟨k, repB r1, ?_⟩⟩
 cases e
 exact q _ H1 f1 c1 repB'
noncomputable def mIf (t : PSt -> M Bool) (f g : PSt -> M SV) : PSt -> M SV := fun ρ => bnd (t ρ) fun b => if b then f ρ else g ρ
noncomputable def aNil : PSt -> M (List SV) := fun _ => ret []
noncomputable def aCons (f : PSt -> M SV) (g : PSt -> M (List SV)) : PSt -> M (List SV) := fun ρ => bnd (f ρ) fun x => bnd (g ρ) fun xs => ret (x :: xs)
theorem am_nil : AM X [] aNil := PA.imp pa_nil fun σ H Q h_ => by obtain ⟨ι, ρ, C, z, C', sr, e, q⟩ := h_; cases e; exact q [] H .refl sr.cr rfl
theorem am_cons {f : PSt -> M SV} {g : PSt -> M (List SV)} (h : EM X e f) (k : AM X es g) (hs : starEach (e :: es) X.env = (false, eval e X.env) :: starEach es X.env := by rfl) : AM X (e :: es) (aCons f g) := PA.imp (pa_cons h k hs) fun σ H Q h => by
 obtain ⟨ι, ρ, C, z, C', sr, e, q⟩ := h
 obtain ⟨x, C1, e1, e⟩ := Zah e
 obtain ⟨xs, C2, e2, e⟩ := Zah e
 cases e
 exact ⟨ι, ρ, C, x, C1, sr, e1, fun v H1 f1 c1 r1 => ⟨ι, ρ, C1, xs, C', sr.step f1 c1, e2, fun vs H2 f2 c2 r2 => q (v :: vs) H2 (f1.trans f2) c2 ⟨v, vs, rfl, r1.mono c1 f2, r2⟩⟩⟩
noncomputable def C1ok (K : W.Frag) (r : List V -> Hp -> VK -> Prop) (g : Cs -> List SV -> Option SV) : Prop :=
 ∀ (ι : List Addr) (H : Hp) (C : Cs) (xs : List SV) (vs : List V) (z : SV) (Q : VK), CR K ι H C -> RepSs K ι H xs vs -> g C xs = some z -> (∀ v H', Fr ι H H' -> CR K ι H' C -> RepS K ι H' z v -> Q v H') -> r vs H Q
noncomputable def mCB (g : Cs -> List SV -> Option SV) (fs : PSt -> M (List SV)) : PSt -> M SV := fun ρ => bnd (fs ρ) fun xs => opM fun C => g C xs
theorem tM_CB {K : W.Frag} {r : List V -> Hp -> VK -> Prop} {g : Cs -> List SV -> Option SV} {fs : PSt -> M (List SV)} (hg : C1ok K r g) {σ : St} {H : Hp} {Q : VK} (h : tM K (mCB g fs) σ H Q) : tCB r (tMA K fs) σ H Q := by
 obtain ⟨ι, ρ, C, z, C', sr, e, q⟩ := h
 obtain ⟨xs, C1, e1, e⟩ := Zah e
 obtain ⟨e2, rfl⟩ := ZaF e
 exact ⟨ι, ρ, C, xs, C', sr, e1, fun vs H1 f1 c1 r1 => hg ι H1 C' xs vs z _ c1 r1 e2 fun v H2 f2 c2 r2 => q v H2 (f1.trans f2) c2 r2⟩
theorem Zcm {id : String} {r : List V -> Hp -> VK -> Prop} {g : Cs -> List SV -> Option SV} {fs : PSt -> M (List SV)} (hc : CallR X (.builtin id) r) (hg : C1ok X.K r g) (hgl : Gl X x) (hm : X.mg x = none) (hv : bootBuiltins x = some (.builtin id)) (ha : AM X (e :: es) fs) (hn : x ≠ "__name__" := by decide) (hdb : (x == ("__debug__" : Str)) = false := by decide)
  (he : starEach (e :: es) X.env = (false, eval e X.env) :: starEach es X.env := by rfl) (hpl : (backTo pos (starEach es X.env)).any (·.1) = false := by rfl) : EM X (.Call (.Name x p) (e :: es) [] pos) (mCB g fs) :=
 PE.imp (pe_callB hc hgl hm hv ha hn hdb he hpl) fun _ _ _ h => tM_CB hg h
theorem ZcB {T : String} {r : List V -> Hp -> VK -> Prop} {g : Cs -> List SV -> Option SV} {fs : PSt -> M (List SV)} (hc : CallR X (.type T) r) (hg : C1ok X.K r g) (hgl : Gl X x) (hm : X.mg x = none) (hv : bootBuiltins x = some (.type T)) (ha : AM X (e :: es) fs) (hn : x ≠ "__name__" := by decide) (hdb : (x == ("__debug__" : Str)) = false := by decide)
  (he : starEach (e :: es) X.env = (false, eval e X.env) :: starEach es X.env := by rfl) (hpl : (backTo pos (starEach es X.env)).any (·.1) = false := by rfl) : EM X (.Call (.Name x p) (e :: es) [] pos) (mCB g fs) :=
 PE.imp (pe_callTy hc hgl hm hv ha hn hdb he hpl) fun _ _ _ h => tM_CB hg h
noncomputable def liftSp (K : W.Frag) (F : List SV -> M SV) : Sp := fun vs H Q _ => ∃ ι ss C r C', CR K ι H C /\ RepSs K ι H ss vs /\ F ss C = some (r, C') /\ ∀ v H', Fr ι H H' -> CR K ι H' C' -> RepS K ι H' r v -> Q v H'
noncomputable def mFn (F : List SV -> M SV) (fs : PSt -> M (List SV)) : PSt -> M SV := fun ρ => bnd (fs ρ) F
theorem em_call {k : Nat} {f : Addr} {fd : FuncData} {ps : List Str} {F : List SV -> M SV} {fs : PSt -> M (List SV)} (G : FnOk X.prog X.w X.K X.mg X.base CX0 k f fd ps (liftSp X.K F)) (hr : Room k X.A) (hg : Gl X x) (hm : X.mg x = some (.ref f)) (hk : W.keepIn X.K (.ref f) = true) (hb : Binds X.K fd ps [])
  (ha : AM X (e :: es) fs) (hdb : (x == ("__debug__" : Str)) = false := by decide) (he : starEach (e :: es) X.env = (false, eval e X.env) :: starEach es X.env := by rfl) (hpl : (backTo pos (starEach es X.env)).any (·.1) = false := by rfl) :
  EM X (.Call (.Name x p) (e :: es) [] pos) (mFn F fs) := PE.imp (pe_call G hr hg hm hk hb .nil pass0 ha hdb he hpl) fun σ H Q h => by
 obtain ⟨ι, ρ, C, z, C', sr, e, q⟩ := h
 obtain ⟨xs, C1, e1, e⟩ := Zah e
 refine ⟨ι, ρ, C, xs, C1, sr, e1, fun vs H1 f1 c1 r1 => ?_⟩
 show liftSp X.K F (vs ++ []) H1 Q E0
 rw [List.append_nil]
 exact ⟨ι, xs, C1, z, C', c1, r1, e, fun v H2 f2 c2 r2 => q v H2 (f1.trans f2) c2 r2⟩
theorem em_call0 {k : Nat} {f : Addr} {fd : FuncData} {ps : List Str} {F : List SV -> M SV} (G : FnOk X.prog X.w X.K X.mg X.base CX0 k f fd ps (liftSp X.K F)) (hr : Room k X.A) (hg : Gl X x) (hm : X.mg x = some (.ref f)) (hk : W.keepIn X.K (.ref f) = true) (hb : Binds X.K fd ps [])
  (hdb : (x == ("__debug__" : Str)) = false := by decide) :
  EM X (.Call (.Name x p) [] [] pos) (mFn F aNil) := PE.imp (pe_call0 G hr hg hm hk hb .nil pass0 hdb) fun σ H Q h => by
 obtain ⟨ι, ρ, C, z, C', sr, e, q⟩ := h
 obtain ⟨xs, C1, e1, e⟩ := Zah e
 cases e1
 show liftSp X.K F _ H Q E0
 exact ⟨ι, [], C, z, C', sr.cr, rfl, e, fun v H2 f2 c2 r2 => q v H2 f2 c2 r2⟩
end
noncomputable def Ex (ι ι2 : List Addr) (H H' : Hp) : Prop := Fr ι H H' /\ ∀ b ∈ ι2, H b = none
section
variable {K : W.Frag} {ι ι2 ι3 ι' : List Addr} {H H1 H2 H' : Hp} {C C' C1 : Cs} {ρ : PSt} {σ : St}
mutual
theorem Rep.tr (cr : CR K ι H C) (h : ∀ b o, b ∉ ι -> H b = some o -> b ∉ ι' /\ H' b = some o) : ∀ (p : PV) (v : V), Rep K ι H p v -> Rep K ι' H' p v
 | .non, v, q => by unfold Rep at q ⊢; exact q
 | .bl b, v, q => by unfold Rep at q ⊢; exact q
 | .int i, v, q => by unfold Rep at q ⊢; exact q
 | .str x, v, q => by unfold Rep at q ⊢; exact q
 | .tup ps, v, q => by
  unfold Rep at q ⊢
  obtain ⟨a, vs, e, sq, r⟩ := q
  exact ⟨a, vs, e, (h _ _ (cr.notup sq (fun _ e => nomatch e) fun _ e => nomatch e) sq).2, Reps.tr cr h ps vs r⟩
 | .lst ps, v, q => by
  unfold Rep at q ⊢
  obtain ⟨a, vs, e, sq, r⟩ := q
  refine ⟨a, vs, e, ?_, Reps.tr cr h ps vs r⟩
  rcases sq with ⟨n, z | ⟨o, z⟩⟩ | z
  ·exact .inl ⟨(h _ _ n z).1, .inl (h _ _ n z).2⟩
  ·exact .inl ⟨(h _ _ n z).1, .inr ⟨o, (h _ _ n z).2⟩⟩
  ·exact .inr z
 | .dct ks ps, v, q => by
  unfold Rep at q ⊢
  obtain ⟨a, qs, vs, e, n, hd, hl, hk, r⟩ := q
  exact ⟨a, qs, vs, e, (h _ _ n hd).1, (h _ _ n hd).2, hl, hk, Reps.tr cr h ps vs r⟩
 | .dtt ks ps, v, q => by
  unfold Rep at q ⊢
  obtain ⟨a, vs, e, n, hd, hl, r⟩ := q
  exact ⟨a, vs, e, (h _ _ n hd).1, (h _ _ n hd).2, hl, Reps.tr cr h ps vs r⟩
 | .fn a, v, q => by unfold Rep at q ⊢; exact q
 | .ty n, v, q => by unfold Rep at q ⊢; exact q
theorem Reps.tr (cr : CR K ι H C) (h : ∀ b o, b ∉ ι -> H b = some o -> b ∉ ι' /\ H' b = some o) : ∀ (ps : List PV) (vs : List V), Reps K ι H ps vs -> Reps K ι' H' ps vs
 | [], vs, q => by unfold Reps at q ⊢; exact q
 | p :: ps, vs, q => by
  unfold Reps at q ⊢
  obtain ⟨v, r, e, h1, h2⟩ := q
  exact ⟨v, r, e, Rep.tr cr h p v h1, Reps.tr cr h ps r h2⟩
end
theorem Ex.fr (f : Fr ι H H') : Ex ι [] H H' := ⟨f, fun _ z => nomatch z⟩
theorem Ex.out (x : Ex ι ι2 H H') : ∀ b o, b ∉ ι -> H b = some o -> b ∉ ι ++ ι2 /\ H' b = some o := fun b o n e => by
 refine ⟨fun z => ?_, x.1 b o n e⟩
 rcases List.mem_append.mp z with z | z
 ·exact n z
 ·rw [x.2 b z] at e; cases e
theorem Ex.trans (c : CR K (ι ++ ι2) H1 C1) (x : Ex ι ι2 H H1) (y : Ex (ι ++ ι2) ι3 H1 H2) : Ex ι (ι2 ++ ι3) H H2 := by
 refine ⟨fun b o n e => (y.out b o (x.out b o n e).1 (x.out b o n e).2).2, fun b hb => ?_⟩
 rcases List.mem_append.mp hb with hb | hb
 ·exact x.2 b hb
 ·cases e : H b with
  | none => rfl
  | some o =>
   by_cases n : b ∈ ι
   ·rcases c.mut (List.mem_append_left _ n) with ⟨vs, z⟩ | ⟨vs, z⟩ | ⟨vs, z⟩
    ·rw [y.2 b hb] at z; cases z
    ·rw [y.2 b hb] at z; cases z
    ·rw [y.2 b hb] at z; cases z
   ·have := x.1 b o n e
    rw [y.2 b hb] at this; cases this
theorem RepS.ex (cr : CR K ι H C) (x : Ex ι ι2 H H') {s : SV} {v : V} (r : RepS K ι H s v) : RepS K (ι ++ ι2) H' s v := by
 cases s with
 | v p => exact Rep.tr cr x.out p v r
 | c k =>
  obtain ⟨a, e, hk⟩ := r
  refine ⟨a, e, ?_⟩
  have hl : k < ι.length := by
   rcases Nat.lt_or_ge k ι.length with q | q
   ·exact q
   ·rw [List.getElem?_eq_none_iff.mpr q] at hk; cases hk
  rw [List.getElem?_append_left hl]; exact hk
theorem SR.ex (sr : SR K ι H ρ σ C) (x : Ex ι ι2 H H') (c : CR K (ι ++ ι2) H' C') : SR K (ι ++ ι2) H' ρ σ C' :=
 ⟨c, sr.len, fun i s e => by obtain ⟨v, h1, h2⟩ := sr.loc i s e; exact ⟨v, h1, h2.ex sr.cr x⟩⟩
end
noncomputable def Done (K : W.Frag) (ι : List Addr) (H : Hp) (D : Ends) (C' : Cs) : PF -> Prop
 | .nx ρ => ∀ ι2 σ' H', Ex ι ι2 H H' -> SR K (ι ++ ι2) H' ρ σ' C' -> D.nx σ' H'
 | .rt r => ∀ ι2 v H', Ex ι ι2 H H' -> CR K (ι ++ ι2) H' C' -> RepS K (ι ++ ι2) H' r v -> D.rt v H'
 | .bk ρ => ∀ ι2 σ' H', Ex ι ι2 H H' -> SR K (ι ++ ι2) H' ρ σ' C' -> D.bk σ' H'
 | .ct ρ => ∀ ι2 σ' H', Ex ι ι2 H H' -> SR K (ι ++ ι2) H' ρ σ' C' -> D.ct σ' H'
 | .rf ps => ∀ ι2 p vs H', Ex ι ι2 H H' -> CR K (ι ++ ι2) H' C' -> H' p = none -> Reps K (ι ++ ι2) H' ps vs -> D.rt (.ref p) (upd H' p (.lst vs))
noncomputable def tMS (K : W.Frag) (f : PSt -> M PF) : TS := fun D σ H => ∃ ι ρ C fl C', SR K ι H ρ σ C /\ f ρ C = some (fl, C') /\ Done K ι H D C' fl
noncomputable def SM (X : Cx) (st : Stmt) (f : PSt -> M PF) : Prop := PS X st (tMS X.K f)
noncomputable def BM (X : Cx) (sts : List Stmt) (f : PSt -> M PF) : Prop := PSs X sts (tMS X.K f)
section
variable {K : W.Frag} {ι ι2 : List Addr} {H H' : Hp} {C C' C1 : Cs} {ρ : PSt} {σ : St} {D : Ends} {fl : PF}
theorem Done.tr (c : CR K (ι ++ ι2) H' C1) (x : Ex ι ι2 H H') (d : Done K ι H D C' fl) : Done K (ι ++ ι2) H' D C' fl := by
 cases fl with
 | nx ρ => intro ι3 σ' H2 y sr; rw [List.append_assoc] at sr; exact d _ σ' H2 (x.trans c y) sr
 | rt r => intro ι3 v H2 y cr rr; rw [List.append_assoc] at cr rr; exact d _ v H2 (x.trans c y) cr rr
 | bk ρ => intro ι3 σ' H2 y sr; rw [List.append_assoc] at sr; exact d _ σ' H2 (x.trans c y) sr
 | ct ρ => intro ι3 σ' H2 y sr; rw [List.append_assoc] at sr; exact d _ σ' H2 (x.trans c y) sr
 | rf ps => intro ι3 p vs H2 y cr hp rs; rw [List.append_assoc] at cr rs; exact d _ p vs H2 (x.trans c y) cr hp rs
theorem Done.fr (c : CR K ι H' C1) (f : Fr ι H H') (d : Done K ι H D C' fl) : Done K ι H' D C' fl := by
 have := Done.tr (ι2 := []) (by rw [List.append_nil]; exact c) (Ex.fr f) d
 rw [List.append_nil] at this; exact this
theorem Done.nx0 (sr : SR K ι H ρ σ C') (d : Done K ι H D C' (.nx ρ)) : D.nx σ H := d [] σ H (Ex.fr .refl) (by rw [List.append_nil]; exact sr)
end
section
variable {X : Cx} {a b e c tg : Expr} {es : List Expr} {st : Stmt} {rest sts sts' : List Stmt} {f g : PSt -> M PF} {pos p pos' : Pos} {x : Str}
noncomputable def mSkip : PSt -> M PF := fun ρ => ret (.nx ρ)
noncomputable def mSeq (f g : PSt -> M PF) : PSt -> M PF := fun ρ => bnd (f ρ) fun fl => match fl with
 | .nx ρ' => g ρ'
 | fl => ret fl
theorem bm_nil : BM X [] mSkip := PSs.imp pss_nil fun D σ H h_ => by obtain ⟨ι, ρ, C, fl, C', sr, e, d⟩ := h_; cases e; exact d.nx0 sr
theorem bm_one (h : SM X st f) : BM X [st] f := pss_one h
theorem bm_cons (h : SM X st f) (k : BM X rest g) : BM X (st :: rest) (mSeq f g) := PSs.imp (pss_cons h k) fun D σ H h_ => by
 obtain ⟨ι, ρ, C, fl, C', sr, e, d⟩ := h_
 obtain ⟨fl1, C1, e1, e⟩ := Zah e
 refine ⟨ι, ρ, C, fl1, C1, sr, e1, ?_⟩
 cases fl1 with
 | nx ρ1 => exact fun ι2 σ' H' x sr' => ⟨ι ++ ι2, ρ1, C1, fl, C', sr', e, d.tr sr'.cr x⟩
 | rt r => cases e; exact d
 | bk ρ1 => cases e; exact d
 | ct ρ1 => cases e; exact d
 | rf ps => cases e; exact d
noncomputable def mIfS (t : PSt -> M Bool) (f g : PSt -> M PF) : PSt -> M PF := fun ρ => bnd (t ρ) fun b => if b then f ρ else g ρ
theorem sm_if {t : PSt -> M Bool} (hc : TMt X c t) (h : BM X sts f) (k : BM X sts' g) : SM X (.If c sts sts' pos) (mIfS t f g) := PS.imp (ps_if hc h k) fun D σ H h_ => by
 obtain ⟨ι, ρ, C, fl, C', sr, e, d⟩ := h_
 obtain ⟨z, C1, e1, e⟩ := Zah e
 refine ⟨ι, ρ, C, z, C1, sr, e1, fun H1 f1 c1 => ?_⟩
 cases z with
 | true => rw [if_pos rfl] at e ⊢; exact ⟨ι, ρ, C1, fl, C', sr.step f1 c1, e, d.fr c1 f1⟩
 | false => rw [if_neg Bool.false_ne_true] at e ⊢; exact ⟨ι, ρ, C1, fl, C', sr.step f1 c1, e, d.fr c1 f1⟩
noncomputable def mRet (f : PSt -> M SV) : PSt -> M PF := fun ρ => bnd (f ρ) fun r => ret (.rt r)
theorem sm_ret {f : PSt -> M SV} (h : EM X e f) : SM X (.Return (some e) pos) (mRet f) := PS.imp (ps_ret h) fun D σ H h_ => by
 obtain ⟨ι, ρ, C, fl, C', sr, e, d⟩ := h_
 obtain ⟨z, C1, e1, e⟩ := Zah e
 cases e
 exact ⟨ι, ρ, C, z, _, sr, e1, fun v H1 f1 c1 r1 => d [] v H1 (Ex.fr f1) (by rw [List.append_nil]; exact c1) (by rw [List.append_nil]; exact r1)⟩
noncomputable def mRetF (f : PSt -> M (List PV)) : PSt -> M PF := fun ρ => bnd (f ρ) fun r => ret (.rf r)
theorem sm_retF {f : PSt -> M (List PV)} (h : FM X e f) : SM X (.Return (some e) pos) (mRetF f) := PS.imp (ps_ret h) fun D σ H h_ => by
 obtain ⟨ι, ρ, C, fl, C', sr, e, d⟩ := h_
 obtain ⟨ps, C1, e1, g1⟩ := Zah e
 cases g1
 exact ⟨ι, ρ, C, ps, _, sr, e1, fun q vs H1 f1 c1 hq rs => d [] q vs H1 (Ex.fr f1) (by rw [List.append_nil]; exact c1) hq (by rw [List.append_nil]; exact rs)⟩
noncomputable def mDrop (f : PSt -> M SV) : PSt -> M PF := fun ρ => bnd (f ρ) fun _ => ret (.nx ρ)
theorem sm_expr {f : PSt -> M SV} (h : EM X e f) (hs : swapsWith e none pos.line X.env = pure false := by rfl) : SM X (.Expr e pos) (mDrop f) := PS.imp (ps_expr h hs) fun D σ H h_ => by
 obtain ⟨ι, ρ, C, fl, C', sr, e, d⟩ := h_
 obtain ⟨z, C1, e1, e⟩ := Zah e
 cases e
 exact ⟨ι, ρ, C, z, _, sr, e1, fun v H1 f1 c1 r1 => Done.nx0 (sr.step f1 c1) (d.fr c1 f1)⟩
noncomputable def mSet (i : Nat) (f : PSt -> M SV) : PSt -> M PF := fun ρ => bnd (f ρ) fun r => ret (.nx (ρ.set i (some r)))
theorem sm_set {i : Nat} {f : PSt -> M SV} (hN : X.N.Nodup) (hi : X.N[i]? = some x) (hx : Loc X.env.scope x) (h : EM X e f) (hs : swapsWith e (some (.Name x pos')) pos.line X.env = pure false := by rfl)
  (hf : X.fn x = true \/ X.env.scope.names.lookup x = some .local := by first | exact .inl rfl | exact .inr rfl | assumption) : SM X (.Assign [.Name x pos'] e pos) (mSet i f) := PS.imp (ps_set hN hi hx h hs hf) fun D σ H h_ => by
 obtain ⟨ι, ρ, C, fl, C', sr, e, d⟩ := h_
 obtain ⟨z, C1, e1, e⟩ := Zah e
 cases e
 exact ⟨ι, ρ, C, z, _, sr, e1, fun v H1 f1 c1 r1 => Done.nx0 ((sr.step f1 c1).set i r1) (d.fr c1 f1)⟩
noncomputable def mNew (i : Nat) (f : PSt -> M (List PV)) : PSt -> M PF := fun ρ => bnd (f ρ) fun ps => fun C => some (.nx (ρ.set i (some (.c C.length))), C ++ [.lst ps])
theorem new_cell {K : W.Frag} {ι : List Addr} {H H' : Hp} {ρ : PSt} {σ : St} {C C1 : Cs} {D : Ends} {i : Nat} {ps : List PV} {q : Addr} {vs : List V} (sr : SR K ι H ρ σ C) (d : Done K ι H D (C1 ++ [.lst ps]) (.nx (ρ.set i (some (.c C1.length)))))
  (f1 : Fr ι H H') (c1 : CR K ι H' C1) (hq : H' q = none) (rs : Reps K ι H' ps vs) : D.nx (σ.set i (some (.ref q))) (upd H' q (.lst vs)) := by
 have c2 : CR K (ι ++ [q]) (upd H' q (.lst vs)) (C1 ++ [.lst ps]) := c1.add hq ⟨vs, ZaW, RepsNew c1 hq ps vs rs⟩
 have x : Ex ι [q] H (upd H' q (.lst vs)) := ⟨f1.trans (Fr.new hq), fun b hb => by
  have : b = q := by simpa using hb
  subst this
  cases e : H b with
  | none => rfl
  | some o =>
   by_cases n : b ∈ ι
   ·rcases c1.mut n with ⟨vs, z⟩ | ⟨vs, z⟩ | ⟨vs, z⟩
    ·rw [hq] at z; cases z
    ·rw [hq] at z; cases z
    ·rw [hq] at z; cases z
   ·have := f1 b o n e; rw [hq] at this; cases this⟩
 refine d [q] _ _ x ((sr.ex x c2).set i ⟨q, rfl, ?_⟩)
 rw [← c1.len]; simp
theorem sm_new {i : Nat} {f : PSt -> M (List PV)} (hN : X.N.Nodup) (hi : X.N[i]? = some x) (hx : Loc X.env.scope x) (h : FM X e f) (hs : swapsWith e (some (.Name x pos')) pos.line X.env = pure false := by rfl)
  (hf : X.fn x = true \/ X.env.scope.names.lookup x = some .local := by first | exact .inl rfl | exact .inr rfl | assumption) : SM X (.Assign [.Name x pos'] e pos) (mNew i f) := PS.imp (ps_set hN hi hx h hs hf) fun D σ H h_ => by
 obtain ⟨ι, ρ, C, fl, C', sr, e, d⟩ := h_
 obtain ⟨ps, C1, e1, e⟩ := Zah e
 cases e
 exact ⟨ι, ρ, C, ps, C1, sr, e1, fun q vs H' f1 c1 hq rs => new_cell sr d f1 c1 hq rs⟩
noncomputable def plain : List SV -> Option (List PV)
 | [] => some []
 | .v p :: r => (plain r).map (p :: ·)
 | .c _ :: _ => none
theorem Zbn {K : W.Frag} {ι : List Addr} {H : Hp} : ∀ {xs : List SV} {ps : List PV} {vs : List V}, plain xs = some ps -> RepSs K ι H xs vs -> Reps K ι H ps vs /\ vs.length = xs.length
 | [], ps, vs, e, r => by cases e; rw [show vs = [] from r]; exact ⟨.nil, rfl⟩
 | .v p :: xs, ps, vs, e, r => by
  obtain ⟨v, w, rfl, h1, h2⟩ := r
  unfold plain at e
  cases h : plain xs with
  | none => rw [h] at e; cases e
  | some qs =>
   rw [h] at e; cases e
   exact ⟨.cons h1 (Zbn h h2).1, by rw [List.length_cons, List.length_cons, (Zbn h h2).2]⟩
 | .c _ :: _, ps, vs, e, r => by cases e
theorem k1000 {n : Nat} (h : n <= 1000) : n <= sizeLine := Nat.le_trans h (by rw [sizeLine_eq]; decide)
noncomputable def mTup (fs : PSt -> M (List SV)) : PSt -> M SV := fun ρ => bnd (fs ρ) fun xs => opM fun _ => if xs.length <= 1000 then (plain xs).map fun ps => .v (.tup ps) else none
theorem em_tup {x1} {fs : PSt -> M (List SV)} (h : AM X es fs) : EM X (.Tuple es x1 pos) (mTup fs) := PE.imp (pe_tup h) fun σ H Q h_ => by
 obtain ⟨ι, ρ, C, z, C', sr, e, q⟩ := h_
 obtain ⟨xs, C1, e1, e⟩ := Zah e
 obtain ⟨e2, rfl⟩ := ZaF e
 refine ⟨ι, ρ, C, xs, _, sr, e1, fun vs H1 f1 c1 r1 => ?_⟩
 by_cases hl : xs.length <= 1000
 ·rw [if_pos hl] at e2
  cases hp : plain xs with
  | none => rw [hp] at e2; cases e2
  | some ps =>
   rw [hp] at e2; cases e2
   obtain ⟨rs, hv⟩ := Zbn hp r1
   refine ⟨by rw [hv]; exact k1000 hl, fun q' hq => q _ _ (f1.trans (Fr.new hq)) (c1.new hq) ?_⟩
   show Rep _ _ _ (.tup ps) _
   unfold Rep
   exact ⟨q', vs, rfl, ZaW, Reps.stay (fun b o e => by rw [Zan (Zal e hq)]; exact e) ps vs rs⟩
 ·rw [if_neg hl] at e2; cases e2
noncomputable def mLst (fs : PSt -> M (List SV)) : PSt -> M (List PV) := fun ρ => bnd (fs ρ) fun xs => opM fun _ => if xs.length <= 1000 then plain xs else none
theorem fm_lst {fs : PSt -> M (List SV)} (h : AM X es fs) : FM X (.List es pos) (mLst fs) := PE.imp (pe_lst h) fun σ H Q h_ => by
 obtain ⟨ι, ρ, C, z, C', sr, e, q⟩ := h_
 obtain ⟨xs, C1, e1, e⟩ := Zah e
 obtain ⟨e2, rfl⟩ := ZaF e
 refine ⟨ι, ρ, C, xs, _, sr, e1, fun vs H1 f1 c1 r1 => ?_⟩
 by_cases hl : xs.length <= 1000
 ·rw [if_pos hl] at e2
  obtain ⟨rs, hv⟩ := Zbn e2 r1
  exact ⟨by rw [hv]; exact k1000 hl, fun q' hq => q q' vs H1 f1 c1 hq rs⟩
 ·rw [if_neg hl] at e2; cases e2
noncomputable def mVal (f : PSt -> M (List PV)) : PSt -> M SV := fun ρ => bnd (f ρ) fun ps => ret (.v (.lst ps))
theorem new_val {K : W.Frag} {ι : List Addr} {H : Hp} {C : Cs} {ps : List PV} {q : Addr} {vs : List V} (c1 : CR K ι H C) (hq : H q = none) (rs : Reps K ι H ps vs) : Rep K ι (upd H q (.lst vs)) (.lst ps) (.ref q) := by
 unfold Rep
 refine ⟨q, vs, rfl, .inl ⟨fun z => ?_, .inl ZaW⟩, Reps.stay (fun b o e => by rw [Zan (Zal e hq)]; exact e) ps vs rs⟩
 rcases c1.mut z with ⟨_, e⟩ | ⟨_, e⟩ | ⟨_, e⟩
 ·rw [hq] at e; cases e
 ·rw [hq] at e; cases e
 ·rw [hq] at e; cases e
theorem FM.em {f : PSt -> M (List PV)} (h : FM X e f) : EM X e (mVal f) := PE.imp h fun σ H Q h_ => by
 obtain ⟨ι, ρ, C, z, C', sr, e, q⟩ := h_
 obtain ⟨ps, C1, e1, e⟩ := Zah e
 cases e
 exact ⟨ι, ρ, C, ps, _, sr, e1, fun q' vs H1 f1 c1 hq rs => q _ _ (f1.trans (Fr.new hq)) (c1.new hq) (new_val c1 hq rs)⟩
noncomputable def tMG (K : W.Frag) (g : PV -> PSt -> Option PSt) : TG := fun v σ H Q => ∃ ι ρ C p ρ', SR K ι H ρ σ C /\ Rep K ι H p v /\ g p ρ = some ρ' /\ ∀ σ', SR K ι H ρ' σ' C -> Q σ' H
noncomputable def tMGs (K : W.Frag) (g : List PV -> PSt -> Option PSt) : TGs := fun v σ H Q => ∃ ι ρ C p ρ', SR K ι H ρ σ C /\ Reps K ι H p v /\ g p ρ = some ρ' /\ ∀ σ', SR K ι H ρ' σ' C -> Q σ' H
noncomputable def GM (X : Cx) (tg : Expr) (g : PV -> PSt -> Option PSt) : Prop := PG X tg (tMG X.K g)
noncomputable def GMs (X : Cx) (ts : List Expr) (g : List PV -> PSt -> Option PSt) : Prop := PGs X ts (tMGs X.K g)
theorem PG.imp {t t' : TG} (h : PG X tg t) (k : ∀ v σ H Q, t' v σ H Q -> t v σ H Q) : PG X tg t' := fun pins s σ H v u Q I r q => h pins s σ H v u Q I r (k v σ H Q q)
theorem PGs.imp {t t' : TGs} (h : PGs X es t) (k : ∀ v σ H Q, t' v σ H Q -> t v σ H Q) : PGs X es t' := fun pins s σ H v u Q I r q => h pins s σ H v u Q I r (k v σ H Q q)
noncomputable def hName (i : Nat) : PV -> PSt -> Option PSt := fun p ρ => some (ρ.set i (some (.v p)))
theorem gm_name {i : Nat} (hN : X.N.Nodup) (hi : X.N[i]? = some x) (hx : Loc X.env.scope x) (hf : X.fn x = true \/ X.env.scope.names.lookup x = some .local := by first | exact .inl rfl | exact .inr rfl | assumption) : GM X (.Name x pos) (hName i) :=
 PG.imp (pg_name hN hi hx hf) fun v σ H Q h_ => by obtain ⟨ι, ρ, C, p, ρ', sr, r, e, q⟩ := h_; cases e; exact q _ (sr.set i r)
noncomputable def hNil : List PV -> PSt -> Option PSt
 | [], ρ => some ρ
 | _ :: _, _ => none
noncomputable def hCons (g : PV -> PSt -> Option PSt) (gs : List PV -> PSt -> Option PSt) : List PV -> PSt -> Option PSt
 | [], _ => none
 | p :: ps, ρ => (g p ρ).bind fun ρ' => gs ps ρ'
noncomputable def hTup (gs : List PV -> PSt -> Option PSt) (n : Nat) : PV -> PSt -> Option PSt
 | .tup ps, ρ => if ps.length = n then gs ps ρ else none
 | _, _ => none
theorem gms_nil : GMs X [] hNil := PGs.imp pgs_nil fun v σ H Q h_ => by
 obtain ⟨ι, ρ, C, p, ρ', sr, r, e, q⟩ := h_
 cases p with
 | nil => cases e; exact ⟨r.inv0, q σ sr⟩
 | cons _ _ => cases e
theorem gms_cons {g : PV -> PSt -> Option PSt} {gs : List PV -> PSt -> Option PSt} (h : GM X e g) (k : GMs X es gs) (hs : (assignEach (e :: es) X.env).map (·.2) = assign e X.env :: (assignEach es X.env).map (·.2) := by rfl) : GMs X (e :: es) (hCons g gs) :=
 PGs.imp (pgs_cons h k hs) fun v σ H Q h_ => by
  obtain ⟨ι, ρ, C, p, ρ', sr, r, e, q⟩ := h_
  cases p with
  | nil => cases e
  | cons p ps =>
   obtain ⟨w, ws, rfl, r1, r2⟩ := r.inv
   replace e : (g p ρ).bind (fun ρ' => gs ps ρ') = some ρ' := e
   cases h1 : g p ρ with
   | none => rw [h1] at e; cases e
   | some ρ1 =>
    rw [h1] at e
    exact ⟨w, ws, rfl, ι, ρ, C, p, ρ1, sr, r1, h1, fun σ1 sr1 => ⟨ι, ρ1, C, ps, ρ', sr1, r2, e, q⟩⟩
theorem gm_tup {gs : List PV -> PSt -> Option PSt} {k n : Nat} (hc : X.calm = true) (h : GMs X es gs) (hn : (assignEach es X.env).length = n := by rfl) (hst : (assignEach es X.env).findIdx? (·.1) = none := by rfl) : GM X (.Tuple es k pos) (hTup gs n) :=
 PG.imp (pg_tup hc h hn hst) fun v σ H Q h_ => by
  obtain ⟨ι, ρ, C, p, ρ', sr, r, e, q⟩ := h_
  cases p with
  | tup ps =>
   unfold Rep at r
   obtain ⟨a, vs, rfl, sq, rs⟩ := r
   replace e : (if ps.length = n then gs ps ρ else none) = some ρ' := e
   by_cases hl : ps.length = n
   ·rw [if_pos hl] at e
    exact ⟨a, vs, rfl, sq.sq, by rw [← rs.length]; exact hl, ι, ρ, C, ps, ρ', sr, rs, e, q⟩
   ·rw [if_neg hl] at e; cases e
  | _ => cases e
noncomputable def mAsg (f : PSt -> M SV) (g : PV -> PSt -> Option PSt) : PSt -> M PF := fun ρ => bnd (f ρ) fun r => match r with
 | .v p => fun C => (g p ρ).map fun ρ' => (.nx ρ', C)
 | .c _ => fun _ => none
theorem sm_asg {f : PSt -> M SV} {g : PV -> PSt -> Option PSt} (h : EM X e f) (k : GM X tg g) (hs : swapsWithSole [tg] e pos.line X.env = pure false := by rfl) (hw : swappedStores [tg] e X.env = pure none := by rfl)
  (h1 : (assignEach [tg] X.env).map (·.2) = [assign tg X.env] := by rfl) : SM X (.Assign [tg] e pos) (mAsg f g) := PS.imp (ps_asg h k hs hw h1) fun D σ H h_ => by
 obtain ⟨ι, ρ, C, fl, C', sr, e, d⟩ := h_
 obtain ⟨z, C1, e1, e⟩ := Zah e
 refine ⟨ι, ρ, C, z, C1, sr, e1, fun v H1 f1 c1 r1 => ?_⟩
 cases z with
 | c k => cases e
 | v p =>
  have e : (g p ρ).map (fun ρ' => (PF.nx ρ', C1)) = some (fl, C') := e
  cases hg : g p ρ with
  | none => rw [hg] at e; cases e
  | some ρ1 =>
   rw [hg] at e
   cases e
   exact ⟨ι, ρ, _, p, ρ1, sr.step f1 c1, r1, hg, fun σ' sr' => Done.nx0 sr' (d.fr c1 f1)⟩
end
structure Iter (K : W.Frag) (ι : List Addr) (H1 : Hp) (xs : List PV) (J : It) : Prop where
 go : ∀ ι2 H2 C2, Ex ι ι2 H1 H2 -> CR K (ι ++ ι2) H2 C2 -> ∀ i, i < xs.length -> J.go i H2
 yld : ∀ ι2 H2 C2, Ex ι ι2 H1 H2 -> CR K (ι ++ ι2) H2 C2 -> ∀ i v H3, i < xs.length -> J.yld i H2 v H3 -> (∀ b o, H2 b = some o -> H3 b = some o) /\ ∃ p, xs[i]? = some p /\ Rep K (ι ++ ι2) H3 p v
 stop : ∀ ι2 H2 C2, Ex ι ι2 H1 H2 -> CR K (ι ++ ι2) H2 C2 -> J.stop xs.length H2
noncomputable def tMI (K : W.Frag) (f : PSt -> M (List PV)) : TI := fun σ H R => ∃ ι ρ C xs C', SR K ι H ρ σ C /\ f ρ C = some (xs, C') /\ ∀ J H1, Fr ι H H1 -> CR K ι H1 C' -> Iter K ι H1 xs J -> R J H1
noncomputable def IM (X : Cx) (tg iter : Expr) (f : PSt -> M (List PV)) : Prop := PI X tg iter (tMI X.K f)
section
variable {X : Cx} {e tg iter elt : Expr} {es : List Expr} {body : List Stmt} {f : PSt -> M PF} {pos p : Pos} {x : Str}
noncomputable def loop (g : PV -> PSt -> Option PSt) (f : PSt -> M PF) : List PV -> PSt -> M PF
 | [], ρ => ret (.nx ρ)
 | x :: xs, ρ => match g x ρ with
  | none => fun _ => none
  | some ρ1 => bnd (f ρ1) fun fl => match fl with
   | .nx ρ2 => loop g f xs ρ2
   | .ct ρ2 => loop g f xs ρ2
   | .bk ρ2 => ret (.nx ρ2)
   | .rt r => ret (.rt r)
   | .rf ps => ret (.rf ps)
noncomputable def mFor (it : PSt -> M (List PV)) (g : PV -> PSt -> Option PSt) (f : PSt -> M PF) : PSt -> M PF := fun ρ => bnd (it ρ) fun xs => loop g f xs ρ
theorem sm_for {it : PSt -> M (List PV)} {g : PV -> PSt -> Option PSt} (hp : PassesOwn (model X.prog X.w) X.A X.env X.xe) (hc : X.calm = true) (hi : IM X tg iter it) (hg : GM X tg g) (hb : BM X body f)
  (hs : ∀ x, foldedSetIterable iter X.env x = pure x := by intro _; rfl) : SM X (.For tg iter body [] pos) (mFor it g f) := PS.imp (ps_for hp hc hi hg hb hs) fun D σ H h_ => by
 obtain ⟨ι, ρ, C, fl, C', sr, e, d⟩ := h_
 obtain ⟨xs, C1, e1, e⟩ := Zah e
 refine ⟨ι, ρ, C, xs, C1, sr, e1, fun J H1 f1 c1 it1 => ?_⟩
 have d1 := d.fr c1 f1
 have sr1 := sr.step f1 c1
 refine ⟨fun i m σ2 H2 => ∃ ι2 ρ2 C2, m = xs.length - i /\ i <= xs.length /\ Ex ι ι2 H1 H2 /\ SR X.K (ι ++ ι2) H2 ρ2 σ2 C2 /\ loop g f (xs.drop i) ρ2 C2 = some (fl, C'), ⟨xs.length, [], ρ, C1, rfl, Nat.zero_le _, Ex.fr .refl, by rw [List.append_nil]; exact sr1, e⟩, ?_⟩
 rintro i m σ2 H2 ⟨ι2, ρ2, C2, rfl, hi2, x2, sr2, e2⟩
 rcases Nat.lt_or_ge i xs.length with hlt | hge
 ·right
  refine ⟨it1.go ι2 H2 C2 x2 sr2.cr i hlt, fun σ' H' => ∃ ι2 ρ2 C2, Ex ι ι2 H1 H' /\ SR X.K (ι ++ ι2) H' ρ2 σ' C2 /\ loop g f (xs.drop (i + 1)) ρ2 C2 = some (fl, C'), ?_, ?_⟩
  ·rintro σ' H' ⟨ι3, ρ3, C3, x3, sr3, e3⟩
   exact ⟨xs.length - (i + 1), by lia, ι3, ρ3, C3, rfl, hlt, x3, sr3, e3⟩
  ·intro v H3 y
   obtain ⟨sm, q, hq, rq⟩ := it1.yld ι2 H2 C2 x2 sr2.cr i v H3 hlt y
   have hd : xs.drop i = q :: xs.drop (i + 1) := by
    rw [List.drop_eq_getElem_cons hlt]
    rw [List.getElem?_eq_getElem hlt] at hq
    rw [Option.some.inj hq]
   rw [hd] at e2
   unfold loop at e2
   cases hg1 : g q ρ2 with
   | none => rw [hg1] at e2; cases e2
   | some ρ3 =>
    rw [hg1] at e2
    obtain ⟨fl1, C3, e3, e4⟩ := Zah e2
    have fr3 : Fr (ι ++ ι2) H2 H3 := fun b o _ z => sm b o z
    have cr3 : CR X.K (ι ++ ι2) H3 C2 := sr2.cr.same sm
    have x3 : Ex ι ι2 H1 H3 := ⟨fun b o n z => sm b o (x2.1 b o n z), x2.2⟩
    refine ⟨ι ++ ι2, ρ2, C2, q, ρ3, sr2.step fr3 cr3, rq, hg1, fun σ4 sr4 => ⟨ι ++ ι2, ρ3, C2, fl1, C3, sr4, e3, ?_⟩⟩
    cases fl1 with
    | nx ρ5 => exact fun ι5 σ5 H5 x5 sr5 => ⟨ι2 ++ ι5, ρ5, C3, x3.trans cr3 x5, by rw [← List.append_assoc]; exact sr5, e4⟩
    | ct ρ5 => exact fun ι5 σ5 H5 x5 sr5 => ⟨ι2 ++ ι5, ρ5, C3, x3.trans cr3 x5, by rw [← List.append_assoc]; exact sr5, e4⟩
    | bk ρ5 => cases e4; exact fun ι5 σ5 H5 x5 sr5 => d1 (ι2 ++ ι5) σ5 H5 (x3.trans cr3 x5) (by rw [← List.append_assoc]; exact sr5)
    | rf ps => cases e4; exact fun ι5 q5 vs5 H5 x5 c5 h5 r5 => d1 (ι2 ++ ι5) q5 vs5 H5 (x3.trans cr3 x5) (by rw [← List.append_assoc]; exact c5) h5 (by rw [← List.append_assoc]; exact r5)
    | rt r => cases e4; exact fun ι5 v5 H5 x5 c5 r5 => d1 (ι2 ++ ι5) v5 H5 (x3.trans cr3 x5) (by rw [← List.append_assoc]; exact c5) (by rw [← List.append_assoc]; exact r5)
 ·left
  have hi3 : i = xs.length := by lia
  subst hi3
  rw [List.drop_length] at e2
  cases e2
  exact ⟨it1.stop ι2 H2 _ x2 sr2.cr, d1 ι2 σ2 H2 x2 sr2⟩
noncomputable def stIn' (vs : List Str) (fr : List Nat) (ρ : PSt) : PSt := vs.map (fun _ => none) ++ fr.map fun i => (ρ[i]?).join
noncomputable def compL (g : PV -> PSt -> Option PSt) (tt : PSt -> M Bool) (te : PSt -> M SV) : List PV -> PSt -> List PV -> M (List PV)
 | [], _, ys => ret ys
 | x :: xs, ρ, ys => match g x ρ with
  | none => fun _ => none
  | some ρ1 => bnd (tt ρ1) fun b => if b then bnd (te ρ1) fun y => match y with
    | .v p => compL g tt te xs ρ1 (ys ++ [p])
    | .c _ => fun _ => none
   else compL g tt te xs ρ1 ys
noncomputable def mComp (it : PSt -> M (List PV)) (vs : List Str) (fr : List Nat) (g : PV -> PSt -> Option PSt) (tt : PSt -> M Bool) (te : PSt -> M SV) : PSt -> M (List PV) := fun ρ => bnd (it ρ) fun xs => if xs.length <= 100000 then compL g tt te xs (stIn' vs fr ρ) [] else fun _ => none
theorem SR.block {K : W.Frag} {ι : List Addr} {H : Hp} {ρ : PSt} {σ : St} {C : Cs} (sr : SR K ι H ρ σ C) (vs : List Str) (fr : List Nat) : SR K ι H (stIn' vs fr ρ) (stIn vs fr σ) C := by
 refine ⟨sr.cr, by simp [stIn', stIn], fun i s e => ?_⟩
 unfold stIn' at e
 unfold stIn
 rcases Nat.lt_or_ge i vs.length with h | h
 ·rw [List.getElem?_append_left (by simpa using h)] at e
  simp at e
 ·rw [List.getElem?_append_right (by simpa using h)] at e
  rw [List.getElem?_append_right (by simpa using h)]
  simp only [List.length_map, List.getElem?_map] at e ⊢
  cases hj : fr[i - vs.length]? with
  | none => rw [hj] at e; cases e
  | some j =>
   rw [hj] at e
   have e' : (ρ[j]?).join = some s := by simpa using e
   have e2 : ρ[j]? = some (some s) := by
    cases hr : ρ[j]? with
    | none => rw [hr] at e'; cases e'
    | some o => rw [hr] at e'; simp at e'; rw [e']
   obtain ⟨v, h1, h2⟩ := sr.loc j s e2
   refine ⟨v, ?_, h2⟩
   simp [h1]
theorem k100000 {n : Nat} (h : n <= 100000) : n <= sizeLine := Nat.le_trans h (by rw [sizeLine_eq]; decide)
theorem comp_pure {K : W.Frag} {it : PSt -> M (List PV)} {vs : List Str} {fr : List Nat} {g : PV -> PSt -> Option PSt} {tt : PSt -> M Bool} {te : PSt -> M SV} {σ : St} {H : Hp} {Q : VK} {ι : List Addr} {ρ : PSt} {C C' : Cs} {res : List PV} (sr : SR K ι H ρ σ C)
  (e : mComp it vs fr g tt te ρ C = some (res, C')) (q : ∀ p vs H', Fr ι H H' -> CR K ι H' C' -> H' p = none -> Reps K ι H' res vs -> Q (.ref p) (upd H' p (.lst vs))) : tComp (tMI K it) vs fr (tMG K g) (tMB K tt) (tM K te) σ H Q := by
 obtain ⟨xs, C1, e1, e⟩ := Zah e
 refine ⟨ι, ρ, C, xs, C1, sr, e1, fun J H1 f1 c1 it1 => ?_⟩
 by_cases hz : xs.length <= 100000
 case neg => rw [if_neg hz] at e; cases e
 rw [if_pos hz] at e
 have sr1 := (sr.step f1 c1).block vs fr
 have x0 : ∀ {H2 : Hp}, Fr ι H1 H2 -> Ex ι [] H1 H2 := fun f => Ex.fr f
 have c0 : ∀ {H2 : Hp} {C2 : Cs}, CR K ι H2 C2 -> CR K (ι ++ []) H2 C2 := fun c => by rw [List.append_nil]; exact c
 refine ⟨fun i m σ2 ys H2 => ∃ ρ2 C2 ps, m = xs.length - i /\ i <= xs.length /\ Fr ι H1 H2 /\ SR K ι H2 ρ2 σ2 C2 /\ Reps K ι H2 ps ys /\ ps.length <= i /\ compL g tt te (xs.drop i) ρ2 ps C2 = some (res, C'), ⟨xs.length, _, C1, [], rfl, Nat.zero_le _, .refl, sr1, .nil, Nat.le_refl _, e⟩, ?_⟩
 rintro i m σ2 ys H2 ⟨ρ2, C2, ps, rfl, hi2, f2, sr2, rs2, hps, e2⟩
 have hys : ys.length <= sizeLine := by rw [← rs2.length]; exact k100000 (Nat.le_trans (Nat.le_trans hps hi2) hz)
 rcases Nat.lt_or_ge i xs.length with hlt | hge
 ·right
  refine ⟨it1.go [] H2 C2 (x0 f2) (c0 sr2.cr) i hlt, hys, fun σ' ys' H' => ∃ ρ2 C2 ps, Fr ι H1 H' /\ SR K ι H' ρ2 σ' C2 /\ Reps K ι H' ps ys' /\ ps.length <= i + 1 /\ compL g tt te (xs.drop (i + 1)) ρ2 ps C2 = some (res, C'), ?_, ?_⟩
  ·rintro σ' ys' H' ⟨ρ3, C3, ps3, f3, sr3, rs3, h3, e3⟩
   exact ⟨xs.length - (i + 1), by lia, ρ3, C3, ps3, rfl, hlt, f3, sr3, rs3, h3, e3⟩
  ·intro v H3 y
   obtain ⟨sm, qv, hq, rq⟩ := it1.yld [] H2 C2 (x0 f2) (c0 sr2.cr) i v H3 hlt y
   rw [List.append_nil] at rq
   have hd : xs.drop i = qv :: xs.drop (i + 1) := by
    rw [List.drop_eq_getElem_cons hlt]
    rw [List.getElem?_eq_getElem hlt] at hq
    rw [Option.some.inj hq]
   rw [hd] at e2
   unfold compL at e2
   cases hg1 : g qv ρ2 with
   | none => rw [hg1] at e2; cases e2
   | some ρ3 =>
    rw [hg1] at e2
    obtain ⟨b, C3, e3, e4⟩ := Zah e2
    have fr3 : Fr ι H2 H3 := fun b o _ z => sm b o z
    have cr3 : CR K ι H3 C2 := sr2.cr.same sm
    refine ⟨ι, ρ2, C2, qv, ρ3, sr2.step fr3 cr3, rq, hg1, fun σ4 sr4 => ⟨ι, ρ3, C2, b, C3, sr4, e3, fun H5 f5 c5 => ?_⟩⟩
    have f15 := f2.trans (fr3.trans f5)
    have rs5 : Reps K ι H5 ps ys := Reps.mono cr3 f5 _ _ (Reps.mono sr2.cr fr3 _ _ rs2)
    cases b with
    | true =>
     rw [if_pos rfl] at e4
     dsimp only
     rw [if_pos rfl]
     obtain ⟨y1, C6, e6, e7⟩ := Zah e4
     refine ⟨ι, ρ3, C3, y1, C6, sr4.step f5 c5, e6, fun v7 H7 f7 c7 r7 => ?_⟩
     cases y1 with
     | c k => cases e7
     | v p7 => exact ⟨ρ3, C6, ps ++ [p7], f15.trans f7, (sr4.step f5 c5).step f7 c7, (Reps.mono c5 f7 _ _ rs5).append (.cons r7 .nil), by simp; exact hps, e7⟩
    | false =>
     rw [if_neg Bool.false_ne_true] at e4
     dsimp only
     rw [if_neg Bool.false_ne_true]
     exact ⟨ρ3, C3, ps, f15, sr4.step f5 c5, rs5, Nat.le_succ_of_le hps, e4⟩
 ·left
  have hi3 : i = xs.length := by lia
  subst hi3
  rw [List.drop_length] at e2
  cases e2
  exact ⟨it1.stop [] H2 _ (x0 f2) (c0 sr2.cr), hys, fun D hD => q D ys H2 (f1.trans f2) sr2.cr hD rs2⟩
section
variable {ifs : List Expr} {scope : Scope} {vs fs : List Str} {fr : List Nat} {it : PSt -> M (List PV)} {g : PV -> PSt -> Option PSt} {tt : PSt -> M Bool} {te : PSt -> M SV}
noncomputable def TsM (X : Cx) (ifs : List Expr) (t : PSt -> M Bool) : Prop := PTs X ifs (tMB X.K t)
noncomputable def tOk : PSt -> M Bool := fun _ => ret true
theorem ts_nil : TsM X [] tOk := fun pins s σ H Q I h_ => by
 obtain ⟨ι, ρ, C, b, C', sr, e, q⟩ := h_
 cases e
 exact pts_nil pins s σ H Q I (q H .refl sr.cr)
theorem fm_comp (S : CSc X scope vs fs fr) (hc : X.calm = true) (hi : IM X tg iter it)
  (bG : ∀ C s₀ H₀ ex pn, GM (CompCx X (vs ++ fs) scope C s₀ H₀ ex pn) tg g) (bT : ∀ C s₀ H₀ ex pn, TsM (CompCx X (vs ++ fs) scope C s₀ H₀ ex pn) ifs tt) (bE : ∀ C s₀ H₀ ex pn, EM (CompCx X (vs ++ fs) scope C s₀ H₀ ex pn) elt te)
  (hs : ∀ x, foldedSetIterable iter X.env x = pure x := by intro _; rfl) : FM X (.ListComp elt [⟨tg, iter, ifs, 0⟩] scope pos) (mComp it vs fr g tt te) :=
 PE.imp (pe_comp (g := tMG X.K g) (tt := tMB X.K tt) (te := tM X.K te) S hc hi bG bT bE hs) fun σ H Q ⟨ι, ρ, C, res, C', sr, e, q⟩ => comp_pure sr e q
end
end
theorem CR.cut {K : W.Frag} {ι ι2 : List Addr} {H : Hp} {C : Cs} {n : Nat} (c : CR K (ι ++ ι2) H C) (hn : ι.length = n) : CR K ι H (C.take n) := by
 have hlen : (ι ++ ι2).length = C.length := c.len
 rw [List.length_append] at hlen
 have hs : ∀ b o, H b = some o -> b ∉ ι ++ ι2 -> b ∉ ι := fun b o _ z q => z (List.mem_append_left _ q)
 refine ⟨by rw [List.length_take]; lia, (List.nodup_append.mp c.nd).1, fun k a d h1 h2 => ?_⟩
 have hk : k < ι.length := by
  rcases Nat.lt_or_ge k ι.length with q | q
  ·exact q
  ·rw [List.getElem?_eq_none_iff.mpr q] at h1; cases h1
 rw [List.getElem?_take_of_lt (by lia)] at h2
 have ok := c.ok k a d (by rw [List.getElem?_append_left hk]; exact h1) h2
 cases d with
 | lst ps => obtain ⟨vs, e, r⟩ := ok; exact ⟨vs, e, Reps.cells hs _ _ r⟩
 | dct ks ps => obtain ⟨qs, vs, e, hl, hk, r⟩ := ok; exact ⟨qs, vs, e, hl, hk, Reps.cells hs _ _ r⟩
 | dtt ks ps => obtain ⟨vs, e, hl, r⟩ := ok; exact ⟨vs, e, hl, Reps.cells hs _ _ r⟩
 | _ => exact ok.elim
noncomputable def fin (n : Nat) (C' : Cs) : SV -> Option (SV × Cs)
 | .v p => some (.v p, C'.take n)
 | .c k => if k < n then some (.c k, C'.take n) else (C'[k]?).map fun c => (.v c, C'.take n)
noncomputable def mDef (n pad : Nat) (body : PSt -> M PF) : List SV -> M SV := fun ss C => if ss.length = n then (match body (ss.map some ++ List.replicate pad none) C with
 | some (.rt r, C') => fin C.length C' r
 | some (.nx _, C') => some (.v .non, C'.take C.length)
 | some (.rf ps, C') => some (.v (.lst ps), C'.take C.length)
 | _ => none) else none
noncomputable def mDefF (n pad : Nat) (body : PSt -> M PF) : List SV -> M (List PV) := fun ss C => if ss.length = n then (match body (ss.map some ++ List.replicate pad none) C with
 | some (.rf ps, C') => some (ps, C'.take C.length)
 | _ => none) else none
noncomputable def liftSpF (K : W.Frag) (F : List SV -> M (List PV)) : Sp := fun vs H Q _ => ∃ ι ss C ps C', CR K ι H C /\ RepSs K ι H ss vs /\ F ss C = some (ps, C') /\ ∀ p vs H', Fr ι H H' -> CR K ι H' C' -> H' p = none -> Reps K ι H' ps vs -> Q (.ref p) (upd H' p (.lst vs))
noncomputable def mFnF (F : List SV -> M (List PV)) (fs : PSt -> M (List SV)) : PSt -> M (List PV) := fun ρ => bnd (fs ρ) F
theorem fm_call {X : Cx} {e : Expr} {es : List Expr} {p pos : Pos} {x : Str} {k : Nat} {f : Addr} {fd : FuncData} {ps : List Str} {F : List SV -> M (List PV)} {fs : PSt -> M (List SV)} (G : FnOk X.prog X.w X.K X.mg X.base CX0 k f fd ps (liftSpF X.K F)) (hr : Room k X.A) (hg : Gl X x) (hm : X.mg x = some (.ref f)) (hk : W.keepIn X.K (.ref f) = true) (hb : L2.Binds X.K fd ps [])
  (ha : AM X (e :: es) fs) (hdb : (x == ("__debug__" : Str)) = false := by decide) (he : starEach (e :: es) X.env = (false, eval e X.env) :: starEach es X.env := by rfl) (hpl : (backTo pos (starEach es X.env)).any (·.1) = false := by rfl) :
  FM X (.Call (.Name x p) (e :: es) [] pos) (mFnF F fs) := PE.imp (pe_call G hr hg hm hk hb .nil pass0 ha hdb he hpl) fun σ H Q h_ => by
 obtain ⟨ι, ρ, C, z, C', sr, e, q⟩ := h_
 obtain ⟨xs, C1, e1, g1⟩ := Zah e
 refine ⟨ι, ρ, C, xs, C1, sr, e1, fun vs H1 f1 c1 r1 => ?_⟩
 show liftSpF X.K F (vs ++ []) H1 Q E0
 rw [List.append_nil]
 exact ⟨ι, xs, C1, z, C', c1, r1, g1, fun q' ws H2 f2 c2 h2 r2 => q q' ws H2 (f1.trans f2) c2 h2 r2⟩
theorem fin_ok {K : W.Frag} {ι ι2 : List Addr} {H : Hp} {C' C2 : Cs} {n : Nat} {r r' : SV} {v : V} (c : CR K (ι ++ ι2) H C') (hn : ι.length = n) (rr : RepS K (ι ++ ι2) H r v) (e : fin n C' r = some (r', C2)) : CR K ι H C2 /\ RepS K ι H r' v := by
 have hs : ∀ b o, H b = some o -> b ∉ ι ++ ι2 -> b ∉ ι := fun b o _ z q => z (List.mem_append_left _ q)
 cases r with
 | v p => cases e; exact ⟨c.cut hn, Rep.cells hs p v rr⟩
 | c k =>
  obtain ⟨a, rfl, hk⟩ := rr
  replace e : (if k < n then some (SV.c k, C'.take n) else (C'[k]?).map fun c => (SV.v c, C'.take n)) = some (r', C2) := e
  by_cases h : k < n
  ·rw [if_pos h] at e
   cases e
   refine ⟨c.cut hn, a, rfl, ?_⟩
   rw [List.getElem?_append_left (by lia)] at hk; exact hk
  ·rw [if_neg h] at e
   cases hd : C'[k]? with
   | none => rw [hd] at e; cases e
   | some d =>
    rw [hd] at e
    cases e
    refine ⟨c.cut hn, ?_⟩
    have ok := c.ok k a d hk hd
    have hna : a ∉ ι := fun z => by
     obtain ⟨j, hj, ej⟩ := List.getElem_of_mem z
     have hjk : (ι ++ ι2)[j]? = some a := by rw [List.getElem?_append_left hj, List.getElem?_eq_getElem hj, ej]
     have hkl : k < (ι ++ ι2).length := by
      rcases Nat.lt_or_ge k (ι ++ ι2).length with q | q
      ·exact q
      ·rw [List.getElem?_eq_none_iff.mpr q] at hk; cases hk
     have hjl : j < (ι ++ ι2).length := by rw [List.length_append]; lia
     have e1 := (List.getElem?_eq_some_iff.mp hjk).2
     have e2 := (List.getElem?_eq_some_iff.mp hk).2
     have := (List.getElem_inj c.nd).mp (e1.trans e2.symm)
     lia
    show Rep K ι H d (.ref a)
    cases d with
    | lst ps => obtain ⟨vs, e, r⟩ := ok; unfold Rep; exact ⟨a, vs, rfl, .inl ⟨hna, .inl e⟩, Reps.cells hs _ _ r⟩
    | dct ks ps => obtain ⟨qs, vs, e, hl, hk, r⟩ := ok; unfold Rep; exact ⟨a, qs, vs, rfl, hna, e, hl, hk, Reps.cells hs _ _ r⟩
    | dtt ks ps => obtain ⟨vs, e, hl, r⟩ := ok; unfold Rep; exact ⟨a, vs, rfl, hna, e, hl, Reps.cells hs _ _ r⟩
    | _ => exact ok.elim
theorem RepSs.length {K : W.Frag} {ι : List Addr} {H : Hp} : ∀ {ss : List SV} {vs : List V}, RepSs K ι H ss vs -> ss.length = vs.length
 | [], vs, h => by rw [show vs = [] from h]; rfl
 | s :: ss, vs, h => by obtain ⟨v, r, rfl, _, t⟩ := h; rw [List.length_cons, List.length_cons, RepSs.length t]
theorem RepSs.get {K : W.Frag} {ι : List Addr} {H : Hp} : ∀ {ss : List SV} {vs : List V} {i : Nat} {s : SV}, RepSs K ι H ss vs -> ss[i]? = some s -> ∃ v, vs[i]? = some v /\ RepS K ι H s v
 | [], _, _, _, h, e => by simp at e
 | q :: ss, vs, 0, s, h, e => by
  obtain ⟨v, r, rfl, h1, h2⟩ := h
  simp at e; subst e; exact ⟨v, rfl, h1⟩
 | q :: ss, vs, i + 1, s, h, e => by
  obtain ⟨v, r, rfl, h1, h2⟩ := h
  obtain ⟨w, e1, r1⟩ := RepSs.get (i := i) h2 (by simpa using e)
  exact ⟨w, by simpa using e1, r1⟩
theorem sr_start {K : W.Frag} {ι : List Addr} {H : Hp} {C : Cs} {ss : List SV} {vs : List V} {N : List Str} (cr : CR K ι H C) (rs : RepSs K ι H ss vs) : SR K ι H (ss.map some ++ List.replicate (N.length - ss.length) none) (L2.start N vs) C := by
 have hl := RepSs.length rs
 refine ⟨cr, by unfold L2.start; simp [hl], fun i s e => ?_⟩
 unfold L2.start
 rcases Nat.lt_or_ge i ss.length with h | h
 ·rw [List.getElem?_append_left (by simpa using h), List.getElem?_map] at e
  rw [List.getElem?_append_left (by rw [List.length_map, ← hl]; exact h), List.getElem?_map]
  cases hs : ss[i]? with
  | none => rw [hs] at e; cases e
  | some s' =>
   rw [hs] at e
   have : s' = s := by simpa using e
   subst this
   obtain ⟨v, h1, h2⟩ := RepSs.get rs hs
   exact ⟨v, by rw [h1]; rfl, h2⟩
 ·rw [List.getElem?_append_right (by simpa using h), List.getElem?_replicate] at e
  split at e <;> cases e
section
variable {P : Program} {w : World} {K : W.Frag} {mg : Str -> Option Value} {base : Heap}
theorem fn_mk {x qual : Str} {st : Stmt} {f : Addr} {fd : FuncData} {N ps : List Str} {k : Nat} {body : PSt -> M PF} (F : Fun K x qual st f fd) (S : FnScope N ps (defScope st))
  (hbody : ∀ (cdv : Value) (A : Around) (outer : List Env) (s : Shared) (H : Hp) (E : XK), Room k (A.deeper (envOfC qual (defScope st) s.heap.objs.size f cdv)) ->
   BM (cxOf CX0 P w K mg base N qual (defScope st) f cdv A outer s H E).nox (defBody st) body) : FnOk P w K mg base CX0 (k + 1) f fd ps (liftSp K (mDef ps.length (N.length - ps.length) body)) := by
 refine F.ok S (fun vs H Q E h_ => ?_) (fun cdv A outer s H vs Q E hr h_ => ?_) <;> obtain ⟨ι, ss, C, r, C', cr, rs, e, q⟩ := h_
 ·unfold mDef at e
  by_cases h : ss.length = ps.length
  ·rw [← RepSs.length rs]; exact h
  ·rw [if_neg h] at e; cases e
 ·refine ⟨_, hbody cdv A outer s H E hr, ?_⟩
  unfold mDef at e
  by_cases h : ss.length = ps.length
  case neg => rw [if_neg h] at e; cases e
  rw [if_pos h] at e
  have sr := sr_start (N := N) cr rs
  rw [h] at sr
  cases hb : body (ss.map some ++ List.replicate (N.length - ps.length) none) C with
  | none => rw [hb] at e; cases e
  | some z =>
   obtain ⟨fl, C2⟩ := z
   rw [hb] at e
   refine ⟨ι, _, C, fl, C2, sr, hb, ?_⟩
   cases fl with
   | rt r2 =>
    intro ι2 v H' x c r3
    obtain ⟨c4, r4⟩ := fin_ok c cr.len r3 e
    exact q v H' x.1 c4 r4
   | nx ρ2 =>
    intro ι2 σ' H' x sr'
    cases e
    refine q .non H' x.1 (sr'.cr.cut cr.len) ?_
    show Rep K ι H' .non .non
    unfold Rep; rfl
   | rf ps' =>
    intro ι2 p' vs' H' x c hp rs'
    cases e
    have hs : ∀ b o, H' b = some o -> b ∉ ι ++ ι2 -> b ∉ ι := fun b o _ z q => z (List.mem_append_left _ q)
    have c4 := c.cut cr.len
    exact q _ _ (x.1.trans (Fr.new hp)) (c4.new hp) (show Rep _ _ _ _ _ from new_val c4 hp (Reps.cells hs _ _ rs'))
   | bk _ => cases e
   | ct _ => cases e
theorem fn_mkF {x qual : Str} {st : Stmt} {f : Addr} {fd : FuncData} {N ps : List Str} {k : Nat} {body : PSt -> M PF} (F : Fun K x qual st f fd) (S : FnScope N ps (defScope st))
  (hbody : ∀ (cdv : Value) (A : Around) (outer : List Env) (s : Shared) (H : Hp) (E : XK), Room k (A.deeper (envOfC qual (defScope st) s.heap.objs.size f cdv)) ->
   BM (cxOf CX0 P w K mg base N qual (defScope st) f cdv A outer s H E).nox (defBody st) body) : FnOk P w K mg base CX0 (k + 1) f fd ps (liftSpF K (mDefF ps.length (N.length - ps.length) body)) := by
 refine F.ok S (fun vs H Q E h_ => ?_) (fun cdv A outer s H vs Q E hr h_ => ?_) <;> obtain ⟨ι, ss, C, r, C', cr, rs, e, q⟩ := h_
 ·unfold mDefF at e
  by_cases h : ss.length = ps.length
  ·rw [← RepSs.length rs]; exact h
  ·rw [if_neg h] at e; cases e
 ·refine ⟨_, hbody cdv A outer s H E hr, ?_⟩
  unfold mDefF at e
  by_cases h : ss.length = ps.length
  case neg => rw [if_neg h] at e; cases e
  rw [if_pos h] at e
  have sr := sr_start (N := N) cr rs
  rw [h] at sr
  cases hb : body (ss.map some ++ List.replicate (N.length - ps.length) none) C with
  | none => rw [hb] at e; cases e
  | some z =>
   obtain ⟨fl, C2⟩ := z
   rw [hb] at e
   refine ⟨ι, _, C, fl, C2, sr, hb, ?_⟩
   cases fl with
   | rf ps' =>
    intro ι2 p' vs' H' x c hp rs'
    cases e
    have hs : ∀ b o, H' b = some o -> b ∉ ι ++ ι2 -> b ∉ ι := fun b o _ z q => z (List.mem_append_left _ q)
    exact q p' vs' H' x.1 (c.cut cr.len) hp (Reps.cells hs _ _ rs')
   | _ => cases e
end
end Pu
namespace Pu
open PySem PySem.Spec L2
open PyProof.Rows hiding St Fr
noncomputable def g2 (h : PV -> PV -> Option PV) : Cs -> SV -> SV -> Option SV := fun C x y => match deref C x, deref C y with
 | some p, some q => (h p q).map .v
 | _, _ => none
noncomputable def L2ok (K : W.Frag) (r : R2) (h : PV -> PV -> Option PV) : Prop :=
 ∀ (ι : List Addr) (H : Hp) (C : Cs) (p q : PV) (vx vy : V) (z : PV) (Q : VK), CR K ι H C -> Lies K ι H p vx -> Lies K ι H q vy -> h p q = some z -> (∀ v H', Fr ι H H' -> CR K ι H' C -> Rep K ι H' z v -> Q v H') -> r vx vy H Q
theorem L2ok.r {K : W.Frag} {r : R2} {h : PV -> PV -> Option PV} (k : L2ok K r h) : R2ok K r (g2 h) := by
 intro ι H C x y vx vy z Q cr rx ry e q
 unfold g2 at e
 cases hx : deref C x with
 | none => rw [hx] at e; cases e
 | some p =>
  cases hy : deref C y with
  | none => rw [hx, hy] at e; cases e
  | some p2 =>
   rw [hx, hy] at e
   cases hz : h p p2 with
   | none => simp [hz] at e
   | some z2 =>
    simp [hz] at e
    subst e
    exact k ι H C p p2 vx vy z2 Q cr (rx.lies cr hx) (ry.lies cr hy) hz q
theorem OpR.or {X : Cx} {f : Value -> Value -> Sem Value} {r r' : R2} (h : OpR X f r) (h' : OpR X f r') : OpR X f (fun x y H Q => r x y H Q \/ r' x y H Q) := by
 intro pins s σ H x y v u Q I rx ry q
 rcases q with q | q
 ·exact h pins s σ H x y v u Q I rx ry q
 ·exact h' pins s σ H x y v u Q I rx ry q
section
variable {K : W.Frag} {ι : List Addr} {H : Hp} {C : Cs} {Q : VK} {z : PV}
theorem liesS {v : V} {i : Str} (h : Lies K ι H (.str i) v) : v = .str i /\ i.length <= sizeLine := by cases h; exact ⟨rfl, by assumption⟩
theorem liesT {v : V} {ps : List PV} (h : Lies K ι H (.tup ps) v) : ∃ a vs, v = .ref a /\ TpR H a vs /\ Reps K ι H ps vs := by cases h; exact ⟨_, _, rfl, by assumption, by assumption⟩
theorem liesL {v : V} {ps : List PV} (h : Lies K ι H (.lst ps) v) : ∃ a vs, v = .ref a /\ SqL K H a vs /\ Reps K ι H ps vs := by cases h; exact ⟨_, _, rfl, by assumption, by assumption⟩
theorem repI {i : Int} : Rep K ι H (.int i) (.int i) := by unfold Rep; rfl
theorem repBl {i : Bool} : Rep K ι H (.bl i) (.bl i) := by unfold Rep; rfl
theorem repN : Rep K ι H .non .non := by unfold Rep; rfl
theorem repS {i : Str} (h : i.length <= sizeLine) : Rep K ι H (.str i) (.str i) := by unfold Rep; exact ⟨rfl, h⟩
theorem k1000000 {n : Nat} (h : n <= 1000000) : n <= sizeLine := Nat.le_trans h (by rw [sizeLine_eq]; decide)
theorem new_tup {ps : List PV} {q : Addr} {vs : List V} (hq : H q = none) (rs : Reps K ι H ps vs) : Rep K ι (upd H q (.tup vs)) (.tup ps) (.ref q) := by
 unfold Rep
 exact ⟨q, vs, rfl, ZaW, Reps.stay (fun b o e => by rw [Zan (Zal e hq)]; exact e) ps vs rs⟩
end
noncomputable def addP : PV -> PV -> Option PV
 | .int i, .int j => some (.int (i + j))
 | .str i, .str j => if i.length + j.length <= 1000000 then some (.str (i ++ j)) else none
 | .lst a, .lst b => if a.length + b.length <= 1000000 then some (.lst (a ++ b)) else none
 | .tup a, .tup b => if a.length + b.length <= 1000000 then some (.tup (a ++ b)) else none
 | _, _ => none
noncomputable def rCatL (K : W.Frag) : R2 := fun x y H Q => ∃ l b xs zs, x = .ref l /\ y = .ref b /\ SqL K H l xs /\ SqL K H b zs /\ xs.length + zs.length <= sizeLine /\ ∀ p, H p = none -> Q (.ref p) (upd H p (.lst (xs ++ zs)))
section
variable {X : Cx}
theorem op_catL : OpR X (binaryOp .Add) (rCatL X.K) := by
 intro pins s σ H x y v u Q I rx ry h
 obtain ⟨l, b, xs, zs, rfl, rfl, hH, hB, hz, q⟩ := h
 cases rx
 cases ry
 obtain ⟨its, r, pl, _⟩ := I.list hH
 obtain ⟨its2, r2, pl2, _⟩ := I.list hB
 obtain ⟨⟨cls, dd, data, sl⟩, ho, hc, n, hd⟩ := id pl.isList
 obtain ⟨⟨cls2, dd2, data2, sl2⟩, ho2, hc2, n2, hd2⟩ := id pl2.isList
 simp only at hc hd hc2 hd2
 subst hc hd hc2 hd2
 have h1 := r.length
 have h2 := r2.length
 have ea : its.toArray ++ its2.toArray = (its ++ its2).toArray := by simp
 refine concat_meets ⟨_, ho, rfl⟩ ⟨_, ho2, rfl⟩ noFill_list_add seq_list_add PySem.F.slot_list_add PySem.F.entry_list_add (PySem.F.args_list_add_2 _ _) (list_addW l b its.toArray its2.toArray n n2 dd dd2 sl sl2 (by simp; lia)) ⟨ho, ho2, ?_⟩
 rw [ea]
 exact ⟨.ref _, _, I.lnew (t' := s.toks) (r.append r2) (by rw [List.length_append]; lia), rfl, q _ I.fresh⟩
noncomputable def rCatT' (K : W.Frag) : R2 := fun x y H Q => ∃ a b xs ys, x = .ref a /\ y = .ref b /\ SqT K H a xs /\ SqT K H b ys /\ xs.length + ys.length <= sizeLine /\
 (xs = [] -> Q (.ref b) H) /\ (xs ≠ [] -> ys = [] -> Q (.ref a) H) /\ (xs ≠ [] -> ys ≠ [] -> ∀ p, H p = none -> Q (.ref p) (upd H p (.tup (xs ++ ys))))
theorem op_catT' : OpR X (binaryOp .Add) (rCatT' X.K) := by
 intro pins s σ H x y v u Q I rx ry h
 obtain ⟨a, b, xs, ys, rfl, rfl, ha, hb, hz, q0, q1, q2⟩ := h
 by_cases hx : xs = []
 ·cases rx
  cases ry
  obtain ⟨its, r1, p1, _⟩ := I.tuple ha
  obtain ⟨its2, r2, p2, _⟩ := I.tuple hb
  obtain ⟨⟨cls, dd, data, sl⟩, ho, hc, n, hd⟩ := id p1
  obtain ⟨⟨cls2, dd2, data2, sl2⟩, ho2, hc2, n2, hd2⟩ := id p2
  simp only at hc hd hc2 hd2
  subst hc hd hc2 hd2
  exact concat_meets ⟨_, ho, rfl⟩ ⟨_, ho2, rfl⟩ noFill_tuple_add seq_tuple_add PySem.F.slot_tuple_add PySem.F.entry_tuple_add (PySem.F.args_tuple_add_2 _ _)
   (tuple_addW0 a b its.toArray its2.toArray n n2 dd dd2 sl sl2 (by simp [r1.nil_iff.mpr hx])) ⟨ho, ho2, ⟨.ref b, H, I, rfl, q0 hx⟩⟩
 ·exact op_catT pins s σ H _ _ v u Q I rx ry ⟨a, b, xs, ys, rfl, rfl, ha, hb, hx, hz, q1 hx, q2 hx⟩
theorem op_addAll : OpR X (binaryOp .Add) (fun x y H Q => (rI0 fun i j => .int (i + j)) x y H Q \/ (∃ i j, x = .str i /\ y = .str j /\ i.length + j.length <= sizeLine /\ Q (.str (i ++ j)) H) \/ rCatL X.K x y H Q \/ rCatT' X.K x y H Q) :=
 OpR.or op_add (OpR.or op_add_str (OpR.or op_catL op_catT'))
theorem str_app_len (i j : Str) : (i ++ j).length = i.length + j.length := by
 show (i.cps ++ j.cps).size = _
 rw [Array.size_append]; rfl
theorem add_ok : L2ok X.K (fun x y H Q => (rI0 fun i j => .int (i + j)) x y H Q \/ (∃ i j, x = .str i /\ y = .str j /\ i.length + j.length <= sizeLine /\ Q (.str (i ++ j)) H) \/ rCatL X.K x y H Q \/ rCatT' X.K x y H Q) addP := by
 intro ι H C p q vx vy z Q cr lx ly e k
 unfold addP at e
 split at e
 ·cases e; cases lx; cases ly
  exact .inl ⟨_, _, rfl, rfl, k _ H .refl cr repI⟩
 ·split at e
  ·rename_i hl
   cases e; cases lx; cases ly
   exact .inr (.inl ⟨_, _, rfl, rfl, k1000000 hl, k _ H .refl cr (repS (by rw [str_app_len]; exact k1000000 hl))⟩)
  ·cases e
 ·split at e
  ·rename_i hl
   cases e
   obtain ⟨a, vs, rfl, h1, r1⟩ := liesL lx
   obtain ⟨b, ws, rfl, h2, r2⟩ := liesL ly
   exact .inr (.inr (.inl ⟨a, b, vs, ws, rfl, rfl, h1, h2, by rw [← r1.length, ← r2.length]; exact k1000000 hl, fun p hp => k _ _ (Fr.new hp) (cr.new hp) (new_val cr hp (r1.append r2))⟩))
  ·cases e
 ·split at e
  ·rename_i hl
   cases e
   rename_i xs ys
   obtain ⟨a, vs, rfl, h1, r1⟩ := liesT lx
   obtain ⟨b, ws, rfl, h2, r2⟩ := liesT ly
   refine .inr (.inr (.inr ⟨a, b, vs, ws, rfl, rfl, h1.sq, h2.sq, by rw [← r1.length, ← r2.length]; exact k1000000 hl, fun e => ?_, fun _ e => ?_, fun _ _ p hp => k _ _ (Fr.new hp) (cr.new hp) (new_tup hp (r1.append r2))⟩))
   ·subst e
    have := r1.length
    have hx : xs = [] := List.eq_nil_of_length_eq_zero this
    subst hx
    exact k _ H .refl cr (by unfold Rep; exact ⟨b, ws, rfl, h2, r2⟩)
   ·subst e
    have := r2.length
    have hy : ys = [] := List.eq_nil_of_length_eq_zero this
    subst hy
    rw [List.append_nil] at k
    exact k _ H .refl cr (by unfold Rep; exact ⟨a, vs, rfl, h1, r1⟩)
  ·cases e
 ·cases e
variable {a b e c : Expr} {es : List Expr} {fa fb fc : PSt -> M SV} {pos p : Pos} {x : Str}
theorem em_add (ha : EM X a fa) (hb : EM X b fb) : EM X (.BinOp a .Add b pos) (mOp (g2 addP) fa fb) := em_op op_addAll add_ok.r ha hb
noncomputable def intP (c : Int -> Int -> Bool) (f : Int -> Int -> PV) : PV -> PV -> Option PV
 | .int i, .int j => if c i j then some (f i j) else none
 | _, _ => none
theorem int_ok {C0 : Int -> Int -> Prop} {f : Int -> Int -> Int} {c : Int -> Int -> Bool} (h : ∀ i j, c i j = true -> C0 i j) : L2ok X.K (rI C0 fun i j => .int (f i j)) (intP c fun i j => .int (f i j)) := by
 intro ι H C p q vx vy z Q cr lx ly e k
 unfold intP at e
 split at e
 ·split at e
  ·rename_i hc
   cases e; cases lx; cases ly
   exact ⟨_, _, rfl, rfl, h _ _ hc, k _ H .refl cr repI⟩
  ·cases e
 ·cases e
theorem Zcy {f : Int -> Int -> V} {g : Int -> Int -> PV} (h : ∀ i j, ∀ ι H, Rep X.K ι H (g i j) (f i j)) : L2ok X.K (rI0 f) (intP (fun _ _ => true) g) := by
 intro ι H C p q vx vy z Q cr lx ly e k
 unfold intP at e
 split at e
 ·simp only [if_true] at e
  cases e; cases lx; cases ly
  exact ⟨_, _, rfl, rfl, k _ H .refl cr (h _ _ _ _)⟩
 ·cases e
noncomputable abbrev subP := intP (fun _ _ => true) fun i j => .int (i - j)
noncomputable abbrev mulP := intP (fun i j => decide (-(2 ^ 64) < i /\ i < 2 ^ 64) || decide (-(2 ^ 64) < j /\ j < 2 ^ 64)) fun i j => .int (i * j)
noncomputable abbrev modP := intP (fun _ j => decide (0 < j)) fun i j => .int (i % j)
noncomputable abbrev fdivP := intP (fun _ j => decide (0 < j /\ j < 1073741824)) fun i j => .int (i / j)
noncomputable abbrev powP := intP (fun i j => decide (0 <= j /\ j <= 1000 /\ i.natAbs < 2 ^ 64)) fun i j => .int (i ^ j.toNat)
noncomputable abbrev ltP := intP (fun _ _ => true) fun i j => .bl (decide (i < j))
noncomputable abbrev leP := intP (fun _ _ => true) fun i j => .bl (decide (i <= j))
noncomputable abbrev gtP := intP (fun _ _ => true) fun i j => .bl (decide (j < i))
noncomputable abbrev geP := intP (fun _ _ => true) fun i j => .bl (decide (j <= i))
theorem em_sub (ha : EM X a fa) (hb : EM X b fb) : EM X (.BinOp a .Sub b pos) (mOp (g2 subP) fa fb) := em_op op_sub (Zcy fun _ _ _ _ => repI).r ha hb
theorem em_mul (ha : EM X a fa) (hb : EM X b fb) : EM X (.BinOp a .Mult b pos) (mOp (g2 mulP) fa fb) := em_op op_mul (int_ok fun i j h => by
 rw [Bool.or_eq_true] at h
 rcases h with h | h
 ·exact .inl (of_decide_eq_true h)
 ·exact .inr (of_decide_eq_true h)).r ha hb
theorem em_mod (ha : EM X a fa) (hb : EM X b fb) : EM X (.BinOp a .Mod b pos) (mOp (g2 modP) fa fb) := em_op op_mod (int_ok fun i j h => of_decide_eq_true h).r ha hb
theorem em_fdiv (ha : EM X a fa) (hb : EM X b fb) : EM X (.BinOp a .FloorDiv b pos) (mOp (g2 fdivP) fa fb) := em_op op_fdiv (int_ok fun i j h => (of_decide_eq_true h : 0 < j /\ j < 1073741824)).r ha hb
theorem em_pow (ha : EM X a fa) (hb : EM X b fb) : EM X (.BinOp a .Pow b pos) (mOp (g2 powP) fa fb) := em_op op_pow (int_ok fun i j h => by
 have h := of_decide_eq_true h
 exact ⟨h.1, Int.le_trans h.2.1 (by decide), h.2.2⟩).r ha hb
noncomputable def negP (C : Cs) (x : SV) : Option SV := match deref C x with
 | some (.int i) => some (.v (.int (-i)))
 | _ => none
noncomputable def mNeg (f : PSt -> M SV) : PSt -> M SV := fun ρ => bnd (f ρ) fun x => opM fun C => negP C x
theorem em_neg (ha : EM X a fa) : EM X (.UnaryOp .USub a pos) (mNeg fa) := by
 refine PE.imp (pe_un un_neg ha) fun σ H Q h_ => ?_
 obtain ⟨ι, ρ, C, z, C', sr, e, k⟩ := h_
 obtain ⟨x, C1, e1, e⟩ := Zah e
 obtain ⟨e2, rfl⟩ := ZaF e
 refine ⟨ι, ρ, C, x, _, sr, e1, fun v H1 f1 c1 r1 => ?_⟩
 unfold negP at e2
 split at e2
 ·rename_i i hd
  cases e2
  have l := r1.lies c1 hd
  cases l
  exact ⟨i, rfl, k _ H1 f1 c1 (show Rep _ _ _ _ _ from repI)⟩
 ·cases e2
theorem lt_ok : L2ok X.K (rI0 fun i j => .bl (decide (i < j))) ltP := Zcy fun _ _ _ _ => repBl
theorem le_ok : L2ok X.K (rI0 fun i j => .bl (decide (i <= j))) leP := Zcy fun _ _ _ _ => repBl
theorem gt_ok : L2ok X.K (rI0 fun i j => .bl (decide (j < i))) gtP := Zcy fun _ _ _ _ => repBl
theorem ge_ok : L2ok X.K (rI0 fun i j => .bl (decide (j <= i))) geP := Zcy fun _ _ _ _ => repBl
noncomputable def scP : PV -> PV -> Option Bool
 | .non, .non => some true | .non, .int _ => some false | .int _, .non => some false | .non, .bl _ => some false | .bl _, .non => some false | .non, .str _ => some false | .str _, .non => some false
 | .int i, .int j => some (decide (i = j)) | .bl i, .bl j => some (decide (i = j)) | .str i, .str j => some (decide (i = j))
 | .int _, .str _ => some false | .str _, .int _ => some false | .bl _, .str _ => some false | .str _, .bl _ => some false
 | _, _ => none
noncomputable def eqP (p q : PV) : Option PV := (scP p q).map .bl
noncomputable def neP (p q : PV) : Option PV := (scP p q).map fun b => .bl (!b)
theorem sc_ok {K : W.Frag} {ι : List Addr} {H : Hp} {p q : PV} {vx vy : V} {b : Bool} (lx : Lies K ι H p vx) (ly : Lies K ι H q vy) (e : scP p q = some b) : scal vx vy = true /\ decide (vx = vy) = b := by
  unfold scP at e
  split at e <;> first
    | (cases e; cases lx; cases ly; exact ⟨rfl, by simp⟩)
    | cases e
theorem ZbE : L2ok X.K rEq eqP := by
 intro ι H C p q vx vy z Q cr lx ly e k
 unfold eqP at e
 cases hb : scP p q with
 | none => rw [hb] at e; cases e
 | some b =>
  rw [hb] at e; cases e
  obtain ⟨h1, h2⟩ := sc_ok lx ly hb
  exact ⟨h1, by rw [h2]; exact k _ H .refl cr repBl⟩
theorem ne_ok : L2ok X.K rNe neP := by
 intro ι H C p q vx vy z Q cr lx ly e k
 unfold neP at e
 cases hb : scP p q with
 | none => rw [hb] at e; cases e
 | some b =>
  rw [hb] at e; cases e
  obtain ⟨h1, h2⟩ := sc_ok lx ly hb
  exact ⟨h1, by rw [h2]; exact k _ H .refl cr repBl⟩
noncomputable def isNP : PV -> PV -> Option PV
 | .non, .non => some (.bl true)
 | _, .non => some (.bl false)
 | _, _ => none
theorem isN_ok : L2ok X.K (fun x y H Q => y = .non /\ Q (.bl (decide (x = .non))) H) isNP := by
 intro ι H C p q vx vy z Q cr lx ly e k
 unfold isNP at e
 split at e
 ·cases e; cases lx; cases ly; exact ⟨rfl, k _ H .refl cr repBl⟩
 ·rename_i hp
  cases e; cases ly
  refine ⟨rfl, ?_⟩
  have : decide (vx = V.non) = false := by cases lx <;> first | exact (hp rfl).elim | simp
  rw [this]; exact k _ H .refl cr repBl
 ·cases e
noncomputable def ixP : PV -> PV -> Option PV
 | .lst xs, .int i => atI xs i
 | .tup xs, .int i => atI xs i
 | .str z, .int i => (atI z.cps.toList i).map fun c => .str ⟨#[c]⟩
 | _, _ => none
theorem atI_rep {K : W.Frag} {ι : List Addr} {H : Hp} {ps : List PV} {vs : List V} {i : Int} {z : PV} (r : Reps K ι H ps vs) (e : atI ps i = some z) : ∃ v, atI vs i = some v /\ Rep K ι H z v := by
 unfold atI at e ⊢
 rw [← r.length]
 cases h : ixN ps.length i with
 | none => rw [h] at e; cases e
 | some j => rw [h] at e; exact r.get e
theorem ix_ok : L2ok X.K (rIx X.K) ixP := by
 intro ι H C p q vx vy z Q cr lx ly e k
 unfold ixP at e
 split at e
 ·obtain ⟨a, vs, rfl, h1, r1⟩ := liesL lx
  cases ly
  obtain ⟨v, e1, r⟩ := atI_rep r1 e
  exact .inl ⟨a, vs, _, v, rfl, rfl, h1, e1, k v H .refl cr r⟩
 ·obtain ⟨a, vs, rfl, h1, r1⟩ := liesT lx
  cases ly
  obtain ⟨v, e1, r⟩ := atI_rep r1 e
  exact .inr (.inl ⟨a, vs, _, v, rfl, rfl, h1.sq, e1, k v H .refl cr r⟩)
 ·obtain ⟨rfl, hz⟩ := liesS lx
  cases ly
  rename_i z' i
  cases hc : atI z'.cps.toList i with
  | none => rw [hc] at e; cases e
  | some c =>
   rw [hc] at e; cases e
   exact .inr (.inr ⟨_, _, c, rfl, rfl, hz, hc, k _ H .refl cr (repS (by show 1 <= sizeLine; rw [sizeLine_eq]; decide))⟩)
 ·cases e
noncomputable def tyN : PV -> Option String
 | .non => some "NoneType"
 | .bl _ => some "bool"
 | .int _ => some "int"
 | .str _ => some "str"
 | .tup _ => some "tuple"
 | .lst _ => some "list"
 | .dct _ _ => some "dict"
 | _ => none
noncomputable def isiP (p : PV) (n : String) : Option Bool := match tyN p with
 | none => none
 | some t => if n = "int" then some (t == "int" || t == "bool") else if n = "str" \/ n = "bool" \/ n = "tuple" \/ n = "list" \/ n = "dict" then some (t == n) else none
theorem kit_ok {K : W.Frag} {t n : String} {b : Bool} (ht : t = "NoneType" \/ t = "bool" \/ t = "int" \/ t = "str" \/ t = "tuple" \/ t = "list" \/ t = "dict") (hn : n = "int" \/ n = "str" \/ n = "bool" \/ n = "tuple" \/ n = "list" \/ n = "dict")
  (e : (if n = "int" then some (t == "int" || t == "bool") else if n = "str" \/ n = "bool" \/ n = "tuple" \/ n = "list" \/ n = "dict" then some (t == n) else none) = some b) : W.kitOne K (.type t) (.type n) = some b := by
 rcases ht with rfl | rfl | rfl | rfl | rfl | rfl | rfl <;> rcases hn with rfl | rfl | rfl | rfl | rfl | rfl <;> (simp at e; subst e; rfl)
end
inductive LiesAll (K : W.Frag) (ι : List Addr) (H : Hp) : List PV -> List V -> Prop
 | nil : LiesAll K ι H [] []
 | cons {p : PV} {v : V} {ps : List PV} {vs : List V} (h : Lies K ι H p v) (t : LiesAll K ι H ps vs) : LiesAll K ι H (p :: ps) (v :: vs)
noncomputable def derefs (C : Cs) : List SV -> Option (List PV)
 | [] => some []
 | x :: xs => match deref C x, derefs C xs with
  | some p, some ps => some (p :: ps)
  | _, _ => none
theorem ZbL {K : W.Frag} {ι : List Addr} {H : Hp} {C : Cs} (cr : CR K ι H C) : ∀ {xs : List SV} {ps : List PV} {vs : List V}, RepSs K ι H xs vs -> derefs C xs = some ps -> LiesAll K ι H ps vs
 | [], ps, vs, r, e => by cases e; rw [show vs = [] from r]; exact .nil
 | x :: xs, ps, vs, r, e => by
  obtain ⟨v, w, rfl, h1, h2⟩ := r
  unfold derefs at e
  split at e
  ·rename_i p qs hp hq
   cases e
   exact .cons (h1.lies cr hp) (ZbL cr h2 hq)
  ·cases e
noncomputable def g1 (h : List PV -> Option PV) : Cs -> List SV -> Option SV := fun C xs => match derefs C xs with
 | some ps => (h ps).map .v
 | none => none
noncomputable def L1ok (K : W.Frag) (r : List V -> Hp -> VK -> Prop) (h : List PV -> Option PV) : Prop :=
 ∀ (ι : List Addr) (H : Hp) (C : Cs) (ps : List PV) (vs : List V) (z : PV) (Q : VK), CR K ι H C -> LiesAll K ι H ps vs -> h ps = some z -> (∀ v H', Fr ι H H' -> CR K ι H' C -> Rep K ι H' z v -> Q v H') -> r vs H Q
theorem L1ok.c {K : W.Frag} {r : List V -> Hp -> VK -> Prop} {h : List PV -> Option PV} (k : L1ok K r h) : C1ok K r (g1 h) := by
 intro ι H C xs vs z Q cr rs e q
 unfold g1 at e
 cases hd : derefs C xs with
 | none => rw [hd] at e; cases e
 | some ps =>
  rw [hd] at e
  cases hz : h ps with
  | none => simp [hz] at e
  | some z2 =>
   simp [hz] at e
   subst e
   exact k ι H C ps vs z2 Q cr (ZbL cr rs hd) hz q
section
variable {X : Cx} {a b e c o : Expr} {es : List Expr} {fa fb fc fo : PSt -> M SV} {fs : PSt -> M (List SV)} {pos p apos cpos : Pos} {x : Str}
noncomputable def TyV (K : W.Frag) (H : Hp) (x : V) (t : String) : Prop := match x with
 | .non => t = "NoneType"
 | .bl _ => t = "bool"
 | .int _ => t = "int"
 | .str _ => t = "str"
 | .ref a => (t = "tuple" /\ ∃ vs, SqT K H a vs) \/ (t = "list" /\ ∃ vs, SqL K H a vs) \/ (t = "dict" /\ ∃ kvs, H a = some (.dK kvs))
 | _ => False
theorem call_isi : CallR X (.builtin "isinstance") (fun xs H Q => ∃ x n t b, xs = [x, .ty n] /\ TyV X.K H x t /\ W.kitOne X.K (.type t) (.type n) = some b /\ Q (.bl b) H) := by
 intro pins s σ H xs us Q I r h
 obtain ⟨x, n, t, b, rfl, ty, e, q⟩ := h
 obtain ⟨u, v, rfl, ru, rv⟩ := Vals.two r
 cases (show v = Value.type n from rv)
 have fin : ∀ tk, EP X pins σ Q (.bool b) { s with toks := tk } := fun tk => ⟨.bl b, H, I.tok tk, rfl, q⟩
 cases x with
 | non => cases (show t = "NoneType" from ty); exact Zbt I ru (TyOf.non) e fin
 | bl y => cases (show t = "bool" from ty); exact Zbt I ru (TyOf.bl y) e fin
 | int y => cases (show t = "int" from ty); exact Zbt I ru (TyOf.int y) e fin
 | str y => cases (show t = "str" from ty); exact Zbt I ru (TyOf.str y) e fin
 | ref a =>
  cases (show u = Value.ref a from ru)
  rcases (show _ from ty) with ⟨rfl, vs, h⟩ | ⟨rfl, vs, h⟩ | ⟨rfl, kvs, h⟩
  ·obtain ⟨its, _, ⟨o, h1, h2, _⟩, _⟩ := I.tuple h
   exact W.kia_one W.kitx_tuple I.kIn ⟨o, h1, h2⟩ e (fun z => nomatch z) fin
  ·obtain ⟨its, _, ⟨o, n, h1, h2, _⟩, _⟩ := I.list h
   exact W.kia_one W.kitx_list I.kIn ⟨o, h1, h2⟩ e (fun z => nomatch z) fin
  ·exact Zbt I ru (TyOf.dK h) e fin
 | _ => exact (show False from ty).elim
noncomputable def isiH : List PV -> Option PV
 | [p, .ty n] => (isiP p n).map .bl
 | _ => none
theorem isi_ok : L1ok X.K (fun xs H Q => ∃ x n t b, xs = [x, .ty n] /\ TyV X.K H x t /\ W.kitOne X.K (.type t) (.type n) = some b /\ Q (.bl b) H) isiH := by
 intro ι H C ps vs z Q cr ls e k
 unfold isiH at e
 split at e
 ·rename_i p n
  cases ls with
  | cons l1 ls => cases ls with
   | cons l2 ls =>
    cases ls
    cases l2
    cases hb : isiP p n with
    | none => rw [hb] at e; cases e
    | some b =>
     rw [hb] at e; cases e
     unfold isiP at hb
     cases ht : tyN p with
     | none => rw [ht] at hb; cases hb
     | some t =>
      rw [ht] at hb
      dsimp only at hb
      have hn : n = "int" \/ n = "str" \/ n = "bool" \/ n = "tuple" \/ n = "list" \/ n = "dict" := by
       by_cases h1 : n = "int"
       ·exact .inl h1
       ·rw [if_neg h1] at hb
        by_cases h2 : n = "str" \/ n = "bool" \/ n = "tuple" \/ n = "list" \/ n = "dict"
        ·exact .inr h2
        ·rw [if_neg h2] at hb; cases hb
      refine ⟨_, n, t, b, rfl, ?_, kit_ok ?_ hn hb, k _ H .refl cr repBl⟩
      ·cases l1 <;> (unfold tyN at ht; first | (cases ht; rfl) | (cases ht; exact .inl ⟨rfl, _, TpR.sq (by assumption)⟩) | (cases ht; exact .inr (.inl ⟨rfl, _, by assumption⟩)) | (cases ht; exact .inr (.inr ⟨rfl, _, by assumption⟩)) | cases ht)
      ·cases p <;> (unfold tyN at ht; first | (cases ht; simp) | cases ht)
 ·cases e
theorem em_isi (hgl : Gl X "isinstance") (hm : X.mg "isinstance" = none) (hv : bootBuiltins "isinstance" = some (.builtin "isinstance")) (ha : AM X (e :: es) fs)
  (he : starEach (e :: es) X.env = (false, eval e X.env) :: starEach es X.env := by rfl) (hpl : (backTo pos (starEach es X.env)).any (·.1) = false := by rfl) : EM X (.Call (.Name "isinstance" p) (e :: es) [] pos) (mCB (g1 isiH) fs) :=
 Zcm call_isi isi_ok.c hgl hm hv ha (by decide) (by decide) he hpl
noncomputable def lenH : List PV -> Option PV
 | [.str z] => some (.int z.length)
 | [.lst xs] => some (.int xs.length)
 | [.tup xs] => some (.int xs.length)
 | _ => none
theorem len_ok : L1ok X.K (fun xs H Q => ∃ x n, xs = [x] /\ LenV X.K x H n /\ Q (.int n) H) lenH := by
 intro ι H C ps vs z Q cr ls e k
 unfold lenH at e
 split at e
 ·cases e; cases ls with
  | cons l t => cases t; obtain ⟨rfl, hz⟩ := liesS l; exact ⟨_, _, rfl, ⟨hz, rfl⟩, k _ H .refl cr repI⟩
 ·cases e; cases ls with
  | cons l t => cases t; obtain ⟨a, ws, rfl, h1, r1⟩ := liesL l; exact ⟨_, _, rfl, .inl ⟨ws, h1, r1.length⟩, k _ H .refl cr repI⟩
 ·cases e; cases ls with
  | cons l t => cases t; obtain ⟨a, ws, rfl, h1, r1⟩ := liesT l; exact ⟨_, _, rfl, .inr ⟨ws, h1.sq, r1.length⟩, k _ H .refl cr repI⟩
 ·cases e
theorem em_len (hgl : Gl X "len") (hm : X.mg "len" = none) (ha : AM X (e :: es) fs)
  (he : starEach (e :: es) X.env = (false, eval e X.env) :: starEach es X.env := by rfl) (hpl : (backTo pos (starEach es X.env)).any (·.1) = false := by rfl) : EM X (.Call (.Name "len" p) (e :: es) [] pos) (mCB (g1 lenH) fs) :=
 Zcm call_len len_ok.c hgl hm PySem.boot_len ha (by decide) (by decide) he hpl
noncomputable def maxH : List PV -> Option PV
 | [.int i, .int j] => some (.int (if j > i then j else i))
 | _ => none
theorem max_ok : L1ok X.K (fun xs H Q => ∃ i j, xs = [.int i, .int j] /\ Q (.int (if j > i then j else i)) H) maxH := by
 intro ι H C ps vs z Q cr ls e k
 unfold maxH at e
 split at e
 ·cases e; cases ls with
  | cons l t => cases t with
   | cons l2 t => cases t; cases l; cases l2; exact ⟨_, _, rfl, k _ H .refl cr repI⟩
 ·cases e
theorem em_max (hc : X.calm = true) (hgl : Gl X "max") (hm : X.mg "max" = none) (hv : bootBuiltins "max" = some (.builtin "max")) (ha : AM X (e :: es) fs)
  (he : starEach (e :: es) X.env = (false, eval e X.env) :: starEach es X.env := by rfl) (hpl : (backTo pos (starEach es X.env)).any (·.1) = false := by rfl) : EM X (.Call (.Name "max" p) (e :: es) [] pos) (mCB (g1 maxH) fs) :=
 Zcm (call_max2 hc) max_ok.c hgl hm hv ha (by decide) (by decide) he hpl
noncomputable def intH : List PV -> Option PV
 | [.int i] => some (.int i)
 | [.bl k] => some (.int (if k then 1 else 0))
 | _ => none
theorem intc_ok : L1ok X.K (fun xs H Q => (∃ i, xs = [.int i] /\ Q (.int i) H) \/ ∃ k, xs = [.bl k] /\ Q (.int (if k then 1 else 0)) H) intH := by
 intro ι H C ps vs z Q cr ls e k
 unfold intH at e
 split at e
 ·cases e; cases ls with
  | cons l t => cases t; cases l; exact .inl ⟨_, rfl, k _ H .refl cr repI⟩
 ·cases e; cases ls with
  | cons l t => cases t; cases l; exact .inr ⟨_, rfl, k _ H .refl cr repI⟩
 ·cases e
theorem em_intc (hgl : Gl X "int") (hm : X.mg "int" = none) (hv : bootBuiltins "int" = some (.type "int")) (ha : AM X (e :: es) fs)
  (he : starEach (e :: es) X.env = (false, eval e X.env) :: starEach es X.env := by rfl) (hpl : (backTo pos (starEach es X.env)).any (·.1) = false := by rfl) : EM X (.Call (.Name "int" p) (e :: es) [] pos) (mCB (g1 intH) fs) :=
 ZcB call_int1 intc_ok.c hgl hm hv ha (by decide) (by decide) he hpl
noncomputable def tupH : List PV -> Option PV
 | [.lst xs] => some (.tup xs)
 | [.tup xs] => some (.tup xs)
 | _ => none
theorem tup_ok : L1ok X.K (fun xs H Q => ∃ p ys, xs = [.ref p] /\ ((SqL X.K H p ys /\ ∀ l, H l = none -> Q (.ref l) (upd H l (.tup ys))) \/ (SqT X.K H p ys /\ Q (.ref p) H))) tupH := by
 intro ι H C ps vs z Q cr ls e k
 unfold tupH at e
 split at e
 ·cases e; cases ls with
  | cons l t => cases t; obtain ⟨a, ws, rfl, h1, r1⟩ := liesL l; exact ⟨a, ws, rfl, .inl ⟨h1, fun q hq => k _ _ (Fr.new hq) (cr.new hq) (new_tup hq r1)⟩⟩
 ·cases e; cases ls with
  | cons l t => cases t; obtain ⟨a, ws, rfl, h1, r1⟩ := liesT l; exact ⟨a, ws, rfl, .inr ⟨h1.sq, k _ H .refl cr (by unfold Rep; exact ⟨a, ws, rfl, h1, r1⟩)⟩⟩
 ·cases e
theorem em_tupc (hgl : Gl X "tuple") (hm : X.mg "tuple" = none) (hv : bootBuiltins "tuple" = some (.type "tuple")) (ha : AM X (e :: es) fs)
  (he : starEach (e :: es) X.env = (false, eval e X.env) :: starEach es X.env := by rfl) (hpl : (backTo pos (starEach es X.env)).any (·.1) = false := by rfl) : EM X (.Call (.Name "tuple" p) (e :: es) [] pos) (mCB (g1 tupH) fs) :=
 ZcB call_tuple_of tup_ok.c hgl hm hv ha (by decide) (by decide) he hpl
noncomputable def listH (C : Cs) : List SV -> Option (List PV)
 | [x] => match deref C x with
  | some (.lst xs) => some xs
  | some (.tup xs) => some xs
  | _ => none
 | _ => none
noncomputable def mList (fs : PSt -> M (List SV)) : PSt -> M (List PV) := fun ρ => bnd (fs ρ) fun xs => opM fun C => listH C xs
theorem fm_listc (hgl : Gl X "list") (hm : X.mg "list" = none) (hv : bootBuiltins "list" = some (.type "list")) (ha : AM X (e :: es) fs)
  (he : starEach (e :: es) X.env = (false, eval e X.env) :: starEach es X.env := by rfl) (hpl : (backTo pos (starEach es X.env)).any (·.1) = false := by rfl) : FM X (.Call (.Name "list" p) (e :: es) [] pos) (mList fs) :=
 PE.imp (pe_callTy call_list_of hgl hm hv ha (by decide) (by decide) he hpl) fun σ H Q h_ => by
  obtain ⟨ι, ρ, C, z, C', sr, e, q⟩ := h_
  obtain ⟨xs, C1, e1, e⟩ := Zah e
  obtain ⟨e2, rfl⟩ := ZaF e
  refine ⟨ι, ρ, C, xs, _, sr, e1, fun vs H1 f1 c1 r1 => ?_⟩
  unfold listH at e2
  split at e2
  ·rename_i x
   obtain ⟨v, w, rfl, r1, hw⟩ := r1
   cases (show w = [] from hw)
   split at e2
   ·rename_i hd
    cases e2
    obtain ⟨a, ws, rfl, h1, r2⟩ := liesL (r1.lies c1 hd)
    exact ⟨a, ws, rfl, .inl h1, fun l hl => q l ws H1 f1 c1 hl r2⟩
   ·rename_i hd
    cases e2
    obtain ⟨a, ws, rfl, h1, r2⟩ := liesT (r1.lies c1 hd)
    exact ⟨a, ws, rfl, .inr h1.sq, fun l hl => q l ws H1 f1 c1 hl r2⟩
   ·cases e2
  ·cases e2
noncomputable def boolsP : List PV -> Option (List Bool)
 | [] => some []
 | .bl b :: r => (boolsP r).map (b :: ·)
 | _ :: _ => none
theorem bools_rep {K : W.Frag} {ι : List Addr} {H : Hp} : ∀ {ps : List PV} {vs : List V} {bs : List Bool}, Reps K ι H ps vs -> boolsP ps = some bs -> vs = bs.map V.bl
 | [], vs, bs, r, e => by cases e; rw [r.inv0]; rfl
 | p :: ps, vs, bs, r, e => by
  obtain ⟨v, w, rfl, h1, h2⟩ := r.inv
  cases p with
  | bl b =>
   unfold boolsP at e
   cases hb : boolsP ps with
   | none => rw [hb] at e; cases e
   | some cs =>
    rw [hb] at e; cases e
    have h1 : v = .bl b := by unfold Rep at h1; exact h1
    rw [h1, bools_rep h2 hb]; rfl
  | _ => cases e
noncomputable def allH : List PV -> Option PV
 | [.lst xs] => (boolsP xs).map fun bs => .bl (bs.all id)
 | _ => none
theorem all_ok : L1ok X.K (fun xs H Q => ∃ (a : Addr) (bs : List Bool), xs = [.ref a] /\ SqL X.K H a (bs.map V.bl) /\ Q (.bl (bs.all id)) H) allH := by
 intro ι H C ps vs z Q cr ls e k
 unfold allH at e
 split at e
 ·rename_i xs
  cases ls with
  | cons l t =>
   cases t
   obtain ⟨a, ws, rfl, h1, r1⟩ := liesL l
   cases hb : boolsP xs with
   | none => rw [hb] at e; cases e
   | some bs =>
    rw [hb] at e; cases e
    exact ⟨a, bs, rfl, by rw [← bools_rep r1 hb]; exact h1, k _ H .refl cr repBl⟩
 ·cases e
theorem em_all (hc : X.calm = true) (hgl : Gl X "all") (hm : X.mg "all" = none) (hv : bootBuiltins "all" = some (.builtin "all")) (ha : AM X (e :: es) fs)
  (he : starEach (e :: es) X.env = (false, eval e X.env) :: starEach es X.env := by rfl) (hpl : (backTo pos (starEach es X.env)).any (·.1) = false := by rfl) : EM X (.Call (.Name "all" p) (e :: es) [] pos) (mCB (g1 allH) fs) :=
 Zcm (call_all_bl hc) all_ok.c hgl hm hv ha (by decide) (by decide) he hpl
end
section
variable {X : Cx} {a b e c o i : Expr} {es : List Expr} {fa fb fc fo fi fv : PSt -> M SV} {fs : PSt -> M (List SV)} {pos p apos cpos : Pos} {x : Str}
noncomputable def isLst (x : SV) : M Unit := fun C => match x with
 | .c k => match C[k]? with
  | some (.lst _) => some ((), C)
  | _ => none
 | _ => none
theorem isLst_some {x : SV} {C C2 : Cs} (h : isLst x C = some ((), C2)) : C2 = C /\ ∃ k ps, x = .c k /\ C[k]? = some (.lst ps) := by
 unfold isLst at h
 split at h
 ·split at h
  ·rename_i k _ ps e; cases h; exact ⟨rfl, k, ps, rfl, e⟩
  ·cases h
 ·cases h
noncomputable def appC (x : SV) (ys : List SV) : M SV := fun C => match x, ys with
 | .c k, [.v p] => match C[k]? with
  | some (.lst ps) => if ps.length < 100000 then some (.v .non, C.set k (.lst (ps ++ [p]))) else none
  | _ => none
 | _, _ => none
theorem appC_some {x : SV} {ys : List SV} {C C2 : Cs} {r : SV} (h : appC x ys C = some (r, C2)) : ∃ k p ps, x = .c k /\ ys = [.v p] /\ C[k]? = some (.lst ps) /\ ps.length < 100000 /\ r = .v .non /\ C2 = C.set k (.lst (ps ++ [p])) := by
 unfold appC at h
 split at h
 ·split at h
  ·split at h
   ·cases h; exact ⟨_, _, _, rfl, rfl, by assumption, by assumption, rfl, rfl⟩
   ·cases h
  ·cases h
 ·cases h
noncomputable def mApp (fo : PSt -> M SV) (fs : PSt -> M (List SV)) : PSt -> M SV := fun ρ => bnd (fo ρ) fun x => bnd (isLst x) fun _ => bnd (fs ρ) fun ys => appC x ys
theorem cell_lst {K : W.Frag} {ι : List Addr} {H : Hp} {C : Cs} {k : Nat} {a : Addr} {ps : List PV} (cr : CR K ι H C) (hk : ι[k]? = some a) (hc : C[k]? = some (.lst ps)) : ∃ vs, H a = some (.lst vs) /\ Reps K ι H ps vs := cr.ok k a _ hk hc
theorem cr_set {K : W.Frag} {ι : List Addr} {H : Hp} {C : Cs} {k : Nat} {a : Addr} {ps : List PV} {vs : List V} (cr : CR K ι H C) (hk : ι[k]? = some a) (r : Reps K ι H ps vs) : CR K ι (upd H a (.lst vs)) (C.set k (.lst ps)) /\ Fr ι H (upd H a (.lst vs)) := by
 have fr : Fr ι H (upd H a (.lst vs)) := fun b u n e => by
  rw [Zan (fun z => n (by rw [z]; exact List.mem_of_getElem? hk))]; exact e
 exact ⟨cr.put hk ⟨vs, ZaW, Reps.mono cr fr _ _ r⟩, fr⟩
theorem em_append (ho : EM X o fo) (ha : AM X (e :: es) fs) (hbase : attributeBase o "append" X.env (eval o X.env) = eval o X.env := by rfl)
  (hfew : ((backTo cpos (starEach (e :: es) X.env)).all (fun x => !x.1) && (backToKw cpos (keywordEach [] X.env)).all (fun x => x.1.isSome)
   && decide ((e :: es).length + ([] : List Keyword).length + (if ([] : List Keyword).isEmpty then 0 else 1) < 30)) = true := by rfl)
  (hline : (apos.endLine == cpos.line) = true := by rfl) (hs : starEach (e :: es) X.env = (false, eval e X.env) :: starEach es X.env := by rfl) (hplain : (backTo cpos (starEach es X.env)).any (·.1) = false := by rfl) :
  EM X (.Call (.Attribute o "append" apos) (e :: es) [] cpos) (mApp fo fs) :=
 PE.imp (pe_bm PySem.F.plainAttrs_list PySem.F.slot_list_append PySem.F.type_list_append mt_append ho ha hbase hfew hline hs hplain) fun σ H Q h_ => by
  obtain ⟨ι, ρ, C, z, C', sr, e, q⟩ := h_
  obtain ⟨x, C1, e1, g1⟩ := Zah e
  obtain ⟨u, C2, e2, g2⟩ := Zah g1
  obtain ⟨ys, C3, e3, g3⟩ := Zah g2
  obtain ⟨hC, k, ps0, hx, hc0⟩ := isLst_some e2
  obtain ⟨k', p', ps, hx', hy, hc, hl, hr, hC'⟩ := appC_some g3
  clear e g1 g2 g3 e2
  subst hC hx hr hC' hy
  cases hx'
  refine ⟨ι, ρ, C, _, _, sr, e1, fun v H1 f1 c1 r1 => ?_⟩
  obtain ⟨a, rfl, hk⟩ := r1
  obtain ⟨vs0, h0, _⟩ := cell_lst c1 hk hc0
  refine ⟨.inl ⟨rfl, _, .of h0⟩, ι, ρ, _, _, C3, sr.step f1 c1, e3, fun ws H2 f2 c2 r2 => ?_⟩
  obtain ⟨w, wr, rfl, rw1, hw⟩ := r2
  cases (show wr = [] from hw)
  obtain ⟨vs, h1, rv⟩ := cell_lst c2 hk hc
  obtain ⟨c4, f4⟩ := cr_set c2 hk (rv.append (.cons rw1 .nil))
  exact ⟨a, vs, w, rfl, rfl, h1, by rw [← rv.length]; exact Nat.lt_of_lt_of_le hl (k100000 (Nat.le_refl _)), q _ _ (f1.trans (f2.trans f4)) c4 (show Rep _ _ _ _ _ from repN)⟩
noncomputable def setC (v o i : SV) (ρ : PSt) : M PF := fun C => match o, i, v with
 | .c k, .v (.int n), .v p => match C[k]? with
  | some (.lst ps) => match ixN ps.length n with
   | some j => some (.nx ρ, C.set k (.lst (ps.set j p)))
   | none => none
  | _ => none
 | _, _, _ => none
theorem setC_some {v o i : SV} {ρ : PSt} {C C2 : Cs} {fl : PF} (h : setC v o i ρ C = some (fl, C2)) : ∃ k n p ps j, o = .c k /\ i = .v (.int n) /\ v = .v p /\ C[k]? = some (.lst ps) /\ ixN ps.length n = some j /\ fl = .nx ρ /\ C2 = C.set k (.lst (ps.set j p)) := by
 unfold setC at h
 split at h
 ·split at h
  ·split at h
   ·cases h; exact ⟨_, _, _, _, _, rfl, rfl, rfl, by assumption, by assumption, rfl, rfl⟩
   ·cases h
  ·cases h
 ·cases h
noncomputable def mSetIx (fv fo fi : PSt -> M SV) : PSt -> M PF := fun ρ => bnd (fv ρ) fun v => bnd (fo ρ) fun o => bnd (fi ρ) fun i => setC v o i ρ
theorem sm_setix {spos : Pos} (hv : EM X e fv) (ho : EM X o fo) (hi : EM X i fi)
  (ha : ∀ v, assign (.Subscript o i spos) X.env v = (do
   let ov ← holding [v] (eval o X.env)
   let iv ← holding [v, ov] (eval i X.env)
   standAt spos
   holding [v, ov, iv] (setItem ov iv v)
   release [v, ov, iv] []) := by intro _; rfl)
  (hs : swapsWithSole [.Subscript o i spos] e pos.line X.env = pure false := by rfl) (hw : swappedStores [.Subscript o i spos] e X.env = pure none := by rfl)
  (h1 : (assignEach [.Subscript o i spos] X.env).map (·.2) = [assign (.Subscript o i spos) X.env] := by rfl) : SM X (.Assign [.Subscript o i spos] e pos) (mSetIx fv fo fi) :=
 PS.imp (ps_asg hv (pg_sub ho hi set_list ha) hs hw h1) fun D σ H h_ => by
  obtain ⟨ι, ρ, C, fl, C', sr, e, d⟩ := h_
  obtain ⟨v, C1, e1, g1⟩ := Zah e
  obtain ⟨o, C2, e2, g2⟩ := Zah g1
  obtain ⟨i, C3, e3, g3⟩ := Zah g2
  obtain ⟨k, n, p', ps, j, ho, hi, hv, hc, hj, hf, hC⟩ := setC_some g3
  clear e g1 g2 g3
  subst ho hi hv hf hC
  refine ⟨ι, ρ, C, _, C1, sr, e1, fun x H1 f1 c1 r1 => ⟨ι, ρ, C1, _, C2, sr.step f1 c1, e2, fun y H2 f2 c2 r2 => ⟨ι, ρ, C2, _, C3, (sr.step f1 c1).step f2 c2, e3, fun w H3 f3 c3 r3 => ?_⟩⟩⟩
  obtain ⟨a, rfl, hk⟩ := r2
  have r3 : w = .int n := by unfold RepS Rep at r3; exact r3
  obtain ⟨vs, h1, rv⟩ := cell_lst c3 hk hc
  have r1' : Rep X.K ι H3 p' x := Rep.mono c2 f3 _ _ (Rep.mono c1 f2 _ _ r1)
  obtain ⟨c4, f4⟩ := cr_set c3 hk (rv.set j r1')
  refine ⟨a, vs, n, j, rfl, r3, h1, by rw [← rv.length]; exact hj, ?_⟩
  exact Done.nx0 ((((sr.step f1 c1).step f2 c2).step f3 c3).step f4 c4) (d.fr c4 (f1.trans (f2.trans (f3.trans f4))))
noncomputable def itemsP : SV -> Option (List PV)
 | .v (.lst xs) => some xs
 | .v (.tup xs) => some xs
 | .v (.str z) => some (z.cps.toList.map fun c => .str ⟨#[c]⟩)
 | _ => none
noncomputable def mItems (f : PSt -> M SV) : PSt -> M (List PV) := fun ρ => bnd (f ρ) fun x => opM fun _ => itemsP x
theorem iter_list {K : W.Frag} {ι : List Addr} {H : Hp} {C : Cs} {a : Addr} {xs : List PV} {vs : List V} (cr : CR K ι H C) (h : LsR K ι H a vs) (r : Reps K ι H xs vs) : Iter K ι H xs (Itl K a) := by
 have keep : ∀ ι2 H2, Ex ι ι2 H H2 -> SqL K H2 a vs := fun ι2 H2 x => by
  rcases h with ⟨n, q | ⟨o, q⟩⟩ | q
  ·exact .inl (.inl (x.out _ _ n q).2)
  ·exact .inl (.inr ⟨o, (x.out _ _ n q).2⟩)
  ·exact .inr q
 refine ⟨fun ι2 H2 C2 x c i hi => ?_, fun ι2 H2 C2 x c i v H3 hi y => ?_, fun ι2 H2 C2 x c => ⟨vs, keep ι2 H2 x, by rw [r.length]; exact Nat.le_refl _⟩⟩
 ·obtain ⟨v, e, _⟩ := r.get (List.getElem?_eq_getElem hi)
  exact ⟨vs, v, keep ι2 H2 x, e⟩
 ·obtain ⟨rfl, y⟩ := y
  obtain ⟨p, hp, rp⟩ := r.get' (y vs (keep ι2 _ x))
  exact ⟨fun b o e => e, p, hp, Rep.tr cr x.out p v rp⟩
theorem iter_tup {K : W.Frag} {ι : List Addr} {H : Hp} {C : Cs} {a : Addr} {xs : List PV} {vs : List V} (cr : CR K ι H C) (h : SqT K H a vs) (r : Reps K ι H xs vs) : Iter K ι H xs (Itt K a) := by
 have keep : ∀ ι2 H2, Ex ι ι2 H H2 -> SqT K H2 a vs := fun ι2 H2 x => by
  rcases h with (q | ⟨o, q⟩) | q
  ·exact .inl (.inl (x.out _ _ (cr.notup q (fun _ e => nomatch e) fun _ e => nomatch e) q).2)
  ·exact .inl (.inr ⟨o, (x.out _ _ (cr.notup q (fun _ e => nomatch e) fun _ e => nomatch e) q).2⟩)
  ·exact .inr q
 refine ⟨fun ι2 H2 C2 x c i hi => ?_, fun ι2 H2 C2 x c i v H3 hi y => ?_, fun ι2 H2 C2 x c => ⟨vs, keep ι2 H2 x, by rw [r.length]; exact Nat.le_refl _⟩⟩
 ·obtain ⟨v, e, _⟩ := r.get (List.getElem?_eq_getElem hi)
  exact ⟨vs, v, keep ι2 H2 x, e⟩
 ·obtain ⟨rfl, y⟩ := y
  obtain ⟨p, hp, rp⟩ := r.get' (y vs (keep ι2 _ x))
  exact ⟨fun b o e => e, p, hp, Rep.tr cr x.out p v rp⟩
theorem iter_str {K : W.Frag} {ι : List Addr} {H : Hp} {z : Str} : Iter K ι H (z.cps.toList.map fun c => .str ⟨#[c]⟩) (Its z) := by
 refine ⟨fun ι2 H2 C2 x c i hi => by show i < z.cps.size; simpa using hi, fun ι2 H2 C2 x c i v H3 hi y => ?_, fun ι2 H2 C2 x c => by show _ = _; simp⟩
 obtain ⟨rfl, d, hd, rfl⟩ := y
 refine ⟨fun b o e => e, .str ⟨#[d]⟩, by simp [hd], ?_⟩
 exact repS (by show 1 <= sizeLine; rw [sizeLine_eq]; decide)
theorem ZcT {K : W.Frag} {ι : List Addr} {H : Hp} {lo : Int} {n : Nat} : Iter K ι H ((List.range n).map fun (k : Nat) => .int (lo + k)) (Itr lo n) := by
 refine ⟨fun ι2 H2 C2 x c i hi => by show i < n; simpa using hi, fun ι2 H2 C2 x c i v H3 hi y => ?_, fun ι2 H2 C2 x c => by show n <= _; simp⟩
 obtain ⟨rfl, rfl⟩ := y
 have hi' : i < n := by simpa using hi
 exact ⟨fun b o e => e, .int (lo + i), by simp [hi'], repI⟩
variable {tg l : Expr}
theorem im_val (hl : EM X l fa) : IM X tg l (mItems fa) := by
 intro pins s σ H R I h
 obtain ⟨ι, ρ, C, xs, C', sr, e, q⟩ := h
 obtain ⟨x, C1, e1, e⟩ := Zah e
 obtain ⟨e2, rfl⟩ := ZaF e
 refine thn (hl pins s σ H (fun v H1 => Fr ι H H1 /\ CR X.K ι H1 C' /\ RepS X.K ι H1 x v) I ⟨ι, ρ, C, x, C', sr, e1, fun v H1 f1 c1 r1 => ⟨f1, c1, r1⟩⟩) fun v s1 h_ => ?_
 obtain ⟨y, H1, I1, r1, f1, c1, rx⟩ := h_
 have fp : ∀ b ∈ [s1.heap.objs.size], FpOk X pins H1 b := fun b hb => by
  have e : b = s1.heap.objs.size := by simpa using hb
  subst e
  exact I1.fpOk (Nat.le_refl _) (I1.hok.fresh (Nat.le_refl _))
 unfold itemsP at e2
 split at e2
 ·cases e2
  have rx : Rep X.K ι H1 (.lst _) y := rx
  unfold Rep at rx
  obtain ⟨a, vs, rfl, hq, rv⟩ := rx
  cases r1
  obtain ⟨its, _, p, hz⟩ := I1.list hq.sq
  refine wpAny_pyIter_list p.isList ?_
  exact ⟨s1.heap.objs.size, [s1.heap.objs.size], _, _, H1, rfl, I1.kept (t' := s1.toks) fun b o e => Heap.get?_push_of_some _ e, turn_list a _, ⟨_, Heap.get?_push_size _ rfl, rfl, rfl⟩, fp, q _ H1 f1 c1 (iter_list c1 hq rv)⟩
 ·cases e2
  have rx : Rep X.K ι H1 (.tup _) y := rx
  unfold Rep at rx
  obtain ⟨a, vs, rfl, hq, rv⟩ := rx
  cases r1
  obtain ⟨its, _, p, hz⟩ := I1.tuple hq.sq
  refine wpAny_pyIter_tuple (show s1.heap.IsTuple a its.toArray from p) ?_
  exact ⟨s1.heap.objs.size, [s1.heap.objs.size], _, _, H1, rfl, I1.kept (t' := s1.toks) fun b o e => Heap.get?_push_of_some _ e, turn_tuple a _, ⟨_, Heap.get?_push_size _ rfl, rfl, rfl⟩, fp, q _ H1 f1 c1 (iter_tup c1 hq.sq rv)⟩
 ·cases e2
  have rx : Rep X.K ι H1 (.str _) y := rx
  rename Str => z
  unfold Rep at rx
  obtain ⟨rfl, hz⟩ := rx
  obtain ⟨t, rfl⟩ := r1
  cases ha : z.cps.all (· < 128)
  ·exact wpAny_pyIter_wide ha ⟨s1.heap.objs.size, [s1.heap.objs.size], _, _, H1, rfl, I1.kept (t' := s1.toks) fun b o e => Heap.get?_push_of_some _ e, turn_str (t := t) (.inr rfl), ⟨_, Heap.get?_push_size _ rfl, rfl, rfl⟩, fp, q _ H1 f1 c1 iter_str⟩
  ·exact wpAny_pyIter_ascii ha ⟨s1.heap.objs.size, [s1.heap.objs.size], _, _, H1, rfl, I1.kept (t' := s1.toks) fun b o e => Heap.get?_push_of_some _ e, turn_str (t := t) (.inl rfl), ⟨_, Heap.get?_push_size _ rfl, rfl, rfl⟩, fp, q _ H1 f1 c1 iter_str⟩
 ·cases e2
noncomputable def rng1P : List SV -> Option (List PV)
 | [.v (.int j)] => if -1000000 <= j /\ j <= 1000000 then some ((List.range j.toNat).map fun (k : Nat) => .int (0 + k)) else none
 | _ => none
noncomputable def rng2P : List SV -> Option (List PV)
 | [.v (.int i), .v (.int j)] => if (-1000000 <= i /\ i <= 1000000) /\ (-1000000 <= j /\ j <= 1000000) then some ((List.range (j - i).toNat).map fun (k : Nat) => .int (i + k)) else none
 | _ => none
noncomputable def mRange1 (fs : PSt -> M (List SV)) : PSt -> M (List PV) := fun ρ => bnd (fs ρ) fun xs => opM fun _ => rng1P xs
noncomputable def mRange2 (fs : PSt -> M (List SV)) : PSt -> M (List PV) := fun ρ => bnd (fs ρ) fun xs => opM fun _ => rng2P xs
theorem rng1_some {xs : List SV} {ys : List PV} (h : rng1P xs = some ys) : ∃ j, xs = [.v (.int j)] /\ (-1000000 <= j /\ j <= 1000000) /\ ys = (List.range j.toNat).map fun (k : Nat) => .int (0 + k) := by
 unfold rng1P at h
 split at h
 ·split at h
  ·cases h; exact ⟨_, rfl, by assumption, rfl⟩
  ·cases h
 ·cases h
theorem rng2_some {xs : List SV} {ys : List PV} (h : rng2P xs = some ys) : ∃ i j, xs = [.v (.int i), .v (.int j)] /\ ((-1000000 <= i /\ i <= 1000000) /\ (-1000000 <= j /\ j <= 1000000)) /\ ys = (List.range (j - i).toNat).map fun (k : Nat) => .int (i + k) := by
 unfold rng2P at h
 split at h
 ·split at h
  ·cases h; exact ⟨_, _, rfl, by assumption, rfl⟩
  ·cases h
 ·cases h
theorem im_range1 (hg : Gl X "range") (hm : X.mg "range" = none) (ha : AM X [a] fs) (hs : starEach [a] X.env = [(false, eval a X.env)] := by rfl) : IM X tg (.Call (.Name "range" p) [a] [] pos) (mRange1 fs) :=
 PI.imp (pi_range1 hg hm ha hs) fun σ H R h_ => by
  obtain ⟨ι, ρ, C, xs, C', sr, e, q⟩ := h_
  obtain ⟨zs, C1, e1, g1⟩ := Zah e
  obtain ⟨e2, hC⟩ := ZaF g1
  subst hC
  refine ⟨ι, ρ, C, zs, _, sr, e1, fun vs H1 f1 c1 r1 => ?_⟩
  obtain ⟨j, rfl, h, rfl⟩ := rng1_some e2
  obtain ⟨v, w, rfl, r1, hw⟩ := r1
  cases (show w = [] from hw)
  have r1 : v = .int j := by unfold RepS Rep at r1; exact r1
  subst r1
  exact ⟨j, rfl, by lia, by lia, q _ H1 f1 c1 ZcT⟩
theorem im_range2 (hg : Gl X "range") (hm : X.mg "range" = none) (ha : AM X [a, b] fs) (hs : starEach [a, b] X.env = [(false, eval a X.env), (false, eval b X.env)] := by rfl) (hs2 : starEach [b] X.env = [(false, eval b X.env)] := by rfl) : IM X tg (.Call (.Name "range" p) [a, b] [] pos) (mRange2 fs) :=
 PI.imp (pi_range2 hg hm ha hs hs2) fun σ H R h_ => by
  obtain ⟨ι, ρ, C, xs, C', sr, e, q⟩ := h_
  obtain ⟨zs, C1, e1, g1⟩ := Zah e
  obtain ⟨e2, hC⟩ := ZaF g1
  subst hC
  refine ⟨ι, ρ, C, zs, _, sr, e1, fun vs H1 f1 c1 r1 => ?_⟩
  obtain ⟨i, j, rfl, h, rfl⟩ := rng2_some e2
  obtain ⟨v, w, rfl, r1, hw⟩ := r1
  obtain ⟨v2, w2, rfl, r2, hw⟩ := hw
  cases (show w2 = [] from hw)
  have r1 : v = .int i := by unfold RepS Rep at r1; exact r1
  have r2 : v2 = .int j := by unfold RepS Rep at r2; exact r2
  subst r1 r2
  exact ⟨i, j, rfl, ⟨by lia, by lia, by lia, by lia⟩, q _ H1 f1 c1 ZcT⟩
end
section
variable {prog : Program} {w : World} {A : Around} {E : Value -> Shared -> Prop} {s : Shared}
theorem ZbK {t sl : Addr} {items : Array Value} {vl vu : Value} {lo hi : Option Int} {Q : Value -> Shared -> Prop} (ht : IsTup s.heap t items) (hs : s.heap.IsSliceOf sl vl vu .none) (pl : IsPart vl lo) (pu : IsPart vu hi)
  (hw : HT.sIx items.size 0 lo = 0 /\ HT.sIx items.size items.size hi = items.size) (h : Q (.ref t) s) : wpAny (model prog w) A (getItem (.ref t) (.ref sl)) Q E s := by
 obtain ⟨os, hos, hcs, hds⟩ := id hs
 have hTs : s.TypeIs (.ref sl) "slice" := ⟨os, hos, hcs⟩
 unfold getItem
 try with_reducible refine wpAny_holding ?_
 first | refine wpAny_bind (wpAny_pure ?_) | skip
 refine wpAny_bind (wpAny_sequenceKey ht.typeIs (by decide) ?_)
 refine wpAny_bind (wpAny_callSpecial?_slot (name := Str.ofString "__getitem__") ht.typeIs PyProof.Rows.slot_tuple_getitem
  (wpAny_call_entry PyProof.Rows.slot_tuple_getitem ht.typeIs entry_tuple_getitem ?_ (args_tuple_getitem _ _)))
 show wpAny _ _ (Builtin.Tuple.tupleItemsOf (.ref t) >>= _) _ _ s
 refine wpAny_bind (tupleItemsOf_ ht ?_)
 refine wpAny_bind (wpAny_typeOf hTs ?_)
 rw [if_pos (by decide)]
 refine wpAny_bind (HT.sliceApplied_gen hs pl pu ?_)
 have hyes : (((HT.sIx items.size 0 lo : Nat) : Int) == 0 && (1 : Int) == 1 && (HT.sIx items.size items.size hi - HT.sIx items.size 0 lo) == items.size) = true := by
  rw [hw.1, hw.2]; simp
 show wpAny _ _ (if (((HT.sIx items.size 0 lo : Nat) : Int) == 0 && (1 : Int) == 1 && (HT.sIx items.size items.size hi - HT.sIx items.size 0 lo) == items.size) = true then _ else _) _ _ s
 rw [if_pos hyes]
 unfold Builtin.Tuple.tupleIsExact
 refine wpAny_bind (wpAny_bind (wpAny_typeOf ht.typeIs (wpAny_pure ?_)))
 rw [if_pos (by decide)]
 refine wpAny_bind (wpAny_rule ?_)
 exact wpAny_bind (wpAny_pure (wpAny_pure ⟨_, rfl, wpAny_pure h⟩))
end
noncomputable def rSlTW (K : W.Frag) : V -> Option Int -> Option Int -> Hp -> VK -> Prop := fun x lo hi H Q => ∃ a xs, x = .ref a /\ SqT K H a xs /\ (HT.sIx xs.length 0 lo = 0 /\ HT.sIx xs.length xs.length hi = xs.length) /\ Q (.ref a) H
noncomputable def tMO (K : W.Frag) (f : PSt -> M (Option Int)) : TO := fun σ H Q => ∃ ι ρ C r C', SR K ι H ρ σ C /\ f ρ C = some (r, C') /\ ∀ H', Fr ι H H' -> CR K ι H' C' -> Q r H'
noncomputable def OM (X : Cx) (e : Option Expr) (f : PSt -> M (Option Int)) : Prop := PO X e (tMO X.K f)
noncomputable def oNo : PSt -> M (Option Int) := fun _ => ret none
noncomputable def intD (C : Cs) (x : SV) : Option (Option Int) := match deref C x with
 | some (.int i) => some (some i)
 | _ => none
noncomputable def oPart (f : PSt -> M SV) : PSt -> M (Option Int) := fun ρ => bnd (f ρ) fun x => opM fun C => intD C x
noncomputable def cutP (xs : List PV) (lo hi : Option Int) : List PV := (xs.drop (HT.sIx xs.length 0 lo)).take (HT.sIx xs.length xs.length hi - HT.sIx xs.length 0 lo)
noncomputable def sliceP (lo hi : Option Int) : PV -> Option PV
 | .lst xs => some (.lst (cutP xs lo hi))
 | .tup xs => some (.tup (cutP xs lo hi))
 | _ => none
noncomputable def sliceD (C : Cs) (x : SV) (lo hi : Option Int) : Option SV := match deref C x with
 | some p => (sliceP lo hi p).map .v
 | none => none
noncomputable def mSlice (f : PSt -> M SV) (l h : PSt -> M (Option Int)) : PSt -> M SV := fun ρ => bnd (f ρ) fun x => bnd (l ρ) fun lo => bnd (h ρ) fun hi => opM fun C => sliceD C x lo hi
theorem reps_cut {K : W.Frag} {ι : List Addr} {H : Hp} {ps : List PV} {vs : List V} (r : Reps K ι H ps vs) (lo hi : Option Int) : Reps K ι H (cutP ps lo hi) (cutV vs lo hi) := by
 unfold cutP cutV
 rw [r.length]
 exact (r.drop _).take _
theorem sliceD_some {C : Cs} {x z : SV} {lo hi : Option Int} (h : sliceD C x lo hi = some z) : (∃ xs, deref C x = some (.lst xs) /\ z = .v (.lst (cutP xs lo hi))) \/ ∃ xs, deref C x = some (.tup xs) /\ z = .v (.tup (cutP xs lo hi)) := by
 unfold sliceD at h
 split at h
 ·rename_i p hd
  cases p with
  | lst xs => cases h; exact .inl ⟨xs, hd, rfl⟩
  | tup xs => cases h; exact .inr ⟨xs, hd, rfl⟩
  | _ => cases h
 ·cases h
section
variable {X : Cx} {a b e c o i : Expr} {es : List Expr} {fa fb fc fo fi fv : PSt -> M SV} {fs : PSt -> M (List SV)} {pos p apos cpos p2 : Pos} {x : Str} {lo hi : Option Expr} {l h : PSt -> M (Option Int)}
theorem PO.imp {e : Option Expr} {t t' : TO} (h : PO X e t) (k : ∀ σ H Q, t' σ H Q -> t σ H Q) : PO X e t' := fun pins s σ H Q I q => h pins s σ H Q I (k σ H Q q)
theorem om_none : OM X none oNo := PO.imp po_none fun σ H Q h_ => by obtain ⟨ι, ρ, C, r, C', sr, e, q⟩ := h_; cases e; exact q H .refl sr.cr
theorem om_some (he : EM X e fa) : OM X (some e) (oPart fa) := PO.imp (po_some he) fun σ H Q h_ => by
 obtain ⟨ι, ρ, C, r, C', sr, e, q⟩ := h_
 obtain ⟨z, C1, e1, g1⟩ := Zah e
 obtain ⟨e2, hC⟩ := ZaF g1
 subst hC
 refine ⟨ι, ρ, C, z, _, sr, e1, fun v H1 f1 c1 r1 => ?_⟩
 unfold intD at e2
 split at e2
 ·rename_i j hd
  cases e2
  have l := r1.lies c1 hd
  cases l
  exact ⟨j, rfl, q H1 f1 c1⟩
 ·cases e2
theorem sl_tupW : SlR X (rSlTW X.K) := by
 intro pins s σ H x v vl vu lo hi sl Q I rx hs pl pu h
 obtain ⟨a, xs, rfl, hx, hw, q⟩ := h
 cases rx
 obtain ⟨its, r, ht, hz⟩ := I.tuple hx
 have hlen : its.toArray.size = xs.length := by rw [List.size_toArray]; exact r.length.symm
 exact ⟨"tuple", _, PyProof.Rows.slot_tuple_getitem.lookup, ht.typeIs, ZbK ht hs pl pu (by rw [hlen]; exact hw) ⟨.ref a, H, I, rfl, q⟩⟩
theorem cut_whole {xs : List PV} {lo hi : Option Int} (h : HT.sIx xs.length 0 lo = 0 /\ HT.sIx xs.length xs.length hi = xs.length) : cutP xs lo hi = xs := by
 unfold cutP; rw [h.1, h.2]; simp
theorem em_slice (he : EM X e fa) (hl : OM X lo l) (hh : OM X hi h) : EM X (.Subscript e (.Slice lo hi none p2) pos) (mSlice fa l h) :=
 PE.imp (pe_slice (SlR.or sl_list (SlR.or sl_tup sl_tupW)) he hl hh) fun σ H Q h_ => by
  obtain ⟨ι, ρ, C, z, C', sr, e, q⟩ := h_
  obtain ⟨x, C1, e1, g1⟩ := Zah e
  obtain ⟨i, C2, e2, g2⟩ := Zah g1
  obtain ⟨j, C3, e3, g3⟩ := Zah g2
  obtain ⟨e4, hC⟩ := ZaF g3
  subst hC
  clear e g1 g2 g3
  refine ⟨ι, ρ, C, x, C1, sr, e1, fun v H1 f1 c1 r1 => ⟨ι, ρ, C1, i, C2, sr.step f1 c1, e2, fun H2 f2 c2 => ⟨ι, ρ, C2, j, _, (sr.step f1 c1).step f2 c2, e3, fun H3 f3 c3 => ?_⟩⟩⟩
  have fr := f1.trans (f2.trans f3)
  have r3 := (r1.mono c1 f2).mono c2 f3
  rcases sliceD_some e4 with ⟨xs, hd, rfl⟩ | ⟨xs, hd, rfl⟩
  ·obtain ⟨a, vs, rfl, h1, rv⟩ := liesL (r3.lies c3 hd)
   exact .inl ⟨a, vs, rfl, h1, fun p hp => q _ _ (fr.trans (Fr.new hp)) (c3.new hp) (show Rep _ _ _ _ _ from new_val c3 hp (reps_cut rv i j))⟩
  ·obtain ⟨a, vs, rfl, h1, rv⟩ := liesT (r3.lies c3 hd)
   by_cases hw : HT.sIx vs.length 0 i = 0 /\ HT.sIx vs.length vs.length j = vs.length
   ·refine .inr (.inr ⟨a, vs, rfl, h1.sq, hw, ?_⟩)
    rw [← rv.length] at hw
    rw [cut_whole hw] at q
    exact q _ H3 fr c3 (show Rep _ _ _ _ _ by unfold Rep; exact ⟨a, vs, rfl, h1, rv⟩)
   ·exact .inr (.inl ⟨a, vs, rfl, h1.sq, hw, fun p hp => q _ _ (fr.trans (Fr.new hp)) (c3.new hp) (show Rep _ _ _ _ _ from new_tup hp (reps_cut rv i j))⟩)
noncomputable def flatP : PV -> Bool
 | .non => true
 | .bl _ => true
 | .int _ => true
 | .str _ => true
 | _ => false
noncomputable def eqF : PV -> PV -> Bool
 | .non, .non => true
 | .bl a, .bl b => a == b
 | .bl a, .int b => (if a then 1 else 0) == b
 | .int a, .bl b => a == (if b then 1 else 0)
 | .int a, .int b => a == b
 | .str a, .str b => a == b
 | _, _ => false
noncomputable def strIn (i j : Str) : Bool := !(Builtin.Str.occurrences j i 0 j.length 1).isEmpty
noncomputable def inB (x : PV) : PV -> Option Bool
 | .str j => match x with
  | .str i => some (strIn i j)
  | _ => none
 | .lst xs => if flatP x && xs.all flatP then some (xs.any fun y => eqF y x) else none
 | .tup xs => if flatP x && xs.all flatP then some (xs.any fun y => eqF y x) else none
 | _ => none
noncomputable def inP (x y : PV) : Option PV := (inB x y).map .bl
theorem Zcl {K : W.Frag} {ι : List Addr} {H : Hp} {q : PV} {v : V} (r : Lies K ι H q v) (h : flatP q = true) : flatV v = true := by cases r <;> first | rfl | cases h
theorem eqF_rep {K : W.Frag} {ι : List Addr} {H : Hp} {q r : PV} {v w : V} (h1 : Lies K ι H q v) (h2 : Lies K ι H r w) (f1 : flatP q = true) (f2 : flatP r = true) : eqV v w = eqF q r := by
 cases h1 <;> cases h2 <;> first | rfl | cases f1 | cases f2
theorem ZbU {K : W.Frag} {ι : List Addr} {H : Hp} {x : PV} {vx : V} (lx : Lies K ι H x vx) (fx : flatP x = true) : ∀ {ps : List PV} {vs : List V}, Reps K ι H ps vs -> ps.all flatP = true -> vs.all flatV = true /\ inV vx vs = ps.any fun y => eqF y x
 | [], vs, r, h => by rw [r.inv0]; exact ⟨rfl, rfl⟩
 | q :: ps, vs, r, h => by
  obtain ⟨v, w, rfl, h1, h2⟩ := r.inv
  rw [List.all_cons, Bool.and_eq_true] at h
  obtain ⟨k1, k2⟩ := ZbU lx fx h2 h.2
  refine ⟨by rw [List.all_cons, Zcl (Rep.lies h1) h.1, k1]; rfl, ?_⟩
  unfold inV at k2 ⊢
  rw [List.any_cons, List.any_cons, k2, eqF_rep (Rep.lies h1) lx h.1 fx]
theorem in_ok : L2ok X.K (fun x y H Q => (∃ i j, x = .str i /\ y = .str j /\ Q (.bl (!(Builtin.Str.occurrences j i 0 j.length 1).isEmpty)) H) \/ rIn X.K false x y H Q) inP := by
 intro ι H C p q vx vy z Q cr lx ly e k
 unfold inP at e
 cases hb : inB p q with
 | none => rw [hb] at e; cases e
 | some b =>
  rw [hb] at e; cases e
  unfold inB at hb
  split at hb
  ·split at hb
   ·cases hb; cases lx; cases ly; exact .inl ⟨_, _, rfl, rfl, k _ H .refl cr repBl⟩
   ·cases hb
  ·split at hb
   ·rename_i xs hf
    cases hb
    rw [Bool.and_eq_true] at hf
    obtain ⟨a, vs, rfl, h1, rv⟩ := liesL ly
    obtain ⟨k1, k2⟩ := ZbU lx hf.1 rv hf.2
    exact .inr ⟨a, vs, rfl, .inl h1, Zcl lx hf.1, k1, by rw [if_neg Bool.false_ne_true, k2]; exact k _ H .refl cr repBl⟩
   ·cases hb
  ·split at hb
   ·rename_i xs hf
    cases hb
    rw [Bool.and_eq_true] at hf
    obtain ⟨a, vs, rfl, h1, rv⟩ := liesT ly
    obtain ⟨k1, k2⟩ := ZbU lx hf.1 rv hf.2
    exact .inr ⟨a, vs, rfl, .inr h1.sq, Zcl lx hf.1, k1, by rw [if_neg Bool.false_ne_true, k2]; exact k _ H .refl cr repBl⟩
   ·cases hb
  ·cases hb
theorem op_inAll : OpR X (compareOp .In) (fun x y H Q => (∃ i j, x = .str i /\ y = .str j /\ Q (.bl (!(Builtin.Str.occurrences j i 0 j.length 1).isEmpty)) H) \/ rIn X.K false x y H Q) := OpR.or op_in_str op_in_seq
noncomputable def Mtok (K : W.Frag) (r : V -> List V -> Hp -> VK -> Prop) (h : PV -> List PV -> Option PV) : Prop :=
 ∀ (ι : List Addr) (H : Hp) (C : Cs) (q : PV) (v : V) (ps : List PV) (vs : List V) (z : PV) (Q : VK), CR K ι H C -> Lies K ι H q v -> LiesAll K ι H ps vs -> h q ps = some z -> (∀ v H', Fr ι H H' -> CR K ι H' C -> Rep K ι H' z v -> Q v H') -> r v vs H Q
noncomputable def tyP (T : String) : PV -> Bool
 | .str _ => T == "str"
 | .int _ => T == "int"
 | .lst _ => T == "list"
 | .dct _ _ => T == "dict"
 | _ => false
noncomputable def isTy (T : String) (x : SV) : M Unit := fun C => match deref C x with
 | some q => if tyP T q then some ((), C) else none
 | none => none
noncomputable def mtD (h : PV -> List PV -> Option PV) (C : Cs) (x : SV) (xs : List SV) : Option SV := match deref C x, derefs C xs with
 | some q, some ps => (h q ps).map .v
 | _, _ => none
noncomputable def mMt (T : String) (h : PV -> List PV -> Option PV) (fo : PSt -> M SV) (fs : PSt -> M (List SV)) : PSt -> M SV := fun ρ => bnd (fo ρ) fun x => bnd (isTy T x) fun _ => bnd (fs ρ) fun xs => opM fun C => mtD h C x xs
theorem lies_ty {K : W.Frag} {ι : List Addr} {H : Hp} {T : String} {q : PV} {v : V} (l : Lies K ι H q v) (h : tyP T q = true) : tyV K T v H := by
 cases l with
 | str y hy => exact eq_of_beq (by simpa [tyP] using h)
 | int y => exact eq_of_beq (by simpa [tyP] using h)
 | lst h1 r => exact .inl ⟨eq_of_beq (by simpa [tyP] using h), _, h1⟩
 | dct h1 hl r => exact .inr (.inr (.inl ⟨eq_of_beq (by simpa [tyP] using h), .inl ⟨_, h1⟩⟩))
 | _ => cases h
theorem em_mt {T id : String} {name : Str} {r : V -> List V -> Hp -> VK -> Prop} {h : PV -> List PV -> Option PV} (pa : PlainAttrs T) (slot : Slot T name id) (hty : typeOf (.builtin id) = pure (.type "method_descriptor")) (hm : MtR X id r) (hk : Mtok X.K r h)
  (ho : EM X o fo) (ha : AM X (e :: es) fs) (hbase : attributeBase o name X.env (eval o X.env) = eval o X.env := by rfl)
  (hfew : ((backTo cpos (starEach (e :: es) X.env)).all (fun x => !x.1) && (backToKw cpos (keywordEach [] X.env)).all (fun x => x.1.isSome)
   && decide ((e :: es).length + ([] : List Keyword).length + (if ([] : List Keyword).isEmpty then 0 else 1) < 30)) = true := by rfl)
  (hline : (apos.endLine == cpos.line) = true := by rfl) (hs : starEach (e :: es) X.env = (false, eval e X.env) :: starEach es X.env := by rfl) (hplain : (backTo cpos (starEach es X.env)).any (·.1) = false := by rfl) :
  EM X (.Call (.Attribute o name apos) (e :: es) [] cpos) (mMt T h fo fs) :=
 PE.imp (pe_bm pa slot hty hm ho ha hbase hfew hline hs hplain) fun σ H Q h_ => by
  obtain ⟨ι, ρ, C, z, C', sr, e, q⟩ := h_
  obtain ⟨x, C1, e1, g1⟩ := Zah e
  obtain ⟨u, C2, e2, g2⟩ := Zah g1
  obtain ⟨xs, C3, e3, g3⟩ := Zah g2
  obtain ⟨e4, hC⟩ := ZaF g3
  subst hC
  clear e g1 g2 g3
  refine ⟨ι, ρ, C, x, C1, sr, e1, fun v H1 f1 c1 r1 => ?_⟩
  unfold isTy at e2
  split at e2
  ·rename_i q0 hd0
   split at e2
   ·rename_i ht
    cases e2
    refine ⟨lies_ty (r1.lies c1 hd0) ht, ι, ρ, _, xs, _, sr.step f1 c1, e3, fun vs H2 f2 c2 r2 => ?_⟩
    unfold mtD at e4
    split at e4
    ·rename_i q1 ps hd1 hds
     cases hz : h q1 ps with
     | none => rw [hz] at e4; cases e4
     | some z1 =>
      rw [hz] at e4; cases e4
      exact hk ι H2 _ q1 v ps vs z1 Q c2 ((r1.mono c1 f2).lies c2 hd1) (ZbL c2 r2 hds) hz fun v' H3 f3 c3 r3 => q v' H3 (f1.trans (f2.trans f3)) c3 r3
    ·cases e4
   ·cases e2
  ·cases e2
end
section
variable {X : Cx} {a b e c o i : Expr} {es : List Expr} {fa fb fc fo fi fv : PSt -> M SV} {fs : PSt -> M (List SV)} {pos p apos cpos p2 : Pos} {x : Str}
noncomputable def strsP : List PV -> Option (List Str)
 | [] => some []
 | .str b :: r => (strsP r).map (b :: ·)
 | _ :: _ => none
theorem strs_rep {K : W.Frag} {ι : List Addr} {H : Hp} : ∀ {ps : List PV} {vs : List V} {bs : List Str}, Reps K ι H ps vs -> strsP ps = some bs -> vs = bs.map V.str
 | [], vs, bs, r, e => by cases e; rw [r.inv0]; rfl
 | p :: ps, vs, bs, r, e => by
  obtain ⟨v, w, rfl, h1, h2⟩ := r.inv
  cases p with
  | str b =>
   unfold strsP at e
   cases hb : strsP ps with
   | none => rw [hb] at e; cases e
   | some cs =>
    rw [hb] at e; cases e
    have h1 : v = .str b := by unfold Rep at h1; exact h1.1
    rw [h1, strs_rep h2 hb]; rfl
  | _ => cases e
noncomputable def joinH : PV -> List PV -> Option PV
 | .str z, [.lst xs] => match strsP xs with
  | some ys => if (ys.map (·.length)).sum + ys.length * z.length <= 1000000 then some (.str (Txt.join z ys)) else none
  | none => none
 | _, _ => none
theorem join_len (z : Str) (ys : List Str) : (Txt.join z ys).length <= (ys.map (·.length)).sum + ys.length * z.length := by
 have e : (Txt.join z ys).length = (ys.map (·.length)).sum + (ys.length - 1) * z.length := size_glued z ys
 rw [e]
 exact Nat.add_le_add_left (Nat.mul_le_mul_right _ (Nat.sub_le _ _)) _
theorem join_ok : Mtok X.K (fun x xs H Q => ∃ (z : Str) (p : Addr) (ys : List Str), x = .str z /\ xs = [.ref p] /\ SqL X.K H p (ys.map V.str) /\ (ys.map (·.length)).sum + ys.length * z.length <= 16777216 /\ Q (.str (Txt.join z ys)) H) joinH := by
 intro ι H C q v ps vs z Q cr lq ls e k
 unfold joinH at e
 split at e
 ·rename_i z0 xs
  split at e
  ·rename_i ys hy
   split at e
   ·rename_i hl
    cases e
    cases ls with
    | cons l t =>
     cases t
     obtain ⟨rfl, hz⟩ := liesS lq
     obtain ⟨a, ws, rfl, h1, r1⟩ := liesL l
     exact ⟨_, a, ys, rfl, rfl, by rw [← strs_rep r1 hy]; exact h1, Nat.le_trans hl (by decide), k _ H .refl cr (repS (Nat.le_trans (join_len _ _) (k1000000 hl)))⟩
   ·cases e
  ·cases e
 ·cases e
theorem em_join (ho : EM X o fo) (ha : AM X (e :: es) fs) (hbase : attributeBase o "join" X.env (eval o X.env) = eval o X.env := by rfl)
  (hfew : ((backTo cpos (starEach (e :: es) X.env)).all (fun x => !x.1) && (backToKw cpos (keywordEach [] X.env)).all (fun x => x.1.isSome)
   && decide ((e :: es).length + ([] : List Keyword).length + (if ([] : List Keyword).isEmpty then 0 else 1) < 30)) = true := by rfl)
  (hline : (apos.endLine == cpos.line) = true := by rfl) (hs : starEach (e :: es) X.env = (false, eval e X.env) :: starEach es X.env := by rfl) (hplain : (backTo cpos (starEach es X.env)).any (·.1) = false := by rfl) :
  EM X (.Call (.Attribute o "join" apos) (e :: es) [] cpos) (mMt "str" joinH fo fs) :=
 em_mt PySem.F.plainAttrs_str PySem.F.slot_str_join PySem.F.type_str_join mt_join join_ok ho ha hbase hfew hline hs hplain
noncomputable def stripH : PV -> List PV -> Option PV
 | .str z, [.str y] => some (.str (Txt.stripChars z y))
 | _, _ => none
theorem strip_len (z y : Str) : (Txt.stripChars z y).length <= z.length := by
 unfold Txt.stripChars Txt.stripBy
 split
 ·exact Nat.le_refl _
 ·unfold stripped Builtin.Str.strSub
  show (Array.extract _ _ _).size <= z.cps.size
  rw [Array.size_extract]
  lia
theorem strip_ok : Mtok X.K (fun x xs H Q => ∃ (z y : Str), x = .str z /\ xs = [.str y] /\ z.length <= sizeLine /\ Q (.str (Txt.stripChars z y)) H) stripH := by
 intro ι H C q v ps vs z Q cr lq ls e k
 unfold stripH at e
 split at e
 ·cases e
  cases ls with
  | cons l t =>
   cases t
   obtain ⟨rfl, hz⟩ := liesS lq
   obtain ⟨rfl, hy⟩ := liesS l
   exact ⟨_, _, rfl, rfl, hz, k _ H .refl cr (repS (Nat.le_trans (strip_len _ _) hz))⟩
 ·cases e
theorem em_strip (ho : EM X o fo) (ha : AM X (e :: es) fs) (hbase : attributeBase o "strip" X.env (eval o X.env) = eval o X.env := by rfl)
  (hfew : ((backTo cpos (starEach (e :: es) X.env)).all (fun x => !x.1) && (backToKw cpos (keywordEach [] X.env)).all (fun x => x.1.isSome)
   && decide ((e :: es).length + ([] : List Keyword).length + (if ([] : List Keyword).isEmpty then 0 else 1) < 30)) = true := by rfl)
  (hline : (apos.endLine == cpos.line) = true := by rfl) (hs : starEach (e :: es) X.env = (false, eval e X.env) :: starEach es X.env := by rfl) (hplain : (backTo cpos (starEach es X.env)).any (·.1) = false := by rfl) :
  EM X (.Call (.Attribute o "strip" apos) (e :: es) [] cpos) (mMt "str" stripH fo fs) :=
 em_mt PySem.F.plainAttrs_str PySem.F.slot_str_strip PySem.F.type_str_strip mt_strip strip_ok ho ha hbase hfew hline hs hplain
noncomputable def indexH : PV -> List PV -> Option PV
 | .lst xs, [x] => if flatP x && xs.all flatP then (xs.findIdx? fun y => eqF y x).map fun (j : Nat) => .int j else none
 | _, _ => none
noncomputable def rIndex (K : W.Frag) : V -> List V -> Hp -> VK -> Prop := fun x vs H Q => ∃ p xs y j, x = .ref p /\ vs = [y] /\ SqL K H p xs /\ flatV y = true /\ xs.all flatV = true /\ (xs.findIdx? fun z => eqV z y) = some j /\ Q (.int j) H
theorem mt_index : MtR X "list.index" (rIndex X.K) := by
 intro pins s σ H x vs v us Q I rx rv h
 obtain ⟨p, xs, y, j, rfl, rfl, hq, fy, fs, hj, q⟩ := h
 cases rx
 obtain ⟨u, rfl, ru⟩ := rv.one
 obtain ⟨its, r, pl, hz⟩ := I.list hq
 obtain ⟨⟨cls, dd, data, sl⟩, ho, hc, n, hd⟩ := id pl.isList
 simp only at hc hd
 subst hc hd
 have hl := r.length
 obtain ⟨hjl, hit, hno⟩ := List.findIdx?_eq_some_iff_getElem.mp hj
 have get : ∀ (m : Nat) (hm : m < its.toArray.size), eqU y its.toArray[m] = eqV (xs[m]'(by simpa [hl] using hm)) y := fun m hm => by
  have hm2 : m < xs.length := by simpa [hl] using hm
  obtain ⟨w, ew, rw'⟩ := r.get (i := m) (x := xs[m]) (List.getElem?_eq_getElem hm2)
  have e1 : its.toArray[m] = w := by
   have : its[m]? = some w := ew
   have hm3 : m < its.length := by simpa using hm
   rw [List.getElem?_eq_getElem hm3] at this
   simpa using Option.some.inj this
  rw [e1]
  exact eqU_of rw' (List.all_eq_true.mp fs _ (List.getElem_mem hm2))
 have hn := line63
 have hsl : sizeLine = 16777216 := sizeLine_eq
 refine call_meets PySem.F.slot_list_index ⟨_, ho, rfl⟩ PySem.F.entry_list_index (PySem.F.args_list_index_2 _ _) (SeqAt.list_indexAt p its.toArray n dd sl u (eqU y) j (by simpa [← hl] using hjl) (by lia) ?_ ?_) ⟨ho, ?_, ?_⟩
 ·rw [get]; exact hit
 ·intro m hm hmj
  rw [get]
  simpa using hno m hmj
 ·intro w hw
  exact Zci ru fy r fs w (by simpa using hw)
 ·exact ⟨.int j, H, I.tok _, ⟨_, rfl⟩, q⟩
theorem find_rep {K : W.Frag} {ι : List Addr} {H : Hp} {x : PV} {vx : V} (lx : Lies K ι H x vx) (fx : flatP x = true) : ∀ {ps : List PV} {vs : List V}, Reps K ι H ps vs -> ps.all flatP = true -> (vs.findIdx? fun z => eqV z vx) = ps.findIdx? fun y => eqF y x
 | [], vs, r, h => by rw [r.inv0]; rfl
 | q :: ps, vs, r, h => by
  obtain ⟨v, w, rfl, h1, h2⟩ := r.inv
  rw [List.all_cons, Bool.and_eq_true] at h
  rw [List.findIdx?_cons, List.findIdx?_cons, eqF_rep (Rep.lies h1) lx h.1 fx, find_rep lx fx h2 h.2]
theorem index_ok : Mtok X.K (rIndex X.K) indexH := by
 intro ι H C q v ps vs z Q cr lq ls e k
 unfold indexH at e
 split at e
 ·rename_i xs y
  split at e
  ·rename_i hf
   rw [Bool.and_eq_true] at hf
   cases hj : xs.findIdx? (fun z => eqF z y) with
   | none => rw [hj] at e; cases e
   | some j =>
    rw [hj] at e; cases e
    cases ls with
    | cons l t =>
     cases t
     obtain ⟨a, ws, rfl, h1, r1⟩ := liesL lq
     exact ⟨a, ws, _, j, rfl, rfl, h1, Zcl l hf.1, (ZbU l hf.1 r1 hf.2).1, by rw [find_rep l hf.1 r1 hf.2]; exact hj, k _ H .refl cr repI⟩
  ·cases e
 ·cases e
theorem em_index (ho : EM X o fo) (ha : AM X (e :: es) fs) (hbase : attributeBase o "index" X.env (eval o X.env) = eval o X.env := by rfl)
  (hfew : ((backTo cpos (starEach (e :: es) X.env)).all (fun x => !x.1) && (backToKw cpos (keywordEach [] X.env)).all (fun x => x.1.isSome)
   && decide ((e :: es).length + ([] : List Keyword).length + (if ([] : List Keyword).isEmpty then 0 else 1) < 30)) = true := by rfl)
  (hline : (apos.endLine == cpos.line) = true := by rfl) (hs : starEach (e :: es) X.env = (false, eval e X.env) :: starEach es X.env := by rfl) (hplain : (backTo cpos (starEach es X.env)).any (·.1) = false := by rfl) :
  EM X (.Call (.Attribute o "index" apos) (e :: es) [] cpos) (mMt "list" indexH fo fs) :=
 em_mt PySem.F.plainAttrs_list PySem.F.slot_list_index PySem.F.type_list_index mt_index index_ok ho ha hbase hfew hline hs hplain
noncomputable def keyP : PV -> Option Key
 | .int i => some (.inl i)
 | .str z => some (.inr z)
 | _ => none
theorem keyP_kP (k : Key) : keyP (kP k) = some k := by cases k <;> rfl
noncomputable def lookP : List PV -> List PV -> Key -> Option PV
 | k :: ks, v :: vs, q => if keyP k = some q then some v else lookP ks vs q
 | _, _, _ => none
theorem Zcj {K : W.Frag} {ι : List Addr} {H : Hp} {q : Key} : ∀ {qs : List Key} {ps : List PV} {vs : List V}, qs.length = vs.length -> Reps K ι H ps vs ->
  (∀ z, lookP (qs.map kP) ps q = some z -> ∃ v, valV (qs.zip vs) q = some v /\ Rep K ι H z v) /\ (lookP (qs.map kP) ps q = none -> valV (qs.zip vs) q = none)
 | [], ps, vs, hl, r => by
  refine ⟨fun z h => ?_, fun _ => rfl⟩
  cases ps <;> cases h
 | k :: qs, [], vs, hl, r => by rw [r.inv0] at hl; cases hl
 | k :: qs, p :: ps, vs, hl, r => by
  obtain ⟨v, w, rfl, h1, h2⟩ := r.inv
  have ih := Zcj (q := q) (qs := qs) (ps := ps) (vs := w) (by simpa using hl) h2
  rw [List.map_cons, List.zip_cons_cons]
  unfold lookP
  rw [keyP_kP]
  by_cases h : k = q
  ·subst h
   rw [if_pos rfl, Zcb (p := (k, v)) rfl]
   exact ⟨fun z e => by cases e; exact ⟨v, rfl, h1⟩, fun e => nomatch e⟩
  ·rw [if_neg (fun e => h (Option.some.inj e)), Zcc (p := (k, v)) h]
   exact ih
theorem lies_key {K : W.Frag} {ι : List Addr} {H : Hp} {x : PV} {v : V} {q : Key} (l : Lies K ι H x v) (h : keyP x = some q) : v = kV q := by
 cases l <;> first | (cases h; rfl) | cases h
theorem liesD {K : W.Frag} {ι : List Addr} {H : Hp} {ks ps : List PV} {v : V} (l : Lies K ι H (.dct ks ps) v) : ∃ (a : Addr) (qs : List Key) (vs : List V), v = .ref a /\ ks = qs.map kP /\ H a = some (.dK (qs.zip vs)) /\ qs.length = vs.length /\ Reps K ι H ps vs := by
 cases l; exact ⟨_, _, _, rfl, rfl, by assumption, by assumption, by assumption⟩
noncomputable def rDGet : R2 := fun x y H Q => ∃ a v, x = .ref a /\ DGet H a y (some v) /\ Q v H
theorem ix_dict (hu : X.A.units + 1 < cLine) : IxR X rDGet := by
 intro value slice pins s σ H x y v u Q I rx ry h hs
 obtain ⟨a, w, rfl, g, q⟩ := h
 cases rx
 exact tail_any (dict_typeIs I g) PySem.F.slot_dict_getitem.lookup (d_getItem hu I g ry fun w' s' I' r' => ⟨w, H, I', r', q⟩) hs
noncomputable def ixQ (x y : PV) : Option PV := match x with
 | .dct ks vs => match keyP y with
  | some q => lookP ks vs q
  | none => none
 | x => ixP x y
theorem ixQ_ok : L2ok X.K (fun x y H Q => rIx X.K x y H Q \/ rDGet x y H Q) ixQ := by
 intro ι H C p q vx vy z Q cr lx ly e k
 unfold ixQ at e
 split at e
 ·rename_i ks vs
  split at e
  ·rename_i key hk
   obtain ⟨a, qs, ws, rfl, rfl, hd, hl, r⟩ := liesD lx
   obtain ⟨v, hv, rv⟩ := (Zcj hl r).1 z e
   rw [lies_key ly hk]
   exact .inr ⟨a, v, rfl, by rw [← hv]; exact DGet.k hd, k v H .refl cr rv⟩
  ·cases e
 ·exact .inl (ix_ok ι H C p q vx vy z Q cr lx ly e k)
theorem em_ixA (hu : X.A.units + 1 < cLine) (ha : EM X a fa) (hb : EM X b fb) (hs : PlainIx b := by exact fun _ _ => rfl) : EM X (.Subscript a b pos) (mOp (g2 ixQ) fa fb) := em_ix (IxR.or ix_seq (ix_dict hu)) ixQ_ok.r ha hb hs
noncomputable def getH : PV -> List PV -> Option PV
 | .dct ks vs, [k] => match keyP k with
  | some q => some ((lookP ks vs q).getD .non)
  | none => none
 | _, _ => none
noncomputable def rGet1 : V -> List V -> Hp -> VK -> Prop := fun x vs H Q => ∃ a y o, x = .ref a /\ vs = [y] /\ (∃ kvs k, H a = some (.dK kvs) /\ y = kV k /\ o = valV kvs k) /\ Q (o.getD .non) H
theorem mt_get1 : MtR X "dict.get" rGet1 := by
 intro pins s σ H x vs v us Q I rx rv h
 obtain ⟨a, y, o, rfl, rfl, ⟨kvs, k, e, rfl, rfl⟩, q⟩ := h
 cases rx
 obtain ⟨u, rfl, ru⟩ := rv.one
 obtain ⟨z, hd, ws, rel, dd⟩ := dk_of I.hok e
 refine call_meetsIn PySem.F.slot_dict_get dd.typeIs PySem.F.entry_dict_get (PySem.F.args_dict_get_2 _ _) (meets_dict_get (mixKind X.prog X.w) a (kV_is ru) hd) ⟨_, dd.mapOf, ?_⟩
 have rr := rel.val k
 refine ⟨(valV kvs k).getD .non, H, I.tok _, ?_, q⟩
 cases h1 : valV kvs k with
 | none =>
  rw [h1] at rr
  cases h2 : valueAt ws k with
  | none => exact rfl
  | some w => rw [h2] at rr; exact rr.elim
 | some w =>
  rw [h1] at rr
  cases h2 : valueAt ws k with
  | none => rw [h2] at rr; exact rr.elim
  | some w' => rw [h2] at rr; exact rr
theorem get1_ok : Mtok X.K rGet1 getH := by
 intro ι H C q v ps vs z Q cr lq ls e k
 cases ls with
 | nil => cases q <;> cases e
 | @cons p0 v0 ps0 vs0 l t =>
  cases q with
  | dct ks ws =>
   cases t with
   | nil =>
    replace e : (match keyP p0 with | some q => some ((lookP ks ws q).getD .non) | none => none) = some z := e
    split at e
    ·rename_i key hk
     cases e
     obtain ⟨a, qs, us, rfl, rfl, hd, hl, r⟩ := liesD lq
     refine ⟨a, _, _, rfl, rfl, ⟨_, key, hd, lies_key l hk, rfl⟩, ?_⟩
     cases h1 : lookP (qs.map kP) ws key with
     | none => rw [(Zcj hl r).2 h1]; rw [h1] at k; exact k _ H .refl cr repN
     | some w =>
      obtain ⟨v', hv', rv'⟩ := (Zcj hl r).1 w h1
      rw [hv']; rw [h1] at k; exact k _ H .refl cr rv'
    ·cases e
   | cons l2 t => cases e
  | _ => cases e
theorem em_get1 (ho : EM X o fo) (ha : AM X (e :: es) fs) (hbase : attributeBase o "get" X.env (eval o X.env) = eval o X.env := by rfl)
  (hfew : ((backTo cpos (starEach (e :: es) X.env)).all (fun x => !x.1) && (backToKw cpos (keywordEach [] X.env)).all (fun x => x.1.isSome)
   && decide ((e :: es).length + ([] : List Keyword).length + (if ([] : List Keyword).isEmpty then 0 else 1) < 30)) = true := by rfl)
  (hline : (apos.endLine == cpos.line) = true := by rfl) (hs : starEach (e :: es) X.env = (false, eval e X.env) :: starEach es X.env := by rfl) (hplain : (backTo cpos (starEach es X.env)).any (·.1) = false := by rfl) :
  EM X (.Call (.Attribute o "get" apos) (e :: es) [] cpos) (mMt "dict" getH fo fs) :=
 em_mt PySem.F.plainAttrs_dict PySem.F.slot_dict_get PySem.F.type_dict_get mt_get1 get1_ok ho ha hbase hfew hline hs hplain
theorem track {pins : List (Addr × Obj)} {σ : St} {H : Hp} {s : Shared} {d : Addr} {ob : HO} (I : Inv X pins σ H s) (hn : H d = none) (hd : X.s₀.heap.objs.size <= d) (hL : d ≠ X.env.locals) (hc : ∀ x c, X.env.cells.lookup x = some c -> c ≠ d)
  (hp : ∀ p ∈ X.pn ++ pins, p.1 ≠ d) (new : ObjOk X.prog X.w (upd H d ob) s.heap d ob) : Inv X pins σ (upd H d ob) s := by
 have u := I.base
 refine ⟨I.ok, I.os, I.bare, ⟨u.keep, u.slot, fun b o e q hx => ?_, u.there, fun b xs e => ?_, fun b o xs e => ?_, fun b ps e => ?_⟩, I.loc, I.cell, ?_, fun x c e => ?_, fun p hp' => ?_, fun b o e => ?_, I.len⟩
 ·rw [Zan (Nat.ne_of_lt (Nat.lt_of_lt_of_le (Heap.lt_size e) hd))]; exact u.free b o e q hx
 ·rw [Zan (Zal (u.tups b xs e) hn)]; exact u.tups b xs e
 ·rw [Zan (Zal (u.frzs b o xs e) hn)]; exact u.frzs b o xs e
 ·obtain ⟨more, q⟩ := u.tbls b ps e
  exact ⟨more, by rw [Zan (Zal q hn)]; exact q⟩
 ·rw [Zan (Ne.symm hL)]; exact I.free
 ·rw [Zan (hc x c e)]; exact I.freeC x c e
 ·obtain ⟨h1, h2, h3⟩ := I.pin p hp'
  exact ⟨h1, by rw [Zan (hp p hp')]; exact h2, h3⟩
 ·by_cases hb : b = d
  ·subst hb
   rw [ZaW] at e; cases e; exact new
  ·rw [Zan hb] at e
   exact (I.hok b o e).stay (fun _ _ _ q => q) (fun c q => by rw [Zan (Zal q hn)]; exact q) fun c xs q => by rw [Zan (Zal q hn)]; exact q
theorem DictOf_empty {P : Program} {w : World} {h : Heap} {d : Addr} (e : h.get? d = some { cls := .type "dict", data := .dict #[] }) : h.DictOf (mixKind P w) d [] := by
 have hn := Heap.DictOf.new (knd := mixKind P w) { h with objs := #[] }
 obtain ⟨o, es, ep, h1, h2, h3, h4⟩ := hn
 rw [Heap.get?_push_size _ rfl] at h1
 cases h1
 exact ⟨_, es, ep, e, h2, h3, h4⟩
noncomputable def PRel : List Str -> List V -> List (Value × Value) -> Prop
 | [], [], [] => True
 | k :: ks, v :: vs, (u, w) :: r => keyIs (.inr k) u = true /\ RelV v w /\ PRel ks vs r
 | _, _, _ => False
noncomputable def DP (X : Cx) (ks : List (Option Expr)) (es : List Expr) (keys : List Str) (t : TA) : Prop :=
 ∀ (pos : Pos) (pins : List (Addr × Obj)) (s : Shared) (σ : St) (H : Hp) (Q : List V -> Hp -> Prop), Inv X pins σ H s -> t σ H Q ->
  wpAny (model X.prog X.w) X.A (evalPairs (pairTrees ks es X.env pos)) (fun us s' => ∃ vs H', Inv X pins σ H' s' /\ PRel keys vs us /\ Q vs H') X.xe s
noncomputable def DM (X : Cx) (ks : List (Option Expr)) (es : List Expr) (keys : List Str) (f : PSt -> M (List SV)) : Prop := DP X ks es keys (tMA X.K f)
theorem dm_nil : DM X [] [] [] aNil := fun pos pins s σ H Q I h_ => by
 obtain ⟨ι, ρ, C, r, C', sr, e, q⟩ := h_
 cases e
 exact PySem.pairTrees_nil_walk ⟨[], H, I, trivial, q [] H .refl sr.cr rfl⟩
theorem dm_cons {k : Str} {j1 : Nat} {p1 : Pos} {ks : List (Option Expr)} {keys : List Str} (h : EM X e fa) (t : DM X ks es keys fs) : DM X (some (.Constant (.str k) j1 p1) :: ks) (e :: es) (k :: keys) (aCons fa fs) := by
 intro pos pins s σ H Q I h_
 obtain ⟨ι, ρ, C, r, C', sr, e, q⟩ := h_
 obtain ⟨x, C1, e1, g1⟩ := Zah e
 obtain ⟨xs, C2, e2, g2⟩ := Zah g1
 cases g2
 refine PySem.pairTrees_cons_walk (Calls.Constant_str ?_)
 refine thn (h pins _ σ H (fun v H1 => Fr ι H H1 /\ CR X.K ι H1 C1 /\ RepS X.K ι H1 x v) (I.tok _) ⟨ι, ρ, C, x, C1, sr, e1, fun v H1 f1 c1 r1 => ⟨f1, c1, r1⟩⟩) fun u s1 h_ => ?_
 obtain ⟨v, H1, I1, r1, f1, c1, rx⟩ := h_
 refine thn (t pos pins s1 σ H1 (fun vs H2 => Fr ι H1 H2 /\ CR X.K ι H2 C' /\ RepSs X.K ι H2 xs vs) I1 ⟨ι, ρ, C1, xs, C', sr.step f1 c1, e2, fun vs H2 f2 c2 r2 => ⟨f2, c2, r2⟩⟩) fun us s2 h_ => ?_
 obtain ⟨vs, H2, I2, pr, f2, c2, rs⟩ := h_
 exact ⟨v :: vs, H2, I2, ⟨keyIs_str k _, r1, pr⟩, q (v :: vs) H2 (f1.trans f2) c2 ⟨v, vs, rfl, rx.mono c1 f2, rs⟩⟩
noncomputable def mDict (keys : List Str) (fs : PSt -> M (List SV)) : PSt -> M SV := fun ρ => bnd (fs ρ) fun xs => opM fun _ => (plain xs).map fun ps => .v (.dct (keys.map PV.str) ps)
theorem prel_carries {P : Program} {w : World} : ∀ {keys : List Str} {vs : List V} {us : List (Value × Value)}, PRel keys vs us -> keys.length = vs.length /\ us.length = keys.length /\ ∃ kvs : List (Key × Value), Carries (mixKind P w) us kvs /\ KV ((keys.map Sum.inr).zip vs) kvs /\ kvs.map (·.1) = keys.map Sum.inr := by
 intro keys
 induction keys with
 | nil =>
  intro vs us h
  cases vs with
  | nil => cases us with
   | nil => exact ⟨rfl, rfl, [], trivial, .nil, rfl⟩
   | cons _ _ => exact h.elim
  | cons _ _ => exact h.elim
 | cons k ks ih =>
  intro vs us h
  cases vs with
  | nil => exact h.elim
  | cons v vs => cases us with
   | nil => exact h.elim
   | cons y r =>
    obtain ⟨h1, h2, h3⟩ := h
    obtain ⟨a1, a2, kvs, a3, a4, a5⟩ := ih h3
    exact ⟨by simp [a1], by simp [a2], (Sum.inr k, y.2) :: kvs, ⟨h1, rfl, a3⟩, .cons ⟨rfl, h2⟩ a4, by simp [a5]⟩
theorem em_dict {ks : List (Option Expr)} {keys : List Str} (h : DM X ks es keys fs) (nd : (keys.map (Sum.inr : Str -> Key)).Nodup) (hall : ks.all (·.isSome) = true) (hl : ks.length = es.length) (h0 : ks ≠ []) (hlen : ks.length <= 15) (hk : keys.length = ks.length) :
  EM X (.Dict ks es pos) (mDict keys fs) := by
 intro pins s σ H Q I h_
 obtain ⟨ι, ρ, C, z, C', sr, e, q⟩ := h_
 obtain ⟨xs, C1, e1, g1⟩ := Zah e
 obtain ⟨e2, hC⟩ := ZaF g1
 subst hC
 have hbig : sysModules < s.heap.objs.size := modules_low I.nolimit
 have hf : H s.heap.objs.size = none := I.hok.fresh (Nat.le_refl _)
 have I0 : Inv X pins σ H { s with heap := s.heap.push { cls := .type "dict", data := .dict #[] } } := I.kept (t' := s.toks) fun b o e => Heap.get?_push_of_some _ e
 have I1 : Inv X ((s.heap.objs.size, { cls := .type "dict", data := .dict #[] }) :: pins) σ H { s with heap := s.heap.push { cls := .type "dict", data := .dict #[] } } := I0.pins_of fun p hp => by
  rcases List.mem_cons.mp hp with rfl | hp
  ·exact ⟨Heap.get?_push_size _ rfl, hf, Nat.ne_of_gt I.lt, I.nofs (Nat.le_refl _), fun v z => by cases z⟩
  ·exact I0.pin p (List.mem_append_right _ hp)
 refine PySem.wpAny_Dict_walk (knd := mixKind X.prog X.w) hall hl h0 hlen ?_
 refine thn (h pos _ _ σ H (fun vs H2 => Fr ι H H2 /\ CR X.K ι H2 C' /\ RepSs X.K ι H2 xs vs) I1 ⟨ι, ρ, C, xs, C', sr, e1, fun vs H2 f2 c2 r2 => ⟨f2, c2, r2⟩⟩) fun us s1 h_ => ?_
 obtain ⟨vs, H1, J1, pr, f1, c1, rs⟩ := h_
 obtain ⟨a1, a2, kvs, a3, a4, a5⟩ := prel_carries (P := X.prog) (w := X.w) pr
 have pd := J1.pin (s.heap.objs.size, _) (List.mem_append_right _ List.mem_cons_self)
 refine ⟨kvs, a3, DictOf_empty pd.1, fun h' hd hs => ?_⟩
 rw [merged_nil_of_nodup kvs (by rw [a5]; exact nd)] at hd
 have J2 : Inv X pins σ H1 s1 := J1.pins_of fun p hp => J1.pin p (List.mem_append_right _ (List.mem_cons_of_mem _ hp))
 have hcl : ∀ x c, X.env.cells.lookup x = some c -> c ≠ s.heap.objs.size := fun x c e => by
  obtain ⟨v, z⟩ := I.cell x c e
  exact Nat.ne_of_lt z.lt
 have hpn : ∀ p ∈ X.pn ++ pins, p.1 ≠ s.heap.objs.size := fun p hp => Nat.ne_of_lt (Heap.lt_size (I.pin p hp).1)
 have J3 : Inv X pins σ H1 { s1 with heap := h', toks := s1.toks + us.length } := J2.turned (t' := s1.toks + us.length) (fun b o hb e => (hs.2 b hb).trans e) pd.2.1 pd.2.2.1 (.inr I.sz) hcl hpn
 have hkl : keys.length <= 15 := by rw [hk]; exact hlen
 have J4 := track (ob := .dK ((keys.map Sum.inr).zip vs)) J3 pd.2.1 I.sz pd.2.2.1 hcl hpn ⟨Nat.le_trans (by rw [List.length_zip]; exact Nat.le_trans (Nat.min_le_left _ _) (by rw [List.length_map]; exact hkl)) (by rw [sizeLine_eq]; decide), beq_eq_false_iff_ne.mpr (Ne.symm (Nat.ne_of_lt hbig)), kvs, a4, hd⟩
 cases hp : plain xs with
 | none => rw [hp] at e2; cases e2
 | some ps =>
  rw [hp] at e2
  cases e2
  obtain ⟨rr, hv⟩ := Zbn hp rs
  refine ⟨.ref s.heap.objs.size, _, J4, rfl, q _ _ (f1.trans (Fr.new pd.2.1)) (c1.new pd.2.1) ?_⟩
  show Rep _ _ _ (.dct _ _) _
  unfold Rep
  refine ⟨s.heap.objs.size, keys.map Sum.inr, vs, rfl, fun z => ?_, ZaW, by rw [List.length_map]; exact a1, by rw [List.map_map]; rfl, Reps.stay (fun b o e => by rw [Zan (Zal e pd.2.1)]; exact e) ps vs rr⟩
  rcases c1.mut z with ⟨_, e⟩ | ⟨_, e⟩ | ⟨_, e⟩
  ·rw [pd.2.1] at e; cases e
  ·rw [pd.2.1] at e; cases e
  ·rw [pd.2.1] at e; cases e
end
structure TopD (K : W.Frag) (w : World) (d : Addr) (tab : List (Str × Addr)) : Prop where
 ex : ∃ (es : Array DictEntry) (n : Nat), K.lookup d = some ⟨.type "dict", none, .dict es n, #[]⟩ /\ W.KeysLit w.params es.toList /\ Paired (fun (p : Str × Addr) (e : DictEntry) => Value.isStrOf p.1 e.key = true /\ e.val = .ref p.2) tab es.toList
 lo : (d == sysModules) = false
theorem isStrOf_iff {x y : Str} {v : Value} (h : Value.isStrOf y v = true) : Value.isStrOf x v = decide (x = y) := by
 obtain ⟨t, rfl⟩ := Value.isStrOf_shape h
 by_cases e : x = y
 ·subst e; simp [Value.isStrOf]
 ·have : ¬ (y = x) := fun z => e z.symm
  simp [Value.isStrOf, e, this]
theorem tab_find {x : Str} : ∀ {tab : List (Str × Addr)} {es : List DictEntry}, Paired (fun (p : Str × Addr) (e : DictEntry) => Value.isStrOf p.1 e.key = true /\ e.val = .ref p.2) tab es ->
    (es.find? fun d => Value.isStrOf x d.key).map (·.val) = (tab.lookup x).map Value.ref
  | _, _, .nil => rfl
  | (k, f) :: tab, e :: es, .cons h t => by
    have ih := tab_find (x := x) t
    rw [List.find?_cons, List.lookup_cons, isStrOf_iff h.1]
    by_cases hx : x = k
    · subst hx
      rw [decide_eq_true rfl, beq_self_eq_true]
      simp [h.2]
    · rw [decide_eq_false hx, beq_eq_false_iff_ne.mpr hx]
      exact ih
theorem TopD.map {K : W.Frag} {w : World} {d : Addr} {tab : List (Str × Addr)} (T : TopD K w d tab) (prog : Program) {h : Heap} (X : K.In h) : h.MapOf (strKind prog w) d (fun k => (tab.lookup k).map Value.ref) := by
 obtain ⟨es, n, hl, hk, hp⟩ := T.ex
 have m := W.mapOf_K (prog := prog) X hl hk
 have e : (fun k => findBy Value.isStrOf es k) = fun k => (tab.lookup k).map Value.ref := by
  funext k
  rw [← tab_find hp]
  obtain ⟨l⟩ := es
  unfold findBy
  rw [List.find?_toArray]
 rw [← e]; exact m
section
variable {X : Cx} {a b e c o i : Expr} {es : List Expr} {fa fb fc fo fi fv : PSt -> M SV} {fs : PSt -> M (List SV)} {pos p apos cpos p2 : Pos} {x : Str} {d : Addr} {tab : List (Str × Addr)}
theorem em_top (hg : Gl X x) (hm : X.mg x = some (.ref d)) (hd : (x == ("__debug__" : Str)) = false := by decide) : EM X (.Name x pos) (mC (.fn d)) :=
 Zbi (pe_glob (v := .ref d) hg hm rfl hd) fun ι H => by unfold Rep; rfl
noncomputable def topG (d : Addr) (tab : List (Str × Addr)) (C : Cs) (x y : SV) : Option SV := match x, deref C y with
 | .v (.fn d'), some (.str k) => if d' = d then (tab.lookup k).map fun f => .v (.fn f) else none
 | _, _ => none
noncomputable def topI (d : Addr) (tab : List (Str × Addr)) (neg : Bool) (C : Cs) (x y : SV) : Option SV := match y, deref C x with
 | .v (.fn d'), some (.str k) => if d' = d then some (.v (.bl (if neg then !(tab.lookup k).isSome else (tab.lookup k).isSome))) else none
 | _, _ => none
theorem ix_top (T : TopD X.K X.w d tab) : IxR X (fun x y H Q => ∃ k f, x = .ref d /\ y = .str k /\ tab.lookup k = some f /\ Q (.ref f) H) := by
 intro value slice pins s σ H x y v u Q I rx ry h hs
 obtain ⟨k, f, rfl, rfl, hk, q⟩ := h
 cases rx
 obtain ⟨t, rfl⟩ := ry
 have m := T.map X.prog I.kIn
 exact tail_any m.typeIs slot_dict_getitem.lookup (wpAny_getItem_of (strKind_is X.prog X.w k t) m (by rw [hk]; rfl) ⟨.ref f, H, I.tok _, rfl, q⟩) hs
theorem topG_ok {K : W.Frag} : R2ok K (fun x y H Q => ∃ k f, x = .ref d /\ y = .str k /\ tab.lookup k = some f /\ Q (.ref f) H) (topG d tab) := by
 intro ι H C x y vx vy z Q cr rx ry e k
 unfold topG at e
 split at e
 ·rename_i d' key hy
  split at e
  ·rename_i hd
   subst hd
   cases hf : tab.lookup key with
   | none => rw [hf] at e; cases e
   | some f =>
    rw [hf] at e
    cases e
    have rx : vx = .ref d' := by unfold RepS Rep at rx; exact rx
    obtain ⟨rfl, _⟩ := liesS (ry.lies cr hy)
    exact ⟨key, f, rx, rfl, hf, k _ H .refl cr (by unfold RepS Rep; rfl)⟩
  ·cases e
 ·cases e
theorem em_topix (T : TopD X.K X.w d tab) (ha : EM X a fa) (hb : EM X b fb) (hs : PlainIx b := by exact fun _ _ => rfl) : EM X (.Subscript a b pos) (mOp (topG d tab) fa fb) := em_ix (ix_top T) topG_ok ha hb hs
theorem op_topnotin (T : TopD X.K X.w d tab) : OpR X (compareOp .NotIn) (fun x y H Q => ∃ k, y = .ref d /\ x = .str k /\ Q (.bl (!(tab.lookup k).isSome)) H) := by
 intro pins s σ H x y v u Q I rx ry h
 obtain ⟨k, rfl, rfl, q⟩ := h
 cases ry
 obtain ⟨t, rfl⟩ := rx
 refine wpAny_notIn_of (strKind_is X.prog X.w k t) T.lo (T.map X.prog I.kIn) ?_
 rw [Option.isSome_map]
 exact ⟨.bl _, H, I.tok _, rfl, q⟩
theorem topI_okN {K : W.Frag} : R2ok K (fun x y H Q => ∃ k, y = .ref d /\ x = .str k /\ Q (.bl (!(tab.lookup k).isSome)) H) (topI d tab true) := by
 intro ι H C x y vx vy z Q cr rx ry e k
 unfold topI at e
 split at e
 ·rename_i d' key hy
  split at e
  ·rename_i hd
   subst hd
   cases e
   have ry : vy = .ref d' := by unfold RepS Rep at ry; exact ry
   obtain ⟨rfl, _⟩ := liesS (rx.lies cr hy)
   exact ⟨key, ry, rfl, k _ H .refl cr repB'⟩
  ·cases e
 ·cases e
noncomputable def callF (T : List (Addr × (List SV -> M SV))) (f : SV) (xs : List SV) : M SV := fun C => match f with
 | .v (.fn a) => match T.lookup a with
  | some F => F xs C
  | none => none
 | _ => none
noncomputable def mCallV (i : Nat) (T : List (Addr × (List SV -> M SV))) (fs : PSt -> M (List SV)) : PSt -> M SV := fun ρ => bnd (mVar i ρ) fun f => bnd (fs ρ) fun xs => callF T f xs
theorem callV_some {T : List (Addr × (List SV -> M SV))} {f : SV} {xs : List SV} {C C2 : Cs} {r : SV} (h : callF T f xs C = some (r, C2)) : ∃ a F, f = .v (.fn a) /\ T.lookup a = some F /\ F xs C = some (r, C2) := by
 unfold callF at h
 split at h
 ·split at h
  ·exact ⟨_, _, rfl, by assumption, h⟩
  ·cases h
 ·cases h
theorem em_callV {k : Nat} {T : List (Addr × (List SV -> M SV))} (i : Nat) (hok : ∀ a F, T.lookup a = some F -> ∃ fd ps, FnOk X.prog X.w X.K X.mg X.base CX0 k a fd ps (liftSp X.K F) /\ W.keepIn X.K (.ref a) = true /\ L2.Binds X.K fd ps []) (hr : Room k X.A) (ha : AM X (e :: es) fs)
  (hN : X.N[i]? = some x := by rfl) (hv : Vis X.env.scope x := by first | exact Or.inl rfl | exact Or.inr (Or.inl rfl) | exact Or.inr (Or.inr rfl)) (hdb : (x == ("__debug__" : Str)) = false := by decide) (hcd : (x == ("__classdict__" : Str)) = false := by decide)
  (he : starEach (e :: es) X.env = (false, eval e X.env) :: starEach es X.env := by rfl) (hpl : (backTo pos (starEach es X.env)).any (·.1) = false := by rfl) :
  EM X (.Call (.Name x p) (e :: es) [] pos) (mCallV i T fs) := by
 intro pins s σ H Q I h_
 obtain ⟨ι, ρ, C, z, C', sr, e, q⟩ := h_
 obtain ⟨f, C1, e1, g1⟩ := Zah e
 obtain ⟨xs, C2, e2, g2⟩ := Zah g1
 obtain ⟨a, F, rfl, hT, e3⟩ := callV_some g2
 obtain ⟨fd, ps, G, hk, hb⟩ := hok a F hT
 refine wpAny_Call_Name_kw (thn (em_var i hN hv hdb hcd pins s σ H (fun v H1 => Fr ι H H1 /\ CR X.K ι H1 C1 /\ v = .ref a) I ⟨ι, ρ, C, _, C1, sr, e1, fun v H1 f1 c1 r1 => ⟨f1, c1, by unfold RepS Rep at r1; exact r1⟩⟩) fun u s1 h_ => ?_)
 obtain ⟨v, H1, I1, r1, f1, c1, hv⟩ := h_
 subst hv
 cases r1
 refine W.callWith_K (h₀ := X.base) I.ok.mod.kin hk (thn (ha pos pins s1 σ H1 (fun vs H2 => Fr ι H1 H2 /\ CR X.K ι H2 C2 /\ RepSs X.K ι H2 xs vs) I1 ⟨ι, ρ, C1, xs, C2, sr.step f1 c1, e2, fun vs H2 f2 c2 r2 => ⟨f2, c2, r2⟩⟩) fun us s2 ⟨vs, H2, I2, r2, f2, c2, rs⟩ => ⟨I2.kIn, ?_⟩) he hpl
 refine run_fn (dvs := []) (ds := []) G hr hb .nil pass0 I2 r2 ?_
 rw [List.append_nil]
 exact ⟨ι, xs, C2, z, C', c2, rs, e3, fun v H3 f3 c3 r3 => q v H3 (f1.trans (f2.trans f3)) c3 r3⟩
theorem hv_of {T : List (Addr × (List SV -> M SV))} {Pd : Addr -> (List SV -> M SV) -> Prop} (h : ∀ q ∈ T, Pd q.1 q.2) : ∀ a F, T.lookup a = some F -> Pd a F := fun a F e => h (a, F) (Za8 e)
noncomputable def mDict0 : PSt -> M SV := fun _ => ret (.v (.dct [] []))
theorem em_dict0 : EM X (.Dict [] [] pos) mDict0 := PE.imp pe_dnewK fun σ H Q h_ => by
 obtain ⟨ι, ρ, C, z, C', sr, e, q⟩ := h_
 cases e
 intro p hp
 refine q _ _ (Fr.new hp) (sr.cr.new hp) ?_
 show Rep _ _ _ (.dct [] []) _
 unfold Rep
 refine ⟨p, [], [], rfl, fun z => ?_, ZaW, rfl, rfl, .nil⟩
 rcases sr.cr.mut z with ⟨_, e⟩ | ⟨_, e⟩ | ⟨_, e⟩
 ·rw [hp] at e; cases e
 ·rw [hp] at e; cases e
 ·rw [hp] at e; cases e
theorem ZbG {K : W.Frag} {x1 x2 q1 q2 : Str} {s1 s2 : Stmt} {f1 f2 : Addr} {d1 d2 : FuncData} (F1 : Fun K x1 q1 s1 f1 d1) (F2 : Fun K x2 q2 s2 f2 d2) (h : x1 ≠ x2) : f1 ≠ f2 := by
 obtain ⟨oc, od, kV, doc, pm, an, cdv, ct, osl, e1, l1, _⟩ := F1.ex
 obtain ⟨oc2, od2, kV2, doc2, pm2, an2, cdv2, ct2, osl2, e2, l2, _⟩ := F2.ex
 intro e
 subst e
 rw [l1] at l2
 injection l2 with l2
 injection l2 with _ _ l3 _
 injection l3 with l4
 rw [e1, e2] at l4
 exact h (congrArg FuncData.name l4)
end
structure NextAt (P : Program) (w : World) (it : Addr) (us : List Addr) (R : Value -> Prop) (st st' : Heap -> Prop) : Prop where
 item : ∀ (A : Around) (E : Value -> Shared -> Prop) (s : Shared) (Q : Value -> Shared -> Prop), st s.heap -> (∀ u h' tk, R u -> st' h' -> Heap.SameBut it s.heap h' -> Q u { s with heap := h', toks := tk }) -> wpAny (model P w) A (Builtin.SmallTypes.nextOf (.ref it)) Q E s
 keep : ∀ h h' : Heap, st h -> (∀ b ∈ us, ∀ o, h.get? b = some o -> h'.get? b = some o) -> st h'
 keep' : ∀ h h' : Heap, st' h -> (∀ b ∈ us, ∀ o, h.get? b = some o -> h'.get? b = some o) -> st' h'
structure EndAt (P : Program) (w : World) (it : Addr) (us : List Addr) (st : Heap -> Prop) : Prop where
 done : ∀ (A : Around) (E : Value -> Shared -> Prop) (s : Shared) (Q : Value -> Shared -> Prop), A.handled = none -> st s.heap -> (∀ h' e, Heap.ExtBut it s.heap h' -> (∃ o, h'.get? e = some o /\ o.cls = .type "StopIteration") -> E (.ref e) { s with heap := h' }) -> wpAny (model P w) A (Builtin.SmallTypes.nextOf (.ref it)) Q E s
 keep : ∀ h h' : Heap, st h -> (∀ b ∈ us, ∀ o, h.get? b = some o -> h'.get? b = some o) -> st h'
structure ZApart (z TI TO i1 i2 : Addr) (us1 us2 : List Addr) : Prop where
 a1 : TI ≠ z
 a2 : TO ≠ z
 a3 : i1 ≠ z
 a4 : i2 ≠ z
 a5 : TI ≠ TO
 a6 : TI ≠ i1
 a7 : TI ≠ i2
 a8 : TO ≠ i1
 a9 : TO ≠ i2
 b1 : z ∉ us1
 b2 : TO ∉ us1
 b3 : i2 ∉ us1
 c1 : z ∉ us2
 c2 : TO ∉ us2
 c3 : i1 ∉ us2
section
variable {P : Program} {w : World} {A : Around} {E : Value -> Shared -> Prop} {s : Shared} {z TI TO i1 i2 : Addr} {us1 us2 : List Addr} {R1 R2 : Value -> Prop} {st1 st1' st2 st2' : Heap -> Prop}
theorem zip_item {a b : Value} {Q : Value -> Shared -> Prop} (D : ZApart z TI TO i1 i2 us1 us2) (N1 : NextAt P w i1 us1 R1 st1 st1') (N2 : NextAt P w i2 us2 R2 st2 st2')
  (hz : IsZip s.heap z TI TO .none) (hTI : IsPair s.heap TI (.ref i1) (.ref i2)) (hTO : IsPair s.heap TO a b) (h1 : st1 s.heap) (h2 : st2 s.heap)
  (hQ : ∀ x y h' tk, R1 x -> R2 y -> IsZip h' z TI TO (rawInt s.heap.objs.size) -> IsPair h' TO x y -> st1' h' -> st2' h' -> IsPair h' s.heap.objs.size x y -> h'.objs.size = s.heap.objs.size + 1 ->
   (∀ c o, c ≠ z -> c ≠ TO -> c ≠ i1 -> c ≠ i2 -> s.heap.get? c = some o -> h'.get? c = some o) -> Q (.ref s.heap.objs.size) { s with heap := h', toks := tk }) :
  wpAny (model P w) A (Builtin.«zip.__next__» ⟨[.ref z], []⟩) (fun fin s' => ∃ v, fin = .done (.ret v) /\ Q v s') E s := by
 show wpAny _ _ (field (.ref z) 2 >>= _) _ _ _; refine wpAny_bind (wpAny_field hz rfl (x := .bool false) rfl ?_)
 show wpAny _ _ (field (.ref z) 3 >>= _) _ _ _; refine wpAny_bind (wpAny_field hz rfl (x := .ref TI) rfl ?_)
 refine wpAny_bind (wpAny_seqItems hTI rfl ?_); show wpAny _ _ (Builtin.SmallTypes.ownedTupleIsFree (.ref z) >>= _) _ _ _
 refine wpAny_bind ?_; unfold Builtin.SmallTypes.ownedTupleIsFree
 refine wpAny_bind (wpAny_field hz rfl (x := .none) rfl (wpAny_pure ?_)); simp only [if_true]
 refine wpAny_bind (wpAny_rule ?_); refine wpAny_bind (wpAny_field hz rfl (x := .ref TO) rfl ?_)
 refine wpAny_bind (wpAny_setField_rec hz (by simp) fun g1 hz1 hs1 => ?_); replace hz1 : IsZip g1 z TI TO .ellipsis := hz1
 refine wpAny_bind ?_; simp only [List.zipIdx_cons, List.zipIdx_nil, List.forIn_cons, List.forIn_nil]
 refine wpAny_bind (wpAny_bind (wpAny_onRaise ?_)); show wpAny _ _ (Builtin.SmallTypes.nextOf (.ref i1) >>= _) _ _ _
 have k1 : ∀ c o, c ≠ z -> s.heap.get? c = some o -> g1.get? c = some o := fun c o n e => hs1.extBut _ _ n e
 refine wpAny_bind (N1.item _ _ _ _ (N1.keep _ _ h1 fun b hb o e => k1 b o (fun q => D.b1 (q ▸ hb)) e) fun x g2 tk2 rx h1' hs2 => wpAny_pure ?_)
 have k2 : ∀ c o, c ≠ z -> c ≠ i1 -> s.heap.get? c = some o -> g2.get? c = some o := fun c o n1 n2 e => hs2.extBut _ _ n2 (k1 c o n1 e)
 have hTO2 : IsPair g2 TO a b := k2 _ _ D.a2 D.a8 hTO
 refine wpAny_bind (wpAny_seqItems hTO2 rfl ?_); refine wpAny_bind (wpAny_updateSeq_pair hTO2 fun g3 hTO3 hs3 => ?_); replace hTO3 : IsPair g3 TO x b := hTO3
 have k3 : ∀ c o, c ≠ z -> c ≠ i1 -> c ≠ TO -> s.heap.get? c = some o -> g3.get? c = some o := fun c o n1 n2 n3 e => hs3.extBut _ _ n3 (k2 c o n1 n2 e)
 refine wpAny_bind (wpAny_letGo (wpAny_pure ?_)); refine wpAny_bind (wpAny_bind (wpAny_onRaise ?_)); show wpAny _ _ (Builtin.SmallTypes.nextOf (.ref i2) >>= _) _ _ _
 refine wpAny_bind (N2.item _ _ _ _ (N2.keep _ _ h2 fun b hb o e => k3 b o (fun q => D.c1 (q ▸ hb)) (fun q => D.c3 (q ▸ hb)) (fun q => D.c2 (q ▸ hb)) e) fun y g4 tk4 ry h2' hs4 => wpAny_pure ?_)
 have hTO4 : IsPair g4 TO x b := hs4.extBut _ _ D.a9 hTO3
 refine wpAny_bind (wpAny_seqItems hTO4 rfl ?_); refine wpAny_bind (wpAny_updateSeq_pair hTO4 fun g5 hTO5 hs5 => ?_); replace hTO5 : IsPair g5 TO x y := hTO5
 refine wpAny_bind (wpAny_letGo (wpAny_pure (wpAny_pure ?_))); refine wpAny_bind (wpAny_seqItems hTO5 rfl ?_); refine wpAny_bind (wpAny_newTuple ?_)
 have e1 := hs1.1; have e2 := hs2.1; have e3 := hs3.1; have e4 := hs4.1; have e5 := hs5.1
 have hsz : g5.objs.size = s.heap.objs.size := by simp only at e2 e4; rw [e5, e4, e3, e2, e1]
 have k5 : ∀ c o, c ≠ z -> c ≠ TO -> c ≠ i1 -> c ≠ i2 -> s.heap.get? c = some o -> g5.get? c = some o := fun c o n1 n2 n3 n4 e => hs5.extBut _ _ n2 (hs4.extBut _ _ n4 (k3 c o n1 n3 n2 e))
 have hz5 : IsZip g5 z TI TO .ellipsis := hs5.extBut _ _ D.a2.symm (hs4.extBut _ _ D.a4.symm (hs3.extBut _ _ D.a2.symm (hs2.extBut _ _ D.a3.symm hz1)))
 have q1 : st1' g5 := N1.keep' _ _ h1' fun b hb o e => hs5.extBut _ _ (fun q => D.b2 (q ▸ hb)) (hs4.extBut _ _ (fun q => D.b3 (q ▸ hb)) (hs3.extBut _ _ (fun q => D.b2 (q ▸ hb)) e))
 have q2 : st2' g5 := N2.keep' _ _ h2' fun b hb o e => hs5.extBut _ _ (fun q => D.c2 (q ▸ hb)) e
 have ltz : z < g5.objs.size := Heap.lt_size hz5
 show wpAny _ _ (Builtin.SmallTypes.ownedTupleHandOut (.ref z) (.ref g5.objs.size) >>= _) _ _ _
 refine wpAny_bind ?_; unfold Builtin.SmallTypes.ownedTupleHandOut
 have hz6 : IsZip (g5.push { cls := .type "tuple", data := .seq #[x, y] }) z TI TO .ellipsis := Heap.get?_push_of_some _ hz5
 refine wpAny_bind (wpAny_setField_rec hz6 (by simp) fun g7 hz7 hs7 => ?_); replace hz7 : IsZip g7 z TI TO (rawInt g5.objs.size) := hz7
 refine wpAny_setField_rec hz7 (by simp) fun g8 hz8 hs8 => ?_; replace hz8 : IsZip g8 z TI TO (rawInt g5.objs.size) := hz8
 have up : ∀ c o, c ≠ z -> g5.get? c = some o -> g8.get? c = some o := fun c o n e => hs8.extBut _ _ n (hs7.extBut _ _ n (Heap.get?_push_of_some _ e))
 have hT8 : IsPair g8 g5.objs.size x y := hs8.extBut _ _ (Nat.ne_of_gt ltz) (hs7.extBut _ _ (Nat.ne_of_gt ltz) (Heap.get?_push_size _ rfl))
 have sz8 : g8.objs.size = g5.objs.size + 1 := by rw [hs8.1, hs7.1, Heap.size_push]
 rw [hsz] at hz8 hT8 sz8; refine wpAny_pure ⟨_, rfl, ?_⟩; show Q (.ref g5.objs.size) _; rw [hsz]
 exact hQ x y g8 _ rx ry hz8 (up _ _ D.a2 hTO5) (N1.keep' _ _ q1 fun b hb o e => up b o (fun q => D.b1 (q ▸ hb)) e) (N2.keep' _ _ q2 fun b hb o e => up b o (fun q => D.c1 (q ▸ hb)) e) hT8 sz8 fun c o n1 n2 n3 n4 e => up c o n1 (k5 c o n1 n2 n3 n4 e)
theorem zip_end {a b : Value} {Q : Fin -> Shared -> Prop} (hh : A.handled = none) (D : ZApart z TI TO i1 i2 us1 us2)
  (N : EndAt P w i1 us1 st1 \/ ∃ R1 st1', NextAt P w i1 us1 R1 st1 st1' /\ EndAt P w i2 us2 st2)
  (hz : IsZip s.heap z TI TO .none) (hTI : IsPair s.heap TI (.ref i1) (.ref i2)) (hTO : IsPair s.heap TO a b) (h1 : st1 s.heap) (h2 : st2 s.heap)
  (hE : ∀ h' e tk, (∀ c o, c ≠ z -> c ≠ TO -> c ≠ i1 -> c ≠ i2 -> s.heap.get? c = some o -> h'.get? c = some o) -> (∃ o, h'.get? e = some o /\ o.cls = .type "StopIteration") -> E (.ref e) { s with heap := h', toks := tk }) :
  wpAny (model P w) A (Builtin.«zip.__next__» ⟨[.ref z], []⟩) Q E s := by
 show wpAny _ _ (field (.ref z) 2 >>= _) _ _ _; refine wpAny_bind (wpAny_field hz rfl (x := .bool false) rfl ?_)
 show wpAny _ _ (field (.ref z) 3 >>= _) _ _ _; refine wpAny_bind (wpAny_field hz rfl (x := .ref TI) rfl ?_)
 refine wpAny_bind (wpAny_seqItems hTI rfl ?_); show wpAny _ _ (Builtin.SmallTypes.ownedTupleIsFree (.ref z) >>= _) _ _ _
 refine wpAny_bind ?_; unfold Builtin.SmallTypes.ownedTupleIsFree
 refine wpAny_bind (wpAny_field hz rfl (x := .none) rfl (wpAny_pure ?_)); simp only [if_true]
 refine wpAny_bind (wpAny_rule ?_); refine wpAny_bind (wpAny_field hz rfl (x := .ref TO) rfl ?_)
 refine wpAny_bind (wpAny_setField_rec hz (by simp) fun g1 hz1 hs1 => ?_); replace hz1 : IsZip g1 z TI TO .ellipsis := hz1
 refine wpAny_bind ?_; simp only [List.zipIdx_cons, List.zipIdx_nil, List.forIn_cons, List.forIn_nil]
 refine wpAny_bind (wpAny_bind (wpAny_onRaise ?_)); show wpAny _ _ (Builtin.SmallTypes.nextOf (.ref i1) >>= _) _ _ _
 have k1 : ∀ c o, c ≠ z -> s.heap.get? c = some o -> g1.get? c = some o := fun c o n e => hs1.extBut _ _ n e
 rcases N with N1 | ⟨R1, st1', N1, N2⟩
 ·refine wpAny_bind (N1.done _ _ _ _ hh (N1.keep _ _ h1 fun b hb o e => k1 b o (fun q => D.b1 (q ▸ hb)) e) fun g2 e hs2 he => ?_)
  obtain ⟨oe, hoe, hce⟩ := he
  have hz2 : IsZip g2 z TI TO .ellipsis := hs2 _ _ D.a3.symm hz1
  have hez : e ≠ z := fun x => by subst x; rw [hz2] at hoe; cases hoe; simp at hce
  refine wpAny_setField_rec hz2 (by simp) fun g3 _ hs3 => hE g3 e s.toks (fun c o n1 _ n3 _ x => hs3.extBut _ _ n1 (hs2 _ _ n3 (k1 c o n1 x))) ⟨oe, hs3.extBut _ _ hez hoe, hce⟩
 ·refine wpAny_bind (N1.item _ _ _ _ (N1.keep _ _ h1 fun b hb o e => k1 b o (fun q => D.b1 (q ▸ hb)) e) fun x g2 tk2 rx h1' hs2 => wpAny_pure ?_)
  have k2 : ∀ c o, c ≠ z -> c ≠ i1 -> s.heap.get? c = some o -> g2.get? c = some o := fun c o n1 n2 e => hs2.extBut _ _ n2 (k1 c o n1 e)
  have hTO2 : IsPair g2 TO a b := k2 _ _ D.a2 D.a8 hTO
  refine wpAny_bind (wpAny_seqItems hTO2 rfl ?_); refine wpAny_bind (wpAny_updateSeq_pair hTO2 fun g3 hTO3 hs3 => ?_); replace hTO3 : IsPair g3 TO x b := hTO3
  have k3 : ∀ c o, c ≠ z -> c ≠ i1 -> c ≠ TO -> s.heap.get? c = some o -> g3.get? c = some o := fun c o n1 n2 n3 e => hs3.extBut _ _ n3 (k2 c o n1 n2 e)
  refine wpAny_bind (wpAny_letGo (wpAny_pure ?_)); refine wpAny_bind (wpAny_bind (wpAny_onRaise ?_)); show wpAny _ _ (Builtin.SmallTypes.nextOf (.ref i2) >>= _) _ _ _
  refine wpAny_bind (N2.done _ _ _ _ hh (N2.keep _ _ h2 fun b hb o e => k3 b o (fun q => D.c1 (q ▸ hb)) (fun q => D.c3 (q ▸ hb)) (fun q => D.c2 (q ▸ hb)) e) fun g4 e hs4 he => ?_)
  obtain ⟨oe, hoe, hce⟩ := he
  have hz4 : IsZip g4 z TI TO .ellipsis := hs4 _ _ D.a4.symm (hs3.extBut _ _ D.a2.symm (hs2.extBut _ _ D.a3.symm hz1))
  have hez : e ≠ z := fun x => by subst x; rw [hz4] at hoe; cases hoe; simp at hce
  refine wpAny_setField_rec hz4 (by simp) fun g5 _ hs5 => hE g5 e tk2 (fun c o n1 n2 n3 n4 x => hs5.extBut _ _ n1 (hs4 _ _ n4 (k3 c o n1 n3 n2 x))) ⟨oe, hs5.extBut _ _ hez hoe, hce⟩
theorem zip_next {a b : Value} {Q : Option Value -> Shared -> Prop} (D : ZApart z TI TO i1 i2 us1 us2) (N1 : NextAt P w i1 us1 R1 st1 st1') (N2 : NextAt P w i2 us2 R2 st2 st2')
  (hz : IsZip s.heap z TI TO .none) (hTI : IsPair s.heap TI (.ref i1) (.ref i2)) (hTO : IsPair s.heap TO a b) (h1 : st1 s.heap) (h2 : st2 s.heap)
  (hQ : ∀ x y h' tk, R1 x -> R2 y -> IsZip h' z TI TO (rawInt s.heap.objs.size) -> IsPair h' TO x y -> st1' h' -> st2' h' -> IsPair h' s.heap.objs.size x y -> h'.objs.size = s.heap.objs.size + 1 ->
   (∀ c o, c ≠ z -> c ≠ TO -> c ≠ i1 -> c ≠ i2 -> s.heap.get? c = some o -> h'.get? c = some o) -> Q (some (.ref s.heap.objs.size)) { s with heap := h', toks := tk }) :
  wpAny (model P w) A (pyNext (.ref z)) Q E s := by
 have hT : s.TypeIs (.ref z) "zip" := ⟨_, hz, rfl⟩
 unfold pyNext
 exact wpAny_bind (wpAny_attempt (wpAny_callSpecial?_slot (name := Str.ofString "__next__") hT PySem.F.slot_zip_next (wpAny_call_entry PySem.F.slot_zip_next hT PySem.F.entry_zip_next
   (zip_item D N1 N2 hz hTI hTO h1 h2 fun x y h' tk a1 a2 a3 a4 a5 a6 a7 a8 a9 => wpAny_pure (hQ x y h' tk a1 a2 a3 a4 a5 a6 a7 a8 a9)) (PySem.F.args_zip_next_1 _))))
theorem zip_done {a b : Value} {Q : Option Value -> Shared -> Prop} (hh : A.handled = none) (D : ZApart z TI TO i1 i2 us1 us2)
  (N : EndAt P w i1 us1 st1 \/ ∃ R1 st1', NextAt P w i1 us1 R1 st1 st1' /\ EndAt P w i2 us2 st2)
  (hz : IsZip s.heap z TI TO .none) (hTI : IsPair s.heap TI (.ref i1) (.ref i2)) (hTO : IsPair s.heap TO a b) (h1 : st1 s.heap) (h2 : st2 s.heap)
  (hQ : ∀ h' tk, (∀ c o, c ≠ z -> c ≠ TO -> c ≠ i1 -> c ≠ i2 -> s.heap.get? c = some o -> h'.get? c = some o) -> Q none { s with heap := h', toks := tk }) : wpAny (model P w) A (pyNext (.ref z)) Q E s := by
 have hT : s.TypeIs (.ref z) "zip" := ⟨_, hz, rfl⟩
 unfold pyNext
 refine wpAny_bind (wpAny_attempt (wpAny_callSpecial?_slot (name := Str.ofString "__next__") hT PySem.F.slot_zip_next (wpAny_call_entry PySem.F.slot_zip_next hT PySem.F.entry_zip_next (zip_end hh D N hz hTI hTO h1 h2 fun h' e tk hk he => ?_) (PySem.F.args_zip_next_1 _))))
 obtain ⟨o, ho, hc⟩ := he
 exact wpAny_bind (wpAny_isInstance (T := "StopIteration") (b := true) ⟨o, ho, hc⟩ isSubtype_stop (wpAny_pure (hQ _ _ hk)))
theorem tup_nextOf {it t : Addr} {i : Nat} {items : Array Value} {x : Value} {Q : Value -> Shared -> Prop} (hit : s.heap.IsTupleIter it t i) (ht : s.heap.IsTuple t items) (hx : items[i]? = some x)
  (hQ : ∀ h', h'.IsTupleIter it t (i + 1) -> Heap.SameBut it s.heap h' -> Q x { s with heap := h' }) : wpAny (model P w) A (Builtin.SmallTypes.nextOf (.ref it)) Q E s := by
 obtain ⟨o, ho, hc, hd⟩ := id hit; obtain ⟨ol, hol, _, nl, hdl⟩ := ht
 unfold Builtin.SmallTypes.nextOf
 refine wpAny_bind (wpAny_callSpecial?_slot (name := Str.ofString "__next__") hit.typeIs PySem.F.slot_tuple_iterator_next (wpAny_call_entry PySem.F.slot_tuple_iterator_next hit.typeIs PySem.F.entry_tuple_iterator_next ?_ (PySem.F.args_tuple_iterator_next_1 _)))
 show wpAny _ _ (field (.ref it) 0 >>= _) _ _ s; refine wpAny_bind (wpAny_field ho hd (x := .ref t) rfl ?_)
 show wpAny _ _ (if (Value.ref t == Value.none) = true then _ else _) _ _ s; rw [if_neg (show ¬ ((Value.ref t == Value.none) = true) from Bool.false_ne_true)]
 show wpAny _ _ (field (.ref it) 1 >>= _) _ _ s; refine wpAny_bind (wpAny_field ho hd (x := .int i 0) rfl ?_)
 show wpAny _ _ (seqItems? (.ref t) >>= _) _ _ s; refine wpAny_bind (wpAny_seqItems hol hdl ?_); simp only [Int.toNat_natCast, hx]
 refine wpAny_bind (wpAny_setField ho hd (by simp) (wpAny_pure ⟨x, rfl, wpAny_pure (hQ _ ?_ (Heap.SameBut.update ..))⟩)); exact ⟨_, Heap.get?_update_self _ ho (Obj.isFreed_of_fields (Obj.data_mapFields hd _)), (Obj.cls_mapFields ..).trans hc, by rw [Obj.data_mapFields hd]; simp [rawInt]⟩
theorem tup_nextEnd {it t : Addr} {i : Nat} {items : Array Value} {Q : Value -> Shared -> Prop} (hh : A.handled = none) (hit : s.heap.IsTupleIter it t i) (ht : s.heap.IsTuple t items) (hx : items[i]? = none)
  (hE : ∀ h' e, Heap.ExtBut it s.heap h' -> (∃ o, h'.get? e = some o /\ o.cls = .type "StopIteration") -> E (.ref e) { s with heap := h' }) : wpAny (model P w) A (Builtin.SmallTypes.nextOf (.ref it)) Q E s := by
 obtain ⟨o, ho, hc, hd⟩ := id hit; obtain ⟨ol, hol, _, nl, hdl⟩ := ht
 unfold Builtin.SmallTypes.nextOf
 refine wpAny_bind (wpAny_callSpecial?_slot (name := Str.ofString "__next__") hit.typeIs PySem.F.slot_tuple_iterator_next (wpAny_call_entry PySem.F.slot_tuple_iterator_next hit.typeIs PySem.F.entry_tuple_iterator_next ?_ (PySem.F.args_tuple_iterator_next_1 _)))
 show wpAny _ _ (field (.ref it) 0 >>= _) _ _ s; refine wpAny_bind (wpAny_field ho hd (x := .ref t) rfl ?_)
 show wpAny _ _ (if (Value.ref t == Value.none) = true then _ else _) _ _ s; rw [if_neg (show ¬ ((Value.ref t == Value.none) = true) from Bool.false_ne_true)]
 show wpAny _ _ (field (.ref it) 1 >>= _) _ _ s; refine wpAny_bind (wpAny_field ho hd (x := .int i 0) rfl ?_)
 show wpAny _ _ (seqItems? (.ref t) >>= _) _ _ s; refine wpAny_bind (wpAny_seqItems hol hdl ?_); simp only [Int.toNat_natCast, hx]
 refine wpAny_bind (wpAny_rule (wpAny_bind (wpAny_setField ho hd (by simp) ?_))); show wpAny _ _ (newExc (.type "StopIteration") [] >>= _) _ _ _
 refine wpAny_bind ?_; simp only [newExc, newTuple]; refine wpAny_bind (wpAny_newObj_type ?_ (by size_fits))
 refine wpAny_bind (m := firstArgMember _ _) (wpAny_of_eq (a := Value.none) (by first | rfl | (simp only [firstArgMember]; rfl)) ?_); refine wpAny_newObj_type ?_ (by size_fits)
 simp only [raiseNew]; refine wpAny_bind (wpAny_handled ?_); first | rw [show A.in1.handled = none from hh] | rw [hh]
 refine wpAny_bind (wpAny_pure (wpAny_throw ?_)); exact hE _ _ (((Heap.SameBut.update ..).extBut.push _).push _) ⟨_, Heap.get?_push_size _ rfl, rfl⟩
end
inductive ZS where
 | l (a : Addr) | t (a : Addr) | s (z : Str) (tk : Tok) (wd : Bool)
noncomputable def ZS.at' (S : ZS) (it : Addr) (i : Nat) (h : Heap) : Prop := match S with
 | .l a => h.IsListIter it a i
 | .t a => h.IsTupleIter it a i
 | .s z tk wd => h.IsStrIter it (if wd then "str_iterator" else "str_ascii_iterator") z tk i
noncomputable def ZS.has (K : W.Frag) (H : Hp) (S : ZS) (i : Nat) (v : V) : Prop := match S with
 | .l a => ∃ xs, SqL K H a xs /\ xs[i]? = some v
 | .t a => ∃ xs, SqT K H a xs /\ xs[i]? = some v
 | .s z _ _ => ∃ c, z.cps[i]? = some c /\ v = .str ⟨#[c]⟩
noncomputable def ZS.ends (K : W.Frag) (H : Hp) (S : ZS) (i : Nat) : Prop := match S with
 | .l a => ∃ xs, SqL K H a xs /\ xs.length <= i
 | .t a => ∃ xs, SqT K H a xs /\ xs.length <= i
 | .s z _ _ => z.cps.size <= i
noncomputable def ZS.us (S : ZS) (it : Addr) : List Addr := match S with
 | .l a => [it, a]
 | .t a => [it, a]
 | .s _ _ _ => [it]
theorem ZS.keepAt {S : ZS} {it : Addr} {i : Nat} {h h' : Heap} (x : S.at' it i h) (k : ∀ o, h.get? it = some o -> h'.get? it = some o) : S.at' it i h' := by
 cases S with
 | l a => exact Heap.IsListIter.at x k
 | t a => exact Heap.IsTupleIter.at x k
 | s z tk wd => obtain ⟨o, e, r⟩ := x; exact ⟨o, k o e, r⟩
section
variable {X : Cx} {pins : List (Addr × Obj)} {σ : St} {H : Hp} {s : Shared}
theorem next_of {S : ZS} {it : Addr} {i : Nat} {v : V} (I : Inv X pins σ H s) (hs : S.has X.K H i v) (ne : ∀ b ∈ S.us it, b = it \/ b ≠ it) (hne : ∀ a, (S = .l a \/ S = .t a) -> a ≠ it) :
  ∃ st : Heap -> Prop, (S.at' it i s.heap -> st s.heap) /\ NextAt X.prog X.w it (S.us it) (fun u => RelV v u) st (fun h => S.at' it (i + 1) h) := by
 cases S with
 | l a =>
  obtain ⟨xs, hq, hx⟩ := hs
  obtain ⟨its, rv, p, hz⟩ := I.list hq
  obtain ⟨u, hu, ru⟩ := rv.get hx
  refine ⟨fun h => h.IsListIter it a i /\ h.IsList a its.toArray, fun x => ⟨x, p.isList⟩, ⟨fun A E s Q st hQ => ?_, fun h h' st k => ⟨st.1.at fun o e => k it (by simp [ZS.us]) o e, st.2.at fun o e => k a (by simp [ZS.us]) o e⟩, fun h h' st k => Heap.IsListIter.at st fun o e => k it (by simp [ZS.us]) o e⟩⟩
  exact wpAny_nextOf_list_item st.1 st.2 (x := u) (by simpa using hu) fun h' a1 a2 => hQ u h' s.toks ru a1 a2
 | t a =>
  obtain ⟨xs, hq, hx⟩ := hs
  obtain ⟨its, rv, p, hz⟩ := I.tuple hq
  obtain ⟨u, hu, ru⟩ := rv.get hx
  refine ⟨fun h => h.IsTupleIter it a i /\ h.IsTuple a its.toArray, fun x => ⟨x, p⟩, ⟨fun A E s Q st hQ => ?_, fun h h' st k => ⟨st.1.at fun o e => k it (by simp [ZS.us]) o e, st.2.at fun o e => k a (by simp [ZS.us]) o e⟩, fun h h' st k => Heap.IsTupleIter.at st fun o e => k it (by simp [ZS.us]) o e⟩⟩
  exact tup_nextOf st.1 st.2 (x := u) (by simpa using hu) fun h' a1 a2 => hQ u h' s.toks ru a1 a2
 | s z tk wd =>
  obtain ⟨c, hc, rfl⟩ := hs
  refine ⟨fun h => ZS.at' (.s z tk wd) it i h, fun x => x, ⟨fun A E s Q st hQ => ?_, fun h h' st k => ZS.keepAt st fun o e => k it (by simp [ZS.us]) o e, fun h h' st k => ZS.keepAt (S := .s z tk wd) st fun o e => k it (by simp [ZS.us]) o e⟩⟩
  cases wd with
  | true => exact wpAny_nextOf_wide_item st hc fun h' a1 a2 => hQ _ h' _ ⟨_, rfl⟩ a1 a2
  | false => exact wpAny_nextOf_ascii_item st hc fun h' a1 a2 => hQ _ h' _ ⟨_, rfl⟩ a1 a2
theorem end_of {S : ZS} {it : Addr} {i : Nat} (I : Inv X pins σ H s) (hs : S.ends X.K H i) : ∃ st : Heap -> Prop, (S.at' it i s.heap -> st s.heap) /\ EndAt X.prog X.w it (S.us it) st := by
 cases S with
 | l a =>
  obtain ⟨xs, hq, hx⟩ := hs
  obtain ⟨its, rv, p, hz⟩ := I.list hq
  have hl := rv.length
  exact ⟨fun h => h.IsListIter it a i /\ h.IsList a its.toArray, fun x => ⟨x, p.isList⟩, ⟨fun A E s Q hh st hE => wpAny_nextOf_list_end hh st.1 st.2 (by simp; lia) hE, fun h h' st k => ⟨st.1.at fun o e => k it (by simp [ZS.us]) o e, st.2.at fun o e => k a (by simp [ZS.us]) o e⟩⟩⟩
 | t a =>
  obtain ⟨xs, hq, hx⟩ := hs
  obtain ⟨its, rv, p, hz⟩ := I.tuple hq
  have hl := rv.length
  exact ⟨fun h => h.IsTupleIter it a i /\ h.IsTuple a its.toArray, fun x => ⟨x, p⟩, ⟨fun A E s Q hh st hE => tup_nextEnd hh st.1 st.2 (by simp; lia) hE, fun h h' st k => ⟨st.1.at fun o e => k it (by simp [ZS.us]) o e, st.2.at fun o e => k a (by simp [ZS.us]) o e⟩⟩⟩
 | s z tk wd =>
  refine ⟨fun h => ZS.at' (.s z tk wd) it i h, fun x => x, ⟨fun A E s Q hh st hE => ?_, fun h h' st k => ZS.keepAt st fun o e => k it (by simp [ZS.us]) o e⟩⟩
  have hx : z.cps[i]? = none := Array.getElem?_eq_none hs
  cases wd with
  | true => exact wpAny_nextOf_wide_end hh st hx hE
  | false => exact wpAny_nextOf_ascii_end hh st hx hE
end
noncomputable def ZS.val : ZS -> Value
 | .l a => .ref a
 | .t a => .ref a
 | .s z tk _ => .str z tk
noncomputable def ZS.obj : ZS -> Obj
 | .l a => { cls := .type "list_iterator", data := .fields #[.ref a, .int 0 0] }
 | .t a => { cls := .type "tuple_iterator", data := .fields #[.ref a, .int 0 0] }
 | .s z tk wd => { cls := .type (if wd then "str_iterator" else "str_ascii_iterator"), data := .fields #[.str z tk, .int 0 0] }
noncomputable def ZS.src (S : ZS) (h : Heap) : Prop := match S with
 | .l a => ∃ its, h.IsList a its
 | .t a => ∃ its, h.IsTuple a its
 | .s z _ wd => wd = !(z.cps.all (· < 128))
theorem ZS.src_push {S : ZS} {h : Heap} (x : S.src h) (o : Obj) : S.src (h.push o) := by
 cases S with
 | l a => obtain ⟨its, e⟩ := x; exact ⟨its, Heap.IsList.push e _⟩
 | t a => obtain ⟨its, e⟩ := x; exact ⟨its, Heap.IsTuple.at e fun o e => Heap.get?_push_of_some _ e⟩
 | s z tk wd => exact x
theorem ZS.iter {S : ZS} {P : Program} {w : World} {A : Around} {E : Value -> Shared -> Prop} {s : Shared} {Q : Value -> Shared -> Prop} (x : S.src s.heap) (hQ : Q (.ref s.heap.objs.size) { s with heap := s.heap.push S.obj }) :
  wpAny (model P w) A (pyIter S.val) Q E s := by
 cases S with
 | l a => obtain ⟨its, e⟩ := x; exact wpAny_pyIter_list e hQ
 | t a => obtain ⟨its, e⟩ := x; exact wpAny_pyIter_tuple e hQ
 | s z tk wd =>
  cases ha : z.cps.all (· < 128) with
  | true =>
   have : wd = false := by rw [show wd = !(z.cps.all (· < 128)) from x, ha]; rfl
   subst this
   exact wpAny_pyIter_ascii ha hQ
  | false =>
   have : wd = true := by rw [show wd = !(z.cps.all (· < 128)) from x, ha]; rfl
   subst this
   exact wpAny_pyIter_wide ha hQ
noncomputable abbrev zH3 (h : Heap) (S1 S2 : ZS) : Heap := ((h.push S1.obj).push S2.obj).push { cls := .type "tuple", data := .seq #[.ref h.objs.size, .ref (h.push S1.obj).objs.size] }
noncomputable abbrev zH4 (h : Heap) (S1 S2 : ZS) : Heap := (zH3 h S1 S2).push { cls := .type "tuple", data := .seq #[.none, .none] }
noncomputable abbrev zH5 (h : Heap) (S1 S2 : ZS) : Heap := (zH4 h S1 S2).push { cls := .type "zip", data := .fields #[.none, .bool false, .bool false, .ref ((h.push S1.obj).push S2.obj).objs.size, .ref (zH3 h S1 S2).objs.size] }
theorem zip_new (S1 S2 : ZS) : Meets (Builtin.«zip.__new__» ⟨[.type "zip", S1.val, S2.val], []⟩) (fun _ R s => S1.src s.heap ∧ S2.src s.heap ∧ R (.ok (.ret (.ref (zH4 s.heap S1 S2).objs.size))) { s with heap := zH5 s.heap S1 S2 }) :=
  .of_wp fun prog w A R ⟨hp, g, d, tk, os⟩ ⟨hl1, hl2, h⟩ => by
    have below := sub_zip
    have hL1 : S1.src (Shared.heap ⟨hp, g, d, tk, os⟩) := hl1
    have hL2 : S2.src (Shared.heap ⟨hp.push S1.obj, g, d, tk, os⟩) := ZS.src_push hl2 _
    wp_walk using ZS.iter hL1, ZS.iter hL2
    exact ⟨_, rfl, h⟩
section
variable {X : Cx} {pins : List (Addr × Obj)} {σ : St} {H : Hp} {s : Shared}
theorem turnedL {t' : Nat} {h' : Heap} {ch : List Addr} (I : Inv X pins σ H s) (k : ∀ b o, b ∉ ch -> s.heap.get? b = some o -> h'.get? b = some o) (hf : ∀ b ∈ ch, FpOk X pins H b) : Inv X pins σ H { s with heap := h', toks := t' } := by
 have nit : ∀ b u, H b = some u -> b ∉ ch := fun b u e z => by rw [(hf b z).1] at e; cases e
 refine I.step (g' := s.gens) (d' := s.drawn) (ch := ch) (fun b hb => ⟨(hf b hb).2.2.2.1, (hf b hb).2.1, (hf b hb).2.2.2.2.1, (hf b hb).2.2.2.2.2⟩) (fun b o _ _ hc e _ => k b o hc e) (fun b o _ _ hc e _ => ⟨o.slots, k b o hc e⟩) (fun _ _ _ _ n => n)
  (fun b o hc e => ⟨o, k b o hc e⟩) (fun _ _ e => e) (fun _ _ _ e => e) (fun b ps e => ⟨#[], by rw [e]; simp⟩) (fun m hm => ?_) (fun b u e => ?_) I.bare
 ·obtain ⟨o, es, ep, ho, r⟩ := hm
  exact ⟨o, es, ep, k _ o (fun z => (hf _ z).2.1 rfl) ho, r⟩
 ·refine (I.hok b u e).stay (fun c v hc q => k c v ?_ q) (fun _ q => q) fun _ _ q => q
  rcases hc with z | z
  ·rw [z]; exact nit b u e
  ·exact nit c _ z
theorem Zce {a b : Addr} {xs : List V} (I : Inv X pins σ H s) (h : SqL X.K H a xs) (f : FpOk X pins H b) : a ≠ b := by
 rintro rfl
 rcases h with (h | ⟨o, h⟩) | ⟨o, its, n, hk, _⟩
 ·rw [f.1] at h; cases h
 ·rw [f.1] at h; cases h
 ·have hb := I.ok.mod.kin _ _ hk
  rcases f.2.2.2.1 with z | z
  ·exact I.ok.noex _ _ hb z
  ·exact absurd (Nat.lt_of_lt_of_le (Heap.lt_size hb) (Nat.le_trans I.ok.bsz z)) (Nat.lt_irrefl _)
theorem Zcd {a b : Addr} {xs : List V} (I : Inv X pins σ H s) (h : SqT X.K H a xs) (f : FpOk X pins H b) : a ≠ b := by
 rintro rfl
 rcases h with (h | ⟨o, h⟩) | ⟨o, its, n, hk, _⟩
 ·rw [f.1] at h; cases h
 ·rw [f.1] at h; cases h
 ·have hb := I.ok.mod.kin _ _ hk
  rcases f.2.2.2.1 with z | z
  ·exact I.ok.noex _ _ hb z
  ·exact absurd (Nat.lt_of_lt_of_le (Heap.lt_size hb) (Nat.le_trans I.ok.bsz z)) (Nat.lt_irrefl _)
noncomputable def ZS.rd (S : ZS) (K : W.Frag) (H : Hp) : Prop := match S with
 | .l a => ∃ xs, SqL K H a xs
 | .t a => ∃ xs, SqT K H a xs
 | .s _ _ _ => True
theorem Zb9 {S : ZS} {it b : Addr} (I : Inv X pins σ H s) (r : S.rd X.K H) (f : FpOk X pins H b) (hb : it ≠ b) : b ∉ S.us it := by
 cases S with
 | l a =>
  obtain ⟨xs, h⟩ := r
  intro z
  rcases List.mem_cons.mp z with z | z
  ·exact hb z.symm
  ·exact Zce I h f (List.mem_singleton.mp z).symm
 | t a =>
  obtain ⟨xs, h⟩ := r
  intro z
  rcases List.mem_cons.mp z with z | z
  ·exact hb z.symm
  ·exact Zcd I h f (List.mem_singleton.mp z).symm
 | s z tk wd =>
  intro q
  exact hb (List.mem_singleton.mp q).symm
theorem has_inj {S : ZS} {i : Nat} {u v : V} (I : Inv X pins σ H s) (h : S.has X.K H i u) (h' : S.has X.K H i v) : u = v := by
 cases S with
 | l a =>
  obtain ⟨xs, h1, h2⟩ := h
  obtain ⟨ys, h3, h4⟩ := h'
  rw [I.list_inj h1 h3, h4] at h2
  exact (Option.some.inj h2).symm
 | t a =>
  obtain ⟨xs, h1, h2⟩ := h
  obtain ⟨ys, h3, h4⟩ := h'
  rw [I.tuple_inj h1 h3, h4] at h2
  exact (Option.some.inj h2).symm
 | s z tk wd =>
  obtain ⟨c, h1, rfl⟩ := h
  obtain ⟨d, h2, rfl⟩ := h'
  rw [h1] at h2
  cases h2; rfl
theorem ZS.has_rd {S : ZS} {K : W.Frag} {i : Nat} {v : V} (h : S.has K H i v) : S.rd K H := by
 cases S with
 | l a => obtain ⟨xs, h, _⟩ := h; exact ⟨xs, h⟩
 | t a => obtain ⟨xs, h, _⟩ := h; exact ⟨xs, h⟩
 | s z tk wd => trivial
end
structure ZNe (z TI TO i1 i2 : Addr) : Prop where
 a1 : TI ≠ z
 a2 : TO ≠ z
 a3 : i1 ≠ z
 a4 : i2 ≠ z
 a5 : TI ≠ TO
 a6 : TI ≠ i1
 a7 : TI ≠ i2
 a8 : TO ≠ i1
 a9 : TO ≠ i2
 a10 : i1 ≠ i2
theorem zne (n : Nat) : ZNe (n + 4) (n + 2) (n + 3) n (n + 1) := by
 have h : ∀ a b : Nat, a ≠ b -> n + a ≠ n + b := fun a b h e => h (Nat.add_left_cancel e)
 exact ⟨h 2 4 (by decide), h 3 4 (by decide), h 0 4 (by decide), h 1 4 (by decide), h 2 3 (by decide), h 2 0 (by decide), h 2 1 (by decide), h 3 0 (by decide), h 3 1 (by decide), h 0 1 (by decide)⟩
noncomputable def Jz (K : W.Frag) (S1 S2 : ZS) : It := ⟨fun i H => (∃ v, S1.has K H i v) /\ ∃ v, S2.has K H i v, fun i H x H' => ∃ a u v, H a = none /\ x = .ref a /\ H' = upd H a (.tup [u, v]) /\ (∀ u', S1.has K H i u' -> u' = u) /\ ∀ v', S2.has K H i v' -> v' = v,
 fun i H => S1.rd K H /\ S2.rd K H /\ (S1.ends K H i \/ ((∃ v, S1.has K H i v) /\ S2.ends K H i))⟩
theorem turn_zip {P : Program} {w : World} {K : W.Frag} {elts : List Expr} {x1 : Nat} {pos : Pos} {S1 S2 : ZS} {z TI TO i1 i2 : Addr} (N : ZNe z TI TO i1 i2) : Turn P w K (.Tuple elts x1 pos) (Jz K S1 S2) [z, TI, TO, i1, i2] z
  (fun i h => IsZip h z TI TO .none /\ IsPair h TI (.ref i1) (.ref i2) /\ (∃ a b, IsPair h TO a b) /\ S1.at' i1 i h /\ S2.at' i2 i h) where
 mem := by simp
 obj := fun i h st b hb => by
  obtain ⟨hz, hTI, ⟨a, c, hTO⟩, h1, h2⟩ := st
  have it : ∀ {S : ZS} {it : Addr}, S.at' it i h -> ∃ o, h.get? it = some o /\ ∀ v, o.data ≠ .cell v := fun {S it} x => by
   cases S with
   | l a => obtain ⟨o, e, _, d⟩ := x; exact ⟨o, e, fun v q => by rw [d] at q; cases q⟩
   | t a => obtain ⟨o, e, _, d⟩ := x; exact ⟨o, e, fun v q => by rw [d] at q; cases q⟩
   | s z tk wd => obtain ⟨o, e, _, d⟩ := x; exact ⟨o, e, fun v q => by rw [d] at q; cases q⟩
  simp only [List.mem_cons, List.not_mem_nil, or_false] at hb
  rcases hb with rfl | rfl | rfl | rfl | rfl
  ·exact ⟨_, hz, fun v q => by cases q⟩
  ·exact ⟨_, hTI, fun v q => by cases q⟩
  ·exact ⟨_, hTO, fun v q => by cases q⟩
  ·exact it h1
  ·exact it h2
 keep := fun i h h' st k => by
  obtain ⟨hz, hTI, ⟨a, c, hTO⟩, h1, h2⟩ := st
  exact ⟨k z (by simp) _ hz, k TI (by simp) _ hTI, ⟨a, c, k TO (by simp) _ hTO⟩, ZS.keepAt h1 fun o e => k i1 (by simp) o e, ZS.keepAt h2 fun o e => k i2 (by simp) o e⟩
 item := by
  intro X hP hw hK hc i pins s σ H E I hf st hg
  subst hP hw hK
  obtain ⟨hz, hTI, ⟨a, c, hTO⟩, h1, h2⟩ := st
  obtain ⟨⟨v1, g1⟩, ⟨v2, g2⟩⟩ := hg
  have f := fun b hb => hf b hb
  obtain ⟨st1, e1, N1⟩ := next_of (it := i1) I g1 (fun b _ => Classical.em _) (fun a ha => by rcases ha with rfl | rfl; exact Zce I g1.choose_spec.1 (f i1 (by simp)); exact Zcd I g1.choose_spec.1 (f i1 (by simp)))
  obtain ⟨st2, e2, N2⟩ := next_of (it := i2) I g2 (fun b _ => Classical.em _) (fun a ha => by rcases ha with rfl | rfl; exact Zce I g2.choose_spec.1 (f i2 (by simp)); exact Zcd I g2.choose_spec.1 (f i2 (by simp)))
  have D : ZApart z TI TO i1 i2 (S1.us i1) (S2.us i2) := ⟨N.a1, N.a2, N.a3, N.a4, N.a5, N.a6, N.a7, N.a8, N.a9, Zb9 I (ZS.has_rd g1) (f z (by simp)) N.a3, Zb9 I (ZS.has_rd g1) (f TO (by simp)) N.a8.symm, Zb9 I (ZS.has_rd g1) (f i2 (by simp)) N.a10,
   Zb9 I (ZS.has_rd g2) (f z (by simp)) N.a4, Zb9 I (ZS.has_rd g2) (f TO (by simp)) N.a9.symm, Zb9 I (ZS.has_rd g2) (f i1 (by simp)) N.a10.symm⟩
  refine zip_next D N1 N2 hz hTI hTO (e1 h1) (e2 h2) fun x y h' tk rx ry a1 a2 a3 a4 a5 a6 a7 => ⟨_, rfl, ?_⟩
  refine wpAny_letOwnedTupleGo_zip (s := { s with heap := h', toks := tk }) a1 fun h3 hz3 sb => ?_
  have hlt : ∀ {b o}, s.heap.get? b = some o -> b ≠ s.heap.objs.size := fun e => Nat.ne_of_lt (Heap.lt_size e)
  have J1 : Inv X pins σ H { s with heap := h3, toks := tk } := turnedL (ch := [z, TI, TO, i1, i2]) I (fun b o hb e => by
   simp only [List.mem_cons, List.not_mem_nil, or_false, not_or] at hb
   exact sb.extBut _ _ hb.1 (a7 b o hb.1 hb.2.2.1 hb.2.2.2.1 hb.2.2.2.2 e)) hf
  have hn : H s.heap.objs.size = none := I.hok.fresh (Nat.le_refl _)
  have ltz := hlt hz
  have hT : IsPair h3 s.heap.objs.size x y := sb.extBut _ _ ltz.symm a5
  have J2 := track (ob := .tup [v1, v2]) J1 hn I.sz (Nat.ne_of_gt I.lt) (fun x c e => by obtain ⟨v, q⟩ := I.cell x c e; exact Nat.ne_of_lt q.lt) (fun p hp => hlt (I.pin p hp).1)
   ⟨by show 2 <= sizeLine; rw [sizeLine_eq]; decide, [x, y], .cons rx (.cons ry .nil), ⟨_, hT, rfl, _, rfl⟩⟩
  refine ⟨.ref s.heap.objs.size, _, J2, rfl, ⟨_, v1, v2, hn, rfl, rfl, fun u' q => has_inj I q g1, fun u' q => has_inj I q g2⟩, ⟨hz3, sb.extBut _ _ N.a1 (a7 TI _ N.a1 N.a5 N.a6 N.a7 hTI), ⟨_, _, sb.extBut _ _ N.a2 a2⟩, ZS.keepAt a3 fun o e => sb.extBut _ _ N.a3 e, ZS.keepAt a4 fun o e => sb.extBut _ _ N.a4 e⟩, fun b hb => ?_⟩
  have hb' : b ≠ s.heap.objs.size := by
   simp only [List.mem_cons, List.not_mem_nil, or_false] at hb
   have it : ∀ {S : ZS} {it : Addr}, S.at' it i s.heap -> it ≠ s.heap.objs.size := fun {S it} x => by
    cases S with
    | l a => obtain ⟨o, e, _⟩ := x; exact hlt e
    | t a => obtain ⟨o, e, _⟩ := x; exact hlt e
    | s z tk wd => obtain ⟨o, e, _⟩ := x; exact hlt e
   rcases hb with rfl | rfl | rfl | rfl | rfl
   ·exact hlt hz
   ·exact hlt hTI
   ·exact hlt hTO
   ·exact it h1
   ·exact it h2
  rw [Zan hb']; exact (hf b hb).1
 done := by
  intro X hP hw hK hc i pins s σ H E I hf st hg
  subst hP hw hK
  obtain ⟨hz, hTI, ⟨a, c, hTO⟩, h1, h2⟩ := st
  obtain ⟨r1, r2, hg⟩ := hg
  have f := fun b hb => hf b hb
  have D : ZApart z TI TO i1 i2 (S1.us i1) (S2.us i2) := ⟨N.a1, N.a2, N.a3, N.a4, N.a5, N.a6, N.a7, N.a8, N.a9, Zb9 I r1 (f z (by simp)) N.a3, Zb9 I r1 (f TO (by simp)) N.a8.symm, Zb9 I r1 (f i2 (by simp)) N.a10,
   Zb9 I r2 (f z (by simp)) N.a4, Zb9 I r2 (f TO (by simp)) N.a9.symm, Zb9 I r2 (f i1 (by simp)) N.a10.symm⟩
  have fin : ∀ h' tk, (∀ c o, c ≠ z -> c ≠ TO -> c ≠ i1 -> c ≠ i2 -> s.heap.get? c = some o -> h'.get? c = some o) -> (none : Option Value) = none /\ Inv X pins σ H { s with heap := h', toks := tk } := fun h' tk k => ⟨rfl, turnedL (ch := [z, TI, TO, i1, i2]) I (fun b o hb e => by
   simp only [List.mem_cons, List.not_mem_nil, or_false, not_or] at hb
   exact k b o hb.1 hb.2.2.1 hb.2.2.2.1 hb.2.2.2.2 e) hf⟩
  rcases hg with g1 | ⟨⟨v1, g1⟩, g2⟩
  ·obtain ⟨st1, e1, N1⟩ := end_of (it := i1) I g1
   exact zip_done (st2 := fun _ => True) (I.ok.hd hc) D (.inl N1) hz hTI hTO (e1 h1) trivial fin
  ·obtain ⟨st1, e1, N1⟩ := next_of (it := i1) I g1 (fun b _ => Classical.em _) (fun a ha => by rcases ha with rfl | rfl; exact Zce I g1.choose_spec.1 (f i1 (by simp)); exact Zcd I g1.choose_spec.1 (f i1 (by simp)))
   obtain ⟨st2, e2, N2⟩ := end_of (it := i2) I g2
   exact zip_done (I.ok.hd hc) D (.inr ⟨_, _, N1, N2⟩) hz hTI hTO (e1 h1) (e2 h2) fin
 self := fun _ _ _ _ _ st h => wpAny_pyIter_zip st.1 h
structure ZSrc (K : W.Frag) (ι : List Addr) (H : Hp) (S : ZS) (ps : List PV) : Prop where
 rd : ∀ ι2 H2, Ex ι ι2 H H2 -> S.rd K H2
 has : ∀ ι2 H2, Ex ι ι2 H H2 -> ∀ i p, ps[i]? = some p -> ∃ v, S.has K H2 i v /\ Rep K (ι ++ ι2) H2 p v
 ends : ∀ ι2 H2, Ex ι ι2 H H2 -> ∀ i, ps.length <= i -> S.ends K H2 i
section
variable {X : Cx} {pins : List (Addr × Obj)} {σ : St} {H : Hp} {s : Shared}
theorem src_of {ι : List Addr} {C : Cs} {x : SV} {ps : List PV} {v : V} {u : Value} (I : Inv X pins σ H s) (cr : CR X.K ι H C) (r : RepS X.K ι H x v) (e : itemsP x = some ps) (ru : RelV v u) : ∃ S : ZS, u = S.val /\ S.src s.heap /\ ZSrc X.K ι H S ps := by
 unfold itemsP at e
 split at e
 ·cases e
  replace r : Rep X.K ι H (.lst _) v := r
  unfold Rep at r
  obtain ⟨a, vs, rfl, hq, rv⟩ := r
  obtain ⟨its, _, p, _⟩ := I.list hq.sq
  have keep : ∀ ι2 H2, Ex ι ι2 H H2 -> SqL X.K H2 a vs := fun ι2 H2 x => by
   rcases hq with ⟨n, q | ⟨o, q⟩⟩ | q
   ·exact .inl (.inl (x.out _ _ n q).2)
   ·exact .inl (.inr ⟨o, (x.out _ _ n q).2⟩)
   ·exact .inr q
  refine ⟨.l a, ru, ⟨_, p.isList⟩, fun ι2 H2 x => ⟨vs, keep ι2 H2 x⟩, fun ι2 H2 x i p hp => ?_, fun ι2 H2 x i hi => ⟨vs, keep ι2 H2 x, by rw [← rv.length]; exact hi⟩⟩
  obtain ⟨w, e1, r1⟩ := rv.get hp
  exact ⟨w, ⟨vs, keep ι2 H2 x, e1⟩, Rep.tr cr x.out p w r1⟩
 ·cases e
  replace r : Rep X.K ι H (.tup _) v := r
  unfold Rep at r
  obtain ⟨a, vs, rfl, hq, rv⟩ := r
  obtain ⟨its, _, p, _⟩ := I.tuple hq.sq
  have keep : ∀ ι2 H2, Ex ι ι2 H H2 -> SqT X.K H2 a vs := fun ι2 H2 x => by
   rcases hq.sq (K := X.K) with (q | ⟨o, q⟩) | q
   ·exact .inl (.inl (x.out _ _ (cr.notup q (fun _ e => nomatch e) fun _ e => nomatch e) q).2)
   ·exact .inl (.inr ⟨o, (x.out _ _ (cr.notup q (fun _ e => nomatch e) fun _ e => nomatch e) q).2⟩)
   ·exact .inr q
  refine ⟨.t a, ru, ⟨_, p⟩, fun ι2 H2 x => ⟨vs, keep ι2 H2 x⟩, fun ι2 H2 x i p hp => ?_, fun ι2 H2 x i hi => ⟨vs, keep ι2 H2 x, by rw [← rv.length]; exact hi⟩⟩
  obtain ⟨w, e1, r1⟩ := rv.get hp
  exact ⟨w, ⟨vs, keep ι2 H2 x, e1⟩, Rep.tr cr x.out p w r1⟩
 ·cases e
  rename Str => z
  replace r : Rep X.K ι H (.str z) v := r
  unfold Rep at r
  obtain ⟨rfl, hz⟩ := r
  obtain ⟨t, rfl⟩ := ru
  refine ⟨.s z t (!(z.cps.all (· < 128))), rfl, rfl, fun _ _ _ => trivial, fun ι2 H2 x i p hp => ?_, fun ι2 H2 x i hi => by show z.cps.size <= i; simpa using hi⟩
  rw [List.getElem?_map] at hp
  cases hc : z.cps.toList[i]? with
  | none => rw [hc] at hp; cases hp
  | some d =>
   rw [hc] at hp; cases hp
   exact ⟨.str ⟨#[d]⟩, ⟨d, by simpa using hc, rfl⟩, repS (by show 1 <= sizeLine; rw [sizeLine_eq]; decide)⟩
 ·cases e
theorem iter_zip {K : W.Frag} {ι : List Addr} {S1 S2 : ZS} {ps qs : List PV} (Z1 : ZSrc K ι H S1 ps) (Z2 : ZSrc K ι H S2 qs) : Iter K ι H (List.zipWith (fun a b => .tup [a, b]) ps qs) (Jz K S1 S2) := by
 have hl : (List.zipWith (fun a b => PV.tup [a, b]) ps qs).length = min ps.length qs.length := by simp
 refine ⟨fun ι2 H2 C2 x c i hi => ?_, fun ι2 H2 C2 x c i v H3 hi y => ?_, fun ι2 H2 C2 x c => ?_⟩
 ·rw [hl] at hi
  have h1 : i < ps.length := by lia
  have h2 : i < qs.length := by lia
  obtain ⟨v, g1, _⟩ := Z1.has ι2 H2 x i _ (List.getElem?_eq_getElem h1)
  obtain ⟨u, g2, _⟩ := Z2.has ι2 H2 x i _ (List.getElem?_eq_getElem h2)
  exact ⟨⟨v, g1⟩, ⟨u, g2⟩⟩
 ·rw [hl] at hi
  have h1 : i < ps.length := by lia
  have h2 : i < qs.length := by lia
  obtain ⟨v1, g1, r1⟩ := Z1.has ι2 H2 x i _ (List.getElem?_eq_getElem h1)
  obtain ⟨v2, g2, r2⟩ := Z2.has ι2 H2 x i _ (List.getElem?_eq_getElem h2)
  obtain ⟨a, u, w, hn, rfl, rfl, e1, e2⟩ := y
  rw [← e1 v1 g1, ← e2 v2 g2]
  refine ⟨fun b o e => by rw [Zan (Zal e hn)]; exact e, .tup [ps[i], qs[i]], ?_, new_tup hn (.cons r1 (.cons r2 .nil))⟩
  rw [List.getElem?_zipWith, List.getElem?_eq_getElem h1, List.getElem?_eq_getElem h2]
 ·refine ⟨Z1.rd ι2 H2 x, Z2.rd ι2 H2 x, ?_⟩
  rw [hl]
  rcases Nat.le_total ps.length qs.length with h | h
  ·exact .inl (Z1.ends ι2 H2 x _ (by lia))
  ·by_cases he : ps.length <= qs.length
   ·exact .inl (Z1.ends ι2 H2 x _ (by lia))
   ·right
    have h1 : min ps.length qs.length < ps.length := by lia
    obtain ⟨v, g1, _⟩ := Z1.has ι2 H2 x _ _ (List.getElem?_eq_getElem h1)
    exact ⟨⟨v, g1⟩, Z2.ends ι2 H2 x _ (by lia)⟩
end
noncomputable def zipP : List SV -> Option (List PV)
 | [x, y] => match itemsP x, itemsP y with
  | some ps, some qs => some (List.zipWith (fun a b => .tup [a, b]) ps qs)
  | _, _ => none
 | _ => none
theorem zipP_some {xs : List SV} {ys : List PV} (h : zipP xs = some ys) : ∃ x y ps qs, xs = [x, y] /\ itemsP x = some ps /\ itemsP y = some qs /\ ys = List.zipWith (fun a b => .tup [a, b]) ps qs := by
 unfold zipP at h
 split at h
 ·split at h
  ·cases h; exact ⟨_, _, _, _, rfl, by assumption, by assumption, rfl⟩
  ·cases h
 ·cases h
noncomputable def mZip (fs : PSt -> M (List SV)) : PSt -> M (List PV) := fun ρ => bnd (fs ρ) fun xs => opM fun _ => zipP xs
theorem im_zip {X : Cx} {a b : Expr} {fs : PSt -> M (List SV)} {elts : List Expr} {x1 : Nat} {tpos p pos : Pos} (hg : Gl X "zip") (hm : X.mg "zip" = none) (ha : AM X [a, b] fs)
  (hs : starEach [a, b] X.env = [(false, eval a X.env), (false, eval b X.env)] := by rfl) (hs2 : starEach [b] X.env = [(false, eval b X.env)] := by rfl) : IM X (.Tuple elts x1 tpos) (.Call (.Name "zip" p) [a, b] [] pos) (mZip fs) := by
 intro pins s σ H R I h_
 obtain ⟨ι, ρ, C, xs, C', sr, e, q⟩ := h_
 obtain ⟨zs, C1, e1, g1⟩ := Zah e
 obtain ⟨e2, hC⟩ := ZaF g1
 subst hC
 obtain ⟨x, y, ps, qs, rfl, hx, hy, rfl⟩ := zipP_some e2
 refine Call_ (ZcS I hg hm (by rfl) (PyProof.Rows.callWith_type1 (thn (ha pos pins s σ H (fun vs H1 => Fr ι H H1 /\ CR X.K ι H1 C' /\ RepSs X.K ι H1 [x, y] vs) I ⟨ι, ρ, C, _, C', sr, e1, fun vs H1 f1 c1 r1 => ⟨f1, c1, r1⟩⟩) fun us s1 ⟨vs, H1, I1, r1, f1, c1, rs⟩ => ?_) (by rw [hs, hs2]) (by rw [hs2]; rfl)))
 obtain ⟨v1, w, rfl, rx, hw⟩ := rs
 obtain ⟨v2, w2, rfl, ry, hw⟩ := hw
 cases (show w2 = [] from hw)
 obtain ⟨u1, u2, rfl, ru1, ru2⟩ := Vals.two r1
 obtain ⟨S1, rfl, hS1, Z1⟩ := src_of I1 c1 rx hx ru1
 obtain ⟨S2, rfl, hS2, Z2⟩ := src_of I1 c1 ry hy ru2
 refine callType_new PySem.F.called_zip (by decide) (PySem.F.typeCall_zip_2 _ _) (PySem.F.newCall_zip_2 _ _) (fun obj => PySem.F.args_object_init_3 obj _ _) PySem.F.entry_zip_new (zip_new S1 S2) ⟨hS1, hS2, ?_⟩
 have z1 : (s1.heap.push S1.obj).objs.size = s1.heap.objs.size + 1 := Heap.size_push ..
 have z2 : ((s1.heap.push S1.obj).push S2.obj).objs.size = s1.heap.objs.size + 2 := by rw [Heap.size_push, z1]
 have z3 : (zH3 s1.heap S1 S2).objs.size = s1.heap.objs.size + 3 := by rw [Heap.size_push, z2]
 have z4 : (zH4 s1.heap S1 S2).objs.size = s1.heap.objs.size + 4 := by rw [Heap.size_push, z3]
 have up : ∀ c o, s1.heap.get? c = some o -> (zH5 s1.heap S1 S2).get? c = some o := fun c o x => Heap.get?_push_of_some _ (Heap.get?_push_of_some _ (Heap.get?_push_of_some _ (Heap.get?_push_of_some _ (Heap.get?_push_of_some _ x))))
 have g5 : (zH5 s1.heap S1 S2).get? (zH4 s1.heap S1 S2).objs.size = some _ := Heap.get?_push_size _ rfl
 have g4 : (zH5 s1.heap S1 S2).get? (zH3 s1.heap S1 S2).objs.size = some _ := Heap.get?_push_of_some _ (Heap.get?_push_size _ rfl)
 have g3 : (zH5 s1.heap S1 S2).get? ((s1.heap.push S1.obj).push S2.obj).objs.size = some _ := Heap.get?_push_of_some _ (Heap.get?_push_of_some _ (Heap.get?_push_size _ rfl))
 have g2 : (zH5 s1.heap S1 S2).get? (s1.heap.push S1.obj).objs.size = some _ := Heap.get?_push_of_some _ (Heap.get?_push_of_some _ (Heap.get?_push_of_some _ (Heap.get?_push_size _ (by cases S2 <;> rfl))))
 have g1 : (zH5 s1.heap S1 S2).get? s1.heap.objs.size = some _ := Heap.get?_push_of_some _ (Heap.get?_push_of_some _ (Heap.get?_push_of_some _ (Heap.get?_push_of_some _ (Heap.get?_push_size _ (by cases S1 <;> rfl)))))
 show _ /\ _
 rw [z2, z3, z4] at g5
 rw [z1, z2] at g3
 rw [z3] at g4
 rw [z1] at g2
 rw [z4]
 have at0 : ∀ {S : ZS} {it : Addr} {h : Heap}, h.get? it = some S.obj -> S.at' it 0 h := fun {S it h} e => by
  cases S with
  | l a => exact ⟨_, e, rfl, rfl⟩
  | t a => exact ⟨_, e, rfl, rfl⟩
  | s z tk wd => exact ⟨_, e, rfl, rfl⟩
 have J : Inv X pins σ H1 { s1 with heap := zH5 s1.heap S1 S2 } := I1.kept (t' := s1.toks) up
 refine ⟨⟨_, g5, rfl⟩, wpAny_pyIter_zip g5 ⟨s1.heap.objs.size + 4, [s1.heap.objs.size + 4, s1.heap.objs.size + 2, s1.heap.objs.size + 3, s1.heap.objs.size, s1.heap.objs.size + 1], _, _, H1, rfl, J,
  turn_zip (S1 := S1) (S2 := S2) (zne s1.heap.objs.size), ⟨g5, g3, ⟨_, _, g4⟩, at0 g1, at0 g2⟩, fun b hb => ?_, q _ H1 f1 c1 (iter_zip Z1 Z2)⟩⟩
 have hb' : s1.heap.objs.size <= b := by
  simp only [List.mem_cons, List.not_mem_nil, or_false] at hb
  rcases hb with rfl | rfl | rfl | rfl | rfl <;> lia
 exact I1.fpOk hb' (I1.hok.fresh hb')
mutual
noncomputable def HRep (h : Heap) : PV -> Value -> Prop
 | .non, u => u = .none
 | .bl b, u => u = .bool b
 | .int i, u => ∃ t, u = .int i t
 | .str x, u => ∃ t, u = .str x t
 | .tup ps, u => ∃ (a : Addr) (us : List Value), u = .ref a /\ h.IsTuple a us.toArray /\ HReps h ps us
 | .lst ps, u => ∃ (a : Addr) (us : List Value), u = .ref a /\ h.IsList a us.toArray /\ HReps h ps us
 | _, _ => False
noncomputable def HReps (h : Heap) : List PV -> List Value -> Prop
 | [], us => us = []
 | p :: ps, us => ∃ v r, us = v :: r /\ HRep h p v /\ HReps h ps r
end
mutual
noncomputable def dat : PV -> Bool
 | .tup ps => dats ps
 | .lst ps => dats ps
 | .dct _ _ => false
 | .dtt _ _ => false
 | .fn _ => false
 | .ty _ => false
 | _ => true
noncomputable def dats : List PV -> Bool
 | [] => true
 | p :: ps => dat p && dats ps
end
mutual
noncomputable def dep : PV -> Nat
 | .tup ps => deps ps + 1
 | .lst ps => deps ps + 1
 | _ => 0
noncomputable def deps : List PV -> Nat
 | [] => 0
 | p :: ps => max (dep p) (deps ps)
end
mutual
theorem Rep.heap {X : Cx} {pins : List (Addr × Obj)} {σ : St} {H : Hp} {s : Shared} {ι : List Addr} (I : Inv X pins σ H s) : ∀ (p : PV) {v : V} {u : Value}, Rep X.K ι H p v -> RelV v u -> dat p = true -> HRep s.heap p u
 | .non, v, u, h, r, _ => by unfold Rep at h; subst h; unfold HRep; exact r
 | .bl b, v, u, h, r, _ => by unfold Rep at h; subst h; unfold HRep; exact r
 | .int i, v, u, h, r, _ => by unfold Rep at h; subst h; unfold HRep; exact r
 | .str x, v, u, h, r, _ => by unfold Rep at h; obtain ⟨rfl, h⟩ := h; unfold HRep; exact r
 | .tup ps, v, u, h, r, d => by
  unfold Rep at h; obtain ⟨a, vs, rfl, h, rs⟩ := h
  cases r
  obtain ⟨its, r', pl, hz⟩ := I.tuple h.sq
  unfold HRep
  unfold dat at d
  exact ⟨a, its, rfl, pl, Reps.heap I ps rs r' d⟩
 | .lst ps, v, u, h, r, d => by
  unfold Rep at h; obtain ⟨a, vs, rfl, h, rs⟩ := h
  cases r
  obtain ⟨its, r', pl, hz⟩ := I.list h.sq
  unfold HRep
  unfold dat at d
  exact ⟨a, its, rfl, pl.isList, Reps.heap I ps rs r' d⟩
 | .dct ks ps, v, u, h, r, d => by unfold dat at d; cases d
 | .dtt ks ps, v, u, h, r, d => by unfold dat at d; cases d
 | .fn a, v, u, h, r, d => by unfold dat at d; cases d
 | .ty n, v, u, h, r, d => by unfold dat at d; cases d
theorem Reps.heap {X : Cx} {pins : List (Addr × Obj)} {σ : St} {H : Hp} {s : Shared} {ι : List Addr} (I : Inv X pins σ H s) : ∀ (ps : List PV) {vs : List V} {us : List Value}, Reps X.K ι H ps vs -> Vals vs us -> dats ps = true -> HReps s.heap ps us
 | [], vs, us, h, r, _ => by unfold Reps at h; subst h; cases r; unfold HReps; rfl
 | p :: ps, vs, us, h, r, d => by
  unfold Reps at h; obtain ⟨v, w, rfl, h1, h2⟩ := h
  cases r with
  | cons r1 r2 =>
   unfold dats at d
   rw [Bool.and_eq_true] at d
   unfold HReps
   exact ⟨_, _, rfl, Rep.heap I p h1 r1 d.1, Reps.heap I ps h2 r2 d.2⟩
end
theorem Lies.heap {X : Cx} {pins : List (Addr × Obj)} {σ : St} {H : Hp} {s : Shared} {ι : List Addr} (I : Inv X pins σ H s) {p : PV} {v : V} {u : Value} (l : Lies X.K ι H p v) (r : RelV v u) (d : dat p = true) : HRep s.heap p u := by
 cases l with
 | non => unfold HRep; exact r
 | bl b => unfold HRep; exact r
 | int i => unfold HRep; exact r
 | str x h => unfold HRep; exact r
 | tup h rs =>
  cases r
  obtain ⟨its, r', pl, hz⟩ := I.tuple h.sq
  unfold HRep
  unfold dat at d
  exact ⟨_, its, rfl, pl, Reps.heap I _ rs r' d⟩
 | lst h rs =>
  cases r
  obtain ⟨its, r', pl, hz⟩ := I.list h
  unfold HRep
  unfold dat at d
  exact ⟨_, its, rfl, pl.isList, Reps.heap I _ rs r' d⟩
 | dct h hl rs => unfold dat at d; cases d
 | dtt h hl rs => unfold dat at d; cases d
 | fn a => unfold dat at d; cases d
 | ty n => unfold dat at d; cases d
mutual
noncomputable def eqD : PV -> PV -> Bool
 | .non, .non => true
 | .bl a, .bl b => a == b
 | .bl a, .int b => (if a then 1 else 0) == b
 | .int a, .bl b => a == (if b then 1 else 0)
 | .int a, .int b => a == b
 | .str a, .str b => a == b
 | .tup xs, .tup ys => eqDs xs ys
 | .lst xs, .lst ys => eqDs xs ys
 | _, _ => false
noncomputable def eqDs : List PV -> List PV -> Bool
 | [], [] => true
 | x :: xs, y :: ys => eqD x y && eqDs xs ys
 | _, _ => false
end
theorem Zcw {h : Heap} {a : Addr} {us vs : List Value} (h1 : h.IsTuple a us.toArray) (h2 : h.IsTuple a vs.toArray) : us = vs := by
 obtain ⟨o, e, _, n, d⟩ := h1
 obtain ⟨o', e', _, n', d'⟩ := h2
 rw [e] at e'; cases e'
 rw [d] at d'; injection d' with d1 _
 simpa using d1
theorem ZcV {h : Heap} {a : Addr} {us vs : List Value} (h1 : h.IsList a us.toArray) (h2 : h.IsList a vs.toArray) : us = vs := by
 obtain ⟨o, e, _, n, d⟩ := h1
 obtain ⟨o', e', _, n', d'⟩ := h2
 rw [e] at e'; cases e'
 rw [d] at d'; injection d' with d1 _
 simpa using d1
theorem Zch {h : Heap} {a : Addr} {us vs : List Value} (h1 : h.IsTuple a us.toArray) (h2 : h.IsList a vs.toArray) : False := by
 obtain ⟨o, e, c, _⟩ := h1
 obtain ⟨o', e', c', _⟩ := h2
 rw [e] at e'; cases e'
 rw [c] at c'; injection c' with c'; exact absurd c' (by decide)
mutual
theorem HRep.same {h : Heap} : ∀ (p : PV) {q : PV} {u : Value}, HRep h p u -> HRep h q u -> eqD p q = true
 | .non, q, u, a, b => by
  unfold HRep at a; subst a
  cases q <;> unfold HRep at b <;> first | rfl | (cases b; done) | (obtain ⟨_, e⟩ := b; cases e; done) | (obtain ⟨_, _, e, _⟩ := b; cases e; done) | exact b.elim
 | .bl x, q, u, a, b => by
  unfold HRep at a; subst a
  cases q <;> unfold HRep at b <;> first | (cases b; done) | (cases b; unfold eqD; exact beq_self_eq_true _) | (obtain ⟨_, e⟩ := b; cases e; done) | (obtain ⟨_, _, e, _⟩ := b; cases e; done) | exact b.elim
 | .int x, q, u, a, b => by
  unfold HRep at a; obtain ⟨t, rfl⟩ := a
  cases q <;> unfold HRep at b <;> first | (cases b; done) | (obtain ⟨_, e⟩ := b; cases e; done) | (obtain ⟨_, e⟩ := b; cases e; unfold eqD; exact beq_self_eq_true _) | (obtain ⟨_, _, e, _⟩ := b; cases e; done) | exact b.elim
 | .str x, q, u, a, b => by
  unfold HRep at a; obtain ⟨t, rfl⟩ := a
  cases q <;> unfold HRep at b <;> first | (cases b; done) | (obtain ⟨_, e⟩ := b; cases e; done) | (obtain ⟨_, e⟩ := b; cases e; unfold eqD; exact beq_self_eq_true _) | (obtain ⟨_, _, e, _⟩ := b; cases e; done) | exact b.elim
 | .tup ps, q, u, a, b => by
  unfold HRep at a; obtain ⟨l, us, rfl, h1, r1⟩ := a
  cases q with
  | tup qs =>
   unfold HRep at b; obtain ⟨l', vs, e, h2, r2⟩ := b
   cases e
   cases Zcw h1 h2
   unfold eqD
   exact HReps.same ps r1 r2
  | lst qs => unfold HRep at b; obtain ⟨l', vs, e, h2, r2⟩ := b; cases e; exact (Zch h1 h2).elim
  | _ => unfold HRep at b; first | (cases b; done) | (obtain ⟨_, e⟩ := b; cases e; done) | exact b.elim
 | .lst ps, q, u, a, b => by
  unfold HRep at a; obtain ⟨l, us, rfl, h1, r1⟩ := a
  cases q with
  | lst qs =>
   unfold HRep at b; obtain ⟨l', vs, e, h2, r2⟩ := b
   cases e
   cases ZcV h1 h2
   unfold eqD
   exact HReps.same ps r1 r2
  | tup qs => unfold HRep at b; obtain ⟨l', vs, e, h2, r2⟩ := b; cases e; exact (Zch h2 h1).elim
  | _ => unfold HRep at b; first | (cases b; done) | (obtain ⟨_, e⟩ := b; cases e; done) | exact b.elim
 | .dct _ _, q, u, a, b => by unfold HRep at a; exact a.elim
 | .dtt _ _, q, u, a, b => by unfold HRep at a; exact a.elim
 | .fn _, q, u, a, b => by unfold HRep at a; exact a.elim
 | .ty _, q, u, a, b => by unfold HRep at a; exact a.elim
theorem HReps.same {h : Heap} : ∀ (ps : List PV) {qs : List PV} {us : List Value}, HReps h ps us -> HReps h qs us -> eqDs ps qs = true
 | [], qs, us, a, b => by
  unfold HReps at a; subst a
  cases qs with
  | nil => rfl
  | cons q qs => unfold HReps at b; obtain ⟨_, _, e, _⟩ := b; cases e
 | p :: ps, qs, us, a, b => by
  unfold HReps at a; obtain ⟨v, r, rfl, a1, a2⟩ := a
  cases qs with
  | nil => unfold HReps at b; cases b
  | cons q qs =>
   unfold HReps at b; obtain ⟨v', r', e, b1, b2⟩ := b
   cases e
   unfold eqDs
   rw [HRep.same p a1 b1, HReps.same ps a2 b2]; rfl
end
end Pu
namespace Pu
open PySem PySem.Spec L2 PySem.SeqAt
open PyProof.Rows hiding St Fr
theorem HReps.length {h : Heap} : ∀ {ps : List PV} {us : List Value}, HReps h ps us -> ps.length = us.length
 | [], us, a => by unfold HReps at a; subst a; rfl
 | p :: ps, us, a => by unfold HReps at a; obtain ⟨v, r, rfl, _, b⟩ := a; rw [List.length_cons, List.length_cons, b.length]
theorem ZbB : ∀ (ps qs : List PV), (((List.range (min ps.length qs.length)).all fun j => eqD (ps.getD j .non) (qs.getD j .non)) && ps.length == qs.length) = eqDs ps qs
 | [], [] => rfl
 | [], _ :: _ => by unfold eqDs; simp
 | _ :: _, [] => by unfold eqDs; simp
 | p :: ps, q :: qs => by
  rw [eqDs, ← ZbB ps qs, List.length_cons, List.length_cons, Nat.succ_min_succ, List.range_succ_eq_map, List.all_cons, List.all_map]
  rw [show (ps.length + 1 == qs.length + 1) = (ps.length == qs.length) by simp [BEq.beq]]
  rw [Bool.and_assoc]
  rfl
theorem ZcA {ps qs : List PV} (e : ps.length = qs.length) : ((List.range ps.length).all fun j => eqD (ps.getD j .non) (qs.getD j .non)) = eqDs ps qs := by
 have := ZbB ps qs
 rw [← e, Nat.min_self, beq_self_eq_true, Bool.and_true] at this
 exact this
theorem eqDs_len : ∀ {ps qs : List PV}, ps.length ≠ qs.length -> eqDs ps qs = false
 | [], [], h => absurd rfl h
 | [], _ :: _, _ => by unfold eqDs; rfl
 | _ :: _, [], _ => by unfold eqDs; rfl
 | p :: ps, q :: qs, h => by unfold eqDs; rw [eqDs_len fun z => h (by rw [List.length_cons, List.length_cons, z]), Bool.and_false]
section
variable {s : Shared}
theorem RcAt.tupD {A : Around} {a b : Addr} {us vs : List Value} {ps qs : List PV} (h1 : s.heap.IsTuple a us.toArray) (h2 : s.heap.IsTuple b vs.toArray) (l1 : ps.length = us.length) (l2 : qs.length = vs.length) (hu : A.units < cLine)
  (he : ∀ j (h1 : j < us.length) (h2 : j < vs.length), EqAt A.in1 s us[j] vs[j] (eqD (ps.getD j .non) (qs.getD j .non))) : RcAt A s (.ref a) (.ref b) (eqDs ps qs) := by
 have := RcAt.tuples h1 h2 hu (e := fun j => eqD (ps.getD j .non) (qs.getD j .non)) (fun j z1 z2 => by simpa using he j (by simpa using z1) (by simpa using z2))
 simp only [List.size_toArray, ← l1, ← l2] at this
 rw [ZbB] at this; exact this
theorem RcAt.lstD {A : Around} {a b : Addr} {us vs : List Value} {ps qs : List PV} (h1 : s.heap.IsList a us.toArray) (h2 : s.heap.IsList b vs.toArray) (l1 : ps.length = us.length) (l2 : qs.length = vs.length) (hu : A.units < cLine)
  (he : ∀ j (h1 : j < us.length) (h2 : j < vs.length), EqAt A.in1 s us[j] vs[j] (eqD (ps.getD j .non) (qs.getD j .non))) : RcAt A s (.ref a) (.ref b) (eqDs ps qs) := by
 by_cases e : us.length = vs.length
 ·have := RcAt.lists h1 h2 (by simpa using e) hu (e := fun j => eqD (ps.getD j .non) (qs.getD j .non)) (fun j z1 z2 => by simpa using he j (by simpa using z1) (by simpa using z2))
  simp only [List.size_toArray, ← l1] at this
  rw [ZcA (by lia)] at this; exact this
 ·have := RcAt.lists_lengths h1 h2 (by simpa using e) hu
  rw [eqDs_len (by lia)]; exact this
theorem RcNeAt.tupD {A : Around} {a b : Addr} {us vs : List Value} {ps qs : List PV} (h1 : s.heap.IsTuple a us.toArray) (h2 : s.heap.IsTuple b vs.toArray) (l1 : ps.length = us.length) (l2 : qs.length = vs.length) (hu : A.units < cLine)
  (he : ∀ j (h1 : j < us.length) (h2 : j < vs.length), EqAt A.in1 s us[j] vs[j] (eqD (ps.getD j .non) (qs.getD j .non))) : RcNeAt A s (.ref a) (.ref b) (!eqDs ps qs) := by
 have := RcNeAt.tuples h1 h2 hu (e := fun j => eqD (ps.getD j .non) (qs.getD j .non)) (fun j z1 z2 => by simpa using he j (by simpa using z1) (by simpa using z2))
 simp only [List.size_toArray, ← l1, ← l2] at this
 rw [ZbB] at this; exact this
theorem RcNeAt.lstD {A : Around} {a b : Addr} {us vs : List Value} {ps qs : List PV} (h1 : s.heap.IsList a us.toArray) (h2 : s.heap.IsList b vs.toArray) (l1 : ps.length = us.length) (l2 : qs.length = vs.length) (hu : A.units < cLine)
  (he : ∀ j (h1 : j < us.length) (h2 : j < vs.length), EqAt A.in1 s us[j] vs[j] (eqD (ps.getD j .non) (qs.getD j .non))) : RcNeAt A s (.ref a) (.ref b) (!eqDs ps qs) := by
 by_cases e : us.length = vs.length
 ·have := RcNeAt.lists h1 h2 (by simpa using e) hu (e := fun j => eqD (ps.getD j .non) (qs.getD j .non)) (fun j z1 z2 => by simpa using he j (by simpa using z1) (by simpa using z2))
  simp only [List.size_toArray, ← l1] at this
  rw [ZcA (by lia)] at this; exact this
 ·have := RcNeAt.lists_lengths h1 h2 (by simpa using e) hu
  rw [eqDs_len (by lia)]; exact this
end
section
variable {s : Shared}
theorem EqAt.x_non {q : PV} {u v : Value} {A : Around} (a : HRep s.heap .non u) (b : HRep s.heap q v) (hu' : A.units < cLine) : EqAt A s u v (eqD .non q) := by
 unfold HRep at a; subst a
 cases q <;> unfold HRep at b
 ·unfold eqD; subst b; exact EqAt.same _
 ·unfold eqD; subst b; exact EqAt.none_bool _
 ·unfold eqD; obtain ⟨_, rfl⟩ := b; exact EqAt.none_int _ _
 ·unfold eqD; obtain ⟨_, rfl⟩ := b; exact EqAt.none_str _ _
 ·unfold eqD; obtain ⟨_, _, rfl, h_b, _⟩ := b; exact EqAt.none_tuple h_b hu'
 ·unfold eqD; obtain ⟨_, _, rfl, h_b, _⟩ := b; exact EqAt.none_list h_b hu'
 ·exact b.elim
 ·exact b.elim
 ·exact b.elim
 ·exact b.elim
theorem EqAt.x_bl {x : Bool} {q : PV} {u v : Value} {A : Around} (a : HRep s.heap (.bl x) u) (b : HRep s.heap q v) (hu' : A.units < cLine) : EqAt A s u v (eqD (.bl x) q) := by
 unfold HRep at a; subst a
 cases q <;> unfold HRep at b
 ·unfold eqD; subst b; exact EqAt.bool_none _
 ·unfold eqD; subst b; exact EqAt.bool_bool _ _
 ·unfold eqD; obtain ⟨_, rfl⟩ := b; exact EqAt.bool_int _ _ _
 ·unfold eqD; obtain ⟨_, rfl⟩ := b; exact EqAt.bool_str _ _ _
 ·unfold eqD; obtain ⟨_, _, rfl, h_b, _⟩ := b; exact EqAt.bool_tuple _ h_b hu'
 ·unfold eqD; obtain ⟨_, _, rfl, h_b, _⟩ := b; exact EqAt.bool_list _ h_b hu'
 ·exact b.elim
 ·exact b.elim
 ·exact b.elim
 ·exact b.elim
theorem EqAt.x_int {x : Int} {q : PV} {u v : Value} {A : Around} (a : HRep s.heap (.int x) u) (b : HRep s.heap q v) (hu' : A.units < cLine) : EqAt A s u v (eqD (.int x) q) := by
 unfold HRep at a; obtain ⟨_, rfl⟩ := a
 cases q <;> unfold HRep at b
 ·unfold eqD; subst b; exact EqAt.int_none _ _
 ·unfold eqD; subst b; exact EqAt.int_bool _ _ _
 ·unfold eqD; obtain ⟨_, rfl⟩ := b; exact EqAt.int_int _ _ _ _
 ·unfold eqD; obtain ⟨_, rfl⟩ := b; exact EqAt.int_str _ _ _ _
 ·unfold eqD; obtain ⟨_, _, rfl, h_b, _⟩ := b; exact EqAt.int_tuple _ _ h_b hu'
 ·unfold eqD; obtain ⟨_, _, rfl, h_b, _⟩ := b; exact EqAt.int_list _ _ h_b hu'
 ·exact b.elim
 ·exact b.elim
 ·exact b.elim
 ·exact b.elim
theorem EqAt.x_str {x : Str} {q : PV} {u v : Value} {A : Around} (a : HRep s.heap (.str x) u) (b : HRep s.heap q v) (hu' : A.units < cLine) : EqAt A s u v (eqD (.str x) q) := by
 unfold HRep at a; obtain ⟨_, rfl⟩ := a
 cases q <;> unfold HRep at b
 ·unfold eqD; subst b; exact EqAt.str_none _ _
 ·unfold eqD; subst b; exact EqAt.str_bool _ _ _
 ·unfold eqD; obtain ⟨_, rfl⟩ := b; exact EqAt.str_int _ _ _ _
 ·unfold eqD; obtain ⟨_, rfl⟩ := b; exact EqAt.str_str _ _ _ _
 ·unfold eqD; obtain ⟨_, _, rfl, h_b, _⟩ := b; exact EqAt.str_tuple _ _ h_b hu'
 ·unfold eqD; obtain ⟨_, _, rfl, h_b, _⟩ := b; exact EqAt.str_list _ _ h_b hu'
 ·exact b.elim
 ·exact b.elim
 ·exact b.elim
 ·exact b.elim
theorem EqAt.x_tup_non {ps : List PV} {u v : Value} {A : Around} (a : HRep s.heap (.tup ps) u) (b : HRep s.heap .non v) (hu' : A.units < cLine) : EqAt A s u v (eqD (.tup ps) .non) := by
 unfold HRep at a b; unfold eqD; obtain ⟨_, _, rfl, h_a, _⟩ := a; subst b; exact EqAt.tuple_none h_a hu'
theorem EqAt.x_tup_bl {x : Bool} {ps : List PV} {u v : Value} {A : Around} (a : HRep s.heap (.tup ps) u) (b : HRep s.heap (.bl x) v) (hu' : A.units < cLine) : EqAt A s u v (eqD (.tup ps) (.bl x)) := by
 unfold HRep at a b; unfold eqD; obtain ⟨_, _, rfl, h_a, _⟩ := a; subst b; exact EqAt.tuple_bool _ h_a hu'
theorem EqAt.x_tup_int {x : Int} {ps : List PV} {u v : Value} {A : Around} (a : HRep s.heap (.tup ps) u) (b : HRep s.heap (.int x) v) (hu' : A.units < cLine) : EqAt A s u v (eqD (.tup ps) (.int x)) := by
 unfold HRep at a b; unfold eqD; obtain ⟨_, _, rfl, h_a, _⟩ := a; obtain ⟨_, rfl⟩ := b; exact EqAt.tuple_int _ _ h_a hu'
theorem EqAt.x_tup_str {x : Str} {ps : List PV} {u v : Value} {A : Around} (a : HRep s.heap (.tup ps) u) (b : HRep s.heap (.str x) v) (hu' : A.units < cLine) : EqAt A s u v (eqD (.tup ps) (.str x)) := by
 unfold HRep at a b; unfold eqD; obtain ⟨_, _, rfl, h_a, _⟩ := a; obtain ⟨_, rfl⟩ := b; exact EqAt.tuple_str _ _ h_a hu'
theorem EqAt.x_tup_lst {x : List PV} {ps : List PV} {u v : Value} {A : Around} (a : HRep s.heap (.tup ps) u) (b : HRep s.heap (.lst x) v) (hu' : A.units < cLine) : EqAt A s u v (eqD (.tup ps) (.lst x)) := by
 unfold HRep at a b; unfold eqD; obtain ⟨_, _, rfl, h_a, _⟩ := a; obtain ⟨_, _, rfl, h_b, _⟩ := b; exact EqAt.tuple_list h_a h_b hu'
theorem EqAt.x_lst_non {ps : List PV} {u v : Value} {A : Around} (a : HRep s.heap (.lst ps) u) (b : HRep s.heap .non v) (hu' : A.units < cLine) : EqAt A s u v (eqD (.lst ps) .non) := by
 unfold HRep at a b; unfold eqD; obtain ⟨_, _, rfl, h_a, _⟩ := a; subst b; exact EqAt.list_none h_a hu'
theorem EqAt.x_lst_bl {x : Bool} {ps : List PV} {u v : Value} {A : Around} (a : HRep s.heap (.lst ps) u) (b : HRep s.heap (.bl x) v) (hu' : A.units < cLine) : EqAt A s u v (eqD (.lst ps) (.bl x)) := by
 unfold HRep at a b; unfold eqD; obtain ⟨_, _, rfl, h_a, _⟩ := a; subst b; exact EqAt.list_bool _ h_a hu'
theorem EqAt.x_lst_int {x : Int} {ps : List PV} {u v : Value} {A : Around} (a : HRep s.heap (.lst ps) u) (b : HRep s.heap (.int x) v) (hu' : A.units < cLine) : EqAt A s u v (eqD (.lst ps) (.int x)) := by
 unfold HRep at a b; unfold eqD; obtain ⟨_, _, rfl, h_a, _⟩ := a; obtain ⟨_, rfl⟩ := b; exact EqAt.list_int _ _ h_a hu'
theorem EqAt.x_lst_str {x : Str} {ps : List PV} {u v : Value} {A : Around} (a : HRep s.heap (.lst ps) u) (b : HRep s.heap (.str x) v) (hu' : A.units < cLine) : EqAt A s u v (eqD (.lst ps) (.str x)) := by
 unfold HRep at a b; unfold eqD; obtain ⟨_, _, rfl, h_a, _⟩ := a; obtain ⟨_, rfl⟩ := b; exact EqAt.list_str _ _ h_a hu'
theorem EqAt.x_lst_tup {x : List PV} {ps : List PV} {u v : Value} {A : Around} (a : HRep s.heap (.lst ps) u) (b : HRep s.heap (.tup x) v) (hu' : A.units < cLine) : EqAt A s u v (eqD (.lst ps) (.tup x)) := by
 unfold HRep at a b; unfold eqD; obtain ⟨_, _, rfl, h_a, _⟩ := a; obtain ⟨_, _, rfl, h_b, _⟩ := b; exact EqAt.list_tuple h_a h_b hu'
theorem RcAt.x_non {q : PV} {u v : Value} {A : Around} (a : HRep s.heap .non u) (b : HRep s.heap q v) (hu' : A.units < cLine) : RcAt A s u v (eqD .non q) := by
 unfold HRep at a; subst a
 cases q <;> unfold HRep at b
 ·unfold eqD; subst b; exact RcAt.none_none
 ·unfold eqD; subst b; exact RcAt.none_bool _
 ·unfold eqD; obtain ⟨_, rfl⟩ := b; exact RcAt.none_int _ _
 ·unfold eqD; obtain ⟨_, rfl⟩ := b; exact RcAt.none_str _ _
 ·unfold eqD; obtain ⟨_, _, rfl, h_b, _⟩ := b; exact RcAt.none_tuple h_b hu'
 ·unfold eqD; obtain ⟨_, _, rfl, h_b, _⟩ := b; exact RcAt.none_list h_b hu'
 ·exact b.elim
 ·exact b.elim
 ·exact b.elim
 ·exact b.elim
theorem RcAt.x_bl {x : Bool} {q : PV} {u v : Value} {A : Around} (a : HRep s.heap (.bl x) u) (b : HRep s.heap q v) (hu' : A.units < cLine) : RcAt A s u v (eqD (.bl x) q) := by
 unfold HRep at a; subst a
 cases q <;> unfold HRep at b
 ·unfold eqD; subst b; exact RcAt.bool_none _
 ·unfold eqD; subst b; exact RcAt.bool_bool _ _
 ·unfold eqD; obtain ⟨_, rfl⟩ := b; exact RcAt.bool_int _ _ _
 ·unfold eqD; obtain ⟨_, rfl⟩ := b; exact RcAt.bool_str _ _ _
 ·unfold eqD; obtain ⟨_, _, rfl, h_b, _⟩ := b; exact RcAt.bool_tuple _ h_b hu'
 ·unfold eqD; obtain ⟨_, _, rfl, h_b, _⟩ := b; exact RcAt.bool_list _ h_b hu'
 ·exact b.elim
 ·exact b.elim
 ·exact b.elim
 ·exact b.elim
theorem RcAt.x_int {x : Int} {q : PV} {u v : Value} {A : Around} (a : HRep s.heap (.int x) u) (b : HRep s.heap q v) (hu' : A.units < cLine) : RcAt A s u v (eqD (.int x) q) := by
 unfold HRep at a; obtain ⟨_, rfl⟩ := a
 cases q <;> unfold HRep at b
 ·unfold eqD; subst b; exact RcAt.int_none _ _
 ·unfold eqD; subst b; exact RcAt.int_bool _ _ _
 ·unfold eqD; obtain ⟨_, rfl⟩ := b; exact RcAt.int_int _ _ _ _
 ·unfold eqD; obtain ⟨_, rfl⟩ := b; exact RcAt.int_str _ _ _ _
 ·unfold eqD; obtain ⟨_, _, rfl, h_b, _⟩ := b; exact RcAt.int_tuple _ _ h_b hu'
 ·unfold eqD; obtain ⟨_, _, rfl, h_b, _⟩ := b; exact RcAt.int_list _ _ h_b hu'
 ·exact b.elim
 ·exact b.elim
 ·exact b.elim
 ·exact b.elim
theorem RcAt.x_str {x : Str} {q : PV} {u v : Value} {A : Around} (a : HRep s.heap (.str x) u) (b : HRep s.heap q v) (hu' : A.units < cLine) : RcAt A s u v (eqD (.str x) q) := by
 unfold HRep at a; obtain ⟨_, rfl⟩ := a
 cases q <;> unfold HRep at b
 ·unfold eqD; subst b; exact RcAt.str_none _ _
 ·unfold eqD; subst b; exact RcAt.str_bool _ _ _
 ·unfold eqD; obtain ⟨_, rfl⟩ := b; exact RcAt.str_int _ _ _ _
 ·unfold eqD; obtain ⟨_, rfl⟩ := b; exact RcAt.str_str _ _ _ _
 ·unfold eqD; obtain ⟨_, _, rfl, h_b, _⟩ := b; exact RcAt.str_tuple _ _ h_b hu'
 ·unfold eqD; obtain ⟨_, _, rfl, h_b, _⟩ := b; exact RcAt.str_list _ _ h_b hu'
 ·exact b.elim
 ·exact b.elim
 ·exact b.elim
 ·exact b.elim
theorem RcAt.x_tup_non {ps : List PV} {u v : Value} {A : Around} (a : HRep s.heap (.tup ps) u) (b : HRep s.heap .non v) (hu' : A.units < cLine) : RcAt A s u v (eqD (.tup ps) .non) := by
 unfold HRep at a b; unfold eqD; obtain ⟨_, _, rfl, h_a, _⟩ := a; subst b; exact RcAt.tuple_none h_a hu'
theorem RcAt.x_tup_bl {x : Bool} {ps : List PV} {u v : Value} {A : Around} (a : HRep s.heap (.tup ps) u) (b : HRep s.heap (.bl x) v) (hu' : A.units < cLine) : RcAt A s u v (eqD (.tup ps) (.bl x)) := by
 unfold HRep at a b; unfold eqD; obtain ⟨_, _, rfl, h_a, _⟩ := a; subst b; exact RcAt.tuple_bool _ h_a hu'
theorem RcAt.x_tup_int {x : Int} {ps : List PV} {u v : Value} {A : Around} (a : HRep s.heap (.tup ps) u) (b : HRep s.heap (.int x) v) (hu' : A.units < cLine) : RcAt A s u v (eqD (.tup ps) (.int x)) := by
 unfold HRep at a b; unfold eqD; obtain ⟨_, _, rfl, h_a, _⟩ := a; obtain ⟨_, rfl⟩ := b; exact RcAt.tuple_int _ _ h_a hu'
theorem RcAt.x_tup_str {x : Str} {ps : List PV} {u v : Value} {A : Around} (a : HRep s.heap (.tup ps) u) (b : HRep s.heap (.str x) v) (hu' : A.units < cLine) : RcAt A s u v (eqD (.tup ps) (.str x)) := by
 unfold HRep at a b; unfold eqD; obtain ⟨_, _, rfl, h_a, _⟩ := a; obtain ⟨_, rfl⟩ := b; exact RcAt.tuple_str _ _ h_a hu'
theorem RcAt.x_tup_lst {x : List PV} {ps : List PV} {u v : Value} {A : Around} (a : HRep s.heap (.tup ps) u) (b : HRep s.heap (.lst x) v) (hu' : A.units < cLine) : RcAt A s u v (eqD (.tup ps) (.lst x)) := by
 unfold HRep at a b; unfold eqD; obtain ⟨_, _, rfl, h_a, _⟩ := a; obtain ⟨_, _, rfl, h_b, _⟩ := b; exact RcAt.tuple_list h_a h_b hu'
theorem RcAt.x_lst_non {ps : List PV} {u v : Value} {A : Around} (a : HRep s.heap (.lst ps) u) (b : HRep s.heap .non v) (hu' : A.units < cLine) : RcAt A s u v (eqD (.lst ps) .non) := by
 unfold HRep at a b; unfold eqD; obtain ⟨_, _, rfl, h_a, _⟩ := a; subst b; exact RcAt.list_none h_a hu'
theorem RcAt.x_lst_bl {x : Bool} {ps : List PV} {u v : Value} {A : Around} (a : HRep s.heap (.lst ps) u) (b : HRep s.heap (.bl x) v) (hu' : A.units < cLine) : RcAt A s u v (eqD (.lst ps) (.bl x)) := by
 unfold HRep at a b; unfold eqD; obtain ⟨_, _, rfl, h_a, _⟩ := a; subst b; exact RcAt.list_bool _ h_a hu'
theorem RcAt.x_lst_int {x : Int} {ps : List PV} {u v : Value} {A : Around} (a : HRep s.heap (.lst ps) u) (b : HRep s.heap (.int x) v) (hu' : A.units < cLine) : RcAt A s u v (eqD (.lst ps) (.int x)) := by
 unfold HRep at a b; unfold eqD; obtain ⟨_, _, rfl, h_a, _⟩ := a; obtain ⟨_, rfl⟩ := b; exact RcAt.list_int _ _ h_a hu'
theorem RcAt.x_lst_str {x : Str} {ps : List PV} {u v : Value} {A : Around} (a : HRep s.heap (.lst ps) u) (b : HRep s.heap (.str x) v) (hu' : A.units < cLine) : RcAt A s u v (eqD (.lst ps) (.str x)) := by
 unfold HRep at a b; unfold eqD; obtain ⟨_, _, rfl, h_a, _⟩ := a; obtain ⟨_, rfl⟩ := b; exact RcAt.list_str _ _ h_a hu'
theorem RcAt.x_lst_tup {x : List PV} {ps : List PV} {u v : Value} {A : Around} (a : HRep s.heap (.lst ps) u) (b : HRep s.heap (.tup x) v) (hu' : A.units < cLine) : RcAt A s u v (eqD (.lst ps) (.tup x)) := by
 unfold HRep at a b; unfold eqD; obtain ⟨_, _, rfl, h_a, _⟩ := a; obtain ⟨_, _, rfl, h_b, _⟩ := b; exact RcAt.list_tuple h_a h_b hu'
theorem RcNeAt.x_non {q : PV} {u v : Value} {A : Around} (a : HRep s.heap .non u) (b : HRep s.heap q v) (hu' : A.units < cLine) : RcNeAt A s u v (!eqD .non q) := by
 unfold HRep at a; subst a
 cases q <;> unfold HRep at b
 ·unfold eqD; subst b; exact RcNeAt.none_none
 ·unfold eqD; subst b; exact RcNeAt.none_bool _
 ·unfold eqD; obtain ⟨_, rfl⟩ := b; exact RcNeAt.none_int _ _
 ·unfold eqD; obtain ⟨_, rfl⟩ := b; exact RcNeAt.none_str _ _
 ·unfold eqD; obtain ⟨_, _, rfl, h_b, _⟩ := b; exact RcNeAt.none_tuple h_b hu'
 ·unfold eqD; obtain ⟨_, _, rfl, h_b, _⟩ := b; exact RcNeAt.none_list h_b hu'
 ·exact b.elim
 ·exact b.elim
 ·exact b.elim
 ·exact b.elim
theorem RcNeAt.x_bl {x : Bool} {q : PV} {u v : Value} {A : Around} (a : HRep s.heap (.bl x) u) (b : HRep s.heap q v) (hu' : A.units < cLine) : RcNeAt A s u v (!eqD (.bl x) q) := by
 unfold HRep at a; subst a
 cases q <;> unfold HRep at b
 ·unfold eqD; subst b; exact RcNeAt.bool_none _
 ·unfold eqD; subst b; exact RcNeAt.bool_bool _ _
 ·unfold eqD; obtain ⟨_, rfl⟩ := b; exact RcNeAt.bool_int _ _ _
 ·unfold eqD; obtain ⟨_, rfl⟩ := b; exact RcNeAt.bool_str _ _ _
 ·unfold eqD; obtain ⟨_, _, rfl, h_b, _⟩ := b; exact RcNeAt.bool_tuple _ h_b hu'
 ·unfold eqD; obtain ⟨_, _, rfl, h_b, _⟩ := b; exact RcNeAt.bool_list _ h_b hu'
 ·exact b.elim
 ·exact b.elim
 ·exact b.elim
 ·exact b.elim
theorem RcNeAt.x_int {x : Int} {q : PV} {u v : Value} {A : Around} (a : HRep s.heap (.int x) u) (b : HRep s.heap q v) (hu' : A.units < cLine) : RcNeAt A s u v (!eqD (.int x) q) := by
 unfold HRep at a; obtain ⟨_, rfl⟩ := a
 cases q <;> unfold HRep at b
 ·unfold eqD; subst b; exact RcNeAt.int_none _ _
 ·unfold eqD; subst b; exact RcNeAt.int_bool _ _ _
 ·unfold eqD; obtain ⟨_, rfl⟩ := b; exact RcNeAt.int_int _ _ _ _
 ·unfold eqD; obtain ⟨_, rfl⟩ := b; exact RcNeAt.int_str _ _ _ _
 ·unfold eqD; obtain ⟨_, _, rfl, h_b, _⟩ := b; exact RcNeAt.int_tuple _ _ h_b hu'
 ·unfold eqD; obtain ⟨_, _, rfl, h_b, _⟩ := b; exact RcNeAt.int_list _ _ h_b hu'
 ·exact b.elim
 ·exact b.elim
 ·exact b.elim
 ·exact b.elim
theorem RcNeAt.x_str {x : Str} {q : PV} {u v : Value} {A : Around} (a : HRep s.heap (.str x) u) (b : HRep s.heap q v) (hu' : A.units < cLine) : RcNeAt A s u v (!eqD (.str x) q) := by
 unfold HRep at a; obtain ⟨_, rfl⟩ := a
 cases q <;> unfold HRep at b
 ·unfold eqD; subst b; exact RcNeAt.str_none _ _
 ·unfold eqD; subst b; exact RcNeAt.str_bool _ _ _
 ·unfold eqD; obtain ⟨_, rfl⟩ := b; exact RcNeAt.str_int _ _ _ _
 ·unfold eqD; obtain ⟨_, rfl⟩ := b; exact RcNeAt.str_str _ _ _ _
 ·unfold eqD; obtain ⟨_, _, rfl, h_b, _⟩ := b; exact RcNeAt.str_tuple _ _ h_b hu'
 ·unfold eqD; obtain ⟨_, _, rfl, h_b, _⟩ := b; exact RcNeAt.str_list _ _ h_b hu'
 ·exact b.elim
 ·exact b.elim
 ·exact b.elim
 ·exact b.elim
theorem RcNeAt.x_tup_non {ps : List PV} {u v : Value} {A : Around} (a : HRep s.heap (.tup ps) u) (b : HRep s.heap .non v) (hu' : A.units < cLine) : RcNeAt A s u v (!eqD (.tup ps) .non) := by
 unfold HRep at a b; unfold eqD; obtain ⟨_, _, rfl, h_a, _⟩ := a; subst b; exact RcNeAt.tuple_none h_a hu'
theorem RcNeAt.x_tup_bl {x : Bool} {ps : List PV} {u v : Value} {A : Around} (a : HRep s.heap (.tup ps) u) (b : HRep s.heap (.bl x) v) (hu' : A.units < cLine) : RcNeAt A s u v (!eqD (.tup ps) (.bl x)) := by
 unfold HRep at a b; unfold eqD; obtain ⟨_, _, rfl, h_a, _⟩ := a; subst b; exact RcNeAt.tuple_bool _ h_a hu'
theorem RcNeAt.x_tup_int {x : Int} {ps : List PV} {u v : Value} {A : Around} (a : HRep s.heap (.tup ps) u) (b : HRep s.heap (.int x) v) (hu' : A.units < cLine) : RcNeAt A s u v (!eqD (.tup ps) (.int x)) := by
 unfold HRep at a b; unfold eqD; obtain ⟨_, _, rfl, h_a, _⟩ := a; obtain ⟨_, rfl⟩ := b; exact RcNeAt.tuple_int _ _ h_a hu'
theorem RcNeAt.x_tup_str {x : Str} {ps : List PV} {u v : Value} {A : Around} (a : HRep s.heap (.tup ps) u) (b : HRep s.heap (.str x) v) (hu' : A.units < cLine) : RcNeAt A s u v (!eqD (.tup ps) (.str x)) := by
 unfold HRep at a b; unfold eqD; obtain ⟨_, _, rfl, h_a, _⟩ := a; obtain ⟨_, rfl⟩ := b; exact RcNeAt.tuple_str _ _ h_a hu'
theorem RcNeAt.x_tup_lst {x : List PV} {ps : List PV} {u v : Value} {A : Around} (a : HRep s.heap (.tup ps) u) (b : HRep s.heap (.lst x) v) (hu' : A.units < cLine) : RcNeAt A s u v (!eqD (.tup ps) (.lst x)) := by
 unfold HRep at a b; unfold eqD; obtain ⟨_, _, rfl, h_a, _⟩ := a; obtain ⟨_, _, rfl, h_b, _⟩ := b; exact RcNeAt.tuple_list h_a h_b hu'
theorem RcNeAt.x_lst_non {ps : List PV} {u v : Value} {A : Around} (a : HRep s.heap (.lst ps) u) (b : HRep s.heap .non v) (hu' : A.units < cLine) : RcNeAt A s u v (!eqD (.lst ps) .non) := by
 unfold HRep at a b; unfold eqD; obtain ⟨_, _, rfl, h_a, _⟩ := a; subst b; exact RcNeAt.list_none h_a hu'
theorem RcNeAt.x_lst_bl {x : Bool} {ps : List PV} {u v : Value} {A : Around} (a : HRep s.heap (.lst ps) u) (b : HRep s.heap (.bl x) v) (hu' : A.units < cLine) : RcNeAt A s u v (!eqD (.lst ps) (.bl x)) := by
 unfold HRep at a b; unfold eqD; obtain ⟨_, _, rfl, h_a, _⟩ := a; subst b; exact RcNeAt.list_bool _ h_a hu'
theorem RcNeAt.x_lst_int {x : Int} {ps : List PV} {u v : Value} {A : Around} (a : HRep s.heap (.lst ps) u) (b : HRep s.heap (.int x) v) (hu' : A.units < cLine) : RcNeAt A s u v (!eqD (.lst ps) (.int x)) := by
 unfold HRep at a b; unfold eqD; obtain ⟨_, _, rfl, h_a, _⟩ := a; obtain ⟨_, rfl⟩ := b; exact RcNeAt.list_int _ _ h_a hu'
theorem RcNeAt.x_lst_str {x : Str} {ps : List PV} {u v : Value} {A : Around} (a : HRep s.heap (.lst ps) u) (b : HRep s.heap (.str x) v) (hu' : A.units < cLine) : RcNeAt A s u v (!eqD (.lst ps) (.str x)) := by
 unfold HRep at a b; unfold eqD; obtain ⟨_, _, rfl, h_a, _⟩ := a; obtain ⟨_, rfl⟩ := b; exact RcNeAt.list_str _ _ h_a hu'
theorem RcNeAt.x_lst_tup {x : List PV} {ps : List PV} {u v : Value} {A : Around} (a : HRep s.heap (.lst ps) u) (b : HRep s.heap (.tup x) v) (hu' : A.units < cLine) : RcNeAt A s u v (!eqD (.lst ps) (.tup x)) := by
 unfold HRep at a b; unfold eqD; obtain ⟨_, _, rfl, h_a, _⟩ := a; obtain ⟨_, _, rfl, h_b, _⟩ := b; exact RcNeAt.list_tuple h_a h_b hu'
mutual
theorem HRep.eqAt : ∀ (p : PV) {q : PV} {u v : Value} {A : Around}, HRep s.heap p u -> HRep s.heap q v -> A.units + dep p < cLine -> EqAt A s u v (eqD p q)
 | .non, q, u, v, A, a, b, hu => EqAt.x_non a b (by lia)
 | .bl x, q, u, v, A, a, b, hu => EqAt.x_bl a b (by lia)
 | .int x, q, u, v, A, a, b, hu => EqAt.x_int a b (by lia)
 | .str x, q, u, v, A, a, b, hu => EqAt.x_str a b (by lia)
 | .tup ps, q, u, v, A, a, b, hu => by
  have hu' : A.units < cLine := by lia
  cases q with
  | non => exact EqAt.x_tup_non a b hu'
  | bl x => exact EqAt.x_tup_bl a b hu'
  | int x => exact EqAt.x_tup_int a b hu'
  | str x => exact EqAt.x_tup_str a b hu'
  | lst x => exact EqAt.x_tup_lst a b hu'
  | tup qs =>
   have a0 := a; have b0 := b
   unfold HRep at a b; obtain ⟨l, us, rfl, h1, r1⟩ := a; obtain ⟨l', vs, rfl, h2, r2⟩ := b
   unfold dep at hu
   by_cases e : l = l'
   ·subst e
    rw [HRep.same _ a0 b0]
    exact EqAt.same _
   ·unfold eqD
    exact .of_refs e (RcAt.tupD h1 h2 r1.length r2.length hu' (HReps.eqAt ps r1 r2 (by rw [Around.in1_units]; lia)))
  | dct _ _ => unfold HRep at b; exact b.elim
  | dtt _ _ => unfold HRep at b; exact b.elim
  | fn _ => unfold HRep at b; exact b.elim
  | ty _ => unfold HRep at b; exact b.elim
 | .lst ps, q, u, v, A, a, b, hu => by
  have hu' : A.units < cLine := by lia
  cases q with
  | non => exact EqAt.x_lst_non a b hu'
  | bl x => exact EqAt.x_lst_bl a b hu'
  | int x => exact EqAt.x_lst_int a b hu'
  | str x => exact EqAt.x_lst_str a b hu'
  | tup x => exact EqAt.x_lst_tup a b hu'
  | lst qs =>
   have a0 := a; have b0 := b
   unfold HRep at a b; obtain ⟨l, us, rfl, h1, r1⟩ := a; obtain ⟨l', vs, rfl, h2, r2⟩ := b
   unfold dep at hu
   by_cases e : l = l'
   ·subst e
    rw [HRep.same _ a0 b0]
    exact EqAt.same _
   ·unfold eqD
    exact .of_refs e (RcAt.lstD h1 h2 r1.length r2.length hu' (HReps.eqAt ps r1 r2 (by rw [Around.in1_units]; lia)))
  | dct _ _ => unfold HRep at b; exact b.elim
  | dtt _ _ => unfold HRep at b; exact b.elim
  | fn _ => unfold HRep at b; exact b.elim
  | ty _ => unfold HRep at b; exact b.elim
 | .dct _ _, q, u, v, A, a, b, hu => by unfold HRep at a; exact a.elim
 | .dtt _ _, q, u, v, A, a, b, hu => by unfold HRep at a; exact a.elim
 | .fn _, q, u, v, A, a, b, hu => by unfold HRep at a; exact a.elim
 | .ty _, q, u, v, A, a, b, hu => by unfold HRep at a; exact a.elim
theorem HReps.eqAt : ∀ (ps : List PV) {qs : List PV} {us vs : List Value} {A : Around}, HReps s.heap ps us -> HReps s.heap qs vs -> A.units + deps ps < cLine ->
  ∀ j (h1 : j < us.length) (h2 : j < vs.length), EqAt A s us[j] vs[j] (eqD (ps.getD j .non) (qs.getD j .non))
 | [], qs, us, vs, A, a, b, hu => fun j h1 _ => by unfold HReps at a; subst a; cases h1
 | p :: ps, qs, us, vs, A, a, b, hu => fun j h1 h2 => by
  unfold HReps at a; obtain ⟨v, r, rfl, a1, a2⟩ := a
  unfold deps at hu
  cases qs with
  | nil => unfold HReps at b; subst b; cases h2
  | cons q qs =>
   unfold HReps at b; obtain ⟨v', r', rfl, b1, b2⟩ := b
   cases j with
   | zero => exact HRep.eqAt p a1 b1 (by lia)
   | succ j => simpa using HReps.eqAt ps a2 b2 (by lia) j (by simpa using h1) (by simpa using h2)
end
theorem HRep.rcAt : ∀ (p : PV) {q : PV} {u v : Value} {A : Around}, HRep s.heap p u -> HRep s.heap q v -> A.units + dep p < cLine -> RcAt A s u v (eqD p q)
 | .non, q, u, v, A, a, b, hu => RcAt.x_non a b (by lia)
 | .bl x, q, u, v, A, a, b, hu => RcAt.x_bl a b (by lia)
 | .int x, q, u, v, A, a, b, hu => RcAt.x_int a b (by lia)
 | .str x, q, u, v, A, a, b, hu => RcAt.x_str a b (by lia)
 | .tup ps, q, u, v, A, a, b, hu => by
  have hu' : A.units < cLine := by lia
  cases q with
  | non => exact RcAt.x_tup_non a b hu'
  | bl x => exact RcAt.x_tup_bl a b hu'
  | int x => exact RcAt.x_tup_int a b hu'
  | str x => exact RcAt.x_tup_str a b hu'
  | lst x => exact RcAt.x_tup_lst a b hu'
  | tup qs =>
   have a0 := a; have b0 := b
   unfold HRep at a b; obtain ⟨l, us, rfl, h1, r1⟩ := a; obtain ⟨l', vs, rfl, h2, r2⟩ := b
   unfold dep at hu
   unfold eqD
   exact RcAt.tupD h1 h2 r1.length r2.length hu' (HReps.eqAt ps r1 r2 (by rw [Around.in1_units]; lia))
  | dct _ _ => unfold HRep at b; exact b.elim
  | dtt _ _ => unfold HRep at b; exact b.elim
  | fn _ => unfold HRep at b; exact b.elim
  | ty _ => unfold HRep at b; exact b.elim
 | .lst ps, q, u, v, A, a, b, hu => by
  have hu' : A.units < cLine := by lia
  cases q with
  | non => exact RcAt.x_lst_non a b hu'
  | bl x => exact RcAt.x_lst_bl a b hu'
  | int x => exact RcAt.x_lst_int a b hu'
  | str x => exact RcAt.x_lst_str a b hu'
  | tup x => exact RcAt.x_lst_tup a b hu'
  | lst qs =>
   have a0 := a; have b0 := b
   unfold HRep at a b; obtain ⟨l, us, rfl, h1, r1⟩ := a; obtain ⟨l', vs, rfl, h2, r2⟩ := b
   unfold dep at hu
   unfold eqD
   exact RcAt.lstD h1 h2 r1.length r2.length hu' (HReps.eqAt ps r1 r2 (by rw [Around.in1_units]; lia))
  | dct _ _ => unfold HRep at b; exact b.elim
  | dtt _ _ => unfold HRep at b; exact b.elim
  | fn _ => unfold HRep at b; exact b.elim
  | ty _ => unfold HRep at b; exact b.elim
 | .dct _ _, q, u, v, A, a, b, hu => by unfold HRep at a; exact a.elim
 | .dtt _ _, q, u, v, A, a, b, hu => by unfold HRep at a; exact a.elim
 | .fn _, q, u, v, A, a, b, hu => by unfold HRep at a; exact a.elim
 | .ty _, q, u, v, A, a, b, hu => by unfold HRep at a; exact a.elim
theorem HRep.rcNeAt : ∀ (p : PV) {q : PV} {u v : Value} {A : Around}, HRep s.heap p u -> HRep s.heap q v -> A.units + dep p < cLine -> RcNeAt A s u v (!eqD p q)
 | .non, q, u, v, A, a, b, hu => RcNeAt.x_non a b (by lia)
 | .bl x, q, u, v, A, a, b, hu => RcNeAt.x_bl a b (by lia)
 | .int x, q, u, v, A, a, b, hu => RcNeAt.x_int a b (by lia)
 | .str x, q, u, v, A, a, b, hu => RcNeAt.x_str a b (by lia)
 | .tup ps, q, u, v, A, a, b, hu => by
  have hu' : A.units < cLine := by lia
  cases q with
  | non => exact RcNeAt.x_tup_non a b hu'
  | bl x => exact RcNeAt.x_tup_bl a b hu'
  | int x => exact RcNeAt.x_tup_int a b hu'
  | str x => exact RcNeAt.x_tup_str a b hu'
  | lst x => exact RcNeAt.x_tup_lst a b hu'
  | tup qs =>
   have a0 := a; have b0 := b
   unfold HRep at a b; obtain ⟨l, us, rfl, h1, r1⟩ := a; obtain ⟨l', vs, rfl, h2, r2⟩ := b
   unfold dep at hu
   unfold eqD
   exact RcNeAt.tupD h1 h2 r1.length r2.length hu' (HReps.eqAt ps r1 r2 (by rw [Around.in1_units]; lia))
  | dct _ _ => unfold HRep at b; exact b.elim
  | dtt _ _ => unfold HRep at b; exact b.elim
  | fn _ => unfold HRep at b; exact b.elim
  | ty _ => unfold HRep at b; exact b.elim
 | .lst ps, q, u, v, A, a, b, hu => by
  have hu' : A.units < cLine := by lia
  cases q with
  | non => exact RcNeAt.x_lst_non a b hu'
  | bl x => exact RcNeAt.x_lst_bl a b hu'
  | int x => exact RcNeAt.x_lst_int a b hu'
  | str x => exact RcNeAt.x_lst_str a b hu'
  | tup x => exact RcNeAt.x_lst_tup a b hu'
  | lst qs =>
   have a0 := a; have b0 := b
   unfold HRep at a b; obtain ⟨l, us, rfl, h1, r1⟩ := a; obtain ⟨l', vs, rfl, h2, r2⟩ := b
   unfold dep at hu
   unfold eqD
   exact RcNeAt.lstD h1 h2 r1.length r2.length hu' (HReps.eqAt ps r1 r2 (by rw [Around.in1_units]; lia))
  | dct _ _ => unfold HRep at b; exact b.elim
  | dtt _ _ => unfold HRep at b; exact b.elim
  | fn _ => unfold HRep at b; exact b.elim
  | ty _ => unfold HRep at b; exact b.elim
 | .dct _ _, q, u, v, A, a, b, hu => by unfold HRep at a; exact a.elim
 | .dtt _ _, q, u, v, A, a, b, hu => by unfold HRep at a; exact a.elim
 | .fn _, q, u, v, A, a, b, hu => by unfold HRep at a; exact a.elim
 | .ty _, q, u, v, A, a, b, hu => by unfold HRep at a; exact a.elim
end
section
variable {X : Cx}
noncomputable abbrev rDeep (K : W.Frag) (g : PV -> PV -> Bool) : R2 := fun x y H Q => ∃ ι p q, Lies K ι H p x /\ Lies K ι H q y /\ dat p = true /\ dat q = true /\ dep p <= 60 /\ Q (.bl (g p q)) H
theorem op_eqD (hu : X.A.units + 64 < cLine) : OpR X (compareOp .Eq) (rDeep X.K eqD) := by
 intro pins s σ H x y v u Q I rx ry h
 obtain ⟨ι, p, q, lx, ly, dp, dq, de, k⟩ := h
 exact HRep.rcAt p (lx.heap I rx dp) (ly.heap I ry dq) (by lia) X.prog X.w X.xe _ ⟨.bl _, H, I, rfl, k⟩
theorem op_neD (hu : X.A.units + 64 < cLine) : OpR X (compareOp .NotEq) (rDeep X.K fun p q => !eqD p q) := by
 intro pins s σ H x y v u Q I rx ry h
 obtain ⟨ι, p, q, lx, ly, dp, dq, de, k⟩ := h
 exact HRep.rcNeAt p (lx.heap I rx dp) (ly.heap I ry dq) (by lia) X.prog X.w X.xe _ ⟨.bl _, H, I, rfl, k⟩
noncomputable def deepP (g : PV -> PV -> Bool) (p q : PV) : Option PV := if dat p && dat q && decide (dep p <= 60) then some (.bl (g p q)) else none
theorem deep_ok {g : PV -> PV -> Bool} : L2ok X.K (rDeep X.K g) (deepP g) := by
 intro ι H C p q vx vy z Q cr lx ly e k
 unfold deepP at e
 split at e
 ·rename_i h
  cases e
  simp only [Bool.and_eq_true, decide_eq_true_eq] at h
  exact ⟨ι, p, q, lx, ly, h.1.1, h.1.2, h.2, k _ H .refl cr repBl⟩
 ·cases e
theorem hu64 {A : Around} {k : Nat} (hr : Room k A) : A.units + 64 < cLine := hr.units
end
mutual
theorem HRep.inj {h : Heap} : ∀ (p : PV) {q : PV} {u : Value}, HRep h p u -> HRep h q u -> p = q
 | .non, q, u, a, b => by
  unfold HRep at a; subst a
  cases q <;> unfold HRep at b <;> first | rfl | (cases b; done) | (obtain ⟨_, e⟩ := b; cases e; done) | (obtain ⟨_, _, e, _⟩ := b; cases e; done) | exact b.elim
 | .bl x, q, u, a, b => by
  unfold HRep at a; subst a
  cases q <;> unfold HRep at b <;> first | (cases b; done) | (cases b; rfl) | (obtain ⟨_, e⟩ := b; cases e; done) | (obtain ⟨_, _, e, _⟩ := b; cases e; done) | exact b.elim
 | .int x, q, u, a, b => by
  unfold HRep at a; obtain ⟨t, rfl⟩ := a
  cases q <;> unfold HRep at b <;> first | (cases b; done) | (obtain ⟨_, e⟩ := b; cases e; done) | (obtain ⟨_, e⟩ := b; cases e; rfl) | (obtain ⟨_, _, e, _⟩ := b; cases e; done) | exact b.elim
 | .str x, q, u, a, b => by
  unfold HRep at a; obtain ⟨t, rfl⟩ := a
  cases q <;> unfold HRep at b <;> first | (cases b; done) | (obtain ⟨_, e⟩ := b; cases e; done) | (obtain ⟨_, e⟩ := b; cases e; rfl) | (obtain ⟨_, _, e, _⟩ := b; cases e; done) | exact b.elim
 | .tup ps, q, u, a, b => by
  unfold HRep at a; obtain ⟨l, us, rfl, h1, r1⟩ := a
  cases q with
  | tup qs =>
   unfold HRep at b; obtain ⟨l', vs, e, h2, r2⟩ := b
   cases e
   cases Zcw h1 h2
   rw [HReps.inj ps r1 r2]
  | lst qs => unfold HRep at b; obtain ⟨l', vs, e, h2, r2⟩ := b; cases e; exact (Zch h1 h2).elim
  | _ => unfold HRep at b; first | (cases b; done) | (obtain ⟨_, e⟩ := b; cases e; done) | exact b.elim
 | .lst ps, q, u, a, b => by
  unfold HRep at a; obtain ⟨l, us, rfl, h1, r1⟩ := a
  cases q with
  | lst qs =>
   unfold HRep at b; obtain ⟨l', vs, e, h2, r2⟩ := b
   cases e
   cases ZcV h1 h2
   rw [HReps.inj ps r1 r2]
  | tup qs => unfold HRep at b; obtain ⟨l', vs, e, h2, r2⟩ := b; cases e; exact (Zch h2 h1).elim
  | _ => unfold HRep at b; first | (cases b; done) | (obtain ⟨_, e⟩ := b; cases e; done) | exact b.elim
 | .dct _ _, q, u, a, b => by unfold HRep at a; exact a.elim
 | .dtt _ _, q, u, a, b => by unfold HRep at a; exact a.elim
 | .fn _, q, u, a, b => by unfold HRep at a; exact a.elim
 | .ty _, q, u, a, b => by unfold HRep at a; exact a.elim
theorem HReps.inj {h : Heap} : ∀ (ps : List PV) {qs : List PV} {us : List Value}, HReps h ps us -> HReps h qs us -> ps = qs
 | [], qs, us, a, b => by
  unfold HReps at a; subst a
  cases qs with
  | nil => rfl
  | cons q qs => unfold HReps at b; obtain ⟨_, _, e, _⟩ := b; cases e
 | p :: ps, qs, us, a, b => by
  unfold HReps at a; obtain ⟨v, r, rfl, a1, a2⟩ := a
  cases qs with
  | nil => unfold HReps at b; cases b
  | cons q qs =>
   unfold HReps at b; obtain ⟨v', r', e, b1, b2⟩ := b
   cases e
   rw [HRep.inj p a1 b1, HReps.inj ps a2 b2]
end
open Classical in
noncomputable def eqH (h : Heap) (q : PV) (u : Value) : Bool := decide (∃ p, HRep h p u /\ eqD p q = true)
open Classical in
theorem eqH_of {h : Heap} {p q : PV} {u : Value} (a : HRep h p u) : eqH h q u = eqD p q := by
 unfold eqH
 cases e : eqD p q with
 | true => exact decide_eq_true ⟨p, a, e⟩
 | false => exact decide_eq_false fun h_ => by obtain ⟨p', a', e'⟩ := h_; rw [HRep.inj p a a', e'] at e; cases e
theorem any_eqH {h : Heap} {q : PV} : ∀ {ps : List PV} {us : List Value}, HReps h ps us -> us.any (eqH h q) = ps.any fun p => eqD p q
 | [], us, a => by unfold HReps at a; subst a; rfl
 | p :: ps, us, a => by
  unfold HReps at a; obtain ⟨v, r, rfl, a1, a2⟩ := a
  rw [List.any_cons, List.any_cons, eqH_of a1, any_eqH a2]
theorem mem_eqH {A : Around} {s : Shared} {q : PV} {v : Value} (b : HRep s.heap q v) : ∀ {ps : List PV} {us : List Value}, HReps s.heap ps us -> A.units + deps ps < cLine -> ∀ u ∈ us, EqAt A s u v (eqH s.heap q u)
 | [], us, a, _, u, hu => by unfold HReps at a; subst a; cases hu
 | p :: ps, us, a, hz, u, hu => by
  unfold HReps at a; obtain ⟨w, r, rfl, a1, a2⟩ := a
  unfold deps at hz
  rcases List.mem_cons.mp hu with rfl | hu
  ·rw [eqH_of a1]; exact HRep.eqAt p a1 b (by lia)
  ·exact mem_eqH b a2 (by lia) u hu
noncomputable def inDP (neg : Bool) (x y : PV) : Option PV := match y with
 | .tup ps => if dats ps && dat x && decide (deps ps <= 50) then some (.bl (if neg then !ps.any (fun p => eqD p x) else ps.any fun p => eqD p x)) else none
 | .lst ps => if dats ps && dat x && decide (deps ps <= 50) then some (.bl (if neg then !ps.any (fun p => eqD p x) else ps.any fun p => eqD p x)) else none
 | _ => none
section
variable {X : Cx}
noncomputable def rInD (K : W.Frag) (neg : Bool) : R2 := fun x y H Q => ∃ ι q ps p vs, Lies K ι H q x /\ dat q = true /\ y = .ref p /\ (SqL K H p vs \/ SqT K H p vs) /\ Reps K ι H ps vs /\ dats ps = true /\ deps ps <= 50 /\ Q (.bl (if neg then !ps.any (fun p => eqD p q) else ps.any fun p => eqD p q)) H
theorem op_inD (hu : X.A.units + 64 < cLine) : OpR X (compareOp .In) (rInD X.K false) := by
 intro pins s σ H x y v u Q I rx ry h
 obtain ⟨ι, q, ps, p, vs, lx, dq, rfl, hq, rs, ds, de, k⟩ := h
 cases ry
 have hx := lx.heap I rx dq
 rcases hq with hq | hq
 ·obtain ⟨its, r, pl, hz⟩ := I.list hq
  have hr := Reps.heap I ps rs r ds
  refine SeqAt.in_listAt (eqH s.heap q) pl.isList (fun w hw => mem_eqH hx hr (by rw [Around.in1_units]; lia) w (by simpa using hw)) ⟨.bl _, H, I, rfl, ?_⟩
  rw [show its.toArray.any (eqH s.heap q) = its.any (eqH s.heap q) by simp, any_eqH hr]
  exact k
 ·obtain ⟨its, r, pl, hz⟩ := I.tuple hq
  have hr := Reps.heap I ps rs r ds
  refine SeqAt.in_tupleAt (eqH s.heap q) pl (fun w hw => mem_eqH hx hr (by rw [Around.in1_units]; lia) w (by simpa using hw)) ⟨.bl _, H, I, rfl, ?_⟩
  rw [show its.toArray.any (eqH s.heap q) = its.any (eqH s.heap q) by simp, any_eqH hr]
  exact k
theorem inD_ok {neg : Bool} : L2ok X.K (rInD X.K neg) (inDP neg) := by
 intro ι H C p q vx vy z Q cr lx ly e k
 unfold inDP at e
 split at e
 ·split at e
  ·rename_i h
   cases e
   simp only [Bool.and_eq_true, decide_eq_true_eq] at h
   cases ly with
   | tup hs rs => exact ⟨ι, p, _, _, _, lx, h.1.2, rfl, .inr hs.sq, rs, h.1.1, h.2, k _ H .refl cr repBl⟩
  ·cases e
 ·split at e
  ·rename_i h
   cases e
   simp only [Bool.and_eq_true, decide_eq_true_eq] at h
   cases ly with
   | lst hs rs => exact ⟨ι, p, _, _, _, lx, h.1.2, rfl, .inl hs, rs, h.1.1, h.2, k _ H .refl cr repBl⟩
  ·cases e
 ·cases e
end
mutual
noncomputable def ltD : PV -> PV -> Option Bool
 | .int a, .int b => some (decide (a < b))
 | .str a, .str b => some (decide (a.cps.toList < b.cps.toList))
 | .tup xs, .tup ys => lexD xs ys
 | _, _ => none
noncomputable def lexD : List PV -> List PV -> Option Bool
 | [], [] => some false
 | [], _ :: _ => some true
 | _ :: _, [] => some false
 | x :: xs, y :: ys => if eqD x y then lexD xs ys else ltD x y
end
noncomputable def RcLtAt (A : Around) (s : Shared) (y x : Value) (b : Bool) : Prop :=
 ∀ (prog : Program) (w : World) (E : Value -> Shared -> Prop) (Q : Value -> Shared -> Prop), Q (.bool b) s -> wpAny (model prog w) A (richCompare .Lt y x) Q E s
inductive PairsOk (A : Around) (s : Shared) : List PV -> List PV -> List Value -> List Value -> Prop
 | nil1 {qs : List PV} {vs : List Value} (h : qs.length = vs.length) : PairsOk A s [] qs [] vs
 | nil2 {ps : List PV} {us : List Value} (h : ps.length = us.length) : PairsOk A s ps [] us []
 | cons {p q : PV} {u v : Value} {ps qs : List PV} {us vs : List Value} (e : EqAt A s u v (eqD p q)) (l : ∀ c, ltD p q = some c -> RcLtAt A s u v c) (t : PairsOk A s ps qs us vs) : PairsOk A s (p :: ps) (q :: qs) (u :: us) (v :: vs)
section
open PySem.AutoSeq1 (wpAny_loadPart')
open PySem.MeetsSeq PySem.MeetsSeq2 PySem.MeetsSeq3
theorem lexD_cons (x y : PV) (xs ys : List PV) : lexD (x :: xs) (y :: ys) = if eqD x y then lexD xs ys else ltD x y := by rw [lexD]
theorem Zbg : lexD [] [] = some false := by rw [lexD]
theorem ZbS (y : PV) (ys : List PV) : lexD [] (y :: ys) = some true := by rw [lexD]
theorem ZbT (x : PV) (xs : List PV) : lexD (x :: xs) [] = some false := by rw [lexD]
theorem tuple_ltD (l b : Addr) (items items2 : Array Value) (n n2 : Nat) (dd dd2 : Option Addr) (sl sl2 : Array (Option Value)) (ps qs : List PV) (c : Bool) (hc : lexD ps qs = some c) :
  Meets (Builtin.«tuple.__lt__» ⟨[.ref l, .ref b], []⟩)
   (fun A R s => s.heap.get? l = some { cls := .type "tuple", dict := dd, data := .seq items n, slots := sl } /\ s.heap.get? b = some { cls := .type "tuple", dict := dd2, data := .seq items2 n2, slots := sl2 } /\
    PairsOk A.in1 s ps qs items.toList items2.toList /\ R (.ok (.ret (.bool c))) s) :=
 .of_wp fun prog w A R s h => by
  obtain ⟨hp, g, d, tk, os⟩ := s; obtain ⟨hl, hb, hpr, h⟩ := h
  have f2 := AutoSeq1.sub_tuple_tuple
  wp_walk using wpAny_loadPart' hl, wpAny_loadPart' hb, wpAny_forIn_list _ (fun rest b s' => b.1 = none /\ s' = ⟨hp, g, d, tk, os⟩ /\ ∃ (vs ws : List Value) (ps' qs' : List PV), rest = vs.zip ws /\
   PairsOk A.in1 ⟨hp, g, d, tk, os⟩ ps' qs' vs ws /\ vs.length + items2.size = ws.length + items.size /\ lexD ps' qs' = some c) _
  case turn =>
   rintro ⟨y, x⟩ rest b s' ⟨hb', rfl, vs, ws, ps', qs', hz, hpr', hlen, hR⟩
   cases hpr' with
   | nil1 hh => rw [List.zip_nil_left] at hz; cases hz
   | nil2 hh => rw [List.zip_nil_right] at hz; cases hz
   | @cons p q u v ps2 qs2 us2 vs2 e lt t =>
    rw [List.zip_cons_cons] at hz
    injection hz with hyx hrest
    injection hyx with hy hx
    subst hy hx
    rw [lexD_cons] at hR
    simp only [List.length_cons] at hlen
    refine wpAny_bind (e prog w _ _ ?_)
    cases ee : eqD p q with
    | true =>
     rw [ee, if_pos rfl] at hR
     wp_walk
     exact ⟨rfl, rfl, _, _, _, _, hrest, t, by lia, hR⟩
    | false =>
     rw [ee, if_neg Bool.false_ne_true] at hR
     have hri := lt c hR prog w
     wp_walk using hri
     exact ⟨_, rfl, by simpa using h⟩
  case fin =>
   rintro ⟨b1, b2⟩ s' ⟨hb', rfl, vs, ws, ps', qs', hz, hpr', hlen, hR⟩
   simp only at hb'
   subst hb'
   have hv : c = decide (items.size < items2.size) := by
    cases hpr' with
    | nil1 hh =>
     cases qs' with
     | nil =>
      rw [Zbg] at hR; cases hR
      simp only [List.length_nil] at hlen hh
      exact (decide_eq_false (by lia)).symm
     | cons q qs2 =>
      rw [ZbS] at hR; cases hR
      simp only [List.length_nil, List.length_cons] at hlen hh
      exact (decide_eq_true (by lia)).symm
    | nil2 hh =>
     cases ps' with
     | nil =>
      rw [Zbg] at hR; cases hR
      simp only [List.length_nil] at hlen hh
      exact (decide_eq_false (by lia)).symm
     | cons q qs2 =>
      rw [ZbT] at hR; cases hR
      simp only [List.length_nil, List.length_cons] at hlen hh
      exact (decide_eq_false (by lia)).symm
    | cons e lt t => rw [List.zip_cons_cons] at hz; cases hz
   rw [hv] at h
   wp_walk
   exact ⟨_, rfl, by simpa [Builtin.Tuple.tupleCompareSizes] using h⟩
  case h =>
   exact ⟨rfl, rfl, items.toList, items2.toList, ps, qs, rfl, hpr, by simp; lia, hc⟩
end
section
variable {s : Shared}
theorem RcLtAt.int (a : Int) (t : Tok) (c : Int) (u : Tok) (A : Around) : RcLtAt A s (.int a t) (.int c u) (decide (a < c)) := fun prog w E Q h =>
 (PyProof.Rows.lt_int h : wpAny (model prog w) A (compareOp .Lt (.int a t) (.int c u)) Q E s)
theorem RcLtAt.str (a : Str) (t : Tok) (c : Str) (u : Tok) (A : Around) : RcLtAt A s (.str a t) (.str c u) (decide (a.cps.toList < c.cps.toList)) := fun prog w E Q h =>
 (PyProof.Rows.lt_str h : wpAny (model prog w) A (compareOp .Lt (.str a t) (.str c u)) Q E s)
theorem RcLtAt.tup {A : Around} {l b : Addr} {us vs : List Value} {ps qs : List PV} {c : Bool} (hl : s.heap.IsTuple l us.toArray) (hb : s.heap.IsTuple b vs.toArray) (hu : A.units < cLine) (hp : PairsOk A.in1 s ps qs us vs) (hc : lexD ps qs = some c) :
  RcLtAt A s (.ref l) (.ref b) c := fun prog w E Q h => by
 obtain ⟨⟨cls, dd, data, sl⟩, ho, hcl, n, hd⟩ := id hl
 obtain ⟨⟨cls2, dd2, data2, sl2⟩, ho2, hcl2, n2, hd2⟩ := id hb
 simp only at hcl hd hcl2 hd2
 subst hcl hd hcl2 hd2
 exact richCompare_meets_room (op := .Lt) ⟨_, ho, rfl⟩ ⟨_, ho2, rfl⟩ PySem.F.slot_tuple_lt PySem.F.entry_tuple_lt (PySem.F.args_tuple_lt_2 _ _) (tuple_ltD l b us.toArray vs.toArray n n2 dd dd2 sl sl2 ps qs c hc)
  ⟨ho, ho2, hp, show Value.bool c ≠ Value.notImplemented /\ Q (.bool c) s from ⟨(fun x => nomatch x), h⟩⟩ hu
mutual
theorem HRep.rcLt : ∀ (p : PV) {q : PV} {u v : Value} {A : Around} {c : Bool}, HRep s.heap p u -> HRep s.heap q v -> A.units + dep p < cLine -> ltD p q = some c -> RcLtAt A s u v c
 | .int x, q, u, v, A, c, a, b, hu, e => by
  cases q with
  | int y =>
   unfold HRep at a b; obtain ⟨t, rfl⟩ := a; obtain ⟨t', rfl⟩ := b
   unfold ltD at e; cases e; exact .int _ _ _ _ _
  | _ => unfold ltD at e; cases e
 | .str x, q, u, v, A, c, a, b, hu, e => by
  cases q with
  | str y =>
   unfold HRep at a b; obtain ⟨t, rfl⟩ := a; obtain ⟨t', rfl⟩ := b
   unfold ltD at e; cases e; exact .str _ _ _ _ _
  | _ => unfold ltD at e; cases e
 | .tup ps, q, u, v, A, c, a, b, hu, e => by
  cases q with
  | tup qs =>
   unfold HRep at a b; obtain ⟨l, us, rfl, h1, r1⟩ := a; obtain ⟨l', vs, rfl, h2, r2⟩ := b
   unfold ltD at e
   unfold dep at hu
   exact .tup h1 h2 (by lia) (HReps.pairs ps r1 r2 (by rw [Around.in1_units]; lia)) e
  | _ => unfold ltD at e; cases e
 | .non, q, u, v, A, c, a, b, hu, e => by unfold ltD at e; cases e
 | .bl _, q, u, v, A, c, a, b, hu, e => by unfold ltD at e; cases e
 | .lst _, q, u, v, A, c, a, b, hu, e => by unfold ltD at e; cases e
 | .dct _ _, q, u, v, A, c, a, b, hu, e => by unfold ltD at e; cases e
 | .dtt _ _, q, u, v, A, c, a, b, hu, e => by unfold ltD at e; cases e
 | .fn _, q, u, v, A, c, a, b, hu, e => by unfold ltD at e; cases e
 | .ty _, q, u, v, A, c, a, b, hu, e => by unfold ltD at e; cases e
theorem HReps.pairs : ∀ (ps : List PV) {qs : List PV} {us vs : List Value} {A : Around}, HReps s.heap ps us -> HReps s.heap qs vs -> A.units + deps ps < cLine -> PairsOk A s ps qs us vs
 | [], qs, us, vs, A, a, b, hu => by
  have := b.length
  unfold HReps at a; subst a
  exact .nil1 this
 | p :: ps, qs, us, vs, A, a, b, hu => by
  cases qs with
  | nil =>
   have := a.length
   unfold HReps at b; subst b
   exact .nil2 this
  | cons q qs =>
   unfold HReps at a b; obtain ⟨x, r, rfl, a1, a2⟩ := a; obtain ⟨y, r', rfl, b1, b2⟩ := b
   unfold deps at hu
   exact .cons (HRep.eqAt p a1 b1 (by lia)) (fun c e => HRep.rcLt p a1 b1 (by lia) e) (HReps.pairs ps a2 b2 (by lia))
end
end
section
variable {X : Cx}
noncomputable def rLtD (K : W.Frag) : R2 := fun x y H Q => ∃ ι p q c, Lies K ι H p x /\ Lies K ι H q y /\ dat p = true /\ dat q = true /\ dep p <= 60 /\ ltD p q = some c /\ Q (.bl c) H
theorem op_ltD (hu : X.A.units + 64 < cLine) : OpR X (compareOp .Lt) (rLtD X.K) := by
 intro pins s σ H x y v u Q I rx ry h
 obtain ⟨ι, p, q, c, lx, ly, dp, dq, de, e, k⟩ := h
 exact HRep.rcLt p (lx.heap I rx dp) (ly.heap I ry dq) (by lia) e X.prog X.w X.xe _ ⟨.bl _, H, I, rfl, k⟩
noncomputable def ltDP (p q : PV) : Option PV := if dat p && dat q && decide (dep p <= 60) then (ltD p q).map .bl else none
theorem ltD_ok : L2ok X.K (rLtD X.K) ltDP := by
 intro ι H C p q vx vy z Q cr lx ly e k
 unfold ltDP at e
 split at e
 ·rename_i h
  simp only [Bool.and_eq_true, decide_eq_true_eq] at h
  cases hc : ltD p q with
  | none => rw [hc] at e; cases e
  | some c => rw [hc] at e; cases e; exact ⟨ι, p, q, c, lx, ly, h.1.1, h.1.2, h.2, hc, k _ H .refl cr repBl⟩
 ·cases e
end
end Pu
namespace Pu
open PySem PySem.W
open PyProof.Rows hiding St Fr
noncomputable def runT {α : Type} (o : Nat -> Nat -> Bool) : KasT α -> α
 | .ret a => a
 | .ask i j k => runT o (k (o i j))
theorem Zbl {α β : Type} (o : Nat -> Nat -> Bool) (f : α -> KasT β) : ∀ t : KasT α, runT o (t.bind f) = runT o (f (runT o t))
 | .ret _ => rfl
 | .ask i j k => Zbl o f (k (o i j))
structure Wk (lt : Nat -> Nat -> Bool) : Prop where
 irr : ∀ a, lt a a = false
 asy : ∀ a b, lt a b = true -> lt b a = false
 tr : ∀ a b c, lt b a = false -> lt c b = false -> lt c a = false
section
variable {lt : Nat -> Nat -> Bool}
noncomputable def Srt (lt : Nat -> Nat -> Bool) (p : Array Nat) (k : Nat) : Prop := ∀ i j, i <= j -> j < k -> lt (p.getD j 0) (p.getD i 0) = false
noncomputable def Non (lt : Nat -> Nat -> Bool) (p : Array Nat) (k : Nat) : Prop := ∀ i j, i <= j -> j < k -> lt (p.getD i 0) (p.getD j 0) = false
noncomputable def Eqv (lt : Nat -> Nat -> Bool) (p : Array Nat) (a b : Nat) : Prop := ∀ i j, a <= i -> i < b -> a <= j -> j < b -> lt (p.getD i 0) (p.getD j 0) = false
theorem Zck {p : Array Nat} {i j : Nat} (hj : j <= p.size) (k : Nat) : (kas_rev p i j).getD k 0 = if i <= k /\ k < j then p.getD (i + j - 1 - k) 0 else p.getD k 0 := by
 unfold kas_rev
 rw [Array.getD_eq_getD_getElem?, getElem?_mirror_all hj]
 split <;> rw [Array.getD_eq_getD_getElem?]
theorem getD_bub {p : Array Nat} {k l : Nat} (hk : k < p.size) (hl : l <= k) (i : Nat) : (bubble p k (k - l)).getD i 0 = if i = l then p.getD k 0 else if l < i /\ i <= k then p.getD (i - 1) 0 else p.getD i 0 := by
 rw [Array.getD_eq_getD_getElem?, getElem?_bubble hk _ (by lia), show k - (k - l) = l by lia]
 by_cases h : i = l
 ·rw [if_pos h, if_pos h, Array.getD_eq_getD_getElem?]
 ·rw [if_neg h, if_neg h]
  by_cases h2 : l < i /\ i <= k
  ·rw [if_pos h2, if_pos h2, Array.getD_eq_getD_getElem?]
  ·rw [if_neg h2, if_neg h2, Array.getD_eq_getD_getElem?]
theorem Srt.step (W : Wk lt) {p : Array Nat} {k : Nat} (h : Srt lt p k) (h1 : 1 <= k) (e : lt (p.getD k 0) (p.getD (k - 1) 0) = false) : Srt lt p (k + 1) := by
 intro i j hij hj
 by_cases hjk : j < k
 ·exact h i j hij hjk
 ·have : j = k := by lia
  subst this
  by_cases hi : i = j
  ·subst hi; exact W.irr _
  ·exact W.tr _ _ _ (h i (j - 1) (by lia) (by lia)) e
theorem Non.step (W : Wk lt) {p : Array Nat} {k : Nat} (h : Non lt p k) (h1 : 1 <= k) (e : lt (p.getD (k - 1) 0) (p.getD k 0) = false) : Non lt p (k + 1) := by
 intro i j hij hj
 by_cases hjk : j < k
 ·exact h i j hij hjk
 ·have : j = k := by lia
  subst this
  by_cases hi : i = j
  ·subst hi; exact W.irr _
  ·exact W.tr _ _ _ e (h i (j - 1) (by lia) (by lia))
theorem Non.rev (W : Wk lt) {p : Array Nat} {m a b : Nat} (h : Non lt p m) (hab : a <= b) (hb : b <= m) (hm : m <= p.size) (e : Eqv lt p a b) : Non lt (kas_rev p a b) m := by
 intro i j hij hj
 rw [Zck (by lia), Zck (by lia)]
 by_cases hi : a <= i /\ i < b
 ·by_cases hj2 : a <= j /\ j < b
  ·rw [if_pos hi, if_pos hj2]; exact e _ _ (by lia) (by lia) (by lia) (by lia)
  ·rw [if_pos hi, if_neg hj2]; exact h _ _ (by lia) (by lia)
 ·by_cases hj2 : a <= j /\ j < b
  ·rw [if_neg hi, if_pos hj2]; exact h _ _ (by lia) (by lia)
  ·rw [if_neg hi, if_neg hj2]; exact h _ _ hij hj
theorem Non.srt {p : Array Nat} {n : Nat} (h : Non lt p n) (hn : n <= p.size) : Srt lt (kas_rev p 0 n) n := by
 intro i j hij hj
 rw [Zck hn, Zck hn, if_pos (by lia), if_pos (by lia)]
 exact h _ _ (by lia) (by lia)
theorem asc_ok (W : Wk lt) (p : Array Nat) : ∀ (f n : Nat), 1 <= n -> Srt lt p n ->
  n <= runT lt (kas_asc p f n) /\ runT lt (kas_asc p f n) <= n + f /\ Srt lt p (runT lt (kas_asc p f n)) /\ (runT lt (kas_asc p f n) < n + f -> lt (p.getD (runT lt (kas_asc p f n)) 0) (p.getD (runT lt (kas_asc p f n) - 1) 0) = true)
 | 0, n, h1, h => ⟨Nat.le_refl _, Nat.le_refl _, h, fun z => absurd z (Nat.lt_irrefl _)⟩
 | f + 1, n, h1, h => by
  show n <= runT lt (if lt (p.getD n 0) (p.getD (n - 1) 0) = true then KasT.ret n else kas_asc p f (n + 1)) /\ runT lt (if lt (p.getD n 0) (p.getD (n - 1) 0) = true then KasT.ret n else kas_asc p f (n + 1)) <= n + (f + 1) /\
   Srt lt p (runT lt (if lt (p.getD n 0) (p.getD (n - 1) 0) = true then KasT.ret n else kas_asc p f (n + 1))) /\ (runT lt (if lt (p.getD n 0) (p.getD (n - 1) 0) = true then KasT.ret n else kas_asc p f (n + 1)) < n + (f + 1) ->
    lt (p.getD (runT lt (if lt (p.getD n 0) (p.getD (n - 1) 0) = true then KasT.ret n else kas_asc p f (n + 1))) 0) (p.getD (runT lt (if lt (p.getD n 0) (p.getD (n - 1) 0) = true then KasT.ret n else kas_asc p f (n + 1)) - 1) 0) = true)
  by_cases c : lt (p.getD n 0) (p.getD (n - 1) 0) = true
  ·rw [if_pos c]; exact ⟨Nat.le_refl _, Nat.le_add_right _ _, h, fun _ => c⟩
  ·rw [if_neg c]
   obtain ⟨a1, a2, a3, a4⟩ := asc_ok W p f (n + 1) (by lia) (h.step W h1 (by simpa using c))
   exact ⟨by lia, by lia, a3, fun z => a4 (by lia)⟩
structure DS (lt : Nat -> Nat -> Bool) (N : Nat) (p0 p : Array Nat) (n q : Nat) : Prop where
 sz : p.size = p0.size
 pm : p.Perm p0
 n1 : 1 <= n
 nN : n <= N
 q1 : q + 1 <= n
 non : Non lt p n
 eqv : Eqv lt p (n - (q + 1)) n
theorem desc_ok (W : Wk lt) {p0 : Array Nat} {N : Nat} (hN : N <= p0.size) : ∀ (f : Nat) (p : Array Nat) (n q : Nat), DS lt N p0 p n q -> n + f = N ->
  DS lt N p0 (runT lt (kas_desc f p n q)).1 (runT lt (kas_desc f p n q)).2.1 (runT lt (kas_desc f p n q)).2.2
 | 0, p, n, q, D, _ => D
 | f + 1, p, n, q, D, hf => by
  show DS lt N p0 (runT lt (if lt (p.getD n 0) (p.getD (n - 1) 0) = true then (if q > 0 then kas_desc f (kas_rev p (n - (q + 1)) n) (n + 1) 0 else kas_desc f p (n + 1) 0) else .ask (p.getD (n - 1) 0) (p.getD n 0) fun d => if d = true then .ret (p, n, q) else kas_desc f p (n + 1) (q + 1))).1
   (runT lt (if lt (p.getD n 0) (p.getD (n - 1) 0) = true then (if q > 0 then kas_desc f (kas_rev p (n - (q + 1)) n) (n + 1) 0 else kas_desc f p (n + 1) 0) else .ask (p.getD (n - 1) 0) (p.getD n 0) fun d => if d = true then .ret (p, n, q) else kas_desc f p (n + 1) (q + 1))).2.1
   (runT lt (if lt (p.getD n 0) (p.getD (n - 1) 0) = true then (if q > 0 then kas_desc f (kas_rev p (n - (q + 1)) n) (n + 1) 0 else kas_desc f p (n + 1) 0) else .ask (p.getD (n - 1) 0) (p.getD n 0) fun d => if d = true then .ret (p, n, q) else kas_desc f p (n + 1) (q + 1))).2.2
  have hsz := D.sz
  have hq1 := D.q1
  have hn1 := D.n1
  have one : ∀ p' : Array Nat, Eqv lt p' (n + 1 - (0 + 1)) (n + 1) := fun p' i j a b c d => by
   have : i = j := by lia
   subst this; exact W.irr _
  by_cases c : lt (p.getD n 0) (p.getD (n - 1) 0) = true
  ·rw [if_pos c]
   have hn := D.non.step W D.n1 (W.asy _ _ c)
   by_cases hq : q > 0
   ·rw [if_pos hq]
    exact desc_ok W hN f _ _ _ ⟨by unfold kas_rev; rw [mirror_size]; exact hsz, (mirror_perm _ _ _ _).trans D.pm, by lia, by lia, by lia, hn.rev W (by lia) (by lia) (by lia) D.eqv, one _⟩ (by lia)
   ·rw [if_neg hq]
    exact desc_ok W hN f _ _ _ ⟨hsz, D.pm, by lia, by lia, by lia, hn, one _⟩ (by lia)
  ·rw [if_neg c]
   show DS lt N p0 (runT lt (if lt (p.getD (n - 1) 0) (p.getD n 0) = true then .ret (p, n, q) else kas_desc f p (n + 1) (q + 1))).1 (runT lt (if lt (p.getD (n - 1) 0) (p.getD n 0) = true then .ret (p, n, q) else kas_desc f p (n + 1) (q + 1))).2.1 (runT lt (if lt (p.getD (n - 1) 0) (p.getD n 0) = true then .ret (p, n, q) else kas_desc f p (n + 1) (q + 1))).2.2
   by_cases d : lt (p.getD (n - 1) 0) (p.getD n 0) = true
   ·rw [if_pos d]; exact D
   ·rw [if_neg d]
    have c' : lt (p.getD n 0) (p.getD (n - 1) 0) = false := by simpa using c
    have d' : lt (p.getD (n - 1) 0) (p.getD n 0) = false := by simpa using d
    refine desc_ok W hN f _ _ _ ⟨hsz, D.pm, by lia, by lia, by lia, D.non.step W D.n1 d', ?_⟩ (by lia)
    intro i j a1 a2 b1 b2
    by_cases hi : i = n
    ·by_cases hj : j = n
     ·subst hi; subst hj; exact W.irr _
     ·subst hi; exact W.tr _ _ _ (D.eqv _ _ (by lia) (by lia) (by lia) (by lia)) c'
    ·by_cases hj : j = n
     ·subst hj; exact W.tr _ _ _ d' (D.eqv _ _ (by lia) (by lia) (by lia) (by lia))
     ·exact D.eqv _ _ (by lia) (by lia) (by lia) (by lia)
structure CS (lt : Nat -> Nat -> Bool) (N : Nat) (p0 : Array Nat) (r : Nat × Array Nat) : Prop where
 sz : r.2.size = p0.size
 pm : r.2.Perm p0
 n1 : 1 <= r.1
 nN : r.1 <= N
 srt : Srt lt r.2 r.1
theorem tail3_ok (W : Wk lt) {p0 p : Array Nat} {N n : Nat} (hN : N <= p0.size) (hs : p.size = p0.size) (hp : p.Perm p0) (h1 : 1 <= n) (hn : n <= N) (h : Non lt p n) : CS lt N p0 (runT lt (kas_tail3 n N p)) := by
 unfold kas_tail3
 rw [Zbl]
 obtain ⟨a1, a2, a3, _⟩ := asc_ok W (kas_rev p 0 n) (N - n) n h1 (h.srt (by lia))
 exact ⟨by show (kas_rev p 0 n).size = _; unfold kas_rev; rw [mirror_size]; exact hs, (mirror_perm _ _ _ _).trans hp, by show 1 <= runT lt (kas_asc (kas_rev p 0 n) (N - n) n); lia, by show runT lt (kas_asc (kas_rev p 0 n) (N - n) n) <= N; lia, a3⟩
theorem ZcC (W : Wk lt) {p0 p : Array Nat} {N n : Nat} (hN : N <= p0.size) (hs : p.size = p0.size) (hp : p.Perm p0) (h1 : 1 <= n) (hn : n + 1 <= N) (h : Non lt p (n + 1)) : CS lt N p0 (runT lt (kas_descPart n N p)) := by
 unfold kas_descPart
 rw [Zbl]
 have D := desc_ok W hN (N - (n + 1)) p (n + 1) 0 ⟨hs, hp, by lia, hn, by lia, h, fun i j a b c d => (show i = j by lia) ▸ W.irr _⟩ (by lia)
 generalize runT lt (kas_desc (N - (n + 1)) p (n + 1) 0) = r at D ⊢
 have hsz := D.sz
 have hnN := D.nN
 by_cases hq : r.2.2 > 0
 ·rw [if_pos hq]
  exact tail3_ok W hN (by unfold kas_rev; rw [mirror_size]; exact hsz) ((mirror_perm _ _ _ _).trans D.pm) D.n1 D.nN (D.non.rev W (by lia) (by lia) (by lia) D.eqv)
 ·rw [if_neg hq]
  exact tail3_ok W hN hsz D.pm D.n1 D.nN D.non
theorem count_ok (W : Wk lt) {p : Array Nat} {N : Nat} (hN : N <= p.size) (h1 : 1 <= N) : CS lt N p (runT lt (kas_count N p)) := by
 unfold kas_count
 rw [Zbl]
 have s1 : Srt lt p 1 := fun i j a b => (show i = j by lia) ▸ W.irr _
 obtain ⟨a1, a2, a3, a4⟩ := asc_ok W p (N - 1) 1 (by lia) s1
 generalize runT lt (kas_asc p (N - 1) 1) = n at a1 a2 a3 a4 ⊢
 by_cases e : (n == N) = true
 ·rw [if_pos e]; exact ⟨rfl, Array.Perm.refl _, a1, by show n <= N; lia, a3⟩
 ·rw [if_neg e]
  have e' : n ≠ N := by simpa using e
  have st := a4 (by lia)
  by_cases hn : n > 1
  ·rw [if_pos hn]
   show CS lt N p (runT lt (if lt (p.getD 0 0) (p.getD (n - 1) 0) = true then .ret (n, p) else kas_descPart n N (kas_rev p 0 n)))
   by_cases c : lt (p.getD 0 0) (p.getD (n - 1) 0) = true
   ·rw [if_pos c]; exact ⟨rfl, Array.Perm.refl _, a1, by show n <= N; lia, a3⟩
   ·rw [if_neg c]
    have c' : lt (p.getD 0 0) (p.getD (n - 1) 0) = false := by simpa using c
    have eq : Eqv lt p 0 n := fun i j _ hi _ hj =>
     W.tr _ _ _ (W.tr _ _ _ (a3 j (n - 1) (by lia) (by lia)) c') (a3 0 i (by lia) hi)
    have non : Non lt p n := fun i j _ hj => eq i j (by lia) (by lia) (by lia) hj
    have non1 := non.step W a1 (W.asy _ _ st)
    exact ZcC W hN (by unfold kas_rev; rw [mirror_size]) (mirror_perm _ _ _ _) a1 (by lia) (non1.rev W (by lia) (by lia) (by lia) eq)
  ·rw [if_neg hn]
   have : n = 1 := by lia
   subst this
   have non : Non lt p 1 := fun i j a b => (show i = j by lia) ▸ W.irr _
   exact ZcC W hN rfl (Array.Perm.refl _) (by lia) (by lia) (non.step W (by lia) (W.asy _ _ st))
theorem place_ok (W : Wk lt) {p : Array Nat} {k : Nat} (hs : Srt lt p k) : ∀ (f l r : Nat), r - l <= f -> l <= r -> r <= k -> (∀ i, i < l -> lt (p.getD k 0) (p.getD i 0) = false) -> (∀ i, r <= i -> i < k -> lt (p.getD k 0) (p.getD i 0) = true) ->
  runT lt (kas_place p k f l r) <= k /\ (∀ i, i < runT lt (kas_place p k f l r) -> lt (p.getD k 0) (p.getD i 0) = false) /\ (∀ i, runT lt (kas_place p k f l r) <= i -> i < k -> lt (p.getD k 0) (p.getD i 0) = true)
 | 0, l, r, hf, hlr, hr, hl, hg => ⟨by show l <= k; lia, hl, fun i a b => hg i (Nat.le_trans (by lia : r <= l) a) b⟩
 | f + 1, l, r, hf, hlr, hr, hl, hg => by
  unfold kas_place
  by_cases c : l ≥ r
  ·rw [if_pos c]; exact ⟨by show l <= k; lia, hl, fun i a b => hg i (Nat.le_trans (by lia : r <= l) a) b⟩
  ·rw [if_neg c]
   generalize hm : (l + r) / 2 = m
   show runT lt (if lt (p.getD k 0) (p.getD m 0) = true then kas_place p k f l m else kas_place p k f (m + 1) r) <= k /\ (∀ i, i < runT lt (if lt (p.getD k 0) (p.getD m 0) = true then kas_place p k f l m else kas_place p k f (m + 1) r) -> lt (p.getD k 0) (p.getD i 0) = false) /\
    (∀ i, runT lt (if lt (p.getD k 0) (p.getD m 0) = true then kas_place p k f l m else kas_place p k f (m + 1) r) <= i -> i < k -> lt (p.getD k 0) (p.getD i 0) = true)
   by_cases d : lt (p.getD k 0) (p.getD m 0) = true
   ·rw [if_pos d]
    refine place_ok W hs f l m (by lia) (by lia) (by lia) hl fun i a b => ?_
    cases z : lt (p.getD k 0) (p.getD i 0) with
    | true => rfl
    | false => rw [W.tr _ _ _ (hs m i a b) z] at d; cases d
   ·rw [if_neg d]
    refine place_ok W hs f (m + 1) r (by lia) (by lia) (by lia) (fun i a => ?_) hg
    exact W.tr _ _ _ (hs i m (by lia) (by lia)) (by simpa using d)
theorem bub_ok (W : Wk lt) {p : Array Nat} {k l : Nat} (hs : Srt lt p k) (hk : k < p.size) (hl : l <= k) (h1 : ∀ i, i < l -> lt (p.getD k 0) (p.getD i 0) = false) (h2 : ∀ i, l <= i -> i < k -> lt (p.getD k 0) (p.getD i 0) = true) : Srt lt (bubble p k (k - l)) (k + 1) := by
 intro i j hij hj
 rw [getD_bub hk hl, getD_bub hk hl]
 by_cases hjl : j = l
 ·rw [if_pos hjl]
  by_cases hil : i = l
  ·rw [if_pos hil]; exact W.irr _
  ·rw [if_neg hil, if_neg (by lia)]; exact h1 i (by lia)
 ·rw [if_neg hjl]
  by_cases hil : i = l
  ·rw [if_pos hil, if_pos (by lia)]; exact W.asy _ _ (h2 _ (by lia) (by lia))
  ·rw [if_neg hil]
   by_cases hj2 : l < j /\ j <= k
   ·rw [if_pos hj2]
    by_cases hi2 : l < i /\ i <= k
    ·rw [if_pos hi2]; exact hs _ _ (by lia) (by lia)
    ·rw [if_neg hi2]; exact hs _ _ (by lia) (by lia)
   ·rw [if_neg hj2, if_neg (by lia)]; exact hs _ _ hij (by lia)
theorem bin_ok (W : Wk lt) : ∀ (f : Nat) (p : Array Nat) (k : Nat), Srt lt p k -> k + f <= p.size -> (runT lt (kas_bin f p k)).Perm p /\ Srt lt (runT lt (kas_bin f p k)) (k + f)
 | 0, p, k, h, _ => ⟨Array.Perm.refl _, h⟩
 | f + 1, p, k, h, hs => by
  unfold kas_bin
  rw [Zbl]
  obtain ⟨a1, a2, a3⟩ := place_ok W h k 0 k (by lia) (by lia) (by lia) (fun i z => absurd z (by lia)) (fun i z y => absurd z (by lia))
  generalize runT lt (kas_place p k k 0 k) = l at a1 a2 a3 ⊢
  obtain ⟨b1, b2⟩ := bin_ok W f (bubble p k (k - l)) (k + 1) (bub_ok W h (by lia) a1 a2 a3) (by rw [bubble_size]; lia)
  exact ⟨b1.trans (bubble_perm _ _ _), by rw [show k + (f + 1) = k + 1 + f by lia]; exact b2⟩
theorem sort_ok (W : Wk lt) {n : Nat} (h1 : 1 <= n) : (runT lt (kas_sort n)).Perm (List.toArray (List.range n)) /\ Srt lt (runT lt (kas_sort n)) n := by
 unfold kas_sort
 rw [Zbl]
 have C := count_ok W (p := List.toArray (List.range n)) (N := n) (by simp) h1
 generalize runT lt (kas_count n (List.toArray (List.range n))) = r at C ⊢
 have hsz : r.2.size = n := by rw [C.sz]; simp
 have hn := C.nN
 have hn1 := C.n1
 by_cases c : r.1 < n
 ·rw [if_pos c]
  have e : max r.1 1 = r.1 := by lia
  rw [e]
  obtain ⟨b1, b2⟩ := bin_ok W (n - r.1) r.2 r.1 C.srt (by lia)
  exact ⟨b1.trans C.pm, by rw [show r.1 + (n - r.1) = n by lia] at b2; exact b2⟩
 ·rw [if_neg c]
  exact ⟨C.pm, fun i j a b => C.srt i j a (by lia)⟩
end
noncomputable def InR {α : Type} (n : Nat) (P : α -> Prop) : KasT α -> Prop
 | .ret a => P a
 | .ask i j k => i < n /\ j < n /\ ∀ b, InR n P (k b)
theorem InR.bind {α β : Type} {n : Nat} {P : α -> Prop} {Q : β -> Prop} {f : α -> KasT β} (hf : ∀ a, P a -> InR n Q (f a)) : ∀ {t : KasT α}, InR n P t -> InR n Q (t.bind f)
 | .ret a, h => hf a h
 | .ask i j k, h => ⟨h.1, h.2.1, fun b => InR.bind hf (h.2.2 b)⟩
noncomputable def AllIn (n : Nat) (p : Array Nat) : Prop := 0 < n /\ p.size = n /\ ∀ x, x ∈ p.toList -> x < n
theorem AllIn.at {n : Nat} {p : Array Nat} (h : AllIn n p) (i : Nat) : p.getD i 0 < n := by
 rw [Array.getD_eq_getD_getElem?]
 cases e : p[i]? with
 | none => exact h.1
 | some x =>
  refine h.2.2 x ?_
  rw [Array.mem_toList_iff]
  exact Array.mem_of_getElem? e
theorem AllIn.perm {n : Nat} {p q : Array Nat} (h : AllIn n p) (e : q.Perm p) : AllIn n q := ⟨h.1, by rw [← h.2.1, ← Array.length_toList, ← Array.length_toList]; exact (Array.perm_iff_toList_perm.mp e).length_eq, fun x hx => h.2.2 x ((Array.perm_iff_toList_perm.mp e).mem_iff.mp hx)⟩
theorem AllIn.rev {n : Nat} {p : Array Nat} (h : AllIn n p) (i j : Nat) : AllIn n (kas_rev p i j) := h.perm (mirror_perm _ _ _ _)
theorem asc_in {n : Nat} {p : Array Nat} (h : AllIn n p) : ∀ (f m : Nat), InR n (fun _ => True) (kas_asc p f m)
 | 0, m => trivial
 | f + 1, m => ⟨h.at _, h.at _, fun b => by cases b <;> first | exact asc_in h f (m + 1) | trivial⟩
theorem desc_in {n : Nat} : ∀ (f : Nat) (p : Array Nat) (m q : Nat), AllIn n p -> InR n (fun r => AllIn n r.1) (kas_desc f p m q)
 | 0, p, m, q, h => h
 | f + 1, p, m, q, h => ⟨h.at _, h.at _, fun b => by
  cases b with
  | true =>
   show InR n _ (if q > 0 then kas_desc f (kas_rev p (m - (q + 1)) m) (m + 1) 0 else kas_desc f p (m + 1) 0)
   split
   ·exact desc_in f _ _ _ (h.rev _ _)
   ·exact desc_in f _ _ _ h
  | false =>
   exact ⟨h.at _, h.at _, fun d => by cases d <;> first | exact desc_in f _ _ _ h | exact h⟩⟩
theorem tail3_in {n m nrem : Nat} {p : Array Nat} (h : AllIn n p) : InR n (fun r => AllIn n r.2) (kas_tail3 m nrem p) := by
 unfold kas_tail3
 refine InR.bind (P := fun _ => True) (fun k _ => ?_) (asc_in (h.rev _ _) _ _)
 show AllIn n (kas_rev p 0 m)
 exact h.rev 0 m
theorem ZcD {n m nrem : Nat} {p : Array Nat} (h : AllIn n p) : InR n (fun r => AllIn n r.2) (kas_descPart m nrem p) := InR.bind (fun r hr => by
 split
 ·exact tail3_in (hr.rev _ _)
 ·exact tail3_in hr) (desc_in _ _ _ _ h)
theorem count_in {n nrem : Nat} {p : Array Nat} (h : AllIn n p) : InR n (fun r => AllIn n r.2) (kas_count nrem p) := InR.bind (fun m _ => by
 split
 ·exact h
 ·split
  ·exact ⟨h.at _, h.at _, fun b => by cases b <;> first | exact ZcD (h.rev _ _) | exact h⟩
  ·exact ZcD h) (asc_in h _ _)
theorem place_in {n k : Nat} {p : Array Nat} (h : AllIn n p) : ∀ (f l r : Nat), InR n (fun _ => True) (kas_place p k f l r)
 | 0, l, r => trivial
 | f + 1, l, r => by
  unfold kas_place
  split
  ·trivial
  ·exact ⟨h.at _, h.at _, fun b => by cases b <;> exact place_in h f _ _⟩
theorem bin_in {n : Nat} : ∀ (f : Nat) (p : Array Nat) (k : Nat), AllIn n p -> InR n (AllIn n) (kas_bin f p k)
 | 0, p, k, h => h
 | f + 1, p, k, h => InR.bind (fun l _ => bin_in f _ _ (h.perm (bubble_perm _ _ _))) (place_in h _ _ _)
theorem sort_in {n : Nat} (h1 : 1 <= n) : InR n (AllIn n) (kas_sort n) := by
 have h : AllIn n (List.toArray (List.range n)) := ⟨h1, by simp, fun x hx => by simpa using hx⟩
 refine InR.bind (fun r hr => ?_) (count_in h)
 split
 ·exact bin_in _ _ _ hr
 ·exact hr
theorem wp_run {α : Type} {n : Nat} {P : α -> Prop} {o : Nat -> Nat -> Bool} {cmp : Nat -> Nat -> (Bool -> Shared -> Prop) -> Shared -> Prop} {Q : α -> Shared -> Prop} {s : Shared}
  (hc : ∀ i j (C : Bool -> Shared -> Prop), i < n -> j < n -> C (o i j) s -> cmp i j C s) : ∀ (t : KasT α), InR n P t -> Q (runT o t) s -> t.kasWp cmp Q s
 | .ret a, _, h => h
 | .ask i j k, hi, h => hc i j _ hi.1 hi.2.1 (wp_run hc (k (o i j)) (hi.2.2 _) h)
theorem run_in {α : Type} {n : Nat} {P : α -> Prop} {o : Nat -> Nat -> Bool} : ∀ (t : KasT α), InR n P t -> P (runT o t)
 | .ret a, h => h
 | .ask i j k, h => run_in (k (o i j)) (h.2.2 _)
end Pu
namespace Pu
open PySem PySem.W PySem.Calls
open PyProof.Rows hiding St Fr
section
variable {prog : Program} {w : World} {A : Around} {E : Value -> Shared -> Prop} {s : Shared} {a l : Addr} {vs : List Value} {κ : SortKind} {o : Nat -> Nat -> Bool}
noncomputable def KeepBut (a : Addr) (h h' : Heap) : Prop := ∀ b u, b ≠ a -> h.get? b = some u -> h'.get? b = some u
noncomputable def outs (o : Nat -> Nat -> Bool) (vs : List Value) : List Value := (runT o (kas_sort vs.length)).toList.map fun i => vs.getD i Value.none
theorem lsort_at {n : Nat} {P : PySem.Fin -> Shared -> Prop} (ho : s.heap.get? a = some (seqObj "list" vs.toArray n)) (h2 : 2 <= vs.length) (h64 : vs.length < 64)
  (hk : ∀ h', KeepBut a s.heap h' -> ∀ Q : SortKind -> Shared -> Prop, Q κ { s with heap := h' } -> wpAny (model prog w) A (keyKind' vs.toArray) Q (fun _ _ => False) { s with heap := h' })
  (hc : ∀ h', KeepBut a s.heap h' -> ∀ i j (C : Bool -> Shared -> Prop), i < vs.length -> j < vs.length -> C (o i j) { s with heap := h' } -> kas_ask prog w A κ vs i j C { s with heap := h' })
  (h : ∀ h' c, KeepBut a s.heap h' -> h'.get? a = some (seqObj "list" (outs o vs).toArray c) -> P (.done (.ret .none)) { s with heap := h' }) :
  wpAny (model prog w) A (Builtin.«list.sort» ⟨[.ref a], []⟩) P E s := by
 have s1 := Heap.SameBut.update s.heap a (Obj.mapSeq fun _ => (#[] : Array Value))
 obtain ⟨c1, ho1⟩ : ∃ c1, (s.heap.update a (Obj.mapSeq fun _ => (#[] : Array Value))).get? a = some (seqObj "list" #[] c1) := ⟨_, get?_update_seq ho fun _ => #[]⟩
 have hlt : a < s.heap.objs.size := Heap.lt_size ho
 generalize hg : ((s.heap.update a (Obj.mapSeq fun _ => (#[] : Array Value))).push (seqObj "tuple" vs.toArray 0)).push (seqObj "list" #[] 0) = g3
 have kb : KeepBut a s.heap g3 := fun b u nb e => by
  rw [← hg]
  refine Heap.get?_push_of_some _ (Heap.get?_push_of_some _ ?_)
  rw [Heap.get?_update_ne _ _ _ _ nb]; exact e
 have g3a : g3.get? a = some (seqObj "list" #[] c1) := by rw [← hg]; exact Heap.get?_push_of_some _ (Heap.get?_push_of_some _ ho1)
 rw [list_sort_plain]
 refine wpAny_bind (listItems_at ho rfl ?_); refine wpAny_bind (listUpdate_at ho rfl ?_ (by rw [List.size_toArray, sizeLine_eq]; lia) (Nat.zero_le _))
 refine wpAny_bind (seqEpoch_at ho1 rfl ?_); refine wpAny_bind (wpAny_newTuple ?_ (by show vs.length <= _; rw [sizeLine_eq]; lia))
 refine wpAny_bind (wpAny_newList ?_ (Nat.zero_le _)); refine wpAny_holding ?_
 show wpAny (model prog w) A _ P E { s with heap := ((s.heap.update a (Obj.mapSeq fun _ => (#[] : Array Value))).push (seqObj "tuple" vs.toArray 0)).push (seqObj "list" #[] 0) }
 rw [hg]
 dsimp only
 have n2 : ¬ vs.toArray.size < 2 := by rw [List.size_toArray]; lia
 rw [if_neg n2, if_neg n2]
 refine wpAny_bind (wpAny_mono (hk g3 kb (fun k s' => k = κ /\ s' = { s with heap := g3 }) ⟨rfl, rfl⟩) (fun k s' e => ?_) fun _ _ x => x.elim)
 obtain ⟨rfl, rfl⟩ := e
 refine wpAny_bind (wpAny_mono (kat_run (ks := vs) (vs := vs) (Q := fun st' s' => ∃ p : Array Nat, p.size = vs.length /\ arrOf st' = p.map (kas_item (vs.toArray.zip vs.toArray)) /\ failedOf st' = none /\ p = runT o (kas_sort vs.length) /\ s' = { s with heap := g3 })
  (G := fun p s' => p = runT o (kas_sort vs.length) /\ s' = { s with heap := g3 }) rfl h2 h64 (fun p st' s' a1 a2 a3 a4 => ⟨p, a1, a2, a3, a4.1, a4.2⟩)
  (wp_run (o := o) (hc g3 kb) _ (sort_in (by lia)) ⟨rfl, rfl⟩)) ?_ fun _ _ e => e)
 rintro ⟨⟨⟩, st'⟩ s' ⟨p, hp, har, hf, ep, rfl⟩
 dsimp only
 have ho2 := kat_snds (ks := vs) (vs := vs) rfl har
 rw [ho2, ep]
 have hz : (List.toArray ((runT o (kas_sort vs.length)).toList.map fun i => vs.getD i Value.none)).size = vs.length := by rw [List.size_toArray, List.length_map, Array.length_toList, ← ep, hp]
 obtain ⟨c2, hc2⟩ : ∃ c2, (g3.update a (Obj.mapSeq fun _ => List.toArray ((runT o (kas_sort vs.length)).toList.map fun i => vs.getD i Value.none))).get? a = some (seqObj "list" (List.toArray ((runT o (kas_sort vs.length)).toList.map fun i => vs.getD i Value.none)) c2) := ⟨_, get?_update_seq g3a fun _ => _⟩
 refine wpAny_bind (seqEpoch_at g3a rfl ?_)
 refine wpAny_bind (listUpdate_at g3a rfl ?_ (Nat.zero_le _) (Nat.le_trans (Nat.le_of_eq hz) (by rw [sizeLine_eq]; lia)))
 rw [hf]
 simp only [bne_self_eq_false, Bool.false_eq_true, if_false]
 exact wpAny_pure (h _ c2 (fun b u nb e => by rw [Heap.get?_update_ne _ _ _ _ nb]; exact kb b u nb e) hc2)
end
section
variable {prog : Program} {w : World} {A : Around} {E : Value -> Shared -> Prop} {s : Shared} {a l : Addr} {vs : List Value} {κ : SortKind} {o : Nat -> Nat -> Bool}
theorem lsort_few {n : Nat} {P : PySem.Fin → Shared → Prop} (ho : s.heap.get? a = some (seqObj "list" vs.toArray n)) (h2 : vs.length < 2)
    (h : ∀ h' c, KeepBut a s.heap h' → h'.get? a = some (seqObj "list" vs.toArray c) → P (.done (.ret .none)) { s with heap := h' }) :
    wpAny (model prog w) A (Builtin.«list.sort» ⟨[.ref a], []⟩) P E s := by
  obtain ⟨c1, ho1⟩ : ∃ c1, (s.heap.update a (Obj.mapSeq fun _ => (#[] : Array Value))).get? a = some (seqObj "list" #[] c1) := ⟨_, get?_update_seq ho fun _ => #[]⟩
  generalize hg : ((s.heap.update a (Obj.mapSeq fun _ => (#[] : Array Value))).push (seqObj "tuple" vs.toArray 0)).push (seqObj "list" #[] 0) = g3
  have kb : KeepBut a s.heap g3 := fun b u nb e => by
    rw [← hg]
    refine Heap.get?_push_of_some _ (Heap.get?_push_of_some _ ?_)
    rw [Heap.get?_update_ne _ _ _ _ nb]; exact e
  have g3a : g3.get? a = some (seqObj "list" #[] c1) := by rw [← hg]; exact Heap.get?_push_of_some _ (Heap.get?_push_of_some _ ho1)
  rw [list_sort_plain]
  refine wpAny_bind (listItems_at ho rfl ?_); refine wpAny_bind (listUpdate_at ho rfl ?_ (by rw [List.size_toArray, sizeLine_eq]; omega) (Nat.zero_le _))
  refine wpAny_bind (seqEpoch_at ho1 rfl ?_); refine wpAny_bind (wpAny_newTuple ?_ (by show vs.length ≤ _; rw [sizeLine_eq]; omega))
  refine wpAny_bind (wpAny_newList ?_ (Nat.zero_le _)); refine wpAny_holding ?_
  show wpAny (model prog w) A _ P E { s with heap := ((s.heap.update a (Obj.mapSeq fun _ => (#[] : Array Value))).push (seqObj "tuple" vs.toArray 0)).push (seqObj "list" #[] 0) }
  rw [hg]
  dsimp only
  have n2 : vs.toArray.size < 2 := by rw [List.size_toArray]; omega
  simp only [if_pos n2]
  apply wpAny_bind
  apply wpAny_pure
  simp only [StateT.run_pure]
  apply wpAny_bind
  apply wpAny_pure
  dsimp only
  have ez : (arrOf (SortSt.mk' general' (vs.toArray.zip vs.toArray) #[] 7 none)).map (·.2) = vs.toArray := by
    show (vs.toArray.zip vs.toArray).map (·.2) = vs.toArray
    apply Array.toList_inj.mp
    rw [Array.toList_map, Array.toList_zip, List.map_snd_zip (by simp)]
  rw [ez]
  obtain ⟨c2, hc2⟩ : ∃ c2, (g3.update a (Obj.mapSeq fun _ => vs.toArray)).get? a = some (seqObj "list" vs.toArray c2) := ⟨_, get?_update_seq g3a fun _ => _⟩
  refine wpAny_bind (seqEpoch_at g3a rfl ?_)
  refine wpAny_bind (listUpdate_at g3a rfl ?_ (Nat.zero_le _) (by rw [List.size_toArray, sizeLine_eq]; omega))
  simp only [bne_self_eq_false, Bool.false_eq_true, if_false]
  exact wpAny_pure (h _ c2 (fun b u nb e => by rw [Heap.get?_update_ne _ _ _ _ nb]; exact kb b u nb e) hc2)
noncomputable def outs2 (o : Nat -> Nat -> Bool) (vs : List Value) : List Value := if vs.length < 2 then vs else outs o vs
end
end Pu
namespace Pu
open PySem PySem.Spec PySem.W PySem.Calls L2 PySem.SeqAt
open PyProof.Rows hiding St Fr
noncomputable def fstK : PV -> Nat
 | .int _ => 1
 | .str _ => 2
 | .tup (.int _ :: _) => 3
 | .tup (.str _ :: _) => 4
 | _ => 0
noncomputable def oP (ps : List PV) (i j : Nat) : Bool := (ltD (ps.getD (min i (ps.length - 1)) .non) (ps.getD (min j (ps.length - 1)) .non)).getD false
noncomputable def perm (ps : List PV) : List Nat := if ps.length < 2 then List.range ps.length else (runT (oP ps) (kas_sort ps.length)).toList
noncomputable def sortL (ps : List PV) : List PV := (perm ps).map fun i => ps.getD i .non
noncomputable def sortable (ps : List PV) : Bool := (ps.all fun p => fstK p == 1) || (ps.all fun p => fstK p == 2) || (ps.all fun p => fstK p == 3) || (ps.all fun p => fstK p == 4)
noncomputable def cmpAll (ps : List PV) : Bool := ps.all fun p => ps.all fun q => (ltD p q).isSome
noncomputable def sortP (ps : List PV) : Option (List PV) := if dats ps && decide (deps ps <= 40) && decide (ps.length < 64) && sortable ps && cmpAll ps then some (sortL ps) else none
mutual
theorem HRep.keep {h h' : Heap} (k : ∀ b u, h.get? b = some u -> h'.get? b = some u) : ∀ (p : PV) {u : Value}, HRep h p u -> HRep h' p u
 | .non, u, a => by unfold HRep at a ⊢; exact a
 | .bl x, u, a => by unfold HRep at a ⊢; exact a
 | .int x, u, a => by unfold HRep at a ⊢; exact a
 | .str x, u, a => by unfold HRep at a ⊢; exact a
 | .tup ps, u, a => by
  unfold HRep at a ⊢; obtain ⟨l, us, rfl, ⟨o, e, c⟩, r⟩ := a
  exact ⟨l, us, rfl, ⟨o, k _ _ e, c⟩, HReps.keep k ps r⟩
 | .lst ps, u, a => by
  unfold HRep at a ⊢; obtain ⟨l, us, rfl, ⟨o, e, c⟩, r⟩ := a
  exact ⟨l, us, rfl, ⟨o, k _ _ e, c⟩, HReps.keep k ps r⟩
 | .dct _ _, u, a => by unfold HRep at a; exact a.elim
 | .dtt _ _, u, a => by unfold HRep at a; exact a.elim
 | .fn _, u, a => by unfold HRep at a; exact a.elim
 | .ty _, u, a => by unfold HRep at a; exact a.elim
theorem HReps.keep {h h' : Heap} (k : ∀ b u, h.get? b = some u -> h'.get? b = some u) : ∀ (ps : List PV) {us : List Value}, HReps h ps us -> HReps h' ps us
 | [], us, a => by unfold HReps at a ⊢; exact a
 | p :: ps, us, a => by
  unfold HReps at a ⊢; obtain ⟨v, r, rfl, a1, a2⟩ := a
  exact ⟨v, r, rfl, HRep.keep k p a1, HReps.keep k ps a2⟩
end
theorem HReps.get {h : Heap} : ∀ {ps : List PV} {us : List Value} {i : Nat}, HReps h ps us -> i < us.length -> HRep h (ps.getD i .non) (us.getD i Value.none)
 | [], us, i, a, hi => by unfold HReps at a; subst a; cases hi
 | p :: ps, us, i, a, hi => by
  unfold HReps at a; obtain ⟨v, r, rfl, a1, a2⟩ := a
  cases i with
  | zero => exact a1
  | succ i => simpa using HReps.get a2 (by simpa using hi)
theorem ZbR {ps : List PV} {i : Nat} (hi : i < ps.length) : ps.getD i .non ∈ ps := by
 rw [List.getD_eq_getElem?_getD, List.getElem?_eq_getElem hi]; exact List.getElem_mem hi
section
variable {prog : Program} {w : World} {A : Around} {s : Shared}
theorem katLex_of {b fin : Bool} {Q : Bool -> Shared -> Prop} {c : Bool} : ∀ {ps qs : List PV} {us vs : List Value} (i : Nat), PairsOk A s ps qs us vs -> lexD ps qs = some c -> fin = decide (us.length < vs.length) ->
  ((b && i == 0) = true -> ∀ p ps' q qs' u us' v vs', ps = p :: ps' -> qs = q :: qs' -> us = u :: us' -> vs = v :: vs' -> ∀ c, ltD p q = some c -> ∀ Q : Bool -> Shared -> Prop, Q c s -> wpAny (model prog w) A (oneLt' true u v) Q (fun _ _ => False) s) ->
  Q c s -> KatLex prog w A b fin Q (us.zip vs) i s
  := by
 intro ps qs us vs i pk
 induction pk generalizing i with
 | @nil1 qs _ hh =>
  intro e hf hz q
  rw [List.zip_nil_left]
  refine kat_nil ?_
  cases qs with
  | nil => rw [Zbg] at e; cases e; rw [hf, ← hh]; exact q
  | cons y ys => rw [ZbS] at e; cases e; rw [hf, ← hh]; simpa using q
 | @nil2 ps _ hh =>
  intro e hf hz q
  rw [List.zip_nil_right]
  refine kat_nil ?_
  cases ps with
  | nil => rw [Zbg] at e; cases e; rw [hf, ← hh]; exact q
  | cons y ys => rw [ZbT] at e; cases e; rw [hf]; simpa using q
 | @cons p q' u v ps qs us vs ee lt t ih =>
  intro e hf hz q
  rw [List.zip_cons_cons]
  refine kat_cons (ee prog w _ _ ?_)
  rw [lexD_cons] at e
  cases he : eqD p q' with
  | true =>
   rw [he, if_pos rfl] at e
   exact kat_yes (ih (i + 1) e (by rw [hf]; simp) (fun z => by simp at z) q)
  | false =>
   rw [he, if_neg Bool.false_ne_true] at e
   refine kat_no ?_
   cases hb : (b && i == 0) with
   | true => exact hz hb _ _ _ _ _ _ _ _ rfl rfl rfl rfl c e _ q
   | false => exact kat_one _ _ (lt c e prog w _ _ q)
theorem one_int {a c : Int} {t u : Tok} {E : Value -> Shared -> Prop} {Q : Bool -> Shared -> Prop} (h : Q (decide (a < c)) s) : wpAny (model prog w) A (oneLt' true (.int a t) (.int c u)) Q E s := by
 rw [← keyLt'_oneType]; exact kat_lt_int h
theorem one_str {a c : Str} {t u : Tok} {E : Value -> Shared -> Prop} {Q : Bool -> Shared -> Prop} (h : Q (decide (a.cps.toList < c.cps.toList)) s) : wpAny (model prog w) A (oneLt' true (.str a t) (.str c u)) Q E s := by
 rw [← keyLt'_oneType]; exact kas_lt_str h
theorem ask_one {p q : PV} {u v : Value} {c : Bool} {Q : Bool -> Shared -> Prop} (a : HRep s.heap p u) (b : HRep s.heap q v) (hk : fstK p = 1 /\ fstK q = 1 \/ fstK p = 2 /\ fstK q = 2) (e : ltD p q = some c) (h : Q c s) : wpAny (model prog w) A (keyLt' oneType' u v) Q (fun _ _ => False) s := by
 rw [keyLt'_oneType]
 cases p with
 | int x =>
  cases q with
  | int y => unfold HRep at a b; obtain ⟨t, rfl⟩ := a; obtain ⟨t', rfl⟩ := b; unfold ltD at e; cases e; exact one_int h
  | _ => unfold ltD at e; cases e
 | str x =>
  cases q with
  | str y => unfold HRep at a b; obtain ⟨t, rfl⟩ := a; obtain ⟨t', rfl⟩ := b; unfold ltD at e; cases e; exact one_str h
  | _ => unfold ltD at e; cases e
 | tup xs =>
  exfalso
  cases xs with
  | nil => simp [fstK] at hk
  | cons y ys => cases y <;> simp [fstK] at hk
 | _ => unfold ltD at e; cases e
theorem ask_tup {p q : PV} {u v : Value} {c : Bool} {Q : Bool -> Shared -> Prop} (a : HRep s.heap p u) (b : HRep s.heap q v) (hk : fstK p = 3 /\ fstK q = 3 \/ fstK p = 4 /\ fstK q = 4) (e : ltD p q = some c) (hu : A.units + dep p < cLine) (h : Q c s) : wpAny (model prog w) A (keyLt' (tuples' true) u v) Q (fun _ _ => False) s := by
 cases p with
 | tup xs =>
  cases q with
  | tup ys =>
   unfold HRep at a b; obtain ⟨l, us, rfl, ⟨ol, el, _, nl, dl⟩, r1⟩ := a; obtain ⟨l', vs, rfl, ⟨ol', el', _, nl', dl'⟩, r2⟩ := b
   unfold ltD at e
   unfold dep at hu
   refine kat_lt el dl el' dl' ?_
   refine katLex_of 0 (HReps.pairs xs r1 r2 (by lia)) e (by simp) (fun _ => ?_) h
   intro p ps' q qs' u us' v vs' e1 e2 e3 e4 c' el Q' hq
   subst e1 e2 e3 e4
   unfold HReps at r1 r2
   obtain ⟨_, _, z1, a1, _⟩ := r1
   obtain ⟨_, _, z2, b1, _⟩ := r2
   cases z1; cases z2
   cases p with
   | int x =>
    cases q with
    | int y => unfold HRep at a1 b1; obtain ⟨t, rfl⟩ := a1; obtain ⟨t', rfl⟩ := b1; unfold ltD at el; cases el; exact one_int hq
    | _ => unfold ltD at el; cases el
   | str x =>
    cases q with
    | str y => unfold HRep at a1 b1; obtain ⟨t, rfl⟩ := a1; obtain ⟨t', rfl⟩ := b1; unfold ltD at el; cases el; exact one_str hq
    | _ => unfold ltD at el; cases el
   | tup xs => simp [fstK] at hk
   | _ => unfold ltD at el; cases el
  | _ => unfold ltD at e; cases e
 | _ => simp [fstK] at hk
end
theorem perm_lt {ps : List PV} : ∀ i ∈ perm ps, i < ps.length := by
 intro i hi
 unfold perm at hi
 split at hi
 ·simpa using hi
 ·exact (run_in (kas_sort ps.length) (sort_in (by lia))).2.2 i hi
noncomputable def sortV (ps : List PV) (ys : List V) : List V := (perm ps).map fun i => ys.getD i .non
noncomputable def sortU (ps : List PV) (us : List Value) : List Value := (perm ps).map fun i => us.getD i Value.none
theorem outs2_eq {ps : List PV} {us : List Value} (e : ps.length = us.length) : outs2 (oP ps) us = sortU ps us := by
 unfold outs2 sortU perm outs
 rw [← e]
 split
 ·have : us = (List.range us.length).map fun i => us.getD i Value.none := by
   apply List.ext_getElem?
   intro i
   rw [List.getElem?_map]
   by_cases hi : i < us.length
   ·rw [List.getElem?_range hi]; simp [hi]
   ·rw [List.getElem?_eq_none (by lia), List.getElem?_eq_none (by simp; lia)]; rfl
  rw [e]; exact this
 ·rfl
theorem vals_getD : ∀ {ys : List V} {us : List Value} {i : Nat}, Vals ys us -> i < us.length -> RelV (ys.getD i .non) (us.getD i Value.none)
 | _, _, i, .nil, hi => by cases hi
 | _, _, i, .cons r t, hi => by
  cases i with
  | zero => exact r
  | succ i => simpa using vals_getD t (by simpa using hi)
theorem vals_map {ys : List V} {us : List Value} (r : Vals ys us) : ∀ {is : List Nat}, (∀ i ∈ is, i < us.length) -> Vals (is.map fun i => ys.getD i .non) (is.map fun i => us.getD i Value.none)
 | [], _ => .nil
 | i :: is, h => .cons (vals_getD r (h i (.head _))) (vals_map r fun j hj => h j (.tail _ hj))
theorem reps_getD {K : W.Frag} {ι : List Addr} {H : Hp} : ∀ {ps : List PV} {ys : List V} {i : Nat}, Reps K ι H ps ys -> i < ps.length -> Rep K ι H (ps.getD i .non) (ys.getD i .non)
 | [], ys, i, a, hi => by cases hi
 | p :: ps, ys, i, a, hi => by
  unfold Reps at a; obtain ⟨v, r, rfl, a1, a2⟩ := a
  cases i with
  | zero => exact a1
  | succ i => simpa using reps_getD a2 (by simpa using hi)
theorem reps_map {K : W.Frag} {ι : List Addr} {H : Hp} {ps : List PV} {ys : List V} (r : Reps K ι H ps ys) : ∀ {is : List Nat}, (∀ i ∈ is, i < ps.length) -> Reps K ι H (is.map fun i => ps.getD i .non) (is.map fun i => ys.getD i .non)
 | [], _ => by unfold Reps; rfl
 | i :: is, h => by
  unfold Reps
  exact ⟨_, _, rfl, reps_getD r (h i (.head _)), reps_map r fun j hj => h j (.tail _ hj)⟩
section
variable {prog : Program} {w : World} {A : Around} {s : Shared}
theorem Zcz {h : Heap} : ∀ {ps : List PV} {us : List Value}, HReps h ps us -> ∀ u ∈ us, ∃ p ∈ ps, HRep h p u
 | [], us, a, u, hu => by unfold HReps at a; subst a; cases hu
 | p :: ps, us, a, u, hu => by
  unfold HReps at a; obtain ⟨v, r, rfl, a1, a2⟩ := a
  rcases List.mem_cons.mp hu with rfl | hu
  ·exact ⟨p, .head _, a1⟩
  ·obtain ⟨q, hq, b⟩ := Zcz a2 u hu
   exact ⟨q, .tail _ hq, b⟩
noncomputable def headV (h : Heap) (k : Nat) (f : Value) : Prop := (k = 3 /\ ∃ i t, f = .int i t) \/ (k = 4 /\ ∃ x t, f = .str x t)
theorem tups_of {h : Heap} {k : Nat} (hk : k = 3 \/ k = 4) : ∀ {ps : List PV} {us : List Value}, HReps h ps us -> (ps.all fun p => fstK p == k) = true -> ∃ fs, KatTups h us fs /\ fs.length = us.length /\ ∀ f ∈ fs, headV h k f
 | [], us, a, _ => by unfold HReps at a; subst a; exact ⟨[], .nil, rfl, fun f hf => by cases hf⟩
 | p :: ps, us, a, e => by
  unfold HReps at a; obtain ⟨v, r, rfl, a1, a2⟩ := a
  rw [List.all_cons, Bool.and_eq_true] at e
  obtain ⟨fs, t, hl, hf⟩ := tups_of hk a2 e.2
  have e1 : fstK p = k := by simpa using e.1
  cases p with
  | tup xs =>
   unfold HRep at a1; obtain ⟨l, us', rfl, ⟨o, ho, hc, n, hd⟩, r1⟩ := a1
   cases xs with
   | nil => simp [fstK] at e1; lia
   | cons y ys =>
    unfold HReps at r1; obtain ⟨f, r', rfl, b1, _⟩ := r1
    refine ⟨f :: fs, .cons ho hc hd (by simp) t, by simp [hl], fun g hg => ?_⟩
    rcases List.mem_cons.mp hg with rfl | hg
    ·cases y with
     | int i => unfold HRep at b1; simp [fstK] at e1; obtain ⟨t, rfl⟩ := b1; exact .inl ⟨e1.symm, _, _, rfl⟩
     | str x => unfold HRep at b1; simp [fstK] at e1; obtain ⟨t, rfl⟩ := b1; exact .inr ⟨e1.symm, _, _, rfl⟩
     | _ => simp [fstK] at e1; lia
    ·exact hf g hg
  | int i => simp [fstK] at e1; lia
  | str i => simp [fstK] at e1; lia
  | _ => simp [fstK] at e1; lia
noncomputable def kindP (ps : List PV) : SortKind := if (ps.all fun p => fstK p == 1) || (ps.all fun p => fstK p == 2) then oneType' else tuples' true
theorem kind_of {ps : List PV} {us : List Value} {Q : SortKind -> Shared -> Prop} {E : Value -> Shared -> Prop} (a : HReps s.heap ps us) (h2 : 2 <= us.length) (e : sortable ps = true) (h : Q (kindP ps) s) : wpAny (model prog w) A (keyKind' us.toArray) Q E s := by
 unfold sortable at e
 unfold kindP at h
 by_cases h1 : (ps.all fun p => fstK p == 1) = true
 ·rw [h1, Bool.true_or, if_pos rfl] at h
  refine kas_kind (T := .type "int") h2 (fun v hv => ?_) (by decide) (by decide) h
  obtain ⟨p, hp, b⟩ := Zcz a v hv
  have := List.all_eq_true.mp h1 p hp
  cases p with
  | int i => unfold HRep at b; obtain ⟨t, rfl⟩ := b; exact Looks.of_pure rfl
  | tup xs => cases xs with
   | nil => simp [fstK] at this
   | cons y ys => cases y <;> simp [fstK] at this
  | _ => simp [fstK] at this
 ·by_cases h3 : (ps.all fun p => fstK p == 2) = true
  ·rw [h3, Bool.or_true, if_pos rfl] at h
   refine kas_kind (T := .type "str") h2 (fun v hv => ?_) (by decide) (by decide) h
   obtain ⟨p, hp, b⟩ := Zcz a v hv
   have := List.all_eq_true.mp h3 p hp
   cases p with
   | str i => unfold HRep at b; obtain ⟨t, rfl⟩ := b; exact Looks.of_pure rfl
   | tup xs => cases xs with
    | nil => simp [fstK] at this
    | cons y ys => cases y <;> simp [fstK] at this
   | _ => simp [fstK] at this
  ·rw [Bool.not_eq_true] at h1 h3
   rw [h1, h3] at h e
   rw [if_neg (by decide)] at h
   simp only [Bool.false_or, Bool.or_eq_true] at e
   rcases e with e | e
   ·obtain ⟨fs, t, hl, hf⟩ := tups_of (.inl rfl) a e
    refine kat_kind (T := .type "int") t (by lia) (fun v hv => ?_) (by decide) h
    rcases hf v hv with ⟨_, i, t, rfl⟩ | ⟨z, _⟩
    ·exact Looks.of_pure rfl
    ·cases z
   ·obtain ⟨fs, t, hl, hf⟩ := tups_of (.inr rfl) a e
    refine kat_kind (T := .type "str") t (by lia) (fun v hv => ?_) (by decide) h
    rcases hf v hv with ⟨z, _⟩ | ⟨_, i, t, rfl⟩
    ·cases z
    ·exact Looks.of_pure rfl
theorem dep_getD : ∀ {ps : List PV} (i : Nat), dep (ps.getD i .non) <= deps ps
 | [], i => by simp [dep, deps]
 | p :: ps, i => by
  unfold deps
  cases i with
  | zero => exact Nat.le_max_left _ _
  | succ i => exact Nat.le_trans (by simpa using dep_getD (ps := ps) i) (Nat.le_max_right _ _)
theorem ask_of {ps : List PV} {us : List Value} {i j : Nat} {C : Bool -> Shared -> Prop} (a : HReps s.heap ps us) (e : sortable ps = true) (ec : cmpAll ps = true) (hu : A.units + deps ps < cLine) (hi : i < us.length) (hj : j < us.length) (h : C (oP ps i j) s) : kas_ask prog w A (kindP ps) us i j C s := by
 have hl := a.length
 have mi := ZbR (ps := ps) (i := i) (by lia)
 have mj := ZbR (ps := ps) (i := j) (by lia)
 have hs : (ltD (ps.getD i .non) (ps.getD j .non)).isSome = true := List.all_eq_true.mp (List.all_eq_true.mp ec _ mi) _ mj
 obtain ⟨c, hc⟩ := Option.isSome_iff_exists.mp hs
 unfold oP at h
 rw [Nat.min_eq_left (by lia), Nat.min_eq_left (by lia), hc] at h
 have ai := HReps.get a hi
 have aj := HReps.get a hj
 have hd := dep_getD (ps := ps) i
 unfold kas_ask kindP
 have at' : ∀ k, (ps.all fun p => fstK p == k) = true -> fstK (ps.getD i .non) = k /\ fstK (ps.getD j .non) = k := fun k z => ⟨by simpa using List.all_eq_true.mp z _ mi, by simpa using List.all_eq_true.mp z _ mj⟩
 by_cases h1 : (ps.all fun p => fstK p == 1) = true
 ·rw [h1, Bool.true_or, if_pos rfl]; exact ask_one ai aj (.inl (at' 1 h1)) hc h
 ·by_cases h3 : (ps.all fun p => fstK p == 2) = true
  ·rw [h3, Bool.or_true, if_pos rfl]; exact ask_one ai aj (.inr (at' 2 h3)) hc h
  ·unfold sortable at e
   rw [Bool.not_eq_true] at h1 h3
   rw [h1, h3] at e ⊢
   rw [if_neg (by decide)]
   simp only [Bool.false_or, Bool.or_eq_true] at e
   rcases e with e | e
   ·exact ask_tup ai aj (.inl (at' 3 e)) hc (by lia) h
   ·exact ask_tup ai aj (.inr (at' 4 e)) hc (by lia) h
end
section
variable {X : Cx} {e : Expr} {es : List Expr} {fs : PSt -> M (List SV)} {p pos : Pos}
theorem sortP_eq {ps qs : List PV} (e : sortP ps = some qs) : qs = sortL ps := by
 unfold sortP at e; split at e
 ·cases e; rfl
 ·cases e
end
end Pu
namespace Pu
open PySem PySem.Spec PySem.W
mutual
noncomputable def pur : PV -> Bool
 | .int _ => true
 | .str _ => true
 | .tup ps => purs ps
 | _ => false
noncomputable def purs : List PV -> Bool
 | [] => true
 | p :: ps => pur p && purs ps
end
mutual
noncomputable def lT : PV -> PV -> Bool
 | .int a, .int b => decide (a < b)
 | .int _, .str _ => true
 | .int _, .tup _ => true
 | .str a, .str b => decide (a.cps.toList < b.cps.toList)
 | .str _, .tup _ => true
 | .tup xs, .tup ys => lTs xs ys
 | _, _ => false
noncomputable def lTs : List PV -> List PV -> Bool
 | [], [] => false
 | [], _ :: _ => true
 | _ :: _, [] => false
 | x :: xs, y :: ys => if eqD x y then lTs xs ys else lT x y
end
mutual
theorem Zbq : ∀ (p : PV) {q : PV}, pur p = true -> pur q = true -> (eqD p q = true ↔ p = q)
 | .int a, q, _, hq => by cases q <;> simp [eqD] <;> simp [pur] at hq
 | .str a, q, _, _ => by cases q <;> simp [eqD]
 | .tup ps, q, h, hq => by
  unfold pur at h
  cases q with
  | tup qs => unfold pur at hq; unfold eqD; rw [eqDs_pur ps h hq]; simp
  | _ => simp [eqD]
 | .non, q, h, _ => by simp [pur] at h
 | .bl _, q, h, _ => by simp [pur] at h
 | .lst _, q, h, _ => by simp [pur] at h
 | .dct _ _, q, h, _ => by simp [pur] at h
 | .dtt _ _, q, h, _ => by simp [pur] at h
 | .fn _, q, h, _ => by simp [pur] at h
 | .ty _, q, h, _ => by simp [pur] at h
theorem eqDs_pur : ∀ (ps : List PV) {qs : List PV}, purs ps = true -> purs qs = true -> (eqDs ps qs = true ↔ ps = qs)
 | [], qs, _, _ => by cases qs <;> simp [eqDs]
 | p :: ps, qs, h, hq => by
  unfold purs at h
  rw [Bool.and_eq_true] at h
  cases qs with
  | nil => simp [eqDs]
  | cons q qs =>
   unfold purs at hq
   rw [Bool.and_eq_true] at hq
   unfold eqDs; rw [Bool.and_eq_true, Zbq p h.1 hq.1, eqDs_pur ps h.2 hq.2, List.cons.injEq]
end
theorem ZbV {p : PV} (h : pur p = true) : eqD p p = true := (Zbq p h h).mpr rfl
theorem str_tri {a b : Str} (h1 : ¬ a.cps.toList < b.cps.toList) (h2 : ¬ b.cps.toList < a.cps.toList) : a = b := by
 obtain ⟨⟨x⟩⟩ := a
 obtain ⟨⟨y⟩⟩ := b
 have : x = y := List.le_antisymm (List.not_lt.mp h2) (List.not_lt.mp h1)
 rw [this]
mutual
theorem Zcu : ∀ (p : PV), pur p = true -> lT p p = false
 | .int a, _ => by simp [lT]
 | .str a, _ => by simp [lT, List.lt_irrefl]
 | .tup ps, h => by unfold pur at h; unfold lT; exact lTs_irr ps h
 | .non, _ => by simp [lT]
 | .bl _, _ => by simp [lT]
 | .lst _, _ => by simp [lT]
 | .dct _ _, _ => by simp [lT]
 | .dtt _ _, _ => by simp [lT]
 | .fn _, _ => by simp [lT]
 | .ty _, _ => by simp [lT]
theorem lTs_irr : ∀ (ps : List PV), purs ps = true -> lTs ps ps = false
 | [], _ => by simp [lTs]
 | p :: ps, h => by
  unfold purs at h; rw [Bool.and_eq_true] at h
  unfold lTs; rw [ZbV h.1, if_pos rfl]; exact lTs_irr ps h.2
end
mutual
theorem lT_tri : ∀ (p : PV) {q : PV}, pur p = true -> pur q = true -> lT p q = false -> lT q p = false -> p = q
 | .int a, q, _, hq, h1, h2 => by
  cases q <;> simp [lT, pur] at h1 h2 hq ⊢
  lia
 | .str a, q, _, hq, h1, h2 => by
  cases q with
  | str b =>
   unfold lT at h1 h2
   have : a = b := str_tri (of_decide_eq_false h1) (of_decide_eq_false h2)
   rw [this]
  | int _ => simp [lT] at h2
  | tup _ => simp [lT] at h1
  | _ => simp [pur] at hq
 | .tup ps, q, h, hq, h1, h2 => by
  unfold pur at h
  cases q with
  | tup qs => unfold pur at hq; unfold lT at h1 h2; rw [lTs_tri ps h hq h1 h2]
  | int _ => simp [lT] at h2
  | str _ => simp [lT] at h2
  | _ => simp [pur] at hq
 | .non, q, h, _, _, _ => by simp [pur] at h
 | .bl _, q, h, _, _, _ => by simp [pur] at h
 | .lst _, q, h, _, _, _ => by simp [pur] at h
 | .dct _ _, q, h, _, _, _ => by simp [pur] at h
 | .dtt _ _, q, h, _, _, _ => by simp [pur] at h
 | .fn _, q, h, _, _, _ => by simp [pur] at h
 | .ty _, q, h, _, _, _ => by simp [pur] at h
theorem lTs_tri : ∀ (ps : List PV) {qs : List PV}, purs ps = true -> purs qs = true -> lTs ps qs = false -> lTs qs ps = false -> ps = qs
 | [], qs, _, _, h1, h2 => by cases qs <;> simp [lTs] at h1 h2 ⊢
 | p :: ps, qs, h, hq, h1, h2 => by
  unfold purs at h; rw [Bool.and_eq_true] at h
  cases qs with
  | nil => simp [lTs] at h2
  | cons q qs =>
   unfold purs at hq; rw [Bool.and_eq_true] at hq
   unfold lTs at h1 h2
   by_cases e : p = q
   ·subst e
    rw [ZbV h.1, if_pos rfl] at h1 h2
    rw [lTs_tri ps h.2 hq.2 h1 h2]
   ·rw [if_neg (fun z => e ((Zbq p h.1 hq.1).mp z))] at h1
    rw [if_neg (fun z => e ((Zbq q hq.1 h.1).mp z).symm)] at h2
    exact absurd (lT_tri p h.1 hq.1 h1 h2) e
end
mutual
theorem lT_tr : ∀ (p : PV) {q r : PV}, pur p = true -> pur q = true -> pur r = true -> lT p q = true -> lT q r = true -> lT p r = true
 | .int a, q, r, _, hq, hr, h1, h2 => by
  cases q <;> cases r <;> simp [lT, pur] at h1 h2 hq hr ⊢
  lia
 | .str a, q, r, _, hq, hr, h1, h2 => by
  cases q <;> cases r <;> simp [lT, pur] at h1 h2 hq hr ⊢
  exact List.lt_trans h1 h2
 | .tup ps, q, r, h, hq, hr, h1, h2 => by
  unfold pur at h
  cases q with
  | tup qs =>
   cases r with
   | tup rs => unfold pur at hq hr; unfold lT at h1 h2 ⊢; exact lTs_tr ps h hq hr h1 h2
   | _ => simp [lT] at h2
  | _ => simp [lT] at h1
 | .non, q, r, h, _, _, _, _ => by simp [pur] at h
 | .bl _, q, r, h, _, _, _, _ => by simp [pur] at h
 | .lst _, q, r, h, _, _, _, _ => by simp [pur] at h
 | .dct _ _, q, r, h, _, _, _, _ => by simp [pur] at h
 | .dtt _ _, q, r, h, _, _, _, _ => by simp [pur] at h
 | .fn _, q, r, h, _, _, _, _ => by simp [pur] at h
 | .ty _, q, r, h, _, _, _, _ => by simp [pur] at h
theorem lTs_tr : ∀ (ps : List PV) {qs rs : List PV}, purs ps = true -> purs qs = true -> purs rs = true -> lTs ps qs = true -> lTs qs rs = true -> lTs ps rs = true
 | [], qs, rs, _, _, _, h1, h2 => by cases qs <;> cases rs <;> simp [lTs] at h1 h2 ⊢
 | p :: ps, qs, rs, h, hq, hr, h1, h2 => by
  unfold purs at h; rw [Bool.and_eq_true] at h
  cases qs with
  | nil => simp [lTs] at h1
  | cons q qs =>
   cases rs with
   | nil => simp [lTs] at h2
   | cons r rs =>
    unfold purs at hq hr; rw [Bool.and_eq_true] at hq hr
    unfold lTs at h1 h2 ⊢
    by_cases e : p = q
    ·subst e
     rw [ZbV h.1, if_pos rfl] at h1
     by_cases e2 : p = r
     ·subst e2
      rw [ZbV h.1, if_pos rfl] at h2 ⊢
      exact lTs_tr ps h.2 hq.2 hr.2 h1 h2
     ·have ne := fun z => e2 ((Zbq p h.1 hr.1).mp z)
      rw [if_neg ne] at h2 ⊢; exact h2
    ·rw [if_neg (fun z => e ((Zbq p h.1 hq.1).mp z))] at h1
     by_cases e2 : q = r
     ·subst e2
      rw [if_neg (fun z => e ((Zbq p h.1 hq.1).mp z))]; exact h1
     ·rw [if_neg (fun z => e2 ((Zbq q hq.1 hr.1).mp z))] at h2
      have t := lT_tr p h.1 hq.1 hr.1 h1 h2
      by_cases e3 : p = r
      ·subst e3; rw [Zcu p h.1] at t; cases t
      ·rw [if_neg (fun z => e3 ((Zbq p h.1 hr.1).mp z))]; exact t
end
mutual
theorem ltD_lT : ∀ (p : PV) {q : PV} {c : Bool}, ltD p q = some c -> c = lT p q
 | .int a, q, c, e => by cases q <;> simp [ltD, lT] at e ⊢ <;> exact e.symm
 | .str a, q, c, e => by cases q <;> simp [ltD, lT] at e ⊢ <;> exact e.symm
 | .tup ps, q, c, e => by
  cases q with
  | tup qs => unfold ltD at e; unfold lT; exact lexD_lT ps e
  | _ => simp [ltD] at e
 | .non, q, c, e => by simp [ltD] at e
 | .bl _, q, c, e => by simp [ltD] at e
 | .lst _, q, c, e => by simp [ltD] at e
 | .dct _ _, q, c, e => by simp [ltD] at e
 | .dtt _ _, q, c, e => by simp [ltD] at e
 | .fn _, q, c, e => by simp [ltD] at e
 | .ty _, q, c, e => by simp [ltD] at e
theorem lexD_lT : ∀ (ps : List PV) {qs : List PV} {c : Bool}, lexD ps qs = some c -> c = lTs ps qs
 | [], qs, c, e => by cases qs <;> simp [lexD, lTs] at e ⊢ <;> simp [e]
 | p :: ps, qs, c, e => by
  cases qs with
  | nil => simp [lexD, lTs] at e ⊢; simp [e]
  | cons q qs =>
   unfold lexD at e; unfold lTs
   split at e
   ·rename_i z; rw [if_pos z]; exact lexD_lT ps e
   ·rename_i z; rw [if_neg z]; exact ltD_lT p e
end
theorem Zcg : ∀ {ps : List PV}, purs ps = true -> ∀ p ∈ ps, pur p = true
 | [], _, p, hp => by cases hp
 | q :: ps, h, p, hp => by
  unfold purs at h; rw [Bool.and_eq_true] at h
  rcases List.mem_cons.mp hp with rfl | hp
  ·exact h.1
  ·exact Zcg h.2 p hp
theorem oP_eq {ps : List PV} (h1 : 1 <= ps.length) (hc : cmpAll ps = true) (i j : Nat) : oP ps i j = lT (ps.getD (min i (ps.length - 1)) .non) (ps.getD (min j (ps.length - 1)) .non) := by
 have mi := ZbR (ps := ps) (i := min i (ps.length - 1)) (by lia)
 have mj := ZbR (ps := ps) (i := min j (ps.length - 1)) (by lia)
 obtain ⟨c, e⟩ := Option.isSome_iff_exists.mp (List.all_eq_true.mp (List.all_eq_true.mp hc _ mi) _ mj)
 unfold oP; rw [e]; exact ltD_lT _ e
theorem wk_of {ps : List PV} (h1 : 1 <= ps.length) (hc : cmpAll ps = true) (hp : purs ps = true) : Wk (oP ps) := by
 have P : ∀ i, pur (ps.getD (min i (ps.length - 1)) .non) = true := fun i => Zcg hp _ (ZbR (by lia))
 have irr : ∀ a, oP ps a a = false := fun a => by rw [oP_eq h1 hc]; exact Zcu _ (P a)
 have asy : ∀ a b, oP ps a b = true -> oP ps b a = false := fun a b h => by
  rw [oP_eq h1 hc] at h ⊢
  cases e : lT (ps.getD (min b (ps.length - 1)) .non) (ps.getD (min a (ps.length - 1)) .non) with
  | false => rfl
  | true =>
   have t := lT_tr _ (P a) (P b) (P a) h e
   rw [Zcu _ (P a)] at t; cases t
 refine ⟨irr, asy, fun a b c h2 h3 => ?_⟩
 rw [oP_eq h1 hc] at h2 h3 ⊢
 cases e : lT (ps.getD (min c (ps.length - 1)) .non) (ps.getD (min a (ps.length - 1)) .non) with
 | false => rfl
 | true =>
  cases e2 : lT (ps.getD (min a (ps.length - 1)) .non) (ps.getD (min b (ps.length - 1)) .non) with
  | true => rw [lT_tr _ (P c) (P a) (P b) e e2] at h3; cases h3
  | false => rw [lT_tri _ (P a) (P b) e2 h2] at e; rw [e] at h3; cases h3
theorem Zbk (ps : List PV) : (List.range ps.length).map (fun i => ps.getD i .non) = ps := by
 apply List.ext_getElem?
 intro i
 rw [List.getElem?_map]
 by_cases hi : i < ps.length
 ·rw [List.getElem?_range hi]; simp [hi]
 ·rw [List.getElem?_eq_none (by simp; lia), List.getElem?_eq_none (by lia)]; rfl
theorem Zbu {ps : List PV} (hc : cmpAll ps = true) (hp : purs ps = true) : (sortL ps).Perm ps := by
 unfold sortL perm
 split
 ·rw [Zbk]
 ·rename_i h2
  have S := (sort_ok (wk_of (by lia) hc hp) (n := ps.length) (by lia)).1
  have := (Array.perm_iff_toList_perm.mp S).map fun i => ps.getD i .non
  rw [show (List.toArray (List.range ps.length)).toList = List.range ps.length by simp, Zbk] at this
  exact this
noncomputable def Rising (qs : List PV) : Prop := qs.Pairwise fun a b => lT b a = false
theorem Zbr {ps : List PV} (hc : cmpAll ps = true) (hp : purs ps = true) : Rising (sortL ps) := by
 unfold Rising sortL perm
 split
 ·rename_i h2
  rw [Zbk]
  match ps, h2 with
  | [], _ => exact .nil
  | [p], _ => exact List.pairwise_singleton _ _
 ·rename_i h2
  have W := wk_of (by lia) hc hp
  have S := (sort_ok W (n := ps.length) (by lia)).2
  have B := run_in (o := oP ps) (kas_sort ps.length) (sort_in (by lia))
  rw [List.pairwise_map, List.pairwise_iff_getElem]
  intro i j hi hj hij
  have hz : (runT (oP ps) (kas_sort ps.length)).size = ps.length := B.2.1
  rw [Array.length_toList] at hi hj
  have s := S i j (by lia) (by lia)
  have g : ∀ k, k < (runT (oP ps) (kas_sort ps.length)).size -> (runT (oP ps) (kas_sort ps.length)).getD k 0 = (runT (oP ps) (kas_sort ps.length)).toList[k]! := fun k hk => by
   rw [Array.getD_eq_getD_getElem?]; simp [hk]
  rw [g i hi, g j hj] at s
  have b : ∀ k, (hk : k < (runT (oP ps) (kas_sort ps.length)).toList.length) -> (runT (oP ps) (kas_sort ps.length)).toList[k]! = (runT (oP ps) (kas_sort ps.length)).toList[k] := fun k hk => by
   rw [List.getElem!_eq_getElem?_getD, List.getElem?_eq_getElem hk]; rfl
  rw [b i (by simpa using hi), b j (by simpa using hj)] at s
  have l : ∀ k, (hk : k < (runT (oP ps) (kas_sort ps.length)).toList.length) -> (runT (oP ps) (kas_sort ps.length)).toList[k] < ps.length := fun k hk => B.2.2 _ (List.getElem_mem hk)
  have l1 := l i (by simpa using hi)
  have l2 := l j (by simpa using hj)
  rw [oP_eq (by lia) hc, Nat.min_eq_left (by lia), Nat.min_eq_left (by lia)] at s
  exact s
theorem ZbO : ∀ {xs ys : List PV}, purs xs = true -> xs.Perm ys -> Rising xs -> Rising ys -> xs = ys
 | [], ys, _, hp, _, _ => by rw [hp.symm.eq_nil]
 | x :: xs, ys, h, hp, h1, h2 => by
  cases ys with
  | nil => exact absurd hp.length_eq (by simp)
  | cons y ys =>
   have hm : ∀ z ∈ x :: xs, pur z = true := Zcg h
   have my : pur y = true := hm y (hp.mem_iff.mpr (.head _))
   have mx : pur x = true := hm x (.head _)
   unfold Rising at h1 h2
   rw [List.pairwise_cons] at h1 h2
   have e : x = y := by
    have a : lT y x = false := by
     rcases List.mem_cons.mp (hp.mem_iff.mpr (List.mem_cons_self (a := y) (l := ys))) with e | e
     ·rw [e]; exact Zcu _ mx
     ·exact h1.1 y e
    have b : lT x y = false := by
     rcases List.mem_cons.mp (hp.mem_iff.mp (List.mem_cons_self (a := x) (l := xs))) with e | e
     ·rw [e]; exact Zcu _ my
     ·exact h2.1 x e
    exact lT_tri x mx my b a
   subst e
   unfold purs at h; rw [Bool.and_eq_true] at h
   rw [ZbO h.2 (List.perm_cons _ |>.mp hp) h1.2 h2.2]
theorem sortL_eq {ps ys : List PV} (hc : cmpAll ps = true) (hp : purs ps = true) (e : ps.Perm ys) (r : Rising ys) : sortL ps = ys := by
 have pl := Zbu hc hp
 refine ZbO ?_ (pl.trans e) (Zbr hc hp) r
 have m := Zcg hp
 have : ∀ {l : List PV}, (∀ p ∈ l, pur p = true) -> purs l = true := fun {l} => by
  intro h
  induction l with
  | nil => rfl
  | cons q l ih => unfold purs; rw [h q (.head _), ih fun p hp => h p (.tail _ hp)]; rfl
 exact this fun p h => m p (pl.mem_iff.mp h)
end Pu
namespace Pu
open PySem PySem.W PySem.Calls
open PyProof.Rows hiding St Fr
theorem Za1 : entryFor table "dict.update.loop" = some Builtin.«dict.update.loop» := entryFor_of_tree (by kernel_rfl)
theorem ZaK : plainId "dict.update.loop" = true := by decide +kernel
section
variable {prog : Program} {w : World} {K : Type} [DecidableEq K] {knd : HeapKind prog w K}
noncomputable def putAll (key : Nat -> K × Addr × Value) (i : Nat) : List (K × Addr × Value) := ((List.range i).map key).foldl (fun xs x => storedH xs x.1 x.2.1 x.2.2) []
theorem ZbI (key : Nat -> K × Addr × Value) (i : Nat) : putAll key (i + 1) = storedH (putAll key i) (key i).1 (key i).2.1 (key i).2.2 := by
 unfold putAll; rw [List.range_succ, List.map_append, List.foldl_append]; rfl
theorem ZcQ (key : Nat -> K × Addr × Value) : ∀ i, (putAll key i).length <= i
 | 0 => Nat.le_refl _
 | i + 1 => by
  rw [ZbI]; unfold storedH
  have := ZcQ key i
  split
  ·rw [List.length_map]; lia
  ·rw [List.length_append]; simp; lia
theorem Zby (key : Nat -> K × Addr × Value) : ∀ i, ∀ x ∈ putAll key i, ∃ j, j < i /\ x.1 = (key j).1 /\ x.2.1 = (key j).2.1
 | 0, x, hx => by cases hx
 | i + 1, x, hx => by
  rw [ZbI] at hx; unfold storedH at hx
  split at hx
  ·obtain ⟨y, hy, rfl⟩ := List.mem_map.mp hx
   obtain ⟨j, hj, e1, e2⟩ := Zby key i y hy
   refine ⟨j, by lia, ?_, ?_⟩
   ·rw [← e1]; unfold putAt; split <;> first | rfl | (rename_i h; exact h.symm)
   ·rw [← e2]; unfold putAt; split <;> rfl
  ·rcases List.mem_append.mp hx with hx | hx
   ·obtain ⟨j, hj, e⟩ := Zby key i x hx
    exact ⟨j, by lia, e⟩
   ·rw [List.mem_singleton] at hx; subst hx
    exact ⟨i, by lia, rfl, rfl⟩
variable {A : Around} {R : Result -> Shared -> Prop} {I : Addr} {fp wr : List Addr} {G : Array GenState -> Array GenState -> Prop} {n : Nat} {P : Nat -> Value -> Prop} {St : Nat -> Shared -> Prop}
noncomputable def KeepO (d : Addr) (wr : List Addr) (h h' : Heap) : Prop := ∀ b u, b ≠ d -> b ∉ wr -> h.get? b = some u -> h'.get? b = some u
theorem dict_loop (W : WalksS prog w A.in1 I fp wr G n P St) (d : Addr) (hdf : d ∉ fp) (h0 : Heap) (key : Nat -> K × Addr × Value)
  (hP : ∀ i v, P i v -> ∃ t o m, v = .ref t /\ h0.get? t = some o /\ o.cls = .type "tuple" /\ o.data = .seq #[.ref (key i).2.1, (key i).2.2] m /\ t ≠ d /\ t ∉ wr)
  (hK : ∀ i h', i < n -> KeepO d wr h0 h' -> knd.is h' (key i).1 (key i).2.1) (hu : knd.room A.in1) (hn : n <= sizeLine) :
  ∀ (k i : Nat) (s : Shared), n - i = k -> i <= n -> St i s -> KeepO d wr h0 s.heap -> s.heap.DictOfH knd d (putAll key i) ->
   (∀ s', Moved (d :: wr) G s s' -> s'.heap.DictOfH knd d (putAll key n) -> R (.ok (.ret .none)) s') ->
   codeAny (model prog w) A (.builtin "dict.update.loop" ⟨[.ref d, .ref I, rawInt i, .none], []⟩) R s := by
 have hdw : d ∉ wr := fun h => hdf (W.sub _ h)
 have hsub : ∀ b ∈ wr, b ∈ d :: wr := fun b hb => List.mem_cons_of_mem _ hb
 have keepD : ∀ {s s' : Shared} {xs : List (K × Addr × Value)}, Moved wr G s s' -> KeepO d wr h0 s'.heap -> (∀ x ∈ xs, ∃ i, i < n /\ x.1 = (key i).1 /\ x.2.1 = (key i).2.1) -> s.heap.DictOfH knd d xs -> s'.heap.DictOfH knd d xs := fun hm hk hx hd => by
  obtain ⟨o, es, ep, ho, hc, hdt, he, his, hnd⟩ := hd
  refine ⟨o, es, ep, hm.heap d _ hdw ho, hc, hdt, he, fun x hx' => ?_, hnd⟩
  obtain ⟨i, hi, e1, e2⟩ := hx x hx'
  rw [e1, e2]; exact hK i _ hi hk
 intro k
 induction k with
 | zero =>
  intro i s hk hi hst hko hd hR
  have hin : i = n := by lia
  subst hin
  refine codeAny_builtin Za1 ?_
  rw [Around.under_plainId ZaK _]
  show wpAny _ A.in1 (pyNext (.ref I) >>= _) _ _ s
  refine wpAny_bind (W.done s _ _ hst fun s' hm => ?_)
  show wpAny _ A.in1 (Builtin.Dict.addKeywords d [] >>= fun _ => PySem.ret Value.none) _ _ s'
  refine wpAny_bind (wpAny_pure ?_)
  exact wpAny_pure (hR s' (hm.mono hsub) (keepD hm (fun b u n1 n2 e => hm.heap b u n2 (hko b u n1 n2 e)) (fun x hx => Zby key _ x hx) hd))
 | succ k ih =>
  intro i s hk hi hst hko hd hR
  have hlt : i < n := by lia
  refine codeAny_builtin Za1 ?_
  rw [Around.under_plainId ZaK _]
  show wpAny _ A.in1 (pyNext (.ref I) >>= _) _ _ s
  refine wpAny_bind (W.item i s _ _ hlt hst fun v s' hPv hst' hm => ?_)
  obtain ⟨t, o, m, rfl, hto, hcl, hdt, htd, htw⟩ := hP i v hPv
  have hko' : KeepO d wr h0 s'.heap := fun b u n1 n2 e => hm.heap b u n2 (hko b u n1 n2 e)
  have hd' := keepD hm hko' (fun x hx => by obtain ⟨j, hj, e⟩ := Zby key i x hx; exact ⟨j, by lia, e⟩) hd
  have hto' := hko' t o htd htw hto
  dsimp only
  refine wpAny_bind (wpAny_holding ?_)
  refine wpAny_bind (wpAny_tryCatch ?_)
  unfold Builtin.Dict.pairItems
  refine wpAny_bind (wpAny_typeOf ⟨o, hto', hcl⟩ ?_)
  rw [if_pos (by decide)]
  refine wpAny_bind (wpAny_seqItems hto' hdt ?_)
  refine wpAny_pure ?_
  show wpAny _ A.in1 (holding [.ref (key i).2.1, (key i).2.2] (dictSet d (.ref (key i).2.1) (key i).2.2)) _ _ s'
  refine wpAny_holding ?_
  refine wpAny_dictSet_heap hu (hK i _ hlt hko') hd' (fun h' hd2 hsb => ?_) (Nat.le_trans (ZcQ key i) (by lia))
  rw [← ZbI] at hd2
  refine wpAny_pure ⟨plainId_quiet ZaK _, ?_⟩
  refine ih (i + 1) _ (by lia) hlt (W.frame _ s' _ _ hst' (Nat.le_add_right _ _) fun b hb o e => ?_) (fun b u n1 n2 e => ?_) hd2 fun s'' hm'' hS'' => ?_
  ·rw [hsb.2 b (fun h : b = d => hdf (by rw [← h]; exact hb))]; exact e
  ·rw [hsb.2 b n1]; exact hko' b u n1 n2 e
  ·refine hR s'' (Moved.trans W.gtrans ((hm.mono hsub).then_heap (Nat.le_add_right _ _) fun b o hb e => ?_) hm'') hS''
   rw [hsb.2 b (fun h : b = d => hb (by rw [h]; exact List.mem_cons_self))]; exact e
end
end Pu
namespace Pu
open PySem
theorem lk_list_keys : typeLookup (.type "list") "keys" = pure none := by rw [typeLookup_type, builtinLookup_eq_fast]; kernel_rfl
theorem list_no_keys {prog : Program} {w : World} {A : Around} {E : Value → Shared → Prop} {hp : Heap} {g : Array GenState} {d : Drawn} {t : Nat} {os : OsState} {a : Addr} {xs : Array Value} {n : Nat} {sl : Array (Option Value)} {Q : Option Value → Shared → Prop}
    (hx : hp.get? a = some { cls := .type "list", dict := none, data := .seq xs n, slots := sl }) (hA : A.handled = none)
    (h : ∀ h' tk, (∀ b u, hp.get? b = some u → h'.get? b = some u) → Q none ⟨h', g, d, tk, os⟩) : wpAny (model prog w) A (getAttr? (.ref a) "keys") Q E ⟨hp, g, d, t, os⟩ := by
  have ty : ∀ t', Shared.TypeIs ⟨hp, g, d, t', os⟩ (.ref a) "list" := fun _ => ⟨_, hx, rfl⟩
  have hook := am_list_getattr_none
  have seen := F.slot_list_getattribute.lookup
  have bound := F.slot_list_getattribute.bind (.ref a)
  have sub := sub_AttributeError
  have none_there := fun u => meets_getattribute_miss_list a xs n sl "keys" u lk_list_keys (by decide) (by rw [sizeLine_eq]; decide)
  delta getAttr? getAttrBy? getAttrBy
  repeat first
    | exact ty _
    | with_reducible change wpAny _ _ (call (Value.builtin "list.__getattribute__") _ _) _ _ _
      refine call_meets (id := "list.__getattribute__") F.slot_list_getattribute (ty _) am_entry_list_getattribute (F.args_list_getattribute_2 _ _) (none_there _) ?_
    | assumption
    | wp_step
  refine ⟨hx, hA, fun h1 t1 e new => ?_⟩
  obtain ⟨t2, u2, at_e⟩ := new.there
  change wpAny _ _ (getattributeRaised _ _ _ _ _ _ _) _ _ _
  delta getattributeRaised
  repeat first | assumption | wp_step
  all_goals exact h _ _ new.keeps
end Pu
namespace Pu
open PySem PySem.W PySem.Calls
open PyProof.Rows hiding St Fr
section
variable {prog : Program} {w : World} {K : Type} [DecidableEq K] {knd : HeapKind prog w K} {A : Around} {E : Value -> Shared -> Prop} {s : Shared}
theorem ZcH {l : Addr} {us : List Value} {m : Nat} {sl : Array (Option Value)} {Q : Value → Shared → Prop} (hh : A.handled = none) (hl : s.heap.get? l = some { cls := .type "list", dict := none, data := .seq us.toArray m, slots := sl }) (key : Nat → K × Addr × Value)
    (hP : ∀ i v, us[i]? = some v → ∃ t o k, v = .ref t ∧ s.heap.get? t = some o ∧ o.cls = .type "tuple" ∧ o.data = .seq #[.ref (key i).2.1, (key i).2.2] k)
    (hK : ∀ i h', i < us.length → (∀ b u, s.heap.get? b = some u → h'.get? b = some u) → knd.is h' (key i).1 (key i).2.1) (hu : ∀ A' : Around, A'.units ≤ A.units + 8 → knd.room A') (hn : us.length ≤ sizeLine)
    (h : ∀ h' tk, (∀ b u, s.heap.get? b = some u → h'.get? b = some u) → h'.DictOfH knd s.heap.objs.size (putAll key us.length) → Q (.ref s.heap.objs.size) { s with heap := h', toks := tk }) :
    wpAny (model prog w) A (call (.type "dict") [.ref l]) Q E s := by
  refine callType_codes (Q₁ := fun obj s₁ => obj = .ref s.heap.objs.size ∧ s₁ = { s with heap := s.heap.push { cls := .type "dict", data := .dict #[] } }) F.kt_called_dict (F.kt_typeCall_dict_1 _) F.entry_dict_init (kt_code_dict_new _ ⟨rfl, rfl⟩) ?_
  rintro obj s₁ ⟨rfl, rfl⟩
  have hnew : (s.heap.push { cls := .type "dict", data := .dict #[] }).DictOfH knd s.heap.objs.size [] := Heap.DictOfH.new s.heap
  have hl' : (s.heap.push { cls := .type "dict", data := .dict #[] }).get? l = some { cls := .type "list", dict := none, data := .seq us.toArray m, slots := sl } := Heap.get?_push_of_some _ hl
  have hT : ({ s with heap := s.heap.push { cls := .type "dict", data := .dict #[] } } : Shared).TypeIs (.ref l) "list" := ⟨_, hl', rfl⟩
  have own : ∀ {A' : Around} {P : Addr × List Value → Shared → Prop} {B : Value → Shared → Prop}, P (s.heap.objs.size, [.ref l]) { s with heap := s.heap.push { cls := .type "dict", data := .dict #[] } } → wpAny (model prog w) A' (Builtin.Dict.selfAndRest "__init__" ⟨[.ref s.heap.objs.size, .ref l], []⟩) P B { s with heap := s.heap.push { cls := .type "dict", data := .dict #[] } } := fun z => by
    delta Builtin.Dict.selfAndRest
    exact wpAny_bind (wpAny_notOrdered_dict hnew.typeIs (wpAny_pure z))
  refine ⟨hnew.typeIs, F.args_dict_init_2 _ _, ?_⟩
  delta Builtin.«dict.__init__»
  apply wpAny_bind
  apply own
  change wpAny _ _ (Builtin.Dict.updateFrom "dict.__init__" s.heap.objs.size (.ref l) [] .none) _ _ _
  delta Builtin.Dict.updateFrom
  apply wpAny_bind
  refine wpAny_typeOf hT ?_
  rw [if_pos (by decide)]
  refine wpAny_bind (list_no_keys hl' (by simp [hh]) fun h1 tk1 k1 => ?_)
  have hl1 := k1 l _ hl'
  have hL1 : h1.IsList l us.toArray := ⟨_, hl1, rfl, m, rfl⟩
  have hd1 : h1.DictOfH knd s.heap.objs.size [] := by
    obtain ⟨o, es, ep, ho, hc, hdt, he, his, hnd⟩ := hnew
    exact ⟨o, es, ep, k1 _ _ ho, hc, hdt, he, fun x hx => (by cases hx), hnd⟩
  refine wpAny_ite_split (fun _ => ?_) (fun hno => absurd rfl hno)
  refine wpAny_bind (wpAny_rule ?_)
  refine wpAny_bind (wpAny_pyIter_list hL1 ?_)
  have hdl : s.heap.objs.size < h1.objs.size := by obtain ⟨o, es, ep, ho, _⟩ := hd1; exact Heap.lt_size ho
  have hll : l < h1.objs.size := Heap.lt_size hl1
  have hls : l < s.heap.objs.size := Heap.lt_size hl
  refine wpAny_pure ⟨plainId_quiet ZaK _, ?_⟩
  refine dict_loop ((Walks.list (by simp [hh]) _ l (Nat.ne_of_lt hll) us.toArray).toS) s.heap.objs.size ?_ s.heap key (fun i v hv => ?_) (fun i h' hi k => ?_) (hu _ (by simp [Around.in1_units])) (by simpa using hn) (us.toArray.size - 0) 0 _ (by omega) (Nat.zero_le _)
    ⟨⟨_, Heap.get?_push_size _ rfl, rfl, rfl⟩, hL1.push _⟩ (fun b u n1 n2 e => Heap.get?_push_of_some _ (k1 b u (Heap.get?_push_of_some _ e))) ?_ fun s' hm hd => ?_
  · simp only [List.mem_cons, List.not_mem_nil, or_false, not_or]
    exact ⟨Nat.ne_of_lt hdl, Nat.ne_of_gt hls⟩
  · obtain ⟨t, o, k, e, ho, hc, hdt⟩ := hP i v (by simpa using hv)
    have ht : t < s.heap.objs.size := Heap.lt_size ho
    exact ⟨t, o, k, e, ho, hc, hdt, Nat.ne_of_lt ht, by simp only [List.mem_cons, List.not_mem_nil, or_false]; exact Nat.ne_of_lt (Nat.lt_trans ht hdl)⟩
  · refine hK i h' (by simpa using hi) fun b u e => k b u (Nat.ne_of_lt (Heap.lt_size e)) ?_ e
    simp only [List.mem_cons, List.not_mem_nil, or_false]
    exact Nat.ne_of_lt (Nat.lt_trans (Heap.lt_size e) hdl)
  · obtain ⟨o, es, ep, ho, hc, hdt, he, his, hnd⟩ := hd1
    exact ⟨o, es, ep, Heap.get?_push_of_some _ ho, hc, hdt, he, fun x hx => (by cases hx), hnd⟩
  · rw [Moved.eq_with hm]
    rw [List.size_toArray] at hd
    refine ⟨rfl, h s'.heap s'.toks (fun b u e => ?_) hd⟩
    have hb := Heap.lt_size e
    refine hm.heap b u (by simp only [List.mem_cons, List.not_mem_nil, or_false, not_or]; exact ⟨Nat.ne_of_lt hb, Nat.ne_of_lt (Nat.lt_trans hb hdl)⟩) ?_
    exact Heap.get?_push_of_some _ (k1 b u (Heap.get?_push_of_some _ e))
end
noncomputable def RawD (h : Heap) (d : Addr) (es : Array DictEntry) (ep : Nat) : Prop := ∃ o, h.get? d = some o /\ o.ExactDict /\ o.data = .dict es ep
section
variable {prog : Program} {w : World} {A : Around} {E : Value -> Shared -> Prop} {s : Shared} {d it : Addr} {es : Array DictEntry} {ep i : Nat}
theorem RawD.at {h h' : Heap} (x : RawD h d es ep) (e : ∀ o, h.get? d = some o -> h'.get? d = some o) : RawD h' d es ep := let ⟨o, ho, r⟩ := x; ⟨o, e _ ho, r⟩
theorem RawD.ty (x : RawD s.heap d es ep) : s.TypeIs (.ref d) "dict" := let ⟨o, ho, hc, _⟩ := x; ⟨o, ho, hc.1⟩
theorem RawD.lt {h : Heap} (x : RawD h d es ep) : d < h.objs.size := let ⟨_, ho, _⟩ := x; Heap.lt_size ho
theorem raw_iter {Q : Value → Shared → Prop} (lo : (d == sysModules) = false) (hm : RawD s.heap d es ep)
    (q : Q (.ref s.heap.objs.size) { s with heap := s.heap.push { cls := .type "dict_keyiterator", data := .fields #[.ref d, .int 0 0, .int es.size 0, .int ep 0] } }) : wpAny (model prog w) A (pyIter (.ref d)) Q E s := by
  obtain ⟨o1, b1, b2, b3⟩ := id hm
  have shows : Builtin.Dict.showsAll d = pure () := by delta Builtin.Dict.showsAll; simp only [lo]; rfl
  have own : ∀ {P : Value → Shared → Prop} {B : Value → Shared → Prop} {A' : Around}, P (.ref d) s → wpAny (model prog w) A' (Builtin.Dict.dictSlotNone "__iter__" ⟨[.ref d], []⟩) P B s := fun z => by
    delta Builtin.Dict.dictSlotNone
    exact wpAny_bind (wpAny_notOrdered_dict hm.ty (wpAny_pure z))
  apply wpAny_pyIter_slot hm.ty F.slot_dict_iter
  apply wpAny_call_entry F.slot_dict_iter hm.ty F.entry_dict_iter _ (F.args_dict_iter_1 _)
  delta Builtin.«dict.__iter__»
  apply wpAny_bind
  apply own
  repeat first
    | refine wpAny_of_eq shows ?_
    | refine wpAny_dictEntries b1 b3 ?_
    | refine wpAny_dictEpoch b1 b3 ?_
    | refine wpAny_newObj_type ?_
    | apply wpAny_bind
    | apply wpAny_pure
  exact ⟨_, rfl, "dict_keyiterator", _, ⟨_, Heap.get?_push_size _ rfl, rfl⟩, F.slot_dict_keyiterator_next.lookup, by simpa [rawInt] using q⟩
theorem raw_next {Q : Option Value → Shared → Prop} (hh : es[i]? = none → A.handled = none) (hit : s.heap.IsKeyIter it d i es.size ep) (hm : RawD s.heap d es ep)
    (q1 : ∀ e, es[i]? = some e → ∀ h', h'.IsKeyIter it d (i + 1) es.size ep → Heap.SameBut it s.heap h' → Q (some e.key) { s with heap := h' })
    (q2 : es[i]? = none → ∀ h', Heap.ExtBut it s.heap h' → Q none { s with heap := h' }) : wpAny (model prog w) A (pyNext (.ref it)) Q E s := by
  obtain ⟨o1, a1, a2, a3⟩ := id hit
  obtain ⟨o2, b1, b2, b3⟩ := hm
  have one : Builtin.Dict_items.ownsTuple "dict_keyiterator" = false := by decide
  have there : (Value.ref d == Value.none) = false := rfl
  delta pyNext
  apply wpAny_bind
  apply wpAny_attempt
  apply wpAny_callSpecial?_slot (name := Str.ofString "__next__") hit.typeIs F.slot_dict_keyiterator_next
  apply wpAny_call_entry F.slot_dict_keyiterator_next hit.typeIs F.entry_dict_keyiterator_next _ (F.args_dict_keyiterator_next_1 _)
  repeat first
    | refine wpAny_typeNameOfWhole_keyiter hit.typeIs ?_
    | refine wpAny_fieldsOf a1 a3 ?_
    | refine wpAny_dictEntries b1 b3 ?_
    | refine wpAny_dictEpoch b1 b3 ?_
    | simp only [one, there, bne_self_eq_false, Bool.false_eq_true, if_false]
    | apply wpAny_bind
    | apply wpAny_pure
  have up : ¬ (i : Int) < 0 := by omega
  simp only [up, if_false, Int.toNat_natCast]
  cases hx : es[i]? with
  | some e =>
    have on : (s.heap.update it (Obj.mapFields (·.setIfInBounds 1 (rawInt ((i : Int) + 1))))).IsKeyIter it d (i + 1) es.size ep := ⟨_, Heap.get?_update_self _ a1 (Obj.isFreed_of_fields (Obj.data_mapFields a3 _)), (Obj.cls_mapFields ..).trans a2, by rw [Obj.data_mapFields a3]; simp [rawInt]⟩
    have ty : ({ s with heap := s.heap.update it (Obj.mapFields (·.setIfInBounds 1 (rawInt ((i : Int) + 1)))) } : Shared).TypeIs (.ref it) "dict_keyiterator" := Heap.IsKeyIter.typeIs on
    dsimp only
    repeat first
      | refine wpAny_typeNameOfWhole_keyiter hit.typeIs ?_
      | refine wpAny_isOneOf_keyiter hit.typeIs ?_
      | refine wpAny_isOneOf_keyiter ty ?_
      | simp only [one, Bool.false_eq_true, if_false, Nat.zero_add]
      | refine wpAny_setField a1 a3 (by simp) ?_
      | apply wpAny_holding
      | apply wpAny_bind
      | apply wpAny_pure
    exact ⟨_, rfl, wpAny_pure (q1 e hx _ on (Heap.SameBut.update ..))⟩
  | none =>
    have calm : A.in1.handled = none := hh hx
    dsimp only
    repeat first
      | refine wpAny_typeNameOfWhole_keyiter hit.typeIs ?_
      | simp only [one, Bool.false_eq_true, if_false, Nat.zero_add]
      | refine wpAny_setField a1 a3 (by simp) ?_
      | refine wpAny_alloc' ?_
      | refine wpAny_raiseNew_none calm ?_
      | apply wpAny_bind
      | apply wpAny_pure
    refine wpAny_loadPart (Heap.get?_push_size _ rfl) (wpAny_pure ?_)
    have stop : isSubtype (.type "StopIteration") (.type "StopIteration") = pure true := isSubtype_stop
    dsimp only
    rw [stop]
    exact wpAny_pure (wpAny_pure (q2 hx _ (((Heap.SameBut.update ..).extBut.push _).push _)))
theorem raw_item {e : DictEntry} {Q : Option Value → Shared → Prop} (hit : s.heap.IsKeyIter it d i es.size ep) (hm : RawD s.heap d es ep) (hx : es[i]? = some e)
    (q : ∀ h', h'.IsKeyIter it d (i + 1) es.size ep → Heap.SameBut it s.heap h' → Q (some e.key) { s with heap := h' }) : wpAny (model prog w) A (pyNext (.ref it)) Q E s :=
  raw_next (fun z => by rw [hx] at z; cases z) hit hm (fun e' z => by rw [hx] at z; cases z; exact q) fun z => by rw [hx] at z; cases z
theorem raw_end {Q : Option Value → Shared → Prop} (hh : A.handled = none) (hit : s.heap.IsKeyIter it d i es.size ep) (hm : RawD s.heap d es ep) (hx : es.size ≤ i)
    (q : ∀ h', Heap.ExtBut it s.heap h' → Q none { s with heap := h' }) : wpAny (model prog w) A (pyNext (.ref it)) Q E s :=
  raw_next (fun _ => hh) hit hm (fun e' z => by rw [Array.getElem?_eq_none hx] at z; cases z) fun _ => q
theorem raw_walks (hh : A.handled = none) (I : Addr) (hne : d ≠ I) :
  Walks prog w A I [I, d] [I] es.size (fun i v => ∃ e, es[i]? = some e /\ v = e.key) (fun i h => h.IsKeyIter I d i es.size ep /\ RawD h d es ep) where
 sub := fun b hb => by rw [List.mem_singleton.mp hb]; exact List.mem_cons_self
 frame := fun _ _ _ st hk => ⟨st.1.at (hk I (.head _)), st.2.at (hk d (.tail _ (.head _)))⟩
 item := fun i s Q E hi st hQ => by
  have hx : es[i]? = some es[i] := Array.getElem?_eq_getElem hi
  exact raw_item st.1 st.2 hx fun h' k2 sb => hQ _ h' s.toks ⟨_, hx, rfl⟩ ⟨k2, st.2.at fun o e => sb.extBut d o hne e⟩ fun b o hb e => sb.extBut b o (fun z => hb (List.mem_singleton.mpr z)) e
 done := fun s Q E st hQ => raw_end hh st.1 st.2 (Nat.le_refl _) fun h' x => hQ h' s.toks fun b o hb e => x b o (fun z => hb (List.mem_singleton.mpr z)) e
 self := fun _ _ _ _ st hQ => wpAny_pyIter_keyiter st.1 hQ
theorem raw_src (lo : (d == sysModules) = false) : KdlSrc prog w "dict" d d es.size (fun i v => ∃ e, es[i]? = some e /\ v = e.key) (fun h => RawD h d es ep) where
 type := fun _ hm => hm.ty
 there := fun _ hm => ⟨hm.lt, hm.lt⟩
 keep := fun _ _ hm hk => hm.at (hk d (.inl rfl))
 notList := by decide
 notTuple := by decide
 hint := fun _ _ _ _ hm hq => kdl_hint_dict hm.ty hq
 iter := fun _ _ hh hm => ⟨_, _, fun _ _ hq => raw_iter lo hm hq, raw_walks hh _ (Nat.ne_of_lt hm.lt), ⟨_, Heap.get?_push_size _ rfl, rfl, rfl⟩, hm.at fun o e => Heap.get?_push_of_some _ e⟩
end
section
variable {prog : Program} {w : World} {A : Around} {E : Value -> Shared -> Prop} {s : Shared} {T : String} {r d : Addr} {n : Nat} {P : Nat -> Value -> Prop} {OK : Heap -> Prop}
theorem ext_src {R : Result -> Shared -> Prop} (K : KdlSrc prog w T r d n P OK) (hh : A.handled = none) (hok : OK s.heap) (S : Addr) (hSr : S ≠ r) (hSd : S ≠ d) (c₀ : Nat) (hS : s.heap.get? S = some { cls := .type "list", data := .seq #[] c₀ }) (hn : n <= sizeLine)
  (hR : ∀ h' tk acc c, (∀ b o, b ≠ S -> s.heap.get? b = some o -> h'.get? b = some o) -> h'.get? S = some { cls := .type "list", dict := none, data := .seq acc c, slots := #[] } -> ItemsOf P acc n -> R (.ok (.ret (.ref S))) { s with heap := h', toks := tk }) :
  codeAny (model prog w) A (.builtin "list.__iadd__" ⟨[.ref S, .ref r], []⟩) R s := by
 refine codeAny_builtin entry_list_iadd' ?_
 rw [Around.under_plainId (show plainId "list.__iadd__" = true by decide +kernel) _]
 exact kdl_extend K hh hok S hSr hSd (.ref S) c₀ hS hR hn
theorem collect_src {Q : List Value -> Shared -> Prop} (K : KdlSrc prog w T r d n P OK) (hh : A.handled = none) (hok : OK s.heap) (hn : n <= sizeLine)
  (h : ∀ h' tk acc, (∀ b o, s.heap.get? b = some o -> h'.get? b = some o) -> s.heap.objs.size <= h'.objs.size -> ItemsOf P acc n -> Q acc.toList { s with heap := h', toks := tk }) : wpAny (model prog w) A (collect (.ref r)) Q E s := by
 unfold collect
 refine wpAny_bind (wpAny_runValue (codeAny_builtin entry_proto_collect' ?_))
 refine wpAny_bind (wpAny_newList (wpAny_pure ⟨Code.quiet_builtin _ (by decide +kernel), ?_⟩))
 have hS : (s.heap.push (seqObj "list" #[] 0)).get? s.heap.objs.size = some { cls := .type "list", data := .seq #[] 0 } := Heap.get?_push_size _ rfl
 have hlt := K.there _ hok
 refine ext_src (s := { s with heap := s.heap.push (seqObj "list" #[] 0) }) K hh (K.keep _ _ hok fun b _ o e => Heap.get?_push_of_some _ e) s.heap.objs.size (Nat.ne_of_gt hlt.1) (Nat.ne_of_gt hlt.2) 0 hS hn fun h' tk acc c k e ai => ?_
 refine wpAny_bind (wpAny_load e ?_)
 exact wpAny_pure (h h' tk acc (fun b o z => k b o (Nat.ne_of_lt (Heap.lt_size z)) (Heap.get?_push_of_some _ z)) (Nat.le_of_lt (Heap.lt_size e)) ai)
end
section
variable {prog : Program} {w : World} {A : Around} {E : Value -> Shared -> Prop} {s : Shared} {vs : List Value} {κ : SortKind} {o : Nat -> Nat -> Bool}
theorem sorted_at2 {v : Value} {Q : Value -> Shared -> Prop} (hcol : ∀ (Q' : List Value -> Shared -> Prop), (∀ h1 tk, (∀ b u, s.heap.get? b = some u -> h1.get? b = some u) -> s.heap.objs.size <= h1.objs.size -> Q' vs { s with heap := h1, toks := tk }) -> wpAny (model prog w) A.in1 (collect v) Q' E s) (h64 : vs.length < 64)
  (hk : 2 <= vs.length -> ∀ h' tk, (∀ b u, s.heap.get? b = some u -> h'.get? b = some u) -> ∀ Q : SortKind -> Shared -> Prop, Q κ { s with heap := h', toks := tk } -> wpAny (model prog w) A.in1.in1 (keyKind' vs.toArray) Q (fun _ _ => False) { s with heap := h', toks := tk })
  (hc : 2 <= vs.length -> ∀ h' tk, (∀ b u, s.heap.get? b = some u -> h'.get? b = some u) -> ∀ i j (C : Bool -> Shared -> Prop), i < vs.length -> j < vs.length -> C (o i j) { s with heap := h', toks := tk } -> kas_ask prog w A.in1.in1 κ vs i j C { s with heap := h', toks := tk })
  (h : ∀ D h' tk c, s.heap.objs.size <= D -> (∀ b u, s.heap.get? b = some u -> h'.get? b = some u) -> h'.get? D = some (seqObj "list" (outs2 o vs).toArray c) -> Q (.ref D) { s with heap := h', toks := tk }) :
  wpAny (model prog w) A (call (.builtin "sorted") [v]) Q E s := by
 refine Calls.call_function_entry kind_sorted plain_sorted entry_sorted (args_sorted1 _) ?_
 unfold Builtin.«sorted»
 refine wpAny_bind (m := checkCount "sorted" 1 1 _) (wpAny_pure ?_); refine wpAny_bind (hcol _ fun h1 tk kp hle => ?_)
 refine wpAny_bind (wpAny_newList ?_ (by rw [sizeLine_eq]; lia))
 have hoL : (h1.push (seqObj "list" vs.toArray 0)).get? h1.objs.size = some (seqObj "list" vs.toArray 0) := Heap.get?_push_size _ rfl
 have keep : ∀ b u, s.heap.get? b = some u -> (h1.push (seqObj "list" vs.toArray 0)).get? b = some u := fun b u e => Heap.get?_push_of_some _ (kp b u e)
 have kb : ∀ h', KeepBut h1.objs.size (h1.push (seqObj "list" vs.toArray 0)) h' -> ∀ b u, s.heap.get? b = some u -> h'.get? b = some u := fun h' k b u e =>
  k b u (Nat.ne_of_lt (Nat.lt_of_lt_of_le (Heap.lt_size e) hle)) (keep b u e)
 show wpAny _ _ _ _ _ { s with heap := h1.push (seqObj "list" vs.toArray 0), toks := tk }
 refine wpAny_bind (wpAny_holding (wpAny_call_entry slot_list_sort ⟨_, hoL, rfl⟩ entry_list_sort ?body (args_list_sort _)))
 case body =>
  by_cases h2 : vs.length < 2
  ·refine lsort_few (s := { s with heap := h1.push (seqObj "list" vs.toArray 0), toks := tk }) hoL h2 fun h' c k e => ⟨_, rfl, wpAny_pure ⟨_, rfl, h _ h' tk c hle (kb h' k) ?_⟩⟩
   unfold outs2; rw [if_pos h2]; exact e
  ·refine lsort_at (s := { s with heap := h1.push (seqObj "list" vs.toArray 0), toks := tk }) (κ := κ) (o := o) hoL (by lia) h64 (fun h' k => hk (by lia) h' tk (kb h' k)) (fun h' k => hc (by lia) h' tk (kb h' k)) fun h' c k e => ⟨_, rfl, wpAny_pure ⟨_, rfl, h _ h' tk c hle (kb h' k) ?_⟩⟩
   unfold outs2; rw [if_neg h2]; exact e
end
end Pu
namespace Pu
open PySem PySem.Spec PySem.W PySem.Calls L2 PySem.SeqAt
open PyProof.Rows hiding St Fr
noncomputable def tupK (k : List Key) : PV := .tup (k.map kP)
noncomputable def keyOk : Key -> Bool
 | .inl _ => true
 | .inr x => decide (x.length <= 1000)
noncomputable def keysOk (ks : List (List Key)) : Bool := ks.all fun k => k.all keyOk
theorem rep_kP {K : W.Frag} {ι : List Addr} {H : Hp} : ∀ {k : Key}, keyOk k = true -> Rep K ι H (kP k) (kV k)
 | .inl i, _ => repI
 | .inr x, h => repS (k1000 (of_decide_eq_true h))
theorem reps_kP {K : W.Frag} {ι : List Addr} {H : Hp} : ∀ {k : List Key}, k.all keyOk = true -> Reps K ι H (k.map kP) (k.map kV)
 | [], _ => .nil
 | x :: k, h => by
  rw [List.all_cons, Bool.and_eq_true] at h
  exact .cons (rep_kP h.1) (reps_kP h.2)
theorem rep_tupK {K : W.Frag} {ι : List Addr} {H : Hp} {k : List Key} {b : Addr} (h : k.all keyOk = true) (e : H b = some (.tup (k.map kV))) : Rep K ι H (tupK k) (.ref b) := by
 unfold tupK Rep; exact ⟨b, _, rfl, e, reps_kP h⟩
theorem kt_reps {K : W.Frag} {ι : List Addr} {H : Hp} {kvs : List (List Key × V)} {xs : List (List Key × Addr × Value)} (r : KT H kvs xs) (h : keysOk (kvs.map (·.1)) = true) : Reps K ι H (kvs.map fun q => tupK q.1) (xs.map fun x => V.ref x.2.1) := by
 induction r with
 | nil => exact .nil
 | @cons p q ps qs a t ih =>
  rw [List.map_cons] at h
  unfold keysOk at h
  rw [List.all_cons, Bool.and_eq_true] at h
  exact .cons (rep_tupK h.1 a.2.1) (ih h.2)
theorem Zco : ∀ (xs : List (List Key × Addr × Value)), Vals (xs.map fun x => V.ref x.2.1) (xs.map fun x => Value.ref x.2.1)
 | [] => .nil
 | x :: xs => .cons rfl (Zco xs)
theorem items_raw {xs : List (List Key × Addr × Value)} {es : Array DictEntry} {prog : Program} {w : World} {acc : Array Value} (he : es.toList = xs.map (entryOfKey (tupleKind (mixKind prog w)))) (h : ItemsOf (fun i v => ∃ e, es[i]? = some e /\ v = e.key) acc es.size) : acc.toList = xs.map fun x => Value.ref x.2.1 := by
 have hl : es.size = xs.length := size_of_entries he
 apply List.ext_getElem?
 intro i
 rw [Array.getElem?_toList, List.getElem?_map]
 by_cases hi : i < acc.size
 ·obtain ⟨e, e1, e2⟩ := h.2 i _ (Array.getElem?_eq_getElem hi)
  rw [Array.getElem?_eq_getElem hi, e2]
  rw [entry_at he] at e1
  cases hx : xs[i]? with
  | none => rw [hx] at e1; cases e1
  | some x => rw [hx] at e1; cases e1; rfl
 ·rw [Array.getElem?_eq_none (by lia), List.getElem?_eq_none (by have := h.1; lia)]; rfl
section
variable {X : Cx}
noncomputable def rSortedD (K : W.Frag) : List V -> Hp -> VK -> Prop := fun xs H Q => ∃ p kvs, xs = [.ref p] /\ Rd H p (.dT kvs) /\ keysOk (kvs.map (·.1)) = true /\ (sortP (kvs.map fun q => tupK q.1)).isSome = true /\
 ∀ ys : List V, (∀ ι, Reps K ι H (kvs.map fun q => tupK q.1) ys) -> ∀ l, H l = none -> Q (.ref l) (upd H l (.lst (sortV (kvs.map fun q => tupK q.1) ys)))
theorem call_sortedD (hcm : X.calm = true) (hu : X.A.units + 64 < cLine) : CallR X (.builtin "sorted") (rSortedD X.K) := by
 intro pins s σ H xs us Q I r h
 obtain ⟨p, kvs, rfl, hq, hko, hs, q⟩ := h
 obtain ⟨u, rfl, rx⟩ := vals1 r
 cases rx
 obtain ⟨hz, lo, xs, kt, o, es, ep, ho, hex, hda, he, his, hnd⟩ := dt_rd I.hok hq
 have hl : es.size = xs.length := size_of_entries he
 have hkl : kvs.length = xs.length := Paired.length kt
 generalize hps : (kvs.map fun q => tupK q.1) = ps at hs q
 have hpl : ps.length = kvs.length := by rw [← hps, List.length_map]
 have rs : ∀ ι, Reps X.K ι H ps (xs.map fun x => V.ref x.2.1) := fun ι => by rw [← hps]; exact kt_reps kt hko
 unfold sortP at hs
 split at hs
 ·rename_i hh
  simp only [Bool.and_eq_true, decide_eq_true_eq] at hh
  obtain ⟨⟨⟨⟨hd, hde⟩, h64⟩, hso⟩, hcm'⟩ := hh
  have hr := Reps.heap I ps (rs []) (Zco xs) hd
  have hvl : (xs.map fun x => Value.ref x.2.1).length = ps.length := by rw [List.length_map]; lia
  refine sorted_at2 (vs := xs.map fun x => Value.ref x.2.1) (κ := kindP ps) (o := oP ps) (fun Q' q' => ?_) (by lia) (fun h2 h' tk k Q' q' => ?_) (fun h2 h' tk k i j C hi hj hC => ?_) (fun D h' tk c hD k e => ?_)
  ·refine collect_src (raw_src (es := es) (ep := ep) lo) (I.ok.hd hcm) ⟨o, ho, hex, hda⟩ (by rw [sizeLine_eq]; lia) fun h' tk acc k hle ai => ?_
   rw [items_raw he ai]
   exact q' h' tk k hle
  ·exact kind_of (s := { s with heap := h', toks := tk }) (hr.keep k) h2 hso q'
  ·exact ask_of (s := { s with heap := h', toks := tk }) (hr.keep k) hso hcm' (by rw [Around.in1_units, Around.in1_units]; lia) hi hj hC
  ·rw [outs2_eq hvl.symm] at e
   refine ⟨.ref D, _, I.laid (t' := tk) k hD (show ObjOk X.prog X.w _ h' _ (.lst (sortV ps (xs.map fun x => V.ref x.2.1))) from ⟨?_, sortU ps (xs.map fun x => Value.ref x.2.1), c, ?_, e⟩), rfl, q _ rs _ (I.hok.fresh hD)⟩
   ·unfold sortV
    rw [List.length_map]
    have : (perm ps).length <= 64 := by
     unfold perm
     split
     ·rw [List.length_range]; lia
     ·rw [Array.length_toList, (run_in (o := oP ps) (kas_sort ps.length) (sort_in (by lia))).2.1]; lia
    exact Nat.le_trans this (by rw [sizeLine_eq]; decide)
   ·exact vals_map (Zco xs) fun i hi => by have := perm_lt i hi; lia
 ·cases hs
noncomputable def sortedH2 (C : Cs) : List SV -> Option (List PV)
 | [x] => match deref C x with
  | some (.dtt ks _) => if keysOk ks then sortP (ks.map tupK) else none
  | _ => none
 | _ => none
noncomputable def mSorted2 (fs : PSt -> M (List SV)) : PSt -> M (List PV) := fun ρ => bnd (fs ρ) fun xs => opM fun C => sortedH2 C xs
theorem fm_sorted2 {e : Expr} {es : List Expr} {fs : PSt -> M (List SV)} {p pos : Pos} (hcm : X.calm = true) (hu : X.A.units + 64 < cLine) (hgl : Gl X "sorted") (hm : X.mg "sorted" = none) (hv : bootBuiltins "sorted" = some (.builtin "sorted")) (ha : AM X (e :: es) fs)
  (he : starEach (e :: es) X.env = (false, eval e X.env) :: starEach es X.env := by rfl) (hpl : (backTo pos (starEach es X.env)).any (·.1) = false := by rfl) : FM X (.Call (.Name "sorted" p) (e :: es) [] pos) (mSorted2 fs) :=
 PE.imp (pe_callB (call_sortedD hcm hu) hgl hm hv ha (by decide) (by decide) he hpl) fun σ H Q h_ => by
  obtain ⟨ι, ρ, C, z, C', sr, e, q⟩ := h_
  obtain ⟨xs, C1, e1, e⟩ := Zah e
  obtain ⟨e2, rfl⟩ := ZaF e
  refine ⟨ι, ρ, C, xs, _, sr, e1, fun vs H1 f1 c1 r1 => ?_⟩
  unfold sortedH2 at e2
  split at e2
  ·rename_i x
   obtain ⟨v, w, rfl, r1, hw⟩ := r1
   cases (show w = [] from hw)
   split at e2
   ·rename_i ks ps hd
    have li := r1.lies c1 hd
    cases li with
    | @dtt a _ _ ws h1 hl r2 =>
     by_cases hk : keysOk ks = true
     ·rw [if_pos hk] at e2
      have ek : ((ks.zip ws).map fun q => tupK q.1) = ks.map tupK := by
       have : (ks.zip ws).map Prod.fst = ks := List.map_fst_zip (by lia)
       exact (List.map_map (f := Prod.fst) (g := tupK) (l := ks.zip ws)).symm.trans (by rw [this])
      have ef : (ks.zip ws).map (·.1) = ks := List.map_fst_zip (by lia)
      refine (⟨a, ks.zip ws, rfl, .inl h1, by rw [ef]; exact hk, by rw [ek, e2]; rfl, fun ys ry l hl => ?_⟩)
      refine q l _ H1 f1 c1 hl ?_
      rw [sortP_eq e2, ek]
      have ry' := ry ι
      rw [ek] at ry'
      exact reps_map ry' fun i hi => perm_lt i hi
     ·rw [if_neg hk] at e2; cases e2
   ·cases e2
  ·cases e2
end
noncomputable def inK (k : List Key) (ks : List (List Key)) : Bool := ks.any fun a => decide (a = k)
noncomputable def putKs (ks : List (List Key)) (k : List Key) : List (List Key) := if inK k ks then ks else ks ++ [k]
noncomputable def putVs {α : Type} (ks : List (List Key)) (xs : List α) (k : List Key) (x : α) : List α := if inK k ks then (ks.zip xs).map (fun q => if q.1 = k then x else q.2) else xs ++ [x]
theorem inK_iff {k : List Key} {ks : List (List Key)} : inK k ks = true ↔ k ∈ ks := by
 unfold inK; rw [List.any_eq_true]
 constructor
 ·rintro ⟨a, h, e⟩; rw [← of_decide_eq_true e]; exact h
 ·intro h; exact ⟨k, h, decide_eq_true rfl⟩
theorem Zcn {k : List Key} {v : V} : ∀ {ks : List (List Key)} {vs : List V}, ks.length = vs.length -> ((ks.zip vs).map fun kv => if kv.1 = k then (kv.1, v) else kv) = ks.zip ((ks.zip vs).map fun q => if q.1 = k then v else q.2)
 | [], vs, _ => by simp
 | a :: ks, [], h => by simp at h
 | a :: ks, b :: vs, h => by
  rw [List.zip_cons_cons, List.map_cons, List.map_cons, List.zip_cons_cons, Zcn (by simpa using h)]
  by_cases e : a = k
  ·simp [e]
  ·simp [e]
theorem zip_any {k : List Key} : ∀ {ks : List (List Key)} {vs : List V}, ks.length = vs.length -> ((ks.zip vs).any fun kv => decide (kv.1 = k)) = inK k ks
 | [], vs, _ => by simp [inK]
 | a :: ks, [], h => by simp at h
 | a :: ks, b :: vs, h => by
  rw [List.zip_cons_cons, List.any_cons, zip_any (by simpa using h)]
  unfold inK; rw [List.any_cons]
theorem put_zip {k : List Key} {v : V} {ks : List (List Key)} {vs : List V} (h : ks.length = vs.length) : putK (ks.zip vs) k v = (putKs ks k).zip (putVs ks vs k v) /\ (putKs ks k).length = (putVs ks vs k v).length := by
 unfold putK putKs putVs
 rw [zip_any h]
 cases e : inK k ks with
 | true =>
  simp only [if_true]
  refine ⟨Zcn h, ?_⟩
  rw [List.length_map, List.length_zip]; lia
 | false =>
  simp only [Bool.false_eq_true, if_false]
  refine ⟨?_, by simp [h]⟩
  rw [List.zip_append h]; rfl
theorem reps_put {K : W.Frag} {ι : List Addr} {H : Hp} {k : List Key} {p : PV} {v : V} (hp : Rep K ι H p v) {ks : List (List Key)} {ps : List PV} {vs : List V} (r : Reps K ι H ps vs) : Reps K ι H (putVs ks ps k p) (putVs ks vs k v) := by
 unfold putVs
 by_cases e : inK k ks = true
 ·rw [if_pos e, if_pos e]
  clear e
  induction ks generalizing ps vs with
  | nil => simp; exact .nil
  | cons a ks ih =>
   cases ps with
   | nil => rw [r.inv0]; simp; exact .nil
   | cons q ps =>
    obtain ⟨w, ws, rfl, h1, h2⟩ := r.inv
    rw [List.zip_cons_cons, List.zip_cons_cons, List.map_cons, List.map_cons]
    refine .cons ?_ (ih h2)
    by_cases z : a = k
    ·simp only [z, if_true]; exact hp
    ·simp only [z, if_false]; exact h1
 ·rw [if_neg e, if_neg e]; exact r.append (.cons hp .nil)
noncomputable def dFold {α : Type} : List (List Key × α) -> List (List Key) -> List α -> List (List Key) × List α
  | [], ks, xs => (ks, xs)
  | (k, x) :: r, ks, xs => dFold r (putKs ks k) (putVs ks xs k x)
noncomputable def foldK (acc : List (List Key × V)) (kvs : List (List Key × V)) : List (List Key × V) := kvs.foldl (fun acc q => putK acc q.1 q.2) acc
inductive PairsR (K : W.Frag) (ι : List Addr) (H : Hp) : List (List Key × PV) -> List (List Key × V) -> Prop
 | nil : PairsR K ι H [] []
 | cons {k : List Key} {p : PV} {v : V} {a b} : Rep K ι H p v -> PairsR K ι H a b -> PairsR K ι H ((k, p) :: a) ((k, v) :: b)
theorem fold_zip {K : W.Frag} {ι : List Addr} {H : Hp} {qs : List (List Key × PV)} {kvs : List (List Key × V)} (r : PairsR K ι H qs kvs) : ∀ {ks : List (List Key)} {ps : List PV} {vs : List V}, ks.length = vs.length -> Reps K ι H ps vs ->
  ∃ ws, foldK (ks.zip vs) kvs = (dFold qs ks ps).1.zip ws /\ (dFold qs ks ps).1.length = ws.length /\ Reps K ι H (dFold qs ks ps).2 ws := by
 induction r with
 | nil => intro ks ps vs h r; exact ⟨vs, rfl, h, r⟩
 | cons hp t ih =>
  intro ks ps vs h r
  obtain ⟨e, l⟩ := put_zip (k := _) (v := _) h
  obtain ⟨ws, e1, e2, e3⟩ := ih l (reps_put hp r)
  refine ⟨ws, ?_, e2, e3⟩
  show foldK (putK (ks.zip vs) _ _) _ = _
  rw [e]; exact e1
noncomputable abbrev PrsH (H : Hp) : List (List Key × V) -> List V -> Prop := Paired fun q y => ∃ t b, y = .ref t /\ H t = some (.tup [.ref b, q.2]) /\ H b = some (.tup (q.1.map kV))
section
variable {X : Cx}
theorem pairs_raw {pins : List (Addr × Obj)} {σ : St} {H : Hp} {s : Shared} (I : Inv X pins σ H s) {kvs : List (List Key × V)} {ys : List V} (pr : PrsH H kvs ys) : ∀ {its : List Value}, Vals ys its ->
  ∃ tri : List (List Key × Addr × Value), KT H kvs tri /\ Paired (fun (x : List Key × Addr × Value) u => ∃ t o n, u = Value.ref t /\ s.heap.get? t = some o /\ o.cls = .type "tuple" /\ o.data = .seq #[.ref x.2.1, x.2.2] n) tri its := by
 induction pr with
 | nil => intro its r; cases r; exact ⟨[], .nil, .nil⟩
 | @cons q y qs ys h t ih =>
  intro its r
  cases r with
  | cons ru rt =>
   obtain ⟨tri, k, p⟩ := ih rt
   obtain ⟨tt, b, rfl, e1, e2⟩ := h
   cases ru
   obtain ⟨us, r2, ⟨o, ho, hc, n, hd⟩, _⟩ := I.tuple (a := tt) (.inl (.inl e1))
   cases r2 with
   | cons ra r3 => cases r3 with
    | cons rb r4 =>
     cases r4; cases ra
     exact ⟨(q.1, b, _) :: tri, .cons ⟨rfl, e2, rb⟩ k, .cons ⟨tt, o, n, rfl, ho, hc, hd⟩ p⟩
theorem kt_fold {H : Hp} {kvs : List (List Key × V)} {tri : List (List Key × Addr × Value)} (r : KT H kvs tri) : ∀ {acc : List (List Key × V)} {xs : List (List Key × Addr × Value)}, KT H acc xs -> KT H (foldK acc kvs) (tri.foldl (fun xs x => storedH xs x.1 x.2.1 x.2.2) xs) := by
 induction r with
 | nil => intro acc xs h; exact h
 | @cons p q ps qs h t ih =>
  intro acc xs a
  obtain ⟨h1, h2, h3⟩ := h
  refine ih (acc := putK acc p.1 p.2) ?_
  have := KT.put a p.1 (b := q.2.1) (y := p.2) (u := q.2.2) h2 h3
  rw [h1] at this ⊢
  exact this
theorem foldK_len : ∀ (kvs acc : List (List Key × V)), (foldK acc kvs).length <= acc.length + kvs.length
 | [], acc => by simp [foldK]
 | q :: kvs, acc => by
  have h1 := foldK_len kvs (putK acc q.1 q.2)
  have h2 := ZbJ acc q.1 q.2
  show (foldK (putK acc q.1 q.2) kvs).length <= _
  rw [List.length_cons]; lia
theorem getD_range {α : Type} (d : α) : ∀ (l : List α), (List.range l.length).map (fun i => l.getD i d) = l := fun l => by
 apply List.ext_getElem?
 intro i
 rw [List.getElem?_map]
 by_cases hi : i < l.length
 ·rw [List.getElem?_range hi]; simp [hi]
 ·rw [List.getElem?_eq_none (by simp; lia), List.getElem?_eq_none (by lia)]; rfl
noncomputable def rDictP (K : W.Frag) : List V -> Hp -> VK -> Prop := fun xs H Q => ∃ p ys kvs, xs = [.ref p] /\ SqL K H p ys /\ PrsH H kvs ys /\ kvs.length <= 1000 /\ ∀ l, H l = none -> Q (.ref l) (upd H l (.dT (foldK [] kvs)))
theorem call_dictP (hcm : X.calm = true) (hu : X.A.units + 64 < cLine) : CallR X (.type "dict") (rDictP X.K) := by
 intro pins s σ H xs us Q I r h
 obtain ⟨p, ys, kvs, rfl, hq, pr, h1000, q⟩ := h
 obtain ⟨u, rfl, rx⟩ := vals1 r
 cases rx
 obtain ⟨its, r', ⟨o, n, ho, hc, hdn, hd⟩, hz⟩ := I.list hq
 obtain ⟨tri, kt, pt⟩ := pairs_raw I pr r'
 have hlt : tri.length = its.length := Paired.length pt
 have hlk : kvs.length = tri.length := Paired.length kt
 obtain ⟨oc, od, odt, osl⟩ := o
 simp only at hc hdn hd
 subst hc hdn hd
 have at' : ∀ {a : List (List Key × Addr × Value)} {b : List Value}, Paired (fun (x : List Key × Addr × Value) u => ∃ t o n, u = Value.ref t /\ s.heap.get? t = some o /\ o.cls = .type "tuple" /\ o.data = .seq #[.ref x.2.1, x.2.2] n) a b -> ∀ (i : Nat) (v : Value), b[i]? = some v -> ∃ t o n, v = Value.ref t /\ s.heap.get? t = some o /\ o.cls = .type "tuple" /\ o.data = .seq #[.ref (a.getD i ([], 0, .none)).2.1, (a.getD i ([], 0, .none)).2.2] n := by
  intro a b h
  induction h with
  | nil => intro i v e; simp at e
  | cons h t ih =>
   intro i v e
   cases i with
   | zero => simp at e; subst e; simpa using h
   | succ i => simpa using ih i v (by simpa using e)
 have key' : ∀ {a : List (List Key × V)} {b : List (List Key × Addr × Value)}, KT H a b -> ∀ i, i < b.length -> H (b.getD i ([], 0, .none)).2.1 = some (.tup ((b.getD i ([], 0, .none)).1.map kV)) := by
  intro a b h
  induction h with
  | nil => intro i e; simp at e
  | @cons p q ps qs h t ih =>
   intro i e
   cases i with
   | zero => simp only [List.getD_cons_zero]; rw [← h.1]; exact h.2.1
   | succ i => simpa using ih i (by simpa using e)
 refine ZcH (knd := tupleKind (mixKind X.prog X.w)) (I.ok.hd hcm) ho (fun i => tri.getD i ([], 0, .none)) (at' pt) (fun i h' hi k => ?_) (fun A' hA => ?_) (by rw [sizeLine_eq]; lia) fun h' tk k dd => ?_
 ·obtain ⟨_, its2, r2, o2, a1, a2, n2, a3⟩ := (show ObjOk X.prog X.w H s.heap _ (.tup _) from I.hok _ _ (key' kt i (by lia)))
  exact ⟨o2, its2.toArray, n2, k _ _ a1, a2, a3, by simpa using Zcv r2⟩
 ·show A'.units < cLine
  exact Nat.lt_of_le_of_lt hA (by lia)
 ·have e1 : putAll (fun i => tri.getD i ([], 0, Value.none)) its.length = tri.foldl (fun xs x => storedH xs x.1 x.2.1 x.2.2) [] := by
   unfold putAll; rw [← hlt, getD_range]
  rw [e1] at dd
  obtain ⟨o3, es, ep, d1, d2, d3, d4, d5, d6⟩ := dd
  have hfr := I.hok.fresh (Nat.le_refl s.heap.objs.size)
  have kt2 : KT H (foldK [] kvs) (tri.foldl (fun xs x => storedH xs x.1 x.2.1 x.2.2) []) := kt_fold kt .nil
  have hl := foldK_len kvs []
  refine ⟨.ref s.heap.objs.size, _, I.laid (a := s.heap.objs.size) (t' := tk) k (Nat.le_refl _) (show ObjOk X.prog X.w _ h' _ (.dT (foldK [] kvs)) from ⟨?_, ?_, _, kt2.keeps fun b ys e => ?_, o3, es, ep, d1, d2, d3, d4, d6⟩), rfl, q _ hfr⟩
  ·rw [List.length_nil] at hl; rw [sizeLine_eq]; lia
  ·exact beq_false_of_ne (Nat.ne_of_gt I.big)
  ·rw [Zan (Zal e hfr)]; exact e
end
noncomputable def keysP : List PV -> Option (List Key)
 | [] => some []
 | p :: r => match keyP p, keysP r with
  | some k, some ks => some (k :: ks)
  | _, _ => none
noncomputable def pairP : PV -> Option (List Key × PV)
 | .tup [.tup qs, v] => (keysP qs).map fun k => (k, v)
 | _ => none
noncomputable def pairsP : List PV -> Option (List (List Key × PV))
 | [] => some []
 | p :: r => match pairP p, pairsP r with
  | some k, some ks => some (k :: ks)
  | _, _ => none
section
variable {K : W.Frag} {ι : List Addr} {H : Hp}
theorem rep_key {x : PV} {v : V} {q : Key} (l : Rep K ι H x v) (h : keyP x = some q) : v = kV q := lies_key (Rep.lies l) h
theorem reps_keys : ∀ {qs : List PV} {ws : List V} {k : List Key}, Reps K ι H qs ws -> keysP qs = some k -> ws = k.map kV
 | [], ws, k, r, e => by cases e; exact r.inv0
 | p :: qs, ws, k, r, e => by
  obtain ⟨v, w, rfl, h1, h2⟩ := r.inv
  unfold keysP at e
  split at e
  ·rename_i a b e1 e2
   cases e
   rw [rep_key h1 e1, reps_keys h2 e2]; rfl
  ·cases e
theorem Zcq {qs : List PV} {k : List Key} {v : V} (r : Rep K ι H (.tup qs) v) (e : keysP qs = some k) : ∃ b, v = .ref b /\ H b = some (.tup (k.map kV)) := by
 unfold Rep at r
 obtain ⟨b, ws, rfl, h, rs⟩ := r
 rw [reps_keys rs e] at h
 exact ⟨b, rfl, h⟩
theorem ZcK : ∀ {ps : List PV} {ys : List V} {qs : List (List Key × PV)}, Reps K ι H ps ys -> pairsP ps = some qs -> ∃ kvs, PairsR K ι H qs kvs /\ PrsH H kvs ys
 | [], ys, qs, r, e => by cases e; rw [r.inv0]; exact ⟨[], .nil, .nil⟩
 | p :: ps, ys, qs, r, e => by
  obtain ⟨y, ys, rfl, h1, h2⟩ := r.inv
  unfold pairsP at e
  split at e
  ·rename_i a b e1 e2
   cases e
   obtain ⟨kvs, g1, g2⟩ := ZcK h2 e2
   unfold pairP at e1
   split at e1
   ·rename_i us v
    cases hk : keysP us with
    | none => rw [hk] at e1; cases e1
    | some k =>
     rw [hk] at e1; cases e1
     unfold Rep at h1
     obtain ⟨t, ws, rfl, ht, rs⟩ := h1
     obtain ⟨x1, w1, rfl, a1, rs⟩ := rs.inv
     obtain ⟨x2, w2, rfl, a2, rs⟩ := rs.inv
     rw [rs.inv0] at ht
     obtain ⟨b', rfl, hb⟩ := Zcq a1 hk
     exact ⟨(k, x2) :: kvs, .cons a2 g1, .cons ⟨t, b', rfl, ht, hb⟩ g2⟩
   ·cases e1
  ·cases e
theorem PairsR.length {qs : List (List Key × PV)} {kvs : List (List Key × V)} (r : PairsR K ι H qs kvs) : qs.length = kvs.length := by
 induction r with
 | nil => rfl
 | cons _ _ ih => rw [List.length_cons, List.length_cons, ih]
theorem CR.none_out {C : Cs} (cr : CR K ι H C) {a : Addr} (h : H a = none) : a ∉ ι := fun z => by
 rcases cr.mut z with ⟨_, e⟩ | ⟨_, e⟩ | ⟨_, e⟩
 ·rw [h] at e; cases e
 ·rw [h] at e; cases e
 ·rw [h] at e; cases e
end
noncomputable def dictPH (C : Cs) : List SV -> Option SV
 | [x] => match deref C x with
  | some (.lst ps) => match pairsP ps with
   | some qs => if qs.length <= 1000 then some (.v (.dtt (dFold qs [] []).1 (dFold qs [] []).2)) else none
   | none => none
  | _ => none
 | _ => none
section
variable {X : Cx} {e o i : Expr} {es : List Expr} {fs : PSt -> M (List SV)} {p pos pos' : Pos} {x : Str} {fv fo fi : PSt -> M SV}
theorem dictP_ok : C1ok X.K (rDictP X.K) dictPH := by
 intro ι H C xs vs z Q cr rs e k
 unfold dictPH at e
 split at e
 ·rename_i x
  obtain ⟨v, w, rfl, r1, hw⟩ := rs
  cases (show w = [] from hw)
  split at e
  ·rename_i ps hd
   obtain ⟨a, ws, rfl, h1, r2⟩ := liesL (r1.lies cr hd)
   split at e
   ·rename_i qs hq
    by_cases hl : qs.length <= 1000
    ·rw [if_pos hl] at e; cases e
     obtain ⟨kvs, g1, g2⟩ := ZcK r2 hq
     refine ⟨a, ws, kvs, rfl, h1, g2, by rw [← g1.length]; exact hl, fun l hn => k _ _ (Fr.new hn) (cr.new hn) ?_⟩
     obtain ⟨us, e1, e2, e3⟩ := fold_zip g1 (ks := []) (ps := []) (vs := []) rfl .nil
     show Rep _ _ _ (.dtt _ _) _
     unfold Rep
     exact ⟨l, us, rfl, cr.none_out hn, by rw [← e1]; exact ZaW, e2, Reps.stay (fun b o e => by rw [Zan (Zal e hn)]; exact e) _ _ e3⟩
    ·rw [if_neg hl] at e; cases e
   ·cases e
  ·cases e
 ·cases e
theorem em_dictP (hcm : X.calm = true) (hu : X.A.units + 64 < cLine) (hgl : Gl X "dict") (hm : X.mg "dict" = none) (hv : bootBuiltins "dict" = some (.type "dict")) (ha : AM X (e :: es) fs)
  (he : starEach (e :: es) X.env = (false, eval e X.env) :: starEach es X.env := by rfl) (hpl : (backTo pos (starEach es X.env)).any (·.1) = false := by rfl) : EM X (.Call (.Name "dict" p) (e :: es) [] pos) (mCB dictPH fs) :=
 ZcB (call_dictP hcm hu) dictP_ok hgl hm hv ha (by decide) (by decide) he hpl
noncomputable def mNewT (i : Nat) : PSt -> M PF := fun ρ C => some (.nx (ρ.set i (some (.c C.length))), C ++ [.dtt [] []])
theorem sm_newT {n : Nat} {dpos : Pos} (hN : X.N.Nodup) (hi : X.N[n]? = some x) (hx : Loc X.env.scope x) (hs : swapsWith (.Dict [] [] dpos) (some (.Name x pos')) pos.line X.env = pure false := by rfl)
  (hf : X.fn x = true \/ X.env.scope.names.lookup x = some .local := by first | exact .inl rfl | exact .inr rfl | assumption) : SM X (.Assign [.Name x pos'] (.Dict [] [] dpos) pos) (mNewT n) := PS.imp (ps_set hN hi hx pe_dnewT hs hf) fun D σ H h_ => by
 obtain ⟨ι, ρ, C, fl, C', sr, e, d⟩ := h_
 cases e
 intro q hq
 have c1 := sr.cr
 have c2 : CR X.K (ι ++ [q]) (upd H q (.dT [])) (C ++ [.dtt [] []]) := c1.add hq ⟨[], ZaW, rfl, .nil⟩
 have x : Ex ι [q] H (upd H q (.dT [])) := ⟨Fr.new hq, fun b hb => by
  have : b = q := by simpa using hb
  subst this; exact hq⟩
 refine d [q] _ _ x ((sr.ex x c2).set n ⟨q, rfl, ?_⟩)
 rw [← c1.len]; simp
noncomputable def setT (v o i : SV) (ρ : PSt) : M PF := fun C => match o, i, v with
 | .c k, .v (.tup qs), .v p => match C[k]?, keysP qs with
  | some (.dtt ks ps), some key => if ks.length < 1000 then some (.nx ρ, C.set k (.dtt (putKs ks key) (putVs ks ps key p))) else none
  | _, _ => none
 | _, _, _ => none
noncomputable def mSetIxT (fv fo fi : PSt -> M SV) : PSt -> M PF := fun ρ => bnd (fv ρ) fun v => bnd (fo ρ) fun o => bnd (fi ρ) fun i => setT v o i ρ
theorem setT_some {v o i : SV} {ρ : PSt} {C C2 : Cs} {fl : PF} (h : setT v o i ρ C = some (fl, C2)) : ∃ k qs p ks ps key, o = .c k /\ i = .v (.tup qs) /\ v = .v p /\ C[k]? = some (.dtt ks ps) /\ keysP qs = some key /\ ks.length < 1000 /\ fl = .nx ρ /\ C2 = C.set k (.dtt (putKs ks key) (putVs ks ps key p)) := by
 unfold setT at h
 split at h
 ·split at h
  ·split at h
   ·cases h; exact ⟨_, _, _, _, _, _, rfl, rfl, rfl, by assumption, by assumption, by assumption, rfl, rfl⟩
   ·cases h
  ·cases h
 ·cases h
theorem sm_setixT {spos : Pos} (hu : X.A.units + 64 < cLine) (hv : EM X e fv) (ho : EM X o fo) (hi : EM X i fi)
  (hs : swapsWith e (some (.Subscript o i spos)) pos.line X.env = pure false := by rfl) : SM X (.Assign [.Subscript o i spos] e pos) (mSetIxT fv fo fi) :=
 PS.imp (ps_dput (by lia) ho hi hv hs) fun D σ H h_ => by
  obtain ⟨ι, ρ, C, fl, C', sr, e, d⟩ := h_
  obtain ⟨v, C1, e1, g1⟩ := Zah e
  obtain ⟨o, C2, e2, g2⟩ := Zah g1
  obtain ⟨i, C3, e3, g3⟩ := Zah g2
  obtain ⟨k, qs, p', ks, ps, key, ho, hi, hv, hc, hj, hlen, hf, hC⟩ := setT_some g3
  clear e g1 g2 g3
  subst ho hi hv hf hC
  refine ⟨ι, ρ, C, _, C1, sr, e1, fun x H1 f1 c1 r1 => ⟨ι, ρ, C1, _, C2, sr.step f1 c1, e2, fun y H2 f2 c2 r2 => ⟨ι, ρ, C2, _, C3, (sr.step f1 c1).step f2 c2, e3, fun w H3 f3 c3 r3 => ?_⟩⟩⟩
  obtain ⟨a, rfl, hk⟩ := r2
  obtain ⟨vs, h1, hl, rv⟩ := (show CellOk X.K ι H3 a (.dtt ks ps) from c3.ok k a _ hk hc)
  obtain ⟨b, rfl, hb⟩ := Zcq (show Rep X.K ι H3 (.tup qs) w from r3) hj
  have r1' : Rep X.K ι H3 p' x := Rep.mono c2 f3 _ _ (Rep.mono c1 f2 _ _ r1)
  obtain ⟨z1, z2⟩ := put_zip (k := key) (v := x) hl
  have fr : Fr ι H3 (upd H3 a (.dT (putK (ks.zip vs) key x))) := fun b u n e => by
   rw [Zan (fun z => n (by rw [z]; exact List.mem_of_getElem? hk))]; exact e
  have c4 : CR X.K ι (upd H3 a (.dT (putK (ks.zip vs) key x))) (C3.set k (.dtt (putKs ks key) (putVs ks ps key p'))) :=
   c3.put hk ⟨putVs ks vs key x, by rw [← z1]; exact ZaW, z2, Reps.mono c3 fr _ _ (reps_put r1' rv)⟩
  refine ⟨a, _, rfl, DPut.t h1 hb (by rw [List.length_zip, sizeLine_eq]; lia), ?_⟩
  exact Done.nx0 ((((sr.step f1 c1).step f2 c2).step f3 c3).step fr c4) (d.fr c4 (f1.trans (f2.trans (f3.trans fr))))
end
section
variable {X : Cx}
noncomputable def isBP : PV -> PV -> Option PV
 | .bl a, .bl b => some (.bl (a == b))
 | _, _ => none
noncomputable def isntBP : PV -> PV -> Option PV
 | .bl a, .bl b => some (.bl (!(a == b)))
 | _, _ => none
theorem op_isntB : OpR X (compareOp .IsNot) (fun x y H Q => ∃ a b, x = .bl a /\ y = .bl b /\ Q (.bl (!(a == b))) H) := by
 intro pins s σ H x y v u Q I rx ry h
 obtain ⟨a, b, rfl, rfl, q⟩ := h
 cases rx; cases ry
 cases a <;> cases b <;> exact wpAny_pure (ZaC I q rfl)
theorem isntB_ok : L2ok X.K (fun x y H Q => ∃ a b, x = .bl a /\ y = .bl b /\ Q (.bl (!(a == b))) H) isntBP := by
 intro ι H C p q vx vy z Q cr lx ly e k
 unfold isntBP at e
 split at e
 ·cases e; cases lx; cases ly; exact ⟨_, _, rfl, rfl, k _ H .refl cr repBl⟩
 ·cases e
end
end Pu
namespace Pu
open PySem PySem.Spec L2
open PyProof.Rows hiding St Fr
@[irreducible] noncomputable def QEM (X : Cx) (e : Expr) (f : PSt -> M SV) : Prop := EM X e f
theorem QEM_eq : @QEM = @EM := by unfold QEM; rfl
@[irreducible] noncomputable def QAM (X : Cx) (es : List Expr) (f : PSt -> M (List SV)) : Prop := AM X es f
theorem QAM_eq : @QAM = @AM := by unfold QAM; rfl
@[irreducible] noncomputable def QTMt (X : Cx) (e : Expr) (f : PSt -> M Bool) : Prop := TMt X e f
theorem QTMt_eq : @QTMt = @TMt := by unfold QTMt; rfl
@[irreducible] noncomputable def QWM (X : Cx) (e : Expr) (f : PSt -> M Bool) : Prop := WM X e f
theorem QWM_eq : @QWM = @WM := by unfold QWM; rfl
@[irreducible] noncomputable def QFM (X : Cx) (e : Expr) (f : PSt -> M (List PV)) : Prop := FM X e f
theorem QFM_eq : @QFM = @FM := by unfold QFM; rfl
@[irreducible] noncomputable def QSM (X : Cx) (st : Stmt) (f : PSt -> M PF) : Prop := SM X st f
theorem QSM_eq : @QSM = @SM := by unfold QSM; rfl
@[irreducible] noncomputable def QBM (X : Cx) (sts : List Stmt) (f : PSt -> M PF) : Prop := BM X sts f
theorem QBM_eq : @QBM = @BM := by unfold QBM; rfl
@[irreducible] noncomputable def QGM (X : Cx) (tg : Expr) (g : PV -> PSt -> Option PSt) : Prop := GM X tg g
theorem QGM_eq : @QGM = @GM := by unfold QGM; rfl
@[irreducible] noncomputable def QGMs (X : Cx) (ts : List Expr) (g : List PV -> PSt -> Option PSt) : Prop := GMs X ts g
theorem QGMs_eq : @QGMs = @GMs := by unfold QGMs; rfl
@[irreducible] noncomputable def QIM (X : Cx) (tg iter : Expr) (f : PSt -> M (List PV)) : Prop := IM X tg iter f
theorem QIM_eq : @QIM = @IM := by unfold QIM; rfl
@[irreducible] noncomputable def QTsM (X : Cx) (ifs : List Expr) (t : PSt -> M Bool) : Prop := TsM X ifs t
theorem QTsM_eq : @QTsM = @TsM := by unfold QTsM; rfl
@[irreducible] noncomputable def QOM (X : Cx) (e : Option Expr) (f : PSt -> M (Option Int)) : Prop := OM X e f
theorem QOM_eq : @QOM = @OM := by unfold QOM; rfl
@[irreducible] noncomputable def QDM (X : Cx) (ks : List (Option Expr)) (es : List Expr) (keys : List Str) (f : PSt -> M (List SV)) : Prop := DM X ks es keys f
theorem QDM_eq : @QDM = @DM := by unfold QDM; rfl
end Pu
local macro_rules
 | `(tactic| subst_eqs) => `(tactic| simp only [Pu.QEM_eq, Pu.QAM_eq, Pu.QTMt_eq, Pu.QWM_eq, Pu.QFM_eq, Pu.QSM_eq, Pu.QBM_eq, Pu.QGM_eq, Pu.QGMs_eq, Pu.QIM_eq, Pu.QTsM_eq, Pu.QOM_eq, Pu.QDM_eq] at *)
namespace Pu
open PySem PySem.Spec L2
open PyProof.Rows hiding St
theorem Zbm {X : Cx} {e : Expr} {f : PSt -> M Bool} (h : QWM X e f) : QTMt X e f := by
 subst_eqs; apply @WM.t <;> assumption
section
variable {X : Cx} {a b e c : Expr} {es : List Expr} {fa fb fc : PSt -> M SV} {pos p : Pos} {x : Str}
theorem Zab (i : Nat) {x : Str} {pos : Pos} (hN : X.N[i]? = some x := by rfl) (hv : Vis X.env.scope x := by first | exact Or.inl rfl | exact Or.inr (Or.inl rfl) | exact Or.inr (Or.inr rfl)) (hd : (x == ("__debug__" : Str)) = false := by decide)
  (hcd : (x == ("__classdict__" : Str)) = false := by decide) : QEM X (.Name x pos) (mVar i) := by
 subst_eqs; apply @em_var <;> assumption
theorem Zad {i j pos} : QEM X (.Constant (.int i) j pos) (mC (.int i)) := by
 subst_eqs; apply @em_int <;> assumption
theorem ZaD {i j pos} : QEM X (.Constant (.bool i) j pos) (mC (.bl i)) := by
 subst_eqs; apply @em_bl <;> assumption
theorem q_em_non {j pos} : QEM X (.Constant .none j pos) (mC .non) := by
 subst_eqs; apply @em_non <;> assumption
theorem Zai {i j pos} (h : i.length <= sizeLine := by decide +kernel) : QEM X (.Constant (.str i) j pos) (mC (.str i)) := by
 subst_eqs; apply @em_str <;> assumption
theorem Zbw {i : Int} (hg : Gl X x) (hm : ∃ t, X.mg x = some (.int i t)) (hd : (x == ("__debug__" : Str)) = false := by decide) : QEM X (.Name x pos) (mC (.int i)) := by
 subst_eqs; apply @em_globI <;> assumption
theorem ZcN {i : Str} (hg : Gl X x) (hm : ∃ t, X.mg x = some (.str i t)) (h : i.length <= sizeLine := by decide +kernel) (hd : (x == ("__debug__" : Str)) = false := by decide) : QEM X (.Name x pos) (mC (.str i)) := by
 subst_eqs; apply @em_globS <;> assumption
theorem Za0 {n : String} (hg : Gl X x) (hm : X.mg x = none) (hv : bootBuiltins x = some (.type n)) (hn : x ≠ "__name__" := by decide) (hd : (x == ("__debug__" : Str)) = false := by decide) : QEM X (.Name x pos) (mC (.ty n)) := by
 subst_eqs; apply @em_ty <;> assumption
theorem ZaJ {op : CmpOp} {r : R2} {g : Cs -> SV -> SV -> Option SV} (ho : OpR X (compareOp op) r) (hg : R2ok X.K r g) (ha : QEM X a fa) (hb : QEM X b fb) (hm : behindInMarks op b = false) : QEM X (.Compare a [op] [b] pos) (mOp g fa fb) := by
 subst_eqs; apply @em_cmp <;> assumption
theorem ZbY {op op' : CmpOp} {r r' : R2} {g g' : Cs -> SV -> SV -> Option SV} (ho : OpR X (compareOp op) r) (ho' : OpR X (compareOp op') r') (hg : R2ok X.K r g) (hg' : R2ok X.K r' g') (ha : QEM X a fa) (hb : QEM X b fb) (hc : QEM X c fc)
  (hm : lastMarks [op, op'] [b, c] = false := by with_unfolding_all rfl) : QEM X (.Compare a [op, op'] [b, c] pos) (mChain g g' fa fb fc) := by
 subst_eqs; apply @em_chain <;> assumption
theorem Zay {op : CmpOp} {r : R2} {g : Cs -> SV -> SV -> Option SV} (ho : OpR X (compareOp op) r) (hg : R2ok X.K r g) (ha : QEM X a fa) (hb : QEM X b fb) (hm : behindInMarks op b = false) : QTMt X (.Compare a [op] [b] pos) (mTest (mOp g fa fb)) := by
 subst_eqs; apply @tm_cmp <;> assumption
theorem q_tm_chain {op op' : CmpOp} {r r' : R2} {g g' : Cs -> SV -> SV -> Option SV} (ho : OpR X (compareOp op) r) (ho' : OpR X (compareOp op') r') (hg : R2ok X.K r g) (hg' : R2ok X.K r' g') (ha : QEM X a fa) (hb : QEM X b fb) (hc : QEM X c fc)
  (hm : lastMarks [op, op'] [b, c] = false := by with_unfolding_all rfl) : QTMt X (.Compare a [op, op'] [b, c] pos) (mTest (mChain g g' fa fb fc)) := by
 subst_eqs; apply @tm_chain <;> assumption
theorem Zav (ha : QEM X a fa) (he : ∀ whole, isTrue a X.env whole = (do let v ← whole; standAt a.pos; holding [v] (truthy v)) := by intro _; rfl) : QTMt X a (mTru fa) := by
 subst_eqs; apply @tm_tru <;> assumption
theorem Zau {f : PSt -> M Bool} (h : QTMt X a f) : QTMt X (.UnaryOp .Not a pos) (mNotT f) := by
 subst_eqs; apply @tm_not <;> assumption
theorem ZaY {f : PSt -> M Bool} (h : QTMt X a f) : QWM X (.BoolOp .Or [a] pos) f := by
 subst_eqs; apply @wm_or1 <;> assumption
theorem ZaV {rest : List Expr} {f g : PSt -> M Bool} (h : QTMt X a f) (k : QWM X (.BoolOp .Or (b :: rest) pos) g) : QWM X (.BoolOp .Or (a :: b :: rest) pos) (mOrT f g) := by
 subst_eqs; apply @wm_or <;> assumption
theorem ZaQ {op} {f : PSt -> M SV} (h : QEM X a f) : QEM X (.BoolOp op [a] pos) f := by
 subst_eqs; apply @em_one <;> assumption
theorem Zat {rest : List Expr} {f g : PSt -> M SV} (h : QEM X a f) (k : QEM X (.BoolOp .And (b :: rest) pos) g) : QEM X (.BoolOp .And (a :: b :: rest) pos) (mAndV f g) := by
 subst_eqs; apply @em_and <;> assumption
theorem q_em_or {rest : List Expr} {f g : PSt -> M SV} (h : QEM X a f) (k : QEM X (.BoolOp .Or (b :: rest) pos) g) : QEM X (.BoolOp .Or (a :: b :: rest) pos) (mOrV f g) := by
 subst_eqs; apply @em_or <;> assumption
theorem q_em_not {f : PSt -> M SV} (h : QEM X a f) : QEM X (.UnaryOp .Not a pos) (mNotV f) := by
 subst_eqs; apply @em_not <;> assumption
theorem Zac : QAM X [] aNil := by
 subst_eqs; apply @am_nil <;> assumption
theorem Zaa {f : PSt -> M SV} {g : PSt -> M (List SV)} (h : QEM X e f) (k : QAM X es g) (hs : starEach (e :: es) X.env = (false, eval e X.env) :: starEach es X.env := by rfl) : QAM X (e :: es) (aCons f g) := by
 subst_eqs; apply @am_cons <;> assumption
theorem Zae {k : Nat} {f : Addr} {fd : FuncData} {ps : List Str} {F : List SV -> M SV} {fs : PSt -> M (List SV)} (G : FnOk X.prog X.w X.K X.mg X.base CX0 k f fd ps (liftSp X.K F)) (hr : Room k X.A) (hg : Gl X x) (hm : X.mg x = some (.ref f)) (hk : W.keepIn X.K (.ref f) = true) (hb : Binds X.K fd ps [])
  (ha : QAM X (e :: es) fs) (hdb : (x == ("__debug__" : Str)) = false := by decide) (he : starEach (e :: es) X.env = (false, eval e X.env) :: starEach es X.env := by rfl) (hpl : (backTo pos (starEach es X.env)).any (·.1) = false := by rfl) :
  QEM X (.Call (.Name x p) (e :: es) [] pos) (mFn F fs) := by
 subst_eqs; apply @em_call <;> assumption
theorem ZcP {k : Nat} {f : Addr} {fd : FuncData} {ps : List Str} {F : List SV -> M SV} (G : FnOk X.prog X.w X.K X.mg X.base CX0 k f fd ps (liftSp X.K F)) (hr : Room k X.A) (hg : Gl X x) (hm : X.mg x = some (.ref f)) (hk : W.keepIn X.K (.ref f) = true) (hb : Binds X.K fd ps [])
  (hdb : (x == ("__debug__" : Str)) = false := by decide) :
  QEM X (.Call (.Name x p) [] [] pos) (mFn F aNil) := by
 subst_eqs; apply @em_call0 <;> assumption
end
section
variable {X : Cx} {a b e c tg : Expr} {es : List Expr} {st : Stmt} {rest sts sts' : List Stmt} {f g : PSt -> M PF} {pos p pos' : Pos} {x : Str}
theorem Zaq : QBM X [] mSkip := by
 subst_eqs; apply @bm_nil <;> assumption
theorem Zag (h : QSM X st f) : QBM X [st] f := by
 subst_eqs; apply @bm_one <;> assumption
theorem Zaf (h : QSM X st f) (k : QBM X rest g) : QBM X (st :: rest) (mSeq f g) := by
 subst_eqs; apply @bm_cons <;> assumption
theorem Zax {t : PSt -> M Bool} (hc : QTMt X c t) (h : QBM X sts f) (k : QBM X sts' g) : QSM X (.If c sts sts' pos) (mIfS t f g) := by
 subst_eqs; apply @sm_if <;> assumption
theorem Zaj {f : PSt -> M SV} (h : QEM X e f) : QSM X (.Return (some e) pos) (mRet f) := by
 subst_eqs; apply @sm_ret <;> assumption
theorem ZbP {f : PSt -> M (List PV)} (h : QFM X e f) : QSM X (.Return (some e) pos) (mRetF f) := by
 subst_eqs; apply @sm_retF <;> assumption
theorem q_sm_expr {f : PSt -> M SV} (h : QEM X e f) (hs : swapsWith e none pos.line X.env = pure false := by rfl) : QSM X (.Expr e pos) (mDrop f) := by
 subst_eqs; apply @sm_expr <;> assumption
theorem Zap {i : Nat} {f : PSt -> M SV} (hN : X.N.Nodup) (hi : X.N[i]? = some x) (hx : Loc X.env.scope x) (h : QEM X e f) (hs : swapsWith e (some (.Name x pos')) pos.line X.env = pure false := by rfl)
  (hf : X.fn x = true \/ X.env.scope.names.lookup x = some .local := by first | exact .inl rfl | exact .inr rfl | assumption) : QSM X (.Assign [.Name x pos'] e pos) (mSet i f) := by
 subst_eqs; apply @sm_set <;> assumption
theorem q_sm_new {i : Nat} {f : PSt -> M (List PV)} (hN : X.N.Nodup) (hi : X.N[i]? = some x) (hx : Loc X.env.scope x) (h : QFM X e f) (hs : swapsWith e (some (.Name x pos')) pos.line X.env = pure false := by rfl)
  (hf : X.fn x = true \/ X.env.scope.names.lookup x = some .local := by first | exact .inl rfl | exact .inr rfl | assumption) : QSM X (.Assign [.Name x pos'] e pos) (mNew i f) := by
 subst_eqs; apply @sm_new <;> assumption
theorem Zas {x1} {fs : PSt -> M (List SV)} (h : QAM X es fs) : QEM X (.Tuple es x1 pos) (mTup fs) := by
 subst_eqs; apply @em_tup <;> assumption
theorem Zaz {fs : PSt -> M (List SV)} (h : QAM X es fs) : QFM X (.List es pos) (mLst fs) := by
 subst_eqs; apply @fm_lst <;> assumption
theorem Zaw {f : PSt -> M (List PV)} (h : QFM X e f) : QEM X e (mVal f) := by
 subst_eqs; apply @FM.em <;> assumption
theorem Zam {i : Nat} (hN : X.N.Nodup) (hi : X.N[i]? = some x) (hx : Loc X.env.scope x) (hf : X.fn x = true \/ X.env.scope.names.lookup x = some .local := by first | exact .inl rfl | exact .inr rfl | assumption) : QGM X (.Name x pos) (hName i) := by
 subst_eqs; apply @gm_name <;> assumption
theorem ZbQ : QGMs X [] hNil := by
 subst_eqs; apply @gms_nil <;> assumption
theorem Zar {g : PV -> PSt -> Option PSt} {gs : List PV -> PSt -> Option PSt} (h : QGM X e g) (k : QGMs X es gs) (hs : (assignEach (e :: es) X.env).map (·.2) = assign e X.env :: (assignEach es X.env).map (·.2) := by rfl) : QGMs X (e :: es) (hCons g gs) := by
 subst_eqs; apply @gms_cons <;> assumption
theorem Zcf {gs : List PV -> PSt -> Option PSt} {k n : Nat} (hc : X.calm = true) (h : QGMs X es gs) (hn : (assignEach es X.env).length = n := by rfl) (hst : (assignEach es X.env).findIdx? (·.1) = none := by rfl) : QGM X (.Tuple es k pos) (hTup gs n) := by
 subst_eqs; apply @gm_tup <;> assumption
theorem q_sm_asg {f : PSt -> M SV} {g : PV -> PSt -> Option PSt} (h : QEM X e f) (k : QGM X tg g) (hs : swapsWithSole [tg] e pos.line X.env = pure false := by rfl) (hw : swappedStores [tg] e X.env = pure none := by rfl)
  (h1 : (assignEach [tg] X.env).map (·.2) = [assign tg X.env] := by rfl) : QSM X (.Assign [tg] e pos) (mAsg f g) := by
 subst_eqs; apply @sm_asg <;> assumption
end
section
variable {X : Cx} {e tg iter elt : Expr} {es : List Expr} {body : List Stmt} {f : PSt -> M PF} {pos p : Pos} {x : Str}
theorem Zbv {it : PSt -> M (List PV)} {g : PV -> PSt -> Option PSt} (hp : PassesOwn (model X.prog X.w) X.A X.env X.xe) (hc : X.calm = true) (hi : QIM X tg iter it) (hg : QGM X tg g) (hb : QBM X body f)
  (hs : ∀ x, foldedSetIterable iter X.env x = pure x := by intro _; rfl) : QSM X (.For tg iter body [] pos) (mFor it g f) := by
 subst_eqs; apply @sm_for <;> assumption
section
variable {ifs : List Expr} {scope : Scope} {vs fs : List Str} {fr : List Nat} {it : PSt -> M (List PV)} {g : PV -> PSt -> Option PSt} {tt : PSt -> M Bool} {te : PSt -> M SV}
theorem Za3 : QTsM X [] tOk := by
 subst_eqs; apply @ts_nil <;> assumption
theorem ZaZ (S : CSc X scope vs fs fr) (hc : X.calm = true) (hi : QIM X tg iter it)
  (bG : ∀ C s₀ H₀ ex pn, QGM (CompCx X (vs ++ fs) scope C s₀ H₀ ex pn) tg g) (bT : ∀ C s₀ H₀ ex pn, QTsM (CompCx X (vs ++ fs) scope C s₀ H₀ ex pn) ifs tt) (bE : ∀ C s₀ H₀ ex pn, QEM (CompCx X (vs ++ fs) scope C s₀ H₀ ex pn) elt te)
  (hs : ∀ x, foldedSetIterable iter X.env x = pure x := by intro _; rfl) : QFM X (.ListComp elt [⟨tg, iter, ifs, 0⟩] scope pos) (mComp it vs fr g tt te) := by
 subst_eqs; apply @fm_comp <;> assumption
end
end
theorem q_fm_call {X : Cx} {e : Expr} {es : List Expr} {p pos : Pos} {x : Str} {k : Nat} {f : Addr} {fd : FuncData} {ps : List Str} {F : List SV -> M (List PV)} {fs : PSt -> M (List SV)} (G : FnOk X.prog X.w X.K X.mg X.base CX0 k f fd ps (liftSpF X.K F)) (hr : Room k X.A) (hg : Gl X x) (hm : X.mg x = some (.ref f)) (hk : W.keepIn X.K (.ref f) = true) (hb : L2.Binds X.K fd ps [])
  (ha : QAM X (e :: es) fs) (hdb : (x == ("__debug__" : Str)) = false := by decide) (he : starEach (e :: es) X.env = (false, eval e X.env) :: starEach es X.env := by rfl) (hpl : (backTo pos (starEach es X.env)).any (·.1) = false := by rfl) :
  QFM X (.Call (.Name x p) (e :: es) [] pos) (mFnF F fs) := by
 subst_eqs; apply @fm_call <;> assumption
section
variable {P : Program} {w : World} {K : W.Frag} {mg : Str -> Option Value} {base : Heap}
theorem Zao {x qual : Str} {st : Stmt} {f : Addr} {fd : FuncData} {N ps : List Str} {k : Nat} {body : PSt -> M PF} (F : Fun K x qual st f fd) (S : FnScope N ps (defScope st))
  (hbody : ∀ (cdv : Value) (A : Around) (outer : List Env) (s : Shared) (H : Hp) (E : XK), Room k (A.deeper (envOfC qual (defScope st) s.heap.objs.size f cdv)) ->
   QBM (cxOf CX0 P w K mg base N qual (defScope st) f cdv A outer s H E).nox (defBody st) body) : FnOk P w K mg base CX0 (k + 1) f fd ps (liftSp K (mDef ps.length (N.length - ps.length) body)) := by
 subst_eqs; apply @fn_mk <;> assumption
theorem q_fn_mkF {x qual : Str} {st : Stmt} {f : Addr} {fd : FuncData} {N ps : List Str} {k : Nat} {body : PSt -> M PF} (F : Fun K x qual st f fd) (S : FnScope N ps (defScope st))
  (hbody : ∀ (cdv : Value) (A : Around) (outer : List Env) (s : Shared) (H : Hp) (E : XK), Room k (A.deeper (envOfC qual (defScope st) s.heap.objs.size f cdv)) ->
   QBM (cxOf CX0 P w K mg base N qual (defScope st) f cdv A outer s H E).nox (defBody st) body) : FnOk P w K mg base CX0 (k + 1) f fd ps (liftSpF K (mDefF ps.length (N.length - ps.length) body)) := by
 subst_eqs; apply @fn_mkF <;> assumption
end
end Pu
namespace Pu
open PySem PySem.Spec L2
open PyProof.Rows hiding St Fr
section
variable {X : Cx}
variable {a b e c : Expr} {es : List Expr} {fa fb fc : PSt -> M SV} {pos p : Pos} {x : Str}
theorem ZaE (ha : QEM X a fa) (hb : QEM X b fb) : QEM X (.BinOp a .Add b pos) (mOp (g2 addP) fa fb) := by
 subst_eqs; apply @em_add <;> assumption
theorem q_em_sub (ha : QEM X a fa) (hb : QEM X b fb) : QEM X (.BinOp a .Sub b pos) (mOp (g2 subP) fa fb) := by
 subst_eqs; apply @em_sub <;> assumption
theorem Za4 (ha : QEM X a fa) (hb : QEM X b fb) : QEM X (.BinOp a .Mult b pos) (mOp (g2 mulP) fa fb) := by
 subst_eqs; apply @em_mul <;> assumption
theorem ZaN (ha : QEM X a fa) (hb : QEM X b fb) : QEM X (.BinOp a .Mod b pos) (mOp (g2 modP) fa fb) := by
 subst_eqs; apply @em_mod <;> assumption
theorem q_em_fdiv (ha : QEM X a fa) (hb : QEM X b fb) : QEM X (.BinOp a .FloorDiv b pos) (mOp (g2 fdivP) fa fb) := by
 subst_eqs; apply @em_fdiv <;> assumption
theorem Zbd (ha : QEM X a fa) (hb : QEM X b fb) : QEM X (.BinOp a .Pow b pos) (mOp (g2 powP) fa fb) := by
 subst_eqs; apply @em_pow <;> assumption
theorem q_em_neg (ha : QEM X a fa) : QEM X (.UnaryOp .USub a pos) (mNeg fa) := by
 subst_eqs; apply @em_neg <;> assumption
end
section
variable {X : Cx} {a b e c o : Expr} {es : List Expr} {fa fb fc fo : PSt -> M SV} {fs : PSt -> M (List SV)} {pos p apos cpos : Pos} {x : Str}
theorem ZaR (hgl : Gl X "isinstance") (hm : X.mg "isinstance" = none) (hv : bootBuiltins "isinstance" = some (.builtin "isinstance")) (ha : QAM X (e :: es) fs)
  (he : starEach (e :: es) X.env = (false, eval e X.env) :: starEach es X.env := by rfl) (hpl : (backTo pos (starEach es X.env)).any (·.1) = false := by rfl) : QEM X (.Call (.Name "isinstance" p) (e :: es) [] pos) (mCB (g1 isiH) fs) := by
 subst_eqs; apply @em_isi <;> assumption
theorem ZaI (hgl : Gl X "len") (hm : X.mg "len" = none) (ha : QAM X (e :: es) fs)
  (he : starEach (e :: es) X.env = (false, eval e X.env) :: starEach es X.env := by rfl) (hpl : (backTo pos (starEach es X.env)).any (·.1) = false := by rfl) : QEM X (.Call (.Name "len" p) (e :: es) [] pos) (mCB (g1 lenH) fs) := by
 subst_eqs; apply @em_len <;> assumption
theorem q_em_max (hc : X.calm = true) (hgl : Gl X "max") (hm : X.mg "max" = none) (hv : bootBuiltins "max" = some (.builtin "max")) (ha : QAM X (e :: es) fs)
  (he : starEach (e :: es) X.env = (false, eval e X.env) :: starEach es X.env := by rfl) (hpl : (backTo pos (starEach es X.env)).any (·.1) = false := by rfl) : QEM X (.Call (.Name "max" p) (e :: es) [] pos) (mCB (g1 maxH) fs) := by
 subst_eqs; apply @em_max <;> assumption
theorem Zcr (hgl : Gl X "int") (hm : X.mg "int" = none) (hv : bootBuiltins "int" = some (.type "int")) (ha : QAM X (e :: es) fs)
  (he : starEach (e :: es) X.env = (false, eval e X.env) :: starEach es X.env := by rfl) (hpl : (backTo pos (starEach es X.env)).any (·.1) = false := by rfl) : QEM X (.Call (.Name "int" p) (e :: es) [] pos) (mCB (g1 intH) fs) := by
 subst_eqs; apply @em_intc <;> assumption
theorem q_em_tupc (hgl : Gl X "tuple") (hm : X.mg "tuple" = none) (hv : bootBuiltins "tuple" = some (.type "tuple")) (ha : QAM X (e :: es) fs)
  (he : starEach (e :: es) X.env = (false, eval e X.env) :: starEach es X.env := by rfl) (hpl : (backTo pos (starEach es X.env)).any (·.1) = false := by rfl) : QEM X (.Call (.Name "tuple" p) (e :: es) [] pos) (mCB (g1 tupH) fs) := by
 subst_eqs; apply @em_tupc <;> assumption
theorem ZcM (hgl : Gl X "list") (hm : X.mg "list" = none) (hv : bootBuiltins "list" = some (.type "list")) (ha : QAM X (e :: es) fs)
  (he : starEach (e :: es) X.env = (false, eval e X.env) :: starEach es X.env := by rfl) (hpl : (backTo pos (starEach es X.env)).any (·.1) = false := by rfl) : QFM X (.Call (.Name "list" p) (e :: es) [] pos) (mList fs) := by
 subst_eqs; apply @fm_listc <;> assumption
theorem Zbx (hc : X.calm = true) (hgl : Gl X "all") (hm : X.mg "all" = none) (hv : bootBuiltins "all" = some (.builtin "all")) (ha : QAM X (e :: es) fs)
  (he : starEach (e :: es) X.env = (false, eval e X.env) :: starEach es X.env := by rfl) (hpl : (backTo pos (starEach es X.env)).any (·.1) = false := by rfl) : QEM X (.Call (.Name "all" p) (e :: es) [] pos) (mCB (g1 allH) fs) := by
 subst_eqs; apply @em_all <;> assumption
end
section
variable {X : Cx} {a b e c o i : Expr} {es : List Expr} {fa fb fc fo fi fv : PSt -> M SV} {fs : PSt -> M (List SV)} {pos p apos cpos : Pos} {x : Str}
theorem q_em_append (ho : QEM X o fo) (ha : QAM X (e :: es) fs) (hbase : attributeBase o "append" X.env (eval o X.env) = eval o X.env := by rfl)
  (hfew : ((backTo cpos (starEach (e :: es) X.env)).all (fun x => !x.1) && (backToKw cpos (keywordEach [] X.env)).all (fun x => x.1.isSome)
   && decide ((e :: es).length + ([] : List Keyword).length + (if ([] : List Keyword).isEmpty then 0 else 1) < 30)) = true := by rfl)
  (hline : (apos.endLine == cpos.line) = true := by rfl) (hs : starEach (e :: es) X.env = (false, eval e X.env) :: starEach es X.env := by rfl) (hplain : (backTo cpos (starEach es X.env)).any (·.1) = false := by rfl) :
  QEM X (.Call (.Attribute o "append" apos) (e :: es) [] cpos) (mApp fo fs) := by
 subst_eqs; apply @em_append <;> assumption
theorem ZcL {spos : Pos} (hv : QEM X e fv) (ho : QEM X o fo) (hi : QEM X i fi)
  (ha : ∀ v, assign (.Subscript o i spos) X.env v = (do
   let ov ← holding [v] (eval o X.env)
   let iv ← holding [v, ov] (eval i X.env)
   standAt spos
   holding [v, ov, iv] (setItem ov iv v)
   release [v, ov, iv] []) := by intro _; rfl)
  (hs : swapsWithSole [.Subscript o i spos] e pos.line X.env = pure false := by rfl) (hw : swappedStores [.Subscript o i spos] e X.env = pure none := by rfl)
  (h1 : (assignEach [.Subscript o i spos] X.env).map (·.2) = [assign (.Subscript o i spos) X.env] := by rfl) : QSM X (.Assign [.Subscript o i spos] e pos) (mSetIx fv fo fi) := by
 subst_eqs; apply @sm_setix <;> assumption
variable {tg l : Expr}
theorem Za7 (hl : QEM X l fa) : QIM X tg l (mItems fa) := by
 subst_eqs; apply @im_val <;> assumption
theorem Zbo (hg : Gl X "range") (hm : X.mg "range" = none) (ha : QAM X [a] fs) (hs : starEach [a] X.env = [(false, eval a X.env)] := by rfl) : QIM X tg (.Call (.Name "range" p) [a] [] pos) (mRange1 fs) := by
 subst_eqs; apply @im_range1 <;> assumption
theorem q_im_range2 (hg : Gl X "range") (hm : X.mg "range" = none) (ha : QAM X [a, b] fs) (hs : starEach [a, b] X.env = [(false, eval a X.env), (false, eval b X.env)] := by rfl) (hs2 : starEach [b] X.env = [(false, eval b X.env)] := by rfl) : QIM X tg (.Call (.Name "range" p) [a, b] [] pos) (mRange2 fs) := by
 subst_eqs; apply @im_range2 <;> assumption
end
section
variable {X : Cx} {a b e c o i : Expr} {es : List Expr} {fa fb fc fo fi fv : PSt -> M SV} {fs : PSt -> M (List SV)} {pos p apos cpos p2 : Pos} {x : Str} {lo hi : Option Expr} {l h : PSt -> M (Option Int)}
theorem ZaX : QOM X none oNo := by
 subst_eqs; apply @om_none <;> assumption
theorem ZaO (he : QEM X e fa) : QOM X (some e) (oPart fa) := by
 subst_eqs; apply @om_some <;> assumption
theorem ZaM (he : QEM X e fa) (hl : QOM X lo l) (hh : QOM X hi h) : QEM X (.Subscript e (.Slice lo hi none p2) pos) (mSlice fa l h) := by
 subst_eqs; apply @em_slice <;> assumption
end
section
variable {X : Cx} {a b e c o i : Expr} {es : List Expr} {fa fb fc fo fi fv : PSt -> M SV} {fs : PSt -> M (List SV)} {pos p apos cpos p2 : Pos} {x : Str}
theorem q_em_join (ho : QEM X o fo) (ha : QAM X (e :: es) fs) (hbase : attributeBase o "join" X.env (eval o X.env) = eval o X.env := by rfl)
  (hfew : ((backTo cpos (starEach (e :: es) X.env)).all (fun x => !x.1) && (backToKw cpos (keywordEach [] X.env)).all (fun x => x.1.isSome)
   && decide ((e :: es).length + ([] : List Keyword).length + (if ([] : List Keyword).isEmpty then 0 else 1) < 30)) = true := by rfl)
  (hline : (apos.endLine == cpos.line) = true := by rfl) (hs : starEach (e :: es) X.env = (false, eval e X.env) :: starEach es X.env := by rfl) (hplain : (backTo cpos (starEach es X.env)).any (·.1) = false := by rfl) :
  QEM X (.Call (.Attribute o "join" apos) (e :: es) [] cpos) (mMt "str" joinH fo fs) := by
 subst_eqs; apply @em_join <;> assumption
theorem q_em_strip (ho : QEM X o fo) (ha : QAM X (e :: es) fs) (hbase : attributeBase o "strip" X.env (eval o X.env) = eval o X.env := by rfl)
  (hfew : ((backTo cpos (starEach (e :: es) X.env)).all (fun x => !x.1) && (backToKw cpos (keywordEach [] X.env)).all (fun x => x.1.isSome)
   && decide ((e :: es).length + ([] : List Keyword).length + (if ([] : List Keyword).isEmpty then 0 else 1) < 30)) = true := by rfl)
  (hline : (apos.endLine == cpos.line) = true := by rfl) (hs : starEach (e :: es) X.env = (false, eval e X.env) :: starEach es X.env := by rfl) (hplain : (backTo cpos (starEach es X.env)).any (·.1) = false := by rfl) :
  QEM X (.Call (.Attribute o "strip" apos) (e :: es) [] cpos) (mMt "str" stripH fo fs) := by
 subst_eqs; apply @em_strip <;> assumption
theorem q_em_index (ho : QEM X o fo) (ha : QAM X (e :: es) fs) (hbase : attributeBase o "index" X.env (eval o X.env) = eval o X.env := by rfl)
  (hfew : ((backTo cpos (starEach (e :: es) X.env)).all (fun x => !x.1) && (backToKw cpos (keywordEach [] X.env)).all (fun x => x.1.isSome)
   && decide ((e :: es).length + ([] : List Keyword).length + (if ([] : List Keyword).isEmpty then 0 else 1) < 30)) = true := by rfl)
  (hline : (apos.endLine == cpos.line) = true := by rfl) (hs : starEach (e :: es) X.env = (false, eval e X.env) :: starEach es X.env := by rfl) (hplain : (backTo cpos (starEach es X.env)).any (·.1) = false := by rfl) :
  QEM X (.Call (.Attribute o "index" apos) (e :: es) [] cpos) (mMt "list" indexH fo fs) := by
 subst_eqs; apply @em_index <;> assumption
theorem Zak (hu : X.A.units + 1 < cLine) (ha : QEM X a fa) (hb : QEM X b fb) (hs : PlainIx b := by exact fun _ _ => rfl) : QEM X (.Subscript a b pos) (mOp (g2 ixQ) fa fb) := by
 subst_eqs; apply @em_ixA <;> assumption
theorem q_em_get1 (ho : QEM X o fo) (ha : QAM X (e :: es) fs) (hbase : attributeBase o "get" X.env (eval o X.env) = eval o X.env := by rfl)
  (hfew : ((backTo cpos (starEach (e :: es) X.env)).all (fun x => !x.1) && (backToKw cpos (keywordEach [] X.env)).all (fun x => x.1.isSome)
   && decide ((e :: es).length + ([] : List Keyword).length + (if ([] : List Keyword).isEmpty then 0 else 1) < 30)) = true := by rfl)
  (hline : (apos.endLine == cpos.line) = true := by rfl) (hs : starEach (e :: es) X.env = (false, eval e X.env) :: starEach es X.env := by rfl) (hplain : (backTo cpos (starEach es X.env)).any (·.1) = false := by rfl) :
  QEM X (.Call (.Attribute o "get" apos) (e :: es) [] cpos) (mMt "dict" getH fo fs) := by
 subst_eqs; apply @em_get1 <;> assumption
theorem q_dm_nil : QDM X [] [] [] aNil := by
 subst_eqs; apply @dm_nil <;> assumption
theorem Za5 {k : Str} {j1 : Nat} {p1 : Pos} {ks : List (Option Expr)} {keys : List Str} (h : QEM X e fa) (t : QDM X ks es keys fs) : QDM X (some (.Constant (.str k) j1 p1) :: ks) (e :: es) (k :: keys) (aCons fa fs) := by
 subst_eqs; apply @dm_cons <;> assumption
theorem q_em_dict {ks : List (Option Expr)} {keys : List Str} (h : QDM X ks es keys fs) (nd : (keys.map (Sum.inr : Str -> Key)).Nodup) (hall : ks.all (·.isSome) = true) (hl : ks.length = es.length) (h0 : ks ≠ []) (hlen : ks.length <= 15) (hk : keys.length = ks.length) :
  QEM X (.Dict ks es pos) (mDict keys fs) := by
 subst_eqs; apply @em_dict <;> assumption
end
section
variable {X : Cx} {a b e c o i : Expr} {es : List Expr} {fa fb fc fo fi fv : PSt -> M SV} {fs : PSt -> M (List SV)} {pos p apos cpos p2 : Pos} {x : Str} {d : Addr} {tab : List (Str × Addr)}
theorem q_em_top (hg : Gl X x) (hm : X.mg x = some (.ref d)) (hd : (x == ("__debug__" : Str)) = false := by decide) : QEM X (.Name x pos) (mC (.fn d)) := by
 subst_eqs; apply @em_top <;> assumption
theorem q_em_topix (T : TopD X.K X.w d tab) (ha : QEM X a fa) (hb : QEM X b fb) (hs : PlainIx b := by exact fun _ _ => rfl) : QEM X (.Subscript a b pos) (mOp (topG d tab) fa fb) := by
 subst_eqs; apply @em_topix <;> assumption
theorem q_em_callV {k : Nat} {T : List (Addr × (List SV -> M SV))} (i : Nat) (hok : ∀ a F, T.lookup a = some F -> ∃ fd ps, FnOk X.prog X.w X.K X.mg X.base CX0 k a fd ps (liftSp X.K F) /\ W.keepIn X.K (.ref a) = true /\ L2.Binds X.K fd ps []) (hr : Room k X.A) (ha : QAM X (e :: es) fs)
  (hN : X.N[i]? = some x := by rfl) (hv : Vis X.env.scope x := by first | exact Or.inl rfl | exact Or.inr (Or.inl rfl) | exact Or.inr (Or.inr rfl)) (hdb : (x == ("__debug__" : Str)) = false := by decide) (hcd : (x == ("__classdict__" : Str)) = false := by decide)
  (he : starEach (e :: es) X.env = (false, eval e X.env) :: starEach es X.env := by rfl) (hpl : (backTo pos (starEach es X.env)).any (·.1) = false := by rfl) :
  QEM X (.Call (.Name x p) (e :: es) [] pos) (mCallV i T fs) := by
 subst_eqs; apply @em_callV <;> assumption
theorem ZcO : QEM X (.Dict [] [] pos) mDict0 := by
 subst_eqs; apply @em_dict0 <;> assumption
end
theorem q_im_zip {X : Cx} {a b : Expr} {fs : PSt -> M (List SV)} {elts : List Expr} {x1 : Nat} {tpos p pos : Pos} (hg : Gl X "zip") (hm : X.mg "zip" = none) (ha : QAM X [a, b] fs)
  (hs : starEach [a, b] X.env = [(false, eval a X.env), (false, eval b X.env)] := by rfl) (hs2 : starEach [b] X.env = [(false, eval b X.env)] := by rfl) : QIM X (.Tuple elts x1 tpos) (.Call (.Name "zip" p) [a, b] [] pos) (mZip fs) := by
 subst_eqs; apply @im_zip <;> assumption
end Pu
namespace Pu
open PySem PySem.Spec PySem.W PySem.Calls L2 PySem.SeqAt
open PyProof.Rows hiding St Fr
section
variable {X : Cx}
theorem Zb6 {e : Expr} {es : List Expr} {fs : PSt -> M (List SV)} {p pos : Pos} (hcm : X.calm = true) (hu : X.A.units + 64 < cLine) (hgl : Gl X "sorted") (hm : X.mg "sorted" = none) (hv : bootBuiltins "sorted" = some (.builtin "sorted")) (ha : QAM X (e :: es) fs)
  (he : starEach (e :: es) X.env = (false, eval e X.env) :: starEach es X.env := by rfl) (hpl : (backTo pos (starEach es X.env)).any (·.1) = false := by rfl) : QFM X (.Call (.Name "sorted" p) (e :: es) [] pos) (mSorted2 fs) := by
 subst_eqs; apply @fm_sorted2 <;> assumption
end
section
variable {X : Cx} {e o i : Expr} {es : List Expr} {fs : PSt -> M (List SV)} {p pos pos' : Pos} {x : Str} {fv fo fi : PSt -> M SV}
theorem q_em_dictP (hcm : X.calm = true) (hu : X.A.units + 64 < cLine) (hgl : Gl X "dict") (hm : X.mg "dict" = none) (hv : bootBuiltins "dict" = some (.type "dict")) (ha : QAM X (e :: es) fs)
  (he : starEach (e :: es) X.env = (false, eval e X.env) :: starEach es X.env := by rfl) (hpl : (backTo pos (starEach es X.env)).any (·.1) = false := by rfl) : QEM X (.Call (.Name "dict" p) (e :: es) [] pos) (mCB dictPH fs) := by
 subst_eqs; apply @em_dictP <;> assumption
theorem q_sm_newT {n : Nat} {dpos : Pos} (hN : X.N.Nodup) (hi : X.N[n]? = some x) (hx : Loc X.env.scope x) (hs : swapsWith (.Dict [] [] dpos) (some (.Name x pos')) pos.line X.env = pure false := by rfl)
  (hf : X.fn x = true \/ X.env.scope.names.lookup x = some .local := by first | exact .inl rfl | exact .inr rfl | assumption) : QSM X (.Assign [.Name x pos'] (.Dict [] [] dpos) pos) (mNewT n) := by
 subst_eqs; apply @sm_newT <;> assumption
theorem q_sm_setixT {spos : Pos} (hu : X.A.units + 64 < cLine) (hv : QEM X e fv) (ho : QEM X o fo) (hi : QEM X i fi)
  (hs : swapsWith e (some (.Subscript o i spos)) pos.line X.env = pure false := by rfl) : QSM X (.Assign [.Subscript o i spos] e pos) (mSetIxT fv fo fi) := by
 subst_eqs; apply @sm_setixT <;> assumption
end
end Pu
namespace Hd
open PySem PySem.W PySem.Spec PySem.Calls L2 Pu
open PyProof.Rows hiding St Fr
noncomputable def kf (h : Heap) (as : List Addr) : Frag := as.filterMap fun a => (h.get? a).map fun o => (a, o)
theorem kf_get {h : Heap} : ∀ {as : List Addr} {a : Addr} {o : Obj}, (kf h as).lookup a = some o -> h.get? a = some o
 | [], _, _, e => by cases e
 | b :: as, a, o, e => by
  unfold kf at e
  rw [List.filterMap_cons] at e
  cases g : h.get? b with
  | none => rw [g] at e; exact kf_get e
  | some p =>
   rw [g] at e
   simp only [Option.map_some, List.lookup_cons] at e
   by_cases q : a = b
   ·subst q; rw [beq_self_eq_true] at e; cases e; exact g
   ·rw [beq_eq_false_iff_ne.mpr q] at e; exact kf_get e
theorem kf_in (h : Heap) (as : List Addr) : (kf h as).In h := fun _ _ e => kf_get e
theorem kf_at {h : Heap} {a : Addr} {o : Obj} (g : h.get? a = some o) : ∀ {as : List Addr}, a ∈ as -> (kf h as).lookup a = some o
 | [], m => by cases m
 | b :: as, m => by
  unfold kf
  rw [List.filterMap_cons]
  by_cases q : a = b
  ·subst q; rw [g]; simp
  ·have m' : a ∈ as := (List.mem_cons.mp m).resolve_left q
   cases g' : h.get? b with
   | none => exact kf_at g m'
   | some p =>
    simp only [Option.map_some, List.lookup_cons]
    rw [beq_eq_false_iff_ne.mpr q]
    exact kf_at g m'
noncomputable def At (mg : Str -> Option Value) (h : Heap) (as : List Addr) (d : DefRec) : Prop := ∃ (a c : Addr) (o : Obj) (pm doc : Value), mg d.name = some (.ref a) /\ h.get? a = some o /\ o.data = .func (docDef d.name d.params d.body d.scope pm (.ref c) doc) /\ h.CodeRec (.ref c) d.name /\ a ∈ as /\ c ∈ as
theorem at_all {mg : Str -> Option Value} {h : Heap} (as0 : List Addr) : ∀ ds : List DefRec, (∀ d ∈ ds, ∃ a o pm code doc, mg d.name = some (.ref a) /\ h.get? a = some o /\ o.data = .func (docDef d.name d.params d.body d.scope pm code doc) /\ h.CodeRec code d.name) ->
  ∃ as : List Addr, (∀ a ∈ as0, a ∈ as) /\ ∀ d ∈ ds, At mg h as d
 | [], _ => ⟨as0, fun _ m => m, fun _ m => nomatch m⟩
 | d :: ds, T => by
  obtain ⟨as, h0, ih⟩ := at_all as0 ds fun e m => T e (.tail _ m)
  obtain ⟨a, o, pm, cd, doc, h1, h2, h3, h4⟩ := T d (.head _)
  obtain ⟨c, oc, vs, t, rfl, r⟩ := h4
  refine ⟨a :: c :: as, fun b m => .tail _ (.tail _ (h0 b m)), fun e m => ?_⟩
  rcases List.mem_cons.mp m with rfl | m
  ·exact ⟨a, c, o, pm, doc, h1, h2, h3, ⟨c, oc, vs, t, rfl, r⟩, .head _, .tail _ (.head _)⟩
  ·obtain ⟨a', c', o', pm', doc', q1, q2, q3, q4, q5, q6⟩ := ih e m
   exact ⟨a', c', o', pm', doc', q1, q2, q3, q4, .tail _ (.tail _ q5), .tail _ (.tail _ q6)⟩
noncomputable def FnAt (K : Frag) (mg : Str -> Option Value) (x : Str) (st : Stmt) : Prop := ∃ f fd, mg x = some (.ref f) /\ Fun K x x st f fd
noncomputable def four (d : DefRec) : Str × Arguments × List Stmt × Scope := (d.name, d.params, d.body, d.scope)
noncomputable def fourS (p : Str × Stmt) : Str × Arguments × List Stmt × Scope := (p.1, defArgs p.2, defBody p.2, defScope p.2)
theorem fn_at {mg : Str -> Option Value} {h : Heap} {as : List Addr} {ds : List DefRec} {sts : List (Str × Stmt)} (A : ∀ d ∈ ds, At mg h as d) (es : ds.map four = sts.map fourS) (i : Nat) {x : Str} {st : Stmt} (e : sts[i]? = some (x, st)) : FnAt (kf h as) mg x st := by
 have q : (ds.map four)[i]? = some (fourS (x, st)) := by rw [es, List.getElem?_map, e]; rfl
 obtain ⟨d, e', q⟩ := Option.map_eq_some_iff.mp ((List.getElem?_map ..).symm.trans q)
 obtain ⟨n, ps, b, sc, p⟩ := d
 obtain ⟨rfl, q⟩ := Prod.mk.inj q
 obtain ⟨q1, q⟩ := Prod.mk.inj q
 obtain ⟨q2, q3⟩ := Prod.mk.inj q
 dsimp only at q1 q2 q3
 subst q1 q2 q3
 obtain ⟨a, c, o, pm, doc, h1, h2, h3, h4, h5, h6⟩ := A _ (List.mem_of_getElem? e')
 obtain ⟨c', oc, vs, t, e1, g, hd, hv⟩ := h4
 cases e1
 obtain ⟨cl, dd, dt, sl⟩ := o
 cases (show dt = _ from h3)
 have k1 := kf_at h2 h5
 have k2 := kf_at g h6
 refine ⟨a, _, h1, fun_mk (oc := cl) (od := dd) (osl := sl) (kV := .none) (doc := doc) (pm := pm) (an := none) (ct := .none) (cdv := .ref c) k1 ?_ ?_⟩
 ·obtain ⟨ocl, odd, odt, osl⟩ := oc
  cases (show odt = _ from hd)
  unfold codeIn
  dsimp only
  rw [k2]
  obtain ⟨l⟩ := vs
  match l, hv with
  | _ :: v :: r, hv =>
   cases (show v = _ by simpa using hv)
   simp
 ·unfold keepIn
  dsimp only
  rw [k1]
theorem int_of {mg : Str -> Option Value} {x : Str} {i : Int} (h : ∃ v, mg x = some v /\ ∀ h' : Heap, Reads h' v (.int i) []) : ∃ t, mg x = some (.int i t) := by
 obtain ⟨v, e, r⟩ := h
 cases r default
 exact ⟨_, e⟩
theorem str_of {mg : Str -> Option Value} {x y : Str} (h : ∃ v, mg x = some v /\ ∀ h' : Heap, Reads h' v (.str y) []) : ∃ t, mg x = some (.str y t) := by
 obtain ⟨v, e, r⟩ := h
 cases r default
 exact ⟨_, e⟩
noncomputable def seenTab (names : List Str) (tas : List Addr) (h : Heap) : Option (List (Option (Option Value))) × List (Option Obj) :=
 ((h.get? mainGlobals).map fun om => names.map (nsIn [(mainGlobals, om)] mainGlobals), tas.map h.get?)
noncomputable def tabHook (names : List Str) (vals : List (Option (Option Value))) (tas : List Addr) (tos : Params -> List Obj) : Hook where
 α := Option (List (Option (Option Value))) × List (Option Obj)
 obs := fun s => seenTab names tas s.heap
 val := fun w => (some vals, (tos w.params).map some)
 says := fun w h => (∃ om, h.get? mainGlobals = some om /\ names.map (nsIn [(mainGlobals, om)] mainGlobals) = vals) /\ tas.map h.get? = (tos w.params).map some
 of := fun w s e => by
  obtain ⟨e1, e2⟩ := Prod.mk.inj e
  obtain ⟨om, g, e⟩ := Option.map_eq_some_iff.mp e1
  exact ⟨⟨om, g, e⟩, e2⟩
 keeps := fun w h h' ⟨⟨om, g, e⟩, e2⟩ k => by
  refine ⟨⟨om, k _ _ g, e⟩, ?_⟩
  rw [← e2]
  refine List.map_congr_left fun a m => ?_
  have : ∃ o, h.get? a = some o := by
   have m2 : h.get? a ∈ tas.map h.get? := List.mem_map_of_mem m
   rw [e2] at m2
   obtain ⟨o, _, q⟩ := List.mem_map.mp m2
   exact ⟨o, q.symm⟩
  obtain ⟨o, q⟩ := this
  rw [q, k _ _ q]
theorem tab_mg {h : Heap} {mg : Str -> Option Value} (G : h.Ns mainGlobals mg) {names : List Str} {vals : List (Option (Option Value))} (Y : ∃ om, h.get? mainGlobals = some om /\ names.map (nsIn [(mainGlobals, om)] mainGlobals) = vals) (i : Nat) {x : Str} {v : Value}
  (e1 : names[i]? = some x) (e2 : vals[i]? = some (some (some v))) : mg x = some v := by
 obtain ⟨om, g, e⟩ := Y
 refine mg_of (K := [(mainGlobals, om)]) (fun a o q => ?_) G ?_
 ·rw [List.lookup_cons] at q
  by_cases z : a = mainGlobals
  ·subst z; rw [beq_self_eq_true] at q; cases q; exact g
  ·rw [beq_eq_false_iff_ne.mpr z] at q; cases q
 ·rw [← e, List.getElem?_map, e1] at e2
  simpa using e2
theorem tab_at {h : Heap} {tas : List Addr} {tos : List Obj} (e : tas.map h.get? = tos.map some) (i : Nat) {a : Addr} {o : Obj} (e1 : tas[i]? = some a) (e2 : tos[i]? = some o) : h.get? a = some o := by
 have q := congrArg (fun l : List (Option Obj) => l[i]?) e
 simp only [List.getElem?_map, e1, e2, Option.map_some] at q
 exact Option.some.inj q
noncomputable def defPos (s : Stmt) : Pos := match s with
 | .FunctionDef _ _ _ _ _ _ _ _ _ p => p
 | _ => ⟨0, 0, 0, 0⟩
noncomputable def isHere (p : Program) (loose : List Str) (x : Str) : Bool := startupNames.contains x || loose.contains x || ((recsOf p).map (·.name)).contains x || ((litsOf p).map (·.1)).contains x || ((clssOf p loose).map (·.name)).contains x
theorem nones {p : Program} {loose : List Str} {mean : ExcName -> Option Value} {mg mb : Str -> Option Value} {h : Heap} (T : Top p loose mean mg mb h) {xs : List Str} (e : xs.all (fun x => !isHere p loose x) = true) (i : Nat) {x : Str} (hx : xs[i]? = some x) : mg x = none := by
 have q := List.all_eq_true.mp e x (List.mem_of_getElem? hx)
 unfold isHere at q
 simp only [Bool.not_or, Bool.and_eq_true, Bool.not_eq_true', List.contains_eq_mem, decide_eq_false_iff_not] at q
 exact T.free x q.1.1.1.1 q.1.1.1.2 q.1.1.2 q.1.2 q.2
noncomputable def spLaw (K : Frag) : Sp := fun vs H Q _ => ∃ (a : Addr) (ns : List Int), vs = [.ref a] /\ SqL K H a (ns.map V.int) /\ ns.length <= 63 /\ ∀ H', Q (.bl true) H'
theorem reps_ints {K : Frag} {ι : List Addr} {H : Hp} : ∀ ns : List Int, Reps K ι H (ns.map PV.int) (ns.map V.int)
 | [] => by unfold Reps; rfl
 | n :: ns => by
  rw [List.map_cons, List.map_cons]; unfold Reps
  exact ⟨_, _, rfl, by unfold Rep; rfl, reps_ints ns⟩
theorem spLaw_lift {K : Frag} {F : List SV -> M SV} (hF : ∀ ns : List Int, ns.length <= 63 -> F [.v (.lst (ns.map .int))] [] = some (.v (.bl true), [])) (vs : List V) (H : Hp) (Q : VK) (E : XK) (h : spLaw K vs H Q E) : liftSp K F vs H Q E := by
 obtain ⟨a, ns, rfl, hS, hl, hQ⟩ := h
 refine ⟨[], [.v (.lst (ns.map .int))], [], .v (.bl true), [], ⟨rfl, List.nodup_nil, fun k a c e => by cases e⟩, ?_, hF ns hl, fun v H' _ _ r => ?_⟩
 ·unfold RepSs
  refine ⟨_, _, rfl, ?_, by unfold RepSs; rfl⟩
  unfold RepS Rep
  refine ⟨a, _, rfl, ?_, reps_ints ns⟩
  rcases hS with h | h
  ·exact .inl ⟨List.not_mem_nil, h⟩
  ·exact .inr h
 ·have e : v = .bl true := by unfold RepS Rep at r; exact r
  subst e; exact hQ H'
theorem walk {l : OpenLaw} {k : Nat} {q : Program} {loose : List Str} {XP : (Str -> Option Value) -> Heap -> Prop} {YP : World -> Heap -> Prop} {d : DefRec} (hn : l.most = some 63) (hdf : d.params.defaults = []) (hr : Room k callerA) (as0 : List Addr)
  (F : ∀ (w : World) (s₀ : Shared) (mg mb : Str -> Option Value) (h : Heap) (as : List Addr), Ground q loose [] XP w s₀ mg mb h -> YP w h -> (∀ a ∈ as0, a ∈ as) -> (∀ d ∈ recsOf q, At mg h as d) -> ∀ fa : Addr, mg d.name = some (.ref fa) ->
   ∃ fd : FuncData, (∀ (s : Shared) (u : Value), BindsTo s fd ⟨[u], []⟩ [("_law_script", u)]) /\ ∀ base : Heap, FnOk l.prog w (kf h as) mg base CX0 k fa fd ["_law_script"] (spLaw (kf h as))) :
  WalkO q loose XP YP l.row.toRowW d [] (fun f vs => PySem.call f vs) := by
 refine Att.attach_call hn hdf fun w s₀ s₁ mg mb fa o pm cd doc a vs ns G Y ho hd hcd hmg hobj hints hlen hg => ?_
 obtain ⟨as, h0, A⟩ := at_all as0 (recsOf q) G.T.fn
 obtain ⟨fd, hb, hF⟩ := F w s₀ mg mb _ as G Y h0 A fa hmg
 exact law_call (kf_in s₁.heap as) G.T.g G.T.b G.T.builtins G.T.nolimit hg hobj hints (Nat.le_trans hlen (by decide)) hr (fun base _ _ => hF base) hb (fun H hO hS => ⟨a, ns, rfl, hS, hlen, fun _ => rfl⟩) fun H e s' z => z
end Hd
namespace K13
open PySem PySem.Spec L2 Pu
open PyProof.Rows hiding St Fr
noncomputable def ZaB (f_qbp f_qbz f_qby f_qbw f_qbx : Addr) : List (Str × Addr) := [("join", f_qbp), ("say", f_qbz), ("do", f_qby), ("free", f_qbw), ("ready", f_qbw), ("hand", f_qbx), ("quit", f_qbw), ("note", f_qbp)]
noncomputable abbrev B_qbu : PSt -> M PF := (mRet (mAndV (mCB (g1 isiH) (aCons (mVar 0) (aCons (mC (.ty "int")) aNil))) (mAndV (mNotV (mCB (g1 isiH) (aCons (mVar 0) (aCons (mC (.ty "bool")) aNil)))) (mOp (g2 geP) (mVar 0) (mVar 1)))))
noncomputable def F_qbu : List SV -> M SV := mDef 2 0 (B_qbu)
noncomputable abbrev B_qbv : PSt -> M PF := (mRet (mAndV (mFn F_qbu (aCons (mVar 0) (aCons (mC (.int 0)) aNil))) (mOp (g2 ltP) (mVar 0) (mVar 1))))
noncomputable def F_qbv : List SV -> M SV := mDef 2 0 (B_qbv)
noncomputable abbrev B_qca : PSt -> M PF := (mRet (mAndV (mCB (g1 isiH) (aCons (mVar 0) (aCons (mC (.ty "tuple")) aNil))) (mChain (g2 leP) (g2 leP) (mVar 1) (mCB (g1 lenH) (aCons (mVar 0) aNil)) (mVar 2))))
noncomputable def F_qca : List SV -> M SV := mDef 3 0 (B_qca)
noncomputable abbrev B_qcb : PSt -> M PF := (mSeq (mIfS (mOrT (mNotT (mTru (mCB (g1 isiH) (aCons (mVar 0) (aCons (mC (.ty "str")) aNil))))) (mNotT (mTest (mChain (g2 leP) (g2 leP) (mC (.int 1)) (mCB (g1 lenH) (aCons (mVar 0) aNil)) (mC (.int 12)))))) (mRet (mC (.bl false))) mSkip) (mRet (mCB (g1 allH) (aCons (mVal (mComp (mItems (mVar 0)) ["sign"] [] (hName 0) tOk (mOp (g2 inP) (mVar 0) (mC (.str "abcdefghijklmnopqrstuvwxyz"))))) aNil))))
noncomputable def F_qcb : List SV -> M SV := mDef 1 0 (B_qcb)
noncomputable abbrev B_qbq : PSt -> M PF := (mRet (mFn F_qbv (aCons (mVar 0) (aCons (mC (.int 12)) aNil))))
noncomputable def F_qbq : List SV -> M SV := mDef 1 0 (B_qbq)
noncomputable abbrev B_qbp : PSt -> M PF := (mRet (mOp (g2 eqP) (mCB (g1 lenH) (aCons (mVar 0) aNil)) (mC (.int 0))))
noncomputable def F_qbp : List SV -> M SV := mDef 1 0 (B_qbp)
noncomputable abbrev B_qbz : PSt -> M PF := (mRet (mAndV (mOp (g2 eqP) (mCB (g1 lenH) (aCons (mVar 0) aNil)) (mC (.int 1))) (mFn F_qcb (aCons (mOp (g2 ixQ) (mVar 0) (mC (.int 0))) aNil))))
noncomputable def F_qbz : List SV -> M SV := mDef 1 0 (B_qbz)
noncomputable abbrev B_qbw : PSt -> M PF := (mRet (mAndV (mOp (g2 eqP) (mCB (g1 lenH) (aCons (mVar 0) aNil)) (mC (.int 1))) (mFn F_qbq (aCons (mOp (g2 ixQ) (mVar 0) (mC (.int 0))) aNil))))
noncomputable def F_qbw : List SV -> M SV := mDef 1 0 (B_qbw)
noncomputable abbrev B_qby : PSt -> M PF := (mRet (mAndV (mOp (g2 eqP) (mCB (g1 lenH) (aCons (mVar 0) aNil)) (mC (.int 2))) (mAndV (mFn F_qbq (aCons (mOp (g2 ixQ) (mVar 0) (mC (.int 0))) aNil)) (mFn F_qbv (aCons (mOp (g2 ixQ) (mVar 0) (mC (.int 1))) (aCons (mC (.int 9)) aNil))))))
noncomputable def F_qby : List SV -> M SV := mDef 1 0 (B_qby)
noncomputable abbrev B_qbx : PSt -> M PF := (mRet (mAndV (mOp (g2 eqP) (mCB (g1 lenH) (aCons (mVar 0) aNil)) (mC (.int 2))) (mAndV (mFn F_qbq (aCons (mOp (g2 ixQ) (mVar 0) (mC (.int 0))) aNil)) (mAndV (mFn F_qcb (aCons (mOp (g2 ixQ) (mVar 0) (mC (.int 1))) aNil)) (mOp (g2 neP) (mOp (g2 ixQ) (mVar 0) (mC (.int 1))) (mC (.str "bell")))))))
noncomputable def F_qbx : List SV -> M SV := mDef 1 0 (B_qbx)
noncomputable def ZaP (f_qbp f_qbz f_qby f_qbw f_qbx : Addr) : List (Addr × (List SV -> M SV)) := [(f_qbp, F_qbp), (f_qbz, F_qbz), (f_qby, F_qby), (f_qbw, F_qbw), (f_qbx, F_qbx)]
noncomputable abbrev B_qbr (d_DEEDS f_qbp f_qbz f_qby f_qbw f_qbx : Addr) : PSt -> M PF := (mSeq (mIfS (mOrT (mNotT (mTru (mCB (g1 isiH) (aCons (mVar 0) (aCons (mC (.ty "tuple")) aNil))))) (mOrT (mNotT (mTru (mVar 0))) (mOrT (mNotT (mTru (mCB (g1 isiH) (aCons (mOp (g2 ixQ) (mVar 0) (mC (.int 0))) (aCons (mC (.ty "str")) aNil))))) (mTest (mOp (topI d_DEEDS (ZaB f_qbp f_qbz f_qby f_qbw f_qbx) true) (mOp (g2 ixQ) (mVar 0) (mC (.int 0))) (mC (.fn d_DEEDS))))))) (mRet (mC (.bl false))) mSkip) (mSeq (mSet 1 (mOp (topG d_DEEDS (ZaB f_qbp f_qbz f_qby f_qbw f_qbx)) (mC (.fn d_DEEDS)) (mOp (g2 ixQ) (mVar 0) (mC (.int 0))))) (mRet (mCallV 1 (ZaP f_qbp f_qbz f_qby f_qbw f_qbx) (aCons (mSlice (mVar 0) (oPart (mC (.int 1))) oNo) aNil)))))
noncomputable def F_qbr (d_DEEDS f_qbp f_qbz f_qby f_qbw f_qbx : Addr) : List SV -> M SV := mDef 1 1 (B_qbr d_DEEDS f_qbp f_qbz f_qby f_qbw f_qbx)
noncomputable abbrev B_qbt : PSt -> M PF := (mRet (mAndV (mFn F_qca (aCons (mVar 0) (aCons (mC (.int 3)) (aCons (mC (.int 3)) aNil)))) (mAndV (mFn F_qcb (aCons (mOp (g2 ixQ) (mVar 0) (mC (.int 0))) aNil)) (mAndV (mFn F_qcb (aCons (mOp (g2 ixQ) (mVar 0) (mC (.int 1))) aNil)) (mFn F_qbu (aCons (mOp (g2 ixQ) (mVar 0) (mC (.int 2))) (aCons (mC (.int 1)) aNil)))))))
noncomputable def F_qbt : List SV -> M SV := mDef 1 0 (B_qbt)
noncomputable abbrev B_qbo : PSt -> M PF := (mSeq (mIfS (mOrT (mNotT (mTru (mFn F_qca (aCons (mVar 0) (aCons (mC (.int 0)) (aCons (mC (.int 30)) aNil)))))) (mNotT (mTru (mCB (g1 allH) (aCons (mVal (mComp (mItems (mVar 0)) ["name"] [] (hName 0) tOk (mFn F_qbt (aCons (mVar 0) aNil)))) aNil))))) (mRet (mC (.bl false))) mSkip) (mSeq (mIfS (mNotT (mTru (mCB (g1 allH) (aCons (mVal (mComp (mZip (aCons (mVar 0) (aCons (mSlice (mVar 0) (oPart (mC (.int 1))) oNo) aNil))) ["low", "high"] [] (hTup (hCons (hName 0) (hCons (hName 1) hNil)) 2) tOk (mOp (g2 ltDP) (mVar 0) (mVar 1)))) aNil)))) (mRet (mC (.bl false))) mSkip) (mRet (mCB (g1 allH) (aCons (mVal (mComp (mItems (mVar 0)) ["name"] [1, 2] (hName 0) tOk (mOp (g2 (deepP fun p q => !eqD p q)) (mSlice (mVar 0) oNo (oPart (mC (.int 2)))) (mTup (aCons (mVar 1) (aCons (mVar 2) aNil)))))) aNil)))))
noncomputable def F_qbo : List SV -> M SV := mDef 3 0 (B_qbo)
noncomputable abbrev B_qbs (d_DEEDS f_qbp f_qbz f_qby f_qbw f_qbx : Addr) : PSt -> M PF := (mSeq (mIfS (mOrT (mNotT (mTru (mFn F_qca (aCons (mVar 0) (aCons (mC (.int 7)) (aCons (mC (.int 7)) aNil)))))) (mNotT (mTru (mFn F_qbt (aCons (mSlice (mVar 0) oNo (oPart (mC (.int 3)))) aNil))))) (mRet (mC (.bl false))) mSkip) (mSeq (mAsg (mVar 0) (hTup (hCons (hName 1) (hCons (hName 2) (hCons (hName 3) (hCons (hName 4) (hCons (hName 5) (hCons (hName 6) (hCons (hName 7) hNil))))))) 7)) (mRet (mAndV (mFn F_qbu (aCons (mVar 4) (aCons (mC (.int 0)) aNil))) (mAndV (mFn F_qbo (aCons (mVar 5) (aCons (mVar 1) (aCons (mVar 2) aNil)))) (mAndV (mFn F_qbu (aCons (mVar 6) (aCons (mC (.int 0)) aNil))) (mFn (F_qbr d_DEEDS f_qbp f_qbz f_qby f_qbw f_qbx) (aCons (mVar 7) aNil))))))))
noncomputable def F_qbs (d_DEEDS f_qbp f_qbz f_qby f_qbw f_qbx : Addr) : List SV -> M SV := mDef 1 7 (B_qbs d_DEEDS f_qbp f_qbz f_qby f_qbw f_qbx)
noncomputable abbrev B_qcd : PSt -> M PF := (mRet (mSlice (mVar 0) oNo (oPart (mC (.int 3)))))
noncomputable def F_qcd : List SV -> M SV := mDef 1 0 (B_qcd)
noncomputable abbrev B_qac : PSt -> M PF := (mSeq (mIfS (mTest (mOp (g2 ltP) (mVar 1) (mCB (g1 lenH) (aCons (mVar 0) aNil)))) (mRet (mOp (g2 ixQ) (mVar 0) (mVar 1))) mSkip) (mRet (mC (.int 0))))
noncomputable def F_qac : List SV -> M SV := mDef 2 0 (B_qac)
noncomputable abbrev B_qas : PSt -> M PF := (mSeq (mSet 2 (mFn F_qac (aCons (mVar 0) (aCons (mOp (g2 modP) (mVar 1) (mCB (g1 maxH) (aCons (mC (.int 1)) (aCons (mCB (g1 lenH) (aCons (mVar 0) aNil)) aNil)))) aNil)))) (mSeq (mSet 3 (mOp (g2 modP) (mOp (g2 mulP) (mOp (g2 addP) (mOp (g2 addP) (mOp (g2 modP) (mVar 2) (mC (.int 2147483629))) (mOp (g2 mulP) (mOp (g2 mulP) (mC (.int 7919)) (mVar 1)) (mVar 1))) (mC (.int 11))) (mC (.int 48271))) (mC (.int 2147483647)))) (mSeq (mIfS (mTest (mOp (g2 eqP) (mOp (g2 modP) (mFn F_qac (aCons (mVar 0) (aCons (mC (.int 0)) aNil))) (mC (.int 2))) (mC (.int 0)))) (mSet 2 (mC (.int 0))) mSkip) (mRetF (mLst (aCons (mOp (g2 modP) (mVar 2) (mOp (g2 powP) (mC (.int 10)) (mC (.int 40)))) (aCons (mVar 3) aNil)))))))
noncomputable def F_qas : List SV -> M SV := mDef 2 2 (B_qas)
noncomputable def FF_qas : List SV -> M (List PV) := mDefF 2 2 (B_qas)
noncomputable abbrev B_qba : PSt -> M PF := (mSeq (mIfS (mTest (mOp (g2 gtP) (mOp (g2 ixQ) (mVar 0) (mC (.int 0))) (mC (.int 0)))) (mSeq (mSet 2 (mOp (g2 modP) (mOp (g2 ixQ) (mVar 0) (mC (.int 0))) (mVar 1))) (mSeq (mSetIx (mOp (g2 fdivP) (mOp (g2 ixQ) (mVar 0) (mC (.int 0))) (mVar 1)) (mVar 0) (mC (.int 0))) (mRet (mVar 2)))) mSkip) (mSeq (mSetIx (mOp (g2 modP) (mOp (g2 addP) (mOp (g2 mulP) (mOp (g2 ixQ) (mVar 0) (mC (.int 1))) (mC (.int 48271))) (mC (.int 12345))) (mC (.int 2147483647))) (mVar 0) (mC (.int 1))) (mRet (mOp (g2 modP) (mOp (g2 modP) (mOp (g2 mulP) (mOp (g2 ixQ) (mVar 0) (mC (.int 1))) (mOp (g2 ixQ) (mVar 0) (mC (.int 1)))) (mC (.int 1999999973))) (mVar 1)))))
noncomputable def F_qba : List SV -> M SV := mDef 2 1 (B_qba)
noncomputable abbrev B_qbm : PSt -> M PF := (mSeq (mSet 2 (mC (.str "abcdefghijklmnopqrstuvwxyz"))) (mSeq (mSet 3 (mFn F_qba (aCons (mVar 0) (aCons (mC (.int 26)) aNil)))) (mSeq (mSet 4 (mOp (g2 ixQ) (mVal (mLst (aCons (mC (.int 1)) (aCons (mC (.int 3)) (aCons (mC (.int 5)) (aCons (mC (.int 7)) (aCons (mC (.int 9)) (aCons (mC (.int 11)) aNil)))))))) (mFn F_qba (aCons (mVar 0) (aCons (mC (.int 6)) aNil))))) (mRetF (mComp (mRange1 (aCons (mVar 1) aNil)) ["_law_k"] [2, 3, 4] (hName 0) tOk (mOp (g2 addP) (mOp (g2 ixQ) (mVar 1) (mOp (g2 modP) (mOp (g2 addP) (mVar 2) (mOp (g2 mulP) (mVar 3) (mVar 0))) (mC (.int 26)))) (mOp (g2 ixQ) (mVal (mLst (aCons (mC (.str "")) (aCons (mC (.str "zq")) (aCons (mC (.str "x")) (aCons (mC (.str "qqzzx")) aNil)))))) (mOp (g2 modP) (mOp (g2 addP) (mVar 2) (mOp (g2 mulP) (mVar 0) (mVar 0))) (mC (.int 4))))))))))
noncomputable def F_qbm : List SV -> M SV := mDef 2 3 (B_qbm)
noncomputable abbrev B_qag : PSt -> M PF := (mRet (mDict ["join", "note", "say", "do", "free", "ready", "quit", "hand"] (aCons (mC (.str "")) (aCons (mC (.str "")) (aCons (mC (.str "w")) (aCons (mC (.str "cp")) (aCons (mC (.str "c")) (aCons (mC (.str "c")) (aCons (mC (.str "c")) (aCons (mC (.str "ch")) aNil))))))))))
noncomputable def F_qag : List SV -> M SV := mDef 0 0 (B_qag)
noncomputable abbrev B_qbk : PSt -> M PF := (mRet (mAndV (mCB (g1 isiH) (aCons (mVar 0) (aCons (mC (.ty "int")) aNil))) (mAndV (mNotV (mCB (g1 isiH) (aCons (mVar 0) (aCons (mC (.ty "bool")) aNil)))) (mChain (g2 leP) (g2 leP) (mVar 1) (mVar 0) (mVar 2)))))
noncomputable def F_qbk : List SV -> M SV := mDef 3 0 (B_qbk)
noncomputable abbrev B_qaq : PSt -> M PF := (mRet (mAndV (mCB (g1 isiH) (aCons (mVar 0) (aCons (mC (.ty "str")) aNil))) (mAndV (mChain (g2 leP) (g2 leP) (mC (.int 1)) (mCB (g1 lenH) (aCons (mVar 0) aNil)) (mC (.int 12))) (mOp (g2 eqP) (mMt "str" stripH (mVar 0) (aCons (mC (.str "abcdefghijklmnopqrstuvwxyz")) aNil)) (mC (.str ""))))))
noncomputable def F_qaq : List SV -> M SV := mDef 1 0 (B_qaq)
noncomputable abbrev B_qae : PSt -> M PF := (mSeq (mIfS (mTest (mOp (g2 inP) (mVar 0) (mC (.str "wh")))) (mRet (mAndV (mFn F_qaq (aCons (mVar 1) aNil)) (mOrV (mOp (g2 eqP) (mVar 0) (mC (.str "w"))) (mOp (g2 neP) (mVar 1) (mC (.str "bell")))))) mSkip) (mRet (mFn F_qbk (aCons (mVar 1) (aCons (mC (.int 0)) (aCons (mOp (g2 ixQ) (mVal (mLst (aCons (mC (.int 11)) (aCons (mC (.int 8)) aNil)))) (mCB (g1 intH) (aCons (mOp (g2 eqP) (mVar 0) (mC (.str "p"))) aNil))) aNil))))))
noncomputable def F_qae : List SV -> M SV := mDef 2 0 (B_qae)
noncomputable abbrev B_qak : PSt -> M PF := (mSeq (mIfS (mOrT (mNotT (mTru (mCB (g1 isiH) (aCons (mVar 0) (aCons (mC (.ty "tuple")) aNil))))) (mOrT (mTest (mOp (g2 eqP) (mCB (g1 lenH) (aCons (mVar 0) aNil)) (mC (.int 0)))) (mNotT (mTru (mCB (g1 isiH) (aCons (mOp (g2 ixQ) (mVar 0) (mC (.int 0))) (aCons (mC (.ty "str")) aNil))))))) (mRet (mC (.bl false))) mSkip) (mSeq (mSet 1 (mMt "dict" getH (mFn F_qag aNil) (aCons (mOp (g2 ixQ) (mVar 0) (mC (.int 0))) aNil))) (mSeq (mIfS (mOrT (mTest (mOp (g2 isNP) (mVar 1) (mC .non))) (mTest (mOp (g2 neP) (mCB (g1 lenH) (aCons (mVar 0) aNil)) (mOp (g2 addP) (mC (.int 1)) (mCB (g1 lenH) (aCons (mVar 1) aNil)))))) (mRet (mC (.bl false))) mSkip) (mRet (mCB (g1 allH) (aCons (mVal (mComp (mZip (aCons (mVar 1) (aCons (mSlice (mVar 0) (oPart (mC (.int 1))) oNo) aNil))) ["_law_sign", "_law_part"] [] (hTup (hCons (hName 0) (hCons (hName 1) hNil)) 2) tOk (mFn F_qae (aCons (mVar 0) (aCons (mVar 1) aNil))))) aNil))))))
noncomputable def F_qak : List SV -> M SV := mDef 1 1 (B_qak)
noncomputable abbrev B_qbi : PSt -> M PF := (mSeq (mSet 1 (mC (.str "abcdefghijklmnopqrstuvwxyz"))) (mSeq (mSet 2 (mMt "str" joinH (mC (.str "")) (aCons (mVal (mComp (mRange1 (aCons (mOp (g2 addP) (mC (.int 1)) (mFn F_qba (aCons (mVar 0) (aCons (mC (.int 12)) aNil)))) aNil)) ["_law_k"] [1, 0] (hName 0) tOk (mOp (g2 ixQ) (mVar 1) (mFn F_qba (aCons (mVar 2) (aCons (mC (.int 26)) aNil)))))) aNil))) (mRet (mOp (g2 ixQ) (mVal (mLst (aCons (mVar 2) (aCons (mC (.str "bells")) aNil)))) (mCB (g1 intH) (aCons (mOp (g2 eqP) (mVar 2) (mC (.str "bell"))) aNil))))))
noncomputable def F_qbi : List SV -> M SV := mDef 1 2 (B_qbi)
noncomputable abbrev B_qai : PSt -> M PF := (mSeq (mSet 1 (mOp (g2 ixQ) (mVal (mLst (aCons (mC (.str "join")) (aCons (mC (.str "say")) (aCons (mC (.str "do")) (aCons (mC (.str "free")) (aCons (mC (.str "ready")) (aCons (mC (.str "hand")) (aCons (mC (.str "quit")) (aCons (mC (.str "note")) aNil)))))))))) (mFn F_qba (aCons (mVar 0) (aCons (mC (.int 8)) aNil))))) (mSeq (mNew 2 (mLst aNil)) (mSeq (mFor (mItems (mOp (g2 ixQ) (mFn F_qag aNil) (mVar 1))) (hName 3) (mDrop (mApp (mVar 2) (aCons (mOp (g2 ixQ) (mVal (mLst (aCons (mFn F_qbi (aCons (mVar 0) aNil)) (aCons (mFn F_qba (aCons (mVar 0) (aCons (mC (.int 12)) aNil))) (aCons (mFn F_qba (aCons (mVar 0) (aCons (mC (.int 9)) aNil))) aNil))))) (mOp (g2 modP) (mMt "list" indexH (mVal (mLst (aCons (mC (.str "w")) (aCons (mC (.str "c")) (aCons (mC (.str "p")) (aCons (mC (.str "h")) aNil)))))) (aCons (mVar 3) aNil)) (mC (.int 3)))) aNil)))) (mRet (mOp (g2 addP) (mTup (aCons (mVar 1) aNil)) (mCB (g1 tupH) (aCons (mVar 2) aNil)))))))
noncomputable def F_qai : List SV -> M SV := mDef 1 3 (B_qai)
noncomputable abbrev B_qaw : PSt -> M PF := (mSeq (mSet 2 (mVal (mLst (aCons (mOp (g2 addP) (mVar 1) (mFn F_qba (aCons (mVar 0) (aCons (mC (.int 5)) aNil)))) (aCons (mOp (g2 addP) (mVar 1) (mFn F_qba (aCons (mVar 0) (aCons (mC (.int 3000)) aNil)))) (aCons (mOp (g2 subP) (mOp (g2 subP) (mOp (g2 powP) (mC (.int 10)) (mC (.int 30))) (mC (.int 1))) (mFn F_qba (aCons (mVar 0) (aCons (mC (.int 9)) aNil)))) aNil)))))) (mRet (mOp (g2 ixQ) (mVar 2) (mFn F_qba (aCons (mVar 0) (aCons (mC (.int 3)) aNil))))))
noncomputable def F_qaw : List SV -> M SV := mDef 2 1 (B_qaw)
noncomputable abbrev B_qao : PSt -> M PF := (mSeq (mIfS (mOrT (mNotT (mTru (mCB (g1 isiH) (aCons (mVar 0) (aCons (mC (.ty "tuple")) aNil))))) (mTest (mOp (g2 neP) (mCB (g1 lenH) (aCons (mVar 0) aNil)) (mC (.int 3))))) (mRet (mC (.bl false))) mSkip) (mRet (mAndV (mFn F_qaq (aCons (mOp (g2 ixQ) (mVar 0) (mC (.int 0))) aNil)) (mAndV (mFn F_qaq (aCons (mOp (g2 ixQ) (mVar 0) (mC (.int 1))) aNil)) (mFn F_qbk (aCons (mOp (g2 ixQ) (mVar 0) (mC (.int 2))) (aCons (mC (.int 1)) (aCons (mOp (g2 powP) (mC (.int 10)) (mC (.int 30))) aNil))))))))
noncomputable def F_qao : List SV -> M SV := mDef 1 0 (B_qao)
noncomputable abbrev B_qaa : PSt -> M PF := (mSeq (mIfS (mOrT (mNotT (mTru (mCB (g1 isiH) (aCons (mVar 0) (aCons (mC (.ty "tuple")) aNil))))) (mOrT (mTest (mOp (g2 gtP) (mCB (g1 lenH) (aCons (mVar 0) aNil)) (mC (.int 30)))) (mNotT (mTru (mCB (g1 allH) (aCons (mVal (mComp (mItems (mVar 0)) ["_law_name"] [] (hName 0) tOk (mFn F_qao (aCons (mVar 0) aNil)))) aNil)))))) (mRet (mC (.bl false))) mSkip) (mSeq (mIfS (mTest (mOp (g2 (inDP false)) (mTup (aCons (mVar 1) (aCons (mVar 2) aNil))) (mVal (mComp (mItems (mVar 0)) ["_law_name"] [] (hName 0) tOk (mSlice (mVar 0) oNo (oPart (mC (.int 2)))))))) (mRet (mC (.bl false))) mSkip) (mRet (mOp (g2 (deepP eqD)) (mVal (mList (aCons (mVar 0) aNil))) (mVal (mSorted2 (aCons (mCB dictPH (aCons (mVal (mComp (mItems (mVar 0)) ["_law_name"] [] (hName 0) tOk (mTup (aCons (mVar 0) (aCons (mC (.bl true)) aNil))))) aNil)) aNil)))))))
noncomputable def F_qaa : List SV -> M SV := mDef 3 0 (B_qaa)
noncomputable abbrev B_qam : PSt -> M PF := (mSeq (mIfS (mOrT (mNotT (mTru (mCB (g1 isiH) (aCons (mVar 0) (aCons (mC (.ty "tuple")) aNil))))) (mTest (mOp (g2 neP) (mCB (g1 lenH) (aCons (mVar 0) aNil)) (mC (.int 7))))) (mRet (mC (.bl false))) mSkip) (mSeq (mAsg (mVar 0) (hTup (hCons (hName 1) (hCons (hName 2) (hCons (hName 3) (hCons (hName 4) (hCons (hName 5) (hCons (hName 6) (hCons (hName 7) hNil))))))) 7)) (mSeq (mIfS (mOrT (mNotT (mTru (mFn F_qaq (aCons (mVar 1) aNil)))) (mOrT (mNotT (mTru (mFn F_qaq (aCons (mVar 2) aNil)))) (mNotT (mTru (mFn F_qbk (aCons (mVar 3) (aCons (mC (.int 1)) (aCons (mOp (g2 powP) (mC (.int 10)) (mC (.int 30))) aNil)))))))) (mRet (mC (.bl false))) mSkip) (mSeq (mIfS (mOrT (mNotT (mTru (mFn F_qbk (aCons (mVar 4) (aCons (mC (.int 0)) (aCons (mOp (g2 powP) (mC (.int 10)) (mC (.int 30))) aNil)))))) (mNotT (mTru (mFn F_qbk (aCons (mVar 6) (aCons (mC (.int 0)) (aCons (mOp (g2 powP) (mC (.int 10)) (mC (.int 30))) aNil))))))) (mRet (mC (.bl false))) mSkip) (mRet (mAndV (mFn F_qaa (aCons (mVar 5) (aCons (mVar 1) (aCons (mVar 2) aNil)))) (mFn F_qak (aCons (mVar 7) aNil))))))))
noncomputable def F_qam : List SV -> M SV := mDef 1 7 (B_qam)
noncomputable abbrev B_qbc : PSt -> M PF := (mSeq (mNewT 5) (mSeq (mFor (mRange1 (aCons (mVar 4) aNil)) (hName 6) (mSeq (mSet 7 (mTup (aCons (mOp (g2 ixQ) (mVar 1) (mFn F_qba (aCons (mVar 0) (aCons (mC (.int 9)) aNil)))) (aCons (mOp (g2 ixQ) (mVar 1) (mFn F_qba (aCons (mVar 0) (aCons (mC (.int 9)) aNil)))) (aCons (mFn F_qaw (aCons (mVar 0) (aCons (mC (.int 1)) aNil))) aNil))))) (mIfS (mTest (mOp (g2 (deepP fun p q => !eqD p q)) (mSlice (mVar 7) oNo (oPart (mC (.int 2)))) (mTup (aCons (mVar 2) (aCons (mVar 3) aNil))))) (mSetIxT (mC (.bl true)) (mVar 5) (mVar 7)) mSkip))) (mRet (mCB (g1 tupH) (aCons (mVal (mSorted2 (aCons (mVar 5) aNil))) aNil)))))
noncomputable def F_qbc : List SV -> M SV := mDef 5 3 (B_qbc)
noncomputable abbrev B_qau : PSt -> M PF := (mSeq (mSet 2 (mOp (g2 ixQ) (mVal (mLst (aCons (mOp (g2 ixQ) (mVar 1) (mFn F_qba (aCons (mVar 0) (aCons (mC (.int 9)) aNil)))) (aCons (mC (.str "bell")) aNil)))) (mCB (g1 intH) (aCons (mOp (g2 eqP) (mFn F_qba (aCons (mVar 0) (aCons (mC (.int 9)) aNil))) (mC (.int 0))) aNil)))) (mSeq (mSet 3 (mOp (g2 ixQ) (mVar 1) (mFn F_qba (aCons (mVar 0) (aCons (mC (.int 9)) aNil))))) (mSeq (mSet 4 (mOp (g2 ixQ) (mVal (mLst (aCons (mC (.int 0)) (aCons (mC (.int 1)) (aCons (mC (.int 2)) (aCons (mC (.int 3)) (aCons (mC (.int 7)) (aCons (mC (.int 1)) (aCons (mC (.int 0)) (aCons (mC (.int 30)) aNil)))))))))) (mFn F_qba (aCons (mVar 0) (aCons (mC (.int 8)) aNil))))) (mSeq (mSet 5 (mFn F_qbc (aCons (mVar 0) (aCons (mVar 1) (aCons (mVar 2) (aCons (mVar 3) (aCons (mVar 4) aNil))))))) (mRet (mTup (aCons (mVar 2) (aCons (mVar 3) (aCons (mFn F_qaw (aCons (mVar 0) (aCons (mC (.int 1)) aNil))) (aCons (mFn F_qaw (aCons (mVar 0) (aCons (mC (.int 0)) aNil))) (aCons (mVar 5) (aCons (mFn F_qaw (aCons (mVar 0) (aCons (mC (.int 0)) aNil))) (aCons (mFn F_qai (aCons (mVar 0) aNil)) aNil)))))))))))))
noncomputable def F_qau : List SV -> M SV := mDef 2 4 (B_qau)
noncomputable abbrev B_qay : PSt -> M PF := (mSeq (mSet 1 (mVal (mLst (aCons (mC (.int 0)) (aCons (mNeg (mC (.int 1))) (aCons (mC (.int 1)) (aCons (mC (.bl true)) (aCons (mC (.bl false)) (aCons (mC .non) (aCons (mC (.str "")) (aCons (mC (.str "Ab")) (aCons (mC (.str "abcdefghijklm")) (aCons (mC (.str "bell")) (aCons (mC (.str "a")) (aCons (mTup aNil) (aCons (mVal (mLst aNil)) (aCons mDict0 (aCons (mTup (aCons (mC (.str "join")) aNil)) (aCons (mTup (aCons (mC (.str "do")) (aCons (mC (.int 12)) (aCons (mC (.int 0)) aNil)))) aNil))))))))))))))))))) (mSeq (mSet 1 (mOp (g2 addP) (mVar 1) (mVal (mLst (aCons (mTup (aCons (mC (.str "note")) aNil)) (aCons (mTup (aCons (mC (.str "say")) (aCons (mC (.str "A")) aNil))) (aCons (mOp (g2 powP) (mC (.int 10)) (mC (.int 29))) (aCons (mTup (aCons (mC (.str "a")) (aCons (mC (.str "b")) (aCons (mC (.int 1)) aNil)))) (aCons (mTup (aCons (mTup (aCons (mC (.str "a")) (aCons (mC (.str "b")) (aCons (mC (.int 1)) aNil)))) aNil)) (aCons (mVal (mLst (aCons (mTup (aCons (mC (.str "a")) (aCons (mC (.str "b")) (aCons (mC (.int 1)) aNil)))) aNil))) aNil)))))))))) (mRet (mOp (g2 ixQ) (mVar 1) (mFn F_qba (aCons (mVar 0) (aCons (mC (.int 22)) aNil)))))))
noncomputable def F_qay : List SV -> M SV := mDef 1 1 (B_qay)
noncomputable abbrev B_qbg : PSt -> M PF := (mSeq (mSet 2 (mFn F_qba (aCons (mVar 0) (aCons (mC (.int 12)) aNil)))) (mSeq (mIfS (mTest (mOp (g2 eqP) (mVar 2) (mC (.int 0)))) (mRetF (mList (aCons (mVar 1) aNil))) mSkip) (mSeq (mIfS (mTest (mOp (g2 eqP) (mVar 2) (mC (.int 1)))) (mRet (mOp (g2 addP) (mVar 1) (mTup (aCons (mFn F_qay (aCons (mVar 0) aNil)) aNil)))) mSkip) (mSeq (mIfS (mTest (mOp (g2 eqP) (mVar 2) (mC (.int 2)))) (mRet (mSlice (mVar 1) oNo (oPart (mC (.int 6))))) mSkip) (mSeq (mSet 3 (mFn F_qba (aCons (mVar 0) (aCons (mC (.int 7)) aNil)))) (mRet (mOp (g2 addP) (mOp (g2 addP) (mSlice (mVar 1) oNo (oPart (mVar 3))) (mTup (aCons (mFn F_qay (aCons (mVar 0) aNil)) aNil))) (mSlice (mVar 1) (oPart (mOp (g2 addP) (mVar 3) (mC (.int 1)))) oNo))))))))
noncomputable def F_qbg : List SV -> M SV := mDef 2 2 (B_qbg)
noncomputable abbrev B_qbe (d_DEEDS f_qbp f_qbz f_qby f_qbw f_qbx : Addr) : PSt -> M PF := (mSeq (mFor (mRange1 (aCons (mC (.int 2)) aNil)) (hName 1) (mSeq (mSet 2 (mFn (F_qbs d_DEEDS f_qbp f_qbz f_qby f_qbw f_qbx) (aCons (mVar 0) aNil))) (mIfS (mOrT (mNotT (mTru (mCB (g1 isiH) (aCons (mVar 2) (aCons (mC (.ty "bool")) aNil))))) (mTest (mOp (g2 neP) (mVar 2) (mFn F_qam (aCons (mVar 0) aNil))))) (mRet (mC (.bl false))) mSkip))) (mRet (mC (.bl true))))
noncomputable def F_qbe (d_DEEDS f_qbp f_qbz f_qby f_qbw f_qbx : Addr) : List SV -> M SV := mDef 1 2 (B_qbe d_DEEDS f_qbp f_qbz f_qby f_qbw f_qbx)
noncomputable abbrev B_law (d_DEEDS f_qbp f_qbz f_qby f_qbw f_qbx : Addr) : PSt -> M PF := (mSeq (mFor (mItems (mVal (mLst (aCons (mTup aNil) (aCons (mC .non) (aCons (mC (.str "letter")) (aCons (mVal (mLst aNil)) (aCons mDict0 (aCons (mTup (aCons (mC (.str "a")) (aCons (mC (.str "b")) (aCons (mC (.int 1)) (aCons (mC (.int 0)) (aCons (mTup aNil) (aCons (mC (.int 0)) (aCons (mTup (aCons (mC (.str "join")) aNil)) aNil)))))))) (aCons (mTup (aCons (mC (.str "a")) (aCons (mC (.str "b")) (aCons (mC (.int 1)) (aCons (mC (.int 0)) (aCons (mTup aNil) (aCons (mC (.int 0)) (aCons (mC (.str "join")) aNil)))))))) aNil)))))))))) (hName 1) (mIfS (mNotT (mTru (mFn (F_qbe d_DEEDS f_qbp f_qbz f_qby f_qbw f_qbx) (aCons (mVar 1) aNil)))) (mRet (mC (.bl false))) mSkip)) (mSeq (mFor (mRange2 (aCons (mC (.int 1)) (aCons (mOp (g2 addP) (mC (.int 2)) (mCB (g1 lenH) (aCons (mSlice (mVar 0) (oPart (mC (.int 1))) (oPart (mC (.int 16)))) aNil))) aNil))) (hName 2) (mSeq (mNew 3 (mFnF FF_qas (aCons (mVar 0) (aCons (mVar 2) aNil)))) (mSeq (mSet 4 (mFn F_qbm (aCons (mVar 3) (aCons (mC (.int 9)) aNil)))) (mSeq (mSet 5 (mFn F_qau (aCons (mVar 3) (aCons (mVar 4) aNil)))) (mSeq (mIfS (mOrT (mTest (mOp (g2 isntBP) (mFn (F_qbs d_DEEDS f_qbp f_qbz f_qby f_qbw f_qbx) (aCons (mVar 5) aNil)) (mC (.bl true)))) (mTest (mOp (g2 (deepP fun p q => !eqD p q)) (mFn F_qcd (aCons (mVar 5) aNil)) (mTup (aCons (mOp (g2 ixQ) (mVar 5) (mC (.int 0))) (aCons (mOp (g2 ixQ) (mVar 5) (mC (.int 1))) (aCons (mOp (g2 ixQ) (mVar 5) (mC (.int 2))) aNil))))))) (mRet (mC (.bl false))) mSkip) (mFor (mItems (mVal (mLst (aCons (mFn F_qbg (aCons (mVar 3) (aCons (mVar 5) aNil))) (aCons (mFn F_qbg (aCons (mVar 3) (aCons (mVar 5) aNil))) (aCons (mFn F_qbg (aCons (mVar 3) (aCons (mVar 5) aNil))) (aCons (mFn F_qay (aCons (mVar 3) aNil)) aNil))))))) (hName 1) (mIfS (mNotT (mTru (mFn (F_qbe d_DEEDS f_qbp f_qbz f_qby f_qbw f_qbx) (aCons (mVar 1) aNil)))) (mRet (mC (.bl false))) mSkip))))))) (mRet (mC (.bl true)))))
noncomputable def F_law (d_DEEDS f_qbp f_qbz f_qby f_qbw f_qbx : Addr) : List SV -> M SV := mDef 1 5 (B_law d_DEEDS f_qbp f_qbz f_qby f_qbw f_qbx)
noncomputable def top (i : Nat) : Stmt := PySem.Challenge.pw_holdword_k13_letters.main.body.getD i (.Pass ⟨0, 0, 0, 0⟩)
structure Txt (mg : Str -> Option Value) : Prop where
 c_JUDGE : ∃ t, mg "JUDGE" = some (.str "bell" t)
 c_LONGEST_WORD : ∃ t, mg "LONGEST_WORD" = some (.int 12 t)
 c_MOST_CLAUSES : ∃ t, mg "MOST_CLAUSES" = some (.int 12 t)
 c_MOST_GOTS : ∃ t, mg "MOST_GOTS" = some (.int 30 t)
 c_MOST_PARTS : ∃ t, mg "MOST_PARTS" = some (.int 9 t)
 c_SMALL_LETTERS : ∃ t, mg "SMALL_LETTERS" = some (.str "abcdefghijklmnopqrstuvwxyz" t)
 b_all : mg "all" = none
 b_bool : mg "bool" = none
 b_dict : mg "dict" = none
 b_int : mg "int" = none
 b_isinstance : mg "isinstance" = none
 b_len : mg "len" = none
 b_list : mg "list" = none
 b_max : mg "max" = none
 b_range : mg "range" = none
 b_sorted : mg "sorted" = none
 b_str : mg "str" = none
 b_tuple : mg "tuple" = none
 b_zip : mg "zip" = none
section
variable {P : Program} {w : World} {K : W.Frag} {mg : Str -> Option Value} {base : Heap}
noncomputable abbrev s_qbu : Stmt := top 6
theorem sc_qbu : FnScope ["thing", "least"] ["thing", "least"] (defScope s_qbu) := ⟨rfl, rfl, rfl, by decide +kernel, rfl, by decide +kernel, by decide +kernel⟩
theorem ok_qbu {f_me : Addr} {fd_me : FuncData} (Fn : Fun K "is_number" "is_number" s_qbu f_me fd_me) (T : Txt mg) : FnOk P w K mg base CX0 1 f_me fd_me ["thing", "least"] (liftSp K (F_qbu)) :=
 Zao Fn sc_qbu fun cdv A outer s H E hr => (@Zag _ _ _ (@Zaj _ _ _ _ (Zat (ZaR (by rfl) T.b_isinstance (by rfl) (@Zaa _ _ _ _ _ (Zab 0) (@Zaa _ _ _ _ _ (Za0 (by rfl) T.b_int (by rfl)) Zac (by rfl)) (by rfl))) (Zat (q_em_not (ZaR (by rfl) T.b_isinstance (by rfl) (@Zaa _ _ _ _ _ (Zab 0) (@Zaa _ _ _ _ _ (Za0 (by rfl) T.b_bool (by rfl)) Zac (by rfl)) (by rfl)))) (ZaQ (ZaJ op_ge ge_ok.r (Zab 0) (Zab 1) (nomark _)))))))
end
section
variable {P : Program} {w : World} {K : W.Frag} {mg : Str -> Option Value} {base : Heap}
noncomputable abbrev s_qbv : Stmt := top 7
theorem sc_qbv : FnScope ["thing", "bound"] ["thing", "bound"] (defScope s_qbv) := ⟨rfl, rfl, rfl, by decide +kernel, rfl, by decide +kernel, by decide +kernel⟩
theorem ok_qbv {f_me : Addr} {fd_me : FuncData} {f_qbu : Addr} {fd_qbu : FuncData} (Fn : Fun K "is_number_below" "is_number_below" s_qbv f_me fd_me) (T : Txt mg) (G_qbu : FnOk P w K mg base CX0 1 f_qbu fd_qbu ["thing", "least"] (liftSp K F_qbu)) (m_qbu : mg "is_number" = some (.ref f_qbu)) (k_qbu : W.keepIn K (.ref f_qbu) = true) (b_qbu : L2.Binds K fd_qbu ["thing", "least"] []) : FnOk P w K mg base CX0 2 f_me fd_me ["thing", "bound"] (liftSp K (F_qbv)) :=
 Zao Fn sc_qbv fun cdv A outer s H E hr => (@Zag _ _ _ (@Zaj _ _ _ _ (Zat (Zae G_qbu (hr.mono (by decide)) (by rfl) m_qbu k_qbu b_qbu (@Zaa _ _ _ _ _ (Zab 0) (@Zaa _ _ _ _ _ Zad Zac (by rfl)) (by rfl))) (ZaQ (ZaJ op_lt lt_ok.r (Zab 0) (Zab 1) (nomark _))))))
end
section
variable {P : Program} {w : World} {K : W.Frag} {mg : Str -> Option Value} {base : Heap}
noncomputable abbrev s_qca : Stmt := top 8
theorem sc_qca : FnScope ["thing", "least", "most"] ["thing", "least", "most"] (defScope s_qca) := ⟨rfl, rfl, rfl, by decide +kernel, rfl, by decide +kernel, by decide +kernel⟩
theorem ok_qca {f_me : Addr} {fd_me : FuncData} (Fn : Fun K "is_row_of" "is_row_of" s_qca f_me fd_me) (T : Txt mg) : FnOk P w K mg base CX0 1 f_me fd_me ["thing", "least", "most"] (liftSp K (F_qca)) :=
 Zao Fn sc_qca fun cdv A outer s H E hr => (@Zag _ _ _ (@Zaj _ _ _ _ (Zat (ZaR (by rfl) T.b_isinstance (by rfl) (@Zaa _ _ _ _ _ (Zab 0) (@Zaa _ _ _ _ _ (Za0 (by rfl) T.b_tuple (by rfl)) Zac (by rfl)) (by rfl))) (ZaQ (ZbY op_le op_le le_ok.r le_ok.r (Zab 1) (ZaI (by rfl) T.b_len (@Zaa _ _ _ _ _ (Zab 0) Zac (by rfl))) (Zab 2))))))
end
section
variable {P : Program} {w : World} {K : W.Frag} {mg : Str -> Option Value} {base : Heap}
noncomputable abbrev s_qcb : Stmt := top 9
theorem sc_qcb : FnScope ["thing"] ["thing"] (defScope s_qcb) := ⟨rfl, rfl, rfl, by decide +kernel, rfl, by decide +kernel, by decide +kernel⟩
theorem ok_qcb {f_me : Addr} {fd_me : FuncData} (Fn : Fun K "is_word" "is_word" s_qcb f_me fd_me) (T : Txt mg) : FnOk P w K mg base CX0 1 f_me fd_me ["thing"] (liftSp K (F_qcb)) :=
 Zao Fn sc_qcb fun cdv A outer s H E hr => (@Zaf _ _ _ _ _ (@Zax _ _ _ _ _ _ _ _ (Zbm (ZaV (Zau (Zav (ZaR (by rfl) T.b_isinstance (by rfl) (@Zaa _ _ _ _ _ (Zab 0) (@Zaa _ _ _ _ _ (Za0 (by rfl) T.b_str (by rfl)) Zac (by rfl)) (by rfl))))) (ZaY (Zau (q_tm_chain op_le op_le le_ok.r le_ok.r Zad (ZaI (by rfl) T.b_len (@Zaa _ _ _ _ _ (Zab 0) Zac (by rfl))) (Zbw (by rfl) T.c_LONGEST_WORD)))))) (@Zag _ _ _ (@Zaj _ _ _ _ ZaD)) Zaq) (@Zag _ _ _ (@Zaj _ _ _ _ (Zbx rfl (by rfl) T.b_all (by rfl) (@Zaa _ _ _ _ _ (Zaw (ZaZ (vs := ["sign"]) (fs := []) (fr := []) (by exact ⟨rfl, rfl, rfl, rfl, rfl, rfl, rfl⟩) rfl (Za7 (Zab 0)) (fun _ _ _ _ _ => (Zam (i := 0) (show ((["sign"] : List Str) ++ ([] : List Str)).Nodup by decide +kernel) rfl (Or.inl rfl))) (fun _ _ _ _ _ => Za3) (fun _ _ _ _ _ => (ZaJ op_inAll in_ok.r (Zab 0) (ZcN (by rfl) T.c_SMALL_LETTERS) rfl)))) Zac (by rfl))))))
end
section
variable {P : Program} {w : World} {K : W.Frag} {mg : Str -> Option Value} {base : Heap}
noncomputable abbrev s_qbq : Stmt := top 12
theorem sc_qbq : FnScope ["thing"] ["thing"] (defScope s_qbq) := ⟨rfl, rfl, rfl, by decide +kernel, rfl, by decide +kernel, by decide +kernel⟩
theorem ok_qbq {f_me : Addr} {fd_me : FuncData} {f_qbv : Addr} {fd_qbv : FuncData} (Fn : Fun K "is_clause_number" "is_clause_number" s_qbq f_me fd_me) (T : Txt mg) (G_qbv : FnOk P w K mg base CX0 2 f_qbv fd_qbv ["thing", "bound"] (liftSp K F_qbv)) (m_qbv : mg "is_number_below" = some (.ref f_qbv)) (k_qbv : W.keepIn K (.ref f_qbv) = true) (b_qbv : L2.Binds K fd_qbv ["thing", "bound"] []) : FnOk P w K mg base CX0 3 f_me fd_me ["thing"] (liftSp K (F_qbq)) :=
 Zao Fn sc_qbq fun cdv A outer s H E hr => (@Zag _ _ _ (@Zaj _ _ _ _ (Zae G_qbv (hr.mono (by decide)) (by rfl) m_qbv k_qbv b_qbv (@Zaa _ _ _ _ _ (Zab 0) (@Zaa _ _ _ _ _ (Zbw (by rfl) T.c_MOST_CLAUSES) Zac (by rfl)) (by rfl)))))
end
section
variable {P : Program} {w : World} {K : W.Frag} {mg : Str -> Option Value} {base : Heap}
noncomputable abbrev s_qbp : Stmt := top 13
theorem sc_qbp : FnScope ["parts"] ["parts"] (defScope s_qbp) := ⟨rfl, rfl, rfl, by decide +kernel, rfl, by decide +kernel, by decide +kernel⟩
theorem ok_qbp {f_me : Addr} {fd_me : FuncData} (Fn : Fun K "is_bare" "is_bare" s_qbp f_me fd_me) (T : Txt mg) : FnOk P w K mg base CX0 1 f_me fd_me ["parts"] (liftSp K (F_qbp)) :=
 Zao Fn sc_qbp fun cdv A outer s H E hr => (@Zag _ _ _ (@Zaj _ _ _ _ (ZaJ ZbD ZbE.r (ZaI (by rfl) T.b_len (@Zaa _ _ _ _ _ (Zab 0) Zac (by rfl))) Zad (nomark _))))
end
section
variable {P : Program} {w : World} {K : W.Frag} {mg : Str -> Option Value} {base : Heap}
noncomputable abbrev s_qbz : Stmt := top 14
theorem sc_qbz : FnScope ["parts"] ["parts"] (defScope s_qbz) := ⟨rfl, rfl, rfl, by decide +kernel, rfl, by decide +kernel, by decide +kernel⟩
theorem ok_qbz {f_me : Addr} {fd_me : FuncData} {f_qcb : Addr} {fd_qcb : FuncData} (Fn : Fun K "is_of_word" "is_of_word" s_qbz f_me fd_me) (T : Txt mg) (G_qcb : FnOk P w K mg base CX0 1 f_qcb fd_qcb ["thing"] (liftSp K F_qcb)) (m_qcb : mg "is_word" = some (.ref f_qcb)) (k_qcb : W.keepIn K (.ref f_qcb) = true) (b_qcb : L2.Binds K fd_qcb ["thing"] []) : FnOk P w K mg base CX0 2 f_me fd_me ["parts"] (liftSp K (F_qbz)) :=
 Zao Fn sc_qbz fun cdv A outer s H E hr => (@Zag _ _ _ (@Zaj _ _ _ _ (Zat (ZaJ ZbD ZbE.r (ZaI (by rfl) T.b_len (@Zaa _ _ _ _ _ (Zab 0) Zac (by rfl))) Zad (nomark _)) (ZaQ (Zae G_qcb (hr.mono (by decide)) (by rfl) m_qcb k_qcb b_qcb (@Zaa _ _ _ _ _ (Zak (ZaL hr) (Zab 0) Zad) Zac (by rfl)))))))
end
section
variable {P : Program} {w : World} {K : W.Frag} {mg : Str -> Option Value} {base : Heap}
noncomputable abbrev s_qbw : Stmt := top 15
theorem sc_qbw : FnScope ["parts"] ["parts"] (defScope s_qbw) := ⟨rfl, rfl, rfl, by decide +kernel, rfl, by decide +kernel, by decide +kernel⟩
theorem ok_qbw {f_me : Addr} {fd_me : FuncData} {f_qbq : Addr} {fd_qbq : FuncData} (Fn : Fun K "is_of_clause" "is_of_clause" s_qbw f_me fd_me) (T : Txt mg) (G_qbq : FnOk P w K mg base CX0 3 f_qbq fd_qbq ["thing"] (liftSp K F_qbq)) (m_qbq : mg "is_clause_number" = some (.ref f_qbq)) (k_qbq : W.keepIn K (.ref f_qbq) = true) (b_qbq : L2.Binds K fd_qbq ["thing"] []) : FnOk P w K mg base CX0 4 f_me fd_me ["parts"] (liftSp K (F_qbw)) :=
 Zao Fn sc_qbw fun cdv A outer s H E hr => (@Zag _ _ _ (@Zaj _ _ _ _ (Zat (ZaJ ZbD ZbE.r (ZaI (by rfl) T.b_len (@Zaa _ _ _ _ _ (Zab 0) Zac (by rfl))) Zad (nomark _)) (ZaQ (Zae G_qbq (hr.mono (by decide)) (by rfl) m_qbq k_qbq b_qbq (@Zaa _ _ _ _ _ (Zak (ZaL hr) (Zab 0) Zad) Zac (by rfl)))))))
end
section
variable {P : Program} {w : World} {K : W.Frag} {mg : Str -> Option Value} {base : Heap}
noncomputable abbrev s_qby : Stmt := top 16
theorem sc_qby : FnScope ["parts"] ["parts"] (defScope s_qby) := ⟨rfl, rfl, rfl, by decide +kernel, rfl, by decide +kernel, by decide +kernel⟩
theorem ok_qby {f_me : Addr} {fd_me : FuncData} {f_qbq f_qbv : Addr} {fd_qbq fd_qbv : FuncData} (Fn : Fun K "is_of_part" "is_of_part" s_qby f_me fd_me) (T : Txt mg) (G_qbq : FnOk P w K mg base CX0 3 f_qbq fd_qbq ["thing"] (liftSp K F_qbq)) (m_qbq : mg "is_clause_number" = some (.ref f_qbq)) (k_qbq : W.keepIn K (.ref f_qbq) = true) (b_qbq : L2.Binds K fd_qbq ["thing"] []) (G_qbv : FnOk P w K mg base CX0 2 f_qbv fd_qbv ["thing", "bound"] (liftSp K F_qbv)) (m_qbv : mg "is_number_below" = some (.ref f_qbv)) (k_qbv : W.keepIn K (.ref f_qbv) = true) (b_qbv : L2.Binds K fd_qbv ["thing", "bound"] []) : FnOk P w K mg base CX0 4 f_me fd_me ["parts"] (liftSp K (F_qby)) :=
 Zao Fn sc_qby fun cdv A outer s H E hr => (@Zag _ _ _ (@Zaj _ _ _ _ (Zat (ZaJ ZbD ZbE.r (ZaI (by rfl) T.b_len (@Zaa _ _ _ _ _ (Zab 0) Zac (by rfl))) Zad (nomark _)) (Zat (Zae G_qbq (hr.mono (by decide)) (by rfl) m_qbq k_qbq b_qbq (@Zaa _ _ _ _ _ (Zak (ZaL hr) (Zab 0) Zad) Zac (by rfl))) (ZaQ (Zae G_qbv (hr.mono (by decide)) (by rfl) m_qbv k_qbv b_qbv (@Zaa _ _ _ _ _ (Zak (ZaL hr) (Zab 0) Zad) (@Zaa _ _ _ _ _ (Zbw (by rfl) T.c_MOST_PARTS) Zac (by rfl)) (by rfl))))))))
end
section
variable {P : Program} {w : World} {K : W.Frag} {mg : Str -> Option Value} {base : Heap}
noncomputable abbrev s_qbx : Stmt := top 17
theorem sc_qbx : FnScope ["parts"] ["parts"] (defScope s_qbx) := ⟨rfl, rfl, rfl, by decide +kernel, rfl, by decide +kernel, by decide +kernel⟩
theorem ok_qbx {f_me : Addr} {fd_me : FuncData} {f_qbq f_qcb : Addr} {fd_qbq fd_qcb : FuncData} (Fn : Fun K "is_of_house" "is_of_house" s_qbx f_me fd_me) (T : Txt mg) (G_qbq : FnOk P w K mg base CX0 3 f_qbq fd_qbq ["thing"] (liftSp K F_qbq)) (m_qbq : mg "is_clause_number" = some (.ref f_qbq)) (k_qbq : W.keepIn K (.ref f_qbq) = true) (b_qbq : L2.Binds K fd_qbq ["thing"] []) (G_qcb : FnOk P w K mg base CX0 1 f_qcb fd_qcb ["thing"] (liftSp K F_qcb)) (m_qcb : mg "is_word" = some (.ref f_qcb)) (k_qcb : W.keepIn K (.ref f_qcb) = true) (b_qcb : L2.Binds K fd_qcb ["thing"] []) : FnOk P w K mg base CX0 4 f_me fd_me ["parts"] (liftSp K (F_qbx)) :=
 Zao Fn sc_qbx fun cdv A outer s H E hr => (@Zag _ _ _ (@Zaj _ _ _ _ (Zat (ZaJ ZbD ZbE.r (ZaI (by rfl) T.b_len (@Zaa _ _ _ _ _ (Zab 0) Zac (by rfl))) Zad (nomark _)) (Zat (Zae G_qbq (hr.mono (by decide)) (by rfl) m_qbq k_qbq b_qbq (@Zaa _ _ _ _ _ (Zak (ZaL hr) (Zab 0) Zad) Zac (by rfl))) (Zat (Zae G_qcb (hr.mono (by decide)) (by rfl) m_qcb k_qcb b_qcb (@Zaa _ _ _ _ _ (Zak (ZaL hr) (Zab 0) Zad) Zac (by rfl))) (ZaQ (ZaJ op_ne ne_ok.r (Zak (ZaL hr) (Zab 0) Zad) (ZcN (by rfl) T.c_JUDGE) (nomark _))))))))
end
section
variable {P : Program} {w : World} {K : W.Frag} {mg : Str -> Option Value} {base : Heap}
noncomputable abbrev s_qbr : Stmt := top 19
theorem sc_qbr : FnScope ["thing", "fits"] ["thing"] (defScope s_qbr) := ⟨rfl, rfl, rfl, by decide +kernel, rfl, by decide +kernel, by decide +kernel⟩
theorem ok_qbr {f_me : Addr} {fd_me : FuncData} {f_qbp f_qbz f_qby f_qbw f_qbx d_DEEDS : Addr} {fd_qbp fd_qbz fd_qby fd_qbw fd_qbx : FuncData} (Fn : Fun K "is_deed" "is_deed" s_qbr f_me fd_me) (T : Txt mg) (Tm_DEEDS : mg "DEEDS" = some (.ref d_DEEDS)) (TD_DEEDS : TopD K w d_DEEDS (ZaB f_qbp f_qbz f_qby f_qbw f_qbx)) (G_qbp : FnOk P w K mg base CX0 1 f_qbp fd_qbp ["parts"] (liftSp K F_qbp)) (m_qbp : mg "is_bare" = some (.ref f_qbp)) (k_qbp : W.keepIn K (.ref f_qbp) = true) (b_qbp : L2.Binds K fd_qbp ["parts"] []) (G_qbz : FnOk P w K mg base CX0 2 f_qbz fd_qbz ["parts"] (liftSp K F_qbz)) (m_qbz : mg "is_of_word" = some (.ref f_qbz)) (k_qbz : W.keepIn K (.ref f_qbz) = true) (b_qbz : L2.Binds K fd_qbz ["parts"] []) (G_qby : FnOk P w K mg base CX0 4 f_qby fd_qby ["parts"] (liftSp K F_qby)) (m_qby : mg "is_of_part" = some (.ref f_qby)) (k_qby : W.keepIn K (.ref f_qby) = true) (b_qby : L2.Binds K fd_qby ["parts"] []) (G_qbw : FnOk P w K mg base CX0 4 f_qbw fd_qbw ["parts"] (liftSp K F_qbw)) (m_qbw : mg "is_of_clause" = some (.ref f_qbw)) (k_qbw : W.keepIn K (.ref f_qbw) = true) (b_qbw : L2.Binds K fd_qbw ["parts"] []) (G_qbx : FnOk P w K mg base CX0 4 f_qbx fd_qbx ["parts"] (liftSp K F_qbx)) (m_qbx : mg "is_of_house" = some (.ref f_qbx)) (k_qbx : W.keepIn K (.ref f_qbx) = true) (b_qbx : L2.Binds K fd_qbx ["parts"] []) : FnOk P w K mg base CX0 5 f_me fd_me ["thing"] (liftSp K (F_qbr d_DEEDS f_qbp f_qbz f_qby f_qbw f_qbx)) :=
 Zao Fn sc_qbr fun cdv A outer s H E hr => (@Zaf _ _ _ _ _ (@Zax _ _ _ _ _ _ _ _ (Zbm (ZaV (Zau (Zav (ZaR (by rfl) T.b_isinstance (by rfl) (@Zaa _ _ _ _ _ (Zab 0) (@Zaa _ _ _ _ _ (Za0 (by rfl) T.b_tuple (by rfl)) Zac (by rfl)) (by rfl))))) (ZaV (Zau (Zav (Zab 0))) (ZaV (Zau (Zav (ZaR (by rfl) T.b_isinstance (by rfl) (@Zaa _ _ _ _ _ (Zak (ZaL hr) (Zab 0) Zad) (@Zaa _ _ _ _ _ (Za0 (by rfl) T.b_str (by rfl)) Zac (by rfl)) (by rfl))))) (ZaY (Zay (op_topnotin TD_DEEDS) topI_okN (Zak (ZaL hr) (Zab 0) Zad) (q_em_top (by rfl) Tm_DEEDS) rfl)))))) (@Zag _ _ _ (@Zaj _ _ _ _ ZaD)) Zaq) (@Zaf _ _ _ _ _ (Zap (i := 1) sc_qbr.nd rfl (Or.inl rfl) (q_em_topix TD_DEEDS (q_em_top (by rfl) Tm_DEEDS) (Zak (ZaL hr) (Zab 0) Zad))) (@Zag _ _ _ (@Zaj _ _ _ _ (q_em_callV (k := 4) 1 (hv_of (fun q hq => by
  simp only [ZaP, List.mem_cons, List.not_mem_nil, or_false] at hq
  rcases hq with rfl | rfl | rfl | rfl | rfl
  ·exact ⟨_, _, G_qbp.mono (by decide), k_qbp, b_qbp⟩
  ·exact ⟨_, _, G_qbz.mono (by decide), k_qbz, b_qbz⟩
  ·exact ⟨_, _, G_qby.mono (by decide), k_qby, b_qby⟩
  ·exact ⟨_, _, G_qbw.mono (by decide), k_qbw, b_qbw⟩
  ·exact ⟨_, _, G_qbx.mono (by decide), k_qbx, b_qbx⟩)) (hr.mono (by decide)) (@Zaa _ _ _ _ _ (ZaM (Zab 0) (ZaO Zad) ZaX) Zac (by rfl)))))))
end
section
variable {P : Program} {w : World} {K : W.Frag} {mg : Str -> Option Value} {base : Heap}
noncomputable abbrev s_qbt : Stmt := top 20
theorem sc_qbt : FnScope ["thing"] ["thing"] (defScope s_qbt) := ⟨rfl, rfl, rfl, by decide +kernel, rfl, by decide +kernel, by decide +kernel⟩
theorem ok_qbt {f_me : Addr} {fd_me : FuncData} {f_qca f_qcb f_qbu : Addr} {fd_qca fd_qcb fd_qbu : FuncData} (Fn : Fun K "is_letter_name" "is_letter_name" s_qbt f_me fd_me) (T : Txt mg) (G_qca : FnOk P w K mg base CX0 1 f_qca fd_qca ["thing", "least", "most"] (liftSp K F_qca)) (m_qca : mg "is_row_of" = some (.ref f_qca)) (k_qca : W.keepIn K (.ref f_qca) = true) (b_qca : L2.Binds K fd_qca ["thing", "least", "most"] []) (G_qcb : FnOk P w K mg base CX0 1 f_qcb fd_qcb ["thing"] (liftSp K F_qcb)) (m_qcb : mg "is_word" = some (.ref f_qcb)) (k_qcb : W.keepIn K (.ref f_qcb) = true) (b_qcb : L2.Binds K fd_qcb ["thing"] []) (G_qbu : FnOk P w K mg base CX0 1 f_qbu fd_qbu ["thing", "least"] (liftSp K F_qbu)) (m_qbu : mg "is_number" = some (.ref f_qbu)) (k_qbu : W.keepIn K (.ref f_qbu) = true) (b_qbu : L2.Binds K fd_qbu ["thing", "least"] []) : FnOk P w K mg base CX0 2 f_me fd_me ["thing"] (liftSp K (F_qbt)) :=
 Zao Fn sc_qbt fun cdv A outer s H E hr => (@Zag _ _ _ (@Zaj _ _ _ _ (Zat (Zae G_qca (hr.mono (by decide)) (by rfl) m_qca k_qca b_qca (@Zaa _ _ _ _ _ (Zab 0) (@Zaa _ _ _ _ _ Zad (@Zaa _ _ _ _ _ Zad Zac (by rfl)) (by rfl)) (by rfl))) (Zat (Zae G_qcb (hr.mono (by decide)) (by rfl) m_qcb k_qcb b_qcb (@Zaa _ _ _ _ _ (Zak (ZaL hr) (Zab 0) Zad) Zac (by rfl))) (Zat (Zae G_qcb (hr.mono (by decide)) (by rfl) m_qcb k_qcb b_qcb (@Zaa _ _ _ _ _ (Zak (ZaL hr) (Zab 0) Zad) Zac (by rfl))) (ZaQ (Zae G_qbu (hr.mono (by decide)) (by rfl) m_qbu k_qbu b_qbu (@Zaa _ _ _ _ _ (Zak (ZaL hr) (Zab 0) Zad) (@Zaa _ _ _ _ _ Zad Zac (by rfl)) (by rfl)))))))))
end
section
variable {P : Program} {w : World} {K : W.Frag} {mg : Str -> Option Value} {base : Heap}
noncomputable abbrev s_qbo : Stmt := top 21
theorem sc_qbo : FnScope ["thing", "house", "deal"] ["thing", "house", "deal"] (defScope s_qbo) := ⟨rfl, rfl, rfl, by decide +kernel, rfl, by decide +kernel, by decide +kernel⟩
theorem ok_qbo {f_me : Addr} {fd_me : FuncData} {f_qca f_qbt : Addr} {fd_qca fd_qbt : FuncData} (Fn : Fun K "are_gots" "are_gots" s_qbo f_me fd_me) (T : Txt mg) (G_qca : FnOk P w K mg base CX0 1 f_qca fd_qca ["thing", "least", "most"] (liftSp K F_qca)) (m_qca : mg "is_row_of" = some (.ref f_qca)) (k_qca : W.keepIn K (.ref f_qca) = true) (b_qca : L2.Binds K fd_qca ["thing", "least", "most"] []) (G_qbt : FnOk P w K mg base CX0 2 f_qbt fd_qbt ["thing"] (liftSp K F_qbt)) (m_qbt : mg "is_letter_name" = some (.ref f_qbt)) (k_qbt : W.keepIn K (.ref f_qbt) = true) (b_qbt : L2.Binds K fd_qbt ["thing"] []) : FnOk P w K mg base CX0 3 f_me fd_me ["thing", "house", "deal"] (liftSp K (F_qbo)) :=
 Zao Fn sc_qbo fun cdv A outer s H E hr => (@Zaf _ _ _ _ _ (@Zax _ _ _ _ _ _ _ _ (Zbm (ZaV (Zau (Zav (Zae G_qca (hr.mono (by decide)) (by rfl) m_qca k_qca b_qca (@Zaa _ _ _ _ _ (Zab 0) (@Zaa _ _ _ _ _ Zad (@Zaa _ _ _ _ _ (Zbw (by rfl) T.c_MOST_GOTS) Zac (by rfl)) (by rfl)) (by rfl))))) (ZaY (Zau (Zav (Zbx rfl (by rfl) T.b_all (by rfl) (@Zaa _ _ _ _ _ (Zaw (ZaZ (vs := ["name"]) (fs := []) (fr := []) (by exact ⟨rfl, rfl, rfl, rfl, rfl, rfl, rfl⟩) rfl (Za7 (Zab 0)) (fun _ _ _ _ _ => (Zam (i := 0) (show ((["name"] : List Str) ++ ([] : List Str)).Nodup by decide +kernel) rfl (Or.inl rfl))) (fun _ _ _ _ _ => Za3) (fun _ _ _ _ _ => (Zae G_qbt (hr.mono (by decide)) (by rfl) m_qbt k_qbt b_qbt (@Zaa _ _ _ _ _ (Zab 0) Zac (by rfl)))))) Zac (by rfl)))))))) (@Zag _ _ _ (@Zaj _ _ _ _ ZaD)) Zaq) (@Zaf _ _ _ _ _ (@Zax _ _ _ _ _ _ _ _ (Zau (Zav (Zbx rfl (by rfl) T.b_all (by rfl) (@Zaa _ _ _ _ _ (Zaw (ZaZ (vs := ["low", "high"]) (fs := []) (fr := []) (by exact ⟨rfl, rfl, rfl, rfl, rfl, rfl, rfl⟩) rfl (q_im_zip (by rfl) T.b_zip (@Zaa _ _ _ _ _ (Zab 0) (@Zaa _ _ _ _ _ (ZaM (Zab 0) (ZaO Zad) ZaX) Zac (by rfl)) (by rfl))) (fun _ _ _ _ _ => (Zcf rfl (Zar (Zam (i := 0) (show ((["low", "high"] : List Str) ++ ([] : List Str)).Nodup by decide +kernel) rfl (Or.inl rfl)) (Zar (Zam (i := 1) (show ((["low", "high"] : List Str) ++ ([] : List Str)).Nodup by decide +kernel) rfl (Or.inl rfl)) ZbQ)))) (fun _ _ _ _ _ => Za3) (fun _ _ _ _ _ => (ZaJ (op_ltD (hu64 hr)) ltD_ok.r (Zab 0) (Zab 1) (nomark _))))) Zac (by rfl))))) (@Zag _ _ _ (@Zaj _ _ _ _ ZaD)) Zaq) (@Zag _ _ _ (@Zaj _ _ _ _ (Zbx rfl (by rfl) T.b_all (by rfl) (@Zaa _ _ _ _ _ (Zaw (ZaZ (vs := ["name"]) (fs := ["house", "deal"]) (fr := [1, 2]) (by exact ⟨rfl, rfl, rfl, rfl, rfl, rfl, rfl⟩) rfl (Za7 (Zab 0)) (fun _ _ _ _ _ => (Zam (i := 0) (show ((["name"] : List Str) ++ (["house", "deal"] : List Str)).Nodup by decide +kernel) rfl (Or.inl rfl))) (fun _ _ _ _ _ => Za3) (fun _ _ _ _ _ => (ZaJ (op_neD (hu64 hr)) deep_ok.r (ZaM (Zab 0) ZaX (ZaO Zad)) (Zas (@Zaa _ _ _ _ _ (Zab 1) (@Zaa _ _ _ _ _ (Zab 2) Zac (by rfl)) (by rfl))) (nomark _))))) Zac (by rfl)))))))
end
section
variable {P : Program} {w : World} {K : W.Frag} {mg : Str -> Option Value} {base : Heap}
noncomputable abbrev s_qbs : Stmt := top 22
theorem Zb2 : FnScope ["thing", "house", "deal", "nr", "prev", "gots", "time", "deed"] ["thing"] (defScope s_qbs) := ⟨rfl, rfl, rfl, by decide +kernel, rfl, by decide +kernel, by decide +kernel⟩
theorem ok_qbs {f_me : Addr} {fd_me : FuncData} {f_qca f_qbt f_qbu f_qbo f_qbr d_DEEDS f_qbp f_qbz f_qby f_qbw f_qbx : Addr} {fd_qca fd_qbt fd_qbu fd_qbo fd_qbr : FuncData} (Fn : Fun K "is_letter" "is_letter" s_qbs f_me fd_me) (T : Txt mg) (G_qca : FnOk P w K mg base CX0 1 f_qca fd_qca ["thing", "least", "most"] (liftSp K F_qca)) (m_qca : mg "is_row_of" = some (.ref f_qca)) (k_qca : W.keepIn K (.ref f_qca) = true) (b_qca : L2.Binds K fd_qca ["thing", "least", "most"] []) (G_qbt : FnOk P w K mg base CX0 2 f_qbt fd_qbt ["thing"] (liftSp K F_qbt)) (m_qbt : mg "is_letter_name" = some (.ref f_qbt)) (k_qbt : W.keepIn K (.ref f_qbt) = true) (b_qbt : L2.Binds K fd_qbt ["thing"] []) (G_qbu : FnOk P w K mg base CX0 1 f_qbu fd_qbu ["thing", "least"] (liftSp K F_qbu)) (m_qbu : mg "is_number" = some (.ref f_qbu)) (k_qbu : W.keepIn K (.ref f_qbu) = true) (b_qbu : L2.Binds K fd_qbu ["thing", "least"] []) (G_qbo : FnOk P w K mg base CX0 3 f_qbo fd_qbo ["thing", "house", "deal"] (liftSp K F_qbo)) (m_qbo : mg "are_gots" = some (.ref f_qbo)) (k_qbo : W.keepIn K (.ref f_qbo) = true) (b_qbo : L2.Binds K fd_qbo ["thing", "house", "deal"] []) (G_qbr : FnOk P w K mg base CX0 5 f_qbr fd_qbr ["thing"] (liftSp K (F_qbr d_DEEDS f_qbp f_qbz f_qby f_qbw f_qbx))) (m_qbr : mg "is_deed" = some (.ref f_qbr)) (k_qbr : W.keepIn K (.ref f_qbr) = true) (b_qbr : L2.Binds K fd_qbr ["thing"] []) : FnOk P w K mg base CX0 6 f_me fd_me ["thing"] (liftSp K (F_qbs d_DEEDS f_qbp f_qbz f_qby f_qbw f_qbx)) :=
 Zao Fn Zb2 fun cdv A outer s H E hr => (@Zaf _ _ _ _ _ (@Zax _ _ _ _ _ _ _ _ (Zbm (ZaV (Zau (Zav (Zae G_qca (hr.mono (by decide)) (by rfl) m_qca k_qca b_qca (@Zaa _ _ _ _ _ (Zab 0) (@Zaa _ _ _ _ _ Zad (@Zaa _ _ _ _ _ Zad Zac (by rfl)) (by rfl)) (by rfl))))) (ZaY (Zau (Zav (Zae G_qbt (hr.mono (by decide)) (by rfl) m_qbt k_qbt b_qbt (@Zaa _ _ _ _ _ (ZaM (Zab 0) ZaX (ZaO Zad)) Zac (by rfl)))))))) (@Zag _ _ _ (@Zaj _ _ _ _ ZaD)) Zaq) (@Zaf _ _ _ _ _ (q_sm_asg (Zab 0) (Zcf rfl (Zar (Zam (i := 1) Zb2.nd rfl (Or.inl rfl)) (Zar (Zam (i := 2) Zb2.nd rfl (Or.inl rfl)) (Zar (Zam (i := 3) Zb2.nd rfl (Or.inl rfl)) (Zar (Zam (i := 4) Zb2.nd rfl (Or.inl rfl)) (Zar (Zam (i := 5) Zb2.nd rfl (Or.inl rfl)) (Zar (Zam (i := 6) Zb2.nd rfl (Or.inl rfl)) (Zar (Zam (i := 7) Zb2.nd rfl (Or.inl rfl)) ZbQ))))))))) (@Zag _ _ _ (@Zaj _ _ _ _ (Zat (Zae G_qbu (hr.mono (by decide)) (by rfl) m_qbu k_qbu b_qbu (@Zaa _ _ _ _ _ (Zab 4) (@Zaa _ _ _ _ _ Zad Zac (by rfl)) (by rfl))) (Zat (Zae G_qbo (hr.mono (by decide)) (by rfl) m_qbo k_qbo b_qbo (@Zaa _ _ _ _ _ (Zab 5) (@Zaa _ _ _ _ _ (Zab 1) (@Zaa _ _ _ _ _ (Zab 2) Zac (by rfl)) (by rfl)) (by rfl))) (Zat (Zae G_qbu (hr.mono (by decide)) (by rfl) m_qbu k_qbu b_qbu (@Zaa _ _ _ _ _ (Zab 6) (@Zaa _ _ _ _ _ Zad Zac (by rfl)) (by rfl))) (ZaQ (Zae G_qbr (hr.mono (by decide)) (by rfl) m_qbr k_qbr b_qbr (@Zaa _ _ _ _ _ (Zab 7) Zac (by rfl)))))))))))
end
section
variable {P : Program} {w : World} {K : W.Frag} {mg : Str -> Option Value} {base : Heap}
noncomputable abbrev s_qcd : Stmt := top 23
theorem sc_qcd : FnScope ["letter"] ["letter"] (defScope s_qcd) := ⟨rfl, rfl, rfl, by decide +kernel, rfl, by decide +kernel, by decide +kernel⟩
theorem ok_qcd {f_me : Addr} {fd_me : FuncData} (Fn : Fun K "name_of" "name_of" s_qcd f_me fd_me) (T : Txt mg) : FnOk P w K mg base CX0 1 f_me fd_me ["letter"] (liftSp K (F_qcd)) :=
 Zao Fn sc_qcd fun cdv A outer s H E hr => (@Zag _ _ _ (@Zaj _ _ _ _ (ZaM (Zab 0) ZaX (ZaO Zad))))
end
section
variable {P : Program} {w : World} {K : W.Frag} {mg : Str -> Option Value} {base : Heap}
noncomputable abbrev s_qac : Stmt := top 25
theorem sc_qac : FnScope ["_law_script", "_law_k"] ["_law_script", "_law_k"] (defScope s_qac) := ⟨rfl, rfl, rfl, by decide +kernel, rfl, by decide +kernel, by decide +kernel⟩
theorem ok_qac {f_me : Addr} {fd_me : FuncData} (Fn : Fun K "_law_cell_at" "_law_cell_at" s_qac f_me fd_me) (T : Txt mg) : FnOk P w K mg base CX0 1 f_me fd_me ["_law_script", "_law_k"] (liftSp K (F_qac)) :=
 Zao Fn sc_qac fun cdv A outer s H E hr => (@Zaf _ _ _ _ _ (@Zax _ _ _ _ _ _ _ _ (Zay op_lt lt_ok.r (Zab 1) (ZaI (by rfl) T.b_len (@Zaa _ _ _ _ _ (Zab 0) Zac (by rfl))) (nomark _)) (@Zag _ _ _ (@Zaj _ _ _ _ (Zak (ZaL hr) (Zab 0) (Zab 1)))) Zaq) (@Zag _ _ _ (@Zaj _ _ _ _ Zad)))
end
section
variable {P : Program} {w : World} {K : W.Frag} {mg : Str -> Option Value} {base : Heap}
noncomputable abbrev s_qas : Stmt := top 26
theorem Zb3 : FnScope ["_law_script", "_law_k", "_law_cell", "_law_seed"] ["_law_script", "_law_k"] (defScope s_qas) := ⟨rfl, rfl, rfl, by decide +kernel, rfl, by decide +kernel, by decide +kernel⟩
theorem ok_qas {f_me : Addr} {fd_me : FuncData} {f_qac : Addr} {fd_qac : FuncData} (Fn : Fun K "_law_left" "_law_left" s_qas f_me fd_me) (T : Txt mg) (G_qac : FnOk P w K mg base CX0 1 f_qac fd_qac ["_law_script", "_law_k"] (liftSp K F_qac)) (m_qac : mg "_law_cell_at" = some (.ref f_qac)) (k_qac : W.keepIn K (.ref f_qac) = true) (b_qac : L2.Binds K fd_qac ["_law_script", "_law_k"] []) : FnOk P w K mg base CX0 2 f_me fd_me ["_law_script", "_law_k"] (liftSp K (F_qas)) :=
 Zao Fn Zb3 fun cdv A outer s H E hr => (@Zaf _ _ _ _ _ (Zap (i := 2) Zb3.nd rfl (Or.inl rfl) (Zae G_qac (hr.mono (by decide)) (by rfl) m_qac k_qac b_qac (@Zaa _ _ _ _ _ (Zab 0) (@Zaa _ _ _ _ _ (ZaN (Zab 1) (q_em_max rfl (by rfl) T.b_max (by rfl) (@Zaa _ _ _ _ _ Zad (@Zaa _ _ _ _ _ (ZaI (by rfl) T.b_len (@Zaa _ _ _ _ _ (Zab 0) Zac (by rfl))) Zac (by rfl)) (by rfl)))) Zac (by rfl)) (by rfl)))) (@Zaf _ _ _ _ _ (Zap (i := 3) Zb3.nd rfl (Or.inl rfl) (ZaN (Za4 (ZaE (ZaE (ZaN (Zab 2) Zad) (Za4 (Za4 Zad (Zab 1)) (Zab 1))) Zad) Zad) Zad)) (@Zaf _ _ _ _ _ (@Zax _ _ _ _ _ _ _ _ (Zay ZbD ZbE.r (ZaN (Zae G_qac (hr.mono (by decide)) (by rfl) m_qac k_qac b_qac (@Zaa _ _ _ _ _ (Zab 0) (@Zaa _ _ _ _ _ Zad Zac (by rfl)) (by rfl))) Zad) Zad (nomark _)) (@Zag _ _ _ (Zap (i := 2) Zb3.nd rfl (Or.inl rfl) Zad)) Zaq) (@Zag _ _ _ (ZbP (Zaz (@Zaa _ _ _ _ _ (ZaN (Zab 2) (Zbd Zad Zad)) (@Zaa _ _ _ _ _ (Zab 3) Zac (by rfl)) (by rfl))))))))
theorem okF_qas {f_me : Addr} {fd_me : FuncData} {f_qac : Addr} {fd_qac : FuncData} (Fn : Fun K "_law_left" "_law_left" s_qas f_me fd_me) (T : Txt mg) (G_qac : FnOk P w K mg base CX0 1 f_qac fd_qac ["_law_script", "_law_k"] (liftSp K F_qac)) (m_qac : mg "_law_cell_at" = some (.ref f_qac)) (k_qac : W.keepIn K (.ref f_qac) = true) (b_qac : L2.Binds K fd_qac ["_law_script", "_law_k"] []) : FnOk P w K mg base CX0 2 f_me fd_me ["_law_script", "_law_k"] (liftSpF K (FF_qas)) :=
 q_fn_mkF Fn Zb3 fun cdv A outer s H E hr => (@Zaf _ _ _ _ _ (Zap (i := 2) Zb3.nd rfl (Or.inl rfl) (Zae G_qac (hr.mono (by decide)) (by rfl) m_qac k_qac b_qac (@Zaa _ _ _ _ _ (Zab 0) (@Zaa _ _ _ _ _ (ZaN (Zab 1) (q_em_max rfl (by rfl) T.b_max (by rfl) (@Zaa _ _ _ _ _ Zad (@Zaa _ _ _ _ _ (ZaI (by rfl) T.b_len (@Zaa _ _ _ _ _ (Zab 0) Zac (by rfl))) Zac (by rfl)) (by rfl)))) Zac (by rfl)) (by rfl)))) (@Zaf _ _ _ _ _ (Zap (i := 3) Zb3.nd rfl (Or.inl rfl) (ZaN (Za4 (ZaE (ZaE (ZaN (Zab 2) Zad) (Za4 (Za4 Zad (Zab 1)) (Zab 1))) Zad) Zad) Zad)) (@Zaf _ _ _ _ _ (@Zax _ _ _ _ _ _ _ _ (Zay ZbD ZbE.r (ZaN (Zae G_qac (hr.mono (by decide)) (by rfl) m_qac k_qac b_qac (@Zaa _ _ _ _ _ (Zab 0) (@Zaa _ _ _ _ _ Zad Zac (by rfl)) (by rfl))) Zad) Zad (nomark _)) (@Zag _ _ _ (Zap (i := 2) Zb3.nd rfl (Or.inl rfl) Zad)) Zaq) (@Zag _ _ _ (ZbP (Zaz (@Zaa _ _ _ _ _ (ZaN (Zab 2) (Zbd Zad Zad)) (@Zaa _ _ _ _ _ (Zab 3) Zac (by rfl)) (by rfl))))))))
end
section
variable {P : Program} {w : World} {K : W.Frag} {mg : Str -> Option Value} {base : Heap}
noncomputable abbrev s_qba : Stmt := top 27
theorem sc_qba : FnScope ["_law_left_here", "_law_many", "_law_digit"] ["_law_left_here", "_law_many"] (defScope s_qba) := ⟨rfl, rfl, rfl, by decide +kernel, rfl, by decide +kernel, by decide +kernel⟩
theorem ok_qba {f_me : Addr} {fd_me : FuncData} (Fn : Fun K "_law_pick" "_law_pick" s_qba f_me fd_me) (T : Txt mg) : FnOk P w K mg base CX0 1 f_me fd_me ["_law_left_here", "_law_many"] (liftSp K (F_qba)) :=
 Zao Fn sc_qba fun cdv A outer s H E hr => (@Zaf _ _ _ _ _ (@Zax _ _ _ _ _ _ _ _ (Zay op_gt gt_ok.r (Zak (ZaL hr) (Zab 0) Zad) Zad (nomark _)) (@Zaf _ _ _ _ _ (Zap (i := 2) sc_qba.nd rfl (Or.inl rfl) (ZaN (Zak (ZaL hr) (Zab 0) Zad) (Zab 1))) (@Zaf _ _ _ _ _ (ZcL (q_em_fdiv (Zak (ZaL hr) (Zab 0) Zad) (Zab 1)) (Zab 0) Zad) (@Zag _ _ _ (@Zaj _ _ _ _ (Zab 2))))) Zaq) (@Zaf _ _ _ _ _ (ZcL (ZaN (ZaE (Za4 (Zak (ZaL hr) (Zab 0) Zad) Zad) Zad) Zad) (Zab 0) Zad) (@Zag _ _ _ (@Zaj _ _ _ _ (ZaN (ZaN (Za4 (Zak (ZaL hr) (Zab 0) Zad) (Zak (ZaL hr) (Zab 0) Zad)) Zad) (Zab 1))))))
end
section
variable {P : Program} {w : World} {K : W.Frag} {mg : Str -> Option Value} {base : Heap}
noncomputable abbrev s_qbm : Stmt := top 28
theorem sc_qbm : FnScope ["_law_left_here", "_law_many", "_law_letters", "_law_first", "_law_step"] ["_law_left_here", "_law_many"] (defScope s_qbm) := ⟨rfl, rfl, rfl, by decide +kernel, rfl, by decide +kernel, by decide +kernel⟩
theorem ok_qbm {f_me : Addr} {fd_me : FuncData} {f_qba : Addr} {fd_qba : FuncData} (Fn : Fun K "_law_words" "_law_words" s_qbm f_me fd_me) (T : Txt mg) (G_qba : FnOk P w K mg base CX0 1 f_qba fd_qba ["_law_left_here", "_law_many"] (liftSp K F_qba)) (m_qba : mg "_law_pick" = some (.ref f_qba)) (k_qba : W.keepIn K (.ref f_qba) = true) (b_qba : L2.Binds K fd_qba ["_law_left_here", "_law_many"] []) : FnOk P w K mg base CX0 2 f_me fd_me ["_law_left_here", "_law_many"] (liftSp K (F_qbm)) :=
 Zao Fn sc_qbm fun cdv A outer s H E hr => (@Zaf _ _ _ _ _ (Zap (i := 2) sc_qbm.nd rfl (Or.inr rfl) Zai) (@Zaf _ _ _ _ _ (Zap (i := 3) sc_qbm.nd rfl (Or.inr rfl) (Zae G_qba (hr.mono (by decide)) (by rfl) m_qba k_qba b_qba (@Zaa _ _ _ _ _ (Zab 0) (@Zaa _ _ _ _ _ Zad Zac (by rfl)) (by rfl)))) (@Zaf _ _ _ _ _ (Zap (i := 4) sc_qbm.nd rfl (Or.inr rfl) (Zak (ZaL hr) (Zaw (Zaz (@Zaa _ _ _ _ _ Zad (@Zaa _ _ _ _ _ Zad (@Zaa _ _ _ _ _ Zad (@Zaa _ _ _ _ _ Zad (@Zaa _ _ _ _ _ Zad (@Zaa _ _ _ _ _ Zad Zac (by rfl)) (by rfl)) (by rfl)) (by rfl)) (by rfl)) (by rfl)))) (Zae G_qba (hr.mono (by decide)) (by rfl) m_qba k_qba b_qba (@Zaa _ _ _ _ _ (Zab 0) (@Zaa _ _ _ _ _ Zad Zac (by rfl)) (by rfl))))) (@Zag _ _ _ (ZbP (ZaZ (vs := ["_law_k"]) (fs := ["_law_letters", "_law_first", "_law_step"]) (fr := [2, 3, 4]) (by exact ⟨rfl, rfl, rfl, rfl, rfl, rfl, rfl⟩) rfl (Zbo (by rfl) T.b_range (@Zaa _ _ _ _ _ (Zab 1) Zac (by rfl))) (fun _ _ _ _ _ => (Zam (i := 0) (show ((["_law_k"] : List Str) ++ (["_law_letters", "_law_first", "_law_step"] : List Str)).Nodup by decide +kernel) rfl (Or.inl rfl))) (fun _ _ _ _ _ => Za3) (fun _ _ _ _ _ => (ZaE (Zak (ZaL hr) (Zab 1) (ZaN (ZaE (Zab 2) (Za4 (Zab 3) (Zab 0))) Zad)) (Zak (ZaL hr) (Zaw (Zaz (@Zaa _ _ _ _ _ Zai (@Zaa _ _ _ _ _ Zai (@Zaa _ _ _ _ _ Zai (@Zaa _ _ _ _ _ Zai Zac (by rfl)) (by rfl)) (by rfl)) (by rfl)))) (ZaN (ZaE (Zab 2) (Za4 (Zab 0) (Zab 0))) Zad))))))))))
end
section
variable {P : Program} {w : World} {K : W.Frag} {mg : Str -> Option Value} {base : Heap}
noncomputable abbrev s_qag : Stmt := top 29
theorem sc_qag : FnScope [] [] (defScope s_qag) := ⟨rfl, rfl, rfl, by decide +kernel, rfl, by decide +kernel, by decide +kernel⟩
theorem ok_qag {f_me : Addr} {fd_me : FuncData} (Fn : Fun K "_law_forms" "_law_forms" s_qag f_me fd_me) (T : Txt mg) : FnOk P w K mg base CX0 1 f_me fd_me [] (liftSp K (F_qag)) :=
 Zao Fn sc_qag fun cdv A outer s H E hr => (@Zag _ _ _ (@Zaj _ _ _ _ (q_em_dict (@Za5 _ _ _ _ _ _ _ _ _ _ Zai (@Za5 _ _ _ _ _ _ _ _ _ _ Zai (@Za5 _ _ _ _ _ _ _ _ _ _ Zai (@Za5 _ _ _ _ _ _ _ _ _ _ Zai (@Za5 _ _ _ _ _ _ _ _ _ _ Zai (@Za5 _ _ _ _ _ _ _ _ _ _ Zai (@Za5 _ _ _ _ _ _ _ _ _ _ Zai (@Za5 _ _ _ _ _ _ _ _ _ _ Zai q_dm_nil)))))))) (by decide +kernel) rfl rfl (by simp) (by decide) rfl)))
end
section
variable {P : Program} {w : World} {K : W.Frag} {mg : Str -> Option Value} {base : Heap}
noncomputable abbrev s_qbk : Stmt := top 30
theorem sc_qbk : FnScope ["_law_thing", "_law_least", "_law_most"] ["_law_thing", "_law_least", "_law_most"] (defScope s_qbk) := ⟨rfl, rfl, rfl, by decide +kernel, rfl, by decide +kernel, by decide +kernel⟩
theorem ok_qbk {f_me : Addr} {fd_me : FuncData} (Fn : Fun K "_law_whole" "_law_whole" s_qbk f_me fd_me) (T : Txt mg) : FnOk P w K mg base CX0 1 f_me fd_me ["_law_thing", "_law_least", "_law_most"] (liftSp K (F_qbk)) :=
 Zao Fn sc_qbk fun cdv A outer s H E hr => (@Zag _ _ _ (@Zaj _ _ _ _ (Zat (ZaR (by rfl) T.b_isinstance (by rfl) (@Zaa _ _ _ _ _ (Zab 0) (@Zaa _ _ _ _ _ (Za0 (by rfl) T.b_int (by rfl)) Zac (by rfl)) (by rfl))) (Zat (q_em_not (ZaR (by rfl) T.b_isinstance (by rfl) (@Zaa _ _ _ _ _ (Zab 0) (@Zaa _ _ _ _ _ (Za0 (by rfl) T.b_bool (by rfl)) Zac (by rfl)) (by rfl)))) (ZaQ (ZbY op_le op_le le_ok.r le_ok.r (Zab 1) (Zab 0) (Zab 2)))))))
end
section
variable {P : Program} {w : World} {K : W.Frag} {mg : Str -> Option Value} {base : Heap}
noncomputable abbrev s_qaq : Stmt := top 31
theorem sc_qaq : FnScope ["_law_thing"] ["_law_thing"] (defScope s_qaq) := ⟨rfl, rfl, rfl, by decide +kernel, rfl, by decide +kernel, by decide +kernel⟩
theorem ok_qaq {f_me : Addr} {fd_me : FuncData} (Fn : Fun K "_law_is_word" "_law_is_word" s_qaq f_me fd_me) (T : Txt mg) : FnOk P w K mg base CX0 1 f_me fd_me ["_law_thing"] (liftSp K (F_qaq)) :=
 Zao Fn sc_qaq fun cdv A outer s H E hr => (@Zag _ _ _ (@Zaj _ _ _ _ (Zat (ZaR (by rfl) T.b_isinstance (by rfl) (@Zaa _ _ _ _ _ (Zab 0) (@Zaa _ _ _ _ _ (Za0 (by rfl) T.b_str (by rfl)) Zac (by rfl)) (by rfl))) (Zat (ZbY op_le op_le le_ok.r le_ok.r Zad (ZaI (by rfl) T.b_len (@Zaa _ _ _ _ _ (Zab 0) Zac (by rfl))) Zad) (ZaQ (ZaJ ZbD ZbE.r (q_em_strip (Zab 0) (@Zaa _ _ _ _ _ Zai Zac (by rfl))) Zai (nomark _)))))))
end
section
variable {P : Program} {w : World} {K : W.Frag} {mg : Str -> Option Value} {base : Heap}
noncomputable abbrev s_qae : Stmt := top 32
theorem sc_qae : FnScope ["_law_sign", "_law_thing"] ["_law_sign", "_law_thing"] (defScope s_qae) := ⟨rfl, rfl, rfl, by decide +kernel, rfl, by decide +kernel, by decide +kernel⟩
theorem ok_qae {f_me : Addr} {fd_me : FuncData} {f_qaq f_qbk : Addr} {fd_qaq fd_qbk : FuncData} (Fn : Fun K "_law_fits" "_law_fits" s_qae f_me fd_me) (T : Txt mg) (G_qaq : FnOk P w K mg base CX0 1 f_qaq fd_qaq ["_law_thing"] (liftSp K F_qaq)) (m_qaq : mg "_law_is_word" = some (.ref f_qaq)) (k_qaq : W.keepIn K (.ref f_qaq) = true) (b_qaq : L2.Binds K fd_qaq ["_law_thing"] []) (G_qbk : FnOk P w K mg base CX0 1 f_qbk fd_qbk ["_law_thing", "_law_least", "_law_most"] (liftSp K F_qbk)) (m_qbk : mg "_law_whole" = some (.ref f_qbk)) (k_qbk : W.keepIn K (.ref f_qbk) = true) (b_qbk : L2.Binds K fd_qbk ["_law_thing", "_law_least", "_law_most"] []) : FnOk P w K mg base CX0 2 f_me fd_me ["_law_sign", "_law_thing"] (liftSp K (F_qae)) :=
 Zao Fn sc_qae fun cdv A outer s H E hr => (@Zaf _ _ _ _ _ (@Zax _ _ _ _ _ _ _ _ (Zay op_inAll in_ok.r (Zab 0) Zai rfl) (@Zag _ _ _ (@Zaj _ _ _ _ (Zat (Zae G_qaq (hr.mono (by decide)) (by rfl) m_qaq k_qaq b_qaq (@Zaa _ _ _ _ _ (Zab 1) Zac (by rfl))) (ZaQ (q_em_or (ZaJ ZbD ZbE.r (Zab 0) Zai (nomark _)) (ZaQ (ZaJ op_ne ne_ok.r (Zab 1) Zai (nomark _)))))))) Zaq) (@Zag _ _ _ (@Zaj _ _ _ _ (Zae G_qbk (hr.mono (by decide)) (by rfl) m_qbk k_qbk b_qbk (@Zaa _ _ _ _ _ (Zab 1) (@Zaa _ _ _ _ _ Zad (@Zaa _ _ _ _ _ (Zak (ZaL hr) (Zaw (Zaz (@Zaa _ _ _ _ _ Zad (@Zaa _ _ _ _ _ Zad Zac (by rfl)) (by rfl)))) (Zcr (by rfl) T.b_int (by rfl) (@Zaa _ _ _ _ _ (ZaJ ZbD ZbE.r (Zab 0) Zai (nomark _)) Zac (by rfl)))) Zac (by rfl)) (by rfl)) (by rfl))))))
end
section
variable {P : Program} {w : World} {K : W.Frag} {mg : Str -> Option Value} {base : Heap}
noncomputable abbrev s_qak : Stmt := top 33
theorem sc_qak : FnScope ["_law_thing", "_law_signs"] ["_law_thing"] (defScope s_qak) := ⟨rfl, rfl, rfl, by decide +kernel, rfl, by decide +kernel, by decide +kernel⟩
theorem ok_qak {f_me : Addr} {fd_me : FuncData} {f_qag f_qae : Addr} {fd_qag fd_qae : FuncData} (Fn : Fun K "_law_is_deed" "_law_is_deed" s_qak f_me fd_me) (T : Txt mg) (G_qag : FnOk P w K mg base CX0 1 f_qag fd_qag [] (liftSp K F_qag)) (m_qag : mg "_law_forms" = some (.ref f_qag)) (k_qag : W.keepIn K (.ref f_qag) = true) (b_qag : L2.Binds K fd_qag [] []) (G_qae : FnOk P w K mg base CX0 2 f_qae fd_qae ["_law_sign", "_law_thing"] (liftSp K F_qae)) (m_qae : mg "_law_fits" = some (.ref f_qae)) (k_qae : W.keepIn K (.ref f_qae) = true) (b_qae : L2.Binds K fd_qae ["_law_sign", "_law_thing"] []) : FnOk P w K mg base CX0 3 f_me fd_me ["_law_thing"] (liftSp K (F_qak)) :=
 Zao Fn sc_qak fun cdv A outer s H E hr => (@Zaf _ _ _ _ _ (@Zax _ _ _ _ _ _ _ _ (Zbm (ZaV (Zau (Zav (ZaR (by rfl) T.b_isinstance (by rfl) (@Zaa _ _ _ _ _ (Zab 0) (@Zaa _ _ _ _ _ (Za0 (by rfl) T.b_tuple (by rfl)) Zac (by rfl)) (by rfl))))) (ZaV (Zay ZbD ZbE.r (ZaI (by rfl) T.b_len (@Zaa _ _ _ _ _ (Zab 0) Zac (by rfl))) Zad (nomark _)) (ZaY (Zau (Zav (ZaR (by rfl) T.b_isinstance (by rfl) (@Zaa _ _ _ _ _ (Zak (ZaL hr) (Zab 0) Zad) (@Zaa _ _ _ _ _ (Za0 (by rfl) T.b_str (by rfl)) Zac (by rfl)) (by rfl))))))))) (@Zag _ _ _ (@Zaj _ _ _ _ ZaD)) Zaq) (@Zaf _ _ _ _ _ (Zap (i := 1) sc_qak.nd rfl (Or.inl rfl) (q_em_get1 (ZcP G_qag (hr.mono (by decide)) (by rfl) m_qag k_qag b_qag) (@Zaa _ _ _ _ _ (Zak (ZaL hr) (Zab 0) Zad) Zac (by rfl)))) (@Zaf _ _ _ _ _ (@Zax _ _ _ _ _ _ _ _ (Zbm (ZaV (Zay op_isN isN_ok.r (Zab 1) q_em_non (nomark _)) (ZaY (Zay op_ne ne_ok.r (ZaI (by rfl) T.b_len (@Zaa _ _ _ _ _ (Zab 0) Zac (by rfl))) (ZaE Zad (ZaI (by rfl) T.b_len (@Zaa _ _ _ _ _ (Zab 1) Zac (by rfl)))) (nomark _))))) (@Zag _ _ _ (@Zaj _ _ _ _ ZaD)) Zaq) (@Zag _ _ _ (@Zaj _ _ _ _ (Zbx rfl (by rfl) T.b_all (by rfl) (@Zaa _ _ _ _ _ (Zaw (ZaZ (vs := ["_law_sign", "_law_part"]) (fs := []) (fr := []) (by exact ⟨rfl, rfl, rfl, rfl, rfl, rfl, rfl⟩) rfl (q_im_zip (by rfl) T.b_zip (@Zaa _ _ _ _ _ (Zab 1) (@Zaa _ _ _ _ _ (ZaM (Zab 0) (ZaO Zad) ZaX) Zac (by rfl)) (by rfl))) (fun _ _ _ _ _ => (Zcf rfl (Zar (Zam (i := 0) (show ((["_law_sign", "_law_part"] : List Str) ++ ([] : List Str)).Nodup by decide +kernel) rfl (Or.inl rfl)) (Zar (Zam (i := 1) (show ((["_law_sign", "_law_part"] : List Str) ++ ([] : List Str)).Nodup by decide +kernel) rfl (Or.inl rfl)) ZbQ)))) (fun _ _ _ _ _ => Za3) (fun _ _ _ _ _ => (Zae G_qae (hr.mono (by decide)) (by rfl) m_qae k_qae b_qae (@Zaa _ _ _ _ _ (Zab 0) (@Zaa _ _ _ _ _ (Zab 1) Zac (by rfl)) (by rfl)))))) Zac (by rfl))))))))
end
section
variable {P : Program} {w : World} {K : W.Frag} {mg : Str -> Option Value} {base : Heap}
noncomputable abbrev s_qbi : Stmt := top 34
theorem sc_qbi : FnScope ["_law_left_here", "_law_letters", "_law_text_here"] ["_law_left_here"] (defScope s_qbi) := ⟨rfl, rfl, rfl, by decide +kernel, rfl, by decide +kernel, by decide +kernel⟩
theorem ok_qbi {f_me : Addr} {fd_me : FuncData} {f_qba : Addr} {fd_qba : FuncData} (Fn : Fun K "_law_text" "_law_text" s_qbi f_me fd_me) (T : Txt mg) (G_qba : FnOk P w K mg base CX0 1 f_qba fd_qba ["_law_left_here", "_law_many"] (liftSp K F_qba)) (m_qba : mg "_law_pick" = some (.ref f_qba)) (k_qba : W.keepIn K (.ref f_qba) = true) (b_qba : L2.Binds K fd_qba ["_law_left_here", "_law_many"] []) : FnOk P w K mg base CX0 2 f_me fd_me ["_law_left_here"] (liftSp K (F_qbi)) :=
 Zao Fn sc_qbi fun cdv A outer s H E hr => (@Zaf _ _ _ _ _ (Zap (i := 1) sc_qbi.nd rfl (Or.inr rfl) Zai) (@Zaf _ _ _ _ _ (Zap (i := 2) sc_qbi.nd rfl (Or.inl rfl) (q_em_join Zai (@Zaa _ _ _ _ _ (Zaw (ZaZ (vs := ["_law_k"]) (fs := ["_law_letters", "_law_left_here"]) (fr := [1, 0]) (by exact ⟨rfl, rfl, rfl, rfl, rfl, rfl, rfl⟩) rfl (Zbo (by rfl) T.b_range (@Zaa _ _ _ _ _ (ZaE Zad (Zae G_qba (hr.mono (by decide)) (by rfl) m_qba k_qba b_qba (@Zaa _ _ _ _ _ (Zab 0) (@Zaa _ _ _ _ _ Zad Zac (by rfl)) (by rfl)))) Zac (by rfl))) (fun _ _ _ _ _ => (Zam (i := 0) (show ((["_law_k"] : List Str) ++ (["_law_letters", "_law_left_here"] : List Str)).Nodup by decide +kernel) rfl (Or.inl rfl))) (fun _ _ _ _ _ => Za3) (fun _ _ _ _ _ => (Zak (ZaL hr) (Zab 1) (Zae G_qba (hr.mono (by decide)) (by rfl) m_qba k_qba b_qba (@Zaa _ _ _ _ _ (Zab 2) (@Zaa _ _ _ _ _ Zad Zac (by rfl)) (by rfl))))))) Zac (by rfl)))) (@Zag _ _ _ (@Zaj _ _ _ _ (Zak (ZaL hr) (Zaw (Zaz (@Zaa _ _ _ _ _ (Zab 2) (@Zaa _ _ _ _ _ Zai Zac (by rfl)) (by rfl)))) (Zcr (by rfl) T.b_int (by rfl) (@Zaa _ _ _ _ _ (ZaJ ZbD ZbE.r (Zab 2) Zai (nomark _)) Zac (by rfl))))))))
end
section
variable {P : Program} {w : World} {K : W.Frag} {mg : Str -> Option Value} {base : Heap}
noncomputable abbrev s_qai : Stmt := top 35
theorem sc_qai : FnScope ["_law_left_here", "_law_word", "_law_parts", "_law_sign"] ["_law_left_here"] (defScope s_qai) := ⟨rfl, rfl, rfl, by decide +kernel, rfl, by decide +kernel, by decide +kernel⟩
theorem ok_qai {f_me : Addr} {fd_me : FuncData} {f_qba f_qag f_qbi : Addr} {fd_qba fd_qag fd_qbi : FuncData} (Fn : Fun K "_law_good" "_law_good" s_qai f_me fd_me) (T : Txt mg) (G_qba : FnOk P w K mg base CX0 1 f_qba fd_qba ["_law_left_here", "_law_many"] (liftSp K F_qba)) (m_qba : mg "_law_pick" = some (.ref f_qba)) (k_qba : W.keepIn K (.ref f_qba) = true) (b_qba : L2.Binds K fd_qba ["_law_left_here", "_law_many"] []) (G_qag : FnOk P w K mg base CX0 1 f_qag fd_qag [] (liftSp K F_qag)) (m_qag : mg "_law_forms" = some (.ref f_qag)) (k_qag : W.keepIn K (.ref f_qag) = true) (b_qag : L2.Binds K fd_qag [] []) (G_qbi : FnOk P w K mg base CX0 2 f_qbi fd_qbi ["_law_left_here"] (liftSp K F_qbi)) (m_qbi : mg "_law_text" = some (.ref f_qbi)) (k_qbi : W.keepIn K (.ref f_qbi) = true) (b_qbi : L2.Binds K fd_qbi ["_law_left_here"] []) : FnOk P w K mg base CX0 3 f_me fd_me ["_law_left_here"] (liftSp K (F_qai)) :=
 Zao Fn sc_qai fun cdv A outer s H E hr => (@Zaf _ _ _ _ _ (Zap (i := 1) sc_qai.nd rfl (Or.inl rfl) (Zak (ZaL hr) (Zaw (Zaz (@Zaa _ _ _ _ _ Zai (@Zaa _ _ _ _ _ Zai (@Zaa _ _ _ _ _ Zai (@Zaa _ _ _ _ _ Zai (@Zaa _ _ _ _ _ Zai (@Zaa _ _ _ _ _ Zai (@Zaa _ _ _ _ _ Zai (@Zaa _ _ _ _ _ Zai Zac (by rfl)) (by rfl)) (by rfl)) (by rfl)) (by rfl)) (by rfl)) (by rfl)) (by rfl)))) (Zae G_qba (hr.mono (by decide)) (by rfl) m_qba k_qba b_qba (@Zaa _ _ _ _ _ (Zab 0) (@Zaa _ _ _ _ _ Zad Zac (by rfl)) (by rfl))))) (@Zaf _ _ _ _ _ (q_sm_new (i := 2) sc_qai.nd rfl (Or.inl rfl) (Zaz Zac)) (@Zaf _ _ _ _ _ (Zbv PassesOwn.never rfl (Za7 (Zak (ZaL hr) (ZcP G_qag (hr.mono (by decide)) (by rfl) m_qag k_qag b_qag) (Zab 1))) (Zam (i := 3) sc_qai.nd rfl (Or.inl rfl)) (@Zag _ _ _ (q_sm_expr (q_em_append (Zab 2) (@Zaa _ _ _ _ _ (Zak (ZaL hr) (Zaw (Zaz (@Zaa _ _ _ _ _ (Zae G_qbi (hr.mono (by decide)) (by rfl) m_qbi k_qbi b_qbi (@Zaa _ _ _ _ _ (Zab 0) Zac (by rfl))) (@Zaa _ _ _ _ _ (Zae G_qba (hr.mono (by decide)) (by rfl) m_qba k_qba b_qba (@Zaa _ _ _ _ _ (Zab 0) (@Zaa _ _ _ _ _ Zad Zac (by rfl)) (by rfl))) (@Zaa _ _ _ _ _ (Zae G_qba (hr.mono (by decide)) (by rfl) m_qba k_qba b_qba (@Zaa _ _ _ _ _ (Zab 0) (@Zaa _ _ _ _ _ Zad Zac (by rfl)) (by rfl))) Zac (by rfl)) (by rfl)) (by rfl)))) (ZaN (q_em_index (Zaw (Zaz (@Zaa _ _ _ _ _ Zai (@Zaa _ _ _ _ _ Zai (@Zaa _ _ _ _ _ Zai (@Zaa _ _ _ _ _ Zai Zac (by rfl)) (by rfl)) (by rfl)) (by rfl)))) (@Zaa _ _ _ _ _ (Zab 3) Zac (by rfl))) Zad)) Zac (by rfl)))))) (@Zag _ _ _ (@Zaj _ _ _ _ (ZaE (Zas (@Zaa _ _ _ _ _ (Zab 1) Zac (by rfl))) (q_em_tupc (by rfl) T.b_tuple (by rfl) (@Zaa _ _ _ _ _ (Zab 2) Zac (by rfl)))))))))
end
section
variable {P : Program} {w : World} {K : W.Frag} {mg : Str -> Option Value} {base : Heap}
noncomputable abbrev s_qaw : Stmt := top 36
theorem sc_qaw : FnScope ["_law_left_here", "_law_least", "_law_some"] ["_law_left_here", "_law_least"] (defScope s_qaw) := ⟨rfl, rfl, rfl, by decide +kernel, rfl, by decide +kernel, by decide +kernel⟩
theorem ok_qaw {f_me : Addr} {fd_me : FuncData} {f_qba : Addr} {fd_qba : FuncData} (Fn : Fun K "_law_number" "_law_number" s_qaw f_me fd_me) (T : Txt mg) (G_qba : FnOk P w K mg base CX0 1 f_qba fd_qba ["_law_left_here", "_law_many"] (liftSp K F_qba)) (m_qba : mg "_law_pick" = some (.ref f_qba)) (k_qba : W.keepIn K (.ref f_qba) = true) (b_qba : L2.Binds K fd_qba ["_law_left_here", "_law_many"] []) : FnOk P w K mg base CX0 2 f_me fd_me ["_law_left_here", "_law_least"] (liftSp K (F_qaw)) :=
 Zao Fn sc_qaw fun cdv A outer s H E hr => (@Zaf _ _ _ _ _ (Zap (i := 2) sc_qaw.nd rfl (Or.inl rfl) (Zaw (Zaz (@Zaa _ _ _ _ _ (ZaE (Zab 1) (Zae G_qba (hr.mono (by decide)) (by rfl) m_qba k_qba b_qba (@Zaa _ _ _ _ _ (Zab 0) (@Zaa _ _ _ _ _ Zad Zac (by rfl)) (by rfl)))) (@Zaa _ _ _ _ _ (ZaE (Zab 1) (Zae G_qba (hr.mono (by decide)) (by rfl) m_qba k_qba b_qba (@Zaa _ _ _ _ _ (Zab 0) (@Zaa _ _ _ _ _ Zad Zac (by rfl)) (by rfl)))) (@Zaa _ _ _ _ _ (q_em_sub (q_em_sub (Zbd Zad Zad) Zad) (Zae G_qba (hr.mono (by decide)) (by rfl) m_qba k_qba b_qba (@Zaa _ _ _ _ _ (Zab 0) (@Zaa _ _ _ _ _ Zad Zac (by rfl)) (by rfl)))) Zac (by rfl)) (by rfl)) (by rfl))))) (@Zag _ _ _ (@Zaj _ _ _ _ (Zak (ZaL hr) (Zab 2) (Zae G_qba (hr.mono (by decide)) (by rfl) m_qba k_qba b_qba (@Zaa _ _ _ _ _ (Zab 0) (@Zaa _ _ _ _ _ Zad Zac (by rfl)) (by rfl)))))))
end
section
variable {P : Program} {w : World} {K : W.Frag} {mg : Str -> Option Value} {base : Heap}
noncomputable abbrev s_qao : Stmt := top 37
theorem sc_qao : FnScope ["_law_thing"] ["_law_thing"] (defScope s_qao) := ⟨rfl, rfl, rfl, by decide +kernel, rfl, by decide +kernel, by decide +kernel⟩
theorem ok_qao {f_me : Addr} {fd_me : FuncData} {f_qaq f_qbk : Addr} {fd_qaq fd_qbk : FuncData} (Fn : Fun K "_law_is_name" "_law_is_name" s_qao f_me fd_me) (T : Txt mg) (G_qaq : FnOk P w K mg base CX0 1 f_qaq fd_qaq ["_law_thing"] (liftSp K F_qaq)) (m_qaq : mg "_law_is_word" = some (.ref f_qaq)) (k_qaq : W.keepIn K (.ref f_qaq) = true) (b_qaq : L2.Binds K fd_qaq ["_law_thing"] []) (G_qbk : FnOk P w K mg base CX0 1 f_qbk fd_qbk ["_law_thing", "_law_least", "_law_most"] (liftSp K F_qbk)) (m_qbk : mg "_law_whole" = some (.ref f_qbk)) (k_qbk : W.keepIn K (.ref f_qbk) = true) (b_qbk : L2.Binds K fd_qbk ["_law_thing", "_law_least", "_law_most"] []) : FnOk P w K mg base CX0 2 f_me fd_me ["_law_thing"] (liftSp K (F_qao)) :=
 Zao Fn sc_qao fun cdv A outer s H E hr => (@Zaf _ _ _ _ _ (@Zax _ _ _ _ _ _ _ _ (Zbm (ZaV (Zau (Zav (ZaR (by rfl) T.b_isinstance (by rfl) (@Zaa _ _ _ _ _ (Zab 0) (@Zaa _ _ _ _ _ (Za0 (by rfl) T.b_tuple (by rfl)) Zac (by rfl)) (by rfl))))) (ZaY (Zay op_ne ne_ok.r (ZaI (by rfl) T.b_len (@Zaa _ _ _ _ _ (Zab 0) Zac (by rfl))) Zad (nomark _))))) (@Zag _ _ _ (@Zaj _ _ _ _ ZaD)) Zaq) (@Zag _ _ _ (@Zaj _ _ _ _ (Zat (Zae G_qaq (hr.mono (by decide)) (by rfl) m_qaq k_qaq b_qaq (@Zaa _ _ _ _ _ (Zak (ZaL hr) (Zab 0) Zad) Zac (by rfl))) (Zat (Zae G_qaq (hr.mono (by decide)) (by rfl) m_qaq k_qaq b_qaq (@Zaa _ _ _ _ _ (Zak (ZaL hr) (Zab 0) Zad) Zac (by rfl))) (ZaQ (Zae G_qbk (hr.mono (by decide)) (by rfl) m_qbk k_qbk b_qbk (@Zaa _ _ _ _ _ (Zak (ZaL hr) (Zab 0) Zad) (@Zaa _ _ _ _ _ Zad (@Zaa _ _ _ _ _ (Zbd Zad Zad) Zac (by rfl)) (by rfl)) (by rfl)))))))))
end
section
variable {P : Program} {w : World} {K : W.Frag} {mg : Str -> Option Value} {base : Heap}
noncomputable abbrev s_qaa : Stmt := top 38
theorem sc_qaa : FnScope ["_law_thing", "_law_house", "_law_deal"] ["_law_thing", "_law_house", "_law_deal"] (defScope s_qaa) := ⟨rfl, rfl, rfl, by decide +kernel, rfl, by decide +kernel, by decide +kernel⟩
theorem ok_qaa {f_me : Addr} {fd_me : FuncData} {f_qao : Addr} {fd_qao : FuncData} (Fn : Fun K "_law_are_gots" "_law_are_gots" s_qaa f_me fd_me) (T : Txt mg) (G_qao : FnOk P w K mg base CX0 2 f_qao fd_qao ["_law_thing"] (liftSp K F_qao)) (m_qao : mg "_law_is_name" = some (.ref f_qao)) (k_qao : W.keepIn K (.ref f_qao) = true) (b_qao : L2.Binds K fd_qao ["_law_thing"] []) : FnOk P w K mg base CX0 3 f_me fd_me ["_law_thing", "_law_house", "_law_deal"] (liftSp K (F_qaa)) :=
 Zao Fn sc_qaa fun cdv A outer s H E hr => (@Zaf _ _ _ _ _ (@Zax _ _ _ _ _ _ _ _ (Zbm (ZaV (Zau (Zav (ZaR (by rfl) T.b_isinstance (by rfl) (@Zaa _ _ _ _ _ (Zab 0) (@Zaa _ _ _ _ _ (Za0 (by rfl) T.b_tuple (by rfl)) Zac (by rfl)) (by rfl))))) (ZaV (Zay op_gt gt_ok.r (ZaI (by rfl) T.b_len (@Zaa _ _ _ _ _ (Zab 0) Zac (by rfl))) Zad (nomark _)) (ZaY (Zau (Zav (Zbx rfl (by rfl) T.b_all (by rfl) (@Zaa _ _ _ _ _ (Zaw (ZaZ (vs := ["_law_name"]) (fs := []) (fr := []) (by exact ⟨rfl, rfl, rfl, rfl, rfl, rfl, rfl⟩) rfl (Za7 (Zab 0)) (fun _ _ _ _ _ => (Zam (i := 0) (show ((["_law_name"] : List Str) ++ ([] : List Str)).Nodup by decide +kernel) rfl (Or.inl rfl))) (fun _ _ _ _ _ => Za3) (fun _ _ _ _ _ => (Zae G_qao (hr.mono (by decide)) (by rfl) m_qao k_qao b_qao (@Zaa _ _ _ _ _ (Zab 0) Zac (by rfl)))))) Zac (by rfl))))))))) (@Zag _ _ _ (@Zaj _ _ _ _ ZaD)) Zaq) (@Zaf _ _ _ _ _ (@Zax _ _ _ _ _ _ _ _ (Zay (op_inD (hu64 hr)) inD_ok.r (Zas (@Zaa _ _ _ _ _ (Zab 1) (@Zaa _ _ _ _ _ (Zab 2) Zac (by rfl)) (by rfl))) (Zaw (ZaZ (vs := ["_law_name"]) (fs := []) (fr := []) (by exact ⟨rfl, rfl, rfl, rfl, rfl, rfl, rfl⟩) rfl (Za7 (Zab 0)) (fun _ _ _ _ _ => (Zam (i := 0) (show ((["_law_name"] : List Str) ++ ([] : List Str)).Nodup by decide +kernel) rfl (Or.inl rfl))) (fun _ _ _ _ _ => Za3) (fun _ _ _ _ _ => (ZaM (Zab 0) ZaX (ZaO Zad))))) rfl) (@Zag _ _ _ (@Zaj _ _ _ _ ZaD)) Zaq) (@Zag _ _ _ (@Zaj _ _ _ _ (ZaJ (op_eqD (hu64 hr)) deep_ok.r (Zaw (ZcM (by rfl) T.b_list (by rfl) (@Zaa _ _ _ _ _ (Zab 0) Zac (by rfl)))) (Zaw (Zb6 rfl (hu64 hr) (by rfl) T.b_sorted (by rfl) (@Zaa _ _ _ _ _ (q_em_dictP rfl (hu64 hr) (by rfl) T.b_dict (by rfl) (@Zaa _ _ _ _ _ (Zaw (ZaZ (vs := ["_law_name"]) (fs := []) (fr := []) (by exact ⟨rfl, rfl, rfl, rfl, rfl, rfl, rfl⟩) rfl (Za7 (Zab 0)) (fun _ _ _ _ _ => (Zam (i := 0) (show ((["_law_name"] : List Str) ++ ([] : List Str)).Nodup by decide +kernel) rfl (Or.inl rfl))) (fun _ _ _ _ _ => Za3) (fun _ _ _ _ _ => (Zas (@Zaa _ _ _ _ _ (Zab 0) (@Zaa _ _ _ _ _ ZaD Zac (by rfl)) (by rfl)))))) Zac (by rfl))) Zac (by rfl)))) (nomark _))))))
end
section
variable {P : Program} {w : World} {K : W.Frag} {mg : Str -> Option Value} {base : Heap}
noncomputable abbrev s_qam : Stmt := top 39
theorem Zb4 : FnScope ["_law_thing", "_law_house", "_law_deal", "_law_number_here", "_law_prev", "_law_gots", "_law_time", "_law_deed"] ["_law_thing"] (defScope s_qam) := ⟨rfl, rfl, rfl, by decide +kernel, rfl, by decide +kernel, by decide +kernel⟩
theorem ok_qam {f_me : Addr} {fd_me : FuncData} {f_qaq f_qbk f_qaa f_qak : Addr} {fd_qaq fd_qbk fd_qaa fd_qak : FuncData} (Fn : Fun K "_law_is_letter" "_law_is_letter" s_qam f_me fd_me) (T : Txt mg) (G_qaq : FnOk P w K mg base CX0 1 f_qaq fd_qaq ["_law_thing"] (liftSp K F_qaq)) (m_qaq : mg "_law_is_word" = some (.ref f_qaq)) (k_qaq : W.keepIn K (.ref f_qaq) = true) (b_qaq : L2.Binds K fd_qaq ["_law_thing"] []) (G_qbk : FnOk P w K mg base CX0 1 f_qbk fd_qbk ["_law_thing", "_law_least", "_law_most"] (liftSp K F_qbk)) (m_qbk : mg "_law_whole" = some (.ref f_qbk)) (k_qbk : W.keepIn K (.ref f_qbk) = true) (b_qbk : L2.Binds K fd_qbk ["_law_thing", "_law_least", "_law_most"] []) (G_qaa : FnOk P w K mg base CX0 3 f_qaa fd_qaa ["_law_thing", "_law_house", "_law_deal"] (liftSp K F_qaa)) (m_qaa : mg "_law_are_gots" = some (.ref f_qaa)) (k_qaa : W.keepIn K (.ref f_qaa) = true) (b_qaa : L2.Binds K fd_qaa ["_law_thing", "_law_house", "_law_deal"] []) (G_qak : FnOk P w K mg base CX0 3 f_qak fd_qak ["_law_thing"] (liftSp K F_qak)) (m_qak : mg "_law_is_deed" = some (.ref f_qak)) (k_qak : W.keepIn K (.ref f_qak) = true) (b_qak : L2.Binds K fd_qak ["_law_thing"] []) : FnOk P w K mg base CX0 4 f_me fd_me ["_law_thing"] (liftSp K (F_qam)) :=
 Zao Fn Zb4 fun cdv A outer s H E hr => (@Zaf _ _ _ _ _ (@Zax _ _ _ _ _ _ _ _ (Zbm (ZaV (Zau (Zav (ZaR (by rfl) T.b_isinstance (by rfl) (@Zaa _ _ _ _ _ (Zab 0) (@Zaa _ _ _ _ _ (Za0 (by rfl) T.b_tuple (by rfl)) Zac (by rfl)) (by rfl))))) (ZaY (Zay op_ne ne_ok.r (ZaI (by rfl) T.b_len (@Zaa _ _ _ _ _ (Zab 0) Zac (by rfl))) Zad (nomark _))))) (@Zag _ _ _ (@Zaj _ _ _ _ ZaD)) Zaq) (@Zaf _ _ _ _ _ (q_sm_asg (Zab 0) (Zcf rfl (Zar (Zam (i := 1) Zb4.nd rfl (Or.inl rfl)) (Zar (Zam (i := 2) Zb4.nd rfl (Or.inl rfl)) (Zar (Zam (i := 3) Zb4.nd rfl (Or.inl rfl)) (Zar (Zam (i := 4) Zb4.nd rfl (Or.inl rfl)) (Zar (Zam (i := 5) Zb4.nd rfl (Or.inl rfl)) (Zar (Zam (i := 6) Zb4.nd rfl (Or.inl rfl)) (Zar (Zam (i := 7) Zb4.nd rfl (Or.inl rfl)) ZbQ))))))))) (@Zaf _ _ _ _ _ (@Zax _ _ _ _ _ _ _ _ (Zbm (ZaV (Zau (Zav (Zae G_qaq (hr.mono (by decide)) (by rfl) m_qaq k_qaq b_qaq (@Zaa _ _ _ _ _ (Zab 1) Zac (by rfl))))) (ZaV (Zau (Zav (Zae G_qaq (hr.mono (by decide)) (by rfl) m_qaq k_qaq b_qaq (@Zaa _ _ _ _ _ (Zab 2) Zac (by rfl))))) (ZaY (Zau (Zav (Zae G_qbk (hr.mono (by decide)) (by rfl) m_qbk k_qbk b_qbk (@Zaa _ _ _ _ _ (Zab 3) (@Zaa _ _ _ _ _ Zad (@Zaa _ _ _ _ _ (Zbd Zad Zad) Zac (by rfl)) (by rfl)) (by rfl))))))))) (@Zag _ _ _ (@Zaj _ _ _ _ ZaD)) Zaq) (@Zaf _ _ _ _ _ (@Zax _ _ _ _ _ _ _ _ (Zbm (ZaV (Zau (Zav (Zae G_qbk (hr.mono (by decide)) (by rfl) m_qbk k_qbk b_qbk (@Zaa _ _ _ _ _ (Zab 4) (@Zaa _ _ _ _ _ Zad (@Zaa _ _ _ _ _ (Zbd Zad Zad) Zac (by rfl)) (by rfl)) (by rfl))))) (ZaY (Zau (Zav (Zae G_qbk (hr.mono (by decide)) (by rfl) m_qbk k_qbk b_qbk (@Zaa _ _ _ _ _ (Zab 6) (@Zaa _ _ _ _ _ Zad (@Zaa _ _ _ _ _ (Zbd Zad Zad) Zac (by rfl)) (by rfl)) (by rfl)))))))) (@Zag _ _ _ (@Zaj _ _ _ _ ZaD)) Zaq) (@Zag _ _ _ (@Zaj _ _ _ _ (Zat (Zae G_qaa (hr.mono (by decide)) (by rfl) m_qaa k_qaa b_qaa (@Zaa _ _ _ _ _ (Zab 5) (@Zaa _ _ _ _ _ (Zab 1) (@Zaa _ _ _ _ _ (Zab 2) Zac (by rfl)) (by rfl)) (by rfl))) (ZaQ (Zae G_qak (hr.mono (by decide)) (by rfl) m_qak k_qak b_qak (@Zaa _ _ _ _ _ (Zab 7) Zac (by rfl)))))))))))
end
section
variable {P : Program} {w : World} {K : W.Frag} {mg : Str -> Option Value} {base : Heap}
noncomputable abbrev s_qbc : Stmt := top 40
theorem sc_qbc : FnScope ["_law_left_here", "_law_words_here", "_law_house", "_law_deal", "_law_many", "_law_found", "_law_k", "_law_name"] ["_law_left_here", "_law_words_here", "_law_house", "_law_deal", "_law_many"] (defScope s_qbc) := ⟨rfl, rfl, rfl, by decide +kernel, rfl, by decide +kernel, by decide +kernel⟩
theorem ok_qbc {f_me : Addr} {fd_me : FuncData} {f_qaw f_qba : Addr} {fd_qaw fd_qba : FuncData} (Fn : Fun K "_law_pool" "_law_pool" s_qbc f_me fd_me) (T : Txt mg) (G_qaw : FnOk P w K mg base CX0 2 f_qaw fd_qaw ["_law_left_here", "_law_least"] (liftSp K F_qaw)) (m_qaw : mg "_law_number" = some (.ref f_qaw)) (k_qaw : W.keepIn K (.ref f_qaw) = true) (b_qaw : L2.Binds K fd_qaw ["_law_left_here", "_law_least"] []) (G_qba : FnOk P w K mg base CX0 1 f_qba fd_qba ["_law_left_here", "_law_many"] (liftSp K F_qba)) (m_qba : mg "_law_pick" = some (.ref f_qba)) (k_qba : W.keepIn K (.ref f_qba) = true) (b_qba : L2.Binds K fd_qba ["_law_left_here", "_law_many"] []) : FnOk P w K mg base CX0 3 f_me fd_me ["_law_left_here", "_law_words_here", "_law_house", "_law_deal", "_law_many"] (liftSp K (F_qbc)) :=
 Zao Fn sc_qbc fun cdv A outer s H E hr => (@Zaf _ _ _ _ _ (q_sm_newT (n := 5) sc_qbc.nd rfl (Or.inl rfl)) (@Zaf _ _ _ _ _ (Zbv PassesOwn.never rfl (Zbo (by rfl) T.b_range (@Zaa _ _ _ _ _ (Zab 4) Zac (by rfl))) (Zam (i := 6) sc_qbc.nd rfl (Or.inl rfl)) (@Zaf _ _ _ _ _ (Zap (i := 7) sc_qbc.nd rfl (Or.inl rfl) (Zas (@Zaa _ _ _ _ _ (Zak (ZaL hr) (Zab 1) (Zae G_qba (hr.mono (by decide)) (by rfl) m_qba k_qba b_qba (@Zaa _ _ _ _ _ (Zab 0) (@Zaa _ _ _ _ _ Zad Zac (by rfl)) (by rfl)))) (@Zaa _ _ _ _ _ (Zak (ZaL hr) (Zab 1) (Zae G_qba (hr.mono (by decide)) (by rfl) m_qba k_qba b_qba (@Zaa _ _ _ _ _ (Zab 0) (@Zaa _ _ _ _ _ Zad Zac (by rfl)) (by rfl)))) (@Zaa _ _ _ _ _ (Zae G_qaw (hr.mono (by decide)) (by rfl) m_qaw k_qaw b_qaw (@Zaa _ _ _ _ _ (Zab 0) (@Zaa _ _ _ _ _ Zad Zac (by rfl)) (by rfl))) Zac (by rfl)) (by rfl)) (by rfl)))) (@Zag _ _ _ (@Zax _ _ _ _ _ _ _ _ (Zay (op_neD (hu64 hr)) deep_ok.r (ZaM (Zab 7) ZaX (ZaO Zad)) (Zas (@Zaa _ _ _ _ _ (Zab 2) (@Zaa _ _ _ _ _ (Zab 3) Zac (by rfl)) (by rfl))) (nomark _)) (@Zag _ _ _ (q_sm_setixT (hu64 hr) ZaD (Zab 5) (Zab 7))) Zaq)))) (@Zag _ _ _ (@Zaj _ _ _ _ (q_em_tupc (by rfl) T.b_tuple (by rfl) (@Zaa _ _ _ _ _ (Zaw (Zb6 rfl (hu64 hr) (by rfl) T.b_sorted (by rfl) (@Zaa _ _ _ _ _ (Zab 5) Zac (by rfl)))) Zac (by rfl)))))))
end
section
variable {P : Program} {w : World} {K : W.Frag} {mg : Str -> Option Value} {base : Heap}
noncomputable abbrev s_qau : Stmt := top 41
theorem sc_qau : FnScope ["_law_left_here", "_law_words_here", "_law_house", "_law_deal", "_law_many", "_law_gots"] ["_law_left_here", "_law_words_here"] (defScope s_qau) := ⟨rfl, rfl, rfl, by decide +kernel, rfl, by decide +kernel, by decide +kernel⟩
theorem ok_qau {f_me : Addr} {fd_me : FuncData} {f_qba f_qbc f_qai f_qaw : Addr} {fd_qba fd_qbc fd_qai fd_qaw : FuncData} (Fn : Fun K "_law_letter" "_law_letter" s_qau f_me fd_me) (T : Txt mg) (G_qba : FnOk P w K mg base CX0 1 f_qba fd_qba ["_law_left_here", "_law_many"] (liftSp K F_qba)) (m_qba : mg "_law_pick" = some (.ref f_qba)) (k_qba : W.keepIn K (.ref f_qba) = true) (b_qba : L2.Binds K fd_qba ["_law_left_here", "_law_many"] []) (G_qbc : FnOk P w K mg base CX0 3 f_qbc fd_qbc ["_law_left_here", "_law_words_here", "_law_house", "_law_deal", "_law_many"] (liftSp K F_qbc)) (m_qbc : mg "_law_pool" = some (.ref f_qbc)) (k_qbc : W.keepIn K (.ref f_qbc) = true) (b_qbc : L2.Binds K fd_qbc ["_law_left_here", "_law_words_here", "_law_house", "_law_deal", "_law_many"] []) (G_qai : FnOk P w K mg base CX0 3 f_qai fd_qai ["_law_left_here"] (liftSp K F_qai)) (m_qai : mg "_law_good" = some (.ref f_qai)) (k_qai : W.keepIn K (.ref f_qai) = true) (b_qai : L2.Binds K fd_qai ["_law_left_here"] []) (G_qaw : FnOk P w K mg base CX0 2 f_qaw fd_qaw ["_law_left_here", "_law_least"] (liftSp K F_qaw)) (m_qaw : mg "_law_number" = some (.ref f_qaw)) (k_qaw : W.keepIn K (.ref f_qaw) = true) (b_qaw : L2.Binds K fd_qaw ["_law_left_here", "_law_least"] []) : FnOk P w K mg base CX0 4 f_me fd_me ["_law_left_here", "_law_words_here"] (liftSp K (F_qau)) :=
 Zao Fn sc_qau fun cdv A outer s H E hr => (@Zaf _ _ _ _ _ (Zap (i := 2) sc_qau.nd rfl (Or.inl rfl) (Zak (ZaL hr) (Zaw (Zaz (@Zaa _ _ _ _ _ (Zak (ZaL hr) (Zab 1) (Zae G_qba (hr.mono (by decide)) (by rfl) m_qba k_qba b_qba (@Zaa _ _ _ _ _ (Zab 0) (@Zaa _ _ _ _ _ Zad Zac (by rfl)) (by rfl)))) (@Zaa _ _ _ _ _ Zai Zac (by rfl)) (by rfl)))) (Zcr (by rfl) T.b_int (by rfl) (@Zaa _ _ _ _ _ (ZaJ ZbD ZbE.r (Zae G_qba (hr.mono (by decide)) (by rfl) m_qba k_qba b_qba (@Zaa _ _ _ _ _ (Zab 0) (@Zaa _ _ _ _ _ Zad Zac (by rfl)) (by rfl))) Zad (nomark _)) Zac (by rfl))))) (@Zaf _ _ _ _ _ (Zap (i := 3) sc_qau.nd rfl (Or.inl rfl) (Zak (ZaL hr) (Zab 1) (Zae G_qba (hr.mono (by decide)) (by rfl) m_qba k_qba b_qba (@Zaa _ _ _ _ _ (Zab 0) (@Zaa _ _ _ _ _ Zad Zac (by rfl)) (by rfl))))) (@Zaf _ _ _ _ _ (Zap (i := 4) sc_qau.nd rfl (Or.inl rfl) (Zak (ZaL hr) (Zaw (Zaz (@Zaa _ _ _ _ _ Zad (@Zaa _ _ _ _ _ Zad (@Zaa _ _ _ _ _ Zad (@Zaa _ _ _ _ _ Zad (@Zaa _ _ _ _ _ Zad (@Zaa _ _ _ _ _ Zad (@Zaa _ _ _ _ _ Zad (@Zaa _ _ _ _ _ Zad Zac (by rfl)) (by rfl)) (by rfl)) (by rfl)) (by rfl)) (by rfl)) (by rfl)) (by rfl)))) (Zae G_qba (hr.mono (by decide)) (by rfl) m_qba k_qba b_qba (@Zaa _ _ _ _ _ (Zab 0) (@Zaa _ _ _ _ _ Zad Zac (by rfl)) (by rfl))))) (@Zaf _ _ _ _ _ (Zap (i := 5) sc_qau.nd rfl (Or.inl rfl) (Zae G_qbc (hr.mono (by decide)) (by rfl) m_qbc k_qbc b_qbc (@Zaa _ _ _ _ _ (Zab 0) (@Zaa _ _ _ _ _ (Zab 1) (@Zaa _ _ _ _ _ (Zab 2) (@Zaa _ _ _ _ _ (Zab 3) (@Zaa _ _ _ _ _ (Zab 4) Zac (by rfl)) (by rfl)) (by rfl)) (by rfl)) (by rfl)))) (@Zag _ _ _ (@Zaj _ _ _ _ (Zas (@Zaa _ _ _ _ _ (Zab 2) (@Zaa _ _ _ _ _ (Zab 3) (@Zaa _ _ _ _ _ (Zae G_qaw (hr.mono (by decide)) (by rfl) m_qaw k_qaw b_qaw (@Zaa _ _ _ _ _ (Zab 0) (@Zaa _ _ _ _ _ Zad Zac (by rfl)) (by rfl))) (@Zaa _ _ _ _ _ (Zae G_qaw (hr.mono (by decide)) (by rfl) m_qaw k_qaw b_qaw (@Zaa _ _ _ _ _ (Zab 0) (@Zaa _ _ _ _ _ Zad Zac (by rfl)) (by rfl))) (@Zaa _ _ _ _ _ (Zab 5) (@Zaa _ _ _ _ _ (Zae G_qaw (hr.mono (by decide)) (by rfl) m_qaw k_qaw b_qaw (@Zaa _ _ _ _ _ (Zab 0) (@Zaa _ _ _ _ _ Zad Zac (by rfl)) (by rfl))) (@Zaa _ _ _ _ _ (Zae G_qai (hr.mono (by decide)) (by rfl) m_qai k_qai b_qai (@Zaa _ _ _ _ _ (Zab 0) Zac (by rfl))) Zac (by rfl)) (by rfl)) (by rfl)) (by rfl)) (by rfl)) (by rfl)) (by rfl)))))))))
end
section
variable {P : Program} {w : World} {K : W.Frag} {mg : Str -> Option Value} {base : Heap}
noncomputable abbrev s_qay : Stmt := top 42
theorem sc_qay : FnScope ["_law_left_here", "_law_some"] ["_law_left_here"] (defScope s_qay) := ⟨rfl, rfl, rfl, by decide +kernel, rfl, by decide +kernel, by decide +kernel⟩
theorem ok_qay {f_me : Addr} {fd_me : FuncData} {f_qba : Addr} {fd_qba : FuncData} (Fn : Fun K "_law_odd" "_law_odd" s_qay f_me fd_me) (T : Txt mg) (G_qba : FnOk P w K mg base CX0 1 f_qba fd_qba ["_law_left_here", "_law_many"] (liftSp K F_qba)) (m_qba : mg "_law_pick" = some (.ref f_qba)) (k_qba : W.keepIn K (.ref f_qba) = true) (b_qba : L2.Binds K fd_qba ["_law_left_here", "_law_many"] []) : FnOk P w K mg base CX0 2 f_me fd_me ["_law_left_here"] (liftSp K (F_qay)) :=
 Zao Fn sc_qay fun cdv A outer s H E hr => (@Zaf _ _ _ _ _ (Zap (i := 1) sc_qay.nd rfl (Or.inl rfl) (Zaw (Zaz (@Zaa _ _ _ _ _ Zad (@Zaa _ _ _ _ _ (q_em_neg Zad) (@Zaa _ _ _ _ _ Zad (@Zaa _ _ _ _ _ ZaD (@Zaa _ _ _ _ _ ZaD (@Zaa _ _ _ _ _ q_em_non (@Zaa _ _ _ _ _ Zai (@Zaa _ _ _ _ _ Zai (@Zaa _ _ _ _ _ Zai (@Zaa _ _ _ _ _ Zai (@Zaa _ _ _ _ _ Zai (@Zaa _ _ _ _ _ (Zas Zac) (@Zaa _ _ _ _ _ (Zaw (Zaz Zac)) (@Zaa _ _ _ _ _ ZcO (@Zaa _ _ _ _ _ (Zas (@Zaa _ _ _ _ _ Zai Zac (by rfl))) (@Zaa _ _ _ _ _ (Zas (@Zaa _ _ _ _ _ Zai (@Zaa _ _ _ _ _ Zad (@Zaa _ _ _ _ _ Zad Zac (by rfl)) (by rfl)) (by rfl))) Zac (by rfl)) (by rfl)) (by rfl)) (by rfl)) (by rfl)) (by rfl)) (by rfl)) (by rfl)) (by rfl)) (by rfl)) (by rfl)) (by rfl)) (by rfl)) (by rfl)) (by rfl)) (by rfl))))) (@Zaf _ _ _ _ _ (Zap (i := 1) sc_qay.nd rfl (Or.inl rfl) (ZaE (Zab 1) (Zaw (Zaz (@Zaa _ _ _ _ _ (Zas (@Zaa _ _ _ _ _ Zai Zac (by rfl))) (@Zaa _ _ _ _ _ (Zas (@Zaa _ _ _ _ _ Zai (@Zaa _ _ _ _ _ Zai Zac (by rfl)) (by rfl))) (@Zaa _ _ _ _ _ (Zbd Zad Zad) (@Zaa _ _ _ _ _ (Zas (@Zaa _ _ _ _ _ Zai (@Zaa _ _ _ _ _ Zai (@Zaa _ _ _ _ _ Zad Zac (by rfl)) (by rfl)) (by rfl))) (@Zaa _ _ _ _ _ (Zas (@Zaa _ _ _ _ _ (Zas (@Zaa _ _ _ _ _ Zai (@Zaa _ _ _ _ _ Zai (@Zaa _ _ _ _ _ Zad Zac (by rfl)) (by rfl)) (by rfl))) Zac (by rfl))) (@Zaa _ _ _ _ _ (Zaw (Zaz (@Zaa _ _ _ _ _ (Zas (@Zaa _ _ _ _ _ Zai (@Zaa _ _ _ _ _ Zai (@Zaa _ _ _ _ _ Zad Zac (by rfl)) (by rfl)) (by rfl))) Zac (by rfl)))) Zac (by rfl)) (by rfl)) (by rfl)) (by rfl)) (by rfl)) (by rfl)))))) (@Zag _ _ _ (@Zaj _ _ _ _ (Zak (ZaL hr) (Zab 1) (Zae G_qba (hr.mono (by decide)) (by rfl) m_qba k_qba b_qba (@Zaa _ _ _ _ _ (Zab 0) (@Zaa _ _ _ _ _ Zad Zac (by rfl)) (by rfl))))))))
end
section
variable {P : Program} {w : World} {K : W.Frag} {mg : Str -> Option Value} {base : Heap}
noncomputable abbrev s_qbg : Stmt := top 43
theorem sc_qbg : FnScope ["_law_left_here", "_law_letter_here", "_law_way", "_law_at"] ["_law_left_here", "_law_letter_here"] (defScope s_qbg) := ⟨rfl, rfl, rfl, by decide +kernel, rfl, by decide +kernel, by decide +kernel⟩
theorem ok_qbg {f_me : Addr} {fd_me : FuncData} {f_qba f_qay : Addr} {fd_qba fd_qay : FuncData} (Fn : Fun K "_law_spoilt" "_law_spoilt" s_qbg f_me fd_me) (T : Txt mg) (G_qba : FnOk P w K mg base CX0 1 f_qba fd_qba ["_law_left_here", "_law_many"] (liftSp K F_qba)) (m_qba : mg "_law_pick" = some (.ref f_qba)) (k_qba : W.keepIn K (.ref f_qba) = true) (b_qba : L2.Binds K fd_qba ["_law_left_here", "_law_many"] []) (G_qay : FnOk P w K mg base CX0 2 f_qay fd_qay ["_law_left_here"] (liftSp K F_qay)) (m_qay : mg "_law_odd" = some (.ref f_qay)) (k_qay : W.keepIn K (.ref f_qay) = true) (b_qay : L2.Binds K fd_qay ["_law_left_here"] []) : FnOk P w K mg base CX0 3 f_me fd_me ["_law_left_here", "_law_letter_here"] (liftSp K (F_qbg)) :=
 Zao Fn sc_qbg fun cdv A outer s H E hr => (@Zaf _ _ _ _ _ (Zap (i := 2) sc_qbg.nd rfl (Or.inl rfl) (Zae G_qba (hr.mono (by decide)) (by rfl) m_qba k_qba b_qba (@Zaa _ _ _ _ _ (Zab 0) (@Zaa _ _ _ _ _ Zad Zac (by rfl)) (by rfl)))) (@Zaf _ _ _ _ _ (@Zax _ _ _ _ _ _ _ _ (Zay ZbD ZbE.r (Zab 2) Zad (nomark _)) (@Zag _ _ _ (ZbP (ZcM (by rfl) T.b_list (by rfl) (@Zaa _ _ _ _ _ (Zab 1) Zac (by rfl))))) Zaq) (@Zaf _ _ _ _ _ (@Zax _ _ _ _ _ _ _ _ (Zay ZbD ZbE.r (Zab 2) Zad (nomark _)) (@Zag _ _ _ (@Zaj _ _ _ _ (ZaE (Zab 1) (Zas (@Zaa _ _ _ _ _ (Zae G_qay (hr.mono (by decide)) (by rfl) m_qay k_qay b_qay (@Zaa _ _ _ _ _ (Zab 0) Zac (by rfl))) Zac (by rfl)))))) Zaq) (@Zaf _ _ _ _ _ (@Zax _ _ _ _ _ _ _ _ (Zay ZbD ZbE.r (Zab 2) Zad (nomark _)) (@Zag _ _ _ (@Zaj _ _ _ _ (ZaM (Zab 1) ZaX (ZaO Zad)))) Zaq) (@Zaf _ _ _ _ _ (Zap (i := 3) sc_qbg.nd rfl (Or.inl rfl) (Zae G_qba (hr.mono (by decide)) (by rfl) m_qba k_qba b_qba (@Zaa _ _ _ _ _ (Zab 0) (@Zaa _ _ _ _ _ Zad Zac (by rfl)) (by rfl)))) (@Zag _ _ _ (@Zaj _ _ _ _ (ZaE (ZaE (ZaM (Zab 1) ZaX (ZaO (Zab 3))) (Zas (@Zaa _ _ _ _ _ (Zae G_qay (hr.mono (by decide)) (by rfl) m_qay k_qay b_qay (@Zaa _ _ _ _ _ (Zab 0) Zac (by rfl))) Zac (by rfl)))) (ZaM (Zab 1) (ZaO (ZaE (Zab 3) Zad)) ZaX)))))))))
end
section
variable {P : Program} {w : World} {K : W.Frag} {mg : Str -> Option Value} {base : Heap}
noncomputable abbrev s_qbe : Stmt := top 44
theorem sc_qbe : FnScope ["_law_thing", "_law_turn", "_law_found"] ["_law_thing"] (defScope s_qbe) := ⟨rfl, rfl, rfl, by decide +kernel, rfl, by decide +kernel, by decide +kernel⟩
theorem ok_qbe {f_me : Addr} {fd_me : FuncData} {f_qbs f_qam d_DEEDS f_qbp f_qbz f_qby f_qbw f_qbx : Addr} {fd_qbs fd_qam : FuncData} (Fn : Fun K "_law_right" "_law_right" s_qbe f_me fd_me) (T : Txt mg) (G_qbs : FnOk P w K mg base CX0 6 f_qbs fd_qbs ["thing"] (liftSp K (F_qbs d_DEEDS f_qbp f_qbz f_qby f_qbw f_qbx))) (m_qbs : mg "is_letter" = some (.ref f_qbs)) (k_qbs : W.keepIn K (.ref f_qbs) = true) (b_qbs : L2.Binds K fd_qbs ["thing"] []) (G_qam : FnOk P w K mg base CX0 4 f_qam fd_qam ["_law_thing"] (liftSp K F_qam)) (m_qam : mg "_law_is_letter" = some (.ref f_qam)) (k_qam : W.keepIn K (.ref f_qam) = true) (b_qam : L2.Binds K fd_qam ["_law_thing"] []) : FnOk P w K mg base CX0 7 f_me fd_me ["_law_thing"] (liftSp K (F_qbe d_DEEDS f_qbp f_qbz f_qby f_qbw f_qbx)) :=
 Zao Fn sc_qbe fun cdv A outer s H E hr => (@Zaf _ _ _ _ _ (Zbv PassesOwn.never rfl (Zbo (by rfl) T.b_range (@Zaa _ _ _ _ _ Zad Zac (by rfl))) (Zam (i := 1) sc_qbe.nd rfl (Or.inl rfl)) (@Zaf _ _ _ _ _ (Zap (i := 2) sc_qbe.nd rfl (Or.inl rfl) (Zae G_qbs (hr.mono (by decide)) (by rfl) m_qbs k_qbs b_qbs (@Zaa _ _ _ _ _ (Zab 0) Zac (by rfl)))) (@Zag _ _ _ (@Zax _ _ _ _ _ _ _ _ (Zbm (ZaV (Zau (Zav (ZaR (by rfl) T.b_isinstance (by rfl) (@Zaa _ _ _ _ _ (Zab 2) (@Zaa _ _ _ _ _ (Za0 (by rfl) T.b_bool (by rfl)) Zac (by rfl)) (by rfl))))) (ZaY (Zay op_ne ne_ok.r (Zab 2) (Zae G_qam (hr.mono (by decide)) (by rfl) m_qam k_qam b_qam (@Zaa _ _ _ _ _ (Zab 0) Zac (by rfl))) (nomark _))))) (@Zag _ _ _ (@Zaj _ _ _ _ ZaD)) Zaq)))) (@Zag _ _ _ (@Zaj _ _ _ _ ZaD)))
end
section
variable {P : Program} {w : World} {K : W.Frag} {mg : Str -> Option Value} {base : Heap}
noncomputable abbrev s_law : Stmt := top 45
theorem Zcp : FnScope ["_law_script", "_law_thing", "_law_k", "_law_left_here", "_law_words_here", "_law_letter_here"] ["_law_script"] (defScope s_law) := ⟨rfl, rfl, rfl, by decide +kernel, rfl, by decide +kernel, by decide +kernel⟩
theorem ok_law {f_me : Addr} {fd_me : FuncData} {f_qbe f_qas f_qbm f_qau f_qbs f_qcd f_qay f_qbg d_DEEDS f_qbp f_qbz f_qby f_qbw f_qbx : Addr} {fd_qbe fd_qas fd_qbm fd_qau fd_qbs fd_qcd fd_qay fd_qbg : FuncData} (Fn : Fun K "law" "law" s_law f_me fd_me) (T : Txt mg) (G_qbe : FnOk P w K mg base CX0 7 f_qbe fd_qbe ["_law_thing"] (liftSp K (F_qbe d_DEEDS f_qbp f_qbz f_qby f_qbw f_qbx))) (m_qbe : mg "_law_right" = some (.ref f_qbe)) (k_qbe : W.keepIn K (.ref f_qbe) = true) (b_qbe : L2.Binds K fd_qbe ["_law_thing"] []) (GF_qas : FnOk P w K mg base CX0 2 f_qas fd_qas ["_law_script", "_law_k"] (liftSpF K FF_qas)) (m_qas : mg "_law_left" = some (.ref f_qas)) (k_qas : W.keepIn K (.ref f_qas) = true) (b_qas : L2.Binds K fd_qas ["_law_script", "_law_k"] []) (G_qbm : FnOk P w K mg base CX0 2 f_qbm fd_qbm ["_law_left_here", "_law_many"] (liftSp K F_qbm)) (m_qbm : mg "_law_words" = some (.ref f_qbm)) (k_qbm : W.keepIn K (.ref f_qbm) = true) (b_qbm : L2.Binds K fd_qbm ["_law_left_here", "_law_many"] []) (G_qau : FnOk P w K mg base CX0 4 f_qau fd_qau ["_law_left_here", "_law_words_here"] (liftSp K F_qau)) (m_qau : mg "_law_letter" = some (.ref f_qau)) (k_qau : W.keepIn K (.ref f_qau) = true) (b_qau : L2.Binds K fd_qau ["_law_left_here", "_law_words_here"] []) (G_qbs : FnOk P w K mg base CX0 6 f_qbs fd_qbs ["thing"] (liftSp K (F_qbs d_DEEDS f_qbp f_qbz f_qby f_qbw f_qbx))) (m_qbs : mg "is_letter" = some (.ref f_qbs)) (k_qbs : W.keepIn K (.ref f_qbs) = true) (b_qbs : L2.Binds K fd_qbs ["thing"] []) (G_qcd : FnOk P w K mg base CX0 1 f_qcd fd_qcd ["letter"] (liftSp K F_qcd)) (m_qcd : mg "name_of" = some (.ref f_qcd)) (k_qcd : W.keepIn K (.ref f_qcd) = true) (b_qcd : L2.Binds K fd_qcd ["letter"] []) (G_qay : FnOk P w K mg base CX0 2 f_qay fd_qay ["_law_left_here"] (liftSp K F_qay)) (m_qay : mg "_law_odd" = some (.ref f_qay)) (k_qay : W.keepIn K (.ref f_qay) = true) (b_qay : L2.Binds K fd_qay ["_law_left_here"] []) (G_qbg : FnOk P w K mg base CX0 3 f_qbg fd_qbg ["_law_left_here", "_law_letter_here"] (liftSp K F_qbg)) (m_qbg : mg "_law_spoilt" = some (.ref f_qbg)) (k_qbg : W.keepIn K (.ref f_qbg) = true) (b_qbg : L2.Binds K fd_qbg ["_law_left_here", "_law_letter_here"] []) : FnOk P w K mg base CX0 8 f_me fd_me ["_law_script"] (liftSp K (F_law d_DEEDS f_qbp f_qbz f_qby f_qbw f_qbx)) :=
 Zao Fn Zcp fun cdv A outer s H E hr => (@Zaf _ _ _ _ _ (Zbv PassesOwn.never rfl (Za7 (Zaw (Zaz (@Zaa _ _ _ _ _ (Zas Zac) (@Zaa _ _ _ _ _ q_em_non (@Zaa _ _ _ _ _ Zai (@Zaa _ _ _ _ _ (Zaw (Zaz Zac)) (@Zaa _ _ _ _ _ ZcO (@Zaa _ _ _ _ _ (Zas (@Zaa _ _ _ _ _ Zai (@Zaa _ _ _ _ _ Zai (@Zaa _ _ _ _ _ Zad (@Zaa _ _ _ _ _ Zad (@Zaa _ _ _ _ _ (Zas Zac) (@Zaa _ _ _ _ _ Zad (@Zaa _ _ _ _ _ (Zas (@Zaa _ _ _ _ _ Zai Zac (by rfl))) Zac (by rfl)) (by rfl)) (by rfl)) (by rfl)) (by rfl)) (by rfl)) (by rfl))) (@Zaa _ _ _ _ _ (Zas (@Zaa _ _ _ _ _ Zai (@Zaa _ _ _ _ _ Zai (@Zaa _ _ _ _ _ Zad (@Zaa _ _ _ _ _ Zad (@Zaa _ _ _ _ _ (Zas Zac) (@Zaa _ _ _ _ _ Zad (@Zaa _ _ _ _ _ Zai Zac (by rfl)) (by rfl)) (by rfl)) (by rfl)) (by rfl)) (by rfl)) (by rfl))) Zac (by rfl)) (by rfl)) (by rfl)) (by rfl)) (by rfl)) (by rfl)) (by rfl))))) (Zam (i := 1) Zcp.nd rfl (Or.inl rfl)) (@Zag _ _ _ (@Zax _ _ _ _ _ _ _ _ (Zau (Zav (Zae G_qbe (hr.mono (by decide)) (by rfl) m_qbe k_qbe b_qbe (@Zaa _ _ _ _ _ (Zab 1) Zac (by rfl))))) (@Zag _ _ _ (@Zaj _ _ _ _ ZaD)) Zaq))) (@Zaf _ _ _ _ _ (Zbv PassesOwn.never rfl (q_im_range2 (by rfl) T.b_range (@Zaa _ _ _ _ _ Zad (@Zaa _ _ _ _ _ (ZaE Zad (ZaI (by rfl) T.b_len (@Zaa _ _ _ _ _ (ZaM (Zab 0) (ZaO Zad) (ZaO Zad)) Zac (by rfl)))) Zac (by rfl)) (by rfl))) (Zam (i := 2) Zcp.nd rfl (Or.inl rfl)) (@Zaf _ _ _ _ _ (q_sm_new (i := 3) Zcp.nd rfl (Or.inl rfl) (q_fm_call GF_qas (hr.mono (by decide)) (by rfl) m_qas k_qas b_qas (@Zaa _ _ _ _ _ (Zab 0) (@Zaa _ _ _ _ _ (Zab 2) Zac (by rfl)) (by rfl)))) (@Zaf _ _ _ _ _ (Zap (i := 4) Zcp.nd rfl (Or.inl rfl) (Zae G_qbm (hr.mono (by decide)) (by rfl) m_qbm k_qbm b_qbm (@Zaa _ _ _ _ _ (Zab 3) (@Zaa _ _ _ _ _ Zad Zac (by rfl)) (by rfl)))) (@Zaf _ _ _ _ _ (Zap (i := 5) Zcp.nd rfl (Or.inl rfl) (Zae G_qau (hr.mono (by decide)) (by rfl) m_qau k_qau b_qau (@Zaa _ _ _ _ _ (Zab 3) (@Zaa _ _ _ _ _ (Zab 4) Zac (by rfl)) (by rfl)))) (@Zaf _ _ _ _ _ (@Zax _ _ _ _ _ _ _ _ (Zbm (ZaV (Zay op_isntB isntB_ok.r (Zae G_qbs (hr.mono (by decide)) (by rfl) m_qbs k_qbs b_qbs (@Zaa _ _ _ _ _ (Zab 5) Zac (by rfl))) ZaD (nomark _)) (ZaY (Zay (op_neD (hu64 hr)) deep_ok.r (Zae G_qcd (hr.mono (by decide)) (by rfl) m_qcd k_qcd b_qcd (@Zaa _ _ _ _ _ (Zab 5) Zac (by rfl))) (Zas (@Zaa _ _ _ _ _ (Zak (ZaL hr) (Zab 5) Zad) (@Zaa _ _ _ _ _ (Zak (ZaL hr) (Zab 5) Zad) (@Zaa _ _ _ _ _ (Zak (ZaL hr) (Zab 5) Zad) Zac (by rfl)) (by rfl)) (by rfl))) (nomark _))))) (@Zag _ _ _ (@Zaj _ _ _ _ ZaD)) Zaq) (@Zag _ _ _ (Zbv PassesOwn.never rfl (Za7 (Zaw (Zaz (@Zaa _ _ _ _ _ (Zae G_qbg (hr.mono (by decide)) (by rfl) m_qbg k_qbg b_qbg (@Zaa _ _ _ _ _ (Zab 3) (@Zaa _ _ _ _ _ (Zab 5) Zac (by rfl)) (by rfl))) (@Zaa _ _ _ _ _ (Zae G_qbg (hr.mono (by decide)) (by rfl) m_qbg k_qbg b_qbg (@Zaa _ _ _ _ _ (Zab 3) (@Zaa _ _ _ _ _ (Zab 5) Zac (by rfl)) (by rfl))) (@Zaa _ _ _ _ _ (Zae G_qbg (hr.mono (by decide)) (by rfl) m_qbg k_qbg b_qbg (@Zaa _ _ _ _ _ (Zab 3) (@Zaa _ _ _ _ _ (Zab 5) Zac (by rfl)) (by rfl))) (@Zaa _ _ _ _ _ (Zae G_qay (hr.mono (by decide)) (by rfl) m_qay k_qay b_qay (@Zaa _ _ _ _ _ (Zab 3) Zac (by rfl))) Zac (by rfl)) (by rfl)) (by rfl)) (by rfl))))) (Zam (i := 1) Zcp.nd rfl (Or.inl rfl)) (@Zag _ _ _ (@Zax _ _ _ _ _ _ _ _ (Zau (Zav (Zae G_qbe (hr.mono (by decide)) (by rfl) m_qbe k_qbe b_qbe (@Zaa _ _ _ _ _ (Zab 1) Zac (by rfl))))) (@Zag _ _ _ (@Zaj _ _ _ _ ZaD)) Zaq))))))))) (@Zag _ _ _ (@Zaj _ _ _ _ ZaD))))
end
local macro_rules
 | `(tactic| simp! [$args,*]) => `(tactic| simp [mDef, mRet, mRetF, mAndV, mOrV, mNotV, mCB, mOp, mChain, mTest, mTru, mNotT, mAndT, mOrT, mIf, mIfS, mSeq, mSkip, mSet, mDrop, mTup, mLst, mVal, mFn, mFnF, mSlice, mMt, mDict, mDict0, mList, listH, bnd, opM, aCons, aNil, mVar, mC, Pu.ret, g1, g2, derefs, deref, isiH, isiP, tyN, mB, asB, intP, fin, truP, lenH, Pu.plain, oNo, oPart, Pu.intD, sliceD, sliceP, isTy, tyP, mtD, eqP, neP, scP, $args,*])
noncomputable def okv : PV -> Bool
 | .dtt _ _ => false
 | .fn _ => false
 | .ty _ => false
 | _ => true
noncomputable def AZ : Str := "abcdefghijklmnopqrstuvwxyz"
noncomputable def wordB (z : Str) : Bool := decide (1 <= (z.length : Int)) && decide ((z.length : Int) <= 12) && z.cps.toList.all AZ.cps.contains
noncomputable def wordP : PV -> Bool
 | .str z => wordB z
 | _ => false
noncomputable def numB (x : PV) (m : Int) : Bool := match x with
 | .int i => decide (m <= i)
 | _ => false
noncomputable def belB (x : PV) (b : Int) : Bool := match x with
 | .int i => decide (0 <= i) && decide (i < b)
 | _ => false
theorem Za6 (x : PV) (m : Int) (C : Cs) (h : okv x = true) : F_qbu [.v x, .v (.int m)] C = some (.v (.bl (numB x m)), C) := by
  cases x <;> first
    | (cases h; done)
    | (simp! [F_qbu, numB])
theorem Zbh (x : PV) (b : Int) (C : Cs) (h : okv x = true) : F_qbv [.v x, .v (.int b)] C = some (.v (.bl (belB x b)), C) := by
 cases x with
 | int i => by_cases hi : (0 : Int) <= i <;> simp! [F_qbv, Za6 _ _ _ h, numB, belB, hi]
 | dtt a b => cases h
 | fn a => cases h
 | ty a => cases h
 | _ => simp! [F_qbv, Za6 _ _ _ h, numB, belB]
theorem ZaH (x : PV) (C : Cs) (h : okv x = true) : F_qbq [.v x] C = some (.v (.bl (belB x 12)), C) := by
 simp! [F_qbq, Zbh _ _ _ h]
theorem ZbC {te : PSt -> M SV} {f : PV -> PV} : ∀ (xs : List PV) (ρ : PSt) (ys : List PV) (C : Cs), (∀ x ∈ xs, te (ρ.set 0 (some (.v x))) C = some (.v (f x), C)) -> compL (hName 0) tOk te xs ρ ys C = some (ys ++ xs.map f, C)
 | [], ρ, ys, C, _ => by simp [compL, Pu.ret]
 | x :: xs, ρ, ys, C, h => by
  have h1 := h x (by simp)
  have h2 := ZbC xs (ρ.set 0 (some (.v x))) (ys ++ [f x]) C fun y hy => by rw [List.set_set]; exact h y (by simp [hy])
  simp [compL, hName, bnd, tOk, Pu.ret, h1, h2]
theorem ZbW {α : Type} (g : α -> Bool) : ∀ l : List α, boolsP (l.map fun c => PV.bl (g c)) = some (l.map g)
 | [] => rfl
 | a :: l => by simp [boolsP, ZbW g l]
theorem strIn_one (c : Nat) (z : Str) : strIn ⟨#[c]⟩ z = z.cps.toList.contains c := by
 unfold strIn
 rw [PySem.StrLaws.found_one]
 simp
theorem AZ_contains : AZ.cps.toList.contains = AZ.cps.contains := by
 funext c; simp
theorem Za2 (x : PV) (C : Cs) (h : okv x = true) : F_qcb [.v x] C = some (.v (.bl (wordP x)), C) := by
 cases x with
 | str z =>
  by_cases h1 : 1 <= (z.length : Int)
  ·by_cases h2 : (z.length : Int) <= 12
   ·have hl : z.cps.size <= 100000 := by
     have : z.cps.size = z.length := rfl
     lia
    unfold F_qcb B_qcb
    generalize hte : mOp (g2 inP) (mVar 0) (mC (.str "abcdefghijklmnopqrstuvwxyz")) = te
    have key : compL (hName 0) tOk te (z.cps.toList.map fun c => .str ⟨#[c]⟩) [none] [] C = some (z.cps.toList.map fun c => PV.bl (AZ.cps.contains c), C) := by
     subst hte
     have := ZbC (te := mOp (g2 inP) (mVar 0) (mC (.str "abcdefghijklmnopqrstuvwxyz"))) (f := fun p => match p with | .str y => .bl (strIn y AZ) | _ => .non) (z.cps.toList.map fun c => .str ⟨#[c]⟩) [none] [] C (fun x hx => by
      obtain ⟨c, _, rfl⟩ := List.mem_map.mp hx
      simp [mOp, bnd, mVar, mC, opM, g2, deref, inP, inB, AZ])
     rw [this, List.nil_append, List.map_map]
     congr 3
     funext c
     simp only [Function.comp, strIn_one]
     rw [AZ_contains]
    simp! [h1, h2, mComp, mItems, itemsP, stIn', hl, key, allH, ZbW, wordP, wordB, List.all_map]
   ·simp! [F_qcb, h1, h2, wordP, wordB]
  ·simp! [F_qcb, h1, wordP, wordB]
 | dtt a b => cases h
 | fn a => cases h
 | ty a => cases h
 | _ => simp! [F_qcb, wordP]
theorem okv1 {p : PV} {ps : List PV} (h : (p :: ps).all okv = true) : okv p = true /\ ps.all okv = true := by simpa using h
theorem ZcU (ps : List PV) (C : Cs) : F_qbp [.v (.tup ps)] C = some (.v (.bl (decide (ps.length = 0))), C) := by
 simp! [F_qbp]
noncomputable def ofWord : List PV -> Bool
 | [a] => wordP a
 | _ => false
noncomputable def ofClause : List PV -> Bool
 | [a] => belB a 12
 | _ => false
noncomputable def ofPart : List PV -> Bool
 | [a, b] => belB a 12 && belB b 9
 | _ => false
noncomputable def ofHouse : List PV -> Bool
 | [a, b] => belB a 12 && wordP b && (match b with | .str z => decide (z ≠ "bell") | _ => true)
 | _ => false
theorem is_of_word_eq (ps : List PV) (C : Cs) (h : ps.all okv = true) : F_qbz [.v (.tup ps)] C = some (.v (.bl (ofWord ps)), C) := by
 match ps, h with
 | [], _ => simp! [F_qbz, ofWord]
 | [a], h => simp! [F_qbz, ofWord, ixQ, ixP, atI, ixN, Za2 a C (okv1 h).1]
 | a :: b :: r, _ =>
  have : ¬ ((r.length : Int) + 1 + 1 = 1) := by lia
  simp! [F_qbz, ofWord, this]
theorem Zbb (ps : List PV) (C : Cs) (h : ps.all okv = true) : F_qbw [.v (.tup ps)] C = some (.v (.bl (ofClause ps)), C) := by
 match ps, h with
 | [], _ => simp! [F_qbw, ofClause]
 | [a], h => simp! [F_qbw, ofClause, ixQ, ixP, atI, ixN, ZaH a C (okv1 h).1]
 | a :: b :: r, _ =>
  have : ¬ ((r.length : Int) + 1 + 1 = 1) := by lia
  simp! [F_qbw, ofClause, this]
theorem is_of_part_eq (ps : List PV) (C : Cs) (h : ps.all okv = true) : F_qby [.v (.tup ps)] C = some (.v (.bl (ofPart ps)), C) := by
 match ps, h with
 | [], _ => simp! [F_qby, ofPart]
 | [a], h => simp! [F_qby, ofPart]
 | [a, b], h =>
  cases hb : belB a 12 <;> simp! [F_qby, ofPart, ixQ, ixP, atI, ixN, ZaH a C (okv1 h).1, Zbh b 9 C (okv1 (okv1 h).2).1, hb]
 | a :: b :: c :: r, _ =>
  have : ¬ ((r.length : Int) + 1 + 1 + 1 = 2) := by lia
  simp! [F_qby, ofPart, this]
theorem ZcI (ps : List PV) (C : Cs) (h : ps.all okv = true) : F_qbx [.v (.tup ps)] C = some (.v (.bl (ofHouse ps)), C) := by
 match ps, h with
 | [], _ => simp! [F_qbx, ofHouse]
 | [a], h => simp! [F_qbx, ofHouse]
 | [a, b], h =>
  have hw := Za2 b C (okv1 (okv1 h).2).1
  cases hb : belB a 12
  ·simp! [F_qbx, ofHouse, ixQ, ixP, atI, ixN, ZaH a C (okv1 h).1, hb]
  ·cases hv : wordP b
   ·rw [hv] at hw
    simp! [F_qbx, ofHouse, ixQ, ixP, atI, ixN, ZaH a C (okv1 h).1, hw, hb, hv]
   ·rw [hv] at hw
    cases b with
    | str z => simp! [F_qbx, ofHouse, ixQ, ixP, atI, ixN, ZaH a C (okv1 h).1, hw, hb, hv]
    | _ => cases hv
 | a :: b :: c :: r, _ =>
  have : ¬ ((r.length : Int) + 1 + 1 + 1 = 2) := by lia
  simp! [F_qbx, ofHouse, this]
theorem cut1 (a : PV) (ps : List PV) : cutP (a :: ps) (some 1) none = ps := by
 have : min (1 : Nat) (ps.length + 1) = 1 := by lia
 simp [cutP, HT.sIx, this]
noncomputable def deedW (w : Str) (ps : List PV) : Bool :=
 if w = "join" then decide (ps.length = 0) else if w = "say" then ofWord ps else if w = "do" then ofPart ps else if w = "free" then ofClause ps else if w = "ready" then ofClause ps else if w = "hand" then ofHouse ps else if w = "quit" then ofClause ps else if w = "note" then decide (ps.length = 0) else false
noncomputable def deedP : PV -> Bool
 | .tup (.str w :: ps) => deedW w ps
 | _ => false
noncomputable def ok1 : PV -> Bool
 | .tup ps => ps.all okv
 | x => okv x
section
variable {d f1 f2 f3 f4 f5 : Addr}
theorem t1 : (ZaB f1 f2 f3 f4 f5).lookup ("join" : Str) = some f1 := by rfl
theorem t2 : (ZaB f1 f2 f3 f4 f5).lookup ("say" : Str) = some f2 := by rfl
theorem t3 : (ZaB f1 f2 f3 f4 f5).lookup ("do" : Str) = some f3 := by rfl
theorem t4 : (ZaB f1 f2 f3 f4 f5).lookup ("free" : Str) = some f4 := by rfl
theorem t5 : (ZaB f1 f2 f3 f4 f5).lookup ("ready" : Str) = some f4 := by rfl
theorem t6 : (ZaB f1 f2 f3 f4 f5).lookup ("hand" : Str) = some f5 := by rfl
theorem t7 : (ZaB f1 f2 f3 f4 f5).lookup ("quit" : Str) = some f4 := by rfl
theorem t8 : (ZaB f1 f2 f3 f4 f5).lookup ("note" : Str) = some f1 := by rfl
theorem t0 {w : Str} (h1 : w ≠ "join") (h2 : w ≠ "say") (h3 : w ≠ "do") (h4 : w ≠ "free") (h5 : w ≠ "ready") (h6 : w ≠ "hand") (h7 : w ≠ "quit") (h8 : w ≠ "note") : (ZaB f1 f2 f3 f4 f5).lookup w = none := by
 simp [ZaB, List.lookup_cons, beq_eq_false_iff_ne.mpr h1, beq_eq_false_iff_ne.mpr h2, beq_eq_false_iff_ne.mpr h3, beq_eq_false_iff_ne.mpr h4, beq_eq_false_iff_ne.mpr h5, beq_eq_false_iff_ne.mpr h6, beq_eq_false_iff_ne.mpr h7, beq_eq_false_iff_ne.mpr h8]
structure Dist (f1 f2 f3 f4 f5 : Addr) : Prop where
 a : f2 ≠ f1
 b : f3 ≠ f1
 c : f3 ≠ f2
 d : f4 ≠ f1
 e : f4 ≠ f2
 f : f4 ≠ f3
 g : f5 ≠ f1
 h : f5 ≠ f2
 i : f5 ≠ f3
 j : f5 ≠ f4
theorem n1 : (ZaP f1 f2 f3 f4 f5).lookup f1 = some F_qbp := by simp [ZaP, List.lookup_cons]
theorem n2 (D : Dist f1 f2 f3 f4 f5) : (ZaP f1 f2 f3 f4 f5).lookup f2 = some F_qbz := by simp [ZaP, List.lookup_cons, beq_eq_false_iff_ne.mpr D.a]
theorem n3 (D : Dist f1 f2 f3 f4 f5) : (ZaP f1 f2 f3 f4 f5).lookup f3 = some F_qby := by simp [ZaP, List.lookup_cons, beq_eq_false_iff_ne.mpr D.b, beq_eq_false_iff_ne.mpr D.c]
theorem n4 (D : Dist f1 f2 f3 f4 f5) : (ZaP f1 f2 f3 f4 f5).lookup f4 = some F_qbw := by simp [ZaP, List.lookup_cons, beq_eq_false_iff_ne.mpr D.d, beq_eq_false_iff_ne.mpr D.e, beq_eq_false_iff_ne.mpr D.f]
theorem n5 (D : Dist f1 f2 f3 f4 f5) : (ZaP f1 f2 f3 f4 f5).lookup f5 = some F_qbx := by simp [ZaP, List.lookup_cons, beq_eq_false_iff_ne.mpr D.g, beq_eq_false_iff_ne.mpr D.h, beq_eq_false_iff_ne.mpr D.i, beq_eq_false_iff_ne.mpr D.j]
theorem is_deed_eq (D : Dist f1 f2 f3 f4 f5) (x : PV) (C : Cs) (h : ok1 x = true) : F_qbr d f1 f2 f3 f4 f5 [.v x] C = some (.v (.bl (deedP x)), C) := by
 cases x with
 | dtt a b => cases h
 | fn a => cases h
 | ty a => cases h
 | tup xs =>
  match xs, h with
  | [], _ => simp! [F_qbr, deedP]
  | p :: ps, h =>
   have hp := (okv1 h).1
   have hps := (okv1 h).2
   cases p with
   | str w =>
    have stop : ∀ (r : Bool) (f : Addr) (F : List SV -> M SV), (ZaB f1 f2 f3 f4 f5).lookup w = some f -> (ZaP f1 f2 f3 f4 f5).lookup f = some F -> F [.v (.tup ps)] C = some (.v (.bl r), C) -> F_qbr d f1 f2 f3 f4 f5 [.v (.tup (.str w :: ps))] C = some (.v (.bl r), C) := fun r f F e1 e2 e3 => by
     simp! [F_qbr, ixQ, ixP, atI, ixN, topI, topG, e1, mCallV, callF, e2, cut1, e3]
    show F_qbr d f1 f2 f3 f4 f5 [.v (.tup (.str w :: ps))] C = some (SV.v (.bl (deedW w ps)), C)
    unfold deedW
    by_cases h1 : w = "join"
    ·subst h1; rw [if_pos rfl]; exact stop _ _ _ t1 n1 (ZcU ps C)
    by_cases h2 : w = "say"
    ·rw [if_neg h1, if_pos h2]; subst h2; exact stop _ _ _ t2 (n2 D) (is_of_word_eq ps C hps)
    by_cases h3 : w = "do"
    ·rw [if_neg h1, if_neg h2, if_pos h3]; subst h3; exact stop _ _ _ t3 (n3 D) (is_of_part_eq ps C hps)
    by_cases h4 : w = "free"
    ·rw [if_neg h1, if_neg h2, if_neg h3, if_pos h4]; subst h4; exact stop _ _ _ t4 (n4 D) (Zbb ps C hps)
    by_cases h5 : w = "ready"
    ·rw [if_neg h1, if_neg h2, if_neg h3, if_neg h4, if_pos h5]; subst h5; exact stop _ _ _ t5 (n4 D) (Zbb ps C hps)
    by_cases h6 : w = "hand"
    ·rw [if_neg h1, if_neg h2, if_neg h3, if_neg h4, if_neg h5, if_pos h6]; subst h6; exact stop _ _ _ t6 (n5 D) (ZcI ps C hps)
    by_cases h7 : w = "quit"
    ·rw [if_neg h1, if_neg h2, if_neg h3, if_neg h4, if_neg h5, if_neg h6, if_pos h7]; subst h7; exact stop _ _ _ t7 (n4 D) (Zbb ps C hps)
    by_cases h8 : w = "note"
    ·rw [if_neg h1, if_neg h2, if_neg h3, if_neg h4, if_neg h5, if_neg h6, if_neg h7, if_pos h8]; subst h8; exact stop _ _ _ t8 n1 (ZcU ps C)
    ·rw [if_neg h1, if_neg h2, if_neg h3, if_neg h4, if_neg h5, if_neg h6, if_neg h7, if_neg h8]
     simp! [F_qbr, ixQ, ixP, atI, ixN, topI, t0 h1 h2 h3 h4 h5 h6 h7 h8]
   | dtt a b => cases hp
   | fn a => cases hp
   | ty a => cases hp
   | _ => simp! [F_qbr, ixQ, ixP, atI, ixN, deedP]
 | _ => simp! [F_qbr, deedP]
end
noncomputable def wholeB (x : PV) (a b : Int) : Bool := match x with
 | .int i => decide (a <= i) && decide (i <= b)
 | _ => false
theorem Za9 (x : PV) (a b : Int) (C : Cs) (h : okv x = true) : F_qbk [.v x, .v (.int a), .v (.int b)] C = some (.v (.bl (wholeB x a b)), C) := by
 cases x with
 | int i => by_cases hi : a <= i <;> simp! [F_qbk, hi, wholeB]
 | dtt a b => cases h
 | fn a => cases h
 | ty a => cases h
 | _ => simp! [F_qbk, wholeB]
theorem whole_bel (x : PV) (b : Int) : wholeB x 0 b = belB x (b + 1) := by
 cases x <;> simp [belB, wholeB]
 rename_i i
 by_cases h : 0 <= i <;> simp [h]
 constructor <;> intro _ <;> lia
theorem ZaG (x : PV) (C : Cs) (h : okv x = true) : F_qaq [.v x] C = some (.v (.bl (wordP x)), C) := by
 cases x with
 | str z =>
  by_cases h1 : 1 <= (z.length : Int)
  ·by_cases h2 : (z.length : Int) <= 12
   ·have e : decide (Txt.stripChars z "abcdefghijklmnopqrstuvwxyz" = "") = z.cps.toList.all AZ.cps.contains := by
     have := strip_empty z AZ AZ.cps.contains rfl
     by_cases hz : z.cps.toList.all AZ.cps.contains = true
     ·rw [hz]; exact decide_eq_true (this.mpr hz)
     ·have hf : z.cps.toList.all AZ.cps.contains = false := by simpa using hz
      rw [hf]; exact decide_eq_false fun q => hz (this.mp q)
    simp! [F_qaq, h1, h2, stripH, wordP, wordB, e]
   ·simp! [F_qaq, h1, h2, wordP, wordB]
  ·simp! [F_qaq, h1, wordP, wordB]
 | dtt a b => cases h
 | fn a => cases h
 | ty a => cases h
 | _ => simp! [F_qaq, wordP]
theorem sw : strIn "w" "wh" = true := by decide +kernel
theorem sh : strIn "h" "wh" = true := by decide +kernel
theorem sc : strIn "c" "wh" = false := by decide +kernel
theorem sp : strIn "p" "wh" = false := by decide +kernel
theorem d1 : decide (("w" : Str) = "w") = true := by decide +kernel
theorem d2 : decide (("h" : Str) = "w") = false := by decide +kernel
theorem d3 : decide (("c" : Str) = "p") = false := by decide +kernel
theorem d4 : decide (("p" : Str) = "p") = true := by decide +kernel
theorem fits_w (x : PV) (C : Cs) (h : okv x = true) : F_qae [.v (.str "w"), .v x] C = some (.v (.bl (wordP x)), C) := by
 cases hv : wordP x <;> simp! [F_qae, inP, inB, sw, ZaG x C h, hv, d1]
noncomputable def notBell : PV -> Bool
 | .str z => decide (z ≠ "bell")
 | _ => true
theorem fits_h (x : PV) (C : Cs) (h : okv x = true) : F_qae [.v (.str "h"), .v x] C = some (.v (.bl (wordP x && notBell x)), C) := by
 cases hv : wordP x
 ·simp! [F_qae, inP, inB, sh, ZaG x C h, hv]
 ·cases x with
  | str z => simp! [F_qae, inP, inB, sh, ZaG _ C h, hv, d2, notBell]
  | _ => cases hv
theorem fits_c (x : PV) (C : Cs) (h : okv x = true) : F_qae [.v (.str "c"), .v x] C = some (.v (.bl (belB x 12)), C) := by
 have e : wholeB x 0 11 = belB x 12 := whole_bel x 11
 simp! [F_qae, inP, inB, sc, d3, intH, ixQ, ixP, atI, ixN, Za9 x _ _ C h, e]
theorem fits_p (x : PV) (C : Cs) (h : okv x = true) : F_qae [.v (.str "p"), .v x] C = some (.v (.bl (belB x 9)), C) := by
 have e : wholeB x 0 8 = belB x 9 := whole_bel x 8
 simp! [F_qae, inP, inB, sp, d4, intH, ixQ, ixP, atI, ixN, Za9 x _ _ C h, e]
noncomputable def fk : List PV := [.str "join", .str "note", .str "say", .str "do", .str "free", .str "ready", .str "quit", .str "hand"]
noncomputable def fv : List PV := [.str "", .str "", .str "w", .str "cp", .str "c", .str "c", .str "c", .str "ch"]
theorem Zba (C : Cs) : F_qag [] C = some (.v (.dct fk fv), C) := by
 simp! [F_qag, fk, fv]
theorem k1 : lookP fk fv (.inr "join") = some (.str "") := by rfl
theorem k2 : lookP fk fv (.inr "note") = some (.str "") := by rfl
theorem k3 : lookP fk fv (.inr "say") = some (.str "w") := by rfl
theorem k4 : lookP fk fv (.inr "do") = some (.str "cp") := by rfl
theorem k5 : lookP fk fv (.inr "free") = some (.str "c") := by rfl
theorem k6 : lookP fk fv (.inr "ready") = some (.str "c") := by rfl
theorem k7 : lookP fk fv (.inr "quit") = some (.str "c") := by rfl
theorem k8 : lookP fk fv (.inr "hand") = some (.str "ch") := by rfl
theorem k0 {w : Str} (h1 : w ≠ "join") (h2 : w ≠ "say") (h3 : w ≠ "do") (h4 : w ≠ "free") (h5 : w ≠ "ready") (h6 : w ≠ "hand") (h7 : w ≠ "quit") (h8 : w ≠ "note") : lookP fk fv (.inr w) = none := by
 simp [fk, fv, lookP, keyP, Ne.symm h1, Ne.symm h2, Ne.symm h3, Ne.symm h4, Ne.symm h5, Ne.symm h6, Ne.symm h7, Ne.symm h8]
theorem i0 : itemsP (.v (.str "")) = some [] := by rfl
theorem i1 : itemsP (.v (.str "w")) = some [.str "w"] := by rfl
theorem i2 : itemsP (.v (.str "cp")) = some [.str "c", .str "p"] := by rfl
theorem i3 : itemsP (.v (.str "c")) = some [.str "c"] := by rfl
theorem i4 : itemsP (.v (.str "ch")) = some [.str "c", .str "h"] := by rfl
theorem l0 : (("" : Str).length : Int) = 0 := by rfl
theorem l1 : (("w" : Str).length : Int) = 1 := by rfl
theorem l2 : (("cp" : Str).length : Int) = 2 := by rfl
theorem l3 : (("c" : Str).length : Int) = 1 := by rfl
theorem l4 : (("ch" : Str).length : Int) = 2 := by rfl
theorem it_tup (ps : List PV) : itemsP (.v (.tup ps)) = some ps := rfl
theorem l_none (w : Str) (ps : List PV) (C : Cs) (e : lookP fk fv (.inr w) = none) : F_qak [.v (.tup (.str w :: ps))] C = some (.v (.bl false), C) := by
 have hl : ¬ ((ps.length : Int) + 1 = 0) := by lia
 simp! [F_qak, Zba, ixQ, ixP, atI, ixN, getH, keyP, e, hl, isNP]
theorem l_len (w s : Str) (ps : List PV) (C : Cs) (e : lookP fk fv (.inr w) = some (.str s)) (hs : ps.length ≠ s.length) : F_qak [.v (.tup (.str w :: ps))] C = some (.v (.bl false), C) := by
 have hl : ¬ ((ps.length : Int) + 1 = 0) := by lia
 have h2 : ¬ ((ps.length : Int) + 1 = 1 + s.length) := by lia
 simp! [F_qak, Zba, ixQ, ixP, atI, ixN, getH, keyP, e, hl, isNP, addP, h2]
theorem l_0 (w : Str) (C : Cs) (e : lookP fk fv (.inr w) = some (.str "")) : F_qak [.v (.tup [.str w])] C = some (.v (.bl true), C) := by
 simp! [F_qak, Zba, ixQ, ixP, atI, ixN, getH, keyP, e, isNP, addP, l0, mComp, mZip, zipP, i0, cut1, it_tup, stIn', compL, allH, boolsP]
theorem l_1 (w s : Str) (a : PV) (g : Bool) (C : Cs) (e : lookP fk fv (.inr w) = some (.str s)) (hi : itemsP (.v (.str s)) = some [.str s]) (hl : (s.length : Int) = 1) (hf : F_qae [.v (.str s), .v a] C = some (.v (.bl g), C)) :
  F_qak [.v (.tup [.str w, a])] C = some (.v (.bl g), C) := by
 simp! [F_qak, Zba, ixQ, ixP, atI, ixN, getH, keyP, e, isNP, addP, hl, mComp, mZip, zipP, hi, cut1, it_tup, stIn', compL, hTup, hCons, hNil, hName, tOk, hf, allH, boolsP]
theorem l_2 (w s s1 s2 : Str) (a b : PV) (g1' g2' : Bool) (C : Cs) (e : lookP fk fv (.inr w) = some (.str s)) (hi : itemsP (.v (.str s)) = some [.str s1, .str s2]) (hl : (s.length : Int) = 2) (hf : F_qae [.v (.str s1), .v a] C = some (.v (.bl g1'), C))
  (hf2 : F_qae [.v (.str s2), .v b] C = some (.v (.bl g2'), C)) : F_qak [.v (.tup [.str w, a, b])] C = some (.v (.bl (g1' && g2')), C) := by
 simp! [F_qak, Zba, ixQ, ixP, atI, ixN, getH, keyP, e, isNP, addP, hl, mComp, mZip, zipP, hi, cut1, it_tup, stIn', compL, hTup, hCons, hNil, hName, tOk, hf, hf2, allH, boolsP]
noncomputable def of1 (g : PV -> Bool) : List PV -> Bool
 | [a] => g a
 | _ => false
noncomputable def of2 (g h : PV -> Bool) : List PV -> Bool
 | [a, b] => g a && h b
 | _ => false
theorem eW (ps : List PV) : ofWord ps = of1 wordP ps := by match ps with | [] => rfl | [a] => rfl | a :: b :: r => rfl
theorem eC (ps : List PV) : ofClause ps = of1 (fun a => belB a 12) ps := by match ps with | [] => rfl | [a] => rfl | a :: b :: r => rfl
theorem eP (ps : List PV) : ofPart ps = of2 (fun a => belB a 12) (fun a => belB a 9) ps := by match ps with | [] => rfl | [a] => rfl | [a, b] => rfl | a :: b :: c :: r => rfl
theorem eH (ps : List PV) : ofHouse ps = of2 (fun a => belB a 12) (fun a => wordP a && notBell a) ps := by
 match ps with
 | [] => rfl
 | [a] => rfl
 | [a, b] =>
  show (belB a 12 && wordP b && _) = (belB a 12 && (wordP b && notBell b))
  rw [Bool.and_assoc]
  cases b <;> rfl
 | a :: b :: c :: r => rfl
theorem l_is_deed_eq (x : PV) (C : Cs) (h : ok1 x = true) : F_qak [.v x] C = some (.v (.bl (deedP x)), C) := by
 cases x with
 | dtt a b => cases h
 | fn a => cases h
 | ty a => cases h
 | tup xs =>
  match xs, h with
  | [], _ => simp! [F_qak, deedP]
  | p :: ps, h =>
   have hp := (okv1 h).1
   have hps := (okv1 h).2
   cases p with
   | str w =>
    have bare : lookP fk fv (.inr w) = some (.str "") -> F_qak [.v (.tup (.str w :: ps))] C = some (.v (.bl (decide (ps.length = 0))), C) := fun e => by
     match ps with
     | [] => exact l_0 w C e
     | a :: r => exact l_len w "" (a :: r) C e (by have : ("" : Str).length = 0 := rfl; simp [this])
    have one : ∀ (s : Str) (g : PV -> Bool), lookP fk fv (.inr w) = some (.str s) -> itemsP (.v (.str s)) = some [.str s] -> (s.length : Int) = 1 -> (∀ a, okv a = true -> F_qae [.v (.str s), .v a] C = some (.v (.bl (g a)), C)) ->
      F_qak [.v (.tup (.str w :: ps))] C = some (.v (.bl (of1 g ps)), C) := fun s g e hi hl hf => by
     match ps, hps with
     | [], _ => exact l_len w s [] C e (by simp; lia)
     | [a], hps => exact l_1 w s a _ C e hi hl (hf a (okv1 hps).1)
     | a :: b :: r, _ => exact l_len w s (a :: b :: r) C e (by simp; lia)
    have two : ∀ (s s1 s2 : Str) (g1' g2' : PV -> Bool), lookP fk fv (.inr w) = some (.str s) -> itemsP (.v (.str s)) = some [.str s1, .str s2] -> (s.length : Int) = 2 -> (∀ a, okv a = true -> F_qae [.v (.str s1), .v a] C = some (.v (.bl (g1' a)), C)) ->
      (∀ a, okv a = true -> F_qae [.v (.str s2), .v a] C = some (.v (.bl (g2' a)), C)) -> F_qak [.v (.tup (.str w :: ps))] C = some (.v (.bl (of2 g1' g2' ps)), C) := fun s s1 s2 g1' g2' e hi hl hf hf2 => by
     match ps, hps with
     | [], _ => exact l_len w s [] C e (by simp; lia)
     | [a], hps => exact l_len w s [a] C e (by simp; lia)
     | [a, b], hps => exact l_2 w s s1 s2 a b _ _ C e hi hl (hf a (okv1 hps).1) (hf2 b (okv1 (okv1 hps).2).1)
     | a :: b :: c :: r, _ => exact l_len w s (a :: b :: c :: r) C e (by simp; lia)
    show F_qak [.v (.tup (.str w :: ps))] C = some (SV.v (.bl (deedW w ps)), C)
    unfold deedW
    by_cases h1 : w = "join"
    ·rw [if_pos h1]; subst h1; exact bare k1
    by_cases h2 : w = "say"
    ·rw [if_neg h1, if_pos h2, eW]; subst h2; exact one "w" wordP k3 i1 l1 fun a ha => fits_w a C ha
    by_cases h3 : w = "do"
    ·rw [if_neg h1, if_neg h2, if_pos h3, eP]; subst h3; exact two "cp" "c" "p" (fun a => belB a 12) (fun a => belB a 9) k4 i2 l2 (fun a ha => fits_c a C ha) fun a ha => fits_p a C ha
    by_cases h4 : w = "free"
    ·rw [if_neg h1, if_neg h2, if_neg h3, if_pos h4, eC]; subst h4; exact one "c" (fun a => belB a 12) k5 i3 l3 fun a ha => fits_c a C ha
    by_cases h5 : w = "ready"
    ·rw [if_neg h1, if_neg h2, if_neg h3, if_neg h4, if_pos h5, eC]; subst h5; exact one "c" (fun a => belB a 12) k6 i3 l3 fun a ha => fits_c a C ha
    by_cases h6 : w = "hand"
    ·rw [if_neg h1, if_neg h2, if_neg h3, if_neg h4, if_neg h5, if_pos h6, eH]; subst h6; exact two "ch" "c" "h" (fun a => belB a 12) (fun a => wordP a && notBell a) k8 i4 l4 (fun a ha => fits_c a C ha) fun a ha => fits_h a C ha
    by_cases h7 : w = "quit"
    ·rw [if_neg h1, if_neg h2, if_neg h3, if_neg h4, if_neg h5, if_neg h6, if_pos h7, eC]; subst h7; exact one "c" (fun a => belB a 12) k7 i3 l3 fun a ha => fits_c a C ha
    by_cases h8 : w = "note"
    ·rw [if_neg h1, if_neg h2, if_neg h3, if_neg h4, if_neg h5, if_neg h6, if_neg h7, if_pos h8]; subst h8; exact bare k2
    ·rw [if_neg h1, if_neg h2, if_neg h3, if_neg h4, if_neg h5, if_neg h6, if_neg h7, if_neg h8]
     exact l_none w ps C (k0 h1 h2 h3 h4 h5 h6 h7 h8)
   | dtt a b => cases hp
   | fn a => cases hp
   | ty a => cases hp
   | _ =>
    have hl : ¬ ((ps.length : Int) + 1 = 0) := by lia
    simp! [F_qak, ixQ, ixP, atI, ixN, deedP, hl]
 | _ => simp! [F_qak, deedP]
theorem tk (C : Cs) (k : Nat) (v : PV) : (C.set k v).take C.length = C.set k v := List.take_of_length_le (by simp)
theorem setAt {C : Cs} {k : Nat} {v w : PV} (h : C[k]? = some w) : (C.set k v)[k]? = some v := by
 have : k < C.length := by
  rcases Nat.lt_or_ge k C.length with q | q
  ·exact q
  ·rw [List.getElem?_eq_none_iff.mpr q] at h; cases h
 rw [List.getElem?_set_self this]
theorem pick_spec (k : Nat) (x y m : Int) (C : Cs) (hC : C[k]? = some (.lst [.int x, .int y])) (hy : 0 <= y /\ y < 2147483647) (hm : 0 < m /\ m < 1073741824) :
  ∃ d x' y', F_qba [.c k, .v (.int m)] C = some (.v (.int d), C.set k (.lst [.int x', .int y'])) /\ 0 <= d /\ d < m /\ 0 <= y' /\ y' < 2147483647 := by
 by_cases hx : 0 < x
 ·refine ⟨x % m, x / m, y, ?_, Int.emod_nonneg _ (by lia), Int.emod_lt_of_pos _ hm.1, hy.1, hy.2⟩
  simp! [F_qba, ixQ, ixP, atI, ixN, hC, hx, hm.1, hm.2, mSetIx, setC, tk]
 ·have h1 : 0 <= (y * 48271 + 12345) % 2147483647 := Int.emod_nonneg _ (by decide)
  have h2 : (y * 48271 + 12345) % 2147483647 < 2147483647 := Int.emod_lt_of_pos _ (by decide)
  refine ⟨(y * 48271 + 12345) % 2147483647 * ((y * 48271 + 12345) % 2147483647) % 1999999973 % m, x, (y * 48271 + 12345) % 2147483647, ?_, Int.emod_nonneg _ (by lia), Int.emod_lt_of_pos _ hm.1, h1, h2⟩
  generalize hz : (y * 48271 + 12345) % 2147483647 = z at h1 h2
  have c1 : (-18446744073709551616 < z /\ z < 18446744073709551616) := by lia
  simp! [F_qba, ixQ, ixP, atI, ixN, hC, hx, hm.1, hm.2, mSetIx, setC, tk, addP, setAt hC, hz, c1]
noncomputable def GS (C : Cs) (k : Nat) : Prop := ∃ x y : Int, C[k]? = some (.lst [.int x, .int y]) /\ 0 <= y /\ y < 2147483647
structure Adv (k : Nat) (C C' : Cs) : Prop where
 len : C'.length = C.length
 gs : GS C' k
 oth : ∀ j, j ≠ k -> C'[j]? = C[j]?
theorem Adv.refl {k : Nat} {C : Cs} (h : GS C k) : Adv k C C := ⟨rfl, h, fun _ _ => rfl⟩
theorem Adv.trans {k : Nat} {C C1 C2 : Cs} (a : Adv k C C1) (b : Adv k C1 C2) : Adv k C C2 := ⟨b.len.trans a.len, b.gs, fun j h => (b.oth j h).trans (a.oth j h)⟩
theorem Adv.take {k : Nat} {C C' : Cs} (a : Adv k C C') : C'.take C.length = C' := List.take_of_length_le (by rw [a.len]; exact Nat.le_refl _)
theorem ZaA (k : Nat) (m : Int) (C : Cs) (h : GS C k) (hm : 0 < m /\ m < 1073741824) : ∃ d C', F_qba [.c k, .v (.int m)] C = some (.v (.int d), C') /\ 0 <= d /\ d < m /\ Adv k C C' := by
 obtain ⟨x, y, hC, h1, h2⟩ := h
 obtain ⟨d, x', y', e, a1, a2, a3, a4⟩ := pick_spec k x y m C hC ⟨h1, h2⟩ hm
 exact ⟨d, _, e, a1, a2, by simp, ⟨x', y', setAt hC, a3, a4⟩, fun j hj => by rw [List.getElem?_set_ne (Ne.symm hj)]⟩
theorem comp_adv {te : PSt -> M SV} {k : Nat} {Pp : PV -> Prop} : ∀ (xs : List PV) (ρ : PSt) (ys : List PV) (C : Cs), GS C k -> (∀ x C, GS C k -> ∃ p C', te (ρ.set 0 (some (.v x))) C = some (.v p, C') /\ Pp p /\ Adv k C C') ->
  ∃ zs C', compL (hName 0) tOk te xs ρ ys C = some (ys ++ zs, C') /\ zs.length = xs.length /\ (∀ p ∈ zs, Pp p) /\ Adv k C C'
 | [], ρ, ys, C, g, h => ⟨[], C, by simp [compL, Pu.ret], rfl, by simp, Adv.refl g⟩
 | x :: xs, ρ, ys, C, g, h => by
  obtain ⟨p, C1, e1, hp, a1⟩ := h x C g
  obtain ⟨zs, C2, e2, hl, hz, a2⟩ := comp_adv (te := te) (Pp := Pp) xs (ρ.set 0 (some (.v x))) (ys ++ [p]) C1 a1.gs fun y C' g' => by rw [List.set_set]; exact h y C' g'
  refine ⟨p :: zs, C2, ?_, by simp [hl], fun q hq => ?_, a1.trans a2⟩
  ·simp [compL, hName, bnd, tOk, Pu.ret, e1, e2]
  ·rcases List.mem_cons.mp hq with rfl | hq
   ·exact hp
   ·exact hz q hq
theorem Zb7 {okk : PV -> Bool} (L : List PV) (h : L.all okk = true) (d : Int) (h1 : 0 <= d) (h2 : d < L.length) : ∃ p, ixQ (.lst L) (.int d) = some p /\ okk p = true := by
 have hd : d.toNat < L.length := by lia
 refine ⟨L[d.toNat], ?_, List.all_eq_true.mp h _ (List.getElem_mem hd)⟩
 simp [ixQ, ixP, atI, ixN, h1, h2, List.getElem?_eq_getElem hd]
theorem cut_len (xs : List PV) (lo hi : Option Int) : (cutP xs lo hi).length <= xs.length := by
 unfold cutP
 rw [List.length_take, List.length_drop]
 lia
theorem ZcY (ns : List Int) (i : Int) (C : Cs) (hi : 0 <= i) : ∃ v : Int, F_qac [.v (.lst (ns.map .int)), .v (.int i)] C = some (.v (.int v), C) := by
 by_cases h : i < ns.length
 ·have hd : i.toNat < ns.length := by lia
  refine ⟨ns[i.toNat], ?_⟩
  simp! [F_qac, ixQ, ixP, atI, ixN, hi, h, List.getElem?_eq_getElem hd]
 ·exact ⟨0, by simp! [F_qac, h]⟩
theorem left_eq (ns : List Int) (k : Int) (C : Cs) (h1 : 1 <= k) (h2 : k <= 1000) : ∃ x y : Int, FF_qas [.v (.lst (ns.map .int)), .v (.int k)] C = some ([.int x, .int y], C) /\ 0 <= y /\ y < 2147483647 := by
 have hm : 0 < (if (ns.length : Int) > 1 then (ns.length : Int) else 1) := by split <;> lia
 obtain ⟨v, ev⟩ := ZcY ns (k % (if (ns.length : Int) > 1 then (ns.length : Int) else 1)) C (Int.emod_nonneg _ (by lia))
 obtain ⟨u, eu⟩ := ZcY ns 0 C (by decide)
 have c1 : -18446744073709551616 < k /\ k < 18446744073709551616 := by lia
 have hm' : 0 < (if 1 < (ns.length : Int) then (ns.length : Int) else 1) := hm
 have ev' : F_qac [.v (.lst (ns.map .int)), .v (.int (k % (if 1 < (ns.length : Int) then (ns.length : Int) else 1)))] C = some (.v (.int v), C) := ev
 have hcast : (if 1 < (ns.length : Int) then (ns.length : Int) else 1) = if 1 < ns.length then (ns.length : Int) else 1 := by
  by_cases q : 1 < ns.length
  ·rw [if_pos q, if_pos (by lia)]
  ·rw [if_neg q, if_neg (by lia)]
 have p40 : (0 : Int) < 10 ^ 40 := by decide
 by_cases hu : u % 2 = 0
 ·refine ⟨0, (v % 2147483629 + 7919 * k * k + 11) * 48271 % 2147483647, ?_, Int.emod_nonneg _ (by decide), Int.emod_lt_of_pos _ (by decide)⟩
  simp! [FF_qas, mDefF, maxH, ev', eu, hm', c1, addP, hu]
 ·refine ⟨v % 10 ^ 40, (v % 2147483629 + 7919 * k * k + 11) * 48271 % 2147483647, ?_, Int.emod_nonneg _ (by decide), Int.emod_lt_of_pos _ (by decide)⟩
  simp! [FF_qas, mDefF, maxH, ev', eu, hm', c1, addP, hu]
theorem loop_inv {g : PV -> PSt -> Option PSt} {f : PSt -> M PF} (Pi : PSt -> Cs -> Prop) : ∀ (xs : List PV), (∀ x ∈ xs, ∀ ρ C, Pi ρ C -> ∃ ρ1 ρ2 C2, g x ρ = some ρ1 /\ f ρ1 C = some (.nx ρ2, C2) /\ Pi ρ2 C2) -> ∀ ρ C, Pi ρ C -> ∃ ρ' C', loop g f xs ρ C = some (.nx ρ', C') /\ Pi ρ' C'
 | [], _, ρ, C, h => ⟨ρ, C, rfl, h⟩
 | x :: xs, hs, ρ, C, h => by
  obtain ⟨ρ1, ρ2, C2, e1, e2, h2⟩ := hs x (by simp) ρ C h
  obtain ⟨ρ', C', e3, h3⟩ := loop_inv Pi xs (fun y hy => hs y (by simp [hy])) ρ2 C2 h2
  refine ⟨ρ', C', ?_, h3⟩
  unfold loop
  simp only [e1, bnd, e2, e3]
noncomputable abbrev NT := Str × Str × Int
noncomputable def nm (t : NT) : PV := .tup [.str t.1, .str t.2.1, .int t.2.2]
noncomputable def ky (t : NT) : List Key := [.inr t.1, .inr t.2.1, .inl t.2.2]
theorem ky_inj {t u : NT} (h : ky t = ky u) : t = u := by
 obtain ⟨a, b, n⟩ := t; obtain ⟨a', b', n'⟩ := u
 simp [ky] at h; obtain ⟨rfl, rfl, rfl⟩ := h; rfl
theorem nm_inj {t u : NT} (h : nm t = nm u) : t = u := by
 obtain ⟨a, b, n⟩ := t; obtain ⟨a', b', n'⟩ := u
 simp [nm] at h; obtain ⟨rfl, rfl, rfl⟩ := h; rfl
theorem Zbe (t : NT) : pur (nm t) = true := by simp [nm, pur, purs]
theorem ltD_nm (t u : NT) : ltD (nm t) (nm u) = some (lT (nm t) (nm u)) := by
 have h : ∃ c, ltD (nm t) (nm u) = some c := by
  unfold nm ltD lexD
  split
  ·unfold lexD; split
   ·unfold lexD; split
    ·unfold lexD; exact ⟨_, rfl⟩
    ·unfold ltD; exact ⟨_, rfl⟩
   ·unfold ltD; exact ⟨_, rfl⟩
  ·unfold ltD; exact ⟨_, rfl⟩
 obtain ⟨c, e⟩ := h
 rw [e, ltD_lT _ e]
theorem Zb1 (g : PV -> Bool) (ts : List NT) (h : ∀ t, g (nm t) = true) : (ts.map nm).all g = true := by
 rw [List.all_eq_true]; intro x hx; obtain ⟨t, _, rfl⟩ := List.mem_map.mp hx; exact h t
theorem ZcF (ts : List NT) : cmpAll (ts.map nm) = true := Zb1 _ ts fun t => Zb1 _ ts fun u => by rw [ltD_nm]; rfl
theorem Zbp : ∀ ts : List NT, purs (ts.map nm) = true
 | [] => rfl
 | t :: ts => by rw [List.map_cons]; unfold purs; rw [Zbe, Zbp ts]; rfl
theorem dats_nm : ∀ ts : List NT, dats (ts.map nm) = true
 | [] => rfl
 | t :: ts => by rw [List.map_cons]; unfold dats; rw [dats_nm ts]; simp [nm, dat, dats]
theorem deps_nm : ∀ ts : List NT, deps (ts.map nm) <= 1
 | [] => by simp [deps]
 | t :: ts => by rw [List.map_cons]; unfold deps; have := deps_nm ts; simp [nm, dep, deps]; lia
theorem sortable_nm (ts : List NT) : sortable (ts.map nm) = true := by
 unfold sortable; rw [Zb1 (fun p => fstK p == 4) ts fun t => rfl]; simp
theorem sortP_nm (ts : List NT) (h : ts.length < 64) : sortP (ts.map nm) = some (sortL (ts.map nm)) := by
 have hd := deps_nm ts
 unfold sortP
 rw [if_pos]
 rw [dats_nm, sortable_nm, ZcF, List.length_map]
 simp [h]; lia
theorem of_all {xs : List PV} (h : ∀ x ∈ xs, ∃ t, x = nm t) : ∃ ts : List NT, xs = ts.map nm := by
 induction xs with
 | nil => exact ⟨[], rfl⟩
 | cons x xs ih =>
  obtain ⟨t, rfl⟩ := h x (.head _)
  obtain ⟨ts, rfl⟩ := ih fun y hy => h y (.tail _ hy)
  exact ⟨t :: ts, rfl⟩
theorem sort_nm (ts : List NT) : ∃ us : List NT, sortL (ts.map nm) = us.map nm /\ us.length = ts.length /\ (∀ u ∈ us, u ∈ ts) := by
 have p := Zbu (ZcF ts) (Zbp ts)
 obtain ⟨us, e⟩ := of_all (xs := sortL (ts.map nm)) fun x hx => by
  obtain ⟨t, _, rfl⟩ := List.mem_map.mp (p.mem_iff.mp hx); exact ⟨t, rfl⟩
 refine ⟨us, e, ?_, fun u hu => ?_⟩
 ·have := p.length_eq; rw [e] at this; simpa using this
 ·have : nm u ∈ sortL (ts.map nm) := by rw [e]; exact List.mem_map_of_mem hu
  obtain ⟨t, ht, e2⟩ := List.mem_map.mp (p.mem_iff.mp this)
  rw [← nm_inj e2]; exact ht
noncomputable def dd (acc l : List (List Key)) : List (List Key) := l.foldl putKs acc
theorem dFold_fst {α : Type} : ∀ (qs : List (List Key × α)) (ks : List (List Key)) (xs : List α), (dFold qs ks xs).1 = dd ks (qs.map (·.1))
  | [], ks, xs => rfl
  | (k, x) :: r, ks, xs => by unfold dFold; rw [dFold_fst r]; rfl
theorem putKs_mem {ks : List (List Key)} {k a : List Key} : a ∈ putKs ks k ↔ a ∈ ks \/ a = k := by
 unfold putKs
 by_cases h : inK k ks = true
 ·rw [if_pos h]
  exact ⟨.inl, fun z => z.elim id fun e => by rw [e]; exact inK_iff.mp h⟩
 ·rw [if_neg h]; simp
theorem putKs_nodup {ks : List (List Key)} {k : List Key} (h : ks.Nodup) : (putKs ks k).Nodup := by
 unfold putKs
 by_cases e : inK k ks = true
 ·rw [if_pos e]; exact h
 ·rw [if_neg e, List.nodup_append]
  refine ⟨h, by simp, fun a ha b hb => ?_⟩
  have : b = k := by simpa using hb
  subst this
  exact fun z => e (inK_iff.mpr (z ▸ ha))
theorem dd_mem : ∀ (l acc : List (List Key)) (a : List Key), a ∈ dd acc l ↔ a ∈ acc \/ a ∈ l
 | [], acc, a => by simp [dd]
 | k :: l, acc, a => by
  show a ∈ dd (putKs acc k) l ↔ _
  rw [dd_mem l, putKs_mem, List.mem_cons, or_assoc]
theorem dd_nodup : ∀ (l acc : List (List Key)), acc.Nodup -> (dd acc l).Nodup
 | [], acc, h => h
 | k :: l, acc, h => dd_nodup l _ (putKs_nodup h)
theorem dd_id : ∀ (l acc : List (List Key)), (acc ++ l).Nodup -> dd acc l = acc ++ l
 | [], acc, h => by simp [dd]
 | k :: l, acc, h => by
  show dd (putKs acc k) l = _
  have hk : putKs acc k = acc ++ [k] := by
   unfold putKs
   rw [if_neg]
   intro z
   rw [List.nodup_append] at h
   exact h.2.2 k (inK_iff.mp z) k (.head _) rfl
  rw [hk, dd_id l (acc ++ [k]) (by simpa using h)]; simp
theorem dd_len : ∀ (l acc : List (List Key)), (dd acc l).length <= acc.length + l.length
 | [], acc => by simp [dd]
 | k :: l, acc => by
  show (dd (putKs acc k) l).length <= _
  have h1 := dd_len l (putKs acc k)
  have h2 : (putKs acc k).length <= acc.length + 1 := by unfold putKs; split <;> simp
  rw [List.length_cons]; lia
noncomputable def nb : List PV -> Bool
 | a :: b :: r => lT a b && nb (b :: r)
 | _ => true
theorem nb_pw : ∀ (ts : List NT), nb (ts.map nm) = true ↔ (ts.map nm).Pairwise fun a b => lT a b = true
 | [] => by simp [nb]
 | [t] => by simp [nb]
 | t :: u :: ts => by
  have ih := nb_pw (u :: ts)
  simp only [List.map_cons] at ih ⊢
  unfold nb
  rw [Bool.and_eq_true, ih, List.pairwise_cons (a := nm t)]
  constructor
  ·rintro ⟨h1, h2⟩
   refine ⟨fun b hb => ?_, h2⟩
   rcases List.mem_cons.mp hb with rfl | hb
   ·exact h1
   ·obtain ⟨v, hv, rfl⟩ := List.mem_map.mp hb
    exact lT_tr _ (Zbe t) (Zbe u) (Zbe v) h1 ((List.pairwise_cons.mp h2).1 _ hb)
  ·rintro ⟨h1, h2⟩
   exact ⟨h1 _ (.head _), h2⟩
theorem lT_asym {t u : NT} (h : lT (nm t) (nm u) = true) : lT (nm u) (nm t) = false := by
 cases e : lT (nm u) (nm t) with
 | false => rfl
 | true => have := lT_tr _ (Zbe t) (Zbe u) (Zbe t) h e; rw [Zcu _ (Zbe t)] at this; cases this
theorem pw_map {α β : Type} {R : β -> β -> Prop} {S : α -> α -> Prop} (f : α -> β) (h : ∀ a b, R (f a) (f b) -> S a b) {l : List α} (p : (l.map f).Pairwise R) : l.Pairwise S := by
 rw [List.pairwise_map] at p
 exact p.imp fun {a b} z => h a b z
theorem map_pw {α β : Type} {R : β -> β -> Prop} {S : α -> α -> Prop} (f : α -> β) (h : ∀ a b, S a b -> R (f a) (f b)) {l : List α} (p : l.Pairwise S) : (l.map f).Pairwise R := by
 rw [List.pairwise_map]; exact p.imp fun {a b} z => h a b z
theorem dd_nm (ts : List NT) : ∃ us : List NT, dd [] (ts.map ky) = us.map ky /\ us.length <= ts.length /\ us.Nodup /\ ∀ u ∈ us, u ∈ ts := by
 have : ∀ {l : List (List Key)}, (∀ x ∈ l, ∃ t ∈ ts, x = ky t) -> ∃ us : List NT, l = us.map ky /\ ∀ u ∈ us, u ∈ ts := fun {l} => by
  induction l with
  | nil => intro _; exact ⟨[], rfl, by simp⟩
  | cons x l ih =>
   intro h
   obtain ⟨t, ht, rfl⟩ := h x (.head _)
   obtain ⟨us, rfl, hu⟩ := ih fun y hy => h y (.tail _ hy)
   exact ⟨t :: us, rfl, fun u z => (List.mem_cons.mp z).elim (fun e => e ▸ ht) (hu u)⟩
 obtain ⟨us, e, hu⟩ := this (l := dd [] (ts.map ky)) fun x hx => by
  rcases (dd_mem _ _ _).mp hx with z | z
  ·cases z
  ·obtain ⟨t, ht, rfl⟩ := List.mem_map.mp z; exact ⟨t, ht, rfl⟩
 refine ⟨us, e, ?_, ?_, hu⟩
 ·have := dd_len (ts.map ky) []; rw [e] at this; simpa using this
 ·have := dd_nodup (ts.map ky) [] (by simp)
  rw [e] at this
  exact pw_map ky (fun a b h z => h (by rw [z])) this
theorem Zcs (us : List NT) : (us.map ky).map tupK = us.map nm := by rw [List.map_map]; rfl
theorem rise_iff (ts us : List NT) (e : dd [] (ts.map ky) = us.map ky) (hn : us.Nodup) : nb (ts.map nm) = true ↔ ts.map nm = sortL (us.map nm) := by
 rw [nb_pw]
 constructor
 ·intro h
  have hnd : (ts.map ky).Nodup := by
   refine map_pw ky (S := fun a b => lT (nm a) (nm b) = true) (fun a b z q => ?_) (pw_map nm (fun _ _ z => z) h)
   rw [ky_inj q, Zcu _ (Zbe b)] at z; cases z
  have e2 := dd_id (ts.map ky) [] (by simpa using hnd)
  rw [e, List.nil_append] at e2
  have e3 : us = ts := by
   have h2 : ∀ {a b : List NT}, a.map ky = b.map ky -> a = b := fun {a} => by
    induction a with
    | nil => intro b z; cases b <;> simp at z ⊢
    | cons x a ih => intro b z; cases b with
     | nil => simp at z
     | cons y b => rw [List.map_cons, List.map_cons] at z; injection z with z1 z2; rw [ky_inj z1, ih z2]
   exact h2 e2
  subst e3
  refine (sortL_eq (ZcF us) (Zbp us) (List.Perm.refl _) ?_).symm
  unfold Rising
  exact map_pw nm (S := fun a b => lT (nm a) (nm b) = true) (fun a b z => lT_asym z) (pw_map nm (fun _ _ z => z) h)
 ·intro h
  have r := Zbr (ZcF us) (Zbp us)
  have p := Zbu (ZcF us) (Zbp us)
  rw [← h] at r p
  have hnd : (ts.map nm).Nodup := p.nodup_iff.mpr (map_pw nm (fun a b z q => z (nm_inj q)) hn)
  unfold Rising at r
  have := r.and hnd
  refine List.Pairwise.imp_of_mem (fun {a b} ha hb z => ?_) this
  obtain ⟨t, _, rfl⟩ := List.mem_map.mp ha
  obtain ⟨u, _, rfl⟩ := List.mem_map.mp hb
  cases c : lT (nm t) (nm u) with
  | true => rfl
  | false => exact absurd (lT_tri _ (Zbe t) (Zbe u) c z.1) z.2
theorem zip_nb : ∀ xs : List PV, (List.zipWith (fun a b => lT a b) xs (xs.drop 1)).all id = nb xs
 | [] => rfl
 | [a] => rfl
 | a :: b :: r => by
  have ih := zip_nb (b :: r)
  rw [List.drop_one] at ih ⊢
  simp only [List.tail_cons, List.zipWith_cons_cons, List.all_cons, id] at ih ⊢
  unfold nb
  rw [← ih]
noncomputable def pok : PV -> Bool
 | .int i => decide (i <= 10 ^ 30)
 | x => okv x
noncomputable def nok : PV -> Bool
 | .tup ps => ps.all pok
 | x => okv x
theorem ZaS {x : PV} (h : pok x = true) : okv x = true := by cases x <;> first | rfl | cases h
noncomputable def nameB : PV -> Bool
 | .tup [a, b, c] => wordP a && wordP b && numB c 1
 | _ => false
theorem Zbj (ps : List PV) (a b : Int) (C : Cs) : F_qca [.v (.tup ps), .v (.int a), .v (.int b)] C = some (.v (.bl (decide (a <= ps.length) && decide ((ps.length : Int) <= b))), C) := by
 by_cases h : a <= ps.length
 ·by_cases h2 : (ps.length : Int) <= b <;> simp! [F_qca, h, h2]
 ·simp! [F_qca, h]
noncomputable def isT : PV -> Bool
 | .tup _ => true
 | _ => false
theorem ZaU (x : PV) (a b : Int) (C : Cs) (h : okv x = true) (ht : isT x = false) : F_qca [.v x, .v (.int a), .v (.int b)] C = some (.v (.bl false), C) := by
 cases x <;> first | (cases ht; done) | (cases h; done) | simp! [F_qca]
theorem name3 (a b c : PV) (C : Cs) (ha : okv a = true) (hb : okv b = true) (hc : okv c = true) : F_qbt [.v (.tup [a, b, c])] C = some (.v (.bl (wordP a && wordP b && numB c 1)), C) := by
 cases h1 : wordP a
 ·simp! [F_qbt, Zbj, ixQ, ixP, atI, ixN, Za2 a C ha, h1]
 ·cases h2 : wordP b
  ·simp! [F_qbt, Zbj, ixQ, ixP, atI, ixN, Za2 a C ha, Za2 b C hb, h1, h2]
  ·simp! [F_qbt, Zbj, ixQ, ixP, atI, ixN, Za2 a C ha, Za2 b C hb, Za6 c 1 C hc, h1, h2]
theorem ZbZ (x : PV) (C : Cs) (h : nok x = true) : F_qbt [.v x] C = some (.v (.bl (nameB x)), C) := by
 cases x with
 | tup ps =>
  match ps, h with
  | [], _ => simp! [F_qbt, Zbj, nameB]
  | [a], _ => simp! [F_qbt, Zbj, nameB]
  | [a, b], _ => simp! [F_qbt, Zbj, nameB]
  | [a, b, c], h =>
   simp only [nok, List.all_cons, List.all_nil, Bool.and_true, Bool.and_eq_true] at h
   exact name3 a b c C (ZaS h.1) (ZaS h.2.1) (ZaS h.2.2)
  | a :: b :: c :: d :: r, _ =>
   have : ¬ ((r.length : Int) + 1 + 1 + 1 + 1 <= 3) := by lia
   simp! [F_qbt, Zbj, nameB, this]
 | lst ps => simp! [F_qbt, ZaU (.lst ps) 3 3 C rfl rfl, nameB]
 | non => simp! [F_qbt, ZaU .non 3 3 C rfl rfl, nameB]
 | str z => simp! [F_qbt, ZaU (.str z) 3 3 C rfl rfl, nameB]
 | int z => simp! [F_qbt, ZaU (.int z) 3 3 C rfl rfl, nameB]
 | bl z => simp! [F_qbt, ZaU (.bl z) 3 3 C rfl rfl, nameB]
 | dct a b => simp! [F_qbt, ZaU (.dct a b) 3 3 C rfl rfl, nameB]
 | _ => cases h
theorem whole_num (c : PV) (h : pok c = true) : wholeB c 1 (10 ^ 30) = numB c 1 := by
 cases c <;> simp [wholeB, numB]
 rename_i i
 have : i <= 10 ^ 30 := of_decide_eq_true h
 intro _; exact this
theorem lname3 (a b c : PV) (C : Cs) (ha : pok a = true) (hb : pok b = true) (hc : pok c = true) : F_qao [.v (.tup [a, b, c])] C = some (.v (.bl (wordP a && wordP b && numB c 1)), C) := by
 have e := whole_num c hc
 simp only [show (10 : Int) ^ 30 = 1000000000000000000000000000000 from rfl] at e
 cases h1 : wordP a
 ·simp! [F_qao, ixQ, ixP, atI, ixN, ZaG a C (ZaS ha), h1]
 ·cases h2 : wordP b
  ·simp! [F_qao, ixQ, ixP, atI, ixN, ZaG a C (ZaS ha), ZaG b C (ZaS hb), h1, h2]
  ·simp! [F_qao, ixQ, ixP, atI, ixN, ZaG a C (ZaS ha), ZaG b C (ZaS hb), Za9 c _ _ C (ZaS hc), h1, h2, e]
theorem l_is_name_eq (x : PV) (C : Cs) (h : nok x = true) : F_qao [.v x] C = some (.v (.bl (nameB x)), C) := by
 cases x with
 | tup ps =>
  match ps, h with
  | [], _ => simp! [F_qao, nameB]
  | [a], _ => simp! [F_qao, nameB]
  | [a, b], _ => simp! [F_qao, nameB]
  | [a, b, c], h =>
   simp only [nok, List.all_cons, List.all_nil, Bool.and_true, Bool.and_eq_true] at h
   exact lname3 a b c C h.1 h.2.1 h.2.2
  | a :: b :: c :: d :: r, _ =>
   have : ¬ ((r.length : Int) + 1 + 1 + 1 + 1 = 3) := by lia
   simp! [F_qao, nameB, this]
 | lst ps => simp! [F_qao, nameB]
 | non => simp! [F_qao, nameB]
 | str z => simp! [F_qao, nameB]
 | int z => simp! [F_qao, nameB]
 | bl z => simp! [F_qao, nameB]
 | dct a b => simp! [F_qao, nameB]
 | _ => cases h
theorem comp_gen {g : PV -> PSt -> Option PSt} {te : PSt -> M SV} {f : PV -> PV} {C : Cs} (Pi : PSt -> Prop) : ∀ (xs : List PV), (∀ x ∈ xs, ∀ ρ, Pi ρ -> ∃ ρ1, g x ρ = some ρ1 /\ Pi ρ1 /\ te ρ1 C = some (.v (f x), C)) -> ∀ (ρ : PSt) (ys : List PV), Pi ρ -> compL g tOk te xs ρ ys C = some (ys ++ xs.map f, C)
 | [], _, ρ, ys, _ => by simp [compL, Pu.ret]
 | x :: xs, h, ρ, ys, hp => by
  obtain ⟨ρ1, e1, p1, e2⟩ := h x (.head _) ρ hp
  have ih := comp_gen Pi xs (fun y hy => h y (.tail _ hy)) ρ1 (ys ++ [f x]) p1
  unfold compL
  simp [e1, bnd, tOk, Pu.ret, e2, ih]
theorem names_of {xs : List PV} (h : xs.all nameB = true) : ∃ ts : List NT, xs = ts.map nm /\ ∀ t ∈ ts, wordB t.1 = true /\ wordB t.2.1 = true := by
 induction xs with
 | nil => exact ⟨[], rfl, by simp⟩
 | cons x xs ih =>
  rw [List.all_cons, Bool.and_eq_true] at h
  obtain ⟨ts, rfl, ht⟩ := ih h.2
  have hx := h.1
  unfold nameB at hx
  split at hx
  ·rename_i a b c
   simp only [Bool.and_eq_true] at hx
   obtain ⟨⟨h1, h2⟩, h3⟩ := hx
   cases a <;> first | cases h1 | skip
   cases b <;> first | cases h2 | skip
   cases c <;> first | cases h3 | skip
   rename_i s1 s2 n
   exact ⟨(s1, s2, n) :: ts, rfl, fun t z => (List.mem_cons.mp z).elim (fun e => by subst e; exact ⟨h1, h2⟩) (ht t)⟩
  ·cases hx
noncomputable def ownB (a b : Str) : PV -> Bool
 | .tup (p :: q :: _) => eqD (.tup [p, q]) (.tup [.str a, .str b])
 | _ => false
noncomputable def gotB (a b : Str) : PV -> Bool
 | .tup xs => decide (xs.length <= 30) && xs.all nameB && nb xs && xs.all fun x => !ownB a b x
 | _ => false
theorem cut_drop (xs : List PV) : cutP xs (some 1) none = xs.drop 1 := by
 cases xs with
 | nil => rfl
 | cons a r => rw [cut1]; rfl
theorem cut2 (a b c : PV) : cutP [a, b, c] none (some 2) = [a, b] := by rfl
noncomputable def gok : PV -> Bool
 | .tup xs => decide (xs.length <= 1000) && xs.all nok
 | x => okv x
theorem ZcX {fr : List (Option SV)} (F : List SV -> M SV) (xs : List PV) (C : Cs) (hF : ∀ x ∈ xs, F [.v x] C = some (.v (.bl (nameB x)), C)) (ρ : PSt) (hρ : 1 <= ρ.length) : compL (hName 0) tOk (mFn F (aCons (mVar 0) aNil)) xs ρ [] C = some (xs.map fun x => .bl (nameB x), C) := by
 have := ZbC (te := mFn F (aCons (mVar 0) aNil)) (f := fun x => .bl (nameB x)) xs ρ [] C (fun x hx => by
  have h0 : (ρ.set 0 (some (SV.v x)))[0]? = some (some (.v x)) := by rw [List.getElem?_set_self (by lia)]
  simp [mFn, bnd, aCons, aNil, mVar, Pu.ret, h0, hF x hx])
 rw [this, List.nil_append]
theorem zipW_map (xs : List PV) : ∀ ys : List PV, (List.zipWith (fun a b => PV.tup [a, b]) xs ys).map (fun p => match p with | .tup [a, b] => PV.bl (lT a b) | _ => .non) = (List.zipWith (fun a b => lT a b) xs ys).map PV.bl := by
 induction xs with
 | nil => intro ys; simp
 | cons x xs ih => intro ys; cases ys with
  | nil => simp
  | cons y ys => simp [ih ys]
theorem zipW_mem {xs ys : List PV} {p : PV} (h : p ∈ List.zipWith (fun a b => PV.tup [a, b]) xs ys) : ∃ a ∈ xs, ∃ b ∈ ys, p = .tup [a, b] := by
 induction xs generalizing ys with
 | nil => simp at h
 | cons x xs ih => cases ys with
  | nil => simp at h
  | cons y ys =>
   rw [List.zipWith_cons_cons] at h
   rcases List.mem_cons.mp h with rfl | h
   ·exact ⟨x, .head _, y, .head _, rfl⟩
   ·obtain ⟨a, ha, b, hb, e⟩ := ih h
    exact ⟨a, .tail _ ha, b, .tail _ hb, e⟩
theorem dat_nm (t : NT) : dat (nm t) = true := by simp [nm, dat, dats]
theorem dep_nm (t : NT) : dep (nm t) = 1 := by simp [nm, dep, deps]
theorem ltDP_nm (t u : NT) : ltDP (nm t) (nm u) = some (.bl (lT (nm t) (nm u))) := by
 unfold ltDP; rw [dat_nm, dat_nm, dep_nm, ltD_nm]; rfl
theorem zl_len (xs : List PV) : (List.zipWith (fun a b => PV.tup [a, b]) xs (xs.drop 1)).length <= xs.length := by rw [List.length_zipWith]; lia
theorem comp_rise (ts : List NT) (C : Cs) (a b : Option SV) : compL (hTup (hCons (hName 0) (hCons (hName 1) hNil)) 2) tOk (mOp (g2 ltDP) (mVar 0) (mVar 1)) (List.zipWith (fun a b => PV.tup [a, b]) (ts.map nm) ((ts.map nm).drop 1)) [a, b] [] C = some ((List.zipWith (fun a b => lT a b) (ts.map nm) ((ts.map nm).drop 1)).map PV.bl, C) := by
 have := comp_gen (g := hTup (hCons (hName 0) (hCons (hName 1) hNil)) 2) (te := mOp (g2 ltDP) (mVar 0) (mVar 1)) (f := fun p => match p with | .tup [a, b] => PV.bl (lT a b) | _ => .non) (C := C) (fun ρ => ρ.length = 2) (List.zipWith (fun a b => PV.tup [a, b]) (ts.map nm) ((ts.map nm).drop 1)) (fun p hp ρ hρ => by
  obtain ⟨x, hx, y, hy, rfl⟩ := zipW_mem hp
  obtain ⟨t, _, rfl⟩ := List.mem_map.mp hx
  obtain ⟨u, _, rfl⟩ := List.mem_map.mp (List.mem_of_mem_drop hy)
  match ρ, hρ with
  | [r1, r2], _ =>
   refine ⟨[some (.v (nm t)), some (.v (nm u))], by simp [hTup, hCons, hName, hNil], rfl, ?_⟩
   simp [mOp, bnd, mVar, opM, g2, deref, ltDP_nm]) [a, b] [] rfl
 rw [this, List.nil_append, zipW_map]
theorem eqD2 (a b c d : Str) : deepP (fun p q => !eqD p q) (.tup [.str a, .str b]) (.tup [.str c, .str d]) = some (.bl (!eqD (.tup [.str a, .str b]) (.tup [.str c, .str d]))) := by
 unfold deepP; simp [dat, dats, dep, deps]
theorem comp_own (ts : List NT) (C : Cs) (h d : Str) (z : Option SV) : compL (hName 0) tOk (mOp (g2 (deepP fun p q => !eqD p q)) (mSlice (mVar 0) oNo (oPart (mC (.int 2)))) (mTup (aCons (mVar 1) (aCons (mVar 2) aNil)))) (ts.map nm) [z, some (.v (.str h)), some (.v (.str d))] [] C = some ((ts.map nm).map fun x => .bl (!ownB h d x), C) := by
 have := ZbC (te := mOp (g2 (deepP fun p q => !eqD p q)) (mSlice (mVar 0) oNo (oPart (mC (.int 2)))) (mTup (aCons (mVar 1) (aCons (mVar 2) aNil)))) (f := fun x => .bl (!ownB h d x)) (ts.map nm) [z, some (.v (.str h)), some (.v (.str d))] [] C (fun x hx => by
  obtain ⟨t, _, rfl⟩ := List.mem_map.mp hx
  have e := eqD2 t.1 t.2.1 h d
  simp only [nm, ownB]
  simp! [cut2, e])
 rw [this, List.nil_append]
theorem comp_cut (ts : List NT) (C : Cs) (z : Option SV) : compL (hName 0) tOk (mSlice (mVar 0) oNo (oPart (mC (.int 2)))) (ts.map nm) [z] [] C = some (ts.map fun t => .tup [.str t.1, .str t.2.1], C) := by
 have := ZbC (te := mSlice (mVar 0) oNo (oPart (mC (.int 2)))) (f := fun x => match x with | .tup (p :: q :: _) => .tup [p, q] | _ => .non) (ts.map nm) [z] [] C (fun x hx => by
  obtain ⟨t, _, rfl⟩ := List.mem_map.mp hx
  simp only [nm]
  simp! [cut2])
 rw [this, List.nil_append, List.map_map]; rfl
theorem comp_pair (ts : List NT) (C : Cs) (z : Option SV) : compL (hName 0) tOk (mTup (aCons (mVar 0) (aCons (mC (.bl true)) aNil))) (ts.map nm) [z] [] C = some (ts.map fun t => .tup [nm t, .bl true], C) := by
 have := ZbC (te := mTup (aCons (mVar 0) (aCons (mC (.bl true)) aNil))) (f := fun x => .tup [x, .bl true]) (ts.map nm) [z] [] C (fun x hx => by simp! [])
 rw [this, List.nil_append, List.map_map]; rfl
theorem all_bl (f : PV -> Bool) (xs : List PV) : allH [.lst (xs.map fun x => .bl (f x))] = some (.bl (xs.all f)) := by
 simp [allH, ZbW, List.all_map]
theorem all_bl2 (bs : List Bool) : allH [.lst (bs.map PV.bl)] = some (.bl (bs.all id)) := by
 have := ZbW (fun b : Bool => b) bs
 simp at this
 simp [allH, this]
theorem are_gots_eq (g : PV) (h d : Str) (C : Cs) (hg : gok g = true) : F_qbo [.v g, .v (.str h), .v (.str d)] C = some (.v (.bl (gotB h d g)), C) := by
 cases g with
 | lst xs => simp! [F_qbo, ZaU (.lst xs) 0 30 C rfl rfl, gotB]
 | non => simp! [F_qbo, ZaU .non 0 30 C rfl rfl, gotB]
 | str z => simp! [F_qbo, ZaU (.str z) 0 30 C rfl rfl, gotB]
 | int z => simp! [F_qbo, ZaU (.int z) 0 30 C rfl rfl, gotB]
 | bl z => simp! [F_qbo, ZaU (.bl z) 0 30 C rfl rfl, gotB]
 | dct a b => simp! [F_qbo, ZaU (.dct a b) 0 30 C rfl rfl, gotB]
 | tup xs =>
  simp only [gok, Bool.and_eq_true, decide_eq_true_eq] at hg
  have hr : F_qca [.v (.tup xs), .v (.int 0), .v (.int 30)] C = some (.v (.bl (decide (xs.length <= 30))), C) := by
   rw [Zbj]
   have e1 : decide ((0 : Int) <= xs.length) = true := decide_eq_true (by lia)
   have e2 : decide ((xs.length : Int) <= 30) = decide (xs.length <= 30) := by by_cases q : xs.length <= 30 <;> simp [q] <;> lia
   rw [e1, e2, Bool.true_and]
  have hl : xs.length <= 100000 := by lia
  by_cases h30 : xs.length <= 30
  ·have hc := ZcX (fr := []) F_qbt xs C (fun x hx => ZbZ x C (List.all_eq_true.mp hg.2 x hx)) [none] (by simp)
   cases hn : xs.all nameB
   ·unfold F_qbo B_qbo
    generalize hte : mFn F_qbt (aCons (mVar 0) aNil) = te at hc ⊢
    have ha := all_bl nameB xs
    simp! [hr, h30, mComp, mItems, itemsP, stIn', hl, hc, ha, hn, gotB]
   ·obtain ⟨ts, rfl, hw⟩ := names_of hn
    have c2 := comp_rise ts C none none
    have c3 := comp_own ts C h d none
    have z1 := all_bl nameB (ts.map nm)
    have z2 := all_bl2 (List.zipWith (fun a b => lT a b) (ts.map nm) ((ts.map nm).drop 1))
    have z3 := all_bl (fun x => !ownB h d x) (ts.map nm)
    rw [zip_nb] at z2
    have hzl := zl_len (ts.map nm)
    have hzl' : (List.zipWith (fun a b => PV.tup [a, b]) (ts.map nm) ((ts.map nm).drop 1)).length <= 100000 := by lia
    have hz : zipP [.v (.tup (ts.map nm)), .v (.tup (cutP (ts.map nm) (some 1) none))] = some (List.zipWith (fun a b => PV.tup [a, b]) (ts.map nm) ((ts.map nm).drop 1)) := by rw [cut_drop]; rfl
    generalize hzs : List.zipWith (fun a b => PV.tup [a, b]) (ts.map nm) ((ts.map nm).drop 1) = zs at *
    generalize hws : (List.zipWith (fun a b => lT a b) (ts.map nm) ((ts.map nm).drop 1)).map PV.bl = ws at *
    unfold F_qbo B_qbo
    generalize hte : mFn F_qbt (aCons (mVar 0) aNil) = te at hc ⊢
    generalize hte2 : mOp (g2 ltDP) (mVar 0) (mVar 1) = te2 at c2 ⊢
    generalize hte3 : mOp (g2 (deepP fun p q => !eqD p q)) (mSlice (mVar 0) oNo (oPart (mC (.int 2)))) (mTup (aCons (mVar 1) (aCons (mVar 2) aNil))) = te3 at c3 ⊢
    generalize hxs : ts.map nm = xs at *
    cases hb : nb xs
    ·rw [hb] at z2
     simp! [hr, h30, mComp, mItems, itemsP, stIn', hl, hc, z1, hn, gotB, mZip, hz, hzl', c2, z2, hb]
    ·rw [hb] at z2
     simp! [hr, h30, mComp, mItems, itemsP, stIn', hl, hc, z1, hn, gotB, mZip, hz, hzl', c2, z2, hb, c3, z3]
  ·simp! [F_qbo, hr, h30, gotB]
 | _ => cases hg
theorem dats_two : ∀ ts : List NT, dats (ts.map fun t => PV.tup [.str t.1, .str t.2.1]) = true
 | [] => rfl
 | t :: ts => by rw [List.map_cons]; unfold dats; rw [dats_two ts]; simp [dat, dats]
theorem deps_two : ∀ ts : List NT, deps (ts.map fun t => PV.tup [.str t.1, .str t.2.1]) <= 1
 | [] => by simp [deps]
 | t :: ts => by rw [List.map_cons]; unfold deps; have := deps_two ts; simp [dep, deps]; lia
theorem in_own (ts : List NT) (h d : Str) : inDP false (.tup [.str h, .str d]) (.lst (ts.map fun t => .tup [.str t.1, .str t.2.1])) = some (.bl ((ts.map nm).any (ownB h d))) := by
 have hd := deps_two ts
 unfold inDP
 simp only
 rw [if_pos (by rw [dats_two]; simp [dat, dats]; lia)]
 rw [List.any_map, List.any_map]
 rfl
theorem any_all (xs : List PV) (g : PV -> Bool) : (xs.all fun x => !g x) = !xs.any g := by
 induction xs with
 | nil => rfl
 | cons x xs ih => rw [List.all_cons, List.any_cons, ih]; simp
theorem pairs_nm : ∀ ts : List NT, pairsP (ts.map fun t => .tup [nm t, .bl true]) = some (ts.map fun t => (ky t, PV.bl true))
 | [] => rfl
 | t :: ts => by
  rw [List.map_cons, List.map_cons]; unfold pairsP
  rw [pairs_nm ts]; rfl
theorem dict_nm (ts : List NT) (C : Cs) (h : ts.length <= 1000) : ∃ vs, dictPH C [.v (.lst (ts.map fun t => .tup [nm t, .bl true]))] = some (.v (.dtt (dd [] (ts.map ky)) vs)) := by
 refine ⟨(dFold (ts.map fun t => (ky t, PV.bl true)) [] []).2, ?_⟩
 unfold dictPH
 simp only [deref, pairs_nm, List.length_map]
 rw [if_pos h, dFold_fst, List.map_map]; rfl
theorem Zca {z : Str} (h : wordB z = true) : z.length <= 1000 := by
 unfold wordB at h
 simp only [Bool.and_eq_true, decide_eq_true_eq] at h
 lia
theorem keys_nm (us : List NT) (h : ∀ t ∈ us, t.1.length <= 1000 /\ t.2.1.length <= 1000) : keysOk (us.map ky) = true := by
 unfold keysOk
 rw [List.all_eq_true]; intro k hk
 obtain ⟨t, ht, rfl⟩ := List.mem_map.mp hk
 have := h t ht
 simp [ky, keyOk, this.1, this.2]
theorem sorted_dtt (us : List NT) (vs : List PV) (C : Cs) (h : ∀ t ∈ us, t.1.length <= 1000 /\ t.2.1.length <= 1000) (hl : us.length < 64) : sortedH2 C [.v (.dtt (us.map ky) vs)] = some (sortL (us.map nm)) := by
 unfold sortedH2
 simp only [deref]
 rw [if_pos (keys_nm us h), Zcs, sortP_nm us hl]
theorem eq_sorted (ts us : List NT) (e : dd [] (ts.map ky) = us.map ky) (hn : us.Nodup) : deepP eqD (.lst (ts.map nm)) (.lst (sortL (us.map nm))) = some (.bl (nb (ts.map nm))) := by
 have hi := rise_iff ts us e hn
 obtain ⟨vs, e2, _⟩ := sort_nm us
 rw [e2] at hi ⊢
 have hd := deps_nm ts
 unfold deepP
 rw [if_pos (by unfold dat dep; rw [dats_nm, dats_nm]; simp; lia)]
 have hq : eqD (.lst (ts.map nm)) (.lst (vs.map nm)) = nb (ts.map nm) := by
  unfold eqD
  have := eqDs_pur (ts.map nm) (Zbp ts) (Zbp vs)
  rw [Bool.eq_iff_iff, this, hi]
 rw [hq]
theorem l_are_gots_eq (g : PV) (h d : Str) (C : Cs) (hg : gok g = true) : F_qaa [.v g, .v (.str h), .v (.str d)] C = some (.v (.bl (gotB h d g)), C) := by
 cases g with
 | lst xs => simp! [F_qaa, gotB]
 | non => simp! [F_qaa, gotB]
 | str z => simp! [F_qaa, gotB]
 | int z => simp! [F_qaa, gotB]
 | bl z => simp! [F_qaa, gotB]
 | dct a b => simp! [F_qaa, gotB]
 | tup xs =>
  simp only [gok, Bool.and_eq_true, decide_eq_true_eq] at hg
  have hl : xs.length <= 100000 := by lia
  by_cases h30 : xs.length <= 30
  ·have h30' : ¬ (30 < (xs.length : Int)) := by lia
   have hc := ZcX (fr := []) F_qao xs C (fun x hx => l_is_name_eq x C (List.all_eq_true.mp hg.2 x hx)) [none] (by simp)
   have z1 := all_bl nameB xs
   cases hn : xs.all nameB
   ·rw [hn] at z1
    unfold F_qaa B_qaa
    generalize hte : mFn F_qao (aCons (mVar 0) aNil) = te at hc ⊢
    simp! [h30', mComp, mItems, itemsP, stIn', hl, hc, z1, gotB, hn]
   ·rw [hn] at z1
    obtain ⟨ts, rfl, hw⟩ := names_of hn
    obtain ⟨us, e1, e2, e3, e4⟩ := dd_nm ts
    have hlt : ts.length <= 30 := by simpa using h30
    obtain ⟨vs, ed⟩ := dict_nm ts C (by lia)
    rw [e1] at ed
    have es := sorted_dtt us vs C (fun t ht => ⟨Zca (hw t (e4 t ht)).1, Zca (hw t (e4 t ht)).2⟩) (by lia)
    have eq := eq_sorted ts us e1 e3
    have c2 := comp_cut ts C none
    have c3 := comp_pair ts C none
    have io := in_own ts h d
    have ao := any_all (ts.map nm) (ownB h d)
    unfold F_qaa B_qaa
    generalize hte : mFn F_qao (aCons (mVar 0) aNil) = te at hc ⊢
    generalize hte2 : mSlice (mVar 0) oNo (oPart (mC (.int 2))) = te2 at c2 ⊢
    generalize hte3 : mTup (aCons (mVar 0) (aCons (mC (.bl true)) aNil)) = te3 at c3 ⊢
    generalize hcs : (ts.map fun t => PV.tup [.str t.1, .str t.2.1]) = cs at *
    generalize hps : (ts.map fun t => PV.tup [nm t, .bl true]) = ps at *
    generalize hxs : ts.map nm = xs at *
    generalize hss : sortL (us.map nm) = ss at *
    cases hb : xs.any (ownB h d)
    ·rw [hb] at io ao
     simp! [h30', mComp, mItems, itemsP, stIn', hl, hc, z1, c2, io, c3, mSorted2, ed, es, eq, gotB, h30, hn, ao]
    ·rw [hb] at io ao
     simp! [h30', mComp, mItems, itemsP, stIn', hl, hc, z1, c2, io, gotB, ao]
  ·have h30' : 30 < (xs.length : Int) := by lia
   simp! [F_qaa, h30', gotB, h30]
 | _ => cases hg
section
variable {d f1 f2 f3 f4 f5 : Addr}
noncomputable def gotP (h dl g : PV) : Bool := match h, dl with
 | .str a, .str b => gotB a b g
 | _, _ => false
noncomputable def letterP : PV -> Bool
 | .tup [h, dl, n, p, g, t, e] => wordP h && wordP dl && numB n 1 && numB p 0 && gotP h dl g && numB t 0 && deedP e
 | _ => false
noncomputable def ok7 : List PV -> Bool
 | [h, dl, n, p, g, t, e] => pok h && pok dl && pok n && pok p && gok g && pok t && ok1 e
 | _ => true
noncomputable def okL : PV -> Bool
 | .tup xs => ok7 xs
 | x => okv x
theorem cut7 (a b c d e f g : PV) : cutP [a, b, c, d, e, f, g] none (some 3) = [a, b, c] := by rfl
theorem Zbc {x : PV} (h : wordP x = true) : ∃ s, x = .str s := by cases x <;> first | exact ⟨_, rfl⟩ | cases h
theorem letter7 (D : Dist f1 f2 f3 f4 f5) (h dl n p g t e : PV) (C : Cs) (ok : ok7 [h, dl, n, p, g, t, e] = true) : F_qbs d f1 f2 f3 f4 f5 [.v (.tup [h, dl, n, p, g, t, e])] C = some (.v (.bl (letterP (.tup [h, dl, n, p, g, t, e]))), C) := by
 simp only [ok7, Bool.and_eq_true] at ok
 obtain ⟨⟨⟨⟨⟨⟨o1, o2⟩, o3⟩, o4⟩, o5⟩, o6⟩, o7⟩ := ok
 have e1 := Zbj [h, dl, n, p, g, t, e] 7 7 C
 have e2 := name3 h dl n C (ZaS o1) (ZaS o2) (ZaS o3)
 have e4 := Za6 p 0 C (ZaS o4)
 have e6 := Za6 t 0 C (ZaS o6)
 have e7 := is_deed_eq (d := d) D e C o7
 cases hw : (wordP h && wordP dl && numB n 1)
 ·rw [hw] at e2
  simp! [F_qbs, e1, cut7, e2, letterP, hw]
 ·rw [hw] at e2
  have hw' := hw
  simp only [Bool.and_eq_true] at hw'
  obtain ⟨a, rfl⟩ := Zbc hw'.1.1
  obtain ⟨b, rfl⟩ := Zbc hw'.1.2
  have e5 := are_gots_eq g a b C o5
  have hg : gotP (.str a) (.str b) g = gotB a b g := rfl
  cases h4 : numB p 0
  ·rw [h4] at e4
   simp! [F_qbs, e1, cut7, e2, mAsg, hTup, hCons, hNil, hName, e4, letterP, h4]
  ·rw [h4] at e4
   cases h5 : gotB a b g
   ·rw [h5] at e5
    simp! [F_qbs, e1, cut7, e2, mAsg, hTup, hCons, hNil, hName, e4, e5, letterP, hg, h5]
   ·rw [h5] at e5
    cases h6 : numB t 0
    ·rw [h6] at e6
     simp! [F_qbs, e1, cut7, e2, mAsg, hTup, hCons, hNil, hName, e4, e5, e6, letterP, h6]
    ·rw [h6] at e6
     simp! [F_qbs, e1, cut7, e2, mAsg, hTup, hCons, hNil, hName, e4, e5, e6, e7, letterP, hw, h4, hg, h5, h6]
theorem l_letter7 (h dl n p g t e : PV) (C : Cs) (ok : ok7 [h, dl, n, p, g, t, e] = true) : F_qam [.v (.tup [h, dl, n, p, g, t, e])] C = some (.v (.bl (letterP (.tup [h, dl, n, p, g, t, e]))), C) := by
 simp only [ok7, Bool.and_eq_true] at ok
 obtain ⟨⟨⟨⟨⟨⟨o1, o2⟩, o3⟩, o4⟩, o5⟩, o6⟩, o7⟩ := ok
 have e1 := ZaG h C (ZaS o1)
 have e2 := ZaG dl C (ZaS o2)
 have e3 := Za9 n 1 (10 ^ 30) C (ZaS o3)
 have e4 := Za9 p 0 (10 ^ 30) C (ZaS o4)
 have e6 := Za9 t 0 (10 ^ 30) C (ZaS o6)
 have e7 := l_is_deed_eq e C o7
 have w3 : wholeB n 1 (10 ^ 30) = numB n 1 := whole_num n o3
 have wz : ∀ c : PV, pok c = true -> wholeB c 0 (10 ^ 30) = numB c 0 := fun c hc => by
  cases c <;> simp [wholeB, numB]
  rename_i i
  have : i <= 10 ^ 30 := of_decide_eq_true hc
  intro _; exact this
 rw [w3] at e3
 rw [wz p o4] at e4
 rw [wz t o6] at e6
 simp only [show (10 : Int) ^ 30 = 1000000000000000000000000000000 from rfl] at e3 e4 e6
 cases h1 : wordP h
 ·rw [h1] at e1
  simp! [F_qam, mAsg, hTup, hCons, hNil, hName, e1, letterP, h1]
 ·rw [h1] at e1
  cases h2 : wordP dl
  ·rw [h2] at e2
   simp! [F_qam, mAsg, hTup, hCons, hNil, hName, e1, e2, letterP, h2]
  ·rw [h2] at e2
   obtain ⟨a, rfl⟩ := Zbc h1
   obtain ⟨b, rfl⟩ := Zbc h2
   have e5 := l_are_gots_eq g a b C o5
   have hg : gotP (.str a) (.str b) g = gotB a b g := rfl
   cases h3 : numB n 1
   ·rw [h3] at e3
    simp! [F_qam, mAsg, hTup, hCons, hNil, hName, e1, e2, e3, letterP, h3]
   ·rw [h3] at e3
    cases h4 : numB p 0
    ·rw [h4] at e4
     simp! [F_qam, mAsg, hTup, hCons, hNil, hName, e1, e2, e3, e4, letterP, h4]
    ·rw [h4] at e4
     cases h6 : numB t 0
     ·rw [h6] at e6
      simp! [F_qam, mAsg, hTup, hCons, hNil, hName, e1, e2, e3, e4, e6, letterP, h6]
     ·rw [h6] at e6
      cases h5 : gotB a b g
      ·rw [h5] at e5
       simp! [F_qam, mAsg, hTup, hCons, hNil, hName, e1, e2, e3, e4, e6, e5, letterP, hg, h5]
      ·rw [h5] at e5
       simp! [F_qam, mAsg, hTup, hCons, hNil, hName, e1, e2, e3, e4, e6, e5, e7, letterP, h1, h2, h3, h4, hg, h5, h6]
theorem letter_len (xs : List PV) (C : Cs) (h : xs.length ≠ 7) : F_qbs d f1 f2 f3 f4 f5 [.v (.tup xs)] C = some (.v (.bl false), C) /\ F_qam [.v (.tup xs)] C = some (.v (.bl false), C) /\ letterP (.tup xs) = false := by
 have e1 := Zbj xs 7 7 C
 have hb : (decide ((7 : Int) <= xs.length) && decide ((xs.length : Int) <= 7)) = false := by
  by_cases q : (7 : Int) <= xs.length
  ·have : ¬ ((xs.length : Int) <= 7) := by lia
   simp [this]
  ·simp [q]
 rw [hb] at e1
 have h7 : ¬ ((xs.length : Int) = 7) := by lia
 refine ⟨by simp! [F_qbs, e1], by simp! [F_qam, h7], ?_⟩
 match xs, h with
 | [], _ => rfl
 | [_], _ => rfl
 | [_, _], _ => rfl
 | [_, _, _], _ => rfl
 | [_, _, _, _], _ => rfl
 | [_, _, _, _, _], _ => rfl
 | [_, _, _, _, _, _], _ => rfl
 | [_, _, _, _, _, _, _], h => exact absurd rfl h
 | _ :: _ :: _ :: _ :: _ :: _ :: _ :: _ :: _, _ => rfl
theorem both (D : Dist f1 f2 f3 f4 f5) (x : PV) (C : Cs) (ok : okL x = true) : F_qbs d f1 f2 f3 f4 f5 [.v x] C = some (.v (.bl (letterP x)), C) /\ F_qam [.v x] C = some (.v (.bl (letterP x)), C) := by
 cases x with
 | tup xs =>
  by_cases h7 : xs.length = 7
  ·match xs, h7, ok with
   | [h, dl, n, p, g, t, e], _, ok => exact ⟨letter7 D h dl n p g t e C ok, l_letter7 h dl n p g t e C ok⟩
  ·obtain ⟨a, b, c⟩ := letter_len (d := d) (f1 := f1) (f2 := f2) (f3 := f3) (f4 := f4) (f5 := f5) xs C h7
   rw [c]; exact ⟨a, b⟩
 | dtt a b => cases ok
 | fn a => cases ok
 | ty a => cases ok
 | lst xs => exact ⟨by simp! [F_qbs, ZaU (.lst xs) 7 7 C rfl rfl, letterP], by simp! [F_qam, letterP]⟩
 | non => exact ⟨by simp! [F_qbs, ZaU .non 7 7 C rfl rfl, letterP], by simp! [F_qam, letterP]⟩
 | str z => exact ⟨by simp! [F_qbs, ZaU (.str z) 7 7 C rfl rfl, letterP], by simp! [F_qam, letterP]⟩
 | int z => exact ⟨by simp! [F_qbs, ZaU (.int z) 7 7 C rfl rfl, letterP], by simp! [F_qam, letterP]⟩
 | bl z => exact ⟨by simp! [F_qbs, ZaU (.bl z) 7 7 C rfl rfl, letterP], by simp! [F_qam, letterP]⟩
 | dct a b => exact ⟨by simp! [F_qbs, ZaU (.dct a b) 7 7 C rfl rfl, letterP], by simp! [F_qam, letterP]⟩
theorem right_eq (D : Dist f1 f2 f3 f4 f5) (x : PV) (C : Cs) (h : okL x = true) : F_qbe d f1 f2 f3 f4 f5 [.v x] C = some (.v (.bl true), C) := by
 have r2 : List.range 2 = [0, 1] := rfl
 obtain ⟨e1, e2⟩ := both (d := d) D x C h
 simp! [F_qbe, mFor, mRange1, rng1P, r2, loop, hName, e1, e2]
end
theorem comp_ex {te : PSt -> M SV} {Pp : PV -> Prop} {C : Cs} : ∀ (xs : List PV) (ρ : PSt) (ys : List PV), (∀ x ∈ xs, ∃ p, te (ρ.set 0 (some (.v x))) C = some (.v p, C) /\ Pp p) ->
  ∃ zs, compL (hName 0) tOk te xs ρ ys C = some (ys ++ zs, C) /\ zs.length = xs.length /\ ∀ p ∈ zs, Pp p
 | [], ρ, ys, _ => ⟨[], by simp [compL, Pu.ret], rfl, by simp⟩
 | x :: xs, ρ, ys, h => by
  obtain ⟨p, e1, hp⟩ := h x (.head _)
  obtain ⟨zs, e2, hl, hz⟩ := comp_ex (te := te) (Pp := Pp) xs (ρ.set 0 (some (.v x))) (ys ++ [p]) fun y hy => by rw [List.set_set]; exact h y (.tail _ hy)
  refine ⟨p :: zs, ?_, by simp [hl], fun q hq => ?_⟩
  ·simp [compL, hName, bnd, tOk, Pu.ret, e1, e2]
  ·rcases List.mem_cons.mp hq with rfl | hq
   ·exact hp
   ·exact hz q hq
theorem word_of (s : Str) (h1 : 1 <= s.cps.toList.length) (h2 : s.cps.toList.length <= 12) (h : s.cps.toList.all AZ.cps.contains = true) : wordB s = true := by
 have e : s.length = s.cps.toList.length := by rw [Array.length_toList]; rfl
 unfold wordB
 rw [h, e]
 simp only [Bool.and_true, Bool.and_eq_true, decide_eq_true_eq]
 lia
theorem ix_azc (d : Int) (h1 : 0 <= d) (h2 : d < 26) : ∃ c, ixQ (.str "abcdefghijklmnopqrstuvwxyz") (.int d) = some (.str ⟨#[c]⟩) /\ AZ.cps.contains c = true := by
 have hl : AZ.cps.toList.length = 26 := by rfl
 have hd : d.toNat < AZ.cps.toList.length := by lia
 have h3 : d < (AZ.cps.toList.length : Int) := by lia
 refine ⟨AZ.cps.toList[d.toNat], ?_, ?_⟩
 ·show (atI AZ.cps.toList d).map _ = _
  unfold atI ixN
  rw [if_pos h1, if_pos h3]
  show ((AZ.cps.toList[d.toNat]?).map _) = _
  rw [List.getElem?_eq_getElem hd]
  rfl
 ·rw [← AZ_contains]
  exact List.contains_iff_mem.mpr (List.getElem_mem hd)
noncomputable def sfx (p : PV) : Bool := match p with
 | .str s => decide (s.cps.toList.length <= 10) && s.cps.toList.all AZ.cps.contains
 | _ => false
theorem sfx_str {p : PV} (h : sfx p = true) : ∃ s : Str, p = .str s /\ s.cps.toList.length <= 10 /\ s.cps.toList.all AZ.cps.contains = true := by
 cases p with
 | str s => simp only [sfx, Bool.and_eq_true, decide_eq_true_eq] at h; exact ⟨s, rfl, h⟩
 | _ => cases h
noncomputable def sml (p : PV) : Bool := match p with
 | .int i => decide (0 <= i) && decide (i <= 100)
 | _ => false
theorem sml_int {p : PV} (h : sml p = true) : ∃ i : Int, p = .int i /\ 0 <= i /\ i <= 100 := by
 cases p with
 | int i => simp only [sml, Bool.and_eq_true, decide_eq_true_eq] at h; exact ⟨i, rfl, h⟩
 | _ => cases h
noncomputable abbrev wte : PSt -> M SV := mOp (g2 addP) (mOp (g2 ixQ) (mVar 1) (mOp (g2 modP) (mOp (g2 addP) (mVar 2) (mOp (g2 mulP) (mVar 3) (mVar 0))) (mC (.int 26)))) (mOp (g2 ixQ) (mVal (mLst (aCons (mC (.str "")) (aCons (mC (.str "zq")) (aCons (mC (.str "x")) (aCons (mC (.str "qqzzx")) aNil)))))) (mOp (g2 modP) (mOp (g2 addP) (mVar 2) (mOp (g2 mulP) (mVar 0) (mVar 0))) (mC (.int 4))))
theorem sfx4 : ([.str "", .str "zq", .str "x", .str "qqzzx"] : List PV).all sfx = true := by decide +kernel
theorem word_step (d st j : Int) (C2 : Cs) (t1 : 0 <= st) (t2 : st <= 100) (j0 : 0 <= j) (j9 : j < 9) : ∃ p, wte [some (.v (.int j)), some (.v (.str "abcdefghijklmnopqrstuvwxyz")), some (.v (.int d)), some (.v (.int st))] C2 = some (.v p, C2) /\ wordP p = true := by
 have q0 : (0 : Int) <= (d + st * j) % 26 := Int.emod_nonneg _ (by decide)
 have q1 : (d + st * j) % 26 < 26 := Int.emod_lt_of_pos _ (by decide)
 obtain ⟨c, hc, hcz⟩ := ix_azc _ q0 q1
 have r0 : (0 : Int) <= (d + j * j) % 4 := Int.emod_nonneg _ (by decide)
 have r1 : (d + j * j) % 4 < 4 := Int.emod_lt_of_pos _ (by decide)
 obtain ⟨v, ev, hv⟩ := Zb7 (okk := sfx) [.str "", .str "zq", .str "x", .str "qqzzx"] sfx4 _ r0 (by simpa using r1)
 obtain ⟨z, rfl, hz, hza⟩ := sfx_str hv
 have c1 : -18446744073709551616 < st /\ st < 18446744073709551616 := by lia
 have c2 : -18446744073709551616 < j /\ j < 18446744073709551616 := by lia
 have l1 : (⟨#[c]⟩ : Str).length = 1 := rfl
 have lz : z.length = z.cps.toList.length := by rw [Array.length_toList]; rfl
 have l2 : (⟨#[c]⟩ : Str).length + z.length <= 1000000 := by lia
 have ea : (⟨#[c]⟩ ++ z : Str).cps.toList = c :: z.cps.toList := by rw [PySem.Str.cps_append, Array.toList_append]; rfl
 refine ⟨.str (⟨#[c]⟩ ++ z), ?_, ?_⟩
 ·generalize ("abcdefghijklmnopqrstuvwxyz" : Str) = az at hc ⊢
  generalize (⟨#[c]⟩ : Str) = cc at hc l2 ⊢
  simp! [addP, c1, c2, hc, ev, l2]
 ·refine word_of _ (by rw [ea]; simp) (by rw [ea, List.length_cons]; lia) ?_
  rw [ea, List.all_cons, hcz, hza]; rfl
theorem words_adv (k : Nat) (C : Cs) (h : GS C k) : ∃ ws C', F_qbm [.c k, .v (.int 9)] C = some (.v (.lst ws), C') /\ ws.length = 9 /\ ws.all wordP = true /\ Adv k C C' := by
 obtain ⟨d, C1, e1, d1, d2, a1⟩ := ZaA k 26 C h (by decide)
 obtain ⟨s, C2, e2, s1, s2, a2⟩ := ZaA k 6 C1 a1.gs (by decide)
 have a := a1.trans a2
 obtain ⟨p, ep, hp⟩ := Zb7 (okk := sml) [.int 1, .int 3, .int 5, .int 7, .int 9, .int 11] (by rfl) s s1 (by simpa using s2)
 obtain ⟨st, rfl, t1, t2⟩ := sml_int hp
 have hF : F_qbm = mDef 2 3 (mSeq (mSet 2 (mC (.str "abcdefghijklmnopqrstuvwxyz"))) (mSeq (mSet 3 (mFn F_qba (aCons (mVar 0) (aCons (mC (.int 26)) aNil)))) (mSeq (mSet 4 (mOp (g2 ixQ) (mVal (mLst (aCons (mC (.int 1)) (aCons (mC (.int 3)) (aCons (mC (.int 5)) (aCons (mC (.int 7)) (aCons (mC (.int 9)) (aCons (mC (.int 11)) aNil)))))))) (mFn F_qba (aCons (mVar 0) (aCons (mC (.int 6)) aNil))))) (mRetF (mComp (mRange1 (aCons (mVar 1) aNil)) ["_law_k"] [2, 3, 4] (hName 0) tOk wte))))) := rfl
 rw [hF]
 generalize hte : wte = te
 generalize haz : ("abcdefghijklmnopqrstuvwxyz" : Str) = az
 have step : ∀ x ∈ ((List.range 9).map fun (j : Nat) => PV.int (0 + j)), ∃ p, te ([none, some (.v (.str az)), some (.v (.int d)), some (.v (.int st))].set 0 (some (.v x))) C2 = some (.v p, C2) /\ wordP p = true := fun x hx => by
  obtain ⟨j, hj, rfl⟩ := List.mem_map.mp hx
  have hj9 : j < 9 := List.mem_range.mp hj
  subst hte haz
  exact word_step d st (0 + j) C2 t1 t2 (by lia) (by lia)
 obtain ⟨zs, ec, hl, hz⟩ := comp_ex (te := te) (Pp := fun p => wordP p = true) (C := C2) ((List.range 9).map fun (j : Nat) => PV.int (0 + j)) [none, some (.v (.str az)), some (.v (.int d)), some (.v (.int st))] [] step
 rw [List.nil_append] at ec
 refine ⟨zs, C2, ?_, by simpa using hl, List.all_eq_true.mpr hz, a⟩
 have ep' : ixP (.lst [.int 1, .int 3, .int 5, .int 7, .int 9, .int 11]) (.int s) = some (.int st) := ep
 have hr : rng1P [.v (.int 9)] = some ((List.range 9).map fun (j : Nat) => PV.int (0 + j)) := rfl
 have hl9 : ((List.range 9).map fun (j : Nat) => PV.int (0 + j)).length <= 100000 := by decide
 generalize ((List.range 9).map fun (j : Nat) => PV.int (0 + j)) = rs at ec hr hl9
 simp! [e1, e2, ixQ, ep', mComp, mRange1, hr, hl9, stIn', ec, a.take]
theorem Zbz (k : Nat) (l : Int) (l0 : 0 <= l) (l1 : l <= 1) (C : Cs) (h : GS C k) : ∃ n C', F_qaw [.c k, .v (.int l)] C = some (.v (.int n), C') /\ l <= n /\ n <= 10 ^ 30 /\ Adv k C C' := by
 obtain ⟨x1, C1, e1, b1, b2, a1⟩ := ZaA k 5 C h (by decide)
 obtain ⟨x2, C2, e2, c1, c2, a2⟩ := ZaA k 3000 C1 a1.gs (by decide)
 obtain ⟨x3, C3, e3, d1, d2, a3⟩ := ZaA k 9 C2 a2.gs (by decide)
 obtain ⟨x4, C4, e4, f1, f2, a4⟩ := ZaA k 3 C3 a3.gs (by decide)
 have a := ((a1.trans a2).trans a3).trans a4
 have hx : x4 = 0 \/ x4 = 1 \/ x4 = 2 := by lia
 have p30 : (10 : Int) ^ 30 = 1000000000000000000000000000000 := rfl
 rcases hx with rfl | rfl | rfl
 ·exact ⟨l + x1, C4, by simp! [F_qaw, addP, e1, e2, e3, e4, ixQ, ixP, atI, ixN, a.take], by lia, by lia, a⟩
 ·exact ⟨l + x2, C4, by simp! [F_qaw, addP, e1, e2, e3, e4, ixQ, ixP, atI, ixN, a.take], by lia, by lia, a⟩
 ·exact ⟨1000000000000000000000000000000 - 1 - x3, C4, by simp! [F_qaw, addP, e1, e2, e3, e4, ixQ, ixP, atI, ixN, a.take], by lia, by lia, a⟩
noncomputable def one1 (p : PV) : Prop := ∃ c : Nat, p = .str ⟨#[c]⟩ /\ AZ.cps.contains c = true
theorem strs_one : ∀ (zs : List PV), (∀ p ∈ zs, one1 p) -> ∃ cs : List Nat, strsP zs = some (cs.map fun c => ⟨#[c]⟩) /\ cs.length = zs.length /\ cs.all AZ.cps.contains = true
 | [], _ => ⟨[], rfl, rfl, rfl⟩
 | p :: zs, h => by
  obtain ⟨c, rfl, hc⟩ := h p (.head _)
  obtain ⟨cs, e, h1, h2⟩ := strs_one zs fun q hq => h q (.tail _ hq)
  exact ⟨c :: cs, by simp [strsP, e], by simp [h1], by rw [List.all_cons, hc, h2]; rfl⟩
theorem join_cs : ∀ cs : List Nat, (PySem.Str.join "" (cs.map fun c => ⟨#[c]⟩)).cps.toList = cs
 | [] => rfl
 | [c] => rfl
 | c :: c' :: r => by
  show ((⟨#[c]⟩ : Str) ++ "" ++ PySem.Str.join "" ((c' :: r).map fun c => ⟨#[c]⟩)).cps.toList = _
  rw [PySem.Str.cps_append, PySem.Str.cps_append, Array.toList_append, Array.toList_append, join_cs (c' :: r)]
  rfl
theorem sum_one (cs : List Nat) : ((cs.map fun c => (⟨#[c]⟩ : Str)).map (·.length)).sum = cs.length := by
 induction cs with
 | nil => rfl
 | cons c cs ih => rw [List.map_cons, List.map_cons, List.sum_cons, ih, List.length_cons]; show 1 + cs.length = _; lia
theorem join_one (zs : List PV) (h : ∀ p ∈ zs, one1 p) (hl : zs.length <= 12) (h1 : 1 <= zs.length) : ∃ t, joinH (.str "") [.lst zs] = some (.str t) /\ wordB t = true := by
 obtain ⟨cs, e, e1, e2⟩ := strs_one zs h
 have h0 : ("" : Str).length = 0 := rfl
 refine ⟨Txt.join "" (cs.map fun c => ⟨#[c]⟩), ?_, ?_⟩
 ·simp only [joinH, e, h0, sum_one]
  rw [if_pos (by rw [List.length_map]; lia)]
 ·have ej : Txt.join "" (cs.map fun c => ⟨#[c]⟩) = PySem.Str.join "" (cs.map fun c => ⟨#[c]⟩) := StrLaws.glued_eq_join _ _
  have ec := join_cs cs
  rw [ej]
  refine word_of _ (by rw [ec]; lia) (by rw [ec]; lia) (by rw [ec]; exact e2)
theorem bells : wordB "bells" = true := by decide +kernel
theorem text_adv (k : Nat) (C : Cs) (h : GS C k) : ∃ z C', F_qbi [.c k] C = some (.v (.str z), C') /\ wordB z = true /\ z ≠ "bell" /\ Adv k C C' := by
 obtain ⟨d, C1, e1, d1, d2, a1⟩ := ZaA k 12 C h (by decide)
 unfold F_qbi B_qbi
 generalize hte : mOp (g2 ixQ) (mVar 1) (mFn F_qba (aCons (mVar 2) (aCons (mC (.int 26)) aNil))) = te
 have step : ∀ x C, GS C k -> ∃ p C', te ([none, some (.v (.str "abcdefghijklmnopqrstuvwxyz")), some (.c k)].set 0 (some (.v x))) C = some (.v p, C') /\ one1 p /\ Adv k C C' := fun x C g => by
  subst hte
  obtain ⟨d, C1, e1, d1, d2, a1⟩ := ZaA k 26 C g (by decide)
  obtain ⟨c, hc, hcz⟩ := ix_azc d d1 d2
  exact ⟨.str ⟨#[c]⟩, C1, by simp [mOp, bnd, mVar, mFn, aCons, aNil, mC, Pu.ret, e1, opM, g2, deref, hc], ⟨_, rfl, hcz⟩, a1⟩
 obtain ⟨zs, C2, e2, hl, hz, a2⟩ := comp_adv (te := te) (k := k) (Pp := one1) ((List.range (1 + d).toNat).map fun (j : Nat) => .int (0 + j)) [none, some (.v (.str "abcdefghijklmnopqrstuvwxyz")), some (.c k)] [] C1 a1.gs step
 have hl' : zs.length = (1 + d).toNat := by rw [hl]; simp
 obtain ⟨t, et, hw⟩ := join_one zs hz (by lia) (by lia)
 have r1 : -1000000 <= 1 + d /\ 1 + d <= 1000000 := by lia
 have r2 : (1 + d).toNat <= 100000 := by lia
 rw [List.nil_append] at e2
 have a := a1.trans a2
 by_cases hb : t = "bell"
 ·subst hb
  refine ⟨"bells", C2, ?_, bells, by decide +kernel, a⟩
  simp only [Int.zero_add] at e2
  simp! [mComp, mRange1, rng1P, addP, e1, r1, r2, stIn', e2, et, intH, ixQ, ixP, atI, ixN, a.take]
 ·refine ⟨t, C2, ?_, hw, hb, a⟩
  simp only [Int.zero_add] at e2
  simp! [mComp, mRange1, rng1P, addP, e1, r1, r2, stIn', e2, et, intH, ixQ, ixP, atI, ixN, a.take, hb]
noncomputable def tok (h d : Str) (t : NT) : Prop := wordB t.1 = true /\ wordB t.2.1 = true /\ 1 <= t.2.2 /\ t.2.2 <= 10 ^ 30 /\ ownB h d (nm t) = false
structure DA (h d : Str) (k n : Nat) (C0 C : Cs) (us : List NT) : Prop where
 len : C.length = C0.length
 gs : GS C k
 oth : ∀ i, i ≠ k -> i ≠ n -> C[i]? = C0[i]?
 at' : ∃ vs, C[n]? = some (.dtt (us.map ky) vs)
 good : ∀ t ∈ us, tok h d t
 nd : us.Nodup
theorem putKs_ky (us : List NT) (t : NT) (hn : us.Nodup) : ∃ us' : List NT, putKs (us.map ky) (ky t) = us'.map ky /\ us'.length <= us.length + 1 /\ (∀ u ∈ us', u ∈ us \/ u = t) /\ us'.Nodup := by
 unfold putKs
 by_cases h : inK (ky t) (us.map ky) = true
 ·rw [if_pos h]; exact ⟨us, rfl, by lia, fun u hu => .inl hu, hn⟩
 ·rw [if_neg h]
  refine ⟨us ++ [t], by simp, by simp, fun u hu => by simpa using hu, ?_⟩
  rw [List.nodup_append]
  refine ⟨hn, by simp, fun a ha b hb => ?_⟩
  have : b = t := by simpa using hb
  subst this
  exact fun z => h (inK_iff.mpr (by rw [← z]; exact List.mem_map_of_mem ha))
theorem DA.adv {h d : Str} {k n : Nat} {C0 C C' : Cs} {us : List NT} (x : DA h d k n C0 C us) (hkn : n ≠ k) (a : Adv k C C') : DA h d k n C0 C' us :=
 ⟨a.len.trans x.len, a.gs, fun i h1 h2 => (a.oth i h1).trans (x.oth i h1 h2), by obtain ⟨vs, e⟩ := x.at'; exact ⟨vs, by rw [a.oth n hkn]; exact e⟩, x.good, x.nd⟩
noncomputable abbrev pbody : PSt -> M PF := mSeq (mSet 7 (mTup (aCons (mOp (g2 ixQ) (mVar 1) (mFn F_qba (aCons (mVar 0) (aCons (mC (.int 9)) aNil)))) (aCons (mOp (g2 ixQ) (mVar 1) (mFn F_qba (aCons (mVar 0) (aCons (mC (.int 9)) aNil)))) (aCons (mFn F_qaw (aCons (mVar 0) (aCons (mC (.int 1)) aNil))) aNil))))) (mIfS (mTest (mOp (g2 (deepP fun p q => !eqD p q)) (mSlice (mVar 7) oNo (oPart (mC (.int 2)))) (mTup (aCons (mVar 2) (aCons (mVar 3) aNil))))) (mSetIxT (mC (.bl true)) (mVar 5) (mVar 7)) mSkip)
theorem pool_step (k n : Nat) (hkn : n ≠ k) (ws : List PV) (hw : ws.length = 9) (hs : ws.all wordP = true) (h d : Str) (m x z : Option SV) (C0 C : Cs) (us : List NT) (A : DA h d k n C0 C us) (hu : us.length < 100) :
  ∃ us' C' z', pbody [some (.c k), some (.v (.lst ws)), some (.v (.str h)), some (.v (.str d)), m, some (.c n), x, z] C = some (.nx [some (.c k), some (.v (.lst ws)), some (.v (.str h)), some (.v (.str d)), m, some (.c n), x, z'], C') /\ DA h d k n C0 C' us' /\ us'.length <= us.length + 1 := by
 obtain ⟨d1, C1, e1, b1, b2, a1⟩ := ZaA k 9 C A.gs (by decide)
 obtain ⟨d2, C2, e2, c1, c2, a2⟩ := ZaA k 9 C1 a1.gs (by decide)
 obtain ⟨nn, C3, e3, n1, n2, a3⟩ := Zbz k 1 (by decide) (by decide) C2 a2.gs
 obtain ⟨p1, g1', o1⟩ := Zb7 (okk := wordP) ws hs d1 b1 (by lia)
 obtain ⟨p2, g2', o2⟩ := Zb7 (okk := wordP) ws hs d2 c1 (by lia)
 obtain ⟨s1, rfl⟩ := Zbc o1
 obtain ⟨s2, rfl⟩ := Zbc o2
 have a := (a1.trans a2).trans a3
 have A3 := A.adv hkn a
 have ed := eqD2 s1 s2 h d
 have ecut : cutP [.str s1, .str s2, .int nn] none (some 2) = [.str s1, .str s2] := rfl
 obtain ⟨vs, hn⟩ := A3.at'
 have hk : keysP [.str s1, .str s2, .int nn] = some (ky (s1, s2, nn)) := rfl
 cases hb : (!eqD (.tup [.str s1, .str s2]) (.tup [.str h, .str d]))
 ·rw [hb] at ed
  exact ⟨us, C3, some (.v (.tup [.str s1, .str s2, .int nn])), by simp! [e1, e2, e3, g1', g2', ecut, ed], A3, by lia⟩
 ·rw [hb] at ed
  obtain ⟨us', eu, hl', hm, hnd⟩ := putKs_ky us (s1, s2, nn) A.nd
  refine ⟨us', C3.set n (.dtt (putKs (us.map ky) (ky (s1, s2, nn))) (putVs (us.map ky) vs (ky (s1, s2, nn)) (.bl true))), some (.v (.tup [.str s1, .str s2, .int nn])), ?_, ⟨?_, ?_, fun i h1 h2 => ?_, ?_, fun t ht => ?_, hnd⟩, hl'⟩
  ·have hl2 : us.length < 1000 := by lia
   simp! [e1, e2, e3, g1', g2', ecut, ed, mSetIxT, setT, hn, hk, hl2]
  ·rw [List.length_set]; exact A3.len
  ·obtain ⟨y1, y2, q1, q2, q3⟩ := A3.gs
   exact ⟨y1, y2, by rw [List.getElem?_set_ne hkn]; exact q1, q2, q3⟩
  ·rw [List.getElem?_set_ne (Ne.symm h2)]; exact A3.oth i h1 h2
  ·exact ⟨_, by rw [← eu]; exact setAt hn⟩
  ·rcases hm t ht with q | rfl
   ·exact A.good t q
   ·refine ⟨o1, o2, n1, n2, ?_⟩
    show eqD (.tup [.str s1, .str s2]) (.tup [.str h, .str d]) = false
    cases q : eqD (.tup [.str s1, .str s2]) (.tup [.str h, .str d])
    ·rfl
    ·rw [q] at hb; cases hb
theorem pool_loop (k n : Nat) (hkn : n ≠ k) (ws : List PV) (hw : ws.length = 9) (hs : ws.all wordP = true) (h d : Str) (m : Option SV) (C0 : Cs) : ∀ (xs : List PV) (us : List NT) (C : Cs) (x z : Option SV), DA h d k n C0 C us -> us.length + xs.length < 60 ->
  ∃ us' C' x' z', loop (hName 6) pbody xs [some (.c k), some (.v (.lst ws)), some (.v (.str h)), some (.v (.str d)), m, some (.c n), x, z] C = some (.nx [some (.c k), some (.v (.lst ws)), some (.v (.str h)), some (.v (.str d)), m, some (.c n), x', z'], C') /\ DA h d k n C0 C' us' /\ us'.length <= us.length + xs.length
 | [], us, C, x, z, A, _ => ⟨us, C, x, z, rfl, A, by simp⟩
 | y :: xs, us, C, x, z, A, hl => by
  rw [List.length_cons] at hl
  obtain ⟨us1, C1, z1, e1, A1, l1⟩ := pool_step k n hkn ws hw hs h d m (some (.v y)) z C0 C us A (by lia)
  obtain ⟨us2, C2, x2, z2, e2, A2, l2⟩ := pool_loop k n hkn ws hw hs h d m C0 xs us1 C1 (some (.v y)) z1 A1 (by lia)
  refine ⟨us2, C2, x2, z2, ?_, A2, by rw [List.length_cons]; lia⟩
  unfold loop
  simp only [hName, List.set, bnd, e1, e2]
theorem gs_lt {C : Cs} {k : Nat} (h : GS C k) : k < C.length := by
 obtain ⟨x, y, g, _⟩ := h
 rcases Nat.lt_or_ge k C.length with q | q
 ·exact q
 ·rw [List.getElem?_eq_none_iff.mpr q] at g; cases g
theorem gs_app {C : Cs} {k : Nat} (h : GS C k) (v : PV) : GS (C ++ [v]) k := by
 have hk := gs_lt h
 obtain ⟨x, y, g, g1, g2⟩ := h
 exact ⟨x, y, by rw [List.getElem?_append_left hk]; exact g, g1, g2⟩
theorem sorted_cell (us : List NT) (vs : List PV) (C : Cs) (n : Nat) (hc : C[n]? = some (.dtt (us.map ky) vs)) (h : ∀ t ∈ us, t.1.length <= 1000 /\ t.2.1.length <= 1000) (hl : us.length < 64) : sortedH2 C [.c n] = some (sortL (us.map nm)) := by
 unfold sortedH2
 simp only [deref, hc]
 rw [if_pos (keys_nm us h), Zcs, sortP_nm us hl]
theorem nb_sort (us : List NT) (hn : us.Nodup) (ts : List NT) (e : sortL (us.map nm) = ts.map nm) : nb (ts.map nm) = true := by
 rw [nb_pw]
 have r := Zbr (ZcF us) (Zbp us)
 have p := Zbu (ZcF us) (Zbp us)
 rw [e] at r p
 have hnd : (ts.map nm).Nodup := p.nodup_iff.mpr (map_pw nm (fun a b z q => z (nm_inj q)) hn)
 unfold Rising at r
 refine List.Pairwise.imp_of_mem (fun {a b} ha hb z => ?_) (r.and hnd)
 obtain ⟨t, _, rfl⟩ := List.mem_map.mp ha
 obtain ⟨u, _, rfl⟩ := List.mem_map.mp hb
 cases c : lT (nm t) (nm u) with
 | true => rfl
 | false => exact absurd (lT_tri _ (Zbe t) (Zbe u) c z.1) z.2
theorem pool_adv (k : Nat) (ws : List PV) (hw : ws.length = 9) (hs : ws.all wordP = true) (h d : Str) (m : Int) (m0 : 0 <= m) (m1 : m <= 30) (C : Cs) (g : GS C k) :
  ∃ (ts : List NT) (C' : Cs), F_qbc [.c k, .v (.lst ws), .v (.str h), .v (.str d), .v (.int m)] C = some (.v (.tup (ts.map nm)), C') /\ gotB h d (.tup (ts.map nm)) = true /\ gok (.tup (ts.map nm)) = true /\ Adv k C C' := by
 have hk := gs_lt g
 have hkn : C.length ≠ k := by lia
 have A0 : DA h d k C.length (C ++ [.dtt [] []]) (C ++ [.dtt [] []]) [] := ⟨rfl, gs_app g _, fun _ _ _ => rfl, ⟨[], by simp⟩, by simp, by simp⟩
 have r1 : -1000000 <= m /\ m <= 1000000 := by lia
 have hr : rng1P [.v (.int m)] = some ((List.range m.toNat).map fun (j : Nat) => PV.int (0 + j)) := by
  unfold rng1P; simp [r1]
 have hl0 : ((List.range m.toNat).map fun (j : Nat) => PV.int (0 + j)).length <= 30 := by simp; lia
 generalize ((List.range m.toNat).map fun (j : Nat) => PV.int (0 + j)) = rs at hr hl0
 obtain ⟨us, C1, x', z', e1, A1, l1⟩ := pool_loop k C.length hkn ws hw hs h d (some (.v (.int m))) (C ++ [.dtt [] []]) rs [] (C ++ [.dtt [] []]) none none A0 (by simp; lia)
 rw [List.length_nil] at l1
 obtain ⟨vs, hn⟩ := A1.at'
 have es := sorted_cell us vs C1 C.length hn (fun t ht => ⟨Zca (A1.good t ht).1, Zca (A1.good t ht).2.1⟩) (by lia)
 obtain ⟨ts, e2, l2, m2⟩ := sort_nm us
 have hnb := nb_sort us A1.nd ts e2
 rw [e2] at es
 have hgood : ∀ t ∈ ts, tok h d t := fun t ht => A1.good t (m2 t ht)
 refine ⟨ts, C1.take C.length, ?_, ?_, ?_, ?_⟩
 ·have hF : F_qbc = mDef 5 3 (mSeq (mNewT 5) (mSeq (mFor (mRange1 (aCons (mVar 4) aNil)) (hName 6) pbody) (mRet (mCB (g1 tupH) (aCons (mVal (mSorted2 (aCons (mVar 5) aNil))) aNil))))) := rfl
  rw [hF]
  generalize pbody = pb at e1 ⊢
  simp! [mNewT, mFor, mRange1, hr, e1, mSorted2, es, tupH]
 ·have hl : (ts.map nm).length <= 30 := by rw [List.length_map]; lia
  show (decide ((ts.map nm).length <= 30) && (ts.map nm).all nameB && nb (ts.map nm) && (ts.map nm).all fun x => !ownB h d x) = true
  rw [hnb, decide_eq_true hl]
  simp only [Bool.true_and, Bool.and_true, Bool.and_eq_true]
  refine ⟨?_, ?_⟩
  ·rw [List.all_eq_true]; intro x hx
   obtain ⟨t, ht, rfl⟩ := List.mem_map.mp hx
   obtain ⟨q1, q2, q3, _⟩ := hgood t ht
   show (wordB t.1 && wordB t.2.1 && decide (1 <= t.2.2)) = true
   rw [q1, q2, decide_eq_true q3]; rfl
  ·rw [List.all_eq_true]; intro x hx
   obtain ⟨t, ht, rfl⟩ := List.mem_map.mp hx
   rw [(hgood t ht).2.2.2.2]; rfl
 ·have hl : (ts.map nm).length <= 1000 := by rw [List.length_map]; lia
  show (decide ((ts.map nm).length <= 1000) && (ts.map nm).all nok) = true
  rw [decide_eq_true hl, Bool.true_and, List.all_eq_true]; intro x hx
  obtain ⟨t, ht, rfl⟩ := List.mem_map.mp hx
  have q := (hgood t ht).2.2.2.1
  show (pok (.str t.1) && (pok (.str t.2.1) && (pok (.int t.2.2) && true))) = true
  have : pok (.int t.2.2) = true := decide_eq_true q
  rw [this]; rfl
 ·have hlen : C1.length = C.length + 1 := by rw [A1.len]; simp
  refine ⟨by rw [List.length_take, hlen]; lia, ?_, fun j hj => ?_⟩
  ·obtain ⟨x, y, q, q1, q2⟩ := A1.gs
   exact ⟨x, y, by rw [List.getElem?_take_of_lt hk]; exact q, q1, q2⟩
  ·rcases Nat.lt_or_ge j C.length with q | q
   ·rw [List.getElem?_take_of_lt q, A1.oth j hj (by lia), List.getElem?_append_left q]
   ·rw [List.getElem?_eq_none_iff.mpr (by rw [List.length_take]; lia), List.getElem?_eq_none_iff.mpr q]
structure PAdv (k n : Nat) (C C' : Cs) (ps : List PV) : Prop where
 len : C'.length = C.length
 gs : GS C' k
 oth : ∀ j, j ≠ k -> j ≠ n -> C'[j]? = C[j]?
 at' : C'[n]? = some (.lst ps)
noncomputable abbrev gbody : PSt -> M PF := mDrop (mApp (mVar 2) (aCons (mOp (g2 ixQ) (mVal (mLst (aCons (mFn F_qbi (aCons (mVar 0) aNil)) (aCons (mFn F_qba (aCons (mVar 0) (aCons (mC (.int 12)) aNil))) (aCons (mFn F_qba (aCons (mVar 0) (aCons (mC (.int 9)) aNil))) aNil))))) (mOp (g2 modP) (mMt "list" indexH (mVal (mLst (aCons (mC (.str "w")) (aCons (mC (.str "c")) (aCons (mC (.str "p")) (aCons (mC (.str "h")) aNil)))))) (aCons (mVar 3) aNil)) (mC (.int 3)))) aNil))
noncomputable def gq (s : Str) (q : PV) : Prop := okv q = true /\ ((s = "w" \/ s = "h") -> wordP q = true /\ notBell q = true) /\ (s = "c" -> belB q 12 = true) /\ (s = "p" -> belB q 9 = true)
noncomputable def sgn (s : Str) : Prop := s = "w" \/ s = "c" \/ s = "p" \/ s = "h"
theorem nwc : ("w" : Str) ≠ "c" := by decide +kernel
theorem nwp : ("w" : Str) ≠ "p" := by decide +kernel
theorem ncp : ("c" : Str) ≠ "p" := by decide +kernel
theorem nch : ("c" : Str) ≠ "h" := by decide +kernel
theorem nph : ("p" : Str) ≠ "h" := by decide +kernel
theorem xw : indexH (.lst [.str "w", .str "c", .str "p", .str "h"]) [.str "w"] = some (.int 0) := by rfl
theorem xc : indexH (.lst [.str "w", .str "c", .str "p", .str "h"]) [.str "c"] = some (.int 1) := by rfl
theorem xp : indexH (.lst [.str "w", .str "c", .str "p", .str "h"]) [.str "p"] = some (.int 2) := by rfl
theorem xh : indexH (.lst [.str "w", .str "c", .str "p", .str "h"]) [.str "h"] = some (.int 3) := by rfl
theorem part_at (k n : Nat) (hkn : k ≠ n) (w s : Str) (i : Int) (C C0 : Cs) (ps : List PV) (hi : indexH (.lst [.str "w", .str "c", .str "p", .str "h"]) [.str s] = some (.int i)) (hl : ps.length < 100) (P : PAdv k n C0 C ps) :
  ∃ (t : Str) (d1 d2 : Int) (C3 : Cs), wordB t = true /\ t ≠ "bell" /\ 0 <= d1 /\ d1 < 12 /\ 0 <= d2 /\ d2 < 9 /\ ∀ q, ixQ (.lst [.str t, .int d1, .int d2]) (.int (i % 3)) = some q -> gbody [some (.c k), some (.v (.str w)), some (.c n), some (.v (.str s))] C = some (PF.nx [some (.c k), some (.v (.str w)), some (.c n), some (.v (.str s))], C3.set n (.lst (ps ++ [q]))) /\ PAdv k n C0 (C3.set n (.lst (ps ++ [q]))) (ps ++ [q]) := by
 obtain ⟨t, C1, e1, hw, hb, a1⟩ := text_adv k C P.gs
 obtain ⟨d1, C2, e2, b1, b2, a2⟩ := ZaA k 12 C1 a1.gs (by decide)
 obtain ⟨d2, C3, e3, c1, c2, a3⟩ := ZaA k 9 C2 a2.gs (by decide)
 have a := (a1.trans a2).trans a3
 have hn : C[n]? = some (.lst ps) := P.at'
 have hn3 : C3[n]? = some (.lst ps) := by rw [a.oth n (Ne.symm hkn)]; exact hn
 have sz : ps.length < 100000 := by lia
 refine ⟨t, d1, d2, C3, hw, hb, b1, b2, c1, c2, fun q hq => ⟨?_, ⟨by simp [a.len, P.len], ?_, fun j h1 h2 => ?_, setAt hn3⟩⟩⟩
 ·simp! [mApp, isLst, hn, e1, e2, e3, hi, hq, appC, hn3, sz]
 ·obtain ⟨x, y, g1, g2, g3⟩ := a.gs
  exact ⟨x, y, by rw [List.getElem?_set_ne (Ne.symm hkn)]; exact g1, g2, g3⟩
 ·rw [List.getElem?_set_ne (Ne.symm h2), a.oth j h1]; exact P.oth j h1 h2
theorem nb_of {t : Str} (h : t ≠ "bell") : notBell (.str t) = true := decide_eq_true h
theorem part_step (k n : Nat) (hkn : k ≠ n) (w s : Str) (hs : sgn s) (C C0 : Cs) (ps : List PV) (hl : ps.length < 100) (P : PAdv k n C0 C ps) :
  ∃ q C', gbody [some (.c k), some (.v (.str w)), some (.c n), some (.v (.str s))] C = some (PF.nx [some (.c k), some (.v (.str w)), some (.c n), some (.v (.str s))], C') /\ gq s q /\ PAdv k n C0 C' (ps ++ [q]) := by
 rcases hs with rfl | rfl | rfl | rfl
 ·obtain ⟨t, d1, d2, C3, hw, hb, b1, b2, c1, c2, H⟩ := part_at k n hkn w "w" 0 C C0 ps xw hl P
  obtain ⟨e, A⟩ := H (.str t) rfl
  exact ⟨.str t, _, e, ⟨rfl, fun _ => ⟨hw, nb_of hb⟩, fun z => absurd z nwc, fun z => absurd z nwp⟩, A⟩
 ·obtain ⟨t, d1, d2, C3, hw, hb, b1, b2, c1, c2, H⟩ := part_at k n hkn w "c" 1 C C0 ps xc hl P
  obtain ⟨e, A⟩ := H (.int d1) rfl
  exact ⟨.int d1, _, e, ⟨rfl, fun z => z.elim (fun z => absurd z.symm nwc) fun z => absurd z nch, fun _ => by simp [belB, b1, b2], fun z => absurd z ncp⟩, A⟩
 ·obtain ⟨t, d1, d2, C3, hw, hb, b1, b2, c1, c2, H⟩ := part_at k n hkn w "p" 2 C C0 ps xp hl P
  obtain ⟨e, A⟩ := H (.int d2) rfl
  exact ⟨.int d2, _, e, ⟨rfl, fun z => z.elim (fun z => absurd z.symm nwp) fun z => absurd z nph, fun z => absurd z.symm ncp, fun _ => by simp [belB, c1, c2]⟩, A⟩
 ·obtain ⟨t, d1, d2, C3, hw, hb, b1, b2, c1, c2, H⟩ := part_at k n hkn w "h" 3 C C0 ps xh hl P
  obtain ⟨e, A⟩ := H (.str t) rfl
  exact ⟨.str t, _, e, ⟨rfl, fun _ => ⟨hw, nb_of hb⟩, fun z => absurd z.symm nch, fun z => absurd z.symm nph⟩, A⟩
inductive Gqs : List Str -> List PV -> Prop
 | nil : Gqs [] []
 | cons {s q ss qs} : gq s q -> Gqs ss qs -> Gqs (s :: ss) (q :: qs)
theorem ZcR (k n : Nat) (hkn : k ≠ n) (w : Str) (C0 : Cs) : ∀ (sgs : List Str), (∀ s ∈ sgs, sgn s) -> ∀ (C : Cs) (ps : List PV) (z : Option SV), PAdv k n C0 C ps -> ps.length + sgs.length < 100 ->
  ∃ qs C' z', loop (hName 3) gbody (sgs.map .str) [some (.c k), some (.v (.str w)), some (.c n), z] C = some (.nx [some (.c k), some (.v (.str w)), some (.c n), z'], C') /\ PAdv k n C0 C' (ps ++ qs) /\ Gqs sgs qs
 | [], _, C, ps, z, P, _ => ⟨[], C, z, by simp [loop, Pu.ret], by simpa using P, .nil⟩
 | s :: sgs, hs, C, ps, z, P, hl => by
  have hl2 : ps.length + (sgs.length + 1) < 100 := by simpa using hl
  obtain ⟨q, C1, e1, hq, P1⟩ := part_step k n hkn w s (hs s (by simp)) C C0 ps (by lia) P
  obtain ⟨qs, C2, z', e2, P2, G2⟩ := ZcR k n hkn w C0 sgs (fun x hx => hs x (by simp [hx])) C1 (ps ++ [q]) (some (.v (.str s))) P1 (by simp; lia)
  refine ⟨q :: qs, C2, z', ?_, by simpa using P2, .cons hq G2⟩
  rw [List.map_cons]
  unfold loop
  simp only [hName, List.set, bnd, e1, e2]
theorem good_adv (k : Nat) (C : Cs) (h : GS C k) : ∃ e C', F_qai [.c k] C = some (.v e, C') /\ deedP e = true /\ ok1 e = true /\ Adv k C C' := by
 obtain ⟨d, C1, e1, d1, d2, a1⟩ := ZaA k 8 C h (by decide)
 have hk := gs_lt h
 have run : ∀ (w f : Str) (sgs : List Str), ixQ (.lst [.str "join", .str "say", .str "do", .str "free", .str "ready", .str "hand", .str "quit", .str "note"]) (.int d) = some (.str w) -> lookP fk fv (.inr w) = some (.str f) -> itemsP (.v (.str f)) = some (sgs.map .str) -> (∀ s ∈ sgs, sgn s) -> sgs.length <= 2 ->
   (∀ qs, Gqs sgs qs -> deedW w qs = true /\ qs.all okv = true /\ qs.length <= 2) -> ∃ e C', F_qai [.c k] C = some (.v e, C') /\ deedP e = true /\ ok1 e = true /\ Adv k C C' := fun w f sgs hw hf hi hs hl hdd => by
  have hkn : k ≠ C1.length := by rw [a1.len]; lia
  have P0 : PAdv k C1.length (C1 ++ [.lst []]) (C1 ++ [.lst []]) [] := ⟨rfl, gs_app a1.gs _, fun _ _ _ => rfl, by simp⟩
  obtain ⟨qs, C2, z', e2, P2, G⟩ := ZcR k C1.length hkn w (C1 ++ [.lst []]) sgs hs (C1 ++ [.lst []]) [] none P0 (by simp; lia)
  rw [List.nil_append] at P2
  obtain ⟨g1', g2', g3'⟩ := hdd qs G
  have hn2 := P2.at'
  have sz : 1 + qs.length <= 1000000 := by lia
  refine ⟨.tup (.str w :: qs), C2.take C.length, ?_, g1', ?_, ?_⟩
  ·have hF : F_qai = mDef 1 3 (mSeq (mSet 1 (mOp (g2 ixQ) (mVal (mLst (aCons (mC (.str "join")) (aCons (mC (.str "say")) (aCons (mC (.str "do")) (aCons (mC (.str "free")) (aCons (mC (.str "ready")) (aCons (mC (.str "hand")) (aCons (mC (.str "quit")) (aCons (mC (.str "note")) aNil)))))))))) (mFn F_qba (aCons (mVar 0) (aCons (mC (.int 8)) aNil))))) (mSeq (mNew 2 (mLst aNil)) (mSeq (mFor (mItems (mOp (g2 ixQ) (mFn F_qag aNil) (mVar 1))) (hName 3) gbody) (mRet (mOp (g2 addP) (mTup (aCons (mVar 1) aNil)) (mCB (g1 tupH) (aCons (mVar 2) aNil))))))) := rfl
   rw [hF]
   generalize gbody = body at e2 ⊢
   have hw' : ixP (.lst [.str "join", .str "say", .str "do", .str "free", .str "ready", .str "hand", .str "quit", .str "note"]) (.int d) = some (.str w) := hw
   have sz' : qs.length + 1 <= 1000000 := by lia
   simp! [e1, hw', mNew, mFor, mItems, Zba, ixQ, keyP, hf, hi, e2, hn2, tupH, addP, sz]
  ·show ((PV.str w :: qs).all okv) = true
   rw [List.all_cons, g2']; rfl
  ·have hlen : C2.length = C.length + 1 := by rw [P2.len]; simp [a1.len]
   refine ⟨by rw [List.length_take, hlen]; lia, ?_, fun j hj => ?_⟩
   ·obtain ⟨x, y, g, g1, g2⟩ := P2.gs
    exact ⟨x, y, by rw [List.getElem?_take_of_lt hk]; exact g, g1, g2⟩
   ·rcases Nat.lt_or_ge j C.length with q | q
    ·rw [List.getElem?_take_of_lt q, P2.oth j hj (by rw [a1.len]; lia), List.getElem?_append_left (by rw [a1.len]; exact q), a1.oth j hj]
    ·rw [List.getElem?_eq_none_iff.mpr (by rw [List.length_take]; lia), List.getElem?_eq_none_iff.mpr q]
 have bare : ∀ w : Str, deedW w [] = true -> ∀ qs, Gqs [] qs -> deedW w qs = true /\ qs.all okv = true /\ qs.length <= 2 := fun w hw qs G => by cases G; exact ⟨hw, rfl, by simp⟩
 have one : ∀ (w s : Str), (∀ q, gq s q -> deedW w [q] = true) -> ∀ qs, Gqs [s] qs -> deedW w qs = true /\ qs.all okv = true /\ qs.length <= 2 := fun w s hw qs G => by
  cases G with
  | cons h t => cases t; exact ⟨hw _ h, by simp [h.1], by simp⟩
 have two : ∀ (w s s' : Str), (∀ q q', gq s q -> gq s' q' -> deedW w [q, q'] = true) -> ∀ qs, Gqs [s, s'] qs -> deedW w qs = true /\ qs.all okv = true /\ qs.length <= 2 := fun w s s' hw qs G => by
  cases G with
  | cons h t => cases t with
   | cons h' t' => cases t'; exact ⟨hw _ _ h h', by simp [h.1, h'.1], by simp⟩
 have cc : ∀ q, gq "c" q -> belB q 12 = true := fun q h => h.2.2.1 rfl
 have hd : d = 0 \/ d = 1 \/ d = 2 \/ d = 3 \/ d = 4 \/ d = 5 \/ d = 6 \/ d = 7 := by lia
 rcases hd with rfl | rfl | rfl | rfl | rfl | rfl | rfl | rfl
 ·exact run "join" "" [] (by rfl) k1 i0 (by simp) (by simp) (bare _ rfl)
 ·exact run "say" "w" ["w"] (by rfl) k3 i1 (by simp [sgn]) (by simp) (one _ _ fun q h => (h.2.1 (.inl rfl)).1)
 ·exact run "do" "cp" ["c", "p"] (by rfl) k4 i2 (by simp [sgn]) (by simp) (two _ _ _ fun q q' h h' => by show (belB q 12 && belB q' 9) = true; rw [cc q h, h'.2.2.2 rfl]; rfl)
 ·exact run "free" "c" ["c"] (by rfl) k5 i3 (by simp [sgn]) (by simp) (one _ _ fun q h => cc q h)
 ·exact run "ready" "c" ["c"] (by rfl) k6 i3 (by simp [sgn]) (by simp) (one _ _ fun q h => cc q h)
 ·exact run "hand" "ch" ["c", "h"] (by rfl) k8 i4 (by simp [sgn]) (by simp) (two _ _ _ fun q q' h h' => by
   show ofHouse [q, q'] = true
   rw [eH]
   show (belB q 12 && (wordP q' && notBell q')) = true
   rw [cc q h, (h'.2.1 (.inr rfl)).1, (h'.2.1 (.inr rfl)).2]; rfl)
 ·exact run "quit" "c" ["c"] (by rfl) k7 i3 (by simp [sgn]) (by simp) (one _ _ fun q h => cc q h)
 ·exact run "note" "" [] (by rfl) k2 i0 (by simp) (by simp) (bare _ rfl)
noncomputable def oddB (x : PV) : Bool := pok x && gok x && ok1 x && okL x
theorem odd_adv (k : Nat) (C : Cs) (h : GS C k) : ∃ p C', F_qay [.c k] C = some (.v p, C') /\ oddB p = true /\ Adv k C C' := by
 obtain ⟨d, C1, e1, d1, d2, a1⟩ := ZaA k 22 C h (by decide)
 obtain ⟨p, ep, hp⟩ := Zb7 (okk := oddB) [.int 0, .int (-1), .int 1, .bl true, .bl false, .non, .str "", .str "Ab", .str "abcdefghijklm", .str "bell", .str "a", .tup [], .lst [], .dct [] [], .tup [.str "join"], .tup [.str "do", .int 12, .int 0],
  .tup [.str "note"], .tup [.str "say", .str "A"], .int (10 ^ 29), .tup [.str "a", .str "b", .int 1], .tup [.tup [.str "a", .str "b", .int 1]], .lst [.tup [.str "a", .str "b", .int 1]]] (by rfl) d d1 (by simpa using d2)
 refine ⟨p, C1, ?_, hp, a1⟩
 simp only [show (10 : Int) ^ 29 = 100000000000000000000000000000 from rfl] at ep
 simp! [F_qay, addP, negP, mNeg, e1, a1.take, ep]
theorem letter_adv (k : Nat) (ws : List PV) (hw : ws.length = 9) (hs : ws.all wordP = true) (C : Cs) (g : GS C k) :
  ∃ (h dl : Str) (n p t : Int) (gs e : PV) (C' : Cs), F_qau [.c k, .v (.lst ws)] C = some (.v (.tup [.str h, .str dl, .int n, .int p, gs, .int t, e]), C') /\ letterP (.tup [.str h, .str dl, .int n, .int p, gs, .int t, e]) = true /\ ok7 [.str h, .str dl, .int n, .int p, gs, .int t, e] = true /\ Adv k C C' := by
 obtain ⟨x1, C1, e1, b1, b2, a1⟩ := ZaA k 9 C g (by decide)
 obtain ⟨x2, C2, e2, b3, b4, a2⟩ := ZaA k 9 C1 a1.gs (by decide)
 obtain ⟨x3, C3, e3, b5, b6, a3⟩ := ZaA k 9 C2 a2.gs (by decide)
 obtain ⟨x4, C4, e4, b7, b8, a4⟩ := ZaA k 8 C3 a3.gs (by decide)
 obtain ⟨q1, i1, o1⟩ := Zb7 (okk := wordP) ws hs x1 b1 (by lia)
 obtain ⟨q2, i2, o2⟩ := Zb7 (okk := wordP) ws hs x3 b5 (by lia)
 obtain ⟨w1, rfl⟩ := Zbc o1
 obtain ⟨dl, rfl⟩ := Zbc o2
 have bell : wordB "bell" = true := by decide +kernel
 obtain ⟨h, eh, hh⟩ : ∃ h : Str, ixQ (.lst [.str w1, .str "bell"]) (.int (if x2 = 0 then 1 else 0)) = some (.str h) /\ wordB h = true := by
  by_cases z : x2 = 0
  ·rw [if_pos z]; exact ⟨"bell", rfl, bell⟩
  ·rw [if_neg z]; exact ⟨w1, rfl, o1⟩
 obtain ⟨mm, i3, o3⟩ := Zb7 (okk := fun p => match p with | .int i => decide (0 <= i) && decide (i <= 30) | _ => false) [.int 0, .int 1, .int 2, .int 3, .int 7, .int 1, .int 0, .int 30] (by rfl) x4 b7 (by simpa using b8)
 obtain ⟨m, rfl, m0, m1⟩ : ∃ m : Int, mm = .int m /\ 0 <= m /\ m <= 30 := by
  cases mm with
  | int i => simp only [Bool.and_eq_true, decide_eq_true_eq] at o3; exact ⟨i, rfl, o3⟩
  | _ => cases o3
 obtain ⟨ts, C5, e5, gg1, gg2, a5⟩ := pool_adv k ws hw hs h dl m m0 m1 C4 a4.gs
 obtain ⟨n, C6, e6, n1, n2, a6⟩ := Zbz k 1 (by decide) (by decide) C5 a5.gs
 obtain ⟨p, C7, e7, p1, p2, a7⟩ := Zbz k 0 (by decide) (by decide) C6 a6.gs
 obtain ⟨t, C8, e8, t1, t2, a8⟩ := Zbz k 0 (by decide) (by decide) C7 a7.gs
 obtain ⟨e, C9, e9, d1, d2, a9⟩ := good_adv k C8 a8.gs
 have a := (((((((a1.trans a2).trans a3).trans a4).trans a5).trans a6).trans a7).trans a8).trans a9
 refine ⟨h, dl, n, p, t, .tup (ts.map nm), e, C9, ?_, ?_, ?_, a⟩
 ·generalize ts.map nm = xs at *
  have eh' : ixP (.lst [.str w1, .str "bell"]) (.int (if x2 = 0 then 1 else 0)) = some (.str h) := eh
  have i1' : ixP (.lst ws) (.int x1) = some (.str w1) := i1
  have i2' : ixP (.lst ws) (.int x3) = some (.str dl) := i2
  have i3' : ixP (.lst [.int 0, .int 1, .int 2, .int 3, .int 7, .int 1, .int 0, .int 30]) (.int x4) = some (.int m) := i3
  by_cases z : x2 = 0
  ·rw [if_pos z] at eh'
   simp! [F_qau, e1, e2, e3, e4, ixQ, i1', i2', i3', intH, z, eh', e5, e6, e7, e8, e9, a.take]
  ·rw [if_neg z] at eh'
   simp! [F_qau, e1, e2, e3, e4, ixQ, i1', i2', i3', intH, z, eh', e5, e6, e7, e8, e9, a.take]
 ·show (wordB h && wordB dl && decide (1 <= n) && decide (0 <= p) && gotB h dl (.tup (ts.map nm)) && decide (0 <= t) && deedP e) = true
  have o2' : wordB dl = true := o2
  rw [hh, o2', decide_eq_true n1, decide_eq_true p1, gg1, decide_eq_true t1, d1]; rfl
 ·show (pok (.str h) && pok (.str dl) && decide (n <= 10 ^ 30) && decide (p <= 10 ^ 30) && gok (.tup (ts.map nm)) && decide (t <= 10 ^ 30) && ok1 e) = true
  rw [decide_eq_true n2, decide_eq_true p2, gg2, decide_eq_true t2, d2]; rfl
theorem ZbX (k : Nat) (h dl n p g t e : PV) (ok : ok7 [h, dl, n, p, g, t, e] = true) (C : Cs) (gs : GS C k) : ∃ q C', F_qbg [.c k, .v (.tup [h, dl, n, p, g, t, e])] C = some (.v q, C') /\ okL q = true /\ Adv k C C' := by
 obtain ⟨w, C1, e1, w1, w2, a1⟩ := ZaA k 12 C gs (by decide)
 by_cases c0 : w = 0
 ·subst c0
  exact ⟨.lst [h, dl, n, p, g, t, e], C1, by simp! [F_qbg, e1, a1.take], rfl, a1⟩
 by_cases c1 : w = 1
 ·subst c1
  obtain ⟨o, C2, e2, ho, a2⟩ := odd_adv k C1 a1.gs
  have a := a1.trans a2
  exact ⟨.tup [h, dl, n, p, g, t, e, o], C2, by simp! [F_qbg, e1, e2, addP, a.take], rfl, a⟩
 by_cases c2 : w = 2
 ·subst c2
  have k6 : cutP [h, dl, n, p, g, t, e] none (some 6) = [h, dl, n, p, g, t] := rfl
  exact ⟨.tup [h, dl, n, p, g, t], C1, by simp! [F_qbg, e1, k6, a1.take], rfl, a1⟩
 obtain ⟨j, C2, e2, j1, j2, a2⟩ := ZaA k 7 C1 a1.gs (by decide)
 obtain ⟨o, C3, e3, ho, a3⟩ := odd_adv k C2 a2.gs
 have a := (a1.trans a2).trans a3
 simp only [oddB, Bool.and_eq_true] at ho
 obtain ⟨⟨⟨o1, o2⟩, o3⟩, _⟩ := ho
 have ok' := ok
 simp only [ok7, Bool.and_eq_true] at ok'
 obtain ⟨⟨⟨⟨⟨⟨q1, q2⟩, q3⟩, q4⟩, q5⟩, q6⟩, q7⟩ := ok'
 have step : ∀ (xs ys : List PV), cutP [h, dl, n, p, g, t, e] none (some j) = xs -> cutP [h, dl, n, p, g, t, e] (some (j + 1)) none = ys -> xs.length <= 7 -> ys.length <= 7 -> okL (.tup (xs ++ [o] ++ ys)) = true ->
   ∃ q C', F_qbg [.c k, .v (.tup [h, dl, n, p, g, t, e])] C = some (.v q, C') /\ okL q = true /\ Adv k C C' := fun xs ys hx hy lx ly hok => by
  refine ⟨.tup (xs ++ [o] ++ ys), C3, ?_, hok, a⟩
  have s1 : xs.length + 1 <= 1000000 := by lia
  have s2 : xs.length + 1 + ys.length <= 1000000 := by lia
  have s3 : xs.length + (1 + ys.length) <= 1000000 := by lia
  have s4 : xs.length + (ys.length + 1) <= 1000000 := by lia
  generalize [h, dl, n, p, g, t, e] = L at *
  simp! [F_qbg, e1, c0, c1, c2, e2, e3, hx, hy, addP, s1, s2, s3, s4, a.take]
 have hj : j = 0 \/ j = 1 \/ j = 2 \/ j = 3 \/ j = 4 \/ j = 5 \/ j = 6 := by lia
 rcases hj with rfl | rfl | rfl | rfl | rfl | rfl | rfl
 ·exact step [] [dl, n, p, g, t, e] rfl rfl (by simp) (by simp) (by show ok7 [o, dl, n, p, g, t, e] = true; simp [ok7, o1, q2, q3, q4, q5, q6, q7])
 ·exact step [h] [n, p, g, t, e] rfl rfl (by simp) (by simp) (by show ok7 [h, o, n, p, g, t, e] = true; simp [ok7, o1, q1, q3, q4, q5, q6, q7])
 ·exact step [h, dl] [p, g, t, e] rfl rfl (by simp) (by simp) (by show ok7 [h, dl, o, p, g, t, e] = true; simp [ok7, o1, q1, q2, q4, q5, q6, q7])
 ·exact step [h, dl, n] [g, t, e] rfl rfl (by simp) (by simp) (by show ok7 [h, dl, n, o, g, t, e] = true; simp [ok7, o1, q1, q2, q3, q5, q6, q7])
 ·exact step [h, dl, n, p] [t, e] rfl rfl (by simp) (by simp) (by show ok7 [h, dl, n, p, o, t, e] = true; simp [ok7, o2, q1, q2, q3, q4, q6, q7])
 ·exact step [h, dl, n, p, g] [e] rfl rfl (by simp) (by simp) (by show ok7 [h, dl, n, p, g, o, e] = true; simp [ok7, o1, q1, q2, q3, q4, q5, q7])
 ·exact step [h, dl, n, p, g, t] [] rfl rfl (by simp) (by simp) (by show ok7 [h, dl, n, p, g, t, o] = true; simp [ok7, o3, q1, q2, q3, q4, q5, q6])
section
variable {d f1 f2 f3 f4 f5 : Addr}
noncomputable abbrev rbody (d f1 f2 f3 f4 f5 : Addr) : PSt -> M PF := mIfS (mNotT (mTru (mFn (F_qbe d f1 f2 f3 f4 f5) (aCons (mVar 1) aNil)))) (mRet (mC (.bl false))) mSkip
theorem things (D : Dist f1 f2 f3 f4 f5) (a b c e f : Option SV) (C : Cs) (xs : List PV) (hx : ∀ x ∈ xs, okL x = true) (z : Option SV) : ∃ z', loop (hName 1) (rbody d f1 f2 f3 f4 f5) xs [a, z, b, c, e, f] C = some (.nx [a, z', b, c, e, f], C) := by
 obtain ⟨ρ', C', h1, ⟨z', rfl⟩, rfl⟩ := loop_inv (g := hName 1) (f := rbody d f1 f2 f3 f4 f5) (fun ρ C' => (∃ z, ρ = [a, z, b, c, e, f]) /\ C' = C) xs (fun x hm ρ C' h => by
  obtain ⟨⟨z, rfl⟩, rfl⟩ := h
  refine ⟨[a, some (.v x), b, c, e, f], [a, some (.v x), b, c, e, f], C', rfl, ?_, ⟨_, rfl⟩, rfl⟩
  simp! [right_eq D x C' (hx x hm)]) [a, z, b, c, e, f] C ⟨⟨z, rfl⟩, rfl⟩
 exact ⟨z', h1⟩
noncomputable abbrev obody (d f1 f2 f3 f4 f5 : Addr) : PSt -> M PF := (mSeq (mNew 3 (mFnF FF_qas (aCons (mVar 0) (aCons (mVar 2) aNil)))) (mSeq (mSet 4 (mFn F_qbm (aCons (mVar 3) (aCons (mC (.int 9)) aNil)))) (mSeq (mSet 5 (mFn F_qau (aCons (mVar 3) (aCons (mVar 4) aNil)))) (mSeq (mIfS (mOrT (mTest (mOp (g2 isntBP) (mFn (F_qbs d f1 f2 f3 f4 f5) (aCons (mVar 5) aNil)) (mC (.bl true)))) (mTest (mOp (g2 (deepP fun p q => !eqD p q)) (mFn F_qcd (aCons (mVar 5) aNil)) (mTup (aCons (mOp (g2 ixQ) (mVar 5) (mC (.int 0))) (aCons (mOp (g2 ixQ) (mVar 5) (mC (.int 1))) (aCons (mOp (g2 ixQ) (mVar 5) (mC (.int 2))) aNil))))))) (mRet (mC (.bl false))) mSkip) (mFor (mItems (mVal (mLst (aCons (mFn F_qbg (aCons (mVar 3) (aCons (mVar 5) aNil))) (aCons (mFn F_qbg (aCons (mVar 3) (aCons (mVar 5) aNil))) (aCons (mFn F_qbg (aCons (mVar 3) (aCons (mVar 5) aNil))) (aCons (mFn F_qay (aCons (mVar 3) aNil)) aNil))))))) (hName 1) (rbody d f1 f2 f3 f4 f5))))))
theorem name_same (h dl : Str) (n : Int) : deepP (fun p q => !eqD p q) (.tup [.str h, .str dl, .int n]) (.tup [.str h, .str dl, .int n]) = some (.bl false) := by
 have : eqD (.tup [.str h, .str dl, .int n]) (.tup [.str h, .str dl, .int n]) = true := ZbV (Zbe (h, dl, n))
 unfold deepP
 rw [if_pos (by simp [dat, dats, dep, deps])]
 show some (PV.bl (!eqD _ _)) = _
 rw [this]; rfl
theorem outer (D : Dist f1 f2 f3 f4 f5) (ns : List Int) (v1 v3 v4 v5 : Option SV) (k : Int) (h1 : 1 <= k) (h2 : k <= 1000) (C : Cs) :
  ∃ w1 w3 w4 w5 C', obody d f1 f2 f3 f4 f5 [some (.v (.lst (ns.map .int))), v1, some (.v (.int k)), v3, v4, v5] C = some (.nx [some (.v (.lst (ns.map .int))), w1, some (.v (.int k)), w3, w4, w5], C') := by
 obtain ⟨x, y, el, y0, y1⟩ := left_eq ns k C h1 h2
 have g0 : GS (C ++ [.lst [.int x, .int y]]) C.length := ⟨x, y, by simp, y0, y1⟩
 obtain ⟨ws, C1, e1, hw, hs, a1⟩ := words_adv C.length _ g0
 obtain ⟨h, dl, n, p, t, gs, e, C2, e2, hL, ok, a2⟩ := letter_adv C.length ws hw hs C1 a1.gs
 have eb := (both (d := d) D (.tup [.str h, .str dl, .int n, .int p, gs, .int t, e]) C2 ok).1
 rw [hL] at eb
 have en : F_qcd [.v (.tup [.str h, .str dl, .int n, .int p, gs, .int t, e])] C2 = some (.v (.tup [.str h, .str dl, .int n]), C2) := by
  simp! [F_qcd, cut7]
 have es := name_same h dl n
 obtain ⟨z1, C3, e3, k3, a3⟩ := ZbX C.length (.str h) (.str dl) (.int n) (.int p) gs (.int t) e ok C2 a2.gs
 obtain ⟨z2, C4, e4, k4, a4⟩ := ZbX C.length (.str h) (.str dl) (.int n) (.int p) gs (.int t) e ok C3 a3.gs
 obtain ⟨z3, C5, e5, k5, a5⟩ := ZbX C.length (.str h) (.str dl) (.int n) (.int p) gs (.int t) e ok C4 a4.gs
 obtain ⟨z4, C6, e6, k6, a6⟩ := odd_adv C.length C5 a5.gs
 have k6' : okL z4 = true := by simp only [oddB, Bool.and_eq_true] at k6; exact k6.2
 obtain ⟨z', ez⟩ := things (d := d) D (some (.v (.lst (ns.map .int)))) (some (.v (.int k))) (some (.c C.length)) (some (.v (.lst ws))) (some (.v (.tup [.str h, .str dl, .int n, .int p, gs, .int t, e]))) C6 [z1, z2, z3, z4] (fun v hv => by
  simp only [List.mem_cons, List.not_mem_nil, or_false] at hv
  rcases hv with rfl | rfl | rfl | rfl
  ·exact k3
  ·exact k4
  ·exact k5
  ·exact k6') v1
 refine ⟨z', some (.c C.length), some (.v (.lst ws)), some (.v (.tup [.str h, .str dl, .int n, .int p, gs, .int t, e])), C6, ?_⟩
 have i0 : ixQ (.tup [.str h, .str dl, .int n, .int p, gs, .int t, e]) (.int 0) = some (.str h) := rfl
 have i1 : ixQ (.tup [.str h, .str dl, .int n, .int p, gs, .int t, e]) (.int 1) = some (.str dl) := rfl
 have i2 : ixQ (.tup [.str h, .str dl, .int n, .int p, gs, .int t, e]) (.int 2) = some (.int n) := rfl
 unfold obody
 generalize rbody d f1 f2 f3 f4 f5 = body at ez ⊢
 generalize ([.str h, .str dl, .int n, .int p, gs, .int t, e] : List PV) = L at *
 simp! [mNew, el, e1, e2, eb, isntBP, en, i0, i1, i2, es, e3, e4, e5, e6, mFor, mItems, itemsP, ez]
theorem law_pure (D : Dist f1 f2 f3 f4 f5) (ns : List Int) (hn : ns.length <= 63) : F_law d f1 f2 f3 f4 f5 [.v (.lst (ns.map .int))] [] = some (.v (.bl true), []) := by
 obtain ⟨z1, ez1⟩ := things (d := d) D (some (.v (.lst (ns.map .int)))) none none none none [] [.tup [], .non, .str "letter", .lst [], .dct [] [], .tup [.str "a", .str "b", .int 1, .int 0, .tup [], .int 0, .tup [.str "join"]], .tup [.str "a", .str "b", .int 1, .int 0, .tup [], .int 0, .str "join"]] (fun x hx => by
  simp only [List.mem_cons, List.not_mem_nil, or_false] at hx
  rcases hx with rfl | rfl | rfl | rfl | rfl | rfl | rfl <;> rfl) none
 have hc := cut_len (ns.map .int) (some 1) (some 16)
 rw [List.length_map] at hc
 have r1 : -1000000 <= 2 + ((cutP (ns.map .int) (some 1) (some 16)).length : Int) /\ 2 + ((cutP (ns.map .int) (some 1) (some 16)).length : Int) <= 1000000 := by lia
 have hr : rng2P [.v (.int 1), .v (.int (2 + ((cutP (ns.map .int) (some 1) (some 16)).length : Int)))] = some ((List.range (2 + ((cutP (ns.map .int) (some 1) (some 16)).length : Int) - 1).toNat).map fun (j : Nat) => .int (1 + j)) := by
  unfold rng2P; simp [r1]
 obtain ⟨ρ', C', e2, v1, v2, v3, v4, v5, rfl⟩ := loop_inv (g := hName 2) (f := obody d f1 f2 f3 f4 f5) (fun ρ _ => ∃ v1 v2 v3 v4 v5, ρ = [some (.v (.lst (ns.map .int))), v1, v2, v3, v4, v5]) ((List.range (2 + ((cutP (ns.map .int) (some 1) (some 16)).length : Int) - 1).toNat).map fun (j : Nat) => .int (1 + j)) (fun x hx ρ C h => by
  obtain ⟨v1, v2, v3, v4, v5, rfl⟩ := h
  obtain ⟨j, hj, rfl⟩ := List.mem_map.mp hx
  have hj' := List.mem_range.mp hj
  obtain ⟨w1, w3, w4, w5, C', eo⟩ := outer (d := d) D ns v1 v3 v4 v5 (1 + (j : Int)) (by lia) (by lia) C
  exact ⟨_, _, C', rfl, eo, _, _, _, _, _, rfl⟩) [some (.v (.lst (ns.map .int))), z1, none, none, none, none] [] ⟨_, _, _, _, _, rfl⟩
 have hF : F_law d f1 f2 f3 f4 f5 = mDef 1 5 (mSeq (mFor (mItems (mVal (mLst (aCons (mTup aNil) (aCons (mC .non) (aCons (mC (.str "letter")) (aCons (mVal (mLst aNil)) (aCons mDict0 (aCons (mTup (aCons (mC (.str "a")) (aCons (mC (.str "b")) (aCons (mC (.int 1)) (aCons (mC (.int 0)) (aCons (mTup aNil) (aCons (mC (.int 0)) (aCons (mTup (aCons (mC (.str "join")) aNil)) aNil)))))))) (aCons (mTup (aCons (mC (.str "a")) (aCons (mC (.str "b")) (aCons (mC (.int 1)) (aCons (mC (.int 0)) (aCons (mTup aNil) (aCons (mC (.int 0)) (aCons (mC (.str "join")) aNil)))))))) aNil)))))))))) (hName 1) (rbody d f1 f2 f3 f4 f5)) (mSeq (mFor (mRange2 (aCons (mC (.int 1)) (aCons (mOp (g2 addP) (mC (.int 2)) (mCB (g1 lenH) (aCons (mSlice (mVar 0) (oPart (mC (.int 1))) (oPart (mC (.int 16)))) aNil))) aNil))) (hName 2) (obody d f1 f2 f3 f4 f5)) (mRet (mC (.bl true))))) := rfl
 rw [hF]
 generalize obody d f1 f2 f3 f4 f5 = ob at e2 ⊢
 generalize rbody d f1 f2 f3 f4 f5 = rb at ez1 ⊢
 generalize ((List.range (2 + ((cutP (ns.map .int) (some 1) (some 16)).length : Int) - 1).toNat).map fun (j : Nat) => PV.int (1 + j)) = rs at e2 hr
 simp! [mFor, mItems, itemsP, ez1, addP, mRange2, hr, e2]
end
noncomputable def qv : Program := W.view PySem.Challenge.pw_holdword_k13_letters [1, 2, 3, 4, 5, 6, 7, 8, 9, 11, 12, 13, 14, 15, 16, 17, 19, 20, 21, 22, 23, 25, 26, 27, 28, 29, 30, 31, 32, 33, 34, 35, 36, 37, 38, 39, 40, 41, 42, 43, 44, 45]
noncomputable def fnames : List Str := List.map Str.ofString ["is_number", "is_number_below", "is_row_of", "is_word", "is_clause_number", "is_bare", "is_of_word", "is_of_clause", "is_of_part", "is_of_house", "is_deed", "is_letter_name", "are_gots", "is_letter", "name_of", "_law_cell_at", "_law_left", "_law_pick", "_law_words", "_law_forms", "_law_whole", "_law_is_word", "_law_fits", "_law_is_deed", "_law_text", "_law_good", "_law_number", "_law_is_name", "_law_are_gots", "_law_is_letter", "_law_pool", "_law_letter", "_law_odd", "_law_spoilt", "_law_right", "law"]
noncomputable def sts : List (Str × Stmt) := fnames.zip (List.map top [6, 7, 8, 9, 12, 13, 14, 15, 16, 17, 19, 20, 21, 22, 23, 25, 26, 27, 28, 29, 30, 31, 32, 33, 34, 35, 36, 37, 38, 39, 40, 41, 42, 43, 44, 45])
theorem sts_ok : (recsOf qv).map Hd.four = sts.map Hd.fourS := by kernel_rfl
noncomputable def tnames : List Str := ["DEEDS", "is_bare", "is_of_word", "is_of_part", "is_of_clause", "is_of_house"]
noncomputable def tvals : List (Option (Option Value)) := [some (some (.ref 83)), some (some (.ref 54)), some (some (.ref 61)), some (some (.ref 75)), some (some (.ref 68)), some (some (.ref 82))]
noncomputable def es_DEEDS (P : Params) : List DictEntry := [⟨PyData.keyHash P "join", .str "join" 276, .ref 54⟩, ⟨PyData.keyHash P "say", .str "say" 277, .ref 61⟩, ⟨PyData.keyHash P "do", .str "do" 278, .ref 75⟩, ⟨PyData.keyHash P "free", .str "free" 279, .ref 68⟩, ⟨PyData.keyHash P "ready", .str "ready" 280, .ref 68⟩, ⟨PyData.keyHash P "hand", .str "hand" 281, .ref 82⟩, ⟨PyData.keyHash P "quit", .str "quit" 282, .ref 68⟩, ⟨PyData.keyHash P "note", .str "note" 283, .ref 54⟩]
noncomputable def tobjs (P : Params) : List Obj := [⟨.type "dict", none, .dict (es_DEEDS P).toArray 8, #[]⟩]
noncomputable def hk : W.Hook := Hd.tabHook tnames tvals [83] tobjs
theorem td_DEEDS {w : World} {h : Heap} {mg : Str -> Option Value} {as : List Addr} (G : h.Ns mainGlobals mg) (Y : hk.says w h) (m : 83 ∈ as) {f_qbp : Addr} {f_qbz : Addr} {f_qby : Addr} {f_qbw : Addr} {f_qbx : Addr} (e0 : mg "is_bare" = some (.ref f_qbp)) (e1 : mg "is_of_word" = some (.ref f_qbz)) (e2 : mg "is_of_part" = some (.ref f_qby)) (e3 : mg "is_of_clause" = some (.ref f_qbw)) (e4 : mg "is_of_house" = some (.ref f_qbx)) : mg "DEEDS" = some (.ref 83) /\ TopD (Hd.kf h as) w 83 (ZaB f_qbp f_qbz f_qby f_qbw f_qbx) := by
 refine ⟨Hd.tab_mg G Y.1 0 rfl rfl, ⟨(es_DEEDS w.params).toArray, 8, Hd.kf_at (Hd.tab_at Y.2 0 rfl rfl) m, ?_, ?_⟩, by decide⟩
 ·repeat (first | exact True.intro | refine And.intro ⟨_, _, rfl, rfl⟩ ?_)
 ·have q0 := (Hd.tab_mg G Y.1 1 rfl rfl).symm.trans e0
  cases q0
  have q1 := (Hd.tab_mg G Y.1 2 rfl rfl).symm.trans e1
  cases q1
  have q2 := (Hd.tab_mg G Y.1 3 rfl rfl).symm.trans e2
  cases q2
  have q3 := (Hd.tab_mg G Y.1 4 rfl rfl).symm.trans e3
  cases q3
  have q4 := (Hd.tab_mg G Y.1 5 rfl rfl).symm.trans e4
  cases q4
  repeat (first | exact Paired.nil | refine Paired.cons ⟨rfl, rfl⟩ ?_)
theorem hl : W.LeftO PySem.Challenge.pw_holdword_k13_letters qv ["DEEDS"] (fun s => W.xlAt qv [] s && W.recOk [] s) hk.obs hk.val 2726 :=
 W.LeftO.of_split "special-get-raises" (fun w => by kernel_rfl)
theorem ln0 {P : List Value -> Prop} (h : P []) : ∀ us : List Value, us.length = 0 -> P us := by
 intro us hl
 cases us with
 | nil => exact h
 | cons a r => simp at hl
theorem ln1 {P : List Value -> Prop} (h : ∀ a, P [a]) : ∀ us : List Value, us.length = 1 -> P us := by
 intro us hl
 cases us with
 | nil => simp at hl
 | cons a r => exact ln0 (P := fun r => P (a :: r)) (h a) r (by simpa using hl)
theorem ln2 {P : List Value -> Prop} (h : ∀ a b, P [a, b]) : ∀ us : List Value, us.length = 2 -> P us := by
 intro us hl
 cases us with
 | nil => simp at hl
 | cons a r => exact ln1 (P := fun r => P (a :: r)) (h a) r (by simpa using hl)
theorem ln3 {P : List Value -> Prop} (h : ∀ a b c, P [a, b, c]) : ∀ us : List Value, us.length = 3 -> P us := by
 intro us hl
 cases us with
 | nil => simp at hl
 | cons a r => exact ln2 (P := fun r => P (a :: r)) (h a) r (by simpa using hl)
theorem ln4 {P : List Value -> Prop} (h : ∀ a b c d, P [a, b, c, d]) : ∀ us : List Value, us.length = 4 -> P us := by
 intro us hl
 cases us with
 | nil => simp at hl
 | cons a r => exact ln3 (P := fun r => P (a :: r)) (h a) r (by simpa using hl)
theorem ln5 {P : List Value -> Prop} (h : ∀ a b c d e, P [a, b, c, d, e]) : ∀ us : List Value, us.length = 5 -> P us := by
 intro us hl
 cases us with
 | nil => simp at hl
 | cons a r => exact ln4 (P := fun r => P (a :: r)) (h a) r (by simpa using hl)
theorem all_mk {P : Program} {w : World} {K : W.Frag} {mg : Str -> Option Value} {fa : Addr} (hfa : mg "law" = some (.ref fa)) (T : Txt mg)
  (e_is_number : Hd.FnAt K mg "is_number" s_qbu)
  (e_is_number_below : Hd.FnAt K mg "is_number_below" s_qbv)
  (e_is_row_of : Hd.FnAt K mg "is_row_of" s_qca)
  (e_is_word : Hd.FnAt K mg "is_word" s_qcb)
  (e_is_clause_number : Hd.FnAt K mg "is_clause_number" s_qbq)
  (e_is_bare : Hd.FnAt K mg "is_bare" s_qbp)
  (e_is_of_word : Hd.FnAt K mg "is_of_word" s_qbz)
  (e_is_of_clause : Hd.FnAt K mg "is_of_clause" s_qbw)
  (e_is_of_part : Hd.FnAt K mg "is_of_part" s_qby)
  (e_is_of_house : Hd.FnAt K mg "is_of_house" s_qbx)
  (e_is_deed : Hd.FnAt K mg "is_deed" s_qbr)
  (e_is_letter_name : Hd.FnAt K mg "is_letter_name" s_qbt)
  (e_are_gots : Hd.FnAt K mg "are_gots" s_qbo)
  (e_is_letter : Hd.FnAt K mg "is_letter" s_qbs)
  (e_name_of : Hd.FnAt K mg "name_of" s_qcd)
  (e__law_cell_at : Hd.FnAt K mg "_law_cell_at" s_qac)
  (e__law_left : Hd.FnAt K mg "_law_left" s_qas)
  (e__law_pick : Hd.FnAt K mg "_law_pick" s_qba)
  (e__law_words : Hd.FnAt K mg "_law_words" s_qbm)
  (e__law_forms : Hd.FnAt K mg "_law_forms" s_qag)
  (e__law_whole : Hd.FnAt K mg "_law_whole" s_qbk)
  (e__law_is_word : Hd.FnAt K mg "_law_is_word" s_qaq)
  (e__law_fits : Hd.FnAt K mg "_law_fits" s_qae)
  (e__law_is_deed : Hd.FnAt K mg "_law_is_deed" s_qak)
  (e__law_text : Hd.FnAt K mg "_law_text" s_qbi)
  (e__law_good : Hd.FnAt K mg "_law_good" s_qai)
  (e__law_number : Hd.FnAt K mg "_law_number" s_qaw)
  (e__law_is_name : Hd.FnAt K mg "_law_is_name" s_qao)
  (e__law_are_gots : Hd.FnAt K mg "_law_are_gots" s_qaa)
  (e__law_is_letter : Hd.FnAt K mg "_law_is_letter" s_qam)
  (e__law_pool : Hd.FnAt K mg "_law_pool" s_qbc)
  (e__law_letter : Hd.FnAt K mg "_law_letter" s_qau)
  (e__law_odd : Hd.FnAt K mg "_law_odd" s_qay)
  (e__law_spoilt : Hd.FnAt K mg "_law_spoilt" s_qbg)
  (e__law_right : Hd.FnAt K mg "_law_right" s_qbe)
  (e_law : Hd.FnAt K mg "law" s_law)
  {d_DEEDS : Addr} (tb_DEEDS : ∀ {f_qbp f_qbz f_qby f_qbw f_qbx : Addr}, mg "is_bare" = some (.ref f_qbp) -> mg "is_of_word" = some (.ref f_qbz) -> mg "is_of_part" = some (.ref f_qby) -> mg "is_of_clause" = some (.ref f_qbw) -> mg "is_of_house" = some (.ref f_qbx) -> mg "DEEDS" = some (.ref d_DEEDS) /\ TopD K w d_DEEDS (ZaB f_qbp f_qbz f_qby f_qbw f_qbx))
  : ∃ fd : FuncData, (∀ (s : Shared) (v : Value), BindsTo s fd ⟨[v], []⟩ [("_law_script", v)]) /\ ∀ base : Heap, FnOk P w K mg base CX0 8 fa fd ["_law_script"] (Hd.spLaw K) := by
 obtain ⟨f_qbu, fd_qbu, m_qbu, N_qbu⟩ := e_is_number
 have bd_qbu := N_qbu.binds (ps := ["thing", "least"]) fun _ _ _ _ _ _ => ln2 fun _ _ => rfl
 obtain ⟨f_qbv, fd_qbv, m_qbv, N_qbv⟩ := e_is_number_below
 have bd_qbv := N_qbv.binds (ps := ["thing", "bound"]) fun _ _ _ _ _ _ => ln2 fun _ _ => rfl
 obtain ⟨f_qca, fd_qca, m_qca, N_qca⟩ := e_is_row_of
 have bd_qca := N_qca.binds (ps := ["thing", "least", "most"]) fun _ _ _ _ _ _ => ln3 fun _ _ _ => rfl
 obtain ⟨f_qcb, fd_qcb, m_qcb, N_qcb⟩ := e_is_word
 have bd_qcb := N_qcb.binds (ps := ["thing"]) fun _ _ _ _ _ _ => ln1 fun _ => rfl
 obtain ⟨f_qbq, fd_qbq, m_qbq, N_qbq⟩ := e_is_clause_number
 have bd_qbq := N_qbq.binds (ps := ["thing"]) fun _ _ _ _ _ _ => ln1 fun _ => rfl
 obtain ⟨f_qbp, fd_qbp, m_qbp, N_qbp⟩ := e_is_bare
 have bd_qbp := N_qbp.binds (ps := ["parts"]) fun _ _ _ _ _ _ => ln1 fun _ => rfl
 obtain ⟨f_qbz, fd_qbz, m_qbz, N_qbz⟩ := e_is_of_word
 have bd_qbz := N_qbz.binds (ps := ["parts"]) fun _ _ _ _ _ _ => ln1 fun _ => rfl
 obtain ⟨f_qbw, fd_qbw, m_qbw, N_qbw⟩ := e_is_of_clause
 have bd_qbw := N_qbw.binds (ps := ["parts"]) fun _ _ _ _ _ _ => ln1 fun _ => rfl
 obtain ⟨f_qby, fd_qby, m_qby, N_qby⟩ := e_is_of_part
 have bd_qby := N_qby.binds (ps := ["parts"]) fun _ _ _ _ _ _ => ln1 fun _ => rfl
 obtain ⟨f_qbx, fd_qbx, m_qbx, N_qbx⟩ := e_is_of_house
 have bd_qbx := N_qbx.binds (ps := ["parts"]) fun _ _ _ _ _ _ => ln1 fun _ => rfl
 obtain ⟨f_qbr, fd_qbr, m_qbr, N_qbr⟩ := e_is_deed
 have bd_qbr := N_qbr.binds (ps := ["thing"]) fun _ _ _ _ _ _ => ln1 fun _ => rfl
 obtain ⟨f_qbt, fd_qbt, m_qbt, N_qbt⟩ := e_is_letter_name
 have bd_qbt := N_qbt.binds (ps := ["thing"]) fun _ _ _ _ _ _ => ln1 fun _ => rfl
 obtain ⟨f_qbo, fd_qbo, m_qbo, N_qbo⟩ := e_are_gots
 have bd_qbo := N_qbo.binds (ps := ["thing", "house", "deal"]) fun _ _ _ _ _ _ => ln3 fun _ _ _ => rfl
 obtain ⟨f_qbs, fd_qbs, m_qbs, N_qbs⟩ := e_is_letter
 have bd_qbs := N_qbs.binds (ps := ["thing"]) fun _ _ _ _ _ _ => ln1 fun _ => rfl
 obtain ⟨f_qcd, fd_qcd, m_qcd, N_qcd⟩ := e_name_of
 have bd_qcd := N_qcd.binds (ps := ["letter"]) fun _ _ _ _ _ _ => ln1 fun _ => rfl
 obtain ⟨f_qac, fd_qac, m_qac, N_qac⟩ := e__law_cell_at
 have bd_qac := N_qac.binds (ps := ["_law_script", "_law_k"]) fun _ _ _ _ _ _ => ln2 fun _ _ => rfl
 obtain ⟨f_qas, fd_qas, m_qas, N_qas⟩ := e__law_left
 have bd_qas := N_qas.binds (ps := ["_law_script", "_law_k"]) fun _ _ _ _ _ _ => ln2 fun _ _ => rfl
 obtain ⟨f_qba, fd_qba, m_qba, N_qba⟩ := e__law_pick
 have bd_qba := N_qba.binds (ps := ["_law_left_here", "_law_many"]) fun _ _ _ _ _ _ => ln2 fun _ _ => rfl
 obtain ⟨f_qbm, fd_qbm, m_qbm, N_qbm⟩ := e__law_words
 have bd_qbm := N_qbm.binds (ps := ["_law_left_here", "_law_many"]) fun _ _ _ _ _ _ => ln2 fun _ _ => rfl
 obtain ⟨f_qag, fd_qag, m_qag, N_qag⟩ := e__law_forms
 have bd_qag := N_qag.binds (ps := []) fun _ _ _ _ _ _ us hl => match us, hl with | [], _ => rfl
 obtain ⟨f_qbk, fd_qbk, m_qbk, N_qbk⟩ := e__law_whole
 have bd_qbk := N_qbk.binds (ps := ["_law_thing", "_law_least", "_law_most"]) fun _ _ _ _ _ _ => ln3 fun _ _ _ => rfl
 obtain ⟨f_qaq, fd_qaq, m_qaq, N_qaq⟩ := e__law_is_word
 have bd_qaq := N_qaq.binds (ps := ["_law_thing"]) fun _ _ _ _ _ _ => ln1 fun _ => rfl
 obtain ⟨f_qae, fd_qae, m_qae, N_qae⟩ := e__law_fits
 have bd_qae := N_qae.binds (ps := ["_law_sign", "_law_thing"]) fun _ _ _ _ _ _ => ln2 fun _ _ => rfl
 obtain ⟨f_qak, fd_qak, m_qak, N_qak⟩ := e__law_is_deed
 have bd_qak := N_qak.binds (ps := ["_law_thing"]) fun _ _ _ _ _ _ => ln1 fun _ => rfl
 obtain ⟨f_qbi, fd_qbi, m_qbi, N_qbi⟩ := e__law_text
 have bd_qbi := N_qbi.binds (ps := ["_law_left_here"]) fun _ _ _ _ _ _ => ln1 fun _ => rfl
 obtain ⟨f_qai, fd_qai, m_qai, N_qai⟩ := e__law_good
 have bd_qai := N_qai.binds (ps := ["_law_left_here"]) fun _ _ _ _ _ _ => ln1 fun _ => rfl
 obtain ⟨f_qaw, fd_qaw, m_qaw, N_qaw⟩ := e__law_number
 have bd_qaw := N_qaw.binds (ps := ["_law_left_here", "_law_least"]) fun _ _ _ _ _ _ => ln2 fun _ _ => rfl
 obtain ⟨f_qao, fd_qao, m_qao, N_qao⟩ := e__law_is_name
 have bd_qao := N_qao.binds (ps := ["_law_thing"]) fun _ _ _ _ _ _ => ln1 fun _ => rfl
 obtain ⟨f_qaa, fd_qaa, m_qaa, N_qaa⟩ := e__law_are_gots
 have bd_qaa := N_qaa.binds (ps := ["_law_thing", "_law_house", "_law_deal"]) fun _ _ _ _ _ _ => ln3 fun _ _ _ => rfl
 obtain ⟨f_qam, fd_qam, m_qam, N_qam⟩ := e__law_is_letter
 have bd_qam := N_qam.binds (ps := ["_law_thing"]) fun _ _ _ _ _ _ => ln1 fun _ => rfl
 obtain ⟨f_qbc, fd_qbc, m_qbc, N_qbc⟩ := e__law_pool
 have bd_qbc := N_qbc.binds (ps := ["_law_left_here", "_law_words_here", "_law_house", "_law_deal", "_law_many"]) fun _ _ _ _ _ _ => ln5 fun _ _ _ _ _ => rfl
 obtain ⟨f_qau, fd_qau, m_qau, N_qau⟩ := e__law_letter
 have bd_qau := N_qau.binds (ps := ["_law_left_here", "_law_words_here"]) fun _ _ _ _ _ _ => ln2 fun _ _ => rfl
 obtain ⟨f_qay, fd_qay, m_qay, N_qay⟩ := e__law_odd
 have bd_qay := N_qay.binds (ps := ["_law_left_here"]) fun _ _ _ _ _ _ => ln1 fun _ => rfl
 obtain ⟨f_qbg, fd_qbg, m_qbg, N_qbg⟩ := e__law_spoilt
 have bd_qbg := N_qbg.binds (ps := ["_law_left_here", "_law_letter_here"]) fun _ _ _ _ _ _ => ln2 fun _ _ => rfl
 obtain ⟨f_qbe, fd_qbe, m_qbe, N_qbe⟩ := e__law_right
 have bd_qbe := N_qbe.binds (ps := ["_law_thing"]) fun _ _ _ _ _ _ => ln1 fun _ => rfl
 obtain ⟨f_law, fd_law, m_law, N_law⟩ := e_law
 obtain ⟨m_DEEDS, TD_DEEDS⟩ := tb_DEEDS m_qbp m_qbz m_qby m_qbw m_qbx
 have e := hfa.symm.trans m_law; cases e
 have hb : ∀ (s : Shared) (v : Value), BindsTo s fd_law ⟨[v], []⟩ [("_law_script", v)] := by
  obtain ⟨oc, od, kV, doc, pm, an, cdv, ct, osl, rfl, lk, hcd⟩ := N_law.ex
  exact fun s v => .of_eq rfl
 refine ⟨fd_law, hb, fun base => ?_⟩
 have E_qbu := ok_qbu (P := P) (w := w) (base := base) N_qbu T 
 have E_qbv := ok_qbv (P := P) (w := w) (base := base) N_qbv T E_qbu m_qbu N_qbu.kp bd_qbu
 have E_qca := ok_qca (P := P) (w := w) (base := base) N_qca T 
 have E_qcb := ok_qcb (P := P) (w := w) (base := base) N_qcb T 
 have E_qbq := ok_qbq (P := P) (w := w) (base := base) N_qbq T E_qbv m_qbv N_qbv.kp bd_qbv
 have E_qbp := ok_qbp (P := P) (w := w) (base := base) N_qbp T 
 have E_qbz := ok_qbz (P := P) (w := w) (base := base) N_qbz T E_qcb m_qcb N_qcb.kp bd_qcb
 have E_qbw := ok_qbw (P := P) (w := w) (base := base) N_qbw T E_qbq m_qbq N_qbq.kp bd_qbq
 have E_qby := ok_qby (P := P) (w := w) (base := base) N_qby T E_qbq m_qbq N_qbq.kp bd_qbq E_qbv m_qbv N_qbv.kp bd_qbv
 have E_qbx := ok_qbx (P := P) (w := w) (base := base) N_qbx T E_qbq m_qbq N_qbq.kp bd_qbq E_qcb m_qcb N_qcb.kp bd_qcb
 have E_qbr := ok_qbr (P := P) (w := w) (base := base) N_qbr T m_DEEDS TD_DEEDS E_qbp m_qbp N_qbp.kp bd_qbp E_qbz m_qbz N_qbz.kp bd_qbz E_qby m_qby N_qby.kp bd_qby E_qbw m_qbw N_qbw.kp bd_qbw E_qbx m_qbx N_qbx.kp bd_qbx
 have E_qbt := ok_qbt (P := P) (w := w) (base := base) N_qbt T E_qca m_qca N_qca.kp bd_qca E_qcb m_qcb N_qcb.kp bd_qcb E_qbu m_qbu N_qbu.kp bd_qbu
 have E_qbo := ok_qbo (P := P) (w := w) (base := base) N_qbo T E_qca m_qca N_qca.kp bd_qca E_qbt m_qbt N_qbt.kp bd_qbt
 have E_qbs := ok_qbs (P := P) (w := w) (base := base) N_qbs T E_qca m_qca N_qca.kp bd_qca E_qbt m_qbt N_qbt.kp bd_qbt E_qbu m_qbu N_qbu.kp bd_qbu E_qbo m_qbo N_qbo.kp bd_qbo E_qbr m_qbr N_qbr.kp bd_qbr
 have E_qcd := ok_qcd (P := P) (w := w) (base := base) N_qcd T 
 have E_qac := ok_qac (P := P) (w := w) (base := base) N_qac T 
 have E_qas := ok_qas (P := P) (w := w) (base := base) N_qas T E_qac m_qac N_qac.kp bd_qac
 have EF_qas := okF_qas (P := P) (w := w) (base := base) N_qas T E_qac m_qac N_qac.kp bd_qac
 have E_qba := ok_qba (P := P) (w := w) (base := base) N_qba T 
 have E_qbm := ok_qbm (P := P) (w := w) (base := base) N_qbm T E_qba m_qba N_qba.kp bd_qba
 have E_qag := ok_qag (P := P) (w := w) (base := base) N_qag T 
 have E_qbk := ok_qbk (P := P) (w := w) (base := base) N_qbk T 
 have E_qaq := ok_qaq (P := P) (w := w) (base := base) N_qaq T 
 have E_qae := ok_qae (P := P) (w := w) (base := base) N_qae T E_qaq m_qaq N_qaq.kp bd_qaq E_qbk m_qbk N_qbk.kp bd_qbk
 have E_qak := ok_qak (P := P) (w := w) (base := base) N_qak T E_qag m_qag N_qag.kp bd_qag E_qae m_qae N_qae.kp bd_qae
 have E_qbi := ok_qbi (P := P) (w := w) (base := base) N_qbi T E_qba m_qba N_qba.kp bd_qba
 have E_qai := ok_qai (P := P) (w := w) (base := base) N_qai T E_qba m_qba N_qba.kp bd_qba E_qag m_qag N_qag.kp bd_qag E_qbi m_qbi N_qbi.kp bd_qbi
 have E_qaw := ok_qaw (P := P) (w := w) (base := base) N_qaw T E_qba m_qba N_qba.kp bd_qba
 have E_qao := ok_qao (P := P) (w := w) (base := base) N_qao T E_qaq m_qaq N_qaq.kp bd_qaq E_qbk m_qbk N_qbk.kp bd_qbk
 have E_qaa := ok_qaa (P := P) (w := w) (base := base) N_qaa T E_qao m_qao N_qao.kp bd_qao
 have E_qam := ok_qam (P := P) (w := w) (base := base) N_qam T E_qaq m_qaq N_qaq.kp bd_qaq E_qbk m_qbk N_qbk.kp bd_qbk E_qaa m_qaa N_qaa.kp bd_qaa E_qak m_qak N_qak.kp bd_qak
 have E_qbc := ok_qbc (P := P) (w := w) (base := base) N_qbc T E_qaw m_qaw N_qaw.kp bd_qaw E_qba m_qba N_qba.kp bd_qba
 have E_qau := ok_qau (P := P) (w := w) (base := base) N_qau T E_qba m_qba N_qba.kp bd_qba E_qbc m_qbc N_qbc.kp bd_qbc E_qai m_qai N_qai.kp bd_qai E_qaw m_qaw N_qaw.kp bd_qaw
 have E_qay := ok_qay (P := P) (w := w) (base := base) N_qay T E_qba m_qba N_qba.kp bd_qba
 have E_qbg := ok_qbg (P := P) (w := w) (base := base) N_qbg T E_qba m_qba N_qba.kp bd_qba E_qay m_qay N_qay.kp bd_qay
 have E_qbe := ok_qbe (P := P) (w := w) (base := base) N_qbe T E_qbs m_qbs N_qbs.kp bd_qbs E_qam m_qam N_qam.kp bd_qam
 have E_law := ok_law (P := P) (w := w) (base := base) N_law T E_qbe m_qbe N_qbe.kp bd_qbe EF_qas m_qas N_qas.kp bd_qas E_qbm m_qbm N_qbm.kp bd_qbm E_qau m_qau N_qau.kp bd_qau E_qbs m_qbs N_qbs.kp bd_qbs E_qcd m_qcd N_qcd.kp bd_qcd E_qay m_qay N_qay.kp bd_qay E_qbg m_qbg N_qbg.kp bd_qbg
 exact E_law.imp (Hd.spLaw_lift fun ns hl => law_pure ⟨ZbG N_qbz N_qbp (by decide), ZbG N_qby N_qbp (by decide), ZbG N_qby N_qbz (by decide), ZbG N_qbw N_qbp (by decide), ZbG N_qbw N_qbz (by decide), ZbG N_qbw N_qby (by decide), ZbG N_qbx N_qbp (by decide), ZbG N_qbx N_qbz (by decide), ZbG N_qbx N_qby (by decide), ZbG N_qbx N_qbw (by decide)⟩ ns hl)
noncomputable def bl : List Str := ["all", "bool", "dict", "int", "isinstance", "len", "list", "max", "range", "sorted", "str", "tuple", "zip"]
theorem hbl : bl.all (fun x => !Hd.isHere qv (W.looseW qv ["DEEDS"]) x) = true := by kernel_rfl
theorem said : PySem.Challenge.rw_holdword_k13_letters.wellSaid = true := by kernel_rfl
end K13
open PySem PySem.W PyProof.Rows
set_option maxRecDepth 100000 in
set_option maxHeartbeats 0 in
theorem PySem.Challenge.cw_holdword_k13_letters_holds : PySem.Challenge.rw_holdword_k13_letters.Holds := by
 refine holds_law K13.said fun said => ?_
 refine holds_open (q := K13.qv) (loose := ["DEEDS"]) (Xt := fun s => xlAt K13.qv [] s && recOk [] s) (XP := XL K13.qv []) (YP := K13.hk.says) K13.hl (Hook.of K13.hk) (Hook.keeps K13.hk) (fun s e => xl_of s (Bool.and_eq_true_iff.mp e).1) XL.keeps (d := ⟨"law", L2.defArgs K13.s_law, L2.defBody K13.s_law, L2.defScope K13.s_law, Hd.defPos K13.s_law⟩) (kwd := []) (by kernel_rfl) (by kernel_rfl) (by kernel_rfl) (fun s e => recFacts_of (Bool.and_eq_true_iff.mp e).2) (by rfl) said (by kernel_rfl) ⟨rfl, rfl, rfl, rfl, rfl, by decide +kernel⟩ ⟨[.list []], by decide +kernel, by decide +kernel⟩ ?_
 refine Hd.walk (k := 8) rfl rfl ⟨rfl, by decide, by decide⟩ [83] fun w s₀ mg mb h as G Y h0 A fa hmg => ?_
 refine K13.all_mk hmg ⟨Hd.str_of (G.T.const "JUDGE" (.str "bell") (by kernel_rfl)), Hd.int_of (G.T.const "LONGEST_WORD" (.int 12) (by kernel_rfl)), Hd.int_of (G.T.const "MOST_CLAUSES" (.int 12) (by kernel_rfl)), Hd.int_of (G.T.const "MOST_GOTS" (.int 30) (by kernel_rfl)), Hd.int_of (G.T.const "MOST_PARTS" (.int 9) (by kernel_rfl)), Hd.str_of (G.T.const "SMALL_LETTERS" (.str "abcdefghijklmnopqrstuvwxyz") (by kernel_rfl)), Hd.nones G.T K13.hbl 0 rfl, Hd.nones G.T K13.hbl 1 rfl, Hd.nones G.T K13.hbl 2 rfl, Hd.nones G.T K13.hbl 3 rfl, Hd.nones G.T K13.hbl 4 rfl, Hd.nones G.T K13.hbl 5 rfl, Hd.nones G.T K13.hbl 6 rfl, Hd.nones G.T K13.hbl 7 rfl, Hd.nones G.T K13.hbl 8 rfl, Hd.nones G.T K13.hbl 9 rfl, Hd.nones G.T K13.hbl 10 rfl, Hd.nones G.T K13.hbl 11 rfl, Hd.nones G.T K13.hbl 12 rfl⟩ (Hd.fn_at A K13.sts_ok 0 rfl) (Hd.fn_at A K13.sts_ok 1 rfl) (Hd.fn_at A K13.sts_ok 2 rfl) (Hd.fn_at A K13.sts_ok 3 rfl) (Hd.fn_at A K13.sts_ok 4 rfl) (Hd.fn_at A K13.sts_ok 5 rfl) (Hd.fn_at A K13.sts_ok 6 rfl) (Hd.fn_at A K13.sts_ok 7 rfl) (Hd.fn_at A K13.sts_ok 8 rfl) (Hd.fn_at A K13.sts_ok 9 rfl) (Hd.fn_at A K13.sts_ok 10 rfl) (Hd.fn_at A K13.sts_ok 11 rfl) (Hd.fn_at A K13.sts_ok 12 rfl) (Hd.fn_at A K13.sts_ok 13 rfl) (Hd.fn_at A K13.sts_ok 14 rfl) (Hd.fn_at A K13.sts_ok 15 rfl) (Hd.fn_at A K13.sts_ok 16 rfl) (Hd.fn_at A K13.sts_ok 17 rfl) (Hd.fn_at A K13.sts_ok 18 rfl) (Hd.fn_at A K13.sts_ok 19 rfl) (Hd.fn_at A K13.sts_ok 20 rfl) (Hd.fn_at A K13.sts_ok 21 rfl) (Hd.fn_at A K13.sts_ok 22 rfl) (Hd.fn_at A K13.sts_ok 23 rfl) (Hd.fn_at A K13.sts_ok 24 rfl) (Hd.fn_at A K13.sts_ok 25 rfl) (Hd.fn_at A K13.sts_ok 26 rfl) (Hd.fn_at A K13.sts_ok 27 rfl) (Hd.fn_at A K13.sts_ok 28 rfl) (Hd.fn_at A K13.sts_ok 29 rfl) (Hd.fn_at A K13.sts_ok 30 rfl) (Hd.fn_at A K13.sts_ok 31 rfl) (Hd.fn_at A K13.sts_ok 32 rfl) (Hd.fn_at A K13.sts_ok 33 rfl) (Hd.fn_at A K13.sts_ok 34 rfl) (Hd.fn_at A K13.sts_ok 35 rfl) (K13.td_DEEDS G.T.g Y (h0 _ (by simp)))