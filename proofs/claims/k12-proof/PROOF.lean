import PyProof.Rows.All
import Wide.All
import OpenK.AllK
import Wide.FinOn
import Lean
import PyProof.EqAt
import PyProof.EqKinds
import PyProof.TupleCall
import PySem.Challenge.RW_holdword_k12_deeds
set_option Elab.async false
set_option linter.all false
set_option maxRecDepth 100000
namespace L2
open PySem PySem.Spec PyProof.Rows
abbrev Key := Sum Int Str
def keyIs : Key → Value → Bool
  | .inl k, v => Value.isInt k v
  | .inr x, v => Value.isStrOf x v
def keyH (w : World) : Key → Int
  | .inl k => hashInt k
  | .inr x => hashStr w x
theorem keyIs_shape : ∀ {k : Key} {v : Value}, keyIs k v = true → (∃ i t, k = Sum.inl i ∧ v = Value.int i t) ∨ (∃ x t, k = Sum.inr x ∧ v = Value.str x t)
  | .inl i, v, h => by
    obtain ⟨t, e⟩ := Value.isInt_shape (k := i) (v := v) h
    exact .inl ⟨i, t, rfl, e⟩
  | .inr x, v, h => by
    obtain ⟨t, e⟩ := Value.isStrOf_shape (x := x) (v := v) h
    exact .inr ⟨x, t, rfl, e⟩
theorem keyIs_int (i : Int) (t : Tok) : keyIs (.inl i) (.int i t) = true := by simp [keyIs, Value.isInt]
theorem keyIs_str (x : Str) (t : Tok) : keyIs (.inr x) (.str x t) = true := by simp [keyIs, Value.isStrOf]
theorem key_ll (a b : Int) : decide ((Sum.inl a : Key) = Sum.inl b) = (a == b) := by
  by_cases e : a = b
  · subst e; simp
  · have h : ¬ (Sum.inl a : Key) = Sum.inl b := fun q => e (Sum.inl.inj q)
    rw [decide_eq_false h]
    exact (beq_eq_false_iff_ne.mpr e).symm
theorem key_rr (a b : Str) : decide ((Sum.inr a : Key) = Sum.inr b) = decide (a = b) := by
  by_cases e : a = b
  · subst e; simp
  · have h : ¬ (Sum.inr a : Key) = Sum.inr b := fun q => e (Sum.inr.inj q)
    rw [decide_eq_false h, decide_eq_false e]
theorem key_lr (a : Int) (b : Str) : decide ((Sum.inl a : Key) = Sum.inr b) = false := decide_eq_false (fun q => nomatch q)
theorem key_rl (a : Str) (b : Int) : decide ((Sum.inr a : Key) = Sum.inl b) = false := decide_eq_false (fun q => nomatch q)
def mixKind (prog : Program) (w : World) : PySem.KeyKind prog w Key where
  is := keyIs
  hash := keyH w
  inj := fun v a b ha hb => by
    rcases keyIs_shape ha with ⟨i, t, rfl, rfl⟩ | ⟨x, t, rfl, rfl⟩
    · rcases keyIs_shape hb with ⟨j, u, rfl, e⟩ | ⟨y, u, rfl, e⟩
      · injection e with e1 _; rw [e1]
      · exact nomatch e
    · rcases keyIs_shape hb with ⟨j, u, rfl, e⟩ | ⟨y, u, rfl, e⟩
      · exact nomatch e
      · injection e with e1 _; rw [e1]
  byValue := fun k v h => by
    rcases keyIs_shape h with ⟨i, t, rfl, rfl⟩ | ⟨x, t, rfl, rfl⟩ <;> rfl
  pyHash := fun hv h => by
    rcases keyIs_shape hv with ⟨i, t, rfl, rfl⟩ | ⟨x, t, rfl, rfl⟩
    · exact wpAny_pyHash_int h
    · exact wpAny_pyHash_str h
  eqBool := fun hu hv h => by
    rcases keyIs_shape hu with ⟨i, t, rfl, rfl⟩ | ⟨x, t, rfl, rfl⟩
    · rcases keyIs_shape hv with ⟨j, u, rfl, rfl⟩ | ⟨y, u, rfl, rfl⟩
      · rw [key_ll] at h; exact wpAny_eqBool_int h
      · rw [key_lr] at h; exact SeqAt.EqAt.int_str i t y u _ _ _ _ h
    · rcases keyIs_shape hv with ⟨j, u, rfl, rfl⟩ | ⟨y, u, rfl, rfl⟩
      · rw [key_rl] at h; exact SeqAt.EqAt.str_int x t j u _ _ _ _ h
      · rw [key_rr] at h; exact wpAny_eqBool_str h
  «strs» := fun k x t v h => by
    rcases keyIs_shape h with ⟨i, u, rfl, e⟩ | ⟨y, u, rfl, e⟩
    · exact nomatch e
    · injection e with e1 _
      subst e1
      cases v <;> rfl
theorem mixKind_is (prog : Program) (w : World) (k : Key) (v : Value) : (mixKind prog w).is k v = keyIs k v := rfl
theorem mixKind_int (prog : Program) (w : World) (i : Int) (t : Tok) : (mixKind prog w).is (.inl i) (.int i t) = true := keyIs_int i t
theorem mixKind_str (prog : Program) (w : World) (x : Str) (t : Tok) : (mixKind prog w).is (.inr x) (.str x t) = true := keyIs_str x t
end L2
namespace L2
open PySem PySem.Spec PyProof.Rows
inductive V where
  | non | bl (b : Bool) | int (i : Int) | str (x : Str) | byt (b : Array UInt8) | flt (b : UInt64) | ref (a : Addr) | ty (n : String)
  deriving DecidableEq
def RelV : V → Value → Prop
  | .non, u => u = Value.none
  | .bl b, u => u = Value.bool b
  | .int i, u => ∃ t, u = Value.int i t
  | .str x, u => ∃ t, u = Value.str x t
  | .byt b, u => ∃ t, u = Value.bytes b t
  | .flt b, u => ∃ t, u = Value.float b t
  | .ref a, u => u = Value.ref a
  | .ty n, u => u = Value.type n
abbrev Vals : List V → List Value → Prop := Paired RelV
theorem Vals.length {xs : List V} {us : List Value} (r : Vals xs us) : xs.length = us.length := Paired.length r
theorem Vals.get : ∀ {xs : List V} {us : List Value} {i : Nat} {x : V}, Vals xs us → xs[i]? = some x → ∃ u, us[i]? = some u ∧ RelV x u
  | _, _, _, _, .nil, e => by simp at e
  | _, _, 0, _, .cons r _, e => by simp at e; subst e; exact ⟨_, rfl, r⟩
  | _, _, i + 1, x, .cons _ t, e => by
    obtain ⟨u, h1, h2⟩ := Vals.get (i := i) (x := x) t (by simpa using e)
    exact ⟨u, by simpa using h1, h2⟩
theorem Vals.set {x : V} {u : Value} (r : RelV x u) : ∀ {xs : List V} {us : List Value} (i : Nat), Vals xs us → Vals (xs.set i x) (us.set i u)
  | _, _, _, .nil => .nil
  | _, _, 0, .cons _ t => .cons r t
  | _, _, i + 1, .cons q t => .cons q (Vals.set r i t)
theorem Vals.append : ∀ {xs ys : List V} {us ws : List Value}, Vals xs us → Vals ys ws → Vals (xs ++ ys) (us ++ ws)
  | _, _, _, _, .nil, s => s
  | _, _, _, _, .cons r t, s => .cons r (Vals.append t s)
theorem Vals.take : ∀ {xs : List V} {us : List Value} (n : Nat), Vals xs us → Vals (xs.take n) (us.take n)
  | _, _, 0, _ => .nil
  | _, _, _ + 1, .nil => .nil
  | _, _, n + 1, .cons r t => .cons r (Vals.take n t)
theorem Vals.drop : ∀ {xs : List V} {us : List Value} (n : Nat), Vals xs us → Vals (xs.drop n) (us.drop n)
  | _, _, 0, r => r
  | _, _, _ + 1, .nil => .nil
  | _, _, n + 1, .cons _ t => Vals.drop n t
theorem Vals.none_of : ∀ {xs : List V} {us : List Value} {i : Nat}, Vals xs us → xs[i]? = none → us[i]? = none := fun {xs us i} r e => by
  have h1 := r.length
  have h2 : xs.length ≤ i := List.getElem?_eq_none_iff.mp e
  exact List.getElem?_eq_none_iff.mpr (by omega)
def RelO : Option V → Option Value → Prop
  | some v, some u => RelV v u
  | none, none => True
  | _, _ => False
def KV {κ : Type} : List (κ × V) → List (κ × Value) → Prop := Paired fun (p : κ × V) (q : κ × Value) => p.1 = q.1 ∧ RelV p.2 q.2
def kV : Key → V
  | .inl i => .int i
  | .inr x => .str x
inductive HO where
    | lst (xs : List V)
    | tup (xs : List V)
    | dK (kvs : List (Key × V)) | dT (kvs : List (List Key × V))
    | set (S : Int → Bool) (n : Nat)
    | ins (C dx : Addr) (fs : List (Str × V))
    | own (x : Addr)
    | xd (fs : List (Str × V))
    | met (f x : Addr)
    | rng (lo hi : Int)
    | frz (o : Obj) (u : HO)
    | tbl (ps : Array Value)
    | ext (φ : Heap → Prop)
abbrev Hp := Addr → Option HO
def upd (H : Hp) (a : Addr) (o : HO) : Hp := fun b => if b = a then some o else H b
theorem upd_same {H : Hp} {a : Addr} {o : HO} : upd H a o a = some o := by unfold upd; rw [if_pos rfl]
theorem upd_ne {H : Hp} {a b : Addr} {o : HO} (h : b ≠ a) : upd H a o b = H b := by unfold upd; rw [if_neg h]
theorem upd_upd {H : Hp} {a : Addr} {o u : HO} : upd (upd H a o) a u = upd H a u := by
  funext b; unfold upd; split <;> rfl
theorem ne_of {H : Hp} {a b : Addr} {o u : HO} (h : H a = some o) (h' : H b = some u) (d : o ≠ u) : a ≠ b := by
  intro e; subst e; rw [h] at h'; exact d (Option.some.inj h')
theorem ne_of_none {H : Hp} {a b : Addr} {o : HO} (h : H a = some o) (h' : H b = none) : a ≠ b := by
  intro e; subst e; rw [h] at h'; cases h'
section
variable (P : Program) (w : World)
def ObjOk (H : Hp) (h : Heap) (a : Addr) : HO → Prop
  | .lst xs => xs.length ≤ sizeLine ∧ ∃ (its : List Value) (n : Nat), Vals xs its ∧ h.get? a = some { cls := .type "list", data := .seq its.toArray n }
  | .tup xs => xs.length ≤ sizeLine ∧ ∃ its : List Value, Vals xs its ∧ IsTup h a its.toArray
  | .dK kvs => kvs.length ≤ sizeLine ∧ (a == sysModules) = false ∧ ∃ vs, KV kvs vs ∧ h.DictOf (mixKind P w) a vs
  | .dT kvs => kvs.length ≤ sizeLine ∧ (a == sysModules) = false ∧ ∃ xs : List (List Key × Addr × Value),
      Paired (fun (p : List Key × V) (q : List Key × Addr × Value) => p.1 = q.1 ∧ H q.2.1 = some (.tup (p.1.map kV)) ∧ RelV p.2 q.2.2) kvs xs ∧
      ∃ o es ep, h.get? a = some o ∧ o.ExactDict ∧ o.data = .dict es ep ∧ es.toList = xs.map (entryOfKey (tupleKind (mixKind P w))) ∧ (xs.map (·.1)).Nodup
  | .set S n => h.SetOf (intKind P w) a S n
  | .ins C dx fs => H dx = some (.own a) ∧ fs.length ≤ 1000 ∧ dx ≠ a ∧ h.get? a = some (PySem.W.instObj C dx) ∧
      ∃ mA, h.Ns1 dx mA ∧ (∀ f, RelO (fs.lookup f) (mA f)) ∧ PySem.Within mA (fs.map (·.1))
  | .own _ => ∃ o, h.get? a = some o
  | .xd fs => ∃ mA, h.Ns1 a mA ∧ ∀ f, RelO (fs.lookup f) (mA f)
  | .rng lo hi => ∃ t u v, h.get? a = some { cls := .type "range", data := .fields #[.int lo t, .int hi u, .int 1 v] }
  | .frz o u => h.get? a = some o ∧ ObjOk H h a u
  | .tbl ps => h.get? a = some { cls := .none, data := .fields ps }
  | .met f x => h.get? a = some (PySem.W.methodObj (.ref f) (.ref x))
  | .ext φ => φ h ∧ (∃ o, h.get? a = some o) ∧ ∀ h1 h2 : Heap, φ h1 → (∀ o, h1.get? a = some o → h2.get? a = some o) → φ h2
def HOk (H : Hp) (h : Heap) : Prop := ∀ a o, H a = some o → ObjOk P w H h a o
end
section
variable {P : Program} {w : World} {H H' : Hp} {h h' : Heap} {a : Addr} {o : HO}
theorem ObjOk.lt (x : ObjOk P w H h a o) : a < h.objs.size := by
  cases o with
  | lst xs => obtain ⟨_, _, _, _, e⟩ := x; exact Heap.lt_size e
  | tup xs => obtain ⟨_, _, _, p⟩ := x; exact p.lt
  | dK kvs => obtain ⟨_, _, _, _, o, _, _, e, _⟩ := x; exact Heap.lt_size e
  | dT kvs => obtain ⟨_, _, _, _, o, _, _, e, _⟩ := x; exact Heap.lt_size e
  | set S n => obtain ⟨o, _, _, _, e, _⟩ := x; exact Heap.lt_size e
  | ins C dx fs => obtain ⟨_, _, _, e, _⟩ := x; exact Heap.lt_size e
  | own y => obtain ⟨_, e⟩ := x; exact Heap.lt_size e
  | xd fs => obtain ⟨_, ⟨_, _, _, e, _⟩, _⟩ := x; exact Heap.lt_size e
  | rng lo hi => obtain ⟨_, _, _, e⟩ := x; exact Heap.lt_size e
  | frz ob u => obtain ⟨e, _⟩ := x; exact Heap.lt_size e
  | tbl ps => exact Heap.lt_size (show h.get? a = some _ from x)
  | met f y => exact Heap.lt_size (show h.get? a = some _ from x)
  | ext φ => obtain ⟨_, ⟨_, e⟩, _⟩ := x; exact Heap.lt_size e
theorem Paired.mapP {α β : Type} {F G : α → β → Prop} : ∀ {l₁ : List α} {l₂ : List β}, Paired F l₁ l₂ → (∀ a b, F a b → G a b) → Paired G l₁ l₂
  | _, _, .nil, _ => .nil
  | _, _, .cons r t, f => .cons (f _ _ r) (Paired.mapP t f)
theorem Paired.imp' {α β : Type} {F G : α → β → Prop} (f : ∀ a b, F a b → G a b) {l₁ : List α} {l₂ : List β} (r : Paired F l₁ l₂) : Paired G l₁ l₂ := Paired.mapP r f
theorem ObjOk.stay (x : ObjOk P w H h a o) (k : ∀ b u, (b = a ∨ H b = some (.own a)) → h.get? b = some u → h'.get? b = some u)
    (ho : ∀ b, H b = some (.own a) → H' b = some (.own a)) (ht : ∀ b xs, H b = some (.tup xs) → H' b = some (.tup xs)) : ObjOk P w H' h' a o := by
  induction o with
  | lst xs => obtain ⟨z, its, n, r, e⟩ := x; exact ⟨z, its, n, r, k _ _ (.inl rfl) e⟩
  | tup xs => obtain ⟨z, its, r, ob, e, c⟩ := x; exact ⟨z, its, r, ob, k _ _ (.inl rfl) e, c⟩
  | dK kvs => obtain ⟨z, y, vs, r, ob, es, ep, e, c⟩ := x; exact ⟨z, y, vs, r, ob, es, ep, k _ _ (.inl rfl) e, c⟩
  | dT kvs =>
    obtain ⟨z, y, xs, r, ob, es, ep, e, c⟩ := x
    exact ⟨z, y, xs, Paired.mapP r fun p q z => ⟨z.1, ht _ _ z.2.1, z.2.2⟩, ob, es, ep, k _ _ (.inl rfl) e, c⟩
  | set S n => obtain ⟨ob, es, ep, t, e, c⟩ := x; exact ⟨ob, es, ep, t, k _ _ (.inl rfl) e, c⟩
  | ins C dx fs =>
    obtain ⟨d, z, ne, e, mA, ⟨od, es, ep, e2, c⟩, r⟩ := x
    exact ⟨ho _ d, z, ne, k _ _ (.inl rfl) e, mA, ⟨od, es, ep, k _ _ (.inr d) e2, c⟩, r⟩
  | own y => obtain ⟨ob, e⟩ := x; exact ⟨ob, k _ _ (.inl rfl) e⟩
  | xd fs => obtain ⟨mA, ⟨od, es, ep, e, c⟩, r⟩ := x; exact ⟨mA, ⟨od, es, ep, k _ _ (.inl rfl) e, c⟩, r⟩
  | rng lo hi => obtain ⟨t, u, v, e⟩ := x; exact ⟨t, u, v, k _ _ (.inl rfl) e⟩
  | frz ob u ih => obtain ⟨e, q⟩ := x; exact ⟨k _ _ (.inl rfl) e, ih q⟩
  | tbl ps =>
    have e : h.get? a = some { cls := .none, data := .fields ps } := x
    show h'.get? a = some { cls := .none, data := .fields ps }
    exact k a _ (.inl rfl) e
  | met f y =>
    have e : h.get? a = some (PySem.W.methodObj (.ref f) (.ref y)) := x
    show h'.get? a = some (PySem.W.methodObj (.ref f) (.ref y))
    exact k a _ (.inl rfl) e
  | ext φ => obtain ⟨p, ⟨o, e⟩, st⟩ := x; exact ⟨st _ _ p fun o q => k _ _ (.inl rfl) q, ⟨o, k _ _ (.inl rfl) e⟩, st⟩
theorem HOk.lt (x : HOk P w H h) (e : H a = some o) : a < h.objs.size := (x a o e).lt
theorem HOk.fresh (x : HOk P w H h) (e : h.objs.size ≤ a) : H a = none := by
  cases q : H a with
  | none => rfl
  | some u => exact absurd (Nat.lt_of_lt_of_le (x.lt q) e) (Nat.lt_irrefl _)
theorem HOk.kept (x : HOk P w H h) (k : ∀ b u, h.get? b = some u → h'.get? b = some u) : HOk P w H h' := fun a o e =>
  (x a o e).stay (fun b u _ q => k b u q) (fun _ q => q) fun _ _ q => q
theorem HOk.laid (x : HOk P w H h) (k : ∀ b u, h.get? b = some u → h'.get? b = some u) (hp : h.objs.size ≤ a) (new : ObjOk P w (upd H a o) h' a o) : HOk P w (upd H a o) h' := fun b u e => by
  have hn := x.fresh hp
  by_cases hb : b = a
  · subst hb; rw [upd_same] at e; cases e; exact new
  · rw [upd_ne hb] at e
    exact (x b u e).stay (fun c v _ q => k c v q) (fun c q => by rw [upd_ne (ne_of_none q hn)]; exact q) fun c xs q => by rw [upd_ne (ne_of_none q hn)]; exact q
end
def Rd (H : Hp) (a : Addr) (u : HO) : Prop := H a = some u ∨ ∃ o, H a = some (.frz o u)
theorem Rd.of {H : Hp} {a : Addr} {u : HO} (h : H a = some u) : Rd H a u := .inl h
theorem Rd.ok {P : Program} {w : World} {H : Hp} {h : Heap} {a : Addr} {u : HO} (r : Rd H a u) (x : HOk P w H h) : ObjOk P w H h a u := by
  rcases r with r | ⟨o, r⟩
  · exact x a u r
  · obtain ⟨_, q⟩ := x a _ r
    exact q
def Mut : Option HO → Prop
  | some (.lst _) => True
  | some (.dK _) => True
  | some (.dT _) => True
  | some (.set _ _) => True
  | some (.ins _ _ _) => True
  | some (.ext _) => True
  | _ => False
section
variable {P : Program} {w : World} {H : Hp} {h h' : Heap} {x e : Addr} {o' : HO}
theorem HOk.write (ok : HOk P w H h) (mu : Mut (H x)) (he : e = x ∨ H e = some (.own x)) (k : ∀ b u, b ≠ e → h.get? b = some u → h'.get? b = some u) (heo : ∃ u, h'.get? e = some u)
    (new : ObjOk P w (upd H x o') h' x o') : HOk P w (upd H x o') h' := fun b u q => by
  have nown : ∀ c y, H c = some (.own y) → c ≠ x := fun c y r z => by subst z; rw [r] at mu; exact mu
  have ntup : ∀ c xs, H c = some (.tup xs) → c ≠ x := fun c xs r z => by subst z; rw [r] at mu; exact mu
  by_cases hb : b = x
  · subst hb; rw [upd_same] at q; cases q; exact new
  · rw [upd_ne hb] at q
    by_cases hbe : b = e
    · have q' : H b = some (.own x) := by
        rcases he with z | z
        · exact absurd (hbe.trans z) hb
        · rw [hbe]; exact z
      rw [q] at q'; cases q'
      obtain ⟨v, hv⟩ := heo
      exact ⟨v, by rw [hbe]; exact hv⟩
    · refine (ok b u q).stay (fun c v hc r => k c v ?_ r) (fun c r => by rw [upd_ne (nown c b r)]; exact r) fun c xs r => by rw [upd_ne (ntup c xs r)]; exact r
      rcases hc with rfl | hc
      · exact hbe
      · rintro rfl
        rcases he with z | z
        · exact nown c b hc z
        · rw [hc] at z; cases z; exact hb rfl
end
structure Un (fs ex : List Addr) (H H' : Hp) (h h' : Heap) : Prop where
  keep : ∀ b o, h.get? b = some o → H b = none → b ∉ fs → b ∉ ex → h'.get? b = some o
  slot : ∀ b o, h.get? b = some o → H b = none → b ∈ fs → b ∉ ex → ∃ sl, h'.get? b = some { o with slots := sl }
  free : ∀ b o, h.get? b = some o → H b = none → b ∉ ex → H' b = none
  there : ∀ b o, h.get? b = some o → b ∉ ex → ∃ o', h'.get? b = some o'
  tups : ∀ b xs, H b = some (.tup xs) → H' b = some (.tup xs)
  frzs : ∀ b o u, H b = some (.frz o u) → H' b = some (.frz o u)
  tbls : ∀ b ps, H b = some (.tbl ps) → ∃ more, H' b = some (.tbl (ps ++ more))
section
variable {fs fs' ex ex' : List Addr} {H H1 H2 : Hp} {h h1 h2 h' : Heap} {a x e : Addr} {o : HO}
theorem Un.any (u : Un fs ex H H1 h h1) {b : Addr} {ob : Obj} (q : h.get? b = some ob) (n : H b = none) (hx : b ∉ ex) : ∃ sl, h1.get? b = some { ob with slots := sl } := by
  by_cases hb : b ∈ fs
  · exact u.slot b ob q n hb hx
  · exact ⟨ob.slots, u.keep b ob q n hb hx⟩
theorem Un.trans (a : Un fs ex H H1 h h1) (b : Un fs ex H1 H2 h1 h2) : Un fs ex H H2 h h2 where
  keep := fun c ob q n hc hx => b.keep c ob (a.keep c ob q n hc hx) (a.free c ob q n hx) hc hx
  slot := fun c ob q n hc hx => by
    obtain ⟨sl, e1⟩ := a.slot c ob q n hc hx
    obtain ⟨sl', e2⟩ := b.slot c _ e1 (a.free c ob q n hx) hc hx
    exact ⟨sl', e2⟩
  free := fun c ob q n hx => by
    obtain ⟨o', e1⟩ := a.there c ob q hx
    exact b.free c o' e1 (a.free c ob q n hx) hx
  there := fun c ob q hx => by
    obtain ⟨o', e1⟩ := a.there c ob q hx
    exact b.there c o' e1 hx
  tups := fun c xs q => b.tups c xs (a.tups c xs q)
  frzs := fun c ob xs q => b.frzs c ob xs (a.frzs c ob xs q)
  tbls := fun c ps q => by
    obtain ⟨m1, e1⟩ := a.tbls c ps q
    obtain ⟨m2, e2⟩ := b.tbls c _ e1
    exact ⟨m1 ++ m2, by rw [e2, Array.append_assoc]⟩
theorem Un.kept (k : ∀ b u, h.get? b = some u → h'.get? b = some u) : Un fs ex H H h h' :=
  ⟨fun b ob q _ _ _ => k b ob q, fun b ob q _ _ _ => ⟨ob.slots, k b ob q⟩, fun _ _ _ n _ => n, fun b ob q _ => ⟨ob, k b ob q⟩, fun _ _ q => q, fun _ _ _ q => q, fun _ ps q => ⟨#[], by rw [q]; simp⟩⟩
theorem Un.refl : Un fs ex H H h h := Un.kept fun _ _ q => q
theorem Un.laid (k : ∀ b u, h.get? b = some u → h'.get? b = some u) (hp : h.objs.size ≤ a) (hn : H a = none) : Un fs ex H (upd H a o) h h' where
  keep := fun b u q _ _ _ => k b u q
  slot := fun b u q _ _ _ => ⟨u.slots, k b u q⟩
  free := fun b u q n _ => by rw [upd_ne (Nat.ne_of_lt (Nat.lt_of_lt_of_le (Heap.lt_size q) hp))]; exact n
  there := fun b u q _ => ⟨u, k b u q⟩
  tups := fun b xs q => by rw [upd_ne (ne_of_none q hn)]; exact q
  frzs := fun b u xs q => by rw [upd_ne (ne_of_none q hn)]; exact q
  tbls := fun b ps q => ⟨#[], by rw [upd_ne (ne_of_none q hn), q]; simp⟩
theorem Un.write (mu : Mut (H x)) (he : e = x ∨ H e = some (.own x)) (k : ∀ b u, b ≠ e → h.get? b = some u → h'.get? b = some u) (heo : ∃ u, h'.get? e = some u) : Un fs ex H (upd H x o) h h' := by
  have hx : ∀ b, H b = none → b ≠ x := fun b n z => by subst z; rw [n] at mu; exact mu
  have hb : ∀ b, H b = none → b ≠ e := fun b n z => by
    subst z
    rcases he with r | r
    · exact hx b n r
    · rw [n] at r; cases r
  have hm : ∀ b u, H b = some u → ¬ Mut (some u) → b ≠ x := fun b u q nm z => by subst z; rw [q] at mu; exact nm mu
  refine ⟨fun b u q n _ _ => k b u (hb b n) q, fun b u q n _ _ => ⟨u.slots, k b u (hb b n) q⟩, fun b u q n _ => by rw [upd_ne (hx b n)]; exact n, fun b u q _ => ?_,
    fun b xs q => by rw [upd_ne (hm b _ q fun z => z)]; exact q, fun b u xs q => by rw [upd_ne (hm b _ q fun z => z)]; exact q, fun b ps q => ⟨#[], by rw [upd_ne (hm b _ q fun z => z), q]; simp⟩⟩
  by_cases hbe : b = e
  · subst hbe; exact heo
  · exact ⟨u, k b u hbe q⟩
theorem Un.mono (u : Un fs ex H H1 h h1) (hs : ∀ b ∈ fs, b ∈ fs') (hx : ∀ b ∈ ex, b ∈ ex') : Un fs' ex' H H1 h h1 :=
  ⟨fun b ob q n hb he => u.keep b ob q n (fun z => hb (hs b z)) fun z => he (hx b z), fun _ _ q n _ he => u.any q n fun z => he (hx _ z), fun b ob q n he => u.free b ob q n fun z => he (hx b z), fun b ob q he => u.there b ob q fun z => he (hx b z), u.tups, u.frzs, u.tbls⟩
end
def trk (h : Heap) (H : Hp) : List Addr := (List.range h.objs.size).filter fun a => (H a).isSome
def hidT (h : Heap) (H : Hp) : Heap := PySem.W.hideAll h (trk h H)
theorem hidT_size (h : Heap) (H : Hp) : (hidT h H).objs.size = h.objs.size := PySem.W.hideAll_size _ _
theorem hidT_get {h : Heap} {H : Hp} {b : Addr} {o : Obj} (e : h.get? b = some o) (n : H b = none) : (hidT h H).get? b = some o :=
  PySem.W.hideAll_get _ e fun hm => by
    have q : (H b).isSome = true := (List.mem_filter.mp hm).2
    rw [n] at q; simp at q
theorem of_hidT {h : Heap} {H : Hp} {b : Addr} {o : Obj} (e : (hidT h H).get? b = some o) : h.get? b = some o ∧ H b = none := by
  have e' : h.get? b = some o := PySem.W.of_hideAll (trk h H) e
  refine ⟨e', ?_⟩
  cases q : H b with
  | none => rfl
  | some x =>
    have hm : b ∈ trk h H := List.mem_filter.mpr ⟨List.mem_range.mpr (Heap.lt_size e'), by simp [q]⟩
    have z : (hidT h H).get? b = none := PySem.W.hideAll_none (trk h H) hm
    rw [z] at e; cases e
def allNews (g h : Heap) (L : Addr) : List (Addr × Obj) := (List.range h.objs.size).filterMap fun a => if a = L ∨ (g.get? a).isSome = true then none else (h.get? a).map fun o => (a, o)
theorem mem_allNews {g h : Heap} {L a : Addr} {o : Obj} (h1 : a ≠ L) (h2 : g.get? a = none) (h3 : h.get? a = some o) : (a, o) ∈ allNews g h L :=
  List.mem_filterMap.mpr ⟨a, List.mem_range.mpr (Heap.lt_size h3), by simp [h1, h2, h3]⟩
theorem of_mem_allNews {g h : Heap} {L : Addr} {p : Addr × Obj} (hp : p ∈ allNews g h L) : p.1 ≠ L ∧ g.get? p.1 = none ∧ h.get? p.1 = some p.2 := by
  obtain ⟨b, _, e⟩ := List.mem_filterMap.mp hp
  split at e
  · cases e
  · rename_i hn
    cases q : h.get? b with
    | none => rw [q] at e; simp at e
    | some u =>
      rw [q] at e
      simp only [Option.map_some, Option.some.injEq] at e
      subst e
      refine ⟨fun z => hn (.inl z), ?_, q⟩
      show g.get? b = none
      cases r : g.get? b with
      | none => rfl
      | some v => exact (hn (.inr (by simp [r]))).elim
def rest (g h : Heap) (L d : Addr) : List (Addr × Obj) := (allNews g h L).filter fun p => decide (p.1 ≠ d)
theorem rest_ne {g h : Heap} {L d : Addr} : ∀ p ∈ rest g h L d, p.1 ≠ d := fun p hp => of_decide_eq_true (List.mem_filter.mp hp).2
theorem mem_rest {g h : Heap} {L d a : Addr} {o : Obj} (h1 : a ≠ L) (h2 : g.get? a = none) (h3 : h.get? a = some o) (h4 : a ≠ d) : (a, o) ∈ rest g h L d :=
  List.mem_filter.mpr ⟨mem_allNews h1 h2 h3, decide_eq_true h4⟩
theorem news_all {g h : Heap} {L : Addr} : News g L h (allNews g h L) := fun p hp => let ⟨a, b, c⟩ := of_mem_allNews hp; ⟨c, a, b⟩
theorem news_at {g h : Heap} {L d : Addr} {o : Obj} (h1 : d ≠ L) (h2 : g.get? d = none) (h3 : h.get? d = some o) : News g L h ((d, o) :: rest g h L d) := fun p hp => by
  rcases List.mem_cons.mp hp with rfl | hp
  · exact ⟨h3, h1, h2⟩
  · exact news_all p (List.mem_filter.mp hp).1
theorem kept_of_news {g h h' : Heap} {L d : Addr} {m : Str → Option Value} (k : ∀ b o, g.get? b = some o → h.get? b = some o) (F : Fr g L h' m) (N : News g L h' (rest g h L d)) :
    ∀ b o, b ≠ L → b ≠ d → h.get? b = some o → h'.get? b = some o := fun b o h1 h2 e => by
  cases q : g.get? b with
  | some u =>
    have := k b u q
    rw [e] at this; cases this
    exact F.keep b _ q
  | none => exact (N (b, o) (mem_rest h1 q e h2)).1
end L2
namespace L2
open PySem PySem.Spec PyProof.Rows
structure Mod (K : PySem.W.Frag) (mg : Str → Option Value) (base : Heap) : Prop where
  kin : K.In base
  glob : base.Ns mainGlobals mg
  blt : ∃ mb, base.Ns builtinsNs mb ∧ ∀ x : Str, x ≠ "__name__" → mb x = bootBuiltins x
  nolimit : base.NoLimit
structure Cx where
  prog : Program
  w : World
  K : PySem.W.Frag
  mg : Str → Option Value
  base : Heap
  A : Around
  N : List Str
  s₀ : Shared
  H₀ : Hp
  env : Env
  outer : List Env
  stack : List Env
  ex : List Addr
  fn : Str → Bool
  calm : Bool
  pn : List (Addr × Obj)
  xe : Value → Shared → Prop
def frs (l : List Env) : List Addr := l.filterMap (·.frame)
abbrev Cx.fs (X : Cx) : List Addr := frs X.outer
def Vis (sc : Scope) (x : Str) : Prop := sc.names.lookup x = some .local ∨ sc.names.lookup x = some .cell ∨ sc.names.lookup x = some .free
def Loc (sc : Scope) (x : Str) : Prop := sc.names.lookup x = some .local ∨ sc.names.lookup x = some .cell
def Look (env : Env) (h : Heap) (m : Str → Option Value) (x : Str) (u : Value) : Prop :=
  (env.kindOf x = some .local ∧ m x = some u) ∨ ((env.kindOf x = some .cell ∨ env.kindOf x = some .free) ∧ ∃ c, env.cells.lookup x = some c ∧ h.IsCell c (some u))
structure Cx.Ok (X : Cx) : Prop where
  mod : Mod X.K X.mg X.base
  kind : X.env.scope.kind = .function
  glob : X.env.globals = mainGlobals
  blt : X.env.builtins = builtinsNs
  above : X.s₀.heap.objs.size ≤ X.env.locals
  inj : ∀ x y c, X.env.cells.lookup x = some c → X.env.cells.lookup y = some c → x = y
  has : ∀ x, (X.env.kindOf x = some .cell ∨ X.env.kindOf x = some .free) → ∃ c, X.env.cells.lookup x = some c
  cab : ∀ x c, X.fn x = true → X.env.cells.lookup x = some c → X.s₀.heap.objs.size ≤ c
  hd : X.calm = true → X.A.handled = none
  frames : X.A.frames = some X.stack
  stk : X.stack = X.outer ∨ (X.stack = X.env :: X.outer ∧ X.env.frame = some X.env.locals)
  exf : ∀ b ∈ X.ex, b ≠ X.env.locals ∧ ∀ x c, X.env.cells.lookup x = some c → c ≠ b
  bs : ∀ b o, X.base.get? b = some o → X.s₀.heap.get? b = some o ∧ X.H₀ b = none
  bsz : X.base.objs.size ≤ X.s₀.heap.objs.size
  noex : ∀ b o, X.base.get? b = some o → b ∉ X.ex
  exfs : ∀ b ∈ X.ex, b ∉ X.fs
  funs : X.s₀.heap.FunFrames X.base X.outer
  frf : ∀ b ∈ X.fs, X.H₀ b = none
structure Inv (X : Cx) (pins : List (Addr × Obj)) (σ : List (Option V)) (H : Hp) (s : Shared) : Prop where
  ok : X.Ok
  os : s.os = X.s₀.os
  bare : AllBare s.gens
  base : Un X.fs X.ex X.H₀ H X.s₀.heap s.heap
  loc : ∃ m, s.heap.Ns X.env.locals m ∧ ∀ (i : Nat) (x : Str) (v : V), X.N[i]? = some x → σ[i]? = some (some v) → Vis X.env.scope x → ∃ u, RelV v u ∧ Look X.env s.heap m x u
  cell : ∀ x c, X.env.cells.lookup x = some c → ∃ v, s.heap.IsCell c v
  free : H X.env.locals = none
  freeC : ∀ x c, X.env.cells.lookup x = some c → H c = none
  pin : ∀ p ∈ X.pn ++ pins, s.heap.get? p.1 = some p.2 ∧ H p.1 = none ∧ p.1 ≠ X.env.locals ∧ p.1 ∉ X.fs ∧ ∀ v, p.2.data ≠ .cell v
  hok : HOk X.prog X.w H s.heap
  len : σ.length = X.N.length
section
variable {X : Cx} {pins : List (Addr × Obj)} {σ : List (Option V)} {H H' : Hp} {s : Shared} {h' : Heap}
theorem Cx.Ok.nofr (ok : X.Ok) {b : Addr} {o : Obj} (e : X.base.get? b = some o) : b ∉ X.fs := fun hb => by
  have := (ok.funs.mem hb).1
  rw [e] at this; cases this
theorem Inv.bs (I : Inv X pins σ H s) : ∀ b o, X.base.get? b = some o → s.heap.get? b = some o ∧ H b = none := fun b o e =>
  ⟨I.base.keep b o (I.ok.bs b o e).1 (I.ok.bs b o e).2 (I.ok.nofr e) (I.ok.noex b o e), I.base.free b o (I.ok.bs b o e).1 (I.ok.bs b o e).2 (I.ok.noex b o e)⟩
theorem Inv.bk (I : Inv X pins σ H s) : ∀ b o, X.base.get? b = some o → s.heap.get? b = some o := fun b o e => (I.bs b o e).1
theorem Inv.mod (I : Inv X pins σ H s) : Mod X.K X.mg X.base := I.ok.mod
theorem Inv.kIn (I : Inv X pins σ H s) : X.K.In s.heap := I.ok.mod.kin.keeps I.bk
theorem Inv.nolimit (I : Inv X pins σ H s) : s.heap.NoLimit := I.ok.mod.nolimit.keeps I.bk
theorem Inv.fr (I : Inv X pins σ H s) : ∃ m, Fr X.base X.env.locals s.heap m :=
  let ⟨m, hn, _⟩ := I.loc
  ⟨m, hn, I.bk, Nat.le_trans I.ok.bsz I.ok.above⟩
theorem Inv.lt (I : Inv X pins σ H s) : X.env.locals < s.heap.objs.size := let ⟨_, hn, _⟩ := I.loc; hn.lt
theorem Inv.sz (I : Inv X pins σ H s) : X.s₀.heap.objs.size ≤ s.heap.objs.size := Nat.le_trans I.ok.above (Nat.le_of_lt I.lt)
theorem Inv.nofs (I : Inv X pins σ H s) {a : Addr} (h : s.heap.objs.size ≤ a) : a ∉ X.fs := fun hb => by
  obtain ⟨_, o, ho, _⟩ := I.ok.funs.mem hb
  exact absurd (Nat.lt_of_lt_of_le (Heap.lt_size ho) (Nat.le_trans I.sz h)) (Nat.lt_irrefl _)
theorem Inv.cne (I : Inv X pins σ H s) : ∀ x c, X.env.cells.lookup x = some c → c ≠ X.env.locals := fun x c e z => by
  obtain ⟨v, o, ho, hd⟩ := I.cell x c e
  obtain ⟨m, ⟨o', es, ep, ho', hd', _⟩, _⟩ := I.loc
  rw [z, ho'] at ho; cases ho; rw [hd'] at hd; cases hd
theorem Inv.funs (I : Inv X pins σ H s) : s.heap.FunFrames X.base X.outer := by
  have all : ∀ (l : List Env), (∀ b ∈ frs l, b ∈ X.fs) → X.s₀.heap.FunFrames X.base l → s.heap.FunFrames X.base l := by
    intro l
    induction l with
    | nil => intro _ _; trivial
    | cons env r ih =>
      intro hs hl
      obtain ⟨hk, ⟨L, o, hf, hn, ho, hd⟩, hr⟩ := hl
      have hL : L ∈ X.fs := hs L (by unfold frs; rw [List.filterMap_cons, hf]; exact List.mem_cons_self)
      obtain ⟨sl, e⟩ := I.base.slot L o ho (I.ok.frf L hL) hL fun z => I.ok.exfs L z hL
      exact ⟨hk, ⟨L, _, hf, hn, e, hd⟩, ih (fun b hb => hs b (by unfold frs; rw [List.filterMap_cons, hf]; exact List.mem_cons_of_mem _ hb)) hr⟩
  exact all X.outer (fun _ hb => hb) I.ok.funs
theorem Inv.stack (I : Inv X pins σ H s) : s.heap.FunFrames X.base X.stack := by
  rcases I.ok.stk with e | ⟨e, hf⟩
  · rw [e]; exact I.funs
  · rw [e]
    obtain ⟨m, hn, _⟩ := I.loc
    refine .cons (by rw [I.ok.kind]; decide) hf hn ?_ I.funs
    exact Heap.get?_none_of_le (Nat.le_trans I.ok.bsz I.ok.above)
theorem Inv.stkSub (I : Inv X pins σ H s) : ∀ b ∈ frs X.stack, b ∈ X.env.locals :: X.fs := fun b hb => by
  rcases I.ok.stk with e | ⟨e, hf⟩
  · rw [e] at hb; exact List.mem_cons_of_mem _ hb
  · rw [e] at hb
    unfold frs at hb
    rw [List.filterMap_cons, hf] at hb
    exact hb
theorem Inv.stkFree (I : Inv X pins σ H s) : ∀ b ∈ frs X.stack, H b = none := fun b hb => by
  rcases List.mem_cons.mp (I.stkSub b hb) with e | hb
  · rw [e]; exact I.free
  · obtain ⟨_, o, ho, _⟩ := I.ok.funs.mem hb
    exact I.base.free b o ho (I.ok.frf b hb) fun z => I.ok.exfs b z hb
theorem Inv.step {g' : Array GenState} {t' : Nat} {d' : Drawn} {ch : List Addr} (I : Inv X pins σ H s)
    (hch : ∀ b ∈ ch, (b ∈ X.ex ∨ X.s₀.heap.objs.size ≤ b) ∧ b ≠ X.env.locals ∧ (∀ x c, X.env.cells.lookup x = some c → c ≠ b) ∧ ∀ p ∈ X.pn ++ pins, p.1 ≠ b)
    (keep : ∀ b o, b ≠ X.env.locals → b ∉ X.fs → b ∉ ch → s.heap.get? b = some o → H b = none → h'.get? b = some o)
    (slot : ∀ b o, b ≠ X.env.locals → b ∈ X.fs → b ∉ ch → s.heap.get? b = some o → H b = none → ∃ sl, h'.get? b = some { o with slots := sl }) (free : ∀ b o, b ∉ ch → s.heap.get? b = some o → H b = none → H' b = none)
    (there : ∀ b o, b ∉ ch → s.heap.get? b = some o → ∃ o', h'.get? b = some o')
    (tups : ∀ b xs, H b = some (.tup xs) → H' b = some (.tup xs)) (frzs : ∀ b o u, H b = some (.frz o u) → H' b = some (.frz o u)) (tbls : ∀ b ps, H b = some (.tbl ps) → ∃ more, H' b = some (.tbl (ps ++ more)))
    (ns : ∀ m, s.heap.Ns X.env.locals m → h'.Ns X.env.locals m) (hok : HOk X.prog X.w H' h') (hg : AllBare g') :
    Inv X pins σ H' { s with heap := h', gens := g', drawn := d', toks := t' } := by
  have neL : ∀ b o, X.s₀.heap.get? b = some o → b ≠ X.env.locals := fun b o e => Nat.ne_of_lt (Nat.lt_of_lt_of_le (Heap.lt_size e) I.ok.above)
  have neC : ∀ b o, X.s₀.heap.get? b = some o → b ∉ X.ex → b ∉ ch := fun b o e hx hb => by
    rcases (hch b hb).1 with z | z
    · exact hx z
    · exact absurd (Nat.lt_of_lt_of_le (Heap.lt_size e) z) (Nat.lt_irrefl _)
  have cellK : ∀ x c, X.env.cells.lookup x = some c → ∀ v, s.heap.IsCell c v → h'.IsCell c v := fun x c e v ⟨o, ho, hd⟩ => by
    have nch : c ∉ ch := fun z => (hch c z).2.2.1 x c e rfl
    by_cases hc : c ∈ X.fs
    · obtain ⟨sl, q⟩ := slot c o (I.cne x c e) hc nch ho (I.freeC x c e)
      exact ⟨_, q, hd⟩
    · exact ⟨o, keep c o (I.cne x c e) hc nch ho (I.freeC x c e), hd⟩
  refine ⟨I.ok, I.os, hg, ⟨fun b o e n hb hx => ?_, fun b o e n hb hx => ?_, fun b o e n hx => ?_, fun b o e hx => ?_, fun b xs e => tups b xs (I.base.tups b xs e), fun b o xs e => frzs b o xs (I.base.frzs b o xs e), fun b ps e => ?_⟩, ?_, fun x c e => ?_, ?_, fun x c e => ?_, fun p hp => ?_, hok, I.len⟩
  · exact keep b o (neL b o e) hb (neC b o e hx) (I.base.keep b o e n hb hx) (I.base.free b o e n hx)
  · obtain ⟨sl, e1⟩ := I.base.slot b o e n hb hx
    obtain ⟨sl', e2⟩ := slot b _ (neL b o e) hb (neC b o e hx) e1 (I.base.free b o e n hx)
    exact ⟨sl', e2⟩
  · obtain ⟨o', e1⟩ := I.base.there b o e hx
    exact free b o' (neC b o e hx) e1 (I.base.free b o e n hx)
  · obtain ⟨o', e1⟩ := I.base.there b o e hx
    exact there b o' (neC b o e hx) e1
  · obtain ⟨m1, e1⟩ := I.base.tbls b ps e
    obtain ⟨m2, e2⟩ := tbls b _ e1
    exact ⟨m1 ++ m2, by rw [e2, Array.append_assoc]⟩
  · obtain ⟨m, hn, hl⟩ := I.loc
    refine ⟨m, ns m hn, fun i x v e1 e2 e3 => ?_⟩
    obtain ⟨u, r, l⟩ := hl i x v e1 e2 e3
    refine ⟨u, r, ?_⟩
    rcases l with l | ⟨k, c, e, z⟩
    · exact .inl l
    · exact .inr ⟨k, c, e, cellK x c e _ z⟩
  · obtain ⟨v, z⟩ := I.cell x c e
    exact ⟨v, cellK x c e v z⟩
  · obtain ⟨m, ⟨o, _, _, ho, _⟩, _⟩ := I.loc
    exact free _ o (fun z => (hch _ z).2.1 rfl) ho I.free
  · obtain ⟨v, o, ho, hd⟩ := I.cell x c e
    exact free c o (fun z => (hch c z).2.2.1 x c e rfl) ho (I.freeC x c e)
  · obtain ⟨e, n, ne, nf, d⟩ := I.pin p hp
    have nch : p.1 ∉ ch := fun z => (hch p.1 z).2.2.2 p hp rfl
    exact ⟨keep p.1 p.2 ne nf nch e n, free p.1 p.2 nch e n, ne, nf, d⟩
theorem Inv.un {t' : Nat} (I : Inv X pins σ H s) (u : Un X.fs [] H H' s.heap h') (hok : HOk X.prog X.w H' h') : Inv X pins σ H' { s with heap := h', toks := t' } := by
  obtain ⟨m, ⟨o, es, ep, ho, r⟩, _⟩ := id I.loc
  obtain ⟨sl, hL⟩ := u.any ho I.free (by simp)
  exact I.step (g' := s.gens) (d' := s.drawn) (ch := []) (fun _ z => nomatch z) (fun b o _ hb _ e n => u.keep b o e n hb (by simp)) (fun b o _ hb _ e n => u.slot b o e n hb (by simp)) (fun b o _ e n => u.free b o e n (by simp)) (fun b o _ e => u.there b o e (by simp)) u.tups u.frzs u.tbls (fun m' hm => by
    obtain ⟨o', es', ep', ho', r'⟩ := hm
    rw [ho] at ho'; cases ho'
    exact ⟨_, es', ep', hL, r'⟩) hok I.bare
theorem Inv.call {g' : Array GenState} {t' : Nat} {d' : Drawn} {ch : List Addr} (I : Inv X pins σ H s) (u : Un (frs X.stack) ch H H' s.heap h') (hok : HOk X.prog X.w H' h') (hg : AllBare g')
    (hch : ∀ b ∈ ch, (b ∈ X.ex ∨ X.s₀.heap.objs.size ≤ b) ∧ b ≠ X.env.locals ∧ (∀ x c, X.env.cells.lookup x = some c → c ≠ b) ∧ ∀ p ∈ X.pn ++ pins, p.1 ≠ b) :
    Inv X pins σ H' { s with heap := h', gens := g', drawn := d', toks := t' } := by
  obtain ⟨m, ⟨o, es, ep, ho, r⟩, _⟩ := id I.loc
  obtain ⟨sl, hL⟩ := u.any ho I.free fun z => (hch _ z).2.1 rfl
  exact I.step (ch := ch) hch (fun b o hL hb hc e n => u.keep b o e n (fun z => (List.mem_cons.mp (I.stkSub b z)).elim hL hb) hc) (fun b o _ _ hc e n => u.any e n hc) (fun b o hc e n => u.free b o e n hc) (fun b o hc e => u.there b o e hc) u.tups u.frzs u.tbls (fun m' hm => by
    obtain ⟨o', es', ep', ho', r'⟩ := hm
    rw [ho] at ho'; cases ho'
    exact ⟨_, es', ep', hL, r'⟩) hok hg
theorem Inv.turned {t' : Nat} {it : Addr} (I : Inv X pins σ H s) (k : ∀ b o, b ≠ it → s.heap.get? b = some o → h'.get? b = some o) (hn : H it = none) (hL : it ≠ X.env.locals)
    (h1 : it ∈ X.ex ∨ X.s₀.heap.objs.size ≤ it) (h2 : ∀ x c, X.env.cells.lookup x = some c → c ≠ it) (h3 : ∀ p ∈ X.pn ++ pins, p.1 ≠ it) : Inv X pins σ H { s with heap := h', toks := t' } := by
  have nit : ∀ b u, H b = some u → b ≠ it := fun b u e z => by rw [z, hn] at e; cases e
  refine I.step (g' := s.gens) (d' := s.drawn) (ch := [it]) (fun b hb => ?_) (fun b o _ _ hc e _ => k b o (fun z => hc (by simp [z])) e) (fun b o _ _ hc e _ => ⟨o.slots, k b o (fun z => hc (by simp [z])) e⟩) (fun _ _ _ _ n => n)
    (fun b o hc e => ⟨o, k b o (fun z => hc (by simp [z])) e⟩) (fun _ _ e => e) (fun _ _ _ e => e) (fun b ps e => ⟨#[], by rw [e]; simp⟩) (fun m hm => ?_) (fun b u e => ?_) I.bare
  · have e : b = it := by simpa using hb
    subst e
    exact ⟨h1, hL, h2, h3⟩
  · obtain ⟨o, es, ep, ho, r⟩ := hm
    exact ⟨o, es, ep, k _ o (Ne.symm hL) ho, r⟩
  · refine (I.hok b u e).stay (fun c v hc q => k c v ?_ q) (fun _ q => q) fun _ _ q => q
    rcases hc with z | z
    · rw [z]; exact nit b u e
    · exact nit c _ z
theorem Inv.tok (I : Inv X pins σ H s) (t : Nat) : Inv X pins σ H { s with toks := t } := I.un (h' := s.heap) (t' := t) Un.refl I.hok
theorem Inv.kept {t' : Nat} (I : Inv X pins σ H s) (k : ∀ b u, s.heap.get? b = some u → h'.get? b = some u) : Inv X pins σ H { s with heap := h', toks := t' } := I.un (Un.kept k) (I.hok.kept k)
theorem Inv.laid {a : Addr} {o : HO} {t' : Nat} (I : Inv X pins σ H s) (k : ∀ b u, s.heap.get? b = some u → h'.get? b = some u) (hp : s.heap.objs.size ≤ a) (new : ObjOk X.prog X.w (upd H a o) h' a o) :
    Inv X pins σ (upd H a o) { s with heap := h', toks := t' } := I.un (Un.laid k hp (I.hok.fresh hp)) (I.hok.laid k hp new)
theorem Inv.write {x e : Addr} {o : HO} {t' : Nat} (I : Inv X pins σ H s) (mu : Mut (H x)) (he : e = x ∨ H e = some (.own x)) (k : ∀ b u, b ≠ e → s.heap.get? b = some u → h'.get? b = some u) (heo : ∃ u, h'.get? e = some u)
    (new : ObjOk X.prog X.w (upd H x o) h' x o) : Inv X pins σ (upd H x o) { s with heap := h', toks := t' } := I.un (Un.write mu he k heo) (I.hok.write mu he k heo new)
theorem Inv.weak {σ' : List (Option V)} (I : Inv X pins σ H s) (hl : σ'.length = σ.length) (w : ∀ (i : Nat) v, σ'[i]? = some (some v) → σ[i]? = some (some v)) : Inv X pins σ' H s :=
  ⟨I.ok, I.os, I.bare, I.base, let ⟨m, hn, hl'⟩ := I.loc; ⟨m, hn, fun i x v e1 e2 e3 => hl' i x v e1 (w i v e2) e3⟩, I.cell, I.free, I.freeC, I.pin, I.hok, hl.trans I.len⟩
theorem Inv.pins_of {pins' : List (Addr × Obj)} (I : Inv X pins σ H s) (h : ∀ p ∈ pins', s.heap.get? p.1 = some p.2 ∧ H p.1 = none ∧ p.1 ≠ X.env.locals ∧ p.1 ∉ X.fs ∧ ∀ v, p.2.data ≠ .cell v) : Inv X pins' σ H s :=
  ⟨I.ok, I.os, I.bare, I.base, I.loc, I.cell, I.free, I.freeC, fun p hp => (List.mem_append.mp hp).elim (fun z => I.pin p (List.mem_append_left _ z)) (h p), I.hok, I.len⟩
theorem nodup_ix {N : List Str} (hN : N.Nodup) {i j : Nat} {x : Str} (a : N[i]? = some x) (b : N[j]? = some x) : i = j := by
  obtain ⟨h1, e1⟩ := List.getElem?_eq_some_iff.mp a
  obtain ⟨h2, e2⟩ := List.getElem?_eq_some_iff.mp b
  exact (List.getElem_inj hN).mp (e1.trans e2.symm)
theorem store_ok2 {M : Model} {A : Around} {E : Value → Shared → Prop} {i : Nat} {x : Str} {v : V} {u : Value} {Q : Unit → Shared → Prop} (I : Inv X pins σ H s) (hN : X.N.Nodup) (hi : X.N[i]? = some x) (hx : Loc X.env.scope x) (r : RelV v u)
    (h : ∀ s', Inv X pins (σ.set i (some v)) H s' → (∃ a, Heap.SameBut a s.heap s'.heap ∧ (a = X.env.locals ∨ X.env.cells.lookup x = some a)) → Q () s') (hf : X.fn x = true ∨ X.env.scope.names.lookup x = some .local := by first | exact .inl rfl | exact .inr rfl | assumption) : wpAny M A (storeName X.env x u) Q E s := by
  obtain ⟨m, hn, hl⟩ := id I.loc
  have hcls : (X.env.scope.kind == .class || (X.env.scope.kind == .module && X.env.locals != X.env.globals)) = false := by rw [I.ok.kind]; rfl
  have hiσ : i < σ.length := by rw [I.len]; exact (List.getElem?_eq_some_iff.mp hi).1
  have cne := I.cne
  have tracked : ∀ {a : Addr} {h' : Heap}, (∃ o, s.heap.get? a = some o ∧ H a = none) → Heap.SameBut a s.heap h' → HOk X.prog X.w H h' := fun {a h'} ha hs b ob e => by
    obtain ⟨_, _, hfree⟩ := ha
    refine (I.hok b ob e).stay (fun c w' hc q => (hs.2 c ?_).trans q) (fun _ q => q) fun _ _ q => q
    rintro rfl
    rcases hc with rfl | hc
    · rw [hfree] at e; cases e
    · rw [hfree] at hc; cases hc
  rcases hx with hk | hk
  · refine wpAny_storeName_local hk hn (fun h' hn' hs => ?_) hcls
    obtain ⟨oL, _, _, hoL, _⟩ := id hn
    refine h _ ⟨I.ok, I.os, I.bare, ⟨fun b o e n hb hx => ?_, fun b o e n hb hx => ?_, I.base.free, fun b o e hx => ?_, I.base.tups, I.base.frzs, I.base.tbls⟩, ⟨_, hn', fun j y v' e1 e2 e3 => ?_⟩, fun y c e => ?_, I.free, I.freeC, fun p hp => ?_, tracked ⟨oL, hoL, I.free⟩ hs, by simpa using I.len⟩ ⟨_, hs, .inl rfl⟩
    · exact (hs.2 b (Nat.ne_of_lt (Nat.lt_of_lt_of_le (Heap.lt_size e) I.ok.above))).trans (I.base.keep b o e n hb hx)
    · obtain ⟨sl, e1⟩ := I.base.slot b o e n hb hx
      exact ⟨sl, (hs.2 b (Nat.ne_of_lt (Nat.lt_of_lt_of_le (Heap.lt_size e) I.ok.above))).trans e1⟩
    · obtain ⟨o', e1⟩ := I.base.there b o e hx
      exact ⟨o', (hs.2 b (Nat.ne_of_lt (Nat.lt_of_lt_of_le (Heap.lt_size e) I.ok.above))).trans e1⟩
    · by_cases hj : j = i
      · subst hj
        rw [hi] at e1; cases e1
        rw [List.getElem?_set_self hiσ] at e2
        cases e2
        exact ⟨u, r, .inl ⟨hk, by simp⟩⟩
      · rw [List.getElem?_set_ne (Ne.symm hj)] at e2
        obtain ⟨u', r', q⟩ := hl j y v' e1 e2 e3
        refine ⟨u', r', ?_⟩
        rcases q with ⟨k, e⟩ | ⟨k, c, e, z⟩
        · refine .inl ⟨k, ?_⟩
          have : y ≠ x := fun e => hj (nodup_ix hN e1 (e ▸ hi))
          simp [this, e]
        · exact .inr ⟨k, c, e, z.sameBut hs (cne y c e)⟩
    · obtain ⟨w', z⟩ := I.cell y c e
      exact ⟨w', z.sameBut hs (cne y c e)⟩
    · obtain ⟨e, n, ne, nf, d⟩ := I.pin p hp
      exact ⟨(hs.2 p.1 ne).trans e, n, ne, nf, d⟩
  · have hfn : X.fn x = true := by
      rcases hf with z | z
      · exact z
      · rw [z] at hk; cases hk
    obtain ⟨c, hc⟩ := I.ok.has x (.inl hk)
    obtain ⟨w', z⟩ := I.cell x c hc
    refine wpAny_storeName_cell I.ok.kind hk hc z (fun h' hc' hs => ?_)
    obtain ⟨oc, hoc, hocd⟩ := id z
    refine h { s with heap := h' } ⟨I.ok, I.os, I.bare, ⟨fun b o e n hb hx => ?_, fun b o e n hb hx => ?_, I.base.free, fun b o e hx => ?_, I.base.tups, I.base.frzs, I.base.tbls⟩, ⟨m, hn.sameBut hs (Ne.symm (cne x c hc)), fun j y v' e1 e2 e3 => ?_⟩, fun y c' e => ?_, I.free, I.freeC, fun p hp => ?_, tracked ⟨oc, hoc, I.freeC x c hc⟩ hs, by simpa using I.len⟩ ⟨c, hs, .inr hc⟩
    · exact (hs.2 b (Nat.ne_of_lt (Nat.lt_of_lt_of_le (Heap.lt_size e) (I.ok.cab x c hfn hc)))).trans (I.base.keep b o e n hb hx)
    · obtain ⟨sl, e1⟩ := I.base.slot b o e n hb hx
      exact ⟨sl, (hs.2 b (Nat.ne_of_lt (Nat.lt_of_lt_of_le (Heap.lt_size e) (I.ok.cab x c hfn hc)))).trans e1⟩
    · obtain ⟨o', e1⟩ := I.base.there b o e hx
      exact ⟨o', (hs.2 b (Nat.ne_of_lt (Nat.lt_of_lt_of_le (Heap.lt_size e) (I.ok.cab x c hfn hc)))).trans e1⟩
    · by_cases hj : j = i
      · subst hj
        rw [hi] at e1; cases e1
        rw [List.getElem?_set_self hiσ] at e2
        cases e2
        exact ⟨u, r, .inr ⟨.inl hk, c, hc, hc'⟩⟩
      · rw [List.getElem?_set_ne (Ne.symm hj)] at e2
        obtain ⟨u', r', q⟩ := hl j y v' e1 e2 e3
        refine ⟨u', r', ?_⟩
        rcases q with q | ⟨k, c', e, z'⟩
        · exact .inl q
        · refine .inr ⟨k, c', e, z'.sameBut hs ?_⟩
          rintro rfl
          exact hj (nodup_ix hN e1 (I.ok.inj _ _ _ e hc ▸ hi))
    · by_cases hcc : c' = c
      · subst hcc; exact ⟨_, hc'⟩
      · obtain ⟨w2, z2⟩ := I.cell y c' e
        exact ⟨w2, z2.sameBut hs hcc⟩
    · obtain ⟨e, n, ne, nf, d⟩ := I.pin p hp
      refine ⟨(hs.2 p.1 ?_).trans e, n, ne, nf, d⟩
      intro q
      rw [q, hoc] at e
      have q' : oc = p.2 := Option.some.inj e
      exact d w' (by rw [← q']; exact hocd)
theorem store_ok {M : Model} {A : Around} {E : Value → Shared → Prop} {i : Nat} {x : Str} {v : V} {u : Value} {Q : Unit → Shared → Prop} (I : Inv X pins σ H s) (hN : X.N.Nodup) (hi : X.N[i]? = some x) (hx : Loc X.env.scope x) (r : RelV v u)
    (h : ∀ s', Inv X pins (σ.set i (some v)) H s' → Q () s') (hf : X.fn x = true ∨ X.env.scope.names.lookup x = some .local := by first | exact .inl rfl | exact .inr rfl | assumption) : wpAny M A (storeName X.env x u) Q E s :=
  store_ok2 I hN hi hx r (fun s' I' _ => h s' I') hf
theorem Inv.call' {s' : Shared} {ch : List Addr} (I : Inv X pins σ H s) (ho : s'.os = s.os) (u : Un (frs X.stack) ch H H' s.heap s'.heap) (hok : HOk X.prog X.w H' s'.heap) (hg : AllBare s'.gens)
    (hch : ∀ b ∈ ch, (b ∈ X.ex ∨ X.s₀.heap.objs.size ≤ b) ∧ b ≠ X.env.locals ∧ (∀ x c, X.env.cells.lookup x = some c → c ≠ b) ∧ ∀ p ∈ X.pn ++ pins, p.1 ≠ b) : Inv X pins σ H' s' := by
  obtain ⟨h', g', d', t', o'⟩ := s'
  have e : o' = s.os := ho
  subst e
  exact I.call (g' := g') (t' := t') (d' := d') u hok hg hch
end
abbrev XK := Value → Option Addr → Hp → Prop
abbrev St := List (Option V)
abbrev VK := V → Hp → Prop
abbrev TE := St → Hp → VK → Prop
abbrev TT := St → Hp → (Bool → Hp → Prop) → Prop
abbrev TA := St → Hp → (List V → Hp → Prop) → Prop
structure Ends where
  nx : St → Hp → Prop
  rt : VK
  bk : St → Hp → Prop := fun _ _ => False
  ct : St → Hp → Prop := fun _ _ => False
abbrev TS := Ends → St → Hp → Prop
def EP (X : Cx) (pins : List (Addr × Obj)) (σ : St) (Q : VK) (u : Value) (s' : Shared) : Prop := ∃ v H', Inv X pins σ H' s' ∧ RelV v u ∧ Q v H'
def TP (X : Cx) (pins : List (Addr × Obj)) (σ : St) (Q : Bool → Hp → Prop) (b : Bool) (s' : Shared) : Prop := ∃ H', Inv X pins σ H' s' ∧ Q b H'
def AP (X : Cx) (pins : List (Addr × Obj)) (σ : St) (Q : List V → Hp → Prop) (us : List Value) (s' : Shared) : Prop := ∃ vs H', Inv X pins σ H' s' ∧ Vals vs us ∧ Q vs H'
def SP (X : Cx) (pins : List (Addr × Obj)) (D : Ends) (f : Flow) (s' : Shared) : Prop :=
  match f with
  | .next => ∃ σ' H', Inv X pins σ' H' s' ∧ D.nx σ' H'
  | .brk => ∃ σ' H', Inv X pins σ' H' s' ∧ D.bk σ' H'
  | .cont => ∃ σ' H', Inv X pins σ' H' s' ∧ D.ct σ' H'
  | .ret u => ∃ v σ' H', Inv X pins σ' H' s' ∧ RelV v u ∧ D.rt v H'
def PE (X : Cx) (e : Expr) (t : TE) : Prop :=
  ∀ (pins : List (Addr × Obj)) (s : Shared) (σ : St) (H : Hp) (Q : VK), Inv X pins σ H s → t σ H Q → wpAny (model X.prog X.w) X.A (eval e X.env) (EP X pins σ Q) X.xe s
def PT (X : Cx) (e : Expr) (t : TT) : Prop :=
  ∀ (pins : List (Addr × Obj)) (s : Shared) (σ : St) (H : Hp) (Q : Bool → Hp → Prop), Inv X pins σ H s → t σ H Q → wpAny (model X.prog X.w) X.A (isTrue e X.env (eval e X.env)) (TP X pins σ Q) X.xe s
def PW (X : Cx) (e : Expr) (t : TT) : Prop :=
  ∀ (whole : Sem Value) (pins : List (Addr × Obj)) (s : Shared) (σ : St) (H : Hp) (Q : Bool → Hp → Prop), Inv X pins σ H s → t σ H Q → wpAny (model X.prog X.w) X.A (isTrue e X.env whole) (TP X pins σ Q) X.xe s
theorem PW.pt {X : Cx} {e : Expr} {t : TT} (h : PW X e t) : PT X e t := h _
def PA (X : Cx) (es : List Expr) (t : TA) : Prop :=
  ∀ (pos : Pos) (pins : List (Addr × Obj)) (s : Shared) (σ : St) (H : Hp) (Q : List V → Hp → Prop), Inv X pins σ H s → t σ H Q → wpAny (model X.prog X.w) X.A (spliced (backTo pos (starEach es X.env))) (AP X pins σ Q) X.xe s
def PS (X : Cx) (st : Stmt) (t : TS) : Prop :=
  ∀ (pins : List (Addr × Obj)) (s : Shared) (σ : St) (H : Hp) (D : Ends), Inv X pins σ H s → t D σ H → wpAny (model X.prog X.w) X.A (exec st X.env) (SP X pins D) X.xe s
def PSs (X : Cx) (st : List Stmt) (t : TS) : Prop :=
  ∀ (pins : List (Addr × Obj)) (s : Shared) (σ : St) (H : Hp) (D : Ends), Inv X pins σ H s → t D σ H → wpAny (model X.prog X.w) X.A (execs st X.env) (SP X pins D) X.xe s
theorem thn {α : Type} {t : Sem α} {Q Q' : α → Shared → Prop} {M : Model} {A : Around} {E : Value → Shared → Prop} {s : Shared} (h : wpAny M A t Q E s) (hQ : ∀ a s, Q a s → Q' a s) : wpAny M A t Q' E s := wpAny_mono h hQ fun _ _ x => x
end L2
namespace L2
open PySem PySem.Spec PyProof.Rows
section
variable {X : Cx}
theorem bin {a b : Expr} {ta tb : TE} (ha : PE X a ta) (hb : PE X b tb) {pins : List (Addr × Obj)} {s : Shared} {σ : St} {H : Hp} {R : V → V → Hp → Prop} (I : Inv X pins σ H s) (h : ta σ H fun x H1 => tb σ H1 fun y H2 => R x y H2)
    {α : Type} {Q : α → Shared → Prop} {f : Value → Value → Sem α}
    (hf : ∀ v u s2 x y H2, Inv X pins σ H2 s2 → RelV x v → RelV y u → R x y H2 → wpAny (model X.prog X.w) X.A (f v u) Q X.xe s2) :
    wpAny (model X.prog X.w) X.A (eval a X.env) (fun v s₁ => wpAny (model X.prog X.w) X.A (eval b X.env) (fun u s₂ => wpAny (model X.prog X.w) X.A (f v u) Q X.xe s₂) X.xe s₁) X.xe s := by
  refine thn (ha pins s σ H _ I h) fun v s1 ⟨x, H1, I1, r1, q1⟩ => ?_
  refine thn (hb pins s1 σ H1 _ I1 q1) fun u s2 ⟨y, H2, I2, r2, q2⟩ => ?_
  exact hf v u s2 x y H2 I2 r1 r2 q2
def tVar (i : Nat) : TE := fun σ H Q => ∃ v, σ[i]? = some (some v) ∧ Q v H
def tC (v : V) : TE := fun _ H Q => Q v H
theorem pe_var {i : Nat} {x : Str} {pos : Pos} (hN : X.N[i]? = some x) (hv : Vis X.env.scope x) (hd : (x == ("__debug__" : Str)) = false := by decide) (hcd : (x == ("__classdict__" : Str)) = false := by decide) : PE X (.Name x pos) (tVar i) := by
  intro pins s σ H Q I h
  obtain ⟨v, e, h⟩ := h
  obtain ⟨m, hn, hl⟩ := I.loc
  obtain ⟨u, r, l⟩ := hl i x v hN e hv
  have fin : EP X pins σ Q u s := ⟨v, H, I, r, h⟩
  rcases l with ⟨hk, hm⟩ | ⟨hk, c, hc, hcell⟩
  · exact wpAny_Name (wpAny_loadName_local I.ok.kind hk hn hm fin) hd
  · rcases hk with hk | hk
    · exact wpAny_Name (wpAny_loadName_cell I.ok.kind hk hc hcell fin) hd
    · exact wpAny_Name (wpAny_loadName_free I.ok.kind hk hc hcell fin hcd) hd
theorem pe_int {i j pos} : PE X (.Constant (.int i) j pos) (tC (.int i)) := fun _ _ _ H _ I h => wpAny_Constant_int ⟨.int i, H, I.tok _, ⟨_, rfl⟩, h⟩
theorem pe_bl {b j pos} : PE X (.Constant (.bool b) j pos) (tC (.bl b)) := fun _ _ _ H _ I h => Constant_bool ⟨.bl b, H, I, rfl, h⟩
theorem pe_non {j pos} : PE X (.Constant .none j pos) (tC .non) := fun _ _ _ H _ I h => Constant_none ⟨.non, H, I, rfl, h⟩
theorem pe_str {x j pos} : PE X (.Constant (.str x) j pos) (tC (.str x)) := fun _ _ _ H _ I h => Calls.Constant_str ⟨.str x, H, I.tok _, ⟨_, rfl⟩, h⟩
def Gl (X : Cx) (x : Str) : Prop := X.env.kindOf x = some .globalImplicit
theorem ld_glob {E : Value → Shared → Prop} {pins : List (Addr × Obj)} {s : Shared} {σ : St} {H : Hp} {x : Str} {u : Value} {pos : Pos} {Q : Value → Shared → Prop} (I : Inv X pins σ H s) (hg : Gl X x) (hm : X.mg x = some u) (h : Q u s)
    (hd : (x == ("__debug__" : Str)) = false := by decide) : wpAny (model X.prog X.w) X.A (eval (.Name x pos) X.env) Q E s :=
  Calls.Name_function_global I.ok.kind hg (Calls.loadGlobal_global (by rw [I.ok.glob]; exact I.mod.glob.keeps I.bk) hm h) hd
theorem ld_blt {E : Value → Shared → Prop} {pins : List (Addr × Obj)} {s : Shared} {σ : St} {H : Hp} {x : Str} {u : Value} {pos : Pos} {Q : Value → Shared → Prop} (I : Inv X pins σ H s) (hg : Gl X x) (hm : X.mg x = none) (hv : bootBuiltins x = some u) (h : Q u s)
    (hn : x ≠ "__name__" := by decide) (hd : (x == ("__debug__" : Str)) = false := by decide) : wpAny (model X.prog X.w) X.A (eval (.Name x pos) X.env) Q E s := by
  obtain ⟨mb, h1, h2⟩ := I.mod.blt
  exact Calls.Name_function_global I.ok.kind hg (Calls.loadGlobal_builtin (by rw [I.ok.glob]; exact I.mod.glob.keeps I.bk) hm (by rw [I.ok.blt]; exact h1.keeps I.bk) ((h2 x hn).trans hv) h) hd
theorem pe_glob {x : Str} {v : V} {u : Value} {pos : Pos} (hg : Gl X x) (hm : X.mg x = some u) (r : RelV v u) (hd : (x == ("__debug__" : Str)) = false := by decide) : PE X (.Name x pos) (tC v) :=
  fun _ _ _ H _ I h => ld_glob I hg hm ⟨v, H, I, r, h⟩ hd
theorem pe_bltn {x : Str} {v : V} {u : Value} {pos : Pos} (hg : Gl X x) (hm : X.mg x = none) (hv : bootBuiltins x = some u) (r : RelV v u) (hn : x ≠ "__name__" := by decide) (hd : (x == ("__debug__" : Str)) = false := by decide) : PE X (.Name x pos) (tC v) :=
  fun _ _ _ H _ I h => ld_blt I hg hm hv ⟨v, H, I, r, h⟩ hn hd
def t2I (ta tb : TE) (k : Int → Int → Hp → Prop) : St → Hp → Prop := fun σ H => ta σ H fun x H1 => tb σ H1 fun y H2 => ∃ i j, x = .int i ∧ y = .int j ∧ k i j H2
def tAdd (ta tb : TE) : TE := fun σ H Q => t2I ta tb (fun i j H2 => Q (.int (i + j)) H2) σ H
def tSub (ta tb : TE) : TE := fun σ H Q => t2I ta tb (fun i j H2 => Q (.int (i - j)) H2) σ H
def tMul (ta tb : TE) : TE := fun σ H Q => t2I ta tb (fun i j H2 => (-(2 ^ 64) < i ∧ i < 2 ^ 64) ∧ Q (.int (i * j)) H2) σ H
variable {a b : Expr} {ta tb : TE} {pos : Pos}
theorem pe_add (ha : PE X a ta) (hb : PE X b tb) : PE X (.BinOp a .Add b pos) (tAdd ta tb) := by
  intro pins s σ H Q I h
  refine wpAny_BinOp (bin ha hb I h fun v u s2 x y H2 I2 rx ry q => ?_)
  obtain ⟨i, j, rfl, rfl, q⟩ := q
  obtain ⟨t, rfl⟩ := rx
  obtain ⟨t', rfl⟩ := ry
  exact add_int ⟨.int _, H2, I2.tok _, ⟨_, rfl⟩, q⟩
theorem pe_sub (ha : PE X a ta) (hb : PE X b tb) : PE X (.BinOp a .Sub b pos) (tSub ta tb) := by
  intro pins s σ H Q I h
  refine wpAny_BinOp (bin ha hb I h fun v u s2 x y H2 I2 rx ry q => ?_)
  obtain ⟨i, j, rfl, rfl, q⟩ := q
  obtain ⟨t, rfl⟩ := rx
  obtain ⟨t', rfl⟩ := ry
  exact sub_int ⟨.int _, H2, I2.tok _, ⟨_, rfl⟩, q⟩
theorem pe_mul (ha : PE X a ta) (hb : PE X b tb) : PE X (.BinOp a .Mult b pos) (tMul ta tb) := by
  intro pins s σ H Q I h
  refine wpAny_BinOp (bin ha hb I h fun v u s2 x y H2 I2 rx ry q => ?_)
  obtain ⟨i, j, rfl, rfl, ⟨q1, q2⟩, q⟩ := q
  obtain ⟨t, rfl⟩ := rx
  obtain ⟨t', rfl⟩ := ry
  exact mul_int ⟨.int _, H2, I2.tok _, ⟨_, rfl⟩, q⟩ (.of_left (intBits_le_64 q1 q2))
def PC (X : Cx) (op : CmpOp) (a b : Expr) (t : TE) : Prop :=
  ∀ (pins : List (Addr × Obj)) (s : Shared) (σ : St) (H : Hp) (Q : VK), Inv X pins σ H s → t σ H Q →
    wpAny (model X.prog X.w) X.A (eval a X.env) (fun v s₁ => wpAny (model X.prog X.w) X.A (eval b X.env) (fun u s₂ => wpAny (model X.prog X.w) X.A (compareOp op v u) (EP X pins σ Q) X.xe s₂) X.xe s₁) X.xe s
theorem nobehind (b : Expr) {op : CmpOp} (h : op ≠ .In) (h2 : op ≠ .NotIn) : behindInMarks op b = false := by
  have e1 : (op == CmpOp.In) = false := by cases op <;> first | rfl | exact absurd rfl h
  have e2 : (op == CmpOp.NotIn) = false := by cases op <;> first | rfl | exact absurd rfl h2
  cases b <;> simp [behindInMarks, e1, e2]
def tCmp (p : Int → Int → Bool) (ta tb : TE) : TE := fun σ H Q => t2I ta tb (fun i j H2 => Q (.bl (p i j)) H2) σ H
abbrev tLt : TE → TE → TE := tCmp fun i j => decide (i < j)
abbrev tLe : TE → TE → TE := tCmp fun i j => decide (i ≤ j)
abbrev tGt : TE → TE → TE := tCmp fun i j => decide (j < i)
abbrev tGe : TE → TE → TE := tCmp fun i j => decide (j ≤ i)
abbrev tEqI : TE → TE → TE := tCmp fun i j => decide (i = j)
abbrev tNeI : TE → TE → TE := tCmp fun i j => !decide (i = j)
theorem pc_int {op : CmpOp} {p : Int → Int → Bool} (ha : PE X a ta) (hb : PE X b tb)
    (rule : ∀ (i j : Int) (t u : Tok) (Q : Value → Shared → Prop) (s : Shared), Q (.bool (p i j)) s → wpAny (model X.prog X.w) X.A (compareOp op (.int i t) (.int j u)) Q X.xe s) : PC X op a b (tCmp p ta tb) := by
  intro pins s σ H Q I h
  refine bin ha hb I h fun v u s2 x y H2 I2 rx ry q => ?_
  obtain ⟨i, j, rfl, rfl, q⟩ := q
  obtain ⟨t, rfl⟩ := rx
  obtain ⟨t', rfl⟩ := ry
  exact rule i j t t' _ s2 ⟨.bl _, H2, I2, rfl, q⟩
theorem pc_lt (ha : PE X a ta) (hb : PE X b tb) : PC X .Lt a b (tLt ta tb) := pc_int ha hb fun _ _ _ _ _ _ h => lt_int h
theorem pc_le (ha : PE X a ta) (hb : PE X b tb) : PC X .LtE a b (tLe ta tb) := pc_int ha hb fun _ _ _ _ _ _ h => le_int h
theorem pc_gt (ha : PE X a ta) (hb : PE X b tb) : PC X .Gt a b (tGt ta tb) := pc_int ha hb fun _ _ _ _ _ _ h => gt_int h
theorem pc_ge (ha : PE X a ta) (hb : PE X b tb) : PC X .GtE a b (tGe ta tb) := pc_int ha hb fun _ _ _ _ _ _ h => ge_int h
theorem pc_eqI (ha : PE X a ta) (hb : PE X b tb) : PC X .Eq a b (tEqI ta tb) := pc_int ha hb fun _ _ _ _ _ _ h => eq_int (by rw [Bool.beq_eq_decide_eq]; exact h)
theorem pc_neI (ha : PE X a ta) (hb : PE X b tb) : PC X .NotEq a b (tNeI ta tb) := pc_int ha hb fun _ _ _ _ _ _ h => ne_int (by rw [bne, Bool.beq_eq_decide_eq]; exact h)
def tIsN (ta : TE) : TE := fun σ H Q => ta σ H fun x H1 => Q (.bl (decide (x = .non))) H1
def tNotN (ta : TE) : TE := fun σ H Q => ta σ H fun x H1 => Q (.bl (!decide (x = .non))) H1
theorem RelV.none_iff {x : V} {v : Value} (r : RelV x v) : (v == Value.none) = decide (x = .non) := by
  cases x with
  | non => cases r; rfl
  | bl _ => cases r; rfl
  | int _ => obtain ⟨t, rfl⟩ := r; rfl
  | str _ => obtain ⟨t, rfl⟩ := r; rfl
  | byt _ => obtain ⟨t, rfl⟩ := r; rfl
  | flt _ => obtain ⟨t, rfl⟩ := r; rfl
  | ref _ => cases r; rfl
  | ty _ => cases r; rfl
theorem pc_isN {j pos'} (ha : PE X a ta) : PC X .Is a (.Constant .none j pos') (tIsN ta) := by
  intro pins s σ H Q I h
  refine thn (ha pins s σ H _ I h) fun v s1 ⟨x, H1, I1, r1, q1⟩ => ?_
  exact Constant_none (is_none_gen ⟨.bl _, H1, I1, by rw [r1.none_iff]; rfl, q1⟩)
theorem pc_notN {j pos'} (ha : PE X a ta) : PC X .IsNot a (.Constant .none j pos') (tNotN ta) := by
  intro pins s σ H Q I h
  refine thn (ha pins s σ H _ I h) fun v s1 ⟨x, H1, I1, r1, q1⟩ => ?_
  exact Constant_none (isnot_none_gen ⟨.bl _, H1, I1, by rw [r1.none_iff]; rfl, q1⟩)
def tB (t : TE) : TT := fun σ H Q => t σ H fun x H1 => ∃ c, x = .bl c ∧ Q c H1
theorem pe_cmp {op : CmpOp} {t : TE} (h : PC X op a b t) (h1 : behindInMarks op b = false := by first | exact nobehind _ (by decide) (by decide) | rfl) : PE X (.Compare a [op] [b] pos) t := fun pins s σ H Q I hw => wpAny_Compare1 (h pins s σ H Q I hw) h1
theorem pt_cmp {op : CmpOp} {t : TE} (h : PC X op a b t) (h1 : behindInMarks op b = false := by first | exact nobehind _ (by decide) (by decide) | rfl) : PT X (.Compare a [op] [b] pos) (tB t) := by
  intro pins s σ H Q I hw
  refine wpAny_isTrue_Compare1 (thn (h pins s σ H _ I hw) fun v s1 h1 => thn h1 fun u s2 h2 => thn h2 fun c s3 ⟨x, H1, I1, r1, q1⟩ => ?_) h1
  obtain ⟨d, rfl, q⟩ := q1
  cases r1
  exact wpAny_truthy_bool ⟨H1, I1, q⟩
theorem pt_val {e : Expr} {t : TE} (h : PE X e t) (he : ∀ whole, isTrue e X.env whole = (do let v ← whole; standAt e.pos; holding [v] (truthy v)) := by intro _; rfl) : PT X e (tB t) := by
  intro pins s σ H Q I hw
  refine isTrue_plain (thn (h pins s σ H _ I hw) fun v s1 ⟨x, H1, I1, r1, q1⟩ => ?_) (he _)
  obtain ⟨d, rfl, q⟩ := q1
  cases r1
  exact wpAny_truthy_bool ⟨H1, I1, q⟩
variable {tA tB' : TT} {rest : List Expr}
def tAnd (t u : TT) : TT := fun σ H Q => t σ H fun c H1 => if c = true then u σ H1 Q else Q false H1
def tOr (t u : TT) : TT := fun σ H Q => t σ H fun c H1 => if c = true then Q true H1 else u σ H1 Q
def tNot (t : TT) : TT := fun σ H Q => t σ H fun c H1 => Q (!c) H1
theorem pw_and1 (ha : PT X a tA) : PW X (.BoolOp .And [a] pos) tA := by
  intro wh pins s σ H Q I h
  refine isTrue_and (thn (ha pins s σ H Q I h) fun c s1 e => ?_)
  cases c with
  | true => exact isTrue_and_nil e
  | false => exact e
theorem pw_or1 (ha : PT X a tA) : PW X (.BoolOp .Or [a] pos) tA := by
  intro wh pins s σ H Q I h
  refine isTrue_or (thn (ha pins s σ H Q I h) fun c s1 e => ?_)
  cases c with
  | false => exact isTrue_or_nil e
  | true => exact e
theorem pw_and (ha : PT X a tA) (hb : PW X (.BoolOp .And (b :: rest) pos) tB') : PW X (.BoolOp .And (a :: b :: rest) pos) (tAnd tA tB') := by
  intro wh pins s σ H Q I h
  refine isTrue_and (thn (ha pins s σ H _ I h) fun c s1 ⟨H1, I1, q1⟩ => ?_)
  cases c with
  | true => exact hb wh pins s1 σ H1 Q I1 q1
  | false => exact ⟨H1, I1, q1⟩
theorem pw_or (ha : PT X a tA) (hb : PW X (.BoolOp .Or (b :: rest) pos) tB') : PW X (.BoolOp .Or (a :: b :: rest) pos) (tOr tA tB') := by
  intro wh pins s σ H Q I h
  refine isTrue_or (thn (ha pins s σ H _ I h) fun c s1 ⟨H1, I1, q1⟩ => ?_)
  cases c with
  | true => exact ⟨H1, I1, q1⟩
  | false => exact hb wh pins s1 σ H1 Q I1 q1
theorem pt_not (ha : PT X a tA) : PT X (.UnaryOp .Not a pos) (tNot tA) := by
  intro pins s σ H Q I h
  exact isTrue_not (ha pins s σ H (fun c H1 => Q (!c) H1) I h)
def tAndV (ta tb : TE) : TE := fun σ H Q => ta σ H fun x H1 => ∃ c, x = .bl c ∧ if c = true then tb σ H1 Q else Q (.bl false) H1
def tOrV (ta tb : TE) : TE := fun σ H Q => ta σ H fun x H1 => ∃ c, x = .bl c ∧ if c = true then Q (.bl true) H1 else tb σ H1 Q
def tNotV (ta : TE) : TE := fun σ H Q => ta σ H fun x H1 => ∃ c, x = .bl c ∧ Q (.bl (!c)) H1
theorem pe_one {op} {t : TE} (h : PE X a t) : PE X (.BoolOp op [a] pos) t := fun pins s σ H Q I hw => BoolOp_one (h pins s σ H Q I hw)
theorem pe_and (ha : PE X a ta) (hb : PE X (.BoolOp .And (b :: rest) pos) tb) : PE X (.BoolOp .And (a :: b :: rest) pos) (tAndV ta tb) := by
  intro pins s σ H Q I h
  refine BoolOp_and (thn (ha pins s σ H _ I h) fun v s1 ⟨x, H1, I1, r1, q1⟩ => ?_)
  obtain ⟨c, rfl, q1⟩ := q1
  cases r1
  refine wpAny_truthy_bool ?_
  cases c with
  | true => exact hb pins s1 σ H1 Q I1 q1
  | false => exact ⟨.bl false, H1, I1, rfl, q1⟩
theorem pe_or (ha : PE X a ta) (hb : PE X (.BoolOp .Or (b :: rest) pos) tb) : PE X (.BoolOp .Or (a :: b :: rest) pos) (tOrV ta tb) := by
  intro pins s σ H Q I h
  refine BoolOp_or (thn (ha pins s σ H _ I h) fun v s1 ⟨x, H1, I1, r1, q1⟩ => ?_)
  obtain ⟨c, rfl, q1⟩ := q1
  cases r1
  refine wpAny_truthy_bool ?_
  cases c with
  | false => exact hb pins s1 σ H1 Q I1 q1
  | true => exact ⟨.bl true, H1, I1, rfl, q1⟩
theorem pe_not (ha : PE X a ta) : PE X (.UnaryOp .Not a pos) (tNotV ta) := by
  intro pins s σ H Q I h
  refine UnaryOp_ (thn (ha pins s σ H _ I h) fun v s1 ⟨x, H1, I1, r1, q1⟩ => ?_)
  obtain ⟨c, rfl, q1⟩ := q1
  cases r1
  exact not_of (wpAny_truthy_bool ⟨.bl (!c), H1, I1, rfl, q1⟩)
def tIf (t : TT) (ta tb : TE) : TE := fun σ H Q => t σ H fun c H1 => if c = true then ta σ H1 Q else tb σ H1 Q
theorem pe_ifExp {c : Expr} (hc : PT X c tA) (ha : PE X a ta) (hb : PE X b tb) : PE X (.IfExp c a b pos) (tIf tA ta tb) := by
  intro pins s σ H Q I h
  refine wpAny_IfExp (thn (hc pins s σ H _ I h) fun d s1 ⟨H1, I1, q1⟩ => ?_)
  cases d with
  | true => exact ha pins s1 σ H1 Q I1 q1
  | false => exact hb pins s1 σ H1 Q I1 q1
end
end L2
namespace L2
open PySem PySem.Spec PyProof.Rows
def SqL (K : PySem.W.Frag) (H : Hp) (a : Addr) (xs : List V) : Prop :=
  Rd H a (.lst xs) ∨
    ∃ (o : Obj) (its : Array Value) (n : Nat), K.lookup a = some o ∧ o.cls = .type "list" ∧ o.dict = none ∧ o.data = .seq its n ∧ its.size ≤ sizeLine ∧ Vals xs its.toList
def SqT (K : PySem.W.Frag) (H : Hp) (a : Addr) (xs : List V) : Prop :=
  Rd H a (.tup xs) ∨
    ∃ (o : Obj) (its : Array Value) (n : Nat), K.lookup a = some o ∧ o.cls = .type "tuple" ∧ o.data = .seq its n ∧ its.size ≤ sizeLine ∧ Vals xs its.toList
def absV : Value → Option V
  | .none => some .non
  | .bool b => some (.bl b)
  | .int i _ => some (.int i)
  | .str x _ => some (.str x)
  | .bytes b _ => some (.byt b)
  | .float b _ => some (.flt b)
  | .ref a => some (.ref a)
  | .type n => some (.ty n)
  | _ => none
theorem RelV.abs {x : V} {u : Value} (r : RelV x u) : absV u = some x := by
  cases x with
  | non => cases r; rfl
  | bl _ => cases r; rfl
  | int _ => obtain ⟨t, rfl⟩ := r; rfl
  | str _ => obtain ⟨t, rfl⟩ := r; rfl
  | byt _ => obtain ⟨t, rfl⟩ := r; rfl
  | flt _ => obtain ⟨t, rfl⟩ := r; rfl
  | ref _ => cases r; rfl
  | ty _ => cases r; rfl
theorem RelV.inj {x y : V} {u : Value} (r : RelV x u) (q : RelV y u) : x = y := Option.some.inj (r.abs.symm.trans q.abs)
theorem Vals.inj : ∀ {xs ys : List V} {us : List Value}, Vals xs us → Vals ys us → xs = ys
  | _, _, _, .nil, .nil => rfl
  | _, _, _, .cons r t, .cons r' t' => by rw [r.inj r', Vals.inj t t']
section
variable {X : Cx} {pins : List (Addr × Obj)} {σ : St} {H : Hp} {s : Shared} {a : Addr} {xs ys : List V}
theorem SqL.of {K : PySem.W.Frag} (h : H a = some (.lst xs)) : SqL K H a xs := .inl (.inl h)
theorem SqT.of {K : PySem.W.Frag} (h : H a = some (.tup xs)) : SqT K H a xs := .inl (.inl h)
theorem Inv.list (I : Inv X pins σ H s) (h : SqL X.K H a xs) : ∃ its : List Value, Vals xs its ∧ PlainL s.heap a its.toArray ∧ xs.length ≤ sizeLine := by
  rcases h with h | ⟨o, its, n, hk, hc, hd, hs, hz, r⟩
  · obtain ⟨z, its, n, r, e⟩ := h.ok I.hok
    exact ⟨its, r, ⟨_, n, e, rfl, rfl, rfl⟩, z⟩
  · refine ⟨its.toList, r, ⟨o, n, I.kIn a o hk, hc, hd, by simpa using hs⟩, ?_⟩
    have e := r.length
    simp only [Array.length_toList] at e
    omega
theorem Inv.tuple (I : Inv X pins σ H s) (h : SqT X.K H a xs) : ∃ its : List Value, Vals xs its ∧ IsTup s.heap a its.toArray ∧ xs.length ≤ sizeLine := by
  rcases h with h | ⟨o, its, n, hk, hc, hs, hz, r⟩
  · obtain ⟨z, its, r, p⟩ := h.ok I.hok
    exact ⟨its, r, p, z⟩
  · refine ⟨its.toList, r, ⟨o, I.kIn a o hk, hc, n, by simpa using hs⟩, ?_⟩
    have e := r.length
    simp only [Array.length_toList] at e
    omega
theorem Inv.list_inj (I : Inv X pins σ H s) (h : SqL X.K H a xs) (h' : SqL X.K H a ys) : xs = ys := by
  obtain ⟨its, r, ⟨o, n, e, _, _, d⟩, _⟩ := I.list h
  obtain ⟨its', r', ⟨o', n', e', _, _, d'⟩, _⟩ := I.list h'
  rw [e] at e'; cases e'
  rw [d] at d'
  injection d' with d1 _
  have : its = its' := by simpa using congrArg Array.toList d1
  subst this
  exact r.inj r'
theorem Inv.tuple_inj (I : Inv X pins σ H s) (h : SqT X.K H a xs) (h' : SqT X.K H a ys) : xs = ys := by
  obtain ⟨its, r, ⟨o, e, _, n, d⟩, _⟩ := I.tuple h
  obtain ⟨its', r', ⟨o', e', _, n', d'⟩, _⟩ := I.tuple h'
  rw [e] at e'; cases e'
  rw [d] at d'
  injection d' with d1 _
  have : its = its' := by simpa using congrArg Array.toList d1
  subst this
  exact r.inj r'
end
abbrev Cx.wish (X : Cx) (E : Value → Shared → Prop) : Cx := { X with xe := E }
abbrev Cx.nox (X : Cx) : Cx := X.wish fun _ _ => False
theorem Cx.Ok.wish {X : Cx} (ok : X.Ok) (E : Value → Shared → Prop) : (X.wish E).Ok :=
  ⟨ok.mod, ok.kind, ok.glob, ok.blt, ok.above, ok.inj, ok.has, ok.cab, ok.hd, ok.frames, ok.stk, ok.exf, ok.bs, ok.bsz, ok.noex, ok.exfs, ok.funs, ok.frf⟩
theorem Cx.Ok.unwish {X : Cx} {E : Value → Shared → Prop} (ok : (X.wish E).Ok) : X.Ok :=
  ⟨ok.mod, ok.kind, ok.glob, ok.blt, ok.above, ok.inj, ok.has, ok.cab, ok.hd, ok.frames, ok.stk, ok.exf, ok.bs, ok.bsz, ok.noex, ok.exfs, ok.funs, ok.frf⟩
section
variable {X : Cx} {pins : List (Addr × Obj)} {σ : St} {H : Hp} {s : Shared} {E : Value → Shared → Prop}
theorem Inv.wish (I : Inv X pins σ H s) (E : Value → Shared → Prop) : Inv (X.wish E) pins σ H s := ⟨I.ok.wish E, I.os, I.bare, I.base, I.loc, I.cell, I.free, I.freeC, I.pin, I.hok, I.len⟩
theorem Inv.unwish (I : Inv (X.wish E) pins σ H s) : Inv X pins σ H s := ⟨I.ok.unwish, I.os, I.bare, I.base, I.loc, I.cell, I.free, I.freeC, I.pin, I.hok, I.len⟩
theorem SP.unwish {D : Ends} {f : Flow} {s' : Shared} (h : SP (X.wish E) pins D f s') : SP X pins D f s' := by
  cases f with
  | next => obtain ⟨σ', H', I, q⟩ := h; exact ⟨σ', H', I.unwish, q⟩
  | brk => obtain ⟨σ', H', I, q⟩ := h; exact ⟨σ', H', I.unwish, q⟩
  | cont => obtain ⟨σ', H', I, q⟩ := h; exact ⟨σ', H', I.unwish, q⟩
  | ret u => obtain ⟨v, σ', H', I, r, q⟩ := h; exact ⟨v, σ', H', I.unwish, r, q⟩
theorem PE.nox {e : Expr} {t : TE} (h : PE X.nox e t) : PE X e t := fun pins s σ H Q I hw =>
  wpAny_mono (h pins s σ H Q (I.wish _) hw) (fun _ _ ⟨v, H', I', r, q⟩ => ⟨v, H', I'.unwish, r, q⟩) fun _ _ z => False.elim z
theorem PT.nox {e : Expr} {t : TT} (h : PT X.nox e t) : PT X e t := fun pins s σ H Q I hw =>
  wpAny_mono (h pins s σ H Q (I.wish _) hw) (fun _ _ ⟨H', I', q⟩ => ⟨H', I'.unwish, q⟩) fun _ _ z => False.elim z
theorem PSs.nox {st : List Stmt} {t : TS} (h : PSs X.nox st t) : PSs X st t := fun pins s σ H D I hw =>
  wpAny_mono (h pins s σ H D (I.wish _) hw) (fun _ _ q => q.unwish) fun _ _ z => False.elim z
end
section
variable {X : Cx} {st : Stmt} {rest : List Stmt} {t u : TS} {e : Expr} {te : TE} {pos : Pos}
def tNext : TS := fun D σ H => D.nx σ H
def tSeq (t u : TS) : TS := fun D σ H => t { D with nx := u D } σ H
theorem pss_nil : PSs X [] tNext := fun _ _ σ H _ I h => wpAny_execs_nil ⟨σ, H, I, h⟩
theorem pss_cons (h1 : PS X st t) (h2 : PSs X rest u) : PSs X (st :: rest) (tSeq t u) := by
  intro pins s σ H D I h
  refine wpAny_execs_cons (thn (h1 pins s σ H { D with nx := u D } I h) fun f s1 q => ?_)
  cases f with
  | next =>
    obtain ⟨σ', H', I', q⟩ := q
    exact h2 pins s1 σ' H' D I' q
  | ret v => exact q
  | brk => exact q
  | cont => exact q
theorem pss_one (h1 : PS X st t) : PSs X [st] t := by
  intro pins s σ H D I h
  refine wpAny_execs_cons (thn (h1 pins s σ H D I h) fun f s1 q => ?_)
  cases f with
  | next => exact wpAny_execs_nil q
  | ret v => exact q
  | brk => exact q
  | cont => exact q
def tBreak : TS := fun D σ H => D.bk σ H
def tCont : TS := fun D σ H => D.ct σ H
theorem ps_pass : PS X (.Pass pos) tNext := fun _ _ σ H _ I h => wpAny_Pass ⟨σ, H, I, h⟩
theorem ps_break : PS X (.Break pos) tBreak := fun _ _ σ H _ I h => wpAny_Break ⟨σ, H, I, h⟩
theorem ps_continue : PS X (.Continue pos) tCont := fun _ _ σ H _ I h => wpAny_Continue ⟨σ, H, I, h⟩
theorem Inv.quiet {pins : List (Addr × Obj)} {σ : St} {H : Hp} {s : Shared} (I : Inv X pins σ H s) : interactive X.env = false := by simp [interactive, I.ok.kind]
theorem ps_doc {x j pos pos'} : PS X (.Expr (.Constant (.str x) j pos) pos') tNext := fun _ s σ H _ I h => wpAny_Expr (Calls.Constant_str (show SP X _ _ .next { s with toks := s.toks + 1 } from ⟨σ, H, I.tok _, h⟩)) I.quiet
def tDrop (te : TE) : TS := fun D σ H => te σ H fun _ H1 => D.nx σ H1
theorem ps_expr (he : PE X e te) (hs : swapsWith e none pos.line X.env = pure false := by rfl) : PS X (.Expr e pos) (tDrop te) := by
  intro pins s σ H D I h
  exact wpAny_Expr_any (thn (he pins s σ H _ I h) fun v s1 ⟨x, H1, I1, r1, q1⟩ => ⟨σ, H1, I1, q1⟩) I.quiet hs
def tRet (te : TE) : TS := fun D σ H => te σ H D.rt
theorem ps_ret (he : PE X e te) : PS X (.Return (some e) pos) (tRet te) := by
  intro pins s σ H D I h
  exact wpAny_Return_some (thn (he pins s σ H _ I h) fun v s1 ⟨x, H1, I1, r1, q1⟩ => ⟨x, σ, H1, I1, r1, q1⟩)
def tRetN : TS := fun D _ H => D.rt .non H
theorem ps_retN : PS X (.Return none pos) tRetN := fun _ _ σ H _ I h => wpAny_Return_none ⟨.non, σ, H, I, rfl, h⟩
def tIfS (c : TT) (t u : TS) : TS := fun D σ H => c σ H fun b H1 => if b = true then t D σ H1 else u D σ H1
theorem ps_if {c : Expr} {a b : List Stmt} {tc : TT} (hc : PT X c tc) (ha : PSs X a t) (hb : PSs X b u) : PS X (.If c a b pos) (tIfS tc t u) := by
  intro pins s σ H D I h
  refine wpAny_If (thn (hc pins s σ H _ I h) fun d s1 ⟨H1, I1, q1⟩ => ?_)
  cases d with
  | true => exact ha pins s1 σ H1 D I1 q1
  | false => exact hb pins s1 σ H1 D I1 q1
def tNever : TS := fun _ _ _ => False
theorem ps_never : PS X st tNever := fun _ _ _ _ _ _ h => h.elim
theorem pss_never {sts : List Stmt} : PSs X sts tNever := fun _ _ _ _ _ _ h => h.elim
end
abbrev TG := V → St → Hp → (St → Hp → Prop) → Prop
abbrev TGs := List V → St → Hp → (St → Hp → Prop) → Prop
def PG (X : Cx) (target : Expr) (t : TG) : Prop :=
  ∀ (pins : List (Addr × Obj)) (s : Shared) (σ : St) (H : Hp) (v : V) (u : Value) (Q : St → Hp → Prop), Inv X pins σ H s → RelV v u → t v σ H Q →
    wpAny (model X.prog X.w) X.A (assign target X.env u) (fun _ s' => ∃ σ' H', Inv X pins σ' H' s' ∧ Q σ' H') X.xe s
def PGs (X : Cx) (ts : List Expr) (t : TGs) : Prop :=
  ∀ (pins : List (Addr × Obj)) (s : Shared) (σ : St) (H : Hp) (vs : List V) (us : List Value) (Q : St → Hp → Prop), Inv X pins σ H s → Vals vs us → t vs σ H Q →
    wpAny (model X.prog X.w) X.A (assignInOrder ((assignEach ts X.env).map (·.2)) us) (fun _ s' => ∃ σ' H', Inv X pins σ' H' s' ∧ Q σ' H') X.xe s
abbrev TSet := V → V → V → Hp → (Hp → Prop) → Prop
def PSet (X : Cx) (t : TSet) : Prop :=
  ∀ (pins : List (Addr × Obj)) (s : Shared) (σ : St) (H : Hp) (o i v : V) (ov iv u : Value) (Q : Hp → Prop), Inv X pins σ H s → RelV o ov → RelV i iv → RelV v u → t o i v H Q →
    wpAny (model X.prog X.w) X.A (setItem ov iv u) (fun _ s' => ∃ H', Inv X pins σ H' s' ∧ Q H') X.xe s
abbrev TIp := V → V → Hp → VK → Prop
def PIp (X : Cx) (op : Operator) (t : TIp) : Prop :=
  ∀ (pins : List (Addr × Obj)) (s : Shared) (σ : St) (H : Hp) (x y : V) (v u : Value) (Q : VK), Inv X pins σ H s → RelV x v → RelV y u → t x y H Q →
    wpAny (model X.prog X.w) X.A (inplaceOp op v u) (EP X pins σ Q) X.xe s
section
variable {X : Cx} {pos : Pos}
def gName (i : Nat) : TG := fun v σ H Q => Q (σ.set i (some v)) H
theorem pg_name {i : Nat} {x : Str} (hN : X.N.Nodup) (hi : X.N[i]? = some x) (hx : Loc X.env.scope x) (hf : X.fn x = true ∨ X.env.scope.names.lookup x = some .local := by first | exact .inl rfl | exact .inr rfl | assumption) : PG X (.Name x pos) (gName i) := by
  intro pins s σ H v u Q I r h
  exact wpAny_assign_Name (store_ok I hN hi hx r (fun s' I' => ⟨_, H, I', h⟩) hf)
def gNil : TGs := fun vs σ H Q => vs = [] ∧ Q σ H
def gCons (t : TG) (u : TGs) : TGs := fun vs σ H Q => ∃ v r, vs = v :: r ∧ t v σ H fun σ' H' => u r σ' H' Q
theorem pgs_nil : PGs X [] gNil := by
  intro pins s σ H vs us Q I r h
  obtain ⟨e, h⟩ := h
  subst e
  cases r
  exact assignInOrder_nil ⟨σ, H, I, h⟩
theorem pgs_cons {e : Expr} {es : List Expr} {t : TG} {u : TGs} (h1 : PG X e t) (h2 : PGs X es u)
    (hs : (assignEach (e :: es) X.env).map (·.2) = assign e X.env :: (assignEach es X.env).map (·.2) := by rfl) : PGs X (e :: es) (gCons t u) := by
  intro pins s σ H vs us Q I r h
  obtain ⟨v, vr, e1, h⟩ := h
  subst e1
  cases r with
  | cons r rr =>
    rw [hs]
    refine assignInOrder_cons (thn (h1 pins s σ H _ _ _ I r h) fun _ s1 ⟨σ1, H1, I1, q1⟩ => ?_)
    exact h2 pins s1 σ1 H1 _ _ Q I1 rr q1
def gTup (K : PySem.W.Frag) (n : Nat) (t : TGs) : TG := fun v σ H Q => ∃ a xs, v = .ref a ∧ SqT K H a xs ∧ xs.length = n ∧ t xs σ H Q
theorem pg_tup {es : List Expr} {k : Nat} {t : TGs} {n : Nat} (hc : X.calm = true) (h : PGs X es t)
    (hn : (assignEach es X.env).length = n := by rfl) (hst : (assignEach es X.env).findIdx? (·.1) = none := by rfl) : PG X (.Tuple es k pos) (gTup X.K n t) := by
  intro pins s σ H v u Q I r hw
  obtain ⟨a, xs, e1, hq, hl, hw⟩ := hw
  subst e1
  cases r
  obtain ⟨its, rv, ht, hz⟩ := I.tuple hq
  refine assign_Tuple_tuple (I.ok.hd hc) ht (by simp [hn, ← hl, rv.length]) hst fun h' hx => ?_
  have I1 : Inv X pins σ H { s with heap := h' } := I.kept (t' := s.toks) fun b o e => hx b o (Nat.ne_of_lt (Heap.lt_size e)) e
  exact h pins _ σ H xs _ Q I1 (by simpa using rv) hw
def gSub (to ti : TE) (t : TSet) : TG := fun v σ H Q => to σ H fun o H1 => ti σ H1 fun i H2 => t o i v H2 fun H3 => Q σ H3
theorem pg_sub {o i : Expr} {to ti : TE} {t : TSet} (ho : PE X o to) (hi : PE X i ti) (hs : PSet X t)
    (ha : ∀ v, assign (.Subscript o i pos) X.env v = (do
      let ov ← holding [v] (eval o X.env)
      let iv ← holding [v, ov] (eval i X.env)
      standAt pos
      holding [v, ov, iv] (setItem ov iv v)
      release [v, ov, iv] []) := by intro _; rfl) : PG X (.Subscript o i pos) (gSub to ti t) := by
  intro pins s σ H v u Q I r h
  rw [ha]
  refine wpAny_bind (wpAny_holding (thn (ho pins s σ H _ I h) fun ov s1 ⟨x, H1, I1, r1, q1⟩ => ?_))
  refine wpAny_bind (wpAny_holding (thn (hi pins s1 σ H1 _ I1 q1) fun iv s2 ⟨y, H2, I2, r2, q2⟩ => ?_))
  refine wpAny_bind (wpAny_standAt (wpAny_bind (wpAny_holding (thn (hs pins s2 σ H2 x y v ov iv u _ I2 r1 r2 r q2) fun _ s3 ⟨H3, I3, q3⟩ => ?_))))
  exact wpAny_release ⟨σ, H3, I3, q3⟩
def tAsg (te : TE) (g : TG) : TS := fun D σ H => te σ H fun x H1 => g x σ H1 D.nx
theorem ps_asg {tg e : Expr} {te : TE} {g : TG} (he : PE X e te) (hg : PG X tg g) (hs : swapsWithSole [tg] e pos.line X.env = pure false := by rfl) (hw : swappedStores [tg] e X.env = pure none := by rfl)
    (h1 : (assignEach [tg] X.env).map (·.2) = [assign tg X.env] := by rfl) : PS X (.Assign [tg] e pos) (tAsg te g) := by
  intro pins s σ H D I h
  refine wpAny_Assign_stores (thn (he pins s σ H _ I h) fun v s1 ⟨x, H1, I1, r1, q1⟩ => ?_) hs hw
  rw [h1]
  exact thn (hg pins s1 σ H1 x v _ I1 r1 q1) fun _ s2 q => q
theorem ps_set {i : Nat} {x : Str} {e : Expr} {te : TE} {pos' : Pos} (hN : X.N.Nodup) (hi : X.N[i]? = some x) (hx : Loc X.env.scope x) (he : PE X e te) (hs : swapsWith e (some (.Name x pos')) pos.line X.env = pure false := by rfl) (hf : X.fn x = true ∨ X.env.scope.names.lookup x = some .local := by first | exact .inl rfl | exact .inr rfl | assumption) :
    PS X (.Assign [.Name x pos'] e pos) (tAsg te (gName i)) := by
  intro pins s σ H D I h
  refine wpAny_Assign_Name (thn (he pins s σ H _ I h) fun v s1 ⟨y, H1, I1, r1, q1⟩ => ?_) hs
  exact store_ok I1 hN hi hx r1 (fun s2 I2 => ⟨_, H1, I2, q1⟩) hf
def tPar (i j : Nat) (ta : TA) : TS := fun D σ H => ta σ H fun vs H1 => ∃ v w, vs = [v, w] ∧ D.nx ((σ.set i (some v)).set j (some w)) H1
theorem ps_par {i j : Nat} {x y : Str} {a b : Expr} {ta : TA} {px py pt : Pos} {kt k2 pt2} (hc : X.calm = true) (hN : X.N.Nodup) (hi : X.N[i]? = some x) (hj : X.N[j]? = some y) (hij : i ≠ j)
    (hx : X.env.scope.names.lookup x = some .local) (hy : X.env.scope.names.lookup y = some .local) (ha : PA X [a, b] ta)
    (hw : swappedStores [.Tuple [.Name x px, .Name y py] kt pt] (.Tuple [a, b] k2 pt2) X.env = pure (some [x, y]))
    (hs : swapsWithSole [.Tuple [.Name x px, .Name y py] kt pt] (.Tuple [a, b] k2 pt2) pos.line X.env = pure false := by rfl) :
    PS X (.Assign [.Tuple [.Name x px, .Name y py] kt pt] (.Tuple [a, b] k2 pt2) pos) (tPar i j ta) := by
  intro pins s σ H D I h
  rw [exec_Assign_arm]
  refine wpAny_bind (wpAny_standAt ?_)
  rw [hs]
  refine wpAny_bind (wpAny_pure ?_)
  rw [if_neg (by decide)]
  refine wpAny_bind (Tuple_ (thn (ha _ pins s σ H _ I h) fun us s1 ⟨vs, H1, I1, r1, q1⟩ => ?_))
  obtain ⟨v, w, e1, q1⟩ := q1
  subst e1
  obtain ⟨u1, u2, rfl, rv, rw'⟩ : ∃ u1 u2, us = [u1, u2] ∧ RelV v u1 ∧ RelV w u2 := by
    cases r1 with
    | cons p q =>
      cases q with
      | cons p' q' =>
        cases q'
        exact ⟨_, _, rfl, p, p'⟩
  refine wpAny_newObj_type ?_ (by show 2 ≤ sizeLine; decide)
  have I2 : Inv X pins σ H1 { s1 with heap := s1.heap.push { cls := .type "tuple", data := .seq [u1, u2].toArray } } := I1.kept (t' := s1.toks) fun b o e => Heap.get?_push_of_some _ e
  rw [hw]
  refine wpAny_bind (wpAny_pure ?_)
  show wpAny (model X.prog X.w) X.A (do rule "assign.swapped-stores"; let items ← unpackItems (.ref s1.heap.objs.size) 2 none; assignInOrder [fun v => bindName X.env y v, fun v => bindName X.env x v] items.reverse; pure Flow.next) _ _ _
  refine wpAny_bind (wpAny_rule (wpAny_bind (unpackItems_tuple (items := #[u1, u2]) (I.ok.hd hc) (IsTup.new s1.heap _) fun h' hx' => ?_)))
  have I3 := I2.kept (h' := h') (t' := s1.toks) fun b o e => hx' b o (Nat.ne_of_lt (Heap.lt_size e)) e
  show wpAny _ _ (assignInOrder [fun v => bindName X.env y v, fun v => bindName X.env x v] [u2, u1] >>= fun _ => pure Flow.next) _ _ _
  refine wpAny_bind (assignInOrder_cons (wpAny_bindName (store_ok I3 hN hj (.inl hy) rw' (fun s2 I4 => ?_) (.inr hy))))
  refine assignInOrder_cons (wpAny_bindName (store_ok I4 hN hi (.inl hx) rv (fun s3 I5 => assignInOrder_nil (wpAny_pure ?_)) (.inr hx)))
  rw [List.set_comm _ _ (Ne.symm hij)] at I5
  exact ⟨_, H1, I5, q1⟩
def tAug (i : Nat) (te : TE) (ti : TIp) : TS := fun D σ H => ∃ x, σ[i]? = some (some x) ∧ te σ H fun y H1 => ti x y H1 fun z H2 => D.nx (σ.set i (some z)) H2
theorem ps_aug {i : Nat} {x : Str} {e : Expr} {te : TE} {op : Operator} {ti : TIp} {pos' : Pos} (hN : X.N.Nodup) (hi : X.N[i]? = some x) (hx : Loc X.env.scope x) (he : PE X e te) (ho : PIp X op ti) (hf : X.fn x = true ∨ X.env.scope.names.lookup x = some .local := by first | exact .inl rfl | exact .inr rfl | assumption) :
    PS X (.AugAssign (.Name x pos') op e pos) (tAug i te ti) := by
  intro pins s σ H D I h
  obtain ⟨v, e1, h⟩ := h
  obtain ⟨m, hn, hl⟩ := I.loc
  have vis : Vis X.env.scope x := by rcases hx with k | k; exact .inl k; exact .inr (.inl k)
  obtain ⟨u, r, l⟩ := hl i x v hi e1 vis
  refine wpAny_AugAssign_Name ?_
  have go : wpAny (model X.prog X.w) X.A (eval e X.env) (fun w s₂ => wpAny (model X.prog X.w) X.A (inplaceOp op u w) (fun r s₃ => wpAny (model X.prog X.w) X.A (storeName X.env x r) (fun _ => SP X pins D .next) X.xe s₃) X.xe s₂) X.xe s := by
    refine thn (he pins s σ H _ I h) fun w s1 ⟨y, H1, I1, r1, q1⟩ => ?_
    refine thn (ho pins s1 σ H1 v y u w _ I1 r r1 q1) fun z s2 ⟨zv, H2, I2, r2, q2⟩ => ?_
    exact store_ok I2 hN hi hx r2 (fun s3 I3 => ⟨_, H2, I3, q2⟩) hf
  rcases l with ⟨hk, hm⟩ | ⟨hk, c, hc, hcell⟩
  · exact wpAny_loadName_local I.ok.kind hk hn hm go
  · rcases hk with hk | hk
    · exact wpAny_loadName_cell I.ok.kind hk hc hcell go
    · rcases hx with k | k
      · have : X.env.scope.names.lookup x = some .free := hk
        rw [k] at this; cases this
      · have : X.env.scope.names.lookup x = some .free := hk
        rw [k] at this; cases this
def tAugS (to ti te : TE) (tget : V → V → Hp → VK → Prop) (tip : TIp) (tset : TSet) : TS := fun D σ H => to σ H fun o H1 => ti σ H1 fun i H2 => tget o i H2 fun x H3 => te σ H3 fun y H4 => tip x y H4 fun z H5 => tset o i z H5 fun H6 => D.nx σ H6
def PGet (X : Cx) (t : V → V → Hp → VK → Prop) : Prop :=
  ∀ (pins : List (Addr × Obj)) (s : Shared) (σ : St) (H : Hp) (o i : V) (ov iv : Value) (Q : VK), Inv X pins σ H s → RelV o ov → RelV i iv → t o i H Q →
    wpAny (model X.prog X.w) X.A (getItem ov iv) (EP X pins σ Q) X.xe s
theorem ps_augS {o i e : Expr} {to ti te : TE} {tget : V → V → Hp → VK → Prop} {tip : TIp} {tset : TSet} {op : Operator} {tpos : Pos} (ho : PE X o to) (hi : PE X i ti) (hg : PGet X tget) (he : PE X e te) (hp : PIp X op tip) (hs : PSet X tset)
    (ha : ∀ ov iv new, augStore i ov iv new = (do holding [new, ov, iv] (setItem ov iv new); release [new, ov, iv] []; pure .next) := by intros; rfl) : PS X (.AugAssign (.Subscript o i tpos) op e pos) (tAugS to ti te tget tip tset) := by
  intro pins s σ H D I h
  refine wpAny_AugAssign_SubscriptAny (thn (ho pins s σ H _ I h) fun ov s1 ⟨x1, H1, I1, r1, q1⟩ => ?_) ha
  refine thn (hi pins s1 σ H1 _ I1 q1) fun iv s2 ⟨x2, H2, I2, r2, q2⟩ => ?_
  refine thn (hg pins s2 σ H2 x1 x2 ov iv _ I2 r1 r2 q2) fun old s3 ⟨x3, H3, I3, r3, q3⟩ => ?_
  refine thn (he pins s3 σ H3 _ I3 q3) fun v s4 ⟨x4, H4, I4, r4, q4⟩ => ?_
  refine thn (hp pins s4 σ H4 x3 x4 old v _ I4 r3 r4 q4) fun new s5 ⟨x5, H5, I5, r5, q5⟩ => ?_
  exact thn (hs pins s5 σ H5 x1 x2 x5 ov iv new _ I5 r1 r2 r5 q5) fun _ s6 ⟨H6, I6, q6⟩ => ⟨σ, H6, I6, q6⟩
def ipI (f : Int → Int → Int) : TIp := fun x y H Q => ∃ i j, x = .int i ∧ y = .int j ∧ Q (.int (f i j)) H
theorem ip_add : PIp X .Add (ipI fun i j => i + j) := by
  intro pins s σ H x y v u Q I r1 r2 h
  obtain ⟨i, j, e1, e2, q⟩ := h
  subst e1; subst e2
  obtain ⟨t, rfl⟩ := r1
  obtain ⟨t', rfl⟩ := r2
  exact iadd_int ⟨.int _, H, I.tok _, ⟨_, rfl⟩, q⟩
theorem ip_sub : PIp X .Sub (ipI fun i j => i - j) := by
  intro pins s σ H x y v u Q I r1 r2 h
  obtain ⟨i, j, e1, e2, q⟩ := h
  subst e1; subst e2
  obtain ⟨t, rfl⟩ := r1
  obtain ⟨t', rfl⟩ := r2
  exact isub_int ⟨.int _, H, I.tok _, ⟨_, rfl⟩, q⟩
end
section
variable {X : Cx} {pos : Pos}
def tWhile (c : TT) (tb : TS) : TS := fun D σ H => ∃ W : Nat → St → Hp → Prop, (∃ m, W m σ H) ∧ ∀ m σ H, W m σ H →
  c σ H fun b H1 => if b = true then ∃ N : St → Hp → Prop, (∀ σ' H', N σ' H' → ∃ m', m' < m ∧ W m' σ' H') ∧ tb { D with nx := N, ct := N, bk := D.nx } σ H1 else D.nx σ H1
theorem ps_while {c : Expr} {body : List Stmt} {tc : TT} {tb : TS} (hp : PassesOwn (model X.prog X.w) X.A X.env X.xe) (hc : PT X c tc) (hb : PSs X body tb) : PS X (.While c body [] pos) (tWhile tc tb) := by
  intro pins s σ H D I h
  obtain ⟨W, ⟨m0, w0⟩, turn⟩ := h
  refine wpAny_While (codeAny_whileLoop (fun n s' => ∃ σ' H', Inv X pins σ' H' s' ∧ W n σ' H') ?_ m0 ⟨σ, H, I, w0⟩)
  rintro n s1 ⟨σ1, H1, I1, w1⟩
  refine wpAny_passesOwn hp (thn (hc pins s1 σ1 H1 _ I1 (turn n σ1 H1 w1)) fun b s2 ⟨H2, I2, q2⟩ => ?_)
  cases b with
  | true =>
    obtain ⟨N, hN, q2⟩ := q2
    rw [if_pos rfl]
    refine wpAny_passesOwn hp (thn (hb pins s2 σ1 H2 _ I2 q2) fun f s3 q3 => ?_)
    cases f with
    | next =>
      obtain ⟨σ3, H3, I3, n3⟩ := q3
      obtain ⟨m', hm, w3⟩ := hN σ3 H3 n3
      exact ⟨m', hm, σ3, H3, I3, w3⟩
    | cont =>
      obtain ⟨σ3, H3, I3, n3⟩ := q3
      obtain ⟨m', hm, w3⟩ := hN σ3 H3 n3
      exact ⟨m', hm, σ3, H3, I3, w3⟩
    | brk => exact q3
    | ret v => exact q3
  | false =>
    rw [if_neg Bool.false_ne_true]
    exact wpAny_execs_nil ⟨σ1, H2, I2, q2⟩
end
structure It where
  go : Nat → Hp → Prop
  yld : Nat → Hp → V → Hp → Prop
  stop : Nat → Hp → Prop
def FpOk (X : Cx) (pins : List (Addr × Obj)) (H : Hp) (b : Addr) : Prop :=
  H b = none ∧ b ≠ X.env.locals ∧ b ∉ X.fs ∧ (b ∈ X.ex ∨ X.s₀.heap.objs.size ≤ b) ∧ (∀ x c, X.env.cells.lookup x = some c → c ≠ b) ∧ ∀ p ∈ X.pn ++ pins, p.1 ≠ b
theorem Inv.fpOk {X : Cx} {pins : List (Addr × Obj)} {σ : St} {H H' : Hp} {s : Shared} {b : Addr} (I : Inv X pins σ H s) (hb : s.heap.objs.size ≤ b) (hn : H' b = none) : FpOk X pins H' b := by
  refine ⟨hn, Nat.ne_of_gt (Nat.lt_of_lt_of_le I.lt hb), I.nofs hb, .inr (Nat.le_trans I.sz hb), fun x c e z => ?_, fun p hp z => ?_⟩
  · obtain ⟨v, q⟩ := I.cell x c e
    exact absurd (Nat.lt_of_lt_of_le q.lt (by rw [z]; exact hb)) (Nat.lt_irrefl _)
  · exact absurd (Nat.lt_of_lt_of_le (Heap.lt_size (I.pin p hp).1) (by rw [z]; exact hb)) (Nat.lt_irrefl _)
structure Turn (P : Program) (w : World) (K : PySem.W.Frag) (tg : Expr) (J : It) (fp : List Addr) (it : Addr) (tn : Nat → Heap → Prop) : Prop where
  mem : it ∈ fp
  obj : ∀ i h, tn i h → ∀ b ∈ fp, ∃ o, h.get? b = some o ∧ ∀ v, o.data ≠ .cell v
  keep : ∀ i h h', tn i h → (∀ b ∈ fp, ∀ o, h.get? b = some o → h'.get? b = some o) → tn i h'
  item : ∀ (X : Cx), X.prog = P → X.w = w → X.K = K → X.calm = true → ∀ (i : Nat) (pins : List (Addr × Obj)) (s : Shared) (σ : St) (H : Hp) (E : Value → Shared → Prop), Inv X pins σ H s → (∀ b ∈ fp, FpOk X pins H b) → tn i s.heap → J.go i H →
    wpAny (model P w) X.A (pyNext (.ref it)) (fun r s1 => ∃ u, r = some u ∧
      wpAny (model P w) X.A (letOwnedTupleGo tg (.ref it) u) (fun _ s2 => ∃ x H', Inv X pins σ H' s2 ∧ RelV x u ∧ J.yld i H x H' ∧ tn (i + 1) s2.heap ∧ ∀ b ∈ fp, H' b = none) E s1) E s
  done : ∀ (X : Cx), X.prog = P → X.w = w → X.K = K → X.calm = true → ∀ (i : Nat) (pins : List (Addr × Obj)) (s : Shared) (σ : St) (H : Hp) (E : Value → Shared → Prop), Inv X pins σ H s → (∀ b ∈ fp, FpOk X pins H b) → tn i s.heap → J.stop i H →
    wpAny (model P w) X.A (pyNext (.ref it)) (fun r s1 => r = none ∧ Inv X pins σ H s1) E s
  self : ∀ (A : Around) (i : Nat) (s : Shared) (Q : Value → Shared → Prop) (E : Value → Shared → Prop), tn i s.heap → Q (.ref it) s → wpAny (model P w) A (pyIter (.ref it)) Q E s
abbrev TI := St → Hp → (It → Hp → Prop) → Prop
def PIE (X : Cx) (pins : List (Addr × Obj)) (σ : St) (tg : Expr) (R : It → Hp → Prop) (itv : Value) (s2 : Shared) : Prop :=
  ∃ (it : Addr) (fp : List Addr) (tn : Nat → Heap → Prop) (J : It) (H' : Hp), itv = .ref it ∧ Inv X pins σ H' s2 ∧ Turn X.prog X.w X.K tg J fp it tn ∧ tn 0 s2.heap ∧ (∀ b ∈ fp, FpOk X pins H' b) ∧ R J H'
def PI (X : Cx) (tg iter : Expr) (wi : TI) : Prop :=
  ∀ (pins : List (Addr × Obj)) (s : Shared) (σ : St) (H : Hp) (R : It → Hp → Prop), Inv X pins σ H s → wi σ H R →
    wpAny (model X.prog X.w) X.A (eval iter X.env) (fun v s1 => wpAny (model X.prog X.w) X.A (pyIter v) (PIE X pins σ tg R) X.xe s1) X.xe s
theorem go_of {M : Model} {A : Around} {E : Value → Shared → Prop} {s : Shared} {tg : Expr} {it : Addr} {u : Value} {o : Obj} {n : String} {vs : Array Value} {Q : Unit → Shared → Prop} (ho : s.heap.get? it = some o) (hc : o.cls = .type n) (hd : o.data = .fields vs)
    (hn : ["enumerate", "zip", "dict_itemiterator", "dict_reverseitemiterator", "odict_iterator", "itertools.zip_longest", "itertools.pairwise"].contains n = false) (hQ : Q () s) : wpAny M A (letOwnedTupleGo tg (.ref it) u) Q E s := by
  unfold letOwnedTupleGo
  cases tg <;> first
    | exact wpAny_pure hQ
    | (cases u <;> first
        | exact wpAny_pure hQ
        | (refine wpAny_bind (wpAny_load ho ?_)
           rw [hc, hd]
           show wpAny M A (if (["enumerate", "zip", "dict_itemiterator", "dict_reverseitemiterator", "odict_iterator", "itertools.zip_longest", "itertools.pairwise"].contains n && vs[0]? == some (rawInt _)) = true then _ else _) Q E s
           rw [if_neg (by intro h; rw [hn, Bool.false_and] at h; cases h)]
           exact wpAny_pure hQ))
def Itl (K : PySem.W.Frag) (a : Addr) : It :=
  ⟨fun i H => ∃ xs x, SqL K H a xs ∧ xs[i]? = some x, fun i H x H' => H' = H ∧ ∀ xs, SqL K H a xs → xs[i]? = some x, fun i H => ∃ xs, SqL K H a xs ∧ xs.length ≤ i⟩
def Itt (K : PySem.W.Frag) (a : Addr) : It :=
  ⟨fun i H => ∃ xs x, SqT K H a xs ∧ xs[i]? = some x, fun i H x H' => H' = H ∧ ∀ xs, SqT K H a xs → xs[i]? = some x, fun i H => ∃ xs, SqT K H a xs ∧ xs.length ≤ i⟩
def Itr (lo : Int) (n : Nat) : It := ⟨fun i _ => i < n, fun i H x H' => H' = H ∧ x = .int (lo + i), fun i _ => n ≤ i⟩
theorem turn_list {P : Program} {w : World} {K : PySem.W.Frag} {tg : Expr} (a it : Addr) : Turn P w K tg (Itl K a) [it] it (fun i h => h.IsListIter it a i) where
  mem := by simp
  obj := fun i h st b hb => by
    have e : b = it := by simpa using hb
    subst e
    obtain ⟨o, e, c, d⟩ := st
    exact ⟨o, e, fun v z => by rw [d] at z; cases z⟩
  keep := fun i h h' st k => st.at fun o e => k it (by simp) o e
  item := by
    intro X hP hw hK hc i pins s σ H E I hf st hg
    subst hP hw hK
    obtain ⟨xs, x, hq, hx⟩ := hg
    obtain ⟨its, rv, p, hz⟩ := I.list hq
    obtain ⟨u, hu, ru⟩ := rv.get hx
    obtain ⟨f0, f1, f2, f3, f4, f5⟩ := hf it (by simp)
    refine wpAny_pyNext_list_item st p.isList (x := u) (by simpa using hu) fun h' st' sb => ?_
    have I1 : Inv X pins σ H { s with heap := h' } := I.turned (t' := s.toks) (fun b o hb e => (sb.2 b hb).trans e) f0 f1 f3 f4 f5
    obtain ⟨o, e, c, d⟩ := id st'
    exact ⟨u, rfl, go_of (s := { s with heap := h' }) e c d (by decide) ⟨x, H, I1, ru, ⟨rfl, fun ys hy => by rw [I.list_inj hy hq]; exact hx⟩, st', fun b hb => (hf b hb).1⟩⟩
  done := by
    intro X hP hw hK hc i pins s σ H E I hf st hg
    subst hP hw hK
    obtain ⟨xs, hq, hx⟩ := hg
    obtain ⟨its, rv, p, hz⟩ := I.list hq
    obtain ⟨f0, f1, f2, f3, f4, f5⟩ := hf it (by simp)
    have hl := rv.length
    exact wpAny_pyNext_list_end (I.ok.hd hc) st p.isList (by simp; omega) fun h' eb => ⟨rfl, I.turned (t' := s.toks) (fun b o hb e => eb b o hb e) f0 f1 f3 f4 f5⟩
  self := fun _ _ _ _ _ st h => wpAny_pyIter_listiter st h
theorem turn_tuple {P : Program} {w : World} {K : PySem.W.Frag} {tg : Expr} (a it : Addr) : Turn P w K tg (Itt K a) [it] it (fun i h => h.IsTupleIter it a i) where
  mem := by simp
  obj := fun i h st b hb => by
    have e : b = it := by simpa using hb
    subst e
    obtain ⟨o, e, c, d⟩ := st
    exact ⟨o, e, fun v z => by rw [d] at z; cases z⟩
  keep := fun i h h' st k => st.at fun o e => k it (by simp) o e
  item := by
    intro X hP hw hK hc i pins s σ H E I hf st hg
    subst hP hw hK
    obtain ⟨xs, x, hq, hx⟩ := hg
    obtain ⟨its, rv, p, hz⟩ := I.tuple hq
    obtain ⟨u, hu, ru⟩ := rv.get hx
    obtain ⟨f0, f1, f2, f3, f4, f5⟩ := hf it (by simp)
    refine wpAny_pyNext_tuple_item st (show s.heap.IsTuple a its.toArray from p) (x := u) (by simpa using hu) fun h' st' sb => ?_
    have I1 : Inv X pins σ H { s with heap := h' } := I.turned (t' := s.toks) (fun b o hb e => (sb.2 b hb).trans e) f0 f1 f3 f4 f5
    obtain ⟨o, e, c, d⟩ := id st'
    exact ⟨u, rfl, go_of (s := { s with heap := h' }) e c d (by decide) ⟨x, H, I1, ru, ⟨rfl, fun ys hy => by rw [I.tuple_inj hy hq]; exact hx⟩, st', fun b hb => (hf b hb).1⟩⟩
  done := by
    intro X hP hw hK hc i pins s σ H E I hf st hg
    subst hP hw hK
    obtain ⟨xs, hq, hx⟩ := hg
    obtain ⟨its, rv, p, hz⟩ := I.tuple hq
    obtain ⟨f0, f1, f2, f3, f4, f5⟩ := hf it (by simp)
    have hl := rv.length
    exact wpAny_pyNext_tuple_end (I.ok.hd hc) st (show s.heap.IsTuple a its.toArray from p) (by simp; omega) fun h' eb => ⟨rfl, I.turned (t' := s.toks) (fun b o hb e => eb b o hb e) f0 f1 f3 f4 f5⟩
  self := fun _ _ _ _ _ st h => wpAny_pyIter_tupleiter st h
theorem turn_range {P : Program} {w : World} {K : PySem.W.Frag} {tg : Expr} (it : Addr) (lo : Int) (n : Nat) : Turn P w K tg (Itr lo n) [it] it (fun i h => IsRangeIter h it (lo + (i : Nat) * 1) ((n : Int) - (i : Nat)) 1) where
  mem := by simp
  obj := fun i h st b hb => by
    have e : b = it := by simpa using hb
    subst e
    exact ⟨_, st, fun v z => by
      have z' : Data.fields _ = Data.cell v := z
      cases z'⟩
  keep := fun i h h' st k => k it (by simp) _ st
  item := by
    intro X hP hw hK hc i pins s σ H E I hf st hg
    subst hP hw hK
    obtain ⟨f0, f1, f2, f3, f4, f5⟩ := hf it (by simp)
    have W := Walks.range (prog := X.prog) (w := X.w) (I.ok.hd hc) it lo 1 n
    refine W.item i s _ _ hg st fun v h' tk hv st' kk => ?_
    obtain ⟨t, rfl⟩ := hv
    have I1 : Inv X pins σ H { s with heap := h', toks := tk } := I.turned (fun b o hb e => kk b o (by simpa using hb) e) f0 f1 f3 f4 f5
    refine ⟨_, rfl, go_of (s := { s with heap := h', toks := tk }) (n := "range_iterator") st' rfl rfl (by decide) ⟨.int (lo + i), H, I1, ⟨t, ?_⟩, ⟨rfl, rfl⟩, st', fun b hb => (hf b hb).1⟩⟩
    rw [Int.mul_one]
  done := by
    intro X hP hw hK hc i pins s σ H E I hf st hg
    subst hP hw hK
    obtain ⟨f0, f1, f2, f3, f4, f5⟩ := hf it (by simp)
    exact wpAny_pyNext_range_end (I.ok.hd hc) st (by have : n ≤ i := hg; omega) fun h' eb => ⟨rfl, I.turned (t' := s.toks) (fun b o hb e => eb b o hb e) f0 f1 f3 f4 f5⟩
  self := fun _ _ _ _ _ st h => wpAny_pyIter_rangeiter st h
end L2
namespace L2
open PySem PySem.Spec PyProof.Rows
section
variable {X : Cx} {tg : Expr}
def iList (K : PySem.W.Frag) (tl : TE) : TI := fun σ H R => tl σ H fun x H1 => ∃ a, x = .ref a ∧ (∃ xs, SqL K H1 a xs) ∧ R (Itl K a) H1
def iTup (K : PySem.W.Frag) (tl : TE) : TI := fun σ H R => tl σ H fun x H1 => ∃ a, x = .ref a ∧ (∃ xs, SqT K H1 a xs) ∧ R (Itt K a) H1
theorem pi_list {l : Expr} {tl : TE} (hl : PE X l tl) : PI X tg l (iList X.K tl) := by
  intro pins s σ H R I h
  refine thn (hl pins s σ H _ I h) fun v s1 ⟨x, H1, I1, r1, q1⟩ => ?_
  obtain ⟨a, e, ⟨xs, hq⟩, q⟩ := q1
  subst e
  cases r1
  obtain ⟨its, rv, p, hz⟩ := I1.list hq
  refine wpAny_pyIter_list p.isList ?_
  refine ⟨s1.heap.objs.size, [s1.heap.objs.size], _, _, H1, rfl, I1.kept (t' := s1.toks) fun b o e => Heap.get?_push_of_some _ e, turn_list a _, ⟨_, Heap.get?_push_size _ rfl, rfl, rfl⟩, fun b hb => ?_, q⟩
  have e : b = s1.heap.objs.size := by simpa using hb
  subst e
  exact I1.fpOk (Nat.le_refl _) (I1.hok.fresh (Nat.le_refl _))
theorem pi_tup {l : Expr} {tl : TE} (hl : PE X l tl) : PI X tg l (iTup X.K tl) := by
  intro pins s σ H R I h
  refine thn (hl pins s σ H _ I h) fun v s1 ⟨x, H1, I1, r1, q1⟩ => ?_
  obtain ⟨a, e, ⟨xs, hq⟩, q⟩ := q1
  subst e
  cases r1
  obtain ⟨its, rv, p, hz⟩ := I1.tuple hq
  refine wpAny_pyIter_tuple (show s1.heap.IsTuple a its.toArray from p) ?_
  refine ⟨s1.heap.objs.size, [s1.heap.objs.size], _, _, H1, rfl, I1.kept (t' := s1.toks) fun b o e => Heap.get?_push_of_some _ e, turn_tuple a _, ⟨_, Heap.get?_push_size _ rfl, rfl, rfl⟩, fun b hb => ?_, q⟩
  have e : b = s1.heap.objs.size := by simpa using hb
  subst e
  exact I1.fpOk (Nat.le_refl _) (I1.hok.fresh (Nat.le_refl _))
theorem range_it {pins : List (Addr × Obj)} {σ : St} {H : Hp} {s : Shared} {R : It → Hp → Prop} {E : Value → Shared → Prop} {lo hi : Int} {t u v : Tok} {tk : Nat} (I : Inv X pins σ H s) (h1 : -(2 ^ 62) ≤ lo) (h2 : lo < 2 ^ 62) (h3 : -(2 ^ 62) ≤ hi) (h4 : hi < 2 ^ 62)
    (q : R (Itr lo (hi - lo).toNat) H) : wpAny (model X.prog X.w) X.A (pyIter (.ref s.heap.objs.size)) (PIE X pins σ tg R) E { s with heap := s.heap.push { cls := .type "range", data := .fields #[.int lo t, .int hi u, .int 1 v] }, toks := tk } := by
  refine wpAny_pyIter_range (IsRange.new ..) (small_one h1 h2 h3 h4) ?_
  have I1 : Inv X pins σ H { s with heap := s.heap.push { cls := .type "range", data := .fields #[.int lo t, .int hi u, .int 1 v] }, toks := tk } := I.kept fun b o e => Heap.get?_push_of_some _ e
  refine ⟨(s.heap.push { cls := .type "range", data := .fields #[.int lo t, .int hi u, .int 1 v] }).objs.size, [(s.heap.push { cls := .type "range", data := .fields #[.int lo t, .int hi u, .int 1 v] }).objs.size], _, _, H, rfl,
    I1.kept (t' := tk) fun b o e => Heap.get?_push_of_some _ e, turn_range _ lo (hi - lo).toNat, ?_, fun b hb => ?_, q⟩
  · have e1 : lo + ((0 : Nat) : Int) * 1 = lo := by simp
    have e2 : (((hi - lo).toNat : Nat) : Int) - ((0 : Nat) : Int) = Builtin.Range.rangeSize lo hi 1 := by rw [rangeSize_one]; split <;> omega
    show IsRangeIter _ _ (lo + ((0 : Nat) : Int) * 1) ((((hi - lo).toNat : Nat) : Int) - ((0 : Nat) : Int)) 1
    rw [e1, e2]
    exact Heap.get?_push_size _ rfl
  · have e : b = (s.heap.push { cls := .type "range", data := .fields #[.int lo t, .int hi u, .int 1 v] }).objs.size := by simpa using hb
    subst e
    exact I1.fpOk (Nat.le_refl _) (I1.hok.fresh (Nat.le_refl _))
def iRng1 (ta : TA) : TI := fun σ H R => ta σ H fun vs H1 => ∃ j : Int, vs = [.int j] ∧ -(2 ^ 62) ≤ j ∧ j < 2 ^ 62 ∧ R (Itr 0 j.toNat) H1
def iRng2 (ta : TA) : TI := fun σ H R => ta σ H fun vs H1 => ∃ i j : Int, vs = [.int i, .int j] ∧ (-(2 ^ 62) ≤ i ∧ i < 2 ^ 62 ∧ -(2 ^ 62) ≤ j ∧ j < 2 ^ 62) ∧ R (Itr i (j - i).toNat) H1
theorem pi_range1 {a : Expr} {ta : TA} {p pos : Pos} (hg : Gl X "range") (hm : X.mg "range" = none) (ha : PA X [a] ta) (hs : starEach [a] X.env = [(false, eval a X.env)] := by rfl) : PI X tg (.Call (.Name "range" p) [a] [] pos) (iRng1 ta) := by
  intro pins s σ H R I h
  refine Call_ (ld_blt I hg hm boot_range (PyProof.Rows.callWith_type1 (thn (ha pos pins s σ H _ I h) fun us s1 ⟨vs, H1, I1, r1, q1⟩ => ?_) hs rfl))
  obtain ⟨j, e, q1, q2, q⟩ := q1
  subst e
  cases r1 with
  | cons r rr =>
    cases rr
    obtain ⟨t, rfl⟩ := r
    exact call_range_1 (range_it I1 (by omega) (by omega) q1 q2 (by simpa using q))
theorem pi_range2 {a b : Expr} {ta : TA} {p pos : Pos} (hg : Gl X "range") (hm : X.mg "range" = none) (ha : PA X [a, b] ta) (hs : starEach [a, b] X.env = [(false, eval a X.env), (false, eval b X.env)] := by rfl) (hs2 : starEach [b] X.env = [(false, eval b X.env)] := by rfl) :
    PI X tg (.Call (.Name "range" p) [a, b] [] pos) (iRng2 ta) := by
  intro pins s σ H R I h
  refine Call_ (ld_blt I hg hm boot_range (PyProof.Rows.callWith_type1 (thn (ha pos pins s σ H _ I h) fun us s1 ⟨vs, H1, I1, r1, q1⟩ => ?_) (by rw [hs, hs2]) (by rw [hs2]; rfl)))
  obtain ⟨i, j, e, ⟨q1, q2, q3, q4⟩, q⟩ := q1
  subst e
  cases r1 with
  | cons r rr =>
    cases rr with
    | cons r' rr =>
      cases rr
      obtain ⟨t, rfl⟩ := r
      obtain ⟨t', rfl⟩ := r'
      exact call_range_2 (range_it I1 q1 q2 q3 q4 q)
def tFor (wi : TI) (g : TG) (tb : TS) : TS := fun D σ H => wi σ H fun J H1 => ∃ W : Nat → Nat → St → Hp → Prop, (∃ m, W 0 m σ H1) ∧ ∀ i m σ H, W i m σ H →
  (J.stop i H ∧ D.nx σ H) ∨ (J.go i H ∧ ∃ N : St → Hp → Prop, (∀ σ' H', N σ' H' → ∃ m', m' < m ∧ W (i + 1) m' σ' H') ∧ ∀ x H', J.yld i H x H' → g x σ H' fun σ2 H2 => tb { D with nx := N, ct := N, bk := D.nx } σ2 H2)
def pinsAt (fp : List Addr) (h : Heap) : List (Addr × Obj) := fp.filterMap fun b => (h.get? b).map fun o => (b, o)
theorem mem_pinsAt {fp : List Addr} {h : Heap} {b : Addr} {o : Obj} (hb : b ∈ fp) (e : h.get? b = some o) : (b, o) ∈ pinsAt fp h := List.mem_filterMap.mpr ⟨b, hb, by rw [e]; rfl⟩
theorem of_pinsAt {fp : List Addr} {h : Heap} {p : Addr × Obj} (hp : p ∈ pinsAt fp h) : p.1 ∈ fp ∧ h.get? p.1 = some p.2 := by
  obtain ⟨b, hb, e⟩ := List.mem_filterMap.mp hp
  cases q : h.get? b with
  | none => rw [q] at e; cases e
  | some o =>
    rw [q] at e
    have e' : (b, o) = p := Option.some.inj e
    subst e'
    exact ⟨hb, q⟩
theorem Inv.pinned {pins : List (Addr × Obj)} {σ : St} {H : Hp} {s : Shared} {fp : List Addr} (I : Inv X pins σ H s) (hf : ∀ b ∈ fp, FpOk X pins H b) (ho : ∀ b ∈ fp, ∃ o, s.heap.get? b = some o ∧ ∀ v, o.data ≠ .cell v) : Inv X (pins ++ pinsAt fp s.heap) σ H s :=
  I.pins_of fun p hp => (List.mem_append.mp hp).elim (fun z => I.pin p (List.mem_append_right _ z)) fun z => by
    obtain ⟨hb, e⟩ := of_pinsAt z
    obtain ⟨f0, f1, f2, _⟩ := hf p.1 hb
    obtain ⟨o, e', d⟩ := ho p.1 hb
    rw [e] at e'; cases e'
    exact ⟨e, f0, f1, f2, d⟩
theorem Inv.unpinned {pins pl : List (Addr × Obj)} {σ : St} {H : Hp} {s : Shared} (I : Inv X (pins ++ pl) σ H s) : Inv X pins σ H s := I.pins_of fun p hp => I.pin p (List.mem_append_right _ (List.mem_append_left _ hp))
theorem ps_for {iter : Expr} {body : List Stmt} {wi : TI} {g : TG} {tb : TS} {pos : Pos} (hp : PassesOwn (model X.prog X.w) X.A X.env X.xe) (hc : X.calm = true) (hi : PI X tg iter wi) (hg : PG X tg g) (hb : PSs X body tb)
    (hs : ∀ x, foldedSetIterable iter X.env x = pure x := by intro _; rfl) : PS X (.For tg iter body [] pos) (tFor wi g tb) := by
  intro pins s σ H D I h
  refine wpAny_For (thn (hi pins s σ H _ I h) fun v s1 h1 => thn h1 fun itv s2 h2 => ?_) hs
  obtain ⟨it, fp, tn, J, H2, e, I2, T, st2, f2, W, ⟨m0, w0⟩, turn⟩ := h2
  subst e
  have stat : ∀ {H' : Hp}, (∀ b ∈ fp, H' b = none) → ∀ b ∈ fp, FpOk X pins H' b := fun hn b hb => ⟨hn b hb, (f2 b hb).2⟩
  refine codeAny_forLoop_any (fun n s' => ∃ i σ' H', Inv X pins σ' H' s' ∧ tn i s'.heap ∧ (∀ b ∈ fp, H' b = none) ∧ W i n σ' H') ?_ m0 ⟨0, σ, H2, I2, st2, fun b hb => (f2 b hb).1, w0⟩
  rintro n s3 ⟨i, σ3, H3, I3, st3, fr3, w3⟩
  rcases turn i n σ3 H3 w3 with ⟨stop, qn⟩ | ⟨go, N, hN, step⟩
  · refine wpAny_passesOwn hp (thn (T.done X rfl rfl rfl hc i pins s3 σ3 H3 X.xe I3 (stat fr3) st3 stop) fun r s4 ⟨hr, I4⟩ => ?_)
    subst hr
    exact wpAny_execs_nil ⟨σ3, H3, I4, qn⟩
  · refine wpAny_passesOwn hp (thn (T.item X rfl rfl rfl hc i pins s3 σ3 H3 X.xe I3 (stat fr3) st3 go) fun r s4 ⟨u, hr, h4⟩ => ?_)
    subst hr
    refine wpAny_passesOwn hp (thn h4 fun _ s5 ⟨x, H5, I5, r5, y5, st5, fr5⟩ => ?_)
    have I5' := I5.pinned (stat fr5) (T.obj _ _ st5)
    refine wpAny_passesOwn hp (thn (hg _ s5 σ3 H5 x u _ I5' r5 (step x H5 y5)) fun _ s6 ⟨σ6, H6, I6, q6⟩ => ?_)
    refine wpAny_passesOwn hp (thn (hb _ s6 σ6 H6 _ I6 q6) fun f s7 q7 => ?_)
    have again : ∀ {σ7 : St} {H7 : Hp}, Inv X (pins ++ pinsAt fp s5.heap) σ7 H7 s7 → N σ7 H7 → ∃ m, m < n ∧ ∃ i σ' H', Inv X pins σ' H' s7 ∧ tn i s7.heap ∧ (∀ b ∈ fp, H' b = none) ∧ W i m σ' H' := fun {σ7 H7} I7 n7 => by
      obtain ⟨m', hm, w7⟩ := hN σ7 H7 n7
      refine ⟨m', hm, i + 1, σ7, H7, I7.unpinned, T.keep _ _ _ st5 fun b hb o e => (I7.pin (b, o) (List.mem_append_right _ (List.mem_append_right _ (mem_pinsAt hb e)))).1, fun b hb => ?_, w7⟩
      obtain ⟨o, e, d⟩ := T.obj _ _ st5 b hb
      exact (I7.pin (b, o) (List.mem_append_right _ (List.mem_append_right _ (mem_pinsAt hb e)))).2.1
    cases f with
    | next => obtain ⟨σ7, H7, I7, n7⟩ := q7; exact again I7 n7
    | cont => obtain ⟨σ7, H7, I7, n7⟩ := q7; exact again I7 n7
    | brk => obtain ⟨σ7, H7, I7, q7⟩ := q7; exact ⟨σ7, H7, I7.unpinned, q7⟩
    | ret v => obtain ⟨x7, σ7, H7, I7, r7, q7⟩ := q7; exact ⟨x7, σ7, H7, I7.unpinned, r7, q7⟩
end
theorem for_list {K : PySem.W.Frag} {a : Addr} {xs : List V} {g : TG} {tb : TS} {D : Ends} {σ : St} {H : Hp} (Pv : Nat → St → Hp → Prop) (h0 : Pv 0 σ H) (hl : ∀ i σ H, i ≤ xs.length → Pv i σ H → SqL K H a xs)
    (hs : ∀ i x σ H, xs[i]? = some x → Pv i σ H → g x σ H fun σ2 H2 => tb { D with nx := Pv (i + 1), ct := Pv (i + 1), bk := D.nx } σ2 H2) (hd : ∀ σ H, Pv xs.length σ H → D.nx σ H) :
    ∃ W : Nat → Nat → St → Hp → Prop, (∃ m, W 0 m σ H) ∧ ∀ i m σ H, W i m σ H →
      ((Itl K a).stop i H ∧ D.nx σ H) ∨ ((Itl K a).go i H ∧ ∃ N : St → Hp → Prop, (∀ σ' H', N σ' H' → ∃ m', m' < m ∧ W (i + 1) m' σ' H') ∧ ∀ x H', (Itl K a).yld i H x H' → g x σ H' fun σ2 H2 => tb { D with nx := N, ct := N, bk := D.nx } σ2 H2) := by
  refine ⟨fun i m σ H => m = xs.length - i ∧ i ≤ xs.length ∧ Pv i σ H, ⟨xs.length, by simp, Nat.zero_le _, h0⟩, ?_⟩
  rintro i m σ H ⟨rfl, hi, p⟩
  have q := hl i σ H hi p
  by_cases hlt : i < xs.length
  · refine .inr ⟨⟨xs, xs[i], q, by simp [hlt]⟩, Pv (i + 1), fun σ' H' p' => ⟨xs.length - (i + 1), by omega, rfl, hlt, p'⟩, fun x H' y => ?_⟩
    obtain ⟨e, y⟩ := y
    subst e
    exact hs i x σ _ (y xs q) p
  · have e : i = xs.length := by omega
    subst e
    exact .inl ⟨⟨xs, q, Nat.le_refl _⟩, hd σ H p⟩
theorem for_tup {K : PySem.W.Frag} {a : Addr} {xs : List V} {g : TG} {tb : TS} {D : Ends} {σ : St} {H : Hp} (Pv : Nat → St → Hp → Prop) (h0 : Pv 0 σ H) (hl : ∀ i σ H, i ≤ xs.length → Pv i σ H → SqT K H a xs)
    (hs : ∀ i x σ H, xs[i]? = some x → Pv i σ H → g x σ H fun σ2 H2 => tb { D with nx := Pv (i + 1), ct := Pv (i + 1), bk := D.nx } σ2 H2) (hd : ∀ σ H, Pv xs.length σ H → D.nx σ H) :
    ∃ W : Nat → Nat → St → Hp → Prop, (∃ m, W 0 m σ H) ∧ ∀ i m σ H, W i m σ H →
      ((Itt K a).stop i H ∧ D.nx σ H) ∨ ((Itt K a).go i H ∧ ∃ N : St → Hp → Prop, (∀ σ' H', N σ' H' → ∃ m', m' < m ∧ W (i + 1) m' σ' H') ∧ ∀ x H', (Itt K a).yld i H x H' → g x σ H' fun σ2 H2 => tb { D with nx := N, ct := N, bk := D.nx } σ2 H2) := by
  refine ⟨fun i m σ H => m = xs.length - i ∧ i ≤ xs.length ∧ Pv i σ H, ⟨xs.length, by simp, Nat.zero_le _, h0⟩, ?_⟩
  rintro i m σ H ⟨rfl, hi, p⟩
  have q := hl i σ H hi p
  by_cases hlt : i < xs.length
  · refine .inr ⟨⟨xs, xs[i], q, by simp [hlt]⟩, Pv (i + 1), fun σ' H' p' => ⟨xs.length - (i + 1), by omega, rfl, hlt, p'⟩, fun x H' y => ?_⟩
    obtain ⟨e, y⟩ := y
    subst e
    exact hs i x σ _ (y xs q) p
  · have e : i = xs.length := by omega
    subst e
    exact .inl ⟨⟨xs, q, Nat.le_refl _⟩, hd σ H p⟩
theorem for_range {lo : Int} {n : Nat} {g : TG} {tb : TS} {D : Ends} {σ : St} {H : Hp} (Pv : Nat → St → Hp → Prop) (h0 : Pv 0 σ H)
    (hs : ∀ i σ H, i < n → Pv i σ H → g (.int (lo + i)) σ H fun σ2 H2 => tb { D with nx := Pv (i + 1), ct := Pv (i + 1), bk := D.nx } σ2 H2) (hd : ∀ σ H, Pv n σ H → D.nx σ H) :
    ∃ W : Nat → Nat → St → Hp → Prop, (∃ m, W 0 m σ H) ∧ ∀ i m σ H, W i m σ H →
      ((Itr lo n).stop i H ∧ D.nx σ H) ∨ ((Itr lo n).go i H ∧ ∃ N : St → Hp → Prop, (∀ σ' H', N σ' H' → ∃ m', m' < m ∧ W (i + 1) m' σ' H') ∧ ∀ x H', (Itr lo n).yld i H x H' → g x σ H' fun σ2 H2 => tb { D with nx := N, ct := N, bk := D.nx } σ2 H2) := by
  refine ⟨fun i m σ H => m = n - i ∧ i ≤ n ∧ Pv i σ H, ⟨n, by simp, Nat.zero_le _, h0⟩, ?_⟩
  rintro i m σ H ⟨rfl, hi, p⟩
  by_cases hlt : i < n
  · refine .inr ⟨hlt, Pv (i + 1), fun σ' H' p' => ⟨n - (i + 1), by omega, rfl, hlt, p'⟩, fun x H' y => ?_⟩
    obtain ⟨e, y⟩ := y
    subst e y
    exact hs i σ _ hlt p
  · have e : i = n := by omega
    subst e
    exact .inl ⟨Nat.le_refl _, hd σ H p⟩
theorem while_by {c : TT} {tb : TS} {D : Ends} {σ : St} {H : Hp} (Pv : St → Hp → Prop) (μ : St → Hp → Nat) (h0 : Pv σ H)
    (hs : ∀ σ H, Pv σ H → c σ H fun b H1 => if b = true then tb { D with nx := fun σ' H' => Pv σ' H' ∧ μ σ' H' < μ σ H, ct := fun σ' H' => Pv σ' H' ∧ μ σ' H' < μ σ H, bk := D.nx } σ H1 else D.nx σ H1)
    (mono : ∀ σ H Q Q', (∀ b H1, Q b H1 → Q' b H1) → c σ H Q → c σ H Q') : tWhile c tb D σ H := by
  refine ⟨fun m σ H => m = μ σ H ∧ Pv σ H, ⟨_, rfl, h0⟩, ?_⟩
  rintro m σ H ⟨rfl, p⟩
  refine mono σ H _ _ (fun b H1 q => ?_) (hs σ H p)
  cases b with
  | true => exact ⟨_, fun σ' H' ⟨p', l⟩ => ⟨_, l, rfl, p'⟩, q⟩
  | false => exact q
end L2
namespace L2
open PySem PySem.Spec PyProof.Rows
abbrev R2 := V → V → Hp → VK → Prop
def OpR (X : Cx) (f : Value → Value → Sem Value) (r : R2) : Prop :=
  ∀ (pins : List (Addr × Obj)) (s : Shared) (σ : St) (H : Hp) (x y : V) (v u : Value) (Q : VK), Inv X pins σ H s → RelV x v → RelV y u → r x y H Q →
    wpAny (model X.prog X.w) X.A (f v u) (EP X pins σ Q) X.xe s
def UnR (X : Cx) (f : Value → Sem Value) (r : V → Hp → VK → Prop) : Prop :=
  ∀ (pins : List (Addr × Obj)) (s : Shared) (σ : St) (H : Hp) (x : V) (v : Value) (Q : VK), Inv X pins σ H s → RelV x v → r x H Q →
    wpAny (model X.prog X.w) X.A (f v) (EP X pins σ Q) X.xe s
def CallR (X : Cx) (f : Value) (r : List V → Hp → VK → Prop) : Prop :=
  ∀ (pins : List (Addr × Obj)) (s : Shared) (σ : St) (H : Hp) (xs : List V) (us : List Value) (Q : VK), Inv X pins σ H s → Vals xs us → r xs H Q →
    wpAny (model X.prog X.w) X.A (call f us) (EP X pins σ Q) X.xe s
def TruR (X : Cx) (r : V → Hp → (Bool → Hp → Prop) → Prop) : Prop :=
  ∀ (pins : List (Addr × Obj)) (s : Shared) (σ : St) (H : Hp) (x : V) (v : Value) (Q : Bool → Hp → Prop), Inv X pins σ H s → RelV x v → r x H Q →
    wpAny (model X.prog X.w) X.A (truthy v) (TP X pins σ Q) X.xe s
def tOp (r : R2) (ta tb : TE) : TE := fun σ H Q => ta σ H fun x H1 => tb σ H1 fun y H2 => r x y H2 Q
def tUn (r : V → Hp → VK → Prop) (ta : TE) : TE := fun σ H Q => ta σ H fun x H1 => r x H1 Q
def rI (C : Int → Int → Prop) (g : Int → Int → V) : R2 := fun x y H Q => ∃ i j, x = .int i ∧ y = .int j ∧ C i j ∧ Q (g i j) H
def rI0 (g : Int → Int → V) : R2 := fun x y H Q => ∃ i j, x = .int i ∧ y = .int j ∧ Q (g i j) H
def rU (g : Int → V) : V → Hp → VK → Prop := fun x H Q => ∃ i, x = .int i ∧ Q (g i) H
section
variable {X : Cx} {a b c : Expr} {ta tb tc : TE} {pos : Pos}
theorem binT (ha : PE X a ta) (hb : PE X b tb) {pins : List (Addr × Obj)} {s : Shared} {σ : St} {H : Hp} {R : V → V → Hp → Prop} (I : Inv X pins σ H s)
    (h : ta σ H fun x H1 => tb σ H1 fun y H2 => R x y H2) {Q : Value → Shared → Prop} {f : Value → Value → Sem Value}
    (hf : ∀ v u s2 x y H2, Inv X pins σ H2 s2 → RelV x v → RelV y u → R x y H2 → wpAny (model X.prog X.w) X.A (f v u) Q X.xe s2) :
    wpAny (model X.prog X.w) X.A (eval a X.env) (fun v s₁ => wpAny (model X.prog X.w) X.A (eval b X.env) (fun u s₂ => wpAny (model X.prog X.w) X.A (f v u) Q X.xe s₂) X.xe s₁) X.xe s := by
  refine thn (ha pins s σ H _ I h) fun v s1 ⟨x, H1, I1, r1, q1⟩ => ?_
  refine thn (hb pins s1 σ H1 _ I1 q1) fun u s2 ⟨y, H2, I2, r2, q2⟩ => ?_
  exact hf v u s2 x y H2 I2 r1 r2 q2
theorem pe_op {op : Operator} {r : R2} (ho : OpR X (binaryOp op) r) (ha : PE X a ta) (hb : PE X b tb) : PE X (.BinOp a op b pos) (tOp r ta tb) := by
  intro pins s σ H Q I h
  exact wpAny_BinOp (binT ha hb I h fun v u s2 x y H2 I2 rx ry q => ho pins s2 σ H2 x y v u Q I2 rx ry q)
theorem pe_un {op : UnaryOp} {r : V → Hp → VK → Prop} (ho : UnR X (unaryOp op) r) (ha : PE X a ta) : PE X (.UnaryOp op a pos) (tUn r ta) := by
  intro pins s σ H Q I h
  exact UnaryOp_ (thn (ha pins s σ H _ I h) fun v s1 ⟨x, H1, I1, r1, q1⟩ => ho pins s1 σ H1 x v Q I1 r1 q1)
theorem augR {op : Operator} {r : R2} (ho : OpR X (inplaceOp op) r) {pins : List (Addr × Obj)} {s : Shared} {σ : St} {H : Hp} {x y : V} {v u : Value} {Q : VK} (I : Inv X pins σ H s)
    (rx : RelV x v) (ry : RelV y u) (q : r x y H Q) : wpAny (model X.prog X.w) X.A (inplaceOp op v u) (EP X pins σ Q) X.xe s := ho pins s σ H x y v u Q I rx ry q
theorem opI {f : Value → Value → Sem Value} {C : Int → Int → Prop} {g : Int → Int → Int}
    (rule : ∀ (i j : Int) (t u : Tok) (s : Shared) (Q : Value → Shared → Prop) (E : Value → Shared → Prop), C i j → Q (.int (g i j) s.toks) { s with toks := s.toks + 1 } → wpAny (model X.prog X.w) X.A (f (.int i t) (.int j u)) Q E s) :
    OpR X f (rI C fun i j => .int (g i j)) := by
  intro pins s σ H x y v u Q I rx ry h
  obtain ⟨i, j, rfl, rfl, hc, q⟩ := h
  obtain ⟨t, rfl⟩ := rx
  obtain ⟨t', rfl⟩ := ry
  exact rule i j t t' s _ _ hc ⟨.int (g i j), H, I.tok _, ⟨_, rfl⟩, q⟩
theorem opI0 {f : Value → Value → Sem Value} {g : Int → Int → Int}
    (rule : ∀ (i j : Int) (t u : Tok) (s : Shared) (Q : Value → Shared → Prop) (E : Value → Shared → Prop), Q (.int (g i j) s.toks) { s with toks := s.toks + 1 } → wpAny (model X.prog X.w) X.A (f (.int i t) (.int j u)) Q E s) :
    OpR X f (rI0 fun i j => .int (g i j)) := by
  intro pins s σ H x y v u Q I rx ry h
  obtain ⟨i, j, rfl, rfl, q⟩ := h
  obtain ⟨t, rfl⟩ := rx
  obtain ⟨t', rfl⟩ := ry
  exact rule i j t t' s _ _ ⟨.int (g i j), H, I.tok _, ⟨_, rfl⟩, q⟩
theorem opB0 {f : Value → Value → Sem Value} {g : Int → Int → Bool}
    (rule : ∀ (i j : Int) (t u : Tok) (s : Shared) (Q : Value → Shared → Prop) (E : Value → Shared → Prop), Q (.bool (g i j)) s → wpAny (model X.prog X.w) X.A (f (.int i t) (.int j u)) Q E s) :
    OpR X f (rI0 fun i j => .bl (g i j)) := by
  intro pins s σ H x y v u Q I rx ry h
  obtain ⟨i, j, rfl, rfl, q⟩ := h
  obtain ⟨t, rfl⟩ := rx
  obtain ⟨t', rfl⟩ := ry
  exact rule i j t t' s _ _ ⟨.bl (g i j), H, I, rfl, q⟩
def CDiv (i j : Int) : Prop := 0 < j ∧ j < 1073741824
def CDivN (i j : Int) : Prop := j ≠ 0 ∧ j.natAbs < 1073741824
def CPow (i j : Int) : Prop := 0 ≤ j ∧ j ≤ 1000000 ∧ i.natAbs < 2 ^ 64
def CMul (i j : Int) : Prop := (-(2 ^ 64) < i ∧ i < 2 ^ 64) ∨ (-(2 ^ 64) < j ∧ j < 2 ^ 64)
theorem CMul.ok {i j : Int} (h : CMul i j) : IntMulOk i j := by
  rcases h with ⟨h1, h2⟩ | ⟨h1, h2⟩
  · exact .of_left (intBits_le_64 h1 h2)
  · exact .of_right (intBits_le_64 h1 h2)
theorem two_pow_nn (k : Nat) : (0 : Int) ≤ 2 ^ k := by
  rw [two_pow_cast]
  exact Int.natCast_nonneg _
theorem op_add : OpR X (binaryOp .Add) (rI0 fun i j => .int (i + j)) := opI0 fun _ _ _ _ _ _ _ q => add_int q
theorem op_sub : OpR X (binaryOp .Sub) (rI0 fun i j => .int (i - j)) := opI0 fun _ _ _ _ _ _ _ q => sub_int q
theorem op_mul : OpR X (binaryOp .Mult) (rI CMul fun i j => .int (i * j)) := opI fun _ _ _ _ _ _ _ hc q => mul_int q hc.ok
theorem op_fdiv : OpR X (binaryOp .FloorDiv) (rI CDiv fun i j => .int (i / j)) := opI fun i j _ _ _ _ _ hc q => by
  have h1 : (0 : Int) < j := hc.1
  have h2 : j < 1073741824 := hc.2
  exact floordiv_int (by omega) (by rw [Int.fdiv_eq_ediv_of_nonneg i (by omega)]; exact q) (.inl (PyProof.noPylong_small (by omega)))
theorem op_fdivN : OpR X (binaryOp .FloorDiv) (rI CDivN fun i j => .int (i.fdiv j)) := opI fun _ _ _ _ _ _ _ hc q => floordiv_int hc.1 q (.inl (PyProof.noPylong_small hc.2))
theorem op_mod : OpR X (binaryOp .Mod) (rI (fun _ j => 0 < j) fun i j => .int (i % j)) := opI fun i j _ _ _ _ _ hc q => by
  have h1 : (0 : Int) < j := hc
  exact mod_int' (by omega) (by rw [Int.fmod_eq_emod_of_nonneg i (by omega)]; exact q)
theorem op_modN : OpR X (binaryOp .Mod) (rI (fun _ j => j ≠ 0) fun i j => .int (i.fmod j)) := opI fun _ _ _ _ _ _ _ hc q => mod_int' hc q
theorem op_pow : OpR X (binaryOp .Pow) (rI CPow fun i j => .int (i ^ j.toNat)) := opI fun _ _ _ _ _ _ _ hc q => pow_int_small hc.1 hc.2.1 hc.2.2 q
theorem op_shl : OpR X (binaryOp .LShift) (rI CPow fun i j => .int (i * 2 ^ j.toNat)) := opI fun _ _ _ _ _ _ _ hc q => lshift_int_small hc.1 hc.2.1 hc.2.2 q
theorem op_shr : OpR X (binaryOp .RShift) (rI (fun _ j => 0 ≤ j) fun i j => .int (i / 2 ^ j.toNat)) := opI fun i j _ _ _ _ _ hc q =>
  rshift_int hc (by rw [Int.fdiv_eq_ediv_of_nonneg i (two_pow_nn _)]; exact q)
theorem op_and : OpR X (binaryOp .BitAnd) (rI0 fun i j => .int (Builtin.bitAnd i j)) := opI0 fun _ _ _ _ _ _ _ q => and_int q
theorem op_or : OpR X (binaryOp .BitOr) (rI0 fun i j => .int (Builtin.bitOr i j)) := opI0 fun _ _ _ _ _ _ _ q => or_int q
theorem op_xor : OpR X (binaryOp .BitXor) (rI0 fun i j => .int (Builtin.bitXor i j)) := opI0 fun _ _ _ _ _ _ _ q => xor_int q
theorem iop_add : OpR X (inplaceOp .Add) (rI0 fun i j => .int (i + j)) := opI0 fun _ _ _ _ _ _ _ q => iadd_int q
theorem iop_sub : OpR X (inplaceOp .Sub) (rI0 fun i j => .int (i - j)) := opI0 fun _ _ _ _ _ _ _ q => isub_int q
theorem iop_mul : OpR X (inplaceOp .Mult) (rI CMul fun i j => .int (i * j)) := opI fun _ _ _ _ _ _ _ hc q => imul_int q hc.ok
theorem iop_fdiv : OpR X (inplaceOp .FloorDiv) (rI CDiv fun i j => .int (i / j)) := opI fun i j _ _ _ _ _ hc q => by
  have h1 : (0 : Int) < j := hc.1
  have h2 : j < 1073741824 := hc.2
  exact ifloordiv_int (by omega) (by rw [Int.fdiv_eq_ediv_of_nonneg i (by omega)]; exact q) (.inl (PyProof.noPylong_small (by omega)))
theorem iop_mod : OpR X (inplaceOp .Mod) (rI (fun _ j => 0 < j) fun i j => .int (i % j)) := opI fun i j _ _ _ _ _ hc q => by
  have h1 : (0 : Int) < j := hc
  exact imod_int (by omega) (by rw [Int.fmod_eq_emod_of_nonneg i (by omega)]; exact q)
theorem iop_shl : OpR X (inplaceOp .LShift) (rI CPow fun i j => .int (i * 2 ^ j.toNat)) := opI fun _ _ _ _ _ _ _ hc q => ilshift_int_small hc.1 hc.2.1 hc.2.2 q
theorem iop_shr : OpR X (inplaceOp .RShift) (rI (fun _ j => 0 ≤ j) fun i j => .int (i / 2 ^ j.toNat)) := opI fun i j _ _ _ _ _ hc q =>
  irshift_int hc (by rw [Int.fdiv_eq_ediv_of_nonneg i (two_pow_nn _)]; exact q)
theorem iop_and : OpR X (inplaceOp .BitAnd) (rI0 fun i j => .int (Builtin.bitAnd i j)) := opI0 fun _ _ _ _ _ _ _ q => iand_int q
theorem iop_or : OpR X (inplaceOp .BitOr) (rI0 fun i j => .int (Builtin.bitOr i j)) := opI0 fun _ _ _ _ _ _ _ q => ior_int q
theorem iop_xor : OpR X (inplaceOp .BitXor) (rI0 fun i j => .int (Builtin.bitXor i j)) := opI0 fun _ _ _ _ _ _ _ q => ixor_int q
theorem unI {f : Value → Sem Value} {g : Int → Int}
    (rule : ∀ (i : Int) (t : Tok) (s : Shared) (Q : Value → Shared → Prop) (E : Value → Shared → Prop), Q (.int (g i) s.toks) { s with toks := s.toks + 1 } → wpAny (model X.prog X.w) X.A (f (.int i t)) Q E s) :
    UnR X f (rU fun i => .int (g i)) := by
  intro pins s σ H x v Q I rx h
  obtain ⟨i, rfl, q⟩ := h
  obtain ⟨t, rfl⟩ := rx
  exact rule i t s _ _ ⟨.int (g i), H, I.tok _, ⟨_, rfl⟩, q⟩
theorem un_neg : UnR X (unaryOp .USub) (rU fun i => .int (-i)) := unI fun _ _ _ _ _ q => neg_int q
theorem un_inv : UnR X (unaryOp .Invert) (rU fun i => .int (Builtin.bitNot i)) := unI fun _ _ _ _ _ q => invert_int q
theorem op_add_ib : OpR X (binaryOp .Add) (fun x y H Q => ∃ i k, x = .int i ∧ y = .bl k ∧ Q (.int (i + b2i k)) H) := by
  intro pins s σ H x y v u Q I rx ry h
  obtain ⟨i, k, rfl, rfl, q⟩ := h
  obtain ⟨t, rfl⟩ := rx
  cases ry
  exact add_int_bool ⟨.int (i + b2i k), H, I.tok _, ⟨_, rfl⟩, q⟩
end
def scal : V → V → Bool
  | .non, .non => true | .non, .int _ => true | .int _, .non => true | .non, .bl _ => true | .bl _, .non => true | .non, .str _ => true | .str _, .non => true
  | .int _, .int _ => true | .bl _, .bl _ => true | .str _, .str _ => true | .byt _, .byt _ => true
  | .int _, .str _ => true | .str _, .int _ => true | .bl _, .str _ => true | .str _, .bl _ => true
  | _, _ => false
def rEq : R2 := fun x y H Q => scal x y = true ∧ Q (.bl (decide (x = y))) H
def rNe : R2 := fun x y H Q => scal x y = true ∧ Q (.bl (!decide (x = y))) H
theorem dec_int {i j : Int} : decide (V.int i = V.int j) = (i == j) := by
  rw [Bool.eq_iff_iff]
  simp
theorem dec_bl {i j : Bool} : decide (V.bl i = V.bl j) = (i == j) := by
  rw [Bool.eq_iff_iff]
  simp
theorem dec_str {i j : Str} : decide (V.str i = V.str j) = (i == j) := by
  rw [Bool.eq_iff_iff]
  simp
theorem dec_byt {i j : Array UInt8} : decide (V.byt i = V.byt j) = (i.toList == j.toList) := by
  rw [Bool.eq_iff_iff]
  cases i
  cases j
  simp
section
variable {X : Cx} {a b c : Expr} {ta tb tc : TE} {pos : Pos}
theorem fin_bl {pins : List (Addr × Obj)} {σ : St} {H : Hp} {s : Shared} {Q : VK} {k k' : Bool} (I : Inv X pins σ H s) (q : Q (.bl k) H) (e : k = k') : EP X pins σ Q (.bool k') s := by
  subst e
  exact ⟨.bl k, H, I, rfl, q⟩
theorem op_eq : OpR X (compareOp .Eq) rEq := by
  intro pins s σ H x y v u Q I rx ry h
  obtain ⟨hs, q⟩ := h
  cases x with
  | non =>
    cases rx
    cases y with
    | non => cases ry; exact PySem.EqNone.eq_none_none (fin_bl I q (by simp))
    | bl j => cases ry; exact PySem.EqNone.eq_none_bool (fin_bl I q (by simp))
    | int j => obtain ⟨t', rfl⟩ := ry; exact PySem.EqNone.eq_none_int (fin_bl I q (by simp))
    | str j => obtain ⟨t', rfl⟩ := ry; exact PySem.EqNone.eq_none_str (fin_bl I q (by simp))
    | _ => exact absurd (show false = true from hs) Bool.false_ne_true
  | bl i =>
    cases rx
    cases y with
    | non => cases ry; exact PySem.EqNone.eq_bool_none (fin_bl I q (by simp))
    | bl j => cases ry; exact eq_bool (fin_bl I q dec_bl)
    | str j => obtain ⟨t', rfl⟩ := ry; exact PySem.EqMixed.eq_bool_str (fin_bl I q (by simp))
    | _ => exact absurd (show false = true from hs) Bool.false_ne_true
  | int i =>
    obtain ⟨t, rfl⟩ := rx
    cases y with
    | non => cases ry; exact PySem.EqNone.eq_int_none (fin_bl I q (by simp))
    | int j => obtain ⟨t', rfl⟩ := ry; exact eq_int (fin_bl I q dec_int)
    | str j => obtain ⟨t', rfl⟩ := ry; exact PySem.EqMixed.eq_int_str (fin_bl I q (by simp))
    | _ => exact absurd (show false = true from hs) Bool.false_ne_true
  | str i =>
    obtain ⟨t, rfl⟩ := rx
    cases y with
    | non => cases ry; exact PySem.EqNone.eq_str_none (fin_bl I q (by simp))
    | bl j => cases ry; exact PySem.EqMixed.eq_str_bool (fin_bl I q (by simp))
    | int j => obtain ⟨t', rfl⟩ := ry; exact PySem.EqMixed.eq_str_int (fin_bl I q (by simp))
    | str j => obtain ⟨t', rfl⟩ := ry; exact eq_str (fin_bl I q dec_str)
    | _ => exact absurd (show false = true from hs) Bool.false_ne_true
  | byt i =>
    obtain ⟨t, rfl⟩ := rx
    cases y with
    | byt j => obtain ⟨t', rfl⟩ := ry; exact PySem.W.eq_bytes (fin_bl I q dec_byt)
    | _ => exact absurd (show false = true from hs) Bool.false_ne_true
  | _ => cases y <;> exact absurd (show false = true from hs) Bool.false_ne_true
theorem op_ne : OpR X (compareOp .NotEq) rNe := by
  intro pins s σ H x y v u Q I rx ry h
  obtain ⟨hs, q⟩ := h
  cases x with
  | non =>
    cases rx
    cases y with
    | non => cases ry; exact PySem.EqNone.ne_none_none (fin_bl I q (by simp))
    | bl j => cases ry; exact PySem.EqNone.ne_none_bool (fin_bl I q (by simp))
    | int j => obtain ⟨t', rfl⟩ := ry; exact PySem.EqNone.ne_none_int (fin_bl I q (by simp))
    | str j => obtain ⟨t', rfl⟩ := ry; exact PySem.EqNone.ne_none_str (fin_bl I q (by simp))
    | _ => exact absurd (show false = true from hs) Bool.false_ne_true
  | bl i =>
    cases rx
    cases y with
    | non => cases ry; exact PySem.EqNone.ne_bool_none (fin_bl I q (by simp))
    | bl j => cases ry; exact ne_bool (fin_bl I q (congrArg not dec_bl))
    | str j => obtain ⟨t', rfl⟩ := ry; exact PySem.EqMixed.ne_bool_str (fin_bl I q (by simp))
    | _ => exact absurd (show false = true from hs) Bool.false_ne_true
  | int i =>
    obtain ⟨t, rfl⟩ := rx
    cases y with
    | non => cases ry; exact PySem.EqNone.ne_int_none (fin_bl I q (by simp))
    | int j => obtain ⟨t', rfl⟩ := ry; exact ne_int (fin_bl I q (congrArg not dec_int))
    | str j => obtain ⟨t', rfl⟩ := ry; exact PySem.EqMixed.ne_int_str (fin_bl I q (by simp))
    | _ => exact absurd (show false = true from hs) Bool.false_ne_true
  | str i =>
    obtain ⟨t, rfl⟩ := rx
    cases y with
    | non => cases ry; exact PySem.EqNone.ne_str_none (fin_bl I q (by simp))
    | bl j => cases ry; exact PySem.EqMixed.ne_str_bool (fin_bl I q (by simp))
    | int j => obtain ⟨t', rfl⟩ := ry; exact PySem.EqMixed.ne_str_int (fin_bl I q (by simp))
    | str j => obtain ⟨t', rfl⟩ := ry; exact ne_str (fin_bl I q (congrArg not dec_str))
    | _ => exact absurd (show false = true from hs) Bool.false_ne_true
  | byt i =>
    obtain ⟨t, rfl⟩ := rx
    cases y with
    | byt j => obtain ⟨t', rfl⟩ := ry; exact PySem.W.ne_bytes (fin_bl I q (congrArg not dec_byt))
    | _ => exact absurd (show false = true from hs) Bool.false_ne_true
  | _ => cases y <;> exact absurd (show false = true from hs) Bool.false_ne_true
theorem op_lt : OpR X (compareOp .Lt) (rI0 fun i j => .bl (decide (i < j))) := opB0 fun _ _ _ _ _ _ _ q => lt_int q
theorem op_le : OpR X (compareOp .LtE) (rI0 fun i j => .bl (decide (i ≤ j))) := opB0 fun _ _ _ _ _ _ _ q => le_int q
theorem op_gt : OpR X (compareOp .Gt) (rI0 fun i j => .bl (decide (j < i))) := opB0 fun _ _ _ _ _ _ _ q => gt_int q
theorem op_ge : OpR X (compareOp .GtE) (rI0 fun i j => .bl (decide (j ≤ i))) := opB0 fun _ _ _ _ _ _ _ q => ge_int q
theorem op_lt_str : OpR X (compareOp .Lt) (fun x y H Q => ∃ i j, x = .str i ∧ y = .str j ∧ Q (.bl (decide (i.cps.toList < j.cps.toList))) H) := by
  intro pins s σ H x y v u Q I rx ry h
  obtain ⟨i, j, rfl, rfl, q⟩ := h
  obtain ⟨t, rfl⟩ := rx
  obtain ⟨t', rfl⟩ := ry
  exact lt_str (fin_bl I q rfl)
theorem op_in_str : OpR X (compareOp .In) (fun x y H Q => ∃ i j, x = .str i ∧ y = .str j ∧ Q (.bl (!(Builtin.Str.occurrences j i 0 j.length 1).isEmpty)) H) := by
  intro pins s σ H x y v u Q I rx ry h
  obtain ⟨i, j, rfl, rfl, q⟩ := h
  obtain ⟨t, rfl⟩ := rx
  obtain ⟨t', rfl⟩ := ry
  exact in_str (fin_bl I q rfl)
theorem op_isN : OpR X (compareOp .Is) (fun x y H Q => y = .non ∧ Q (.bl (decide (x = .non))) H) := by
  intro pins s σ H x y v u Q I rx ry h
  obtain ⟨rfl, q⟩ := h
  cases ry
  refine is_none_gen (fin_bl I q ?_)
  cases x <;> first
    | (cases rx; rfl)
    | (obtain ⟨t, rfl⟩ := rx; rfl)
theorem op_notN : OpR X (compareOp .IsNot) (fun x y H Q => y = .non ∧ Q (.bl (!decide (x = .non))) H) := by
  intro pins s σ H x y v u Q I rx ry h
  obtain ⟨rfl, q⟩ := h
  cases ry
  refine isnot_none_gen (fin_bl I q ?_)
  cases x <;> first
    | (cases rx; rfl)
    | (obtain ⟨t, rfl⟩ := rx; rfl)
theorem op_notin_str : OpR X (compareOp .NotIn) (fun x y H Q => ∃ i j, x = .str i ∧ y = .str j ∧ Q (.bl (!(!(Builtin.Str.occurrences j i 0 j.length 1).isEmpty))) H) := by
  intro pins s σ H x y v u Q I rx ry h
  obtain ⟨i, j, rfl, rfl, q⟩ := h
  obtain ⟨t, rfl⟩ := rx
  obtain ⟨t', rfl⟩ := ry
  exact notIn_str (fin_bl I q rfl)
def isObj : HO → Bool
  | .lst _ => true
  | .ins _ _ _ => true
  | _ => false
theorem obj_there {pins : List (Addr × Obj)} {s : Shared} {σ : St} {H : Hp} {a : Addr} {o : HO} (I : Inv X pins σ H s) (h : H a = some o) (p : isObj o = true) : ∃ ob, s.heap.get? a = some ob ∧ ob.cls ≠ .type "tuple" := by
  cases o with
  | lst xs =>
    obtain ⟨_, its, n, _, e⟩ : xs.length ≤ sizeLine ∧ ∃ (its : List Value) (n : Nat), Vals xs its ∧ s.heap.get? a = some { cls := .type "list", data := .seq its.toArray n } := I.hok a _ h
    exact ⟨_, e, (by show Value.type "list" ≠ .type "tuple"; decide +kernel)⟩
  | ins C dx fs =>
    have x := I.hok a _ h
    obtain ⟨_, _, _, e, _⟩ := x
    exact ⟨_, e, (by show Value.ref C ≠ .type "tuple"; exact fun z => by cases z)⟩
  | _ => exact absurd (show false = true from p) Bool.false_ne_true
theorem op_is_ref : OpR X (compareOp .Is) (fun x y H Q => ∃ a b oa ob, x = .ref a ∧ y = .ref b ∧ H a = some oa ∧ isObj oa = true ∧ H b = some ob ∧ isObj ob = true ∧ Q (.bl (decide (a = b))) H) := by
  intro pins s σ H x y v u Q I rx ry h
  obtain ⟨a, b, oa, ob, rfl, rfl, ha, pa, hb, pb, q⟩ := h
  cases rx
  cases ry
  obtain ⟨o1, e1, n1⟩ := obj_there I ha pa
  obtain ⟨o2, e2, _⟩ := obj_there I hb pb
  by_cases z : a = b
  · subst z
    exact wpAny_is_ref_self (fin_bl I q (by simp))
  · exact wpAny_is_ref_other z e1 e2 n1 (fin_bl I q (by simp [z]))
theorem op_isnot_ref : OpR X (compareOp .IsNot) (fun x y H Q => ∃ a b oa ob, x = .ref a ∧ y = .ref b ∧ H a = some oa ∧ isObj oa = true ∧ H b = some ob ∧ isObj ob = true ∧ Q (.bl (!decide (a = b))) H) := by
  intro pins s σ H x y v u Q I rx ry h
  obtain ⟨a, b, oa, ob, rfl, rfl, ha, pa, hb, pb, q⟩ := h
  cases rx
  cases ry
  obtain ⟨o1, e1, n1⟩ := obj_there I ha pa
  obtain ⟨o2, e2, _⟩ := obj_there I hb pb
  by_cases z : a = b
  · subst z
    exact wpAny_isNot_ref_self (fin_bl I q (by simp))
  · exact wpAny_isNot_ref_other z e1 e2 n1 (fin_bl I q (by simp [z]))
theorem OpR.or {f : Value → Value → Sem Value} {r r' : R2} (h : OpR X f r) (h' : OpR X f r') : OpR X f (fun x y H Q => r x y H Q ∨ r' x y H Q) := by
  intro pins s σ H x y v u Q I rx ry q
  rcases q with q | q
  · exact h pins s σ H x y v u Q I rx ry q
  · exact h' pins s σ H x y v u Q I rx ry q
theorem nomark (b : Expr) {op : CmpOp} (h : op ≠ .In := by decide) (h2 : op ≠ .NotIn := by decide) : behindInMarks op b = false := by
  have e1 : (op == CmpOp.In) = false := by cases op <;> first | rfl | exact absurd rfl h
  have e2 : (op == CmpOp.NotIn) = false := by cases op <;> first | rfl | exact absurd rfl h2
  cases b <;> simp [behindInMarks, e1, e2]
theorem pe_cmpR {op : CmpOp} {r : R2} (ho : OpR X (compareOp op) r) (ha : PE X a ta) (hb : PE X b tb) (hm : behindInMarks op b = false) : PE X (.Compare a [op] [b] pos) (tOp r ta tb) := by
  intro pins s σ H Q I h
  exact wpAny_Compare1 (binT ha hb I h fun v u s2 x y H2 I2 rx ry q => ho pins s2 σ H2 x y v u Q I2 rx ry q) hm
def tTest (t : TE) : TT := fun σ H Q => t σ H fun x H' => ∃ k, x = .bl k ∧ Q k H'
theorem pt_cmpR {op : CmpOp} {r : R2} (ho : OpR X (compareOp op) r) (ha : PE X a ta) (hb : PE X b tb) (hm : behindInMarks op b = false) : PT X (.Compare a [op] [b] pos) (tTest (tOp r ta tb)) := by
  intro pins s σ H Q I h
  refine wpAny_isTrue_Compare1 (thn (ha pins s σ H _ I h) fun v s1 ⟨x, H1, I1, r1, q1⟩ => thn (hb pins s1 σ H1 _ I1 q1) fun u s2 ⟨y, H2, I2, r2, q2⟩ =>
    thn (ho pins s2 σ H2 x y v u _ I2 r1 r2 q2) fun c s3 ⟨z, H3, I3, r3, k, e, q3⟩ => ?_) hm
  subst e
  cases r3
  exact wpAny_truthy_bool ⟨H3, I3, q3⟩
def tChain (r r' : R2) (ta tb tc : TE) : TE := fun σ H Q => ta σ H fun x H1 => tb σ H1 fun y H2 => r x y H2 fun z H3 => ∃ k, z = .bl k ∧
  (if k = true then tc σ H3 fun w' H4 => r' y w' H4 Q else Q (.bl false) H3)
theorem pe_chain {op op' : CmpOp} {r r' : R2} (ho : OpR X (compareOp op) r) (ho' : OpR X (compareOp op') r') (ha : PE X a ta) (hb : PE X b tb) (hc : PE X c tc)
    (hm : lastMarks [op, op'] [b, c] = false := by with_unfolding_all rfl) : PE X (.Compare a [op, op'] [b, c] pos) (tChain r r' ta tb tc) := by
  intro pins s σ H Q I h
  refine Compare_chain (thn (ha pins s σ H _ I h) fun v s1 ⟨x, H1, I1, r1, q1⟩ => chain_link (thn (hb pins s1 σ H1 _ I1 q1) fun u s2 ⟨y, H2, I2, r2, q2⟩ =>
    thn (ho pins s2 σ H2 x y v u _ I2 r1 r2 q2) fun d s3 ⟨z, H3, I3, r3, k, e, q3⟩ => ?_)) hm
  subst e
  cases r3
  refine wpAny_truthy_bool ?_
  cases k with
  | false => exact ite_ff ⟨.bl false, H3, I3, rfl, q3⟩
  | true => exact ite_tt (chain_last (thn (hc pins s3 σ H3 _ I3 q3) fun w' s4 ⟨z', H4, I4, r4, q4⟩ => ho' pins s4 σ H4 y z' u w' Q I4 r2 r4 q4))
theorem pt_chain {op op' : CmpOp} {r r' : R2} (ho : OpR X (compareOp op) r) (ho' : OpR X (compareOp op') r') (ha : PE X a ta) (hb : PE X b tb) (hc : PE X c tc)
    (hm : lastMarks [op, op'] [b, c] = false := by with_unfolding_all rfl) : PT X (.Compare a [op, op'] [b, c] pos) (tTest (tChain r r' ta tb tc)) := by
  intro pins s σ H Q I h
  refine isTrue_chain (thn (ha pins s σ H _ I h) fun v s1 ⟨x, H1, I1, r1, q1⟩ => test_link (thn (hb pins s1 σ H1 _ I1 q1) fun u s2 ⟨y, H2, I2, r2, q2⟩ =>
    thn (ho pins s2 σ H2 x y v u _ I2 r1 r2 q2) fun d s3 ⟨z, H3, I3, r3, k, e, q3⟩ => ?_)) hm
  subst e
  cases r3
  refine wpAny_truthy_bool ?_
  cases k with
  | false =>
    obtain ⟨k', e', q'⟩ := q3
    cases e'
    exact ite_ff ⟨H3, I3, q'⟩
  | true =>
    refine ite_tt (test_last (thn (hc pins s3 σ H3 _ I3 q3) fun w' s4 ⟨z', H4, I4, r4, q4⟩ => thn (ho' pins s4 σ H4 y z' u w' _ I4 r2 r4 q4) fun d' s5 ⟨z2, H5, I5, r5, k2, e2, q5⟩ => ?_))
    subst e2
    cases r5
    exact wpAny_truthy_bool ⟨H5, I5, q5⟩
def TruV (K : PySem.W.Frag) (x : V) (H : Hp) (k : Bool) : Prop :=
  match x with
  | .non => k = false
  | .bl b => k = b
  | .int i => k = (i != 0)
  | .str y => y.length ≤ sizeLine ∧ k = ((y.length : Int) != 0)
  | .byt y => y.size ≤ sizeLine ∧ k = ((y.size : Int) != 0)
  | .ref p => (∃ xs, SqL K H p xs ∧ k = !xs.isEmpty) ∨ (∃ xs, SqT K H p xs ∧ k = !xs.isEmpty) ∨ ∃ kvs, H p = some (.dK kvs) ∧ k = !kvs.isEmpty
  | _ => False
theorem isEmpty_kv {κ : Type} {kvs : List (κ × V)} {vs : List (κ × Value)} (r : KV kvs vs) : (!vs.isEmpty) = !kvs.isEmpty := by
  cases r <;> rfl
theorem isEmpty_of {xs : List V} {its : List Value} (r : Vals xs its) : (!its.toArray.isEmpty) = !xs.isEmpty := by
  cases r <;> simp
theorem line63 : (sizeLine : Nat) < 2 ^ 63 := by rw [sizeLine_eq]; decide
theorem tru_ok : TruR X (fun x H Q => ∃ k, TruV X.K x H k ∧ Q k H) := by
  intro pins s σ H x v Q I rx h
  obtain ⟨k, e, q⟩ := h
  have hl := line63
  have hs : sizeLine = 16777216 := sizeLine_eq
  cases x with
  | non =>
    cases rx
    have e' : k = false := e
    subst e'
    exact truthy_none ⟨H, I, q⟩
  | bl b =>
    cases rx
    have e' : k = b := e
    subst e'
    exact wpAny_truthy_bool ⟨H, I, q⟩
  | int i =>
    obtain ⟨t, rfl⟩ := rx
    have e' : k = (i != 0) := e
    subst e'
    exact PySem.P.truthy_int ⟨H, I, q⟩
  | str y =>
    obtain ⟨t, rfl⟩ := rx
    obtain ⟨hy, e'⟩ : y.length ≤ sizeLine ∧ k = ((y.length : Int) != 0) := e
    subst e'
    exact PySem.P.truthy_str (by omega) ⟨H, I.tok _, q⟩
  | byt y =>
    obtain ⟨t, rfl⟩ := rx
    obtain ⟨hy, e'⟩ : y.size ≤ sizeLine ∧ k = ((y.size : Int) != 0) := e
    subst e'
    exact PySem.W.truthy_bytes (by omega) ⟨H, I.tok _, q⟩
  | ref p =>
    cases rx
    have e' : (∃ xs, SqL X.K H p xs ∧ k = !xs.isEmpty) ∨ (∃ xs, SqT X.K H p xs ∧ k = !xs.isEmpty) ∨ ∃ kvs, H p = some (.dK kvs) ∧ k = !kvs.isEmpty := e
    rcases e' with ⟨xs, hx, e'⟩ | ⟨xs, hx, e'⟩ | ⟨kvs, hx, e'⟩
    · subst e'
      obtain ⟨its, r, pl, hz⟩ := I.list hx
      have hlen := r.length
      exact wpAny_truthy_list pl.isList (by simp only [List.size_toArray]; omega) ⟨H, I.tok _, by rw [isEmpty_of r]; exact q⟩
    · subst e'
      obtain ⟨its, r, pl, hz⟩ := I.tuple hx
      have hlen := r.length
      exact truthy_tuple pl (by simp only [List.size_toArray]; omega) ⟨H, I.tok _, by rw [isEmpty_of r]; exact q⟩
    · subst e'
      obtain ⟨hz, hS, vs, r, m⟩ : kvs.length ≤ sizeLine ∧ (p == sysModules) = false ∧ ∃ vs, KV kvs vs ∧ s.heap.DictOf (mixKind X.prog X.w) p vs := I.hok p _ hx
      have hlen : kvs.length = vs.length := Paired.length r
      exact wpAny_truthy_dict hS m (by omega) ⟨H, I.tok _, by rw [isEmpty_kv r]; exact q⟩
  | _ => exact (show False from e).elim
theorem pt_truth (ha : PE X a ta) (he : ∀ whole, isTrue a X.env whole = (do let v ← whole; standAt a.pos; holding [v] (truthy v))) :
    PT X a (fun σ H Q => ta σ H fun x H' => ∃ k, TruV X.K x H' k ∧ Q k H') := by
  intro pins s σ H Q I h
  exact isTrue_plain (thn (ha pins s σ H _ I h) fun v s1 ⟨x, H1, I1, r1, q1⟩ => tru_ok pins s1 σ H1 x v Q I1 r1 q1) (he _)
theorem pe_byt {x : List UInt8} {k : Nat} : PE X (.Constant (.bytes x) k pos) (fun _ H Q => Q (.byt x.toArray) H) := fun _ _ _ H _ I h => PySem.W.Constant_bytes ⟨.byt x.toArray, H, I.tok _, ⟨_, rfl⟩, h⟩
theorem op_add_str : OpR X (binaryOp .Add) (fun x y H Q => ∃ i j, x = .str i ∧ y = .str j ∧ i.length + j.length ≤ sizeLine ∧ Q (.str (i ++ j)) H) := by
  intro pins s σ H x y v u Q I rx ry h
  obtain ⟨i, j, rfl, rfl, hz, q⟩ := h
  obtain ⟨t, rfl⟩ := rx
  obtain ⟨t', rfl⟩ := ry
  exact add_str (fun t' tk => ⟨.str (i ++ j), H, I.tok _, ⟨_, rfl⟩, q⟩) hz
theorem iop_add_str : OpR X (inplaceOp .Add) (fun x y H Q => ∃ i j, x = .str i ∧ y = .str j ∧ i.length + j.length ≤ sizeLine ∧ Q (.str (i ++ j)) H) := by
  intro pins s σ H x y v u Q I rx ry h
  obtain ⟨i, j, rfl, rfl, hz, q⟩ := h
  obtain ⟨t, rfl⟩ := rx
  obtain ⟨t', rfl⟩ := ry
  exact iadd_str (fun t' tk => ⟨.str (i ++ j), H, I.tok _, ⟨_, rfl⟩, q⟩) hz
theorem op_add_byt : OpR X (binaryOp .Add) (fun x y H Q => ∃ i j, x = .byt i ∧ y = .byt j ∧ i.size + j.size ≤ 16777216 ∧ Q (.byt (i ++ j)) H) := by
  intro pins s σ H x y v u Q I rx ry h
  obtain ⟨i, j, rfl, rfl, hz, q⟩ := h
  obtain ⟨t, rfl⟩ := rx
  obtain ⟨t', rfl⟩ := ry
  exact PySem.W.KBy.add_bytes hz (fun t' tk => ⟨.byt (i ++ j), H, I.tok _, ⟨_, rfl⟩, q⟩)
def PlainIxT (b : Expr) : Prop := ∀ o i, subscripted b false o i = operate [o, i] (getItem o i)
theorem pe_item_str (ha : PE X a ta) (hb : PE X b tb) (hs : PlainIxT b) :
    PE X (.Subscript a b pos) (tOp (fun x y H Q => ∃ z i c, x = .str z ∧ y = .int i ∧ 0 ≤ i ∧ i < 2 ^ 63 ∧ i < z.length ∧ z.cps[i.toNat]? = some c ∧ Q (.str ⟨#[c]⟩) H) ta tb) := by
  intro pins s σ H Q I h
  refine Subscript_ (binT ha hb I h fun v u s2 x y H2 I2 rx ry q => ?_)
  obtain ⟨z, i, c, rfl, rfl, h0, h63, h1, hc, q⟩ := q
  obtain ⟨t, rfl⟩ := rx
  obtain ⟨t', rfl⟩ := ry
  have e : seqIndex? i z.length = some i.toNat := PySem.StrLaws.seqIndex_nonneg h0 h1
  exact tail_any (typeIs_str s2 z t) slot_str_getitem.lookup (getItem_str (c := c) (by
    have e1 : decide (i < -(2 ^ 63 : Int)) = false := decide_eq_false (by omega)
    have e2 : decide (i ≥ 2 ^ 63) = false := decide_eq_false (by omega)
    rw [e1, e2] <;> rfl) (by rw [e]; exact hc) ⟨.str ⟨#[c]⟩, H2, I2.tok _, ⟨_, rfl⟩, q⟩) (hs _ _)
theorem pe_item_byt (ha : PE X a ta) (hb : PE X b tb) (hs : PlainIxT b) :
    PE X (.Subscript a b pos) (tOp (fun x y H Q => ∃ (z : List UInt8) (i : Int), x = .byt z.toArray ∧ y = .int i ∧ z.length ≤ sizeLine ∧ 0 ≤ i ∧ i < z.length ∧ Q (.int ((z.getD i.toNat 0).toNat : Nat)) H) ta tb) := by
  intro pins s σ H Q I h
  refine Subscript_ (binT ha hb I h fun v u s2 x y H2 I2 rx ry q => ?_)
  obtain ⟨z, i, rfl, rfl, hz, h0, h1, q⟩ := q
  obtain ⟨t, rfl⟩ := rx
  obtain ⟨t', rfl⟩ := ry
  have hl : sizeLine = 16777216 := sizeLine_eq
  exact tail_any (PySem.W.typeIs_bytes s2 z.toArray t) PySem.W.FB.slot_bytes_getitem.lookup (PySem.W.getItem_bytes (by omega) h0 h1 ⟨.int ((z.getD i.toNat 0).toNat : Nat), H2, I2.tok _, ⟨_, rfl⟩, q⟩) (hs _ _)
theorem vals1 {x : V} {us : List Value} (r : Vals [x] us) : ∃ u, us = [u] ∧ RelV x u := by
  cases r with
  | cons r1 r2 => cases r2; exact ⟨_, rfl, r1⟩
theorem vals2 {x y : V} {us : List Value} (r : Vals [x, y] us) : ∃ u w', us = [u, w'] ∧ RelV x u ∧ RelV y w' := by
  cases r with
  | cons r1 r2 =>
    cases r2 with
    | cons r3 r4 => cases r4; exact ⟨_, _, rfl, r1, r3⟩
theorem call_abs : CallR X (.builtin "abs") (fun xs H Q => ∃ i, xs = [.int i] ∧ Q (.int (if i < 0 then -i else i)) H) := by
  intro pins s σ H xs us Q I r h
  obtain ⟨i, rfl, q⟩ := h
  obtain ⟨u, rfl, t, rfl⟩ := vals1 r
  exact call_abs_int fun u tk => ⟨.int (if i < 0 then -i else i), H, I.tok _, ⟨_, rfl⟩, q⟩
theorem call_max2 (hc : X.calm = true) : CallR X (.builtin "max") (fun xs H Q => ∃ i j, xs = [.int i, .int j] ∧ Q (.int (if j > i then j else i)) H) := by
  intro pins s σ H xs us Q I r h
  obtain ⟨i, j, rfl, q⟩ := h
  obtain ⟨u, w', rfl, ⟨t, rfl⟩, ⟨t', rfl⟩⟩ := vals2 r
  refine max_two_ints (I.ok.hd hc) fun h' tk k => ⟨_, H, I.kept k, ?_, q⟩
  by_cases hj : j > i
  · rw [if_pos hj, if_pos hj]; exact ⟨_, rfl⟩
  · rw [if_neg hj, if_neg hj]; exact ⟨_, rfl⟩
theorem call_min2 (hc : X.calm = true) : CallR X (.builtin "min") (fun xs H Q => ∃ i j, xs = [.int i, .int j] ∧ Q (.int (if j < i then j else i)) H) := by
  intro pins s σ H xs us Q I r h
  obtain ⟨i, j, rfl, q⟩ := h
  obtain ⟨u, w', rfl, ⟨t, rfl⟩, ⟨t', rfl⟩⟩ := vals2 r
  refine min_two_ints (I.ok.hd hc) fun h' tk k => ⟨_, H, I.kept k, ?_, q⟩
  by_cases hj : j < i
  · rw [if_pos hj, if_pos hj]; exact ⟨_, rfl⟩
  · rw [if_neg hj, if_neg hj]; exact ⟨_, rfl⟩
theorem call_int1 : CallR X (.type "int") (fun xs H Q => (∃ i, xs = [.int i] ∧ Q (.int i) H) ∨ ∃ k, xs = [.bl k] ∧ Q (.int (if k then 1 else 0)) H) := by
  intro pins s σ H xs us Q I r h
  rcases h with ⟨i, rfl, q⟩ | ⟨k, rfl, q⟩
  · obtain ⟨u, rfl, t, rfl⟩ := vals1 r
    exact call_int_int ⟨.int i, H, I, ⟨_, rfl⟩, q⟩
  · obtain ⟨u, rfl, r1⟩ := vals1 r
    cases r1
    exact call_int_bool ⟨.int (if k then 1 else 0), H, I.tok _, ⟨_, rfl⟩, q⟩
theorem call_bool1 : CallR X (.type "bool") (fun xs H Q => (∃ i, xs = [.int i] ∧ Q (.bl (i != 0)) H) ∨ ∃ k, xs = [.bl k] ∧ Q (.bl k) H) := by
  intro pins s σ H xs us Q I r h
  rcases h with ⟨i, rfl, q⟩ | ⟨k, rfl, q⟩
  · obtain ⟨u, rfl, t, rfl⟩ := vals1 r
    exact call_bool_int ⟨.bl (i != 0), H, I, rfl, q⟩
  · obtain ⟨u, rfl, r1⟩ := vals1 r
    cases r1
    exact call_bool_bool ⟨.bl k, H, I, rfl, q⟩
theorem call_str_int : CallR X (.type "str") (fun xs H Q => ∃ i, xs = [.int i] ∧ i.natAbs.log2 < 1920 ∧ Q (.str (toString i)) H) := by
  intro pins s σ H xs us Q I r h
  obtain ⟨i, rfl, hz, q⟩ := h
  obtain ⟨u, rfl, t, rfl⟩ := vals1 r
  exact PySem.P.str_of_int hz ⟨.str _, H, I.tok _, ⟨_, rfl⟩, q⟩
theorem call_ord : CallR X (.builtin "ord") (fun xs H Q => ∃ x, xs = [.str x] ∧ x.length = 1 ∧ Q (.int (x.cps.getD 0 0 : Nat)) H) := by
  intro pins s σ H xs us Q I r h
  obtain ⟨x, rfl, hz, q⟩ := h
  obtain ⟨u, rfl, t, rfl⟩ := vals1 r
  exact ord_of_one hz ⟨.int _, H, I.tok _, ⟨_, rfl⟩, q⟩
theorem call_chr : CallR X (.builtin "chr") (fun xs H Q => ∃ i, xs = [.int i] ∧ 0 ≤ i ∧ i ≤ 1114111 ∧ Q (.str ⟨#[i.toNat]⟩) H) := by
  intro pins s σ H xs us Q I r h
  obtain ⟨i, rfl, h0, h1, q⟩ := h
  obtain ⟨u, rfl, t, rfl⟩ := vals1 r
  exact chr_of_range h0 h1 ⟨.str _, H, I.tok _, ⟨_, rfl⟩, q⟩
def LenV (K : PySem.W.Frag) (x : V) (H : Hp) (n : Nat) : Prop :=
  match x with
  | .str y => y.length ≤ sizeLine ∧ n = y.length
  | .byt y => y.size ≤ sizeLine ∧ n = y.size
  | .ref p => (∃ xs, SqL K H p xs ∧ n = xs.length) ∨ ∃ xs, SqT K H p xs ∧ n = xs.length
  | _ => False
theorem call_len : CallR X (.builtin "len") (fun xs H Q => ∃ x n, xs = [x] ∧ LenV X.K x H n ∧ Q (.int n) H) := by
  intro pins s σ H xs us Q I r h
  obtain ⟨x, n, rfl, e, q⟩ := h
  obtain ⟨u, rfl, rx⟩ := vals1 r
  have hl := line63
  have hs : sizeLine = 16777216 := sizeLine_eq
  cases x with
  | str y =>
    obtain ⟨t, rfl⟩ := rx
    obtain ⟨hy, e'⟩ : y.length ≤ sizeLine ∧ n = y.length := e
    subst e'
    exact len_str (by omega) ⟨.int _, H, I.tok _, ⟨_, rfl⟩, q⟩
  | byt y =>
    obtain ⟨t, rfl⟩ := rx
    obtain ⟨hy, e'⟩ : y.size ≤ sizeLine ∧ n = y.size := e
    subst e'
    exact PySem.W.len_bytes (by omega) ⟨.int _, H, I.tok _, ⟨_, rfl⟩, q⟩
  | ref p =>
    cases rx
    have e' : (∃ xs, SqL X.K H p xs ∧ n = xs.length) ∨ ∃ xs, SqT X.K H p xs ∧ n = xs.length := e
    rcases e' with ⟨xs, hx, e'⟩ | ⟨xs, hx, e'⟩
    · subst e'
      obtain ⟨its, r', pl, hz⟩ := I.list hx
      have hlen := r'.length
      exact Calls.call_len_list pl.isList (by simp only [List.size_toArray]; omega) ⟨.int xs.length, H, I.tok _, ⟨_, by simp only [List.size_toArray]; rw [hlen]⟩, q⟩
    · subst e'
      obtain ⟨its, r', pl, hz⟩ := I.tuple hx
      have hlen := r'.length
      exact len_tuple pl (by simp only [List.size_toArray]; omega) ⟨.int xs.length, H, I.tok _, ⟨_, by simp only [List.size_toArray]; rw [hlen]⟩, q⟩
  | _ => exact (show False from e).elim
theorem call_divmod : CallR X (.builtin "divmod") (fun xs H Q => ∃ i j, xs = [.int i, .int j] ∧ CDiv i j ∧ ∀ p, H p = none → Q (.ref p) (upd H p (.tup [.int (i / j), .int (i % j)]))) := by
  intro pins s σ H xs us Q I r h
  obtain ⟨i, j, rfl, ⟨h1, h2⟩, q⟩ := h
  obtain ⟨u, w', rfl, ⟨t, rfl⟩, ⟨t', rfl⟩⟩ := vals2 r
  refine divmod_int (by omega) ?_ (.inl (PyProof.noPylong_small (by omega)))
  rw [Int.fdiv_eq_ediv_of_nonneg i (by omega), Int.fmod_eq_emod_of_nonneg i (by omega)]
  have hn : H s.heap.objs.size = none := I.hok.fresh (Nat.le_refl _)
  refine ⟨.ref s.heap.objs.size, _, ?_, rfl, q _ hn⟩
  refine I.laid (fun b o e => Heap.get?_push_of_some _ e) (Nat.le_refl _) ⟨by simp only [List.length_cons, List.length_nil]; rw [sizeLine_eq]; decide, [.int (i / j) s.toks, .int (i % j) (s.toks + 1)], .cons ⟨_, rfl⟩ (.cons ⟨_, rfl⟩ .nil), ?_⟩
  exact ⟨_, Heap.get?_push_size s.heap rfl, rfl, 0, rfl⟩
end
end L2
namespace L2
open PySem PySem.Spec PyProof.Rows
structure ObjM (h : Heap) (x dx C : Addr) (mA : Str → Option Value) : Prop where
  obj : h.get? x = some (PySem.W.instObj C dx)
  ns : h.Ns1 dx mA
  ne : dx ≠ x
theorem lookIn_ns {h : Heap} {dx : Addr} {mA : Str → Option Value} (n : h.Ns1 dx mA) : ∃ od, h.get? dx = some od ∧ ∀ name, PySem.W.lookIn name od = some (mA name) := by
  obtain ⟨o, es, ep, ho, hd, hk, _, hm⟩ := n
  refine ⟨o, ho, fun name => ?_⟩
  have e := hm name
  unfold nsFind findBy at e
  rw [← Array.find?_toList] at e
  unfold PySem.W.lookIn
  rw [hd]
  dsimp only
  split
  · rename_i y q
    rw [q] at e
    exact congrArg some e
  · rename_i q
    rw [q] at e
    have a : es.toList.any (·.refKey) = false := by
      rw [List.any_eq_false]
      intro y hy
      obtain ⟨z, t, hkey⟩ := hk y (Array.mem_toList_iff.mp hy)
      simp [DictEntry.refKey, hkey]
    have a' : ¬ es.toList.any (·.refKey) = true := by rw [a]; exact Bool.false_ne_true
    rw [if_neg a']
    exact congrArg some e
theorem ObjM.look {h : Heap} {x dx C : Addr} {mA : Str → Option Value} (I : ObjM h x dx C mA) : ∃ od, PySem.W.InstAt h x (PySem.W.instObj C dx) C (some od) ∧ ∀ name, PySem.W.lookIn name od = some (mA name) :=
  let ⟨od, ho, hl⟩ := lookIn_ns I.ns
  ⟨od, ⟨I.obj, rfl, rfl, ho⟩, hl⟩
section
variable {prog : Program} {w : World} {A : Around} {E : Value → Shared → Prop} {s : Shared} {K : PySem.W.Frag} {x dx C f : Addr} {mA : Str → Option Value} {name : Str} {v : Value}
theorem get_map {expr : Bool} {Q : Value → Shared → Prop} (X : K.In s.heap) (I : ObjM s.heap x dx C mA) (hg : PySem.W.plainGet K C name = true) (hh : PySem.W.hasDictIn K C = true)
    (ha : PySem.W.findIn K (.ref C) name = some none) (hv : mA name = some v) (hv' : PySem.W.handedIn v = true) (h : Q v { s with toks := s.toks + 1 }) :
    wpAny (model prog w) A (getAttr (.ref x) name expr) Q E s := by
  obtain ⟨od, J, hl⟩ := I.look
  exact PySem.W.get_value X J (PySem.W.plainGet_of hg).1 (PySem.W.findObj_own hh ha rfl (by rw [hl, hv])) hv' h
theorem get_const {expr : Bool} {a : Value} {Q : Value → Shared → Prop} (X : K.In s.heap) (I : ObjM s.heap x dx C mA) (hg : PySem.W.plainGet K C name = true) (hh : PySem.W.hasDictIn K C = true)
    (ha : PySem.W.findIn K (.ref C) name = some (some a)) (hn : PySem.W.specialIn K a "__get__" = some none) (hc : PySem.W.copiedNames.contains name = false) (hv : mA name = none) (hv' : PySem.W.handedIn a = true)
    (h : Q a { s with toks := s.toks + 1 }) : wpAny (model prog w) A (getAttr (.ref x) name expr) Q E s := by
  obtain ⟨od, J, hl⟩ := I.look
  exact PySem.W.get_value X J (PySem.W.plainGet_of hg).1 (PySem.W.findObj_cls hh ha hn hv' hc (by rw [hl, hv])) hv' h
theorem get_meth {pl : Sem Bool} {Q : Value × List Value → Shared → Prop} (X : K.In s.heap) (I : ObjM s.heap x dx C mA) (hg : PySem.W.plainGet K C name = true)
    (hf : PySem.W.findIn K (.ref C) name = some (some (.ref f))) (ht : PySem.W.isFn K (.ref f) = true) (hv : mA name = none) (h : Q (.ref f, [.ref x]) s) :
    wpAny (model prog w) A (getMethod (.ref x) name pl) Q E s := by
  obtain ⟨od, J, hl⟩ := I.look
  exact PySem.W.method_fn X J (PySem.W.plainGet_of hg).1 (PySem.W.plainGet_of hg).2 hf (beq_iff_eq.mp ht) (by show (PySem.W.lookIn name od).map (·.isSome) = some false; rw [hl, hv]; rfl) h
theorem set_map {ns : List Str} {Q : Unit → Shared → Prop} (X : K.In s.heap) (I : ObjM s.heap x dx C mA)
    (hs : PySem.W.findIn K (.ref C) "__setattr__" = some (some (.builtin "object.__setattr__"))) (hp : PySem.W.plainOver K C = true) (ht : PySem.W.takerIn K C name = some none) (hh : PySem.W.hasDictIn K C = true)
    (hw : PySem.Within mA ns) (hsz : ns.length ≤ sizeLine)
    (h : ∀ h', ObjM h' x dx C (fun y => if y = name then some v else mA y) → Heap.SameBut dx s.heap h' → Q () { s with heap := h', toks := s.toks + 2 }) :
    wpAny (model prog w) A (setAttr (.ref x) name v) Q E s := by
  obtain ⟨od, J, hl⟩ := I.look
  refine PySem.W.set_plain X J hs (PySem.W.osa_open (s := { s with toks := s.toks + 1 }) (r := none) X J hp ht fun b => ?_)
  obtain ⟨cd, hc, hd'⟩ := PySem.W.any_some hh
  have hx : s.heap.get? x = some ⟨.ref C, some dx, .plain, #[]⟩ := I.obj
  refine wpAny_bind (wpAny_pure (wpAny_bind (wpAny_bind (wpAny_loadPart hx (wpAny_bind (PySem.W.Looks.here (s := { s with toks := s.toks + 1 }) (PySem.W.looks_clsIn X hc) ?_))))))
  rw [hd']
  refine wpAny_pure (a := some dx) (wpAny_bind (wpAny_pure (wpAny_bind ?_)))
  refine wpAny_nsSet1 (s := { s with toks := s.toks + 1 }) I.ns fun h' hn2 hs2 => ?_
  obtain ⟨oD, esD, epD, hoD, hdD, hcD⟩ := hn2.count (PySem.Within.cons name v hw)
  refine wpAny_bind (wpAny_lookBehind hoD (by rw [hdD]; exact pastItsLine_dict (Nat.le_trans hcD (by rw [List.length_cons]; omega))) ?_)
  exact wpAny_pure (h _ ⟨(hs2.2 _ (Ne.symm I.ne)).trans I.obj, hn2, I.ne⟩ hs2)
theorem make_map {R : Result → Shared → Prop} {vs : List Value} {kw : List (Str × Value)} (X : K.In s.heap) (hm : PySem.W.makesIn K C = true)
    (hi : PySem.W.findIn K (.ref C) "__init__" = some (some (.ref f))) (hf : PySem.W.typeIn K (.ref f) = some (.type "function"))
    (h : codeAny (model prog w) (A.under (.builtin "type.__call__" ⟨.ref C :: vs, kw⟩)) (.call (.ref f) ⟨.ref (s.heap.objs.size + 1) :: vs, kw⟩) (PySem.W.InitBack (s.heap.objs.size + 1) R)
      { s with heap := (s.heap.push PySem.W.emptyDict).push (PySem.W.instObj C s.heap.objs.size) }) :
    codeAny (model prog w) A (.call (.ref C) ⟨vs, kw⟩) R s := by
  obtain ⟨hh, g, d, t, os⟩ := s
  exact PySem.W.make_core (PySem.W.makes_of X hm) (PySem.W.looks_findIn X hi) (fun self => PySem.W.bind_fn X self hf) (.inl rfl) h
theorem make_map0 {R : Result → Shared → Prop} (X : K.In s.heap) (hm : PySem.W.makesIn K C = true)
    (hi : PySem.W.findIn K (.ref C) "__init__" = some (some (.builtin "object.__init__")))
    (hb : ∀ self, PySem.W.Looks (model prog w) s.heap (bindSpecial (.builtin "object.__init__") self) (.builtin "object.__init__", [self]))
    (h : codeAny (model prog w) (A.under (.builtin "type.__call__" ⟨[.ref C], []⟩)) (.call (.builtin "object.__init__") ⟨[.ref (s.heap.objs.size + 1)], []⟩) (PySem.W.InitBack (s.heap.objs.size + 1) R)
      { s with heap := (s.heap.push PySem.W.emptyDict).push (PySem.W.instObj C s.heap.objs.size) }) :
    codeAny (model prog w) A (.call (.ref C) ⟨[], []⟩) R s := by
  obtain ⟨hh, g, d, t, os⟩ := s
  exact PySem.W.make_core (PySem.W.makes_of X hm) (PySem.W.looks_findIn X hi) hb (.inr ⟨rfl, rfl⟩) h
end
def putF (f : Str) (v : V) : List (Str × V) → List (Str × V)
  | [] => [(f, v)]
  | (g, x) :: r => if g = f then (g, v) :: r else (g, x) :: putF f v r
theorem lookup_putF (f g : Str) (v : V) : ∀ fs : List (Str × V), (putF f v fs).lookup g = if g = f then some v else fs.lookup g
  | [] => by
    show List.lookup g [(f, v)] = _
    by_cases h : g = f
    · have hb : (g == f) = true := beq_iff_eq.mpr h
      simp only [List.lookup, hb, if_pos h]
    · have hb : (g == f) = false := beq_eq_false_iff_ne.mpr h
      simp only [List.lookup, hb, if_neg h]
  | (k, x) :: r => by
    have ih := lookup_putF f g v r
    rw [show putF f v ((k, x) :: r) = (if k = f then (k, v) :: r else (k, x) :: putF f v r) from rfl]
    by_cases hk : k = f
    · rw [if_pos hk]
      by_cases h : g = k
      · have hb : (g == k) = true := beq_iff_eq.mpr h
        simp only [List.lookup, hb, if_pos (h.trans hk)]
      · have hb : (g == k) = false := beq_eq_false_iff_ne.mpr h
        simp only [List.lookup, hb, if_neg (fun e : g = f => h (e.trans hk.symm))]
    · rw [if_neg hk]
      by_cases h : g = k
      · have hb : (g == k) = true := beq_iff_eq.mpr h
        simp only [List.lookup, hb, if_neg (fun e : g = f => hk (h.symm.trans e))]
      · have hb : (g == k) = false := beq_eq_false_iff_ne.mpr h
        simp only [List.lookup, hb]
        exact ih
theorem keys_putF (f : Str) (v : V) : ∀ fs : List (Str × V), f ∈ (putF f v fs).map (·.1) ∧ ∀ g, g ∈ fs.map (·.1) → g ∈ (putF f v fs).map (·.1)
  | [] => ⟨by simp [putF], fun g h => by simp at h⟩
  | (k, x) :: r => by
    obtain ⟨i1, i2⟩ := keys_putF f v r
    rw [show putF f v ((k, x) :: r) = (if k = f then (k, v) :: r else (k, x) :: putF f v r) from rfl]
    by_cases hk : k = f
    · rw [if_pos hk]
      subst hk
      exact ⟨by simp, fun g h => by simpa using h⟩
    · rw [if_neg hk]
      refine ⟨?_, fun g h => ?_⟩
      · rw [List.map_cons]
        exact List.mem_cons_of_mem _ i1
      · rw [List.map_cons] at h ⊢
        rcases List.mem_cons.mp h with e | e
        · exact List.mem_cons.mpr (.inl e)
        · exact List.mem_cons_of_mem _ (i2 g e)
theorem length_putF (f : Str) (v : V) : ∀ fs : List (Str × V), (putF f v fs).length ≤ fs.length + 1
  | [] => by simp [putF]
  | (k, x) :: r => by
    have ih := length_putF f v r
    rw [show putF f v ((k, x) :: r) = (if k = f then (k, v) :: r else (k, x) :: putF f v r) from rfl]
    by_cases hk : k = f
    · rw [if_pos hk, List.length_cons, List.length_cons]; omega
    · rw [if_neg hk, List.length_cons, List.length_cons]; omega
theorem RelO.some_of {v : V} {o : Option Value} (r : RelO (some v) o) : ∃ u, o = some u ∧ RelV v u := by
  cases o with
  | none => exact (show False from r).elim
  | some u => exact ⟨u, rfl, r⟩
theorem RelO.none_of {o : Option Value} (r : RelO none o) : o = none := by
  cases o with
  | none => rfl
  | some u => exact (show False from r).elim
theorem handed_of {v : V} {u : Value} (r : RelV v u) : PySem.W.handedIn u = true := by
  cases v with
  | non => cases (show u = Value.none from r); rfl
  | bl b => cases (show u = Value.bool b from r); rfl
  | int i => obtain ⟨t, e⟩ := (show ∃ t, u = Value.int i t from r); cases e; rfl
  | str x => obtain ⟨t, e⟩ := (show ∃ t, u = Value.str x t from r); cases e; rfl
  | byt b => obtain ⟨t, e⟩ := (show ∃ t, u = Value.bytes b t from r); cases e; rfl
  | flt b => obtain ⟨t, e⟩ := (show ∃ t, u = Value.float b t from r); cases e; rfl
  | ref a => cases (show u = Value.ref a from r); rfl
  | ty n => cases (show u = Value.type n from r); rfl
section
variable {P : Program} {w : World} {H H' : Hp} {h h' : Heap} {a C dx : Addr} {fs fs' : List (Str × V)}
theorem ins_get (hok : HOk P w H h) (e : H a = some (.ins C dx fs)) : ∃ mA, ObjM h a dx C mA ∧ (∀ f, RelO (fs.lookup f) (mA f)) ∧ PySem.Within mA (fs.map (·.1)) ∧ fs.length ≤ 1000 ∧ H dx = some (.own a) := by
  obtain ⟨d, z, ne, ob, mA, n, r, q⟩ := (show ObjOk P w H h a (.ins C dx fs) from hok a _ e)
  exact ⟨mA, ⟨ob, n, ne⟩, r, q, z, d⟩
end
structure Cls (K : PySem.W.Frag) (C : Addr) : Prop where
  pg : PySem.W.plainGet K C Str.empty = true
  hd : PySem.W.hasDictIn K C = true
  po : PySem.W.plainOver K C = true
  sa : PySem.W.findIn K (.ref C) "__setattr__" = some (some (.builtin "object.__setattr__"))
theorem Cls.get {K : PySem.W.Frag} {C : Addr} (c : Cls K C) (f : Str) : PySem.W.plainGet K C f = true := c.pg
def NoAttr (K : PySem.W.Frag) (C : Addr) (f : Str) : Prop := PySem.W.findIn K (.ref C) f = some none
theorem NoAttr.taker {K : PySem.W.Frag} {C : Addr} {f : Str} (n : NoAttr K C f) : PySem.W.takerIn K C f = some none := by
  unfold PySem.W.takerIn
  rw [show PySem.W.findIn K (.ref C) f = some none from n]
  rfl
structure Con (K : PySem.W.Frag) (C : Addr) (f : Str) (v : V) (u : Value) : Prop where
  at_ : PySem.W.findIn K (.ref C) f = some (some u)
  rel : RelV v u
  get : PySem.W.specialIn K u "__get__" = some none
  cp : PySem.W.copiedNames.contains f = false
structure Meth (K : PySem.W.Frag) (C : Addr) (m : Str) (f : Addr) : Prop where
  at_ : PySem.W.findIn K (.ref C) m = some (some (.ref f))
  fn : PySem.W.isFn K (.ref f) = true
  kp : PySem.W.keepIn K (.ref f) = true
section
variable {X : Cx} {pins : List (Addr × Obj)} {σ : St} {H : Hp} {s : Shared} {a C dx : Addr} {fs : List (Str × V)} {f : Str} {v : V} {A : Around} {E : Value → Shared → Prop}
theorem getattr_ok {b : Bool} {Q : Value → Shared → Prop} (I : Inv X pins σ H s) (e : H a = some (.ins C dx fs)) (c : Cls X.K C) (n : NoAttr X.K C f) (l : fs.lookup f = some v)
    (h : ∀ u s', Inv X pins σ H s' → RelV v u → Q u s') : wpAny (model X.prog X.w) A (getAttr (.ref a) f b) Q E s := by
  obtain ⟨mA, O, r, _, _, _⟩ := ins_get I.hok e
  obtain ⟨u, hu, ru⟩ := RelO.some_of (v := v) (o := mA f) (by rw [← l]; exact r f)
  exact get_map I.kIn O (c.get f) c.hd n hu (handed_of ru) (h u _ (I.tok _) ru)
theorem getcon_ok {b : Bool} {u : Value} {Q : Value → Shared → Prop} (I : Inv X pins σ H s) (e : H a = some (.ins C dx fs)) (c : Cls X.K C) (k : Con X.K C f v u) (l : fs.lookup f = none)
    (h : ∀ s', Inv X pins σ H s' → Q u s') : wpAny (model X.prog X.w) A (getAttr (.ref a) f b) Q E s := by
  obtain ⟨mA, O, r, _, _, _⟩ := ins_get I.hok e
  have hn : mA f = none := RelO.none_of (by rw [← l]; exact r f)
  exact get_const I.kIn O (c.get f) c.hd k.at_ k.get k.cp hn (handed_of k.rel) (h _ (I.tok _))
theorem getmeth_ok {m : Str} {g : Addr} {pl : Sem Bool} {Q : Value × List Value → Shared → Prop} (I : Inv X pins σ H s) (e : H a = some (.ins C dx fs)) (c : Cls X.K C) (k : Meth X.K C m g) (l : fs.lookup m = none)
    (h : Q (.ref g, [.ref a]) s) : wpAny (model X.prog X.w) A (getMethod (.ref a) m pl) Q E s := by
  obtain ⟨mA, O, r, _, _, _⟩ := ins_get I.hok e
  have hn : mA m = none := RelO.none_of (by rw [← l]; exact r m)
  exact get_meth I.kIn O (c.get m) k.at_ k.fn hn h
theorem setattr_ok {y : V} {u : Value} {Q : Unit → Shared → Prop} (I : Inv X pins σ H s) (e : H a = some (.ins C dx fs)) (c : Cls X.K C) (n : NoAttr X.K C f) (hl : fs.length < 1000) (ry : RelV y u)
    (h : ∀ s', Inv X pins σ (upd H a (.ins C dx (putF f y fs))) s' → Q () s') : wpAny (model X.prog X.w) A (setAttr (.ref a) f u) Q E s := by
  obtain ⟨mA, O, r, wi, _, ho⟩ := ins_get I.hok e
  have hz : (fs.map (·.1)).length ≤ sizeLine := by rw [List.length_map, sizeLine_eq]; omega
  refine set_map I.kIn O c.sa c.po n.taker c.hd wi hz fun h' O' sb => h _ ?_
  have hd : ∃ o, h'.get? dx = some o := let ⟨o, _, _, e', _⟩ := O'.ns; ⟨o, e'⟩
  refine I.write (x := a) (e := dx) (by rw [e]; exact True.intro) (.inr ho) (fun b q hb z => (sb.2 b hb).trans z) hd ?_
  refine ⟨by rw [upd_ne O.ne]; exact ho, ?_, O.ne, O'.obj, _, O'.ns, fun g => ?_, fun g hg => ?_⟩
  · have := length_putF f y fs; omega
  · show RelO ((putF f y fs).lookup g) (if g = f then some u else mA g)
    rw [lookup_putF]
    by_cases q : g = f
    · rw [if_pos q, if_pos q]; exact ry
    · rw [if_neg q, if_neg q]; exact r g
  · by_cases q : g = f
    · rw [q]; exact (keys_putF f y fs).1
    · refine (keys_putF f y fs).2 g (wi g fun z => hg ?_)
      show (if g = f then some u else mA g) = none
      rw [if_neg q]; exact z
theorem Inv.made (I : Inv X pins σ H s) : Inv X pins σ (upd (upd H s.heap.objs.size (.own (s.heap.objs.size + 1))) (s.heap.objs.size + 1) (.ins C s.heap.objs.size []))
    { s with heap := (s.heap.push PySem.W.emptyDict).push (PySem.W.instObj C s.heap.objs.size) } := by
  have e1 : (s.heap.push PySem.W.emptyDict).get? s.heap.objs.size = some PySem.W.emptyDict := Heap.get?_push_size s.heap rfl
  have e2 : ((s.heap.push PySem.W.emptyDict).push (PySem.W.instObj C s.heap.objs.size)).get? (s.heap.objs.size + 1) = some (PySem.W.instObj C s.heap.objs.size) := by
    have := Heap.get?_push_size (s.heap.push PySem.W.emptyDict) (o := PySem.W.instObj C s.heap.objs.size) rfl
    rwa [Heap.size_push] at this
  have e3 : (s.heap.push PySem.W.emptyDict).Ns s.heap.objs.size (fun _ => none) := ⟨PySem.W.emptyDict, #[], _, e1, rfl, (fun e he => absurd he (by simp)), fun _ => rfl⟩
  have I1 := I.laid (a := s.heap.objs.size) (o := .own (s.heap.objs.size + 1)) (h' := s.heap.push PySem.W.emptyDict) (t' := s.toks) (fun b u q => Heap.get?_push_of_some _ q) (Nat.le_refl _) ⟨_, e1⟩
  refine I1.laid (a := s.heap.objs.size + 1) (o := .ins C s.heap.objs.size []) (t' := s.toks) (fun b u q => Heap.get?_push_of_some _ q) (Nat.le_of_eq (Heap.size_push _ _)) ?_
  have ne : s.heap.objs.size ≠ s.heap.objs.size + 1 := Nat.ne_of_lt (Nat.lt_succ_self _)
  refine ⟨by rw [upd_ne ne, upd_same], Nat.zero_le _, ne, e2, fun _ => none, (Heap.Ns1.of_empty e3).at fun o q => Heap.get?_push_of_some _ q, fun _ => True.intro, fun y hy => absurd rfl hy⟩
theorem attr_of {prog : Program} {w : World} {env : Env} {e : Expr} {f : Str} {pos : Pos} {s : Shared} {Q : Value → Shared → Prop} (hb : attributeBase e f env (eval e env) = eval e env)
    (h : wpAny (model prog w) A (eval e env) (fun o s₁ => wpAny (model prog w) A (getAttr o f true) Q E s₁) E s) : wpAny (model prog w) A (eval (.Attribute e f pos) env) Q E s :=
  Attribute_any_ h (by rw [arm_eval_Attribute, hb])
end
def tFld (K : PySem.W.Frag) (ta : TE) (f : Str) : TE := fun σ H Q => ta σ H fun x H1 => ∃ a C dx fs v, x = .ref a ∧ H1 a = some (.ins C dx fs) ∧ Cls K C ∧ NoAttr K C f ∧ fs.lookup f = some v ∧ Q v H1
def tCon (K : PySem.W.Frag) (ta : TE) (f : Str) : TE := fun σ H Q => ta σ H fun x H1 => ∃ a C dx fs v u, x = .ref a ∧ H1 a = some (.ins C dx fs) ∧ Cls K C ∧ Con K C f v u ∧ fs.lookup f = none ∧ Q v H1
def sFld (K : PySem.W.Frag) (ta tv : TE) (f : Str) : TS := fun D σ H => tv σ H fun y H1 => ta σ H1 fun x H2 => ∃ a C dx fs, x = .ref a ∧ H2 a = some (.ins C dx fs) ∧ Cls K C ∧ NoAttr K C f ∧ fs.length < 1000 ∧
  D.nx σ (upd H2 a (.ins C dx (putF f y fs)))
def InOp (X : Cx) (op : Operator) (rd : V → V → Hp → VK → Prop) : Prop :=
  ∀ (pins : List (Addr × Obj)) (s : Shared) (σ : St) (H : Hp) (x y : V) (u v : Value) (Q : VK), Inv X pins σ H s → RelV x u → RelV y v → rd x y H Q → wpAny (model X.prog X.w) X.A (inplaceOp op u v) (EP X pins σ Q) X.xe s
def sFldAug (K : PySem.W.Frag) (ta tv : TE) (rd : V → V → Hp → VK → Prop) (f : Str) : TS := fun D σ H => ta σ H fun x H1 => ∃ a C dx fs v, x = .ref a ∧ H1 a = some (.ins C dx fs) ∧ Cls K C ∧ NoAttr K C f ∧ fs.lookup f = some v ∧
  tv σ H1 fun y H2 => rd v y H2 fun z H3 => ∃ dx' fs', H3 a = some (.ins C dx' fs') ∧ fs'.length < 1000 ∧ D.nx σ (upd H3 a (.ins C dx' (putF f z fs')))
section
variable {X : Cx} {o e value : Expr} {f : Str} {pos pos' tpos : Pos} {ta tv : TE}
theorem pe_fld (he : PE X e ta) (hb : attributeBase e f X.env (eval e X.env) = eval e X.env) : PE X (.Attribute e f pos) (tFld X.K ta f) := by
  intro pins s σ H Q I h
  refine attr_of hb (thn (he pins s σ H _ I h) fun u s1 ⟨x, H1, I1, rx, a, C, dx, fs, v, ex, ea, c, n, l, q⟩ => ?_)
  subst ex
  obtain rfl : u = Value.ref a := rx
  exact getattr_ok I1 ea c n l fun u' s2 I2 ru => ⟨v, H1, I2, ru, q⟩
theorem pe_con (he : PE X e ta) (hb : attributeBase e f X.env (eval e X.env) = eval e X.env) : PE X (.Attribute e f pos) (tCon X.K ta f) := by
  intro pins s σ H Q I h
  refine attr_of hb (thn (he pins s σ H _ I h) fun u s1 ⟨x, H1, I1, rx, a, C, dx, fs, v, u0, ex, ea, c, k, l, q⟩ => ?_)
  subst ex
  obtain rfl : u = Value.ref a := rx
  exact getcon_ok I1 ea c k l fun s2 I2 => ⟨v, H1, I2, k.rel, q⟩
theorem ps_fld (ha : PE X o ta) (hv : PE X value tv) (hs : swapsWith value (some (.Attribute o f pos')) pos.line X.env = pure false) : PS X (.Assign [.Attribute o f pos'] value pos) (sFld X.K ta tv f) := by
  intro pins s σ H D I h
  refine plainObj_wpAny_Assign_Attribute (thn (hv pins s σ H _ I h) fun u s1 ⟨y, H1, I1, ry, q⟩ => thn (ha pins s1 σ H1 _ I1 q) fun ov s2 ⟨x, H2, I2, rx, a, C, dx, fs, ex, ea, c, n, l, q2⟩ => ?_) hs
  subst ex
  obtain rfl : ov = Value.ref a := rx
  exact setattr_ok I2 ea c n l ry fun s3 I3 => ⟨σ, _, I3, q2⟩
theorem ps_fldaug {op : Operator} {rd : V → V → Hp → VK → Prop} (ha : PE X o ta) (hv : PE X value tv) (hop : InOp X op rd) : PS X (.AugAssign (.Attribute o f tpos) op value pos) (sFldAug X.K ta tv rd f) := by
  intro pins s σ H D I h
  refine wpAny_AugAssign_AttributeAny (thn (ha pins s σ H _ I h) fun ov s1 ⟨x, H1, I1, rx, a, C, dx, fs, v, ex, ea, c, n, l, q⟩ => ?_)
  subst ex
  obtain rfl : ov = Value.ref a := rx
  refine getattr_ok I1 ea c n l fun u s2 I2 ru => thn (hv pins s2 σ H1 _ I2 q) fun w3 s3 ⟨y, H2, I3, ry, q3⟩ => thn (hop pins s3 σ H2 v y u w3 _ I3 ru ry q3) fun w4 s4 ⟨z, H3, I4, rz, dx', fs', ea', l', q4⟩ => ?_
  exact setattr_ok I4 ea' c n l' rz fun s5 I5 => ⟨σ, _, I5, q4⟩
def rAdd : V → V → Hp → VK → Prop := fun x y H Q => ∃ i j, x = .int i ∧ y = .int j ∧ Q (.int (i + j)) H
def rSub : V → V → Hp → VK → Prop := fun x y H Q => ∃ i j, x = .int i ∧ y = .int j ∧ Q (.int (i - j)) H
theorem in_add : InOp X .Add rAdd := by
  rintro pins s σ H x y u v Q I rx ry ⟨i, j, rfl, rfl, q⟩
  obtain ⟨t, rfl⟩ := (show ∃ t, u = Value.int i t from rx)
  obtain ⟨t', rfl⟩ := (show ∃ t', v = Value.int j t' from ry)
  exact PyProof.Rows.iadd_int ⟨.int (i + j), H, I.tok _, ⟨_, rfl⟩, q⟩
theorem in_sub : InOp X .Sub rSub := by
  rintro pins s σ H x y u v Q I rx ry ⟨i, j, rfl, rfl, q⟩
  obtain ⟨t, rfl⟩ := (show ∃ t, u = Value.int i t from rx)
  obtain ⟨t', rfl⟩ := (show ∃ t', v = Value.int j t' from ry)
  exact PyProof.Rows.isub_int ⟨.int (i - j), H, I.tok _, ⟨_, rfl⟩, q⟩
theorem methcall_of {pl : Sem Bool} {m : Str} {apos : Pos} {args : List Expr} {pins : List (Addr × Obj)} {s : Shared} {σ : St} {H : Hp} {Q : Value → Shared → Prop} {te : TE} (he : PE X e te) (I : Inv X pins σ H s)
    (h : te σ H fun x H1 => ∃ a C dx fs g, x = .ref a ∧ H1 a = some (.ins C dx fs) ∧ Cls X.K C ∧ Meth X.K C m g ∧ fs.lookup m = none ∧
      ∀ s1, Inv X pins σ H1 s1 → wpAny (model X.prog X.w) X.A (callWith pos (.ref g) [.ref a] (backTo pos (starEach args X.env)) (backToKw pos (keywordEach [] X.env))) Q X.xe s1)
    (ht : eval (.Call (.Attribute e m apos) args [] pos) X.env = (do
      let ov ← eval e X.env
      standAt apos.atName
      let (f, first) ← holding [ov] (getMethod ov m pl)
      callWith pos f first (backTo pos (starEach args X.env)) (backToKw pos (keywordEach [] X.env)))) :
    wpAny (model X.prog X.w) X.A (eval (.Call (.Attribute e m apos) args [] pos) X.env) Q X.xe s := by
  refine PySem.W.methodCall_KW (pl := pl) (thn (he pins s σ H _ I h) fun u s1 ⟨x, H1, I1, rx, a, C, dx, fs, g, ex, ea, c, k, l, q⟩ => ?_) ht
  subst ex
  obtain rfl : u = Value.ref a := rx
  exact getmeth_ok I1 ea c k l (q s1 I1)
end
section
variable {X : Cx} {pins : List (Addr × Obj)} {σ : St} {H : Hp} {s : Shared} {A : Around} {E : Value → Shared → Prop} {Q : Value → Shared → Prop} {c : Value} {b : Bool}
inductive TyOf (K : PySem.W.Frag) (H : Hp) : V → Value → Prop where
  | non : TyOf K H .non (.type "NoneType")
  | bl (x : Bool) : TyOf K H (.bl x) (.type "bool")
  | int (i : Int) : TyOf K H (.int i) (.type "int")
  | str (x : Str) : TyOf K H (.str x) (.type "str")
  | flt (x : UInt64) : TyOf K H (.flt x) (.type "float")
  | lst {a : Addr} {xs : List V} (e : H a = some (.lst xs)) : TyOf K H (.ref a) (.type "list")
  | frz {a : Addr} {o : Obj} {xs : List V} (e : H a = some (.frz o (.lst xs))) : TyOf K H (.ref a) (.type "list")
  | tup {a : Addr} {xs : List V} (e : H a = some (.tup xs)) : TyOf K H (.ref a) (.type "tuple")
  | dK {a : Addr} {kvs : List (Key × V)} (e : H a = some (.dK kvs)) : TyOf K H (.ref a) (.type "dict")
  | dT {a : Addr} {kvs : List (List Key × V)} (e : H a = some (.dT kvs)) : TyOf K H (.ref a) (.type "dict")
  | ins {a C dx : Addr} {fs : List (Str × V)} (e : H a = some (.ins C dx fs)) (cl : Cls K C) (ha : PySem.W.findIn K (.ref C) "__class__" = some (some (.builtin "object.__class__")))
      (hn : PySem.W.specialIn K (.builtin "object.__class__") "__get__" = some (some (.builtin "getset_descriptor.__get__"))) (htk : PySem.W.takesIn K (.builtin "object.__class__") = some true)
      (hm : PySem.W.mroIn K C (.type "object") = some true) : TyOf K H (.ref a) (.ref C)
theorem isinst_ok {x : V} {u t : Value} (I : Inv X pins σ H s) (rx : RelV x u) (ty : TyOf X.K H x t) (e : PySem.W.kitOne X.K t c = some b) (h : ∀ tk, Q (.bool b) { s with toks := tk }) :
    wpAny (model X.prog X.w) A (call (.builtin "isinstance") [u, c]) Q E s := by
  cases ty with
  | non => cases (show u = Value.none from rx); exact PySem.W.kia_one PySem.W.kitx_none I.kIn True.intro e (fun z => nomatch z) h
  | bl y => cases (show u = Value.bool y from rx); exact PySem.W.kia_one PySem.W.kitx_bool I.kIn True.intro e (fun z => nomatch z) h
  | int i => obtain ⟨t, q⟩ := (show ∃ t, u = Value.int i t from rx); cases q; exact PySem.W.kia_one PySem.W.kitx_int I.kIn True.intro e (fun z => nomatch z) h
  | str y => obtain ⟨t, q⟩ := (show ∃ t, u = Value.str y t from rx); cases q; exact PySem.W.kia_one PySem.W.kitx_str I.kIn True.intro e (fun z => nomatch z) h
  | flt y => obtain ⟨t, q⟩ := (show ∃ t, u = Value.float y t from rx); cases q; exact PySem.W.kia_one PySem.W.kitx_float I.kIn True.intro e (fun z => nomatch z) h
  | @lst a xs ea =>
    cases (show u = Value.ref a from rx)
    obtain ⟨_, _, n, _, h1⟩ := (show ObjOk X.prog X.w H s.heap a (.lst xs) from I.hok a _ ea)
    exact PySem.W.kia_one PySem.W.kitx_list I.kIn ⟨_, h1, rfl⟩ e (fun z => nomatch z) h
  | @frz a ob xs ea =>
    cases (show u = Value.ref a from rx)
    obtain ⟨_, _, _, n, _, h1⟩ := (show ObjOk X.prog X.w H s.heap a (.frz ob (.lst xs)) from I.hok a _ ea)
    exact PySem.W.kia_one PySem.W.kitx_list I.kIn ⟨_, h1, rfl⟩ e (fun z => nomatch z) h
  | @tup a xs ea =>
    cases (show u = Value.ref a from rx)
    obtain ⟨_, _, _, p⟩ := (show ObjOk X.prog X.w H s.heap a (.tup xs) from I.hok a _ ea)
    obtain ⟨o, h1, h2, _⟩ := p
    exact PySem.W.kia_one PySem.W.kitx_tuple I.kIn ⟨o, h1, h2⟩ e (fun z => nomatch z) h
  | @dK a kvs ea =>
    cases (show u = Value.ref a from rx)
    obtain ⟨_, _, vs, _, p⟩ := (show ObjOk X.prog X.w H s.heap a (.dK kvs) from I.hok a _ ea)
    obtain ⟨o, es, ep, h1, h2, _⟩ := p
    exact PySem.W.kia_one PySem.W.kitx_dict I.kIn ⟨o, h1, h2.1⟩ e (fun z => nomatch z) h
  | @dT a kvs ea =>
    cases (show u = Value.ref a from rx)
    obtain ⟨_, _, xs, _, o, es, ep, h1, h2, _⟩ := (show ObjOk X.prog X.w H s.heap a (.dT kvs) from I.hok a _ ea)
    exact PySem.W.kia_one PySem.W.kitx_dict I.kIn ⟨o, h1, h2.1⟩ e (fun z => nomatch z) h
  | @ins a C dx fs ea cl ha hn htk hm =>
    cases (show u = Value.ref a from rx)
    obtain ⟨mA, O, _⟩ := ins_get I.hok ea
    obtain ⟨od, J, _⟩ := O.look
    exact PySem.W.kia_one (PySem.W.kitx_own (cl.get _) cl.hd ha hn htk hm) I.kIn J e (fun z => nomatch z) h
end
end L2
namespace L2
open PySem PySem.Spec PyProof.Rows
structure Room (k : Nat) (A : Around) : Prop where
  hd : A.handled = none
  dp : A.depth + 3 * k + 5 < recursionLimit
  un : A.units + 16 * k + 200 < cLine
theorem Room.mono {j k : Nat} {A : Around} (r : Room k A) (h : j ≤ k) : Room j A := ⟨r.hd, by have := r.dp; omega, by have := r.un; omega⟩
theorem Room.deeper {k : Nat} {A : Around} (r : Room (k + 1) A) (env : Env) : Room k (A.deeper env) :=
  ⟨r.hd, by have := r.dp; show A.depth + 1 + 3 * k + 5 < _; omega, by have := r.un; show A.units + 3 + 16 * k + 200 < _; omega⟩
theorem Room.in1 {k : Nat} {A : Around} (r : Room (k + 1) A) : Room k A.in1 :=
  ⟨r.hd, by have := r.dp; show A.depth + 3 * k + 5 < _; omega, by have := r.un; show A.units + 1 + 16 * k + 200 < _; omega⟩
theorem make_depth {A : Around} {C : Addr} {us : List Value} {kw : List (Str × Value)} : (A.under (.builtin "type.__call__" ⟨.ref C :: us, kw⟩)).depth = A.depth + 1 := by
  first | rfl | simp [Around.under, Code.weight, Code.isCreation, Code.isGuard, Code.isCaller, Code.frames, Code.isFrame, guardIds]
theorem make_units {A : Around} {C : Addr} {us : List Value} {kw : List (Str × Value)} : (A.under (.builtin "type.__call__" ⟨.ref C :: us, kw⟩)).units = A.units + 1 := by
  first | rfl | simp [Around.under, Code.cUnits, Code.frames, Code.isFrame]
theorem Room.make {k : Nat} {A : Around} (r : Room (k + 1) A) (C : Addr) (us : List Value) (kw : List (Str × Value)) : Room k (A.under (.builtin "type.__call__" ⟨.ref C :: us, kw⟩)) :=
  ⟨r.hd, by have := r.dp; rw [make_depth]; omega, by have := r.un; rw [make_units]; omega⟩
theorem Room.depth {k : Nat} {A : Around} (r : Room k A) : A.depth < recursionLimit := by have := r.dp; omega
theorem Room.units {k : Nat} {A : Around} (r : Room k A) : A.units + 64 < cLine := by have := r.un; omega
theorem Room.units0 {k : Nat} {A : Around} (r : Room k A) : A.units < cLine := by have := r.un; omega
def tNil : TA := fun _ H Q => Q [] H
def tCons (ta : TE) (tr : TA) : TA := fun σ H Q => ta σ H fun x H1 => tr σ H1 fun xs H2 => Q (x :: xs) H2
section
variable {X : Cx} {e : Expr} {es : List Expr} {te : TE} {t : TA} {pos : Pos}
theorem pa_nil : PA X [] tNil := fun _ _ _ _ H Q I h => Calls.spliced_nil ⟨[], H, I, .nil, h⟩
theorem pa_cons (ha : PE X e te) (hr : PA X es t) (hs : starEach (e :: es) X.env = (false, eval e X.env) :: starEach es X.env := by rfl) : PA X (e :: es) (tCons te t) := by
  intro pos pins s σ H Q I h
  rw [hs]
  show wpAny _ _ (spliced ((false, eval e X.env) :: backTo pos (starEach es X.env))) _ _ s
  refine Calls.spliced_cons (thn (ha pins s σ H _ I h) fun u s1 ⟨x, H1, I1, r1, q1⟩ => ?_)
  exact thn (hr pos pins s1 σ H1 _ I1 q1) fun us s2 ⟨xs, H2, I2, r2, q2⟩ => ⟨x :: xs, H2, I2, .cons r1 r2, q2⟩
def tTup (t : TA) : TE := fun σ H Q => t σ H fun xs H1 => xs.length ≤ sizeLine ∧ ∀ p, H1 p = none → Q (.ref p) (upd H1 p (.tup xs))
def tLst (t : TA) : TE := fun σ H Q => t σ H fun xs H1 => xs.length ≤ sizeLine ∧ ∀ p, H1 p = none → Q (.ref p) (upd H1 p (.lst xs))
theorem pe_tup {x1} (h : PA X es t) : PE X (.Tuple es x1 pos) (tTup t) := by
  intro pins s σ H Q I hq
  refine wpAny_Tuple_spliced (thn (h pos pins s σ H _ I hq) fun us s1 ⟨xs, H1, I1, r, z, q⟩ => ⟨by rw [← r.length]; exact z, ?_⟩)
  have hf : H1 s1.heap.objs.size = none := I1.hok.fresh (Nat.le_refl _)
  refine ⟨.ref s1.heap.objs.size, upd H1 s1.heap.objs.size (.tup xs), I1.laid (t' := s1.toks) (fun b u e => Heap.get?_push_of_some _ e) (Nat.le_refl _) ?_, rfl, q _ hf⟩
  exact ⟨z, us, r, ⟨_, Heap.get?_push_size _ rfl, rfl, _, rfl⟩⟩
theorem pe_lst (h : PA X es t) : PE X (.List es pos) (tLst t) := by
  intro pins s σ H Q I hq
  refine wpAny_List_spliced (thn (h pos pins s σ H _ I hq) fun us s1 ⟨xs, H1, I1, r, z, q⟩ => ⟨by rw [← r.length]; exact z, ?_⟩)
  have hf : H1 s1.heap.objs.size = none := I1.hok.fresh (Nat.le_refl _)
  refine ⟨.ref s1.heap.objs.size, upd H1 s1.heap.objs.size (.lst xs), I1.laid (t' := s1.toks) (fun b u e => Heap.get?_push_of_some _ e) (Nat.le_refl _) ?_, rfl, q _ hf⟩
  exact ⟨z, us, 0, r, Heap.get?_push_size _ rfl⟩
end
abbrev Sp := List V → Hp → VK → XK → Prop
abbrev CXT := List Env → Hp → Shared → XK → Value → Shared → Prop
structure Env0 (P : Program) (w : World) (K : PySem.W.Frag) (mg : Str → Option Value) (base : Heap) (A : Around) (outer : List Env) (s : Shared) (H : Hp) : Prop where
  frames : A.frames = some outer
  mod : Mod K mg base
  bs : ∀ b o, base.get? b = some o → s.heap.get? b = some o ∧ H b = none
  bsz : base.objs.size ≤ s.heap.objs.size
  funs : s.heap.FunFrames base outer
  frf : ∀ b ∈ frs outer, H b = none
  hok : HOk P w H s.heap
  bare : AllBare s.gens
def CE (outer : List Env) (P : Program) (w : World) (H : Hp) (s : Shared) (Q : VK) (u : Value) (s' : Shared) : Prop :=
  ∃ v H', s'.os = s.os ∧ AllBare s'.gens ∧ Un (frs outer) [] H H' s.heap s'.heap ∧ HOk P w H' s'.heap ∧ RelV v u ∧ Q v H'
def CR (CX : CXT) (outer : List Env) (P : Program) (w : World) (H : Hp) (s : Shared) (Q : VK) (E : XK) (r : Result) (s' : Shared) : Prop :=
  match r with
  | .ok (.ret u) => CE outer P w H s Q u s'
  | .ok _ => False
  | .error e => CX outer H s E e s'
structure FnOk (P : Program) (w : World) (K : PySem.W.Frag) (mg : Str → Option Value) (base : Heap) (CX : CXT) (k : Nat) (f : Addr) (fd : FuncData) (ps : List Str) (sp : Sp) : Prop where
  len : ∀ vs H Q E, sp vs H Q E → vs.length = ps.length
  run : ∀ (A : Around) (outer : List Env) (s : Shared) (H : Hp) (args : Args) (us : List Value) (vs : List V) (Q : VK) (E : XK), Room k A → Env0 P w K mg base A outer s H → BindsTo s fd args (ps.zip us) → Vals vs us → sp vs H Q E →
    codeAny (model P w) A (.call (.ref f) args) (CR CX outer P w H s Q E) s
theorem FnOk.mono {P : Program} {w : World} {K : PySem.W.Frag} {mg : Str → Option Value} {base : Heap} {CX : CXT} {j k : Nat} {f : Addr} {fd : FuncData} {ps : List Str} {sp : Sp} (F : FnOk P w K mg base CX j f fd ps sp) (h : j ≤ k) :
    FnOk P w K mg base CX k f fd ps sp := ⟨F.len, fun A outer s H args us vs Q E hr => F.run A outer s H args us vs Q E (hr.mono h)⟩
theorem FnOk.imp {P : Program} {w : World} {K : PySem.W.Frag} {mg : Str → Option Value} {base : Heap} {CX : CXT} {k : Nat} {f : Addr} {fd : FuncData} {ps : List Str} {sp sp' : Sp} (F : FnOk P w K mg base CX k f fd ps sp)
    (h : ∀ vs H Q E, sp' vs H Q E → sp vs H Q E) : FnOk P w K mg base CX k f fd ps sp' :=
  ⟨fun vs H Q E q => F.len vs H Q E (h _ _ _ _ q), fun A outer s H args us vs Q E hr he hb hv hs => F.run A outer s H args us vs Q E hr he hb hv (h _ _ _ _ hs)⟩
theorem Env0.make {P : Program} {w : World} {K : PySem.W.Frag} {mg : Str → Option Value} {base : Heap} {A : Around} {outer : List Env} {s : Shared} {H : Hp} (e : Env0 P w K mg base A outer s H) (C : Addr) (us : List Value) (kw : List (Str × Value)) :
    Env0 P w K mg base (A.under (.builtin "type.__call__" ⟨.ref C :: us, kw⟩)) outer s H := ⟨by first | exact e.frames | (simpa [Around.under, Code.envs, Code.isFrame, pushEnvs] using e.frames), e.mod, e.bs, e.bsz, e.funs, e.frf, e.hok, e.bare⟩
theorem Env0.in1 {P : Program} {w : World} {K : PySem.W.Frag} {mg : Str → Option Value} {base : Heap} {A : Around} {outer : List Env} {s : Shared} {H : Hp} (e : Env0 P w K mg base A outer s H) :
    Env0 P w K mg base A.in1 outer s H := ⟨e.frames, e.mod, e.bs, e.bsz, e.funs, e.frf, e.hok, e.bare⟩
section
variable {X : Cx} {pins : List (Addr × Obj)} {σ : St} {H : Hp} {s s' : Shared}
theorem Inv.env0 (I : Inv X pins σ H s) : Env0 X.prog X.w X.K X.mg X.base X.A X.stack s H :=
  ⟨I.ok.frames, I.ok.mod, I.bs, Nat.le_trans I.ok.bsz I.sz, I.stack, I.stkFree, I.hok, I.bare⟩
theorem Inv.after {Q : VK} {u : Value} (I : Inv X pins σ H s) (h : CE X.stack X.prog X.w H s Q u s') : EP X pins σ Q u s' := by
  obtain ⟨v, H', os, bare, un, hok, r, q⟩ := h
  obtain ⟨hh, g, d, t, os'⟩ := s'
  obtain rfl : os' = s.os := os
  exact ⟨v, H', I.call (h' := hh) (g' := g) (d' := d) (t' := t) (ch := []) un hok bare (fun b z => absurd z (by simp)), r, q⟩
end
def tCall (sp : Sp) (dvs : List V) (E : XK) (t : TA) : TE := fun σ H Q => t σ H fun vs H1 => sp (vs ++ dvs) H1 Q E
def tMeth (C : Addr) (m : Str) (sp : Sp) (dvs : List V) (E : XK) (ta : TE) (t : TA) : TE := fun σ H Q => ta σ H fun x H1 => ∃ a dx fs, x = .ref a ∧ H1 a = some (.ins C dx fs) ∧ fs.lookup m = none ∧
  t σ H1 fun vs H2 => sp (x :: (vs ++ dvs)) H2 Q E
def tMake (C : Addr) (sp : Sp) (dvs : List V) (E : XK) (t : TA) : TE := fun σ H Q => t σ H fun vs H1 => ∀ x dx, H1 x = none → H1 dx = none → dx ≠ x →
  sp (.ref x :: (vs ++ dvs)) (upd (upd H1 dx (.own x)) x (.ins C dx [])) (fun v H2 => v = .non ∧ Q (.ref x) H2) E
def Binds (K : PySem.W.Frag) (fd : FuncData) (ps : List Str) (ds : List Value) : Prop :=
  ∀ (s : Shared) (us : List Value), K.In s.heap → (us ++ ds).length = ps.length → BindsTo s fd ⟨us, []⟩ (ps.zip (us ++ ds))
theorem Binds.all {K : PySem.W.Frag} {fd : FuncData} {ps : List Str} (h : ∀ us : List Value, us.length = ps.length → bindArgs fd ⟨us, []⟩ = pure (ps.zip us)) : Binds K fd ps [] := fun s us _ hl => by
  rw [List.append_nil] at hl ⊢
  exact .of_eq (h us hl)
def Passes (CX : CXT) (X : Cx) (E : XK) : Prop := ∀ (pins : List (Addr × Obj)) (σ : St) (H : Hp) (s : Shared) (e : Value) (s' : Shared), Inv X pins σ H s → CX X.stack H s E e s' → X.xe e s'
section
variable {X : Cx} {CX : CXT} {k : Nat} {f C : Addr} {fd : FuncData} {ps : List Str} {sp : Sp} {dvs : List V} {ds : List Value} {E : XK} {x m : Str} {p pos apos : Pos} {e o : Expr} {es : List Expr} {ta : TE} {t : TA}
theorem run_fn {pins : List (Addr × Obj)} {σ : St} {H : Hp} {s : Shared} {Q : VK} {us : List Value} {vs : List V} (F : FnOk X.prog X.w X.K X.mg X.base CX k f fd ps sp) (hr : Room k X.A) (hb : Binds X.K fd ps ds) (hd : Vals dvs ds) (hx : Passes CX X E)
    (I : Inv X pins σ H s) (r : Vals vs us) (h : sp (vs ++ dvs) H Q E) : wpAny (model X.prog X.w) X.A (call (.ref f) us) (EP X pins σ Q) X.xe s := by
  have r2 : Vals (vs ++ dvs) (us ++ ds) := r.append hd
  have hl : (us ++ ds).length = ps.length := by rw [← r2.length]; exact F.len _ _ _ _ h
  refine wpAny_call (codeAny_mono (F.run X.A X.stack s H ⟨us, []⟩ (us ++ ds) (vs ++ dvs) Q E hr I.env0 (hb s us I.kIn hl) r2 h) fun r s' hq => ?_)
  cases r with
  | error e => exact hx pins σ H s e s' I hq
  | ok fl =>
    cases fl with
    | ret u => exact I.after hq
    | next => exact False.elim hq
    | brk => exact False.elim hq
    | cont => exact False.elim hq
theorem pe_call (F : FnOk X.prog X.w X.K X.mg X.base CX k f fd ps sp) (hr : Room k X.A) (hg : Gl X x) (hm : X.mg x = some (.ref f)) (hk : PySem.W.keepIn X.K (.ref f) = true) (hb : Binds X.K fd ps ds) (hd : Vals dvs ds) (hx : Passes CX X E)
    (ha : PA X (e :: es) t) (hdb : (x == ("__debug__" : Str)) = false := by decide) (he : starEach (e :: es) X.env = (false, eval e X.env) :: starEach es X.env := by rfl) (hpl : (backTo pos (starEach es X.env)).any (·.1) = false := by rfl) :
    PE X (.Call (.Name x p) (e :: es) [] pos) (tCall sp dvs E t) := by
  intro pins s σ H Q I h
  refine wpAny_Call_Name_kw (ld_glob I hg hm ?_ hdb)
  refine PySem.W.callWith_K (h₀ := X.base) I.ok.mod.kin hk (thn (ha pos pins s σ H _ I h) fun us s1 ⟨vs, H1, I1, r, q⟩ => ⟨I1.kIn, ?_⟩) he hpl
  exact run_fn F hr hb hd hx I1 r q
theorem pe_call0 (F : FnOk X.prog X.w X.K X.mg X.base CX k f fd ps sp) (hr : Room k X.A) (hg : Gl X x) (hm : X.mg x = some (.ref f)) (hk : PySem.W.keepIn X.K (.ref f) = true) (hb : Binds X.K fd ps ds) (hd : Vals dvs ds) (hx : Passes CX X E)
    (hdb : (x == ("__debug__" : Str)) = false := by decide) : PE X (.Call (.Name x p) [] [] pos) (tCall sp dvs E tNil) := by
  intro pins s σ H Q I h
  refine wpAny_Call_Name_kw (ld_glob I hg hm ?_ hdb)
  exact PySem.W.callWith_K0 I.kIn hk (run_fn (us := []) F hr hb hd hx I .nil h)
theorem pe_meth {pl : Sem Bool} (he : PE X o ta) (c : Cls X.K C) (hm : Meth X.K C m f) (F : FnOk X.prog X.w X.K X.mg X.base CX k f fd ps sp) (hr : Room k X.A) (hb : Binds X.K fd ps ds) (hd : Vals dvs ds) (hx : Passes CX X E) (ha : PA X (e :: es) t)
    (hst : starEach (e :: es) X.env = (false, eval e X.env) :: starEach es X.env := by rfl) (hpl : (backTo pos (starEach es X.env)).any (·.1) = false := by rfl)
    (ht : eval (.Call (.Attribute o m apos) (e :: es) [] pos) X.env = (do
      let ov ← eval o X.env
      standAt apos.atName
      let (f, first) ← holding [ov] (getMethod ov m pl)
      callWith pos f first (backTo pos (starEach (e :: es) X.env)) (backToKw pos (keywordEach [] X.env))) := by rfl) :
    PE X (.Call (.Attribute o m apos) (e :: es) [] pos) (tMeth C m sp dvs E ta t) := by
  intro pins s σ H Q I h
  refine PySem.W.methodCall_KW (pl := pl) (thn (he pins s σ H _ I h) fun u s1 ⟨x, H1, I1, rx, a, dx, fs, ex, ea, l, q⟩ => ?_) ht
  subst ex
  obtain rfl : u = Value.ref a := rx
  refine getmeth_ok I1 ea c hm l ?_
  refine PySem.W.callWith_K (first := [.ref a]) (h₀ := X.base) I.ok.mod.kin hm.kp (thn (ha pos pins s1 σ H1 _ I1 q) fun us s2 ⟨vs, H2, I2, r, q2⟩ => ⟨I2.kIn, ?_⟩) hst hpl
  exact run_fn (us := .ref a :: us) (vs := .ref a :: vs) F hr hb hd hx I2 (.cons rfl r) q2
theorem pe_meth0 {pl : Sem Bool} (he : PE X o ta) (c : Cls X.K C) (hm : Meth X.K C m f) (F : FnOk X.prog X.w X.K X.mg X.base CX k f fd ps sp) (hr : Room k X.A) (hb : Binds X.K fd ps ds) (hd : Vals dvs ds) (hx : Passes CX X E)
    (ht : eval (.Call (.Attribute o m apos) [] [] pos) X.env = (do
      let ov ← eval o X.env
      standAt apos.atName
      let (f, first) ← holding [ov] (getMethod ov m pl)
      callWith pos f first (backTo pos (starEach [] X.env)) (backToKw pos (keywordEach [] X.env))) := by rfl) :
    PE X (.Call (.Attribute o m apos) [] [] pos) (tMeth C m sp dvs E ta tNil) := by
  intro pins s σ H Q I h
  refine PySem.W.methodCall_KW (pl := pl) (thn (he pins s σ H _ I h) fun u s1 ⟨x, H1, I1, rx, a, dx, fs, ex, ea, l, q⟩ => ?_) ht
  subst ex
  obtain rfl : u = Value.ref a := rx
  refine getmeth_ok I1 ea c hm l ?_
  exact PySem.W.callWith_K0 (first := [.ref a]) I1.kIn hm.kp (run_fn (us := [.ref a]) (vs := [.ref a]) F hr hb hd hx I1 (.cons rfl .nil) q)
structure Mk (K : PySem.W.Frag) (C f : Addr) : Prop where
  makes : PySem.W.makesIn K C = true
  init : PySem.W.findIn K (.ref C) "__init__" = some (some (.ref f))
  fn : PySem.W.isFn K (.ref f) = true
  kp : PySem.W.keepIn K (.ref C) = true
theorem run_make {pins : List (Addr × Obj)} {σ : St} {H : Hp} {s : Shared} {Q : VK} {us : List Value} {vs : List V} (M : Mk X.K C f) (F : FnOk X.prog X.w X.K X.mg X.base CX k f fd ps sp) (hr : Room (k + 1) X.A) (hb : Binds X.K fd ps ds) (hd : Vals dvs ds)
    (hx : Passes CX X E) (I : Inv X pins σ H s) (r : Vals vs us)
    (h : ∀ x dx, H x = none → H dx = none → dx ≠ x → sp (.ref x :: (vs ++ dvs)) (upd (upd H dx (.own x)) x (.ins C dx [])) (fun v H2 => v = .non ∧ Q (.ref x) H2) E) :
    wpAny (model X.prog X.w) X.A (call (.ref C) us) (EP X pins σ Q) X.xe s := by
  have hq := h (s.heap.objs.size + 1) s.heap.objs.size (I.hok.fresh (Nat.le_succ _)) (I.hok.fresh (Nat.le_refl _)) (Nat.ne_of_lt (Nat.lt_succ_self _))
  have I2 := Inv.made (C := C) I
  have r2 : Vals (V.ref (s.heap.objs.size + 1) :: (vs ++ dvs)) (Value.ref (s.heap.objs.size + 1) :: (us ++ ds)) := .cons rfl (r.append hd)
  have hl : (Value.ref (s.heap.objs.size + 1) :: us ++ ds).length = ps.length := by
    have e := r2.length
    rw [F.len _ _ _ _ hq] at e
    exact e.symm
  refine wpAny_call (make_map (f := f) I.kIn M.makes M.init (beq_iff_eq.mp M.fn) (codeAny_mono (F.run _ X.stack _ _ ⟨Value.ref (s.heap.objs.size + 1) :: us, []⟩ (Value.ref (s.heap.objs.size + 1) :: (us ++ ds)) _ _ E (hr.make C us [])
    (I2.env0.make C us []) (hb _ (Value.ref (s.heap.objs.size + 1) :: us) I2.kIn hl) r2 hq) fun r s' hq' => ?_))
  cases r with
  | error e => exact hx pins σ _ _ e s' I2 hq'
  | ok fl =>
    cases fl with
    | ret u =>
      obtain ⟨v, H', I3, rv, ev, q3⟩ := I2.after hq'
      subst ev
      exact ⟨rv, ⟨V.ref (s.heap.objs.size + 1), H', I3, rfl, q3⟩⟩
    | next => exact False.elim hq'
    | brk => exact False.elim hq'
    | cont => exact False.elim hq'
theorem pe_make (M : Mk X.K C f) (F : FnOk X.prog X.w X.K X.mg X.base CX k f fd ps sp) (hr : Room (k + 1) X.A) (hg : Gl X x) (hm : X.mg x = some (.ref C)) (hb : Binds X.K fd ps ds) (hd : Vals dvs ds) (hx : Passes CX X E)
    (ha : PA X (e :: es) t) (hdb : (x == ("__debug__" : Str)) = false := by decide) (he : starEach (e :: es) X.env = (false, eval e X.env) :: starEach es X.env := by rfl) (hpl : (backTo pos (starEach es X.env)).any (·.1) = false := by rfl) :
    PE X (.Call (.Name x p) (e :: es) [] pos) (tMake C sp dvs E t) := by
  intro pins s σ H Q I h
  refine wpAny_Call_Name_kw (ld_glob I hg hm ?_ hdb)
  refine PySem.W.callWith_K (h₀ := X.base) I.ok.mod.kin M.kp (thn (ha pos pins s σ H _ I h) fun us s1 ⟨vs, H1, I1, r, q⟩ => ⟨I1.kIn, ?_⟩) he hpl
  exact run_make M F hr hb hd hx I1 r q
theorem pe_make0 (M : Mk X.K C f) (F : FnOk X.prog X.w X.K X.mg X.base CX k f fd ps sp) (hr : Room (k + 1) X.A) (hg : Gl X x) (hm : X.mg x = some (.ref C)) (hb : Binds X.K fd ps ds) (hd : Vals dvs ds) (hx : Passes CX X E)
    (hdb : (x == ("__debug__" : Str)) = false := by decide) : PE X (.Call (.Name x p) [] [] pos) (tMake C sp dvs E tNil) := by
  intro pins s σ H Q I h
  refine wpAny_Call_Name_kw (ld_glob I hg hm ?_ hdb)
  exact PySem.W.callWith_K0 I.kIn M.kp (run_make (us := []) M F hr hb hd hx I .nil h)
end
def PK (X : Cx) (kws : List Keyword) (t : TA) : Prop :=
  ∀ (pos : Pos) (pins : List (Addr × Obj)) (s : Shared) (σ : St) (H : Hp) (Q : List V → Hp → Prop), Inv X pins σ H s → t σ H Q → wpAny (model X.prog X.w) X.A (evalAll ((backToKw pos (keywordEach kws X.env)).map (·.2))) (AP X pins σ Q) X.xe s
section
variable {X : Cx} {CX : CXT} {k : Nat} {f C : Addr} {fd : FuncData} {ps ks : List Str} {sp : Sp} {E : XK} {x m : Str} {p pos apos kpos : Pos} {e o : Expr} {es : List Expr} {kws : List Keyword} {te ta : TE} {t tk : TA} {nm : Option Str}
theorem pk_nil : PK X [] tNil := fun _ _ _ _ H Q I h => wpAny_evalAll_nil ⟨[], H, I, .nil, h⟩
theorem pk_cons (ha : PE X e te) (hr : PK X kws t) : PK X (⟨nm, e, kpos⟩ :: kws) (tCons te t) := by
  intro pos pins s σ H Q I h
  show wpAny _ _ (evalAll ((do let v ← eval e X.env; standAt pos; pure v) :: (backToKw pos (keywordEach kws X.env)).map (·.2))) _ _ s
  refine wpAny_evalAll_cons (wpAny_bind (thn (ha pins s σ H _ I h) fun u s1 ⟨x, H1, I1, r1, q1⟩ => wpAny_bind (wpAny_standAt (wpAny_pure ?_))))
  exact thn (hr pos pins s1 σ H1 _ I1 q1) fun us s2 ⟨xs, H2, I2, r2, q2⟩ => ⟨x :: xs, H2, I2, .cons r1 r2, q2⟩
structure KBinds (K : PySem.W.Frag) (fd : FuncData) (ps ks : List Str) (g : List Value → List Value → List Value) (gV : List V → List V → List V) : Prop where
  to : ∀ (s : Shared) (us ws : List Value), K.In s.heap → (g us ws).length = ps.length → BindsTo s fd ⟨us, ks.zip ws⟩ (ps.zip (g us ws))
  rel : ∀ {vs : List V} {us : List Value} {zs : List V} {ws : List Value}, Vals vs us → Vals zs ws → Vals (gV vs zs) (g us ws)
def tCallK (sp : Sp) (gV : List V → List V → List V) (E : XK) (t tk : TA) : TE := fun σ H Q => t σ H fun vs H1 => tk σ H1 fun zs H2 => sp (gV vs zs) H2 Q E
variable {g : List Value → List Value → List Value} {gV : List V → List V → List V}
theorem run_fnk {pins : List (Addr × Obj)} {σ : St} {H : Hp} {s : Shared} {Q : VK} {us ws : List Value} {vs zs : List V} (F : FnOk X.prog X.w X.K X.mg X.base CX k f fd ps sp) (hr : Room k X.A) (hb : KBinds X.K fd ps ks g gV) (hx : Passes CX X E)
    (I : Inv X pins σ H s) (r : Vals vs us) (rz : Vals zs ws) (h : sp (gV vs zs) H Q E) : wpAny (model X.prog X.w) X.A (call (.ref f) us (ks.zip ws)) (EP X pins σ Q) X.xe s := by
  have r2 := hb.rel r rz
  have hl : (g us ws).length = ps.length := by rw [← r2.length]; exact F.len _ _ _ _ h
  refine wpAny_call (codeAny_mono (F.run X.A X.stack s H ⟨us, ks.zip ws⟩ (g us ws) (gV vs zs) Q E hr I.env0 (hb.to s us ws I.kIn hl) r2 h) fun r s' hq => ?_)
  cases r with
  | error e => exact hx pins σ H s e s' I hq
  | ok fl =>
    cases fl with
    | ret u => exact I.after hq
    | next => exact False.elim hq
    | brk => exact False.elim hq
    | cont => exact False.elim hq
theorem pe_callK (F : FnOk X.prog X.w X.K X.mg X.base CX k f fd ps sp) (hr : Room k X.A) (hg : Gl X x) (hm : X.mg x = some (.ref f)) (hk : PySem.W.keepIn X.K (.ref f) = true) (hb : KBinds X.K fd ps ks g gV) (hx : Passes CX X E)
    (ha : PA X (e :: es) t) (hkw : PK X kws tk) (hall : (backToKw pos (keywordEach kws X.env)).all (·.1.isSome) = true := by rfl) (hks : (backToKw pos (keywordEach kws X.env)).filterMap (·.1) = ks := by rfl)
    (hdb : (x == ("__debug__" : Str)) = false := by decide) (he : starEach (e :: es) X.env = (false, eval e X.env) :: starEach es X.env := by rfl)
    (hpl : ((backTo pos (starEach (e :: es) X.env)).any (·.1) || (backToKw pos (keywordEach kws X.env)).any (·.1.isNone)) = false := by rfl) :
    PE X (.Call (.Name x p) (e :: es) kws pos) (tCallK sp gV E t tk) := by
  intro pins s σ H Q I h
  refine wpAny_Call_Name_kw (ld_glob I hg hm ?_ hdb)
  refine PySem.W.callWith_KW (h₀ := X.base) I.ok.mod.kin hk hall (thn (ha pos pins s σ H _ I h) fun us s1 ⟨vs, H1, I1, r, q⟩ => ?_) hpl he
  refine thn (hkw pos pins s1 σ H1 _ I1 q) fun ws s2 ⟨zs, H2, I2, rz, q2⟩ => ⟨I2.kIn, ?_⟩
  rw [hks]
  exact run_fnk F hr hb hx I2 r rz q2
end
structure FnScope (N P : List Str) (sc : Scope) : Prop where
  kind : sc.kind = .function
  co : sc.isCoroutine = false
  gen : sc.isGenerator = false
  nd : N.Nodup
  pre : N.take P.length = P
  par : ∀ x ∈ P, sc.names.lookup x = some .local ∨ sc.names.lookup x = some .cell
  nofree : ∀ y ∈ sc.names, y.2 ≠ .free
theorem bindL_out {kindOf : Str → Option NameKind} {x : Str} : ∀ {binds : List (Str × Value)} {m : Str → Option Value}, (∀ v, (x, v) ∉ binds) → bindL kindOf binds m x = m x
  | [], _, _ => rfl
  | (n, v) :: r, m, h => by
    unfold bindL
    rw [bindL_out fun w hw => h w (List.mem_cons_of_mem _ hw)]
    split
    · have : x ≠ n := by rintro rfl; exact h v List.mem_cons_self
      simp [this]
    · rfl
theorem bindC_out {kindOf : Str → Option NameKind} {x : Str} : ∀ {binds : List (Str × Value)} {m : Str → Option Value}, (∀ v, (x, v) ∉ binds) → bindC kindOf binds m x = m x
  | [], _, _ => rfl
  | (n, v) :: r, m, h => by
    unfold bindC
    rw [bindC_out fun w hw => h w (List.mem_cons_of_mem _ hw)]
    split
    · rfl
    · have : x ≠ n := by rintro rfl; exact h v List.mem_cons_self
      simp [this]
theorem bindL_get {kindOf : Str → Option NameKind} {x : Str} {v : Value} : ∀ {P : List Str} {vs : List Value} {i : Nat} {m : Str → Option Value}, P.Nodup → P[i]? = some x → vs[i]? = some v → kindOf x = some .local →
    bindL kindOf (P.zip vs) m x = some v
  | [], _, _, _, _, h, _, _ => by simp at h
  | _ :: _, [], _, _, _, _, h, _ => by simp at h
  | p :: P, w :: vs, 0, m, nd, h1, h2, hk => by
    simp at h1 h2; subst h1; subst h2
    show bindL kindOf ((p, w) :: P.zip vs) m p = _
    unfold bindL
    rw [bindL_out fun v hv => (List.nodup_cons.mp nd).1 (List.of_mem_zip hv).1, if_pos hk]
    simp
  | p :: P, w :: vs, i + 1, m, nd, h1, h2, hk => by
    show bindL kindOf ((p, w) :: P.zip vs) m x = _
    unfold bindL
    exact bindL_get (i := i) (List.nodup_cons.mp nd).2 (by simpa using h1) (by simpa using h2) hk
theorem bindC_get {kindOf : Str → Option NameKind} {x : Str} {v : Value} : ∀ {P : List Str} {vs : List Value} {i : Nat} {m : Str → Option Value}, P.Nodup → P[i]? = some x → vs[i]? = some v → kindOf x ≠ some .local →
    bindC kindOf (P.zip vs) m x = some v
  | [], _, _, _, _, h, _, _ => by simp at h
  | _ :: _, [], _, _, _, _, h, _ => by simp at h
  | p :: P, w :: vs, 0, m, nd, h1, h2, hk => by
    simp at h1 h2; subst h1; subst h2
    show bindC kindOf ((p, w) :: P.zip vs) m p = _
    unfold bindC
    rw [bindC_out fun v hv => (List.nodup_cons.mp nd).1 (List.of_mem_zip hv).1, if_neg hk]
    simp
  | p :: P, w :: vs, i + 1, m, nd, h1, h2, hk => by
    show bindC kindOf ((p, w) :: P.zip vs) m x = _
    unfold bindC
    exact bindC_get (i := i) (List.nodup_cons.mp nd).2 (by simpa using h1) (by simpa using h2) hk
def start (N : List Str) (vs : List V) : St := vs.map some ++ List.replicate (N.length - vs.length) none
def cxOf (CX : CXT) (P : Program) (w : World) (K : PySem.W.Frag) (mg : Str → Option Value) (base : Heap) (N : List Str) (qual : Str) (scope : Scope) (f : Addr) (cd : Value) (A : Around) (outer : List Env) (s : Shared) (H : Hp) (E : XK) : Cx where
  prog := P
  w := w
  K := K
  mg := mg
  base := base
  A := A.deeper (envOfC qual scope s.heap.objs.size f cd)
  N := N
  s₀ := s
  H₀ := H
  env := envOfC qual scope s.heap.objs.size f cd
  outer := outer
  stack := envOfC qual scope s.heap.objs.size f cd :: outer
  ex := []
  calm := true
  fn := fun _ => true
  pn := []
  xe := fun e s' => wpAny (model P w) (A.deeper (envOfC qual scope s.heap.objs.size f cd)) (leaving (envOfC qual scope s.heap.objs.size f cd) e) (fun _ s'' => CX outer H s E e s'') (fun e' s'' => CX outer H s E e' s'') s'
theorem cell_has {sc : Scope} {n : Nat} {x : Str} (h : sc.names.lookup x = some .cell) : ∃ c, (cellsFrom n sc.names []).lookup x = some c := by
  have q := PySem.W.cellsFrom_some sc.names n [] (.inl h)
  exact Option.isSome_iff_exists.mp q
theorem inv_start {CX : CXT} {P : Program} {w : World} {K : PySem.W.Frag} {mg : Str → Option Value} {base : Heap} {N ps : List Str} {qual : Str} {scope : Scope} {f : Addr} {cd : Value} {A : Around} {outer : List Env} {s s1 : Shared} {H : Hp} {E : XK} {us : List Value} {vs : List V}
    (S : FnScope N ps scope) (hd : A.handled = none) (e0 : Env0 P w K mg base A outer s H) (hl : vs.length = ps.length) (r : Vals vs us)
    (x : InCallC s s.heap.objs.size (bindL (envOfC qual scope s.heap.objs.size f cd).kindOf (ps.zip us) fun _ => none) (cellsFrom (s.heap.objs.size + 1) scope.names []) (bindC (envOfC qual scope s.heap.objs.size f cd).kindOf (ps.zip us) fun _ => none) s1) :
    Inv (cxOf CX P w K mg base N qual scope f cd A outer s H E) [] (start N vs) H s1 := by
  have hpl : ps.length ≤ N.length := by have := congrArg List.length S.pre; rw [List.length_take] at this; omega
  obtain ⟨h1, tk, rfl, hk⟩ := x.done
  have noA : ∀ b : Addr, b ∉ (cxOf CX P w K mg base N qual scope f cd A outer s H E).ex := fun b z => absurd (show b ∈ ([] : List Addr) from z) (by simp)
  refine ⟨⟨e0.mod, S.kind, rfl, rfl, Nat.le_refl _, fun y z c h1 h2 => ?_, fun y hy => ?_, fun y c _ h => ?_, fun _ => hd, Around.frames_deeper e0.frames, .inr ⟨rfl, rfl⟩, fun b z => absurd z (noA b), e0.bs, e0.bsz, fun b _ _ => noA b, fun b z => absurd z (noA b), e0.funs, e0.frf⟩,
    rfl, e0.bare, Un.kept hk, ⟨_, x.toInCall.ns, fun i y v h1 h2 h3 => ?_⟩, fun y c h => ⟨_, x.cell y c h⟩, e0.hok.fresh (Nat.le_refl _), fun y c h => ?_, fun p hp => absurd (show p ∈ ([] : List (Addr × Obj)) from hp) (by simp), e0.hok.kept hk, ?_⟩
  · exact name_of_addr x.apart (PySem.mem_of_lookup h1) (PySem.mem_of_lookup h2)
  · have hy : scope.names.lookup y = some .cell ∨ scope.names.lookup y = some .free := hy
    rcases hy with hy | hy
    · exact cell_has hy
    · exact absurd rfl (S.nofree _ (PySem.mem_of_lookup hy))
  · exact Nat.le_of_lt (x.above y c (PySem.mem_of_lookup h))
  · have hi : i < vs.length := by
      unfold start at h2
      by_cases hi : i < vs.length
      · exact hi
      · rw [List.getElem?_append_right (by simpa using hi)] at h2
        rw [List.getElem?_replicate] at h2
        split at h2 <;> cases h2
    have ha : vs[i]? = some v := by
      unfold start at h2
      rw [List.getElem?_append_left (by simpa using hi), List.getElem?_map] at h2
      cases e : vs[i]? with
      | none => rw [e] at h2; cases h2
      | some a => rw [e] at h2; cases h2; rfl
    obtain ⟨u, hu, rv⟩ := r.get ha
    have hp : ps[i]? = some y := by
      rw [← S.pre, List.getElem?_take_of_lt (by omega)]; exact h1
    have ndP : ps.Nodup := by rw [← S.pre]; exact S.nd.sublist (List.take_sublist _ _)
    refine ⟨u, rv, ?_⟩
    rcases S.par y (List.mem_of_getElem? hp) with k | k
    · exact .inl ⟨k, bindL_get ndP hp hu k⟩
    · obtain ⟨c, e⟩ := cell_has (n := s.heap.objs.size + 1) k
      refine .inr ⟨.inl k, c, e, ?_⟩
      have q := x.cell y c e
      rw [bindC_get ndP hp hu (by show scope.names.lookup y ≠ _; rw [k]; decide)] at q
      exact q
  · exact e0.hok.fresh (Nat.le_of_lt (x.above y c (PySem.mem_of_lookup h)))
  · unfold start
    show _ = N.length
    rw [List.length_append, List.length_map, List.length_replicate]
    omega
theorem fn_of {CX : CXT} {P : Program} {w : World} {K : PySem.W.Frag} {mg : Str → Option Value} {base : Heap} {k : Nat} {f : Addr} {name qual : Str} {params : Arguments} {body : List Stmt} {scope : Scope} {dV kV doc pm cdv ct oc : Value} {an od : Option Addr}
    {osl : Array (Option Value)} {N ps : List Str} {sp : Sp} (lk : K.lookup f = some ⟨oc, od, .func (PySem.W.fnOf name qual params body scope dV kV doc pm an cdv ct), osl⟩) (hcd : PySem.W.codeIn K cdv qual = true) (S : FnScope N ps scope)
    (len : ∀ vs H Q E, sp vs H Q E → vs.length = ps.length)
    (hbody : ∀ (A : Around) (outer : List Env) (s : Shared) (H : Hp) (vs : List V) (Q : VK) (E : XK), Room k (A.deeper (envOfC qual scope s.heap.objs.size f cdv)) → sp vs H Q E →
      ∃ t, PSs (cxOf CX P w K mg base N qual scope f cdv A outer s H E) body t ∧ t { nx := fun _ H' => Q .non H', rt := Q } (start N vs) H) :
    FnOk P w K mg base CX (k + 1) f (PySem.W.fnOf name qual params body scope dV kV doc pm an cdv ct) ps sp := by
  refine ⟨len, fun A outer s H args us vs Q E hr e0 hb r hsp => ?_⟩
  have hl := len _ _ _ _ hsp
  have KX : K.In s.heap := e0.mod.kin.keeps fun b o e => (e0.bs b o e).1
  have lim : s.heap.NoLimit := e0.mod.nolimit.keeps fun b o e => (e0.bs b o e).1
  have hkind : ∀ y ∈ ps.zip us, scope.names.lookup y.1 = some .local ∨ (scope.names.lookup y.1 = some .cell ∧ ((cellsFrom (s.heap.objs.size + 1) scope.names []).lookup y.1).isSome = true) := fun ⟨n, v⟩ hy => by
    rcases S.par n (List.of_mem_zip hy).1 with q | q
    · exact .inl q
    · exact .inr ⟨q, PySem.W.cellsFrom_some _ _ _ (.inl q)⟩
  refine codeAny_call_function hr.depth (KX _ _ lk) rfl S.co S.gen rfl (PySem.W.codeRec_of KX hcd) (hb _ _ _ _ ?_)
  refine wpAny_newFunctionEnv_cells S.kind hkind fun env he s1 x => ?_
  subst he
  refine ⟨lim.keeps x.toInCall.keep, codeAny_func ?_⟩
  obtain ⟨t, ht, hq⟩ := hbody A outer s H vs Q E (hr.deeper _) hsp
  have I : Inv (cxOf CX P w K mg base N qual scope f cdv A outer s H E) [] (start N vs) H s1 := inv_start S hr.hd e0 hl r x
  refine wpAny_mono (ht [] s1 (start N vs) H _ I hq) (fun fl s' hs => ?_) fun e s' hs => hs
  have fin : ∀ {σ' : St} {H' : Hp} {v : V} {u : Value}, Inv (cxOf CX P w K mg base N qual scope f cdv A outer s H E) [] σ' H' s' → RelV v u → Q v H' → CE outer P w H s Q u s' :=
    fun {σ' H' v u} J rv q => ⟨v, H', J.os, J.bare, J.base, J.hok, rv, q⟩
  cases fl with
  | ret u =>
    obtain ⟨v, σ', H', J, rv, q⟩ := hs
    exact fin J rv q
  | next =>
    obtain ⟨σ', H', J, q⟩ := hs
    exact fin (v := V.non) (u := Value.none) J rfl q
  | brk =>
    obtain ⟨_, _, _, q⟩ := hs
    exact False.elim q
  | cont =>
    obtain ⟨_, _, _, q⟩ := hs
    exact False.elim q
end L2
namespace L2
open PySem PySem.Spec PyProof.Rows
section
variable {X : Cx} {x : Str} {p pos : Pos} {e : Expr} {es : List Expr} {t : TA} {id T : String} {r : List V → Hp → VK → Prop}
def tCB (r : List V → Hp → VK → Prop) (t : TA) : TE := fun σ H Q => t σ H fun vs H1 => r vs H1 Q
theorem pe_callB (hc : CallR X (.builtin id) r) (hg : Gl X x) (hm : X.mg x = none) (hv : bootBuiltins x = some (.builtin id)) (ha : PA X (e :: es) t) (hn : x ≠ "__name__" := by decide) (hdb : (x == ("__debug__" : Str)) = false := by decide)
    (he : starEach (e :: es) X.env = (false, eval e X.env) :: starEach es X.env := by rfl) (hpl : (backTo pos (starEach es X.env)).any (·.1) = false := by rfl) : PE X (.Call (.Name x p) (e :: es) [] pos) (tCB r t) := by
  intro pins s σ H Q I h
  refine wpAny_Call_Name_kw (ld_blt I hg hm hv ?_ hn hdb)
  exact PyProof.Rows.callWith_builtin1 (thn (ha pos pins s σ H _ I h) fun us s1 ⟨vs, H1, I1, r1, q1⟩ => hc pins s1 σ H1 vs us Q I1 r1 q1) he hpl
theorem pe_callTy (hc : CallR X (.type T) r) (hg : Gl X x) (hm : X.mg x = none) (hv : bootBuiltins x = some (.type T)) (ha : PA X (e :: es) t) (hn : x ≠ "__name__" := by decide) (hdb : (x == ("__debug__" : Str)) = false := by decide)
    (he : starEach (e :: es) X.env = (false, eval e X.env) :: starEach es X.env := by rfl) (hpl : (backTo pos (starEach es X.env)).any (·.1) = false := by rfl) : PE X (.Call (.Name x p) (e :: es) [] pos) (tCB r t) := by
  intro pins s σ H Q I h
  refine wpAny_Call_Name_kw (ld_blt I hg hm hv ?_ hn hdb)
  exact PyProof.Rows.callWith_type1 (thn (ha pos pins s σ H _ I h) fun us s1 ⟨vs, H1, I1, r1, q1⟩ => hc pins s1 σ H1 vs us Q I1 r1 q1) he hpl
theorem pe_callTy0 (hc : CallR X (.type T) r) (hg : Gl X x) (hm : X.mg x = none) (hv : bootBuiltins x = some (.type T)) (hn : x ≠ "__name__" := by decide) (hdb : (x == ("__debug__" : Str)) = false := by decide) :
    PE X (.Call (.Name x p) [] [] pos) (tCB r tNil) := by
  intro pins s σ H Q I h
  refine wpAny_Call_Name_kw (ld_blt I hg hm hv ?_ hn hdb)
  exact PyProof.Rows.callWith_type0 (hc pins s σ H [] [] Q I .nil h)
end
end L2
namespace HT
open PySem PyProof.Rows
def lexLt : List Int → List Int → Bool
  | [], [] => false
  | [], _ :: _ => true
  | _ :: _, [] => false
  | x :: xs, y :: ys => if x = y then lexLt xs ys else decide (x < y)
theorem lexLt_cons (x y : Int) (xs ys : List Int) : lexLt (x :: xs) (y :: ys) = if x = y then lexLt xs ys else decide (x < y) := rfl
theorem lexLt_nil_nil : lexLt [] [] = false := rfl
theorem lexLt_nil_cons (y : Int) (ys : List Int) : lexLt [] (y :: ys) = true := rfl
theorem lexLt_cons_nil (x : Int) (xs : List Int) : lexLt (x :: xs) [] = false := rfl
theorem eqAt_int (A : Around) (s : Shared) (a : Int) (t : Tok) (c : Int) (u : Tok) : ∃ e, SeqAt.EqAt A s (.int a t) (.int c u) e ∧ (e = true ↔ a = c) :=
  ⟨(a == c), SeqAt.EqAt.int_int a t c u, by simp⟩
theorem rcLt_int (A : Around) (s : Shared) (a : Int) (t : Tok) (c : Int) (u : Tok) (prog : Program) (w : World) (E : Value → Shared → Prop) (Q : Value → Shared → Prop) (h : Q (.bool (decide (a < c))) s) :
    wpAny (model prog w) A (richCompare .Lt (.int a t) (.int c u)) Q E s :=
  (PyProof.Rows.lt_int h : wpAny (model prog w) A (compareOp .Lt (.int a t) (.int c u)) Q E s)
section
open PySem.SeqAt
open PySem.AutoSeq1 (wpAny_loadPart')
open PySem.MeetsSeq PySem.MeetsSeq2 PySem.MeetsSeq3
theorem tuple_lt_ints (l b : Addr) (items items2 : Array Value) (n n2 : Nat) (dd dd2 : Option Addr) (sl sl2 : Array (Option Value)) (ns ms : List Int) (hi : IntsAre items.toList ns) (hj : IntsAre items2.toList ms) :
    Meets (Builtin.«tuple.__lt__» ⟨[.ref l, .ref b], []⟩)
      (fun _ R s => s.heap.get? l = some { cls := .type "tuple", dict := dd, data := .seq items n, slots := sl } ∧ s.heap.get? b = some { cls := .type "tuple", dict := dd2, data := .seq items2 n2, slots := sl2 } ∧
        R (.ok (.ret (.bool (lexLt ns ms)))) s) :=
  .of_wp fun prog w A R s h => by
    obtain ⟨hp, g, d, tk, os⟩ := s; obtain ⟨hl, hb, h⟩ := h
    have f2 := AutoSeq1.sub_tuple_tuple
    have z1 : items.size = ns.length := by rw [← hi.length]; simp
    have z2 : items2.size = ms.length := by rw [← hj.length]; simp
    wp_walk using wpAny_loadPart' hl, wpAny_loadPart' hb, wpAny_forIn_list _ (fun rest b s' => b.1 = none ∧ s' = ⟨hp, g, d, tk, os⟩ ∧ ∃ (vs ws : List Value) (ns' ms' : List Int), rest = vs.zip ws ∧
      IntsAre vs ns' ∧ IntsAre ws ms' ∧ ns'.length + items2.size = ms'.length + items.size ∧ R (.ok (.ret (.bool (lexLt ns' ms')))) ⟨hp, g, d, tk, os⟩) _
    case turn =>
      rintro ⟨y, x⟩ rest b s' ⟨hb', rfl, vs, ws, ns', ms', hz, hvi, hwi, hlen, hR⟩
      cases hvi with
      | nil => rw [List.zip_nil_left] at hz; cases hz
      | cons a t hvi' =>
        cases hwi with
        | nil => rw [List.zip_nil_right] at hz; cases hz
        | cons c u hwi' =>
          rw [List.zip_cons_cons] at hz
          injection hz with hyx hrest
          injection hyx with hy hx
          subst hy hx
          rw [lexLt_cons] at hR
          simp only [List.length_cons] at hlen
          obtain ⟨e, he, hiff⟩ := eqAt_int A.in1 ⟨hp, g, d, tk, os⟩ a t c u
          refine wpAny_bind (he prog w _ _ ?_)
          cases e with
          | true =>
            rw [if_pos (hiff.mp rfl)] at hR
            wp_walk
            exact ⟨rfl, rfl, _, _, _, _, hrest, hvi', hwi', by omega, hR⟩
          | false =>
            rw [if_neg (fun q => absurd (hiff.mpr q) Bool.false_ne_true)] at hR
            have hri := rcLt_int A.in1 ⟨hp, g, d, tk, os⟩ a t c u prog w
            wp_walk using hri
            exact ⟨_, rfl, by simpa using hR⟩
    case fin =>
      rintro ⟨b1, b2⟩ s' ⟨hb', rfl, vs, ws, ns', ms', hz, hvi, hwi, hlen, hR⟩
      simp only at hb'
      subst hb'
      have hv : lexLt ns' ms' = decide (items.size < items2.size) := by
        cases hvi with
        | nil =>
          cases hwi with
          | nil =>
            simp only [List.length_nil] at hlen
            rw [lexLt_nil_nil]
            exact (decide_eq_false (by omega)).symm
          | cons c u hw =>
            simp only [List.length_nil, List.length_cons] at hlen
            rw [lexLt_nil_cons]
            exact (decide_eq_true (by omega)).symm
        | cons a t hv =>
          cases hwi with
          | nil =>
            simp only [List.length_nil, List.length_cons] at hlen
            rw [lexLt_cons_nil]
            exact (decide_eq_false (by omega)).symm
          | cons c u hw =>
            rw [List.zip_cons_cons] at hz
            cases hz
      rw [hv] at hR
      wp_walk
      exact ⟨_, rfl, by simpa [Builtin.Tuple.tupleCompareSizes] using hR⟩
    case h =>
      exact ⟨rfl, rfl, items.toList, items2.toList, ns, ms, rfl, hi, hj, by omega, h⟩
end
section
variable {prog : Program} {w : World} {A : Around} {E : Value → Shared → Prop} {s : Shared}
theorem lt_tupInts {l b : Addr} {items items2 : Array Value} {ns ms : List Int} {Q : Value → Shared → Prop} (hl : IsTup s.heap l items) (hb : IsTup s.heap b items2) (hi : IntsAre items.toList ns) (hj : IntsAre items2.toList ms)
    (hu : A.units < cLine) (h : Q (.bool (lexLt ns ms)) s) : wpAny (model prog w) A (compareOp .Lt (.ref l) (.ref b)) Q E s := by
  obtain ⟨⟨cls, dd, data, sl⟩, ho, hc, n, hd⟩ := id hl
  obtain ⟨⟨cls2, dd2, data2, sl2⟩, ho2, hc2, n2, hd2⟩ := id hb
  simp only at hc hd hc2 hd2
  subst hc hd hc2 hd2
  exact richCompare_meets_room (op := .Lt) ⟨_, ho, rfl⟩ ⟨_, ho2, rfl⟩ PySem.F.slot_tuple_lt PySem.F.entry_tuple_lt (PySem.F.args_tuple_lt_2 _ _) (tuple_lt_ints l b items items2 n n2 dd dd2 sl sl2 ns ms hi hj)
    ⟨ho, ho2, show Value.bool (lexLt ns ms) ≠ Value.notImplemented ∧ Q (.bool (lexLt ns ms)) s from ⟨(fun x => nomatch x), h⟩⟩ hu
theorem cat_tup {t b : Addr} {vs ws : List Value} {Q : Value → Shared → Prop} (ht : IsTup s.heap t vs.toArray) (hb : IsTup s.heap b ws.toArray) (hv : vs ≠ [])
    (h1 : ws = [] → Q (.ref t) s) (h2 : ws ≠ [] → Q (.ref s.heap.objs.size) { s with heap := s.heap.push { cls := .type "tuple", data := .seq (vs ++ ws).toArray } })
    (hsz : vs.length + ws.length ≤ sizeLine) : wpAny (model prog w) A (binaryOp .Add (.ref t) (.ref b)) Q E s := by
  obtain ⟨⟨cls, dd, data, sl⟩, ho, hc, n, hd⟩ := id ht
  obtain ⟨⟨cls2, dd2, data2, sl2⟩, ho2, hc2, n2, hd2⟩ := id hb
  simp only at hc hd hc2 hd2
  subst hc hd hc2 hd2
  have e : vs.toArray ++ ws.toArray = (vs ++ ws).toArray := by simp
  by_cases hw : ws = []
  · exact concat_meets ⟨_, ho, rfl⟩ ⟨_, ho2, rfl⟩ noFill_tuple_add seq_tuple_add PySem.F.slot_tuple_add PySem.F.entry_tuple_add (PySem.F.args_tuple_add_2 _ _)
      (tuple_addW1 t b vs.toArray ws.toArray n n2 dd dd2 sl sl2 (by simpa using hv) (by simp [hw])) ⟨ho, ho2, h1 hw⟩
  · refine concat_meets ⟨_, ho, rfl⟩ ⟨_, ho2, rfl⟩ noFill_tuple_add seq_tuple_add PySem.F.slot_tuple_add PySem.F.entry_tuple_add (PySem.F.args_tuple_add_2 _ _)
      (tuple_addW2 t b vs.toArray ws.toArray n n2 dd dd2 sl sl2 (by simpa using hv) (by simpa using hw) (by rw [List.size_toArray, List.size_toArray]; exact hsz)) ⟨ho, ho2, ?_⟩
    rw [e]
    exact h2 hw
def sIx (n d : Nat) : Option Int → Nat
  | none => d
  | some v => if v < 0 then (v + (n : Int)).toNat else min v.toNat n
theorem sIx_none (n d : Nat) : sIx n d none = d := rfl
theorem sIx_nat (n d k : Nat) : sIx n d (some (k : Int)) = min k n := by
  show (if (k : Int) < 0 then ((k : Int) + (n : Int)).toNat else min (k : Int).toNat n) = min k n
  rw [if_neg (by omega), Int.toNat_natCast]
theorem sIx_le (n d : Nat) (hd : d ≤ n) (o : Option Int) : sIx n d o ≤ n := by
  cases o with
  | none => exact hd
  | some v =>
    show (if v < 0 then (v + (n : Int)).toNat else min v.toNat n) ≤ n
    by_cases hv : v < 0
    · rw [if_pos hv]; omega
    · rw [if_neg hv]; exact Nat.min_le_right _ _
theorem clip_eq (v : Int) (n d : Nat) : (if v < 0 then max (v + (n : Int)) 0 else min v (n : Int)) = ((sIx n d (some v) : Nat) : Int) := by
  show (if v < 0 then max (v + (n : Int)) 0 else min v (n : Int)) = (((if v < 0 then (v + (n : Int)).toNat else min v.toNat n) : Nat) : Int)
  by_cases hv : v < 0
  · simp only [if_pos hv]; omega
  · simp only [if_neg hv]; omega
theorem adjust_gen (lo hi : Option Int) (n : Nat) : Builtin.Slice.sliceAdjust lo hi 1 (n : Int) = (((sIx n 0 lo : Nat) : Int), ((sIx n n hi : Nat) : Int)) := by
  have h1 : ¬ ((1 : Int) < 0) := by omega
  unfold Builtin.Slice.sliceAdjust
  simp only [h1, if_false]
  refine Prod.ext ?_ ?_
  · cases lo with
    | none => rfl
    | some v => exact clip_eq v n 0
  · cases hi with
    | none => rfl
    | some v => exact clip_eq v n n
theorem places_gen (i j : Nat) : Builtin.Slice.slicePlaces (i : Int) (j : Int) 1 = j - i := by
  unfold Builtin.Slice.slicePlaces
  have h1 : (1 : Int) > 0 := by omega
  simp only [h1, if_true, Int.ediv_one]
  split <;> omega
theorem slicePart_ {v : Value} {o : Option Int} {Q : Option Int → Shared → Prop} (p : IsPart v o) (h : Q o s) : wpAny (model prog w) A (Builtin.Slice.slicePartIndex v) Q E s := by
  cases p with
  | none => exact slicePart_none h
  | int i t => exact slicePart_int h
theorem sliceApplied_gen {sl : Addr} {vl vu : Value} {lo hi : Option Int} {n : Nat} {Q : Int × Int × Nat → Shared → Prop} (hs : s.heap.IsSliceOf sl vl vu .none) (pl : IsPart vl lo) (pu : IsPart vu hi)
    (h : Q (((sIx n 0 lo : Nat) : Int), 1, sIx n n hi - sIx n 0 lo) s) : wpAny (model prog w) A (Builtin.Slice.sliceApplied (.ref sl) (pure (n : Int))) Q E s := by
  obtain ⟨os, hos, hcs, hds⟩ := id hs
  unfold Builtin.Slice.sliceApplied Builtin.Slice.sliceFields
  refine wpAny_bind (wpAny_bind (wpAny_field hos hds (x := vl) rfl (wpAny_bind (wpAny_field hos hds (x := vu) rfl (wpAny_bind (wpAny_field hos hds (x := .none) rfl (wpAny_pure ?_)))))))
  refine wpAny_bind (slicePart_none ?_)
  show wpAny _ _ (if ((1 : Int) == 0) = true then _ else _) _ _ s
  rw [if_neg (by decide)]
  refine wpAny_bind (slicePart_ pl (wpAny_bind (slicePart_ pu (wpAny_bind (wpAny_pure ?_)))))
  show wpAny _ _ (match Builtin.Slice.sliceAdjust lo hi 1 (n : Int) with | (lo, hi) => pure (lo, (1 : Int), Builtin.Slice.slicePlaces lo hi 1)) _ _ s
  rw [adjust_gen lo hi n]
  show wpAny _ _ (pure (((sIx n 0 lo : Nat) : Int), (1 : Int), Builtin.Slice.slicePlaces ((sIx n 0 lo : Nat) : Int) ((sIx n n hi : Nat) : Int) 1)) _ _ s
  rw [places_gen]
  exact wpAny_pure h
theorem pick_gen (xs : Array Value) (i k : Nat) : ((List.range k).filterMap fun (m : Nat) => xs[((i : Int) + (m : Int) * 1).toNat]?).toArray = ((xs.toList.drop i).take k).toArray := by
  have e : (fun (m : Nat) => xs[((i : Int) + (m : Int) * 1).toNat]?) = fun m => xs[i + m]? := by
    funext m
    have : ((i : Int) + (m : Int) * 1).toNat = i + m := by omega
    rw [this]
  rw [e]
  have := pick_run xs i k
  rw [List.filterMap_map] at this
  have e2 : ((fun x => xs[x]?) ∘ fun x => i + x) = fun m => xs[i + m]? := rfl
  rw [e2] at this
  rw [this]
theorem getItem_tuple_cut {t sl : Addr} {items : Array Value} {vl vu : Value} {lo hi : Option Int} {Q : Value → Shared → Prop} (ht : IsTup s.heap t items) (hs : s.heap.IsSliceOf sl vl vu .none) (pl : IsPart vl lo) (pu : IsPart vu hi)
    (hw : ¬ (sIx items.size 0 lo = 0 ∧ sIx items.size items.size hi = items.size))
    (h : Q (.ref s.heap.objs.size) { s with heap := s.heap.push { cls := .type "tuple", data := .seq ((items.toList.drop (sIx items.size 0 lo)).take (sIx items.size items.size hi - sIx items.size 0 lo)).toArray } })
    (hsz : items.size ≤ sizeLine) : wpAny (model prog w) A (getItem (.ref t) (.ref sl)) Q E s := by
  have htake : sizeOk (.seq ((items.toList.drop (sIx items.size 0 lo)).take (sIx items.size items.size hi - sIx items.size 0 lo)).toArray) := by
    show ((items.toList.drop (sIx items.size 0 lo)).take (sIx items.size items.size hi - sIx items.size 0 lo)).toArray.size ≤ sizeLine
    rw [List.size_toArray, List.length_take, List.length_drop, Array.length_toList]
    omega
  have hj : sIx items.size items.size hi ≤ items.size := sIx_le _ _ (Nat.le_refl _) hi
  obtain ⟨os, hos, hcs, hds⟩ := id hs
  have hTs : s.TypeIs (.ref sl) "slice" := ⟨os, hos, hcs⟩
  unfold getItem
  try with_reducible refine wpAny_holding ?_
  first | refine wpAny_bind (wpAny_pure ?_) | skip
  refine wpAny_bind (wpAny_sequenceKey ht.typeIs (by decide) ?_)
  refine wpAny_bind (wpAny_callSpecial?_slot (name := Str.ofString "__getitem__") ht.typeIs PyProof.Rows.slot_tuple_getitem
    (wpAny_call_entry PyProof.Rows.slot_tuple_getitem ht.typeIs entry_tuple_getitem ?_ (args_tuple_getitem _ _)))
  show wpAny _ _ (Builtin.Tuple.tupleItemsOf (.ref t) >>= _) _ _ s
  refine wpAny_bind (tupleItemsOf_ ht ?_)
  refine wpAny_bind (wpAny_typeOf hTs ?_)
  rw [if_pos (by decide)]
  refine wpAny_bind (sliceApplied_gen hs pl pu ?_)
  have hno : ¬ ((((sIx items.size 0 lo : Nat) : Int) == 0 && (1 : Int) == 1 && (sIx items.size items.size hi - sIx items.size 0 lo) == items.size) = true) := by
    intro q
    rw [Bool.and_eq_true, Bool.and_eq_true] at q
    have q1 : ((sIx items.size 0 lo : Nat) : Int) = 0 := eq_of_beq q.1.1
    have q2 : sIx items.size items.size hi - sIx items.size 0 lo = items.size := eq_of_beq q.2
    exact hw ⟨by omega, by omega⟩
  show wpAny _ _ (if (((sIx items.size 0 lo : Nat) : Int) == 0 && (1 : Int) == 1 && (sIx items.size items.size hi - sIx items.size 0 lo) == items.size) = true then _ else _) _ _ s
  rw [if_neg hno, pick_gen]
  first
    | exact wpAny_bind (m := Builtin.Tuple.tupleExact _) (wpAny_newObj_type (wpAny_pure ⟨_, rfl, wpAny_pure h⟩) htake)
    | exact wpAny_bind (m := Builtin.Tuple.tupleExact _) (wpAny_newObj_type (wpAny_bind (wpAny_pure (wpAny_pure ⟨_, rfl, wpAny_pure h⟩))) htake)
    | exact wpAny_bind (wpAny_bind (m := Builtin.Tuple.tupleExact _) (wpAny_newObj_type (wpAny_pure (wpAny_pure ⟨_, rfl, wpAny_pure h⟩)) htake))
    | exact wpAny_bind (wpAny_bind (m := Builtin.Tuple.tupleExact _) (wpAny_newObj_type (wpAny_pure ⟨_, rfl, wpAny_pure h⟩) htake))
end
end HT
namespace L2
open PySem PySem.Spec PyProof.Rows
abbrev TO := St → Hp → (Option Int → Hp → Prop) → Prop
def PO (X : Cx) (e : Option Expr) (t : TO) : Prop :=
  ∀ (pins : List (Addr × Obj)) (s : Shared) (σ : St) (H : Hp) (Q : Option Int → Hp → Prop), Inv X pins σ H s → t σ H Q →
    wpAny (model X.prog X.w) X.A (evalPart e X.env) (fun u s' => ∃ o H', Inv X pins σ H' s' ∧ IsPart u o ∧ Q o H') X.xe s
def tNoPart : TO := fun _ H Q => Q none H
def tPart (t : TE) : TO := fun σ H Q => t σ H fun x H1 => ∃ i, x = .int i ∧ Q (some i) H1
theorem intsAre_of {ns : List Int} : ∀ {us : List Value}, Vals (ns.map V.int) us → IntsAre us ns := by
  induction ns with
  | nil => intro us r; rw [List.map_nil] at r; cases r; exact .nil
  | cons n ns ih =>
    intro us r
    rw [List.map_cons] at r
    cases r with
    | cons r1 r2 =>
      obtain ⟨t, e⟩ := r1
      subst e
      exact .cons n t (ih r2)
section
variable {X : Cx} {e : Expr} {te : TE} {lo hi : Option Expr} {tl th : TO} {pos p2 : Pos}
theorem po_none : PO X none tNoPart := by
  intro pins s σ H Q I h
  rw [evalPart_none]
  exact wpAny_pure ⟨none, H, I, .none, h⟩
theorem po_some (h : PE X e te) : PO X (some e) (tPart te) := by
  intro pins s σ H Q I hw
  rw [evalPart_some]
  refine thn (h pins s σ H _ I hw) fun u s1 ⟨x, H1, I1, r1, q1⟩ => ?_
  obtain ⟨i, rfl, q⟩ := q1
  obtain ⟨t, rfl⟩ := r1
  exact ⟨some i, H1, I1, .int i t, q⟩
def SlR (X : Cx) (r : V → Option Int → Option Int → Hp → VK → Prop) : Prop :=
  ∀ (pins : List (Addr × Obj)) (s : Shared) (σ : St) (H : Hp) (x : V) (v vl vu : Value) (lo hi : Option Int) (sl : Addr) (Q : VK), Inv X pins σ H s → RelV x v → s.heap.IsSliceOf sl vl vu .none → IsPart vl lo → IsPart vu hi → r x lo hi H Q →
    ∃ T id, typeLookup (.type T) "__getitem__" = pure (some (.builtin id)) ∧ s.TypeIs v T ∧ wpAny (model X.prog X.w) X.A (getItem v (.ref sl)) (EP X pins σ Q) X.xe s
theorem SlR.or {r r' : V → Option Int → Option Int → Hp → VK → Prop} (h : SlR X r) (h' : SlR X r') : SlR X (fun x lo hi H Q => r x lo hi H Q ∨ r' x lo hi H Q) := by
  intro pins s σ H x v vl vu lo hi sl Q I rx hs pl pu q
  rcases q with q | q
  · exact h pins s σ H x v vl vu lo hi sl Q I rx hs pl pu q
  · exact h' pins s σ H x v vl vu lo hi sl Q I rx hs pl pu q
def tSl (r : V → Option Int → Option Int → Hp → VK → Prop) (te : TE) (tl th : TO) : TE := fun σ H Q => te σ H fun x H1 => tl σ H1 fun l H2 => th σ H2 fun u H3 => r x l u H3 Q
theorem pe_slice {r : V → Option Int → Option Int → Hp → VK → Prop} (hr : SlR X r) (he : PE X e te) (hl : PO X lo tl) (hu : PO X hi th) : PE X (.Subscript e (.Slice lo hi none p2) pos) (tSl r te tl th) := by
  intro pins s σ H Q I h
  refine Subscript_ (thn (he pins s σ H _ I h) fun v s1 ⟨x, H1, I1, r1, q1⟩ => ?_)
  refine wpAny_Slice (thn (hl pins s1 σ H1 _ I1 q1) fun vl s2 ⟨l, H2, I2, pl, q2⟩ => thn (hu pins s2 σ H2 _ I2 q2) fun vu s3 ⟨u, H3, I3, pu, q3⟩ => ?_)
  rw [evalPart_none]
  refine wpAny_pure ?_
  have I4 : Inv X pins σ H3 { s3 with heap := s3.heap.push { cls := .type "slice", data := .fields #[vl, vu, .none] } } := I3.kept (t' := s3.toks) fun b ob q => Heap.get?_push_of_some _ q
  obtain ⟨T, id, hT, ht, hg⟩ := hr pins { s3 with heap := s3.heap.push { cls := .type "slice", data := .fields #[vl, vu, .none] } } σ H3 x v vl vu l u s3.heap.objs.size Q I4 r1 (Heap.IsSliceOf.new ..) pl pu q3
  show wpAny (model X.prog X.w) X.A (subscriptTail e (.Slice lo hi none p2) v (.ref s3.heap.objs.size)) (EP X pins σ Q) X.xe { s3 with heap := s3.heap.push { cls := .type "slice", data := .fields #[vl, vu, .none] } }
  exact tail_any (ops := [.ref s3.heap.objs.size, v]) ht hT hg (by with_unfolding_all rfl)
def cutV (xs : List V) (lo hi : Option Int) : List V := (xs.drop (HT.sIx xs.length 0 lo)).take (HT.sIx xs.length xs.length hi - HT.sIx xs.length 0 lo)
theorem cutV_length (xs : List V) (lo hi : Option Int) : (cutV xs lo hi).length ≤ xs.length := by
  unfold cutV
  rw [List.length_take, List.length_drop]
  omega
def rSlT (K : PySem.W.Frag) : V → Option Int → Option Int → Hp → VK → Prop := fun x lo hi H Q => ∃ a xs, x = .ref a ∧ SqT K H a xs ∧
  ¬ (HT.sIx xs.length 0 lo = 0 ∧ HT.sIx xs.length xs.length hi = xs.length) ∧ ∀ p, H p = none → Q (.ref p) (upd H p (.tup (cutV xs lo hi)))
theorem sl_tup : SlR X (rSlT X.K) := by
  intro pins s σ H x v vl vu lo hi sl Q I rx hs pl pu h
  obtain ⟨a, xs, rfl, hx, hw, q⟩ := h
  cases rx
  obtain ⟨its, r, ht, hz⟩ := I.tuple hx
  have hlen : its.toArray.size = xs.length := by rw [List.size_toArray]; exact r.length.symm
  refine ⟨"tuple", _, PyProof.Rows.slot_tuple_getitem.lookup, ht.typeIs, ?_⟩
  refine HT.getItem_tuple_cut ht hs pl pu (by rw [hlen]; exact hw) ?_ (by rw [hlen]; exact hz)
  rw [hlen]
  refine ⟨.ref s.heap.objs.size, _, I.laid (t' := s.toks) (o := .tup (cutV xs lo hi)) (fun b ob q => Heap.get?_push_of_some _ q) (Nat.le_refl _) ?_, rfl, q _ (I.hok.fresh (Nat.le_refl _))⟩
  exact ⟨Nat.le_trans (cutV_length xs lo hi) hz, _, (r.drop (HT.sIx xs.length 0 lo)).take (HT.sIx xs.length xs.length hi - HT.sIx xs.length 0 lo), IsTup.new _ _⟩
def rLtT (K : PySem.W.Frag) : R2 := fun x y H Q => ∃ a b ns ms, x = .ref a ∧ y = .ref b ∧ SqT K H a (ns.map V.int) ∧ SqT K H b (ms.map V.int) ∧ Q (.bl (HT.lexLt ns ms)) H
theorem op_ltT (hu : X.A.units < cLine) : OpR X (compareOp .Lt) (rLtT X.K) := by
  intro pins s σ H x y v u Q I rx ry h
  obtain ⟨a, b, ns, ms, rfl, rfl, ha, hb, q⟩ := h
  cases rx
  cases ry
  obtain ⟨its, r1, p1, _⟩ := I.tuple ha
  obtain ⟨its2, r2, p2, _⟩ := I.tuple hb
  have i1 : IntsAre its.toArray.toList ns := intsAre_of r1
  have i2 : IntsAre its2.toArray.toList ms := intsAre_of r2
  exact HT.lt_tupInts p1 p2 i1 i2 hu ⟨.bl (HT.lexLt ns ms), H, I, rfl, q⟩
def rCatT (K : PySem.W.Frag) : R2 := fun x y H Q => ∃ a b xs ys, x = .ref a ∧ y = .ref b ∧ SqT K H a xs ∧ SqT K H b ys ∧ xs ≠ [] ∧ xs.length + ys.length ≤ sizeLine ∧
  (ys = [] → Q (.ref a) H) ∧ (ys ≠ [] → ∀ p, H p = none → Q (.ref p) (upd H p (.tup (xs ++ ys))))
theorem Vals.nil_iff {xs : List V} {us : List Value} (r : Vals xs us) : us = [] ↔ xs = [] := by
  cases r with
  | nil => simp
  | cons _ _ => simp
theorem op_catT : OpR X (binaryOp .Add) (rCatT X.K) := by
  intro pins s σ H x y v u Q I rx ry h
  obtain ⟨a, b, xs, ys, rfl, rfl, ha, hb, hx, hz, q1, q2⟩ := h
  cases rx
  cases ry
  obtain ⟨its, r1, p1, _⟩ := I.tuple ha
  obtain ⟨its2, r2, p2, _⟩ := I.tuple hb
  refine HT.cat_tup p1 p2 (fun z => hx (r1.nil_iff.mp z)) (fun z => ⟨.ref a, H, I, rfl, q1 (r2.nil_iff.mp z)⟩) (fun z => ?_) (by rw [← r1.length, ← r2.length]; exact hz)
  refine ⟨.ref s.heap.objs.size, _, I.laid (t' := s.toks) (o := .tup (xs ++ ys)) (fun b ob q => Heap.get?_push_of_some _ q) (Nat.le_refl _) ?_, rfl, q2 (fun w => z (r2.nil_iff.mpr w)) _ (I.hok.fresh (Nat.le_refl _))⟩
  exact ⟨by rw [List.length_append]; exact hz, _, r1.append r2, IsTup.new _ _⟩
theorem call_tupleT : CallR X (.type "tuple") (fun xs H Q => ∃ a ys, xs = [.ref a] ∧ SqT X.K H a ys ∧ Q (.ref a) H) := by
  intro pins s σ H xs us Q I r h
  obtain ⟨a, ys, rfl, ha, q⟩ := h
  obtain ⟨u, rfl, ru⟩ := vals1 r
  cases ru
  obtain ⟨its, _, p1, _⟩ := I.tuple ha
  exact call_tuple_same (items := its.toArray) p1 ⟨.ref a, H, I, rfl, q⟩
end
end L2
namespace L2
open PySem PySem.Spec PyProof.Rows
def ixN (n : Nat) (i : Int) : Option Nat := if 0 ≤ i then (if i < n then some i.toNat else none) else if -(n : Int) ≤ i then some (i + n).toNat else none
def atI {α : Type} (xs : List α) (i : Int) : Option α := (ixN xs.length i).bind fun j => xs[j]?
theorem ixN_seq {n : Nat} {i : Int} {j : Nat} (h : ixN n i = some j) : seqIndex? i n = some j ∧ j < n ∧ -(n : Int) ≤ i ∧ i < n := by
  unfold ixN at h
  by_cases h0 : 0 ≤ i
  · rw [if_pos h0] at h
    by_cases h1 : i < n
    · rw [if_pos h1] at h
      have e : i.toNat = j := Option.some.inj h
      exact ⟨by rw [seqIndex_of h0 h1, e], by omega, by omega, h1⟩
    · rw [if_neg h1] at h; cases h
  · rw [if_neg h0] at h
    by_cases h1 : -(n : Int) ≤ i
    · rw [if_pos h1] at h
      have e : (i + n).toNat = j := Option.some.inj h
      exact ⟨by rw [seqIndex_neg (by omega) h1, e], by omega, h1, by omega⟩
    · rw [if_neg h1] at h; cases h
theorem atI_get {α : Type} {xs : List α} {i : Int} {v : α} (h : atI xs i = some v) : ∃ j, seqIndex? i xs.length = some j ∧ xs[j]? = some v ∧ j < xs.length ∧ -(xs.length : Int) ≤ i ∧ i < xs.length := by
  unfold atI at h
  cases e : ixN xs.length i with
  | none => rw [e] at h; cases h
  | some j =>
    rw [e] at h
    obtain ⟨h1, h2, h3, h4⟩ := ixN_seq e
    exact ⟨j, h1, h, h2, h3, h4⟩
theorem atI_nat {α : Type} {xs : List α} {j : Nat} {v : α} (h : xs[j]? = some v) : atI xs (j : Int) = some v := by
  have hj : j < xs.length := (List.getElem?_eq_some_iff.mp h).1
  have e : ixN xs.length (j : Int) = some j := by
    unfold ixN
    rw [if_pos (by omega), if_pos (by omega)]; simp
  unfold atI; rw [e]; exact h
theorem atI_last {α : Type} (xs : List α) (v : α) : atI (xs ++ [v]) (-1) = some v := by
  have hl : (xs ++ [v]).length = xs.length + 1 := by simp
  have e : ixN (xs ++ [v]).length (-1) = some xs.length := by
    unfold ixN
    rw [hl, if_neg (by decide), if_pos (by omega)]
    congr 1
    omega
  unfold atI
  rw [e]
  show (xs ++ [v])[xs.length]? = some v
  simp
def PlainIx (b : Expr) : Prop := ∀ o i, subscripted b false o i = operate [o, i] (getItem o i)
def IxR (X : Cx) (r : R2) : Prop :=
  ∀ (value slice : Expr) (pins : List (Addr × Obj)) (s : Shared) (σ : St) (H : Hp) (x y : V) (v u : Value) (Q : VK), Inv X pins σ H s → RelV x v → RelV y u → r x y H Q →
    subscripted slice false v u = operate [v, u] (getItem v u) → wpAny (model X.prog X.w) X.A (subscriptTail value slice v u) (EP X pins σ Q) X.xe s
def MtR (X : Cx) (id : String) (r : V → List V → Hp → VK → Prop) : Prop :=
  ∀ (pins : List (Addr × Obj)) (s : Shared) (σ : St) (H : Hp) (x : V) (xs : List V) (v : Value) (us : List Value) (Q : VK), Inv X pins σ H s → RelV x v → Vals xs us → r x xs H Q →
    wpAny (model X.prog X.w) X.A (call (.builtin id) (v :: us)) (EP X pins σ Q) X.xe s
section
variable {X : Cx} {a b : Expr} {ta tb : TE} {pos : Pos}
theorem IxR.or {r r' : R2} (h : IxR X r) (h' : IxR X r') : IxR X (fun x y H Q => r x y H Q ∨ r' x y H Q) := by
  intro value slice pins s σ H x y v u Q I rx ry q hs
  rcases q with q | q
  · exact h value slice pins s σ H x y v u Q I rx ry q hs
  · exact h' value slice pins s σ H x y v u Q I rx ry q hs
theorem MtR.or {id : String} {r r' : V → List V → Hp → VK → Prop} (h : MtR X id r) (h' : MtR X id r') : MtR X id (fun x xs H Q => r x xs H Q ∨ r' x xs H Q) := by
  intro pins s σ H x xs v us Q I rx rs q
  rcases q with q | q
  · exact h pins s σ H x xs v us Q I rx rs q
  · exact h' pins s σ H x xs v us Q I rx rs q
theorem pe_ix {r : R2} (hr : IxR X r) (ha : PE X a ta) (hb : PE X b tb) (hs : PlainIx b) : PE X (.Subscript a b pos) (tOp r ta tb) := by
  intro pins s σ H Q I h
  exact Subscript_ (binT ha hb I h fun v u s2 x y H2 I2 rx ry q => hr a b pins s2 σ H2 x y v u Q I2 rx ry q (hs _ _))
def rIxL (K : PySem.W.Frag) : R2 := fun x y H Q => ∃ p xs i v, x = .ref p ∧ y = .int i ∧ SqL K H p xs ∧ atI xs i = some v ∧ Q v H
def rIxT (K : PySem.W.Frag) : R2 := fun x y H Q => ∃ p xs i v, x = .ref p ∧ y = .int i ∧ SqT K H p xs ∧ atI xs i = some v ∧ Q v H
def rIxS : R2 := fun x y H Q => ∃ z i c, x = .str z ∧ y = .int i ∧ z.length ≤ sizeLine ∧ atI z.cps.toList i = some c ∧ Q (.str ⟨#[c]⟩) H
theorem ix_list : IxR X (rIxL X.K) := by
  intro value slice pins s σ H x y v u Q I rx ry h hs
  obtain ⟨p, xs, i, z, rfl, rfl, hq, he, q⟩ := h
  cases rx
  obtain ⟨t, rfl⟩ := ry
  obtain ⟨its, r, pl, hz⟩ := I.list hq
  obtain ⟨j, h1, h2, h3, h4, h5⟩ := atI_get he
  obtain ⟨w, ew, rw'⟩ := r.get h2
  have hl := r.length
  have hn := line63
  have fin : EP X pins σ Q w s := ⟨z, H, I, rw', q⟩
  by_cases h0 : 0 ≤ i
  · have hj : i.toNat = j := by
      rw [seqIndex_of h0 h5] at h1
      exact Option.some.inj h1
    exact item_listR pl.isList h0 (by omega) (by rw [hj]; simpa using ew) fin hs
  · have hj : (i + (its.toArray.size : Int)).toNat = j := by
      rw [seqIndex_neg (by omega) h4] at h1
      rw [List.size_toArray, ← hl]
      exact Option.some.inj h1
    exact subscriptTail_builtinR (x := w) pl.isList.typeIs slot_list_getitem.lookup
      (wpAny_getItem_list_neg (Q := fun r s' => r = w ∧ EP X pins σ Q r s') pl.isList (by omega) (by rw [List.size_toArray] <;> omega) (by omega) (by rw [hj]; simpa using ew) ⟨rfl, fin⟩) hs
theorem ix_tup : IxR X (rIxT X.K) := by
  intro value slice pins s σ H x y v u Q I rx ry h hs
  obtain ⟨p, xs, i, z, rfl, rfl, hq, he, q⟩ := h
  cases rx
  obtain ⟨t, rfl⟩ := ry
  obtain ⟨its, r, pl, hz⟩ := I.tuple hq
  obtain ⟨j, h1, h2, h3, h4, h5⟩ := atI_get he
  obtain ⟨w, ew, rw'⟩ := r.get h2
  have hl := r.length
  have hn := line63
  have fin : EP X pins σ Q w s := ⟨z, H, I, rw', q⟩
  exact subscriptTail_builtinR (x := w) pl.typeIs slot_tuple_getitem.lookup
    (getItem_tuple (j := j) (Q := fun r s' => r = w ∧ EP X pins σ Q r s') pl (by omega) (by omega) (by rw [List.size_toArray, ← hl]; exact h1) (by simpa using ew) ⟨rfl, fin⟩) hs
theorem ix_str : IxR X rIxS := by
  intro value slice pins s σ H x y v u Q I rx ry h hs
  obtain ⟨z, i, c, rfl, rfl, hz, he, q⟩ := h
  obtain ⟨t, rfl⟩ := rx
  obtain ⟨t', rfl⟩ := ry
  obtain ⟨j, h1, h2, h3, h4, h5⟩ := atI_get he
  have hl : z.cps.toList.length = z.length := by simp [Str.length]
  rw [hl] at h1 h4 h5
  have hn := line63
  exact tail_any (typeIs_str s z t) slot_str_getitem.lookup (getItem_str (c := c) (by
    have e1 : decide (i < -(2 ^ 63 : Int)) = false := decide_eq_false (by omega)
    have e2 : decide (i ≥ 2 ^ 63) = false := decide_eq_false (by omega)
    rw [e1, e2, Bool.or_false]) (by rw [h1]; simpa using h2) ⟨.str ⟨#[c]⟩, H, I.tok _, ⟨_, rfl⟩, q⟩) hs
def rIx (K : PySem.W.Frag) : R2 := fun x y H Q => rIxL K x y H Q ∨ rIxT K x y H Q ∨ rIxS x y H Q
theorem ix_seq : IxR X (rIx X.K) := ix_list.or (ix_tup.or ix_str)
theorem mapSeq_set (its : List Value) (n j : Nat) (u : Value) : Obj.mapSeq (·.setIfInBounds j u) { cls := .type "list", data := .seq its.toArray n } = { cls := .type "list", data := .seq (its.set j u).toArray n } := by
  simp [Obj.mapSeq]
theorem Inv.lst {pins : List (Addr × Obj)} {σ : St} {H : Hp} {s : Shared} {p : Addr} {xs : List V} (I : Inv X pins σ H s) (h : H p = some (.lst xs)) :
    ∃ (its : List Value) (n : Nat), Vals xs its ∧ s.heap.get? p = some { cls := .type "list", data := .seq its.toArray n } ∧ xs.length ≤ sizeLine := by
  obtain ⟨z, its, n, r, e⟩ := I.hok p _ h
  exact ⟨its, n, r, e, z⟩
theorem Inv.lstUpd {pins : List (Addr × Obj)} {σ : St} {H : Hp} {s : Shared} {p : Addr} {xs ys : List V} {its its' : List Value} {n n' : Nat} {f : Obj → Obj} (I : Inv X pins σ H s) (h : H p = some (.lst xs))
    (ho : s.heap.get? p = some { cls := .type "list", data := .seq its.toArray n }) (hf : f { cls := .type "list", data := .seq its.toArray n } = { cls := .type "list", data := .seq its'.toArray n' }) (r : Vals ys its') (hz : ys.length ≤ sizeLine) (t : Nat) :
    Inv X pins σ (upd H p (.lst ys)) { s with heap := s.heap.update p f, toks := t } := by
  have e : (s.heap.update p f).get? p = some { cls := .type "list", data := .seq its'.toArray n' } := by
    rw [Heap.get?_update_self f ho (by rw [hf] <;> rfl), hf]
  refine I.write (x := p) (e := p) (by rw [h]; trivial) (.inl rfl) (fun b u hb q => (Heap.get?_update_other _ _ (Ne.symm hb)).trans q) ⟨_, e⟩ ?_
  exact ⟨hz, its', n', r, e⟩
def rSetL : V → V → V → Hp → (Hp → Prop) → Prop := fun o i v H Q => ∃ p xs k j, o = .ref p ∧ i = .int k ∧ H p = some (.lst xs) ∧ ixN xs.length k = some j ∧ Q (upd H p (.lst (xs.set j v)))
theorem set_list : PSet X rSetL := by
  intro pins s σ H o i v ov iv u Q I ro ri rv h
  obtain ⟨p, xs, k, j, rfl, rfl, hp, hj, q⟩ := h
  cases ro
  obtain ⟨t, rfl⟩ := ri
  obtain ⟨its, n, r, ho, hz⟩ := I.lst hp
  obtain ⟨h1, h2, h3, h4⟩ := ixN_seq hj
  have hl := r.length
  have hn := line63
  have I' : Inv X pins σ (upd H p (.lst (xs.set j v))) { s with heap := s.heap.update p (Obj.mapSeq (·.setIfInBounds j u)) } :=
    I.lstUpd hp ho (mapSeq_set its n j u) (r.set rv j) (by rw [List.length_set]; exact hz) s.toks
  by_cases h0 : 0 ≤ k
  · have hk : k.toNat = j := by
      rw [seqIndex_of h0 h4] at h1
      exact Option.some.inj h1
    exact PySem.W.ki_setAt ho h0 (by omega) (by rw [List.size_toArray, ← hl]; exact h4) (by rw [hk]; exact ⟨_, I', q⟩)
  · have hk : (k + (its.toArray.size : Int)).toNat = j := by
      rw [seqIndex_neg (by omega) h3] at h1
      rw [List.size_toArray, ← hl]
      exact Option.some.inj h1
    exact PySem.W.ki_setBack ho (by omega) (by rw [List.size_toArray, ← hl]; exact h3) (by omega) (by rw [hk]; exact ⟨_, I', q⟩)
theorem slice_bounds (lo hi : Option Int) (n : Nat) : (sliceBounds lo hi none n).1 = ((HT.sIx n 0 lo : Nat) : Int) ∧ (sliceBounds lo hi none n).2.1 = ((HT.sIx n n hi : Nat) : Int) ∧ (sliceBounds lo hi none n).2.2 = 1 := by
  refine ⟨?_, ?_, rfl⟩
  · cases lo with
    | none => simp [sliceBounds, HT.sIx]
    | some i =>
      simp only [sliceBounds, HT.sIx, Option.getD_none, show (1 : Int) > 0 by decide, if_true]
      by_cases h : i < 0
      · simp only [h, if_true] <;> omega
      · simp only [h, if_false] <;> omega
  · cases hi with
    | none => simp [sliceBounds, HT.sIx]
    | some i =>
      simp only [sliceBounds, HT.sIx, Option.getD_none, show (1 : Int) > 0 by decide, if_true]
      by_cases h : i < 0
      · simp only [h, if_true] <;> omega
      · simp only [h, if_false] <;> omega
theorem slicePick_cut (its : List Value) (lo hi : Option Int) : slicePick its.toArray lo hi none = ((its.drop (HT.sIx its.length 0 lo)).take (HT.sIx its.length its.length hi - HT.sIx its.length 0 lo)).toArray := by
  obtain ⟨h1, h2, h3⟩ := slice_bounds lo hi its.toArray.size
  unfold slicePick
  rw [h1, h2, h3]
  simp only [sliceRange_one, pick_run, List.size_toArray] <;> rfl
def rSlL (K : PySem.W.Frag) : V → Option Int → Option Int → Hp → VK → Prop := fun x lo hi H Q => ∃ a xs, x = .ref a ∧ SqL K H a xs ∧ ∀ p, H p = none → Q (.ref p) (upd H p (.lst (cutV xs lo hi)))
theorem sl_list : SlR X (rSlL X.K) := by
  intro pins s σ H x v vl vu lo hi sl Q I rx hs pl pu h
  obtain ⟨a, xs, rfl, hx, q⟩ := h
  cases rx
  obtain ⟨its, r, ht, hz⟩ := I.list hx
  have hlen := r.length
  refine ⟨"list", _, slot_list_getitem.lookup, ht.isList.typeIs, ?_⟩
  refine wpAny_getItem_list_slice ht.isList hs pl pu .none (by simp) ?_ (by rw [List.size_toArray] <;> omega)
  rw [slicePick_cut, ← hlen]
  refine ⟨.ref s.heap.objs.size, _, I.laid (t' := s.toks) (o := .lst (cutV xs lo hi)) (fun b ob q => Heap.get?_push_of_some _ q) (Nat.le_refl _) ?_, rfl, q _ (I.hok.fresh (Nat.le_refl _))⟩
  exact ⟨Nat.le_trans (cutV_length xs lo hi) hz, _, 0, (r.drop (HT.sIx xs.length 0 lo)).take (HT.sIx xs.length xs.length hi - HT.sIx xs.length 0 lo), Heap.get?_push_size _ rfl⟩
def flatV : V → Bool
  | .non => true
  | .bl _ => true
  | .int _ => true
  | .str _ => true
  | _ => false
def eqV : V → V → Bool
  | .non, .non => true
  | .bl a, .bl b => a == b
  | .bl a, .int b => (if a then 1 else 0) == b
  | .int a, .bl b => a == (if b then 1 else 0)
  | .int a, .int b => a == b
  | .str a, .str b => a == b
  | _, _ => false
theorem eqAt_V {A : Around} {s : Shared} {y x : V} {u v : Value} (ry : RelV y u) (rx : RelV x v) (fy : flatV y = true) (fx : flatV x = true) : SeqAt.EqAt A s u v (eqV y x) := by
  cases y with
  | non =>
    cases ry
    cases x with
    | non => cases rx; exact SeqAt.EqAt.same _
    | bl b => cases rx; exact SeqAt.EqAt.none_bool b
    | int b => obtain ⟨t, rfl⟩ := rx; exact SeqAt.EqAt.none_int b t
    | str b => obtain ⟨t, rfl⟩ := rx; exact SeqAt.EqAt.none_str b t
    | _ => exact absurd (show false = true from fx) Bool.false_ne_true
  | bl a =>
    cases ry
    cases x with
    | non => cases rx; exact SeqAt.EqAt.bool_none a
    | bl b => cases rx; exact SeqAt.EqAt.bool_bool a b
    | int b => obtain ⟨t, rfl⟩ := rx; exact SeqAt.EqAt.bool_int a b t
    | str b => obtain ⟨t, rfl⟩ := rx; exact SeqAt.EqAt.bool_str a b t
    | _ => exact absurd (show false = true from fx) Bool.false_ne_true
  | int a =>
    obtain ⟨t', rfl⟩ := ry
    cases x with
    | non => cases rx; exact SeqAt.EqAt.int_none a t'
    | bl b => cases rx; exact SeqAt.EqAt.int_bool a t' b
    | int b => obtain ⟨t, rfl⟩ := rx; exact SeqAt.EqAt.int_int a t' b t
    | str b => obtain ⟨t, rfl⟩ := rx; exact SeqAt.EqAt.int_str a t' b t
    | _ => exact absurd (show false = true from fx) Bool.false_ne_true
  | str a =>
    obtain ⟨t', rfl⟩ := ry
    cases x with
    | non => cases rx; exact SeqAt.EqAt.str_none a t'
    | bl b => cases rx; exact SeqAt.EqAt.str_bool a t' b
    | int b => obtain ⟨t, rfl⟩ := rx; exact SeqAt.EqAt.str_int a t' b t
    | str b => obtain ⟨t, rfl⟩ := rx; exact SeqAt.EqAt.str_str a t' b t
    | _ => exact absurd (show false = true from fx) Bool.false_ne_true
  | _ => exact absurd (show false = true from fy) Bool.false_ne_true
def eqU (x : V) (u : Value) : Bool := match u with
  | .none => eqV .non x
  | .bool b => eqV (.bl b) x
  | .int i _ => eqV (.int i) x
  | .str z _ => eqV (.str z) x
  | _ => false
theorem eqU_of {x y : V} {u : Value} (r : RelV y u) (f : flatV y = true) : eqU x u = eqV y x := by
  cases y with
  | non => cases r; rfl
  | bl b => cases r; rfl
  | int i => obtain ⟨t, rfl⟩ := r; rfl
  | str z => obtain ⟨t, rfl⟩ := r; rfl
  | _ => exact absurd (show false = true from f) Bool.false_ne_true
theorem any_eqU {x : V} : ∀ {xs : List V} {us : List Value}, Vals xs us → xs.all flatV = true → us.any (eqU x) = xs.any fun y => eqV y x
  | _, _, .nil, _ => rfl
  | y :: xs, u :: us, .cons r t, f => by
    rw [List.all_cons, Bool.and_eq_true] at f
    rw [List.any_cons, List.any_cons, eqU_of r f.1, any_eqU t f.2]
theorem mem_eqAt {A : Around} {s : Shared} {x : V} {v : Value} (rx : RelV x v) (fx : flatV x = true) : ∀ {xs : List V} {us : List Value}, Vals xs us → xs.all flatV = true → ∀ u ∈ us, SeqAt.EqAt A s u v (eqU x u)
  | _, _, .nil, _ => fun u hu => by cases hu
  | y :: xs, u :: us, .cons r t, f => fun u' hu => by
    rw [List.all_cons, Bool.and_eq_true] at f
    rcases List.mem_cons.mp hu with rfl | hu
    · rw [eqU_of r f.1]; exact eqAt_V r rx f.1 fx
    · exact mem_eqAt rx fx t f.2 u' hu
def inV (x : V) (xs : List V) : Bool := xs.any fun y => eqV y x
def rIn (K : PySem.W.Frag) (neg : Bool) : R2 := fun x y H Q => ∃ p xs, y = .ref p ∧ (SqL K H p xs ∨ SqT K H p xs) ∧ flatV x = true ∧ xs.all flatV = true ∧ Q (.bl (if neg then !inV x xs else inV x xs)) H
theorem op_in_seq : OpR X (compareOp .In) (rIn X.K false) := by
  intro pins s σ H x y v u Q I rx ry h
  obtain ⟨p, xs, rfl, hq, fx, fs, q⟩ := h
  cases ry
  rcases hq with hq | hq
  · obtain ⟨its, r, pl, hz⟩ := I.list hq
    refine SeqAt.in_listAt (eqU x) pl.isList (fun w hw => mem_eqAt rx fx r fs w (by simpa using hw)) ⟨.bl _, H, I, rfl, ?_⟩
    rw [show its.toArray.any (eqU x) = its.any (eqU x) by simp, any_eqU r fs]
    exact q
  · obtain ⟨its, r, pl, hz⟩ := I.tuple hq
    refine SeqAt.in_tupleAt (eqU x) pl (fun w hw => mem_eqAt rx fx r fs w (by simpa using hw)) ⟨.bl _, H, I, rfl, ?_⟩
    rw [show its.toArray.any (eqU x) = its.any (eqU x) by simp, any_eqU r fs]
    exact q
theorem op_notIn_seq : OpR X (compareOp .NotIn) (rIn X.K true) := by
  intro pins s σ H x y v u Q I rx ry h
  obtain ⟨p, xs, rfl, hq, fx, fs, q⟩ := h
  cases ry
  rcases hq with hq | hq
  · obtain ⟨its, r, pl, hz⟩ := I.list hq
    refine SeqAt.notIn_listAt (eqU x) pl.isList (fun w hw => mem_eqAt rx fx r fs w (by simpa using hw)) ⟨.bl _, H, I, rfl, ?_⟩
    rw [show its.toArray.any (eqU x) = its.any (eqU x) by simp, any_eqU r fs]
    exact q
  · obtain ⟨its, r, pl, hz⟩ := I.tuple hq
    refine SeqAt.notIn_tupleAt (eqU x) pl (fun w hw => mem_eqAt rx fx r fs w (by simpa using hw)) ⟨.bl _, H, I, rfl, ?_⟩
    rw [show its.toArray.any (eqU x) = its.any (eqU x) by simp, any_eqU r fs]
    exact q
theorem op_notIn_str : OpR X (compareOp .NotIn) (fun x y H Q => ∃ i j, x = .str i ∧ y = .str j ∧ Q (.bl (!(!(Builtin.Str.occurrences j i 0 j.length 1).isEmpty))) H) := by
  intro pins s σ H x y v u Q I rx ry h
  obtain ⟨i, j, rfl, rfl, q⟩ := h
  obtain ⟨t, rfl⟩ := rx
  obtain ⟨t', rfl⟩ := ry
  exact notIn_str ⟨.bl _, H, I, rfl, q⟩
theorem call_len_seq : CallR X (.builtin "len") (fun xs H Q => ∃ p ys, xs = [.ref p] ∧ (SqL X.K H p ys ∨ SqT X.K H p ys) ∧ Q (.int ys.length) H) := by
  intro pins s σ H xs us Q I r h
  obtain ⟨p, ys, rfl, hq, q⟩ := h
  obtain ⟨u, rfl, rx⟩ := vals1 r
  cases rx
  have hn := line63
  rcases hq with hq | hq
  · obtain ⟨its, r', pl, hz⟩ := I.list hq
    have hlen := r'.length
    exact Calls.call_len_list pl.isList (by simp only [List.size_toArray] <;> omega) ⟨.int ys.length, H, I.tok _, ⟨s.toks + 1, by rw [List.size_toArray, hlen]⟩, q⟩
  · obtain ⟨its, r', pl, hz⟩ := I.tuple hq
    have hlen := r'.length
    exact len_tuple pl (by simp only [List.size_toArray] <;> omega) ⟨.int ys.length, H, I.tok _, ⟨s.toks + 1, by rw [List.size_toArray, hlen]⟩, q⟩
theorem call_len_str : CallR X (.builtin "len") (fun xs H Q => ∃ z, xs = [.str z] ∧ z.length ≤ sizeLine ∧ Q (.int z.length) H) := by
  intro pins s σ H xs us Q I r h
  obtain ⟨z, rfl, hz, q⟩ := h
  obtain ⟨u, rfl, t, rfl⟩ := vals1 r
  have hn := line63
  exact len_str (by omega) ⟨.int z.length, H, I.tok _, ⟨_, rfl⟩, q⟩
theorem CallR.or {f : Value} {r r' : List V → Hp → VK → Prop} (h : CallR X f r) (h' : CallR X f r') : CallR X f (fun xs H Q => r xs H Q ∨ r' xs H Q) := by
  intro pins s σ H xs us Q I rs q
  rcases q with q | q
  · exact h pins s σ H xs us Q I rs q
  · exact h' pins s σ H xs us Q I rs q
theorem call_list_of : CallR X (.type "list") (fun xs H Q => ∃ p ys, xs = [.ref p] ∧ (SqL X.K H p ys ∨ SqT X.K H p ys) ∧ ∀ l, H l = none → Q (.ref l) (upd H l (.lst ys))) := by
  intro pins s σ H xs us Q I r h
  obtain ⟨p, ys, rfl, hq, q⟩ := h
  obtain ⟨u, rfl, rx⟩ := vals1 r
  cases rx
  have fin : ∀ (its : List Value), Vals ys its → ys.length ≤ sizeLine → ∀ (h' : Heap) (c' : Nat), (∀ b o', s.heap.get? b = some o' → h'.get? b = some o') →
      h'.get? s.heap.objs.size = some { cls := .type "list", dict := none, data := .seq its.toArray c', slots := #[] } → EP X pins σ Q (.ref s.heap.objs.size) { s with heap := h' } := fun its r' hz h' c' kp e =>
    ⟨.ref s.heap.objs.size, _, I.laid (t' := s.toks) kp (Nat.le_refl _) (show ObjOk X.prog X.w _ h' _ (.lst ys) from ⟨hz, its, c', r', e⟩), rfl, q _ (I.hok.fresh (Nat.le_refl _))⟩
  rcases hq with hq | hq
  · obtain ⟨its, r', pl, hz⟩ := I.list hq
    have hlen := r'.length
    obtain ⟨o, ho, hc, n, hd⟩ := pl.isList
    exact call_list_seq p (.inl rfl) ho hc hd (fun h' c' kp e => fin its r' hz h' c' kp e) (by simp only [List.size_toArray] <;> omega)
  · obtain ⟨its, r', pl, hz⟩ := I.tuple hq
    have hlen := r'.length
    obtain ⟨o, ho, hc, n, hd⟩ := pl
    exact call_list_seq p (.inr rfl) ho hc hd (fun h' c' kp e => fin its r' hz h' c' kp e) (by simp only [List.size_toArray] <;> omega)
theorem call_tuple_of : CallR X (.type "tuple") (fun xs H Q => ∃ p ys, xs = [.ref p] ∧ ((SqL X.K H p ys ∧ ∀ l, H l = none → Q (.ref l) (upd H l (.tup ys))) ∨ (SqT X.K H p ys ∧ Q (.ref p) H))) := by
  intro pins s σ H xs us Q I r h
  obtain ⟨p, ys, rfl, h⟩ := h
  obtain ⟨u, rfl, rx⟩ := vals1 r
  cases rx
  rcases h with ⟨hq, q⟩ | ⟨hq, q⟩
  · obtain ⟨its, r', pl, hz⟩ := I.list hq
    have hlen := r'.length
    refine call_tuple_list pl.isList (fun h' kp => ?_) (by simp only [List.size_toArray] <;> omega)
    have I1 : Inv X pins σ H { s with heap := h' } := I.kept (t' := s.toks) kp
    have I2 : Inv X pins σ (upd H h'.objs.size (.tup ys)) { s with heap := h'.push { cls := .type "tuple", data := .seq its.toArray } } :=
      I1.laid (t' := s.toks) (fun b o e => Heap.get?_push_of_some _ e) (Nat.le_refl _) (show ObjOk X.prog X.w _ _ _ (.tup ys) from ⟨hz, its, r', IsTup.new _ _⟩)
    exact ⟨.ref h'.objs.size, _, I2, rfl, q _ (I1.hok.fresh (Nat.le_refl _))⟩
  · obtain ⟨its, r', pl, hz⟩ := I.tuple hq
    exact call_tuple_same pl ⟨.ref p, H, I, rfl, q⟩
def tyV (K : PySem.W.Frag) (T : String) (x : V) (H : Hp) : Prop := match x with
  | .str _ => T = "str"
  | .int _ => T = "int"
  | .ref p => (T = "list" ∧ ∃ xs, SqL K H p xs) ∨ (T = "tuple" ∧ ∃ o, K.lookup p = some o ∧ o.cls = .type "tuple" ∧ o.dict = none) ∨
      (T = "dict" ∧ ((∃ kvs, H p = some (.dK kvs)) ∨ ∃ kvs, H p = some (.dT kvs))) ∨ (T = "set" ∧ ∃ S n, H p = some (.set S n))
  | _ => False
theorem tyV_is {pins : List (Addr × Obj)} {σ : St} {H : Hp} {s : Shared} {T : String} {x : V} {v : Value} (I : Inv X pins σ H s) (r : RelV x v) (ty : tyV X.K T x H) :
    s.TypeIs v T ∧ ∀ a, v = .ref a → ∃ ob, s.heap.get? a = some ob ∧ ob.dict = none := by
  cases x with
  | str z =>
    obtain ⟨t, rfl⟩ := r
    cases (show T = "str" from ty)
    exact ⟨typeIs_str s z t, fun _ e => nomatch e⟩
  | int i =>
    obtain ⟨t, rfl⟩ := r
    cases (show T = "int" from ty)
    exact ⟨typeIs_int s i t, fun _ e => nomatch e⟩
  | ref p =>
    cases r
    rcases ty with ⟨rfl, xs, hq⟩ | ⟨rfl, o, hk, hc, hd⟩ | ⟨rfl, hk⟩ | ⟨rfl, S, n, hk⟩
    · obtain ⟨its, _, pl, _⟩ := I.list hq
      refine ⟨pl.isList.typeIs, fun a e => ?_⟩
      cases e
      obtain ⟨o, n, e, c, hd, _⟩ := pl
      exact ⟨o, e, hd⟩
    · refine ⟨⟨o, I.kIn p o hk, hc⟩, fun a e => ?_⟩
      cases e
      exact ⟨o, I.kIn _ o hk, hd⟩
    · have z : ∃ o, s.heap.get? p = some o ∧ o.ExactDict := by
        rcases hk with ⟨kvs, hk⟩ | ⟨kvs, hk⟩
        · obtain ⟨_, _, _, _, o, _, _, e, ex, _⟩ := I.hok p _ hk
          exact ⟨o, e, ex⟩
        · obtain ⟨_, _, _, _, o, _, _, e, ex, _⟩ := I.hok p _ hk
          exact ⟨o, e, ex⟩
      obtain ⟨o, e, ex⟩ := z
      refine ⟨⟨o, e, ex.1⟩, fun a e2 => ?_⟩
      cases e2
      exact ⟨o, e, ex.2.1⟩
    · obtain ⟨o, _, _, _, e, ex, _⟩ := I.hok p _ hk
      refine ⟨⟨o, e, ex.1⟩, fun a e2 => ?_⟩
      cases e2
      exact ⟨o, e, ex.2.1⟩
  | _ => exact False.elim ty
def tBM0 (K : PySem.W.Frag) (T : String) (r : V → List V → Hp → VK → Prop) (to : TE) : TE := fun σ H Q => to σ H fun x H1 => tyV K T x H1 ∧ r x [] H1 Q
def tBM (K : PySem.W.Frag) (T : String) (r : V → List V → Hp → VK → Prop) (to : TE) (t : TA) : TE := fun σ H Q => to σ H fun x H1 => tyV K T x H1 ∧ t σ H1 fun xs H2 => r x xs H2 Q
variable {o e : Expr} {es : List Expr} {to : TE} {t : TA} {name : Str} {apos cpos : Pos} {T id : String} {r : V → List V → Hp → VK → Prop}
theorem pe_bm0 (pa : PlainAttrs T) (slot : Slot T name id) (hty : typeOf (.builtin id) = pure (.type "method_descriptor")) (hm : MtR X id r) (ho : PE X o to)
    (hbase : attributeBase o name X.env (eval o X.env) = eval o X.env := by rfl) (hline : (apos.endLine == cpos.line) = true := by rfl) : PE X (.Call (.Attribute o name apos) [] [] cpos) (tBM0 X.K T r to) := by
  intro pins s σ H Q I h
  refine wpAny_Call_method0_late hbase hline (thn (ho pins s σ H _ I h) fun v s1 ⟨x, H1, I1, r1, ty, q1⟩ => ?_)
  obtain ⟨h1, h2⟩ := tyV_is I1 r1 ty
  exact ⟨T, id, pa, slot, hty, h1, h2, Calls.callWith_builtin rfl (PySem.evalArgs_none (hm pins s1 σ H1 x [] v [] Q I1 r1 .nil q1))⟩
theorem pe_bm (pa : PlainAttrs T) (slot : Slot T name id) (hty : typeOf (.builtin id) = pure (.type "method_descriptor")) (hm : MtR X id r) (ho : PE X o to) (ha : PA X (e :: es) t)
    (hbase : attributeBase o name X.env (eval o X.env) = eval o X.env := by rfl)
    (hfew : ((backTo cpos (starEach (e :: es) X.env)).all (fun x => !x.1) && (backToKw cpos (keywordEach [] X.env)).all (fun x => x.1.isSome)
      && decide ((e :: es).length + ([] : List Keyword).length + (if ([] : List Keyword).isEmpty then 0 else 1) < 30)) = true := by rfl)
    (hline : (apos.endLine == cpos.line) = true := by rfl) (hs : starEach (e :: es) X.env = (false, eval e X.env) :: starEach es X.env := by rfl) (hplain : (backTo cpos (starEach es X.env)).any (·.1) = false := by rfl) :
    PE X (.Call (.Attribute o name apos) (e :: es) [] cpos) (tBM X.K T r to t) := by
  intro pins s σ H Q I h
  refine wpAny_Call_method_late hbase hfew hline rfl (thn (ho pins s σ H _ I h) fun v s1 ⟨x, H1, I1, r1, ty, q1⟩ => ?_)
  obtain ⟨h1, h2⟩ := tyV_is I1 r1 ty
  refine ⟨T, id, pa, slot, hty, h1, h2, ?_⟩
  have hA := ha cpos pins s1 σ H1 _ I1 q1
  rw [hs] at hA ⊢
  refine Calls.callWith_builtin (by show (false || (backTo cpos (starEach es X.env)).any (·.1)) = false; rw [hplain] <;> rfl) (Calls.evalArgs_plain ?_)
  exact thn hA fun us s2 ⟨vs, H2, I2, r2, q2⟩ => hm pins s2 σ H2 x vs v us Q I2 r1 r2 q2
end
end L2
namespace L2
open PySem PySem.Spec PyProof.Rows
def MtM (X : Cx) (id : String) (r : V → List V → Hp → VK → Prop) : Prop :=
  ∀ (pins : List (Addr × Obj)) (s : Shared) (σ : St) (H : Hp) (x : V) (xs : List V) (v : Value) (us : List Value) (Q : VK), Inv X pins σ H s → RelV x v → Vals xs us → r x xs H Q →
    wpAny (model X.prog X.w) X.A (call (.builtin id) (v :: us)) (EP X pins σ Q) X.xe s
theorem Vals.one : ∀ {x : V} {us : List Value}, Vals [x] us → ∃ u, us = [u] ∧ RelV x u
  | _, _, .cons r .nil => ⟨_, rfl, r⟩
theorem Vals.two : ∀ {x y : V} {us : List Value}, Vals [x, y] us → ∃ u v, us = [u, v] ∧ RelV x u ∧ RelV y v
  | _, _, _, .cons r (.cons q .nil) => ⟨_, _, rfl, r, q⟩
theorem Vals.zero : ∀ {us : List Value}, Vals [] us → us = []
  | _, .nil => rfl
theorem Vals.dropLast {xs : List V} {us : List Value} (h : Vals xs us) : Vals xs.dropLast us.dropLast := by
  induction h with
  | nil => exact .nil
  | cons r t ih =>
    cases t with
    | nil => exact .nil
    | cons q t' => exact .cons r ih
theorem Vals.eraseIdx : ∀ {xs : List V} {us : List Value} (i : Nat), Vals xs us → Vals (xs.eraseIdx i) (us.eraseIdx i)
  | _, _, _, .nil => .nil
  | _, _, 0, .cons _ t => t
  | _, _, i + 1, .cons r t => .cons r (Vals.eraseIdx i t)
theorem Vals.reverse {xs : List V} {us : List Value} (h : Vals xs us) : Vals xs.reverse us.reverse := by
  induction h with
  | nil => exact .nil
  | cons r t ih => rw [List.reverse_cons, List.reverse_cons]; exact Vals.append ih (.cons r .nil)
theorem Vals.rep {xs : List V} {us : List Value} (h : Vals xs us) : ∀ k : Nat, Vals (List.replicate k xs).flatten (List.replicate k us).flatten
  | 0 => .nil
  | k + 1 => by
    rw [List.replicate_succ, List.replicate_succ, List.flatten_cons, List.flatten_cons]
    exact Vals.append h (Vals.rep h k)
theorem erase_last {α : Type} (l : List α) : l.eraseIdx (l.length - 1) = l.dropLast := by
  induction l with
  | nil => rfl
  | cons a r ih =>
    cases r with
    | nil => rfl
    | cons b r =>
      have e : (a :: b :: r).length - 1 = ((b :: r).length - 1) + 1 := by
        have h1 : (a :: b :: r).length = r.length + 2 := rfl
        have h2 : (b :: r).length = r.length + 1 := rfl
        omega
      rw [e, List.eraseIdx_cons_succ, ih]
      all_goals rfl
theorem len_erase {α : Type} : ∀ (l : List α) (i : Nat), (l.eraseIdx i).length ≤ l.length
  | [], _ => Nat.le_refl _
  | _ :: _, 0 => Nat.le_succ _
  | _ :: r, i + 1 => Nat.succ_le_succ (len_erase r i)
theorem foldl_rep (its : List Value) : ∀ (k : Nat) (acc : List Value),
    List.foldl (fun x1 x2 => x1 ++ x2) acc.toArray (List.replicate k its.toArray) = (acc ++ (List.replicate k its).flatten).toArray
  | 0, acc => by simp
  | k + 1, acc => by
    have e : acc.toArray ++ its.toArray = (acc ++ its).toArray := by simp
    have e2 : (acc ++ its) ++ (List.replicate k its).flatten = acc ++ (List.replicate (k + 1) its).flatten := by
      rw [List.replicate_succ, List.flatten_cons, List.append_assoc]
    rw [← e2, ← foldl_rep its k (acc ++ its), ← e, List.replicate_succ, List.foldl_cons]
section
variable {X : Cx} {pins : List (Addr × Obj)} {σ : St} {H : Hp} {s : Shared} {l b : Addr} {xs ys zs : List V}
theorem Inv.lset {its its' : List Value} {n : Nat} {f : Array Value → Array Value} {t' : Nat} (I : Inv X pins σ H s) (hH : H l = some (.lst xs))
    (e : s.heap.get? l = some { cls := .type "list", data := .seq its.toArray n }) (hf : f its.toArray = its'.toArray) (hv : Vals ys its') (hz : ys.length ≤ sizeLine) :
    Inv X pins σ (upd H l (.lst ys)) { s with heap := s.heap.update l (Obj.mapSeq f), toks := t' } := by
  have q := PySem.IsL.update e f
  rw [hf] at q
  refine I.write (x := l) (e := l) (by rw [hH]; exact trivial) (.inl rfl) (fun b' u hb hu => (Heap.get?_update_other s.heap (Obj.mapSeq f) (Ne.symm hb)).trans hu) ⟨_, q⟩ ?_
  exact ⟨hz, its', _, hv, q⟩
theorem Inv.lnew {its : List Value} {t' : Nat} (I : Inv X pins σ H s) (hv : Vals ys its) (hz : ys.length ≤ sizeLine) :
    Inv X pins σ (upd H s.heap.objs.size (.lst ys)) { s with heap := s.heap.push { cls := .type "list", data := .seq its.toArray }, toks := t' } :=
  I.laid (fun _ _ q => Heap.get?_push_of_some _ q) (Nat.le_refl _) ⟨hz, its, 0, hv, Heap.get?_push_size _ rfl⟩
theorem Inv.fresh (I : Inv X pins σ H s) : H s.heap.objs.size = none := I.hok.fresh (Nat.le_refl _)
theorem Inv.lstM (I : Inv X pins σ H s) (hH : H l = some (.lst xs)) : xs.length ≤ sizeLine ∧ ∃ (its : List Value) (n : Nat), Vals xs its ∧ xs.length = its.length ∧ s.heap.get? l = some { cls := .type "list", data := .seq its.toArray n } := by
  obtain ⟨z, its, n, r, e⟩ := I.hok l _ hH
  exact ⟨z, its, n, r, r.length, e⟩
theorem notLongL {n : Nat} (h : n ≤ sizeLine) : Builtin.List.listTooLong n = false := by
  unfold Builtin.List.listTooLong
  exact decide_eq_false (by omega)
end
section
variable {X : Cx}
def rAppend : V → List V → Hp → VK → Prop := fun x vs H Q => ∃ l xs y, x = .ref l ∧ vs = [y] ∧ H l = some (.lst xs) ∧ xs.length < sizeLine ∧ Q .non (upd H l (.lst (xs ++ [y])))
theorem mt_append : MtM X "list.append" rAppend := by
  intro pins s σ H x vs v us Q I rx rv h
  obtain ⟨l, xs, y, rfl, rfl, hH, hz, q⟩ := h
  cases rx
  obtain ⟨u, rfl, ru⟩ := rv.one
  obtain ⟨z, its, n, r, hl, e⟩ := I.lstM hH
  refine call_meets F.slot_list_append ⟨_, e, rfl⟩ F.entry_list_append (F.args_list_append_2 _ _) (PySem.list_append l its.toArray n u (by rw [List.size_toArray]; omega)) ⟨e, ?_⟩
  refine ⟨.non, _, I.lset (its' := its ++ [u]) hH e (by simp) (r.append (.cons ru .nil)) ?_, rfl, q⟩
  rw [List.length_append, List.length_singleton]
  omega
def rExtend : V → List V → Hp → VK → Prop := fun x vs H Q => ∃ l b xs zs, x = .ref l ∧ vs = [.ref b] ∧ H l = some (.lst xs) ∧ H b = some (.lst zs) ∧ xs.length + zs.length ≤ sizeLine ∧ Q .non (upd H l (.lst (xs ++ zs)))
theorem mt_extend : MtM X "list.extend" rExtend := by
  intro pins s σ H x vs v us Q I rx rv h
  obtain ⟨l, b, xs, zs, rfl, rfl, hH, hB, hz, q⟩ := h
  cases rx
  obtain ⟨u, rfl, ru⟩ := rv.one
  cases ru
  obtain ⟨z, its, n, r, hl, e⟩ := I.lstM hH
  obtain ⟨z2, its2, n2, r2, hl2, e2⟩ := I.lstM hB
  have hsz : its.toArray.size + its2.toArray.size ≤ sizeLine := by rw [List.size_toArray, List.size_toArray]; omega
  have hlong : ¬ (!its.toArray.isEmpty && Builtin.List.listTooLong (its.toArray.size + its2.toArray.size)) = true := by
    rw [notLongL hsz, Bool.and_false]
    exact Bool.false_ne_true
  refine call_meets F.slot_list_extend ⟨_, e, rfl⟩ F.entry_list_extend (F.args_list_extend_2 _ _)
    (AutoSeq1.list_extend_list_list_0 l its.toArray n b its2.toArray n2 hlong (by rw [List.size_toArray]; omega) (by omega)) ⟨e, e2, ?_⟩
  refine ⟨.non, _, I.lset (its' := its ++ its2) hH e (by simp) (r.append r2) ?_, rfl, q⟩
  rw [List.length_append]
  omega
def rPop : V → List V → Hp → VK → Prop := fun x vs H Q => ∃ l xs y, x = .ref l ∧ vs = [] ∧ H l = some (.lst xs) ∧ xs[xs.length - 1]? = some y ∧ Q y (upd H l (.lst xs.dropLast))
theorem mt_pop : MtM X "list.pop" rPop := by
  intro pins s σ H x vs v us Q I rx rv h
  obtain ⟨l, xs, y, rfl, rfl, hH, hy, q⟩ := h
  cases rx
  have hus := rv.zero
  subst hus
  obtain ⟨z, its, n, r, hl, e⟩ := I.lstM hH
  obtain ⟨u, hu, ru⟩ := r.get hy
  have hy' : its.toArray[its.toArray.size - 1]? = some u := by
    show its.toArray[its.length - 1]? = some u
    rw [← Array.getElem?_toList, ← hl]
    exact hu
  refine call_meets F.slot_list_pop ⟨_, e, rfl⟩ F.entry_list_pop (F.args_list_pop_1 _) (MeetsSeq.list_pop_last l its.toArray n u hy' (by rw [List.size_toArray]; omega)) ⟨e, ?_⟩
  refine ⟨y, _, I.lset (its' := its.dropLast) hH e ?_ r.dropLast ?_, ru, q⟩
  · show its.toArray.eraseIdxIfInBounds (its.toArray.size - 1) = its.dropLast.toArray
    rw [List.size_toArray, List.eraseIdxIfInBounds_toArray, erase_last]
  · rw [List.length_dropLast]
    omega
def rPopAt : V → List V → Hp → VK → Prop := fun x vs H Q => ∃ l xs i k y, x = .ref l ∧ vs = [.int i] ∧ H l = some (.lst xs) ∧ -(2 ^ 63) ≤ i ∧ i < 2 ^ 63 ∧ seqIndex? i xs.length = some k ∧ xs[k]? = some y ∧ Q y (upd H l (.lst (xs.eraseIdx k)))
theorem mt_popAt : MtM X "list.pop" rPopAt := by
  intro pins s σ H x vs v us Q I rx rv h
  obtain ⟨l, xs, i, k, y, rfl, rfl, hH, h1, h2, hk, hy, q⟩ := h
  cases rx
  obtain ⟨u, rfl, ru⟩ := rv.one
  obtain ⟨t, rfl⟩ := ru
  obtain ⟨z, its, n, r, hl, e⟩ := I.lstM hH
  obtain ⟨w, hw, rw'⟩ := r.get hy
  refine call_meets F.slot_list_pop ⟨_, e, rfl⟩ F.entry_list_pop (F.args_list_pop_2 _ _)
    (MeetsSeq.list_pop_at l its.toArray n i t k w (fitsIndex_both h1 h2) (by rw [List.size_toArray, ← hl]; exact hk) (by rw [← Array.getElem?_toList]; exact hw) (by rw [List.size_toArray]; omega)) ⟨e, ?_⟩
  refine ⟨y, _, I.lset (its' := its.eraseIdx k) hH e ?_ (r.eraseIdx k) ?_, rw', q⟩
  · show its.toArray.eraseIdxIfInBounds k = (its.eraseIdx k).toArray
    rw [List.eraseIdxIfInBounds_toArray]
  · have := len_erase xs k
    omega
def rReverse : V → List V → Hp → VK → Prop := fun x vs H Q => ∃ l xs, x = .ref l ∧ vs = [] ∧ H l = some (.lst xs) ∧ Q .non (upd H l (.lst xs.reverse))
theorem mt_reverse : MtM X "list.reverse" rReverse := by
  intro pins s σ H x vs v us Q I rx rv h
  obtain ⟨l, xs, rfl, rfl, hH, q⟩ := h
  cases rx
  have hus := rv.zero
  subst hus
  obtain ⟨z, its, n, r, hl, e⟩ := I.lstM hH
  refine call_meets F.slot_list_reverse ⟨_, e, rfl⟩ F.entry_list_reverse (F.args_list_reverse_1 _) (AutoSeq1.list_reverse_list_0 l its.toArray n (by rw [List.size_toArray]; omega)) ⟨e, ?_⟩
  refine ⟨.non, _, I.lset (its' := its.reverse) hH e (by simp) r.reverse ?_, rfl, q⟩
  rw [List.length_reverse]
  omega
def rClear : V → List V → Hp → VK → Prop := fun x vs H Q => ∃ l xs, x = .ref l ∧ vs = [] ∧ H l = some (.lst xs) ∧ Q .non (upd H l (.lst []))
theorem mt_clear : MtM X "list.clear" rClear := by
  intro pins s σ H x vs v us Q I rx rv h
  obtain ⟨l, xs, rfl, rfl, hH, q⟩ := h
  cases rx
  have hus := rv.zero
  subst hus
  obtain ⟨z, its, n, r, hl, e⟩ := I.lstM hH
  refine call_meets F.slot_list_clear ⟨_, e, rfl⟩ F.entry_list_clear (F.args_list_clear_1 _) (AutoSeq1.list_clear_list_0 l its.toArray n (by rw [List.size_toArray]; omega)) ⟨e, ?_⟩
  exact ⟨.non, _, I.lset (its' := []) (ys := []) hH e rfl .nil (Nat.zero_le _), rfl, q⟩
def rCat : R2 := fun x y H Q => ∃ l b xs zs, x = .ref l ∧ y = .ref b ∧ H l = some (.lst xs) ∧ H b = some (.lst zs) ∧ xs.length + zs.length ≤ sizeLine ∧ ∀ p, H p = none → Q (.ref p) (upd H p (.lst (xs ++ zs)))
theorem op_cat : OpR X (binaryOp .Add) rCat := by
  intro pins s σ H x y v u Q I rx ry h
  obtain ⟨l, b, xs, zs, rfl, rfl, hH, hB, hz, q⟩ := h
  cases rx
  cases ry
  obtain ⟨z, its, n, r, hl, e⟩ := I.lstM hH
  obtain ⟨z2, its2, n2, r2, hl2, e2⟩ := I.lstM hB
  refine PySem.P.add_list e e2 ?_ (by rw [List.size_toArray, List.size_toArray]; omega)
  have ea : its.toArray ++ its2.toArray = (its ++ its2).toArray := by simp
  rw [ea]
  exact ⟨.ref _, _, I.lnew (t' := s.toks) (r.append r2) (by rw [List.length_append]; omega), rfl, q _ I.fresh⟩
def rRep : R2 := fun x y H Q => ∃ l k xs, x = .ref l ∧ y = .int k ∧ H l = some (.lst xs) ∧ -(2 ^ 63) ≤ k ∧ k < 2 ^ 63 ∧ xs.length * k.toNat ≤ sizeLine ∧
  ∀ p, H p = none → Q (.ref p) (upd H p (.lst (List.replicate k.toNat xs).flatten))
theorem len_rep {α : Type} (xs : List α) (k : Nat) : (List.replicate k xs).flatten.length = k * xs.length := by
  induction k with
  | zero => simp
  | succ k ih => rw [List.replicate_succ, List.flatten_cons, List.length_append, ih, Nat.succ_mul, Nat.add_comm]
theorem op_rep : OpR X (binaryOp .Mult) rRep := by
  intro pins s σ H x y v u Q I rx ry h
  obtain ⟨l, k, xs, rfl, rfl, hH, h1, h2, hz, q⟩ := h
  cases rx
  obtain ⟨t, rfl⟩ := ry
  obtain ⟨z, its, n, r, hl, e⟩ := I.lstM hH
  have hlen : its.toArray.size * k.toNat ≤ sizeLine := by rw [List.size_toArray, ← hl]; exact hz
  have hcap : ¬ its.toArray.size * k.toNat > (2 ^ 63 - 1) / 8 := by
    have : (sizeLine : Nat) ≤ (2 ^ 63 - 1) / 8 := by decide
    omega
  have hfit : ¬ (!Builtin.List.listFitsIndex k) = true := by
    rw [fitsIndex_both h1 h2]
    exact Bool.false_ne_true
  have hlong : ¬ Builtin.List.listTooLong (its.toArray.size * k.toNat) = true := by
    rw [notLongL hlen]
    exact Bool.false_ne_true
  have hnew : List.foldl (fun x1 x2 => x1 ++ x2) #[] (List.replicate (if its.toArray.isEmpty = true then 0 else k.toNat) its.toArray) = (List.replicate k.toNat its).flatten.toArray := by
    have f0 : ∀ m : Nat, List.foldl (fun x1 x2 => x1 ++ x2) #[] (List.replicate m its.toArray) = (List.replicate m its).flatten.toArray := fun m => by
      have := foldl_rep its m []
      rw [List.nil_append] at this
      exact this
    rw [f0]
    cases its with
    | nil => simp
    | cons a r' => rw [if_neg (by simp)]
  refine wpAny_binaryOp_repeat_ref (T := "list") (U := "int") (by decide) ⟨_, e, rfl⟩ (fun s' => typeIs_int s' k t) noFill_list_mul F.fills_int_mul F.slot_int_rmul repeat_list F.slot_int_index.lookup
    (call_meets F.slot_int_rmul (typeIs_int s k t) F.entry_int_rmul (F.args_int_rmul_2 _ _) (int___rmul___int_list k t l its.toArray n)
      ⟨e, rfl, ⟨_, e, rfl⟩, call_meets F.slot_list_mul ⟨_, e, rfl⟩ F.entry_list_mul (F.args_list_mul_2 _ _) (AutoListH.list___mul___list_int_3 l its.toArray n k t hfit hcap hlong) ⟨e, ?_⟩⟩)
  rw [hnew]
  exact ⟨.ref _, _, I.lnew (t' := s.toks) (r.rep k.toNat) (by rw [len_rep, Nat.mul_comm]; exact hz), rfl, q _ I.fresh⟩
theorem del_list {pins : List (Addr × Obj)} {s : Shared} {σ : St} {H : Hp} {l : Addr} {xs : List V} {i : Int} {t : Tok} {k : Nat} {Q : Unit → Shared → Prop} (I : Inv X pins σ H s) (hH : H l = some (.lst xs))
    (h1 : -(2 ^ 63) ≤ i) (h2 : i < 2 ^ 63) (hk : seqIndex? i xs.length = some k) (h : ∀ s', Inv X pins σ (upd H l (.lst (xs.eraseIdx k))) s' → Q () s') :
    wpAny (model X.prog X.w) X.A (delItem (.ref l) (.int i t)) Q X.xe s := by
  obtain ⟨z, its, n, r, hl, e⟩ := I.lstM hH
  refine PySem.P.delItem_list (k := k) e (fitsIndex_both h1 h2) (by rw [List.size_toArray, ← hl]; exact hk) (h _ ?_) (by rw [List.size_toArray]; omega)
  refine I.lset (its' := its.eraseIdx k) (t' := s.toks) hH e ?_ (r.eraseIdx k) ?_
  · show its.toArray.eraseIdxIfInBounds k = (its.eraseIdx k).toArray
    rw [List.eraseIdxIfInBounds_toArray]
  · have := len_erase xs k
    omega
end
section
variable {prog : Program} {w : World} {A : Around} {E : Value → Shared → Prop} {s : Shared}
theorem splice_eq (its its2 : List Value) (a c : Nat) : its.toArray.extract 0 a ++ its2.toArray ++ its.toArray.extract c its.toArray.size = (its.take a ++ its2 ++ its.drop c).toArray := by
  apply Array.toList_inj.mp
  first
    | (simp
       exact List.take_of_length_le (by simp))
    | simp [List.take_of_length_le]
    | simp
theorem bounds_run {a c n : Nat} (hac : a ≤ c) (hc : c ≤ n) : sliceBounds (some (a : Int)) (some (c : Int)) none n = ((a : Int), (c : Int), 1) := by
  simp only [sliceBounds, Option.getD_none]
  have h1 : ¬ ((a : Int) < 0) := by omega
  have h2 : ¬ ((c : Int) < 0) := by omega
  simp only [h1, h2, if_false, show (1 : Int) > 0 by decide, if_true]
  congr 1
  · omega
  · congr 1; omega
set_option maxRecDepth 100000 in
theorem setItem_slice {l b sl : Addr} {items new : Array Value} {n n2 : Nat} {vl vu : Value} {a c : Nat} {Q : Unit → Shared → Prop}
    (e : s.heap.get? l = some { cls := .type "list", data := .seq items n }) (e2 : s.heap.get? b = some { cls := .type "list", data := .seq new n2 }) (hne : l ≠ b)
    (hs : s.heap.IsSliceOf sl vl vu .none) (pl : IsPart vl (some (a : Int))) (pu : IsPart vu (some (c : Int))) (hac : a ≤ c) (hc : c ≤ items.size)
    (hsz : items.size + new.size ≤ sizeLine) (h : Q () { s with heap := s.heap.update l (Obj.mapSeq fun xs => xs.extract 0 a ++ new ++ xs.extract c xs.size) }) :
    wpAny (model prog w) A (setItem (.ref l) (.ref sl) (.ref b)) Q E s := by
  have hl : s.heap.IsList l items := PySem.IsL.isList e
  have hb : s.heap.IsList b new := PySem.IsL.isList e2
  obtain ⟨os, hos, hcs, hds⟩ := id hs
  have hTs : s.TypeIs (.ref sl) "slice" := ⟨os, hos, hcs⟩
  have hstep : ¬ ((rawPart none == rawInt 0) = true) := Bool.false_ne_true
  have hsame : Builtin.List.listSameRef (.ref l) (.ref b) = false := by
    unfold Builtin.List.listSameRef
    exact beq_eq_false_iff_ne.mpr hne
  have hmax : (max (a : Int) (c : Int)).toNat = c := by omega
  have hz' : ((fun xs : Array Value => xs.extract 0 a ++ new ++ xs.extract c xs.size) items).size ≤ sizeLine + 1 := by
    simp only [Array.size_append, Array.size_extract]
    omega
  unfold setItem
  try with_reducible refine wpAny_holding ?_
  first | refine wpAny_bind (wpAny_pure ?_) | skip
  refine wpAny_bind (wpAny_sequenceKey hl.typeIs (by decide) ?_)
  refine wpAny_bind (wpAny_callSpecial?_slot (name := Str.ofString "__setitem__") hl.typeIs slot_list_setitem
    (wpAny_call_entry slot_list_setitem hl.typeIs entry_list_setitem ?_ (args_list_setitem _ _ _)))
  show wpAny _ _ (Builtin.List.listSubscript? (.ref sl) >>= _) _ _ s
  refine wpAny_bind ?_
  unfold Builtin.List.listSubscript?
  refine wpAny_bind (wpAny_specialOf hTs slice_no_index ?_)
  simp only [Option.isNone_none, if_true]
  refine wpAny_pure ?_
  show wpAny _ _ (typeOf (.ref sl) >>= _) _ _ s
  refine wpAny_bind (wpAny_typeOf hTs ?_)
  first
    | rw [if_neg (by decide)]
    | refine PySem.W.KFB.if_not (by decide) ?_
  rw [listSliceParts_eq]
  refine wpAny_bind (wpAny_bind (wpAny_field hos hds (x := .none) rfl (wpAny_bind (wpAny_listPart .none ?_))))
  rw [if_neg hstep]
  refine wpAny_bind (wpAny_field hos hds (x := vl) rfl (wpAny_bind (wpAny_listPart pl ?_)))
  refine wpAny_bind (wpAny_field hos hds (x := vu) rfl (wpAny_bind (wpAny_listPart pu (wpAny_pure ?_))))
  first
    | simp only [hsame, Bool.false_eq_true, if_false]
    | refine PySem.W.KFB.if_not hsame ?_
    | (dsimp only
       rw [if_neg (by rw [hsame]; exact Bool.false_ne_true)])
  refine wpAny_bind (m := Builtin.List.listAllItems (.ref b) "must assign iterable to extended slice") ?_
  unfold Builtin.List.listAllItems
  refine wpAny_bind (wpAny_typeOf hb.typeIs ?_)
  first
    | refine PySem.W.KFB.if_so (by decide) ?_
    | rw [if_pos (by decide)]
    | simp only [beq_self_eq_true, Bool.true_or, if_true]
  unfold Builtin.List.listItems
  refine wpAny_bind (wpAny_seqItems e2 rfl (wpAny_pure ?_))
  refine wpAny_bind (wpAny_bind (wpAny_seqItems e rfl (wpAny_pure ?_)))
  refine wpAny_bind (wpAny_of_eq ((sliceIndices_raw (some (a : Int)) (some (c : Int)) none items.size (by simp)).trans (congrArg (pure : Int × Int × Int → Sem (Int × Int × Int)) (bounds_run hac hc))) ?_)
  show wpAny _ _ (if ((1 : Int) == 1) = true then _ else _) _ _ s
  rw [if_pos (by decide)]
  refine wpAny_bind (wpAny_rule ?_)
  first
    | simp only [notLongL hsz, Bool.false_eq_true, if_false]
    | refine PySem.W.KFB.if_not (notLongL hsz) ?_
  first | refine wpAny_bind (wpAny_pure ?_) | skip
  show wpAny _ _ (updateSeq l (fun xs => xs.extract 0 ((a : Int)).toNat ++ new ++ xs.extract (max (a : Int) (c : Int)).toNat xs.size) >>= _) _ _ s
  rw [hmax, Int.toNat_natCast]
  refine wpAny_bind (wpAny_updateSeq (hz := Nat.le_trans (Nat.le_add_right _ _) hsz) (_hz' := hz') e rfl ?_)
  refine wpAny_bind (wpAny_letGo ?_)
  first
    | exact wpAny_bind (wpAny_pure (wpAny_pure ⟨.none, rfl, wpAny_pure h⟩))
    | exact wpAny_pure ⟨.none, rfl, wpAny_pure h⟩
end
section
variable {X : Cx}
theorem set_slice {pins : List (Addr × Obj)} {s : Shared} {σ : St} {H : Hp} {l b sl : Addr} {xs ys : List V} {a c : Int} {vl vu : Value} {Q : Unit → Shared → Prop} (I : Inv X pins σ H s)
    (hH : H l = some (.lst xs)) (hB : H b = some (.lst ys)) (hne : l ≠ b) (hs : s.heap.IsSliceOf sl vl vu .none) (ra : RelV (.int a) vl) (rc : RelV (.int c) vu) (h0 : 0 ≤ a) (hac : a ≤ c) (hc : c ≤ xs.length)
    (hz : xs.length + ys.length ≤ sizeLine) (h : ∀ s', Inv X pins σ (upd H l (.lst (xs.take a.toNat ++ ys ++ xs.drop c.toNat))) s' → Q () s') :
    wpAny (model X.prog X.w) X.A (setItem (.ref l) (.ref sl) (.ref b)) Q X.xe s := by
  obtain ⟨ta, rfl⟩ := ra
  obtain ⟨tc, rfl⟩ := rc
  obtain ⟨z, its, n, r, hl, e⟩ := I.lstM hH
  obtain ⟨z2, its2, n2, r2, hl2, e2⟩ := I.lstM hB
  obtain ⟨a', rfl⟩ := Int.eq_ofNat_of_zero_le h0
  obtain ⟨c', rfl⟩ := Int.eq_ofNat_of_zero_le (Int.le_trans h0 hac)
  simp only [Int.toNat_natCast] at h
  refine setItem_slice (a := a') (c := c') e e2 hne hs (.int _ _) (.int _ _) (by omega) (by rw [List.size_toArray]; omega) (by rw [List.size_toArray, List.size_toArray]; omega) (h _ ?_)
  refine I.lset (its' := its.take a' ++ its2 ++ its.drop c') (t' := s.toks) hH e ?_ (Vals.append (Vals.append (r.take _) r2) (r.drop _)) ?_
  · exact splice_eq its its2 a' c'
  · rw [List.length_append, List.length_append, List.length_take, List.length_drop]
    omega
end
end L2
namespace Att
open PySem PySem.W PySem.Calls PyProof.Rows
theorem ints_of_wellAll {P : Params} {h : Heap} : ∀ (ns : List Int) (vs : List Value), WellAll P h vs (ns.map WData.int) → IntsAre vs ns := by
  intro ns
  induction ns with
  | nil =>
    intro vs w
    rw [List.map_nil] at w
    cases w
    exact .nil
  | cons n ns ih =>
    intro vs w
    rw [List.map_cons] at w
    cases w with
    | cons a b =>
      cases a
      exact .cons _ _ (ih _ b)
theorem script_of {l : OpenLaw} {n : Nat} (hn : l.most = some n) {P : Params} {h : Heap} {args : List WData} {vals : List Value}
    (hpre : l.row.toRowW.claim.pre args = true) (hwl : WellAll P h vals args) :
    ∃ a vs ns, vals = [Value.ref a] ∧ args = [WData.list (ns.map WData.int)] ∧ h.get? a = some { cls := .type "list", data := .seq vs.toArray } ∧ IntsAre vs ns ∧ ns.length ≤ n := by
  have hsh : WShape.hasAll [] args [.list .int] = true := (pre_splitW hpre).1
  have hc : l.pre.holds [] { args := args } = true := (pre_splitW hpre).2
  obtain ⟨d, r, rfl, h1, h2⟩ := hasAllW_cons hsh
  obtain rfl := hasAllW_nil h2
  obtain ⟨xs, rfl, h3⟩ := hasW_list h1
  obtain ⟨ns, rfl⟩ := items_int h3
  have hlen : ns.length ≤ n := by
    unfold OpenLaw.pre at hc
    have h4 : (WTm.not (.lt (.lit (.int (n : Int))) (.len (.arg 0)))).holds [] { args := [.list (ns.map .int)] } = true := by
      have h4 := (holds_andW hc).1
      rw [hn] at h4
      exact h4
    have h5 := condW_of h4 (w_not (w_lt w_lit (w_len_list (w_arg rfl))))
    rw [List.length_map] at h5
    refine Nat.le_of_not_lt fun q => ?_
    have q' : (n : Int) < ((ns.length : Nat) : Int) := by omega
    first
      | (rw [decide_eq_true q'] at h5; exact absurd h5 (by decide))
      | (simp at h5; omega)
  cases hwl with
  | cons w1 w2 =>
    cases w2
    cases w1 with
    | list ho hall => exact ⟨_, _, ns, rfl, rfl, ho, ints_of_wellAll ns _ hall, hlen⟩
theorem post_true (l : OpenLaw) (args : List WData) : l.row.toRowW.claim.post args (.bool true) args = true :=
  postW_of (r := l.row.toRowW) (X := (true == true))
    (show WShape.has [] (.bool true) .bool = true by first | rfl | decide | simp [WShape.has, WShape.arms, WShape.armsAll])
    (show (WTm.eq .res (.lit (.bool true))).value [] { args := args, res := some (.bool true), after := args } = some (.bool (true == true)) from w_eq_bool (w_res rfl) w_lit) rfl
theorem attach {l : OpenLaw} {n : Nat} {q : Program} {loose : List Str} {XP : (Str → Option Value) → Heap → Prop} {YP : World → Heap → Prop} {d : DefRec} {x : Str}
    (hn : l.most = some n) (hdf : d.params.defaults = [])
    (hbind : ∀ pm cd doc v : Value, bindArgs (docDef d.name d.params d.body d.scope pm cd doc) ⟨[v], []⟩ = pure [(x, v)])
    (hx : d.scope.names.lookup x = some .local ∨ d.scope.names.lookup x = some .cell)
    (hk : d.scope.kind = .function) (hco : d.scope.isCoroutine = false) (hgen : d.scope.isGenerator = false)
    (body : ∀ (w : World) (s₀ s₁ s : Shared) (mg mb : Str → Option Value) (fa : Addr) (o : Obj) (pm cd doc : Value) (a : Addr) (vs : List Value) (ns : List Int),
      Ground q loose [] XP w s₀ mg mb s₁.heap → YP w s₁.heap →
      s₁.heap.get? fa = some o → o.data = .func (docDef d.name d.params d.body d.scope pm cd doc) → s₁.heap.CodeRec cd d.name → mg d.name = some (.ref fa) →
      s₁.heap.get? a = some { cls := .type "list", data := .seq vs.toArray } → IntsAre vs ns → ns.length ≤ n →
      s.gens = #[] → s.os = s₁.os →
      Fr s₁.heap s₁.heap.objs.size s.heap (bindL (envOfC d.name d.scope s₁.heap.objs.size fa cd).kindOf [(x, .ref a)] fun _ => none) →
      Cl s₁.heap.objs.size (cellsFrom (s₁.heap.objs.size + 1) d.scope.names []) s.heap (bindC (envOfC d.name d.scope s₁.heap.objs.size fa cd).kindOf [(x, .ref a)] fun _ => none) →
      wpAny (model l.prog w) (callerA.deeper (envOfC d.name d.scope s₁.heap.objs.size fa cd)) (execs d.body (envOfC d.name d.scope s₁.heap.objs.size fa cd))
        (fun f s' => f = .ret (.bool true) ∧ OldK s₁.heap s'.heap ∧ s'.os = s₁.os ∧ AllBare s'.gens) (fun _ _ => False) s) :
    WalkO q loose XP YP l.row.toRowW d [] (fun f vs => PySem.call f vs) := by
  intro w s₀ s₁ mg mb G Y fa o pm cd doc dV kV ho hd hcd hD hmg hg args vals as hpre hlay hrd hwl hlo
  obtain rfl : dV = .none := Dflts.none hD hdf
  obtain rfl : kV = .none := Dflts.noKw hD
  obtain ⟨a, vs, ns, rfl, rfl, hobj, hints, hlen⟩ := script_of hn hpre hwl
  refine enter_call ?_
  refine call_cells_ret (o := o) (by rw [depth_caller]; decide) ho (fd_plain hd) G.T.nolimit hcd (hbind pm cd doc (.ref a)) (fun y hy => ?_) (fun h₁ tk F X => ?_) hco hgen hk
  · obtain rfl : y = (x, Value.ref a) := List.mem_singleton.mp hy
    rcases hx with e | e
    · exact .inl e
    · exact .inr ⟨e, cellsFrom_some _ _ _ (.inl e)⟩
  · refine wpAny_mono (body w s₀ s₁ { s₁ with heap := h₁, toks := tk } mg mb fa o pm cd doc a vs ns G Y ho (fd_plain hd) hcd hmg hobj hints hlen hg rfl F X) (fun f s' hq => ?_) (fun _ _ hq => hq)
    obtain ⟨rfl, h2, h3, h4⟩ := hq
    exact ⟨.inl ⟨.bool true, .bool true, [], rfl, fun _ => rfl, .bool true, post_true l _, fun _ => ⟨List.Pairwise.nil, fun _ hm => (nomatch hm)⟩⟩, h2, h3, h4⟩
theorem attach_call {l : OpenLaw} {n : Nat} {q : Program} {loose : List Str} {XP : (Str → Option Value) → Heap → Prop} {YP : World → Heap → Prop} {d : DefRec}
    (hn : l.most = some n) (hdf : d.params.defaults = [])
    (call : ∀ (w : World) (s₀ s₁ : Shared) (mg mb : Str → Option Value) (fa : Addr) (o : Obj) (pm cd doc : Value) (a : Addr) (vs : List Value) (ns : List Int),
      Ground q loose [] XP w s₀ mg mb s₁.heap → YP w s₁.heap →
      s₁.heap.get? fa = some o → o.data = .func (docDef d.name d.params d.body d.scope pm cd doc) → s₁.heap.CodeRec cd d.name → mg d.name = some (.ref fa) →
      s₁.heap.get? a = some { cls := .type "list", data := .seq vs.toArray } → IntsAre vs ns → ns.length ≤ n → s₁.gens = #[] →
      codeAny (model l.prog w) callerA (.call (.ref fa) ⟨[.ref a], []⟩) (fun r s' => r = .ok (.ret (.bool true)) ∧ OldK s₁.heap s'.heap ∧ s'.os = s₁.os ∧ AllBare s'.gens) s₁) :
    WalkO q loose XP YP l.row.toRowW d [] (fun f vs => PySem.call f vs) := by
  intro w s₀ s₁ mg mb G Y fa o pm cd doc dV kV ho hd hcd hD hmg hg args vals as hpre hlay hrd hwl hlo
  obtain rfl : dV = .none := Dflts.none hD hdf
  obtain rfl : kV = .none := Dflts.noKw hD
  obtain ⟨a, vs, ns, rfl, rfl, hobj, hints, hlen⟩ := script_of hn hpre hwl
  refine enter_call (codeAny_mono (call w s₀ s₁ mg mb fa o pm cd doc a vs ns G Y ho (fd_plain hd) hcd hmg hobj hints hlen hg) fun r s' hq => ?_)
  obtain ⟨rfl, h2, h3, h4⟩ := hq
  exact ⟨.inl ⟨.bool true, .bool true, [], rfl, fun _ => rfl, .bool true, post_true l _, fun _ => ⟨List.Pairwise.nil, fun _ hm => (nomatch hm)⟩⟩, h2, h3, h4⟩
theorem attachN {l : OpenLaw} {n : Nat} {q : Program} {loose : List Str} {XP : (Str → Option Value) → Heap → Prop} {YP : World → Heap → Prop} {d : DefRec} {x : Str}
    (hn : l.most = some n) (hdf : d.params.defaults = [])
    (hbind : ∀ pm cd doc v : Value, bindArgs (docDef d.name d.params d.body d.scope pm cd doc) ⟨[v], []⟩ = pure [(x, v)])
    (hx : d.scope.names.lookup x = some .local ∨ d.scope.names.lookup x = some .cell)
    (hk : d.scope.kind = .function) (hco : d.scope.isCoroutine = false) (hgen : d.scope.isGenerator = false)
    (body : ∀ (w : World) (s₀ s₁ s : Shared) (mg mb : Str → Option Value) (fa : Addr) (o : Obj) (pm cd doc : Value) (a : Addr) (vs : List Value) (ns : List Int),
      Ground q loose [] XP w s₀ mg mb s₁.heap → YP w s₁.heap →
      s₁.heap.get? fa = some o → o.data = .func (docDef d.name d.params d.body d.scope pm cd doc) → s₁.heap.CodeRec cd d.name → mg d.name = some (.ref fa) →
      s₁.heap.get? a = some { cls := .type "list", data := .seq vs.toArray } → IntsAre vs ns → ns.length ≤ n →
      s.gens = #[] → s.os = s₁.os →
      Fr s₁.heap s₁.heap.objs.size s.heap (bindL (envOfC d.name d.scope s₁.heap.objs.size fa cd).kindOf [(x, .ref a)] fun _ => none) →
      Cl s₁.heap.objs.size (cellsFrom (s₁.heap.objs.size + 1) d.scope.names []) s.heap (bindC (envOfC d.name d.scope s₁.heap.objs.size fa cd).kindOf [(x, .ref a)] fun _ => none) →
      wpAny (model l.prog w) (callerA.deeper (envOfC d.name d.scope s₁.heap.objs.size fa cd)) (execs d.body (envOfC d.name d.scope s₁.heap.objs.size fa cd))
        (fun f s' => f = .ret (.bool true) ∧ (∀ b o, s₁.heap.get? b = some o → s'.heap.get? b = some o) ∧ s'.os = s₁.os ∧ s'.gens = #[]) (fun _ _ => False) s) :
    WalkN q loose XP YP l.row.toRowW d [] (fun f vs => PySem.call f vs) := by
  intro w s₀ s₁ mg mb G Y fa o pm cd doc dV kV ho hd hcd hD hmg hg args vals as hpre hlay hrd hwl hlo
  obtain rfl : dV = .none := Dflts.none hD hdf
  obtain rfl : kV = .none := Dflts.noKw hD
  obtain ⟨a, vs, ns, rfl, rfl, hobj, hints, hlen⟩ := script_of hn hpre hwl
  refine enter_callW ?_
  refine call_cells_ret (o := o) (by rw [depth_caller]; decide) ho (fd_plain hd) G.T.nolimit hcd (hbind pm cd doc (.ref a)) (fun y hy => ?_) (fun h₁ tk F X => ?_) hco hgen hk
  · obtain rfl : y = (x, Value.ref a) := List.mem_singleton.mp hy
    rcases hx with e | e
    · exact .inl e
    · exact .inr ⟨e, cellsFrom_some _ _ _ (.inl e)⟩
  · refine wpAny_mono (body w s₀ s₁ { s₁ with heap := h₁, toks := tk } mg mb fa o pm cd doc a vs ns G Y ho (fd_plain hd) hcd hmg hobj hints hlen hg rfl F X) (fun f s' hq => ?_) (fun _ _ hq => hq)
    obtain ⟨rfl, h2, h3, h4⟩ := hq
    exact ⟨.inl ⟨.bool true, .bool true, [], rfl, fun _ => rfl, .bool true, post_true l _, fun _ => ⟨List.Pairwise.nil, fun _ hm => (nomatch hm)⟩⟩, h2, h3, h4⟩
section
variable {prog : Program} {w : World} {A : Around} {E : Value → Shared → Prop} {s : Shared} {K : Frag}
theorem call_fn {R : Result → Shared → Prop} {name qual : Str} {params : Arguments} {body : List Stmt} {scope : Scope} {dV kV doc pm cdv ct oc : Value} {an od : Option Addr} {osl : Array (Option Value)} {f : Addr} {args : Args} {binds : List (Str × Value)}
    (X : K.In s.heap) (hlim : s.heap.NoLimit) (ho : K.lookup f = some ⟨oc, od, .func (fnOf name qual params body scope dV kV doc pm an cdv ct), osl⟩) (hcd : codeIn K cdv qual = true) (hroom : A.depth < recursionLimit)
    (hbind : BindsTo s (fnOf name qual params body scope dV kV doc pm an cdv ct) args binds)
    (hkind : (binds.all fun y => scope.names.lookup y.1 == some .local || scope.names.lookup y.1 == some .cell) = true)
    (h : ∀ s₁, InCallC s s.heap.objs.size (bindL (envOfC qual scope s.heap.objs.size f cdv).kindOf binds fun _ => none) (cellsFrom (s.heap.objs.size + 1) scope.names [])
        (bindC (envOfC qual scope s.heap.objs.size f cdv).kindOf binds fun _ => none) s₁ →
      wpAny (model prog w) (A.deeper (envOfC qual scope s.heap.objs.size f cdv)) (execs body (envOfC qual scope s.heap.objs.size f cdv))
        (fun fl s' => R (.ok (.ret (match fl with | .ret v => v | _ => .none))) s')
        (fun e s' => wpAny (model prog w) (A.deeper (envOfC qual scope s.heap.objs.size f cdv)) (leaving (envOfC qual scope s.heap.objs.size f cdv) e) (fun _ s'' => R (.error e) s'') (fun e' s'' => R (.error e') s'') s') s₁)
    (hco : scope.isCoroutine = false) (hgen : scope.isGenerator = false) (hk : scope.kind = .function) : codeAny (model prog w) A (.call (.ref f) args) R s := by
  refine codeAny_call_function hroom (X _ _ ho) rfl hco hgen rfl (codeRec_of X hcd) (hbind _ _ _ _ ?_)
  refine wpAny_newFunctionEnv_cells hk (kindsX hkind _) fun env he s₁ x => ?_
  subst he
  exact ⟨hlim.keeps x.toInCall.keep, codeAny_func (h s₁ x)⟩
theorem make_obj {R : Result → Shared → Prop} {C fI : Addr} {rest : List Value} {kw : List (Str × Value)}
    (X : K.In s.heap) (hm : makesIn K C = true) (hi : findIn K (.ref C) "__init__" = some (some (.ref fI))) (hf : isFn K (.ref fI) = true)
    (h : codeAny (model prog w) (A.under (.builtin "type.__call__" ⟨.ref C :: rest, kw⟩)) (.call (.ref fI) ⟨.ref (s.heap.objs.size + 1) :: rest, kw⟩) (InitBack (s.heap.objs.size + 1) R)
      { s with heap := (s.heap.push emptyDict).push (instObj C s.heap.objs.size) }) : codeAny (model prog w) A (.call (.ref C) ⟨rest, kw⟩) R s := by
  obtain ⟨hh, g, d, t, os⟩ := s
  exact make_core (makes_of X hm) (looks_findIn X hi) (fun self => bind_fn X self (beq_iff_eq.mp hf)) (.inl rfl) h
theorem get_field {x C : Addr} {ox : Obj} {es : List DictEntry} {n : Nat} {name : Str} {expr : Bool} {v : Value} {Q : Value → Shared → Prop}
    (X : K.In s.heap) (I : PySem.W.InstAt s.heap x ox C (some (dictOf es n))) (hg : plainGet K C name = true) (hh : hasDictIn K C = true) (ha : findIn K (.ref C) name = some none)
    (hl : getL name es = some (some v)) (hv : handedIn v = true) (h : Q v { s with toks := s.toks + 1 }) : wpAny (model prog w) A (getAttr (.ref x) name expr) Q E s :=
  get_value X I (plainGet_of hg).1 (findObj_own hh ha rfl hl) hv h
theorem get_method {x C f : Addr} {ox : Obj} {es : List DictEntry} {n : Nat} {name : Str} {pl : Sem Bool} {Q : Value × List Value → Shared → Prop}
    (X : K.In s.heap) (I : PySem.W.InstAt s.heap x ox C (some (dictOf es n))) (hg : plainGet K C name = true) (hf : findIn K (.ref C) name = some (some (.ref f))) (ht : isFn K (.ref f) = true)
    (hl : getL name es = some none) (h : Q (.ref f, [.ref x]) s) : wpAny (model prog w) A (getMethod (.ref x) name pl) Q E s :=
  method_fn X I (plainGet_of hg).1 (plainGet_of hg).2 hf (beq_iff_eq.mp ht) (by show (lookIn name (dictOf es n)).map _ = _; rw [lookIn_dict, hl]; rfl) h
def noObjs (h : Heap) : Heap := { h with objs := #[] }
theorem noObjs_get (h : Heap) (b : Addr) : (noObjs h).get? b = none := by
  cases e : (noObjs h).get? b with
  | none => rfl
  | some o => exact absurd (Heap.lt_size e) (Nat.not_lt_zero _)
def ledger (h : Heap) (L d : Addr) : List (Addr × Obj) := (List.range h.objs.size).filterMap fun a => if a = L ∨ a = d then none else (h.get? a).map fun o => (a, o)
theorem mem_ledger {h : Heap} {L d a : Addr} {o : Obj} : (a, o) ∈ ledger h L d ↔ a ≠ L ∧ a ≠ d ∧ h.get? a = some o := by
  unfold ledger
  rw [List.mem_filterMap]
  constructor
  · rintro ⟨b, _, e⟩
    split at e
    · cases e
    · rename_i hb
      obtain ⟨o', ho, e'⟩ := Option.map_eq_some_iff.mp e
      cases e'
      exact ⟨fun q => hb (.inl q), fun q => hb (.inr q), ho⟩
  · rintro ⟨n1, n2, ho⟩
    refine ⟨a, List.mem_range.mpr (Heap.lt_size ho), ?_⟩
    rw [if_neg (show ¬ (a = L ∨ a = d) from fun q => q.elim n1 n2), ho] <;> rfl
theorem news_ledger {h : Heap} {L d : Addr} {od : Obj} (hne : d ≠ L) (ho : h.get? d = some od) : News (noObjs h) L h ([] ++ (d, od) :: ledger h L d) := by
  rintro ⟨a, o⟩ hp
  rcases List.mem_cons.mp hp with e | hp
  · cases e
    exact ⟨ho, hne, noObjs_get _ _⟩
  · obtain ⟨n1, n2, e⟩ := mem_ledger.mp hp
    exact ⟨e, n1, noObjs_get _ _⟩
theorem fr_all {h : Heap} {L : Addr} {m : Str → Option Value} (n : h.Ns L m) : Fr (noObjs h) L h m :=
  ⟨n, fun b o e => (by rw [noObjs_get] at e; cases e), Nat.zero_le _⟩
theorem upd_ledger {h : Heap} {L d : Addr} {o o' : Obj} : Upd d o o' ((d, o) :: ledger h L d) ((d, o') :: ledger h L d) :=
  .head fun ⟨_, _⟩ hp => (mem_ledger.mp hp).2.1
theorem set_field {x C dx L : Addr} {ox : Obj} {m : Str → Option Value} {es es' : List DictEntry} {n n' : Nat} {name : Str} {v : Value} {Q : Unit → Shared → Prop}
    (X : K.In s.heap) (I : PySem.W.InstAt s.heap x ox C (some (dictOf es n))) (hd : ox.dict = some dx) (hL : s.heap.Ns L m) (hne : dx ≠ L)
    (hs : findIn K (.ref C) "__setattr__" = some (some (.builtin "object.__setattr__"))) (hp : plainOver K C = true) (ht : takerIn K C name = some none) (hh : hasDictIn K C = true) (hl : (getL name es).isSome = true)
    (e : (putL name (PyData.keyHash w.params name) (.str name (s.toks + 1)) v es, putN name es n) = (es', n')) (hz : es'.length ≤ 1000)
    (h : ∀ h' : Heap, h'.Ns L m → h'.get? dx = some (dictOf es' n') → (∀ b o, b ≠ dx → b ≠ L → s.heap.get? b = some o → h'.get? b = some o) → Q () { s with heap := h', toks := s.toks + 2 }) :
    wpAny (model prog w) A (setAttr (.ref x) name v) Q E s := by
  obtain ⟨e1, e2⟩ := Prod.mk.inj e
  have hdx : s.heap.get? dx = some (dictOf es n) := by
    have := I.dict
    rw [hd] at this
    exact this
  refine set_plain X I hs (osa_dict (s := { s with toks := s.toks + 1 }) (h₀ := noObjs s.heap) (L := L) (m := m) (od := dictOf es n) (od' := dictOf es' n') (es := es') (n := n') (pre := []) (post := ledger s.heap L dx)
    (fr_all hL) (news_ledger hne hdx) X I hd hp ht hh hl (fun _ q => nomatch q) (fun ⟨_, _⟩ q => (mem_ledger.mp q).2.1) (by rw [putName_dict, e1, e2]) rfl hz fun h' F' N' => ?_)
  exact h h' F'.ns (N'.get (List.Mem.head _)) fun b o n1 n2 ho => N'.get (List.Mem.tail _ (mem_ledger.mpr ⟨n2, n1, ho⟩))
end
end Att
namespace L2
open PySem PySem.Spec PyProof.Rows
theorem vals_ints : ∀ {vs : List Value} {ns : List Int}, IntsAre vs ns → Vals (ns.map V.int) vs
  | _, _, .nil => .nil
  | _, _, .cons n t h => .cons ⟨t, rfl⟩ (vals_ints h)
def Only (H : Hp) : Prop := ∀ b, H b = none ∨ ∃ o xs, H b = some (.frz o (.lst xs))
theorem law_call {P : Program} {w : World} {K : PySem.W.Frag} {mg mb : Str → Option Value} {CX : CXT} {k : Nat} {fa a : Addr} {fd : FuncData} {x : Str} {sp : Sp} {s₁ : Shared} {vs : List Value} {ns : List Int}
    (KX : K.In s₁.heap) (hns : s₁.heap.Ns mainGlobals mg) (hb : s₁.heap.Ns builtinsNs mb) (hbb : ∀ x : Str, x ≠ "__name__" → mb x = bootBuiltins x) (hlim : s₁.heap.NoLimit) (hg : s₁.gens = #[])
    (ha : s₁.heap.get? a = some { cls := .type "list", data := .seq vs.toArray }) (hi : IntsAre vs ns) (hl : ns.length ≤ sizeLine) (hr : Room k callerA)
    (F : ∀ base : Heap, K.In base → base.Ns mainGlobals mg → FnOk P w K mg base CX k fa fd [x] sp) (hbind : ∀ (s : Shared) (u : Value), BindsTo s fd ⟨[u], []⟩ [(x, u)])
    (hsp : ∀ H : Hp, Only H → SqL K H a (ns.map V.int) → sp [.ref a] H (fun v _ => v = .bl true) fun _ _ _ => False)
    (hCX : ∀ H e s', CX [] H s₁ (fun _ _ _ => False) e s' → False) :
    codeAny (model P w) callerA (.call (.ref fa) ⟨[.ref a], []⟩) (fun r s' => r = .ok (.ret (.bool true)) ∧ OldK s₁.heap s'.heap ∧ s'.os = s₁.os ∧ AllBare s'.gens) s₁ := by
  have rv := vals_ints hi
  have lenV := hi.length
  have core : ∀ H : Hp, Only H → SqL K H a (ns.map V.int) → HOk P w H s₁.heap → (∀ b, H b ≠ none → b = a) → (H a ≠ none → K.lookup a = none) →
      codeAny (model P w) callerA (.call (.ref fa) ⟨[.ref a], []⟩) (fun r s' => r = .ok (.ret (.bool true)) ∧ OldK s₁.heap s'.heap ∧ s'.os = s₁.os ∧ AllBare s'.gens) s₁ := by
    intro H hO hS hok hA hK
    have base_of : ∀ {b : Addr} {o : Obj}, s₁.heap.get? b = some o → H b = none → (hidT s₁.heap H).get? b = some o := fun e n => hidT_get e n
    have noA : ∀ {b : Addr} {o : Obj} {es : Array DictEntry} {ep : Nat}, s₁.heap.get? b = some o → o.data = .dict es ep → H b = none := fun {b o es ep} e d => by
      cases q : H b with
      | none => rfl
      | some u =>
        have e' : b = a := hA b (by rw [q]; simp)
        subst e'
        rw [ha] at e; cases e
        have d' : Data.seq vs.toArray _ = Data.dict es ep := d
        cases d'
    have nsK : ∀ {b : Addr} {m : Str → Option Value}, s₁.heap.Ns b m → (hidT s₁.heap H).Ns b m := fun {b m} ⟨o, es, ep, e, d, r⟩ => ⟨o, es, ep, base_of e (noA e d), d, r⟩
    have hKb : K.In (hidT s₁.heap H) := fun b o e => base_of (KX b o e) (by
      cases q : H b with
      | none => rfl
      | some u =>
        have e' : b = a := hA b (by rw [q]; simp)
        subst e'
        rw [hK (by rw [q]; simp)] at e; cases e)
    have hM : Mod K mg (hidT s₁.heap H) := ⟨hKb, nsK hns, ⟨mb, nsK hb, hbb⟩, let ⟨mc, h1, h2⟩ := hlim; ⟨mc, nsK h1, h2⟩⟩
    have e0 : Env0 P w K mg (hidT s₁.heap H) callerA [] s₁ H := ⟨rfl, hM, fun b o e => of_hidT e, Nat.le_of_eq (hidT_size _ _), trivial, fun b hb => absurd (show b ∈ ([] : List Addr) from hb) (by simp), hok, .of_eq hg⟩
    refine codeAny_mono ((F _ hKb (nsK hns)).run callerA [] s₁ H ⟨[.ref a], []⟩ [.ref a] [.ref a] _ _ hr e0 (hbind s₁ (.ref a)) (.cons rfl .nil) (hsp H hO hS)) fun r s' h => ?_
    cases r with
    | error e => exact (hCX H e s' h).elim
    | ok fl =>
      cases fl with
      | next => exact False.elim h
      | brk => exact False.elim h
      | cont => exact False.elim h
      | ret u =>
        obtain ⟨v, H', os, bare, un, hok', r', q⟩ := h
        have q' : v = .bl true := q
        subst q'
        obtain rfl : u = Value.bool true := r'
        refine ⟨rfl, OldK.of_keep fun b o e => ?_, os, bare⟩
        cases q : H b with
        | none => exact un.keep b o e q (by intro z; exact absurd (show b ∈ ([] : List Addr) from z) (by simp)) (by simp)
        | some u =>
          rcases hO b with z | ⟨ob, xs, z⟩
          · rw [q] at z; cases z
          · have z2 := un.frzs b ob _ z
            obtain ⟨e1, _⟩ := hok b _ z
            obtain ⟨e2, _⟩ := hok' b _ z2
            rw [e] at e1; cases e1
            exact e2
  cases hk : K.lookup a with
  | some o =>
    have e := KX a o hk
    rw [ha] at e
    cases e
    refine core (fun _ => none) (fun _ => .inl rfl) (.inr ⟨_, vs.toArray, _, hk, rfl, rfl, rfl, by rw [List.size_toArray, lenV]; exact hl, by simpa using rv⟩) (fun b u z => by have z' : (none : Option HO) = some u := z; cases z') (fun b z => absurd rfl z) fun z => absurd rfl z
  | none =>
    refine core (fun b => if b = a then some (.frz { cls := .type "list", data := .seq vs.toArray } (.lst (ns.map V.int))) else none) (fun b => ?_) (.inl (.inr ⟨{ cls := .type "list", data := .seq vs.toArray }, if_pos rfl⟩)) (fun b u z => ?_) (fun b z => ?_) fun _ => hk
    · by_cases hb : b = a
      · exact .inr ⟨_, _, if_pos hb⟩
      · exact .inl (if_neg hb)
    · by_cases hb : b = a
      · have z' := (if_pos hb).symm.trans z
        cases z'
        subst hb
        exact ⟨ha, by rw [List.length_map]; exact hl, vs, _, rv, ha⟩
      · have z' := (if_neg hb).symm.trans z
        cases z'
    · by_cases hb : b = a
      · exact hb
      · exact absurd (if_neg hb) z
end L2
namespace L2
open PySem PySem.Spec PyProof.Rows
abbrev KOf {K : PySem.W.Frag} {h : Heap} (_ : K.In h) : PySem.W.Frag := K
theorem walk_of {l : PySem.W.OpenLaw} {n k : Nat} {q : Program} {loose : List Str} {XP : (Str → Option Value) → Heap → Prop} {YP : World → Heap → Prop} {d : DefRec} {K : Params → PySem.W.Frag} {CX : World → CXT} {sp : World → Sp} {x : Str}
    (hn : l.most = some n) (hn2 : n ≤ sizeLine) (hdf : d.params.defaults = []) (hr : Room k callerA)
    (hY : ∀ (w : World) (h : Heap), YP w h → (K w.params).In h)
    (F : ∀ (w : World) (mg : Str → Option Value) (fa : Addr) (h : Heap), (K w.params).In h → h.Ns mainGlobals mg → mg d.name = some (.ref fa) →
      ∃ fd : FuncData, (∀ (s : Shared) (u : Value), BindsTo s fd ⟨[u], []⟩ [(x, u)]) ∧
        ∀ base : Heap, (K w.params).In base → base.Ns mainGlobals mg → FnOk l.prog w (K w.params) mg base (CX w) k fa fd [x] (sp w))
    (hsp : ∀ (w : World) (H : Hp) (a : Addr) (ns : List Int), ns.length ≤ n → Only H → SqL (K w.params) H a (ns.map V.int) → sp w [.ref a] H (fun v _ => v = .bl true) fun _ _ _ => False)
    (hCX : ∀ (w : World) (H : Hp) (s : Shared) (e : Value) (s' : Shared), CX w [] H s (fun _ _ _ => False) e s' → False) :
    PySem.W.WalkO q loose XP YP l.row.toRowW d [] (fun f vs => PySem.call f vs) := by
  refine Att.attach_call hn hdf fun w s₀ s₁ mg mb fa o pm cd doc a vs ns G Y ho hd hcd hmg hobj hints hlen hg => ?_
  have KX := hY w _ Y
  obtain ⟨fd, hb, hF⟩ := F w mg fa _ KX G.T.g hmg
  exact law_call KX G.T.g G.T.b G.T.builtins G.T.nolimit hg hobj hints (Nat.le_trans hlen hn2) hr hF hb (fun H hO hS => hsp w H a ns hlen hO hS) fun H e s' => hCX w H s₁ e s'
theorem walk_ofK {l : PySem.W.OpenLaw} {n k : Nat} {q : Program} {loose : List Str} {XP : (Str → Option Value) → Heap → Prop} {YP : World → Heap → Prop} {d : DefRec} {K : Params → PySem.W.Frag} {CX : CXT} {sp : PySem.W.Frag → Sp} {x : Str}
    (hn : l.most = some n) (hn2 : n ≤ sizeLine) (hdf : d.params.defaults = []) (hr : Room k callerA)
    (hY : ∀ (w : World) (h : Heap), YP w h → (K w.params).In h)
    (F : ∀ (w : World) (mg : Str → Option Value) (fa : Addr) (h : Heap), (K w.params).In h → h.Ns mainGlobals mg → mg d.name = some (.ref fa) →
      ∃ fd : FuncData, (∀ (s : Shared) (u : Value), BindsTo s fd ⟨[u], []⟩ [(x, u)]) ∧
        ∀ base : Heap, (K w.params).In base → base.Ns mainGlobals mg → FnOk l.prog w (K w.params) mg base CX k fa fd [x] (sp (K w.params)))
    (hsp : ∀ (K : PySem.W.Frag) (H : Hp) (a : Addr) (ns : List Int), ns.length ≤ n → Only H → SqL K H a (ns.map V.int) → sp K [.ref a] H (fun v _ => v = .bl true) fun _ _ _ => False)
    (hCX : ∀ (H : Hp) (s : Shared) (e : Value) (s' : Shared), CX [] H s (fun _ _ _ => False) e s' → False) :
    PySem.W.WalkO q loose XP YP l.row.toRowW d [] (fun f vs => PySem.call f vs) :=
  walk_of (K := K) (CX := fun _ => CX) (sp := fun w => sp (K w.params)) hn hn2 hdf hr hY F (fun w H a ns h1 h2 h3 => hsp (K w.params) H a ns h1 h2 h3) fun _ H s e s' => hCX H s e s'
end L2
namespace L2
open PySem PySem.Spec PyProof.Rows
def inClass (s : Stmt) (j : Nat) : Stmt := match s with
  | .ClassDef _ _ _ body _ _ _ _ _ _ _ => body.getD j (.Pass ⟨0, 0, 0, 0⟩)
  | _ => .Pass ⟨0, 0, 0, 0⟩
def defArgs (s : Stmt) : Arguments := match s with
  | .FunctionDef _ a _ _ _ _ _ _ _ _ => a
  | _ => { posonlyargs := [], args := [], vararg := none, kwonlyargs := [], kw_defaults := [], kwarg := none, defaults := [] }
def defBody (s : Stmt) : List Stmt := match s with
  | .FunctionDef _ _ b _ _ _ _ _ _ _ => b
  | _ => []
def defScope (s : Stmt) : Scope := match s with
  | .FunctionDef _ _ _ _ _ _ sc _ _ _ => sc
  | _ => { kind := .function, names := [], isGenerator := false, isCoroutine := false }
abbrev CX0 : CXT := fun _ _ _ _ _ _ => False
abbrev E0 : XK := fun _ _ _ => False
theorem pass0 {X : Cx} : Passes CX0 X E0 := fun _ _ _ _ _ _ _ h => h.elim
structure Fun (K : PySem.W.Frag) (x qual : Str) (st : Stmt) (f : Addr) (fd : FuncData) : Prop where
  ex : ∃ (oc : Value) (od : Option Addr) (kV doc pm : Value) (an : Option Addr) (cdv ct : Value) (osl : Array (Option Value)),
    fd = PySem.W.fnOf x qual (defArgs st) (defBody st) (defScope st) .none kV doc pm an cdv ct ∧ K.lookup f = some ⟨oc, od, .func fd, osl⟩ ∧ PySem.W.codeIn K cdv qual = true
  kp : PySem.W.keepIn K (.ref f) = true
section
variable {P : Program} {w : World} {K : PySem.W.Frag} {mg : Str → Option Value} {base : Heap}
theorem Fun.ok {x qual : Str} {st : Stmt} {f : Addr} {fd : FuncData} {N ps : List Str} {k : Nat} {sp : Sp} (F : Fun K x qual st f fd) (S : FnScope N ps (defScope st)) (len : ∀ vs H Q E, sp vs H Q E → vs.length = ps.length)
    (hbody : ∀ (cdv : Value) (A : Around) (outer : List Env) (s : Shared) (H : Hp) (vs : List V) (Q : VK) (E : XK), Room k (A.deeper (envOfC qual (defScope st) s.heap.objs.size f cdv)) → sp vs H Q E →
      ∃ t, PSs (cxOf CX0 P w K mg base N qual (defScope st) f cdv A outer s H E).nox (defBody st) t ∧ t { nx := fun _ H' => Q .non H', rt := Q } (start N vs) H) : FnOk P w K mg base CX0 (k + 1) f fd ps sp := by
  obtain ⟨oc, od, kV, doc, pm, an, cdv, ct, osl, rfl, lk, hcd⟩ := F.ex
  refine fn_of lk hcd S len fun A outer s H vs Q E hr hsp => ?_
  obtain ⟨t, h, q⟩ := hbody cdv A outer s H vs Q E hr hsp
  exact ⟨t, h.nox, q⟩
theorem Fun.binds {x qual : Str} {st : Stmt} {f : Addr} {fd : FuncData} {ps : List Str} (F : Fun K x qual st f fd)
    (h : ∀ (kV doc pm : Value) (an : Option Addr) (cdv ct : Value) (us : List Value), us.length = ps.length → bindArgs (PySem.W.fnOf x qual (defArgs st) (defBody st) (defScope st) .none kV doc pm an cdv ct) ⟨us, []⟩ = pure (ps.zip us)) : Binds K fd ps [] := by
  obtain ⟨oc, od, kV, doc, pm, an, cdv, ct, osl, rfl, lk, hcd⟩ := F.ex
  exact .all (h kV doc pm an cdv ct)
theorem fun_mk {x qual : Str} {st : Stmt} {f : Addr} {oc : Value} {od an : Option Addr} {osl : Array (Option Value)} {kV doc pm cdv ct : Value} (l : K.lookup f = some ⟨oc, od, .func (PySem.W.fnOf x qual (defArgs st) (defBody st) (defScope st) .none kV doc pm an cdv ct), osl⟩)
    (c : PySem.W.codeIn K cdv qual = true) (k : PySem.W.keepIn K (.ref f) = true) : Fun K x qual st f (PySem.W.fnOf x qual (defArgs st) (defBody st) (defScope st) .none kV doc pm an cdv ct) := ⟨⟨oc, od, kV, doc, pm, an, cdv, ct, osl, rfl, l, c⟩, k⟩
end
theorem hu_of {A : Around} {k : Nat} (hr : Room k A) : A.units + 1 < cLine := Nat.lt_of_le_of_lt (Nat.add_le_add_left (by decide : 1 ≤ 64) _) hr.units
theorem small1000 {n : Nat} (h : n ≤ 1000) : n < sizeLine := Nat.lt_of_le_of_lt h (by decide)
section
variable {X : Cx}
theorem pv (i : Nat) {x : Str} {pos : Pos} (hN : X.N[i]? = some x := by rfl) (hv : Vis X.env.scope x := by first | exact Or.inl rfl | exact Or.inr (Or.inl rfl) | exact Or.inr (Or.inr rfl)) (hd : (x == ("__debug__" : Str)) = false := by decide)
    (hcd : (x == ("__classdict__" : Str)) = false := by decide) : PE X (.Name x pos) (tVar i) := pe_var hN hv hd hcd
end
theorem iteF {A B : Prop} (h : B) : if false = true then A else B := by
  rw [if_neg Bool.false_ne_true]
  exact h
theorem iteT {A B : Prop} (h : A) : if true = true then A else B := by
  rw [if_pos rfl]
  exact h
theorem ite2 {c A B : Prop} [Decidable c] (h1 : c → A) (h2 : ¬ c → B) : if c then A else B := by
  by_cases h : c
  · rw [if_pos h]
    exact h1 h
  · rw [if_neg h]
    exact h2 h
theorem iteNS {c A B : Prop} [Decidable c] (hc : c) (h : B) : if (!decide c) = true then A else B := by
  rw [decide_eq_true hc]
  exact iteF h
def Same (H H' : Hp) : Prop := ∀ b o, H b = some o → H' b = some o
theorem Same.refl (H : Hp) : Same H H := fun _ _ h => h
theorem Same.trans {H H1 H2 : Hp} (a : Same H H1) (b : Same H1 H2) : Same H H2 := fun c o h => b c o (a c o h)
theorem Same.free {H H' : Hp} (e : Same H H') {l : Addr} (h : H' l = Option.none) : H l = Option.none := by
  cases q : H l with
  | none => rfl
  | some o =>
    rw [e l o q] at h
    cases h
theorem Same.seq {K : PySem.W.Frag} {H H' : Hp} {a : Addr} {xs : List V} (e : Same H H') (h : SqL K H a xs) : SqL K H' a xs := by
  rcases h with (h | ⟨o, h⟩) | h
  · exact .inl (.inl (e _ _ h))
  · exact .inl (.inr ⟨o, e _ _ h⟩)
  · exact .inr h
end L2

set_option Elab.async false
set_option linter.all false
set_option maxRecDepth 100000
set_option maxHeartbeats 4000000
namespace L2
open PySem PySem.Spec PyProof.Rows
section
variable {κ : Type} [DecidableEq κ]
def valV (kvs : List (κ × V)) (k : κ) : Option V := (kvs.find? fun kv => decide (kv.1 = k)).map (·.2)
def putK (kvs : List (κ × V)) (k : κ) (v : V) : List (κ × V) :=
  if (kvs.any fun kv => decide (kv.1 = k)) = true then kvs.map (fun kv => if kv.1 = k then (kv.1, v) else kv) else kvs ++ [(k, v)]
def dropK (kvs : List (κ × V)) (k : κ) : List (κ × V) := kvs.filter fun kv => decide (kv.1 ≠ k)
theorem valV_nil {k : κ} : valV ([] : List (κ × V)) k = none := rfl
theorem valV_pos {p : κ × V} {r : List (κ × V)} {k : κ} (e : p.1 = k) : valV (p :: r) k = some p.2 := by simp [valV, List.find?_cons, e]
theorem valV_neg {p : κ × V} {r : List (κ × V)} {k : κ} (e : ¬ p.1 = k) : valV (p :: r) k = valV r k := by simp [valV, List.find?_cons, e]
theorem valV_any (k : κ) : ∀ kvs : List (κ × V), (kvs.any fun kv => decide (kv.1 = k)) = (valV kvs k).isSome
  | [] => rfl
  | p :: r => by
    rw [List.any_cons]
    by_cases e : p.1 = k
    · simp only [valV_pos e, decide_eq_true e, Bool.true_or, Option.isSome_some]
    · rw [valV_neg e, decide_eq_false e, Bool.false_or]; exact valV_any k r
theorem valV_map (k j : κ) (y : V) : ∀ kvs : List (κ × V), valV (kvs.map fun kv => if kv.1 = k then (kv.1, y) else kv) j = (valV kvs j).map fun x => if j = k then y else x
  | [] => rfl
  | p :: r => by
    have ih := valV_map k j y r
    rw [List.map_cons]
    by_cases h : p.1 = k
    · rw [if_pos h]
      by_cases e : p.1 = j
      · rw [valV_pos (p := (p.1, y)) e, valV_pos e, Option.map_some, if_pos (e.symm.trans h)]
      · rw [valV_neg (p := (p.1, y)) e, valV_neg e, ih]
    · rw [if_neg h]
      by_cases e : p.1 = j
      · rw [valV_pos (p := p) e, valV_pos e, Option.map_some, if_neg (fun z => h (e.trans z))]
      · rw [valV_neg (p := p) e, valV_neg e, ih]
theorem valV_snoc (k j : κ) (y : V) : ∀ kvs : List (κ × V), valV kvs k = none → valV (kvs ++ [(k, y)]) j = if j = k then some y else valV kvs j
  | [], _ => by
    by_cases e : k = j
    · rw [if_pos e.symm]; exact valV_pos (p := (k, y)) e
    · rw [if_neg (fun z => e z.symm)]; exact valV_neg (p := (k, y)) e
  | p :: r, hn => by
    rw [List.cons_append]
    have hk : ¬ p.1 = k := fun z => by rw [valV_pos z] at hn; cases hn
    rw [valV_neg hk] at hn
    have ih := valV_snoc k j y r hn
    by_cases e : p.1 = j
    · rw [valV_pos e, valV_pos e, if_neg (fun z => hk (e.trans z))]
    · rw [valV_neg e, valV_neg e, ih]
theorem valV_put (kvs : List (κ × V)) (k j : κ) (y : V) : valV (putK kvs k y) j = if j = k then some y else valV kvs j := by
  unfold putK
  by_cases a : (kvs.any fun kv => decide (kv.1 = k)) = true
  · rw [if_pos a, valV_map]
    rw [valV_any] at a
    by_cases e : j = k
    · obtain ⟨x, hx⟩ := Option.isSome_iff_exists.mp a
      rw [if_pos e, e, hx, Option.map_some, if_pos rfl]
    · rw [if_neg e]
      cases valV kvs j with
      | none => rfl
      | some x => rw [Option.map_some, if_neg e]
  · rw [if_neg a]
    refine valV_snoc k j y kvs ?_
    rw [valV_any] at a
    cases q : valV kvs k with
    | none => rfl
    | some x => rw [q] at a; exact (a rfl).elim
theorem length_putK (kvs : List (κ × V)) (k : κ) (v : V) : (putK kvs k v).length ≤ kvs.length + 1 := by
  unfold putK
  split
  · rw [List.length_map]; omega
  · rw [List.length_append, List.length_cons, List.length_nil]; omega
theorem putK_new {kvs : List (κ × V)} {k : κ} (v : V) (h : valV kvs k = none) : putK kvs k v = kvs ++ [(k, v)] := by
  unfold putK
  rw [valV_any, h]
  exact if_neg (by decide)
theorem RelO.isSome_eq {o : Option V} {u : Option Value} (r : RelO o u) : o.isSome = u.isSome := by
  cases o with
  | none => cases u with
    | none => rfl
    | some _ => exact (show False from r).elim
  | some _ => cases u with
    | none => exact (show False from r).elim
    | some _ => rfl
theorem RelO.getD {o : Option V} {u : Option Value} {d : V} {d' : Value} (r : RelO o u) (rd : RelV d d') : RelV (o.getD d) (u.getD d') := by
  cases o with
  | none => cases u with
    | none => exact rd
    | some _ => exact (show False from r).elim
  | some _ => cases u with
    | none => exact (show False from r).elim
    | some _ => exact r
theorem KV.val {kvs : List (κ × V)} {vs : List (κ × Value)} (r : KV kvs vs) (k : κ) : RelO (valV kvs k) (valueAt vs k) := by
  unfold KV at r
  induction r with
  | nil => exact True.intro
  | @cons p q ps qs h t ih =>
    obtain ⟨h1, h2⟩ := h
    by_cases e : p.1 = k
    · have e' : q.1 = k := h1.symm.trans e
      have b : valueAt (q :: qs) k = some q.2 := by simp [valueAt, List.find?_cons, e']
      rw [valV_pos e, b]; exact h2
    · have e' : ¬ q.1 = k := fun z => e (h1.trans z)
      have b : valueAt (q :: qs) k = valueAt qs k := by simp [valueAt, List.find?_cons, e']
      rw [valV_neg e, b]; exact ih
theorem KV.any {kvs : List (κ × V)} {vs : List (κ × Value)} (r : KV kvs vs) (k : κ) : (kvs.any fun kv => decide (kv.1 = k)) = vs.any fun kv => decide (kv.1 = k) := by
  unfold KV at r
  induction r with
  | nil => rfl
  | cons h t ih => rw [List.any_cons, List.any_cons, ih, h.1]
theorem KV.repl {kvs : List (κ × V)} {vs : List (κ × Value)} (r : KV kvs vs) (k : κ) {y : V} {u : Value} (ry : RelV y u) :
    KV (kvs.map fun kv => if kv.1 = k then (kv.1, y) else kv) (vs.map fun kv => if kv.1 = k then (kv.1, u) else kv) := by
  unfold KV at r ⊢
  induction r with
  | nil => exact .nil
  | @cons p q ps qs h t ih =>
    rw [List.map_cons, List.map_cons]
    refine .cons ?_ ih
    obtain ⟨h1, h2⟩ := h
    by_cases e : p.1 = k
    · rw [if_pos e, if_pos (h1.symm.trans e)]; exact ⟨h1, ry⟩
    · rw [if_neg e, if_neg (fun z => e (h1.trans z))]; exact ⟨h1, h2⟩
theorem KV.put {kvs : List (κ × V)} {vs : List (κ × Value)} (r : KV kvs vs) (k : κ) {y : V} {u : Value} (ry : RelV y u) : KV (putK kvs k y) (stored vs k u) := by
  unfold putK stored
  rw [r.any k]
  by_cases e : (vs.any fun kv => decide (kv.1 = k)) = true
  · rw [if_pos e, if_pos e]; exact r.repl k ry
  · rw [if_neg e, if_neg e]; exact Paired.snoc r ⟨rfl, ry⟩
theorem KV.drop {kvs : List (κ × V)} {vs : List (κ × Value)} (r : KV kvs vs) (k : κ) : KV (dropK kvs k) (without vs k) := by
  unfold KV at r ⊢
  unfold dropK without
  induction r with
  | nil => exact .nil
  | @cons p q ps qs h t ih =>
    obtain ⟨h1, h2⟩ := h
    rw [List.filter_cons, List.filter_cons]
    by_cases e : p.1 = k
    · have a : ¬ decide (p.1 ≠ k) = true := by simp [e]
      have b : ¬ decide (q.1 ≠ k) = true := by simp [h1.symm.trans e]
      rw [if_neg a, if_neg b]; exact ih
    · have e' : ¬ q.1 = k := fun z => e (h1.trans z)
      have a : decide (p.1 ≠ k) = true := by simp [e]
      have b : decide (q.1 ≠ k) = true := by simp [e']
      rw [if_pos a, if_pos b]; exact .cons ⟨h1, h2⟩ ih
theorem KV.keys {kvs : List (κ × V)} {vs : List (κ × Value)} (r : KV kvs vs) : kvs.map (·.1) = vs.map (·.1) := by
  unfold KV at r
  induction r with
  | nil => rfl
  | cons h t ih => rw [List.map_cons, List.map_cons, ih, h.1]
theorem KV.length {kvs : List (κ × V)} {vs : List (κ × Value)} (r : KV kvs vs) : kvs.length = vs.length := Paired.length r
theorem dropK_le (kvs : List (κ × V)) (k : κ) : (dropK kvs k).length ≤ kvs.length := List.length_filter_le _ _
end
theorem kV_is {P : Program} {w : World} {k : Key} {u : Value} (r : RelV (kV k) u) : (mixKind P w).is k u = true := by
  cases k with
  | inl i => obtain ⟨t, e⟩ := (show ∃ t, u = Value.int i t from r); subst e; exact mixKind_int P w i t
  | inr x => obtain ⟨t, e⟩ := (show ∃ t, u = Value.str x t from r); subst e; exact mixKind_str P w x t
theorem kV_inj {a b : Key} (e : kV a = kV b) : a = b := by
  cases a with
  | inl i => cases b with
    | inl j => have e' : V.int i = V.int j := e; injection e' with e'; rw [e']
    | inr y => exact nomatch (show V.int i = V.str y from e)
  | inr x => cases b with
    | inl j => exact nomatch (show V.str x = V.int j from e)
    | inr y => have e' : V.str x = V.str y := e; injection e' with e'; rw [e']
theorem kVs_inj : ∀ {a b : List Key}, a.map kV = b.map kV → a = b
  | [], [], _ => rfl
  | [], _ :: _, e => by simp at e
  | _ :: _, [], e => by simp at e
  | x :: xs, y :: ys, e => by
    rw [List.map_cons, List.map_cons] at e
    injection e with e1 e2
    rw [kV_inj e1, kVs_inj e2]
theorem items_are {P : Program} {w : World} : ∀ {ks : List Key} {us : List Value}, Vals (ks.map kV) us → ItemsAre (mixKind P w) ks us
  | [], _, r => by rw [List.map_nil] at r; cases r; exact .nil
  | k :: ks, _, r => by
    rw [List.map_cons] at r
    cases r with
    | cons h t => exact .cons (kV_is h) (items_are t)
abbrev KT (H : Hp) : List (List Key × V) → List (List Key × Addr × Value) → Prop := Paired fun p q => p.1 = q.1 ∧ H q.2.1 = some (.tup (p.1.map kV)) ∧ RelV p.2 q.2.2
theorem KT.val {H : Hp} {kvs : List (List Key × V)} {xs : List (List Key × Addr × Value)} (r : KT H kvs xs) (k : List Key) : RelO (valV kvs k) ((atKey xs k).map (·.2)) := by
  induction r with
  | nil => exact True.intro
  | @cons p q ps qs h t ih =>
    obtain ⟨h1, _, h2⟩ := h
    by_cases e : p.1 = k
    · have e' : q.1 = k := h1.symm.trans e
      have b : atKey (q :: qs) k = some q.2 := by simp [atKey, List.find?_cons, e']
      rw [valV_pos e, b]; exact h2
    · have e' : ¬ q.1 = k := fun z => e (h1.trans z)
      have b : atKey (q :: qs) k = atKey qs k := by simp [atKey, List.find?_cons, e']
      rw [valV_neg e, b]; exact ih
theorem KT.repl {H : Hp} {kvs : List (List Key × V)} {xs : List (List Key × Addr × Value)} (r : KT H kvs xs) (k : List Key) {y : V} {u : Value} (ry : RelV y u) :
    KT H (kvs.map fun kv => if kv.1 = k then (kv.1, y) else kv) (xs.map (putAt k u)) := by
  induction r with
  | nil => exact .nil
  | @cons p q ps qs h t ih =>
    rw [List.map_cons, List.map_cons]
    refine .cons ?_ ih
    obtain ⟨h1, h2, h3⟩ := h
    unfold putAt
    by_cases e : p.1 = k
    · rw [if_pos e, if_pos (h1.symm.trans e)]; exact ⟨h1, h2, ry⟩
    · rw [if_neg e, if_neg (fun z => e (h1.trans z))]; exact ⟨h1, h2, h3⟩
theorem KT.put {H : Hp} {kvs : List (List Key × V)} {xs : List (List Key × Addr × Value)} (r : KT H kvs xs) (k : List Key) {b : Addr} {y : V} {u : Value} (hb : H b = some (.tup (k.map kV))) (ry : RelV y u) :
    KT H (putK kvs k y) (storedH xs k b u) := by
  have e : (kvs.any fun kv => decide (kv.1 = k)) = (atKey xs k).isSome := by
    rw [valV_any, (r.val k).isSome_eq, Option.isSome_map]
  unfold putK storedH
  rw [e]
  by_cases q : (atKey xs k).isSome = true
  · rw [if_pos q, if_pos q]; exact r.repl k ry
  · rw [if_neg q, if_neg q]; exact Paired.snoc r ⟨rfl, hb, ry⟩
theorem KT.keeps {H H' : Hp} {kvs : List (List Key × V)} {xs : List (List Key × Addr × Value)} (r : KT H kvs xs) (ht : ∀ b ys, H b = some (.tup ys) → H' b = some (.tup ys)) : KT H' kvs xs :=
  Paired.mapP r fun _ _ z => ⟨z.1, ht _ _ z.2.1, z.2.2⟩
section
variable {P : Program} {w : World} {H : Hp} {h : Heap} {a : Addr}
theorem rd_of {u : HO} (ok : HOk P w H h) (e : Rd H a u) : ObjOk P w H h a u := e.ok ok
theorem dk_rd {kvs : List (Key × V)} (ok : HOk P w H h) (e : Rd H a (.dK kvs)) : kvs.length ≤ sizeLine ∧ (a == sysModules) = false ∧ ∃ vs, KV kvs vs ∧ h.DictOf (mixKind P w) a vs :=
  show ObjOk P w H h a (.dK kvs) from rd_of ok e
theorem dk_of {kvs : List (Key × V)} (ok : HOk P w H h) (e : H a = some (.dK kvs)) : kvs.length ≤ sizeLine ∧ (a == sysModules) = false ∧ ∃ vs, KV kvs vs ∧ h.DictOf (mixKind P w) a vs := dk_rd ok (.inl e)
theorem key_of {ks : List Key} (ok : HOk P w H h) (e : H a = some (.tup (ks.map kV))) : (tupleKind (mixKind P w)).is h ks a := by
  obtain ⟨_, its, r, o, h1, h2, n, h3⟩ := (show ObjOk P w H h a (.tup (ks.map kV)) from ok a _ e)
  exact ⟨o, its.toArray, n, h1, h2, h3, by simpa using items_are r⟩
theorem dt_rd {kvs : List (List Key × V)} (ok : HOk P w H h) (e : Rd H a (.dT kvs)) : kvs.length ≤ sizeLine ∧ (a == sysModules) = false ∧
    ∃ xs, KT H kvs xs ∧ h.DictOfH (tupleKind (mixKind P w)) a xs := by
  obtain ⟨z, y, xs, r, o, es, ep, h1, h2, h3, h4, h5⟩ := (show ObjOk P w H h a (.dT kvs) from rd_of ok e)
  refine ⟨z, y, xs, r, o, es, ep, h1, h2, h3, h4, fun x hx => ?_, h5⟩
  have all : ∀ {l : List (List Key × V)} {m : List (List Key × Addr × Value)}, KT H l m → ∀ x ∈ m, (tupleKind (mixKind P w)).is h x.1 x.2.1 := by
    intro l m q
    induction q with
    | nil => intro x hx; exact nomatch hx
    | @cons p q ps qs hq t ih =>
      intro x hx
      rcases List.mem_cons.mp hx with e | hx
      · subst e
        exact key_of ok (by rw [← hq.1]; exact hq.2.1)
      · exact ih x hx
  exact all r x hx
theorem dt_of {kvs : List (List Key × V)} (ok : HOk P w H h) (e : H a = some (.dT kvs)) : kvs.length ≤ sizeLine ∧ (a == sysModules) = false ∧
    ∃ xs, KT H kvs xs ∧ h.DictOfH (tupleKind (mixKind P w)) a xs := dt_rd ok (.inl e)
end
def DGet (H : Hp) (a : Addr) (y : V) (r : Option V) : Prop :=
  (∃ kvs k, Rd H a (.dK kvs) ∧ y = kV k ∧ r = valV kvs k) ∨ ∃ kvs k b, Rd H a (.dT kvs) ∧ y = .ref b ∧ H b = some (.tup (k.map kV)) ∧ r = valV kvs k
def DPut (H : Hp) (a : Addr) (y v : V) (H' : Hp) : Prop :=
  (∃ kvs k, H a = some (.dK kvs) ∧ y = kV k ∧ kvs.length < sizeLine ∧ H' = upd H a (.dK (putK kvs k v))) ∨
  ∃ kvs k b, H a = some (.dT kvs) ∧ y = .ref b ∧ H b = some (.tup (k.map kV)) ∧ kvs.length < sizeLine ∧ H' = upd H a (.dT (putK kvs k v))
theorem DGet.k {H : Hp} {a : Addr} {kvs : List (Key × V)} {k : Key} (e : H a = some (.dK kvs)) : DGet H a (kV k) (valV kvs k) := .inl ⟨kvs, k, .inl e, rfl, rfl⟩
theorem DGet.t {H : Hp} {a b : Addr} {kvs : List (List Key × V)} {k : List Key} (e : H a = some (.dT kvs)) (eb : H b = some (.tup (k.map kV))) : DGet H a (.ref b) (valV kvs k) := .inr ⟨kvs, k, b, .inl e, rfl, eb, rfl⟩
theorem DPut.k {H : Hp} {a : Addr} {kvs : List (Key × V)} {k : Key} {v : V} (e : H a = some (.dK kvs)) (hl : kvs.length < sizeLine) : DPut H a (kV k) v (upd H a (.dK (putK kvs k v))) := .inl ⟨kvs, k, e, rfl, hl, rfl⟩
theorem DPut.t {H : Hp} {a b : Addr} {kvs : List (List Key × V)} {k : List Key} {v : V} (e : H a = some (.dT kvs)) (eb : H b = some (.tup (k.map kV))) (hl : kvs.length < sizeLine) :
    DPut H a (.ref b) v (upd H a (.dT (putK kvs k v))) := .inr ⟨kvs, k, b, e, rfl, eb, hl, rfl⟩
section
variable {X : Cx} {pins : List (Addr × Obj)} {σ : St} {H : Hp} {s : Shared} {a : Addr} {y v : V} {u r : Value} {o : Option V} {A : Around} {E : Value → Shared → Prop}
theorem Inv.big (I : Inv X pins σ H s) : sysModules < s.heap.objs.size := by
  have h : mainGlobals < s.heap.objs.size := (I.mod.glob.keeps I.bk).lt
  exact Nat.lt_trans (by decide) h
theorem d_getItem {Q : Value → Shared → Prop} (hu : A.units + 1 < cLine) (I : Inv X pins σ H s) (g : DGet H a y (some v)) (ry : RelV y u) (h : ∀ w' s', Inv X pins σ H s' → RelV v w' → Q w' s') :
    wpAny (model X.prog X.w) A (getItem (.ref a) u) Q E s := by
  rcases g with ⟨kvs, k, e, ey, l⟩ | ⟨kvs, k, b, e, ey, eb, l⟩
  · subst ey
    obtain ⟨z, hd, vs, rel, dd⟩ := dk_rd I.hok e
    obtain ⟨w', hw, rw'⟩ := RelO.some_of (v := v) (o := valueAt vs k) (by rw [l]; exact rel.val k)
    exact wpAny_getItem_of (kV_is ry) dd.mapOf hw (h w' _ (I.tok _) rw')
  · subst ey
    cases (show u = Value.ref b from ry)
    obtain ⟨z, hd, xs, rel, dd⟩ := dt_rd I.hok e
    obtain ⟨w', hw, rw'⟩ := RelO.some_of (v := v) (o := (atKey xs k).map (·.2)) (by rw [l]; exact rel.val k)
    obtain ⟨p, hp, hp2⟩ := Option.map_eq_some_iff.mp hw
    refine wpAny_getItem_heap (tupleKind_room_in1 hu) (key_of I.hok eb) dd hp ?_
    rw [hp2]
    exact h w' _ (I.tok _) rw'
theorem d_in {Q : Value → Shared → Prop} (hu : A.units + 1 < cLine) (I : Inv X pins σ H s) (g : DGet H a y o) (ry : RelV y u) (h : ∀ s', Inv X pins σ H s' → Q (.bool o.isSome) s') :
    wpAny (model X.prog X.w) A (compareOp .In u (.ref a)) Q E s := by
  rcases g with ⟨kvs, k, e, ey, l⟩ | ⟨kvs, k, b, e, ey, eb, l⟩
  · subst ey
    obtain ⟨z, hd, vs, rel, dd⟩ := dk_rd I.hok e
    refine wpAny_in_of (kV_is ry) hd dd.mapOf ?_
    rw [← (rel.val k).isSome_eq, ← l]
    exact h _ (I.tok _)
  · subst ey
    cases (show u = Value.ref b from ry)
    obtain ⟨z, hd, xs, rel, dd⟩ := dt_rd I.hok e
    refine wpAny_in_heap (tupleKind_room_in1 hu) (key_of I.hok eb) hd dd ?_
    have q := (rel.val k).isSome_eq
    rw [Option.isSome_map] at q
    rw [← q, ← l]
    exact h _ (I.tok _)
theorem d_notIn {Q : Value → Shared → Prop} (hu : A.units + 1 < cLine) (I : Inv X pins σ H s) (g : DGet H a y o) (ry : RelV y u) (h : ∀ s', Inv X pins σ H s' → Q (.bool (!o.isSome)) s') :
    wpAny (model X.prog X.w) A (compareOp .NotIn u (.ref a)) Q E s := by
  rcases g with ⟨kvs, k, e, ey, l⟩ | ⟨kvs, k, b, e, ey, eb, l⟩
  · subst ey
    obtain ⟨z, hd, vs, rel, dd⟩ := dk_rd I.hok e
    refine wpAny_notIn_of (kV_is ry) hd dd.mapOf ?_
    rw [← (rel.val k).isSome_eq, ← l]
    exact h _ (I.tok _)
  · subst ey
    cases (show u = Value.ref b from ry)
    obtain ⟨z, hd, xs, rel, dd⟩ := dt_rd I.hok e
    refine wpAny_notIn_heap (tupleKind_room_in1 hu) (key_of I.hok eb) hd dd ?_
    have q := (rel.val k).isSome_eq
    rw [Option.isSome_map] at q
    rw [← q, ← l]
    exact h _ (I.tok _)
theorem d_write {h' : Heap} {t' : Nat} {ob : HO} (I : Inv X pins σ H s) (mu : Mut (H a)) (hs : Heap.SameBut a s.heap h') (he : ∃ q, h'.get? a = some q) (new : ObjOk X.prog X.w (upd H a ob) h' a ob) :
    Inv X pins σ (upd H a ob) { s with heap := h', toks := t' } :=
  I.write (x := a) (e := a) mu (.inl rfl) (fun b q hb z => (hs.2 b hb).trans z) he new
theorem dk_new {P : Program} {w : World} {H' : Hp} {h' : Heap} {kvs : List (Key × V)} {vs : List (Key × Value)} (z : kvs.length ≤ sizeLine) (hd : (a == sysModules) = false) (rel : KV kvs vs) (dd : h'.DictOf (mixKind P w) a vs) :
    ObjOk P w H' h' a (.dK kvs) := ⟨z, hd, vs, rel, dd⟩
theorem d_setItem {H' : Hp} {Q : Unit → Shared → Prop} (hu : A.units + 1 < cLine) (I : Inv X pins σ H s) (g : DPut H a y v H') (ry : RelV y u) (rv : RelV v r) (h : ∀ s', Inv X pins σ H' s' → Q () s') :
    wpAny (model X.prog X.w) A (setItem (.ref a) u r) Q E s := by
  rcases g with ⟨kvs, k, e, ey, l, eH⟩ | ⟨kvs, k, b, e, ey, eb, l, eH⟩
  · subst ey eH
    obtain ⟨z, hd, vs, rel, dd⟩ := dk_of I.hok e
    have hz : vs.length ≤ sizeLine := by rw [← rel.length]; exact z
    have hl : (putK kvs k v).length ≤ sizeLine := by have := length_putK kvs k v; omega
    refine wpAny_setItem_pairs (hsz := hz) (kV_is ry) dd fun h' dd' hs => h _ ?_
    have he : ∃ q, h'.get? a = some q := let ⟨q, _, _, hq, _⟩ := dd'; ⟨q, hq⟩
    exact d_write I (by rw [e]; exact True.intro) hs he (dk_new hl hd (rel.put k rv) dd')
  · subst ey eH
    cases (show u = Value.ref b from ry)
    obtain ⟨z, hd, xs, rel, dd⟩ := dt_of I.hok e
    have hz : xs.length ≤ sizeLine := by rw [← Paired.length rel]; exact z
    have hl : (putK kvs k v).length ≤ sizeLine := by have := length_putK kvs k v; omega
    refine wpAny_setItem_heap (hsz := hz) (tupleKind_room_in1 hu) (key_of I.hok eb) dd fun h' dd' hs => h _ ?_
    obtain ⟨q, es, ep, hq, h2, h3, h4, _, h5⟩ := dd'
    refine d_write I (by rw [e]; exact True.intro) hs ⟨q, hq⟩ ⟨hl, hd, _, (rel.put k eb rv).keeps fun c ys ec => ?_, q, es, ep, hq, h2, h3, h4, h5⟩
    rw [upd_ne (ne_of ec e (fun z => nomatch z))]
    exact ec
end
section
variable {X : Cx} {pins : List (Addr × Obj)} {σ : St} {H : Hp} {s : Shared} {a : Addr} {kvs : List (Key × V)} {k : Key} {u : Value} {A : Around} {E : Value → Shared → Prop}
theorem d_delItem {Q : Unit → Shared → Prop} (I : Inv X pins σ H s) (e : H a = some (.dK kvs)) (ry : RelV (kV k) u) (l : (valV kvs k).isSome = true) (h : ∀ s', Inv X pins σ (upd H a (.dK (dropK kvs k))) s' → Q () s') :
    wpAny (model X.prog X.w) A (delItem (.ref a) u) Q E s := by
  obtain ⟨z, hd, vs, rel, dd⟩ := dk_of I.hok e
  refine wpAny_delItem_slot dd.typeIs (by decide) PySem.F.slot_dict_delitem
    (call_meetsIn PySem.F.slot_dict_delitem dd.typeIs PySem.F.entry_dict_delitem (PySem.F.args_dict_delitem_2 _ _) (meets_dict_delitem_pairs (mixKind X.prog X.w) a (kV_is ry)) ⟨vs, dd, by rw [← rel.length]; exact z, by rw [← (rel.val k).isSome_eq]; exact l, fun h' dd' hs => h _ ?_⟩)
  have he : ∃ q, h'.get? a = some q := let ⟨q, _, _, hq, _⟩ := dd'; ⟨q, hq⟩
  exact d_write I (by rw [e]; exact True.intro) hs he (dk_new (Nat.le_trans (dropK_le kvs k) z) hd (rel.drop k) dd')
theorem d_pop {v : V} {more : List Value} {Q : Value → Shared → Prop} (I : Inv X pins σ H s) (e : H a = some (.dK kvs)) (ry : RelV (kV k) u) (l : valV kvs k = some v) (hm : more = [] ∨ ∃ x, more = [x])
    (h : ∀ w' s', Inv X pins σ (upd H a (.dK (dropK kvs k))) s' → RelV v w' → Q w' s') : wpAny (model X.prog X.w) A (call (.builtin "dict.pop") (.ref a :: u :: more)) Q E s := by
  obtain ⟨z, hd, vs, rel, dd⟩ := dk_of I.hok e
  obtain ⟨w', hw, rw'⟩ := RelO.some_of (v := v) (o := valueAt vs k) (by rw [← l]; exact rel.val k)
  have hp : (keyPart u).isSome = true := by
    cases k with
    | inl i => obtain ⟨t, q⟩ := (show ∃ t, u = Value.int i t from ry); subst q; rfl
    | inr x => obtain ⟨t, q⟩ := (show ∃ t, u = Value.str x t from ry); subst q; rfl
  have ha : argsOk "dict.pop" ⟨.ref a :: u :: more, []⟩ := by
    rcases hm with q | ⟨x, q⟩
    · subst q; exact PySem.F.args_dict_pop_2 _ _
    · subst q; exact PySem.F.args_dict_pop_3 _ _ _
  refine call_meetsIn PySem.F.slot_dict_pop dd.typeIs PySem.F.entry_dict_pop ha (meets_dict_pop_there (mixKind X.prog X.w) a (kV_is ry) more hm hp)
    ⟨vs, w', dd, by rw [← rel.length]; exact z, hw, fun h' dd' hs => h w' _ ?_ rw'⟩
  have he : ∃ q, h'.get? a = some q := let ⟨q, _, _, hq, _⟩ := dd'; ⟨q, hq⟩
  exact d_write I (by rw [e]; exact True.intro) hs he (dk_new (Nat.le_trans (dropK_le kvs k) z) hd (rel.drop k) dd')
theorem d_popD {r : Value} {Q : Value → Shared → Prop} (I : Inv X pins σ H s) (e : H a = some (.dK kvs)) (ry : RelV (kV k) u) (l : valV kvs k = none) (h : ∀ s', Inv X pins σ H s' → Q r s') :
    wpAny (model X.prog X.w) A (call (.builtin "dict.pop") [.ref a, u, r]) Q E s := by
  obtain ⟨z, hd, vs, rel, dd⟩ := dk_of I.hok e
  have hn : valueAt vs k = none := RelO.none_of (by rw [← l]; exact rel.val k)
  have hp : (keyPart u).isSome = true := by
    cases k with
    | inl i => obtain ⟨t, q⟩ := (show ∃ t, u = Value.int i t from ry); subst q; rfl
    | inr x => obtain ⟨t, q⟩ := (show ∃ t, u = Value.str x t from ry); subst q; rfl
  exact call_meetsIn PySem.F.slot_dict_pop dd.typeIs PySem.F.entry_dict_pop (PySem.F.args_dict_pop_3 _ _ _) (meets_dict_pop_default (mixKind X.prog X.w) a (kV_is ry) hd hp r) ⟨vs, dd, hn, h _ (I.tok _)⟩
theorem d_clear {Q : Value → Shared → Prop} (I : Inv X pins σ H s) (e : H a = some (.dK kvs)) (h : ∀ s', Inv X pins σ (upd H a (.dK [])) s' → Q .none s') : wpAny (model X.prog X.w) A (call (.builtin "dict.clear") [.ref a]) Q E s := by
  obtain ⟨z, hd, vs, rel, dd⟩ := dk_of I.hok e
  refine call_meetsIn PySem.F.slot_dict_clear dd.typeIs PySem.F.entry_dict_clear (PySem.F.args_dict_clear_1 _) (meets_dict_clear (mixKind X.prog X.w) a) ⟨vs, dd, by rw [← rel.length]; exact z, fun h' dd' hs => h _ ?_⟩
  have he : ∃ q, h'.get? a = some q := let ⟨q, _, _, hq, _⟩ := dd'; ⟨q, hq⟩
  exact d_write (t' := s.toks) I (by rw [e]; exact True.intro) hs he (dk_new (Nat.zero_le _) hd .nil dd')
theorem d_len {Q : Value → Shared → Prop} (I : Inv X pins σ H s) (e : Rd H a (.dK kvs)) (h : ∀ t s', Inv X pins σ H s' → Q (.int kvs.length t) s') : wpAny (model X.prog X.w) A (call (.builtin "len") [.ref a]) Q E s := by
  obtain ⟨z, hd, vs, rel, dd⟩ := dk_rd I.hok e
  refine call_len_dict hd dd (by rw [← rel.length]; rw [sizeLine_eq] at z; omega) ?_
  rw [← rel.length]
  exact h _ _ (I.tok _)
theorem d_truth {Q : Bool → Shared → Prop} (I : Inv X pins σ H s) (e : Rd H a (.dK kvs)) (h : ∀ s', Inv X pins σ H s' → Q (!kvs.isEmpty) s') : wpAny (model X.prog X.w) A (truthy (.ref a)) Q E s := by
  obtain ⟨z, hd, vs, rel, dd⟩ := dk_rd I.hok e
  refine wpAny_truthy_dict hd dd (by rw [← rel.length]; rw [sizeLine_eq] at z; omega) ?_
  have q : kvs.isEmpty = vs.isEmpty := by cases rel <;> rfl
  rw [← q]
  exact h _ (I.tok _)
end
def NoSl (i : Expr) : Prop := ∀ ov iv, subscripted i false ov iv = operate [ov, iv] (getItem ov iv)
theorem subD_of {prog : Program} {w : World} {A : Around} {E : Value → Shared → Prop} {s : Shared} {env : Env} {value slice : Expr} {pos : Pos} {T id : String} {Q : Value → Shared → Prop}
    (hl : typeLookup (.type T) "__getitem__" = pure (some (.builtin id))) (hs : NoSl slice)
    (h : wpAny (model prog w) A (eval value env) (fun o s₁ => wpAny (model prog w) A (eval slice env) (fun i s₂ => s₂.TypeIs o T ∧ wpAny (model prog w) A (getItem o i) Q E s₂) E s₁) E s) :
    wpAny (model prog w) A (eval (.Subscript value slice pos) env) Q E s := by
  refine Subscript_ (wpAny_mono h (fun o s₁ h₁ => wpAny_mono h₁ (fun i s₂ h₂ => ?_) fun _ _ x => x) fun _ _ x => x)
  obtain ⟨hT, h₂⟩ := h₂
  unfold subscriptTail
  refine wpAny_bind ?_
  rw [getitemInPython_of_ne hT.not_modules]
  refine wpAny_bind (wpAny_specialOf hT hl ?_)
  have fin : wpAny (model prog w) A (subscripted slice false o i) (fun r s₃ => wpAny (model prog w) A (letTemporaryGo value o r >>= fun _ => pure r) Q E s₃) E s₂ := by
    rw [hs o i]
    exact wpAny_operating (wpAny_mono h₂ (fun r s₃ h₃ => wpAny_bind (wpAny_letTemporaryGo (wpAny_pure h₃))) fun _ _ x => x)
  first
    | exact wpAny_pure (wpAny_bind fin)
    | exact wpAny_bind (wpAny_pure (wpAny_bind fin))
    | exact wpAny_bind fin
theorem dict_typeIs {X : Cx} {pins : List (Addr × Obj)} {σ : St} {H : Hp} {s : Shared} {a : Addr} {y : V} {o : Option V} (I : Inv X pins σ H s) (g : DGet H a y o) : s.TypeIs (.ref a) "dict" := by
  rcases g with ⟨kvs, k, e, _, _⟩ | ⟨kvs, k, b, e, _, _, _⟩
  · obtain ⟨_, _, vs, _, dd⟩ := dk_rd I.hok e
    exact dd.typeIs
  · obtain ⟨_, _, xs, _, dd⟩ := dt_rd I.hok e
    exact dd.typeIs
theorem dict_noDict {X : Cx} {pins : List (Addr × Obj)} {σ : St} {H : Hp} {s : Shared} {a : Addr} {y : V} {o : Option V} (I : Inv X pins σ H s) (g : DGet H a y o) :
    ∀ b, Value.ref a = .ref b → ∃ ob, s.heap.get? b = some ob ∧ ob.dict = none := fun b q => by
  cases q
  rcases g with ⟨kvs, k, e, _, _⟩ | ⟨kvs, k, b, e, _, _, _⟩
  · obtain ⟨_, _, vs, _, ob, _, _, h1, h2, _⟩ := dk_rd I.hok e
    exact ⟨ob, h1, h2.2.1⟩
  · obtain ⟨_, _, xs, _, ob, _, _, h1, h2, _⟩ := dt_rd I.hok e
    exact ⟨ob, h1, h2.2.1⟩
def tDGet (td ty : TE) : TE := fun σ H Q => td σ H fun x H1 => ty σ H1 fun y H2 => ∃ a v, x = .ref a ∧ DGet H2 a y (some v) ∧ Q v H2
def tDIn (ty td : TE) : TE := fun σ H Q => ty σ H fun y H1 => td σ H1 fun x H2 => ∃ a o, x = .ref a ∧ DGet H2 a y o ∧ Q (.bl o.isSome) H2
def tDNotIn (ty td : TE) : TE := fun σ H Q => ty σ H fun y H1 => td σ H1 fun x H2 => ∃ a o, x = .ref a ∧ DGet H2 a y o ∧ Q (.bl (!o.isSome)) H2
def sDPut (td ty tv : TE) : TS := fun D σ H => tv σ H fun v H1 => td σ H1 fun x H2 => ty σ H2 fun y H3 => ∃ a H4, x = .ref a ∧ DPut H3 a y v H4 ∧ D.nx σ H4
def sDAug (td ty tv : TE) (rd : V → V → Hp → VK → Prop) : TS := fun D σ H => td σ H fun x H1 => ty σ H1 fun y H2 => ∃ a v, x = .ref a ∧ DGet H2 a y (some v) ∧
  tv σ H2 fun y2 H3 => rd v y2 H3 fun z H4 => ∃ H5, DPut H4 a y z H5 ∧ D.nx σ H5
def sDDel (td ty : TE) : TS := fun D σ H => td σ H fun x H1 => ty σ H1 fun y H2 => ∃ a kvs k, x = .ref a ∧ H2 a = some (.dK kvs) ∧ y = kV k ∧ (valV kvs k).isSome = true ∧ D.nx σ (upd H2 a (.dK (dropK kvs k)))
section
variable {X : Cx} {o i e value : Expr} {pos pos' tpos : Pos} {td ty tv : TE}
theorem pe_dget (hu : X.A.units + 1 < cLine) (ho : PE X o td) (hi : PE X i ty) (hs : NoSl i) : PE X (.Subscript o i pos) (tDGet td ty) := by
  intro pins s σ H Q I h
  refine subD_of PySem.F.slot_dict_getitem.lookup hs (thn (ho pins s σ H _ I h) fun u s1 ⟨x, H1, I1, rx, q1⟩ => thn (hi pins s1 σ H1 _ I1 q1) fun iv s2 ⟨y, H2, I2, ry, a, v, ex, g, q2⟩ => ?_)
  subst ex
  obtain rfl : u = Value.ref a := rx
  exact ⟨dict_typeIs I2 g, d_getItem hu I2 g ry fun w' s3 I3 rw' => ⟨v, H2, I3, rw', q2⟩⟩
theorem pc_din (hu : X.A.units + 1 < cLine) (hi : PE X i ty) (ho : PE X o td) : PC X .In i o (tDIn ty td) := by
  intro pins s σ H Q I h
  refine thn (hi pins s σ H _ I h) fun iv s1 ⟨y, H1, I1, ry, q1⟩ => thn (ho pins s1 σ H1 _ I1 q1) fun u s2 ⟨x, H2, I2, rx, a, ov, ex, g, q2⟩ => ?_
  subst ex
  obtain rfl : u = Value.ref a := rx
  exact d_in hu I2 g ry fun s3 I3 => ⟨.bl ov.isSome, H2, I3, rfl, q2⟩
theorem pc_dnotin (hu : X.A.units + 1 < cLine) (hi : PE X i ty) (ho : PE X o td) : PC X .NotIn i o (tDNotIn ty td) := by
  intro pins s σ H Q I h
  refine thn (hi pins s σ H _ I h) fun iv s1 ⟨y, H1, I1, ry, q1⟩ => thn (ho pins s1 σ H1 _ I1 q1) fun u s2 ⟨x, H2, I2, rx, a, ov, ex, g, q2⟩ => ?_
  subst ex
  obtain rfl : u = Value.ref a := rx
  exact d_notIn hu I2 g ry fun s3 I3 => ⟨.bl (!ov.isSome), H2, I3, rfl, q2⟩
theorem ps_dput (hu : X.A.units + 1 < cLine) (ho : PE X o td) (hi : PE X i ty) (hv : PE X value tv) (hs : swapsWith value (some (.Subscript o i pos')) pos.line X.env = pure false) :
    PS X (.Assign [.Subscript o i pos'] value pos) (sDPut td ty tv) := by
  intro pins s σ H D I h
  refine wpAny_Assign_Subscript (thn (hv pins s σ H _ I h) fun r s1 ⟨v, H1, I1, rv, q1⟩ => thn (ho pins s1 σ H1 _ I1 q1) fun u s2 ⟨x, H2, I2, rx, q2⟩ => thn (hi pins s2 σ H2 _ I2 q2) fun iv s3 ⟨y, H3, I3, ry, a, H4, ex, g, q3⟩ => ?_) hs
  subst ex
  obtain rfl : u = Value.ref a := rx
  exact d_setItem hu I3 g ry rv fun s4 I4 => ⟨σ, H4, I4, q3⟩
theorem ps_daug {op : Operator} {rd : V → V → Hp → VK → Prop} (hu : X.A.units + 1 < cLine) (ho : PE X o td) (hi : PE X i ty) (hv : PE X value tv) (hop : InOp X op rd)
    (ha : ∀ ov iv new, augStore i ov iv new = (do holding [new, ov, iv] (setItem ov iv new); release [new, ov, iv] []; pure .next)) : PS X (.AugAssign (.Subscript o i tpos) op value pos) (sDAug td ty tv rd) := by
  intro pins s σ H D I h
  refine wpAny_AugAssign_SubscriptAny (thn (ho pins s σ H _ I h) fun u s1 ⟨x, H1, I1, rx, q1⟩ => thn (hi pins s1 σ H1 _ I1 q1) fun iv s2 ⟨y, H2, I2, ry, a, v, ex, g, q2⟩ => ?_) ha
  subst ex
  obtain rfl : u = Value.ref a := rx
  refine d_getItem hu I2 g ry fun w' s3 I3 rw' => thn (hv pins s3 σ H2 _ I3 q2) fun w2 s4 ⟨y2, H3, I4, ry2, q3⟩ => thn (hop pins s4 σ H3 v y2 w' w2 _ I4 rw' ry2 q3) fun w3 s5 ⟨z, H4, I5, rz, H5, g5, q4⟩ => ?_
  exact d_setItem hu I5 g5 ry rz fun s6 I6 => ⟨σ, H5, I6, q4⟩
theorem ps_ddel (ho : PE X o td) (hi : PE X i ty) : PS X (.Delete [.Subscript o i tpos] pos) (sDDel td ty) := by
  intro pins s σ H D I h
  refine wpAny_Delete (wpAny_deleteEach_cons (wpAny_delete_Subscript (thn (ho pins s σ H _ I h) fun u s1 ⟨x, H1, I1, rx, q1⟩ => thn (hi pins s1 σ H1 _ I1 q1) fun iv s2 ⟨y, H2, I2, ry, a, kvs, k, ex, e, ey, l, q2⟩ => ?_)))
  subst ex ey
  obtain rfl : u = Value.ref a := rx
  exact d_delItem I2 e ry l fun s3 I3 => wpAny_deleteEach_nil ⟨σ, _, I3, q2⟩
end
theorem dk_empty {P : Program} {w : World} {H : Hp} (h : Heap) (hb : sysModules < h.objs.size) : ObjOk P w H (h.push { cls := .type "dict", data := .dict #[] }) h.objs.size (.dK []) :=
  ⟨Nat.zero_le _, beq_eq_false_iff_ne.mpr (Ne.symm (Nat.ne_of_lt hb)), [], .nil, Heap.DictOf.new h⟩
theorem dt_empty {P : Program} {w : World} {H : Hp} (h : Heap) (hb : sysModules < h.objs.size) : ObjOk P w H (h.push { cls := .type "dict", data := .dict #[] }) h.objs.size (.dT []) :=
  ⟨Nat.zero_le _, beq_eq_false_iff_ne.mpr (Ne.symm (Nat.ne_of_lt hb)), [], .nil, _, #[], 0, Heap.get?_push_size _ rfl, ⟨rfl, rfl, rfl⟩, rfl, rfl, List.nodup_nil⟩
def tDNewK : TE := fun _ H Q => ∀ p, H p = none → Q (.ref p) (upd H p (.dK []))
def tDNewT : TE := fun _ H Q => ∀ p, H p = none → Q (.ref p) (upd H p (.dT []))
section
variable {X : Cx} {pos : Pos}
theorem pe_dnewK : PE X (.Dict [] [] pos) tDNewK := fun pins s σ H Q I h =>
  wpAny_Dict_empty ⟨.ref s.heap.objs.size, _, I.laid (a := s.heap.objs.size) (o := .dK []) (t' := s.toks) (fun _ _ q => Heap.get?_push_of_some _ q) (Nat.le_refl _) (dk_empty s.heap I.big), rfl, h _ (I.hok.fresh (Nat.le_refl _))⟩
theorem pe_dnewT : PE X (.Dict [] [] pos) tDNewT := fun pins s σ H Q I h =>
  wpAny_Dict_empty ⟨.ref s.heap.objs.size, _, I.laid (a := s.heap.objs.size) (o := .dT []) (t' := s.toks) (fun _ _ q => Heap.get?_push_of_some _ q) (Nat.le_refl _) (dt_empty s.heap I.big), rfl, h _ (I.hok.fresh (Nat.le_refl _))⟩
end
def tPairs : List (TE × TE) → St → Hp → (List (V × V) → Hp → Prop) → Prop
  | [], _, H, Q => Q [] H
  | (tk, tv) :: r, σ, H, Q => tk σ H fun x H1 => tv σ H1 fun y H2 => tPairs r σ H2 fun ps H3 => Q ((x, y) :: ps) H3
abbrev VV : List (V × V) → List (Value × Value) → Prop := Paired fun p q => RelV p.1 q.1 ∧ RelV p.2 q.2
def PPs (X : Cx) (pos : Pos) (keys : List (Option Expr)) (values : List Expr) (trs : List (TE × TE)) : Prop :=
  ∀ (pins : List (Addr × Obj)) (s : Shared) (σ : St) (H : Hp) (Q : List (V × V) → Hp → Prop), Inv X pins σ H s → tPairs trs σ H Q →
    wpAny (model X.prog X.w) X.A (evalPairs (pairTrees keys values X.env pos)) (fun vs s' => ∃ ps H', Inv X pins σ H' s' ∧ VV ps vs ∧ Q ps H') X.xe s
theorem pps_nil {X : Cx} {pos : Pos} : PPs X pos [] [] [] := fun pins s σ H Q I h => pairTrees_nil_walk ⟨[], H, I, .nil, h⟩
theorem pps_cons {X : Cx} {pos : Pos} {k v : Expr} {ks : List (Option Expr)} {vs : List Expr} {tk tv : TE} {trs : List (TE × TE)} (hk : PE X k tk) (hv : PE X v tv) (hr : PPs X pos ks vs trs) :
    PPs X pos (some k :: ks) (v :: vs) ((tk, tv) :: trs) := fun pins s σ H Q I h =>
  pairTrees_cons_walk (thn (hk pins s σ H _ I h) fun u s1 ⟨x, H1, I1, rx, q1⟩ => thn (hv pins s1 σ H1 _ I1 q1) fun w2 s2 ⟨y, H2, I2, ry, q2⟩ =>
    thn (hr pins s2 σ H2 _ I2 q2) fun ws s3 ⟨ps, H3, I3, rel, q3⟩ => ⟨(x, y) :: ps, H3, I3, .cons ⟨rx, ry⟩ rel, q3⟩)
def mergeK (kvs more : List (Key × V)) : List (Key × V) := more.foldl (fun acc kv => putK acc kv.1 kv.2) kvs
theorem KV.merge : ∀ {more : List (Key × V)} {rs : List (Key × Value)} {kvs : List (Key × V)} {vs : List (Key × Value)}, KV more rs → KV kvs vs → KV (mergeK kvs more) (merged vs rs) := by
  intro more rs kvs vs r
  unfold KV at r
  induction r generalizing kvs vs with
  | nil => intro q; exact q
  | @cons p q ps qs h t ih =>
    intro r0
    have e : KV (putK kvs p.1 p.2) (stored vs q.1 q.2) := by
      have := r0.put p.1 h.2
      rw [← h.1]; exact this
    exact ih e
theorem length_mergeK : ∀ (more kvs : List (Key × V)), (mergeK kvs more).length ≤ kvs.length + more.length
  | [], kvs => by show kvs.length ≤ kvs.length + 0; omega
  | p :: r, kvs => by
    have h1 := length_mergeK r (putK kvs p.1 p.2)
    have h2 := length_putK kvs p.1 p.2
    show (mergeK (putK kvs p.1 p.2) r).length ≤ _
    rw [List.length_cons]; omega
theorem carries_of {P : Program} {w : World} : ∀ {kvs : List (Key × V)} {ws : List (Value × Value)}, VV (kvs.map fun kv => (kV kv.1, kv.2)) ws → ∃ rs, Carries (mixKind P w) ws rs ∧ KV kvs rs
  | [], _, r => by rw [List.map_nil] at r; cases r; exact ⟨[], True.intro, .nil⟩
  | p :: kvs, _, r => by
    rw [List.map_cons] at r
    cases r with
    | @cons a b as bs h t =>
      obtain ⟨rs, c, q⟩ := carries_of (P := P) (w := w) t
      obtain ⟨b1, b2⟩ := b
      exact ⟨(p.1, b2) :: rs, ⟨kV_is h.1, rfl, c⟩, .cons ⟨rfl, h.2⟩ q⟩
def tDisp (trs : List (TE × TE)) : TE := fun σ H Q => ∀ p, H p = none → tPairs trs σ (upd H p (.dK [])) fun ps H2 => H2 p = some (.dK []) ∧ ∃ kvs : List (Key × V), ps = kvs.map (fun kv => (kV kv.1, kv.2)) ∧ kvs.length ≤ 15 ∧ Q (.ref p) (upd H2 p (.dK (mergeK [] kvs)))
theorem pe_disp {X : Cx} {pos : Pos} {keys : List (Option Expr)} {values : List Expr} {trs : List (TE × TE)} (h : PPs X pos keys values trs) (hall : keys.all (·.isSome) = true) (hl : keys.length = values.length) (h0 : keys ≠ [])
    (h15 : keys.length ≤ 15) : PE X (.Dict keys values pos) (tDisp trs) := by
  intro pins s σ H Q I q
  have hn := I.hok.fresh (Nat.le_refl s.heap.objs.size)
  have I1 := I.laid (a := s.heap.objs.size) (o := .dK []) (h' := s.heap.push { cls := .type "dict", data := .dict #[] }) (t' := s.toks) (fun _ _ q => Heap.get?_push_of_some _ q) (Nat.le_refl _) (dk_empty s.heap I.big)
  refine wpAny_Dict_walk (knd := mixKind X.prog X.w) hall hl h0 h15 (thn (h pins _ σ _ _ I1 (q _ hn)) fun ws s2 ⟨ps, H2, I2, rel, e, kvs, ep, lk, q2⟩ => ?_)
  subst ep
  obtain ⟨rs, c, rk⟩ := carries_of (P := X.prog) (w := X.w) rel
  obtain ⟨z, hd, vs0, r0, dd⟩ := dk_of I2.hok e
  cases r0
  refine ⟨rs, c, dd, fun h' dd' hs => ⟨.ref s.heap.objs.size, _, ?_, rfl, q2⟩⟩
  have hz : (mergeK [] kvs).length ≤ sizeLine := by
    have h1 := length_mergeK kvs []
    rw [List.length_nil] at h1
    rw [sizeLine_eq]; omega
  have he : ∃ q, h'.get? s.heap.objs.size = some q := let ⟨q, _, _, hq, _⟩ := dd'; ⟨q, hq⟩
  exact d_write I2 (by rw [e]; exact True.intro) hs he (dk_new hz hd (rk.merge .nil) dd')
structure M1 (X : Cx) (o : Expr) (m : Str) (apos : Pos) (e : Expr) (cpos : Pos) : Prop where
  base : attributeBase o m X.env (eval o X.env) = eval o X.env
  few : ((backTo cpos (starEach [e] X.env)).all (fun x => !x.1) && (backToKw cpos (keywordEach [] X.env)).all (fun x => x.1.isSome)
    && decide (([e] : List Expr).length + ([] : List Keyword).length + (if ([] : List Keyword).isEmpty then 0 else 1) < 30)) = true
  line : (apos.endLine == cpos.line) = true
  trees : backTo cpos (starEach [e] X.env) = [(false, eval e X.env)]
structure M2 (X : Cx) (o : Expr) (m : Str) (apos : Pos) (e f : Expr) (cpos : Pos) : Prop where
  base : attributeBase o m X.env (eval o X.env) = eval o X.env
  few : ((backTo cpos (starEach [e, f] X.env)).all (fun x => !x.1) && (backToKw cpos (keywordEach [] X.env)).all (fun x => x.1.isSome)
    && decide (([e, f] : List Expr).length + ([] : List Keyword).length + (if ([] : List Keyword).isEmpty then 0 else 1) < 30)) = true
  line : (apos.endLine == cpos.line) = true
  trees : backTo cpos (starEach [e, f] X.env) = [(false, eval e X.env), (false, eval f X.env)]
def IsD (H : Hp) (a : Addr) : Prop := (∃ kvs, Rd H a (.dK kvs)) ∨ ∃ kvs, Rd H a (.dT kvs)
theorem isD_at {X : Cx} {pins : List (Addr × Obj)} {σ : St} {H : Hp} {s : Shared} {a : Addr} (I : Inv X pins σ H s) (d : IsD H a) :
    s.TypeIs (.ref a) "dict" ∧ (∀ b, Value.ref a = .ref b → ∃ ob, s.heap.get? b = some ob ∧ ob.dict = none) ∧ (a == sysModules) = false := by
  rcases d with ⟨kvs, e⟩ | ⟨kvs, e⟩
  · obtain ⟨_, hd, vs, _, dd⟩ := dk_rd I.hok e
    refine ⟨dd.typeIs, fun b q => ?_, hd⟩
    cases q
    obtain ⟨ob, _, _, h1, h2, _⟩ := dd
    exact ⟨ob, h1, h2.2.1⟩
  · obtain ⟨_, hd, xs, _, dd⟩ := dt_rd I.hok e
    refine ⟨dd.typeIs, fun b q => ?_, hd⟩
    cases q
    obtain ⟨ob, _, _, h1, h2, _⟩ := dd
    exact ⟨ob, h1, h2.2.1⟩
section
variable {X : Cx} {pins : List (Addr × Obj)} {σ : St} {H : Hp} {s : Shared} {a : Addr} {y d : V} {u r : Value} {o : Option V} {A : Around} {E : Value → Shared → Prop}
theorem d_get1 {Q : Value → Shared → Prop} (hu : A.units + 1 < cLine) (I : Inv X pins σ H s) (g : DGet H a y o) (ry : RelV y u) (h : ∀ w' s', Inv X pins σ H s' → RelV (o.getD .non) w' → Q w' s') :
    wpAny (model X.prog X.w) A (call (.builtin "dict.get") [.ref a, u]) Q E s := by
  rcases g with ⟨kvs, k, e, ey, l⟩ | ⟨kvs, k, b, e, ey, eb, l⟩
  · subst ey
    obtain ⟨z, hd, vs, rel, dd⟩ := dk_rd I.hok e
    refine call_meetsIn PySem.F.slot_dict_get dd.typeIs PySem.F.entry_dict_get (PySem.F.args_dict_get_2 _ _) (meets_dict_get (mixKind X.prog X.w) a (kV_is ry) hd) ⟨_, dd.mapOf, h _ _ (I.tok _) ?_⟩
    rw [l]
    exact (rel.val k).getD rfl
  · subst ey
    cases (show u = Value.ref b from ry)
    obtain ⟨z, hd, xs, rel, dd⟩ := dt_rd I.hok e
    refine call_meetsIn PySem.F.slot_dict_get dd.typeIs PySem.F.entry_dict_get (PySem.F.args_dict_get_2 _ _) (meetsH_dict_get (tupleKind (mixKind X.prog X.w)) a b hd) ⟨tupleKind_room_in1 hu, k, xs, key_of I.hok eb, dd, h _ _ (I.tok _) ?_⟩
    rw [l]
    exact (rel.val k).getD rfl
theorem d_get2 {Q : Value → Shared → Prop} (hu : A.units + 1 < cLine) (I : Inv X pins σ H s) (g : DGet H a y o) (ry : RelV y u) (rd : RelV d r) (h : ∀ w' s', Inv X pins σ H s' → RelV (o.getD d) w' → Q w' s') :
    wpAny (model X.prog X.w) A (call (.builtin "dict.get") [.ref a, u, r]) Q E s := by
  rcases g with ⟨kvs, k, e, ey, l⟩ | ⟨kvs, k, b, e, ey, eb, l⟩
  · subst ey
    obtain ⟨z, hd, vs, rel, dd⟩ := dk_rd I.hok e
    refine call_meetsIn PySem.F.slot_dict_get dd.typeIs PySem.F.entry_dict_get (PySem.F.args_dict_get_3 _ _ _) (meets_dict_get_default (mixKind X.prog X.w) a (kV_is ry) hd r) ⟨_, dd.mapOf, h _ _ (I.tok _) ?_⟩
    rw [l]
    exact (rel.val k).getD rd
  · subst ey
    cases (show u = Value.ref b from ry)
    obtain ⟨z, hd, xs, rel, dd⟩ := dt_rd I.hok e
    refine call_meetsIn PySem.F.slot_dict_get dd.typeIs PySem.F.entry_dict_get (PySem.F.args_dict_get_3 _ _ _) (meetsH_dict_get_default (tupleKind (mixKind X.prog X.w)) a b hd r) ⟨tupleKind_room_in1 hu, k, xs, key_of I.hok eb, dd, h _ _ (I.tok _) ?_⟩
    rw [l]
    exact (rel.val k).getD rd
end
def tDGet1 (td ty : TE) : TE := fun σ H Q => td σ H fun x H1 => ∃ a, x = .ref a ∧ IsD H1 a ∧ ty σ H1 fun y H2 => ∃ o, DGet H2 a y o ∧ Q (o.getD .non) H2
def tDGet2 (td ty tx : TE) : TE := fun σ H Q => td σ H fun x H1 => ∃ a, x = .ref a ∧ IsD H1 a ∧ ty σ H1 fun y H2 => tx σ H2 fun z H3 => ∃ o, DGet H3 a y o ∧ Q (o.getD z) H3
def tDPop1 (td ty : TE) : TE := fun σ H Q => td σ H fun x H1 => ∃ a, x = .ref a ∧ IsD H1 a ∧ ty σ H1 fun y H2 => ∃ kvs k v, H2 a = some (.dK kvs) ∧ y = kV k ∧ valV kvs k = some v ∧ Q v (upd H2 a (.dK (dropK kvs k)))
def tDPop2 (td ty tx : TE) : TE := fun σ H Q => td σ H fun x H1 => ∃ a, x = .ref a ∧ IsD H1 a ∧ ty σ H1 fun y H2 => tx σ H2 fun z H3 => ∃ kvs k, H3 a = some (.dK kvs) ∧ y = kV k ∧
  (∀ v, valV kvs k = some v → Q v (upd H3 a (.dK (dropK kvs k)))) ∧ (valV kvs k = none → Q z H3)
section
variable {X : Cx} {o e f : Expr} {apos cpos : Pos} {td ty tx : TE}
theorem pe_dget1 (hu : X.A.units + 1 < cLine) (ho : PE X o td) (he : PE X e ty) (m : M1 X o "get" apos e cpos) : PE X (.Call (.Attribute o "get" apos) [e] [] cpos) (tDGet1 td ty) := by
  intro pins s σ H Q I h
  refine wpAny_Call_method m.base m.few m.line PySem.F.plainAttrs_dict PySem.F.slot_dict_get PySem.F.type_dict_get (thn (ho pins s σ H _ I h) fun u s1 ⟨x, H1, I1, rx, a, ex, d, q1⟩ => ?_)
  subst ex
  obtain rfl : u = Value.ref a := rx
  obtain ⟨t1, t2, _⟩ := isD_at I1 d
  refine ⟨t1, t2, ?_⟩
  rw [m.trees]
  refine Calls.callWith_builtin rfl (Calls.evalArgs_plain (Calls.spliced_cons (thn (he pins s1 σ H1 _ I1 q1) fun iv s2 ⟨y, H2, I2, ry, ov, g, q2⟩ => Calls.spliced_nil ?_)))
  exact d_get1 hu I2 g ry fun w' s3 I3 rw' => ⟨_, H2, I3, rw', q2⟩
theorem pe_dget2 (hu : X.A.units + 1 < cLine) (ho : PE X o td) (he : PE X e ty) (hf : PE X f tx) (m : M2 X o "get" apos e f cpos) : PE X (.Call (.Attribute o "get" apos) [e, f] [] cpos) (tDGet2 td ty tx) := by
  intro pins s σ H Q I h
  refine wpAny_Call_method m.base m.few m.line PySem.F.plainAttrs_dict PySem.F.slot_dict_get PySem.F.type_dict_get (thn (ho pins s σ H _ I h) fun u s1 ⟨x, H1, I1, rx, a, ex, d, q1⟩ => ?_)
  subst ex
  obtain rfl : u = Value.ref a := rx
  obtain ⟨t1, t2, _⟩ := isD_at I1 d
  refine ⟨t1, t2, ?_⟩
  rw [m.trees]
  refine Calls.callWith_builtin rfl (Calls.evalArgs_plain (Calls.spliced_cons (thn (he pins s1 σ H1 _ I1 q1) fun iv s2 ⟨y, H2, I2, ry, q2⟩ =>
    Calls.spliced_cons (thn (hf pins s2 σ H2 _ I2 q2) fun fv s3 ⟨z, H3, I3, rz, ov, g, q3⟩ => Calls.spliced_nil ?_))))
  exact d_get2 hu I3 g ry rz fun w' s4 I4 rw' => ⟨_, H3, I4, rw', q3⟩
theorem pe_dpop1 (ho : PE X o td) (he : PE X e ty) (m : M1 X o "pop" apos e cpos) : PE X (.Call (.Attribute o "pop" apos) [e] [] cpos) (tDPop1 td ty) := by
  intro pins s σ H Q I h
  refine wpAny_Call_method m.base m.few m.line PySem.F.plainAttrs_dict PySem.F.slot_dict_pop PySem.F.type_dict_pop (thn (ho pins s σ H _ I h) fun u s1 ⟨x, H1, I1, rx, a, ex, d, q1⟩ => ?_)
  subst ex
  obtain rfl : u = Value.ref a := rx
  obtain ⟨t1, t2, _⟩ := isD_at I1 d
  refine ⟨t1, t2, ?_⟩
  rw [m.trees]
  refine Calls.callWith_builtin rfl (Calls.evalArgs_plain (Calls.spliced_cons (thn (he pins s1 σ H1 _ I1 q1) fun iv s2 ⟨y, H2, I2, ry, kvs, k, v, ea, ey, l, q2⟩ => Calls.spliced_nil ?_)))
  subst ey
  exact d_pop I2 ea ry l (.inl rfl) fun w' s3 I3 rw' => ⟨v, _, I3, rw', q2⟩
theorem pe_dpop2 (ho : PE X o td) (he : PE X e ty) (hf : PE X f tx) (m : M2 X o "pop" apos e f cpos) : PE X (.Call (.Attribute o "pop" apos) [e, f] [] cpos) (tDPop2 td ty tx) := by
  intro pins s σ H Q I h
  refine wpAny_Call_method m.base m.few m.line PySem.F.plainAttrs_dict PySem.F.slot_dict_pop PySem.F.type_dict_pop (thn (ho pins s σ H _ I h) fun u s1 ⟨x, H1, I1, rx, a, ex, d, q1⟩ => ?_)
  subst ex
  obtain rfl : u = Value.ref a := rx
  obtain ⟨t1, t2, _⟩ := isD_at I1 d
  refine ⟨t1, t2, ?_⟩
  rw [m.trees]
  refine Calls.callWith_builtin rfl (Calls.evalArgs_plain (Calls.spliced_cons (thn (he pins s1 σ H1 _ I1 q1) fun iv s2 ⟨y, H2, I2, ry, q2⟩ =>
    Calls.spliced_cons (thn (hf pins s2 σ H2 _ I2 q2) fun fv s3 ⟨z, H3, I3, rz, kvs, k, ea, ey, q3, q4⟩ => Calls.spliced_nil ?_))))
  subst ey
  cases l : valV kvs k with
  | some v => exact d_pop I3 ea ry l (.inr ⟨fv, rfl⟩) fun w' s4 I4 rw' => ⟨v, _, I4, rw', q3 v l⟩
  | none => exact d_popD I3 ea ry l fun s4 I4 => ⟨z, H3, I4, rz, q4 l⟩
end
section
variable {X : Cx} {pins : List (Addr × Obj)} {σ : St} {H : Hp} {s : Shared} {a : Addr} {kvs : List (Key × V)} {A : Around} {E : Value → Shared → Prop}
theorem d_copyOf {Q : Value → Shared → Prop} (I : Inv X pins σ H s) (e : Rd H a (.dK kvs)) (h : ∀ p s', H p = none → Inv X pins σ (upd H p (.dK kvs)) s' → Q (.ref p) s') : wpAny (model X.prog X.w) A (call (.type "dict") [.ref a]) Q E s := by
  obtain ⟨z, hd, vs, rel, dd⟩ := dk_rd I.hok e
  refine kt_call_dict hd dd (by rw [← rel.length]; exact z) fun h' dd' hs => ?_
  refine h _ _ (I.hok.fresh (Nat.le_refl _)) (I.laid (a := s.heap.objs.size) (o := .dK kvs) (t' := s.toks) (fun b q hq => ?_) (Nat.le_refl _) (dk_new z (beq_eq_false_iff_ne.mpr (Ne.symm (Nat.ne_of_lt I.big))) rel dd'))
  exact (hs.2 b (Nat.ne_of_lt (Heap.lt_size hq))).trans (Heap.get?_push_of_some _ hq)
end
section
variable {X : Cx} {pins : List (Addr × Obj)} {σ : St} {H : Hp} {s : Shared} {a : Addr} {y : V} {u : Value} {A : Around} {E : Value → Shared → Prop}
theorem d_missing {Q : Value → Shared → Prop} (hu : A.units + 1 < cLine) (hh : A.handled = none) (I : Inv X pins σ H s) (g : DGet H a y none) (ry : RelV y u)
    (h : ∀ h' e t', Heap.NewExc s.heap h' e "KeyError" → E (.ref e) { s with heap := h', toks := t' }) : wpAny (model X.prog X.w) A (getItem (.ref a) u) Q E s := by
  rcases g with ⟨kvs, k, e, ey, l⟩ | ⟨kvs, k, b, e, ey, eb, l⟩
  · subst ey
    obtain ⟨z, hd, vs, rel, dd⟩ := dk_rd I.hok e
    have hn : valueAt vs k = none := RelO.none_of (by rw [l]; exact rel.val k)
    exact wpAny_getItem_missing_of (kV_is ry) hd hh dd.mapOf hn fun h' ex ne => h h' ex _ ne
  · subst ey
    cases (show u = Value.ref b from ry)
    obtain ⟨z, hd, xs, rel, dd⟩ := dt_rd I.hok e
    have hn : (atKey xs k).map (·.2) = none := RelO.none_of (by rw [l]; exact rel.val k)
    exact wpAny_getItem_missing_heap (tupleKind_room_in1 hu) (key_of I.hok eb) hd hh dd (Option.map_eq_none_iff.mp hn) fun h' ex ne => h h' ex _ ne
end
end L2

set_option Elab.async false
set_option linter.all false
set_option maxRecDepth 100000
set_option maxHeartbeats 4000000
namespace L2
open PySem PySem.Spec PyProof.Rows
def clFrom (cells : List (Str × Addr)) : List (Str × NameKind) → List (Str × Addr) → List (Str × Addr)
  | [], cs => cs
  | (n, k) :: r, cs => clFrom cells r (if k = .free then (n, (cells.lookup n).getD 0) :: cs else cs)
theorem clFrom_some {cells : List (Str × Addr)} : ∀ {names : List (Str × NameKind)} {cs : List (Str × Addr)}, (∀ y ∈ names, y.2 = .free → ∃ c, cells.lookup y.1 = some c) → (∀ x c, cs.lookup x = some c → cells.lookup x = some c) →
    ∀ x c, (clFrom cells names cs).lookup x = some c → cells.lookup x = some c
  | [], _, _, h, x, c, e => h x c e
  | (n, k) :: r, cs, hn, h, x, c, e => by
    unfold clFrom at e
    refine clFrom_some (fun y hy => hn y (List.mem_cons_of_mem _ hy)) (fun y d q => ?_) x c e
    by_cases hk : k = .free
    · rw [if_pos hk] at q
      obtain ⟨c', hc'⟩ := hn (n, k) List.mem_cons_self hk
      rw [List.lookup_cons] at q
      by_cases hy : y == n
      · rw [hy] at q
        have : y = n := by simpa using hy
        subst this
        rw [show cells.lookup y = some c' from hc'] at q ⊢
        simpa using q
      · have hy' : (y == n) = false := by simpa using hy
        rw [hy'] at q
        exact h y d q
    · rw [if_neg hk] at q
      exact h y d q
theorem clFrom_keeps {cells : List (Str × Addr)} {x : Str} : ∀ {names : List (Str × NameKind)} {cs : List (Str × Addr)}, (∃ c, cs.lookup x = some c) → ∃ c, (clFrom cells names cs).lookup x = some c
  | [], _, h => h
  | (n, k) :: r, cs, h => by
    unfold clFrom
    refine clFrom_keeps ?_
    by_cases hk : k = .free
    · rw [if_pos hk, List.lookup_cons]
      by_cases hy : x == n
      · rw [hy]; exact ⟨_, rfl⟩
      · have hy' : (x == n) = false := by simpa using hy
        rw [hy']; exact h
    · rw [if_neg hk]; exact h
theorem clFrom_has {cells : List (Str × Addr)} {x : Str} : ∀ {names : List (Str × NameKind)} {cs : List (Str × Addr)}, (x, NameKind.free) ∈ names → ∃ c, (clFrom cells names cs).lookup x = some c
  | [], _, h => nomatch h
  | (n, k) :: r, cs, h => by
    unfold clFrom
    rcases List.mem_cons.mp h with e | h
    · cases e
      refine clFrom_keeps ?_
      rw [if_pos rfl, List.lookup_cons]
      simp
    · exact clFrom_has h
theorem closure_eq {env : Env} {scope : Scope} (h : ∀ y ∈ scope.names, y.2 = .free → ∃ c, env.cells.lookup y.1 = some c) : closureFor scope env = pure (clFrom env.cells scope.names []) := by
  simp only [closureFor]
  have key : ∀ (names : List (Str × NameKind)) (cs : List (Str × Addr)), (∀ y ∈ names, y.2 = .free → ∃ c, env.cells.lookup y.1 = some c) →
      (forIn names cs fun x r => if (x.2 == NameKind.free) = true then do let a ← cellOf env x.1; pure (ForInStep.yield ((x.1, a) :: r)) else pure (ForInStep.yield r) : Sem (List (Str × Addr))) = pure (clFrom env.cells names cs) := by
    intro names
    induction names with
    | nil => intro cs _; rfl
    | cons y r ih =>
      intro cs hn
      obtain ⟨n, k⟩ := y
      rw [List.forIn_cons]
      by_cases hk : k = .free
      · obtain ⟨c, hc⟩ := hn (n, k) List.mem_cons_self hk
        have hc' : env.cells.lookup n = some c := hc
        subst hk
        have e1 : cellOf env n = pure c := by unfold cellOf; rw [hc']
        show (_ >>= _) = _
        simp only [beq_self_eq_true, if_true, e1]
        unfold clFrom
        rw [if_pos rfl, hc']
        exact ih _ fun y hy => hn y (List.mem_cons_of_mem _ hy)
      · have e2 : (k == NameKind.free) = false := by simpa using hk
        show (_ >>= _) = _
        simp only [e2, Bool.false_eq_true, if_false]
        unfold clFrom
        rw [if_neg hk]
        exact ih _ fun y hy => hn y (List.mem_cons_of_mem _ hy)
  rw [key scope.names [] h]
  rfl
end L2

set_option Elab.async false
set_option linter.all false
set_option maxRecDepth 100000
set_option maxHeartbeats 4000000
namespace L2
open PySem PySem.Spec PyProof.Rows
section
variable {prog : Program} {w : World} {A : Around} {R : Result → Shared → Prop} {s : Shared}
abbrev Out (prog : Program) (w : World) (A : Around) (env : Env) (R : Result → Shared → Prop) : Value → Shared → Prop := notedBy (model prog w) A env fun e s' => R (.error e) s'
abbrev testsOf (env : Env) (ifs : List Expr) : Sem Bool := forIn ifs true fun c r => if r = true then do let ok ← isTrue c env (eval c env); pure (ForInStep.yield ok) else pure (ForInStep.yield r)
theorem compLoop_any {elt target iter : Expr} {ifs : List Expr} {scope : Scope} {pos : Pos} {it acc : Value} {env : Env} (I : Nat → Shared → Prop)
    (turn : ∀ k z, I k z → wpAny (model prog w) A (pyNext it) (fun r z1 => match r with
      | none => R (.ok .next) z1
      | some v => wpAny (model prog w) A (letOwnedTupleGo target it v) (fun _ z2 => wpAny (model prog w) A (assign target env v) (fun _ z3 => wpAny (model prog w) A (testsOf env ifs) (fun yes z4 =>
          if yes = true then wpAny (model prog w) A (eval elt env) (fun x z5 => wpAny (model prog w) A (call (.builtin "list.append") [acc, x]) (fun _ z6 => ∃ m, m < k ∧ I m z6) (Out prog w A env R) z5) (Out prog w A env R) z4
          else ∃ m, m < k ∧ I m z4) (Out prog w A env R) z3) (Out prog w A env R) z2) (Out prog w A env R) z1) (Out prog w A env R) z)
    (n : Nat) (h : I n s) : codeAny (model prog w) A (.compLoop (.ListComp elt [⟨target, iter, ifs, 0⟩] scope pos) 0 it acc env) R s := by
  refine codeAny_loop rfl I ?_ n h
  intro k z hz
  refine wpAny_noted ?_
  rw [compTurn_list]
  apply wpAny_bind
  apply wpAny_standAt
  apply wpAny_bind
  refine wpAny_mono (turn k z hz) ?_ fun _ _ e => e
  rintro (_ | v) z1 y1
  · exact wpAny_pure y1
  apply wpAny_bind
  refine wpAny_mono y1 (fun _ z2 y2 => ?_) fun _ _ e => e
  apply wpAny_bind
  refine wpAny_mono y2 (fun _ z3 y3 => ?_) fun _ _ e => e
  apply wpAny_bind
  refine wpAny_mono y3 (fun yes z4 y4 => ?_) fun _ _ e => e
  by_cases b : yes = true
  · subst b
    apply wpAny_bind
    apply wpAny_bind
    refine wpAny_mono y4 (fun x z5 y5 => ?_) fun _ _ e => e
    apply wpAny_bind
    exact wpAny_mono y5 (fun _ z6 y6 => wpAny_pure (wpAny_pure ⟨rfl, y6⟩)) fun _ _ e => e
  · have nb : yes = false := by simpa using b
    subst nb
    exact wpAny_pure ⟨rfl, y4⟩
end
def CompCx (X : Cx) (N' : List Str) (scope : Scope) (C : Addr) (s₀ : Shared) (H₀ : Hp) (ex : List Addr) (pn : List (Addr × Obj)) : Cx :=
  { X with N := N', s₀ := s₀, H₀ := H₀, env := compEnvC scope (clFrom X.env.cells scope.names []) C X.env, outer := X.stack, ex := ex, fn := fun _ => false, pn := pn, xe := fun _ _ => False }
structure CSc (X : Cx) (scope : Scope) (vs fs : List Str) (fr : List Nat) : Prop where
  kind : scope.kind = .function
  cell : (scope.names.all fun y => y.2 != .cell) = true
  free : (scope.names.all fun y => y.2 != .free || (X.env.kindOf y.1 == some .cell || X.env.kindOf y.1 == some .free)) = true
  loc : (scope.names.all fun y => y.2 != .local || scope.names.lookup y.1 == some .local) = true
  fre : (scope.names.all fun y => y.2 != .free || scope.names.lookup y.1 == some .free) = true
  fsf : (fs.all fun x => scope.names.lookup x == some .free) = true
  at' : fr.map (fun i => X.N[i]?) = fs.map some
def PTs (X : Cx) (ifs : List Expr) (t : TT) : Prop :=
  ∀ (pins : List (Addr × Obj)) (s : Shared) (σ : St) (H : Hp) (Q : Bool → Hp → Prop), Inv X pins σ H s → t σ H Q →
    wpAny (model X.prog X.w) X.A (forIn ifs true fun c r => if r = true then do let ok ← isTrue c X.env (eval c X.env); pure (ForInStep.yield ok) else pure (ForInStep.yield r)) (TP X pins σ Q) X.xe s
def tYes : TT := fun _ H Q => Q true H
theorem pts_nil {X : Cx} : PTs X [] tYes := fun _ _ _ H _ I h => wpAny_tests_nil ⟨H, I, h⟩
theorem pts_one {X : Cx} {c : Expr} {t : TT} (h : PT X c t) : PTs X [c] t := fun pins s σ H Q I q => wpAny_tests_one (h pins s σ H Q I q)
def stIn (vs : List Str) (fr : List Nat) (σ : St) : St := vs.map (fun _ => none) ++ fr.map fun i => (σ[i]?).join
def CompW (J : It) (vs : List Str) (fr : List Nat) (g : TG) (tt : TT) (te : TE) (σ : St) (H1 : Hp) (Q : VK) : Prop :=
  ∃ W : Nat → Nat → St → List V → Hp → Prop, (∃ m, W 0 m (stIn vs fr σ) [] H1) ∧ ∀ i m σ' ys H, W i m σ' ys H →
    (J.stop i H ∧ ys.length ≤ sizeLine ∧ ∀ D, H D = none → Q (.ref D) (upd H D (.lst ys))) ∨
    (J.go i H ∧ ys.length ≤ sizeLine ∧ ∃ N : St → List V → Hp → Prop, (∀ σ2 ys2 H2, N σ2 ys2 H2 → ∃ m', m' < m ∧ W (i + 1) m' σ2 ys2 H2) ∧ ∀ x H', J.yld i H x H' → g x σ' H' fun σ2 H2 => tt σ2 H2 fun b H3 =>
      if b = true then te σ2 H3 fun y H4 => N σ2 (ys ++ [y]) H4 else N σ2 ys H3)
def tComp (wi : TI) (vs : List Str) (fr : List Nat) (g : TG) (tt : TT) (te : TE) : TE := fun σ H Q => wi σ H fun J H1 => CompW J vs fr g tt te σ H1 Q
section
variable {X : Cx} {tg elt iter : Expr} {ifs : List Expr} {scope : Scope} {pos : Pos} {vs fs : List Str} {fr : List Nat}
theorem mem_all {α : Type} {p : α → Bool} {l : List α} (h : l.all p = true) {x : α} (hx : x ∈ l) : p x = true := List.all_eq_true.mp h x hx
theorem CSc.cell' (S : CSc X scope vs fs fr) : ∀ y ∈ scope.names, y.2 ≠ .cell := fun y hy e => by have := mem_all S.cell hy; rw [e] at this; simp at this
theorem CSc.free' (S : CSc X scope vs fs fr) : ∀ y ∈ scope.names, y.2 = .free → X.env.kindOf y.1 = some .cell ∨ X.env.kindOf y.1 = some .free := fun y hy e => by
  have := mem_all S.free hy; rw [e] at this; simpa using this
theorem CSc.loc' (S : CSc X scope vs fs fr) : ∀ y ∈ scope.names, y.2 = .local → scope.names.lookup y.1 = some .local := fun y hy e => by
  have := mem_all S.loc hy; rw [e] at this; simpa using this
theorem lookup_mem {α β : Type} [BEq α] [LawfulBEq α] : ∀ {l : List (α × β)} {x : α} {k : β}, l.lookup x = some k → (x, k) ∈ l
  | [], _, _, h => by simp at h
  | (n, k') :: r, x, k, h => by
    rw [List.lookup_cons] at h
    cases e : x == n with
    | true => rw [e] at h; cases h; rw [eq_of_beq e]; exact List.mem_cons_self
    | false => rw [e] at h; exact List.mem_cons_of_mem _ (lookup_mem h)
theorem relabel_kind {env : Env} {x : Str} : ∀ {names : List (Str × NameKind)} {k : NameKind},
    (names.map fun (n, k) => if (k == NameKind.free && env.scope.kind == .function && env.kindOf n == some .cell) then (n, NameKind.cell) else (n, k)).lookup x = some k →
    names.lookup x = some k ∨ (k = .cell ∧ names.lookup x = some .free)
  | [], _, h => by simp at h
  | (n, k') :: r, k, h => by
    have ih := @relabel_kind env x r k
    have h' : List.lookup x ((if (k' == NameKind.free && env.scope.kind == .function && env.kindOf n == some .cell) = true then (n, NameKind.cell) else (n, k')) :: (r.map fun (n, k) => if (k == NameKind.free && env.scope.kind == .function && env.kindOf n == some .cell) then (n, NameKind.cell) else (n, k))) = some k := h
    cases hx : x == n with
    | true =>
      by_cases hc : (k' == NameKind.free && env.scope.kind == .function && env.kindOf n == some .cell) = true
      · rw [if_pos hc] at h'
        simp only [List.lookup_cons, hx] at h' ⊢
        cases h'
        have : k' = .free := by simp at hc; exact hc.1.1
        exact .inr ⟨rfl, by rw [this]⟩
      · rw [if_neg hc] at h'
        simp only [List.lookup_cons, hx] at h' ⊢
        exact .inl h'
    | false =>
      by_cases hc : (k' == NameKind.free && env.scope.kind == .function && env.kindOf n == some .cell) = true
      · rw [if_pos hc] at h'
        simp only [List.lookup_cons, hx] at h' ⊢
        exact ih h'
      · rw [if_neg hc] at h'
        simp only [List.lookup_cons, hx] at h' ⊢
        exact ih h'
theorem relabel_free {env : Env} {x : Str} : ∀ {names : List (Str × NameKind)}, names.lookup x = some .free →
    let l := (names.map fun (n, k) => if (k == NameKind.free && env.scope.kind == .function && env.kindOf n == some .cell) then (n, NameKind.cell) else (n, k)).lookup x
    l = some .cell ∨ l = some .free
  | [], h => by simp at h
  | (n, k') :: r, h => by
    have ih := @relabel_free env x r
    show List.lookup x ((if (k' == NameKind.free && env.scope.kind == .function && env.kindOf n == some .cell) = true then (n, NameKind.cell) else (n, k')) :: (r.map fun (n, k) => if (k == NameKind.free && env.scope.kind == .function && env.kindOf n == some .cell) then (n, NameKind.cell) else (n, k))) = some .cell ∨
      List.lookup x ((if (k' == NameKind.free && env.scope.kind == .function && env.kindOf n == some .cell) = true then (n, NameKind.cell) else (n, k')) :: (r.map fun (n, k) => if (k == NameKind.free && env.scope.kind == .function && env.kindOf n == some .cell) then (n, NameKind.cell) else (n, k))) = some .free
    cases hx : x == n with
    | true =>
      simp only [List.lookup_cons, hx] at h
      have h : k' = .free := Option.some.inj h
      by_cases hc : (k' == NameKind.free && env.scope.kind == .function && env.kindOf n == some .cell) = true
      · rw [if_pos hc, List.lookup_cons, hx]; exact .inl rfl
      · rw [if_neg hc, List.lookup_cons, hx, h]; exact .inr rfl
    | false =>
      simp only [List.lookup_cons, hx] at h
      by_cases hc : (k' == NameKind.free && env.scope.kind == .function && env.kindOf n == some .cell) = true
      · rw [if_pos hc]; simp only [List.lookup_cons, hx]; exact ih h
      · rw [if_neg hc]; simp only [List.lookup_cons, hx]; exact ih h
end
end L2

set_option Elab.async false
set_option linter.all false
set_option maxRecDepth 100000
set_option maxHeartbeats 4000000
namespace L2
open PySem PySem.Spec PyProof.Rows
section
variable {X : Cx} {tg elt iter : Expr} {ifs : List Expr} {scope : Scope} {pos : Pos} {vs fs : List Str} {fr : List Nat}
theorem CSc.clos (S : CSc X scope vs fs fr) (ok : X.Ok) : ∀ y ∈ scope.names, y.2 = .free → ∃ c, X.env.cells.lookup y.1 = some c := fun y hy e => ok.has y.1 (S.free' y hy e)
theorem CSc.cl (S : CSc X scope vs fs fr) (ok : X.Ok) {x : Str} {c : Addr} (e : (clFrom X.env.cells scope.names []).lookup x = some c) : X.env.cells.lookup x = some c :=
  clFrom_some (S.clos ok) (fun _ _ q => by simp at q) x c e
theorem lt_fresh {h : Heap} {b : Addr} {o : Obj} {n : Nat} (e : h.get? b = some o) (hn : h.objs.size ≤ n) : b ≠ n := Nat.ne_of_lt (Nat.lt_of_lt_of_le (Heap.lt_size e) hn)
theorem comp_start {pins : List (Addr × Obj)} {σ : St} {H : Hp} {s : Shared} {fp : List Addr} {C : Addr} {h1 : Heap} {tk : Nat} {m1 : Str → Option Value} (S : CSc X scope vs fs fr) (I : Inv X pins σ H s)
    (hf : ∀ b ∈ fp, FpOk X pins H b) (hfo : ∀ b ∈ fp, ∃ o, s.heap.get? b = some o) (hC : s.heap.objs.size ≤ C) (hn : h1.Ns C m1) (old : ∀ b o, s.heap.get? b = some o → h1.get? b = some o) :
    Inv (CompCx X (vs ++ fs) scope C s H fp (X.pn ++ pins)) [] (stIn vs fr σ) H { s with heap := h1, toks := tk } := by
  have cl := fun x c e => S.cl I.ok (x := x) (c := c) e
  have hsub := I.stkSub
  have cellLt : ∀ x c, X.env.cells.lookup x = some c → c < s.heap.objs.size := fun x c e => by obtain ⟨v, q⟩ := I.cell x c e; exact q.lt
  refine ⟨⟨I.ok.mod, S.kind, I.ok.glob, I.ok.blt, hC, fun x y c e1 e2 => I.ok.inj x y c (cl x c e1) (cl y c e2), fun x hx => ?_, fun _ _ z _ => (nomatch z), I.ok.hd, I.ok.frames, .inl rfl, fun b hb => ?_, I.bs, Nat.le_trans I.ok.bsz I.sz, fun b o e hb => ?_, fun b hb z => ?_, I.stack, I.stkFree⟩,
    rfl, I.bare, Un.kept old, ⟨m1, hn, fun i x v e1 e2 e3 => ?_⟩, fun x c e => ?_, I.hok.fresh hC, fun x c e => I.freeC x c (cl x c e), fun p hp => ?_, I.hok.kept old, ?_⟩
  · -- has
    have hx' : (relabel scope X.env).names.lookup x = some .cell ∨ (relabel scope X.env).names.lookup x = some .free := hx
    have : scope.names.lookup x = some .free := by
      rcases hx' with q | q
      · rcases relabel_kind q with q | ⟨_, q⟩
        · exact absurd rfl (S.cell' _ (lookup_mem q))
        · exact q
      · rcases relabel_kind q with q | ⟨q, _⟩
        · exact q
        · cases q
    exact clFrom_has (lookup_mem this)
  · -- exf
    obtain ⟨o, ho⟩ := hfo b hb
    obtain ⟨f0, f1, f2, f3, f4, f5⟩ := hf b hb
    exact ⟨lt_fresh ho hC, fun x c e => f4 x c (cl x c e)⟩
  · -- noex
    have e' := (I.ok.bs b o e).1
    obtain ⟨_, _, _, f3, _, _⟩ := hf b hb
    rcases f3 with z | z
    · exact I.ok.noex b o e z
    · exact absurd (Nat.lt_of_lt_of_le (Heap.lt_size e') z) (Nat.lt_irrefl _)
  · -- exfs
    obtain ⟨_, f1, f2, _⟩ := hf b hb
    rcases List.mem_cons.mp (hsub b z) with q | q
    · exact f1 q
    · exact f2 q
  · -- loc
    have e1 : (vs ++ fs)[i]? = some x := e1
    unfold stIn at e2
    by_cases hi : i < vs.length
    · rw [List.getElem?_append_left (by simpa using hi)] at e2
      simp [hi] at e2
    · rw [List.getElem?_append_right (by simpa using hi), List.length_map, List.getElem?_map] at e2
      rw [List.getElem?_append_right (by simpa using hi)] at e1
      obtain ⟨j, hj⟩ : ∃ j, fr[i - vs.length]? = some j := by
        cases q : fr[i - vs.length]? with
        | none => rw [q] at e2; cases e2
        | some j => exact ⟨j, rfl⟩
      rw [hj] at e2
      have e2' : (σ[j]?).join = some v := Option.some.inj e2
      have hσ : σ[j]? = some (some v) := by
        cases q : σ[j]? with
        | none => rw [q] at e2'; cases e2'
        | some r => rw [q] at e2'; exact congrArg some e2'
      have hN : X.N[j]? = some x := by
        have := congrArg (fun l => l[i - vs.length]?) S.at'
        simp only [List.getElem?_map, hj, e1, Option.map_some] at this
        exact Option.some.inj this
      have hxf : scope.names.lookup x = some .free := by
        have := mem_all S.fsf (List.mem_of_getElem? e1)
        simpa using this
      have hk := S.free' _ (lookup_mem hxf) rfl
      obtain ⟨m, hm, hl⟩ := I.loc
      have hvis : Vis X.env.scope x := by
        rcases hk with k | k
        · exact .inr (.inl k)
        · exact .inr (.inr k)
      obtain ⟨u, ru, lk⟩ := hl j x v hN hσ hvis
      refine ⟨u, ru, ?_⟩
      rcases lk with ⟨k, _⟩ | ⟨_, c, hc, hv⟩
      · have k' : X.env.kindOf x = some .local := k
        rcases hk with z | z
        · have z' : X.env.kindOf x = some .cell := z
          rw [k'] at z'; cases z'
        · have z' : X.env.kindOf x = some .free := z
          rw [k'] at z'; cases z'
      · obtain ⟨c', hc'⟩ := clFrom_has (cells := X.env.cells) (cs := []) (lookup_mem hxf)
        have := cl x c' hc'
        rw [hc] at this
        cases this
        refine .inr ⟨relabel_free hxf, c, hc', ?_⟩
        obtain ⟨o, ho, hd⟩ := hv
        exact ⟨o, old c o ho, hd⟩
  · -- cell
    obtain ⟨v, o, ho, hd⟩ := I.cell x c (cl x c e)
    exact ⟨v, o, old c o ho, hd⟩
  · -- pin
    have hp' : p ∈ X.pn ++ pins := by simpa [CompCx] using hp
    obtain ⟨e, n, ne, nf, d⟩ := I.pin p hp'
    refine ⟨old _ _ e, n, lt_fresh e hC, fun z => ?_, d⟩
    rcases List.mem_cons.mp (hsub _ z) with q | q
    · exact ne q
    · exact nf q
  · show (stIn vs fr σ).length = (vs ++ fs).length
    have := congrArg List.length S.at'
    simp only [List.length_map] at this
    unfold stIn
    simp [this]
theorem comp_back {pins : List (Addr × Obj)} {σ σ' : St} {H H' : Hp} {s s' : Shared} {fp : List Addr} {C D : Addr} {ys : List V} {its : List Value} {n : Nat} {pl : List (Addr × Obj)} (I : Inv X pins σ H s)
    (hf : ∀ b ∈ fp, FpOk X pins H b) (J : Inv (CompCx X (vs ++ fs) scope C s H fp (X.pn ++ pins)) pl σ' H' s')
    (hD : s.heap.objs.size ≤ D) (hDn : H' D = none) (hl : ys.length ≤ sizeLine) (r : Vals ys its) (ho : s'.heap.get? D = some { cls := .type "list", data := .seq its.toArray n }) : Inv X pins σ (upd H' D (.lst ys)) s' := by
  have ne : ∀ b o, s.heap.get? b = some o → b ≠ D := fun b o e => lt_fresh e hD
  have u : Un (frs X.stack) fp H H' s.heap s'.heap := J.base
  refine I.call' (ch := fp) J.os ⟨u.keep, u.slot, fun b o e q hx => ?_, u.there, fun b xs e => ?_, fun b o xs e => ?_, fun b ps e => ?_⟩ (fun b o e => ?_) J.bare fun b hb => ?_
  · rw [upd_ne (ne b o e)]; exact u.free b o e q hx
  · rw [upd_ne (ne_of_none (u.tups b xs e) hDn)]; exact u.tups b xs e
  · rw [upd_ne (ne_of_none (u.frzs b o xs e) hDn)]; exact u.frzs b o xs e
  · obtain ⟨more, q⟩ := u.tbls b ps e
    exact ⟨more, by rw [upd_ne (ne_of_none q hDn)]; exact q⟩
  · by_cases hb : b = D
    · subst hb
      rw [upd_same] at e; cases e
      exact ⟨hl, its, n, r, ho⟩
    · rw [upd_ne hb] at e
      exact (J.hok b o e).stay (fun _ _ _ q => q) (fun c q => by rw [upd_ne (ne_of_none q hDn)]; exact q) fun c xs q => by rw [upd_ne (ne_of_none q hDn)]; exact q
  · obtain ⟨f0, f1, f2, f3, f4, f5⟩ := hf b hb
    exact ⟨f3, f1, f4, f5⟩
end
end L2

set_option Elab.async false
set_option linter.all false
set_option maxRecDepth 100000
set_option maxHeartbeats 4000000
namespace L2
open PySem PySem.Spec PyProof.Rows
section
variable {X : Cx} {tg elt iter : Expr} {ifs : List Expr} {scope : Scope} {pos : Pos} {vs fs : List Str} {fr : List Nat} {g : TG} {tt : TT} {te : TE}
theorem no_xe {α : Type} {M : Model} {A : Around} {t : Sem α} {Q Q' : α → Shared → Prop} {E : Value → Shared → Prop} {s : Shared} (h : wpAny M A t Q (fun _ _ => False) s) (hQ : ∀ a s, Q a s → Q' a s) : wpAny M A t Q' E s :=
  wpAny_mono h hQ fun _ _ f => False.elim f
theorem comp_block {pins : List (Addr × Obj)} {σ : St} {H : Hp} {s : Shared} {Q : VK} {it : Addr} {fp : List Addr} {tn : Nat → Heap → Prop} {J : It} {RR : Value → Addr → Result → Shared → Prop}
    (S : CSc X scope vs fs fr) (hc : X.calm = true)
    (bG : ∀ C s₀ H₀ ex pn, PG (CompCx X (vs ++ fs) scope C s₀ H₀ ex pn) tg g) (bT : ∀ C s₀ H₀ ex pn, PTs (CompCx X (vs ++ fs) scope C s₀ H₀ ex pn) ifs tt) (bE : ∀ C s₀ H₀ ex pn, PE (CompCx X (vs ++ fs) scope C s₀ H₀ ex pn) elt te)
    (I : Inv X pins σ H s) (T : Turn X.prog X.w X.K tg J fp it tn) (st : tn 0 s.heap) (hf : ∀ b ∈ fp, FpOk X pins H b)
    (q : CompW J vs fr g tt te σ H Q)
    (hRR : ∀ D C H' s' m', Inv X pins σ H' s' → Q (.ref D) H' → s'.heap.Ns C m' → H' C = none → s.heap.objs.size ≤ C → RR (.ref D) C (.ok .next) s') :
    wpAny (model X.prog X.w) X.A (newList []) (fun acc s₃ => wpAny (model X.prog X.w) X.A (newFunctionEnv scope X.env.globals (clFrom X.env.cells scope.names []) [] X.env.qual none .none (some X.env)) (fun cenv s₄ =>
      codeAny (model X.prog X.w) X.A (.compStart (.ListComp elt [⟨tg, iter, ifs, 0⟩] scope pos) 0 (.ref it) acc { cenv with scope := relabel scope X.env }) (RR acc cenv.locals) s₄) X.xe s₃) X.xe s := by
  obtain ⟨W, ⟨m0, w0⟩, turn⟩ := q
  refine wpAny_newObj_type (wpAny_newFunctionEnv S.cell' (by intro y hy; simp at hy) (fun h₁ hns₁ hsb₁ => ?_) S.kind)
  dsimp only at hns₁ hsb₁ ⊢
  generalize hH2 : s.heap.push { cls := .type "list", dict := none, data := .seq ([] : List Value).toArray } = H2 at hns₁ hsb₁ ⊢
  have hCs : H2.objs.size = s.heap.objs.size + 1 := by rw [← hH2, Heap.size_push]
  have hDC : s.heap.objs.size ≠ H2.objs.size := by rw [hCs]; exact Nat.ne_of_lt (Nat.lt_succ_self _)
  have hCle : s.heap.objs.size ≤ H2.objs.size := by rw [hCs]; exact Nat.le_succ _
  have old : ∀ b o, s.heap.get? b = some o → h₁.get? b = some o := fun b o e => hsb₁.extBut b o (lt_fresh e hCle) (Heap.get?_push_of_some _ (hH2 ▸ Heap.get?_push_of_some _ e))
  have hacc : h₁.get? s.heap.objs.size = some { cls := .type "list", data := .seq ([] : List Value).toArray 0 } := hsb₁.extBut _ _ hDC (Heap.get?_push_of_some _ (hH2 ▸ Heap.get?_push_size _ rfl))
  have hfo : ∀ b ∈ fp, ∃ o, s.heap.get? b = some o := fun b hb => by obtain ⟨o, e, _⟩ := T.obj 0 _ st b hb; exact ⟨o, e⟩
  generalize hY : CompCx X (vs ++ fs) scope H2.objs.size s H fp (X.pn ++ pins) = Y
  have J0 : Inv Y [] (stIn vs fr σ) H { s with heap := h₁, toks := s.toks + ([] : List (Str × Value)).length } := by
    rw [← hY]; exact comp_start S I hf hfo hCle hns₁ old
  have hG : PG Y tg g := by rw [← hY]; exact bG _ _ _ _ _
  have hT : PTs Y ifs tt := by rw [← hY]; exact bT _ _ _ _ _
  have hE : PE Y elt te := by rw [← hY]; exact bE _ _ _ _ _
  have ePr : Y.prog = X.prog := by rw [← hY]; rfl
  have eW : Y.w = X.w := by rw [← hY]; rfl
  have eK : Y.K = X.K := by rw [← hY]; rfl
  have eA : Y.A = X.A := by rw [← hY]; rfl
  have eC : Y.calm = true := by rw [← hY]; exact hc
  have eEnv : Y.env = compEnvC scope (clFrom X.env.cells scope.names []) H2.objs.size X.env := by rw [← hY]; rfl
  have eL : Y.env.locals = H2.objs.size := by rw [eEnv]; rfl
  have eX : Y.xe = fun _ _ => False := by rw [← hY]; rfl
  have eS : Y.s₀ = s := by rw [← hY]; rfl
  have eEx : Y.ex = fp := by rw [← hY]; rfl
  have eFs : Y.fs = frs X.stack := by rw [← hY]; rfl
  have ePn : Y.pn = X.pn ++ pins := by rw [← hY]; rfl
  have eCl : ∀ x c, Y.env.cells.lookup x = some c → X.env.cells.lookup x = some c := fun x c e => by
    rw [eEnv] at e; exact S.cl I.ok e
  have cellLt : ∀ x c, Y.env.cells.lookup x = some c → c ≠ s.heap.objs.size := fun x c e => by
    obtain ⟨v, z⟩ := I.cell x c (eCl x c e); exact Nat.ne_of_lt z.lt
  have pnLt : ∀ p ∈ Y.pn, p.1 ≠ s.heap.objs.size := fun p hp => by
    rw [ePn] at hp; exact lt_fresh (I.pin p hp).1 (Nat.le_refl _)
  have fpD : ∀ b ∈ fp, b ≠ s.heap.objs.size := fun b hb => by obtain ⟨o, e⟩ := hfo b hb; exact lt_fresh e (Nat.le_refl _)
  have hDfs : s.heap.objs.size ∉ Y.fs := fun z => by
    rw [eFs] at z
    rcases List.mem_cons.mp (I.stkSub _ z) with z | z
    · exact absurd I.lt (by rw [← z]; exact Nat.lt_irrefl _)
    · exact I.nofs (Nat.le_refl _) z
  have stat : ∀ {H' : Hp} {o : Obj}, (∀ b ∈ fp, H' b = none) → ∀ b ∈ fp, FpOk Y [(s.heap.objs.size, o)] H' b := fun {H' o} hn b hb => by
    obtain ⟨f0, f1, f2, f3, f4, f5⟩ := hf b hb
    obtain ⟨ob, e⟩ := hfo b hb
    refine ⟨hn b hb, by rw [eL]; exact lt_fresh e hCle, fun z => ?_, .inl (by rw [eEx]; exact hb), fun x c e => f4 x c (eCl x c e), fun p hp => ?_⟩
    · rw [eFs] at z
      rcases List.mem_cons.mp (I.stkSub _ z) with z | z
      · exact f1 z
      · exact f2 z
    · rcases List.mem_append.mp hp with hp | hp
      · rw [ePn] at hp; exact f5 p hp
      · have : p = (s.heap.objs.size, o) := by simpa using hp
        rw [this]; exact Ne.symm (fpD b hb)
  have pinD : ∀ {σ' : St} {H' : Hp} {s' : Shared} {its : List Value} {k : Nat}, Inv Y [] σ' H' s' → H' s.heap.objs.size = none → s'.heap.get? s.heap.objs.size = some { cls := .type "list", data := .seq its.toArray k } →
      Inv Y [(s.heap.objs.size, { cls := .type "list", data := .seq its.toArray k })] σ' H' s' := fun {σ' H' s' its k} i hn e => i.pins_of fun p hp => by
    have : p = (s.heap.objs.size, { cls := .type "list", data := .seq its.toArray k }) := by simpa using hp
    subst this
    exact ⟨e, hn, by rw [eL]; exact hDC, hDfs, fun v z => by cases z⟩
  have loop : ∀ s₃ : Shared, s₃ = { s with heap := h₁, toks := s.toks + ([] : List (Str × Value)).length } →
      codeAny (model X.prog X.w) X.A (.compLoop (.ListComp elt [⟨tg, iter, ifs, 0⟩] scope pos) 0 (.ref it) (.ref s.heap.objs.size) (compEnvC scope (clFrom X.env.cells scope.names []) H2.objs.size X.env))
        (RR (.ref s.heap.objs.size) H2.objs.size) s₃ := by
    rintro s₃ rfl
    rw [← eEnv, ← ePr, ← eW, ← eA]
    refine compLoop_any (fun n s' => ∃ i σ' ys its k H', Inv Y [(s.heap.objs.size, { cls := .type "list", data := .seq its.toArray k })] σ' H' s' ∧ Vals ys its ∧ tn i s'.heap ∧ (∀ b ∈ fp, H' b = none) ∧ W i n σ' ys H') ?_ m0
      ⟨0, _, [], [], 0, H, pinD J0 (I.hok.fresh (Nat.le_refl _)) hacc, .nil, T.keep _ _ _ st fun b _ o e => old b o e, fun b hb => (hf b hb).1, w0⟩
    rintro n s3 ⟨i, σ3, ys, its, k, H3, J3, rv, st3, fr3, w3⟩
    have pD := J3.pin (s.heap.objs.size, _) (List.mem_append_right _ (List.mem_singleton.mpr rfl))
    have eI := rv.length
    rcases turn i n σ3 ys H3 w3 with ⟨stop, hlen, qn⟩ | ⟨go, hlen, N, hN, step⟩
    · have dn := T.done Y ePr eW eK eC i _ s3 σ3 H3 (fun _ _ => False) J3 (stat fr3) st3 stop
      rw [← ePr, ← eW] at dn
      refine no_xe dn fun r s4 ⟨hr, J4⟩ => ?_
      subst hr
      have pD4 := J4.pin (s.heap.objs.size, _) (List.mem_append_right _ (List.mem_singleton.mpr rfl))
      obtain ⟨m4, hm4, _⟩ := id J4.loc
      rw [eL] at hm4
      have nC : H3 H2.objs.size = none := by rw [← eL]; exact J4.free
      refine hRR _ _ _ s4 m4 (comp_back I hf (by rw [hY]; exact J4) (Nat.le_refl _) pD4.2.1 hlen rv pD4.1) (qn _ pD4.2.1) hm4 ?_ hCle
      rw [upd_ne (Ne.symm hDC)]; exact nC
    · have im := T.item Y ePr eW eK eC i _ s3 σ3 H3 (fun _ _ => False) J3 (stat fr3) st3 go
      rw [← ePr, ← eW] at im
      refine no_xe im fun r s4 ⟨u, hr, h4⟩ => ?_
      subst hr
      refine no_xe h4 fun _ s5 ⟨x, H5, J5, r5, y5, st5, fr5⟩ => ?_
      have J5' := J5.pinned (stat fr5) (T.obj _ _ st5)
      have go1 := hG _ s5 σ3 H5 x u _ J5' r5 (step x H5 y5)
      rw [eX] at go1
      refine no_xe go1 fun _ s6 ⟨σ6, H6, J6, q6⟩ => ?_
      have go2 := hT _ s6 σ6 H6 _ J6 q6
      rw [eX] at go2
      refine no_xe go2 fun ok s7 ⟨H7, J7, q7⟩ => ?_
      have fin : ∀ {σ8 : St} {H8 : Hp} {s8 : Shared}, Inv Y ([(s.heap.objs.size, { cls := .type "list", data := .seq its.toArray k })] ++ pinsAt fp s5.heap) σ8 H8 s8 →
          tn (i + 1) s8.heap ∧ (∀ b ∈ fp, H8 b = none) := fun {σ8 H8 s8} J8 => by
        refine ⟨T.keep _ _ _ st5 fun b hb o e => (J8.pin (b, o) (List.mem_append_right _ (List.mem_append_right _ (mem_pinsAt hb e)))).1, fun b hb => ?_⟩
        obtain ⟨o, e, d⟩ := T.obj _ _ st5 b hb
        exact (J8.pin (b, o) (List.mem_append_right _ (List.mem_append_right _ (mem_pinsAt hb e)))).2.1
      cases ok with
      | false =>
        rw [if_neg Bool.false_ne_true] at q7 ⊢
        obtain ⟨m', hm, w7⟩ := hN _ _ _ q7
        exact ⟨m', hm, i + 1, σ6, ys, its, k, H7, J7.unpinned, rv, (fin J7).1, (fin J7).2, w7⟩
      | true =>
        rw [if_pos rfl] at q7 ⊢
        have go3 := hE _ s7 σ6 H7 _ J7 q7
        rw [eX] at go3
        refine no_xe go3 fun yv s8 ⟨y, H8, J8, r8, n8⟩ => ?_
        obtain ⟨m', hm, w8⟩ := hN _ _ _ n8
        have pD8 := J8.pin (s.heap.objs.size, _) (List.mem_append_right _ (List.mem_append_left _ (List.mem_singleton.mpr rfl)))
        refine append_at (hsz := by rw [List.size_toArray, ← eI]; exact hlen) pD8.1 fun h9 hs9 hD9 => ?_
        have J9 : Inv Y [] σ6 H8 { s8 with heap := h9 } := (J8.pins_of (pins' := []) fun p hp => absurd hp (by simp)).turned (t' := s8.toks) (fun b o hb e => (hs9.2 b hb).trans e) pD8.2.1 (by rw [eL]; exact hDC)
          (.inr (by rw [eS]; exact Nat.le_refl _)) cellLt fun p hp => pnLt p (by simpa using hp)
        refine ⟨m', hm, i + 1, σ6, ys ++ [y], its ++ [yv], k + 1, H8, pinD J9 pD8.2.1 (by rw [hD9, List.push_toArray]), Vals.append rv (.cons r8 .nil), ?_, (fin J8).2, w8⟩
        exact T.keep _ _ _ (fin J8).1 fun b hb o e => (hs9.2 b (fpD b hb)).trans e
  exact codeAny_compStart_list (loop _ rfl) (T.self _ 0 _ _ _ (T.keep _ _ _ st fun b _ o e => old b o e) (loop _ rfl))
theorem pe_comp {wi : TI} (S : CSc X scope vs fs fr) (hc : X.calm = true) (hi : PI X tg iter wi)
    (bG : ∀ C s₀ H₀ ex pn, PG (CompCx X (vs ++ fs) scope C s₀ H₀ ex pn) tg g) (bT : ∀ C s₀ H₀ ex pn, PTs (CompCx X (vs ++ fs) scope C s₀ H₀ ex pn) ifs tt) (bE : ∀ C s₀ H₀ ex pn, PE (CompCx X (vs ++ fs) scope C s₀ H₀ ex pn) elt te)
    (hs : ∀ x, foldedSetIterable iter X.env x = pure x := by intro _; rfl) :
    PE X (.ListComp elt [⟨tg, iter, ifs, 0⟩] scope pos) (tComp wi vs fr g tt te) := by
  intro pins s σ H Q I h
  rw [eval_ListComp]
  refine wpAny_comprehension_free (use := none) rfl hs (closure_eq (S.clos I.ok)) S.kind S.loc' (thn (hi pins s σ H _ I h) fun v s1 h1 => thn h1 fun itv s2 h2 => ?_)
  obtain ⟨it, fp, tn, J, H2, e, I2, T, st2, f2, q2⟩ := h2
  subst e
  refine comp_block (RR := fun acc C => compPost (model X.prog X.w) X.A X.xe none (EP X pins σ Q) acc C) S hc bG bT bE I2 T st2 f2 q2 ?_
  intro D C H' s' m' I' hq hn hC hle
  refine ⟨m', hn, fun h' hs' => ⟨.ref D, H', ?_, rfl, hq⟩⟩
  refine I'.turned (t' := s'.toks) (fun b o hb e => (hs'.2 b hb).trans e) hC ?_ (.inr (Nat.le_trans I2.sz hle)) ?_ ?_
  · exact Nat.ne_of_gt (Nat.lt_of_lt_of_le I2.lt hle)
  · intro x c e
    obtain ⟨v, z⟩ := I2.cell x c e
    exact Nat.ne_of_lt (Nat.lt_of_lt_of_le z.lt hle)
  · intro p hp
    exact lt_fresh (I2.pin p hp).1 hle
theorem ps_comp {wi : TI} {i : Nat} {x : Str} {px spos : Pos} (hN : X.N.Nodup) (hx : X.N[i]? = some x) (hl : X.env.scope.names.lookup x = some .local)
    (S : CSc X scope vs fs fr) (hc : X.calm = true) (hi : PI X tg iter wi)
    (bG : ∀ C s₀ H₀ ex pn, PG (CompCx X (vs ++ fs) scope C s₀ H₀ ex pn) tg g) (bT : ∀ C s₀ H₀ ex pn, PTs (CompCx X (vs ++ fs) scope C s₀ H₀ ex pn) ifs tt) (bE : ∀ C s₀ H₀ ex pn, PE (CompCx X (vs ++ fs) scope C s₀ H₀ ex pn) elt te)
    (hsw : swapsWith (.ListComp elt [⟨tg, iter, ifs, 0⟩] scope pos) (some (.Name x px)) spos.line X.env = pure true := by rfl)
    (hs : ∀ x, foldedSetIterable iter X.env x = pure x := by intro _; rfl) :
    PS X (.Assign [.Name x px] (.ListComp elt [⟨tg, iter, ifs, 0⟩] scope pos) spos) (fun D σ H => tComp wi vs fr g tt te σ H fun v H1 => D.nx (σ.set i (some v)) H1) := by
  intro pins s σ H D I h
  rw [exec_Assign_Name_used _ _ _ _ hsw]
  refine wpAny_bind (wpAny_standAt (wpAny_bind ?_))
  show wpAny _ X.A (do let _ ← comprehension (.ListComp elt [⟨tg, iter, ifs, 0⟩] scope pos) scope X.env _ (newList []) false (eval iter X.env) (some (assign (.Name x px) X.env))) _ _ s
  refine wpAny_bind (wpAny_mono (wpAny_comprehension_free (use := some (assign (.Name x px) X.env)) (Q := fun _ s' => SP X pins D .next s') rfl hs (closure_eq (S.clos I.ok)) S.kind S.loc'
    (thn (hi pins s σ H _ I h) fun v s1 h1 => thn h1 fun itv s2 h2 => ?_)) (fun _ s' hq => wpAny_pure (wpAny_pure hq)) fun _ _ e => e)
  obtain ⟨it, fp, tn, J, H2, e, I2, T, st2, f2, q2⟩ := h2
  subst e
  refine comp_block (RR := fun acc C => compPost (model X.prog X.w) X.A X.xe (some (assign (.Name x px) X.env)) (fun _ s' => SP X pins D .next s') acc C) (Q := fun v H1 => D.nx (σ.set i (some v)) H1) S hc bG bT bE I2 T st2 f2 q2 ?_
  intro Dd C H' s' m' I' hq hn hC hle
  show wpAny _ X.A (assign (.Name x px) X.env (.ref Dd)) _ _ _
  have hCL : C ≠ X.env.locals := Nat.ne_of_gt (Nat.lt_of_lt_of_le I2.lt hle)
  have hCc : ∀ x c, X.env.cells.lookup x = some c → c ≠ C := fun x c e => by
    obtain ⟨v, z⟩ := I2.cell x c e
    exact Nat.ne_of_lt (Nat.lt_of_lt_of_le z.lt hle)
  refine wpAny_assign_Name (store_ok2 I' hN hx (.inl hl) (v := .ref Dd) rfl (fun s'' I'' hch => ?_) (.inr hl))
  obtain ⟨a, hs'', ha⟩ := hch
  have hCa : C ≠ a := by
    rcases ha with rfl | ha
    · exact hCL
    · exact Ne.symm (hCc x a ha)
  refine ⟨m', hn.sameBut hs'' hCa, fun h' hs' => ⟨σ.set i (some (.ref Dd)), H', ?_, hq⟩⟩
  refine I''.turned (t' := s''.toks) (fun b o hb e => (hs'.2 b hb).trans e) hC hCL (.inr (Nat.le_trans I2.sz hle)) hCc ?_
  intro p hp
  exact lt_fresh (I2.pin p hp).1 hle
end
section
variable {vs : List Str} {fr : List Nat} {g : TG} {tt : TT} {te : TE} {σ : St} {H : Hp} {Q : VK}
theorem comp_by {J : It} (n : Nat) (Pv : Nat → St → List V → Hp → Prop) (h0 : Pv 0 (stIn vs fr σ) [] H) (hl : ∀ i σ ys H, i ≤ n → Pv i σ ys H → ys.length ≤ sizeLine)
    (hg : ∀ i σ ys H, i < n → Pv i σ ys H → J.go i H) (he : ∀ σ ys H, Pv n σ ys H → J.stop n H)
    (hs : ∀ i σ ys H x H', i < n → Pv i σ ys H → J.yld i H x H' → g x σ H' fun σ2 H2 => tt σ2 H2 fun b H3 => if b = true then te σ2 H3 fun y H4 => Pv (i + 1) σ2 (ys ++ [y]) H4 else Pv (i + 1) σ2 ys H3)
    (hd : ∀ σ ys H, Pv n σ ys H → ∀ D, H D = none → Q (.ref D) (upd H D (.lst ys))) : CompW J vs fr g tt te σ H Q := by
  refine ⟨fun i m σ ys H => m = n - i ∧ i ≤ n ∧ Pv i σ ys H, ⟨n, by simp, Nat.zero_le _, h0⟩, ?_⟩
  rintro i m σ ys H ⟨rfl, hi, p⟩
  by_cases hlt : i < n
  · exact .inr ⟨hg i σ ys H hlt p, hl i σ ys H hi p, Pv (i + 1), fun σ2 ys2 H2 p' => ⟨n - (i + 1), by omega, rfl, hlt, p'⟩, fun x H' y => hs i σ ys H x H' hlt p y⟩
  · have e : i = n := by omega
    subst e
    exact .inl ⟨he σ ys H p, hl _ σ ys H hi p, hd σ ys H p⟩
theorem comp_range {lo : Int} {n : Nat} (Pv : Nat → St → List V → Hp → Prop) (h0 : Pv 0 (stIn vs fr σ) [] H) (hl : ∀ i σ ys H, i ≤ n → Pv i σ ys H → ys.length ≤ sizeLine)
    (hs : ∀ i σ ys H, i < n → Pv i σ ys H → g (.int (lo + i)) σ H fun σ2 H2 => tt σ2 H2 fun b H3 => if b = true then te σ2 H3 fun y H4 => Pv (i + 1) σ2 (ys ++ [y]) H4 else Pv (i + 1) σ2 ys H3)
    (hd : ∀ σ ys H, Pv n σ ys H → ∀ D, H D = none → Q (.ref D) (upd H D (.lst ys))) : CompW (Itr lo n) vs fr g tt te σ H Q :=
  comp_by n Pv h0 hl (fun _ _ _ _ h _ => h) (fun _ _ _ _ => Nat.le_refl _) (fun i σ ys H x H' hi p y => by obtain ⟨rfl, rfl⟩ := y; exact hs i σ ys _ hi p) hd
theorem comp_list {K : PySem.W.Frag} {a : Addr} {xs : List V} (Pv : Nat → St → List V → Hp → Prop) (h0 : Pv 0 (stIn vs fr σ) [] H) (hL : ∀ i σ ys H, i ≤ xs.length → Pv i σ ys H → SqL K H a xs) (hl : ∀ i σ ys H, i ≤ xs.length → Pv i σ ys H → ys.length ≤ sizeLine)
    (hs : ∀ i x σ ys H, xs[i]? = some x → Pv i σ ys H → g x σ H fun σ2 H2 => tt σ2 H2 fun b H3 => if b = true then te σ2 H3 fun y H4 => Pv (i + 1) σ2 (ys ++ [y]) H4 else Pv (i + 1) σ2 ys H3)
    (hd : ∀ σ ys H, Pv xs.length σ ys H → ∀ D, H D = none → Q (.ref D) (upd H D (.lst ys))) : CompW (Itl K a) vs fr g tt te σ H Q :=
  comp_by xs.length Pv h0 hl (fun i σ ys H hi p => ⟨xs, xs[i], hL i σ ys H (Nat.le_of_lt hi) p, by simp [hi]⟩) (fun σ ys H p => ⟨xs, hL _ σ ys H (Nat.le_refl _) p, Nat.le_refl _⟩)
    (fun i σ ys H x H' hi p y => by obtain ⟨rfl, y⟩ := y; exact hs i x σ ys _ (y xs (hL i σ ys _ (Nat.le_of_lt hi) p)) p) hd
theorem comp_tup {K : PySem.W.Frag} {a : Addr} {xs : List V} (Pv : Nat → St → List V → Hp → Prop) (h0 : Pv 0 (stIn vs fr σ) [] H) (hL : ∀ i σ ys H, i ≤ xs.length → Pv i σ ys H → SqT K H a xs) (hl : ∀ i σ ys H, i ≤ xs.length → Pv i σ ys H → ys.length ≤ sizeLine)
    (hs : ∀ i x σ ys H, xs[i]? = some x → Pv i σ ys H → g x σ H fun σ2 H2 => tt σ2 H2 fun b H3 => if b = true then te σ2 H3 fun y H4 => Pv (i + 1) σ2 (ys ++ [y]) H4 else Pv (i + 1) σ2 ys H3)
    (hd : ∀ σ ys H, Pv xs.length σ ys H → ∀ D, H D = none → Q (.ref D) (upd H D (.lst ys))) : CompW (Itt K a) vs fr g tt te σ H Q :=
  comp_by xs.length Pv h0 hl (fun i σ ys H hi p => ⟨xs, xs[i], hL i σ ys H (Nat.le_of_lt hi) p, by simp [hi]⟩) (fun σ ys H p => ⟨xs, hL _ σ ys H (Nat.le_refl _) p, Nat.le_refl _⟩)
    (fun i σ ys H x H' hi p y => by obtain ⟨rfl, y⟩ := y; exact hs i x σ ys _ (y xs (hL i σ ys _ (Nat.le_of_lt hi) p)) p) hd
end
end L2

set_option Elab.async false
set_option linter.all false
set_option maxRecDepth 100000
set_option maxHeartbeats 4000000
namespace L2
open PySem PySem.Spec PyProof.Rows
section
variable {X : Cx}
theorem call_isinst : CallR X (.builtin "isinstance") (fun xs H Q => ∃ x n t b, xs = [x, .ty n] ∧ TyOf X.K H x t ∧ PySem.W.kitOne X.K t (.type n) = some b ∧ Q (.bl b) H) := by
  intro pins s σ H xs us Q I r h
  obtain ⟨x, n, t, b, rfl, ty, e, q⟩ := h
  obtain ⟨u, v, rfl, ru, rv⟩ := Vals.two r
  cases (show v = Value.type n from rv)
  exact isinst_ok I ru ty e fun tk => ⟨.bl b, H, I.tok tk, rfl, q⟩
def Its (z : Str) : It := ⟨fun i _ => i < z.cps.size, fun i H x H' => H' = H ∧ ∃ c, z.cps[i]? = some c ∧ x = .str ⟨#[c]⟩, fun i _ => i = z.cps.size⟩
theorem turn_str {P : Program} {w : World} {K : PySem.W.Frag} {tg : Expr} {it : Addr} {z : Str} {t : Tok} {ty : String} (hty : ty = "str_ascii_iterator" ∨ ty = "str_iterator") : Turn P w K tg (Its z) [it] it (fun i h => h.IsStrIter it ty z t i) where
  mem := by simp
  obj := fun i h st b hb => by
    have e : b = it := by simpa using hb
    subst e
    obtain ⟨o, e, c, d⟩ := st
    exact ⟨o, e, fun v z => by rw [d] at z; cases z⟩
  keep := fun i h h' st k => by
    obtain ⟨o, e, c, d⟩ := st
    exact ⟨o, k it (by simp) o e, c, d⟩
  item := by
    intro X hP hw hK hc i pins s σ H E I hf st hg
    subst hP hw hK
    obtain ⟨f0, f1, f2, f3, f4, f5⟩ := hf it (by simp)
    have fin : ∀ v h' tk, SignAt z i v → h'.IsStrIter it ty z t (i + 1) → (∀ b o, b ∉ [it] → s.heap.get? b = some o → h'.get? b = some o) →
        ∃ u, some v = some u ∧ wpAny (model X.prog X.w) X.A (letOwnedTupleGo tg (.ref it) u) (fun _ s2 => ∃ x H', Inv X pins σ H' s2 ∧ RelV x u ∧ (Its z).yld i H x H' ∧ s2.heap.IsStrIter it ty z t (i + 1) ∧ ∀ b ∈ [it], H' b = none) E { s with heap := h', toks := tk } := fun v h' tk hv st' kk => by
      obtain ⟨c, u, hcx, rfl⟩ := hv
      have I1 : Inv X pins σ H { s with heap := h', toks := tk } := I.turned (fun b o hb e => kk b o (by simpa using hb) e) f0 f1 f3 f4 f5
      obtain ⟨o, e, oc, d⟩ := id st'
      refine ⟨_, rfl, go_of (s := { s with heap := h', toks := tk }) e oc d (by rcases hty with rfl | rfl <;> decide) ⟨.str ⟨#[c]⟩, H, I1, ⟨u, rfl⟩, ⟨rfl, c, hcx, rfl⟩, st', fun b hb => (hf b hb).1⟩⟩
    rcases hty with rfl | rfl
    · exact (Walks.strAscii (prog := X.prog) (w := X.w) (I.ok.hd hc) it z t).item i s _ _ hg st fin
    · exact (Walks.strWide (prog := X.prog) (w := X.w) (I.ok.hd hc) it z t).item i s _ _ hg st fin
  done := by
    intro X hP hw hK hc i pins s σ H E I hf st hg
    subst hP hw hK
    obtain ⟨f0, f1, f2, f3, f4, f5⟩ := hf it (by simp)
    have hg : i = z.cps.size := hg
    subst hg
    have fin : ∀ h' tk, (∀ b o, b ∉ [it] → s.heap.get? b = some o → h'.get? b = some o) → (none : Option Value) = none ∧ Inv X pins σ H { s with heap := h', toks := tk } := fun h' tk kk =>
      ⟨rfl, I.turned (fun b o hb e => kk b o (by simpa using hb) e) f0 f1 f3 f4 f5⟩
    rcases hty with rfl | rfl
    · exact (Walks.strAscii (prog := X.prog) (w := X.w) (I.ok.hd hc) it z t).done s _ _ st fin
    · exact (Walks.strWide (prog := X.prog) (w := X.w) (I.ok.hd hc) it z t).done s _ _ st fin
  self := fun _ _ _ _ _ st h => by
    rcases hty with rfl | rfl
    · exact wpAny_pyIter_striter_ascii st h
    · exact wpAny_pyIter_striter_wide st h
def iStr (tl : TE) : TI := fun σ H R => tl σ H fun x H1 => ∃ z, x = .str z ∧ R (Its z) H1
theorem pi_str {tg l : Expr} {tl : TE} (hl : PE X l tl) : PI X tg l (iStr tl) := by
  intro pins s σ H R I h
  refine thn (hl pins s σ H _ I h) fun v s1 ⟨x, H1, I1, r1, q1⟩ => ?_
  obtain ⟨z, e, q⟩ := q1
  subst e
  obtain ⟨t, rfl⟩ := r1
  have fp : ∀ b ∈ [s1.heap.objs.size], FpOk X pins H1 b := fun b hb => by
    have e : b = s1.heap.objs.size := by simpa using hb
    subst e
    exact I1.fpOk (Nat.le_refl _) (I1.hok.fresh (Nat.le_refl _))
  cases ha : z.cps.all (· < 128)
  · exact wpAny_pyIter_wide ha ⟨s1.heap.objs.size, [s1.heap.objs.size], _, _, H1, rfl, I1.kept (t' := s1.toks) fun b o e => Heap.get?_push_of_some _ e, turn_str (t := t) (.inr rfl), ⟨_, Heap.get?_push_size _ rfl, rfl, rfl⟩, fp, q⟩
  · exact wpAny_pyIter_ascii ha ⟨s1.heap.objs.size, [s1.heap.objs.size], _, _, H1, rfl, I1.kept (t' := s1.toks) fun b o e => Heap.get?_push_of_some _ e, turn_str (t := t) (.inl rfl), ⟨_, Heap.get?_push_size _ rfl, rfl, rfl⟩, fp, q⟩
theorem comp_str {z : Str} {vs : List Str} {fr : List Nat} {g : TG} {tt : TT} {te : TE} {σ : St} {H : Hp} {Q : VK} (Pv : Nat → St → List V → Hp → Prop) (h0 : Pv 0 (stIn vs fr σ) [] H) (hl : ∀ i σ ys H, i ≤ z.cps.size → Pv i σ ys H → ys.length ≤ sizeLine)
    (hs : ∀ i c σ ys H, z.cps[i]? = some c → Pv i σ ys H → g (.str ⟨#[c]⟩) σ H fun σ2 H2 => tt σ2 H2 fun b H3 => if b = true then te σ2 H3 fun y H4 => Pv (i + 1) σ2 (ys ++ [y]) H4 else Pv (i + 1) σ2 ys H3)
    (hd : ∀ σ ys H, Pv z.cps.size σ ys H → ∀ D, H D = none → Q (.ref D) (upd H D (.lst ys))) : CompW (Its z) vs fr g tt te σ H Q :=
  comp_by z.cps.size Pv h0 hl (fun _ _ _ _ h _ => h) (fun _ _ _ _ => rfl) (fun i σ ys H x H' hi p y => by obtain ⟨rfl, c, hc, rfl⟩ := y; exact hs i c σ ys _ hc p) hd
theorem range_all (bs : List Bool) : ((List.range bs.length).all fun i => bs.getD i false) = bs.all id := by
  rw [Bool.eq_iff_iff]
  simp only [List.all_eq_true, List.mem_range]
  constructor
  · intro h b hb
    obtain ⟨i, hi, e⟩ := List.getElem_of_mem hb
    have := h i hi
    rw [List.getD_eq_getElem?_getD, List.getElem?_eq_getElem hi] at this
    subst e
    simpa using this
  · intro h i hi
    rw [List.getD_eq_getElem?_getD, List.getElem?_eq_getElem hi]
    simpa using h _ (List.getElem_mem hi)
theorem call_all_bl (hc : X.calm = true) : CallR X (.builtin "all") (fun xs H Q => ∃ (a : Addr) (bs : List Bool), xs = [.ref a] ∧ SqL X.K H a (bs.map V.bl) ∧ Q (.bl (bs.all id)) H) := by
  intro pins s σ H xs us Q I r h
  obtain ⟨a, bs, rfl, hq, q⟩ := h
  obtain ⟨u, rfl, ru⟩ := Vals.one r
  cases (show u = Value.ref a from ru)
  obtain ⟨its, rv, p, hz⟩ := I.list hq
  have hlt : a < s.heap.objs.size := by obtain ⟨o, e, _⟩ := p.isList; exact Heap.lt_size e
  refine call_all_walk (wpAny_pyIter_list p.isList ?_)
  have hlen : its.toArray.size = bs.length := by have := rv.length; simp at this; simp [this]
  refine ⟨s.heap.objs.size, _, _, its.toArray.size, _, _, fun i => bs.getD i false, rfl, Walks.list (by exact I.ok.hd hc) s.heap.objs.size a (Nat.ne_of_lt hlt) its.toArray, ⟨⟨_, Heap.get?_push_size _ rfl, rfl, rfl⟩, p.isList.push _⟩, ?_, ?_⟩
  · intro i v s' Q' E' hv hQ'
    have hi : i < bs.length := by
      rw [← hlen]
      exact (Array.getElem?_eq_some_iff.mp hv).1
    obtain ⟨u, e1, r1⟩ := rv.get (i := i) (x := V.bl bs[i]) (by simp [hi])
    have e2 : its[i]? = some v := by simpa using hv
    rw [e1] at e2
    have e3 : u = v := Option.some.inj e2
    have e4 : u = Value.bool bs[i] := r1
    rw [← e3, e4]
    refine wpAny_truthy_bool ?_
    have : bs.getD i false = bs[i] := by rw [List.getD_eq_getElem?_getD, List.getElem?_eq_getElem hi]; rfl
    have hQ2 : Q' (bs.getD i false) s' := hQ'
    rw [this] at hQ2
    exact hQ2
  · intro h' tk kk
    refine ⟨.bl _, H, I.kept fun b o e => kk b o (fun z => ?_) (Heap.get?_push_of_some _ e), ?_, q⟩
    · have : b = s.heap.objs.size := by simpa using z
      exact absurd this (Nat.ne_of_lt (Heap.lt_size e))
    · show Value.bool _ = Value.bool _
      rw [hlen, range_all]
theorem strsAre_of : ∀ {ys : List Str} {us : List Value}, Vals (ys.map V.str) us → StrsAre us ys
  | [], _, .nil => .nil
  | _ :: _, _, .cons r t => by
    obtain ⟨k, rfl⟩ := r
    exact .cons _ _ (strsAre_of t)
theorem mt_join : MtR X "str.join" (fun x xs H Q => ∃ (z : Str) (p : Addr) (ys : List Str), x = .str z ∧ xs = [.ref p] ∧ SqL X.K H p (ys.map V.str) ∧ (ys.map (·.length)).sum + ys.length * z.length ≤ 16777216 ∧ Q (.str (Txt.join z ys)) H) := by
  intro pins s σ H x xs v us Q I rx rs h
  obtain ⟨z, p, ys, rfl, rfl, hq, hw, q⟩ := h
  obtain ⟨t, rfl⟩ := rx
  obtain ⟨u, rfl, ru⟩ := Vals.one rs
  cases (show u = Value.ref p from ru)
  obtain ⟨its, rv, pl, hz⟩ := I.list hq
  exact join_list pl.isList (strsAre_of (by simpa using rv)) hw fun t' k => ⟨.str _, H, I.tok k, ⟨t', rfl⟩, q⟩
theorem mt_strip : MtR X "str.strip" (fun x xs H Q => ∃ (z y : Str), x = .str z ∧ xs = [.str y] ∧ z.length ≤ sizeLine ∧ Q (.str (Txt.stripChars z y)) H) := by
  intro pins s σ H x xs v us Q I rx rs h
  obtain ⟨z, y, rfl, rfl, hz, q⟩ := h
  obtain ⟨t, rfl⟩ := rx
  obtain ⟨u, rfl, ru⟩ := Vals.one rs
  obtain ⟨t2, rfl⟩ := ru
  exact SC.stripChars (fun t' k => ⟨.str _, H, I.tok k, ⟨t', rfl⟩, q⟩) hz
end
end L2

set_option Elab.async false
set_option linter.all false
set_option maxRecDepth 100000
set_option maxHeartbeats 4000000
namespace L2
open PySem PySem.Spec PyProof.Rows
section
variable {X : Cx} {pos : Pos}
def tDict1 (k : Str) (i : Int) : TE := fun _ H Q => ∀ d, H d = none → Q (.ref d) (upd H d (.dK [(Sum.inr k, .int i)]))
theorem pe_dict1 {k : Str} {i : Int} {j1 j2 : Nat} {p1 p2 : Pos} : PE X (.Dict [some (.Constant (.str k) j1 p1)] [.Constant (.int i) j2 p2] pos) (tDict1 k i) := by
  intro pins s σ H Q I h
  have hbig : sysModules < s.heap.objs.size := modules_low I.nolimit
  refine PySem.wpAny_Dict_walk (knd := mixKind X.prog X.w) rfl rfl (by simp) (by show 1 ≤ 15; decide) (PySem.pairTrees_cons_walk (Calls.Constant_str (wpAny_Constant_int (PySem.pairTrees_nil_walk ?_))))
  refine ⟨[(Sum.inr k, .int i (s.toks + 1))], ⟨keyIs_str k s.toks, rfl, trivial⟩, Heap.DictOf.new s.heap, fun h' hd hs => ?_⟩
  have up : ∀ b o, s.heap.get? b = some o → h'.get? b = some o := fun b o e => (hs.2 b (Nat.ne_of_lt (Heap.lt_size e))).trans (Heap.get?_push_of_some _ e)
  refine ⟨.ref s.heap.objs.size, _, I.laid (a := s.heap.objs.size) (o := .dK [(Sum.inr k, .int i)]) up (Nat.le_refl _) ?_, rfl, h _ (I.hok.fresh (Nat.le_refl _))⟩
  refine ⟨by show 1 ≤ sizeLine; decide, beq_eq_false_iff_ne.mpr (Ne.symm (Nat.ne_of_lt hbig)), _, .cons ⟨rfl, ⟨_, rfl⟩⟩ .nil, hd⟩
end
section
variable {α : Type}
theorem takeWhile_all {p : α → Bool} : ∀ {l : List α}, l.all p = true → l.takeWhile p = l
  | [], _ => rfl
  | a :: r, h => by
    rw [List.all_cons, Bool.and_eq_true] at h
    rw [List.takeWhile_cons, h.1]
    simp [takeWhile_all h.2]
theorem takeWhile_len {p : α → Bool} : ∀ (l : List α), (l.takeWhile p).length ≤ l.length
  | [] => Nat.le_refl _
  | a :: r => by
    rw [List.takeWhile_cons]
    split
    · simpa using takeWhile_len r
    · simp
theorem takeWhile_full {p : α → Bool} : ∀ {l : List α}, (l.takeWhile p).length = l.length → l.all p = true
  | [], _ => rfl
  | a :: r, h => by
    rw [List.takeWhile_cons] at h
    split at h
    · rename_i hp
      rw [List.all_cons, hp, Bool.true_and]
      exact takeWhile_full (by simpa using h)
    · simp at h
theorem drop_takeWhile {p : α → Bool} : ∀ {l : List α}, l.all p = false → ∃ a r, l.drop (l.takeWhile p).length = a :: r ∧ p a = false
  | [], h => by simp at h
  | a :: r, h => by
    rw [List.takeWhile_cons]
    cases hp : p a with
    | true =>
      rw [List.all_cons, hp, Bool.true_and] at h
      obtain ⟨b, q, e, hb⟩ := drop_takeWhile (p := p) h
      exact ⟨b, q, by simpa using e, hb⟩
    | false => exact ⟨a, r, by simp, hp⟩
end
theorem strip_empty (z y : Str) (g : Nat → Bool) (hg : g = y.cps.contains) : (Txt.stripChars z y = Str.empty) ↔ z.cps.toList.all g = true := by
  subst hg
  unfold Txt.stripChars Txt.stripBy
  have hl : z.length = z.cps.toList.length := by simp [Str.length]
  cases ha : z.cps.toList.all y.cps.contains with
  | true =>
    have e1 : stripLo y.cps.contains true z = z.length := by
      unfold stripLo; rw [if_pos rfl, takeWhile_all ha, hl]
    have e2 : stripHi y.cps.contains true z z.length = z.length := by
      unfold stripHi; rw [if_pos rfl, hl, List.drop_length]; simp
    constructor
    · intro _; rfl
    · intro _
      have e3 : stripped y.cps.contains true true z = Str.empty := by
        unfold stripped
        rw [e1, e2]
        unfold Builtin.Str.strSub Str.empty
        simp [Nat.min_le_left]
      rw [e3]
      split
      · rename_i hs
        unfold stripSame at hs
        rw [e1] at hs
        have hs := (Bool.and_eq_true _ _ ▸ hs).1
        have : z.length = 0 := by simpa using hs
        have h0 : z.cps.size = 0 := this
        cases z with
        | mk c =>
          have : c = #[] := Array.eq_empty_of_size_eq_zero h0
          rw [this]; rfl
      · rfl
  | false =>
    constructor
    · intro h
      exfalso
      obtain ⟨a, r, e, hp⟩ := drop_takeWhile ha
      have hlo : stripLo y.cps.contains true z = (z.cps.toList.takeWhile y.cps.contains).length := by unfold stripLo; rw [if_pos rfl]
      have hne : z ≠ Str.empty := by
        intro q; rw [q] at ha; simp [Str.empty] at ha
      split at h
      · exact hne h
      · unfold stripped at h
        have hsz : (Builtin.Str.strSub z (stripLo y.cps.contains true z) (stripHi y.cps.contains true z (stripLo y.cps.contains true z))).cps.size = 0 := by rw [h]; rfl
        unfold Builtin.Str.strSub at hsz
        simp only [Array.size_extract] at hsz
        have hle : stripHi y.cps.contains true z (stripLo y.cps.contains true z) ≤ z.cps.size := by
          unfold stripHi; rw [if_pos rfl]; exact Nat.sub_le _ _
        rw [Nat.min_eq_left hle] at hsz
        have hhi : stripHi y.cps.contains true z (stripLo y.cps.contains true z) = z.length - ((a :: r).reverse.takeWhile y.cps.contains).length := by
          unfold stripHi; rw [if_pos rfl, hlo, e]
        have hdl : (z.cps.toList.drop (z.cps.toList.takeWhile y.cps.contains).length).length = r.length + 1 := by rw [e]; rfl
        rw [List.length_drop] at hdl
        have htw : ((a :: r).reverse.takeWhile y.cps.contains).length < r.length + 1 := by
          have h1 := takeWhile_len (p := y.cps.contains) (a :: r).reverse
          rw [List.length_reverse] at h1
          rcases Nat.lt_or_ge ((a :: r).reverse.takeWhile y.cps.contains).length (r.length + 1) with q | q
          · exact q
          · exfalso
            have h2 : ((a :: r).reverse.takeWhile y.cps.contains).length = (a :: r).reverse.length := by rw [List.length_reverse]; exact Nat.le_antisymm h1 q
            have h3 := takeWhile_full h2
            rw [List.all_reverse, List.all_cons, hp] at h3
            cases h3
        rw [hhi, hlo, hl] at hsz
        omega
    · intro h; cases h
end L2

set_option Elab.async false
set_option linter.all false
set_option maxRecDepth 100000
set_option maxHeartbeats 4000000
namespace L2
open PySem PySem.Spec PyProof.Rows
def cV : Expr → Option V
  | .Constant (.int i) _ _ => some (.int i)
  | .Constant (.str x) _ _ => some (.str x)
  | .Constant (.bool b) _ _ => some (.bl b)
  | .Constant .none _ _ => some .non
  | _ => none
def cVs : List Expr → Option (List V)
  | [] => some []
  | e :: r => match cV e, cVs r with
    | some v, some vs => some (v :: vs)
    | _, _ => none
def tCs (vs : List V) : TA := fun _ H Q => Q vs H
section
variable {X : Cx} {pos : Pos}
theorem pe_cV {e : Expr} {v : V} (h : cV e = some v) : PE X e (tC v) := by
  unfold cV at h
  split at h
  · cases h; exact pe_int
  · cases h; exact pe_str
  · cases h; exact pe_bl
  · cases h; exact pe_non
  · cases h
theorem star_cV {e : Expr} {es : List Expr} {v : V} {env : Env} (h : cV e = some v) : starEach (e :: es) env = (false, eval e env) :: starEach es env := by
  unfold cV at h
  split at h <;> first | rfl | cases h
theorem pa_cs : ∀ {es : List Expr} {vs : List V}, cVs es = some vs → PA X es (tCs vs)
  | [], vs, h => by
    unfold cVs at h
    cases h
    exact pa_nil
  | e :: r, vs, h => by
    unfold cVs at h
    split at h
    · rename_i v us h1 h2
      cases h
      have h3 := pa_cons (pe_cV h1) (pa_cs h2) (star_cV h1)
      exact h3
    · cases h
theorem pe_lstC {es : List Expr} (vs : List V) (h : cVs es = some vs) : PE X (.List es pos) (tLst (tCs vs)) := pe_lst (pa_cs h)
theorem pe_tupC {es : List Expr} {k : Nat} (vs : List V) (h : cVs es = some vs) : PE X (.Tuple es k pos) (tTup (tCs vs)) := pe_tup (pa_cs h)
end
end L2

set_option Elab.async false
set_option linter.all false
set_option maxRecDepth 100000
set_option maxHeartbeats 4000000
namespace Pu
open PySem PySem.Spec PyProof.Rows L2
inductive PV where
  | non | bl (b : Bool) | int (i : Int) | str (x : Str) | tup (xs : List PV) | lst (xs : List PV) | dct (ks vs : List PV) | fn (a : Addr) | ty (n : String)
def kP : Key → PV
  | .inl i => .int i
  | .inr x => .str x
def LsR (K : PySem.W.Frag) (ι : List Addr) (H : Hp) (a : Addr) (vs : List V) : Prop :=
  (a ∉ ι ∧ Rd H a (.lst vs)) ∨
    ∃ (o : Obj) (its : Array Value) (n : Nat), K.lookup a = some o ∧ o.cls = .type "list" ∧ o.dict = none ∧ o.data = .seq its n ∧ its.size ≤ sizeLine ∧ Vals vs its.toList
theorem LsR.sq {K : PySem.W.Frag} {ι : List Addr} {H : Hp} {a : Addr} {vs : List V} (h : LsR K ι H a vs) : SqL K H a vs := by
  rcases h with ⟨_, h⟩ | h
  · exact .inl h
  · exact .inr h
mutual
def Rep (K : PySem.W.Frag) (ι : List Addr) (H : Hp) : PV → V → Prop
  | .non, v => v = .non
  | .bl b, v => v = .bl b
  | .int i, v => v = .int i
  | .str x, v => v = .str x ∧ x.length ≤ sizeLine
  | .tup ps, v => ∃ a vs, v = .ref a ∧ SqT K H a vs ∧ Reps K ι H ps vs
  | .lst ps, v => ∃ a vs, v = .ref a ∧ LsR K ι H a vs ∧ Reps K ι H ps vs
  | .dct ks ps, v => ∃ (a : Addr) (qs : List Key) (vs : List V), v = .ref a ∧ a ∉ ι ∧ H a = some (.dK (qs.zip vs)) ∧ qs.length = vs.length ∧ ks = qs.map kP ∧ Reps K ι H ps vs
  | .fn a, v => v = .ref a
  | .ty n, v => v = .ty n
def Reps (K : PySem.W.Frag) (ι : List Addr) (H : Hp) : List PV → List V → Prop
  | [], vs => vs = []
  | p :: ps, vs => ∃ v r, vs = v :: r ∧ Rep K ι H p v ∧ Reps K ι H ps r
end
inductive SV where
  | v (p : PV) | c (k : Nat)
abbrev Cs := List PV
def RepS (K : PySem.W.Frag) (ι : List Addr) (H : Hp) : SV → V → Prop
  | .v p, x => Rep K ι H p x
  | .c k, x => ∃ a, x = .ref a ∧ ι[k]? = some a
def RepSs (K : PySem.W.Frag) (ι : List Addr) (H : Hp) : List SV → List V → Prop
  | [], vs => vs = []
  | p :: ps, vs => ∃ v r, vs = v :: r ∧ RepS K ι H p v ∧ RepSs K ι H ps r
def CellOk (K : PySem.W.Frag) (ι : List Addr) (H : Hp) (a : Addr) : PV → Prop
  | .lst ps => ∃ vs, H a = some (.lst vs) ∧ Reps K ι H ps vs
  | .dct ks ps => ∃ (qs : List Key) (vs : List V), H a = some (.dK (qs.zip vs)) ∧ qs.length = vs.length ∧ ks = qs.map kP ∧ Reps K ι H ps vs
  | _ => False
structure CR (K : PySem.W.Frag) (ι : List Addr) (H : Hp) (C : Cs) : Prop where
  len : ι.length = C.length
  nd : ι.Nodup
  ok : ∀ (k : Nat) (a : Addr) (c : PV), ι[k]? = some a → C[k]? = some c → CellOk K ι H a c
def Fr (ι : List Addr) (H H' : Hp) : Prop := ∀ b o, b ∉ ι → H b = some o → H' b = some o
theorem Fr.refl {ι : List Addr} {H : Hp} : Fr ι H H := fun _ _ _ h => h
theorem Fr.trans {ι : List Addr} {H H1 H2 : Hp} (a : Fr ι H H1) (b : Fr ι H1 H2) : Fr ι H H2 := fun c o n h => b c o n (a c o n h)
theorem Fr.new {ι : List Addr} {H : Hp} {p : Addr} {o : HO} (h : H p = none) : Fr ι H (upd H p o) := fun b u _ e => by rw [upd_ne (ne_of_none e h)]; exact e
section
variable {K : PySem.W.Frag} {ι : List Addr} {H H' : Hp} {C : Cs}
theorem CR.at' (cr : CR K ι H C) {a : Addr} (h : a ∈ ι) : ∃ (k : Nat) (c : PV), ι[k]? = some a ∧ C[k]? = some c ∧ CellOk K ι H a c := by
  obtain ⟨k, hk, e⟩ := List.getElem_of_mem h
  have h1 : ι[k]? = some a := by rw [List.getElem?_eq_getElem hk, e]
  have hk2 : k < C.length := by rw [← cr.len]; exact hk
  exact ⟨k, C[k], h1, List.getElem?_eq_getElem hk2, cr.ok k a _ h1 (List.getElem?_eq_getElem hk2)⟩
theorem CR.mut (cr : CR K ι H C) {a : Addr} (h : a ∈ ι) : (∃ vs, H a = some (.lst vs)) ∨ ∃ kvs, H a = some (.dK kvs) := by
  obtain ⟨k, c, _, _, ok⟩ := cr.at' h
  cases c with
  | lst ps => obtain ⟨vs, e, _⟩ := ok; exact .inl ⟨vs, e⟩
  | dct ks ps => obtain ⟨qs, vs, e, _⟩ := ok; exact .inr ⟨_, e⟩
  | _ => exact ok.elim
theorem CR.notup (cr : CR K ι H C) {a : Addr} {o : HO} (e : H a = some o) (h1 : ∀ vs, o ≠ .lst vs) (h2 : ∀ kvs, o ≠ .dK kvs) : a ∉ ι := fun h => by
  rcases cr.mut h with ⟨vs, z⟩ | ⟨kvs, z⟩
  · rw [e] at z; exact h1 vs (Option.some.inj z)
  · rw [e] at z; exact h2 kvs (Option.some.inj z)
theorem sqT_mono (cr : CR K ι H C) (fr : Fr ι H H') {a : Addr} {vs : List V} (h : SqT K H a vs) : SqT K H' a vs := by
  rcases h with (h | ⟨o, h⟩) | h
  · exact .inl (.inl (fr _ _ (cr.notup h (fun _ e => nomatch e) fun _ e => nomatch e) h))
  · exact .inl (.inr ⟨o, fr _ _ (cr.notup h (fun _ e => nomatch e) fun _ e => nomatch e) h⟩)
  · exact .inr h
theorem LsR.mono (fr : Fr ι H H') {a : Addr} {vs : List V} (h : LsR K ι H a vs) : LsR K ι H' a vs := by
  rcases h with ⟨n, h | ⟨o, h⟩⟩ | h
  · exact .inl ⟨n, .inl (fr _ _ n h)⟩
  · exact .inl ⟨n, .inr ⟨o, fr _ _ n h⟩⟩
  · exact .inr h
mutual
theorem Rep.mono (cr : CR K ι H C) (fr : Fr ι H H') : ∀ (p : PV) (v : V), Rep K ι H p v → Rep K ι H' p v
  | .non, v, h => by unfold Rep at h ⊢; exact h
  | .bl b, v, h => by unfold Rep at h ⊢; exact h
  | .int i, v, h => by unfold Rep at h ⊢; exact h
  | .str x, v, h => by unfold Rep at h ⊢; exact h
  | .tup ps, v, h => by
    unfold Rep at h ⊢
    obtain ⟨a, vs, e, sq, r⟩ := h
    exact ⟨a, vs, e, sqT_mono cr fr sq, Reps.mono cr fr ps vs r⟩
  | .lst ps, v, h => by
    unfold Rep at h ⊢
    obtain ⟨a, vs, e, sq, r⟩ := h
    exact ⟨a, vs, e, sq.mono fr, Reps.mono cr fr ps vs r⟩
  | .dct ks ps, v, h => by
    unfold Rep at h ⊢
    obtain ⟨a, qs, vs, e, n, hd, hl, hk, r⟩ := h
    exact ⟨a, qs, vs, e, n, fr _ _ n hd, hl, hk, Reps.mono cr fr ps vs r⟩
  | .fn a, v, h => by unfold Rep at h ⊢; exact h
  | .ty n, v, h => by unfold Rep at h ⊢; exact h
theorem Reps.mono (cr : CR K ι H C) (fr : Fr ι H H') : ∀ (ps : List PV) (vs : List V), Reps K ι H ps vs → Reps K ι H' ps vs
  | [], vs, h => by unfold Reps at h ⊢; exact h
  | p :: ps, vs, h => by
    unfold Reps at h ⊢
    obtain ⟨v, r, e, h1, h2⟩ := h
    exact ⟨v, r, e, Rep.mono cr fr p v h1, Reps.mono cr fr ps r h2⟩
end
theorem RepS.mono (cr : CR K ι H C) (fr : Fr ι H H') {s : SV} {v : V} (h : RepS K ι H s v) : RepS K ι H' s v := by
  cases s with
  | v p => exact Rep.mono cr fr p v h
  | c k => exact h
theorem RepSs.mono (cr : CR K ι H C) (fr : Fr ι H H') : ∀ {ss : List SV} {vs : List V}, RepSs K ι H ss vs → RepSs K ι H' ss vs
  | [], vs, h => h
  | s :: ss, vs, h => by
    obtain ⟨v, r, e, h1, h2⟩ := h
    exact ⟨v, r, e, h1.mono cr fr, RepSs.mono cr fr h2⟩
mutual
theorem Rep.stay (sm : ∀ b o, H b = some o → H' b = some o) : ∀ (p : PV) (v : V), Rep K ι H p v → Rep K ι H' p v
  | .non, v, h => by unfold Rep at h ⊢; exact h
  | .bl b, v, h => by unfold Rep at h ⊢; exact h
  | .int i, v, h => by unfold Rep at h ⊢; exact h
  | .str x, v, h => by unfold Rep at h ⊢; exact h
  | .tup ps, v, h => by
    unfold Rep at h ⊢
    obtain ⟨a, vs, e, sq, r⟩ := h
    refine ⟨a, vs, e, ?_, Reps.stay sm ps vs r⟩
    rcases sq with (h | ⟨o, h⟩) | h
    · exact .inl (.inl (sm _ _ h))
    · exact .inl (.inr ⟨o, sm _ _ h⟩)
    · exact .inr h
  | .lst ps, v, h => by
    unfold Rep at h ⊢
    obtain ⟨a, vs, e, sq, r⟩ := h
    exact ⟨a, vs, e, sq.mono (fun b o _ e => sm b o e), Reps.stay sm ps vs r⟩
  | .dct ks ps, v, h => by
    unfold Rep at h ⊢
    obtain ⟨a, qs, vs, e, n, hd, hl, hk, r⟩ := h
    exact ⟨a, qs, vs, e, n, sm _ _ hd, hl, hk, Reps.stay sm ps vs r⟩
  | .fn a, v, h => by unfold Rep at h ⊢; exact h
  | .ty n, v, h => by unfold Rep at h ⊢; exact h
theorem Reps.stay (sm : ∀ b o, H b = some o → H' b = some o) : ∀ (ps : List PV) (vs : List V), Reps K ι H ps vs → Reps K ι H' ps vs
  | [], vs, h => by unfold Reps at h ⊢; exact h
  | p :: ps, vs, h => by
    unfold Reps at h ⊢
    obtain ⟨v, r, e, h1, h2⟩ := h
    exact ⟨v, r, e, Rep.stay sm p v h1, Reps.stay sm ps r h2⟩
end
mutual
theorem Rep.cells {ι' : List Addr} (hs : ∀ b o, H b = some o → b ∉ ι → b ∉ ι') : ∀ (p : PV) (v : V), Rep K ι H p v → Rep K ι' H p v
  | .non, v, h => by unfold Rep at h ⊢; exact h
  | .bl b, v, h => by unfold Rep at h ⊢; exact h
  | .int i, v, h => by unfold Rep at h ⊢; exact h
  | .str x, v, h => by unfold Rep at h ⊢; exact h
  | .tup ps, v, h => by
    unfold Rep at h ⊢
    obtain ⟨a, vs, e, sq, r⟩ := h
    exact ⟨a, vs, e, sq, Reps.cells hs ps vs r⟩
  | .lst ps, v, h => by
    unfold Rep at h ⊢
    obtain ⟨a, vs, e, sq, r⟩ := h
    refine ⟨a, vs, e, ?_, Reps.cells hs ps vs r⟩
    rcases sq with ⟨n, q | ⟨o, q⟩⟩ | q
    · exact .inl ⟨hs _ _ q n, .inl q⟩
    · exact .inl ⟨hs _ _ q n, .inr ⟨o, q⟩⟩
    · exact .inr q
  | .dct ks ps, v, h => by
    unfold Rep at h ⊢
    obtain ⟨a, qs, vs, e, n, hd, hl, hk, r⟩ := h
    exact ⟨a, qs, vs, e, hs _ _ hd n, hd, hl, hk, Reps.cells hs ps vs r⟩
  | .fn a, v, h => by unfold Rep at h ⊢; exact h
  | .ty n, v, h => by unfold Rep at h ⊢; exact h
theorem Reps.cells {ι' : List Addr} (hs : ∀ b o, H b = some o → b ∉ ι → b ∉ ι') : ∀ (ps : List PV) (vs : List V), Reps K ι H ps vs → Reps K ι' H ps vs
  | [], vs, h => by unfold Reps at h ⊢; exact h
  | p :: ps, vs, h => by
    unfold Reps at h ⊢
    obtain ⟨v, r, e, h1, h2⟩ := h
    exact ⟨v, r, e, Rep.cells hs p v h1, Reps.cells hs ps r h2⟩
end
theorem Reps.nil : Reps K ι H [] [] := by unfold Reps; rfl
theorem Reps.cons {p : PV} {v : V} {ps : List PV} {vs : List V} (h : Rep K ι H p v) (t : Reps K ι H ps vs) : Reps K ι H (p :: ps) (v :: vs) := by unfold Reps; exact ⟨v, vs, rfl, h, t⟩
theorem Reps.inv {p : PV} {ps : List PV} {vs : List V} (h : Reps K ι H (p :: ps) vs) : ∃ v r, vs = v :: r ∧ Rep K ι H p v ∧ Reps K ι H ps r := by unfold Reps at h; exact h
theorem Reps.inv0 {vs : List V} (h : Reps K ι H [] vs) : vs = [] := by unfold Reps at h; exact h
theorem Reps.length : ∀ {ps : List PV} {vs : List V}, Reps K ι H ps vs → ps.length = vs.length
  | [], vs, h => by rw [h.inv0]; rfl
  | p :: ps, vs, h => by obtain ⟨v, r, rfl, _, t⟩ := h.inv; rw [List.length_cons, List.length_cons, t.length]
theorem Reps.append : ∀ {ps qs : List PV} {vs ws : List V}, Reps K ι H ps vs → Reps K ι H qs ws → Reps K ι H (ps ++ qs) (vs ++ ws)
  | [], _, vs, _, h, t => by rw [h.inv0]; exact t
  | p :: ps, _, vs, _, h, t => by obtain ⟨v, r, rfl, h1, h2⟩ := h.inv; exact .cons h1 (h2.append t)
theorem Reps.get : ∀ {ps : List PV} {vs : List V} {i : Nat} {p : PV}, Reps K ι H ps vs → ps[i]? = some p → ∃ v, vs[i]? = some v ∧ Rep K ι H p v
  | [], _, _, _, h, e => by simp at e
  | q :: ps, vs, 0, p, h, e => by
    obtain ⟨v, r, rfl, h1, h2⟩ := h.inv
    simp at e; subst e; exact ⟨v, rfl, h1⟩
  | q :: ps, vs, i + 1, p, h, e => by
    obtain ⟨v, r, rfl, h1, h2⟩ := h.inv
    obtain ⟨w, e1, r1⟩ := h2.get (i := i) (by simpa using e)
    exact ⟨w, by simpa using e1, r1⟩
theorem Reps.get' : ∀ {ps : List PV} {vs : List V} {i : Nat} {v : V}, Reps K ι H ps vs → vs[i]? = some v → ∃ p, ps[i]? = some p ∧ Rep K ι H p v := fun {ps vs i v} h e => by
  have hi : i < ps.length := by
    rw [h.length]
    rcases Nat.lt_or_ge i vs.length with q | q
    · exact q
    · rw [List.getElem?_eq_none_iff.mpr q] at e; cases e
  obtain ⟨w, e1, r⟩ := h.get (List.getElem?_eq_getElem hi)
  rw [e] at e1; cases e1
  exact ⟨_, List.getElem?_eq_getElem hi, r⟩
theorem Reps.take : ∀ {ps : List PV} {vs : List V} (n : Nat), Reps K ι H ps vs → Reps K ι H (ps.take n) (vs.take n)
  | _, _, 0, _ => by simp; exact .nil
  | [], vs, n + 1, h => by rw [h.inv0]; simp; exact .nil
  | p :: ps, vs, n + 1, h => by obtain ⟨v, r, rfl, h1, h2⟩ := h.inv; simp only [List.take_succ_cons]; exact .cons h1 (h2.take n)
theorem Reps.drop : ∀ {ps : List PV} {vs : List V} (n : Nat), Reps K ι H ps vs → Reps K ι H (ps.drop n) (vs.drop n)
  | _, _, 0, h => by simpa using h
  | [], vs, n + 1, h => by rw [h.inv0]; simp; exact .nil
  | p :: ps, vs, n + 1, h => by obtain ⟨v, r, rfl, h1, h2⟩ := h.inv; simpa using h2.drop n
theorem Reps.set : ∀ {ps : List PV} {vs : List V} (i : Nat) {p : PV} {v : V}, Reps K ι H ps vs → Rep K ι H p v → Reps K ι H (ps.set i p) (vs.set i v)
  | [], vs, i, p, v, h, _ => by rw [h.inv0]; simp; exact .nil
  | q :: ps, vs, 0, p, v, h, hp => by obtain ⟨w, r, rfl, h1, h2⟩ := h.inv; simp; exact .cons hp h2
  | q :: ps, vs, i + 1, p, v, h, hp => by obtain ⟨w, r, rfl, h1, h2⟩ := h.inv; simp; exact .cons h1 (h2.set i hp)
theorem CellOk.mono (cr : CR K ι H C) (fr : Fr ι H H') {a : Addr} {c : PV} (ha : ∀ o, H a = some o → H' a = some o) (h : CellOk K ι H a c) : CellOk K ι H' a c := by
  cases c with
  | lst ps => obtain ⟨vs, e, r⟩ := h; exact ⟨vs, ha _ e, Reps.mono cr fr _ _ r⟩
  | dct ks ps => obtain ⟨qs, vs, e, hl, hk, r⟩ := h; exact ⟨qs, vs, ha _ e, hl, hk, Reps.mono cr fr _ _ r⟩
  | _ => exact h.elim
theorem CR.same (cr : CR K ι H C) (sm : ∀ b o, H b = some o → H' b = some o) : CR K ι H' C :=
  ⟨cr.len, cr.nd, fun k a c h1 h2 => (cr.ok k a c h1 h2).mono cr (fun b o _ e => sm b o e) fun o e => sm a o e⟩
theorem CR.new (cr : CR K ι H C) {p : Addr} {o : HO} (h : H p = none) : CR K ι (upd H p o) C := cr.same fun b u e => by rw [upd_ne (ne_of_none e h)]; exact e
theorem CR.put (cr : CR K ι H C) {k : Nat} {a : Addr} {c : PV} {o : HO} (hk : ι[k]? = some a) (ok : CellOk K ι (upd H a o) a c) : CR K ι (upd H a o) (C.set k c) := by
  have fr : Fr ι H (upd H a o) := fun b u n e => by
    rw [upd_ne (fun z => n (by rw [z]; exact List.mem_of_getElem? hk))]; exact e
  refine ⟨by rw [List.length_set]; exact cr.len, cr.nd, fun j b d h1 h2 => ?_⟩
  by_cases hj : j = k
  · subst hj
    rw [hk] at h1; cases h1
    have hlt : j < C.length := by
      rw [← cr.len]
      rcases Nat.lt_or_ge j ι.length with q | q
      · exact q
      · rw [List.getElem?_eq_none_iff.mpr q] at hk; cases hk
    rw [List.getElem?_set_self hlt] at h2
    cases h2; exact ok
  · rw [List.getElem?_set_ne (Ne.symm hj)] at h2
    refine (cr.ok j b d h1 h2).mono cr fr fun u e => ?_
    have hb : b ≠ a := fun z => by
      subst z
      have hjl : j < ι.length := by
        rcases Nat.lt_or_ge j ι.length with q | q
        · exact q
        · rw [List.getElem?_eq_none_iff.mpr q] at h1; cases h1
      have hkl : k < ι.length := by
        rcases Nat.lt_or_ge k ι.length with q | q
        · exact q
        · rw [List.getElem?_eq_none_iff.mpr q] at hk; cases hk
      have e1 := (List.getElem?_eq_some_iff.mp h1).2
      have e2 := (List.getElem?_eq_some_iff.mp hk).2
      exact hj ((List.getElem_inj cr.nd).mp (e1.trans e2.symm))
    rw [upd_ne hb]; exact e
theorem repHs {p : Addr} (hp : H p = none) : ∀ b u, H b = some u → b ∉ ι → b ∉ ι ++ [p] := fun b u e n z => by
  rcases List.mem_append.mp z with z | z
  · exact n z
  · exact ne_of_none e hp (by simpa using z)
theorem RepNew (cr : CR K ι H C) {p : Addr} {o : HO} (hp : H p = none) (q : PV) (v : V) (r : Rep K ι H q v) : Rep K (ι ++ [p]) (upd H p o) q v := by
  exact Rep.stay (fun b u e => by rw [upd_ne (ne_of_none e hp)]; exact e) q v (Rep.cells (ι' := ι ++ [p]) (repHs hp) q v r)
theorem RepsNew (cr : CR K ι H C) {p : Addr} {o : HO} (hp : H p = none) (q : List PV) (v : List V) (r : Reps K ι H q v) : Reps K (ι ++ [p]) (upd H p o) q v := by
  exact Reps.stay (fun b u e => by rw [upd_ne (ne_of_none e hp)]; exact e) q v (Reps.cells (ι' := ι ++ [p]) (repHs hp) q v r)
theorem CR.add (cr : CR K ι H C) {p : Addr} {c : PV} {o : HO} (hp : H p = none) (ok : CellOk K (ι ++ [p]) (upd H p o) p c) : CR K (ι ++ [p]) (upd H p o) (C ++ [c]) := by
  have hni : p ∉ ι := fun z => by
    rcases cr.mut z with ⟨vs, e⟩ | ⟨kvs, e⟩
    · rw [hp] at e; cases e
    · rw [hp] at e; cases e
  have hc : ∀ b u, (upd H p o) b = some u → b ∉ ι → b ≠ p → b ∉ ι ++ [p] := fun b u _ n1 n2 z => by
    rcases List.mem_append.mp z with z | z
    · exact n1 z
    · exact n2 (by simpa using z)
  have up : ∀ b u, H b = some u → (upd H p o) b = some u := fun b u e => by rw [upd_ne (ne_of_none e hp)]; exact e
  have lift : ∀ (b : Addr) (d : PV), CellOk K ι H b d → CellOk K (ι ++ [p]) (upd H p o) b d := fun b d h => by
    have hs : ∀ b u, H b = some u → b ∉ ι → b ∉ ι ++ [p] := fun b u e n => hc b u (up b u e) n (ne_of_none e hp)
    have cr' : CR K ι (upd H p o) C := cr.new hp
    cases d with
    | lst ps =>
      obtain ⟨vs, e, r⟩ := h
      exact ⟨vs, up _ _ e, RepsNew cr hp ps vs r⟩
    | dct ks ps =>
      obtain ⟨qs, vs, e, hl, hk, r⟩ := h
      exact ⟨qs, vs, up _ _ e, hl, hk, RepsNew cr hp ps vs r⟩
    | _ => exact h.elim
  refine ⟨by simp [cr.len], ?_, fun k a d h1 h2 => ?_⟩
  · rw [List.nodup_append]
    refine ⟨cr.nd, by simp, fun a ha b hb => ?_⟩
    have : b = p := by simpa using hb
    subst this
    exact fun z => hni (z ▸ ha)
  · rcases Nat.lt_or_ge k ι.length with hk | hk
    · rw [List.getElem?_append_left hk] at h1
      rw [List.getElem?_append_left (by rw [← cr.len]; exact hk)] at h2
      exact lift a d (cr.ok k a d h1 h2)
    · rw [List.getElem?_append_right hk] at h1
      rw [List.getElem?_append_right (by rw [← cr.len]; exact hk)] at h2
      rw [← cr.len] at h2
      cases hz : k - ι.length with
      | zero =>
        rw [hz] at h1 h2
        simp at h1 h2
        subst h1 h2
        exact ok
      | succ j => rw [hz] at h1; simp at h1
end
end Pu

set_option Elab.async false
set_option linter.all false
set_option maxRecDepth 100000
set_option maxHeartbeats 4000000
namespace Pu
open PySem PySem.Spec L2
open PyProof.Rows hiding St
abbrev M (α : Type) := Cs → Option (α × Cs)
def ret {α : Type} (a : α) : M α := fun C => some (a, C)
def bnd {α β : Type} (x : M α) (f : α → M β) : M β := fun C => match x C with
  | none => none
  | some (a, C') => f a C'
def opM {α : Type} (g : Cs → Option α) : M α := fun C => match g C with
  | none => none
  | some a => some (a, C)
theorem bnd_some {α β : Type} {x : M α} {f : α → M β} {C C2 : Cs} {b : β} (h : bnd x f C = some (b, C2)) : ∃ a C1, x C = some (a, C1) ∧ f a C1 = some (b, C2) := by
  unfold bnd at h
  cases e : x C with
  | none => rw [e] at h; cases h
  | some p => obtain ⟨a, C1⟩ := p; rw [e] at h; exact ⟨a, C1, rfl, h⟩
theorem opM_some {α : Type} {g : Cs → Option α} {C C2 : Cs} {b : α} (h : opM g C = some (b, C2)) : g C = some b ∧ C2 = C := by
  unfold opM at h
  cases e : g C with
  | none => rw [e] at h; cases h
  | some p => rw [e] at h; cases h; exact ⟨rfl, rfl⟩
abbrev PSt := List (Option SV)
def asB : SV → Option Bool
  | .v (.bl b) => some b
  | _ => none
def mB (x : SV) : M Bool := opM fun _ => asB x
theorem mB_some {x : SV} {C C2 : Cs} {b : Bool} (h : mB x C = some (b, C2)) : x = .v (.bl b) ∧ C2 = C := by
  obtain ⟨h, e⟩ := opM_some h
  refine ⟨?_, e⟩
  cases x with
  | c k => cases h
  | v p => cases p <;> first | (cases h; rfl) | cases h
theorem repB {K : PySem.W.Frag} {ι : List Addr} {H : Hp} {b : Bool} {v : V} (h : RepS K ι H (.v (.bl b)) v) : v = .bl b := by unfold RepS Rep at h; exact h
theorem repB' {K : PySem.W.Frag} {ι : List Addr} {H : Hp} {b : Bool} : RepS K ι H (.v (.bl b)) (.bl b) := by unfold RepS Rep; rfl
inductive PF where
  | nx (ρ : PSt) | rt (r : SV) | bk (ρ : PSt) | ct (ρ : PSt) | rf (ps : List PV)
structure SR (K : PySem.W.Frag) (ι : List Addr) (H : Hp) (ρ : PSt) (σ : St) (C : Cs) : Prop where
  cr : CR K ι H C
  len : ρ.length = σ.length
  loc : ∀ (i : Nat) (s : SV), ρ[i]? = some (some s) → ∃ v, σ[i]? = some (some v) ∧ RepS K ι H s v
section
variable {K : PySem.W.Frag} {ι : List Addr} {H H' : Hp} {C C' : Cs} {ρ : PSt} {σ : St}
theorem SR.step (sr : SR K ι H ρ σ C) (fr : Fr ι H H') (cr : CR K ι H' C') : SR K ι H' ρ σ C' :=
  ⟨cr, sr.len, fun i s e => by obtain ⟨v, h1, h2⟩ := sr.loc i s e; exact ⟨v, h1, h2.mono sr.cr fr⟩⟩
theorem SR.set (sr : SR K ι H ρ σ C) {s : SV} {v : V} (i : Nat) (r : RepS K ι H s v) : SR K ι H (ρ.set i (some s)) (σ.set i (some v)) C := by
  refine ⟨sr.cr, by simp [sr.len], fun j t e => ?_⟩
  by_cases hj : i = j
  · subst hj
    have hi : i < ρ.length := by
      rcases Nat.lt_or_ge i ρ.length with q | q
      · exact q
      · rw [List.getElem?_eq_none_iff.mpr (by simpa using q)] at e; cases e
    rw [List.getElem?_set_self hi] at e
    cases e
    exact ⟨v, by rw [List.getElem?_set_self (by rw [← sr.len]; exact hi)], r⟩
  · rw [List.getElem?_set_ne hj] at e
    rw [List.getElem?_set_ne hj]
    exact sr.loc j t e
end
def tM (K : PySem.W.Frag) (f : PSt → M SV) : TE := fun σ H Q => ∃ ι ρ C r C', SR K ι H ρ σ C ∧ f ρ C = some (r, C') ∧ ∀ v H', Fr ι H H' → CR K ι H' C' → RepS K ι H' r v → Q v H'
def tMA (K : PySem.W.Frag) (f : PSt → M (List SV)) : TA := fun σ H Q => ∃ ι ρ C r C', SR K ι H ρ σ C ∧ f ρ C = some (r, C') ∧ ∀ v H', Fr ι H H' → CR K ι H' C' → RepSs K ι H' r v → Q v H'
def tMB (K : PySem.W.Frag) (f : PSt → M Bool) : TT := fun σ H Q => ∃ ι ρ C r C', SR K ι H ρ σ C ∧ f ρ C = some (r, C') ∧ ∀ H', Fr ι H H' → CR K ι H' C' → Q r H'
def tMF (K : PySem.W.Frag) (f : PSt → M (List PV)) : TE := fun σ H Q => ∃ ι ρ C ps C', SR K ι H ρ σ C ∧ f ρ C = some (ps, C') ∧ ∀ p vs H', Fr ι H H' → CR K ι H' C' → H' p = none → Reps K ι H' ps vs → Q (.ref p) (upd H' p (.lst vs))
def EM (X : Cx) (e : Expr) (f : PSt → M SV) : Prop := PE X e (tM X.K f)
def AM (X : Cx) (es : List Expr) (f : PSt → M (List SV)) : Prop := PA X es (tMA X.K f)
def TMt (X : Cx) (e : Expr) (f : PSt → M Bool) : Prop := PT X e (tMB X.K f)
def WM (X : Cx) (e : Expr) (f : PSt → M Bool) : Prop := PW X e (tMB X.K f)
def FM (X : Cx) (e : Expr) (f : PSt → M (List PV)) : Prop := PE X e (tMF X.K f)
theorem WM.t {X : Cx} {e : Expr} {f : PSt → M Bool} (h : WM X e f) : TMt X e f := h _
theorem PE.imp {X : Cx} {e : Expr} {t t' : TE} (h : PE X e t) (k : ∀ σ H Q, t' σ H Q → t σ H Q) : PE X e t' := fun pins s σ H Q I q => h pins s σ H Q I (k σ H Q q)
theorem PT.imp {X : Cx} {e : Expr} {t t' : TT} (h : PT X e t) (k : ∀ σ H Q, t' σ H Q → t σ H Q) : PT X e t' := fun pins s σ H Q I q => h pins s σ H Q I (k σ H Q q)
theorem PW.imp {X : Cx} {e : Expr} {t t' : TT} (h : PW X e t) (k : ∀ σ H Q, t' σ H Q → t σ H Q) : PW X e t' := fun wh pins s σ H Q I q => h wh pins s σ H Q I (k σ H Q q)
theorem PA.imp {X : Cx} {e : List Expr} {t t' : TA} (h : PA X e t) (k : ∀ σ H Q, t' σ H Q → t σ H Q) : PA X e t' := fun pos pins s σ H Q I q => h pos pins s σ H Q I (k σ H Q q)
theorem PS.imp {X : Cx} {e : Stmt} {t t' : TS} (h : PS X e t) (k : ∀ D σ H, t' D σ H → t D σ H) : PS X e t' := fun pins s σ H D I q => h pins s σ H D I (k D σ H q)
theorem PSs.imp {X : Cx} {e : List Stmt} {t t' : TS} (h : PSs X e t) (k : ∀ D σ H, t' D σ H → t D σ H) : PSs X e t' := fun pins s σ H D I q => h pins s σ H D I (k D σ H q)
theorem PI.imp {X : Cx} {tg e : Expr} {t t' : TI} (h : PI X tg e t) (k : ∀ σ H Q, t' σ H Q → t σ H Q) : PI X tg e t' := fun pins s σ H Q I q => h pins s σ H Q I (k σ H Q q)
section
variable {X : Cx} {a b e c : Expr} {es : List Expr} {fa fb fc : PSt → M SV} {pos p : Pos} {x : Str}
def mVar (i : Nat) : PSt → M SV := fun ρ C => match ρ[i]? with
  | some (some s) => some (s, C)
  | _ => none
theorem em_var (i : Nat) {x : Str} {pos : Pos} (hN : X.N[i]? = some x := by rfl) (hv : Vis X.env.scope x := by first | exact Or.inl rfl | exact Or.inr (Or.inl rfl) | exact Or.inr (Or.inr rfl)) (hd : (x == ("__debug__" : Str)) = false := by decide)
    (hcd : (x == ("__classdict__" : Str)) = false := by decide) : EM X (.Name x pos) (mVar i) := by
  refine PE.imp (pe_var hN hv hd hcd) fun σ H Q ⟨ι, ρ, C, r, C', sr, e, q⟩ => ?_
  unfold mVar at e
  cases e1 : ρ[i]? with
  | none => rw [e1] at e; cases e
  | some o =>
    cases o with
    | none => rw [e1] at e; cases e
    | some s =>
      rw [e1] at e; cases e
      obtain ⟨v, h1, h2⟩ := sr.loc i _ e1
      exact ⟨v, h1, q v H .refl sr.cr h2⟩
def mC (p : PV) : PSt → M SV := fun _ C => some (.v p, C)
theorem em_const {v : V} {q : PV} (h : PE X e (tC v)) (r : ∀ ι H, Rep X.K ι H q v) : EM X e (mC q) := by
  refine PE.imp h fun σ H Q ⟨ι, ρ, C, z, C', sr, e, k⟩ => ?_
  cases e
  exact k v H .refl sr.cr (r ι H)
theorem em_int {i j pos} : EM X (.Constant (.int i) j pos) (mC (.int i)) := em_const pe_int fun ι H => by unfold Rep; rfl
theorem em_bl {i j pos} : EM X (.Constant (.bool i) j pos) (mC (.bl i)) := em_const pe_bl fun ι H => by unfold Rep; rfl
theorem em_non {j pos} : EM X (.Constant .none j pos) (mC .non) := em_const pe_non fun ι H => by unfold Rep; rfl
theorem em_str {i j pos} (h : i.length ≤ sizeLine := by decide +kernel) : EM X (.Constant (.str i) j pos) (mC (.str i)) := em_const pe_str fun ι H => by unfold Rep; exact ⟨rfl, h⟩
theorem em_globI {i : Int} (hg : Gl X x) (hm : ∃ t, X.mg x = some (.int i t)) (hd : (x == ("__debug__" : Str)) = false := by decide) : EM X (.Name x pos) (mC (.int i)) := by
  obtain ⟨t, hm⟩ := hm
  exact em_const (pe_glob (v := .int i) hg hm ⟨_, rfl⟩ hd) fun ι H => by unfold Rep; rfl
theorem em_globS {i : Str} (hg : Gl X x) (hm : ∃ t, X.mg x = some (.str i t)) (h : i.length ≤ sizeLine := by decide +kernel) (hd : (x == ("__debug__" : Str)) = false := by decide) : EM X (.Name x pos) (mC (.str i)) := by
  obtain ⟨t, hm⟩ := hm
  exact em_const (pe_glob (v := .str i) hg hm ⟨_, rfl⟩ hd) fun ι H => by unfold Rep; exact ⟨rfl, h⟩
theorem em_ty {n : String} (hg : Gl X x) (hm : X.mg x = none) (hv : bootBuiltins x = some (.type n)) (hn : x ≠ "__name__" := by decide) (hd : (x == ("__debug__" : Str)) = false := by decide) : EM X (.Name x pos) (mC (.ty n)) :=
  em_const (pe_bltn (v := .ty n) hg hm hv rfl hn hd) fun ι H => by unfold Rep; rfl
def mOp (g : Cs → SV → SV → Option SV) (fa fb : PSt → M SV) : PSt → M SV := fun ρ => bnd (fa ρ) fun x => bnd (fb ρ) fun y => opM fun C => g C x y
def R2ok (K : PySem.W.Frag) (r : R2) (g : Cs → SV → SV → Option SV) : Prop :=
  ∀ (ι : List Addr) (H : Hp) (C : Cs) (x y : SV) (vx vy : V) (z : SV) (Q : VK), CR K ι H C → RepS K ι H x vx → RepS K ι H y vy → g C x y = some z → (∀ v H', Fr ι H H' → CR K ι H' C → RepS K ι H' z v → Q v H') → r vx vy H Q
theorem tM_op {K : PySem.W.Frag} {r : R2} {g : Cs → SV → SV → Option SV} (hg : R2ok K r g) {σ : St} {H : Hp} {Q : VK} (h : tM K (mOp g fa fb) σ H Q) : tOp r (tM K fa) (tM K fb) σ H Q := by
  obtain ⟨ι, ρ, C, z, C', sr, e, q⟩ := h
  obtain ⟨x, C1, e1, e⟩ := bnd_some e
  obtain ⟨y, C2, e2, e⟩ := bnd_some e
  obtain ⟨e3, rfl⟩ := opM_some e
  exact ⟨ι, ρ, C, x, C1, sr, e1, fun vx H1 f1 c1 r1 => ⟨ι, ρ, C1, y, C', sr.step f1 c1, e2, fun vy H2 f2 c2 r2 => hg ι H2 C' x y vx vy z _ c2 (r1.mono c1 f2) r2 e3 fun v H3 f3 c3 r3 => q v H3 (f1.trans (f2.trans f3)) c3 r3⟩⟩
theorem em_op {op : Operator} {r : R2} {g : Cs → SV → SV → Option SV} (ho : OpR X (binaryOp op) r) (hg : R2ok X.K r g) (ha : EM X a fa) (hb : EM X b fb) : EM X (.BinOp a op b pos) (mOp g fa fb) :=
  PE.imp (pe_op ho ha hb) fun _ _ _ h => tM_op hg h
theorem em_cmp {op : CmpOp} {r : R2} {g : Cs → SV → SV → Option SV} (ho : OpR X (compareOp op) r) (hg : R2ok X.K r g) (ha : EM X a fa) (hb : EM X b fb) (hm : behindInMarks op b = false) : EM X (.Compare a [op] [b] pos) (mOp g fa fb) :=
  PE.imp (pe_cmpR ho ha hb hm) fun _ _ _ h => tM_op hg h
theorem em_ix {r : R2} {g : Cs → SV → SV → Option SV} (hr : IxR X r) (hg : R2ok X.K r g) (ha : EM X a fa) (hb : EM X b fb) (hs : PlainIx b) : EM X (.Subscript a b pos) (mOp g fa fb) :=
  PE.imp (pe_ix hr ha hb hs) fun _ _ _ h => tM_op hg h
def mChain (g g' : Cs → SV → SV → Option SV) (fa fb fc : PSt → M SV) : PSt → M SV := fun ρ => bnd (fa ρ) fun x => bnd (fb ρ) fun y => bnd (opM fun C => g C x y) fun z => bnd (mB z) fun b =>
  if b then bnd (fc ρ) fun w => opM fun C => g' C y w else ret (.v (.bl false))
theorem tM_chain {K : PySem.W.Frag} {r r' : R2} {g g' : Cs → SV → SV → Option SV} (hg : R2ok K r g) (hg' : R2ok K r' g') {σ : St} {H : Hp} {Q : VK} (h : tM K (mChain g g' fa fb fc) σ H Q) : tChain r r' (tM K fa) (tM K fb) (tM K fc) σ H Q := by
  obtain ⟨ι, ρ, C, z, C', sr, e, q⟩ := h
  obtain ⟨x, C1, e1, e⟩ := bnd_some e
  obtain ⟨y, C2, e2, e⟩ := bnd_some e
  obtain ⟨z1, C3, e3, e'⟩ := bnd_some e
  obtain ⟨e3g, hC3⟩ := opM_some e3
  obtain ⟨k, C4, e4, e9⟩ := bnd_some e'
  obtain ⟨hz1, hC4⟩ := mB_some e4
  subst hz1 hC4 hC3
  clear e' e4 e3 e
  have e := e9
  refine ⟨ι, ρ, C, x, C1, sr, e1, fun vx H1 f1 c1 r1 => ⟨ι, ρ, C1, y, C4, sr.step f1 c1, e2, fun vy H2 f2 c2 r2 => hg ι H2 C4 x y vx vy _ _ c2 (r1.mono c1 f2) r2 e3g fun v H3 f3 c3 r3 => ?_⟩⟩
  refine ⟨k, repB r3, ?_⟩
  cases k with
  | true =>
    rw [if_pos rfl] at e ⊢
    obtain ⟨w, C5, e5, e⟩ := bnd_some e
    obtain ⟨e6, rfl⟩ := opM_some e
    exact ⟨ι, ρ, C4, w, C', ((sr.step f1 c1).step f2 c2).step f3 c3, e5, fun vw H4 f4 c4 r4 => hg' ι H4 C' y w vy vw z _ c4 ((r2.mono c2 f3).mono c3 f4) r4 e6 fun v' H5 f5 c5 r5 =>
      q v' H5 (f1.trans (f2.trans (f3.trans (f4.trans f5)))) c5 r5⟩
  | false =>
    rw [if_neg Bool.false_ne_true] at e ⊢
    cases e
    exact q _ H3 (f1.trans (f2.trans f3)) c3 repB'
theorem em_chain {op op' : CmpOp} {r r' : R2} {g g' : Cs → SV → SV → Option SV} (ho : OpR X (compareOp op) r) (ho' : OpR X (compareOp op') r') (hg : R2ok X.K r g) (hg' : R2ok X.K r' g') (ha : EM X a fa) (hb : EM X b fb) (hc : EM X c fc)
    (hm : lastMarks [op, op'] [b, c] = false := by with_unfolding_all rfl) : EM X (.Compare a [op, op'] [b, c] pos) (mChain g g' fa fb fc) :=
  PE.imp (pe_chain ho ho' ha hb hc hm) fun _ _ _ h => tM_chain hg hg' h
def mTest (f : PSt → M SV) : PSt → M Bool := fun ρ => bnd (f ρ) mB
theorem tM_test {K : PySem.W.Frag} {f : PSt → M SV} {σ : St} {H : Hp} {Q : Bool → Hp → Prop} (h : tMB K (mTest f) σ H Q) : tTest (tM K f) σ H Q := by
  obtain ⟨ι, ρ, C, z, C', sr, e, q⟩ := h
  obtain ⟨x, C1, e1, e⟩ := bnd_some e
  obtain ⟨rfl, rfl⟩ := mB_some e
  exact ⟨ι, ρ, C, _, C', sr, e1, fun v H1 f1 c1 r1 => ⟨_, repB r1, q H1 f1 c1⟩⟩
theorem tm_cmp {op : CmpOp} {r : R2} {g : Cs → SV → SV → Option SV} (ho : OpR X (compareOp op) r) (hg : R2ok X.K r g) (ha : EM X a fa) (hb : EM X b fb) (hm : behindInMarks op b = false) : TMt X (.Compare a [op] [b] pos) (mTest (mOp g fa fb)) :=
  PT.imp (pt_cmpR ho ha hb hm) fun σ H Q h => by
    obtain ⟨ι, ρ, C, x, C', sr, e, q⟩ := tM_test h
    exact tM_op hg ⟨ι, ρ, C, x, C', sr, e, q⟩
theorem tm_chain {op op' : CmpOp} {r r' : R2} {g g' : Cs → SV → SV → Option SV} (ho : OpR X (compareOp op) r) (ho' : OpR X (compareOp op') r') (hg : R2ok X.K r g) (hg' : R2ok X.K r' g') (ha : EM X a fa) (hb : EM X b fb) (hc : EM X c fc)
    (hm : lastMarks [op, op'] [b, c] = false := by with_unfolding_all rfl) : TMt X (.Compare a [op, op'] [b, c] pos) (mTest (mChain g g' fa fb fc)) :=
  PT.imp (pt_chain ho ho' ha hb hc hm) fun σ H Q h => by
    obtain ⟨ι, ρ, C, x, C', sr, e, q⟩ := tM_test h
    exact tM_chain hg hg' ⟨ι, ρ, C, x, C', sr, e, q⟩
def deref (C : Cs) : SV → Option PV
  | .v p => some p
  | .c k => C[k]?
def truP : PV → Option Bool
  | .non => some false
  | .bl b => some b
  | .int i => some (i != 0)
  | .str y => some ((y.length : Int) != 0)
  | .tup xs => some (!xs.isEmpty)
  | .lst xs => some (!xs.isEmpty)
  | .dct ks _ => some (!ks.isEmpty)
  | _ => none
def mTru (f : PSt → M SV) : PSt → M Bool := fun ρ => bnd (f ρ) fun x => opM fun C => (deref C x).bind truP
inductive Lies (K : PySem.W.Frag) (ι : List Addr) (H : Hp) : PV → V → Prop
  | non : Lies K ι H .non .non
  | bl (b : Bool) : Lies K ι H (.bl b) (.bl b)
  | int (i : Int) : Lies K ι H (.int i) (.int i)
  | str (x : Str) (h : x.length ≤ sizeLine) : Lies K ι H (.str x) (.str x)
  | tup {a : Addr} {ps : List PV} {vs : List V} (h : SqT K H a vs) (r : Reps K ι H ps vs) : Lies K ι H (.tup ps) (.ref a)
  | lst {a : Addr} {ps : List PV} {vs : List V} (h : SqL K H a vs) (r : Reps K ι H ps vs) : Lies K ι H (.lst ps) (.ref a)
  | dct {a : Addr} {qs : List Key} {ps : List PV} {vs : List V} (h : H a = some (.dK (qs.zip vs))) (hl : qs.length = vs.length) (r : Reps K ι H ps vs) : Lies K ι H (.dct (qs.map kP) ps) (.ref a)
  | fn (a : Addr) : Lies K ι H (.fn a) (.ref a)
  | ty (n : String) : Lies K ι H (.ty n) (.ty n)
theorem Rep.lies {K : PySem.W.Frag} {ι : List Addr} {H : Hp} : ∀ {p : PV} {v : V}, Rep K ι H p v → Lies K ι H p v
  | .non, v, h => by unfold Rep at h; subst h; exact .non
  | .bl b, v, h => by unfold Rep at h; subst h; exact .bl b
  | .int i, v, h => by unfold Rep at h; subst h; exact .int i
  | .str x, v, h => by unfold Rep at h; obtain ⟨rfl, h⟩ := h; exact .str x h
  | .tup ps, v, h => by unfold Rep at h; obtain ⟨a, vs, rfl, h, r⟩ := h; exact .tup h r
  | .lst ps, v, h => by unfold Rep at h; obtain ⟨a, vs, rfl, h, r⟩ := h; exact .lst h.sq r
  | .dct ks ps, v, h => by unfold Rep at h; obtain ⟨a, qs, vs, rfl, n, hd, hl, rfl, r⟩ := h; exact .dct hd hl r
  | .fn a, v, h => by unfold Rep at h; subst h; exact .fn a
  | .ty n, v, h => by unfold Rep at h; subst h; exact .ty n
theorem RepS.lies {K : PySem.W.Frag} {ι : List Addr} {H : Hp} {C : Cs} (cr : CR K ι H C) {x : SV} {p : PV} {v : V} (r : RepS K ι H x v) (e : deref C x = some p) : Lies K ι H p v := by
  cases x with
  | v q => cases e; exact Rep.lies r
  | c k =>
    obtain ⟨a, rfl, hk⟩ := r
    have ok := cr.ok k a p hk e
    cases p with
    | lst ps => obtain ⟨vs, h, r⟩ := ok; exact .lst (.of h) r
    | dct ks ps => obtain ⟨qs, vs, h, hl, rfl, r⟩ := ok; exact .dct h hl r
    | _ => exact ok.elim
theorem Reps.isEmpty {K : PySem.W.Frag} {ι : List Addr} {H : Hp} {ps : List PV} {vs : List V} (r : Reps K ι H ps vs) : ps.isEmpty = vs.isEmpty := by
  have := r.length
  cases ps <;> cases vs <;> simp at this ⊢
theorem Lies.tru {K : PySem.W.Frag} {ι : List Addr} {H : Hp} {p : PV} {v : V} {k : Bool} (l : Lies K ι H p v) (e : truP p = some k) : TruV K v H k := by
  cases l with
  | non => cases e; rfl
  | bl b => cases e; rfl
  | int i => cases e; rfl
  | str x h => cases e; exact ⟨h, rfl⟩
  | tup h r => cases e; exact .inr (.inl ⟨_, h, by rw [r.isEmpty]⟩)
  | lst h r => cases e; exact .inl ⟨_, h, by rw [r.isEmpty]⟩
  | @dct a qs ps vs h hl r =>
    cases e
    refine .inr (.inr ⟨_, h, ?_⟩)
    cases qs <;> cases vs <;> simp at hl ⊢
  | fn a => cases e
  | ty n => cases e
theorem tm_tru (ha : EM X a fa) (he : ∀ whole, isTrue a X.env whole = (do let v ← whole; standAt a.pos; holding [v] (truthy v)) := by intro _; rfl) : TMt X a (mTru fa) :=
  PT.imp (pt_truth ha he) fun σ H Q h => by
    obtain ⟨ι, ρ, C, z, C', sr, e, q⟩ := h
    obtain ⟨x, C1, e1, e⟩ := bnd_some e
    obtain ⟨e2, rfl⟩ := opM_some e
    refine ⟨ι, ρ, C, x, C', sr, e1, fun v H1 f1 c1 r1 => ⟨z, ?_, q H1 f1 c1⟩⟩
    cases hd : deref C' x with
    | none => rw [hd] at e2; cases e2
    | some p => rw [hd] at e2; exact (r1.lies c1 hd).tru e2
def mNotT (f : PSt → M Bool) : PSt → M Bool := fun ρ => bnd (f ρ) fun b => ret (!b)
def mAndT (f g : PSt → M Bool) : PSt → M Bool := fun ρ => bnd (f ρ) fun b => if b then g ρ else ret false
def mOrT (f g : PSt → M Bool) : PSt → M Bool := fun ρ => bnd (f ρ) fun b => if b then ret true else g ρ
theorem tm_not {f : PSt → M Bool} (h : TMt X a f) : TMt X (.UnaryOp .Not a pos) (mNotT f) := PT.imp (pt_not h) fun σ H Q h => by
  obtain ⟨ι, ρ, C, z, C', sr, e, q⟩ := h
  obtain ⟨x, C1, e1, e⟩ := bnd_some e
  cases e
  exact ⟨ι, ρ, C, x, _, sr, e1, fun H1 f1 c1 => q H1 f1 c1⟩
theorem wm_and1 {f : PSt → M Bool} (h : TMt X a f) : WM X (.BoolOp .And [a] pos) f := pw_and1 h
theorem wm_or1 {f : PSt → M Bool} (h : TMt X a f) : WM X (.BoolOp .Or [a] pos) f := pw_or1 h
theorem wm_and {rest : List Expr} {f g : PSt → M Bool} (h : TMt X a f) (k : WM X (.BoolOp .And (b :: rest) pos) g) : WM X (.BoolOp .And (a :: b :: rest) pos) (mAndT f g) := PW.imp (pw_and h k) fun σ H Q h => by
  obtain ⟨ι, ρ, C, z, C', sr, e, q⟩ := h
  obtain ⟨x, C1, e1, e⟩ := bnd_some e
  refine ⟨ι, ρ, C, x, C1, sr, e1, fun H1 f1 c1 => ?_⟩
  cases x with
  | true => rw [if_pos rfl] at e ⊢; exact ⟨ι, ρ, C1, z, C', sr.step f1 c1, e, fun H2 f2 c2 => q H2 (f1.trans f2) c2⟩
  | false => rw [if_neg Bool.false_ne_true] at e ⊢; cases e; exact q H1 f1 c1
theorem wm_or {rest : List Expr} {f g : PSt → M Bool} (h : TMt X a f) (k : WM X (.BoolOp .Or (b :: rest) pos) g) : WM X (.BoolOp .Or (a :: b :: rest) pos) (mOrT f g) := PW.imp (pw_or h k) fun σ H Q h => by
  obtain ⟨ι, ρ, C, z, C', sr, e, q⟩ := h
  obtain ⟨x, C1, e1, e⟩ := bnd_some e
  refine ⟨ι, ρ, C, x, C1, sr, e1, fun H1 f1 c1 => ?_⟩
  cases x with
  | true => rw [if_pos rfl] at e ⊢; cases e; exact q H1 f1 c1
  | false => rw [if_neg Bool.false_ne_true] at e ⊢; exact ⟨ι, ρ, C1, z, C', sr.step f1 c1, e, fun H2 f2 c2 => q H2 (f1.trans f2) c2⟩
def mAndV (f g : PSt → M SV) : PSt → M SV := fun ρ => bnd (f ρ) fun x => bnd (mB x) fun b => if b then g ρ else ret (.v (.bl false))
def mOrV (f g : PSt → M SV) : PSt → M SV := fun ρ => bnd (f ρ) fun x => bnd (mB x) fun b => if b then ret (.v (.bl true)) else g ρ
def mNotV (f : PSt → M SV) : PSt → M SV := fun ρ => bnd (f ρ) fun x => bnd (mB x) fun b => ret (.v (.bl !b))
theorem em_one {op} {f : PSt → M SV} (h : EM X a f) : EM X (.BoolOp op [a] pos) f := pe_one h
theorem em_and {rest : List Expr} {f g : PSt → M SV} (h : EM X a f) (k : EM X (.BoolOp .And (b :: rest) pos) g) : EM X (.BoolOp .And (a :: b :: rest) pos) (mAndV f g) := PE.imp (pe_and h k) fun σ H Q h => by
  obtain ⟨ι, ρ, C, z, C', sr, e, q⟩ := h
  obtain ⟨x, C1, e1, e⟩ := bnd_some e
  obtain ⟨k, C2, e2, e3⟩ := bnd_some e
  obtain ⟨hx, hC⟩ := mB_some e2
  subst hx hC
  clear e e2
  have e := e3
  refine ⟨ι, ρ, C, _, C2, sr, e1, fun v H1 f1 c1 r1 => ⟨k, repB r1, ?_⟩⟩
  cases k with
  | true => rw [if_pos rfl] at e ⊢; exact ⟨ι, ρ, C2, z, C', sr.step f1 c1, e, fun v' H2 f2 c2 r2 => q v' H2 (f1.trans f2) c2 r2⟩
  | false => rw [if_neg Bool.false_ne_true] at e ⊢; cases e; exact q _ H1 f1 c1 repB'
theorem em_or {rest : List Expr} {f g : PSt → M SV} (h : EM X a f) (k : EM X (.BoolOp .Or (b :: rest) pos) g) : EM X (.BoolOp .Or (a :: b :: rest) pos) (mOrV f g) := PE.imp (pe_or h k) fun σ H Q h => by
  obtain ⟨ι, ρ, C, z, C', sr, e, q⟩ := h
  obtain ⟨x, C1, e1, e⟩ := bnd_some e
  obtain ⟨k, C2, e2, e3⟩ := bnd_some e
  obtain ⟨hx, hC⟩ := mB_some e2
  subst hx hC
  clear e e2
  have e := e3
  refine ⟨ι, ρ, C, _, C2, sr, e1, fun v H1 f1 c1 r1 => ⟨k, repB r1, ?_⟩⟩
  cases k with
  | false => rw [if_neg Bool.false_ne_true] at e ⊢; exact ⟨ι, ρ, C2, z, C', sr.step f1 c1, e, fun v' H2 f2 c2 r2 => q v' H2 (f1.trans f2) c2 r2⟩
  | true => rw [if_pos rfl] at e ⊢; cases e; exact q _ H1 f1 c1 repB'
theorem em_not {f : PSt → M SV} (h : EM X a f) : EM X (.UnaryOp .Not a pos) (mNotV f) := PE.imp (pe_not h) fun σ H Q h => by
  obtain ⟨ι, ρ, C, z, C', sr, e, q⟩ := h
  obtain ⟨x, C1, e1, e⟩ := bnd_some e
  obtain ⟨k, C2, e2, e3⟩ := bnd_some e
  obtain ⟨hx, hC⟩ := mB_some e2
  subst hx hC
  clear e e2
  have e := e3
  refine ⟨ι, ρ, C, _, C2, sr, e1, fun v H1 f1 c1 r1 => ⟨k, repB r1, ?_⟩⟩
  cases e
  exact q _ H1 f1 c1 repB'
def mIf (t : PSt → M Bool) (f g : PSt → M SV) : PSt → M SV := fun ρ => bnd (t ρ) fun b => if b then f ρ else g ρ
theorem em_if {t : PSt → M Bool} {f g : PSt → M SV} (hc : TMt X c t) (h : EM X a f) (k : EM X b g) : EM X (.IfExp c a b pos) (mIf t f g) := PE.imp (pe_ifExp hc h k) fun σ H Q h => by
  obtain ⟨ι, ρ, C, z, C', sr, e, q⟩ := h
  obtain ⟨x, C1, e1, e⟩ := bnd_some e
  refine ⟨ι, ρ, C, x, C1, sr, e1, fun H1 f1 c1 => ?_⟩
  cases x with
  | true => rw [if_pos rfl] at e ⊢; exact ⟨ι, ρ, C1, z, C', sr.step f1 c1, e, fun v H2 f2 c2 r2 => q v H2 (f1.trans f2) c2 r2⟩
  | false => rw [if_neg Bool.false_ne_true] at e ⊢; exact ⟨ι, ρ, C1, z, C', sr.step f1 c1, e, fun v H2 f2 c2 r2 => q v H2 (f1.trans f2) c2 r2⟩
def aNil : PSt → M (List SV) := fun _ => ret []
def aCons (f : PSt → M SV) (g : PSt → M (List SV)) : PSt → M (List SV) := fun ρ => bnd (f ρ) fun x => bnd (g ρ) fun xs => ret (x :: xs)
theorem am_nil : AM X [] aNil := PA.imp pa_nil fun σ H Q ⟨ι, ρ, C, z, C', sr, e, q⟩ => by cases e; exact q [] H .refl sr.cr rfl
theorem am_cons {f : PSt → M SV} {g : PSt → M (List SV)} (h : EM X e f) (k : AM X es g) (hs : starEach (e :: es) X.env = (false, eval e X.env) :: starEach es X.env := by rfl) : AM X (e :: es) (aCons f g) := PA.imp (pa_cons h k hs) fun σ H Q h => by
  obtain ⟨ι, ρ, C, z, C', sr, e, q⟩ := h
  obtain ⟨x, C1, e1, e⟩ := bnd_some e
  obtain ⟨xs, C2, e2, e⟩ := bnd_some e
  cases e
  exact ⟨ι, ρ, C, x, C1, sr, e1, fun v H1 f1 c1 r1 => ⟨ι, ρ, C1, xs, C', sr.step f1 c1, e2, fun vs H2 f2 c2 r2 => q (v :: vs) H2 (f1.trans f2) c2 ⟨v, vs, rfl, r1.mono c1 f2, r2⟩⟩⟩
def C1ok (K : PySem.W.Frag) (r : List V → Hp → VK → Prop) (g : Cs → List SV → Option SV) : Prop :=
  ∀ (ι : List Addr) (H : Hp) (C : Cs) (xs : List SV) (vs : List V) (z : SV) (Q : VK), CR K ι H C → RepSs K ι H xs vs → g C xs = some z → (∀ v H', Fr ι H H' → CR K ι H' C → RepS K ι H' z v → Q v H') → r vs H Q
def mCB (g : Cs → List SV → Option SV) (fs : PSt → M (List SV)) : PSt → M SV := fun ρ => bnd (fs ρ) fun xs => opM fun C => g C xs
theorem tM_CB {K : PySem.W.Frag} {r : List V → Hp → VK → Prop} {g : Cs → List SV → Option SV} {fs : PSt → M (List SV)} (hg : C1ok K r g) {σ : St} {H : Hp} {Q : VK} (h : tM K (mCB g fs) σ H Q) : tCB r (tMA K fs) σ H Q := by
  obtain ⟨ι, ρ, C, z, C', sr, e, q⟩ := h
  obtain ⟨xs, C1, e1, e⟩ := bnd_some e
  obtain ⟨e2, rfl⟩ := opM_some e
  exact ⟨ι, ρ, C, xs, C', sr, e1, fun vs H1 f1 c1 r1 => hg ι H1 C' xs vs z _ c1 r1 e2 fun v H2 f2 c2 r2 => q v H2 (f1.trans f2) c2 r2⟩
theorem em_callB {id : String} {r : List V → Hp → VK → Prop} {g : Cs → List SV → Option SV} {fs : PSt → M (List SV)} (hc : CallR X (.builtin id) r) (hg : C1ok X.K r g) (hgl : Gl X x) (hm : X.mg x = none) (hv : bootBuiltins x = some (.builtin id)) (ha : AM X (e :: es) fs) (hn : x ≠ "__name__" := by decide) (hdb : (x == ("__debug__" : Str)) = false := by decide)
    (he : starEach (e :: es) X.env = (false, eval e X.env) :: starEach es X.env := by rfl) (hpl : (backTo pos (starEach es X.env)).any (·.1) = false := by rfl) : EM X (.Call (.Name x p) (e :: es) [] pos) (mCB g fs) :=
  PE.imp (pe_callB hc hgl hm hv ha hn hdb he hpl) fun _ _ _ h => tM_CB hg h
theorem em_callTy {T : String} {r : List V → Hp → VK → Prop} {g : Cs → List SV → Option SV} {fs : PSt → M (List SV)} (hc : CallR X (.type T) r) (hg : C1ok X.K r g) (hgl : Gl X x) (hm : X.mg x = none) (hv : bootBuiltins x = some (.type T)) (ha : AM X (e :: es) fs) (hn : x ≠ "__name__" := by decide) (hdb : (x == ("__debug__" : Str)) = false := by decide)
    (he : starEach (e :: es) X.env = (false, eval e X.env) :: starEach es X.env := by rfl) (hpl : (backTo pos (starEach es X.env)).any (·.1) = false := by rfl) : EM X (.Call (.Name x p) (e :: es) [] pos) (mCB g fs) :=
  PE.imp (pe_callTy hc hgl hm hv ha hn hdb he hpl) fun _ _ _ h => tM_CB hg h
def liftSp (K : PySem.W.Frag) (F : List SV → M SV) : Sp := fun vs H Q _ => ∃ ι ss C r C', CR K ι H C ∧ RepSs K ι H ss vs ∧ F ss C = some (r, C') ∧ ∀ v H', Fr ι H H' → CR K ι H' C' → RepS K ι H' r v → Q v H'
def mFn (F : List SV → M SV) (fs : PSt → M (List SV)) : PSt → M SV := fun ρ => bnd (fs ρ) F
theorem em_call {k : Nat} {f : Addr} {fd : FuncData} {ps : List Str} {F : List SV → M SV} {fs : PSt → M (List SV)} (G : FnOk X.prog X.w X.K X.mg X.base CX0 k f fd ps (liftSp X.K F)) (hr : Room k X.A) (hg : Gl X x) (hm : X.mg x = some (.ref f)) (hk : PySem.W.keepIn X.K (.ref f) = true) (hb : Binds X.K fd ps [])
    (ha : AM X (e :: es) fs) (hdb : (x == ("__debug__" : Str)) = false := by decide) (he : starEach (e :: es) X.env = (false, eval e X.env) :: starEach es X.env := by rfl) (hpl : (backTo pos (starEach es X.env)).any (·.1) = false := by rfl) :
    EM X (.Call (.Name x p) (e :: es) [] pos) (mFn F fs) := PE.imp (pe_call G hr hg hm hk hb .nil pass0 ha hdb he hpl) fun σ H Q h => by
  obtain ⟨ι, ρ, C, z, C', sr, e, q⟩ := h
  obtain ⟨xs, C1, e1, e⟩ := bnd_some e
  refine ⟨ι, ρ, C, xs, C1, sr, e1, fun vs H1 f1 c1 r1 => ?_⟩
  show liftSp X.K F (vs ++ []) H1 Q E0
  rw [List.append_nil]
  exact ⟨ι, xs, C1, z, C', c1, r1, e, fun v H2 f2 c2 r2 => q v H2 (f1.trans f2) c2 r2⟩
theorem em_call0 {k : Nat} {f : Addr} {fd : FuncData} {ps : List Str} {F : List SV → M SV} (G : FnOk X.prog X.w X.K X.mg X.base CX0 k f fd ps (liftSp X.K F)) (hr : Room k X.A) (hg : Gl X x) (hm : X.mg x = some (.ref f)) (hk : PySem.W.keepIn X.K (.ref f) = true) (hb : Binds X.K fd ps [])
    (hdb : (x == ("__debug__" : Str)) = false := by decide) :
    EM X (.Call (.Name x p) [] [] pos) (mFn F aNil) := PE.imp (pe_call0 G hr hg hm hk hb .nil pass0 hdb) fun σ H Q h => by
  obtain ⟨ι, ρ, C, z, C', sr, e, q⟩ := h
  obtain ⟨xs, C1, e1, e⟩ := bnd_some e
  cases e1
  show liftSp X.K F _ H Q E0
  exact ⟨ι, [], C, z, C', sr.cr, rfl, e, fun v H2 f2 c2 r2 => q v H2 f2 c2 r2⟩
end
end Pu

set_option Elab.async false
set_option linter.all false
set_option maxRecDepth 100000
set_option maxHeartbeats 4000000
namespace Pu
open PySem PySem.Spec L2
open PyProof.Rows hiding St
def Ex (ι ι2 : List Addr) (H H' : Hp) : Prop := Fr ι H H' ∧ ∀ b ∈ ι2, H b = none
section
variable {K : PySem.W.Frag} {ι ι2 ι3 ι' : List Addr} {H H1 H2 H' : Hp} {C C' C1 : Cs} {ρ : PSt} {σ : St}
mutual
theorem Rep.tr (cr : CR K ι H C) (h : ∀ b o, b ∉ ι → H b = some o → b ∉ ι' ∧ H' b = some o) : ∀ (p : PV) (v : V), Rep K ι H p v → Rep K ι' H' p v
  | .non, v, q => by unfold Rep at q ⊢; exact q
  | .bl b, v, q => by unfold Rep at q ⊢; exact q
  | .int i, v, q => by unfold Rep at q ⊢; exact q
  | .str x, v, q => by unfold Rep at q ⊢; exact q
  | .tup ps, v, q => by
    unfold Rep at q ⊢
    obtain ⟨a, vs, e, sq, r⟩ := q
    refine ⟨a, vs, e, ?_, Reps.tr cr h ps vs r⟩
    rcases sq with (z | ⟨o, z⟩) | z
    · exact .inl (.inl (h _ _ (cr.notup z (fun _ e => nomatch e) fun _ e => nomatch e) z).2)
    · exact .inl (.inr ⟨o, (h _ _ (cr.notup z (fun _ e => nomatch e) fun _ e => nomatch e) z).2⟩)
    · exact .inr z
  | .lst ps, v, q => by
    unfold Rep at q ⊢
    obtain ⟨a, vs, e, sq, r⟩ := q
    refine ⟨a, vs, e, ?_, Reps.tr cr h ps vs r⟩
    rcases sq with ⟨n, z | ⟨o, z⟩⟩ | z
    · exact .inl ⟨(h _ _ n z).1, .inl (h _ _ n z).2⟩
    · exact .inl ⟨(h _ _ n z).1, .inr ⟨o, (h _ _ n z).2⟩⟩
    · exact .inr z
  | .dct ks ps, v, q => by
    unfold Rep at q ⊢
    obtain ⟨a, qs, vs, e, n, hd, hl, hk, r⟩ := q
    exact ⟨a, qs, vs, e, (h _ _ n hd).1, (h _ _ n hd).2, hl, hk, Reps.tr cr h ps vs r⟩
  | .fn a, v, q => by unfold Rep at q ⊢; exact q
  | .ty n, v, q => by unfold Rep at q ⊢; exact q
theorem Reps.tr (cr : CR K ι H C) (h : ∀ b o, b ∉ ι → H b = some o → b ∉ ι' ∧ H' b = some o) : ∀ (ps : List PV) (vs : List V), Reps K ι H ps vs → Reps K ι' H' ps vs
  | [], vs, q => by unfold Reps at q ⊢; exact q
  | p :: ps, vs, q => by
    unfold Reps at q ⊢
    obtain ⟨v, r, e, h1, h2⟩ := q
    exact ⟨v, r, e, Rep.tr cr h p v h1, Reps.tr cr h ps r h2⟩
end
theorem Ex.fr (f : Fr ι H H') : Ex ι [] H H' := ⟨f, fun _ z => nomatch z⟩
theorem Ex.out (x : Ex ι ι2 H H') : ∀ b o, b ∉ ι → H b = some o → b ∉ ι ++ ι2 ∧ H' b = some o := fun b o n e => by
  refine ⟨fun z => ?_, x.1 b o n e⟩
  rcases List.mem_append.mp z with z | z
  · exact n z
  · rw [x.2 b z] at e; cases e
theorem Ex.trans (c : CR K (ι ++ ι2) H1 C1) (x : Ex ι ι2 H H1) (y : Ex (ι ++ ι2) ι3 H1 H2) : Ex ι (ι2 ++ ι3) H H2 := by
  refine ⟨fun b o n e => (y.out b o (x.out b o n e).1 (x.out b o n e).2).2, fun b hb => ?_⟩
  rcases List.mem_append.mp hb with hb | hb
  · exact x.2 b hb
  · cases e : H b with
    | none => rfl
    | some o =>
      by_cases n : b ∈ ι
      · rcases c.mut (List.mem_append_left _ n) with ⟨vs, z⟩ | ⟨vs, z⟩
        · rw [y.2 b hb] at z; cases z
        · rw [y.2 b hb] at z; cases z
      · have := x.1 b o n e
        rw [y.2 b hb] at this; cases this
theorem RepS.ex (cr : CR K ι H C) (x : Ex ι ι2 H H') {s : SV} {v : V} (r : RepS K ι H s v) : RepS K (ι ++ ι2) H' s v := by
  cases s with
  | v p => exact Rep.tr cr x.out p v r
  | c k =>
    obtain ⟨a, e, hk⟩ := r
    refine ⟨a, e, ?_⟩
    have hl : k < ι.length := by
      rcases Nat.lt_or_ge k ι.length with q | q
      · exact q
      · rw [List.getElem?_eq_none_iff.mpr q] at hk; cases hk
    rw [List.getElem?_append_left hl]; exact hk
theorem SR.ex (sr : SR K ι H ρ σ C) (x : Ex ι ι2 H H') (c : CR K (ι ++ ι2) H' C') : SR K (ι ++ ι2) H' ρ σ C' :=
  ⟨c, sr.len, fun i s e => by obtain ⟨v, h1, h2⟩ := sr.loc i s e; exact ⟨v, h1, h2.ex sr.cr x⟩⟩
end
def Done (K : PySem.W.Frag) (ι : List Addr) (H : Hp) (D : Ends) (C' : Cs) : PF → Prop
  | .nx ρ => ∀ ι2 σ' H', Ex ι ι2 H H' → SR K (ι ++ ι2) H' ρ σ' C' → D.nx σ' H'
  | .rt r => ∀ ι2 v H', Ex ι ι2 H H' → CR K (ι ++ ι2) H' C' → RepS K (ι ++ ι2) H' r v → D.rt v H'
  | .bk ρ => ∀ ι2 σ' H', Ex ι ι2 H H' → SR K (ι ++ ι2) H' ρ σ' C' → D.bk σ' H'
  | .ct ρ => ∀ ι2 σ' H', Ex ι ι2 H H' → SR K (ι ++ ι2) H' ρ σ' C' → D.ct σ' H'
  | .rf ps => ∀ ι2 p vs H', Ex ι ι2 H H' → CR K (ι ++ ι2) H' C' → H' p = none → Reps K (ι ++ ι2) H' ps vs → D.rt (.ref p) (upd H' p (.lst vs))
def tMS (K : PySem.W.Frag) (f : PSt → M PF) : TS := fun D σ H => ∃ ι ρ C fl C', SR K ι H ρ σ C ∧ f ρ C = some (fl, C') ∧ Done K ι H D C' fl
def SM (X : Cx) (st : Stmt) (f : PSt → M PF) : Prop := PS X st (tMS X.K f)
def BM (X : Cx) (sts : List Stmt) (f : PSt → M PF) : Prop := PSs X sts (tMS X.K f)
section
variable {K : PySem.W.Frag} {ι ι2 : List Addr} {H H' : Hp} {C C' C1 : Cs} {ρ : PSt} {σ : St} {D : Ends} {fl : PF}
theorem Done.tr (c : CR K (ι ++ ι2) H' C1) (x : Ex ι ι2 H H') (d : Done K ι H D C' fl) : Done K (ι ++ ι2) H' D C' fl := by
  cases fl with
  | nx ρ => intro ι3 σ' H2 y sr; rw [List.append_assoc] at sr; exact d _ σ' H2 (x.trans c y) sr
  | rt r => intro ι3 v H2 y cr rr; rw [List.append_assoc] at cr rr; exact d _ v H2 (x.trans c y) cr rr
  | bk ρ => intro ι3 σ' H2 y sr; rw [List.append_assoc] at sr; exact d _ σ' H2 (x.trans c y) sr
  | ct ρ => intro ι3 σ' H2 y sr; rw [List.append_assoc] at sr; exact d _ σ' H2 (x.trans c y) sr
  | rf ps => intro ι3 p vs H2 y cr hp rs; rw [List.append_assoc] at cr rs; exact d _ p vs H2 (x.trans c y) cr hp rs
theorem Done.fr (c : CR K ι H' C1) (f : Fr ι H H') (d : Done K ι H D C' fl) : Done K ι H' D C' fl := by
  have := Done.tr (ι2 := []) (by rw [List.append_nil]; exact c) (Ex.fr f) d
  rw [List.append_nil] at this; exact this
theorem Done.nx0 (sr : SR K ι H ρ σ C') (d : Done K ι H D C' (.nx ρ)) : D.nx σ H := d [] σ H (Ex.fr .refl) (by rw [List.append_nil]; exact sr)
end
section
variable {X : Cx} {a b e c tg : Expr} {es : List Expr} {st : Stmt} {rest sts sts' : List Stmt} {f g : PSt → M PF} {pos p pos' : Pos} {x : Str}
def mSkip : PSt → M PF := fun ρ => ret (.nx ρ)
def mSeq (f g : PSt → M PF) : PSt → M PF := fun ρ => bnd (f ρ) fun fl => match fl with
  | .nx ρ' => g ρ'
  | fl => ret fl
theorem bm_nil : BM X [] mSkip := PSs.imp pss_nil fun D σ H ⟨ι, ρ, C, fl, C', sr, e, d⟩ => by cases e; exact d.nx0 sr
theorem bm_one (h : SM X st f) : BM X [st] f := pss_one h
theorem bm_cons (h : SM X st f) (k : BM X rest g) : BM X (st :: rest) (mSeq f g) := PSs.imp (pss_cons h k) fun D σ H ⟨ι, ρ, C, fl, C', sr, e, d⟩ => by
  obtain ⟨fl1, C1, e1, e⟩ := bnd_some e
  refine ⟨ι, ρ, C, fl1, C1, sr, e1, ?_⟩
  cases fl1 with
  | nx ρ1 => exact fun ι2 σ' H' x sr' => ⟨ι ++ ι2, ρ1, C1, fl, C', sr', e, d.tr sr'.cr x⟩
  | rt r => cases e; exact d
  | bk ρ1 => cases e; exact d
  | ct ρ1 => cases e; exact d
  | rf ps => cases e; exact d
def mIfS (t : PSt → M Bool) (f g : PSt → M PF) : PSt → M PF := fun ρ => bnd (t ρ) fun b => if b then f ρ else g ρ
theorem sm_if {t : PSt → M Bool} (hc : TMt X c t) (h : BM X sts f) (k : BM X sts' g) : SM X (.If c sts sts' pos) (mIfS t f g) := PS.imp (ps_if hc h k) fun D σ H ⟨ι, ρ, C, fl, C', sr, e, d⟩ => by
  obtain ⟨z, C1, e1, e⟩ := bnd_some e
  refine ⟨ι, ρ, C, z, C1, sr, e1, fun H1 f1 c1 => ?_⟩
  cases z with
  | true => rw [if_pos rfl] at e ⊢; exact ⟨ι, ρ, C1, fl, C', sr.step f1 c1, e, d.fr c1 f1⟩
  | false => rw [if_neg Bool.false_ne_true] at e ⊢; exact ⟨ι, ρ, C1, fl, C', sr.step f1 c1, e, d.fr c1 f1⟩
def mRet (f : PSt → M SV) : PSt → M PF := fun ρ => bnd (f ρ) fun r => ret (.rt r)
theorem sm_ret {f : PSt → M SV} (h : EM X e f) : SM X (.Return (some e) pos) (mRet f) := PS.imp (ps_ret h) fun D σ H ⟨ι, ρ, C, fl, C', sr, e, d⟩ => by
  obtain ⟨z, C1, e1, e⟩ := bnd_some e
  cases e
  exact ⟨ι, ρ, C, z, _, sr, e1, fun v H1 f1 c1 r1 => d [] v H1 (Ex.fr f1) (by rw [List.append_nil]; exact c1) (by rw [List.append_nil]; exact r1)⟩
def mRetF (f : PSt → M (List PV)) : PSt → M PF := fun ρ => bnd (f ρ) fun r => ret (.rf r)
theorem sm_retF {f : PSt → M (List PV)} (h : FM X e f) : SM X (.Return (some e) pos) (mRetF f) := PS.imp (ps_ret h) fun D σ H ⟨ι, ρ, C, fl, C', sr, e, d⟩ => by
  obtain ⟨ps, C1, e1, g1⟩ := bnd_some e
  cases g1
  exact ⟨ι, ρ, C, ps, _, sr, e1, fun q vs H1 f1 c1 hq rs => d [] q vs H1 (Ex.fr f1) (by rw [List.append_nil]; exact c1) hq (by rw [List.append_nil]; exact rs)⟩
def mDrop (f : PSt → M SV) : PSt → M PF := fun ρ => bnd (f ρ) fun _ => ret (.nx ρ)
theorem sm_expr {f : PSt → M SV} (h : EM X e f) (hs : swapsWith e none pos.line X.env = pure false := by rfl) : SM X (.Expr e pos) (mDrop f) := PS.imp (ps_expr h hs) fun D σ H ⟨ι, ρ, C, fl, C', sr, e, d⟩ => by
  obtain ⟨z, C1, e1, e⟩ := bnd_some e
  cases e
  exact ⟨ι, ρ, C, z, _, sr, e1, fun v H1 f1 c1 r1 => Done.nx0 (sr.step f1 c1) (d.fr c1 f1)⟩
def mSet (i : Nat) (f : PSt → M SV) : PSt → M PF := fun ρ => bnd (f ρ) fun r => ret (.nx (ρ.set i (some r)))
theorem sm_set {i : Nat} {f : PSt → M SV} (hN : X.N.Nodup) (hi : X.N[i]? = some x) (hx : Loc X.env.scope x) (h : EM X e f) (hs : swapsWith e (some (.Name x pos')) pos.line X.env = pure false := by rfl)
    (hf : X.fn x = true ∨ X.env.scope.names.lookup x = some .local := by first | exact .inl rfl | exact .inr rfl | assumption) : SM X (.Assign [.Name x pos'] e pos) (mSet i f) := PS.imp (ps_set hN hi hx h hs hf) fun D σ H ⟨ι, ρ, C, fl, C', sr, e, d⟩ => by
  obtain ⟨z, C1, e1, e⟩ := bnd_some e
  cases e
  exact ⟨ι, ρ, C, z, _, sr, e1, fun v H1 f1 c1 r1 => Done.nx0 ((sr.step f1 c1).set i r1) (d.fr c1 f1)⟩
def mNew (i : Nat) (f : PSt → M (List PV)) : PSt → M PF := fun ρ => bnd (f ρ) fun ps => fun C => some (.nx (ρ.set i (some (.c C.length))), C ++ [.lst ps])
theorem new_cell {K : PySem.W.Frag} {ι : List Addr} {H H' : Hp} {ρ : PSt} {σ : St} {C C1 : Cs} {D : Ends} {i : Nat} {ps : List PV} {q : Addr} {vs : List V} (sr : SR K ι H ρ σ C) (d : Done K ι H D (C1 ++ [.lst ps]) (.nx (ρ.set i (some (.c C1.length)))))
    (f1 : Fr ι H H') (c1 : CR K ι H' C1) (hq : H' q = none) (rs : Reps K ι H' ps vs) : D.nx (σ.set i (some (.ref q))) (upd H' q (.lst vs)) := by
  have c2 : CR K (ι ++ [q]) (upd H' q (.lst vs)) (C1 ++ [.lst ps]) := c1.add hq ⟨vs, upd_same, RepsNew c1 hq ps vs rs⟩
  have x : Ex ι [q] H (upd H' q (.lst vs)) := ⟨f1.trans (Fr.new hq), fun b hb => by
    have : b = q := by simpa using hb
    subst this
    cases e : H b with
    | none => rfl
    | some o =>
      by_cases n : b ∈ ι
      · rcases c1.mut n with ⟨vs, z⟩ | ⟨vs, z⟩
        · rw [hq] at z; cases z
        · rw [hq] at z; cases z
      · have := f1 b o n e; rw [hq] at this; cases this⟩
  refine d [q] _ _ x ((sr.ex x c2).set i ⟨q, rfl, ?_⟩)
  rw [← c1.len]; simp
theorem sm_new {i : Nat} {f : PSt → M (List PV)} (hN : X.N.Nodup) (hi : X.N[i]? = some x) (hx : Loc X.env.scope x) (h : FM X e f) (hs : swapsWith e (some (.Name x pos')) pos.line X.env = pure false := by rfl)
    (hf : X.fn x = true ∨ X.env.scope.names.lookup x = some .local := by first | exact .inl rfl | exact .inr rfl | assumption) : SM X (.Assign [.Name x pos'] e pos) (mNew i f) := PS.imp (ps_set hN hi hx h hs hf) fun D σ H ⟨ι, ρ, C, fl, C', sr, e, d⟩ => by
  obtain ⟨ps, C1, e1, e⟩ := bnd_some e
  cases e
  exact ⟨ι, ρ, C, ps, C1, sr, e1, fun q vs H' f1 c1 hq rs => new_cell sr d f1 c1 hq rs⟩
def plain : List SV → Option (List PV)
  | [] => some []
  | .v p :: r => (plain r).map (p :: ·)
  | .c _ :: _ => none
theorem plain_reps {K : PySem.W.Frag} {ι : List Addr} {H : Hp} : ∀ {xs : List SV} {ps : List PV} {vs : List V}, plain xs = some ps → RepSs K ι H xs vs → Reps K ι H ps vs ∧ vs.length = xs.length
  | [], ps, vs, e, r => by cases e; rw [show vs = [] from r]; exact ⟨.nil, rfl⟩
  | .v p :: xs, ps, vs, e, r => by
    obtain ⟨v, w, rfl, h1, h2⟩ := r
    unfold plain at e
    cases h : plain xs with
    | none => rw [h] at e; cases e
    | some qs =>
      rw [h] at e; cases e
      exact ⟨.cons h1 (plain_reps h h2).1, by rw [List.length_cons, List.length_cons, (plain_reps h h2).2]⟩
  | .c _ :: _, ps, vs, e, r => by cases e
theorem k1000 {n : Nat} (h : n ≤ 1000) : n ≤ sizeLine := Nat.le_trans h (by rw [sizeLine_eq]; decide)
def mTup (fs : PSt → M (List SV)) : PSt → M SV := fun ρ => bnd (fs ρ) fun xs => opM fun _ => if xs.length ≤ 1000 then (plain xs).map fun ps => .v (.tup ps) else none
theorem em_tup {x1} {fs : PSt → M (List SV)} (h : AM X es fs) : EM X (.Tuple es x1 pos) (mTup fs) := PE.imp (pe_tup h) fun σ H Q ⟨ι, ρ, C, z, C', sr, e, q⟩ => by
  obtain ⟨xs, C1, e1, e⟩ := bnd_some e
  obtain ⟨e2, rfl⟩ := opM_some e
  refine ⟨ι, ρ, C, xs, _, sr, e1, fun vs H1 f1 c1 r1 => ?_⟩
  by_cases hl : xs.length ≤ 1000
  · rw [if_pos hl] at e2
    cases hp : plain xs with
    | none => rw [hp] at e2; cases e2
    | some ps =>
      rw [hp] at e2; cases e2
      obtain ⟨rs, hv⟩ := plain_reps hp r1
      refine ⟨by rw [hv]; exact k1000 hl, fun q' hq => q _ _ (f1.trans (Fr.new hq)) (c1.new hq) ?_⟩
      show Rep _ _ _ (.tup ps) _
      unfold Rep
      exact ⟨q', vs, rfl, .inl (.inl upd_same), Reps.stay (fun b o e => by rw [upd_ne (ne_of_none e hq)]; exact e) ps vs rs⟩
  · rw [if_neg hl] at e2; cases e2
def mLst (fs : PSt → M (List SV)) : PSt → M (List PV) := fun ρ => bnd (fs ρ) fun xs => opM fun _ => if xs.length ≤ 1000 then plain xs else none
theorem fm_lst {fs : PSt → M (List SV)} (h : AM X es fs) : FM X (.List es pos) (mLst fs) := PE.imp (pe_lst h) fun σ H Q ⟨ι, ρ, C, z, C', sr, e, q⟩ => by
  obtain ⟨xs, C1, e1, e⟩ := bnd_some e
  obtain ⟨e2, rfl⟩ := opM_some e
  refine ⟨ι, ρ, C, xs, _, sr, e1, fun vs H1 f1 c1 r1 => ?_⟩
  by_cases hl : xs.length ≤ 1000
  · rw [if_pos hl] at e2
    obtain ⟨rs, hv⟩ := plain_reps e2 r1
    exact ⟨by rw [hv]; exact k1000 hl, fun q' hq => q q' vs H1 f1 c1 hq rs⟩
  · rw [if_neg hl] at e2; cases e2
def mVal (f : PSt → M (List PV)) : PSt → M SV := fun ρ => bnd (f ρ) fun ps => ret (.v (.lst ps))
theorem new_val {K : PySem.W.Frag} {ι : List Addr} {H : Hp} {C : Cs} {ps : List PV} {q : Addr} {vs : List V} (c1 : CR K ι H C) (hq : H q = none) (rs : Reps K ι H ps vs) : Rep K ι (upd H q (.lst vs)) (.lst ps) (.ref q) := by
  unfold Rep
  refine ⟨q, vs, rfl, .inl ⟨fun z => ?_, .inl upd_same⟩, Reps.stay (fun b o e => by rw [upd_ne (ne_of_none e hq)]; exact e) ps vs rs⟩
  rcases c1.mut z with ⟨_, e⟩ | ⟨_, e⟩
  · rw [hq] at e; cases e
  · rw [hq] at e; cases e
theorem FM.em {f : PSt → M (List PV)} (h : FM X e f) : EM X e (mVal f) := PE.imp h fun σ H Q ⟨ι, ρ, C, z, C', sr, e, q⟩ => by
  obtain ⟨ps, C1, e1, e⟩ := bnd_some e
  cases e
  exact ⟨ι, ρ, C, ps, _, sr, e1, fun q' vs H1 f1 c1 hq rs => q _ _ (f1.trans (Fr.new hq)) (c1.new hq) (new_val c1 hq rs)⟩
def tMG (K : PySem.W.Frag) (g : PV → PSt → Option PSt) : TG := fun v σ H Q => ∃ ι ρ C p ρ', SR K ι H ρ σ C ∧ Rep K ι H p v ∧ g p ρ = some ρ' ∧ ∀ σ', SR K ι H ρ' σ' C → Q σ' H
def tMGs (K : PySem.W.Frag) (g : List PV → PSt → Option PSt) : TGs := fun v σ H Q => ∃ ι ρ C p ρ', SR K ι H ρ σ C ∧ Reps K ι H p v ∧ g p ρ = some ρ' ∧ ∀ σ', SR K ι H ρ' σ' C → Q σ' H
def GM (X : Cx) (tg : Expr) (g : PV → PSt → Option PSt) : Prop := PG X tg (tMG X.K g)
def GMs (X : Cx) (ts : List Expr) (g : List PV → PSt → Option PSt) : Prop := PGs X ts (tMGs X.K g)
theorem PG.imp {t t' : TG} (h : PG X tg t) (k : ∀ v σ H Q, t' v σ H Q → t v σ H Q) : PG X tg t' := fun pins s σ H v u Q I r q => h pins s σ H v u Q I r (k v σ H Q q)
theorem PGs.imp {t t' : TGs} (h : PGs X es t) (k : ∀ v σ H Q, t' v σ H Q → t v σ H Q) : PGs X es t' := fun pins s σ H v u Q I r q => h pins s σ H v u Q I r (k v σ H Q q)
def hName (i : Nat) : PV → PSt → Option PSt := fun p ρ => some (ρ.set i (some (.v p)))
theorem gm_name {i : Nat} (hN : X.N.Nodup) (hi : X.N[i]? = some x) (hx : Loc X.env.scope x) (hf : X.fn x = true ∨ X.env.scope.names.lookup x = some .local := by first | exact .inl rfl | exact .inr rfl | assumption) : GM X (.Name x pos) (hName i) :=
  PG.imp (pg_name hN hi hx hf) fun v σ H Q ⟨ι, ρ, C, p, ρ', sr, r, e, q⟩ => by cases e; exact q _ (sr.set i r)
def hNil : List PV → PSt → Option PSt
  | [], ρ => some ρ
  | _ :: _, _ => none
def hCons (g : PV → PSt → Option PSt) (gs : List PV → PSt → Option PSt) : List PV → PSt → Option PSt
  | [], _ => none
  | p :: ps, ρ => (g p ρ).bind fun ρ' => gs ps ρ'
def hTup (gs : List PV → PSt → Option PSt) (n : Nat) : PV → PSt → Option PSt
  | .tup ps, ρ => if ps.length = n then gs ps ρ else none
  | _, _ => none
theorem gms_nil : GMs X [] hNil := PGs.imp pgs_nil fun v σ H Q ⟨ι, ρ, C, p, ρ', sr, r, e, q⟩ => by
  cases p with
  | nil => cases e; exact ⟨r.inv0, q σ sr⟩
  | cons _ _ => cases e
theorem gms_cons {g : PV → PSt → Option PSt} {gs : List PV → PSt → Option PSt} (h : GM X e g) (k : GMs X es gs) (hs : (assignEach (e :: es) X.env).map (·.2) = assign e X.env :: (assignEach es X.env).map (·.2) := by rfl) : GMs X (e :: es) (hCons g gs) :=
  PGs.imp (pgs_cons h k hs) fun v σ H Q ⟨ι, ρ, C, p, ρ', sr, r, e, q⟩ => by
    cases p with
    | nil => cases e
    | cons p ps =>
      obtain ⟨w, ws, rfl, r1, r2⟩ := r.inv
      replace e : (g p ρ).bind (fun ρ' => gs ps ρ') = some ρ' := e
      cases h1 : g p ρ with
      | none => rw [h1] at e; cases e
      | some ρ1 =>
        rw [h1] at e
        exact ⟨w, ws, rfl, ι, ρ, C, p, ρ1, sr, r1, h1, fun σ1 sr1 => ⟨ι, ρ1, C, ps, ρ', sr1, r2, e, q⟩⟩
theorem gm_tup {gs : List PV → PSt → Option PSt} {k n : Nat} (hc : X.calm = true) (h : GMs X es gs) (hn : (assignEach es X.env).length = n := by rfl) (hst : (assignEach es X.env).findIdx? (·.1) = none := by rfl) : GM X (.Tuple es k pos) (hTup gs n) :=
  PG.imp (pg_tup hc h hn hst) fun v σ H Q ⟨ι, ρ, C, p, ρ', sr, r, e, q⟩ => by
    cases p with
    | tup ps =>
      unfold Rep at r
      obtain ⟨a, vs, rfl, sq, rs⟩ := r
      replace e : (if ps.length = n then gs ps ρ else none) = some ρ' := e
      by_cases hl : ps.length = n
      · rw [if_pos hl] at e
        exact ⟨a, vs, rfl, sq, by rw [← rs.length]; exact hl, ι, ρ, C, ps, ρ', sr, rs, e, q⟩
      · rw [if_neg hl] at e; cases e
    | _ => cases e
def mAsg (f : PSt → M SV) (g : PV → PSt → Option PSt) : PSt → M PF := fun ρ => bnd (f ρ) fun r => match r with
  | .v p => fun C => (g p ρ).map fun ρ' => (.nx ρ', C)
  | .c _ => fun _ => none
theorem sm_asg {f : PSt → M SV} {g : PV → PSt → Option PSt} (h : EM X e f) (k : GM X tg g) (hs : swapsWithSole [tg] e pos.line X.env = pure false := by rfl) (hw : swappedStores [tg] e X.env = pure none := by rfl)
    (h1 : (assignEach [tg] X.env).map (·.2) = [assign tg X.env] := by rfl) : SM X (.Assign [tg] e pos) (mAsg f g) := PS.imp (ps_asg h k hs hw h1) fun D σ H ⟨ι, ρ, C, fl, C', sr, e, d⟩ => by
  obtain ⟨z, C1, e1, e⟩ := bnd_some e
  refine ⟨ι, ρ, C, z, C1, sr, e1, fun v H1 f1 c1 r1 => ?_⟩
  cases z with
  | c k => cases e
  | v p =>
    have e : (g p ρ).map (fun ρ' => (PF.nx ρ', C1)) = some (fl, C') := e
    cases hg : g p ρ with
    | none => rw [hg] at e; cases e
    | some ρ1 =>
      rw [hg] at e
      cases e
      exact ⟨ι, ρ, _, p, ρ1, sr.step f1 c1, r1, hg, fun σ' sr' => Done.nx0 sr' (d.fr c1 f1)⟩
end
structure Iter (K : PySem.W.Frag) (ι : List Addr) (H1 : Hp) (xs : List PV) (J : It) : Prop where
  go : ∀ ι2 H2 C2, Ex ι ι2 H1 H2 → CR K (ι ++ ι2) H2 C2 → ∀ i, i < xs.length → J.go i H2
  yld : ∀ ι2 H2 C2, Ex ι ι2 H1 H2 → CR K (ι ++ ι2) H2 C2 → ∀ i v H3, i < xs.length → J.yld i H2 v H3 → (∀ b o, H2 b = some o → H3 b = some o) ∧ ∃ p, xs[i]? = some p ∧ Rep K (ι ++ ι2) H3 p v
  stop : ∀ ι2 H2 C2, Ex ι ι2 H1 H2 → CR K (ι ++ ι2) H2 C2 → J.stop xs.length H2
def tMI (K : PySem.W.Frag) (f : PSt → M (List PV)) : TI := fun σ H R => ∃ ι ρ C xs C', SR K ι H ρ σ C ∧ f ρ C = some (xs, C') ∧ ∀ J H1, Fr ι H H1 → CR K ι H1 C' → Iter K ι H1 xs J → R J H1
def IM (X : Cx) (tg iter : Expr) (f : PSt → M (List PV)) : Prop := PI X tg iter (tMI X.K f)
section
variable {X : Cx} {e tg iter elt : Expr} {es : List Expr} {body : List Stmt} {f : PSt → M PF} {pos p : Pos} {x : Str}
def loop (g : PV → PSt → Option PSt) (f : PSt → M PF) : List PV → PSt → M PF
  | [], ρ => ret (.nx ρ)
  | x :: xs, ρ => match g x ρ with
    | none => fun _ => none
    | some ρ1 => bnd (f ρ1) fun fl => match fl with
      | .nx ρ2 => loop g f xs ρ2
      | .ct ρ2 => loop g f xs ρ2
      | .bk ρ2 => ret (.nx ρ2)
      | .rt r => ret (.rt r)
      | .rf ps => ret (.rf ps)
def mFor (it : PSt → M (List PV)) (g : PV → PSt → Option PSt) (f : PSt → M PF) : PSt → M PF := fun ρ => bnd (it ρ) fun xs => loop g f xs ρ
theorem sm_for {it : PSt → M (List PV)} {g : PV → PSt → Option PSt} (hp : PassesOwn (model X.prog X.w) X.A X.env X.xe) (hc : X.calm = true) (hi : IM X tg iter it) (hg : GM X tg g) (hb : BM X body f)
    (hs : ∀ x, foldedSetIterable iter X.env x = pure x := by intro _; rfl) : SM X (.For tg iter body [] pos) (mFor it g f) := PS.imp (ps_for hp hc hi hg hb hs) fun D σ H ⟨ι, ρ, C, fl, C', sr, e, d⟩ => by
  obtain ⟨xs, C1, e1, e⟩ := bnd_some e
  refine ⟨ι, ρ, C, xs, C1, sr, e1, fun J H1 f1 c1 it1 => ?_⟩
  have d1 := d.fr c1 f1
  have sr1 := sr.step f1 c1
  refine ⟨fun i m σ2 H2 => ∃ ι2 ρ2 C2, m = xs.length - i ∧ i ≤ xs.length ∧ Ex ι ι2 H1 H2 ∧ SR X.K (ι ++ ι2) H2 ρ2 σ2 C2 ∧ loop g f (xs.drop i) ρ2 C2 = some (fl, C'), ⟨xs.length, [], ρ, C1, rfl, Nat.zero_le _, Ex.fr .refl, by rw [List.append_nil]; exact sr1, e⟩, ?_⟩
  rintro i m σ2 H2 ⟨ι2, ρ2, C2, rfl, hi2, x2, sr2, e2⟩
  rcases Nat.lt_or_ge i xs.length with hlt | hge
  · right
    refine ⟨it1.go ι2 H2 C2 x2 sr2.cr i hlt, fun σ' H' => ∃ ι2 ρ2 C2, Ex ι ι2 H1 H' ∧ SR X.K (ι ++ ι2) H' ρ2 σ' C2 ∧ loop g f (xs.drop (i + 1)) ρ2 C2 = some (fl, C'), ?_, ?_⟩
    · rintro σ' H' ⟨ι3, ρ3, C3, x3, sr3, e3⟩
      exact ⟨xs.length - (i + 1), by omega, ι3, ρ3, C3, rfl, hlt, x3, sr3, e3⟩
    · intro v H3 y
      obtain ⟨sm, q, hq, rq⟩ := it1.yld ι2 H2 C2 x2 sr2.cr i v H3 hlt y
      have hd : xs.drop i = q :: xs.drop (i + 1) := by
        rw [List.drop_eq_getElem_cons hlt]
        rw [List.getElem?_eq_getElem hlt] at hq
        rw [Option.some.inj hq]
      rw [hd] at e2
      unfold loop at e2
      cases hg1 : g q ρ2 with
      | none => rw [hg1] at e2; cases e2
      | some ρ3 =>
        rw [hg1] at e2
        obtain ⟨fl1, C3, e3, e4⟩ := bnd_some e2
        have fr3 : Fr (ι ++ ι2) H2 H3 := fun b o _ z => sm b o z
        have cr3 : CR X.K (ι ++ ι2) H3 C2 := sr2.cr.same sm
        have x3 : Ex ι ι2 H1 H3 := ⟨fun b o n z => sm b o (x2.1 b o n z), x2.2⟩
        refine ⟨ι ++ ι2, ρ2, C2, q, ρ3, sr2.step fr3 cr3, rq, hg1, fun σ4 sr4 => ⟨ι ++ ι2, ρ3, C2, fl1, C3, sr4, e3, ?_⟩⟩
        cases fl1 with
        | nx ρ5 => exact fun ι5 σ5 H5 x5 sr5 => ⟨ι2 ++ ι5, ρ5, C3, x3.trans cr3 x5, by rw [← List.append_assoc]; exact sr5, e4⟩
        | ct ρ5 => exact fun ι5 σ5 H5 x5 sr5 => ⟨ι2 ++ ι5, ρ5, C3, x3.trans cr3 x5, by rw [← List.append_assoc]; exact sr5, e4⟩
        | bk ρ5 => cases e4; exact fun ι5 σ5 H5 x5 sr5 => d1 (ι2 ++ ι5) σ5 H5 (x3.trans cr3 x5) (by rw [← List.append_assoc]; exact sr5)
        | rf ps => cases e4; exact fun ι5 q5 vs5 H5 x5 c5 h5 r5 => d1 (ι2 ++ ι5) q5 vs5 H5 (x3.trans cr3 x5) (by rw [← List.append_assoc]; exact c5) h5 (by rw [← List.append_assoc]; exact r5)
        | rt r => cases e4; exact fun ι5 v5 H5 x5 c5 r5 => d1 (ι2 ++ ι5) v5 H5 (x3.trans cr3 x5) (by rw [← List.append_assoc]; exact c5) (by rw [← List.append_assoc]; exact r5)
  · left
    have hi3 : i = xs.length := by omega
    subst hi3
    rw [List.drop_length] at e2
    cases e2
    exact ⟨it1.stop ι2 H2 _ x2 sr2.cr, d1 ι2 σ2 H2 x2 sr2⟩
def stIn' (vs : List Str) (fr : List Nat) (ρ : PSt) : PSt := vs.map (fun _ => none) ++ fr.map fun i => (ρ[i]?).join
def compL (g : PV → PSt → Option PSt) (tt : PSt → M Bool) (te : PSt → M SV) : List PV → PSt → List PV → M (List PV)
  | [], _, ys => ret ys
  | x :: xs, ρ, ys => match g x ρ with
    | none => fun _ => none
    | some ρ1 => bnd (tt ρ1) fun b => if b then bnd (te ρ1) fun y => match y with
        | .v p => compL g tt te xs ρ1 (ys ++ [p])
        | .c _ => fun _ => none
      else compL g tt te xs ρ1 ys
def mComp (it : PSt → M (List PV)) (vs : List Str) (fr : List Nat) (g : PV → PSt → Option PSt) (tt : PSt → M Bool) (te : PSt → M SV) : PSt → M (List PV) := fun ρ => bnd (it ρ) fun xs => if xs.length ≤ 100000 then compL g tt te xs (stIn' vs fr ρ) [] else fun _ => none
theorem SR.block {K : PySem.W.Frag} {ι : List Addr} {H : Hp} {ρ : PSt} {σ : St} {C : Cs} (sr : SR K ι H ρ σ C) (vs : List Str) (fr : List Nat) : SR K ι H (stIn' vs fr ρ) (stIn vs fr σ) C := by
  refine ⟨sr.cr, by simp [stIn', stIn], fun i s e => ?_⟩
  unfold stIn' at e
  unfold stIn
  rcases Nat.lt_or_ge i vs.length with h | h
  · rw [List.getElem?_append_left (by simpa using h)] at e
    simp at e
  · rw [List.getElem?_append_right (by simpa using h)] at e
    rw [List.getElem?_append_right (by simpa using h)]
    simp only [List.length_map, List.getElem?_map] at e ⊢
    cases hj : fr[i - vs.length]? with
    | none => rw [hj] at e; cases e
    | some j =>
      rw [hj] at e
      have e' : (ρ[j]?).join = some s := by simpa using e
      have e2 : ρ[j]? = some (some s) := by
        cases hr : ρ[j]? with
        | none => rw [hr] at e'; cases e'
        | some o => rw [hr] at e'; simp at e'; rw [e']
      obtain ⟨v, h1, h2⟩ := sr.loc j s e2
      refine ⟨v, ?_, h2⟩
      simp [h1]
theorem k100000 {n : Nat} (h : n ≤ 100000) : n ≤ sizeLine := Nat.le_trans h (by rw [sizeLine_eq]; decide)
theorem comp_pure {K : PySem.W.Frag} {it : PSt → M (List PV)} {vs : List Str} {fr : List Nat} {g : PV → PSt → Option PSt} {tt : PSt → M Bool} {te : PSt → M SV} {σ : St} {H : Hp} {Q : VK} {ι : List Addr} {ρ : PSt} {C C' : Cs} {res : List PV} (sr : SR K ι H ρ σ C)
    (e : mComp it vs fr g tt te ρ C = some (res, C')) (q : ∀ p vs H', Fr ι H H' → CR K ι H' C' → H' p = none → Reps K ι H' res vs → Q (.ref p) (upd H' p (.lst vs))) : tComp (tMI K it) vs fr (tMG K g) (tMB K tt) (tM K te) σ H Q := by
  obtain ⟨xs, C1, e1, e⟩ := bnd_some e
  refine ⟨ι, ρ, C, xs, C1, sr, e1, fun J H1 f1 c1 it1 => ?_⟩
  by_cases hz : xs.length ≤ 100000
  case neg => rw [if_neg hz] at e; cases e
  rw [if_pos hz] at e
  have sr1 := (sr.step f1 c1).block vs fr
  have x0 : ∀ {H2 : Hp}, Fr ι H1 H2 → Ex ι [] H1 H2 := fun f => Ex.fr f
  have c0 : ∀ {H2 : Hp} {C2 : Cs}, CR K ι H2 C2 → CR K (ι ++ []) H2 C2 := fun c => by rw [List.append_nil]; exact c
  refine ⟨fun i m σ2 ys H2 => ∃ ρ2 C2 ps, m = xs.length - i ∧ i ≤ xs.length ∧ Fr ι H1 H2 ∧ SR K ι H2 ρ2 σ2 C2 ∧ Reps K ι H2 ps ys ∧ ps.length ≤ i ∧ compL g tt te (xs.drop i) ρ2 ps C2 = some (res, C'), ⟨xs.length, _, C1, [], rfl, Nat.zero_le _, .refl, sr1, .nil, Nat.le_refl _, e⟩, ?_⟩
  rintro i m σ2 ys H2 ⟨ρ2, C2, ps, rfl, hi2, f2, sr2, rs2, hps, e2⟩
  have hys : ys.length ≤ sizeLine := by rw [← rs2.length]; exact k100000 (Nat.le_trans (Nat.le_trans hps hi2) hz)
  rcases Nat.lt_or_ge i xs.length with hlt | hge
  · right
    refine ⟨it1.go [] H2 C2 (x0 f2) (c0 sr2.cr) i hlt, hys, fun σ' ys' H' => ∃ ρ2 C2 ps, Fr ι H1 H' ∧ SR K ι H' ρ2 σ' C2 ∧ Reps K ι H' ps ys' ∧ ps.length ≤ i + 1 ∧ compL g tt te (xs.drop (i + 1)) ρ2 ps C2 = some (res, C'), ?_, ?_⟩
    · rintro σ' ys' H' ⟨ρ3, C3, ps3, f3, sr3, rs3, h3, e3⟩
      exact ⟨xs.length - (i + 1), by omega, ρ3, C3, ps3, rfl, hlt, f3, sr3, rs3, h3, e3⟩
    · intro v H3 y
      obtain ⟨sm, qv, hq, rq⟩ := it1.yld [] H2 C2 (x0 f2) (c0 sr2.cr) i v H3 hlt y
      rw [List.append_nil] at rq
      have hd : xs.drop i = qv :: xs.drop (i + 1) := by
        rw [List.drop_eq_getElem_cons hlt]
        rw [List.getElem?_eq_getElem hlt] at hq
        rw [Option.some.inj hq]
      rw [hd] at e2
      unfold compL at e2
      cases hg1 : g qv ρ2 with
      | none => rw [hg1] at e2; cases e2
      | some ρ3 =>
        rw [hg1] at e2
        obtain ⟨b, C3, e3, e4⟩ := bnd_some e2
        have fr3 : Fr ι H2 H3 := fun b o _ z => sm b o z
        have cr3 : CR K ι H3 C2 := sr2.cr.same sm
        refine ⟨ι, ρ2, C2, qv, ρ3, sr2.step fr3 cr3, rq, hg1, fun σ4 sr4 => ⟨ι, ρ3, C2, b, C3, sr4, e3, fun H5 f5 c5 => ?_⟩⟩
        have f15 := f2.trans (fr3.trans f5)
        have rs5 : Reps K ι H5 ps ys := Reps.mono cr3 f5 _ _ (Reps.mono sr2.cr fr3 _ _ rs2)
        cases b with
        | true =>
          rw [if_pos rfl] at e4
          dsimp only
          rw [if_pos rfl]
          obtain ⟨y1, C6, e6, e7⟩ := bnd_some e4
          refine ⟨ι, ρ3, C3, y1, C6, sr4.step f5 c5, e6, fun v7 H7 f7 c7 r7 => ?_⟩
          cases y1 with
          | c k => cases e7
          | v p7 => exact ⟨ρ3, C6, ps ++ [p7], f15.trans f7, (sr4.step f5 c5).step f7 c7, (Reps.mono c5 f7 _ _ rs5).append (.cons r7 .nil), by simp; exact hps, e7⟩
        | false =>
          rw [if_neg Bool.false_ne_true] at e4
          dsimp only
          rw [if_neg Bool.false_ne_true]
          exact ⟨ρ3, C3, ps, f15, sr4.step f5 c5, rs5, Nat.le_succ_of_le hps, e4⟩
  · left
    have hi3 : i = xs.length := by omega
    subst hi3
    rw [List.drop_length] at e2
    cases e2
    exact ⟨it1.stop [] H2 _ (x0 f2) (c0 sr2.cr), hys, fun D hD => q D ys H2 (f1.trans f2) sr2.cr hD rs2⟩
section
variable {ifs : List Expr} {scope : Scope} {vs fs : List Str} {fr : List Nat} {it : PSt → M (List PV)} {g : PV → PSt → Option PSt} {tt : PSt → M Bool} {te : PSt → M SV}
def TsM (X : Cx) (ifs : List Expr) (t : PSt → M Bool) : Prop := PTs X ifs (tMB X.K t)
def tOk : PSt → M Bool := fun _ => ret true
theorem ts_nil : TsM X [] tOk := fun pins s σ H Q I ⟨ι, ρ, C, b, C', sr, e, q⟩ => by
  cases e
  exact pts_nil pins s σ H Q I (q H .refl sr.cr)
theorem ts_one {c : Expr} {t : PSt → M Bool} (h : TMt X c t) : TsM X [c] t := pts_one h
theorem fm_comp (S : CSc X scope vs fs fr) (hc : X.calm = true) (hi : IM X tg iter it)
    (bG : ∀ C s₀ H₀ ex pn, GM (CompCx X (vs ++ fs) scope C s₀ H₀ ex pn) tg g) (bT : ∀ C s₀ H₀ ex pn, TsM (CompCx X (vs ++ fs) scope C s₀ H₀ ex pn) ifs tt) (bE : ∀ C s₀ H₀ ex pn, EM (CompCx X (vs ++ fs) scope C s₀ H₀ ex pn) elt te)
    (hs : ∀ x, foldedSetIterable iter X.env x = pure x := by intro _; rfl) : FM X (.ListComp elt [⟨tg, iter, ifs, 0⟩] scope pos) (mComp it vs fr g tt te) :=
  PE.imp (pe_comp (g := tMG X.K g) (tt := tMB X.K tt) (te := tM X.K te) S hc hi bG bT bE hs) fun σ H Q ⟨ι, ρ, C, res, C', sr, e, q⟩ => comp_pure sr e q
theorem sm_comp {i : Nat} {px spos : Pos} (hN : X.N.Nodup) (hx : X.N[i]? = some x) (hl : X.env.scope.names.lookup x = some .local) (S : CSc X scope vs fs fr) (hc : X.calm = true) (hi : IM X tg iter it)
    (bG : ∀ C s₀ H₀ ex pn, GM (CompCx X (vs ++ fs) scope C s₀ H₀ ex pn) tg g) (bT : ∀ C s₀ H₀ ex pn, TsM (CompCx X (vs ++ fs) scope C s₀ H₀ ex pn) ifs tt) (bE : ∀ C s₀ H₀ ex pn, EM (CompCx X (vs ++ fs) scope C s₀ H₀ ex pn) elt te)
    (hsw : swapsWith (.ListComp elt [⟨tg, iter, ifs, 0⟩] scope pos) (some (.Name x px)) spos.line X.env = pure true := by rfl) (hs : ∀ x, foldedSetIterable iter X.env x = pure x := by intro _; rfl) :
    SM X (.Assign [.Name x px] (.ListComp elt [⟨tg, iter, ifs, 0⟩] scope pos) spos) (mSet i (mVal (mComp it vs fr g tt te))) := PS.imp (ps_comp (g := tMG X.K g) (tt := tMB X.K tt) (te := tM X.K te) hN hx hl S hc hi bG bT bE hsw hs) fun D σ H ⟨ι, ρ, C, fl, C', sr, e, d⟩ => by
  obtain ⟨z, C1, e1, e⟩ := bnd_some e
  cases e
  obtain ⟨res, C2, e2, e3⟩ := bnd_some e1
  cases e3
  exact comp_pure sr e2 fun q vs H' f1 c1 hq rs => Done.nx0 (((sr.step f1 c1).step (Fr.new hq) (c1.new hq)).set i (s := .v (.lst _)) (new_val c1 hq rs)) (d.fr (c1.new hq) (f1.trans (Fr.new hq)))
theorem sm_compN {i : Nat} {px spos : Pos} (hN : X.N.Nodup) (hx : X.N[i]? = some x) (hl : X.env.scope.names.lookup x = some .local) (S : CSc X scope vs fs fr) (hc : X.calm = true) (hi : IM X tg iter it)
    (bG : ∀ C s₀ H₀ ex pn, GM (CompCx X (vs ++ fs) scope C s₀ H₀ ex pn) tg g) (bT : ∀ C s₀ H₀ ex pn, TsM (CompCx X (vs ++ fs) scope C s₀ H₀ ex pn) ifs tt) (bE : ∀ C s₀ H₀ ex pn, EM (CompCx X (vs ++ fs) scope C s₀ H₀ ex pn) elt te)
    (hsw : swapsWith (.ListComp elt [⟨tg, iter, ifs, 0⟩] scope pos) (some (.Name x px)) spos.line X.env = pure true := by rfl) (hs : ∀ x, foldedSetIterable iter X.env x = pure x := by intro _; rfl) :
    SM X (.Assign [.Name x px] (.ListComp elt [⟨tg, iter, ifs, 0⟩] scope pos) spos) (mNew i (mComp it vs fr g tt te)) := PS.imp (ps_comp (g := tMG X.K g) (tt := tMB X.K tt) (te := tM X.K te) hN hx hl S hc hi bG bT bE hsw hs) fun D σ H ⟨ι, ρ, C, fl, C', sr, e, d⟩ => by
  obtain ⟨res, C1, e1, e⟩ := bnd_some e
  cases e
  exact comp_pure sr e1 fun q vs H' f1 c1 hq rs => new_cell sr d f1 c1 hq rs
end
end
theorem CR.cut {K : PySem.W.Frag} {ι ι2 : List Addr} {H : Hp} {C : Cs} {n : Nat} (c : CR K (ι ++ ι2) H C) (hn : ι.length = n) : CR K ι H (C.take n) := by
  have hlen : (ι ++ ι2).length = C.length := c.len
  rw [List.length_append] at hlen
  have hs : ∀ b o, H b = some o → b ∉ ι ++ ι2 → b ∉ ι := fun b o _ z q => z (List.mem_append_left _ q)
  refine ⟨by rw [List.length_take]; omega, (List.nodup_append.mp c.nd).1, fun k a d h1 h2 => ?_⟩
  have hk : k < ι.length := by
    rcases Nat.lt_or_ge k ι.length with q | q
    · exact q
    · rw [List.getElem?_eq_none_iff.mpr q] at h1; cases h1
  rw [List.getElem?_take_of_lt (by omega)] at h2
  have ok := c.ok k a d (by rw [List.getElem?_append_left hk]; exact h1) h2
  cases d with
  | lst ps => obtain ⟨vs, e, r⟩ := ok; exact ⟨vs, e, Reps.cells hs _ _ r⟩
  | dct ks ps => obtain ⟨qs, vs, e, hl, hk, r⟩ := ok; exact ⟨qs, vs, e, hl, hk, Reps.cells hs _ _ r⟩
  | _ => exact ok.elim
def fin (n : Nat) (C' : Cs) : SV → Option (SV × Cs)
  | .v p => some (.v p, C'.take n)
  | .c k => if k < n then some (.c k, C'.take n) else (C'[k]?).map fun c => (.v c, C'.take n)
def mDef (n pad : Nat) (body : PSt → M PF) : List SV → M SV := fun ss C => if ss.length = n then (match body (ss.map some ++ List.replicate pad none) C with
  | some (.rt r, C') => fin C.length C' r
  | some (.nx _, C') => some (.v .non, C'.take C.length)
  | some (.rf ps, C') => some (.v (.lst ps), C'.take C.length)
  | _ => none) else none
def mDefF (n pad : Nat) (body : PSt → M PF) : List SV → M (List PV) := fun ss C => if ss.length = n then (match body (ss.map some ++ List.replicate pad none) C with
  | some (.rf ps, C') => some (ps, C'.take C.length)
  | _ => none) else none
def liftSpF (K : PySem.W.Frag) (F : List SV → M (List PV)) : Sp := fun vs H Q _ => ∃ ι ss C ps C', CR K ι H C ∧ RepSs K ι H ss vs ∧ F ss C = some (ps, C') ∧ ∀ p vs H', Fr ι H H' → CR K ι H' C' → H' p = none → Reps K ι H' ps vs → Q (.ref p) (upd H' p (.lst vs))
def mFnF (F : List SV → M (List PV)) (fs : PSt → M (List SV)) : PSt → M (List PV) := fun ρ => bnd (fs ρ) F
theorem fm_call {X : Cx} {e : Expr} {es : List Expr} {p pos : Pos} {x : Str} {k : Nat} {f : Addr} {fd : FuncData} {ps : List Str} {F : List SV → M (List PV)} {fs : PSt → M (List SV)} (G : FnOk X.prog X.w X.K X.mg X.base CX0 k f fd ps (liftSpF X.K F)) (hr : Room k X.A) (hg : Gl X x) (hm : X.mg x = some (.ref f)) (hk : PySem.W.keepIn X.K (.ref f) = true) (hb : L2.Binds X.K fd ps [])
    (ha : AM X (e :: es) fs) (hdb : (x == ("__debug__" : Str)) = false := by decide) (he : starEach (e :: es) X.env = (false, eval e X.env) :: starEach es X.env := by rfl) (hpl : (backTo pos (starEach es X.env)).any (·.1) = false := by rfl) :
    FM X (.Call (.Name x p) (e :: es) [] pos) (mFnF F fs) := PE.imp (pe_call G hr hg hm hk hb .nil pass0 ha hdb he hpl) fun σ H Q ⟨ι, ρ, C, z, C', sr, e, q⟩ => by
  obtain ⟨xs, C1, e1, g1⟩ := bnd_some e
  refine ⟨ι, ρ, C, xs, C1, sr, e1, fun vs H1 f1 c1 r1 => ?_⟩
  show liftSpF X.K F (vs ++ []) H1 Q E0
  rw [List.append_nil]
  exact ⟨ι, xs, C1, z, C', c1, r1, g1, fun q' ws H2 f2 c2 h2 r2 => q q' ws H2 (f1.trans f2) c2 h2 r2⟩
theorem fin_ok {K : PySem.W.Frag} {ι ι2 : List Addr} {H : Hp} {C' C2 : Cs} {n : Nat} {r r' : SV} {v : V} (c : CR K (ι ++ ι2) H C') (hn : ι.length = n) (rr : RepS K (ι ++ ι2) H r v) (e : fin n C' r = some (r', C2)) : CR K ι H C2 ∧ RepS K ι H r' v := by
  have hs : ∀ b o, H b = some o → b ∉ ι ++ ι2 → b ∉ ι := fun b o _ z q => z (List.mem_append_left _ q)
  cases r with
  | v p => cases e; exact ⟨c.cut hn, Rep.cells hs p v rr⟩
  | c k =>
    obtain ⟨a, rfl, hk⟩ := rr
    replace e : (if k < n then some (SV.c k, C'.take n) else (C'[k]?).map fun c => (SV.v c, C'.take n)) = some (r', C2) := e
    by_cases h : k < n
    · rw [if_pos h] at e
      cases e
      refine ⟨c.cut hn, a, rfl, ?_⟩
      rw [List.getElem?_append_left (by omega)] at hk; exact hk
    · rw [if_neg h] at e
      cases hd : C'[k]? with
      | none => rw [hd] at e; cases e
      | some d =>
        rw [hd] at e
        cases e
        refine ⟨c.cut hn, ?_⟩
        have ok := c.ok k a d hk hd
        have hna : a ∉ ι := fun z => by
          obtain ⟨j, hj, ej⟩ := List.getElem_of_mem z
          have hjk : (ι ++ ι2)[j]? = some a := by rw [List.getElem?_append_left hj, List.getElem?_eq_getElem hj, ej]
          have hkl : k < (ι ++ ι2).length := by
            rcases Nat.lt_or_ge k (ι ++ ι2).length with q | q
            · exact q
            · rw [List.getElem?_eq_none_iff.mpr q] at hk; cases hk
          have hjl : j < (ι ++ ι2).length := by rw [List.length_append]; omega
          have e1 := (List.getElem?_eq_some_iff.mp hjk).2
          have e2 := (List.getElem?_eq_some_iff.mp hk).2
          have := (List.getElem_inj c.nd).mp (e1.trans e2.symm)
          omega
        show Rep K ι H d (.ref a)
        cases d with
        | lst ps => obtain ⟨vs, e, r⟩ := ok; unfold Rep; exact ⟨a, vs, rfl, .inl ⟨hna, .inl e⟩, Reps.cells hs _ _ r⟩
        | dct ks ps => obtain ⟨qs, vs, e, hl, hk, r⟩ := ok; unfold Rep; exact ⟨a, qs, vs, rfl, hna, e, hl, hk, Reps.cells hs _ _ r⟩
        | _ => exact ok.elim
theorem RepSs.length {K : PySem.W.Frag} {ι : List Addr} {H : Hp} : ∀ {ss : List SV} {vs : List V}, RepSs K ι H ss vs → ss.length = vs.length
  | [], vs, h => by rw [show vs = [] from h]; rfl
  | s :: ss, vs, h => by obtain ⟨v, r, rfl, _, t⟩ := h; rw [List.length_cons, List.length_cons, RepSs.length t]
theorem RepSs.get {K : PySem.W.Frag} {ι : List Addr} {H : Hp} : ∀ {ss : List SV} {vs : List V} {i : Nat} {s : SV}, RepSs K ι H ss vs → ss[i]? = some s → ∃ v, vs[i]? = some v ∧ RepS K ι H s v
  | [], _, _, _, h, e => by simp at e
  | q :: ss, vs, 0, s, h, e => by
    obtain ⟨v, r, rfl, h1, h2⟩ := h
    simp at e; subst e; exact ⟨v, rfl, h1⟩
  | q :: ss, vs, i + 1, s, h, e => by
    obtain ⟨v, r, rfl, h1, h2⟩ := h
    obtain ⟨w, e1, r1⟩ := RepSs.get (i := i) h2 (by simpa using e)
    exact ⟨w, by simpa using e1, r1⟩
theorem sr_start {K : PySem.W.Frag} {ι : List Addr} {H : Hp} {C : Cs} {ss : List SV} {vs : List V} {N : List Str} (cr : CR K ι H C) (rs : RepSs K ι H ss vs) : SR K ι H (ss.map some ++ List.replicate (N.length - ss.length) none) (L2.start N vs) C := by
  have hl := RepSs.length rs
  refine ⟨cr, by unfold L2.start; simp [hl], fun i s e => ?_⟩
  unfold L2.start
  rcases Nat.lt_or_ge i ss.length with h | h
  · rw [List.getElem?_append_left (by simpa using h), List.getElem?_map] at e
    rw [List.getElem?_append_left (by rw [List.length_map, ← hl]; exact h), List.getElem?_map]
    cases hs : ss[i]? with
    | none => rw [hs] at e; cases e
    | some s' =>
      rw [hs] at e
      have : s' = s := by simpa using e
      subst this
      obtain ⟨v, h1, h2⟩ := RepSs.get rs hs
      exact ⟨v, by rw [h1]; rfl, h2⟩
  · rw [List.getElem?_append_right (by simpa using h), List.getElem?_replicate] at e
    split at e <;> cases e
section
variable {P : Program} {w : World} {K : PySem.W.Frag} {mg : Str → Option Value} {base : Heap}
theorem fn_mk {x qual : Str} {st : Stmt} {f : Addr} {fd : FuncData} {N ps : List Str} {k : Nat} {body : PSt → M PF} (F : Fun K x qual st f fd) (S : FnScope N ps (defScope st))
    (hbody : ∀ (cdv : Value) (A : Around) (outer : List Env) (s : Shared) (H : Hp) (E : XK), Room k (A.deeper (envOfC qual (defScope st) s.heap.objs.size f cdv)) →
      BM (cxOf CX0 P w K mg base N qual (defScope st) f cdv A outer s H E).nox (defBody st) body) : FnOk P w K mg base CX0 (k + 1) f fd ps (liftSp K (mDef ps.length (N.length - ps.length) body)) := by
  refine F.ok S (fun vs H Q E ⟨ι, ss, C, r, C', cr, rs, e, q⟩ => ?_) (fun cdv A outer s H vs Q E hr ⟨ι, ss, C, r, C', cr, rs, e, q⟩ => ⟨_, hbody cdv A outer s H E hr, ?_⟩)
  · unfold mDef at e
    by_cases h : ss.length = ps.length
    · rw [← RepSs.length rs]; exact h
    · rw [if_neg h] at e; cases e
  · unfold mDef at e
    by_cases h : ss.length = ps.length
    case neg => rw [if_neg h] at e; cases e
    rw [if_pos h] at e
    have sr := sr_start (N := N) cr rs
    rw [h] at sr
    cases hb : body (ss.map some ++ List.replicate (N.length - ps.length) none) C with
    | none => rw [hb] at e; cases e
    | some z =>
      obtain ⟨fl, C2⟩ := z
      rw [hb] at e
      refine ⟨ι, _, C, fl, C2, sr, hb, ?_⟩
      cases fl with
      | rt r2 =>
        intro ι2 v H' x c r3
        obtain ⟨c4, r4⟩ := fin_ok c cr.len r3 e
        exact q v H' x.1 c4 r4
      | nx ρ2 =>
        intro ι2 σ' H' x sr'
        cases e
        refine q .non H' x.1 (sr'.cr.cut cr.len) ?_
        show Rep K ι H' .non .non
        unfold Rep; rfl
      | rf ps' =>
        intro ι2 p' vs' H' x c hp rs'
        cases e
        have hs : ∀ b o, H' b = some o → b ∉ ι ++ ι2 → b ∉ ι := fun b o _ z q => z (List.mem_append_left _ q)
        have c4 := c.cut cr.len
        exact q _ _ (x.1.trans (Fr.new hp)) (c4.new hp) (show Rep _ _ _ _ _ from new_val c4 hp (Reps.cells hs _ _ rs'))
      | bk _ => cases e
      | ct _ => cases e
theorem fn_mkF {x qual : Str} {st : Stmt} {f : Addr} {fd : FuncData} {N ps : List Str} {k : Nat} {body : PSt → M PF} (F : Fun K x qual st f fd) (S : FnScope N ps (defScope st))
    (hbody : ∀ (cdv : Value) (A : Around) (outer : List Env) (s : Shared) (H : Hp) (E : XK), Room k (A.deeper (envOfC qual (defScope st) s.heap.objs.size f cdv)) →
      BM (cxOf CX0 P w K mg base N qual (defScope st) f cdv A outer s H E).nox (defBody st) body) : FnOk P w K mg base CX0 (k + 1) f fd ps (liftSpF K (mDefF ps.length (N.length - ps.length) body)) := by
  refine F.ok S (fun vs H Q E ⟨ι, ss, C, r, C', cr, rs, e, q⟩ => ?_) (fun cdv A outer s H vs Q E hr ⟨ι, ss, C, r, C', cr, rs, e, q⟩ => ⟨_, hbody cdv A outer s H E hr, ?_⟩)
  · unfold mDefF at e
    by_cases h : ss.length = ps.length
    · rw [← RepSs.length rs]; exact h
    · rw [if_neg h] at e; cases e
  · unfold mDefF at e
    by_cases h : ss.length = ps.length
    case neg => rw [if_neg h] at e; cases e
    rw [if_pos h] at e
    have sr := sr_start (N := N) cr rs
    rw [h] at sr
    cases hb : body (ss.map some ++ List.replicate (N.length - ps.length) none) C with
    | none => rw [hb] at e; cases e
    | some z =>
      obtain ⟨fl, C2⟩ := z
      rw [hb] at e
      refine ⟨ι, _, C, fl, C2, sr, hb, ?_⟩
      cases fl with
      | rf ps' =>
        intro ι2 p' vs' H' x c hp rs'
        cases e
        have hs : ∀ b o, H' b = some o → b ∉ ι ++ ι2 → b ∉ ι := fun b o _ z q => z (List.mem_append_left _ q)
        exact q p' vs' H' x.1 (c.cut cr.len) hp (Reps.cells hs _ _ rs')
      | _ => cases e
end
end Pu

set_option Elab.async false
set_option linter.all false
set_option maxRecDepth 100000
set_option maxHeartbeats 4000000
namespace Pu
open PySem PySem.Spec L2
open PyProof.Rows hiding St Fr
def g2 (h : PV → PV → Option PV) : Cs → SV → SV → Option SV := fun C x y => match deref C x, deref C y with
  | some p, some q => (h p q).map .v
  | _, _ => none
def L2ok (K : PySem.W.Frag) (r : R2) (h : PV → PV → Option PV) : Prop :=
  ∀ (ι : List Addr) (H : Hp) (C : Cs) (p q : PV) (vx vy : V) (z : PV) (Q : VK), CR K ι H C → Lies K ι H p vx → Lies K ι H q vy → h p q = some z → (∀ v H', Fr ι H H' → CR K ι H' C → Rep K ι H' z v → Q v H') → r vx vy H Q
theorem L2ok.r {K : PySem.W.Frag} {r : R2} {h : PV → PV → Option PV} (k : L2ok K r h) : R2ok K r (g2 h) := by
  intro ι H C x y vx vy z Q cr rx ry e q
  unfold g2 at e
  cases hx : deref C x with
  | none => rw [hx] at e; cases e
  | some p =>
    cases hy : deref C y with
    | none => rw [hx, hy] at e; cases e
    | some p2 =>
      rw [hx, hy] at e
      cases hz : h p p2 with
      | none => simp [hz] at e
      | some z2 =>
        simp [hz] at e
        subst e
        exact k ι H C p p2 vx vy z2 Q cr (rx.lies cr hx) (ry.lies cr hy) hz q
theorem OpR.or {X : Cx} {f : Value → Value → Sem Value} {r r' : R2} (h : OpR X f r) (h' : OpR X f r') : OpR X f (fun x y H Q => r x y H Q ∨ r' x y H Q) := by
  intro pins s σ H x y v u Q I rx ry q
  rcases q with q | q
  · exact h pins s σ H x y v u Q I rx ry q
  · exact h' pins s σ H x y v u Q I rx ry q
section
variable {K : PySem.W.Frag} {ι : List Addr} {H : Hp} {C : Cs} {Q : VK} {z : PV}
theorem liesI {p : PV} {v : V} {i : Int} (h : Lies K ι H (.int i) v) : v = .int i := by cases h; rfl
theorem liesS {v : V} {i : Str} (h : Lies K ι H (.str i) v) : v = .str i ∧ i.length ≤ sizeLine := by cases h; exact ⟨rfl, by assumption⟩
theorem liesB {v : V} {i : Bool} (h : Lies K ι H (.bl i) v) : v = .bl i := by cases h; rfl
theorem liesT {v : V} {ps : List PV} (h : Lies K ι H (.tup ps) v) : ∃ a vs, v = .ref a ∧ SqT K H a vs ∧ Reps K ι H ps vs := by cases h; exact ⟨_, _, rfl, by assumption, by assumption⟩
theorem liesL {v : V} {ps : List PV} (h : Lies K ι H (.lst ps) v) : ∃ a vs, v = .ref a ∧ SqL K H a vs ∧ Reps K ι H ps vs := by cases h; exact ⟨_, _, rfl, by assumption, by assumption⟩
theorem repI {i : Int} : Rep K ι H (.int i) (.int i) := by unfold Rep; rfl
theorem repBl {i : Bool} : Rep K ι H (.bl i) (.bl i) := by unfold Rep; rfl
theorem repN : Rep K ι H .non .non := by unfold Rep; rfl
theorem repS {i : Str} (h : i.length ≤ sizeLine) : Rep K ι H (.str i) (.str i) := by unfold Rep; exact ⟨rfl, h⟩
theorem k1000000 {n : Nat} (h : n ≤ 1000000) : n ≤ sizeLine := Nat.le_trans h (by rw [sizeLine_eq]; decide)
theorem new_tup {ps : List PV} {q : Addr} {vs : List V} (hq : H q = none) (rs : Reps K ι H ps vs) : Rep K ι (upd H q (.tup vs)) (.tup ps) (.ref q) := by
  unfold Rep
  exact ⟨q, vs, rfl, .inl (.inl upd_same), Reps.stay (fun b o e => by rw [upd_ne (ne_of_none e hq)]; exact e) ps vs rs⟩
end
def addP : PV → PV → Option PV
  | .int i, .int j => some (.int (i + j))
  | .str i, .str j => if i.length + j.length ≤ 1000000 then some (.str (i ++ j)) else none
  | .lst a, .lst b => if a.length + b.length ≤ 1000000 then some (.lst (a ++ b)) else none
  | .tup a, .tup b => if a.length + b.length ≤ 1000000 then some (.tup (a ++ b)) else none
  | _, _ => none
def rCatL (K : PySem.W.Frag) : R2 := fun x y H Q => ∃ l b xs zs, x = .ref l ∧ y = .ref b ∧ SqL K H l xs ∧ SqL K H b zs ∧ xs.length + zs.length ≤ sizeLine ∧ ∀ p, H p = none → Q (.ref p) (upd H p (.lst (xs ++ zs)))
section
variable {X : Cx}
theorem op_catL : OpR X (binaryOp .Add) (rCatL X.K) := by
  intro pins s σ H x y v u Q I rx ry h
  obtain ⟨l, b, xs, zs, rfl, rfl, hH, hB, hz, q⟩ := h
  cases rx
  cases ry
  obtain ⟨its, r, pl, _⟩ := I.list hH
  obtain ⟨its2, r2, pl2, _⟩ := I.list hB
  obtain ⟨⟨cls, dd, data, sl⟩, ho, hc, n, hd⟩ := id pl.isList
  obtain ⟨⟨cls2, dd2, data2, sl2⟩, ho2, hc2, n2, hd2⟩ := id pl2.isList
  simp only at hc hd hc2 hd2
  subst hc hd hc2 hd2
  have h1 := r.length
  have h2 := r2.length
  have ea : its.toArray ++ its2.toArray = (its ++ its2).toArray := by simp
  refine concat_meets ⟨_, ho, rfl⟩ ⟨_, ho2, rfl⟩ noFill_list_add seq_list_add PySem.F.slot_list_add PySem.F.entry_list_add (PySem.F.args_list_add_2 _ _) (list_addW l b its.toArray its2.toArray n n2 dd dd2 sl sl2 (by simp; omega)) ⟨ho, ho2, ?_⟩
  rw [ea]
  exact ⟨.ref _, _, I.lnew (t' := s.toks) (r.append r2) (by rw [List.length_append]; omega), rfl, q _ I.fresh⟩
def rCatT' (K : PySem.W.Frag) : R2 := fun x y H Q => ∃ a b xs ys, x = .ref a ∧ y = .ref b ∧ SqT K H a xs ∧ SqT K H b ys ∧ xs.length + ys.length ≤ sizeLine ∧
  (xs = [] → Q (.ref b) H) ∧ (xs ≠ [] → ys = [] → Q (.ref a) H) ∧ (xs ≠ [] → ys ≠ [] → ∀ p, H p = none → Q (.ref p) (upd H p (.tup (xs ++ ys))))
theorem op_catT' : OpR X (binaryOp .Add) (rCatT' X.K) := by
  intro pins s σ H x y v u Q I rx ry h
  obtain ⟨a, b, xs, ys, rfl, rfl, ha, hb, hz, q0, q1, q2⟩ := h
  by_cases hx : xs = []
  · cases rx
    cases ry
    obtain ⟨its, r1, p1, _⟩ := I.tuple ha
    obtain ⟨its2, r2, p2, _⟩ := I.tuple hb
    obtain ⟨⟨cls, dd, data, sl⟩, ho, hc, n, hd⟩ := id p1
    obtain ⟨⟨cls2, dd2, data2, sl2⟩, ho2, hc2, n2, hd2⟩ := id p2
    simp only at hc hd hc2 hd2
    subst hc hd hc2 hd2
    exact concat_meets ⟨_, ho, rfl⟩ ⟨_, ho2, rfl⟩ noFill_tuple_add seq_tuple_add PySem.F.slot_tuple_add PySem.F.entry_tuple_add (PySem.F.args_tuple_add_2 _ _)
      (tuple_addW0 a b its.toArray its2.toArray n n2 dd dd2 sl sl2 (by simp [r1.nil_iff.mpr hx])) ⟨ho, ho2, ⟨.ref b, H, I, rfl, q0 hx⟩⟩
  · exact op_catT pins s σ H _ _ v u Q I rx ry ⟨a, b, xs, ys, rfl, rfl, ha, hb, hx, hz, q1 hx, q2 hx⟩
theorem op_addAll : OpR X (binaryOp .Add) (fun x y H Q => (rI0 fun i j => .int (i + j)) x y H Q ∨ (∃ i j, x = .str i ∧ y = .str j ∧ i.length + j.length ≤ sizeLine ∧ Q (.str (i ++ j)) H) ∨ rCatL X.K x y H Q ∨ rCatT' X.K x y H Q) :=
  OpR.or op_add (OpR.or op_add_str (OpR.or op_catL op_catT'))
theorem str_app_len (i j : Str) : (i ++ j).length = i.length + j.length := by
  show (i.cps ++ j.cps).size = _
  rw [Array.size_append]; rfl
theorem add_ok : L2ok X.K (fun x y H Q => (rI0 fun i j => .int (i + j)) x y H Q ∨ (∃ i j, x = .str i ∧ y = .str j ∧ i.length + j.length ≤ sizeLine ∧ Q (.str (i ++ j)) H) ∨ rCatL X.K x y H Q ∨ rCatT' X.K x y H Q) addP := by
  intro ι H C p q vx vy z Q cr lx ly e k
  unfold addP at e
  split at e
  · cases e; cases lx; cases ly
    exact .inl ⟨_, _, rfl, rfl, k _ H .refl cr repI⟩
  · split at e
    · rename_i hl
      cases e; cases lx; cases ly
      exact .inr (.inl ⟨_, _, rfl, rfl, k1000000 hl, k _ H .refl cr (repS (by rw [str_app_len]; exact k1000000 hl))⟩)
    · cases e
  · split at e
    · rename_i hl
      cases e
      obtain ⟨a, vs, rfl, h1, r1⟩ := liesL lx
      obtain ⟨b, ws, rfl, h2, r2⟩ := liesL ly
      exact .inr (.inr (.inl ⟨a, b, vs, ws, rfl, rfl, h1, h2, by rw [← r1.length, ← r2.length]; exact k1000000 hl, fun p hp => k _ _ (Fr.new hp) (cr.new hp) (new_val cr hp (r1.append r2))⟩))
    · cases e
  · split at e
    · rename_i hl
      cases e
      rename_i xs ys
      obtain ⟨a, vs, rfl, h1, r1⟩ := liesT lx
      obtain ⟨b, ws, rfl, h2, r2⟩ := liesT ly
      refine .inr (.inr (.inr ⟨a, b, vs, ws, rfl, rfl, h1, h2, by rw [← r1.length, ← r2.length]; exact k1000000 hl, fun e => ?_, fun _ e => ?_, fun _ _ p hp => k _ _ (Fr.new hp) (cr.new hp) (new_tup hp (r1.append r2))⟩))
      · subst e
        have := r1.length
        have hx : xs = [] := List.eq_nil_of_length_eq_zero this
        subst hx
        exact k _ H .refl cr (by unfold Rep; exact ⟨b, ws, rfl, h2, r2⟩)
      · subst e
        have := r2.length
        have hy : ys = [] := List.eq_nil_of_length_eq_zero this
        subst hy
        rw [List.append_nil] at k
        exact k _ H .refl cr (by unfold Rep; exact ⟨a, vs, rfl, h1, r1⟩)
    · cases e
  · cases e
variable {a b e c : Expr} {es : List Expr} {fa fb fc : PSt → M SV} {pos p : Pos} {x : Str}
theorem em_add (ha : EM X a fa) (hb : EM X b fb) : EM X (.BinOp a .Add b pos) (mOp (g2 addP) fa fb) := em_op op_addAll add_ok.r ha hb
def intP (c : Int → Int → Bool) (f : Int → Int → PV) : PV → PV → Option PV
  | .int i, .int j => if c i j then some (f i j) else none
  | _, _ => none
theorem int_ok {C0 : Int → Int → Prop} {f : Int → Int → Int} {c : Int → Int → Bool} (h : ∀ i j, c i j = true → C0 i j) : L2ok X.K (rI C0 fun i j => .int (f i j)) (intP c fun i j => .int (f i j)) := by
  intro ι H C p q vx vy z Q cr lx ly e k
  unfold intP at e
  split at e
  · split at e
    · rename_i hc
      cases e; cases lx; cases ly
      exact ⟨_, _, rfl, rfl, h _ _ hc, k _ H .refl cr repI⟩
    · cases e
  · cases e
theorem int_ok0 {f : Int → Int → V} {g : Int → Int → PV} (h : ∀ i j, ∀ ι H, Rep X.K ι H (g i j) (f i j)) : L2ok X.K (rI0 f) (intP (fun _ _ => true) g) := by
  intro ι H C p q vx vy z Q cr lx ly e k
  unfold intP at e
  split at e
  · simp only [if_true] at e
    cases e; cases lx; cases ly
    exact ⟨_, _, rfl, rfl, k _ H .refl cr (h _ _ _ _)⟩
  · cases e
abbrev subP := intP (fun _ _ => true) fun i j => .int (i - j)
abbrev mulP := intP (fun i j => decide (-(2 ^ 64) < i ∧ i < 2 ^ 64) || decide (-(2 ^ 64) < j ∧ j < 2 ^ 64)) fun i j => .int (i * j)
abbrev modP := intP (fun _ j => decide (0 < j)) fun i j => .int (i % j)
abbrev fdivP := intP (fun _ j => decide (0 < j ∧ j < 1073741824)) fun i j => .int (i / j)
abbrev powP := intP (fun i j => decide (0 ≤ j ∧ j ≤ 1000 ∧ i.natAbs < 2 ^ 64)) fun i j => .int (i ^ j.toNat)
abbrev ltP := intP (fun _ _ => true) fun i j => .bl (decide (i < j))
abbrev leP := intP (fun _ _ => true) fun i j => .bl (decide (i ≤ j))
abbrev gtP := intP (fun _ _ => true) fun i j => .bl (decide (j < i))
abbrev geP := intP (fun _ _ => true) fun i j => .bl (decide (j ≤ i))
theorem em_sub (ha : EM X a fa) (hb : EM X b fb) : EM X (.BinOp a .Sub b pos) (mOp (g2 subP) fa fb) := em_op op_sub (int_ok0 fun _ _ _ _ => repI).r ha hb
theorem em_mul (ha : EM X a fa) (hb : EM X b fb) : EM X (.BinOp a .Mult b pos) (mOp (g2 mulP) fa fb) := em_op op_mul (int_ok fun i j h => by
  rw [Bool.or_eq_true] at h
  rcases h with h | h
  · exact .inl (of_decide_eq_true h)
  · exact .inr (of_decide_eq_true h)).r ha hb
theorem em_mod (ha : EM X a fa) (hb : EM X b fb) : EM X (.BinOp a .Mod b pos) (mOp (g2 modP) fa fb) := em_op op_mod (int_ok fun i j h => of_decide_eq_true h).r ha hb
theorem em_fdiv (ha : EM X a fa) (hb : EM X b fb) : EM X (.BinOp a .FloorDiv b pos) (mOp (g2 fdivP) fa fb) := em_op op_fdiv (int_ok fun i j h => (of_decide_eq_true h : 0 < j ∧ j < 1073741824)).r ha hb
theorem em_pow (ha : EM X a fa) (hb : EM X b fb) : EM X (.BinOp a .Pow b pos) (mOp (g2 powP) fa fb) := em_op op_pow (int_ok fun i j h => by
  have h := of_decide_eq_true h
  exact ⟨h.1, Int.le_trans h.2.1 (by decide), h.2.2⟩).r ha hb
def negP (C : Cs) (x : SV) : Option SV := match deref C x with
  | some (.int i) => some (.v (.int (-i)))
  | _ => none
def mNeg (f : PSt → M SV) : PSt → M SV := fun ρ => bnd (f ρ) fun x => opM fun C => negP C x
theorem em_neg (ha : EM X a fa) : EM X (.UnaryOp .USub a pos) (mNeg fa) := by
  refine PE.imp (pe_un un_neg ha) fun σ H Q ⟨ι, ρ, C, z, C', sr, e, k⟩ => ?_
  obtain ⟨x, C1, e1, e⟩ := bnd_some e
  obtain ⟨e2, rfl⟩ := opM_some e
  refine ⟨ι, ρ, C, x, _, sr, e1, fun v H1 f1 c1 r1 => ?_⟩
  unfold negP at e2
  split at e2
  · rename_i i hd
    cases e2
    have l := r1.lies c1 hd
    cases l
    exact ⟨i, rfl, k _ H1 f1 c1 (show Rep _ _ _ _ _ from repI)⟩
  · cases e2
theorem lt_ok : L2ok X.K (rI0 fun i j => .bl (decide (i < j))) ltP := int_ok0 fun _ _ _ _ => repBl
theorem le_ok : L2ok X.K (rI0 fun i j => .bl (decide (i ≤ j))) leP := int_ok0 fun _ _ _ _ => repBl
theorem gt_ok : L2ok X.K (rI0 fun i j => .bl (decide (j < i))) gtP := int_ok0 fun _ _ _ _ => repBl
theorem ge_ok : L2ok X.K (rI0 fun i j => .bl (decide (j ≤ i))) geP := int_ok0 fun _ _ _ _ => repBl
def scP : PV → PV → Option Bool
  | .non, .non => some true | .non, .int _ => some false | .int _, .non => some false | .non, .bl _ => some false | .bl _, .non => some false | .non, .str _ => some false | .str _, .non => some false
  | .int i, .int j => some (decide (i = j)) | .bl i, .bl j => some (decide (i = j)) | .str i, .str j => some (decide (i = j))
  | .int _, .str _ => some false | .str _, .int _ => some false | .bl _, .str _ => some false | .str _, .bl _ => some false
  | _, _ => none
def eqP (p q : PV) : Option PV := (scP p q).map .bl
def neP (p q : PV) : Option PV := (scP p q).map fun b => .bl (!b)
theorem sc_ok {K : PySem.W.Frag} {ι : List Addr} {H : Hp} {p q : PV} {vx vy : V} {b : Bool} (lx : Lies K ι H p vx) (ly : Lies K ι H q vy) (e : scP p q = some b) : scal vx vy = true ∧ decide (vx = vy) = b := by
  unfold scP at e
  split at e <;> first
    | (cases e; cases lx; cases ly; exact ⟨rfl, by simp⟩)
    | cases e
theorem eq_ok : L2ok X.K rEq eqP := by
  intro ι H C p q vx vy z Q cr lx ly e k
  unfold eqP at e
  cases hb : scP p q with
  | none => rw [hb] at e; cases e
  | some b =>
    rw [hb] at e; cases e
    obtain ⟨h1, h2⟩ := sc_ok lx ly hb
    exact ⟨h1, by rw [h2]; exact k _ H .refl cr repBl⟩
theorem ne_ok : L2ok X.K rNe neP := by
  intro ι H C p q vx vy z Q cr lx ly e k
  unfold neP at e
  cases hb : scP p q with
  | none => rw [hb] at e; cases e
  | some b =>
    rw [hb] at e; cases e
    obtain ⟨h1, h2⟩ := sc_ok lx ly hb
    exact ⟨h1, by rw [h2]; exact k _ H .refl cr repBl⟩
def isNP : PV → PV → Option PV
  | .non, .non => some (.bl true)
  | _, .non => some (.bl false)
  | _, _ => none
def notNP : PV → PV → Option PV
  | .non, .non => some (.bl false)
  | _, .non => some (.bl true)
  | _, _ => none
theorem isN_ok : L2ok X.K (fun x y H Q => y = .non ∧ Q (.bl (decide (x = .non))) H) isNP := by
  intro ι H C p q vx vy z Q cr lx ly e k
  unfold isNP at e
  split at e
  · cases e; cases lx; cases ly; exact ⟨rfl, k _ H .refl cr repBl⟩
  · rename_i hp
    cases e; cases ly
    refine ⟨rfl, ?_⟩
    have : decide (vx = V.non) = false := by cases lx <;> first | exact (hp rfl).elim | simp
    rw [this]; exact k _ H .refl cr repBl
  · cases e
theorem notN_ok : L2ok X.K (fun x y H Q => y = .non ∧ Q (.bl (!decide (x = .non))) H) notNP := by
  intro ι H C p q vx vy z Q cr lx ly e k
  unfold notNP at e
  split at e
  · cases e; cases lx; cases ly; exact ⟨rfl, k _ H .refl cr repBl⟩
  · rename_i hp
    cases e; cases ly
    refine ⟨rfl, ?_⟩
    have : (!decide (vx = V.non)) = true := by cases lx <;> first | exact (hp rfl).elim | simp
    rw [this]; exact k _ H .refl cr repBl
  · cases e
def ixP : PV → PV → Option PV
  | .lst xs, .int i => atI xs i
  | .tup xs, .int i => atI xs i
  | .str z, .int i => (atI z.cps.toList i).map fun c => .str ⟨#[c]⟩
  | _, _ => none
theorem atI_rep {K : PySem.W.Frag} {ι : List Addr} {H : Hp} {ps : List PV} {vs : List V} {i : Int} {z : PV} (r : Reps K ι H ps vs) (e : atI ps i = some z) : ∃ v, atI vs i = some v ∧ Rep K ι H z v := by
  unfold atI at e ⊢
  rw [← r.length]
  cases h : ixN ps.length i with
  | none => rw [h] at e; cases e
  | some j => rw [h] at e; exact r.get e
theorem ix_ok : L2ok X.K (rIx X.K) ixP := by
  intro ι H C p q vx vy z Q cr lx ly e k
  unfold ixP at e
  split at e
  · obtain ⟨a, vs, rfl, h1, r1⟩ := liesL lx
    cases ly
    obtain ⟨v, e1, r⟩ := atI_rep r1 e
    exact .inl ⟨a, vs, _, v, rfl, rfl, h1, e1, k v H .refl cr r⟩
  · obtain ⟨a, vs, rfl, h1, r1⟩ := liesT lx
    cases ly
    obtain ⟨v, e1, r⟩ := atI_rep r1 e
    exact .inr (.inl ⟨a, vs, _, v, rfl, rfl, h1, e1, k v H .refl cr r⟩)
  · obtain ⟨rfl, hz⟩ := liesS lx
    cases ly
    rename_i z' i
    cases hc : atI z'.cps.toList i with
    | none => rw [hc] at e; cases e
    | some c =>
      rw [hc] at e; cases e
      exact .inr (.inr ⟨_, _, c, rfl, rfl, hz, hc, k _ H .refl cr (repS (by show 1 ≤ sizeLine; rw [sizeLine_eq]; decide))⟩)
  · cases e
theorem em_ixS (ha : EM X a fa) (hb : EM X b fb) (hs : PlainIx b := by exact fun _ _ => rfl) : EM X (.Subscript a b pos) (mOp (g2 ixP) fa fb) := em_ix ix_seq ix_ok.r ha hb hs
def tyN : PV → Option String
  | .non => some "NoneType"
  | .bl _ => some "bool"
  | .int _ => some "int"
  | .str _ => some "str"
  | .tup _ => some "tuple"
  | .lst _ => some "list"
  | .dct _ _ => some "dict"
  | _ => none
def isiP (p : PV) (n : String) : Option Bool := match tyN p with
  | none => none
  | some t => if n = "int" then some (t == "int" || t == "bool") else if n = "str" ∨ n = "bool" ∨ n = "tuple" ∨ n = "list" ∨ n = "dict" then some (t == n) else none
theorem kit_ok {K : PySem.W.Frag} {t n : String} {b : Bool} (ht : t = "NoneType" ∨ t = "bool" ∨ t = "int" ∨ t = "str" ∨ t = "tuple" ∨ t = "list" ∨ t = "dict") (hn : n = "int" ∨ n = "str" ∨ n = "bool" ∨ n = "tuple" ∨ n = "list" ∨ n = "dict")
    (e : (if n = "int" then some (t == "int" || t == "bool") else if n = "str" ∨ n = "bool" ∨ n = "tuple" ∨ n = "list" ∨ n = "dict" then some (t == n) else none) = some b) : PySem.W.kitOne K (.type t) (.type n) = some b := by
  rcases ht with rfl | rfl | rfl | rfl | rfl | rfl | rfl <;> rcases hn with rfl | rfl | rfl | rfl | rfl | rfl <;> (simp at e; subst e; rfl)
end
end Pu

set_option Elab.async false
set_option linter.all false
set_option maxRecDepth 100000
set_option maxHeartbeats 4000000
namespace Pu
open PySem PySem.Spec L2
open PyProof.Rows hiding St Fr
inductive LiesAll (K : PySem.W.Frag) (ι : List Addr) (H : Hp) : List PV → List V → Prop
  | nil : LiesAll K ι H [] []
  | cons {p : PV} {v : V} {ps : List PV} {vs : List V} (h : Lies K ι H p v) (t : LiesAll K ι H ps vs) : LiesAll K ι H (p :: ps) (v :: vs)
def derefs (C : Cs) : List SV → Option (List PV)
  | [] => some []
  | x :: xs => match deref C x, derefs C xs with
    | some p, some ps => some (p :: ps)
    | _, _ => none
theorem derefs_lies {K : PySem.W.Frag} {ι : List Addr} {H : Hp} {C : Cs} (cr : CR K ι H C) : ∀ {xs : List SV} {ps : List PV} {vs : List V}, RepSs K ι H xs vs → derefs C xs = some ps → LiesAll K ι H ps vs
  | [], ps, vs, r, e => by cases e; rw [show vs = [] from r]; exact .nil
  | x :: xs, ps, vs, r, e => by
    obtain ⟨v, w, rfl, h1, h2⟩ := r
    unfold derefs at e
    split at e
    · rename_i p qs hp hq
      cases e
      exact .cons (h1.lies cr hp) (derefs_lies cr h2 hq)
    · cases e
def g1 (h : List PV → Option PV) : Cs → List SV → Option SV := fun C xs => match derefs C xs with
  | some ps => (h ps).map .v
  | none => none
def L1ok (K : PySem.W.Frag) (r : List V → Hp → VK → Prop) (h : List PV → Option PV) : Prop :=
  ∀ (ι : List Addr) (H : Hp) (C : Cs) (ps : List PV) (vs : List V) (z : PV) (Q : VK), CR K ι H C → LiesAll K ι H ps vs → h ps = some z → (∀ v H', Fr ι H H' → CR K ι H' C → Rep K ι H' z v → Q v H') → r vs H Q
theorem L1ok.c {K : PySem.W.Frag} {r : List V → Hp → VK → Prop} {h : List PV → Option PV} (k : L1ok K r h) : C1ok K r (g1 h) := by
  intro ι H C xs vs z Q cr rs e q
  unfold g1 at e
  cases hd : derefs C xs with
  | none => rw [hd] at e; cases e
  | some ps =>
    rw [hd] at e
    cases hz : h ps with
    | none => simp [hz] at e
    | some z2 =>
      simp [hz] at e
      subst e
      exact k ι H C ps vs z2 Q cr (derefs_lies cr rs hd) hz q
section
variable {X : Cx} {a b e c o : Expr} {es : List Expr} {fa fb fc fo : PSt → M SV} {fs : PSt → M (List SV)} {pos p apos cpos : Pos} {x : Str}
def TyV (K : PySem.W.Frag) (H : Hp) (x : V) (t : String) : Prop := match x with
  | .non => t = "NoneType"
  | .bl _ => t = "bool"
  | .int _ => t = "int"
  | .str _ => t = "str"
  | .ref a => (t = "tuple" ∧ ∃ vs, SqT K H a vs) ∨ (t = "list" ∧ ∃ vs, SqL K H a vs) ∨ (t = "dict" ∧ ∃ kvs, H a = some (.dK kvs))
  | _ => False
theorem call_isi : CallR X (.builtin "isinstance") (fun xs H Q => ∃ x n t b, xs = [x, .ty n] ∧ TyV X.K H x t ∧ PySem.W.kitOne X.K (.type t) (.type n) = some b ∧ Q (.bl b) H) := by
  intro pins s σ H xs us Q I r h
  obtain ⟨x, n, t, b, rfl, ty, e, q⟩ := h
  obtain ⟨u, v, rfl, ru, rv⟩ := Vals.two r
  cases (show v = Value.type n from rv)
  have fin : ∀ tk, EP X pins σ Q (.bool b) { s with toks := tk } := fun tk => ⟨.bl b, H, I.tok tk, rfl, q⟩
  cases x with
  | non => cases (show t = "NoneType" from ty); exact isinst_ok I ru (TyOf.non) e fin
  | bl y => cases (show t = "bool" from ty); exact isinst_ok I ru (TyOf.bl y) e fin
  | int y => cases (show t = "int" from ty); exact isinst_ok I ru (TyOf.int y) e fin
  | str y => cases (show t = "str" from ty); exact isinst_ok I ru (TyOf.str y) e fin
  | ref a =>
    cases (show u = Value.ref a from ru)
    rcases (show _ from ty) with ⟨rfl, vs, h⟩ | ⟨rfl, vs, h⟩ | ⟨rfl, kvs, h⟩
    · obtain ⟨its, _, ⟨o, h1, h2, _⟩, _⟩ := I.tuple h
      exact PySem.W.kia_one PySem.W.kitx_tuple I.kIn ⟨o, h1, h2⟩ e (fun z => nomatch z) fin
    · obtain ⟨its, _, ⟨o, n, h1, h2, _⟩, _⟩ := I.list h
      exact PySem.W.kia_one PySem.W.kitx_list I.kIn ⟨o, h1, h2⟩ e (fun z => nomatch z) fin
    · exact isinst_ok I ru (TyOf.dK h) e fin
  | _ => exact (show False from ty).elim
def isiH : List PV → Option PV
  | [p, .ty n] => (isiP p n).map .bl
  | _ => none
theorem isi_ok : L1ok X.K (fun xs H Q => ∃ x n t b, xs = [x, .ty n] ∧ TyV X.K H x t ∧ PySem.W.kitOne X.K (.type t) (.type n) = some b ∧ Q (.bl b) H) isiH := by
  intro ι H C ps vs z Q cr ls e k
  unfold isiH at e
  split at e
  · rename_i p n
    cases ls with
    | cons l1 ls => cases ls with
      | cons l2 ls =>
        cases ls
        cases l2
        cases hb : isiP p n with
        | none => rw [hb] at e; cases e
        | some b =>
          rw [hb] at e; cases e
          unfold isiP at hb
          cases ht : tyN p with
          | none => rw [ht] at hb; cases hb
          | some t =>
            rw [ht] at hb
            dsimp only at hb
            have hn : n = "int" ∨ n = "str" ∨ n = "bool" ∨ n = "tuple" ∨ n = "list" ∨ n = "dict" := by
              by_cases h1 : n = "int"
              · exact .inl h1
              · rw [if_neg h1] at hb
                by_cases h2 : n = "str" ∨ n = "bool" ∨ n = "tuple" ∨ n = "list" ∨ n = "dict"
                · exact .inr h2
                · rw [if_neg h2] at hb; cases hb
            refine ⟨_, n, t, b, rfl, ?_, kit_ok ?_ hn hb, k _ H .refl cr repBl⟩
            · cases l1 <;> (unfold tyN at ht; first | (cases ht; rfl) | (cases ht; exact .inl ⟨rfl, _, by assumption⟩) | (cases ht; exact .inr (.inl ⟨rfl, _, by assumption⟩)) | (cases ht; exact .inr (.inr ⟨rfl, _, by assumption⟩)) | cases ht)
            · cases p <;> (unfold tyN at ht; first | (cases ht; simp) | cases ht)
  · cases e
theorem em_isi (hgl : Gl X "isinstance") (hm : X.mg "isinstance" = none) (hv : bootBuiltins "isinstance" = some (.builtin "isinstance")) (ha : AM X (e :: es) fs)
    (he : starEach (e :: es) X.env = (false, eval e X.env) :: starEach es X.env := by rfl) (hpl : (backTo pos (starEach es X.env)).any (·.1) = false := by rfl) : EM X (.Call (.Name "isinstance" p) (e :: es) [] pos) (mCB (g1 isiH) fs) :=
  em_callB call_isi isi_ok.c hgl hm hv ha (by decide) (by decide) he hpl
def lenH : List PV → Option PV
  | [.str z] => some (.int z.length)
  | [.lst xs] => some (.int xs.length)
  | [.tup xs] => some (.int xs.length)
  | _ => none
theorem len_ok : L1ok X.K (fun xs H Q => ∃ x n, xs = [x] ∧ LenV X.K x H n ∧ Q (.int n) H) lenH := by
  intro ι H C ps vs z Q cr ls e k
  unfold lenH at e
  split at e
  · cases e; cases ls with
    | cons l t => cases t; obtain ⟨rfl, hz⟩ := liesS l; exact ⟨_, _, rfl, ⟨hz, rfl⟩, k _ H .refl cr repI⟩
  · cases e; cases ls with
    | cons l t => cases t; obtain ⟨a, ws, rfl, h1, r1⟩ := liesL l; exact ⟨_, _, rfl, .inl ⟨ws, h1, r1.length⟩, k _ H .refl cr repI⟩
  · cases e; cases ls with
    | cons l t => cases t; obtain ⟨a, ws, rfl, h1, r1⟩ := liesT l; exact ⟨_, _, rfl, .inr ⟨ws, h1, r1.length⟩, k _ H .refl cr repI⟩
  · cases e
theorem em_len (hgl : Gl X "len") (hm : X.mg "len" = none) (ha : AM X (e :: es) fs)
    (he : starEach (e :: es) X.env = (false, eval e X.env) :: starEach es X.env := by rfl) (hpl : (backTo pos (starEach es X.env)).any (·.1) = false := by rfl) : EM X (.Call (.Name "len" p) (e :: es) [] pos) (mCB (g1 lenH) fs) :=
  em_callB call_len len_ok.c hgl hm PySem.boot_len ha (by decide) (by decide) he hpl
def maxH : List PV → Option PV
  | [.int i, .int j] => some (.int (if j > i then j else i))
  | _ => none
def minH : List PV → Option PV
  | [.int i, .int j] => some (.int (if j < i then j else i))
  | _ => none
theorem max_ok : L1ok X.K (fun xs H Q => ∃ i j, xs = [.int i, .int j] ∧ Q (.int (if j > i then j else i)) H) maxH := by
  intro ι H C ps vs z Q cr ls e k
  unfold maxH at e
  split at e
  · cases e; cases ls with
    | cons l t => cases t with
      | cons l2 t => cases t; cases l; cases l2; exact ⟨_, _, rfl, k _ H .refl cr repI⟩
  · cases e
theorem min_ok : L1ok X.K (fun xs H Q => ∃ i j, xs = [.int i, .int j] ∧ Q (.int (if j < i then j else i)) H) minH := by
  intro ι H C ps vs z Q cr ls e k
  unfold minH at e
  split at e
  · cases e; cases ls with
    | cons l t => cases t with
      | cons l2 t => cases t; cases l; cases l2; exact ⟨_, _, rfl, k _ H .refl cr repI⟩
  · cases e
theorem em_max (hc : X.calm = true) (hgl : Gl X "max") (hm : X.mg "max" = none) (hv : bootBuiltins "max" = some (.builtin "max")) (ha : AM X (e :: es) fs)
    (he : starEach (e :: es) X.env = (false, eval e X.env) :: starEach es X.env := by rfl) (hpl : (backTo pos (starEach es X.env)).any (·.1) = false := by rfl) : EM X (.Call (.Name "max" p) (e :: es) [] pos) (mCB (g1 maxH) fs) :=
  em_callB (call_max2 hc) max_ok.c hgl hm hv ha (by decide) (by decide) he hpl
theorem em_min (hc : X.calm = true) (hgl : Gl X "min") (hm : X.mg "min" = none) (hv : bootBuiltins "min" = some (.builtin "min")) (ha : AM X (e :: es) fs)
    (he : starEach (e :: es) X.env = (false, eval e X.env) :: starEach es X.env := by rfl) (hpl : (backTo pos (starEach es X.env)).any (·.1) = false := by rfl) : EM X (.Call (.Name "min" p) (e :: es) [] pos) (mCB (g1 minH) fs) :=
  em_callB (call_min2 hc) min_ok.c hgl hm hv ha (by decide) (by decide) he hpl
def intH : List PV → Option PV
  | [.int i] => some (.int i)
  | [.bl k] => some (.int (if k then 1 else 0))
  | _ => none
theorem intc_ok : L1ok X.K (fun xs H Q => (∃ i, xs = [.int i] ∧ Q (.int i) H) ∨ ∃ k, xs = [.bl k] ∧ Q (.int (if k then 1 else 0)) H) intH := by
  intro ι H C ps vs z Q cr ls e k
  unfold intH at e
  split at e
  · cases e; cases ls with
    | cons l t => cases t; cases l; exact .inl ⟨_, rfl, k _ H .refl cr repI⟩
  · cases e; cases ls with
    | cons l t => cases t; cases l; exact .inr ⟨_, rfl, k _ H .refl cr repI⟩
  · cases e
theorem em_intc (hgl : Gl X "int") (hm : X.mg "int" = none) (hv : bootBuiltins "int" = some (.type "int")) (ha : AM X (e :: es) fs)
    (he : starEach (e :: es) X.env = (false, eval e X.env) :: starEach es X.env := by rfl) (hpl : (backTo pos (starEach es X.env)).any (·.1) = false := by rfl) : EM X (.Call (.Name "int" p) (e :: es) [] pos) (mCB (g1 intH) fs) :=
  em_callTy call_int1 intc_ok.c hgl hm hv ha (by decide) (by decide) he hpl
def tupH : List PV → Option PV
  | [.lst xs] => some (.tup xs)
  | [.tup xs] => some (.tup xs)
  | _ => none
theorem tup_ok : L1ok X.K (fun xs H Q => ∃ p ys, xs = [.ref p] ∧ ((SqL X.K H p ys ∧ ∀ l, H l = none → Q (.ref l) (upd H l (.tup ys))) ∨ (SqT X.K H p ys ∧ Q (.ref p) H))) tupH := by
  intro ι H C ps vs z Q cr ls e k
  unfold tupH at e
  split at e
  · cases e; cases ls with
    | cons l t => cases t; obtain ⟨a, ws, rfl, h1, r1⟩ := liesL l; exact ⟨a, ws, rfl, .inl ⟨h1, fun q hq => k _ _ (Fr.new hq) (cr.new hq) (new_tup hq r1)⟩⟩
  · cases e; cases ls with
    | cons l t => cases t; obtain ⟨a, ws, rfl, h1, r1⟩ := liesT l; exact ⟨a, ws, rfl, .inr ⟨h1, k _ H .refl cr (by unfold Rep; exact ⟨a, ws, rfl, h1, r1⟩)⟩⟩
  · cases e
theorem em_tupc (hgl : Gl X "tuple") (hm : X.mg "tuple" = none) (hv : bootBuiltins "tuple" = some (.type "tuple")) (ha : AM X (e :: es) fs)
    (he : starEach (e :: es) X.env = (false, eval e X.env) :: starEach es X.env := by rfl) (hpl : (backTo pos (starEach es X.env)).any (·.1) = false := by rfl) : EM X (.Call (.Name "tuple" p) (e :: es) [] pos) (mCB (g1 tupH) fs) :=
  em_callTy call_tuple_of tup_ok.c hgl hm hv ha (by decide) (by decide) he hpl
def listH (C : Cs) : List SV → Option (List PV)
  | [x] => match deref C x with
    | some (.lst xs) => some xs
    | some (.tup xs) => some xs
    | _ => none
  | _ => none
def mList (fs : PSt → M (List SV)) : PSt → M (List PV) := fun ρ => bnd (fs ρ) fun xs => opM fun C => listH C xs
theorem fm_listc (hgl : Gl X "list") (hm : X.mg "list" = none) (hv : bootBuiltins "list" = some (.type "list")) (ha : AM X (e :: es) fs)
    (he : starEach (e :: es) X.env = (false, eval e X.env) :: starEach es X.env := by rfl) (hpl : (backTo pos (starEach es X.env)).any (·.1) = false := by rfl) : FM X (.Call (.Name "list" p) (e :: es) [] pos) (mList fs) :=
  PE.imp (pe_callTy call_list_of hgl hm hv ha (by decide) (by decide) he hpl) fun σ H Q ⟨ι, ρ, C, z, C', sr, e, q⟩ => by
    obtain ⟨xs, C1, e1, e⟩ := bnd_some e
    obtain ⟨e2, rfl⟩ := opM_some e
    refine ⟨ι, ρ, C, xs, _, sr, e1, fun vs H1 f1 c1 r1 => ?_⟩
    unfold listH at e2
    split at e2
    · rename_i x
      obtain ⟨v, w, rfl, r1, hw⟩ := r1
      cases (show w = [] from hw)
      split at e2
      · rename_i hd
        cases e2
        obtain ⟨a, ws, rfl, h1, r2⟩ := liesL (r1.lies c1 hd)
        exact ⟨a, ws, rfl, .inl h1, fun l hl => q l ws H1 f1 c1 hl r2⟩
      · rename_i hd
        cases e2
        obtain ⟨a, ws, rfl, h1, r2⟩ := liesT (r1.lies c1 hd)
        exact ⟨a, ws, rfl, .inr h1, fun l hl => q l ws H1 f1 c1 hl r2⟩
      · cases e2
    · cases e2
def boolsP : List PV → Option (List Bool)
  | [] => some []
  | .bl b :: r => (boolsP r).map (b :: ·)
  | _ :: _ => none
theorem bools_rep {K : PySem.W.Frag} {ι : List Addr} {H : Hp} : ∀ {ps : List PV} {vs : List V} {bs : List Bool}, Reps K ι H ps vs → boolsP ps = some bs → vs = bs.map V.bl
  | [], vs, bs, r, e => by cases e; rw [r.inv0]; rfl
  | p :: ps, vs, bs, r, e => by
    obtain ⟨v, w, rfl, h1, h2⟩ := r.inv
    cases p with
    | bl b =>
      unfold boolsP at e
      cases hb : boolsP ps with
      | none => rw [hb] at e; cases e
      | some cs =>
        rw [hb] at e; cases e
        have h1 : v = .bl b := by unfold Rep at h1; exact h1
        rw [h1, bools_rep h2 hb]; rfl
    | _ => cases e
def allH : List PV → Option PV
  | [.lst xs] => (boolsP xs).map fun bs => .bl (bs.all id)
  | _ => none
theorem all_ok : L1ok X.K (fun xs H Q => ∃ (a : Addr) (bs : List Bool), xs = [.ref a] ∧ SqL X.K H a (bs.map V.bl) ∧ Q (.bl (bs.all id)) H) allH := by
  intro ι H C ps vs z Q cr ls e k
  unfold allH at e
  split at e
  · rename_i xs
    cases ls with
    | cons l t =>
      cases t
      obtain ⟨a, ws, rfl, h1, r1⟩ := liesL l
      cases hb : boolsP xs with
      | none => rw [hb] at e; cases e
      | some bs =>
        rw [hb] at e; cases e
        exact ⟨a, bs, rfl, by rw [← bools_rep r1 hb]; exact h1, k _ H .refl cr repBl⟩
  · cases e
theorem em_all (hc : X.calm = true) (hgl : Gl X "all") (hm : X.mg "all" = none) (hv : bootBuiltins "all" = some (.builtin "all")) (ha : AM X (e :: es) fs)
    (he : starEach (e :: es) X.env = (false, eval e X.env) :: starEach es X.env := by rfl) (hpl : (backTo pos (starEach es X.env)).any (·.1) = false := by rfl) : EM X (.Call (.Name "all" p) (e :: es) [] pos) (mCB (g1 allH) fs) :=
  em_callB (call_all_bl hc) all_ok.c hgl hm hv ha (by decide) (by decide) he hpl
end
end Pu

set_option Elab.async false
set_option linter.all false
set_option maxRecDepth 100000
set_option maxHeartbeats 4000000
namespace Pu
open PySem PySem.Spec L2
open PyProof.Rows hiding St Fr
section
variable {X : Cx} {a b e c o i : Expr} {es : List Expr} {fa fb fc fo fi fv : PSt → M SV} {fs : PSt → M (List SV)} {pos p apos cpos : Pos} {x : Str}
def isLst (x : SV) : M Unit := fun C => match x with
  | .c k => match C[k]? with
    | some (.lst _) => some ((), C)
    | _ => none
  | _ => none
theorem isLst_some {x : SV} {C C2 : Cs} (h : isLst x C = some ((), C2)) : C2 = C ∧ ∃ k ps, x = .c k ∧ C[k]? = some (.lst ps) := by
  unfold isLst at h
  split at h
  · split at h
    · rename_i k _ ps e; cases h; exact ⟨rfl, k, ps, rfl, e⟩
    · cases h
  · cases h
def appC (x : SV) (ys : List SV) : M SV := fun C => match x, ys with
  | .c k, [.v p] => match C[k]? with
    | some (.lst ps) => if ps.length < 100000 then some (.v .non, C.set k (.lst (ps ++ [p]))) else none
    | _ => none
  | _, _ => none
theorem appC_some {x : SV} {ys : List SV} {C C2 : Cs} {r : SV} (h : appC x ys C = some (r, C2)) : ∃ k p ps, x = .c k ∧ ys = [.v p] ∧ C[k]? = some (.lst ps) ∧ ps.length < 100000 ∧ r = .v .non ∧ C2 = C.set k (.lst (ps ++ [p])) := by
  unfold appC at h
  split at h
  · split at h
    · split at h
      · cases h; exact ⟨_, _, _, rfl, rfl, by assumption, by assumption, rfl, rfl⟩
      · cases h
    · cases h
  · cases h
def mApp (fo : PSt → M SV) (fs : PSt → M (List SV)) : PSt → M SV := fun ρ => bnd (fo ρ) fun x => bnd (isLst x) fun _ => bnd (fs ρ) fun ys => appC x ys
theorem cell_lst {K : PySem.W.Frag} {ι : List Addr} {H : Hp} {C : Cs} {k : Nat} {a : Addr} {ps : List PV} (cr : CR K ι H C) (hk : ι[k]? = some a) (hc : C[k]? = some (.lst ps)) : ∃ vs, H a = some (.lst vs) ∧ Reps K ι H ps vs := cr.ok k a _ hk hc
theorem cr_set {K : PySem.W.Frag} {ι : List Addr} {H : Hp} {C : Cs} {k : Nat} {a : Addr} {ps : List PV} {vs : List V} (cr : CR K ι H C) (hk : ι[k]? = some a) (r : Reps K ι H ps vs) : CR K ι (upd H a (.lst vs)) (C.set k (.lst ps)) ∧ Fr ι H (upd H a (.lst vs)) := by
  have fr : Fr ι H (upd H a (.lst vs)) := fun b u n e => by
    rw [upd_ne (fun z => n (by rw [z]; exact List.mem_of_getElem? hk))]; exact e
  exact ⟨cr.put hk ⟨vs, upd_same, Reps.mono cr fr _ _ r⟩, fr⟩
theorem em_append (ho : EM X o fo) (ha : AM X (e :: es) fs) (hbase : attributeBase o "append" X.env (eval o X.env) = eval o X.env := by rfl)
    (hfew : ((backTo cpos (starEach (e :: es) X.env)).all (fun x => !x.1) && (backToKw cpos (keywordEach [] X.env)).all (fun x => x.1.isSome)
      && decide ((e :: es).length + ([] : List Keyword).length + (if ([] : List Keyword).isEmpty then 0 else 1) < 30)) = true := by rfl)
    (hline : (apos.endLine == cpos.line) = true := by rfl) (hs : starEach (e :: es) X.env = (false, eval e X.env) :: starEach es X.env := by rfl) (hplain : (backTo cpos (starEach es X.env)).any (·.1) = false := by rfl) :
    EM X (.Call (.Attribute o "append" apos) (e :: es) [] cpos) (mApp fo fs) :=
  PE.imp (pe_bm PySem.F.plainAttrs_list PySem.F.slot_list_append PySem.F.type_list_append mt_append ho ha hbase hfew hline hs hplain) fun σ H Q ⟨ι, ρ, C, z, C', sr, e, q⟩ => by
    obtain ⟨x, C1, e1, g1⟩ := bnd_some e
    obtain ⟨u, C2, e2, g2⟩ := bnd_some g1
    obtain ⟨ys, C3, e3, g3⟩ := bnd_some g2
    obtain ⟨hC, k, ps0, hx, hc0⟩ := isLst_some e2
    obtain ⟨k', p', ps, hx', hy, hc, hl, hr, hC'⟩ := appC_some g3
    clear e g1 g2 g3 e2
    subst hC hx hr hC' hy
    cases hx'
    refine ⟨ι, ρ, C, _, _, sr, e1, fun v H1 f1 c1 r1 => ?_⟩
    obtain ⟨a, rfl, hk⟩ := r1
    obtain ⟨vs0, h0, _⟩ := cell_lst c1 hk hc0
    refine ⟨.inl ⟨rfl, _, .of h0⟩, ι, ρ, _, _, C3, sr.step f1 c1, e3, fun ws H2 f2 c2 r2 => ?_⟩
    obtain ⟨w, wr, rfl, rw1, hw⟩ := r2
    cases (show wr = [] from hw)
    obtain ⟨vs, h1, rv⟩ := cell_lst c2 hk hc
    obtain ⟨c4, f4⟩ := cr_set c2 hk (rv.append (.cons rw1 .nil))
    exact ⟨a, vs, w, rfl, rfl, h1, by rw [← rv.length]; exact Nat.lt_of_lt_of_le hl (k100000 (Nat.le_refl _)), q _ _ (f1.trans (f2.trans f4)) c4 (show Rep _ _ _ _ _ from repN)⟩
def setC (v o i : SV) (ρ : PSt) : M PF := fun C => match o, i, v with
  | .c k, .v (.int n), .v p => match C[k]? with
    | some (.lst ps) => match ixN ps.length n with
      | some j => some (.nx ρ, C.set k (.lst (ps.set j p)))
      | none => none
    | _ => none
  | _, _, _ => none
theorem setC_some {v o i : SV} {ρ : PSt} {C C2 : Cs} {fl : PF} (h : setC v o i ρ C = some (fl, C2)) : ∃ k n p ps j, o = .c k ∧ i = .v (.int n) ∧ v = .v p ∧ C[k]? = some (.lst ps) ∧ ixN ps.length n = some j ∧ fl = .nx ρ ∧ C2 = C.set k (.lst (ps.set j p)) := by
  unfold setC at h
  split at h
  · split at h
    · split at h
      · cases h; exact ⟨_, _, _, _, _, rfl, rfl, rfl, by assumption, by assumption, rfl, rfl⟩
      · cases h
    · cases h
  · cases h
def mSetIx (fv fo fi : PSt → M SV) : PSt → M PF := fun ρ => bnd (fv ρ) fun v => bnd (fo ρ) fun o => bnd (fi ρ) fun i => setC v o i ρ
theorem sm_setix {spos : Pos} (hv : EM X e fv) (ho : EM X o fo) (hi : EM X i fi)
    (ha : ∀ v, assign (.Subscript o i spos) X.env v = (do
      let ov ← holding [v] (eval o X.env)
      let iv ← holding [v, ov] (eval i X.env)
      standAt spos
      holding [v, ov, iv] (setItem ov iv v)
      release [v, ov, iv] []) := by intro _; rfl)
    (hs : swapsWithSole [.Subscript o i spos] e pos.line X.env = pure false := by rfl) (hw : swappedStores [.Subscript o i spos] e X.env = pure none := by rfl)
    (h1 : (assignEach [.Subscript o i spos] X.env).map (·.2) = [assign (.Subscript o i spos) X.env] := by rfl) : SM X (.Assign [.Subscript o i spos] e pos) (mSetIx fv fo fi) :=
  PS.imp (ps_asg hv (pg_sub ho hi set_list ha) hs hw h1) fun D σ H ⟨ι, ρ, C, fl, C', sr, e, d⟩ => by
    obtain ⟨v, C1, e1, g1⟩ := bnd_some e
    obtain ⟨o, C2, e2, g2⟩ := bnd_some g1
    obtain ⟨i, C3, e3, g3⟩ := bnd_some g2
    obtain ⟨k, n, p', ps, j, ho, hi, hv, hc, hj, hf, hC⟩ := setC_some g3
    clear e g1 g2 g3
    subst ho hi hv hf hC
    refine ⟨ι, ρ, C, _, C1, sr, e1, fun x H1 f1 c1 r1 => ⟨ι, ρ, C1, _, C2, sr.step f1 c1, e2, fun y H2 f2 c2 r2 => ⟨ι, ρ, C2, _, C3, (sr.step f1 c1).step f2 c2, e3, fun w H3 f3 c3 r3 => ?_⟩⟩⟩
    obtain ⟨a, rfl, hk⟩ := r2
    have r3 : w = .int n := by unfold RepS Rep at r3; exact r3
    obtain ⟨vs, h1, rv⟩ := cell_lst c3 hk hc
    have r1' : Rep X.K ι H3 p' x := Rep.mono c2 f3 _ _ (Rep.mono c1 f2 _ _ r1)
    obtain ⟨c4, f4⟩ := cr_set c3 hk (rv.set j r1')
    refine ⟨a, vs, n, j, rfl, r3, h1, by rw [← rv.length]; exact hj, ?_⟩
    exact Done.nx0 ((((sr.step f1 c1).step f2 c2).step f3 c3).step f4 c4) (d.fr c4 (f1.trans (f2.trans (f3.trans f4))))
def itemsP : SV → Option (List PV)
  | .v (.lst xs) => some xs
  | .v (.tup xs) => some xs
  | .v (.str z) => some (z.cps.toList.map fun c => .str ⟨#[c]⟩)
  | _ => none
def mItems (f : PSt → M SV) : PSt → M (List PV) := fun ρ => bnd (f ρ) fun x => opM fun _ => itemsP x
theorem iter_list {K : PySem.W.Frag} {ι : List Addr} {H : Hp} {C : Cs} {a : Addr} {xs : List PV} {vs : List V} (cr : CR K ι H C) (h : LsR K ι H a vs) (r : Reps K ι H xs vs) : Iter K ι H xs (Itl K a) := by
  have keep : ∀ ι2 H2, Ex ι ι2 H H2 → SqL K H2 a vs := fun ι2 H2 x => by
    rcases h with ⟨n, q | ⟨o, q⟩⟩ | q
    · exact .inl (.inl (x.out _ _ n q).2)
    · exact .inl (.inr ⟨o, (x.out _ _ n q).2⟩)
    · exact .inr q
  refine ⟨fun ι2 H2 C2 x c i hi => ?_, fun ι2 H2 C2 x c i v H3 hi y => ?_, fun ι2 H2 C2 x c => ⟨vs, keep ι2 H2 x, by rw [r.length]; exact Nat.le_refl _⟩⟩
  · obtain ⟨v, e, _⟩ := r.get (List.getElem?_eq_getElem hi)
    exact ⟨vs, v, keep ι2 H2 x, e⟩
  · obtain ⟨rfl, y⟩ := y
    obtain ⟨p, hp, rp⟩ := r.get' (y vs (keep ι2 _ x))
    exact ⟨fun b o e => e, p, hp, Rep.tr cr x.out p v rp⟩
theorem iter_tup {K : PySem.W.Frag} {ι : List Addr} {H : Hp} {C : Cs} {a : Addr} {xs : List PV} {vs : List V} (cr : CR K ι H C) (h : SqT K H a vs) (r : Reps K ι H xs vs) : Iter K ι H xs (Itt K a) := by
  have keep : ∀ ι2 H2, Ex ι ι2 H H2 → SqT K H2 a vs := fun ι2 H2 x => by
    rcases h with (q | ⟨o, q⟩) | q
    · exact .inl (.inl (x.out _ _ (cr.notup q (fun _ e => nomatch e) fun _ e => nomatch e) q).2)
    · exact .inl (.inr ⟨o, (x.out _ _ (cr.notup q (fun _ e => nomatch e) fun _ e => nomatch e) q).2⟩)
    · exact .inr q
  refine ⟨fun ι2 H2 C2 x c i hi => ?_, fun ι2 H2 C2 x c i v H3 hi y => ?_, fun ι2 H2 C2 x c => ⟨vs, keep ι2 H2 x, by rw [r.length]; exact Nat.le_refl _⟩⟩
  · obtain ⟨v, e, _⟩ := r.get (List.getElem?_eq_getElem hi)
    exact ⟨vs, v, keep ι2 H2 x, e⟩
  · obtain ⟨rfl, y⟩ := y
    obtain ⟨p, hp, rp⟩ := r.get' (y vs (keep ι2 _ x))
    exact ⟨fun b o e => e, p, hp, Rep.tr cr x.out p v rp⟩
theorem iter_str {K : PySem.W.Frag} {ι : List Addr} {H : Hp} {z : Str} : Iter K ι H (z.cps.toList.map fun c => .str ⟨#[c]⟩) (Its z) := by
  refine ⟨fun ι2 H2 C2 x c i hi => by show i < z.cps.size; simpa using hi, fun ι2 H2 C2 x c i v H3 hi y => ?_, fun ι2 H2 C2 x c => by show _ = _; simp⟩
  obtain ⟨rfl, d, hd, rfl⟩ := y
  refine ⟨fun b o e => e, .str ⟨#[d]⟩, by simp [hd], ?_⟩
  exact repS (by show 1 ≤ sizeLine; rw [sizeLine_eq]; decide)
theorem iter_range {K : PySem.W.Frag} {ι : List Addr} {H : Hp} {lo : Int} {n : Nat} : Iter K ι H ((List.range n).map fun (k : Nat) => .int (lo + k)) (Itr lo n) := by
  refine ⟨fun ι2 H2 C2 x c i hi => by show i < n; simpa using hi, fun ι2 H2 C2 x c i v H3 hi y => ?_, fun ι2 H2 C2 x c => by show n ≤ _; simp⟩
  obtain ⟨rfl, rfl⟩ := y
  have hi' : i < n := by simpa using hi
  exact ⟨fun b o e => e, .int (lo + i), by simp [hi'], repI⟩
variable {tg l : Expr}
theorem im_val (hl : EM X l fa) : IM X tg l (mItems fa) := by
  intro pins s σ H R I h
  obtain ⟨ι, ρ, C, xs, C', sr, e, q⟩ := h
  obtain ⟨x, C1, e1, e⟩ := bnd_some e
  obtain ⟨e2, rfl⟩ := opM_some e
  refine thn (hl pins s σ H (fun v H1 => Fr ι H H1 ∧ CR X.K ι H1 C' ∧ RepS X.K ι H1 x v) I ⟨ι, ρ, C, x, C', sr, e1, fun v H1 f1 c1 r1 => ⟨f1, c1, r1⟩⟩) fun v s1 ⟨y, H1, I1, r1, f1, c1, rx⟩ => ?_
  have fp : ∀ b ∈ [s1.heap.objs.size], FpOk X pins H1 b := fun b hb => by
    have e : b = s1.heap.objs.size := by simpa using hb
    subst e
    exact I1.fpOk (Nat.le_refl _) (I1.hok.fresh (Nat.le_refl _))
  unfold itemsP at e2
  split at e2
  · cases e2
    have rx : Rep X.K ι H1 (.lst _) y := rx
    unfold Rep at rx
    obtain ⟨a, vs, rfl, hq, rv⟩ := rx
    cases r1
    obtain ⟨its, _, p, hz⟩ := I1.list hq.sq
    refine wpAny_pyIter_list p.isList ?_
    exact ⟨s1.heap.objs.size, [s1.heap.objs.size], _, _, H1, rfl, I1.kept (t' := s1.toks) fun b o e => Heap.get?_push_of_some _ e, turn_list a _, ⟨_, Heap.get?_push_size _ rfl, rfl, rfl⟩, fp, q _ H1 f1 c1 (iter_list c1 hq rv)⟩
  · cases e2
    have rx : Rep X.K ι H1 (.tup _) y := rx
    unfold Rep at rx
    obtain ⟨a, vs, rfl, hq, rv⟩ := rx
    cases r1
    obtain ⟨its, _, p, hz⟩ := I1.tuple hq
    refine wpAny_pyIter_tuple (show s1.heap.IsTuple a its.toArray from p) ?_
    exact ⟨s1.heap.objs.size, [s1.heap.objs.size], _, _, H1, rfl, I1.kept (t' := s1.toks) fun b o e => Heap.get?_push_of_some _ e, turn_tuple a _, ⟨_, Heap.get?_push_size _ rfl, rfl, rfl⟩, fp, q _ H1 f1 c1 (iter_tup c1 hq rv)⟩
  · cases e2
    have rx : Rep X.K ι H1 (.str _) y := rx
    rename Str => z
    unfold Rep at rx
    obtain ⟨rfl, hz⟩ := rx
    obtain ⟨t, rfl⟩ := r1
    cases ha : z.cps.all (· < 128)
    · exact wpAny_pyIter_wide ha ⟨s1.heap.objs.size, [s1.heap.objs.size], _, _, H1, rfl, I1.kept (t' := s1.toks) fun b o e => Heap.get?_push_of_some _ e, turn_str (t := t) (.inr rfl), ⟨_, Heap.get?_push_size _ rfl, rfl, rfl⟩, fp, q _ H1 f1 c1 iter_str⟩
    · exact wpAny_pyIter_ascii ha ⟨s1.heap.objs.size, [s1.heap.objs.size], _, _, H1, rfl, I1.kept (t' := s1.toks) fun b o e => Heap.get?_push_of_some _ e, turn_str (t := t) (.inl rfl), ⟨_, Heap.get?_push_size _ rfl, rfl, rfl⟩, fp, q _ H1 f1 c1 iter_str⟩
  · cases e2
def rng1P : List SV → Option (List PV)
  | [.v (.int j)] => if -1000000 ≤ j ∧ j ≤ 1000000 then some ((List.range j.toNat).map fun (k : Nat) => .int (0 + k)) else none
  | _ => none
def rng2P : List SV → Option (List PV)
  | [.v (.int i), .v (.int j)] => if (-1000000 ≤ i ∧ i ≤ 1000000) ∧ (-1000000 ≤ j ∧ j ≤ 1000000) then some ((List.range (j - i).toNat).map fun (k : Nat) => .int (i + k)) else none
  | _ => none
def mRange1 (fs : PSt → M (List SV)) : PSt → M (List PV) := fun ρ => bnd (fs ρ) fun xs => opM fun _ => rng1P xs
def mRange2 (fs : PSt → M (List SV)) : PSt → M (List PV) := fun ρ => bnd (fs ρ) fun xs => opM fun _ => rng2P xs
theorem rng1_some {xs : List SV} {ys : List PV} (h : rng1P xs = some ys) : ∃ j, xs = [.v (.int j)] ∧ (-1000000 ≤ j ∧ j ≤ 1000000) ∧ ys = (List.range j.toNat).map fun (k : Nat) => .int (0 + k) := by
  unfold rng1P at h
  split at h
  · split at h
    · cases h; exact ⟨_, rfl, by assumption, rfl⟩
    · cases h
  · cases h
theorem rng2_some {xs : List SV} {ys : List PV} (h : rng2P xs = some ys) : ∃ i j, xs = [.v (.int i), .v (.int j)] ∧ ((-1000000 ≤ i ∧ i ≤ 1000000) ∧ (-1000000 ≤ j ∧ j ≤ 1000000)) ∧ ys = (List.range (j - i).toNat).map fun (k : Nat) => .int (i + k) := by
  unfold rng2P at h
  split at h
  · split at h
    · cases h; exact ⟨_, _, rfl, by assumption, rfl⟩
    · cases h
  · cases h
theorem im_range1 (hg : Gl X "range") (hm : X.mg "range" = none) (ha : AM X [a] fs) (hs : starEach [a] X.env = [(false, eval a X.env)] := by rfl) : IM X tg (.Call (.Name "range" p) [a] [] pos) (mRange1 fs) :=
  PI.imp (pi_range1 hg hm ha hs) fun σ H R ⟨ι, ρ, C, xs, C', sr, e, q⟩ => by
    obtain ⟨zs, C1, e1, g1⟩ := bnd_some e
    obtain ⟨e2, hC⟩ := opM_some g1
    subst hC
    refine ⟨ι, ρ, C, zs, _, sr, e1, fun vs H1 f1 c1 r1 => ?_⟩
    obtain ⟨j, rfl, h, rfl⟩ := rng1_some e2
    obtain ⟨v, w, rfl, r1, hw⟩ := r1
    cases (show w = [] from hw)
    have r1 : v = .int j := by unfold RepS Rep at r1; exact r1
    subst r1
    exact ⟨j, rfl, by omega, by omega, q _ H1 f1 c1 iter_range⟩
theorem im_range2 (hg : Gl X "range") (hm : X.mg "range" = none) (ha : AM X [a, b] fs) (hs : starEach [a, b] X.env = [(false, eval a X.env), (false, eval b X.env)] := by rfl) (hs2 : starEach [b] X.env = [(false, eval b X.env)] := by rfl) : IM X tg (.Call (.Name "range" p) [a, b] [] pos) (mRange2 fs) :=
  PI.imp (pi_range2 hg hm ha hs hs2) fun σ H R ⟨ι, ρ, C, xs, C', sr, e, q⟩ => by
    obtain ⟨zs, C1, e1, g1⟩ := bnd_some e
    obtain ⟨e2, hC⟩ := opM_some g1
    subst hC
    refine ⟨ι, ρ, C, zs, _, sr, e1, fun vs H1 f1 c1 r1 => ?_⟩
    obtain ⟨i, j, rfl, h, rfl⟩ := rng2_some e2
    obtain ⟨v, w, rfl, r1, hw⟩ := r1
    obtain ⟨v2, w2, rfl, r2, hw⟩ := hw
    cases (show w2 = [] from hw)
    have r1 : v = .int i := by unfold RepS Rep at r1; exact r1
    have r2 : v2 = .int j := by unfold RepS Rep at r2; exact r2
    subst r1 r2
    exact ⟨i, j, rfl, ⟨by omega, by omega, by omega, by omega⟩, q _ H1 f1 c1 iter_range⟩
end
end Pu

set_option Elab.async false
set_option linter.all false
set_option maxRecDepth 100000
set_option maxHeartbeats 4000000
namespace Pu
open PySem PySem.Spec L2
open PyProof.Rows hiding St Fr
section
variable {prog : Program} {w : World} {A : Around} {E : Value → Shared → Prop} {s : Shared}
theorem getItem_tuple_whole {t sl : Addr} {items : Array Value} {vl vu : Value} {lo hi : Option Int} {Q : Value → Shared → Prop} (ht : IsTup s.heap t items) (hs : s.heap.IsSliceOf sl vl vu .none) (pl : IsPart vl lo) (pu : IsPart vu hi)
    (hw : HT.sIx items.size 0 lo = 0 ∧ HT.sIx items.size items.size hi = items.size) (h : Q (.ref t) s) : wpAny (model prog w) A (getItem (.ref t) (.ref sl)) Q E s := by
  obtain ⟨os, hos, hcs, hds⟩ := id hs
  have hTs : s.TypeIs (.ref sl) "slice" := ⟨os, hos, hcs⟩
  unfold getItem
  try with_reducible refine wpAny_holding ?_
  first | refine wpAny_bind (wpAny_pure ?_) | skip
  refine wpAny_bind (wpAny_sequenceKey ht.typeIs (by decide) ?_)
  refine wpAny_bind (wpAny_callSpecial?_slot (name := Str.ofString "__getitem__") ht.typeIs PyProof.Rows.slot_tuple_getitem
    (wpAny_call_entry PyProof.Rows.slot_tuple_getitem ht.typeIs entry_tuple_getitem ?_ (args_tuple_getitem _ _)))
  show wpAny _ _ (Builtin.Tuple.tupleItemsOf (.ref t) >>= _) _ _ s
  refine wpAny_bind (tupleItemsOf_ ht ?_)
  refine wpAny_bind (wpAny_typeOf hTs ?_)
  rw [if_pos (by decide)]
  refine wpAny_bind (HT.sliceApplied_gen hs pl pu ?_)
  have hyes : (((HT.sIx items.size 0 lo : Nat) : Int) == 0 && (1 : Int) == 1 && (HT.sIx items.size items.size hi - HT.sIx items.size 0 lo) == items.size) = true := by
    rw [hw.1, hw.2]; simp
  show wpAny _ _ (if (((HT.sIx items.size 0 lo : Nat) : Int) == 0 && (1 : Int) == 1 && (HT.sIx items.size items.size hi - HT.sIx items.size 0 lo) == items.size) = true then _ else _) _ _ s
  rw [if_pos hyes]
  unfold Builtin.Tuple.tupleIsExact
  refine wpAny_bind (wpAny_bind (wpAny_typeOf ht.typeIs (wpAny_pure ?_)))
  rw [if_pos (by decide)]
  refine wpAny_bind (wpAny_rule ?_)
  exact wpAny_bind (wpAny_pure (wpAny_pure ⟨_, rfl, wpAny_pure h⟩))
end
def rSlTW (K : PySem.W.Frag) : V → Option Int → Option Int → Hp → VK → Prop := fun x lo hi H Q => ∃ a xs, x = .ref a ∧ SqT K H a xs ∧ (HT.sIx xs.length 0 lo = 0 ∧ HT.sIx xs.length xs.length hi = xs.length) ∧ Q (.ref a) H
def tMO (K : PySem.W.Frag) (f : PSt → M (Option Int)) : TO := fun σ H Q => ∃ ι ρ C r C', SR K ι H ρ σ C ∧ f ρ C = some (r, C') ∧ ∀ H', Fr ι H H' → CR K ι H' C' → Q r H'
def OM (X : Cx) (e : Option Expr) (f : PSt → M (Option Int)) : Prop := PO X e (tMO X.K f)
def oNo : PSt → M (Option Int) := fun _ => ret none
def intD (C : Cs) (x : SV) : Option (Option Int) := match deref C x with
  | some (.int i) => some (some i)
  | _ => none
def oPart (f : PSt → M SV) : PSt → M (Option Int) := fun ρ => bnd (f ρ) fun x => opM fun C => intD C x
def cutP (xs : List PV) (lo hi : Option Int) : List PV := (xs.drop (HT.sIx xs.length 0 lo)).take (HT.sIx xs.length xs.length hi - HT.sIx xs.length 0 lo)
def sliceP (lo hi : Option Int) : PV → Option PV
  | .lst xs => some (.lst (cutP xs lo hi))
  | .tup xs => some (.tup (cutP xs lo hi))
  | _ => none
def sliceD (C : Cs) (x : SV) (lo hi : Option Int) : Option SV := match deref C x with
  | some p => (sliceP lo hi p).map .v
  | none => none
def mSlice (f : PSt → M SV) (l h : PSt → M (Option Int)) : PSt → M SV := fun ρ => bnd (f ρ) fun x => bnd (l ρ) fun lo => bnd (h ρ) fun hi => opM fun C => sliceD C x lo hi
theorem reps_cut {K : PySem.W.Frag} {ι : List Addr} {H : Hp} {ps : List PV} {vs : List V} (r : Reps K ι H ps vs) (lo hi : Option Int) : Reps K ι H (cutP ps lo hi) (cutV vs lo hi) := by
  unfold cutP cutV
  rw [r.length]
  exact (r.drop _).take _
theorem sliceD_some {C : Cs} {x z : SV} {lo hi : Option Int} (h : sliceD C x lo hi = some z) : (∃ xs, deref C x = some (.lst xs) ∧ z = .v (.lst (cutP xs lo hi))) ∨ ∃ xs, deref C x = some (.tup xs) ∧ z = .v (.tup (cutP xs lo hi)) := by
  unfold sliceD at h
  split at h
  · rename_i p hd
    cases p with
    | lst xs => cases h; exact .inl ⟨xs, hd, rfl⟩
    | tup xs => cases h; exact .inr ⟨xs, hd, rfl⟩
    | _ => cases h
  · cases h
section
variable {X : Cx} {a b e c o i : Expr} {es : List Expr} {fa fb fc fo fi fv : PSt → M SV} {fs : PSt → M (List SV)} {pos p apos cpos p2 : Pos} {x : Str} {lo hi : Option Expr} {l h : PSt → M (Option Int)}
theorem PO.imp {e : Option Expr} {t t' : TO} (h : PO X e t) (k : ∀ σ H Q, t' σ H Q → t σ H Q) : PO X e t' := fun pins s σ H Q I q => h pins s σ H Q I (k σ H Q q)
theorem om_none : OM X none oNo := PO.imp po_none fun σ H Q ⟨ι, ρ, C, r, C', sr, e, q⟩ => by cases e; exact q H .refl sr.cr
theorem om_some (he : EM X e fa) : OM X (some e) (oPart fa) := PO.imp (po_some he) fun σ H Q ⟨ι, ρ, C, r, C', sr, e, q⟩ => by
  obtain ⟨z, C1, e1, g1⟩ := bnd_some e
  obtain ⟨e2, hC⟩ := opM_some g1
  subst hC
  refine ⟨ι, ρ, C, z, _, sr, e1, fun v H1 f1 c1 r1 => ?_⟩
  unfold intD at e2
  split at e2
  · rename_i j hd
    cases e2
    have l := r1.lies c1 hd
    cases l
    exact ⟨j, rfl, q H1 f1 c1⟩
  · cases e2
theorem sl_tupW : SlR X (rSlTW X.K) := by
  intro pins s σ H x v vl vu lo hi sl Q I rx hs pl pu h
  obtain ⟨a, xs, rfl, hx, hw, q⟩ := h
  cases rx
  obtain ⟨its, r, ht, hz⟩ := I.tuple hx
  have hlen : its.toArray.size = xs.length := by rw [List.size_toArray]; exact r.length.symm
  exact ⟨"tuple", _, PyProof.Rows.slot_tuple_getitem.lookup, ht.typeIs, getItem_tuple_whole ht hs pl pu (by rw [hlen]; exact hw) ⟨.ref a, H, I, rfl, q⟩⟩
theorem cut_whole {xs : List PV} {lo hi : Option Int} (h : HT.sIx xs.length 0 lo = 0 ∧ HT.sIx xs.length xs.length hi = xs.length) : cutP xs lo hi = xs := by
  unfold cutP; rw [h.1, h.2]; simp
theorem em_slice (he : EM X e fa) (hl : OM X lo l) (hh : OM X hi h) : EM X (.Subscript e (.Slice lo hi none p2) pos) (mSlice fa l h) :=
  PE.imp (pe_slice (SlR.or sl_list (SlR.or sl_tup sl_tupW)) he hl hh) fun σ H Q ⟨ι, ρ, C, z, C', sr, e, q⟩ => by
    obtain ⟨x, C1, e1, g1⟩ := bnd_some e
    obtain ⟨i, C2, e2, g2⟩ := bnd_some g1
    obtain ⟨j, C3, e3, g3⟩ := bnd_some g2
    obtain ⟨e4, hC⟩ := opM_some g3
    subst hC
    clear e g1 g2 g3
    refine ⟨ι, ρ, C, x, C1, sr, e1, fun v H1 f1 c1 r1 => ⟨ι, ρ, C1, i, C2, sr.step f1 c1, e2, fun H2 f2 c2 => ⟨ι, ρ, C2, j, _, (sr.step f1 c1).step f2 c2, e3, fun H3 f3 c3 => ?_⟩⟩⟩
    have fr := f1.trans (f2.trans f3)
    have r3 := (r1.mono c1 f2).mono c2 f3
    rcases sliceD_some e4 with ⟨xs, hd, rfl⟩ | ⟨xs, hd, rfl⟩
    · obtain ⟨a, vs, rfl, h1, rv⟩ := liesL (r3.lies c3 hd)
      exact .inl ⟨a, vs, rfl, h1, fun p hp => q _ _ (fr.trans (Fr.new hp)) (c3.new hp) (show Rep _ _ _ _ _ from new_val c3 hp (reps_cut rv i j))⟩
    · obtain ⟨a, vs, rfl, h1, rv⟩ := liesT (r3.lies c3 hd)
      by_cases hw : HT.sIx vs.length 0 i = 0 ∧ HT.sIx vs.length vs.length j = vs.length
      · refine .inr (.inr ⟨a, vs, rfl, h1, hw, ?_⟩)
        rw [← rv.length] at hw
        rw [cut_whole hw] at q
        exact q _ H3 fr c3 (show Rep _ _ _ _ _ by unfold Rep; exact ⟨a, vs, rfl, h1, rv⟩)
      · exact .inr (.inl ⟨a, vs, rfl, h1, hw, fun p hp => q _ _ (fr.trans (Fr.new hp)) (c3.new hp) (show Rep _ _ _ _ _ from new_tup hp (reps_cut rv i j))⟩)
def flatP : PV → Bool
  | .non => true
  | .bl _ => true
  | .int _ => true
  | .str _ => true
  | _ => false
def eqF : PV → PV → Bool
  | .non, .non => true
  | .bl a, .bl b => a == b
  | .bl a, .int b => (if a then 1 else 0) == b
  | .int a, .bl b => a == (if b then 1 else 0)
  | .int a, .int b => a == b
  | .str a, .str b => a == b
  | _, _ => false
def strIn (i j : Str) : Bool := !(Builtin.Str.occurrences j i 0 j.length 1).isEmpty
def inB (x : PV) : PV → Option Bool
  | .str j => match x with
    | .str i => some (strIn i j)
    | _ => none
  | .lst xs => if flatP x && xs.all flatP then some (xs.any fun y => eqF y x) else none
  | .tup xs => if flatP x && xs.all flatP then some (xs.any fun y => eqF y x) else none
  | _ => none
def inP (x y : PV) : Option PV := (inB x y).map .bl
def notInP (x y : PV) : Option PV := (inB x y).map fun b => .bl (!b)
theorem flat_rep {K : PySem.W.Frag} {ι : List Addr} {H : Hp} {q : PV} {v : V} (r : Lies K ι H q v) (h : flatP q = true) : flatV v = true := by cases r <;> first | rfl | cases h
theorem eqF_rep {K : PySem.W.Frag} {ι : List Addr} {H : Hp} {q r : PV} {v w : V} (h1 : Lies K ι H q v) (h2 : Lies K ι H r w) (f1 : flatP q = true) (f2 : flatP r = true) : eqV v w = eqF q r := by
  cases h1 <;> cases h2 <;> first | rfl | cases f1 | cases f2
theorem flats_rep {K : PySem.W.Frag} {ι : List Addr} {H : Hp} {x : PV} {vx : V} (lx : Lies K ι H x vx) (fx : flatP x = true) : ∀ {ps : List PV} {vs : List V}, Reps K ι H ps vs → ps.all flatP = true → vs.all flatV = true ∧ inV vx vs = ps.any fun y => eqF y x
  | [], vs, r, h => by rw [r.inv0]; exact ⟨rfl, rfl⟩
  | q :: ps, vs, r, h => by
    obtain ⟨v, w, rfl, h1, h2⟩ := r.inv
    rw [List.all_cons, Bool.and_eq_true] at h
    obtain ⟨k1, k2⟩ := flats_rep lx fx h2 h.2
    refine ⟨by rw [List.all_cons, flat_rep (Rep.lies h1) h.1, k1]; rfl, ?_⟩
    unfold inV at k2 ⊢
    rw [List.any_cons, List.any_cons, k2, eqF_rep (Rep.lies h1) lx h.1 fx]
theorem in_ok : L2ok X.K (fun x y H Q => (∃ i j, x = .str i ∧ y = .str j ∧ Q (.bl (!(Builtin.Str.occurrences j i 0 j.length 1).isEmpty)) H) ∨ rIn X.K false x y H Q) inP := by
  intro ι H C p q vx vy z Q cr lx ly e k
  unfold inP at e
  cases hb : inB p q with
  | none => rw [hb] at e; cases e
  | some b =>
    rw [hb] at e; cases e
    unfold inB at hb
    split at hb
    · split at hb
      · cases hb; cases lx; cases ly; exact .inl ⟨_, _, rfl, rfl, k _ H .refl cr repBl⟩
      · cases hb
    · split at hb
      · rename_i xs hf
        cases hb
        rw [Bool.and_eq_true] at hf
        obtain ⟨a, vs, rfl, h1, rv⟩ := liesL ly
        obtain ⟨k1, k2⟩ := flats_rep lx hf.1 rv hf.2
        exact .inr ⟨a, vs, rfl, .inl h1, flat_rep lx hf.1, k1, by rw [if_neg Bool.false_ne_true, k2]; exact k _ H .refl cr repBl⟩
      · cases hb
    · split at hb
      · rename_i xs hf
        cases hb
        rw [Bool.and_eq_true] at hf
        obtain ⟨a, vs, rfl, h1, rv⟩ := liesT ly
        obtain ⟨k1, k2⟩ := flats_rep lx hf.1 rv hf.2
        exact .inr ⟨a, vs, rfl, .inr h1, flat_rep lx hf.1, k1, by rw [if_neg Bool.false_ne_true, k2]; exact k _ H .refl cr repBl⟩
      · cases hb
    · cases hb
theorem notIn_ok : L2ok X.K (fun x y H Q => (∃ i j, x = .str i ∧ y = .str j ∧ Q (.bl (!(!(Builtin.Str.occurrences j i 0 j.length 1).isEmpty))) H) ∨ rIn X.K true x y H Q) notInP := by
  intro ι H C p q vx vy z Q cr lx ly e k
  unfold notInP at e
  cases hb : inB p q with
  | none => rw [hb] at e; cases e
  | some b =>
    rw [hb] at e; cases e
    unfold inB at hb
    split at hb
    · split at hb
      · cases hb; cases lx; cases ly; exact .inl ⟨_, _, rfl, rfl, k _ H .refl cr repBl⟩
      · cases hb
    · split at hb
      · rename_i xs hf
        cases hb
        rw [Bool.and_eq_true] at hf
        obtain ⟨a, vs, rfl, h1, rv⟩ := liesL ly
        obtain ⟨k1, k2⟩ := flats_rep lx hf.1 rv hf.2
        exact .inr ⟨a, vs, rfl, .inl h1, flat_rep lx hf.1, k1, by rw [if_pos rfl, k2]; exact k _ H .refl cr repBl⟩
      · cases hb
    · split at hb
      · rename_i xs hf
        cases hb
        rw [Bool.and_eq_true] at hf
        obtain ⟨a, vs, rfl, h1, rv⟩ := liesT ly
        obtain ⟨k1, k2⟩ := flats_rep lx hf.1 rv hf.2
        exact .inr ⟨a, vs, rfl, .inr h1, flat_rep lx hf.1, k1, by rw [if_pos rfl, k2]; exact k _ H .refl cr repBl⟩
      · cases hb
    · cases hb
theorem op_inAll : OpR X (compareOp .In) (fun x y H Q => (∃ i j, x = .str i ∧ y = .str j ∧ Q (.bl (!(Builtin.Str.occurrences j i 0 j.length 1).isEmpty)) H) ∨ rIn X.K false x y H Q) := OpR.or op_in_str op_in_seq
theorem op_notInAll : OpR X (compareOp .NotIn) (fun x y H Q => (∃ i j, x = .str i ∧ y = .str j ∧ Q (.bl (!(!(Builtin.Str.occurrences j i 0 j.length 1).isEmpty))) H) ∨ rIn X.K true x y H Q) := OpR.or op_notin_str op_notIn_seq
def Mtok (K : PySem.W.Frag) (r : V → List V → Hp → VK → Prop) (h : PV → List PV → Option PV) : Prop :=
  ∀ (ι : List Addr) (H : Hp) (C : Cs) (q : PV) (v : V) (ps : List PV) (vs : List V) (z : PV) (Q : VK), CR K ι H C → Lies K ι H q v → LiesAll K ι H ps vs → h q ps = some z → (∀ v H', Fr ι H H' → CR K ι H' C → Rep K ι H' z v → Q v H') → r v vs H Q
def tyP (T : String) : PV → Bool
  | .str _ => T == "str"
  | .int _ => T == "int"
  | .lst _ => T == "list"
  | .dct _ _ => T == "dict"
  | _ => false
def isTy (T : String) (x : SV) : M Unit := fun C => match deref C x with
  | some q => if tyP T q then some ((), C) else none
  | none => none
def mtD (h : PV → List PV → Option PV) (C : Cs) (x : SV) (xs : List SV) : Option SV := match deref C x, derefs C xs with
  | some q, some ps => (h q ps).map .v
  | _, _ => none
def mMt (T : String) (h : PV → List PV → Option PV) (fo : PSt → M SV) (fs : PSt → M (List SV)) : PSt → M SV := fun ρ => bnd (fo ρ) fun x => bnd (isTy T x) fun _ => bnd (fs ρ) fun xs => opM fun C => mtD h C x xs
theorem lies_ty {K : PySem.W.Frag} {ι : List Addr} {H : Hp} {T : String} {q : PV} {v : V} (l : Lies K ι H q v) (h : tyP T q = true) : tyV K T v H := by
  cases l with
  | str y hy => exact eq_of_beq (by simpa [tyP] using h)
  | int y => exact eq_of_beq (by simpa [tyP] using h)
  | lst h1 r => exact .inl ⟨eq_of_beq (by simpa [tyP] using h), _, h1⟩
  | dct h1 hl r => exact .inr (.inr (.inl ⟨eq_of_beq (by simpa [tyP] using h), .inl ⟨_, h1⟩⟩))
  | _ => cases h
theorem em_mt {T id : String} {name : Str} {r : V → List V → Hp → VK → Prop} {h : PV → List PV → Option PV} (pa : PlainAttrs T) (slot : Slot T name id) (hty : typeOf (.builtin id) = pure (.type "method_descriptor")) (hm : MtR X id r) (hk : Mtok X.K r h)
    (ho : EM X o fo) (ha : AM X (e :: es) fs) (hbase : attributeBase o name X.env (eval o X.env) = eval o X.env := by rfl)
    (hfew : ((backTo cpos (starEach (e :: es) X.env)).all (fun x => !x.1) && (backToKw cpos (keywordEach [] X.env)).all (fun x => x.1.isSome)
      && decide ((e :: es).length + ([] : List Keyword).length + (if ([] : List Keyword).isEmpty then 0 else 1) < 30)) = true := by rfl)
    (hline : (apos.endLine == cpos.line) = true := by rfl) (hs : starEach (e :: es) X.env = (false, eval e X.env) :: starEach es X.env := by rfl) (hplain : (backTo cpos (starEach es X.env)).any (·.1) = false := by rfl) :
    EM X (.Call (.Attribute o name apos) (e :: es) [] cpos) (mMt T h fo fs) :=
  PE.imp (pe_bm pa slot hty hm ho ha hbase hfew hline hs hplain) fun σ H Q ⟨ι, ρ, C, z, C', sr, e, q⟩ => by
    obtain ⟨x, C1, e1, g1⟩ := bnd_some e
    obtain ⟨u, C2, e2, g2⟩ := bnd_some g1
    obtain ⟨xs, C3, e3, g3⟩ := bnd_some g2
    obtain ⟨e4, hC⟩ := opM_some g3
    subst hC
    clear e g1 g2 g3
    refine ⟨ι, ρ, C, x, C1, sr, e1, fun v H1 f1 c1 r1 => ?_⟩
    unfold isTy at e2
    split at e2
    · rename_i q0 hd0
      split at e2
      · rename_i ht
        cases e2
        refine ⟨lies_ty (r1.lies c1 hd0) ht, ι, ρ, _, xs, _, sr.step f1 c1, e3, fun vs H2 f2 c2 r2 => ?_⟩
        unfold mtD at e4
        split at e4
        · rename_i q1 ps hd1 hds
          cases hz : h q1 ps with
          | none => rw [hz] at e4; cases e4
          | some z1 =>
            rw [hz] at e4; cases e4
            exact hk ι H2 _ q1 v ps vs z1 Q c2 ((r1.mono c1 f2).lies c2 hd1) (derefs_lies c2 r2 hds) hz fun v' H3 f3 c3 r3 => q v' H3 (f1.trans (f2.trans f3)) c3 r3
        · cases e4
      · cases e2
    · cases e2
end
end Pu

set_option Elab.async false
set_option linter.all false
set_option maxRecDepth 100000
set_option maxHeartbeats 4000000
namespace Pu
open PySem PySem.Spec L2
open PyProof.Rows hiding St Fr
section
variable {X : Cx} {a b e c o i : Expr} {es : List Expr} {fa fb fc fo fi fv : PSt → M SV} {fs : PSt → M (List SV)} {pos p apos cpos p2 : Pos} {x : Str}
def strsP : List PV → Option (List Str)
  | [] => some []
  | .str b :: r => (strsP r).map (b :: ·)
  | _ :: _ => none
theorem strs_rep {K : PySem.W.Frag} {ι : List Addr} {H : Hp} : ∀ {ps : List PV} {vs : List V} {bs : List Str}, Reps K ι H ps vs → strsP ps = some bs → vs = bs.map V.str
  | [], vs, bs, r, e => by cases e; rw [r.inv0]; rfl
  | p :: ps, vs, bs, r, e => by
    obtain ⟨v, w, rfl, h1, h2⟩ := r.inv
    cases p with
    | str b =>
      unfold strsP at e
      cases hb : strsP ps with
      | none => rw [hb] at e; cases e
      | some cs =>
        rw [hb] at e; cases e
        have h1 : v = .str b := by unfold Rep at h1; exact h1.1
        rw [h1, strs_rep h2 hb]; rfl
    | _ => cases e
def joinH : PV → List PV → Option PV
  | .str z, [.lst xs] => match strsP xs with
    | some ys => if (ys.map (·.length)).sum + ys.length * z.length ≤ 1000000 then some (.str (Txt.join z ys)) else none
    | none => none
  | _, _ => none
theorem join_len (z : Str) (ys : List Str) : (Txt.join z ys).length ≤ (ys.map (·.length)).sum + ys.length * z.length := by
  have e : (Txt.join z ys).length = (ys.map (·.length)).sum + (ys.length - 1) * z.length := size_glued z ys
  rw [e]
  exact Nat.add_le_add_left (Nat.mul_le_mul_right _ (Nat.sub_le _ _)) _
theorem join_ok : Mtok X.K (fun x xs H Q => ∃ (z : Str) (p : Addr) (ys : List Str), x = .str z ∧ xs = [.ref p] ∧ SqL X.K H p (ys.map V.str) ∧ (ys.map (·.length)).sum + ys.length * z.length ≤ 16777216 ∧ Q (.str (Txt.join z ys)) H) joinH := by
  intro ι H C q v ps vs z Q cr lq ls e k
  unfold joinH at e
  split at e
  · rename_i z0 xs
    split at e
    · rename_i ys hy
      split at e
      · rename_i hl
        cases e
        cases ls with
        | cons l t =>
          cases t
          obtain ⟨rfl, hz⟩ := liesS lq
          obtain ⟨a, ws, rfl, h1, r1⟩ := liesL l
          exact ⟨_, a, ys, rfl, rfl, by rw [← strs_rep r1 hy]; exact h1, Nat.le_trans hl (by decide), k _ H .refl cr (repS (Nat.le_trans (join_len _ _) (k1000000 hl)))⟩
      · cases e
    · cases e
  · cases e
theorem em_join (ho : EM X o fo) (ha : AM X (e :: es) fs) (hbase : attributeBase o "join" X.env (eval o X.env) = eval o X.env := by rfl)
    (hfew : ((backTo cpos (starEach (e :: es) X.env)).all (fun x => !x.1) && (backToKw cpos (keywordEach [] X.env)).all (fun x => x.1.isSome)
      && decide ((e :: es).length + ([] : List Keyword).length + (if ([] : List Keyword).isEmpty then 0 else 1) < 30)) = true := by rfl)
    (hline : (apos.endLine == cpos.line) = true := by rfl) (hs : starEach (e :: es) X.env = (false, eval e X.env) :: starEach es X.env := by rfl) (hplain : (backTo cpos (starEach es X.env)).any (·.1) = false := by rfl) :
    EM X (.Call (.Attribute o "join" apos) (e :: es) [] cpos) (mMt "str" joinH fo fs) :=
  em_mt PySem.F.plainAttrs_str PySem.F.slot_str_join PySem.F.type_str_join mt_join join_ok ho ha hbase hfew hline hs hplain
def stripH : PV → List PV → Option PV
  | .str z, [.str y] => some (.str (Txt.stripChars z y))
  | _, _ => none
theorem strip_len (z y : Str) : (Txt.stripChars z y).length ≤ z.length := by
  unfold Txt.stripChars Txt.stripBy
  split
  · exact Nat.le_refl _
  · unfold stripped Builtin.Str.strSub
    show (Array.extract _ _ _).size ≤ z.cps.size
    rw [Array.size_extract]
    omega
theorem strip_ok : Mtok X.K (fun x xs H Q => ∃ (z y : Str), x = .str z ∧ xs = [.str y] ∧ z.length ≤ sizeLine ∧ Q (.str (Txt.stripChars z y)) H) stripH := by
  intro ι H C q v ps vs z Q cr lq ls e k
  unfold stripH at e
  split at e
  · cases e
    cases ls with
    | cons l t =>
      cases t
      obtain ⟨rfl, hz⟩ := liesS lq
      obtain ⟨rfl, hy⟩ := liesS l
      exact ⟨_, _, rfl, rfl, hz, k _ H .refl cr (repS (Nat.le_trans (strip_len _ _) hz))⟩
  · cases e
theorem em_strip (ho : EM X o fo) (ha : AM X (e :: es) fs) (hbase : attributeBase o "strip" X.env (eval o X.env) = eval o X.env := by rfl)
    (hfew : ((backTo cpos (starEach (e :: es) X.env)).all (fun x => !x.1) && (backToKw cpos (keywordEach [] X.env)).all (fun x => x.1.isSome)
      && decide ((e :: es).length + ([] : List Keyword).length + (if ([] : List Keyword).isEmpty then 0 else 1) < 30)) = true := by rfl)
    (hline : (apos.endLine == cpos.line) = true := by rfl) (hs : starEach (e :: es) X.env = (false, eval e X.env) :: starEach es X.env := by rfl) (hplain : (backTo cpos (starEach es X.env)).any (·.1) = false := by rfl) :
    EM X (.Call (.Attribute o "strip" apos) (e :: es) [] cpos) (mMt "str" stripH fo fs) :=
  em_mt PySem.F.plainAttrs_str PySem.F.slot_str_strip PySem.F.type_str_strip mt_strip strip_ok ho ha hbase hfew hline hs hplain
def indexH : PV → List PV → Option PV
  | .lst xs, [x] => if flatP x && xs.all flatP then (xs.findIdx? fun y => eqF y x).map fun (j : Nat) => .int j else none
  | _, _ => none
def rIndex (K : PySem.W.Frag) : V → List V → Hp → VK → Prop := fun x vs H Q => ∃ p xs y j, x = .ref p ∧ vs = [y] ∧ SqL K H p xs ∧ flatV y = true ∧ xs.all flatV = true ∧ (xs.findIdx? fun z => eqV z y) = some j ∧ Q (.int j) H
theorem mt_index : MtR X "list.index" (rIndex X.K) := by
  intro pins s σ H x vs v us Q I rx rv h
  obtain ⟨p, xs, y, j, rfl, rfl, hq, fy, fs, hj, q⟩ := h
  cases rx
  obtain ⟨u, rfl, ru⟩ := rv.one
  obtain ⟨its, r, pl, hz⟩ := I.list hq
  obtain ⟨⟨cls, dd, data, sl⟩, ho, hc, n, hd⟩ := id pl.isList
  simp only at hc hd
  subst hc hd
  have hl := r.length
  obtain ⟨hjl, hit, hno⟩ := List.findIdx?_eq_some_iff_getElem.mp hj
  have get : ∀ (m : Nat) (hm : m < its.toArray.size), eqU y its.toArray[m] = eqV (xs[m]'(by simpa [hl] using hm)) y := fun m hm => by
    have hm2 : m < xs.length := by simpa [hl] using hm
    obtain ⟨w, ew, rw'⟩ := r.get (i := m) (x := xs[m]) (List.getElem?_eq_getElem hm2)
    have e1 : its.toArray[m] = w := by
      have : its[m]? = some w := ew
      have hm3 : m < its.length := by simpa using hm
      rw [List.getElem?_eq_getElem hm3] at this
      simpa using Option.some.inj this
    rw [e1]
    exact eqU_of rw' (List.all_eq_true.mp fs _ (List.getElem_mem hm2))
  have hn := line63
  have hsl : sizeLine = 16777216 := sizeLine_eq
  refine call_meets PySem.F.slot_list_index ⟨_, ho, rfl⟩ PySem.F.entry_list_index (PySem.F.args_list_index_2 _ _) (SeqAt.list_indexAt p its.toArray n dd sl u (eqU y) j (by simpa [← hl] using hjl) (by omega) ?_ ?_) ⟨ho, ?_, ?_⟩
  · rw [get]; exact hit
  · intro m hm hmj
    rw [get]
    simpa using hno m hmj
  · intro w hw
    exact mem_eqAt ru fy r fs w (by simpa using hw)
  · exact ⟨.int j, H, I.tok _, ⟨_, rfl⟩, q⟩
theorem find_rep {K : PySem.W.Frag} {ι : List Addr} {H : Hp} {x : PV} {vx : V} (lx : Lies K ι H x vx) (fx : flatP x = true) : ∀ {ps : List PV} {vs : List V}, Reps K ι H ps vs → ps.all flatP = true → (vs.findIdx? fun z => eqV z vx) = ps.findIdx? fun y => eqF y x
  | [], vs, r, h => by rw [r.inv0]; rfl
  | q :: ps, vs, r, h => by
    obtain ⟨v, w, rfl, h1, h2⟩ := r.inv
    rw [List.all_cons, Bool.and_eq_true] at h
    rw [List.findIdx?_cons, List.findIdx?_cons, eqF_rep (Rep.lies h1) lx h.1 fx, find_rep lx fx h2 h.2]
theorem index_ok : Mtok X.K (rIndex X.K) indexH := by
  intro ι H C q v ps vs z Q cr lq ls e k
  unfold indexH at e
  split at e
  · rename_i xs y
    split at e
    · rename_i hf
      rw [Bool.and_eq_true] at hf
      cases hj : xs.findIdx? (fun z => eqF z y) with
      | none => rw [hj] at e; cases e
      | some j =>
        rw [hj] at e; cases e
        cases ls with
        | cons l t =>
          cases t
          obtain ⟨a, ws, rfl, h1, r1⟩ := liesL lq
          exact ⟨a, ws, _, j, rfl, rfl, h1, flat_rep l hf.1, (flats_rep l hf.1 r1 hf.2).1, by rw [find_rep l hf.1 r1 hf.2]; exact hj, k _ H .refl cr repI⟩
    · cases e
  · cases e
theorem em_index (ho : EM X o fo) (ha : AM X (e :: es) fs) (hbase : attributeBase o "index" X.env (eval o X.env) = eval o X.env := by rfl)
    (hfew : ((backTo cpos (starEach (e :: es) X.env)).all (fun x => !x.1) && (backToKw cpos (keywordEach [] X.env)).all (fun x => x.1.isSome)
      && decide ((e :: es).length + ([] : List Keyword).length + (if ([] : List Keyword).isEmpty then 0 else 1) < 30)) = true := by rfl)
    (hline : (apos.endLine == cpos.line) = true := by rfl) (hs : starEach (e :: es) X.env = (false, eval e X.env) :: starEach es X.env := by rfl) (hplain : (backTo cpos (starEach es X.env)).any (·.1) = false := by rfl) :
    EM X (.Call (.Attribute o "index" apos) (e :: es) [] cpos) (mMt "list" indexH fo fs) :=
  em_mt PySem.F.plainAttrs_list PySem.F.slot_list_index PySem.F.type_list_index mt_index index_ok ho ha hbase hfew hline hs hplain
def keyP : PV → Option Key
  | .int i => some (.inl i)
  | .str z => some (.inr z)
  | _ => none
theorem keyP_kP (k : Key) : keyP (kP k) = some k := by cases k <;> rfl
def lookP : List PV → List PV → Key → Option PV
  | k :: ks, v :: vs, q => if keyP k = some q then some v else lookP ks vs q
  | _, _, _ => none
theorem look_rep {K : PySem.W.Frag} {ι : List Addr} {H : Hp} {q : Key} : ∀ {qs : List Key} {ps : List PV} {vs : List V}, qs.length = vs.length → Reps K ι H ps vs →
    (∀ z, lookP (qs.map kP) ps q = some z → ∃ v, valV (qs.zip vs) q = some v ∧ Rep K ι H z v) ∧ (lookP (qs.map kP) ps q = none → valV (qs.zip vs) q = none)
  | [], ps, vs, hl, r => by
    refine ⟨fun z h => ?_, fun _ => rfl⟩
    cases ps <;> cases h
  | k :: qs, [], vs, hl, r => by rw [r.inv0] at hl; cases hl
  | k :: qs, p :: ps, vs, hl, r => by
    obtain ⟨v, w, rfl, h1, h2⟩ := r.inv
    have ih := look_rep (q := q) (qs := qs) (ps := ps) (vs := w) (by simpa using hl) h2
    rw [List.map_cons, List.zip_cons_cons]
    unfold lookP
    rw [keyP_kP]
    by_cases h : k = q
    · subst h
      rw [if_pos rfl, valV_pos (p := (k, v)) rfl]
      exact ⟨fun z e => by cases e; exact ⟨v, rfl, h1⟩, fun e => nomatch e⟩
    · rw [if_neg (fun e => h (Option.some.inj e)), valV_neg (p := (k, v)) h]
      exact ih
theorem lies_key {K : PySem.W.Frag} {ι : List Addr} {H : Hp} {x : PV} {v : V} {q : Key} (l : Lies K ι H x v) (h : keyP x = some q) : v = kV q := by
  cases l <;> first | (cases h; rfl) | cases h
theorem liesD {K : PySem.W.Frag} {ι : List Addr} {H : Hp} {ks ps : List PV} {v : V} (l : Lies K ι H (.dct ks ps) v) : ∃ (a : Addr) (qs : List Key) (vs : List V), v = .ref a ∧ ks = qs.map kP ∧ H a = some (.dK (qs.zip vs)) ∧ qs.length = vs.length ∧ Reps K ι H ps vs := by
  cases l; exact ⟨_, _, _, rfl, rfl, by assumption, by assumption, by assumption⟩
def rDGet : R2 := fun x y H Q => ∃ a v, x = .ref a ∧ DGet H a y (some v) ∧ Q v H
theorem ix_dict (hu : X.A.units + 1 < cLine) : IxR X rDGet := by
  intro value slice pins s σ H x y v u Q I rx ry h hs
  obtain ⟨a, w, rfl, g, q⟩ := h
  cases rx
  exact tail_any (dict_typeIs I g) PySem.F.slot_dict_getitem.lookup (d_getItem hu I g ry fun w' s' I' r' => ⟨w, H, I', r', q⟩) hs
def ixQ (x y : PV) : Option PV := match x with
  | .dct ks vs => match keyP y with
    | some q => lookP ks vs q
    | none => none
  | x => ixP x y
theorem ixQ_ok : L2ok X.K (fun x y H Q => rIx X.K x y H Q ∨ rDGet x y H Q) ixQ := by
  intro ι H C p q vx vy z Q cr lx ly e k
  unfold ixQ at e
  split at e
  · rename_i ks vs
    split at e
    · rename_i key hk
      obtain ⟨a, qs, ws, rfl, rfl, hd, hl, r⟩ := liesD lx
      obtain ⟨v, hv, rv⟩ := (look_rep hl r).1 z e
      rw [lies_key ly hk]
      exact .inr ⟨a, v, rfl, by rw [← hv]; exact DGet.k hd, k v H .refl cr rv⟩
    · cases e
  · exact .inl (ix_ok ι H C p q vx vy z Q cr lx ly e k)
theorem em_ixA (hu : X.A.units + 1 < cLine) (ha : EM X a fa) (hb : EM X b fb) (hs : PlainIx b := by exact fun _ _ => rfl) : EM X (.Subscript a b pos) (mOp (g2 ixQ) fa fb) := em_ix (IxR.or ix_seq (ix_dict hu)) ixQ_ok.r ha hb hs
def getH : PV → List PV → Option PV
  | .dct ks vs, [k] => match keyP k with
    | some q => some ((lookP ks vs q).getD .non)
    | none => none
  | _, _ => none
def rGet1 : V → List V → Hp → VK → Prop := fun x vs H Q => ∃ a y o, x = .ref a ∧ vs = [y] ∧ (∃ kvs k, H a = some (.dK kvs) ∧ y = kV k ∧ o = valV kvs k) ∧ Q (o.getD .non) H
theorem mt_get1 : MtR X "dict.get" rGet1 := by
  intro pins s σ H x vs v us Q I rx rv h
  obtain ⟨a, y, o, rfl, rfl, ⟨kvs, k, e, rfl, rfl⟩, q⟩ := h
  cases rx
  obtain ⟨u, rfl, ru⟩ := rv.one
  obtain ⟨z, hd, ws, rel, dd⟩ := dk_of I.hok e
  refine call_meetsIn PySem.F.slot_dict_get dd.typeIs PySem.F.entry_dict_get (PySem.F.args_dict_get_2 _ _) (meets_dict_get (mixKind X.prog X.w) a (kV_is ru) hd) ⟨_, dd.mapOf, ?_⟩
  have rr := rel.val k
  refine ⟨(valV kvs k).getD .non, H, I.tok _, ?_, q⟩
  cases h1 : valV kvs k with
  | none =>
    rw [h1] at rr
    cases h2 : valueAt ws k with
    | none => exact rfl
    | some w => rw [h2] at rr; exact rr.elim
  | some w =>
    rw [h1] at rr
    cases h2 : valueAt ws k with
    | none => rw [h2] at rr; exact rr.elim
    | some w' => rw [h2] at rr; exact rr
theorem get1_ok : Mtok X.K rGet1 getH := by
  intro ι H C q v ps vs z Q cr lq ls e k
  cases ls with
  | nil => cases q <;> cases e
  | @cons p0 v0 ps0 vs0 l t =>
    cases q with
    | dct ks ws =>
      cases t with
      | nil =>
        replace e : (match keyP p0 with | some q => some ((lookP ks ws q).getD .non) | none => none) = some z := e
        split at e
        · rename_i key hk
          cases e
          obtain ⟨a, qs, us, rfl, rfl, hd, hl, r⟩ := liesD lq
          refine ⟨a, _, _, rfl, rfl, ⟨_, key, hd, lies_key l hk, rfl⟩, ?_⟩
          cases h1 : lookP (qs.map kP) ws key with
          | none => rw [(look_rep hl r).2 h1]; rw [h1] at k; exact k _ H .refl cr repN
          | some w =>
            obtain ⟨v', hv', rv'⟩ := (look_rep hl r).1 w h1
            rw [hv']; rw [h1] at k; exact k _ H .refl cr rv'
        · cases e
      | cons l2 t => cases e
    | _ => cases e
theorem em_get1 (ho : EM X o fo) (ha : AM X (e :: es) fs) (hbase : attributeBase o "get" X.env (eval o X.env) = eval o X.env := by rfl)
    (hfew : ((backTo cpos (starEach (e :: es) X.env)).all (fun x => !x.1) && (backToKw cpos (keywordEach [] X.env)).all (fun x => x.1.isSome)
      && decide ((e :: es).length + ([] : List Keyword).length + (if ([] : List Keyword).isEmpty then 0 else 1) < 30)) = true := by rfl)
    (hline : (apos.endLine == cpos.line) = true := by rfl) (hs : starEach (e :: es) X.env = (false, eval e X.env) :: starEach es X.env := by rfl) (hplain : (backTo cpos (starEach es X.env)).any (·.1) = false := by rfl) :
    EM X (.Call (.Attribute o "get" apos) (e :: es) [] cpos) (mMt "dict" getH fo fs) :=
  em_mt PySem.F.plainAttrs_dict PySem.F.slot_dict_get PySem.F.type_dict_get mt_get1 get1_ok ho ha hbase hfew hline hs hplain
theorem track {pins : List (Addr × Obj)} {σ : St} {H : Hp} {s : Shared} {d : Addr} {ob : HO} (I : Inv X pins σ H s) (hn : H d = none) (hd : X.s₀.heap.objs.size ≤ d) (hL : d ≠ X.env.locals) (hc : ∀ x c, X.env.cells.lookup x = some c → c ≠ d)
    (hp : ∀ p ∈ X.pn ++ pins, p.1 ≠ d) (new : ObjOk X.prog X.w (upd H d ob) s.heap d ob) : Inv X pins σ (upd H d ob) s := by
  have u := I.base
  refine ⟨I.ok, I.os, I.bare, ⟨u.keep, u.slot, fun b o e q hx => ?_, u.there, fun b xs e => ?_, fun b o xs e => ?_, fun b ps e => ?_⟩, I.loc, I.cell, ?_, fun x c e => ?_, fun p hp' => ?_, fun b o e => ?_, I.len⟩
  · rw [upd_ne (Nat.ne_of_lt (Nat.lt_of_lt_of_le (Heap.lt_size e) hd))]; exact u.free b o e q hx
  · rw [upd_ne (ne_of_none (u.tups b xs e) hn)]; exact u.tups b xs e
  · rw [upd_ne (ne_of_none (u.frzs b o xs e) hn)]; exact u.frzs b o xs e
  · obtain ⟨more, q⟩ := u.tbls b ps e
    exact ⟨more, by rw [upd_ne (ne_of_none q hn)]; exact q⟩
  · rw [upd_ne (Ne.symm hL)]; exact I.free
  · rw [upd_ne (hc x c e)]; exact I.freeC x c e
  · obtain ⟨h1, h2, h3⟩ := I.pin p hp'
    exact ⟨h1, by rw [upd_ne (hp p hp')]; exact h2, h3⟩
  · by_cases hb : b = d
    · subst hb
      rw [upd_same] at e; cases e; exact new
    · rw [upd_ne hb] at e
      exact (I.hok b o e).stay (fun _ _ _ q => q) (fun c q => by rw [upd_ne (ne_of_none q hn)]; exact q) fun c xs q => by rw [upd_ne (ne_of_none q hn)]; exact q
theorem DictOf_empty {P : Program} {w : World} {h : Heap} {d : Addr} (e : h.get? d = some { cls := .type "dict", data := .dict #[] }) : h.DictOf (mixKind P w) d [] := by
  have hn := Heap.DictOf.new (knd := mixKind P w) { h with objs := #[] }
  obtain ⟨o, es, ep, h1, h2, h3, h4⟩ := hn
  rw [Heap.get?_push_size _ rfl] at h1
  cases h1
  exact ⟨_, es, ep, e, h2, h3, h4⟩
def PRel : List Str → List V → List (Value × Value) → Prop
  | [], [], [] => True
  | k :: ks, v :: vs, (u, w) :: r => keyIs (.inr k) u = true ∧ RelV v w ∧ PRel ks vs r
  | _, _, _ => False
def DP (X : Cx) (ks : List (Option Expr)) (es : List Expr) (keys : List Str) (t : TA) : Prop :=
  ∀ (pos : Pos) (pins : List (Addr × Obj)) (s : Shared) (σ : St) (H : Hp) (Q : List V → Hp → Prop), Inv X pins σ H s → t σ H Q →
    wpAny (model X.prog X.w) X.A (evalPairs (pairTrees ks es X.env pos)) (fun us s' => ∃ vs H', Inv X pins σ H' s' ∧ PRel keys vs us ∧ Q vs H') X.xe s
def DM (X : Cx) (ks : List (Option Expr)) (es : List Expr) (keys : List Str) (f : PSt → M (List SV)) : Prop := DP X ks es keys (tMA X.K f)
theorem dm_nil : DM X [] [] [] aNil := fun pos pins s σ H Q I ⟨ι, ρ, C, r, C', sr, e, q⟩ => by
  cases e
  exact PySem.pairTrees_nil_walk ⟨[], H, I, trivial, q [] H .refl sr.cr rfl⟩
theorem dm_cons {k : Str} {j1 : Nat} {p1 : Pos} {ks : List (Option Expr)} {keys : List Str} (h : EM X e fa) (t : DM X ks es keys fs) : DM X (some (.Constant (.str k) j1 p1) :: ks) (e :: es) (k :: keys) (aCons fa fs) := by
  intro pos pins s σ H Q I ⟨ι, ρ, C, r, C', sr, e, q⟩
  obtain ⟨x, C1, e1, g1⟩ := bnd_some e
  obtain ⟨xs, C2, e2, g2⟩ := bnd_some g1
  cases g2
  refine PySem.pairTrees_cons_walk (Calls.Constant_str ?_)
  refine thn (h pins _ σ H (fun v H1 => Fr ι H H1 ∧ CR X.K ι H1 C1 ∧ RepS X.K ι H1 x v) (I.tok _) ⟨ι, ρ, C, x, C1, sr, e1, fun v H1 f1 c1 r1 => ⟨f1, c1, r1⟩⟩) fun u s1 ⟨v, H1, I1, r1, f1, c1, rx⟩ => ?_
  refine thn (t pos pins s1 σ H1 (fun vs H2 => Fr ι H1 H2 ∧ CR X.K ι H2 C' ∧ RepSs X.K ι H2 xs vs) I1 ⟨ι, ρ, C1, xs, C', sr.step f1 c1, e2, fun vs H2 f2 c2 r2 => ⟨f2, c2, r2⟩⟩) fun us s2 ⟨vs, H2, I2, pr, f2, c2, rs⟩ => ?_
  exact ⟨v :: vs, H2, I2, ⟨keyIs_str k _, r1, pr⟩, q (v :: vs) H2 (f1.trans f2) c2 ⟨v, vs, rfl, rx.mono c1 f2, rs⟩⟩
def mDict (keys : List Str) (fs : PSt → M (List SV)) : PSt → M SV := fun ρ => bnd (fs ρ) fun xs => opM fun _ => (plain xs).map fun ps => .v (.dct (keys.map PV.str) ps)
theorem prel_carries {P : Program} {w : World} : ∀ {keys : List Str} {vs : List V} {us : List (Value × Value)}, PRel keys vs us → keys.length = vs.length ∧ us.length = keys.length ∧ ∃ kvs : List (Key × Value), Carries (mixKind P w) us kvs ∧ KV ((keys.map Sum.inr).zip vs) kvs ∧ kvs.map (·.1) = keys.map Sum.inr
  | [], [], [], _ => ⟨rfl, rfl, [], trivial, .nil, rfl⟩
  | k :: ks, v :: vs, (u, x) :: r, h => by
    obtain ⟨h1, h2, h3⟩ := h
    obtain ⟨a1, a2, kvs, a3, a4, a5⟩ := prel_carries (P := P) (w := w) h3
    exact ⟨by simp [a1], by simp [a2], (Sum.inr k, x) :: kvs, ⟨h1, rfl, a3⟩, .cons ⟨rfl, h2⟩ a4, by simp [a5]⟩
theorem em_dict {ks : List (Option Expr)} {keys : List Str} (h : DM X ks es keys fs) (nd : (keys.map (Sum.inr : Str → Key)).Nodup) (hall : ks.all (·.isSome) = true) (hl : ks.length = es.length) (h0 : ks ≠ []) (hlen : ks.length ≤ 15) (hk : keys.length = ks.length) :
    EM X (.Dict ks es pos) (mDict keys fs) := by
  intro pins s σ H Q I ⟨ι, ρ, C, z, C', sr, e, q⟩
  obtain ⟨xs, C1, e1, g1⟩ := bnd_some e
  obtain ⟨e2, hC⟩ := opM_some g1
  subst hC
  have hbig : sysModules < s.heap.objs.size := modules_low I.nolimit
  have hf : H s.heap.objs.size = none := I.hok.fresh (Nat.le_refl _)
  have I0 : Inv X pins σ H { s with heap := s.heap.push { cls := .type "dict", data := .dict #[] } } := I.kept (t' := s.toks) fun b o e => Heap.get?_push_of_some _ e
  have I1 : Inv X ((s.heap.objs.size, { cls := .type "dict", data := .dict #[] }) :: pins) σ H { s with heap := s.heap.push { cls := .type "dict", data := .dict #[] } } := I0.pins_of fun p hp => by
    rcases List.mem_cons.mp hp with rfl | hp
    · exact ⟨Heap.get?_push_size _ rfl, hf, Nat.ne_of_gt I.lt, I.nofs (Nat.le_refl _), fun v z => by cases z⟩
    · exact I0.pin p (List.mem_append_right _ hp)
  refine PySem.wpAny_Dict_walk (knd := mixKind X.prog X.w) hall hl h0 hlen ?_
  refine thn (h pos _ _ σ H (fun vs H2 => Fr ι H H2 ∧ CR X.K ι H2 C' ∧ RepSs X.K ι H2 xs vs) I1 ⟨ι, ρ, C, xs, C', sr, e1, fun vs H2 f2 c2 r2 => ⟨f2, c2, r2⟩⟩) fun us s1 ⟨vs, H1, J1, pr, f1, c1, rs⟩ => ?_
  obtain ⟨a1, a2, kvs, a3, a4, a5⟩ := prel_carries (P := X.prog) (w := X.w) pr
  have pd := J1.pin (s.heap.objs.size, _) (List.mem_append_right _ List.mem_cons_self)
  refine ⟨kvs, a3, DictOf_empty pd.1, fun h' hd hs => ?_⟩
  rw [merged_nil_of_nodup kvs (by rw [a5]; exact nd)] at hd
  have J2 : Inv X pins σ H1 s1 := J1.pins_of fun p hp => J1.pin p (List.mem_append_right _ (List.mem_cons_of_mem _ hp))
  have hcl : ∀ x c, X.env.cells.lookup x = some c → c ≠ s.heap.objs.size := fun x c e => by
    obtain ⟨v, z⟩ := I.cell x c e
    exact Nat.ne_of_lt z.lt
  have hpn : ∀ p ∈ X.pn ++ pins, p.1 ≠ s.heap.objs.size := fun p hp => Nat.ne_of_lt (Heap.lt_size (I.pin p hp).1)
  have J3 : Inv X pins σ H1 { s1 with heap := h', toks := s1.toks + us.length } := J2.turned (t' := s1.toks + us.length) (fun b o hb e => (hs.2 b hb).trans e) pd.2.1 pd.2.2.1 (.inr I.sz) hcl hpn
  have hkl : keys.length ≤ 15 := by rw [hk]; exact hlen
  have J4 := track (ob := .dK ((keys.map Sum.inr).zip vs)) J3 pd.2.1 I.sz pd.2.2.1 hcl hpn ⟨Nat.le_trans (by rw [List.length_zip]; exact Nat.le_trans (Nat.min_le_left _ _) (by rw [List.length_map]; exact hkl)) (by rw [sizeLine_eq]; decide), beq_eq_false_iff_ne.mpr (Ne.symm (Nat.ne_of_lt hbig)), kvs, a4, hd⟩
  cases hp : plain xs with
  | none => rw [hp] at e2; cases e2
  | some ps =>
    rw [hp] at e2
    cases e2
    obtain ⟨rr, hv⟩ := plain_reps hp rs
    refine ⟨.ref s.heap.objs.size, _, J4, rfl, q _ _ (f1.trans (Fr.new pd.2.1)) (c1.new pd.2.1) ?_⟩
    show Rep _ _ _ (.dct _ _) _
    unfold Rep
    refine ⟨s.heap.objs.size, keys.map Sum.inr, vs, rfl, fun z => ?_, upd_same, by rw [List.length_map]; exact a1, by rw [List.map_map]; rfl, Reps.stay (fun b o e => by rw [upd_ne (ne_of_none e pd.2.1)]; exact e) ps vs rr⟩
    rcases c1.mut z with ⟨_, e⟩ | ⟨_, e⟩
    · rw [pd.2.1] at e; cases e
    · rw [pd.2.1] at e; cases e
end
end Pu

set_option Elab.async false
set_option linter.all false
set_option maxRecDepth 100000
set_option maxHeartbeats 4000000
namespace Pu
open PySem PySem.Spec L2
open PyProof.Rows hiding St Fr
structure TopD (K : PySem.W.Frag) (w : World) (d : Addr) (tab : List (Str × Addr)) : Prop where
  ex : ∃ (es : Array DictEntry) (n : Nat), K.lookup d = some ⟨.type "dict", none, .dict es n, #[]⟩ ∧ PySem.W.KeysLit w.params es.toList ∧ Paired (fun (p : Str × Addr) (e : DictEntry) => Value.isStrOf p.1 e.key = true ∧ e.val = .ref p.2) tab es.toList
  lo : (d == sysModules) = false
theorem isStrOf_iff {x y : Str} {v : Value} (h : Value.isStrOf y v = true) : Value.isStrOf x v = decide (x = y) := by
  obtain ⟨t, rfl⟩ := Value.isStrOf_shape h
  by_cases e : x = y
  · subst e; simp [Value.isStrOf]
  · have : ¬ (y = x) := fun z => e z.symm
    simp [Value.isStrOf, e, this]
theorem tab_find {x : Str} : ∀ {tab : List (Str × Addr)} {es : List DictEntry}, Paired (fun (p : Str × Addr) (e : DictEntry) => Value.isStrOf p.1 e.key = true ∧ e.val = .ref p.2) tab es →
    (es.find? fun d => Value.isStrOf x d.key).map (·.val) = (tab.lookup x).map Value.ref
  | _, _, .nil => rfl
  | (k, f) :: tab, e :: es, .cons h t => by
    have ih := tab_find (x := x) t
    rw [List.find?_cons, List.lookup_cons, isStrOf_iff h.1]
    by_cases hx : x = k
    · subst hx
      rw [decide_eq_true rfl, beq_self_eq_true]
      simp [h.2]
    · rw [decide_eq_false hx, beq_eq_false_iff_ne.mpr hx]
      exact ih
theorem TopD.map {K : PySem.W.Frag} {w : World} {d : Addr} {tab : List (Str × Addr)} (T : TopD K w d tab) (prog : Program) {h : Heap} (X : K.In h) : h.MapOf (strKind prog w) d (fun k => (tab.lookup k).map Value.ref) := by
  obtain ⟨es, n, hl, hk, hp⟩ := T.ex
  have m := PySem.W.mapOf_K (prog := prog) X hl hk
  have e : (fun k => findBy Value.isStrOf es k) = fun k => (tab.lookup k).map Value.ref := by
    funext k
    rw [← tab_find hp]
    obtain ⟨l⟩ := es
    unfold findBy
    rw [List.find?_toArray]
  rw [← e]; exact m
section
variable {X : Cx} {a b e c o i : Expr} {es : List Expr} {fa fb fc fo fi fv : PSt → M SV} {fs : PSt → M (List SV)} {pos p apos cpos p2 : Pos} {x : Str} {d : Addr} {tab : List (Str × Addr)}
theorem em_top (hg : Gl X x) (hm : X.mg x = some (.ref d)) (hd : (x == ("__debug__" : Str)) = false := by decide) : EM X (.Name x pos) (mC (.fn d)) :=
  em_const (pe_glob (v := .ref d) hg hm rfl hd) fun ι H => by unfold Rep; rfl
def topG (d : Addr) (tab : List (Str × Addr)) (C : Cs) (x y : SV) : Option SV := match x, deref C y with
  | .v (.fn d'), some (.str k) => if d' = d then (tab.lookup k).map fun f => .v (.fn f) else none
  | _, _ => none
def topI (d : Addr) (tab : List (Str × Addr)) (neg : Bool) (C : Cs) (x y : SV) : Option SV := match y, deref C x with
  | .v (.fn d'), some (.str k) => if d' = d then some (.v (.bl (if neg then !(tab.lookup k).isSome else (tab.lookup k).isSome))) else none
  | _, _ => none
theorem ix_top (T : TopD X.K X.w d tab) : IxR X (fun x y H Q => ∃ k f, x = .ref d ∧ y = .str k ∧ tab.lookup k = some f ∧ Q (.ref f) H) := by
  intro value slice pins s σ H x y v u Q I rx ry h hs
  obtain ⟨k, f, rfl, rfl, hk, q⟩ := h
  cases rx
  obtain ⟨t, rfl⟩ := ry
  have m := T.map X.prog I.kIn
  exact tail_any m.typeIs slot_dict_getitem.lookup (wpAny_getItem_of (strKind_is X.prog X.w k t) m (by rw [hk]; rfl) ⟨.ref f, H, I.tok _, rfl, q⟩) hs
theorem topG_ok {K : PySem.W.Frag} : R2ok K (fun x y H Q => ∃ k f, x = .ref d ∧ y = .str k ∧ tab.lookup k = some f ∧ Q (.ref f) H) (topG d tab) := by
  intro ι H C x y vx vy z Q cr rx ry e k
  unfold topG at e
  split at e
  · rename_i d' key hy
    split at e
    · rename_i hd
      subst hd
      cases hf : tab.lookup key with
      | none => rw [hf] at e; cases e
      | some f =>
        rw [hf] at e
        cases e
        have rx : vx = .ref d' := by unfold RepS Rep at rx; exact rx
        obtain ⟨rfl, _⟩ := liesS (ry.lies cr hy)
        exact ⟨key, f, rx, rfl, hf, k _ H .refl cr (by unfold RepS Rep; rfl)⟩
    · cases e
  · cases e
theorem em_topix (T : TopD X.K X.w d tab) (ha : EM X a fa) (hb : EM X b fb) (hs : PlainIx b := by exact fun _ _ => rfl) : EM X (.Subscript a b pos) (mOp (topG d tab) fa fb) := em_ix (ix_top T) topG_ok ha hb hs
theorem op_topin (T : TopD X.K X.w d tab) : OpR X (compareOp .In) (fun x y H Q => ∃ k, y = .ref d ∧ x = .str k ∧ Q (.bl (tab.lookup k).isSome) H) := by
  intro pins s σ H x y v u Q I rx ry h
  obtain ⟨k, rfl, rfl, q⟩ := h
  cases ry
  obtain ⟨t, rfl⟩ := rx
  refine wpAny_in_of (strKind_is X.prog X.w k t) T.lo (T.map X.prog I.kIn) ?_
  rw [Option.isSome_map]
  exact ⟨.bl _, H, I.tok _, rfl, q⟩
theorem op_topnotin (T : TopD X.K X.w d tab) : OpR X (compareOp .NotIn) (fun x y H Q => ∃ k, y = .ref d ∧ x = .str k ∧ Q (.bl (!(tab.lookup k).isSome)) H) := by
  intro pins s σ H x y v u Q I rx ry h
  obtain ⟨k, rfl, rfl, q⟩ := h
  cases ry
  obtain ⟨t, rfl⟩ := rx
  refine wpAny_notIn_of (strKind_is X.prog X.w k t) T.lo (T.map X.prog I.kIn) ?_
  rw [Option.isSome_map]
  exact ⟨.bl _, H, I.tok _, rfl, q⟩
theorem topI_ok {K : PySem.W.Frag} : R2ok K (fun x y H Q => ∃ k, y = .ref d ∧ x = .str k ∧ Q (.bl (tab.lookup k).isSome) H) (topI d tab false) := by
  intro ι H C x y vx vy z Q cr rx ry e k
  unfold topI at e
  split at e
  · rename_i d' key hy
    split at e
    · rename_i hd
      subst hd
      cases e
      have ry : vy = .ref d' := by unfold RepS Rep at ry; exact ry
      obtain ⟨rfl, _⟩ := liesS (rx.lies cr hy)
      exact ⟨key, ry, rfl, k _ H .refl cr repB'⟩
    · cases e
  · cases e
theorem topI_okN {K : PySem.W.Frag} : R2ok K (fun x y H Q => ∃ k, y = .ref d ∧ x = .str k ∧ Q (.bl (!(tab.lookup k).isSome)) H) (topI d tab true) := by
  intro ι H C x y vx vy z Q cr rx ry e k
  unfold topI at e
  split at e
  · rename_i d' key hy
    split at e
    · rename_i hd
      subst hd
      cases e
      have ry : vy = .ref d' := by unfold RepS Rep at ry; exact ry
      obtain ⟨rfl, _⟩ := liesS (rx.lies cr hy)
      exact ⟨key, ry, rfl, k _ H .refl cr repB'⟩
    · cases e
  · cases e
def callF (T : List (Addr × (List SV → M SV))) (f : SV) (xs : List SV) : M SV := fun C => match f with
  | .v (.fn a) => match T.lookup a with
    | some F => F xs C
    | none => none
  | _ => none
def mCallV (i : Nat) (T : List (Addr × (List SV → M SV))) (fs : PSt → M (List SV)) : PSt → M SV := fun ρ => bnd (mVar i ρ) fun f => bnd (fs ρ) fun xs => callF T f xs
theorem callV_some {T : List (Addr × (List SV → M SV))} {f : SV} {xs : List SV} {C C2 : Cs} {r : SV} (h : callF T f xs C = some (r, C2)) : ∃ a F, f = .v (.fn a) ∧ T.lookup a = some F ∧ F xs C = some (r, C2) := by
  unfold callF at h
  split at h
  · split at h
    · exact ⟨_, _, rfl, by assumption, h⟩
    · cases h
  · cases h
theorem em_callV {k : Nat} {T : List (Addr × (List SV → M SV))} (i : Nat) (hok : ∀ a F, T.lookup a = some F → ∃ fd ps, FnOk X.prog X.w X.K X.mg X.base CX0 k a fd ps (liftSp X.K F) ∧ PySem.W.keepIn X.K (.ref a) = true ∧ L2.Binds X.K fd ps []) (hr : Room k X.A) (ha : AM X (e :: es) fs)
    (hN : X.N[i]? = some x := by rfl) (hv : Vis X.env.scope x := by first | exact Or.inl rfl | exact Or.inr (Or.inl rfl) | exact Or.inr (Or.inr rfl)) (hdb : (x == ("__debug__" : Str)) = false := by decide) (hcd : (x == ("__classdict__" : Str)) = false := by decide)
    (he : starEach (e :: es) X.env = (false, eval e X.env) :: starEach es X.env := by rfl) (hpl : (backTo pos (starEach es X.env)).any (·.1) = false := by rfl) :
    EM X (.Call (.Name x p) (e :: es) [] pos) (mCallV i T fs) := by
  intro pins s σ H Q I ⟨ι, ρ, C, z, C', sr, e, q⟩
  obtain ⟨f, C1, e1, g1⟩ := bnd_some e
  obtain ⟨xs, C2, e2, g2⟩ := bnd_some g1
  obtain ⟨a, F, rfl, hT, e3⟩ := callV_some g2
  obtain ⟨fd, ps, G, hk, hb⟩ := hok a F hT
  refine wpAny_Call_Name_kw (thn (em_var i hN hv hdb hcd pins s σ H (fun v H1 => Fr ι H H1 ∧ CR X.K ι H1 C1 ∧ v = .ref a) I ⟨ι, ρ, C, _, C1, sr, e1, fun v H1 f1 c1 r1 => ⟨f1, c1, by unfold RepS Rep at r1; exact r1⟩⟩) fun u s1 ⟨v, H1, I1, r1, f1, c1, hv⟩ => ?_)
  subst hv
  cases r1
  refine PySem.W.callWith_K (h₀ := X.base) I.ok.mod.kin hk (thn (ha pos pins s1 σ H1 (fun vs H2 => Fr ι H1 H2 ∧ CR X.K ι H2 C2 ∧ RepSs X.K ι H2 xs vs) I1 ⟨ι, ρ, C1, xs, C2, sr.step f1 c1, e2, fun vs H2 f2 c2 r2 => ⟨f2, c2, r2⟩⟩) fun us s2 ⟨vs, H2, I2, r2, f2, c2, rs⟩ => ⟨I2.kIn, ?_⟩) he hpl
  refine run_fn (dvs := []) (ds := []) G hr hb .nil pass0 I2 r2 ?_
  rw [List.append_nil]
  exact ⟨ι, xs, C2, z, C', c2, rs, e3, fun v H3 f3 c3 r3 => q v H3 (f1.trans (f2.trans f3)) c3 r3⟩
theorem hv_of {T : List (Addr × (List SV → M SV))} {Pd : Addr → (List SV → M SV) → Prop} (h : ∀ q ∈ T, Pd q.1 q.2) : ∀ a F, T.lookup a = some F → Pd a F := fun a F e => h (a, F) (lookup_mem e)
def mDict0 : PSt → M SV := fun _ => ret (.v (.dct [] []))
theorem em_dict0 : EM X (.Dict [] [] pos) mDict0 := PE.imp pe_dnewK fun σ H Q ⟨ι, ρ, C, z, C', sr, e, q⟩ => by
  cases e
  intro p hp
  refine q _ _ (Fr.new hp) (sr.cr.new hp) ?_
  show Rep _ _ _ (.dct [] []) _
  unfold Rep
  refine ⟨p, [], [], rfl, fun z => ?_, upd_same, rfl, rfl, .nil⟩
  rcases sr.cr.mut z with ⟨_, e⟩ | ⟨_, e⟩
  · rw [hp] at e; cases e
  · rw [hp] at e; cases e
theorem fun_ne {K : PySem.W.Frag} {x1 x2 q1 q2 : Str} {s1 s2 : Stmt} {f1 f2 : Addr} {d1 d2 : FuncData} (F1 : Fun K x1 q1 s1 f1 d1) (F2 : Fun K x2 q2 s2 f2 d2) (h : x1 ≠ x2) : f1 ≠ f2 := by
  obtain ⟨oc, od, kV, doc, pm, an, cdv, ct, osl, e1, l1, _⟩ := F1.ex
  obtain ⟨oc2, od2, kV2, doc2, pm2, an2, cdv2, ct2, osl2, e2, l2, _⟩ := F2.ex
  intro e
  subst e
  rw [l1] at l2
  injection l2 with l2
  injection l2 with _ _ l3 _
  injection l3 with l4
  rw [e1, e2] at l4
  exact h (congrArg FuncData.name l4)
end
end Pu

set_option Elab.async false
set_option linter.all false
set_option maxRecDepth 100000
set_option maxHeartbeats 4000000
namespace Pu
open PySem PySem.Spec L2
open PyProof.Rows hiding St Fr
structure NextAt (P : Program) (w : World) (it : Addr) (us : List Addr) (R : Value → Prop) (st st' : Heap → Prop) : Prop where
  item : ∀ (A : Around) (E : Value → Shared → Prop) (s : Shared) (Q : Value → Shared → Prop), st s.heap → (∀ u h' tk, R u → st' h' → Heap.SameBut it s.heap h' → Q u { s with heap := h', toks := tk }) → wpAny (model P w) A (Builtin.SmallTypes.nextOf (.ref it)) Q E s
  keep : ∀ h h' : Heap, st h → (∀ b ∈ us, ∀ o, h.get? b = some o → h'.get? b = some o) → st h'
  keep' : ∀ h h' : Heap, st' h → (∀ b ∈ us, ∀ o, h.get? b = some o → h'.get? b = some o) → st' h'
structure EndAt (P : Program) (w : World) (it : Addr) (us : List Addr) (st : Heap → Prop) : Prop where
  done : ∀ (A : Around) (E : Value → Shared → Prop) (s : Shared) (Q : Value → Shared → Prop), A.handled = none → st s.heap → (∀ h' e, Heap.ExtBut it s.heap h' → (∃ o, h'.get? e = some o ∧ o.cls = .type "StopIteration") → E (.ref e) { s with heap := h' }) → wpAny (model P w) A (Builtin.SmallTypes.nextOf (.ref it)) Q E s
  keep : ∀ h h' : Heap, st h → (∀ b ∈ us, ∀ o, h.get? b = some o → h'.get? b = some o) → st h'
structure ZApart (z TI TO i1 i2 : Addr) (us1 us2 : List Addr) : Prop where
  a1 : TI ≠ z
  a2 : TO ≠ z
  a3 : i1 ≠ z
  a4 : i2 ≠ z
  a5 : TI ≠ TO
  a6 : TI ≠ i1
  a7 : TI ≠ i2
  a8 : TO ≠ i1
  a9 : TO ≠ i2
  b1 : z ∉ us1
  b2 : TO ∉ us1
  b3 : i2 ∉ us1
  c1 : z ∉ us2
  c2 : TO ∉ us2
  c3 : i1 ∉ us2
section
variable {P : Program} {w : World} {A : Around} {E : Value → Shared → Prop} {s : Shared} {z TI TO i1 i2 : Addr} {us1 us2 : List Addr} {R1 R2 : Value → Prop} {st1 st1' st2 st2' : Heap → Prop}
theorem zip_item {a b : Value} {Q : Value → Shared → Prop} (D : ZApart z TI TO i1 i2 us1 us2) (N1 : NextAt P w i1 us1 R1 st1 st1') (N2 : NextAt P w i2 us2 R2 st2 st2')
    (hz : IsZip s.heap z TI TO .none) (hTI : IsPair s.heap TI (.ref i1) (.ref i2)) (hTO : IsPair s.heap TO a b) (h1 : st1 s.heap) (h2 : st2 s.heap)
    (hQ : ∀ x y h' tk, R1 x → R2 y → IsZip h' z TI TO (rawInt s.heap.objs.size) → IsPair h' TO x y → st1' h' → st2' h' → IsPair h' s.heap.objs.size x y → h'.objs.size = s.heap.objs.size + 1 →
      (∀ c o, c ≠ z → c ≠ TO → c ≠ i1 → c ≠ i2 → s.heap.get? c = some o → h'.get? c = some o) → Q (.ref s.heap.objs.size) { s with heap := h', toks := tk }) :
    wpAny (model P w) A (Builtin.«zip.__next__» ⟨[.ref z], []⟩) (fun fin s' => ∃ v, fin = .done (.ret v) ∧ Q v s') E s := by
  show wpAny _ _ (field (.ref z) 2 >>= _) _ _ _; refine wpAny_bind (wpAny_field hz rfl (x := .bool false) rfl ?_)
  show wpAny _ _ (field (.ref z) 3 >>= _) _ _ _; refine wpAny_bind (wpAny_field hz rfl (x := .ref TI) rfl ?_)
  refine wpAny_bind (wpAny_seqItems hTI rfl ?_); show wpAny _ _ (Builtin.SmallTypes.ownedTupleIsFree (.ref z) >>= _) _ _ _
  refine wpAny_bind ?_; unfold Builtin.SmallTypes.ownedTupleIsFree
  refine wpAny_bind (wpAny_field hz rfl (x := .none) rfl (wpAny_pure ?_)); simp only [if_true]
  refine wpAny_bind (wpAny_rule ?_); refine wpAny_bind (wpAny_field hz rfl (x := .ref TO) rfl ?_)
  refine wpAny_bind (wpAny_setField_rec hz (by simp) fun g1 hz1 hs1 => ?_); replace hz1 : IsZip g1 z TI TO .ellipsis := hz1
  refine wpAny_bind ?_; simp only [List.zipIdx_cons, List.zipIdx_nil, List.forIn_cons, List.forIn_nil]
  refine wpAny_bind (wpAny_bind (wpAny_onRaise ?_)); show wpAny _ _ (Builtin.SmallTypes.nextOf (.ref i1) >>= _) _ _ _
  have k1 : ∀ c o, c ≠ z → s.heap.get? c = some o → g1.get? c = some o := fun c o n e => hs1.extBut _ _ n e
  refine wpAny_bind (N1.item _ _ _ _ (N1.keep _ _ h1 fun b hb o e => k1 b o (fun q => D.b1 (q ▸ hb)) e) fun x g2 tk2 rx h1' hs2 => wpAny_pure ?_)
  have k2 : ∀ c o, c ≠ z → c ≠ i1 → s.heap.get? c = some o → g2.get? c = some o := fun c o n1 n2 e => hs2.extBut _ _ n2 (k1 c o n1 e)
  have hTO2 : IsPair g2 TO a b := k2 _ _ D.a2 D.a8 hTO
  refine wpAny_bind (wpAny_seqItems hTO2 rfl ?_); refine wpAny_bind (wpAny_updateSeq_pair hTO2 fun g3 hTO3 hs3 => ?_); replace hTO3 : IsPair g3 TO x b := hTO3
  have k3 : ∀ c o, c ≠ z → c ≠ i1 → c ≠ TO → s.heap.get? c = some o → g3.get? c = some o := fun c o n1 n2 n3 e => hs3.extBut _ _ n3 (k2 c o n1 n2 e)
  refine wpAny_bind (wpAny_letGo (wpAny_pure ?_)); refine wpAny_bind (wpAny_bind (wpAny_onRaise ?_)); show wpAny _ _ (Builtin.SmallTypes.nextOf (.ref i2) >>= _) _ _ _
  refine wpAny_bind (N2.item _ _ _ _ (N2.keep _ _ h2 fun b hb o e => k3 b o (fun q => D.c1 (q ▸ hb)) (fun q => D.c3 (q ▸ hb)) (fun q => D.c2 (q ▸ hb)) e) fun y g4 tk4 ry h2' hs4 => wpAny_pure ?_)
  have hTO4 : IsPair g4 TO x b := hs4.extBut _ _ D.a9 hTO3
  refine wpAny_bind (wpAny_seqItems hTO4 rfl ?_); refine wpAny_bind (wpAny_updateSeq_pair hTO4 fun g5 hTO5 hs5 => ?_); replace hTO5 : IsPair g5 TO x y := hTO5
  refine wpAny_bind (wpAny_letGo (wpAny_pure (wpAny_pure ?_))); refine wpAny_bind (wpAny_seqItems hTO5 rfl ?_); refine wpAny_bind (wpAny_newTuple ?_)
  have e1 := hs1.1; have e2 := hs2.1; have e3 := hs3.1; have e4 := hs4.1; have e5 := hs5.1
  have hsz : g5.objs.size = s.heap.objs.size := by simp only at e2 e4; rw [e5, e4, e3, e2, e1]
  have k5 : ∀ c o, c ≠ z → c ≠ TO → c ≠ i1 → c ≠ i2 → s.heap.get? c = some o → g5.get? c = some o := fun c o n1 n2 n3 n4 e => hs5.extBut _ _ n2 (hs4.extBut _ _ n4 (k3 c o n1 n3 n2 e))
  have hz5 : IsZip g5 z TI TO .ellipsis := hs5.extBut _ _ D.a2.symm (hs4.extBut _ _ D.a4.symm (hs3.extBut _ _ D.a2.symm (hs2.extBut _ _ D.a3.symm hz1)))
  have q1 : st1' g5 := N1.keep' _ _ h1' fun b hb o e => hs5.extBut _ _ (fun q => D.b2 (q ▸ hb)) (hs4.extBut _ _ (fun q => D.b3 (q ▸ hb)) (hs3.extBut _ _ (fun q => D.b2 (q ▸ hb)) e))
  have q2 : st2' g5 := N2.keep' _ _ h2' fun b hb o e => hs5.extBut _ _ (fun q => D.c2 (q ▸ hb)) e
  have ltz : z < g5.objs.size := Heap.lt_size hz5
  show wpAny _ _ (Builtin.SmallTypes.ownedTupleHandOut (.ref z) (.ref g5.objs.size) >>= _) _ _ _
  refine wpAny_bind ?_; unfold Builtin.SmallTypes.ownedTupleHandOut
  have hz6 : IsZip (g5.push { cls := .type "tuple", data := .seq #[x, y] }) z TI TO .ellipsis := Heap.get?_push_of_some _ hz5
  refine wpAny_bind (wpAny_setField_rec hz6 (by simp) fun g7 hz7 hs7 => ?_); replace hz7 : IsZip g7 z TI TO (rawInt g5.objs.size) := hz7
  refine wpAny_setField_rec hz7 (by simp) fun g8 hz8 hs8 => ?_; replace hz8 : IsZip g8 z TI TO (rawInt g5.objs.size) := hz8
  have up : ∀ c o, c ≠ z → g5.get? c = some o → g8.get? c = some o := fun c o n e => hs8.extBut _ _ n (hs7.extBut _ _ n (Heap.get?_push_of_some _ e))
  have hT8 : IsPair g8 g5.objs.size x y := hs8.extBut _ _ (Nat.ne_of_gt ltz) (hs7.extBut _ _ (Nat.ne_of_gt ltz) (Heap.get?_push_size _ rfl))
  have sz8 : g8.objs.size = g5.objs.size + 1 := by rw [hs8.1, hs7.1, Heap.size_push]
  rw [hsz] at hz8 hT8 sz8; refine wpAny_pure ⟨_, rfl, ?_⟩; show Q (.ref g5.objs.size) _; rw [hsz]
  exact hQ x y g8 _ rx ry hz8 (up _ _ D.a2 hTO5) (N1.keep' _ _ q1 fun b hb o e => up b o (fun q => D.b1 (q ▸ hb)) e) (N2.keep' _ _ q2 fun b hb o e => up b o (fun q => D.c1 (q ▸ hb)) e) hT8 sz8 fun c o n1 n2 n3 n4 e => up c o n1 (k5 c o n1 n2 n3 n4 e)
theorem zip_end {a b : Value} {Q : Fin → Shared → Prop} (hh : A.handled = none) (D : ZApart z TI TO i1 i2 us1 us2)
    (N : EndAt P w i1 us1 st1 ∨ ∃ R1 st1', NextAt P w i1 us1 R1 st1 st1' ∧ EndAt P w i2 us2 st2)
    (hz : IsZip s.heap z TI TO .none) (hTI : IsPair s.heap TI (.ref i1) (.ref i2)) (hTO : IsPair s.heap TO a b) (h1 : st1 s.heap) (h2 : st2 s.heap)
    (hE : ∀ h' e tk, (∀ c o, c ≠ z → c ≠ TO → c ≠ i1 → c ≠ i2 → s.heap.get? c = some o → h'.get? c = some o) → (∃ o, h'.get? e = some o ∧ o.cls = .type "StopIteration") → E (.ref e) { s with heap := h', toks := tk }) :
    wpAny (model P w) A (Builtin.«zip.__next__» ⟨[.ref z], []⟩) Q E s := by
  show wpAny _ _ (field (.ref z) 2 >>= _) _ _ _; refine wpAny_bind (wpAny_field hz rfl (x := .bool false) rfl ?_)
  show wpAny _ _ (field (.ref z) 3 >>= _) _ _ _; refine wpAny_bind (wpAny_field hz rfl (x := .ref TI) rfl ?_)
  refine wpAny_bind (wpAny_seqItems hTI rfl ?_); show wpAny _ _ (Builtin.SmallTypes.ownedTupleIsFree (.ref z) >>= _) _ _ _
  refine wpAny_bind ?_; unfold Builtin.SmallTypes.ownedTupleIsFree
  refine wpAny_bind (wpAny_field hz rfl (x := .none) rfl (wpAny_pure ?_)); simp only [if_true]
  refine wpAny_bind (wpAny_rule ?_); refine wpAny_bind (wpAny_field hz rfl (x := .ref TO) rfl ?_)
  refine wpAny_bind (wpAny_setField_rec hz (by simp) fun g1 hz1 hs1 => ?_); replace hz1 : IsZip g1 z TI TO .ellipsis := hz1
  refine wpAny_bind ?_; simp only [List.zipIdx_cons, List.zipIdx_nil, List.forIn_cons, List.forIn_nil]
  refine wpAny_bind (wpAny_bind (wpAny_onRaise ?_)); show wpAny _ _ (Builtin.SmallTypes.nextOf (.ref i1) >>= _) _ _ _
  have k1 : ∀ c o, c ≠ z → s.heap.get? c = some o → g1.get? c = some o := fun c o n e => hs1.extBut _ _ n e
  rcases N with N1 | ⟨R1, st1', N1, N2⟩
  · refine wpAny_bind (N1.done _ _ _ _ hh (N1.keep _ _ h1 fun b hb o e => k1 b o (fun q => D.b1 (q ▸ hb)) e) fun g2 e hs2 he => ?_)
    obtain ⟨oe, hoe, hce⟩ := he
    have hz2 : IsZip g2 z TI TO .ellipsis := hs2 _ _ D.a3.symm hz1
    have hez : e ≠ z := fun x => by subst x; rw [hz2] at hoe; cases hoe; simp at hce
    refine wpAny_setField_rec hz2 (by simp) fun g3 _ hs3 => hE g3 e s.toks (fun c o n1 _ n3 _ x => hs3.extBut _ _ n1 (hs2 _ _ n3 (k1 c o n1 x))) ⟨oe, hs3.extBut _ _ hez hoe, hce⟩
  · refine wpAny_bind (N1.item _ _ _ _ (N1.keep _ _ h1 fun b hb o e => k1 b o (fun q => D.b1 (q ▸ hb)) e) fun x g2 tk2 rx h1' hs2 => wpAny_pure ?_)
    have k2 : ∀ c o, c ≠ z → c ≠ i1 → s.heap.get? c = some o → g2.get? c = some o := fun c o n1 n2 e => hs2.extBut _ _ n2 (k1 c o n1 e)
    have hTO2 : IsPair g2 TO a b := k2 _ _ D.a2 D.a8 hTO
    refine wpAny_bind (wpAny_seqItems hTO2 rfl ?_); refine wpAny_bind (wpAny_updateSeq_pair hTO2 fun g3 hTO3 hs3 => ?_); replace hTO3 : IsPair g3 TO x b := hTO3
    have k3 : ∀ c o, c ≠ z → c ≠ i1 → c ≠ TO → s.heap.get? c = some o → g3.get? c = some o := fun c o n1 n2 n3 e => hs3.extBut _ _ n3 (k2 c o n1 n2 e)
    refine wpAny_bind (wpAny_letGo (wpAny_pure ?_)); refine wpAny_bind (wpAny_bind (wpAny_onRaise ?_)); show wpAny _ _ (Builtin.SmallTypes.nextOf (.ref i2) >>= _) _ _ _
    refine wpAny_bind (N2.done _ _ _ _ hh (N2.keep _ _ h2 fun b hb o e => k3 b o (fun q => D.c1 (q ▸ hb)) (fun q => D.c3 (q ▸ hb)) (fun q => D.c2 (q ▸ hb)) e) fun g4 e hs4 he => ?_)
    obtain ⟨oe, hoe, hce⟩ := he
    have hz4 : IsZip g4 z TI TO .ellipsis := hs4 _ _ D.a4.symm (hs3.extBut _ _ D.a2.symm (hs2.extBut _ _ D.a3.symm hz1))
    have hez : e ≠ z := fun x => by subst x; rw [hz4] at hoe; cases hoe; simp at hce
    refine wpAny_setField_rec hz4 (by simp) fun g5 _ hs5 => hE g5 e tk2 (fun c o n1 n2 n3 n4 x => hs5.extBut _ _ n1 (hs4 _ _ n4 (k3 c o n1 n3 n2 x))) ⟨oe, hs5.extBut _ _ hez hoe, hce⟩
theorem zip_next {a b : Value} {Q : Option Value → Shared → Prop} (D : ZApart z TI TO i1 i2 us1 us2) (N1 : NextAt P w i1 us1 R1 st1 st1') (N2 : NextAt P w i2 us2 R2 st2 st2')
    (hz : IsZip s.heap z TI TO .none) (hTI : IsPair s.heap TI (.ref i1) (.ref i2)) (hTO : IsPair s.heap TO a b) (h1 : st1 s.heap) (h2 : st2 s.heap)
    (hQ : ∀ x y h' tk, R1 x → R2 y → IsZip h' z TI TO (rawInt s.heap.objs.size) → IsPair h' TO x y → st1' h' → st2' h' → IsPair h' s.heap.objs.size x y → h'.objs.size = s.heap.objs.size + 1 →
      (∀ c o, c ≠ z → c ≠ TO → c ≠ i1 → c ≠ i2 → s.heap.get? c = some o → h'.get? c = some o) → Q (some (.ref s.heap.objs.size)) { s with heap := h', toks := tk }) :
    wpAny (model P w) A (pyNext (.ref z)) Q E s := by
  have hT : s.TypeIs (.ref z) "zip" := ⟨_, hz, rfl⟩
  unfold pyNext
  exact wpAny_bind (wpAny_attempt (wpAny_callSpecial?_slot (name := Str.ofString "__next__") hT PySem.F.slot_zip_next (wpAny_call_entry PySem.F.slot_zip_next hT PySem.F.entry_zip_next
      (zip_item D N1 N2 hz hTI hTO h1 h2 fun x y h' tk a1 a2 a3 a4 a5 a6 a7 a8 a9 => wpAny_pure (hQ x y h' tk a1 a2 a3 a4 a5 a6 a7 a8 a9)) (PySem.F.args_zip_next_1 _))))
theorem zip_done {a b : Value} {Q : Option Value → Shared → Prop} (hh : A.handled = none) (D : ZApart z TI TO i1 i2 us1 us2)
    (N : EndAt P w i1 us1 st1 ∨ ∃ R1 st1', NextAt P w i1 us1 R1 st1 st1' ∧ EndAt P w i2 us2 st2)
    (hz : IsZip s.heap z TI TO .none) (hTI : IsPair s.heap TI (.ref i1) (.ref i2)) (hTO : IsPair s.heap TO a b) (h1 : st1 s.heap) (h2 : st2 s.heap)
    (hQ : ∀ h' tk, (∀ c o, c ≠ z → c ≠ TO → c ≠ i1 → c ≠ i2 → s.heap.get? c = some o → h'.get? c = some o) → Q none { s with heap := h', toks := tk }) : wpAny (model P w) A (pyNext (.ref z)) Q E s := by
  have hT : s.TypeIs (.ref z) "zip" := ⟨_, hz, rfl⟩
  unfold pyNext
  refine wpAny_bind (wpAny_attempt (wpAny_callSpecial?_slot (name := Str.ofString "__next__") hT PySem.F.slot_zip_next (wpAny_call_entry PySem.F.slot_zip_next hT PySem.F.entry_zip_next (zip_end hh D N hz hTI hTO h1 h2 fun h' e tk hk he => ?_) (PySem.F.args_zip_next_1 _))))
  obtain ⟨o, ho, hc⟩ := he
  exact wpAny_bind (wpAny_isInstance (T := "StopIteration") (b := true) ⟨o, ho, hc⟩ isSubtype_stop (wpAny_pure (hQ _ _ hk)))
theorem tup_nextOf {it t : Addr} {i : Nat} {items : Array Value} {x : Value} {Q : Value → Shared → Prop} (hit : s.heap.IsTupleIter it t i) (ht : s.heap.IsTuple t items) (hx : items[i]? = some x)
    (hQ : ∀ h', h'.IsTupleIter it t (i + 1) → Heap.SameBut it s.heap h' → Q x { s with heap := h' }) : wpAny (model P w) A (Builtin.SmallTypes.nextOf (.ref it)) Q E s := by
  obtain ⟨o, ho, hc, hd⟩ := id hit; obtain ⟨ol, hol, _, nl, hdl⟩ := ht
  unfold Builtin.SmallTypes.nextOf
  refine wpAny_bind (wpAny_callSpecial?_slot (name := Str.ofString "__next__") hit.typeIs PySem.F.slot_tuple_iterator_next (wpAny_call_entry PySem.F.slot_tuple_iterator_next hit.typeIs PySem.F.entry_tuple_iterator_next ?_ (PySem.F.args_tuple_iterator_next_1 _)))
  show wpAny _ _ (field (.ref it) 0 >>= _) _ _ s; refine wpAny_bind (wpAny_field ho hd (x := .ref t) rfl ?_)
  show wpAny _ _ (if (Value.ref t == Value.none) = true then _ else _) _ _ s; rw [if_neg (show ¬ ((Value.ref t == Value.none) = true) from Bool.false_ne_true)]
  show wpAny _ _ (field (.ref it) 1 >>= _) _ _ s; refine wpAny_bind (wpAny_field ho hd (x := .int i 0) rfl ?_)
  show wpAny _ _ (seqItems? (.ref t) >>= _) _ _ s; refine wpAny_bind (wpAny_seqItems hol hdl ?_); simp only [Int.toNat_natCast, hx]
  refine wpAny_bind (wpAny_setField ho hd (by simp) (wpAny_pure ⟨x, rfl, wpAny_pure (hQ _ ?_ (Heap.SameBut.update ..))⟩)); exact ⟨_, Heap.get?_update_self _ ho (Obj.isFreed_of_fields (Obj.data_mapFields hd _)), (Obj.cls_mapFields ..).trans hc, by rw [Obj.data_mapFields hd]; simp [rawInt]⟩
theorem tup_nextEnd {it t : Addr} {i : Nat} {items : Array Value} {Q : Value → Shared → Prop} (hh : A.handled = none) (hit : s.heap.IsTupleIter it t i) (ht : s.heap.IsTuple t items) (hx : items[i]? = none)
    (hE : ∀ h' e, Heap.ExtBut it s.heap h' → (∃ o, h'.get? e = some o ∧ o.cls = .type "StopIteration") → E (.ref e) { s with heap := h' }) : wpAny (model P w) A (Builtin.SmallTypes.nextOf (.ref it)) Q E s := by
  obtain ⟨o, ho, hc, hd⟩ := id hit; obtain ⟨ol, hol, _, nl, hdl⟩ := ht
  unfold Builtin.SmallTypes.nextOf
  refine wpAny_bind (wpAny_callSpecial?_slot (name := Str.ofString "__next__") hit.typeIs PySem.F.slot_tuple_iterator_next (wpAny_call_entry PySem.F.slot_tuple_iterator_next hit.typeIs PySem.F.entry_tuple_iterator_next ?_ (PySem.F.args_tuple_iterator_next_1 _)))
  show wpAny _ _ (field (.ref it) 0 >>= _) _ _ s; refine wpAny_bind (wpAny_field ho hd (x := .ref t) rfl ?_)
  show wpAny _ _ (if (Value.ref t == Value.none) = true then _ else _) _ _ s; rw [if_neg (show ¬ ((Value.ref t == Value.none) = true) from Bool.false_ne_true)]
  show wpAny _ _ (field (.ref it) 1 >>= _) _ _ s; refine wpAny_bind (wpAny_field ho hd (x := .int i 0) rfl ?_)
  show wpAny _ _ (seqItems? (.ref t) >>= _) _ _ s; refine wpAny_bind (wpAny_seqItems hol hdl ?_); simp only [Int.toNat_natCast, hx]
  refine wpAny_bind (wpAny_rule (wpAny_bind (wpAny_setField ho hd (by simp) ?_))); show wpAny _ _ (newExc (.type "StopIteration") [] >>= _) _ _ _
  refine wpAny_bind ?_; simp only [newExc, newTuple]; refine wpAny_bind (wpAny_newObj_type ?_ (by size_fits))
  refine wpAny_bind (m := firstArgMember _ _) (wpAny_of_eq (a := Value.none) (by first | rfl | (simp only [firstArgMember]; rfl)) ?_); refine wpAny_newObj_type ?_ (by size_fits)
  simp only [raiseNew]; refine wpAny_bind (wpAny_handled ?_); first | rw [show A.in1.handled = none from hh] | rw [hh]
  refine wpAny_bind (wpAny_pure (wpAny_throw ?_)); exact hE _ _ (((Heap.SameBut.update ..).extBut.push _).push _) ⟨_, Heap.get?_push_size _ rfl, rfl⟩
end
inductive ZS where
  | l (a : Addr) | t (a : Addr) | s (z : Str) (tk : Tok) (wd : Bool)
def ZS.at' (S : ZS) (it : Addr) (i : Nat) (h : Heap) : Prop := match S with
  | .l a => h.IsListIter it a i
  | .t a => h.IsTupleIter it a i
  | .s z tk wd => h.IsStrIter it (if wd then "str_iterator" else "str_ascii_iterator") z tk i
def ZS.has (K : PySem.W.Frag) (H : Hp) (S : ZS) (i : Nat) (v : V) : Prop := match S with
  | .l a => ∃ xs, SqL K H a xs ∧ xs[i]? = some v
  | .t a => ∃ xs, SqT K H a xs ∧ xs[i]? = some v
  | .s z _ _ => ∃ c, z.cps[i]? = some c ∧ v = .str ⟨#[c]⟩
def ZS.ends (K : PySem.W.Frag) (H : Hp) (S : ZS) (i : Nat) : Prop := match S with
  | .l a => ∃ xs, SqL K H a xs ∧ xs.length ≤ i
  | .t a => ∃ xs, SqT K H a xs ∧ xs.length ≤ i
  | .s z _ _ => z.cps.size ≤ i
def ZS.us (S : ZS) (it : Addr) : List Addr := match S with
  | .l a => [it, a]
  | .t a => [it, a]
  | .s _ _ _ => [it]
theorem ZS.keepAt {S : ZS} {it : Addr} {i : Nat} {h h' : Heap} (x : S.at' it i h) (k : ∀ o, h.get? it = some o → h'.get? it = some o) : S.at' it i h' := by
  cases S with
  | l a => exact Heap.IsListIter.at x k
  | t a => exact Heap.IsTupleIter.at x k
  | s z tk wd => obtain ⟨o, e, r⟩ := x; exact ⟨o, k o e, r⟩
section
variable {X : Cx} {pins : List (Addr × Obj)} {σ : St} {H : Hp} {s : Shared}
theorem next_of {S : ZS} {it : Addr} {i : Nat} {v : V} (I : Inv X pins σ H s) (hs : S.has X.K H i v) (ne : ∀ b ∈ S.us it, b = it ∨ b ≠ it) (hne : ∀ a, (S = .l a ∨ S = .t a) → a ≠ it) :
    ∃ st : Heap → Prop, (S.at' it i s.heap → st s.heap) ∧ NextAt X.prog X.w it (S.us it) (fun u => RelV v u) st (fun h => S.at' it (i + 1) h) := by
  cases S with
  | l a =>
    obtain ⟨xs, hq, hx⟩ := hs
    obtain ⟨its, rv, p, hz⟩ := I.list hq
    obtain ⟨u, hu, ru⟩ := rv.get hx
    refine ⟨fun h => h.IsListIter it a i ∧ h.IsList a its.toArray, fun x => ⟨x, p.isList⟩, ⟨fun A E s Q st hQ => ?_, fun h h' st k => ⟨st.1.at fun o e => k it (by simp [ZS.us]) o e, st.2.at fun o e => k a (by simp [ZS.us]) o e⟩, fun h h' st k => Heap.IsListIter.at st fun o e => k it (by simp [ZS.us]) o e⟩⟩
    exact wpAny_nextOf_list_item st.1 st.2 (x := u) (by simpa using hu) fun h' a1 a2 => hQ u h' s.toks ru a1 a2
  | t a =>
    obtain ⟨xs, hq, hx⟩ := hs
    obtain ⟨its, rv, p, hz⟩ := I.tuple hq
    obtain ⟨u, hu, ru⟩ := rv.get hx
    refine ⟨fun h => h.IsTupleIter it a i ∧ h.IsTuple a its.toArray, fun x => ⟨x, p⟩, ⟨fun A E s Q st hQ => ?_, fun h h' st k => ⟨st.1.at fun o e => k it (by simp [ZS.us]) o e, st.2.at fun o e => k a (by simp [ZS.us]) o e⟩, fun h h' st k => Heap.IsTupleIter.at st fun o e => k it (by simp [ZS.us]) o e⟩⟩
    exact tup_nextOf st.1 st.2 (x := u) (by simpa using hu) fun h' a1 a2 => hQ u h' s.toks ru a1 a2
  | s z tk wd =>
    obtain ⟨c, hc, rfl⟩ := hs
    refine ⟨fun h => ZS.at' (.s z tk wd) it i h, fun x => x, ⟨fun A E s Q st hQ => ?_, fun h h' st k => ZS.keepAt st fun o e => k it (by simp [ZS.us]) o e, fun h h' st k => ZS.keepAt (S := .s z tk wd) st fun o e => k it (by simp [ZS.us]) o e⟩⟩
    cases wd with
    | true => exact wpAny_nextOf_wide_item st hc fun h' a1 a2 => hQ _ h' _ ⟨_, rfl⟩ a1 a2
    | false => exact wpAny_nextOf_ascii_item st hc fun h' a1 a2 => hQ _ h' _ ⟨_, rfl⟩ a1 a2
theorem end_of {S : ZS} {it : Addr} {i : Nat} (I : Inv X pins σ H s) (hs : S.ends X.K H i) : ∃ st : Heap → Prop, (S.at' it i s.heap → st s.heap) ∧ EndAt X.prog X.w it (S.us it) st := by
  cases S with
  | l a =>
    obtain ⟨xs, hq, hx⟩ := hs
    obtain ⟨its, rv, p, hz⟩ := I.list hq
    have hl := rv.length
    exact ⟨fun h => h.IsListIter it a i ∧ h.IsList a its.toArray, fun x => ⟨x, p.isList⟩, ⟨fun A E s Q hh st hE => wpAny_nextOf_list_end hh st.1 st.2 (by simp; omega) hE, fun h h' st k => ⟨st.1.at fun o e => k it (by simp [ZS.us]) o e, st.2.at fun o e => k a (by simp [ZS.us]) o e⟩⟩⟩
  | t a =>
    obtain ⟨xs, hq, hx⟩ := hs
    obtain ⟨its, rv, p, hz⟩ := I.tuple hq
    have hl := rv.length
    exact ⟨fun h => h.IsTupleIter it a i ∧ h.IsTuple a its.toArray, fun x => ⟨x, p⟩, ⟨fun A E s Q hh st hE => tup_nextEnd hh st.1 st.2 (by simp; omega) hE, fun h h' st k => ⟨st.1.at fun o e => k it (by simp [ZS.us]) o e, st.2.at fun o e => k a (by simp [ZS.us]) o e⟩⟩⟩
  | s z tk wd =>
    refine ⟨fun h => ZS.at' (.s z tk wd) it i h, fun x => x, ⟨fun A E s Q hh st hE => ?_, fun h h' st k => ZS.keepAt st fun o e => k it (by simp [ZS.us]) o e⟩⟩
    have hx : z.cps[i]? = none := Array.getElem?_eq_none hs
    cases wd with
    | true => exact wpAny_nextOf_wide_end hh st hx hE
    | false => exact wpAny_nextOf_ascii_end hh st hx hE
end
end Pu

set_option Elab.async false
set_option linter.all false
set_option maxRecDepth 100000
set_option maxHeartbeats 4000000
namespace Pu
open PySem PySem.Spec L2
open PyProof.Rows hiding St Fr
def ZS.val : ZS → Value
  | .l a => .ref a
  | .t a => .ref a
  | .s z tk _ => .str z tk
def ZS.obj : ZS → Obj
  | .l a => { cls := .type "list_iterator", data := .fields #[.ref a, .int 0 0] }
  | .t a => { cls := .type "tuple_iterator", data := .fields #[.ref a, .int 0 0] }
  | .s z tk wd => { cls := .type (if wd then "str_iterator" else "str_ascii_iterator"), data := .fields #[.str z tk, .int 0 0] }
def ZS.src (S : ZS) (h : Heap) : Prop := match S with
  | .l a => ∃ its, h.IsList a its
  | .t a => ∃ its, h.IsTuple a its
  | .s z _ wd => wd = !(z.cps.all (· < 128))
theorem ZS.src_push {S : ZS} {h : Heap} (x : S.src h) (o : Obj) : S.src (h.push o) := by
  cases S with
  | l a => obtain ⟨its, e⟩ := x; exact ⟨its, Heap.IsList.push e _⟩
  | t a => obtain ⟨its, e⟩ := x; exact ⟨its, Heap.IsTuple.at e fun o e => Heap.get?_push_of_some _ e⟩
  | s z tk wd => exact x
theorem ZS.iter {S : ZS} {P : Program} {w : World} {A : Around} {E : Value → Shared → Prop} {s : Shared} {Q : Value → Shared → Prop} (x : S.src s.heap) (hQ : Q (.ref s.heap.objs.size) { s with heap := s.heap.push S.obj }) :
    wpAny (model P w) A (pyIter S.val) Q E s := by
  cases S with
  | l a => obtain ⟨its, e⟩ := x; exact wpAny_pyIter_list e hQ
  | t a => obtain ⟨its, e⟩ := x; exact wpAny_pyIter_tuple e hQ
  | s z tk wd =>
    cases ha : z.cps.all (· < 128) with
    | true =>
      have : wd = false := by rw [show wd = !(z.cps.all (· < 128)) from x, ha]; rfl
      subst this
      exact wpAny_pyIter_ascii ha hQ
    | false =>
      have : wd = true := by rw [show wd = !(z.cps.all (· < 128)) from x, ha]; rfl
      subst this
      exact wpAny_pyIter_wide ha hQ
abbrev zH3 (h : Heap) (S1 S2 : ZS) : Heap := ((h.push S1.obj).push S2.obj).push { cls := .type "tuple", data := .seq #[.ref h.objs.size, .ref (h.push S1.obj).objs.size] }
abbrev zH4 (h : Heap) (S1 S2 : ZS) : Heap := (zH3 h S1 S2).push { cls := .type "tuple", data := .seq #[.none, .none] }
abbrev zH5 (h : Heap) (S1 S2 : ZS) : Heap := (zH4 h S1 S2).push { cls := .type "zip", data := .fields #[.none, .bool false, .bool false, .ref ((h.push S1.obj).push S2.obj).objs.size, .ref (zH3 h S1 S2).objs.size] }
theorem zip_new (S1 S2 : ZS) : Meets (Builtin.«zip.__new__» ⟨[.type "zip", S1.val, S2.val], []⟩) (fun _ R s => S1.src s.heap ∧ S2.src s.heap ∧ R (.ok (.ret (.ref (zH4 s.heap S1 S2).objs.size))) { s with heap := zH5 s.heap S1 S2 }) :=
  .of_wp fun prog w A R ⟨hp, g, d, tk, os⟩ ⟨hl1, hl2, h⟩ => by
    have below := sub_zip
    have hL1 : S1.src (Shared.heap ⟨hp, g, d, tk, os⟩) := hl1
    have hL2 : S2.src (Shared.heap ⟨hp.push S1.obj, g, d, tk, os⟩) := ZS.src_push hl2 _
    wp_walk using ZS.iter hL1, ZS.iter hL2
    exact ⟨_, rfl, h⟩
section
variable {X : Cx} {pins : List (Addr × Obj)} {σ : St} {H : Hp} {s : Shared}
theorem turnedL {t' : Nat} {h' : Heap} {ch : List Addr} (I : Inv X pins σ H s) (k : ∀ b o, b ∉ ch → s.heap.get? b = some o → h'.get? b = some o) (hf : ∀ b ∈ ch, FpOk X pins H b) : Inv X pins σ H { s with heap := h', toks := t' } := by
  have nit : ∀ b u, H b = some u → b ∉ ch := fun b u e z => by rw [(hf b z).1] at e; cases e
  refine I.step (g' := s.gens) (d' := s.drawn) (ch := ch) (fun b hb => ⟨(hf b hb).2.2.2.1, (hf b hb).2.1, (hf b hb).2.2.2.2.1, (hf b hb).2.2.2.2.2⟩) (fun b o _ _ hc e _ => k b o hc e) (fun b o _ _ hc e _ => ⟨o.slots, k b o hc e⟩) (fun _ _ _ _ n => n)
    (fun b o hc e => ⟨o, k b o hc e⟩) (fun _ _ e => e) (fun _ _ _ e => e) (fun b ps e => ⟨#[], by rw [e]; simp⟩) (fun m hm => ?_) (fun b u e => ?_) I.bare
  · obtain ⟨o, es, ep, ho, r⟩ := hm
    exact ⟨o, es, ep, k _ o (fun z => (hf _ z).2.1 rfl) ho, r⟩
  · refine (I.hok b u e).stay (fun c v hc q => k c v ?_ q) (fun _ q => q) fun _ _ q => q
    rcases hc with z | z
    · rw [z]; exact nit b u e
    · exact nit c _ z
theorem readL_ne {a b : Addr} {xs : List V} (I : Inv X pins σ H s) (h : SqL X.K H a xs) (f : FpOk X pins H b) : a ≠ b := by
  rintro rfl
  rcases h with (h | ⟨o, h⟩) | ⟨o, its, n, hk, _⟩
  · rw [f.1] at h; cases h
  · rw [f.1] at h; cases h
  · have hb := I.ok.mod.kin _ _ hk
    rcases f.2.2.2.1 with z | z
    · exact I.ok.noex _ _ hb z
    · exact absurd (Nat.lt_of_lt_of_le (Heap.lt_size hb) (Nat.le_trans I.ok.bsz z)) (Nat.lt_irrefl _)
theorem readT_ne {a b : Addr} {xs : List V} (I : Inv X pins σ H s) (h : SqT X.K H a xs) (f : FpOk X pins H b) : a ≠ b := by
  rintro rfl
  rcases h with (h | ⟨o, h⟩) | ⟨o, its, n, hk, _⟩
  · rw [f.1] at h; cases h
  · rw [f.1] at h; cases h
  · have hb := I.ok.mod.kin _ _ hk
    rcases f.2.2.2.1 with z | z
    · exact I.ok.noex _ _ hb z
    · exact absurd (Nat.lt_of_lt_of_le (Heap.lt_size hb) (Nat.le_trans I.ok.bsz z)) (Nat.lt_irrefl _)
def ZS.rd (S : ZS) (K : PySem.W.Frag) (H : Hp) : Prop := match S with
  | .l a => ∃ xs, SqL K H a xs
  | .t a => ∃ xs, SqT K H a xs
  | .s _ _ _ => True
theorem us_ne {S : ZS} {it b : Addr} (I : Inv X pins σ H s) (r : S.rd X.K H) (f : FpOk X pins H b) (hb : it ≠ b) : b ∉ S.us it := by
  cases S with
  | l a =>
    obtain ⟨xs, h⟩ := r
    intro z
    rcases List.mem_cons.mp z with z | z
    · exact hb z.symm
    · exact readL_ne I h f (List.mem_singleton.mp z).symm
  | t a =>
    obtain ⟨xs, h⟩ := r
    intro z
    rcases List.mem_cons.mp z with z | z
    · exact hb z.symm
    · exact readT_ne I h f (List.mem_singleton.mp z).symm
  | s z tk wd =>
    intro q
    exact hb (List.mem_singleton.mp q).symm
theorem has_inj {S : ZS} {i : Nat} {u v : V} (I : Inv X pins σ H s) (h : S.has X.K H i u) (h' : S.has X.K H i v) : u = v := by
  cases S with
  | l a =>
    obtain ⟨xs, h1, h2⟩ := h
    obtain ⟨ys, h3, h4⟩ := h'
    rw [I.list_inj h1 h3, h4] at h2
    exact (Option.some.inj h2).symm
  | t a =>
    obtain ⟨xs, h1, h2⟩ := h
    obtain ⟨ys, h3, h4⟩ := h'
    rw [I.tuple_inj h1 h3, h4] at h2
    exact (Option.some.inj h2).symm
  | s z tk wd =>
    obtain ⟨c, h1, rfl⟩ := h
    obtain ⟨d, h2, rfl⟩ := h'
    rw [h1] at h2
    cases h2; rfl
theorem ZS.has_rd {S : ZS} {K : PySem.W.Frag} {i : Nat} {v : V} (h : S.has K H i v) : S.rd K H := by
  cases S with
  | l a => obtain ⟨xs, h, _⟩ := h; exact ⟨xs, h⟩
  | t a => obtain ⟨xs, h, _⟩ := h; exact ⟨xs, h⟩
  | s z tk wd => trivial
theorem ZS.ends_rd {S : ZS} {K : PySem.W.Frag} {i : Nat} (h : S.ends K H i) : S.rd K H := by
  cases S with
  | l a => obtain ⟨xs, h, _⟩ := h; exact ⟨xs, h⟩
  | t a => obtain ⟨xs, h, _⟩ := h; exact ⟨xs, h⟩
  | s z tk wd => trivial
end
structure ZNe (z TI TO i1 i2 : Addr) : Prop where
  a1 : TI ≠ z
  a2 : TO ≠ z
  a3 : i1 ≠ z
  a4 : i2 ≠ z
  a5 : TI ≠ TO
  a6 : TI ≠ i1
  a7 : TI ≠ i2
  a8 : TO ≠ i1
  a9 : TO ≠ i2
  a10 : i1 ≠ i2
theorem zne (n : Nat) : ZNe (n + 4) (n + 2) (n + 3) n (n + 1) := by
  have h : ∀ a b : Nat, a ≠ b → n + a ≠ n + b := fun a b h e => h (Nat.add_left_cancel e)
  exact ⟨h 2 4 (by decide), h 3 4 (by decide), h 0 4 (by decide), h 1 4 (by decide), h 2 3 (by decide), h 2 0 (by decide), h 2 1 (by decide), h 3 0 (by decide), h 3 1 (by decide), h 0 1 (by decide)⟩
def Jz (K : PySem.W.Frag) (S1 S2 : ZS) : It := ⟨fun i H => (∃ v, S1.has K H i v) ∧ ∃ v, S2.has K H i v, fun i H x H' => ∃ a u v, H a = none ∧ x = .ref a ∧ H' = upd H a (.tup [u, v]) ∧ (∀ u', S1.has K H i u' → u' = u) ∧ ∀ v', S2.has K H i v' → v' = v,
  fun i H => S1.rd K H ∧ S2.rd K H ∧ (S1.ends K H i ∨ ((∃ v, S1.has K H i v) ∧ S2.ends K H i))⟩
theorem turn_zip {P : Program} {w : World} {K : PySem.W.Frag} {elts : List Expr} {x1 : Nat} {pos : Pos} {S1 S2 : ZS} {z TI TO i1 i2 : Addr} (N : ZNe z TI TO i1 i2) : Turn P w K (.Tuple elts x1 pos) (Jz K S1 S2) [z, TI, TO, i1, i2] z
    (fun i h => IsZip h z TI TO .none ∧ IsPair h TI (.ref i1) (.ref i2) ∧ (∃ a b, IsPair h TO a b) ∧ S1.at' i1 i h ∧ S2.at' i2 i h) where
  mem := by simp
  obj := fun i h st b hb => by
    obtain ⟨hz, hTI, ⟨a, c, hTO⟩, h1, h2⟩ := st
    have it : ∀ {S : ZS} {it : Addr}, S.at' it i h → ∃ o, h.get? it = some o ∧ ∀ v, o.data ≠ .cell v := fun {S it} x => by
      cases S with
      | l a => obtain ⟨o, e, _, d⟩ := x; exact ⟨o, e, fun v q => by rw [d] at q; cases q⟩
      | t a => obtain ⟨o, e, _, d⟩ := x; exact ⟨o, e, fun v q => by rw [d] at q; cases q⟩
      | s z tk wd => obtain ⟨o, e, _, d⟩ := x; exact ⟨o, e, fun v q => by rw [d] at q; cases q⟩
    simp only [List.mem_cons, List.not_mem_nil, or_false] at hb
    rcases hb with rfl | rfl | rfl | rfl | rfl
    · exact ⟨_, hz, fun v q => by cases q⟩
    · exact ⟨_, hTI, fun v q => by cases q⟩
    · exact ⟨_, hTO, fun v q => by cases q⟩
    · exact it h1
    · exact it h2
  keep := fun i h h' st k => by
    obtain ⟨hz, hTI, ⟨a, c, hTO⟩, h1, h2⟩ := st
    exact ⟨k z (by simp) _ hz, k TI (by simp) _ hTI, ⟨a, c, k TO (by simp) _ hTO⟩, ZS.keepAt h1 fun o e => k i1 (by simp) o e, ZS.keepAt h2 fun o e => k i2 (by simp) o e⟩
  item := by
    intro X hP hw hK hc i pins s σ H E I hf st hg
    subst hP hw hK
    obtain ⟨hz, hTI, ⟨a, c, hTO⟩, h1, h2⟩ := st
    obtain ⟨⟨v1, g1⟩, ⟨v2, g2⟩⟩ := hg
    have f := fun b hb => hf b hb
    obtain ⟨st1, e1, N1⟩ := next_of (it := i1) I g1 (fun b _ => Classical.em _) (fun a ha => by rcases ha with rfl | rfl; exact readL_ne I g1.choose_spec.1 (f i1 (by simp)); exact readT_ne I g1.choose_spec.1 (f i1 (by simp)))
    obtain ⟨st2, e2, N2⟩ := next_of (it := i2) I g2 (fun b _ => Classical.em _) (fun a ha => by rcases ha with rfl | rfl; exact readL_ne I g2.choose_spec.1 (f i2 (by simp)); exact readT_ne I g2.choose_spec.1 (f i2 (by simp)))
    have D : ZApart z TI TO i1 i2 (S1.us i1) (S2.us i2) := ⟨N.a1, N.a2, N.a3, N.a4, N.a5, N.a6, N.a7, N.a8, N.a9, us_ne I (ZS.has_rd g1) (f z (by simp)) N.a3, us_ne I (ZS.has_rd g1) (f TO (by simp)) N.a8.symm, us_ne I (ZS.has_rd g1) (f i2 (by simp)) N.a10,
      us_ne I (ZS.has_rd g2) (f z (by simp)) N.a4, us_ne I (ZS.has_rd g2) (f TO (by simp)) N.a9.symm, us_ne I (ZS.has_rd g2) (f i1 (by simp)) N.a10.symm⟩
    refine zip_next D N1 N2 hz hTI hTO (e1 h1) (e2 h2) fun x y h' tk rx ry a1 a2 a3 a4 a5 a6 a7 => ⟨_, rfl, ?_⟩
    refine wpAny_letOwnedTupleGo_zip (s := { s with heap := h', toks := tk }) a1 fun h3 hz3 sb => ?_
    have hlt : ∀ {b o}, s.heap.get? b = some o → b ≠ s.heap.objs.size := fun e => Nat.ne_of_lt (Heap.lt_size e)
    have J1 : Inv X pins σ H { s with heap := h3, toks := tk } := turnedL (ch := [z, TI, TO, i1, i2]) I (fun b o hb e => by
      simp only [List.mem_cons, List.not_mem_nil, or_false, not_or] at hb
      exact sb.extBut _ _ hb.1 (a7 b o hb.1 hb.2.2.1 hb.2.2.2.1 hb.2.2.2.2 e)) hf
    have hn : H s.heap.objs.size = none := I.hok.fresh (Nat.le_refl _)
    have ltz := hlt hz
    have hT : IsPair h3 s.heap.objs.size x y := sb.extBut _ _ ltz.symm a5
    have J2 := track (ob := .tup [v1, v2]) J1 hn I.sz (Nat.ne_of_gt I.lt) (fun x c e => by obtain ⟨v, q⟩ := I.cell x c e; exact Nat.ne_of_lt q.lt) (fun p hp => hlt (I.pin p hp).1)
      ⟨by show 2 ≤ sizeLine; rw [sizeLine_eq]; decide, [x, y], .cons rx (.cons ry .nil), ⟨_, hT, rfl, _, rfl⟩⟩
    refine ⟨.ref s.heap.objs.size, _, J2, rfl, ⟨_, v1, v2, hn, rfl, rfl, fun u' q => has_inj I q g1, fun u' q => has_inj I q g2⟩, ⟨hz3, sb.extBut _ _ N.a1 (a7 TI _ N.a1 N.a5 N.a6 N.a7 hTI), ⟨_, _, sb.extBut _ _ N.a2 a2⟩, ZS.keepAt a3 fun o e => sb.extBut _ _ N.a3 e, ZS.keepAt a4 fun o e => sb.extBut _ _ N.a4 e⟩, fun b hb => ?_⟩
    have hb' : b ≠ s.heap.objs.size := by
      simp only [List.mem_cons, List.not_mem_nil, or_false] at hb
      have it : ∀ {S : ZS} {it : Addr}, S.at' it i s.heap → it ≠ s.heap.objs.size := fun {S it} x => by
        cases S with
        | l a => obtain ⟨o, e, _⟩ := x; exact hlt e
        | t a => obtain ⟨o, e, _⟩ := x; exact hlt e
        | s z tk wd => obtain ⟨o, e, _⟩ := x; exact hlt e
      rcases hb with rfl | rfl | rfl | rfl | rfl
      · exact hlt hz
      · exact hlt hTI
      · exact hlt hTO
      · exact it h1
      · exact it h2
    rw [upd_ne hb']; exact (hf b hb).1
  done := by
    intro X hP hw hK hc i pins s σ H E I hf st hg
    subst hP hw hK
    obtain ⟨hz, hTI, ⟨a, c, hTO⟩, h1, h2⟩ := st
    obtain ⟨r1, r2, hg⟩ := hg
    have f := fun b hb => hf b hb
    have D : ZApart z TI TO i1 i2 (S1.us i1) (S2.us i2) := ⟨N.a1, N.a2, N.a3, N.a4, N.a5, N.a6, N.a7, N.a8, N.a9, us_ne I r1 (f z (by simp)) N.a3, us_ne I r1 (f TO (by simp)) N.a8.symm, us_ne I r1 (f i2 (by simp)) N.a10,
      us_ne I r2 (f z (by simp)) N.a4, us_ne I r2 (f TO (by simp)) N.a9.symm, us_ne I r2 (f i1 (by simp)) N.a10.symm⟩
    have fin : ∀ h' tk, (∀ c o, c ≠ z → c ≠ TO → c ≠ i1 → c ≠ i2 → s.heap.get? c = some o → h'.get? c = some o) → (none : Option Value) = none ∧ Inv X pins σ H { s with heap := h', toks := tk } := fun h' tk k => ⟨rfl, turnedL (ch := [z, TI, TO, i1, i2]) I (fun b o hb e => by
      simp only [List.mem_cons, List.not_mem_nil, or_false, not_or] at hb
      exact k b o hb.1 hb.2.2.1 hb.2.2.2.1 hb.2.2.2.2 e) hf⟩
    rcases hg with g1 | ⟨⟨v1, g1⟩, g2⟩
    · obtain ⟨st1, e1, N1⟩ := end_of (it := i1) I g1
      exact zip_done (st2 := fun _ => True) (I.ok.hd hc) D (.inl N1) hz hTI hTO (e1 h1) trivial fin
    · obtain ⟨st1, e1, N1⟩ := next_of (it := i1) I g1 (fun b _ => Classical.em _) (fun a ha => by rcases ha with rfl | rfl; exact readL_ne I g1.choose_spec.1 (f i1 (by simp)); exact readT_ne I g1.choose_spec.1 (f i1 (by simp)))
      obtain ⟨st2, e2, N2⟩ := end_of (it := i2) I g2
      exact zip_done (I.ok.hd hc) D (.inr ⟨_, _, N1, N2⟩) hz hTI hTO (e1 h1) (e2 h2) fin
  self := fun _ _ _ _ _ st h => wpAny_pyIter_zip st.1 h
structure ZSrc (K : PySem.W.Frag) (ι : List Addr) (H : Hp) (S : ZS) (ps : List PV) : Prop where
  rd : ∀ ι2 H2, Ex ι ι2 H H2 → S.rd K H2
  has : ∀ ι2 H2, Ex ι ι2 H H2 → ∀ i p, ps[i]? = some p → ∃ v, S.has K H2 i v ∧ Rep K (ι ++ ι2) H2 p v
  ends : ∀ ι2 H2, Ex ι ι2 H H2 → ∀ i, ps.length ≤ i → S.ends K H2 i
section
variable {X : Cx} {pins : List (Addr × Obj)} {σ : St} {H : Hp} {s : Shared}
theorem src_of {ι : List Addr} {C : Cs} {x : SV} {ps : List PV} {v : V} {u : Value} (I : Inv X pins σ H s) (cr : CR X.K ι H C) (r : RepS X.K ι H x v) (e : itemsP x = some ps) (ru : RelV v u) : ∃ S : ZS, u = S.val ∧ S.src s.heap ∧ ZSrc X.K ι H S ps := by
  unfold itemsP at e
  split at e
  · cases e
    replace r : Rep X.K ι H (.lst _) v := r
    unfold Rep at r
    obtain ⟨a, vs, rfl, hq, rv⟩ := r
    obtain ⟨its, _, p, _⟩ := I.list hq.sq
    have keep : ∀ ι2 H2, Ex ι ι2 H H2 → SqL X.K H2 a vs := fun ι2 H2 x => by
      rcases hq with ⟨n, q | ⟨o, q⟩⟩ | q
      · exact .inl (.inl (x.out _ _ n q).2)
      · exact .inl (.inr ⟨o, (x.out _ _ n q).2⟩)
      · exact .inr q
    refine ⟨.l a, ru, ⟨_, p.isList⟩, fun ι2 H2 x => ⟨vs, keep ι2 H2 x⟩, fun ι2 H2 x i p hp => ?_, fun ι2 H2 x i hi => ⟨vs, keep ι2 H2 x, by rw [← rv.length]; exact hi⟩⟩
    obtain ⟨w, e1, r1⟩ := rv.get hp
    exact ⟨w, ⟨vs, keep ι2 H2 x, e1⟩, Rep.tr cr x.out p w r1⟩
  · cases e
    replace r : Rep X.K ι H (.tup _) v := r
    unfold Rep at r
    obtain ⟨a, vs, rfl, hq, rv⟩ := r
    obtain ⟨its, _, p, _⟩ := I.tuple hq
    have keep : ∀ ι2 H2, Ex ι ι2 H H2 → SqT X.K H2 a vs := fun ι2 H2 x => by
      rcases hq with (q | ⟨o, q⟩) | q
      · exact .inl (.inl (x.out _ _ (cr.notup q (fun _ e => nomatch e) fun _ e => nomatch e) q).2)
      · exact .inl (.inr ⟨o, (x.out _ _ (cr.notup q (fun _ e => nomatch e) fun _ e => nomatch e) q).2⟩)
      · exact .inr q
    refine ⟨.t a, ru, ⟨_, p⟩, fun ι2 H2 x => ⟨vs, keep ι2 H2 x⟩, fun ι2 H2 x i p hp => ?_, fun ι2 H2 x i hi => ⟨vs, keep ι2 H2 x, by rw [← rv.length]; exact hi⟩⟩
    obtain ⟨w, e1, r1⟩ := rv.get hp
    exact ⟨w, ⟨vs, keep ι2 H2 x, e1⟩, Rep.tr cr x.out p w r1⟩
  · cases e
    rename Str => z
    replace r : Rep X.K ι H (.str z) v := r
    unfold Rep at r
    obtain ⟨rfl, hz⟩ := r
    obtain ⟨t, rfl⟩ := ru
    refine ⟨.s z t (!(z.cps.all (· < 128))), rfl, rfl, fun _ _ _ => trivial, fun ι2 H2 x i p hp => ?_, fun ι2 H2 x i hi => by show z.cps.size ≤ i; simpa using hi⟩
    rw [List.getElem?_map] at hp
    cases hc : z.cps.toList[i]? with
    | none => rw [hc] at hp; cases hp
    | some d =>
      rw [hc] at hp; cases hp
      exact ⟨.str ⟨#[d]⟩, ⟨d, by simpa using hc, rfl⟩, repS (by show 1 ≤ sizeLine; rw [sizeLine_eq]; decide)⟩
  · cases e
theorem iter_zip {K : PySem.W.Frag} {ι : List Addr} {S1 S2 : ZS} {ps qs : List PV} (Z1 : ZSrc K ι H S1 ps) (Z2 : ZSrc K ι H S2 qs) : Iter K ι H (List.zipWith (fun a b => .tup [a, b]) ps qs) (Jz K S1 S2) := by
  have hl : (List.zipWith (fun a b => PV.tup [a, b]) ps qs).length = min ps.length qs.length := by simp
  refine ⟨fun ι2 H2 C2 x c i hi => ?_, fun ι2 H2 C2 x c i v H3 hi y => ?_, fun ι2 H2 C2 x c => ?_⟩
  · rw [hl] at hi
    have h1 : i < ps.length := by omega
    have h2 : i < qs.length := by omega
    obtain ⟨v, g1, _⟩ := Z1.has ι2 H2 x i _ (List.getElem?_eq_getElem h1)
    obtain ⟨u, g2, _⟩ := Z2.has ι2 H2 x i _ (List.getElem?_eq_getElem h2)
    exact ⟨⟨v, g1⟩, ⟨u, g2⟩⟩
  · rw [hl] at hi
    have h1 : i < ps.length := by omega
    have h2 : i < qs.length := by omega
    obtain ⟨v1, g1, r1⟩ := Z1.has ι2 H2 x i _ (List.getElem?_eq_getElem h1)
    obtain ⟨v2, g2, r2⟩ := Z2.has ι2 H2 x i _ (List.getElem?_eq_getElem h2)
    obtain ⟨a, u, w, hn, rfl, rfl, e1, e2⟩ := y
    rw [← e1 v1 g1, ← e2 v2 g2]
    refine ⟨fun b o e => by rw [upd_ne (ne_of_none e hn)]; exact e, .tup [ps[i], qs[i]], ?_, new_tup hn (.cons r1 (.cons r2 .nil))⟩
    rw [List.getElem?_zipWith, List.getElem?_eq_getElem h1, List.getElem?_eq_getElem h2]
  · refine ⟨Z1.rd ι2 H2 x, Z2.rd ι2 H2 x, ?_⟩
    rw [hl]
    rcases Nat.le_total ps.length qs.length with h | h
    · exact .inl (Z1.ends ι2 H2 x _ (by omega))
    · by_cases he : ps.length ≤ qs.length
      · exact .inl (Z1.ends ι2 H2 x _ (by omega))
      · right
        have h1 : min ps.length qs.length < ps.length := by omega
        obtain ⟨v, g1, _⟩ := Z1.has ι2 H2 x _ _ (List.getElem?_eq_getElem h1)
        exact ⟨⟨v, g1⟩, Z2.ends ι2 H2 x _ (by omega)⟩
end
def zipP : List SV → Option (List PV)
  | [x, y] => match itemsP x, itemsP y with
    | some ps, some qs => some (List.zipWith (fun a b => .tup [a, b]) ps qs)
    | _, _ => none
  | _ => none
theorem zipP_some {xs : List SV} {ys : List PV} (h : zipP xs = some ys) : ∃ x y ps qs, xs = [x, y] ∧ itemsP x = some ps ∧ itemsP y = some qs ∧ ys = List.zipWith (fun a b => .tup [a, b]) ps qs := by
  unfold zipP at h
  split at h
  · split at h
    · cases h; exact ⟨_, _, _, _, rfl, by assumption, by assumption, rfl⟩
    · cases h
  · cases h
def mZip (fs : PSt → M (List SV)) : PSt → M (List PV) := fun ρ => bnd (fs ρ) fun xs => opM fun _ => zipP xs
theorem im_zip {X : Cx} {a b : Expr} {fs : PSt → M (List SV)} {elts : List Expr} {x1 : Nat} {tpos p pos : Pos} (hg : Gl X "zip") (hm : X.mg "zip" = none) (ha : AM X [a, b] fs)
    (hs : starEach [a, b] X.env = [(false, eval a X.env), (false, eval b X.env)] := by rfl) (hs2 : starEach [b] X.env = [(false, eval b X.env)] := by rfl) : IM X (.Tuple elts x1 tpos) (.Call (.Name "zip" p) [a, b] [] pos) (mZip fs) := by
  intro pins s σ H R I ⟨ι, ρ, C, xs, C', sr, e, q⟩
  obtain ⟨zs, C1, e1, g1⟩ := bnd_some e
  obtain ⟨e2, hC⟩ := opM_some g1
  subst hC
  obtain ⟨x, y, ps, qs, rfl, hx, hy, rfl⟩ := zipP_some e2
  refine Call_ (ld_blt I hg hm (by rfl) (PyProof.Rows.callWith_type1 (thn (ha pos pins s σ H (fun vs H1 => Fr ι H H1 ∧ CR X.K ι H1 C' ∧ RepSs X.K ι H1 [x, y] vs) I ⟨ι, ρ, C, _, C', sr, e1, fun vs H1 f1 c1 r1 => ⟨f1, c1, r1⟩⟩) fun us s1 ⟨vs, H1, I1, r1, f1, c1, rs⟩ => ?_) (by rw [hs, hs2]) (by rw [hs2]; rfl)))
  obtain ⟨v1, w, rfl, rx, hw⟩ := rs
  obtain ⟨v2, w2, rfl, ry, hw⟩ := hw
  cases (show w2 = [] from hw)
  obtain ⟨u1, u2, rfl, ru1, ru2⟩ := Vals.two r1
  obtain ⟨S1, rfl, hS1, Z1⟩ := src_of I1 c1 rx hx ru1
  obtain ⟨S2, rfl, hS2, Z2⟩ := src_of I1 c1 ry hy ru2
  refine callType_new PySem.F.called_zip (by decide) (PySem.F.typeCall_zip_2 _ _) (PySem.F.newCall_zip_2 _ _) (fun obj => PySem.F.args_object_init_3 obj _ _) PySem.F.entry_zip_new (zip_new S1 S2) ⟨hS1, hS2, ?_⟩
  have z1 : (s1.heap.push S1.obj).objs.size = s1.heap.objs.size + 1 := Heap.size_push ..
  have z2 : ((s1.heap.push S1.obj).push S2.obj).objs.size = s1.heap.objs.size + 2 := by rw [Heap.size_push, z1]
  have z3 : (zH3 s1.heap S1 S2).objs.size = s1.heap.objs.size + 3 := by rw [Heap.size_push, z2]
  have z4 : (zH4 s1.heap S1 S2).objs.size = s1.heap.objs.size + 4 := by rw [Heap.size_push, z3]
  have up : ∀ c o, s1.heap.get? c = some o → (zH5 s1.heap S1 S2).get? c = some o := fun c o x => Heap.get?_push_of_some _ (Heap.get?_push_of_some _ (Heap.get?_push_of_some _ (Heap.get?_push_of_some _ (Heap.get?_push_of_some _ x))))
  have g5 : (zH5 s1.heap S1 S2).get? (zH4 s1.heap S1 S2).objs.size = some _ := Heap.get?_push_size _ rfl
  have g4 : (zH5 s1.heap S1 S2).get? (zH3 s1.heap S1 S2).objs.size = some _ := Heap.get?_push_of_some _ (Heap.get?_push_size _ rfl)
  have g3 : (zH5 s1.heap S1 S2).get? ((s1.heap.push S1.obj).push S2.obj).objs.size = some _ := Heap.get?_push_of_some _ (Heap.get?_push_of_some _ (Heap.get?_push_size _ rfl))
  have g2 : (zH5 s1.heap S1 S2).get? (s1.heap.push S1.obj).objs.size = some _ := Heap.get?_push_of_some _ (Heap.get?_push_of_some _ (Heap.get?_push_of_some _ (Heap.get?_push_size _ (by cases S2 <;> rfl))))
  have g1 : (zH5 s1.heap S1 S2).get? s1.heap.objs.size = some _ := Heap.get?_push_of_some _ (Heap.get?_push_of_some _ (Heap.get?_push_of_some _ (Heap.get?_push_of_some _ (Heap.get?_push_size _ (by cases S1 <;> rfl)))))
  show _ ∧ _
  rw [z2, z3, z4] at g5
  rw [z1, z2] at g3
  rw [z3] at g4
  rw [z1] at g2
  rw [z4]
  have at0 : ∀ {S : ZS} {it : Addr} {h : Heap}, h.get? it = some S.obj → S.at' it 0 h := fun {S it h} e => by
    cases S with
    | l a => exact ⟨_, e, rfl, rfl⟩
    | t a => exact ⟨_, e, rfl, rfl⟩
    | s z tk wd => exact ⟨_, e, rfl, rfl⟩
  have J : Inv X pins σ H1 { s1 with heap := zH5 s1.heap S1 S2 } := I1.kept (t' := s1.toks) up
  refine ⟨⟨_, g5, rfl⟩, wpAny_pyIter_zip g5 ⟨s1.heap.objs.size + 4, [s1.heap.objs.size + 4, s1.heap.objs.size + 2, s1.heap.objs.size + 3, s1.heap.objs.size, s1.heap.objs.size + 1], _, _, H1, rfl, J,
    turn_zip (S1 := S1) (S2 := S2) (zne s1.heap.objs.size), ⟨g5, g3, ⟨_, _, g4⟩, at0 g1, at0 g2⟩, fun b hb => ?_, q _ H1 f1 c1 (iter_zip Z1 Z2)⟩⟩
  have hb' : s1.heap.objs.size ≤ b := by
    simp only [List.mem_cons, List.not_mem_nil, or_false] at hb
    rcases hb with rfl | rfl | rfl | rfl | rfl <;> omega
  exact I1.fpOk hb' (I1.hok.fresh hb')
end Pu

set_option Elab.async false
set_option linter.all false
set_option maxRecDepth 100000
set_option maxHeartbeats 4000000
namespace Pu
open PySem PySem.Spec PyProof.Rows L2
section
variable {K : PySem.W.Frag} {ι : List Addr} {H H' : Hp} {C : Cs}
end
end Pu
namespace Pu
open PySem PySem.Spec L2
open PyProof.Rows hiding St
section
variable {K : PySem.W.Frag} {ι : List Addr} {H H' : Hp} {C C' : Cs} {ρ : PSt} {σ : St}
end
@[irreducible] def QEM (X : Cx) (e : Expr) (f : PSt → M SV) : Prop := EM X e f
theorem QEM_eq : @QEM = @EM := by unfold QEM; rfl
@[irreducible] def QAM (X : Cx) (es : List Expr) (f : PSt → M (List SV)) : Prop := AM X es f
theorem QAM_eq : @QAM = @AM := by unfold QAM; rfl
@[irreducible] def QTMt (X : Cx) (e : Expr) (f : PSt → M Bool) : Prop := TMt X e f
theorem QTMt_eq : @QTMt = @TMt := by unfold QTMt; rfl
@[irreducible] def QWM (X : Cx) (e : Expr) (f : PSt → M Bool) : Prop := WM X e f
theorem QWM_eq : @QWM = @WM := by unfold QWM; rfl
@[irreducible] def QFM (X : Cx) (e : Expr) (f : PSt → M (List PV)) : Prop := FM X e f
theorem QFM_eq : @QFM = @FM := by unfold QFM; rfl
theorem q_WM_t {X : Cx} {e : Expr} {f : PSt → M Bool} (h : QWM X e f) : QTMt X e f := by
  simp only [QEM_eq, QAM_eq, QTMt_eq, QWM_eq, QFM_eq] at *; apply @WM.t <;> assumption
section
variable {X : Cx} {a b e c : Expr} {es : List Expr} {fa fb fc : PSt → M SV} {pos p : Pos} {x : Str}
theorem q_em_var (i : Nat) {x : Str} {pos : Pos} (hN : X.N[i]? = some x := by rfl) (hv : Vis X.env.scope x := by first | exact Or.inl rfl | exact Or.inr (Or.inl rfl) | exact Or.inr (Or.inr rfl)) (hd : (x == ("__debug__" : Str)) = false := by decide)
    (hcd : (x == ("__classdict__" : Str)) = false := by decide) : QEM X (.Name x pos) (mVar i) := by
  simp only [QEM_eq, QAM_eq, QTMt_eq, QWM_eq, QFM_eq] at *; apply @em_var <;> assumption
theorem q_em_int {i j pos} : QEM X (.Constant (.int i) j pos) (mC (.int i)) := by
  simp only [QEM_eq, QAM_eq, QTMt_eq, QWM_eq, QFM_eq] at *; apply @em_int <;> assumption
theorem q_em_bl {i j pos} : QEM X (.Constant (.bool i) j pos) (mC (.bl i)) := by
  simp only [QEM_eq, QAM_eq, QTMt_eq, QWM_eq, QFM_eq] at *; apply @em_bl <;> assumption
theorem q_em_non {j pos} : QEM X (.Constant .none j pos) (mC .non) := by
  simp only [QEM_eq, QAM_eq, QTMt_eq, QWM_eq, QFM_eq] at *; apply @em_non <;> assumption
theorem q_em_str {i j pos} (h : i.length ≤ sizeLine := by decide +kernel) : QEM X (.Constant (.str i) j pos) (mC (.str i)) := by
  simp only [QEM_eq, QAM_eq, QTMt_eq, QWM_eq, QFM_eq] at *; apply @em_str <;> assumption
theorem q_em_globI {i : Int} (hg : Gl X x) (hm : ∃ t, X.mg x = some (.int i t)) (hd : (x == ("__debug__" : Str)) = false := by decide) : QEM X (.Name x pos) (mC (.int i)) := by
  simp only [QEM_eq, QAM_eq, QTMt_eq, QWM_eq, QFM_eq] at *; apply @em_globI <;> assumption
theorem q_em_globS {i : Str} (hg : Gl X x) (hm : ∃ t, X.mg x = some (.str i t)) (h : i.length ≤ sizeLine := by decide +kernel) (hd : (x == ("__debug__" : Str)) = false := by decide) : QEM X (.Name x pos) (mC (.str i)) := by
  simp only [QEM_eq, QAM_eq, QTMt_eq, QWM_eq, QFM_eq] at *; apply @em_globS <;> assumption
theorem q_em_ty {n : String} (hg : Gl X x) (hm : X.mg x = none) (hv : bootBuiltins x = some (.type n)) (hn : x ≠ "__name__" := by decide) (hd : (x == ("__debug__" : Str)) = false := by decide) : QEM X (.Name x pos) (mC (.ty n)) := by
  simp only [QEM_eq, QAM_eq, QTMt_eq, QWM_eq, QFM_eq] at *; apply @em_ty <;> assumption
theorem q_em_cmp {op : CmpOp} {r : R2} {g : Cs → SV → SV → Option SV} (ho : OpR X (compareOp op) r) (hg : R2ok X.K r g) (ha : QEM X a fa) (hb : QEM X b fb) (hm : behindInMarks op b = false) : QEM X (.Compare a [op] [b] pos) (mOp g fa fb) := by
  simp only [QEM_eq, QAM_eq, QTMt_eq, QWM_eq, QFM_eq] at *; apply @em_cmp <;> assumption
theorem q_em_chain {op op' : CmpOp} {r r' : R2} {g g' : Cs → SV → SV → Option SV} (ho : OpR X (compareOp op) r) (ho' : OpR X (compareOp op') r') (hg : R2ok X.K r g) (hg' : R2ok X.K r' g') (ha : QEM X a fa) (hb : QEM X b fb) (hc : QEM X c fc)
    (hm : lastMarks [op, op'] [b, c] = false := by with_unfolding_all rfl) : QEM X (.Compare a [op, op'] [b, c] pos) (mChain g g' fa fb fc) := by
  simp only [QEM_eq, QAM_eq, QTMt_eq, QWM_eq, QFM_eq] at *; apply @em_chain <;> assumption
theorem q_tm_cmp {op : CmpOp} {r : R2} {g : Cs → SV → SV → Option SV} (ho : OpR X (compareOp op) r) (hg : R2ok X.K r g) (ha : QEM X a fa) (hb : QEM X b fb) (hm : behindInMarks op b = false) : QTMt X (.Compare a [op] [b] pos) (mTest (mOp g fa fb)) := by
  simp only [QEM_eq, QAM_eq, QTMt_eq, QWM_eq, QFM_eq] at *; apply @tm_cmp <;> assumption
theorem q_tm_chain {op op' : CmpOp} {r r' : R2} {g g' : Cs → SV → SV → Option SV} (ho : OpR X (compareOp op) r) (ho' : OpR X (compareOp op') r') (hg : R2ok X.K r g) (hg' : R2ok X.K r' g') (ha : QEM X a fa) (hb : QEM X b fb) (hc : QEM X c fc)
    (hm : lastMarks [op, op'] [b, c] = false := by with_unfolding_all rfl) : QTMt X (.Compare a [op, op'] [b, c] pos) (mTest (mChain g g' fa fb fc)) := by
  simp only [QEM_eq, QAM_eq, QTMt_eq, QWM_eq, QFM_eq] at *; apply @tm_chain <;> assumption
theorem q_tm_tru (ha : QEM X a fa) (he : ∀ whole, isTrue a X.env whole = (do let v ← whole; standAt a.pos; holding [v] (truthy v)) := by intro _; rfl) : QTMt X a (mTru fa) := by
  simp only [QEM_eq, QAM_eq, QTMt_eq, QWM_eq, QFM_eq] at *; apply @tm_tru <;> assumption
theorem q_tm_not {f : PSt → M Bool} (h : QTMt X a f) : QTMt X (.UnaryOp .Not a pos) (mNotT f) := by
  simp only [QEM_eq, QAM_eq, QTMt_eq, QWM_eq, QFM_eq] at *; apply @tm_not <;> assumption
theorem q_wm_or1 {f : PSt → M Bool} (h : QTMt X a f) : QWM X (.BoolOp .Or [a] pos) f := by
  simp only [QEM_eq, QAM_eq, QTMt_eq, QWM_eq, QFM_eq] at *; apply @wm_or1 <;> assumption
theorem q_wm_or {rest : List Expr} {f g : PSt → M Bool} (h : QTMt X a f) (k : QWM X (.BoolOp .Or (b :: rest) pos) g) : QWM X (.BoolOp .Or (a :: b :: rest) pos) (mOrT f g) := by
  simp only [QEM_eq, QAM_eq, QTMt_eq, QWM_eq, QFM_eq] at *; apply @wm_or <;> assumption
theorem q_em_one {op} {f : PSt → M SV} (h : QEM X a f) : QEM X (.BoolOp op [a] pos) f := by
  simp only [QEM_eq, QAM_eq, QTMt_eq, QWM_eq, QFM_eq] at *; apply @em_one <;> assumption
theorem q_em_and {rest : List Expr} {f g : PSt → M SV} (h : QEM X a f) (k : QEM X (.BoolOp .And (b :: rest) pos) g) : QEM X (.BoolOp .And (a :: b :: rest) pos) (mAndV f g) := by
  simp only [QEM_eq, QAM_eq, QTMt_eq, QWM_eq, QFM_eq] at *; apply @em_and <;> assumption
theorem q_em_or {rest : List Expr} {f g : PSt → M SV} (h : QEM X a f) (k : QEM X (.BoolOp .Or (b :: rest) pos) g) : QEM X (.BoolOp .Or (a :: b :: rest) pos) (mOrV f g) := by
  simp only [QEM_eq, QAM_eq, QTMt_eq, QWM_eq, QFM_eq] at *; apply @em_or <;> assumption
theorem q_em_not {f : PSt → M SV} (h : QEM X a f) : QEM X (.UnaryOp .Not a pos) (mNotV f) := by
  simp only [QEM_eq, QAM_eq, QTMt_eq, QWM_eq, QFM_eq] at *; apply @em_not <;> assumption
theorem q_am_nil : QAM X [] aNil := by
  simp only [QEM_eq, QAM_eq, QTMt_eq, QWM_eq, QFM_eq] at *; apply @am_nil <;> assumption
theorem q_am_cons {f : PSt → M SV} {g : PSt → M (List SV)} (h : QEM X e f) (k : QAM X es g) (hs : starEach (e :: es) X.env = (false, eval e X.env) :: starEach es X.env := by rfl) : QAM X (e :: es) (aCons f g) := by
  simp only [QEM_eq, QAM_eq, QTMt_eq, QWM_eq, QFM_eq] at *; apply @am_cons <;> assumption
theorem q_em_call {k : Nat} {f : Addr} {fd : FuncData} {ps : List Str} {F : List SV → M SV} {fs : PSt → M (List SV)} (G : FnOk X.prog X.w X.K X.mg X.base CX0 k f fd ps (liftSp X.K F)) (hr : Room k X.A) (hg : Gl X x) (hm : X.mg x = some (.ref f)) (hk : PySem.W.keepIn X.K (.ref f) = true) (hb : Binds X.K fd ps [])
    (ha : QAM X (e :: es) fs) (hdb : (x == ("__debug__" : Str)) = false := by decide) (he : starEach (e :: es) X.env = (false, eval e X.env) :: starEach es X.env := by rfl) (hpl : (backTo pos (starEach es X.env)).any (·.1) = false := by rfl) :
    QEM X (.Call (.Name x p) (e :: es) [] pos) (mFn F fs) := by
  simp only [QEM_eq, QAM_eq, QTMt_eq, QWM_eq, QFM_eq] at *; apply @em_call <;> assumption
theorem q_em_call0 {k : Nat} {f : Addr} {fd : FuncData} {ps : List Str} {F : List SV → M SV} (G : FnOk X.prog X.w X.K X.mg X.base CX0 k f fd ps (liftSp X.K F)) (hr : Room k X.A) (hg : Gl X x) (hm : X.mg x = some (.ref f)) (hk : PySem.W.keepIn X.K (.ref f) = true) (hb : Binds X.K fd ps [])
    (hdb : (x == ("__debug__" : Str)) = false := by decide) :
    QEM X (.Call (.Name x p) [] [] pos) (mFn F aNil) := by
  simp only [QEM_eq, QAM_eq, QTMt_eq, QWM_eq, QFM_eq] at *; apply @em_call0 <;> assumption
end
end Pu
namespace Pu
open PySem PySem.Spec L2
open PyProof.Rows hiding St
section
variable {K : PySem.W.Frag} {ι ι2 ι3 ι' : List Addr} {H H1 H2 H' : Hp} {C C' C1 : Cs} {ρ : PSt} {σ : St}
end
@[irreducible] def QSM (X : Cx) (st : Stmt) (f : PSt → M PF) : Prop := SM X st f
theorem QSM_eq : @QSM = @SM := by unfold QSM; rfl
@[irreducible] def QBM (X : Cx) (sts : List Stmt) (f : PSt → M PF) : Prop := BM X sts f
theorem QBM_eq : @QBM = @BM := by unfold QBM; rfl
section
variable {K : PySem.W.Frag} {ι ι2 : List Addr} {H H' : Hp} {C C' C1 : Cs} {ρ : PSt} {σ : St} {D : Ends} {fl : PF}
end
section
variable {X : Cx} {a b e c tg : Expr} {es : List Expr} {st : Stmt} {rest sts sts' : List Stmt} {f g : PSt → M PF} {pos p pos' : Pos} {x : Str}
theorem q_bm_nil : QBM X [] mSkip := by
  simp only [QEM_eq, QAM_eq, QTMt_eq, QWM_eq, QFM_eq, QSM_eq, QBM_eq] at *; apply @bm_nil <;> assumption
theorem q_bm_one (h : QSM X st f) : QBM X [st] f := by
  simp only [QEM_eq, QAM_eq, QTMt_eq, QWM_eq, QFM_eq, QSM_eq, QBM_eq] at *; apply @bm_one <;> assumption
theorem q_bm_cons (h : QSM X st f) (k : QBM X rest g) : QBM X (st :: rest) (mSeq f g) := by
  simp only [QEM_eq, QAM_eq, QTMt_eq, QWM_eq, QFM_eq, QSM_eq, QBM_eq] at *; apply @bm_cons <;> assumption
theorem q_sm_if {t : PSt → M Bool} (hc : QTMt X c t) (h : QBM X sts f) (k : QBM X sts' g) : QSM X (.If c sts sts' pos) (mIfS t f g) := by
  simp only [QEM_eq, QAM_eq, QTMt_eq, QWM_eq, QFM_eq, QSM_eq, QBM_eq] at *; apply @sm_if <;> assumption
theorem q_sm_ret {f : PSt → M SV} (h : QEM X e f) : QSM X (.Return (some e) pos) (mRet f) := by
  simp only [QEM_eq, QAM_eq, QTMt_eq, QWM_eq, QFM_eq, QSM_eq, QBM_eq] at *; apply @sm_ret <;> assumption
theorem q_sm_retF {f : PSt → M (List PV)} (h : QFM X e f) : QSM X (.Return (some e) pos) (mRetF f) := by
  simp only [QEM_eq, QAM_eq, QTMt_eq, QWM_eq, QFM_eq, QSM_eq, QBM_eq] at *; apply @sm_retF <;> assumption
theorem q_sm_expr {f : PSt → M SV} (h : QEM X e f) (hs : swapsWith e none pos.line X.env = pure false := by rfl) : QSM X (.Expr e pos) (mDrop f) := by
  simp only [QEM_eq, QAM_eq, QTMt_eq, QWM_eq, QFM_eq, QSM_eq, QBM_eq] at *; apply @sm_expr <;> assumption
theorem q_sm_set {i : Nat} {f : PSt → M SV} (hN : X.N.Nodup) (hi : X.N[i]? = some x) (hx : Loc X.env.scope x) (h : QEM X e f) (hs : swapsWith e (some (.Name x pos')) pos.line X.env = pure false := by rfl)
    (hf : X.fn x = true ∨ X.env.scope.names.lookup x = some .local := by first | exact .inl rfl | exact .inr rfl | assumption) : QSM X (.Assign [.Name x pos'] e pos) (mSet i f) := by
  simp only [QEM_eq, QAM_eq, QTMt_eq, QWM_eq, QFM_eq, QSM_eq, QBM_eq] at *; apply @sm_set <;> assumption
theorem q_sm_new {i : Nat} {f : PSt → M (List PV)} (hN : X.N.Nodup) (hi : X.N[i]? = some x) (hx : Loc X.env.scope x) (h : QFM X e f) (hs : swapsWith e (some (.Name x pos')) pos.line X.env = pure false := by rfl)
    (hf : X.fn x = true ∨ X.env.scope.names.lookup x = some .local := by first | exact .inl rfl | exact .inr rfl | assumption) : QSM X (.Assign [.Name x pos'] e pos) (mNew i f) := by
  simp only [QEM_eq, QAM_eq, QTMt_eq, QWM_eq, QFM_eq, QSM_eq, QBM_eq] at *; apply @sm_new <;> assumption
theorem q_em_tup {x1} {fs : PSt → M (List SV)} (h : QAM X es fs) : QEM X (.Tuple es x1 pos) (mTup fs) := by
  simp only [QEM_eq, QAM_eq, QTMt_eq, QWM_eq, QFM_eq, QSM_eq, QBM_eq] at *; apply @em_tup <;> assumption
theorem q_fm_lst {fs : PSt → M (List SV)} (h : QAM X es fs) : QFM X (.List es pos) (mLst fs) := by
  simp only [QEM_eq, QAM_eq, QTMt_eq, QWM_eq, QFM_eq, QSM_eq, QBM_eq] at *; apply @fm_lst <;> assumption
theorem q_FM_em {f : PSt → M (List PV)} (h : QFM X e f) : QEM X e (mVal f) := by
  simp only [QEM_eq, QAM_eq, QTMt_eq, QWM_eq, QFM_eq, QSM_eq, QBM_eq] at *; apply @FM.em <;> assumption
@[irreducible] def QGM (X : Cx) (tg : Expr) (g : PV → PSt → Option PSt) : Prop := GM X tg g
theorem QGM_eq : @QGM = @GM := by unfold QGM; rfl
@[irreducible] def QGMs (X : Cx) (ts : List Expr) (g : List PV → PSt → Option PSt) : Prop := GMs X ts g
theorem QGMs_eq : @QGMs = @GMs := by unfold QGMs; rfl
theorem q_gm_name {i : Nat} (hN : X.N.Nodup) (hi : X.N[i]? = some x) (hx : Loc X.env.scope x) (hf : X.fn x = true ∨ X.env.scope.names.lookup x = some .local := by first | exact .inl rfl | exact .inr rfl | assumption) : QGM X (.Name x pos) (hName i) := by
  simp only [QEM_eq, QAM_eq, QTMt_eq, QWM_eq, QFM_eq, QSM_eq, QBM_eq, QGM_eq, QGMs_eq] at *; apply @gm_name <;> assumption
theorem q_gms_nil : QGMs X [] hNil := by
  simp only [QEM_eq, QAM_eq, QTMt_eq, QWM_eq, QFM_eq, QSM_eq, QBM_eq, QGM_eq, QGMs_eq] at *; apply @gms_nil <;> assumption
theorem q_gms_cons {g : PV → PSt → Option PSt} {gs : List PV → PSt → Option PSt} (h : QGM X e g) (k : QGMs X es gs) (hs : (assignEach (e :: es) X.env).map (·.2) = assign e X.env :: (assignEach es X.env).map (·.2) := by rfl) : QGMs X (e :: es) (hCons g gs) := by
  simp only [QEM_eq, QAM_eq, QTMt_eq, QWM_eq, QFM_eq, QSM_eq, QBM_eq, QGM_eq, QGMs_eq] at *; apply @gms_cons <;> assumption
theorem q_gm_tup {gs : List PV → PSt → Option PSt} {k n : Nat} (hc : X.calm = true) (h : QGMs X es gs) (hn : (assignEach es X.env).length = n := by rfl) (hst : (assignEach es X.env).findIdx? (·.1) = none := by rfl) : QGM X (.Tuple es k pos) (hTup gs n) := by
  simp only [QEM_eq, QAM_eq, QTMt_eq, QWM_eq, QFM_eq, QSM_eq, QBM_eq, QGM_eq, QGMs_eq] at *; apply @gm_tup <;> assumption
end
@[irreducible] def QIM (X : Cx) (tg iter : Expr) (f : PSt → M (List PV)) : Prop := IM X tg iter f
theorem QIM_eq : @QIM = @IM := by unfold QIM; rfl
section
variable {X : Cx} {e tg iter elt : Expr} {es : List Expr} {body : List Stmt} {f : PSt → M PF} {pos p : Pos} {x : Str}
theorem q_sm_for {it : PSt → M (List PV)} {g : PV → PSt → Option PSt} (hp : PassesOwn (model X.prog X.w) X.A X.env X.xe) (hc : X.calm = true) (hi : QIM X tg iter it) (hg : QGM X tg g) (hb : QBM X body f)
    (hs : ∀ x, foldedSetIterable iter X.env x = pure x := by intro _; rfl) : QSM X (.For tg iter body [] pos) (mFor it g f) := by
  simp only [QEM_eq, QAM_eq, QTMt_eq, QWM_eq, QFM_eq, QSM_eq, QBM_eq, QGM_eq, QGMs_eq, QIM_eq] at *; apply @sm_for <;> assumption
section
variable {ifs : List Expr} {scope : Scope} {vs fs : List Str} {fr : List Nat} {it : PSt → M (List PV)} {g : PV → PSt → Option PSt} {tt : PSt → M Bool} {te : PSt → M SV}
@[irreducible] def QTsM (X : Cx) (ifs : List Expr) (t : PSt → M Bool) : Prop := TsM X ifs t
theorem QTsM_eq : @QTsM = @TsM := by unfold QTsM; rfl
theorem q_ts_nil : QTsM X [] tOk := by
  simp only [QEM_eq, QAM_eq, QTMt_eq, QWM_eq, QFM_eq, QSM_eq, QBM_eq, QGM_eq, QGMs_eq, QIM_eq, QTsM_eq] at *; apply @ts_nil <;> assumption
theorem q_fm_comp (S : CSc X scope vs fs fr) (hc : X.calm = true) (hi : QIM X tg iter it)
    (bG : ∀ C s₀ H₀ ex pn, QGM (CompCx X (vs ++ fs) scope C s₀ H₀ ex pn) tg g) (bT : ∀ C s₀ H₀ ex pn, QTsM (CompCx X (vs ++ fs) scope C s₀ H₀ ex pn) ifs tt) (bE : ∀ C s₀ H₀ ex pn, QEM (CompCx X (vs ++ fs) scope C s₀ H₀ ex pn) elt te)
    (hs : ∀ x, foldedSetIterable iter X.env x = pure x := by intro _; rfl) : QFM X (.ListComp elt [⟨tg, iter, ifs, 0⟩] scope pos) (mComp it vs fr g tt te) := by
  simp only [QEM_eq, QAM_eq, QTMt_eq, QWM_eq, QFM_eq, QSM_eq, QBM_eq, QGM_eq, QGMs_eq, QIM_eq, QTsM_eq] at *; apply @fm_comp <;> assumption
end
end
theorem q_fm_call {X : Cx} {e : Expr} {es : List Expr} {p pos : Pos} {x : Str} {k : Nat} {f : Addr} {fd : FuncData} {ps : List Str} {F : List SV → M (List PV)} {fs : PSt → M (List SV)} (G : FnOk X.prog X.w X.K X.mg X.base CX0 k f fd ps (liftSpF X.K F)) (hr : Room k X.A) (hg : Gl X x) (hm : X.mg x = some (.ref f)) (hk : PySem.W.keepIn X.K (.ref f) = true) (hb : L2.Binds X.K fd ps [])
    (ha : QAM X (e :: es) fs) (hdb : (x == ("__debug__" : Str)) = false := by decide) (he : starEach (e :: es) X.env = (false, eval e X.env) :: starEach es X.env := by rfl) (hpl : (backTo pos (starEach es X.env)).any (·.1) = false := by rfl) :
    QFM X (.Call (.Name x p) (e :: es) [] pos) (mFnF F fs) := by
  simp only [QEM_eq, QAM_eq, QTMt_eq, QWM_eq, QFM_eq, QSM_eq, QBM_eq, QGM_eq, QGMs_eq, QIM_eq, QTsM_eq] at *; apply @fm_call <;> assumption
section
variable {P : Program} {w : World} {K : PySem.W.Frag} {mg : Str → Option Value} {base : Heap}
theorem q_fn_mk {x qual : Str} {st : Stmt} {f : Addr} {fd : FuncData} {N ps : List Str} {k : Nat} {body : PSt → M PF} (F : Fun K x qual st f fd) (S : FnScope N ps (defScope st))
    (hbody : ∀ (cdv : Value) (A : Around) (outer : List Env) (s : Shared) (H : Hp) (E : XK), Room k (A.deeper (envOfC qual (defScope st) s.heap.objs.size f cdv)) →
      QBM (cxOf CX0 P w K mg base N qual (defScope st) f cdv A outer s H E).nox (defBody st) body) : FnOk P w K mg base CX0 (k + 1) f fd ps (liftSp K (mDef ps.length (N.length - ps.length) body)) := by
  simp only [QEM_eq, QAM_eq, QTMt_eq, QWM_eq, QFM_eq, QSM_eq, QBM_eq, QGM_eq, QGMs_eq, QIM_eq, QTsM_eq] at *; apply @fn_mk <;> assumption
theorem q_fn_mkF {x qual : Str} {st : Stmt} {f : Addr} {fd : FuncData} {N ps : List Str} {k : Nat} {body : PSt → M PF} (F : Fun K x qual st f fd) (S : FnScope N ps (defScope st))
    (hbody : ∀ (cdv : Value) (A : Around) (outer : List Env) (s : Shared) (H : Hp) (E : XK), Room k (A.deeper (envOfC qual (defScope st) s.heap.objs.size f cdv)) →
      QBM (cxOf CX0 P w K mg base N qual (defScope st) f cdv A outer s H E).nox (defBody st) body) : FnOk P w K mg base CX0 (k + 1) f fd ps (liftSpF K (mDefF ps.length (N.length - ps.length) body)) := by
  simp only [QEM_eq, QAM_eq, QTMt_eq, QWM_eq, QFM_eq, QSM_eq, QBM_eq, QGM_eq, QGMs_eq, QIM_eq, QTsM_eq] at *; apply @fn_mkF <;> assumption
end
end Pu
namespace Pu
open PySem PySem.Spec L2
open PyProof.Rows hiding St Fr
section
variable {K : PySem.W.Frag} {ι : List Addr} {H : Hp} {C : Cs} {Q : VK} {z : PV}
end
section
variable {X : Cx}
variable {a b e c : Expr} {es : List Expr} {fa fb fc : PSt → M SV} {pos p : Pos} {x : Str}
theorem q_em_add (ha : QEM X a fa) (hb : QEM X b fb) : QEM X (.BinOp a .Add b pos) (mOp (g2 addP) fa fb) := by
  simp only [QEM_eq, QAM_eq, QTMt_eq, QWM_eq, QFM_eq, QSM_eq, QBM_eq, QGM_eq, QGMs_eq, QIM_eq, QTsM_eq] at *; apply @em_add <;> assumption
theorem q_em_sub (ha : QEM X a fa) (hb : QEM X b fb) : QEM X (.BinOp a .Sub b pos) (mOp (g2 subP) fa fb) := by
  simp only [QEM_eq, QAM_eq, QTMt_eq, QWM_eq, QFM_eq, QSM_eq, QBM_eq, QGM_eq, QGMs_eq, QIM_eq, QTsM_eq] at *; apply @em_sub <;> assumption
theorem q_em_mul (ha : QEM X a fa) (hb : QEM X b fb) : QEM X (.BinOp a .Mult b pos) (mOp (g2 mulP) fa fb) := by
  simp only [QEM_eq, QAM_eq, QTMt_eq, QWM_eq, QFM_eq, QSM_eq, QBM_eq, QGM_eq, QGMs_eq, QIM_eq, QTsM_eq] at *; apply @em_mul <;> assumption
theorem q_em_mod (ha : QEM X a fa) (hb : QEM X b fb) : QEM X (.BinOp a .Mod b pos) (mOp (g2 modP) fa fb) := by
  simp only [QEM_eq, QAM_eq, QTMt_eq, QWM_eq, QFM_eq, QSM_eq, QBM_eq, QGM_eq, QGMs_eq, QIM_eq, QTsM_eq] at *; apply @em_mod <;> assumption
theorem q_em_fdiv (ha : QEM X a fa) (hb : QEM X b fb) : QEM X (.BinOp a .FloorDiv b pos) (mOp (g2 fdivP) fa fb) := by
  simp only [QEM_eq, QAM_eq, QTMt_eq, QWM_eq, QFM_eq, QSM_eq, QBM_eq, QGM_eq, QGMs_eq, QIM_eq, QTsM_eq] at *; apply @em_fdiv <;> assumption
theorem q_em_pow (ha : QEM X a fa) (hb : QEM X b fb) : QEM X (.BinOp a .Pow b pos) (mOp (g2 powP) fa fb) := by
  simp only [QEM_eq, QAM_eq, QTMt_eq, QWM_eq, QFM_eq, QSM_eq, QBM_eq, QGM_eq, QGMs_eq, QIM_eq, QTsM_eq] at *; apply @em_pow <;> assumption
theorem q_em_neg (ha : QEM X a fa) : QEM X (.UnaryOp .USub a pos) (mNeg fa) := by
  simp only [QEM_eq, QAM_eq, QTMt_eq, QWM_eq, QFM_eq, QSM_eq, QBM_eq, QGM_eq, QGMs_eq, QIM_eq, QTsM_eq] at *; apply @em_neg <;> assumption
end
end Pu
namespace Pu
open PySem PySem.Spec L2
open PyProof.Rows hiding St Fr
section
variable {X : Cx} {a b e c o : Expr} {es : List Expr} {fa fb fc fo : PSt → M SV} {fs : PSt → M (List SV)} {pos p apos cpos : Pos} {x : Str}
theorem q_em_isi (hgl : Gl X "isinstance") (hm : X.mg "isinstance" = none) (hv : bootBuiltins "isinstance" = some (.builtin "isinstance")) (ha : QAM X (e :: es) fs)
    (he : starEach (e :: es) X.env = (false, eval e X.env) :: starEach es X.env := by rfl) (hpl : (backTo pos (starEach es X.env)).any (·.1) = false := by rfl) : QEM X (.Call (.Name "isinstance" p) (e :: es) [] pos) (mCB (g1 isiH) fs) := by
  simp only [QEM_eq, QAM_eq, QTMt_eq, QWM_eq, QFM_eq, QSM_eq, QBM_eq, QGM_eq, QGMs_eq, QIM_eq, QTsM_eq] at *; apply @em_isi <;> assumption
theorem q_em_len (hgl : Gl X "len") (hm : X.mg "len" = none) (ha : QAM X (e :: es) fs)
    (he : starEach (e :: es) X.env = (false, eval e X.env) :: starEach es X.env := by rfl) (hpl : (backTo pos (starEach es X.env)).any (·.1) = false := by rfl) : QEM X (.Call (.Name "len" p) (e :: es) [] pos) (mCB (g1 lenH) fs) := by
  simp only [QEM_eq, QAM_eq, QTMt_eq, QWM_eq, QFM_eq, QSM_eq, QBM_eq, QGM_eq, QGMs_eq, QIM_eq, QTsM_eq] at *; apply @em_len <;> assumption
theorem q_em_max (hc : X.calm = true) (hgl : Gl X "max") (hm : X.mg "max" = none) (hv : bootBuiltins "max" = some (.builtin "max")) (ha : QAM X (e :: es) fs)
    (he : starEach (e :: es) X.env = (false, eval e X.env) :: starEach es X.env := by rfl) (hpl : (backTo pos (starEach es X.env)).any (·.1) = false := by rfl) : QEM X (.Call (.Name "max" p) (e :: es) [] pos) (mCB (g1 maxH) fs) := by
  simp only [QEM_eq, QAM_eq, QTMt_eq, QWM_eq, QFM_eq, QSM_eq, QBM_eq, QGM_eq, QGMs_eq, QIM_eq, QTsM_eq] at *; apply @em_max <;> assumption
theorem q_em_intc (hgl : Gl X "int") (hm : X.mg "int" = none) (hv : bootBuiltins "int" = some (.type "int")) (ha : QAM X (e :: es) fs)
    (he : starEach (e :: es) X.env = (false, eval e X.env) :: starEach es X.env := by rfl) (hpl : (backTo pos (starEach es X.env)).any (·.1) = false := by rfl) : QEM X (.Call (.Name "int" p) (e :: es) [] pos) (mCB (g1 intH) fs) := by
  simp only [QEM_eq, QAM_eq, QTMt_eq, QWM_eq, QFM_eq, QSM_eq, QBM_eq, QGM_eq, QGMs_eq, QIM_eq, QTsM_eq] at *; apply @em_intc <;> assumption
theorem q_em_tupc (hgl : Gl X "tuple") (hm : X.mg "tuple" = none) (hv : bootBuiltins "tuple" = some (.type "tuple")) (ha : QAM X (e :: es) fs)
    (he : starEach (e :: es) X.env = (false, eval e X.env) :: starEach es X.env := by rfl) (hpl : (backTo pos (starEach es X.env)).any (·.1) = false := by rfl) : QEM X (.Call (.Name "tuple" p) (e :: es) [] pos) (mCB (g1 tupH) fs) := by
  simp only [QEM_eq, QAM_eq, QTMt_eq, QWM_eq, QFM_eq, QSM_eq, QBM_eq, QGM_eq, QGMs_eq, QIM_eq, QTsM_eq] at *; apply @em_tupc <;> assumption
theorem q_fm_listc (hgl : Gl X "list") (hm : X.mg "list" = none) (hv : bootBuiltins "list" = some (.type "list")) (ha : QAM X (e :: es) fs)
    (he : starEach (e :: es) X.env = (false, eval e X.env) :: starEach es X.env := by rfl) (hpl : (backTo pos (starEach es X.env)).any (·.1) = false := by rfl) : QFM X (.Call (.Name "list" p) (e :: es) [] pos) (mList fs) := by
  simp only [QEM_eq, QAM_eq, QTMt_eq, QWM_eq, QFM_eq, QSM_eq, QBM_eq, QGM_eq, QGMs_eq, QIM_eq, QTsM_eq] at *; apply @fm_listc <;> assumption
theorem q_em_all (hc : X.calm = true) (hgl : Gl X "all") (hm : X.mg "all" = none) (hv : bootBuiltins "all" = some (.builtin "all")) (ha : QAM X (e :: es) fs)
    (he : starEach (e :: es) X.env = (false, eval e X.env) :: starEach es X.env := by rfl) (hpl : (backTo pos (starEach es X.env)).any (·.1) = false := by rfl) : QEM X (.Call (.Name "all" p) (e :: es) [] pos) (mCB (g1 allH) fs) := by
  simp only [QEM_eq, QAM_eq, QTMt_eq, QWM_eq, QFM_eq, QSM_eq, QBM_eq, QGM_eq, QGMs_eq, QIM_eq, QTsM_eq] at *; apply @em_all <;> assumption
end
end Pu
namespace Pu
open PySem PySem.Spec L2
open PyProof.Rows hiding St Fr
section
variable {X : Cx} {a b e c o i : Expr} {es : List Expr} {fa fb fc fo fi fv : PSt → M SV} {fs : PSt → M (List SV)} {pos p apos cpos : Pos} {x : Str}
theorem q_em_append (ho : QEM X o fo) (ha : QAM X (e :: es) fs) (hbase : attributeBase o "append" X.env (eval o X.env) = eval o X.env := by rfl)
    (hfew : ((backTo cpos (starEach (e :: es) X.env)).all (fun x => !x.1) && (backToKw cpos (keywordEach [] X.env)).all (fun x => x.1.isSome)
      && decide ((e :: es).length + ([] : List Keyword).length + (if ([] : List Keyword).isEmpty then 0 else 1) < 30)) = true := by rfl)
    (hline : (apos.endLine == cpos.line) = true := by rfl) (hs : starEach (e :: es) X.env = (false, eval e X.env) :: starEach es X.env := by rfl) (hplain : (backTo cpos (starEach es X.env)).any (·.1) = false := by rfl) :
    QEM X (.Call (.Attribute o "append" apos) (e :: es) [] cpos) (mApp fo fs) := by
  simp only [QEM_eq, QAM_eq, QTMt_eq, QWM_eq, QFM_eq, QSM_eq, QBM_eq, QGM_eq, QGMs_eq, QIM_eq, QTsM_eq] at *; apply @em_append <;> assumption
theorem q_sm_setix {spos : Pos} (hv : QEM X e fv) (ho : QEM X o fo) (hi : QEM X i fi)
    (ha : ∀ v, assign (.Subscript o i spos) X.env v = (do
      let ov ← holding [v] (eval o X.env)
      let iv ← holding [v, ov] (eval i X.env)
      standAt spos
      holding [v, ov, iv] (setItem ov iv v)
      release [v, ov, iv] []) := by intro _; rfl)
    (hs : swapsWithSole [.Subscript o i spos] e pos.line X.env = pure false := by rfl) (hw : swappedStores [.Subscript o i spos] e X.env = pure none := by rfl)
    (h1 : (assignEach [.Subscript o i spos] X.env).map (·.2) = [assign (.Subscript o i spos) X.env] := by rfl) : QSM X (.Assign [.Subscript o i spos] e pos) (mSetIx fv fo fi) := by
  simp only [QEM_eq, QAM_eq, QTMt_eq, QWM_eq, QFM_eq, QSM_eq, QBM_eq, QGM_eq, QGMs_eq, QIM_eq, QTsM_eq] at *; apply @sm_setix <;> assumption
variable {tg l : Expr}
theorem q_im_val (hl : QEM X l fa) : QIM X tg l (mItems fa) := by
  simp only [QEM_eq, QAM_eq, QTMt_eq, QWM_eq, QFM_eq, QSM_eq, QBM_eq, QGM_eq, QGMs_eq, QIM_eq, QTsM_eq] at *; apply @im_val <;> assumption
theorem q_im_range1 (hg : Gl X "range") (hm : X.mg "range" = none) (ha : QAM X [a] fs) (hs : starEach [a] X.env = [(false, eval a X.env)] := by rfl) : QIM X tg (.Call (.Name "range" p) [a] [] pos) (mRange1 fs) := by
  simp only [QEM_eq, QAM_eq, QTMt_eq, QWM_eq, QFM_eq, QSM_eq, QBM_eq, QGM_eq, QGMs_eq, QIM_eq, QTsM_eq] at *; apply @im_range1 <;> assumption
theorem q_im_range2 (hg : Gl X "range") (hm : X.mg "range" = none) (ha : QAM X [a, b] fs) (hs : starEach [a, b] X.env = [(false, eval a X.env), (false, eval b X.env)] := by rfl) (hs2 : starEach [b] X.env = [(false, eval b X.env)] := by rfl) : QIM X tg (.Call (.Name "range" p) [a, b] [] pos) (mRange2 fs) := by
  simp only [QEM_eq, QAM_eq, QTMt_eq, QWM_eq, QFM_eq, QSM_eq, QBM_eq, QGM_eq, QGMs_eq, QIM_eq, QTsM_eq] at *; apply @im_range2 <;> assumption
end
end Pu
namespace Pu
open PySem PySem.Spec L2
open PyProof.Rows hiding St Fr
section
variable {prog : Program} {w : World} {A : Around} {E : Value → Shared → Prop} {s : Shared}
end
@[irreducible] def QOM (X : Cx) (e : Option Expr) (f : PSt → M (Option Int)) : Prop := OM X e f
theorem QOM_eq : @QOM = @OM := by unfold QOM; rfl
section
variable {X : Cx} {a b e c o i : Expr} {es : List Expr} {fa fb fc fo fi fv : PSt → M SV} {fs : PSt → M (List SV)} {pos p apos cpos p2 : Pos} {x : Str} {lo hi : Option Expr} {l h : PSt → M (Option Int)}
theorem q_om_none : QOM X none oNo := by
  simp only [QEM_eq, QAM_eq, QTMt_eq, QWM_eq, QFM_eq, QSM_eq, QBM_eq, QGM_eq, QGMs_eq, QIM_eq, QTsM_eq, QOM_eq] at *; apply @om_none <;> assumption
theorem q_om_some (he : QEM X e fa) : QOM X (some e) (oPart fa) := by
  simp only [QEM_eq, QAM_eq, QTMt_eq, QWM_eq, QFM_eq, QSM_eq, QBM_eq, QGM_eq, QGMs_eq, QIM_eq, QTsM_eq, QOM_eq] at *; apply @om_some <;> assumption
theorem q_em_slice (he : QEM X e fa) (hl : QOM X lo l) (hh : QOM X hi h) : QEM X (.Subscript e (.Slice lo hi none p2) pos) (mSlice fa l h) := by
  simp only [QEM_eq, QAM_eq, QTMt_eq, QWM_eq, QFM_eq, QSM_eq, QBM_eq, QGM_eq, QGMs_eq, QIM_eq, QTsM_eq, QOM_eq] at *; apply @em_slice <;> assumption
end
end Pu
namespace Pu
open PySem PySem.Spec L2
open PyProof.Rows hiding St Fr
section
variable {X : Cx} {a b e c o i : Expr} {es : List Expr} {fa fb fc fo fi fv : PSt → M SV} {fs : PSt → M (List SV)} {pos p apos cpos p2 : Pos} {x : Str}
theorem q_em_join (ho : QEM X o fo) (ha : QAM X (e :: es) fs) (hbase : attributeBase o "join" X.env (eval o X.env) = eval o X.env := by rfl)
    (hfew : ((backTo cpos (starEach (e :: es) X.env)).all (fun x => !x.1) && (backToKw cpos (keywordEach [] X.env)).all (fun x => x.1.isSome)
      && decide ((e :: es).length + ([] : List Keyword).length + (if ([] : List Keyword).isEmpty then 0 else 1) < 30)) = true := by rfl)
    (hline : (apos.endLine == cpos.line) = true := by rfl) (hs : starEach (e :: es) X.env = (false, eval e X.env) :: starEach es X.env := by rfl) (hplain : (backTo cpos (starEach es X.env)).any (·.1) = false := by rfl) :
    QEM X (.Call (.Attribute o "join" apos) (e :: es) [] cpos) (mMt "str" joinH fo fs) := by
  simp only [QEM_eq, QAM_eq, QTMt_eq, QWM_eq, QFM_eq, QSM_eq, QBM_eq, QGM_eq, QGMs_eq, QIM_eq, QTsM_eq, QOM_eq] at *; apply @em_join <;> assumption
theorem q_em_strip (ho : QEM X o fo) (ha : QAM X (e :: es) fs) (hbase : attributeBase o "strip" X.env (eval o X.env) = eval o X.env := by rfl)
    (hfew : ((backTo cpos (starEach (e :: es) X.env)).all (fun x => !x.1) && (backToKw cpos (keywordEach [] X.env)).all (fun x => x.1.isSome)
      && decide ((e :: es).length + ([] : List Keyword).length + (if ([] : List Keyword).isEmpty then 0 else 1) < 30)) = true := by rfl)
    (hline : (apos.endLine == cpos.line) = true := by rfl) (hs : starEach (e :: es) X.env = (false, eval e X.env) :: starEach es X.env := by rfl) (hplain : (backTo cpos (starEach es X.env)).any (·.1) = false := by rfl) :
    QEM X (.Call (.Attribute o "strip" apos) (e :: es) [] cpos) (mMt "str" stripH fo fs) := by
  simp only [QEM_eq, QAM_eq, QTMt_eq, QWM_eq, QFM_eq, QSM_eq, QBM_eq, QGM_eq, QGMs_eq, QIM_eq, QTsM_eq, QOM_eq] at *; apply @em_strip <;> assumption
theorem q_em_index (ho : QEM X o fo) (ha : QAM X (e :: es) fs) (hbase : attributeBase o "index" X.env (eval o X.env) = eval o X.env := by rfl)
    (hfew : ((backTo cpos (starEach (e :: es) X.env)).all (fun x => !x.1) && (backToKw cpos (keywordEach [] X.env)).all (fun x => x.1.isSome)
      && decide ((e :: es).length + ([] : List Keyword).length + (if ([] : List Keyword).isEmpty then 0 else 1) < 30)) = true := by rfl)
    (hline : (apos.endLine == cpos.line) = true := by rfl) (hs : starEach (e :: es) X.env = (false, eval e X.env) :: starEach es X.env := by rfl) (hplain : (backTo cpos (starEach es X.env)).any (·.1) = false := by rfl) :
    QEM X (.Call (.Attribute o "index" apos) (e :: es) [] cpos) (mMt "list" indexH fo fs) := by
  simp only [QEM_eq, QAM_eq, QTMt_eq, QWM_eq, QFM_eq, QSM_eq, QBM_eq, QGM_eq, QGMs_eq, QIM_eq, QTsM_eq, QOM_eq] at *; apply @em_index <;> assumption
theorem q_em_ixA (hu : X.A.units + 1 < cLine) (ha : QEM X a fa) (hb : QEM X b fb) (hs : PlainIx b := by exact fun _ _ => rfl) : QEM X (.Subscript a b pos) (mOp (g2 ixQ) fa fb) := by
  simp only [QEM_eq, QAM_eq, QTMt_eq, QWM_eq, QFM_eq, QSM_eq, QBM_eq, QGM_eq, QGMs_eq, QIM_eq, QTsM_eq, QOM_eq] at *; apply @em_ixA <;> assumption
theorem q_em_get1 (ho : QEM X o fo) (ha : QAM X (e :: es) fs) (hbase : attributeBase o "get" X.env (eval o X.env) = eval o X.env := by rfl)
    (hfew : ((backTo cpos (starEach (e :: es) X.env)).all (fun x => !x.1) && (backToKw cpos (keywordEach [] X.env)).all (fun x => x.1.isSome)
      && decide ((e :: es).length + ([] : List Keyword).length + (if ([] : List Keyword).isEmpty then 0 else 1) < 30)) = true := by rfl)
    (hline : (apos.endLine == cpos.line) = true := by rfl) (hs : starEach (e :: es) X.env = (false, eval e X.env) :: starEach es X.env := by rfl) (hplain : (backTo cpos (starEach es X.env)).any (·.1) = false := by rfl) :
    QEM X (.Call (.Attribute o "get" apos) (e :: es) [] cpos) (mMt "dict" getH fo fs) := by
  simp only [QEM_eq, QAM_eq, QTMt_eq, QWM_eq, QFM_eq, QSM_eq, QBM_eq, QGM_eq, QGMs_eq, QIM_eq, QTsM_eq, QOM_eq] at *; apply @em_get1 <;> assumption
@[irreducible] def QDM (X : Cx) (ks : List (Option Expr)) (es : List Expr) (keys : List Str) (f : PSt → M (List SV)) : Prop := DM X ks es keys f
theorem QDM_eq : @QDM = @DM := by unfold QDM; rfl
theorem q_dm_nil : QDM X [] [] [] aNil := by
  simp only [QEM_eq, QAM_eq, QTMt_eq, QWM_eq, QFM_eq, QSM_eq, QBM_eq, QGM_eq, QGMs_eq, QIM_eq, QTsM_eq, QOM_eq, QDM_eq] at *; apply @dm_nil <;> assumption
theorem q_dm_cons {k : Str} {j1 : Nat} {p1 : Pos} {ks : List (Option Expr)} {keys : List Str} (h : QEM X e fa) (t : QDM X ks es keys fs) : QDM X (some (.Constant (.str k) j1 p1) :: ks) (e :: es) (k :: keys) (aCons fa fs) := by
  simp only [QEM_eq, QAM_eq, QTMt_eq, QWM_eq, QFM_eq, QSM_eq, QBM_eq, QGM_eq, QGMs_eq, QIM_eq, QTsM_eq, QOM_eq, QDM_eq] at *; apply @dm_cons <;> assumption
theorem q_em_dict {ks : List (Option Expr)} {keys : List Str} (h : QDM X ks es keys fs) (nd : (keys.map (Sum.inr : Str → Key)).Nodup) (hall : ks.all (·.isSome) = true) (hl : ks.length = es.length) (h0 : ks ≠ []) (hlen : ks.length ≤ 15) (hk : keys.length = ks.length) :
    QEM X (.Dict ks es pos) (mDict keys fs) := by
  simp only [QEM_eq, QAM_eq, QTMt_eq, QWM_eq, QFM_eq, QSM_eq, QBM_eq, QGM_eq, QGMs_eq, QIM_eq, QTsM_eq, QOM_eq, QDM_eq] at *; apply @em_dict <;> assumption
end
end Pu
namespace Pu
open PySem PySem.Spec L2
open PyProof.Rows hiding St Fr
section
variable {X : Cx} {a b e c o i : Expr} {es : List Expr} {fa fb fc fo fi fv : PSt → M SV} {fs : PSt → M (List SV)} {pos p apos cpos p2 : Pos} {x : Str} {d : Addr} {tab : List (Str × Addr)}
theorem q_em_top (hg : Gl X x) (hm : X.mg x = some (.ref d)) (hd : (x == ("__debug__" : Str)) = false := by decide) : QEM X (.Name x pos) (mC (.fn d)) := by
  simp only [QEM_eq, QAM_eq, QTMt_eq, QWM_eq, QFM_eq, QSM_eq, QBM_eq, QGM_eq, QGMs_eq, QIM_eq, QTsM_eq, QOM_eq, QDM_eq] at *; apply @em_top <;> assumption
theorem q_em_topix (T : TopD X.K X.w d tab) (ha : QEM X a fa) (hb : QEM X b fb) (hs : PlainIx b := by exact fun _ _ => rfl) : QEM X (.Subscript a b pos) (mOp (topG d tab) fa fb) := by
  simp only [QEM_eq, QAM_eq, QTMt_eq, QWM_eq, QFM_eq, QSM_eq, QBM_eq, QGM_eq, QGMs_eq, QIM_eq, QTsM_eq, QOM_eq, QDM_eq] at *; apply @em_topix <;> assumption
theorem q_em_callV {k : Nat} {T : List (Addr × (List SV → M SV))} (i : Nat) (hok : ∀ a F, T.lookup a = some F → ∃ fd ps, FnOk X.prog X.w X.K X.mg X.base CX0 k a fd ps (liftSp X.K F) ∧ PySem.W.keepIn X.K (.ref a) = true ∧ L2.Binds X.K fd ps []) (hr : Room k X.A) (ha : QAM X (e :: es) fs)
    (hN : X.N[i]? = some x := by rfl) (hv : Vis X.env.scope x := by first | exact Or.inl rfl | exact Or.inr (Or.inl rfl) | exact Or.inr (Or.inr rfl)) (hdb : (x == ("__debug__" : Str)) = false := by decide) (hcd : (x == ("__classdict__" : Str)) = false := by decide)
    (he : starEach (e :: es) X.env = (false, eval e X.env) :: starEach es X.env := by rfl) (hpl : (backTo pos (starEach es X.env)).any (·.1) = false := by rfl) :
    QEM X (.Call (.Name x p) (e :: es) [] pos) (mCallV i T fs) := by
  simp only [QEM_eq, QAM_eq, QTMt_eq, QWM_eq, QFM_eq, QSM_eq, QBM_eq, QGM_eq, QGMs_eq, QIM_eq, QTsM_eq, QOM_eq, QDM_eq] at *; apply @em_callV <;> assumption
theorem q_em_dict0 : QEM X (.Dict [] [] pos) mDict0 := by
  simp only [QEM_eq, QAM_eq, QTMt_eq, QWM_eq, QFM_eq, QSM_eq, QBM_eq, QGM_eq, QGMs_eq, QIM_eq, QTsM_eq, QOM_eq, QDM_eq] at *; apply @em_dict0 <;> assumption
end
end Pu
namespace Pu
open PySem PySem.Spec L2
open PyProof.Rows hiding St Fr
section
variable {P : Program} {w : World} {A : Around} {E : Value → Shared → Prop} {s : Shared} {z TI TO i1 i2 : Addr} {us1 us2 : List Addr} {R1 R2 : Value → Prop} {st1 st1' st2 st2' : Heap → Prop}
end
section
variable {X : Cx} {pins : List (Addr × Obj)} {σ : St} {H : Hp} {s : Shared}
end
end Pu
namespace Pu
open PySem PySem.Spec L2
open PyProof.Rows hiding St Fr
section
variable {X : Cx} {pins : List (Addr × Obj)} {σ : St} {H : Hp} {s : Shared}
end
section
variable {X : Cx} {pins : List (Addr × Obj)} {σ : St} {H : Hp} {s : Shared}
end
theorem q_im_zip {X : Cx} {a b : Expr} {fs : PSt → M (List SV)} {elts : List Expr} {x1 : Nat} {tpos p pos : Pos} (hg : Gl X "zip") (hm : X.mg "zip" = none) (ha : QAM X [a, b] fs)
    (hs : starEach [a, b] X.env = [(false, eval a X.env), (false, eval b X.env)] := by rfl) (hs2 : starEach [b] X.env = [(false, eval b X.env)] := by rfl) : QIM X (.Tuple elts x1 tpos) (.Call (.Name "zip" p) [a, b] [] pos) (mZip fs) := by
  simp only [QEM_eq, QAM_eq, QTMt_eq, QWM_eq, QFM_eq, QSM_eq, QBM_eq, QGM_eq, QGMs_eq, QIM_eq, QTsM_eq, QOM_eq, QDM_eq] at *; apply @im_zip <;> assumption
end Pu

set_option Elab.async false
set_option linter.all false
set_option maxRecDepth 100000
set_option maxHeartbeats 4000000
namespace K12
open PySem PySem.Spec L2 Pu
open PyProof.Rows hiding St Fr
def tab_DEEDS (f_is_bare f_is_of_word f_is_of_part f_is_of_clause f_is_of_house : Addr) : List (Str × Addr) := [("join", f_is_bare), ("say", f_is_of_word), ("do", f_is_of_part), ("free", f_is_of_clause), ("ready", f_is_of_clause), ("hand", f_is_of_house), ("quit", f_is_of_clause), ("note", f_is_bare)]
abbrev B_is_number : PSt → M PF := (mRet (mAndV (mCB (g1 isiH) (aCons (mVar 0) (aCons (mC (.ty "int")) aNil))) (mAndV (mNotV (mCB (g1 isiH) (aCons (mVar 0) (aCons (mC (.ty "bool")) aNil)))) (mOp (g2 geP) (mVar 0) (mVar 1)))))
def F_is_number : List SV → M SV := mDef 2 0 (B_is_number)
abbrev B_is_number_below : PSt → M PF := (mRet (mAndV (mFn F_is_number (aCons (mVar 0) (aCons (mC (.int 0)) aNil))) (mOp (g2 ltP) (mVar 0) (mVar 1))))
def F_is_number_below : List SV → M SV := mDef 2 0 (B_is_number_below)
abbrev B_is_word : PSt → M PF := (mSeq (mIfS (mOrT (mNotT (mTru (mCB (g1 isiH) (aCons (mVar 0) (aCons (mC (.ty "str")) aNil))))) (mNotT (mTest (mChain (g2 leP) (g2 leP) (mC (.int 1)) (mCB (g1 lenH) (aCons (mVar 0) aNil)) (mC (.int 12)))))) (mRet (mC (.bl false))) mSkip) (mRet (mCB (g1 allH) (aCons (mVal (mComp (mItems (mVar 0)) ["sign"] [] (hName 0) tOk (mOp (g2 inP) (mVar 0) (mC (.str "abcdefghijklmnopqrstuvwxyz"))))) aNil))))
def F_is_word : List SV → M SV := mDef 1 0 (B_is_word)
abbrev B_is_clause_number : PSt → M PF := (mRet (mFn F_is_number_below (aCons (mVar 0) (aCons (mC (.int 12)) aNil))))
def F_is_clause_number : List SV → M SV := mDef 1 0 (B_is_clause_number)
abbrev B_is_bare : PSt → M PF := (mRet (mOp (g2 eqP) (mCB (g1 lenH) (aCons (mVar 0) aNil)) (mC (.int 0))))
def F_is_bare : List SV → M SV := mDef 1 0 (B_is_bare)
abbrev B_is_of_word : PSt → M PF := (mRet (mAndV (mOp (g2 eqP) (mCB (g1 lenH) (aCons (mVar 0) aNil)) (mC (.int 1))) (mFn F_is_word (aCons (mOp (g2 ixQ) (mVar 0) (mC (.int 0))) aNil))))
def F_is_of_word : List SV → M SV := mDef 1 0 (B_is_of_word)
abbrev B_is_of_clause : PSt → M PF := (mRet (mAndV (mOp (g2 eqP) (mCB (g1 lenH) (aCons (mVar 0) aNil)) (mC (.int 1))) (mFn F_is_clause_number (aCons (mOp (g2 ixQ) (mVar 0) (mC (.int 0))) aNil))))
def F_is_of_clause : List SV → M SV := mDef 1 0 (B_is_of_clause)
abbrev B_is_of_part : PSt → M PF := (mRet (mAndV (mOp (g2 eqP) (mCB (g1 lenH) (aCons (mVar 0) aNil)) (mC (.int 2))) (mAndV (mFn F_is_clause_number (aCons (mOp (g2 ixQ) (mVar 0) (mC (.int 0))) aNil)) (mFn F_is_number_below (aCons (mOp (g2 ixQ) (mVar 0) (mC (.int 1))) (aCons (mC (.int 9)) aNil))))))
def F_is_of_part : List SV → M SV := mDef 1 0 (B_is_of_part)
abbrev B_is_of_house : PSt → M PF := (mRet (mAndV (mOp (g2 eqP) (mCB (g1 lenH) (aCons (mVar 0) aNil)) (mC (.int 2))) (mAndV (mFn F_is_clause_number (aCons (mOp (g2 ixQ) (mVar 0) (mC (.int 0))) aNil)) (mAndV (mFn F_is_word (aCons (mOp (g2 ixQ) (mVar 0) (mC (.int 1))) aNil)) (mOp (g2 neP) (mOp (g2 ixQ) (mVar 0) (mC (.int 1))) (mC (.str "bell")))))))
def F_is_of_house : List SV → M SV := mDef 1 0 (B_is_of_house)
def fns_DEEDS (f_is_bare f_is_of_word f_is_of_part f_is_of_clause f_is_of_house : Addr) : List (Addr × (List SV → M SV)) := [(f_is_bare, F_is_bare), (f_is_of_word, F_is_of_word), (f_is_of_part, F_is_of_part), (f_is_of_clause, F_is_of_clause), (f_is_of_house, F_is_of_house)]
abbrev B_is_deed (d_DEEDS f_is_bare f_is_of_word f_is_of_part f_is_of_clause f_is_of_house : Addr) : PSt → M PF := (mSeq (mIfS (mOrT (mNotT (mTru (mCB (g1 isiH) (aCons (mVar 0) (aCons (mC (.ty "tuple")) aNil))))) (mOrT (mNotT (mTru (mVar 0))) (mOrT (mNotT (mTru (mCB (g1 isiH) (aCons (mOp (g2 ixQ) (mVar 0) (mC (.int 0))) (aCons (mC (.ty "str")) aNil))))) (mTest (mOp (topI d_DEEDS (tab_DEEDS f_is_bare f_is_of_word f_is_of_part f_is_of_clause f_is_of_house) true) (mOp (g2 ixQ) (mVar 0) (mC (.int 0))) (mC (.fn d_DEEDS))))))) (mRet (mC (.bl false))) mSkip) (mSeq (mSet 1 (mOp (topG d_DEEDS (tab_DEEDS f_is_bare f_is_of_word f_is_of_part f_is_of_clause f_is_of_house)) (mC (.fn d_DEEDS)) (mOp (g2 ixQ) (mVar 0) (mC (.int 0))))) (mRet (mCallV 1 (fns_DEEDS f_is_bare f_is_of_word f_is_of_part f_is_of_clause f_is_of_house) (aCons (mSlice (mVar 0) (oPart (mC (.int 1))) oNo) aNil)))))
def F_is_deed (d_DEEDS f_is_bare f_is_of_word f_is_of_part f_is_of_clause f_is_of_house : Addr) : List SV → M SV := mDef 1 1 (B_is_deed d_DEEDS f_is_bare f_is_of_word f_is_of_part f_is_of_clause f_is_of_house)
abbrev B_l_cell_at : PSt → M PF := (mSeq (mIfS (mTest (mOp (g2 ltP) (mVar 1) (mCB (g1 lenH) (aCons (mVar 0) aNil)))) (mRet (mOp (g2 ixQ) (mVar 0) (mVar 1))) mSkip) (mRet (mC (.int 0))))
def F_l_cell_at : List SV → M SV := mDef 2 0 (B_l_cell_at)
abbrev B_l_left : PSt → M PF := (mSeq (mSet 2 (mFn F_l_cell_at (aCons (mVar 0) (aCons (mOp (g2 modP) (mVar 1) (mCB (g1 maxH) (aCons (mC (.int 1)) (aCons (mCB (g1 lenH) (aCons (mVar 0) aNil)) aNil)))) aNil)))) (mSeq (mSet 3 (mOp (g2 modP) (mOp (g2 mulP) (mOp (g2 addP) (mOp (g2 addP) (mOp (g2 modP) (mVar 2) (mC (.int 2147483629))) (mOp (g2 mulP) (mOp (g2 mulP) (mC (.int 7919)) (mVar 1)) (mVar 1))) (mC (.int 11))) (mC (.int 48271))) (mC (.int 2147483647)))) (mSeq (mIfS (mTest (mOp (g2 eqP) (mOp (g2 modP) (mFn F_l_cell_at (aCons (mVar 0) (aCons (mC (.int 0)) aNil))) (mC (.int 2))) (mC (.int 0)))) (mSet 2 (mC (.int 0))) mSkip) (mRetF (mLst (aCons (mOp (g2 modP) (mVar 2) (mOp (g2 powP) (mC (.int 10)) (mC (.int 40)))) (aCons (mVar 3) aNil)))))))
def F_l_left : List SV → M SV := mDef 2 2 (B_l_left)
def FF_l_left : List SV → M (List PV) := mDefF 2 2 (B_l_left)
abbrev B_l_pick : PSt → M PF := (mSeq (mIfS (mTest (mOp (g2 gtP) (mOp (g2 ixQ) (mVar 0) (mC (.int 0))) (mC (.int 0)))) (mSeq (mSet 2 (mOp (g2 modP) (mOp (g2 ixQ) (mVar 0) (mC (.int 0))) (mVar 1))) (mSeq (mSetIx (mOp (g2 fdivP) (mOp (g2 ixQ) (mVar 0) (mC (.int 0))) (mVar 1)) (mVar 0) (mC (.int 0))) (mRet (mVar 2)))) mSkip) (mSeq (mSetIx (mOp (g2 modP) (mOp (g2 addP) (mOp (g2 mulP) (mOp (g2 ixQ) (mVar 0) (mC (.int 1))) (mC (.int 48271))) (mC (.int 12345))) (mC (.int 2147483647))) (mVar 0) (mC (.int 1))) (mRet (mOp (g2 modP) (mOp (g2 modP) (mOp (g2 mulP) (mOp (g2 ixQ) (mVar 0) (mC (.int 1))) (mOp (g2 ixQ) (mVar 0) (mC (.int 1)))) (mC (.int 1999999973))) (mVar 1)))))
def F_l_pick : List SV → M SV := mDef 2 1 (B_l_pick)
abbrev B_l_forms : PSt → M PF := (mRet (mDict ["join", "note", "say", "do", "free", "ready", "quit", "hand"] (aCons (mC (.str "")) (aCons (mC (.str "")) (aCons (mC (.str "w")) (aCons (mC (.str "cp")) (aCons (mC (.str "c")) (aCons (mC (.str "c")) (aCons (mC (.str "c")) (aCons (mC (.str "ch")) aNil))))))))))
def F_l_forms : List SV → M SV := mDef 0 0 (B_l_forms)
abbrev B_l_whole : PSt → M PF := (mRet (mAndV (mCB (g1 isiH) (aCons (mVar 0) (aCons (mC (.ty "int")) aNil))) (mAndV (mNotV (mCB (g1 isiH) (aCons (mVar 0) (aCons (mC (.ty "bool")) aNil)))) (mChain (g2 leP) (g2 leP) (mVar 1) (mVar 0) (mVar 2)))))
def F_l_whole : List SV → M SV := mDef 3 0 (B_l_whole)
abbrev B_l_is_word : PSt → M PF := (mRet (mAndV (mCB (g1 isiH) (aCons (mVar 0) (aCons (mC (.ty "str")) aNil))) (mAndV (mChain (g2 leP) (g2 leP) (mC (.int 1)) (mCB (g1 lenH) (aCons (mVar 0) aNil)) (mC (.int 12))) (mOp (g2 eqP) (mMt "str" stripH (mVar 0) (aCons (mC (.str "abcdefghijklmnopqrstuvwxyz")) aNil)) (mC (.str ""))))))
def F_l_is_word : List SV → M SV := mDef 1 0 (B_l_is_word)
abbrev B_l_fits : PSt → M PF := (mSeq (mIfS (mTest (mOp (g2 inP) (mVar 0) (mC (.str "wh")))) (mRet (mAndV (mFn F_l_is_word (aCons (mVar 1) aNil)) (mOrV (mOp (g2 eqP) (mVar 0) (mC (.str "w"))) (mOp (g2 neP) (mVar 1) (mC (.str "bell")))))) mSkip) (mRet (mFn F_l_whole (aCons (mVar 1) (aCons (mC (.int 0)) (aCons (mOp (g2 ixQ) (mVal (mLst (aCons (mC (.int 11)) (aCons (mC (.int 8)) aNil)))) (mCB (g1 intH) (aCons (mOp (g2 eqP) (mVar 0) (mC (.str "p"))) aNil))) aNil))))))
def F_l_fits : List SV → M SV := mDef 2 0 (B_l_fits)
abbrev B_l_is_deed : PSt → M PF := (mSeq (mIfS (mOrT (mNotT (mTru (mCB (g1 isiH) (aCons (mVar 0) (aCons (mC (.ty "tuple")) aNil))))) (mOrT (mTest (mOp (g2 eqP) (mCB (g1 lenH) (aCons (mVar 0) aNil)) (mC (.int 0)))) (mNotT (mTru (mCB (g1 isiH) (aCons (mOp (g2 ixQ) (mVar 0) (mC (.int 0))) (aCons (mC (.ty "str")) aNil))))))) (mRet (mC (.bl false))) mSkip) (mSeq (mSet 1 (mMt "dict" getH (mFn F_l_forms aNil) (aCons (mOp (g2 ixQ) (mVar 0) (mC (.int 0))) aNil))) (mSeq (mIfS (mOrT (mTest (mOp (g2 isNP) (mVar 1) (mC .non))) (mTest (mOp (g2 neP) (mCB (g1 lenH) (aCons (mVar 0) aNil)) (mOp (g2 addP) (mC (.int 1)) (mCB (g1 lenH) (aCons (mVar 1) aNil)))))) (mRet (mC (.bl false))) mSkip) (mRet (mCB (g1 allH) (aCons (mVal (mComp (mZip (aCons (mVar 1) (aCons (mSlice (mVar 0) (oPart (mC (.int 1))) oNo) aNil))) ["_law_sign", "_law_part"] [] (hTup (hCons (hName 0) (hCons (hName 1) hNil)) 2) tOk (mFn F_l_fits (aCons (mVar 0) (aCons (mVar 1) aNil))))) aNil))))))
def F_l_is_deed : List SV → M SV := mDef 1 1 (B_l_is_deed)
abbrev B_l_text : PSt → M PF := (mSeq (mSet 1 (mC (.str "abcdefghijklmnopqrstuvwxyz"))) (mSeq (mSet 2 (mMt "str" joinH (mC (.str "")) (aCons (mVal (mComp (mRange1 (aCons (mOp (g2 addP) (mC (.int 1)) (mFn F_l_pick (aCons (mVar 0) (aCons (mC (.int 12)) aNil)))) aNil)) ["_law_k"] [1, 0] (hName 0) tOk (mOp (g2 ixQ) (mVar 1) (mFn F_l_pick (aCons (mVar 2) (aCons (mC (.int 26)) aNil)))))) aNil))) (mRet (mOp (g2 ixQ) (mVal (mLst (aCons (mVar 2) (aCons (mC (.str "bells")) aNil)))) (mCB (g1 intH) (aCons (mOp (g2 eqP) (mVar 2) (mC (.str "bell"))) aNil))))))
def F_l_text : List SV → M SV := mDef 1 2 (B_l_text)
abbrev B_l_good : PSt → M PF := (mSeq (mSet 1 (mOp (g2 ixQ) (mVal (mLst (aCons (mC (.str "join")) (aCons (mC (.str "say")) (aCons (mC (.str "do")) (aCons (mC (.str "free")) (aCons (mC (.str "ready")) (aCons (mC (.str "hand")) (aCons (mC (.str "quit")) (aCons (mC (.str "note")) aNil)))))))))) (mFn F_l_pick (aCons (mVar 0) (aCons (mC (.int 8)) aNil))))) (mSeq (mNew 2 (mLst aNil)) (mSeq (mFor (mItems (mOp (g2 ixQ) (mFn F_l_forms aNil) (mVar 1))) (hName 3) (mDrop (mApp (mVar 2) (aCons (mOp (g2 ixQ) (mVal (mLst (aCons (mFn F_l_text (aCons (mVar 0) aNil)) (aCons (mFn F_l_pick (aCons (mVar 0) (aCons (mC (.int 12)) aNil))) (aCons (mFn F_l_pick (aCons (mVar 0) (aCons (mC (.int 9)) aNil))) aNil))))) (mOp (g2 modP) (mMt "list" indexH (mVal (mLst (aCons (mC (.str "w")) (aCons (mC (.str "c")) (aCons (mC (.str "p")) (aCons (mC (.str "h")) aNil)))))) (aCons (mVar 3) aNil)) (mC (.int 3)))) aNil)))) (mRet (mOp (g2 addP) (mTup (aCons (mVar 1) aNil)) (mCB (g1 tupH) (aCons (mVar 2) aNil)))))))
def F_l_good : List SV → M SV := mDef 1 3 (B_l_good)
abbrev B_l_odd : PSt → M PF := (mSeq (mSet 1 (mVal (mLst (aCons (mC (.int 12)) (aCons (mC (.int 9)) (aCons (mC (.int 11)) (aCons (mC (.int 8)) (aCons (mNeg (mC (.int 1))) (aCons (mOp (g2 powP) (mC (.int 10)) (mC (.int 29))) (aCons (mC (.bl true)) (aCons (mC (.bl false)) (aCons (mC .non) (aCons (mC (.str "")) (aCons (mC (.str "abcdefghijklm")) (aCons (mC (.str "Ab")) (aCons (mC (.str "a1")) (aCons (mC (.str "a b")) (aCons (mC (.str "bell")) (aCons (mC (.str "x")) (aCons (mTup (aCons (mC (.str "c")) aNil)) aNil)))))))))))))))))))) (mRet (mOp (g2 ixQ) (mOp (g2 addP) (mVar 1) (mVal (mLst (aCons (mVal (mLst (aCons (mC (.str "x")) aNil))) (aCons (mC (.int 0)) (aCons (mC (.str "0")) (aCons (mTup (aCons (mC (.str "note")) aNil)) (aCons (mC (.str "join")) (aCons (mNeg (mOp (g2 powP) (mC (.int 10)) (mC (.int 29)))) (aCons (mTup aNil) aNil)))))))))) (mFn F_l_pick (aCons (mVar 0) (aCons (mC (.int 24)) aNil))))))
def F_l_odd : List SV → M SV := mDef 1 1 (B_l_odd)
abbrev B_l_spoilt : PSt → M PF := (mSeq (mSet 2 (mFn F_l_pick (aCons (mVar 0) (aCons (mC (.int 7)) aNil)))) (mSeq (mIfS (mTest (mOp (g2 eqP) (mVar 2) (mC (.int 0)))) (mRetF (mList (aCons (mVar 1) aNil))) mSkip) (mSeq (mIfS (mTest (mOp (g2 eqP) (mVar 2) (mC (.int 1)))) (mRet (mOp (g2 addP) (mVar 1) (mTup (aCons (mFn F_l_odd (aCons (mVar 0) aNil)) aNil)))) mSkip) (mSeq (mIfS (mTest (mOp (g2 eqP) (mVar 2) (mC (.int 2)))) (mRet (mSlice (mVar 1) oNo (oPart (mOp (g2 subP) (mCB (g1 lenH) (aCons (mVar 1) aNil)) (mC (.int 1)))))) mSkip) (mSeq (mIfS (mTest (mOp (g2 eqP) (mVar 2) (mC (.int 3)))) (mRet (mOp (g2 addP) (mTup (aCons (mOp (g2 ixQ) (mVal (mLst (aCons (mC (.str "joins")) (aCons (mC (.str "did")) (aCons (mC (.str "")) (aCons (mC (.str "note")) (aCons (mC (.str "free")) (aCons (mC (.str "do")) (aCons (mC (.str "hand")) (aCons (mC (.str "say")) aNil)))))))))) (mFn F_l_pick (aCons (mVar 0) (aCons (mC (.int 8)) aNil)))) aNil)) (mSlice (mVar 1) (oPart (mC (.int 1))) oNo))) mSkip) (mSeq (mSet 3 (mFn F_l_pick (aCons (mVar 0) (aCons (mCB (g1 lenH) (aCons (mVar 1) aNil)) aNil)))) (mRet (mOp (g2 addP) (mOp (g2 addP) (mSlice (mVar 1) oNo (oPart (mVar 3))) (mTup (aCons (mFn F_l_odd (aCons (mVar 0) aNil)) aNil))) (mSlice (mVar 1) (oPart (mOp (g2 addP) (mVar 3) (mC (.int 1)))) oNo)))))))))
def F_l_spoilt : List SV → M SV := mDef 2 2 (B_l_spoilt)
abbrev B_l_right (d_DEEDS f_is_bare f_is_of_word f_is_of_part f_is_of_clause f_is_of_house : Addr) : PSt → M PF := (mSeq (mFor (mRange1 (aCons (mC (.int 2)) aNil)) (hName 1) (mSeq (mSet 2 (mFn (F_is_deed d_DEEDS f_is_bare f_is_of_word f_is_of_part f_is_of_clause f_is_of_house) (aCons (mVar 0) aNil))) (mIfS (mOrT (mNotT (mTru (mCB (g1 isiH) (aCons (mVar 2) (aCons (mC (.ty "bool")) aNil))))) (mTest (mOp (g2 neP) (mVar 2) (mFn F_l_is_deed (aCons (mVar 0) aNil))))) (mRet (mC (.bl false))) mSkip))) (mRet (mC (.bl true))))
def F_l_right (d_DEEDS f_is_bare f_is_of_word f_is_of_part f_is_of_clause f_is_of_house : Addr) : List SV → M SV := mDef 1 2 (B_l_right d_DEEDS f_is_bare f_is_of_word f_is_of_part f_is_of_clause f_is_of_house)
abbrev B_law (d_DEEDS f_is_bare f_is_of_word f_is_of_part f_is_of_clause f_is_of_house : Addr) : PSt → M PF := (mSeq (mSet 1 (mVal (mLst (aCons (mTup (aCons (mC (.str "hand")) (aCons (mC (.int 0)) (aCons (mC (.str "bell")) aNil)))) (aCons (mTup (aCons (mC (.str "say")) (aCons (mC (.str "bell")) aNil))) (aCons (mTup aNil) (aCons (mTup (aCons (mC (.str "do")) (aCons (mC (.int 0)) (aCons (mC (.bl true)) aNil)))) (aCons (mTup (aCons (mC (.str "do")) (aCons (mC (.int 11)) (aCons (mC (.int 8)) aNil)))) (aCons (mTup (aCons (mC (.str "do")) (aCons (mC (.int 12)) (aCons (mC (.int 0)) aNil)))) (aCons (mTup (aCons (mC (.str "do")) (aCons (mC (.int 0)) (aCons (mC (.int 9)) aNil)))) aNil)))))))))) (mSeq (mFor (mItems (mOp (g2 addP) (mVar 1) (mVal (mLst (aCons (mTup (aCons (mC (.str "join")) (aCons (mC (.int 0)) aNil))) (aCons (mTup (aCons (mC (.str "note")) aNil)) (aCons (mC (.str "join")) (aCons (mC .non) (aCons mDict0 (aCons (mVal (mLst aNil)) (aCons (mTup (aCons (mC (.str "free")) (aCons (mC (.bl false)) aNil))) (aCons (mTup (aCons (mC (.str "say")) (aCons (mC (.str "")) aNil))) (aCons (mTup (aCons (mC (.str "hand")) (aCons (mC (.int 0)) aNil))) aNil))))))))))))) (hName 2) (mIfS (mNotT (mTru (mFn (F_l_right d_DEEDS f_is_bare f_is_of_word f_is_of_part f_is_of_clause f_is_of_house) (aCons (mVar 2) aNil)))) (mRet (mC (.bl false))) mSkip)) (mSeq (mFor (mRange2 (aCons (mC (.int 1)) (aCons (mOp (g2 addP) (mC (.int 2)) (mCB (g1 lenH) (aCons (mSlice (mVar 0) (oPart (mC (.int 1))) (oPart (mC (.int 22)))) aNil))) aNil))) (hName 3) (mSeq (mNew 4 (mFnF FF_l_left (aCons (mVar 0) (aCons (mVar 3) aNil)))) (mSeq (mSet 5 (mFn F_l_good (aCons (mVar 4) aNil))) (mFor (mItems (mVal (mLst (aCons (mVar 5) (aCons (mFn F_l_spoilt (aCons (mVar 4) (aCons (mVar 5) aNil))) (aCons (mFn F_l_spoilt (aCons (mVar 4) (aCons (mVar 5) aNil))) (aCons (mFn F_l_odd (aCons (mVar 4) aNil)) aNil))))))) (hName 2) (mIfS (mNotT (mTru (mFn (F_l_right d_DEEDS f_is_bare f_is_of_word f_is_of_part f_is_of_clause f_is_of_house) (aCons (mVar 2) aNil)))) (mRet (mC (.bl false))) mSkip))))) (mRet (mC (.bl true))))))
def F_law (d_DEEDS f_is_bare f_is_of_word f_is_of_part f_is_of_clause f_is_of_house : Addr) : List SV → M SV := mDef 1 5 (B_law d_DEEDS f_is_bare f_is_of_word f_is_of_part f_is_of_clause f_is_of_house)
end K12

set_option Elab.async false
set_option linter.all false
set_option maxRecDepth 100000
set_option maxHeartbeats 4000000
namespace K12
open PySem PySem.Spec L2 Pu
open PyProof.Rows hiding St Fr
def top (i : Nat) : Stmt := PySem.Challenge.pw_holdword_k12_deeds.main.body.getD i (.Pass ⟨0, 0, 0, 0⟩)
structure Txt (mg : Str → Option Value) : Prop where
  c_JUDGE : ∃ t, mg "JUDGE" = some (.str "bell" t)
  c_LONGEST_WORD : ∃ t, mg "LONGEST_WORD" = some (.int 12 t)
  c_MOST_CLAUSES : ∃ t, mg "MOST_CLAUSES" = some (.int 12 t)
  c_MOST_PARTS : ∃ t, mg "MOST_PARTS" = some (.int 9 t)
  c_SMALL_LETTERS : ∃ t, mg "SMALL_LETTERS" = some (.str "abcdefghijklmnopqrstuvwxyz" t)
  b_all : mg "all" = none
  b_bool : mg "bool" = none
  b_int : mg "int" = none
  b_isinstance : mg "isinstance" = none
  b_len : mg "len" = none
  b_list : mg "list" = none
  b_max : mg "max" = none
  b_range : mg "range" = none
  b_str : mg "str" = none
  b_tuple : mg "tuple" = none
  b_zip : mg "zip" = none
end K12

set_option Elab.async false
set_option linter.all false
set_option maxRecDepth 100000
set_option maxHeartbeats 4000000
namespace K12
open PySem PySem.Spec L2 Pu
open PyProof.Rows hiding St Fr
section
variable {P : Program} {w : World} {K : PySem.W.Frag} {mg : Str → Option Value} {base : Heap}
abbrev s_is_number : Stmt := top 6
theorem sc_is_number : FnScope ["thing", "least"] ["thing", "least"] (defScope s_is_number) := ⟨rfl, rfl, rfl, by decide +kernel, rfl, by decide +kernel, by decide +kernel⟩
theorem ok_is_number {f_me : Addr} {fd_me : FuncData} (Fn : Fun K "is_number" "is_number" s_is_number f_me fd_me) (T : Txt mg) : FnOk P w K mg base CX0 1 f_me fd_me ["thing", "least"] (liftSp K (F_is_number)) :=
  q_fn_mk Fn sc_is_number fun cdv A outer s H E hr => (@q_bm_one _ _ _ (@q_sm_ret _ _ _ _ (q_em_and (q_em_isi (by rfl) T.b_isinstance (by rfl) (@q_am_cons _ _ _ _ _ (q_em_var 0) (@q_am_cons _ _ _ _ _ (q_em_ty (by rfl) T.b_int (by rfl)) q_am_nil (by rfl)) (by rfl))) (q_em_and (q_em_not (q_em_isi (by rfl) T.b_isinstance (by rfl) (@q_am_cons _ _ _ _ _ (q_em_var 0) (@q_am_cons _ _ _ _ _ (q_em_ty (by rfl) T.b_bool (by rfl)) q_am_nil (by rfl)) (by rfl)))) (q_em_one (q_em_cmp op_ge ge_ok.r (q_em_var 0) (q_em_var 1) (nomark _)))))))
end
end K12

set_option Elab.async false
set_option linter.all false
set_option maxRecDepth 100000
set_option maxHeartbeats 4000000
namespace K12
open PySem PySem.Spec L2 Pu
open PyProof.Rows hiding St Fr
section
variable {P : Program} {w : World} {K : PySem.W.Frag} {mg : Str → Option Value} {base : Heap}
abbrev s_is_number_below : Stmt := top 7
theorem sc_is_number_below : FnScope ["thing", "bound"] ["thing", "bound"] (defScope s_is_number_below) := ⟨rfl, rfl, rfl, by decide +kernel, rfl, by decide +kernel, by decide +kernel⟩
theorem ok_is_number_below {f_me : Addr} {fd_me : FuncData} {f_is_number : Addr} {fd_is_number : FuncData} (Fn : Fun K "is_number_below" "is_number_below" s_is_number_below f_me fd_me) (T : Txt mg) (G_is_number : FnOk P w K mg base CX0 1 f_is_number fd_is_number ["thing", "least"] (liftSp K F_is_number)) (m_is_number : mg "is_number" = some (.ref f_is_number)) (k_is_number : PySem.W.keepIn K (.ref f_is_number) = true) (b_is_number : L2.Binds K fd_is_number ["thing", "least"] []) : FnOk P w K mg base CX0 2 f_me fd_me ["thing", "bound"] (liftSp K (F_is_number_below)) :=
  q_fn_mk Fn sc_is_number_below fun cdv A outer s H E hr => (@q_bm_one _ _ _ (@q_sm_ret _ _ _ _ (q_em_and (q_em_call G_is_number (hr.mono (by decide)) (by rfl) m_is_number k_is_number b_is_number (@q_am_cons _ _ _ _ _ (q_em_var 0) (@q_am_cons _ _ _ _ _ q_em_int q_am_nil (by rfl)) (by rfl))) (q_em_one (q_em_cmp op_lt lt_ok.r (q_em_var 0) (q_em_var 1) (nomark _))))))
end
end K12

set_option Elab.async false
set_option linter.all false
set_option maxRecDepth 100000
set_option maxHeartbeats 4000000
namespace K12
open PySem PySem.Spec L2 Pu
open PyProof.Rows hiding St Fr
section
variable {P : Program} {w : World} {K : PySem.W.Frag} {mg : Str → Option Value} {base : Heap}
abbrev s_is_word : Stmt := top 8
theorem sc_is_word : FnScope ["thing"] ["thing"] (defScope s_is_word) := ⟨rfl, rfl, rfl, by decide +kernel, rfl, by decide +kernel, by decide +kernel⟩
theorem ok_is_word {f_me : Addr} {fd_me : FuncData} (Fn : Fun K "is_word" "is_word" s_is_word f_me fd_me) (T : Txt mg) : FnOk P w K mg base CX0 1 f_me fd_me ["thing"] (liftSp K (F_is_word)) :=
  q_fn_mk Fn sc_is_word fun cdv A outer s H E hr => (@q_bm_cons _ _ _ _ _ (@q_sm_if _ _ _ _ _ _ _ _ (q_WM_t (q_wm_or (q_tm_not (q_tm_tru (q_em_isi (by rfl) T.b_isinstance (by rfl) (@q_am_cons _ _ _ _ _ (q_em_var 0) (@q_am_cons _ _ _ _ _ (q_em_ty (by rfl) T.b_str (by rfl)) q_am_nil (by rfl)) (by rfl))))) (q_wm_or1 (q_tm_not (q_tm_chain op_le op_le le_ok.r le_ok.r q_em_int (q_em_len (by rfl) T.b_len (@q_am_cons _ _ _ _ _ (q_em_var 0) q_am_nil (by rfl))) (q_em_globI (by rfl) T.c_LONGEST_WORD)))))) (@q_bm_one _ _ _ (@q_sm_ret _ _ _ _ q_em_bl)) q_bm_nil) (@q_bm_one _ _ _ (@q_sm_ret _ _ _ _ (q_em_all rfl (by rfl) T.b_all (by rfl) (@q_am_cons _ _ _ _ _ (q_FM_em (q_fm_comp (vs := ["sign"]) (fs := []) (fr := []) (by exact ⟨rfl, rfl, rfl, rfl, rfl, rfl, rfl⟩) rfl (q_im_val (q_em_var 0)) (fun _ _ _ _ _ => (q_gm_name (i := 0) (show ((["sign"] : List Str) ++ ([] : List Str)).Nodup by decide +kernel) rfl (Or.inl rfl))) (fun _ _ _ _ _ => q_ts_nil) (fun _ _ _ _ _ => (q_em_cmp op_inAll in_ok.r (q_em_var 0) (q_em_globS (by rfl) T.c_SMALL_LETTERS) rfl)))) q_am_nil (by rfl))))))
end
end K12

set_option Elab.async false
set_option linter.all false
set_option maxRecDepth 100000
set_option maxHeartbeats 4000000
namespace K12
open PySem PySem.Spec L2 Pu
open PyProof.Rows hiding St Fr
section
variable {P : Program} {w : World} {K : PySem.W.Frag} {mg : Str → Option Value} {base : Heap}
abbrev s_is_clause_number : Stmt := top 10
theorem sc_is_clause_number : FnScope ["thing"] ["thing"] (defScope s_is_clause_number) := ⟨rfl, rfl, rfl, by decide +kernel, rfl, by decide +kernel, by decide +kernel⟩
theorem ok_is_clause_number {f_me : Addr} {fd_me : FuncData} {f_is_number_below : Addr} {fd_is_number_below : FuncData} (Fn : Fun K "is_clause_number" "is_clause_number" s_is_clause_number f_me fd_me) (T : Txt mg) (G_is_number_below : FnOk P w K mg base CX0 2 f_is_number_below fd_is_number_below ["thing", "bound"] (liftSp K F_is_number_below)) (m_is_number_below : mg "is_number_below" = some (.ref f_is_number_below)) (k_is_number_below : PySem.W.keepIn K (.ref f_is_number_below) = true) (b_is_number_below : L2.Binds K fd_is_number_below ["thing", "bound"] []) : FnOk P w K mg base CX0 3 f_me fd_me ["thing"] (liftSp K (F_is_clause_number)) :=
  q_fn_mk Fn sc_is_clause_number fun cdv A outer s H E hr => (@q_bm_one _ _ _ (@q_sm_ret _ _ _ _ (q_em_call G_is_number_below (hr.mono (by decide)) (by rfl) m_is_number_below k_is_number_below b_is_number_below (@q_am_cons _ _ _ _ _ (q_em_var 0) (@q_am_cons _ _ _ _ _ (q_em_globI (by rfl) T.c_MOST_CLAUSES) q_am_nil (by rfl)) (by rfl)))))
end
end K12

set_option Elab.async false
set_option linter.all false
set_option maxRecDepth 100000
set_option maxHeartbeats 4000000
namespace K12
open PySem PySem.Spec L2 Pu
open PyProof.Rows hiding St Fr
section
variable {P : Program} {w : World} {K : PySem.W.Frag} {mg : Str → Option Value} {base : Heap}
abbrev s_is_bare : Stmt := top 11
theorem sc_is_bare : FnScope ["parts"] ["parts"] (defScope s_is_bare) := ⟨rfl, rfl, rfl, by decide +kernel, rfl, by decide +kernel, by decide +kernel⟩
theorem ok_is_bare {f_me : Addr} {fd_me : FuncData} (Fn : Fun K "is_bare" "is_bare" s_is_bare f_me fd_me) (T : Txt mg) : FnOk P w K mg base CX0 1 f_me fd_me ["parts"] (liftSp K (F_is_bare)) :=
  q_fn_mk Fn sc_is_bare fun cdv A outer s H E hr => (@q_bm_one _ _ _ (@q_sm_ret _ _ _ _ (q_em_cmp op_eq eq_ok.r (q_em_len (by rfl) T.b_len (@q_am_cons _ _ _ _ _ (q_em_var 0) q_am_nil (by rfl))) q_em_int (nomark _))))
end
end K12

set_option Elab.async false
set_option linter.all false
set_option maxRecDepth 100000
set_option maxHeartbeats 4000000
namespace K12
open PySem PySem.Spec L2 Pu
open PyProof.Rows hiding St Fr
section
variable {P : Program} {w : World} {K : PySem.W.Frag} {mg : Str → Option Value} {base : Heap}
abbrev s_is_of_word : Stmt := top 12
theorem sc_is_of_word : FnScope ["parts"] ["parts"] (defScope s_is_of_word) := ⟨rfl, rfl, rfl, by decide +kernel, rfl, by decide +kernel, by decide +kernel⟩
theorem ok_is_of_word {f_me : Addr} {fd_me : FuncData} {f_is_word : Addr} {fd_is_word : FuncData} (Fn : Fun K "is_of_word" "is_of_word" s_is_of_word f_me fd_me) (T : Txt mg) (G_is_word : FnOk P w K mg base CX0 1 f_is_word fd_is_word ["thing"] (liftSp K F_is_word)) (m_is_word : mg "is_word" = some (.ref f_is_word)) (k_is_word : PySem.W.keepIn K (.ref f_is_word) = true) (b_is_word : L2.Binds K fd_is_word ["thing"] []) : FnOk P w K mg base CX0 2 f_me fd_me ["parts"] (liftSp K (F_is_of_word)) :=
  q_fn_mk Fn sc_is_of_word fun cdv A outer s H E hr => (@q_bm_one _ _ _ (@q_sm_ret _ _ _ _ (q_em_and (q_em_cmp op_eq eq_ok.r (q_em_len (by rfl) T.b_len (@q_am_cons _ _ _ _ _ (q_em_var 0) q_am_nil (by rfl))) q_em_int (nomark _)) (q_em_one (q_em_call G_is_word (hr.mono (by decide)) (by rfl) m_is_word k_is_word b_is_word (@q_am_cons _ _ _ _ _ (q_em_ixA (hu_of hr) (q_em_var 0) q_em_int) q_am_nil (by rfl)))))))
end
end K12

set_option Elab.async false
set_option linter.all false
set_option maxRecDepth 100000
set_option maxHeartbeats 4000000
namespace K12
open PySem PySem.Spec L2 Pu
open PyProof.Rows hiding St Fr
section
variable {P : Program} {w : World} {K : PySem.W.Frag} {mg : Str → Option Value} {base : Heap}
abbrev s_is_of_clause : Stmt := top 13
theorem sc_is_of_clause : FnScope ["parts"] ["parts"] (defScope s_is_of_clause) := ⟨rfl, rfl, rfl, by decide +kernel, rfl, by decide +kernel, by decide +kernel⟩
theorem ok_is_of_clause {f_me : Addr} {fd_me : FuncData} {f_is_clause_number : Addr} {fd_is_clause_number : FuncData} (Fn : Fun K "is_of_clause" "is_of_clause" s_is_of_clause f_me fd_me) (T : Txt mg) (G_is_clause_number : FnOk P w K mg base CX0 3 f_is_clause_number fd_is_clause_number ["thing"] (liftSp K F_is_clause_number)) (m_is_clause_number : mg "is_clause_number" = some (.ref f_is_clause_number)) (k_is_clause_number : PySem.W.keepIn K (.ref f_is_clause_number) = true) (b_is_clause_number : L2.Binds K fd_is_clause_number ["thing"] []) : FnOk P w K mg base CX0 4 f_me fd_me ["parts"] (liftSp K (F_is_of_clause)) :=
  q_fn_mk Fn sc_is_of_clause fun cdv A outer s H E hr => (@q_bm_one _ _ _ (@q_sm_ret _ _ _ _ (q_em_and (q_em_cmp op_eq eq_ok.r (q_em_len (by rfl) T.b_len (@q_am_cons _ _ _ _ _ (q_em_var 0) q_am_nil (by rfl))) q_em_int (nomark _)) (q_em_one (q_em_call G_is_clause_number (hr.mono (by decide)) (by rfl) m_is_clause_number k_is_clause_number b_is_clause_number (@q_am_cons _ _ _ _ _ (q_em_ixA (hu_of hr) (q_em_var 0) q_em_int) q_am_nil (by rfl)))))))
end
end K12

set_option Elab.async false
set_option linter.all false
set_option maxRecDepth 100000
set_option maxHeartbeats 4000000
namespace K12
open PySem PySem.Spec L2 Pu
open PyProof.Rows hiding St Fr
section
variable {P : Program} {w : World} {K : PySem.W.Frag} {mg : Str → Option Value} {base : Heap}
abbrev s_is_of_part : Stmt := top 14
theorem sc_is_of_part : FnScope ["parts"] ["parts"] (defScope s_is_of_part) := ⟨rfl, rfl, rfl, by decide +kernel, rfl, by decide +kernel, by decide +kernel⟩
theorem ok_is_of_part {f_me : Addr} {fd_me : FuncData} {f_is_clause_number f_is_number_below : Addr} {fd_is_clause_number fd_is_number_below : FuncData} (Fn : Fun K "is_of_part" "is_of_part" s_is_of_part f_me fd_me) (T : Txt mg) (G_is_clause_number : FnOk P w K mg base CX0 3 f_is_clause_number fd_is_clause_number ["thing"] (liftSp K F_is_clause_number)) (m_is_clause_number : mg "is_clause_number" = some (.ref f_is_clause_number)) (k_is_clause_number : PySem.W.keepIn K (.ref f_is_clause_number) = true) (b_is_clause_number : L2.Binds K fd_is_clause_number ["thing"] []) (G_is_number_below : FnOk P w K mg base CX0 2 f_is_number_below fd_is_number_below ["thing", "bound"] (liftSp K F_is_number_below)) (m_is_number_below : mg "is_number_below" = some (.ref f_is_number_below)) (k_is_number_below : PySem.W.keepIn K (.ref f_is_number_below) = true) (b_is_number_below : L2.Binds K fd_is_number_below ["thing", "bound"] []) : FnOk P w K mg base CX0 4 f_me fd_me ["parts"] (liftSp K (F_is_of_part)) :=
  q_fn_mk Fn sc_is_of_part fun cdv A outer s H E hr => (@q_bm_one _ _ _ (@q_sm_ret _ _ _ _ (q_em_and (q_em_cmp op_eq eq_ok.r (q_em_len (by rfl) T.b_len (@q_am_cons _ _ _ _ _ (q_em_var 0) q_am_nil (by rfl))) q_em_int (nomark _)) (q_em_and (q_em_call G_is_clause_number (hr.mono (by decide)) (by rfl) m_is_clause_number k_is_clause_number b_is_clause_number (@q_am_cons _ _ _ _ _ (q_em_ixA (hu_of hr) (q_em_var 0) q_em_int) q_am_nil (by rfl))) (q_em_one (q_em_call G_is_number_below (hr.mono (by decide)) (by rfl) m_is_number_below k_is_number_below b_is_number_below (@q_am_cons _ _ _ _ _ (q_em_ixA (hu_of hr) (q_em_var 0) q_em_int) (@q_am_cons _ _ _ _ _ (q_em_globI (by rfl) T.c_MOST_PARTS) q_am_nil (by rfl)) (by rfl))))))))
end
end K12

set_option Elab.async false
set_option linter.all false
set_option maxRecDepth 100000
set_option maxHeartbeats 4000000
namespace K12
open PySem PySem.Spec L2 Pu
open PyProof.Rows hiding St Fr
section
variable {P : Program} {w : World} {K : PySem.W.Frag} {mg : Str → Option Value} {base : Heap}
abbrev s_is_of_house : Stmt := top 15
theorem sc_is_of_house : FnScope ["parts"] ["parts"] (defScope s_is_of_house) := ⟨rfl, rfl, rfl, by decide +kernel, rfl, by decide +kernel, by decide +kernel⟩
theorem ok_is_of_house {f_me : Addr} {fd_me : FuncData} {f_is_clause_number f_is_word : Addr} {fd_is_clause_number fd_is_word : FuncData} (Fn : Fun K "is_of_house" "is_of_house" s_is_of_house f_me fd_me) (T : Txt mg) (G_is_clause_number : FnOk P w K mg base CX0 3 f_is_clause_number fd_is_clause_number ["thing"] (liftSp K F_is_clause_number)) (m_is_clause_number : mg "is_clause_number" = some (.ref f_is_clause_number)) (k_is_clause_number : PySem.W.keepIn K (.ref f_is_clause_number) = true) (b_is_clause_number : L2.Binds K fd_is_clause_number ["thing"] []) (G_is_word : FnOk P w K mg base CX0 1 f_is_word fd_is_word ["thing"] (liftSp K F_is_word)) (m_is_word : mg "is_word" = some (.ref f_is_word)) (k_is_word : PySem.W.keepIn K (.ref f_is_word) = true) (b_is_word : L2.Binds K fd_is_word ["thing"] []) : FnOk P w K mg base CX0 4 f_me fd_me ["parts"] (liftSp K (F_is_of_house)) :=
  q_fn_mk Fn sc_is_of_house fun cdv A outer s H E hr => (@q_bm_one _ _ _ (@q_sm_ret _ _ _ _ (q_em_and (q_em_cmp op_eq eq_ok.r (q_em_len (by rfl) T.b_len (@q_am_cons _ _ _ _ _ (q_em_var 0) q_am_nil (by rfl))) q_em_int (nomark _)) (q_em_and (q_em_call G_is_clause_number (hr.mono (by decide)) (by rfl) m_is_clause_number k_is_clause_number b_is_clause_number (@q_am_cons _ _ _ _ _ (q_em_ixA (hu_of hr) (q_em_var 0) q_em_int) q_am_nil (by rfl))) (q_em_and (q_em_call G_is_word (hr.mono (by decide)) (by rfl) m_is_word k_is_word b_is_word (@q_am_cons _ _ _ _ _ (q_em_ixA (hu_of hr) (q_em_var 0) q_em_int) q_am_nil (by rfl))) (q_em_one (q_em_cmp op_ne ne_ok.r (q_em_ixA (hu_of hr) (q_em_var 0) q_em_int) (q_em_globS (by rfl) T.c_JUDGE) (nomark _))))))))
end
end K12

set_option Elab.async false
set_option linter.all false
set_option maxRecDepth 100000
set_option maxHeartbeats 4000000
namespace K12
open PySem PySem.Spec L2 Pu
open PyProof.Rows hiding St Fr
section
variable {P : Program} {w : World} {K : PySem.W.Frag} {mg : Str → Option Value} {base : Heap}
abbrev s_is_deed : Stmt := top 17
theorem sc_is_deed : FnScope ["thing", "fits"] ["thing"] (defScope s_is_deed) := ⟨rfl, rfl, rfl, by decide +kernel, rfl, by decide +kernel, by decide +kernel⟩
theorem ok_is_deed {f_me : Addr} {fd_me : FuncData} {f_is_bare f_is_of_word f_is_of_part f_is_of_clause f_is_of_house d_DEEDS : Addr} {fd_is_bare fd_is_of_word fd_is_of_part fd_is_of_clause fd_is_of_house : FuncData} (Fn : Fun K "is_deed" "is_deed" s_is_deed f_me fd_me) (T : Txt mg) (Tm_DEEDS : mg "DEEDS" = some (.ref d_DEEDS)) (TD_DEEDS : TopD K w d_DEEDS (tab_DEEDS f_is_bare f_is_of_word f_is_of_part f_is_of_clause f_is_of_house)) (G_is_bare : FnOk P w K mg base CX0 1 f_is_bare fd_is_bare ["parts"] (liftSp K F_is_bare)) (m_is_bare : mg "is_bare" = some (.ref f_is_bare)) (k_is_bare : PySem.W.keepIn K (.ref f_is_bare) = true) (b_is_bare : L2.Binds K fd_is_bare ["parts"] []) (G_is_of_word : FnOk P w K mg base CX0 2 f_is_of_word fd_is_of_word ["parts"] (liftSp K F_is_of_word)) (m_is_of_word : mg "is_of_word" = some (.ref f_is_of_word)) (k_is_of_word : PySem.W.keepIn K (.ref f_is_of_word) = true) (b_is_of_word : L2.Binds K fd_is_of_word ["parts"] []) (G_is_of_part : FnOk P w K mg base CX0 4 f_is_of_part fd_is_of_part ["parts"] (liftSp K F_is_of_part)) (m_is_of_part : mg "is_of_part" = some (.ref f_is_of_part)) (k_is_of_part : PySem.W.keepIn K (.ref f_is_of_part) = true) (b_is_of_part : L2.Binds K fd_is_of_part ["parts"] []) (G_is_of_clause : FnOk P w K mg base CX0 4 f_is_of_clause fd_is_of_clause ["parts"] (liftSp K F_is_of_clause)) (m_is_of_clause : mg "is_of_clause" = some (.ref f_is_of_clause)) (k_is_of_clause : PySem.W.keepIn K (.ref f_is_of_clause) = true) (b_is_of_clause : L2.Binds K fd_is_of_clause ["parts"] []) (G_is_of_house : FnOk P w K mg base CX0 4 f_is_of_house fd_is_of_house ["parts"] (liftSp K F_is_of_house)) (m_is_of_house : mg "is_of_house" = some (.ref f_is_of_house)) (k_is_of_house : PySem.W.keepIn K (.ref f_is_of_house) = true) (b_is_of_house : L2.Binds K fd_is_of_house ["parts"] []) : FnOk P w K mg base CX0 5 f_me fd_me ["thing"] (liftSp K (F_is_deed d_DEEDS f_is_bare f_is_of_word f_is_of_part f_is_of_clause f_is_of_house)) :=
  q_fn_mk Fn sc_is_deed fun cdv A outer s H E hr => (@q_bm_cons _ _ _ _ _ (@q_sm_if _ _ _ _ _ _ _ _ (q_WM_t (q_wm_or (q_tm_not (q_tm_tru (q_em_isi (by rfl) T.b_isinstance (by rfl) (@q_am_cons _ _ _ _ _ (q_em_var 0) (@q_am_cons _ _ _ _ _ (q_em_ty (by rfl) T.b_tuple (by rfl)) q_am_nil (by rfl)) (by rfl))))) (q_wm_or (q_tm_not (q_tm_tru (q_em_var 0))) (q_wm_or (q_tm_not (q_tm_tru (q_em_isi (by rfl) T.b_isinstance (by rfl) (@q_am_cons _ _ _ _ _ (q_em_ixA (hu_of hr) (q_em_var 0) q_em_int) (@q_am_cons _ _ _ _ _ (q_em_ty (by rfl) T.b_str (by rfl)) q_am_nil (by rfl)) (by rfl))))) (q_wm_or1 (q_tm_cmp (op_topnotin TD_DEEDS) topI_okN (q_em_ixA (hu_of hr) (q_em_var 0) q_em_int) (q_em_top (by rfl) Tm_DEEDS) rfl)))))) (@q_bm_one _ _ _ (@q_sm_ret _ _ _ _ q_em_bl)) q_bm_nil) (@q_bm_cons _ _ _ _ _ (q_sm_set (i := 1) sc_is_deed.nd rfl (Or.inl rfl) (q_em_topix TD_DEEDS (q_em_top (by rfl) Tm_DEEDS) (q_em_ixA (hu_of hr) (q_em_var 0) q_em_int))) (@q_bm_one _ _ _ (@q_sm_ret _ _ _ _ (q_em_callV (k := 4) 1 (hv_of (fun q hq => by
    simp only [fns_DEEDS, List.mem_cons, List.not_mem_nil, or_false] at hq
    rcases hq with rfl | rfl | rfl | rfl | rfl
    · exact ⟨_, _, G_is_bare.mono (by decide), k_is_bare, b_is_bare⟩
    · exact ⟨_, _, G_is_of_word.mono (by decide), k_is_of_word, b_is_of_word⟩
    · exact ⟨_, _, G_is_of_part.mono (by decide), k_is_of_part, b_is_of_part⟩
    · exact ⟨_, _, G_is_of_clause.mono (by decide), k_is_of_clause, b_is_of_clause⟩
    · exact ⟨_, _, G_is_of_house.mono (by decide), k_is_of_house, b_is_of_house⟩)) (hr.mono (by decide)) (@q_am_cons _ _ _ _ _ (q_em_slice (q_em_var 0) (q_om_some q_em_int) q_om_none) q_am_nil (by rfl)))))))
end
end K12

set_option Elab.async false
set_option linter.all false
set_option maxRecDepth 100000
set_option maxHeartbeats 4000000
namespace K12
open PySem PySem.Spec L2 Pu
open PyProof.Rows hiding St Fr
section
variable {P : Program} {w : World} {K : PySem.W.Frag} {mg : Str → Option Value} {base : Heap}
abbrev s_l_cell_at : Stmt := top 19
theorem sc_l_cell_at : FnScope ["_law_script", "_law_k"] ["_law_script", "_law_k"] (defScope s_l_cell_at) := ⟨rfl, rfl, rfl, by decide +kernel, rfl, by decide +kernel, by decide +kernel⟩
theorem ok_l_cell_at {f_me : Addr} {fd_me : FuncData} (Fn : Fun K "_law_cell_at" "_law_cell_at" s_l_cell_at f_me fd_me) (T : Txt mg) : FnOk P w K mg base CX0 1 f_me fd_me ["_law_script", "_law_k"] (liftSp K (F_l_cell_at)) :=
  q_fn_mk Fn sc_l_cell_at fun cdv A outer s H E hr => (@q_bm_cons _ _ _ _ _ (@q_sm_if _ _ _ _ _ _ _ _ (q_tm_cmp op_lt lt_ok.r (q_em_var 1) (q_em_len (by rfl) T.b_len (@q_am_cons _ _ _ _ _ (q_em_var 0) q_am_nil (by rfl))) (nomark _)) (@q_bm_one _ _ _ (@q_sm_ret _ _ _ _ (q_em_ixA (hu_of hr) (q_em_var 0) (q_em_var 1)))) q_bm_nil) (@q_bm_one _ _ _ (@q_sm_ret _ _ _ _ q_em_int)))
end
end K12

set_option Elab.async false
set_option linter.all false
set_option maxRecDepth 100000
set_option maxHeartbeats 4000000
namespace K12
open PySem PySem.Spec L2 Pu
open PyProof.Rows hiding St Fr
section
variable {P : Program} {w : World} {K : PySem.W.Frag} {mg : Str → Option Value} {base : Heap}
abbrev s_l_left : Stmt := top 20
theorem sc_l_left : FnScope ["_law_script", "_law_k", "_law_cell", "_law_seed"] ["_law_script", "_law_k"] (defScope s_l_left) := ⟨rfl, rfl, rfl, by decide +kernel, rfl, by decide +kernel, by decide +kernel⟩
theorem ok_l_left {f_me : Addr} {fd_me : FuncData} {f__law_cell_at : Addr} {fd__law_cell_at : FuncData} (Fn : Fun K "_law_left" "_law_left" s_l_left f_me fd_me) (T : Txt mg) (G__law_cell_at : FnOk P w K mg base CX0 1 f__law_cell_at fd__law_cell_at ["_law_script", "_law_k"] (liftSp K F_l_cell_at)) (m__law_cell_at : mg "_law_cell_at" = some (.ref f__law_cell_at)) (k__law_cell_at : PySem.W.keepIn K (.ref f__law_cell_at) = true) (b__law_cell_at : L2.Binds K fd__law_cell_at ["_law_script", "_law_k"] []) : FnOk P w K mg base CX0 2 f_me fd_me ["_law_script", "_law_k"] (liftSp K (F_l_left)) :=
  q_fn_mk Fn sc_l_left fun cdv A outer s H E hr => (@q_bm_cons _ _ _ _ _ (q_sm_set (i := 2) sc_l_left.nd rfl (Or.inl rfl) (q_em_call G__law_cell_at (hr.mono (by decide)) (by rfl) m__law_cell_at k__law_cell_at b__law_cell_at (@q_am_cons _ _ _ _ _ (q_em_var 0) (@q_am_cons _ _ _ _ _ (q_em_mod (q_em_var 1) (q_em_max rfl (by rfl) T.b_max (by rfl) (@q_am_cons _ _ _ _ _ q_em_int (@q_am_cons _ _ _ _ _ (q_em_len (by rfl) T.b_len (@q_am_cons _ _ _ _ _ (q_em_var 0) q_am_nil (by rfl))) q_am_nil (by rfl)) (by rfl)))) q_am_nil (by rfl)) (by rfl)))) (@q_bm_cons _ _ _ _ _ (q_sm_set (i := 3) sc_l_left.nd rfl (Or.inl rfl) (q_em_mod (q_em_mul (q_em_add (q_em_add (q_em_mod (q_em_var 2) q_em_int) (q_em_mul (q_em_mul q_em_int (q_em_var 1)) (q_em_var 1))) q_em_int) q_em_int) q_em_int)) (@q_bm_cons _ _ _ _ _ (@q_sm_if _ _ _ _ _ _ _ _ (q_tm_cmp op_eq eq_ok.r (q_em_mod (q_em_call G__law_cell_at (hr.mono (by decide)) (by rfl) m__law_cell_at k__law_cell_at b__law_cell_at (@q_am_cons _ _ _ _ _ (q_em_var 0) (@q_am_cons _ _ _ _ _ q_em_int q_am_nil (by rfl)) (by rfl))) q_em_int) q_em_int (nomark _)) (@q_bm_one _ _ _ (q_sm_set (i := 2) sc_l_left.nd rfl (Or.inl rfl) q_em_int)) q_bm_nil) (@q_bm_one _ _ _ (q_sm_retF (q_fm_lst (@q_am_cons _ _ _ _ _ (q_em_mod (q_em_var 2) (q_em_pow q_em_int q_em_int)) (@q_am_cons _ _ _ _ _ (q_em_var 3) q_am_nil (by rfl)) (by rfl))))))))
theorem okF_l_left {f_me : Addr} {fd_me : FuncData} {f__law_cell_at : Addr} {fd__law_cell_at : FuncData} (Fn : Fun K "_law_left" "_law_left" s_l_left f_me fd_me) (T : Txt mg) (G__law_cell_at : FnOk P w K mg base CX0 1 f__law_cell_at fd__law_cell_at ["_law_script", "_law_k"] (liftSp K F_l_cell_at)) (m__law_cell_at : mg "_law_cell_at" = some (.ref f__law_cell_at)) (k__law_cell_at : PySem.W.keepIn K (.ref f__law_cell_at) = true) (b__law_cell_at : L2.Binds K fd__law_cell_at ["_law_script", "_law_k"] []) : FnOk P w K mg base CX0 2 f_me fd_me ["_law_script", "_law_k"] (liftSpF K (FF_l_left)) :=
  q_fn_mkF Fn sc_l_left fun cdv A outer s H E hr => (@q_bm_cons _ _ _ _ _ (q_sm_set (i := 2) sc_l_left.nd rfl (Or.inl rfl) (q_em_call G__law_cell_at (hr.mono (by decide)) (by rfl) m__law_cell_at k__law_cell_at b__law_cell_at (@q_am_cons _ _ _ _ _ (q_em_var 0) (@q_am_cons _ _ _ _ _ (q_em_mod (q_em_var 1) (q_em_max rfl (by rfl) T.b_max (by rfl) (@q_am_cons _ _ _ _ _ q_em_int (@q_am_cons _ _ _ _ _ (q_em_len (by rfl) T.b_len (@q_am_cons _ _ _ _ _ (q_em_var 0) q_am_nil (by rfl))) q_am_nil (by rfl)) (by rfl)))) q_am_nil (by rfl)) (by rfl)))) (@q_bm_cons _ _ _ _ _ (q_sm_set (i := 3) sc_l_left.nd rfl (Or.inl rfl) (q_em_mod (q_em_mul (q_em_add (q_em_add (q_em_mod (q_em_var 2) q_em_int) (q_em_mul (q_em_mul q_em_int (q_em_var 1)) (q_em_var 1))) q_em_int) q_em_int) q_em_int)) (@q_bm_cons _ _ _ _ _ (@q_sm_if _ _ _ _ _ _ _ _ (q_tm_cmp op_eq eq_ok.r (q_em_mod (q_em_call G__law_cell_at (hr.mono (by decide)) (by rfl) m__law_cell_at k__law_cell_at b__law_cell_at (@q_am_cons _ _ _ _ _ (q_em_var 0) (@q_am_cons _ _ _ _ _ q_em_int q_am_nil (by rfl)) (by rfl))) q_em_int) q_em_int (nomark _)) (@q_bm_one _ _ _ (q_sm_set (i := 2) sc_l_left.nd rfl (Or.inl rfl) q_em_int)) q_bm_nil) (@q_bm_one _ _ _ (q_sm_retF (q_fm_lst (@q_am_cons _ _ _ _ _ (q_em_mod (q_em_var 2) (q_em_pow q_em_int q_em_int)) (@q_am_cons _ _ _ _ _ (q_em_var 3) q_am_nil (by rfl)) (by rfl))))))))
end
end K12

set_option Elab.async false
set_option linter.all false
set_option maxRecDepth 100000
set_option maxHeartbeats 4000000
namespace K12
open PySem PySem.Spec L2 Pu
open PyProof.Rows hiding St Fr
section
variable {P : Program} {w : World} {K : PySem.W.Frag} {mg : Str → Option Value} {base : Heap}
abbrev s_l_pick : Stmt := top 21
theorem sc_l_pick : FnScope ["_law_left_here", "_law_many", "_law_digit"] ["_law_left_here", "_law_many"] (defScope s_l_pick) := ⟨rfl, rfl, rfl, by decide +kernel, rfl, by decide +kernel, by decide +kernel⟩
theorem ok_l_pick {f_me : Addr} {fd_me : FuncData} (Fn : Fun K "_law_pick" "_law_pick" s_l_pick f_me fd_me) (T : Txt mg) : FnOk P w K mg base CX0 1 f_me fd_me ["_law_left_here", "_law_many"] (liftSp K (F_l_pick)) :=
  q_fn_mk Fn sc_l_pick fun cdv A outer s H E hr => (@q_bm_cons _ _ _ _ _ (@q_sm_if _ _ _ _ _ _ _ _ (q_tm_cmp op_gt gt_ok.r (q_em_ixA (hu_of hr) (q_em_var 0) q_em_int) q_em_int (nomark _)) (@q_bm_cons _ _ _ _ _ (q_sm_set (i := 2) sc_l_pick.nd rfl (Or.inl rfl) (q_em_mod (q_em_ixA (hu_of hr) (q_em_var 0) q_em_int) (q_em_var 1))) (@q_bm_cons _ _ _ _ _ (q_sm_setix (q_em_fdiv (q_em_ixA (hu_of hr) (q_em_var 0) q_em_int) (q_em_var 1)) (q_em_var 0) q_em_int) (@q_bm_one _ _ _ (@q_sm_ret _ _ _ _ (q_em_var 2))))) q_bm_nil) (@q_bm_cons _ _ _ _ _ (q_sm_setix (q_em_mod (q_em_add (q_em_mul (q_em_ixA (hu_of hr) (q_em_var 0) q_em_int) q_em_int) q_em_int) q_em_int) (q_em_var 0) q_em_int) (@q_bm_one _ _ _ (@q_sm_ret _ _ _ _ (q_em_mod (q_em_mod (q_em_mul (q_em_ixA (hu_of hr) (q_em_var 0) q_em_int) (q_em_ixA (hu_of hr) (q_em_var 0) q_em_int)) q_em_int) (q_em_var 1))))))
end
end K12

set_option Elab.async false
set_option linter.all false
set_option maxRecDepth 100000
set_option maxHeartbeats 4000000
namespace K12
open PySem PySem.Spec L2 Pu
open PyProof.Rows hiding St Fr
section
variable {P : Program} {w : World} {K : PySem.W.Frag} {mg : Str → Option Value} {base : Heap}
abbrev s_l_forms : Stmt := top 22
theorem sc_l_forms : FnScope [] [] (defScope s_l_forms) := ⟨rfl, rfl, rfl, by decide +kernel, rfl, by decide +kernel, by decide +kernel⟩
theorem ok_l_forms {f_me : Addr} {fd_me : FuncData} (Fn : Fun K "_law_forms" "_law_forms" s_l_forms f_me fd_me) (T : Txt mg) : FnOk P w K mg base CX0 1 f_me fd_me [] (liftSp K (F_l_forms)) :=
  q_fn_mk Fn sc_l_forms fun cdv A outer s H E hr => (@q_bm_one _ _ _ (@q_sm_ret _ _ _ _ (q_em_dict (@q_dm_cons _ _ _ _ _ _ _ _ _ _ q_em_str (@q_dm_cons _ _ _ _ _ _ _ _ _ _ q_em_str (@q_dm_cons _ _ _ _ _ _ _ _ _ _ q_em_str (@q_dm_cons _ _ _ _ _ _ _ _ _ _ q_em_str (@q_dm_cons _ _ _ _ _ _ _ _ _ _ q_em_str (@q_dm_cons _ _ _ _ _ _ _ _ _ _ q_em_str (@q_dm_cons _ _ _ _ _ _ _ _ _ _ q_em_str (@q_dm_cons _ _ _ _ _ _ _ _ _ _ q_em_str q_dm_nil)))))))) (by decide +kernel) rfl rfl (by simp) (by decide) rfl)))
end
end K12

set_option Elab.async false
set_option linter.all false
set_option maxRecDepth 100000
set_option maxHeartbeats 4000000
namespace K12
open PySem PySem.Spec L2 Pu
open PyProof.Rows hiding St Fr
section
variable {P : Program} {w : World} {K : PySem.W.Frag} {mg : Str → Option Value} {base : Heap}
abbrev s_l_whole : Stmt := top 23
theorem sc_l_whole : FnScope ["_law_thing", "_law_least", "_law_most"] ["_law_thing", "_law_least", "_law_most"] (defScope s_l_whole) := ⟨rfl, rfl, rfl, by decide +kernel, rfl, by decide +kernel, by decide +kernel⟩
theorem ok_l_whole {f_me : Addr} {fd_me : FuncData} (Fn : Fun K "_law_whole" "_law_whole" s_l_whole f_me fd_me) (T : Txt mg) : FnOk P w K mg base CX0 1 f_me fd_me ["_law_thing", "_law_least", "_law_most"] (liftSp K (F_l_whole)) :=
  q_fn_mk Fn sc_l_whole fun cdv A outer s H E hr => (@q_bm_one _ _ _ (@q_sm_ret _ _ _ _ (q_em_and (q_em_isi (by rfl) T.b_isinstance (by rfl) (@q_am_cons _ _ _ _ _ (q_em_var 0) (@q_am_cons _ _ _ _ _ (q_em_ty (by rfl) T.b_int (by rfl)) q_am_nil (by rfl)) (by rfl))) (q_em_and (q_em_not (q_em_isi (by rfl) T.b_isinstance (by rfl) (@q_am_cons _ _ _ _ _ (q_em_var 0) (@q_am_cons _ _ _ _ _ (q_em_ty (by rfl) T.b_bool (by rfl)) q_am_nil (by rfl)) (by rfl)))) (q_em_one (q_em_chain op_le op_le le_ok.r le_ok.r (q_em_var 1) (q_em_var 0) (q_em_var 2)))))))
end
end K12

set_option Elab.async false
set_option linter.all false
set_option maxRecDepth 100000
set_option maxHeartbeats 4000000
namespace K12
open PySem PySem.Spec L2 Pu
open PyProof.Rows hiding St Fr
section
variable {P : Program} {w : World} {K : PySem.W.Frag} {mg : Str → Option Value} {base : Heap}
abbrev s_l_is_word : Stmt := top 24
theorem sc_l_is_word : FnScope ["_law_thing"] ["_law_thing"] (defScope s_l_is_word) := ⟨rfl, rfl, rfl, by decide +kernel, rfl, by decide +kernel, by decide +kernel⟩
theorem ok_l_is_word {f_me : Addr} {fd_me : FuncData} (Fn : Fun K "_law_is_word" "_law_is_word" s_l_is_word f_me fd_me) (T : Txt mg) : FnOk P w K mg base CX0 1 f_me fd_me ["_law_thing"] (liftSp K (F_l_is_word)) :=
  q_fn_mk Fn sc_l_is_word fun cdv A outer s H E hr => (@q_bm_one _ _ _ (@q_sm_ret _ _ _ _ (q_em_and (q_em_isi (by rfl) T.b_isinstance (by rfl) (@q_am_cons _ _ _ _ _ (q_em_var 0) (@q_am_cons _ _ _ _ _ (q_em_ty (by rfl) T.b_str (by rfl)) q_am_nil (by rfl)) (by rfl))) (q_em_and (q_em_chain op_le op_le le_ok.r le_ok.r q_em_int (q_em_len (by rfl) T.b_len (@q_am_cons _ _ _ _ _ (q_em_var 0) q_am_nil (by rfl))) q_em_int) (q_em_one (q_em_cmp op_eq eq_ok.r (q_em_strip (q_em_var 0) (@q_am_cons _ _ _ _ _ q_em_str q_am_nil (by rfl))) q_em_str (nomark _)))))))
end
end K12

set_option Elab.async false
set_option linter.all false
set_option maxRecDepth 100000
set_option maxHeartbeats 4000000
namespace K12
open PySem PySem.Spec L2 Pu
open PyProof.Rows hiding St Fr
section
variable {P : Program} {w : World} {K : PySem.W.Frag} {mg : Str → Option Value} {base : Heap}
abbrev s_l_fits : Stmt := top 25
theorem sc_l_fits : FnScope ["_law_sign", "_law_thing"] ["_law_sign", "_law_thing"] (defScope s_l_fits) := ⟨rfl, rfl, rfl, by decide +kernel, rfl, by decide +kernel, by decide +kernel⟩
theorem ok_l_fits {f_me : Addr} {fd_me : FuncData} {f__law_is_word f__law_whole : Addr} {fd__law_is_word fd__law_whole : FuncData} (Fn : Fun K "_law_fits" "_law_fits" s_l_fits f_me fd_me) (T : Txt mg) (G__law_is_word : FnOk P w K mg base CX0 1 f__law_is_word fd__law_is_word ["_law_thing"] (liftSp K F_l_is_word)) (m__law_is_word : mg "_law_is_word" = some (.ref f__law_is_word)) (k__law_is_word : PySem.W.keepIn K (.ref f__law_is_word) = true) (b__law_is_word : L2.Binds K fd__law_is_word ["_law_thing"] []) (G__law_whole : FnOk P w K mg base CX0 1 f__law_whole fd__law_whole ["_law_thing", "_law_least", "_law_most"] (liftSp K F_l_whole)) (m__law_whole : mg "_law_whole" = some (.ref f__law_whole)) (k__law_whole : PySem.W.keepIn K (.ref f__law_whole) = true) (b__law_whole : L2.Binds K fd__law_whole ["_law_thing", "_law_least", "_law_most"] []) : FnOk P w K mg base CX0 2 f_me fd_me ["_law_sign", "_law_thing"] (liftSp K (F_l_fits)) :=
  q_fn_mk Fn sc_l_fits fun cdv A outer s H E hr => (@q_bm_cons _ _ _ _ _ (@q_sm_if _ _ _ _ _ _ _ _ (q_tm_cmp op_inAll in_ok.r (q_em_var 0) q_em_str rfl) (@q_bm_one _ _ _ (@q_sm_ret _ _ _ _ (q_em_and (q_em_call G__law_is_word (hr.mono (by decide)) (by rfl) m__law_is_word k__law_is_word b__law_is_word (@q_am_cons _ _ _ _ _ (q_em_var 1) q_am_nil (by rfl))) (q_em_one (q_em_or (q_em_cmp op_eq eq_ok.r (q_em_var 0) q_em_str (nomark _)) (q_em_one (q_em_cmp op_ne ne_ok.r (q_em_var 1) q_em_str (nomark _)))))))) q_bm_nil) (@q_bm_one _ _ _ (@q_sm_ret _ _ _ _ (q_em_call G__law_whole (hr.mono (by decide)) (by rfl) m__law_whole k__law_whole b__law_whole (@q_am_cons _ _ _ _ _ (q_em_var 1) (@q_am_cons _ _ _ _ _ q_em_int (@q_am_cons _ _ _ _ _ (q_em_ixA (hu_of hr) (q_FM_em (q_fm_lst (@q_am_cons _ _ _ _ _ q_em_int (@q_am_cons _ _ _ _ _ q_em_int q_am_nil (by rfl)) (by rfl)))) (q_em_intc (by rfl) T.b_int (by rfl) (@q_am_cons _ _ _ _ _ (q_em_cmp op_eq eq_ok.r (q_em_var 0) q_em_str (nomark _)) q_am_nil (by rfl)))) q_am_nil (by rfl)) (by rfl)) (by rfl))))))
end
end K12

set_option Elab.async false
set_option linter.all false
set_option maxRecDepth 100000
set_option maxHeartbeats 4000000
namespace K12
open PySem PySem.Spec L2 Pu
open PyProof.Rows hiding St Fr
section
variable {P : Program} {w : World} {K : PySem.W.Frag} {mg : Str → Option Value} {base : Heap}
abbrev s_l_is_deed : Stmt := top 26
theorem sc_l_is_deed : FnScope ["_law_thing", "_law_signs"] ["_law_thing"] (defScope s_l_is_deed) := ⟨rfl, rfl, rfl, by decide +kernel, rfl, by decide +kernel, by decide +kernel⟩
theorem ok_l_is_deed {f_me : Addr} {fd_me : FuncData} {f__law_forms f__law_fits : Addr} {fd__law_forms fd__law_fits : FuncData} (Fn : Fun K "_law_is_deed" "_law_is_deed" s_l_is_deed f_me fd_me) (T : Txt mg) (G__law_forms : FnOk P w K mg base CX0 1 f__law_forms fd__law_forms [] (liftSp K F_l_forms)) (m__law_forms : mg "_law_forms" = some (.ref f__law_forms)) (k__law_forms : PySem.W.keepIn K (.ref f__law_forms) = true) (b__law_forms : L2.Binds K fd__law_forms [] []) (G__law_fits : FnOk P w K mg base CX0 2 f__law_fits fd__law_fits ["_law_sign", "_law_thing"] (liftSp K F_l_fits)) (m__law_fits : mg "_law_fits" = some (.ref f__law_fits)) (k__law_fits : PySem.W.keepIn K (.ref f__law_fits) = true) (b__law_fits : L2.Binds K fd__law_fits ["_law_sign", "_law_thing"] []) : FnOk P w K mg base CX0 3 f_me fd_me ["_law_thing"] (liftSp K (F_l_is_deed)) :=
  q_fn_mk Fn sc_l_is_deed fun cdv A outer s H E hr => (@q_bm_cons _ _ _ _ _ (@q_sm_if _ _ _ _ _ _ _ _ (q_WM_t (q_wm_or (q_tm_not (q_tm_tru (q_em_isi (by rfl) T.b_isinstance (by rfl) (@q_am_cons _ _ _ _ _ (q_em_var 0) (@q_am_cons _ _ _ _ _ (q_em_ty (by rfl) T.b_tuple (by rfl)) q_am_nil (by rfl)) (by rfl))))) (q_wm_or (q_tm_cmp op_eq eq_ok.r (q_em_len (by rfl) T.b_len (@q_am_cons _ _ _ _ _ (q_em_var 0) q_am_nil (by rfl))) q_em_int (nomark _)) (q_wm_or1 (q_tm_not (q_tm_tru (q_em_isi (by rfl) T.b_isinstance (by rfl) (@q_am_cons _ _ _ _ _ (q_em_ixA (hu_of hr) (q_em_var 0) q_em_int) (@q_am_cons _ _ _ _ _ (q_em_ty (by rfl) T.b_str (by rfl)) q_am_nil (by rfl)) (by rfl))))))))) (@q_bm_one _ _ _ (@q_sm_ret _ _ _ _ q_em_bl)) q_bm_nil) (@q_bm_cons _ _ _ _ _ (q_sm_set (i := 1) sc_l_is_deed.nd rfl (Or.inl rfl) (q_em_get1 (q_em_call0 G__law_forms (hr.mono (by decide)) (by rfl) m__law_forms k__law_forms b__law_forms) (@q_am_cons _ _ _ _ _ (q_em_ixA (hu_of hr) (q_em_var 0) q_em_int) q_am_nil (by rfl)))) (@q_bm_cons _ _ _ _ _ (@q_sm_if _ _ _ _ _ _ _ _ (q_WM_t (q_wm_or (q_tm_cmp op_isN isN_ok.r (q_em_var 1) q_em_non (nomark _)) (q_wm_or1 (q_tm_cmp op_ne ne_ok.r (q_em_len (by rfl) T.b_len (@q_am_cons _ _ _ _ _ (q_em_var 0) q_am_nil (by rfl))) (q_em_add q_em_int (q_em_len (by rfl) T.b_len (@q_am_cons _ _ _ _ _ (q_em_var 1) q_am_nil (by rfl)))) (nomark _))))) (@q_bm_one _ _ _ (@q_sm_ret _ _ _ _ q_em_bl)) q_bm_nil) (@q_bm_one _ _ _ (@q_sm_ret _ _ _ _ (q_em_all rfl (by rfl) T.b_all (by rfl) (@q_am_cons _ _ _ _ _ (q_FM_em (q_fm_comp (vs := ["_law_sign", "_law_part"]) (fs := []) (fr := []) (by exact ⟨rfl, rfl, rfl, rfl, rfl, rfl, rfl⟩) rfl (q_im_zip (by rfl) T.b_zip (@q_am_cons _ _ _ _ _ (q_em_var 1) (@q_am_cons _ _ _ _ _ (q_em_slice (q_em_var 0) (q_om_some q_em_int) q_om_none) q_am_nil (by rfl)) (by rfl))) (fun _ _ _ _ _ => (q_gm_tup rfl (q_gms_cons (q_gm_name (i := 0) (show ((["_law_sign", "_law_part"] : List Str) ++ ([] : List Str)).Nodup by decide +kernel) rfl (Or.inl rfl)) (q_gms_cons (q_gm_name (i := 1) (show ((["_law_sign", "_law_part"] : List Str) ++ ([] : List Str)).Nodup by decide +kernel) rfl (Or.inl rfl)) q_gms_nil)))) (fun _ _ _ _ _ => q_ts_nil) (fun _ _ _ _ _ => (q_em_call G__law_fits (hr.mono (by decide)) (by rfl) m__law_fits k__law_fits b__law_fits (@q_am_cons _ _ _ _ _ (q_em_var 0) (@q_am_cons _ _ _ _ _ (q_em_var 1) q_am_nil (by rfl)) (by rfl)))))) q_am_nil (by rfl))))))))
end
end K12

set_option Elab.async false
set_option linter.all false
set_option maxRecDepth 100000
set_option maxHeartbeats 4000000
namespace K12
open PySem PySem.Spec L2 Pu
open PyProof.Rows hiding St Fr
section
variable {P : Program} {w : World} {K : PySem.W.Frag} {mg : Str → Option Value} {base : Heap}
abbrev s_l_text : Stmt := top 27
theorem sc_l_text : FnScope ["_law_left_here", "_law_letters", "_law_text_here"] ["_law_left_here"] (defScope s_l_text) := ⟨rfl, rfl, rfl, by decide +kernel, rfl, by decide +kernel, by decide +kernel⟩
theorem ok_l_text {f_me : Addr} {fd_me : FuncData} {f__law_pick : Addr} {fd__law_pick : FuncData} (Fn : Fun K "_law_text" "_law_text" s_l_text f_me fd_me) (T : Txt mg) (G__law_pick : FnOk P w K mg base CX0 1 f__law_pick fd__law_pick ["_law_left_here", "_law_many"] (liftSp K F_l_pick)) (m__law_pick : mg "_law_pick" = some (.ref f__law_pick)) (k__law_pick : PySem.W.keepIn K (.ref f__law_pick) = true) (b__law_pick : L2.Binds K fd__law_pick ["_law_left_here", "_law_many"] []) : FnOk P w K mg base CX0 2 f_me fd_me ["_law_left_here"] (liftSp K (F_l_text)) :=
  q_fn_mk Fn sc_l_text fun cdv A outer s H E hr => (@q_bm_cons _ _ _ _ _ (q_sm_set (i := 1) sc_l_text.nd rfl (Or.inr rfl) q_em_str) (@q_bm_cons _ _ _ _ _ (q_sm_set (i := 2) sc_l_text.nd rfl (Or.inl rfl) (q_em_join q_em_str (@q_am_cons _ _ _ _ _ (q_FM_em (q_fm_comp (vs := ["_law_k"]) (fs := ["_law_letters", "_law_left_here"]) (fr := [1, 0]) (by exact ⟨rfl, rfl, rfl, rfl, rfl, rfl, rfl⟩) rfl (q_im_range1 (by rfl) T.b_range (@q_am_cons _ _ _ _ _ (q_em_add q_em_int (q_em_call G__law_pick (hr.mono (by decide)) (by rfl) m__law_pick k__law_pick b__law_pick (@q_am_cons _ _ _ _ _ (q_em_var 0) (@q_am_cons _ _ _ _ _ q_em_int q_am_nil (by rfl)) (by rfl)))) q_am_nil (by rfl))) (fun _ _ _ _ _ => (q_gm_name (i := 0) (show ((["_law_k"] : List Str) ++ (["_law_letters", "_law_left_here"] : List Str)).Nodup by decide +kernel) rfl (Or.inl rfl))) (fun _ _ _ _ _ => q_ts_nil) (fun _ _ _ _ _ => (q_em_ixA (hu_of hr) (q_em_var 1) (q_em_call G__law_pick (hr.mono (by decide)) (by rfl) m__law_pick k__law_pick b__law_pick (@q_am_cons _ _ _ _ _ (q_em_var 2) (@q_am_cons _ _ _ _ _ q_em_int q_am_nil (by rfl)) (by rfl))))))) q_am_nil (by rfl)))) (@q_bm_one _ _ _ (@q_sm_ret _ _ _ _ (q_em_ixA (hu_of hr) (q_FM_em (q_fm_lst (@q_am_cons _ _ _ _ _ (q_em_var 2) (@q_am_cons _ _ _ _ _ q_em_str q_am_nil (by rfl)) (by rfl)))) (q_em_intc (by rfl) T.b_int (by rfl) (@q_am_cons _ _ _ _ _ (q_em_cmp op_eq eq_ok.r (q_em_var 2) q_em_str (nomark _)) q_am_nil (by rfl))))))))
end
end K12

set_option Elab.async false
set_option linter.all false
set_option maxRecDepth 100000
set_option maxHeartbeats 4000000
namespace K12
open PySem PySem.Spec L2 Pu
open PyProof.Rows hiding St Fr
section
variable {P : Program} {w : World} {K : PySem.W.Frag} {mg : Str → Option Value} {base : Heap}
abbrev s_l_good : Stmt := top 28
theorem sc_l_good : FnScope ["_law_left_here", "_law_word", "_law_parts", "_law_sign"] ["_law_left_here"] (defScope s_l_good) := ⟨rfl, rfl, rfl, by decide +kernel, rfl, by decide +kernel, by decide +kernel⟩
theorem ok_l_good {f_me : Addr} {fd_me : FuncData} {f__law_pick f__law_forms f__law_text : Addr} {fd__law_pick fd__law_forms fd__law_text : FuncData} (Fn : Fun K "_law_good" "_law_good" s_l_good f_me fd_me) (T : Txt mg) (G__law_pick : FnOk P w K mg base CX0 1 f__law_pick fd__law_pick ["_law_left_here", "_law_many"] (liftSp K F_l_pick)) (m__law_pick : mg "_law_pick" = some (.ref f__law_pick)) (k__law_pick : PySem.W.keepIn K (.ref f__law_pick) = true) (b__law_pick : L2.Binds K fd__law_pick ["_law_left_here", "_law_many"] []) (G__law_forms : FnOk P w K mg base CX0 1 f__law_forms fd__law_forms [] (liftSp K F_l_forms)) (m__law_forms : mg "_law_forms" = some (.ref f__law_forms)) (k__law_forms : PySem.W.keepIn K (.ref f__law_forms) = true) (b__law_forms : L2.Binds K fd__law_forms [] []) (G__law_text : FnOk P w K mg base CX0 2 f__law_text fd__law_text ["_law_left_here"] (liftSp K F_l_text)) (m__law_text : mg "_law_text" = some (.ref f__law_text)) (k__law_text : PySem.W.keepIn K (.ref f__law_text) = true) (b__law_text : L2.Binds K fd__law_text ["_law_left_here"] []) : FnOk P w K mg base CX0 3 f_me fd_me ["_law_left_here"] (liftSp K (F_l_good)) :=
  q_fn_mk Fn sc_l_good fun cdv A outer s H E hr => (@q_bm_cons _ _ _ _ _ (q_sm_set (i := 1) sc_l_good.nd rfl (Or.inl rfl) (q_em_ixA (hu_of hr) (q_FM_em (q_fm_lst (@q_am_cons _ _ _ _ _ q_em_str (@q_am_cons _ _ _ _ _ q_em_str (@q_am_cons _ _ _ _ _ q_em_str (@q_am_cons _ _ _ _ _ q_em_str (@q_am_cons _ _ _ _ _ q_em_str (@q_am_cons _ _ _ _ _ q_em_str (@q_am_cons _ _ _ _ _ q_em_str (@q_am_cons _ _ _ _ _ q_em_str q_am_nil (by rfl)) (by rfl)) (by rfl)) (by rfl)) (by rfl)) (by rfl)) (by rfl)) (by rfl)))) (q_em_call G__law_pick (hr.mono (by decide)) (by rfl) m__law_pick k__law_pick b__law_pick (@q_am_cons _ _ _ _ _ (q_em_var 0) (@q_am_cons _ _ _ _ _ q_em_int q_am_nil (by rfl)) (by rfl))))) (@q_bm_cons _ _ _ _ _ (q_sm_new (i := 2) sc_l_good.nd rfl (Or.inl rfl) (q_fm_lst q_am_nil)) (@q_bm_cons _ _ _ _ _ (q_sm_for PassesOwn.never rfl (q_im_val (q_em_ixA (hu_of hr) (q_em_call0 G__law_forms (hr.mono (by decide)) (by rfl) m__law_forms k__law_forms b__law_forms) (q_em_var 1))) (q_gm_name (i := 3) sc_l_good.nd rfl (Or.inl rfl)) (@q_bm_one _ _ _ (q_sm_expr (q_em_append (q_em_var 2) (@q_am_cons _ _ _ _ _ (q_em_ixA (hu_of hr) (q_FM_em (q_fm_lst (@q_am_cons _ _ _ _ _ (q_em_call G__law_text (hr.mono (by decide)) (by rfl) m__law_text k__law_text b__law_text (@q_am_cons _ _ _ _ _ (q_em_var 0) q_am_nil (by rfl))) (@q_am_cons _ _ _ _ _ (q_em_call G__law_pick (hr.mono (by decide)) (by rfl) m__law_pick k__law_pick b__law_pick (@q_am_cons _ _ _ _ _ (q_em_var 0) (@q_am_cons _ _ _ _ _ q_em_int q_am_nil (by rfl)) (by rfl))) (@q_am_cons _ _ _ _ _ (q_em_call G__law_pick (hr.mono (by decide)) (by rfl) m__law_pick k__law_pick b__law_pick (@q_am_cons _ _ _ _ _ (q_em_var 0) (@q_am_cons _ _ _ _ _ q_em_int q_am_nil (by rfl)) (by rfl))) q_am_nil (by rfl)) (by rfl)) (by rfl)))) (q_em_mod (q_em_index (q_FM_em (q_fm_lst (@q_am_cons _ _ _ _ _ q_em_str (@q_am_cons _ _ _ _ _ q_em_str (@q_am_cons _ _ _ _ _ q_em_str (@q_am_cons _ _ _ _ _ q_em_str q_am_nil (by rfl)) (by rfl)) (by rfl)) (by rfl)))) (@q_am_cons _ _ _ _ _ (q_em_var 3) q_am_nil (by rfl))) q_em_int)) q_am_nil (by rfl)))))) (@q_bm_one _ _ _ (@q_sm_ret _ _ _ _ (q_em_add (q_em_tup (@q_am_cons _ _ _ _ _ (q_em_var 1) q_am_nil (by rfl))) (q_em_tupc (by rfl) T.b_tuple (by rfl) (@q_am_cons _ _ _ _ _ (q_em_var 2) q_am_nil (by rfl)))))))))
end
end K12

set_option Elab.async false
set_option linter.all false
set_option maxRecDepth 100000
set_option maxHeartbeats 4000000
namespace K12
open PySem PySem.Spec L2 Pu
open PyProof.Rows hiding St Fr
section
variable {P : Program} {w : World} {K : PySem.W.Frag} {mg : Str → Option Value} {base : Heap}
abbrev s_l_odd : Stmt := top 29
theorem sc_l_odd : FnScope ["_law_left_here", "_law_some"] ["_law_left_here"] (defScope s_l_odd) := ⟨rfl, rfl, rfl, by decide +kernel, rfl, by decide +kernel, by decide +kernel⟩
theorem ok_l_odd {f_me : Addr} {fd_me : FuncData} {f__law_pick : Addr} {fd__law_pick : FuncData} (Fn : Fun K "_law_odd" "_law_odd" s_l_odd f_me fd_me) (T : Txt mg) (G__law_pick : FnOk P w K mg base CX0 1 f__law_pick fd__law_pick ["_law_left_here", "_law_many"] (liftSp K F_l_pick)) (m__law_pick : mg "_law_pick" = some (.ref f__law_pick)) (k__law_pick : PySem.W.keepIn K (.ref f__law_pick) = true) (b__law_pick : L2.Binds K fd__law_pick ["_law_left_here", "_law_many"] []) : FnOk P w K mg base CX0 2 f_me fd_me ["_law_left_here"] (liftSp K (F_l_odd)) :=
  q_fn_mk Fn sc_l_odd fun cdv A outer s H E hr => (@q_bm_cons _ _ _ _ _ (q_sm_set (i := 1) sc_l_odd.nd rfl (Or.inl rfl) (q_FM_em (q_fm_lst (@q_am_cons _ _ _ _ _ q_em_int (@q_am_cons _ _ _ _ _ q_em_int (@q_am_cons _ _ _ _ _ q_em_int (@q_am_cons _ _ _ _ _ q_em_int (@q_am_cons _ _ _ _ _ (q_em_neg q_em_int) (@q_am_cons _ _ _ _ _ (q_em_pow q_em_int q_em_int) (@q_am_cons _ _ _ _ _ q_em_bl (@q_am_cons _ _ _ _ _ q_em_bl (@q_am_cons _ _ _ _ _ q_em_non (@q_am_cons _ _ _ _ _ q_em_str (@q_am_cons _ _ _ _ _ q_em_str (@q_am_cons _ _ _ _ _ q_em_str (@q_am_cons _ _ _ _ _ q_em_str (@q_am_cons _ _ _ _ _ q_em_str (@q_am_cons _ _ _ _ _ q_em_str (@q_am_cons _ _ _ _ _ q_em_str (@q_am_cons _ _ _ _ _ (q_em_tup (@q_am_cons _ _ _ _ _ q_em_str q_am_nil (by rfl))) q_am_nil (by rfl)) (by rfl)) (by rfl)) (by rfl)) (by rfl)) (by rfl)) (by rfl)) (by rfl)) (by rfl)) (by rfl)) (by rfl)) (by rfl)) (by rfl)) (by rfl)) (by rfl)) (by rfl)) (by rfl))))) (@q_bm_one _ _ _ (@q_sm_ret _ _ _ _ (q_em_ixA (hu_of hr) (q_em_add (q_em_var 1) (q_FM_em (q_fm_lst (@q_am_cons _ _ _ _ _ (q_FM_em (q_fm_lst (@q_am_cons _ _ _ _ _ q_em_str q_am_nil (by rfl)))) (@q_am_cons _ _ _ _ _ q_em_int (@q_am_cons _ _ _ _ _ q_em_str (@q_am_cons _ _ _ _ _ (q_em_tup (@q_am_cons _ _ _ _ _ q_em_str q_am_nil (by rfl))) (@q_am_cons _ _ _ _ _ q_em_str (@q_am_cons _ _ _ _ _ (q_em_neg (q_em_pow q_em_int q_em_int)) (@q_am_cons _ _ _ _ _ (q_em_tup q_am_nil) q_am_nil (by rfl)) (by rfl)) (by rfl)) (by rfl)) (by rfl)) (by rfl)) (by rfl))))) (q_em_call G__law_pick (hr.mono (by decide)) (by rfl) m__law_pick k__law_pick b__law_pick (@q_am_cons _ _ _ _ _ (q_em_var 0) (@q_am_cons _ _ _ _ _ q_em_int q_am_nil (by rfl)) (by rfl)))))))
end
end K12

set_option Elab.async false
set_option linter.all false
set_option maxRecDepth 100000
set_option maxHeartbeats 4000000
namespace K12
open PySem PySem.Spec L2 Pu
open PyProof.Rows hiding St Fr
section
variable {P : Program} {w : World} {K : PySem.W.Frag} {mg : Str → Option Value} {base : Heap}
abbrev s_l_spoilt : Stmt := top 30
theorem sc_l_spoilt : FnScope ["_law_left_here", "_law_deed", "_law_way", "_law_at"] ["_law_left_here", "_law_deed"] (defScope s_l_spoilt) := ⟨rfl, rfl, rfl, by decide +kernel, rfl, by decide +kernel, by decide +kernel⟩
theorem ok_l_spoilt {f_me : Addr} {fd_me : FuncData} {f__law_pick f__law_odd : Addr} {fd__law_pick fd__law_odd : FuncData} (Fn : Fun K "_law_spoilt" "_law_spoilt" s_l_spoilt f_me fd_me) (T : Txt mg) (G__law_pick : FnOk P w K mg base CX0 1 f__law_pick fd__law_pick ["_law_left_here", "_law_many"] (liftSp K F_l_pick)) (m__law_pick : mg "_law_pick" = some (.ref f__law_pick)) (k__law_pick : PySem.W.keepIn K (.ref f__law_pick) = true) (b__law_pick : L2.Binds K fd__law_pick ["_law_left_here", "_law_many"] []) (G__law_odd : FnOk P w K mg base CX0 2 f__law_odd fd__law_odd ["_law_left_here"] (liftSp K F_l_odd)) (m__law_odd : mg "_law_odd" = some (.ref f__law_odd)) (k__law_odd : PySem.W.keepIn K (.ref f__law_odd) = true) (b__law_odd : L2.Binds K fd__law_odd ["_law_left_here"] []) : FnOk P w K mg base CX0 3 f_me fd_me ["_law_left_here", "_law_deed"] (liftSp K (F_l_spoilt)) :=
  q_fn_mk Fn sc_l_spoilt fun cdv A outer s H E hr => (@q_bm_cons _ _ _ _ _ (q_sm_set (i := 2) sc_l_spoilt.nd rfl (Or.inl rfl) (q_em_call G__law_pick (hr.mono (by decide)) (by rfl) m__law_pick k__law_pick b__law_pick (@q_am_cons _ _ _ _ _ (q_em_var 0) (@q_am_cons _ _ _ _ _ q_em_int q_am_nil (by rfl)) (by rfl)))) (@q_bm_cons _ _ _ _ _ (@q_sm_if _ _ _ _ _ _ _ _ (q_tm_cmp op_eq eq_ok.r (q_em_var 2) q_em_int (nomark _)) (@q_bm_one _ _ _ (q_sm_retF (q_fm_listc (by rfl) T.b_list (by rfl) (@q_am_cons _ _ _ _ _ (q_em_var 1) q_am_nil (by rfl))))) q_bm_nil) (@q_bm_cons _ _ _ _ _ (@q_sm_if _ _ _ _ _ _ _ _ (q_tm_cmp op_eq eq_ok.r (q_em_var 2) q_em_int (nomark _)) (@q_bm_one _ _ _ (@q_sm_ret _ _ _ _ (q_em_add (q_em_var 1) (q_em_tup (@q_am_cons _ _ _ _ _ (q_em_call G__law_odd (hr.mono (by decide)) (by rfl) m__law_odd k__law_odd b__law_odd (@q_am_cons _ _ _ _ _ (q_em_var 0) q_am_nil (by rfl))) q_am_nil (by rfl)))))) q_bm_nil) (@q_bm_cons _ _ _ _ _ (@q_sm_if _ _ _ _ _ _ _ _ (q_tm_cmp op_eq eq_ok.r (q_em_var 2) q_em_int (nomark _)) (@q_bm_one _ _ _ (@q_sm_ret _ _ _ _ (q_em_slice (q_em_var 1) q_om_none (q_om_some (q_em_sub (q_em_len (by rfl) T.b_len (@q_am_cons _ _ _ _ _ (q_em_var 1) q_am_nil (by rfl))) q_em_int))))) q_bm_nil) (@q_bm_cons _ _ _ _ _ (@q_sm_if _ _ _ _ _ _ _ _ (q_tm_cmp op_eq eq_ok.r (q_em_var 2) q_em_int (nomark _)) (@q_bm_one _ _ _ (@q_sm_ret _ _ _ _ (q_em_add (q_em_tup (@q_am_cons _ _ _ _ _ (q_em_ixA (hu_of hr) (q_FM_em (q_fm_lst (@q_am_cons _ _ _ _ _ q_em_str (@q_am_cons _ _ _ _ _ q_em_str (@q_am_cons _ _ _ _ _ q_em_str (@q_am_cons _ _ _ _ _ q_em_str (@q_am_cons _ _ _ _ _ q_em_str (@q_am_cons _ _ _ _ _ q_em_str (@q_am_cons _ _ _ _ _ q_em_str (@q_am_cons _ _ _ _ _ q_em_str q_am_nil (by rfl)) (by rfl)) (by rfl)) (by rfl)) (by rfl)) (by rfl)) (by rfl)) (by rfl)))) (q_em_call G__law_pick (hr.mono (by decide)) (by rfl) m__law_pick k__law_pick b__law_pick (@q_am_cons _ _ _ _ _ (q_em_var 0) (@q_am_cons _ _ _ _ _ q_em_int q_am_nil (by rfl)) (by rfl)))) q_am_nil (by rfl))) (q_em_slice (q_em_var 1) (q_om_some q_em_int) q_om_none)))) q_bm_nil) (@q_bm_cons _ _ _ _ _ (q_sm_set (i := 3) sc_l_spoilt.nd rfl (Or.inl rfl) (q_em_call G__law_pick (hr.mono (by decide)) (by rfl) m__law_pick k__law_pick b__law_pick (@q_am_cons _ _ _ _ _ (q_em_var 0) (@q_am_cons _ _ _ _ _ (q_em_len (by rfl) T.b_len (@q_am_cons _ _ _ _ _ (q_em_var 1) q_am_nil (by rfl))) q_am_nil (by rfl)) (by rfl)))) (@q_bm_one _ _ _ (@q_sm_ret _ _ _ _ (q_em_add (q_em_add (q_em_slice (q_em_var 1) q_om_none (q_om_some (q_em_var 3))) (q_em_tup (@q_am_cons _ _ _ _ _ (q_em_call G__law_odd (hr.mono (by decide)) (by rfl) m__law_odd k__law_odd b__law_odd (@q_am_cons _ _ _ _ _ (q_em_var 0) q_am_nil (by rfl))) q_am_nil (by rfl)))) (q_em_slice (q_em_var 1) (q_om_some (q_em_add (q_em_var 3) q_em_int)) q_om_none))))))))))
end
end K12

set_option Elab.async false
set_option linter.all false
set_option maxRecDepth 100000
set_option maxHeartbeats 4000000
namespace K12
open PySem PySem.Spec L2 Pu
open PyProof.Rows hiding St Fr
section
variable {P : Program} {w : World} {K : PySem.W.Frag} {mg : Str → Option Value} {base : Heap}
abbrev s_l_right : Stmt := top 31
theorem sc_l_right : FnScope ["_law_thing", "_law_turn", "_law_found"] ["_law_thing"] (defScope s_l_right) := ⟨rfl, rfl, rfl, by decide +kernel, rfl, by decide +kernel, by decide +kernel⟩
theorem ok_l_right {f_me : Addr} {fd_me : FuncData} {f_is_deed f__law_is_deed d_DEEDS f_is_bare f_is_of_word f_is_of_part f_is_of_clause f_is_of_house : Addr} {fd_is_deed fd__law_is_deed : FuncData} (Fn : Fun K "_law_right" "_law_right" s_l_right f_me fd_me) (T : Txt mg) (G_is_deed : FnOk P w K mg base CX0 5 f_is_deed fd_is_deed ["thing"] (liftSp K (F_is_deed d_DEEDS f_is_bare f_is_of_word f_is_of_part f_is_of_clause f_is_of_house))) (m_is_deed : mg "is_deed" = some (.ref f_is_deed)) (k_is_deed : PySem.W.keepIn K (.ref f_is_deed) = true) (b_is_deed : L2.Binds K fd_is_deed ["thing"] []) (G__law_is_deed : FnOk P w K mg base CX0 3 f__law_is_deed fd__law_is_deed ["_law_thing"] (liftSp K F_l_is_deed)) (m__law_is_deed : mg "_law_is_deed" = some (.ref f__law_is_deed)) (k__law_is_deed : PySem.W.keepIn K (.ref f__law_is_deed) = true) (b__law_is_deed : L2.Binds K fd__law_is_deed ["_law_thing"] []) : FnOk P w K mg base CX0 6 f_me fd_me ["_law_thing"] (liftSp K (F_l_right d_DEEDS f_is_bare f_is_of_word f_is_of_part f_is_of_clause f_is_of_house)) :=
  q_fn_mk Fn sc_l_right fun cdv A outer s H E hr => (@q_bm_cons _ _ _ _ _ (q_sm_for PassesOwn.never rfl (q_im_range1 (by rfl) T.b_range (@q_am_cons _ _ _ _ _ q_em_int q_am_nil (by rfl))) (q_gm_name (i := 1) sc_l_right.nd rfl (Or.inl rfl)) (@q_bm_cons _ _ _ _ _ (q_sm_set (i := 2) sc_l_right.nd rfl (Or.inl rfl) (q_em_call G_is_deed (hr.mono (by decide)) (by rfl) m_is_deed k_is_deed b_is_deed (@q_am_cons _ _ _ _ _ (q_em_var 0) q_am_nil (by rfl)))) (@q_bm_one _ _ _ (@q_sm_if _ _ _ _ _ _ _ _ (q_WM_t (q_wm_or (q_tm_not (q_tm_tru (q_em_isi (by rfl) T.b_isinstance (by rfl) (@q_am_cons _ _ _ _ _ (q_em_var 2) (@q_am_cons _ _ _ _ _ (q_em_ty (by rfl) T.b_bool (by rfl)) q_am_nil (by rfl)) (by rfl))))) (q_wm_or1 (q_tm_cmp op_ne ne_ok.r (q_em_var 2) (q_em_call G__law_is_deed (hr.mono (by decide)) (by rfl) m__law_is_deed k__law_is_deed b__law_is_deed (@q_am_cons _ _ _ _ _ (q_em_var 0) q_am_nil (by rfl))) (nomark _))))) (@q_bm_one _ _ _ (@q_sm_ret _ _ _ _ q_em_bl)) q_bm_nil)))) (@q_bm_one _ _ _ (@q_sm_ret _ _ _ _ q_em_bl)))
end
end K12

set_option Elab.async false
set_option linter.all false
set_option maxRecDepth 100000
set_option maxHeartbeats 4000000
namespace K12
open PySem PySem.Spec L2 Pu
open PyProof.Rows hiding St Fr
section
variable {P : Program} {w : World} {K : PySem.W.Frag} {mg : Str → Option Value} {base : Heap}
abbrev s_law : Stmt := top 32
theorem sc_law : FnScope ["_law_script", "_law_some", "_law_thing", "_law_k", "_law_left_here", "_law_deed"] ["_law_script"] (defScope s_law) := ⟨rfl, rfl, rfl, by decide +kernel, rfl, by decide +kernel, by decide +kernel⟩
theorem ok_law {f_me : Addr} {fd_me : FuncData} {f__law_right f__law_left f__law_good f__law_odd f__law_spoilt d_DEEDS f_is_bare f_is_of_word f_is_of_part f_is_of_clause f_is_of_house : Addr} {fd__law_right fd__law_left fd__law_good fd__law_odd fd__law_spoilt : FuncData} (Fn : Fun K "law" "law" s_law f_me fd_me) (T : Txt mg) (G__law_right : FnOk P w K mg base CX0 6 f__law_right fd__law_right ["_law_thing"] (liftSp K (F_l_right d_DEEDS f_is_bare f_is_of_word f_is_of_part f_is_of_clause f_is_of_house))) (m__law_right : mg "_law_right" = some (.ref f__law_right)) (k__law_right : PySem.W.keepIn K (.ref f__law_right) = true) (b__law_right : L2.Binds K fd__law_right ["_law_thing"] []) (GF__law_left : FnOk P w K mg base CX0 2 f__law_left fd__law_left ["_law_script", "_law_k"] (liftSpF K FF_l_left)) (m__law_left : mg "_law_left" = some (.ref f__law_left)) (k__law_left : PySem.W.keepIn K (.ref f__law_left) = true) (b__law_left : L2.Binds K fd__law_left ["_law_script", "_law_k"] []) (G__law_good : FnOk P w K mg base CX0 3 f__law_good fd__law_good ["_law_left_here"] (liftSp K F_l_good)) (m__law_good : mg "_law_good" = some (.ref f__law_good)) (k__law_good : PySem.W.keepIn K (.ref f__law_good) = true) (b__law_good : L2.Binds K fd__law_good ["_law_left_here"] []) (G__law_odd : FnOk P w K mg base CX0 2 f__law_odd fd__law_odd ["_law_left_here"] (liftSp K F_l_odd)) (m__law_odd : mg "_law_odd" = some (.ref f__law_odd)) (k__law_odd : PySem.W.keepIn K (.ref f__law_odd) = true) (b__law_odd : L2.Binds K fd__law_odd ["_law_left_here"] []) (G__law_spoilt : FnOk P w K mg base CX0 3 f__law_spoilt fd__law_spoilt ["_law_left_here", "_law_deed"] (liftSp K F_l_spoilt)) (m__law_spoilt : mg "_law_spoilt" = some (.ref f__law_spoilt)) (k__law_spoilt : PySem.W.keepIn K (.ref f__law_spoilt) = true) (b__law_spoilt : L2.Binds K fd__law_spoilt ["_law_left_here", "_law_deed"] []) : FnOk P w K mg base CX0 7 f_me fd_me ["_law_script"] (liftSp K (F_law d_DEEDS f_is_bare f_is_of_word f_is_of_part f_is_of_clause f_is_of_house)) :=
  q_fn_mk Fn sc_law fun cdv A outer s H E hr => (@q_bm_cons _ _ _ _ _ (q_sm_set (i := 1) sc_law.nd rfl (Or.inl rfl) (q_FM_em (q_fm_lst (@q_am_cons _ _ _ _ _ (q_em_tup (@q_am_cons _ _ _ _ _ q_em_str (@q_am_cons _ _ _ _ _ q_em_int (@q_am_cons _ _ _ _ _ q_em_str q_am_nil (by rfl)) (by rfl)) (by rfl))) (@q_am_cons _ _ _ _ _ (q_em_tup (@q_am_cons _ _ _ _ _ q_em_str (@q_am_cons _ _ _ _ _ q_em_str q_am_nil (by rfl)) (by rfl))) (@q_am_cons _ _ _ _ _ (q_em_tup q_am_nil) (@q_am_cons _ _ _ _ _ (q_em_tup (@q_am_cons _ _ _ _ _ q_em_str (@q_am_cons _ _ _ _ _ q_em_int (@q_am_cons _ _ _ _ _ q_em_bl q_am_nil (by rfl)) (by rfl)) (by rfl))) (@q_am_cons _ _ _ _ _ (q_em_tup (@q_am_cons _ _ _ _ _ q_em_str (@q_am_cons _ _ _ _ _ q_em_int (@q_am_cons _ _ _ _ _ q_em_int q_am_nil (by rfl)) (by rfl)) (by rfl))) (@q_am_cons _ _ _ _ _ (q_em_tup (@q_am_cons _ _ _ _ _ q_em_str (@q_am_cons _ _ _ _ _ q_em_int (@q_am_cons _ _ _ _ _ q_em_int q_am_nil (by rfl)) (by rfl)) (by rfl))) (@q_am_cons _ _ _ _ _ (q_em_tup (@q_am_cons _ _ _ _ _ q_em_str (@q_am_cons _ _ _ _ _ q_em_int (@q_am_cons _ _ _ _ _ q_em_int q_am_nil (by rfl)) (by rfl)) (by rfl))) q_am_nil (by rfl)) (by rfl)) (by rfl)) (by rfl)) (by rfl)) (by rfl)) (by rfl))))) (@q_bm_cons _ _ _ _ _ (q_sm_for PassesOwn.never rfl (q_im_val (q_em_add (q_em_var 1) (q_FM_em (q_fm_lst (@q_am_cons _ _ _ _ _ (q_em_tup (@q_am_cons _ _ _ _ _ q_em_str (@q_am_cons _ _ _ _ _ q_em_int q_am_nil (by rfl)) (by rfl))) (@q_am_cons _ _ _ _ _ (q_em_tup (@q_am_cons _ _ _ _ _ q_em_str q_am_nil (by rfl))) (@q_am_cons _ _ _ _ _ q_em_str (@q_am_cons _ _ _ _ _ q_em_non (@q_am_cons _ _ _ _ _ q_em_dict0 (@q_am_cons _ _ _ _ _ (q_FM_em (q_fm_lst q_am_nil)) (@q_am_cons _ _ _ _ _ (q_em_tup (@q_am_cons _ _ _ _ _ q_em_str (@q_am_cons _ _ _ _ _ q_em_bl q_am_nil (by rfl)) (by rfl))) (@q_am_cons _ _ _ _ _ (q_em_tup (@q_am_cons _ _ _ _ _ q_em_str (@q_am_cons _ _ _ _ _ q_em_str q_am_nil (by rfl)) (by rfl))) (@q_am_cons _ _ _ _ _ (q_em_tup (@q_am_cons _ _ _ _ _ q_em_str (@q_am_cons _ _ _ _ _ q_em_int q_am_nil (by rfl)) (by rfl))) q_am_nil (by rfl)) (by rfl)) (by rfl)) (by rfl)) (by rfl)) (by rfl)) (by rfl)) (by rfl)) (by rfl)))))) (q_gm_name (i := 2) sc_law.nd rfl (Or.inl rfl)) (@q_bm_one _ _ _ (@q_sm_if _ _ _ _ _ _ _ _ (q_tm_not (q_tm_tru (q_em_call G__law_right (hr.mono (by decide)) (by rfl) m__law_right k__law_right b__law_right (@q_am_cons _ _ _ _ _ (q_em_var 2) q_am_nil (by rfl))))) (@q_bm_one _ _ _ (@q_sm_ret _ _ _ _ q_em_bl)) q_bm_nil))) (@q_bm_cons _ _ _ _ _ (q_sm_for PassesOwn.never rfl (q_im_range2 (by rfl) T.b_range (@q_am_cons _ _ _ _ _ q_em_int (@q_am_cons _ _ _ _ _ (q_em_add q_em_int (q_em_len (by rfl) T.b_len (@q_am_cons _ _ _ _ _ (q_em_slice (q_em_var 0) (q_om_some q_em_int) (q_om_some q_em_int)) q_am_nil (by rfl)))) q_am_nil (by rfl)) (by rfl))) (q_gm_name (i := 3) sc_law.nd rfl (Or.inl rfl)) (@q_bm_cons _ _ _ _ _ (q_sm_new (i := 4) sc_law.nd rfl (Or.inl rfl) (q_fm_call GF__law_left (hr.mono (by decide)) (by rfl) m__law_left k__law_left b__law_left (@q_am_cons _ _ _ _ _ (q_em_var 0) (@q_am_cons _ _ _ _ _ (q_em_var 3) q_am_nil (by rfl)) (by rfl)))) (@q_bm_cons _ _ _ _ _ (q_sm_set (i := 5) sc_law.nd rfl (Or.inl rfl) (q_em_call G__law_good (hr.mono (by decide)) (by rfl) m__law_good k__law_good b__law_good (@q_am_cons _ _ _ _ _ (q_em_var 4) q_am_nil (by rfl)))) (@q_bm_one _ _ _ (q_sm_for PassesOwn.never rfl (q_im_val (q_FM_em (q_fm_lst (@q_am_cons _ _ _ _ _ (q_em_var 5) (@q_am_cons _ _ _ _ _ (q_em_call G__law_spoilt (hr.mono (by decide)) (by rfl) m__law_spoilt k__law_spoilt b__law_spoilt (@q_am_cons _ _ _ _ _ (q_em_var 4) (@q_am_cons _ _ _ _ _ (q_em_var 5) q_am_nil (by rfl)) (by rfl))) (@q_am_cons _ _ _ _ _ (q_em_call G__law_spoilt (hr.mono (by decide)) (by rfl) m__law_spoilt k__law_spoilt b__law_spoilt (@q_am_cons _ _ _ _ _ (q_em_var 4) (@q_am_cons _ _ _ _ _ (q_em_var 5) q_am_nil (by rfl)) (by rfl))) (@q_am_cons _ _ _ _ _ (q_em_call G__law_odd (hr.mono (by decide)) (by rfl) m__law_odd k__law_odd b__law_odd (@q_am_cons _ _ _ _ _ (q_em_var 4) q_am_nil (by rfl))) q_am_nil (by rfl)) (by rfl)) (by rfl)) (by rfl))))) (q_gm_name (i := 2) sc_law.nd rfl (Or.inl rfl)) (@q_bm_one _ _ _ (@q_sm_if _ _ _ _ _ _ _ _ (q_tm_not (q_tm_tru (q_em_call G__law_right (hr.mono (by decide)) (by rfl) m__law_right k__law_right b__law_right (@q_am_cons _ _ _ _ _ (q_em_var 2) q_am_nil (by rfl))))) (@q_bm_one _ _ _ (@q_sm_ret _ _ _ _ q_em_bl)) q_bm_nil))))))) (@q_bm_one _ _ _ (@q_sm_ret _ _ _ _ q_em_bl)))))
end
end K12

set_option linter.all false
set_option maxRecDepth 100000
set_option maxHeartbeats 2000000
namespace K12
open PySem PySem.Spec L2 Pu
open PyProof.Rows hiding St Fr
def okv : PV → Bool
  | .fn _ => false
  | .ty _ => false
  | _ => true
def AZ : Str := "abcdefghijklmnopqrstuvwxyz"
def wordB (z : Str) : Bool := decide (1 ≤ (z.length : Int)) && decide ((z.length : Int) ≤ 12) && z.cps.toList.all AZ.cps.contains
def wordP : PV → Bool
  | .str z => wordB z
  | _ => false
def numB (x : PV) (m : Int) : Bool := match x with
  | .int i => decide (m ≤ i)
  | _ => false
def belB (x : PV) (b : Int) : Bool := match x with
  | .int i => decide (0 ≤ i) && decide (i < b)
  | _ => false
theorem is_number_eq (x : PV) (m : Int) (C : Cs) (h : okv x = true) : F_is_number [.v x, .v (.int m)] C = some (.v (.bl (numB x m)), C) := by
  cases x <;> first
    | (cases h; done)
    | (simp [F_is_number, mDef, mRet, mRetF, mAndV, mOrV, mNotV, mCB, mOp, mChain, mTest, mTru, mNotT, mAndT, mOrT, mIf, mIfS, mSeq, mSkip, mSet, mDrop, mTup, mLst, mVal, mFn, mFnF, mSlice, mMt, mDict, mDict0, mList, listH, bnd, opM, aCons, aNil, mVar, mC, Pu.ret, g1, g2, derefs, deref, isiH, isiP, tyN, mB, asB, intP, fin, truP, lenH, Pu.plain, oNo, oPart, Pu.intD, sliceD, sliceP, isTy, tyP, mtD, eqP, neP, scP, numB])
theorem is_number_below_eq (x : PV) (b : Int) (C : Cs) (h : okv x = true) : F_is_number_below [.v x, .v (.int b)] C = some (.v (.bl (belB x b)), C) := by
  cases x with
  | int i => by_cases hi : (0 : Int) ≤ i <;> simp [F_is_number_below, mDef, mRet, mRetF, mAndV, mOrV, mNotV, mCB, mOp, mChain, mTest, mTru, mNotT, mAndT, mOrT, mIf, mIfS, mSeq, mSkip, mSet, mDrop, mTup, mLst, mVal, mFn, mFnF, mSlice, mMt, mDict, mDict0, mList, listH, bnd, opM, aCons, aNil, mVar, mC, Pu.ret, g1, g2, derefs, deref, isiH, isiP, tyN, mB, asB, intP, fin, truP, lenH, Pu.plain, oNo, oPart, Pu.intD, sliceD, sliceP, isTy, tyP, mtD, eqP, neP, scP, is_number_eq _ _ _ h, numB, belB, hi]
  | fn a => cases h
  | ty a => cases h
  | _ => simp [F_is_number_below, mDef, mRet, mRetF, mAndV, mOrV, mNotV, mCB, mOp, mChain, mTest, mTru, mNotT, mAndT, mOrT, mIf, mIfS, mSeq, mSkip, mSet, mDrop, mTup, mLst, mVal, mFn, mFnF, mSlice, mMt, mDict, mDict0, mList, listH, bnd, opM, aCons, aNil, mVar, mC, Pu.ret, g1, g2, derefs, deref, isiH, isiP, tyN, mB, asB, intP, fin, truP, lenH, Pu.plain, oNo, oPart, Pu.intD, sliceD, sliceP, isTy, tyP, mtD, eqP, neP, scP, is_number_eq _ _ _ h, numB, belB]
theorem is_clause_number_eq (x : PV) (C : Cs) (h : okv x = true) : F_is_clause_number [.v x] C = some (.v (.bl (belB x 12)), C) := by
  simp [F_is_clause_number, mDef, mRet, mRetF, mAndV, mOrV, mNotV, mCB, mOp, mChain, mTest, mTru, mNotT, mAndT, mOrT, mIf, mIfS, mSeq, mSkip, mSet, mDrop, mTup, mLst, mVal, mFn, mFnF, mSlice, mMt, mDict, mDict0, mList, listH, bnd, opM, aCons, aNil, mVar, mC, Pu.ret, g1, g2, derefs, deref, isiH, isiP, tyN, mB, asB, intP, fin, truP, lenH, Pu.plain, oNo, oPart, Pu.intD, sliceD, sliceP, isTy, tyP, mtD, eqP, neP, scP, is_number_below_eq _ _ _ h]
theorem comp_map {te : PSt → M SV} {f : PV → PV} : ∀ (xs : List PV) (ρ : PSt) (ys : List PV) (C : Cs), (∀ x ∈ xs, te (ρ.set 0 (some (.v x))) C = some (.v (f x), C)) → compL (hName 0) tOk te xs ρ ys C = some (ys ++ xs.map f, C)
  | [], ρ, ys, C, _ => by simp [compL, Pu.ret]
  | x :: xs, ρ, ys, C, h => by
    have h1 := h x (by simp)
    have h2 := comp_map xs (ρ.set 0 (some (.v x))) (ys ++ [f x]) C fun y hy => by rw [List.set_set]; exact h y (by simp [hy])
    simp [compL, hName, bnd, tOk, Pu.ret, h1, h2]
theorem bools_map {α : Type} (g : α → Bool) : ∀ l : List α, boolsP (l.map fun c => PV.bl (g c)) = some (l.map g)
  | [] => rfl
  | a :: l => by simp [boolsP, bools_map g l]
theorem strIn_one (c : Nat) (z : Str) : strIn ⟨#[c]⟩ z = z.cps.toList.contains c := by
  unfold strIn
  rw [PySem.StrLaws.found_one]
  simp
theorem AZ_contains : AZ.cps.toList.contains = AZ.cps.contains := by
  funext c; simp
theorem is_word_eq (x : PV) (C : Cs) (h : okv x = true) : F_is_word [.v x] C = some (.v (.bl (wordP x)), C) := by
  cases x with
  | str z =>
    by_cases h1 : 1 ≤ (z.length : Int)
    · by_cases h2 : (z.length : Int) ≤ 12
      · have hl : z.cps.size ≤ 100000 := by
          have : z.cps.size = z.length := rfl
          omega
        unfold F_is_word B_is_word
        generalize hte : mOp (g2 inP) (mVar 0) (mC (.str "abcdefghijklmnopqrstuvwxyz")) = te
        have key : compL (hName 0) tOk te (z.cps.toList.map fun c => .str ⟨#[c]⟩) [none] [] C = some (z.cps.toList.map fun c => PV.bl (AZ.cps.contains c), C) := by
          subst hte
          have := comp_map (te := mOp (g2 inP) (mVar 0) (mC (.str "abcdefghijklmnopqrstuvwxyz"))) (f := fun p => match p with | .str y => .bl (strIn y AZ) | _ => .non) (z.cps.toList.map fun c => .str ⟨#[c]⟩) [none] [] C (fun x hx => by
            obtain ⟨c, _, rfl⟩ := List.mem_map.mp hx
            simp [mOp, bnd, mVar, mC, opM, g2, deref, inP, inB, AZ])
          rw [this, List.nil_append, List.map_map]
          congr 3
          funext c
          simp only [Function.comp, strIn_one]
          rw [AZ_contains]
        simp [mDef, mRet, mRetF, mAndV, mOrV, mNotV, mCB, mOp, mChain, mTest, mTru, mNotT, mAndT, mOrT, mIf, mIfS, mSeq, mSkip, mSet, mDrop, mTup, mLst, mVal, mFn, mFnF, mSlice, mMt, mDict, mDict0, mList, listH, bnd, opM, aCons, aNil, mVar, mC, Pu.ret, g1, g2, derefs, deref, isiH, isiP, tyN, mB, asB, intP, fin, truP, lenH, Pu.plain, oNo, oPart, Pu.intD, sliceD, sliceP, isTy, tyP, mtD, eqP, neP, scP, h1, h2, mComp, mItems, itemsP, stIn', hl, key, allH, bools_map, wordP, wordB, List.all_map]
      · simp [F_is_word, mDef, mRet, mRetF, mAndV, mOrV, mNotV, mCB, mOp, mChain, mTest, mTru, mNotT, mAndT, mOrT, mIf, mIfS, mSeq, mSkip, mSet, mDrop, mTup, mLst, mVal, mFn, mFnF, mSlice, mMt, mDict, mDict0, mList, listH, bnd, opM, aCons, aNil, mVar, mC, Pu.ret, g1, g2, derefs, deref, isiH, isiP, tyN, mB, asB, intP, fin, truP, lenH, Pu.plain, oNo, oPart, Pu.intD, sliceD, sliceP, isTy, tyP, mtD, eqP, neP, scP, h1, h2, wordP, wordB]
    · simp [F_is_word, mDef, mRet, mRetF, mAndV, mOrV, mNotV, mCB, mOp, mChain, mTest, mTru, mNotT, mAndT, mOrT, mIf, mIfS, mSeq, mSkip, mSet, mDrop, mTup, mLst, mVal, mFn, mFnF, mSlice, mMt, mDict, mDict0, mList, listH, bnd, opM, aCons, aNil, mVar, mC, Pu.ret, g1, g2, derefs, deref, isiH, isiP, tyN, mB, asB, intP, fin, truP, lenH, Pu.plain, oNo, oPart, Pu.intD, sliceD, sliceP, isTy, tyP, mtD, eqP, neP, scP, h1, wordP, wordB]
  | fn a => cases h
  | ty a => cases h
  | _ => simp [F_is_word, mDef, mRet, mRetF, mAndV, mOrV, mNotV, mCB, mOp, mChain, mTest, mTru, mNotT, mAndT, mOrT, mIf, mIfS, mSeq, mSkip, mSet, mDrop, mTup, mLst, mVal, mFn, mFnF, mSlice, mMt, mDict, mDict0, mList, listH, bnd, opM, aCons, aNil, mVar, mC, Pu.ret, g1, g2, derefs, deref, isiH, isiP, tyN, mB, asB, intP, fin, truP, lenH, Pu.plain, oNo, oPart, Pu.intD, sliceD, sliceP, isTy, tyP, mtD, eqP, neP, scP, wordP]
theorem okv1 {p : PV} {ps : List PV} (h : (p :: ps).all okv = true) : okv p = true ∧ ps.all okv = true := by simpa using h
theorem is_bare_eq (ps : List PV) (C : Cs) : F_is_bare [.v (.tup ps)] C = some (.v (.bl (decide (ps.length = 0))), C) := by
  simp [F_is_bare, mDef, mRet, mRetF, mAndV, mOrV, mNotV, mCB, mOp, mChain, mTest, mTru, mNotT, mAndT, mOrT, mIf, mIfS, mSeq, mSkip, mSet, mDrop, mTup, mLst, mVal, mFn, mFnF, mSlice, mMt, mDict, mDict0, mList, listH, bnd, opM, aCons, aNil, mVar, mC, Pu.ret, g1, g2, derefs, deref, isiH, isiP, tyN, mB, asB, intP, fin, truP, lenH, Pu.plain, oNo, oPart, Pu.intD, sliceD, sliceP, isTy, tyP, mtD, eqP, neP, scP]
def ofWord : List PV → Bool
  | [a] => wordP a
  | _ => false
def ofClause : List PV → Bool
  | [a] => belB a 12
  | _ => false
def ofPart : List PV → Bool
  | [a, b] => belB a 12 && belB b 9
  | _ => false
def ofHouse : List PV → Bool
  | [a, b] => belB a 12 && wordP b && (match b with | .str z => decide (z ≠ "bell") | _ => true)
  | _ => false
theorem len_ne (n : Nat) (a b c : PV) (r : List PV) : ((r.length : Int) + 1 + 1 + 1 = 2) = False := by simp; omega
theorem is_of_word_eq (ps : List PV) (C : Cs) (h : ps.all okv = true) : F_is_of_word [.v (.tup ps)] C = some (.v (.bl (ofWord ps)), C) := by
  match ps, h with
  | [], _ => simp [F_is_of_word, mDef, mRet, mRetF, mAndV, mOrV, mNotV, mCB, mOp, mChain, mTest, mTru, mNotT, mAndT, mOrT, mIf, mIfS, mSeq, mSkip, mSet, mDrop, mTup, mLst, mVal, mFn, mFnF, mSlice, mMt, mDict, mDict0, mList, listH, bnd, opM, aCons, aNil, mVar, mC, Pu.ret, g1, g2, derefs, deref, isiH, isiP, tyN, mB, asB, intP, fin, truP, lenH, Pu.plain, oNo, oPart, Pu.intD, sliceD, sliceP, isTy, tyP, mtD, eqP, neP, scP, ofWord]
  | [a], h => simp [F_is_of_word, mDef, mRet, mRetF, mAndV, mOrV, mNotV, mCB, mOp, mChain, mTest, mTru, mNotT, mAndT, mOrT, mIf, mIfS, mSeq, mSkip, mSet, mDrop, mTup, mLst, mVal, mFn, mFnF, mSlice, mMt, mDict, mDict0, mList, listH, bnd, opM, aCons, aNil, mVar, mC, Pu.ret, g1, g2, derefs, deref, isiH, isiP, tyN, mB, asB, intP, fin, truP, lenH, Pu.plain, oNo, oPart, Pu.intD, sliceD, sliceP, isTy, tyP, mtD, eqP, neP, scP, ofWord, ixQ, ixP, atI, ixN, is_word_eq a C (okv1 h).1]
  | a :: b :: r, _ =>
    have : ¬ ((r.length : Int) + 1 + 1 = 1) := by omega
    simp [F_is_of_word, mDef, mRet, mRetF, mAndV, mOrV, mNotV, mCB, mOp, mChain, mTest, mTru, mNotT, mAndT, mOrT, mIf, mIfS, mSeq, mSkip, mSet, mDrop, mTup, mLst, mVal, mFn, mFnF, mSlice, mMt, mDict, mDict0, mList, listH, bnd, opM, aCons, aNil, mVar, mC, Pu.ret, g1, g2, derefs, deref, isiH, isiP, tyN, mB, asB, intP, fin, truP, lenH, Pu.plain, oNo, oPart, Pu.intD, sliceD, sliceP, isTy, tyP, mtD, eqP, neP, scP, ofWord, this]
theorem is_of_clause_eq (ps : List PV) (C : Cs) (h : ps.all okv = true) : F_is_of_clause [.v (.tup ps)] C = some (.v (.bl (ofClause ps)), C) := by
  match ps, h with
  | [], _ => simp [F_is_of_clause, mDef, mRet, mRetF, mAndV, mOrV, mNotV, mCB, mOp, mChain, mTest, mTru, mNotT, mAndT, mOrT, mIf, mIfS, mSeq, mSkip, mSet, mDrop, mTup, mLst, mVal, mFn, mFnF, mSlice, mMt, mDict, mDict0, mList, listH, bnd, opM, aCons, aNil, mVar, mC, Pu.ret, g1, g2, derefs, deref, isiH, isiP, tyN, mB, asB, intP, fin, truP, lenH, Pu.plain, oNo, oPart, Pu.intD, sliceD, sliceP, isTy, tyP, mtD, eqP, neP, scP, ofClause]
  | [a], h => simp [F_is_of_clause, mDef, mRet, mRetF, mAndV, mOrV, mNotV, mCB, mOp, mChain, mTest, mTru, mNotT, mAndT, mOrT, mIf, mIfS, mSeq, mSkip, mSet, mDrop, mTup, mLst, mVal, mFn, mFnF, mSlice, mMt, mDict, mDict0, mList, listH, bnd, opM, aCons, aNil, mVar, mC, Pu.ret, g1, g2, derefs, deref, isiH, isiP, tyN, mB, asB, intP, fin, truP, lenH, Pu.plain, oNo, oPart, Pu.intD, sliceD, sliceP, isTy, tyP, mtD, eqP, neP, scP, ofClause, ixQ, ixP, atI, ixN, is_clause_number_eq a C (okv1 h).1]
  | a :: b :: r, _ =>
    have : ¬ ((r.length : Int) + 1 + 1 = 1) := by omega
    simp [F_is_of_clause, mDef, mRet, mRetF, mAndV, mOrV, mNotV, mCB, mOp, mChain, mTest, mTru, mNotT, mAndT, mOrT, mIf, mIfS, mSeq, mSkip, mSet, mDrop, mTup, mLst, mVal, mFn, mFnF, mSlice, mMt, mDict, mDict0, mList, listH, bnd, opM, aCons, aNil, mVar, mC, Pu.ret, g1, g2, derefs, deref, isiH, isiP, tyN, mB, asB, intP, fin, truP, lenH, Pu.plain, oNo, oPart, Pu.intD, sliceD, sliceP, isTy, tyP, mtD, eqP, neP, scP, ofClause, this]
theorem is_of_part_eq (ps : List PV) (C : Cs) (h : ps.all okv = true) : F_is_of_part [.v (.tup ps)] C = some (.v (.bl (ofPart ps)), C) := by
  match ps, h with
  | [], _ => simp [F_is_of_part, mDef, mRet, mRetF, mAndV, mOrV, mNotV, mCB, mOp, mChain, mTest, mTru, mNotT, mAndT, mOrT, mIf, mIfS, mSeq, mSkip, mSet, mDrop, mTup, mLst, mVal, mFn, mFnF, mSlice, mMt, mDict, mDict0, mList, listH, bnd, opM, aCons, aNil, mVar, mC, Pu.ret, g1, g2, derefs, deref, isiH, isiP, tyN, mB, asB, intP, fin, truP, lenH, Pu.plain, oNo, oPart, Pu.intD, sliceD, sliceP, isTy, tyP, mtD, eqP, neP, scP, ofPart]
  | [a], h => simp [F_is_of_part, mDef, mRet, mRetF, mAndV, mOrV, mNotV, mCB, mOp, mChain, mTest, mTru, mNotT, mAndT, mOrT, mIf, mIfS, mSeq, mSkip, mSet, mDrop, mTup, mLst, mVal, mFn, mFnF, mSlice, mMt, mDict, mDict0, mList, listH, bnd, opM, aCons, aNil, mVar, mC, Pu.ret, g1, g2, derefs, deref, isiH, isiP, tyN, mB, asB, intP, fin, truP, lenH, Pu.plain, oNo, oPart, Pu.intD, sliceD, sliceP, isTy, tyP, mtD, eqP, neP, scP, ofPart]
  | [a, b], h =>
    cases hb : belB a 12 <;> simp [F_is_of_part, mDef, mRet, mRetF, mAndV, mOrV, mNotV, mCB, mOp, mChain, mTest, mTru, mNotT, mAndT, mOrT, mIf, mIfS, mSeq, mSkip, mSet, mDrop, mTup, mLst, mVal, mFn, mFnF, mSlice, mMt, mDict, mDict0, mList, listH, bnd, opM, aCons, aNil, mVar, mC, Pu.ret, g1, g2, derefs, deref, isiH, isiP, tyN, mB, asB, intP, fin, truP, lenH, Pu.plain, oNo, oPart, Pu.intD, sliceD, sliceP, isTy, tyP, mtD, eqP, neP, scP, ofPart, ixQ, ixP, atI, ixN, is_clause_number_eq a C (okv1 h).1, is_number_below_eq b 9 C (okv1 (okv1 h).2).1, hb]
  | a :: b :: c :: r, _ =>
    have : ¬ ((r.length : Int) + 1 + 1 + 1 = 2) := by omega
    simp [F_is_of_part, mDef, mRet, mRetF, mAndV, mOrV, mNotV, mCB, mOp, mChain, mTest, mTru, mNotT, mAndT, mOrT, mIf, mIfS, mSeq, mSkip, mSet, mDrop, mTup, mLst, mVal, mFn, mFnF, mSlice, mMt, mDict, mDict0, mList, listH, bnd, opM, aCons, aNil, mVar, mC, Pu.ret, g1, g2, derefs, deref, isiH, isiP, tyN, mB, asB, intP, fin, truP, lenH, Pu.plain, oNo, oPart, Pu.intD, sliceD, sliceP, isTy, tyP, mtD, eqP, neP, scP, ofPart, this]
theorem is_of_house_eq (ps : List PV) (C : Cs) (h : ps.all okv = true) : F_is_of_house [.v (.tup ps)] C = some (.v (.bl (ofHouse ps)), C) := by
  match ps, h with
  | [], _ => simp [F_is_of_house, mDef, mRet, mRetF, mAndV, mOrV, mNotV, mCB, mOp, mChain, mTest, mTru, mNotT, mAndT, mOrT, mIf, mIfS, mSeq, mSkip, mSet, mDrop, mTup, mLst, mVal, mFn, mFnF, mSlice, mMt, mDict, mDict0, mList, listH, bnd, opM, aCons, aNil, mVar, mC, Pu.ret, g1, g2, derefs, deref, isiH, isiP, tyN, mB, asB, intP, fin, truP, lenH, Pu.plain, oNo, oPart, Pu.intD, sliceD, sliceP, isTy, tyP, mtD, eqP, neP, scP, ofHouse]
  | [a], h => simp [F_is_of_house, mDef, mRet, mRetF, mAndV, mOrV, mNotV, mCB, mOp, mChain, mTest, mTru, mNotT, mAndT, mOrT, mIf, mIfS, mSeq, mSkip, mSet, mDrop, mTup, mLst, mVal, mFn, mFnF, mSlice, mMt, mDict, mDict0, mList, listH, bnd, opM, aCons, aNil, mVar, mC, Pu.ret, g1, g2, derefs, deref, isiH, isiP, tyN, mB, asB, intP, fin, truP, lenH, Pu.plain, oNo, oPart, Pu.intD, sliceD, sliceP, isTy, tyP, mtD, eqP, neP, scP, ofHouse]
  | [a, b], h =>
    have hw := is_word_eq b C (okv1 (okv1 h).2).1
    cases hb : belB a 12
    · simp [F_is_of_house, mDef, mRet, mRetF, mAndV, mOrV, mNotV, mCB, mOp, mChain, mTest, mTru, mNotT, mAndT, mOrT, mIf, mIfS, mSeq, mSkip, mSet, mDrop, mTup, mLst, mVal, mFn, mFnF, mSlice, mMt, mDict, mDict0, mList, listH, bnd, opM, aCons, aNil, mVar, mC, Pu.ret, g1, g2, derefs, deref, isiH, isiP, tyN, mB, asB, intP, fin, truP, lenH, Pu.plain, oNo, oPart, Pu.intD, sliceD, sliceP, isTy, tyP, mtD, eqP, neP, scP, ofHouse, ixQ, ixP, atI, ixN, is_clause_number_eq a C (okv1 h).1, hb]
    · cases hv : wordP b
      · rw [hv] at hw
        simp [F_is_of_house, mDef, mRet, mRetF, mAndV, mOrV, mNotV, mCB, mOp, mChain, mTest, mTru, mNotT, mAndT, mOrT, mIf, mIfS, mSeq, mSkip, mSet, mDrop, mTup, mLst, mVal, mFn, mFnF, mSlice, mMt, mDict, mDict0, mList, listH, bnd, opM, aCons, aNil, mVar, mC, Pu.ret, g1, g2, derefs, deref, isiH, isiP, tyN, mB, asB, intP, fin, truP, lenH, Pu.plain, oNo, oPart, Pu.intD, sliceD, sliceP, isTy, tyP, mtD, eqP, neP, scP, ofHouse, ixQ, ixP, atI, ixN, is_clause_number_eq a C (okv1 h).1, hw, hb, hv]
      · rw [hv] at hw
        cases b with
        | str z => simp [F_is_of_house, mDef, mRet, mRetF, mAndV, mOrV, mNotV, mCB, mOp, mChain, mTest, mTru, mNotT, mAndT, mOrT, mIf, mIfS, mSeq, mSkip, mSet, mDrop, mTup, mLst, mVal, mFn, mFnF, mSlice, mMt, mDict, mDict0, mList, listH, bnd, opM, aCons, aNil, mVar, mC, Pu.ret, g1, g2, derefs, deref, isiH, isiP, tyN, mB, asB, intP, fin, truP, lenH, Pu.plain, oNo, oPart, Pu.intD, sliceD, sliceP, isTy, tyP, mtD, eqP, neP, scP, ofHouse, ixQ, ixP, atI, ixN, is_clause_number_eq a C (okv1 h).1, hw, hb, hv]
        | _ => cases hv
  | a :: b :: c :: r, _ =>
    have : ¬ ((r.length : Int) + 1 + 1 + 1 = 2) := by omega
    simp [F_is_of_house, mDef, mRet, mRetF, mAndV, mOrV, mNotV, mCB, mOp, mChain, mTest, mTru, mNotT, mAndT, mOrT, mIf, mIfS, mSeq, mSkip, mSet, mDrop, mTup, mLst, mVal, mFn, mFnF, mSlice, mMt, mDict, mDict0, mList, listH, bnd, opM, aCons, aNil, mVar, mC, Pu.ret, g1, g2, derefs, deref, isiH, isiP, tyN, mB, asB, intP, fin, truP, lenH, Pu.plain, oNo, oPart, Pu.intD, sliceD, sliceP, isTy, tyP, mtD, eqP, neP, scP, ofHouse, this]
end K12

set_option linter.all false
set_option maxRecDepth 100000
set_option maxHeartbeats 4000000
namespace K12
open PySem PySem.Spec L2 Pu
open PyProof.Rows hiding St Fr
theorem cut1 (a : PV) (ps : List PV) : cutP (a :: ps) (some 1) none = ps := by
  have : min (1 : Nat) (ps.length + 1) = 1 := by omega
  simp [cutP, HT.sIx, this]
def deedW (w : Str) (ps : List PV) : Bool :=
  if w = "join" then decide (ps.length = 0) else if w = "say" then ofWord ps else if w = "do" then ofPart ps else if w = "free" then ofClause ps else if w = "ready" then ofClause ps else if w = "hand" then ofHouse ps else if w = "quit" then ofClause ps else if w = "note" then decide (ps.length = 0) else false
def deedP : PV → Bool
  | .tup (.str w :: ps) => deedW w ps
  | _ => false
def ok1 : PV → Bool
  | .tup ps => ps.all okv
  | x => okv x
section
variable {d f1 f2 f3 f4 f5 : Addr}
theorem t1 : (tab_DEEDS f1 f2 f3 f4 f5).lookup ("join" : Str) = some f1 := by rfl
theorem t2 : (tab_DEEDS f1 f2 f3 f4 f5).lookup ("say" : Str) = some f2 := by rfl
theorem t3 : (tab_DEEDS f1 f2 f3 f4 f5).lookup ("do" : Str) = some f3 := by rfl
theorem t4 : (tab_DEEDS f1 f2 f3 f4 f5).lookup ("free" : Str) = some f4 := by rfl
theorem t5 : (tab_DEEDS f1 f2 f3 f4 f5).lookup ("ready" : Str) = some f4 := by rfl
theorem t6 : (tab_DEEDS f1 f2 f3 f4 f5).lookup ("hand" : Str) = some f5 := by rfl
theorem t7 : (tab_DEEDS f1 f2 f3 f4 f5).lookup ("quit" : Str) = some f4 := by rfl
theorem t8 : (tab_DEEDS f1 f2 f3 f4 f5).lookup ("note" : Str) = some f1 := by rfl
theorem t0 {w : Str} (h1 : w ≠ "join") (h2 : w ≠ "say") (h3 : w ≠ "do") (h4 : w ≠ "free") (h5 : w ≠ "ready") (h6 : w ≠ "hand") (h7 : w ≠ "quit") (h8 : w ≠ "note") : (tab_DEEDS f1 f2 f3 f4 f5).lookup w = none := by
  simp [tab_DEEDS, List.lookup_cons, beq_eq_false_iff_ne.mpr h1, beq_eq_false_iff_ne.mpr h2, beq_eq_false_iff_ne.mpr h3, beq_eq_false_iff_ne.mpr h4, beq_eq_false_iff_ne.mpr h5, beq_eq_false_iff_ne.mpr h6, beq_eq_false_iff_ne.mpr h7, beq_eq_false_iff_ne.mpr h8]
structure Dist (f1 f2 f3 f4 f5 : Addr) : Prop where
  a : f2 ≠ f1
  b : f3 ≠ f1
  c : f3 ≠ f2
  d : f4 ≠ f1
  e : f4 ≠ f2
  f : f4 ≠ f3
  g : f5 ≠ f1
  h : f5 ≠ f2
  i : f5 ≠ f3
  j : f5 ≠ f4
theorem n1 : (fns_DEEDS f1 f2 f3 f4 f5).lookup f1 = some F_is_bare := by simp [fns_DEEDS, List.lookup_cons]
theorem n2 (D : Dist f1 f2 f3 f4 f5) : (fns_DEEDS f1 f2 f3 f4 f5).lookup f2 = some F_is_of_word := by simp [fns_DEEDS, List.lookup_cons, beq_eq_false_iff_ne.mpr D.a]
theorem n3 (D : Dist f1 f2 f3 f4 f5) : (fns_DEEDS f1 f2 f3 f4 f5).lookup f3 = some F_is_of_part := by simp [fns_DEEDS, List.lookup_cons, beq_eq_false_iff_ne.mpr D.b, beq_eq_false_iff_ne.mpr D.c]
theorem n4 (D : Dist f1 f2 f3 f4 f5) : (fns_DEEDS f1 f2 f3 f4 f5).lookup f4 = some F_is_of_clause := by simp [fns_DEEDS, List.lookup_cons, beq_eq_false_iff_ne.mpr D.d, beq_eq_false_iff_ne.mpr D.e, beq_eq_false_iff_ne.mpr D.f]
theorem n5 (D : Dist f1 f2 f3 f4 f5) : (fns_DEEDS f1 f2 f3 f4 f5).lookup f5 = some F_is_of_house := by simp [fns_DEEDS, List.lookup_cons, beq_eq_false_iff_ne.mpr D.g, beq_eq_false_iff_ne.mpr D.h, beq_eq_false_iff_ne.mpr D.i, beq_eq_false_iff_ne.mpr D.j]
theorem is_deed_eq (D : Dist f1 f2 f3 f4 f5) (x : PV) (C : Cs) (h : ok1 x = true) : F_is_deed d f1 f2 f3 f4 f5 [.v x] C = some (.v (.bl (deedP x)), C) := by
  cases x with
  | fn a => cases h
  | ty a => cases h
  | tup xs =>
    match xs, h with
    | [], _ => simp [F_is_deed, mDef, mRet, mRetF, mAndV, mOrV, mNotV, mCB, mOp, mChain, mTest, mTru, mNotT, mAndT, mOrT, mIf, mIfS, mSeq, mSkip, mSet, mDrop, mTup, mLst, mVal, mFn, mFnF, mSlice, mMt, mDict, mDict0, mList, listH, bnd, opM, aCons, aNil, mVar, mC, Pu.ret, g1, g2, derefs, deref, isiH, isiP, tyN, mB, asB, intP, fin, truP, lenH, Pu.plain, oNo, oPart, Pu.intD, sliceD, sliceP, isTy, tyP, mtD, eqP, neP, scP, deedP]
    | p :: ps, h =>
      have hp := (okv1 h).1
      have hps := (okv1 h).2
      cases p with
      | str w =>
        have stop : ∀ (r : Bool) (f : Addr) (F : List SV → M SV), (tab_DEEDS f1 f2 f3 f4 f5).lookup w = some f → (fns_DEEDS f1 f2 f3 f4 f5).lookup f = some F → F [.v (.tup ps)] C = some (.v (.bl r), C) → F_is_deed d f1 f2 f3 f4 f5 [.v (.tup (.str w :: ps))] C = some (.v (.bl r), C) := fun r f F e1 e2 e3 => by
          simp [F_is_deed, mDef, mRet, mRetF, mAndV, mOrV, mNotV, mCB, mOp, mChain, mTest, mTru, mNotT, mAndT, mOrT, mIf, mIfS, mSeq, mSkip, mSet, mDrop, mTup, mLst, mVal, mFn, mFnF, mSlice, mMt, mDict, mDict0, mList, listH, bnd, opM, aCons, aNil, mVar, mC, Pu.ret, g1, g2, derefs, deref, isiH, isiP, tyN, mB, asB, intP, fin, truP, lenH, Pu.plain, oNo, oPart, Pu.intD, sliceD, sliceP, isTy, tyP, mtD, eqP, neP, scP, ixQ, ixP, atI, ixN, topI, topG, e1, mCallV, callF, e2, cut1, e3]
        show F_is_deed d f1 f2 f3 f4 f5 [.v (.tup (.str w :: ps))] C = some (SV.v (.bl (deedW w ps)), C)
        unfold deedW
        by_cases h1 : w = "join"
        · subst h1; rw [if_pos rfl]; exact stop _ _ _ t1 n1 (is_bare_eq ps C)
        by_cases h2 : w = "say"
        · rw [if_neg h1, if_pos h2]; subst h2; exact stop _ _ _ t2 (n2 D) (is_of_word_eq ps C hps)
        by_cases h3 : w = "do"
        · rw [if_neg h1, if_neg h2, if_pos h3]; subst h3; exact stop _ _ _ t3 (n3 D) (is_of_part_eq ps C hps)
        by_cases h4 : w = "free"
        · rw [if_neg h1, if_neg h2, if_neg h3, if_pos h4]; subst h4; exact stop _ _ _ t4 (n4 D) (is_of_clause_eq ps C hps)
        by_cases h5 : w = "ready"
        · rw [if_neg h1, if_neg h2, if_neg h3, if_neg h4, if_pos h5]; subst h5; exact stop _ _ _ t5 (n4 D) (is_of_clause_eq ps C hps)
        by_cases h6 : w = "hand"
        · rw [if_neg h1, if_neg h2, if_neg h3, if_neg h4, if_neg h5, if_pos h6]; subst h6; exact stop _ _ _ t6 (n5 D) (is_of_house_eq ps C hps)
        by_cases h7 : w = "quit"
        · rw [if_neg h1, if_neg h2, if_neg h3, if_neg h4, if_neg h5, if_neg h6, if_pos h7]; subst h7; exact stop _ _ _ t7 (n4 D) (is_of_clause_eq ps C hps)
        by_cases h8 : w = "note"
        · rw [if_neg h1, if_neg h2, if_neg h3, if_neg h4, if_neg h5, if_neg h6, if_neg h7, if_pos h8]; subst h8; exact stop _ _ _ t8 n1 (is_bare_eq ps C)
        · rw [if_neg h1, if_neg h2, if_neg h3, if_neg h4, if_neg h5, if_neg h6, if_neg h7, if_neg h8]
          simp [F_is_deed, mDef, mRet, mRetF, mAndV, mOrV, mNotV, mCB, mOp, mChain, mTest, mTru, mNotT, mAndT, mOrT, mIf, mIfS, mSeq, mSkip, mSet, mDrop, mTup, mLst, mVal, mFn, mFnF, mSlice, mMt, mDict, mDict0, mList, listH, bnd, opM, aCons, aNil, mVar, mC, Pu.ret, g1, g2, derefs, deref, isiH, isiP, tyN, mB, asB, intP, fin, truP, lenH, Pu.plain, oNo, oPart, Pu.intD, sliceD, sliceP, isTy, tyP, mtD, eqP, neP, scP, ixQ, ixP, atI, ixN, topI, t0 h1 h2 h3 h4 h5 h6 h7 h8]
      | fn a => cases hp
      | ty a => cases hp
      | _ => simp [F_is_deed, mDef, mRet, mRetF, mAndV, mOrV, mNotV, mCB, mOp, mChain, mTest, mTru, mNotT, mAndT, mOrT, mIf, mIfS, mSeq, mSkip, mSet, mDrop, mTup, mLst, mVal, mFn, mFnF, mSlice, mMt, mDict, mDict0, mList, listH, bnd, opM, aCons, aNil, mVar, mC, Pu.ret, g1, g2, derefs, deref, isiH, isiP, tyN, mB, asB, intP, fin, truP, lenH, Pu.plain, oNo, oPart, Pu.intD, sliceD, sliceP, isTy, tyP, mtD, eqP, neP, scP, ixQ, ixP, atI, ixN, deedP]
  | _ => simp [F_is_deed, mDef, mRet, mRetF, mAndV, mOrV, mNotV, mCB, mOp, mChain, mTest, mTru, mNotT, mAndT, mOrT, mIf, mIfS, mSeq, mSkip, mSet, mDrop, mTup, mLst, mVal, mFn, mFnF, mSlice, mMt, mDict, mDict0, mList, listH, bnd, opM, aCons, aNil, mVar, mC, Pu.ret, g1, g2, derefs, deref, isiH, isiP, tyN, mB, asB, intP, fin, truP, lenH, Pu.plain, oNo, oPart, Pu.intD, sliceD, sliceP, isTy, tyP, mtD, eqP, neP, scP, deedP]
end
def wholeB (x : PV) (a b : Int) : Bool := match x with
  | .int i => decide (a ≤ i) && decide (i ≤ b)
  | _ => false
theorem l_whole_eq (x : PV) (a b : Int) (C : Cs) (h : okv x = true) : F_l_whole [.v x, .v (.int a), .v (.int b)] C = some (.v (.bl (wholeB x a b)), C) := by
  cases x with
  | int i => by_cases hi : a ≤ i <;> simp [F_l_whole, mDef, mRet, mRetF, mAndV, mOrV, mNotV, mCB, mOp, mChain, mTest, mTru, mNotT, mAndT, mOrT, mIf, mIfS, mSeq, mSkip, mSet, mDrop, mTup, mLst, mVal, mFn, mFnF, mSlice, mMt, mDict, mDict0, mList, listH, bnd, opM, aCons, aNil, mVar, mC, Pu.ret, g1, g2, derefs, deref, isiH, isiP, tyN, mB, asB, intP, fin, truP, lenH, Pu.plain, oNo, oPart, Pu.intD, sliceD, sliceP, isTy, tyP, mtD, eqP, neP, scP, hi, wholeB]
  | fn a => cases h
  | ty a => cases h
  | _ => simp [F_l_whole, mDef, mRet, mRetF, mAndV, mOrV, mNotV, mCB, mOp, mChain, mTest, mTru, mNotT, mAndT, mOrT, mIf, mIfS, mSeq, mSkip, mSet, mDrop, mTup, mLst, mVal, mFn, mFnF, mSlice, mMt, mDict, mDict0, mList, listH, bnd, opM, aCons, aNil, mVar, mC, Pu.ret, g1, g2, derefs, deref, isiH, isiP, tyN, mB, asB, intP, fin, truP, lenH, Pu.plain, oNo, oPart, Pu.intD, sliceD, sliceP, isTy, tyP, mtD, eqP, neP, scP, wholeB]
theorem whole_bel (x : PV) (b : Int) : wholeB x 0 b = belB x (b + 1) := by
  cases x <;> simp [belB, wholeB]
  rename_i i
  by_cases h : 0 ≤ i <;> simp [h]
  constructor <;> intro _ <;> omega
theorem l_is_word_eq (x : PV) (C : Cs) (h : okv x = true) : F_l_is_word [.v x] C = some (.v (.bl (wordP x)), C) := by
  cases x with
  | str z =>
    by_cases h1 : 1 ≤ (z.length : Int)
    · by_cases h2 : (z.length : Int) ≤ 12
      · have e : decide (Txt.stripChars z "abcdefghijklmnopqrstuvwxyz" = "") = z.cps.toList.all AZ.cps.contains := by
          have := strip_empty z AZ AZ.cps.contains rfl
          by_cases hz : z.cps.toList.all AZ.cps.contains = true
          · rw [hz]; exact decide_eq_true (this.mpr hz)
          · have hf : z.cps.toList.all AZ.cps.contains = false := by simpa using hz
            rw [hf]; exact decide_eq_false fun q => hz (this.mp q)
        simp [F_l_is_word, mDef, mRet, mRetF, mAndV, mOrV, mNotV, mCB, mOp, mChain, mTest, mTru, mNotT, mAndT, mOrT, mIf, mIfS, mSeq, mSkip, mSet, mDrop, mTup, mLst, mVal, mFn, mFnF, mSlice, mMt, mDict, mDict0, mList, listH, bnd, opM, aCons, aNil, mVar, mC, Pu.ret, g1, g2, derefs, deref, isiH, isiP, tyN, mB, asB, intP, fin, truP, lenH, Pu.plain, oNo, oPart, Pu.intD, sliceD, sliceP, isTy, tyP, mtD, eqP, neP, scP, h1, h2, stripH, wordP, wordB, e]
      · simp [F_l_is_word, mDef, mRet, mRetF, mAndV, mOrV, mNotV, mCB, mOp, mChain, mTest, mTru, mNotT, mAndT, mOrT, mIf, mIfS, mSeq, mSkip, mSet, mDrop, mTup, mLst, mVal, mFn, mFnF, mSlice, mMt, mDict, mDict0, mList, listH, bnd, opM, aCons, aNil, mVar, mC, Pu.ret, g1, g2, derefs, deref, isiH, isiP, tyN, mB, asB, intP, fin, truP, lenH, Pu.plain, oNo, oPart, Pu.intD, sliceD, sliceP, isTy, tyP, mtD, eqP, neP, scP, h1, h2, wordP, wordB]
    · simp [F_l_is_word, mDef, mRet, mRetF, mAndV, mOrV, mNotV, mCB, mOp, mChain, mTest, mTru, mNotT, mAndT, mOrT, mIf, mIfS, mSeq, mSkip, mSet, mDrop, mTup, mLst, mVal, mFn, mFnF, mSlice, mMt, mDict, mDict0, mList, listH, bnd, opM, aCons, aNil, mVar, mC, Pu.ret, g1, g2, derefs, deref, isiH, isiP, tyN, mB, asB, intP, fin, truP, lenH, Pu.plain, oNo, oPart, Pu.intD, sliceD, sliceP, isTy, tyP, mtD, eqP, neP, scP, h1, wordP, wordB]
  | fn a => cases h
  | ty a => cases h
  | _ => simp [F_l_is_word, mDef, mRet, mRetF, mAndV, mOrV, mNotV, mCB, mOp, mChain, mTest, mTru, mNotT, mAndT, mOrT, mIf, mIfS, mSeq, mSkip, mSet, mDrop, mTup, mLst, mVal, mFn, mFnF, mSlice, mMt, mDict, mDict0, mList, listH, bnd, opM, aCons, aNil, mVar, mC, Pu.ret, g1, g2, derefs, deref, isiH, isiP, tyN, mB, asB, intP, fin, truP, lenH, Pu.plain, oNo, oPart, Pu.intD, sliceD, sliceP, isTy, tyP, mtD, eqP, neP, scP, wordP]
end K12

set_option linter.all false
set_option maxRecDepth 100000
set_option maxHeartbeats 4000000
namespace K12
open PySem PySem.Spec L2 Pu
open PyProof.Rows hiding St Fr
theorem sw : strIn "w" "wh" = true := by decide +kernel
theorem sh : strIn "h" "wh" = true := by decide +kernel
theorem sc : strIn "c" "wh" = false := by decide +kernel
theorem sp : strIn "p" "wh" = false := by decide +kernel
theorem d1 : decide (("w" : Str) = "w") = true := by decide +kernel
theorem d2 : decide (("h" : Str) = "w") = false := by decide +kernel
theorem d3 : decide (("c" : Str) = "p") = false := by decide +kernel
theorem d4 : decide (("p" : Str) = "p") = true := by decide +kernel
theorem fits_w (x : PV) (C : Cs) (h : okv x = true) : F_l_fits [.v (.str "w"), .v x] C = some (.v (.bl (wordP x)), C) := by
  cases hv : wordP x <;> simp [F_l_fits, mDef, mRet, mRetF, mAndV, mOrV, mNotV, mCB, mOp, mChain, mTest, mTru, mNotT, mAndT, mOrT, mIf, mIfS, mSeq, mSkip, mSet, mDrop, mTup, mLst, mVal, mFn, mFnF, mSlice, mMt, mDict, mDict0, mList, listH, bnd, opM, aCons, aNil, mVar, mC, Pu.ret, g1, g2, derefs, deref, isiH, isiP, tyN, mB, asB, intP, fin, truP, lenH, Pu.plain, oNo, oPart, Pu.intD, sliceD, sliceP, isTy, tyP, mtD, eqP, neP, scP, inP, inB, sw, l_is_word_eq x C h, hv, d1]
def notBell : PV → Bool
  | .str z => decide (z ≠ "bell")
  | _ => true
theorem fits_h (x : PV) (C : Cs) (h : okv x = true) : F_l_fits [.v (.str "h"), .v x] C = some (.v (.bl (wordP x && notBell x)), C) := by
  cases hv : wordP x
  · simp [F_l_fits, mDef, mRet, mRetF, mAndV, mOrV, mNotV, mCB, mOp, mChain, mTest, mTru, mNotT, mAndT, mOrT, mIf, mIfS, mSeq, mSkip, mSet, mDrop, mTup, mLst, mVal, mFn, mFnF, mSlice, mMt, mDict, mDict0, mList, listH, bnd, opM, aCons, aNil, mVar, mC, Pu.ret, g1, g2, derefs, deref, isiH, isiP, tyN, mB, asB, intP, fin, truP, lenH, Pu.plain, oNo, oPart, Pu.intD, sliceD, sliceP, isTy, tyP, mtD, eqP, neP, scP, inP, inB, sh, l_is_word_eq x C h, hv]
  · cases x with
    | str z => simp [F_l_fits, mDef, mRet, mRetF, mAndV, mOrV, mNotV, mCB, mOp, mChain, mTest, mTru, mNotT, mAndT, mOrT, mIf, mIfS, mSeq, mSkip, mSet, mDrop, mTup, mLst, mVal, mFn, mFnF, mSlice, mMt, mDict, mDict0, mList, listH, bnd, opM, aCons, aNil, mVar, mC, Pu.ret, g1, g2, derefs, deref, isiH, isiP, tyN, mB, asB, intP, fin, truP, lenH, Pu.plain, oNo, oPart, Pu.intD, sliceD, sliceP, isTy, tyP, mtD, eqP, neP, scP, inP, inB, sh, l_is_word_eq _ C h, hv, d2, notBell]
    | _ => cases hv
theorem fits_c (x : PV) (C : Cs) (h : okv x = true) : F_l_fits [.v (.str "c"), .v x] C = some (.v (.bl (belB x 12)), C) := by
  have e : wholeB x 0 11 = belB x 12 := whole_bel x 11
  simp [F_l_fits, mDef, mRet, mRetF, mAndV, mOrV, mNotV, mCB, mOp, mChain, mTest, mTru, mNotT, mAndT, mOrT, mIf, mIfS, mSeq, mSkip, mSet, mDrop, mTup, mLst, mVal, mFn, mFnF, mSlice, mMt, mDict, mDict0, mList, listH, bnd, opM, aCons, aNil, mVar, mC, Pu.ret, g1, g2, derefs, deref, isiH, isiP, tyN, mB, asB, intP, fin, truP, lenH, Pu.plain, oNo, oPart, Pu.intD, sliceD, sliceP, isTy, tyP, mtD, eqP, neP, scP, inP, inB, sc, d3, intH, ixQ, ixP, atI, ixN, l_whole_eq x _ _ C h, e]
theorem fits_p (x : PV) (C : Cs) (h : okv x = true) : F_l_fits [.v (.str "p"), .v x] C = some (.v (.bl (belB x 9)), C) := by
  have e : wholeB x 0 8 = belB x 9 := whole_bel x 8
  simp [F_l_fits, mDef, mRet, mRetF, mAndV, mOrV, mNotV, mCB, mOp, mChain, mTest, mTru, mNotT, mAndT, mOrT, mIf, mIfS, mSeq, mSkip, mSet, mDrop, mTup, mLst, mVal, mFn, mFnF, mSlice, mMt, mDict, mDict0, mList, listH, bnd, opM, aCons, aNil, mVar, mC, Pu.ret, g1, g2, derefs, deref, isiH, isiP, tyN, mB, asB, intP, fin, truP, lenH, Pu.plain, oNo, oPart, Pu.intD, sliceD, sliceP, isTy, tyP, mtD, eqP, neP, scP, inP, inB, sp, d4, intH, ixQ, ixP, atI, ixN, l_whole_eq x _ _ C h, e]
def fk : List PV := [.str "join", .str "note", .str "say", .str "do", .str "free", .str "ready", .str "quit", .str "hand"]
def fv : List PV := [.str "", .str "", .str "w", .str "cp", .str "c", .str "c", .str "c", .str "ch"]
theorem l_forms_eq (C : Cs) : F_l_forms [] C = some (.v (.dct fk fv), C) := by
  simp [F_l_forms, mDef, mRet, mRetF, mAndV, mOrV, mNotV, mCB, mOp, mChain, mTest, mTru, mNotT, mAndT, mOrT, mIf, mIfS, mSeq, mSkip, mSet, mDrop, mTup, mLst, mVal, mFn, mFnF, mSlice, mMt, mDict, mDict0, mList, listH, bnd, opM, aCons, aNil, mVar, mC, Pu.ret, g1, g2, derefs, deref, isiH, isiP, tyN, mB, asB, intP, fin, truP, lenH, Pu.plain, oNo, oPart, Pu.intD, sliceD, sliceP, isTy, tyP, mtD, eqP, neP, scP, fk, fv]
theorem k1 : lookP fk fv (.inr "join") = some (.str "") := by rfl
theorem k2 : lookP fk fv (.inr "note") = some (.str "") := by rfl
theorem k3 : lookP fk fv (.inr "say") = some (.str "w") := by rfl
theorem k4 : lookP fk fv (.inr "do") = some (.str "cp") := by rfl
theorem k5 : lookP fk fv (.inr "free") = some (.str "c") := by rfl
theorem k6 : lookP fk fv (.inr "ready") = some (.str "c") := by rfl
theorem k7 : lookP fk fv (.inr "quit") = some (.str "c") := by rfl
theorem k8 : lookP fk fv (.inr "hand") = some (.str "ch") := by rfl
theorem k0 {w : Str} (h1 : w ≠ "join") (h2 : w ≠ "say") (h3 : w ≠ "do") (h4 : w ≠ "free") (h5 : w ≠ "ready") (h6 : w ≠ "hand") (h7 : w ≠ "quit") (h8 : w ≠ "note") : lookP fk fv (.inr w) = none := by
  simp [fk, fv, lookP, keyP, Ne.symm h1, Ne.symm h2, Ne.symm h3, Ne.symm h4, Ne.symm h5, Ne.symm h6, Ne.symm h7, Ne.symm h8]
theorem i0 : itemsP (.v (.str "")) = some [] := by rfl
theorem i1 : itemsP (.v (.str "w")) = some [.str "w"] := by rfl
theorem i2 : itemsP (.v (.str "cp")) = some [.str "c", .str "p"] := by rfl
theorem i3 : itemsP (.v (.str "c")) = some [.str "c"] := by rfl
theorem i4 : itemsP (.v (.str "ch")) = some [.str "c", .str "h"] := by rfl
theorem l0 : (("" : Str).length : Int) = 0 := by rfl
theorem l1 : (("w" : Str).length : Int) = 1 := by rfl
theorem l2 : (("cp" : Str).length : Int) = 2 := by rfl
theorem l3 : (("c" : Str).length : Int) = 1 := by rfl
theorem l4 : (("ch" : Str).length : Int) = 2 := by rfl
theorem it_tup (ps : List PV) : itemsP (.v (.tup ps)) = some ps := rfl
theorem l_none (w : Str) (ps : List PV) (C : Cs) (e : lookP fk fv (.inr w) = none) : F_l_is_deed [.v (.tup (.str w :: ps))] C = some (.v (.bl false), C) := by
  have hl : ¬ ((ps.length : Int) + 1 = 0) := by omega
  simp [F_l_is_deed, mDef, mRet, mRetF, mAndV, mOrV, mNotV, mCB, mOp, mChain, mTest, mTru, mNotT, mAndT, mOrT, mIf, mIfS, mSeq, mSkip, mSet, mDrop, mTup, mLst, mVal, mFn, mFnF, mSlice, mMt, mDict, mDict0, mList, listH, bnd, opM, aCons, aNil, mVar, mC, Pu.ret, g1, g2, derefs, deref, isiH, isiP, tyN, mB, asB, intP, fin, truP, lenH, Pu.plain, oNo, oPart, Pu.intD, sliceD, sliceP, isTy, tyP, mtD, eqP, neP, scP, l_forms_eq, ixQ, ixP, atI, ixN, getH, keyP, e, hl, isNP]
theorem l_len (w s : Str) (ps : List PV) (C : Cs) (e : lookP fk fv (.inr w) = some (.str s)) (hs : ps.length ≠ s.length) : F_l_is_deed [.v (.tup (.str w :: ps))] C = some (.v (.bl false), C) := by
  have hl : ¬ ((ps.length : Int) + 1 = 0) := by omega
  have h2 : ¬ ((ps.length : Int) + 1 = 1 + s.length) := by omega
  simp [F_l_is_deed, mDef, mRet, mRetF, mAndV, mOrV, mNotV, mCB, mOp, mChain, mTest, mTru, mNotT, mAndT, mOrT, mIf, mIfS, mSeq, mSkip, mSet, mDrop, mTup, mLst, mVal, mFn, mFnF, mSlice, mMt, mDict, mDict0, mList, listH, bnd, opM, aCons, aNil, mVar, mC, Pu.ret, g1, g2, derefs, deref, isiH, isiP, tyN, mB, asB, intP, fin, truP, lenH, Pu.plain, oNo, oPart, Pu.intD, sliceD, sliceP, isTy, tyP, mtD, eqP, neP, scP, l_forms_eq, ixQ, ixP, atI, ixN, getH, keyP, e, hl, isNP, addP, h2]
theorem l_0 (w : Str) (C : Cs) (e : lookP fk fv (.inr w) = some (.str "")) : F_l_is_deed [.v (.tup [.str w])] C = some (.v (.bl true), C) := by
  simp [F_l_is_deed, mDef, mRet, mRetF, mAndV, mOrV, mNotV, mCB, mOp, mChain, mTest, mTru, mNotT, mAndT, mOrT, mIf, mIfS, mSeq, mSkip, mSet, mDrop, mTup, mLst, mVal, mFn, mFnF, mSlice, mMt, mDict, mDict0, mList, listH, bnd, opM, aCons, aNil, mVar, mC, Pu.ret, g1, g2, derefs, deref, isiH, isiP, tyN, mB, asB, intP, fin, truP, lenH, Pu.plain, oNo, oPart, Pu.intD, sliceD, sliceP, isTy, tyP, mtD, eqP, neP, scP, l_forms_eq, ixQ, ixP, atI, ixN, getH, keyP, e, isNP, addP, l0, mComp, mZip, zipP, i0, cut1, it_tup, stIn', compL, allH, boolsP]
theorem l_1 (w s : Str) (a : PV) (g : Bool) (C : Cs) (e : lookP fk fv (.inr w) = some (.str s)) (hi : itemsP (.v (.str s)) = some [.str s]) (hl : (s.length : Int) = 1) (hf : F_l_fits [.v (.str s), .v a] C = some (.v (.bl g), C)) :
    F_l_is_deed [.v (.tup [.str w, a])] C = some (.v (.bl g), C) := by
  simp [F_l_is_deed, mDef, mRet, mRetF, mAndV, mOrV, mNotV, mCB, mOp, mChain, mTest, mTru, mNotT, mAndT, mOrT, mIf, mIfS, mSeq, mSkip, mSet, mDrop, mTup, mLst, mVal, mFn, mFnF, mSlice, mMt, mDict, mDict0, mList, listH, bnd, opM, aCons, aNil, mVar, mC, Pu.ret, g1, g2, derefs, deref, isiH, isiP, tyN, mB, asB, intP, fin, truP, lenH, Pu.plain, oNo, oPart, Pu.intD, sliceD, sliceP, isTy, tyP, mtD, eqP, neP, scP, l_forms_eq, ixQ, ixP, atI, ixN, getH, keyP, e, isNP, addP, hl, mComp, mZip, zipP, hi, cut1, it_tup, stIn', compL, hTup, hCons, hNil, hName, tOk, hf, allH, boolsP]
theorem l_2 (w s s1 s2 : Str) (a b : PV) (g1' g2' : Bool) (C : Cs) (e : lookP fk fv (.inr w) = some (.str s)) (hi : itemsP (.v (.str s)) = some [.str s1, .str s2]) (hl : (s.length : Int) = 2) (hf : F_l_fits [.v (.str s1), .v a] C = some (.v (.bl g1'), C))
    (hf2 : F_l_fits [.v (.str s2), .v b] C = some (.v (.bl g2'), C)) : F_l_is_deed [.v (.tup [.str w, a, b])] C = some (.v (.bl (g1' && g2')), C) := by
  simp [F_l_is_deed, mDef, mRet, mRetF, mAndV, mOrV, mNotV, mCB, mOp, mChain, mTest, mTru, mNotT, mAndT, mOrT, mIf, mIfS, mSeq, mSkip, mSet, mDrop, mTup, mLst, mVal, mFn, mFnF, mSlice, mMt, mDict, mDict0, mList, listH, bnd, opM, aCons, aNil, mVar, mC, Pu.ret, g1, g2, derefs, deref, isiH, isiP, tyN, mB, asB, intP, fin, truP, lenH, Pu.plain, oNo, oPart, Pu.intD, sliceD, sliceP, isTy, tyP, mtD, eqP, neP, scP, l_forms_eq, ixQ, ixP, atI, ixN, getH, keyP, e, isNP, addP, hl, mComp, mZip, zipP, hi, cut1, it_tup, stIn', compL, hTup, hCons, hNil, hName, tOk, hf, hf2, allH, boolsP]
def of1 (g : PV → Bool) : List PV → Bool
  | [a] => g a
  | _ => false
def of2 (g h : PV → Bool) : List PV → Bool
  | [a, b] => g a && h b
  | _ => false
theorem eW (ps : List PV) : ofWord ps = of1 wordP ps := by match ps with | [] => rfl | [a] => rfl | a :: b :: r => rfl
theorem eC (ps : List PV) : ofClause ps = of1 (fun a => belB a 12) ps := by match ps with | [] => rfl | [a] => rfl | a :: b :: r => rfl
theorem eP (ps : List PV) : ofPart ps = of2 (fun a => belB a 12) (fun a => belB a 9) ps := by match ps with | [] => rfl | [a] => rfl | [a, b] => rfl | a :: b :: c :: r => rfl
theorem eH (ps : List PV) : ofHouse ps = of2 (fun a => belB a 12) (fun a => wordP a && notBell a) ps := by
  match ps with
  | [] => rfl
  | [a] => rfl
  | [a, b] =>
    show (belB a 12 && wordP b && _) = (belB a 12 && (wordP b && notBell b))
    rw [Bool.and_assoc]
    cases b <;> rfl
  | a :: b :: c :: r => rfl
theorem l_is_deed_eq (x : PV) (C : Cs) (h : ok1 x = true) : F_l_is_deed [.v x] C = some (.v (.bl (deedP x)), C) := by
  cases x with
  | fn a => cases h
  | ty a => cases h
  | tup xs =>
    match xs, h with
    | [], _ => simp [F_l_is_deed, mDef, mRet, mRetF, mAndV, mOrV, mNotV, mCB, mOp, mChain, mTest, mTru, mNotT, mAndT, mOrT, mIf, mIfS, mSeq, mSkip, mSet, mDrop, mTup, mLst, mVal, mFn, mFnF, mSlice, mMt, mDict, mDict0, mList, listH, bnd, opM, aCons, aNil, mVar, mC, Pu.ret, g1, g2, derefs, deref, isiH, isiP, tyN, mB, asB, intP, fin, truP, lenH, Pu.plain, oNo, oPart, Pu.intD, sliceD, sliceP, isTy, tyP, mtD, eqP, neP, scP, deedP]
    | p :: ps, h =>
      have hp := (okv1 h).1
      have hps := (okv1 h).2
      cases p with
      | str w =>
        have bare : lookP fk fv (.inr w) = some (.str "") → F_l_is_deed [.v (.tup (.str w :: ps))] C = some (.v (.bl (decide (ps.length = 0))), C) := fun e => by
          match ps with
          | [] => exact l_0 w C e
          | a :: r => exact l_len w "" (a :: r) C e (by have : ("" : Str).length = 0 := rfl; simp [this])
        have one : ∀ (s : Str) (g : PV → Bool), lookP fk fv (.inr w) = some (.str s) → itemsP (.v (.str s)) = some [.str s] → (s.length : Int) = 1 → (∀ a, okv a = true → F_l_fits [.v (.str s), .v a] C = some (.v (.bl (g a)), C)) →
            F_l_is_deed [.v (.tup (.str w :: ps))] C = some (.v (.bl (of1 g ps)), C) := fun s g e hi hl hf => by
          match ps, hps with
          | [], _ => exact l_len w s [] C e (by simp; omega)
          | [a], hps => exact l_1 w s a _ C e hi hl (hf a (okv1 hps).1)
          | a :: b :: r, _ => exact l_len w s (a :: b :: r) C e (by simp; omega)
        have two : ∀ (s s1 s2 : Str) (g1' g2' : PV → Bool), lookP fk fv (.inr w) = some (.str s) → itemsP (.v (.str s)) = some [.str s1, .str s2] → (s.length : Int) = 2 → (∀ a, okv a = true → F_l_fits [.v (.str s1), .v a] C = some (.v (.bl (g1' a)), C)) →
            (∀ a, okv a = true → F_l_fits [.v (.str s2), .v a] C = some (.v (.bl (g2' a)), C)) → F_l_is_deed [.v (.tup (.str w :: ps))] C = some (.v (.bl (of2 g1' g2' ps)), C) := fun s s1 s2 g1' g2' e hi hl hf hf2 => by
          match ps, hps with
          | [], _ => exact l_len w s [] C e (by simp; omega)
          | [a], hps => exact l_len w s [a] C e (by simp; omega)
          | [a, b], hps => exact l_2 w s s1 s2 a b _ _ C e hi hl (hf a (okv1 hps).1) (hf2 b (okv1 (okv1 hps).2).1)
          | a :: b :: c :: r, _ => exact l_len w s (a :: b :: c :: r) C e (by simp; omega)
        show F_l_is_deed [.v (.tup (.str w :: ps))] C = some (SV.v (.bl (deedW w ps)), C)
        unfold deedW
        by_cases h1 : w = "join"
        · rw [if_pos h1]; subst h1; exact bare k1
        by_cases h2 : w = "say"
        · rw [if_neg h1, if_pos h2, eW]; subst h2; exact one "w" wordP k3 i1 l1 fun a ha => fits_w a C ha
        by_cases h3 : w = "do"
        · rw [if_neg h1, if_neg h2, if_pos h3, eP]; subst h3; exact two "cp" "c" "p" (fun a => belB a 12) (fun a => belB a 9) k4 i2 l2 (fun a ha => fits_c a C ha) fun a ha => fits_p a C ha
        by_cases h4 : w = "free"
        · rw [if_neg h1, if_neg h2, if_neg h3, if_pos h4, eC]; subst h4; exact one "c" (fun a => belB a 12) k5 i3 l3 fun a ha => fits_c a C ha
        by_cases h5 : w = "ready"
        · rw [if_neg h1, if_neg h2, if_neg h3, if_neg h4, if_pos h5, eC]; subst h5; exact one "c" (fun a => belB a 12) k6 i3 l3 fun a ha => fits_c a C ha
        by_cases h6 : w = "hand"
        · rw [if_neg h1, if_neg h2, if_neg h3, if_neg h4, if_neg h5, if_pos h6, eH]; subst h6; exact two "ch" "c" "h" (fun a => belB a 12) (fun a => wordP a && notBell a) k8 i4 l4 (fun a ha => fits_c a C ha) fun a ha => fits_h a C ha
        by_cases h7 : w = "quit"
        · rw [if_neg h1, if_neg h2, if_neg h3, if_neg h4, if_neg h5, if_neg h6, if_pos h7, eC]; subst h7; exact one "c" (fun a => belB a 12) k7 i3 l3 fun a ha => fits_c a C ha
        by_cases h8 : w = "note"
        · rw [if_neg h1, if_neg h2, if_neg h3, if_neg h4, if_neg h5, if_neg h6, if_neg h7, if_pos h8]; subst h8; exact bare k2
        · rw [if_neg h1, if_neg h2, if_neg h3, if_neg h4, if_neg h5, if_neg h6, if_neg h7, if_neg h8]
          exact l_none w ps C (k0 h1 h2 h3 h4 h5 h6 h7 h8)
      | fn a => cases hp
      | ty a => cases hp
      | _ =>
        have hl : ¬ ((ps.length : Int) + 1 = 0) := by omega
        simp [F_l_is_deed, mDef, mRet, mRetF, mAndV, mOrV, mNotV, mCB, mOp, mChain, mTest, mTru, mNotT, mAndT, mOrT, mIf, mIfS, mSeq, mSkip, mSet, mDrop, mTup, mLst, mVal, mFn, mFnF, mSlice, mMt, mDict, mDict0, mList, listH, bnd, opM, aCons, aNil, mVar, mC, Pu.ret, g1, g2, derefs, deref, isiH, isiP, tyN, mB, asB, intP, fin, truP, lenH, Pu.plain, oNo, oPart, Pu.intD, sliceD, sliceP, isTy, tyP, mtD, eqP, neP, scP, ixQ, ixP, atI, ixN, deedP, hl]
  | _ => simp [F_l_is_deed, mDef, mRet, mRetF, mAndV, mOrV, mNotV, mCB, mOp, mChain, mTest, mTru, mNotT, mAndT, mOrT, mIf, mIfS, mSeq, mSkip, mSet, mDrop, mTup, mLst, mVal, mFn, mFnF, mSlice, mMt, mDict, mDict0, mList, listH, bnd, opM, aCons, aNil, mVar, mC, Pu.ret, g1, g2, derefs, deref, isiH, isiP, tyN, mB, asB, intP, fin, truP, lenH, Pu.plain, oNo, oPart, Pu.intD, sliceD, sliceP, isTy, tyP, mtD, eqP, neP, scP, deedP]
theorem right_eq {d f1 f2 f3 f4 f5 : Addr} (D : Dist f1 f2 f3 f4 f5) (x : PV) (C : Cs) (h : ok1 x = true) : F_l_right d f1 f2 f3 f4 f5 [.v x] C = some (.v (.bl true), C) := by
  have r2 : List.range 2 = [0, 1] := rfl
  simp [F_l_right, mDef, mRet, mRetF, mAndV, mOrV, mNotV, mCB, mOp, mChain, mTest, mTru, mNotT, mAndT, mOrT, mIf, mIfS, mSeq, mSkip, mSet, mDrop, mTup, mLst, mVal, mFn, mFnF, mSlice, mMt, mDict, mDict0, mList, listH, bnd, opM, aCons, aNil, mVar, mC, Pu.ret, g1, g2, derefs, deref, isiH, isiP, tyN, mB, asB, intP, fin, truP, lenH, Pu.plain, oNo, oPart, Pu.intD, sliceD, sliceP, isTy, tyP, mtD, eqP, neP, scP, mFor, mRange1, rng1P, r2, loop, hName, is_deed_eq D x C h, l_is_deed_eq x C h]
end K12

set_option linter.all false
set_option maxRecDepth 100000
set_option maxHeartbeats 4000000
namespace K12
open PySem PySem.Spec L2 Pu
open PyProof.Rows hiding St Fr
theorem tk (C : Cs) (k : Nat) (v : PV) : (C.set k v).take C.length = C.set k v := List.take_of_length_le (by simp)
theorem tk0 (C : Cs) : C.take C.length = C := List.take_length
theorem setAt {C : Cs} {k : Nat} {v w : PV} (h : C[k]? = some w) : (C.set k v)[k]? = some v := by
  have : k < C.length := by
    rcases Nat.lt_or_ge k C.length with q | q
    · exact q
    · rw [List.getElem?_eq_none_iff.mpr q] at h; cases h
  rw [List.getElem?_set_self this]
theorem pick_spec (k : Nat) (x y m : Int) (C : Cs) (hC : C[k]? = some (.lst [.int x, .int y])) (hy : 0 ≤ y ∧ y < 2147483647) (hm : 0 < m ∧ m < 1073741824) :
    ∃ d x' y', F_l_pick [.c k, .v (.int m)] C = some (.v (.int d), C.set k (.lst [.int x', .int y'])) ∧ 0 ≤ d ∧ d < m ∧ 0 ≤ y' ∧ y' < 2147483647 := by
  by_cases hx : 0 < x
  · refine ⟨x % m, x / m, y, ?_, Int.emod_nonneg _ (by omega), Int.emod_lt_of_pos _ hm.1, hy.1, hy.2⟩
    simp [F_l_pick, mDef, mRet, mRetF, mAndV, mOrV, mNotV, mCB, mOp, mChain, mTest, mTru, mNotT, mAndT, mOrT, mIf, mIfS, mSeq, mSkip, mSet, mDrop, mTup, mLst, mVal, mFn, mFnF, mSlice, mMt, mDict, mDict0, mList, listH, bnd, opM, aCons, aNil, mVar, mC, Pu.ret, g1, g2, derefs, deref, isiH, isiP, tyN, mB, asB, intP, fin, truP, lenH, Pu.plain, oNo, oPart, Pu.intD, sliceD, sliceP, isTy, tyP, mtD, eqP, neP, scP, ixQ, ixP, atI, ixN, hC, hx, hm.1, hm.2, mSetIx, setC, tk]
  · have h1 : 0 ≤ (y * 48271 + 12345) % 2147483647 := Int.emod_nonneg _ (by decide)
    have h2 : (y * 48271 + 12345) % 2147483647 < 2147483647 := Int.emod_lt_of_pos _ (by decide)
    refine ⟨(y * 48271 + 12345) % 2147483647 * ((y * 48271 + 12345) % 2147483647) % 1999999973 % m, x, (y * 48271 + 12345) % 2147483647, ?_, Int.emod_nonneg _ (by omega), Int.emod_lt_of_pos _ hm.1, h1, h2⟩
    generalize hz : (y * 48271 + 12345) % 2147483647 = z at h1 h2
    have c1 : (-18446744073709551616 < z ∧ z < 18446744073709551616) := by omega
    simp [F_l_pick, mDef, mRet, mRetF, mAndV, mOrV, mNotV, mCB, mOp, mChain, mTest, mTru, mNotT, mAndT, mOrT, mIf, mIfS, mSeq, mSkip, mSet, mDrop, mTup, mLst, mVal, mFn, mFnF, mSlice, mMt, mDict, mDict0, mList, listH, bnd, opM, aCons, aNil, mVar, mC, Pu.ret, g1, g2, derefs, deref, isiH, isiP, tyN, mB, asB, intP, fin, truP, lenH, Pu.plain, oNo, oPart, Pu.intD, sliceD, sliceP, isTy, tyP, mtD, eqP, neP, scP, ixQ, ixP, atI, ixN, hC, hx, hm.1, hm.2, mSetIx, setC, tk, addP, setAt hC, hz, c1]
end K12

set_option linter.all false
set_option maxRecDepth 100000
set_option maxHeartbeats 4000000
namespace K12
open PySem PySem.Spec L2 Pu
open PyProof.Rows hiding St Fr
def GS (C : Cs) (k : Nat) : Prop := ∃ x y : Int, C[k]? = some (.lst [.int x, .int y]) ∧ 0 ≤ y ∧ y < 2147483647
structure Adv (k : Nat) (C C' : Cs) : Prop where
  len : C'.length = C.length
  gs : GS C' k
  oth : ∀ j, j ≠ k → C'[j]? = C[j]?
theorem Adv.refl {k : Nat} {C : Cs} (h : GS C k) : Adv k C C := ⟨rfl, h, fun _ _ => rfl⟩
theorem Adv.trans {k : Nat} {C C1 C2 : Cs} (a : Adv k C C1) (b : Adv k C1 C2) : Adv k C C2 := ⟨b.len.trans a.len, b.gs, fun j h => (b.oth j h).trans (a.oth j h)⟩
theorem Adv.take {k : Nat} {C C' : Cs} (a : Adv k C C') : C'.take C.length = C' := List.take_of_length_le (by rw [a.len]; exact Nat.le_refl _)
theorem pick_adv (k : Nat) (m : Int) (C : Cs) (h : GS C k) (hm : 0 < m ∧ m < 1073741824) : ∃ d C', F_l_pick [.c k, .v (.int m)] C = some (.v (.int d), C') ∧ 0 ≤ d ∧ d < m ∧ Adv k C C' := by
  obtain ⟨x, y, hC, h1, h2⟩ := h
  obtain ⟨d, x', y', e, a1, a2, a3, a4⟩ := pick_spec k x y m C hC ⟨h1, h2⟩ hm
  exact ⟨d, _, e, a1, a2, by simp, ⟨x', y', setAt hC, a3, a4⟩, fun j hj => by rw [List.getElem?_set_ne (Ne.symm hj)]⟩
theorem comp_adv {te : PSt → M SV} {k : Nat} {Pp : PV → Prop} : ∀ (xs : List PV) (ρ : PSt) (ys : List PV) (C : Cs), GS C k → (∀ x C, GS C k → ∃ p C', te (ρ.set 0 (some (.v x))) C = some (.v p, C') ∧ Pp p ∧ Adv k C C') →
    ∃ zs C', compL (hName 0) tOk te xs ρ ys C = some (ys ++ zs, C') ∧ zs.length = xs.length ∧ (∀ p ∈ zs, Pp p) ∧ Adv k C C'
  | [], ρ, ys, C, g, h => ⟨[], C, by simp [compL, Pu.ret], rfl, by simp, Adv.refl g⟩
  | x :: xs, ρ, ys, C, g, h => by
    obtain ⟨p, C1, e1, hp, a1⟩ := h x C g
    obtain ⟨zs, C2, e2, hl, hz, a2⟩ := comp_adv (te := te) (Pp := Pp) xs (ρ.set 0 (some (.v x))) (ys ++ [p]) C1 a1.gs fun y C' g' => by rw [List.set_set]; exact h y C' g'
    refine ⟨p :: zs, C2, ?_, by simp [hl], fun q hq => ?_, a1.trans a2⟩
    · simp [compL, hName, bnd, tOk, Pu.ret, e1, e2]
    · rcases List.mem_cons.mp hq with rfl | hq
      · exact hp
      · exact hz q hq
theorem ix_all {okk : PV → Bool} (L : List PV) (h : L.all okk = true) (d : Int) (h1 : 0 ≤ d) (h2 : d < L.length) : ∃ p, ixQ (.lst L) (.int d) = some p ∧ okk p = true := by
  have hd : d.toNat < L.length := by omega
  refine ⟨L[d.toNat], ?_, List.all_eq_true.mp h _ (List.getElem_mem hd)⟩
  simp [ixQ, ixP, atI, ixN, h1, h2, List.getElem?_eq_getElem hd]
theorem ix_az (d : Int) (h1 : 0 ≤ d) (h2 : d < 26) : ∃ c, ixQ (.str "abcdefghijklmnopqrstuvwxyz") (.int d) = some (.str ⟨#[c]⟩) := by
  have hl : ("abcdefghijklmnopqrstuvwxyz" : Str).cps.toList.length = 26 := by rfl
  have hd : d.toNat < ("abcdefghijklmnopqrstuvwxyz" : Str).cps.toList.length := by omega
  have h3 : d < (("abcdefghijklmnopqrstuvwxyz" : Str).cps.toList.length : Int) := by omega
  refine ⟨("abcdefghijklmnopqrstuvwxyz" : Str).cps.toList[d.toNat], ?_⟩
  show (atI ("abcdefghijklmnopqrstuvwxyz" : Str).cps.toList d).map _ = _
  unfold atI ixN
  rw [if_pos h1, if_pos h3]
  show ((("abcdefghijklmnopqrstuvwxyz" : Str).cps.toList[d.toNat]?).map _) = _
  rw [List.getElem?_eq_getElem hd]
  rfl
def one1 (p : PV) : Prop := ∃ s : Str, p = .str s ∧ s.length = 1
theorem strs_one : ∀ (zs : List PV), (∀ p ∈ zs, one1 p) → ∃ ys : List Str, strsP zs = some ys ∧ ys.length = zs.length ∧ (ys.map (·.length)).sum = zs.length
  | [], _ => ⟨[], rfl, rfl, rfl⟩
  | p :: zs, h => by
    obtain ⟨s, rfl, hs⟩ := h p (by simp)
    obtain ⟨ys, e, h1, h2⟩ := strs_one zs fun q hq => h q (by simp [hq])
    exact ⟨s :: ys, by simp [strsP, e], by simp [h1], by simp [h2, hs]; omega⟩
theorem join_one (zs : List PV) (h : ∀ p ∈ zs, one1 p) (hl : zs.length ≤ 1000) : ∃ t, joinH (.str "") [.lst zs] = some (.str t) := by
  obtain ⟨ys, e, h1, h2⟩ := strs_one zs h
  have h0 : ("" : Str).length = 0 := rfl
  refine ⟨Txt.join "" ys, ?_⟩
  simp only [joinH, e, h2, h1, h0]
  rw [if_pos (by omega)]
theorem text_adv (k : Nat) (C : Cs) (h : GS C k) : ∃ z C', F_l_text [.c k] C = some (.v (.str z), C') ∧ Adv k C C' := by
  obtain ⟨d, C1, e1, d1, d2, a1⟩ := pick_adv k 12 C h (by decide)
  unfold F_l_text B_l_text
  generalize hte : mOp (g2 ixQ) (mVar 1) (mFn F_l_pick (aCons (mVar 2) (aCons (mC (.int 26)) aNil))) = te
  have step : ∀ x C, GS C k → ∃ p C', te ([none, some (.v (.str "abcdefghijklmnopqrstuvwxyz")), some (.c k)].set 0 (some (.v x))) C = some (.v p, C') ∧ one1 p ∧ Adv k C C' := fun x C g => by
    subst hte
    obtain ⟨d, C1, e1, d1, d2, a1⟩ := pick_adv k 26 C g (by decide)
    obtain ⟨c, hc⟩ := ix_az d d1 d2
    exact ⟨.str ⟨#[c]⟩, C1, by simp [mOp, bnd, mVar, mFn, aCons, aNil, mC, Pu.ret, e1, opM, g2, deref, hc], ⟨_, rfl, rfl⟩, a1⟩
  obtain ⟨zs, C2, e2, hl, hz, a2⟩ := comp_adv (te := te) (k := k) (Pp := one1) ((List.range (1 + d).toNat).map fun (j : Nat) => .int (0 + j)) [none, some (.v (.str "abcdefghijklmnopqrstuvwxyz")), some (.c k)] [] C1 a1.gs step
  have hl' : zs.length ≤ 1000 := by rw [hl]; simp; omega
  obtain ⟨t, et⟩ := join_one zs hz hl'
  have r1 : -1000000 ≤ 1 + d ∧ 1 + d ≤ 1000000 := by omega
  have r2 : (1 + d).toNat ≤ 100000 := by omega
  rw [List.nil_append] at e2
  have a := a1.trans a2
  by_cases hb : t = "bell"
  · subst hb
    refine ⟨"bells", C2, ?_, a⟩
    simp only [Int.zero_add] at e2
    simp [mDef, mRet, mRetF, mAndV, mOrV, mNotV, mCB, mOp, mChain, mTest, mTru, mNotT, mAndT, mOrT, mIf, mIfS, mSeq, mSkip, mSet, mDrop, mTup, mLst, mVal, mFn, mFnF, mSlice, mMt, mDict, mDict0, mList, listH, bnd, opM, aCons, aNil, mVar, mC, Pu.ret, g1, g2, derefs, deref, isiH, isiP, tyN, mB, asB, intP, fin, truP, lenH, Pu.plain, oNo, oPart, Pu.intD, sliceD, sliceP, isTy, tyP, mtD, eqP, neP, scP, mComp, mRange1, rng1P, addP, e1, r1, r2, stIn', e2, et, intH, ixQ, ixP, atI, ixN, a.take]
  · refine ⟨t, C2, ?_, a⟩
    simp only [Int.zero_add] at e2
    simp [mDef, mRet, mRetF, mAndV, mOrV, mNotV, mCB, mOp, mChain, mTest, mTru, mNotT, mAndT, mOrT, mIf, mIfS, mSeq, mSkip, mSet, mDrop, mTup, mLst, mVal, mFn, mFnF, mSlice, mMt, mDict, mDict0, mList, listH, bnd, opM, aCons, aNil, mVar, mC, Pu.ret, g1, g2, derefs, deref, isiH, isiP, tyN, mB, asB, intP, fin, truP, lenH, Pu.plain, oNo, oPart, Pu.intD, sliceD, sliceP, isTy, tyP, mtD, eqP, neP, scP, mComp, mRange1, rng1P, addP, e1, r1, r2, stIn', e2, et, intH, ixQ, ixP, atI, ixN, a.take, hb]
end K12

set_option linter.all false
set_option maxRecDepth 100000
set_option maxHeartbeats 4000000
namespace K12
open PySem PySem.Spec L2 Pu
open PyProof.Rows hiding St Fr
def okk (p : PV) : Bool := okv p && ok1 p
theorem odd_adv (k : Nat) (C : Cs) (h : GS C k) : ∃ p C', F_l_odd [.c k] C = some (.v p, C') ∧ okk p = true ∧ Adv k C C' := by
  obtain ⟨d, C1, e1, d1, d2, a1⟩ := pick_adv k 24 C h (by decide)
  obtain ⟨p, ep, hp⟩ := ix_all (okk := okk) [.int 12, .int 9, .int 11, .int 8, .int (-1), .int (10 ^ 29), .bl true, .bl false, .non, .str "", .str "abcdefghijklm", .str "Ab", .str "a1", .str "a b", .str "bell", .str "x", .tup [.str "c"],
    .lst [.str "x"], .int 0, .str "0", .tup [.str "note"], .str "join", .int (-(10 ^ 29)), .tup []] (by rfl) d d1 (by simpa using d2)
  refine ⟨p, C1, ?_, hp, a1⟩
  simp only [show (10 : Int) ^ 29 = 100000000000000000000000000000 from rfl] at ep
  simp [F_l_odd, mDef, mRet, mRetF, mAndV, mOrV, mNotV, mCB, mOp, mChain, mTest, mTru, mNotT, mAndT, mOrT, mIf, mIfS, mSeq, mSkip, mSet, mDrop, mTup, mLst, mVal, mFn, mFnF, mSlice, mMt, mDict, mDict0, mList, listH, bnd, opM, aCons, aNil, mVar, mC, Pu.ret, g1, g2, derefs, deref, isiH, isiP, tyN, mB, asB, intP, fin, truP, lenH, Pu.plain, oNo, oPart, Pu.intD, sliceD, sliceP, isTy, tyP, mtD, eqP, neP, scP, addP, negP, mNeg, e1, a1.take, ep]
structure PAdv (k n : Nat) (C C' : Cs) (ps : List PV) : Prop where
  len : C'.length = C.length
  gs : GS C' k
  oth : ∀ j, j ≠ k → j ≠ n → C'[j]? = C[j]?
  at' : C'[n]? = some (.lst ps)
abbrev gbody : PSt → M PF := mDrop (mApp (mVar 2) (aCons (mOp (g2 ixQ) (mVal (mLst (aCons (mFn F_l_text (aCons (mVar 0) aNil)) (aCons (mFn F_l_pick (aCons (mVar 0) (aCons (mC (.int 12)) aNil))) (aCons (mFn F_l_pick (aCons (mVar 0) (aCons (mC (.int 9)) aNil))) aNil))))) (mOp (g2 modP) (mMt "list" indexH (mVal (mLst (aCons (mC (.str "w")) (aCons (mC (.str "c")) (aCons (mC (.str "p")) (aCons (mC (.str "h")) aNil)))))) (aCons (mVar 3) aNil)) (mC (.int 3)))) aNil))
def sgn (s : Str) : Prop := ∃ i : Int, indexH (.lst [.str "w", .str "c", .str "p", .str "h"]) [.str s] = some (.int i) ∧ (i % 3 = 0 ∨ i % 3 = 1 ∨ i % 3 = 2)
theorem sgn_any {s : Str} {i : Int} (h : indexH (.lst [.str "w", .str "c", .str "p", .str "h"]) [.str s] = some (.int i)) : sgn s := ⟨i, h, by omega⟩
theorem gw : sgn "w" := sgn_any (i := 0) (by rfl)
theorem gc : sgn "c" := sgn_any (i := 1) (by rfl)
theorem gp : sgn "p" := sgn_any (i := 2) (by rfl)
theorem gh : sgn "h" := sgn_any (i := 3) (by rfl)
theorem part_step (k n : Nat) (hkn : k ≠ n) (w s : Str) (i : Int) (C C0 : Cs) (ps : List PV) (hi : indexH (.lst [.str "w", .str "c", .str "p", .str "h"]) [.str s] = some (.int i)) (hi3 : i % 3 = 0 ∨ i % 3 = 1 ∨ i % 3 = 2) (hps : ps.all okv = true) (hl : ps.length < 100) (z : Option SV) (P : PAdv k n C0 C ps) :
    ∃ q C', gbody [some (.c k), some (.v (.str w)), some (.c n), some (.v (.str s))] C = some (PF.nx [some (.c k), some (.v (.str w)), some (.c n), some (.v (.str s))], C') ∧ okv q = true ∧ PAdv k n C0 C' (ps ++ [q]) := by
  obtain ⟨t, C1, e1, a1⟩ := text_adv k C P.gs
  obtain ⟨d1, C2, e2, b1, b2, a2⟩ := pick_adv k 12 C1 a1.gs (by decide)
  obtain ⟨d2, C3, e3, c1, c2, a3⟩ := pick_adv k 9 C2 a2.gs (by decide)
  have a := (a1.trans a2).trans a3
  have hn : C[n]? = some (.lst ps) := P.at'
  have hn3 : C3[n]? = some (.lst ps) := by rw [a.oth n (Ne.symm hkn)]; exact hn
  have sz : ps.length < 100000 := by omega
  obtain ⟨q, hq, hok⟩ := ix_all (okk := okv) [.str t, .int d1, .int d2] rfl (i % 3) (by omega) (by simp; omega)
  refine ⟨q, C3.set n (.lst (ps ++ [q])), ?_, hok, ⟨by simp [a.len, P.len], ?_, fun j h1 h2 => ?_, setAt hn3⟩⟩
  · simp [mDef, mRet, mRetF, mAndV, mOrV, mNotV, mCB, mOp, mChain, mTest, mTru, mNotT, mAndT, mOrT, mIf, mIfS, mSeq, mSkip, mSet, mDrop, mTup, mLst, mVal, mFn, mFnF, mSlice, mMt, mDict, mDict0, mList, listH, bnd, opM, aCons, aNil, mVar, mC, Pu.ret, g1, g2, derefs, deref, isiH, isiP, tyN, mB, asB, intP, fin, truP, lenH, Pu.plain, oNo, oPart, Pu.intD, sliceD, sliceP, isTy, tyP, mtD, eqP, neP, scP, mApp, isLst, hn, e1, e2, e3, hi, hq, appC, hn3, sz]
  · obtain ⟨x, y, g1, g2, g3⟩ := a.gs
    exact ⟨x, y, by rw [List.getElem?_set_ne (Ne.symm hkn)]; exact g1, g2, g3⟩
  · rw [List.getElem?_set_ne (Ne.symm h2), a.oth j h1]; exact P.oth j h1 h2
theorem loop_parts (k n : Nat) (hkn : k ≠ n) (w : Str) (C0 : Cs) : ∀ (sgs : List Str), (∀ s ∈ sgs, sgn s) → ∀ (C : Cs) (ps : List PV) (z : Option SV), PAdv k n C0 C ps → ps.all okv = true → ps.length + sgs.length < 100 →
    ∃ qs C' z', loop (hName 3) gbody (sgs.map .str) [some (.c k), some (.v (.str w)), some (.c n), z] C = some (.nx [some (.c k), some (.v (.str w)), some (.c n), z'], C') ∧ PAdv k n C0 C' (ps ++ qs) ∧ (ps ++ qs).all okv = true ∧ qs.length = sgs.length
  | [], _, C, ps, z, P, ho, _ => ⟨[], C, z, by simp [loop, Pu.ret], by simpa using P, by simpa using ho, rfl⟩
  | s :: sgs, hs, C, ps, z, P, ho, hl => by
    obtain ⟨i, hi, hi3⟩ := hs s (by simp)
    have hl2 : ps.length + (sgs.length + 1) < 100 := by simpa using hl
    obtain ⟨q, C1, e1, hq, P1⟩ := part_step k n hkn w s i C C0 ps hi hi3 ho (by omega) z P
    obtain ⟨qs, C2, z', e2, P2, ho2, hl3⟩ := loop_parts k n hkn w C0 sgs (fun x hx => hs x (by simp [hx])) C1 (ps ++ [q]) (some (.v (.str s))) P1 (by simp at ho ⊢; exact ⟨ho, hq⟩) (by simp; omega)
    refine ⟨q :: qs, C2, z', ?_, by simpa using P2, by simpa using ho2, by simp [hl3]⟩
    rw [List.map_cons]
    unfold loop
    simp only [hName, List.set, bnd, e1, e2]
theorem good_adv (k : Nat) (C : Cs) (h : GS C k) : ∃ w ps C', F_l_good [.c k] C = some (.v (.tup (.str w :: ps)), C') ∧ ps.all okv = true ∧ ps.length ≤ 2 ∧ Adv k C C' := by
  obtain ⟨d, C1, e1, d1, d2, a1⟩ := pick_adv k 8 C h (by decide)
  have hk : k < C.length := by
    obtain ⟨x, y, g, _⟩ := h
    rcases Nat.lt_or_ge k C.length with q | q
    · exact q
    · rw [List.getElem?_eq_none_iff.mpr q] at g; cases g
  unfold F_l_good B_l_good
  have run : ∀ (w f : Str) (sgs : List Str), ixQ (.lst [.str "join", .str "say", .str "do", .str "free", .str "ready", .str "hand", .str "quit", .str "note"]) (.int d) = some (.str w) → lookP fk fv (.inr w) = some (.str f) → itemsP (.v (.str f)) = some (sgs.map .str) → (∀ s ∈ sgs, sgn s) → sgs.length ≤ 2 →
      ∃ w ps C', mDef 1 3 (mSeq (mSet 1 (mOp (g2 ixQ) (mVal (mLst (aCons (mC (.str "join")) (aCons (mC (.str "say")) (aCons (mC (.str "do")) (aCons (mC (.str "free")) (aCons (mC (.str "ready")) (aCons (mC (.str "hand")) (aCons (mC (.str "quit")) (aCons (mC (.str "note")) aNil)))))))))) (mFn F_l_pick (aCons (mVar 0) (aCons (mC (.int 8)) aNil)))))
        (mSeq (mNew 2 (mLst aNil)) (mSeq (mFor (mItems (mOp (g2 ixQ) (mFn F_l_forms aNil) (mVar 1))) (hName 3) gbody) (mRet (mOp (g2 addP) (mTup (aCons (mVar 1) aNil)) (mCB (g1 tupH) (aCons (mVar 2) aNil))))))) [.c k] C = some (.v (.tup (.str w :: ps)), C') ∧ ps.all okv = true ∧ ps.length ≤ 2 ∧ Adv k C C' := fun w f sgs hw hf hi hs hl => by
    have hkn : k ≠ C1.length := by rw [a1.len]; omega
    have P0 : PAdv k C1.length (C1 ++ [.lst []]) (C1 ++ [.lst []]) [] := ⟨rfl, by
      obtain ⟨x, y, g, g1, g2⟩ := a1.gs
      exact ⟨x, y, by rw [List.getElem?_append_left (by rw [a1.len]; exact hk)]; exact g, g1, g2⟩, fun _ _ _ => rfl, by simp⟩
    obtain ⟨qs, C2, z', e2, P2, ho2, hl2⟩ := loop_parts k C1.length hkn w (C1 ++ [.lst []]) sgs hs (C1 ++ [.lst []]) [] none P0 rfl (by simp; omega)
    rw [List.nil_append] at P2 ho2
    have hn2 := P2.at'
    have sz : 1 + qs.length ≤ 1000000 := by omega
    refine ⟨w, qs, C2.take C.length, ?_, ho2, by omega, ?_⟩
    · generalize hb : gbody = body at e2 ⊢
      have hw' : ixP (.lst [.str "join", .str "say", .str "do", .str "free", .str "ready", .str "hand", .str "quit", .str "note"]) (.int d) = some (.str w) := hw
      have sz' : qs.length + 1 ≤ 1000000 := by omega
      simp [mDef, mRet, mRetF, mAndV, mOrV, mNotV, mCB, mOp, mChain, mTest, mTru, mNotT, mAndT, mOrT, mIf, mIfS, mSeq, mSkip, mSet, mDrop, mTup, mLst, mVal, mFn, mFnF, mSlice, mMt, mDict, mDict0, mList, listH, bnd, opM, aCons, aNil, mVar, mC, Pu.ret, g1, g2, derefs, deref, isiH, isiP, tyN, mB, asB, intP, fin, truP, lenH, Pu.plain, oNo, oPart, Pu.intD, sliceD, sliceP, isTy, tyP, mtD, eqP, neP, scP, e1, hw', mNew, mFor, mItems, l_forms_eq, ixQ, keyP, hf, hi, e2, hn2, tupH, addP, sz]
    · have hlen : C2.length = C.length + 1 := by rw [P2.len]; simp [a1.len]
      refine ⟨by rw [List.length_take, hlen]; omega, ?_, fun j hj => ?_⟩
      · obtain ⟨x, y, g, g1, g2⟩ := P2.gs
        exact ⟨x, y, by rw [List.getElem?_take_of_lt hk]; exact g, g1, g2⟩
      · rcases Nat.lt_or_ge j C.length with q | q
        · rw [List.getElem?_take_of_lt q, P2.oth j hj (by rw [a1.len]; omega), List.getElem?_append_left (by rw [a1.len]; exact q), a1.oth j hj]
        · rw [List.getElem?_eq_none_iff.mpr (by rw [List.length_take]; omega), List.getElem?_eq_none_iff.mpr q]
  have hd : d = 0 ∨ d = 1 ∨ d = 2 ∨ d = 3 ∨ d = 4 ∨ d = 5 ∨ d = 6 ∨ d = 7 := by omega
  rcases hd with rfl | rfl | rfl | rfl | rfl | rfl | rfl | rfl
  · exact run "join" "" [] (by rfl) k1 i0 (by simp) (by simp)
  · exact run "say" "w" ["w"] (by rfl) k3 i1 (by simp [gw]) (by simp)
  · exact run "do" "cp" ["c", "p"] (by rfl) k4 i2 (by simp [gc, gp]) (by simp)
  · exact run "free" "c" ["c"] (by rfl) k5 i3 (by simp [gc]) (by simp)
  · exact run "ready" "c" ["c"] (by rfl) k6 i3 (by simp [gc]) (by simp)
  · exact run "hand" "ch" ["c", "h"] (by rfl) k8 i4 (by simp [gc, gh]) (by simp)
  · exact run "quit" "c" ["c"] (by rfl) k7 i3 (by simp [gc]) (by simp)
  · exact run "note" "" [] (by rfl) k2 i0 (by simp) (by simp)
end K12

set_option linter.all false
set_option maxRecDepth 100000
set_option maxHeartbeats 4000000
namespace K12
open PySem PySem.Spec L2 Pu
open PyProof.Rows hiding St Fr
theorem cut_all {xs : List PV} (h : xs.all okv = true) (lo hi : Option Int) : (cutP xs lo hi).all okv = true := by
  rw [List.all_eq_true] at h ⊢
  intro x hx
  exact h x (List.mem_of_mem_drop (List.mem_of_mem_take hx))
theorem cut_len (xs : List PV) (lo hi : Option Int) : (cutP xs lo hi).length ≤ xs.length := by
  unfold cutP
  rw [List.length_take, List.length_drop]
  omega
theorem okk_v {p : PV} (h : okk p = true) : okv p = true := by unfold okk at h; rw [Bool.and_eq_true] at h; exact h.1
theorem okk_1 {p : PV} (h : okk p = true) : ok1 p = true := by unfold okk at h; rw [Bool.and_eq_true] at h; exact h.2
theorem all_app {a b : List PV} (h : a.all okv = true) (k : b.all okv = true) : (a ++ b).all okv = true := by rw [List.all_append, h, k]; rfl
theorem spoilt_adv (k : Nat) (xs : List PV) (C : Cs) (h : GS C k) (hx : xs.all okv = true) (h0 : 1 ≤ xs.length) (h3 : xs.length ≤ 3) : ∃ q C', F_l_spoilt [.c k, .v (.tup xs)] C = some (.v q, C') ∧ ok1 q = true ∧ Adv k C C' := by
  obtain ⟨d, C1, e1, d1, d2, a1⟩ := pick_adv k 7 C h (by decide)
  obtain ⟨p, C2, e2, hp, a2⟩ := odd_adv k C1 a1.gs
  have a12 := a1.trans a2
  have s1 : xs.length + 1 ≤ 1000000 := by omega
  by_cases w0 : d = 0
  · subst w0
    exact ⟨.lst xs, C1, by simp [F_l_spoilt, mDef, mRet, mRetF, mAndV, mOrV, mNotV, mCB, mOp, mChain, mTest, mTru, mNotT, mAndT, mOrT, mIf, mIfS, mSeq, mSkip, mSet, mDrop, mTup, mLst, mVal, mFn, mFnF, mSlice, mMt, mDict, mDict0, mList, listH, bnd, opM, aCons, aNil, mVar, mC, Pu.ret, g1, g2, derefs, deref, isiH, isiP, tyN, mB, asB, intP, fin, truP, lenH, Pu.plain, oNo, oPart, Pu.intD, sliceD, sliceP, isTy, tyP, mtD, eqP, neP, scP, e1, a1.take], rfl, a1⟩
  by_cases w1 : d = 1
  · subst w1
    refine ⟨.tup (xs ++ [p]), C2, by simp [F_l_spoilt, mDef, mRet, mRetF, mAndV, mOrV, mNotV, mCB, mOp, mChain, mTest, mTru, mNotT, mAndT, mOrT, mIf, mIfS, mSeq, mSkip, mSet, mDrop, mTup, mLst, mVal, mFn, mFnF, mSlice, mMt, mDict, mDict0, mList, listH, bnd, opM, aCons, aNil, mVar, mC, Pu.ret, g1, g2, derefs, deref, isiH, isiP, tyN, mB, asB, intP, fin, truP, lenH, Pu.plain, oNo, oPart, Pu.intD, sliceD, sliceP, isTy, tyP, mtD, eqP, neP, scP, e1, e2, addP, s1, a12.take], ?_, a12⟩
    exact all_app hx (by simp [okk_v hp])
  by_cases w2 : d = 2
  · subst w2
    exact ⟨.tup (cutP xs none (some ((xs.length : Int) - 1))), C1, by simp [F_l_spoilt, mDef, mRet, mRetF, mAndV, mOrV, mNotV, mCB, mOp, mChain, mTest, mTru, mNotT, mAndT, mOrT, mIf, mIfS, mSeq, mSkip, mSet, mDrop, mTup, mLst, mVal, mFn, mFnF, mSlice, mMt, mDict, mDict0, mList, listH, bnd, opM, aCons, aNil, mVar, mC, Pu.ret, g1, g2, derefs, deref, isiH, isiP, tyN, mB, asB, intP, fin, truP, lenH, Pu.plain, oNo, oPart, Pu.intD, sliceD, sliceP, isTy, tyP, mtD, eqP, neP, scP, e1, a1.take], cut_all hx _ _, a1⟩
  by_cases w3 : d = 3
  · subst w3
    obtain ⟨e, C3, e3, b1, b2, a3⟩ := pick_adv k 8 C1 a1.gs (by decide)
    have a13 := a1.trans a3
    obtain ⟨q, hq, hok⟩ := ix_all (okk := okv) [.str "joins", .str "did", .str "", .str "note", .str "free", .str "do", .str "hand", .str "say"] (by rfl) e b1 (by simpa using b2)
    have hl := cut_len xs (some 1) none
    have s2 : 1 + (cutP xs (some 1) none).length ≤ 1000000 := by omega
    have hq' : ixP (.lst [.str "joins", .str "did", .str "", .str "note", .str "free", .str "do", .str "hand", .str "say"]) (.int e) = some q := hq
    refine ⟨.tup (q :: cutP xs (some 1) none), C3, by simp [F_l_spoilt, mDef, mRet, mRetF, mAndV, mOrV, mNotV, mCB, mOp, mChain, mTest, mTru, mNotT, mAndT, mOrT, mIf, mIfS, mSeq, mSkip, mSet, mDrop, mTup, mLst, mVal, mFn, mFnF, mSlice, mMt, mDict, mDict0, mList, listH, bnd, opM, aCons, aNil, mVar, mC, Pu.ret, g1, g2, derefs, deref, isiH, isiP, tyN, mB, asB, intP, fin, truP, lenH, Pu.plain, oNo, oPart, Pu.intD, sliceD, sliceP, isTy, tyP, mtD, eqP, neP, scP, e1, e3, ixQ, hq', addP, s2, a13.take], ?_, a13⟩
    show ((q :: cutP xs (some 1) none).all okv) = true
    rw [List.all_cons, hok, cut_all hx]; rfl
  · obtain ⟨e, C3, e3, b1, b2, a3⟩ := pick_adv k (xs.length : Int) C1 a1.gs ⟨by omega, by omega⟩
    obtain ⟨p', C4, e4, hp', a4⟩ := odd_adv k C3 a3.gs
    have a14 := (a1.trans a3).trans a4
    have hl := cut_len xs none (some e)
    have hl2 := cut_len xs (some (e + 1)) none
    have s2 : (cutP xs none (some e)).length + 1 ≤ 1000000 := by omega
    have s3 : (cutP xs none (some e)).length + 1 + (cutP xs (some (e + 1)) none).length ≤ 1000000 := by omega
    have s4 : (cutP xs none (some e)).length + (1 + (cutP xs (some (e + 1)) none).length) ≤ 1000000 := by omega
    have s5 : (cutP xs none (some e)).length + ((cutP xs (some (e + 1)) none).length + 1) ≤ 1000000 := by omega
    refine ⟨.tup (cutP xs none (some e) ++ (p' :: cutP xs (some (e + 1)) none)), C4, by simp [F_l_spoilt, mDef, mRet, mRetF, mAndV, mOrV, mNotV, mCB, mOp, mChain, mTest, mTru, mNotT, mAndT, mOrT, mIf, mIfS, mSeq, mSkip, mSet, mDrop, mTup, mLst, mVal, mFn, mFnF, mSlice, mMt, mDict, mDict0, mList, listH, bnd, opM, aCons, aNil, mVar, mC, Pu.ret, g1, g2, derefs, deref, isiH, isiP, tyN, mB, asB, intP, fin, truP, lenH, Pu.plain, oNo, oPart, Pu.intD, sliceD, sliceP, isTy, tyP, mtD, eqP, neP, scP, e1, e3, e4, w0, w1, w2, w3, addP, s2, s3, s4, s5, a14.take], ?_, a14⟩
    refine all_app (cut_all hx _ _) ?_
    rw [List.all_cons, okk_v hp', cut_all hx]; rfl
theorem cell_at_eq (ns : List Int) (i : Int) (C : Cs) (hi : 0 ≤ i) : ∃ v : Int, F_l_cell_at [.v (.lst (ns.map .int)), .v (.int i)] C = some (.v (.int v), C) := by
  by_cases h : i < ns.length
  · have hd : i.toNat < ns.length := by omega
    refine ⟨ns[i.toNat], ?_⟩
    simp [F_l_cell_at, mDef, mRet, mRetF, mAndV, mOrV, mNotV, mCB, mOp, mChain, mTest, mTru, mNotT, mAndT, mOrT, mIf, mIfS, mSeq, mSkip, mSet, mDrop, mTup, mLst, mVal, mFn, mFnF, mSlice, mMt, mDict, mDict0, mList, listH, bnd, opM, aCons, aNil, mVar, mC, Pu.ret, g1, g2, derefs, deref, isiH, isiP, tyN, mB, asB, intP, fin, truP, lenH, Pu.plain, oNo, oPart, Pu.intD, sliceD, sliceP, isTy, tyP, mtD, eqP, neP, scP, ixQ, ixP, atI, ixN, hi, h, List.getElem?_eq_getElem hd]
  · exact ⟨0, by simp [F_l_cell_at, mDef, mRet, mRetF, mAndV, mOrV, mNotV, mCB, mOp, mChain, mTest, mTru, mNotT, mAndT, mOrT, mIf, mIfS, mSeq, mSkip, mSet, mDrop, mTup, mLst, mVal, mFn, mFnF, mSlice, mMt, mDict, mDict0, mList, listH, bnd, opM, aCons, aNil, mVar, mC, Pu.ret, g1, g2, derefs, deref, isiH, isiP, tyN, mB, asB, intP, fin, truP, lenH, Pu.plain, oNo, oPart, Pu.intD, sliceD, sliceP, isTy, tyP, mtD, eqP, neP, scP, h]⟩
theorem left_eq (ns : List Int) (k : Int) (C : Cs) (h1 : 1 ≤ k) (h2 : k ≤ 1000) : ∃ x y : Int, FF_l_left [.v (.lst (ns.map .int)), .v (.int k)] C = some ([.int x, .int y], C) ∧ 0 ≤ y ∧ y < 2147483647 := by
  have hm : 0 < (if (ns.length : Int) > 1 then (ns.length : Int) else 1) := by split <;> omega
  obtain ⟨v, ev⟩ := cell_at_eq ns (k % (if (ns.length : Int) > 1 then (ns.length : Int) else 1)) C (Int.emod_nonneg _ (by omega))
  obtain ⟨u, eu⟩ := cell_at_eq ns 0 C (by decide)
  have c1 : -18446744073709551616 < k ∧ k < 18446744073709551616 := by omega
  have hm' : 0 < (if 1 < (ns.length : Int) then (ns.length : Int) else 1) := hm
  have ev' : F_l_cell_at [.v (.lst (ns.map .int)), .v (.int (k % (if 1 < (ns.length : Int) then (ns.length : Int) else 1)))] C = some (.v (.int v), C) := ev
  have hcast : (if 1 < (ns.length : Int) then (ns.length : Int) else 1) = if 1 < ns.length then (ns.length : Int) else 1 := by
    by_cases q : 1 < ns.length
    · rw [if_pos q, if_pos (by omega)]
    · rw [if_neg q, if_neg (by omega)]
  have p40 : (0 : Int) < 10 ^ 40 := by decide
  by_cases hu : u % 2 = 0
  · refine ⟨0, (v % 2147483629 + 7919 * k * k + 11) * 48271 % 2147483647, ?_, Int.emod_nonneg _ (by decide), Int.emod_lt_of_pos _ (by decide)⟩
    simp [FF_l_left, mDefF, mDef, mRet, mRetF, mAndV, mOrV, mNotV, mCB, mOp, mChain, mTest, mTru, mNotT, mAndT, mOrT, mIf, mIfS, mSeq, mSkip, mSet, mDrop, mTup, mLst, mVal, mFn, mFnF, mSlice, mMt, mDict, mDict0, mList, listH, bnd, opM, aCons, aNil, mVar, mC, Pu.ret, g1, g2, derefs, deref, isiH, isiP, tyN, mB, asB, intP, fin, truP, lenH, Pu.plain, oNo, oPart, Pu.intD, sliceD, sliceP, isTy, tyP, mtD, eqP, neP, scP, maxH, ev', eu, hm', c1, addP, hu]
  · refine ⟨v % 10 ^ 40, (v % 2147483629 + 7919 * k * k + 11) * 48271 % 2147483647, ?_, Int.emod_nonneg _ (by decide), Int.emod_lt_of_pos _ (by decide)⟩
    simp [FF_l_left, mDefF, mDef, mRet, mRetF, mAndV, mOrV, mNotV, mCB, mOp, mChain, mTest, mTru, mNotT, mAndT, mOrT, mIf, mIfS, mSeq, mSkip, mSet, mDrop, mTup, mLst, mVal, mFn, mFnF, mSlice, mMt, mDict, mDict0, mList, listH, bnd, opM, aCons, aNil, mVar, mC, Pu.ret, g1, g2, derefs, deref, isiH, isiP, tyN, mB, asB, intP, fin, truP, lenH, Pu.plain, oNo, oPart, Pu.intD, sliceD, sliceP, isTy, tyP, mtD, eqP, neP, scP, maxH, ev', eu, hm', c1, addP, hu]
theorem loop_inv {g : PV → PSt → Option PSt} {f : PSt → M PF} (Pi : PSt → Cs → Prop) : ∀ (xs : List PV), (∀ x ∈ xs, ∀ ρ C, Pi ρ C → ∃ ρ1 ρ2 C2, g x ρ = some ρ1 ∧ f ρ1 C = some (.nx ρ2, C2) ∧ Pi ρ2 C2) → ∀ ρ C, Pi ρ C → ∃ ρ' C', loop g f xs ρ C = some (.nx ρ', C') ∧ Pi ρ' C'
  | [], _, ρ, C, h => ⟨ρ, C, rfl, h⟩
  | x :: xs, hs, ρ, C, h => by
    obtain ⟨ρ1, ρ2, C2, e1, e2, h2⟩ := hs x (by simp) ρ C h
    obtain ⟨ρ', C', e3, h3⟩ := loop_inv Pi xs (fun y hy => hs y (by simp [hy])) ρ2 C2 h2
    refine ⟨ρ', C', ?_, h3⟩
    unfold loop
    simp only [e1, bnd, e2, e3]
section
variable {d f1 f2 f3 f4 f5 : Addr}
abbrev rbody (d f1 f2 f3 f4 f5 : Addr) : PSt → M PF := mIfS (mNotT (mTru (mFn (F_l_right d f1 f2 f3 f4 f5) (aCons (mVar 2) aNil)))) (mRet (mC (.bl false))) mSkip
theorem things (D : Dist f1 f2 f3 f4 f5) (a b c e f : Option SV) (C : Cs) (xs : List PV) (hx : ∀ x ∈ xs, ok1 x = true) (z : Option SV) : ∃ z', loop (hName 2) (rbody d f1 f2 f3 f4 f5) xs [a, b, z, c, e, f] C = some (.nx [a, b, z', c, e, f], C) := by
  obtain ⟨ρ', C', h1, ⟨z', rfl⟩, rfl⟩ := loop_inv (g := hName 2) (f := rbody d f1 f2 f3 f4 f5) (fun ρ C' => (∃ z, ρ = [a, b, z, c, e, f]) ∧ C' = C) xs (fun x hm ρ C' h => by
    obtain ⟨⟨z, rfl⟩, rfl⟩ := h
    refine ⟨[a, b, some (.v x), c, e, f], [a, b, some (.v x), c, e, f], C', rfl, ?_, ⟨_, rfl⟩, rfl⟩
    simp [mDef, mRet, mRetF, mAndV, mOrV, mNotV, mCB, mOp, mChain, mTest, mTru, mNotT, mAndT, mOrT, mIf, mIfS, mSeq, mSkip, mSet, mDrop, mTup, mLst, mVal, mFn, mFnF, mSlice, mMt, mDict, mDict0, mList, listH, bnd, opM, aCons, aNil, mVar, mC, Pu.ret, g1, g2, derefs, deref, isiH, isiP, tyN, mB, asB, intP, fin, truP, lenH, Pu.plain, oNo, oPart, Pu.intD, sliceD, sliceP, isTy, tyP, mtD, eqP, neP, scP, right_eq D x C' (hx x hm)]) [a, b, z, c, e, f] C ⟨⟨z, rfl⟩, rfl⟩
  exact ⟨z', h1⟩
abbrev obody (d f1 f2 f3 f4 f5 : Addr) : PSt → M PF := mSeq (mNew 4 (mFnF FF_l_left (aCons (mVar 0) (aCons (mVar 3) aNil)))) (mSeq (mSet 5 (mFn F_l_good (aCons (mVar 4) aNil))) (mFor (mItems (mVal (mLst (aCons (mVar 5) (aCons (mFn F_l_spoilt (aCons (mVar 4) (aCons (mVar 5) aNil))) (aCons (mFn F_l_spoilt (aCons (mVar 4) (aCons (mVar 5) aNil))) (aCons (mFn F_l_odd (aCons (mVar 4) aNil)) aNil))))))) (hName 2) (rbody d f1 f2 f3 f4 f5)))
theorem outer (D : Dist f1 f2 f3 f4 f5) (ns : List Int) (b z e f : Option SV) (k : Int) (h1 : 1 ≤ k) (h2 : k ≤ 1000) (C : Cs) :
    ∃ z' e' f' C', obody d f1 f2 f3 f4 f5 [some (.v (.lst (ns.map .int))), b, z, some (.v (.int k)), e, f] C = some (.nx [some (.v (.lst (ns.map .int))), b, z', some (.v (.int k)), e', f'], C') := by
  obtain ⟨x, y, el, y0, y1⟩ := left_eq ns k C h1 h2
  have g0 : GS (C ++ [.lst [.int x, .int y]]) C.length := ⟨x, y, by simp, y0, y1⟩
  obtain ⟨w, ps, C1, e1, hp, hl, a1⟩ := good_adv C.length _ g0
  have hxs : (PV.str w :: ps).all okv = true := by rw [List.all_cons, hp]; rfl
  obtain ⟨q1, C2, e2, o2, a2⟩ := spoilt_adv C.length (.str w :: ps) C1 a1.gs hxs (by simp) (by simp; omega)
  obtain ⟨q2, C3, e3, o3, a3⟩ := spoilt_adv C.length (.str w :: ps) C2 a2.gs hxs (by simp) (by simp; omega)
  obtain ⟨p, C4, e4, o4, a4⟩ := odd_adv C.length C3 a3.gs
  obtain ⟨z', ez⟩ := things (d := d) D (some (.v (.lst (ns.map .int)))) b (some (.v (.int k))) (some (.c C.length)) (some (.v (.tup (.str w :: ps)))) C4 [.tup (.str w :: ps), q1, q2, p] (fun v hv => by
    simp only [List.mem_cons, List.not_mem_nil, or_false] at hv
    rcases hv with rfl | rfl | rfl | rfl
    · exact hxs
    · exact o2
    · exact o3
    · exact okk_1 o4) z
  refine ⟨z', some (.c C.length), some (.v (.tup (.str w :: ps))), C4, ?_⟩
  unfold obody
  generalize hb : rbody d f1 f2 f3 f4 f5 = body at ez ⊢
  simp [mDef, mRet, mRetF, mAndV, mOrV, mNotV, mCB, mOp, mChain, mTest, mTru, mNotT, mAndT, mOrT, mIf, mIfS, mSeq, mSkip, mSet, mDrop, mTup, mLst, mVal, mFn, mFnF, mSlice, mMt, mDict, mDict0, mList, listH, bnd, opM, aCons, aNil, mVar, mC, Pu.ret, g1, g2, derefs, deref, isiH, isiP, tyN, mB, asB, intP, fin, truP, lenH, Pu.plain, oNo, oPart, Pu.intD, sliceD, sliceP, isTy, tyP, mtD, eqP, neP, scP, mNew, el, e1, e2, e3, e4, mFor, mItems, itemsP, ez]
theorem law_pure (D : Dist f1 f2 f3 f4 f5) (ns : List Int) (hn : ns.length ≤ 63) : F_law d f1 f2 f3 f4 f5 [.v (.lst (ns.map .int))] [] = some (.v (.bl true), []) := by
  obtain ⟨z1, ez1⟩ := things (d := d) D (some (.v (.lst (ns.map .int)))) (some (.v (.lst [.tup [.str "hand", .int 0, .str "bell"], .tup [.str "say", .str "bell"], .tup [], .tup [.str "do", .int 0, .bl true], .tup [.str "do", .int 11, .int 8], .tup [.str "do", .int 12, .int 0], .tup [.str "do", .int 0, .int 9]]))) none none none []
    [.tup [.str "hand", .int 0, .str "bell"], .tup [.str "say", .str "bell"], .tup [], .tup [.str "do", .int 0, .bl true], .tup [.str "do", .int 11, .int 8], .tup [.str "do", .int 12, .int 0], .tup [.str "do", .int 0, .int 9],
      .tup [.str "join", .int 0], .tup [.str "note"], .str "join", .non, .dct [] [], .lst [], .tup [.str "free", .bl false], .tup [.str "say", .str ""], .tup [.str "hand", .int 0]] (fun x hx => by
    simp only [List.mem_cons, List.not_mem_nil, or_false] at hx
    rcases hx with rfl | rfl | rfl | rfl | rfl | rfl | rfl | rfl | rfl | rfl | rfl | rfl | rfl | rfl | rfl | rfl <;> rfl) none
  have hc := cut_len (ns.map .int) (some 1) (some 22)
  rw [List.length_map] at hc
  obtain ⟨ρ', C', e2, -⟩ := loop_inv (g := hName 3) (f := obody d f1 f2 f3 f4 f5) (fun ρ _ => ∃ b z c e f, ρ = [some (.v (.lst (ns.map .int))), b, z, c, e, f]) ((List.range (2 + ((cutP (ns.map .int) (some 1) (some 22)).length : Int) - 1).toNat).map fun (j : Nat) => .int (1 + j)) (fun x hx ρ C h => by
    obtain ⟨b, z, c, e, f, rfl⟩ := h
    obtain ⟨j, hj, rfl⟩ := List.mem_map.mp hx
    have hj' := List.mem_range.mp hj
    obtain ⟨z', e', f', C', eo⟩ := outer (d := d) D ns b z e f (1 + (j : Int)) (by omega) (by omega) C
    exact ⟨_, _, C', rfl, eo, b, z', _, e', f', rfl⟩) [some (.v (.lst (ns.map .int))), some (.v (.lst [.tup [.str "hand", .int 0, .str "bell"], .tup [.str "say", .str "bell"], .tup [], .tup [.str "do", .int 0, .bl true], .tup [.str "do", .int 11, .int 8], .tup [.str "do", .int 12, .int 0], .tup [.str "do", .int 0, .int 9]])), z1, none, none, none] [] ⟨_, _, _, _, _, rfl⟩
  have r1 : -1000000 ≤ 2 + ((cutP (ns.map .int) (some 1) (some 22)).length : Int) ∧ 2 + ((cutP (ns.map .int) (some 1) (some 22)).length : Int) ≤ 1000000 := by omega
  have hh : (2 + ((cutP (ns.map .int) (some 1) (some 22)).length : Int) - 1).toNat = (2 + ((cutP (ns.map .int) (some 1) (some 22)).length : Int)).toNat - 1 := by omega
  rw [hh] at e2
  unfold F_law B_law
  show mDef 1 5 (mSeq _ (mSeq (mFor _ _ (rbody d f1 f2 f3 f4 f5)) (mSeq (mFor _ _ (obody d f1 f2 f3 f4 f5)) _))) _ _ = _
  generalize hb1 : rbody d f1 f2 f3 f4 f5 = rb at ez1 ⊢
  generalize hb2 : obody d f1 f2 f3 f4 f5 = ob at e2 ⊢
  simp [mDef, mRet, mRetF, mAndV, mOrV, mNotV, mCB, mOp, mChain, mTest, mTru, mNotT, mAndT, mOrT, mIf, mIfS, mSeq, mSkip, mSet, mDrop, mTup, mLst, mVal, mFn, mFnF, mSlice, mMt, mDict, mDict0, mList, listH, bnd, opM, aCons, aNil, mVar, mC, Pu.ret, g1, g2, derefs, deref, isiH, isiP, tyN, mB, asB, intP, fin, truP, lenH, Pu.plain, oNo, oPart, Pu.intD, sliceD, sliceP, isTy, tyP, mtD, eqP, neP, scP, mFor, mItems, itemsP, addP, ez1, mRange2, rng2P, r1, e2]
end
end K12

set_option Elab.async false
set_option linter.all false
set_option maxRecDepth 100000
set_option maxHeartbeats 4000000
namespace K12
open PySem PySem.Spec L2 Pu
open PyProof.Rows hiding St Fr
def spLaw (K : PySem.W.Frag) : Sp := fun vs H Q _ => ∃ (a : Addr) (ns : List Int), vs = [.ref a] ∧ SqL K H a (ns.map V.int) ∧ ns.length ≤ 63 ∧ ∀ H', Q (.bl true) H'
theorem reps_ints {K : PySem.W.Frag} {ι : List Addr} {H : Hp} : ∀ ns : List Int, Reps K ι H (ns.map PV.int) (ns.map V.int)
  | [] => by unfold Reps; rfl
  | n :: ns => by
    rw [List.map_cons, List.map_cons]; unfold Reps
    exact ⟨_, _, rfl, by unfold Rep; rfl, reps_ints ns⟩
theorem spLaw_lift {K : PySem.W.Frag} {F : List SV → M SV} (hF : ∀ ns : List Int, ns.length ≤ 63 → F [.v (.lst (ns.map .int))] [] = some (.v (.bl true), [])) (vs : List V) (H : Hp) (Q : VK) (E : XK) (h : spLaw K vs H Q E) : liftSp K F vs H Q E := by
  obtain ⟨a, ns, rfl, hS, hl, hQ⟩ := h
  refine ⟨[], [.v (.lst (ns.map .int))], [], .v (.bl true), [], ⟨rfl, List.nodup_nil, fun k a c e => by cases e⟩, ?_, hF ns hl, fun v H' _ _ r => ?_⟩
  · unfold RepSs
    refine ⟨_, _, rfl, ?_, by unfold RepSs; rfl⟩
    unfold RepS Rep
    refine ⟨a, _, rfl, ?_, reps_ints ns⟩
    rcases hS with h | h
    · exact .inl ⟨List.not_mem_nil, h⟩
    · exact .inr h
  · have e : v = .bl true := by unfold RepS Rep at r; exact r
    subst e; exact hQ H'
theorem all_mk {P : Program} {w : World} {K : PySem.W.Frag} {h : Heap} {mg : Str → Option Value} {fa : Addr} (X : K.In h) (G : h.Ns mainGlobals mg) (hfa : mg "law" = some (.ref fa))
    {f_is_number : Addr} {od_is_number an_is_number : Option Addr} {sl_is_number : Array (Option Value)} {oc_is_number kV_is_number dc_is_number pm_is_number cd_is_number ct_is_number : Value}
    (a_is_number : PySem.W.nsIn K mainGlobals "is_number" = some (some (.ref f_is_number))) (l_is_number : K.lookup f_is_number = some ⟨oc_is_number, od_is_number, .func (PySem.W.fnOf "is_number" "is_number" (defArgs s_is_number) (defBody s_is_number) (defScope s_is_number) .none kV_is_number dc_is_number pm_is_number an_is_number cd_is_number ct_is_number), sl_is_number⟩) (c_is_number : PySem.W.codeIn K cd_is_number "is_number" = true) (k_is_number : PySem.W.keepIn K (.ref f_is_number) = true)
    {f_is_number_below : Addr} {od_is_number_below an_is_number_below : Option Addr} {sl_is_number_below : Array (Option Value)} {oc_is_number_below kV_is_number_below dc_is_number_below pm_is_number_below cd_is_number_below ct_is_number_below : Value}
    (a_is_number_below : PySem.W.nsIn K mainGlobals "is_number_below" = some (some (.ref f_is_number_below))) (l_is_number_below : K.lookup f_is_number_below = some ⟨oc_is_number_below, od_is_number_below, .func (PySem.W.fnOf "is_number_below" "is_number_below" (defArgs s_is_number_below) (defBody s_is_number_below) (defScope s_is_number_below) .none kV_is_number_below dc_is_number_below pm_is_number_below an_is_number_below cd_is_number_below ct_is_number_below), sl_is_number_below⟩) (c_is_number_below : PySem.W.codeIn K cd_is_number_below "is_number_below" = true) (k_is_number_below : PySem.W.keepIn K (.ref f_is_number_below) = true)
    {f_is_word : Addr} {od_is_word an_is_word : Option Addr} {sl_is_word : Array (Option Value)} {oc_is_word kV_is_word dc_is_word pm_is_word cd_is_word ct_is_word : Value}
    (a_is_word : PySem.W.nsIn K mainGlobals "is_word" = some (some (.ref f_is_word))) (l_is_word : K.lookup f_is_word = some ⟨oc_is_word, od_is_word, .func (PySem.W.fnOf "is_word" "is_word" (defArgs s_is_word) (defBody s_is_word) (defScope s_is_word) .none kV_is_word dc_is_word pm_is_word an_is_word cd_is_word ct_is_word), sl_is_word⟩) (c_is_word : PySem.W.codeIn K cd_is_word "is_word" = true) (k_is_word : PySem.W.keepIn K (.ref f_is_word) = true)
    {f_is_clause_number : Addr} {od_is_clause_number an_is_clause_number : Option Addr} {sl_is_clause_number : Array (Option Value)} {oc_is_clause_number kV_is_clause_number dc_is_clause_number pm_is_clause_number cd_is_clause_number ct_is_clause_number : Value}
    (a_is_clause_number : PySem.W.nsIn K mainGlobals "is_clause_number" = some (some (.ref f_is_clause_number))) (l_is_clause_number : K.lookup f_is_clause_number = some ⟨oc_is_clause_number, od_is_clause_number, .func (PySem.W.fnOf "is_clause_number" "is_clause_number" (defArgs s_is_clause_number) (defBody s_is_clause_number) (defScope s_is_clause_number) .none kV_is_clause_number dc_is_clause_number pm_is_clause_number an_is_clause_number cd_is_clause_number ct_is_clause_number), sl_is_clause_number⟩) (c_is_clause_number : PySem.W.codeIn K cd_is_clause_number "is_clause_number" = true) (k_is_clause_number : PySem.W.keepIn K (.ref f_is_clause_number) = true)
    {f_is_bare : Addr} {od_is_bare an_is_bare : Option Addr} {sl_is_bare : Array (Option Value)} {oc_is_bare kV_is_bare dc_is_bare pm_is_bare cd_is_bare ct_is_bare : Value}
    (a_is_bare : PySem.W.nsIn K mainGlobals "is_bare" = some (some (.ref f_is_bare))) (l_is_bare : K.lookup f_is_bare = some ⟨oc_is_bare, od_is_bare, .func (PySem.W.fnOf "is_bare" "is_bare" (defArgs s_is_bare) (defBody s_is_bare) (defScope s_is_bare) .none kV_is_bare dc_is_bare pm_is_bare an_is_bare cd_is_bare ct_is_bare), sl_is_bare⟩) (c_is_bare : PySem.W.codeIn K cd_is_bare "is_bare" = true) (k_is_bare : PySem.W.keepIn K (.ref f_is_bare) = true)
    {f_is_of_word : Addr} {od_is_of_word an_is_of_word : Option Addr} {sl_is_of_word : Array (Option Value)} {oc_is_of_word kV_is_of_word dc_is_of_word pm_is_of_word cd_is_of_word ct_is_of_word : Value}
    (a_is_of_word : PySem.W.nsIn K mainGlobals "is_of_word" = some (some (.ref f_is_of_word))) (l_is_of_word : K.lookup f_is_of_word = some ⟨oc_is_of_word, od_is_of_word, .func (PySem.W.fnOf "is_of_word" "is_of_word" (defArgs s_is_of_word) (defBody s_is_of_word) (defScope s_is_of_word) .none kV_is_of_word dc_is_of_word pm_is_of_word an_is_of_word cd_is_of_word ct_is_of_word), sl_is_of_word⟩) (c_is_of_word : PySem.W.codeIn K cd_is_of_word "is_of_word" = true) (k_is_of_word : PySem.W.keepIn K (.ref f_is_of_word) = true)
    {f_is_of_clause : Addr} {od_is_of_clause an_is_of_clause : Option Addr} {sl_is_of_clause : Array (Option Value)} {oc_is_of_clause kV_is_of_clause dc_is_of_clause pm_is_of_clause cd_is_of_clause ct_is_of_clause : Value}
    (a_is_of_clause : PySem.W.nsIn K mainGlobals "is_of_clause" = some (some (.ref f_is_of_clause))) (l_is_of_clause : K.lookup f_is_of_clause = some ⟨oc_is_of_clause, od_is_of_clause, .func (PySem.W.fnOf "is_of_clause" "is_of_clause" (defArgs s_is_of_clause) (defBody s_is_of_clause) (defScope s_is_of_clause) .none kV_is_of_clause dc_is_of_clause pm_is_of_clause an_is_of_clause cd_is_of_clause ct_is_of_clause), sl_is_of_clause⟩) (c_is_of_clause : PySem.W.codeIn K cd_is_of_clause "is_of_clause" = true) (k_is_of_clause : PySem.W.keepIn K (.ref f_is_of_clause) = true)
    {f_is_of_part : Addr} {od_is_of_part an_is_of_part : Option Addr} {sl_is_of_part : Array (Option Value)} {oc_is_of_part kV_is_of_part dc_is_of_part pm_is_of_part cd_is_of_part ct_is_of_part : Value}
    (a_is_of_part : PySem.W.nsIn K mainGlobals "is_of_part" = some (some (.ref f_is_of_part))) (l_is_of_part : K.lookup f_is_of_part = some ⟨oc_is_of_part, od_is_of_part, .func (PySem.W.fnOf "is_of_part" "is_of_part" (defArgs s_is_of_part) (defBody s_is_of_part) (defScope s_is_of_part) .none kV_is_of_part dc_is_of_part pm_is_of_part an_is_of_part cd_is_of_part ct_is_of_part), sl_is_of_part⟩) (c_is_of_part : PySem.W.codeIn K cd_is_of_part "is_of_part" = true) (k_is_of_part : PySem.W.keepIn K (.ref f_is_of_part) = true)
    {f_is_of_house : Addr} {od_is_of_house an_is_of_house : Option Addr} {sl_is_of_house : Array (Option Value)} {oc_is_of_house kV_is_of_house dc_is_of_house pm_is_of_house cd_is_of_house ct_is_of_house : Value}
    (a_is_of_house : PySem.W.nsIn K mainGlobals "is_of_house" = some (some (.ref f_is_of_house))) (l_is_of_house : K.lookup f_is_of_house = some ⟨oc_is_of_house, od_is_of_house, .func (PySem.W.fnOf "is_of_house" "is_of_house" (defArgs s_is_of_house) (defBody s_is_of_house) (defScope s_is_of_house) .none kV_is_of_house dc_is_of_house pm_is_of_house an_is_of_house cd_is_of_house ct_is_of_house), sl_is_of_house⟩) (c_is_of_house : PySem.W.codeIn K cd_is_of_house "is_of_house" = true) (k_is_of_house : PySem.W.keepIn K (.ref f_is_of_house) = true)
    {f_is_deed : Addr} {od_is_deed an_is_deed : Option Addr} {sl_is_deed : Array (Option Value)} {oc_is_deed kV_is_deed dc_is_deed pm_is_deed cd_is_deed ct_is_deed : Value}
    (a_is_deed : PySem.W.nsIn K mainGlobals "is_deed" = some (some (.ref f_is_deed))) (l_is_deed : K.lookup f_is_deed = some ⟨oc_is_deed, od_is_deed, .func (PySem.W.fnOf "is_deed" "is_deed" (defArgs s_is_deed) (defBody s_is_deed) (defScope s_is_deed) .none kV_is_deed dc_is_deed pm_is_deed an_is_deed cd_is_deed ct_is_deed), sl_is_deed⟩) (c_is_deed : PySem.W.codeIn K cd_is_deed "is_deed" = true) (k_is_deed : PySem.W.keepIn K (.ref f_is_deed) = true)
    {f__law_cell_at : Addr} {od__law_cell_at an__law_cell_at : Option Addr} {sl__law_cell_at : Array (Option Value)} {oc__law_cell_at kV__law_cell_at dc__law_cell_at pm__law_cell_at cd__law_cell_at ct__law_cell_at : Value}
    (a__law_cell_at : PySem.W.nsIn K mainGlobals "_law_cell_at" = some (some (.ref f__law_cell_at))) (l__law_cell_at : K.lookup f__law_cell_at = some ⟨oc__law_cell_at, od__law_cell_at, .func (PySem.W.fnOf "_law_cell_at" "_law_cell_at" (defArgs s_l_cell_at) (defBody s_l_cell_at) (defScope s_l_cell_at) .none kV__law_cell_at dc__law_cell_at pm__law_cell_at an__law_cell_at cd__law_cell_at ct__law_cell_at), sl__law_cell_at⟩) (c__law_cell_at : PySem.W.codeIn K cd__law_cell_at "_law_cell_at" = true) (k__law_cell_at : PySem.W.keepIn K (.ref f__law_cell_at) = true)
    {f__law_left : Addr} {od__law_left an__law_left : Option Addr} {sl__law_left : Array (Option Value)} {oc__law_left kV__law_left dc__law_left pm__law_left cd__law_left ct__law_left : Value}
    (a__law_left : PySem.W.nsIn K mainGlobals "_law_left" = some (some (.ref f__law_left))) (l__law_left : K.lookup f__law_left = some ⟨oc__law_left, od__law_left, .func (PySem.W.fnOf "_law_left" "_law_left" (defArgs s_l_left) (defBody s_l_left) (defScope s_l_left) .none kV__law_left dc__law_left pm__law_left an__law_left cd__law_left ct__law_left), sl__law_left⟩) (c__law_left : PySem.W.codeIn K cd__law_left "_law_left" = true) (k__law_left : PySem.W.keepIn K (.ref f__law_left) = true)
    {f__law_pick : Addr} {od__law_pick an__law_pick : Option Addr} {sl__law_pick : Array (Option Value)} {oc__law_pick kV__law_pick dc__law_pick pm__law_pick cd__law_pick ct__law_pick : Value}
    (a__law_pick : PySem.W.nsIn K mainGlobals "_law_pick" = some (some (.ref f__law_pick))) (l__law_pick : K.lookup f__law_pick = some ⟨oc__law_pick, od__law_pick, .func (PySem.W.fnOf "_law_pick" "_law_pick" (defArgs s_l_pick) (defBody s_l_pick) (defScope s_l_pick) .none kV__law_pick dc__law_pick pm__law_pick an__law_pick cd__law_pick ct__law_pick), sl__law_pick⟩) (c__law_pick : PySem.W.codeIn K cd__law_pick "_law_pick" = true) (k__law_pick : PySem.W.keepIn K (.ref f__law_pick) = true)
    {f__law_forms : Addr} {od__law_forms an__law_forms : Option Addr} {sl__law_forms : Array (Option Value)} {oc__law_forms kV__law_forms dc__law_forms pm__law_forms cd__law_forms ct__law_forms : Value}
    (a__law_forms : PySem.W.nsIn K mainGlobals "_law_forms" = some (some (.ref f__law_forms))) (l__law_forms : K.lookup f__law_forms = some ⟨oc__law_forms, od__law_forms, .func (PySem.W.fnOf "_law_forms" "_law_forms" (defArgs s_l_forms) (defBody s_l_forms) (defScope s_l_forms) .none kV__law_forms dc__law_forms pm__law_forms an__law_forms cd__law_forms ct__law_forms), sl__law_forms⟩) (c__law_forms : PySem.W.codeIn K cd__law_forms "_law_forms" = true) (k__law_forms : PySem.W.keepIn K (.ref f__law_forms) = true)
    {f__law_whole : Addr} {od__law_whole an__law_whole : Option Addr} {sl__law_whole : Array (Option Value)} {oc__law_whole kV__law_whole dc__law_whole pm__law_whole cd__law_whole ct__law_whole : Value}
    (a__law_whole : PySem.W.nsIn K mainGlobals "_law_whole" = some (some (.ref f__law_whole))) (l__law_whole : K.lookup f__law_whole = some ⟨oc__law_whole, od__law_whole, .func (PySem.W.fnOf "_law_whole" "_law_whole" (defArgs s_l_whole) (defBody s_l_whole) (defScope s_l_whole) .none kV__law_whole dc__law_whole pm__law_whole an__law_whole cd__law_whole ct__law_whole), sl__law_whole⟩) (c__law_whole : PySem.W.codeIn K cd__law_whole "_law_whole" = true) (k__law_whole : PySem.W.keepIn K (.ref f__law_whole) = true)
    {f__law_is_word : Addr} {od__law_is_word an__law_is_word : Option Addr} {sl__law_is_word : Array (Option Value)} {oc__law_is_word kV__law_is_word dc__law_is_word pm__law_is_word cd__law_is_word ct__law_is_word : Value}
    (a__law_is_word : PySem.W.nsIn K mainGlobals "_law_is_word" = some (some (.ref f__law_is_word))) (l__law_is_word : K.lookup f__law_is_word = some ⟨oc__law_is_word, od__law_is_word, .func (PySem.W.fnOf "_law_is_word" "_law_is_word" (defArgs s_l_is_word) (defBody s_l_is_word) (defScope s_l_is_word) .none kV__law_is_word dc__law_is_word pm__law_is_word an__law_is_word cd__law_is_word ct__law_is_word), sl__law_is_word⟩) (c__law_is_word : PySem.W.codeIn K cd__law_is_word "_law_is_word" = true) (k__law_is_word : PySem.W.keepIn K (.ref f__law_is_word) = true)
    {f__law_fits : Addr} {od__law_fits an__law_fits : Option Addr} {sl__law_fits : Array (Option Value)} {oc__law_fits kV__law_fits dc__law_fits pm__law_fits cd__law_fits ct__law_fits : Value}
    (a__law_fits : PySem.W.nsIn K mainGlobals "_law_fits" = some (some (.ref f__law_fits))) (l__law_fits : K.lookup f__law_fits = some ⟨oc__law_fits, od__law_fits, .func (PySem.W.fnOf "_law_fits" "_law_fits" (defArgs s_l_fits) (defBody s_l_fits) (defScope s_l_fits) .none kV__law_fits dc__law_fits pm__law_fits an__law_fits cd__law_fits ct__law_fits), sl__law_fits⟩) (c__law_fits : PySem.W.codeIn K cd__law_fits "_law_fits" = true) (k__law_fits : PySem.W.keepIn K (.ref f__law_fits) = true)
    {f__law_is_deed : Addr} {od__law_is_deed an__law_is_deed : Option Addr} {sl__law_is_deed : Array (Option Value)} {oc__law_is_deed kV__law_is_deed dc__law_is_deed pm__law_is_deed cd__law_is_deed ct__law_is_deed : Value}
    (a__law_is_deed : PySem.W.nsIn K mainGlobals "_law_is_deed" = some (some (.ref f__law_is_deed))) (l__law_is_deed : K.lookup f__law_is_deed = some ⟨oc__law_is_deed, od__law_is_deed, .func (PySem.W.fnOf "_law_is_deed" "_law_is_deed" (defArgs s_l_is_deed) (defBody s_l_is_deed) (defScope s_l_is_deed) .none kV__law_is_deed dc__law_is_deed pm__law_is_deed an__law_is_deed cd__law_is_deed ct__law_is_deed), sl__law_is_deed⟩) (c__law_is_deed : PySem.W.codeIn K cd__law_is_deed "_law_is_deed" = true) (k__law_is_deed : PySem.W.keepIn K (.ref f__law_is_deed) = true)
    {f__law_text : Addr} {od__law_text an__law_text : Option Addr} {sl__law_text : Array (Option Value)} {oc__law_text kV__law_text dc__law_text pm__law_text cd__law_text ct__law_text : Value}
    (a__law_text : PySem.W.nsIn K mainGlobals "_law_text" = some (some (.ref f__law_text))) (l__law_text : K.lookup f__law_text = some ⟨oc__law_text, od__law_text, .func (PySem.W.fnOf "_law_text" "_law_text" (defArgs s_l_text) (defBody s_l_text) (defScope s_l_text) .none kV__law_text dc__law_text pm__law_text an__law_text cd__law_text ct__law_text), sl__law_text⟩) (c__law_text : PySem.W.codeIn K cd__law_text "_law_text" = true) (k__law_text : PySem.W.keepIn K (.ref f__law_text) = true)
    {f__law_good : Addr} {od__law_good an__law_good : Option Addr} {sl__law_good : Array (Option Value)} {oc__law_good kV__law_good dc__law_good pm__law_good cd__law_good ct__law_good : Value}
    (a__law_good : PySem.W.nsIn K mainGlobals "_law_good" = some (some (.ref f__law_good))) (l__law_good : K.lookup f__law_good = some ⟨oc__law_good, od__law_good, .func (PySem.W.fnOf "_law_good" "_law_good" (defArgs s_l_good) (defBody s_l_good) (defScope s_l_good) .none kV__law_good dc__law_good pm__law_good an__law_good cd__law_good ct__law_good), sl__law_good⟩) (c__law_good : PySem.W.codeIn K cd__law_good "_law_good" = true) (k__law_good : PySem.W.keepIn K (.ref f__law_good) = true)
    {f__law_odd : Addr} {od__law_odd an__law_odd : Option Addr} {sl__law_odd : Array (Option Value)} {oc__law_odd kV__law_odd dc__law_odd pm__law_odd cd__law_odd ct__law_odd : Value}
    (a__law_odd : PySem.W.nsIn K mainGlobals "_law_odd" = some (some (.ref f__law_odd))) (l__law_odd : K.lookup f__law_odd = some ⟨oc__law_odd, od__law_odd, .func (PySem.W.fnOf "_law_odd" "_law_odd" (defArgs s_l_odd) (defBody s_l_odd) (defScope s_l_odd) .none kV__law_odd dc__law_odd pm__law_odd an__law_odd cd__law_odd ct__law_odd), sl__law_odd⟩) (c__law_odd : PySem.W.codeIn K cd__law_odd "_law_odd" = true) (k__law_odd : PySem.W.keepIn K (.ref f__law_odd) = true)
    {f__law_spoilt : Addr} {od__law_spoilt an__law_spoilt : Option Addr} {sl__law_spoilt : Array (Option Value)} {oc__law_spoilt kV__law_spoilt dc__law_spoilt pm__law_spoilt cd__law_spoilt ct__law_spoilt : Value}
    (a__law_spoilt : PySem.W.nsIn K mainGlobals "_law_spoilt" = some (some (.ref f__law_spoilt))) (l__law_spoilt : K.lookup f__law_spoilt = some ⟨oc__law_spoilt, od__law_spoilt, .func (PySem.W.fnOf "_law_spoilt" "_law_spoilt" (defArgs s_l_spoilt) (defBody s_l_spoilt) (defScope s_l_spoilt) .none kV__law_spoilt dc__law_spoilt pm__law_spoilt an__law_spoilt cd__law_spoilt ct__law_spoilt), sl__law_spoilt⟩) (c__law_spoilt : PySem.W.codeIn K cd__law_spoilt "_law_spoilt" = true) (k__law_spoilt : PySem.W.keepIn K (.ref f__law_spoilt) = true)
    {f__law_right : Addr} {od__law_right an__law_right : Option Addr} {sl__law_right : Array (Option Value)} {oc__law_right kV__law_right dc__law_right pm__law_right cd__law_right ct__law_right : Value}
    (a__law_right : PySem.W.nsIn K mainGlobals "_law_right" = some (some (.ref f__law_right))) (l__law_right : K.lookup f__law_right = some ⟨oc__law_right, od__law_right, .func (PySem.W.fnOf "_law_right" "_law_right" (defArgs s_l_right) (defBody s_l_right) (defScope s_l_right) .none kV__law_right dc__law_right pm__law_right an__law_right cd__law_right ct__law_right), sl__law_right⟩) (c__law_right : PySem.W.codeIn K cd__law_right "_law_right" = true) (k__law_right : PySem.W.keepIn K (.ref f__law_right) = true)
    {f_law : Addr} {od_law an_law : Option Addr} {sl_law : Array (Option Value)} {oc_law kV_law dc_law pm_law cd_law ct_law : Value}
    (a_law : PySem.W.nsIn K mainGlobals "law" = some (some (.ref f_law))) (l_law : K.lookup f_law = some ⟨oc_law, od_law, .func (PySem.W.fnOf "law" "law" (defArgs s_law) (defBody s_law) (defScope s_law) .none kV_law dc_law pm_law an_law cd_law ct_law), sl_law⟩) (c_law : PySem.W.codeIn K cd_law "law" = true) (k_law : PySem.W.keepIn K (.ref f_law) = true)
    {d_DEEDS : Addr} {es_DEEDS : Array DictEntry} {n_DEEDS : Nat} (ta_DEEDS : PySem.W.nsIn K mainGlobals "DEEDS" = some (some (.ref d_DEEDS))) (tl_DEEDS : K.lookup d_DEEDS = some ⟨.type "dict", none, .dict es_DEEDS n_DEEDS, #[]⟩) (tk_DEEDS : PySem.W.KeysLit w.params es_DEEDS.toList) (tp_DEEDS : Paired (fun (p : Str × Addr) (e : DictEntry) => Value.isStrOf p.1 e.key = true ∧ e.val = .ref p.2) (tab_DEEDS f_is_bare f_is_of_word f_is_of_part f_is_of_clause f_is_of_house) es_DEEDS.toList) (ts_DEEDS : (d_DEEDS == sysModules) = false)
    {t_JUDGE : Tok} (q_JUDGE : PySem.W.nsIn K mainGlobals "JUDGE" = some (some (.str "bell" t_JUDGE)))
    {t_LONGEST_WORD : Tok} (q_LONGEST_WORD : PySem.W.nsIn K mainGlobals "LONGEST_WORD" = some (some (.int 12 t_LONGEST_WORD)))
    {t_MOST_CLAUSES : Tok} (q_MOST_CLAUSES : PySem.W.nsIn K mainGlobals "MOST_CLAUSES" = some (some (.int 12 t_MOST_CLAUSES)))
    {t_MOST_PARTS : Tok} (q_MOST_PARTS : PySem.W.nsIn K mainGlobals "MOST_PARTS" = some (some (.int 9 t_MOST_PARTS)))
    {t_SMALL_LETTERS : Tok} (q_SMALL_LETTERS : PySem.W.nsIn K mainGlobals "SMALL_LETTERS" = some (some (.str "abcdefghijklmnopqrstuvwxyz" t_SMALL_LETTERS)))
    (z_all : PySem.W.nsIn K mainGlobals "all" = some none)
    (z_bool : PySem.W.nsIn K mainGlobals "bool" = some none)
    (z_int : PySem.W.nsIn K mainGlobals "int" = some none)
    (z_isinstance : PySem.W.nsIn K mainGlobals "isinstance" = some none)
    (z_len : PySem.W.nsIn K mainGlobals "len" = some none)
    (z_list : PySem.W.nsIn K mainGlobals "list" = some none)
    (z_max : PySem.W.nsIn K mainGlobals "max" = some none)
    (z_range : PySem.W.nsIn K mainGlobals "range" = some none)
    (z_str : PySem.W.nsIn K mainGlobals "str" = some none)
    (z_tuple : PySem.W.nsIn K mainGlobals "tuple" = some none)
    (z_zip : PySem.W.nsIn K mainGlobals "zip" = some none)
    : ∃ fd : FuncData, (∀ (s : Shared) (v : Value), BindsTo s fd ⟨[v], []⟩ [("_law_script", v)]) ∧ ∀ base : Heap, K.In base → base.Ns mainGlobals mg → FnOk P w K mg base CX0 7 fa fd ["_law_script"] (spLaw K) := by
  have e := hfa.symm.trans (PySem.W.mg_of X G a_law); cases e
  have T : Txt mg := ⟨⟨_, PySem.W.mg_of X G q_JUDGE⟩, ⟨_, PySem.W.mg_of X G q_LONGEST_WORD⟩, ⟨_, PySem.W.mg_of X G q_MOST_CLAUSES⟩, ⟨_, PySem.W.mg_of X G q_MOST_PARTS⟩, ⟨_, PySem.W.mg_of X G q_SMALL_LETTERS⟩, PySem.W.mg_none_of X G z_all, PySem.W.mg_none_of X G z_bool, PySem.W.mg_none_of X G z_int, PySem.W.mg_none_of X G z_isinstance, PySem.W.mg_none_of X G z_len, PySem.W.mg_none_of X G z_list, PySem.W.mg_none_of X G z_max, PySem.W.mg_none_of X G z_range, PySem.W.mg_none_of X G z_str, PySem.W.mg_none_of X G z_tuple, PySem.W.mg_none_of X G z_zip⟩
  have N_is_number := fun_mk (st := s_is_number) l_is_number c_is_number k_is_number
  have bd_is_number := N_is_number.binds (ps := ["thing", "least"]) fun _ _ _ _ _ _ us hl => match us, hl with | [_, _], _ => rfl
  have N_is_number_below := fun_mk (st := s_is_number_below) l_is_number_below c_is_number_below k_is_number_below
  have bd_is_number_below := N_is_number_below.binds (ps := ["thing", "bound"]) fun _ _ _ _ _ _ us hl => match us, hl with | [_, _], _ => rfl
  have N_is_word := fun_mk (st := s_is_word) l_is_word c_is_word k_is_word
  have bd_is_word := N_is_word.binds (ps := ["thing"]) fun _ _ _ _ _ _ us hl => match us, hl with | [_], _ => rfl
  have N_is_clause_number := fun_mk (st := s_is_clause_number) l_is_clause_number c_is_clause_number k_is_clause_number
  have bd_is_clause_number := N_is_clause_number.binds (ps := ["thing"]) fun _ _ _ _ _ _ us hl => match us, hl with | [_], _ => rfl
  have N_is_bare := fun_mk (st := s_is_bare) l_is_bare c_is_bare k_is_bare
  have bd_is_bare := N_is_bare.binds (ps := ["parts"]) fun _ _ _ _ _ _ us hl => match us, hl with | [_], _ => rfl
  have N_is_of_word := fun_mk (st := s_is_of_word) l_is_of_word c_is_of_word k_is_of_word
  have bd_is_of_word := N_is_of_word.binds (ps := ["parts"]) fun _ _ _ _ _ _ us hl => match us, hl with | [_], _ => rfl
  have N_is_of_clause := fun_mk (st := s_is_of_clause) l_is_of_clause c_is_of_clause k_is_of_clause
  have bd_is_of_clause := N_is_of_clause.binds (ps := ["parts"]) fun _ _ _ _ _ _ us hl => match us, hl with | [_], _ => rfl
  have N_is_of_part := fun_mk (st := s_is_of_part) l_is_of_part c_is_of_part k_is_of_part
  have bd_is_of_part := N_is_of_part.binds (ps := ["parts"]) fun _ _ _ _ _ _ us hl => match us, hl with | [_], _ => rfl
  have N_is_of_house := fun_mk (st := s_is_of_house) l_is_of_house c_is_of_house k_is_of_house
  have bd_is_of_house := N_is_of_house.binds (ps := ["parts"]) fun _ _ _ _ _ _ us hl => match us, hl with | [_], _ => rfl
  have N_is_deed := fun_mk (st := s_is_deed) l_is_deed c_is_deed k_is_deed
  have bd_is_deed := N_is_deed.binds (ps := ["thing"]) fun _ _ _ _ _ _ us hl => match us, hl with | [_], _ => rfl
  have N__law_cell_at := fun_mk (st := s_l_cell_at) l__law_cell_at c__law_cell_at k__law_cell_at
  have bd__law_cell_at := N__law_cell_at.binds (ps := ["_law_script", "_law_k"]) fun _ _ _ _ _ _ us hl => match us, hl with | [_, _], _ => rfl
  have N__law_left := fun_mk (st := s_l_left) l__law_left c__law_left k__law_left
  have bd__law_left := N__law_left.binds (ps := ["_law_script", "_law_k"]) fun _ _ _ _ _ _ us hl => match us, hl with | [_, _], _ => rfl
  have N__law_pick := fun_mk (st := s_l_pick) l__law_pick c__law_pick k__law_pick
  have bd__law_pick := N__law_pick.binds (ps := ["_law_left_here", "_law_many"]) fun _ _ _ _ _ _ us hl => match us, hl with | [_, _], _ => rfl
  have N__law_forms := fun_mk (st := s_l_forms) l__law_forms c__law_forms k__law_forms
  have bd__law_forms := N__law_forms.binds (ps := []) fun _ _ _ _ _ _ us hl => match us, hl with | [], _ => rfl
  have N__law_whole := fun_mk (st := s_l_whole) l__law_whole c__law_whole k__law_whole
  have bd__law_whole := N__law_whole.binds (ps := ["_law_thing", "_law_least", "_law_most"]) fun _ _ _ _ _ _ us hl => match us, hl with | [_, _, _], _ => rfl
  have N__law_is_word := fun_mk (st := s_l_is_word) l__law_is_word c__law_is_word k__law_is_word
  have bd__law_is_word := N__law_is_word.binds (ps := ["_law_thing"]) fun _ _ _ _ _ _ us hl => match us, hl with | [_], _ => rfl
  have N__law_fits := fun_mk (st := s_l_fits) l__law_fits c__law_fits k__law_fits
  have bd__law_fits := N__law_fits.binds (ps := ["_law_sign", "_law_thing"]) fun _ _ _ _ _ _ us hl => match us, hl with | [_, _], _ => rfl
  have N__law_is_deed := fun_mk (st := s_l_is_deed) l__law_is_deed c__law_is_deed k__law_is_deed
  have bd__law_is_deed := N__law_is_deed.binds (ps := ["_law_thing"]) fun _ _ _ _ _ _ us hl => match us, hl with | [_], _ => rfl
  have N__law_text := fun_mk (st := s_l_text) l__law_text c__law_text k__law_text
  have bd__law_text := N__law_text.binds (ps := ["_law_left_here"]) fun _ _ _ _ _ _ us hl => match us, hl with | [_], _ => rfl
  have N__law_good := fun_mk (st := s_l_good) l__law_good c__law_good k__law_good
  have bd__law_good := N__law_good.binds (ps := ["_law_left_here"]) fun _ _ _ _ _ _ us hl => match us, hl with | [_], _ => rfl
  have N__law_odd := fun_mk (st := s_l_odd) l__law_odd c__law_odd k__law_odd
  have bd__law_odd := N__law_odd.binds (ps := ["_law_left_here"]) fun _ _ _ _ _ _ us hl => match us, hl with | [_], _ => rfl
  have N__law_spoilt := fun_mk (st := s_l_spoilt) l__law_spoilt c__law_spoilt k__law_spoilt
  have bd__law_spoilt := N__law_spoilt.binds (ps := ["_law_left_here", "_law_deed"]) fun _ _ _ _ _ _ us hl => match us, hl with | [_, _], _ => rfl
  have N__law_right := fun_mk (st := s_l_right) l__law_right c__law_right k__law_right
  have bd__law_right := N__law_right.binds (ps := ["_law_thing"]) fun _ _ _ _ _ _ us hl => match us, hl with | [_], _ => rfl
  have N_law := fun_mk (st := s_law) l_law c_law k_law
  have TD_DEEDS : TopD K w d_DEEDS (tab_DEEDS f_is_bare f_is_of_word f_is_of_part f_is_of_clause f_is_of_house) := ⟨⟨es_DEEDS, n_DEEDS, tl_DEEDS, tk_DEEDS, tp_DEEDS⟩, ts_DEEDS⟩
  refine ⟨PySem.W.fnOf "law" "law" (defArgs s_law) (defBody s_law) (defScope s_law) .none kV_law dc_law pm_law an_law cd_law ct_law, fun s v => .of_eq rfl, fun base _ _ => ?_⟩
  have E_is_number := ok_is_number (P := P) (w := w) (base := base) N_is_number T 
  have E_is_number_below := ok_is_number_below (P := P) (w := w) (base := base) N_is_number_below T E_is_number (PySem.W.mg_of X G a_is_number) k_is_number bd_is_number
  have E_is_word := ok_is_word (P := P) (w := w) (base := base) N_is_word T 
  have E_is_clause_number := ok_is_clause_number (P := P) (w := w) (base := base) N_is_clause_number T E_is_number_below (PySem.W.mg_of X G a_is_number_below) k_is_number_below bd_is_number_below
  have E_is_bare := ok_is_bare (P := P) (w := w) (base := base) N_is_bare T 
  have E_is_of_word := ok_is_of_word (P := P) (w := w) (base := base) N_is_of_word T E_is_word (PySem.W.mg_of X G a_is_word) k_is_word bd_is_word
  have E_is_of_clause := ok_is_of_clause (P := P) (w := w) (base := base) N_is_of_clause T E_is_clause_number (PySem.W.mg_of X G a_is_clause_number) k_is_clause_number bd_is_clause_number
  have E_is_of_part := ok_is_of_part (P := P) (w := w) (base := base) N_is_of_part T E_is_clause_number (PySem.W.mg_of X G a_is_clause_number) k_is_clause_number bd_is_clause_number E_is_number_below (PySem.W.mg_of X G a_is_number_below) k_is_number_below bd_is_number_below
  have E_is_of_house := ok_is_of_house (P := P) (w := w) (base := base) N_is_of_house T E_is_clause_number (PySem.W.mg_of X G a_is_clause_number) k_is_clause_number bd_is_clause_number E_is_word (PySem.W.mg_of X G a_is_word) k_is_word bd_is_word
  have E_is_deed := ok_is_deed (P := P) (w := w) (base := base) N_is_deed T (PySem.W.mg_of X G ta_DEEDS) TD_DEEDS E_is_bare (PySem.W.mg_of X G a_is_bare) k_is_bare bd_is_bare E_is_of_word (PySem.W.mg_of X G a_is_of_word) k_is_of_word bd_is_of_word E_is_of_part (PySem.W.mg_of X G a_is_of_part) k_is_of_part bd_is_of_part E_is_of_clause (PySem.W.mg_of X G a_is_of_clause) k_is_of_clause bd_is_of_clause E_is_of_house (PySem.W.mg_of X G a_is_of_house) k_is_of_house bd_is_of_house
  have E__law_cell_at := ok_l_cell_at (P := P) (w := w) (base := base) N__law_cell_at T 
  have E__law_left := ok_l_left (P := P) (w := w) (base := base) N__law_left T E__law_cell_at (PySem.W.mg_of X G a__law_cell_at) k__law_cell_at bd__law_cell_at
  have EF__law_left := okF_l_left (P := P) (w := w) (base := base) N__law_left T E__law_cell_at (PySem.W.mg_of X G a__law_cell_at) k__law_cell_at bd__law_cell_at
  have E__law_pick := ok_l_pick (P := P) (w := w) (base := base) N__law_pick T 
  have E__law_forms := ok_l_forms (P := P) (w := w) (base := base) N__law_forms T 
  have E__law_whole := ok_l_whole (P := P) (w := w) (base := base) N__law_whole T 
  have E__law_is_word := ok_l_is_word (P := P) (w := w) (base := base) N__law_is_word T 
  have E__law_fits := ok_l_fits (P := P) (w := w) (base := base) N__law_fits T E__law_is_word (PySem.W.mg_of X G a__law_is_word) k__law_is_word bd__law_is_word E__law_whole (PySem.W.mg_of X G a__law_whole) k__law_whole bd__law_whole
  have E__law_is_deed := ok_l_is_deed (P := P) (w := w) (base := base) N__law_is_deed T E__law_forms (PySem.W.mg_of X G a__law_forms) k__law_forms bd__law_forms E__law_fits (PySem.W.mg_of X G a__law_fits) k__law_fits bd__law_fits
  have E__law_text := ok_l_text (P := P) (w := w) (base := base) N__law_text T E__law_pick (PySem.W.mg_of X G a__law_pick) k__law_pick bd__law_pick
  have E__law_good := ok_l_good (P := P) (w := w) (base := base) N__law_good T E__law_pick (PySem.W.mg_of X G a__law_pick) k__law_pick bd__law_pick E__law_forms (PySem.W.mg_of X G a__law_forms) k__law_forms bd__law_forms E__law_text (PySem.W.mg_of X G a__law_text) k__law_text bd__law_text
  have E__law_odd := ok_l_odd (P := P) (w := w) (base := base) N__law_odd T E__law_pick (PySem.W.mg_of X G a__law_pick) k__law_pick bd__law_pick
  have E__law_spoilt := ok_l_spoilt (P := P) (w := w) (base := base) N__law_spoilt T E__law_pick (PySem.W.mg_of X G a__law_pick) k__law_pick bd__law_pick E__law_odd (PySem.W.mg_of X G a__law_odd) k__law_odd bd__law_odd
  have E__law_right := ok_l_right (P := P) (w := w) (base := base) N__law_right T E_is_deed (PySem.W.mg_of X G a_is_deed) k_is_deed bd_is_deed E__law_is_deed (PySem.W.mg_of X G a__law_is_deed) k__law_is_deed bd__law_is_deed
  have E_law := ok_law (P := P) (w := w) (base := base) N_law T E__law_right (PySem.W.mg_of X G a__law_right) k__law_right bd__law_right EF__law_left (PySem.W.mg_of X G a__law_left) k__law_left bd__law_left E__law_good (PySem.W.mg_of X G a__law_good) k__law_good bd__law_good E__law_odd (PySem.W.mg_of X G a__law_odd) k__law_odd bd__law_odd E__law_spoilt (PySem.W.mg_of X G a__law_spoilt) k__law_spoilt bd__law_spoilt
  exact E_law.imp (spLaw_lift fun ns hl => law_pure ⟨fun_ne N_is_of_word N_is_bare (by decide), fun_ne N_is_of_part N_is_bare (by decide), fun_ne N_is_of_part N_is_of_word (by decide), fun_ne N_is_of_clause N_is_bare (by decide), fun_ne N_is_of_clause N_is_of_word (by decide), fun_ne N_is_of_clause N_is_of_part (by decide), fun_ne N_is_of_house N_is_bare (by decide), fun_ne N_is_of_house N_is_of_word (by decide), fun_ne N_is_of_house N_is_of_part (by decide), fun_ne N_is_of_house N_is_of_clause (by decide)⟩ ns hl)
theorem walk {l : PySem.W.OpenLaw} {q : Program} {loose : List Str} {XP : (Str → Option Value) → Heap → Prop} {YP : World → Heap → Prop} {d : DefRec} {K : Params → PySem.W.Frag} (hn : l.most = some 63) (hdf : d.params.defaults = [])
    (hY : ∀ (w : World) (h : Heap), YP w h → (K w.params).In h)
    (F : ∀ (w : World) (mg : Str → Option Value) (fa : Addr) (h : Heap), (K w.params).In h → h.Ns mainGlobals mg → mg d.name = some (.ref fa) →
      ∃ fd : FuncData, (∀ (s : Shared) (u : Value), BindsTo s fd ⟨[u], []⟩ [("_law_script", u)]) ∧ ∀ base : Heap, (K w.params).In base → base.Ns mainGlobals mg → FnOk l.prog w (K w.params) mg base CX0 7 fa fd ["_law_script"] (spLaw (K w.params))) :
    PySem.W.WalkO q loose XP YP l.row.toRowW d [] (fun f vs => PySem.call f vs) :=
  L2.walk_of (n := 63) (k := 7) (x := "_law_script") (CX := fun _ => CX0) (sp := fun w => spLaw (K w.params)) hn (by decide) hdf ⟨rfl, by decide, by decide⟩ hY F (fun _ _ a ns hl _ hS => ⟨a, ns, rfl, hS, hl, fun _ => rfl⟩) fun _ _ _ _ _ z => z
end K12
open PySem PySem.W PyProof.Rows
set_option maxRecDepth 100000 in
set_option maxHeartbeats 0 in
theorem PySem.Challenge.cw_holdword_k12_deeds_holds : PySem.Challenge.rw_holdword_k12_deeds.Holds := by
  w_on; o_law; k_head; (case hw => w_witness2)
  k_fill
  refine K12.walk (l := PySem.Challenge.rw_holdword_k12_deeds) rfl rfl (fun w h Y => PySem.W.kIn_of Y) ?F
  case F =>
    intro w mg fa h KX G hmg
    refine' K12.all_mk KX G hmg ?a_is_number ?l_is_number ?c_is_number ?k_is_number ?a_is_number_below ?l_is_number_below ?c_is_number_below ?k_is_number_below ?a_is_word ?l_is_word ?c_is_word ?k_is_word ?a_is_clause_number ?l_is_clause_number ?c_is_clause_number ?k_is_clause_number ?a_is_bare ?l_is_bare ?c_is_bare ?k_is_bare ?a_is_of_word ?l_is_of_word ?c_is_of_word ?k_is_of_word ?a_is_of_clause ?l_is_of_clause ?c_is_of_clause ?k_is_of_clause ?a_is_of_part ?l_is_of_part ?c_is_of_part ?k_is_of_part ?a_is_of_house ?l_is_of_house ?c_is_of_house ?k_is_of_house ?a_is_deed ?l_is_deed ?c_is_deed ?k_is_deed ?a__law_cell_at ?l__law_cell_at ?c__law_cell_at ?k__law_cell_at ?a__law_left ?l__law_left ?c__law_left ?k__law_left ?a__law_pick ?l__law_pick ?c__law_pick ?k__law_pick ?a__law_forms ?l__law_forms ?c__law_forms ?k__law_forms ?a__law_whole ?l__law_whole ?c__law_whole ?k__law_whole ?a__law_is_word ?l__law_is_word ?c__law_is_word ?k__law_is_word ?a__law_fits ?l__law_fits ?c__law_fits ?k__law_fits ?a__law_is_deed ?l__law_is_deed ?c__law_is_deed ?k__law_is_deed ?a__law_text ?l__law_text ?c__law_text ?k__law_text ?a__law_good ?l__law_good ?c__law_good ?k__law_good ?a__law_odd ?l__law_odd ?c__law_odd ?k__law_odd ?a__law_spoilt ?l__law_spoilt ?c__law_spoilt ?k__law_spoilt ?a__law_right ?l__law_right ?c__law_right ?k__law_right ?a_law ?l_law ?c_law ?k_law ?ta_DEEDS ?tl_DEEDS ?tk_DEEDS ?tp_DEEDS ?ts_DEEDS ?q_JUDGE ?q_LONGEST_WORD ?q_MOST_CLAUSES ?q_MOST_PARTS ?q_SMALL_LETTERS ?z_all ?z_bool ?z_int ?z_isinstance ?z_len ?z_list ?z_max ?z_range ?z_str ?z_tuple ?z_zip
    (case a_is_number => k_is); (case l_is_number => k_is); (case c_is_number => k_is); (case k_is_number => k_is); (case a_is_number_below => k_is); (case l_is_number_below => k_is)
    (case c_is_number_below => k_is); (case k_is_number_below => k_is); (case a_is_word => k_is); (case l_is_word => k_is); (case c_is_word => k_is); (case k_is_word => k_is)
    (case a_is_clause_number => k_is); (case l_is_clause_number => k_is); (case c_is_clause_number => k_is); (case k_is_clause_number => k_is); (case a_is_bare => k_is); (case l_is_bare => k_is)
    (case c_is_bare => k_is); (case k_is_bare => k_is); (case a_is_of_word => k_is); (case l_is_of_word => k_is); (case c_is_of_word => k_is); (case k_is_of_word => k_is)
    (case a_is_of_clause => k_is); (case l_is_of_clause => k_is); (case c_is_of_clause => k_is); (case k_is_of_clause => k_is); (case a_is_of_part => k_is); (case l_is_of_part => k_is)
    (case c_is_of_part => k_is); (case k_is_of_part => k_is); (case a_is_of_house => k_is); (case l_is_of_house => k_is); (case c_is_of_house => k_is); (case k_is_of_house => k_is)
    (case a_is_deed => k_is); (case l_is_deed => k_is); (case c_is_deed => k_is); (case k_is_deed => k_is); (case a__law_cell_at => k_is); (case l__law_cell_at => k_is)
    (case c__law_cell_at => k_is); (case k__law_cell_at => k_is); (case a__law_left => k_is); (case l__law_left => k_is); (case c__law_left => k_is); (case k__law_left => k_is)
    (case a__law_pick => k_is); (case l__law_pick => k_is); (case c__law_pick => k_is); (case k__law_pick => k_is); (case a__law_forms => k_is); (case l__law_forms => k_is)
    (case c__law_forms => k_is); (case k__law_forms => k_is); (case a__law_whole => k_is); (case l__law_whole => k_is); (case c__law_whole => k_is); (case k__law_whole => k_is)
    (case a__law_is_word => k_is); (case l__law_is_word => k_is); (case c__law_is_word => k_is); (case k__law_is_word => k_is); (case a__law_fits => k_is); (case l__law_fits => k_is)
    (case c__law_fits => k_is); (case k__law_fits => k_is); (case a__law_is_deed => k_is); (case l__law_is_deed => k_is); (case c__law_is_deed => k_is); (case k__law_is_deed => k_is)
    (case a__law_text => k_is); (case l__law_text => k_is); (case c__law_text => k_is); (case k__law_text => k_is); (case a__law_good => k_is); (case l__law_good => k_is)
    (case c__law_good => k_is); (case k__law_good => k_is); (case a__law_odd => k_is); (case l__law_odd => k_is); (case c__law_odd => k_is); (case k__law_odd => k_is)
    (case a__law_spoilt => k_is); (case l__law_spoilt => k_is); (case c__law_spoilt => k_is); (case k__law_spoilt => k_is); (case a__law_right => k_is); (case l__law_right => k_is)
    (case c__law_right => k_is); (case k__law_right => k_is); (case a_law => k_is); (case l_law => k_is); (case c_law => k_is); (case k_law => k_is)
    (case ta_DEEDS => k_is); (case tl_DEEDS => k_is); (case tk_DEEDS => k_keys); (case tp_DEEDS => repeat (first | exact Paired.nil | refine Paired.cons ⟨rfl, rfl⟩ ?_)); (case ts_DEEDS => decide); (case q_JUDGE => k_is)
    (case q_LONGEST_WORD => k_is); (case q_MOST_CLAUSES => k_is); (case q_MOST_PARTS => k_is); (case q_SMALL_LETTERS => k_is); (case z_all => k_is); (case z_bool => k_is)
    (case z_int => k_is); (case z_isinstance => k_is); (case z_len => k_is); (case z_list => k_is); (case z_max => k_is); (case z_range => k_is)
    (case z_str => k_is); (case z_tuple => k_is); (case z_zip => k_is)

