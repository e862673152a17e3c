import PyProof.Rows.All
import Wide.All
import OpenK.AllK
import Wide.FinOn
import HandS.ForMost
import HandS.Walk
import KE.KDictCopyH
import HandS.Strs
import HandS.IsInst
import HandS.SortInts
import HandS.Wide
import HandS.More
import PyProof.ReprRoads
import PyProof.ReprLen
import PyProof.Rows.RegStrFacts
import Flt.Len
import PySem.Challenge.RW_insertionorders_k02_trees_built
set_option Elab.async false
set_option linter.all false
set_option maxRecDepth 100000
set_option maxHeartbeats 2000000
/-! The mathematics of the tree that insertions build: places, walks, parents. Plain Lean. -/
namespace BstM
abbrev Place := Option Int × Bool
/-- x lies strictly between a and b -/
def btw (a b x : Int) : Prop := (a < x ∧ x < b) ∨ (b < x ∧ x < a)
instance (a b x : Int) : Decidable (btw a b x) := by unfold btw; infer_instance
/-- the place at which the key k would be inserted; the list holds the LAST inserted key first -/
def placeR : List Int → Int → Place
  | [], _ => (none, false)
  | x :: r, k => if placeR r k = placeR r x then (some x, decide (k > x)) else placeR r k
theorem placeR_mem : ∀ (r : List Int) (k m : Int), (placeR r k).1 = some m → m ∈ r
  | [], _, _, h => by simp [placeR] at h
  | x :: r, k, m, h => by
    unfold placeR at h
    split at h
    · simp only [Option.some.injEq] at h; subst h; exact List.mem_cons_self
    · exact List.mem_cons_of_mem _ (placeR_mem r k m h)
/-- two new keys have one place exactly if no key lies between them -/
theorem placeR_eq_iff : ∀ (r : List Int), r.Nodup → ∀ a b : Int, a ∉ r → b ∉ r → (placeR r a = placeR r b ↔ ∀ y ∈ r, ¬ btw a b y)
  | [], _, a, b, _, _ => by simp [placeR]
  | x :: r, hn, a, b, ha, hb => by
    rw [List.nodup_cons] at hn
    have hax : a ≠ x := fun e => ha (e ▸ List.mem_cons_self)
    have hbx : b ≠ x := fun e => hb (e ▸ List.mem_cons_self)
    have har : a ∉ r := fun e => ha (List.mem_cons_of_mem _ e)
    have hbr : b ∉ r := fun e => hb (List.mem_cons_of_mem _ e)
    have iab := placeR_eq_iff r hn.2 a b har hbr
    have iax := placeR_eq_iff r hn.2 a x har hn.1
    have ibx := placeR_eq_iff r hn.2 b x hbr hn.1
    have nx : ∀ k, (placeR r k).1 ≠ some x := fun k e => hn.1 (placeR_mem r k x e)
    unfold placeR
    by_cases e1 : placeR r a = placeR r x
    · by_cases e2 : placeR r b = placeR r x
      · rw [if_pos e1, if_pos e2]
        have h3 := iab.mp (e1.trans e2.symm)
        constructor
        · intro h y hy
          rcases List.mem_cons.mp hy with rfl | hy
          · simp only [Prod.mk.injEq, true_and, decide_eq_decide] at h
            unfold btw; omega
          · exact h3 y hy
        · intro h
          have h4 := h x List.mem_cons_self
          unfold btw at h4
          simp only [Prod.mk.injEq, true_and, decide_eq_decide]
          omega
      · rw [if_pos e1, if_neg e2]
        constructor
        · intro h; exact absurd (congrArg Prod.fst h).symm (nx b)
        · intro h; exact absurd (((iab.mpr fun y hy => h y (List.mem_cons_of_mem _ hy)).symm).trans e1) e2
    · by_cases e2 : placeR r b = placeR r x
      · rw [if_neg e1, if_pos e2]
        constructor
        · intro h; exact absurd (congrArg Prod.fst h) (nx a)
        · intro h; exact absurd ((iab.mpr fun y hy => h y (List.mem_cons_of_mem _ hy)).trans e2) e1
      · rw [if_neg e1, if_neg e2]
        rw [iab]
        constructor
        · intro h y hy
          rcases List.mem_cons.mp hy with rfl | hy
          · intro hb'
            refine e1 (iax.mpr fun z hz hb2 => h z hz ?_)
            unfold btw at *; omega
          · exact h y hy
        · intro h y hy; exact h y (List.mem_cons_of_mem _ hy)
/-- nothing of the list lies between k and o -/
def clear (r : List Int) (k o : Int) : Bool := r.all fun y => !decide (btw k o y)
theorem clear_iff {r : List Int} {k o : Int} : clear r k o = true ↔ ∀ y ∈ r, ¬ btw k o y := by
  simp [clear]
/-- what the law's inner loop leaves: the last of the keys (in the order of insertion) that sees k -/
def lastClear (all : List Int) (k : Int) (l : List Int) : Option Int := l.foldl (fun p o => if clear all k o then some o else p) none
theorem lastClear_snoc (all : List Int) (k x : Int) (l : List Int) : lastClear all k (l ++ [x]) = if clear all k x then some x else lastClear all k l := by
  unfold lastClear; rw [List.foldl_append]; rfl
theorem lastClear_congr {a b : List Int} {k : Int} {l : List Int} (h : ∀ o ∈ l, clear a k o = clear b k o) : lastClear a k l = lastClear b k l := by
  unfold lastClear
  suffices H : ∀ (l : List Int) (p : Option Int), (∀ o ∈ l, clear a k o = clear b k o) → l.foldl (fun p o => if clear a k o then some o else p) p = l.foldl (fun p o => if clear b k o then some o else p) p from H l none h
  intro l
  induction l with
  | nil => intro p _; rfl
  | cons x l ih =>
    intro p h
    rw [List.foldl_cons, List.foldl_cons, h x List.mem_cons_self]
    exact ih _ fun o ho => h o (List.mem_cons_of_mem _ ho)
/-- the law's parent is the walk's parent -/
theorem lastClear_place : ∀ (r : List Int), r.Nodup → ∀ k : Int, k ∉ r → lastClear r.reverse k r.reverse = (placeR r k).1
  | [], _, _, _ => rfl
  | x :: r, hn, k, hk => by
    rw [List.nodup_cons] at hn
    have hkx : k ≠ x := fun e => hk (e ▸ List.mem_cons_self)
    have hkr : k ∉ r := fun e => hk (List.mem_cons_of_mem _ e)
    have ih := lastClear_place r hn.2 k hkr
    have ikx := placeR_eq_iff r hn.2 k x hkr hn.1
    rw [List.reverse_cons, lastClear_snoc]
    have hc : clear (r.reverse ++ [x]) k x = true ↔ placeR r k = placeR r x := by
      rw [clear_iff, ikx]
      constructor
      · intro h y hy; exact h y (List.mem_append_left _ (List.mem_reverse.mpr hy))
      · intro h y hy
        rcases List.mem_append.mp hy with hy | hy
        · exact h y (List.mem_reverse.mp hy)
        · rw [List.mem_singleton] at hy; subst hy; unfold btw; omega
    unfold placeR
    by_cases e : placeR r k = placeR r x
    · rw [if_pos (hc.mpr e), if_pos e]
    · rw [if_neg (fun z => e (hc.mp z)), if_neg e, ← ih]
      refine lastClear_congr fun o ho => ?_
      have hor : o ∈ r := List.mem_reverse.mp ho
      rw [Bool.eq_iff_iff, clear_iff, clear_iff]
      constructor
      · intro h y hy; exact h y (List.mem_append_left _ hy)
      · intro h y hy
        rcases List.mem_append.mp hy with hy | hy
        · exact h y hy
        · rw [List.mem_singleton] at hy; subst hy
          intro hb
          apply e
          rw [ikx]
          intro z hz hb2
          refine h z (List.mem_reverse.mpr hz) ?_
          unfold btw at *; omega
/-- what the dict of places holds, the last inserted key first in the list -/
def takenR : List Int → Place → Option Int
  | [], _ => none
  | x :: r, p => if p = placeR r x then some x else takenR r p
theorem takenR_mem : ∀ (r : List Int) (p : Place) (m : Int), takenR r p = some m → m ∈ r
  | [], _, _, h => by simp [takenR] at h
  | x :: r, p, m, h => by
    unfold takenR at h
    split at h
    · simp only [Option.some.injEq] at h; subst h; exact List.mem_cons_self
    · exact List.mem_cons_of_mem _ (takenR_mem r p m h)
/-- a place under x is free if x has not been inserted -/
theorem takenR_new : ∀ (r : List Int) (x : Int) (b : Bool), x ∉ r → takenR r (some x, b) = none
  | [], _, _, _ => rfl
  | y :: r, x, b, h => by
    unfold takenR
    have hr : x ∉ r := fun e => h (List.mem_cons_of_mem _ e)
    rw [if_neg ?_]
    · exact takenR_new r x b hr
    · intro e
      exact hr (placeR_mem r y x (congrArg Prod.fst e).symm)
/-- one step of a search for k from the place p; n steps -/
def stepR (r : List Int) (k : Int) (p : Place) : Place := match takenR r p with
  | some m => (some m, decide (k > m))
  | none => p
def stepsR (r : List Int) (k : Int) : Nat → Place
  | 0 => (none, false)
  | n + 1 => stepR r k (stepsR r k n)
/-- the search ends at the place: there is a number of steps n, all before it are taken, the place is free -/
theorem search_ends : ∀ (r : List Int), r.Nodup → ∀ k : Int, k ∉ r →
    ∃ n, n ≤ r.length ∧ stepsR r k n = placeR r k ∧ takenR r (placeR r k) = none ∧ ∀ i, i < n → (takenR r (stepsR r k i)).isSome = true
  | [], _, k, _ => ⟨0, Nat.le_refl _, rfl, rfl, fun i h => absurd h (Nat.not_lt_zero _)⟩
  | x :: r, hn, k, hk => by
    rw [List.nodup_cons] at hn
    have hkx : k ≠ x := fun e => hk (e ▸ List.mem_cons_self)
    have hkr : k ∉ r := fun e => hk (List.mem_cons_of_mem _ e)
    obtain ⟨n, hl, h1, h2, h3⟩ := search_ends r hn.2 k hkr
    obtain ⟨m, _, g1, g2, g3⟩ := search_ends r hn.2 x hn.1
    -- the places on the way are taken ones, so not x's own
    have nx : ∀ i, i < n → stepsR r k i ≠ placeR r x := fun i hi e => by
      have := h3 i hi
      rw [e, g2] at this
      exact nomatch this
    have same : ∀ i, i ≤ n → stepsR (x :: r) k i = stepsR r k i := by
      intro i
      induction i with
      | zero => intro _; rfl
      | succ i ih =>
        intro hi
        have e := ih (Nat.le_of_succ_le hi)
        show stepR (x :: r) k (stepsR (x :: r) k i) = stepR r k (stepsR r k i)
        rw [e]
        unfold stepR
        have : takenR (x :: r) (stepsR r k i) = takenR r (stepsR r k i) := by
          show (if stepsR r k i = placeR r x then some x else takenR r (stepsR r k i)) = _
          rw [if_neg (nx i hi)]
        rw [this]
    have tk : ∀ i, i < n → (takenR (x :: r) (stepsR (x :: r) k i)).isSome = true := fun i hi => by
      rw [same i (Nat.le_of_lt hi)]
      show (if stepsR r k i = placeR r x then some x else takenR r (stepsR r k i)).isSome = true
      rw [if_neg (nx i hi)]
      exact h3 i hi
    by_cases e : placeR r k = placeR r x
    · have ep : placeR (x :: r) k = (some x, decide (k > x)) := by
        show (if placeR r k = placeR r x then (some x, decide (k > x)) else placeR r k) = _
        rw [if_pos e]
      have et : takenR (x :: r) (stepsR (x :: r) k n) = some x := by
        rw [same n (Nat.le_refl _), h1]
        show (if placeR r k = placeR r x then some x else takenR r (placeR r k)) = some x
        rw [if_pos e]
      refine ⟨n + 1, Nat.succ_le_succ hl, ?_, ?_, fun i hi => ?_⟩
      · rw [ep]
        show stepR (x :: r) k (stepsR (x :: r) k n) = _
        unfold stepR
        rw [et]
      · rw [ep]
        show (if (some x, decide (k > x)) = placeR r x then some x else takenR r (some x, decide (k > x))) = none
        rw [if_neg (fun z => hn.1 (placeR_mem r x x (congrArg Prod.fst z).symm))]
        exact takenR_new r x _ hn.1
      · by_cases hi' : i < n
        · exact tk i hi'
        · have : i = n := by omega
          subst this
          rw [et]; rfl
    · have ep : placeR (x :: r) k = placeR r k := by
        show (if placeR r k = placeR r x then (some x, decide (k > x)) else placeR r k) = _
        rw [if_neg e]
      refine ⟨n, Nat.le_succ_of_le hl, ?_, ?_, tk⟩
      · rw [ep, same n (Nat.le_refl _), h1]
      · rw [ep]
        show (if placeR r k = placeR r x then some x else takenR r (placeR r k)) = none
        rw [if_neg e]
        exact h2
end BstM
/-! A dict whose keys are pairs (None or an int, a bool): the places of a search tree. -/
namespace TK
open PySem PySem.Spec PyProof.Rows L2
abbrev Place := Option Int × Bool
def oV : Option Int → V
  | none => .non
  | some i => .int i
def oL : Option Int → Leaf
  | none => .none
  | some i => .num i
def keyV (p : Place) : List V := [oV p.1, .bl p.2]
def keyL (p : Place) : List Leaf := [oL p.1, .num (if p.2 = true then 1 else 0)]
theorem keyL_inj {p q : Place} (e : keyL p = keyL q) : p = q := by
  obtain ⟨m, b⟩ := p
  obtain ⟨n, c⟩ := q
  unfold keyL at e
  injection e with e1 e2
  injection e2 with e2 _
  have hb : b = c := by
    injection e2 with e2
    cases b <;> cases c <;> first | rfl | (simp at e2)
  have hm : m = n := by
    have e1 : oL m = oL n := e1
    cases m with
    | none => cases n with
      | none => rfl
      | some j => exact absurd (show Leaf.none = Leaf.num j from e1) (fun z => nomatch z)
    | some i => cases n with
      | none => exact absurd (show Leaf.num i = Leaf.none from e1) (fun z => nomatch z)
      | some j => have e1 : Leaf.num i = Leaf.num j := e1; injection e1 with e1; rw [e1]
  rw [hb, hm]
theorem leaf_o {P : Program} {w : World} {m : Option Int} {u : Value} (r : RelV (oV m) u) : (leafKind P w).is (oL m) u = true := by
  cases m with
  | none => obtain rfl : u = Value.none := r; rfl
  | some i => obtain ⟨t, rfl⟩ := (show ∃ t, u = Value.int i t from r); exact decide_eq_true rfl
theorem leaf_b {P : Program} {w : World} {b : Bool} {u : Value} (r : RelV (.bl b) u) : (leafKind P w).is (.num (if b = true then 1 else 0)) u = true := by
  obtain rfl : u = Value.bool b := r
  exact decide_eq_true rfl
abbrev Ent := Place × Addr × Int
def EntIs : Ent → List Leaf × Addr × Value → Prop := fun p q => keyL p.1 = q.1 ∧ p.2.1 = q.2.1 ∧ ∃ t, q.2.2 = Value.int p.2.2 t
def valX (es : List Ent) (p : Place) : Option Int := (es.find? fun e => decide (e.1 = p)).map (·.2.2)
def DXh (P : Program) (w : World) (a : Addr) (es : List Ent) (h : Heap) : Prop :=
  (a == sysModules) = false ∧ ∃ xs : List (List Leaf × Addr × Value), Paired EntIs es xs ∧
    ∃ o ds ep, h.get? a = some o ∧ o.ExactDict ∧ o.data = .dict ds ep ∧ ds.toList = xs.map (entryOfKey (tupleKind (leafKind P w))) ∧ (xs.map (·.1)).Nodup
def DX (P : Program) (w : World) (a : Addr) (es : List Ent) : HO := .ext (DXh P w a es)
theorem dx_ok {P : Program} {w : World} {a : Addr} {es : List Ent} {H : Hp} {h : Heap} (d : DXh P w a es h) : ObjOk P w H h a (DX P w a es) := by
  refine ⟨d, ?_, fun h1 h2 d1 k => ?_⟩
  · obtain ⟨_, xs, _, o, ds, ep, ho, _⟩ := d
    exact ⟨o, ho⟩
  · obtain ⟨hs, xs, r, o, ds, ep, ho, rest⟩ := d1
    exact ⟨hs, xs, r, o, ds, ep, k o ho, rest⟩
theorem val_at {es : List Ent} {xs : List (List Leaf × Addr × Value)} (r : Paired EntIs es xs) (p : Place) :
    match valX es p with
    | some m => ∃ b t, atKey xs (keyL p) = some (b, Value.int m t)
    | none => atKey xs (keyL p) = none := by
  induction r with
  | nil => rfl
  | @cons e x es xs h t ih =>
    obtain ⟨h1, h2, t3, h3⟩ := h
    by_cases q : e.1 = p
    · have q' : x.1 = keyL p := by rw [← h1, q]
      have e1 : valX (e :: es) p = some e.2.2 := by simp [valX, List.find?_cons, q]
      have e2 : atKey (x :: xs) (keyL p) = some x.2 := by simp [atKey, List.find?_cons, q']
      rw [e1, e2]
      exact ⟨x.2.1, t3, by rw [← h3]⟩
    · have q' : ¬ x.1 = keyL p := fun z => q (keyL_inj (h1.trans z))
      have e1 : valX (e :: es) p = valX es p := by simp [valX, List.find?_cons, q]
      have e2 : atKey (x :: xs) (keyL p) = atKey xs (keyL p) := by simp [atKey, List.find?_cons, q']
      rw [e1, e2]
      exact ih
theorem items_key {P : Program} {w : World} {p : Place} {us : List Value} (r : Vals (keyV p) us) : ItemsAre (leafKind P w) (keyL p) us := by
  unfold keyV at r
  cases r with
  | cons r1 r2 => cases r2 with
    | cons r2 r3 => cases r3; exact .cons (leaf_o r1) (.cons (leaf_b r2) .nil)
theorem key_is {P : Program} {w : World} {H : Hp} {h : Heap} {b : Addr} {p : Place} (ok : HOk P w H h) (e : H b = some (.tup (keyV p))) : (tupleKind (leafKind P w)).is h (keyL p) b := by
  obtain ⟨_, its, r, o, h1, h2, n, h3⟩ := (show ObjOk P w H h b (.tup (keyV p)) from ok b _ e)
  exact ⟨o, its.toArray, n, h1, h2, h3, by simpa using items_key (P := P) (w := w) r⟩
/-- the dict at a holds f, at most n entries -/
def HasTk (P : Program) (w : World) (H : Hp) (a : Addr) (f : Place → Option Int) (n : Nat) : Prop :=
  ∃ es, H a = some (DX P w a es) ∧ (∀ e ∈ es, H e.2.1 = some (.tup (keyV e.1))) ∧ es.length ≤ n ∧ ∀ p, valX es p = f p
theorem HasTk.keep {P : Program} {w : World} {H H' : Hp} {a : Addr} {f : Place → Option Int} {n : Nat} (h : HasTk P w H a f n) (s : Same H H') : HasTk P w H' a f n := by
  obtain ⟨es, h1, h2, h3, h4⟩ := h
  exact ⟨es, s _ _ h1, fun e he => s _ _ (h2 e he), h3, h4⟩
theorem tk_of {P : Program} {w : World} {H : Hp} {h : Heap} {a : Addr} {es : List Ent} (ok : HOk P w H h) (e : H a = some (DX P w a es)) (k : ∀ e ∈ es, H e.2.1 = some (.tup (keyV e.1))) :
    (a == sysModules) = false ∧ ∃ xs, Paired EntIs es xs ∧ h.DictOfH (tupleKind (leafKind P w)) a xs := by
  obtain ⟨⟨hs, xs, r, o, ds, ep, ho, hx, hd, he, hn⟩, _, _⟩ := (show ObjOk P w H h a (DX P w a es) from ok a _ e)
  refine ⟨hs, xs, r, o, ds, ep, ho, hx, hd, he, ?_, hn⟩
  have all : ∀ {l : List Ent} {m : List (List Leaf × Addr × Value)}, Paired EntIs l m → (∀ e ∈ l, H e.2.1 = some (.tup (keyV e.1))) → ∀ x ∈ m, (tupleKind (leafKind P w)).is h x.1 x.2.1 := by
    intro l m q
    induction q with
    | nil => intro _ x hx; exact nomatch hx
    | @cons e x es xs hq t ih =>
      intro k y hy
      obtain ⟨q1, q2, _⟩ := hq
      rcases List.mem_cons.mp hy with z | hy
      · subst z
        rw [← q1, ← q2]
        exact key_is ok (k e List.mem_cons_self)
      · exact ih (fun e he => k e (List.mem_cons_of_mem _ he)) y hy
  exact all r k
section
variable {X : Cx} {pins : List (Addr × Obj)} {σ : L2.St} {H : Hp} {s : Shared} {a b : Addr} {p : Place} {f : Place → Option Int} {n : Nat} {A : Around} {E : Value → Shared → Prop}
theorem x_get {m : Int} {Q : Value → Shared → Prop} (hu : A.units + 1 < cLine) (I : Inv X pins σ H s) (g : HasTk X.prog X.w H a f n) (eb : H b = some (.tup (keyV p))) (hv : f p = some m)
    (h : ∀ t s', Inv X pins σ H s' → Q (.int m t) s') : wpAny (model X.prog X.w) A (getItem (.ref a) (.ref b)) Q E s := by
  obtain ⟨es, ea, ek, hl, hf⟩ := g
  obtain ⟨hs, xs, r, dd⟩ := tk_of I.hok ea ek
  have q := val_at r p
  rw [hf p, hv] at q
  obtain ⟨c, t, hc⟩ := q
  exact wpAny_getItem_heap (show (tupleKind (leafKind X.prog X.w)).room A.in1 from hu) (key_is I.hok eb) dd hc (h t _ (I.tok _))
theorem x_in {Q : Value → Shared → Prop} (hu : A.units + 1 < cLine) (I : Inv X pins σ H s) (g : HasTk X.prog X.w H a f n) (eb : H b = some (.tup (keyV p)))
    (h : ∀ s', Inv X pins σ H s' → Q (.bool (f p).isSome) s') : wpAny (model X.prog X.w) A (compareOp .In (.ref b) (.ref a)) Q E s := by
  obtain ⟨es, ea, ek, hl, hf⟩ := g
  obtain ⟨hs, xs, r, dd⟩ := tk_of I.hok ea ek
  refine wpAny_in_heap (show (tupleKind (leafKind X.prog X.w)).room A.in1 from hu) (key_is I.hok eb) hs dd ?_
  have q := val_at r p
  rw [hf p] at q
  have e : (atKey xs (keyL p)).isSome = (f p).isSome := by
    cases hv : f p with
    | none => rw [hv] at q; rw [q]; rfl
    | some m => rw [hv] at q; obtain ⟨c, t, hc⟩ := q; rw [hc]; rfl
  rw [e]
  exact h _ (I.tok _)
theorem paired_snoc {α β : Type} {F : α → β → Prop} {x : α} {y : β} : ∀ {l : List α} {m : List β}, Paired F l m → F x y → Paired F (l ++ [x]) (m ++ [y])
  | _, _, .nil, h => .cons h .nil
  | _, _, .cons r t, h => .cons r (paired_snoc t h)
theorem valX_snoc (es : List Ent) (p q : Place) (b : Addr) (m : Int) (h : valX es p = none) : valX (es ++ [(p, b, m)]) q = if q = p then some m else valX es q := by
  induction es with
  | nil =>
    by_cases e : q = p
    · subst e; simp [valX]
    · have e' : ¬ p = q := fun z => e z.symm
      simp [valX, e, e']
  | cons e es ih =>
    by_cases e1 : e.1 = p
    · exfalso
      simp [valX, List.find?_cons, e1] at h
    · have h' : valX es p = none := by simpa [valX, List.find?_cons, e1] using h
      by_cases e2 : e.1 = q
      · have e3 : ¬ q = p := fun z => e1 (e2.trans z)
        simp [valX, List.find?_cons, e2, e3]
      · have := ih h'
        simpa [valX, List.find?_cons, e2] using this
theorem x_set {m : Int} {r : Value} {Q : Unit → Shared → Prop} (hu : A.units + 1 < cLine) (I : Inv X pins σ H s) (g : HasTk X.prog X.w H a f n) (hn : n < 1000) (eb : H b = some (.tup (keyV p))) (hv : f p = none) (rv : RelV (.int m) r)
    (h : ∀ s' H', Inv X pins σ H' s' → (∀ c, c ≠ a → H' c = H c) → HasTk X.prog X.w H' a (fun q => if q = p then some m else f q) (n + 1) → Q () s') :
    wpAny (model X.prog X.w) A (setItem (.ref a) (.ref b) r) Q E s := by
  obtain ⟨es, ea, ek, hl, hf⟩ := g
  obtain ⟨hs, xs, rel, dd⟩ := tk_of I.hok ea ek
  have hz : xs.length ≤ sizeLine := by rw [← Paired.length rel]; exact Nat.le_of_lt (small1000 (by omega))
  refine wpAny_setItem_heap (hsz := hz) (show (tupleKind (leafKind X.prog X.w)).room A.in1 from hu) (key_is I.hok eb) dd fun h' dd' hsb => ?_
  have q := val_at rel p
  rw [hf p, hv] at q
  rw [storedH_new q] at dd'
  obtain ⟨o, ds, ep, h1, h2, h3, h4, _, h5⟩ := dd'
  obtain ⟨t, rfl⟩ := (show ∃ t, r = Value.int m t from rv)
  have hnb : b ≠ a := ne_of eb ea (fun z => nomatch z)
  have nt : ∀ {c : Addr} {ys : List V}, H c = some (.tup ys) → c ≠ a := fun {c ys} ec => ne_of ec ea (fun z => nomatch z)
  have I' := d_write (t' := s.toks + (tupleKind (leafKind X.prog X.w)).draws (keyL p)) (ob := DX X.prog X.w a (es ++ [(p, b, m)])) I (by rw [ea]; exact True.intro) hsb ⟨o, h1⟩
    (dx_ok ⟨hs, _, paired_snoc rel ⟨rfl, rfl, t, rfl⟩, o, ds, ep, h1, h2, h3, h4, h5⟩)
  refine h _ _ I' (fun c hc => upd_ne hc) ⟨_, upd_same, fun e he => ?_, ?_, fun q => ?_⟩
  · rcases List.mem_append.mp he with he | he
    · rw [upd_ne (nt (ek e he))]; exact ek e he
    · rw [List.mem_singleton] at he
      subst he
      rw [upd_ne hnb]
      exact eb
  · rw [List.length_append]
    exact Nat.succ_le_succ hl
  · rw [valX_snoc es p q b m ((hf p).trans hv), hf q]
end
/-! ### the readings -/
def tXGet (P : Program) (w : World) (td ty : TE) : TE := fun σ H Q => td σ H fun x H1 => ty σ H1 fun y H2 => ∃ a b f n p m, x = .ref a ∧ y = .ref b ∧ HasTk P w H2 a f n ∧ H2 b = some (.tup (keyV p)) ∧ f p = some m ∧ Q (.int m) H2
def tXIn (P : Program) (w : World) (ty td : TE) : TE := fun σ H Q => ty σ H fun y H1 => td σ H1 fun x H2 => ∃ a b f n p, x = .ref a ∧ y = .ref b ∧ HasTk P w H2 a f n ∧ H2 b = some (.tup (keyV p)) ∧ Q (.bl (f p).isSome) H2
def sXPut (P : Program) (w : World) (td ty tv : TE) : TS := fun D σ H => tv σ H fun v H1 => td σ H1 fun x H2 => ty σ H2 fun y H3 => ∃ a b f n p m, v = .int m ∧ x = .ref a ∧ y = .ref b ∧ HasTk P w H3 a f n ∧ n < 1000 ∧ H3 b = some (.tup (keyV p)) ∧ f p = none ∧
  ∀ H', (∀ c, c ≠ a → H' c = H3 c) → HasTk P w H' a (fun q => if q = p then some m else f q) (n + 1) → D.nx σ H'
def tXNew (P : Program) (w : World) : TE := fun _ H Q => ∀ q H', H q = none → (∀ c, c ≠ q → H' c = H c) → HasTk P w H' q (fun _ => none) 0 → Q (.ref q) H'
section
variable {X : Cx} {o i e value : Expr} {pos pos' tpos : Pos} {td ty tv : TE}
theorem pe_xget (hu : X.A.units + 1 < cLine) (ho : PE X o td) (hi : PE X i ty) (hs : NoSl i) : PE X (.Subscript o i pos) (tXGet X.prog X.w td ty) := by
  refine ⟨fun pins s σ H Q I h => ?_⟩
  refine subD_of PySem.F.slot_dict_getitem.lookup hs (thn (ho.run pins s σ H _ I h) fun u s1 ⟨x, H1, I1, rx, q1⟩ => thn (hi.run pins s1 σ H1 _ I1 q1) fun iv s2 ⟨y, H2, I2, ry, q2⟩ => ?_)
  obtain ⟨a, b, f, n, p, m, ex, ey, g, eb, hv, q2⟩ := q2
  subst ex ey
  obtain rfl : u = Value.ref a := rx
  obtain rfl : iv = Value.ref b := ry
  refine ⟨?_, x_get hu I2 g eb hv fun t s3 I3 => ⟨.int m, H2, I3, ⟨t, rfl⟩, q2⟩⟩
  obtain ⟨es, ea, ek, _⟩ := g
  obtain ⟨_, xs, _, dd⟩ := tk_of I2.hok ea ek
  exact dd.typeIs
theorem pc_xin (hu : X.A.units + 1 < cLine) (hi : PE X i ty) (ho : PE X o td) : PC X .In i o (tXIn X.prog X.w ty td) := by
  refine ⟨fun pins s σ H Q I h => ?_⟩
  refine thn (hi.run pins s σ H _ I h) fun iv s1 ⟨y, H1, I1, ry, q1⟩ => thn (ho.run pins s1 σ H1 _ I1 q1) fun u s2 ⟨x, H2, I2, rx, q2⟩ => ?_
  obtain ⟨a, b, f, n, p, ex, ey, g, eb, q2⟩ := q2
  subst ex ey
  obtain rfl : u = Value.ref a := rx
  obtain rfl : iv = Value.ref b := ry
  exact x_in hu I2 g eb fun s3 I3 => ⟨.bl (f p).isSome, H2, I3, rfl, q2⟩
theorem ps_xput (hu : X.A.units + 1 < cLine) (ho : PE X o td) (hi : PE X i ty) (hv : PE X value tv) (hs : swapsWith value (some (.Subscript o i pos')) pos.line X.env = pure false) :
    PS X (.Assign [.Subscript o i pos'] value pos) (sXPut X.prog X.w td ty tv) := by
  refine ⟨fun pins s σ H D I h => ?_⟩
  refine wpAny_Assign_Subscript (thn (hv.run pins s σ H _ I h) fun r s1 ⟨v, H1, I1, rv, q1⟩ => thn (ho.run pins s1 σ H1 _ I1 q1) fun u s2 ⟨x, H2, I2, rx, q2⟩ => thn (hi.run pins s2 σ H2 _ I2 q2) fun iv s3 ⟨y, H3, I3, ry, q3⟩ => ?_) hs
  obtain ⟨a, b, f, n, p, m, ev, ex, ey, g, hn, eb, hf, q3⟩ := q3
  subst ev ex ey
  obtain rfl : u = Value.ref a := rx
  obtain rfl : iv = Value.ref b := ry
  exact x_set hu I3 g hn eb hf rv fun s4 H4 I4 hc hg => ⟨σ, H4, I4, q3 H4 hc hg⟩
theorem pe_xnew : PE X (.Dict [] [] pos) (tXNew X.prog X.w) := ⟨fun pins s σ H Q I h => by
  have hd : DXh X.prog X.w s.heap.objs.size [] (s.heap.push { cls := .type "dict", data := .dict #[] }) :=
    ⟨beq_eq_false_iff_ne.mpr (Ne.symm (Nat.ne_of_lt I.big)), [], .nil, _, #[], 0, Heap.get?_push_size _ rfl, ⟨rfl, rfl, rfl⟩, rfl, rfl, List.nodup_nil⟩
  have I' := I.laid (a := s.heap.objs.size) (o := DX X.prog X.w s.heap.objs.size []) (t' := s.toks) (fun _ _ q => Heap.get?_push_of_some _ q) (Nat.le_refl _) (dx_ok hd)
  exact wpAny_Dict_empty ⟨.ref s.heap.objs.size, _, I', rfl, h _ _ (I.hok.fresh (Nat.le_refl _)) (fun c hc => upd_ne hc) ⟨[], upd_same, fun e he => (nomatch he), Nat.le_refl _, fun p => rfl⟩⟩⟩
end
end TK
namespace T1
open PySem PySem.Spec PyProof.Rows L2 TK BstM
/-! ### the text -/
def topS (i : Nat) : Stmt := PySem.Challenge.pw_insertionorders_k02_trees_built.main.body.getD i (.Pass ⟨0, 0, 0, 0⟩)
abbrev sIsKey : Stmt := topS 6
abbrev sCheck : Stmt := topS 7
abbrev sBuild : Stmt := topS 9
abbrev sPar : Stmt := topS 10
theorem scIsKey : FnScope ["candidate"] ["candidate"] (defScope sIsKey) := ⟨rfl, rfl, rfl, by decide +kernel, rfl, by decide +kernel, by decide +kernel⟩
theorem scCheck : FnScope ["candidate", "seen", "position", "key"] ["candidate"] (defScope sCheck) := ⟨rfl, rfl, rfl, by decide +kernel, rfl, by decide +kernel, by decide +kernel⟩
theorem scPar : FnScope ["order", "parents", "taken", "key", "place", "met"] ["order"] (defScope sPar) := ⟨rfl, rfl, rfl, by decide +kernel, rfl, by decide +kernel, by decide +kernel⟩
theorem scBuild : FnScope ["order", "parents", "key"] ["order"] (defScope sBuild) := ⟨rfl, rfl, rfl, by decide +kernel, rfl, by decide +kernel, by decide +kernel⟩
/-! ### what stands at the module's top -/
structure Names (mg : Str → Option Value) : Prop where
  isi : mg "isinstance" = none
  int : mg "int" = none
  bool : mg "bool" = none
  list : mg "list" = none
  len : mg "len" = none
  set : mg "set" = none
  enum : mg "enumerate" = none
  sorted : mg "sorted" = none
  tuple : mg "tuple" = none
  maxKeys : ∃ t, mg "MAX_KEYS" = some (.int 40 t)
  maxKey : ∃ t, mg "MAX_KEY" = some (.int (10 ^ 18) t)
/-! ### heaps -/
theorem same_upd {H : Hp} {p : Addr} {o : HO} (h : H p = none) : Same H (upd H p o) := fun b x e => by
  rw [upd_ne (ne_of_none e h)]
  exact e
/-- what is new in H stays apart from what H0 had -/
theorem same_put {H0 H : Hp} {p : Addr} {o : HO} (s : Same H0 H) (h : H0 p = none) : Same H0 (upd H p o) := fun b x e => by
  rw [upd_ne (ne_of_none e h)]
  exact s _ _ e
theorem same_but {H0 H H' : Hp} {p : Addr} (s : Same H0 H) (h : H0 p = none) (k : ∀ c, c ≠ p → H' c = H c) : Same H0 H' := fun b x e => by
  rw [k b (ne_of_none e h)]
  exact s _ _ e
def InR (i : Int) : Prop := -(10 ^ 18) ≤ i ∧ i ≤ 10 ^ 18
instance (i : Int) : Decidable (InR i) := by unfold InR; infer_instance
/-- is_key's answer of a value -/
inductive KeyAns (K : PySem.W.Frag) (H : Hp) : V → Bool → Prop where
  | int (i : Int) : KeyAns K H (.int i) (decide (InR i))
  | bl (c : Bool) : KeyAns K H (.bl c) false
  | other {x : V} {t : String} (h : TyX K H x (.type t)) (k : kitB t "int" = some false) : KeyAns K H x false
section
variable {P : Program} {w : World} {K : PySem.W.Frag} {mg : Str → Option Value} {base : Heap}
/-! ### is_key -/
def spIsKey (K : PySem.W.Frag) : Sp := fun vs H Q _ => ∃ x b, vs = [x] ∧ KeyAns K H x b ∧ Q (.bl b) H
theorem ok_isKey {f : Addr} {fd : FuncData} {k : Nat} (F : Fun K "is_key" "is_key" sIsKey f fd) (T : Names mg) : FnOk P w K mg base CX0 (k + 1) f fd ["candidate"] (spIsKey K) := by
  refine F.ok scIsKey (fun vs H Q E h => ?_) (fun cdv A outer s H vs Q E hr h => ?_)
  · obtain ⟨x, b, rfl, _⟩ := h
    rfl
  · obtain ⟨x, b, rfl, hk, q⟩ := h
    obtain ⟨tk, mk⟩ := T.maxKey
    refine ⟨_, pss_cons (ps_if (PW.pt (pw_or (pt_not (pt_val (pe_callB call_isi (by rfl) T.isi (by decide +kernel) (pa_cons (pv 0) (pa_cons (pe_bltn (v := .ty "int") (by rfl) T.int (by decide +kernel) rfl) pa_nil)))))
        (pw_or1 (pt_val (pe_callB call_isi (by rfl) T.isi (by decide +kernel) (pa_cons (pv 0) (pa_cons (pe_bltn (v := .ty "bool") (by rfl) T.bool (by decide +kernel) rfl) pa_nil)))))))
        (pss_one (ps_ret pe_bl)) pss_nil)
      (pss_one (ps_ret (pe_chain op_le op_le (pe_un un_neg (pe_glob (v := .int (10 ^ 18)) (by rfl) mk ⟨tk, rfl⟩)) (pv 0) (pe_glob (v := .int (10 ^ 18)) (by rfl) mk ⟨tk, rfl⟩)))), ?_⟩
    cases hk with
    | int i =>
      refine ⟨.int i, rfl, .int i, .ty "int", _, _, true, rfl, .ty _, .base (.int i), kit_ty (by decide +kernel), _, rfl, iteF ?_⟩
      refine ⟨.int i, rfl, .int i, .ty "bool", _, _, false, rfl, .ty _, .base (.int i), kit_ty (by decide +kernel), _, rfl, iteF ?_⟩
      refine ⟨_, rfl, .int i, rfl, _, _, rfl, rfl, _, rfl, ite2 (fun e => ?_) (fun e => ?_)⟩
      · refine ⟨_, _, rfl, rfl, ?_⟩
        have h1 : -(10 ^ 18) ≤ i := of_decide_eq_true e
        have e2 : decide (InR i) = decide (i ≤ 10 ^ 18) := decide_eq_decide.mpr ⟨fun z => z.2, fun z => ⟨h1, z⟩⟩
        rw [e2] at q
        exact q
      · have e2 : decide (InR i) = false := decide_eq_false fun z => e (decide_eq_true z.1)
        rw [e2] at q
        exact q
    | bl c =>
      refine ⟨.bl c, rfl, .bl c, .ty "int", _, _, true, rfl, .ty _, .base (.bl c), kit_ty (by decide +kernel), _, rfl, iteF ?_⟩
      exact ⟨.bl c, rfl, .bl c, .ty "bool", _, _, true, rfl, .ty _, .base (.bl c), kit_ty (by decide +kernel), _, rfl, iteT q⟩
    | other ht kt =>
      exact ⟨x, rfl, x, .ty "int", _, _, false, rfl, .ty _, ht, kit_ty kt, _, rfl, iteT (iteT q)⟩
/-! ### check_order, of an order -/
structure Order (ns : List Int) : Prop where
  nd : ns.Nodup
  rng : ∀ k ∈ ns, InR k
  len : ns.length ≤ 40
def spCheck (K : PySem.W.Frag) : Sp := fun vs H Q _ => ∃ (a : Addr) (ns : List Int), vs = [.ref a] ∧ H a = some (.lst (ns.map V.int)) ∧ Order ns ∧ ∀ H', Same H H' → Q .non H'
theorem ok_check {f fK : Addr} {fd fdK : FuncData} {k : Nat} (F : Fun K "check_order" "check_order" sCheck f fd) (FK : Fun K "is_key" "is_key" sIsKey fK fdK) (gK : mg "is_key" = some (.ref fK)) (T : Names mg) :
    FnOk P w K mg base CX0 (k + 2) f fd ["candidate"] (spCheck K) := by
  have GK : FnOk P w K mg base CX0 (k + 1) fK fdK ["candidate"] (spIsKey K) := ok_isKey FK T
  have bK := FK.binds (ps := ["candidate"]) fun _ _ _ _ _ _ us hl => match us, hl with | [_], _ => rfl
  refine F.ok scCheck (fun vs H Q E h => ?_) (fun cdv A outer s H vs Q E hr h => ?_)
  · obtain ⟨a, ns, rfl, _⟩ := h
    rfl
  · obtain ⟨a, ns, rfl, ha, ho, q⟩ := h
    obtain ⟨tk, mk⟩ := T.maxKeys
    refine ⟨_, pss_cons (ps_if (PW.pt (pw_or (pt_not (pt_val (pe_callB call_isi (by rfl) T.isi (by decide +kernel) (pa_cons (pv 0) (pa_cons (pe_bltn (v := .ty "list") (by rfl) T.list (by decide +kernel) rfl) pa_nil)))))
        (pw_or1 (pt_cmpR op_gt (pe_callB call_len_seq (by rfl) T.len PySem.boot_len (pa_cons (pv 0) pa_nil)) (pe_glob (v := .int 40) (by rfl) mk ⟨tk, rfl⟩) (nomark _)))))
        (pss_one ps_never) pss_nil)
      (pss_cons (ps_set (i := 1) scCheck.nd rfl (.inl rfl) (pe_callTy0 cr_set0 (by rfl) T.set (by decide +kernel)))
      (pss_one (ps_for PassesOwn.never rfl (pi_enum (by rfl) T.enum (pa_cons (pv 0) pa_nil)) (pg_tup rfl (pgs_cons (pg_name (i := 2) scCheck.nd rfl (.inl rfl)) (pgs_cons (pg_name (i := 3) scCheck.nd rfl (.inl rfl)) pgs_nil)))
        (pss_cons (ps_if (PW.pt (pw_or (pt_not (pt_val (pe_call GK hr (by rfl) gK FK.kp bK .nil pass0 (pa_cons (pv 3) pa_nil)))) (pw_or1 (pt_cmpR or_sin (pv 3) (pv 1) (by rfl))))) (pss_one ps_never) pss_nil)
          (pss_one (ps_expr (pe_sadd (pv 1) (pa_cons (pv 3) pa_nil)))))))), ?_⟩
    refine ⟨.ref a, rfl, .ref a, .ty "list", _, _, true, rfl, .ty _, .base (.lst ha), kit_ty (by decide +kernel), _, rfl, iteF ?_⟩
    refine ⟨.ref a, rfl, a, _, rfl, .inl (SqL.of ha), _, _, rfl, rfl, _, rfl, ?_⟩
    have hlen : ¬ (40 : Int) < ((ns.map V.int).length : Int) := by
      rw [List.length_map]
      have := ho.len
      omega
    rw [decide_eq_false hlen]
    refine iteF ?_
    refine ⟨rfl, fun p np => ?_⟩
    have s1 : Same H (upd H p (SetO w p (fun _ => false) 0)) := same_upd np
    refine ⟨.ref a, rfl, a, ns.map V.int, rfl, SqL.of (s1 _ _ ha), ?_⟩
    refine for_it (walk_enum (xs := ns.map V.int)) (fun i σ H' => ∃ y2 y3, σ = [some (.ref a), some (.ref p), y2, y3] ∧ Same H H' ∧ H' p = some (SetO w p (fun j => decide (j ∈ ns.take i)) i) ∧ i ≤ ns.length) ⟨none, none, rfl, s1, ?_, Nat.zero_le _⟩ (fun i σ H' _ h => ?_) (fun i x σ H1 H2 hi h y => ?_) (fun σ H' h => ?_)
    · rw [upd_same]
      refine congrArg (fun S => some (SetO w p S 0)) ?_
      funext j
      exact (decide_eq_false (by simp)).symm
    · obtain ⟨_, _, _, sm, _⟩ := h
      exact SqL.of (sm _ _ ha)
    · obtain ⟨y2, y3, rfl, sm, hp, hil⟩ := h
      obtain ⟨t, x1, x2, rfl, nt, rfl, e1, e2⟩ := y
      have hi' : i < ns.length := by rw [List.length_map] at hi; exact hi
      obtain rfl : x1 = .int (i : Nat) := (Option.some.inj e1).symm
      obtain rfl : x2 = .int ns[i] := by
        have e3 : (ns.map V.int)[i]? = some x2 := e2
        rw [List.getElem?_map, List.getElem?_eq_getElem hi'] at e3
        exact (Option.some.inj e3).symm
      have npt : p ≠ t := ne_of_none hp nt
      refine ⟨t, [.int (i : Nat), .int ns[i]], rfl, .inl (.inl upd_same), rfl, _, [.int ns[i]], rfl, _, [], rfl, rfl, ?_⟩
      refine ⟨_, rfl, _, _, rfl, .int _, ?_⟩
      rw [decide_eq_true (ho.rng _ (List.getElem_mem hi'))]
      refine ⟨_, rfl, iteF ?_⟩
      have hp2 : (upd H1 t (.tup [.int (i : Nat), .int ns[i]])) p = some (SetO w p (fun j => decide (j ∈ ns.take i)) i) := by
        rw [upd_ne npt]; exact hp
      have hnot : ¬ ns[i] ∈ ns.take i := fun z => by
        obtain ⟨j, hj, ej⟩ := List.mem_take_iff_getElem.mp z
        have hj' : j < ns.length := by omega
        have := (List.getElem_inj ho.nd).mp (show ns[j] = ns[i] from ej)
        omega
      refine ⟨_, rfl, _, rfl, _, _, _, _, rfl, rfl, hp2, _, rfl, ?_⟩
      rw [decide_eq_false hnot]
      refine iteF ?_
      refine ⟨_, rfl, ⟨_, _, _, rfl, hp2⟩, _, rfl, p, ns[i], _, _, rfl, rfl, hp2, ?_, some (.int (i : Nat)), some (.int ns[i]), rfl, ?_, ?_, hi'⟩
      · have := ho.len
        show i + 1 < 4096
        omega
      · exact same_put (Same.trans sm (same_upd nt)) np
      · rw [upd_same]
        have hS : (fun j => (decide (j ∈ ns.take i) || decide (j = ns[i]))) = fun j => decide (j ∈ ns.take (i + 1)) := by
          funext j
          rw [Bool.eq_iff_iff]
          simp only [Bool.or_eq_true, decide_eq_true_eq]
          rw [List.take_succ_eq_append_getElem hi', List.mem_append, List.mem_singleton]
        show some (SetO w p (fun j => (decide (j ∈ ns.take i) || decide (j = ns[i]))) (if decide (ns[i] ∈ ns.take i) = true then i else i + 1)) = _
        rw [hS, decide_eq_false hnot]
        rfl
    · obtain ⟨_, _, rfl, sm, _⟩ := h
      exact q _ sm
end
end T1
namespace T1
open PySem PySem.Spec PyProof.Rows L2 TK BstM
/-- the parents, the last inserted key first in the list -/
def parsR : List Int → List (Key × V)
  | [] => []
  | x :: r => parsR r ++ [(Sum.inl x, oV (placeR r x).1)]
theorem parsR_keys : ∀ r : List Int, (parsR r).map (·.1) = (r.map Sum.inl).reverse
  | [] => rfl
  | x :: r => by
    unfold parsR
    rw [List.map_append, parsR_keys r]
    simp
theorem parsR_len (r : List Int) : (parsR r).length = r.length := by
  have := congrArg List.length (parsR_keys r)
  simpa using this
theorem parsR_new {r : List Int} {x : Int} (h : x ∉ r) : valV (parsR r) (Sum.inl x) = none := by
  cases e : valV (parsR r) (Sum.inl x) with
  | none => rfl
  | some v =>
    have := valV_in e
    rw [parsR_keys] at this
    rw [List.mem_reverse, List.mem_map] at this
    obtain ⟨y, hy, ey⟩ := this
    cases ey
    exact absurd hy h
/-- the parent of each key in the tree of the order -/
def parentIn : List Int → Int → Option Int
  | [], _ => none
  | x :: r, k => if k = x then (placeR r x).1 else parentIn r k
theorem parsR_val : ∀ {r : List Int} {k : Int}, r.Nodup → k ∈ r → valV (parsR r) (Sum.inl k) = some (oV (parentIn r k))
  | [], k, _, h => nomatch h
  | x :: r, k, hn, h => by
    rw [List.nodup_cons] at hn
    unfold parsR parentIn
    rw [valV_snoc _ _ _ _ (parsR_new hn.1)]
    by_cases e : k = x
    · subst e
      rw [if_pos rfl, if_pos rfl]
    · rw [if_neg (fun z => e (Sum.inl.inj z)), if_neg e]
      exact parsR_val hn.2 (by
        rcases List.mem_cons.mp h with z | z
        · exact absurd z e
        · exact z)
theorem take_rev {ns : List Int} {i : Nat} (h : i < ns.length) : (ns.take (i + 1)).reverse = ns[i] :: (ns.take i).reverse := by
  rw [List.take_succ_eq_append_getElem h, List.reverse_append]
  rfl
theorem nodup_take {ns : List Int} (h : ns.Nodup) (i : Nat) : (ns.take i).reverse.Nodup := by
  have h2 : (ns.take i).Nodup := h.sublist (List.take_sublist _ _)
  unfold List.Nodup at h2 ⊢
  rw [List.pairwise_reverse]
  exact h2.imp fun z e => z e.symm
theorem not_in_take {ns : List Int} (h : ns.Nodup) {i : Nat} (hi : i < ns.length) : ns[i] ∉ (ns.take i).reverse := fun z => by
  obtain ⟨j, hj, ej⟩ := List.mem_take_iff_getElem.mp (List.mem_reverse.mp z)
  have hj' : j < ns.length := by omega
  have := (List.getElem_inj h).mp (show ns[j] = ns[i] from ej)
  omega
section
variable {P : Program} {w : World} {K : PySem.W.Frag} {mg : Str → Option Value} {base : Heap}
/-! ### parents_after -/
def spPar (K : PySem.W.Frag) : Sp := fun vs H Q _ => ∃ (a : Addr) (ns : List Int), vs = [.ref a] ∧ SqL K H a (ns.map V.int) ∧ ns.Nodup ∧ ns.length ≤ 40 ∧ ∀ H' p, Same H H' → H p = none → H' p = some (.dK (parsR ns.reverse)) → Q (.ref p) H'
theorem ok_par {f : Addr} {fd : FuncData} {k : Nat} (F : Fun K "parents_after" "parents_after" sPar f fd) : FnOk P w K mg base CX0 (k + 1) f fd ["order"] (spPar K) := by
  refine F.ok scPar (fun vs H Q E h => ?_) (fun cdv A outer s H vs Q E hr h => ?_)
  · obtain ⟨a, ns, rfl, _⟩ := h
    rfl
  · obtain ⟨a, ns, rfl, hS, hnd, hlen, q⟩ := h
    have hu := hu_of hr
    refine ⟨_, pss_cons (ps_set (i := 1) scPar.nd rfl (.inl rfl) pe_dnewK)
      (pss_cons (ps_set (i := 2) scPar.nd rfl (.inl rfl) pe_xnew)
      (pss_cons (ps_for PassesOwn.never rfl (pi_list (pv 0)) (pg_name (i := 3) scPar.nd rfl (.inl rfl))
        (pss_cons (ps_set (i := 4) scPar.nd rfl (.inl rfl) (pe_tup (pa_cons pe_non (pa_cons pe_bl pa_nil))))
        (pss_cons (ps_while PassesOwn.never (pt_cmp (pc_xin hu (pv 4) (pv 2)))
          (pss_cons (ps_set (i := 5) scPar.nd rfl (.inl rfl) (pe_xget hu (pv 2) (pv 4) (fun _ _ => rfl)))
          (pss_one (ps_set (i := 4) scPar.nd rfl (.inl rfl) (pe_tup (pa_cons (pv 5) (pa_cons (pe_cmpR op_gt (pv 3) (pv 5) (nomark _)) pa_nil)))))))
        (pss_cons (ps_xput hu (pv 2) (pv 4) (pv 3) rfl)
        (pss_one (ps_dput hu (pv 1) (pv 3) (pe_ix ix_tup (pv 4) pe_int (fun _ _ => rfl)) rfl))))))
      (pss_one (ps_ret (pv 1))))), ?_⟩
    -- parents = {}, taken = {}
    intro p np T HT nT kT tkT
    have s1 : Same H (upd H p (.dK [])) := same_upd np
    have npT : T ≠ p := fun e => by rw [e, upd_same] at nT; cases nT
    have nT0 : H T = none := by rw [upd_ne npT] at nT; exact nT
    have s2 : Same H HT := same_but s1 nT0 kT
    refine ⟨.ref a, rfl, a, rfl, ⟨_, s2.seq hS⟩, ?_⟩
    refine for_list (xs := ns.map V.int) (fun i σ H' => ∃ y3 y4 y5, σ = [some (.ref a), some (.ref p), some (.ref T), y3, y4, y5] ∧ Same H H' ∧ i ≤ ns.length ∧ H' p = some (.dK (parsR (ns.take i).reverse)) ∧ HasTk P w H' T (takenR (ns.take i).reverse) i)
      ⟨none, none, none, rfl, s2, Nat.zero_le _, ?_, tkT⟩ (fun i σ H' _ h => ?_) (fun i x σ H1 hx h => ?_) (fun σ H' h => ?_)
    · rw [kT p npT.symm, upd_same]
      rfl
    · obtain ⟨_, _, _, _, sm, _⟩ := h
      exact sm.seq hS
    · obtain ⟨y3, y4, y5, rfl, sm, _, hp, tk⟩ := h
      have hi : i < ns.length := by
        have := (List.getElem?_eq_some_iff.mp hx).1
        rw [List.length_map] at this
        exact this
      obtain rfl : x = .int ns[i] := by
        rw [List.getElem?_map, List.getElem?_eq_getElem hi] at hx
        exact (Option.some.inj hx).symm
      have hrn := nodup_take hnd i
      have hkr := not_in_take hnd hi
      generalize hk : ns[i] = key at hkr
      generalize hrr : (ns.take i).reverse = r at hp tk hrn hkr
      have hrl : r.length = i := by rw [← hrr, List.length_reverse, List.length_take]; omega
      obtain ⟨n, hn, h1, h2, h3⟩ := search_ends r hrn key hkr
      have npT1 : p ≠ T := npT.symm
      -- place = (None, False)
      refine ⟨by decide, fun t nt => ?_⟩
      have st : Same H1 (upd H1 t (.tup [.non, .bl false])) := same_upd nt
      -- the search
      refine ⟨fun m σ H2 => ∃ j t y5, m = n - j ∧ j ≤ n ∧ σ = [some (.ref a), some (.ref p), some (.ref T), some (.int key), some (.ref t), y5] ∧ Same H1 H2 ∧ H2 t = some (.tup (keyV (stepsR r key j))), ⟨n, 0, t, y5, rfl, Nat.zero_le _, rfl, st, by rw [upd_same]; rfl⟩, ?_⟩
      rintro m σ H2 ⟨j, t, y5, rfl, hj, rfl, sm2, ht⟩
      refine ⟨.ref t, rfl, .ref T, rfl, T, t, _, _, _, rfl, rfl, tk.keep sm2, ht, _, rfl, ?_⟩
      by_cases hjn : j < n
      · have hs := h3 j hjn
        obtain ⟨met, hm⟩ := Option.isSome_iff_exists.mp hs
        rw [hs]
        refine iteT ⟨fun σ' H' => ∃ t y5, σ' = [some (.ref a), some (.ref p), some (.ref T), some (.int key), some (.ref t), y5] ∧ Same H1 H' ∧ H' t = some (.tup (keyV (stepsR r key (j + 1)))), fun σ' H' hN => ?_, ?_⟩
        · obtain ⟨t', y', e, sm', ht'⟩ := hN
          exact ⟨n - (j + 1), by omega, j + 1, t', y', rfl, hjn, e, sm', ht'⟩
        · refine ⟨.ref T, rfl, .ref t, rfl, T, t, _, _, _, met, rfl, rfl, tk.keep sm2, ht, hm, ?_⟩
          refine ⟨_, rfl, _, rfl, _, rfl, _, _, rfl, rfl, by show 2 ≤ sizeLine; decide, fun t' nt' => ⟨t', _, rfl, sm2.trans (same_upd nt'), ?_⟩⟩
          rw [upd_same]
          have e : stepsR r key (j + 1) = (some met, decide (key > met)) := by
            show stepR r key (stepsR r key j) = _
            unfold stepR
            rw [hm]
          rw [e]
          rfl
      · obtain rfl : j = n := by omega
        rw [h1] at ht ⊢
        rw [h2]
        refine iteF ?_
        -- taken[place] = key
        refine ⟨_, rfl, _, rfl, _, rfl, T, t, _, _, _, key, rfl, rfl, rfl, tk.keep sm2, by omega, ht, h2, fun H3 k3 tk3 => ?_⟩
        have htT : t ≠ T := by
          obtain ⟨es, ea, _⟩ := tk.keep sm2
          exact ne_of ht ea (fun z => nomatch z)
        have ht3 : H3 t = some (.tup (keyV (placeR r key))) := by rw [k3 t htT]; exact ht
        have hp3 : H3 p = some (.dK (parsR r)) := by rw [k3 p npT1]; exact sm2 _ _ hp
        -- parents[key] = place[0]
        refine ⟨_, rfl, t, _, 0, _, rfl, rfl, SqT.of ht3, atI_nat (j := 0) rfl, _, rfl, _, rfl, p, _, rfl, DPut.k (k := Sum.inl key) hp3 (by rw [parsR_len]; exact small1000 (by omega)), _, _, _, rfl, ?_, hi, ?_, ?_⟩
        · exact same_put (same_but (sm.trans sm2) nT0 k3) np
        · rw [upd_same, putK_new _ (parsR_new hkr), take_rev hi, hrr, hk]
          rfl
        · rw [take_rev hi, hrr, hk]
          obtain ⟨es, e1, e2, e3, e4⟩ := tk3
          refine ⟨es, by rw [upd_ne npT]; exact e1, fun e he => ?_, e3, fun q => (e4 q).trans rfl⟩
          rw [upd_ne (ne_of (e2 e he) hp3 (fun z => nomatch z))]
          exact e2 e he
    · obtain ⟨_, _, _, rfl, sm, _, hp, _⟩ := h
      rw [List.length_map, List.take_length] at hp
      exact ⟨_, rfl, q _ p sm np hp⟩
end
end T1
namespace T1
open PySem PySem.Spec PyProof.Rows L2 TK BstM
/-- the tuples (key, parent) at these addresses -/
abbrev PairsAt (H : Hp) : List Addr → List (Int × Option Int) → Prop := Paired fun q x => H q = some (.tup [.int x.1, oV x.2])
theorem PairsAt.keep {H H' : Hp} {as : List Addr} {l : List (Int × Option Int)} (h : PairsAt H as l) (s : Same H H') : PairsAt H' as l := Paired.mapP h fun _ _ z => s _ _ z
def TreeAt (H : Hp) (p : Addr) (l : List (Int × Option Int)) : Prop := ∃ as : List Addr, H p = some (.tup (as.map V.ref)) ∧ PairsAt H as l
theorem TreeAt.keep {H H' : Hp} {p : Addr} {l : List (Int × Option Int)} (h : TreeAt H p l) (s : Same H H') : TreeAt H' p l := by
  obtain ⟨as, h1, h2⟩ := h
  exact ⟨as, s _ _ h1, h2.keep s⟩
/-- the keys in ascending order -/
def Asc (ms ns : List Int) : Prop := ms.Perm ns ∧ ms.Pairwise (· ≤ ·)
def pairsOf (ns ms : List Int) : List (Int × Option Int) := ms.map fun k => (k, parentIn ns.reverse k)
section
variable {P : Program} {w : World} {K : PySem.W.Frag} {mg : Str → Option Value} {base : Heap}
def spBuild (K : PySem.W.Frag) : Sp := fun vs H Q _ => ∃ (a : Addr) (ns : List Int), vs = [.ref a] ∧ H a = some (.lst (ns.map V.int)) ∧ Order ns ∧ ∀ H' p ms, Same H H' → H p = none → Asc ms ns → TreeAt H' p (pairsOf ns ms) → Q (.ref p) H'
theorem ok_build {f fC fP fK : Addr} {fd fdC fdP fdK : FuncData} {k : Nat} (F : Fun K "build" "build" sBuild f fd) (FC : Fun K "check_order" "check_order" sCheck fC fdC) (FP : Fun K "parents_after" "parents_after" sPar fP fdP) (FK : Fun K "is_key" "is_key" sIsKey fK fdK)
    (gC : mg "check_order" = some (.ref fC)) (gP : mg "parents_after" = some (.ref fP)) (gK : mg "is_key" = some (.ref fK)) (T : Names mg) :
    FnOk P w K mg base CX0 (k + 3) f fd ["order"] (spBuild K) := by
  have GC : FnOk P w K mg base CX0 (k + 2) fC fdC ["candidate"] (spCheck K) := ok_check FC FK gK T
  have GP : FnOk P w K mg base CX0 (k + 2) fP fdP ["order"] (spPar K) := ok_par FP
  have bC := FC.binds (ps := ["candidate"]) fun _ _ _ _ _ _ us hl => match us, hl with | [_], _ => rfl
  have bP := FP.binds (ps := ["order"]) fun _ _ _ _ _ _ us hl => match us, hl with | [_], _ => rfl
  refine F.ok scBuild (fun vs H Q E h => ?_) (fun cdv A outer s H vs Q E hr h => ?_)
  · obtain ⟨a, ns, rfl, _⟩ := h
    rfl
  · obtain ⟨a, ns, rfl, ha, ho, q⟩ := h
    have hu := hu_of hr
    refine ⟨_, pss_cons (ps_expr (pe_call GC hr (by rfl) gC FC.kp bC .nil pass0 (pa_cons (pv 0) pa_nil)))
      (pss_cons (ps_set (i := 1) scBuild.nd rfl (.inr rfl) (pe_call GP hr (by rfl) gP FP.kp bP .nil pass0 (pa_cons (pv 0) pa_nil)))
      (pss_one (ps_ret (pe_callTy call_tuple_of (by rfl) T.tuple (by decide +kernel) (pa_cons
        (pe_lc (own := [("key", 2)]) (g := gName 2) (tt := tYes) rfl scBuild.nd (pi_list (pe_callB cr_sortedI (by rfl) T.sorted (by decide +kernel) (pa_cons (pv 0) pa_nil)))
          (blkOk_by (N := ["order", "parents", "key"]) (sc := defScope sBuild) (by decide +kernel)) (fun _ _ _ _ _ => pg_name (i := 2) scBuild.nd rfl (Or.inl rfl)) (fun _ _ _ _ _ => pts_nil)
          (fun _ _ _ _ _ => pe_tup (pa_cons (pv 2) (pa_cons (pe_dget hu (pv 1) (pv 2) (fun _ _ => rfl)) pa_nil)))) pa_nil))))), ?_⟩
    refine ⟨_, rfl, a, ns, rfl, ha, ho, fun H1 s1 => ?_⟩
    refine ⟨_, rfl, a, ns, rfl, SqL.of (s1 _ _ ha), ho.nd, ho.len, fun H2 pp s2 np hp => ?_⟩
    refine ⟨_, rfl, a, ns, rfl, SqL.of (s2 _ _ (s1 _ _ ha)), fun ms sa perm asc nsa => ⟨sa, rfl, ⟨_, .inl (.inl upd_same)⟩, ?_⟩⟩
    intro D nD
    have hml : ms.length ≤ 40 := by rw [perm.length_eq]; exact ho.len
    have s3 : Same H2 (upd H2 sa (.lst (ms.map V.int))) := same_upd nsa
    refine lc_list (xs := ms.map V.int) (fun i H' => ∃ as : List Addr, as.length = i ∧ Same (upd H2 sa (.lst (ms.map V.int))) H' ∧ H' D = some (.lst (as.map V.ref)) ∧ PairsAt H' as (pairsOf ns (ms.take i)))
      ⟨[], rfl, same_upd nD, by rw [upd_same]; rfl, .nil⟩ (fun i H' _ h => ?_) (fun i x H' hx h => ?_) (fun H' h => ?_)
    · obtain ⟨_, _, sm, _⟩ := h
      exact SqL.of (sm _ _ upd_same)
    · obtain ⟨as, hl, sm, hD, hP⟩ := h
      have hi : i < ms.length := by
        have := (List.getElem?_eq_some_iff.mp hx).1
        rw [List.length_map] at this
        exact this
      obtain rfl : x = .int ms[i] := by
        rw [List.getElem?_map, List.getElem?_eq_getElem hi] at hx
        exact (Option.some.inj hx).symm
      have hin : ms[i] ∈ ns.reverse := List.mem_reverse.mpr (perm.mem_iff.mp (List.getElem_mem hi))
      have hrn : ns.reverse.Nodup := by
        have := nodup_take ho.nd ns.length
        rw [List.take_length] at this
        exact this
      refine ⟨rfl, ?_⟩
      unfold tYes
      refine iteT ?_
      refine ⟨_, rfl, _, rfl, _, rfl, pp, oV (parentIn ns.reverse ms[i]), rfl, ?_, by show 2 ≤ sizeLine; decide, fun t nt => ⟨as.map V.ref, ?_, ?_, as ++ [t], ?_, ?_, ?_, ?_⟩⟩
      · have e := DGet.k (k := Sum.inl ms[i]) (sm _ _ (s3 _ _ hp))
        rw [parsR_val hrn hin] at e
        exact e
      · rw [upd_ne (ne_of_none hD nt)]
        exact hD
      · rw [List.length_map, hl]
        exact small1000 (by omega)
      · rw [List.length_append, hl]
        rfl
      · exact same_put (sm.trans (same_upd nt)) nD
      · rw [upd_same, List.map_append]
        rfl
      · have ht : (ms.take (i + 1)) = ms.take i ++ [ms[i]] := List.take_succ_eq_append_getElem hi
        unfold pairsOf
        rw [ht, List.map_append]
        have nDt : t ≠ D := fun e => by rw [← e] at hD; rw [hD] at nt; cases nt
        refine paired_snoc (Paired.mapP hP fun b y z => ?_) ?_
        · have hbD : b ≠ D := ne_of z hD (fun z => nomatch z)
          rw [upd_ne hbD, upd_ne (ne_of_none z nt)]
          exact z
        · rw [upd_ne nDt, upd_same]
    · obtain ⟨as, _, sm, hD, hP⟩ := h
      rw [List.length_map, List.take_length] at hP
      refine ⟨D, _, rfl, .inl ⟨SqL.of hD, fun l nl => ?_⟩⟩
      have s12 : Same H H' := s1.trans (s2.trans (s3.trans sm))
      exact q _ l ms (s12.trans (same_upd nl)) (s12.free nl) ⟨perm, asc⟩ ⟨as, upd_same, hP.keep (same_upd nl)⟩
end
end T1
/-! lists of ints as data: ==, != -/
namespace DatI
open PySem PySem.Spec PyProof.Rows L2
theorem canLay_ints : ∀ ns : List Int, PyData.canLayAll0 (ns.map PyData.int) = true
  | [] => by simp [PyData.canLayAll0]
  | n :: ns => by
    rw [List.map_cons]
    simp [PyData.canLayAll0, PyData.canLay0, canLay_ints ns]
theorem depth_ints : ∀ ns : List Int, PyData.depthAll (ns.map PyData.int) = 0
  | [] => by simp [PyData.depthAll]
  | n :: ns => by
    rw [List.map_cons]
    simp [PyData.depthAll, PyData.depth, depth_ints ns]
theorem shaped_ints (ns : List Int) : SeqAt.shaped (.list (ns.map PyData.int)) = true := by
  unfold SeqAt.shaped
  rw [Bool.and_eq_true]
  refine ⟨?_, ?_⟩
  · rw [PyData.canLay0]
    exact canLay_ints ns
  · rw [PyData.depth, depth_ints]
    rfl
theorem eqvAll_ints : ∀ ns ms : List Int, PyData.eqvAll (ns.map PyData.int) (ms.map PyData.int) = decide (ns = ms)
  | [], [] => by simp [PyData.eqvAll]
  | [], m :: ms => by simp [PyData.eqvAll]
  | n :: ns, [] => by simp [PyData.eqvAll]
  | n :: ns, m :: ms => by
    rw [List.map_cons, List.map_cons, PyData.eqvAll, eqvAll_ints ns ms, PyData.eqv]
    by_cases h : n = m
    · by_cases h2 : ns = ms <;> simp [h, h2]
    · simp [h]
theorem eqv_ints (ns ms : List Int) : PyData.eqv (.list (ns.map PyData.int)) (.list (ms.map PyData.int)) = decide (ns = ms) := by
  rw [PyData.eqv, eqvAll_ints]
theorem dpAll_ints {K : PySem.W.Frag} {H : Hp} : ∀ ns : List Int, DpAll K H (ns.map V.int) (ns.map PyData.int)
  | [] => .nil
  | n :: ns => .cons (.int n) (dpAll_ints ns)
theorem dp_ints {K : PySem.W.Frag} {H : Hp} {a : Addr} {ns : List Int} (h : SqL K H a (ns.map V.int)) : Dp K H (.ref a) (.list (ns.map PyData.int)) := .lst h (dpAll_ints ns)
end DatI
namespace T1
open PySem PySem.Spec PyProof.Rows L2 TK BstM DatI
abbrev sPool : Stmt := topS 12
abbrev sDraw : Stmt := topS 13
abbrev sKeys : Stmt := topS 14
abbrev sShuf : Stmt := topS 15
theorem scPool : FnScope ["_law_script", "_law_k", "_law_cell", "_law_size", "_law_seed"] ["_law_script", "_law_k"] (defScope sPool) := ⟨rfl, rfl, rfl, by decide +kernel, rfl, by decide +kernel, by decide +kernel⟩
theorem scDraw : FnScope ["_law_pool_here", "_law_count", "_law_found"] ["_law_pool_here", "_law_count"] (defScope sDraw) := ⟨rfl, rfl, rfl, by decide +kernel, rfl, by decide +kernel, by decide +kernel⟩
theorem scKeys : FnScope ["_law_pool_here", "_law_many", "_law_spread", "_law_key", "_law_found", "_law_turn"] ["_law_pool_here", "_law_many"] (defScope sKeys) := ⟨rfl, rfl, rfl, by decide +kernel, rfl, by decide +kernel, by decide +kernel⟩
theorem scShuf : FnScope ["_law_pool_here", "_law_some", "_law_left", "_law_found"] ["_law_pool_here", "_law_some"] (defScope sShuf) := ⟨rfl, rfl, rfl, by decide +kernel, rfl, by decide +kernel, by decide +kernel⟩
structure LNames (mg : Str → Option Value) : Prop where
  abs : mg "abs" = none
  int : mg "int" = none
  list : mg "list" = none
  len : mg "len" = none
  range : mg "range" = none
/-- a pool of draws -/
structure Pool (x y : Int) : Prop where
  x0 : 0 ≤ x
  y0 : 0 ≤ y
  y1 : y < 2147483647
def PoolAt (H : Hp) (p : Addr) : Prop := ∃ x y, H p = some (.lst [.int x, .int y]) ∧ Pool x y
/-- all but the pool is as it was -/
def Kp (p : Addr) (H H' : Hp) : Prop := PoolAt H' p ∧ ∀ b o, b ≠ p → H b = some o → H' b = some o
theorem Kp.refl {p : Addr} {H : Hp} (h : PoolAt H p) : Kp p H H := ⟨h, fun _ _ _ e => e⟩
theorem Kp.trans {p : Addr} {H H1 H2 : Hp} (a : Kp p H H1) (b : Kp p H1 H2) : Kp p H H2 := ⟨b.1, fun c o n e => b.2 c o n (a.2 c o n e)⟩
theorem Kp.upd {p : Addr} {H : Hp} {x y : Int} (h : Pool x y) : Kp p H (upd H p (.lst [.int x, .int y])) := ⟨⟨x, y, upd_same, h⟩, fun _ _ n e => by rw [upd_ne n]; exact e⟩
theorem Kp.new {p q : Addr} {H : Hp} {o : HO} (h : PoolAt H p) (n : H q = none) : Kp p H (L2.upd H q o) := by
  obtain ⟨x, y, e, k⟩ := h
  exact ⟨⟨x, y, by rw [upd_ne (ne_of_none e n)]; exact e, k⟩, fun _ _ _ e => by rw [upd_ne (ne_of_none e n)]; exact e⟩
theorem Kp.same {p : Addr} {H H1 H2 : Hp} (a : Kp p H H1) (s : Same H1 H2) : Kp p H H2 := by
  obtain ⟨⟨x, y, e, k⟩, h⟩ := a
  exact ⟨⟨x, y, s _ _ e, k⟩, fun b o n e => s _ _ (h b o n e)⟩
theorem Kp.free {p q : Addr} {H H1 : Hp} (a : Kp p H H1) (h0 : PoolAt H p) (h : H1 q = none) : H q = none := by
  cases e : H q with
  | none => rfl
  | some o =>
    by_cases n : q = p
    · subst n
      obtain ⟨⟨x, y, e2, _⟩, _⟩ := a
      rw [e2] at h
      cases h
    · rw [a.2 q o n e] at h
      cases h
/-- a new object changed -/
theorem Kp.put {p q : Addr} {H H1 : Hp} {o : HO} (a : Kp p H H1) (n : H q = none) (hp : q ≠ p) : Kp p H (L2.upd H1 q o) := by
  obtain ⟨⟨x, y, e, k⟩, h⟩ := a
  exact ⟨⟨x, y, by rw [upd_ne hp.symm]; exact e, k⟩, fun b o nb eb => by rw [upd_ne (ne_of_none eb n)]; exact h b o nb eb⟩
theorem b01 (b : Bool) : -(2 ^ 64) < (if b = true then (1 : Int) else 0) ∧ (if b = true then (1 : Int) else 0) < 2 ^ 64 := by
  cases b <;> decide
section
variable {P : Program} {w : World} {K : PySem.W.Frag} {mg : Str → Option Value} {base : Heap}
/-! ### _law_pool -/
def spPool (K : PySem.W.Frag) : Sp := fun vs H Q _ => ∃ (a : Addr) (ns : List Int) (k : Nat), vs = [.ref a, .int k] ∧ SqL K H a (ns.map V.int) ∧ ns.length ≤ 63 ∧ k ≤ 63 ∧ ∀ H' p, Same H H' → H p = none → PoolAt H' p → Q (.ref p) H'
theorem ok_pool {f : Addr} {fd : FuncData} {k : Nat} (F : Fun K "_law_pool" "_law_pool" sPool f fd) (T : LNames mg) : FnOk P w K mg base CX0 (k + 1) f fd ["_law_script", "_law_k"] (spPool K) := by
  refine F.ok scPool (fun vs H Q E h => ?_) (fun cdv A outer s H vs Q E hr h => ?_)
  · obtain ⟨a, ns, j, rfl, _⟩ := h
    rfl
  · obtain ⟨a, ns, j, rfl, hS, hl, hj, q⟩ := h
    refine ⟨_, pss_cons (ps_set (i := 2) scPool.nd rfl (.inl rfl) pe_int)
      (pss_cons (ps_if (pt_cmpR op_lt (pv 1) (pe_callB call_len_seq (by rfl) T.len PySem.boot_len (pa_cons (pv 0) pa_nil)) (nomark _))
        (pss_one (ps_set (i := 2) scPool.nd rfl (.inl rfl) (pe_ix ix_list (pv 0) (pv 1) (fun _ _ => rfl)))) pss_nil)
      (pss_cons (ps_set (i := 3) scPool.nd rfl (.inl rfl) (pe_callB call_abs (by rfl) T.abs (by decide +kernel) (pa_cons (pv 2) pa_nil)))
      (pss_cons (ps_set (i := 4) scPool.nd rfl (.inl rfl) (pe_op op_mod (pe_op op_mul (pe_op op_add (pe_op op_add (pe_op op_mod (pv 3) pe_int) (pe_op op_mul pe_int (pv 1))) pe_int) pe_int) pe_int))
      (pss_one (ps_ret (pe_lst (pa_cons (pe_op op_mul (pv 3) (pe_callTy call_int1 (by rfl) T.int (by decide +kernel) (pa_cons (pe_cmpR op_ge (pv 3) (pe_op op_pow pe_int pe_int) (nomark _)) pa_nil))) (pa_cons (pv 4) pa_nil)))))))), ?_⟩
    have ab : ∀ c : Int, 0 ≤ (if c < 0 then -c else c) := fun c => by split <;> omega
    have seed : ∀ s : Int, 0 ≤ s → Pool (s * (if decide ((10 : Int) ^ (18 : Int).toNat ≤ s) = true then 1 else 0)) ((s % 2147483629 + 7919 * (j : Int) + 31) * 48271 % 2147483647) := fun s h => by
      refine ⟨?_, Int.emod_nonneg _ (by decide), Int.emod_lt_of_pos _ (by decide)⟩
      split
      · omega
      · omega
    refine ⟨_, rfl, .ref a, rfl, a, _, rfl, .inl hS, _, _, rfl, rfl, _, rfl, ite2 (fun e => ?_) (fun e => ?_)⟩
    · have hjl : j < ns.length := by
        have := of_decide_eq_true e
        rw [List.length_map] at this
        omega
      refine ⟨.ref a, rfl, _, rfl, a, _, _, .int ns[j], rfl, rfl, hS, atI_nat (j := j) (by rw [List.getElem?_map, List.getElem?_eq_getElem hjl]; rfl), ?_⟩
      refine ⟨_, rfl, _, rfl, ?_⟩
      refine ⟨_, rfl, _, _, rfl, rfl, (by show (0 : Int) < 2147483629; decide), _, rfl, _, _, rfl, rfl, .inl ⟨by decide, by decide⟩, _, _, rfl, rfl, _, _, rfl, rfl, _, _, rfl, rfl, .inr ⟨by decide, by decide⟩, _, _, rfl, rfl, (by show (0 : Int) < 2147483647; decide), ?_⟩
      refine ⟨_, rfl, _, rfl, _, _, rfl, rfl, ⟨by decide, by decide, by decide⟩, _, _, rfl, rfl, .inr ⟨_, rfl, _, _, rfl, rfl, .inr ?_, _, rfl, by show 2 ≤ sizeLine; decide, fun p np => ?_⟩⟩
      · exact b01 _
      · exact q _ p (same_upd np) np ⟨_, _, upd_same, seed _ (ab _)⟩
    · refine ⟨_, rfl, _, rfl, ?_⟩
      refine ⟨_, rfl, _, _, rfl, rfl, (by show (0 : Int) < 2147483629; decide), _, rfl, _, _, rfl, rfl, .inl ⟨by decide, by decide⟩, _, _, rfl, rfl, _, _, rfl, rfl, _, _, rfl, rfl, .inr ⟨by decide, by decide⟩, _, _, rfl, rfl, (by show (0 : Int) < 2147483647; decide), ?_⟩
      refine ⟨_, rfl, _, rfl, _, _, rfl, rfl, ⟨by decide, by decide, by decide⟩, _, _, rfl, rfl, .inr ⟨_, rfl, _, _, rfl, rfl, .inr ?_, _, rfl, by show 2 ≤ sizeLine; decide, fun p np => ?_⟩⟩
      · exact b01 _
      · exact q _ p (same_upd np) np ⟨_, _, upd_same, seed _ (ab _)⟩
/-! ### _law_draw -/
def spDraw : Sp := fun vs H Q _ => ∃ (p : Addr) (c : Int), vs = [.ref p, .int c] ∧ PoolAt H p ∧ 0 < c ∧ c < 2 ^ 64 ∧ ∀ H' r, Kp p H H' → 0 ≤ r → r < c → Q (.int r) H'
theorem ok_draw {f : Addr} {fd : FuncData} {k : Nat} (F : Fun K "_law_draw" "_law_draw" sDraw f fd) : FnOk P w K mg base CX0 (k + 1) f fd ["_law_pool_here", "_law_count"] spDraw := by
  refine F.ok scDraw (fun vs H Q E h => ?_) (fun cdv A outer s H vs Q E hr h => ?_)
  · obtain ⟨p, c, rfl, _⟩ := h
    rfl
  · obtain ⟨p, c, rfl, ⟨x, y, hp, ⟨x0, y0, y1⟩⟩, c0, c1, q⟩ := h
    refine ⟨_, pss_cons (ps_if (pt_cmpR op_gt (pe_ix ix_list (pv 0) pe_int (fun _ _ => rfl)) pe_int (nomark _))
        (pss_cons (ps_set (i := 2) scDraw.nd rfl (.inl rfl) (pe_op op_mod (pe_ix ix_list (pv 0) pe_int (fun _ _ => rfl)) (pv 1)))
        (pss_cons (ps_asg (pe_op op_fdivW (pe_ix ix_list (pv 0) pe_int (fun _ _ => rfl)) (pv 1)) (pg_sub (pv 0) pe_int set_list))
        (pss_one (ps_ret (pv 2))))) pss_nil)
      (pss_cons (ps_asg (pe_op op_mod (pe_op op_add (pe_op op_mul (pe_ix ix_list (pv 0) pe_int (fun _ _ => rfl)) pe_int) pe_int) pe_int) (pg_sub (pv 0) pe_int set_list))
      (pss_one (ps_ret (pe_op op_mod (pe_op op_fdiv (pe_op op_mod (pe_op op_mul (pe_ix ix_list (pv 0) pe_int (fun _ _ => rfl)) (pe_ix ix_list (pv 0) pe_int (fun _ _ => rfl))) pe_int) pe_int) (pv 1))))), ?_⟩
    refine ⟨.ref p, rfl, p, _, _, .int x, rfl, rfl, SqL.of hp, atI_nat (j := 0) rfl, _, _, rfl, rfl, _, rfl, ite2 (fun e => ?_) (fun e => ?_)⟩
    · refine ⟨.ref p, rfl, p, _, _, .int x, rfl, rfl, SqL.of hp, atI_nat (j := 0) rfl, _, rfl, _, _, rfl, rfl, c0, ?_⟩
      refine ⟨.ref p, rfl, p, _, _, .int x, rfl, rfl, SqL.of hp, atI_nat (j := 0) rfl, _, rfl, _, _, rfl, rfl, wide_div (b := 64) c0 (by omega) (by decide) (by decide), ?_⟩
      refine ⟨.ref p, rfl, p, _, _, 0, rfl, rfl, hp, rfl, ?_⟩
      refine ⟨_, rfl, ?_⟩
      exact q _ _ (Kp.upd ⟨Int.ediv_nonneg x0 (Int.le_of_lt c0), y0, y1⟩) (Int.emod_nonneg _ (by omega)) (Int.emod_lt_of_pos _ c0)
    · refine ⟨.ref p, rfl, p, _, _, .int y, rfl, rfl, SqL.of hp, atI_nat (j := 1) rfl, _, _, rfl, rfl, .inr ⟨by decide, by decide⟩, _, _, rfl, rfl, _, _, rfl, rfl, (by show (0 : Int) < 2147483647; decide), ?_⟩
      have hy0 : 0 ≤ (y * 48271 + 11) % 2147483647 := Int.emod_nonneg _ (by decide)
      have hy1 : (y * 48271 + 11) % 2147483647 < 2147483647 := Int.emod_lt_of_pos _ (by decide)
      refine ⟨.ref p, rfl, p, _, _, 1, rfl, rfl, hp, rfl, ?_⟩
      have hp2 : (upd H p (.lst ([V.int x, V.int y].set 1 (.int ((y * 48271 + 11) % 2147483647))))) p = some (.lst [.int x, .int ((y * 48271 + 11) % 2147483647)]) := upd_same
      refine ⟨.ref p, rfl, p, _, _, .int ((y * 48271 + 11) % 2147483647), rfl, rfl, SqL.of hp2, atI_nat (j := 1) rfl, .ref p, rfl, p, _, _, .int ((y * 48271 + 11) % 2147483647), rfl, rfl, SqL.of hp2, atI_nat (j := 1) rfl, _, _, rfl, rfl, .inl ⟨by omega, by omega⟩, _, _, rfl, rfl, (by show (0 : Int) < 2147483629; decide), _, _, rfl, rfl, ⟨by decide, by decide⟩, _, rfl, _, _, rfl, rfl, c0, ?_⟩
      exact q _ _ (Kp.upd ⟨x0, hy0, hy1⟩) (Int.emod_nonneg _ (by omega)) (Int.emod_lt_of_pos _ c0)
end
end T1
namespace T1
open PySem PySem.Spec PyProof.Rows L2 TK BstM DatI
theorem pick5a (r : Int) (h0 : 0 ≤ r) (h1 : r < 5) : ∃ v : Int, atI [V.int 1, V.int 2, V.int 5, V.int (10 ^ (6 : Int).toNat), V.int (10 ^ (16 : Int).toNat)] r = some (.int v) ∧ 1 ≤ v ∧ v ≤ 10 ^ 16 := by
  have : r = 0 ∨ r = 1 ∨ r = 2 ∨ r = 3 ∨ r = 4 := by omega
  rcases this with rfl | rfl | rfl | rfl | rfl
  · exact ⟨1, rfl, by decide, by decide⟩
  · exact ⟨2, rfl, by decide, by decide⟩
  · exact ⟨5, rfl, by decide, by decide⟩
  · exact ⟨10 ^ 6, rfl, by decide, by decide⟩
  · exact ⟨10 ^ 16, rfl, by decide, by decide⟩
theorem pick5b (r : Int) (h0 : 0 ≤ r) (h1 : r < 5) : ∃ v : Int, atI [V.int 0, V.int (-3), V.int (10 ^ (17 : Int).toNat), V.int (-(10 ^ (18 : Int).toNat)), V.int (-17)] r = some (.int v) ∧ -(10 ^ 18) ≤ v ∧ v ≤ 10 ^ 17 := by
  have : r = 0 ∨ r = 1 ∨ r = 2 ∨ r = 3 ∨ r = 4 := by omega
  rcases this with rfl | rfl | rfl | rfl | rfl
  · exact ⟨0, rfl, by decide, by decide⟩
  · exact ⟨-3, rfl, by decide, by decide⟩
  · exact ⟨10 ^ 17, rfl, by decide, by decide⟩
  · exact ⟨-(10 ^ 18), rfl, by decide, by decide⟩
  · exact ⟨-17, rfl, by decide, by decide⟩
theorem pick3 (r : Int) (h0 : 0 ≤ r) (h1 : r < 3) : ∃ v : Int, atI [V.int 1, V.int 10, V.int (10 ^ (15 : Int).toNat)] r = some (.int v) ∧ 1 ≤ v ∧ v ≤ 10 ^ 15 := by
  have : r = 0 ∨ r = 1 ∨ r = 2 := by omega
  rcases this with rfl | rfl | rfl
  · exact ⟨1, rfl, by decide, by decide⟩
  · exact ⟨10, rfl, by decide, by decide⟩
  · exact ⟨10 ^ 15, rfl, by decide, by decide⟩
/-- strictly ascending keys -/
structure Keys (ks : List Int) : Prop where
  lt : ks.Pairwise (· < ·)
  rng : ∀ k ∈ ks, InR k
theorem keys_last {ks : List Int} (h : Keys ks) (hb : ∀ k ∈ ks, k < 10 ^ 18) (hl : 0 < ks.length) : Keys (ks.set (ks.length - 1) (10 ^ 18)) := by
  have e : ks.set (ks.length - 1) (10 ^ 18) = ks.dropLast ++ [10 ^ 18] := by
    have hne : ks ≠ [] := fun z => by rw [z] at hl; exact absurd hl (Nat.lt_irrefl _)
    conv => lhs; rw [← List.dropLast_concat_getLast hne]
    rw [List.set_append_right _ _ (by simp)]
    simp
  rw [e]
  refine ⟨?_, fun k hk => ?_⟩
  · rw [List.pairwise_append]
    refine ⟨h.lt.sublist (List.dropLast_sublist _), List.pairwise_singleton _ _, fun a ha b hb' => ?_⟩
    rw [List.mem_singleton] at hb'
    subst hb'
    exact hb a ((List.dropLast_sublist ks).subset ha)
  · rcases List.mem_append.mp hk with hk | hk
    · exact h.rng k ((List.dropLast_sublist ks).subset hk)
    · rw [List.mem_singleton] at hk
      subst hk
      unfold InR
      omega
section
variable {P : Program} {w : World} {K : PySem.W.Frag} {mg : Str → Option Value} {base : Heap}
/-! ### _law_keys -/
def spKeys : Sp := fun vs H Q _ => ∃ (p : Addr) (n : Nat), vs = [.ref p, .int n] ∧ PoolAt H p ∧ n ≤ 40 ∧ ∀ H' q ks, Kp p H H' → H q = none → q ≠ p → H' q = some (.lst (ks.map V.int)) → Keys ks → ks.length = n → Q (.ref q) H'
theorem ok_keys {f fD : Addr} {fd fdD : FuncData} {k : Nat} (F : Fun K "_law_keys" "_law_keys" sKeys f fd) (FD : Fun K "_law_draw" "_law_draw" sDraw fD fdD) (gD : mg "_law_draw" = some (.ref fD)) (T : LNames mg) :
    FnOk P w K mg base CX0 (k + 2) f fd ["_law_pool_here", "_law_many"] spKeys := by
  have GD : FnOk P w K mg base CX0 (k + 1) fD fdD ["_law_pool_here", "_law_count"] spDraw := ok_draw FD
  have bD := FD.binds (ps := ["_law_pool_here", "_law_count"]) fun _ _ _ _ _ _ us hl => match us, hl with | [_, _], _ => rfl
  refine F.ok scKeys (fun vs H Q E h => ?_) (fun cdv A outer s H vs Q E hr h => ?_)
  · obtain ⟨p, n, rfl, _⟩ := h
    rfl
  · obtain ⟨p, n, rfl, hp, hn, q⟩ := h
    refine ⟨_, pss_cons (ps_set (i := 2) scKeys.nd rfl (.inl rfl) (pe_ix ix_list (pe_lst (pa_cons pe_int (pa_cons pe_int (pa_cons pe_int (pa_cons (pe_op op_pow pe_int pe_int) (pa_cons (pe_op op_pow pe_int pe_int) pa_nil))))))
        (pe_call GD hr (by rfl) gD FD.kp bD .nil pass0 (pa_cons (pv 0) (pa_cons pe_int pa_nil))) (fun _ _ => rfl)))
      (pss_cons (ps_set (i := 3) scKeys.nd rfl (.inl rfl) (pe_ix ix_list (pe_lst (pa_cons pe_int (pa_cons (pe_un un_neg pe_int) (pa_cons (pe_op op_pow pe_int pe_int) (pa_cons (pe_un un_neg (pe_op op_pow pe_int pe_int)) (pa_cons (pe_un un_neg pe_int) pa_nil))))))
        (pe_call GD hr (by rfl) gD FD.kp bD .nil pass0 (pa_cons (pv 0) (pa_cons pe_int pa_nil))) (fun _ _ => rfl)))
      (pss_cons (ps_set (i := 3) scKeys.nd rfl (.inl rfl) (pe_op op_add (pv 3) (pe_call GD hr (by rfl) gD FD.kp bD .nil pass0 (pa_cons (pv 0) (pa_cons
        (pe_ix ix_list (pe_lst (pa_cons pe_int (pa_cons pe_int (pa_cons (pe_op op_pow pe_int pe_int) pa_nil)))) (pe_call GD hr (by rfl) gD FD.kp bD .nil pass0 (pa_cons (pv 0) (pa_cons pe_int pa_nil))) (fun _ _ => rfl)) pa_nil)))))
      (pss_cons (ps_set (i := 4) scKeys.nd rfl (.inl rfl) (pe_lst pa_nil))
      (pss_cons (ps_for PassesOwn.never rfl (pi_range1 rfl T.range (pa_cons (pv 1) pa_nil)) (pg_name (i := 5) scKeys.nd rfl (Or.inl rfl))
        (pss_cons (ps_expr (pe_bm PySem.F.plainAttrs_list PySem.F.slot_list_append PySem.F.type_list_append mt_append (pv 4) (pa_cons (pv 3) pa_nil)))
        (pss_one (ps_set (i := 3) scKeys.nd rfl (.inl rfl) (pe_op op_add (pe_op op_add (pv 3) pe_int) (pe_call GD hr (by rfl) gD FD.kp bD .nil pass0 (pa_cons (pv 0) (pa_cons (pv 2) pa_nil))))))))
      (pss_cons (ps_if (PW.pt (pw_and (pt_cmpR op_eq (pe_call GD hr (by rfl) gD FD.kp bD .nil pass0 (pa_cons (pv 0) (pa_cons pe_int pa_nil))) pe_int (nomark _)) (pw_and1 (pt_cmpR (op_neD hr.units) (pv 4) (pe_lst pa_nil) (nomark _)))))
        (pss_one (ps_asg (pe_op op_pow pe_int pe_int) (pg_sub (pv 4) (pe_un un_neg pe_int) set_list))) pss_nil)
      (pss_one (ps_ret (pv 4)))))))), ?_⟩
    -- the spread
    refine ⟨_, _, rfl, rfl, ⟨by decide, by decide, by decide⟩, _, _, rfl, rfl, ⟨by decide, by decide, by decide⟩, by show 5 ≤ sizeLine; decide, fun l1 n1 => ?_⟩
    have k1 := Kp.new (o := .lst [V.int 1, V.int 2, V.int 5, V.int (10 ^ (6 : Int).toNat), V.int (10 ^ (16 : Int).toNat)]) hp n1
    have l1p : l1 ≠ p := by obtain ⟨x, y, e, _⟩ := hp; exact (ne_of_none e n1).symm
    refine ⟨_, rfl, p, 5, rfl, k1.1, by decide, by decide, fun H1 r1 kd1 r10 r11 => ?_⟩
    obtain ⟨v1, e1, v10, v11⟩ := pick5a r1 r10 r11
    refine ⟨l1, _, _, .int v1, rfl, rfl, SqL.of (kd1.2 _ _ l1p upd_same), e1, ?_⟩
    have K1 := k1.trans kd1
    -- the first key
    refine ⟨_, rfl, _, _, rfl, rfl, ⟨by decide, by decide, by decide⟩, _, _, rfl, rfl, ⟨by decide, by decide, by decide⟩, _, rfl, _, rfl, by show 5 ≤ sizeLine; decide, fun l2 n2 => ?_⟩
    have k2 := Kp.new (o := .lst [V.int 0, V.int (-3), V.int (10 ^ (17 : Int).toNat), V.int (-(10 ^ (18 : Int).toNat)), V.int (-17)]) K1.1 n2
    have l2p : l2 ≠ p := by obtain ⟨x, y, e, _⟩ := K1.1; exact (ne_of_none e n2).symm
    refine ⟨_, rfl, p, 5, rfl, k2.1, by decide, by decide, fun H2 r2 kd2 r20 r21 => ?_⟩
    obtain ⟨v2, e2, v20, v21⟩ := pick5b r2 r20 r21
    refine ⟨l2, _, _, .int v2, rfl, rfl, SqL.of (kd2.2 _ _ l2p upd_same), e2, ?_⟩
    have K2 := K1.trans (k2.trans kd2)
    refine ⟨_, rfl, _, rfl, _, _, rfl, rfl, ⟨by decide, by decide, by decide⟩, by show 3 ≤ sizeLine; decide, fun l3 n3 => ?_⟩
    have k3 := Kp.new (o := .lst [V.int 1, V.int 10, V.int (10 ^ (15 : Int).toNat)]) K2.1 n3
    have l3p : l3 ≠ p := by obtain ⟨x, y, e, _⟩ := K2.1; exact (ne_of_none e n3).symm
    refine ⟨_, rfl, p, 3, rfl, k3.1, by decide, by decide, fun H3 r3 kd3 r30 r31 => ?_⟩
    obtain ⟨v3, e3, v30, v31⟩ := pick3 r3 r30 r31
    refine ⟨l3, _, _, .int v3, rfl, rfl, SqL.of (kd3.2 _ _ l3p upd_same), e3, ?_⟩
    have K3 := K2.trans (k3.trans kd3)
    refine ⟨p, v3, rfl, K3.1, by omega, by omega, fun H4 r4 kd4 r40 r41 => ⟨_, _, rfl, rfl, ?_⟩⟩
    have K4 := K3.trans kd4
    -- found = []
    refine ⟨Nat.zero_le _, fun L nL => ?_⟩
    have nL0 : H L = none := K4.free hp nL
    have Lp : L ≠ p := by obtain ⟨x, y, e, _⟩ := K4.1; exact (ne_of_none e nL).symm
    have K5 : Kp p H (upd H4 L (.lst [])) := K4.trans (Kp.new K4.1 nL)
    refine ⟨_, rfl, n, rfl, by omega, by omega, ?_⟩
    refine for_range (lo := 0) (n := n) (fun i σ H' => ∃ (c : Int) (ks : List Int) (y5 : Option V), σ = [some (.ref p), some (.int n), some (.int v1), some (.int c), some (.ref L), y5] ∧ Kp p H H' ∧ H' L = some (.lst (ks.map V.int)) ∧ ks.length = i ∧ i ≤ n ∧ ks.Pairwise (· < ·) ∧ (∀ k ∈ ks, -(10 ^ 18) ≤ k ∧ k < c) ∧ -(10 ^ 18) ≤ c ∧ c ≤ 10 ^ 17 + 10 ^ 15 + i * 10 ^ 16)
      ⟨v2 + r4, [], none, rfl, K5, by rw [upd_same]; rfl, rfl, Nat.zero_le _, List.Pairwise.nil, fun k hk => (nomatch hk), by omega, by omega⟩ (fun i σ H' hi h => ?_) (fun σ H' h => ?_)
    · obtain ⟨c, ks, y5, rfl, kp, hL, hkl, _, hlt, hb, c0, c1⟩ := h
      refine ⟨_, rfl, .inl ⟨rfl, _, .inl (.inl hL)⟩, _, rfl, L, _, _, rfl, rfl, hL, ?_, ?_⟩
      · rw [List.length_map, hkl]
        exact small1000 (by omega)
      · have kp2 := kp.put (o := .lst (ks.map V.int ++ [.int c])) nL0 Lp
        refine ⟨_, rfl, _, _, rfl, rfl, _, rfl, _, rfl, p, v1, rfl, kp2.1, by omega, by omega, fun H5 r5 kd5 r50 r51 => ⟨_, _, rfl, rfl, c + 1 + r5, ks ++ [c], _, rfl, kp2.trans kd5, ?_, ?_, hi, ?_, fun k hk => ?_, ?_, ?_⟩⟩
        · rw [kd5.2 _ _ Lp upd_same, List.map_append]
          rfl
        · rw [List.length_append, hkl]
          rfl
        · rw [List.pairwise_append]
          refine ⟨hlt, List.pairwise_singleton _ _, fun a ha b hb' => ?_⟩
          rw [List.mem_singleton] at hb'
          subst hb'
          exact (hb a ha).2
        · rcases List.mem_append.mp hk with hk | hk
          · have := hb k hk
            omega
          · rw [List.mem_singleton] at hk
            subst hk
            omega
        · omega
        · omega
    · obtain ⟨c, ks, y5, rfl, kp, hL, hkl, _, hlt, hb, c0, c1⟩ := h
      have hks : Keys ks := ⟨hlt, fun k hk => by have := hb k hk; unfold InR; omega⟩
      refine ⟨_, rfl, p, 4, rfl, kp.1, by decide, by decide, fun H5 r5 kd5 r50 r51 => ?_⟩
      have kp5 := kp.trans kd5
      have hL5 : H5 L = some (.lst (ks.map V.int)) := kd5.2 _ _ Lp hL
      refine ⟨rfl, _, rfl, ite2 (fun e => ?_) (fun e => ?_)⟩
      · -- found != []
        refine ⟨_, rfl, Nat.zero_le _, fun l6 n6 => ?_⟩
        have s6 : Same H5 (upd H5 l6 (.lst [])) := same_upd n6
        have hL6 := s6 _ _ hL5
        have kp6 := kp5.same s6
        refine ⟨_, _, dp_ints (SqL.of hL6), dp_ints (ns := []) (SqL.of upd_same), shaped_ints _, shaped_ints _, _, rfl, ?_⟩
        rw [eqv_ints]
        refine ite2 (fun e2 => ?_) (fun e2 => ?_)
        · have hne : ks ≠ [] := fun z => by rw [z] at e2; exact absurd e2 (by decide)
          have hl0 : 0 < ks.length := List.length_pos_iff.mpr hne
          refine ⟨_, _, rfl, rfl, ⟨by decide, by decide, by decide⟩, _, rfl, _, rfl, L, _, _, ks.length - 1, rfl, rfl, hL6, ?_, ?_⟩
          · unfold ixN
            rw [if_neg (by decide), List.length_map, if_pos (by omega)]
            exact congrArg some (by omega)
          · refine ⟨_, rfl, q _ L (ks.set (ks.length - 1) (10 ^ 18)) (kp6.put nL0 Lp) nL0 Lp ?_ (keys_last hks (fun k hk => by have := hb k hk; omega) hl0) (by rw [List.length_set, hkl])⟩
            rw [upd_same, List.map_set]
            rfl
        · exact ⟨_, rfl, q _ L ks kp6 nL0 Lp hL6 hks hkl⟩
      · exact ⟨_, rfl, q _ L ks kp5 nL0 Lp hL5 hks hkl⟩
end
end T1
namespace T1
open PySem PySem.Spec PyProof.Rows L2 TK BstM DatI
theorem eraseP : ∀ (l : List Int) (i : Nat) (h : i < l.length), (l[i] :: l.eraseIdx i).Perm l
  | a :: l, 0, _ => List.Perm.refl _
  | a :: l, i + 1, h => by
    have h' : i < l.length := by simpa using h
    have := eraseP l i h'
    show (l[i] :: a :: l.eraseIdx i).Perm (a :: l)
    exact (List.Perm.swap _ _ _).trans (List.Perm.cons a this)
theorem map_erase (f : Int → V) : ∀ (l : List Int) (i : Nat), (l.map f).eraseIdx i = (l.eraseIdx i).map f
  | [], _ => rfl
  | _ :: _, 0 => rfl
  | a :: l, i + 1 => by
    show f a :: (l.map f).eraseIdx i = f a :: (l.eraseIdx i).map f
    rw [map_erase f l i]
section
variable {P : Program} {w : World} {K : PySem.W.Frag} {mg : Str → Option Value} {base : Heap}
/-! ### _law_shuffle -/
def spShuf : Sp := fun vs H Q _ => ∃ (p b : Addr) (ks : List Int), vs = [.ref p, .ref b] ∧ PoolAt H p ∧ b ≠ p ∧ H b = some (.lst (ks.map V.int)) ∧ ks.length ≤ 40 ∧ ∀ H' q (ms : List Int), Kp p H H' → H q = none → q ≠ p → H' q = some (.lst (ms.map V.int)) → ms.Perm ks → Q (.ref q) H'
theorem ok_shuf {f fD : Addr} {fd fdD : FuncData} {k : Nat} (F : Fun K "_law_shuffle" "_law_shuffle" sShuf f fd) (FD : Fun K "_law_draw" "_law_draw" sDraw fD fdD) (gD : mg "_law_draw" = some (.ref fD)) (T : LNames mg) :
    FnOk P w K mg base CX0 (k + 2) f fd ["_law_pool_here", "_law_some"] spShuf := by
  have GD : FnOk P w K mg base CX0 (k + 1) fD fdD ["_law_pool_here", "_law_count"] spDraw := ok_draw FD
  have bD := FD.binds (ps := ["_law_pool_here", "_law_count"]) fun _ _ _ _ _ _ us hl => match us, hl with | [_, _], _ => rfl
  refine F.ok scShuf (fun vs H Q E h => ?_) (fun cdv A outer s H vs Q E hr h => ?_)
  · obtain ⟨p, b, ks, rfl, _⟩ := h
    rfl
  · obtain ⟨p, b, ks, rfl, hp, hbp, hb, hkl, q⟩ := h
    refine ⟨_, pss_cons (ps_set (i := 2) scShuf.nd rfl (.inl rfl) (pe_callTy call_list_of (by rfl) T.list (by decide +kernel) (pa_cons (pv 1) pa_nil)))
      (pss_cons (ps_set (i := 3) scShuf.nd rfl (.inl rfl) (pe_lst pa_nil))
      (pss_cons (ps_while PassesOwn.never (pt_cmpR (op_neD hr.units) (pv 2) (pe_lst pa_nil) (nomark _))
        (pss_one (ps_expr (pe_bm PySem.F.plainAttrs_list PySem.F.slot_list_append PySem.F.type_list_append mt_append (pv 3) (pa_cons
          (pe_bm PySem.F.plainAttrs_list PySem.F.slot_list_pop PySem.F.type_list_pop mt_popAt (pv 2) (pa_cons
            (pe_call GD hr (by rfl) gD FD.kp bD .nil pass0 (pa_cons (pv 0) (pa_cons (pe_callB call_len_seq (by rfl) T.len PySem.boot_len (pa_cons (pv 2) pa_nil)) pa_nil))) pa_nil)) pa_nil)))))
      (pss_one (ps_ret (pv 3))))), ?_⟩
    refine ⟨_, rfl, b, _, rfl, .inl (SqL.of hb), fun l nl => ?_⟩
    have k1 := Kp.new (o := .lst (ks.map V.int)) hp nl
    have lp : l ≠ p := by obtain ⟨x, y, e, _⟩ := hp; exact (ne_of_none e nl).symm
    refine ⟨Nat.zero_le _, fun g ng => ?_⟩
    have gp : g ≠ p := by obtain ⟨x, y, e, _⟩ := k1.1; exact (ne_of_none e ng).symm
    have gl : g ≠ l := fun z => by rw [z, upd_same] at ng; cases ng
    have ng0 : H g = none := k1.free hp ng
    have k2 := k1.trans (Kp.new (o := .lst []) k1.1 ng)
    refine ⟨fun m σ H' => ∃ left fnd : List Int, m = left.length ∧ σ = [some (.ref p), some (.ref b), some (.ref l), some (.ref g)] ∧ Kp p H H' ∧ H' l = some (.lst (left.map V.int)) ∧ H' g = some (.lst (fnd.map V.int)) ∧ (fnd ++ left).Perm ks, ⟨ks.length, ks, [], rfl, rfl, k2, ?_, ?_, List.Perm.refl _⟩, ?_⟩
    · rw [upd_ne gl.symm, upd_same]
    · rw [upd_same]
      rfl
    rintro m σ H' ⟨left, fnd, rfl, rfl, kp, hl, hg, pm⟩
    have htot : fnd.length + left.length = ks.length := by rw [← List.length_append]; exact pm.length_eq
    refine ⟨_, rfl, Nat.zero_le _, fun e ne => ?_⟩
    have se : Same H' (upd H' e (.lst [])) := same_upd ne
    have kp1 := kp.same se
    have hl1 := se _ _ hl
    have hg1 := se _ _ hg
    refine ⟨_, _, dp_ints (SqL.of hl1), dp_ints (ns := []) (SqL.of upd_same), shaped_ints _, shaped_ints _, _, rfl, ?_⟩
    rw [eqv_ints]
    generalize hH1 : upd H' e (.lst []) = H1 at kp1 hl1 hg1 ⊢
    refine ite2 (fun e2 => ?_) (fun e2 => ?_)
    · have hne : left ≠ [] := fun z => by rw [z] at e2; exact absurd e2 (by decide)
      have hl0 : 0 < left.length := List.length_pos_iff.mpr hne
      refine ⟨fun σ' H2 => ∃ left' fnd' : List Int, left'.length < left.length ∧ σ' = [some (.ref p), some (.ref b), some (.ref l), some (.ref g)] ∧ Kp p H H2 ∧ H2 l = some (.lst (left'.map V.int)) ∧ H2 g = some (.lst (fnd'.map V.int)) ∧ (fnd' ++ left').Perm ks, fun σ' H2 hN => ?_, ?_⟩
      · obtain ⟨left', fnd', c1, c2, c3⟩ := hN
        exact ⟨left'.length, c1, left', fnd', rfl, c2, c3⟩
      · refine ⟨_, rfl, .inl ⟨rfl, _, .inl (.inl hg1)⟩, _, rfl, .inl ⟨rfl, _, .inl (.inl hl1)⟩, _, rfl, _, rfl, l, _, rfl, .inl (SqL.of hl1), p, _, rfl, kp1.1, ?_, ?_, fun H2 r kd r0 r1 => ?_⟩
        · rw [List.length_map]; omega
        · rw [List.length_map]; omega
        · rw [List.length_map] at r1
          have hr' : r.toNat < left.length := by omega
          have hl2 := kd.2 _ _ lp hl1
          have hg2 := kd.2 _ _ gp hg1
          refine ⟨l, _, r, r.toNat, .int left[r.toNat], rfl, rfl, hl2, by omega, by omega, ?_, ?_, ?_⟩
          · have hr0 : ¬ r < 0 := by omega
            simp [seqIndex?, hr0, r0, r1]
          · rw [List.getElem?_map, List.getElem?_eq_getElem hr']
            rfl
          · have hg3 : (upd H2 l (.lst ((left.map V.int).eraseIdx r.toNat))) g = some (.lst (fnd.map V.int)) := by rw [upd_ne gl]; exact hg2
            refine ⟨g, _, _, rfl, rfl, hg3, ?_, left.eraseIdx r.toNat, fnd ++ [left[r.toNat]], ?_, rfl, ?_, ?_, ?_, ?_⟩
            · rw [List.length_map]
              exact small1000 (by omega)
            · rw [List.length_eraseIdx_of_lt hr']
              omega
            · exact Kp.put (Kp.put (kp1.trans kd) nl lp) ng0 gp
            · rw [upd_ne gl.symm, upd_same, map_erase]
            · rw [upd_same, List.map_append]
              rfl
            · have := eraseP left r.toNat hr'
              rw [List.append_assoc]
              exact ((List.Perm.append_left fnd this)).trans pm
    · have he : left = [] := by
        by_cases z : left = []
        · exact z
        · exact absurd (by rw [decide_eq_false z]; rfl) e2
      subst he
      rw [List.append_nil] at pm
      exact ⟨_, rfl, q _ g fnd kp1 ng0 gp hg1 pm⟩
end
end T1
namespace T1
open PySem PySem.Spec PyProof.Rows L2 TK BstM DatI
abbrev sLPar : Stmt := topS 17
abbrev nLPar : List Str := ["_law_order_here", "_law_found", "_law_at", "_law_key", "_law_parent", "_law_other", "_law_beside", "_law_one"]
theorem scLPar : FnScope nLPar ["_law_order_here"] (defScope sLPar) := ⟨rfl, rfl, rfl, by decide +kernel, rfl, by decide +kernel, by decide +kernel⟩
structure PNames (mg : Str → Option Value) : Prop where
  enum : mg "enumerate" = none
  min : mg "min" = none
  max : mg "max" = none
  tuple : mg "tuple" = none
  sorted : mg "sorted" = none
theorem cut_to (xs : List V) (i : Nat) : cutV xs none (some (i : Int)) = xs.take i := by
  unfold cutV
  rw [HT.sIx_none, HT.sIx_nat, List.drop_zero, Nat.sub_zero]
  by_cases h : i ≤ xs.length
  · rw [Nat.min_eq_left h]
  · rw [Nat.min_eq_right (by omega), List.take_of_length_le (Nat.le_refl _), List.take_of_length_le (by omega)]
theorem cut_map (ns : List Int) (i : Nat) : cutV (ns.map V.int) none (some (i : Int)) = (ns.take i).map V.int := by
  rw [cut_to, List.map_take]
/-- the test of the law's comprehension -/
theorem btw_iff (k o x : Int) : (decide ((if o < k then o else k) < x) && decide (x < (if o > k then o else k))) = decide (btw k o x) := by
  rw [Bool.eq_iff_iff]
  simp only [Bool.and_eq_true, decide_eq_true_eq]
  unfold btw
  by_cases h : o < k
  · have h2 : ¬ o > k := by omega
    rw [if_pos h, if_neg h2]
    omega
  · by_cases h3 : o > k
    · rw [if_neg h, if_pos h3]
      omega
    · rw [if_neg h, if_neg h3]
      omega
theorem clear_filter (l : List Int) (k o : Int) : decide (l.filter (fun x => decide (btw k o x)) = []) = clear l k o := by
  rw [Bool.eq_iff_iff]
  simp only [decide_eq_true_eq]
  rw [List.filter_eq_nil_iff, clear_iff]
  simp
theorem take_snoc {ns : List Int} {i : Nat} (h : i < ns.length) : ns.take (i + 1) = ns.take i ++ [ns[i]] := List.take_succ_eq_append_getElem h
/-- the law's parents are those of the tree -/
theorem law_parent {ns : List Int} (h : ns.Nodup) {i : Nat} (hi : i < ns.length) : lastClear (ns.take i) ns[i] (ns.take i) = (placeR (ns.take i).reverse ns[i]).1 := by
  have := lastClear_place (ns.take i).reverse (nodup_take h i) ns[i] (not_in_take h hi)
  rw [List.reverse_reverse] at this
  exact this
section
variable {P : Program} {w : World} {K : PySem.W.Frag} {mg : Str → Option Value} {base : Heap}
/-! ### _law_parents -/
theorem ok_lpar {f : Addr} {fd : FuncData} {k : Nat} (F : Fun K "_law_parents" "_law_parents" sLPar f fd) (T : PNames mg) : FnOk P w K mg base CX0 (k + 1) f fd ["_law_order_here"] (spPar K) := by
  refine F.ok scLPar (fun vs H Q E h => ?_) (fun cdv A outer s H vs Q E hr h => ?_)
  · obtain ⟨a, ns, rfl, _⟩ := h
    rfl
  · obtain ⟨a, ns, rfl, hS, hnd, hlen, q⟩ := h
    have hu := hu_of hr
    refine ⟨_, pss_cons (ps_set (i := 1) scLPar.nd rfl (.inl rfl) pe_dnewK)
      (pss_cons (ps_for PassesOwn.never rfl (pi_enum (by rfl) T.enum (pa_cons (pv 0) pa_nil)) (pg_tup rfl (pgs_cons (pg_name (i := 2) scLPar.nd rfl (.inl rfl)) (pgs_cons (pg_name (i := 3) scLPar.nd rfl (.inr rfl)) pgs_nil)))
        (pss_cons (ps_set (i := 4) scLPar.nd rfl (.inl rfl) pe_non)
        (pss_cons (ps_for PassesOwn.never rfl (pi_list (pe_slice sl_list (pv 0) po_none (po_some (pv 2)))) (pg_name (i := 5) scLPar.nd rfl (.inr rfl))
          (pss_cons (ps_setLc (i := 6) (own := [("_law_one", 7)]) (g := gName 7) (by rfl) scLPar.nd rfl rfl (sw_true rfl rfl rfl (by decide +kernel)) (pi_list (pe_slice sl_list (pv 0) po_none (po_some (pv 2))))
            (blkOk_by (N := nLPar) (sc := defScope sLPar) (by decide +kernel)) (fun _ _ _ _ _ => pg_name (i := 7) scLPar.nd rfl (Or.inl rfl))
            (fun _ _ _ _ _ => pts_one (pt_chain op_lt op_lt (pe_callB (call_min2 rfl) (by rfl) T.min (by decide +kernel) (pa_cons (pv 3) (pa_cons (pv 5) pa_nil))) (pv 7) (pe_callB (call_max2 rfl) (by rfl) T.max (by decide +kernel) (pa_cons (pv 3) (pa_cons (pv 5) pa_nil)))))
            (fun _ _ _ _ _ => pv 7))
          (pss_one (ps_if (pt_cmpR (op_eqD hr.units) (pv 6) (pe_lst pa_nil) (nomark _)) (pss_one (ps_set (i := 4) scLPar.nd rfl (.inl rfl) (pv 5))) pss_nil))))
        (pss_one (ps_dput hu (pv 1) (pv 3) (pv 4) rfl)))))
      (pss_one (ps_ret (pv 1)))), ?_⟩
    intro p np
    have s1 : Same H (upd H p (.dK [])) := same_upd np
    refine ⟨.ref a, rfl, a, ns.map V.int, rfl, s1.seq hS, ?_⟩
    refine for_it (walk_enum (xs := ns.map V.int)) (fun i σ H' => ∃ y2 y3 y4 y5 y6, σ = [some (.ref a), some (.ref p), y2, y3, y4, y5, y6, none] ∧ Same H H' ∧ i ≤ ns.length ∧ H' p = some (.dK (parsR (ns.take i).reverse)))
      ⟨none, none, none, none, none, rfl, s1, Nat.zero_le _, by rw [upd_same]; rfl⟩ (fun i σ H' _ h => ?_) (fun i x σ H1 H2 hi h y => ?_) (fun σ H' h => ?_)
    · obtain ⟨_, _, _, _, _, _, sm, _⟩ := h
      exact sm.seq hS
    · obtain ⟨y2, y3, y4, y5, y6, rfl, sm, _, hp⟩ := h
      obtain ⟨t, x1, x2, rfl, nt, rfl, e1, e2⟩ := y
      have hi' : i < ns.length := by rw [List.length_map] at hi; exact hi
      obtain rfl : x1 = .int (i : Nat) := (Option.some.inj e1).symm
      obtain rfl : x2 = .int ns[i] := by
        have e3 : (ns.map V.int)[i]? = some x2 := e2
        rw [List.getElem?_map, List.getElem?_eq_getElem hi'] at e3
        exact (Option.some.inj e3).symm
      have hkr := not_in_take hnd hi'
      have hlp := law_parent hnd hi'
      refine ⟨t, [.int (i : Nat), .int ns[i]], rfl, .inl (.inl upd_same), rfl, _, [.int ns[i]], rfl, _, [], rfl, rfl, ?_⟩
      have st : Same H1 (upd H1 t (.tup [.int (i : Nat), .int ns[i]])) := same_upd nt
      generalize hk : ns[i] = key at hkr hlp st ⊢
      generalize upd H1 t (.tup [.int (i : Nat), .int key]) = H2 at st ⊢
      -- for other in order[:at]
      refine ⟨_, rfl, _, rfl, (i : Int), rfl, a, _, rfl, st.seq (sm.seq hS), fun l nl => ⟨l, rfl, ⟨_, .inl (.inl upd_same)⟩, ?_⟩⟩
      rw [cut_map]
      have hpl : (ns.take i).length = i := by rw [List.length_take]; omega
      generalize hpre : ns.take i = pre at hp hkr hlp hpl ⊢
      have sl : Same H2 (upd H2 l (.lst (pre.map V.int))) := same_upd nl
      generalize hH3 : upd H2 l (.lst (pre.map V.int)) = H3 at sl ⊢
      have hl3 : H3 l = some (.lst (pre.map V.int)) := by rw [← hH3]; exact upd_same
      refine for_list (xs := pre.map V.int) (fun j σ H' => ∃ y5 y6, σ = [some (.ref a), some (.ref p), some (.int i), some (.int key), some (oV (lastClear pre key (pre.take j))), y5, y6, none] ∧ Same H3 H')
        ⟨_, _, rfl, Same.refl _⟩ (fun j σ H' _ h => ?_) (fun j x σ H4 hx h => ?_) (fun σ H' h => ?_)
      · obtain ⟨_, _, _, sm'⟩ := h
        exact SqL.of (sm' _ _ hl3)
      · obtain ⟨y5, y6, rfl, sm'⟩ := h
        have hj : j < pre.length := by
          have := (List.getElem?_eq_some_iff.mp hx).1
          rw [List.length_map] at this
          exact this
        obtain rfl : x = .int pre[j] := by
          rw [List.getElem?_map, List.getElem?_eq_getElem hj] at hx
          exact (Option.some.inj hx).symm
        generalize ho : pre[j] = other
        -- beside = [..]
        refine ⟨_, rfl, _, rfl, (i : Int), rfl, a, _, rfl, sm'.seq (sl.seq (st.seq (sm.seq hS))), fun l2 nl2 => ⟨l2, rfl, ⟨_, .inl (.inl upd_same)⟩, fun D nD => ?_⟩⟩
        rw [cut_map, hpre] at nD ⊢
        refine lc_list (xs := pre.map V.int) (fun t H' => Same (upd H4 l2 (.lst (pre.map V.int))) H' ∧ t ≤ pre.length ∧ H' D = some (.lst (((pre.take t).filter fun x => decide (btw key other x)).map V.int)))
          ⟨same_upd nD, Nat.zero_le _, by rw [upd_same]; rfl⟩ (fun t H' _ h => SqL.of (h.1 _ _ upd_same)) (fun t x H' hx h => ?_) (fun H' h => ?_)
        · obtain ⟨sm2, _, hD⟩ := h
          have ht : t < pre.length := by
            have := (List.getElem?_eq_some_iff.mp hx).1
            rw [List.length_map] at this
            exact this
          obtain rfl : x = .int pre[t] := by
            rw [List.getElem?_map, List.getElem?_eq_getElem ht] at hx
            exact (Option.some.inj hx).symm
          have hb := btw_iff key other pre[t]
          have hts := take_snoc ht
          generalize pre[t] = one at hb hts
          refine ⟨rfl, _, rfl, _, rfl, _, _, rfl, _, rfl, _, _, rfl, rfl, _, rfl, ?_⟩
          have keep : decide (btw key other one) = true → ∃ acc, H' D = some (.lst acc) ∧ acc.length < sizeLine ∧ Same (upd H4 l2 (.lst (pre.map V.int))) (upd H' D (.lst (acc ++ [.int one]))) ∧ t + 1 ≤ pre.length ∧ (upd H' D (.lst (acc ++ [.int one]))) D = some (.lst (((pre.take (t + 1)).filter fun x => decide (btw key other x)).map V.int)) := fun e => by
            refine ⟨_, hD, ?_, same_put sm2 nD, ht, ?_⟩
            · rw [List.length_map]
              have h1 := List.length_filter_le (fun x => decide (btw key other x)) (pre.take t)
              have h2 := List.length_take_le t pre
              exact small1000 (by omega)
            · rw [upd_same, hts, List.filter_append, List.map_append]
              simp [e]
          have drop : decide (btw key other one) = false → Same (upd H4 l2 (.lst (pre.map V.int))) H' ∧ t + 1 ≤ pre.length ∧ H' D = some (.lst (((pre.take (t + 1)).filter fun x => decide (btw key other x)).map V.int)) := fun e => by
            refine ⟨sm2, ht, ?_⟩
            rw [hts, List.filter_append, List.map_append]
            simp [e, hD]
          refine ite2 (fun c1 => ?_) (fun c1 => ?_)
          · refine ⟨_, rfl, _, rfl, _, _, rfl, _, _, rfl, rfl, _, rfl, ite2 (fun c2 => ?_) (fun c2 => ?_)⟩
            · exact ⟨_, rfl, keep (by rw [← hb]; exact Bool.and_eq_true_iff.mpr ⟨c1, c2⟩)⟩
            · exact drop (by rw [← hb, Bool.and_eq_false_iff]; exact .inr (Bool.eq_false_iff.mpr c2))
          · refine ⟨_, rfl, iteF ?_⟩
            exact drop (by rw [← hb, Bool.and_eq_false_iff]; exact .inl (Bool.eq_false_iff.mpr c1))
        · obtain ⟨sm2, _, hD⟩ := h
          rw [List.length_map, List.take_length] at hD
          have sm3 : Same H3 H' := sm'.trans ((same_upd nl2).trans sm2)
          -- if beside == []
          refine ⟨_, rfl, Nat.zero_le _, fun l5 n5 => ?_⟩
          have s5 : Same H' (upd H' l5 (.lst [])) := same_upd n5
          refine ⟨_, _, dp_ints (SqL.of (s5 _ _ hD)), dp_ints (ns := []) (SqL.of upd_same), shaped_ints _, shaped_ints _, _, rfl, ?_⟩
          rw [eqv_ints, clear_filter]
          have hts := take_snoc hj
          rw [ho] at hts
          have hls : lastClear pre key (pre.take (j + 1)) = if clear pre key other then some other else lastClear pre key (pre.take j) := by rw [hts, lastClear_snoc]
          refine ite2 (fun c => ?_) (fun c => ?_)
          · refine ⟨_, rfl, some (.int other), some (.ref D), ?_, sm3.trans s5⟩
            rw [hls, if_pos c]
            rfl
          · refine ⟨some (.int other), some (.ref D), ?_, sm3.trans s5⟩
            rw [hls, if_neg c]
            rfl
      · obtain ⟨y5, y6, rfl, sm'⟩ := h
        rw [List.length_map, List.take_length, hlp]
        have smA : Same H H' := sm.trans (st.trans (sl.trans sm'))
        have hpA : H' p = some (.dK (parsR pre.reverse)) := sm' _ _ (sl _ _ (st _ _ hp))
        refine ⟨_, rfl, _, rfl, _, rfl, p, _, rfl, DPut.k (k := Sum.inl key) hpA (by rw [parsR_len, List.length_reverse]; exact small1000 (by omega)), _, _, _, _, _, rfl, same_put smA np, hi', ?_⟩
        rw [upd_same, putK_new _ (parsR_new hkr), take_rev hi', hpre, hk]
        rfl
    · obtain ⟨_, _, _, _, _, rfl, sm, _, hp⟩ := h
      rw [List.length_map, List.take_length] at hp
      exact ⟨_, rfl, q _ p sm np hp⟩
end
end T1
namespace T1
open PySem PySem.Spec PyProof.Rows L2 TK BstM DatI
abbrev sOrd : Stmt := topS 16
abbrev sTree : Stmt := topS 18
theorem scOrd : FnScope ["_law_pool_here", "_law_most"] ["_law_pool_here", "_law_most"] (defScope sOrd) := ⟨rfl, rfl, rfl, by decide +kernel, rfl, by decide +kernel, by decide +kernel⟩
theorem scTree : FnScope ["_law_order_here", "_law_parents_here", "_law_key"] ["_law_order_here"] (defScope sTree) := ⟨rfl, rfl, rfl, by decide +kernel, rfl, by decide +kernel, by decide +kernel⟩
theorem keys_order {ks ms : List Int} (h : Keys ks) (p : ms.Perm ks) (hl : ks.length ≤ 40) : Order ms where
  nd := p.nodup_iff.mpr (h.lt.imp fun z => Int.ne_of_lt z)
  rng := fun k hk => h.rng k (p.mem_iff.mp hk)
  len := by rw [p.length_eq]; exact hl
section
variable {P : Program} {w : World} {K : PySem.W.Frag} {mg : Str → Option Value} {base : Heap}
/-! ### _law_order -/
def spOrd : Sp := fun vs H Q _ => ∃ (p : Addr) (m : Nat), vs = [.ref p, .int m] ∧ PoolAt H p ∧ m ≤ 40 ∧ ∀ H' q ns, Kp p H H' → H q = none → q ≠ p → H' q = some (.lst (ns.map V.int)) → Order ns → ns.length ≤ m → Q (.ref q) H'
theorem ok_ord {f fD fK fS : Addr} {fd fdD fdK fdS : FuncData} {k : Nat} (F : Fun K "_law_order" "_law_order" sOrd f fd) (FD : Fun K "_law_draw" "_law_draw" sDraw fD fdD) (FK : Fun K "_law_keys" "_law_keys" sKeys fK fdK) (FS : Fun K "_law_shuffle" "_law_shuffle" sShuf fS fdS)
    (gD : mg "_law_draw" = some (.ref fD)) (gK : mg "_law_keys" = some (.ref fK)) (gS : mg "_law_shuffle" = some (.ref fS)) (T : LNames mg) :
    FnOk P w K mg base CX0 (k + 3) f fd ["_law_pool_here", "_law_most"] spOrd := by
  have GD : FnOk P w K mg base CX0 (k + 2) fD fdD ["_law_pool_here", "_law_count"] spDraw := ok_draw FD
  have GK : FnOk P w K mg base CX0 (k + 2) fK fdK ["_law_pool_here", "_law_many"] spKeys := ok_keys FK FD gD T
  have GS : FnOk P w K mg base CX0 (k + 2) fS fdS ["_law_pool_here", "_law_some"] spShuf := ok_shuf FS FD gD T
  have bD := FD.binds (ps := ["_law_pool_here", "_law_count"]) fun _ _ _ _ _ _ us hl => match us, hl with | [_, _], _ => rfl
  have bK := FK.binds (ps := ["_law_pool_here", "_law_many"]) fun _ _ _ _ _ _ us hl => match us, hl with | [_, _], _ => rfl
  have bS := FS.binds (ps := ["_law_pool_here", "_law_some"]) fun _ _ _ _ _ _ us hl => match us, hl with | [_, _], _ => rfl
  refine F.ok scOrd (fun vs H Q E h => ?_) (fun cdv A outer s H vs Q E hr h => ?_)
  · obtain ⟨p, m, rfl, _⟩ := h
    rfl
  · obtain ⟨p, m, rfl, hp, hm, q⟩ := h
    refine ⟨_, pss_one (ps_ret (pe_call GS hr (by rfl) gS FS.kp bS .nil pass0 (pa_cons (pv 0) (pa_cons (pe_call GK hr (by rfl) gK FK.kp bK .nil pass0 (pa_cons (pv 0) (pa_cons
      (pe_call GD hr (by rfl) gD FD.kp bD .nil pass0 (pa_cons (pv 0) (pa_cons (pe_op op_add (pv 1) pe_int) pa_nil))) pa_nil))) pa_nil)))), ?_⟩
    refine ⟨_, rfl, _, rfl, _, rfl, _, rfl, _, _, rfl, rfl, p, (m : Int) + 1, rfl, hp, by omega, by omega, fun H1 r k1 r0 r1 => ?_⟩
    obtain ⟨n, rfl⟩ : ∃ n : Nat, r = (n : Int) := ⟨r.toNat, by omega⟩
    refine ⟨p, n, rfl, k1.1, by omega, fun H2 b ks k2 nb hbp hb hks hkl => ?_⟩
    refine ⟨p, b, ks, rfl, k2.1, hbp, hb, by omega, fun H3 c ms k3 nc hcp hc pm => ?_⟩
    have k12 := k1.trans k2
    refine q H3 c ms (k12.trans k3) (k12.free hp nc) hcp hc (keys_order hks pm (by omega)) (by rw [pm.length_eq]; omega)
/-! ### _law_tree -/
def spTree (K : PySem.W.Frag) : Sp := fun vs H Q _ => ∃ (a : Addr) (ns : List Int), vs = [.ref a] ∧ SqL K H a (ns.map V.int) ∧ ns.Nodup ∧ ns.length ≤ 40 ∧ ∀ H' p ms, Same H H' → H p = none → Asc ms ns → TreeAt H' p (pairsOf ns ms) → Q (.ref p) H'
theorem ok_tree {f fP : Addr} {fd fdP : FuncData} {k : Nat} (F : Fun K "_law_tree" "_law_tree" sTree f fd) (FP : Fun K "_law_parents" "_law_parents" sLPar fP fdP) (gP : mg "_law_parents" = some (.ref fP)) (T : PNames mg) :
    FnOk P w K mg base CX0 (k + 2) f fd ["_law_order_here"] (spTree K) := by
  have GP : FnOk P w K mg base CX0 (k + 1) fP fdP ["_law_order_here"] (spPar K) := ok_lpar FP T
  have bP := FP.binds (ps := ["_law_order_here"]) fun _ _ _ _ _ _ us hl => match us, hl with | [_], _ => rfl
  refine F.ok scTree (fun vs H Q E h => ?_) (fun cdv A outer s H vs Q E hr h => ?_)
  · obtain ⟨a, ns, rfl, _⟩ := h
    rfl
  · obtain ⟨a, ns, rfl, ha, hnd, hlen, q⟩ := h
    have hu := hu_of hr
    refine ⟨_, pss_cons (ps_set (i := 1) scTree.nd rfl (.inr rfl) (pe_call GP hr (by rfl) gP FP.kp bP .nil pass0 (pa_cons (pv 0) pa_nil)))
      (pss_one (ps_ret (pe_callTy call_tuple_of (by rfl) T.tuple (by decide +kernel) (pa_cons
        (pe_lc (own := [("_law_key", 2)]) (g := gName 2) (tt := tYes) rfl scTree.nd (pi_list (pe_callB (call_sortedDI rfl) (by rfl) T.sorted (by decide +kernel) (pa_cons (pv 1) pa_nil)))
          (blkOk_by (N := ["_law_order_here", "_law_parents_here", "_law_key"]) (sc := defScope sTree) (by decide +kernel)) (fun _ _ _ _ _ => pg_name (i := 2) scTree.nd rfl (Or.inl rfl)) (fun _ _ _ _ _ => pts_nil)
          (fun _ _ _ _ _ => pe_tup (pa_cons (pv 2) (pa_cons (pe_dget hu (pv 1) (pv 2) (fun _ _ => rfl)) pa_nil)))) pa_nil)))), ?_⟩
    refine ⟨_, rfl, a, ns, rfl, ha, hnd, hlen, fun H2 pp s2 np hp => ?_⟩
    have hkeys : (parsR ns.reverse).map (·.1) = ns.map Sum.inl := by rw [parsR_keys, List.map_reverse, List.reverse_reverse]
    refine ⟨_, rfl, pp, _, ns, rfl, .inl hp, hkeys, by omega, fun ms sa perm asc nsa => ⟨sa, rfl, ⟨_, .inl (.inl upd_same)⟩, ?_⟩⟩
    intro D nD
    have hml : ms.length ≤ 40 := by rw [perm.length_eq]; exact hlen
    have s3 : Same H2 (upd H2 sa (.lst (ms.map V.int))) := same_upd nsa
    refine lc_list (xs := ms.map V.int) (fun i H' => ∃ as : List Addr, as.length = i ∧ Same (upd H2 sa (.lst (ms.map V.int))) H' ∧ H' D = some (.lst (as.map V.ref)) ∧ PairsAt H' as (pairsOf ns (ms.take i)))
      ⟨[], rfl, same_upd nD, by rw [upd_same]; rfl, .nil⟩ (fun i H' _ h => ?_) (fun i x H' hx h => ?_) (fun H' h => ?_)
    · obtain ⟨_, _, sm, _⟩ := h
      exact SqL.of (sm _ _ upd_same)
    · obtain ⟨as, hl, sm, hD, hP⟩ := h
      have hi : i < ms.length := by
        have := (List.getElem?_eq_some_iff.mp hx).1
        rw [List.length_map] at this
        exact this
      obtain rfl : x = .int ms[i] := by
        rw [List.getElem?_map, List.getElem?_eq_getElem hi] at hx
        exact (Option.some.inj hx).symm
      have hin : ms[i] ∈ ns.reverse := List.mem_reverse.mpr (perm.mem_iff.mp (List.getElem_mem hi))
      have hrn : ns.reverse.Nodup := by
        have := nodup_take hnd ns.length
        rw [List.take_length] at this
        exact this
      refine ⟨rfl, ?_⟩
      unfold tYes
      refine iteT ?_
      refine ⟨_, rfl, _, rfl, _, rfl, pp, oV (parentIn ns.reverse ms[i]), rfl, ?_, by show 2 ≤ sizeLine; decide, fun t nt => ⟨as.map V.ref, ?_, ?_, as ++ [t], ?_, ?_, ?_, ?_⟩⟩
      · have e := DGet.k (k := Sum.inl ms[i]) (sm _ _ (s3 _ _ hp))
        rw [parsR_val hrn hin] at e
        exact e
      · rw [upd_ne (ne_of_none hD nt)]
        exact hD
      · rw [List.length_map, hl]
        exact small1000 (by omega)
      · rw [List.length_append, hl]
        rfl
      · exact same_put (sm.trans (same_upd nt)) nD
      · rw [upd_same, List.map_append]
        rfl
      · have ht : (ms.take (i + 1)) = ms.take i ++ [ms[i]] := List.take_succ_eq_append_getElem hi
        unfold pairsOf
        rw [ht, List.map_append]
        have nDt : t ≠ D := fun e => by rw [← e] at hD; rw [hD] at nt; cases nt
        refine paired_snoc (Paired.mapP hP fun b y z => ?_) ?_
        · have hbD : b ≠ D := ne_of z hD (fun z => nomatch z)
          rw [upd_ne hbD, upd_ne (ne_of_none z nt)]
          exact z
        · rw [upd_ne nDt, upd_same]
    · obtain ⟨as, _, sm, hD, hP⟩ := h
      rw [List.length_map, List.take_length] at hP
      refine ⟨D, _, rfl, .inl ⟨SqL.of hD, fun l nl => ?_⟩⟩
      have s12 : Same H H' := s2.trans (s3.trans sm)
      exact q _ l ms (s12.trans (same_upd nl)) (s12.free nl) ⟨perm, asc⟩ ⟨as, upd_same, hP.keep (same_upd nl)⟩
end
end T1
/-! repr of data, where no repr is under way; the law's own frame, of which that is known -/
namespace L2
open PySem PySem.Spec PyProof.Rows
theorem call_reprD {X : Cx} (hg : X.A.guards = some []) (hu : X.A.units + 64 < cLine) : CallR X (.builtin "repr") (fun xs H Q => ∃ a d, xs = [.ref a] ∧ Dp X.K H (.ref a) d ∧ d.showable = true ∧ d.hasDict = false ∧ d.depth ≤ 20 ∧ d.shown.length ≤ sizeLine ∧ Q (.str d.shown) H) := by
  intro pins s σ H xs us Q I r h
  obtain ⟨a, d, rfl, hd, hs, hn, hdp, hz, q⟩ := h
  obtain ⟨u, rfl, ru⟩ := vals1 r
  obtain rfl : u = Value.ref a := ru
  obtain ⟨as, rd⟩ := Dp.reads I d _ _ hd rfl
  exact repr_of_reads' rd hs (fun z => by rw [hn] at z; cases z) hg (by omega) (fun _ _ e => e) (fun h' t tk hk => ⟨.str d.shown, H, I.kept hk, ⟨t, rfl⟩, q⟩) hz
/-- the law's def, called by the row itself -/
theorem top_run {CX : CXT} {P : Program} {w : World} {K : PySem.W.Frag} {mg : Str → Option Value} {base : Heap} {k : Nat} {f : Addr} {x qual y : Str} {st : Stmt} {fd : FuncData} {N : List Str} {s : Shared} {H : Hp} {u : Value} {v : V} {Q : VK} {E : XK}
    (F : Fun K x qual st f fd) (S : FnScope N [y] (defScope st)) (hr : Room (k + 1) callerA) (e0 : Env0 P w K mg base callerA [] s H) (hb : BindsTo s fd ⟨[u], []⟩ ([y].zip [u])) (r : RelV v u)
    (body : ∀ (cdv : Value), Room k (callerA.deeper (envOfC qual (defScope st) s.heap.objs.size f cdv)) → ∃ t, PSs (cxOf CX P w K mg base N qual (defScope st) f cdv callerA [] s H E) (defBody st) t ∧ t { nx := fun _ H' => Q .non H', rt := Q } (start N [v]) H) :
    codeAny (model P w) callerA (.call (.ref f) ⟨[u], []⟩) (CR CX [] P w H s Q E) s := by
  obtain ⟨oc, od, kV, doc, pm, an, cdv, ct, osl, rfl, lk, hcd⟩ := F.ex
  have kin : K.In s.heap := e0.mod.kin.keeps fun b o e => (e0.bs b o e).1
  have nolim : s.heap.NoLimit := e0.mod.nolimit.keeps fun b o e => (e0.bs b o e).1
  have kinds : ∀ z ∈ [y].zip [u], (defScope st).names.lookup z.1 = some .local ∨ ((defScope st).names.lookup z.1 = some .cell ∧ ((cellsFrom (s.heap.objs.size + 1) (defScope st).names []).lookup z.1).isSome = true) := fun z hz => by
    obtain ⟨n, c⟩ := z
    rcases S.par n (List.of_mem_zip hz).1 with e | e
    · exact Or.inl e
    · exact Or.inr ⟨e, PySem.W.cellsFrom_some _ _ _ (Or.inl e)⟩
  refine codeAny_call_function (Room.depth hr) (kin _ _ lk) rfl S.co S.gen rfl (PySem.W.codeRec_of kin hcd) (hb _ _ _ _ (wpAny_newFunctionEnv_cells S.kind kinds fun env he s1 ic => ?_))
  subst he
  refine ⟨nolim.keeps ic.toInCall.keep, codeAny_func ?_⟩
  obtain ⟨t, ht, hq⟩ := body cdv (Room.deeper hr _)
  have I0 : Inv (cxOf CX P w K mg base N qual (defScope st) f cdv callerA [] s H E) [] (start N [v]) H s1 := inv_start S hr.hd e0 rfl (.cons r .nil) ic
  refine wpAny_mono (ht.run [] s1 (start N [v]) H _ I0 hq) (fun fl s' hs => ?_) fun _ _ z => z
  have done : ∀ {σ' : St} {H' : Hp} {a : V} {b : Value}, Inv (cxOf CX P w K mg base N qual (defScope st) f cdv callerA [] s H E) [] σ' H' s' → RelV a b → Q a H' → CE [] P w H s Q b s' := fun {σ' H' a b} J ra qa => ⟨a, H', J.os, J.bare, J.base, J.hok, ra, qa⟩
  match fl, hs with
  | .ret b, ⟨a, σ', H', J, ra, qa⟩ => exact done J ra qa
  | .next, ⟨σ', H', J, qa⟩ => exact done (a := V.non) (b := Value.none) J rfl qa
  | .brk, ⟨_, _, _, z⟩ => exact z.elim
  | .cont, ⟨_, _, _, z⟩ => exact z.elim
end L2
namespace L2
open PySem PySem.Spec PyProof.Rows
/-- the head, where the law's promise is wanted at the row's own call alone -/
theorem top_call {P : Program} {w : World} {K : PySem.W.Frag} {mg mb : Str → Option Value} {fa a : Addr} {s₁ : Shared} {vs : List Value} {ns : List Int}
    (kin : K.In s₁.heap) (gl : s₁.heap.Ns mainGlobals mg) (bl : s₁.heap.Ns builtinsNs mb) (bb : ∀ y : Str, y ≠ "__name__" → mb y = bootBuiltins y) (lim : s₁.heap.NoLimit) (gens : s₁.gens = #[])
    (obj : s₁.heap.get? a = some { cls := .type "list", data := .seq vs.toArray }) (hin : IntsAre vs ns) (small : ns.length ≤ sizeLine)
    (go : ∀ (base : Heap) (H : Hp), K.In base → base.Ns mainGlobals mg → SqL K H a (ns.map V.int) → Env0 P w K mg base callerA [] s₁ H →
      codeAny (model P w) callerA (.call (.ref fa) ⟨[.ref a], []⟩) (CR CX0 [] P w H s₁ (fun v _ => v = .bl true) (fun _ _ _ => False)) s₁) :
    codeAny (model P w) callerA (.call (.ref fa) ⟨[.ref a], []⟩) (fun r t => r = .ok (.ret (.bool true)) ∧ OldK s₁.heap t.heap ∧ t.os = s₁.os ∧ AllBare t.gens) s₁ := by
  have hvals := vals_ints hin
  have vlen := hin.length
  have main : ∀ H : Hp, Only H → SqL K H a (ns.map V.int) → HOk P w H s₁.heap → (∀ c, H c ≠ none → c = a) → (H a ≠ none → K.lookup a = none) →
      codeAny (model P w) callerA (.call (.ref fa) ⟨[.ref a], []⟩) (fun r t => r = .ok (.ret (.bool true)) ∧ OldK s₁.heap t.heap ∧ t.os = s₁.os ∧ AllBare t.gens) s₁ := by
    intro H only sq ok onlyA noK
    have low : ∀ {c : Addr} {o : Obj}, s₁.heap.get? c = some o → H c = none → (hidT s₁.heap H).get? c = some o := fun e n => hidT_get e n
    have dictFree : ∀ {c : Addr} {o : Obj} {es : Array DictEntry} {ep : Nat}, s₁.heap.get? c = some o → o.data = .dict es ep → H c = none := fun {c o es ep} e d => by
      cases z : H c with
      | none => rfl
      | some t =>
        have ca : c = a := onlyA c (by rw [z]; exact fun n => nomatch n)
        rw [ca, obj] at e
        obtain rfl := Option.some.inj e
        exact absurd (show Data.seq vs.toArray _ = Data.dict es ep from d) (fun n => nomatch n)
    have keepNs : ∀ {c : Addr} {m : Str → Option Value}, s₁.heap.Ns c m → (hidT s₁.heap H).Ns c m := fun {c m} n => by
      obtain ⟨o, es, ep, e, d, rest⟩ := n
      exact ⟨o, es, ep, low e (dictFree e d), d, rest⟩
    have kinB : K.In (hidT s₁.heap H) := fun c o e => by
      refine low (kin c o e) ?_
      cases z : H c with
      | none => rfl
      | some t =>
        have ca : c = a := onlyA c (by rw [z]; exact fun n => nomatch n)
        rw [ca] at e z
        rw [noK (by rw [z]; exact fun n => nomatch n)] at e
        cases e
    have modu : Mod K mg (hidT s₁.heap H) := by
      obtain ⟨mc, l1, l2⟩ := lim
      exact ⟨kinB, keepNs gl, ⟨mb, keepNs bl, bb⟩, ⟨mc, keepNs l1, l2⟩⟩
    have env : Env0 P w K mg (hidT s₁.heap H) callerA [] s₁ H := ⟨rfl, modu, fun c o e => of_hidT e, Nat.le_of_eq (hidT_size _ _), trivial, fun c hc => absurd (show c ∈ ([] : List Addr) from hc) List.not_mem_nil, ok, .of_eq gens⟩
    refine codeAny_mono (go _ H kinB (keepNs gl) sq env) fun r t h => ?_
    match r, h with
    | .error e, z => exact (show False from z).elim
    | .ok .next, z => exact (show False from z).elim
    | .ok .brk, z => exact (show False from z).elim
    | .ok .cont, z => exact (show False from z).elim
    | .ok (.ret u), ⟨v, H', os, bare, un, ok', rv, hv⟩ =>
      obtain rfl : v = .bl true := hv
      obtain rfl : u = Value.bool true := rv
      refine ⟨rfl, OldK.of_keep fun c o e => ?_, os, bare⟩
      cases z : H c with
      | none => exact un.keep c o e z (fun n => absurd (show c ∈ ([] : List Addr) from n) List.not_mem_nil) (by simp)
      | some t0 =>
        rcases only c with n | ⟨ob, xs, n⟩
        · rw [z] at n
          cases n
        · obtain ⟨e1, _⟩ := ok c _ n
          obtain ⟨e2, _⟩ := ok' c _ (un.frzs c ob _ n)
          rw [e] at e1
          obtain rfl := Option.some.inj e1
          exact e2
  cases hk : K.lookup a with
  | some o =>
    have e := kin a o hk
    rw [obj] at e
    obtain rfl := Option.some.inj e
    exact main (fun _ => none) (fun _ => Or.inl rfl) (Or.inr ⟨_, vs.toArray, _, hk, rfl, rfl, rfl, by rw [List.size_toArray, vlen]; exact small, by simpa using hvals⟩) (fun c u z => absurd (show (none : Option HO) = some u from z) (fun n => nomatch n)) (fun c z => absurd rfl z) (fun z => absurd rfl z)
  | none =>
    refine main (fun c => if c = a then some (.frz { cls := .type "list", data := .seq vs.toArray } (.lst (ns.map V.int))) else none) (fun c => ?_) (Or.inl (Or.inr ⟨_, if_pos rfl⟩)) (fun c u z => ?_) (fun c z => ?_) (fun _ => hk)
    · by_cases ca : c = a
      · exact Or.inr ⟨_, _, if_pos ca⟩
      · exact Or.inl (if_neg ca)
    · by_cases ca : c = a
      · obtain rfl := Option.some.inj ((if_pos ca).symm.trans z)
        rw [ca]
        exact ⟨obj, by rw [List.length_map]; exact small, vs, _, hvals, obj⟩
      · exact absurd ((if_neg ca).symm.trans z) (fun n => nomatch n)
    · by_cases ca : c = a
      · exact ca
      · exact absurd (if_neg ca) z
/-- the goal that the head leaves, from the law's body at the row's own call -/
theorem walk_top {l : PySem.W.OpenLaw} {n : Nat} {q : Program} {loose : List Str} {XP : (Str → Option Value) → Heap → Prop} {YP : World → Heap → Prop} {d : DefRec} {K : Params → PySem.W.Frag}
    (hn : l.most = some n) (hn2 : n ≤ sizeLine) (hdf : d.params.defaults = []) (hY : ∀ (w : World) (h : Heap), YP w h → (K w.params).In h)
    (F : ∀ (w : World) (mg : Str → Option Value) (fa : Addr) (h : Heap), (K w.params).In h → h.Ns mainGlobals mg → mg d.name = some (.ref fa) →
      ∀ (base : Heap) (s : Shared) (H : Hp) (a : Addr) (ns : List Int), (K w.params).In base → base.Ns mainGlobals mg → ns.length ≤ n → SqL (K w.params) H a (ns.map V.int) → Env0 l.prog w (K w.params) mg base callerA [] s H →
        codeAny (model l.prog w) callerA (.call (.ref fa) ⟨[.ref a], []⟩) (CR CX0 [] l.prog w H s (fun v _ => v = .bl true) (fun _ _ _ => False)) s) :
    PySem.W.WalkO q loose XP YP l.row.toRowW d [] (fun f vs => PySem.call f vs) := by
  refine Att.attach_call hn hdf fun w s₀ s₁ mg mb fa o pm cd doc a vs ns G Y _ _ _ hmg hobj hints hlen hg => ?_
  exact top_call (hY w _ Y) G.T.g G.T.b G.T.builtins G.T.nolimit hg hobj hints (Nat.le_trans hlen hn2) fun base H kb nb sq e0 => F w mg fa _ (hY w _ Y) G.T.g hmg base s₁ H a ns kb nb hlen sq e0
end L2
/-! the tuples of a tree as data -/
namespace TreeD
open PySem PySem.Spec PyProof.Rows L2
def oD : Option Int → PyData
  | none => .none
  | some i => .int i
def pairD (x : Int × Option Int) : PyData := .tuple [.int x.1, oD x.2]
def treeD (l : List (Int × Option Int)) : PyData := .tuple (l.map pairD)
def Sm (i : Int) : Prop := i.natAbs < 2 ^ 64
def SmP (x : Int × Option Int) : Prop := Sm x.1 ∧ ∀ m, x.2 = some m → Sm m
theorem log_sm {i : Int} (h : Sm i) : i.natAbs.log2 < 64 := PySem.Flt.log2_lt_of (by decide) h
theorem canLay_oD (o : Option Int) : (oD o).canLay0 = true := by cases o <;> simp [oD, PyData.canLay0]
theorem canLay_pairs : ∀ l : List (Int × Option Int), PyData.canLayAll0 (l.map pairD) = true
  | [] => by simp [PyData.canLayAll0]
  | x :: l => by
    rw [List.map_cons, PyData.canLayAll0, canLay_pairs l]
    simp [pairD, PyData.canLay0, PyData.canLayAll0, canLay_oD]
theorem depth_oD (o : Option Int) : (oD o).depth = 0 := by cases o <;> simp [oD, PyData.depth]
theorem depth_pairs : ∀ l : List (Int × Option Int), PyData.depthAll (l.map pairD) ≤ 1
  | [] => by simp [PyData.depthAll]
  | x :: l => by
    rw [List.map_cons, PyData.depthAll]
    have h1 := depth_pairs l
    have h2 : (pairD x).depth = 1 := by simp [pairD, PyData.depth, PyData.depthAll, depth_oD]
    omega
theorem depth_tree (l : List (Int × Option Int)) : (treeD l).depth ≤ 2 := by
  unfold treeD
  rw [PyData.depth]
  have := depth_pairs l
  omega
theorem shaped_tree (l : List (Int × Option Int)) : SeqAt.shaped (treeD l) = true := by
  unfold SeqAt.shaped
  rw [Bool.and_eq_true]
  refine ⟨?_, decide_eq_true ?_⟩
  · unfold treeD
    rw [PyData.canLay0]
    exact canLay_pairs l
  · have := depth_tree l
    omega
theorem noDict_tree (l : List (Int × Option Int)) : (treeD l).hasDict = false := PyData.hasDict_of_canLay _ (by unfold treeD; rw [PyData.canLay0]; exact canLay_pairs l)
theorem show_int {i : Int} (h : Sm i) : PyData.showable (.int i) = true := by
  have := log_sm h
  simp only [PyData.showable, decide_eq_true_eq]
  omega
theorem show_oD {x : Int × Option Int} (h : SmP x) : (oD x.2).showable = true := by
  obtain ⟨k, o⟩ := x
  cases o with
  | none => simp [oD, PyData.showable]
  | some m => exact show_int (h.2 m rfl)
theorem show_pairs : ∀ l : List (Int × Option Int), (∀ x ∈ l, SmP x) → PyData.showableAll (l.map pairD) = true
  | [], _ => by simp [PyData.showableAll]
  | x :: l, h => by
    rw [List.map_cons, PyData.showableAll, show_pairs l fun y hy => h y (List.mem_cons_of_mem _ hy)]
    have hx := h x List.mem_cons_self
    simp only [pairD, PyData.showable, PyData.showableAll, show_int hx.1, show_oD hx, Bool.and_true, Bool.and_self]
    have := show_int hx.1
    simp only [PyData.showable] at this
    simp only [this]
theorem show_tree {l : List (Int × Option Int)} (h : ∀ x ∈ l, SmP x) : (treeD l).showable = true := by
  unfold treeD
  rw [PyData.showable]
  exact show_pairs l h
theorem short_int {i : Int} (h : Sm i) : PyData.leavesShort 1921 (.int i) = true := by
  have := log_sm h
  simp only [PyData.leavesShort, decide_eq_true_eq]
  exact int_text_len_1921 (by omega)
theorem short_oD {x : Int × Option Int} (h : SmP x) : PyData.leavesShort 1921 (oD x.2) = true := by
  obtain ⟨k, o⟩ := x
  cases o with
  | none => simp [oD, PyData.leavesShort]
  | some m => exact short_int (h.2 m rfl)
theorem weight_int {i : Int} (h : Sm i) : PyData.weight (.int i) ≤ 64 := by
  have := log_sm h
  simp only [PyData.weight]
  split <;> omega
theorem weight_oD {x : Int × Option Int} (h : SmP x) : (oD x.2).weight ≤ 64 := by
  obtain ⟨k, o⟩ := x
  cases o with
  | none => simp [oD, PyData.weight]
  | some m => exact weight_int (h.2 m rfl)
theorem short_pairs : ∀ l : List (Int × Option Int), (∀ x ∈ l, SmP x) → PyData.leavesShortAll 1921 (l.map pairD) = true ∧ PyData.weightAll (l.map pairD) ≤ 131 * l.length
  | [], _ => by simp [PyData.leavesShortAll, PyData.weightAll]
  | x :: l, h => by
    obtain ⟨h1, h2⟩ := short_pairs l fun y hy => h y (List.mem_cons_of_mem _ hy)
    have hx := h x List.mem_cons_self
    refine ⟨?_, ?_⟩
    · rw [List.map_cons, PyData.leavesShortAll, h1, Bool.and_true]
      unfold pairD
      rw [PyData.leavesShort, PyData.leavesShortAll, short_int hx.1, PyData.leavesShortAll, short_oD hx, PyData.leavesShortAll]
      rfl
    · rw [List.map_cons, PyData.weightAll, List.length_cons]
      have e : (pairD x).weight ≤ 130 := by
        unfold pairD
        rw [PyData.weight, PyData.weightAll, PyData.weightAll, PyData.weightAll]
        have := weight_int hx.1
        have := weight_oD hx
        omega
      omega
theorem len_tree {l : List (Int × Option Int)} (h : ∀ x ∈ l, SmP x) (hl : l.length ≤ 41) : (treeD l).shown.length ≤ sizeLine := by
  obtain ⟨h1, h2⟩ := short_pairs l h
  have hs : PyData.leavesShort 1921 (treeD l) = true := by
    unfold treeD
    rw [PyData.leavesShort]
    exact h1
  have := PyData.shown_le 1921 (by decide) (treeD l) hs
  have hw : (treeD l).weight ≤ 131 * l.length := by
    unfold treeD
    rw [PyData.weight]
    exact h2
  rw [sizeLine_eq]
  have h3 : (1921 + 2) * (treeD l).weight ≤ (1921 + 2) * (131 * 41) := Nat.mul_le_mul_left _ (by omega)
  omega
end TreeD
namespace T1
open PySem PySem.Spec PyProof.Rows L2 TK BstM DatI TreeD
abbrev sLaw : Stmt := topS 19
theorem scLaw : FnScope ["_law_script", "_law_k", "_law_pool_here", "_law_order_here", "_law_saved"] ["_law_script"] (defScope sLaw) := ⟨rfl, rfl, rfl, by decide +kernel, rfl, by decide +kernel, by decide +kernel⟩
structure ANames (mg : Str → Option Value) : Prop extends Names mg, LNames mg, PNames mg where
  repr : mg "repr" = none
theorem dp_o {K : PySem.W.Frag} {H : Hp} (o : Option Int) : Dp K H (oV o) (oD o) := by
  cases o with
  | none => exact .non
  | some i => exact .int i
theorem dp_pairs {K : PySem.W.Frag} {H : Hp} : ∀ {as : List Addr} {l : List (Int × Option Int)}, PairsAt H as l → DpAll K H (as.map V.ref) (l.map TreeD.pairD)
  | _, _, .nil => .nil
  | _, _, .cons h t => .cons (.tup (SqT.of h) (.cons (.int _) (.cons (dp_o _) .nil))) (dp_pairs t)
theorem dp_tree {K : PySem.W.Frag} {H : Hp} {p : Addr} {l : List (Int × Option Int)} (h : TreeAt H p l) : Dp K H (.ref p) (treeD l) := by
  obtain ⟨as, h1, h2⟩ := h
  exact .tup (SqT.of h1) (dp_pairs h2)
theorem parentIn_mem : ∀ {r : List Int} {k m : Int}, parentIn r k = some m → m ∈ r
  | [], _, _, h => by simp [parentIn] at h
  | x :: r, k, m, h => by
    unfold parentIn at h
    split at h
    · exact List.mem_cons_of_mem _ (placeR_mem r x m h)
    · exact List.mem_cons_of_mem _ (parentIn_mem h)
theorem inR_sm {i : Int} (h : InR i) : Sm i := by
  obtain ⟨h1, h2⟩ := h
  show i.natAbs < 2 ^ 64
  omega
theorem sm_pairs {ns ms : List Int} (ho : Order ns) (hm : Asc ms ns) : ∀ x ∈ pairsOf ns ms, SmP x := by
  intro x hx
  unfold pairsOf at hx
  obtain ⟨k, hk, rfl⟩ := List.mem_map.mp hx
  refine ⟨inR_sm (ho.rng k (hm.1.mem_iff.mp hk)), fun m e => inR_sm (ho.rng m ?_)⟩
  exact List.mem_reverse.mp (parentIn_mem e)
theorem asc_one {a b ns : List Int} (h1 : Asc a ns) (h2 : Asc b ns) : a = b := (h1.1.trans h2.1.symm).eq_of_pairwise (fun _ _ _ _ => Int.le_antisymm) h1.2 h2.2
theorem order_nil : Order [] := ⟨List.nodup_nil, fun k hk => (nomatch hk), Nat.zero_le _⟩
section
variable {P : Program} {w : World} {K : PySem.W.Frag} {mg : Str → Option Value} {base : Heap}
theorem ok_law {f fB fPo fO fT : Addr} {fd fdB fdPo fdO fdT : FuncData} {s : Shared} {H : Hp} {a : Addr} {ns : List Int} (F : Fun K "law" "law" sLaw f fd)
    (FB : Fun K "build" "build" sBuild fB fdB) (GB : FnOk P w K mg base CX0 3 fB fdB ["order"] (spBuild K)) (gB : mg "build" = some (.ref fB))
    (FPo : Fun K "_law_pool" "_law_pool" sPool fPo fdPo) (GPo : FnOk P w K mg base CX0 3 fPo fdPo ["_law_script", "_law_k"] (spPool K)) (gPo : mg "_law_pool" = some (.ref fPo))
    (FO : Fun K "_law_order" "_law_order" sOrd fO fdO) (GO : FnOk P w K mg base CX0 3 fO fdO ["_law_pool_here", "_law_most"] spOrd) (gO : mg "_law_order" = some (.ref fO))
    (FT : Fun K "_law_tree" "_law_tree" sTree fT fdT) (GT : FnOk P w K mg base CX0 3 fT fdT ["_law_order_here"] (spTree K)) (gT : mg "_law_tree" = some (.ref fT))
    (T : ANames mg) (hb : BindsTo s fd ⟨[.ref a], []⟩ [("_law_script", .ref a)]) (hS : SqL K H a (ns.map V.int)) (hlen : ns.length ≤ 63) (e0 : Env0 P w K mg base callerA [] s H) :
    codeAny (model P w) callerA (.call (.ref f) ⟨[.ref a], []⟩) (CR CX0 [] P w H s (fun v _ => v = .bl true) (fun _ _ _ => False)) s := by
  refine top_run (k := 3) (v := .ref a) F scLaw ⟨rfl, by decide, by decide⟩ e0 hb rfl fun cdv hr => ?_
  have bB := FB.binds (ps := ["order"]) fun _ _ _ _ _ _ us hl => match us, hl with | [_], _ => rfl
  have bPo := FPo.binds (ps := ["_law_script", "_law_k"]) fun _ _ _ _ _ _ us hl => match us, hl with | [_, _], _ => rfl
  have bO := FO.binds (ps := ["_law_pool_here", "_law_most"]) fun _ _ _ _ _ _ us hl => match us, hl with | [_, _], _ => rfl
  have bT := FT.binds (ps := ["_law_order_here"]) fun _ _ _ _ _ _ us hl => match us, hl with | [_], _ => rfl
  refine ⟨_, PSs.nox (pss_cons (ps_if (pt_cmpR (op_neD hr.units) (pe_call GB hr (by rfl) gB FB.kp bB .nil pass0 (pa_cons (pe_lst pa_nil) pa_nil)) (pe_tup pa_nil) (nomark _)) (pss_one ps_never) pss_nil)
    (pss_cons (ps_for PassesOwn.never rfl (pi_range1 rfl T.range (pa_cons (pe_callB (call_max2 rfl) (by rfl) T.max (by decide +kernel) (pa_cons pe_int (pa_cons (pe_callB (call_min2 rfl) (by rfl) T.min (by decide +kernel) (pa_cons pe_int (pa_cons (pe_callB call_len_seq (by rfl) T.toNames.len PySem.boot_len (pa_cons (pv 0) pa_nil)) pa_nil))) pa_nil))) pa_nil)) (pg_name (i := 1) scLaw.nd rfl (Or.inl rfl))
      (pss_cons (ps_set (i := 2) scLaw.nd rfl (.inl rfl) (pe_call GPo hr (by rfl) gPo FPo.kp bPo .nil pass0 (pa_cons (pv 0) (pa_cons (pv 1) pa_nil))))
      (pss_cons (ps_set (i := 3) scLaw.nd rfl (.inl rfl) (pe_call GO hr (by rfl) gO FO.kp bO .nil pass0 (pa_cons (pv 2) (pa_cons pe_int pa_nil))))
      (pss_cons (ps_set (i := 4) scLaw.nd rfl (.inl rfl) (pe_callTy call_list_of (by rfl) T.toNames.list (by decide +kernel) (pa_cons (pv 3) pa_nil)))
      (pss_one (ps_if (PW.pt (pw_or (pt_cmpR op_ne (pe_callB (call_reprD rfl hr.units) (by rfl) T.repr (by decide +kernel) (pa_cons (pe_call GB hr (by rfl) gB FB.kp bB .nil pass0 (pa_cons (pv 3) pa_nil)) pa_nil))
          (pe_callB (call_reprD rfl hr.units) (by rfl) T.repr (by decide +kernel) (pa_cons (pe_call GT hr (by rfl) gT FT.kp bT .nil pass0 (pa_cons (pv 3) pa_nil)) pa_nil)) (nomark _))
        (pw_or1 (pt_cmpR (op_neD hr.units) (pv 3) (pv 4) (nomark _))))) (pss_one ps_never) pss_nil))))))
    (pss_one (ps_ret pe_bl)))), ?_⟩
  -- build([]) != ()
  refine ⟨Nat.zero_le _, fun l0 n0 => ?_⟩
  have s0 : Same H (upd H l0 (.lst [])) := same_upd n0
  refine ⟨l0, [], rfl, upd_same, order_nil, fun H1 p1 m1 sm1 np1 as1 t1 => ?_⟩
  have em : m1 = [] := List.Perm.eq_nil as1.1
  subst em
  refine ⟨Nat.zero_le _, fun p2 np2 => ?_⟩
  have s2 : Same H1 (upd H1 p2 (.tup [])) := same_upd np2
  refine ⟨_, _, dp_tree (t1.keep s2), .tup (ds := []) (SqT.of upd_same) .nil, shaped_tree _, shaped_tree [], _, rfl, ?_⟩
  have ee : PyData.eqv (treeD (pairsOf [] [])) (.tuple []) = true := by
    show PyData.eqv (.tuple []) (.tuple []) = true
    rw [PyData.eqv, PyData.eqvAll]
  rw [ee]
  refine iteF ?_
  have sA : Same H (upd H1 p2 (.tup [])) := s0.trans (sm1.trans s2)
  generalize upd H1 p2 (.tup []) = H2 at sA ⊢
  refine ⟨_, rfl, a, _, rfl, .inl (sA.seq hS), _, _, rfl, _, _, rfl, ?_⟩
  rw [List.length_map]
  obtain ⟨m, hm, hm8⟩ : ∃ m : Nat, (m : Int) = (if (if (ns.length : Int) < 8 then (ns.length : Int) else 8) > 1 then (if (ns.length : Int) < 8 then (ns.length : Int) else 8) else 1) ∧ m ≤ 8 := by
    refine ⟨(if (if (ns.length : Int) < 8 then (ns.length : Int) else 8) > 1 then (if (ns.length : Int) < 8 then (ns.length : Int) else 8) else 1).toNat, ?_, ?_⟩ <;> (repeat' split) <;> omega
  refine ⟨(m : Int), by rw [hm], by omega, by omega, ?_⟩
  refine for_range (lo := 0) (n := m) (fun i σ H' => ∃ y1 y2 y3 y4, σ = [some (.ref a), y1, y2, y3, y4] ∧ Same H H') ⟨_, _, _, _, rfl, sA⟩ (fun i σ H' hi h => ?_) (fun σ H' h => ?_)
  · obtain ⟨y1, y2, y3, y4, rfl, sm⟩ := h
    refine ⟨_, rfl, _, rfl, a, ns, i, (by show [V.ref a, V.int (0 + (i : Int))] = _; rw [Int.zero_add]), sm.seq hS, hlen, by omega, fun H3 p s3 np hp => ?_⟩
    refine ⟨_, rfl, p, 20, rfl, hp, by decide, fun H4 o ks k4 no op ho hks hkl => ?_⟩
    have sm3 : Same H H3 := sm.trans s3
    have np0 : H p = none := sm.free np
    have sm4 : Same H H4 := fun b x e => k4.2 b x (ne_of_none e np0) (sm3 b x e)
    refine ⟨_, rfl, o, _, rfl, .inl (SqL.of ho), fun c nc => ?_⟩
    have s5 : Same H4 (upd H4 c (.lst (ks.map V.int))) := same_upd nc
    have hc5 : (upd H4 c (.lst (ks.map V.int))) c = some (.lst (ks.map V.int)) := upd_same
    generalize upd H4 c (.lst (ks.map V.int)) = H5 at s5 hc5 ⊢
    have ho5 := s5 _ _ ho
    refine ⟨_, rfl, o, ks, rfl, ho5, hks, fun H6 t6 m6 s6 _ as6 tr6 => ?_⟩
    have hl6 : (pairsOf ks m6).length ≤ 41 := by
      unfold pairsOf
      rw [List.length_map, as6.1.length_eq]
      omega
    refine ⟨t6, _, rfl, dp_tree tr6, show_tree (sm_pairs hks as6), noDict_tree _, (by have := depth_tree (pairsOf ks m6); omega), len_tree (sm_pairs hks as6) hl6, ?_⟩
    have ho6 := s6 _ _ ho5
    refine ⟨_, rfl, o, ks, rfl, SqL.of ho6, hks.nd, hks.len, fun H7 t7 m7 s7 _ as7 tr7 => ?_⟩
    obtain rfl : m6 = m7 := asc_one as6 as7
    refine ⟨t7, _, rfl, dp_tree tr7, show_tree (sm_pairs hks as6), noDict_tree _, (by have := depth_tree (pairsOf ks m6); omega), len_tree (sm_pairs hks as6) hl6, ?_⟩
    refine ⟨rfl, _, rfl, ?_⟩
    rw [decide_eq_true rfl]
    refine iteF ?_
    refine ⟨_, rfl, _, rfl, _, _, dp_ints (SqL.of (s7 _ _ ho6)), dp_ints (SqL.of (s7 _ _ (s6 _ _ hc5))), shaped_ints _, shaped_ints _, _, rfl, ?_⟩
    rw [eqv_ints, decide_eq_true rfl]
    refine iteF ?_
    exact ⟨_, _, _, _, rfl, sm4.trans (s5.trans (s6.trans s7))⟩
  · exact rfl
end
end T1
namespace T1
open PySem PySem.Spec PyProof.Rows L2 TK BstM DatI TreeD
theorem all_mk {w : World} {K : PySem.W.Frag} {h : Heap} {mg : Str → Option Value} {fa : Addr} (X : K.In h) (G : h.Ns mainGlobals mg) (hfa : mg "law" = some (.ref fa))
    {f0 : Addr} {od0 an0 : Option Addr} {sl0 : Array (Option Value)} {oc0 kV0 dc0 pm0 cd0 ct0 : Value} {f1 : Addr} {od1 an1 : Option Addr} {sl1 : Array (Option Value)} {oc1 kV1 dc1 pm1 cd1 ct1 : Value} {f2 : Addr} {od2 an2 : Option Addr} {sl2 : Array (Option Value)} {oc2 kV2 dc2 pm2 cd2 ct2 : Value} {f3 : Addr} {od3 an3 : Option Addr} {sl3 : Array (Option Value)} {oc3 kV3 dc3 pm3 cd3 ct3 : Value} {f4 : Addr} {od4 an4 : Option Addr} {sl4 : Array (Option Value)} {oc4 kV4 dc4 pm4 cd4 ct4 : Value} {f5 : Addr} {od5 an5 : Option Addr} {sl5 : Array (Option Value)} {oc5 kV5 dc5 pm5 cd5 ct5 : Value} {f6 : Addr} {od6 an6 : Option Addr} {sl6 : Array (Option Value)} {oc6 kV6 dc6 pm6 cd6 ct6 : Value} {f7 : Addr} {od7 an7 : Option Addr} {sl7 : Array (Option Value)} {oc7 kV7 dc7 pm7 cd7 ct7 : Value} {f8 : Addr} {od8 an8 : Option Addr} {sl8 : Array (Option Value)} {oc8 kV8 dc8 pm8 cd8 ct8 : Value} {f9 : Addr} {od9 an9 : Option Addr} {sl9 : Array (Option Value)} {oc9 kV9 dc9 pm9 cd9 ct9 : Value} {f10 : Addr} {od10 an10 : Option Addr} {sl10 : Array (Option Value)} {oc10 kV10 dc10 pm10 cd10 ct10 : Value} {f11 : Addr} {od11 an11 : Option Addr} {sl11 : Array (Option Value)} {oc11 kV11 dc11 pm11 cd11 ct11 : Value}
    (a0 : PySem.W.nsIn K mainGlobals "is_key" = some (some (.ref f0))) (l0 : K.lookup f0 = some ⟨oc0, od0, .func (PySem.W.fnOf "is_key" "is_key" (defArgs sIsKey) (defBody sIsKey) (defScope sIsKey) .none kV0 dc0 pm0 an0 cd0 ct0), sl0⟩) (c0 : PySem.W.codeIn K cd0 "is_key" = true) (k0 : PySem.W.keepIn K (.ref f0) = true)
    (a1 : PySem.W.nsIn K mainGlobals "check_order" = some (some (.ref f1))) (l1 : K.lookup f1 = some ⟨oc1, od1, .func (PySem.W.fnOf "check_order" "check_order" (defArgs sCheck) (defBody sCheck) (defScope sCheck) .none kV1 dc1 pm1 an1 cd1 ct1), sl1⟩) (c1 : PySem.W.codeIn K cd1 "check_order" = true) (k1 : PySem.W.keepIn K (.ref f1) = true)
    (a2 : PySem.W.nsIn K mainGlobals "build" = some (some (.ref f2))) (l2 : K.lookup f2 = some ⟨oc2, od2, .func (PySem.W.fnOf "build" "build" (defArgs sBuild) (defBody sBuild) (defScope sBuild) .none kV2 dc2 pm2 an2 cd2 ct2), sl2⟩) (c2 : PySem.W.codeIn K cd2 "build" = true) (k2 : PySem.W.keepIn K (.ref f2) = true)
    (a3 : PySem.W.nsIn K mainGlobals "parents_after" = some (some (.ref f3))) (l3 : K.lookup f3 = some ⟨oc3, od3, .func (PySem.W.fnOf "parents_after" "parents_after" (defArgs sPar) (defBody sPar) (defScope sPar) .none kV3 dc3 pm3 an3 cd3 ct3), sl3⟩) (c3 : PySem.W.codeIn K cd3 "parents_after" = true) (k3 : PySem.W.keepIn K (.ref f3) = true)
    (a4 : PySem.W.nsIn K mainGlobals "_law_pool" = some (some (.ref f4))) (l4 : K.lookup f4 = some ⟨oc4, od4, .func (PySem.W.fnOf "_law_pool" "_law_pool" (defArgs sPool) (defBody sPool) (defScope sPool) .none kV4 dc4 pm4 an4 cd4 ct4), sl4⟩) (c4 : PySem.W.codeIn K cd4 "_law_pool" = true) (k4 : PySem.W.keepIn K (.ref f4) = true)
    (a5 : PySem.W.nsIn K mainGlobals "_law_draw" = some (some (.ref f5))) (l5 : K.lookup f5 = some ⟨oc5, od5, .func (PySem.W.fnOf "_law_draw" "_law_draw" (defArgs sDraw) (defBody sDraw) (defScope sDraw) .none kV5 dc5 pm5 an5 cd5 ct5), sl5⟩) (c5 : PySem.W.codeIn K cd5 "_law_draw" = true) (k5 : PySem.W.keepIn K (.ref f5) = true)
    (a6 : PySem.W.nsIn K mainGlobals "_law_keys" = some (some (.ref f6))) (l6 : K.lookup f6 = some ⟨oc6, od6, .func (PySem.W.fnOf "_law_keys" "_law_keys" (defArgs sKeys) (defBody sKeys) (defScope sKeys) .none kV6 dc6 pm6 an6 cd6 ct6), sl6⟩) (c6 : PySem.W.codeIn K cd6 "_law_keys" = true) (k6 : PySem.W.keepIn K (.ref f6) = true)
    (a7 : PySem.W.nsIn K mainGlobals "_law_shuffle" = some (some (.ref f7))) (l7 : K.lookup f7 = some ⟨oc7, od7, .func (PySem.W.fnOf "_law_shuffle" "_law_shuffle" (defArgs sShuf) (defBody sShuf) (defScope sShuf) .none kV7 dc7 pm7 an7 cd7 ct7), sl7⟩) (c7 : PySem.W.codeIn K cd7 "_law_shuffle" = true) (k7 : PySem.W.keepIn K (.ref f7) = true)
    (a8 : PySem.W.nsIn K mainGlobals "_law_order" = some (some (.ref f8))) (l8 : K.lookup f8 = some ⟨oc8, od8, .func (PySem.W.fnOf "_law_order" "_law_order" (defArgs sOrd) (defBody sOrd) (defScope sOrd) .none kV8 dc8 pm8 an8 cd8 ct8), sl8⟩) (c8 : PySem.W.codeIn K cd8 "_law_order" = true) (k8 : PySem.W.keepIn K (.ref f8) = true)
    (a9 : PySem.W.nsIn K mainGlobals "_law_parents" = some (some (.ref f9))) (l9 : K.lookup f9 = some ⟨oc9, od9, .func (PySem.W.fnOf "_law_parents" "_law_parents" (defArgs sLPar) (defBody sLPar) (defScope sLPar) .none kV9 dc9 pm9 an9 cd9 ct9), sl9⟩) (c9 : PySem.W.codeIn K cd9 "_law_parents" = true) (k9 : PySem.W.keepIn K (.ref f9) = true)
    (a10 : PySem.W.nsIn K mainGlobals "_law_tree" = some (some (.ref f10))) (l10 : K.lookup f10 = some ⟨oc10, od10, .func (PySem.W.fnOf "_law_tree" "_law_tree" (defArgs sTree) (defBody sTree) (defScope sTree) .none kV10 dc10 pm10 an10 cd10 ct10), sl10⟩) (c10 : PySem.W.codeIn K cd10 "_law_tree" = true) (k10 : PySem.W.keepIn K (.ref f10) = true)
    (a11 : PySem.W.nsIn K mainGlobals "law" = some (some (.ref f11))) (l11 : K.lookup f11 = some ⟨oc11, od11, .func (PySem.W.fnOf "law" "law" (defArgs sLaw) (defBody sLaw) (defScope sLaw) .none kV11 dc11 pm11 an11 cd11 ct11), sl11⟩) (c11 : PySem.W.codeIn K cd11 "law" = true) (k11 : PySem.W.keepIn K (.ref f11) = true)
    (z0 : PySem.W.nsIn K mainGlobals "isinstance" = some none)
    (z1 : PySem.W.nsIn K mainGlobals "int" = some none)
    (z2 : PySem.W.nsIn K mainGlobals "bool" = some none)
    (z3 : PySem.W.nsIn K mainGlobals "list" = some none)
    (z4 : PySem.W.nsIn K mainGlobals "len" = some none)
    (z5 : PySem.W.nsIn K mainGlobals "set" = some none)
    (z6 : PySem.W.nsIn K mainGlobals "enumerate" = some none)
    (z7 : PySem.W.nsIn K mainGlobals "sorted" = some none)
    (z8 : PySem.W.nsIn K mainGlobals "tuple" = some none)
    (z9 : PySem.W.nsIn K mainGlobals "abs" = some none)
    (z10 : PySem.W.nsIn K mainGlobals "range" = some none)
    (z11 : PySem.W.nsIn K mainGlobals "min" = some none)
    (z12 : PySem.W.nsIn K mainGlobals "max" = some none)
    (z13 : PySem.W.nsIn K mainGlobals "repr" = some none)
    {t1 t2 : Tok} (m1 : PySem.W.nsIn K mainGlobals "MAX_KEYS" = some (some (.int 40 t1))) (m2 : PySem.W.nsIn K mainGlobals "MAX_KEY" = some (some (.int (10 ^ 18) t2)))
    {P : Program} {base : Heap} {s : Shared} {H : Hp} {a : Addr} {ns : List Int} (hlen : ns.length ≤ 63) (hS : SqL K H a (ns.map V.int)) (e0 : Env0 P w K mg base callerA [] s H) :
    codeAny (model P w) callerA (.call (.ref fa) ⟨[.ref a], []⟩) (CR CX0 [] P w H s (fun v _ => v = .bl true) (fun _ _ _ => False)) s := by
  have e := hfa.symm.trans (PySem.W.mg_of X G a11)
  cases e
  have F0 := fun_mk (st := sIsKey) l0 c0 k0
  have g0 := PySem.W.mg_of X G a0
  have F1 := fun_mk (st := sCheck) l1 c1 k1
  have g1 := PySem.W.mg_of X G a1
  have F2 := fun_mk (st := sBuild) l2 c2 k2
  have g2 := PySem.W.mg_of X G a2
  have F3 := fun_mk (st := sPar) l3 c3 k3
  have g3 := PySem.W.mg_of X G a3
  have F4 := fun_mk (st := sPool) l4 c4 k4
  have g4 := PySem.W.mg_of X G a4
  have F5 := fun_mk (st := sDraw) l5 c5 k5
  have g5 := PySem.W.mg_of X G a5
  have F6 := fun_mk (st := sKeys) l6 c6 k6
  have g6 := PySem.W.mg_of X G a6
  have F7 := fun_mk (st := sShuf) l7 c7 k7
  have g7 := PySem.W.mg_of X G a7
  have F8 := fun_mk (st := sOrd) l8 c8 k8
  have g8 := PySem.W.mg_of X G a8
  have F9 := fun_mk (st := sLPar) l9 c9 k9
  have g9 := PySem.W.mg_of X G a9
  have F10 := fun_mk (st := sTree) l10 c10 k10
  have g10 := PySem.W.mg_of X G a10
  have F11 := fun_mk (st := sLaw) l11 c11 k11
  have g11 := PySem.W.mg_of X G a11
  have T : ANames mg := { isi := (PySem.W.mg_none_of X G z0), toLNames := { abs := (PySem.W.mg_none_of X G z9), int := (PySem.W.mg_none_of X G z1), list := (PySem.W.mg_none_of X G z3), len := (PySem.W.mg_none_of X G z4), range := (PySem.W.mg_none_of X G z10) }, bool := (PySem.W.mg_none_of X G z2), set := (PySem.W.mg_none_of X G z5), toPNames := { enum := (PySem.W.mg_none_of X G z6), min := (PySem.W.mg_none_of X G z11), max := (PySem.W.mg_none_of X G z12), tuple := (PySem.W.mg_none_of X G z8), sorted := (PySem.W.mg_none_of X G z7) }, repr := (PySem.W.mg_none_of X G z13), maxKeys := ⟨t1, PySem.W.mg_of X G m1⟩, maxKey := ⟨t2, PySem.W.mg_of X G m2⟩ }
  have N := T.toNames
  have LN := T.toLNames
  have PN := T.toPNames
  exact ok_law F11 F2 (ok_build F2 F1 F3 F0 g1 g3 g0 N) g2 F4 (ok_pool F4 LN) g4 F8 (ok_ord F8 F5 F6 F7 g5 g6 g7 LN) g8 F10 (ok_tree F10 F9 g9 PN) g10 T (.of_eq rfl) hS hlen e0
end T1
open PySem PySem.W PyProof.Rows
set_option maxHeartbeats 0 in
theorem PySem.Challenge.cw_insertionorders_k02_trees_built_holds : PySem.Challenge.rw_insertionorders_k02_trees_built.Holds := by
  w_on; o_law; k_head; (case hw => w_witness2)
  k_fill
  refine L2.walk_top (l := PySem.Challenge.rw_insertionorders_k02_trees_built) (n := 63) rfl (by decide) rfl (fun w h Y => PySem.W.kIn_of Y) ?F
  case F =>
    intro w mg fa h KX G hmg base s H a ns kb nb hl hS e0
    refine' T1.all_mk KX G hmg ?a0 ?l0 ?c0 ?k0 ?a1 ?l1 ?c1 ?k1 ?a2 ?l2 ?c2 ?k2 ?a3 ?l3 ?c3 ?k3 ?a4 ?l4 ?c4 ?k4 ?a5 ?l5 ?c5 ?k5 ?a6 ?l6 ?c6 ?k6 ?a7 ?l7 ?c7 ?k7 ?a8 ?l8 ?c8 ?k8 ?a9 ?l9 ?c9 ?k9 ?a10 ?l10 ?c10 ?k10 ?a11 ?l11 ?c11 ?k11 ?z0 ?z1 ?z2 ?z3 ?z4 ?z5 ?z6 ?z7 ?z8 ?z9 ?z10 ?z11 ?z12 ?z13 ?m1 ?m2 hl hS e0
    (case a0 => k_is); (case l0 => k_is); (case c0 => k_is); (case k0 => k_is); (case a1 => k_is); (case l1 => k_is); (case c1 => k_is); (case k1 => k_is); (case a2 => k_is); (case l2 => k_is); (case c2 => k_is); (case k2 => k_is); (case a3 => k_is); (case l3 => k_is); (case c3 => k_is); (case k3 => k_is); (case a4 => k_is); (case l4 => k_is); (case c4 => k_is); (case k4 => k_is); (case a5 => k_is); (case l5 => k_is); (case c5 => k_is); (case k5 => k_is); (case a6 => k_is); (case l6 => k_is); (case c6 => k_is); (case k6 => k_is); (case a7 => k_is); (case l7 => k_is); (case c7 => k_is); (case k7 => k_is); (case a8 => k_is); (case l8 => k_is); (case c8 => k_is); (case k8 => k_is); (case a9 => k_is); (case l9 => k_is); (case c9 => k_is); (case k9 => k_is); (case a10 => k_is); (case l10 => k_is); (case c10 => k_is); (case k10 => k_is); (case a11 => k_is); (case l11 => k_is); (case c11 => k_is); (case k11 => k_is); (case z0 => k_is); (case z1 => k_is); (case z2 => k_is); (case z3 => k_is); (case z4 => k_is); (case z5 => k_is); (case z6 => k_is); (case z7 => k_is); (case z8 => k_is); (case z9 => k_is); (case z10 => k_is); (case z11 => k_is); (case z12 => k_is); (case z13 => k_is); (case m1 => k_is); (case m2 => k_is)
